import PyProof.Rows.All
import Wide.All
import OpenK.AllK
import Wide.FinOn
import Lean
import PyProof.EqAt
import PyProof.EqKinds
import PyProof.TupleCall
import PyProof.NeKinds
import KE.LcSums
import PyProof.ZipIter
import PyProof.Rows.SumAny
import PyProof.ExcClass3
import PyProof.ExcBaseAll.ValueError
import OpenK.KOwn
import PyProof.EnumFor
import PyProof.EnumMake
import PyProof.TupleIter
import KE.KIsAll
import PyProof.ExcArgsOwn
import PyProof.NsDelKeeps
import KE.KDictOf
import PyProof.AttrMissHeap
import PyProof.AutoSeq1
import KE.KRevIter
import PyProof.TupleOfSeq
import PyProof.CollectIter
import PyProof.TupleOfStr
import PyProof.SliceStr2
import PyProof.StrWalks
import KE.KSortTup
import PyProof.Rows.SetFrom
import PyProof.SetRoads
import PyProof.Rows.SortStr
import PyProof.Walks
import PyProof.CollectWalk
import PyProof.ReprRoads
import PyProof.CallFns
import PyProof.StrCalls2
import PyProof.StrBlock
import PyProof.DictItemsLoops
import KE.KPairComp
import PyProof.DictWalks
import KE.KDictList
import KE.KEqDict
import PyProof.Rows.DictMethods
import PyProof.AutoListH
import PyProof.Rows.StrKeys3
import PyProof.Rows.CountFlat
import PyProof.Rows.Tup
import KE.KLam
import PySem.Challenge.RW_likefill_k32_steps
set_option Elab.async false
set_option linter.all false
set_option maxRecDepth 100000
set_option compiler.extract_closed false
set_option maxHeartbeats 4000000
open Lean Parser.Term in
local macro_rules
  | `(fun $bs:funBinder* => $b) => do
    let c (x : Syntax) := x.isOfKind ``anonymousCtor
    let some i := bs.findIdx? (c ·.raw) | Macro.throwUnsupported
    let xs := bs[i]!.raw[1].getSepArgs
    let n := xs.size
    if n < 3 || xs.any (fun x => !(x.isIdent || x.isOfKind ``hole || c x) || x.getId == `rfl) then Macro.throwUnsupported
    let mut r := b
    if i + 1 < bs.size then r ← `(fun $(bs.extract (i+1) bs.size)* => $b)
    let mut g : TSyntax ``funBinder := ⟨xs[n-1]!⟩
    for k in [0:n-1] do
      let h := mkIdent (← Macro.addMacroScope (.mkSimple s!"h{k}"))
      r ← `(($h).elim fun $(⟨xs[n-2-k]!⟩) $g => clear% $h; $r)
      g := ⟨h⟩
    `(fun $(bs.extract 0 i)* $g => $r)
abbrev aa:=@PySem.wpAny_bind
abbrev ab:=@if_neg
abbrev ac:=@Nat.le_refl
abbrev ae:=@List.length_map
abbrev af:=@PySem.Heap.get?_push_of_some
abbrev ag:=@List.size_toArray
abbrev ai:=@if_pos
abbrev aj:=@Nat.lt_of_le_of_lt
abbrev ak:=@PySem.wpAny_pure
abbrev al:=@Nat.le_trans
abbrev ao:=@List.length_cons
abbrev aq:=@List.length_append
abbrev ar:=@PySem.Heap.get?_push_size
abbrev au:=@Nat.zero_le
abbrev av:=@List.mem_cons_self
abbrev aw:=@List.getElem?_eq_getElem
abbrev ax:=@List.map_append
abbrev ay:=@List.mem_cons_of_mem
abbrev az:=@PySem.Heap.lt_size
abbrev ba:=@List.map_cons
abbrev bc:=@Nat.lt_of_lt_of_le
abbrev bd:=@PySem.wpAny_loadPart'
abbrev bf:=@decide_eq_true
abbrev bg:=@List.mem_of_getElem?
abbrev bh:=@decide_eq_false
abbrev bi:=@List.append_nil
abbrev bj:=@Nat.ne_of_lt
abbrev bn:=@Array.length_toList
abbrev bo:=@of_decide_eq_true
abbrev bq:=@List.length_take
abbrev br:=@List.take_length
abbrev bu:=@List.length_drop
abbrev bv:=@List.mem_append_right
abbrev bw:=@List.getElem?_map
abbrev bx:=@Nat.add_le_add_left
abbrev bz:=@List.lookup_cons
abbrev bI:=@Nat.lt_irrefl
abbrev bS:=@Bool.eq_iff_iff
abbrev ca:=@PySem.wpAny_newObj_type
abbrev cb:=@List.mem_append_left
abbrev cf:=@PySem.wpAny_holding
abbrev cg:=@List.length_singleton
abbrev ci:=@List.append_assoc
abbrev cj:=@Int.toNat_natCast
abbrev ck:=@List.getElem?_eq_some_iff
abbrev cm:=@List.mem_singleton
abbrev cp:=@List.mem_cons
abbrev cr:=@List.mem_append
abbrev cs:=@List.mem_map
abbrev cu:=@beq_eq_false_iff_ne
abbrev cw:=@List.nodup_cons
abbrev cx:=@List.mem_filter
abbrev cy:=@PySem.W.mg_of
abbrev cz:=@PySem.W.mg_none_of
abbrev c4:=@PySem.F.plainAttrs_list
abbrev da:=@PySem.F.type_list_append
abbrev db:=@PySem.F.slot_list_append
abbrev dc:=@PySem.PassesOwn.never
noncomputable abbrev c9:=List (PySem.Addr×PySem.Obj)
noncomputable abbrev cL:=PySem.Value->PySem.Shared->Prop
noncomputable abbrev cW:=List (PySem.Str×Int)
noncomputable abbrev bE:=List (PySem.Str×PySem.Str)
noncomputable abbrev cC:=List PySem.Value
noncomputable abbrev aV:=List PySem.Str
noncomputable abbrev iH:=PySem.Str->Option PySem.Value
noncomputable abbrev jW:=List PySem.Expr
noncomputable abbrev gN:=Array PySem.Value
noncomputable abbrev LL:=Nat->PySem.Heap->Prop
theorem aI {a b:Prop}(x:a)(y:b):a/\b:=⟨x,y⟩
namespace L2
open PySem
noncomputable def yG (s:Stmt)(j:Nat):Stmt:=match s with
 | .ClassDef _ _ _ body _ _ _ _ _ _ _=>body.getD j (.Pass ⟨0,0,0,0⟩)
 | _=>.Pass ⟨0,0,0,0⟩
noncomputable def cT (s:Stmt):Arguments:=match s with
 | .FunctionDef _ a _ _ _ _ _ _ _ _=>a
 | _=>{posonlyargs:=[],args:=[],vararg:=none,kwonlyargs:=[],kw_defaults:=[],kwarg:=none,defaults:=[]}
noncomputable def cH (s:Stmt):List Stmt:=match s with
 | .FunctionDef _ _ b _ _ _ _ _ _ _=>b
 | _=>[]
noncomputable def aJ (s:Stmt):Scope:=match s with
 | .FunctionDef _ _ _ _ _ _ a _ _ _=>a
 | _=>{kind:=.function,names:=[],isGenerator:=false,isCoroutine:=false}
end L2
namespace Lw
open PySem L2
noncomputable def top (i:Nat):Stmt:=PySem.Challenge.pw_likefill_k32_steps.main.body.getD i (.Pass ⟨0,0,0,0⟩)
noncomputable abbrev jD:Stmt:=top 51
noncomputable abbrev eA:Stmt:=top 52
noncomputable abbrev jH:Stmt:=top 53
noncomputable abbrev fP:Stmt:=top 55
noncomputable abbrev qC:Stmt:=top 65
noncomputable abbrev j4:Stmt:=top 22
noncomputable abbrev kF:Stmt:=top 23
noncomputable abbrev gB:Stmt:=top 24
noncomputable abbrev oC:Stmt:=top 25
noncomputable abbrev iK:Stmt:=top 26
noncomputable abbrev h9:Stmt:=top 27
noncomputable abbrev oF:Stmt:=top 28
noncomputable abbrev kH:Stmt:=top 29
noncomputable abbrev fJ:Stmt:=top 30
noncomputable abbrev dJ:Stmt:=top 31
noncomputable abbrev cX:Stmt:=top 32
noncomputable abbrev xC:Stmt:=top 33
noncomputable abbrev j5:Stmt:=top 12
noncomputable abbrev kE:Stmt:=top 13
noncomputable abbrev eD:Stmt:=top 14
noncomputable abbrev eG:Stmt:=top 15
noncomputable abbrev eZ:Stmt:=top 16
noncomputable abbrev eE:Stmt:=top 17
noncomputable abbrev cJ:Stmt:=yG (top 11) 0
noncomputable abbrev eB:Stmt:=yG (top 11) 3
noncomputable abbrev dA:Stmt:=yG (top 11) 4
noncomputable abbrev jI:Stmt:=top 50
noncomputable abbrev iA:Stmt:=top 54
noncomputable abbrev dL:Stmt:=top 56
noncomputable abbrev dM:Stmt:=top 57
noncomputable abbrev rK:Stmt:=top 35
noncomputable abbrev kJ:Stmt:=top 34
noncomputable abbrev kG:Stmt:=top 37
noncomputable abbrev cY:Stmt:=top 38
noncomputable abbrev oG:Stmt:=top 39
noncomputable abbrev oE:Stmt:=top 40
noncomputable abbrev kD:Stmt:=top 41
noncomputable abbrev jC:Stmt:=top 42
noncomputable abbrev mG:Stmt:=top 43
noncomputable abbrev rL:Stmt:=top 44
noncomputable abbrev gC:Stmt:=top 46
noncomputable abbrev oB:Stmt:=top 47
noncomputable abbrev xD:Stmt:=top 48
noncomputable abbrev gF:Stmt:=top 59
noncomputable abbrev mH:Stmt:=top 58
noncomputable abbrev gE:Stmt:=top 60
noncomputable abbrev hU:Stmt:=top 61
noncomputable abbrev jF:Stmt:=top 62
noncomputable abbrev jG:Stmt:=top 63
noncomputable abbrev jE:Stmt:=top 64
end Lw
namespace Lw
open PySem PySem.W L2
noncomputable def eO (P:Params)(x:Str)(t:Tok)(v:Value):DictEntry:=⟨PyData.keyHash P x,.str x t,v⟩
noncomputable def eR (P:Params)(x:Str)(t:Tok)(a:Addr):DictEntry:=eO P x t (.ref a)
noncomputable def dO (es:List DictEntry)(n:Nat):Obj:=⟨.type "dict",none,.dict es.toArray n,#[]⟩
noncomputable def fO (x q:Str)(st:Stmt)(m:Str)(t:Tok)(c:Addr):Obj:=⟨.type "function",none,.func (fnOf x q (cT st) (cH st) (aJ st) .none .none .none (.str m t) none (.ref c) .none),#[]⟩
noncomputable def cO (x q:Str)(t1 a t3:Tok)(l n f:Int)(r1:Addr)(b:Bool)(g:Int)(d:Addr)(u v w:Value)(c:Addr)(e:Int)(t4:Tok):Obj :=
 ⟨.type "code",none,.fields #[.str x t1,.str q a,.str "/claim/cut.py" t3,.int l 0,.int n 0,.int 0 0,.int 0 0,.int f 0,.ref r1,.bool b,.int g 0,.ref d,u,v,w,.ref c,.int e 0,.int l 0,.str "/claim/cut.py" t4],#[]⟩
noncomputable def gO (x:Str)(st:Stmt)(m:Str)(t:Tok)(c:Addr):Obj:=fO x x st m t c
noncomputable def hO (x:Str)(t1 a t3:Tok)(l n f:Int)(r1:Addr)(b:Bool)(g:Int)(d:Addr)(u v w:Value)(c:Addr)(e:Int)(t4:Tok):Obj:=cO x x t1 a t3 l n f r1 b g d u v w c e t4
noncomputable def mO0:Str:="law_likefill_k32_steps"
noncomputable def mO1:Str:="likefill.signs"
noncomputable def mO2:Str:="likefill.steps"
noncomputable def mO3:Str:="likefill.terms"
noncomputable def K0 (P:Params):PySem.W.Frag :=
 (nat_lit 3,dO [eO P "__name__" 165 (.str "law_likefill_k32_steps" 606),eO P "__doc__" 166 .none,eO P "__package__" 167 .none,eO P "__loader__" 168 (.builtin "__main__.__loader__#opaque"),eO P "__spec__" 169 .none,eR P "__annotations__" 170 6,eR P "__builtins__" 171 4,eO P "__file__" 173 (.str "/claim/cut.py" 172),eO P "__cached__" 174 .none,eR P "LikeError" 206 24,eR P "NoSigns" 222 37,eR P "NoTerm" 238 49,eR P "NoStep" 254 61,eO P "LETTERS" 258 (.str "abcdefghijklmnopqrstuvwxyz" 257),eO P "LONGEST_NAME" 260 (.int 6 259),eO P "MOST_FIXED" 262 (.int 12 261),eO P "MOST_SUMS" 264 (.int 3 263),eO P "MOST_PARTS" 266 (.int 3 265),eR P "Signs" 326 106,eR P "is_name" 332 115,eR P "is_whole" 339 122,eR P "checked_pairs" 345 127,eR P "check_names" 351 132,eR P "check_parts" 357 137,eR P "check_noughts" 363 142,eO P "WISH_SIGNS" 367 (.str "abcdefghijklmnopqrstuvwxyz0123456789" 366),eO P "LONGEST_WISH" 369 (.int 9 368),eO P "DEEPEST" 371 (.int 1000 370),eR P "is_wish" 377 147,eR P "is_built" 385 154,eR P "check_term" 391 159,eR P "walked" 401 166,eR P "order_mark" 408 173,eR P "order_key" 414 178,eR P "opened" 422 185,eR P "flat_sum" 433 192,eR P "flat_of_parts" 443 199,eR P "from_within" 449 204,eR P "put_in" 459 211,eR P "flat" 467 218,eR P "flat_key" 475 225,eR P "alike" 484 232,eR P "in_pairs" 497 239,eR P "paired" 506 246,eR P "is_sum" 514 253,eR P "turned" 523 260,eR P "leftward" 532 267,eR P "rightward" 541 274,eR P "dropped" 550 281,eR P "added" 559 288,eR P "DEEDS" 570 289,eR P "check_step" 576 294,eR P "way_to" 587 301,eR P "done" 605 308,eR P "_law_from" 615 315,eR P "_law_take" 624 322,eR P "_law_signs" 630 327,eR P "_law_leaf" 639 334,eR P "_law_head" 645 339,eR P "_law_term" 661 346,eR P "_law_paired" 667 351,eR P "_law_listed" 673 356,eR P "_law_is" 681 363,eR P "_law_changed" 694 370,eR P "_law_stepped" 710 377,eR P "_law_places" 722 384,eR P "_law_some" 734 391,eR P "_law_part" 743 398,eR P "_law_step" 756 405,eR P "law" 777 412] 70) ::
 (nat_lit 23,dO [eO P "__module__" 196 (.str "likefill.errors" 187),eO P "__firstlineno__" 200 (.int 2 199),eR P "__static_attributes__" 201 22,eR P "__weakref__" 203 25,eO P "__doc__" 204 .none] 3) ::
 (nat_lit 24,⟨.type "type",none,.cls ⟨"LikeError",[(.type "ValueError")],[(.ref 24),(.type "ValueError"),(.type "Exception"),(.type "BaseException"),(.type "object")],23,"LikeError",true,[],[(.ref 37),(.ref 49),(.ref 61)],false,none,false⟩,#[some (.ref 15),none,some (.str "LikeError" 189),some (.str "LikeError" 197),some (.builtin "ValueError.__new__"),some (.bool true)]⟩) ::
 (nat_lit 36,dO [eO P "__module__" 214 (.str "likefill.errors" 187),eO P "__firstlineno__" 218 (.int 4 217),eR P "__static_attributes__" 219 35,eO P "__doc__" 220 .none] 2) ::
 (nat_lit 37,⟨.type "type",none,.cls ⟨"NoSigns",[(.ref 24)],[(.ref 37),(.ref 24),(.type "ValueError"),(.type "Exception"),(.type "BaseException"),(.type "object")],36,"NoSigns",true,[],[],false,none,false⟩,#[some (.ref 28),none,some (.str "NoSigns" 207),some (.str "NoSigns" 215),some (.builtin "ValueError.__new__"),some (.bool true)]⟩) ::
 (nat_lit 48,dO [eO P "__module__" 230 (.str "likefill.errors" 187),eO P "__firstlineno__" 234 (.int 6 233),eR P "__static_attributes__" 235 47,eO P "__doc__" 236 .none] 2) ::
 (nat_lit 49,⟨.type "type",none,.cls ⟨"NoTerm",[(.ref 24)],[(.ref 49),(.ref 24),(.type "ValueError"),(.type "Exception"),(.type "BaseException"),(.type "object")],48,"NoTerm",true,[],[],false,none,false⟩,#[some (.ref 40),none,some (.str "NoTerm" 223),some (.str "NoTerm" 231),some (.builtin "ValueError.__new__"),some (.bool true)]⟩) ::
 (nat_lit 60,dO [eO P "__module__" 246 (.str "likefill.errors" 187),eO P "__firstlineno__" 250 (.int 8 249),eR P "__static_attributes__" 251 59,eO P "__doc__" 252 .none] 2) ::
 (nat_lit 61,⟨.type "type",none,.cls ⟨"NoStep",[(.ref 24)],[(.ref 61),(.ref 24),(.type "ValueError"),(.type "Exception"),(.type "BaseException"),(.type "object")],60,"NoStep",true,[],[],false,none,false⟩,#[some (.ref 52),none,some (.str "NoStep" 239),some (.str "NoStep" 247),some (.builtin "ValueError.__new__"),some (.bool true)]⟩) ::
 (nat_lit 74,cO "__init__" "Signs.__init__" 279 280 281 18 3 3 71 true 181 72 .none .none .none 73 282 283) ::
 (nat_lit 75,fO "__init__" "Signs.__init__" cJ "likefill.signs" 255 74) ::
 (nat_lit 95,cO "many" "Signs.many" 299 300 301 35 2 3 90 true 181 91 .none (.ref 92) (.ref 93) 94 304 305) ::
 (nat_lit 96,fO "many" "Signs.many" eB "likefill.signs" 255 95) ::
 (nat_lit 102,cO "nought" "Signs.nought" 307 308 309 38 2 3 97 true 181 98 .none (.ref 99) (.ref 100) 101 312 313) ::
 (nat_lit 103,fO "nought" "Signs.nought" dA "likefill.signs" 255 102) ::
 (nat_lit 105,dO [eO P "__module__" 274 (.str "likefill.signs" 255),eO P "__firstlineno__" 278 (.int 16 277),eR P "__init__" 284 75,eR P "fixed" 291 82,eR P "sums" 298 89,eR P "many" 306 96,eR P "nought" 314 103,eR P "__static_attributes__" 319 104,eR P "__dict__" 321 107,eR P "__weakref__" 323 108,eO P "__doc__" 324 .none] 4) ::
 (nat_lit 106,⟨.type "type",none,.cls ⟨"Signs",[(.type "object")],[(.ref 106),(.type "object")],105,"Signs",true,[],[],false,none,false⟩,#[none,none,some (.str "Signs" 267),some (.str "Signs" 275),some (.builtin "object.__new__"),some (.bool true)]⟩) ::
 (nat_lit 114,hO "is_name" 327 328 329 40 1 3 111 true 181 112 .none .none .none 113 330 331) ::
 (nat_lit 115,gO "is_name" j5 mO1 255 114) ::
 (nat_lit 121,hO "is_whole" 333 334 335 44 1 3 116 true 181 117 .none (.ref 118) (.ref 119) 120 337 338) ::
 (nat_lit 122,gO "is_whole" kE mO1 255 121) ::
 (nat_lit 126,hO "checked_pairs" 340 341 342 46 3 3 123 true 181 124 .none .none .none 125 343 344) ::
 (nat_lit 127,gO "checked_pairs" eD mO1 255 126) ::
 (nat_lit 131,hO "check_names" 346 347 348 53 1 3 128 true 181 129 .none .none .none 130 349 350) ::
 (nat_lit 132,gO "check_names" eG mO1 255 131) ::
 (nat_lit 136,hO "check_parts" 352 353 354 59 1 3 133 true 181 134 .none .none .none 135 355 356) ::
 (nat_lit 137,gO "check_parts" eZ mO1 255 136) ::
 (nat_lit 141,hO "check_noughts" 358 359 360 65 2 3 138 true 181 139 .none .none .none 140 361 362) ::
 (nat_lit 142,gO "check_noughts" eE mO1 255 141) ::
 (nat_lit 146,hO "is_wish" 372 373 374 76 1 3 143 true 181 144 .none .none .none 145 375 376) ::
 (nat_lit 147,gO "is_wish" j4 mO3 364 146) ::
 (nat_lit 153,hO "is_built" 378 379 380 80 2 3 148 true 181 149 .none (.ref 150) (.ref 151) 152 383 384) ::
 (nat_lit 154,gO "is_built" kF mO3 364 153) ::
 (nat_lit 158,hO "check_term" 386 387 388 88 2 3 155 true 181 156 .none .none .none 157 389 390) ::
 (nat_lit 159,gO "check_term" gB mO3 364 158) ::
 (nat_lit 165,hO "walked" 392 393 394 96 1 3 160 true 181 161 .none (.ref 162) (.ref 163) 164 399 400) ::
 (nat_lit 166,gO "walked" oC mO3 364 165) ::
 (nat_lit 172,hO "order_mark" 402 403 404 105 1 3 167 true 181 168 .none (.ref 169) (.ref 170) 171 406 407) ::
 (nat_lit 173,gO "order_mark" iK mO3 364 172) ::
 (nat_lit 177,hO "order_key" 409 410 411 109 1 3 174 true 181 175 .none .none .none 176 412 413) ::
 (nat_lit 178,gO "order_key" h9 mO3 364 177) ::
 (nat_lit 184,hO "opened" 415 416 417 113 2 3 179 true 181 180 .none (.ref 181) (.ref 182) 183 420 421) ::
 (nat_lit 185,gO "opened" oF mO3 364 184) ::
 (nat_lit 191,hO "flat_sum" 423 424 425 117 3 3 186 true 181 187 .none (.ref 188) (.ref 189) 190 431 432) ::
 (nat_lit 192,gO "flat_sum" kH mO3 364 191) ::
 (nat_lit 198,hO "flat_of_parts" 434 435 436 127 3 3 193 true 181 194 .none (.ref 195) (.ref 196) 197 441 442) ::
 (nat_lit 199,gO "flat_of_parts" fJ mO3 364 198) ::
 (nat_lit 203,hO "from_within" 444 445 446 132 3 3 200 true 181 201 .none .none .none 202 447 448) ::
 (nat_lit 204,gO "from_within" dJ mO3 364 203) ::
 (nat_lit 210,hO "put_in" 450 451 452 141 3 3 205 true 181 206 .none (.ref 207) (.ref 208) 209 457 458) ::
 (nat_lit 211,gO "put_in" cX mO3 364 210) ::
 (nat_lit 217,hO "flat" 460 461 462 143 2 3 212 true 181 213 .none (.ref 214) (.ref 215) 216 465 466) ::
 (nat_lit 218,gO "flat" xC mO3 364 217) ::
 (nat_lit 224,hO "flat_key" 468 469 470 146 2 3 219 true 181 220 .none (.ref 221) (.ref 222) 223 473 474) ::
 (nat_lit 225,gO "flat_key" kJ mO3 364 224) ::
 (nat_lit 231,hO "alike" 476 477 478 148 3 3 226 true 181 227 .none (.ref 228) (.ref 229) 230 482 483) ::
 (nat_lit 232,gO "alike" rK mO3 364 231) ::
 (nat_lit 238,hO "in_pairs" 487 488 489 151 3 3 233 true 181 234 .none (.ref 235) (.ref 236) 237 495 496) ::
 (nat_lit 239,gO "in_pairs" kG mO2 485 238) ::
 (nat_lit 245,hO "paired" 498 499 500 158 2 3 240 true 181 241 .none (.ref 242) (.ref 243) 244 504 505) ::
 (nat_lit 246,gO "paired" cY mO2 485 245) ::
 (nat_lit 252,hO "is_sum" 507 508 509 161 2 3 247 true 181 248 .none (.ref 249) (.ref 250) 251 512 513) ::
 (nat_lit 253,gO "is_sum" oG mO2 485 252) ::
 (nat_lit 259,hO "turned" 515 516 517 163 3 3 254 true 181 255 .none (.ref 256) (.ref 257) 258 521 522) ::
 (nat_lit 260,gO "turned" oE mO2 485 259) ::
 (nat_lit 266,hO "leftward" 524 525 526 165 3 3 261 true 181 262 .none (.ref 263) (.ref 264) 265 530 531) ::
 (nat_lit 267,gO "leftward" kD mO2 485 266) ::
 (nat_lit 273,hO "rightward" 533 534 535 169 3 3 268 true 181 269 .none (.ref 270) (.ref 271) 272 539 540) ::
 (nat_lit 274,gO "rightward" jC mO2 485 273) ::
 (nat_lit 280,hO "dropped" 542 543 544 173 3 3 275 true 181 276 .none (.ref 277) (.ref 278) 279 548 549) ::
 (nat_lit 281,gO "dropped" mG mO2 485 280) ::
 (nat_lit 287,hO "added" 551 552 553 175 3 3 282 true 181 283 .none (.ref 284) (.ref 285) 286 557 558) ::
 (nat_lit 288,gO "added" rL mO2 485 287) ::
 (nat_lit 289,dO [eR P "turn" 560 260,eR P "left" 561 267,eR P "right" 562 274,eR P "drop" 563 281,eR P "add" 564 288] 5) ::
 (nat_lit 293,hO "check_step" 571 572 573 178 2 3 290 true 181 291 .none .none .none 292 574 575) ::
 (nat_lit 294,gO "check_step" gC mO2 485 293) ::
 (nat_lit 300,hO "way_to" 577 578 579 188 2 3 295 true 181 296 .none (.ref 297) (.ref 298) 299 585 586) ::
 (nat_lit 301,gO "way_to" oB mO2 485 300) ::
 (nat_lit 307,hO "done" 588 589 590 196 3 3 302 true 181 303 .none (.ref 304) (.ref 305) 306 603 604) ::
 (nat_lit 308,gO "done" xD mO2 485 307) ::
 (nat_lit 314,hO "_law_from" 608 609 610 209 1 3 309 true 181 310 .none (.ref 311) (.ref 312) 313 613 614) ::
 (nat_lit 315,gO "_law_from" jI mO0 606 314) ::
 (nat_lit 321,hO "_law_take" 616 617 618 212 2 3 316 true 181 317 .none (.ref 318) (.ref 319) 320 622 623) ::
 (nat_lit 322,gO "_law_take" jD mO0 606 321) ::
 (nat_lit 326,hO "_law_signs" 625 626 627 219 1 3 323 true 181 324 .none .none .none 325 628 629) ::
 (nat_lit 327,gO "_law_signs" eA mO0 606 326) ::
 (nat_lit 333,hO "_law_leaf" 631 632 633 230 2 3 328 true 181 329 .none (.ref 330) (.ref 331) 332 637 638) ::
 (nat_lit 334,gO "_law_leaf" jH mO0 606 333) ::
 (nat_lit 338,hO "_law_head" 640 641 642 235 3 3 335 true 181 336 .none .none .none 337 643 644) ::
 (nat_lit 339,gO "_law_head" iA mO0 606 338) ::
 (nat_lit 345,hO "_law_term" 646 647 648 241 4 3 340 true 181 341 .none (.ref 342) (.ref 343) 344 659 660) ::
 (nat_lit 346,gO "_law_term" fP mO0 606 345) ::
 (nat_lit 350,hO "_law_paired" 662 663 664 254 2 3 347 true 181 348 .none .none .none 349 665 666) ::
 (nat_lit 351,gO "_law_paired" dL mO0 606 350) ::
 (nat_lit 355,hO "_law_listed" 668 669 670 264 1 3 352 true 181 353 .none .none .none 354 671 672) ::
 (nat_lit 356,gO "_law_listed" dM mO0 606 355) ::
 (nat_lit 362,hO "_law_is" 674 675 676 268 2 3 357 true 181 358 .none (.ref 359) (.ref 360) 361 679 680) ::
 (nat_lit 363,gO "_law_is" mH mO0 606 362) ::
 (nat_lit 369,hO "_law_changed" 682 683 684 270 4 3 364 true 181 365 .none (.ref 366) (.ref 367) 368 692 693) ::
 (nat_lit 370,gO "_law_changed" gF mO0 606 369) ::
 (nat_lit 376,hO "_law_stepped" 695 696 697 284 3 3 371 true 181 372 .none (.ref 373) (.ref 374) 375 708 709) ::
 (nat_lit 377,gO "_law_stepped" gE mO0 606 376) ::
 (nat_lit 383,hO "_law_places" 711 712 713 297 1 3 378 true 181 379 .none (.ref 380) (.ref 381) 382 720 721) ::
 (nat_lit 384,gO "_law_places" hU mO0 606 383) ::
 (nat_lit 390,hO "_law_some" 723 724 725 308 3 3 385 true 181 386 .none (.ref 387) (.ref 388) 389 732 733) ::
 (nat_lit 391,gO "_law_some" jF mO0 606 390) ::
 (nat_lit 397,hO "_law_part" 735 736 737 315 2 3 392 true 181 393 .none (.ref 394) (.ref 395) 396 741 742) ::
 (nat_lit 398,gO "_law_part" jG mO0 606 397) ::
 (nat_lit 404,hO "_law_step" 744 745 746 319 3 3 399 true 181 400 .none (.ref 401) (.ref 402) 403 754 755) ::
 (nat_lit 405,gO "_law_step" jE mO0 606 404) ::
 (nat_lit 411,hO "law" 757 758 759 327 1 3 406 true 181 407 .none (.ref 408) (.ref 409) 410 775 776) ::
 (nat_lit 412,gO "law" qC mO0 606 411)::[]
noncomputable def as0:List Addr:=[3,23,24,36,37,48,49,60,61,74,75,95,96,102,103,105,106,114,115,121,122,126,127,131,132,136,137,141,142,146,147,153,154,158,159,165,166,172,173,177,178,184,185,191,192,198,199,203,204,210,211,217,218,224,225,231,232,238,239,245,246,252,253,259,260,266,267,273,274,280,281,287,288,289,293,294,300,301,307,308,314,315,321,322,326,327,333,334,338,339,345,346,350,351,355,356,362,363,369,370,376,377,383,384,390,391,397,398,404,405,411,412]
noncomputable def without (ks:List Nat):Nat->List Stmt->List Stmt
 | _,[]=>[]
 | i,s::r=>if i∈ks then without ks (i+1) r else s::without ks (i+1) r
noncomputable def lo0:aV:=["DEEDS"]
noncomputable def q0:Program:={PySem.Challenge.pw_likefill_k32_steps with main:={PySem.Challenge.pw_likefill_k32_steps.main with body:=without [0,5,18,36,49] 0 PySem.Challenge.pw_likefill_k32_steps.main.body} }
noncomputable def R8:Shared->Bool:=λs=>xlAt q0 [] s && recOk (RowW.records PySem.Challenge.rw_likefill_k32_steps.row.toRowW) s
theorem ND {p q:Program}{a:aV}{Xt:Shared->Bool}{α:Type}{Yf:Shared->α}{Ya:World->α}{N:Nat}
  (e:opening p=plainProg p.main.scope.names) (n:Nat.ble 600 N=true) (b:∀s,fenceModules? p s=some s)
  (h:∀w os,(topFrom treeTable p w N ⟨boot_heap w.params,⟨[]⟩,boot_drawn,boot_toks,os⟩).map (λs=>(openSeen q a (importedModules p.main.body) Xt true s,Yf s))=some (openGood q a,Ya w)):LeftO p q a Xt Yf Ya N:=λw=>by
 obtain⟨s,d,c⟩:=Option.map_eq_some_iff.mp (boot_open e n b w);obtain⟨j,i,g,f,os⟩:=s;cases c;unfold openEnds;rw[d];exact h w os
theorem QP {Q:World->Prop}{a:String}(h:∀w:World,Q (w.withFollow a false))(k:∀w:World,Q (w.withFollow a true))(w:World):Q w:=by
 have back:=World.withFollow_self w a;cases b:w.params.followText a with
 | false=>rw[b]at back;exact back ▸ h w
 | true=>rw[b]at back;exact back ▸ k w
noncomputable def run0 (w:World)(os:OsState):Option Shared:=topFrom treeTable PySem.Challenge.rw_likefill_k32_steps.row.prog w 5752 ⟨boot_heap w.params,⟨[]⟩,boot_drawn,boot_toks,os⟩
noncomputable def seen0 (s:Shared):=openSeen q0 lo0 (importedModules PySem.Challenge.rw_likefill_k32_steps.row.prog.main.body) R8 true s
def HF (w:World)(os:OsState):Prop:=((run0 w os).map λs=>(seen0 s,as0.map s.heap.get?))=some (openGood q0 lo0,(K0 w.params).map λp=>some p.2)
theorem run1f (w:World)(os:OsState):HF (w.withFollow "special-get-raises" false) os:=by unfold HF run0 seen0 topFrom;rw[PySem.W.Fast.te14082659384304107361,PySem.W.Fast.te4187177175401517315,PySem.W.Fast.te14364793385576792824];kernel_rfl
theorem run1t (w:World)(os:OsState):HF (w.withFollow "special-get-raises" true) os:=by unfold HF run0 seen0 topFrom;rw[PySem.W.Fast.te14082659384304107361,PySem.W.Fast.te4187177175401517315,PySem.W.Fast.te14364793385576792824];kernel_rfl
theorem run1 (w:World)(os:OsState):HF w os:=QP (Q:=λw=>HF w os) (λw=>run1f w os) (λw=>run1t w os) w
theorem left0:LeftO PySem.Challenge.rw_likefill_k32_steps.row.prog q0 lo0 R8 (λs=>as0.map s.heap.get?) (λw=>(K0 w.params).map λp=>some p.2) 5752 :=
 ND (by kernel_rfl) (by kernel_rfl) (λs=>by kernel_rfl) run1
theorem keys0:∀P,as0=(K0 P).map (·.1):=λP=>by kernel_rfl
end Lw
namespace Lw
open PySem PySem.W PyProof.Rows
set_option maxRecDepth 100000 in
set_option maxHeartbeats 0 in
theorem red:∃d:DefRec,d.params.defaults=[]/\d.name=("law" : Str)/\(WalkO q0 lo0 (XL q0 []) (InK K0) PySem.Challenge.rw_likefill_k32_steps.row.toRowW d [] (λf vs=>PySem.call f vs)->PySem.Challenge.rw_likefill_k32_steps.Holds):=by
 refine' ⟨?d,?a,?b,λh=>?c⟩
 case c =>
  w_on
  refine holds_law (by kernel_rfl) λg=>?_;refine holds_open (q:=q0) (loose:=lo0) (Xt:=R8) (XP:=XL q0 []) (YP:=InK K0) left0 (InK.of keys0) InK.keeps (λs e=>xl_of s (Bool.and_eq_true_iff.mp e).1) XL.keeps (by rfl) (by rfl) (by rfl) (λs e=>recFacts_of (Bool.and_eq_true_iff.mp e).2) (by rfl) g (by decide +kernel) ⟨rfl,rfl,rfl,rfl,rfl,by decide +kernel⟩ (by w_witness2) ?_
  k_fill
  exact h
 case a=>rfl
 case b=>rfl
end Lw
namespace L2
open PySem PySem.Spec PyProof.Rows
abbrev dQ:=Sum Int Str
noncomputable def keyIs:dQ->Value->Bool
 | .inl k,v=>Value.isInt k v
 | .inr x,v=>Value.isStrOf x v
noncomputable def keyH (w:World):dQ->Int
 | .inl k=>hashInt k
 | .inr x=>hashStr w x
theorem c5:∀{k:dQ} {v:Value},keyIs k v=true->(∃i t,k=Sum.inl i/\v=Value.int i t)∨(∃x t,k=Sum.inr x/\v=Value.str x t)
 | .inl i,v,h=>by
  obtain⟨t,e⟩:=Value.isInt_shape (k:=i) (v:=v) h;exact .inl ⟨i,t,rfl,e⟩
 | .inr x,v,h=>by obtain⟨t,e⟩:=Value.isStrOf_shape (x:=x) (v:=v) h;exact .inr ⟨x,t,rfl,e⟩
theorem GU (i:Int)(t:Tok):keyIs (.inl i) (.int i t)=true:=by simp[keyIs,Value.isInt]
theorem pX (x:Str)(t:Tok):keyIs (.inr x) (.str x t)=true:=by simp[keyIs,Value.isStrOf]
theorem QC (a b:Int):decide ((Sum.inl a:dQ)=Sum.inl b)=(a == b):=by
 by_cases e:a=b
 ·subst e;simp
 ·have h:¬(Sum.inl a:dQ)=Sum.inl b:=λq=>e (Sum.inl.inj q);rw[bh h];exact(cu.mpr e).symm
theorem P9 (a b:Str):decide ((Sum.inr a:dQ)=Sum.inr b)=decide (a=b):=by
 by_cases e:a=b
 ·subst e;simp
 ·have h:¬(Sum.inr a:dQ)=Sum.inr b:=λq=>e (Sum.inr.inj q);rw[bh h,bh e]
theorem QB (a:Int)(b:Str):decide ((Sum.inl a:dQ)=Sum.inr b)=false:=bh (λq=>nomatch q)
theorem QA (a:Str)(b:Int):decide ((Sum.inr a:dQ)=Sum.inl b)=false:=bh (λq=>nomatch q)
noncomputable def bU (prog:Program)(w:World):PySem.KeyKind prog w dQ where
 is:=keyIs
 hash:=keyH w
 inj:=λv a b l f=>by
  rcases c5 l with⟨i,t,rfl,rfl⟩|⟨x,t,rfl,rfl⟩
  ·rcases c5 f with⟨j,u,rfl,e⟩|⟨y,u,rfl,e⟩
   ·injection e with c _;rw[c]
   ·exact nomatch e
  ·rcases c5 f with⟨j,u,rfl,e⟩|⟨y,u,rfl,e⟩
   ·exact nomatch e
   ·injection e with c _;rw[c]
 byValue:=λk v h=>by rcases c5 h with⟨i,t,rfl,rfl⟩|⟨x,t,rfl,rfl⟩ <;> rfl
 pyHash:=λd h=>by
  rcases c5 d with⟨i,t,rfl,rfl⟩|⟨x,t,rfl,rfl⟩
  ·exact wpAny_pyHash_int h
  ·exact wpAny_pyHash_str h
 eqBool:=λg d h=>by
  rcases c5 g with⟨i,t,rfl,rfl⟩|⟨x,t,rfl,rfl⟩
  ·rcases c5 d with⟨j,u,rfl,rfl⟩|⟨y,u,rfl,rfl⟩
   ·rw[QC]at h;exact wpAny_eqBool_int h
   ·rw[QB]at h;exact SeqAt.EqAt.int_str i t y u _ _ _ _ h
  ·rcases c5 d with⟨j,u,rfl,rfl⟩|⟨y,u,rfl,rfl⟩
   ·rw[QA]at h;exact SeqAt.EqAt.str_int x t j u _ _ _ _ h
   ·rw[P9]at h;exact wpAny_eqBool_str h
 «strs»:=λk x t v h=>by
  rcases c5 h with⟨i,u,rfl,e⟩|⟨y,u,rfl,e⟩
  ·exact nomatch e
  ·injection e with c _;subst c;cases v <;> rfl
theorem CU (prog:Program)(w:World)(k:dQ)(v:Value):(bU prog w).is k v=keyIs k v:=rfl
theorem AA (prog:Program)(w:World)(i:Int)(t:Tok):(bU prog w).is (.inl i) (.int i t)=true:=GU i t
theorem zZ (prog:Program)(w:World)(x:Str)(t:Tok):(bU prog w).is (.inr x) (.str x t)=true:=pX x t
inductive V where
 | non|bl (b:Bool)|int (i:Int)|str (x:Str)|byt (b:Array UInt8)|flt (b:UInt64)|ref (a:Addr)|ty (n:String)
 deriving DecidableEq
def aU:V->Value->Prop
 | .non,u=>u=Value.none
 | .bl b,u=>u=Value.bool b
 | .int i,u=>∃t,u=Value.int i t
 | .str x,u=>∃t,u=Value.str x t
 | .byt b,u=>∃t,u=Value.bytes b t
 | .flt b,u=>∃t,u=Value.float b t
 | .ref a,u=>u=Value.ref a
 | .ty n,u=>u=Value.type n
abbrev aX:List V->cC->Prop:=Paired aU
theorem aX.length {xs:List V}{us:cC}(r:aX xs us):xs.length=us.length:=Paired.length r
theorem aX.get:∀{xs:List V} {us:cC} {i:Nat} {x:V},aX xs us->xs[i]?=some x->∃u,us[i]?=some u/\aU x u
 | _,_,_,_,.nil,e=>by simp at e
 | _,_,0,_,.cons r _,e=>by simp at e;subst e;exact⟨_,rfl,r⟩
 | _,_,i+1,x,.cons _ t,e=>by obtain⟨u,b,a⟩:=aX.get (i:=i) (x:=x) t (by simpa using e);exact⟨u,by simpa using b,a⟩
theorem aX.set {x:V}{u:Value}(r:aU x u):∀{xs:List V} {us:cC} (i:Nat),aX xs us->aX (xs.set i x) (us.set i u)
 | _,_,_,.nil=>.nil
 | _,_,0,.cons _ t=>.cons r t
 | _,_,i+1,.cons q t=>.cons q (aX.set r i t)
theorem aX.append:∀{xs a:List V} {us ws:cC},aX xs us->aX a ws->aX (xs++a) (us++ws)
 | _,_,_,_,.nil,s=>s
 | _,_,_,_,.cons r t,s=>.cons r (aX.append t s)
theorem aX.take:∀{xs:List V} {us:cC} (n:Nat),aX xs us->aX (xs.take n) (us.take n)
 | _,_,0,_=>.nil
 | _,_,_+1,.nil=>.nil
 | _,_,n+1,.cons r t=>.cons r (aX.take n t)
theorem aX.drop:∀{xs:List V} {us:cC} (n:Nat),aX xs us->aX (xs.drop n) (us.drop n)
 | _,_,0,r=>r
 | _,_,_+1,.nil=>.nil
 | _,_,n+1,.cons _ t=>aX.drop n t
def j7:Option V->Option Value->Prop
 | some v,some u=>aU v u
 | none,none=>True
 | _,_=>False
def KV {κ:Type}:List (κ×V)->List (κ×Value)->Prop:=Paired λ(p:κ×V) (q:κ×Value)=>p.1=q.1/\aU p.2 q.2
noncomputable def kV:dQ->V
 | .inl i=>.int i
 | .inr x=>.str x
inductive HO where
 /-- a list -/
 | lst (xs:List V)
 /-- a tuple (never changes) -/
 | tup (xs:List V)
 /-- a dict whose keys are ints and texts;one whose keys are tuples of ints and texts (the empty one is both) -/
 | dK (kvs:List (dQ×V))|dT (kvs:List (List dQ×V))
 /-- a set of ints: its members,its size -/
 | set (S:Int->Bool) (n:Nat)
 /-- an instance of the class at C,its dict at dx,its attributes -/
 | ins (C dx:Addr) (fs:List (Str×V))
 /-- the dict of the instance at x -/
 | own (x:Addr)
 /-- the dict of an exception -/
 | xd (fs:List (Str×V))
 /-- a bound method,f of x -/
 | met (f x:Addr)
 /-- a range object lo,lo+1,.. below hi -/
 | rng (lo hi:Int)
 /-- a thing that is known to the object (the script;a dict while a loop walks it): read,never written while it is so -/
 | frz (o:Obj) (u:HO)
 /-- a code object's table -/
 | tbl (ps:gN)
 /-- any other thing,by what is true of its one object (a def of one's own: SetO a S n:=HO.ext λh=>..) -/
 | ext (φ:Heap->Prop)
abbrev Hp:=Addr->Option HO
noncomputable def upd (H:Hp)(a:Addr)(o:HO):Hp:=λb=>if b=a then some o else H b
theorem upd_same {H:Hp}{a:Addr}{o:HO}:upd H a o a=some o:=by unfold upd;rw[ai rfl]
theorem aE {H:Hp}{a b:Addr}{o:HO}(h:b≠a):upd H a o b=H b:=by unfold upd;rw[ab h]
theorem upd_upd {H:Hp}{a:Addr}{o u:HO}:upd (upd H a o) a u=upd H a u:=by funext b;unfold upd;split <;> rfl
theorem aH {H:Hp}{a b:Addr}{o:HO}(h:H a=some o)(h':H b=none):a≠b:=by intro e;subst e;rw[h]at h';cases h'
section
variable (P:Program)(w:World)
def cB (H:Hp)(h:Heap)(a:Addr):HO->Prop
 | .lst xs=>xs.length<=sizeLine/\∃(its:cC) (n:Nat),aX xs its/\h.get? a=some {cls:=.type "list",data:=.seq its.toArray n}
 | .tup xs=>xs.length<=sizeLine/\∃its:cC,aX xs its/\IsTup h a its.toArray
 | .dK b=>b.length<=sizeLine/\(a == sysModules)=false/\∃vs,KV b vs/\h.DictOf (bU P w) a vs
 | .dT b=>b.length<=sizeLine/\(a == sysModules)=false/\∃xs:List (List dQ×Addr×Value),
   Paired (λ(p:List dQ×V) (q:List dQ×Addr×Value)=>p.1=q.1/\H q.2.1=some (.tup (p.1.map kV))/\aU p.2 q.2.2) b xs /\
   ∃o es l,h.get? a=some o/\o.ExactDict/\o.data = .dict es l/\es.toList=xs.map (entryOfKey (tupleKind (bU P w)))/\(xs.map (·.1)).Nodup
 | .set S n=>h.SetOf (intKind P w) a S n
 | .ins C d fs=>H d=some (.own a)/\fs.length<=1000/\d≠a/\h.get? a=some (PySem.W.instObj C d) /\
   ∃c,h.Ns1 d c/\(∀f,j7 (fs.lookup f) (c f))/\PySem.Within c (fs.map (·.1))
 | .own _=>∃o,h.get? a=some o
 | .xd fs=>∃c,h.Ns1 a c/\∀f,j7 (fs.lookup f) (c f)
 | .rng i j=>∃t u v,h.get? a=some {cls:=.type "range",data:=.fields #[.int i t,.int j u,.int 1 v]}
 | .frz o u=>h.get? a=some o/\cB H h a u
 | .tbl ps=>h.get? a=some {cls:=.none,data:=.fields ps}
 | .met f x=>h.get? a=some (PySem.W.methodObj (.ref f) (.ref x))
 | .ext φ=>φ h/\(∃o,h.get? a=some o)/\∀g e:Heap,φ g->(∀o,g.get? a=some o->e.get? a=some o)->φ e
def gQ (H:Hp)(h:Heap):Prop:=∀a o,H a=some o->cB P w H h a o
end
section
variable {P:Program}{w:World}{H H':Hp}{h h':Heap}{a:Addr}{o:HO}
theorem cB.lt (x:cB P w H h a o):a<h.objs.size:=by
 cases o with
 | lst xs=>obtain⟨_,_,_,_,e⟩:=x;exact az e
 | tup xs=>obtain⟨_,_,_,p⟩:=x;exact p.lt
 | dK b=>obtain⟨_,_,_,_,o,_,_,e,_⟩:=x;exact az e
 | dT b=>obtain⟨_,_,_,_,o,_,_,e,_⟩:=x;exact az e
 | set S n=>obtain⟨o,_,_,_,e,_⟩:=x;exact az e
 | ins C g fs=>obtain⟨_,_,_,e,_⟩:=x;exact az e
 | own y=>obtain⟨_,e⟩:=x;exact az e
 | xd fs=>obtain⟨_,⟨_,_,_,e,_⟩,_⟩:=x;exact az e
 | rng c d=>obtain⟨_,_,_,e⟩:=x;exact az e
 | frz ob u=>obtain⟨e,_⟩:=x;exact az e
 | tbl ps=>exact az (show h.get? a=some _ from x)
 | met f y=>exact az (show h.get? a=some _ from x)
 | ext φ=>obtain⟨_,⟨_,e⟩,_⟩:=x;exact az e
theorem Paired.mapP {α β:Type}{F G:α->β->Prop}{d:List α}{c:List β}(h:Paired F d c)(f:∀a b,F a b->G a b):Paired G d c:=by
 induction h with
 | nil=>exact .nil
 | cons r t e=>exact .cons (f _ _ r) e
theorem cB.stay (x:cB P w H h a o)(k:∀b u,(b=a∨H b=some (.own a))->h.get? b=some u->h'.get? b=some u)
  (ho:∀b,H b=some (.own a)->H' b=some (.own a)) (m:∀b xs,H b=some (.tup xs)->H' b=some (.tup xs)):cB P w H' h' a o:=by
 induction o with
 | lst xs=>obtain⟨z,its,n,r,e⟩:=x;exact⟨z,its,n,r,k _ _ (.inl rfl) e⟩
 | tup xs=>obtain⟨z,its,r,ob,e,c⟩:=x;exact⟨z,its,r,ob,k _ _ (.inl rfl) e,c⟩
 | dK j=>obtain⟨z,y,vs,r,ob,es,g,e,c⟩:=x;exact⟨z,y,vs,r,ob,es,g,k _ _ (.inl rfl) e,c⟩
 | dT j =>
  obtain⟨z,y,xs,r,ob,es,g,e,c⟩:=x;exact⟨z,y,xs,Paired.mapP r λp q z=>⟨z.1,m _ _ z.2.1,z.2.2⟩,ob,es,g,k _ _ (.inl rfl) e,c⟩
 | set S n=>obtain⟨ob,es,g,t,e,c⟩:=x;exact⟨ob,es,g,t,k _ _ (.inl rfl) e,c⟩
 | ins C E fs =>
  obtain⟨d,z,ne,e,i,⟨od,es,g,s,c⟩,r⟩:=x;exact⟨ho _ d,z,ne,k _ _ (.inl rfl) e,i,⟨od,es,g,k _ _ (.inr d) s,c⟩,r⟩
 | own y=>obtain⟨ob,e⟩:=x;exact⟨ob,k _ _ (.inl rfl) e⟩
 | xd fs=>obtain⟨i,⟨od,es,g,e,c⟩,r⟩:=x;exact⟨i,⟨od,es,g,k _ _ (.inl rfl) e,c⟩,r⟩
 | rng A B=>obtain⟨t,u,v,e⟩:=x;exact⟨t,u,v,k _ _ (.inl rfl) e⟩
 | frz ob u l=>obtain⟨e,q⟩:=x;exact⟨k _ _ (.inl rfl) e,l q⟩
 | tbl ps =>
  have e:h.get? a=some {cls:=.none,data:=.fields ps}:=x;show h'.get? a=some {cls:=.none,data:=.fields ps};exact k a _ (.inl rfl) e
 | met f y =>
  have e:h.get? a=some (PySem.W.methodObj (.ref f) (.ref y)):=x;show h'.get? a=some (PySem.W.methodObj (.ref f) (.ref y));exact k a _ (.inl rfl) e
 | ext φ=>obtain⟨p,⟨o,e⟩,st⟩:=x;exact⟨st _ _ p λo q=>k _ _ (.inl rfl) q,⟨o,k _ _ (.inl rfl) e⟩,st⟩
theorem gQ.lt (x:gQ P w H h)(e:H a=some o):a<h.objs.size:=(x a o e).lt
theorem gQ.fresh (x:gQ P w H h)(e:h.objs.size<=a):H a=none:=by
 cases q:H a with
 | none=>rfl
 | some u=>exact absurd (bc (x.lt q) e) (bI _)
theorem gQ.kept (x:gQ P w H h)(k:∀b u,h.get? b=some u->h'.get? b=some u):gQ P w H h':=λa o e =>
 (x a o e).stay (λb u _ q=>k b u q) (λ_ q=>q) λ_ _ q=>q
theorem gQ.laid (x:gQ P w H h)(k:∀b u,h.get? b=some u->h'.get? b=some u)(g:h.objs.size<=a)(new:cB P w (upd H a o) h' a o):gQ P w (upd H a o) h':=λb u e=>by
 have d:=x.fresh g;by_cases f:b=a
 ·subst f;rw[upd_same]at e;cases e;exact new
 ·rw[aE f]at e;exact(x b u e).stay (λc v _ q=>k c v q) (λc q=>by rw[aE (aH q d)];exact q) λc xs q=>by rw[aE (aH q d)];exact q
end
def Rd (H:Hp)(a:Addr)(u:HO):Prop:=H a=some u∨∃o,H a=some (.frz o u)
theorem Rd.ok {P:Program}{w:World}{H:Hp}{h:Heap}{a:Addr}{u:HO}(r:Rd H a u)(x:gQ P w H h):cB P w H h a u:=by
 rcases r with r|⟨o,r⟩
 ·exact x a u r
 ·obtain⟨_,q⟩:=x a _ r;exact q
def RZ:Option HO->Prop
 | some (.lst _)=>True
 | some (.dK _)=>True
 | some (.dT _)=>True
 | some (.set _ _)=>True
 | some (.ins _ _ _)=>True
 | some (.ext _)=>True
 | _=>False
section
variable {P:Program}{w:World}{H:Hp}{h h':Heap}{x e:Addr}{o':HO}
theorem gQ.write (ok:gQ P w H h)(g:RZ (H x))(m:e=x∨H e=some (.own x))(k:∀b u,b≠e->h.get? b=some u->h'.get? b=some u)(l:∃u,h'.get? e=some u)
  (new:cB P w (upd H x o') h' x o'):gQ P w (upd H x o') h':=λb u q=>by
 have d:∀c y,H c=some (.own y)->c≠x:=λc y r z=>by subst z;rw[r]at g;exact g
 have f:∀c xs,H c=some (.tup xs)->c≠x:=λc xs r z=>by subst z;rw[r]at g;exact g
 by_cases j:b=x
 ·subst j;rw[upd_same]at q;cases q;exact new
 ·rw[aE j]at q;by_cases a:b=e
  ·have q':H b=some (.own x):=by
    rcases m with z|z
    ·exact absurd (a.trans z) j
    ·rw[a];exact z
   rw[q]at q';cases q';obtain⟨v,o⟩:=l;exact⟨v,by rw[a];exact o⟩
  ·refine(ok b u q).stay (λc v i r=>k c v ?_ r) (λc r=>by rw[aE (d c b r)];exact r) λc xs r=>by rw[aE (f c xs r)];exact r
   rcases i with rfl|i
   ·exact a
   ·rintro rfl;rcases m with z|z
    ·exact d c b i z
    ·rw[i]at z;cases z;exact j rfl
end
structure Un (fs ex:List Addr)(H H':Hp)(h h':Heap):Prop where
 keep:∀b o,h.get? b=some o->H b=none->b∉fs->b∉ex->h'.get? b=some o
 slot:∀b o,h.get? b=some o->H b=none->b∈fs->b∉ex->∃sl,h'.get? b=some {o with slots:=sl}
 free:∀b o,h.get? b=some o->H b=none->b∉ex->H' b=none
 there:∀b o,h.get? b=some o->b∉ex->∃o',h'.get? b=some o'
 tups:∀b xs,H b=some (.tup xs)->H' b=some (.tup xs)
 frzs:∀b o u,H b=some (.frz o u)->H' b=some (.frz o u)
 tbls:∀b ps,H b=some (.tbl ps)->∃more,H' b=some (.tbl (ps++more))
section
variable {fs fs' ex ex':List Addr}{H H1 H2:Hp}{h h1 h2 h':Heap}{a x e:Addr}{o:HO}
theorem Un.any (u:Un fs ex H H1 h h1){b:Addr}{ob:Obj}(q:h.get? b=some ob)(n:H b=none)(a:b∉ex):∃d,h1.get? b=some {ob with slots:=d}:=by
 by_cases c:b∈fs
 ·exact u.slot b ob q n c a
 ·exact⟨ob.slots,u.keep b ob q n c a⟩
theorem Un.kept (k:∀b u,h.get? b=some u->h'.get? b=some u):Un fs ex H H h h' :=
 ⟨λb ob q _ _ _=>k b ob q,λb ob q _ _ _=>⟨ob.slots,k b ob q⟩,λ_ _ _ n _=>n,λb ob q _=>⟨ob,k b ob q⟩,λ_ _ q=>q,λ_ _ _ q=>q,λ_ ps q=>⟨#[],by rw[q];simp⟩⟩
theorem Un.refl:Un fs ex H H h h:=Un.kept λ_ _ q=>q
theorem Un.laid (k:∀b u,h.get? b=some u->h'.get? b=some u)(d:h.objs.size<=a)(c:H a=none):Un fs ex H (upd H a o) h h' where
 keep:=λb u q _ _ _=>k b u q
 slot:=λb u q _ _ _=>⟨u.slots,k b u q⟩
 free:=λb u q n _=>by rw[aE (bj (bc (az q) d))];exact n
 there:=λb u q _=>⟨u,k b u q⟩
 tups:=λb xs q=>by rw[aE (aH q c)];exact q
 frzs:=λb u xs q=>by rw[aE (aH q c)];exact q
 tbls:=λb ps q=>⟨#[],by rw[aE (aH q c),q];simp⟩
theorem Un.write (c:RZ (H x))(j:e=x∨H e=some (.own x))(k:∀b u,b≠e->h.get? b=some u->h'.get? b=some u)(f:∃u,h'.get? e=some u):Un fs ex H (upd H x o) h h':=by
 have g:∀b,H b=none->b≠x:=λb n z=>by subst z;rw[n]at c;exact c
 have i:∀b,H b=none->b≠e:=λb n z=>by
  subst z;rcases j with r|r
  ·exact g b n r
  ·rw[n]at r;cases r
 have d:∀b u,H b=some u->¬RZ (some u)->b≠x:=λb u q nm z=>by subst z;rw[q]at c;exact nm c
 refine⟨λb u q n _ _=>k b u (i b n) q,λb u q n _ _=>⟨u.slots,k b u (i b n) q⟩,λb u q n _=>by rw[aE (g b n)];exact n,λb u q _=>?_,
  λb xs q=>by rw[aE (d b _ q λz=>z)];exact q,λb u xs q=>by rw[aE (d b _ q λz=>z)];exact q,λb ps q=>⟨#[],by rw[aE (d b _ q λz=>z),q];simp⟩⟩
 by_cases a:b=e
 ·subst a;exact f
 ·exact⟨u,k b u a q⟩
end
noncomputable def trk (h:Heap)(H:Hp):List Addr:=(List.range h.objs.size).filter λa=>(H a).isSome
noncomputable def hidT (h:Heap)(H:Hp):Heap:=PySem.W.hideAll h (trk h H)
theorem GW (h:Heap)(H:Hp):(hidT h H).objs.size=h.objs.size:=PySem.W.hideAll_size _ _
theorem tE {h:Heap}{H:Hp}{b:Addr}{o:Obj}(e:h.get? b=some o)(n:H b=none):(hidT h H).get? b=some o :=
 PySem.W.hideAll_get _ e λa=>by have q:(H b).isSome=true:=(cx.mp a).2;rw[n]at q;simp at q
theorem M7 {h:Heap}{H:Hp}{b:Addr}{o:Obj}(e:(hidT h H).get? b=some o):h.get? b=some o/\H b=none:=by
 have e':h.get? b=some o:=PySem.W.of_hideAll (trk h H) e;refine⟨e',?_⟩;cases q:H b with
 | none=>rfl
 | some x =>
  have a:b∈trk h H:=cx.mpr ⟨List.mem_range.mpr (az e'),by simp[q]⟩;have z:(hidT h H).get? b=none:=PySem.W.hideAll_none (trk h H) a;rw[z]at e;cases e
noncomputable def N0 (g h:Heap)(L:Addr):c9:=(List.range h.objs.size).filterMap λa=>if a=L∨(g.get? a).isSome=true then none else(h.get? a).map λo=>(a,o)
noncomputable def rest (g h:Heap)(L d:Addr):c9:=(N0 g h L).filter λp=>decide (p.1≠d)
structure Mod (K:PySem.W.Frag)(mg:iH)(base:Heap):Prop where
 kin:K.In base
 glob:base.Ns mainGlobals mg
 blt:∃mb,base.Ns builtinsNs mb/\∀x:Str,x≠"__name__"->mb x=bootBuiltins x
 nolimit:base.NoLimit
structure Cx where
 prog:Program
 w:World
 K:PySem.W.Frag
 mg:iH
 base:Heap
 A:Around
 N:aV
 s₀:Shared
 H₀:Hp
 env:Env
 outer:List Env
 stack:List Env
 ex:List Addr
 fn:Str->Bool
 calm:Bool
 pn:c9
 xe:cL
noncomputable def frs (l:List Env):List Addr:=l.filterMap (·.frame)
noncomputable abbrev Cx.fs (X:Cx):List Addr:=frs X.outer
def RA (a:Scope)(x:Str):Prop:=a.names.lookup x=some .local∨a.names.lookup x=some .cell∨a.names.lookup x=some .free
def R5 (a:Scope)(x:Str):Prop:=a.names.lookup x=some .local∨a.names.lookup x=some .cell
def SG (env:Env)(h:Heap)(m:iH)(x:Str)(u:Value):Prop :=
 (env.kindOf x=some .local/\m x=some u)∨((env.kindOf x=some .cell∨env.kindOf x=some .free)/\∃c,env.cells.lookup x=some c/\h.IsCell c (some u))
structure Cx.Ok (X:Cx):Prop where
 mod:Mod X.K X.mg X.base
 kind:X.env.scope.kind = .function
 glob:X.env.globals=mainGlobals
 blt:X.env.builtins=builtinsNs
 above:X.s₀.heap.objs.size<=X.env.locals
 inj:∀x y c,X.env.cells.lookup x=some c->X.env.cells.lookup y=some c->x=y
 has:∀x,(X.env.kindOf x=some .cell∨X.env.kindOf x=some .free)->∃c,X.env.cells.lookup x=some c
 cab:∀x c,X.fn x=true->X.env.cells.lookup x=some c->X.s₀.heap.objs.size<=c
 hd:X.calm=true->X.A.handled=none
 frames:X.A.frames=some X.stack
 stk:X.stack=X.outer∨(X.stack=X.env::X.outer/\X.env.frame=some X.env.locals)
 exf:∀b∈X.ex,b≠X.env.locals/\∀x c,X.env.cells.lookup x=some c->c≠b
 bs:∀b o,X.base.get? b=some o->X.s₀.heap.get? b=some o/\X.H₀ b=none
 bsz:X.base.objs.size<=X.s₀.heap.objs.size
 noex:∀b o,X.base.get? b=some o->b∉X.ex
 exfs:∀b∈X.ex,b∉X.fs
 funs:X.s₀.heap.FunFrames X.base X.outer
 frf:∀b∈X.fs,X.H₀ b=none
structure aQ (X:Cx)(pins:c9)(σ:List (Option V))(H:Hp)(s:Shared):Prop where
 ok:X.Ok
 os:s.os=X.s₀.os
 bare:AllBare s.gens
 base:Un X.fs X.ex X.H₀ H X.s₀.heap s.heap
 loc:∃m,s.heap.Ns X.env.locals m/\∀(i:Nat) (x:Str) (v:V),X.N[i]?=some x->σ[i]?=some (some v)->RA X.env.scope x->∃u,aU v u/\SG X.env s.heap m x u
 cell:∀x c,X.env.cells.lookup x=some c->∃v,s.heap.IsCell c v
 free:H X.env.locals=none
 freeC:∀x c,X.env.cells.lookup x=some c->H c=none
 pin:∀p∈X.pn++pins,s.heap.get? p.1=some p.2/\H p.1=none/\p.1≠X.env.locals/\p.1∉X.fs/\∀v,p.2.data≠.cell v
 hok:gQ X.prog X.w H s.heap
 len:σ.length=X.N.length
section
variable {X:Cx}{pins:c9}{σ:List (Option V)}{H H':Hp}{s:Shared}{h':Heap}
theorem Cx.Ok.nofr (ok:X.Ok){b:Addr}{o:Obj}(e:X.base.get? b=some o):b∉X.fs:=λa=>by have:=(ok.funs.mem a).1;rw[e]at this;cases this
theorem aQ.bs (I:aQ X pins σ H s):∀b o,X.base.get? b=some o->s.heap.get? b=some o/\H b=none:=λb o e =>
 ⟨I.base.keep b o (I.ok.bs b o e).1 (I.ok.bs b o e).2 (I.ok.nofr e) (I.ok.noex b o e),I.base.free b o (I.ok.bs b o e).1 (I.ok.bs b o e).2 (I.ok.noex b o e)⟩
theorem aQ.bk (I:aQ X pins σ H s):∀b o,X.base.get? b=some o->s.heap.get? b=some o:=λb o e=>(I.bs b o e).1
theorem aQ.mod (I:aQ X pins σ H s):Mod X.K X.mg X.base:=I.ok.mod
theorem aQ.kIn (I:aQ X pins σ H s):X.K.In s.heap:=I.ok.mod.kin.keeps I.bk
theorem aQ.lt (I:aQ X pins σ H s):X.env.locals<s.heap.objs.size:=let⟨_,hn,_⟩:=I.loc;hn.lt
theorem aQ.sz (I:aQ X pins σ H s):X.s₀.heap.objs.size<=s.heap.objs.size:=al I.ok.above (Nat.le_of_lt I.lt)
theorem aQ.nofs (I:aQ X pins σ H s){a:Addr}(h:s.heap.objs.size<=a):a∉X.fs:=λb=>by obtain⟨_,o,ho,_⟩:=I.ok.funs.mem b;exact absurd (bc (az ho) (al I.sz h)) (bI _)
theorem aQ.cne (I:aQ X pins σ H s):∀x c,X.env.cells.lookup x=some c->c≠X.env.locals:=λx c e z=>by obtain⟨v,o,ho,hd⟩:=I.cell x c e;obtain⟨m,⟨d,es,f,a,b,_⟩,_⟩:=I.loc;rw[z,a]at ho;cases ho;rw[b]at hd;cases hd
theorem aQ.funs (I:aQ X pins σ H s):s.heap.FunFrames X.base X.outer:=by
 have all:∀(l:List Env),(∀b∈frs l,b∈X.fs)->X.s₀.heap.FunFrames X.base l->s.heap.FunFrames X.base l:=by
  intro l
  induction l with
  | nil=>intro _ _;trivial
  | cons env r g =>
   intro f j;obtain⟨m,⟨L,o,a,i,ho,hd⟩,h⟩:=j;have d:L∈X.fs:=f L (by unfold frs;rw[List.filterMap_cons,a];exact av);obtain⟨q,e⟩:=I.base.slot L o ho (I.ok.frf L d) d λz=>I.ok.exfs L z d;exact⟨m,⟨L,_,a,i,e,hd⟩,g (λb c=>f b (by unfold frs;rw[List.filterMap_cons,a];exact ay _ c)) h⟩
 exact all X.outer (λ_ c=>c) I.ok.funs
theorem aQ.stack (I:aQ X pins σ H s):s.heap.FunFrames X.base X.stack:=by
 rcases I.ok.stk with e|⟨e,b⟩
 ·rw[e];exact I.funs
 ·rw[e];obtain⟨m,a,_⟩:=I.loc;refine .cons (by rw[I.ok.kind];decide) b a ?_ I.funs;exact Heap.get?_none_of_le (al I.ok.bsz I.ok.above)
theorem aQ.stkSub (I:aQ X pins σ H s):∀b∈frs X.stack,b∈X.env.locals::X.fs:=λb a=>by
 rcases I.ok.stk with e|⟨e,c⟩
 ·rw[e]at a;exact ay _ a
 ·rw[e]at a;unfold frs at a;rw[List.filterMap_cons,c]at a;exact a
theorem aQ.stkFree (I:aQ X pins σ H s):∀b∈frs X.stack,H b=none:=λb a=>by
 rcases cp.mp (I.stkSub b a)with e|a
 ·rw[e];exact I.free
 ·obtain⟨_,o,ho,_⟩:=I.ok.funs.mem a;exact I.base.free b o ho (I.ok.frf b a) λz=>I.ok.exfs b z a
theorem aQ.step {g':Array GenState}{t':Nat}{d':Drawn}{ch:List Addr}(I:aQ X pins σ H s)
  (g:∀b∈ch,(b∈X.ex∨X.s₀.heap.objs.size<=b)/\b≠X.env.locals/\(∀x c,X.env.cells.lookup x=some c->c≠b)/\∀p∈X.pn++pins,p.1≠b)
  (keep:∀b o,b≠X.env.locals->b∉X.fs->b∉ch->s.heap.get? b=some o->H b=none->h'.get? b=some o)
  (slot:∀b o,b≠X.env.locals->b∈X.fs->b∉ch->s.heap.get? b=some o->H b=none->∃J,h'.get? b=some {o with slots:=J}) (free:∀b o,b∉ch->s.heap.get? b=some o->H b=none->H' b=none)
  (there:∀b o,b∉ch->s.heap.get? b=some o->∃C,h'.get? b=some C)
  (tups:∀b xs,H b=some (.tup xs)->H' b=some (.tup xs)) (frzs:∀b o u,H b=some (.frz o u)->H' b=some (.frz o u)) (tbls:∀b ps,H b=some (.tbl ps)->∃more,H' b=some (.tbl (ps++more)))
  (ns:∀m,s.heap.Ns X.env.locals m->h'.Ns X.env.locals m) (hok:gQ X.prog X.w H' h') (S:AllBare g') :
  aQ X pins σ H' {s with heap:=h',gens:=g',drawn:=d',toks:=t'}:=by
 have E:∀b o,X.s₀.heap.get? b=some o->b≠X.env.locals:=λb o e=>bj (bc (az e) I.ok.above);have j:∀b o,X.s₀.heap.get? b=some o->b∉X.ex->b∉ch:=λb o e a B=>by
  rcases(g b B).1 with z|z
  ·exact a z
  ·exact absurd (bc (az e) z) (bI _)
 have h:∀x c,X.env.cells.lookup x=some c->∀v,s.heap.IsCell c v->h'.IsCell c v:=λx c e v ⟨o,ho,hd⟩=>by
  have f:c∉ch:=λz=>(g c z).2.2.1 x c e rfl;by_cases N:c∈X.fs
  ·obtain⟨J,q⟩:=slot c o (I.cne x c e) N f ho (I.freeC x c e);exact⟨_,q,hd⟩
  ·exact⟨o,keep c o (I.cne x c e) N f ho (I.freeC x c e),hd⟩
 refine⟨I.ok,I.os,S,⟨λb o e n B a=>?_,λb o e n B a=>?_,λb o e n a=>?_,λb o e a=>?_,λb xs e=>tups b xs (I.base.tups b xs e),λb o xs e=>frzs b o xs (I.base.frzs b o xs e),λb ps e=>?_⟩,?_,λx c e=>?_,?_,λx c e=>?_,λp L=>?_,hok,I.len⟩
 ·exact keep b o (E b o e) B (j b o e a) (I.base.keep b o e n B a) (I.base.free b o e n a)
 ·obtain⟨J,A⟩:=I.base.slot b o e n B a;obtain⟨G,F⟩:=slot b _ (E b o e) B (j b o e a) A (I.base.free b o e n a);exact⟨G,F⟩
 ·obtain⟨C,A⟩:=I.base.there b o e a;exact free b C (j b o e a) A (I.base.free b o e n a)
 ·obtain⟨C,A⟩:=I.base.there b o e a;exact there b C (j b o e a) A
 ·obtain⟨P,A⟩:=I.base.tbls b ps e;obtain⟨O,F⟩:=tbls b _ A;exact⟨P++O,by rw[F,Array.append_assoc]⟩
 ·obtain⟨m,Q,R⟩:=I.loc;refine⟨m,ns m Q,λi x v A F T=>?_⟩;obtain⟨u,r,l⟩:=R i x v A F T;refine⟨u,r,?_⟩;rcases l with l|⟨k,c,e,z⟩
  ·exact .inl l
  ·exact .inr ⟨k,c,e,h x c e _ z⟩
 ·obtain⟨v,z⟩:=I.cell x c e;exact⟨v,h x c e v z⟩
 ·obtain⟨m,⟨o,_,_,ho,_⟩,_⟩:=I.loc;exact free _ o (λz=>(g _ z).2.1 rfl) ho I.free
 ·obtain⟨v,o,ho,hd⟩:=I.cell x c e;exact free c o (λz=>(g c z).2.2.1 x c e rfl) ho (I.freeC x c e)
 ·obtain⟨e,n,ne,K,d⟩:=I.pin p L;have f:p.1∉ch:=λz=>(g p.1 z).2.2.2 p L rfl;exact⟨keep p.1 p.2 ne K f e n,free p.1 p.2 f e n,ne,K,d⟩
theorem aQ.un {t':Nat}(I:aQ X pins σ H s)(u:Un X.fs [] H H' s.heap h')(hok:gQ X.prog X.w H' h'):aQ X pins σ H' {s with heap:=h',toks:=t'}:=by
 obtain⟨m,⟨o,es,v,ho,r⟩,_⟩:=id I.loc;obtain⟨j,i⟩:=u.any ho I.free (by simp)
 exact I.step (g':=s.gens) (d':=s.drawn) (ch:=[]) (λ_ z=>nomatch z) (λb o _ c _ e n=>u.keep b o e n c (by simp)) (λb o _ c _ e n=>u.slot b o e n c (by simp)) (λb o _ e n=>u.free b o e n (by simp)) (λb o _ e=>u.there b o e (by simp)) u.tups u.frzs u.tbls (λq h=>by
  obtain⟨l,d,f,a,g⟩:=h;rw[ho]at a;cases a
  exact⟨_,d,f,i,g⟩) hok I.bare
theorem aQ.call {g':Array GenState}{t':Nat}{d':Drawn}{ch:List Addr}(I:aQ X pins σ H s)(u:Un (frs X.stack) ch H H' s.heap h')(hok:gQ X.prog X.w H' h')(q:AllBare g')
  (f:∀b∈ch,(b∈X.ex∨X.s₀.heap.objs.size<=b)/\b≠X.env.locals/\(∀x c,X.env.cells.lookup x=some c->c≠b)/\∀p∈X.pn++pins,p.1≠b) :
  aQ X pins σ H' {s with heap:=h',gens:=g',drawn:=d',toks:=t'}:=by
 obtain⟨m,⟨o,es,E,ho,r⟩,_⟩:=id I.loc;obtain⟨A,g⟩:=u.any ho I.free λz=>(f _ z).2.1 rfl
 exact I.step (ch:=ch) f (λb o g v a e n=>u.keep b o e n (λz=>(cp.mp (I.stkSub b z)).elim g v) a) (λb o _ _ a e n=>u.any e n a) (λb o a e n=>u.free b o e n a) (λb o a e=>u.there b o e a) u.tups u.frzs u.tbls (λC l=>by
  obtain⟨B,h,i,d,j⟩:=l;rw[ho]at d;cases d
  exact⟨_,h,i,g,j⟩) hok q
theorem aQ.turned {t':Nat}{it:Addr}(I:aQ X pins σ H s)(k:∀b o,b≠it->s.heap.get? b=some o->h'.get? b=some o)(g:H it=none)(f:it≠X.env.locals)
  (w:it∈X.ex∨X.s₀.heap.objs.size<=it) (l:∀x c,X.env.cells.lookup x=some c->c≠it) (j:∀p∈X.pn++pins,p.1≠it):aQ X pins σ H {s with heap:=h',toks:=t'}:=by
 have d:∀b u,H b=some u->b≠it:=λb u e z=>by rw[z,g]at e;cases e
 refine I.step (g':=s.gens) (d':=s.drawn) (ch:=[it]) (λb i=>?_) (λb o _ _ a e _=>k b o (λz=>a (by simp[z])) e) (λb o _ _ a e _=>⟨o.slots,k b o (λz=>a (by simp[z])) e⟩) (λ_ _ _ _ n=>n)
  (λb o a e=>⟨o,k b o (λz=>a (by simp[z])) e⟩) (λ_ _ e=>e) (λ_ _ _ e=>e) (λb ps e=>⟨#[],by rw[e];simp⟩) (λm h=>?_) (λb u e=>?_) I.bare
 ·have e:b=it:=by simpa using i
  subst e;exact⟨w,f,l,j⟩
 ·obtain⟨o,es,A,ho,r⟩:=h;exact⟨o,es,A,k _ o (Ne.symm f) ho,r⟩
 ·refine(I.hok b u e).stay (λc v a q=>k c v ?_ q) (λ_ q=>q) λ_ _ q=>q;rcases a with z|z
  ·rw[z];exact d b u e
  ·exact d c _ z
theorem aQ.tok (I:aQ X pins σ H s)(t:Nat):aQ X pins σ H {s with toks:=t}:=I.un (h':=s.heap) (t':=t) Un.refl I.hok
theorem aQ.kept {t':Nat}(I:aQ X pins σ H s)(k:∀b u,s.heap.get? b=some u->h'.get? b=some u):aQ X pins σ H {s with heap:=h',toks:=t'}:=I.un (Un.kept k) (I.hok.kept k)
theorem aQ.laid {a:Addr}{o:HO}{t':Nat}(I:aQ X pins σ H s)(k:∀b u,s.heap.get? b=some u->h'.get? b=some u)(c:s.heap.objs.size<=a)(new:cB X.prog X.w (upd H a o) h' a o) :
  aQ X pins σ (upd H a o) {s with heap:=h',toks:=t'}:=I.un (Un.laid k c (I.hok.fresh c)) (I.hok.laid k c new)
theorem aQ.write {x e:Addr}{o:HO}{t':Nat}(I:aQ X pins σ H s)(c:RZ (H x))(d:e=x∨H e=some (.own x))(k:∀b u,b≠e->s.heap.get? b=some u->h'.get? b=some u)(a:∃u,h'.get? e=some u)
  (new:cB X.prog X.w (upd H x o) h' x o):aQ X pins σ (upd H x o) {s with heap:=h',toks:=t'}:=I.un (Un.write c d k a) (I.hok.write c d k a new)
theorem aQ.pins_of {a:c9}(I:aQ X pins σ H s)(h:∀p∈a,s.heap.get? p.1=some p.2/\H p.1=none/\p.1≠X.env.locals/\p.1∉X.fs/\∀v,p.2.data≠.cell v):aQ X a σ H s :=
 ⟨I.ok,I.os,I.bare,I.base,I.loc,I.cell,I.free,I.freeC,λp b=>(cr.mp b).elim (λz=>I.pin p (cb _ z)) (h p),I.hok,I.len⟩
theorem zV {N:aV}(c:N.Nodup){i j:Nat}{x:Str}(a:N[i]?=some x)(b:N[j]?=some x):i=j:=by obtain⟨g,e⟩:=ck.mp a;obtain⟨f,d⟩:=ck.mp b;exact(List.getElem_inj c).mp (e.trans d.symm)
theorem u7 {M:Model}{A:Around}{E:cL}{i:Nat}{x:Str}{v:V}{u:Value}{Q:Unit->Shared->Prop}(I:aQ X pins σ H s)(hN:X.N.Nodup)(T:X.N[i]?=some x)(C:R5 X.env.scope x)(r:aU v u)
  (h:∀s',aQ X pins (σ.set i (some v)) H s'->(∃a,Heap.SameBut a s.heap s'.heap/\(a=X.env.locals∨X.env.cells.lookup x=some a))->Q () s') (hf:X.fn x=true∨X.env.scope.names.lookup x=some .local:=by first|exact .inl rfl|exact .inr rfl|assumption):wpAny M A (storeName X.env x u) Q E s:=by
 obtain⟨m,hn,hl⟩:=id I.loc;have U:(X.env.scope.kind == .class || (X.env.scope.kind == .module && X.env.locals != X.env.globals))=false:=by rw[I.ok.kind];rfl
 have S:i<σ.length:=by rw[I.len];exact(ck.mp T).1
 have cne:=I.cne;have g:∀{a:Addr} {h':Heap},(∃o,s.heap.get? a=some o/\H a=none)->Heap.SameBut a s.heap h'->gQ X.prog X.w H h':=λ{a h'} ha f b ob e=>by
  obtain⟨_,_,F⟩:=ha;refine(I.hok b ob e).stay (λc Z B q=>(f.2 c ?_).trans q) (λ_ q=>q) λ_ _ q=>q;rintro rfl;rcases B with rfl|B
  ·rw[F]at e;cases e
  ·rw[F]at B;cases B
 rcases C with J|J
 ·refine wpAny_storeName_local J hn (λh' hn' f=>?_) U;obtain⟨oL,_,_,hoL,_⟩:=id hn;refine h _ ⟨I.ok,I.os,I.bare,⟨λb o e n O C=>?_,λb o e n O C=>?_,I.base.free,λb o e C=>?_,I.base.tups,I.base.frzs,I.base.tbls⟩,⟨_,hn',λj y v' l G e3=>?_⟩,λy c e=>?_,I.free,I.freeC,λp hp=>?_,g ⟨oL,hoL,I.free⟩ f,by simpa using I.len⟩ ⟨_,f,.inl rfl⟩
  ·exact(f.2 b (bj (bc (az e) I.ok.above))).trans (I.base.keep b o e n O C)
  ·obtain⟨sl,l⟩:=I.base.slot b o e n O C;exact⟨sl,(f.2 b (bj (bc (az e) I.ok.above))).trans l⟩
  ·obtain⟨o',l⟩:=I.base.there b o e C;exact⟨o',(f.2 b (bj (bc (az e) I.ok.above))).trans l⟩
  ·by_cases K:j=i
   ·subst K;rw[T]at l;cases l;rw[List.getElem?_set_self S]at G;cases G;exact⟨u,r,.inl ⟨J,by simp⟩⟩
   ·rw[List.getElem?_set_ne (Ne.symm K)]at G;obtain⟨u',r',q⟩:=hl j y v' l G e3;refine⟨u',r',?_⟩;rcases q with⟨k,e⟩|⟨k,c,e,z⟩
    ·refine .inl ⟨k,?_⟩;have:y≠x:=λe=>K (zV hN l (e ▸ T));simp[this,e]
    ·exact .inr ⟨k,c,e,z.sameBut f (cne y c e)⟩
  ·obtain⟨Z,z⟩:=I.cell y c e;exact⟨Z,z.sameBut f (cne y c e)⟩
  ·obtain⟨e,n,ne,nf,d⟩:=I.pin p hp;exact⟨(f.2 p.1 ne).trans e,n,ne,nf,d⟩
 ·have L:X.fn x=true:=by
   rcases hf with z|z
   ·exact z
   ·rw[z]at J;cases J
  obtain⟨c,B⟩:=I.ok.has x (.inl J);obtain⟨Z,z⟩:=I.cell x c B;refine wpAny_storeName_cell I.ok.kind J B z (λh' Y f=>?_);obtain⟨oc,R,P⟩:=id z;refine h {s with heap:=h'} ⟨I.ok,I.os,I.bare,⟨λb o e n O C=>?_,λb o e n O C=>?_,I.base.free,λb o e C=>?_,I.base.tups,I.base.frzs,I.base.tbls⟩,⟨m,hn.sameBut f (Ne.symm (cne x c B)),λj y v' l G e3=>?_⟩,λy c' e=>?_,I.free,I.freeC,λp hp=>?_,g ⟨oc,R,I.freeC x c B⟩ f,by simpa using I.len⟩ ⟨c,f,.inr B⟩
  ·exact(f.2 b (bj (bc (az e) (I.ok.cab x c L B)))).trans (I.base.keep b o e n O C)
  ·obtain⟨sl,l⟩:=I.base.slot b o e n O C;exact⟨sl,(f.2 b (bj (bc (az e) (I.ok.cab x c L B)))).trans l⟩
  ·obtain⟨o',l⟩:=I.base.there b o e C;exact⟨o',(f.2 b (bj (bc (az e) (I.ok.cab x c L B)))).trans l⟩
  ·by_cases K:j=i
   ·subst K;rw[T]at l;cases l;rw[List.getElem?_set_self S]at G;cases G;exact⟨u,r,.inr ⟨.inl J,c,B,Y⟩⟩
   ·rw[List.getElem?_set_ne (Ne.symm K)]at G;obtain⟨u',r',q⟩:=hl j y v' l G e3;refine⟨u',r',?_⟩;rcases q with q|⟨k,c',e,z'⟩
    ·exact .inl q
    ·refine .inr ⟨k,c',e,z'.sameBut f ?_⟩;rintro rfl;exact K (zV hN l (I.ok.inj _ _ _ e B ▸ T))
  ·by_cases W:c'=c
   ·subst W;exact⟨_,Y⟩
   ·obtain⟨w2,z2⟩:=I.cell y c' e;exact⟨w2,z2.sameBut f W⟩
  ·obtain⟨e,n,ne,nf,d⟩:=I.pin p hp;refine⟨(f.2 p.1 ?_).trans e,n,ne,nf,d⟩;intro q;rw[q,R]at e;have q':oc=p.2:=Option.some.inj e;exact d Z (by rw[←q'];exact P)
theorem y8 {M:Model}{A:Around}{E:cL}{i:Nat}{x:Str}{v:V}{u:Value}{Q:Unit->Shared->Prop}(I:aQ X pins σ H s)(e:X.N.Nodup)(c:X.N[i]?=some x)(b:R5 X.env.scope x)(r:aU v u)
  (h:∀a,aQ X pins (σ.set i (some v)) H a->Q () a) (d:X.fn x=true∨X.env.scope.names.lookup x=some .local:=by first|exact .inl rfl|exact .inr rfl|assumption):wpAny M A (storeName X.env x u) Q E s :=
 u7 I e c b r (λa f _=>h a f) d
theorem aQ.call' {a:Shared}{ch:List Addr}(I:aQ X pins σ H s)(ho:a.os=s.os)(u:Un (frs X.stack) ch H H' s.heap a.heap)(hok:gQ X.prog X.w H' a.heap)(g:AllBare a.gens)
  (d:∀b∈ch,(b∈X.ex∨X.s₀.heap.objs.size<=b)/\b≠X.env.locals/\(∀x c,X.env.cells.lookup x=some c->c≠b)/\∀p∈X.pn++pins,p.1≠b):aQ X pins σ H' a:=by
 obtain⟨h',g',d',t',f⟩:=a;have e:f=s.os:=ho;subst e;exact I.call (g':=g') (t':=t') (d':=d') u hok g d
end
abbrev XK:=Value->Option Addr->Hp->Prop
abbrev St:=List (Option V)
abbrev VK:=V->Hp->Prop
abbrev TE:=St->Hp->VK->Prop
abbrev TT:=St->Hp->(Bool->Hp->Prop)->Prop
abbrev TA:=St->Hp->(List V->Hp->Prop)->Prop
structure iM where
 nx:St->Hp->Prop
 rt:VK
 bk:St->Hp->Prop:=λ_ _=>False
 ct:St->Hp->Prop:=λ_ _=>False
abbrev TS:=iM->St->Hp->Prop
def EP (X:Cx)(a:c9)(σ:St)(Q:VK)(u:Value)(b:Shared):Prop:=∃v H',aQ X a σ H' b/\aU v u/\Q v H'
def TP (X:Cx)(a:c9)(σ:St)(Q:Bool->Hp->Prop)(b:Bool)(c:Shared):Prop:=∃H',aQ X a σ H' c/\Q b H'
def AP (X:Cx)(a:c9)(σ:St)(Q:List V->Hp->Prop)(us:cC)(b:Shared):Prop:=∃vs H',aQ X a σ H' b/\aX vs us/\Q vs H'
def SP (X:Cx)(a:c9)(D:iM)(f:Flow)(c:Shared):Prop :=
 match f with
 | .next=>∃b H',aQ X a b H' c/\D.nx b H'
 | .brk=>∃b H',aQ X a b H' c/\D.bk b H'
 | .cont=>∃b H',aQ X a b H' c/\D.ct b H'
 | .ret u=>∃v b H',aQ X a b H' c/\aU v u/\D.rt v H'
def PE (X:Cx)(e:Expr)(t:TE):Prop :=
 ∀(a:c9) (s:Shared) (σ:St) (H:Hp) (Q:VK),aQ X a σ H s->t σ H Q->wpAny (model X.prog X.w) X.A (eval e X.env) (EP X a σ Q) X.xe s
def PT (X:Cx)(e:Expr)(t:TT):Prop :=
 ∀(a:c9) (s:Shared) (σ:St) (H:Hp) (Q:Bool->Hp->Prop),aQ X a σ H s->t σ H Q->wpAny (model X.prog X.w) X.A (isTrue e X.env (eval e X.env)) (TP X a σ Q) X.xe s
def PW (X:Cx)(e:Expr)(t:TT):Prop :=
 ∀(a:Sem Value) (pins:c9) (s:Shared) (σ:St) (H:Hp) (Q:Bool->Hp->Prop),aQ X pins σ H s->t σ H Q->wpAny (model X.prog X.w) X.A (isTrue e X.env a) (TP X pins σ Q) X.xe s
theorem PW.pt {X:Cx}{e:Expr}{t:TT}(h:PW X e t):PT X e t:=h _
def PA (X:Cx)(es:jW)(t:TA):Prop :=
 ∀(a:Pos) (pins:c9) (s:Shared) (σ:St) (H:Hp) (Q:List V->Hp->Prop),aQ X pins σ H s->t σ H Q->wpAny (model X.prog X.w) X.A (spliced (backTo a (starEach es X.env))) (AP X pins σ Q) X.xe s
def PS (X:Cx)(st:Stmt)(t:TS):Prop :=
 ∀(a:c9) (s:Shared) (σ:St) (H:Hp) (D:iM),aQ X a σ H s->t D σ H->wpAny (model X.prog X.w) X.A (exec st X.env) (SP X a D) X.xe s
def FH (X:Cx)(st:List Stmt)(t:TS):Prop :=
 ∀(a:c9) (s:Shared) (σ:St) (H:Hp) (D:iM),aQ X a σ H s->t D σ H->wpAny (model X.prog X.w) X.A (execs st X.env) (SP X a D) X.xe s
theorem thn {α:Type}{t:Sem α}{Q b:α->Shared->Prop}{M:Model}{A:Around}{E:cL}{s:Shared}(h:wpAny M A t Q E s)(c:∀a s,Q a s->b a s):wpAny M A t b E s:=wpAny_mono h c λ_ _ x=>x
section
variable {X:Cx}
theorem bin {a b:Expr}{g tb:TE}(B:PE X a g)(z:PE X b tb){c:c9}{s:Shared}{σ:St}{H:Hp}{R:V->V->Hp->Prop}(I:aQ X c σ H s)(h:g σ H λx e=>tb σ e λy d=>R x y d)
  {α:Type} {Q:α->Shared->Prop} {f:Value->Value->Sem α}
  (r:∀v u s2 x y d,aQ X c σ d s2->aU x v->aU y u->R x y d->wpAny (model X.prog X.w) X.A (f v u) Q X.xe s2) :
  wpAny (model X.prog X.w) X.A (eval a X.env) (λv j=>wpAny (model X.prog X.w) X.A (eval b X.env) (λu i=>wpAny (model X.prog X.w) X.A (f v u) Q X.xe i) X.xe j) X.xe s:=by
 refine thn (B c s σ H _ I h) λv l ⟨x,e,E,r1,q⟩=>?_;refine thn (z c l σ e _ E q) λu s2 ⟨y,d,C,m,o⟩=>?_;exact r v u s2 x y d C r1 m o
def tVar (i:Nat):TE:=λσ H Q=>∃v,σ[i]?=some (some v)/\Q v H
def tC (v:V):TE:=λ_ H Q=>Q v H
theorem xJ {i:Nat}{x:Str}{f:Pos}(A:X.N[i]?=some x)(o:RA X.env.scope x)(hd:(x == ("__debug__" : Str))=false:=by decide)(g:(x == ("__classdict__" : Str))=false:=by decide):PE X (.Name x f) (tVar i):=by
 intro d s σ H Q I h;obtain⟨v,e,h⟩:=h;obtain⟨m,q,z⟩:=I.loc;obtain⟨u,r,l⟩:=z i x v A e o;have fin:EP X d σ Q u s:=⟨v,H,I,r,h⟩
 rcases l with⟨b,w⟩|⟨b,c,j,a⟩
 ·exact wpAny_Name (wpAny_loadName_local I.ok.kind b q w fin) hd
 ·rcases b with b|b
  ·exact wpAny_Name (wpAny_loadName_cell I.ok.kind b j a fin) hd
  ·exact wpAny_Name (wpAny_loadName_free I.ok.kind b j a fin g) hd
theorem aF {i j pos}:PE X (.Constant (.int i) j pos) (tC (.int i)):=λ_ _ _ H _ I h=>wpAny_Constant_int ⟨.int i,H,I.tok _,⟨_,rfl⟩,h⟩
theorem qE {b j pos}:PE X (.Constant (.bool b) j pos) (tC (.bl b)):=λ_ _ _ H _ I h=>Constant_bool ⟨.bl b,H,I,rfl,h⟩
theorem dE {j pos}:PE X (.Constant .none j pos) (tC .non):=λ_ _ _ H _ I h=>Constant_none ⟨.non,H,I,rfl,h⟩
theorem cI {x j pos}:PE X (.Constant (.str x) j pos) (tC (.str x)):=λ_ _ _ H _ I h=>Calls.Constant_str ⟨.str x,H,I.tok _,⟨_,rfl⟩,h⟩
def Gl (X:Cx)(x:Str):Prop:=X.env.kindOf x=some .globalImplicit
theorem oO {E:cL}{a:c9}{s:Shared}{σ:St}{H:Hp}{x:Str}{u:Value}{b:Pos}{Q:cL}(I:aQ X a σ H s)(d:Gl X x)(c:X.mg x=some u)(h:Q u s)
  (hd:(x == ("__debug__" : Str))=false:=by decide):wpAny (model X.prog X.w) X.A (eval (.Name x b) X.env) Q E s :=
 Calls.Name_function_global I.ok.kind d (Calls.loadGlobal_global (by rw[I.ok.glob];exact I.mod.glob.keeps I.bk) c h) hd
theorem lO {E:cL}{a:c9}{s:Shared}{σ:St}{H:Hp}{x:Str}{u:Value}{b:Pos}{Q:cL}(I:aQ X a σ H s)(f:Gl X x)(e:X.mg x=none)(c:bootBuiltins x=some u)(h:Q u s)
  (d:x≠"__name__":=by decide) (hd:(x == ("__debug__" : Str))=false:=by decide):wpAny (model X.prog X.w) X.A (eval (.Name x b) X.env) Q E s:=by
 obtain⟨j,i,g⟩:=I.mod.blt;exact Calls.Name_function_global I.ok.kind f (Calls.loadGlobal_builtin (by rw[I.ok.glob];exact I.mod.glob.keeps I.bk) e (by rw[I.ok.blt];exact i.keeps I.bk) ((g x d).trans c) h) hd
theorem MH {x:Str}{v:V}{u:Value}{a:Pos}(c:Gl X x)(b:X.mg x=some u)(r:aU v u)(hd:(x == ("__debug__" : Str))=false:=by decide):PE X (.Name x a) (tC v) :=
 λ_ _ _ H _ I h=>oO I c b ⟨v,H,I,r,h⟩ hd
theorem bG {x:Str}{v:V}{u:Value}{a:Pos}(e:Gl X x)(d:X.mg x=none)(b:bootBuiltins x=some u)(r:aU v u)(c:x≠"__name__":=by decide)(hd:(x == ("__debug__" : Str))=false:=by decide):PE X (.Name x a) (tC v) :=
 λ_ _ _ H _ I h=>lO I e d b ⟨v,H,I,r,h⟩ c hd
variable {a b:Expr}{ta tb:TE}{pos:Pos}
variable {tA tB':TT}{rest:jW}
def tAnd (t u:TT):TT:=λσ H Q=>t σ H λc a=>if c=true then u σ a Q else Q false a
def tOr (t u:TT):TT:=λσ H Q=>t σ H λc a=>if c=true then Q true a else u σ a Q
def tNot (t:TT):TT:=λσ H Q=>t σ H λc a=>Q (!c) a
theorem xE (d:PT X a tA):PW X (.BoolOp .And [a] pos) tA:=by
 intro f b s σ H Q I h;refine isTrue_and (thn (d b s σ H Q I h) λc g e=>?_);cases c with
 | true=>exact isTrue_and_nil e
 | false=>exact e
theorem eQ (d:PT X a tA):PW X (.BoolOp .Or [a] pos) tA:=by
 intro f b s σ H Q I h;refine isTrue_or (thn (d b s σ H Q I h) λc g e=>?_);cases c with
 | false=>exact isTrue_or_nil e
 | true=>exact e
theorem B8 (m:PT X a tA)(l:PW X (.BoolOp .And (b::rest) pos) tB'):PW X (.BoolOp .And (a::b::rest) pos) (tAnd tA tB'):=by
 intro i d s σ H Q I h;refine isTrue_and (thn (m d s σ H _ I h) λc j ⟨g,f,e⟩=>?_);cases c with
 | true=>exact l i d j σ g Q f e
 | false=>exact⟨g,f,e⟩
theorem gR (m:PT X a tA)(l:PW X (.BoolOp .Or (b::rest) pos) tB'):PW X (.BoolOp .Or (a::b::rest) pos) (tOr tA tB'):=by
 intro i d s σ H Q I h;refine isTrue_or (thn (m d s σ H _ I h) λc j ⟨g,f,e⟩=>?_);cases c with
 | true=>exact⟨g,f,e⟩
 | false=>exact l i d j σ g Q f e
theorem cM (d:PT X a tA):PT X (.UnaryOp .Not a pos) (tNot tA):=by intro b s σ H Q I h;exact isTrue_not (d b s σ H (λc e=>Q (!c) e) I h)
def tAndV (b tb:TE):TE:=λσ H Q=>b σ H λx a=>∃c,x = .bl c/\if c=true then tb σ a Q else Q (.bl false) a
def tOrV (b tb:TE):TE:=λσ H Q=>b σ H λx a=>∃c,x = .bl c/\if c=true then Q (.bl true) a else tb σ a Q
def tNotV (a:TE):TE:=λσ H Q=>a σ H λx b=>∃c,x = .bl c/\Q (.bl (!c)) b
theorem pM {op}{t:TE}(h:PE X a t):PE X (.BoolOp op [a] pos) t:=λb s σ H Q I c=>BoolOp_one (h b s σ H Q I c)
theorem xK (l:PE X a ta)(j:PE X (.BoolOp .And (b::rest) pos) tb):PE X (.BoolOp .And (a::b::rest) pos) (tAndV ta tb):=by
 intro d s σ H Q I h;refine BoolOp_and (thn (l d s σ H _ I h) λv i ⟨x,g,f,r1,e⟩=>?_);obtain⟨c,rfl,e⟩:=e;cases r1;refine wpAny_truthy_bool ?_;cases c with
 | true=>exact j d i σ g Q f e
 | false=>exact⟨.bl false,g,f,rfl,e⟩
theorem RG (l:PE X a ta)(j:PE X (.BoolOp .Or (b::rest) pos) tb):PE X (.BoolOp .Or (a::b::rest) pos) (tOrV ta tb):=by
 intro d s σ H Q I h;refine BoolOp_or (thn (l d s σ H _ I h) λv i ⟨x,g,f,r1,e⟩=>?_);obtain⟨c,rfl,e⟩:=e;cases r1;refine wpAny_truthy_bool ?_;cases c with
 | false=>exact j d i σ g Q f e
 | true=>exact⟨.bl true,g,f,rfl,e⟩
theorem PM (e:PE X a ta):PE X (.UnaryOp .Not a pos) (tNotV ta):=by intro b s σ H Q I h;refine UnaryOp_ (thn (e b s σ H _ I h) λv i ⟨x,g,f,r1,d⟩=>?_);obtain⟨c,rfl,d⟩:=d;cases r1;exact not_of (wpAny_truthy_bool ⟨.bl (!c),g,f,rfl,d⟩)
def tIf (t:TT)(b tb:TE):TE:=λσ H Q=>t σ H λc a=>if c=true then b σ a Q else tb σ a Q
theorem e8 {c:Expr}(l:PT X c tA)(o:PE X a ta)(m:PE X b tb):PE X (.IfExp c a b pos) (tIf tA ta tb):=by
 intro e s σ H Q I h;refine wpAny_IfExp (thn (l e s σ H _ I h) λd f ⟨j,i,g⟩=>?_);cases d with
 | true=>exact o e f σ j Q i g
 | false=>exact m e f σ j Q i g
end
def eK (K:PySem.W.Frag)(H:Hp)(a:Addr)(xs:List V):Prop :=
 Rd H a (.lst xs) ∨
  ∃(o:Obj) (its:gN) (n:Nat),K.lookup a=some o/\o.cls = .type "list"/\o.dict=none/\o.data = .seq its n/\its.size<=sizeLine/\aX xs its.toList
def hZ (K:PySem.W.Frag)(H:Hp)(a:Addr)(xs:List V):Prop :=
 Rd H a (.tup xs) ∨
  ∃(o:Obj) (its:gN) (n:Nat),K.lookup a=some o/\o.cls = .type "tuple"/\o.data = .seq its n/\its.size<=sizeLine/\aX xs its.toList
noncomputable def absV:Value->Option V
 | .none=>some .non
 | .bool b=>some (.bl b)
 | .int i _=>some (.int i)
 | .str x _=>some (.str x)
 | .bytes b _=>some (.byt b)
 | .float b _=>some (.flt b)
 | .ref a=>some (.ref a)
 | .type n=>some (.ty n)
 | _=>none
theorem aU.abs {x:V}{u:Value}(r:aU x u):absV u=some x:=by
 cases x with
 | non=>cases r;rfl
 | bl _=>cases r;rfl
 | int _=>obtain⟨t,rfl⟩:=r;rfl
 | str _=>obtain⟨t,rfl⟩:=r;rfl
 | byt _=>obtain⟨t,rfl⟩:=r;rfl
 | flt _=>obtain⟨t,rfl⟩:=r;rfl
 | ref _=>cases r;rfl
 | ty _=>cases r;rfl
theorem aU.inj {x y:V}{u:Value}(r:aU x u)(q:aU y u):x=y:=Option.some.inj (r.abs.symm.trans q.abs)
theorem aX.inj {xs a:List V}{us:cC}(h:aX xs us)(g:aX a us):xs=a:=by
 induction h generalizing a with
 | nil=>cases g;rfl
 | cons r t b=>cases g with|cons r' t'=>rw[r.inj r',b t']
section
variable {X:Cx}{pins:c9}{σ:St}{H:Hp}{s:Shared}{a:Addr}{xs ys:List V}
theorem eK.of {K:PySem.W.Frag}(h:H a=some (.lst xs)):eK K H a xs:=.inl (.inl h)
theorem hZ.of {K:PySem.W.Frag}(h:H a=some (.tup xs)):hZ K H a xs:=.inl (.inl h)
theorem aQ.list (I:aQ X pins σ H s)(h:eK X.K H a xs):∃its:cC,aX xs its/\PlainL s.heap a its.toArray/\xs.length<=sizeLine:=by
 rcases h with h|⟨o,its,n,c,d,hd,b,hz,r⟩
 ·obtain⟨z,its,n,r,e⟩:=h.ok I.hok;exact⟨its,r,⟨_,n,e,rfl,rfl,rfl⟩,z⟩
 ·refine⟨its.toList,r,⟨o,n,I.kIn a o c,d,hd,by simpa using b⟩,?_⟩;have e:=r.length;simp only[bn]at e;omega
theorem aQ.tuple (I:aQ X pins σ H s)(h:hZ X.K H a xs):∃its:cC,aX xs its/\IsTup s.heap a its.toArray/\xs.length<=sizeLine:=by
 rcases h with h|⟨o,its,n,c,d,b,hz,r⟩
 ·obtain⟨z,its,r,p⟩:=h.ok I.hok;exact⟨its,r,p,z⟩
 ·refine⟨its.toList,r,⟨o,I.kIn a o c,d,n,by simpa using b⟩,?_⟩;have e:=r.length;simp only[bn]at e;omega
theorem aQ.list_inj (I:aQ X pins σ H s)(h:eK X.K H a xs)(h':eK X.K H a ys):xs=ys:=by
 obtain⟨its,r,⟨o,n,e,_,_,d⟩,_⟩:=I.list h;obtain⟨its',c,⟨g,i,b,_,_,d'⟩,_⟩:=I.list h';rw[e]at b;cases b;rw[d]at d';injection d' with f _;have:its=its':=by simpa using congrArg Array.toList f
 subst this;exact r.inj c
theorem aQ.tuple_inj (I:aQ X pins σ H s)(h:hZ X.K H a xs)(h':hZ X.K H a ys):xs=ys:=by
 obtain⟨its,r,⟨o,e,_,n,d⟩,_⟩:=I.tuple h;obtain⟨its',c,⟨g,b,_,i,d'⟩,_⟩:=I.tuple h';rw[e]at b;cases b;rw[d]at d';injection d' with f _;have:its=its':=by simpa using congrArg Array.toList f
 subst this;exact r.inj c
end
noncomputable abbrev Cx.wish (X:Cx)(E:cL):Cx:={X with xe:=E}
noncomputable abbrev Cx.nox (X:Cx):Cx:=X.wish λ_ _=>False
theorem Cx.Ok.wish {X:Cx}(ok:X.Ok)(E:cL):(X.wish E).Ok :=
 ⟨ok.mod,ok.kind,ok.glob,ok.blt,ok.above,ok.inj,ok.has,ok.cab,ok.hd,ok.frames,ok.stk,ok.exf,ok.bs,ok.bsz,ok.noex,ok.exfs,ok.funs,ok.frf⟩
theorem Cx.Ok.unwish {X:Cx}{E:cL}(ok:(X.wish E).Ok):X.Ok :=
 ⟨ok.mod,ok.kind,ok.glob,ok.blt,ok.above,ok.inj,ok.has,ok.cab,ok.hd,ok.frames,ok.stk,ok.exf,ok.bs,ok.bsz,ok.noex,ok.exfs,ok.funs,ok.frf⟩
section
variable {X:Cx}{pins:c9}{σ:St}{H:Hp}{s:Shared}{E:cL}
theorem aQ.wish (I:aQ X pins σ H s)(E:cL):aQ (X.wish E) pins σ H s:=⟨I.ok.wish E,I.os,I.bare,I.base,I.loc,I.cell,I.free,I.freeC,I.pin,I.hok,I.len⟩
theorem aQ.unwish (I:aQ (X.wish E) pins σ H s):aQ X pins σ H s:=⟨I.ok.unwish,I.os,I.bare,I.base,I.loc,I.cell,I.free,I.freeC,I.pin,I.hok,I.len⟩
theorem SP.unwish {D:iM}{f:Flow}{b:Shared}(h:SP (X.wish E) pins D f b):SP X pins D f b:=by
 cases f with
 | next=>obtain⟨a,H',I,q⟩:=h;exact⟨a,H',I.unwish,q⟩
 | brk=>obtain⟨a,H',I,q⟩:=h;exact⟨a,H',I.unwish,q⟩
 | cont=>obtain⟨a,H',I,q⟩:=h;exact⟨a,H',I.unwish,q⟩
 | ret u=>obtain⟨v,a,H',I,r,q⟩:=h;exact⟨v,a,H',I.unwish,r,q⟩
theorem FH.nox {st:List Stmt}{t:TS}(h:FH X.nox st t):FH X st t:=λa s σ H D I b =>
 wpAny_mono (h a s σ H D (I.wish _) b) (λ_ _ q=>q.unwish) λ_ _ z=>False.elim z
end
section
variable {X:Cx}{st:Stmt}{rest:List Stmt}{t u:TS}{e:Expr}{te:TE}{pos:Pos}
def tNext:TS:=λD σ H=>D.nx σ H
def tSeq (t u:TS):TS:=λD σ H=>t {D with nx:=u D} σ H
theorem aP:FH X [] tNext:=λ_ _ σ H _ I h=>wpAny_execs_nil ⟨σ,H,I,h⟩
theorem aC (e:PS X st t)(d:FH X rest u):FH X (st::rest) (tSeq t u):=by
 intro a s σ H D I h;refine wpAny_execs_cons (thn (e a s σ H {D with nx:=u D} I h) λf c q=>?_);cases f with
 | next =>
  obtain⟨b,H',g,q⟩:=q;exact d a c b H' D g q
 | ret v=>exact q
 | brk=>exact q
 | cont=>exact q
theorem aG (b:PS X st t):FH X [st] t:=by
 intro a s σ H D I h;refine wpAny_execs_cons (thn (b a s σ H D I h) λf c q=>?_);cases f with
 | next=>exact wpAny_execs_nil q
 | ret v=>exact q
 | brk=>exact q
 | cont=>exact q
def O6:TS:=λD σ H=>D.bk σ H
theorem IX:PS X (.Break pos) O6:=λ_ _ σ H _ I h=>wpAny_Break ⟨σ,H,I,h⟩
theorem aQ.quiet {a:c9}{σ:St}{H:Hp}{s:Shared}(I:aQ X a σ H s):interactive X.env=false:=by simp[interactive,I.ok.kind]
def tDrop (a:TE):TS:=λD σ H=>a σ H λ_ b=>D.nx σ b
theorem cS (d:PE X e te)(c:swapsWith e none pos.line X.env=pure false:=by rfl):PS X (.Expr e pos) (tDrop te):=by intro a s σ H D I h;exact wpAny_Expr_any (thn (d a s σ H _ I h) λv i ⟨x,g,f,r1,b⟩=>⟨σ,g,f,b⟩) I.quiet c
def tRet (a:TE):TS:=λD σ H=>a σ H D.rt
theorem aM (c:PE X e te):PS X (.Return (some e) pos) (tRet te):=by intro a s σ H D I h;exact wpAny_Return_some (thn (c a s σ H _ I h) λv g ⟨x,f,d,r1,b⟩=>⟨x,σ,f,d,r1,b⟩)
def tIfS (c:TT)(t u:TS):TS:=λD σ H=>c σ H λb a=>if b=true then t D σ a else u D σ a
theorem bD {c:Expr}{a b:List Stmt}{f:TT}(m:PT X c f)(q:FH X a t)(o:FH X b u):PS X (.If c a b pos) (tIfS f t u):=by
 intro e s σ H D I h;refine wpAny_If (thn (m e s σ H _ I h) λd g ⟨l,j,i⟩=>?_);cases d with
 | true=>exact q e g σ l D j i
 | false=>exact o e g σ l D j i
def tNever:TS:=λ_ _ _=>False
theorem dB:PS X st tNever:=λ_ _ _ _ _ _ h=>h.elim
end
abbrev TG:=V->St->Hp->(St->Hp->Prop)->Prop
abbrev N2:=List V->St->Hp->(St->Hp->Prop)->Prop
def PG (X:Cx)(a:Expr)(t:TG):Prop :=
 ∀(b:c9) (s:Shared) (σ:St) (H:Hp) (v:V) (u:Value) (Q:St->Hp->Prop),aQ X b σ H s->aU v u->t v σ H Q ->
  wpAny (model X.prog X.w) X.A (assign a X.env u) (λ_ d=>∃c H',aQ X b c H' d/\Q c H') X.xe s
def RW (X:Cx)(c:jW)(t:N2):Prop :=
 ∀(a:c9) (s:Shared) (σ:St) (H:Hp) (vs:List V) (us:cC) (Q:St->Hp->Prop),aQ X a σ H s->aX vs us->t vs σ H Q ->
  wpAny (model X.prog X.w) X.A (assignInOrder ((assignEach c X.env).map (·.2)) us) (λ_ d=>∃b H',aQ X a b H' d/\Q b H') X.xe s
abbrev QV:=V->V->V->Hp->(Hp->Prop)->Prop
def RV (X:Cx)(t:QV):Prop :=
 ∀(a:c9) (s:Shared) (σ:St) (H:Hp) (o i v:V) (ov iv u:Value) (Q:Hp->Prop),aQ X a σ H s->aU o ov->aU i iv->aU v u->t o i v H Q ->
  wpAny (model X.prog X.w) X.A (setItem ov iv u) (λ_ b=>∃H',aQ X a σ H' b/\Q H') X.xe s
section
variable {X:Cx}{pos:Pos}
def gName (i:Nat):TG:=λv σ H Q=>Q (σ.set i (some v)) H
theorem aZ {i:Nat}{x:Str}(e:X.N.Nodup)(c:X.N[i]?=some x)(b:R5 X.env.scope x)(d:X.fn x=true∨X.env.scope.names.lookup x=some .local:=by first|exact .inl rfl|exact .inr rfl|assumption):PG X (.Name x pos) (gName i):=by intro a s σ H v u Q I r h;exact wpAny_assign_Name (y8 I e c b r (λg f=>⟨_,H,f,h⟩) d)
def gNil:N2:=λvs σ H Q=>vs=[]/\Q σ H
def gCons (t:TG)(u:N2):N2:=λvs σ H Q=>∃v r,vs=v::r/\t v σ H λa H'=>u r a H' Q
theorem oK:RW X [] gNil:=by intro a s σ H vs us Q I r h;obtain⟨e,h⟩:=h;subst e;cases r;exact assignInOrder_nil ⟨σ,H,I,h⟩
theorem dX {e:Expr}{es:jW}{t:TG}{u:N2}(j:PG X e t)(i:RW X es u)
  (g:(assignEach (e::es) X.env).map (·.2)=assign e X.env::(assignEach es X.env).map (·.2):=by rfl):RW X (e::es) (gCons t u):=by
 intro a s σ H vs us Q I r h;obtain⟨v,q,l,h⟩:=h;subst l;cases r with
 | cons r d =>
  rw[g];refine assignInOrder_cons (thn (j a s σ H _ _ _ I r h) λ_ c ⟨b,o,m,f⟩=>?_);exact i a c b o _ _ Q m d f
def gTup (K:PySem.W.Frag)(n:Nat)(t:N2):TG:=λv σ H Q=>∃a xs,v = .ref a/\hZ K H a xs/\xs.length=n/\t xs σ H Q
theorem CA {es:jW}{k:Nat}{t:N2}{n:Nat}(w:X.calm=true)(h:RW X es t)
  (m:(assignEach es X.env).length=n:=by rfl) (f:(assignEach es X.env).findIdx? (·.1)=none:=by rfl):PG X (.Tuple es k pos) (gTup X.K n t):=by
 intro c s σ H v u Q I r d;obtain⟨a,xs,x,l,q,d⟩:=d;subst x;cases r;obtain⟨its,g,j,hz⟩:=I.tuple l;refine assign_Tuple_tuple (I.ok.hd w) j (by simp[m,←q,g.length]) f λh' i=>?_;have z:aQ X c σ H {s with heap:=h'}:=I.kept (t':=s.toks) λb o e=>i b o (bj (az e)) e;exact h c _ σ H xs _ Q z (by simpa using g) d
def gSub (a b:TE)(t:QV):TG:=λv σ H Q=>a σ H λo e=>b σ e λi d=>t o i v d λc=>Q σ c
theorem CB {o i:Expr}{d e:TE}{t:QV}(ho:PE X o d)(w:PE X i e)(q:RV X t)
  (z:∀v,assign (.Subscript o i pos) X.env v=(do
   let b ←holding [v] (eval o X.env)
   let c ←holding [v,b] (eval i X.env)
   standAt pos
   holding [v,b,c] (setItem b c v)
   release [v,b,c] []):=by intro _;rfl):PG X (.Subscript o i pos) (gSub d e t):=by
 intro a s σ H v u Q I r h;rw[z];refine aa (cf (thn (ho a s σ H _ I h) λb f ⟨x,G,C,r1,m⟩=>?_));refine aa (cf (thn (w a f σ G _ C m) λc s2 ⟨y,F,B,g,l⟩=>?_));refine aa (wpAny_standAt (aa (cf (thn (q a s2 σ F x y v b c u _ B r1 g r l) λ_ J ⟨E,A,j⟩=>?_))));exact wpAny_release ⟨σ,E,A,j⟩
def tAsg (a:TE)(g:TG):TS:=λD σ H=>a σ H λx b=>g x σ b D.nx
theorem jN {b e:Expr}{c:TE}{g:TG}(m:PE X e c)(l:PG X b g)(j:swapsWithSole [b] e pos.line X.env=pure false:=by rfl)(i:swappedStores [b] e X.env=pure none:=by rfl)
  (o:(assignEach [b] X.env).map (·.2)=[assign b X.env]:=by rfl):PS X (.Assign [b] e pos) (tAsg c g):=by
 intro a s σ H D I h;refine wpAny_Assign_stores (thn (m a s σ H _ I h) λv d ⟨x,u,r,r1,f⟩=>?_) j i;rw[o];exact thn (l a d σ u x v _ r r1 f) λ_ s2 q=>q
theorem aW {i:Nat}{x:Str}{e:Expr}{c:TE}{a:Pos}(o:X.N.Nodup)(j:X.N[i]?=some x)(f:R5 X.env.scope x)(m:PE X e c)(g:swapsWith e (some (.Name x a)) pos.line X.env=pure false:=by rfl)(l:X.fn x=true∨X.env.scope.names.lookup x=some .local:=by first|exact .inl rfl|exact .inr rfl|assumption) :
  PS X (.Assign [.Name x a] e pos) (tAsg c (gName i)):=by
 intro b s σ H D I h;refine wpAny_Assign_Name (thn (m b s σ H _ I h) λv w ⟨y,u,r,r1,d⟩=>?_) g;exact y8 r o j f r1 (λs2 q=>⟨_,u,q,d⟩) l
def BX (c:TT)(tb:TS):TS:=λD σ H=>∃W:Nat->St->Hp->Prop,(∃m,W m σ H)/\∀m σ H,W m σ H ->
 c σ H λb e=>if b=true then ∃N:St->Hp->Prop,(∀a H',N a H'->∃d,d<m/\W d a H')/\tb {D with nx:=N,ct:=N,bk:=D.nx} σ e else D.nx σ e
theorem sJ {c:Expr}{body:List Stmt}{u:TT}{tb:TS}(x:PassesOwn (model X.prog X.w) X.A X.env X.xe)(O:PT X c u)(P:FH X body tb):PS X (.While c body [] pos) (BX u tb):=by
 intro a s σ H D I h;obtain⟨W,⟨L,G⟩,turn⟩:=h;refine wpAny_While (codeAny_whileLoop (λn K=>∃r H',aQ X a r H' K/\W n r H') ?_ L ⟨σ,H,I,G⟩);rintro n J ⟨g,E,Q,F⟩;refine wpAny_passesOwn x (thn (O a J g E _ Q (turn n g E F)) λb s2 ⟨C,B,j⟩=>?_);cases b with
 | true =>
  obtain⟨N,z,j⟩:=j;rw[ai rfl];refine wpAny_passesOwn x (thn (P a s2 g C _ B j) λf R i=>?_);cases f with
  | next =>
   obtain⟨d,e,q,n3⟩:=i;obtain⟨m,o,l⟩:=z d e n3;exact⟨m,o,d,e,q,l⟩
  | cont =>
   obtain⟨d,e,q,n3⟩:=i;obtain⟨m,o,l⟩:=z d e n3;exact⟨m,o,d,e,q,l⟩
  | brk=>exact i
  | ret v=>exact i
 | false =>
  rw[ab Bool.false_ne_true];exact wpAny_execs_nil ⟨g,C,B,j⟩
end
structure It where
 go:Nat->Hp->Prop
 yld:Nat->Hp->V->Hp->Prop
 stop:Nat->Hp->Prop
def fH (X:Cx)(a:c9)(H:Hp)(b:Addr):Prop :=
 H b=none/\b≠X.env.locals/\b∉X.fs/\(b∈X.ex∨X.s₀.heap.objs.size<=b)/\(∀x c,X.env.cells.lookup x=some c->c≠b)/\∀p∈X.pn++a,p.1≠b
theorem aQ.fpOk {X:Cx}{a:c9}{σ:St}{H H':Hp}{s:Shared}{b:Addr}(I:aQ X a σ H s)(d:s.heap.objs.size<=b)(g:H' b=none):fH X a H' b:=by
 refine⟨g,Nat.ne_of_gt (bc I.lt d),I.nofs d,.inr (al I.sz d),λx c e z=>?_,λp f z=>?_⟩
 ·obtain⟨v,q⟩:=I.cell x c e;exact absurd (bc q.lt (by rw[z];exact d)) (bI _)
 ·exact absurd (bc (az (I.pin p f).1) (by rw[z];exact d)) (bI _)
structure oY (P:Program)(w:World)(K:PySem.W.Frag)(tg:Expr)(J:It)(fp:List Addr)(it:Addr)(tn:LL):Prop where
 mem:it∈fp
 obj:∀i h,tn i h->∀b∈fp,∃o,h.get? b=some o/\∀v,o.data≠.cell v
 keep:∀i h h',tn i h->(∀b∈fp,∀o,h.get? b=some o->h'.get? b=some o)->tn i h'
 item:∀(X:Cx),X.prog=P->X.w=w->X.K=K->X.calm=true->∀(i:Nat) (pins:c9) (s:Shared) (σ:St) (H:Hp) (E:cL),aQ X pins σ H s->(∀b∈fp,fH X pins H b)->tn i s.heap->J.go i H ->
  wpAny (model P w) X.A (pyNext (.ref it)) (λr s1=>∃u,r=some u /\
   wpAny (model P w) X.A (letOwnedTupleGo tg (.ref it) u) (λ_ s2=>∃x H',aQ X pins σ H' s2/\aU x u/\J.yld i H x H'/\tn (i+1) s2.heap/\∀b∈fp,H' b=none) E s1) E s
 done:∀(X:Cx),X.prog=P->X.w=w->X.K=K->X.calm=true->∀(i:Nat) (pins:c9) (s:Shared) (σ:St) (H:Hp) (E:cL),aQ X pins σ H s->(∀b∈fp,fH X pins H b)->tn i s.heap->J.stop i H ->
  wpAny (model P w) X.A (pyNext (.ref it)) (λr s1=>r=none/\aQ X pins σ H s1) E s
 self:∀(A:Around) (i:Nat) (s:Shared) (Q:cL) (E:cL),tn i s.heap->Q (.ref it) s->wpAny (model P w) A (pyIter (.ref it)) Q E s
abbrev TI:=St->Hp->(It->Hp->Prop)->Prop
def SU (X:Cx)(a:c9)(σ:St)(d:Expr)(R:It->Hp->Prop)(c:Value)(s2:Shared):Prop :=
 ∃(it:Addr) (fp:List Addr) (tn:LL) (J:It) (H':Hp),c = .ref it/\aQ X a σ H' s2/\oY X.prog X.w X.K d J fp it tn/\tn 0 s2.heap/\(∀b∈fp,fH X a H' b)/\R J H'
def PI (X:Cx)(c iter:Expr)(b:TI):Prop :=
 ∀(a:c9) (s:Shared) (σ:St) (H:Hp) (R:It->Hp->Prop),aQ X a σ H s->b σ H R ->
  wpAny (model X.prog X.w) X.A (eval iter X.env) (λv d=>wpAny (model X.prog X.w) X.A (pyIter v) (SU X a σ c R) X.xe d) X.xe s
theorem vP {M:Model}{A:Around}{E:cL}{s:Shared}{b:Expr}{it:Addr}{u:Value}{o:Obj}{n:String}{vs:gN}{Q:Unit->Shared->Prop}(ho:s.heap.get? it=some o)(d:o.cls = .type n)(hd:o.data = .fields vs)
  (c:["enumerate","zip","dict_itemiterator","dict_reverseitemiterator","odict_iterator","itertools.zip_longest","itertools.pairwise"].contains n=false) (a:Q () s):wpAny M A (letOwnedTupleGo b (.ref it) u) Q E s:=by
 unfold letOwnedTupleGo;cases b <;> first
  | exact ak a
  | (cases u <;> first
    | exact ak a
    | (refine aa (wpAny_load ho ?_);rw[d,hd];show wpAny M A (if (["enumerate","zip","dict_itemiterator","dict_reverseitemiterator","odict_iterator","itertools.zip_longest","itertools.pairwise"].contains n && vs[0]? == some (rawInt _))=true then _ else _) Q E s;rw[ab (by intro h;rw[c,Bool.false_and]at h;cases h)];exact ak a))
noncomputable def ON (K:PySem.W.Frag)(a:Addr):It :=
 ⟨λi H=>∃xs x,eK K H a xs/\xs[i]?=some x,λi H x H'=>H'=H/\∀xs,eK K H a xs->xs[i]?=some x,λi H=>∃xs,eK K H a xs/\xs.length<=i⟩
noncomputable def OM (K:PySem.W.Frag)(a:Addr):It :=
 ⟨λi H=>∃xs x,hZ K H a xs/\xs[i]?=some x,λi H x H'=>H'=H/\∀xs,hZ K H a xs->xs[i]?=some x,λi H=>∃xs,hZ K H a xs/\xs.length<=i⟩
noncomputable def LS (a:Int)(n:Nat):It:=⟨λi _=>i<n,λi H x H'=>H'=H/\x = .int (a+i),λi _=>n<=i⟩
theorem FP {P:Program}{w:World}{K:PySem.W.Frag}{L:Expr}(a it:Addr):oY P w K L (ON K a) [it] it (λi h=>h.IsListIter it a i) where
 mem:=by simp
 obj:=λi h st b g=>by
  have e:b=it:=by simpa using g
  subst e;obtain⟨o,e,c,d⟩:=st;exact⟨o,e,λv z=>by rw[d]at z;cases z⟩
 keep:=λi h h' st k=>st.at λo e=>k it (by simp) o e
 item:=by intro X C A F J i f s σ H E I m st B;subst C A F;obtain⟨xs,x,l,r⟩:=B;obtain⟨its,q,p,hz⟩:=I.list l;obtain⟨u,R,O⟩:=q.get r;obtain⟨f0,f1,f2,f3,f4,G⟩:=m it (by simp);refine wpAny_pyNext_list_item st p.isList (x:=u) (by simpa using R) λh' j N=>?_;have T:aQ X f σ H {s with heap:=h'}:=I.turned (t':=s.toks) (λb o g e=>(N.2 b g).trans e) f0 f1 f3 f4 G;obtain⟨o,e,c,d⟩:=id j;exact⟨u,rfl,vP (s:={s with heap:=h'}) e c d (by decide) ⟨x,H,T,O,⟨rfl,λU Q=>by rw[I.list_inj Q l];exact r⟩,j,λb g=>(m b g).1⟩⟩
 done:=by intro X C A F J i f s σ H E I m st B;subst C A F;obtain⟨xs,l,r⟩:=B;obtain⟨its,q,p,hz⟩:=I.list l;obtain⟨f0,f1,f2,f3,f4,G⟩:=m it (by simp);have Y:=q.length;exact wpAny_pyNext_list_end (I.ok.hd J) st p.isList (by simp;omega) λh' S=>⟨rfl,I.turned (t':=s.toks) (λb o g e=>S b o g e) f0 f1 f3 f4 G⟩
 self:=λ_ _ _ _ _ st h=>wpAny_pyIter_listiter st h
theorem BT {P:Program}{w:World}{K:PySem.W.Frag}{L:Expr}(a it:Addr):oY P w K L (OM K a) [it] it (λi h=>h.IsTupleIter it a i) where
 mem:=by simp
 obj:=λi h st b g=>by
  have e:b=it:=by simpa using g
  subst e;obtain⟨o,e,c,d⟩:=st;exact⟨o,e,λv z=>by rw[d]at z;cases z⟩
 keep:=λi h h' st k=>st.at λo e=>k it (by simp) o e
 item:=by intro X C A F J i f s σ H E I m st B;subst C A F;obtain⟨xs,x,l,r⟩:=B;obtain⟨its,q,p,hz⟩:=I.tuple l;obtain⟨u,R,O⟩:=q.get r;obtain⟨f0,f1,f2,f3,f4,G⟩:=m it (by simp);refine wpAny_pyNext_tuple_item st (show s.heap.IsTuple a its.toArray from p) (x:=u) (by simpa using R) λh' j N=>?_;have T:aQ X f σ H {s with heap:=h'}:=I.turned (t':=s.toks) (λb o g e=>(N.2 b g).trans e) f0 f1 f3 f4 G;obtain⟨o,e,c,d⟩:=id j;exact⟨u,rfl,vP (s:={s with heap:=h'}) e c d (by decide) ⟨x,H,T,O,⟨rfl,λU Q=>by rw[I.tuple_inj Q l];exact r⟩,j,λb g=>(m b g).1⟩⟩
 done:=by intro X C A F J i f s σ H E I m st B;subst C A F;obtain⟨xs,l,r⟩:=B;obtain⟨its,q,p,hz⟩:=I.tuple l;obtain⟨f0,f1,f2,f3,f4,G⟩:=m it (by simp);have Y:=q.length;exact wpAny_pyNext_tuple_end (I.ok.hd J) st (show s.heap.IsTuple a its.toArray from p) (by simp;omega) λh' S=>⟨rfl,I.turned (t':=s.toks) (λb o g e=>S b o g e) f0 f1 f3 f4 G⟩
 self:=λ_ _ _ _ _ st h=>wpAny_pyIter_tupleiter st h
theorem BU {P:Program}{w:World}{K:PySem.W.Frag}{x:Expr}(it:Addr)(f:Int)(n:Nat):oY P w K x (LS f n) [it] it (λi h=>IsRangeIter h it (f+(i:Nat) * 1) ((n:Int) - (i:Nat)) 1) where
 mem:=by simp
 obj:=λi h st b c=>by
  have e:b=it:=by simpa using c
  subst e
  exact⟨_,st,λv z=>by
   have z':Data.fields _=Data.cell v:=z
   cases z'⟩
 keep:=λi h h' st k=>k it (by simp) _ st
 item:=by intro X q j r m i a s σ H E I g st l;subst q j r;obtain⟨f0,f1,f2,f3,f4,u⟩:=g it (by simp);have W:=Walks.range (prog:=X.prog) (w:=X.w) (I.ok.hd m) it f 1 n;refine W.item i s _ _ l st λv h' tk B d A=>?_;obtain⟨t,rfl⟩:=B;have F:aQ X a σ H {s with heap:=h',toks:=tk}:=I.turned (λb o c e=>A b o (by simpa using c) e) f0 f1 f3 f4 u;refine⟨_,rfl,vP (s:={s with heap:=h',toks:=tk}) (n:="range_iterator") d rfl rfl (by decide) ⟨.int (f+i),H,F,⟨t,?_⟩,⟨rfl,rfl⟩,d,λb c=>(g b c).1⟩⟩;rw[Int.mul_one]
 done:=by intro X q j r m i a s σ H E I g st l;subst q j r;obtain⟨f0,f1,f2,f3,f4,u⟩:=g it (by simp);exact wpAny_pyNext_range_end (I.ok.hd m) st (by have:n<=i:=l;omega) λh' C=>⟨rfl,I.turned (t':=s.toks) (λb o c e=>C b o c e) f0 f1 f3 f4 u⟩
 self:=λ_ _ _ _ _ st h=>wpAny_pyIter_rangeiter st h
section
variable {X:Cx}{tg:Expr}
theorem IT {d:c9}{σ:St}{H:Hp}{s:Shared}{R:It->Hp->Prop}{E:cL}{a c:Int}{t u v:Tok}{tk:Nat}(I:aQ X d σ H s)(l : -(2 ^ 62)<=a)(j:a<2 ^ 62)(i : -(2 ^ 62)<=c)(h:c<2 ^ 62)
  (q:R (LS a (c - a).toNat) H):wpAny (model X.prog X.w) X.A (pyIter (.ref s.heap.objs.size)) (SU X d σ tg R) E {s with heap:=s.heap.push {cls:=.type "range",data:=.fields #[.int a t,.int c u,.int 1 v]},toks:=tk}:=by
 refine wpAny_pyIter_range (IsRange.new ..) (small_one l j i h) ?_;have f:aQ X d σ H {s with heap:=s.heap.push {cls:=.type "range",data:=.fields #[.int a t,.int c u,.int 1 v]},toks:=tk}:=I.kept λb o e=>af _ e
 refine⟨(s.heap.push {cls:=.type "range",data:=.fields #[.int a t,.int c u,.int 1 v]}).objs.size,[(s.heap.push {cls:=.type "range",data:=.fields #[.int a t,.int c u,.int 1 v]}).objs.size],_,_,H,rfl,
  f.kept (t':=tk) λb o e=>af _ e,BU _ a (c - a).toNat,?_,λb g=>?_,q⟩
 ·have r:a+((0:Nat):Int) * 1=a:=by simp
  have m:(((c - a).toNat:Nat):Int) - ((0:Nat):Int)=Builtin.Range.rangeSize a c 1:=by rw[rangeSize_one];split <;> omega
  show IsRangeIter _ _ (a+((0:Nat):Int) * 1) ((((c - a).toNat:Nat):Int) - ((0:Nat):Int)) 1;rw[r,m];exact ar _ rfl
 ·have e:b=(s.heap.push {cls:=.type "range",data:=.fields #[.int a t,.int c u,.int 1 v]}).objs.size:=by simpa using g
  subst e;exact f.fpOk (ac _) (f.hok.fresh (ac _))
def iRng1 (a:TA):TI:=λσ H R=>a σ H λvs b=>∃j:Int,vs=[.int j]/\-(2 ^ 62)<=j/\j<2 ^ 62/\R (LS 0 j.toNat) b
def iRng2 (a:TA):TI:=λσ H R=>a σ H λvs b=>∃i j:Int,vs=[.int i,.int j]/\(-(2 ^ 62)<=i/\i<2 ^ 62/\-(2 ^ 62)<=j/\j<2 ^ 62)/\R (LS i (j - i).toNat) b
theorem j6 {a:Expr}{f:TA}{p b:Pos}(o:Gl X "range")(m:X.mg "range" = none)(u:PA X [a] f)(l:starEach [a] X.env=[(false,eval a X.env)]:=by rfl):PI X tg (.Call (.Name "range" p) [a] [] b) (iRng1 f):=by
 intro c s σ H R I h;refine Call_ (lO I o m boot_range (PyProof.Rows.callWith_type1 (thn (u b c s σ H _ I h) λus w ⟨vs,x,v,r1,d⟩=>?_) l rfl));obtain⟨j,e,d,i,q⟩:=d;subst e;cases r1 with
 | cons r g =>
  cases g;obtain⟨t,rfl⟩:=r;exact call_range_1 (IT v (by omega) (by omega) d i (by simpa using q))
def tFor (d:TI)(g:TG)(tb:TS):TS:=λD σ H=>d σ H λJ f=>∃W:Nat->Nat->St->Hp->Prop,(∃m,W 0 m σ f)/\∀i m σ H,W i m σ H ->
 (J.stop i H/\D.nx σ H)∨(J.go i H/\∃N:St->Hp->Prop,(∀a H',N a H'->∃b,b<m/\W (i+1) b a H')/\∀x H',J.yld i H x H'->g x σ H' λc e=>tb {D with nx:=N,ct:=N,bk:=D.nx} c e)
noncomputable def sK (a:List Addr)(h:Heap):c9:=a.filterMap λb=>(h.get? b).map λo=>(b,o)
theorem nF {a:List Addr}{h:Heap}{b:Addr}{o:Obj}(c:b∈a)(e:h.get? b=some o):(b,o)∈sK a h:=List.mem_filterMap.mpr ⟨b,c,by rw[e];rfl⟩
theorem vF {a:List Addr}{h:Heap}{p:Addr×Obj}(c:p∈sK a h):p.1∈a/\h.get? p.1=some p.2:=by
 obtain⟨b,d,e⟩:=List.mem_filterMap.mp c;cases q:h.get? b with
 | none=>rw[q]at e;cases e
 | some o =>
  rw[q]at e;have e':(b,o)=p:=Option.some.inj e;subst e';exact⟨d,q⟩
theorem aQ.pinned {a:c9}{σ:St}{H:Hp}{s:Shared}{c:List Addr}(I:aQ X a σ H s)(i:∀b∈c,fH X a H b)(ho:∀b∈c,∃o,s.heap.get? b=some o/\∀v,o.data≠.cell v):aQ X (a++sK c s.heap) σ H s :=
 I.pins_of λp h=>(cr.mp h).elim (λz=>I.pin p (bv _ z)) λz=>by obtain⟨f,e⟩:=vF z;obtain⟨f0,f1,f2,_⟩:=i p.1 f;obtain⟨o,g,d⟩:=ho p.1 f;rw[e]at g;cases g;exact⟨e,f0,f1,f2,d⟩
theorem aQ.unpinned {a pl:c9}{σ:St}{H:Hp}{s:Shared}(I:aQ X (a++pl) σ H s):aQ X a σ H s:=I.pins_of λp b=>I.pin p (bv _ (cb _ b))
theorem dG {iter:Expr}{body:List Stmt}{wi:TI}{g:TG}{tb:TS}{Y:Pos}(O:PassesOwn (model X.prog X.w) X.A X.env X.xe)(hc:X.calm=true)(hi:PI X tg iter wi)(hg:PG X tg g)(l:FH X body tb)
  (hs:∀x,foldedSetIterable iter X.env x=pure x:=by intro _;rfl):PS X (.For tg iter body [] Y) (tFor wi g tb):=by
 intro a s σ H D I h;refine wpAny_For (thn (hi a s σ H _ I h) λv s1 h1=>thn h1 λitv s2 h2=>?_) hs;obtain⟨it,Q,tn,J,H2,e,I2,T,S,f2,W,⟨m0,w0⟩,turn⟩:=h2;subst e
 -- what stays true of the iterator's objects through the loop
 have j:∀{H':Hp},(∀b∈Q,H' b=none)->∀b∈Q,fH X a H' b:=λhn b l=>⟨hn b l,(f2 b l).2⟩
 refine codeAny_forLoop_any (λn s'=>∃i G H',aQ X a G H' s'/\tn i s'.heap/\(∀b∈Q,H' b=none)/\W i n G H') ?_ m0 ⟨0,σ,H2,I2,S,λb l=>(f2 b l).1,w0⟩;rintro n s3 ⟨i,F,R,I3,K,P,w3⟩;rcases turn i n F R w3 with⟨stop,qn⟩|⟨go,N,hN,step⟩
 ·refine wpAny_passesOwn O (thn (T.done X rfl rfl rfl hc i a s3 F R X.xe I3 (j P) K stop) λr s4 ⟨Z,I4⟩=>?_);subst Z;exact wpAny_execs_nil ⟨F,R,I4,qn⟩
 ·refine wpAny_passesOwn O (thn (T.item X rfl rfl rfl hc i a s3 F R X.xe I3 (j P) K go) λr s4 ⟨u,Z,h4⟩=>?_);subst Z;refine wpAny_passesOwn O (thn h4 λ_ s5 ⟨x,H5,I5,r5,y5,E,fr5⟩=>?_);have I5':=I5.pinned (j fr5) (T.obj _ _ E);refine wpAny_passesOwn O (thn (hg _ s5 F H5 x u _ I5' r5 (step x H5 y5)) λ_ s6 ⟨σ6,H6,I6,q6⟩=>?_);refine wpAny_passesOwn O (thn (l _ s6 σ6 H6 _ I6 q6) λf U C=>?_);have q:∀{c:St} {B:Hp},aQ X (a++sK Q s5.heap) c B U->N c B->∃m,m<n/\∃i G H',aQ X a G H' U/\tn i U.heap/\(∀b∈Q,H' b=none)/\W i m G H':=λ{c B} z L=>by obtain⟨m',hm,w7⟩:=hN c B L;refine⟨m',hm,i+1,c,B,z.unpinned,T.keep _ _ _ E λb l o e=>(z.pin (b,o) (bv _ (bv _ (nF l e)))).1,λb l=>?_,w7⟩;obtain⟨o,e,d⟩:=T.obj _ _ E b l;exact(z.pin (b,o) (bv _ (bv _ (nF l e)))).2.1
  cases f with
  | next=>obtain⟨c,B,z,L⟩:=C;exact q z L
  | cont=>obtain⟨c,B,z,L⟩:=C;exact q z L
  | brk=>obtain⟨c,B,z,C⟩:=C;exact⟨c,B,z.unpinned,C⟩
  | ret v=>obtain⟨x7,c,B,z,r7,C⟩:=C;exact⟨x7,c,B,z.unpinned,r7,C⟩
end
theorem KO {K:PySem.W.Frag}{a:Addr}{xs:List V}{g:TG}{tb:TS}{D:iM}{σ:St}{H:Hp}(Pv:Nat->St->Hp->Prop)(s:Pv 0 σ H)(o:∀i σ H,i<=xs.length->Pv i σ H->eK K H a xs)
  (l:∀i x σ H,xs[i]?=some x->Pv i σ H->g x σ H λc f=>tb {D with nx:=Pv (i+1),ct:=Pv (i+1),bk:=D.nx} c f) (hd:∀σ H,Pv xs.length σ H->D.nx σ H) :
  ∃W:Nat->Nat->St->Hp->Prop,(∃m,W 0 m σ H)/\∀i m σ H,W i m σ H ->
   ((ON K a).stop i H/\D.nx σ H)∨((ON K a).go i H/\∃N:St->Hp->Prop,(∀d H',N d H'->∃h,h<m/\W (i+1) h d H')/\∀x H',(ON K a).yld i H x H'->g x σ H' λc f=>tb {D with nx:=N,ct:=N,bk:=D.nx} c f):=by
 refine⟨λi m σ H=>m=xs.length - i/\i<=xs.length/\Pv i σ H,⟨xs.length,by simp,au _,s⟩,?_⟩;rintro i m σ H ⟨rfl,r,p⟩;have q:=o i σ H r p;by_cases b:i<xs.length
 ·refine .inr ⟨⟨xs,xs[i],q,by simp[b]⟩,Pv (i+1),λd H' j=>⟨xs.length - (i+1),by omega,rfl,b,j⟩,λx H' y=>?_⟩;obtain⟨e,y⟩:=y;subst e;exact l i x σ _ (y xs q) p
 ·have e:i=xs.length:=by omega
  subst e;exact .inl ⟨⟨xs,q,ac _⟩,hd σ H p⟩
theorem NK {K:PySem.W.Frag}{a:Addr}{xs:List V}{g:TG}{tb:TS}{D:iM}{σ:St}{H:Hp}(Pv:Nat->St->Hp->Prop)(s:Pv 0 σ H)(o:∀i σ H,i<=xs.length->Pv i σ H->hZ K H a xs)
  (l:∀i x σ H,xs[i]?=some x->Pv i σ H->g x σ H λc f=>tb {D with nx:=Pv (i+1),ct:=Pv (i+1),bk:=D.nx} c f) (hd:∀σ H,Pv xs.length σ H->D.nx σ H) :
  ∃W:Nat->Nat->St->Hp->Prop,(∃m,W 0 m σ H)/\∀i m σ H,W i m σ H ->
   ((OM K a).stop i H/\D.nx σ H)∨((OM K a).go i H/\∃N:St->Hp->Prop,(∀d H',N d H'->∃h,h<m/\W (i+1) h d H')/\∀x H',(OM K a).yld i H x H'->g x σ H' λc f=>tb {D with nx:=N,ct:=N,bk:=D.nx} c f):=by
 refine⟨λi m σ H=>m=xs.length - i/\i<=xs.length/\Pv i σ H,⟨xs.length,by simp,au _,s⟩,?_⟩;rintro i m σ H ⟨rfl,r,p⟩;have q:=o i σ H r p;by_cases b:i<xs.length
 ·refine .inr ⟨⟨xs,xs[i],q,by simp[b]⟩,Pv (i+1),λd H' j=>⟨xs.length - (i+1),by omega,rfl,b,j⟩,λx H' y=>?_⟩;obtain⟨e,y⟩:=y;subst e;exact l i x σ _ (y xs q) p
 ·have e:i=xs.length:=by omega
  subst e;exact .inl ⟨⟨xs,q,ac _⟩,hd σ H p⟩
theorem GY {b:Int}{n:Nat}{g:TG}{tb:TS}{D:iM}{σ:St}{H:Hp}(Pv:Nat->St->Hp->Prop)(o:Pv 0 σ H)
  (l:∀i σ H,i<n->Pv i σ H->g (.int (b+i)) σ H λc f=>tb {D with nx:=Pv (i+1),ct:=Pv (i+1),bk:=D.nx} c f) (hd:∀σ H,Pv n σ H->D.nx σ H) :
  ∃W:Nat->Nat->St->Hp->Prop,(∃m,W 0 m σ H)/\∀i m σ H,W i m σ H ->
   ((LS b n).stop i H/\D.nx σ H)∨((LS b n).go i H/\∃N:St->Hp->Prop,(∀d H',N d H'->∃h,h<m/\W (i+1) h d H')/\∀x H',(LS b n).yld i H x H'->g x σ H' λc f=>tb {D with nx:=N,ct:=N,bk:=D.nx} c f):=by
 refine⟨λi m σ H=>m=n - i/\i<=n/\Pv i σ H,⟨n,by simp,au _,o⟩,?_⟩;rintro i m σ H ⟨rfl,q,p⟩;by_cases a:i<n
 ·refine .inr ⟨a,Pv (i+1),λd H' j=>⟨n - (i+1),by omega,rfl,a,j⟩,λx H' y=>?_⟩;obtain⟨e,y⟩:=y;subst e y;exact l i σ _ a p
 ·have e:i=n:=by omega
  subst e;exact .inl ⟨ac _,hd σ H p⟩
abbrev R2:=V->V->Hp->VK->Prop
def iP (X:Cx)(f:Value->Value->Sem Value)(r:R2):Prop :=
 ∀(a:c9) (s:Shared) (σ:St) (H:Hp) (x y:V) (v u:Value) (Q:VK),aQ X a σ H s->aU x v->aU y u->r x y H Q ->
  wpAny (model X.prog X.w) X.A (f v u) (EP X a σ Q) X.xe s
def R9 (X:Cx)(f:Value->Sem Value)(r:V->Hp->VK->Prop):Prop :=
 ∀(a:c9) (s:Shared) (σ:St) (H:Hp) (x:V) (v:Value) (Q:VK),aQ X a σ H s->aU x v->r x H Q ->
  wpAny (model X.prog X.w) X.A (f v) (EP X a σ Q) X.xe s
def d9 (X:Cx)(f:Value)(r:List V->Hp->VK->Prop):Prop :=
 ∀(a:c9) (s:Shared) (σ:St) (H:Hp) (xs:List V) (us:cC) (Q:VK),aQ X a σ H s->aX xs us->r xs H Q ->
  wpAny (model X.prog X.w) X.A (call f us) (EP X a σ Q) X.xe s
def SA (X:Cx)(r:V->Hp->(Bool->Hp->Prop)->Prop):Prop :=
 ∀(a:c9) (s:Shared) (σ:St) (H:Hp) (x:V) (v:Value) (Q:Bool->Hp->Prop),aQ X a σ H s->aU x v->r x H Q ->
  wpAny (model X.prog X.w) X.A (truthy v) (TP X a σ Q) X.xe s
def tOp (r:R2)(a tb:TE):TE:=λσ H Q=>a σ H λx c=>tb σ c λy b=>r x y b Q
def tUn (r:V->Hp->VK->Prop)(a:TE):TE:=λσ H Q=>a σ H λx b=>r x b Q
def rI (C:Int->Int->Prop)(g:Int->Int->V):R2:=λx y H Q=>∃i j,x = .int i/\y = .int j/\C i j/\Q (g i j) H
def rI0 (g:Int->Int->V):R2:=λx y H Q=>∃i j,x = .int i/\y = .int j/\Q (g i j) H
def rU (g:Int->V):V->Hp->VK->Prop:=λx H Q=>∃i,x = .int i/\Q (g i) H
section
variable {X:Cx}{a b c:Expr}{ta tb tc:TE}{pos:Pos}
theorem binT (z:PE X a ta)(r:PE X b tb){c:c9}{s:Shared}{σ:St}{H:Hp}{R:V->V->Hp->Prop}(I:aQ X c σ H s)
  (h:ta σ H λx e=>tb σ e λy d=>R x y d) {Q:cL} {f:Value->Value->Sem Value}
  (q:∀v u s2 x y d,aQ X c σ d s2->aU x v->aU y u->R x y d->wpAny (model X.prog X.w) X.A (f v u) Q X.xe s2) :
  wpAny (model X.prog X.w) X.A (eval a X.env) (λv i=>wpAny (model X.prog X.w) X.A (eval b X.env) (λu g=>wpAny (model X.prog X.w) X.A (f v u) Q X.xe g) X.xe i) X.xe s:=by
 refine thn (z c s σ H _ I h) λv j ⟨x,e,C,r1,o⟩=>?_;refine thn (r c j σ e _ C o) λu s2 ⟨y,d,B,l,m⟩=>?_;exact q v u s2 x y d B r1 l m
theorem bF {op:Operator}{r:R2}(ho:iP X (binaryOp op) r)(g:PE X a ta)(f:PE X b tb):PE X (.BinOp a op b pos) (tOp r ta tb):=by intro c s σ H Q I h;exact wpAny_BinOp (binT g f I h λv u s2 x y j i e d q=>ho c s2 σ j x y v u Q i e d q)
theorem fQ {op:UnaryOp}{r:V->Hp->VK->Prop}(ho:R9 X (unaryOp op) r)(e:PE X a ta):PE X (.UnaryOp op a pos) (tUn r ta):=by intro b s σ H Q I h;exact UnaryOp_ (thn (e b s σ H _ I h) λv c ⟨x,g,f,r1,d⟩=>ho b c σ g x v Q f r1 d)
theorem opI {f:Value->Value->Sem Value}{C:Int->Int->Prop}{g:Int->Int->Int}
  (a:∀(i j:Int) (t u:Tok) (s:Shared) (Q:cL) (E:cL),C i j->Q (.int (g i j) s.toks) {s with toks:=s.toks+1}->wpAny (model X.prog X.w) X.A (f (.int i t) (.int j u)) Q E s) :
  iP X f (rI C λi j=>.int (g i j)):=by
 intro b s σ H x y v u Q I d c h;obtain⟨i,j,rfl,rfl,e,q⟩:=h;obtain⟨t,rfl⟩:=d;obtain⟨t',rfl⟩:=c;exact a i j t t' s _ _ e ⟨.int (g i j),H,I.tok _,⟨_,rfl⟩,q⟩
theorem opI0 {f:Value->Value->Sem Value}{g:Int->Int->Int}
  (a:∀(i j:Int) (t u:Tok) (s:Shared) (Q:cL) (E:cL),Q (.int (g i j) s.toks) {s with toks:=s.toks+1}->wpAny (model X.prog X.w) X.A (f (.int i t) (.int j u)) Q E s) :
  iP X f (rI0 λi j=>.int (g i j)):=by
 intro b s σ H x y v u Q I d c h;obtain⟨i,j,rfl,rfl,q⟩:=h;obtain⟨t,rfl⟩:=d;obtain⟨t',rfl⟩:=c;exact a i j t t' s _ _ ⟨.int (g i j),H,I.tok _,⟨_,rfl⟩,q⟩
theorem opB0 {f:Value->Value->Sem Value}{g:Int->Int->Bool}
  (a:∀(i j:Int) (t u:Tok) (s:Shared) (Q:cL) (E:cL),Q (.bool (g i j)) s->wpAny (model X.prog X.w) X.A (f (.int i t) (.int j u)) Q E s) :
  iP X f (rI0 λi j=>.bl (g i j)):=by
 intro b s σ H x y v u Q I d c h;obtain⟨i,j,rfl,rfl,q⟩:=h;obtain⟨t,rfl⟩:=d;obtain⟨t',rfl⟩:=c;exact a i j t t' s _ _ ⟨.bl (g i j),H,I,rfl,q⟩
def SQ (i j:Int):Prop:=0<j/\j<1073741824
def SO (i j:Int):Prop:=0<=j/\j<=1000000/\i.natAbs<2 ^ 64
def Q9 (i j:Int):Prop:=(-(2 ^ 64)<i/\i<2 ^ 64)∨(-(2 ^ 64)<j/\j<2 ^ 64)
theorem Q9.ok {i j:Int}(h:Q9 i j):IntMulOk i j:=by
 rcases h with⟨b,a⟩|⟨b,a⟩
 ·exact .of_left (intBits_le_64 b a)
 ·exact .of_right (intBits_le_64 b a)
theorem PY:iP X (binaryOp .Add) (rI0 λi j=>.int (i+j)):=opI0 λ_ _ _ _ _ _ _ q=>add_int q
theorem iW:iP X (binaryOp .Sub) (rI0 λi j=>.int (i - j)):=opI0 λ_ _ _ _ _ _ _ q=>sub_int q
theorem sQ:iP X (binaryOp .Mult) (rI Q9 λi j=>.int (i * j)):=opI λ_ _ _ _ _ _ _ a q=>mul_int q a.ok
theorem ED:iP X (binaryOp .FloorDiv) (rI SQ λi j=>.int (i / j)):=opI λi j _ _ _ _ _ a q=>by have c:(0:Int)<j:=a.1;have b:j<1073741824:=a.2;exact floordiv_int (by omega) (by rw[Int.fdiv_eq_ediv_of_nonneg i (by omega)];exact q) (.inl (PyProof.noPylong_small (by omega)))
theorem nB:iP X (binaryOp .Mod) (rI (λ_ j=>0<j) λi j=>.int (i % j)):=opI λi j _ _ _ _ _ a q=>by have b:(0:Int)<j:=a;exact mod_int' (by omega) (by rw[Int.fmod_eq_emod_of_nonneg i (by omega)];exact q)
theorem PU:iP X (binaryOp .Pow) (rI SO λi j=>.int (i ^ j.toNat)):=opI λ_ _ _ _ _ _ _ a q=>pow_int_small a.1 a.2.1 a.2.2 q
theorem unI {f:Value->Sem Value}{g:Int->Int}
  (a:∀(i:Int) (t:Tok) (s:Shared) (Q:cL) (E:cL),Q (.int (g i) s.toks) {s with toks:=s.toks+1}->wpAny (model X.prog X.w) X.A (f (.int i t)) Q E s) :
  R9 X f (rU λi=>.int (g i)):=by
 intro b s σ H x v Q I c h;obtain⟨i,rfl,q⟩:=h;obtain⟨t,rfl⟩:=c;exact a i t s _ _ ⟨.int (g i),H,I.tok _,⟨_,rfl⟩,q⟩
theorem dS:R9 X (unaryOp .USub) (rU λi=>.int (-i)):=unI λ_ _ _ _ _ q=>neg_int q
theorem yJ {a:c9}{σ:St}{H:Hp}{s:Shared}{Q:VK}{k b:Bool}(I:aQ X a σ H s)(q:Q (.bl k) H)(e:k=b):EP X a σ Q (.bool b) s:=by subst e;exact⟨.bl k,H,I,rfl,q⟩
theorem RJ:iP X (compareOp .Lt) (rI0 λi j=>.bl (decide (i<j))):=opB0 λ_ _ _ _ _ _ _ q=>lt_int q
theorem k6:iP X (compareOp .LtE) (rI0 λi j=>.bl (decide (i<=j))):=opB0 λ_ _ _ _ _ _ _ q=>le_int q
theorem OD:iP X (compareOp .Gt) (rI0 λi j=>.bl (decide (j<i))):=opB0 λ_ _ _ _ _ _ _ q=>gt_int q
theorem OE:iP X (compareOp .GtE) (rI0 λi j=>.bl (decide (j<=i))):=opB0 λ_ _ _ _ _ _ _ q=>ge_int q
theorem GD:iP X (compareOp .Lt) (λx y H Q=>∃i j,x = .str i/\y = .str j/\Q (.bl (decide (i.cps.toList<j.cps.toList))) H):=by intro a s σ H x y v u Q I c b h;obtain⟨i,j,rfl,rfl,q⟩:=h;obtain⟨t,rfl⟩:=c;obtain⟨t',rfl⟩:=b;exact lt_str (yJ I q rfl)
theorem pQ:iP X (compareOp .In) (λx y H Q=>∃i j,x = .str i/\y = .str j/\Q (.bl (!(Builtin.Str.occurrences j i 0 j.length 1).isEmpty)) H):=by intro a s σ H x y v u Q I c b h;obtain⟨i,j,rfl,rfl,q⟩:=h;obtain⟨t,rfl⟩:=c;obtain⟨t',rfl⟩:=b;exact in_str (yJ I q rfl)
theorem pO:iP X (compareOp .Is) (λx y H Q=>y = .non/\Q (.bl (decide (x = .non))) H):=by
 intro b s σ H x y v u Q I a c h;obtain⟨rfl,q⟩:=h;cases c;refine is_none_gen (yJ I q ?_);cases x <;> first
  | (cases a;rfl)
  | (obtain⟨t,rfl⟩:=a;rfl)
theorem EC:iP X (compareOp .IsNot) (λx y H Q=>y = .non/\Q (.bl (!decide (x = .non))) H):=by
 intro b s σ H x y v u Q I a c h;obtain⟨rfl,q⟩:=h;cases c;refine isnot_none_gen (yJ I q ?_);cases x <;> first
  | (cases a;rfl)
  | (obtain⟨t,rfl⟩:=a;rfl)
theorem iP.or {f:Value->Value->Sem Value}{r d:R2}(h:iP X f r)(h':iP X f d):iP X f (λx y H Q=>r x y H Q∨d x y H Q):=by
 intro a s σ H x y v u Q I c b q;rcases q with q|q
 ·exact h a s σ H x y v u Q I c b q
 ·exact h' a s σ H x y v u Q I c b q
theorem nomark (b:Expr){op:CmpOp}(h:op≠.In:=by decide)(a:op≠.NotIn:=by decide):behindInMarks op b=false:=by
 have d:(op == CmpOp.In)=false:=by cases op <;> first|rfl|exact absurd rfl h
 have c:(op == CmpOp.NotIn)=false:=by cases op <;> first|rfl|exact absurd rfl a
 cases b <;> simp[behindInMarks,d,c]
theorem gH {op:CmpOp}{r:R2}(ho:iP X (compareOp op) r)(i:PE X a ta)(g:PE X b tb)(f:behindInMarks op b=false):PE X (.Compare a [op] [b] pos) (tOp r ta tb):=by intro c s σ H Q I h;exact wpAny_Compare1 (binT i g I h λv u s2 x y l j e d q=>ho c s2 σ l x y v u Q j e d q) f
def tTest (t:TE):TT:=λσ H Q=>t σ H λx H'=>∃k,x = .bl k/\Q k H'
theorem aY {op:CmpOp}{r:R2}(ho:iP X (compareOp op) r)(w:PE X a ta)(q:PE X b tb)(o:behindInMarks op b=false):PT X (.Compare a [op] [b] pos) (tTest (tOp r ta tb)):=by
 intro d s σ H Q I h
 refine wpAny_isTrue_Compare1 (thn (w d s σ H _ I h) λv f ⟨x,G,C,r1,m⟩=>thn (q d f σ G _ C m) λu s2 ⟨y,F,B,i,l⟩ =>
  thn (ho d s2 σ F x y v u _ B r1 i l) λc J ⟨z,E,A,g,k,e,j⟩=>?_) o
 subst e;cases g;exact wpAny_truthy_bool ⟨E,A,j⟩
def tChain (r e:R2)(d tb c:TE):TE:=λσ H Q=>d σ H λx h=>tb σ h λy g=>r x y g λz a=>∃k,z = .bl k /\
 (if k=true then c σ a λb f=>e y b f Q else Q (.bl false) a)
theorem iT {op g:CmpOp}{r l:R2}(ho:iP X (compareOp op) r)(i:iP X (compareOp g) l)(U:PE X a ta)(T:PE X b tb)(S:PE X c tc)
  (R:lastMarks [op,g] [b,c]=false:=by with_unfolding_all rfl):PT X (.Compare a [op,g] [b,c] pos) (tTest (tChain r l ta tb tc)):=by
 intro f s σ H Q I h
 refine isTrue_chain (thn (U f s σ H _ I h) λv E ⟨x,H1,I1,r1,O⟩=>test_link (thn (T f E σ H1 _ I1 O) λu s2 ⟨y,H2,I2,j,N⟩ =>
  thn (ho f s2 σ H2 x y v u _ I2 r1 j N) λd C ⟨z,q,o,J,k,e,m⟩=>?_)) R
 subst e;cases J;refine wpAny_truthy_bool ?_;cases k with
 | false =>
  obtain⟨k',Y,P⟩:=m;cases Y;exact ite_ff ⟨q,o,P⟩
 | true =>
  refine ite_tt (test_last (thn (S f C σ q _ o m) λA B ⟨w,H4,I4,G,L⟩=>thn (i f B σ H4 y w u A _ I4 j G L) λd' s5 ⟨z2,H5,Z,F,k2,W,K⟩=>?_));subst W;cases F;exact wpAny_truthy_bool ⟨H5,Z,K⟩
def LD (K:PySem.W.Frag)(x:V)(H:Hp)(k:Bool):Prop :=
 match x with
 | .non=>k=false
 | .bl b=>k=b
 | .int i=>k=(i != 0)
 | .str y=>y.length<=sizeLine/\k=((y.length:Int) != 0)
 | .byt y=>y.size<=sizeLine/\k=((y.size:Int) != 0)
 | .ref p=>(∃xs,eK K H p xs/\k=!xs.isEmpty)∨(∃xs,hZ K H p xs/\k=!xs.isEmpty)∨∃a,H p=some (.dK a)/\k=!a.isEmpty
 | _=>False
theorem C8 {κ:Type}{a:List (κ×V)}{vs:List (κ×Value)}(r:KV a vs):(!vs.isEmpty)=!a.isEmpty:=by cases r <;> rfl
theorem sZ {xs:List V}{its:cC}(r:aX xs its):(!its.toArray.isEmpty)=!xs.isEmpty:=by cases r <;> simp
theorem line63:(sizeLine:Nat)<2 ^ 63:=by rw[sizeLine_eq];decide
theorem HX:SA X (λx H Q=>∃k,LD X.K x H k/\Q k H):=by
 intro j s σ H x v Q I f h;obtain⟨k,e,q⟩:=h;have o:=line63;have l:sizeLine=16777216:=sizeLine_eq;cases x with
 | non =>
  cases f;have a:k=false:=e;subst a;exact truthy_none ⟨H,I,q⟩
 | bl b =>
  cases f;have a:k=b:=e;subst a;exact wpAny_truthy_bool ⟨H,I,q⟩
 | int i =>
  obtain⟨t,rfl⟩:=f;have a:k=(i != 0):=e;subst a;exact PySem.P.truthy_int ⟨H,I,q⟩
 | str y =>
  obtain⟨t,rfl⟩:=f;obtain⟨hy,a⟩:y.length<=sizeLine/\k=((y.length:Int) != 0):=e;subst a;exact PySem.P.truthy_str (by omega) ⟨H,I.tok _,q⟩
 | byt y =>
  obtain⟨t,rfl⟩:=f;obtain⟨hy,a⟩:y.size<=sizeLine/\k=((y.size:Int) != 0):=e;subst a;exact PySem.W.truthy_bytes (by omega) ⟨H,I.tok _,q⟩
 | ref p =>
  cases f;have a:(∃xs,eK X.K H p xs/\k=!xs.isEmpty)∨(∃xs,hZ X.K H p xs/\k=!xs.isEmpty)∨∃c,H p=some (.dK c)/\k=!c.isEmpty:=e;rcases a with⟨xs,g,a⟩|⟨xs,g,a⟩|⟨c,g,a⟩
  ·subst a;obtain⟨its,r,pl,hz⟩:=I.list g;have d:=r.length;exact wpAny_truthy_list pl.isList (by simp only[ag];omega) ⟨H,I.tok _,by rw[sZ r];exact q⟩
  ·subst a;obtain⟨its,r,pl,hz⟩:=I.tuple g;have d:=r.length;exact truthy_tuple pl (by simp only[ag];omega) ⟨H,I.tok _,by rw[sZ r];exact q⟩
  ·subst a;obtain⟨hz,hS,vs,r,m⟩:c.length<=sizeLine/\(p == sysModules)=false/\∃vs,KV c vs/\s.heap.DictOf (bU X.prog X.w) p vs:=I.hok p _ g;have d:c.length=vs.length:=Paired.length r;exact wpAny_truthy_dict hS m (by omega) ⟨H,I.tok _,by rw[C8 r];exact q⟩
 | _=>exact(show False from e).elim
theorem IW (g:PE X a ta)(f:∀b,isTrue a X.env b=(do let v ←b;standAt a.pos;holding [v] (truthy v))) :
  PT X a (λσ H Q=>ta σ H λx H'=>∃k,LD X.K x H' k/\Q k H'):=by
 intro c s σ H Q I h;exact isTrue_plain (thn (g c s σ H _ I h) λv d ⟨x,j,i,r1,e⟩=>HX c d σ j x v Q i r1 e) (f _)
theorem CI:iP X (binaryOp .Add) (λx y H Q=>∃i j,x = .str i/\y = .str j/\i.length+j.length<=sizeLine/\Q (.str (i++j)) H):=by intro a s σ H x y v u Q I c b h;obtain⟨i,j,rfl,rfl,hz,q⟩:=h;obtain⟨t,rfl⟩:=c;obtain⟨t',rfl⟩:=b;exact add_str (λt' tk=>⟨.str (i++j),H,I.tok _,⟨_,rfl⟩,q⟩) hz
theorem vals1 {x:V}{us:cC}(r:aX [x] us):∃u,us=[u]/\aU x u:=by
 cases r with
 | cons r1 a=>cases a;exact⟨_,rfl,r1⟩
theorem vals2 {x y:V}{us:cC}(r:aX [x,y] us):∃u a,us=[u,a]/\aU x u/\aU y a:=by
 cases r with
 | cons r1 d =>
  cases d with
  | cons c b=>cases b;exact⟨_,_,rfl,r1,c⟩
theorem HC:d9 X (.type "int") (λxs H Q=>(∃i,xs=[.int i]/\Q (.int i) H)∨∃k,xs=[.bl k]/\Q (.int (if k then 1 else 0)) H):=by
 intro a s σ H xs us Q I r h;rcases h with⟨i,rfl,q⟩|⟨k,rfl,q⟩
 ·obtain⟨u,rfl,t,rfl⟩:=vals1 r;exact call_int_int ⟨.int i,H,I,⟨_,rfl⟩,q⟩
 ·obtain⟨u,rfl,r1⟩:=vals1 r;cases r1;exact call_int_bool ⟨.int (if k then 1 else 0),H,I.tok _,⟨_,rfl⟩,q⟩
end
structure DO (h:Heap)(x dx C:Addr)(mA:iH):Prop where
 obj:h.get? x=some (PySem.W.instObj C dx)
 ns:h.Ns1 dx mA
 ne:dx≠x
theorem GR {h:Heap}{d:Addr}{c:iH}(n:h.Ns1 d c):∃od,h.get? d=some od/\∀name,PySem.W.lookIn name od=some (c name):=by
 obtain⟨o,es,j,ho,hd,i,_,g⟩:=n;refine⟨o,ho,λname=>?_⟩;have e:=g name;unfold nsFind findBy at e;rw[←Array.find?_toList]at e;unfold PySem.W.lookIn;rw[hd];dsimp only;split
 ·rename_i y q;rw[q]at e;exact congrArg some e
 ·rename_i q;rw[q]at e;have a:es.toList.any (·.refKey)=false:=by rw[List.any_eq_false];intro y f;obtain⟨z,t,b⟩:=i y (Array.mem_toList_iff.mp f);simp[DictEntry.refKey,b]
  have a':¬es.toList.any (·.refKey)=true:=by rw[a];exact Bool.false_ne_true
  rw[ab a'];exact congrArg some e
theorem DO.look {h:Heap}{x b C:Addr}{a:iH}(I:DO h x b C a):∃od,PySem.W.InstAt h x (PySem.W.instObj C b) C (some od)/\∀name,PySem.W.lookIn name od=some (a name) :=
 let⟨od,ho,hl⟩:=GR I.ns
 ⟨od,⟨I.obj,rfl,rfl,ho⟩,hl⟩
section
variable {prog:Program}{w:World}{A:Around}{E:cL}{s:Shared}{K:PySem.W.Frag}{x dx C f:Addr}{mA:iH}{name:Str}{v:Value}
theorem NJ {a:Bool}{Q:cL}(X:K.In s.heap)(I:DO s.heap x dx C mA)(f:PySem.W.plainGet K C name=true)(e:PySem.W.hasDictIn K C=true)
  (g:PySem.W.findIn K (.ref C) name=some none) (c:mA name=some v) (b:PySem.W.handedIn v=true) (h:Q v {s with toks:=s.toks+1}) :
  wpAny (model prog w) A (getAttr (.ref x) name a) Q E s:=by
 obtain⟨od,J,d⟩:=I.look;exact PySem.W.get_value X J (PySem.W.plainGet_of f).1 (PySem.W.findObj_own e g rfl (by rw[d,c])) b h
theorem KN {pl:Sem Bool}{Q:Value×cC->Shared->Prop}(X:K.In s.heap)(I:DO s.heap x dx C mA)(a:PySem.W.plainGet K C name=true)
  (e:PySem.W.findIn K (.ref C) name=some (some (.ref f))) (c:PySem.W.isFn K (.ref f)=true) (b:mA name=none) (h:Q (.ref f,[.ref x]) s) :
  wpAny (model prog w) A (getMethod (.ref x) name pl) Q E s:=by
 obtain⟨od,J,d⟩:=I.look;exact PySem.W.method_fn X J (PySem.W.plainGet_of a).1 (PySem.W.plainGet_of a).2 e (beq_iff_eq.mp c) (by show(PySem.W.lookIn name od).map (·.isSome)=some false;rw[d,b];rfl) h
theorem LY {ns:aV}{Q:Unit->Shared->Prop}(X:K.In s.heap)(I:DO s.heap x dx C mA)
  (o:PySem.W.findIn K (.ref C) "__setattr__" = some (some (.builtin "object.__setattr__"))) (q:PySem.W.plainOver K C=true) (m:PySem.W.takerIn K C name=some none) (u:PySem.W.hasDictIn K C=true)
  (l:PySem.Within mA ns) (hsz:ns.length<=sizeLine)
  (h:∀h',DO h' x dx C (λy=>if y=name then some v else mA y)->Heap.SameBut dx s.heap h'->Q () {s with heap:=h',toks:=s.toks+2}) :
  wpAny (model prog w) A (setAttr (.ref x) name v) Q E s:=by
 obtain⟨od,J,H⟩:=I.look;refine PySem.W.set_plain X J o (PySem.W.osa_open (s:={s with toks:=s.toks+1}) (r:=none) X J q m λb=>?_);obtain⟨L,z,g⟩:=PySem.W.any_some u;have j:s.heap.get? x=some ⟨.ref C,some dx,.plain,#[]⟩:=I.obj;refine aa (ak (aa (aa (wpAny_loadPart j (aa (PySem.W.Looks.here (s:={s with toks:=s.toks+1}) (PySem.W.looks_clsIn X z) ?_))))));rw[g];refine ak (a:=some dx) (aa (ak (aa ?_)));refine wpAny_nsSet1 (s:={s with toks:=s.toks+1}) I.ns λh' d c=>?_;obtain⟨G,B,F,e,f,i⟩:=d.count (PySem.Within.cons name v l);refine aa (wpAny_lookBehind e (by rw[f];exact pastItsLine_dict (al i (by rw[ao];omega))) ?_);exact ak (h _ ⟨(c.2 _ (Ne.symm I.ne)).trans I.obj,d,I.ne⟩ c)
theorem KB {R:Result->Shared->Prop}{vs:cC}{a:List (Str×Value)}(X:K.In s.heap)(b:PySem.W.makesIn K C=true)
  (c:PySem.W.findIn K (.ref C) "__init__" = some (some (.ref f))) (e:PySem.W.typeIn K (.ref f)=some (.type "function"))
  (h:codeAny (model prog w) (A.under (.builtin "type.__call__" ⟨.ref C::vs,a⟩)) (.call (.ref f) ⟨.ref (s.heap.objs.size+1)::vs,a⟩) (PySem.W.InitBack (s.heap.objs.size+1) R)
   {s with heap:=(s.heap.push PySem.W.emptyDict).push (PySem.W.instObj C s.heap.objs.size)}) :
  codeAny (model prog w) A (.call (.ref C) ⟨vs,a⟩) R s:=by
 obtain⟨i,g,d,t,os⟩:=s;exact PySem.W.make_core (PySem.W.makes_of X b) (PySem.W.looks_findIn X c) (λself=>PySem.W.bind_fn X self e) (.inl rfl) h
end
noncomputable def putF (f:Str)(v:V):List (Str×V)->List (Str×V)
 | []=>[(f,v)]
 | (g,x)::r=>if g=f then(g,v)::r else(g,x)::putF f v r
theorem cK (f g:Str)(v:V):∀fs:List (Str×V),(putF f v fs).lookup g=if g=f then some v else fs.lookup g
 | []=>by
  show List.lookup g [(f,v)]=_;by_cases h:g=f
  ·have a:(g == f)=true:=beq_iff_eq.mpr h;simp only[List.lookup,a,ai h]
  ·have a:(g == f)=false:=cu.mpr h;simp only[List.lookup,a,ab h]
 | (k,x)::r=>by
  have c:=cK f g v r;rw[show putF f v ((k,x)::r)=(if k=f then(k,v)::r else(k,x)::putF f v r)from rfl];by_cases b:k=f
  ·rw[ai b];by_cases h:g=k
   ·have a:(g == k)=true:=beq_iff_eq.mpr h;simp only[List.lookup,a,ai (h.trans b)]
   ·have a:(g == k)=false:=cu.mpr h;simp only[List.lookup,a,ab (λe:g=f=>h (e.trans b.symm))]
  ·rw[ab b];by_cases h:g=k
   ·have a:(g == k)=true:=beq_iff_eq.mpr h;simp only[List.lookup,a,ab (λe:g=f=>b (h.symm.trans e))]
   ·have a:(g == k)=false:=cu.mpr h;simp only[List.lookup,a];exact c
theorem pW (f:Str)(v:V):∀fs:List (Str×V),f∈(putF f v fs).map (·.1)/\∀g,g∈fs.map (·.1)->g∈(putF f v fs).map (·.1)
 | []=>⟨by simp[putF],λg h=>by simp at h⟩
 | (k,x)::r=>by
  obtain⟨c,b⟩:=pW f v r;rw[show putF f v ((k,x)::r)=(if k=f then(k,v)::r else(k,x)::putF f v r)from rfl];by_cases a:k=f
  ·rw[ai a];subst a;exact⟨by simp,λg h=>by simpa using h⟩
  ·rw[ab a];refine⟨?_,λg h=>?_⟩
   ·rw[ba];exact ay _ c
   ·rw[ba]at h⊢;rcases cp.mp h with e|e
    ·exact cp.mpr (.inl e)
    ·exact ay _ (b g e)
theorem fU (f:Str)(v:V):∀fs:List (Str×V),(putF f v fs).length<=fs.length+1
 | []=>by simp[putF]
 | (k,x)::r=>by
  have b:=fU f v r;rw[show putF f v ((k,x)::r)=(if k=f then(k,v)::r else(k,x)::putF f v r)from rfl];by_cases a:k=f
  ·rw[ai a,ao,ao];omega
  ·rw[ab a,ao,ao];omega
theorem j7.some_of {v:V}{o:Option Value}(r:j7 (some v) o):∃u,o=some u/\aU v u:=by
 cases o with
 | none=>exact(show False from r).elim
 | some u=>exact⟨u,rfl,r⟩
theorem j7.none_of {o:Option Value}(r:j7 none o):o=none:=by
 cases o with
 | none=>rfl
 | some u=>exact(show False from r).elim
theorem GX {v:V}{u:Value}(r:aU v u):PySem.W.handedIn u=true:=by
 cases v with
 | non=>cases (show u=Value.none from r);rfl
 | bl b=>cases (show u=Value.bool b from r);rfl
 | int i=>obtain⟨t,e⟩:=(show ∃t,u=Value.int i t from r);cases e;rfl
 | str x=>obtain⟨t,e⟩:=(show ∃t,u=Value.str x t from r);cases e;rfl
 | byt b=>obtain⟨t,e⟩:=(show ∃t,u=Value.bytes b t from r);cases e;rfl
 | flt b=>obtain⟨t,e⟩:=(show ∃t,u=Value.float b t from r);cases e;rfl
 | ref a=>cases (show u=Value.ref a from r);rfl
 | ty n=>cases (show u=Value.type n from r);rfl
section
variable {P:Program}{w:World}{H H':Hp}{h h':Heap}{a C dx:Addr}{fs fs':List (Str×V)}
theorem yF (hok:gQ P w H h)(e:H a=some (.ins C dx fs)):∃b,DO h a dx C b/\(∀f,j7 (fs.lookup f) (b f))/\PySem.Within b (fs.map (·.1))/\fs.length<=1000/\H dx=some (.own a):=by
 obtain⟨d,z,ne,ob,b,n,r,q⟩:=(show cB P w H h a (.ins C dx fs)from hok a _ e)
 exact⟨b,⟨ob,n,ne⟩,r,q,z,d⟩
end
structure HG (K:PySem.W.Frag)(C:Addr):Prop where
 pg:PySem.W.plainGet K C Str.empty=true
 hd:PySem.W.hasDictIn K C=true
 po:PySem.W.plainOver K C=true
 sa:PySem.W.findIn K (.ref C) "__setattr__" = some (some (.builtin "object.__setattr__"))
theorem HG.get {K:PySem.W.Frag}{C:Addr}(c:HG K C)(f:Str):PySem.W.plainGet K C f=true:=c.pg
def iF (K:PySem.W.Frag)(C:Addr)(f:Str):Prop:=PySem.W.findIn K (.ref C) f=some none
theorem iF.taker {K:PySem.W.Frag}{C:Addr}{f:Str}(n:iF K C f):PySem.W.takerIn K C f=some none:=by unfold PySem.W.takerIn;rw[show PySem.W.findIn K (.ref C) f=some none from n];rfl
structure N5 (K:PySem.W.Frag)(C:Addr)(m:Str)(f:Addr):Prop where
 at_:PySem.W.findIn K (.ref C) m=some (some (.ref f))
 fn:PySem.W.isFn K (.ref f)=true
 kp:PySem.W.keepIn K (.ref f)=true
section
variable {X:Cx}{pins:c9}{σ:St}{H:Hp}{s:Shared}{a C dx:Addr}{fs:List (Str×V)}{f:Str}{v:V}{A:Around}{E:cL}
theorem DA {b:Bool}{Q:cL}(I:aQ X pins σ H s)(e:H a=some (.ins C dx fs))(c:HG X.K C)(n:iF X.K C f)(l:fs.lookup f=some v)
  (h:∀u d,aQ X pins σ H d->aU v u->Q u d):wpAny (model X.prog X.w) A (getAttr (.ref a) f b) Q E s:=by
 obtain⟨i,O,r,_,_,_⟩:=yF I.hok e;obtain⟨u,j,g⟩:=j7.some_of (v:=v) (o:=i f) (by rw[←l];exact r f);exact NJ I.kIn O (c.get f) c.hd n j (GX g) (h u _ (I.tok _) g)
theorem tF {m:Str}{g:Addr}{pl:Sem Bool}{Q:Value×cC->Shared->Prop}(I:aQ X pins σ H s)(e:H a=some (.ins C dx fs))(c:HG X.K C)(k:N5 X.K C m g)(l:fs.lookup m=none)
  (h:Q (.ref g,[.ref a]) s):wpAny (model X.prog X.w) A (getMethod (.ref a) m pl) Q E s:=by
 obtain⟨b,O,r,_,_,_⟩:=yF I.hok e;have d:b m=none:=j7.none_of (by rw[←l];exact r m);exact KN I.kIn O (c.get m) k.at_ k.fn d h
theorem B1 {y:V}{u:Value}{Q:Unit->Shared->Prop}(I:aQ X pins σ H s)(e:H a=some (.ins C dx fs))(c:HG X.K C)(n:iF X.K C f)(G:fs.length<1000)(v:aU y u)
  (h:∀j,aQ X pins σ (upd H a (.ins C dx (putF f y fs))) j->Q () j):wpAny (model X.prog X.w) A (setAttr (.ref a) f u) Q E s:=by
 obtain⟨l,O,r,i,_,ho⟩:=yF I.hok e;have hz:(fs.map (·.1)).length<=sizeLine:=by rw[ae,sizeLine_eq];omega
 refine LY I.kIn O c.sa c.po n.taker c.hd i hz λh' d m=>h _ ?_;have hd:∃o,h'.get? dx=some o:=let⟨o,_,_,e',_⟩:=d.ns;⟨o,e'⟩;refine I.write (x:=a) (e:=dx) (by rw[e];exact True.intro) (.inr ho) (λb q F z=>(m.2 b F).trans z) hd ?_;refine⟨by rw[aE O.ne];exact ho,?_,O.ne,d.obj,_,d.ns,λg=>?_,λg B=>?_⟩
 ·have:=fU f y fs;omega
 ·show j7 ((putF f y fs).lookup g) (if g=f then some u else l g);rw[cK];by_cases q:g=f
  ·rw[ai q,ai q];exact v
  ·rw[ab q,ab q];exact r g
 ·by_cases q:g=f
  ·rw[q];exact(pW f y fs).1
  ·refine(pW f y fs).2 g (i g λz=>B ?_);show(if g=f then some u else l g)=none;rw[ab q];exact z
theorem aQ.made (I:aQ X pins σ H s):aQ X pins σ (upd (upd H s.heap.objs.size (.own (s.heap.objs.size+1))) (s.heap.objs.size+1) (.ins C s.heap.objs.size []))
  {s with heap:=(s.heap.push PySem.W.emptyDict).push (PySem.W.instObj C s.heap.objs.size)}:=by
 have c:(s.heap.push PySem.W.emptyDict).get? s.heap.objs.size=some PySem.W.emptyDict:=ar s.heap rfl;have h:((s.heap.push PySem.W.emptyDict).push (PySem.W.instObj C s.heap.objs.size)).get? (s.heap.objs.size+1)=some (PySem.W.instObj C s.heap.objs.size):=by
  have:=ar (s.heap.push PySem.W.emptyDict) (o:=PySem.W.instObj C s.heap.objs.size) rfl
  rwa [Heap.size_push]at this
 have g:(s.heap.push PySem.W.emptyDict).Ns s.heap.objs.size (λ_=>none):=⟨PySem.W.emptyDict,#[],_,c,rfl,(λe f=>absurd f (by simp)),λ_=>rfl⟩
 have i:=I.laid (a:=s.heap.objs.size) (o:=.own (s.heap.objs.size+1)) (h':=s.heap.push PySem.W.emptyDict) (t':=s.toks) (λb u q=>af _ q) (ac _) ⟨_,c⟩;refine i.laid (a:=s.heap.objs.size+1) (o:=.ins C s.heap.objs.size []) (t':=s.toks) (λb u q=>af _ q) (Nat.le_of_eq (Heap.size_push _ _)) ?_;have ne:s.heap.objs.size≠s.heap.objs.size+1:=bj (Nat.lt_succ_self _);refine⟨by rw[aE ne,upd_same],au _,ne,h,λ_=>none,(Heap.Ns1.of_empty g).at λo q=>af _ q,λ_=>True.intro,λy d=>absurd rfl d⟩
theorem NX {prog:Program}{w:World}{env:Env}{e:Expr}{f:Str}{a:Pos}{s:Shared}{Q:cL}(c:attributeBase e f env (eval e env)=eval e env)
  (h:wpAny (model prog w) A (eval e env) (λo b=>wpAny (model prog w) A (getAttr o f true) Q E b) E s):wpAny (model prog w) A (eval (.Attribute e f a) env) Q E s :=
 Attribute_any_ h (by rw[arm_eval_Attribute,c])
end
def tFld (K:PySem.W.Frag)(c:TE)(f:Str):TE:=λσ H Q=>c σ H λx b=>∃a C d fs v,x = .ref a/\b a=some (.ins C d fs)/\HG K C/\iF K C f/\fs.lookup f=some v/\Q v b
def sFld (K:PySem.W.Frag)(e d:TE)(f:Str):TS:=λD σ H=>d σ H λy g=>e σ g λx c=>∃a C b fs,x = .ref a/\c a=some (.ins C b fs)/\HG K C/\iF K C f/\fs.length<1000 /\
 D.nx σ (upd c a (.ins C b (putF f y fs)))
section
variable {X:Cx}{o e value:Expr}{f:Str}{pos pos' tpos:Pos}{ta tv:TE}
theorem JC (i:PE X e ta)(j:attributeBase e f X.env (eval e X.env)=eval e X.env):PE X (.Attribute e f pos) (tFld X.K ta f):=by intro b s σ H Q I h;refine NX j (thn (i b s σ H _ I h) λu A ⟨x,w,r,d,a,C,B,fs,v,ex,m,c,n,l,q⟩=>?_);subst ex;obtain rfl:u=Value.ref a:=d;exact DA r m c n l λz s2 o g=>⟨v,w,o,g,q⟩
theorem xG (v:PE X o ta)(m:PE X value tv)(r:swapsWith value (some (.Attribute o f pos')) pos.line X.env=pure false):PS X (.Assign [.Attribute o f pos'] value pos) (sFld X.K ta tv f):=by intro b s σ H D I h;refine plainObj_wpAny_Assign_Attribute (thn (m b s σ H _ I h) λu d ⟨y,E,B,e,q⟩=>thn (v b d σ E _ B q) λj s2 ⟨x,J,A,g,a,C,G,fs,ex,w,c,n,l,i⟩=>?_) r;subst ex;obtain rfl:j=Value.ref a:=g;exact B1 A w c n l e λF z=>⟨σ,_,z,i⟩
theorem OF {pl:Sem Bool}{m:Str}{d:Pos}{args:jW}{b:c9}{s:Shared}{σ:St}{H:Hp}{Q:cL}{o:TE}(E:PE X e o)(I:aQ X b σ H s)
  (h:o σ H λx j=>∃a C r fs g,x = .ref a/\j a=some (.ins C r fs)/\HG X.K C/\N5 X.K C m g/\fs.lookup m=none /\
   ∀i,aQ X b σ j i->wpAny (model X.prog X.w) X.A (callWith pos (.ref g) [.ref a] (backTo pos (starEach args X.env)) (backToKw pos (keywordEach [] X.env))) Q X.xe i)
  (B:eval (.Call (.Attribute e m d) args [] pos) X.env=(do
   let ov ←eval e X.env
   standAt d.atName
   let(f,first) ←holding [ov] (getMethod ov m pl)
   callWith pos f first (backTo pos (starEach args X.env)) (backToKw pos (keywordEach [] X.env)))) :
  wpAny (model X.prog X.w) X.A (eval (.Call (.Attribute e m d) args [] pos) X.env) Q X.xe s:=by
 refine PySem.W.methodCall_KW (pl:=pl) (thn (E b s σ H _ I h) λu i ⟨x,j,v,z,a,C,r,fs,g,ex,F,c,k,l,q⟩=>?_) B;subst ex;obtain rfl:u=Value.ref a:=z;exact tF v F c k l (q i v)
end
structure d5 (k:Nat)(A:Around):Prop where
 hd:A.handled=none
 dp:A.depth+3 * k+5<recursionLimit
 un:A.units+16 * k+200<cLine
theorem d5.mono {j k:Nat}{A:Around}(r:d5 k A)(h:j<=k):d5 j A:=⟨r.hd,by have:=r.dp;omega,by have:=r.un;omega⟩
theorem d5.deeper {k:Nat}{A:Around}(r:d5 (k+1) A)(env:Env):d5 k (A.deeper env) :=
 ⟨r.hd,by have:=r.dp;show A.depth+1+3 * k+5<_;omega,by have:=r.un;show A.units+3+16 * k+200<_;omega⟩
theorem d5.in1 {k:Nat}{A:Around}(r:d5 (k+1) A):d5 k A.in1 :=
 ⟨r.hd,by have:=r.dp;show A.depth+3 * k+5<_;omega,by have:=r.un;show A.units+1+16 * k+200<_;omega⟩
theorem C0 {A:Around}{C:Addr}{us:cC}{a:List (Str×Value)}:(A.under (.builtin "type.__call__" ⟨.ref C::us,a⟩)).depth=A.depth+1:=by
 first|rfl|simp[Around.under,Code.weight,Code.isCreation,Code.isGuard,Code.isCaller,Code.frames,Code.isFrame,guardIds]
theorem CZ {A:Around}{C:Addr}{us:cC}{a:List (Str×Value)}:(A.under (.builtin "type.__call__" ⟨.ref C::us,a⟩)).units=A.units+1:=by
 first|rfl|simp[Around.under,Code.cUnits,Code.frames,Code.isFrame]
theorem d5.make {k:Nat}{A:Around}(r:d5 (k+1) A)(C:Addr)(us:cC)(a:List (Str×Value)):d5 k (A.under (.builtin "type.__call__" ⟨.ref C::us,a⟩)) :=
 ⟨r.hd,by have:=r.dp;rw[C0];omega,by have:=r.un;rw[CZ];omega⟩
theorem d5.depth {k:Nat}{A:Around}(r:d5 k A):A.depth<recursionLimit:=by have:=r.dp;omega
theorem d5.units {k:Nat}{A:Around}(r:d5 k A):A.units+64<cLine:=by have:=r.un;omega
def tNil:TA:=λ_ H Q=>Q [] H
def tCons (a:TE)(tr:TA):TA:=λσ H Q=>a σ H λx c=>tr σ c λxs b=>Q (x::xs) b
section
variable {X:Cx}{e:Expr}{es:jW}{te:TE}{t:TA}{pos:Pos}
theorem aB:PA X [] tNil:=λ_ _ _ _ H Q I h=>Calls.spliced_nil ⟨[],H,I,.nil,h⟩
theorem aA (l:PE X e te)(j:PA X es t)(i:starEach (e::es) X.env=(false,eval e X.env)::starEach es X.env:=by rfl):PA X (e::es) (tCons te t):=by intro b a s σ H Q I h;rw[i];show wpAny _ _ (spliced ((false,eval e X.env)::backTo b (starEach es X.env))) _ _ s;refine Calls.spliced_cons (thn (l a s σ H _ I h) λu c ⟨x,r,o,r1,g⟩=>?_);exact thn (j b a c σ r _ o g) λus s2 ⟨xs,q,m,d,f⟩=>⟨x::xs,q,m,.cons r1 d,f⟩
def tTup (t:TA):TE:=λσ H Q=>t σ H λxs a=>xs.length<=sizeLine/\∀p,a p=none->Q (.ref p) (upd a p (.tup xs))
def tLst (t:TA):TE:=λσ H Q=>t σ H λxs a=>xs.length<=sizeLine/\∀p,a p=none->Q (.ref p) (upd a p (.lst xs))
theorem bK {x1}(h:PA X es t):PE X (.Tuple es x1 pos) (tTup t):=by intro a s σ H Q I g;refine wpAny_Tuple_spliced (thn (h pos a s σ H _ I g) λus c ⟨xs,f,d,r,z,q⟩=>⟨by rw[←r.length];exact z,?_⟩);have i:f c.heap.objs.size=none:=d.hok.fresh (ac _);refine⟨.ref c.heap.objs.size,upd f c.heap.objs.size (.tup xs),d.laid (t':=c.toks) (λb u e=>af _ e) (ac _) ?_,rfl,q _ i⟩;exact⟨z,us,r,⟨_,ar _ rfl,rfl,_,rfl⟩⟩
theorem cQ (h:PA X es t):PE X (.List es pos) (tLst t):=by intro a s σ H Q I g;refine wpAny_List_spliced (thn (h pos a s σ H _ I g) λus c ⟨xs,f,d,r,z,q⟩=>⟨by rw[←r.length];exact z,?_⟩);have i:f c.heap.objs.size=none:=d.hok.fresh (ac _);refine⟨.ref c.heap.objs.size,upd f c.heap.objs.size (.lst xs),d.laid (t':=c.toks) (λb u e=>af _ e) (ac _) ?_,rfl,q _ i⟩;exact⟨z,us,0,r,ar _ rfl⟩
end
abbrev Sp:=List V->Hp->VK->XK->Prop
abbrev BO:=List Env->Hp->Shared->XK->cL
structure uI (P:Program)(w:World)(K:PySem.W.Frag)(mg:iH)(base:Heap)(A:Around)(outer:List Env)(s:Shared)(H:Hp):Prop where
 frames:A.frames=some outer
 mod:Mod K mg base
 bs:∀b o,base.get? b=some o->s.heap.get? b=some o/\H b=none
 bsz:base.objs.size<=s.heap.objs.size
 funs:s.heap.FunFrames base outer
 frf:∀b∈frs outer,H b=none
 hok:gQ P w H s.heap
 bare:AllBare s.gens
def CE (outer:List Env)(P:Program)(w:World)(H:Hp)(s:Shared)(Q:VK)(u:Value)(a:Shared):Prop :=
 ∃v H',a.os=s.os/\AllBare a.gens/\Un (frs outer) [] H H' s.heap a.heap/\gQ P w H' a.heap/\aU v u/\Q v H'
def CR (CX:BO)(outer:List Env)(P:Program)(w:World)(H:Hp)(s:Shared)(Q:VK)(E:XK)(r:Result)(a:Shared):Prop :=
 match r with
 | .ok (.ret u)=>CE outer P w H s Q u a
 | .ok _=>False
 | .error e=>CX outer H s E e a
structure bN (P:Program)(w:World)(K:PySem.W.Frag)(mg:iH)(base:Heap)(CX:BO)(k:Nat)(f:Addr)(fd:FuncData)(ps:aV)(sp:Sp):Prop where
 len:∀vs H Q E,sp vs H Q E->vs.length=ps.length
 run:∀(A:Around) (outer:List Env) (s:Shared) (H:Hp) (args:Args) (us:cC) (vs:List V) (Q:VK) (E:XK),d5 k A->uI P w K mg base A outer s H->BindsTo s fd args (ps.zip us)->aX vs us->sp vs H Q E ->
  codeAny (model P w) A (.call (.ref f) args) (CR CX outer P w H s Q E) s
theorem bN.mono {P:Program}{w:World}{K:PySem.W.Frag}{mg:iH}{base:Heap}{CX:BO}{j k:Nat}{f:Addr}{b:FuncData}{ps:aV}{a:Sp}(F:bN P w K mg base CX j f b ps a)(h:j<=k) :
  bN P w K mg base CX k f b ps a:=⟨F.len,λA outer s H args us vs Q E c=>F.run A outer s H args us vs Q E (c.mono h)⟩
theorem uI.make {P:Program}{w:World}{K:PySem.W.Frag}{mg:iH}{base:Heap}{A:Around}{outer:List Env}{s:Shared}{H:Hp}(e:uI P w K mg base A outer s H)(C:Addr)(us:cC)(a:List (Str×Value)) :
  uI P w K mg base (A.under (.builtin "type.__call__" ⟨.ref C::us,a⟩)) outer s H:=⟨by first|exact e.frames|(simpa [Around.under,Code.envs,Code.isFrame,pushEnvs] using e.frames),e.mod,e.bs,e.bsz,e.funs,e.frf,e.hok,e.bare⟩
section
variable {X:Cx}{pins:c9}{σ:St}{H:Hp}{s s':Shared}
theorem aQ.env0 (I:aQ X pins σ H s):uI X.prog X.w X.K X.mg X.base X.A X.stack s H :=
 ⟨I.ok.frames,I.ok.mod,I.bs,al I.ok.bsz I.sz,I.stack,I.stkFree,I.hok,I.bare⟩
theorem aQ.after {Q:VK}{u:Value}(I:aQ X pins σ H s)(h:CE X.stack X.prog X.w H s Q u s'):EP X pins σ Q u s':=by obtain⟨v,H',os,bare,un,hok,r,q⟩:=h;obtain⟨c,g,d,t,a⟩:=s';obtain rfl:a=s.os:=os;exact⟨v,H',I.call (h':=c) (g':=g) (d':=d) (t':=t) (ch:=[]) un hok bare (λb z=>absurd z (by simp)),r,q⟩
end
def tCall (b:Sp)(a:List V)(E:XK)(t:TA):TE:=λσ H Q=>t σ H λvs c=>b (vs++a) c Q E
def tMeth (C:Addr)(m:Str)(e:Sp)(b:List V)(E:XK)(d:TE)(t:TA):TE:=λσ H Q=>d σ H λx c=>∃a f fs,x = .ref a/\c a=some (.ins C f fs)/\fs.lookup m=none /\
 t σ c λvs g=>e (x::(vs++b)) g Q E
def tMake (C:Addr)(d:Sp)(b:List V)(E:XK)(t:TA):TE:=λσ H Q=>t σ H λvs c=>∀x a,c x=none->c a=none->a≠x ->
 d (.ref x::(vs++b)) (upd (upd c a (.own x)) x (.ins C a [])) (λv e=>v = .non/\Q (.ref x) e) E
def eY (K:PySem.W.Frag)(a:FuncData)(ps:aV)(ds:cC):Prop :=
 ∀(s:Shared) (us:cC),K.In s.heap->(us++ds).length=ps.length->BindsTo s a ⟨us,[]⟩ (ps.zip (us++ds))
theorem eY.all {K:PySem.W.Frag}{b:FuncData}{ps:aV}(h:∀us:cC,us.length=ps.length->bindArgs b ⟨us,[]⟩=pure (ps.zip us)):eY K b ps []:=λs us _ a=>by rw[bi]at a⊢;exact .of_eq (h us a)
def jS (CX:BO)(X:Cx)(E:XK):Prop:=∀(a:c9) (σ:St) (H:Hp) (s:Shared) (e:Value) (s':Shared),aQ X a σ H s->CX X.stack H s E e s'->X.xe e s'
section
variable {X:Cx}{CX:BO}{k:Nat}{f C:Addr}{fd:FuncData}{ps:aV}{sp:Sp}{dvs:List V}{ds:cC}{E:XK}{x m:Str}{p pos apos:Pos}{e o:Expr}{es:jW}{ta:TE}{t:TA}
theorem B7 {a:c9}{σ:St}{H:Hp}{s:Shared}{Q:VK}{us:cC}{vs:List V}(F:bN X.prog X.w X.K X.mg X.base CX k f fd ps sp)(i:d5 k X.A)(l:eY X.K fd ps ds)(hd:aX dvs ds)(g:jS CX X E)
  (I:aQ X a σ H s) (r:aX vs us) (h:sp (vs++dvs) H Q E):wpAny (model X.prog X.w) X.A (call (.ref f) us) (EP X a σ Q) X.xe s:=by
 have c:aX (vs++dvs) (us++ds):=r.append hd;have j:(us++ds).length=ps.length:=by rw[←c.length];exact F.len _ _ _ _ h
 refine wpAny_call (codeAny_mono (F.run X.A X.stack s H ⟨us,[]⟩ (us++ds) (vs++dvs) Q E i I.env0 (l s us I.kIn j) c h) λr d b=>?_);cases r with
 | error e=>exact g a σ H s e d I b
 | ok fl =>
  cases fl with
  | ret u=>exact I.after b
  | next=>exact False.elim b
  | brk=>exact False.elim b
  | cont=>exact False.elim b
theorem MK (F:bN X.prog X.w X.K X.mg X.base CX k f fd ps sp)(i:d5 k X.A)(m:Gl X x)(j:X.mg x=some (.ref f))(l:PySem.W.keepIn X.K (.ref f)=true)(u:eY X.K fd ps ds)(hd:aX dvs ds)(g:jS CX X E)
  (v:PA X (e::es) t) (c:(x == ("__debug__" : Str))=false:=by decide) (o:starEach (e::es) X.env=(false,eval e X.env)::starEach es X.env:=by rfl) (b:(backTo pos (starEach es X.env)).any (·.1)=false:=by rfl) :
  PE X (.Call (.Name x p) (e::es) [] pos) (tCall sp dvs E t):=by
 intro a s σ H Q I h;refine wpAny_Call_Name_kw (oO I m j ?_ c);refine PySem.W.callWith_K (h₀:=X.base) I.ok.mod.kin l (thn (v pos a s σ H _ I h) λus z ⟨vs,B,d,r,q⟩=>⟨d.kIn,?_⟩) o b;exact B7 F i u hd g d r q
theorem MF {pl:Sem Bool}(O:PE X o ta)(c:HG X.K C)(i:N5 X.K C m f)(F:bN X.prog X.w X.K X.mg X.base CX k f fd ps sp)(N:d5 k X.A)(P:eY X.K fd ps ds)(hd:aX dvs ds)(J:jS CX X E)(R:PA X (e::es) t)
  (d:starEach (e::es) X.env=(false,eval e X.env)::starEach es X.env:=by rfl) (g:(backTo pos (starEach es X.env)).any (·.1)=false:=by rfl)
  (L:eval (.Call (.Attribute o m apos) (e::es) [] pos) X.env=(do
   let ov ←eval o X.env
   standAt apos.atName
   let(f,first) ←holding [ov] (getMethod ov m pl)
   callWith pos f first (backTo pos (starEach (e::es) X.env)) (backToKw pos (keywordEach [] X.env))):=by rfl) :
  PE X (.Call (.Attribute o m apos) (e::es) [] pos) (tMeth C m sp dvs E ta t):=by
 intro b s σ H Q I h;refine PySem.W.methodCall_KW (pl:=pl) (thn (O b s σ H _ I h) λu z ⟨x,T,v,B,a,U,fs,ex,S,l,q⟩=>?_) L;subst ex;obtain rfl:u=Value.ref a:=B;refine tF v S c i l ?_;refine PySem.W.callWith_K (first:=[.ref a]) (h₀:=X.base) I.ok.mod.kin i.kp (thn (R pos b z σ T _ v q) λus s2 ⟨vs,Y,j,r,G⟩=>⟨j.kIn,?_⟩) d g;exact B7 (us:=.ref a::us) (vs:=.ref a::vs) F N P hd J j (.cons rfl r) G
structure Mk (K:PySem.W.Frag)(C f:Addr):Prop where
 makes:PySem.W.makesIn K C=true
 init:PySem.W.findIn K (.ref C) "__init__" = some (some (.ref f))
 fn:PySem.W.isFn K (.ref f)=true
 kp:PySem.W.keepIn K (.ref C)=true
theorem IS {a:c9}{σ:St}{H:Hp}{s:Shared}{Q:VK}{us:cC}{vs:List V}(M:Mk X.K C f)(F:bN X.prog X.w X.K X.mg X.base CX k f fd ps sp)(q:d5 (k+1) X.A)(B:eY X.K fd ps ds)(hd:aX dvs ds)
  (o:jS CX X E) (I:aQ X a σ H s) (r:aX vs us)
  (h:∀x c,H x=none->H c=none->c≠x->sp (.ref x::(vs++dvs)) (upd (upd H c (.own x)) x (.ins C c [])) (λv L=>v = .non/\Q (.ref x) L) E) :
  wpAny (model X.prog X.w) X.A (call (.ref C) us) (EP X a σ Q) X.xe s:=by
 have i:=h (s.heap.objs.size+1) s.heap.objs.size (I.hok.fresh (Nat.le_succ _)) (I.hok.fresh (ac _)) (bj (Nat.lt_succ_self _));have d:=aQ.made (C:=C) I;have g:aX (V.ref (s.heap.objs.size+1)::(vs++dvs)) (Value.ref (s.heap.objs.size+1)::(us++ds)):=.cons rfl (r.append hd);have z:(Value.ref (s.heap.objs.size+1)::us++ds).length=ps.length:=by have e:=g.length;rw[F.len _ _ _ _ i]at e;exact e.symm
 refine wpAny_call (KB (f:=f) I.kIn M.makes M.init (beq_iff_eq.mp M.fn) (codeAny_mono (F.run _ X.stack _ _ ⟨Value.ref (s.heap.objs.size+1)::us,[]⟩ (Value.ref (s.heap.objs.size+1)::(us++ds)) _ _ E (q.make C us [])
  (d.env0.make C us []) (B _ (Value.ref (s.heap.objs.size+1)::us) d.kIn z) g i) λr j b=>?_))
 cases r with
 | error e=>exact o a σ _ _ e j d b
 | ok fl =>
  cases fl with
  | ret u =>
   obtain⟨v,H',J,l,G,m⟩:=d.after b;subst G;exact⟨l,⟨V.ref (s.heap.objs.size+1),H',J,rfl,m⟩⟩
  | next=>exact False.elim b
  | brk=>exact False.elim b
  | cont=>exact False.elim b
theorem MG (M:Mk X.K C f)(F:bN X.prog X.w X.K X.mg X.base CX k f fd ps sp)(i:d5 (k+1) X.A)(l:Gl X x)(j:X.mg x=some (.ref C))(o:eY X.K fd ps ds)(hd:aX dvs ds)(g:jS CX X E)
  (u:PA X (e::es) t) (c:(x == ("__debug__" : Str))=false:=by decide) (m:starEach (e::es) X.env=(false,eval e X.env)::starEach es X.env:=by rfl) (b:(backTo pos (starEach es X.env)).any (·.1)=false:=by rfl) :
  PE X (.Call (.Name x p) (e::es) [] pos) (tMake C sp dvs E t):=by
 intro a s σ H Q I h;refine wpAny_Call_Name_kw (oO I l j ?_ c);refine PySem.W.callWith_K (h₀:=X.base) I.ok.mod.kin M.kp (thn (u pos a s σ H _ I h) λus v ⟨vs,z,d,r,q⟩=>⟨d.kIn,?_⟩) m b;exact IS M F i o hd g d r q
end
def PK (X:Cx)(b:List Keyword)(t:TA):Prop :=
 ∀(a:Pos) (pins:c9) (s:Shared) (σ:St) (H:Hp) (Q:List V->Hp->Prop),aQ X pins σ H s->t σ H Q->wpAny (model X.prog X.w) X.A (evalAll ((backToKw a (keywordEach b X.env)).map (·.2))) (AP X pins σ Q) X.xe s
section
variable {X:Cx}{CX:BO}{k:Nat}{f C:Addr}{fd:FuncData}{ps ks:aV}{sp:Sp}{E:XK}{x m:Str}{p pos apos kpos:Pos}{e o:Expr}{es:jW}{kws:List Keyword}{te ta:TE}{t tk:TA}{nm:Option Str}
theorem PH:PK X [] tNil:=λ_ _ _ _ H Q I h=>wpAny_evalAll_nil ⟨[],H,I,.nil,h⟩
theorem MB (j:PE X e te)(i:PK X kws t):PK X (⟨nm,e,kpos⟩::kws) (tCons te t):=by intro b a s σ H Q I h;show wpAny _ _ (evalAll ((do let v ←eval e X.env;standAt b;pure v)::(backToKw b (keywordEach kws X.env)).map (·.2))) _ _ s;refine wpAny_evalAll_cons (aa (thn (j a s σ H _ I h) λu c ⟨x,q,m,r1,g⟩=>aa (wpAny_standAt (ak ?_))));exact thn (i b a c σ q _ m g) λus s2 ⟨xs,o,l,d,f⟩=>⟨x::xs,o,l,.cons r1 d,f⟩
variable {g:cC->cC->cC}{gV:List V->List V->List V}
end
structure aR (N P:aV)(sc:Scope):Prop where
 kind:sc.kind = .function
 co:sc.isCoroutine=false
 gen:sc.isGenerator=false
 nd:N.Nodup
 pre:N.take P.length=P
 par:∀x∈P,sc.names.lookup x=some .local∨sc.names.lookup x=some .cell
 nofree:∀y∈sc.names,y.2≠.free
theorem wB {a:Str->Option NameKind}{x:Str}:∀{binds:List (Str×Value)} {m:iH},(∀v,(x,v)∉binds)->bindL a binds m x=m x
 | [],_,_=>rfl
 | (n,v)::r,m,h=>by
  unfold bindL;rw[wB λw b=>h w (ay _ b)];split
  ·have:x≠n:=by rintro rfl;exact h v av
   simp[this]
  ·rfl
theorem wE {a:Str->Option NameKind}{x:Str}:∀{binds:List (Str×Value)} {m:iH},(∀v,(x,v)∉binds)->bindC a binds m x=m x
 | [],_,_=>rfl
 | (n,v)::r,m,h=>by
  unfold bindC;rw[wE λw b=>h w (ay _ b)];split
  ·rfl
  ·have:x≠n:=by rintro rfl;exact h v av
   simp[this]
theorem wC {a:Str->Option NameKind}{x:Str}{v:Value}:∀{P:aV} {vs:cC} {i:Nat} {m:iH},P.Nodup->P[i]?=some x->vs[i]?=some v->a x=some .local ->
  bindL a (P.zip vs) m x=some v
 | [],_,_,_,_,h,_,_=>by simp at h
 | _::_,[],_,_,_,_,h,_=>by simp at h
 | p::P,w::vs,0,m,nd,c,b,d=>by
  simp at c b;subst c;subst b;show bindL a ((p,w)::P.zip vs) m p=_;unfold bindL;rw[wB λv e=>(cw.mp nd).1 (List.of_mem_zip e).1,ai d];simp
 | p::P,w::vs,i+1,m,nd,c,b,d=>by show bindL a ((p,w)::P.zip vs) m x=_;unfold bindL;exact wC (i:=i) (cw.mp nd).2 (by simpa using c) (by simpa using b) d
theorem wF {a:Str->Option NameKind}{x:Str}{v:Value}:∀{P:aV} {vs:cC} {i:Nat} {m:iH},P.Nodup->P[i]?=some x->vs[i]?=some v->a x≠some .local ->
  bindC a (P.zip vs) m x=some v
 | [],_,_,_,_,h,_,_=>by simp at h
 | _::_,[],_,_,_,_,h,_=>by simp at h
 | p::P,w::vs,0,m,nd,c,b,d=>by
  simp at c b;subst c;subst b;show bindC a ((p,w)::P.zip vs) m p=_;unfold bindC;rw[wE λv e=>(cw.mp nd).1 (List.of_mem_zip e).1,ab d];simp
 | p::P,w::vs,i+1,m,nd,c,b,d=>by show bindC a ((p,w)::P.zip vs) m x=_;unfold bindC;exact wF (i:=i) (cw.mp nd).2 (by simpa using c) (by simpa using b) d
noncomputable def start (N:aV)(vs:List V):St:=vs.map some++List.replicate (N.length - vs.length) none
noncomputable def cxOf (CX:BO)(P:Program)(w:World)(K:PySem.W.Frag)(mg:iH)(base:Heap)(N:aV)(a:Str)(scope:Scope)(f:Addr)(c:Value)(A:Around)(outer:List Env)(s:Shared)(H:Hp)(E:XK):Cx where
 prog:=P
 w:=w
 K:=K
 mg:=mg
 base:=base
 A:=A.deeper (envOfC a scope s.heap.objs.size f c)
 N:=N
 s₀:=s
 H₀:=H
 env:=envOfC a scope s.heap.objs.size f c
 outer:=outer
 stack:=envOfC a scope s.heap.objs.size f c::outer
 ex:=[]
 calm:=true
 fn:=λ_=>true
 pn:=[]
 xe:=λe d=>wpAny (model P w) (A.deeper (envOfC a scope s.heap.objs.size f c)) (leaving (envOfC a scope s.heap.objs.size f c) e) (λ_ b=>CX outer H s E e b) (λg b=>CX outer H s E g b) d
theorem A5 {a:Scope}{n:Nat}{x:Str}(h:a.names.lookup x=some .cell):∃c,(cellsFrom n a.names []).lookup x=some c:=by have q:=PySem.W.cellsFrom_some a.names n [] (.inl h);exact Option.isSome_iff_exists.mp q
theorem GV {CX:BO}{P:Program}{w:World}{K:PySem.W.Frag}{mg:iH}{base:Heap}{N ps:aV}{d:Str}{scope:Scope}{f:Addr}{G:Value}{A:Around}{outer:List Env}{s I:Shared}{H:Hp}{E:XK}{us:cC}{vs:List V}
  (S:aR N ps scope) (hd:A.handled=none) (j:uI P w K mg base A outer s H) (T:vs.length=ps.length) (r:aX vs us)
  (x:InCallC s s.heap.objs.size (bindL (envOfC d scope s.heap.objs.size f G).kindOf (ps.zip us) λ_=>none) (cellsFrom (s.heap.objs.size+1) scope.names []) (bindC (envOfC d scope s.heap.objs.size f G).kindOf (ps.zip us) λ_=>none) I) :
  aQ (cxOf CX P w K mg base N d scope f G A outer s H E) [] (start N vs) H I:=by
 have Q:ps.length<=N.length:=by have:=congrArg List.length S.pre;rw[bq]at this;omega
 obtain⟨F,tk,rfl,L⟩:=x.done;have l:∀b:Addr,b∉(cxOf CX P w K mg base N d scope f G A outer s H E).ex:=λb z=>absurd (show b∈([]:List Addr)from z) (by simp)
 refine⟨⟨j.mod,S.kind,rfl,rfl,ac _,λy z c F g=>?_,λy m=>?_,λy c _ h=>?_,λ_=>hd,Around.frames_deeper j.frames,.inr ⟨rfl,rfl⟩,λb z=>absurd z (l b),j.bs,j.bsz,λb _ _=>l b,λb z=>absurd z (l b),j.funs,j.frf⟩,
  rfl,j.bare,Un.kept L,⟨_,x.toInCall.ns,λi y v F g U=>?_⟩,λy c h=>⟨_,x.cell y c h⟩,j.hok.fresh (ac _),λy c h=>?_,λp B=>absurd (show p∈([]:c9)from B) (by simp),j.hok.kept L,?_⟩
 ·exact name_of_addr x.apart (PySem.mem_of_lookup F) (PySem.mem_of_lookup g)
 ·have m:scope.names.lookup y=some .cell∨scope.names.lookup y=some .free:=m;rcases m with m|m
  ·exact A5 m
  ·exact absurd rfl (S.nofree _ (PySem.mem_of_lookup m))
 ·exact Nat.le_of_lt (x.above y c (PySem.mem_of_lookup h))
 ·have C:i<vs.length:=by
   unfold start at g;by_cases C:i<vs.length
   ·exact C
   ·rw[List.getElem?_append_right (by simpa using C)]at g;rw[List.getElem?_replicate]at g;split at g <;> cases g
  have R:vs[i]?=some v:=by
   unfold start at g;rw[List.getElem?_append_left (by simpa using C),bw]at g;cases e:vs[i]? with
   | none=>rw[e]at g;cases g
   | some a=>rw[e]at g;cases g;rfl
  obtain⟨u,J,O⟩:=r.get R;have B:ps[i]?=some y:=by rw[←S.pre,List.getElem?_take_of_lt (by omega)];exact F
  have o:ps.Nodup:=by rw[←S.pre];exact S.nd.sublist (List.take_sublist _ _)
  refine⟨u,O,?_⟩;rcases S.par y (bg B)with k|k
  ·exact .inl ⟨k,wC o B J k⟩
  ·obtain⟨c,e⟩:=A5 (n:=s.heap.objs.size+1) k;refine .inr ⟨.inl k,c,e,?_⟩;have q:=x.cell y c e;rw[wF o B J (by show scope.names.lookup y≠_;rw[k];decide)]at q;exact q
 ·exact j.hok.fresh (Nat.le_of_lt (x.above y c (PySem.mem_of_lookup h)))
 ·unfold start;show _=N.length;rw[aq,ae,List.length_replicate];omega
theorem OG {CX:BO}{P:Program}{w:World}{K:PySem.W.Frag}{mg:iH}{base:Heap}{k:Nat}{f:Addr}{name a:Str}{d:Arguments}{body:List Stmt}{scope:Scope}{U kV m T c ct Y:Value}{X od:Option Addr}
  {osl:Array (Option Value)} {N ps:aV} {B:Sp} (Z:K.lookup f=some ⟨Y,od,.func (PySem.W.fnOf name a d body scope U kV m T X c ct),osl⟩) (O:PySem.W.codeIn K c a=true) (S:aR N ps scope)
  (len:∀vs H Q E,B vs H Q E->vs.length=ps.length)
  (h:∀(A:Around) (outer:List Env) (s:Shared) (H:Hp) (vs:List V) (Q:VK) (E:XK),d5 k (A.deeper (envOfC a scope s.heap.objs.size f c))->B vs H Q E ->
   ∃t,FH (cxOf CX P w K mg base N a scope f c A outer s H E) body t/\t {nx:=λ_ H'=>Q .non H',rt:=Q} (start N vs) H) :
  bN P w K mg base CX (k+1) f (PySem.W.fnOf name a d body scope U kV m T X c ct) ps B:=by
 refine⟨len,λA outer s H args us vs Q E L l hb r j=>?_⟩;have hl:=len _ _ _ _ j;have KX:K.In s.heap:=l.mod.kin.keeps λb o e=>(l.bs b o e).1;have G:s.heap.NoLimit:=l.mod.nolimit.keeps λb o e=>(l.bs b o e).1;have g:∀y∈ps.zip us,scope.names.lookup y.1=some .local∨(scope.names.lookup y.1=some .cell/\((cellsFrom (s.heap.objs.size+1) scope.names []).lookup y.1).isSome=true):=λ⟨n,v⟩ hy=>by
  rcases S.par n (List.of_mem_zip hy).1 with q|q
  ·exact .inl q
  ·exact .inr ⟨q,PySem.W.cellsFrom_some _ _ _ (.inl q)⟩
 refine codeAny_call_function L.depth (KX _ _ Z) rfl S.co S.gen rfl (PySem.W.codeRec_of KX O) (hb _ _ _ _ ?_);refine wpAny_newFunctionEnv_cells S.kind g λenv he R x=>?_;subst he;refine⟨G.keeps x.toInCall.keep,codeAny_func ?_⟩;obtain⟨t,ht,hq⟩:=h A outer s H vs Q E (L.deeper _) j;have I:aQ (cxOf CX P w K mg base N a scope f c A outer s H E) [] (start N vs) H R:=GV S L.hd l hl r x;refine wpAny_mono (ht [] R (start N vs) H _ I hq) (λfl C i=>?_) λe C i=>i;have fin:∀{z:St} {H':Hp} {v:V} {u:Value},aQ (cxOf CX P w K mg base N a scope f c A outer s H E) [] z H' C->aU v u->Q v H'->CE outer P w H s Q u C :=
  λ{z H' v u} J F q=>⟨v,H',J.os,J.bare,J.base,J.hok,F,q⟩
 cases fl with
 | ret u =>
  obtain⟨v,z,H',J,F,q⟩:=i;exact fin J F q
 | next =>
  obtain⟨z,H',J,q⟩:=i;exact fin (v:=V.non) (u:=Value.none) J rfl q
 | brk =>
  obtain⟨_,_,_,q⟩:=i;exact False.elim q
 | cont =>
  obtain⟨_,_,_,q⟩:=i;exact False.elim q
section
variable {X:Cx}{x:Str}{p pos:Pos}{e:Expr}{es:jW}{t:TA}{id T:String}{r:List V->Hp->VK->Prop}
def tCB (r:List V->Hp->VK->Prop)(t:TA):TE:=λσ H Q=>t σ H λvs a=>r vs a Q
theorem aL (o:d9 X (.builtin id) r)(l:Gl X x)(j:X.mg x=none)(g:bootBuiltins x=some (.builtin id))(q:PA X (e::es) t)(i:x≠"__name__":=by decide)(c:(x == ("__debug__" : Str))=false:=by decide)
  (m:starEach (e::es) X.env=(false,eval e X.env)::starEach es X.env:=by rfl) (b:(backTo pos (starEach es X.env)).any (·.1)=false:=by rfl):PE X (.Call (.Name x p) (e::es) [] pos) (tCB r t):=by
 intro a s σ H Q I h;refine wpAny_Call_Name_kw (lO I l j g ?_ i c);exact PyProof.Rows.callWith_builtin1 (thn (q pos a s σ H _ I h) λus d ⟨vs,v,u,r1,f⟩=>o a d σ v vs us Q u r1 f) m b
theorem cR (o:d9 X (.type T) r)(l:Gl X x)(j:X.mg x=none)(g:bootBuiltins x=some (.type T))(q:PA X (e::es) t)(i:x≠"__name__":=by decide)(c:(x == ("__debug__" : Str))=false:=by decide)
  (m:starEach (e::es) X.env=(false,eval e X.env)::starEach es X.env:=by rfl) (b:(backTo pos (starEach es X.env)).any (·.1)=false:=by rfl):PE X (.Call (.Name x p) (e::es) [] pos) (tCB r t):=by
 intro a s σ H Q I h;refine wpAny_Call_Name_kw (lO I l j g ?_ i c);exact PyProof.Rows.callWith_type1 (thn (q pos a s σ H _ I h) λus d ⟨vs,v,u,r1,f⟩=>o a d σ v vs us Q u r1 f) m b
end
end L2
namespace HT
open PySem PyProof.Rows
noncomputable def lexLt:List Int->List Int->Bool
 | [],[]=>false
 | [],_::_=>true
 | _::_,[]=>false
 | x::xs,y::a=>if x=y then lexLt xs a else decide (x<y)
theorem lexLt_cons (x y:Int)(xs a:List Int):lexLt (x::xs) (y::a)=if x=y then lexLt xs a else decide (x<y):=rfl
theorem eqAt_int (A:Around)(s:Shared)(a:Int)(t:Tok)(c:Int)(u:Tok):∃e,SeqAt.EqAt A s (.int a t) (.int c u) e/\(e=true ↔ a=c) :=
 ⟨(a == c),SeqAt.EqAt.int_int a t c u,by simp⟩
theorem rcLt_int (A:Around)(s:Shared)(a:Int)(t:Tok)(c:Int)(u:Tok)(prog:Program)(w:World)(E:cL)(Q:cL)(h:Q (.bool (decide (a<c))) s) :
  wpAny (model prog w) A (richCompare .Lt (.int a t) (.int c u)) Q E s :=
 (PyProof.Rows.lt_int h:wpAny (model prog w) A (compareOp .Lt (.int a t) (.int c u)) Q E s)
section
open PySem.SeqAt
open PySem.AutoSeq1 (wpAny_loadPart')
open PySem.MeetsSeq PySem.MeetsSeq2 PySem.MeetsSeq3
end
section
variable {prog:Program}{w:World}{A:Around}{E:cL}{s:Shared}
theorem cat_tup {t b:Addr}{vs ws:cC}{Q:cL}(r:IsTup s.heap t vs.toArray)(u:IsTup s.heap b ws.toArray)(l:vs≠[])
  (x:ws=[]->Q (.ref t) s) (v:ws≠[]->Q (.ref s.heap.objs.size) {s with heap:=s.heap.push {cls:=.type "tuple",data:=.seq (vs++ws).toArray} })
  (hsz:vs.length+ws.length<=sizeLine):wpAny (model prog w) A (binaryOp .Add (.ref t) (.ref b)) Q E s:=by
 obtain⟨⟨cls,o,data,j⟩,ho,m,n,hd⟩:=id r;obtain⟨⟨q,g,i,c⟩,a,f,n2,d⟩:=id u;simp only at m hd f d;subst m hd f d;have e:vs.toArray++ws.toArray=(vs++ws).toArray:=by simp
 by_cases h:ws=[]
 ·exact concat_meets ⟨_,ho,rfl⟩ ⟨_,a,rfl⟩ noFill_tuple_add seq_tuple_add PySem.F.slot_tuple_add PySem.F.entry_tuple_add (PySem.F.args_tuple_add_2 _ _)
   (tuple_addW1 t b vs.toArray ws.toArray n n2 o g j c (by simpa using l) (by simp[h])) ⟨ho,a,x h⟩
 ·refine concat_meets ⟨_,ho,rfl⟩ ⟨_,a,rfl⟩ noFill_tuple_add seq_tuple_add PySem.F.slot_tuple_add PySem.F.entry_tuple_add (PySem.F.args_tuple_add_2 _ _)
   (tuple_addW2 t b vs.toArray ws.toArray n n2 o g j c (by simpa using l) (by simpa using h) (by rw[ag,ag];exact hsz)) ⟨ho,a,?_⟩
  rw[e];exact v h
noncomputable def sIx (n d:Nat):Option Int->Nat
 | none=>d
 | some v=>if v<0 then(v+(n:Int)).toNat else min v.toNat n
theorem sIx_none (n d:Nat):sIx n d none=d:=rfl
theorem sIx_nat (n d k:Nat):sIx n d (some (k:Int))=min k n:=by show(if (k:Int)<0 then((k:Int)+(n:Int)).toNat else min (k:Int).toNat n)=min k n;rw[ab (by omega),cj]
theorem PD (n d:Nat)(hd:d<=n)(o:Option Int):sIx n d o<=n:=by
 cases o with
 | none=>exact hd
 | some v =>
  show(if v<0 then(v+(n:Int)).toNat else min v.toNat n)<=n;by_cases a:v<0
  ·rw[ai a];omega
  ·rw[ab a];exact Nat.min_le_right _ _
theorem E7 (v:Int)(n d:Nat):(if v<0 then max (v+(n:Int)) 0 else min v (n:Int))=((sIx n d (some v):Nat):Int):=by
 show(if v<0 then max (v+(n:Int)) 0 else min v (n:Int))=(((if v<0 then(v+(n:Int)).toNat else min v.toNat n):Nat):Int);by_cases a:v<0
 ·simp only[ai a];omega
 ·simp only[ab a];omega
theorem DM (a b:Option Int)(n:Nat):Builtin.Slice.sliceAdjust a b 1 (n:Int)=(((sIx n 0 a:Nat):Int),((sIx n n b:Nat):Int)):=by
 have c:¬((1:Int)<0):=by omega
 unfold Builtin.Slice.sliceAdjust;simp only[c,if_false];refine Prod.ext ?_ ?_
 ·cases a with
  | none=>rfl
  | some v=>exact E7 v n 0
 ·cases b with
  | none=>rfl
  | some v=>exact E7 v n n
theorem B9 (i j:Nat):Builtin.Slice.slicePlaces (i:Int) (j:Int) 1=j - i:=by
 unfold Builtin.Slice.slicePlaces;have a:(1:Int) > 0:=by omega
 simp only[a,if_true,Int.ediv_one];split <;> omega
theorem slicePart_ {v:Value}{o:Option Int}{Q:Option Int->Shared->Prop}(p:IsPart v o)(h:Q o s):wpAny (model prog w) A (Builtin.Slice.slicePartIndex v) Q E s:=by
 cases p with
 | none=>exact slicePart_none h
 | int i t=>exact slicePart_int h
theorem pJ {g:Addr}{f e:Value}{a c:Option Int}{n:Nat}{Q:Int×Int×Nat->Shared->Prop}(j:s.heap.IsSliceOf g f e .none)(pl:IsPart f a)(i:IsPart e c)
  (h:Q (((sIx n 0 a:Nat):Int),1,sIx n n c - sIx n 0 a) s):wpAny (model prog w) A (Builtin.Slice.sliceApplied (.ref g) (pure (n:Int))) Q E s:=by
 obtain⟨os,b,l,d⟩:=id j;unfold Builtin.Slice.sliceApplied Builtin.Slice.sliceFields;refine aa (aa (wpAny_field b d (x:=f) rfl (aa (wpAny_field b d (x:=e) rfl (aa (wpAny_field b d (x:=.none) rfl (ak ?_)))))));refine aa (slicePart_none ?_);show wpAny _ _ (if ((1:Int) == 0)=true then _ else _) _ _ s;rw[ab (by decide)];refine aa (slicePart_ pl (aa (slicePart_ i (aa (ak ?_)))));show wpAny _ _ (match Builtin.Slice.sliceAdjust a c 1 (n:Int)with|(a,c)=>pure (a,(1:Int),Builtin.Slice.slicePlaces a c 1)) _ _ s;rw[DM a c n];show wpAny _ _ (pure (((sIx n 0 a:Nat):Int),(1:Int),Builtin.Slice.slicePlaces ((sIx n 0 a:Nat):Int) ((sIx n n c:Nat):Int) 1)) _ _ s;rw[B9];exact ak h
theorem I8 (xs:gN)(i k:Nat):((List.range k).filterMap λ(m:Nat)=>xs[((i:Int)+(m:Int) * 1).toNat]?).toArray=((xs.toList.drop i).take k).toArray:=by
 have e:(λ(m:Nat)=>xs[((i:Int)+(m:Int) * 1).toNat]?)=λm=>xs[i+m]?:=by
  funext m;have:((i:Int)+(m:Int) * 1).toNat=i+m:=by omega
  rw[this]
 rw[e];have:=pick_run xs i k;rw[List.filterMap_map]at this;have a:((λx=>xs[x]?) ∘ λx=>i+x)=λm=>xs[i+m]?:=rfl;rw[a]at this;rw[this]
theorem getItem_tuple_cut {t e:Addr}{items:gN}{o l:Value}{b c:Option Int}{Q:cL}(d:IsTup s.heap t items)(r:s.heap.IsSliceOf e o l .none)(pl:IsPart o b)(u:IsPart l c)
  (v:¬(sIx items.size 0 b=0/\sIx items.size items.size c=items.size))
  (h:Q (.ref s.heap.objs.size) {s with heap:=s.heap.push {cls:=.type "tuple",data:=.seq ((items.toList.drop (sIx items.size 0 b)).take (sIx items.size items.size c - sIx items.size 0 b)).toArray} })
  (hsz:items.size<=sizeLine):wpAny (model prog w) A (getItem (.ref t) (.ref e)) Q E s:=by
 have a:sizeOk (.seq ((items.toList.drop (sIx items.size 0 b)).take (sIx items.size items.size c - sIx items.size 0 b)).toArray):=by show((items.toList.drop (sIx items.size 0 b)).take (sIx items.size items.size c - sIx items.size 0 b)).toArray.size<=sizeLine;rw[ag,bq,bu,bn];omega
 have C:sIx items.size items.size c<=items.size:=PD _ _ (ac _) c;obtain⟨os,f,i,x⟩:=id r;have j:s.TypeIs (.ref e) "slice":=⟨os,f,i⟩
 unfold getItem
 try with_reducible refine cf ?_
 first|refine aa (ak ?_)|skip
 refine aa (wpAny_sequenceKey d.typeIs (by decide) ?_)
 refine aa (wpAny_callSpecial?_slot (name:=Str.ofString "__getitem__") d.typeIs PyProof.Rows.slot_tuple_getitem
  (wpAny_call_entry PyProof.Rows.slot_tuple_getitem d.typeIs entry_tuple_getitem ?_ (args_tuple_getitem _ _)))
 show wpAny _ _ (Builtin.Tuple.tupleItemsOf (.ref t) >>= _) _ _ s;refine aa (tupleItemsOf_ d ?_);refine aa (wpAny_typeOf j ?_);rw[ai (by decide)];refine aa (pJ r pl u ?_);have g:¬((((sIx items.size 0 b:Nat):Int) == 0 && (1:Int) == 1 && (sIx items.size items.size c - sIx items.size 0 b) == items.size)=true):=by intro q;rw[Bool.and_eq_true,Bool.and_eq_true]at q;have B:((sIx items.size 0 b:Nat):Int)=0:=eq_of_beq q.1.1;have z:sIx items.size items.size c - sIx items.size 0 b=items.size:=eq_of_beq q.2;exact v ⟨by omega,by omega⟩
 show wpAny _ _ (if (((sIx items.size 0 b:Nat):Int) == 0 && (1:Int) == 1 && (sIx items.size items.size c - sIx items.size 0 b) == items.size)=true then _ else _) _ _ s;rw[ab g,I8]
 first
  | exact aa (m:=Builtin.Tuple.tupleExact _) (ca (ak ⟨_,rfl,ak h⟩) a)
  | exact aa (m:=Builtin.Tuple.tupleExact _) (ca (aa (ak (ak ⟨_,rfl,ak h⟩))) a)
  | exact aa (aa (m:=Builtin.Tuple.tupleExact _) (ca (ak (ak ⟨_,rfl,ak h⟩)) a))
  | exact aa (aa (m:=Builtin.Tuple.tupleExact _) (ca (ak ⟨_,rfl,ak h⟩) a))
end
end HT
namespace L2
open PySem PySem.Spec PyProof.Rows
abbrev TO:=St->Hp->(Option Int->Hp->Prop)->Prop
def PO (X:Cx)(e:Option Expr)(t:TO):Prop :=
 ∀(a:c9) (s:Shared) (σ:St) (H:Hp) (Q:Option Int->Hp->Prop),aQ X a σ H s->t σ H Q ->
  wpAny (model X.prog X.w) X.A (evalPart e X.env) (λu b=>∃o H',aQ X a σ H' b/\IsPart u o/\Q o H') X.xe s
def tNoPart:TO:=λ_ H Q=>Q none H
def tPart (t:TE):TO:=λσ H Q=>t σ H λx a=>∃i,x = .int i/\Q (some i) a
theorem tB {ns:List Int}:∀{us:cC},aX (ns.map V.int) us->IntsAre us ns:=by
 induction ns with
 | nil=>intro us r;rw[List.map_nil]at r;cases r;exact .nil
 | cons n ns b =>
  intro us r;rw[ba]at r;cases r with
  | cons r1 a =>
   obtain⟨t,e⟩:=r1;subst e;exact .cons n t (b a)
section
variable {X:Cx}{e:Expr}{te:TE}{lo hi:Option Expr}{tl th:TO}{pos p2:Pos}
theorem cF:PO X none tNoPart:=by intro a s σ H Q I h;rw[evalPart_none];exact ak ⟨none,H,I,.none,h⟩
theorem bT (h:PE X e te):PO X (some e) (tPart te):=by intro a s σ H Q I c;rw[evalPart_some];refine thn (h a s σ H _ I c) λu g ⟨x,f,d,r1,b⟩=>?_;obtain⟨i,rfl,q⟩:=b;obtain⟨t,rfl⟩:=r1;exact⟨some i,f,d,.int i t,q⟩
def RT (X:Cx)(r:V->Option Int->Option Int->Hp->VK->Prop):Prop :=
 ∀(a:c9) (s:Shared) (σ:St) (H:Hp) (x:V) (v vl vu:Value) (lo hi:Option Int) (sl:Addr) (Q:VK),aQ X a σ H s->aU x v->s.heap.IsSliceOf sl vl vu .none->IsPart vl lo->IsPart vu hi->r x lo hi H Q ->
  ∃T id,typeLookup (.type T) "__getitem__" = pure (some (.builtin id))/\s.TypeIs v T/\wpAny (model X.prog X.w) X.A (getItem v (.ref sl)) (EP X a σ Q) X.xe s
def tSl (r:V->Option Int->Option Int->Hp->VK->Prop)(b:TE)(tl a:TO):TE:=λσ H Q=>b σ H λx e=>tl σ e λl d=>a σ d λu c=>r x l u c Q
theorem dC {r:V->Option Int->Option Int->Hp->VK->Prop}(E:RT X r)(J:PE X e te)(F:PO X lo tl)(B:PO X hi th):PE X (.Subscript e (.Slice lo hi none p2) pos) (tSl r te tl th):=by intro a s σ H Q I h;refine Subscript_ (thn (J a s σ H _ I h) λv i ⟨x,S,P,r1,o⟩=>?_);refine wpAny_Slice (thn (F a i σ S _ P o) λf s2 ⟨l,R,O,pl,m⟩=>thn (B a s2 σ R _ O m) λd c ⟨u,g,N,z,j⟩=>?_);rw[evalPart_none];refine ak ?_;have L:aQ X a σ g {c with heap:=c.heap.push {cls:=.type "slice",data:=.fields #[f,d,.none]} }:=N.kept (t':=c.toks) λb ob q=>af _ q;obtain⟨T,id,K,C,G⟩:=E a {c with heap:=c.heap.push {cls:=.type "slice",data:=.fields #[f,d,.none]} } σ g x v f d l u c.heap.objs.size Q L r1 (Heap.IsSliceOf.new ..) pl z j;show wpAny (model X.prog X.w) X.A (subscriptTail e (.Slice lo hi none p2) v (.ref c.heap.objs.size)) (EP X a σ Q) X.xe {c with heap:=c.heap.push {cls:=.type "slice",data:=.fields #[f,d,.none]} };exact tail_any (ops:=[.ref c.heap.objs.size,v]) C K G (by with_unfolding_all rfl)
noncomputable def cutV (xs:List V)(a b:Option Int):List V:=(xs.drop (HT.sIx xs.length 0 a)).take (HT.sIx xs.length xs.length b - HT.sIx xs.length 0 a)
theorem qJ (xs:List V)(a b:Option Int):(cutV xs a b).length<=xs.length:=by unfold cutV;rw[bq,bu];omega
def rSlT (K:PySem.W.Frag):V->Option Int->Option Int->Hp->VK->Prop:=λx b c H Q=>∃a xs,x = .ref a/\hZ K H a xs /\
 ¬(HT.sIx xs.length 0 b=0/\HT.sIx xs.length xs.length c=xs.length)/\∀p,H p=none->Q (.ref p) (upd H p (.tup (cutV xs b c)))
theorem O9:RT X (rSlT X.K):=by
 intro f s σ H x v z w d e A Q I i u pl j h;obtain⟨a,xs,rfl,l,m,q⟩:=h;cases i;obtain⟨its,r,g,hz⟩:=I.tuple l;have c:its.toArray.size=xs.length:=by rw[ag];exact r.length.symm
 refine⟨"tuple",_,PyProof.Rows.slot_tuple_getitem.lookup,g.typeIs,?_⟩;refine HT.getItem_tuple_cut g u pl j (by rw[c];exact m) ?_ (by rw[c];exact hz);rw[c];refine⟨.ref s.heap.objs.size,_,I.laid (t':=s.toks) (o:=.tup (cutV xs d e)) (λb ob q=>af _ q) (ac _) ?_,rfl,q _ (I.hok.fresh (ac _))⟩;exact⟨al (qJ xs d e) hz,_,(r.drop (HT.sIx xs.length 0 d)).take (HT.sIx xs.length xs.length e - HT.sIx xs.length 0 d),IsTup.new _ _⟩
def rCatT (K:PySem.W.Frag):R2:=λx y H Q=>∃a b xs c,x = .ref a/\y = .ref b/\hZ K H a xs/\hZ K H b c/\xs≠[]/\xs.length+c.length<=sizeLine /\
 (c=[]->Q (.ref a) H)/\(c≠[]->∀p,H p=none->Q (.ref p) (upd H p (.tup (xs++c))))
theorem aX.nil_iff {xs:List V}{us:cC}(r:aX xs us):us=[] ↔ xs=[]:=by
 cases r with
 | nil=>simp
 | cons _ _=>simp
theorem EE:iP X (binaryOp .Add) (rCatT X.K):=by intro d s σ H x y v u Q I g f h;obtain⟨a,b,xs,e,rfl,rfl,B,A,r,hz,j,i⟩:=h;cases g;cases f;obtain⟨its,r1,m,_⟩:=I.tuple B;obtain⟨its2,c,l,_⟩:=I.tuple A;refine HT.cat_tup m l (λz=>r (r1.nil_iff.mp z)) (λz=>⟨.ref a,H,I,rfl,j (c.nil_iff.mp z)⟩) (λz=>?_) (by rw[←r1.length,←c.length];exact hz);refine⟨.ref s.heap.objs.size,_,I.laid (t':=s.toks) (o:=.tup (xs++e)) (λb ob q=>af _ q) (ac _) ?_,rfl,i (λw=>z (c.nil_iff.mpr w)) _ (I.hok.fresh (ac _))⟩;exact⟨by rw[aq];exact hz,_,r1.append c,IsTup.new _ _⟩
end
noncomputable def ixN (n:Nat)(i:Int):Option Nat:=if 0<=i then(if i<n then some i.toNat else none)else if -(n:Int)<=i then some (i+n).toNat else none
noncomputable def atI {α:Type}(xs:List α)(i:Int):Option α:=(ixN xs.length i).bind λj=>xs[j]?
theorem EU {n:Nat}{i:Int}{j:Nat}(h:ixN n i=some j):seqIndex? i n=some j/\j<n/\-(n:Int)<=i/\i<n:=by
 unfold ixN at h;by_cases b:0<=i
 ·rw[ai b]at h;by_cases a:i<n
  ·rw[ai a]at h;have e:i.toNat=j:=Option.some.inj h;exact⟨by rw[seqIndex_of b a,e],by omega,by omega,a⟩
  ·rw[ab a]at h;cases h
 ·rw[ab b]at h;by_cases a : -(n:Int)<=i
  ·rw[ai a]at h;have e:(i+n).toNat=j:=Option.some.inj h;exact⟨by rw[seqIndex_neg (by omega) a,e],by omega,a,by omega⟩
  ·rw[ab a]at h;cases h
theorem yR {α:Type}{xs:List α}{i:Int}{v:α}(h:atI xs i=some v):∃j,seqIndex? i xs.length=some j/\xs[j]?=some v/\j<xs.length/\-(xs.length:Int)<=i/\i<xs.length:=by
 unfold atI at h;cases e:ixN xs.length i with
 | none=>rw[e]at h;cases h
 | some j =>
  rw[e]at h;obtain⟨d,c,b,a⟩:=EU e;exact⟨j,d,h,c,b,a⟩
theorem jL {α:Type}{xs:List α}{j:Nat}{v:α}(h:xs[j]?=some v):atI xs (j:Int)=some v:=by
 have a:j<xs.length:=(ck.mp h).1;have e:ixN xs.length (j:Int)=some j:=by unfold ixN;rw[ai (by omega),ai (by omega)];simp
 unfold atI;rw[e];exact h
def N3 (b:Expr):Prop:=∀o i,subscripted b false o i=operate [o,i] (getItem o i)
def LR (X:Cx)(r:R2):Prop :=
 ∀(b a:Expr) (pins:c9) (s:Shared) (σ:St) (H:Hp) (x y:V) (v u:Value) (Q:VK),aQ X pins σ H s->aU x v->aU y u->r x y H Q ->
  subscripted a false v u=operate [v,u] (getItem v u)->wpAny (model X.prog X.w) X.A (subscriptTail b a v u) (EP X pins σ Q) X.xe s
def SF (X:Cx)(id:String)(r:V->List V->Hp->VK->Prop):Prop :=
 ∀(a:c9) (s:Shared) (σ:St) (H:Hp) (x:V) (xs:List V) (v:Value) (us:cC) (Q:VK),aQ X a σ H s->aU x v->aX xs us->r x xs H Q ->
  wpAny (model X.prog X.w) X.A (call (.builtin id) (v::us)) (EP X a σ Q) X.xe s
section
variable {X:Cx}{a b:Expr}{ta tb:TE}{pos:Pos}
theorem LR.or {r f:R2}(h:LR X r)(h':LR X f):LR X (λx y H Q=>r x y H Q∨f x y H Q):=by
 intro a b c s σ H x y v u Q I e d q g;rcases q with q|q
 ·exact h a b c s σ H x y v u Q I e d q g
 ·exact h' a b c s σ H x y v u Q I e d q g
theorem aS {r:R2}(g:LR X r)(j:PE X a ta)(i:PE X b tb)(f:N3 b):PE X (.Subscript a b pos) (tOp r ta tb):=by intro c s σ H Q I h;exact Subscript_ (binT j i I h λv u s2 x y m l e d q=>g a b c s2 σ m x y v u Q l e d q (f _ _))
def rIxL (K:PySem.W.Frag):R2:=λx y H Q=>∃p xs i v,x = .ref p/\y = .int i/\eK K H p xs/\atI xs i=some v/\Q v H
def rIxT (K:PySem.W.Frag):R2:=λx y H Q=>∃p xs i v,x = .ref p/\y = .int i/\hZ K H p xs/\atI xs i=some v/\Q v H
def rIxS:R2:=λx y H Q=>∃z i c,x = .str z/\y = .int i/\z.length<=sizeLine/\atI z.cps.toList i=some c/\Q (.str ⟨#[c]⟩) H
theorem NI:LR X (rIxL X.K):=by
 intro c d a s σ H x y v u Q I B A h g;obtain⟨p,xs,i,z,rfl,rfl,C,F,q⟩:=h;cases B;obtain⟨t,rfl⟩:=A;obtain⟨its,r,pl,hz⟩:=I.list C;obtain⟨j,b,L,O,J,G⟩:=yR F;obtain⟨w,m,e⟩:=r.get L;have E:=r.length;have N:=line63;have fin:EP X a σ Q w s:=⟨z,H,I,e,q⟩
 by_cases l:0<=i
 ·have f:i.toNat=j:=by rw[seqIndex_of l G]at b;exact Option.some.inj b
  exact item_listR pl.isList l (by omega) (by rw[f];simpa using m) fin g
 ·have f:(i+(its.toArray.size:Int)).toNat=j:=by rw[seqIndex_neg (by omega) J]at b;rw[ag,←E];exact Option.some.inj b
  exact subscriptTail_builtinR (x:=w) pl.isList.typeIs slot_list_getitem.lookup
   (wpAny_getItem_list_neg (Q:=λr o=>r=w/\EP X a σ Q r o) pl.isList (by omega) (by rw[ag] <;> omega) (by omega) (by rw[f];simpa using m) ⟨rfl,fin⟩) g
theorem QF:LR X (rIxT X.K):=by
 intro b c a s σ H x y v u Q I g f h l;obtain⟨p,xs,i,z,rfl,rfl,m,A,q⟩:=h;cases g;obtain⟨t,rfl⟩:=f;obtain⟨its,r,pl,hz⟩:=I.tuple m;obtain⟨j,C,B,L,J,G⟩:=yR A;obtain⟨w,E,d⟩:=r.get B;have o:=r.length;have F:=line63;have fin:EP X a σ Q w s:=⟨z,H,I,d,q⟩
 exact subscriptTail_builtinR (x:=w) pl.typeIs slot_tuple_getitem.lookup
  (getItem_tuple (j:=j) (Q:=λr e=>r=w/\EP X a σ Q r e) pl (by omega) (by omega) (by rw[ag,←o];exact C) (by simpa using E) ⟨rfl,fin⟩) l
theorem QG:LR X rIxS:=by
 intro a b d s σ H x y v u Q I g f h l;obtain⟨z,i,c,rfl,rfl,hz,o,q⟩:=h;obtain⟨t,rfl⟩:=g;obtain⟨t',rfl⟩:=f;obtain⟨j,e,A,F,w,r⟩:=yR o;have m:z.cps.toList.length=z.length:=by simp[Str.length]
 rw[m]at e w r;have E:=line63
 exact tail_any (typeIs_str s z t) slot_str_getitem.lookup (getItem_str (c:=c) (by
  have C:decide (i < -(2 ^ 63:Int))=false:=bh (by omega);have B:decide (i ≥ 2 ^ 63)=false:=bh (by omega)
  rw[C,B,Bool.or_false]) (by rw[e];simpa using A) ⟨.str ⟨#[c]⟩,H,I.tok _,⟨_,rfl⟩,q⟩) l
def rIx (K:PySem.W.Frag):R2:=λx y H Q=>rIxL K x y H Q∨rIxT K x y H Q∨rIxS x y H Q
theorem QH:LR X (rIx X.K):=NI.or (QF.or QG)
theorem CY (its:cC)(n j:Nat)(u:Value):Obj.mapSeq (·.setIfInBounds j u) {cls:=.type "list",data:=.seq its.toArray n}={cls:=.type "list",data:=.seq (its.set j u).toArray n}:=by simp[Obj.mapSeq]
theorem aQ.lst {a:c9}{σ:St}{H:Hp}{s:Shared}{p:Addr}{xs:List V}(I:aQ X a σ H s)(h:H p=some (.lst xs)) :
  ∃(its:cC) (n:Nat),aX xs its/\s.heap.get? p=some {cls:=.type "list",data:=.seq its.toArray n}/\xs.length<=sizeLine:=by
 obtain⟨z,its,n,r,e⟩:=I.hok p _ h;exact⟨its,n,r,e,z⟩
theorem aQ.lstUpd {a:c9}{σ:St}{H:Hp}{s:Shared}{p:Addr}{xs c:List V}{its its':cC}{n d:Nat}{f:Obj->Obj}(I:aQ X a σ H s)(h:H p=some (.lst xs))
  (ho:s.heap.get? p=some {cls:=.type "list",data:=.seq its.toArray n}) (g:f {cls:=.type "list",data:=.seq its.toArray n}={cls:=.type "list",data:=.seq its'.toArray d}) (r:aX c its') (hz:c.length<=sizeLine) (t:Nat) :
  aQ X a σ (upd H p (.lst c)) {s with heap:=s.heap.update p f,toks:=t}:=by
 have e:(s.heap.update p f).get? p=some {cls:=.type "list",data:=.seq its'.toArray d}:=by rw[Heap.get?_update_self f ho (by rw[g] <;> rfl),g]
 refine I.write (x:=p) (e:=p) (by rw[h];trivial) (.inl rfl) (λb u i q=>(Heap.get?_update_other _ _ (Ne.symm i)).trans q) ⟨_,e⟩ ?_;exact⟨hz,its',d,r,e⟩
def rSetL:V->V->V->Hp->(Hp->Prop)->Prop:=λo i v H Q=>∃p xs k j,o = .ref p/\i = .int k/\H p=some (.lst xs)/\ixN xs.length k=some j/\Q (upd H p (.lst (xs.set j v)))
theorem sD:RV X rSetL:=by
 intro a s σ H o i v A B u Q I w x m h;obtain⟨p,xs,k,j,rfl,rfl,e,z,q⟩:=h;cases w;obtain⟨t,rfl⟩:=x;obtain⟨its,n,r,ho,hz⟩:=I.lst e;obtain⟨b,E,g,f⟩:=EU z;have c:=r.length;have C:=line63;have I':aQ X a σ (upd H p (.lst (xs.set j v))) {s with heap:=s.heap.update p (Obj.mapSeq (·.setIfInBounds j u))} :=
  I.lstUpd e ho (CY its n j u) (r.set m j) (by rw[List.length_set];exact hz) s.toks
 by_cases l:0<=k
 ·have d:k.toNat=j:=by rw[seqIndex_of l f]at b;exact Option.some.inj b
  exact PySem.W.ki_setAt ho l (by omega) (by rw[ag,←c];exact f) (by rw[d];exact⟨_,I',q⟩)
 ·have d:(k+(its.toArray.size:Int)).toNat=j:=by rw[seqIndex_neg (by omega) g]at b;rw[ag,←c];exact Option.some.inj b
  exact PySem.W.ki_setBack ho (by omega) (by rw[ag,←c];exact g) (by omega) (by rw[d];exact⟨_,I',q⟩)
theorem w9 (a b:Option Int)(n:Nat):(sliceBounds a b none n).1=((HT.sIx n 0 a:Nat):Int)/\(sliceBounds a b none n).2.1=((HT.sIx n n b:Nat):Int)/\(sliceBounds a b none n).2.2=1:=by
 refine⟨?_,?_,rfl⟩
 ·cases a with
  | none=>simp[sliceBounds,HT.sIx]
  | some i =>
   simp only[sliceBounds,HT.sIx,Option.getD_none,show(1:Int) > 0 by decide,if_true];by_cases h:i<0
   ·simp only[h,if_true] <;> omega
   ·simp only[h,if_false] <;> omega
 ·cases b with
  | none=>simp[sliceBounds,HT.sIx]
  | some i =>
   simp only[sliceBounds,HT.sIx,Option.getD_none,show(1:Int) > 0 by decide,if_true];by_cases h:i<0
   ·simp only[h,if_true] <;> omega
   ·simp only[h,if_false] <;> omega
theorem uL (its:cC)(a b:Option Int):slicePick its.toArray a b none=((its.drop (HT.sIx its.length 0 a)).take (HT.sIx its.length its.length b - HT.sIx its.length 0 a)).toArray:=by obtain⟨e,d,c⟩:=w9 a b its.toArray.size;unfold slicePick;rw[e,d,c];simp only[sliceRange_one,pick_run,ag] <;> rfl
def rSlL (K:PySem.W.Frag):V->Option Int->Option Int->Hp->VK->Prop:=λx b c H Q=>∃a xs,x = .ref a/\eK K H a xs/\∀p,H p=none->Q (.ref p) (upd H p (.lst (cutV xs b c)))
theorem D1:RT X (rSlL X.K):=by intro f s σ H x v w u d e z Q I i m pl j h;obtain⟨a,xs,rfl,l,q⟩:=h;cases i;obtain⟨its,r,g,hz⟩:=I.list l;have c:=r.length;refine⟨"list",_,slot_list_getitem.lookup,g.isList.typeIs,?_⟩;refine wpAny_getItem_list_slice g.isList m pl j .none (by simp) ?_ (by rw[ag] <;> omega);rw[uL,←c];refine⟨.ref s.heap.objs.size,_,I.laid (t':=s.toks) (o:=.lst (cutV xs d e)) (λb ob q=>af _ q) (ac _) ?_,rfl,q _ (I.hok.fresh (ac _))⟩;exact⟨al (qJ xs d e) hz,_,0,(r.drop (HT.sIx xs.length 0 d)).take (HT.sIx xs.length xs.length e - HT.sIx xs.length 0 d),ar _ rfl⟩
theorem xN:iP X (compareOp .NotIn) (λx y H Q=>∃i j,x = .str i/\y = .str j/\Q (.bl (!(!(Builtin.Str.occurrences j i 0 j.length 1).isEmpty))) H):=by intro a s σ H x y v u Q I c b h;obtain⟨i,j,rfl,rfl,q⟩:=h;obtain⟨t,rfl⟩:=c;obtain⟨t',rfl⟩:=b;exact notIn_str ⟨.bl _,H,I,rfl,q⟩
theorem yQ:d9 X (.builtin "len") (λxs H Q=>∃p b,xs=[.ref p]/\(eK X.K H p b∨hZ X.K H p b)/\Q (.int b.length) H):=by
 intro e s σ H xs us Q I r h;obtain⟨p,b,rfl,c,q⟩:=h;obtain⟨u,rfl,f⟩:=vals1 r;cases f;have g:=line63;rcases c with c|c
 ·obtain⟨its,d,pl,hz⟩:=I.list c;have a:=d.length;exact Calls.call_len_list pl.isList (by simp only[ag] <;> omega) ⟨.int b.length,H,I.tok _,⟨s.toks+1,by rw[ag,a]⟩,q⟩
 ·obtain⟨its,d,pl,hz⟩:=I.tuple c;have a:=d.length;exact len_tuple pl (by simp only[ag] <;> omega) ⟨.int b.length,H,I.tok _,⟨s.toks+1,by rw[ag,a]⟩,q⟩
theorem yP:d9 X (.builtin "len") (λxs H Q=>∃z,xs=[.str z]/\z.length<=sizeLine/\Q (.int z.length) H):=by intro a s σ H xs us Q I r h;obtain⟨z,rfl,hz,q⟩:=h;obtain⟨u,rfl,t,rfl⟩:=vals1 r;have b:=line63;exact len_str (by omega) ⟨.int z.length,H,I.tok _,⟨_,rfl⟩,q⟩
theorem yO:d9 X (.type "list") (λxs H Q=>∃p a,xs=[.ref p]/\(eK X.K H p a∨hZ X.K H p a)/\∀l,H l=none->Q (.ref l) (upd H l (.lst a))):=by
 intro f s σ H xs us Q I r h;obtain⟨p,a,rfl,g,q⟩:=h;obtain⟨u,rfl,v⟩:=vals1 r;cases v;have fin:∀(its:cC),aX a its->a.length<=sizeLine->∀(h':Heap) (d:Nat),(∀b m,s.heap.get? b=some m->h'.get? b=some m) ->
   h'.get? s.heap.objs.size=some {cls:=.type "list",dict:=none,data:=.seq its.toArray d,slots:=#[]}->EP X f σ Q (.ref s.heap.objs.size) {s with heap:=h'}:=λits c hz h' d kp e =>
  ⟨.ref s.heap.objs.size,_,I.laid (t':=s.toks) kp (ac _) (show cB X.prog X.w _ h' _ (.lst a)from⟨hz,its,d,c,e⟩),rfl,q _ (I.hok.fresh (ac _))⟩
 rcases g with g|g
 ·obtain⟨its,c,pl,hz⟩:=I.list g;have i:=c.length;obtain⟨o,ho,j,n,hd⟩:=pl.isList;exact call_list_seq p (.inl rfl) ho j hd (λh' d kp e=>fin its c hz h' d kp e) (by simp only[ag] <;> omega)
 ·obtain⟨its,c,pl,hz⟩:=I.tuple g;have i:=c.length;obtain⟨o,ho,j,n,hd⟩:=pl;exact call_list_seq p (.inr rfl) ho j hd (λh' d kp e=>fin its c hz h' d kp e) (by simp only[ag] <;> omega)
theorem uR:d9 X (.type "tuple") (λxs H Q=>∃p c,xs=[.ref p]/\((eK X.K H p c/\∀l,H l=none->Q (.ref l) (upd H l (.tup c)))∨(hZ X.K H p c/\Q (.ref p) H))):=by
 intro a s σ H xs us Q I r h;obtain⟨p,c,rfl,h⟩:=h;obtain⟨u,rfl,j⟩:=vals1 r;cases j;rcases h with⟨f,q⟩|⟨f,q⟩
 ·obtain⟨its,d,pl,hz⟩:=I.list f;have g:=d.length;refine call_tuple_list pl.isList (λh' kp=>?_) (by simp only[ag] <;> omega);have i:aQ X a σ H {s with heap:=h'}:=I.kept (t':=s.toks) kp;have m:aQ X a σ (upd H h'.objs.size (.tup c)) {s with heap:=h'.push {cls:=.type "tuple",data:=.seq its.toArray} } :=
   i.laid (t':=s.toks) (λb o e=>af _ e) (ac _) (show cB X.prog X.w _ _ _ (.tup c)from⟨hz,its,d,IsTup.new _ _⟩)
  exact⟨.ref h'.objs.size,_,m,rfl,q _ (i.hok.fresh (ac _))⟩
 ·obtain⟨its,d,pl,hz⟩:=I.tuple f;exact call_tuple_same pl ⟨.ref p,H,I,rfl,q⟩
def tyV (K:PySem.W.Frag)(T:String)(x:V)(H:Hp):Prop:=match x with
 | .str _=>T="str"
 | .int _=>T="int"
 | .ref p=>(T="list"/\∃xs,eK K H p xs)∨(T="tuple"/\∃o,K.lookup p=some o/\o.cls = .type "tuple"/\o.dict=none) ∨
   (T="dict"/\((∃a,H p=some (.dK a))∨∃a,H p=some (.dT a)))∨(T="set"/\∃S n,H p=some (.set S n))
 | _=>False
theorem HS {d:c9}{σ:St}{H:Hp}{s:Shared}{T:String}{x:V}{v:Value}(I:aQ X d σ H s)(r:aU x v)(ty:tyV X.K T x H) :
  s.TypeIs v T/\∀a,v = .ref a->∃ob,s.heap.get? a=some ob/\ob.dict=none:=by
 cases x with
 | str z =>
  obtain⟨t,rfl⟩:=r;cases (show T="str" from ty);exact⟨typeIs_str s z t,λ_ e=>nomatch e⟩
 | int i =>
  obtain⟨t,rfl⟩:=r;cases (show T="int" from ty);exact⟨typeIs_int s i t,λ_ e=>nomatch e⟩
 | ref p =>
  cases r;rcases ty with⟨rfl,xs,h⟩|⟨rfl,o,b,j,hd⟩|⟨rfl,b⟩|⟨rfl,S,n,b⟩
  ·obtain⟨its,_,pl,_⟩:=I.list h;refine⟨pl.isList.typeIs,λa e=>?_⟩;cases e;obtain⟨o,n,e,c,hd,_⟩:=pl;exact⟨o,e,hd⟩
  ·refine⟨⟨o,I.kIn p o b,j⟩,λa e=>?_⟩;cases e;exact⟨o,I.kIn _ o b,hd⟩
  ·have z:∃o,s.heap.get? p=some o/\o.ExactDict:=by
    rcases b with⟨f,b⟩|⟨f,b⟩
    ·obtain⟨_,_,_,_,o,_,_,e,ex,_⟩:=I.hok p _ b;exact⟨o,e,ex⟩
    ·obtain⟨_,_,_,_,o,_,_,e,ex,_⟩:=I.hok p _ b;exact⟨o,e,ex⟩
   obtain⟨o,e,ex⟩:=z;refine⟨⟨o,e,ex.1⟩,λa g=>?_⟩;cases g;exact⟨o,e,ex.2.1⟩
  ·obtain⟨o,_,_,_,e,ex,_⟩:=I.hok p _ b;refine⟨⟨o,e,ex.1⟩,λa g=>?_⟩;cases g;exact⟨o,e,ex.2.1⟩
 | _=>exact False.elim ty
def tBM0 (K:PySem.W.Frag)(T:String)(r:V->List V->Hp->VK->Prop)(b:TE):TE:=λσ H Q=>b σ H λx a=>tyV K T x a/\r x [] a Q
def tBM (K:PySem.W.Frag)(T:String)(r:V->List V->Hp->VK->Prop)(b:TE)(t:TA):TE:=λσ H Q=>b σ H λx a=>tyV K T x a/\t σ a λxs c=>r x xs c Q
variable {o e:Expr}{es:jW}{to:TE}{t:TA}{name:Str}{apos cpos:Pos}{T id:String}{r:V->List V->Hp->VK->Prop}
theorem CF (pa:PlainAttrs T)(slot:Slot T name id)(d:typeOf (.builtin id)=pure (.type "method_descriptor"))(i:SF X id r)(ho:PE X o to)
  (c:attributeBase o name X.env (eval o X.env)=eval o X.env:=by rfl) (b:(apos.endLine == cpos.line)=true:=by rfl):PE X (.Call (.Attribute o name apos) [] [] cpos) (tBM0 X.K T r to):=by
 intro a s σ H Q I h;refine wpAny_Call_method0_late c b (thn (ho a s σ H _ I h) λv f ⟨x,m,e,r1,ty,g⟩=>?_);obtain⟨l,j⟩:=HS e r1 ty;exact⟨T,id,pa,slot,d,l,j,Calls.callWith_builtin rfl (PySem.evalArgs_none (i a f σ m x [] v [] Q e r1 .nil g))⟩
theorem iU (pa:PlainAttrs T)(slot:Slot T name id)(g:typeOf (.builtin id)=pure (.type "method_descriptor"))(z:SF X id r)(ho:PE X o to)(A:PA X (e::es) t)
  (d:attributeBase o name X.env (eval o X.env)=eval o X.env:=by rfl)
  (f:((backTo cpos (starEach (e::es) X.env)).all (λx=>!x.1) && (backToKw cpos (keywordEach [] X.env)).all (λx=>x.1.isSome)
   && decide ((e::es).length+([]:List Keyword).length+(if ([]:List Keyword).isEmpty then 0 else 1)<30))=true:=by rfl)
  (c:(apos.endLine == cpos.line)=true:=by rfl) (w:starEach (e::es) X.env=(false,eval e X.env)::starEach es X.env:=by rfl) (b:(backTo cpos (starEach es X.env)).any (·.1)=false:=by rfl) :
  PE X (.Call (.Attribute o name apos) (e::es) [] cpos) (tBM X.K T r to t):=by
 intro a s σ H Q I h;refine wpAny_Call_method_late d f c rfl (thn (ho a s σ H _ I h) λv l ⟨x,G,j,r1,ty,u⟩=>?_);obtain⟨C,B⟩:=HS j r1 ty;refine⟨T,id,pa,slot,g,C,B,?_⟩;have i:=A cpos a l σ G _ j u;rw[w]at i⊢;refine Calls.callWith_builtin (by show(false || (backTo cpos (starEach es X.env)).any (·.1))=false;rw[b] <;> rfl) (Calls.evalArgs_plain ?_);exact thn i λus s2 ⟨vs,F,E,m,q⟩=>z a s2 σ F x vs v us Q E r1 m q
end
def R4 (X:Cx)(id:String)(r:V->List V->Hp->VK->Prop):Prop :=
 ∀(a:c9) (s:Shared) (σ:St) (H:Hp) (x:V) (xs:List V) (v:Value) (us:cC) (Q:VK),aQ X a σ H s->aU x v->aX xs us->r x xs H Q ->
  wpAny (model X.prog X.w) X.A (call (.builtin id) (v::us)) (EP X a σ Q) X.xe s
theorem aX.one {x:V}{us:cC}(h:aX [x] us):∃u,us=[u]/\aU x u:=by cases h with|cons r t=>cases t;exact⟨_,rfl,r⟩
theorem aX.two {x y:V}{us:cC}(h:aX [x,y] us):∃u v,us=[u,v]/\aU x u/\aU y v:=by cases h with|cons r t=>obtain⟨v,rfl,q⟩:=aX.one t;exact⟨_,_,rfl,r,q⟩
theorem aX.zero:∀{us:cC},aX [] us->us=[]
 | _,.nil=>rfl
theorem aX.dropLast {xs:List V}{us:cC}(h:aX xs us):aX xs.dropLast us.dropLast:=by
 induction h with
 | nil=>exact .nil
 | cons r t a =>
  cases t with
  | nil=>exact .nil
  | cons q t'=>exact .cons r a
theorem aX.reverse {xs:List V}{us:cC}(h:aX xs us):aX xs.reverse us.reverse:=by
 induction h with
 | nil=>exact .nil
 | cons r t a=>rw[List.reverse_cons,List.reverse_cons];exact aX.append a (.cons r .nil)
theorem aX.rep {xs:List V}{us:cC}(h:aX xs us):∀k:Nat,aX (List.replicate k xs).flatten (List.replicate k us).flatten
 | 0=>.nil
 | k+1=>by rw[List.replicate_succ,List.replicate_succ,List.flatten_cons,List.flatten_cons];exact aX.append h (aX.rep h k)
theorem DD {α:Type}(l:List α):l.eraseIdx (l.length - 1)=l.dropLast:=by
 induction l with
 | nil=>rfl
 | cons a r c =>
  cases r with
  | nil=>rfl
  | cons b r =>
   have e:(a::b::r).length - 1=((b::r).length - 1)+1:=by have f:(a::b::r).length=r.length+2:=rfl;have d:(b::r).length=r.length+1:=rfl;omega
   rw[e,List.eraseIdx_cons_succ,c]
   all_goals rfl
theorem vR (its:cC):∀(k:Nat) (a:cC),
  List.foldl (λc b=>c++b) a.toArray (List.replicate k its.toArray)=(a++(List.replicate k its).flatten).toArray
 | 0,a=>by simp
 | k+1,a=>by
  have e:a.toArray++its.toArray=(a++its).toArray:=by simp
  have d:(a++its)++(List.replicate k its).flatten=a++(List.replicate (k+1) its).flatten:=by rw[List.replicate_succ,List.flatten_cons,ci]
  rw[←d,←vR its k (a++its),←e,List.replicate_succ,List.foldl_cons]
section
variable {X:Cx}{pins:c9}{σ:St}{H:Hp}{s:Shared}{l b:Addr}{xs ys zs:List V}
theorem aQ.lset {its its':cC}{n:Nat}{f:gN->gN}{t':Nat}(I:aQ X pins σ H s)(g:H l=some (.lst xs))
  (e:s.heap.get? l=some {cls:=.type "list",data:=.seq its.toArray n}) (c:f its.toArray=its'.toArray) (a:aX ys its') (hz:ys.length<=sizeLine) :
  aQ X pins σ (upd H l (.lst ys)) {s with heap:=s.heap.update l (Obj.mapSeq f),toks:=t'}:=by
 have q:=PySem.IsL.update e f;rw[c]at q;refine I.write (x:=l) (e:=l) (by rw[g];exact trivial) (.inl rfl) (λh u d b=>(Heap.get?_update_other s.heap (Obj.mapSeq f) (Ne.symm d)).trans b) ⟨_,q⟩ ?_;exact⟨hz,its',_,a,q⟩
theorem aQ.lnew {its:cC}{t':Nat}(I:aQ X pins σ H s)(a:aX ys its)(hz:ys.length<=sizeLine) :
  aQ X pins σ (upd H s.heap.objs.size (.lst ys)) {s with heap:=s.heap.push {cls:=.type "list",data:=.seq its.toArray},toks:=t'} :=
 I.laid (λ_ _ q=>af _ q) (ac _) ⟨hz,its,0,a,ar _ rfl⟩
theorem aQ.fresh (I:aQ X pins σ H s):H s.heap.objs.size=none:=I.hok.fresh (ac _)
theorem aQ.lstM (I:aQ X pins σ H s)(a:H l=some (.lst xs)):xs.length<=sizeLine/\∃(its:cC) (n:Nat),aX xs its/\xs.length=its.length/\s.heap.get? l=some {cls:=.type "list",data:=.seq its.toArray n}:=by obtain⟨z,its,n,r,e⟩:=I.hok l _ a;exact⟨z,its,n,r,r.length,e⟩
theorem sR {n:Nat}(h:n<=sizeLine):Builtin.List.listTooLong n=false:=by unfold Builtin.List.listTooLong;exact bh (by omega)
end
section
variable {X:Cx}
def rAppend:V->List V->Hp->VK->Prop:=λx vs H Q=>∃l xs y,x = .ref l/\vs=[y]/\H l=some (.lst xs)/\xs.length<sizeLine/\Q .non (upd H l (.lst (xs++[y])))
theorem dY:R4 X "list.append" rAppend:=by intro a s σ H x vs v us Q I c d h;obtain⟨l,xs,y,rfl,rfl,b,hz,q⟩:=h;cases c;obtain⟨u,rfl,f⟩:=d.one;obtain⟨z,its,n,r,g,e⟩:=I.lstM b;refine call_meets F.slot_list_append ⟨_,e,rfl⟩ F.entry_list_append (F.args_list_append_2 _ _) (PySem.list_append l its.toArray n u (by rw[ag];omega)) ⟨e,?_⟩;refine⟨.non,_,I.lset (its':=its++[u]) b e (by simp) (r.append (.cons f .nil)) ?_,rfl,q⟩;rw[aq,cg];omega
def rExtend:V->List V->Hp->VK->Prop:=λx vs H Q=>∃l b xs a,x = .ref l/\vs=[.ref b]/\H l=some (.lst xs)/\H b=some (.lst a)/\xs.length+a.length<=sizeLine/\Q .non (upd H l (.lst (xs++a)))
theorem GQ:R4 X "list.extend" rExtend:=by
 intro c s σ H x vs v us Q I f g h;obtain⟨l,b,xs,A,rfl,rfl,d,o,hz,q⟩:=h;cases f;obtain⟨u,rfl,i⟩:=g.one;cases i;obtain⟨z,its,n,r,C,e⟩:=I.lstM d;obtain⟨B,its2,n2,j,m,w⟩:=I.lstM o;have hsz:its.toArray.size+its2.toArray.size<=sizeLine:=by rw[ag,ag];omega
 have a:¬(!its.toArray.isEmpty && Builtin.List.listTooLong (its.toArray.size+its2.toArray.size))=true:=by rw[sR hsz,Bool.and_false];exact Bool.false_ne_true
 refine call_meets F.slot_list_extend ⟨_,e,rfl⟩ F.entry_list_extend (F.args_list_extend_2 _ _)
  (AutoSeq1.list_extend_list_list_0 l its.toArray n b its2.toArray n2 a (by rw[ag];omega) (by omega)) ⟨e,w,?_⟩
 refine⟨.non,_,I.lset (its':=its++its2) d e (by simp) (r.append j) ?_,rfl,q⟩;rw[aq];omega
def rPop:V->List V->Hp->VK->Prop:=λx vs H Q=>∃l xs y,x = .ref l/\vs=[]/\H l=some (.lst xs)/\xs[xs.length - 1]?=some y/\Q y (upd H l (.lst xs.dropLast))
theorem xU:R4 X "list.pop" rPop:=by
 intro b s σ H x vs v us Q I d f h;obtain⟨l,xs,y,rfl,rfl,c,i,q⟩:=h;cases d;have a:=f.zero;subst a;obtain⟨z,its,n,r,m,e⟩:=I.lstM c;obtain⟨u,j,g⟩:=r.get i;have hy':its.toArray[its.toArray.size - 1]?=some u:=by show its.toArray[its.length - 1]?=some u;rw[←Array.getElem?_toList,←m];exact j
 refine call_meets F.slot_list_pop ⟨_,e,rfl⟩ F.entry_list_pop (F.args_list_pop_1 _) (MeetsSeq.list_pop_last l its.toArray n u hy' (by rw[ag];omega)) ⟨e,?_⟩;refine⟨y,_,I.lset (its':=its.dropLast) c e ?_ r.dropLast ?_,g,q⟩
 ·show its.toArray.eraseIdxIfInBounds (its.toArray.size - 1)=its.dropLast.toArray;rw[ag,List.eraseIdxIfInBounds_toArray,DD]
 ·rw[List.length_dropLast];omega
def rPopAt:V->List V->Hp->VK->Prop:=λx vs H Q=>∃l xs i k y,x = .ref l/\vs=[.int i]/\H l=some (.lst xs)/\-(2 ^ 63)<=i/\i<2 ^ 63/\seqIndex? i xs.length=some k/\xs[k]?=some y/\Q y (upd H l (.lst (xs.eraseIdx k)))
def rCat:R2:=λx y H Q=>∃l b xs a,x = .ref l/\y = .ref b/\H l=some (.lst xs)/\H b=some (.lst a)/\xs.length+a.length<=sizeLine/\∀p,H p=none->Q (.ref p) (upd H p (.lst (xs++a)))
theorem PX:iP X (binaryOp .Add) rCat:=by
 intro a s σ H x y v u Q I d c h;obtain⟨l,b,xs,w,rfl,rfl,i,j,hz,q⟩:=h;cases d;cases c;obtain⟨z,its,n,r,B,e⟩:=I.lstM i;obtain⟨A,its2,n2,f,g,o⟩:=I.lstM j;refine PySem.P.add_list e o ?_ (by rw[ag,ag];omega);have m:its.toArray++its2.toArray=(its++its2).toArray:=by simp
 rw[m];exact⟨.ref _,_,I.lnew (t':=s.toks) (r.append f) (by rw[aq];omega),rfl,q _ I.fresh⟩
def rRep:R2:=λx y H Q=>∃l k xs,x = .ref l/\y = .int k/\H l=some (.lst xs)/\-(2 ^ 63)<=k/\k<2 ^ 63/\xs.length * k.toNat<=sizeLine /\
 ∀p,H p=none->Q (.ref p) (upd H p (.lst (List.replicate k.toNat xs).flatten))
theorem NB {α:Type}(xs:List α)(k:Nat):(List.replicate k xs).flatten.length=k * xs.length:=by
 induction k with
 | zero=>simp
 | succ k a=>rw[List.replicate_succ,List.flatten_cons,aq,a,Nat.succ_mul,Nat.add_comm]
theorem sP:iP X (binaryOp .Mult) rRep:=by
 intro o s σ H x y v u Q I B A h;obtain⟨l,k,xs,rfl,rfl,E,J,G,hz,q⟩:=h;cases B;obtain⟨t,rfl⟩:=A;obtain⟨z,its,n,r,C,e⟩:=I.lstM E;have d:its.toArray.size * k.toNat<=sizeLine:=by rw[ag,←C];exact hz
 have g:¬its.toArray.size * k.toNat > (2 ^ 63 - 1) / 8:=by
  have:(sizeLine:Nat)<=(2 ^ 63 - 1) / 8:=by decide
  omega
 have f:¬(!Builtin.List.listFitsIndex k)=true:=by rw[fitsIndex_both J G];exact Bool.false_ne_true
 have b:¬Builtin.List.listTooLong (its.toArray.size * k.toNat)=true:=by rw[sR d];exact Bool.false_ne_true
 have c:List.foldl (λj i=>j++i) #[] (List.replicate (if its.toArray.isEmpty=true then 0 else k.toNat) its.toArray)=(List.replicate k.toNat its).flatten.toArray:=by
  have f0:∀m:Nat,List.foldl (λj i=>j++i) #[] (List.replicate m its.toArray)=(List.replicate m its).flatten.toArray:=λm=>by have:=vR its m [];rw[List.nil_append]at this;exact this
  rw[f0];cases its with
  | nil=>simp
  | cons a K=>rw[ab (by simp)]
 refine wpAny_binaryOp_repeat_ref (T:="list") (U:="int") (by decide) ⟨_,e,rfl⟩ (λw=>typeIs_int w k t) noFill_list_mul F.fills_int_mul F.slot_int_rmul repeat_list F.slot_int_index.lookup
  (call_meets F.slot_int_rmul (typeIs_int s k t) F.entry_int_rmul (F.args_int_rmul_2 _ _) (int___rmul___int_list k t l its.toArray n)
   ⟨e,rfl,⟨_,e,rfl⟩,call_meets F.slot_list_mul ⟨_,e,rfl⟩ F.entry_list_mul (F.args_list_mul_2 _ _) (AutoListH.list___mul___list_int_3 l its.toArray n k t f g b) ⟨e,?_⟩⟩)
 rw[c];exact⟨.ref _,_,I.lnew (t':=s.toks) (r.rep k.toNat) (by rw[NB,Nat.mul_comm];exact hz),rfl,q _ I.fresh⟩
end
end L2
namespace Att
open PySem PySem.W PySem.Calls PyProof.Rows
theorem rG {P:Params}{h:Heap}:∀(ns:List Int) (vs:cC),WellAll P h vs (ns.map WData.int)->IntsAre vs ns:=by
 intro ns
 induction ns with
 | nil =>
  intro vs w;rw[List.map_nil]at w;cases w;exact .nil
 | cons n ns c =>
  intro vs w;rw[ba]at w;cases w with
  | cons a b =>
   cases a;exact .cons _ _ (c _ b)
theorem FW {l:OpenLaw}{n:Nat}(v:l.most=some n){P:Params}{h:Heap}{args:List WData}{b:cC}
  (c:l.row.toRowW.claim.pre args=true) (j:WellAll P h b args) :
  ∃a vs ns,b=[Value.ref a]/\args=[WData.list (ns.map WData.int)]/\h.get? a=some {cls:=.type "list",data:=.seq vs.toArray}/\IntsAre vs ns/\ns.length<=n:=by
 have m:WShape.hasAll [] args [.list .int]=true:=(pre_splitW c).1;have o:l.pre.holds [] {args:=args}=true:=(pre_splitW c).2;obtain⟨d,r,rfl,z,x⟩:=hasAllW_cons m;obtain rfl:=hasAllW_nil x;obtain⟨xs,rfl,w⟩:=hasW_list z;obtain⟨ns,rfl⟩:=items_int w;have e:ns.length<=n:=by
  unfold OpenLaw.pre at o;have i:(WTm.not (.lt (.lit (.int (n:Int))) (.len (.arg 0)))).holds [] {args:=[.list (ns.map .int)]}=true:=by have i:=(holds_andW o).1;rw[v]at i;exact i
  have g:=condW_of i (w_not (w_lt w_lit (w_len_list (w_arg rfl))));rw[ae]at g;refine Nat.le_of_not_lt λq=>?_;have q':(n:Int)<((ns.length:Nat):Int):=by omega
  first
   | (rw[bf q']at g;exact absurd g (by decide))
   | (simp at g;omega)
 cases j with
 | cons u s =>
  cases s;cases u with
  | list ho f=>exact⟨_,_,ns,rfl,rfl,ho,rG ns _ f,e⟩
theorem F5 (l:OpenLaw)(args:List WData):l.row.toRowW.claim.post args (.bool true) args=true :=
 postW_of (r:=l.row.toRowW) (X:=(true == true))
  (show WShape.has [] (.bool true) .bool=true by first|rfl|decide|simp[WShape.has,WShape.arms,WShape.armsAll])
  (show(WTm.eq .res (.lit (.bool true))).value [] {args:=args,res:=some (.bool true),after:=args}=some (.bool (true == true))from w_eq_bool (w_res rfl) w_lit) rfl
theorem A7 {l:OpenLaw}{n:Nat}{q:Program}{loose:aV}{XP:(iH)->Heap->Prop}{YP:World->Heap->Prop}{d:DefRec}
  (J:l.most=some n) (A:d.params.defaults=[])
  (call:∀(w:World) (s₀ b:Shared) (mg v:iH) (j:Addr) (o:Obj) (u s e:Value) (a:Addr) (vs:cC) (ns:List Int),
   Ground q loose [] XP w s₀ mg v b.heap->YP w b.heap ->
   b.heap.get? j=some o->o.data = .func (docDef d.name d.params d.body d.scope u s e)->b.heap.CodeRec s d.name->mg d.name=some (.ref j) ->
   b.heap.get? a=some {cls:=.type "list",data:=.seq vs.toArray}->IntsAre vs ns->ns.length<=n->b.gens = #[] ->
   codeAny (model l.prog w) callerA (.call (.ref j) ⟨[.ref a],[]⟩) (λr m=>r = .ok (.ret (.bool true))/\OldK b.heap m.heap/\m.os=b.os/\AllBare m.gens) b) :
  WalkO q loose XP YP l.row.toRowW d [] (λf vs=>PySem.call f vs):=by
 intro w s₀ b mg v G Y j o u s e R kV ho hd B F z N args C as g E H x L;obtain rfl:R = .none:=Dflts.none F A;obtain rfl:kV = .none:=Dflts.noKw F;obtain⟨a,vs,ns,rfl,rfl,h,c,i⟩:=FW J g x;refine enter_call (codeAny_mono (call w s₀ b mg v j o u s e a vs ns G Y ho (fd_plain hd) B z h c i N) λr m I=>?_);obtain⟨rfl,Q,P,O⟩:=I;exact⟨.inl ⟨.bool true,.bool true,[],rfl,λ_=>rfl,.bool true,F5 l _,λ_=>⟨List.Pairwise.nil,λ_ K=>(nomatch K)⟩⟩,Q,P,O⟩
end Att
namespace L2
open PySem PySem.Spec PyProof.Rows
theorem uY:∀{vs:cC} {ns:List Int},IntsAre vs ns->aX (ns.map V.int) vs
 | _,_,.nil=>.nil
 | _,_,.cons n t h=>.cons ⟨t,rfl⟩ (uY h)
abbrev bH:BO:=λ_ _ _ _ _ _=>False
abbrev E0:XK:=λ_ _ _=>False
theorem pass0 {X:Cx}:jS bH X E0:=λ_ _ _ _ _ _ _ h=>h.elim
structure fY (K:PySem.W.Frag)(x qual:Str)(st:Stmt)(f:Addr)(fd:FuncData):Prop where
 ex:∃(oc:Value) (od:Option Addr) (kV doc pm:Value) (an:Option Addr) (cdv ct:Value) (osl:Array (Option Value)),
  fd=PySem.W.fnOf x qual (cT st) (cH st) (aJ st) .none kV doc pm an cdv ct/\K.lookup f=some ⟨oc,od,.func fd,osl⟩/\PySem.W.codeIn K cdv qual=true
 kp:PySem.W.keepIn K (.ref f)=true
section
variable {P:Program}{w:World}{K:PySem.W.Frag}{mg:iH}{base:Heap}
theorem fY.ok {x a:Str}{st:Stmt}{f:Addr}{i:FuncData}{N ps:aV}{k:Nat}{d:Sp}(F:fY K x a st f i)(S:aR N ps (aJ st))(len:∀vs H Q E,d vs H Q E->vs.length=ps.length)
  (c:∀(b:Value) (A:Around) (outer:List Env) (s:Shared) (H:Hp) (vs:List V) (Q:VK) (E:XK),d5 k (A.deeper (envOfC a (aJ st) s.heap.objs.size f b))->d vs H Q E ->
   ∃t,FH (cxOf bH P w K mg base N a (aJ st) f b A outer s H E).nox (cH st) t/\t {nx:=λ_ H'=>Q .non H',rt:=Q} (start N vs) H):bN P w K mg base bH (k+1) f i ps d:=by
 obtain⟨r,od,kV,m,o,u,b,ct,osl,rfl,j,g⟩:=F.ex;refine OG j g S len λA outer s H vs Q E l e=>?_;obtain⟨t,h,q⟩:=c b A outer s H vs Q E l e;exact⟨t,h.nox,q⟩
theorem fY.binds {x a:Str}{st:Stmt}{f:Addr}{g:FuncData}{ps:aV}(F:fY K x a st f g)
  (h:∀(kV b d:Value) (e:Option Addr) (c ct:Value) (us:cC),us.length=ps.length->bindArgs (PySem.W.fnOf x a (cT st) (cH st) (aJ st) .none kV b d e c ct) ⟨us,[]⟩=pure (ps.zip us)):eY K g ps []:=by
 obtain⟨j,od,kV,b,d,e,c,ct,osl,rfl,l,i⟩:=F.ex;exact .all (h kV b d e c ct)
theorem lQ {x a:Str}{st:Stmt}{f:Addr}{h:Value}{od g:Option Addr}{osl:Array (Option Value)}{kV d e b ct:Value}(l:K.lookup f=some ⟨h,od,.func (PySem.W.fnOf x a (cT st) (cH st) (aJ st) .none kV d e g b ct),osl⟩)
  (c:PySem.W.codeIn K b a=true) (k:PySem.W.keepIn K (.ref f)=true):fY K x a st f (PySem.W.fnOf x a (cT st) (cH st) (aJ st) .none kV d e g b ct):=⟨⟨h,od,kV,d,e,g,b,ct,osl,rfl,l,c⟩,k⟩
end
section
variable {X:Cx}
theorem pv (i:Nat){x:Str}{a:Pos}(d:X.N[i]?=some x:=by rfl)(c:RA X.env.scope x:=by first|exact Or.inl rfl|exact Or.inr (Or.inl rfl)|exact Or.inr (Or.inr rfl))(hd:(x == ("__debug__" : Str))=false:=by decide)
  (b:(x == ("__classdict__" : Str))=false:=by decide):PE X (.Name x a) (tVar i):=xJ d c hd b
end
theorem ite2 {c A B:Prop}[Decidable c](b:c->A)(a:¬c->B):if c then A else B:=by
 by_cases h:c
 ·rw[ai h];exact b h
 ·rw[ab h];exact a h
def aD (H H':Hp):Prop:=∀b o,H b=some o->H' b=some o
theorem aD.refl (H:Hp):aD H H:=λ_ _ h=>h
theorem aD.trans {H e d:Hp}(a:aD H e)(b:aD e d):aD H d:=λc o h=>b c o (a c o h)
theorem aD.free {H H':Hp}(e:aD H H'){l:Addr}(h:H' l=Option.none):H l=Option.none:=by
 cases q:H l with
 | none=>rfl
 | some o =>
  rw[e l o q]at h;cases h
section
variable {κ:Type}[DecidableEq κ]
noncomputable def valV (a:List (κ×V))(k:κ):Option V:=(a.find? λb=>decide (b.1=k)).map (·.2)
noncomputable def putK (a:List (κ×V))(k:κ)(v:V):List (κ×V) :=
 if (a.any λb=>decide (b.1=k))=true then a.map (λb=>if b.1=k then(b.1,v)else b)else a++[(k,v)]
theorem nS {p:κ×V}{r:List (κ×V)}{k:κ}(e:p.1=k):valV (p::r) k=some p.2:=by simp[valV,List.find?_cons,e]
theorem nU {p:κ×V}{r:List (κ×V)}{k:κ}(e:¬p.1=k):valV (p::r) k=valV r k:=by simp[valV,List.find?_cons,e]
theorem AF (a:List (κ×V))(k:κ)(v:V):(putK a k v).length<=a.length+1:=by
 unfold putK;split
 ·rw[ae];omega
 ·rw[aq,ao,List.length_nil];omega
theorem j7.isSome_eq {o:Option V}{u:Option Value}(r:j7 o u):o.isSome=u.isSome:=by
 cases o with
 | none=>cases u with
  | none=>rfl
  | some _=>exact(show False from r).elim
 | some _=>cases u with
  | none=>exact(show False from r).elim
  | some _=>rfl
theorem j7.getD {o:Option V}{u:Option Value}{d:V}{d':Value}(r:j7 o u)(a:aU d d'):aU (o.getD d) (u.getD d'):=by
 cases o with
 | none=>cases u with
  | none=>exact a
  | some _=>exact(show False from r).elim
 | some _=>cases u with
  | none=>exact(show False from r).elim
  | some _=>exact r
theorem KV.val {a:List (κ×V)}{vs:List (κ×Value)}(r:KV a vs)(k:κ):j7 (valV a k) (valueAt vs k):=by
 unfold KV at r
 induction r with
 | nil=>exact True.intro
 | @cons p q ps c h t f =>
  obtain⟨d,g⟩:=h;by_cases e:p.1=k
  ·have e':q.1=k:=d.symm.trans e;have b:valueAt (q::c) k=some q.2:=by simp[valueAt,List.find?_cons,e']
   rw[nS e,b];exact g
  ·have e':¬q.1=k:=λz=>e (d.trans z);have b:valueAt (q::c) k=valueAt c k:=by simp[valueAt,List.find?_cons,e']
   rw[nU e,b];exact f
theorem KV.any {a:List (κ×V)}{vs:List (κ×Value)}(r:KV a vs)(k:κ):(a.any λb=>decide (b.1=k))=vs.any λb=>decide (b.1=k):=by
 unfold KV at r
 induction r with
 | nil=>rfl
 | cons h t c=>rw[List.any_cons,List.any_cons,c,h.1]
theorem KV.repl {b:List (κ×V)}{vs:List (κ×Value)}(r:KV b vs)(k:κ){y:V}{u:Value}(d:aU y u) :
  KV (b.map λa=>if a.1=k then(a.1,y)else a) (vs.map λa=>if a.1=k then(a.1,u)else a):=by
 unfold KV at r⊢
 induction r with
 | nil=>exact .nil
 | @cons p q ps i h t f =>
  rw[ba,ba];refine .cons ?_ f;obtain⟨c,g⟩:=h;by_cases e:p.1=k
  ·rw[ai e,ai (c.symm.trans e)];exact⟨c,d⟩
  ·rw[ab e,ab (λz=>e (c.trans z))];exact⟨c,g⟩
theorem KV.put {a:List (κ×V)}{vs:List (κ×Value)}(r:KV a vs)(k:κ){y:V}{u:Value}(b:aU y u):KV (putK a k y) (stored vs k u):=by
 unfold putK stored;rw[r.any k];by_cases e:(vs.any λc=>decide (c.1=k))=true
 ·rw[ai e,ai e];exact r.repl k b
 ·rw[ab e,ab e];exact Paired.snoc r ⟨rfl,b⟩
theorem KV.length {a:List (κ×V)}{vs:List (κ×Value)}(r:KV a vs):a.length=vs.length:=Paired.length r
end
theorem lP {P:Program}{w:World}{k:dQ}{u:Value}(r:aU (kV k) u):(bU P w).is k u=true:=by
 cases k with
 | inl i=>obtain⟨t,e⟩:=(show ∃t,u=Value.int i t from r);subst e;exact AA P w i t
 | inr x=>obtain⟨t,e⟩:=(show ∃t,u=Value.str x t from r);subst e;exact zZ P w x t
theorem vM {P:Program}{w:World}:∀{ks:List dQ} {us:cC},aX (ks.map kV) us->ItemsAre (bU P w) ks us
 | [],_,r=>by rw[List.map_nil]at r;cases r;exact .nil
 | k::ks,_,r=>by
  rw[ba]at r;cases r with
  | cons h t=>exact .cons (lP h) (vM t)
abbrev KT (H:Hp):List (List dQ×V)->List (List dQ×Addr×Value)->Prop:=Paired λp q=>p.1=q.1/\H q.2.1=some (.tup (p.1.map kV))/\aU p.2 q.2.2
theorem KT.val {H:Hp}{a:List (List dQ×V)}{xs:List (List dQ×Addr×Value)}(r:KT H a xs)(k:List dQ):j7 (valV a k) ((atKey xs k).map (·.2)):=by
 induction r with
 | nil=>exact True.intro
 | @cons p q ps c h t f =>
  obtain⟨d,_,g⟩:=h;by_cases e:p.1=k
  ·have e':q.1=k:=d.symm.trans e;have b:atKey (q::c) k=some q.2:=by simp[atKey,List.find?_cons,e']
   rw[nS e,b];exact g
  ·have e':¬q.1=k:=λz=>e (d.trans z);have b:atKey (q::c) k=atKey c k:=by simp[atKey,List.find?_cons,e']
   rw[nU e,b];exact f
section
variable {P:Program}{w:World}{H:Hp}{h:Heap}{a:Addr}
theorem OA {u:HO}(ok:gQ P w H h)(e:Rd H a u):cB P w H h a u:=e.ok ok
theorem qI {b:List (dQ×V)}(ok:gQ P w H h)(e:Rd H a (.dK b)):b.length<=sizeLine/\(a == sysModules)=false/\∃vs,KV b vs/\h.DictOf (bU P w) a vs :=
 show cB P w H h a (.dK b)from OA ok e
theorem RM {b:List (dQ×V)}(ok:gQ P w H h)(e:H a=some (.dK b)):b.length<=sizeLine/\(a == sysModules)=false/\∃vs,KV b vs/\h.DictOf (bU P w) a vs:=qI ok (.inl e)
theorem sX {ks:List dQ}(ok:gQ P w H h)(e:H a=some (.tup (ks.map kV))):(tupleKind (bU P w)).is h ks a:=by
 obtain⟨_,its,r,o,d,c,n,b⟩:=(show cB P w H h a (.tup (ks.map kV))from ok a _ e)
 exact⟨o,its.toArray,n,d,c,b,by simpa using vM r⟩
theorem vT {b:List (List dQ×V)}(ok:gQ P w H h)(e:Rd H a (.dT b)):b.length<=sizeLine/\(a == sysModules)=false /\
  ∃xs,KT H b xs/\h.DictOfH (tupleKind (bU P w)) a xs:=by
 obtain⟨z,y,xs,r,o,es,v,u,s,j,i,g⟩:=(show cB P w H h a (.dT b)from OA ok e)
 refine⟨z,y,xs,r,o,es,v,u,s,j,i,λx c=>?_,g⟩;have all:∀{l:List (List dQ×V)} {m:List (List dQ×Addr×Value)},KT H l m->∀x∈m,(tupleKind (bU P w)).is h x.1 x.2.1:=by
  intro l m q
  induction q with
  | nil=>intro x c;exact nomatch c
  | @cons p q ps A d t f =>
   intro x c;rcases cp.mp c with e|c
   ·subst e;exact sX ok (by rw[←d.1];exact d.2.1)
   ·exact f x c
 exact all r x c
end
def kX (H:Hp)(a:Addr)(y:V)(r:Option V):Prop :=
 (∃c k,Rd H a (.dK c)/\y=kV k/\r=valV c k)∨∃c k b,Rd H a (.dT c)/\y = .ref b/\H b=some (.tup (k.map kV))/\r=valV c k
theorem kX.k {H:Hp}{a:Addr}{b:List (dQ×V)}{k:dQ}(e:H a=some (.dK b)):kX H a (kV k) (valV b k):=.inl ⟨b,k,.inl e,rfl,rfl⟩
section
variable {X:Cx}{pins:c9}{σ:St}{H:Hp}{s:Shared}{a:Addr}{y v:V}{u r:Value}{o:Option V}{A:Around}{E:cL}
theorem aQ.big (I:aQ X pins σ H s):sysModules<s.heap.objs.size:=by have h:mainGlobals<s.heap.objs.size:=(I.mod.glob.keeps I.bk).lt;exact Nat.lt_trans (by decide) h
theorem G6 {Q:cL}(C:A.units+1<cLine)(I:aQ X pins σ H s)(g:kX H a y (some v))(B:aU y u)(h:∀f x,aQ X pins σ H x->aU v f->Q f x) :
  wpAny (model X.prog X.w) A (getItem (.ref a) u) Q E s:=by
 rcases g with⟨i,k,e,q,l⟩|⟨i,k,b,e,q,G,l⟩
 ·subst q;obtain⟨z,hd,vs,d,r⟩:=qI I.hok e;obtain⟨f,j,c⟩:=j7.some_of (v:=v) (o:=valueAt vs k) (by rw[l];exact d.val k);exact wpAny_getItem_of (lP B) r.mapOf j (h f _ (I.tok _) c)
 ·subst q;cases (show u=Value.ref b from B);obtain⟨z,hd,xs,d,r⟩:=vT I.hok e;obtain⟨f,j,c⟩:=j7.some_of (v:=v) (o:=(atKey xs k).map (·.2)) (by rw[l];exact d.val k);obtain⟨p,F,m⟩:=Option.map_eq_some_iff.mp j;refine wpAny_getItem_heap (tupleKind_room_in1 C) (sX I.hok G) r F ?_;rw[m];exact h f _ (I.tok _) c
theorem NU {Q:cL}(r:A.units+1<cLine)(I:aQ X pins σ H s)(g:kX H a y o)(m:aU y u)(h:∀j,aQ X pins σ H j->Q (.bool (!o.isSome)) j) :
  wpAny (model X.prog X.w) A (compareOp .NotIn u (.ref a)) Q E s:=by
 rcases g with⟨d,k,e,f,l⟩|⟨d,k,b,e,f,v,l⟩
 ·subst f;obtain⟨z,hd,vs,c,i⟩:=qI I.hok e;refine wpAny_notIn_of (lP m) hd i.mapOf ?_;rw[←(c.val k).isSome_eq,←l];exact h _ (I.tok _)
 ·subst f;cases (show u=Value.ref b from m);obtain⟨z,hd,xs,c,i⟩:=vT I.hok e;refine wpAny_notIn_heap (tupleKind_room_in1 r) (sX I.hok v) hd i ?_;have q:=(c.val k).isSome_eq;rw[Option.isSome_map]at q;rw[←q,←l];exact h _ (I.tok _)
theorem yM {h':Heap}{t':Nat}{ob:HO}(I:aQ X pins σ H s)(c:RZ (H a))(d:Heap.SameBut a s.heap h')(f:∃q,h'.get? a=some q)(new:cB X.prog X.w (upd H a ob) h' a ob) :
  aQ X pins σ (upd H a ob) {s with heap:=h',toks:=t'} :=
 I.write (x:=a) (e:=a) c (.inl rfl) (λb q g z=>(d.2 b g).trans z) f new
theorem K4 {P:Program}{w:World}{H':Hp}{h':Heap}{b:List (dQ×V)}{vs:List (dQ×Value)}(z:b.length<=sizeLine)(hd:(a == sysModules)=false)(c:KV b vs)(d:h'.DictOf (bU P w) a vs) :
  cB P w H' h' a (.dK b):=⟨z,hd,vs,c,d⟩
end
section
variable {X:Cx}{pins:c9}{σ:St}{H:Hp}{s:Shared}{a:Addr}{kvs:List (dQ×V)}{k:dQ}{u:Value}{A:Around}{E:cL}
theorem RN {Q:cL}(I:aQ X pins σ H s)(e:Rd H a (.dK kvs))(h:∀t c,aQ X pins σ H c->Q (.int kvs.length t) c):wpAny (model X.prog X.w) A (call (.builtin "len") [.ref a]) Q E s:=by obtain⟨z,hd,vs,b,d⟩:=qI I.hok e;refine call_len_dict hd d (by rw[←b.length];rw[sizeLine_eq]at z;omega) ?_;rw[←b.length];exact h _ _ (I.tok _)
end
def N4 (i:Expr):Prop:=∀a b,subscripted i false a b=operate [a,b] (getItem a b)
theorem wV {prog:Program}{w:World}{A:Around}{E:cL}{s:Shared}{env:Env}{b a:Expr}{d:Pos}{T id:String}{Q:cL}
  (u:typeLookup (.type T) "__getitem__" = pure (some (.builtin id))) (q:N4 a)
  (h:wpAny (model prog w) A (eval b env) (λo g=>wpAny (model prog w) A (eval a env) (λi c=>c.TypeIs o T/\wpAny (model prog w) A (getItem o i) Q E c) E g) E s) :
  wpAny (model prog w) A (eval (.Subscript b a d) env) Q E s:=by
 refine Subscript_ (wpAny_mono h (λo g m=>wpAny_mono m (λi c e=>?_) λ_ _ x=>x) λ_ _ x=>x);obtain⟨j,e⟩:=e;unfold subscriptTail;refine aa ?_;rw[getitemInPython_of_ne j.not_modules];refine aa (wpAny_specialOf j u ?_);have fin:wpAny (model prog w) A (subscripted a false o i) (λr f=>wpAny (model prog w) A (letTemporaryGo b o r >>= λ_=>pure r) Q E f) E c:=by rw[q o i];exact wpAny_operating (wpAny_mono e (λr f l=>aa (wpAny_letTemporaryGo (ak l))) λ_ _ x=>x)
 first
  | exact ak (aa fin)
  | exact aa (ak (aa fin))
  | exact aa fin
theorem A1 {X:Cx}{c:c9}{σ:St}{H:Hp}{s:Shared}{a:Addr}{y:V}{o:Option V}(I:aQ X c σ H s)(g:kX H a y o):s.TypeIs (.ref a) "dict":=by
 rcases g with⟨d,k,e,_,_⟩|⟨d,k,b,e,_,_,_⟩
 ·obtain⟨_,_,vs,_,f⟩:=qI I.hok e;exact f.typeIs
 ·obtain⟨_,_,xs,_,f⟩:=vT I.hok e;exact f.typeIs
def tDGet (c ty:TE):TE:=λσ H Q=>c σ H λx d=>ty σ d λy b=>∃a v,x = .ref a/\kX b a y (some v)/\Q v b
section
variable {X:Cx}{o i e value:Expr}{pos pos' tpos:Pos}{td ty tv:TE}
theorem MJ (q:X.A.units+1<cLine)(ho:PE X o td)(w:PE X i ty)(r:N4 i):PE X (.Subscript o i pos) (tDGet td ty):=by intro b s σ H Q I h;refine wV PySem.F.slot_dict_getitem.lookup r (thn (ho b s σ H _ I h) λu e ⟨x,E,B,j,m⟩=>thn (w b e σ E _ B m) λK s2 ⟨y,C,d,f,a,v,ex,g,l⟩=>?_);subst ex;obtain rfl:u=Value.ref a:=j;exact⟨A1 d g,G6 q d g f λG J z c=>⟨v,C,z,c,l⟩⟩
end
theorem A0 {P:Program}{w:World}{H:Hp}(h:Heap)(a:sysModules<h.objs.size):cB P w H (h.push {cls:=.type "dict",data:=.dict #[]}) h.objs.size (.dK []) :=
 ⟨au _,cu.mpr (Ne.symm (bj a)),[],.nil,Heap.DictOf.new h⟩
def IA:TE:=λ_ H Q=>∀p,H p=none->Q (.ref p) (upd H p (.dK []))
section
variable {X:Cx}{pos:Pos}
theorem JD:PE X (.Dict [] [] pos) IA:=λb s σ H Q I h =>
 wpAny_Dict_empty ⟨.ref s.heap.objs.size,_,I.laid (a:=s.heap.objs.size) (o:=.dK []) (t':=s.toks) (λ_ _ q=>af _ q) (ac _) (A0 s.heap I.big),rfl,h _ (I.hok.fresh (ac _))⟩
end
def BY:List (TE×TE)->St->Hp->(List (V×V)->Hp->Prop)->Prop
 | [],_,H,Q=>Q [] H
 | (tk,a)::r,σ,H,Q=>tk σ H λx d=>a σ d λy c=>BY r σ c λps b=>Q ((x,y)::ps) b
abbrev VV:List (V×V)->List (Value×Value)->Prop:=Paired λp q=>aU p.1 q.1/\aU p.2 q.2
def R3 (X:Cx)(d:Pos)(keys:List (Option Expr))(a:jW)(c:List (TE×TE)):Prop :=
 ∀(b:c9) (s:Shared) (σ:St) (H:Hp) (Q:List (V×V)->Hp->Prop),aQ X b σ H s->BY c σ H Q ->
  wpAny (model X.prog X.w) X.A (evalPairs (pairTrees keys a X.env d)) (λvs e=>∃ps H',aQ X b σ H' e/\VV ps vs/\Q ps H') X.xe s
theorem MA {X:Cx}{a:Pos}:R3 X a [] [] []:=λb s σ H Q I h=>pairTrees_nil_walk ⟨[],H,I,.nil,h⟩
theorem lK {X:Cx}{c:Pos}{k v:Expr}{ks:List (Option Expr)}{vs:jW}{tk e:TE}{b:List (TE×TE)}(r:PE X k tk)(o:PE X v e)(q:R3 X c ks vs b) :
  R3 X c (some k::ks) (v::vs) ((tk,e)::b):=λa s σ H Q I h =>
 pairTrees_cons_walk (thn (r a s σ H _ I h) λu f ⟨x,E,A,i,m⟩=>thn (o a f σ E _ A m) λF s2 ⟨y,C,z,g,l⟩ =>
  thn (q a s2 σ C _ z l) λws G ⟨ps,B,w,d,j⟩=>⟨(x,y)::ps,B,w,.cons ⟨i,g⟩ d,j⟩)
noncomputable def eJ (a more:List (dQ×V)):List (dQ×V):=more.foldl (λb c=>putK b c.1 c.2) a
theorem KV.merge:∀{more:List (dQ×V)} {b:List (dQ×Value)} {a:List (dQ×V)} {vs:List (dQ×Value)},KV more b->KV a vs->KV (eJ a more) (merged vs b):=by
 intro more b a vs r;unfold KV at r
 induction r generalizing a vs with
 | nil=>intro q;exact q
 | @cons p q ps f h t d =>
  intro c;have e:KV (putK a p.1 p.2) (stored vs q.1 q.2):=by have:=c.put p.1 h.2;rw[←h.1];exact this
  exact d e
theorem jO:∀(more a:List (dQ×V)),(eJ a more).length<=a.length+more.length
 | [],a=>by show a.length<=a.length+0;omega
 | p::r,a=>by have c:=jO r (putK a p.1 p.2);have b:=AF a p.1 p.2;show(eJ (putK a p.1 p.2) r).length<=_;rw[ao];omega
theorem tL {P:Program}{w:World}:∀{d:List (dQ×V)} {ws:List (Value×Value)},VV (d.map λf=>(kV f.1,f.2)) ws->∃e,Carries (bU P w) ws e/\KV d e
 | [],_,r=>by rw[List.map_nil]at r;cases r;exact⟨[],True.intro,.nil⟩
 | p::d,_,r=>by
  rw[ba]at r;cases r with
  | @cons a b as bs h t =>
   obtain⟨e,c,q⟩:=tL (P:=P) (w:=w) t;obtain⟨g,b2⟩:=b;exact⟨(p.1,b2)::e,⟨lP h.1,rfl,c⟩,.cons ⟨rfl,h.2⟩ q⟩
def tDisp (b:List (TE×TE)):TE:=λσ H Q=>∀p,H p=none->BY b σ (upd H p (.dK [])) λps d=>d p=some (.dK [])/\∃a:List (dQ×V),ps=a.map (λc=>(kV c.1,c.2))/\a.length<=15/\Q (.ref p) (upd d p (.dK (eJ [] a)))
theorem MI {X:Cx}{f:Pos}{keys:List (Option Expr)}{b:jW}{d:List (TE×TE)}(h:R3 X f keys b d)(j:keys.all (·.isSome)=true)(G:keys.length=b.length)(L:keys≠[])
  (r:keys.length<=15):PE X (.Dict keys b f) (tDisp d):=by
 intro g s σ H Q I q;have F:=I.hok.fresh (ac s.heap.objs.size);have R:=I.laid (a:=s.heap.objs.size) (o:=.dK []) (h':=s.heap.push {cls:=.type "dict",data:=.dict #[]}) (t':=s.toks) (λ_ _ q=>af _ q) (ac _) (A0 s.heap I.big);refine wpAny_Dict_walk (knd:=bU X.prog X.w) j G L r (thn (h g _ σ _ _ R (q _ F)) λws s2 ⟨ps,T,u,m,e,i,N,S,C⟩=>?_);subst N;obtain⟨x,c,A⟩:=tL (P:=X.prog) (w:=X.w) m;obtain⟨z,hd,v,B,O⟩:=RM u.hok e;cases B;refine⟨x,c,O,λh' l E=>⟨.ref s.heap.objs.size,_,?_,rfl,C⟩⟩;have hz:(eJ [] i).length<=sizeLine:=by have K:=jO i [];rw[List.length_nil]at K;rw[sizeLine_eq];omega
 have J:∃q,h'.get? s.heap.objs.size=some q:=let⟨q,_,_,hq,_⟩:=l;⟨q,hq⟩;exact yM u (by rw[e];exact True.intro) E J (K4 hz hd (A.merge .nil) l)
structure M1 (X:Cx)(o:Expr)(m:Str)(apos:Pos)(e:Expr)(cpos:Pos):Prop where
 base:attributeBase o m X.env (eval o X.env)=eval o X.env
 few:((backTo cpos (starEach [e] X.env)).all (λx=>!x.1) && (backToKw cpos (keywordEach [] X.env)).all (λx=>x.1.isSome)
  && decide (([e]:jW).length+([]:List Keyword).length+(if ([]:List Keyword).isEmpty then 0 else 1)<30))=true
 line:(apos.endLine == cpos.line)=true
 trees:backTo cpos (starEach [e] X.env)=[(false,eval e X.env)]
structure M2 (X:Cx)(o:Expr)(m:Str)(apos:Pos)(e f:Expr)(cpos:Pos):Prop where
 base:attributeBase o m X.env (eval o X.env)=eval o X.env
 few:((backTo cpos (starEach [e,f] X.env)).all (λx=>!x.1) && (backToKw cpos (keywordEach [] X.env)).all (λx=>x.1.isSome)
  && decide (([e,f]:jW).length+([]:List Keyword).length+(if ([]:List Keyword).isEmpty then 0 else 1)<30))=true
 line:(apos.endLine == cpos.line)=true
 trees:backTo cpos (starEach [e,f] X.env)=[(false,eval e X.env),(false,eval f X.env)]
def SK (H:Hp)(a:Addr):Prop:=(∃b,Rd H a (.dK b))∨∃b,Rd H a (.dT b)
theorem C9 {X:Cx}{c:c9}{σ:St}{H:Hp}{s:Shared}{a:Addr}(I:aQ X c σ H s)(d:SK H a) :
  s.TypeIs (.ref a) "dict"/\(∀b,Value.ref a = .ref b->∃ob,s.heap.get? b=some ob/\ob.dict=none)/\(a == sysModules)=false:=by
 rcases d with⟨g,e⟩|⟨g,e⟩
 ·obtain⟨_,hd,vs,_,f⟩:=qI I.hok e;refine⟨f.typeIs,λb q=>?_,hd⟩;cases q;obtain⟨ob,_,_,i,h,_⟩:=f;exact⟨ob,i,h.2.1⟩
 ·obtain⟨_,hd,xs,_,f⟩:=vT I.hok e;refine⟨f.typeIs,λb q=>?_,hd⟩;cases q;obtain⟨ob,_,_,i,h,_⟩:=f;exact⟨ob,i,h.2.1⟩
section
variable {X:Cx}{pins:c9}{σ:St}{H:Hp}{s:Shared}{a:Addr}{y d:V}{u r:Value}{o:Option V}{A:Around}{E:cL}
theorem QN {Q:cL}(r:A.units+1<cLine)(I:aQ X pins σ H s)(g:kX H a y o)(q:aU y u)(h:∀j m,aQ X pins σ H m->aU (o.getD .non) j->Q j m) :
  wpAny (model X.prog X.w) A (call (.builtin "dict.get") [.ref a,u]) Q E s:=by
 rcases g with⟨f,k,e,i,l⟩|⟨f,k,b,e,i,v,l⟩
 ·subst i;obtain⟨z,hd,vs,c,d⟩:=qI I.hok e;refine call_meetsIn PySem.F.slot_dict_get d.typeIs PySem.F.entry_dict_get (PySem.F.args_dict_get_2 _ _) (meets_dict_get (bU X.prog X.w) a (lP q) hd) ⟨_,d.mapOf,h _ _ (I.tok _) ?_⟩;rw[l];exact(c.val k).getD rfl
 ·subst i;cases (show u=Value.ref b from q);obtain⟨z,hd,xs,c,d⟩:=vT I.hok e;refine call_meetsIn PySem.F.slot_dict_get d.typeIs PySem.F.entry_dict_get (PySem.F.args_dict_get_2 _ _) (meetsH_dict_get (tupleKind (bU X.prog X.w)) a b hd) ⟨tupleKind_room_in1 r,k,xs,sX I.hok v,d,h _ _ (I.tok _) ?_⟩;rw[l];exact(c.val k).getD rfl
theorem QM {Q:cL}(B:A.units+1<cLine)(I:aQ X pins σ H s)(g:kX H a y o)(v:aU y u)(x:aU d r)(h:∀m q,aQ X pins σ H q->aU (o.getD d) m->Q m q) :
  wpAny (model X.prog X.w) A (call (.builtin "dict.get") [.ref a,u,r]) Q E s:=by
 rcases g with⟨i,k,e,j,l⟩|⟨i,k,b,e,j,C,l⟩
 ·subst j;obtain⟨z,hd,vs,c,f⟩:=qI I.hok e;refine call_meetsIn PySem.F.slot_dict_get f.typeIs PySem.F.entry_dict_get (PySem.F.args_dict_get_3 _ _ _) (meets_dict_get_default (bU X.prog X.w) a (lP v) hd r) ⟨_,f.mapOf,h _ _ (I.tok _) ?_⟩;rw[l];exact(c.val k).getD x
 ·subst j;cases (show u=Value.ref b from v);obtain⟨z,hd,xs,c,f⟩:=vT I.hok e;refine call_meetsIn PySem.F.slot_dict_get f.typeIs PySem.F.entry_dict_get (PySem.F.args_dict_get_3 _ _ _) (meetsH_dict_get_default (tupleKind (bU X.prog X.w)) a b hd r) ⟨tupleKind_room_in1 B,k,xs,sX I.hok C,f,h _ _ (I.tok _) ?_⟩;rw[l];exact(c.val k).getD x
end
def O3 (d ty:TE):TE:=λσ H Q=>d σ H λx c=>∃a,x = .ref a/\SK c a/\ty σ c λy b=>∃o,kX b a y o/\Q (o.getD .non) b
def O2 (e ty d:TE):TE:=λσ H Q=>e σ H λx c=>∃a,x = .ref a/\SK c a/\ty σ c λy f=>d σ f λz b=>∃o,kX b a y o/\Q (o.getD z) b
section
variable {X:Cx}{o e f:Expr}{apos cpos:Pos}{td ty tx:TE}
theorem zP (w:X.A.units+1<cLine)(ho:PE X o td)(z:PE X e ty)(m:M1 X o "get" apos e cpos):PE X (.Call (.Attribute o "get" apos) [e] [] cpos) (O3 td ty):=by intro b s σ H Q I h;refine wpAny_Call_method m.base m.few m.line PySem.F.plainAttrs_dict PySem.F.slot_dict_get PySem.F.type_dict_get (thn (ho b s σ H _ I h) λu j ⟨x,G,f,q,a,ex,d,v⟩=>?_);subst ex;obtain rfl:u=Value.ref a:=q;obtain⟨t1,i,_⟩:=C9 f d;refine⟨t1,i,?_⟩;rw[m.trees];refine Calls.callWith_builtin rfl (Calls.evalArgs_plain (Calls.spliced_cons (thn (z b j σ G _ f v) λN s2 ⟨y,E,C,l,L,g,r⟩=>Calls.spliced_nil ?_)));exact QN w C g l λJ K B c=>⟨_,E,B,c,r⟩
theorem zO (E:X.A.units+1<cLine)(ho:PE X o td)(J:PE X e ty)(G:PE X f tx)(m:M2 X o "get" apos e f cpos):PE X (.Call (.Attribute o "get" apos) [e,f] [] cpos) (O2 td ty tx):=by
 intro b s σ H Q I h;refine wpAny_Call_method m.base m.few m.line PySem.F.plainAttrs_dict PySem.F.slot_dict_get PySem.F.type_dict_get (thn (ho b s σ H _ I h) λu l ⟨x,R,i,v,a,ex,d,C⟩=>?_);subst ex;obtain rfl:u=Value.ref a:=v;obtain⟨t1,j,_⟩:=C9 i d;refine⟨t1,j,?_⟩;rw[m.trees]
 refine Calls.callWith_builtin rfl (Calls.evalArgs_plain (Calls.spliced_cons (thn (J b l σ R _ i C) λY s2 ⟨y,P,N,r,B⟩ =>
  Calls.spliced_cons (thn (G b s2 σ P _ N B) λZ U ⟨z,O,L,q,W,g,w⟩=>Calls.spliced_nil ?_))))
 exact QM E L g r q λS T K c=>⟨_,O,K,c,w⟩
end
section
variable {X:Cx}
theorem HA:d9 X (.builtin "len") (λxs H Q=>∃a b,xs=[V.ref a]/\H a=some (.dK b)/\Q (.int b.length) H):=by intro c s σ H xs us Q I r h;obtain⟨a,b,rfl,e,q⟩:=h;obtain⟨u,rfl,d⟩:=vals1 r;cases d;exact RN I (.inl e) λt g f=>⟨.int b.length,H,f,⟨t,rfl⟩,q⟩
end
noncomputable def closL (cells:List (Str×Addr)):List (Str×NameKind)->List (Str×Addr)->List (Str×Addr)
 | [],a=>a
 | (n,k)::r,a=>closL cells r (if k = .free then(n,(cells.lookup n).getD 0)::a else a)
theorem uQ {scope:Scope}{env:Env}(h:∀x∈scope.names,x.2 = .free->∃c,env.cells.lookup x.1=some c):closureFor scope env=pure (closL env.cells scope.names []):=by
 have go:∀(l:List (Str×NameKind)) (b:List (Str×Addr)),(∀x∈l,x.2 = .free->∃c,env.cells.lookup x.1=some c) ->
   (forIn l b λ(x:Str×NameKind) (r:List (Str×Addr))=>match x with|(name,kind)=>if (kind == NameKind.free)=true then do let a ←cellOf env name;pure (ForInStep.yield ((name,a)::r))else pure (ForInStep.yield r):Sem (List (Str×Addr)))=pure (closL env.cells l b):=by
  intro l
  induction l with
  | nil=>intro b _;rfl
  | cons x r e =>
   intro b f;obtain⟨n,k⟩:=x;have g:=λy i=>f y (ay _ i);rw[List.forIn_cons];by_cases d:k = .free
   ·subst d;obtain⟨c,j⟩:=f (n,.free) av rfl;have hc':List.lookup n env.cells=some c:=j;have q:cellOf env n=pure c:=by unfold cellOf;rw[hc']
    simp only[beq_self_eq_true,if_true,q,pure_bind];rw[e _ g];show _=pure (closL env.cells r (if NameKind.free = .free then(n,(env.cells.lookup n).getD 0)::b else b));rw[ai rfl,hc'];rfl
   ·have o:(k == NameKind.free)=false:=by simpa using d
    simp only[o,Bool.false_eq_true,if_false,pure_bind];rw[e _ g];show _=pure (closL env.cells r (if k = .free then(n,(env.cells.lookup n).getD 0)::b else b));rw[ab d]
 exact(congrArg (λ(m:Sem (List (Str×Addr)))=>m >>= λs=>pure s) (go scope.names [] h)).trans rfl
theorem vZ {cells:List (Str×Addr)}{x:Str}{c:Addr}:∀(l:List (Str×NameKind)) (b:List (Str×Addr)),(closL cells l b).lookup x=some c->b.lookup x=some c∨(x,NameKind.free)∈l/\c=(cells.lookup x).getD 0
 | [],_,h=>.inl h
 | (n,k)::r,b,h=>by
  unfold closL at h;rcases vZ r _ h with q|⟨q,e⟩
  ·by_cases a:k = .free
   ·rw[ai a]at q;rw[bz]at q;by_cases d:x=n
    ·subst d;rw[beq_self_eq_true]at q;subst a;exact .inr ⟨av,(Option.some.inj q).symm⟩
    ·have f:(x == n)=false:=by simpa using d
     rw[f]at q;exact .inl q
   ·rw[ab a]at q;exact .inl q
  ·exact .inr ⟨ay _ q,e⟩
theorem v8 {cells:List (Str×Addr)}{x:Str}:∀(l:List (Str×NameKind)) (a:List (Str×Addr)),((x,NameKind.free)∈l∨(a.lookup x).isSome)->((closL cells l a).lookup x).isSome
 | [],a,h=>by
  rcases h with h|h
  ·cases h
  ·exact h
 | (n,k)::r,a,h=>by
  unfold closL;refine v8 r _ ?_;by_cases c:k = .free
  ·rw[ai c,bz];by_cases b:x=n
   ·subst b;rw[beq_self_eq_true];exact .inr rfl
   ·have d:(x == n)=false:=by simpa using b
    rw[d];rcases h with h|h
    ·rcases cp.mp h with e|e
     ·cases e;exact absurd rfl b
     ·exact .inl e
    ·exact .inr h
  ·rw[ab c];rcases h with h|h
   ·rcases cp.mp h with e|e
    ·cases e;exact absurd rfl c
    ·exact .inl e
   ·exact .inr h
theorem lN {α β:Type}[BEq α][LawfulBEq α]{x:α}{v:β}:∀{l:List (α×β)},l.lookup x=some v->(x,v)∈l
 | [],h=>by simp at h
 | (n,k)::r,h=>by
  rw[bz]at h;by_cases e:x=n
  ·subst e;rw[beq_self_eq_true]at h;cases h;exact av
  ·have a:(x == n)=false:=by simpa using e
   rw[a]at h;exact ay _ (lN h)
theorem kK {env:Env}{x:Str}:∀{names:List (Str×NameKind)} {a:NameKind},(∀y∈names,y.2≠.cell) ->
  (names.map λ(n,k)=>if (k == NameKind.free && env.scope.kind == .function && env.kindOf n == some .cell)then(n,NameKind.cell)else(n,k)).lookup x=some a->(a = .cell∨a = .free)->names.lookup x=some .free
 | [],_,_,h,_=>by simp at h
 | (n,k)::r,a,g,h,b=>by
  have d:=@kK env x r a (λy i=>g y (ay _ i));have j:=g (n,k) av;have h:List.lookup x ((if (k == NameKind.free && env.scope.kind == .function && env.kindOf n == some .cell)=true then(n,NameKind.cell)else(n,k))::_)=some a:=h;by_cases f:x=n
  ·subst f;rw[bz,beq_self_eq_true];by_cases q:(k == NameKind.free && env.scope.kind == .function && env.kindOf x == some .cell)=true
   ·simp only[Bool.and_eq_true,beq_iff_eq]at q;show some k=some .free;rw[q.1.1]
   ·rw[ab q,bz,beq_self_eq_true]at h;have h:some k=some a:=h;cases h;rcases b with e|e
    ·exact absurd e j
    ·show some k=some .free;rw[e]
  ·have c:(x == n)=false:=by simpa using f
   rw[bz,c];by_cases q:(k == NameKind.free && env.scope.kind == .function && env.kindOf n == some .cell)=true
   ·rw[ai q,bz,c]at h;exact d h b
   ·rw[ab q,bz,c]at h;exact d h b
theorem kZ {env:Env}{x:Str}:∀{names:List (Str×NameKind)},names.lookup x=some .free ->
  (names.map λ(n,k)=>if (k == NameKind.free && env.scope.kind == .function && env.kindOf n == some .cell)then(n,NameKind.cell)else(n,k)).lookup x=some .cell ∨
  (names.map λ(n,k)=>if (k == NameKind.free && env.scope.kind == .function && env.kindOf n == some .cell)then(n,NameKind.cell)else(n,k)).lookup x=some .free
 | [],h=>by simp at h
 | (n,k)::r,h=>by
  have b:=@kZ env x r;show List.lookup x ((if (k == NameKind.free && env.scope.kind == .function && env.kindOf n == some .cell)=true then(n,NameKind.cell)else(n,k))::_)=_∨List.lookup x ((if (k == NameKind.free && env.scope.kind == .function && env.kindOf n == some .cell)=true then(n,NameKind.cell)else(n,k))::_)=_;by_cases c:x=n
  ·subst c;rw[bz,beq_self_eq_true]at h;have h:some k=some .free:=h;cases h;by_cases q:(NameKind.free == NameKind.free && env.scope.kind == .function && env.kindOf x == some .cell)=true
   ·rw[ai q,bz,beq_self_eq_true];exact .inl rfl
   ·rw[ab q,bz,beq_self_eq_true];exact .inr rfl
  ·have a:(x == n)=false:=by simpa using c
   rw[bz,a]at h;by_cases q:(k == NameKind.free && env.scope.kind == .function && env.kindOf n == some .cell)=true
   ·rw[ai q,bz,a];exact b h
   ·rw[ab q,bz,a];exact b h
noncomputable def srcOk (N:aV)(names:List (Str×NameKind)):List (Option Nat)->aV->Bool
 | [],[]=>true
 | none::r,_::n=>srcOk N names r n
 | some i::r,x::n=>N[i]? == some x && names.lookup x == some .free && srcOk N names r n
 | _,_=>false
theorem pH {N:aV}{names:List (Str×NameKind)}:∀{src:List (Option Nat)} {n:aV},srcOk N names src n=true->src.length=n.length
 | [],[],_=>rfl
 | none::r,_::n,h=>by simp[pH (src:=r) (n:=n) h]
 | some i::r,x::n,h=>by
  simp only[srcOk,Bool.and_eq_true]at h;simp[pH (src:=r) (n:=n) h.2]
 | [],_::_,h=>by simp[srcOk]at h
 | none::_,[],h=>by simp[srcOk]at h
 | some _::_,[],h=>by simp[srcOk]at h
theorem pI {N:aV}{names:List (Str×NameKind)}:∀{src:List (Option Nat)} {n:aV} {j i:Nat} {x:Str},srcOk N names src n=true->src[j]?=some (some i)->n[j]?=some x->N[i]?=some x/\names.lookup x=some .free
 | [],_,_,_,_,_,h,_=>by simp at h
 | _::_,[],_,_,_,_,_,h=>by simp at h
 | none::r,_::n,0,_,_,_,h,_=>by simp at h
 | none::r,_::n,j+1,_,_,h,b,a=>pI (src:=r) (n:=n) (j:=j) h (by simpa using b) (by simpa using a)
 | some k::r,y::n,0,i,x,h,b,a=>by
  simp at b a;subst b a;simp only[srcOk,Bool.and_eq_true,beq_iff_eq]at h;exact h.1
 | some _::r,_::n,j+1,_,_,h,b,a=>by simp only[srcOk,Bool.and_eq_true]at h;exact pI (src:=r) (n:=n) (j:=j) h.2 (by simpa using b) (by simpa using a)
structure bW (X:Cx)(scope:Scope)(N':aV)(src:List (Option Nat)):Prop where
 kind:scope.kind = .function
 cell:∀y∈scope.names,y.2≠.cell
 names:∀y∈scope.names,y.2 = .local->scope.names.lookup y.1=some .local
 free:∀y∈scope.names,y.2 = .free->(X.env.scope.names.lookup y.1=some .cell∨X.env.scope.names.lookup y.1=some .free)
 nd:N'.Nodup
 map:srcOk X.N scope.names src N'=true
noncomputable def stC (src:List (Option Nat))(σ:St):St:=src.map λo=>o.bind λi=>(σ[i]?).join
noncomputable def blk (X:Cx)(scope:Scope)(N':aV)(C:Addr)(a:Shared)(H₂:Hp)(b:List Addr):Cx :=
 {X with N:=N',s₀:=a,H₀:=H₂,env:=compEnvC scope (closL X.env.cells scope.names []) C X.env,outer:=X.stack,stack:=X.stack,ex:=b,fn:=λ_=>false,pn:=[],xe:=λ_ _=>False}
section
variable {X:Cx}{pins:c9}{σ:St}{H:Hp}{s:Shared}{scope:Scope}{N':aV}{src:List (Option Nat)}
theorem bW.cells (S:bW X scope N' src)(I:aQ X pins σ H s):∀x∈scope.names,x.2 = .free->∃c,X.env.cells.lookup x.1=some c:=λx a b=>I.ok.has x.1 (S.free x a b)
theorem bW.cl (S:bW X scope N' src)(I:aQ X pins σ H s){x:Str}{c:Addr}(h:(closL X.env.cells scope.names []).lookup x=some c):X.env.cells.lookup x=some c:=by
 rcases vZ _ _ h with q|⟨q,e⟩
 ·simp at q
 ·obtain⟨d,hd⟩:=S.cells I (x,.free) q rfl;have hd:X.env.cells.lookup x=some d:=hd;rw[hd]at e;rw[hd,e];rfl
theorem bW.clHas (S:bW X scope N' src)(I:aQ X pins σ H s){x:Str}(h:scope.names.lookup x=some .free):∃c,(closL X.env.cells scope.names []).lookup x=some c/\X.env.cells.lookup x=some c:=by have q:=v8 (cells:=X.env.cells) (x:=x) scope.names [] (.inl (lN h));obtain⟨c,a⟩:=Option.isSome_iff_exists.mp q;exact⟨c,a,S.cl I a⟩
theorem bW.ok (S:bW X scope N' src)(I:aQ X pins σ H s){g:List Addr}{C:Addr}(d:∀b∈g,fH X pins H b)(f:∀b∈g,b<s.heap.objs.size)(i:s.heap.objs.size<=C):(blk X scope N' C s H g).Ok where
 mod:=I.mod
 kind:=S.kind
 glob:=I.ok.glob
 blt:=I.ok.blt
 above:=i
 inj:=λx y c r m=>I.ok.inj x y c (S.cl I r) (S.cl I m)
 has:=λx j=>by
  have q:scope.names.lookup x=some .free:=by
   rcases j with h|h
   ·exact kK S.cell h (.inl rfl)
   ·exact kK S.cell h (.inr rfl)
  obtain⟨c,l,_⟩:=S.clHas I q;exact⟨c,l⟩
 cab:=λx c h _=>by cases h
 hd:=I.ok.hd
 frames:=I.ok.frames
 stk:=.inl rfl
 exf:=λb a=>⟨bj (bc (f b a) i),λx c e=>(d b a).2.2.2.2.1 x c (S.cl I e)⟩
 bs:=I.bs
 bsz:=al I.ok.bsz I.sz
 noex:=λb o e a=>by
  rcases(d b a).2.2.2.1 with z|z
  ·exact I.ok.noex b o e z
  ·exact absurd (bc (az e) (al I.ok.bsz z)) (bI _)
 exfs:=λb a z=>by
  rcases cp.mp (I.stkSub b z)with e|e
  ·exact(d b a).2.1 e
  ·exact(d b a).2.2.1 e
 funs:=I.stack
 frf:=I.stkFree
theorem bW.start (S:bW X scope N' src)(I:aQ X pins σ H s){K:List Addr}{C:Addr}{h':Heap}{tk:Nat}{m:iH}{pl:c9}(R:∀b∈K,fH X pins H b)(F:∀b∈K,b<s.heap.objs.size)(N:s.heap.objs.size<=C)
  (old:∀b o,s.heap.get? b=some o->h'.get? b=some o) (E:h'.Ns C m)
  (B:∀p∈pl,h'.get? p.1=some p.2/\s.heap.objs.size<=p.1/\p.1≠C/\∀v,p.2.data≠.cell v) :
  aQ (blk X scope N' C s H K) pl (stC src σ) H {s with heap:=h',toks:=tk} where
 ok:=S.ok I R F N
 os:=rfl
 bare:=I.bare
 base:=Un.kept old
 loc:=by
  obtain⟨Y,Q,G⟩:=I.loc;refine⟨m,E,λj x v U f Z=>?_⟩;have f:(src.map λo=>o.bind λi=>(σ[i]?).join)[j]?=some (some v):=f;rw[bw]at f;cases e:src[j]? with
  | none=>rw[e]at f;cases f
  | some o =>
   rw[e]at f;cases o with
   | none=>cases f
   | some i =>
    have f:some ((σ[i]?).join)=some (some v):=f;obtain⟨W,L⟩:=pI S.map e U;have O:σ[i]?=some (some v):=by
     cases q:σ[i]? with
     | none=>rw[q]at f;cases f
     | some w=>rw[q]at f;cases w with
      | none=>cases f
      | some w=>cases f;rfl
    have g:=S.free (x,.free) (lN L) rfl;obtain⟨u,r,l⟩:=G i x v W O (.inr g);refine⟨u,r,.inr ⟨kZ L,?_⟩⟩;obtain⟨c,T,J⟩:=S.clHas I L;refine⟨c,T,?_⟩;rcases l with⟨k,_⟩|⟨_,c',A,h⟩
    ·have k:X.env.scope.names.lookup x=some .local:=k;have g:X.env.scope.names.lookup x=some .cell∨X.env.scope.names.lookup x=some .free:=g;rw[k]at g;rcases g with z|z <;> cases z
    ·rw[J]at A;cases A;obtain⟨o,ho,hd⟩:=h;exact⟨o,old _ _ ho,hd⟩
 cell:=λx c e=>by obtain⟨v,o,ho,hd⟩:=I.cell x c (S.cl I e);exact⟨v,o,old _ _ ho,hd⟩
 free:=I.hok.fresh N
 freeC:=λx c e=>I.freeC x c (S.cl I e)
 pin:=λp P=>by
  obtain⟨a,b,c,d⟩:=B p (by simpa [blk] using P);refine⟨a,I.hok.fresh b,c,λz=>?_,d⟩;rcases cp.mp (I.stkSub _ z)with e|e
  ·exact absurd (bc I.lt (by rw[←e];exact b)) (bI _)
  ·exact I.nofs b e
 hok:=I.hok.kept old
 len:=by show(src.map _).length=N'.length;rw[ae];exact pH S.map
end
noncomputable def wS (a:jW)(env:Env):Sem Bool:=forIn a true λc (b:Bool)=>if b=true then isTrue c env (eval c env) >>= λb=>pure (.yield b)else pure (.yield b)
section
variable (M:Model)(A:Around)(env:Env)(E:cL)
def Drawn (it:Value)(a:Expr)(stop go:Shared->Prop)(s:Shared):Prop :=
 wpAny M A (pyNext it) (λr t=>r.elim (stop t) λv=>wpAny M A (letOwnedTupleGo a it v) (λ_ t=>wpAny M A (assign a env v) (λ_=>go) E t) E t) E s
def DQ (b:jW)(lay:Sem Unit)(a:Shared->Prop)(s:Shared):Prop :=
 wpAny M A (wS b env) (λok t=>if ok=true then wpAny M A lay (λ_=>a) E t else a t) E s
end
noncomputable def rY (p:Pos)(it:Value)(a:Expr)(env:Env)(k:Sem PySem.Fin):Sem PySem.Fin:=standAt p >>= λ_=>pyNext it >>= λr=>match r with
 | none=>pure (.done .next)
 | some v=>letOwnedTupleGo a it v >>= λ_=>assign a env v >>= λ_=>k
noncomputable def layOn (a:jW)(lay:Sem Unit)(env:Env)(c:Code):Sem PySem.Fin:=wS a env >>= λok=>if ok=true then lay >>= λ_=>again c else again c
noncomputable def xZ (a:Expr)(b:Value)(env:Env):Sem Unit:=eval a env >>= λx=>call (.builtin "list.append") [b,x] >>= λ_=>pure ()
section
variable {M:Model}{A:Around}{env:Env}{E:cL}{it:Value}{tg:Expr}{s:Shared}
theorem Drawn.mono {stop go a b:Shared->Prop}(h:Drawn M A env E it tg stop go s)(d:∀t,stop t->a t)(c:∀t,go t->b t):Drawn M A env E it tg a b s :=
 thn h λr t q=>by
  cases r
  ·exact d t q
  ·exact thn q λ_ _ q=>thn q λ_ t q=>c t q
theorem Drawn.run {p:Pos}{k:Sem PySem.Fin}{Q:PySem.Fin->Shared->Prop}(h:Drawn M A env E it tg (Q (.done .next)) (λt=>wpAny M A k Q E t) s):wpAny M A (rY p it tg env k) Q E s:=by
 unfold rY;refine aa (wpAny_standAt (aa (thn h λr t q=>?_)));cases r
 ·exact ak q
 ·exact aa (thn q λ_ _ q=>aa q)
theorem DQ.run {a:jW}{lay:Sem Unit}{c:Code}{Q:PySem.Fin->Shared->Prop}(h:DQ M A env E a lay (Q (.again c)) s):wpAny M A (layOn a lay env c) Q E s:=by
 unfold layOn;refine aa (thn h λok t q=>?_);cases ok
 ·exact ak q
 ·exact aa (thn q λ_ _ q=>ak q)
end
theorem y6 (b e iter:Expr)(a:jW)(scope:Scope)(d:Pos)(it c:Value)(env:Env) :
  compTurn (.ListComp b [⟨e,iter,a,0⟩] scope d) 0 it c env=rY iter.pos it e env (layOn a (xZ b c env) env (.compLoop (.ListComp b [⟨e,iter,a,0⟩] scope d) 0 it c env)):=rfl
section
variable {prog:Program}{w:World}{A:Around}{R:Result->Shared->Prop}{s:Shared}{tg ce:Expr}{d:Nat}{it acc:Value}{env:Env}{p:Pos}{k:Sem PySem.Fin}
abbrev XN (prog:Program)(w:World)(A:Around)(env:Env)(R:Result->Shared->Prop):cL:=notedBy (model prog w) A env λx t=>R (.error x) t
inductive N8:Expr->Prop
 | lst (e gs sc p):N8 (.ListComp e gs sc p)
 | set (e gs sc p):N8 (.SetComp e gs sc p)
 | dct (k e gs sc p):N8 (.DictComp k e gs sc p)
theorem K5 (a:N8 ce){Q:PySem.Fin->Shared->Prop}{E:cL}(h:wpAny (model prog w) A (Sem.onRaise (compTurn ce d it acc env) λx=>noteFrame x env >>= λ_=>theTreesLotGoes x) Q E s):wpAny (model prog w) (A.under (.compLoop ce d it acc env)) ((model prog w).den (.compLoop ce d it acc env)) Q E s:=by cases a <;> exact h
theorem G5 (a:N8 ce){Q:PySem.Fin->Shared->Prop}{E:cL}(h:wpAny (model prog w) A (compStart ce d it acc env) Q (notedBy (model prog w) A env E) s):wpAny (model prog w) (A.under (.compStart ce d it acc env)) ((model prog w).den (.compStart ce d it acc env)) Q E s:=by cases a <;> exact wpAny_notedAt h
theorem C1 (a:N8 ce)(c:compTurn ce d it acc env=rY p it tg env k)(I:Nat->Shared->Prop)
  (turn:∀n s,I n s->Drawn (model prog w) A env (XN prog w A env R) it tg (R (.ok .next)) (λt=>wpAny (model prog w) A k (λf t=>f = .again (.compLoop ce d it acc env)/\∃m,m<n/\I m t) (XN prog w A env R) t) s)
  (n:Nat) (h:I n s):codeAny (model prog w) A (.compLoop ce d it acc env) R s:=by
 apply codeAny_loop rfl I _ n h;intro n s i;have q:=turn n s i;apply K5 a;rw[c];apply wpAny_noted;apply Drawn.run;exact q.mono (λ_ z=>z) λt z=>thn z λf t ⟨b,m⟩=>by subst b;exact⟨rfl,m⟩
end
def RB (X:Cx)(b:jW)(t:TT):Prop :=
 ∀(a:c9) (s:Shared) (σ:St) (H:Hp) (Q:Bool->Hp->Prop),aQ X a σ H s->t σ H Q->wpAny (model X.prog X.w) X.A (wS b X.env) (TP X a σ Q) X.xe s
def tYes:TT:=λ_ H Q=>Q true H
theorem dN {X:Cx}:RB X [] tYes:=λ_ _ _ H _ I h=>wpAny_tests_nil ⟨H,I,h⟩
theorem xF {X:Cx}{c:Expr}{t:TT}(h:PT X c t):RB X [c] t:=λa s σ H Q I q=>wpAny_tests_one (h a s σ H Q I q)
abbrev RD (β:Type):=Nat->Nat->β->St->Hp->Prop
abbrev CW:=RD (List V)
structure BA (Y:Cx)(tg:Expr)(J:It)(fp:List Addr)(it:Addr)(tn:LL):Prop where
 obj:∀i h,tn i h->∀b∈fp,∃o,h.get? b=some o/\∀v,o.data≠.cell v
 keep:∀i h h',tn i h->(∀b∈fp,∀o,h.get? b=some o->h'.get? b=some o)->tn i h'
 item:∀(i:Nat) (pins:c9) (s:Shared) (σ:St) (H:Hp) (E:cL),aQ Y pins σ H s->(∀b∈fp,fH Y pins H b)->tn i s.heap->J.go i H ->
  wpAny (model Y.prog Y.w) Y.A (pyNext (.ref it)) (λr s1=>∃u,r=some u /\
   wpAny (model Y.prog Y.w) Y.A (letOwnedTupleGo tg (.ref it) u) (λ_ s2=>∃x H',aQ Y pins σ H' s2/\aU x u/\J.yld i H x H'/\tn (i+1) s2.heap/\∀b∈fp,H' b=none) E s1) E s
 done:∀(i:Nat) (pins:c9) (s:Shared) (σ:St) (H:Hp) (E:cL),aQ Y pins σ H s->(∀b∈fp,fH Y pins H b)->tn i s.heap->J.stop i H ->
  wpAny (model Y.prog Y.w) Y.A (pyNext (.ref it)) (λr s1=>r=none/\aQ Y pins σ H s1) E s
 self:∀(A:Around) (i:Nat) (s:Shared) (Q:cL) (E:cL),tn i s.heap->Q (.ref it) s->wpAny (model Y.prog Y.w) A (pyIter (.ref it)) Q E s
theorem oY.y {Y:Cx}{b:Expr}{J:It}{d:List Addr}{it:Addr}{a:LL}(T:oY Y.prog Y.w Y.K b J d it a)(c:Y.calm=true):BA Y b J d it a :=
 ⟨T.obj,T.keep,T.item Y rfl rfl rfl c,T.done Y rfl rfl rfl c,T.self⟩
def QZ {β:Type}(F:Heap->Addr->β->Prop):Prop:=∀h a x,F h a x->∃o,h.get? a=some o/\(∀v,o.data≠.cell v)/\∀h':Heap,h'.get? a=some o->F h' a x
def N7 (h:Heap)(a:Addr)(b:List V):Prop:=b.length<=sizeLine/\∃items,h.PlainList a items/\aX b items.toList
theorem vK:QZ N7:=λ_ _ _ ⟨l,it,⟨n,e⟩,r⟩=>⟨_,e,(λ_ z=>nomatch z),λ_ a=>⟨l,it,⟨n,a⟩,r⟩⟩
section
variable {β:Type}{F:Heap->Addr->β->Prop}{Y:Cx}{pins:c9}{D it:Addr}{fp:List Addr}{tn:LL}{J:It}{W:RD β}{Fin:β->St->Hp->Prop}{R:Result->Shared->Prop}{tg:Expr}{g:TG}{Nx:Nat->Nat->β->St->Hp->Prop}
def HI (F:Heap->Addr->β->Prop)(Y:Cx)(a:c9)(D:Addr)(e:List Addr)(d:LL)(W:RD β)(n:Nat)(s:Shared):Prop :=
 ∃i σ H c,aQ Y a σ H s/\d i s.heap/\(∀b∈e,H b=none)/\H D=none/\F s.heap D c/\W i n c σ H
structure SW (F:Heap->Addr->β->Prop)(Y:Cx)(D:Addr)(fp:List Addr)(tn:LL)(i:Nat)(acc:β)(more:c9)(o:Obj):Prop where
 fill:∀h:Heap,h.get? D=some o->F h D acc
 own:∀p∈more,p.1∈fp
 back:∀{pl:c9} {σ:St} {H:Hp} {s:Shared},(∀p∈more,p∈pl)->aQ Y pl σ H s->tn i s.heap/\∀b∈fp,H b=none
structure qO (Y:Cx)(pins:c9)(D:Addr)(fp:List Addr):Prop where
 off:D∉fp
 list:∀H:Hp,H D=none->fH Y pins H D
 iter:∀H:Hp,(∀b∈fp,H b=none)->∀b∈fp,fH Y pins H b
theorem PJ {a:Addr×Obj}{pn b more:c9}:a∈pn++(b++a::more):=by simp
theorem qO.pin {σ:St}{H:Hp}{s:Shared}{o:Obj}(P:qO Y pins D fp)(I:aQ Y pins σ H s)(c:H D=none)(ho:s.heap.get? D=some o)(b:∀v,o.data≠.cell v):aQ Y (pins++[(D,o)]) σ H s:=by
 refine I.pins_of λp a=>?_;simp only[cr,cm]at a;rcases a with a|rfl
 ·exact I.pin p (bv _ a)
 ·have f:=P.list H c;exact⟨ho,f.1,f.2.1,f.2.2.1,b⟩
theorem qO.more {o:Obj}(P:qO Y pins D fp)(H:Hp)(d:∀b∈fp,H b=none)(b:Addr)(c:b∈fp):fH Y (pins++[(D,o)]) H b:=by
 have f:=P.iter H d b c;refine⟨f.1,f.2.1,f.2.2.1,f.2.2.2.1,f.2.2.2.2.1,λp a z=>?_⟩;rw[←ci,cr,cm]at a;rcases a with a|rfl
 ·exact f.2.2.2.2.2 p a z
 ·exact P.off (show D∈fp from(show D=b from z) ▸ c)
theorem CV {more:c9}{o:Obj}{σ:St}{H:Hp}{s:Shared}(I:aQ Y (pins++(D,o)::more) σ H s):H D=none/\s.heap.get? D=some o/\aQ Y pins σ H s:=by have q:=I.pin (D,o) PJ;exact⟨q.2.1,q.1,I.pins_of λp a=>I.pin p (by simp[a])⟩
theorem G4 (hF:QZ F)(hx:∀e s,¬Y.xe e s)(T:BA Y tg J fp it tn)(P:qO Y pins D fp)(hg:PG Y tg g)
  (turn:∀i m a σ H,W i m a σ H->(J.stop i H/\Fin a σ H)∨(J.go i H/\∀x H',J.yld i H x H'->g x σ H' (Nx i m a)))
  (hR:∀s σ H a,aQ Y pins σ H s->H D=none->F s.heap D a->Fin a σ H->R (.ok .next) s)
  (n:Nat) (s:Shared) (B:HI F Y pins D fp tn W n s) {E:cL} :
  Drawn (model Y.prog Y.w) Y.A Y.env E (.ref it) tg (R (.ok .next))
   (λt=>∃i a o more σ H,SW F Y D fp tn (i+1) a more o/\aQ Y (pins++(D,o)::more) σ H t/\Nx i n a σ H) s:=by
 obtain⟨i,σ,H,a,I,st,K,fD,O,w⟩:=B;obtain⟨o,ho,v,f⟩:=hF _ _ _ O;have Ip:=P.pin I fD ho v;rcases turn i n a σ H w with⟨stop,fin⟩|⟨go,step⟩
 ·refine thn (T.done i _ s σ H _ Ip (P.more H K) st stop) λr t ⟨l,It⟩=>?_;subst l;obtain⟨Z,X,U⟩:=CV It;exact hR t σ H a U Z (f _ X) fin
 ·refine thn (T.item i _ s σ H _ Ip (P.more H K) st go) λr t ⟨u,l,q⟩=>?_;subst l;refine thn q λ_ t1 ⟨x,G,I1,r1,N,c,C⟩=>?_;have I1p:=I1.pinned (P.more G C) (T.obj _ _ c);rw[ci]at I1p;refine wpAny_mono (hg _ t1 σ G x u _ I1p r1 (step x G N)) (λ_ t2 ⟨L,H2,I2,S⟩=>?_) λe t z=>(hx e t z).elim;refine⟨i,a,o,sK fp t1.heap,L,H2,⟨f,λp hp=>(vF hp).1,λ{pl σ3 H3 Q} j I3=>?_⟩,I2,S⟩;have h:∀b∈fp,∀o,t1.heap.get? b=some o->Q.heap.get? b=some o/\H3 b=none:=λb d o e=>by have z:=I3.pin (b,o) (bv _ (j _ (nF d e)));exact⟨z.1,z.2.1⟩
  refine⟨T.keep _ _ _ c λb d o e=>(h b d o e).1,λb d=>?_⟩;obtain⟨o,e,_⟩:=T.obj _ _ c b d;exact(h b d o e).2
def Q1 (F:Heap->Addr->β->Prop)(Y:Cx)(D:Addr)(lay:Sem Unit)(q:St->Hp->(β->Hp->Prop)->Prop)(d:β):Prop :=
 ∀(E:cL) (pl:c9) (o:Obj) (σ:St) (H:Hp) (t:Shared) (N:β->Hp->Prop),aQ Y pl σ H t->(D,o)∈pl->(∀h:Heap,h.get? D=some o->F h D d)->q σ H N ->
  wpAny (model Y.prog Y.w) Y.A lay (λ_ t3=>∃b c tk e a,t3={b with heap:=c,toks:=tk}/\aQ Y pl σ e b/\Heap.SameBut D b.heap c/\F c D a/\N a e) E t
theorem KD {g:jW}{lay:Sem Unit}{K:TT}{tl:St->Hp->(β->Hp->Prop)->Prop}{i n:Nat}{c:β}{more:c9}{o:Obj}{σ:St}{H:Hp}{t:Shared}{E:cL}(X:∀e s,¬Y.xe e s)(P:qO Y pins D fp)(T:BA Y tg J fp it tn)(Z:RB Y g K)(hl:Q1 F Y D lay tl c)
  (B:SW F Y D fp tn (i+1) c more o) (I:aQ Y (pins++(D,o)::more) σ H t)
  (q:K σ H λb O=>if b=true then tl σ O λa H4=>∃d,d<n/\W (i+1) d a σ H4 else ∃d,d<n/\W (i+1) d c σ O) :
  DQ (model Y.prog Y.w) Y.A Y.env E g lay (λt=>∃m,m<n/\HI F Y pins D fp tn W m t) t:=by
 refine wpAny_mono (Z _ t σ H _ I q) (λok t1 ⟨R,G,j⟩=>?_) λe t z=>(X e t z).elim;cases ok
 ·rw[ab Bool.false_ne_true]at j⊢;obtain⟨m,v,w⟩:=j;obtain⟨C,b2⟩:=B.back (λp u=>by simp[u]) G;obtain⟨l,L,r⟩:=CV G;exact⟨m,v,i+1,σ,R,c,r,C,b2,l,B.fill _ L,w⟩
 ·rw[ai rfl]at j⊢;refine thn (hl _ _ o σ R t1 _ G (by simp) B.fill j) λ_ t3 ⟨S,h3,tk,Q,h,e3,N,U,f3,m,v,w⟩=>?_;subst e3;obtain⟨C,b2⟩:=B.back (λp u=>by simp[u]) N;obtain⟨l,L,r⟩:=CV N;have f:=P.list Q l;have far:∀b o,b≠D->S.heap.get? b=some o->h3.get? b=some o:=λb o x e=>U.extBut b o x e;exact⟨m,v,i+1,σ,Q,h,r.turned (t':=tk) far f.1 f.2.1 f.2.2.2.1 f.2.2.2.2.1 f.2.2.2.2.2,T.keep _ _ _ C λb x o e=>far b o (λz=>P.off (z ▸ x)) e,b2,l,f3,w⟩
theorem DQ.go {a:jW}{lay:Sem Unit}{c:Code}{n:Nat}{t:Shared}{E:cL}(h:DQ (model Y.prog Y.w) Y.A Y.env E a lay (λt=>∃m,m<n/\HI F Y pins D fp tn W m t) t) :
  wpAny (model Y.prog Y.w) Y.A (layOn a lay Y.env c) (λf t=>f = .again c/\∃m,m<n/\HI F Y pins D fp tn W m t) E t :=
 DQ.run (thn h λok t q=>by
  cases ok
  ·exact⟨rfl,q⟩
  ·exact thn q λ_ _ q=>⟨rfl,q⟩)
end
def tlLst (b:TE)(a:List V):St->Hp->(List V->Hp->Prop)->Prop:=λσ H N=>b σ H λy c=>a.length<sizeLine/\N (a++[y]) c
theorem AH {Y:Cx}{D:Addr}{c:Expr}{d:TE}{b:List V}(u:∀e s,¬Y.xe e s)(B:PE Y c d):Q1 N7 Y D (xZ c (.ref D) Y.env) (tlLst d b) b:=by
 intro E pl o σ H t N I v A q;refine aa (wpAny_mono (B _ t σ H _ I q) (λy f ⟨i,F,h,l,x,w⟩=>?_) λe t z=>(u e t z).elim);obtain⟨hz,items,r,g⟩:=A _ (h.pin (D,o) (bv _ v)).1;have a:items.size<=sizeLine:=by rw[←bn,←g.length];exact hz
 refine aa (wpAny_list_append_plain (hsz:=a) r λC m j=>ak ⟨f,C,f.toks,F,b++[i],rfl,h,j,⟨?_,items.push y,m,?_⟩,w⟩)
 ·rw[aq];exact x
 ·rw[Array.toList_push];exact g.append (.cons l .nil)
def OQ (J:It)(g:TG)(f:TT)(h:TE)(Fin:List V->Hp->Prop)(W:CW):Prop:=∀i m a σ H,W i m a σ H ->
 (J.stop i H/\Fin a H) ∨
 (J.go i H/\∀x H',J.yld i H x H'->g x σ H' λd l=>f d l λb e =>
  if b=true then h d e λy j=>a.length<sizeLine/\∃c,c<m/\W (i+1) c (a++[y]) d j else ∃c,c<m/\W (i+1) c a d e)
def tComp (src:List (Option Nat))(b:TI)(g:TG)(c:TT)(d:TE):TE:=λσ H Q=>b σ H λJ e=>∃W:CW,(∃m,W 0 m [] (stC src σ) e)/\OQ J g c d (λa H=>∀p,H p=none->Q (.ref p) (upd H p (.lst a))) W
section
variable {prog:Program}{w:World}{A:Around}{ce:Expr}{c:Comprehension}{rest:List Comprehension}
theorem A2 (i:N8 ce)(e:clausesOf ce=c::rest)(j:c.is_async=0){it a:Value}{env:Env}{R:Result->Shared->Prop}{s:Shared}(l:codeAny (model prog w) A (.compLoop ce 0 it a env) R s)
  (h:wpAny (model prog w) A (pyIter it) (λd f=>codeAny (model prog w) A (.compLoop ce 0 d a env) R f) (XN prog w A env R) s) :
  codeAny (model prog w) A (.compStart ce 0 it a env) R s:=by
 apply codeAny_of_tree;apply G5 i;obtain⟨m,iter,g,_⟩:=c;cases j;unfold compStart;rw[e];change wpAny _ _ (ask >>= _) _ _ s;apply aa;apply wpAny_askSetting;by_cases b:(⟨(model prog w).prog,(model prog w).w.params⟩:Setting).params.followText "comprehension-iter-twice" = true
 ·rw[ai b];exact ak ⟨rfl,l⟩
 ·rw[ab b];refine aa (wpAny_rule ?_);change wpAny _ _ (standAt iter.pos >>= _) _ _ s;exact aa (wpAny_standAt (aa (thn h λd f z=>ak ⟨rfl,z⟩)))
def LM {β:Type}(F:Heap->Addr->β->Prop)(a:β)(prog:Program)(w:World)(A:Around)(mk:Sem Value):Prop :=
 ∀(Q:cL) (E:cL) (s:Shared),(∀o:Obj,o.isFreed=false->(∀h:Heap,h.get? s.heap.objs.size=some o->F h s.heap.objs.size a)->Q (.ref s.heap.objs.size) {s with heap:=s.heap.push o})->wpAny (model prog w) A mk Q E s
theorem vI:LM N7 [] prog w A (newList []):=λ_ _ _ q=>ca (q _ rfl λ_ e=>⟨au _,#[],⟨_,e⟩,.nil⟩)
end
section
variable {β:Type}{F:Heap->Addr->β->Prop}{e0:β}{mk:Sem Value}{ce:Expr}{cls:List Comprehension}{ob:HO}
variable {X:Cx}{scope:Scope}{N':aV}{src:List (Option Nat)}{pins:c9}{σ:St}{H₂:Hp}{s₂:Shared}{fp:List Addr}{it:Addr}{tn:LL}{J:It}{tg iter:Expr}{ifs:jW}
theorem NW {pl:c9}{j:St}{H':Hp}{g:Shared}{C D:Addr}(v:aQ X pins σ H₂ s₂)(m:∀b∈fp,fH X pins H₂ b)
  (f:aQ (blk X scope N' C s₂ H₂ fp) pl j H' g) (r:s₂.heap.objs.size<=D) (i:H' D=none) (ok:cB X.prog X.w (upd H' D ob) g.heap D ob):aQ X pins σ (upd H' D ob) g:=by
 have u:=f.base;have h:∀b o,s₂.heap.get? b=some o->b≠D:=λb o e=>bj (bc (az e) r);have a:∀b o,H' b=some o->b≠D:=λb o e z=>by rw[z,i]at e;cases e
 refine v.call' (ch:=fp) f.os ⟨u.keep,u.slot,λb o e n l=>?_,u.there,λb xs e=>?_,λb o xs e=>?_,λb ps e=>?_⟩ (λb o e=>?_) f.bare λb d=>?_
 ·rw[aE (h b o e)];exact u.free b o e n l
 ·have q:=u.tups b xs e;rw[aE (a b _ q)];exact q
 ·have q:=u.frzs b o xs e;rw[aE (a b _ q)];exact q
 ·obtain⟨more,q⟩:=u.tbls b ps e;exact⟨more,by rw[aE (a b _ q)];exact q⟩
 ·by_cases d:b=D
  ·subst d;rw[upd_same]at e;cases e;exact ok
  ·rw[aE d]at e;exact(f.hok b o e).stay (λ_ _ _ q=>q) (λc q=>by rw[aE (a c _ q)];exact q) λc xs q=>by rw[aE (a c _ q)];exact q
 ·obtain⟨f0,f1,f2,f3,f4,s⟩:=m b d;exact⟨f3,f1,f4,s⟩
theorem EI {P:Program}{w:World}{H:Hp}{h:Heap}{a:Addr}{b:List V}:N7 h a b->cB P w H h a (.lst b):=λ⟨hz,items,⟨n,ho⟩,r⟩=>⟨hz,items.toList,n,r,by simpa using ho⟩
structure FK (F:Heap->Addr->β->Prop)(e0:β)(X:Cx)(scope:Scope)(N':aV)(src:List (Option Nat))(s₂:Shared)(H₂:Hp)(σ:St)(fp:List Addr)(tn:LL)(D C:Addr)(t:Shared):Prop where
 at_:s₂.heap.objs.size=D
 le:s₂.heap.objs.size<=C
 ne:D≠C
 place:qO (blk X scope N' C s₂ H₂ fp) [] D fp
 betw:∀W:RD β,(∃m,W 0 m e0 (stC src σ) H₂)->∃m,HI F (blk X scope N' C s₂ H₂ fp) [] D fp tn W m t
theorem HU {h h':Heap}{o a:Obj}(ho:o.isFreed=false)(c:Heap.SameBut (h.push o).objs.size ((h.push o).push a) h'):(∀b x,h.get? b=some x->h'.get? b=some x)/\h'.get? h.objs.size=some o:=by have key:∀b x,(h.push o).get? b=some x->h'.get? b=some x:=λb x e=>c.extBut b x (bj (az e)) (af a e);exact⟨λb x e=>key b x (af o e),key _ _ (ar h ho)⟩
theorem A6 {RR:Value->Addr->Result->Shared->Prop}{E:cL}(q:LM F e0 X.prog X.w X.A mk)(L:N8 ce)(s:clausesOf ce=⟨tg,iter,ifs,0⟩::cls)(S:bW X scope N' src)(g:aQ X pins σ H₂ s₂)(T:∀C,BA (blk X scope N' C s₂ H₂ fp) tg J fp it tn)(h:tn 0 s₂.heap)(r:∀b∈fp,fH X pins H₂ b)
  (k:∀D C t,FK F e0 X scope N' src s₂ H₂ σ fp tn D C t->codeAny (model X.prog X.w) X.A (.compLoop ce 0 (.ref it) (.ref D) (blk X scope N' C s₂ H₂ fp).env) (RR (.ref D) C) t) :
  wpAny (model X.prog X.w) X.A mk (λj G=>wpAny (model X.prog X.w) X.A (newFunctionEnv scope X.env.globals (closL X.env.cells scope.names []) [] X.env.qual none .none (some X.env)) (λd B =>
   codeAny (model X.prog X.w) X.A (.compStart ce 0 (.ref it) j {d with scope:=relabel scope X.env}) (RR j d.locals) B) E G) E s₂:=by
 refine q _ _ _ λo of K=>?_;refine wpAny_newFunctionEnv S.cell (λ_ z=>nomatch z) (λu ns I=>?_) S.kind;obtain⟨old,new⟩:=HU of I;have sz:(s₂.heap.push o).objs.size=s₂.heap.objs.size+1:=Heap.size_push ..;dsimp only at ns old new⊢;rw[sz]at ns⊢;have lt:∀b∈fp,b<s₂.heap.objs.size:=λb a=>let⟨_,e,_⟩:=(T 0).obj 0 _ h b a;az e;have i:tn 0 u:=(T 0).keep _ _ _ h λb _ o e=>old b o e;have off:s₂.heap.objs.size∉fp:=λz=>bI _ (lt _ z);have v:=S.start (tk:=s₂.toks+([]:List (Str×Value)).length) (pl:=[]) g r lt (Nat.le_succ _) old ns (λ_ z=>nomatch z);have pl:qO (blk X scope N' (s₂.heap.objs.size+1) s₂ H₂ fp) [] s₂.heap.objs.size fp:=by
  refine⟨off,λH l=>?_,λH l b a=>?_⟩
  ·have f:=g.fpOk (ac _) l;refine⟨l,bj (Nat.lt_succ_self _),λz=>?_,.inr (ac _),λx c e=>f.2.2.2.2.1 x c (S.cl g e),λ_ z=>nomatch z⟩;exact(cp.mp (g.stkSub _ z)).elim f.2.1 f.2.2.1
  ·exact⟨l b a,bj (Nat.lt_succ_of_lt (lt b a)),v.ok.exfs b a,.inl a,λx c e=>(r b a).2.2.2.2.1 x c (S.cl g e),λ_ z=>nomatch z⟩
 have N:FK F e0 X scope N' src s₂ H₂ σ fp tn s₂.heap.objs.size (s₂.heap.objs.size+1) {s₂ with heap:=u,toks:=s₂.toks+([]:List (Str×Value)).length} :=
  ⟨rfl,Nat.le_succ _,bj (Nat.lt_succ_self _),pl,λW ⟨m,w⟩=>⟨m,0,_,H₂,e0,v,i,λb a=>(r b a).1,g.hok.fresh (ac _),K _ new,w⟩⟩
 have go:=k _ _ _ N;exact A2 L s rfl go ((T 0).self _ 0 _ _ _ i go)
theorem FK.out {D C:Addr}{t s:Shared}{H':Hp}{a:St}(B:FK F e0 X scope N' src s₂ H₂ σ fp tn D C t)(e:aQ X pins σ H₂ s₂)(c:∀b∈fp,fH X pins H₂ b)(I:aQ (blk X scope N' C s₂ H₂ fp) [] a H' s)(d:H' D=none)(ok:cB X.prog X.w (upd H' D ob) s.heap D ob) :
  H' C=none/\(∃m,s.heap.Ns C m)/\aQ X pins σ (upd H' D ob) s :=
 ⟨I.free,⟨_,I.loc.choose_spec.1⟩,NW e c I (Nat.le_of_eq B.at_) d ok⟩
variable {elt:Expr}{pos:Pos}{g:TG}{tt:TT}{te:TE}{tl:β->St->Hp->(β->Hp->Prop)->Prop}
def Q8 (J:It)(g:TG)(h:TT)(tl:β->St->Hp->(β->Hp->Prop)->Prop)(Fin:β->Hp->Prop)(W:RD β):Prop:=∀i m c σ H,W i m c σ H ->
 (J.stop i H/\Fin c H) ∨
 (J.go i H/\∀x H',J.yld i H x H'->g x σ H' λe l=>h e l λb f =>
  if b=true then tl c e f λa j=>∃d,d<m/\W (i+1) d a e j else ∃d,d<m/\W (i+1) d c e f)
theorem tJ {W:RD β}{Fin:β->Hp->Prop}{RR:Value->Addr->Result->Shared->Prop}{E:cL}{lay:Value->Env->Sem Unit}{obj:Addr->β->HO}{ps:Pos}(hF:QZ F)(j:LM F e0 X.prog X.w X.A mk)(r:N8 ce)(l:clausesOf ce=⟨tg,iter,ifs,0⟩::cls)(hb:∀it a env,compTurn ce 0 it a env=rY ps it tg env (layOn ifs (lay a env) env (.compLoop ce 0 it a env)))(hok:∀H h D a,F h D a->cB X.prog X.w H h D (obj D a))
  (S:bW X scope N' src) (x:aQ X pins σ H₂ s₂) (T:∀C,BA (blk X scope N' C s₂ H₂ fp) tg J fp it tn) (d:tn 0 s₂.heap) (u:∀b∈fp,fH X pins H₂ b)
  (hg:∀C,PG (blk X scope N' C s₂ H₂ fp) tg g) (R:∀C,RB (blk X scope N' C s₂ H₂ fp) ifs tt) (Z:∀C D a,Q1 F (blk X scope N' C s₂ H₂ fp) D (lay (.ref D) (blk X scope N' C s₂ H₂ fp).env) (tl a) a)
  (G:∃m,W 0 m e0 (stC src σ) H₂) (turn:Q8 J g tt tl Fin W)
  (q:∀D C e H' a,s₂.heap.objs.size<=C->H' C=none->D≠C->(∃m,e.heap.Ns C m)->aQ X pins σ (upd H' D (obj D a)) e->H' D=none->Fin a H'->RR (.ref D) C (.ok .next) e) :
  wpAny (model X.prog X.w) X.A mk (λa L=>wpAny (model X.prog X.w) X.A (newFunctionEnv scope X.env.globals (closL X.env.cells scope.names []) [] X.env.qual none .none (some X.env)) (λc K =>
   codeAny (model X.prog X.w) X.A (.compStart ce 0 (.ref it) a {c with scope:=relabel scope X.env}) (RR a c.locals) K) E L) E s₂:=by
 refine A6 j r l S x T d u λD C t B=>?_;obtain⟨m,b⟩:=B.betw W G;refine C1 r (hb ..) (HI F (blk X scope N' C s₂ H₂ fp) [] D fp tn W) (λn s b=>?_) m b;refine(G4 (Y:=blk X scope N' C s₂ H₂ fp) hF (λ_ _ z=>z) (T C) B.place (hg C) turn (λs σc H a I v U fin=>?_) n s b).mono (λ_ z=>z) ?_
 ·obtain⟨Q,P,O⟩:=B.out x u I v (hok _ _ _ _ U);exact q D C s H a B.le Q B.ne P O v fin
 ·rintro t ⟨i,a,o,more,σ3,H3,f,I3,N⟩;exact DQ.go (KD (W:=W) (λ_ _ z=>z) B.place (T C) (R C) (Z C D a) f I3 N)
theorem KZ {Q:VK}{D C:Addr}{a:Shared}{H':Hp}(r:aQ X pins σ H₂ s₂)(l:s₂.heap.objs.size<=C)(h:H' C=none)(g:D≠C)(d:∃m,a.heap.Ns C m)(s:aQ X pins σ (upd H' D ob) a)(q:Q (.ref D) (upd H' D ob)) :
  compPost (model X.prog X.w) X.A X.xe none (EP X pins σ Q) (.ref D) C (.ok .next) a:=by
 obtain⟨m,i⟩:=d;have f:=r.fpOk (H':=upd H' D ob) l (by rw[aE (Ne.symm g)];exact h);exact⟨m,i,λh' c=>⟨.ref D,_,s.turned (t':=a.toks) (λb o j e=>c.extBut b o j e) f.1 f.2.1 f.2.2.2.1 f.2.2.2.2.1 f.2.2.2.2.2,rfl,q⟩⟩
theorem K1 {s:iM}{D C:Addr}{c:Shared}{H':Hp}{i:Nat}{y:Str}{x:Pos}(G:X.N.Nodup)(h:X.N[i]?=some y)(r:X.env.scope.names.lookup y=some .local)(I:aQ X pins σ H₂ s₂)(H:s₂.heap.objs.size<=C)(l:H' C=none)(j:D≠C)(g:∃m,c.heap.Ns C m)(J:aQ X pins σ (upd H' D ob) c)(q:s.nx (σ.set i (some (.ref D))) (upd H' D ob)) :
  compPost (model X.prog X.w) X.A X.xe (some (assign (.Name y x) X.env)) (λ_ c=>SP X pins s .next c) (.ref D) C (.ok .next) c:=by
 obtain⟨m,B⟩:=g;have f:=I.fpOk (H':=upd H' D ob) H (by rw[aE (Ne.symm j)];exact l);refine wpAny_assign_Name (u7 J G h (.inl r) (v:=.ref D) rfl (λt It ⟨a,u,F⟩=>?_) (.inr r));have ne:C≠a:=F.elim (λe=>e ▸ f.2.1) λe z=>f.2.2.2.2.1 y a e z.symm;exact⟨m,B.sameBut u ne,λh' d=>⟨_,_,It.turned (t':=t.toks) (λb o E e=>d.extBut b o E e) f.1 f.2.1 f.2.2.2.1 f.2.2.2.2.1 f.2.2.2.2.2,q⟩⟩
theorem FN {gens:List Comprehension}{y:Str}{b a:Pos}{Q:Flow->Shared->Prop}{s:Shared}(c:swapsWith (.ListComp elt gens scope pos) (some (.Name y b)) a.line X.env=pure true)
  (h:wpAny (model X.prog X.w) X.A (comprehension (.ListComp elt gens scope pos) scope X.env (firstIterPos gens pos) (newList []) (firstAsync gens) (firstIter gens X.env) (some (assign (.Name y b) X.env))) (λ_=>Q .next) X.xe s) :
  wpAny (model X.prog X.w) X.A (exec (.Assign [.Name y b] (.ListComp elt gens scope pos) a) X.env) Q X.xe s:=by
 have u:wpAny (model X.prog X.w) X.A (evalThenUse (.ListComp elt gens scope pos) X.env (assign (.Name y b) X.env)) (λ_=>Q .next) X.xe s:=aa (thn h λ_ _ q=>ak q);exact(exec_Assign_Name_used y b _ a c) ▸ aa (wpAny_standAt (aa (thn u λ_ _ q=>ak q)))
theorem vX {j:TI}{use:Option (Value->Sem Unit)}{Q:cL}{s:Shared}{H:Hp}{K:It->Hp->Prop}{ps:Pos}(i:clausesOf ce=⟨tg,iter,ifs,0⟩::cls)(S:bW X scope N' src)(r:PI X tg iter j)(o:∀x,foldedSetIterable iter X.env x=pure x)(I:aQ X pins σ H s)(h:j σ H K)
  (k:∀c H₂ it g e J,aQ X pins σ H₂ c->oY X.prog X.w X.K tg J g it e->e 0 c.heap->(∀b∈g,fH X pins H₂ b)->K J H₂ ->
   wpAny (model X.prog X.w) X.A mk (λd m=>wpAny (model X.prog X.w) X.A (newFunctionEnv scope X.env.globals (closL X.env.cells scope.names []) [] X.env.qual none .none (some X.env)) (λa l =>
    codeAny (model X.prog X.w) X.A (.compStart ce 0 (.ref it) d {a with scope:=relabel scope X.env}) (compPost (model X.prog X.w) X.A X.xe use Q d a.locals) l) X.xe m) X.xe c) :
  wpAny (model X.prog X.w) X.A (comprehension ce scope X.env ps mk false (eval iter X.env) use) Q X.xe s:=by
 refine wpAny_comprehension_free i o (uQ (S.cells I)) S.kind S.names (thn (r pins s σ H K I h) λ_ _ q=>thn q ?_);rintro _ c ⟨it,g,e,J,H₂,rfl,u,T,st,f,q⟩;exact k c H₂ it g e J u T st f q
theorem gG {d:TI}(u:X.calm=true)(S:bW X scope N' src)(o:PI X tg iter d)(q:∀C s H a,PG (blk X scope N' C s H a) tg g)(l:∀C s H a,RB (blk X scope N' C s H a) ifs tt)(r:∀C s H a,PE (blk X scope N' C s H a) elt te)
  (m:∀x,foldedSetIterable iter X.env x=pure x:=by intro _;rfl):PE X (.ListComp elt [⟨tg,iter,ifs,0⟩] scope pos) (tComp src d g tt te):=by
 intro e s σ H Q I h;rw[eval_ListComp];refine vX rfl S o m I h λb H₂ it a G J i T st f ⟨W,j,turn⟩=>?_;exact tJ (lay:=xZ elt) (tl:=tlLst te) (obj:=λ_=>.lst) vK vI (.lst ..) rfl (y6 elt tg iter ifs scope pos) (λ_ _ _ _=>EI) S i (λC=>oY.y (Y:=blk X scope N' C b H₂ a) T u) st f (λC=>q C b H₂ a) (λC=>l C b H₂ a) (λC D c=>AH (λ_ _ z=>z) (r C b H₂ a)) j turn λD C K H' c F E B A w v fin=>KZ i F E B A w (fin D v)
theorem jJ {l:TI}{i:Nat}{y:Str}{m b:Pos}(G:X.N.Nodup)(e:X.N[i]?=some y)(u:X.env.scope.names.lookup y=some .local)(d:swapsWith (.ListComp elt [⟨tg,iter,ifs,0⟩] scope pos) (some (.Name y m)) b.line X.env=pure true)
  (F:X.calm=true) (S:bW X scope N' src) (A:PI X tg iter l) (B:∀C s H a,PG (blk X scope N' C s H a) tg g) (v:∀C s H a,RB (blk X scope N' C s H a) ifs tt) (E:∀C s H a,PE (blk X scope N' C s H a) elt te)
  (w:∀x,foldedSetIterable iter X.env x=pure x:=by intro _;rfl):PS X (.Assign [.Name y m] (.ListComp elt [⟨tg,iter,ifs,0⟩] scope pos) b) (tAsg (tComp src l g tt te) (gName i)):=by
 intro o s σ H D I h;refine FN d ?_;refine vX rfl S A w I h λc H₂ it a U J q T st f ⟨W,r,turn⟩=>?_;exact tJ (lay:=xZ elt) (tl:=tlLst te) (obj:=λ_=>.lst) vK vI (.lst ..) rfl (y6 elt tg iter ifs scope pos) (λ_ _ _ _=>EI) S q (λC=>oY.y (Y:=blk X scope N' C c H₂ a) T F) st f (λC=>B C c H₂ a) (λC=>v C c H₂ a) (λC D j=>AH (λ_ _ z=>z) (E C c H₂ a)) r turn λD C Z H' j R Q P O L K fin=>K1 G e u q R Q P O L (fin D K)
end
noncomputable def xQ:aV->Bool
 | []=>true
 | x::r=>!r.contains x && xQ r
theorem vG:∀{l:aV},xQ l=true->l.Nodup
 | [],_=>List.nodup_nil
 | x::r,h=>by simp only[xQ,Bool.and_eq_true,Bool.not_eq_true',List.contains_eq_mem,decide_eq_false_iff_not]at h;exact cw.mpr ⟨h.1,vG h.2⟩
noncomputable def compB (N:aV)(names:List (Str×NameKind))(scope:Scope)(N':aV)(src:List (Option Nat)):Bool :=
 decide (scope.kind = .function) && scope.names.all (λy=>decide (y.2≠.cell)) && scope.names.all (λy=>decide (y.2≠.local) || decide (scope.names.lookup y.1=some .local)) &&
 scope.names.all (λy=>decide (y.2≠.free) || (decide (names.lookup y.1=some .cell) || decide (names.lookup y.1=some .free))) && xQ N' && srcOk N scope.names src N'
theorem bW.by {X:Cx}{N:aV}{names:List (Str×NameKind)}{scope:Scope}{N':aV}{src:List (Option Nat)}(h:compB N names scope N' src=true)(c:X.N=N)(d:X.env.scope.names=names):bW X scope N' src:=by subst c d;simp only[compB,Bool.and_eq_true,List.all_eq_true,Bool.or_eq_true,decide_eq_true_eq]at h;obtain⟨⟨⟨⟨⟨l,j⟩,i⟩,g⟩,f⟩,e⟩:=h;exact⟨l,j,λy a b=>(i y a).resolve_left λz=>z b,λy a b=>(g y a).resolve_left λz=>z b,vG f,e⟩
def d8 (P:Program)(w:World)(K:PySem.W.Frag)(mg:iH)(base:Heap)(CX:BO)(k:Nat)(x:Str)(b:Sp):Prop :=
 ∃f a ps,bN P w K mg base CX k f a ps b/\mg x=some (.ref f)/\PySem.W.keepIn K (.ref f)=true/\eY K a ps []
section
variable {X:Cx}{CX:BO}{k:Nat}{sp:Sp}{E:XK}{x:Str}{p pos:Pos}{e:Expr}{es:jW}{t:TA}
theorem aN (O:d8 X.prog X.w X.K X.mg X.base CX k x sp)(d:d5 k X.A)(c:jS CX X E)(i:Gl X x)(m:PA X (e::es) t)(b:(x == ("__debug__" : Str))=false:=by decide)
  (j:starEach (e::es) X.env=(false,eval e X.env)::starEach es X.env:=by rfl) (a:(backTo pos (starEach es X.env)).any (·.1)=false:=by rfl):PE X (.Call (.Name x p) (e::es) [] pos) (tCall sp [] E t):=by
 obtain⟨f,o,ps,F,g,h,l⟩:=O;exact MK F d i g h l .nil c m b j a
theorem eS {v:V}(a:∃u,X.mg x=some u/\aU v u)(b:Gl X x)(hd:(x == ("__debug__" : Str))=false:=by decide):PE X (.Name x pos) (tC v):=by obtain⟨u,h,r⟩:=a;exact MH b h r hd
end
def yV (P:Program)(w:World)(K:PySem.W.Frag)(mg:iH)(base:Heap)(CX:BO)(k:Nat)(C:Addr)(m:Str)(b:Sp):Prop :=
 ∃f a ps,bN P w K mg base CX k f a ps b/\N5 K C m f/\eY K a ps []/\HG K C
section
variable {X:Cx}
noncomputable def ixV (H:Hp):V->V->Option V
 | .ref p,.int i=>match H p with
  | some (.lst xs)=>atI xs i
  | some (.tup xs)=>atI xs i
  | some (.frz _ (.lst xs))=>atI xs i
  | _=>none
 | .str z,.int i=>if z.length<=sizeLine then(atI z.cps.toList i).map λc=>.str ⟨#[c]⟩else none
 | _,_=>none
theorem bB:LR X (λx y H Q=>∃v,ixV H x y=some v/\Q v H):=by
 intro a b d s σ H x y v u Q I j g h l;obtain⟨z,e,q⟩:=h;refine QH a b d s σ H x y v u Q I j g ?_ l;cases x with
 | ref p =>
  cases y with
  | int i =>
   unfold ixV at e;dsimp only at e;split at e
   ·rename_i xs f;exact .inl ⟨p,xs,i,z,rfl,rfl,eK.of f,e,q⟩
   ·rename_i xs f;exact .inr (.inl ⟨p,xs,i,z,rfl,rfl,hZ.of f,e,q⟩)
   ·rename_i o xs f;exact .inl ⟨p,xs,i,z,rfl,rfl,.inl (.inr ⟨o,f⟩),e,q⟩
   ·cases e
  | _=>cases e
 | str t =>
  cases y with
  | int i =>
   unfold ixV at e;dsimp only at e;split at e
   ·rename_i hz;cases ea:atI t.cps.toList i with
    | none=>rw[ea]at e;cases e
    | some c =>
     rw[ea]at e;cases e;exact .inr (.inr ⟨t,i,c,rfl,rfl,hz,ea,q⟩)
   ·cases e
  | _=>cases e
 | _=>cases e
noncomputable def lenV (H:Hp):V->Option Nat
 | .ref p=>match H p with
  | some (.lst xs)=>some xs.length
  | some (.tup xs)=>some xs.length
  | some (.frz _ (.lst xs))=>some xs.length
  | some (.dK a)=>some a.length
  | _=>none
 | .str z=>if z.length<=sizeLine then some z.length else none
 | _=>none
theorem d9.or' {f:Value}{r c:List V->Hp->VK->Prop}(h:d9 X f r)(h':d9 X f c):d9 X f (λxs H Q=>r xs H Q∨c xs H Q):=by
 intro a s σ H xs us Q I b q;rcases q with q|q
 ·exact h a s σ H xs us Q I b q
 ·exact h' a s σ H xs us Q I b q
theorem d9.imp {f:Value}{r b:List V->Hp->VK->Prop}(h:d9 X f r)(i:∀xs H Q,b xs H Q->r xs H Q):d9 X f b:=λa s σ H xs us Q I c q=>h a s σ H xs us Q I c (i _ _ _ q)
theorem iP.imp {f:Value->Value->Sem Value}{r b:R2}(h:iP X f r)(i:∀x y H Q,b x y H Q->r x y H Q):iP X f b:=λa s σ H x y v u Q I d c q=>h a s σ H x y v u Q I d c (i _ _ _ _ q)
def r1 (f:Hp->V->Option V):List V->Hp->VK->Prop:=λxs H Q=>∃x v,xs=[x]/\f H x=some v/\Q v H
theorem bZ:d9 X (.builtin "len") (r1 λH x=>(lenV H x).map λn=>.int n):=by
 refine((yQ.or' yP).or' HA).imp λxs H Q h=>?_;obtain⟨x,v,rfl,e,q⟩:=h;cases x with
 | ref p =>
  unfold lenV at e;dsimp only at e;split at e
  ·rename_i xs a;cases e;exact .inl (.inl ⟨p,xs,rfl,.inl (eK.of a),q⟩)
  ·rename_i xs a;cases e;exact .inl (.inl ⟨p,xs,rfl,.inr (hZ.of a),q⟩)
  ·rename_i o xs a;cases e;exact .inl (.inl ⟨p,xs,rfl,.inl (.inl (.inr ⟨o,a⟩)),q⟩)
  ·rename_i b a;cases e;exact .inr ⟨p,b,rfl,a,q⟩
  ·cases e
 | str z =>
  unfold lenV at e;dsimp only at e;split at e
  ·rename_i hz;cases e;exact .inl (.inr ⟨z,rfl,hz,q⟩)
  ·cases e
 | _=>cases e
noncomputable def intV:V->Option V
 | .int i=>some (.int i)
 | .bl k=>some (.int (if k then 1 else 0))
 | _=>none
theorem HB:d9 X (.type "int") (r1 λ_ x=>intV x):=by
 refine HC.imp λxs H Q h=>?_;obtain⟨x,v,rfl,e,q⟩:=h;cases x with
 | int i=>cases e;exact .inl ⟨i,rfl,q⟩
 | bl k=>cases e;exact .inr ⟨k,rfl,q⟩
 | _=>cases e
noncomputable def addV:V->V->Option V
 | .int i,.int j=>some (.int (i+j))
 | .str i,.str j=>if i.length+j.length<=sizeLine then some (.str (i++j))else none
 | _,_=>none
noncomputable def catO (H:Hp):V->V->Option HO
 | .ref a,.ref b=>match H a,H b with
  | some (.lst xs),some (.lst c)=>if xs.length+c.length<=sizeLine then some (.lst (xs++c))else none
  | some (.tup xs),some (.tup c)=>if xs.length+c.length<=sizeLine/\xs≠[]/\c≠[]then some (.tup (xs++c))else none
  | _,_=>none
 | _,_=>none
def rAddF:R2:=λx y H Q=>(∃v,addV x y=some v/\Q v H)∨(∃o,catO H x y=some o/\∀p,H p=none->Q (.ref p) (upd H p o))
theorem bM:iP X (binaryOp .Add) rAddF:=by
 refine((PY.or CI).or (PX.or EE)).imp λx y H Q h=>?_;rcases h with⟨v,e,q⟩|⟨o,e,q⟩
 ·cases x with
  | int i=>cases y with
   | int j=>cases e;exact .inl (.inl ⟨i,j,rfl,rfl,q⟩)
   | _=>cases e
  | str i=>cases y with
   | str j =>
    unfold addV at e;dsimp only at e;split at e
    ·rename_i hz;cases e;exact .inl (.inr ⟨i,j,rfl,rfl,hz,q⟩)
    ·cases e
   | _=>cases e
  | _=>cases e
 ·cases x with
  | ref a=>cases y with
   | ref b =>
    unfold catO at e;dsimp only at e;split at e
    ·rename_i xs c f d;split at e
     ·rename_i hz;cases e;exact .inr (.inl ⟨a,b,xs,c,rfl,rfl,f,d,hz,q⟩)
     ·cases e
    ·rename_i xs c f d;split at e
     ·rename_i hz;cases e;exact .inr (.inr ⟨a,b,xs,c,rfl,rfl,hZ.of f,hZ.of d,hz.2.1,hz.1,λw=>absurd w hz.2.2,λ_=>q⟩)
     ·cases e
    ·cases e
   | _=>cases e
  | _=>cases e
end
inductive D where
 | non|bl (b:Bool)|int (i:Int)|str (x:Str)|tup (xs:List D)|lst (xs:List D)
mutual
def aT (H:Hp):D->V->Prop
 | .non,v=>v = .non
 | .bl b,v=>v = .bl b
 | .int i,v=>v = .int i
 | .str x,v=>v = .str x
 | .tup ds,v=>∃a vs,v = .ref a/\H a=some (.tup vs)/\Reps H ds vs
 | .lst ds,v=>∃a vs,v = .ref a/\H a=some (.lst vs)/\Reps H ds vs
def Reps (H:Hp):List D->List V->Prop
 | [],vs=>vs=[]
 | d::ds,vs=>∃v r,vs=v::r/\aT H d v/\Reps H ds r
end
mutual
theorem aT.same {H H':Hp}(s:aD H H'):∀{d:D} {v:V},aT H d v->aT H' d v
 | .non,_,h=>h
 | .bl _,_,h=>h
 | .int _,_,h=>h
 | .str _,_,h=>h
 | .tup _,_,⟨a,vs,e,h,r⟩=>⟨a,vs,e,s _ _ h,Reps.same s r⟩
 | .lst _,_,⟨a,vs,e,h,r⟩=>⟨a,vs,e,s _ _ h,Reps.same s r⟩
theorem Reps.same {H H':Hp}(s:aD H H'):∀{ds:List D} {vs:List V},Reps H ds vs->Reps H' ds vs
 | [],_,h=>h
 | _::_,_,⟨v,r,e,h,q⟩=>⟨v,r,e,aT.same s h,Reps.same s q⟩
end
theorem Reps.length {H:Hp}:∀{ds:List D} {vs:List V},Reps H ds vs->vs.length=ds.length
 | [],_,h=>by cases h;rfl
 | _::_,_,⟨v,r,e,_,q⟩=>by subst e;simp[Reps.length q]
theorem Reps.append {H:Hp}:∀{ds es:List D} {vs ws:List V},Reps H ds vs->Reps H es ws->Reps H (ds++es) (vs++ws)
 | [],_,_,_,h,k=>by cases h;exact k
 | _::_,_,_,_,⟨v,r,e,h,q⟩,k=>by subst e;exact⟨v,r++_,rfl,h,Reps.append q k⟩
theorem Reps.get {H:Hp}:∀{ds:List D} {vs:List V} {i:Nat} {v:V},Reps H ds vs->vs[i]?=some v->∃d,ds[i]?=some d/\aT H d v
 | [],_,_,_,h,e=>by cases h;simp at e
 | d::_,_,0,_,⟨v,r,e,h,q⟩,k=>by subst e;simp at k;subst k;exact⟨d,rfl,h⟩
 | _::_,_,i+1,_,⟨v,r,e,h,q⟩,k=>by subst e;simp at k;obtain⟨d,b,a⟩:=Reps.get q k;exact⟨d,by simpa using b,a⟩
theorem Reps.get' {H:Hp}:∀{ds:List D} {vs:List V} {i:Nat} {d:D},Reps H ds vs->ds[i]?=some d->∃v,vs[i]?=some v/\aT H d v
 | [],_,_,_,_,e=>by simp at e
 | d::_,_,0,_,⟨v,r,e,h,q⟩,k=>by subst e;simp at k;subst k;exact⟨v,rfl,h⟩
 | _::_,_,i+1,_,⟨v,r,e,h,q⟩,k=>by subst e;simp at k;obtain⟨w,b,a⟩:=Reps.get' q k;exact⟨w,by simpa using b,a⟩
mutual
noncomputable def eqD:D->D->Bool
 | .non,.non=>true
 | .bl a,.bl b=>a == b
 | .bl a,.int b=>(if a then 1 else 0) == b
 | .int a,.bl b=>a == (if b then 1 else 0)
 | .int a,.int b=>a == b
 | .str a,.str b=>a == b
 | .tup xs,.tup c=>eqDs xs c
 | .lst xs,.lst c=>eqDs xs c
 | _,_=>false
noncomputable def eqDs:List D->List D->Bool
 | [],[]=>true
 | x::xs,y::a=>eqD x y && eqDs xs a
 | _,_=>false
end
mutual
noncomputable def depD:D->Nat
 | .tup xs=>depDs xs+1
 | .lst xs=>depDs xs+1
 | _=>0
noncomputable def depDs:List D->Nat
 | []=>0
 | x::xs=>max (depD x) (depDs xs)
end
end L2
namespace L2
open PySem PySem.Spec PyProof.Rows PySem.SeqAt
mutual
theorem aT.inj {H:Hp}:∀{d e:D} {v:V},aT H d v->aT H e v->d=e
 | .non,e,v,h,k=>by cases h;cases e <;> first|rfl|(exact absurd k (by simp[aT]))|(obtain⟨_,_,z,_⟩:=k;cases z)
 | .bl b,e,v,h,k=>by cases h;cases e <;> first|(cases k;rfl)|(exact absurd k (by simp[aT]))|(obtain⟨_,_,z,_⟩:=k;cases z)
 | .int b,e,v,h,k=>by cases h;cases e <;> first|(cases k;rfl)|(exact absurd k (by simp[aT]))|(obtain⟨_,_,z,_⟩:=k;cases z)
 | .str b,e,v,h,k=>by cases h;cases e <;> first|(cases k;rfl)|(exact absurd k (by simp[aT]))|(obtain⟨_,_,z,_⟩:=k;cases z)
 | .tup ds,e,v,⟨a,vs,l,i,j⟩,k=>by
  subst l;cases e with
  | tup es =>
   obtain⟨b,ws,f,c,g⟩:=k;cases f;rw[i]at c;cases c;rw[Reps.inj j g]
  | lst es =>
   obtain⟨b,ws,f,c,g⟩:=k;cases f;rw[i]at c;cases c
  | _=>exact absurd k (by simp[aT])
 | .lst ds,e,v,⟨a,vs,l,i,j⟩,k=>by
  subst l;cases e with
  | lst es =>
   obtain⟨b,ws,f,c,g⟩:=k;cases f;rw[i]at c;cases c;rw[Reps.inj j g]
  | tup es =>
   obtain⟨b,ws,f,c,g⟩:=k;cases f;rw[i]at c;cases c
  | _=>exact absurd k (by simp[aT])
theorem Reps.inj {H:Hp}:∀{ds es:List D} {vs:List V},Reps H ds vs->Reps H es vs->ds=es
 | [],[],_,_,_=>rfl
 | [],e::es,_,h,k=>by cases h;obtain⟨_,_,z,_⟩:=k;cases z
 | d::ds,[],_,h,k=>by cases k;obtain⟨_,_,z,_⟩:=h;cases z
 | d::ds,e::es,_,⟨v,r,i,g,f⟩,⟨w,q,c,b,a⟩=>by subst i;cases c;rw[aT.inj g b,Reps.inj f a]
end
mutual
theorem iY:∀d:D,eqD d d=true
 | .non=>rfl
 | .bl b=>by simp[eqD]
 | .int b=>by simp[eqD]
 | .str b=>by simp[eqD]
 | .tup xs=>by rw[eqD];exact pY xs
 | .lst xs=>by rw[eqD];exact pY xs
theorem pY:∀ds:List D,eqDs ds ds=true
 | []=>rfl
 | d::ds=>by rw[eqDs,iY d,pY ds];rfl
end
theorem tR (n:Nat)(f:Nat->Bool):(List.range (n+1)).all f=(f 0 && (List.range n).all λj=>f (j+1)):=by have e:=List.range_succ_eq_map (n:=n);rw[e,List.all_cons,List.all_map];rfl
theorem iC:∀ds es:List D,eqDs ds es=((List.range (min ds.length es.length)).all (λj=>eqD (ds.getD j .non) (es.getD j .non)) && ds.length == es.length)
 | [],[]=>rfl
 | [],e::es=>by simp[eqDs]
 | d::ds,[]=>by simp[eqDs]
 | d::ds,e::es=>by
  rw[eqDs,iC ds es];have a:min (d::ds).length (e::es).length=min ds.length es.length+1:=by simp only[ao];omega
  rw[a,tR];simp only[List.getD_cons_zero,List.getD_cons_succ,ao];rw[Bool.and_assoc];congr 2;rw[bS];simp
section
variable {P:Program}{w:World}{H:Hp}{s:Shared}
theorem gK (ok:gQ P w H s.heap){a:Addr}{vs:List V}(h:H a=some (.lst vs)):∃its:cC,aX vs its/\s.heap.IsList a its.toArray:=by obtain⟨_,its,n,r,e⟩:=ok a _ h;exact⟨its,r,⟨_,e,rfl,n,rfl⟩⟩
theorem jK (ok:gQ P w H s.heap){a:Addr}{vs:List V}(h:H a=some (.tup vs)):∃its:cC,aX vs its/\s.heap.IsTuple a its.toArray:=by obtain⟨_,its,r,e⟩:=ok a _ h;exact⟨its,r,e⟩
theorem eH (A:Around):A.in1.units=A.units+1:=rfl
def SB (u:Value):Prop:=u = .none∨(∃b,u = .bool b)∨(∃i t,u = .int i t)∨(∃x t,u = .str x t)∨∃a,u = .ref a
theorem IN {H:Hp}{d:D}{v:V}{u:Value}(h:aT H d v)(r:aU v u):SB u:=by
 cases d with
 | non=>cases h;exact .inl r
 | bl b=>cases h;exact .inr (.inl ⟨b,r⟩)
 | int i=>cases h;obtain⟨t,e⟩:=r;exact .inr (.inr (.inl ⟨i,t,e⟩))
 | str x=>cases h;obtain⟨t,e⟩:=r;exact .inr (.inr (.inr (.inl ⟨x,t,e⟩)))
 | tup ds=>obtain⟨a,vs,e,_⟩:=h;subst e;exact .inr (.inr (.inr (.inr ⟨a,r⟩)))
 | lst ds=>obtain⟨a,vs,e,_⟩:=h;subst e;exact .inr (.inr (.inr (.inr ⟨a,r⟩)))
theorem NR {A:Around}{s:Shared}{u a:Value}{b:Bool}(f:SB u)(c:SB a)(g:u≠a)(q:RcAt A s u a b):EqAt A s u a b:=by intro prog w E Q h;unfold eqBool;refine cf ?_;refine wpAny_ite_split (λd=>absurd (eq_of_beq d) g) (λ_=>?_);have q':=q prog w E (λv e=>wpAny (model prog w) A (truthOfDropped v) Q E e) (wpAny_truthy_bool h);rcases f with rfl|⟨_,rfl⟩|⟨_,_,rfl⟩|⟨_,_,rfl⟩|⟨_,rfl⟩ <;> rcases c with rfl|⟨_,rfl⟩|⟨_,_,rfl⟩|⟨_,_,rfl⟩|⟨_,rfl⟩ <;> exact aa q'
theorem E4 {A:Around}{d e:D}{v b:V}{u a:Value}(h:aT H d v)(k:aT H e b)(r:aU v u)(c:aU b a)(q:RcAt A s u a (eqD d e)):EqAt A s u a (eqD d e):=by
 by_cases f:u=a
 ·subst f;have i:v=b:=r.inj c;subst i;have g:=aT.inj h k;subst g;rw[iY];exact EqAt.same u
 ·exact NR (IN h r) (IN k c) f q
def rW (s:Shared)(H:Hp)(n:Nat):Prop:=∀(d e:D) (A:Around) (v v':V) (u u':Value),depD d<n->aT H d v->aT H e v'->aU v u->aU v' u'->A.units+depD d<cLine->RcAt A s u u' (eqD d e)
theorem yK {n:Nat}(C:rW s H n):∀{ds es:List D} {A:Around} {vs ws:List V} {us a:cC},depDs ds<n->Reps H ds vs->Reps H es ws->aX vs us->aX ws a->A.units+depDs ds<cLine ->
  ∀j (c:j<us.length) (l:j<a.length),EqAt A s us[j] a[j] (eqD (ds.getD j .non) (es.getD j .non)):=by
 intro ds
 induction ds with
 | nil=>intro es A vs ws us a _ h _ r _ _ j c;cases h;cases r;exact absurd c (Nat.not_lt_zero _)
 | cons d ds E =>
  intro es A vs ws us a i h k r m g j c l;cases es with
  | nil=>cases k;cases m;exact absurd l (Nat.not_lt_zero _)
  | cons e es =>
   obtain⟨v,G,x,o,w⟩:=h;obtain⟨y,F,B,q,z⟩:=k;subst x B;rw[depDs]at g i;cases r with
   | cons r1 u =>
    cases m with
    | cons b f =>
     cases j with
     | zero=>exact E4 o q r1 b (C d e A v y _ _ (aj (Nat.le_max_left _ _) i) o q r1 b (aj (bx (Nat.le_max_left _ _) _) g))
     | succ j=>exact E (aj (Nat.le_max_right _ _) i) w z u f (aj (bx (Nat.le_max_right _ _) _) g) j (Nat.lt_of_succ_lt_succ c) (Nat.lt_of_succ_lt_succ l)
theorem L6 (ok:gQ P w H s.heap){n:Nat}(E:rW s H n){ds es:List D}{A:Around}{v i:V}{u l:Value}(F:depDs ds<n)(h:aT H (.tup ds) v)(k:aT H (.tup es) i)(r:aU v u)(z:aU i l)(K:A.units+depDs ds+1<cLine):RcAt A s u l (eqD (.tup ds) (.tup es)):=by
 obtain⟨a,vs,g,f,x⟩:=h;obtain⟨b,ws,C,B,o⟩:=k;subst g C;cases r;cases z;obtain⟨its,m,G⟩:=jK ok f;obtain⟨its2,c,d⟩:=jK ok B;have q:=RcAt.tuples (A:=A) G d (by omega) (e:=λj=>eqD (ds.getD j .non) (es.getD j .non)) λj g f=>yK E F x o m c (A:=A.in1) (by rw[eH];omega) j g f;have J:its.toArray.size=ds.length:=by rw[ag,←m.length,x.length]
 have I:its2.toArray.size=es.length:=by rw[ag,←c.length,o.length]
 rw[J,I,←iC]at q;exact q
theorem L7 (ok:gQ P w H s.heap){n:Nat}(K:rW s H n){ds es:List D}{A:Around}{v m:V}{u o:Value}(L:depDs ds<n)(h:aT H (.lst ds) v)(k:aT H (.lst es) m)(r:aU v u)(G:aU m o)(N:A.units+depDs ds+1<cLine):RcAt A s u o (eqD (.lst ds) (.lst es)):=by
 obtain⟨a,vs,g,f,C⟩:=h;obtain⟨b,ws,J,I,z⟩:=k;subst g J;cases r;cases G;obtain⟨its,x,B⟩:=gK ok f;obtain⟨its2,c,d⟩:=gK ok I;have l:its.toArray.size=ds.length:=by rw[ag,←x.length,C.length]
 have F:its2.toArray.size=es.length:=by rw[ag,←c.length,z.length]
 by_cases hz:its.toArray.size=its2.toArray.size
 ·have q:=RcAt.lists (A:=A) B d hz (by omega) (e:=λj=>eqD (ds.getD j .non) (es.getD j .non)) λj g f=>yK K L C z x c (A:=A.in1) (by rw[eH];omega) j g f;have E:ds.length=es.length:=by rw[←l,←F];exact hz
  have i:eqD (.lst ds) (.lst es)=(List.range its.toArray.size).all λj=>eqD (ds.getD j .non) (es.getD j .non):=by rw[eqD,iC,E,Nat.min_self,l,E,beq_self_eq_true,Bool.and_true]
  rw[i];exact q
 ·have q:=RcAt.lists_lengths (A:=A) B d (bne_iff_ne.mpr hz) (by omega);have i:eqD (.lst ds) (.lst es)=false:=by rw[eqD,iC];have:(ds.length == es.length)=false:=cu.mpr (by rw[←l,←F];exact hz);rw[this,Bool.and_false]
  rw[i];exact q
inductive Kd (s:Shared):D->Value->Prop
 | non:Kd s .non .none
 | bl (b:Bool):Kd s (.bl b) (.bool b)
 | int (i:Int) (t:Tok):Kd s (.int i) (.int i t)
 | str (x:Str) (t:Tok):Kd s (.str x) (.str x t)
 | tup {ds:List D} {a:Addr} {its:cC}:s.heap.IsTuple a its.toArray->Kd s (.tup ds) (.ref a)
 | lst {ds:List D} {a:Addr} {its:cC}:s.heap.IsList a its.toArray->Kd s (.lst ds) (.ref a)
theorem ET (ok:gQ P w H s.heap):∀{d:D} {v:V} {u:Value},aT H d v->aU v u->Kd s d u
 | .non,_,_,h,r=>by cases h;cases r;exact .non
 | .bl b,_,_,h,r=>by cases h;cases r;exact .bl b
 | .int i,_,_,h,r=>by cases h;obtain⟨t,rfl⟩:=r;exact .int i t
 | .str x,_,_,h,r=>by cases h;obtain⟨t,rfl⟩:=r;exact .str x t
 | .tup _,_,_,⟨_,_,e,h,_⟩,r=>by subst e;cases r;obtain⟨_,_,a⟩:=jK ok h;exact .tup a
 | .lst _,_,_,⟨_,_,e,h,_⟩,r=>by subst e;cases r;obtain⟨_,_,a⟩:=gK ok h;exact .lst a
theorem L8 {A:Around}{d e:D}{u g:Value}(a:A.units<cLine)(h:Kd s d u)(k:Kd s e g)(n1:∀xs f,d = .tup xs->e≠.tup f)(n2:∀xs f,d = .lst xs->e≠.lst f):RcAt A s u g (eqD d e):=by
 cases h with
 | non=>cases k with
  | non=>exact RcAt.none_none
  | bl c=>exact RcAt.none_bool c
  | int c t=>exact RcAt.none_int c t
  | str c t=>exact RcAt.none_str c t
  | tup l=>exact RcAt.none_tuple l a
  | lst l=>exact RcAt.none_list l a
 | bl x=>cases k with
  | non=>exact RcAt.bool_none x
  | bl c=>exact RcAt.bool_bool x c
  | int c t=>exact RcAt.bool_int x c t
  | str c t=>exact RcAt.bool_str x c t
  | tup l=>exact RcAt.bool_tuple x l a
  | lst l=>exact RcAt.bool_list x l a
 | int x b=>cases k with
  | non=>exact RcAt.int_none x b
  | bl c=>exact RcAt.int_bool x b c
  | int c t=>exact RcAt.int_int x b c t
  | str c t=>exact RcAt.int_str x b c t
  | tup l=>exact RcAt.int_tuple x b l a
  | lst l=>exact RcAt.int_list x b l a
 | str x b=>cases k with
  | non=>exact RcAt.str_none x b
  | bl c=>exact RcAt.str_bool x b c
  | int c t=>exact RcAt.str_int x b c t
  | str c t=>exact RcAt.str_str x b c t
  | tup l=>exact RcAt.str_tuple x b l a
  | lst l=>exact RcAt.str_list x b l a
 | tup m=>cases k with
  | non=>exact RcAt.tuple_none m a
  | bl c=>exact RcAt.tuple_bool c m a
  | int c t=>exact RcAt.tuple_int c t m a
  | str c t=>exact RcAt.tuple_str c t m a
  | tup l=>exact absurd rfl (n1 _ _ rfl)
  | lst l=>exact RcAt.tuple_list m l a
 | lst m=>cases k with
  | non=>exact RcAt.list_none m a
  | bl c=>exact RcAt.list_bool c m a
  | int c t=>exact RcAt.list_int c t m a
  | str c t=>exact RcAt.list_str c t m a
  | tup l=>exact RcAt.list_tuple m l a
  | lst l=>exact absurd rfl (n2 _ _ rfl)
theorem oH (ok:gQ P w H s.heap):∀n,rW s H n
 | 0=>λ_ _ _ _ _ _ _ h=>absurd h (Nat.not_lt_zero _)
 | n+1=>λd e A v o u q c h k r f b=>by
  have m:A.units<cLine:=aj (Nat.le_add_right _ _) b;by_cases l:∃xs a,d = .tup xs/\e = .tup a
  ·obtain⟨xs,a,rfl,rfl⟩:=l;rw[depD]at b c;exact L6 ok (oH ok n) (Nat.lt_of_succ_lt_succ c) h k r f b
  ·by_cases j:∃xs a,d = .lst xs/\e = .lst a
   ·obtain⟨xs,a,rfl,rfl⟩:=j;rw[depD]at b c;exact L7 ok (oH ok n) (Nat.lt_of_succ_lt_succ c) h k r f b
   ·exact L8 m (ET ok h r) (ET ok k f) (λxs a i g=>l ⟨xs,a,i,g⟩) (λxs a i g=>j ⟨xs,a,i,g⟩)
theorem rcAtD (ok:gQ P w H s.heap)(d e:D)(A:Around)(v a:V)(u b:Value)(h:aT H d v)(k:aT H e a)(r:aU v u)(c:aU a b)(f:A.units+depD d<cLine):RcAt A s u b (eqD d e):=oH ok _ d e A v a u b (Nat.lt_succ_self _) h k r c f
theorem eqAtD (ok:gQ P w H s.heap)(d e:D)(A:Around)(v a:V)(u b:Value)(h:aT H d v)(k:aT H e a)(r:aU v u)(c:aU a b)(f:A.units+depD d<cLine):EqAt A s u b (eqD d e):=E4 h k r c (rcAtD ok d e A v a u b h k r c f)
end
section
variable {X:Cx}
def rEqD:R2:=λx y H Q=>∃d e,aT H d x/\aT H e y/\depD d<=60/\Q (.bl (eqD d e)) H
def rNeD:R2:=λx y H Q=>∃d e,aT H d x/\aT H e y/\depD d<=60/\Q (.bl (!eqD d e)) H
theorem gJ (g:X.A.units+64<cLine):iP X (compareOp .Eq) rEqD:=by intro a s σ H x y v u Q I c b h;obtain⟨d,e,hd,f,hz,q⟩:=h;exact rcAtD I.hok d e X.A x y v u hd f c b (by omega) X.prog X.w X.xe _ ⟨.bl _,H,I,rfl,q⟩
end
section
variable {P:Program}{w:World}{H:Hp}{s:Shared}
theorem L3 (ok:gQ P w H s.heap){ds es:List D}{A:Around}{v i:V}{u l:Value}(h:aT H (.tup ds) v)(k:aT H (.tup es) i)(r:aU v u)(z:aU i l)(I:A.units+depDs ds+1<cLine):RcNeAt A s u l (!eqD (.tup ds) (.tup es)):=by
 obtain⟨a,vs,g,f,x⟩:=h;obtain⟨b,ws,C,B,o⟩:=k;subst g C;cases r;cases z;obtain⟨its,m,E⟩:=jK ok f;obtain⟨its2,c,d⟩:=jK ok B;have q:=RcNeAt.tuples (A:=A) E d (by omega) (e:=λj=>eqD (ds.getD j .non) (es.getD j .non)) λj g f=>yK (oH ok _) (Nat.lt_succ_self _) x o m c (A:=A.in1) (by rw[eH];omega) j g f;have G:its.toArray.size=ds.length:=by rw[ag,←m.length,x.length]
 have F:its2.toArray.size=es.length:=by rw[ag,←c.length,o.length]
 rw[G,F,←iC]at q;exact q
theorem L4 (ok:gQ P w H s.heap){ds es:List D}{A:Around}{v m:V}{u o:Value}(h:aT H (.lst ds) v)(k:aT H (.lst es) m)(r:aU v u)(G:aU m o)(K:A.units+depDs ds+1<cLine):RcNeAt A s u o (!eqD (.lst ds) (.lst es)):=by
 obtain⟨a,vs,g,f,C⟩:=h;obtain⟨b,ws,J,I,z⟩:=k;subst g J;cases r;cases G;obtain⟨its,x,B⟩:=gK ok f;obtain⟨its2,c,d⟩:=gK ok I;have l:its.toArray.size=ds.length:=by rw[ag,←x.length,C.length]
 have F:its2.toArray.size=es.length:=by rw[ag,←c.length,z.length]
 by_cases hz:its.toArray.size=its2.toArray.size
 ·have q:=RcNeAt.lists (A:=A) B d hz (by omega) (e:=λj=>eqD (ds.getD j .non) (es.getD j .non)) λj g f=>yK (oH ok _) (Nat.lt_succ_self _) C z x c (A:=A.in1) (by rw[eH];omega) j g f;have E:ds.length=es.length:=by rw[←l,←F];exact hz
  have i:eqD (.lst ds) (.lst es)=(List.range its.toArray.size).all λj=>eqD (ds.getD j .non) (es.getD j .non):=by rw[eqD,iC,E,Nat.min_self,l,E,beq_self_eq_true,Bool.and_true]
  rw[i];exact q
 ·have q:=RcNeAt.lists_lengths (A:=A) B d (bne_iff_ne.mpr hz) (by omega);have i:eqD (.lst ds) (.lst es)=false:=by rw[eqD,iC];have:(ds.length == es.length)=false:=cu.mpr (by rw[←l,←F];exact hz);rw[this,Bool.and_false]
  rw[i];exact q
theorem L5 {A:Around}{d e:D}{u g:Value}(a:A.units<cLine)(h:Kd s d u)(k:Kd s e g)(n1:∀xs f,d = .tup xs->e≠.tup f)(n2:∀xs f,d = .lst xs->e≠.lst f):RcNeAt A s u g (!eqD d e):=by
 cases h with
 | non=>cases k with
  | non=>exact RcNeAt.none_none
  | bl c=>exact RcNeAt.none_bool c
  | int c t=>exact RcNeAt.none_int c t
  | str c t=>exact RcNeAt.none_str c t
  | tup l=>exact RcNeAt.none_tuple l a
  | lst l=>exact RcNeAt.none_list l a
 | bl x=>cases k with
  | non=>exact RcNeAt.bool_none x
  | bl c=>exact RcNeAt.bool_bool x c
  | int c t=>exact RcNeAt.bool_int x c t
  | str c t=>exact RcNeAt.bool_str x c t
  | tup l=>exact RcNeAt.bool_tuple x l a
  | lst l=>exact RcNeAt.bool_list x l a
 | int x b=>cases k with
  | non=>exact RcNeAt.int_none x b
  | bl c=>exact RcNeAt.int_bool x b c
  | int c t=>exact RcNeAt.int_int x b c t
  | str c t=>exact RcNeAt.int_str x b c t
  | tup l=>exact RcNeAt.int_tuple x b l a
  | lst l=>exact RcNeAt.int_list x b l a
 | str x b=>cases k with
  | non=>exact RcNeAt.str_none x b
  | bl c=>exact RcNeAt.str_bool x b c
  | int c t=>exact RcNeAt.str_int x b c t
  | str c t=>exact RcNeAt.str_str x b c t
  | tup l=>exact RcNeAt.str_tuple x b l a
  | lst l=>exact RcNeAt.str_list x b l a
 | tup m=>cases k with
  | non=>exact RcNeAt.tuple_none m a
  | bl c=>exact RcNeAt.tuple_bool c m a
  | int c t=>exact RcNeAt.tuple_int c t m a
  | str c t=>exact RcNeAt.tuple_str c t m a
  | tup l=>exact absurd rfl (n1 _ _ rfl)
  | lst l=>exact RcNeAt.tuple_list m l a
 | lst m=>cases k with
  | non=>exact RcNeAt.list_none m a
  | bl c=>exact RcNeAt.list_bool c m a
  | int c t=>exact RcNeAt.list_int c t m a
  | str c t=>exact RcNeAt.list_str c t m a
  | tup l=>exact RcNeAt.list_tuple m l a
  | lst l=>exact absurd rfl (n2 _ _ rfl)
theorem D4 (ok:gQ P w H s.heap)(d e:D)(A:Around)(v i:V)(u j:Value)(h:aT H d v)(k:aT H e i)(r:aU v u)(c:aU i j)(b:A.units+depD d<cLine):RcNeAt A s u j (!eqD d e):=by
 have o:A.units<cLine:=aj (Nat.le_add_right _ _) b;by_cases m:∃xs a,d = .tup xs/\e = .tup a
 ·obtain⟨xs,a,rfl,rfl⟩:=m;rw[depD]at b;exact L3 ok h k r c b
 ·by_cases l:∃xs a,d = .lst xs/\e = .lst a
  ·obtain⟨xs,a,rfl,rfl⟩:=l;rw[depD]at b;exact L4 ok h k r c b
  ·exact L5 o (ET ok h r) (ET ok k c) (λxs a g f=>m ⟨xs,a,g,f⟩) (λxs a g f=>l ⟨xs,a,g,f⟩)
end
section
variable {X:Cx}
theorem nC (g:X.A.units+64<cLine):iP X (compareOp .NotEq) rNeD:=by intro a s σ H x y v u Q I c b h;obtain⟨d,e,hd,f,hz,q⟩:=h;exact D4 I.hok d e X.A x y v u hd f c b (by omega) X.prog X.w X.xe _ ⟨.bl _,H,I,rfl,q⟩
noncomputable def inD (d:D)(ds:List D):Bool:=ds.any λe=>eqD e d
def rInD (a:Bool):R2:=λx y H Q=>∃d ds,aT H d x/\(aT H (.lst ds) y∨aT H (.tup ds) y)/\depDs ds<=60/\Q (.bl (if a then !inD d ds else inD d ds)) H
open Classical in
noncomputable def datOf (H:Hp)(y:Value):D:=if h:∃d v,absV y=some v/\aT H d v then h.choose else .non
theorem LA {H:Hp}{d:D}{v:V}{y:Value}(r:aU v y)(h:aT H d v):datOf H y=d:=by
 have e:∃d v,absV y=some v/\aT H d v:=⟨d,v,r.abs,h⟩
 unfold datOf;rw[dif_pos e];obtain⟨c,a,b⟩:=e.choose_spec;rw[r.abs]at a;cases a;exact aT.inj b h
theorem tD {P:Program}{w:World}{H:Hp}{s:Shared}(ok:gQ P w H s.heap){A:Around}{d:D}{v:V}{u:Value}(h:aT H d v)(r:aU v u):∀(ds:List D) (vs:List V) (us:cC),Reps H ds vs->aX vs us->A.units+depDs ds<cLine ->
  (∀y∈us,EqAt A s y u (eqD (datOf H y) d))/\us.any (λy=>eqD (datOf H y) d)=inD d ds
 | [],vs,us,a,r1,_=>by cases a;cases r1;exact⟨by simp,rfl⟩
 | e::ds,vs,us,a,r1,x=>by
  obtain⟨g,f,o,b,m⟩:=a;subst o;rw[depDs]at x;cases r1 with
  | @cons _ j _ i r1 l =>
   obtain⟨C,B⟩:=tD ok (A:=A) h r ds f i m l (by omega);have hd:=eqAtD ok e d A g v j u b h r1 r (by omega);have c:=LA r1 b;refine⟨λy q=>?_,?_⟩
   ·rcases cp.mp q with z|z
    ·subst z;rw[c];exact hd
    ·exact C y z
   ·rw[List.any_cons,c,B];rfl
theorem R7 (B:X.A.units+64<cLine):iP X (compareOp .In) (λx y H Q=>rInD false x y H Q∨∃i j,x = .str i/\y = .str j/\Q (.bl (!(Builtin.Str.occurrences j i 0 j.length 1).isEmpty)) H):=by
 refine iP.or ?_ pQ;intro z s σ H x y v u Q I w r h;obtain⟨d,ds,hd,b,hz,q⟩:=h;have q:Q (.bl (inD d ds)) H:=q;rcases b with⟨a,vs,e,l,f⟩|⟨a,vs,e,l,f⟩
 ·subst e;cases r;obtain⟨its,c,g⟩:=gK I.hok l;obtain⟨o,m⟩:=tD I.hok (A:=X.A.in1) hd w ds vs its f c (by rw[eH];omega);refine in_listAt (λy=>eqD (datOf H y) d) g (λy b=>o y (by simpa using b)) ?_;refine⟨.bl (inD d ds),H,I,?_,q⟩;show _=Value.bool _;rw[←m];simp
 ·subst e;cases r;obtain⟨its,c,g⟩:=jK I.hok l;obtain⟨o,m⟩:=tD I.hok (A:=X.A.in1) hd w ds vs its f c (by rw[eH];omega);refine in_tupleAt (λy=>eqD (datOf H y) d) g (λy b=>o y (by simpa using b)) ?_;refine⟨.bl (inD d ds),H,I,?_,q⟩;show _=Value.bool _;rw[←m];simp
theorem GF (B:X.A.units+64<cLine):iP X (compareOp .NotIn) (λx y H Q=>rInD true x y H Q∨∃i j,x = .str i/\y = .str j/\Q (.bl (!(!(Builtin.Str.occurrences j i 0 j.length 1).isEmpty))) H):=by
 refine iP.or ?_ xN;intro z s σ H x y v u Q I w r h;obtain⟨d,ds,hd,b,hz,q⟩:=h;have q:Q (.bl (!inD d ds)) H:=q;rcases b with⟨a,vs,e,l,f⟩|⟨a,vs,e,l,f⟩
 ·subst e;cases r;obtain⟨its,c,g⟩:=gK I.hok l;obtain⟨o,m⟩:=tD I.hok (A:=X.A.in1) hd w ds vs its f c (by rw[eH];omega);refine notIn_listAt (λy=>eqD (datOf H y) d) g (λy b=>o y (by simpa using b)) ?_;refine⟨.bl (!inD d ds),H,I,?_,q⟩;show _=Value.bool _;rw[←m];simp
 ·subst e;cases r;obtain⟨its,c,g⟩:=jK I.hok l;obtain⟨o,m⟩:=tD I.hok (A:=X.A.in1) hd w ds vs its f c (by rw[eH];omega);refine notIn_tupleAt (λy=>eqD (datOf H y) d) g (λy b=>o y (by simpa using b)) ?_;refine⟨.bl (!inD d ds),H,I,?_,q⟩;show _=Value.bool _;rw[←m];simp
end
end L2
namespace L2
open PySem PySem.Spec PyProof.Rows
section
variable {X:Cx}{pins:c9}{σ:St}{H:Hp}{s:Shared}
noncomputable def tyN (H:Hp):V->Option String
 | .non=>some "NoneType"
 | .bl _=>some "bool"
 | .int _=>some "int"
 | .str _=>some "str"
 | .ref p=>match H p with
  | some (.lst _)=>some "list"
  | some (.tup _)=>some "tuple"
  | some (.dK _)=>some "dict"
  | _=>none
 | _=>none
noncomputable def okT (c:String):Bool:=c == "str" || c == "int" || c == "bool" || c == "list" || c == "tuple" || c == "dict"
noncomputable def subT (t c:String):Bool:=t == c || (t == "bool" && c == "int")
noncomputable def tysV:List V->Option (List String)
 | []=>some []
 | .ty n::r=>(tysV r).map (n :: ·)
 | _::_=>none
noncomputable def clsV (H:Hp):V->Option (List String)
 | .ty n=>some [n]
 | .ref p=>match H p with
  | some (.tup vs)=>tysV vs
  | _=>none
 | _=>none
noncomputable def isV (H:Hp)(x c:V):Option Bool:=match tyN H x,clsV H c with
 | some t,some a=>if a.all okT then some (a.any (subT t))else none
 | _,_=>none
theorem RL {x:V}{u:Value}{t:String}(I:aQ X pins σ H s)(a:aU x u)(e:tyN H x=some t) :
  ∃HH:Heap->Prop,PySem.W.KitX X.K u (.type t) HH/\HH s.heap/\u≠.builtin "__main__.__loader__#opaque":=by
 cases x with
 | non=>cases e;cases a;exact⟨_,PySem.W.kitx_none,True.intro,λz=>nomatch z⟩
 | bl b=>cases e;cases a;exact⟨_,PySem.W.kitx_bool,True.intro,λz=>nomatch z⟩
 | int i=>cases e;obtain⟨t,rfl⟩:=a;exact⟨_,PySem.W.kitx_int,True.intro,λz=>nomatch z⟩
 | str i=>cases e;obtain⟨t,rfl⟩:=a;exact⟨_,PySem.W.kitx_str,True.intro,λz=>nomatch z⟩
 | ref p =>
  cases a;unfold tyN at e;dsimp only at e;split at e
  ·rename_i xs c;cases e;obtain⟨_,_,n,_,d⟩:=(show cB X.prog X.w H s.heap p (.lst xs)from I.hok p _ c)
   exact⟨_,PySem.W.kitx_list,⟨_,d,rfl⟩,λz=>nomatch z⟩
  ·rename_i xs c;cases e;obtain⟨_,_,_,o,d,g,_⟩:=(show cB X.prog X.w H s.heap p (.tup xs)from I.hok p _ c)
   exact⟨_,PySem.W.kitx_tuple,⟨o,d,g⟩,λz=>nomatch z⟩
  ·rename_i f c;cases e;obtain⟨_,_,vs,_,o,es,h,d,g,_⟩:=(show cB X.prog X.w H s.heap p (.dK f)from I.hok p _ c)
   exact⟨_,PySem.W.kitx_dict,⟨o,d,g.1⟩,λz=>nomatch z⟩
  ·cases e
 | _=>cases e
theorem OU {x:V}{t:String}(e:tyN H x=some t):t="NoneType"∨t="bool"∨t="int"∨t="str"∨t="list"∨t="tuple"∨t="dict":=by
 cases x with
 | non=>cases e;simp
 | bl b=>cases e;simp
 | int i=>cases e;simp
 | str i=>cases e;simp
 | ref p =>
  unfold tyN at e;dsimp only at e;split at e <;> cases e <;> simp
 | _=>cases e
theorem P6 {c:String}(e:okT c=true):c="str"∨c="int"∨c="bool"∨c="list"∨c="tuple"∨c="dict":=by simp only[okT,Bool.or_eq_true,beq_iff_eq]at e;rcases e with((((e|e)|e)|e)|e)|e <;> simp[e]
theorem EQ {K:PySem.W.Frag}{x:V}{t c:String}(e:tyN H x=some t)(a:okT c=true):PySem.W.kitOne K (.type t) (.type c)=some (subT t c):=by rcases OU e with rfl|rfl|rfl|rfl|rfl|rfl|rfl <;> rcases P6 a with rfl|rfl|rfl|rfl|rfl|rfl <;> with_unfolding_all rfl
theorem ER {K:PySem.W.Frag}{x:V}{t:String}(e:tyN H x=some t):∀{a:List String},a.all okT=true->PySem.W.kitAny K (.type t) (a.map Value.type)=some (a.any (subT t))
 | [],_=>rfl
 | c::r,h=>by
  replace h:=Bool.and_eq_true_iff.mp (List.all_cons ▸ h)
  rw[ba];unfold PySem.W.kitAny;rw[EQ e h.1];cases q:subT t c with
  | true=>simp[q]
  | false=>simp only[List.any_cons,q,Bool.false_or];exact ER e h.2
theorem uZ:∀{vs:List V} {a:List String} {us:cC},tysV vs=some a->aX vs us->us=a.map Value.type
 | [],a,us,h,r=>by cases h;cases r;rfl
 | .ty n::vs,a,us,h,r=>by
  unfold tysV at h;cases e:tysV vs with
  | none=>rw[e]at h;cases h
  | some c =>
   rw[e]at h;cases h;cases r with
   | cons r1 b =>
    cases r1;rw[ba,uZ e b]
 | .non::_,_,_,h,_=>by cases h
 | .bl _::_,_,_,h,_=>by cases h
 | .int _::_,_,_,h,_=>by cases h
 | .str _::_,_,_,h,_=>by cases h
 | .byt _::_,_,_,h,_=>by cases h
 | .flt _::_,_,_,h,_=>by cases h
 | .ref _::_,_,_,h,_=>by cases h
def rIs:List V->Hp->VK->Prop:=λxs H Q=>∃x c b,xs=[x,c]/\isV H x c=some b/\Q (.bl b) H
theorem aK:d9 X (.builtin "isinstance") rIs:=by
 intro d s σ H xs us Q I r h;obtain⟨x,c,b,rfl,e,q⟩:=h;cases r with
 | cons u A =>
  cases A with
  | cons l z =>
   cases z;unfold isV at e;split at e
   ·rename_i t G j a;split at e
    ·rename_i g;cases e;obtain⟨HH,Z,m,f⟩:=RL I u j;have fin:∀tk,EP X d σ Q (.bool (G.any (subT t))) {s with toks:=tk}:=λtk=>⟨.bl _,H,I.tok tk,rfl,q⟩
     cases c with
     | ty n =>
      cases l;cases a;have i:okT n=true:=by simpa using g
      refine PySem.W.kia_one Z I.kIn m (EQ j i) f ?_;intro tk;have:=fin tk
      simpa using this
     | ref p =>
      cases l;unfold clsV at a;dsimp only at a;split at a
      ·rename_i vs B;obtain⟨_,its,v,o,i,E,n,C⟩:=(show cB X.prog X.w H s.heap p (.tup vs)from I.hok p _ B)
       obtain⟨cl,L,K,J⟩:=o;cases E;cases C;have F:=uZ a v;subst F;exact PySem.W.kia_tup Z I.kIn m i (ER j g) f fin
      ·cases a
     | _=>cases a
    ·cases e
   ·cases e
noncomputable def seqV (H:Hp):V->Option (List V)
 | .ref p=>match H p with
  | some (.lst xs)=>some xs
  | some (.tup xs)=>some xs
  | _=>none
 | _=>none
theorem nJ:d9 X (.type "list") (λxs H Q=>∃x a,xs=[x]/\seqV H x=some a/\∀l,H l=none->Q (.ref l) (upd H l (.lst a))):=by
 refine yO.imp λxs H Q h=>?_;obtain⟨x,a,rfl,e,q⟩:=h;cases x with
 | ref p =>
  unfold seqV at e;dsimp only at e;split at e
  ·rename_i c b;cases e;exact⟨p,_,rfl,.inl (eK.of b),q⟩
  ·rename_i c b;cases e;exact⟨p,_,rfl,.inr (hZ.of b),q⟩
  ·cases e
 | _=>cases e
def rSlF:V->Option Int->Option Int->Hp->VK->Prop:=λx b c H Q=>∃a,x = .ref a /\
 ((∃xs,H a=some (.lst xs)/\∀p,H p=none->Q (.ref p) (upd H p (.lst (cutV xs b c)))) ∨
  (∃xs,H a=some (.tup xs)/\¬(HT.sIx xs.length 0 b=0/\HT.sIx xs.length xs.length c=xs.length)/\∀p,H p=none->Q (.ref p) (upd H p (.tup (cutV xs b c)))))
end
def nQ (J:It)(g:TG)(tb:TS)(D:iM)(σ:St)(e:Hp):Prop:=∃W:Nat->Nat->St->Hp->Prop,(∃m,W 0 m σ e)/\∀i m σ H,W i m σ H ->
 (J.stop i H/\D.nx σ H)∨(J.go i H/\∃N:St->Hp->Prop,(∀a H',N a H'->∃b,b<m/\W (i+1) b a H')/\∀x H',J.yld i H x H'->g x σ H' λc d=>tb {D with nx:=N,ct:=N,bk:=D.nx} c d)
theorem tFor_eq {a:TI}{g:TG}{tb:TS}{D:iM}{σ:St}{H:Hp}:tFor a g tb D σ H=a σ H λJ b=>nQ J g tb D σ b:=rfl
def rE (J:It)(g:TG)(b:TT)(c:TE)(Q:VK)(σ:St)(d:Hp):Prop:=∃W:CW,(∃m,W 0 m [] σ d)/\OQ J g b c (λa H=>∀p,H p=none->Q (.ref p) (upd H p (.lst a))) W
theorem tComp_eq {src:List (Option Nat)}{a:TI}{g:TG}{b:TT}{c:TE}{σ:St}{H:Hp}{Q:VK}:tComp src a g b c σ H Q=a σ H λJ d=>rE J g b c Q (stC src σ) d:=rfl
section
variable {X:Cx}{tg:Expr}
def iAny (K:PySem.W.Frag)(tl:TE):TI:=λσ H R=>tl σ H λx b=>∃a,x = .ref a/\((∃xs,b a=some (.lst xs)/\R (ON K a) b)∨(∃xs,b a=some (.tup xs)/\R (OM K a) b))
end
section
variable {g:TG}{tb:TS}{D:iM}{σ:St}{H:Hp}{tt:TT}{te:TE}{Q:VK}{K:PySem.W.Frag}
theorem nH {a:Int}{n:Nat}(Pv:Nat->St->Hp->Prop)(d:Pv 0 σ H)
  (c:∀i σ H,i<n->Pv i σ H->g (.int (a+i)) σ H λb e=>tb {D with nx:=Pv (i+1),ct:=Pv (i+1),bk:=D.nx} b e) (hd:∀σ H,Pv n σ H->D.nx σ H):nQ (LS a n) g tb D σ H:=GY Pv d c hd
theorem GZ {a:Addr}(xs:List V)(Pv:Nat->St->Hp->Prop)(f:Pv 0 σ H)(d:∀i σ H,i<=xs.length->Pv i σ H->H a=some (.lst xs))
  (c:∀i x σ H,xs[i]?=some x->Pv i σ H->g x σ H λb h=>tb {D with nx:=Pv (i+1),ct:=Pv (i+1),bk:=D.nx} b h) (hd:∀σ H,Pv xs.length σ H->D.nx σ H):nQ (ON K a) g tb D σ H :=
 KO Pv f (λi σ H e p=>eK.of (d i σ H e p)) c hd
theorem KP {a:Addr}(xs:List V)(Pv:Nat->St->Hp->Prop)(f:Pv 0 σ H)(d:∀i σ H,i<=xs.length->Pv i σ H->H a=some (.tup xs))
  (c:∀i x σ H,xs[i]?=some x->Pv i σ H->g x σ H λb h=>tb {D with nx:=Pv (i+1),ct:=Pv (i+1),bk:=D.nx} b h) (hd:∀σ H,Pv xs.length σ H->D.nx σ H):nQ (OM K a) g tb D σ H :=
 NK Pv f (λi σ H e p=>hZ.of (d i σ H e p)) c hd
def CStep (g:TG)(e:TT)(f:TE)(x:V)(a:List V)(σ:St)(H:Hp)(N:List V->St->Hp->Prop):Prop :=
 g x σ H λc i=>e c i λb d=>if b=true then f c d λy h=>a.length<sizeLine/\N (a++[y]) c h else N a c d
theorem oW {J:It}{n:Nat}(Pv:Nat->List V->St->Hp->Prop)(j:Pv 0 [] σ H)
  (h:∀i c σ H,i<n->Pv i c σ H->J.go i H/\∀x H',J.yld i H x H'->CStep g tt te x c σ H' (Pv (i+1)))
  (hd:∀c σ H,Pv n c σ H->J.stop n H/\∀p,H p=none->Q (.ref p) (upd H p (.lst c))):rE J g tt te Q σ H:=by
 refine⟨λi m c σ H=>m=n - i/\i<=n/\Pv i c σ H,⟨n,by simp,au _,j⟩,?_⟩;rintro i m c σ H ⟨rfl,l,p⟩;by_cases d:i<n
 ·obtain⟨go,step⟩:=h i c σ H d p;refine .inr ⟨go,λx H' y=>?_⟩;have e:∀c σ H,(∃f,f<n - i/\f=n - (i+1)/\i+1<=n/\Pv (i+1) c σ H)=Pv (i+1) c σ H:=λc σ H=>propext ⟨λ⟨_,_,_,_,q⟩=>q,λq=>⟨n - (i+1),by omega,rfl,d,q⟩⟩;simp only[e];exact step x H' y
 ·have e:i=n:=by omega
  subst e;obtain⟨a,b⟩:=hd c σ H p;exact .inl ⟨a,b⟩
theorem qK {b:Int}{n:Nat}(Pv:Nat->List V->St->Hp->Prop)(e:Pv 0 [] σ H)(d:∀i a σ H,i<n->Pv i a σ H->CStep g tt te (.int (b+i)) a σ H (Pv (i+1)))
  (hd:∀a σ H,Pv n a σ H->∀p,H p=none->Q (.ref p) (upd H p (.lst a))):rE (LS b n) g tt te Q σ H :=
 oW Pv e (λi a σ H c p=>⟨c,λx H' y=>by obtain⟨rfl,rfl⟩:=y;exact d i a σ _ c p⟩) λa σ H p=>⟨ac _,hd a σ H p⟩
theorem DH {a:Addr}(xs:List V)(Pv:Nat->List V->St->Hp->Prop)(f:Pv 0 [] σ H)(c:∀i b σ H,i<=xs.length->Pv i b σ H->H a=some (.lst xs))
  (e:∀i x b σ H,xs[i]?=some x->Pv i b σ H->CStep g tt te x b σ H (Pv (i+1))) (hd:∀b σ H,Pv xs.length b σ H->∀p,H p=none->Q (.ref p) (upd H p (.lst b))):rE (ON K a) g tt te Q σ H :=
 oW (n:=xs.length) Pv f (λi b σ H d p=>⟨⟨xs,xs[i],eK.of (c i b σ H (Nat.le_of_lt d) p),by simp[d]⟩,λx H' y=>by obtain⟨rfl,y⟩:=y;exact e i x b σ _ (y xs (eK.of (c i b σ _ (Nat.le_of_lt d) p))) p⟩)
  λb σ H p=>⟨⟨xs,eK.of (c _ b σ H (ac _) p),ac _⟩,hd b σ H p⟩
theorem G7 {a:Addr}(xs:List V)(Pv:Nat->List V->St->Hp->Prop)(f:Pv 0 [] σ H)(c:∀i b σ H,i<=xs.length->Pv i b σ H->H a=some (.tup xs))
  (e:∀i x b σ H,xs[i]?=some x->Pv i b σ H->CStep g tt te x b σ H (Pv (i+1))) (hd:∀b σ H,Pv xs.length b σ H->∀p,H p=none->Q (.ref p) (upd H p (.lst b))):rE (OM K a) g tt te Q σ H :=
 oW (n:=xs.length) Pv f (λi b σ H d p=>⟨⟨xs,xs[i],hZ.of (c i b σ H (Nat.le_of_lt d) p),by simp[d]⟩,λx H' y=>by obtain⟨rfl,y⟩:=y;exact e i x b σ _ (y xs (hZ.of (c i b σ _ (Nat.le_of_lt d) p))) p⟩)
  λb σ H p=>⟨⟨xs,hZ.of (c _ b σ H (ac _) p),ac _⟩,hd b σ H p⟩
theorem yC {n:Nat}{i:Int}(b:0<=i)(a:i<n):ixN n i=some i.toNat:=by unfold ixN;rw[ai b,ai a]
theorem tN {α:Type}{xs:List α}{i:Int}(b:0<=i)(a:i<xs.length):atI xs i=xs[i.toNat]?:=by unfold atI;rw[yC b a];rfl
theorem atI_zero {α:Type}{a:α}{xs:List α}:atI (a::xs) 0=some a:=by rw[tN (by decide) (by simp only[ao];omega)];rfl
theorem atI_one {α:Type}{a b:α}{xs:List α}:atI (a::b::xs) 1=some b:=by rw[tN (by decide) (by simp only[ao];omega)];rfl
theorem ixN_zero {n:Nat}:ixN (n+1) 0=some 0:=by rw[yC (by decide) (by omega)];rfl
theorem ixN_one {n:Nat}:ixN (n+1+1) 1=some 1:=by rw[yC (by decide) (by omega)];rfl
end
theorem aD.upd {H:Hp}{a:Addr}{o:HO}(h:H a=none):aD H (upd H a o):=λb u e=>by rw[aE (aH e h)];exact e
def dR (p:Addr)(H H':Hp):Prop:=∀b o,b≠p->H b=some o->H' b=some o
theorem dR.refl (p:Addr)(H:Hp):dR p H H:=λ_ _ _ h=>h
theorem dR.trans {p:Addr}{H e d:Hp}(a:dR p H e)(b:dR p e d):dR p H d:=λc o n h=>b c o n (a c o n h)
theorem dR.upd (p:Addr)(H:Hp)(o:HO):dR p H (upd H p o):=λc u n h=>by rw[aE n];exact h
theorem dR.new {p a:Addr}{H:Hp}{o:HO}(h:H a=none):dR p H (L2.upd H a o):=λc u n e=>by rw[aE (aH e h)];exact e
theorem aD.but {p:Addr}{H H':Hp}(s:aD H H'):dR p H H':=λb o _ h=>s b o h
end L2
namespace L2
open PySem PySem.Spec PyProof.Rows PyProof.Rows.LSm
section
variable {X:Cx}
theorem qM:∀{bs:List Bool} {us:cC},aX (bs.map V.bl) us->BoolsAre us bs
 | [],_,r=>by cases r;exact .nil
 | b::bs,_,r=>by
  cases r with
  | cons r1 a=>cases r1;exact .cons b (qM a)
theorem C5 {prog:Program}{w:World}{A:Around}{E:cL}{s:Shared}{p:Addr}{its:cC}{bs:List Bool}(d:Bool){K:Bool->Shared->Prop}{a:Nat->(Nat->Bool)->Bool}(m:A.handled=none)(at_:s.heap.IsList p its.toArray)(f:BoolsAre its bs)
  (k:∀h' tk,(∀b x,s.heap.get? b=some x->h'.get? b=some x)->K (a bs.length λi=>(bs[i]?).getD d) {s with heap:=h',toks:=tk}) :
  wpAny (model prog w) A (pyIter (.ref p)) (λit t=>∃I o h n P St tr,it = .ref I/\Walks prog w A I o h n P St/\St 0 t.heap/\TruthOf prog w A P tr /\
   ∀h' tk,(∀b x,b∉h->t.heap.get? b=some x->h'.get? b=some x)->K (a n tr) {t with heap:=h',toks:=tk}) E s:=by
 have ne:p≠s.heap.objs.size:=let⟨_,e,_⟩:=id at_;bj (az e);have c:TruthOf prog w A (λi v=>its.toArray[i]?=some v) λi=>(bs[i]?).getD d:=by intro i v t Q X j g;obtain⟨b,is,rfl⟩:=LSm.BoolsAre.get f i v (by simpa using j);have g:Q ((bs[i]?).getD d) t:=g;rw[is]at g;exact wpAny_truthy_bool g
 have len:its.toArray.size=bs.length:=(ag ..).trans (LSm.BoolsAre.length f);refine wpAny_pyIter_list at_ ⟨_,_,_,_,_,_,_,rfl,Walks.list m s.heap.objs.size p ne its.toArray,?_,c,λh' tk l=>?_⟩
 ·exact aI ⟨_,ar _ rfl,rfl,rfl⟩ (at_.push _)
 ·rw[len];exact k h' tk (LSm.kept_iter l)
def rAll:List V->Hp->VK->Prop:=λxs H Q=>∃(p:Addr) (bs:List Bool),xs=[.ref p]/\H p=some (.lst (bs.map V.bl))/\Q (.bl (bs.all id)) H
def rAny:List V->Hp->VK->Prop:=λxs H Q=>∃(p:Addr) (bs:List Bool),xs=[.ref p]/\H p=some (.lst (bs.map V.bl))/\Q (.bl (bs.any id)) H
def rSum:List V->Hp->VK->Prop:=λxs H Q=>∃(p:Addr) (ns:List Int),xs=[.ref p]/\H p=some (.lst (ns.map V.int))/\Q (.int ns.sum) H
theorem tM (m:X.calm=true){nm:String}{c:Nat->(Nat->Bool)->Bool}{a:List Bool->Bool}(d:Bool)(is:∀bs:List Bool,c bs.length (λi=>(bs[i]?).getD d)=a bs)
  (ask:∀{s:Shared} {x:Value} {Q E:cL},wpAny (model X.prog X.w) X.A.in1 (pyIter x) (λit t=>∃I o g n P St tr,it = .ref I/\Walks X.prog X.w X.A.in1 I o g n P St/\St 0 t.heap/\TruthOf X.prog X.w X.A.in1 P tr /\
   ∀h' tk,(∀b x,b∉g->t.heap.get? b=some x->h'.get? b=some x)->Q (.bool (c n tr)) {t with heap:=h',toks:=tk}) E s->wpAny (model X.prog X.w) X.A (call (.builtin nm) [x]) Q E s) :
  d9 X (.builtin nm) λxs H Q=>∃(p:Addr) (bs:List Bool),xs=[.ref p]/\H p=some (.lst (bs.map V.bl))/\Q (.bl (a bs)) H:=by
 rintro f s σ H _ us Q I r ⟨p,bs,rfl,j,q⟩;obtain⟨u,rfl,e⟩:=vals1 r;cases e;obtain⟨its,h,pl,_⟩:=I.list (eK.of j);refine ask (C5 (K:=λb t=>EP X f σ Q (.bool b) t) d (show X.A.in1.handled=none from I.ok.hd m) pl.isList (qM h) λh' tk l=>?_);rw[is bs];exact⟨.bl (a bs),H,I.kept (t':=tk) l,rfl,q⟩
theorem mQ (a:X.calm=true):d9 X (.builtin "all") rAll:=tM a true LSm.range_all call_all_walk
theorem HD (a:X.calm=true):d9 X (.builtin "any") rAny:=tM a false LSm.range_any call_any_walk
end
end L2
namespace L2
open PySem PySem.Spec PyProof.Rows
section
variable {X:Cx}{pins:c9}{σ:St}{H:Hp}{s:Shared}{h':Heap}
theorem aQ.turnedL {t':Nat}{ch:List Addr}(I:aQ X pins σ H s)(k:∀b o,b∉ch->s.heap.get? b=some o->h'.get? b=some o)(f:∀b∈ch,fH X pins H b):aQ X pins σ H {s with heap:=h',toks:=t'}:=by
 have d:∀b u,H b=some u->b∉ch:=λb u e z=>by rw[(f b z).1]at e;cases e
 have i:X.env.locals∉ch:=λz=>(f _ z).2.1 rfl;refine I.step (g':=s.gens) (d':=s.drawn) (ch:=ch) (λb h=>?_) (λb o _ _ a e _=>k b o a e) (λb o _ _ a e _=>⟨o.slots,k b o a e⟩) (λ_ _ _ _ n=>n)
  (λb o a e=>⟨o,k b o a e⟩) (λ_ _ e=>e) (λ_ _ _ e=>e) (λb ps e=>⟨#[],by rw[e];simp⟩) (λm g=>?_) (λb u e=>?_) I.bare
 ·obtain⟨f0,f1,f2,f3,f4,j⟩:=f b h;exact⟨f3,f1,f4,j⟩
 ·obtain⟨o,es,l,ho,r⟩:=g;exact⟨o,es,l,k _ o i ho,r⟩
 ·refine(I.hok b u e).stay (λc v a q=>k c v ?_ q) (λ_ q=>q) λ_ _ q=>q;rcases a with z|z
  ·rw[z];exact d b u e
  ·exact d c _ z
theorem aQ.turnedLaid {t':Nat}{ch:List Addr}{T:Addr}{o:HO}(I:aQ X pins σ H s)(k:∀b o,b∉ch->s.heap.get? b=some o->h'.get? b=some o)(h:∀b∈ch,fH X pins H b)
  (i:s.heap.objs.size<=T) (new:cB X.prog X.w (upd H T o) h' T o):aQ X pins σ (upd H T o) {s with heap:=h',toks:=t'}:=by
 have f:H T=none:=I.hok.fresh i;have d:∀b u,H b=some u->b∉ch:=λb u e z=>by rw[(h b z).1]at e;cases e
 have l:X.env.locals∉ch:=λz=>(h _ z).2.1 rfl;have lt:∀b ob,s.heap.get? b=some ob->b≠T:=λb ob e=>bj (bc (az e) i);refine I.step (g':=s.gens) (d':=s.drawn) (ch:=ch) (λb g=>?_) (λb o _ _ a e _=>k b o a e) (λb o _ _ a e _=>⟨o.slots,k b o a e⟩) (λb ob _ e n=>by rw[aE (lt b ob e)];exact n)
  (λb o a e=>⟨o,k b o a e⟩) (λb xs e=>by rw[aE (aH e f)];exact e) (λb _ _ e=>by rw[aE (aH e f)];exact e) (λb ps e=>⟨#[],by rw[aE (aH e f),e];simp⟩) (λm j=>?_) (λb u e=>?_) I.bare
 ·obtain⟨f0,f1,f2,f3,f4,x⟩:=h b g;exact⟨f3,f1,f4,x⟩
 ·obtain⟨o,es,A,ho,r⟩:=j;exact⟨o,es,A,k _ o l ho,r⟩
 ·by_cases g:b=T
  ·subst g;rw[upd_same]at e;cases e;exact new
  ·rw[aE g]at e;refine(I.hok b u e).stay (λc v a q=>k c v ?_ q) (λc q=>by rw[aE (aH q f)];exact q) λc xs q=>by rw[aE (aH q f)];exact q
   rcases a with z|z
   ·rw[z];exact d b u e
   ·exact d c _ z
end
noncomputable def TX (K:PySem.W.Frag)(a b:Addr):It :=
 ⟨λi H=>∃xs c x y,eK K H a xs/\eK K H b c/\xs[i]?=some x/\c[i]?=some y,
  λi H z H'=>∃T x y,z = .ref T/\H T=none/\H'=upd H T (.tup [x,y])/\∀xs c,eK K H a xs->eK K H b c->xs[i]?=some x/\c[i]?=some y,
  λi H=>∃xs c,eK K H a xs/\eK K H b c/\(xs.length<=i∨c.length<=i)⟩
structure ZipAt (z TI TO i1 i2:Addr):Prop where
 TIz:TI≠z
 TOz:TO≠z
 i1z:i1≠z
 i2z:i2≠z
 TITO:TI≠TO
 TIi1:TI≠i1
 TIi2:TI≠i2
 TOi1:TO≠i1
 TOi2:TO≠i2
 i12:i1≠i2
section
variable {X:Cx}{elts:jW}{tk0:_}{tpos:Pos}
def iZip (K:PySem.W.Frag)(e:TA):TI:=λσ H R=>e σ H λvs c=>∃a b,vs=[.ref a,.ref b]/\(∃xs,eK K c a xs)/\(∃d,eK K c b d)/\R (TX K a b) c
end
def Q7 (J:It)(g:TG)(f:TT)(h:TE)(Fin:List V->St->Hp->Prop)(W:CW):Prop:=∀i m a σ H,W i m a σ H ->
 (J.stop i H/\Fin a σ H) ∨
 (J.go i H/\∀x H',J.yld i H x H'->g x σ H' λd l=>f d l λb e =>
  if b=true then h d e λy j=>a.length<sizeLine/\∃c,c<m/\W (i+1) c (a++[y]) d j else ∃c,c<m/\W (i+1) c a d e)
def T0 (J:It)(g:TG)(b:TT)(c:TE)(Fin:List V->St->Hp->Prop)(a:List V)(σ:St)(H:Hp):Prop:=∃W:CW,(∃m,W 0 m a σ H)/\Q7 J g b c Fin W
def LQ (J:It)(l:TG)(c:TI)(j:TG)(g:TT)(h:TE)(Q:VK)(σ:St)(u:Hp):Prop:=∃W:CW,(∃m,W 0 m [] σ u)/\∀i m a σ H,W i m a σ H ->
 (J.stop i H/\∀p,H p=none->Q (.ref p) (upd H p (.lst a))) ∨
 (J.go i H/\∀x H',J.yld i H x H'->l x σ H' λd s=>c d s λo r=>T0 o j g h (λb f q=>∃e,e<m/\W (i+1) e b f q) a d r)
def O4 (src:List (Option Nat))(b:TI)(f:TG)(a:TI)(e:TG)(c:TT)(d:TE):TE:=λσ H Q=>b σ H λJ g=>LQ J f a e c d Q (stC src σ) g
end L2
namespace L2
open PySem PySem.Spec PyProof.Rows
open PySem.AutoSeq1 (wpAny_loadPart')
open PySem.MeetsSeq PySem.MeetsSeq2 PySem.MeetsSeq3
def DR (items:gN)(i:Nat)(ns:List Int):Prop:=i<=items.size/\IntsAre (items.toList.drop i) ns
theorem DR.end_ {items:gN}{i:Nat}(h:DR items i []):items.size=i/\items[i]?=none:=by obtain⟨b,a⟩:=h;have e:=a.length;rw[bu,bn,List.length_nil]at e;exact⟨by omega,Array.getElem?_eq_none (by omega)⟩
theorem DR.next {items:gN}{i:Nat}{a:Int}{ns:List Int}(h:DR items i (a::ns)):i<items.size/\(∃t,items[i]?=some (.int a t))/\DR items (i+1) ns:=by
 obtain⟨f,b⟩:=h;generalize e:items.toList.drop i=us at b;cases b with
 | cons _ t r =>
  have lt:i<items.toList.length:=by have z:=congrArg List.length e;rw[bu,ao]at z;omega
  rw[List.drop_eq_getElem_cons lt]at e;injection e with d c;rw[bn]at lt;refine⟨lt,⟨t,?_⟩,lt,c ▸ r⟩;rw[Array.getElem?_eq_getElem lt,←d];rfl
abbrev yX (l b:Addr)(ol ob:Obj)(xs ys:List Int):PySem.Spec:=λ_ R s=>s.heap.get? l=some ol/\s.heap.get? b=some ob/\R (.ok (.ret (.bool (HT.lexLt xs ys)))) s
noncomputable abbrev ltAsk (l b:Addr)(i:Nat):Args:=⟨[.ref l,.ref b,rawInt i,rawInt 0],[]⟩
theorem AE {l b:Addr}{c ob:Obj}{xs a:List Int}{i:Nat}{prog:Program}{w:World}{A:Around}{R:Result->Shared->Prop}{s:Shared}(m:Meets (Builtin.«list.__eq__.loop» (ltAsk l b i)) (yX l b c ob xs a))(h:yX l b c ob xs a A R s) :
  (Code.builtin "list.__eq__.loop" (ltAsk l b i)).quiet=true/\codeAny (model prog w) A (.builtin "list.__eq__.loop" (ltAsk l b i)) R s:=by
 refine⟨plainId_quiet plain_eq_loop (ltAsk l b i),codeAny_builtin entry_eq_loop ?_⟩;have u:=A.under_plainId plain_eq_loop (ltAsk l b i);rw[u];exact m prog w A R s h
theorem EH (l b:Addr)(us vs:gN)(n k:Nat)(G F:Option Addr)(E C:Array (Option Value)):∀(xs m:List Int) (i:Nat),DR us i xs->DR vs i m ->
  Meets (Builtin.«list.__eq__.loop» (ltAsk l b i)) (yX l b {cls:=.type "list",dict:=G,data:=.seq us n,slots:=E} {cls:=.type "list",dict:=F,data:=.seq vs k,slots:=C} xs m)
 | [],m,i,f,g=>by
  rintro prog w A R ⟨u,v,d,tk,os⟩ ⟨a,c,h⟩;obtain⟨z,B⟩:=f.end_;have j:HT.lexLt [] m=decide (us.size<vs.size):=by
   cases m with
   | nil=>exact(bh (by rw[z,(g.end_).1];exact bI _)).symm
   | cons y r=>exact(bf (by rw[z];exact(g.next).1)).symm
  rw[j]at h
  wp_walk using bd a,bd c
  rw[show((i:Nat):Int).toNat=i from rfl,B];cases vs[i]? <;> wp_walk using bd a,bd c <;> exact h
 | x::xs,[],i,f,g=>by
  rintro prog w A R ⟨u,v,d,tk,os⟩ ⟨a,c,h⟩;obtain⟨z,B⟩:=g.end_;obtain⟨lt,⟨t,is⟩,_⟩:=f.next
  have j:HT.lexLt (x::xs) []=decide (us.size<vs.size):=(bh (by omega)).symm;rw[j]at h
  wp_walk using bd a,bd c
  rw[show((i:Nat):Int).toNat=i from rfl,B,is]
  wp_walk using bd a,bd c
  exact h
 | x::xs,y::m,i,f,g=>by
  have go:=EH l b us vs n k G F E C xs m (i+1) (f.next).2.2 (g.next).2.2;rintro prog w A R ⟨u,v,d,tk,os⟩ ⟨a,c,h⟩;obtain⟨_,⟨t,q⟩,_⟩:=f.next
  obtain⟨_,⟨t',isV⟩,_⟩:=g.next
  wp_walk using bd a,bd c
  rw[show((i:Nat):Int).toNat=i from rfl,q,isV];obtain⟨e,asked,iff⟩:=HT.eqAt_int A.in1 ⟨u,v,d,tk,os⟩ x t y t';refine aa (asked prog w _ _ ?_);by_cases s:x=y
  ·rw[HT.lexLt_cons,ai s]at h;rw[iff.mpr s]
   wp_walk
   exact AE go ⟨a,c,h⟩
  ·rw[HT.lexLt_cons,ab s]at h;have H:e=false:=by cases e with|false=>rfl|true=>exact absurd (iff.mp rfl) s
   subst H;have o:=HT.rcLt_int A.in1 ⟨u,v,d,tk,os⟩ x t y t' prog w
   wp_walk using bd a,bd c
   rw[q,isV]
   wp_walk using o
   exact h
theorem xY (l b:Addr)(us vs:gN)(n k:Nat)(j i:Option Addr)(g f:Array (Option Value))(xs e:List Int)(o:IntsAre us.toList xs)(m:IntsAre vs.toList e) :
  Meets (Builtin.«list.__lt__» ⟨[.ref l,.ref b],[]⟩) (yX l b {cls:=.type "list",dict:=j,data:=.seq us n,slots:=g} {cls:=.type "list",dict:=i,data:=.seq vs k,slots:=f} xs e):=by
 have go:=EH l b us vs n k j i g f xs e 0 ⟨au _,o⟩ ⟨au _,m⟩;rintro prog w A R ⟨q,r,d,tk,os⟩ ⟨a,c,h⟩;have kind:=AutoSeq1.sub_list_list
 wp_walk using bd a,bd c
 exact AE go ⟨a,c,h⟩
section
variable {prog:Program}{w:World}{A:Around}{E:cL}{s:Shared}
theorem AD {l b:Addr}{items a:gN}{ns c:List Int}{Q:cL}(u:s.heap.IsList l items)(B:s.heap.IsList b a)(z:IntsAre items.toList ns)(v:IntsAre a.toList c)
  (r:A.units<cLine) (h:Q (.bool (HT.lexLt ns c)) s):wpAny (model prog w) A (compareOp .Lt (.ref l) (.ref b)) Q E s:=by
 obtain⟨⟨cls,C,data,q⟩,ho,m,n,hd⟩:=id u;obtain⟨⟨o,i,j,g⟩,d,f,n2,e⟩:=id B;simp only at m hd f e;subst m hd f e;exact richCompare_meets_room (op:=.Lt) ⟨_,ho,rfl⟩ ⟨_,d,rfl⟩ PySem.F.slot_list_lt PySem.F.entry_list_lt (PySem.F.args_list_lt_2 _ _) (xY l b items a n n2 C i q g ns c z v)
  ⟨ho,d,show Value.bool (HT.lexLt ns c)≠Value.notImplemented/\Q (.bool (HT.lexLt ns c)) s from⟨(λx=>nomatch x),h⟩⟩ r
end
section
variable {X:Cx}
def rLtL:R2:=λx y H Q=>∃a b ns c,x = .ref a/\y = .ref b/\H a=some (.lst (ns.map V.int))/\H b=some (.lst (c.map V.int))/\Q (.bl (HT.lexLt ns c)) H
theorem PV (o:X.A.units<cLine):iP X (compareOp .Lt) rLtL:=by intro c s σ H x y v u Q I f e h;obtain⟨a,b,ns,d,rfl,rfl,w,r,q⟩:=h;cases f;cases e;obtain⟨its,r1,j,_⟩:=I.list (eK.of w);obtain⟨its2,g,i,_⟩:=I.list (eK.of r);have m:IntsAre its.toArray.toList ns:=tB r1;have l:IntsAre its2.toArray.toList d:=tB g;exact AD j.isList i.isList m l o ⟨.bl (HT.lexLt ns d),H,I,rfl,q⟩
end
end L2
namespace L2
open PySem PySem.Spec PyProof.Rows
section
variable {X:Cx}{pos:Pos}
theorem MD {i j:Nat}{x y:Str}{e d:Pos}{k:_}(h:X.calm=true)(c:X.N.Nodup)(g:X.N[i]?=some x)(f:X.N[j]?=some y)(b:X.env.scope.names.lookup x=some .local)(a:X.env.scope.names.lookup y=some .local) :
  PG X (.Tuple [.Name x e,.Name y d] k pos) (gTup X.K 2 (gCons (gName i) (gCons (gName j) gNil))) :=
 CA h (dX (aZ c g (.inl b) (.inr b)) (dX (aZ c f (.inl a) (.inr a)) oK))
end
section
variable {g g1 g2:TG}{tb:TS}{D:iM}{σ:St}{H:Hp}{tt:TT}{te:TE}{Q:VK}{K:PySem.W.Frag}{wi2:TI}{acc:List V}{Fin:List V->St->Hp->Prop}
theorem tComp2_eq {src:List (Option Nat)}{a:TI}{σ:St}{H:Hp}{Q:VK}:O4 src a g1 wi2 g2 tt te σ H Q=a σ H λJ b=>LQ J g1 wi2 g2 tt te Q (stC src σ) b:=rfl
end
section
variable {X:Cx}
theorem lL (a:X.A.units+64<cLine):iP X (compareOp .Lt) (λx y H Q=>(rI0 (λi j=>.bl (decide (i<j))) x y H Q∨(∃i j,x = .str i/\y = .str j/\Q (.bl (decide (i.cps.toList<j.cps.toList))) H))∨rLtL x y H Q) :=
 (RJ.or GD).or (PV (by omega))
end
section
variable {H:Hp}{a p:Addr}{xs:List V}{Q:VK}{K:PySem.W.Frag}
theorem rIs_eq {x c:V}:rIs [x,c] H Q = ∃b,isV H x c=some b/\Q (.bl b) H:=propext ⟨λ⟨a,d,b,e,h,q⟩=>by cases e;exact⟨b,h,q⟩,λ⟨b,h,q⟩=>⟨x,c,b,rfl,h,q⟩⟩
theorem truV_bl {b k:Bool}:LD K (.bl b) H k=(k=b):=rfl
theorem isV_ii {n:Int}:isV H (.int n) (.ty "int")=some true:=rfl
theorem isV_ib {n:Int}:isV H (.int n) (.ty "bool")=some false:=rfl
theorem isV_bb {n:Bool}:isV H (.bl n) (.ty "bool")=some true:=rfl
theorem isV_ll (h:H a=some (.lst xs)):isV H (.ref a) (.ty "list")=some true:=by unfold isV tyN;simp only[h];rfl
theorem C7 (h:H a=some (.lst xs))(b:H p=some (.tup [.ty "list",.ty "tuple"])):isV H (.ref a) (.ref p)=some true:=by unfold isV tyN clsV;simp only[h,b];rfl
theorem C6 (h:H a=some (.tup xs))(b:H p=some (.tup [.ty "list",.ty "tuple"])):isV H (.ref a) (.ref p)=some true:=by unfold isV tyN clsV;simp only[h,b];rfl
theorem lenV_l (h:H a=some (.lst xs)):lenV H (.ref a)=some xs.length:=by unfold lenV;simp only[h]
theorem lenV_t (h:H a=some (.tup xs)):lenV H (.ref a)=some xs.length:=by unfold lenV;simp only[h]
theorem seqV_l (h:H a=some (.lst xs)):seqV H (.ref a)=some xs:=by unfold seqV;simp only[h]
theorem seqV_t (h:H a=some (.tup xs)):seqV H (.ref a)=some xs:=by unfold seqV;simp only[h]
theorem ixV_l {i:Int}(h:H a=some (.lst xs)):ixV H (.ref a) (.int i)=atI xs i:=by unfold ixV;simp only[h]
theorem ixV_t {i:Int}(h:H a=some (.tup xs)):ixV H (.ref a) (.int i)=atI xs i:=by unfold ixV;simp only[h]
end
section
def cV (H:Hp)(a:Addr)(xs:List V):Prop:=H a=some (.lst xs)∨H a=some (.tup xs)
theorem cV.same {H H':Hp}{a:Addr}{xs:List V}(h:cV H a xs)(s:aD H H'):cV H' a xs:=h.elim (λe=>.inl (s _ _ e)) λe=>.inr (s _ _ e)
variable {g:TG}{tt:TT}{te:TE}{Q:VK}{K:PySem.W.Frag}{σ:St}{H:Hp}
variable {tb:TS}{D:iM}
end
section
variable {X:Cx}{pos:Pos}{tg:Expr}
theorem eF (K:PySem.W.Frag)(l:X.K=K){i j:Nat}{x y:Str}{b a:Pos}{k:_}(g:X.calm=true)(h:X.N.Nodup)(f:X.N[i]?=some x)(e:X.N[j]?=some y)(d:X.env.scope.names.lookup x=some .local)(c:X.env.scope.names.lookup y=some .local) :
  PG X (.Tuple [.Name x b,.Name y a] k pos) (gTup K 2 (gCons (gName i) (gCons (gName j) gNil))):=by subst l;exact MD g h f e d c
def tTruth (K:PySem.W.Frag)(b:TE):TT:=λσ H Q=>b σ H λx a=>∃k,LD K x a k/\Q k a
theorem aO (K:PySem.W.Frag)(f:X.K=K){a:Expr}{c:TE}(e:PE X a c)(d:∀b,isTrue a X.env b=(do let v ←b;standAt a.pos;holding [v] (truthy v))):PT X a (tTruth K c):=by subst f;exact IW e d
end
def LO (K:PySem.W.Frag)(a:Addr)(xs:List V)(J:It)(H:Hp):Prop:=(J=ON K a/\H a=some (.lst xs))∨(J=OM K a/\H a=some (.tup xs))
def iSq (K:PySem.W.Frag)(tl:TE):TI:=λσ H R=>tl σ H λx b=>∃a xs,x = .ref a/\cV b a xs/\∀J,LO K a xs J b->R J b
section
variable {X:Cx}{tg:Expr}
theorem cP (K:PySem.W.Frag)(z:X.K=K){l:Expr}{tl:TE}(w:PE X l tl):PI X tg l (iSq K tl):=by
 subst z;intro f s σ H R I h;refine thn (w f s σ H _ I h) λv c ⟨x,j,d,r1,r⟩=>?_;obtain⟨a,xs,e,u,q⟩:=r;subst e;cases r1;rcases u with g|g
 ·obtain⟨its,m,p,hz⟩:=d.list (eK.of g);refine wpAny_pyIter_list p.isList ?_;refine⟨c.heap.objs.size,[c.heap.objs.size],_,_,j,rfl,d.kept (t':=c.toks) λb o e=>af _ e,FP a _,⟨_,ar _ rfl,rfl,rfl⟩,λb i=>?_,q _ (.inl ⟨rfl,g⟩)⟩;have e:b=c.heap.objs.size:=by simpa using i
  subst e;exact d.fpOk (ac _) (d.hok.fresh (ac _))
 ·obtain⟨its,m,p,hz⟩:=d.tuple (hZ.of g);refine wpAny_pyIter_tuple (show c.heap.IsTuple a its.toArray from p) ?_;refine⟨c.heap.objs.size,[c.heap.objs.size],_,_,j,rfl,d.kept (t':=c.toks) λb o e=>af _ e,BT a _,⟨_,ar _ rfl,rfl,rfl⟩,λb i=>?_,q _ (.inr ⟨rfl,g⟩)⟩;have e:b=c.heap.objs.size:=by simpa using i
  subst e;exact d.fpOk (ac _) (d.hok.fresh (ac _))
end
section
variable {g g1 g2:TG}{tb:TS}{D:iM}{σ:St}{H:Hp}{tt:TT}{te:TE}{Q:VK}{K:PySem.W.Frag}{wi2:TI}{J:It}{a:Addr}{xs:List V}
theorem eW (j:LO K a xs J H)(Pv:Nat->St->Hp->Prop)(f:Pv 0 σ H)(d:∀i σ H',i<=xs.length->Pv i σ H'->H' a=H a)
  (c:∀i x σ H,xs[i]?=some x->Pv i σ H->g x σ H λh l=>tb {D with nx:=Pv (i+1),ct:=Pv (i+1),bk:=D.nx} h l) (hd:∀σ H,Pv xs.length σ H->D.nx σ H):nQ J g tb D σ H:=by
 rcases j with⟨rfl,e⟩|⟨rfl,e⟩
 ·exact GZ xs Pv f (λi σ H' b p=>(d i σ H' b p).trans e) c hd
 ·exact KP xs Pv f (λi σ H' b p=>(d i σ H' b p).trans e) c hd
theorem dF (j:LO K a xs J H)(Pv:Nat->List V->St->Hp->Prop)(h:Pv 0 [] σ H)(f:∀i b σ H',i<=xs.length->Pv i b σ H'->H' a=H a)
  (d:∀i x b σ H,xs[i]?=some x->Pv i b σ H->CStep g tt te x b σ H (Pv (i+1))) (hd:∀b σ H,Pv xs.length b σ H->∀p,H p=none->Q (.ref p) (upd H p (.lst b))):rE J g tt te Q σ H:=by
 rcases j with⟨rfl,e⟩|⟨rfl,e⟩
 ·exact DH xs Pv h (λi b σ H' c p=>(f i b σ H' c p).trans e) d hd
 ·exact G7 xs Pv h (λi b σ H' c p=>(f i b σ H' c p).trans e) d hd
end
def rSlU:V->Option Int->Option Int->Hp->VK->Prop:=λx b c H Q=>∃a xs,x = .ref a/\cV H a xs/\((∃d,H a=some (.tup d))->¬(HT.sIx xs.length 0 b=0/\HT.sIx xs.length xs.length c=xs.length)) /\
 ∀p o,H p=none->(o = .lst (cutV xs b c)/\H a=some (.lst xs)∨o = .tup (cutV xs b c)/\H a=some (.tup xs))->Q (.ref p) (upd H p o)
theorem gT {X:Cx}:RT X rSlU:=by
 intro b s σ H x v f e l o g Q I i m pl j h;obtain⟨a,xs,rfl,c|c,r,q⟩:=h
 ·exact D1 b s σ H _ v f e l o g Q I i m pl j ⟨a,xs,rfl,eK.of c,λp d=>q p _ d (.inl ⟨rfl,c⟩)⟩
 ·exact O9 b s σ H _ v f e l o g Q I i m pl j ⟨a,xs,rfl,hZ.of c,r ⟨_,c⟩,λp d=>q p _ d (.inr ⟨rfl,c⟩)⟩
section
variable {H:Hp}{Q:VK}
theorem rEqD_ii {i j:Int}:rEqD (.int i) (.int j) H Q=Q (.bl (decide (i=j))) H:=by
 have e:eqD (.int i) (.int j)=decide (i=j):=by show(i == j)=_;rw[bS];simp
 refine propext ⟨λ⟨d,c,b,a,_,q⟩=>?_,λq=>⟨.int i,.int j,rfl,rfl,au _,by rw[e];exact q⟩⟩;have g:d = .int i:=aT.inj b (show aT H (.int i) (.int i)from rfl);have f:c = .int j:=aT.inj a (show aT H (.int j) (.int j)from rfl);rw[g,f,e]at q;exact q
theorem rNeD_ii {i j:Int}:rNeD (.int i) (.int j) H Q=Q (.bl (!decide (i=j))) H:=by
 have e:eqD (.int i) (.int j)=decide (i=j):=by show(i == j)=_;rw[bS];simp
 refine propext ⟨λ⟨d,c,b,a,_,q⟩=>?_,λq=>⟨.int i,.int j,rfl,rfl,au _,by rw[e];exact q⟩⟩;have g:d = .int i:=aT.inj b (show aT H (.int i) (.int i)from rfl);have f:c = .int j:=aT.inj a (show aT H (.int j) (.int j)from rfl);rw[g,f,e]at q;exact q
theorem rEqD_ss {i j:Str}:rEqD (.str i) (.str j) H Q=Q (.bl (decide (i=j))) H:=by
 have e:eqD (.str i) (.str j)=decide (i=j):=by show(i == j)=_;rw[bS];simp
 refine propext ⟨λ⟨d,c,b,a,_,q⟩=>?_,λq=>⟨.str i,.str j,rfl,rfl,au _,by rw[e];exact q⟩⟩;have g:d = .str i:=aT.inj b (show aT H (.str i) (.str i)from rfl);have f:c = .str j:=aT.inj a (show aT H (.str j) (.str j)from rfl);rw[g,f,e]at q;exact q
theorem rNeD_ss {i j:Str}:rNeD (.str i) (.str j) H Q=Q (.bl (!decide (i=j))) H:=by
 have e:eqD (.str i) (.str j)=decide (i=j):=by show(i == j)=_;rw[bS];simp
 refine propext ⟨λ⟨d,c,b,a,_,q⟩=>?_,λq=>⟨.str i,.str j,rfl,rfl,au _,by rw[e];exact q⟩⟩;have g:d = .str i:=aT.inj b (show aT H (.str i) (.str i)from rfl);have f:c = .str j:=aT.inj a (show aT H (.str j) (.str j)from rfl);rw[g,f,e]at q;exact q
theorem oX {a b:Addr}{xs c:List V}(e:H a=some (.lst xs))(d:H b=some (.lst c))(hz:xs.length+c.length<=sizeLine):catO H (.ref a) (.ref b)=some (.lst (xs++c)):=by unfold catO;simp only[e,d];rw[ai hz]
theorem catO_i {i:Int}{y:V}:catO H (.int i) y=none:=by cases y <;> rfl
theorem catO_s {i:Str}{y:V}:catO H (.str i) y=none:=by cases y <;> rfl
end
def rTupU:List V->Hp->VK->Prop:=λxs H Q=>∃p a,xs=[.ref p]/\cV H p a/\∀l H',(H p=some (.tup a)/\l=p/\H'=H∨H p=some (.lst a)/\H l=none/\H'=upd H l (.tup a))->Q (.ref l) H'
theorem fX {X:Cx}:d9 X (.type "tuple") rTupU:=by
 refine uR.imp λxs H Q h=>?_;obtain⟨p,b,rfl,a|a,q⟩:=h
 ·exact⟨p,b,rfl,.inl ⟨eK.of a,λl c=>q l _ (.inr ⟨a,c,rfl⟩)⟩⟩
 ·exact⟨p,b,rfl,.inr ⟨hZ.of a,q p _ (.inl ⟨a,rfl,rfl⟩)⟩⟩
section
variable {X:Cx}{x:Str}{C:Addr}{np cpos pos:Pos}{e:Expr}{ta:TA}{E:XK}
def tRaise (C:Addr)(E:XK)(a:TA):TS:=λ_ σ H=>a σ H λvs b=>vs.length<=1000/\E (.ref C) none b
end
section
variable {X:Cx}{x:Str}{C:Addr}{np hp pos:Pos}{EX:XK}{b0:Stmt}{suite body:List Stmt}{tb th:TS}
def tTry (tb:TS)(EX:XK)(b:TS):TS:=λD σ H=>tb D σ H/\∀cls d a H',EX cls d H'->b D a H'
end
noncomputable def TY (K:PySem.W.Frag)(a:Addr):It :=
 ⟨λi H=>∃xs x,eK K H a xs/\xs[i]?=some x,λi H z H'=>∃T x,z = .ref T/\H T=none/\H'=upd H T (.tup [.int i,x])/\∀xs,eK K H a xs->xs[i]?=some x,λi H=>∃xs,eK K H a xs/\xs.length<=i⟩
def iEnum (K:PySem.W.Frag)(c:TA):TI:=λσ H R=>c σ H λvs b=>∃a,vs=[.ref a]/\(∃xs,eK K b a xs)/\R (TY K a) b
def jR (h:Heap)(i a:Addr)(k:Nat):Prop:=h.IsListIter i a k∨h.IsTupleIter i a k
def qA (h:Heap)(a:Addr)(xs:gN):Prop:=∃o n,h.get? a=some o/\o.data = .seq xs n
theorem jR.at {h h':Heap}{i a:Addr}{k:Nat}(x:jR h i a k)(e:∀o,h.get? i=some o->h'.get? i=some o):jR h' i a k:=x.elim (λy=>.inl (y.at e)) λy=>.inr (y.at e)
theorem qA.at {h h':Heap}{a:Addr}{xs:gN}(x:qA h a xs)(e:∀o,h.get? a=some o->h'.get? a=some o):qA h' a xs:=by obtain⟨o,n,ho,hd⟩:=x;exact⟨o,n,e o ho,hd⟩
theorem jR.obj {h:Heap}{i a:Addr}{k:Nat}(x:jR h i a k):∃o,h.get? i=some o/\o.data = .fields #[.ref a,.int k 0]:=by
 rcases x with⟨o,e,_,d⟩|⟨o,e,_,d⟩
 ·exact⟨o,e,d⟩
 ·exact⟨o,e,d⟩
section
variable {prog:Program}{w:World}{A:Around}{E:cL}{s:Shared}{it l:Addr}{i:Nat}{items:gN}
theorem mK {T id:String}{b:Builtin}{Q:cL}(kind:s.TypeIs (.ref it) T)(slot:Slot T "__next__" id)(a:entryFor table id=some b)(args:argsOk id ⟨[.ref it],[]⟩)
  (h:wpAny (model prog w) A.in1 (b ⟨[.ref it],[]⟩) (λf t=>∃v,f = .done (.ret v)/\Q v t) E s):wpAny (model prog w) A (Builtin.SmallTypes.nextOf (.ref it)) Q E s:=by
 have asked:wpAny (model prog w) A (callSpecial? (.ref it) "__next__") (λr t=>∃v,r=some v/\Q v t) E s :=
  wpAny_callSpecial?_slot kind slot (wpAny_call_entry slot kind a (thn h λf t ⟨v,e,q⟩=>⟨v,e,v,rfl,q⟩) args)
 refine aa (thn asked ?_);rintro _ t ⟨v,rfl,q⟩;exact ak q
structure lU (prog:Program)(w:World)(A:Around)(E:cL)(s:Shared)(it l:Addr)(i:Nat)(items:gN):Prop where
 seq:∀(Q:cL),Q (.ref l) s->wpAny (model prog w) A (field (.ref it) 0) Q E s
 place:∀(Q:cL),Q (.int i 0) s->wpAny (model prog w) A (field (.ref it) 1) Q E s
 items:∀(Q:Option (gN)->Shared->Prop),Q (some items) s->wpAny (model prog w) A (seqItems? (.ref l)) Q E s
 set:∀(k:Nat) (v:Value) (Q:Unit->Shared->Prop),k<2->Q () {s with heap:=s.heap.update it (Obj.mapFields (·.setIfInBounds k v))}->wpAny (model prog w) A (setField (.ref it) k v) Q E s
theorem lU.of {o:Obj}(ho:s.heap.get? it=some o)(hd:o.data = .fields #[.ref l,.int i 0])(c:qA s.heap l items):lU prog w A E s it l i items:=by obtain⟨e,f,a,b⟩:=c;exact⟨λ_ h=>wpAny_field ho hd rfl h,λ_ h=>wpAny_field ho hd rfl h,λ_ h=>wpAny_seqItems a b h,λk v _ d h=>wpAny_setField ho hd d h⟩
abbrev AO (b:Builtin):Prop:=b=Builtin.«list_iterator.__next__»∨b=Builtin.«tuple_iterator.__next__»
theorem qD {b:Builtin}{x:Value}{Q:cL}(g:AO b)(R:lU prog w A E s it l i items)(e:items[i]?=some x)
  (j:Q x {s with heap:=s.heap.update it (Obj.mapFields (·.setIfInBounds 1 (rawInt (i+1))))}):wpAny (model prog w) A (b ⟨[.ref it],[]⟩) (λf t=>∃v,f = .done (.ret v)/\Q v t) E s:=by
 have d:=R.seq;have r1:=R.place;have c:=R.items;have a:=λQ h=>R.set 1 (rawInt (i+1)) Q (by decide) h;rcases g with rfl|rfl
 all_goals
  wp_walk using d,r1,c,a
  rw[cj,e]
  wp_walk using d,r1,c,a
  exact⟨x,rfl,j⟩
theorem sF {b:Builtin}{Q:PySem.Fin->Shared->Prop}(g:A.handled=none)(j:AO b)(R:lU prog w A E s it l i items)(f:items[i]?=none)
  (m:∀h' e,Heap.ExtBut it s.heap h'->(∃o,h'.get? e=some o/\o.cls = .type "StopIteration")->E (.ref e) {s with heap:=h'}):wpAny (model prog w) A (b ⟨[.ref it],[]⟩) Q E s:=by
 have d:=R.seq;have r1:=R.place;have c:=R.items;have a:=λQ h=>R.set 0 .none Q (by decide) h;rcases j with rfl|rfl
 all_goals
  wp_walk using d,r1,c,a
  rw[cj,f]
  wp_walk using d,r1,c,a
  exact wpAny_raiseNew_none g (m _ _ (((Heap.SameBut.update ..).extBut.push _).push _) ⟨_,ar _ rfl,rfl⟩)
theorem M8 {x:Value}{Q:cL}(b:jR s.heap it l i)(g:qA s.heap l items)(f:items[i]?=some x)(h:∀h',jR h' it l (i+1)->Heap.SameBut it s.heap h'->Q x {s with heap:=h'}):wpAny (model prog w) A (Builtin.SmallTypes.nextOf (.ref it)) Q E s:=by
 obtain⟨o,ho,hd⟩:=b.obj;have new:(s.heap.update it (Obj.mapFields (·.setIfInBounds 1 (rawInt (i+1))))).get? it=some (o.mapFields (·.setIfInBounds 1 (rawInt (i+1)))):=Heap.get?_update_self _ ho (Obj.isFreed_of_fields (Obj.data_mapFields hd _));have data:(o.mapFields (·.setIfInBounds 1 (rawInt (i+1)))).data = .fields #[.ref l,.int (i+1:Nat) 0]:=by rw[Obj.data_mapFields hd];simp[rawInt]
 have cls:(o.mapFields (·.setIfInBounds 1 (rawInt (i+1)))).cls=o.cls:=Obj.cls_mapFields ..;have same:Heap.SameBut it s.heap (s.heap.update it (Obj.mapFields (·.setIfInBounds 1 (rawInt (i+1))))):=Heap.SameBut.update ..;rcases b with e|d
 ·obtain⟨j,a,c,_⟩:=id e;rw[ho]at a;cases a;exact mK e.typeIs slot_listiter_next entry_listiter_next (args_listiter_next _) (qD (.inl rfl) (lU.of ho hd g) f (h _ (.inl ⟨_,new,cls.trans c,data⟩) same))
 ·obtain⟨j,a,c,_⟩:=id d;rw[ho]at a;cases a;exact mK d.typeIs PySem.F.slot_tuple_iterator_next PySem.F.entry_tuple_iterator_next (PySem.F.args_tuple_iterator_next_1 _) (qD (.inr rfl) (lU.of ho hd g) f (h _ (.inr ⟨_,new,cls.trans c,data⟩) same))
theorem P7 {Q:cL}(j:A.handled=none)(a:jR s.heap it l i)(d:qA s.heap l items)(c:items[i]?=none)
  (f:∀h' e,Heap.ExtBut it s.heap h'->(∃o,h'.get? e=some o/\o.cls = .type "StopIteration")->E (.ref e) {s with heap:=h'}):wpAny (model prog w) A (Builtin.SmallTypes.nextOf (.ref it)) Q E s:=by
 obtain⟨o,ho,hd⟩:=a.obj;have b:A.in1.handled=none:=j;rcases a with h|g
 ·exact mK h.typeIs slot_listiter_next entry_listiter_next (args_listiter_next _) (sF b (.inl rfl) (lU.of ho hd d) c f)
 ·exact mK g.typeIs PySem.F.slot_tuple_iterator_next PySem.F.entry_tuple_iterator_next (PySem.F.args_tuple_iterator_next_1 _) (sF b (.inr rfl) (lU.of ho hd d) c f)
end
structure QU (z TI TO i1 i2 l1 l2:Addr):Prop extends ZipAt z TI TO i1 i2 where
 n1:l1∉[z,TO,i1,i2]
 n2:l2∉[z,TO,i1,i2]
structure ZS (h0:Heap)(z TI TO i1 i2 l1 l2:Addr)(xs ys:gN)(h:Heap)(f a b:Value)(k1 k2:Nat):Prop where
 ap:QU z TI TO i1 i2 l1 l2
 zip:IsZip h z TI TO f
 tin:IsPair h TI (.ref i1) (.ref i2)
 tout:IsPair h TO a b
 one:jR h i1 l1 k1
 two:jR h i2 l2 k2
 src1:qA h l1 xs
 src2:qA h l2 ys
 far:∀c o,c∉[z,TO,i1,i2]->h0.get? c=some o->h.get? c=some o
section
variable {prog:Program}{w:World}{A:Around}{E:cL}{s:Shared}{z TI TO i1 i2 l1 l2:Addr}{k1 k2:Nat}{xs ys:gN}{f a b:Value}{h0 h h':Heap}
theorem off4 {c:Addr}(a:c∉[z,TO,i1,i2]):c≠z/\c≠TO/\c≠i1/\c≠i2:=by simpa using a
theorem ZS.self (Z:ZS h0 z TI TO i1 i2 l1 l2 xs ys h f a b k1 k2)(e:Heap.ExtBut z h h'){f':Value}(hz:IsZip h' z TI TO f'):ZS h0 z TI TO i1 i2 l1 l2 xs ys h' f' a b k1 k2 :=
 ⟨Z.ap,hz,e _ _ Z.ap.TIz Z.tin,e _ _ Z.ap.TOz Z.tout,Z.one.at λo=>e _ o Z.ap.i1z,Z.two.at λo=>e _ o Z.ap.i2z,Z.src1.at λo=>e _ o (off4 Z.ap.n1).1,Z.src2.at λo=>e _ o (off4 Z.ap.n2).1,λc o d q=>e c o (off4 d).1 (Z.far c o d q)⟩
theorem ZS.out (Z:ZS h0 z TI TO i1 i2 l1 l2 xs ys h f a b k1 k2)(e:Heap.ExtBut TO h h'){i g:Value}(j:IsPair h' TO i g):ZS h0 z TI TO i1 i2 l1 l2 xs ys h' f i g k1 k2 :=
 ⟨Z.ap,e _ _ Z.ap.TOz.symm Z.zip,e _ _ Z.ap.TITO Z.tin,j,Z.one.at λo=>e _ o Z.ap.TOi1.symm,Z.two.at λo=>e _ o Z.ap.TOi2.symm,Z.src1.at λo=>e _ o (off4 Z.ap.n1).2.1,Z.src2.at λo=>e _ o (off4 Z.ap.n2).2.1,λc o d q=>e c o (off4 d).2.1 (Z.far c o d q)⟩
theorem ZS.on1 (Z:ZS h0 z TI TO i1 i2 l1 l2 xs ys h f a b k1 k2)(e:Heap.ExtBut i1 h h'){k:Nat}(g:jR h' i1 l1 k):ZS h0 z TI TO i1 i2 l1 l2 xs ys h' f a b k k2 :=
 ⟨Z.ap,e _ _ Z.ap.i1z.symm Z.zip,e _ _ Z.ap.TIi1 Z.tin,e _ _ Z.ap.TOi1 Z.tout,g,Z.two.at λo=>e _ o Z.ap.i12.symm,Z.src1.at λo=>e _ o (off4 Z.ap.n1).2.2.1,Z.src2.at λo=>e _ o (off4 Z.ap.n2).2.2.1,λc o d q=>e c o (off4 d).2.2.1 (Z.far c o d q)⟩
theorem ZS.on2 (Z:ZS h0 z TI TO i1 i2 l1 l2 xs ys h f a b k1 k2)(e:Heap.ExtBut i2 h h'){k:Nat}(g:jR h' i2 l2 k):ZS h0 z TI TO i1 i2 l1 l2 xs ys h' f a b k1 k :=
 ⟨Z.ap,e _ _ Z.ap.i2z.symm Z.zip,e _ _ Z.ap.TIi2 Z.tin,e _ _ Z.ap.TOi2 Z.tout,Z.one.at λo=>e _ o Z.ap.i12,g,Z.src1.at λo=>e _ o (off4 Z.ap.n1).2.2.2,Z.src2.at λo=>e _ o (off4 Z.ap.n2).2.2.2,λc o d q=>e c o (off4 d).2.2.2 (Z.far c o d q)⟩
theorem ZS.push (Z:ZS h0 z TI TO i1 i2 l1 l2 xs ys h f a b k1 k2)(o:Obj):ZS h0 z TI TO i1 i2 l1 l2 xs ys (h.push o) f a b k1 k2:=by have e:∀c x,h.get? c=some x->(h.push o).get? c=some x:=λc x q=>af o q;exact⟨Z.ap,e _ _ Z.zip,e _ _ Z.tin,e _ _ Z.tout,Z.one.at (e _),Z.two.at (e _),Z.src1.at (e _),Z.src2.at (e _),λc x d q=>e c x (Z.far c x d q)⟩
structure ZF (prog:Program)(w:World)(A:Around)(E:cL)(s:Shared)(z TI TO i1 i2:Addr)(f a b:Value):Prop where
 f0:∀(Q:cL),Q f s->wpAny (model prog w) A (field (.ref z) 0) Q E s
 f2:∀(Q:cL),Q (.bool false) s->wpAny (model prog w) A (field (.ref z) 2) Q E s
 f3:∀(Q:cL),Q (.ref TI) s->wpAny (model prog w) A (field (.ref z) 3) Q E s
 f4:∀(Q:cL),Q (.ref TO) s->wpAny (model prog w) A (field (.ref z) 4) Q E s
 ins:∀(Q:Option (gN)->Shared->Prop),Q (some #[.ref i1,.ref i2]) s->wpAny (model prog w) A (seqItems? (.ref TI)) Q E s
 outs:∀(Q:Option (gN)->Shared->Prop),Q (some #[a,b]) s->wpAny (model prog w) A (seqItems? (.ref TO)) Q E s
 set:∀(v:Value) (Q:Unit->Shared->Prop),(∀h',IsZip h' z TI TO v->Heap.SameBut z s.heap h'->Q () {s with heap:=h'})->wpAny (model prog w) A (setField (.ref z) 0 v) Q E s
 put:∀(k:Nat) (v:Value) (Q:Unit->Shared->Prop),(∀h',IsPair h' TO (if k=0 then v else a) (if k=1 then v else b)->Heap.SameBut TO s.heap h'->Q () {s with heap:=h'})->k<2->wpAny (model prog w) A (updateSeq TO (·.setIfInBounds k v)) Q E s
theorem ZS.asked (Z:ZS h0 z TI TO i1 i2 l1 l2 xs ys s.heap f a b k1 k2):ZF prog w A E s z TI TO i1 i2 f a b:=by
 refine⟨λ_ q=>wpAny_field Z.zip rfl rfl q,λ_ q=>wpAny_field Z.zip rfl rfl q,λ_ q=>wpAny_field Z.zip rfl rfl q,λ_ q=>wpAny_field Z.zip rfl rfl q,λ_ q=>wpAny_seqItems Z.tin rfl q,λ_ q=>wpAny_seqItems Z.tout rfl q,λv _ q=>?_,λk v _ q d=>?_⟩
 ·exact wpAny_setField_rec Z.zip (by simp) λh' e c=>q h' e c
 ·refine wpAny_updateSeq_pair Z.tout λh' e c=>q h' ?_ c
  match k,d with
  | 0,_=>exact e
  | 1,_=>exact e
abbrev RP (h0:Heap)(z TI TO i1 i2 l1 l2:Addr)(xs ys:gN)(a b:Value)(k1 k2:Nat)(h:Heap):List (Value×Nat)->Prop
 | []=>∃x y,xs[k1]?=some x/\ys[k2]?=some y/\ZS h0 z TI TO i1 i2 l1 l2 xs ys h .ellipsis x y (k1+1) (k2+1)
 | [p]=>p=(.ref i2,1)/\∃x,xs[k1]?=some x/\ZS h0 z TI TO i1 i2 l1 l2 xs ys h .ellipsis x b (k1+1) k2
 | [p,q]=>p=(.ref i1,0)/\q=(.ref i2,1)/\ZS h0 z TI TO i1 i2 l1 l2 xs ys h .ellipsis a b k1 k2
 | _=>False
abbrev yZ (h:Heap)(e:Addr):Prop:=∃o,h.get? e=some o/\o.cls = .type "StopIteration"
theorem uV {a:Sem (Option Value)}{i l:Addr}{k:Nat}{items:gN}{Q:Option Value->Shared->Prop}(hd:a=(Builtin.SmallTypes.nextOf (.ref i) >>= λv=>pure (some v)))(g:A.handled=none)(it:jR s.heap i l k)(src:qA s.heap l items)(hz:IsZip s.heap z TI TO .ellipsis)(f:i≠z)
  (item:∀v h',items[k]?=some v->jR h' i l (k+1)->Heap.SameBut i s.heap h'->Q (some v) {s with heap:=h'})
  (stop:items[k]?=none->∀h' b e,Heap.ExtBut i s.heap h'->Heap.SameBut z h' b->yZ b e->E (.ref e) {s with heap:=b}) :
  wpAny (model prog w) A (a.onRaise λ_=>setField (.ref z) 0 .none) Q E s:=by
 subst hd;refine wpAny_onRaise (aa ?_);cases e:items[k]? with
 | some v=>exact M8 it src e λh' j h=>ak (item v h' e j h)
 | none =>
  refine P7 g it src e λh' x ext ⟨o,ho,d⟩=>?_;have zip:=ext z _ f.symm hz;have ne:x≠z:=λq=>by rw[q,zip]at ho;cases ho;exact absurd (show Value.type "zip" = .type "StopIteration" from d) (by decide)
  exact wpAny_setField_rec zip (by simp) λb _ c=>stop e h' b x ext c ⟨o,c.extBut x o ne ho,d⟩
theorem FL {Q:cL}(Y:A.handled=none)(Z:ZS s.heap z TI TO i1 i2 l1 l2 xs ys s.heap .none a b k1 k2)
  (item:∀x y h',xs[k1]?=some x->ys[k2]?=some y->ZS s.heap z TI TO i1 i2 l1 l2 xs ys h' (rawInt s.heap.objs.size) x y (k1+1) (k2+1)->IsPair h' s.heap.objs.size x y->h'.objs.size=s.heap.objs.size+1->Q (.ref s.heap.objs.size) {s with heap:=h'})
  (stop:(xs[k1]?=none∨ys[k2]?=none)->∀h' e,(∀c o,c∉[z,TO,i1,i2]->s.heap.get? c=some o->h'.get? c=some o)->yZ h' e->E (.ref e) {s with heap:=h'}) :
  wpAny (model prog w) A (Builtin.«zip.__next__» ⟨[.ref z],[]⟩) (λf t=>∃v,f = .done (.ret v)/\Q v t) E s:=by
 have F:=Z.asked (prog:=prog) (w:=w) (A:=A) (E:=E);have g0:=F.f0;have g2:=F.f2;have g3:=F.f3;have g4:=F.f4;have gi:=F.ins;have gs:=F.set .ellipsis;obtain⟨h,g,d,tk,os⟩:=s;dsimp only at Z item stop
 wp_walk using g0,g2,g3,g4,gi,gs
 intro h1 R K;have Z1:=Z.self K.extBut R;have H:h1.objs.size=h.objs.size:=K.1;clear F g0 g2 g3 g4 gi gs
 wp_walk using wpAny_forIn_list _ (λrest r t=>r=((none:Option PySem.Fin),())/\∃h',t=⟨h',g,d,tk,os⟩/\h'.objs.size=h.objs.size/\RP h z TI TO i1 i2 l1 l2 xs ys a b k1 k2 h' rest) _
 case turn =>
  rintro p rest r t ⟨rfl,L,rfl,j,zr⟩
  match rest,zr with
  | [],⟨e,x,S,l⟩ =>
   subst e;refine aa (uV rfl Y l.two l.src2 l.zip l.ap.i2z (λv W T P m=>?_) λO W C e ext i st=>?_)
   ·have u:=l.on2 m.extBut P;refine aa (wpAny_seqItems u.tout rfl (aa (wpAny_updateSeq_pair u.tout λC N i=>aa (wpAny_letGo (ak ?_)))));exact⟨rfl,C,rfl,by rw[i.1,m.1];exact j,x,v,S,T,u.out i.extBut N⟩
   ·exact stop (.inr O) C e (λc o J q=>i.extBut c o (off4 J).1 (ext c o (off4 J).2.2.2 (l.far c o J q))) st
  | [q],⟨e1,e2,l⟩ =>
   subst e1 e2;refine aa (uV rfl Y l.one l.src1 l.zip l.ap.i1z (λv W T P m=>?_) λO W C e ext i st=>?_)
   ·have u:=l.on1 m.extBut P;refine aa (wpAny_seqItems u.tout rfl (aa (wpAny_updateSeq_pair u.tout λC N i=>aa (wpAny_letGo (ak ?_)))));exact⟨rfl,C,rfl,by rw[i.1,m.1];exact j,rfl,v,T,u.out i.extBut N⟩
   ·exact stop (.inl O) C e (λc o J q=>i.extBut c o (off4 J).1 (ext c o (off4 J).2.2.1 (l.far c o J q))) st
  | _::_::_,zr=>exact zr.elim
 case fin =>
  rintro r t ⟨rfl,L,rfl,j,x,y,S,hy,l⟩;refine aa (wpAny_seqItems l.tout rfl (aa (wpAny_newTuple ?_)));have u:=l.push {cls:=.type "tuple",data:=.seq #[x,y]};refine aa (aa (wpAny_setField_rec u.zip (by simp) λC X i=>wpAny_setField_rec X (by simp) λU z5 I=>ak ⟨_,rfl,?_⟩));have G:U.objs.size=h.objs.size+1:=by rw[I.1,i.1,Heap.size_push,j]
  have new:z≠L.objs.size:=bj (az l.zip);have B:IsPair U L.objs.size x y:=I.extBut _ _ new.symm (i.extBut _ _ new.symm (ar _ rfl));have Z5:=(u.self i.extBut (f':=rawInt L.objs.size) X).self I.extBut (f':=rawInt L.objs.size) z5;rw[j]at B Z5⊢;exact item x y U S hy Z5 B G
 case h=>exact⟨rfl,h1,rfl,H,rfl,rfl,Z1⟩
theorem F2 {it:Addr}{T id:String}{b:Builtin}{Q:Option Value->Shared->Prop}(kind:s.TypeIs (.ref it) T)(slot:Slot T "__next__" id)(a:entryFor table id=some b)(args:argsOk id ⟨[.ref it],[]⟩)
  (h:wpAny (model prog w) A.in1 (b ⟨[.ref it],[]⟩) (λf t=>∃v,f = .done (.ret v)/\Q (some v) t) (λx t=>∃e,x = .ref e/\yZ t.heap e/\Q none t) s):wpAny (model prog w) A (pyNext (.ref it)) Q E s:=by
 have asked:wpAny (model prog w) A (callSpecial? (.ref it) "__next__") (λr t=>∃v,r=some v/\Q (some v) t) (λx t=>∃e,x = .ref e/\yZ t.heap e/\Q none t) s :=
  wpAny_callSpecial?_slot kind slot (wpAny_call_entry slot kind a (thn h λf t ⟨v,e,q⟩=>⟨v,e,v,rfl,q⟩) args)
 refine aa (wpAny_attempt (wpAny_mono asked ?_ ?_))
 ·rintro _ t ⟨v,rfl,q⟩;exact ak q
 ·rintro _ t ⟨e,rfl,⟨o,ho,c⟩,q⟩;exact aa (wpAny_isInstance ⟨o,ho,c⟩ isSubtype_stop (ak q))
theorem vH {Q:Option Value->Shared->Prop}(f:A.handled=none)(Z:ZS s.heap z TI TO i1 i2 l1 l2 xs ys s.heap .none a b k1 k2)
  (item:∀x y h',xs[k1]?=some x->ys[k2]?=some y->ZS s.heap z TI TO i1 i2 l1 l2 xs ys h' (rawInt s.heap.objs.size) x y (k1+1) (k2+1)->IsPair h' s.heap.objs.size x y->h'.objs.size=s.heap.objs.size+1->Q (some (.ref s.heap.objs.size)) {s with heap:=h'})
  (stop:(xs[k1]?=none∨ys[k2]?=none)->∀h',(∀c o,c∉[z,TO,i1,i2]->s.heap.get? c=some o->h'.get? c=some o)->Q none {s with heap:=h'}):wpAny (model prog w) A (pyNext (.ref z)) Q E s :=
 F2 (b:=Builtin.«zip.__next__») ⟨_,Z.zip,rfl⟩ PySem.F.slot_zip_next PySem.F.entry_zip_next (PySem.F.args_zip_next_1 _) (FL (Q:=λv t=>Q (some v) t) f Z item λd h' e far st=>⟨e,rfl,st,stop d h' far⟩)
end
def LF (h:Heap)(l:Addr)(nm:String):Prop:=(∃xs,h.IsList l xs/\nm="list_iterator")∨(∃xs,h.IsTuple l xs/\nm="tuple_iterator")
theorem LF.push {h:Heap}{l:Addr}{nm:String}{o:Obj}(x:LF h l nm):LF (h.push o) l nm:=by
 rcases x with⟨xs,y,e⟩|⟨xs,y,e⟩
 ·exact .inl ⟨xs,y.push _,e⟩
 ·exact .inr ⟨xs,y.push _,e⟩
theorem KL {prog:Program}{w:World}{A:Around}{E:cL}{s:Shared}{l:Addr}{nm:String}{Q:cL}(x:LF s.heap l nm)
  (h:Q (.ref s.heap.objs.size) {s with heap:=s.heap.push {cls:=.type nm,data:=.fields #[.ref l,.int 0 0]} }):wpAny (model prog w) A (pyIter (.ref l)) Q E s:=by
 rcases x with⟨xs,y,rfl⟩|⟨xs,y,rfl⟩
 ·exact wpAny_pyIter_list y h
 ·exact wpAny_pyIter_tuple y h
theorem G8 {prog:Program}{w:World}{A:Around}{E:cL}{s:Shared}{u G:Addr}{n1 n2:String}{Q:cL}(W:LF s.heap u n1)(U:LF s.heap G n2)
  (k:∀h' z TI TO f b,ZipAt z TI TO f b->(∀c∈[z,TI,TO,f,b],s.heap.objs.size<=c)->IsZip h' z TI TO .none->IsPair h' TI (.ref f) (.ref b)->IsPair h' TO .none .none->jR h' f u 0->jR h' b G 0->(∀c o,s.heap.get? c=some o->h'.get? c=some o)->Q (.ref z) {s with heap:=h'}):wpAny (model prog w) A (call (.type "zip") [.ref u,.ref G]) Q E s:=by
 have made:Meets (Builtin.«zip.__new__» ⟨[.type "zip",.ref u,.ref G],[]⟩) (λ_ R t=>LF t.heap u n1/\LF t.heap G n2/\∀f b TI TO z B x v m,f=t.heap.objs.size->B=t.heap.push {cls:=.type n1,data:=.fields #[.ref u,.int 0 0]} ->
   b=B.objs.size->x=B.push {cls:=.type n2,data:=.fields #[.ref G,.int 0 0]}->TI=x.objs.size->v=x.push {cls:=.type "tuple",data:=.seq #[.ref f,.ref b]}->TO=v.objs.size->m=v.push {cls:=.type "tuple",data:=.seq #[.none,.none]}->z=m.objs.size ->
   R (.ok (.ret (.ref z))) {t with heap:=m.push {cls:=.type "zip",data:=.fields #[.none,.bool false,.bool false,.ref TI,.ref TO]} }):=by
  refine .of_wp λprog w A R t ⟨b1,b2,q⟩=>?_;have K:=sub_zip;obtain⟨h,g,d,tk,os⟩:=t;have r1:=λ(Q:cL) q=>KL (prog:=prog) (w:=w) (A:=A.in1) (E:=λe J=>R (.error e) J) (Q:=Q) b1 q;have Z:=λ(Q:cL) q=>KL (prog:=prog) (w:=w) (A:=A.in1) (E:=λe J=>R (.error e) J) (Q:=Q) (s:=⟨h.push {cls:=.type n1,data:=.fields #[.ref u,.int 0 0]},g,d,tk,os⟩) (LF.push b2) q
  wp_walk using r1,Z
  exact⟨_,rfl,q _ _ _ _ _ _ _ _ _ rfl rfl rfl rfl rfl rfl rfl rfl rfl⟩
 refine callType_new PySem.F.called_zip (by decide) (PySem.F.typeCall_zip_2 _ _) (PySem.F.newCall_zip_2 _ _) (λobj=>PySem.F.args_object_init_3 obj _ _) PySem.F.entry_zip_new made ⟨W,U,?_⟩;intro f b TI TO z B x v m e1 P e2 O e3 N e4 L e5;have Y:B.objs.size=s.heap.objs.size+1:=by rw[P,Heap.size_push]
 have s2:x.objs.size=s.heap.objs.size+2:=by rw[O,Heap.size_push,Y]
 have X:v.objs.size=s.heap.objs.size+3:=by rw[N,Heap.size_push,s2]
 have s4:m.objs.size=s.heap.objs.size+4:=by rw[L,Heap.size_push,X]
 have I:∀c o,s.heap.get? c=some o->B.get? c=some o:=λc o q=>by rw[P];exact af _ q
 have H:∀c o,B.get? c=some o->x.get? c=some o:=λc o q=>by rw[O];exact af _ q
 have C:∀c o,x.get? c=some o->v.get? c=some o:=λc o q=>by rw[N];exact af _ q
 have r:∀c o,v.get? c=some o->m.get? c=some o:=λc o q=>by rw[L];exact af _ q
 have p1:B.get? f=some {cls:=.type n1,data:=.fields #[.ref u,.int 0 0]}:=by rw[e1,P];exact ar _ rfl
 have p2:x.get? b=some {cls:=.type n2,data:=.fields #[.ref G,.int 0 0]}:=by rw[e2,O];exact ar _ rfl
 have p3:v.get? TI=some {cls:=.type "tuple",data:=.seq #[.ref f,.ref b]}:=by rw[e3,N];exact ar _ rfl
 have p4:m.get? TO=some {cls:=.type "tuple",data:=.seq #[.none,.none]}:=by rw[e4,L];exact ar _ rfl
 have j:∀c o,m.get? c=some o->(m.push {cls:=.type "zip",data:=.fields #[.none,.bool false,.bool false,.ref TI,.ref TO]}).get? c=some o:=λc o q=>af _ q;have S:IsZip (m.push {cls:=.type "zip",data:=.fields #[.none,.bool false,.bool false,.ref TI,.ref TO]}) z TI TO .none:=by rw[e5];exact ar _ rfl
 have sq:∀{l i:Addr} {nm:String} {h:Heap},LF s.heap l nm->h.get? i=some {cls:=.type nm,data:=.fields #[.ref l,.int 0 0]}->jR h i l 0:=λa e=>by
  rcases a with⟨_,_,rfl⟩|⟨_,_,rfl⟩
  ·exact .inl ⟨_,e,rfl,rfl⟩
  ·exact .inr ⟨_,e,rfl,rfl⟩
 have D:ZipAt z TI TO f b:=by constructor <;> (intro q;have q:(_:Nat)=_:=q;omega)
 refine⟨⟨_,S,rfl⟩,k _ z TI TO f b D (λc T=>?_) S (j _ _ (r _ _ p3)) (j _ _ p4) (sq W (j _ _ (r _ _ (C _ _ (H _ _ p1))))) (sq U (j _ _ (r _ _ (C _ _ p2)))) λc o q=>j _ _ (r _ _ (C _ _ (H _ _ (I _ _ q))))⟩;simp only[cp,List.not_mem_nil,or_false]at T;rcases T with q|q|q|q|q <;> (rw[q];show(_:Nat)<=_;omega)
noncomputable def Q2 (a b:Addr):It :=
 ⟨λi H=>∃xs c x y,cV H a xs/\cV H b c/\xs[i]?=some x/\c[i]?=some y,
  λi H z H'=>∃T x y,z = .ref T/\H T=none/\H'=upd H T (.tup [x,y])/\∀xs c,cV H a xs->cV H b c->xs[i]?=some x/\c[i]?=some y,
  λi H=>∃xs c,cV H a xs/\cV H b c/\(xs.length<=i∨c.length<=i)⟩
theorem cV.inj {H:Hp}{a:Addr}{xs b:List V}(h:cV H a xs)(k:cV H a b):xs=b:=by rcases h with h|h <;> rcases k with k|k <;> rw[h]at k <;> cases k <;> rfl
theorem aQ.sq {X:Cx}{b:c9}{σ:St}{H:Hp}{s:Shared}{a:Addr}{xs:List V}(I:aQ X b σ H s)(h:cV H a xs):∃its:cC,aX xs its/\qA s.heap a its.toArray/\∃nm,LF s.heap a nm:=by
 rcases h with h|h
 ·obtain⟨its,f,p,_⟩:=I.list (eK.of h);obtain⟨o,e,c,n,d⟩:=p.isList;exact⟨its,f,⟨o,n,e,d⟩,_,.inl ⟨_,p.isList,rfl⟩⟩
 ·obtain⟨its,f,p,_⟩:=I.tuple (hZ.of h);have p':s.heap.IsTuple a its.toArray:=p;obtain⟨o,e,c,n,d⟩:=id p';exact⟨its,f,⟨o,n,e,d⟩,_,.inr ⟨_,p',rfl⟩⟩
theorem cV.some {H:Hp}{a:Addr}{xs:List V}(h:cV H a xs):∃o,H a=some o:=h.elim (λe=>⟨_,e⟩) λe=>⟨_,e⟩
theorem N9 {X:Cx}{d:c9}{σ:St}{H:Hp}{s:Shared}{a b z TI TO g f:Addr}{i:Nat}{xs l:List V}(I:aQ X d σ H s)(J:∀c∈[z,TI,TO,g,f],fH X d H c)(D:ZipAt z TI TO g f)
  (st:IsZip s.heap z TI TO .none/\IsPair s.heap TI (.ref g) (.ref f)/\(∃u v,IsPair s.heap TO u v)/\jR s.heap g a i/\jR s.heap f b i) (j:cV H a xs) (h:cV H b l) :
  ∃its:cC,aX xs its/\qA s.heap a its.toArray/\(∃its2:cC,aX l its2/\qA s.heap b its2.toArray)/\∀its2:cC,(aX l its2/\qA s.heap b its2.toArray)->∃u v,ZS s.heap z TI TO g f a b its.toArray its2.toArray s.heap .none u v i i:=by
 obtain⟨its,E,p,_⟩:=I.sq j;obtain⟨its2,m,G,_⟩:=I.sq h;obtain⟨hz,x,⟨u,v,w⟩,L,K⟩:=st;have off:∀{c:Addr} {A:List V},cV H c A->c∉[z,TO,g,f]:=λ{c A} q C=>by obtain⟨o,e⟩:=q.some;rw[(J c (by simp at C⊢;rcases C with r|r|r|r <;> simp[r])).1]at e;cases e
 exact⟨its,E,p,⟨its2,m,G⟩,λB F=>⟨u,v,{toZipAt:=D,n1:=off j,n2:=off h},hz,x,w,L,K,p,F.2,λ_ _ _ e=>e⟩⟩
theorem FO {P:Program}{w:World}{K:PySem.W.Frag}{U:jW}{tk0}{O:Pos}(a b z TI TO A m:Addr)(D:ZipAt z TI TO A m) :
  oY P w K (.Tuple U tk0 O) (Q2 a b) [z,TI,TO,A,m] z (λi h=>IsZip h z TI TO .none/\IsPair h TI (.ref A) (.ref m)/\(∃u v,IsPair h TO u v)/\jR h A a i/\jR h m b i) where
 mem:=by simp
 obj:=λi h st c d=>by
  obtain⟨hz,G,⟨u,v,F⟩,h1,J⟩:=st;obtain⟨o1,e1,d1⟩:=h1.obj;obtain⟨o2,e2,d2⟩:=J.obj;simp only[cp,List.not_mem_nil,or_false]at d;rcases d with rfl|rfl|rfl|rfl|rfl
  ·exact⟨_,hz,λv z=>by cases z⟩
  ·exact⟨_,G,λv z=>by cases z⟩
  ·exact⟨_,F,λv z=>by cases z⟩
  ·exact⟨_,e1,λv z=>by rw[d1]at z;cases z⟩
  ·exact⟨_,e2,λv z=>by rw[d2]at z;cases z⟩
 keep:=λi h h' st k=>by obtain⟨hz,G,⟨u,v,F⟩,h1,J⟩:=st;exact⟨k z (by simp) _ hz,k TI (by simp) _ G,⟨u,v,k TO (by simp) _ F⟩,h1.at λo e=>k A (by simp) o e,J.at λo e=>k m (by simp) o e⟩
 item:=by
  rintro X hP hw hK d i l s σ H E I L st ⟨xs,ys,x,y,j,g,hx,hy⟩;subst hP hw hK;obtain⟨its,Y,p,p',Z⟩:=N9 I L D st j g;obtain⟨its2,f⟩:=p';obtain⟨u0,v0,Z⟩:=Z its2 f;refine vH (I.ok.hd d) Z (λu v h' T S Z' pr size=>?_) λno=>?_
  ·obtain⟨u',C,ru⟩:=Y.get hx;obtain⟨v',B,rw'⟩:=f.1.get hy;rw[show its.toArray[i]?=its[i]? from by simp]at T;rw[show its2.toArray[i]?=its2[i]? from by simp]at S;rw[C]at T;rw[B]at S;cases T;cases S;refine⟨_,rfl,wpAny_letOwnedTupleGo_zip (s:={s with heap:=h'}) Z'.zip λJ hz2 Q=>?_⟩;have N:=Z'.self Q.extBut hz2;have new:z≠s.heap.objs.size:=bj (az Z.zip);have pr2:IsPair J s.heap.objs.size u v:=Q.extBut _ _ new.symm pr;have far:∀c o,c∉[z,TI,TO,A,m]->s.heap.get? c=some o->J.get? c=some o:=λc o d e=>N.far c o (λq=>d (by simp at q⊢;rcases q with r|r|r|r <;> simp[r])) e;have I2:aQ X l σ (upd H s.heap.objs.size (.tup [x,y])) {s with heap:=J}:=I.turnedLaid (t':=s.toks) (ch:=[z,TI,TO,A,m]) far L (ac _) ⟨by show 2<=sizeLine;decide,[u,v],.cons ru (.cons rw' .nil),⟨_,pr2,rfl,_,rfl⟩⟩;refine⟨.ref s.heap.objs.size,_,I2,rfl,⟨s.heap.objs.size,x,y,rfl,I.hok.fresh (ac _),rfl,λxs' ys' q1 q2=>?_⟩,⟨N.zip,N.tin,⟨u,v,N.tout⟩,N.one,N.two⟩,λc d=>?_⟩
   ·rw[q1.inj j,q2.inj g];exact⟨hx,hy⟩
   ·have R:∃o,s.heap.get? c=some o:=by
     simp only[cp,List.not_mem_nil,or_false]at d;rcases d with rfl|rfl|rfl|rfl|rfl
     ·exact⟨_,Z.zip⟩
     ·exact⟨_,Z.tin⟩
     ·exact⟨_,Z.tout⟩
     ·obtain⟨o,e,_⟩:=Z.one.obj;exact⟨o,e⟩
     ·obtain⟨o,e,_⟩:=Z.two.obj;exact⟨o,e⟩
    obtain⟨o,e⟩:=R;rw[aE (bj (az e))];exact(L c d).1
  ·obtain⟨u',C,_⟩:=Y.get hx;obtain⟨v',B,_⟩:=f.1.get hy;rcases no with q|q
   ·rw[show its.toArray[i]?=its[i]? from by simp,C]at q;cases q
   ·rw[show its2.toArray[i]?=its2[i]? from by simp,B]at q;cases q
 done:=by
  rintro X hP hw hK d i l s σ H E I L st ⟨xs,ys,j,g,hd⟩;subst hP hw hK;obtain⟨its,Y,p,p',Z⟩:=N9 I L D st j g;obtain⟨its2,f⟩:=p';obtain⟨u0,v0,Z⟩:=Z its2 f;have e1:=Y.length;have e2:=f.1.length;refine vH (I.ok.hd d) Z (λu v h' T S _ _ _=>?_) λ_ h' far=>⟨rfl,?_⟩
  ·obtain⟨q1,_⟩:=Array.getElem?_eq_some_iff.mp T;obtain⟨q2,_⟩:=Array.getElem?_eq_some_iff.mp S;rw[ag]at q1 q2;omega
  ·exact I.turnedL (t':=s.toks) (ch:=[z,TI,TO,A,m]) (λc o d e=>far c o (λq=>d (by simp at q⊢;rcases q with r|r|r|r <;> simp[r])) e) L
 self:=λ_ _ _ _ _ st h=>wpAny_pyIter_zip st.1 h
def iZip2 (e:TA):TI:=λσ H R=>e σ H λvs c=>∃a b xs d,vs=[.ref a,.ref b]/\cV c a xs/\cV c b d/\R (Q2 a b) c
theorem D7 {X:Cx}{j:jW}{m:_}{d:Pos}{a b:Expr}{o:TA}{p f:Pos}(S:Gl X "zip")(P:X.mg "zip" = none)(T:PA X [a,b] o)(O:starEach [a,b] X.env=[(false,eval a X.env),(false,eval b X.env)]:=by rfl)(i:starEach [b] X.env=[(false,eval b X.env)]:=by rfl) :
  PI X (.Tuple j m d) (.Call (.Name "zip" p) [a,b] [] f) (iZip2 o):=by
 intro g s σ H R I h;refine Call_ (lO I S P boot_zip (PyProof.Rows.callWith_type1 (thn (T f g s σ H _ I h) λus r ⟨vs,H1,l,r1,B⟩=>?_) (by rw[O,i]) (by rw[i];rfl)));obtain⟨G,F,xs,ys,e,N,L,q⟩:=B;subst e;obtain⟨u1,u2,rfl,W,U⟩:=vals2 r1;cases W;cases U;obtain⟨its,rv,p1,E,K⟩:=l.sq N;obtain⟨its2,A,p2,C,J⟩:=l.sq L;refine G8 K J λh' z TI TO v u D new x a2 a3 Z Y Q=>?_;refine wpAny_pyIter_zip (s:={r with heap:=h'}) x ?_;exact⟨z,[z,TI,TO,v,u],_,_,H1,rfl,l.kept (t':=r.toks) Q,FO G F z TI TO v u D,⟨x,a2,⟨_,_,a3⟩,Z,Y⟩,λc w=>l.fpOk (new c w) (l.hok.fresh (new c w)),q⟩
theorem rNeD_bb {H:Hp}{Q:VK}{i j:Bool}:rNeD (.bl i) (.bl j) H Q=Q (.bl (!decide (i=j))) H:=by
 have e:eqD (.bl i) (.bl j)=decide (i=j):=by cases i <;> cases j <;> rfl
 refine propext ⟨λ⟨d,c,b,a,_,q⟩=>?_,λq=>⟨.bl i,.bl j,rfl,rfl,au _,by rw[e];exact q⟩⟩;have g:d = .bl i:=aT.inj b (show aT H (.bl i) (.bl i)from rfl);have f:c = .bl j:=aT.inj a (show aT H (.bl j) (.bl j)from rfl);rw[g,f,e]at q;exact q
theorem rEqD_bb {H:Hp}{Q:VK}{i j:Bool}:rEqD (.bl i) (.bl j) H Q=Q (.bl (decide (i=j))) H:=by
 have e:eqD (.bl i) (.bl j)=decide (i=j):=by cases i <;> cases j <;> rfl
 refine propext ⟨λ⟨d,c,b,a,_,q⟩=>?_,λq=>⟨.bl i,.bl j,rfl,rfl,au _,by rw[e];exact q⟩⟩;have g:d = .bl i:=aT.inj b (show aT H (.bl i) (.bl i)from rfl);have f:c = .bl j:=aT.inj a (show aT H (.bl j) (.bl j)from rfl);rw[g,f,e]at q;exact q
theorem FT {ks:List (Option Expr)}{vs es:jW}{p:Pos}{env:Env}:starEach (.Dict ks vs p::es) env=(false,eval (.Dict ks vs p) env)::starEach es env:=by rw[starEach];exact λ_ _ z=>nomatch z
theorem EA {X:Cx}{es:jW}{p:Pos}{t:TA}(h:PA X es t):PA X (.Dict [] [] p::es) (tCons IA t):=aA JD h FT
theorem xR:typeLookup (.type "list") "keys" = pure none:=am_miss_of_fast (by decide +kernel)
theorem x8 {P:Program}{w:World}{A:Around}{E:cL}{s:Shared}{a:Addr}{xs:gN}{k:Nat}{d:Array (Option Value)}{Q:Option Value->Shared->Prop}
  (c:s.heap.get? a=some {cls:=.type "list",dict:=none,data:=.seq xs k,slots:=d}) (calm:A.handled=none)
  (q:∀h' tk,(∀b ob,s.heap.get? b=some ob->h'.get? b=some ob)->Q none {s with heap:=h',toks:=tk}) :
  wpAny (model P w) A (getAttr? (.ref a) "keys") Q E s:=by
 rcases s with⟨g,gs,h,tk,os⟩;have ty:∀t,(⟨g,gs,h,t,os⟩:Shared).TypeIs (.ref a) "list":=λ_=>⟨_,c,rfl⟩
 have u:=F.slot_list_getattribute.lookup;have r:=F.slot_list_getattribute.bind (.ref a);have o:=am_list_getattr_none;have m:=sub_AttributeError;rw[getAttr?];unfold getAttrBy? getAttrBy
 repeat (any_goals (first|assumption|exact ty _|((with_reducible show wpAny _ _ (call (Value.builtin "list.__getattribute__") _ _) _ _ _);refine call_meets F.slot_list_getattribute (ty _) am_entry_list_getattribute (F.args_list_getattribute_2 _ _) (meets_getattribute_miss_list a xs k d "keys" _ xR (by decide) (by decide)) ⟨c,calm,λh' f e n=>?_⟩)|wp_step))
 obtain⟨l,j,i⟩:=n.there;dsimp only[wants];unfold getattributeRaised
 wp_walk
 exact q _ _ n.keeps
section
variable {P:Program}{w:World}{K:Type}[DecidableEq K]{knd:KeyKind P w K}
def yU (knd:KeyKind P w K)(h:Heap)(d it:Addr)(x:Value)(a:K×Value):Prop :=
 ∃(q:Addr) (o:Obj) (key:Value) (n:Nat),x = .ref q/\q≠d/\q≠it/\h.get? q=some o/\(o.cls = .type "list"∨o.cls = .type "tuple")/\o.data = .seq #[key,a.2] n/\knd.is a.1 key=true
theorem yU.mono {h h':Heap}{d it:Addr}{x:Value}{a:K×Value}(p:yU knd h d it x a)(k:∀b o,b≠d->b≠it->h.get? b=some o->h'.get? b=some o):yU knd h' d it x a:=by obtain⟨q,o,key,n,i,e,c,g,f⟩:=p;exact⟨q,o,key,n,i,e,c,k q o e c g,f⟩
inductive OJ (knd:KeyKind P w K)(h:Heap)(d it:Addr):cC->List (K×Value)->Prop
 | nil:OJ knd h d it [] []
 | cons {x:Value} {xs:cC} {kv:K×Value} {more:List (K×Value)}:yU knd h d it x kv->OJ knd h d it xs more->OJ knd h d it (x::xs) (kv::more)
theorem OJ.mono {h h':Heap}{d it:Addr}(k:∀b o,b≠d->b≠it->h.get? b=some o->h'.get? b=some o){xs:cC}{more:List (K×Value)}(r:OJ knd h d it xs more):OJ knd h' d it xs more:=by
 induction r with
 | nil=>exact .nil
 | cons p r a=>exact .cons (p.mono k) a
theorem mJ:plainId "dict.update.loop" = true:=by decide +kernel
theorem vS:entryFor table "dict.update.loop" = some Builtin.«dict.update.loop»:=entryFor_of_fast (by kernel_rfl)
theorem uP {A:Around}{E:cL}{s:Shared}{q:Addr}{o:Obj}{n:Nat}{a b:Value}{Q:cC->Shared->Prop}(e:s.heap.get? q=some o)(c:o.cls = .type "list"∨o.cls = .type "tuple")(d:o.data = .seq #[a,b] n)(h:Q [a,b] s) :
  wpAny (model P w) A (Builtin.Dict.pairItems (.ref q)) Q E s:=by
 unfold Builtin.Dict.pairItems;rcases c with c|c
 ·refine aa (wpAny_typeOf (T:="list") ⟨o,e,c⟩ ?_);rw[ai (by decide)];exact aa (wpAny_seqItems e d (ak h))
 ·refine aa (wpAny_typeOf (T:="tuple") ⟨o,e,c⟩ ?_);rw[ai (by decide)];exact aa (wpAny_seqItems e d (ak h))
theorem HR {d it l:Addr}{items:gN}(g:it≠d)(F:l≠d)(E:l≠it):∀(m i:Nat),items.size - i=m->∀(A:Around) (R:Result->Shared->Prop) (s:Shared) (a more:List (K×Value)) (tk:Tok),
  A.handled=none->s.heap.IsListIter it l i->s.heap.IsList l items->s.heap.DictOf knd d a->OJ knd s.heap d it (items.toList.drop i) more->a.length+more.length<=sizeLine ->
  (∀h' c,h'.DictOf knd d (merged a more)->(∀b o,b≠d->b≠it->s.heap.get? b=some o->h'.get? b=some o)->R (.ok (.ret .none)) {s with heap:=h',toks:=c}) ->
  codeAny (model P w) A (.builtin "dict.update.loop" ⟨[.ref d,.ref it,.int i tk,.none],[]⟩) R s:=by
 intro m
 induction m with
 | zero =>
  intro i S A R s a more tk I st z hd r hz k;refine codeAny_builtin vS ?_;rw[Around.under_plainId mJ];have G:items[i]?=none:=by simp;omega
  have Y:more=[]:=by
   have:items.toList.drop i=[]:=by simp;omega
   rw[this]at r;cases r;rfl
  subst Y;unfold Builtin.«dict.update.loop»;dsimp only;refine aa (wpAny_pyNext_list_end I st z G λh' J=>?_);dsimp only;refine aa (m:=Builtin.Dict.addKeywords d []) (ak (ak ?_));exact k h' s.toks (hd.extBut J g.symm) λb o _ T e=>J b o T e
 | succ m Q =>
  intro i S A R s a more tk I st z hd r hz k;refine codeAny_builtin vS ?_;rw[Around.under_plainId mJ];have j:i<items.size:=by omega
  have G:items[i]?=some items[i]:=by simp[j]
  have Z:items.toList.drop i=items[i]::items.toList.drop (i+1):=by simp[List.drop_eq_getElem_cons,j]
  rw[Z]at r;cases r with
  | cons p rest =>
   rename_i x more;unfold Builtin.«dict.update.loop»;dsimp only;refine aa (wpAny_pyNext_list_item st z G λW B f=>?_);dsimp only;obtain⟨q,o,key,n,eq,N,C,X,cq,dq,O⟩:=p;rw[eq];refine aa (cf (aa (wpAny_tryCatch (uP (s:={s with heap:=W}) ((f.2 q C).trans X) cq dq ?_))));refine cf (wpAny_dictSet_pairs O (hd.sameBut f g.symm) (λU H h=>?_) (by simp at hz;omega));have kept:∀b o,b≠d->b≠it->s.heap.get? b=some o->U.get? b=some o:=λb o v u e=>(h.2 b v).trans ((f.2 b u).trans e);refine ak ⟨plainId_quiet mJ _,?_⟩;have e1:((i:Int)+1)=((i+1:Nat):Int):=by push_cast;rfl
   rw[e1];refine Q (i+1) (by omega) A R _ (stored a x.1 x.2) more 0 I (B.at λo e=>(h.2 it g).trans e) (z.at λo e=>kept l o F E e) H (rest.mono kept) ?_ λh' c r1 L=>?_
   ·have:=stored_length_le a x.1 x.2;simp at hz;omega
   ·exact k h' c r1 λb o v u e=>L b o v u (kept b o v u e)
def QX (knd:KeyKind P w K)(h:Heap)(x:Value)(a:K×Value):Prop :=
 ∃(q:Addr) (o:Obj) (key:Value) (n:Nat),x = .ref q/\h.get? q=some o/\(o.cls = .type "list"∨o.cls = .type "tuple")/\o.data = .seq #[key,a.2] n/\knd.is a.1 key=true
inductive qN (knd:KeyKind P w K)(h:Heap):cC->List (K×Value)->Prop
 | nil:qN knd h [] []
 | cons {x:Value} {xs:cC} {kv:K×Value} {more:List (K×Value)}:QX knd h x kv->qN knd h xs more->qN knd h (x::xs) (kv::more)
theorem qN.at {h h':Heap}{d it:Addr}(g:h.get? d=none)(f:h.get? it=none)(k:∀b o,h.get? b=some o->h'.get? b=some o){xs:cC}{more:List (K×Value)}(r:qN knd h xs more):OJ knd h' d it xs more:=by
 induction r with
 | nil=>exact .nil
 | cons p r c =>
  obtain⟨q,o,key,n,j,a,i⟩:=p;exact .cons ⟨q,o,key,n,j,λe=>(by rw[e,g]at a;cases a),λe=>(by rw[e,f]at a;cases a),k q o a,i⟩ c
theorem rH {A:Around}{E:cL}{s:Shared}{l:Addr}{items:gN}{n:Nat}{u:Array (Option Value)}{more:List (K×Value)}{Q:cL}
  (a:s.heap.get? l=some {cls:=.type "list",dict:=none,data:=.seq items n,slots:=u}) (calm:A.handled=none) (B:qN knd s.heap items.toList more) (hz:more.length<=sizeLine)
  (q:∀h' tk,h'.DictOf knd s.heap.objs.size (merged [] more)->(∀b o,s.heap.get? b=some o->h'.get? b=some o)->Q (.ref s.heap.objs.size) {s with heap:=h',toks:=tk}) :
  wpAny (model P w) A (call (.type "dict") [.ref l]) Q E s:=by
 refine callType_codes (Q₁:=λv m=>v = .ref s.heap.objs.size/\m={s with heap:=s.heap.push {cls:=.type "dict",data:=.dict #[]} }) F.kt_called_dict (F.kt_typeCall_dict_1 _) F.entry_dict_init (kt_code_dict_new _ ⟨rfl,rfl⟩) ?_;rintro v m ⟨rfl,rfl⟩;have j:(s.heap.push {cls:=.type "dict",data:=.dict #[]}).DictOf knd s.heap.objs.size []:=Heap.DictOf.new s.heap;have f:=af {cls:=.type "dict",data:=.dict #[]} a;have lt:=az a;refine⟨j.typeIs,F.args_dict_init_2 _ _,?_⟩;unfold Builtin.«dict.__init__» Builtin.Dict.selfAndRest;refine aa (aa (wpAny_notOrdered_dict j.typeIs (ak ?_)));unfold Builtin.Dict.updateCommon Builtin.Dict.updateFrom;dsimp only;refine aa (wpAny_typeOf (T:="list") ⟨_,f,rfl⟩ ?_);rw[ai (by decide)];refine aa (x8 f calm λi t1 h=>?_);rw[ai (by rfl)];have z:=h _ _ f;refine aa (wpAny_rule (aa (wpAny_pyIter_list (items:=items) ⟨_,z,rfl,_,rfl⟩ (ak ⟨plainId_quiet mJ _,?_⟩))));have r:=j.keep h;have c:s.heap.objs.size<i.objs.size:=by obtain⟨o,e,_⟩:=Heap.dictOf_iff.mp r;exact az e
 have g:∀b o,s.heap.get? b=some o->(i.push {cls:=.type "list_iterator",data:=.fields #[.ref l,.int 0 0]}).get? b=some o:=λb o e=>af _ (h b o (af _ e));refine HR (it:=i.objs.size) (l:=l) (items:=items) (Nat.ne_of_gt c) (bj lt) (bj (Nat.lt_trans lt c)) _ 0 rfl A.in1 _ _ [] more 0 calm ⟨_,ar _ rfl,rfl,rfl⟩ ⟨_,g _ _ a,rfl,_,rfl⟩ (r.push _)
  (qN.at (Heap.get?_none_of_le (ac _)) (Heap.get?_none_of_le (Nat.le_of_lt c)) g B) (by simpa using hz) λh' d r1 x=>?_
 exact⟨rfl,q h' d r1 λb o e=>x b o (bj (az e)) (bj (Nat.lt_trans (az e) c)) (g b o e)⟩
end
noncomputable def prV (H:Hp):V->Option (V×V)
 | .ref p=>match H p with
  | some (.lst [a,b])=>some (a,b)
  | some (.tup [a,b])=>some (a,b)
  | _=>none
 | _=>none
theorem zM {X:Cx}{h:c9}{σ:St}{H:Hp}{s:Shared}(I:aQ X h σ H s):∀{j:List V} {us:cC} {d:List (dQ×V)},aX j us->j.map (prV H)=d.map (λi=>some (kV i.1,i.2)) ->
  ∃g:List (dQ×Value),qN (bU X.prog X.w) s.heap us g/\KV d g
 | [],_,[],r,_=>by cases r;exact⟨[],.nil,.nil⟩
 | [],_,_::_,_,e=>by cases e
 | _::_,_,[],_,e=>by cases e
 | y::j,_,i::d,r,e=>by
  cases r with
  | @cons _ u _ us B r =>
   rw[ba,ba]at e;injection e with f F;obtain⟨g,c,q⟩:=zM I r F;cases y with
   | ref p =>
    cases B;unfold prV at f;dsimp only at f;split at f
    ·rename_i a b z;cases f;obtain⟨_,its,n,v,A⟩:=(show cB X.prog X.w H s.heap p (.lst [_,_])from I.hok p _ z)
     obtain⟨m,l,rfl,r1,x⟩:=vals2 v;exact⟨(i.1,l)::g,.cons ⟨p,_,m,n,rfl,A,.inl rfl,rfl,lP r1⟩ c,.cons ⟨rfl,x⟩ q⟩
    ·rename_i a b z;cases f;obtain⟨_,its,v,o,A,E,n,C⟩:=(show cB X.prog X.w H s.heap p (.tup [_,_])from I.hok p _ z)
     obtain⟨m,l,rfl,r1,x⟩:=vals2 v;exact⟨(i.1,l)::g,.cons ⟨p,o,m,n,rfl,A,.inr E,C,lP r1⟩ c,.cons ⟨rfl,x⟩ q⟩
    ·cases f
   | _=>cases f
def PF:List V->Hp->VK->Prop:=λxs H Q=>∃p b a,xs=[.ref p]/\H p=some (.lst b)/\b.map (prV H)=a.map (λc=>some (kV c.1,c.2))/\∀d,H d=none->Q (.ref d) (upd H d (.dK (eJ [] a)))
theorem nL {X:Cx}(m:X.calm=true):d9 X (.type "dict") PF:=by
 intro e s σ H xs us Q I r h;obtain⟨p,b,a,rfl,l,f,q⟩:=h;obtain⟨u,rfl,g⟩:=vals1 r;cases g;obtain⟨z,its,n,i,o⟩:=(show cB X.prog X.w H s.heap p (.lst b)from I.hok p _ l)
 obtain⟨j,c,d⟩:=zM I i f;have A:a.length=b.length:=by have:=congrArg List.length f;simpa using this.symm
 have x:a.length=j.length:=d.length;refine rH o (I.ok.hd m) (by simpa using c) (by omega) λh' tk v kp=>⟨.ref s.heap.objs.size,_,?_,rfl,q _ (I.hok.fresh (ac _))⟩
 have hz:(eJ [] a).length<=sizeLine:=by have:=jO a [];rw[List.length_nil]at this;omega
 exact I.laid (t':=tk) kp (ac _) (K4 hz (cu.mpr (Ne.symm (bj I.big))) (d.merge .nil) v)
def rDIn (b:Bool):R2:=λx y H Q=>∃a o,y = .ref a/\kX H a x o/\Q (.bl (if b then !o.isSome else o.isSome)) H
theorem CJ {X:Cx}(e:X.A.units+64<cLine):iP X (compareOp .NotIn) (rDIn true):=by intro b s σ H x y v u Q I d c h;obtain⟨a,o,rfl,g,q⟩:=h;cases c;exact NU (aj (bx (by decide) _) e) I g d λi f=>⟨.bl _,H,f,rfl,q⟩
noncomputable def SI (K:PySem.W.Frag)(a:Addr)(xs:List V):It :=
 ⟨λi H=>eK K H a xs/\i<xs.length,λi H x H'=>H'=H/\xs[xs.length - 1 - i]?=some x,λi H=>eK K H a xs/\i=xs.length⟩
theorem HW {P:Program}{w:World}{K:PySem.W.Frag}{L:Expr}(a it:Addr)(xs:List V):oY P w K L (SI K a xs) [it] it (λi h=>h.IsRevIter it a ((xs.length:Int) - 1 - (i:Int))) where
 mem:=by simp
 obj:=λi h st b g=>by
  obtain rfl:b=it:=by simpa using g
  obtain⟨o,e,c,d⟩:=st;exact⟨o,e,λv z=>by rw[d]at z;cases z⟩
 keep:=λi h h' st k=>st.at λo e=>k it (by simp) o e
 item:=by
  intro X r m A J i f s σ H E I l st q;subst r m A;obtain⟨G,S⟩:=q;obtain⟨its,O,p,hz⟩:=I.list G;have F:xs[xs.length - 1 - i]?=some xs[xs.length - 1 - i]:=aw (by omega);obtain⟨u,R,Q⟩:=O.get F;obtain⟨f0,f1,f2,f3,f4,B⟩:=l it (by simp);have C:(xs.length:Int) - 1 - (i:Int)=((xs.length - 1 - i:Nat):Int):=by omega
  rw[C]at st;refine wpAny_pyNext_rev_item st p.isList (x:=u) (by simpa using R) λh' j N=>?_;have Y:aQ X f σ H {s with heap:=h'}:=I.turned (t':=s.toks) (λb o g e=>(N.2 b g).trans e) f0 f1 f3 f4 B;obtain⟨o,e,c,d⟩:=id j;refine⟨u,rfl,vP (s:={s with heap:=h'}) e c d (by decide) ⟨_,H,Y,Q,⟨rfl,F⟩,?_,λb g=>(l b g).1⟩⟩;have U:(xs.length:Int) - 1 - ((i+1:Nat):Int)=((xs.length - 1 - i:Nat):Int) - 1:=by omega
  rw[U];exact j
 done:=by
  intro X r m A J i f s σ H E I l st q;subst r m A;obtain⟨G,S⟩:=q;obtain⟨f0,f1,f2,f3,f4,B⟩:=l it (by simp);have C:(xs.length:Int) - 1 - (i:Int) = -1:=by omega
  rw[C]at st;exact wpAny_pyNext_rev_end (I.ok.hd J) st λh' T=>⟨rfl,I.turned (t':=s.toks) (λb o g e=>T b o g e) f0 f1 f3 f4 B⟩
 self:=λ_ _ _ _ _ st h=>wpAny_pyIter_revIter st h
def iRev (K:PySem.W.Frag)(c:TA):TI:=λσ H R=>c σ H λvs b=>∃a xs,vs=[.ref a]/\b a=some (.lst xs)/\R (SI K a xs) b
theorem oJ {X:Cx}{l:Expr}(K:PySem.W.Frag)(E:X.K=K){a:Expr}{j:TA}{p d:Pos}(A:Gl X "reversed")(z:X.mg "reversed" = none)(C:PA X [a] j)(x:starEach [a] X.env=[(false,eval a X.env)]:=by rfl) :
  PI X l (.Call (.Name "reversed" p) [a] [] d) (iRev K j):=by
 subst E;intro f s σ H R I h;refine Call_ (lO I A z boot_reversed (PyProof.Rows.callWith_type1 (thn (C d f s σ H _ I h) λus c ⟨vs,G,i,r1,r⟩=>?_) x rfl));obtain⟨g,xs,e,w,q⟩:=r;subst e;obtain⟨J,rfl,F⟩:=vals1 r1;cases F;obtain⟨its,m,u,v⟩:=i.list (eK.of w);refine call_reversed_list u.isList ?_
 have st:(c.heap.push (revObj g ((its.toArray.size:Int) - 1))).IsRevIter c.heap.objs.size g ((xs.length:Int) - 1 - ((0:Nat):Int)):=⟨_,ar _ rfl,rfl,by
  have e:=m.length;rw[ag,←e]
  simp[revObj]⟩
 refine wpAny_pyIter_revIter (s:={c with heap:=c.heap.push (revObj g ((its.toArray.size:Int) - 1))}) st ?_;refine⟨c.heap.objs.size,[c.heap.objs.size],_,_,G,rfl,i.kept (t':=c.toks) λb o e=>af _ e,HW g _ xs,st,λb B=>?_,q⟩;obtain rfl:b=c.heap.objs.size:=by simpa using B
 exact i.fpOk (ac _) (i.hok.fresh (ac _))
section
variable {g:TG}{tb:TS}{D:iM}{σ:St}{H:Hp}{K:PySem.W.Frag}
theorem AS {a:Addr}(xs:List V)(Pv:Nat->St->Hp->Prop)(l:Pv 0 σ H)(h:∀i σ H,i<=xs.length->Pv i σ H->H a=some (.lst xs))
  (f:∀i x σ H,i<xs.length->xs[xs.length - 1 - i]?=some x->Pv i σ H->g x σ H λd o=>tb {D with nx:=Pv (i+1),ct:=Pv (i+1),bk:=D.nx} d o) (hd:∀σ H,Pv xs.length σ H->D.nx σ H):nQ (SI K a xs) g tb D σ H:=by
 refine⟨λi m σ H=>m=xs.length - i/\i<=xs.length/\Pv i σ H,⟨xs.length,by simp,au _,l⟩,?_⟩;rintro i m σ H ⟨rfl,j,p⟩;have c:=eK.of (K:=K) (h i σ H j p);by_cases b:i<xs.length
 ·refine .inr ⟨⟨c,b⟩,Pv (i+1),λr H' q=>⟨xs.length - (i+1),by omega,rfl,b,q⟩,λz H' y=>?_⟩;obtain⟨rfl,q⟩:=y;exact f i z σ _ b q p
 ·have e:i=xs.length:=by omega
  subst e;exact .inl ⟨⟨c,rfl⟩,hd σ H p⟩
end
noncomputable def revT {α:Type}(xs:List α):List α:=(xs.drop 1).reverse
theorem vC {α:Type}(x:α)(xs:List α):revT (x::xs)=xs.reverse:=rfl
theorem LC (k:Nat):(List.range k).map (λm=>k - m)=((List.range k).map (λm=>1+m)).reverse:=by
 apply List.ext_getElem
 ·simp
 ·intro i b a;simp at b a⊢;omega
theorem wG (its:cC)(k:Nat)(h:its.length=k+1):(List.range k).filterMap (λm=>its.toArray[k - m]?)=(its.drop 1).reverse:=by
 have e:(List.range k).filterMap (λm=>its.toArray[k - m]?)=((List.range k).map (λm=>k - m)).filterMap (λj=>its.toArray[j]?):=by rw[List.filterMap_map];rfl
 rw[e,LC,List.filterMap_reverse];have:=pick_run its.toArray 1 k;rw[this];congr 1;rw[List.take_of_length_le];rw[bu];simp;omega
theorem GA (its:cC)(h:its≠[]):slicePick its.toArray none (some 0) (some (-1))=(revT its).toArray:=by
 obtain⟨k,hk⟩:∃k,its.length=k+1:=⟨its.length - 1,by have:=List.length_pos_iff.mpr h;omega⟩
 unfold slicePick;rw[ag,hk];have e:sliceBounds none (some 0) (some (-1)) (k+1)=((k:Int),0,-1):=by
  simp only[sliceBounds,Option.getD_some];refine Prod.ext ?_ (Prod.ext ?_ rfl)
  ·simp
  ·simp <;> omega
 rw[e];have b:sliceRange (k:Int) 0 (-1)=(List.range k).map λm=>k - m:=by
  unfold sliceRange;have c:(if (-1:Int) > 0 then(if (k:Int)<0 then(0 - (k:Int) + -1 - 1) / -1 else 0)else(if (k:Int) > 0 then((k:Int) - 0 - -1 - 1) / (- -1)else 0)).toNat=k:=by
   rw[ab (by decide)];split
   ·have:((k:Int) - 0 - -1 - 1) / (- -1)=k:=by rw[show(- -1:Int)=1 from rfl,Int.ediv_one];omega
    rw[this];omega
   ·omega
  dsimp only;rw[c];refine List.map_congr_left λm a=>?_;have:=List.mem_range.mp a;omega
 dsimp only;rw[b,List.filterMap_map];have:=wG its k hk;unfold revT;rw[←this];rfl
theorem yS {prog:Program}{w:World}{A:Around}{E:cL}{s:Shared}{f:Addr}{e c d:Value}{n:Nat}{Q:Int×Int×Nat->Shared->Prop}(i:s.heap.IsSliceOf f e c d)(pl:IsPart e none)(g:IsPart c (some 0))(pt:IsPart d (some (-1)))(o:1<=n)
  (h:Q ((n:Int) - 1,-1,n - 1) s):wpAny (model prog w) A (Builtin.Slice.sliceApplied (.ref f) (pure (n:Int))) Q E s:=by
 obtain⟨os,a,j,b⟩:=id i;unfold Builtin.Slice.sliceApplied Builtin.Slice.sliceFields;refine aa (aa (wpAny_field a b (x:=e) rfl (aa (wpAny_field a b (x:=c) rfl (aa (wpAny_field a b (x:=d) rfl (ak ?_)))))));refine aa (HT.slicePart_ pt ?_);show wpAny _ _ (if ((-1:Int) == 0)=true then _ else _) _ _ s;rw[ab (by decide)];refine aa (HT.slicePart_ pl (aa (HT.slicePart_ g (aa (ak ?_)))));have m:Builtin.Slice.sliceAdjust none (some 0) (-1) (n:Int)=((n:Int) - 1,0):=by
  unfold Builtin.Slice.sliceAdjust;refine Prod.ext ?_ ?_
  ·simp
  ·simp;omega
 have l:Builtin.Slice.slicePlaces ((n:Int) - 1) 0 (-1)=n - 1:=by
  unfold Builtin.Slice.slicePlaces;rw[ab (by decide)];split
  ·rw[show(- -1:Int)=1 from rfl,Int.ediv_one];omega
  ·omega
 show wpAny _ _ (match Builtin.Slice.sliceAdjust none (some 0) (-1) (n:Int)with|(lo,hi)=>pure (lo,(-1:Int),Builtin.Slice.slicePlaces lo hi (-1))) _ _ s;rw[m];show wpAny _ _ (pure ((n:Int) - 1,(-1:Int),Builtin.Slice.slicePlaces ((n:Int) - 1) 0 (-1))) _ _ s;rw[l];exact ak h
theorem BW {prog:Program}{w:World}{A:Around}{E:cL}{s:Shared}{t b:Addr}{its:cC}{j g i:Value}{Q:cL}(a:IsTup s.heap t its.toArray)(l:s.heap.IsSliceOf b j g i)(pl:IsPart j none)(o:IsPart g (some 0))(pt:IsPart i (some (-1)))(r:its≠[])(hz:its.length<=sizeLine)
  (h:Q (.ref s.heap.objs.size) {s with heap:=s.heap.push {cls:=.type "tuple",data:=.seq (revT its).toArray} }):wpAny (model prog w) A (getItem (.ref t) (.ref b)) Q E s:=by
 obtain⟨k,hk⟩:∃k,its.length=k+1:=⟨its.length - 1,by have:=List.length_pos_iff.mpr r;omega⟩
 obtain⟨os,c,d,u⟩:=id l;have f:s.TypeIs (.ref b) "slice":=⟨os,c,d⟩
 unfold getItem
 try with_reducible refine cf ?_
 first|refine aa (ak ?_)|skip
 refine aa (wpAny_sequenceKey a.typeIs (by decide) ?_)
 refine aa (wpAny_callSpecial?_slot (name:=Str.ofString "__getitem__") a.typeIs PyProof.Rows.slot_tuple_getitem
  (wpAny_call_entry PyProof.Rows.slot_tuple_getitem a.typeIs entry_tuple_getitem ?_ (args_tuple_getitem _ _)))
 show wpAny _ _ (Builtin.Tuple.tupleItemsOf (.ref t) >>= _) _ _ s;refine aa (tupleItemsOf_ a ?_);refine aa (wpAny_typeOf f ?_);rw[ai (by decide)];refine aa (yS (n:=its.toArray.size) l pl o pt (by rw[ag];omega) ?_);dsimp only;rw[ab (by intro q;rw[Bool.and_eq_true,Bool.and_eq_true]at q;exact absurd q.1.2 (by decide))];have e:((List.range (its.toArray.size - 1)).filterMap λ(m:Nat)=>its.toArray[(((its.toArray.size:Nat):Int) - 1+(m:Int) * -1).toNat]?).toArray=(revT its).toArray:=by rw[ag,hk];have q:=wG its k hk;unfold revT;rw[←q];congr 2;funext m;congr 1;omega
 rw[e];have hsz:sizeOk (.seq (revT its).toArray):=by show(revT its).toArray.size<=sizeLine;rw[ag];unfold revT;rw[List.length_reverse,bu];omega
 first
  | exact aa (m:=Builtin.Tuple.tupleExact _) (ca (ak ⟨_,rfl,ak h⟩) hsz)
  | exact aa (m:=Builtin.Tuple.tupleExact _) (ca (aa (ak (ak ⟨_,rfl,ak h⟩))) hsz)
  | exact aa (aa (m:=Builtin.Tuple.tupleExact _) (ca (ak (ak ⟨_,rfl,ak h⟩)) hsz))
  | exact aa (aa (m:=Builtin.Tuple.tupleExact _) (ca (ak ⟨_,rfl,ak h⟩) hsz))
def LG (X:Cx)(r:V->Option Int->Option Int->Option Int->Hp->VK->Prop):Prop :=
 ∀(a:c9) (s:Shared) (σ:St) (H:Hp) (x:V) (v vl vu vt:Value) (lo hi st:Option Int) (sl:Addr) (Q:VK),aQ X a σ H s->aU x v->s.heap.IsSliceOf sl vl vu vt->IsPart vl lo->IsPart vu hi->IsPart vt st->r x lo hi st H Q ->
  ∃T id,typeLookup (.type T) "__getitem__" = pure (some (.builtin id))/\s.TypeIs v T/\wpAny (model X.prog X.w) X.A (getItem v (.ref sl)) (EP X a σ Q) X.xe s
def tSl3 (r:V->Option Int->Option Int->Option Int->Hp->VK->Prop)(c:TE)(tl b a:TO):TE:=λσ H Q=>c σ H λx g=>tl σ g λl f=>b σ f λu e=>a σ e λt d=>r x l u t d Q
theorem fS {X:Cx}{e:Expr}{o:TE}{w z:Option Expr}{st:Expr}{tl m j:TO}{d L:Pos}{r:V->Option Int->Option Int->Option Int->Hp->VK->Prop}(R:LG X r)(W:PE X e o)(S:PO X w tl)(O:PO X z m)(P:PO X (some st) j):PE X (.Subscript e (.Slice w z (some st) L) d) (tSl3 r o tl m j):=by intro a s σ H Q I h;refine Subscript_ (thn (W a s σ H _ I h) λv C ⟨x,H1,I1,r1,J⟩=>?_);refine wpAny_Slice (thn (S a C σ H1 _ I1 J) λi s2 ⟨l,H2,I2,pl,G⟩=>thn (O a s2 σ H2 _ I2 G) λf B ⟨u,H3,I3,K,F⟩=>thn (P a B σ H3 _ I3 F) λg c ⟨t,A,I4,pt,E⟩=>?_);have Z:aQ X a σ A {c with heap:=c.heap.push {cls:=.type "slice",data:=.fields #[i,f,g]} }:=I4.kept (t':=c.toks) λb ob q=>af _ q;obtain⟨T,id,Y,N,U⟩:=R a _ σ A x v i f g l u t c.heap.objs.size Q Z r1 (Heap.IsSliceOf.new ..) pl K pt E;exact tail_any (ops:=[v,.ref c.heap.objs.size]) N Y U (by with_unfolding_all rfl)
def rBack:V->Option Int->Option Int->Option Int->Hp->VK->Prop:=λx b c st H Q=>b=none/\c=some 0/\st=some (-1)/\∃a xs,x = .ref a/\cV H a xs/\xs≠[] /\
 ∀p o,H p=none->(o = .lst (revT xs)/\H a=some (.lst xs)∨o = .tup (revT xs)/\H a=some (.tup xs))->Q (.ref p) (upd H p o)
theorem aX.revT {xs:List V}{us:cC}(h:aX xs us):aX (revT xs) (L2.revT us):=(h.drop 1).reverse
theorem zJ {α:Type}(xs:List α):(revT xs).length<=xs.length:=by unfold revT;rw[List.length_reverse,bu];omega
theorem wP {xs:List V}{us:cC}(h:aX xs us)(n:xs≠[]):us≠[]:=λz=>by have:=h.length;rw[z]at this;exact n (List.length_eq_zero_iff.mp this)
theorem D2 {X:Cx}:LG X rBack:=by
 intro i s σ H x v w m u A B st z Q I f j pl g pt h;obtain⟨rfl,rfl,rfl,a,xs,rfl,e|e,l,q⟩:=h
 ·cases f;obtain⟨its,r,d,hz⟩:=I.list (eK.of e);refine⟨"list",_,slot_list_getitem.lookup,d.isList.typeIs,?_⟩;have c:=r.length;refine wpAny_getItem_list_slice d.isList j pl g pt (by decide) ?_ (by rw[ag] <;> omega);rw[GA its (wP r l)];refine⟨.ref s.heap.objs.size,_,I.laid (t':=s.toks) (o:=.lst (revT xs)) (λb ob q=>af _ q) (ac _) ?_,rfl,q _ _ (I.hok.fresh (ac _)) (.inl ⟨rfl,e⟩)⟩;exact⟨al (zJ xs) hz,_,0,r.revT,ar _ rfl⟩
 ·cases f;obtain⟨its,r,d,hz⟩:=I.tuple (hZ.of e);refine⟨"tuple",_,PyProof.Rows.slot_tuple_getitem.lookup,d.typeIs,?_⟩;have c:=r.length;refine BW d j pl g pt (wP r l) (by omega) ?_;refine⟨.ref s.heap.objs.size,_,I.laid (t':=s.toks) (o:=.tup (revT xs)) (λb ob q=>af _ q) (ac _) ?_,rfl,q _ _ (I.hok.fresh (ac _)) (.inr ⟨rfl,e⟩)⟩;exact⟨al (zJ xs) hz,_,r.revT,⟨_,ar _ rfl,rfl,_,rfl⟩⟩
def rExtU:V->List V->Hp->VK->Prop:=λx vs H Q=>∃l b xs a,x = .ref l/\vs=[.ref b]/\H l=some (.lst xs)/\cV H b a/\xs.length+a.length<=sizeLine/\Q .non (upd H l (.lst (xs++a)))
theorem NQ {l b:Addr}{its its2:gN}{n n2:Nat}{od:Option Addr}{osl:Array (Option Value)}(c:(!its.isEmpty && Builtin.List.listTooLong (its.size+its2.size))=false)(m:its.size<=sizeLine)(j:its.size+its2.size<=sizeLine+1) :
  Meets (Builtin.«list.extend» ⟨[.ref l,.ref b],[]⟩) (λ_ R s=>s.heap.get? l=some {cls:=.type "list",data:=.seq its n}/\s.heap.get? b=some ⟨.type "tuple",od,.seq its2 n2,osl⟩ /\
   R (.ok (.ret .none)) {s with heap:=s.heap.update l (Obj.mapSeq λx=>x++its2)}):=by
 refine .of_wp λprog w A R e h=>?_;obtain⟨o,g,d,tk,os⟩:=e;obtain⟨a,f,h⟩:=h;have c:¬(!its.isEmpty && Builtin.List.listTooLong (its.size+its2.size))=true:=by rw[c];decide
 have f1:=AutoSeq1.idx_int;have f4:=AutoSeq1.sub_tuple_list;have q:=AutoSeq1.sub_list_tuple;have i:(its++its2).size<=sizeLine+1:=by rw[Array.size_append];exact j
 wp_walk using (wpAny_updateSeq a rfl (hz:=m) (_hz':=i)),
  bd a,bd f
 exact⟨_,rfl,h⟩
theorem rP {X:Cx}:R4 X "list.extend" rExtU:=by
 intro a s σ H x vs v us Q I f g h;obtain⟨l,b,xs,w,j,o,c,d|d,hz,q⟩:=h
 ·exact GQ a s σ H x vs v us Q I f g ⟨l,b,xs,w,j,o,c,d,hz,q⟩
 subst j o;cases f;obtain⟨u,rfl,A⟩:=g.one;cases A;obtain⟨z,its,n,r,N,e⟩:=I.lstM c;obtain⟨its2,i,⟨⟨L,od,B,osl⟩,E,J,n2,G⟩,K⟩:=I.tuple (hZ.of d);cases J;cases G;have C:=i.length;have hsz:its.toArray.size+its2.toArray.size<=sizeLine:=by rw[ag,ag];omega
 have m:=NQ (l:=l) (b:=b) (its:=its.toArray) (its2:=its2.toArray) (n:=n) (n2:=n2) (od:=od) (osl:=osl) (by rw[sR hsz,Bool.and_false]) (by rw[ag];omega) (by omega);refine call_meets F.slot_list_extend ⟨_,e,rfl⟩ F.entry_list_extend (F.args_list_extend_2 _ _) m ⟨e,E,?_⟩;refine⟨.non,_,I.lset (its':=its++its2) c e (by simp) (r.append i) ?_,rfl,q⟩;rw[aq];omega
noncomputable def tl1 (z:Str):Str:=⟨(z.cps.toList.drop 1).toArray⟩
def rSlTx:V->Option Int->Option Int->Hp->VK->Prop:=λx a b H Q=>∃z,x = .str z/\a=some 1/\b=none/\1<=z.length/\z.length<=sizeLine/\Q (.str (tl1 z)) H
theorem F6 (z:Str)(h:1<=z.length)(u:Tok):slicePicked z (some (1,u)) none none=(List.range (z.length - 1)).map λm=>1+m:=by
 show Builtin.Str.strSliceIndices (some 1) none 1 z.length=_;unfold Builtin.Str.strSliceIndices;dsimp only;rw[ab (show ¬(1:Int)<0 by decide),ai (show(1:Int) > 0 by decide),ai (show(1:Int) > 0 by decide)];have e:max 0 (min 1 (z.length:Int))=1:=by omega
 rw[e];unfold sliceRange;dsimp only;rw[ai (by decide)];have c:(if (1:Int)<(z.length:Int)then((z.length:Int) - 1+1 - 1) / 1 else 0).toNat=z.length - 1:=by
  split
  ·rw[Int.ediv_one];omega
  ·omega
 rw[c];refine List.map_congr_left λm _=>?_;omega
theorem O8 {X:Cx}:RT X rSlTx:=by
 intro a s σ H x v j i r A o Q I b d pl c h;obtain⟨z,rfl,rfl,rfl,g,hz,q⟩:=h;obtain⟨t,rfl⟩:=b;cases pl;rename_i tk;cases c;refine⟨"str",_,F.slot_str_getitem.lookup,typeIs_str _ _ _,?_⟩;refine wpAny_getItem_str_slice (l:=some (1,tk)) (u:=none) (st:=none) d rfl ?_;have f:=F6 z g tk;unfold sliceMade;rw[f,ab (by intro w;rw[Bool.and_eq_true]at w;have:=eq_of_beq w.2;simp at this;omega)];have e:(((List.range (z.length - 1)).map λm=>1+m).filterMap (z.cps[·]?)).toArray=(z.cps.toList.drop 1).toArray:=by have:=pick_run z.cps 1 (z.length - 1);rw[this];congr 1;rw[List.take_of_length_le];rw[bu,bn];exact ac _
 rw[e];refine⟨?_,.str (tl1 z),H,I.tok _,⟨_,rfl⟩,q⟩;show(z.cps.toList.drop 1).toArray.size<=sizeLine;have hd:(z.cps.toList.drop 1).length=z.cps.size - 1:=by simp
 rw[ag,hd];exact al (Nat.sub_le _ _) hz
noncomputable def SH (z:Str):It:=⟨λi _=>i<z.cps.size,λi H x H'=>H'=H/\∃c,z.cps[i]?=some c/\x = .str ⟨#[c]⟩,λi _=>i=z.cps.size⟩
theorem HV {P:Program}{w:World}{K:PySem.W.Frag}{G:Expr}(it:Addr)(z:Str)(t:Tok):oY P w K G (SH z) [it] it (λi h=>h.IsStrIter it "str_ascii_iterator" z t i) where
 mem:=by simp
 obj:=λi h st b f=>by
  obtain rfl:b=it:=by simpa using f
  obtain⟨o,e,c,d⟩:=st;exact⟨o,e,λv q=>by rw[d]at q;cases q⟩
 keep:=λi h h' st k=>by obtain⟨o,e,r⟩:=st;exact⟨o,k it (by simp) o e,r⟩
 item:=by intro X B m C A i a s σ H E I l st j;subst B m C;obtain⟨f0,f1,f2,f3,f4,F⟩:=l it (by simp);have W:=Walks.strAscii (prog:=X.prog) (w:=X.w) (I.ok.hd A) it z t;refine W.item i s _ _ j st λv h' tk L g J=>?_;obtain⟨c,u,x,rfl⟩:=L;have Q:aQ X a σ H {s with heap:=h',toks:=tk}:=I.turned (λb o f e=>J b o (by simpa using f) e) f0 f1 f3 f4 F;obtain⟨o,e,O,d⟩:=id g;exact⟨_,rfl,vP (s:={s with heap:=h',toks:=tk}) e O d (by decide) ⟨.str ⟨#[c]⟩,H,Q,⟨u,rfl⟩,⟨rfl,c,x,rfl⟩,g,λb f=>(l b f).1⟩⟩
 done:=by intro X B m C A i a s σ H E I l st j;subst B m C;obtain⟨f0,f1,f2,f3,f4,F⟩:=l it (by simp);have j:i=z.cps.size:=j;subst j;exact wpAny_pyNext_ascii_end (I.ok.hd A) st (by simp) λh' N=>⟨rfl,I.turned (t':=s.toks) (λb o f e=>N b o f e) f0 f1 f3 f4 F⟩
 self:=λ_ _ _ _ _ st h=>wpAny_pyIter_striter_ascii st h
def iTxt (a:TE):TI:=λσ H R=>a σ H λx b=>∃z:Str,x = .str z/\z.cps.all (· < 128)=true/\R (SH z) b
theorem I9 {X:Cx}{g e:Expr}{f:TE}(j:PE X e f):PI X g e (iTxt f):=by
 intro a s σ H R I h;refine thn (j a s σ H _ I h) λv c ⟨x,r,d,r1,i⟩=>?_;obtain⟨z,rfl,m,q⟩:=i;obtain⟨t,rfl⟩:=r1;refine wpAny_pyIter_ascii m ?_;refine⟨c.heap.objs.size,[c.heap.objs.size],_,_,r,rfl,d.kept (t':=c.toks) λb o e=>af _ e,HV _ z t,⟨_,ar _ rfl,rfl,rfl⟩,λb l=>?_,q⟩;obtain rfl:b=c.heap.objs.size:=by simpa using l
 exact d.fpOk (ac _) (d.hok.fresh (ac _))
theorem dU {src:List (Option Nat)}{a:TI}{g:TG}{b:TT}{c:TE}:tComp src a g b c=λσ H Q=>a σ H λJ d=>rE J g b c Q (stC src σ) d:=rfl
theorem eL {a:TI}{g:TG}{tb:TS}:tFor a g tb=λD σ H=>a σ H λJ b=>nQ J g tb D σ b:=rfl
theorem cN {c:Bool}{a b:Prop}(e:c=true->a)(d:c=false->b):(if c=true then a else b):=by
 cases c with
 | true=>rw[ai rfl];exact e rfl
 | false=>rw[ab (by decide)];exact d rfl
end L2
namespace L2
open PySem
variable {X:Cx}
def rNeW:R2:=λx y H Q=>∃d e,aT H d x/\aT H e y/\depD d<=150/\Q (.bl (!eqD d e)) H
theorem pR (g:X.A.units+160<cLine):iP X (compareOp .NotEq) rNeW:=by intro a s σ H x y v u Q I c b h;obtain⟨d,e,hd,f,hz,q⟩:=h;exact D4 I.hok d e X.A x y v u hd f c b (by omega) X.prog X.w X.xe _ ⟨.bl _,H,I,rfl,q⟩
end L2
namespace L2
open PySem PySem.Spec PyProof.Rows
section
variable {X:Cx}{CX:BO}{k:Nat}{sp:Sp}{E:XK}{x m:Str}{C:Addr}{p pos apos:Pos}{o e:Expr}{es:jW}{ta:TE}{t:TA}
theorem m9 {pl:Sem Bool}(O:yV X.prog X.w X.K X.mg X.base CX k C m sp)(h:d5 k X.A)(d:jS CX X E)(i:PE X o ta)(l:PA X (e::es) t)
  (a:starEach (e::es) X.env=(false,eval e X.env)::starEach es X.env:=by rfl) (b:(backTo pos (starEach es X.env)).any (·.1)=false:=by rfl)
  (g:eval (.Call (.Attribute o m apos) (e::es) [] pos) X.env=(do
   let ov ←eval o X.env
   standAt apos.atName
   let(f,first) ←holding [ov] (getMethod ov m pl)
   callWith pos f first (backTo pos (starEach (e::es) X.env)) (backToKw pos (keywordEach [] X.env))):=by rfl):PE X (.Call (.Attribute o m apos) (e::es) [] pos) (tMeth C m sp [] E ta t):=by
 obtain⟨f,q,ps,F,M,j,c⟩:=O;exact MF i c M F h j .nil d l a b g
def QY (P:Program)(w:World)(K:PySem.W.Frag)(mg:iH)(base:Heap)(CX:BO)(k:Nat)(x:Str)(C:Addr)(b:Sp):Prop :=
 ∃f a ps,bN P w K mg base CX k f a ps b/\mg x=some (.ref C)/\Mk K C f/\eY K a ps []
theorem RH (O:QY X.prog X.w X.K X.mg X.base CX k x C sp)(d:d5 (k+1) X.A)(c:jS CX X E)(h:Gl X x)(l:PA X (e::es) t)(b:(x == ("__debug__" : Str))=false:=by decide)
  (i:starEach (e::es) X.env=(false,eval e X.env)::starEach es X.env:=by rfl) (a:(backTo pos (starEach es X.env)).any (·.1)=false:=by rfl):PE X (.Call (.Name x p) (e::es) [] pos) (tMake C sp [] E t):=by
 obtain⟨f,m,ps,F,g,M,j⟩:=O;exact MG M F d h g j .nil c l b i a
end
section
variable {g:TG}{tt:TT}{te:TE}{Q:VK}{σ:St}{H:Hp}
theorem vY {z:Str}(Pv:Nat->List V->St->Hp->Prop)(f:Pv 0 [] σ H)(b:∀i c a σ H,z.cps[i]?=some c->Pv i a σ H->CStep g tt te (.str ⟨#[c]⟩) a σ H (Pv (i+1)))
  (hd:∀a σ H,Pv z.cps.size a σ H->∀p,H p=none->Q (.ref p) (upd H p (.lst a))):rE (SH z) g tt te Q σ H :=
 oW (n:=z.cps.size) Pv f (λi a σ H d p=>⟨d,λx H' y=>by obtain⟨rfl,c,e,rfl⟩:=y;exact b i c a σ _ e p⟩) λa σ H p=>⟨rfl,hd a σ H p⟩
end
noncomputable def inTx (z:Str)(c:Nat):Bool:=!(Builtin.Str.occurrences z ⟨#[c]⟩ 0 z.length 1).isEmpty
end L2
namespace L2
open PySem PySem.Spec PyProof.Rows PySem.W
def iN (n:Nat)(lt:Nat->Nat->Bool){α:Type}:KasT α->(α->Prop)->Prop
 | .ret a,Q=>Q a
 | .ask i j k,Q=>i<n/\j<n/\iN n lt (k (lt i j)) Q
theorem iN.bind {n:Nat}{lt:Nat->Nat->Bool}{α β:Type}{f:α->KasT β}{Q:β->Prop}{R:α->Prop}(b:∀a,R a->iN n lt (f a) Q):∀{t:KasT α},iN n lt t R->iN n lt (t.bind f) Q
 | .ret a,h=>b a h
 | .ask i j k,h=>⟨h.1,h.2.1,iN.bind b h.2.2⟩
theorem iN.mono {n:Nat}{lt:Nat->Nat->Bool}{α:Type}{Q R:α->Prop}(b:∀a,R a->Q a):∀{t:KasT α},iN n lt t R->iN n lt t Q
 | .ret a,h=>b a h
 | .ask i j k,h=>⟨h.1,h.2.1,iN.mono b h.2.2⟩
structure RX (n:Nat)(lt:Nat->Nat->Bool):Prop where
 irr:∀i,lt i i=false
 asym:∀i j,lt i j=true->lt j i=false
 tr:∀i j k,lt j i=false->lt k j=false->lt k i=false
section
variable {n:Nat}{lt:Nat->Nat->Bool}
def le (lt:Nat->Nat->Bool)(i j:Nat):Prop:=lt j i=false
noncomputable abbrev pa (p:Array Nat)(i:Nat):Nat:=p.getD i 0
def Up (lt:Nat->Nat->Bool)(p:Array Nat)(k:Nat):Prop:=∀i j,i<=j->j<k->le lt (pa p i) (pa p j)
def Dn (lt:Nat->Nat->Bool)(p:Array Nat)(k:Nat):Prop:=∀i j,i<=j->j<k->le lt (pa p j) (pa p i)
def Gd (n:Nat)(p:Array Nat):Prop:=p.Perm (List.range n).toArray
theorem Gd.size {p:Array Nat}(h:Gd n p):p.size=n:=by have:=h.size_eq;simpa using this
theorem Gd.inn {p:Array Nat}(h:Gd n p)(b:1<=n)(i:Nat):pa p i<n:=by
 by_cases a:i<p.size
 ·have e:pa p i=p[i]:=by simp[pa,Array.getD,a]
  rw[e];have c:p[i]∈p.toList:=by simp
  have:=(Array.perm_iff_toList_perm.mp h).mem_iff.mp c
  simpa using this
 ·have e:pa p i=0:=by simp[pa,Array.getD,a]
  rw[e];exact b
theorem zQ {p q:Array Nat}{i j:Nat}(h:p[i]?=q[j]?):pa p i=pa q j:=by unfold pa;rw[Array.getD_eq_getD_getElem?,Array.getD_eq_getD_getElem?,h]
theorem kO {p:Array Nat}{i j:Nat}(a:j<=p.size)(k:Nat):pa (kas_rev p i j) k=if i<=k/\k<j then pa p (i+j - 1 - k)else pa p k:=by
 have e:=getElem?_mirror_all (xs:=p) (i:=i) a k;unfold kas_rev;by_cases h:i<=k/\k<j
 ·rw[ai h]at e⊢;exact zQ e
 ·rw[ab h]at e⊢;exact zQ e
theorem PP {p:Array Nat}{src d:Nat}(c:src<p.size)(hd:d<=src)(k:Nat):pa (bubble p src d) k=if k=src - d then pa p src else if src - d<k/\k<=src then pa p (k - 1)else pa p k:=by
 have e:=getElem?_bubble (xs:=p) c d hd k;by_cases b:k=src - d
 ·rw[ai b]at e⊢;exact zQ e
 ·rw[ab b]at e⊢;by_cases a:src - d<k/\k<=src
  ·rw[ai a]at e⊢;exact zQ e
  ·rw[ab a]at e⊢;exact zQ e
theorem Gd.rev {p:Array Nat}(h:Gd n p)(i j:Nat):Gd n (kas_rev p i j):=(mirror_perm p i j _).trans h
theorem Gd.bub {p:Array Nat}(h:Gd n p)(i j:Nat):Gd n (bubble p i j):=(bubble_perm p i j).trans h
variable (O:RX n lt)
include O
theorem RX.le_refl (i:Nat):le lt i i:=O.irr i
theorem RX.le_trans {i j k:Nat}(a:le lt i j)(b:le lt j k):le lt i k:=O.tr i j k a b
theorem RX.le_of {i j:Nat}(h:lt i j=true):le lt i j:=O.asym i j h
theorem Up.snoc {p:Array Nat}{k:Nat}(h:Up lt p k)(d:1<=k)(e:le lt (pa p (k - 1)) (pa p k)):Up lt p (k+1):=by
 intro i j b f;by_cases a:j<k
 ·exact h i j b a
 ·have:j=k:=by omega
  subst this;by_cases c:i=j
  ·subst c;exact O.le_refl _
  ·exact O.le_trans (h i (j - 1) (by omega) (by omega)) e
theorem Dn.snoc {p:Array Nat}{k:Nat}(h:Dn lt p k)(d:1<=k)(e:le lt (pa p k) (pa p (k - 1))):Dn lt p (k+1):=by
 intro i j b f;by_cases a:j<k
 ·exact h i j b a
 ·have:j=k:=by omega
  subst this;by_cases c:i=j
  ·subst c;exact O.le_refl _
  ·exact O.le_trans e (h i (j - 1) (by omega) (by omega))
theorem tQ {p:Array Nat}(g:Gd n p)(i:1<=n):∀(f k:Nat),1<=k->Up lt p k->iN n lt (kas_asc p f k) λm=>k<=m/\m<=k+f/\Up lt p m/\(m<k+f->lt (pa p m) (pa p (m - 1))=true)
 | 0,k,j,h=>⟨ac _,ac _,h,λz=>absurd z (bI _)⟩
 | f+1,k,j,h=>by
  refine⟨g.inn i _,g.inn i _,?_⟩;cases c:lt (p.getD k 0) (p.getD (k - 1) 0)with
  | true =>
   dsimp only;rw[ai rfl];exact⟨ac _,by omega,h,λ_=>c⟩
  | false =>
   dsimp only;rw[ab (by decide)];exact(tQ g i f (k+1) (by omega) (Up.snoc O h j c)).mono λm ⟨a,b,d,e⟩=>⟨by omega,by omega,d,λz=>e (by omega)⟩
theorem nM {p:Array Nat}{k:Nat}(g:Gd n p)(e:1<=n)(d:Up lt p k):∀(f l r:Nat),r - l<=f->l<=r->r<=k->(∀i,i<l->le lt (pa p i) (pa p k))->(∀i,r<=i->i<k->le lt (pa p k) (pa p i)) ->
  iN n lt (kas_place p k f l r) λm=>m<=k/\(∀i,i<m->le lt (pa p i) (pa p k))/\(∀i,m<=i->i<k->le lt (pa p k) (pa p i))
 | 0,l,r,u,o,a,j,h=>by
  have:l=r:=by omega
  subst this;exact⟨a,j,h⟩
 | f+1,l,r,u,o,a,j,h=>by
  unfold kas_place;by_cases b:l ≥ r
  ·rw[ai b];have:l=r:=by omega
   subst this;exact⟨a,j,h⟩
  ·rw[ab b];refine⟨g.inn e _,g.inn e _,?_⟩;cases c:lt (p.getD k 0) (p.getD ((l+r) / 2) 0)with
   | true =>
    dsimp only;rw[ai rfl];refine nM g e d f l ((l+r) / 2) (by omega) (by omega) (by omega) j λi q s=>?_;exact O.le_trans (O.le_of c) (d _ _ q s)
   | false =>
    dsimp only;rw[ab (by decide)];refine nM g e d f ((l+r) / 2+1) r (by omega) (by omega) a (λi q=>?_) h;exact O.le_trans (d i ((l+r) / 2) (by omega) (by omega)) c
theorem OT {p:Array Nat}{k l:Nat}(h:k<p.size)(b:Up lt p k)(r:l<=k)(o:∀i,i<l->le lt (pa p i) (pa p k))(m:∀i,l<=i->i<k->le lt (pa p k) (pa p i)):Up lt (bubble p k (k - l)) (k+1):=by
 have e:=PP (p:=p) h (Nat.sub_le k l);have q:k - (k - l)=l:=by omega
 rw[q]at e;intro i j c s;rw[e i,e j];by_cases g:i=l
 ·rw[ai g];by_cases a:j=l
  ·rw[ai a];exact O.le_refl _
  ·rw[ab a,ai (by omega)];exact m _ (by omega) (by omega)
 ·rw[ab g];by_cases f:l<i/\i<=k
  ·rw[ai f,ab (by omega),ai (by omega)];exact b _ _ (by omega) (by omega)
  ·rw[ab f];by_cases a:j=l
   ·rw[ai a];exact o _ (by omega)
   ·rw[ab a];by_cases d:l<j/\j<=k
    ·rw[ai d];exact b _ _ (by omega) (by omega)
    ·rw[ab d];exact b _ _ c (by omega)
theorem A8 (d:1<=n):∀(f:Nat) (p:Array Nat) (k:Nat),Gd n p->k+f<=n->Up lt p k->iN n lt (kas_bin f p k) λq=>Gd n q/\Up lt q (k+f)
 | 0,p,k,g,e,a=>⟨g,a⟩
 | f+1,p,k,g,e,a=>by
  unfold kas_bin;refine iN.bind (R:=λm=>m<=k/\(∀i,i<m->le lt (pa p i) (pa p k))/\(∀i,m<=i->i<k->le lt (pa p k) (pa p i))) (λm b=>?_) (nM O g d a k 0 k (by omega) (by omega) (ac _) (λi c=>absurd c (Nat.not_lt_zero _)) λi c e=>absurd c (by omega));refine(A8 d f (bubble p k (k - m)) (k+1) (g.bub _ _) (by omega) (OT O (by rw[g.size];omega) a b.1 b.2.1 b.2.2)).mono λq h=>⟨h.1,?_⟩
  rw[show k+(f+1)=k+1+f by omega];exact h.2
def RC (lt:Nat->Nat->Bool)(p:Array Nat)(n q:Nat):Prop:=∀i j,n - (q+1)<=i->i<n->n - (q+1)<=j->j<n->le lt (pa p i) (pa p j)
theorem K3 {p:Array Nat}{k q:Nat}(b:k<=p.size)(dn:Dn lt p k)(eq:RC lt p k q):Dn lt (kas_rev p (k - (q+1)) k) k:=by
 intro i j a e;rw[kO b,kO b];by_cases d:k - (q+1)<=i/\i<k
 ·rw[ai d,ai (by omega)];exact eq _ _ (by omega) (by omega) (by omega) (by omega)
 ·rw[ab d];by_cases c:k - (q+1)<=j/\j<k
  ·rw[ai c];exact dn _ _ (by omega) (by omega)
  ·rw[ab c];exact dn _ _ a e
theorem sN {p:Array Nat}{i j:Nat}(a:j<=p.size){k:Nat}(h:j<=k):pa (kas_rev p i j) k=pa p k:=by rw[kO a,ab (by omega)]
theorem mR (e:1<=n):∀(f:Nat) (p:Array Nat) (k q:Nat),Gd n p->1<=k->k+f<=n->q+1<=k->Dn lt p k->RC lt p k q->iN n lt (kas_desc f p k q) λr=>Gd n r.1/\k<=r.2.1/\r.2.1<=k+f/\r.2.2+1<=r.2.1/\Dn lt r.1 r.2.1/\RC lt r.1 r.2.1 r.2.2
 | 0,p,k,q,g,h,w,m,dn,eq=>⟨g,ac _,ac _,m,dn,eq⟩
 | f+1,p,k,q,g,h,w,m,dn,eq=>by
  refine⟨g.inn e _,g.inn e _,?_⟩;have one:∀o:Array Nat,RC lt o (k+1) 0:=λo i j a b c d=>by
   have:i=k:=by omega
   have:j=k:=by omega
   subst_vars
   exact O.le_refl _
  have more:∀r:Array Nat×Nat×Nat,(Gd n r.1/\k+1<=r.2.1/\r.2.1<=k+1+f/\r.2.2+1<=r.2.1/\Dn lt r.1 r.2.1/\RC lt r.1 r.2.1 r.2.2)->(Gd n r.1/\k<=r.2.1/\r.2.1<=k+(f+1)/\r.2.2+1<=r.2.1/\Dn lt r.1 r.2.1/\RC lt r.1 r.2.1 r.2.2):=λr ⟨a,b,c,d⟩=>⟨a,by omega,by omega,d⟩
  have hz:k<=p.size:=by rw[g.size];omega
  cases c:lt (p.getD k 0) (p.getD (k - 1) 0)with
  | true =>
   dsimp only;rw[ai rfl];have s:=O.le_of c;by_cases v:q > 0
   ·rw[ai v];have C:=K3 O hz dn eq;have B:pa (kas_rev p (k - (q+1)) k) k=pa p k:=sN O hz (ac _);have A:le lt (pa p k) (pa (kas_rev p (k - (q+1)) k) (k - 1)):=by rw[kO hz,ai (by omega)];exact O.le_trans s (eq _ _ (by omega) (by omega) (by omega) (by omega))
    exact(mR e f _ (k+1) 0 (g.rev _ _) (by omega) (by omega) (by omega) (Dn.snoc O C h (by rw[B];exact A)) (one _)).mono more
   ·rw[ab v];exact(mR e f p (k+1) 0 g (by omega) (by omega) (by omega) (Dn.snoc O dn h s) (one _)).mono more
  | false =>
   dsimp only;rw[ab (by decide)];refine⟨g.inn e _,g.inn e _,?_⟩;cases c2:lt (p.getD (k - 1) 0) (p.getD k 0)with
   | true =>
    dsimp only;rw[ai rfl];exact⟨g,ac _,by show k<=k+(f+1);omega,m,dn,eq⟩
   | false =>
    dsimp only;rw[ab (by decide)];refine(mR e f p (k+1) (q+1) g (by omega) (by omega) (by omega) (Dn.snoc O dn h c2) ?_).mono more;have F:le lt (pa p (k - 1)) (pa p k):=c;have E:le lt (pa p k) (pa p (k - 1)):=c2;intro i j H z G x;by_cases u:i=k
    ·by_cases l:j=k
     ·subst u;subst l;exact O.le_refl _
     ·subst u;exact O.le_trans E (eq _ _ (by omega) (by omega) (by omega) (by omega))
    ·by_cases l:j=k
     ·subst l;exact O.le_trans (eq _ _ (by omega) (by omega) (by omega) (by omega)) F
     ·exact eq _ _ (by omega) (by omega) (by omega) (by omega)
theorem LV {p:Array Nat}{k:Nat}(a:k<=p.size)(dn:Dn lt p k):Up lt (kas_rev p 0 k) k:=by intro i j b c;rw[kO a,kO a,ai (by omega),ai (by omega)];exact dn _ _ (by omega) (by omega)
theorem tP (b:1<=n){p:Array Nat}{k m:Nat}(g:Gd n p)(c:1<=k)(e:k<=m)(d:m<=n)(dn:Dn lt p k):iN n lt (kas_tail3 k m p) λr=>Gd n r.2/\1<=r.1/\r.1<=m/\Up lt r.2 r.1:=by
 have hz:k<=p.size:=by rw[g.size];omega
 unfold kas_tail3;refine iN.bind (λa h=>?_) (tQ O (g.rev 0 k) b (m - k) k c (LV O hz dn));exact⟨g.rev 0 k,by have:=h.1;show 1<=a;omega,by have:=h.2.1;show a<=m;omega,h.2.2.1⟩
theorem mT (l:1<=n){p:Array Nat}{k m:Nat}(g:Gd n p)(u:1<=k)(s:k+1<=m)(o:m<=n)(dn:Dn lt p (k+1)):iN n lt (kas_descPart k m p) λr=>Gd n r.2/\1<=r.1/\r.1<=m/\Up lt r.2 r.1:=by
 unfold kas_descPart
 refine iN.bind (λr h=>?_) (mR O l (m - (k+1)) p (k+1) 0 g (by omega) (by omega) (by omega) dn λi j a b c d=>by
  have:i=k:=by omega
  have:j=k:=by omega
  subst_vars
  exact O.le_refl _)
 obtain⟨a,b,c,d,e,f⟩:=h;by_cases q:r.2.2 > 0
 ·rw[ai q];exact tP O l (a.rev _ _) (by omega) (by omega) o (K3 O (by rw[a.size];omega) e f)
 ·rw[ab q];exact tP O l a (by omega) (by omega) o e
theorem DL (d:1<=n){p:Array Nat}(g:Gd n p):iN n lt (kas_count n p) λr=>Gd n r.2/\1<=r.1/\r.1<=n/\Up lt r.2 r.1:=by
 unfold kas_count
 refine iN.bind (λm h=>?_) (tQ O g d (n - 1) 1 (ac _) λi j a b=>by
  have:i=0:=by omega
  have:j=0:=by omega
  subst_vars
  exact O.le_refl _)
 obtain⟨l,x,f,s⟩:=h;by_cases e:m=n
 ·rw[ai (by simpa using e)];exact⟨g,l,by show m<=n;omega,f⟩
 ·rw[ab (by simpa using e)];have v:=s (by omega);by_cases u:m > 1
  ·rw[ai u];refine⟨g.inn d _,g.inn d _,?_⟩;cases c:lt (p.getD 0 0) (p.getD (m - 1) 0)with
   | true =>
    dsimp only;rw[ai rfl];exact⟨g,l,by show m<=n;omega,f⟩
   | false =>
    dsimp only;rw[ab (by decide)];have hz:m<=p.size:=by rw[g.size];omega
    have all:∀i j,i<m->j<m->le lt (pa p i) (pa p j):=λi j w o=>O.le_trans (O.le_trans (f i (m - 1) (by omega) (by omega)) c) (f 0 j (by omega) o);refine mT O d (g.rev 0 m) l (by omega) (ac _) (Dn.snoc O (λi j q o=>?_) l ?_)
    ·rw[kO hz,kO hz,ai (by omega),ai (by omega)];exact all _ _ (by omega) (by omega)
    ·rw[sN O hz (ac _),kO hz,ai (by omega)];exact O.le_trans (O.le_of v) (all _ _ (by omega) (by omega))
  ·rw[ab u];have:m=1:=by omega
   subst this;refine mT O d g (ac _) (by omega) (ac _) (Dn.snoc O (λi j q o=>?_) (ac _) (O.le_of v));have:i=0:=by omega
   have:j=0:=by omega
   subst_vars
   exact O.le_refl _
theorem HE (c:1<=n):iN n lt (kas_sort n) λq=>Gd n q/\Up lt q n:=by
 unfold kas_sort;refine iN.bind (λr h=>?_) (DL O c (Array.Perm.refl _));obtain⟨g,e,d,a⟩:=h;by_cases h:r.1<n
 ·rw[ai h,show max r.1 1=r.1 by omega];refine(A8 O c (n - r.1) r.2 r.1 g (by omega) a).mono λq b=>⟨b.1,?_⟩
  rw[←show r.1+(n - r.1)=n by omega];exact b.2
 ·rw[ab h];have:r.1=n:=by omega
  rw[this]at a;exact⟨g,a⟩
end
theorem FC {n:Nat}{lt:Nat->Nat->Bool}{α:Type}{b:Nat->Nat->(Bool->Shared->Prop)->Shared->Prop}(J:Shared->Prop)(f:∀i j C s,i<n->j<n->J s->(∀c,J c->C (lt i j) c)->b i j C s){Q:α->Prop}{R:α->Shared->Prop}(g:∀a s,J s->Q a->R a s) :
  ∀{t:KasT α},iN n lt t Q->∀s,J s->t.kasWp b R s
 | .ret a,h,s,e=>g a s e h
 | .ask i j k,h,s,e=>f i j _ s h.1 h.2.1 e λc d=>FC J f g h.2.2 c d
end L2
namespace L2
open PySem PySem.Spec PyProof.Rows PySem.SeqAt
open PySem.AutoSeq1 (wpAny_loadPart')
open PySem.MeetsSeq PySem.MeetsSeq2 PySem.MeetsSeq3
def N6 (A:Around)(s:Shared)(y x:Value)(b:Bool):Prop:=∀(prog:Program) (w:World) (E:cL) (Q:cL),Q (.bool b) s->wpAny (model prog w) A (richCompare .Lt y x) Q E s
inductive uU (A:Around)(s:Shared):cC->cC->Bool->Prop
 | nn:uU A s [] [] false
 | nc {v:Value} {vs:cC}:uU A s [] (v::vs) true
 | cn {u:Value} {us:cC}:uU A s (u::us) [] false
 | eq {u v:Value} {us vs:cC} {b:Bool}:EqAt A s u v true->uU A s us vs b->uU A s (u::us) (v::vs) b
 | ne {u v:Value} {us vs:cC} {b:Bool}:EqAt A s u v false->N6 A s u v b->uU A s (u::us) (v::vs) b
def Q0 (us:gN)(i:Nat)(xs:cC):Prop:=i<=us.size/\us.toList.drop i=xs
theorem Q0.end_ {us:gN}{i:Nat}(h:Q0 us i []):us.size=i/\us[i]?=none:=by have e:=congrArg List.length h.2;rw[bu,bn,List.length_nil]at e;have:=h.1;exact⟨by omega,Array.getElem?_eq_none (by omega)⟩
theorem Q0.next {us:gN}{i:Nat}{x:Value}{xs:cC}(h:Q0 us i (x::xs)):i<us.size/\us[i]?=some x/\Q0 us (i+1) xs:=by
 have e:=congrArg List.length h.2;rw[bu,bn,ao]at e;have lt:i<us.toList.length:=by rw[bn];omega
 have a:=h.2;rw[List.drop_eq_getElem_cons lt]at a;injection a with c b;rw[bn]at lt;refine⟨lt,?_,lt,b⟩;rw[Array.getElem?_eq_getElem lt,←c];rfl
abbrev uH (l b:Addr)(ol ob:Obj)(xs ys:cC):PySem.Spec:=λA R s=>s.heap.get? l=some ol/\s.heap.get? b=some ob/\∃r,uU A.in1 s xs ys r/\R (.ok (.ret (.bool r))) s
theorem rZ {l b:Addr}{c ob:Obj}{xs a:cC}{i:Nat}{prog:Program}{w:World}{A:Around}{R:Result->Shared->Prop}{s:Shared}(m:Meets (Builtin.«list.__eq__.loop» (ltAsk l b i)) (uH l b c ob xs a))(h:uH l b c ob xs a A R s) :
  (Code.builtin "list.__eq__.loop" (ltAsk l b i)).quiet=true/\codeAny (model prog w) A (.builtin "list.__eq__.loop" (ltAsk l b i)) R s:=by
 refine⟨plainId_quiet plain_eq_loop (ltAsk l b i),codeAny_builtin entry_eq_loop ?_⟩;have u:=A.under_plainId plain_eq_loop (ltAsk l b i);rw[u];exact m prog w A R s h
theorem u6 (l b:Addr)(us vs:gN)(n k:Nat)(F E:Option Addr)(v u:Array (Option Value)):∀(xs m:cC) (i:Nat),Q0 us i xs->Q0 vs i m ->
  Meets (Builtin.«list.__eq__.loop» (ltAsk l b i)) (uH l b {cls:=.type "list",dict:=F,data:=.seq us n,slots:=v} {cls:=.type "list",dict:=E,data:=.seq vs k,slots:=u} xs m)
 | [],m,i,f,g=>by
  rintro prog w A R ⟨B,C,d,tk,os⟩ ⟨a,c,r,q,h⟩;obtain⟨z,s⟩:=f.end_;have e:r=decide (us.size<vs.size):=by
   cases q with
   | nn=>exact(bh (by rw[z,(g.end_).1];exact bI _)).symm
   | nc=>exact(bf (by rw[z];exact(g.next).1)).symm
  rw[e]at h
  wp_walk using bd a,bd c
  rw[show((i:Nat):Int).toNat=i from rfl,s];cases vs[i]? <;> wp_walk using bd a,bd c <;> exact h
 | x::xs,[],i,f,g=>by
  rintro prog w A R ⟨B,C,d,tk,os⟩ ⟨a,c,r,q,h⟩;obtain⟨z,s⟩:=g.end_;obtain⟨lt,is,_⟩:=f.next
  cases q;have e:false=decide (us.size<vs.size):=(bh (by omega)).symm;rw[e]at h
  wp_walk using bd a,bd c
  rw[show((i:Nat):Int).toNat=i from rfl,s,is]
  wp_walk using bd a,bd c
  exact h
 | x::xs,y::m,i,f,g=>by
  have go:=u6 l b us vs n k F E v u xs m (i+1) (f.next).2.2 (g.next).2.2;rintro prog w A R ⟨B,C,d,tk,os⟩ ⟨a,c,r,q,h⟩;obtain⟨_,o,_⟩:=f.next
  obtain⟨_,isV,_⟩:=g.next
  wp_walk using bd a,bd c
  rw[show((i:Nat):Int).toNat=i from rfl,o,isV];cases q with
  | eq asked rest =>
   refine aa (asked prog w _ _ ?_)
   wp_walk
   exact rZ go ⟨a,c,r,rest,h⟩
  | ne asked j =>
   refine aa (asked prog w _ _ ?_);have j:=j prog w
   wp_walk using bd a,bd c
   rw[o,isV]
   wp_walk using j
   exact h
theorem xX (l b:Addr)(us vs:gN)(n k:Nat)(i g:Option Addr)(f e:Array (Option Value)) :
  Meets (Builtin.«list.__lt__» ⟨[.ref l,.ref b],[]⟩) (uH l b {cls:=.type "list",dict:=i,data:=.seq us n,slots:=f} {cls:=.type "list",dict:=g,data:=.seq vs k,slots:=e} us.toList vs.toList):=by
 have go:=u6 l b us vs n k i g f e us.toList vs.toList 0 ⟨au _,rfl⟩ ⟨au _,rfl⟩;rintro prog w A R ⟨j,m,d,tk,os⟩ ⟨a,c,h⟩;have kind:=AutoSeq1.sub_list_list
 wp_walk using bd a,bd c
 exact rZ go ⟨a,c,h⟩
theorem uK (l b:Addr)(us vs:gN)(n k:Nat)(I H:Option Addr)(z v:Array (Option Value)) :
  Meets (Builtin.«tuple.__lt__» ⟨[.ref l,.ref b],[]⟩) (uH l b {cls:=.type "tuple",dict:=I,data:=.seq us n,slots:=z} {cls:=.type "tuple",dict:=H,data:=.seq vs k,slots:=v} us.toList vs.toList):=by
 refine .of_wp λprog w A R B h=>?_;obtain⟨u,g,d,tk,os⟩:=B;obtain⟨E,G,r,F,h⟩:=h;have f2:=AutoSeq1.sub_tuple_tuple
 wp_walk using bd E,bd G,wpAny_forIn_list _ (λrest b o=>b.1=none/\o=⟨u,g,d,tk,os⟩/\∃(xs m:cC),rest=xs.zip m/\uU A.in1 ⟨u,g,d,tk,os⟩ xs m r/\xs.length+vs.size=m.length+us.size) _
 case turn =>
  rintro⟨y,x⟩ rest b o ⟨j,rfl,xs,m,hz,i,a⟩;cases i with
  | nn=>cases hz
  | nc=>cases hz
  | cn=>cases hz
  | eq asked more =>
   rw[List.zip_cons_cons]at hz;injection hz with f e;injection f with q s;subst q s;simp only[ao]at a;refine aa (asked prog w _ _ ?_)
   wp_walk
   exact⟨rfl,rfl,_,_,e,more,by omega⟩
  | ne asked c =>
   rw[List.zip_cons_cons]at hz;injection hz with f e;injection f with q s;subst q s;refine aa (asked prog w _ _ ?_);have c:=c prog w
   wp_walk using c
   refine⟨_,rfl,?_⟩
   simpa using h
 case fin =>
  rintro⟨J,b2⟩ o ⟨j,rfl,xs,m,hz,i,a⟩;simp only at j;subst j;have C:r=decide (us.size<vs.size):=by
   cases i with
   | nn =>
    simp only[List.length_nil]at a;exact(bh (by omega)).symm
   | nc =>
    simp only[List.length_nil,ao]at a;exact(bf (by omega)).symm
   | cn =>
    simp only[List.length_nil,ao]at a;exact(bh (by omega)).symm
   | eq _ _=>rw[List.zip_cons_cons]at hz;cases hz
   | ne _ _=>rw[List.zip_cons_cons]at hz;cases hz
  rw[C]at h
  wp_walk
  exact⟨_,rfl,by simpa [Builtin.Tuple.tupleCompareSizes] using h⟩
 case h =>
  exact⟨rfl,rfl,us.toList,vs.toList,rfl,F,by simp[Nat.add_comm]⟩
end L2
namespace L2
open PySem PySem.Spec PyProof.Rows
theorem aQ.adopt {X:Cx}{d:c9}{σ:St}{H:Hp}{s:Shared}{a:Addr}{o:HO}(I:aQ X d σ H s)(f:fH X d H a)(new:cB X.prog X.w (upd H a o) s.heap a o):aQ X d σ (upd H a o) s:=by
 obtain⟨f0,f1,f2,f3,f4,A⟩:=f;have keep:∀b u,H b=some u->upd H a o b=some u:=λb u e=>by rw[aE (aH e f0)];exact e
 refine {ok:=I.ok,os:=I.os,bare:=I.bare,base:=?_,loc:=I.loc,cell:=I.cell,free:=?_,freeC:=?_,pin:=?_,hok:=?_,len:=I.len}
 ·have u:=I.base
  exact {
   keep:=u.keep,slot:=u.slot,there:=u.there,tups:=λb xs e=>keep _ _ (u.tups b xs e),frzs:=λb q r e=>keep _ _ (u.frzs b q r e),
   tbls:=λb ps e=>by obtain⟨more,h⟩:=u.tbls b ps e;exact⟨more,keep _ _ h⟩,
   free:=λb q e n g=>by
    have ne:b≠a:=λz=>by
     rcases f3 with h|h
     ·exact g (z ▸ h)
     ·exact bI _ (bc (az e) (z ▸ h))
    rw[aE ne]
    exact u.free b q e n g}
 ·rw[aE (Ne.symm f1)];exact I.free
 ·intro x c e;rw[aE (f4 x c e)];exact I.freeC x c e
 ·intro p i;obtain⟨v,m,l⟩:=I.pin p i;exact⟨v,by rw[aE (A p i)];exact m,l⟩
 ·intro b u e;by_cases j:b=a
  ·subst j;rw[upd_same]at e;cases e;exact new
  ·rw[aE j]at e;exact(I.hok b u e).stay (λ_ _ _ q=>q) (λc q=>keep _ _ q) (λc xs q=>keep _ _ q)
theorem fH.at {X:Cx}{a:c9}{H H':Hp}{b:Addr}(f:fH X a H b)(h:H' b=none):fH X a H' b:=⟨h,f.2⟩
def yY (vs:cC)(ks:List dQ):Prop:=ks.length=vs.length/\∀(i:Nat) (k:dQ) (v:Value),ks[i]?=some k->vs[i]?=some v->keyIs k v=true/\v.scannable=true
def LP (P:Program)(w:World)(h:Heap)(S:Addr)(ks:List dQ)(i:Nat):Prop:=h.SetOf (bU P w) S (λk=>(ks.take i).any λx=>decide (x=k)) i
theorem LP.at {P:Program}{w:World}{h h':Heap}{S:Addr}{ks:List dQ}{i:Nat}(x:LP P w h S ks i)(k:∀o,h.get? S=some o->h'.get? S=some o):LP P w h' S ks i:=by obtain⟨o,es,a,t,e,r⟩:=x;exact⟨o,es,a,t,k _ e,r⟩
local macro_rules | `(tactic| walk_at "sd_on")=>`(tactic| (repeat (any_goals (first | assumption | wp_step))))
section
variable {P:Program}{w:World}{A:Around}
theorem EJ {I S:Addr}{R:Result->Shared->Prop}{s:Shared}(h:wpAny (model P w) A.in1 (Builtin.«set.update.loop» ⟨[.ref S,.ref I],[]⟩) (λy a=>match y with | .done f=>R (.ok f) a | .again c=>c.quiet=true/\codeAny (model P w) A c R a) (λe a=>R (.error e) a) s):codeAny (model P w) A (.builtin "set.update.loop" ⟨[.ref S,.ref I],[]⟩) R s :=
 codeAny_builtin F.entry_set_update_loop (by rw[Around.under_plainId F.plain_set_update_loop _];exact h)
theorem IO {l I S:Addr}{items:cC}{ks:List dQ}(Z:A.handled=none)(J:yY items ks)(nd:ks.Nodup)(hb:items.length+1<scanBound)(n1:S≠I)(n2:l≠I)(n3:l≠S){R:Result->Shared->Prop} :
  ∀(j i:Nat) (s:Shared),i+j=items.length->s.heap.IsListIter I l i->s.heap.IsList l items.toArray->LP P w s.heap S ks i ->
   (∀h' tk,LP P w h' S ks items.length->(∀b o,b≠S->b≠I->s.heap.get? b=some o->h'.get? b=some o)->R (.ok (.ret .none)) {s with heap:=h',toks:=tk}) ->
   codeAny (model P w) A (.builtin "set.update.loop" ⟨[.ref S,.ref I],[]⟩) R s:=by
 intro j
 induction j with
 | zero =>
  intro i s e it f C E;rw[Nat.add_zero]at e;subst e;refine EJ ?_;refine aa (wpAny_pyNext_list_end (A:=A.in1) Z it f (by simp) λh' O=>?_);exact ak (E h' s.toks (C.at λo z=>O _ _ n1 z) λb o _ hI z=>O b o hI z)
 | succ j W =>
  intro i s e it f C E;have r:i<items.length:=by omega
  have L:i<ks.length:=by rw[J.1];exact r
  obtain⟨is,U⟩:=J.2 i ks[i] items[i] (aw L) (aw r);refine EJ ?_;refine aa (wpAny_pyNext_list_item (A:=A.in1) (x:=items[i]) it f (by simp[r]) λG q c=>?_);have v:LP P w G S ks i:=C.at λo z=>(c.2 S n1).trans z;show wpAny _ A.in1 (holding [items[i]] (setAdd S items[i]) >>= _) _ _ {s with heap:=G};refine aa (cf (show wpAny _ _ (setAdd S items[i]) _ _ _ from ?_));unfold setAdd;refine cf (aa ((bU P w).pyHash (k:=ks[i]) is ?_));refine wpAny_setAddHashed_of (knd:=bU P w) (s:={s with heap:=G,toks:=s.toks+1}) is U v (by omega) λN a d=>?_;have new:((ks.take i).any λx=>decide (x=ks[i]))=false:=by rw[List.any_eq_false];intro x X z;have z:=bo z;obtain⟨m,Y,H⟩:=List.mem_iff_getElem.mp X;rw[z]at H;rw[bq]at Y;rw[List.getElem_take]at H;have:=(List.getElem_inj nd).mp H;omega
  rw[new]at d;have fe:(λK=>((ks.take i).any λx=>decide (x=K)) || decide (K=ks[i]))=λk=>(ks.take (i+1)).any λx=>decide (x=k):=by funext k;rw[List.take_succ_eq_append_getElem L,List.any_append,List.any_cons,List.any_nil,Bool.or_false];congr 1;exact decide_eq_decide.mpr eq_comm
  rw[fe]at d;have u:LP P w N S ks (i+1):=d;refine ak ⟨plainId_quiet F.plain_set_update_loop _,W (i+1) {s with heap:=N,toks:=s.toks+1} (by omega) ?_ ?_ u λh' tk B kp=>?_⟩
  ·obtain⟨o,h,g⟩:=q;exact⟨o,(a.2 I n1.symm).trans h,g⟩
  ·obtain⟨o,h,g⟩:=f;exact⟨o,(a.2 l n3).trans ((c.2 l n2).trans h),g⟩
  ·exact E h' tk B λb o Q T z=>kp b o Q T ((a.2 b Q).trans ((c.2 b T).trans z))
theorem G9 {E:cL}{s:Shared}{l:Addr}{items:cC}{ks:List dQ}{Q:cL}(J:A.handled=none)(I:s.heap.IsList l items.toArray)(H:yY items ks)(nd:ks.Nodup)(L:items.length+1<scanBound)
  (h:∀(h':Heap) (tk:Nat),LP P w h' s.heap.objs.size ks items.length->(∀b o,s.heap.get? b=some o->h'.get? b=some o)->Q (.ref s.heap.objs.size) {s with heap:=h',toks:=tk}) :
  wpAny (model P w) A (call (.type "set") [.ref l]) Q E s:=by
 obtain⟨c,tl,X⟩:=F.called_set.mro;have W:=F.called_set.made;have U:=F.called_set.sub;refine wpAny_call (codeAny_of_tree (ak ⟨Code.quiet_builtin _ (by decide +kernel),codeAny_builtin F.entry_type_call ?_⟩));have z:=weight_type_call_type "set" [.ref l] [];rw[Around.under_plain z rfl];have T:=F.called_set.notType;have S:=F.called_set.canCreate;have O:=F.typeCall_set_1 (.ref l)
 walk_at "sd_on"
 refine codeAny_mono (code_set_new_1 (.ref l) (E:=E) (Q₁:=λobj v=>∃a:Bool,obj = .ref s.heap.objs.size/\v={s with heap:=s.heap.push {cls:=.type "set",dict:=none,data:=.set #[] 0 (.fresh 0 0 a)} }) λa=>⟨a,rfl,rfl⟩) λr v g=>?_;cases r with
 | error e=>exact g
 | ok fl =>
  cases fl with
  | next=>exact g.elim
  | brk=>exact g.elim
  | cont=>exact g.elim
  | ret obj =>
   obtain⟨a,rfl,rfl⟩:=g;have x:(s.heap.push {cls:=.type "set",dict:=none,data:=.set #[] 0 (.fresh 0 0 a)}).get? s.heap.objs.size=some {cls:=.type "set",dict:=none,data:=.set #[] 0 (.fresh 0 0 a)}:=ar _ rfl;have B:Shared.TypeIs {s with heap:=s.heap.push {cls:=.type "set",dict:=none,data:=.set #[] 0 (.fresh 0 0 a)} } (.ref s.heap.objs.size) "set":=⟨_,x,rfl⟩
   have i1:=F.called_set.init.lookup;have i2:=F.called_set.init.bind (.ref s.heap.objs.size)
   walk_at "sd_on"
   refine codeAny_mono (codeAny_call_builtin (R:=wants (λr s2=>r = .none/\∃h' tk,s2={s with heap:=h',toks:=tk}/\LP P w h' s.heap.objs.size ks items.length/\∀b o,s.heap.get? b=some o->h'.get? b=some o) E) F.called_set.init.plain F.entry_set_init (check_set_init_1 B ?_)) λG s2 d=>?_
   ·obtain⟨⟨c1,d1,t1,C⟩,ho,j,n1,i⟩:=id I;simp only at j i;subst j i;have ho':=af {cls:=.type "set",dict:=none,data:=.set #[] 0 (.fresh 0 0 a)} ho;have j1:=F.sub_list_set;have Z:=F.sub_list_frozenset;have Y:(Value.type "list" == Value.type "dict")=false:=by decide
    have hl':(s.heap.push {cls:=.type "set",dict:=none,data:=.set #[] 0 (.fresh 0 0 a)}).IsList l items.toArray:=⟨_,ho',rfl,n1,rfl⟩
    unfold Builtin.«set.__init__» Builtin.Frozenset.updateFrom noKeywords;generalize u:pyIter=PI
    wp_walk
    subst u;refine wpAny_pyIter_list hl' (aa (wpAny_runValue ?_));have lt:=az ho;have m:(s.heap.push {cls:=.type "set",dict:=none,data:=.set #[] 0 (.fresh 0 0 a)}).objs.size=s.heap.objs.size+1:=Heap.size_push _ _;refine IO (P:=P) (w:=w) (items:=items) (ks:=ks) (l:=l) (by simp[J]) H nd L (by rw[m];exact bj (Nat.lt_succ_self _)) (by rw[m];exact bj (Nat.lt_succ_of_lt lt)) (bj lt) items.length 0 _ (Nat.zero_add _) ⟨_,ar _ rfl,rfl,rfl⟩ (hl'.push _) ?_ λh' tk f kp=>?_
    ·have N:=af {cls:=.type "list_iterator",data:=.fields #[.ref l,.int 0 0]} x;refine⟨_,#[],0,.fresh 0 0 a,N,⟨rfl,rfl,rfl⟩,rfl,(λe K=>absurd K (by simp)),λk=>?_,(by show 0<scanBound;omega),(by cases a <;> decide),rfl⟩;simp
    ·refine ak (ak ⟨rfl,h',tk,rfl,f,λb o e=>kp b o (bj (az e)) (by rw[m];exact bj (Nat.lt_succ_of_lt (az e))) (af _ (af _ e))⟩)
   ·cases G with
    | error e=>exact d
    | ok f2 =>
     cases f2 with
     | next=>exact d.elim
     | brk=>exact d.elim
     | cont=>exact d.elim
     | ret r =>
      obtain⟨rfl,h',tk,rfl,f,q⟩:=d
      walk_at "sd_on"
      exact h _ _ f q
end
noncomputable abbrev BB (P:Program)(w:World)(a:Addr)(n:Nat):HO:=.ext λh=>∃ks,LP P w h a ks n
theorem LZ {P:Program}{w:World}{H:Hp}{h:Heap}{a:Addr}{n:Nat}{ks:List dQ}(x:LP P w h a ks n):cB P w H h a (BB P w a n):=by refine⟨⟨ks,x⟩,?_,λd c ⟨b,y⟩ k=>⟨b,y.at λo e=>k o e⟩⟩;obtain⟨o,_,_,_,e,_⟩:=x;exact⟨o,e⟩
theorem C4:∀{b:aV} {us:cC},aX (b.map V.str) us->yY us (b.map Sum.inr):=by
 intro b us h;refine⟨by rw[ae,←h.length,ae],λi k v a e=>?_⟩;rw[bw]at a;cases hs:b[i]? with
 | none=>rw[hs]at a;cases a
 | some x =>
  rw[hs]at a;cases a;obtain⟨u,c,d⟩:=h.get (i:=i) (x:=.str x) (by rw[bw,hs];rfl);rw[e]at c;cases c;obtain⟨t,rfl⟩:=d;exact⟨pX x t,rfl⟩
section
variable {X:Cx}
def rSetT (P:Program)(w:World):List V->Hp->VK->Prop:=λxs H Q=>∃(l:Addr) (ss:aV),xs=[.ref l]/\H l=some (.lst (ss.map V.str))/\ss.Nodup/\ss.length<=100/\∀p,H p=none->Q (.ref p) (upd H p (BB P w p ss.length))
theorem v9 (j:X.calm=true):d9 X (.type "set") (rSetT X.prog X.w):=by
 intro b s σ H xs us Q I d h;obtain⟨l,a,rfl,i,nd,le,q⟩:=h;obtain⟨u,rfl,f⟩:=aX.one d;cases f;obtain⟨its,r,pl,hz⟩:=I.list (eK.of i);have len:its.length=a.length:=by rw[←r.length,ae]
 refine G9 (P:=X.prog) (w:=X.w) (I.ok.hd j) pl.isList (C4 r) ((List.pairwise_map.mpr (nd.imp λh e=>h (Sum.inr.inj e)))) (by rw[len];exact aj (Nat.succ_le_succ le) (by decide)) λh' tk c kp=>?_;have g:H s.heap.objs.size=none:=I.hok.fresh (ac _);rw[len]at c;exact⟨.ref s.heap.objs.size,_,I.laid (t':=tk) (o:=BB X.prog X.w s.heap.objs.size a.length) kp (ac _) (LZ c),rfl,q _ g⟩
def rLenS (P:Program)(w:World):List V->Hp->VK->Prop:=λxs H Q=>∃(a:Addr) (n:Nat),xs=[.ref a]/\H a=some (BB P w a n)/\Q (.int n) H
theorem wA:d9 X (.builtin "len") (rLenS X.prog X.w):=by intro c s σ H xs us Q I d h;obtain⟨a,n,rfl,j,q⟩:=h;obtain⟨u,rfl,e⟩:=aX.one d;cases e;obtain⟨⟨ks,o,es,l,t,ho,b,hd,_,_,i,g,f⟩,_⟩:=I.hok a _ j;have m:es.size<4096:=i;refine call_len_set ho b hd g (by omega) ?_;rw[f];exact⟨.int n,H,I.tok _,⟨_,rfl⟩,q⟩
def rRevL:V->Option Int->Option Int->Option Int->Hp->VK->Prop:=λx b c st H Q=>b=none/\c=none/\st=some (-1)/\∃a xs,x = .ref a/\H a=some (.lst xs)/\∀p,H p=none->Q (.ref p) (upd H p (.lst xs.reverse))
theorem sI (its:cC):(List.range its.length).filterMap (λm=>its.toArray[its.length - 1 - m]?)=its.reverse:=by
 have e:(List.range its.length).filterMap (λm=>its.toArray[its.length - 1 - m]?)=((List.range its.length).map (its.length - 1 - ·)).filterMap (λj=>its.toArray[j]?):=by rw[List.filterMap_map];rfl
 have a:(List.range its.length).map (its.length - 1 - ·)=(List.range its.length).reverse:=by
  apply List.ext_getElem
  ·simp
  ·intro i c b;simp
 rw[e,a,List.filterMap_reverse];have r:=pick_run its.toArray 0 its.length;simp only[Nat.zero_add,List.drop_zero,List.map_id']at r;rw[r];simp
theorem IZ (its:cC):slicePick its.toArray none none (some (-1))=its.reverse.toArray:=by
 unfold slicePick;rw[ag];have e:sliceBounds none none (some (-1)) its.length=((its.length:Int) - 1,-1,-1):=by
  simp only[sliceBounds,Option.getD_some];refine Prod.ext ?_ (Prod.ext ?_ rfl)
  ·simp
  ·simp
 rw[e];have b:sliceRange ((its.length:Int) - 1) (-1) (-1)=(List.range its.length).map λm=>its.length - 1 - m:=by
  unfold sliceRange;have c:(if (-1:Int) > 0 then(if (its.length:Int) - 1 < -1 then(-1 - ((its.length:Int) - 1) + -1 - 1) / -1 else 0)else(if (its.length:Int) - 1 > -1 then((its.length:Int) - 1 - -1 - -1 - 1) / (- -1)else 0)).toNat=its.length:=by
   rw[ab (by decide)];split
   ·rw[show(- -1:Int)=1 from rfl,Int.ediv_one];omega
   ·omega
  dsimp only;rw[c];refine List.map_congr_left λm a=>?_;have:=List.mem_range.mp a;omega
 dsimp only;rw[b,List.filterMap_map];exact congrArg List.toArray (sI its)
theorem PB:LG X rRevL:=by intro c s σ H x v u l m z A st w Q I f i pl g pt h;obtain⟨rfl,rfl,rfl,a,xs,rfl,j,q⟩:=h;cases f;obtain⟨its,r,e,hz⟩:=I.list (eK.of j);refine⟨"list",_,slot_list_getitem.lookup,e.isList.typeIs,?_⟩;have d:=r.length;refine wpAny_getItem_list_slice e.isList i pl g pt (by decide) ?_ (by rw[ag] <;> omega);rw[IZ];refine⟨.ref s.heap.objs.size,_,I.laid (t':=s.toks) (o:=.lst xs.reverse) (λb ob q=>af _ q) (ac _) ?_,rfl,q _ (I.hok.fresh (ac _))⟩;exact⟨by rw[List.length_reverse];exact hz,_,0,r.reverse,ar _ rfl⟩
end
def rRevI:V->Option Int->Option Int->Option Int->Hp->VK->Prop:=λx b c st H Q=>b=some (-2)/\c=none/\st=some (-1)/\∃a xs,x = .ref a/\H a=some (.lst xs)/\xs≠[]/\∀p,H p=none->Q (.ref p) (upd H p (.lst xs.dropLast.reverse))
theorem AU {α β:Type}{f g:α->Option β}:∀{l:List α},(∀x∈l,f x=g x)->l.filterMap f=l.filterMap g:=by
 intro l
 induction l with
 | nil=>intro _;rfl
 | cons a l b=>intro h;rw[List.filterMap_cons,List.filterMap_cons,h a av,b λx c=>h x (ay _ c)]
theorem F9 (its:cC)(h:its≠[]):slicePick its.toArray (some (-2)) none (some (-1))=its.dropLast.reverse.toArray:=by
 obtain⟨k,hk⟩:∃k,its.length=k+1:=⟨its.length - 1,by have:=List.length_pos_iff.mpr h;omega⟩
 unfold slicePick;rw[ag,hk];have e:sliceBounds (some (-2)) none (some (-1)) (k+1)=((k:Int) - 1,-1,-1):=by
  simp only[sliceBounds,Option.getD_some];refine Prod.ext ?_ (Prod.ext ?_ rfl)
  ·simp <;> omega
  ·simp
 rw[e];have d:sliceRange ((k:Int) - 1) (-1) (-1)=(List.range k).map λm=>k - 1 - m:=by
  unfold sliceRange;have c:(if (-1:Int) > 0 then(if (k:Int) - 1 < -1 then(-1 - ((k:Int) - 1) + -1 - 1) / -1 else 0)else(if (k:Int) - 1 > -1 then((k:Int) - 1 - -1 - -1 - 1) / (- -1)else 0)).toNat=k:=by
   rw[ab (by decide)];split
   ·rw[show(- -1:Int)=1 from rfl,Int.ediv_one];omega
   ·omega
  dsimp only;rw[c];refine List.map_congr_left λm a=>?_;have:=List.mem_range.mp a;omega
 dsimp only;rw[d,List.filterMap_map];have b:its.dropLast.length=k:=by rw[List.length_dropLast,hk];rfl
 have r:=sI its.dropLast;rw[b]at r;rw[←r];refine congrArg List.toArray (AU λm a=>?_);have:=List.mem_range.mp a;show its.toArray[k - 1 - m]?=its.dropLast.toArray[k - 1 - m]?;rw[List.getElem?_toArray,List.getElem?_toArray,List.getElem?_dropLast,ai (by omega)]
section
variable {X:Cx}
theorem rJ:LG X rRevI:=by intro c s σ H x v u l m z A st w Q I f i pl g pt h;obtain⟨rfl,rfl,rfl,a,xs,rfl,j,ne,q⟩:=h;cases f;obtain⟨its,r,e,hz⟩:=I.list (eK.of j);refine⟨"list",_,slot_list_getitem.lookup,e.isList.typeIs,?_⟩;have d:=r.length;refine wpAny_getItem_list_slice e.isList i pl g pt (by decide) ?_ (by rw[ag] <;> omega);rw[F9 its (wP r ne)];refine⟨.ref s.heap.objs.size,_,I.laid (t':=s.toks) (o:=.lst xs.dropLast.reverse) (λb ob q=>af _ q) (ac _) ?_,rfl,q _ (I.hok.fresh (ac _))⟩;exact⟨by rw[List.length_reverse,List.length_dropLast];omega,_,0,r.dropLast.reverse,ar _ rfl⟩
end
def tOrT (K:PySem.W.Frag)(b tb:TE):TE:=λσ H Q=>b σ H λx a=>∃c,LD K x a c/\if c=true then Q x a else tb σ a Q
theorem PL {X:Cx}{a b:Expr}{rest:jW}{e:Pos}{f tb:TE}(r:PE X a f)(q:PE X (.BoolOp .Or (b::rest) e) tb):PE X (.BoolOp .Or (a::b::rest) e) (tOrT X.K f tb):=by
 intro d s σ H Q I h;refine BoolOp_or (thn (r d s σ H _ I h) λv o ⟨x,l,z,r1,c,m,g⟩=>?_);refine thn (HX d o σ l x v (λk H'=>k=c/\H'=l) z r1 ⟨c,m,rfl,rfl⟩) λk s2 ⟨j,i,w,u⟩=>?_;subst w u;cases k with
 | true=>exact⟨x,j,i,r1,g⟩
 | false=>exact q d s2 σ j Q i g
def R0 (P:Program)(w:World)(K:PySem.W.Frag)(a:Addr)(b:List (dQ×V)):Prop:=(a == sysModules)=false/\∀h:Heap,K.In h->∃vs,KV b vs/\h.DictOf (bU P w) a vs
section
variable {X:Cx}{a:Addr}{kvs:List (dQ×V)}
def O1 (a:Addr)(b:List (dQ×V))(c ty:TE):TE:=λσ H Q=>c σ H λx e=>ty σ e λy d=>∃k v,x = .ref a/\y=kV k/\valV b k=some v/\Q v d
theorem JF {o i:Expr}{f:Pos}{g ty:TE}(G:R0 X.prog X.w X.K a kvs)(ho:PE X o g)(E:PE X i ty)(C:N4 i):PE X (.Subscript o i f) (O1 a kvs g ty):=by intro b s σ H Q I h;refine wV PySem.F.slot_dict_getitem.lookup C (thn (ho b s σ H _ I h) λu m ⟨x,O,L,r,A⟩=>thn (E b m σ O _ L A) λR s2 ⟨y,N,l,q,k,v,ex,J,e,z⟩=>?_);subst ex J;obtain rfl:u=Value.ref a:=r;obtain⟨vs,d,j⟩:=G.2 _ l.kIn;obtain⟨P,B,c⟩:=j7.some_of (v:=v) (o:=valueAt vs k) (by rw[←e];exact d.val k);exact⟨j.typeIs,wpAny_getItem_of (lP q) j.mapOf B ⟨v,N,l.tok _,c,z⟩⟩
theorem GE (d:R0 X.prog X.w X.K a kvs):iP X (compareOp .NotIn) (λx y H Q=>y = .ref a/\∃k,x=kV k/\Q (.bl (!(valV kvs k).isSome)) H):=by intro c s σ H x y u v Q I f e h;obtain⟨rfl,k,rfl,q⟩:=h;obtain rfl:v=Value.ref a:=e;obtain⟨vs,b,g⟩:=d.2 _ I.kIn;refine wpAny_notIn_of (lP f) d.1 g.mapOf ?_;rw[←(b.val k).isSome_eq];exact⟨.bl _,H,I.tok _,rfl,q⟩
end
def yW (P:Program)(w:World)(K:PySem.W.Frag)(mg:iH)(base:Heap)(CX:BO)(k:Nat)(f:Addr)(b:Sp):Prop:=∃a ps,bN P w K mg base CX k f a ps b/\PySem.W.keepIn K (.ref f)=true/\eY K a ps []
def O5 (Tb:Addr->Sp->Prop)(i:Nat)(t:TA):TE:=λσ H Q=>∃f a,σ[i]?=some (some (.ref f))/\Tb f a/\t σ H λvs b=>a (vs++[]) b Q E0
theorem ME {X:Cx}{Tb:Addr->Sp->Prop}{k i:Nat}{x:Str}{e:Expr}{es:jW}{t:TA}{p b:Pos}(O:∀f c,Tb f c->yW X.prog X.w X.K X.mg X.base bH k f c)(R:X.N[i]?=some x)(B:RA X.env.scope x)(C:d5 k X.A)(z:jS bH X E0)(P:PA X (e::es) t)
  (J:starEach (e::es) X.env=(false,eval e X.env)::starEach es X.env:=by rfl) (d:(backTo b (starEach es X.env)).any (·.1)=false:=by rfl) (hd:(x == ("__debug__" : Str))=false:=by decide) (g:(x == ("__classdict__" : Str))=false:=by decide):PE X (.Call (.Name x p) (e::es) [] b) (O5 Tb i t):=by
 intro a s σ H Q I h;obtain⟨f,c,G,tb,h⟩:=h;obtain⟨Z,ps,F,E,L⟩:=O f c tb;have v:PE X (.Name x p) (tVar i):=xJ R B hd g;refine wpAny_Call_Name_kw (thn (v a s σ H (λy H'=>y = .ref f/\H'=H) I ⟨_,G,rfl,rfl⟩) λu m ⟨y,U,l,o,T,S⟩=>?_);subst T S;obtain rfl:u=Value.ref f:=o;exact PySem.W.callWith_K (h₀:=X.base) l.ok.mod.kin E (thn (P b a m σ U _ l h) λus Y ⟨vs,H1,j,r,q⟩=>⟨j.kIn,B7 F C L .nil z j r q⟩) J d
def rEqW:R2:=λx y H Q=>∃d e,aT H d x/\aT H e y/\depD d<=150/\Q (.bl (eqD d e)) H
theorem pS {X:Cx}(g:X.A.units+160<cLine):iP X (compareOp .Eq) rEqW:=by intro a s σ H x y v u Q I c b h;obtain⟨d,e,hd,f,hz,q⟩:=h;exact rcAtD I.hok d e X.A x y v u hd f c b (by omega) X.prog X.w X.xe _ ⟨.bl _,H,I,rfl,q⟩
theorem sM {α β:Type}{F:α->β->Prop}:∀{l:List α} {m:List β} {i:Nat} {x:α},Paired F l m->l[i]?=some x->∃y,m[i]?=some y/\F x y
 | _,_,_,_,.nil,h=>by simp at h
 | _,_,0,_,.cons r _,h=>by simp at h;subst h;exact⟨_,rfl,r⟩
 | _,_,i+1,_,.cons _ t,h=>by obtain⟨y,b,a⟩:=sM t (by simpa using h);exact⟨y,by simpa using b,a⟩
section
variable {β:Type}{F:Heap->Addr->β->Prop}{e0:β}{mk:Sem Value}{ce:Expr}{cls:List Comprehension}
variable {X:Cx}{scope:Scope}{N':aV}{src:List (Option Nat)}{pins:c9}{σ:St}{H₂:Hp}{s₂:Shared}{fp:List Addr}{it:Addr}{tn:LL}{J:It}{tg iter:Expr}{ifs:jW}{g:TG}{tt:TT}{tl:β->St->Hp->(β->Hp->Prop)->Prop}
end
section
variable {X:Cx}
def rCatS:R2:=λx y H Q=>∃(a b:Addr) (xs ys:List V),x = .ref a/\y = .ref b/\H a=some (.tup xs)/\H b=some (.tup ys)/\xs.length+ys.length<=sizeLine/\∀p H',aD H H'->H' p=some (.tup (xs++ys))->Q (.ref p) H'
theorem gI:iP X (binaryOp .Add) rCatS:=by
 intro c s σ H x y v u Q I i g h;obtain⟨a,b,xs,f,C,B,e,d,hz,q⟩:=h;by_cases ne:xs=[]
 ·subst ne C B;cases i;cases g;obtain⟨_,its,r1,G⟩:=(show cB X.prog X.w H s.heap a (.tup [])from I.hok a _ e)
  obtain⟨_,its2,R,E⟩:=(show cB X.prog X.w H s.heap b (.tup f)from I.hok b _ d)
  cases r1;obtain⟨⟨T,O,t1,K⟩,l,A,n1,o⟩:=G;obtain⟨⟨S,N,P,J⟩,j,r,n2,m⟩:=E;dsimp only at A o r m;subst A o r m;exact concat_meets ⟨_,l,rfl⟩ ⟨_,j,rfl⟩ noFill_tuple_add seq_tuple_add PySem.F.slot_tuple_add PySem.F.entry_tuple_add (PySem.F.args_tuple_add_2 _ _) (tuple_addW0 a b #[] its2.toArray n1 n2 O N K J rfl) ⟨l,j,.ref b,H,I,rfl,q b H (aD.refl _) d⟩
 ·exact EE c s σ H x y v u Q I i g ⟨a,b,xs,f,C,B,hZ.of e,hZ.of d,ne,hz,λz=>q a H (aD.refl _) (by rw[z,bi];exact e),λ_ p L=>q p _ (aD.upd L) upd_same⟩
end
section
variable {β:Type}{J:It}{g:TG}{tt:TT}{te:TE}{tb:TS}{D:iM}{tl:β->St->Hp->(β->Hp->Prop)->Prop}{Fin:β->Hp->Prop}{σ:St}{H:Hp}{e0:β}
theorem EY {n:Nat}(Pv:Nat->St->Hp->Prop)(c:Pv 0 σ H)(b:∀i σ H,i<n->Pv i σ H->J.go i H/\∀x H',J.yld i H x H'->g x σ H' λa d=>tb {D with nx:=Pv (i+1),ct:=Pv (i+1),bk:=D.nx} a d)
  (hd:∀σ H,Pv n σ H->J.stop n H/\D.nx σ H):nQ J g tb D σ H:=by
 refine⟨λi m σ H=>m=n - i/\i<=n/\Pv i σ H,⟨n,by simp,au _,c⟩,?_⟩;rintro i m σ H ⟨rfl,f,p⟩;by_cases lt:i<n
 ·obtain⟨go,step⟩:=b i σ H lt p;exact .inr ⟨go,Pv (i+1),λe H' q=>⟨n - (i+1),by omega,rfl,lt,q⟩,step⟩
 ·obtain rfl:i=n:=by omega
  exact .inl (hd σ H p)
end
section
variable {β:Type}{F:Heap->Addr->β->Prop}{e0:β}{mk:Sem Value}{ce:Expr}{cls:List Comprehension}{ob:HO}
variable {X:Cx}{scope:Scope}{N':aV}{src:List (Option Nat)}{pins:c9}{σ:St}{H₂:Hp}{s₂:Shared}{fp:List Addr}{it:Addr}{tn:LL}{J:It}{tg iter:Expr}{ifs:jW}
variable {g:TG}{tt:TT}{tl:β->St->Hp->(β->Hp->Prop)->Prop}
end
noncomputable def wD (P:Program)(w:World)(a:Addr)(o:Obj)(b:List (dQ×V)):HO:=.ext λh=>h.get? a=some o/\cB P w (λ_=>none) h a (.dK b)
section
variable {P:Program}{w:World}{H:Hp}{h:Heap}{a:Addr}{o:Obj}{kvs:List (dQ×V)}{es:Array DictEntry}{ep:Nat}
theorem RF (e:h.get? a=some o)(k:cB P w H h a (.dK kvs)){H':Hp}:cB P w H' h a (wD P w a o kvs) :=
 ⟨⟨e,k⟩,⟨o,e⟩,λf d ⟨b,z,y,vs,r,ob,es,c,g,rest⟩ k=>⟨k _ b,z,y,vs,r,ob,es,c,k _ g,rest⟩⟩
theorem HP (ok:gQ P w H h)(e:H a=some (wD P w a o kvs)):h.get? a=some o/\cB P w H h a (.dK kvs):=(ok a _ e).1
theorem QE {k:dQ}{u:Value}(h:(bU P w).is k u=true):aU (kV k) u:=by
 rcases c5 ((CU P w k u).symm.trans h)with⟨i,t,rfl,rfl⟩|⟨x,t,rfl,rfl⟩
 ·exact⟨t,rfl⟩
 ·exact⟨t,rfl⟩
end
section
variable {X:Cx}{pins:c9}{σ:St}{H:Hp}{s:Shared}{a:Addr}{kvs:List (dQ×V)}
theorem aQ.walkD (I:aQ X pins σ H s)(e:H a=some (.dK kvs)):∃o es c,s.heap.get? a=some o/\o.data = .dict es c/\aQ X pins σ (upd H a (wD X.prog X.w a o kvs)) s:=by
 obtain⟨z,y,vs,r,o,es,c,b,f,d,rest⟩:=(show cB X.prog X.w H s.heap a (.dK kvs)from I.hok a _ e)
 exact⟨o,es,c,b,d,yM (t':=s.toks) I (by rw[e];trivial) ⟨rfl,λ_ _=>rfl⟩ ⟨o,b⟩ (RF (H:=H) b ⟨z,y,vs,r,o,es,c,b,f,d,rest⟩)⟩
theorem aQ.melt {o:Obj}(I:aQ X pins σ H s)(e:H a=some (wD X.prog X.w a o kvs)):aQ X pins σ (upd H a (.dK kvs)) s:=by obtain⟨g,k⟩:=HP I.hok e;exact yM (t':=s.toks) I (by rw[e];trivial) ⟨rfl,λ_ _=>rfl⟩ ⟨o,g⟩ k
end
def OL (P:Program)(w:World)(H H':Hp):Prop:=H'=H∨∃a o b,H a=some (wD P w a o b)/\H'=upd H a (.dK b)
theorem aQ.melts {X:Cx}{b:c9}{σ:St}{H H':Hp}{s:Shared}(I:aQ X b σ H s)(m:OL X.prog X.w H H'):aQ X b σ H' s:=by
 rcases m with rfl|⟨a,o,c,e,rfl⟩
 ·exact I
 ·exact I.melt e
def sMelt (P:Program)(w:World)(t:TS):TS:=λD σ H=>t {D with nx:=λσ b=>∃a,OL P w b a/\D.nx σ a} σ H
theorem L9 {X:Cx}{st:Stmt}{t:TS}(h:PS X st t):PS X st (sMelt X.prog X.w t):=λa s σ H D I q =>
 thn (h a s σ H _ I q) λfl f z=>by
  cases fl with
  | next =>
   obtain⟨b,H',d,e,m,c⟩:=z;exact⟨b,e,d.melts m,c⟩
  | ret u=>exact z
  | brk=>exact z
  | cont=>exact z
noncomputable def SJ (P:Program)(w:World)(a:Addr)(o:Obj)(b:List (dQ×V)):It :=
 ⟨λi H=>H a=some (wD P w a o b)/\i<b.length,λi H x H'=>∃k v,b[i]?=some (k,v)/\x=kV k/\H'=H,λi H=>H a=some (wD P w a o b)/\b.length<=i⟩
theorem pF {P:Program}{w:World}{H:Hp}{h:Heap}{a:Addr}{o:Obj}{b:List (dQ×V)}{es:Array DictEntry}{f:Nat}(ok:gQ P w H h)(e:H a=some (wD P w a o b))(hd:o.data = .dict es f):∃vs,KV b vs/\h.DictAt (bU P w) a vs f:=by obtain⟨g,_,_,vs,r,m,j,l,d,i,c,rest⟩:=HP ok e;rw[g]at d;cases d;rw[hd]at c;cases c;exact⟨vs,r,o,es,g,i,hd,rest⟩
theorem FQ {P:Program}{w:World}{K:PySem.W.Frag}{O:Expr}(a it:Addr)(o:Obj)(es:Array DictEntry)(N:Nat)(f:List (dQ×V))(hd:o.data = .dict es N) :
  oY P w K O (SJ P w a o f) [it] it (λi h=>h.IsKeyIter it a i f.length N) where
 mem:=cm.mpr rfl
 obj:=λi h st b m=>by rw[cm.mp m];obtain⟨o,e,c,d⟩:=st;exact⟨o,e,λv z=>by rw[d]at z;cases z⟩
 keep:=λi h h' st k=>st.at λo e=>k it (cm.mpr rfl) o e
 item:=by rintro X C A F L i g s σ H E I x st ⟨B,q⟩;subst C A F;obtain⟨vs,r,J⟩:=pF I.hok B hd;obtain⟨⟨k,u⟩,S,R,Z⟩:=sM r (aw q);cases (show f[i].1=k from R);obtain⟨f0,f1,f2,f3,f4,G⟩:=x it (cm.mpr rfl);have l:f.length=vs.length:=Paired.length r;rw[l]at st;refine wpAny_pyNext_dict_item st J S λkey h' T j Q=>?_;have Y:aQ X g σ H {s with heap:=h'}:=I.turned (t':=s.toks) (λb o m e=>(Q.2 b m).trans e) f0 f1 f3 f4 G;obtain⟨o,e,c,d⟩:=id j;rw[←l]at j;exact⟨key,rfl,vP (s:={s with heap:=h'}) e c d (by decide) ⟨_,H,Y,QE T,⟨f[i].1,f[i].2,aw q,rfl,rfl⟩,j,λb m=>(x b m).1⟩⟩
 done:=by rintro X C A F L i g s σ H E I x st ⟨B,q⟩;subst C A F;obtain⟨vs,r,J⟩:=pF I.hok B hd;obtain⟨f0,f1,f2,f3,f4,G⟩:=x it (cm.mpr rfl);have l:f.length=vs.length:=Paired.length r;rw[l]at st q;exact wpAny_pyNext_dict_end (I.ok.hd L) st J (List.getElem?_eq_none q) λh' U=>⟨rfl,I.turned (t':=s.toks) (λb o m e=>U b o m e) f0 f1 f3 f4 G⟩
 self:=λ_ _ _ _ _ st h=>wpAny_pyIter_keyiter st h
def iKeys (P:Program)(w:World)(d:TE):TI:=λσ H R=>d σ H λx c=>∃a b,x = .ref a/\c a=some (.dK b)/\∀o,R (SJ P w a o b) (upd c a (wD P w a o b))
theorem MC {X:Cx}{v e:Expr}{i:TE}(B:PE X e i):PI X v e (iKeys X.prog X.w i):=by intro f s σ H R I h;refine thn (B f s σ H _ I h) λu z ⟨x,J,o,A,a,d,ex,m,q⟩=>?_;subst ex;cases A;obtain⟨_,_,t3⟩:=C9 o (.inl ⟨d,.inl m⟩);obtain⟨ob,es,E,G,j,g⟩:=o.walkD m;obtain⟨vs,r,F⟩:=pF g.hok upd_same j;have l:d.length=vs.length:=Paired.length r;refine wpAny_pyIter_dict t3 F ?_;refine⟨_,[_],_,_,_,rfl,g.kept (t':=z.toks) λb u e=>af _ e,FQ a _ ob es E d j,⟨_,ar _ rfl,rfl,by rw[l];rfl⟩,λc C=>?_,q ob⟩;rw[cm.mp C];exact g.fpOk (ac _) (g.hok.fresh (ac _))
section
variable {g:TG}{tb:TS}{D:iM}{σ:St}{H:Hp}{P:Program}{w:World}{a:Addr}{o:Obj}{kvs:List (dQ×V)}
theorem G0 (Pv:Nat->St->Hp->Prop)(f:Pv 0 σ H)(b:∀i σ H,Pv i σ H->H a=some (wD P w a o kvs))
  (d:∀i k v σ H,kvs[i]?=some (k,v)->Pv i σ H->g (kV k) σ H λc h=>tb {D with nx:=Pv (i+1),ct:=Pv (i+1),bk:=D.nx} c h)
  (hd:∀σ H,Pv kvs.length σ H->D.nx σ H):nQ (SJ P w a o kvs) g tb D σ H :=
 EY (n:=kvs.length) Pv f (λi σ H lt p=>⟨⟨b i σ H p,lt⟩,λx H' y=>by
  obtain⟨k,v,e,rfl,rfl⟩:=y
  exact d i k v σ _ e p⟩) λσ H p=>⟨⟨b _ σ H p,ac _⟩,hd σ H p⟩
end
def QW (P:Program)(w:World)(H:Hp)(a:Addr)(b:List (dQ×V)):Prop:=H a=some (.dK b)∨∃o,H a=some (wD P w a o b)
theorem QW.same {P:Program}{w:World}{H H':Hp}{a:Addr}{b:List (dQ×V)}(h:QW P w H a b)(s:aD H H'):QW P w H' a b:=h.elim (λe=>.inl (s _ _ e)) λ⟨o,e⟩=>.inr ⟨o,s _ _ e⟩
theorem QW.dict {P:Program}{w:World}{H:Hp}{h:Heap}{a:Addr}{b:List (dQ×V)}(d:QW P w H a b)(ok:gQ P w H h):∃vs,KV b vs/\h.DictOf (bU P w) a vs:=by obtain⟨_,_,vs,r,dd⟩:cB P w H h a (.dK b):=d.elim (λe=>ok a _ e) λ⟨o,e⟩=>(HP ok e).2;exact⟨vs,r,dd⟩
def O0 (P:Program)(w:World)(d ty:TE):TE:=λσ H Q=>d σ H λx e=>ty σ e λy c=>∃a b k v,x = .ref a/\QW P w c a b/\y=kV k/\valV b k=some v/\Q v c
theorem JE {X:Cx}{o i:Expr}{e:Pos}{f ty:TE}(ho:PE X o f)(J:PE X i ty)(G:N4 i):PE X (.Subscript o i e) (O0 X.prog X.w f ty):=by intro b s σ H Q I h;refine wV PySem.F.slot_dict_getitem.lookup G (thn (ho b s σ H _ I h) λu q ⟨x,O,L,z,B⟩=>thn (J b q σ O _ L B) λR s2 ⟨y,N,m,r,a,C,k,v,ex,g,K,l,A⟩=>?_);subst ex K;obtain rfl:u=Value.ref a:=z;obtain⟨vs,d,j⟩:=g.dict m.hok;obtain⟨P,E,c⟩:=j7.some_of (v:=v) (o:=valueAt vs k) (l ▸ d.val k);exact⟨j.typeIs,wpAny_getItem_of (lP r) j.mapOf E ⟨v,N,m.tok _,c,A⟩⟩
end L2
namespace L2
open PySem PySem.Spec PyProof.Rows PySem.SeqAt
section
variable {X:Cx}{pins:c9}{σ:St}{H:Hp}{s:Shared}
variable {x:Str}{C:Addr}{p pos:Pos}{e:Expr}{es:jW}{ta:TA}
end
section
variable {a:Addr}{z:Str}{k:Tok}
variable {s:Shared}{A:Around}
end
end L2
namespace L2
open PySem PySem.Spec PyProof.Rows
section
variable {P:Program}{w:World}{A:Around}{E:cL}
theorem DF {it l:Addr}{items:cC}(ne:l≠it):∀(j i:Nat) (s:Shared) (Q:cC->Shared->Prop),i+j=items.length->s.heap.IsListIter it l i->s.heap.IsList l items.toArray ->
  (∀h',h'.IsListIter it l items.length->h'.IsList l items.toArray->(∀b o,b≠it->s.heap.get? b=some o->h'.get? b=some o)->Q (items.drop i) {s with heap:=h'})->wpAny (model P w) A (draw (.ref it) j) Q E s:=by
 intro j
 induction j with
 | zero =>
  intro i s Q e m c q;rw[Nat.add_zero]at e;subst e;have:=q s.heap m c λ_ _ _ z=>z;rw[List.drop_length]at this;exact ak this
 | succ j v =>
  intro i s Q e m c q;have lt:i<items.length:=by omega
  refine aa (wpAny_pyNext_list_item (x:=items[i]) m c (by simp[lt]) λu h r=>?_);have f:u.IsList l items.toArray:=by obtain⟨o,a,b⟩:=c;exact⟨o,(r.2 l ne).trans a,b⟩
  refine aa (cf (v (i+1) {s with heap:=u} _ (by omega) h f λB g d kp=>ak ?_));rw[←List.drop_eq_getElem_cons lt];exact q B g d λb o n z=>kp b o n ((r.2 b n).trans z)
theorem heldB {α β:Type}{M:Model}{B:Around}{E:cL}{s:Shared}{vs:cC}{m:Sem α}{f:α->Sem β}{Q:β->Shared->Prop}(h:wpAny M B m (λa t=>wpAny M B (f a) Q E t) E s):wpAny M B (holding vs m >>= f) Q E s:=aa (cf h)
theorem uJ {s:Shared}{l:Addr}{items:cC}{c:List (Bool×(Value->Sem Unit))}{Q:Unit->Shared->Prop}(m:A.handled=none)(d:s.heap.IsList l items.toArray)(j:c.length=items.length)(e:c.findIdx? (·.1)=none)
  (h:∀h',(∀b o,s.heap.get? b=some o->h'.get? b=some o)->wpAny (model P w) A (assignInOrder (c.map (·.2)) items) Q E {s with heap:=h'}):wpAny (model P w) A (unpack (.ref l) c) Q E s:=by
 have lt:l<s.heap.objs.size:=by obtain⟨o,a,_⟩:=d;exact az a
 unfold unpack;rw[j,e];refine heldB ?_;unfold unpackItems notIterableAtAll;refine aa (aa (wpAny_specialOf d.typeIs slot_list_iter.lookup (ak ?_)));show wpAny _ _ (if false=true then _ else _) _ _ _;rw[ab (by decide)];refine heldB (wpAny_pyIter_list d ?_);refine heldB (DF (l:=l) (items:=items) (bj lt) items.length 0 _ _ (Nat.zero_add _) ⟨_,ar _ rfl,rfl,rfl⟩ (d.push _) λu i f g=>?_);rw[List.drop_zero,ab (bI _)];refine heldB (wpAny_pyNext_list_end m i f (by simp) λq r=>?_);rw[ab (by decide)];exact ak (h q λb o z=>r b o (bj (az z)) (g b o (bj (az z)) (af _ z)))
end
section
variable {X:Cx}{pos:Pos}
def gSq (n:Nat)(t:N2):TG:=λv σ H Q=>∃a xs,v = .ref a/\cV H a xs/\xs.length=n/\t xs σ H Q
theorem JA {es:jW}{k:Nat}{t:N2}{n:Nat}(i:X.calm=true)(h:RW X es t)(f:(assignEach es X.env).length=n:=by rfl)(c:(assignEach es X.env).findIdx? (·.1)=none:=by rfl):PG X (.Tuple es k pos) (gSq n t):=by
 rintro b s σ H v u Q I r ⟨a,xs,rfl,d|d,g,q⟩
 ·cases r;obtain⟨its,e,j⟩:=gK I.hok d;rw[assign_Tuple];refine aa (wpAny_standAt (uJ (I.ok.hd i) j (by rw[f,←g,e.length]) c λh' k=>?_));exact h b _ σ H xs its Q (I.kept (t':=s.toks) k) e q
 ·exact CA i h f c b s σ H (.ref a) u Q I r ⟨a,xs,rfl,hZ.of d,g,q⟩
end
theorem A9 {prog:Program}{w:World}{A:Around}{E:cL}{s:Shared}{f:Addr}{e c d:Value}{n:Nat}{Q:Int×Int×Nat->Shared->Prop}(i:s.heap.IsSliceOf f e c d)(pl:IsPart e none)(g:IsPart c none)(pt:IsPart d (some (-1)))
  (h:Q ((n:Int) - 1,-1,n) s):wpAny (model prog w) A (Builtin.Slice.sliceApplied (.ref f) (pure (n:Int))) Q E s:=by
 obtain⟨os,a,j,b⟩:=id i;unfold Builtin.Slice.sliceApplied Builtin.Slice.sliceFields;refine aa (aa (wpAny_field a b (x:=e) rfl (aa (wpAny_field a b (x:=c) rfl (aa (wpAny_field a b (x:=d) rfl (ak ?_)))))));refine aa (HT.slicePart_ pt ?_);show wpAny _ _ (if ((-1:Int) == 0)=true then _ else _) _ _ s;rw[ab (by decide)];refine aa (HT.slicePart_ pl (aa (HT.slicePart_ g (aa (ak ?_)))));have m:Builtin.Slice.sliceAdjust none none (-1) (n:Int)=((n:Int) - 1,-1):=by
  unfold Builtin.Slice.sliceAdjust;refine Prod.ext ?_ ?_
  ·simp
  ·simp
 have l:Builtin.Slice.slicePlaces ((n:Int) - 1) (-1) (-1)=n:=by
  unfold Builtin.Slice.slicePlaces;rw[ab (by decide)];split
  ·rw[show(- -1:Int)=1 from rfl,Int.ediv_one];omega
  ·omega
 show wpAny _ _ (match Builtin.Slice.sliceAdjust none none (-1) (n:Int)with|(lo,hi)=>pure (lo,(-1:Int),Builtin.Slice.slicePlaces lo hi (-1))) _ _ s;rw[m];show wpAny _ _ (pure ((n:Int) - 1,(-1:Int),Builtin.Slice.slicePlaces ((n:Int) - 1) (-1) (-1))) _ _ s;rw[l];exact ak h
theorem FR {prog:Program}{w:World}{A:Around}{E:cL}{s:Shared}{t b:Addr}{its:cC}{j g i:Value}{Q:cL}(a:IsTup s.heap t its.toArray)(l:s.heap.IsSliceOf b j g i)(pl:IsPart j none)(o:IsPart g none)(pt:IsPart i (some (-1)))(hz:its.length<=sizeLine)
  (h:Q (.ref s.heap.objs.size) {s with heap:=s.heap.push {cls:=.type "tuple",data:=.seq its.reverse.toArray} }):wpAny (model prog w) A (getItem (.ref t) (.ref b)) Q E s:=by
 obtain⟨os,c,d,u⟩:=id l;have f:s.TypeIs (.ref b) "slice":=⟨os,c,d⟩
 unfold getItem
 try with_reducible refine cf ?_
 first|refine aa (ak ?_)|skip
 refine aa (wpAny_sequenceKey a.typeIs (by decide) ?_)
 refine aa (wpAny_callSpecial?_slot (name:=Str.ofString "__getitem__") a.typeIs PyProof.Rows.slot_tuple_getitem
  (wpAny_call_entry PyProof.Rows.slot_tuple_getitem a.typeIs entry_tuple_getitem ?_ (args_tuple_getitem _ _)))
 show wpAny _ _ (Builtin.Tuple.tupleItemsOf (.ref t) >>= _) _ _ s;refine aa (tupleItemsOf_ a ?_);refine aa (wpAny_typeOf f ?_);rw[ai (by decide)];refine aa (A9 (n:=its.toArray.size) l pl o pt ?_);dsimp only;rw[ab (by intro q;rw[Bool.and_eq_true,Bool.and_eq_true]at q;exact absurd q.1.2 (by decide))];have e:((List.range its.toArray.size).filterMap λ(m:Nat)=>its.toArray[(((its.toArray.size:Nat):Int) - 1+(m:Int) * -1).toNat]?).toArray=its.reverse.toArray:=by
  rw[ag,←sI its];refine congrArg List.toArray (AU λm r=>?_);have:=List.mem_range.mp r;have q:((its.length:Int) - 1+(m:Int) * -1).toNat=its.length - 1 - m:=by omega
  rw[q]
 rw[e];have hsz:sizeOk (.seq its.reverse.toArray):=by show its.reverse.toArray.size<=sizeLine;rw[ag];rw[List.length_reverse];exact hz
 first
  | exact aa (m:=Builtin.Tuple.tupleExact _) (ca (ak ⟨_,rfl,ak h⟩) hsz)
  | exact aa (m:=Builtin.Tuple.tupleExact _) (ca (aa (ak (ak ⟨_,rfl,ak h⟩))) hsz)
  | exact aa (aa (m:=Builtin.Tuple.tupleExact _) (ca (ak (ak ⟨_,rfl,ak h⟩)) hsz))
  | exact aa (aa (m:=Builtin.Tuple.tupleExact _) (ca (ak ⟨_,rfl,ak h⟩) hsz))
def rRevU:V->Option Int->Option Int->Option Int->Hp->VK->Prop:=λx b c st H Q=>b=none/\c=none/\st=some (-1)/\∃a xs,x = .ref a/\cV H a xs/\∀p o,H p=none->((o = .lst xs.reverse/\H a=some (.lst xs))∨(o = .tup xs.reverse/\H a=some (.tup xs)))->Q (.ref p) (upd H p o)
theorem D0 {X:Cx}:LG X rRevU:=by
 intro c s σ H x v u l m A B st w Q I e g pl f pt h;obtain⟨rfl,rfl,rfl,a,xs,rfl,d|d,q⟩:=h
 ·exact PB c s σ H _ v u l m none none (some (-1)) w Q I e g pl f pt ⟨rfl,rfl,rfl,a,xs,rfl,d,λp z=>q p _ z (.inl ⟨rfl,d⟩)⟩
 ·cases e;obtain⟨its,r,j,hz⟩:=I.tuple (hZ.of d);refine⟨"tuple",_,PyProof.Rows.slot_tuple_getitem.lookup,j.typeIs,?_⟩;have i:=r.length;refine FR j g pl f pt (by omega) ?_;refine⟨.ref s.heap.objs.size,_,I.laid (t':=s.toks) (o:=.tup xs.reverse) (λb ob q=>af _ q) (ac _) ?_,rfl,q _ _ (I.hok.fresh (ac _)) (.inr ⟨rfl,d⟩)⟩;exact⟨by rw[List.length_reverse];exact hz,_,r.reverse,⟨_,ar _ rfl,rfl,_,rfl⟩⟩
section
variable {prog:Program}{w:World}{A:Around}{E:cL}
structure OO (h h':Heap)(e it:Addr)(i:Nat)(x:Value)(tk:Tok)(I:Heap->Prop):Prop where
 out:IsEnumOut h' e it ((i:Int)+1) x h.objs.size
 inn:I h'
 tup:h'.get? h.objs.size=some {cls:=.type "tuple",data:=.seq #[.int i tk,x]}
 siz:h'.objs.size=h.objs.size+1
 old:∀b o,b≠e->b≠it->h.get? b=some o->h'.get? b=some o
def SC (prog:Program)(w:World)(A:Around)(m:Sem PySem.Fin)(Q:cL)(E:cL)(s:Shared):Prop:=wpAny (model prog w) A m (λr t=>∃v,r = .done (.ret v)/\Q v t) E s
theorem KY {e it:Addr}{i:Nat}{x old:Value}{s:Shared}{I:Heap->Prop}{Q:cL}(B:IsEnum s.heap e it i old)(v:e≠it)
  (N:∀h h':Heap,(∀b o,b≠e->h.get? b=some o->h'.get? b=some o)->I h->I h')
  (nx:∀R:cL,(∀f,Heap.SameBut it s.heap f->I f->R x {s with heap:=f})->wpAny (model prog w) A (Builtin.SmallTypes.nextOf (.ref it)) R E s)
  (q:∀h',OO s.heap h' e it i x s.toks I->Q (.ref s.heap.objs.size) {s with heap:=h',toks:=s.toks+1}) :
  SC prog w A (Builtin.«enumerate.__next__» ⟨[.ref e],[]⟩) Q E s:=by
 obtain⟨j,g,d,a,os⟩:=s;change wpAny _ _ (field (.ref e) 2 >>= _) _ _ _;refine aa (wpAny_field B rfl (x:=.ref it) rfl (aa (nx _ λf K Y=>?_)));have J:IsEnum f e it i old:=(K.2 e v).trans B;refine aa (wpAny_field J rfl (x:=rawInt i) rfl (aa (wpAny_field J rfl (x:=.none) rfl ?_)));change wpAny _ _ (mkInt i >>= _) _ _ ⟨f,g,d,a,os⟩;refine aa (wpAny_mkInt (aa (wpAny_setField_rec J (by simp) λh2 H b2=>?_)))
 replace H:IsEnum h2 e it ((i:Int)+1) old:=H
 refine aa (wpAny_setField_rec H (by simp) λc G W=>aa (wpAny_newTuple ?_))
 replace G:IsEnum c e it ((i:Int)+1) old:=G
 have m:c.objs.size=j.objs.size:=W.1.trans (b2.1.trans K.1);have l:IsEnum (c.push {cls:=.type "tuple",data:=.seq #[.int i a,x]}) e it ((i:Int)+1) old:=af _ G;have t4:(c.push {cls:=.type "tuple",data:=.seq #[.int i a,x]}).get? j.objs.size=some {cls:=.type "tuple",data:=.seq #[.int i a,x]}:=m ▸ ar _ rfl;have L:(c.push {cls:=.type "tuple",data:=.seq #[.int i a,x]}).objs.size=j.objs.size+1:=(Heap.size_push ..).trans (congrArg (· + 1) m);have u:∀b o,b≠e->f.get? b=some o->(c.push {cls:=.type "tuple",data:=.seq #[.int i a,x]}).get? b=some o:=λb o n z=>af _ (W.extBut b o n (b2.extBut b o n z));change wpAny _ _ (Builtin.SmallTypes.ownedTupleIsFree (.ref e) >>= _) _ _ ⟨c.push {cls:=.type "tuple",data:=.seq #[.int i a,x]},g,d,a+1,os⟩;rw[m];generalize c.push {cls:=.type "tuple",data:=.seq #[.int i a,x]}=h4 at l t4 L u⊢;have X:=N _ _ u Y;have lt:e<j.objs.size:=az B;refine aa ?_;rw[Builtin.SmallTypes.ownedTupleIsFree];refine aa (wpAny_field l rfl (x:=.none) rfl (ak ?_));simp only[if_true];refine aa (wpAny_rule (aa (wpAny_field l rfl (x:=old) rfl (aa (wpAny_setField_rec l (by simp) λP F U=>?_)))))
 replace F:IsEnum P e it ((i:Int)+1) x:=F
 refine aa ?_;change wpAny _ _ (Builtin.SmallTypes.ownedTupleHandOut (.ref e) (.ref j.objs.size)) _ _ ⟨P,g,d,a+1,os⟩;rw[Builtin.SmallTypes.ownedTupleHandOut];refine aa (wpAny_setField_rec F (by simp) λZ C T=>?_)
 replace C:IsEnumOut Z e it ((i:Int)+1) x j.objs.size:=C
 refine wpAny_setField_rec C (by simp) λO e7 S=>aa (wpAny_letGo (ak ⟨_,rfl,q O ?_⟩));have r:∀b o,b≠e->h4.get? b=some o->O.get? b=some o:=λb o n z=>S.extBut b o n (T.extBut b o n (U.extBut b o n z));exact⟨e7,N _ _ r X,r _ _ (Nat.ne_of_gt lt) t4,S.1.trans (T.1.trans (U.1.trans L)),λb o n1 n2 z=>r b o n1 (u b o n1 (K.extBut b o n2 z))⟩
theorem CQ {it t:Addr}{i:Nat}{items:gN}{x:Value}{s:Shared}{R:cL}(a:s.heap.IsTupleIter it t i)(e:s.heap.IsTuple t items)(c:items[i]?=some x)
  (q:∀b,Heap.SameBut it s.heap b->b.IsTupleIter it t (i+1)->R x {s with heap:=b}):wpAny (model prog w) A (Builtin.SmallTypes.nextOf (.ref it)) R E s:=by
 rw[Builtin.SmallTypes.nextOf];refine aa (wpAny_callSpecial?_slot (name:=Str.ofString "__next__") a.typeIs F.slot_tuple_iterator_next (wpAny_call_entry F.slot_tuple_iterator_next a.typeIs F.entry_tuple_iterator_next ?_ (F.args_tuple_iterator_next_1 _)));obtain⟨o,ho,g,hd⟩:=a;obtain⟨u,d,_,m,f⟩:=e;refine(show wpAny _ _ (field (.ref it) 0 >>= _) _ _ _ from aa (wpAny_field ho hd (x:=.ref t) rfl ?_));refine(show wpAny _ _ (if (Value.ref t == Value.none)=true then _ else _) _ _ _ from ?_);rw[ab (λz:(Value.ref t == Value.none)=true=>Bool.false_ne_true z)];refine(show wpAny _ _ (field (.ref it) 1 >>= _) _ _ _ from aa (wpAny_field ho hd (x:=.int i 0) rfl ?_));refine(show wpAny _ _ (seqItems? (.ref t) >>= _) _ _ _ from aa (wpAny_seqItems d f ?_));simp only[c,cj];refine aa (wpAny_setField ho hd (by simp) (ak ⟨x,rfl,ak (q _ (Heap.SameBut.update ..) ?_)⟩));exact⟨_,Heap.get?_update_self _ ho (Obj.isFreed_of_fields (Obj.data_mapFields hd _)),(Obj.cls_mapFields ..).trans g,by rw[Obj.data_mapFields hd];simp[rawInt]⟩
theorem zW {it t:Addr}{i:Nat}{items:gN}{s:Shared}{R:cL}(j:A.handled=none)(b:s.heap.IsTupleIter it t i)(g:s.heap.IsTuple t items)(d:items[i]?=none)
  (q:∀c e,Heap.ExtBut it s.heap c->(∃o,c.get? e=some o/\o.cls = .type "StopIteration")->E (.ref e) {s with heap:=c}):wpAny (model prog w) A (Builtin.SmallTypes.nextOf (.ref it)) R E s:=by
 rw[Builtin.SmallTypes.nextOf];refine aa (wpAny_callSpecial?_slot (name:=Str.ofString "__next__") b.typeIs F.slot_tuple_iterator_next (wpAny_call_entry F.slot_tuple_iterator_next b.typeIs F.entry_tuple_iterator_next ?_ (F.args_tuple_iterator_next_1 _)));obtain⟨o,ho,l,hd⟩:=b;obtain⟨u,f,_,m,h⟩:=g;refine(show wpAny _ _ (field (.ref it) 0 >>= _) _ _ _ from aa (wpAny_field ho hd (x:=.ref t) rfl ?_));refine(show wpAny _ _ (if (Value.ref t == Value.none)=true then _ else _) _ _ _ from ?_);rw[ab (λz:(Value.ref t == Value.none)=true=>Bool.false_ne_true z)];refine(show wpAny _ _ (field (.ref it) 1 >>= _) _ _ _ from aa (wpAny_field ho hd (x:=.int i 0) rfl ?_));refine(show wpAny _ _ (seqItems? (.ref t) >>= _) _ _ _ from aa (wpAny_seqItems f h ?_));simp only[d,cj];refine aa (wpAny_rule (aa (wpAny_setField ho hd (by simp) (show wpAny _ _ (newExc (.type "StopIteration") [] >>= _) _ _ _ from ?_))));simp only[newExc,newTuple];refine aa (aa (ca (aa (m:=firstArgMember _ _) (wpAny_of_eq (a:=Value.none) (by first|rfl|(simp only[firstArgMember];rfl)) (ca ?_ (by size_fits)))) (by size_fits)));simp only[raiseNew];exact aa (wpAny_handled (by rw[show A.in1.handled=none from j];exact aa (ak (wpAny_throw (q _ _ (((Heap.SameBut.update ..).extBut.push _).push _) ⟨_,ar _ rfl,rfl⟩)))))
theorem DE {e it t:Addr}{i:Nat}{items:gN}{x old:Value}{s:Shared}{Q:Option Value->Shared->Prop}(c:IsEnum s.heap e it i old)(b:s.heap.IsTupleIter it t i)(f:s.heap.IsTuple t items)(d:items[i]?=some x)(a:e≠it)
  (q:∀h',OO s.heap h' e it i x s.toks (λh=>h.IsTupleIter it t (i+1))->Q (some (.ref s.heap.objs.size)) {s with heap:=h',toks:=s.toks+1}):wpAny (model prog w) A (pyNext (.ref e)) Q E s:=by
 have ty:s.TypeIs (.ref e) "enumerate":=⟨_,c,rfl⟩
 refine aa (wpAny_attempt (wpAny_callSpecial?_slot (name:=Str.ofString "__next__") ty F.slot_enumerate_next (wpAny_call_entry F.slot_enumerate_next ty F.entry_enumerate_next ?_ (F.args_enumerate_next_1 _))));exact KY c a (λh h' k ⟨o,ho,r⟩=>⟨o,k _ _ a.symm ho,r⟩) (λR h=>CQ b f d h) λh' z=>ak (q h' z)
theorem G3 {e it t:Addr}{i:Nat}{items:gN}{old:Value}{s:Shared}{Q:Option Value->Shared->Prop}(g:A.handled=none)(c:IsEnum s.heap e it i old)(a:s.heap.IsTupleIter it t i)(f:s.heap.IsTuple t items)(d:items[i]?=none)
  (q:∀h',Heap.ExtBut it s.heap h'->Q none {s with heap:=h'}):wpAny (model prog w) A (pyNext (.ref e)) Q E s:=by
 have ty:s.TypeIs (.ref e) "enumerate":=⟨_,c,rfl⟩
 refine aa (wpAny_attempt (wpAny_callSpecial?_slot (name:=Str.ofString "__next__") ty F.slot_enumerate_next (wpAny_call_entry F.slot_enumerate_next ty F.entry_enumerate_next ?_ (F.args_enumerate_next_1 _))));change wpAny _ _ (field (.ref e) 2 >>= _) _ _ _;refine aa (wpAny_field c rfl (x:=.ref it) rfl (aa (zW g a f d λl y j ⟨o,ho,h⟩=>?_)));exact aa (wpAny_isInstance (T:="StopIteration") (b:=true) ⟨o,ho,h⟩ isSubtype_stop (ak (q _ j)))
noncomputable def K2 (h:Heap)(t:Addr):Heap:=(h.push {cls:=.type "tuple_iterator",data:=.fields #[.ref t,.int 0 0]}).push {cls:=.type "enumerate",data:=.fields #[.none,.bool false,.ref h.objs.size,rawInt 0,.none,.none]}
theorem NS (t:Addr)(items:gN)(n:Nat)(dct:Option Addr)(f:Array (Option Value)) :
  Meets (Builtin.«enumerate.__new__» ⟨[.type "enumerate",.ref t],[]⟩) (λ_ R s=>s.heap.get? t=some {cls:=.type "tuple",dict:=dct,data:=.seq items n,slots:=f} /\
   R (.ok (.ret (.ref (s.heap.push {cls:=.type "tuple_iterator",data:=.fields #[.ref t,.int 0 0]}).objs.size))) {s with heap:=K2 s.heap t}) :=
 .of_wp λprog w A R s ⟨a,h⟩=>by
  obtain⟨j,g,d,i,os⟩:=s;have b:=sub_enumerate;have e:Heap.IsTuple (Shared.heap ⟨j,g,d,i,os⟩) t items:=⟨_,a,rfl,n,rfl⟩
  wp_walk using bd a
  refine wpAny_stack_any λ_=>ak ?_;split
  ·rename_i c _ _ _ _ _;cases (c == Value.type "enumerate") <;> (wp_walk using bd a,wpAny_pyIter_tuple e;exact⟨_,rfl,h⟩)
  ·wp_walk using bd a,wpAny_pyIter_tuple e
   exact⟨_,rfl,h⟩
theorem LB {t:Addr}{items:gN}{s:Shared}{Q:cL}(g:s.heap.IsTuple t items)
  (q:∀h',IsEnum h' (s.heap.objs.size+1) s.heap.objs.size 0 .none->h'.IsTupleIter s.heap.objs.size t 0->(∀b o,s.heap.get? b=some o->h'.get? b=some o)->Q (.ref (s.heap.objs.size+1)) {s with heap:=h'}) :
  wpAny (model prog w) A (call (.type "enumerate") [.ref t]) Q E s:=by
 obtain⟨⟨c,dct,h,d⟩,e,f,n,hd⟩:=g;obtain rfl:c = .type "tuple":=f;obtain rfl:h = .seq items n:=hd;have hz:(s.heap.push {cls:=.type "tuple_iterator",data:=.fields #[.ref t,.int 0 0]}).objs.size=s.heap.objs.size+1:=Heap.size_push ..;have a:IsEnum (K2 s.heap t) (s.heap.objs.size+1) s.heap.objs.size 0 .none:=hz ▸ ar _ rfl;refine callType_new F.called_enumerate (by decide) (F.typeCall_enumerate_1 _) (F.newCall_enumerate_1 _) (λobj=>F.args_object_init_2 obj _) F.entry_enumerate_new (NS t items n dct d) ⟨e,?_⟩;change _/\_;rw[hz];exact⟨⟨_,a,rfl⟩,q _ a ⟨_,af _ (ar _ rfl),rfl,rfl⟩ λb o x=>af _ (af _ x)⟩
end
theorem xV {c e it:Addr}(h:c∈[e,it]):c=e∨c=it:=by simpa using h
noncomputable def Q4 (a:Addr)(xs:List V):It :=
 ⟨λi H=>H a=some (.tup xs)/\i<xs.length,λi H z H'=>∃T x,z = .ref T/\xs[i]?=some x/\H T=none/\H'=upd H T (.tup [.int i,x]),λi H=>H a=some (.tup xs)/\xs.length<=i⟩
theorem BV {P:Program}{w:World}{K:PySem.W.Frag}{l:jW}{tk0}{j:Pos}{xs:List V}(a e it:Addr)(D:e≠it) :
  oY P w K (.Tuple l tk0 j) (Q4 a xs) [e,it] e (λi h=>(∃old,IsEnum h e it i old)/\h.IsTupleIter it a i) where
 mem:=by simp
 obj:=λi h ⟨⟨old,d⟩,⟨o,Q,_,d1⟩⟩ c b=>by
  rcases xV b with rfl|rfl
  ·exact⟨_,d,λv z=>by cases z⟩
  ·exact⟨_,Q,λv z=>by rw[d1]at z;cases z⟩
 keep:=λi h h' ⟨⟨old,d⟩,⟨o,Q,r⟩⟩ k=>⟨⟨old,k e (by simp) _ d⟩,⟨o,k it (by simp) _ Q,r⟩⟩
 item:=by
  intro X N F O b i f s σ H E I m st G;subst N F O;obtain⟨L,Z⟩:=G;obtain⟨its,B,p,C⟩:=I.tuple (hZ.of L);have R:xs[i]?=some xs[i]:=by simp[Z]
  obtain⟨u,U,S⟩:=B.get R;obtain⟨⟨old,d⟩,A⟩:=st;refine DE d A p (x:=u) (by simpa using U) D λh' z=>?_;refine⟨_,rfl,wpAny_letOwnedTupleGo_enum (s:={s with heap:=h',toks:=s.toks+1}) z.out λh2 J g=>?_⟩;have lt:∀{c:Addr} {o:Obj},s.heap.get? c=some o->s.heap.objs.size≠c:=λe z=>bI _ (z ▸ az e);have T:∀c∈[e,it],c≠s.heap.objs.size:=λc b=>by
   rcases xV b with rfl|rfl
   ·exact(lt d).symm
   ·obtain⟨_,z,_⟩:=A;exact(lt z).symm
  have I1:aQ X f σ (upd H s.heap.objs.size (.tup [.int i,xs[i]])) {s with heap:=h2,toks:=s.toks+1}:=I.turnedLaid (t':=s.toks+1) (ch:=[e,it]) (λc o b y=>g.extBut _ _ (λq=>b (by simp[q])) (z.old c o (λq=>b (by simp[q])) (λq=>b (by simp[q])) y)) m (ac _)
   ⟨by show 2<=sizeLine;decide,[_,u],.cons ⟨_,rfl⟩ (.cons S .nil),⟨_,g.extBut _ _ (lt d) z.tup,rfl,_,rfl⟩⟩
  refine⟨.ref s.heap.objs.size,_,I1,rfl,⟨s.heap.objs.size,xs[i],rfl,R,I.hok.fresh (ac _),rfl⟩,⟨⟨u,?_⟩,z.inn.extBut g.extBut D.symm⟩,λc b=>?_⟩
  ·have e2:((i+1:Nat):Int)=(i:Int)+1:=by omega
   rw[e2];exact J
  ·rw[aE (T c b)];exact(m c b).1
 done:=by
  intro X N F O b i f s σ H E I m st G;subst N F O;obtain⟨L,hd⟩:=G;obtain⟨its,B,p,C⟩:=I.tuple (hZ.of L);obtain⟨⟨old,d⟩,A⟩:=st;have l1:=B.length;refine G3 (I.ok.hd b) d A p (by simp;omega) λh' Y=>⟨rfl,?_⟩
  exact I.turnedL (t':=s.toks) (ch:=[e,it]) (λc o b z=>Y c o (λq=>b (by simp[q])) z) m
 self:=λ_ _ _ _ _ st h=>wpAny_pyIter_enum st.1.choose_spec h
def QI (c:TA):TI:=λσ H R=>c σ H λvs b=>∃a xs,vs=[.ref a]/\b a=some (.tup xs)/\R (Q4 a xs) b
theorem uO {X:Cx}{f:jW}{i:_}{b:Pos}{a:Expr}{l:TA}{p d:Pos}(A:Gl X "enumerate")(w:X.mg "enumerate" = none)(C:PA X [a] l)(v:starEach [a] X.env=[(false,eval a X.env)]:=by rfl) :
  PI X (.Tuple f i b) (.Call (.Name "enumerate" p) [a] [] d) (QI l):=by
 intro e s σ H R I h;refine Call_ (lO I A w boot_enumerate (PyProof.Rows.callWith_type1 (thn (C d e s σ H _ I h) λus j ⟨vs,J,g,r1,t1,xs,E,u,q⟩=>?_) v rfl));subst E;obtain⟨K,rfl,F⟩:=vals1 r1;cases F;obtain⟨its,L,o,r⟩:=g.tuple (hZ.of u);refine LB o λh' m G x=>wpAny_pyIter_enum (s:={j with heap:=h'}) m ?_;refine⟨_,[_,_],_,_,J,rfl,g.kept (t':=j.toks) x,BV t1 _ _ (by intro z;have z:(_:Nat)=_:=z;omega),⟨⟨_,m⟩,G⟩,λc B=>?_,q⟩;have le:j.heap.objs.size<=c:=by
  rcases xV B with rfl|rfl
  ·exact Nat.le_add_right _ _
  ·exact ac _
 exact g.fpOk le (g.hok.fresh le)
theorem DC {g:TG}{tb:TS}{D:iM}{σ:St}{H:Hp}{a:Addr}{xs:List V}(Pv:Nat->St->Hp->Prop)(j:Pv 0 σ H)(b:∀i σ H,Pv i σ H->H a=some (.tup xs))
  (f:∀i x T σ H,xs[i]?=some x->Pv i σ H->H T=none->g (.ref T) σ (upd H T (.tup [.int i,x])) λc m=>tb {D with nx:=Pv (i+1),ct:=Pv (i+1),bk:=D.nx} c m) (hd:∀σ H,Pv xs.length σ H->D.nx σ H):nQ (Q4 a xs) g tb D σ H :=
 EY (n:=xs.length) Pv j (λi σ H lt p=>⟨⟨b i σ H p,lt⟩,λx H' ⟨T,y,e,d,h,l⟩=>by
  subst e l
  exact f i y T σ H d p h⟩) λσ H p=>⟨⟨b _ σ H p,ac _⟩,hd σ H p⟩
end L2
namespace L2
open PySem
theorem bQ {N P:aV}{f:Scope}(a:f.kind = .function)(b:f.isCoroutine=false)(c:f.isGenerator=false)(d:N.take P.length=P)(e:N.Nodup/\(∀x∈P,f.names.lookup x=some .local∨f.names.lookup x=some .cell)/\∀y∈f.names,y.2≠.free):aR N P f:=⟨a,b,c,e.1,d,e.2.1,e.2.2⟩
noncomputable def abc:Str:="abcdefghijklmnopqrstuvwxyz"
theorem QT (j:Nat)(h:j<26):abc.cps.toList[j]?=some (97+j):=by
 have:∀j:Fin 26,abc.cps.toList[j.1]?=some (97+j.1):=by decide +kernel
 exact this ⟨j,h⟩
theorem N1:abc.cps.toList.length=26:=by decide +kernel
theorem KK {H:Hp}{i:Int}(b:0<=i)(a:i<26):ixV H (.str abc) (.int i)=some (.str ⟨#[97+i.toNat]⟩):=by show(if abc.length<=sizeLine then(atI abc.cps.toList i).map λc=>V.str ⟨#[c]⟩else none)=_;rw[ai (by decide +kernel),tN b (by rw[N1];exact a),QT _ (by omega)];rfl
theorem tyL {K:PySem.W.Frag}{H:Hp}{p:Addr}{xs:List V}(h:H p=some (.lst xs)):tyV K "list" (.ref p) H:=.inl ⟨rfl,xs,eK.of h⟩
def kR (x:Str):Prop:=1<=x.cps.toList.length/\x.cps.toList.length<=6/\∀c∈x.cps.toList,97<=c/\c<=122
theorem vD {H:Hp}:∀(ws:aV),Reps H (ws.map D.str) (ws.map V.str)
 | []=>rfl
 | x::r=>⟨.str x,r.map V.str,rfl,rfl,vD r⟩
theorem dep_strs:∀ws:aV,depDs (ws.map D.str)=0
 | []=>rfl
 | x::r=>by rw[ba,depDs,dep_strs r];rfl
theorem AQ {x:Str}:∀ws:aV,inD (.str x) (ws.map D.str)=decide (x∈ws)
 | []=>by simp[inD]
 | y::r=>by
  have a:=AQ (x:=x) r;unfold inD at a⊢;rw[ba,List.any_cons,a];have e:eqD (.str y) (.str x)=decide (y=x):=by show(y == x)=_;rw[bS];simp
  rw[e,bS];simp only[Bool.or_eq_true,decide_eq_true_eq,cp];constructor
  ·rintro(h|h)
   ·exact .inl h.symm
   ·exact .inr h
  ·rintro(h|h)
   ·exact .inl h.symm
   ·exact .inr h
noncomputable def del (H:Hp)(p:Addr):Hp:=λb=>if b=p then none else H b
theorem lR {H:Hp}{p b:Addr}{o:HO}(h:H b=some o)(n:b≠p):del H p b=some o:=by unfold del;rw[ab n];exact h
theorem hX {H:Hp}{p b:Addr}{o:HO}(h:del H p b=some o):H b=some o/\b≠p:=by
 unfold del at h;by_cases e:b=p
 ·rw[ai e]at h;cases h
 ·rw[ab e]at h;exact⟨h,e⟩
theorem K6 (H:Hp)(p:Addr):aD (del H p) H:=λb o h=>(hX h).1
end L2
section
local macro_rules | `(tactic| walk_at "rd")=>do
 let xs:Array (Lean.TSyntax [`Lean.Parser.Tactic.simpStar,`Lean.Parser.Tactic.simpErase,`Lean.Parser.Tactic.simpLemma]):=("L2.start List.map_cons List.map_nil List.length_cons List.length_nil Nat.reduceAdd Nat.reduceSub Nat.zero_add List.replicate_succ List.replicate_zero List.cons_append List.nil_append List.set_cons_zero List.set_cons_succ L2.tSeq L2.tIfS L2.tTest L2.tOp L2.tVar L2.tC L2.rI0 L2.tAsg L2.gName L2.gSub L2.rI L2.tRet L2.tNext L2.rSetL L2.rAddF L2.rRep L2.tCB L2.r1 L2.tCons L2.tNil L2.tDrop L2.tAnd L2.tOr L2.tNot L2.tIf L2.tLst L2.tTup L2.tCall L2.tFor_eq L2.tComp_eq L2.tComp2_eq L2.iRng1 L2.iRng2 L2.iAny L2.iSq L2.iZip L2.iZip2 L2.iEnum L2.tRaise L2.tTry L2.rLtL L2.rAll L2.rAny L2.rSum L2.tUn L2.rU L2.gTup L2.gCons L2.gNil L2.tBM L2.tBM0 L2.rAppend L2.rPop L2.rPopAt L2.rExtend L2.tSl L2.tNoPart L2.tPart L2.rSlF L2.rSlU L2.rTupU L2.CStep L2.tYes L2.stC Option.bind_some Option.bind_none Option.join_some L2.tAndV L2.tOrV L2.tNotV L2.tNever not_true_eq_false not_false_eq_true L2.tChain L2.tTruth L2.rIs_eq L2.truV_bl L2.isV_ii L2.isV_ib L2.isV_ll L2.lenV_l L2.lenV_t L2.seqV_l L2.seqV_t L2.ixV_l L2.ixV_t if_true if_false Bool.not_true Bool.not_false Bool.false_eq_true Option.bind_eq_bind Option.pure_def L2.rEqD_ii L2.rNeD_ii L2.rEqD_bb L2.rNeD_bb L2.isV_bb L2.rEqD_ss L2.rNeD_ss Int.zero_add L2.catO_i L2.catO_s L2.addV L2.intV L2.atI_zero L2.atI_one L2.ixN_zero L2.ixN_one L2.upd_same L2.upd_upd Option.map_some Option.map_none List.getElem?_cons_zero List.getElem?_cons_succ Option.some.injEq L2.V.int.injEq L2.V.ref.injEq L2.V.bl.injEq L2.V.str.injEq L2.HO.lst.injEq List.cons.injEq and_true true_and exists_eq_left exists_eq_left' exists_eq_right exists_eq_right' exists_and_left exists_and_right exists_const reduceCtorEq false_and and_false exists_false or_false false_or decide_eq_true_eq ite_eq_left_iff Bool.not_eq_true Bool.not_eq_eq_eq_not decide_eq_false_iff_not decide_true decide_false".splitOn " ").toArray.map λs=>⟨Lean.mkNode `Lean.Parser.Tactic.simpLemma #[Lean.mkNullNode,Lean.mkNullNode,Lean.mkIdent s.toName]⟩
 let xs:=xs.push ⟨Lean.mkNode `Lean.Parser.Tactic.simpStar #[Lean.mkAtom "*"]⟩
 `(tactic| simp only [$xs,*])
namespace Lw
open PySem L2
noncomputable def q9:aV:=["_law_state","_law_many","_law_found"]
noncomputable def qS:aV:=q9.take 2
theorem n6:aR q9 qS (aJ jD):=bQ rfl rfl rfl rfl (by decide +kernel)
noncomputable def iL:aV:=["_law_state","_law_letters","_law_shift","_law_names","_law_j","_law_k","_law_fixed","_law_sums"]
noncomputable def pC:aV:=["_law_state"]
theorem cZ:aR iL pC (aJ eA):=bQ rfl rfl rfl rfl (by decide +kernel)
noncomputable def rD:aV:=["_law_state","_law_fixed","_law_k"]
noncomputable def qW:aV:=rD.take 2
theorem n9:aR rD qW (aJ jH):=bQ rfl rfl rfl rfl (by decide +kernel)
noncomputable def q8:aV:=["_law_state","_law_signs_here","_law_budget","_law_deep","_law_name","_law_many","_law_found","_law_left","_law_k","_law_share"]
noncomputable def iD:aV:=q8.take 4
theorem dI:aR q8 iD (aJ fP):=bQ rfl rfl rfl rfl (by decide +kernel)
noncomputable def RY:aV:=["_law_script","_law_back","_law_cell","_law_state","_law_given","_law_noughts","_law_signs_here","_law_first","_law_asked","_law_here","_law_k","_law_step_here","_law_due","_law_lists","_law_listed_here"]
noncomputable def OK:aV:=["_law_script"]
theorem eN:aR RY OK (aJ qC):=bQ rfl rfl rfl rfl (by decide +kernel)
noncomputable def pZ:aV:=["thing"]
noncomputable def wH:aV:=["thing"]
theorem B3:aR pZ wH (aJ j4):=bQ rfl rfl rfl rfl (by decide +kernel)
noncomputable def nN:aV:=["signs","thing"]
noncomputable def tY:aV:=nN.take 2
theorem zH:aR nN tY (aJ kF):=bQ rfl rfl rfl rfl (by decide +kernel)
noncomputable def kT:aV:=["signs","thing","todo","at","depth"]
noncomputable def pA:aV:=kT.take 2
theorem gY:aR kT pA (aJ gB):=bQ rfl rfl rfl rfl (by decide +kernel)
noncomputable def LJ:aV:=["term","found","todo","at"]
noncomputable def BD:aV:=["term"]
theorem mF:aR LJ BD (aJ oC):=bQ rfl rfl rfl rfl (by decide +kernel)
noncomputable def pD:aV:=["term"]
noncomputable def oZ:aV:=["term"]
theorem uM:aR pD oZ (aJ iK):=bQ rfl rfl rfl rfl (by decide +kernel)
noncomputable def lX:aV:=["term"]
noncomputable def qR:aV:=["term"]
theorem xB:aR lX qR (aJ h9):=bQ rfl rfl rfl rfl (by decide +kernel)
noncomputable def uC:aV:=["name","term"]
noncomputable def BF:aV:=uC.take 2
theorem F0:aR uC BF (aJ oF):=bQ rfl rfl rfl rfl (by decide +kernel)
noncomputable def nO:aV:=["name","nought","parts","left","part"]
noncomputable def uA:aV:=nO.take 3
theorem lH:aR nO uA (aJ kH):=bQ rfl rfl rfl rfl (by decide +kernel)
noncomputable def iG:aV:=["signs","name","parts","nought"]
noncomputable def lA:aV:=iG.take 3
theorem jY:aR iG lA (aJ fJ):=bQ rfl rfl rfl rfl (by decide +kernel)
noncomputable def fG:aV:=["term","filling","whole","made","at","parts"]
noncomputable def jT:aV:=fG.take 3
theorem cU:aR fG jT (aJ dJ):=bQ rfl rfl rfl rfl (by decide +kernel)
noncomputable def BJ:aV:=["signs","filling","term"]
noncomputable def tU:aV:=BJ.take 3
theorem FY:aR BJ tU (aJ cX):=bQ rfl rfl rfl rfl (by decide +kernel)
noncomputable def DP:aV:=["signs","term"]
noncomputable def LH:aV:=DP.take 2
theorem L0:aR DP LH (aJ xC):=bQ rfl rfl rfl rfl (by decide +kernel)
noncomputable def p7:aV:=["thing"]
noncomputable def wI:aV:=["thing"]
theorem B4:aR p7 wI (aJ j5):=bQ rfl rfl rfl rfl (by decide +kernel)
noncomputable def uE:aV:=["thing"]
noncomputable def tX:aV:=["thing"]
theorem zG:aR uE tX (aJ kE):=bQ rfl rfl rfl rfl (by decide +kernel)
noncomputable def fK:aV:=["thing","least","most","pair"]
noncomputable def lB:aV:=fK.take 3
theorem jZ:aR fK lB (aJ eD):=bQ rfl rfl rfl rfl (by decide +kernel)
noncomputable def h8:aV:=["pairs","names"]
noncomputable def mW:aV:=["pairs"]
theorem lJ:aR h8 mW (aJ eG):=bQ rfl rfl rfl rfl (by decide +kernel)
noncomputable def jU:aV:=["fixed_rows","name","many"]
noncomputable def mU:aV:=["fixed_rows"]
theorem lI:aR jU mU (aJ eZ):=bQ rfl rfl rfl rfl (by decide +kernel)
noncomputable def fM:aV:=["sum_rows","bare_names","name","nought","noughts"]
noncomputable def lC:aV:=fM.take 2
theorem gU:aR fM lC (aJ eE):=bQ rfl rfl rfl rfl (by decide +kernel)
noncomputable def eX:aV:=["self","fixed","sums","fixed_rows","sum_rows"]
noncomputable def gW:aV:=eX.take 3
theorem gA:aR eX gW (aJ cJ):=bQ rfl rfl rfl rfl (by decide +kernel)
noncomputable def kW:aV:=["self","name"]
noncomputable def kQ:aV:=kW.take 2
theorem uN:aR kW kQ (aJ eB):=bQ rfl rfl rfl rfl (by decide +kernel)
noncomputable def i5:aV:=["self","name"]
noncomputable def i0:aV:=i5.take 2
theorem rF:aR i5 i0 (aJ dA):=bQ rfl rfl rfl rfl (by decide +kernel)
noncomputable def BM:aV:=["_law_cell","_law_mixed"]
noncomputable def qY:aV:=["_law_cell"]
theorem oA:aR BM qY (aJ jI):=bQ rfl rfl rfl rfl (by decide +kernel)
noncomputable def lZ:aV:=["_law_state","_law_signs_here","_law_budget","_law_fixed","_law_sums","_law_some_here"]
noncomputable def qX:aV:=lZ.take 3
theorem kC:aR lZ qX (aJ iA):=bQ rfl rfl rfl rfl (by decide +kernel)
noncomputable def jV:aV:=["_law_noughts","_law_term_here","_law_parts","_law_found","_law_part_here"]
noncomputable def fE:aV:=jV.take 2
theorem eP:aR jV fE (aJ dL):=bQ rfl rfl rfl rfl (by decide +kernel)
noncomputable def mY:aV:=["_law_term_here"]
noncomputable def fF:aV:=["_law_term_here"]
theorem sE:aR mY fF (aJ dM):=bQ rfl rfl rfl rfl (by decide +kernel)
noncomputable def FI:aV:=["signs","one","other"]
noncomputable def FF:aV:=FI.take 3
theorem IP:aR FI FF (aJ rK):=bQ rfl rfl rfl rfl (by decide +kernel)
noncomputable def uG:aV:=["signs","term"]
noncomputable def uB:aV:=uG.take 2
theorem zI:aR uG uB (aJ kJ):=bQ rfl rfl rfl rfl (by decide +kernel)
noncomputable def uF:aV:=["signs","name","parts","whole","part"]
noncomputable def tZ:aV:=uF.take 3
theorem jB:aR uF tZ (aJ kG):=bQ rfl rfl rfl rfl (by decide +kernel)
noncomputable def BK:aV:=["signs","term"]
noncomputable def tV:aV:=BK.take 2
theorem FZ:aR BK tV (aJ cY):=bQ rfl rfl rfl rfl (by decide +kernel)
noncomputable def BL:aV:=["name","term"]
noncomputable def BG:aV:=BL.take 2
theorem F1:aR BL BG (aJ oG):=bQ rfl rfl rfl rfl (by decide +kernel)
noncomputable def BI:aV:=["name","nought","at"]
noncomputable def BE:aV:=BI.take 3
theorem FX:aR BI BE (aJ oE):=bQ rfl rfl rfl rfl (by decide +kernel)
noncomputable def uD:aV:=["name","nought","at"]
noncomputable def tW:aV:=uD.take 3
theorem zF:aR uD tW (aJ kD):=bQ rfl rfl rfl rfl (by decide +kernel)
noncomputable def qZ:aV:=["name","nought","at"]
noncomputable def qQ:aV:=qZ.take 3
theorem xA:aR qZ qQ (aJ jC):=bQ rfl rfl rfl rfl (by decide +kernel)
noncomputable def wL:aV:=["name","nought","at"]
noncomputable def wJ:aV:=wL.take 3
theorem B5:aR wL wJ (aJ mG):=bQ rfl rfl rfl rfl (by decide +kernel)
noncomputable def FJ:aV:=["name","nought","at"]
noncomputable def FG:aV:=FJ.take 3
theorem IQ:aR FJ FG (aJ rL):=bQ rfl rfl rfl rfl (by decide +kernel)
noncomputable def kU:aV:=["signs","thing","kind","place","name"]
noncomputable def pB:aV:=kU.take 2
theorem gZ:aR kU pB (aJ gC):=bQ rfl rfl rfl rfl (by decide +kernel)
noncomputable def BH:aV:=["term","place","way","number","at"]
noncomputable def BC:aV:=BH.take 2
theorem mE:aR BH BC (aJ oB):=bQ rfl rfl rfl rfl (by decide +kernel)
noncomputable def LK:aV:=["signs","term","step","whole","kind","place","name","way","deed","changed","number","above"]
noncomputable def LI:aV:=LK.take 3
theorem gX:aR LK LI (aJ xD):=bQ rfl rfl rfl rfl (by decide +kernel)
noncomputable def mB:aV:=["_law_noughts","_law_kind","_law_name","_law_here","_law_nought","_law_one","_law_other"]
noncomputable def lW:aV:=mB.take 4
theorem iE:aR mB lW (aJ gF):=bQ rfl rfl rfl rfl (by decide +kernel)
noncomputable def wM:aV:=["_law_name","_law_here"]
noncomputable def wK:aV:=wM.take 2
theorem B6:aR wM wK (aJ mH):=bQ rfl rfl rfl rfl (by decide +kernel)
noncomputable def lY:aV:=["_law_noughts","_law_term_here","_law_step_here","_law_kind","_law_place","_law_name","_law_way","_law_k","_law_found","_law_here"]
noncomputable def lV:aV:=lY.take 3
theorem cE:aR lY lV (aJ gE):=bQ rfl rfl rfl rfl (by decide +kernel)
noncomputable def uS:aV:=["_law_term_here","_law_found","_law_at","_law_here","_law_k","_law_part_here"]
noncomputable def mX:aV:=["_law_term_here"]
theorem dW:aR uS mX (aJ hU):=bQ rfl rfl rfl rfl (by decide +kernel)
noncomputable def rB:aV:=["_law_noughts","_law_here","_law_place","_law_found","_law_name","_law_kind"]
noncomputable def qU:aV:=rB.take 3
theorem iJ:aR rB qU (aJ jF):=bQ rfl rfl rfl rfl (by decide +kernel)
noncomputable def rC:aV:=["_law_term_here","_law_place","_law_k"]
noncomputable def qV:aV:=rC.take 2
theorem kB:aR rC qV (aJ jG):=bQ rfl rfl rfl rfl (by decide +kernel)
noncomputable def rA:aV:=["_law_state","_law_noughts","_law_term_here","_law_places_here","_law_first","_law_place","_law_some_here"]
noncomputable def qT:aV:=rA.take 3
theorem fZ:aR rA qT (aJ jE):=bQ rfl rfl rfl rfl (by decide +kernel)
structure Txt (mg:iH):Prop where
 n_len:mg "len" = none
 n_range:mg "range" = none
 n_int:mg "int" = none
 n_abs:mg "abs" = none
 n_min:mg "min" = none
 n_max:mg "max" = none
 n_tuple:mg "tuple" = none
 n_list:mg "list" = none
 n_dict:mg "dict" = none
 n_set:mg "set" = none
 n_isinstance:mg "isinstance" = none
 n_str:mg "str" = none
 n_bool:mg "bool" = none
 n_sorted:mg "sorted" = none
 n_reversed:mg "reversed" = none
 n_all:mg "all" = none
 n_any:mg "any" = none
 n_zip:mg "zip" = none
 n_repr:mg "repr" = none
 c_WISH_SIGNS:∃u,mg "WISH_SIGNS" = some u/\aU (.str "abcdefghijklmnopqrstuvwxyz0123456789") u
 c_LETTERS:∃u,mg "LETTERS" = some u/\aU (.str "abcdefghijklmnopqrstuvwxyz") u
 c_LONGEST_WISH:∃u,mg "LONGEST_WISH" = some u/\aU (.int 9) u
 c_DEEPEST:∃u,mg "DEEPEST" = some u/\aU (.int 1000) u
 c_LONGEST_NAME:∃u,mg "LONGEST_NAME" = some u/\aU (.int 6) u
 c_MOST_FIXED:∃u,mg "MOST_FIXED" = some u/\aU (.int 12) u
 c_MOST_SUMS:∃u,mg "MOST_SUMS" = some u/\aU (.int 3) u
 c_MOST_PARTS:∃u,mg "MOST_PARTS" = some u/\aU (.int 3) u
section
variable {P:Program}{w:World}{K:PySem.W.Frag}{mg:iH}{base:Heap}
def bY (H:Hp)(p:Addr):Prop:=∃a b:Int,H p=some (.lst [.int a,.int b])
theorem bY.but {p l:Addr}{H:Hp}{o:HO}(h:bY H p)(n:p≠l):bY (upd H l o) p:=by obtain⟨x,y,e⟩:=h;exact⟨x,y,by rw[aE n];exact e⟩
theorem bY.ne {p l:Addr}{H:Hp}(h:bY H p)(n:H l=none):p≠l:=by obtain⟨x,y,e⟩:=h;exact aH e n
def iQ:Sp:=λvs H Q _=>∃p n,vs=[.ref p,.int n]/\bY H p/\0<n/\n<1073741824/\∀d a b,0<=d->d<n->Q (.int d) (upd H p (.lst [.int a,.int b]))
theorem MV {f:Addr}{g:FuncData}(F:fY K "_law_take" "_law_take" jD f g)(T:Txt mg):bN P w K mg base bH 1 f g qS iQ:=by
 refine F.ok n6 (λvs H Q E h=>?_) (λo A outer s H vs Q E j h=>?_)
 ·obtain⟨p,n,rfl,_⟩:=h;rfl
 ·obtain⟨p,n,rfl,⟨a,b,d⟩,c,l,k⟩:=h
  refine⟨_,(aC (bD (aY OD (aS bB (pv 0) aF (λ_ _=>rfl)) aF (nomark _)) (aC (aW (i:=2) n6.nd rfl (Or.inl rfl) (bF nB (aS bB (pv 0) aF (λ_ _=>rfl)) (pv 1)))
   (aC (jN (bF ED (aS bB (pv 0) aF (λ_ _=>rfl)) (pv 1)) (CB (pv 0) aF sD))
   (aG (aM (pv 2))))) aP)
   (aC (jN (bF nB (bF bM (bF (sQ.or sP) (aS bB (pv 0) aF (λ_ _=>rfl)) aF) aF) aF) (CB (pv 0) aF sD))
   (aG (aM (bF nB (bF ED (bF nB (bF (sQ.or sP) (aS bB (pv 0) aF (λ_ _=>rfl)) (aS bB (pv 0) aF (λ_ _=>rfl))) aF) aF) (pv 1)))))),?_⟩
  try dsimp only[cxOf,Cx.nox]
  clear j F T;have e:ixV H (.ref p) (.int 0)=some (.int a):=by rw[ixV_l d];rfl
  have m:ixV H (.ref p) (.int 1)=some (.int b):=by rw[ixV_l d];rfl
  refine⟨_,rfl,_,e,_,_,rfl,rfl,_,rfl,ite2 (λ_=>?_) λ_=>?_⟩
  ·exact⟨_,rfl,_,e,_,rfl,_,_,rfl,rfl,c,_,rfl,_,e,_,rfl,_,_,rfl,rfl,⟨c,l⟩,_,rfl,p,_,0,0,rfl,rfl,d,rfl,_,rfl,k _ _ _ (Int.emod_nonneg _ (by omega)) (Int.emod_lt_of_pos _ c)⟩
  ·have r:=Int.emod_nonneg (b * 39373+7919) (b:=2147483629) (by decide);have q:=Int.emod_lt_of_pos (b * 39373+7919) (b:=2147483629) (by decide);refine⟨_,rfl,_,m,.inl ⟨_,_,rfl,rfl,.inr (by decide),.inl ⟨_,rfl,_,_,rfl,rfl,(by decide:(0:Int)<2147483629),_,rfl,p,_,1,1,rfl,rfl,d,rfl,_,rfl,_,by rw[ixV_l upd_same];rfl,_,rfl,_,by rw[ixV_l upd_same];rfl,.inl ⟨_,_,rfl,rfl,.inl ⟨by omega,by omega⟩,_,_,rfl,rfl,(by decide:(0:Int)<2147483563),_,_,rfl,rfl,⟨by decide,by decide⟩,_,rfl,_,_,rfl,rfl,c,k _ _ _ (Int.emod_nonneg _ (by omega)) (Int.emod_lt_of_pos _ c)⟩⟩⟩⟩
def IJ:Sp:=λvs H Q _=>∃n:Int,vs=[.int n]/\∀p x y,H p=none->Q (.ref p) (upd H p (.lst [.int x,.int y]))
theorem M4 {f:Addr}{a:FuncData}(F:fY K "_law_from" "_law_from" jI f a)(T:Txt mg):bN P w K mg base bH 1 f a qY IJ:=by
 refine F.ok oA (λvs H Q E h=>?_) (λd A outer s H vs Q E b h=>?_)
 ·obtain⟨n,rfl,_⟩:=h;rfl
 ·obtain⟨n,rfl,q⟩:=h
  refine⟨_,(aC (aW (i:=1) oA.nd rfl (Or.inl rfl) (bF nB (bF bM (bF (sQ.or sP) (bF nB (pv 0) aF) aF) aF) aF))
   (aG (aM (cQ (aA (bF (sQ.or sP) (pv 0) (cR HB rfl T.n_int rfl (aA (gH OE (pv 0) (bF PU aF aF) (nomark _)) aB))) (aA (pv 1) aB)))))),?_⟩
  try dsimp only[cxOf,Cx.nox]
  clear b F T;refine⟨_,rfl,_,_,rfl,rfl,(by decide:(0:Int)<2147483629),.inl ⟨_,_,rfl,rfl,.inr (by decide),.inl ⟨_,rfl,_,_,rfl,rfl,(by decide:(0:Int)<2147483647),?_⟩⟩⟩;refine⟨_,rfl,_,rfl,_,_,rfl,rfl,⟨by decide,by decide,by decide⟩,_,_,rfl,rfl,_,_,rfl,rfl,.inl ⟨_,_,rfl,rfl,.inr ?_,_,rfl,show 2<=sizeLine by decide,λp c=>q p _ _ c⟩⟩;split <;> decide
def bV (H H':Hp):Prop:=∀b xs,H b=some (.tup xs)->H' b=some (.tup xs)
theorem bV.trans {H e d:Hp}(a:bV H e)(b:bV e d):bV H d:=λc xs h=>b c xs (a c xs h)
theorem bV.of {H H':Hp}(s:aD H H'):bV H H':=λb xs h=>s b _ h
theorem bV.lst {H:Hp}{a:Addr}{c:List V}{o:HO}(h:H a=some (.lst c)):bV H (upd H a o):=λb xs e=>by rw[aE (λz=>by rw[z,h]at e;cases e)];exact e
theorem DK {p a:Addr}{H H':Hp}{o:HO}(h:dR p H H')(n:H a=none):dR p H (upd H' a o):=λc u nc e=>by rw[aE (aH e n)];exact h c u nc e
theorem bV.pot {H:Hp}{p:Addr}{o:HO}(h:bY H p):bV H (upd H p o):=by obtain⟨x,y,e⟩:=h;exact bV.lst e
def c6 (H:Hp):cW->List V->Prop
 | [],vs=>vs=[]
 | r::l,vs=>∃t us,vs = .ref t::us/\H t=some (.tup [.str r.1,.int r.2])/\c6 H l us
def gM (H:Hp):bE->List V->Prop
 | [],vs=>vs=[]
 | r::l,vs=>∃t us,vs = .ref t::us/\H t=some (.tup [.str r.1,.str r.2])/\gM H l us
theorem c6.same {H H':Hp}(s:bV H H'):∀{l:cW} {vs:List V},c6 H l vs->c6 H' l vs
 | [],_,h=>h
 | _::_,_,⟨t,us,e,h,q⟩=>⟨t,us,e,s _ _ h,c6.same s q⟩
theorem gM.same {H H':Hp}(s:bV H H'):∀{l:bE} {vs:List V},gM H l vs->gM H' l vs
 | [],_,h=>h
 | _::_,_,⟨t,us,e,h,q⟩=>⟨t,us,e,s _ _ h,gM.same s q⟩
theorem c6.snoc {H:Hp}{n:Str}{k:Int}{t:Addr}(a:H t=some (.tup [.str n,.int k])):∀{l:cW} {vs:List V},c6 H l vs->c6 H (l++[(n,k)]) (vs++[.ref t])
 | [],_,h=>by cases h;exact⟨t,[],rfl,a,rfl⟩
 | _::_,_,⟨u,us,e,h,q⟩=>by subst e;exact⟨u,us++[.ref t],rfl,h,c6.snoc a q⟩
theorem gM.snoc {H:Hp}{n k:Str}{t:Addr}(a:H t=some (.tup [.str n,.str k])):∀{l:bE} {vs:List V},gM H l vs->gM H (l++[(n,k)]) (vs++[.ref t])
 | [],_,h=>by cases h;exact⟨t,[],rfl,a,rfl⟩
 | _::_,_,⟨u,us,e,h,q⟩=>by subst e;exact⟨u,us++[.ref t],rfl,h,gM.snoc a q⟩
theorem c6.len {H:Hp}:∀{l:cW} {vs:List V},c6 H l vs->vs.length=l.length
 | [],_,h=>by cases h;rfl
 | _::_,_,⟨t,us,e,h,q⟩=>by subst e;simp[c6.len q]
theorem c6.get {H:Hp}:∀{l:cW} {vs:List V} {i:Nat} {v:V},c6 H l vs->vs[i]?=some v->∃r t,l[i]?=some r/\v = .ref t/\H t=some (.tup [.str r.1,.int r.2])
 | [],_,_,_,h,e=>by cases h;simp at e
 | r::_,_,0,_,⟨t,us,e,h,q⟩,k=>by subst e;simp at k;exact⟨r,t,rfl,k.symm,h⟩
 | _::_,_,i+1,_,⟨t,us,e,h,q⟩,k=>by subst e;simp at k;obtain⟨r,t,c,b,a⟩:=c6.get q k;exact⟨r,t,by simpa using c,b,a⟩
noncomputable def zeros (a:cW):aV:=(a.filter λr=>decide (r.2=0)).map (·.1)
structure bX (fx:cW)(sm:bE):Prop where
 f1:1<=fx.length
 f2:fx.length<=12
 s2:sm.length<=3
 nm:∀x∈fx.map (·.1)++sm.map (·.1),kR x
 nd:(fx.map (·.1)++sm.map (·.1)).Nodup
 parts:∀r∈fx,0<=r.2/\r.2<=3
 bare:∃r∈fx,r.2=0
 nought:∀r∈sm,r.2≠("" : Str)->r.2∈zeros fx
 once:((sm.map (·.2)).filter λ(x:Str)=>decide (x≠("" : Str))).Nodup
theorem BQ (a:cW)(r:Str×Int):zeros (a++[r])=zeros a++(if r.2=0 then [r.1]else []):=by unfold zeros;rw[List.filter_append,ax];congr 1;by_cases z:r.2=0 <;> simp[z]
theorem FM (a:cW):(zeros a).Sublist (a.map (·.1)):=List.Sublist.map _ List.filter_sublist
theorem bC {α:Type}{xs:List α}{i:Nat}{x:α}(h:xs[i]?=some x):xs.take (i+1)=xs.take i++[x]:=by rw[List.take_succ,h];rfl
theorem tI (xs:List V)(n:Nat):cutV xs (some (n:Int)) none=xs.drop n:=by
 unfold cutV;rw[HT.sIx_nat,HT.sIx_none,←bu];rcases Nat.le_total n xs.length with h|h
 ·rw[Nat.min_eq_left h,br]
 ·rw[Nat.min_eq_right h,List.drop_eq_nil_of_le h,List.drop_eq_nil_of_le (ac _)];rfl
def isWd (c:Nat):Prop:=(97<=c/\c<=122)∨(48<=c/\c<=57)
def eC (x:Str):Prop:=∃l:List Nat,x=⟨(63::l).toArray⟩/\1<=l.length/\l.length<=8/\∀c∈l,isWd c
noncomputable def wds:Str:=PySem.Str.ofString "abcdefghijklmnopqrstuvwxyz0123456789"
def LE (p t:Addr)(c:cW)(sm:bE)(H:Hp):Prop:=∃(a b:Addr) (fv sv:List V),H t=some (.tup [.ref a,.ref b])/\H a=some (.lst fv)/\H b=some (.lst sv)/\c6 H c fv/\gM H sm sv/\a≠p/\b≠p
theorem bV.ofBut {p:Addr}{H H':Hp}(h:dR p H H')(a:bY H p):bV H H':=λb xs e=>h b _ (λz=>by obtain⟨x,y,q⟩:=a;rw[z,q]at e;cases e) e
theorem LE.but {p t:Addr}{g:cW}{sm:bE}{H H':Hp}(h:LE p t g sm H)(c:dR p H H')(d:bY H p):LE p t g sm H':=by obtain⟨a,b,r,i,q,o,m,l,j,f,e⟩:=h;exact⟨a,b,r,i,bV.ofBut c d _ _ q,c _ _ f o,c _ _ e m,l.same (bV.ofBut c d),j.same (bV.ofBut c d),f,e⟩
theorem gM.get {H:Hp}:∀{l:bE} {vs:List V} {i:Nat} {v:V},gM H l vs->vs[i]?=some v->∃r t,l[i]?=some r/\v = .ref t/\H t=some (.tup [.str r.1,.str r.2])
 | [],_,_,_,h,e=>by cases h;simp at e
 | r::_,_,0,_,⟨t,us,e,h,q⟩,k=>by subst e;simp at k;exact⟨r,t,rfl,k.symm,h⟩
 | _::_,_,i+1,_,⟨t,us,e,h,q⟩,k=>by subst e;simp at k;obtain⟨r,t,c,b,a⟩:=gM.get q k;exact⟨r,t,by simpa using c,b,a⟩
theorem gM.len {H:Hp}:∀{l:bE} {vs:List V},gM H l vs->vs.length=l.length
 | [],_,h=>by cases h;rfl
 | _::_,_,⟨t,us,e,h,q⟩=>by subst e;simp[gM.len q]
theorem c6.app {H:Hp}:∀{l m:cW} {vs us:List V},c6 H l vs->c6 H m us->c6 H (l++m) (vs++us)
 | [],_,_,_,h,k=>by cases h;exact k
 | _::_,_,_,_,⟨t,us,e,h,q⟩,k=>by subst e;exact⟨t,_,rfl,h,c6.app q k⟩
def qB (a:cW)(sm:bE)(n:Str)(k:Nat):Prop:=(0<k/\(n,(k:Int))∈a)∨(2<=k/\n∈sm.map (·.1))
mutual
def bA (a:cW)(sm:bE)(os:aV):D->Prop
 | .str x=>x∈os∨x∈zeros a
 | .tup (.str n::ds)=>qB a sm n ds.length/\IsTms a sm os ds
 | .lst (.str n::ds)=>qB a sm n ds.length/\IsTms a sm os ds
 | _=>False
def IsTms (a:cW)(sm:bE)(os:aV):List D->Prop
 | []=>True
 | d::ds=>bA a sm os d/\IsTms a sm os ds
end
mutual
noncomputable def lvs:D->Nat
 | .tup (_::ds)=>lvss ds
 | .lst (_::ds)=>lvss ds
 | _=>1
noncomputable def lvss:List D->Nat
 | []=>0
 | d::ds=>lvs d+lvss ds
end
theorem IsTms.snoc {c:cW}{sm:bE}{os:aV}{d:D}(h:bA c sm os d):∀{ds:List D},IsTms c sm os ds->IsTms c sm os (ds++[d])
 | [],_=>⟨h,trivial⟩
 | _::_,⟨a,b⟩=>⟨a,IsTms.snoc h b⟩
theorem vJ (d:D):∀ds:List D,lvss (ds++[d])=lvss ds+lvs d
 | []=>by simp[lvss]
 | e::ds=>by rw[List.cons_append,lvss,vJ d ds,lvss];omega
theorem tH (d:D):∀ds:List D,depDs (ds++[d])=max (depDs ds) (depD d)
 | []=>Nat.max_comm _ _
 | e::ds=>by rw[List.cons_append,depDs,tH d ds,depDs,Nat.max_assoc]
theorem Reps.snoc {H:Hp}{d:D}{v:V}(h:aT H d v):∀{ds:List D} {vs:List V},Reps H ds vs->Reps H (ds++[d]) (vs++[v])
 | [],_,e=>by cases e;exact⟨v,[],rfl,h,rfl⟩
 | _::_,_,⟨x,r,e,a,b⟩=>by subst e;exact⟨x,r++[v],rfl,a,Reps.snoc h b⟩
theorem Reps.len {H:Hp}:∀{ds:List D} {vs:List V},Reps H ds vs->vs.length=ds.length
 | [],_,e=>by cases e;rfl
 | _::_,_,⟨x,r,e,a,b⟩=>by subst e;simp[Reps.len b]
noncomputable def nw (H H':Hp):Hp:=λa=>if H a=none then H' a else none
noncomputable def nwB (r:Addr)(H H':Hp):Hp:=λa=>if H a=none/\a≠r then H' a else none
theorem lM {H H':Hp}{a:Addr}{o:HO}:nw H H' a=some o ↔ H a=none/\H' a=some o:=by
 unfold nw;by_cases h:H a=none
 ·rw[ai h];exact⟨λe=>⟨h,e⟩,λe=>e.2⟩
 ·rw[ab h];exact⟨λe=>(by cases e),λe=>absurd e.1 h⟩
def TI (p t o l rw:Addr)(a b parts:Nat)(nm:Str)(d:cW)(sm:bE)(os:aV)(H:Hp)(i:Nat)(σ:St)(c:Hp):Prop :=
 ∃(left:Nat) (ds:List D) (vs:List V) (o10 o11:Option V),σ=[some (.ref p),some (.ref t),some (.ref o),some (.int a),some (.int b),some (.ref l),some (.str nm),some (.int parts),some (.int left),some (.ref rw),o10,o11] /\
  dR p H c/\bY c p/\c rw=some (.lst (.str nm::vs))/\Reps (nwB rw H c) ds vs/\ds.length=i/\IsTms d sm os ds/\lvss ds+left+(parts - i)<=a/\depDs ds+1<=b
noncomputable def c31 (a j:Nat):Nat:=97+(7 * j+a) % 26
def DN (a:Nat)(b:Nat->Nat)(ws:aV):Prop:=ws.length=12/\∀j x,ws[j]?=some x->∃l,x.cps.toList=c31 a j::l/\l.length<=b j/\∀c∈l,97<=c/\c<=122
theorem DN.mono {a:Nat}{b c:Nat->Nat}{ws:aV}(h:DN a b ws)(k:∀j,b j<=c j):DN a c ws :=
 ⟨h.1,λj x e=>by obtain⟨l,g,f,d⟩:=h.2 j x e;exact⟨l,g,al f (k j),d⟩⟩
theorem DN.set {f:Nat}{b:Nat->Nat}{ws:aV}{j c:Nat}{x:Str}(h:DN f b ws)(e:ws[j]?=some x)(s:97<=c)(r:c<=122):DN f (λi=>if i=j then b j+1 else b i) (ws.set j (x++⟨#[c]⟩)):=by
 refine⟨by rw[List.length_set];exact h.1,λi y a=>?_⟩;by_cases z:i=j
 ·subst z;obtain⟨l,q,o,m⟩:=h.2 i x e;rw[List.getElem?_set_self (ck.mp e).1]at a;cases a;refine⟨l++[c],?_,by dsimp only;rw[ai rfl,aq];exact Nat.succ_le_succ o,λd hd=>?_⟩
  ·show(x.cps ++ #[c]).toList=_;rw[Array.toList_append,q];rfl
  ·obtain g|g:=cr.mp hd
   ·exact m d g
   ·rw[cm.mp g];exact⟨s,r⟩
 ·rw[List.getElem?_set_ne (λw=>z w.symm)]at a;dsimp only;rw[ab z];exact h.2 i y a
theorem DN.name {a:Nat}{b:Nat->Nat}{ws:aV}(h:DN a b ws)(k:∀j,b j<=5){j:Nat}{x:Str}(e:ws[j]?=some x):kR x:=by
 obtain⟨l,i,o,f⟩:=h.2 j x e;have m:=k j;unfold kR;rw[i];refine⟨by rw[ao];omega,by rw[ao];omega,λc d=>?_⟩;obtain g|g:=cp.mp d
 ·have:=Nat.mod_lt (7 * j+a) (show 0<26 by decide);unfold c31 at g;omega
 ·exact f c g
theorem DN.nd {c:Nat}{b:Nat->Nat}{ws:aV}(h:DN c b ws):ws.Nodup:=by rw[List.nodup_iff_pairwise_ne,List.pairwise_iff_getElem];intro i j q f o e;obtain⟨l,a,_⟩:=h.2 i _ (aw q);obtain⟨m,d,_⟩:=h.2 j _ (aw f);rw[e,d]at a;injection a with g _;have r:=h.1;unfold c31 at g;omega
noncomputable def bO (i j:Nat):Nat:=if j∈([0,5,9]:List Nat).take i then 5 else 0
def TK (p l u:Addr)(a:Nat)(H:Hp)(i:Nat)(σ:St)(H':Hp):Prop:=∃(ws:aV) (o4 o5:Option V),σ=[some (.ref p),some (.str abc),some (.int a),some (.ref l),o4,o5,none,none]/\dR p H H'/\bY H' p/\H' l=some (.lst (ws.map V.str))/\H' u=some (.lst [.int 0,.int 5,.int 9])/\DN a (bO i) ws
def T1 (p l u:Addr)(a:Nat)(H:Hp)(b:Nat->Nat)(j:Nat)(t:Nat)(σ:St)(H':Hp):Prop:=∃(ws:aV) (o5:Option V),σ=[some (.ref p),some (.str abc),some (.int a),some (.ref l),some (.int j),o5,none,none]/\dR p H H'/\bY H' p/\H' l=some (.lst (ws.map V.str))/\H' u=some (.lst [.int 0,.int 5,.int 9])/\DN a (λi=>if i=j then t else b i) ws
theorem CT {K0:PySem.W.Frag}{p l u:Addr}{q:Nat}{J:It}{d:aV}{H c:Hp}{D:iM}(hJ:LO K0 u [.int 0,.int 5,.int 9] J c)(hl:H l=none)(b1:dR p H c)(p1:bY c p)(l1:c l=some (.lst (d.map V.str)))(u1:c u=some (.lst [.int 0,.int 5,.int 9]))(S:u≠l)(B:u≠p)(f:l≠p)(w0:DN q (bO 0) d)
  (fin:∀ws E A H',dR p H H'->bY H' p->H' l=some (.lst (ws.map V.str))->DN q (bO 3) ws->D.nx [some (.ref p),some (.str abc),some (.int q),some (.ref l),E,A,none,none] H') :
  nQ J (gName 4) (λD σ H=>iRng1 (tCons (tCall iQ [] E0 (tCons (tVar 0) (tCons (tC (V.int 6)) tNil))) tNil) σ H λJ c=>nQ J (gName 5) (tAsg (tOp rAddF (tOp (λx y H Q=>∃v,ixV H x y=some v/\Q v H) (tVar 3) (tVar 4)) (tOp (λx y H Q=>∃v,ixV H x y=some v/\Q v H) (tVar 1) (tCall iQ [] E0 (tCons (tVar 0) (tCons (tC (V.int 26)) tNil))))) (gSub (tVar 3) (tVar 4) rSetL)) D σ c) D [some (.ref p),some (.str abc),some (.int q),some (.ref l),none,none,none,none] c:=by
 refine eW hJ (TK p l u q H) ⟨d,none,none,rfl,b1,p1,l1,u1,w0⟩ (λi σ H' _ ⟨_,_,_,_,_,_,_,h,_⟩=>by rw[h,u1]) ?_ ?_
 ·rintro i x σ g b ⟨ws,E,A,rfl,b2,P,U,Z,L⟩;obtain⟨j,rfl,hj,hb0,hb1⟩:∃j:Nat,x = .int j/\j<12/\bO i j=0/\∀k,(if k=j then 5 else bO i k)<=bO (i+1) k:=by
   match i,b with
   | 0,b=>cases b;exact⟨0,rfl,by decide,by decide,λk=>by by_cases z:k=0 <;> simp[bO,z]⟩
   | 1,b=>cases b;exact⟨5,rfl,by decide,by decide,λk=>by by_cases z:k=5 <;> simp[bO,z]⟩
   | 2,b=>cases b;exact⟨9,rfl,by decide,by decide,λk=>by by_cases z:k=9 <;> simp[bO,z]⟩
   | i+3,b=>simp at b
  refine⟨_,rfl,p,6,rfl,P,by decide,by decide,λr w s r0 r1=>⟨r,rfl,by omega,by omega,?_⟩⟩;have b3:=b2.trans (dR.upd p g (.lst [.int w,.int s]));have p3:bY (upd g p (.lst [.int w,.int s])) p:=⟨_,_,upd_same⟩
  have l3:upd g p (.lst [.int w,.int s]) l=some (.lst (ws.map V.str)):=by rw[aE f];exact U
  have Y:upd g p (.lst [.int w,.int s]) u=some (.lst [.int 0,.int 5,.int 9]):=by rw[aE B];exact Z
  generalize upd g p (.lst [.int w,.int s])=H3 at b3 p3 l3 Y⊢;refine nH (T1 p l u q H (bO i) j) ⟨ws,A,rfl,b3,p3,l3,Y,L.mono λk=>?_⟩ ?_ ?_
  ·by_cases z:k=j
   ·rw[z,hb0];exact au _
   ·rw[ab z];exact ac _
  ·rintro t σ G ht ⟨a,R,rfl,X,O,F,N,o⟩;obtain⟨y,hy⟩:∃y,a[j]?=some y:=⟨_,aw (by rw[o.1];exact hj)⟩
   obtain⟨ly,T,C,_⟩:=o.2 j y hy;dsimp only at C;rw[ai rfl]at C;refine⟨_,rfl,_,rfl,.str y,by rw[ixV_l F];exact jL (by rw[bw,hy];rfl),_,rfl,_,rfl,p,26,rfl,O,by decide,by decide,λe K I e0 e1=>⟨_,KK e0 e1,.inl ⟨_,ai (al (m:=100) ?_ (by decide)),_,rfl,_,rfl,l,_,j,j,rfl,rfl,by rw[aE f];exact F,?_,?_⟩⟩⟩
   ·show y.cps.size+1<=100;rw[←bn,T,ao];omega
   ·rw[yC (by omega) (by rw[ae,o.1];omega)];rfl
   ·have b5:=X.trans (dR.upd p G (.lst [.int K,.int I]));have p5:bY (upd G p (.lst [.int K,.int I])) p:=⟨_,_,upd_same⟩
    have u5:upd G p (.lst [.int K,.int I]) u=some (.lst [.int 0,.int 5,.int 9]):=by rw[aE B];exact N
    refine⟨a.set j (y++⟨#[97+e.toNat]⟩),_,rfl,DK b5 hl,p5.but f.symm,by rw[upd_same,List.map_set],by rw[aE S];exact u5,(o.set hy (by omega) (by omega)).mono λk=>?_⟩;by_cases z:k=j
    ·rw[ai z,ai z,ai rfl];exact ac _
    ·rw[ab z,ab z,ab z];exact ac _
  ·rintro σ G ⟨a,R,rfl,X,O,F,N,o⟩;refine⟨a,_,_,rfl,X,O,F,N,o.mono λk=>al ?_ (hb1 k)⟩;by_cases z:k=j
   ·rw[ai z,ai z];omega
   ·rw[ab z,ab z];exact ac _
 ·rintro σ g ⟨ws,E,A,rfl,b2,P,U,Z,L⟩;exact fin ws E A g b2 P U L
theorem list12 {α:Type}{ws:List α}(h:ws.length=12):∃v u s q o m j i g f c b,ws=[v,u,s,q,o,m,j,i,g,f,c,b]:=by
 have one:∀{n:Nat} {l:List α},l.length=n+1->∃a r,l=a::r/\r.length=n:=λ{n l} h=>by
  cases l with
  | nil=>cases h
  | cons a r=>exact⟨a,r,rfl,Nat.succ.inj h⟩
 obtain⟨v,_,rfl,H⟩:=one h;obtain⟨u,_,rfl,G⟩:=one H;obtain⟨s,_,rfl,F⟩:=one G;obtain⟨q,_,rfl,E⟩:=one F;obtain⟨o,_,rfl,C⟩:=one E;obtain⟨m,_,rfl,B⟩:=one C;obtain⟨j,_,rfl,A⟩:=one B;obtain⟨i,_,rfl,z⟩:=one A;obtain⟨g,_,rfl,x⟩:=one z;obtain⟨f,_,rfl,w⟩:=one x;obtain⟨c,_,rfl,e⟩:=one w;obtain⟨b,r,rfl,d⟩:=one e;cases List.length_eq_zero_iff.mp d;exact⟨_,_,_,_,_,_,_,_,_,_,_,_,rfl⟩
def SN (ns:aV)(H:Hp)(i:Nat)(a:List V)(σ:St)(H':Hp):Prop:=aD H H'/\c6 H' ((ns.take i).map λx=>(x,(0:Int))) a/\∃o:Option V,σ=[o]
def SS (p l fl:Addr)(nm:List V)(c:List V)(d:cW)(b ns:aV)(H:Hp)(i:Nat)(a:List V)(σ:St)(H':Hp):Prop :=
 ∃(sm:bE) (o:Option V),σ=[o,some (.ref p),some (.ref l)]/\dR p H H'/\bY H' p/\H' l=some (.lst nm)/\H' fl=some (.lst c)/\c6 H' d c/\gM H' sm a/\sm.map (·.1)=ns.take i/\(∀r∈sm,r.2≠("" : Str)->r.2∈b)/\((sm.map (·.2)).filter λ(x:Str)=>decide (x≠("" : Str))).Sublist (b.take i)
theorem zX {f d a i g s q m l A c b:Str}{B k:Nat}{sm:bE}(w:DN B (bO 3) [f,d,a,i,g,s,q,m,l,A,c,b])(e:sm.map (·.1)=[A,c,b].take k)(z:∀r∈sm,r.2≠("" : Str)->r.2∈[f,d,a])(o:((sm.map (·.2)).filter λ(x:Str)=>decide (x≠("" : Str))).Sublist ([f,d,a].take k)) :
  bX [(f,0),(d,0),(a,0),(i,0),(g,0),(s,1),(q,1),(m,2),(l,3)] sm:=by
 have nd:=w.nd;have u:([f,d,a,i,g,s,q,m,l]++sm.map (·.1)).Sublist [f,d,a,i,g,s,q,m,l,A,c,b]:=by rw[e];exact List.Sublist.append (List.Sublist.refl _) (List.take_sublist _ _)
 have le:sm.length<=3:=by have:=congrArg List.length e;rw[ae,bq]at this;simp only[ao,List.length_nil]at this;omega
 have nm:∀x∈([f,d,a,i,g,s,q,m,l]++sm.map (·.1)),kR x:=λx C=>by obtain⟨j,E⟩:=List.getElem?_of_mem (u.subset C);exact w.name (λj=>by unfold bO;split <;> decide) E
 refine⟨by show 1<=9;decide,by show 9<=12;decide,le,nm,nd.sublist u,?_,⟨_,av,rfl⟩,λr v ne=>?_,(nd.sublist ?_).sublist o⟩
 ·intro r v;simp only[cp,List.not_mem_nil,or_false]at v;rcases v with rfl|rfl|rfl|rfl|rfl|rfl|rfl|rfl|rfl <;> (constructor <;> dsimp only <;> decide)
 ·have:=z r v ne;show r.2∈[f,d,a,i,g];simp only[cp,List.not_mem_nil,or_false]at this⊢;rcases this with h|h|h <;> simp[h]
 ·exact(List.take_sublist _ _).trans (List.sublist_append_left [f,d,a] [i,g,s,q,m,l,A,c,b])
noncomputable def wi31:aV:=["?x","?1","?0z9","?zzzzzzzz"]
def TN (b:Nat)(c:Hp)(i:Nat)(a:List V)(σ:St)(H':Hp):Prop:=H'=c/\∃(ws:aV) (o:Option V),a=ws.map V.str/\ws.length=i/\σ=[o,some (.str abc),some (.int b)]/\∀(j:Nat) (x:Str),ws[j]?=some x->x=⟨#[c31 b j]⟩
def RU (a:cW)(sm:bE):Prop:=(∀j,j<5->∃x,a[j]?=some (x,0))/\(∃r∈a,r.2=1)/\1<=sm.length
def u9:Sp:=λvs H Q _=>∃p:Addr,vs=[.ref p]/\bY H p/\∀(t a b:Addr) (fx:cW) (sm:bE) (fv sv:List V) (H':Hp),dR p H H'->bY H' p->H' t=some (.tup [.ref a,.ref b])->H' a=some (.lst fv)->H' b=some (.lst sv)->c6 H' fx fv->gM H' sm sv->bX fx sm->a≠p->b≠p->RU fx sm->Q (.ref t) H'
theorem JT {f:Addr}{fd:FuncData}(F:fY K "_law_signs" "_law_signs" eA f fd)(T:Txt mg)(c:d8 P w K mg base bH 1 "_law_take" iQ):bN P w K mg base bH 2 f fd pC u9:=by
 refine F.ok cZ (λvs H Q E h=>?_) (λcdv A outer s H vs Q E hr h=>?_)
 ·obtain⟨p,rfl,_⟩:=h;rfl
 ·obtain⟨p,rfl,hp,q⟩:=h;have hu:=hr.units
  refine⟨_,(aC (aW (i:=1) cZ.nd rfl (Or.inr rfl) cI)
   (aC (aW (i:=2) cZ.nd rfl (Or.inr rfl) (aN c (hr.mono (by decide)) pass0 rfl (aA (pv 0) (aA aF aB))))
   (aC (aW (i:=3) cZ.nd rfl (Or.inr rfl) (gG rfl (bW.by (N:=iL) (names:=(aJ eA).names) (N':=["_law_j","_law_letters","_law_shift"]) (src:=[none,some 1,some 2]) (by decide +kernel) rfl rfl) (j6 rfl T.n_range (aA aF aB)) (λ_ _ _ _=>(aZ (i:=0) (show List.Nodup (["_law_j","_law_letters","_law_shift"]:aV)by decide +kernel) rfl (Or.inl rfl))) (λ_ _ _ _=>dN) (λ_ _ _ _=>(aS bB (pv 1) (bF nB (bF bM (bF (sQ.or sP) aF (pv 0)) (pv 2)) aF) (λ_ _=>rfl)))))
   (aC (dG dc rfl (cP K rfl (cQ (aA aF (aA aF (aA aF aB))))) (aZ (i:=4) cZ.nd rfl (Or.inl rfl)) (aG (dG dc rfl (j6 rfl T.n_range (aA (aN c (hr.mono (by decide)) pass0 rfl (aA (pv 0) (aA aF aB))) aB)) (aZ (i:=5) cZ.nd rfl (Or.inl rfl)) (aG (jN (bF bM (aS bB (pv 3) (pv 4) (λ_ _=>rfl)) (aS bB (pv 1) (aN c (hr.mono (by decide)) pass0 rfl (aA (pv 0) (aA aF aB))) (λ_ _=>rfl))) (CB (pv 3) (pv 4) sD))))))
   (aC (jJ (i:=6) cZ.nd rfl rfl rfl rfl (bW.by (N:=iL) (names:=(aJ eA).names) (N':=["_law_name"]) (src:=[none]) (by decide +kernel) rfl rfl) (cP K rfl (dC gT (pv 3) cF (bT aF))) (λ_ _ _ _=>(aZ (i:=0) (show List.Nodup (["_law_name"]:aV)by decide +kernel) rfl (Or.inl rfl))) (λ_ _ _ _=>dN) (λ_ _ _ _=>(bK (aA (pv 0) (aA aF aB)))))
   (aC (cS (iU c4 PySem.F.slot_list_extend PySem.F.type_list_extend rP (pv 6) (aA (cQ (aA (bK (aA (aS bB (pv 3) aF (λ_ _=>rfl)) (aA aF aB))) (aA (bK (aA (aS bB (pv 3) aF (λ_ _=>rfl)) (aA aF aB))) (aA (bK (aA (aS bB (pv 3) aF (λ_ _=>rfl)) (aA aF aB))) (aA (bK (aA (aS bB (pv 3) aF (λ_ _=>rfl)) (aA aF aB))) aB))))) aB)))
   (aC (jJ (i:=7) cZ.nd rfl rfl rfl rfl (bW.by (N:=iL) (names:=(aJ eA).names) (N':=["_law_j","_law_state","_law_names"]) (src:=[none,some 0,some 3]) (by decide +kernel) rfl rfl) (j6 rfl T.n_range (aA (bF bM aF (aN c (hr.mono (by decide)) pass0 rfl (aA (pv 0) (aA aF aB)))) aB)) (λ_ _ _ _=>(aZ (i:=0) (show List.Nodup (["_law_j","_law_state","_law_names"]:aV)by decide +kernel) rfl (Or.inl rfl))) (λ_ _ _ _=>dN) (λ_ _ _ _=>(bK (aA (aS bB (pv 2) (bF bM aF (pv 0)) (λ_ _=>rfl)) (aA (aS bB (cQ (aA (aS bB (pv 2) (pv 0) (λ_ _=>rfl)) (aA cI aB))) (aN c (hr.mono (by decide)) pass0 rfl (aA (pv 1) (aA aF aB))) (λ_ _=>rfl)) aB)))))
   (aG (aM (bK (aA (pv 6) (aA (pv 7) aB)))))))))))),?_⟩
  try dsimp only[cxOf,Cx.nox]
  clear hr F T hu c;simp only[dU,eL];refine⟨_,rfl,p,26,rfl,hp,by decide,by decide,λd x0 y0 d0 d1=>?_⟩;obtain⟨sh,rfl,hsh⟩:∃k:Nat,d=(k:Int)/\k<26:=⟨d.toNat,by omega,by omega⟩
  have p1:bY (upd H p (.lst [.int x0,.int y0])) p:=⟨_,_,upd_same⟩
  have b1:dR p H (upd H p (.lst [.int x0,.int y0])):=dR.upd p H _;generalize upd H p (.lst [.int x0,.int y0])=H1 at p1 b1⊢;refine⟨12,rfl,by decide,by decide,?_⟩;refine qK (TN sh H1) ⟨rfl,[],none,rfl,rfl,rfl,by simp⟩ ?_ ?_
  ·rintro i g σ H' hi ⟨rfl,ws,o,rfl,hl,rfl,hw⟩;have hm:=Nat.mod_lt (7 * i+sh) (show 0<26 by decide);have ei:(7 * (0+(i:Int))+(sh:Int)) % 26=((7 * i+sh) % 26:Nat):=by omega
   refine⟨_,rfl,_,rfl,.inl ⟨_,_,rfl,rfl,.inl (by decide),_,rfl,.inl ⟨_,rfl,_,_,rfl,rfl,(by decide:(0:Int)<26),_,(by dsimp only;rw[ei];exact KK (by omega) (by omega)),aj (m:=12) (by rw[ae];omega) (by decide),rfl,ws++[⟨#[c31 sh i]⟩],_,by rw[ax];rfl,by rw[aq,hl];rfl,rfl,λj x e=>?_⟩⟩⟩;by_cases z:j<ws.length
   ·rw[List.getElem?_append_left z]at e;exact hw j x e
   ·rw[List.getElem?_append_right (by omega),hl]at e;obtain⟨g1,g2⟩:=ck.mp e;have g3:j=i:=by simp at g1;omega
    subst g3
    simpa using g2.symm
  ·rintro g σ H' ⟨rfl,ws,o,rfl,hl,rfl,hw⟩ l hl0;have nlp:l≠p:=(p1.ne hl0).symm;have old:∀a,a≠p->H' a=none->H a=none:=λa na ha=>by
    cases e:H a with
    | none=>rfl
    | some u=>have:=b1 a u na e;rw[ha]at this;cases this
   have hlH:=old l nlp hl0;have b2:=b1.trans (dR.new (p:=p) (o:=.lst (ws.map V.str)) hl0);have p2:=p1.but (o:=.lst (ws.map V.str)) (p1.ne hl0);have l2:upd H' l (.lst (ws.map V.str)) l=some (.lst (ws.map V.str)):=upd_same;generalize upd H' l (.lst (ws.map V.str))=H2 at b2 p2 l2⊢;refine⟨show 3<=sizeLine by decide,λu hu=>⟨u,_,rfl,.inl upd_same,λJ hJ=>CT hJ hlH (b2.trans (dR.new hu)) (p2.but (p2.ne hu)) (by rw[aE (aH l2 hu)];exact l2) upd_same (aH l2 hu).symm (p2.ne hu).symm nlp ⟨hl,λj x e=>⟨[],by rw[hw j x e],au _,by simp⟩⟩ λws3 o4 o5 H3 b3 p3 l3 w3=>?_⟩⟩;clear hJ J hu b2 p2 l2 hl hw ws;obtain⟨C,B,v,S,R,W,a6,a7,Z,a9,O,I,rfl⟩:=list12 w3.1;refine⟨_,rfl,5,rfl,l,_,rfl,.inl l3,(λ⟨ys,hy⟩=>by rw[l3]at hy;cases hy),λsl os hsl ho=>?_⟩;have eo:os = .lst [.str C,.str B,.str v,.str S,.str R]:=by
    rcases ho with⟨e,_⟩|⟨_,e⟩
    ·rw[e];rfl
    ·rw[l3]at e;cases e
   subst eo;clear ho;have s4:aD H3 (upd H3 sl (.lst [.str C,.str B,.str v,.str S,.str R])):=aD.upd hsl;have l4:upd H3 sl (.lst [.str C,.str B,.str v,.str S,.str R]) sl=some (.lst ([C,B,v,S,R].map V.str)):=upd_same;generalize upd H3 sl (.lst [.str C,.str B,.str v,.str S,.str R])=H4 at s4 l4⊢;refine⟨sl,_,rfl,.inl l4,λJ hJ=>dF hJ (SN [C,B,v,S,R] H4) ⟨aD.refl _,rfl,none,rfl⟩ (λi g σ H' _ h=>by rw[h.1 _ _ l4,l4]) ?_ ?_⟩
   ·rintro i x g σ H5 hx ⟨s5,r5,o6,rfl⟩;obtain⟨y,hy,rfl⟩:∃y,[C,B,v,S,R][i]?=some y/\x = .str y:=by
     rw[bw]at hx;cases e:[C,B,v,S,R][i]? with
     | none=>rw[e]at hx;cases hx
     | some n=>rw[e]at hx;exact⟨n,rfl,by cases hx;rfl⟩
    refine⟨_,rfl,show 2<=sizeLine by decide,λt U=>⟨aj (m:=20) ?_ (by decide),s5.trans (aD.upd U),?_,_,rfl⟩⟩
    ·rw[r5.len,ae,bq];simp;omega
    ·rw[bC hy,ax];exact(r5.same (bV.of (aD.upd U))).snoc upd_same
   ·rintro g σ H5 ⟨s5,r5,o6,rfl⟩ fl hfl;have r5':c6 H5 [(C,0),(B,0),(v,0),(S,0),(R,0)] g:=r5;have s6:=(s4.trans s5).trans (aD.upd (o:=.lst g) hfl);have f6:upd H5 fl (.lst g) fl=some (.lst g):=upd_same;have r6:=r5'.same (bV.of (aD.upd (o:=.lst g) hfl));have nfl:H3 fl=none:=by
     cases e:H3 fl with
     | none=>rfl
     | some u=>have:=(s4.trans s5) _ _ e;rw[hfl]at this;cases this
    have nfp:fl≠p:=(p3.ne nfl).symm;have nfH:H fl=none:=by
     cases e:H fl with
     | none=>rfl
     | some u=>have:=b3 fl u nfp e;rw[nfl]at this;cases this
    have la:=r5'.len;generalize upd H5 fl (.lst g)=H6 at s6 f6 r6⊢;have L:∀{H7:Hp},aD H6 H7->H7 l=some (.lst ([C,B,v,S,R,W,a6,a7,Z,a9,O,I].map V.str)):=λs=>s _ _ (s6 _ _ l3);refine⟨_,rfl,.inl ⟨rfl,_,eK.of f6⟩,_,rfl,.str W,by rw[ixV_l (L (aD.refl _))];rfl,show 2<=sizeLine by decide,λt1 h1=>?_⟩;have s7:=aD.upd (o:=.tup [.str W,.int 1]) h1;have g1:upd H6 t1 (.tup [.str W,.int 1]) t1=some (.tup [.str W,.int 1]):=upd_same;generalize upd H6 t1 (.tup [.str W,.int 1])=H7 at s7 g1⊢;refine⟨_,rfl,.str a6,by rw[ixV_l (L s7)];rfl,show 2<=sizeLine by decide,λX h2=>?_⟩;have s8:=s7.trans (aD.upd (o:=.tup [.str a6,.int 1]) h2);have g2:=c6.snoc (upd_same (H:=H7) (a:=X) (o:=.tup [.str a6,.int 1])) (c6.snoc (l:=[]) (vs:=[]) (aD.upd (o:=.tup [.str a6,.int 1]) h2 _ _ g1) rfl);generalize upd H7 X (.tup [.str a6,.int 1])=H8 at s8 g2⊢;refine⟨_,rfl,.str a7,by rw[ixV_l (L s8)];rfl,show 2<=sizeLine by decide,λt3 h3=>?_⟩;have s9:=s8.trans (aD.upd (o:=.tup [.str a7,.int 2]) h3);have g3:=c6.snoc (upd_same (H:=H8) (a:=t3) (o:=.tup [.str a7,.int 2])) (g2.same (bV.of (aD.upd (o:=.tup [.str a7,.int 2]) h3)));generalize upd H8 t3 (.tup [.str a7,.int 2])=H9 at s9 g3⊢;refine⟨_,rfl,.str Z,by rw[ixV_l (L s9)];rfl,show 2<=sizeLine by decide,λt4 h4=>?_⟩;have s10:=s9.trans (aD.upd (o:=.tup [.str Z,.int 3]) h4);have g4:=c6.snoc (upd_same (H:=H9) (a:=t4) (o:=.tup [.str Z,.int 3])) (g3.same (bV.of (aD.upd (o:=.tup [.str Z,.int 3]) h4)));generalize upd H9 t4 (.tup [.str Z,.int 3])=H10 at s10 g4⊢;refine⟨show 4<=sizeLine by decide,λb hb=>⟨fl,b,g,_,rfl,rfl,aD.upd hb _ _ (s10 _ _ f6),.inl upd_same,al (m:=20) (by rw[la];show 9<=20;decide) (by decide),?_⟩⟩;have Y:=s10.trans (aD.upd (o:=.lst [.ref t1,.ref X,.ref t3,.ref t4]) hb);have g5:=g4.same (bV.of (aD.upd (o:=.lst [.ref t1,.ref X,.ref t3,.ref t4]) hb));generalize upd H10 b (.lst [.ref t1,.ref X,.ref t3,.ref t4])=H11 at Y g5⊢;have l11:=L Y;have f11:=Y _ _ f6;have nlf:l≠fl:=λz=>by rw[z,nfl]at l3;cases l3
    have b12:=DK (o:=.lst (g++[.ref t1,.ref X,.ref t3,.ref t4])) (b3.trans (s6.trans Y).but) nfH;have p11:bY H11 p:=by obtain⟨x,y,e⟩:=p3;exact⟨x,y,(s6.trans Y) _ _ e⟩
    have p12:=p11.but (o:=.lst (g++[.ref t1,.ref X,.ref t3,.ref t4])) nfp.symm;have l12:upd H11 fl (.lst (g++[.ref t1,.ref X,.ref t3,.ref t4])) l=some (.lst ([C,B,v,S,R,W,a6,a7,Z,a9,O,I].map V.str)):=by rw[aE nlf];exact l11
    have f12:upd H11 fl (.lst (g++[.ref t1,.ref X,.ref t3,.ref t4])) fl=some (.lst (g++[.ref t1,.ref X,.ref t3,.ref t4])):=upd_same;have r12:c6 (upd H11 fl (.lst (g++[.ref t1,.ref X,.ref t3,.ref t4]))) [(C,0),(B,0),(v,0),(S,0),(R,0),(W,1),(a6,1),(a7,2),(Z,3)] (g++[.ref t1,.ref X,.ref t3,.ref t4]) :=
     c6.app (l:=[(C,0),(B,0),(v,0),(S,0),(R,0)]) (m:=[(W,1),(a6,1),(a7,2),(Z,3)]) (us:=[.ref t1,.ref X,.ref t3,.ref t4]) (r6.same ((bV.of Y).trans (bV.lst f11))) (c6.same (bV.lst f11) g5)
    generalize upd H11 fl (.lst (g++[.ref t1,.ref X,.ref t3,.ref t4]))=H12 at b12 p12 l12 f12 r12⊢;generalize g++[.ref t1,.ref X,.ref t3,.ref t4]=fv at f12 r12;clear Y g5 g4 g3 g2 g1 s10 s9 s8 s7 hb h4 h3 h2 h1 L r6 f6 s6 la nfl hfl r5 r5' s5 hJ J l4 s4 hsl l3 p3 b3 f11 l11 p11 g;refine⟨_,rfl,p,3,rfl,p12,by decide,by decide,λk x1 y1 k0 k1=>.inl ⟨_,rfl,1+k,rfl,by omega,by omega,?_⟩⟩;have b13:=b12.trans (dR.upd p H12 (.lst [.int x1,.int y1]));have p13:bY (upd H12 p (.lst [.int x1,.int y1])) p:=⟨_,_,upd_same⟩
    have l13:upd H12 p (.lst [.int x1,.int y1]) l=some (.lst ([C,B,v,S,R,W,a6,a7,Z,a9,O,I].map V.str)):=by rw[aE nlp];exact l12
    have f13:upd H12 p (.lst [.int x1,.int y1]) fl=some (.lst fv):=by rw[aE nfp];exact f12
    have r13:=r12.same (bV.pot (o:=.lst [.int x1,.int y1]) p12);generalize upd H12 p (.lst [.int x1,.int y1])=H13 at b13 p13 l13 f13 r13⊢;refine qK (SS p l fl _ fv [(C,0),(B,0),(v,0),(S,0),(R,0),(W,1),(a6,1),(a7,2),(Z,3)] [C,B,v] [a9,O,I] H) ⟨[],none,rfl,b13,p13,l13,f13,r13,rfl,rfl,by simp,by simp⟩ ?_ ?_
    ·rintro i g σ H14 hi ⟨sm,o6,rfl,b14,p14,l14,f14,r14,rs,e1,e2,e3⟩;have hi3:i<3:=by omega
     obtain⟨x9,xj,g9,gj,i9,ij⟩:∃x9 xj,[a9,O,I][i]?=some x9/\[C,B,v][i]?=some xj/\atI ([C,B,v,S,R,W,a6,a7,Z,a9,O,I].map V.str) (9+(0+(i:Int)))=some (.str x9)/\atI ([C,B,v,S,R,W,a6,a7,Z,a9,O,I].map V.str) (0+(i:Int))=some (.str xj):=by
      match i,hi3 with
      | 0,_=>exact⟨_,_,rfl,rfl,rfl,rfl⟩
      | 1,_=>exact⟨_,_,rfl,rfl,rfl,rfl⟩
      | 2,_=>exact⟨_,_,rfl,rfl,rfl,rfl⟩
     refine⟨_,rfl,_,rfl,.inl ⟨_,rfl,.str x9,by rw[ixV_l l14];exact i9,_,rfl,_,rfl,.str xj,by rw[ixV_l l14];exact ij,show 2<=sizeLine by decide,λr hr=>?_⟩⟩;have G:=aD.upd (o:=.lst [.str xj,.str ""]) hr;have q15:upd H14 r (.lst [.str xj,.str ""]) r=some (.lst [.str xj,.str ""]):=upd_same;have nrp:=(p14.ne hr).symm;have p15:=p14.but (o:=.lst [.str xj,.str ""]) (p14.ne hr);generalize upd H14 r (.lst [.str xj,.str ""])=H15 at G q15 p15⊢;refine⟨_,rfl,p,2,rfl,p15,by decide,by decide,λd x2 y2 d0 d1=>?_⟩;have p16:bY (upd H15 p (.lst [.int x2,.int y2])) p:=⟨_,_,upd_same⟩
     have b16:=(b14.trans G.but).trans (dR.upd p H15 (.lst [.int x2,.int y2]));have l16:upd H15 p (.lst [.int x2,.int y2]) l=_:=(aE nlp).trans (G _ _ l14);have f16:upd H15 p (.lst [.int x2,.int y2]) fl=_:=(aE nfp).trans (G _ _ f14);have q16:upd H15 p (.lst [.int x2,.int y2]) r=_:=(aE nrp).trans q15;have tt:=(bV.of G).trans (bV.pot (o:=.lst [.int x2,.int y2]) p15);generalize upd H15 p (.lst [.int x2,.int y2])=H16 at p16 b16 l16 f16 q16 tt⊢;have la:g.length<=20:=by have h1:=congrArg List.length e1;rw[ae,bq]at h1;have h2:=rs.len;simp only[List.length_nil,ao]at h1;omega
     have go:∀z:Str,(z=("" : Str)∨z=xj)->∀t,H16 t=none->∃(sm:bE),sm.map (·.1)=[a9,O,I].take (i+1)/\(∀r∈sm,r.2≠("" : Str)->r.2∈[C,B,v])/\((sm.map (·.2)).filter λ(x:Str)=>decide (x≠("" : Str))).Sublist ([C,B,v].take (i+1))/\gM (upd H16 t (.tup [.str x9,.str z])) sm (g++[.ref t]):=λz hz t U=>by
      refine⟨sm++[(x9,z)],by rw[ax,e1,bC g9];rfl,λr hr ne=>?_,?_,((rs.same tt).same (bV.of (aD.upd U))).snoc upd_same⟩
      ·obtain m|m:=cr.mp hr
       ·exact e2 r m ne
       ·rw[cm.mp m]at ne⊢;rw[hz.resolve_left ne];exact bg gj
      ·rw[ax,List.filter_append,bC gj];refine List.Sublist.append e3 ?_;rcases hz with rfl|rfl
       ·simp
       ·exact List.filter_sublist
     have fin:∀z:Str,(z=("" : Str)∨z=xj)->∀t,H16 t=none->SS p l fl ([C,B,v,S,R,W,a6,a7,Z,a9,O,I].map V.str) fv [(C,0),(B,0),(v,0),(S,0),(R,0),(W,1),(a6,1),(a7,2),(Z,3)] [C,B,v] [a9,O,I] H (i+1) (g++[.ref t]) [some (.int (0+i)),some (.ref p),some (.ref l)] (upd H16 t (.tup [.str x9,.str z])):=λz hz t U=>by obtain⟨sm',h1,h2,h3,h4⟩:=go z hz t U;exact⟨sm',_,rfl,b16.trans (dR.new U),p16.but (p16.ne U),aD.upd U _ _ l16,aD.upd U _ _ f16,(r14.same tt).same (bV.of (aD.upd U)),h4,h1,h2,h3⟩
     have:d=0∨d=1:=by omega
     rcases this with rfl|rfl
     ·exact⟨.str xj,by rw[ixV_l q16];rfl,show 2<=sizeLine by decide,λt U=>⟨aj la (by decide),fin xj (.inr rfl) t U⟩⟩
     ·exact⟨.str "",by rw[ixV_l q16];rfl,show 2<=sizeLine by decide,λt U=>⟨aj la (by decide),fin _ (.inl rfl) t U⟩⟩
    ·rintro g σ H14 ⟨sm,o6,rfl,b14,p14,l14,f14,r14,rs,e1,e2,e3⟩ sl hsl;refine⟨_,rfl,_,rfl,show 2<=sizeLine by decide,λt U=>?_⟩;have G:=(aD.upd (o:=.lst g) hsl).trans (aD.upd (o:=.tup [.ref fl,.ref sl]) U);refine q t fl sl _ sm fv g _ (b14.trans G.but) (by obtain⟨x,y,e⟩:=p14;exact⟨x,y,G _ _ e⟩) upd_same (G _ _ f14) (aD.upd U _ _ upd_same) (r14.same (bV.of G)) (rs.same (bV.of G)) (zX w3 e1 e2 e3) nfp (p14.ne hsl).symm ⟨λj hj=>?_,⟨(W,1),by simp,rfl⟩,?_⟩
     ·match j,hj with
      | 0,_=>exact⟨_,rfl⟩
      | 1,_=>exact⟨_,rfl⟩
      | 2,_=>exact⟨_,rfl⟩
      | 3,_=>exact⟨_,rfl⟩
      | 4,_=>exact⟨_,rfl⟩
     ·have:=congrArg List.length e1;rw[ae,bq]at this;simp only[ao,List.length_nil]at this;omega
end
abbrev M:=Nat×Str×Nat
noncomputable def sL (x y:Str):Bool:=decide (x.cps.toList<y.cps.toList)
theorem LX {x y:Str}(h:x.cps.toList=y.cps.toList):x=y:=by cases x;cases y;simp only[Str.mk.injEq];exact Array.toList_inj.mp h
theorem PC (x:Str):sL x x=false:=bh (List.lt_irrefl _)
theorem L1 {x y:Str}(h:sL x y=true):sL y x=false:=bh λk=>absurd (List.lt_trans (bo h) k) (List.lt_irrefl _)
theorem IR {x y:Str}(n:x≠y):sL x y=true∨sL y x=true:=by
 by_cases h:x.cps.toList<y.cps.toList
 ·exact .inl (bf h)
 ·by_cases k:y.cps.toList<x.cps.toList
  ·exact .inr (bf k)
  ·exact absurd (LX (List.le_antisymm (List.not_lt.mp k) (List.not_lt.mp h))) n
noncomputable def ltM (a b:M):Bool:=if a.1=b.1 then(if a.2.1=b.2.1 then decide (a.2.2<b.2.2)else sL a.2.1 b.2.1)else decide (a.1<b.1)
theorem sT {a b:M}(h:ltM a b=true):ltM b a=false:=by
 obtain⟨g,f,j⟩:=a;obtain⟨e,b2,i⟩:=b;unfold ltM at h⊢;dsimp only at h⊢;by_cases d:g=e
 ·subst d;rw[ai rfl]at h⊢;by_cases c:f=b2
  ·subst c;rw[ai rfl]at h⊢;exact bh (by have:=bo h;omega)
  ·rw[ab c]at h;rw[ab (Ne.symm c)];exact L1 h
 ·rw[ab d]at h;rw[ab (Ne.symm d)];exact bh (by have:=bo h;omega)
theorem pT {a b:M}(n:a≠b):ltM a b=true∨ltM b a=true:=by
 obtain⟨j,i,g⟩:=a;obtain⟨f,b2,e⟩:=b;unfold ltM;dsimp only;by_cases d:j=f
 ·subst d;rw[ai rfl,ai rfl];by_cases c:i=b2
  ·subst c;rw[ai rfl,ai rfl];have:g≠e:=λz=>n (by rw[z]);rcases Nat.lt_or_gt_of_ne this with h|h
   ·exact .inl (bf h)
   ·exact .inr (bf h)
  ·rw[ab c,ab (Ne.symm c)];exact IR c
 ·rw[ab d,ab (Ne.symm d)];rcases Nat.lt_or_gt_of_ne d with h|h
  ·exact .inl (bf h)
  ·exact .inr (bf h)
noncomputable def lexK:List M->List M->Bool
 | [],[]=>false
 | [],_::_=>true
 | _::_,[]=>false
 | a::s,b::t=>if a=b then lexK s t else ltM a b
theorem oN:∀s:List M,lexK s s=false
 | []=>rfl
 | a::s=>by rw[lexK,ai rfl,oN s]
theorem pU:∀{s t:List M},lexK s t=true->lexK t s=false
 | [],[],h=>by cases h
 | [],_::_,_=>rfl
 | _::_,[],h=>by cases h
 | a::s,b::t,h=>by
  rw[lexK]at h⊢;by_cases e:a=b
  ·rw[ai e]at h;rw[ai e.symm];exact pU h
  ·rw[ab e]at h;rw[ab (Ne.symm e)];exact sT h
theorem sV:∀{s t:List M},s≠t->lexK s t=true∨lexK t s=true
 | [],[],n=>absurd rfl n
 | [],_::_,_=>.inl rfl
 | _::_,[],_=>.inr rfl
 | a::s,b::t,n=>by
  rw[lexK,lexK];by_cases e:a=b
  ·rw[ai e,ai e.symm];exact sV λz=>n (by rw[e,z])
  ·rw[ab e,ab (Ne.symm e)];exact pT e
noncomputable def sortS (x:Str):Nat:=if x.cps.toList[0]?=some 63 then 0 else 1
mutual
noncomputable def key:D->List M
 | .str x=>[(sortS x,x,0)]
 | .tup (.str n::ds)=>(2,n,ds.length+1)::keys ds
 | _=>[]
noncomputable def keys:List D->List M
 | []=>[]
 | d::ds=>key d++keys ds
end
mutual
/-- texts and tuples whose first is a text -/
def Fl:D->Prop
 | .str x=>1<=x.cps.toList.length/\x.cps.toList.length<=20
 | .tup (.str _::ds)=>Fls ds
 | _=>False
def Fls:List D->Prop
 | []=>True
 | d::ds=>Fl d/\Fls ds
end
noncomputable def sortD:D->Nat
 | .str x=>sortS x
 | _=>2
mutual
/-- part by part -/
noncomputable def ah:D->D->Bool
 | .str x,.str y=>if sortS x=sortS y then sL x y else decide (sortS x<sortS y)
 | .tup (.str n::ds),.tup (.str m::es)=>if n=m then(if ds.length=es.length then ahs ds es else decide (ds.length<es.length))else sL n m
 | d,e=>decide (sortD d<sortD e)
noncomputable def ahs:List D->List D->Bool
 | d::ds,e::es=>if eqD d e=true then ahs ds es else ah d e
 | _,_=>false
end
theorem zD (x:Str):sortS x<2:=by unfold sortS;split <;> omega
mutual
theorem yA:∀(d e:D) (s t:List M),Fl d->Fl e->lexK (key d++s) (key e++t)=if eqD d e=true then lexK s t else ah d e
 | .str x,.str y,s,t,_,_=>by
  have a:eqD (.str x) (.str y)=(x == y):=rfl;show(if ((sortS x,x,0):M)=(sortS y,y,0)then lexK s t else ltM (sortS x,x,0) (sortS y,y,0))=_;rw[a];by_cases e:x=y
  ·subst e;rw[ai rfl,ai (by simp)]
  ·rw[ab (λz=>e (by simp at z;exact z.2)),ab (by simpa using e),ah];unfold ltM;dsimp only;by_cases h:sortS x=sortS y
   ·rw[ai h,ab e,ai h]
   ·rw[ab h,ab h]
 | .str x,.tup (.str m::es),s,t,_,_=>by
  have a:eqD (.str x) (.tup (.str m::es))=false:=rfl;have:=zD x;show(if ((sortS x,x,0):M)=(2,m,es.length+1)then _ else ltM (sortS x,x,0) (2,m,es.length+1))=_;rw[a,ab (λz=>by simp at z),ab (by decide),ah]
  ·unfold ltM;rw[ab (by dsimp only;omega)];rfl
  all_goals (intros;simp_all)
 | .tup (.str n::ds),.str y,s,t,_,_=>by
  have a:eqD (.tup (.str n::ds)) (.str y)=false:=rfl;have:=zD y;show(if ((2,n,ds.length+1):M)=(sortS y,y,0)then _ else ltM (2,n,ds.length+1) (sortS y,y,0))=_;rw[a,ab (λz=>by simp at z),ab (by decide),ah]
  ·unfold ltM;rw[ab (by dsimp only;omega)];rfl
  all_goals (intros;simp_all)
 | .tup (.str n::ds),.tup (.str m::es),s,t,g,f=>by
  have a:eqD (.tup (.str n::ds)) (.tup (.str m::es))=((n == m) && eqDs ds es):=rfl;show(if ((2,n,ds.length+1):M)=(2,m,es.length+1)then lexK (keys ds++s) (keys es++t)else ltM (2,n,ds.length+1) (2,m,es.length+1))=_;rw[a,ah];by_cases c:n=m
  ·subst c;by_cases b:ds.length=es.length
   ·rw[ai (by rw[b]),ai rfl,ai b,AL ds es s t b g f];simp
   ·rw[ab (λz=>b (by simp at z;omega)),ai rfl,ab b];have:eqDs ds es=false:=by
     cases h:eqDs ds es with
     | false=>rfl
     | true=>rw[iC]at h;simp at h;exact absurd h.2 b
    rw[this,ab (by simp)];unfold ltM;dsimp only;rw[ai rfl,ai rfl];simp
  ·rw[ab (λz=>c (by simp at z;exact z.1)),ab (by simp[c]),ab c];unfold ltM;dsimp only;rw[ai rfl,ab c]
theorem AL:∀(ds es:List D) (s t:List M),ds.length=es.length->Fls ds->Fls es->lexK (keys ds++s) (keys es++t)=if eqDs ds es=true then lexK s t else ahs ds es
 | [],[],s,t,_,_,_=>by rw[eqDs,ai rfl];rfl
 | d::ds,e::es,s,t,a,⟨f1,f2⟩,⟨c,b⟩=>by
  rw[keys,keys,ci,ci,yA d e _ _ f1 c,AL ds es s t (by simpa using a) f2 b,eqDs,ahs];by_cases h:eqD d e=true
  ·rw[ai h,ai h,h,Bool.true_and]
  ·have h':eqD d e=false:=by simpa using h
   rw[ab h,ab h,h',Bool.false_and,ab (by decide)]
 | [],_::_,_,_,h,_,_=>by simp at h
 | _::_,[],_,_,h,_,_=>by simp at h
end
theorem sW {d e:D}(b:Fl d)(a:Fl e):lexK (key d) (key e)=(!eqD d e && ah d e):=by have:=yA d e [] [] b a;rw[bi,bi]at this;rw[this];cases h:eqD d e <;> simp[lexK]
theorem NH {d e:D}(f:Fl d)(c:Fl e)(h:key d=key e):eqD d e=true:=by
 have a:=sW f c;have b:=yA d e [] [(0,default,0)] f c;rw[bi,h]at b;cases q:eqD d e with
 | true=>rfl
 | false =>
  rw[q,ab (by decide)]at b;rw[q,h,oN,←b]at a;have:∀(s:List M) (m:M),lexK s (s++[m])=true:=by
   intro s m
   induction s with
   | nil=>rfl
   | cons a s g=>rw[List.cons_append,lexK,ai rfl,g]
  rw[this]at a;cases a
section
variable {P:Program}{w:World}{K:PySem.W.Frag}{mg:iH}{base:Heap}
theorem yE {H:Hp}{a:Addr}{xs:List V}(h:H a=some (.tup xs)):isV H (.ref a) (.ty "tuple")=some true:=by unfold isV tyN;simp only[h];rfl
theorem vQ {g:TG}{tb:TS}{D:iM}{σ:St}{H:Hp}{a b:Addr}(xs c:List V)(Pv:Nat->St->Hp->Prop)(B:Pv 0 σ H)(v:∀i σ H,i<=min xs.length c.length->Pv i σ H->cV H a xs/\cV H b c)
  (u:∀i x y T σ H,xs[i]?=some x->c[i]?=some y->Pv i σ H->H T=none->g (.ref T) σ (upd H T (.tup [x,y])) λj C=>tb {D with nx:=Pv (i+1),ct:=Pv (i+1),bk:=D.nx} j C)
  (hd:∀σ H,Pv (min xs.length c.length) σ H->D.nx σ H):nQ (Q2 a b) g tb D σ H:=by
 refine⟨λi m σ H=>m=min xs.length c.length - i/\i<=min xs.length c.length/\Pv i σ H,⟨min xs.length c.length,by simp,au _,B⟩,?_⟩;rintro i m σ H ⟨rfl,w,p⟩;obtain⟨h,f⟩:=v i σ H w p;by_cases d:i<min xs.length c.length
 ·have s:i<xs.length:=bc d (Nat.min_le_left _ _);have r:i<c.length:=bc d (Nat.min_le_right _ _);refine .inr ⟨⟨xs,c,xs[i],c[i],h,f,by simp[s],by simp[r]⟩,Pv (i+1),λE H' q=>⟨min xs.length c.length - (i+1),by omega,rfl,d,q⟩,λz H' y=>?_⟩;obtain⟨T,x,y,rfl,A,rfl,q⟩:=y;obtain⟨o,l⟩:=q xs c h f;exact u i x y T σ H o l p A
 ·have e:i=min xs.length c.length:=by omega
  subst e;exact .inl ⟨⟨xs,c,h,f,by omega⟩,hd σ H p⟩
theorem Reps.get {H:Hp}:∀{ds:List D} {vs:List V} {i:Nat} {v:V},Reps H ds vs->vs[i]?=some v->∃d,ds[i]?=some d/\aT H d v
 | [],_,_,_,e,h=>by cases e;simp at h
 | d::_,_,0,_,⟨x,r,e,a,b⟩,h=>by subst e;simp at h;subst h;exact⟨d,rfl,a⟩
 | _::_,_,i+1,_,⟨x,r,e,a,b⟩,h=>by subst e;simp at h;obtain⟨d,f,c⟩:=Reps.get b h;exact⟨d,by simpa using f,c⟩
theorem Fls.get:∀{ds:List D} {i:Nat} {d:D},Fls ds->ds[i]?=some d->Fl d
 | [],_,_,_,z=>by simp at z
 | _::_,0,_,⟨a,_⟩,h=>by simp at h;subst h;exact a
 | _::_,i+1,_,⟨_,b⟩,h=>Fls.get b (by simpa using h)
theorem iZ:∀{ds:List D} {i:Nat} {d:D},ds[i]?=some d->depD d<=depDs ds
 | [],_,_,h=>by simp at h
 | e::ds,0,_,h=>by simp at h;subst h;rw[depDs];omega
 | e::ds,i+1,_,h=>by have:=iZ (ds:=ds) (i:=i) (by simpa using h);rw[depDs];omega
theorem yI {d:D}(h:Fl d):(∃x,d = .str x/\1<=x.cps.toList.length/\x.cps.toList.length<=20)∨∃n ds,d = .tup (.str n::ds)/\Fls ds:=by
 unfold Fl at h;split at h
 ·exact .inl ⟨_,rfl,h⟩
 ·exact .inr ⟨_,_,rfl,h⟩
 ·exact absurd h id
noncomputable def opn1 (n z:Str)(d:D):List D:=match d with
 | .tup (.str m::es)=>if m=n then es else [d]
 | d=>if eqD d (.str z)=true then []else [d]
noncomputable def opn (n z:Str)(ds:List D):List D:=ds.flatMap (opn1 n z)
theorem oM (n z:Str)(ds:List D)(d:D):opn n z (ds++[d])=opn n z ds++opn1 n z d:=by simp[opn]
theorem IsTms.get {c:cW}{sm:bE}{os:aV}:∀{ds:List D} {i:Nat} {d:D},IsTms c sm os ds->ds[i]?=some d->bA c sm os d
 | [],_,_,_,z=>by simp at z
 | _::_,0,_,⟨a,_⟩,h=>by simp at h;subst h;exact a
 | _::_,i+1,_,⟨_,b⟩,h=>IsTms.get b (by simpa using h)
theorem HZ {a:cW}{sm:bE}{os:aV}{d:D}(h:bA a sm os d):(∃x,d = .str x/\(x∈os∨x∈zeros a))∨∃n ds,(d = .tup (.str n::ds)∨d = .lst (.str n::ds))/\qB a sm n ds.length/\IsTms a sm os ds:=by
 unfold bA at h;split at h
 ·exact .inl ⟨_,rfl,h⟩
 ·exact .inr ⟨_,_,.inl rfl,h⟩
 ·exact .inr ⟨_,_,.inr rfl,h⟩
 ·exact absurd h id
theorem kP {a:cW}{sm:bE}{n:Str}{k:Nat}(h:qB a sm n k):1<=k:=by rcases h with⟨h,_⟩|⟨h,_⟩ <;> omega
theorem iX {H:Hp}{a:Addr}{xs:List V}(h:H a=some (.tup xs)):isV H (.ref a) (.ty "str")=some false:=by unfold isV tyN;simp only[h];rfl
theorem nG {H:Hp}{a:Addr}{xs:List V}(h:H a=some (.lst xs)):isV H (.ref a) (.ty "str")=some false:=by unfold isV tyN;simp only[h];rfl
theorem xW:∀{ds:List D} {i:Nat} {d:D},ds[i]?=some d->lvs d<=lvss ds
 | [],_,_,h=>by simp at h
 | e::ds,0,_,h=>by simp at h;subst h;rw[lvss];omega
 | e::ds,i+1,_,h=>by have:=xW (ds:=ds) (i:=i) (by simpa using h);rw[lvss];omega
mutual
theorem HY {a:cW}{sm:bE}{os:aV}:∀{d:D},bA a sm os d->1<=lvs d
 | .str x,_=>by rw[lvs] <;> simp
 | .tup (.str n::ds),h=>by
  unfold bA at h;have:=iI h.2;have:=kP h.1;rw[lvs];omega
 | .lst (.str n::ds),h=>by
  unfold bA at h;have:=iI h.2;have:=kP h.1;rw[lvs];omega
 | .non,h=>by unfold bA at h;exact absurd h id
 | .bl _,h=>by unfold bA at h;exact absurd h id
 | .int _,h=>by unfold bA at h;exact absurd h id
 | .tup [],h=>by unfold bA at h;exact absurd h id
 | .lst [],h=>by unfold bA at h;exact absurd h id
 | .tup (.non::_),h=>by unfold bA at h;exact absurd h id
 | .tup (.bl _::_),h=>by unfold bA at h;exact absurd h id
 | .tup (.int _::_),h=>by unfold bA at h;exact absurd h id
 | .tup (.tup _::_),h=>by unfold bA at h;exact absurd h id
 | .tup (.lst _::_),h=>by unfold bA at h;exact absurd h id
 | .lst (.non::_),h=>by unfold bA at h;exact absurd h id
 | .lst (.bl _::_),h=>by unfold bA at h;exact absurd h id
 | .lst (.int _::_),h=>by unfold bA at h;exact absurd h id
 | .lst (.tup _::_),h=>by unfold bA at h;exact absurd h id
 | .lst (.lst _::_),h=>by unfold bA at h;exact absurd h id
theorem iI {c:cW}{sm:bE}{os:aV}:∀{ds:List D},IsTms c sm os ds->ds.length<=lvss ds
 | [],_=>au _
 | d::ds,⟨a,b⟩=>by have f:=HY a;have e:=iI b;rw[lvss,ao];omega
end
end
mutual
theorem KW:∀{d e:D},Fl d->Fl e->eqD d e=true->d=e
 | .str x,.str y,_,_,h=>by
  have h:(x == y)=true:=h;rw[eq_of_beq h]
 | .tup (.str n::ds),.tup (.str m::es),b,a,h=>by
  have h:((n == m) && eqDs ds es)=true:=h;rw[Bool.and_eq_true]at h;unfold Fl at b a;rw[eq_of_beq h.1,KS b a h.2]
 | .str _,.tup (.str _::_),_,_,h=>by cases (show false=true from h)
 | .tup (.str _::_),.str _,_,_,h=>by cases (show false=true from h)
theorem KS:∀{ds es:List D},Fls ds->Fls es->eqDs ds es=true->ds=es
 | [],[],_,_,_=>rfl
 | d::ds,e::es,⟨a,b⟩,⟨f,c⟩,h=>by
  rw[eqDs,Bool.and_eq_true]at h;rw[KW a f h.1,KS b c h.2]
 | [],_::_,_,_,h=>by cases (show false=true from h)
 | _::_,[],_,_,h=>by cases (show false=true from h)
end
theorem QD {d e:D}(b:Fl d)(a:Fl e)(h:key d=key e):d=e:=KW b a (NH b a h)
def leK (d e:D):Prop:=lexK (key e) (key d)=false
theorem KC {d e:D}(f:Fl d)(c:Fl e)(b:leK d e)(a:leK e d):d=e:=by
 by_cases k:key d=key e
 ·exact QD f c k
 ·rcases sV k with h|h
  ·rw[a]at h;cases h
  ·rw[b]at h;cases h
theorem sU:∀{a b c:List M},lexK a b=false->lexK b c=false->lexK a c=false:=by
 have d:∀{a b c:M},ltM a b=true->ltM b c=true->ltM a c=true:=by
  rintro⟨s,j,A⟩ ⟨r,b2,w⟩ ⟨q,i,v⟩ h k;unfold ltM at h k⊢;dsimp only at h k⊢;by_cases f:s=r
  ·subst f;rw[ai rfl]at h;by_cases e:s=q
   ·subst e;rw[ai rfl]at k⊢;by_cases f1:j=b2
    ·subst f1;rw[ai rfl]at h;by_cases f2:j=i
     ·subst f2;rw[ai rfl]at k⊢;have:=bo h;have:=bo k;exact bf (p:=_) (by omega)
     ·rw[ab f2]at k⊢;exact k
    ·rw[ab f1]at h;by_cases f2:b2=i
     ·subst f2;rw[ab f1];exact h
     ·rw[ab f2]at k;have t:sL j i=true:=bf (List.lt_trans (bo h) (bo k));by_cases f3:j=i
      ·subst f3;rw[PC]at t;cases t
      ·rw[ab f3];exact t
   ·rw[ab e]at k⊢;exact k
  ·rw[ab f]at h;have h:=bo h;by_cases e:r=q
   ·subst e;rw[ab f];exact bf h
   ·rw[ab e]at k;have k:=bo k;rw[ab (by omega)];exact bf (p:=_) (by omega)
 intro a
 induction a with
 | nil =>
  intro b c h k;cases b with
  | nil=>exact k
  | cons y b=>cases h
 | cons x a u =>
  intro b c h k;cases c with
  | nil=>rfl
  | cons z c =>
   cases b with
   | nil=>cases k
   | cons y b =>
    rw[lexK]at h k⊢;by_cases f:x=y
    ·subst f;rw[ai rfl]at h;by_cases e:x=z
     ·rw[ai e]at k⊢;exact u h k
     ·rw[ab e]at k⊢;exact k
    ·rw[ab f]at h;have m:ltM y x=true:=(pT f).resolve_left (by rw[h];decide);by_cases e:y=z
     ·subst e;rw[ab f];exact h
     ·rw[ab e]at k;have l:ltM z y=true:=(pT e).resolve_left (by rw[k];decide);have g:=d l m;by_cases o:x=z
      ·subst o;have:=sT g;rw[g]at this;cases this
      ·rw[ab o];exact sT g
theorem GT {a b c:D}(h:leK a b)(k:leK b c):leK a c:=sU k h
theorem kA:∀{l m:List D},(∀d∈l,Fl d)->l.Perm m->l.Pairwise leK->m.Pairwise leK->l=m
 | [],m,_,p,_,_=>(List.nil_perm.mp p).symm
 | a::l,[],_,p,_,_=>absurd (List.perm_nil.mp p) (by simp)
 | a::l,b::m,f,p,s,t=>by
  have o:∀d∈b::m,Fl d:=λd hd=>f d (p.mem_iff.mpr hd);obtain⟨g,s2⟩:=List.pairwise_cons.mp s;obtain⟨t1,c⟩:=List.pairwise_cons.mp t;have e:a=b:=by
   have j:a∈b::m:=p.mem_iff.mp av;have i:b∈a::l:=p.mem_iff.mpr av;obtain h|h:=cp.mp j
   ·exact h
   ·obtain k|k:=cp.mp i
    ·exact k.symm
    ·exact KC (f a av) (o b av) (g b k) (t1 a h)
  subst e;rw[kA (λd hd=>f d (ay _ hd)) (List.perm_cons a |>.mp p) s2 c]
noncomputable def insA (d:D):List D->List D
 | []=>[d]
 | e::l=>if ah d e=true then d::e::l else e::insA d l
theorem mM (d:D):∀l:List D,(insA d l).Perm (d::l)
 | []=>.refl _
 | e::l=>by
  unfold insA;by_cases h:ah d e=true
  ·rw[ai h]
  ·rw[ab h];exact((mM d l).cons e).trans (.swap d e l)
theorem QS {d e:D}(b:Fl d)(a:Fl e):ah d e=true->lexK (key d) (key e)=true∨d=e:=λh=>by
 rw[sW b a,h];cases q:eqD d e with
 | false=>exact .inl rfl
 | true=>exact .inr (KW b a q)
theorem qH {d:D}(b:Fl d):∀{l:List D},(∀e∈l,Fl e)->l.Pairwise leK->(insA d l).Pairwise leK
 | [],_,_=>List.pairwise_singleton _ _
 | e::l,f,s=>by
  obtain⟨c,s2⟩:=List.pairwise_cons.mp s;have g:=f e av;unfold insA;by_cases h:ah d e=true
  ·rw[ai h];have i:leK d e:=by
    rcases QS b g h with q|q
    ·exact pU q
    ·subst q;exact oN _
   refine List.pairwise_cons.mpr ⟨λx a=>?_,s⟩;obtain k|k:=cp.mp a
   ·subst k;exact i
   ·exact GT i (c x k)
  ·rw[ab h];have m:leK e d:=by
    have:lexK (key d) (key e)=false:=by rw[sW b g];simp[h]
    exact this
   refine List.pairwise_cons.mpr ⟨λx a=>?_,qH b (λy j=>f y (ay _ j)) s2⟩;rcases cp.mp ((mM d l).mem_iff.mp a)with k|k
   ·subst k;exact m
   ·exact c x k
noncomputable def eV (ds:List D):List D:=ds.foldl (λl d=>insA d l) []
noncomputable def zr (sm:bE)(n:Str):Option Str:=(sm.find? λr=>decide (r.1=n)).map (·.2)
noncomputable def one (n z:Str)(l:List D):D:=match l with
 | []=>.str z
 | [d]=>d
 | l=>.tup (.str n::l)
noncomputable def knot (sm:bE)(n:Str)(ps:List D):D:=match zr sm n with
 | none=>.tup (.str n::ps)
 | some z=>one n z (eV (opn n z ps))
mutual
noncomputable def flt (sm:bE):D->D
 | .tup (.str n::ds)=>knot sm n (flts sm ds)
 | .lst (.str n::ds)=>knot sm n (flts sm ds)
 | d=>d
noncomputable def flts (sm:bE):List D->List D
 | []=>[]
 | d::ds=>flt sm d::flts sm ds
end
theorem dZ (sm:bE):∀ds:List D,flts sm ds=ds.map (flt sm)
 | []=>rfl
 | d::ds=>by rw[flts,dZ sm ds];rfl
theorem vO:∀(ds l:List D),(ds.foldl (λl d=>insA d l) l).Perm (ds++l)
 | [],l=>.refl _
 | d::ds,l=>(vO ds (insA d l)).trans (((mM d l).append_left ds).trans (List.perm_middle))
theorem bR (ds:List D):(eV ds).Perm ds:=by have:=vO ds [];simpa [eV] using this
mutual
noncomputable def sz:D->Nat
 | .tup (_::ds)=>max 1 (szs ds)
 | .lst (_::ds)=>max 1 (szs ds)
 | _=>1
noncomputable def szs:List D->Nat
 | []=>0
 | d::ds=>sz d+szs ds
end
theorem O7:∀d:D,1<=sz d:=by intro d;unfold sz;split <;> omega
theorem wT:∀ds:List D,ds.length<=szs ds
 | []=>ac _
 | d::ds=>by rw[szs,ao];have:=O7 d;have:=wT ds;omega
theorem wU:∀ds es:List D,szs (ds++es)=szs ds+szs es
 | [],es=>by simp[szs]
 | d::ds,es=>by rw[List.cons_append,szs,wU ds es,szs];omega
theorem IC {l m:List D}(p:l.Perm m):szs l=szs m:=by
 induction p with
 | nil=>rfl
 | cons x _ c=>rw[szs,szs,c]
 | swap x y l=>rw[szs,szs,szs,szs];omega
 | trans _ _ a b=>exact a.trans b
theorem vU:∀ds es:List D,depDs (ds++es)=max (depDs ds) (depDs es)
 | [],es=>by simp[depDs]
 | d::ds,es=>by rw[List.cons_append,depDs,vU ds es,depDs,Nat.max_assoc]
theorem DG {l m:List D}(p:l.Perm m):depDs l=depDs m:=by
 induction p with
 | nil=>rfl
 | cons x _ c=>rw[depDs,depDs,c]
 | swap x y l=>rw[depDs,depDs,depDs,depDs,Nat.max_left_comm]
 | trans _ _ a b=>exact a.trans b
theorem MM (n z:Str)(d:D):szs (opn1 n z d)<=sz d:=by
 unfold opn1;split
 ·split
  ·rw[sz];omega
  ·rw[szs,szs];omega
 ·split
  ·rw[szs];omega
  ·rw[szs,szs];omega
theorem cD (n z:Str)(d:D)(ds:List D):opn n z (d::ds)=opn1 n z d++opn n z ds:=by simp[opn]
theorem CH (n z:Str):∀ds:List D,szs (opn n z ds)<=szs ds
 | []=>ac _
 | d::ds=>by rw[cD,wU,szs];have:=MM n z d;have:=CH n z ds;omega
theorem JO (n z:Str)(d:D):depDs (opn1 n z d)<=depD d:=by
 unfold opn1;split
 ·split
  ·rw[depD,depDs];omega
  ·rw[depDs,depDs];omega
 ·split
  ·rw[depDs];omega
  ·rw[depDs,depDs];omega
theorem EB (n z:Str):∀ds:List D,depDs (opn n z ds)<=depDs ds
 | []=>ac _
 | d::ds=>by rw[cD,vU,depDs];have:=JO n z d;have:=EB n z ds;omega
theorem PZ (n z:Str)(l:List D):sz (one n z l)<=max 1 (szs l):=by
 unfold one;split
 ·show sz (.str z)<=_;unfold sz;omega
 ·rw[szs,szs];omega
 ·rw[sz];omega
theorem EM (sm:bE)(n:Str)(ps:List D):sz (knot sm n ps)<=max 1 (szs ps):=by
 unfold knot;split
 ·rw[sz];omega
 ·rename_i z _;have a:=PZ n z (eV (opn n z ps));rw[IC (bR _)]at a;have b:=CH n z ps;omega
theorem MS (n z:Str)(l:List D):depD (one n z l)<=depDs l+1:=by
 unfold one;split
 ·show(0:Nat)<=_;omega
 ·rw[depDs,depDs];omega
 ·rw[depD,depDs,show depD (.str n)=0 from rfl];omega
theorem AJ (sm:bE)(n:Str)(ps:List D):depD (knot sm n ps)<=depDs ps+1:=by
 unfold knot;split
 ·rw[depD,depDs,show depD (.str n)=0 from rfl];omega
 ·rename_i z _;have a:=MS n z (eV (opn n z ps));rw[DG (bR _)]at a;have b:=EB n z ps;omega
mutual
theorem QK (sm:bE):∀d:D,sz (flt sm d)<=sz d
 | .tup (.str n::ds)=>by rw[flt,sz];have:=EM sm n (flts sm ds);have:=rR sm ds;omega
 | .lst (.str n::ds)=>by rw[flt,sz];have:=EM sm n (flts sm ds);have:=rR sm ds;omega
 | .non | .bl _ | .int _ | .str _ | .tup [] | .lst [] | .tup (.non::_) | .tup (.bl _::_) | .tup (.int _::_) | .tup (.tup _::_) | .tup (.lst _::_) | .lst (.non::_) | .lst (.bl _::_) | .lst (.int _::_) | .lst (.tup _::_) | .lst (.lst _::_)=>by unfold flt;exact ac _
theorem rR (sm:bE):∀ds:List D,szs (flts sm ds)<=szs ds
 | []=>ac _
 | d::ds=>by rw[flts,szs,szs];have:=QK sm d;have:=rR sm ds;omega
end
mutual
theorem NP (sm:bE):∀d:D,depD (flt sm d)<=depD d
 | .tup (.str n::ds)=>by rw[flt,depD,depDs,show depD (.str n)=0 from rfl];have:=AJ sm n (flts sm ds);have:=oT sm ds;omega
 | .lst (.str n::ds)=>by rw[flt,depD,depDs,show depD (.str n)=0 from rfl];have:=AJ sm n (flts sm ds);have:=oT sm ds;omega
 | .non | .bl _ | .int _ | .str _ | .tup [] | .lst [] | .tup (.non::_) | .tup (.bl _::_) | .tup (.int _::_) | .tup (.tup _::_) | .tup (.lst _::_) | .lst (.non::_) | .lst (.bl _::_) | .lst (.int _::_) | .lst (.tup _::_) | .lst (.lst _::_)=>by unfold flt;exact ac _
theorem oT (sm:bE):∀ds:List D,depDs (flts sm ds)<=depDs ds
 | []=>ac _
 | d::ds=>by rw[flts,depDs,depDs];have:=NP sm d;have:=oT sm ds;omega
end
theorem dP:∀{ds:List D},Fls ds->∀d∈ds,Fl d
 | _::_,⟨a,b⟩,d,h=>by
  obtain rfl|h:=cp.mp h
  ·exact a
  ·exact dP b d h
theorem jP:∀{ds:List D},(∀d∈ds,Fl d)->Fls ds
 | [],_=>trivial
 | d::ds,h=>⟨h d av,jP λe k=>h e (ay _ k)⟩
theorem MQ {n z:Str}{d:D}(h:Fl d):Fls (opn1 n z d):=by
 unfold opn1;split
 ·rename_i m es;have k:Fls es:=by unfold Fl at h;exact h
  split
  ·exact k
  ·exact⟨h,trivial⟩
 ·split
  ·exact trivial
  ·exact⟨h,trivial⟩
theorem sO {n z:Str}{ds:List D}(h:Fls ds):Fls (opn n z ds):=jP λd k=>by obtain⟨e,b,a⟩:=List.mem_flatMap.mp k;exact dP (MQ (dP h e b)) d a
mutual
def Nb:D->Prop
 | .tup (_::ds)=>ds≠[]/\Nbs ds
 | _=>True
def Nbs:List D->Prop
 | []=>True
 | d::ds=>Nb d/\Nbs ds
end
theorem rO:∀{ds:List D},Nbs ds->∀d∈ds,Nb d
 | _::_,⟨a,b⟩,d,h=>by
  obtain rfl|h:=cp.mp h
  ·exact a
  ·exact rO b d h
theorem CS:∀{ds:List D},(∀d∈ds,Nb d)->Nbs ds
 | [],_=>trivial
 | d::ds,h=>⟨h d av,CS λe k=>h e (ay _ k)⟩
theorem MP {n z:Str}{d:D}(h:Nb d):Nbs (opn1 n z d):=by
 unfold opn1;split
 ·rename_i m es;have k:Nbs es:=by unfold Nb at h;exact h.2
  split
  ·exact k
  ·exact⟨h,trivial⟩
 ·split
  ·exact trivial
  ·exact⟨h,trivial⟩
theorem PQ {n z:Str}{ds:List D}(h:Nbs ds):Nbs (opn n z ds):=CS λd k=>by obtain⟨e,b,a⟩:=List.mem_flatMap.mp k;exact rO (MP (rO h e b)) d a
theorem P0 {n z:Str}{l:List D}(h:∀d∈l,Nb d):Nb (one n z l):=by
 unfold one;split
 ·unfold Nb;exact trivial
 ·exact h _ av
 ·rename_i l a b;unfold Nb;exact⟨a,CS h⟩
theorem EO {sm:bE}{n:Str}{ps:List D}(h:Nbs ps)(ne:ps≠[]):Nb (knot sm n ps):=by
 unfold knot;split
 ·unfold Nb;exact⟨ne,h⟩
 ·exact P0 λd k=>rO (PQ h) d ((bR _).mem_iff.mp k)
theorem MO {n:Str}{d:D}(f:Fl d)(b:Nb d):opn1 n ("" : Str) d≠[]:=by
 unfold opn1;split
 ·split
  ·unfold Nb at b;exact b.1
  ·exact λz=>nomatch z
 ·split
  ·rename_i e;exfalso;cases d with
   | str x =>
    have e:(x == ("" : Str))=true:=e;have e:=eq_of_beq e;subst e;unfold Fl at f;exact absurd f.1 (by decide)
   | tup xs=>cases e
   | _=>unfold Fl at f;exact f
  ·exact λz=>nomatch z
theorem JM {n:Str}:∀{ps:List D},Fls ps->Nbs ps->ps≠[]->opn n ("" : Str) ps≠[]
 | [],_,_,h=>absurd rfl h
 | d::ps,⟨f,_⟩,⟨b,_⟩,_=>by rw[cD];exact λz=>MO f b (List.append_eq_nil_iff.mp z).1
theorem x6 {sm:bE}{n:Str}{ps:List D}(hz:∀r∈sm,r.2=("" : Str)∨Fl (.str r.2))(h:Fls ps)(b:Nbs ps)(ne:ps≠[]):Fl (knot sm n ps):=by
 unfold knot;split
 ·unfold Fl;exact h
 ·rename_i z e;have a:z=("" : Str)∨Fl (.str z):=by unfold zr at e;obtain⟨r,c,rfl⟩:=Option.map_eq_some_iff.mp e;exact hz r (List.mem_of_find?_eq_some c)
  have f1:∀d∈eV (opn n z ps),Fl d:=λd k=>dP (sO h) d ((bR _).mem_iff.mp k);unfold one;split
  ·rename_i f;rcases a with rfl|a
   ·exfalso;have:=(bR (opn n ("" : Str) ps)).length_eq;rw[f]at this;exact JM h b ne (List.length_eq_zero_iff.mp this.symm)
   ·exact a
  ·rename_i e;exact f1 _ (by rw[e];exact av)
  ·unfold Fl;exact jP f1
section
variable {P:Program}{w:World}{K:PySem.W.Frag}{mg:iH}{base:Heap}
mutual
/-- a term: leaves that can be told,names with parts -/
def Tm:D->Prop
 | .str x=>1<=x.cps.toList.length/\x.cps.toList.length<=20
 | .tup (.str _::ds)=>ds≠[]/\Tms ds
 | .lst (.str _::ds)=>ds≠[]/\Tms ds
 | _=>False
def Tms:List D->Prop
 | []=>True
 | d::ds=>Tm d/\Tms ds
end
theorem DU {d:D}(h:Tm d):(∃x,d = .str x/\1<=x.cps.toList.length/\x.cps.toList.length<=20)∨∃n ds,(d = .tup (.str n::ds)∨d = .lst (.str n::ds))/\ds≠[]/\Tms ds:=by
 unfold Tm at h;split at h
 ·exact .inl ⟨_,rfl,h⟩
 ·exact .inr ⟨_,_,.inl rfl,h⟩
 ·exact .inr ⟨_,_,.inr rfl,h⟩
 ·exact absurd h id
theorem rT {sm:bE}{ds:List D}(h:ds≠[]):flts sm ds≠[]:=by rw[dZ];exact λz=>h (List.map_eq_nil_iff.mp z)
mutual
theorem nI {sm:bE}(hz:∀r∈sm,r.2=("" : Str)∨Fl (.str r.2)):∀{d:D},Tm d->Fl (flt sm d)/\Nb (flt sm d)
 | .tup (.str n::ds),h=>by
  unfold Tm at h;obtain⟨a,b⟩:=gL hz h.2;rw[flt];exact⟨x6 hz a b (rT h.1),EO b (rT h.1)⟩
 | .lst (.str n::ds),h=>by
  unfold Tm at h;obtain⟨a,b⟩:=gL hz h.2;rw[flt];exact⟨x6 hz a b (rT h.1),EO b (rT h.1)⟩
 | .str x,h=>by unfold flt;unfold Tm at h;unfold Fl Nb;exact⟨h,trivial⟩
 | .non,h | .bl _,h | .int _,h | .tup [],h | .lst [],h | .tup (.non::_),h | .tup (.bl _::_),h | .tup (.int _::_),h | .tup (.tup _::_),h | .tup (.lst _::_),h | .lst (.non::_),h | .lst (.bl _::_),h | .lst (.int _::_),h | .lst (.tup _::_),h | .lst (.lst _::_),h=>by unfold Tm at h;exact absurd h id
theorem gL {sm:bE}(hz:∀r∈sm,r.2=("" : Str)∨Fl (.str r.2)):∀{ds:List D},Tms ds->Fls (flts sm ds)/\Nbs (flts sm ds)
 | [],_=>by rw[flts];exact⟨trivial,trivial⟩
 | d::ds,⟨a,b⟩=>by rw[flts];exact⟨⟨(nI hz a).1,(gL hz b).1⟩,⟨(nI hz a).2,(gL hz b).2⟩⟩
end
theorem NN {sm:bE}(hz:∀r∈sm,r.2=("" : Str)∨Fl (.str r.2)){ds:List D}(h:Tms ds):Fls (flts sm ds):=(gL hz h).1
theorem uW {a:cW}{sm:bE}(so:bX a sm){x:Str}(h:x∈zeros a):1<=x.cps.toList.length/\x.cps.toList.length<=20:=by unfold zeros at h;obtain⟨r,b,rfl⟩:=cs.mp h;have:=so.nm r.1 (cb _ (List.mem_map_of_mem ((cx.mp b).1)));exact⟨this.1,al this.2.1 (by decide)⟩
theorem eT {b:cW}{sm:bE}(so:bX b sm):∀r∈sm,r.2=("" : Str)∨Fl (.str r.2):=λr a=>by
 by_cases e:r.2=("" : Str)
 ·exact .inl e
 ·refine .inr ?_;unfold Fl;exact uW so (so.nought r a e)
mutual
theorem kY {f:cW}{sm:bE}{os:aV}(so:bX f sm)(ho:∀x∈os,eC x):∀{d:D},bA f sm os d->Tm d/\sz d=lvs d
 | .str x,h=>by
  unfold bA at h;refine⟨?_,by unfold sz lvs;rfl⟩;unfold Tm;rcases h with h|h
  ·obtain⟨l,rfl,c,e,_⟩:=ho x h;exact⟨by simp,by simp;omega⟩
  ·exact uW so h
 | .tup (.str n::ds),h=>by
  unfold bA at h;obtain⟨a,b⟩:=pG so ho h.2;have c:=kP h.1;have e:=iI h.2;refine⟨?_,by rw[sz,lvs,b];omega⟩;unfold Tm;exact⟨λz=>by rw[z]at c;simp at c,a⟩
 | .lst (.str n::ds),h=>by
  unfold bA at h;obtain⟨a,b⟩:=pG so ho h.2;have c:=kP h.1;have e:=iI h.2;refine⟨?_,by rw[sz,lvs,b];omega⟩;unfold Tm;exact⟨λz=>by rw[z]at c;simp at c,a⟩
 | .non,h | .bl _,h | .int _,h | .tup [],h | .lst [],h | .tup (.non::_),h | .tup (.bl _::_),h | .tup (.int _::_),h | .tup (.tup _::_),h | .tup (.lst _::_),h | .lst (.non::_),h | .lst (.bl _::_),h | .lst (.int _::_),h | .lst (.tup _::_),h | .lst (.lst _::_),h=>by unfold bA at h;exact absurd h id
theorem pG {c:cW}{sm:bE}{os:aV}(so:bX c sm)(ho:∀x∈os,eC x):∀{ds:List D},IsTms c sm os ds->Tms ds/\szs ds=lvss ds
 | [],_=>⟨trivial,rfl⟩
 | d::ds,⟨a,b⟩=>by obtain⟨h,g⟩:=kY so ho a;obtain⟨f,e⟩:=pG so ho b;exact⟨⟨h,f⟩,by rw[szs,lvss,g,e]⟩
end
theorem mP (x:V)(xs:List V):cutV (x::xs) (some 1) none=xs:=by unfold cutV HT.sIx;simp
theorem gM.prs {H:Hp}:∀{sm:bE} {sv:List V},gM H sm sv->sv.map (prV H)=(sm.map λr=>((.inr r.1,V.str r.2):dQ×V)).map (λa=>some (kV a.1,a.2))
 | [],_,e=>by cases e;rfl
 | r::l,_,⟨t,us,e,h,q⟩=>by subst e;rw[ba,gM.prs q];unfold prV;simp only[h];rfl
theorem nE:∀(more a:List (dQ×V)),((a++more).map (·.1)).Nodup->eJ a more=a++more
 | [],a,_=>by simp[eJ]
 | p::r,a,h=>by
  have e:putK a p.1 p.2=a++[p]:=by unfold putK;rw[ab];intro z;obtain⟨y,c,b⟩:=List.any_eq_true.mp z;rw[ax,ba]at h;exact(List.nodup_append.mp h).2.2 y.1 (List.mem_map_of_mem c) p.1 av (by simpa using b)
  show eJ (putK a p.1 p.2) r=_;rw[e,nE r (a++[p]) (by simpa using h)];simp
theorem AB {sm:bE}(nd:(sm.map (·.1)).Nodup):eJ [] (sm.map λr=>((.inr r.1,V.str r.2):dQ×V))=sm.map λr=>(.inr r.1,V.str r.2):=by
 rw[nE]
 ·rfl
 ·rw[List.nil_append,List.map_map];exact List.pairwise_map.mpr ((List.pairwise_map.mp nd).imp λh e=>h (Sum.inr.inj e))
theorem wQ (n:Str):∀sm:bE,valV (sm.map λr=>((.inr r.1,V.str r.2):dQ×V)) (.inr n)=(zr sm n).map V.str
 | []=>rfl
 | r::l=>by
  by_cases e:r.1=n
  ·rw[ba,nS (by rw[e])];simp[zr,e]
  ·rw[ba,nU (λz=>e (by cases z;rfl)),wQ n l];simp[zr,e]
mutual
theorem aT.tups {H H':Hp}(s:bV H H'):∀{d:D} {v:V},Fl d->aT H d v->aT H' d v
 | .str x,v,_,h=>h
 | .tup (.str n::ds),v,f,⟨a,vs,e,g,x,r,i,b,c⟩=>⟨a,vs,e,s _ _ g,x,r,i,b,Reps.tups s (by unfold Fl at f;exact f) c⟩
 | .non,_,f,_ | .bl _,_,f,_ | .int _,_,f,_ | .lst _,_,f,_ | .tup [],_,f,_ | .tup (.non::_),_,f,_ | .tup (.bl _::_),_,f,_ | .tup (.int _::_),_,f,_ | .tup (.tup _::_),_,f,_ | .tup (.lst _::_),_,f,_=>by unfold Fl at f;exact absurd f id
theorem Reps.tups {H H':Hp}(s:bV H H'):∀{ds:List D} {vs:List V},Fls ds->Reps H ds vs->Reps H' ds vs
 | [],_,_,h=>h
 | _::_,_,⟨a,b⟩,⟨x,r,e,d,c⟩=>⟨x,r,e,aT.tups s a d,Reps.tups s b c⟩
end
theorem IB (i:Nat)(l:List D):szs (l.take i)<=szs l:=by have:=wU (l.take i) (l.drop i);rw[List.take_append_drop]at this;omega
theorem JP {n z:Str}:∀{l:List D},1<l.length->one n z l = .tup (.str n::l)
 | [],h=>by simp at h
 | [_],h=>by simp at h
 | _::_::_,_=>rfl
theorem Reps.rev {H:Hp}:∀{ds:List D} {vs:List V},Reps H ds vs->Reps H ds.reverse vs.reverse
 | [],_,e=>by cases e;rfl
 | d::ds,_,⟨x,r,e,a,b⟩=>by subst e;rw[List.reverse_cons,List.reverse_cons];exact Reps.snoc a (Reps.rev b)
noncomputable def mulO (a:cW)(n:Str):Option Int:=(a.find? λr=>decide (r.1=n)).map (·.2)
noncomputable def mulV (a:cW)(n:Str):V:=((mulO a n).map V.int).getD .non
noncomputable def nulV (sm:bE)(n:Str):V:=((zr sm n).map V.str).getD .non
theorem HQ (n:Str):∀a:cW,valV (a.map λr=>((.inr r.1,V.int r.2):dQ×V)) (.inr n)=(mulO a n).map V.int
 | []=>rfl
 | r::l=>by
  by_cases e:r.1=n
  ·rw[ba,nS (by rw[e])];simp[mulO,e]
  ·rw[ba,nU (λz=>e (by cases z;rfl)),HQ n l];simp[mulO,e]
structure fN (K:PySem.W.Frag)(C:Addr)(fx:cW)(sm:bE)(H:Hp)(g:Addr):Prop where
 cls:HG K C
 n1:iF K C "many_by_name"
 n2:iF K C "nought_by_name"
 ex:∃dx fs dm dn,H g=some (.ins C dx fs)/\fs.lookup ("many" : Str)=none/\fs.lookup ("nought" : Str)=none/\fs.lookup ("many_by_name" : Str)=some (.ref dm)/\fs.lookup ("nought_by_name" : Str)=some (.ref dn) /\
  H dm=some (.dK (fx.map λr=>(.inr r.1,.int r.2)))/\H dn=some (.dK (sm.map λr=>(.inr r.1,.str r.2)))
theorem fN.same {C:Addr}{d:cW}{sm:bE}{H H':Hp}{g:Addr}(h:fN K C d sm H g)(s:aD H H'):fN K C d sm H' g:=by obtain⟨a,b,c,q,fs,r,dn,o,m,l,j,i,f,e⟩:=h;exact⟨a,b,c,q,fs,r,dn,s _ _ o,m,l,j,i,s _ _ f,s _ _ e⟩
def BZ (K:PySem.W.Frag)(C:Addr):Sp:=λvs H Q _=>∃(g:Addr) (n:Str) (fx:cW) (sm:bE),vs=[.ref g,.str n]/\fN K C fx sm H g/\Q (mulV fx n) H
theorem MY {f C:Addr}{m:FuncData}(F:fY K "many" "Signs.many" eB f m)(T:Txt mg):bN P w K mg base bH 1 f m kQ (BZ K C):=by
 refine F.ok uN (λvs H Q E h=>?_) (λI A outer s H vs Q E l h=>?_)
 ·obtain⟨g,n,z,sm,rfl,_⟩:=h;rfl
 ·obtain⟨g,n,z,sm,rfl,⟨i,e,J,B,fs,G,dn,d,x,u,c,r,a,o⟩,q⟩:=h;have j:=l.units;refine⟨_,(aG (aM (e8 (aO K rfl (aL aK rfl T.n_isinstance rfl (aA (pv 1) (aA (bG (v:=V.ty "str") rfl T.n_str rfl rfl) aB))) (λ_=>rfl)) (zP (aj (bx (by decide) _) j) (JC (pv 0) rfl) (pv 1) ⟨rfl,rfl,rfl,rfl⟩) dE))),?_⟩
  try dsimp only[cxOf,Cx.nox]
  simp only[kW];clear l F T j;have b:=kX.k (k:=.inr n) a;rw[HQ]at b;have keep:=aI q (aI i (aI e (aI d (aI c (aI a b)))));clear q i e J d x u c r a o b
  walk_at "rd"
  obtain⟨q,i,e,d,c,a,b⟩:=keep;refine⟨true,rfl,?_⟩;rw[ai rfl];exact⟨_,rfl,g,C,B,fs,_,rfl,d,i,e,c,G,rfl,.inl ⟨_,.inl a⟩,_,rfl,_,b,q⟩
def iR (K:PySem.W.Frag)(C:Addr):Sp:=λvs H Q _=>∃(g:Addr) (n:Str) (fx:cW) (sm:bE),vs=[.ref g,.str n]/\fN K C fx sm H g/\Q (nulV sm n) H
theorem GK {f C:Addr}{m:FuncData}(F:fY K "nought" "Signs.nought" dA f m)(T:Txt mg):bN P w K mg base bH 1 f m i0 (iR K C):=by
 refine F.ok rF (λvs H Q E h=>?_) (λG A outer s H vs Q E l h=>?_)
 ·obtain⟨g,n,z,sm,rfl,_⟩:=h;rfl
 ·obtain⟨g,n,z,sm,rfl,⟨i,I,e,B,fs,J,dn,d,x,u,r,c,o,a⟩,q⟩:=h;have j:=l.units;refine⟨_,(aG (aM (e8 (aO K rfl (aL aK rfl T.n_isinstance rfl (aA (pv 1) (aA (bG (v:=V.ty "str") rfl T.n_str rfl rfl) aB))) (λ_=>rfl)) (zP (aj (bx (by decide) _) j) (JC (pv 0) rfl) (pv 1) ⟨rfl,rfl,rfl,rfl⟩) dE))),?_⟩
  try dsimp only[cxOf,Cx.nox]
  simp only[i5];clear l F T j;have b:=kX.k (k:=.inr n) a;rw[wQ]at b;have keep:=aI q (aI i (aI e (aI d (aI c (aI a b)))));clear q i I e d x u r c o a b
  walk_at "rd"
  obtain⟨q,i,e,d,c,a,b⟩:=keep;refine⟨true,rfl,?_⟩;rw[ai rfl];exact⟨_,rfl,g,C,B,fs,_,rfl,d,i,e,c,dn,rfl,.inl ⟨_,.inl a⟩,_,rfl,_,b,q⟩
theorem RE {c:Nat}(h:isWd c):inTx "abcdefghijklmnopqrstuvwxyz0123456789" c=true:=by
 have a:∀j:Fin 26,inTx "abcdefghijklmnopqrstuvwxyz0123456789" (97+j.1)=true:=by decide +kernel
 have b:∀j:Fin 10,inTx "abcdefghijklmnopqrstuvwxyz0123456789" (48+j.1)=true:=by decide +kernel
 unfold isWd at h;rcases h with h|h
 ·have:=a ⟨c - 97,by omega⟩;rw[show 97+(c - 97)=c by omega]at this;exact this
 ·have:=b ⟨c - 48,by omega⟩;rw[show 48+(c - 48)=c by omega]at this;exact this
theorem AG {H:Hp}{z:Str}(h:z.length<=sizeLine):lenV H (.str z)=some z.length:=ai h
theorem yB {H:Hp}{z:Str}{i:Int}(h:z.length<=sizeLine):ixV H (.str z) (.int i)=(atI z.cps.toList i).map λc=>.str ⟨#[c]⟩:=ai h
def ID:Sp:=λvs H Q _=>∃x:Str,vs=[.str x]/\(eC x∨kR x)/\∀H',aD H H'->(eC x->Q (.bl true) H')/\(kR x->Q (.bl false) H')
theorem MT {f:Addr}{O:FuncData}(F:fY K "is_wish" "is_wish" j4 f O)(T:Txt mg):bN P w K mg base bH 1 f O wH ID:=by
 refine F.ok B3 (λvs H Q E h=>?_) (λcdv A outer s H vs Q E J h=>?_)
 ·obtain⟨x,rfl,_⟩:=h;rfl
 ·obtain⟨x,rfl,d,q⟩:=h;have I:=J.units
  refine⟨_,(aC (bD (PW.pt (gR (cM (aO K rfl (aL aK rfl T.n_isinstance rfl (aA (pv 0) (aA (bG (v:=V.ty "str") rfl T.n_str rfl rfl) aB))) (λ_=>rfl))) (eQ (cM (iT k6 k6 aF (aL bZ rfl T.n_len rfl (aA (pv 0) aB)) (eS T.c_LONGEST_WISH rfl)))))) (aG (aM qE)) aP)
   (aG (aM (xK (gH (gJ I) (aS bB (pv 0) aF (λ_ _=>rfl)) cI (nomark _)) (pM (aL (mQ rfl) rfl T.n_all rfl (aA (gG rfl (bW.by (N:=pZ) (names:=(aJ j4).names) (N':=["sign"]) (src:=[none]) (by decide +kernel) rfl rfl) (I9 (dC O8 (pv 0) (bT aF) cF)) (λ_ _ _ _=>(aZ (i:=0) (show List.Nodup (["sign"]:aV)by decide +kernel) rfl (Or.inl rfl))) (λ_ _ _ _=>dN) (λ_ _ _ _=>(gH pQ (pv 0) (eS T.c_WISH_SIGNS rfl) (by with_unfolding_all rfl)))) aB))))))),?_⟩
  try dsimp only[cxOf,Cx.nox]
  simp only[pZ];clear J F T I;have keep:=aI q d;clear q d
  walk_at "rd"
  obtain⟨q,d⟩:=keep;have X:x.length<=20:=by
   rcases d with⟨l,rfl,_,u,_⟩|h
   ·show(63::l).toArray.size<=20;rw[ag,ao];omega
   ·have:=h.2.1;rw[bn]at this;exact al this (by decide)
  have hz:x.length<=sizeLine:=al X (by decide);refine⟨true,rfl,?_⟩;rw[ab (by decide)];refine⟨.int x.length,by rw[AG hz];rfl,_,rfl,?_⟩;rcases d with G|j
  ·obtain⟨l,rfl,h1,u,L⟩:=id G;have B:(Str.mk (63::l).toArray).length=l.length+1:=by show(63::l).toArray.size=_;rw[ag,ao]
   have g:=λH' z=>(q H' z).1 G;have S:ixV H (.str ⟨(63::l).toArray⟩) (.int 0)=some (.str ⟨#[63]⟩):=by rw[yB hz];show(atI (63::l).toArray.toList 0).map _=_;rw[List.toList_toArray,atI_zero];rfl
   rw[ai (by rw[B];omega)];refine⟨_,rfl,?_⟩;rw[ab (by rw[B];omega)];refine⟨_,S,?_⟩;rw[rEqD_ss]

   refine⟨_,rfl,?_⟩;have C:decide ((⟨#[63]⟩:Str)=Str.ofString "?")=true:=by decide +kernel
   rw[ai C];have R:tl1 ⟨(63::l).toArray⟩=⟨l.toArray⟩:=by unfold tl1;simp
   refine⟨_,rfl,1,rfl,⟨(63::l).toArray⟩,rfl,rfl,rfl,by rw[B];omega,hz,tl1 ⟨(63::l).toArray⟩,rfl,?_,?_⟩
   ·rw[R];simp only[List.all_toArray,List.all_eq_true,decide_eq_true_eq];intro c a;have:=L c a;unfold isWd at this;omega
   ·rw[R];refine vY (λi b σ H'=>H'=H/\b=(List.replicate i true).map V.bl/\i<=8/\∃o:Option V,σ=[o]) ⟨rfl,rfl,by decide,none,rfl⟩ ?_ ?_
    ·rintro i c b σ H' a ⟨rfl,rfl,Y,o,rfl⟩;have hc':l[i]?=some c:=by simpa using a
     have W:c∈l:=bg hc';have hi':i<l.length:=(ck.mp hc').1;refine⟨_,rfl,_,rfl,_,rfl,?_⟩;have e:=RE (L c W);unfold inTx at e;dsimp only;refine⟨aj (m:=100) (by simp;omega) (by decide),rfl,?_,by omega,_,rfl⟩;rw[e,List.replicate_succ',ax];rfl
    ·rintro b σ H' ⟨rfl,rfl,Y,o,rfl⟩ p U;refine⟨p,rfl,List.replicate _ true,upd_same,?_⟩;have:(List.replicate (Str.mk l.toArray).cps.size true).all id=true:=by simp
     rw[this];exact g _ (aD.upd U)
  ·have g:=λH' z=>(q H' z).2 j;by_cases u:(2:Int)<=x.length
   ·rw[ai u];refine⟨_,rfl,?_⟩;have:=j.2.1;rw[bn]at this;have e9:(x.length:Int)<=9:=by show(x.cps.size:Int)<=9;omega
    rw[ab (by omega)];cases a:x.cps.toList with
    | nil=>have:=j.1;rw[a]at this;simp at this
    | cons c r =>
     have Z:=j.2.2 c (by rw[a];exact av);refine⟨.str ⟨#[c]⟩,by rw[yB hz,a,atI_zero];rfl,?_⟩;rw[rEqD_ss];refine⟨_,rfl,?_⟩;rw[ab]
     ·exact g _ (aD.refl _)
     ·intro w;have:=bo w;have e:(⟨#[c]⟩:Str).cps=(Str.ofString "?").cps:=by rw[this]
      have e2:(Str.ofString "?").cps = #[63]:=by decide +kernel
      rw[e2]at e;have:c=63:=by simpa using e
      omega
   ·rw[ab u];exact g _ (aD.refl _)
theorem zY {a:cW}{sm:bE}(so:bX a sm){n:Str}{k:Int}(h:(n,k)∈a):mulO a n=some k:=by
 have nd:=(List.nodup_append.mp so.nd).1;unfold mulO;clear so
 induction a with
 | nil=>cases h
 | cons r l b =>
  rw[ba,cw]at nd;obtain rfl|h:=cp.mp h
  ·simp
  ·have ne:r.1≠n:=λe=>nd.1 (by rw[e];exact List.mem_map_of_mem (f:=(·.1)) h);rw[List.find?_cons,bh ne];exact b h nd.2
theorem LU {sm:bE}{n:Str}(h:n∉sm.map (·.1)):zr sm n=none:=by
 unfold zr;rw[List.find?_eq_none.mpr]
 ·rfl
 ·intro r a e;exact h (cs.mpr ⟨r,a,bo e⟩)
theorem DS {sm:bE}{n:Str}(h:n∈sm.map (·.1)):∃z,zr sm n=some z:=by
 obtain⟨r,a,e⟩:=cs.mp h;cases q:sm.find? (λr=>decide (r.1=n))with
 | none=>exact absurd (bf e) (List.find?_eq_none.mp q r a)
 | some z=>exact⟨z.2,by unfold zr;rw[q];rfl⟩
def DZ (K:PySem.W.Frag)(C:Addr):Sp:=λvs H Q _=>∃(g:Addr) (fx:cW) (sm:bE) (os:aV) (d:D) (v:V),vs=[.ref g,v]/\fN K C fx sm H g/\bX fx sm/\(∀x∈os,eC x)/\aT H d v/\bA fx sm os d/\lvs d<=100/\∀H',aD H H'->Q (.bl true) H'
theorem J5 {f C:Addr}{fd:FuncData}(F:fY K "is_built" "is_built" kF f fd)(T:Txt mg)(b:d8 P w K mg base bH 1 "is_wish" ID)(i:yV P w K mg base bH 1 C "many" (BZ K C))(c:yV P w K mg base bH 1 C "nought" (iR K C)):bN P w K mg base bH 2 f fd tY (DZ K C):=by
 refine F.ok zH (λvs H Q E h=>?_) (λcdv A outer s H vs Q E o h=>?_)
 ·obtain⟨g,B,sm,os,d,v,rfl,_⟩:=h;rfl
 ·obtain⟨g,B,sm,os,d,v,rfl,sg,so,ho,rep,tm,m,q⟩:=h;have X:=o.units
  refine⟨_,(aC (bD (aO K rfl (aL aK rfl T.n_isinstance rfl (aA (pv 1) (aA (bG (v:=V.ty "str") rfl T.n_str rfl rfl) aB))) (λ_=>rfl)) (aG (aM (RG (aN b (o.mono (by decide)) pass0 rfl (aA (pv 1) aB)) (pM (gH (gJ X) (m9 i (o.mono (by decide)) pass0 (pv 0) (aA (pv 1) aB)) aF (nomark _)))))) aP)
   (aC (bD (PW.pt (gR (cM (aO K rfl (aL aK rfl T.n_isinstance rfl (aA (pv 1) (aA (bK (aA (bG (v:=V.ty "list") rfl T.n_list rfl rfl) (aA (bG (v:=V.ty "tuple") rfl T.n_tuple rfl rfl) aB))) aB))) (λ_=>rfl))) (eQ (aY (lL X) (aL bZ rfl T.n_len rfl (aA (pv 1) aB)) aF (nomark _))))) (aG (aM qE)) aP)
   (aC (bD (aY EC (m9 c (o.mono (by decide)) pass0 (pv 0) (aA (aS bB (pv 1) aF (λ_ _=>rfl)) aB)) dE (nomark _)) (aG (aM (gH OE (aL bZ rfl T.n_len rfl (aA (pv 1) aB)) aF (nomark _)))) aP)
   (aG (aM (gH (gJ X) (m9 i (o.mono (by decide)) pass0 (pv 0) (aA (aS bB (pv 1) aF (λ_ _=>rfl)) aB)) (bF iW (aL bZ rfl T.n_len rfl (aA (pv 1) aB)) aF) (nomark _))))))),?_⟩
  try dsimp only[cxOf,Cx.nox]
  simp only[nN];clear o F T X b i c;have keep:=aI q (aI sg (aI so (aI ho (aI rep (aI tm m)))));clear q sg so ho rep tm m
  walk_at "rd"
  obtain⟨q,sg,so,ho,rep,tm,m⟩:=keep;obtain⟨dx,fs,_,_,U,Z,h3,_⟩:=sg.ex;rcases HZ tm with⟨x,rfl,L⟩|⟨n,ds,hd,hh,tms⟩
  ·cases (show v = .str x from rep);refine⟨true,rfl,?_⟩;rw[ai rfl];rcases L with L|L
   ·have W:=ho x L;refine⟨x,rfl,.inl W,λH' N=>⟨λ_=>⟨true,rfl,?_⟩,λY=>?_⟩⟩
    ·rw[ai rfl];exact q _ N
    ·obtain⟨l,rfl,_⟩:=W;have:=Y.2.2 63 (by simp);omega
   ·obtain⟨r,o,e⟩:∃r∈B,r.1=x/\r.2=0:=by unfold zeros at L;obtain⟨r,U,rfl⟩:=cs.mp L;obtain⟨Z,h3⟩:=cx.mp U;exact⟨r,Z,rfl,by simpa using h3⟩
    have Y:kR x:=so.nm x (cb _ (cs.mpr ⟨r,o,e.1⟩));have hm:mulO B x=some 0:=zY so (by rw[←e.1,←e.2];exact o);refine⟨x,rfl,.inr Y,λH' N=>⟨λW=>?_,λ_=>⟨false,rfl,?_⟩⟩⟩
    ·obtain⟨l,rfl,_⟩:=W;have:=Y.2.2 63 (by simp);omega
    ·rw[ab (by decide)];refine⟨_,rfl,g,dx,fs,rfl,N _ _ U,Z,_,rfl,g,x,B,sm,rfl,sg.same N,?_⟩;show rEqD (mulV B x) _ _ _;unfold mulV;rw[hm];show rEqD (.int 0) _ _ _;rw[rEqD_ii];exact q _ N
  ·obtain⟨J,j,rfl,hbb,hseq,res⟩:∃J j,v = .ref J/\isV H (.ref J) (.ty "str")=some false/\cV H J (.str n::j)/\Reps H ds j:=by
    rcases hd with rfl|rfl
    ·obtain⟨a,vs,rfl,S,_,j,rfl,e1,r⟩:=rep;cases e1;exact⟨a,j,rfl,iX S,.inr S,r⟩
    ·obtain⟨a,vs,rfl,S,_,j,rfl,e1,r⟩:=rep;cases e1;exact⟨a,j,rfl,nG S,.inl S,r⟩
   have hlen:=Reps.len res;refine⟨false,hbb,?_⟩;rw[ab (by decide)];refine⟨by decide,λp hp=>?_⟩;have u:aD H (upd H p (.tup [.ty "list",.ty "tuple"])):=aD.upd hp;have I:upd H p (.tup [.ty "list",.ty "tuple"]) p=some (.tup [.ty "list",.ty "tuple"]):=upd_same;generalize upd H p (.tup [.ty "list",.ty "tuple"])=H1 at u I⊢;have G:=hseq.same u;have O:ixV H1 (.ref J) (.int 0)=some (.str n):=by
    rcases G with e|e
    ·rw[ixV_l e,atI_zero]
    ·rw[ixV_t e,atI_zero]
   have ln:lenV H1 (.ref J)=some (j.length+1):=by
    rcases G with e|e
    ·rw[lenV_l e];rfl
    ·rw[lenV_t e];rfl
   refine⟨true,by rcases G with e|e;exact C7 e I;exact C6 e I,?_⟩;rw[ab (by decide)];have R:=kP hh;refine⟨_,by rw[ln];rfl,_,rfl,?_⟩;rw[ab (by omega)];refine⟨_,rfl,g,dx,fs,rfl,u _ _ U,h3,_,rfl,.str n,O,g,n,B,sm,rfl,sg.same u,?_⟩;rcases hh with⟨k0,R⟩|⟨k2,R⟩
   ·have nin:n∉sm.map (·.1):=λz=>(List.nodup_append.mp so.nd).2.2 n (List.mem_map_of_mem (f:=(·.1)) R) n z rfl;have e0:nulV sm n = .non:=by unfold nulV;rw[LU nin];rfl
    have em:mulV B n = .int (ds.length:Int):=by unfold mulV;rw[zY so R];rfl
    rw[e0];refine⟨false,rfl,?_⟩;rw[ab (by decide)];refine⟨_,rfl,g,dx,fs,rfl,u _ _ U,Z,_,rfl,.str n,O,g,n,B,sm,rfl,sg.same u,?_⟩;refine⟨_,by rw[ln];rfl,_,rfl,?_⟩;rw[em,rEqD_ii,bf (by omega)];exact q _ u
   ·obtain⟨z,hz⟩:=DS R;have e0:nulV sm n = .str z:=by unfold nulV;rw[hz];rfl
    rw[e0];refine⟨true,rfl,?_⟩;rw[ai rfl];refine⟨_,by rw[ln];rfl,_,rfl,?_⟩;rw[bf (p:=_) (by omega)];exact q _ u
mutual
noncomputable def nds:D->Nat
 | .tup (_::ds)=>1+ndss ds
 | .lst (_::ds)=>1+ndss ds
 | _=>1
noncomputable def ndss:List D->Nat
 | []=>0
 | d::ds=>nds d+ndss ds
end
theorem rN (d:D):1<=nds d:=by unfold nds;split <;> omega
theorem fB:∀ds:List D,ds.length<=ndss ds
 | []=>ac _
 | d::ds=>by rw[ndss,ao];have:=rN d;have:=fB ds;omega
theorem eU:∀ds es:List D,ndss (ds++es)=ndss ds+ndss es
 | [],es=>by simp[ndss]
 | d::ds,es=>by rw[List.cons_append,ndss,eU ds es,ndss];omega
theorem sS:∀ds:List D,ndss ds.reverse=ndss ds
 | []=>rfl
 | d::ds=>by rw[List.reverse_cons,eU,sS ds,ndss,ndss,ndss];omega
theorem BS {c:TT}{tb:TS}{D:iM}{σ:St}{H:Hp}(Pv:Nat->St->Hp->Prop)(n:Nat)(e:Pv n σ H)
  (d:∀n σ H,Pv n σ H->∀R:Bool->Hp->Prop,(∀H',tb {D with nx:=λb a=>∃m,m<n/\Pv m b a,ct:=λb a=>∃m,m<n/\Pv m b a,bk:=D.nx} σ H'->R true H')->(∀H',D.nx σ H'->R false H')->c σ H R):BX c tb D σ H:=by
 refine⟨Pv,⟨n,e⟩,?_⟩;intro m σ H p;refine d m σ H p _ (λH' h=>?_) (λH' h=>?_)
 ·rw[ai rfl];exact⟨_,λb a z=>z,h⟩
 ·rw[ab (by decide)];exact h
theorem yL {H:Hp}{p:Addr}{o:HO}:del (upd H p o) p=del H p:=by
 funext b;unfold del upd;by_cases e:b=p
 ·rw[ai e,ai e]
 ·rw[ab e,ab e,ab e]
theorem E6 {H:Hp}{t p:Addr}{o:HO}(h:H p=none):aD (del H t) (del (upd H p o) t):=λb u e=>by obtain⟨a,c⟩:=hX e;exact lR (by rw[aE (aH a h)];exact a) c
theorem mO {H H':Hp}{t:Addr}(s:aD H H'):aD (del H t) (del H' t):=λb u e=>by obtain⟨c,a⟩:=hX e;exact lR (s _ _ c) a
theorem iB {H:Hp}{d:D}:∀{ds:List D} {vs:List V},Reps H (ds++[d]) vs->∃us v,vs=us++[v]/\Reps H ds us/\aT H d v
 | [],vs,⟨v,r,e,h,h'⟩=>by
  cases (show r=[]from h');exact⟨[],v,e,rfl,h⟩
 | c::ds,vs,⟨v,r,e,h,h'⟩=>by obtain⟨us,u,f,b,a⟩:=iB (ds:=ds) h';exact⟨v::us,u,by rw[e,f];rfl,⟨v,us,rfl,h,b⟩,a⟩
noncomputable def tp (r:D×Nat):D:=.tup [r.1,.int r.2]
def UC (g t:Addr)(v:V)(b:cW)(sm:bE)(os:aV)(H:Hp)(n:Nat)(σ:St)(a:Hp):Prop:=∃(ps:List (D×Nat)) (vs:List V) (o3 o4:Option V),σ=[some (.ref g),some v,some (.ref t),o3,o4]/\a t=some (.lst vs)/\aD H (del a t) /\
 Reps (del a t) (ps.map tp) vs/\(∀r∈ps,bA b sm os r.1/\lvs r.1<=100/\r.2+depD r.1<=100)/\ndss (ps.map (·.1))=n/\n<=1000
def UD (t:Addr)(ds:List D)(k:Nat)(e:Hp)(i:Nat)(a:List V)(σ:St)(b:Hp):Prop:=∃c:Option V,σ=[c,some (.int k)]/\aD e b/\Reps (del b t) ((ds.reverse.take i).map λd=>tp (d,k+1)) a
theorem QL {H:Hp}{t:Addr}(h:H t=none){a:Hp}(s:aD H a):aD H (del a t):=λb u e=>lR (s _ _ e) (aH e h)
theorem E5 {H a:Hp}{t:Addr}(s:aD H (del a t)):aD H a:=λb u e=>(hX (s _ _ e)).1
def w8 (K:PySem.W.Frag)(C:Addr):Sp:=λvs H Q _=>∃(g:Addr) (fx:cW) (sm:bE) (os:aV) (d:D) (v:V),vs=[.ref g,v]/\fN K C fx sm H g/\bX fx sm/\(∀x∈os,eC x)/\aT H d v/\bA fx sm os d/\lvs d<=100/\depD d<=100/\nds d<=1000/\∀H',aD H H'->Q .non H'
theorem J4 {f C:Addr}{fd:FuncData}(F:fY K "check_term" "check_term" gB f fd)(T:Txt mg)(c:d8 P w K mg base bH 2 "is_built" (DZ K C)):bN P w K mg base bH 3 f fd pA (w8 K C):=by
 refine F.ok gY (λvs H Q E h=>?_) (λcdv A outer s H vs Q E hr h=>?_)
 ·obtain⟨g,fx,sm,os,d,v,rfl,_⟩:=h;rfl
 ·obtain⟨g,fx,sm,os,d,v,rfl,sg,so,ho,rep,tm,l100,d100,n1000,q⟩:=h;have hu:=hr.units
  refine⟨_,(aC (aW (i:=2) gY.nd rfl (Or.inl rfl) (cQ (aA (bK (aA (pv 1) (aA aF aB))) aB)))
   (aG (sJ dc (aO K rfl (pv 2) (λ_=>rfl)) (aC (jN (CF c4 PySem.F.slot_list_pop PySem.F.type_list_pop xU (pv 2)) (CA rfl (dX (aZ (i:=3) gY.nd rfl (Or.inl rfl)) (dX (aZ (i:=4) gY.nd rfl (Or.inr rfl)) oK))))
   (aC (bD (PW.pt (gR (aY OD (pv 4) (eS T.c_DEEPEST rfl) (nomark _)) (eQ (cM (aO K rfl (aN c (hr.mono (by decide)) pass0 rfl (aA (pv 0) (aA (pv 3) aB))) (λ_=>rfl)))))) (aG dB) aP)
   (aG (bD (cM (aO K rfl (aL aK rfl T.n_isinstance rfl (aA (pv 3) (aA (bG (v:=V.ty "str") rfl T.n_str rfl rfl) aB))) (λ_=>rfl))) (aG (cS (iU c4 PySem.F.slot_list_extend PySem.F.type_list_extend rP (pv 2) (aA (gG rfl (bW.by (N:=kT) (names:=(aJ gB).names) (N':=["part","depth"]) (src:=[none,some 4]) (by decide +kernel) rfl rfl) (cP K rfl (fS D2 (pv 3) cF (bT aF) (bT (fQ dS aF)))) (λ_ _ _ _=>(aZ (i:=0) (show List.Nodup (["part","depth"]:aV)by decide +kernel) rfl (Or.inl rfl))) (λ_ _ _ _=>dN) (λ_ _ _ _=>(bK (aA (pv 0) (aA (bF bM (pv 1) aF) aB))))) aB)))) aP))))))),?_⟩
  try dsimp only[cxOf,Cx.nox]
  clear hr F T hu c;simp only[dU];refine⟨_,rfl,show 2<=sizeLine by decide,λp hp=>⟨show 1<=sizeLine by decide,λt ht=>?_⟩⟩;have s1:aD H (upd H p (.tup [v,.int 0])):=aD.upd hp;have I:upd H p (.tup [v,.int 0]) p=some (.tup [v,.int 0]):=upd_same;generalize upd H p (.tup [v,.int 0])=H1 at s1 I ht⊢;have ht0:H t=none:=s1.free ht;have e1:del (upd H1 t (.lst [.ref p])) t=del H1 t:=yL;have sd:aD H (del H1 t):=QL ht0 s1;change BX _ _ _ _ (upd H1 t (.lst [.ref p]));refine BS (UC g t v fx sm os H) (nds d) ⟨[(d,0)],[.ref p],none,none,rfl,upd_same,by rw[e1];exact sd,?_,?_,by simp[ndss],n1000⟩ ?_
  ·rw[e1];exact⟨.ref p,[],rfl,⟨p,_,rfl,lR I (aH I ht),v,_,rfl,aT.same sd rep,.int 0,[],rfl,rfl,rfl⟩,rfl⟩
  ·intro r hr;rw[cm.mp hr];exact⟨tm,l100,by simpa using d100⟩
  ·rintro n σ H2 ⟨ps,vs,o3,o4,rfl,h2,sH,reps,ok,rfl,O⟩ R hT hF;rcases List.eq_nil_or_concat ps with rfl|⟨U,r,rfl⟩
   ·have:vs=[]:=reps;subst this;exact⟨_,rfl,false,.inl ⟨[],eK.of h2,rfl⟩,hF H2 (q _ (E5 sH))⟩
   ·rw[List.concat_eq_append]at reps ok O hT;rw[ax,ba,List.map_nil]at reps O hT;obtain⟨us,u,rfl,reps',ru⟩:=iB reps;obtain⟨a,_,rfl,ha,x,_,rfl,rx,_,_,rfl,e2,e3⟩:=ru;cases e2;cases (show _=[]from e3);obtain⟨tmr,lr,dr⟩:=ok r (by simp);have hat:H2 a=some (.tup [x,.int r.2])/\a≠t:=hX ha;refine⟨_,rfl,true,.inl ⟨_,eK.of h2,by simp⟩,hT H2 ⟨_,rfl,tyL h2,t,_,.ref a,rfl,rfl,h2,by simp,a,[x,.int r.2],rfl,hZ.of (by rw[aE hat.2];exact hat.1),rfl,x,_,rfl,_,_,rfl,rfl,_,rfl,_,_,rfl,rfl,_,rfl,cN (λz=>absurd (bo z) (by omega)) λ_=>?_⟩⟩;clear hT hF;rw[List.dropLast_concat];have reps:=reps';have e3:del (upd H2 t (.lst us)) t=del H2 t:=yL;have h3:upd H2 t (.lst us) t=some (.lst us):=upd_same;rw[←e3]at sH reps rx;generalize upd H2 t (.lst us)=H3 at e3 h3 sH reps rx⊢;have nl:us.length<=1000:=by have:=Reps.len reps;rw[ae]at this;have h1:=fB (U.map (·.1));rw[ae]at h1;rw[eU]at O;omega
    refine⟨_,rfl,_,rfl,g,fx,sm,os,r.1,x,rfl,sg.same (E5 sH),so,ho,aT.same (K6 _ _) rx,tmr,lr,λX s4=>⟨true,rfl,?_⟩⟩;have h4:=s4 _ _ h3;have Z:=mO (t:=t) s4;have sH4:=sH.trans Z;have S:=Reps.same Z reps;have L:=aT.same Z rx;have rest:∀Y∈U,bA fx sm os Y.1/\lvs Y.1<=100/\Y.2+depD Y.1<=100:=λY hr'=>ok Y (cb _ hr');rw[eU]at O⊢;rcases HZ tmr with⟨y,ey,hy⟩|⟨n,ds,hd,hh,tms⟩
    ·rw[ey]at L;cases (show x = .str y from L);refine⟨_,rfl,.str y,.ty "str",true,rfl,rfl,true,rfl,?_⟩;exact⟨_,by rw[ndss,ndss];have:=rN r.1;omega,U,us,_,_,rfl,h4,sH4,S,rest,rfl,by omega⟩
    ·obtain⟨va,G,rfl,hbb,hseq,res⟩:∃va G,x = .ref va/\isV X (.ref va) (.ty "str")=some false/\cV X va (.str n::G)/\Reps (del X t) ds G:=by
      rcases hd with e|e
      ·rw[e]at L;obtain⟨a,vs,rfl,ha,_,G,rfl,e1,r⟩:=L;cases e1;exact⟨a,G,rfl,iX (hX ha).1,.inr (hX ha).1,r⟩
      ·rw[e]at L;obtain⟨a,vs,rfl,ha,_,G,rfl,e1,r⟩:=L;cases e1;exact⟨a,G,rfl,nG (hX ha).1,.inl (hX ha).1,r⟩
     have hnd:nds r.1=1+ndss ds:=by rcases hd with e|e <;> rw[e,nds]
     have hdp:depD r.1=depDs ds+1:=by
      rcases hd with e|e
      ·rw[e,depD,depDs,show depD (.str n)=0 from rfl];omega
      ·rw[e,depD,depDs,show depD (.str n)=0 from rfl];omega
     have hlv:lvs r.1=lvss ds:=by rcases hd with e|e <;> rw[e,lvs]
     refine⟨_,rfl,.ref va,.ty "str",false,rfl,hbb,false,rfl,?_⟩;refine⟨_,rfl,tyL h4,_,rfl,0,rfl,1,rfl,-1,rfl,rfl,rfl,rfl,va,_,rfl,hseq,by simp,λb o hb ho=>?_⟩;rw[vC]at ho;refine⟨b,G.reverse,rfl,by rcases ho with⟨rfl,_⟩|⟨rfl,_⟩;exact .inl upd_same;exact .inr upd_same,λJ hJ=>?_⟩;have s5:aD X (upd X b o):=aD.upd hb;have hb5:upd X b o b=some o:=upd_same;have nbt:b≠t:=(aH h4 hb).symm;generalize upd X b o=H5 at s5 hb5 hJ⊢;refine dF hJ (UD t ds r.2 H5) ⟨none,rfl,aD.refl _,rfl⟩ ?_ ?_ ?_
     ·rintro i B σ H' _ ⟨_,_,W,_⟩;rw[hb5,W _ _ hb5]
     ·rintro i y B σ H6 hy ⟨o0,rfl,W,j⟩;obtain⟨e,he,re⟩:=Reps.get (Reps.rev res) hy;have la:=Reps.len j;have h1:=fB ds;refine⟨_,rfl,_,rfl,.inl ⟨_,rfl,(by decide:2<=sizeLine),λp1 I=>⟨aj (m:=1000) ?_ (by decide),_,rfl,W.trans (aD.upd I),?_⟩⟩⟩
      ·rw[ae,bq,List.length_reverse]at la;rw[ndss,ndss]at O;omega
      ·have np:p1≠t:=(aH (W _ _ (s5 _ _ h4)) I).symm;have sm5:aD (del X t) (del (upd H6 p1 (.tup [y,.int (r.2+1)])) t):=mO ((s5.trans W).trans (aD.upd I));rw[bC he,ax];have rp:aT (del (upd H6 p1 (.tup [y,.int (r.2+1)])) t) (tp (e,r.2+1)) (.ref p1):=⟨p1,_,rfl,lR upd_same np,y,_,rfl,aT.same sm5 re,_,[],rfl,rfl,rfl⟩
       exact Reps.snoc rp (Reps.same (E6 I) j)
     ·rintro B σ H6 ⟨o0,rfl,W,j⟩ l hl;have la:=Reps.len j;have lr':=Reps.len res;have h1:=fB ds;have h6:upd H6 l (.lst B) t=some (.lst us):=by rw[aE (aH (W _ _ (s5 _ _ h4)) hl)];exact W _ _ (s5 _ _ h4)
      rw[List.length_reverse,lr',←List.length_reverse (as:=ds),br]at j;rw[ae,bq,List.length_reverse]at la;rw[ndss,ndss]at O;have s7:aD X (upd H6 l (.lst B)):=(s5.trans W).trans (aD.upd hl);have e7:del (upd (upd H6 l (.lst B)) t (.lst (us++B))) t=del (upd H6 l (.lst B)) t:=yL;refine⟨t,l,us,B,rfl,rfl,h6,.inl upd_same,al (m:=2000) (by omega) (by decide),ndss (U.map (·.1))+ndss ds,by rw[ndss,ndss];omega,U++ds.reverse.map (λd=>(d,r.2+1)),us++B,_,_,rfl,upd_same,?_,?_,?_,?_,by omega⟩
      ·rw[e7];exact sH4.trans (mO s7)
      ·rw[e7,ax,List.map_map];exact Reps.append (Reps.same (mO s7) S) (Reps.same (E6 hl) j)
      ·intro Y hr';rcases cr.mp hr' with h|h
       ·exact rest Y h
       ·obtain⟨e,he,rfl⟩:=cs.mp h;have he:=List.mem_reverse.mp he;obtain⟨i,hi⟩:=List.getElem?_of_mem he;have h2:=xW hi;have h3:=iZ hi;exact⟨tms.get hi,by show lvs e<=100;omega,by show r.2+1+depD e<=100;omega⟩
      ·rw[ax,List.map_map,eU];congr 1;rw[show((λx:D×Nat=>x.1) ∘ λd=>(d,r.2+1))=id from rfl,List.map_id,sS]
mutual
def Wk:D->Prop
 | .str _=>True
 | .tup (.str _::ds)=>Wks ds
 | .lst (.str _::ds)=>Wks ds
 | _=>False
def Wks:List D->Prop
 | []=>True
 | d::ds=>Wk d/\Wks ds
end
mutual
noncomputable def wlk:D->List D
 | .tup (.str n::ds)=>.tup (.str n::ds)::wlks ds
 | .lst (.str n::ds)=>.lst (.str n::ds)::wlks ds
 | d=>[d]
noncomputable def wlks:List D->List D
 | []=>[]
 | d::ds=>wlk d++wlks ds
end
theorem uX:∀ds:List D,wlks ds=ds.flatMap wlk
 | []=>rfl
 | d::ds=>by rw[wlks,uX ds];rfl
theorem HL {d:D}(h:Wk d):(∃x,d = .str x)∨∃n ds,(d = .tup (.str n::ds)∨d = .lst (.str n::ds))/\Wks ds:=by
 unfold Wk at h;split at h
 ·exact .inl ⟨_,rfl⟩
 ·exact .inr ⟨_,_,.inl rfl,h⟩
 ·exact .inr ⟨_,_,.inr rfl,h⟩
 ·exact absurd h id
mutual
theorem OH:∀{d:D},Fl d->Wk d
 | .str x,h=>trivial
 | .tup (.str n::ds),h=>by unfold Wk;unfold Fl at h;exact E3 h
 | .non,h | .bl _,h | .int _,h | .lst _,h | .tup [],h | .tup (.non::_),h | .tup (.bl _::_),h | .tup (.int _::_),h | .tup (.tup _::_),h | .tup (.lst _::_),h=>by unfold Fl at h;exact absurd h id
theorem E3:∀{ds:List D},Fls ds->Wks ds
 | [],_=>trivial
 | _::_,⟨a,b⟩=>⟨OH a,E3 b⟩
end
theorem Wks.app:∀{ds es:List D},Wks ds->Wks es->Wks (ds++es)
 | [],_,_,h=>h
 | _::_,_,⟨a,b⟩,h=>⟨a,Wks.app b h⟩
theorem Wks.rev:∀{ds:List D},Wks ds->Wks ds.reverse
 | [],h=>h
 | d::ds,⟨a,b⟩=>by rw[List.reverse_cons];exact Wks.app (Wks.rev b) ⟨a,trivial⟩
theorem Wks.unsnoc:∀{ds:List D} {d:D},Wks (ds++[d])->Wks ds/\Wk d
 | [],_,h=>⟨trivial,h.1⟩
 | _::_,_,⟨a,b⟩=>⟨⟨a,(Wks.unsnoc b).1⟩,(Wks.unsnoc b).2⟩
mutual
theorem nR:∀d:D,(wlk d).length<=nds d
 | .tup (.str n::ds)=>by rw[wlk,nds,ao];have:=rX ds;omega
 | .lst (.str n::ds)=>by rw[wlk,nds,ao];have:=rX ds;omega
 | .non | .bl _ | .int _ | .str _ | .tup [] | .lst [] | .tup (.non::_) | .tup (.bl _::_) | .tup (.int _::_) | .tup (.tup _::_) | .tup (.lst _::_) | .lst (.non::_) | .lst (.bl _::_) | .lst (.int _::_) | .lst (.tup _::_) | .lst (.lst _::_)=>by unfold wlk;rw[cg];exact rN _
theorem rX:∀ds:List D,(wlks ds).length<=ndss ds
 | []=>ac _
 | d::ds=>by rw[wlks,ndss,aq];have:=nR d;have:=rX ds;omega
end
def nX:Sp:=λvs H Q _=>∃(d:D) (v:V) (G:Hp),vs=[v]/\aD G H/\aT G d v/\Wk d/\nds d<=1000/\∀(l:Addr) (ws:List V) (H':Hp),aD H H'->H l=none->H' l=some (.lst ws)->Reps G (wlk d) ws->Q (.ref l) H'
def S0 (v:V)(c t:Addr)(d:D)(H G:Hp)(n:Nat)(σ:St)(b:Hp):Prop:=∃(fs a:List D) (ws us:List V) (o:Option V),σ=[some v,some (.ref c),some (.ref t),o]/\b c=some (.lst ws)/\b t=some (.lst us)/\aD H b/\Reps G fs ws/\Reps G a us/\Wks a /\
 fs++a.reverse.flatMap wlk=wlk d/\ndss a=n/\n<=1000
theorem GG {f:Addr}{fd:FuncData}(F:fY K "walked" "walked" oC f fd)(T:Txt mg):bN P w K mg base bH 1 f fd BD nX:=by
 refine F.ok mF (λvs H Q E h=>?_) (λcdv A outer s H vs Q E hr h=>?_)
 ·obtain⟨d,v,G,rfl,_⟩:=h;rfl
 ·obtain⟨d,v,G,rfl,sG,rep,wk,O,q⟩:=h;have hu:=hr.units
  refine⟨_,(aC (aW (i:=1) mF.nd rfl (Or.inl rfl) (cQ aB))
   (aC (aW (i:=2) mF.nd rfl (Or.inl rfl) (cQ (aA (pv 0) aB)))
   (aC (sJ dc (aO K rfl (pv 2) (λ_=>rfl)) (aC (aW (i:=3) mF.nd rfl (Or.inl rfl) (CF c4 PySem.F.slot_list_pop PySem.F.type_list_pop xU (pv 2)))
   (aC (cS (iU c4 db da dY (pv 1) (aA (pv 3) aB)))
   (aG (bD (cM (aO K rfl (aL aK rfl T.n_isinstance rfl (aA (pv 3) (aA (bG (v:=V.ty "str") rfl T.n_str rfl rfl) aB))) (λ_=>rfl))) (aG (cS (iU c4 PySem.F.slot_list_extend PySem.F.type_list_extend rP (pv 2) (aA (fS D2 (pv 3) cF (bT aF) (bT (fQ dS aF))) aB)))) aP)))))
   (aG (aM (pv 1)))))),?_⟩
  try dsimp only[cxOf,Cx.nox]
  clear hr F T hu;refine⟨show 0<=sizeLine by decide,λz J=>⟨_,rfl,show 1<=sizeLine by decide,λt ht=>?_⟩⟩;change tSeq _ _ _ _ (upd (upd H z (.lst [])) t (.lst [v]));have I:z≠t:=aH upd_same ht;have X:H t=none:=(aD.upd J).free ht;refine BS (S0 v z t d H G) (nds d) ⟨[],[d],[],[v],none,rfl,by rw[aE I];exact upd_same,upd_same,(aD.upd J).trans (aD.upd ht),rfl,⟨v,[],rfl,rep,rfl⟩,⟨wk,trivial⟩,by simp,by simp[ndss],O⟩ ?_;rintro n σ S ⟨fs,ts,ws,us,o,rfl,h1,h2,sH,rf,rt,U,e,rfl,W⟩ R hT hF;rcases List.eq_nil_or_concat ts with rfl|⟨j,r,rfl⟩
  ·cases (show us=[]from rt);refine⟨_,rfl,false,.inl ⟨[],eK.of h2,rfl⟩,hF S ⟨_,rfl,?_⟩⟩;have e:fs=wlk d:=by simpa using e
   rw[e]at rf;exact q z ws S sH J h1 rf
  ·rw[List.concat_eq_append]at rt U e W hT;obtain⟨c,u,rfl,rt',ru⟩:=iB rt;obtain⟨wt',wr⟩:=U.unsnoc;refine⟨_,rfl,true,.inl ⟨_,eK.of h2,by simp⟩,hT S ⟨_,rfl,tyL h2,t,_,u,rfl,rfl,h2,by simp,?_⟩⟩;clear rt U hT hF;have rt:=rt';have U:=wt';rw[List.dropLast_concat];rw[List.reverse_append,List.reverse_cons,List.reverse_nil,List.nil_append,List.singleton_append,List.flatMap_cons]at e;have h3:upd S t (.lst c) t=some (.lst c):=upd_same;have f3:upd S t (.lst c) z=some (.lst ws):=by rw[aE I];exact h1
   have s3:aD H (upd S t (.lst c)):=λb o l=>by rw[aE (aH l X)];exact sH _ _ l
   generalize upd S t (.lst c)=H3 at h3 f3 s3⊢;have Z:upd H3 z (.lst (ws++[u])) t=some (.lst c):=by rw[aE I.symm];exact h3
   have f4:upd H3 z (.lst (ws++[u])) z=some (.lst (ws++[u])):=upd_same;have s4:aD H (upd H3 z (.lst (ws++[u]))):=λb o l=>by rw[aE (aH l J)];exact s3 _ _ l
   have lf:=Reps.len rf;have lw:=congrArg List.length e;rw[aq]at lw;have lt':=Reps.len rt;have hn:=fB j;have hnr:nds r+ndss j<=1000:=by rw[eU,ndss,ndss]at W;omega
   have L:Reps G (fs++[r]) (ws++[u]):=Reps.snoc ru rf;refine⟨_,rfl,tyL f3,_,rfl,z,ws,u,rfl,rfl,f3,aj (m:=1000) (by have:=nR d;omega) (by decide),?_⟩;generalize upd H3 z (.lst (ws++[u]))=H4 at Z f4 s4⊢;have C:=sG.trans s4;rw[eU];rcases HL wr with⟨x,rfl⟩|⟨nm,ds,hd,wds⟩
   ·cases (show u = .str x from ru);refine⟨_,rfl,.str x,.ty "str",true,rfl,rfl,true,rfl,?_⟩;refine⟨ndss j,by rw[ndss,ndss];have:=rN (.str x);omega,fs++[.str x],j,_,c,_,rfl,f4,Z,s4,L,rt,U,?_,rfl,by omega⟩;rw[←e];show _=fs++([.str x]++_);rw[ci]
   ·obtain⟨N,g,rfl,hbb,B⟩:∃N g,u = .ref N/\isV H4 (.ref N) (.ty "str")=some false/\cV H4 N (.str nm::g)/\Reps G ds g:=by
     rcases hd with rfl|rfl
     ·obtain⟨a,vs,rfl,Y,_,g,rfl,e1,r⟩:=ru;cases e1;exact⟨a,g,rfl,iX (C _ _ Y),.inr (C _ _ Y),r⟩
     ·obtain⟨a,vs,rfl,Y,_,g,rfl,e1,r⟩:=ru;cases e1;exact⟨a,g,rfl,nG (C _ _ Y),.inl (C _ _ Y),r⟩
    obtain⟨B,res⟩:=B;have hnd:nds r=1+ndss ds:=by rcases hd with rfl|rfl <;> rw[nds]
    have hwl:wlk r=r::wlks ds:=by rcases hd with rfl|rfl <;> rw[wlk]
    have h1:=fB ds;have lr:=Reps.len res;refine⟨_,rfl,.ref N,.ty "str",false,rfl,hbb,false,rfl,?_⟩;refine⟨_,rfl,tyL Z,_,rfl,0,rfl,1,rfl,-1,rfl,rfl,rfl,rfl,N,_,rfl,B,by simp,λb o l ho=>?_⟩;rw[vC]at ho;have h5:upd H4 b o t=some (.lst c):=by rw[aE (aH Z l)];exact Z
    have f5:upd H4 b o z=some (.lst (ws++[.ref N])):=by rw[aE (aH f4 l)];exact f4
    have s5:aD H (upd H4 b o):=s4.trans (aD.upd l);refine⟨t,b,c,g.reverse,rfl,rfl,h5,by rcases ho with⟨rfl,_⟩|⟨rfl,_⟩;exact .inl upd_same;exact .inr upd_same,al (m:=2000) (by rw[List.length_reverse];omega) (by decide),ndss j+ndss ds,by rw[ndss,ndss];omega,fs++[r],j++ds.reverse,_,_,_,rfl,by rw[aE I];exact f5,upd_same,?_,L,Reps.append rt (Reps.rev res),U.app wds.rev,?_,by rw[eU,sS],by omega⟩
    ·exact λb o l=>by rw[aE (aH l X)];exact s5 _ _ l
    ·rw[←e,hwl,List.reverse_append,List.reverse_reverse,List.flatMap_append,←uX];simp
noncomputable def mrk:D->M
 | .str x=>(sortS x,x,0)
 | .tup (.str n::ds)=>(2,n,ds.length+1)
 | _=>(0,"",0)
mutual
theorem ES:∀{d:D},Fl d->key d=(wlk d).map mrk
 | .str x,_=>by unfold key wlk;rfl
 | .tup (.str n::ds),h=>by unfold Fl at h;rw[key,wlk,AK h];rfl
 | .non,h | .bl _,h | .int _,h | .lst _,h | .tup [],h | .tup (.non::_),h | .tup (.bl _::_),h | .tup (.int _::_),h | .tup (.tup _::_),h | .tup (.lst _::_),h=>by unfold Fl at h;exact absurd h id
theorem AK:∀{ds:List D},Fls ds->keys ds=(wlks ds).map mrk
 | [],_=>rfl
 | d::ds,⟨a,b⟩=>by rw[keys,wlks,ES a,AK b,ax]
end
mutual
theorem KU:∀{d:D},Fl d->∀e∈wlk d,Fl e
 | .str x,h=>by unfold wlk;intro e a;rw[cm.mp a];exact h
 | .tup (.str n::ds),h=>by
  rw[wlk];intro e a;obtain rfl|a:=cp.mp a
  ·exact h
  ·exact E2 (by unfold Fl at h;exact h) e a
 | .non,h | .bl _,h | .int _,h | .lst _,h | .tup [],h | .tup (.non::_),h | .tup (.bl _::_),h | .tup (.int _::_),h | .tup (.tup _::_),h | .tup (.lst _::_),h=>by unfold Fl at h;exact absurd h id
theorem E2:∀{ds:List D},Fls ds->∀e∈wlks ds,Fl e
 | [],_=>λe c=>by cases c
 | d::ds,⟨a,b⟩=>λe c=>by
  rw[wlks]at c;obtain c|c:=cr.mp c
  ·exact KU a e c
  ·exact E2 b e c
end
noncomputable def mV (m:M):List V:=[.int m.1,.str m.2.1,.int m.2.2]
noncomputable def mD (m:M):D:=.tup [.int m.1,.str m.2.1,.int m.2.2]
def II:Sp:=λvs H Q _=>∃(d:D) (v:V),vs=[v]/\aT H d v/\Fl d/\∀p,H p=none->Q (.ref p) (upd H p (.tup (mV (mrk d))))
theorem MX {f:Addr}{o:FuncData}(F:fY K "order_mark" "order_mark" iK f o)(T:Txt mg):bN P w K mg base bH 1 f o oZ II:=by
 refine F.ok uM (λvs H Q E h=>?_) (λJ A outer s H vs Q E i h=>?_)
 ·obtain⟨d,v,rfl,_⟩:=h;rfl
 ·obtain⟨d,v,rfl,rep,fl,q⟩:=h;have g:=i.units
  refine⟨_,(aC (bD (aO K rfl (aL aK rfl T.n_isinstance rfl (aA (pv 0) (aA (bG (v:=V.ty "str") rfl T.n_str rfl rfl) aB))) (λ_=>rfl)) (aG (aM (bK (aA (e8 (aY (gJ g) (aS bB (pv 0) aF (λ_ _=>rfl)) cI (nomark _)) aF aF) (aA (pv 0) (aA aF aB)))))) aP)
   (aG (aM (bK (aA aF (aA (aS bB (pv 0) aF (λ_ _=>rfl)) (aA (aL bZ rfl T.n_len rfl (aA (pv 0) aB)) aB))))))),?_⟩
  try dsimp only[cxOf,Cx.nox]
  simp only[pD];clear i F T g;have keep:=aI q (aI rep fl);clear q rep fl
  walk_at "rd"
  obtain⟨q,rep,fl⟩:=keep;rcases yI fl with⟨x,rfl,l,j⟩|⟨nm,ds,rfl,B⟩
  ·cases (show v = .str x from rep);refine⟨true,rfl,?_⟩;rw[ai rfl];have hz:x.length<=sizeLine:=al (m:=20) (by rw[bn]at j;exact j) (by decide);cases hc:x.cps.toList with
   | nil=>rw[hc]at l;simp at l
   | cons c r =>
    refine⟨.str ⟨#[c]⟩,by rw[yB hz,hc,atI_zero];rfl,?_⟩;rw[rEqD_ss];refine⟨_,rfl,?_⟩;have C:decide ((⟨#[c]⟩:Str)=Str.ofString "?")=decide (c=63):=by
     have G:Str.ofString "?" = ⟨#[63]⟩:=by decide +kernel
     rw[G,bS];simp
    have es:sortS x=if c=63 then 0 else 1:=by unfold sortS;rw[hc];simp
    rw[C];by_cases h:c=63
    ·rw[ai (bf h)];refine⟨by decide,λp b=>?_⟩;have:Q (.ref p) (upd H p (.tup [.int (sortS x),.str x,.int 0])):=q p b;rw[es,ai h]at this;exact this
    ·rw[ab (by simpa using h)];refine⟨by decide,λp b=>?_⟩;have:Q (.ref p) (upd H p (.tup [.int (sortS x),.str x,.int 0])):=q p b;rw[es,ab h]at this;exact this
  ·obtain⟨a,vs,rfl,e,_,u,rfl,I,r⟩:=rep;cases I;have z:=Reps.len r;refine⟨false,iX e,?_⟩;rw[ab (by decide)];refine⟨.str nm,by rw[ixV_t e,atI_zero],.int (ds.length+1),by rw[lenV_t e,ao,z];rfl,by decide,λp b=>?_⟩;exact q p b
def spKey:Sp:=λvs H Q _=>∃(d:D) (v:V),vs=[v]/\aT H d v/\Fl d/\nds d<=1000/\∀(l:Addr) (H':Hp),aD H H'->H l=none->aT (nw H H') (.lst ((key d).map mD)) (.ref l)->Q (.ref l) H'
def TW (ds:List D)(H d:Hp)(i:Nat)(a:List V)(σ:St)(b:Hp):Prop:=∃c:Option V,σ=[c]/\aD d b/\Reps (nw H b) (((ds.take i).map mrk).map mD) a
theorem zL {H:Hp}{p:Addr}{m:M}(h:H p=some (.tup (mV m))):aT H (mD m) (.ref p):=⟨p,_,rfl,h,.int _,_,rfl,rfl,.str _,_,rfl,rfl,.int _,[],rfl,rfl,rfl⟩
theorem EF {H c b:Hp}(s:aD c b):aD (nw H c) (nw H b):=λa o e=>by obtain⟨f,d⟩:=lM.mp e;exact lM.mpr ⟨f,s _ _ d⟩
theorem P4 {f:Addr}{O:FuncData}(F:fY K "order_key" "order_key" h9 f O)(T:Txt mg)(c:d8 P w K mg base bH 1 "order_mark" II)(g:d8 P w K mg base bH 1 "walked" nX):bN P w K mg base bH 2 f O qR spKey:=by
 refine F.ok xB (λvs H Q E h=>?_) (λcdv A outer s H vs Q E G h=>?_)
 ·obtain⟨d,v,rfl,_⟩:=h;rfl
 ·obtain⟨d,v,rfl,rep,fl,j,q⟩:=h;have Z:=G.units
  refine⟨_,(aC (bD (aO K rfl (aL aK rfl T.n_isinstance rfl (aA (pv 0) (aA (bG (v:=V.ty "str") rfl T.n_str rfl rfl) aB))) (λ_=>rfl)) (aG (aM (cQ (aA (aN c (G.mono (by decide)) pass0 rfl (aA (pv 0) aB)) aB)))) aP)
   (aG (aM (gG rfl (bW.by (N:=lX) (names:=(aJ h9).names) (N':=["at"]) (src:=[none]) (by decide +kernel) rfl rfl) (cP K rfl (aN g (G.mono (by decide)) pass0 rfl (aA (pv 0) aB))) (λ_ _ _ _=>(aZ (i:=0) (show List.Nodup (["at"]:aV)by decide +kernel) rfl (Or.inl rfl))) (λ_ _ _ _=>dN) (λ_ _ _ _=>(aN c (G.mono (by decide)) pass0 rfl (aA (pv 0) aB))))))),?_⟩
  try dsimp only[cxOf,Cx.nox]
  simp only[lX];clear G F T Z c g;have keep:=aI q (aI rep (aI fl j));clear q rep fl j
  walk_at "rd"
  obtain⟨q,rep,fl,j⟩:=keep;rcases yI fl with⟨x,rfl,I,h2⟩|⟨nm,ds,rfl,fls⟩
  ·cases (show v = .str x from rep);refine⟨true,rfl,?_⟩;rw[ai rfl];refine⟨_,_,rfl,rep,fl,λp u=>⟨by decide,λl r=>q l _ ((aD.upd u).trans (aD.upd r)) ((aD.upd u).free r) ?_⟩⟩;have hk:key (.str x)=[mrk (.str x)]:=by unfold key;rfl
   rw[hk];exact⟨l,[.ref p],rfl,lM.mpr ⟨(aD.upd u).free r,upd_same⟩,.ref p,[],rfl,zL (lM.mpr ⟨u,by rw[aE (aH upd_same r)];exact upd_same⟩),rfl⟩
  ·obtain⟨b,hb⟩:∃b,isV H v (.ty "str")=some b/\b=false:=by obtain⟨a,vs,rfl,ha,_⟩:=rep;exact⟨false,iX ha,rfl⟩
   refine⟨b,hb.1,?_⟩;rw[ab (by rw[hb.2];decide)];refine⟨_,v,H,rfl,aD.refl _,rep,OH fl,j,λX ws H1 B hl0 I C=>⟨X,rfl,ws,.inl I,λJ hJ=>?_⟩⟩;have U:=Reps.len C;have lk:=nR (.tup (.str nm::ds));refine dF hJ (TW (wlk (.tup (.str nm::ds))) H H1) ⟨none,rfl,aD.refl _,rfl⟩ (λi z σ H' _ ⟨_,_,s2,_⟩=>by rw[I,s2 _ _ I]) ?_ ?_
   ·rintro i x z σ H2 Y ⟨S,rfl,s2,o⟩;obtain⟨e,L,R⟩:=Reps.get C Y;have W:=Reps.len o;refine⟨_,rfl,e,x,rfl,aT.same (B.trans s2) R,KU fl e (bg L),λp u=>⟨aj (m:=1000) ?_ (by decide),_,rfl,s2.trans (aD.upd u),?_⟩⟩
    ·rw[ae,ae,bq]at W;omega
    ·rw[bC L,ax,ax];exact Reps.snoc (zL (lM.mpr ⟨(B.trans s2).free u,upd_same⟩)) (Reps.same (EF (aD.upd u)) o)
   ·rintro z σ H2 ⟨S,rfl,s2,o⟩ l r;rw[U,br]at o;refine q l _ ((B.trans s2).trans (aD.upd r)) ((B.trans s2).free r) ?_;rw[ES fl];exact⟨l,z,rfl,lM.mpr ⟨(B.trans s2).free r,upd_same⟩,Reps.same (EF (aD.upd r)) o⟩
noncomputable def opP (n:Str)(d:D):List D:=match d with
 | .tup (.str m::es)=>if m=n then es else [d]
 | d=>[d]
def vA:Sp:=λvs H Q _=>∃(n:Str) (d:D) (v:V),vs=[.str n,v]/\aT H d v/\Fl d/\∀(l:Addr) (ws:List V) (H':Hp),aD H H'->H l=none->H' l=some (.lst ws)->Reps H (opP n d) ws->Q (.ref l) H'
theorem CL {f:Addr}{z:FuncData}(F:fY K "opened" "opened" oF f z)(T:Txt mg):bN P w K mg base bH 1 f z BF vA:=by
 refine F.ok F0 (λvs H Q E h=>?_) (λG A outer s H vs Q E m h=>?_)
 ·obtain⟨n,d,v,rfl,_⟩:=h;rfl
 ·obtain⟨n,d,v,rfl,rep,fl,q⟩:=h;have j:=m.units
  refine⟨_,(aC (bD (PW.pt (B8 (aO K rfl (aL aK rfl T.n_isinstance rfl (aA (pv 1) (aA (bG (v:=V.ty "tuple") rfl T.n_tuple rfl rfl) aB))) (λ_=>rfl)) (xE (aY (gJ j) (aS bB (pv 1) aF (λ_ _=>rfl)) (pv 0) (nomark _))))) (aG (aM (cR nJ rfl T.n_list rfl (aA (dC gT (pv 1) (bT aF) cF) aB)))) aP)
   (aG (aM (cQ (aA (pv 1) aB))))),?_⟩
  try dsimp only[cxOf,Cx.nox]
  simp only[uC];clear m F T j;have keep:=aI q (aI rep fl);clear q rep fl
  walk_at "rd"
  obtain⟨q,rep,fl⟩:=keep;have b:opP n d=[d]->1<=sizeLine/\∀(p:Addr),H p=none->Q (V.ref p) (upd H p (HO.lst [v])):=λe=>⟨by decide,λp g=>q p [v] _ (aD.upd g) g upd_same (by rw[e];exact⟨v,[],rfl,rep,rfl⟩)⟩
  rcases yI fl with⟨x,rfl,J,I⟩|⟨nm,ds,rfl,B⟩
  ·cases (show v = .str x from rep);exact⟨false,rfl,by rw[ab (by decide)];exact b rfl⟩
  ·obtain⟨a,vs,rfl,i,_,c,rfl,C,r⟩:=id rep;cases C;refine⟨true,yE i,?_⟩;rw[ai rfl];refine⟨.str nm,by rw[ixV_t i,atI_zero],?_⟩;rw[rEqD_ss];refine⟨_,rfl,?_⟩;by_cases e:nm=n
   ·rw[ai (bf e)];refine⟨a,rfl,_,.inr i,λ_ h=>?_,λp o g ho=>?_⟩
    ·have:=h.1;simp[HT.sIx]at this
    ·rw[mP]at ho;refine⟨c,by rcases ho with⟨rfl,_⟩|⟨rfl,_⟩;rw[seqV_l upd_same];rw[seqV_t upd_same],λl u=>q l c _ ((aD.upd g).trans (aD.upd u)) ((aD.upd g).free u) upd_same ?_⟩;show Reps H (if nm=n then ds else [.tup (.str nm::ds)]) c;rw[ai e];exact r
   ·rw[ab (by simpa using e)];exact b (by show(if nm=n then ds else [.tup (.str nm::ds)])=_;rw[ab e])
end
end Lw
namespace Lw
open PySem PySem.Spec PyProof.Rows PySem.SeqAt L2
theorem AY (m b:M):eqD (mD m) (mD b)=decide (m=b):=by obtain⟨a,x,c⟩:=m;obtain⟨i,g,h⟩:=b;rw[bS];simp[mD,eqD,eqDs];exact⟨λ⟨f,d,e⟩=>⟨by omega,d,by omega⟩,λ⟨f,d,e⟩=>⟨by omega,d,by omega⟩⟩
theorem FS (A:Around)(s:Shared)(x y:Str)(t u:Tok):N6 A s (.str x t) (.str y u) (sL x y):=λprog w E Q h=>(lt_str h:wpAny (model prog w) A (compareOp .Lt (.str x t) (.str y u)) Q E s)
theorem vN (A:Around)(s:Shared)(x y:Int)(t u:Tok):N6 A s (.int x t) (.int y u) (decide (x<y)):=λprog w E Q h=>HT.rcLt_int A s x t y u prog w E Q h
section
variable {P:Program}{w:World}{H:Hp}{s:Shared}
theorem vals3 {a b c:V}{us:cC}(h:aX [a,b,c] us):∃u v x,us=[u,v,x]/\aU a u/\aU b v/\aU c x:=by
 cases h with
 | cons r1 h =>
  obtain⟨v,x,rfl,e,d⟩:=aX.two h;exact⟨_,v,x,rfl,r1,e,d⟩
theorem AC (ok:gQ P w H s.heap){m:M}{v:V}{u:Value}(h:aT H (mD m) v)(r:aU v u):∃p t1 a t3,u = .ref p/\s.heap.IsTuple p #[.int m.1 t1,.str m.2.1 a,.int m.2.2 t3]:=by obtain⟨p,vs,rfl,e,q,r1,rfl,j,o,B,rfl,i,l,c,rfl,g,f⟩:=h;cases j;cases i;cases g;cases (show c=[]from f);cases r;obtain⟨its,b,d⟩:=jK ok e;obtain⟨A,z,x,rfl,⟨t1,rfl⟩,⟨a,rfl⟩,⟨t3,rfl⟩⟩:=vals3 b;exact⟨p,t1,a,t3,rfl,d⟩
theorem NA (ok:gQ P w H s.heap)(A:Around)(hu:A.units+8<cLine){m G:M}{v R:V}{u S:Value}(h:aT H (mD m) v)(h':aT H (mD G) R)(r:aU v u)(Z:aU R S)(ne:m≠G):N6 A s u S (ltM m G):=by
 obtain⟨p,t1,T,t3,rfl,⟨⟨c,dd,dt,Y⟩,ho,U,n,hd⟩⟩:=AC ok h r;obtain⟨p',l,j,i,rfl,⟨⟨c',O,dt',K⟩,o,C,n',B⟩⟩:=AC ok h' Z;simp only at U hd C B;subst U hd C B;obtain⟨a,x,b⟩:=m;obtain⟨f,g,d⟩:=G;have q:uU A.in1 s [.int a t1,.str x T,.int b t3] [.int f l,.str g j,.int d i] (ltM (a,x,b) (f,g,d)):=by
  have L:A.in1.units+0<cLine:=by rw[eH];omega
  have J:=eqAtD ok (.int a) (.int f) A.in1 (.int a) (.int f) (.int a t1) (.int f l) rfl rfl ⟨_,rfl⟩ ⟨_,rfl⟩ L;have I:=eqAtD ok (.str x) (.str g) A.in1 (.str x) (.str g) (.str x T) (.str g j) rfl rfl ⟨_,rfl⟩ ⟨_,rfl⟩ L;have X:=eqAtD ok (.int b) (.int d) A.in1 (.int b) (.int d) (.int b t3) (.int d i) rfl rfl ⟨_,rfl⟩ ⟨_,rfl⟩ L;unfold ltM;dsimp only;by_cases W:a=f
  ·subst W;rw[ai rfl];refine .eq (by rw[iY]at J;exact J) ?_;by_cases N:x=g
   ·subst N;rw[ai rfl];refine .eq (by rw[iY]at I;exact I) ?_;have h3:b≠d:=λz=>ne (by rw[z]);have e:eqD (.int (b:Int)) (.int (d:Int))=false:=by show((b:Int) == (d:Int))=false;simp;omega
    rw[e]at X;have:decide (b<d)=decide ((b:Int)<(d:Int)):=by rw[bS];simp
    rw[this];exact .ne X (vN _ _ _ _ _ _)
   ·rw[ab N];have e:eqD (.str x) (.str g)=false:=by
     show(x == g)=false
     simpa using N
    rw[e]at I;exact .ne I (FS _ _ _ _ _ _)
  ·rw[ab W];have e:eqD (.int (a:Int)) (.int (f:Int))=false:=by show((a:Int) == (f:Int))=false;simp;omega
   rw[e]at J;have:decide (a<f)=decide ((a:Int)<(f:Int)):=by rw[bS];simp
   rw[this];exact .ne J (vN _ _ _ _ _ _)
 intro prog w' E Q hq;exact richCompare_meets_room (op:=.Lt) ⟨_,ho,rfl⟩ ⟨_,o,rfl⟩ PySem.F.slot_tuple_lt PySem.F.entry_tuple_lt (PySem.F.args_tuple_lt_2 _ _) (uK p p' _ _ n n' dd O Y K)
  ⟨ho,o,_,q,show Value.bool _≠Value.notImplemented/\Q _ s from⟨(λx=>nomatch x),hq⟩⟩ (by omega)
theorem vL (ok:gQ P w H s.heap)(A:Around)(u:A.units+8<cLine):∀(ks c:List M) (vs a:List V) (us b:cC),Reps H (ks.map mD) vs->Reps H (c.map mD) a->aX vs us->aX a b->uU A s us b (lexK ks c)
 | [],[],vs,a,us,b,h,h',r,d=>by
  cases (show vs=[]from h);cases (show a=[]from h');cases r.zero;cases d.zero;exact .nn
 | [],j::c,vs,a,us,b,h,⟨z,C,o,_,_⟩,r,d=>by
  cases (show vs=[]from h);subst o;cases r.zero;cases d;exact .nc
 | m::ks,[],vs,a,us,b,⟨x,q,e,_,_⟩,h',r,d=>by
  cases (show a=[]from h');subst e;cases d.zero;cases r;exact .cn
 | m::ks,j::c,vs,a,us,b,⟨x,q,e,v,E⟩,⟨z,C,o,g,l⟩,r,d=>by
  subst e o;cases r with
  | cons r1 B =>
   cases d with
   | cons f i =>
    have e:=eqAtD ok (mD m) (mD j) A _ _ _ _ v g r1 f (by
     have:depD (mD m)=1:=rfl
     omega)
    rw[AY]at e;rw[lexK];by_cases ne:m=j
    ·rw[ai ne];rw[bf ne]at e;exact .eq e (vL ok A u ks c _ _ _ _ E l B i)
    ·rw[ab ne];rw[bh ne]at e;exact .ne e (NA ok A u v g r1 f ne)
theorem sY (ok:gQ P w H s.heap){ks:List M}{v:V}{u:Value}(h:aT H (.lst (ks.map mD)) v)(r:aU v u):∃l vs us,u = .ref l/\Reps H (ks.map mD) vs/\aX vs us/\s.heap.IsList l us.toArray:=by obtain⟨l,vs,rfl,d,c⟩:=h;cases r;obtain⟨us,b,a⟩:=gK ok d;exact⟨l,vs,us,rfl,c,b,a⟩
theorem AM (ok:gQ P w H s.heap)(A:Around)(T:A.units+16<cLine){ks a:List M}{v z:V}{u i:Value}(h:aT H (.lst (ks.map mD)) v)(h':aT H (.lst (a.map mD)) z)(r:aU v u)(I:aU z i) :
  s.TypeIs u "list"/\s.TypeIs i "list"/\∀(prog:Program) (w:World) (E:cL) (Q:cL),Q (.bool (lexK ks a)) s->wpAny (model prog w) A (call (.builtin "list.__lt__") [u,i]) Q E s:=by
 obtain⟨l,vs,us,rfl,L,G,O⟩:=sY ok h r;obtain⟨K,f,g,rfl,o,m,q⟩:=sY ok h' I;obtain⟨⟨c,S,U,C⟩,ho,B,n,hd⟩:=id O;obtain⟨⟨W,x,R,j⟩,b,e,J,d⟩:=id q;simp only at B hd e d;subst B hd e d;refine⟨⟨_,ho,rfl⟩,⟨_,b,rfl⟩,λprog w E Q N=>?_⟩;exact call_meets PySem.F.slot_list_lt ⟨_,ho,rfl⟩ PySem.F.entry_list_lt (PySem.F.args_list_lt_2 _ _) (xX l K _ _ n J S x C j) ⟨ho,b,_,vL ok A.in1 (by rw[eH];omega) ks a vs f us g L o G m,N⟩
end
end Lw
namespace Lw
open PySem PySem.Spec PyProof.Rows PySem.SeqAt PySem.W L2
noncomputable def kyD (d:D):D:=.lst ((key d).map mD)
theorem NY {P:Program}{w:World}{H:Hp}{s:Shared}(ok:gQ P w H s.heap)(A:Around)(i:A.units+32<cLine){d e:D}{v b:V}{u c:Value}(h:aT H (kyD d) v)(h':aT H (kyD e) b)(r:aU v u)(f:aU b c){prog:Program}{a:World}{E:cL}{Q:Bool->Shared->Prop}
  (q:Q (lexK (key d) (key e)) s):wpAny (model prog a) A (keyLt' oneType' u c) Q E s:=by
 obtain⟨t1,g,t3⟩:=AM ok A (by omega) h h' r f;rw[keyLt'_oneType,oneLt'_eq,ai rfl];refine aa (wpAny_cRoomFor (by omega) (aa (wpAny_callSpecialIfBound?_slot t1 F.slot_list_lt (t3 prog a _ _ ?_))));exact wpAny_truthy_bool q
theorem C2 {M:Model}{h:Heap}{l:Addr}{us:gN}(a:h.IsList l us):Looks M h (typeOf (.ref l)) (.type "list"):=λA Q E s k q=>by obtain⟨o,ho,b,_⟩:=a;exact wpAny_typeOf ⟨o,k _ _ ho,b⟩ q
noncomputable def ltI (ds:List D)(i j:Nat):Bool:=lexK (key (ds.getD i .non)) (key (ds.getD j .non))
theorem JJ (n:Nat)(ds:List D):RX n (ltI ds):=⟨λi=>oN _,λi j h=>pU h,λi j k b a=>sU a b⟩
theorem yD {ks is:cC}{i:Nat}(h:ks.length=is.length)(a:i<is.length):kas_item (ks.toArray.zip is.toArray) i=(ks.getD i .none,is.getD i .none):=by
 unfold kas_item;have c:i<(ks.toArray.zip is.toArray).size:=by simp;omega
 rw[Array.getD_eq_getD_getElem?,Array.getElem?_eq_getElem c];have b:i<ks.length:=by omega
 simp[a,b]
theorem oR {H:Hp}{ds:List D}{vs:List V}(h:Reps H ds vs){i:Nat}(a:i<ds.length):aT H (ds.getD i .non) (vs.getD i .non):=by
 obtain⟨v,b,r⟩:=Reps.get' h (aw a);have d:ds.getD i .non=ds[i]:=by simp[a]
 have c:vs.getD i .non=v:=by rw[List.getD_eq_getElem?_getD,b];rfl
 rw[d,c];exact r
theorem oQ {vs:List V}{us:cC}(h:aX vs us){i:Nat}(a:i<vs.length):aU (vs.getD i .non) (us.getD i .none):=by
 obtain⟨u,b,r⟩:=h.get (aw a);have d:vs.getD i .non=vs[i]:=by simp[a]
 have c:us.getD i .none=u:=by rw[List.getD_eq_getElem?_getD,b];rfl
 rw[d,c];exact r
theorem zK {H:Hp}{ds:List D}{vs:List V}(h:Reps H ds vs):∀(l:List Nat),(∀i∈l,i<ds.length)->Reps H (l.map λi=>ds.getD i .non) (l.map λi=>vs.getD i .non)
 | [],_=>rfl
 | i::l,a=>⟨_,_,rfl,oR h (a i av),zK h l λj b=>a j (ay _ b)⟩
theorem y4 {vs:List V}{us:cC}(h:aX vs us):∀(l:List Nat),(∀i∈l,i<vs.length)->aX (l.map λi=>vs.getD i .non) (l.map λi=>us.getD i .none)
 | [],_=>.nil
 | i::l,a=>.cons (oQ h (a i av)) (y4 h l λj b=>a j (ay _ b))
theorem KA (ds:List D):(List.range ds.length).map (λi=>ds.getD i .non)=ds:=by
 apply List.ext_getElem
 ·simp
 ·intro i b a;simp[a]
section
variable {X:Cx}{pins:c9}{σ:L2.St}{H Hj:Hp}{s:Shared}{a kS:Addr}{e1 e:Nat}{kvs xs:List V}{kus its:cC}{ds:List D}{A:Around}{E:cL}
theorem IM (hu:A.units+64<cLine)(I:aQ X pins σ Hj s)(sH:aD H Hj)(r:fH X pins Hj a)(B:fH X pins Hj kS)(ne:kS≠a)(ha:s.heap.get? a=some (seqObj "list" #[] T))(hk:s.heap.get? kS=some (seqObj "list" kus.toArray e))
  (J:aX kvs kus) (F:Reps Hj (ds.map kyD) kvs) (Y:aX xs its) (Z:Reps H ds xs) (h2:2<=ds.length) (R:ds.length<64) {Pf:PySem.Fin->Shared->Prop}
  (h:∀c W es,aQ X pins σ (upd Hj a (.lst W)) c->es.Perm ds->es.Pairwise leK->Reps H es W->Pf (.done (.ret .none)) c) :
  wpAny (model X.prog X.w) A (ksk_end a false its.toArray T (.ref kS) kus.toArray) Pf E s:=by
 have l1:=Reps.len F;rw[ae]at l1;have l2:=J.length;have l3:=Reps.len Z;have l4:=Y.length;have N:kus.length=its.length:=by omega
 have n2:¬its.toArray.size<2:=by rw[ag];omega
 unfold ksk_end;dsimp only;rw[ab n2,ab n2,ab Bool.false_ne_true];have look:∀v∈kus,Looks (model X.prog X.w) s.heap (typeOf v) (.type "list"):=λv hv=>by
  obtain⟨i,d⟩:=List.getElem?_of_mem hv;have hi':=(ck.mp d).1;have r1:=oR F (i:=i) (by rw[ae];omega);have r2:=oQ J (i:=i) (by omega);have ek:kus.getD i .none=v:=by rw[List.getD_eq_getElem?_getD,d];rfl
  rw[ek]at r2;have K:(ds.map kyD).getD i .non=kyD (ds.getD i .non):=by
   have:i<ds.length:=by omega
   simp[this]
  rw[K]at r1;obtain⟨l,_,us,rfl,_,_,hl⟩:=sY I.hok r1 r2;exact C2 hl
 refine aa (kas_kind (vs:=kus) (by omega) look (by decide) (by decide) ?_);have S:SortSt.mk' oneType' (kus.toArray.zip its.toArray) #[] 7 none=kas_st oneType' (kus.toArray.zip its.toArray) (List.toArray (List.range ds.length)):=by
  have e:=kas_range (kus.toArray.zip its.toArray);have z:(kus.toArray.zip its.toArray).size=ds.length:=by simp;omega
  rw[z]at e;unfold kas_st;rw[e]
 have run:=kas_runs (prog:=X.prog) (w:=X.w) (A:=A) (E:=E) (κ:=oneType') (it:=kus.toArray.zip its.toArray) (n:=ds.length) (s:=s)
  (Q:=λ_ f c=>c=s/\∃p:Array Nat,Gd ds.length p/\Up (ltI ds) p ds.length/\arrOf f=p.map (kas_item (kus.toArray.zip its.toArray))/\failedOf f=none)
  (G:=λp c=>c=s/\Gd ds.length p/\Up (ltI ds) p ds.length) h2 R (λp' f c _ a2 a3 U=>⟨U.1,p',U.2.1,U.2.2,a2,a3⟩) ?ask
 case ask =>
  refine FC (n:=ds.length) (lt:=ltI ds) (λc=>c=s) ?_ (λp c T e2=>⟨T,e2⟩) (HE (JJ ds.length ds) (by omega)) s rfl;intro i j C c d hj es hC;subst es;unfold kas_cmp;rw[yD N (by omega),yD N (by omega)];have g1:=oR F (i:=i) (by rw[ae];omega);have g2:=oR F (i:=j) (by rw[ae];omega);have K:∀i,i<ds.length->(ds.map kyD).getD i .non=kyD (ds.getD i .non):=λi d=>by simp[d]
  rw[K i d]at g1;rw[K j hj]at g2;exact NY I.hok A (by omega) g1 g2 (oQ J (by omega)) (oQ J (by omega)) (hC _ rfl)
 rw[←S]at run;refine aa (wpAny_mono run ?_ λ_ _ z=>z);rintro⟨⟨⟩,f⟩ c ⟨rfl,p,q,up,P,hf⟩;have ho:(arrOf f).map (·.2)=(p.toList.map λi=>its.getD i .none).toArray:=by
  rw[P];apply Array.toList_inj.mp;rw[Array.map_map,Array.toList_map];refine List.map_congr_left λi d=>?_;have:i<ds.length:=by
   have:=(Array.perm_iff_toList_perm.mp q).mem_iff.mp d
   simpa using this
  show(kas_item (kus.toArray.zip its.toArray) i).2=_;rw[yD N (by omega)]
 have inn:∀i∈p.toList,i<ds.length:=λi d=>by
  have:=(Array.perm_iff_toList_perm.mp q).mem_iff.mp d
  simpa using this
 have pl:p.toList.length=ds.length:=by rw[bn,q.size]
 unfold ksk_tail;dsimp only;rw[ho];refine aa (listUpdate_at hk rfl ?_ (al (m:=64) (by rw[ag];omega) (by decide)) (au _));refine aa (wpAny_letGo ?_);have x:=Heap.SameBut.update c.heap kS (Obj.mapSeq λ_=>(#[]:gN));have g:=(x.2 a ne.symm).trans ha;have I1:=I.turned (t':=c.toks) (λb o O z=>(x.2 b O).trans z) B.1 B.2.1 B.2.2.2.1 B.2.2.2.2.1 B.2.2.2.2.2;refine aa (seqEpoch_at g rfl ?_);refine aa (listUpdate_at g rfl ?_ (au _) (al (m:=64) (by simp only[Bool.false_eq_true,if_false];rw[ag,ae];omega) (by decide)));rw[hf];simp only[bne_self_eq_false,if_false,Bool.false_eq_true];have L:=Heap.SameBut.update (c.heap.update kS (Obj.mapSeq λ_=>(#[]:gN))) a (Obj.mapSeq λ_=>(p.toList.map λi=>its.getD i .none).toArray);have I2:=I1.turned (t':=c.toks) (λb o O z=>(L.2 b O).trans z) r.1 r.2.1 r.2.2.2.1 r.2.2.2.2.1 r.2.2.2.2.2;have ga:=get?_update_seq g λ_=>(p.toList.map λi=>its.getD i .none).toArray;have I3:=I2.adopt (o:=.lst (p.toList.map λi=>xs.getD i .non)) r ⟨al (m:=64) (by rw[ae];omega) (by decide),_,_,y4 Y p.toList (λi d=>by have:=inn i d;omega),ga⟩;refine ak (h _ _ (p.toList.map λi=>ds.getD i .non) I3 ?_ ?_ (zK Z p.toList inn))
 ·have:=(Array.perm_iff_toList_perm.mp q).map (λi=>ds.getD i .non);rw[List.toList_toArray,KA]at this;exact this
 ·rw[List.pairwise_map,List.pairwise_iff_getElem];intro i j d hj hij;have u:=up i j (by omega) (by omega);have ei:pa p i=p.toList[i]:=by
   have:i<p.size:=by rw[q.size];omega
   simp[pa,Array.getD,this]
  have ej:pa p j=p.toList[j]:=by
   have:j<p.size:=by rw[q.size];omega
   simp[pa,Array.getD,this]
  rw[ei,ej]at u;exact u
theorem KJ {k:Nat}{f:Addr}{O:FuncData}{ps:aV}(F:bN X.prog X.w X.K X.mg X.base bH k f O ps spKey)(W:eY X.K O ps [])(T:d5 k A)(U:A.frames=some X.stack)(I:aQ X pins σ Hj s)(C:fH X pins Hj a)(B:fH X pins Hj kS){j ok:Obj}(N:s.heap.get? a=some j)(L:s.heap.get? kS=some ok){d:D}{v:V}{u:Value}(R:aT Hj d v)(fl:Fl d)(nd:nds d<=1000)(r:aU v u)
  {Q:cL} {E:cL} (h:∀g m H' c,aQ X pins σ H' c->aD Hj H'->H' a=none->H' kS=none->c.heap.get? a=some j->c.heap.get? kS=some ok->aT H' (kyD d) g->aU g m->Q m c) :
  wpAny (model X.prog X.w) A (call (.ref f) [u]) Q E s:=by
 have e:=I.env0;have G:spKey [v] Hj (λg H'=>aD Hj H'/\aT H' (kyD d) g) E0:=⟨d,v,rfl,R,fl,nd,λl H' c J rep=>⟨c,aT.same (λb o z=>(lM.mp z).2) rep⟩⟩
 have J:[u].length=ps.length:=F.len _ _ _ _ G;have H:∀b,fH X pins Hj b->b∉frs X.stack:=λb P z=>(cp.mp (I.stkSub b z)).elim P.2.1 P.2.2.1;refine wpAny_call (codeAny_mono (F.run A X.stack s Hj ⟨[u],[]⟩ [u] [v] _ E0 T ⟨U,e.mod,e.bs,e.bsz,e.funs,e.frf,e.hok,e.bare⟩ (by have:=W s [u] I.kIn (by simpa using J);simpa using this) (.cons r .nil) G) λres c i=>?_);cases res with
 | error x=>exact i.elim
 | ok q =>
  cases q with
  | ret m =>
   obtain⟨g,H',os,bare,un,hok,S,sm,rep⟩:=i;have I':=I.call' (ch:=[]) os un hok bare (λb z=>absurd z (by simp));exact h g m H' c I' sm (un.free a j N C.1 (by simp)) (un.free kS ok L B.1 (by simp)) (un.keep a j N C.1 (H a C) (by simp)) (un.keep kS ok L B.1 (H kS B) (by simp)) rep S
  | next=>exact i.elim
  | brk=>exact i.elim
  | cont=>exact i.elim
theorem FV {k:Nat}{f:Addr}{fd:FuncData}{ps:aV}(F:bN X.prog X.w X.K X.mg X.base bH k f fd ps spKey)(Z:eY X.K fd ps [])(hr:d5 k A)(he:A.frames=some X.stack)(I:aQ X pins σ H s)(fa:fH X pins H a)(Q:fH X pins H kS)(ne:kS≠a)
  (ha:s.heap.get? a=some (seqObj "list" #[] e1)) (hk:s.heap.get? kS=some (seqObj "list" #[] 0)) (R:aX xs its) (T:Reps H ds xs) (fl:∀d∈ds,Fl d/\nds d<=1000) (h2:2<=ds.length) (h64:ds.length<64) {Pf:PySem.Fin->Shared->Prop}
  (h:∀q H' N es,aQ X pins σ (upd H' a (.lst N)) q->aD H H'->H' a=none->es.Perm ds->es.Pairwise leK->Reps H es N->Pf (.done (.ret .none)) q) :
  wpAny (model X.prog X.w) A (ksk_rest a (.ref f) false its.toArray e1 (.ref kS)) Pf E s:=by
 have hu:=hr.units;have l3:=Reps.len T;have l4:=R.length;unfold ksk_rest;refine aa (wpAny_rule ?_);rw[List.forIn_toArray]
 refine aa (ksk_fold (λj q=>∃(Hj:Hp) (c:List V) (g:cC) (e:Nat),aQ X pins σ Hj q/\aD H Hj/\Hj a=none/\Hj kS=none/\q.heap.get? a=some (seqObj "list" #[] e1)/\q.heap.get? kS=some (seqObj "list" g.toArray e)/\aX c g/\Reps Hj ((ds.take j).map kyD) c) its 0 s
  ⟨H,[],[],0,I,aD.refl _,fa.1,Q.1,ha,hk,.nil,rfl⟩ ?step ?done)
 case step =>
  rintro j x q hx ⟨Hj,c,g,e,I',sm,P,U,r,l,O,B⟩;rw[Nat.zero_add]at B⊢;have hj:j<its.length:=(ck.mp hx).1;have hd:ds[j]?=some ds[j]:=aw (by omega);obtain⟨v,hv,rv⟩:=Reps.get' T hd;obtain⟨u,J,ru⟩:=R.get hv;rw[hx]at J;cases J;have lr:=Reps.len B;rw[ae,bq]at lr;have lk:=O.length;have hf:=fl ds[j] (bg hd);refine aa (wpAny_attempt (KJ F Z hr he I' (fa.at P) (Q.at U) r l (aT.same sm rv) hf.1 hf.2 ru λkv Y H' s2 I2 C W G ha2 L rep S=>?_));have sb:=Heap.SameBut.update s2.heap kS (Obj.mapSeq (·.push Y));have gk:=get?_update_seq L (·.push Y);refine aa (listUpdate_at L rfl ?_ (al (m:=64) (by rw[ag];omega) (by decide)) (al (m:=65) (by rw[Array.size_push,ag];omega) (by decide)));have i:=Q.at G;refine ak ⟨rfl,H',c++[kv],g++[Y],_,I2.turned (t':=s2.toks) (λb o Z z=>(sb.2 b Z).trans z) i.1 i.2.1 i.2.2.2.1 i.2.2.2.2.1 i.2.2.2.2.2,sm.trans C,W,G,(sb.2 a ne.symm).trans ha2,by rw[gk,List.push_toArray],O.append (.cons S .nil),?_⟩;rw[bC hd,ax];exact Reps.snoc rep (Reps.same C B)
 case done =>
  rintro q ⟨Hj,c,g,e,I',sm,P,U,r,l,O,B⟩;rw[Nat.zero_add,←l4,l3,br]at B;exact aa (listItems_at l rfl (IM (by omega) I' sm (fa.at P) (Q.at U) ne r l O B R T h2 h64 λs2 N es I2 a1 a2 a3=>h s2 Hj N es I2 sm P a1 a2 a3))
theorem DJ {k:Nat}{f l:Addr}{L:FuncData}{ps:aV}(F:bN X.prog X.w X.K X.mg X.base bH k f L ps spKey)(q:eY X.K L ps [])(P:d5 (k+2) X.A)(I:aQ X pins σ H s)(R:H l=some (.lst xs))(C:Reps H ds xs)(fl:∀d∈ds,Fl d/\nds d<=1000)(S:2<=ds.length)(r:ds.length<64){Q:VK}
  (h:∀j c es H',aD H H'->H j=none->H' j=some (.lst c)->es.Perm ds->es.Pairwise leK->Reps H es c->Q (.ref j) H') :
  wpAny (model X.prog X.w) X.A (call (.builtin "sorted") [.ref l] [(Str.ofString "key",.ref f)]) (EP X pins σ Q) E s:=by
 obtain⟨its,B,pl,hz⟩:=I.list (eK.of R);have l3:=Reps.len C;have l4:=B.length;refine call_function_entry_kw kind_sorted plain_sorted entry_sorted (ksk_s1 _ _) ?_;unfold Builtin.«sorted»;refine aa (m:=checkCount "sorted" 1 1 _) (ak (aa (collect_list pl.isList ?_ (by omega))));refine aa (wpAny_newList ?_ (by omega));have J:∀b o,s.heap.get? b=some o->((s.heap.push (seqObj "list" #[] 0)).update s.heap.objs.size (Obj.mapSeq λx=>x++its.toArray)).get? b=some o:=λb o e=>by have lt:=az e;rw[Heap.get?_update_ne _ _ _ _ (bj lt)];exact af _ e
 have i:s.heap.objs.size<=((s.heap.push (seqObj "list" #[] 0)).update s.heap.objs.size (Obj.mapSeq λx=>x++its.toArray)).objs.size:=by rw[Heap.size_update,Heap.size_push];omega
 dsimp only;generalize (s.heap.push (seqObj "list" #[] 0)).update s.heap.objs.size (Obj.mapSeq λx=>x++its.toArray)=h1 at J i⊢;have I2:aQ X pins σ H {s with heap:=h1.push (seqObj "list" its.toArray 0)}:=I.kept (t':=s.toks) λb o e=>af _ (J b o e);have G:=I.hok.fresh i;have a:=I.fpOk i G;have g:(h1.push (seqObj "list" its.toArray 0)).get? h1.objs.size=some (seqObj "list" its.toArray 0):=ar _ rfl;refine aa (cf (wpAny_call_entry_kw slot_list_sort ⟨_,g,rfl⟩ entry_list_sort ?body (ksk_l1 _ _)));show wpAny (model X.prog X.w) X.A.in1.in1 (ksk_tree h1.objs.size (.ref f) false) _ _ _;unfold ksk_tree;refine aa (listItems_at g rfl ?_);refine aa (listUpdate_at g rfl ?_ (by rw[ag];omega) (au _));have N:=Heap.SameBut.update (h1.push (seqObj "list" its.toArray 0)) h1.objs.size (Obj.mapSeq λ_=>(#[]:gN));have u:=get?_update_seq g λ_=>(#[]:gN)
 have I3:=I2.turned (t':=s.toks) (λb o q z=>(N.2 b q).trans z) a.1 a.2.1 a.2.2.2.1 a.2.2.2.2.1 a.2.2.2.2.2;refine aa (seqEpoch_at u rfl ?_);refine aa (wpAny_newTuple ?_ (by show its.length<=_;omega));refine aa (wpAny_newList (cf ?_) (au _));have v:=I3.kept (t':=s.toks) λb o e=>af {cls:=.type "tuple",data:=.seq its.toArray} e;have I5:=v.kept (t':=s.toks) λb o e=>af {cls:=.type "list",data:=.seq #[]} e;have U:=v.fpOk (ac _) (v.hok.fresh (ac _));have T:=af {cls:=.type "list",data:=.seq #[]} (af {cls:=.type "tuple",data:=.seq its.toArray} u);refine FV F q P.in1.in1 (I.ok.frames) I5 a U (λz=>?_) T (ar _ rfl) B C fl S r λs' H' c es I' sm O Z Y W=>⟨_,rfl,ak ⟨_,rfl,.ref h1.objs.size,_,I',rfl,h _ c es _ (sm.trans (aD.upd O)) G upd_same Z Y W⟩⟩
 have lt:=az (af {cls:=.type "tuple",data:=.seq its.toArray} u);exact Nat.ne_of_gt lt z
end
def OY (e:TA):TE:=λσ H Q=>e σ H λvs a=>∃l xs ds,vs=[.ref l]/\a l=some (.lst xs)/\Reps a ds xs/\(∀d∈ds,Fl d/\nds d<=1000)/\2<=ds.length/\ds.length<64 /\
 ∀b c es H',aD a H'->a b=none->H' b=some (.lst c)->es.Perm ds->es.Pairwise leK->Reps a es c->Q (.ref b) H'
theorem CC {X:Cx}{k:Nat}{e:Expr}{m:TA}{p o c a:Pos}(O:d8 X.prog X.w X.K X.mg X.base bH k "order_key" spKey)(N:d5 (k+2) X.A)(S:Gl X "sorted")(P:X.mg "sorted" = none)(i:Gl X "order_key")(Y:PA X [e] m)
  (U:backTo a (starEach [e] X.env)=(false,eval e X.env)::backTo a (starEach [] X.env):=by rfl) (g:(backTo a (starEach [e] X.env)).any (·.1)=false:=by rfl):PE X (.Call (.Name "sorted" p) [e] [⟨some "key",.Name "order_key" o,c⟩] a) (OY m):=by
 obtain⟨f,fd,ps,F,T,hk,W⟩:=O;intro b s σ H Q I h;refine wpAny_Call_Name_kw (lO I S P (u:=.builtin "sorted") rfl ?_);refine callWith_kw (thn (Y a b s σ H _ I h) λus x ⟨vs,v,I1,r1,E⟩=>?_) U g;have G:PK X [⟨some "key",.Name "order_key" o,c⟩] (tCons (tC (.ref f)) tNil):=MB (eS ⟨_,T,rfl⟩ i) PH;refine thn (G a b x σ v (λvs r=>vs=[.ref f]/\r=v) I1 ⟨rfl,rfl⟩) λL s2 ⟨J,r,I2,C,e1,e2⟩=>?_;subst e1 e2;obtain⟨ku,rfl,d⟩:=aX.one C;cases d;obtain⟨l,xs,ds,rfl,R,B,fl,Z,j,q⟩:=E;obtain⟨u,rfl,z⟩:=aX.one r1;cases z;exact DJ F W N I2 R B fl Z j q
end Lw
namespace Lw
open PySem L2
section
variable {P:Program}{w:World}{K:PySem.W.Frag}{mg:iH}{base:Heap}
theorem PR (n z:Str)(d:D)(a:Fl d):opn1 n z d=if eqD d (.str z)=true then []else opP n d:=by
 rcases yI a with⟨x,rfl,_⟩|⟨m,es,rfl,_⟩
 ·rfl
 ·have e:eqD (.tup (.str m::es)) (.str z)=false:=rfl;rw[e,ab (by decide)];rfl
theorem qG:∀(ds l:List D),(∀d∈ds,Fl d)->(∀d∈l,Fl d)->l.Pairwise leK->(ds.foldl (λl d=>insA d l) l).Pairwise leK
 | [],l,_,_,h=>h
 | d::ds,l,hd,b,h=>by
  refine qG ds (insA d l) (λe a=>hd e (ay _ a)) (λe a=>?_) (qH (hd d av) b h);rcases cp.mp ((mM d l).mem_iff.mp a)with rfl|a
  ·exact hd _ av
  ·exact b e a
theorem fC {ds:List D}(h:∀d∈ds,Fl d):(eV ds).Pairwise leK:=qG ds [] h (λ_ h=>by cases h) .nil
theorem FU {ds es:List D}(h:∀d∈ds,Fl d)(p:es.Perm ds)(s:es.Pairwise leK):es=eV ds :=
 kA (λd hd=>h d (p.mem_iff.mp hd)) (p.trans (bR ds).symm) s (fC h)
theorem xT:∀{ds:List D} {d:D},d∈ds->nds d<=ndss ds
 | e::ds,d,h=>by
  rw[ndss];obtain rfl|h:=cp.mp h
  ·omega
  ·have:=xT h;omega
theorem JN (n z:Str)(d:D):ndss (opn1 n z d)<=nds d:=by
 unfold opn1;split
 ·split
  ·rw[nds];omega
  ·rw[ndss,ndss];omega
 ·split
  ·rw[ndss];omega
  ·rw[ndss,ndss];omega
theorem xM (n z:Str):∀ds:List D,ndss (opn n z ds)<=ndss ds
 | []=>ac _
 | d::ds=>by rw[cD,eU,ndss];have:=JN n z d;have:=xM n z ds;omega
def vB:Sp:=λvs H Q _=>∃(n z:Str) (a:Addr) (ds:List D) (ws:List V),vs=[.str n,.str z,.ref a]/\H a=some (.lst ws)/\Reps H ds ws/\Fls ds/\szs ds<=60/\ndss ds<=1000/\depDs ds<=100 /\
 ∀(b:V) (H':Hp),aD H H'->aT H' (one n z (eV (opn n z ds))) b->Q b H'
def T5 (a l:Addr)(n z:Str)(ds:List D)(H:Hp)(i:Nat)(σ:St)(b:Hp):Prop:=∃(us:List V) (o:Option V),σ=[some (.str n),some (.str z),some (.ref a),some (.ref l),o]/\b l=some (.lst us)/\aD H b/\Reps b (opn n z (ds.take i)) us
theorem CO {f:Addr}{R:FuncData}(F:fY K "flat_sum" "flat_sum" kH f R)(T:Txt mg)(v:d8 P w K mg base bH 1 "opened" vA)(j:d8 P w K mg base bH 2 "order_key" spKey):bN P w K mg base bH 5 f R uA vB:=by
 refine F.ok lH (λvs H Q E h=>?_) (λcdv A outer s H vs Q E hr h=>?_)
 ·obtain⟨n,z,a,ds,ws,rfl,_⟩:=h;rfl
 ·obtain⟨n,z,a,ds,ws,rfl,I,N,r,B,c,C,q⟩:=h;have hu:=hr.units;have hu2:_+160<cLine:=aj (bx (show 160<=16 * 4+200 by decide) _) (by rw[←Nat.add_assoc];exact hr.un)
  refine⟨_,(aC (aW (i:=3) lH.nd rfl (Or.inl rfl) (cQ aB))
   (aC (dG dc rfl (cP K rfl (pv 2)) (aZ (i:=4) lH.nd rfl (Or.inl rfl)) (aG (bD (aY (pR hu2) (pv 4) (pv 1) (nomark _)) (aG (cS (iU c4 PySem.F.slot_list_extend PySem.F.type_list_extend rP (pv 3) (aA (aN v (hr.mono (by decide)) pass0 rfl (aA (pv 0) (aA (pv 4) aB))) aB)))) aP)))
   (aC (bD (cM (aO K rfl (pv 3) (λ_=>rfl))) (aG (aM (pv 1))) aP)
   (aC (bD (aY (gJ hu) (aL bZ rfl T.n_len rfl (aA (pv 3) aB)) aF (nomark _)) (aG (aM (aS bB (pv 3) aF (λ_ _=>rfl)))) aP)
   (aG (aM (cR fX rfl T.n_tuple rfl (aA (bF bM (cQ (aA (pv 0) aB)) (CC j (hr.mono (by decide)) rfl T.n_sorted rfl (aA (pv 3) aB))) aB)))))))),?_⟩
  try dsimp only[cxOf,Cx.nox]
  simp only[nO];clear hr F T hu hu2 v j;have keep:=aI q (aI I (aI N (aI r (aI B (aI c C)))));clear q I N r B c C
  walk_at "rd"
  obtain⟨q,I,N,r,B,c,C⟩:=keep;refine⟨by decide,λl O=>⟨ws,.inl (by rw[aE (aH I O)];exact I),λJ hJ=>?_⟩⟩;have s1:aD H (upd H l (.lst [])):=aD.upd O;have h1:upd H l (.lst []) l=some (.lst []):=upd_same;generalize upd H l (.lst [])=H1 at s1 h1 hJ⊢;have g:∀i,(opn n z (ds.take i)).length<=60:=λi=>by have h1:=wT (opn n z (ds.take i));have L:=CH n z (ds.take i);have h3:=IB i ds;omega
  have lw:=Reps.len N;refine eW hJ (T5 a l n z ds H) ⟨[],none,rfl,h1,s1,rfl⟩ (by rintro i σ H' _ ⟨_,_,_,_,s2,_⟩;rw[s2 _ _ I,s1 _ _ I]) ?_ ?_
  ·rintro i x σ H2 hx ⟨us,o,rfl,L,s2,G⟩;obtain⟨d,hd,rx⟩:=Reps.get N hx;have R:=r.get hd;have dd:=iZ hd;have keep:=aI q (aI I (aI N (aI r (aI B (aI c (aI C (aI O (aI L (aI s2 (aI G (aI hd (aI rx (aI R (aI dd g))))))))))))));clear q I N r B c C O L s2 G hd rx R dd g s1 h1 hJ hx
   walk_at "rd"
   obtain⟨q,I,N,r,B,c,C,O,L,s2,G,hd,rx,R,dd,g⟩:=keep;refine⟨d,.str z,aT.same s2 rx,rfl,by omega,_,rfl,?_⟩;have U:=Reps.len G;have Y:=PR n z d R;cases W:eqD d (.str z)with
   | true =>
    rw[ab (by decide)];rw[W,ai rfl]at Y;exact⟨us,_,rfl,L,s2,by rw[bC hd,oM,Y,bi];exact G⟩
   | false =>
    rw[ai (by decide)];rw[W,ab (by decide)]at Y;refine⟨tyL L,n,d,x,rfl,aT.same s2 rx,R,λl2 vs2 H3 s3 hl2 h3 r3=>?_⟩;have l3:=s3 _ _ L;have lv:=Reps.len r3;have sm:=g (i+1);rw[bC hd,oM,aq,Y]at sm;have f2:Fls (opn n z (ds.take i)++opP n d):=by rw[←Y,←oM,←bC hd];exact sO (jP λe W=>dP r e (List.mem_of_mem_take W))
    refine⟨l,l2,us,vs2,rfl,rfl,l3,.inl h3,al (m:=100) (by omega) (by decide),us++vs2,_,rfl,upd_same,λb o hb=>by rw[aE (aH hb O)];exact s3 _ _ (s2 _ _ hb),?_⟩;rw[bC hd,oM,Y];exact Reps.tups (bV.lst l3) f2 (Reps.append (Reps.same s3 G) (Reps.same s3 r3))
  ·rintro σ H2 ⟨us,o,rfl,L,s2,G⟩;rw[lw,br]at G;have keep:=aI q (aI I (aI N (aI r (aI B (aI c (aI C (aI O (aI L (aI s2 (aI G g))))))))));clear q I N r B c C O L s2 G g s1 h1 hJ
   walk_at "rd"
   obtain⟨q,I,N,r,B,c,C,O,L,s2,G,g⟩:=keep;have X:=sO (n:=n) (z:=z) r;have U:=Reps.len G;have sm:=g ds.length;rw[br]at sm;have nn:=xM n z ds;refine⟨!us.isEmpty,.inl ⟨us,eK.of L,rfl⟩,?_⟩;generalize hos:opn n z ds=os at X U sm nn G q;clear hos
   match os,X,U,sm,nn,G,q with
   | [],X,U,sm,nn,G,q =>
    cases (show us=[]from G);rw[ai (by decide)];exact q _ _ s2 rfl
   | [d],X,U,sm,nn,⟨u,_,e,h,e'⟩,q =>
    subst e;cases (show _=[]from e');rw[ab (by simp),ai (by simp)];exact⟨u,atI_zero,q _ _ s2 h⟩
   | d::d2::S,X,U,sm,nn,G,q =>
    have l2:us.length=S.length+2:=by rw[U];rfl
    have ne:us≠[]:=λz=>by rw[z]at l2;simp at l2
    rw[ab (by cases us with|nil=>exact absurd rfl ne|cons a b=>simp),ab (by omega)];refine⟨by decide,λp hp=>?_⟩;have sp:aD H2 (upd H2 p (.lst [.str n])):=aD.upd hp;have hpp:upd H2 p (.lst [.str n]) p=some (.lst [.str n]):=upd_same;generalize upd H2 p (.lst [.str n])=H3 at sp hpp⊢;have all:∀e∈d::d2::S,Fl e:=dP X;refine⟨_,rfl,l,us,d::d2::S,rfl,sp _ _ L,Reps.same sp G,λe W=>⟨all e W,by have:=xT W;omega⟩,by simp,by simp only[ao]at sm⊢;omega,λl' Z es H4 s4 hl' h4 pm so re=>?_⟩;have ees:=FU all pm so;have ly:=Reps.len re;have le:=pm.length_eq;refine⟨.lst (.str n::Z),oX (s4 _ _ hpp) h4 (al (m:=100) (by simp only[ao,List.length_nil]at sm le⊢;omega) (by decide)),λp5 hp5=>⟨.str n::Z,.inl upd_same,λl6 H6 hc=>?_⟩⟩;rcases hc with⟨hc,_⟩|⟨_,hl6,rfl⟩
    ·cases hc
    ·have s6:aD H4 (upd (upd H4 p5 (.lst (.str n::Z))) l6 (.tup (.str n::Z))):=(aD.upd hp5).trans (aD.upd hl6);refine q _ _ ((s2.trans (sp.trans s4)).trans s6) ?_;rw[JP (by rw[(bR _).length_eq];simp),←ees];exact⟨l6,_,rfl,upd_same,.str n,Z,rfl,rfl,Reps.same (s4.trans s6) re⟩
def iO (K:PySem.W.Frag)(C:Addr):Sp:=λvs H Q _=>∃(g:Addr) (fx:cW) (sm:bE) (n:Str) (a:Addr) (ds:List D) (ws:List V),vs=[.ref g,.str n,.ref a]/\fN K C fx sm H g/\H a=some (.lst ws)/\Reps H ds ws/\Fls ds/\szs ds<=60/\ndss ds<=1000/\depDs ds<=100 /\
 ∀(b:V) (H':Hp),aD H H'->aT H' (knot sm n ds) b->Q b H'
theorem CM {f C:Addr}{O:FuncData}(F:fY K "flat_of_parts" "flat_of_parts" fJ f O)(T:Txt mg)(c:yV P w K mg base bH 1 C "nought" (iR K C))(b:d8 P w K mg base bH 5 "flat_sum" vB):bN P w K mg base bH 6 f O lA (iO K C):=by
 refine F.ok jY (λvs H Q E h=>?_) (λY A outer s H vs Q E u h=>?_)
 ·obtain⟨g,N,sm,n,a,ds,ws,rfl,_⟩:=h;rfl
 ·obtain⟨g,N,sm,n,a,ds,ws,rfl,sg,r,o,j,e,d,l,q⟩:=h;have S:=u.units
  refine⟨_,(aC (aW (i:=3) jY.nd rfl (Or.inl rfl) (m9 c (u.mono (by decide)) pass0 (pv 0) (aA (pv 1) aB)))
   (aC (bD (aY pO (pv 3) dE (nomark _)) (aG (aM (cR fX rfl T.n_tuple rfl (aA (bF bM (cQ (aA (pv 1) aB)) (pv 2)) aB)))) aP)
   (aG (aM (aN b (u.mono (by decide)) pass0 rfl (aA (pv 1) (aA (pv 3) (aA (pv 2) aB)))))))),?_⟩
  try dsimp only[cxOf,Cx.nox]
  simp only[iG];clear u F T S c b;have keep:=aI q (aI r (aI o (aI j (aI e (aI d (aI l sg))))));clear q r o j e d l sg
  walk_at "rd"
  obtain⟨q,r,o,j,e,d,l,sg⟩:=keep;obtain⟨X,fs,_,_,W,_,U,_⟩:=sg.ex;refine⟨_,rfl,g,X,fs,rfl,W,U,_,rfl,g,n,N,sm,rfl,sg,?_⟩;unfold knot at q;cases hz:zr sm n with
  | none =>
   have G:nulV sm n = .non:=by unfold nulV;rw[hz];rfl
   rw[hz]at q;rw[G,ai rfl];have Z:=Reps.len o;have:=wT ds;refine⟨by decide,λp L=>⟨.lst (.str n::ws),oX upd_same (by rw[aE (aH r L)];exact r) (al (m:=100) (by simp;omega) (by decide)),λR v=>⟨.str n::ws,.inl upd_same,λJ H6 B=>?_⟩⟩⟩;rcases B with⟨B,_⟩|⟨_,x,rfl⟩
   ·cases B
   ·have I:aD H (upd (upd (upd H p (.lst [.str n])) R (.lst (.str n::ws))) J (.tup (.str n::ws))):=((aD.upd L).trans (aD.upd v)).trans (aD.upd x);exact q _ _ I ⟨J,_,rfl,upd_same,.str n,ws,rfl,rfl,Reps.same I o⟩
  | some z =>
   have G:nulV sm n = .str z:=by unfold nulV;rw[hz];rfl
   rw[hz]at q;rw[G,ab (by simp)];exact⟨n,z,a,ds,ws,rfl,r,o,j,e,d,l,q⟩
end
end Lw
namespace L2
open PySem PySem.Spec PyProof.Rows
theorem D8 {X:Cx}(K:PySem.W.Frag)(h:X.K=K){o:Expr}{f:TE}{name:Str}{b a:Pos}{T id:String}{r:V->List V->Hp->VK->Prop}(pa:PlainAttrs T)(slot:Slot T name id)(e:typeOf (.builtin id)=pure (.type "method_descriptor"))(g:SF X id r)(ho:PE X o f)
  (d:attributeBase o name X.env (eval o X.env)=eval o X.env:=by rfl) (c:(b.endLine == a.line)=true:=by rfl):PE X (.Call (.Attribute o name b) [] [] a) (tBM0 K T r f):=by
 subst h;exact CF pa slot e g ho d c
noncomputable abbrev pinO (a:Addr)(o:Obj):HO:=.ext λh=>h.get? a=some o
theorem m8 {P:Program}{w:World}{H:Hp}{h:Heap}{a:Addr}{o:Obj}(e:h.get? a=some o):cB P w H h a (pinO a o):=⟨e,⟨o,e⟩,λc b q k=>k o q⟩
theorem hV {P:Program}{w:World}{H:Hp}{h:Heap}{a:Addr}{o:Obj}(ok:gQ P w H h)(e:H a=some (pinO a o)):h.get? a=some o:=(ok a _ e).1
noncomputable def del1 (H:Hp)(p:Addr):Hp:=λb=>if b=p then none else H b
theorem K7 {H:Hp}{p b:Addr}{o:HO}(h:del1 H p b=some o):H b=some o/\b≠p:=by
 unfold del1 at h;by_cases e:b=p
 ·rw[ai e]at h;cases h
 ·rw[ab e]at h;exact⟨h,e⟩
theorem dH {H:Hp}{p b:Addr}(h:H b=none):del1 H p b=none:=by
 unfold del1;split
 ·rfl
 ·exact h
theorem cG {H:Hp}{p b:Addr}(h:b≠p):del1 H p b=H b:=by unfold del1;rw[ab h]
theorem fW {H:Hp}{p:Addr}:del1 H p p=none:=by unfold del1;rw[ai rfl]
theorem gQ.del {P:Program}{w:World}{H:Hp}{h:Heap}{c:Addr}{φ:Heap->Prop}(ok:gQ P w H h)(e:H c=some (.ext φ)):gQ P w (del1 H c) h:=λa o q=>by obtain⟨d,f⟩:=K7 q;exact(ok a o d).stay (λ_ _ _ z=>z) (λb z=>by rw[cG (λw=>by rw[w,e]at z;cases z)];exact z) (λb xs z=>by rw[cG (λw=>by rw[w,e]at z;cases z)];exact z)
theorem gQ.back {P:Program}{w:World}{H:Hp}{h:Heap}{c:Addr}{o:Obj}(ok:gQ P w H h)(n:H c=none)(e:h.get? c=some o):gQ P w (upd H c (pinO c o)) h:=λa u q=>by
 by_cases z:a=c
 ·subst z;rw[upd_same]at q;cases q;exact m8 e
 ·rw[aE z]at q;exact(ok a u q).stay (λ_ _ _ z=>z) (λb z=>by rw[aE (aH z n)];exact z) (λb xs z=>by rw[aE (aH z n)];exact z)
end L2
namespace Lw
open PySem PySem.Spec PyProof.Rows L2
noncomputable def lamOf (s:Stmt):Expr:=match cH s with
 | [.Return (some (.Call _ [_,_,e] _ _)) _]=>e
 | _=>.Name "" ⟨0,0,0,0⟩
noncomputable def KH (e:Expr):Arguments:=match e with
 | .Lambda a _ _ _=>a
 | _=>default
noncomputable def KI (e:Expr):Expr:=match e with
 | .Lambda _ b _ _=>b
 | e=>e
noncomputable def lamSc (e:Expr):Scope:=match e with
 | .Lambda _ _ s _=>s
 | _=>default
noncomputable abbrev pL:Arguments:=KH (lamOf cX)
noncomputable abbrev bL:Expr:=KI (lamOf cX)
noncomputable abbrev scL:Scope:=lamSc (lamOf cX)
noncomputable def qL:Str:="put_in.<locals>.<lambda>"
noncomputable abbrev oL (c0 c':Addr)(pm ctv:Value):Obj:=PySem.W.kla_obj "<lambda>" qL pL bL scL [("signs",c0)] pm c' ctv
noncomputable abbrev envL (L fl c0 c':Addr):Env:=newEnv scL L mainGlobals [("signs",c0)] (qL++".<locals>.") (some fl) (.ref c') none builtinsNs
noncomputable def cxL (P:Program)(w:World)(K:PySem.W.Frag)(mg:iH)(base:Heap)(A:Around)(outer:List Env)(s:Shared)(H:Hp)(fl a b:Addr):Cx where
 prog:=P
 w:=w
 K:=K
 mg:=mg
 base:=base
 A:=A.deeper (envL s.heap.objs.size fl a b)
 N:=["name","parts","signs"]
 s₀:=s
 H₀:=H
 env:=envL s.heap.objs.size fl a b
 outer:=outer
 stack:=envL s.heap.objs.size fl a b::outer
 ex:=[]
 fn:=λ_=>false
 calm:=true
 pn:=[]
 xe:=λ_ _=>False
theorem DB {x:Str}(h:scL.names.lookup x=some .cell∨scL.names.lookup x=some .free):x="signs":=by
 have all:∀y∈scL.names,(y.2 = .cell∨y.2 = .free)->y.1=("signs" : Str):=by decide +kernel
 rcases h with h|h
 ·exact all _ (PySem.mem_of_lookup h) (.inl rfl)
 ·exact all _ (PySem.mem_of_lookup h) (.inr rfl)
section
variable {P:Program}{w:World}{K:PySem.W.Frag}{mg:iH}{base:Heap}
theorem NG {A:Around}{outer:List Env}{s:Shared}{H:Hp}{g fl d E a C:Addr}{pm Y S R:Value}{f L:Obj}{G:gN}{tq:Tok}{n:Str}{k:Nat}{Q:VK}(hr:d5 (k+1) A)(j:uI P w K mg base A outer s H)
  (hfl:H fl=some (pinO fl (oL d E pm Y))) (m:H d=some (pinO d f)) (X:f.data = .cell (some (.ref g))) (hc':H E=some (pinO E L)) (hcd:L.data = .fields G) (hq:G[1]?=some (.str qL tq))
  (O:d8 P w K mg base bH k "flat_of_parts" (iO K C)) (r1:aU (.str n) S) (r2:aU (.ref a) R) (sp:iO K C [.ref g,.str n,.ref a] (del1 H d) (λv H'=>H' d=none->Q v (upd H' d (pinO d f))) E0) :
  codeAny (model P w) A (.call (.ref fl) ⟨[S,R],[]⟩) (CR bH outer P w H s Q E0) s:=by
 have gfl:=hV j.hok hfl;have g0:=hV j.hok m;have g':=hV j.hok hc';have lim:s.heap.NoLimit:=j.mod.nolimit.keeps λb o e=>(j.bs b o e).1;refine PySem.W.kla_callFunE hr.depth gfl rfl rfl rfl rfl ⟨E,L,G,tq,rfl,g',hcd,hq⟩ ?_;rw[show bindArgs (PySem.W.kla_fn "<lambda>" qL pL bL scL [("signs",d)] pm (.ref E) Y) ⟨[S,R],[]⟩=pure [(("name" : Str),S),(("parts" : Str),R)]from rfl];have nc:∀x∈scL.names,x.2≠.cell:=by decide +kernel
 have nl:∀x∈[(("name" : Str),S),(("parts" : Str),R)],scL.names.lookup x.1=some .local:=by
  intro x l;obtain rfl|l:=cp.mp l
  ·rfl
  ·rw[cm.mp l];rfl
 refine ak (wpAny_newFunctionEnv nc nl (λh' hns U=>⟨lim.fresh _ U,?_⟩) rfl);have Z:∀b o,s.heap.get? b=some o->h'.get? b=some o:=λb o e=>U.extBut b o (bj (az e)) (af _ e);have T:=j.hok.del m;have nfr:d∉frs outer:=λz=>by have:=j.frf d z;rw[m]at this;cases this
 have I:aQ (cxL P w K mg base A outer s (del1 H d) fl d E) [] [some (.str n),some (.ref a),some (.ref g)] (del1 H d) {s with heap:=h',toks:=s.toks+2}:=by
  have N:∀b:Addr,b∉(cxL P w K mg base A outer s (del1 H d) fl d E).ex:=λb z=>absurd (show b∈([]:List Addr)from z) (by simp);have one:∀x c,(cxL P w K mg base A outer s (del1 H d) fl d E).env.cells.lookup x=some c->x=("signs" : Str)/\c=d:=λx c e=>by have e':[(("signs" : Str),d)].lookup x=some c:=e;have:=PySem.mem_of_lookup e';rw[cm]at this;cases this;exact⟨rfl,rfl⟩
  refine⟨⟨j.mod,rfl,rfl,rfl,ac _,λx y c r B=>?_,λx l=>?_,λx c h=>absurd h (by simp[cxL]),λ_=>hr.hd,Around.frames_deeper j.frames,.inr ⟨rfl,rfl⟩,λb z=>absurd z (N b),λb o e=>⟨(j.bs b o e).1,dH (j.bs b o e).2⟩,j.bsz,λb _ _=>N b,λb z=>absurd z (N b),j.funs,λb z=>dH (j.frf b z)⟩,
   rfl,j.bare,Un.kept Z,⟨_,hns,λi x v r B h3=>?_⟩,λx c h=>?_,T.fresh (ac _),λx c h=>?_,λp hp=>absurd (show p∈([]:c9)from hp) (by simp),T.kept Z,rfl⟩
  ·rw[(one x c r).1,(one y c B).1]
  ·rw[DB l];exact⟨d,rfl⟩
  ·match i,r,B with
   | 0,r,B=>cases r;cases B;exact⟨S,r1,.inl ⟨rfl,rfl⟩⟩
   | 1,r,B=>cases r;cases B;exact⟨R,r2,.inl ⟨rfl,rfl⟩⟩
   | 2,r,B=>cases r;cases B;exact⟨.ref g,rfl,.inr ⟨.inr rfl,d,rfl,f,Z _ _ g0,X⟩⟩
   | i+3,r,B=>cases r
  ·rw[(one x c h).2];exact⟨_,f,Z _ _ g0,X⟩
  ·rw[(one x c h).2];exact fW
 have pb:PE (cxL P w K mg base A outer s (del1 H d) fl d E) bL (tCall (iO K C) [] E0 (tCons (tVar 2) (tCons (tVar 0) (tCons (tVar 1) tNil)))):=aN O (hr.deeper _) pass0 rfl (aA (pv 2) (aA (pv 0) (aA (pv 1) aB)));refine PySem.W.kla_codeExpr (wpAny_mono (pb [] _ _ _ (λv H'=>H' d=none->Q v (upd H' d (pinO d f))) I ⟨_,rfl,_,rfl,_,rfl,sp⟩) (λu s' ⟨v,H',J,rv,q⟩=>?_) λ_ _ z=>z.elim);have un:Un (frs outer) [] (del1 H d) H' s.heap s'.heap:=J.base;have gs:=un.keep d f g0 fW nfr (by simp);have nn:=un.free d f g0 fW (by simp);refine⟨v,upd H' d (pinO d f),J.os,J.bare,?_,J.hok.back nn gs,rv,q nn⟩;have ne:∀b u,H b=some u->(∀φ,u≠.ext φ)->b≠d:=λb u e z w=>by rw[w,m]at e;cases e;exact z _ rfl
 refine⟨λb o e z hb l=>un.keep b o e (dH z) hb l,λb o e z hb l=>un.slot b o e (dH z) hb l,λb o e z l=>?_,λb o e l=>un.there b o e l,λb xs e=>?_,λb o u' e=>?_,λb ps e=>?_⟩
 ·rw[aE (λw=>by rw[w,m]at z;cases z)];exact un.free b o e (dH z) l
 ·have F:=ne b _ e (λφ=>by simp);rw[aE F];exact un.tups b xs (by rw[cG F];exact e)
 ·have F:=ne b _ e (λφ=>by simp);rw[aE F];exact un.frzs b o u' (by rw[cG F];exact e)
 ·have F:=ne b _ e (λφ=>by simp);rw[aE F];exact un.tbls b ps (by rw[cG F];exact e)
end
def BN (H:Hp)(fl a g:Addr):Prop:=∃(b:Addr) (pm ctv:Value) (oc0 oc':Obj) (vsc:gN) (tq:Tok),H fl=some (pinO fl (oL a b pm ctv))/\H a=some (pinO a oc0)/\oc0.data = .cell (some (.ref g))/\H b=some (pinO b oc')/\oc'.data = .fields vsc/\vsc[1]?=some (.str qL tq)
theorem BN.same {H H':Hp}{fl e g:Addr}(h:BN H fl e g)(s:aD H H'):BN H' fl e g:=by obtain⟨r,i,d,b,c,a,f,q,o,m,l,j⟩:=h;exact⟨r,i,d,b,c,a,f,s _ _ q,s _ _ o,m,s _ _ l,j⟩
mutual
theorem aT.del1 {H:Hp}{c:Addr}{φ:Heap->Prop}(e:H c=some (.ext φ)):∀{d:D} {v:V},aT H d v->aT (L2.del1 H c) d v
 | .non,v,h | .bl _,v,h | .int _,v,h | .str _,v,h=>h
 | .tup ds,v,⟨a,vs,g,b,f⟩=>⟨a,vs,g,by rw[cG (λz=>by rw[z,e]at b;cases b)];exact b,Reps.del1 e f⟩
 | .lst ds,v,⟨a,vs,g,b,f⟩=>⟨a,vs,g,by rw[cG (λz=>by rw[z,e]at b;cases b)];exact b,Reps.del1 e f⟩
theorem Reps.del1 {H:Hp}{c:Addr}{φ:Heap->Prop}(e:H c=some (.ext φ)):∀{ds:List D} {vs:List V},Reps H ds vs->Reps (L2.del1 H c) ds vs
 | [],vs,h=>h
 | d::ds,vs,⟨v,r,f,b,a⟩=>⟨v,r,f,aT.del1 e b,Reps.del1 e a⟩
end
theorem fN.del1 {K:PySem.W.Frag}{C:Addr}{j:cW}{sm:bE}{H:Hp}{g c:Addr}{φ:Heap->Prop}(e:H c=some (.ext φ))(h:fN K C j sm H g):fN K C j sm (L2.del1 H c) g:=by obtain⟨a,b,n,r,fs,s,dn,i,q,o,m,l,f,d⟩:=h;exact⟨a,b,n,r,fs,s,dn,by rw[cG (λz=>by rw[z,e]at i;cases i)];exact i,q,o,m,l,by rw[cG (λz=>by rw[z,e]at f;cases f)];exact f,by rw[cG (λz=>by rw[z,e]at d;cases d)];exact d⟩
def tLam (K:PySem.W.Frag)(C:Addr)(i:Nat)(t:TA):TE:=λσ H Q=>∃fl,σ[i]?=some (some (.ref fl))/\t σ H λvs b=>∃(d g:Addr) (fx:cW) (sm:bE) (n:Str) (a:Addr) (ds:List D) (ws:List V),vs=[.str n,.ref a]/\BN b fl d g /\
 fN K C fx sm b g/\b a=some (.lst ws)/\Reps b ds ws/\Fls ds/\szs ds<=60/\ndss ds<=1000/\depDs ds<=100/\∀(c:V) (H':Hp),aD b H'->aT H' (knot sm n ds) c->Q c H'
theorem CD {X:Cx}{C:Addr}{k i:Nat}{E m:Expr}{t:TA}{p d:Pos}(hN:X.N[i]?=some ("whole" : Str))(hv:RA X.env.scope "whole")(O:d8 X.prog X.w X.K X.mg X.base bH k "flat_of_parts" (iO X.K C))(hr:d5 (k+1) X.A)(ha:PA X [E,m] t)
  (he:starEach [E,m] X.env=(false,eval E X.env)::starEach [m] X.env:=by rfl) (J:(backTo d (starEach [m] X.env)).any (·.1)=false:=by rfl):PE X (.Call (.Name "whole" p) [E,m] [] d) (tLam X.K C i t):=by
 intro j s σ H Q I h;obtain⟨fl,L,h⟩:=h;have pw:PE X (.Name "whole" p) (tVar i):=xJ hN hv;refine wpAny_Call_Name_kw (thn (pw j s σ H (λx H'=>x = .ref fl/\H'=H) I ⟨_,L,rfl,rfl⟩) λf s0 ⟨x,H0,I0,rx,e3,e4⟩=>?_);subst e3 e4;cases rx;have c:=ha d j s0 σ H0 _ I0 h;rw[he]at c⊢;refine PySem.W.callWith_of (P:=λh=>∃o fd,h.get? fl=some o/\o.data = .func fd) (by show((false || (backTo d (starEach [m] X.env)).any (·.1)) || false)=false;rw[J];rfl) (λh ⟨o,fd,z1,z2⟩=>⟨.frame,.inl rfl,?_⟩) (Calls.evalArgs_plain (thn c λus s1 ⟨vs,H1,Y,rv,q⟩=>?_))
 ·intro A' Q' E' s' kp q;unfold keeperOf;refine aa (wpAny_load (kp _ _ z1) ?_);rw[z2];exact ak q
 ·obtain⟨c0,g,fx,sm,n,a,ds,ws,rfl,la,sg,R,rd,S,G,l,U,q⟩:=q;obtain⟨c',pm,ctv,oc0,oc',vsc,tq,Z,v,l3,l4,l5,l6⟩:=la;obtain⟨u1,u2,rfl,r1,r2⟩:=aX.two rv;refine⟨⟨_,_,hV Y.hok Z,rfl⟩,?_⟩;refine wpAny_call (codeAny_mono (NG (Q:=Q) hr Y.env0 Z v l3 l4 l5 l6 O r1 r2 ⟨g,fx,sm,n,a,ds,ws,rfl,sg.del1 v,by rw[cG (λz=>by rw[z,v]at R;cases R)];exact R,Reps.del1 v rd,S,G,l,U,λv' H' F rp nn=>q v' _ (λb o e=>?_) (aT.same (aD.upd nn) rp)⟩) λr s' B=>?_)
  ·by_cases z:b=c0
   ·subst z;rw[v]at e;cases e;exact upd_same
   ·rw[aE z];exact F b o (by rw[cG z];exact e)
  ·cases r with
   | error e=>exact B.elim
   | ok T =>
    cases T with
    | ret u=>exact Y.after B
    | next=>exact B.elim
    | brk=>exact B.elim
    | cont=>exact B.elim
end Lw
namespace Lw
open PySem L2
section
variable {P:Program}{w:World}{K:PySem.W.Frag}{mg:iH}{base:Heap}
noncomputable def pts:D->List D
 | .tup (.str _::ds)=>ds
 | .lst (.str _::ds)=>ds
 | _=>[]
noncomputable def stk:List D->List D
 | []=>[]
 | x::S=>x::(stk S).drop (pts x).length
mutual
theorem wW:∀{d:D},Wk d->∀S:List D,stk (wlk d++S)=d::stk S
 | .str x,_,S=>by unfold wlk;show stk (.str x::S)=_;rw[stk];rfl
 | .tup (.str n::ds),h,S=>by
  unfold Wk at h;rw[wlk,List.cons_append,stk,lE h S];show _::(ds++stk S).drop ds.length=_;rw[List.drop_left]
 | .lst (.str n::ds),h,S=>by
  unfold Wk at h;rw[wlk,List.cons_append,stk,lE h S];show _::(ds++stk S).drop ds.length=_;rw[List.drop_left]
 | .non,h,_ | .bl _,h,_ | .int _,h,_ | .tup [],h,_ | .lst [],h,_ | .tup (.non::_),h,_ | .tup (.bl _::_),h,_ | .tup (.int _::_),h,_ | .tup (.tup _::_),h,_ | .tup (.lst _::_),h,_ | .lst (.non::_),h,_ | .lst (.bl _::_),h,_ | .lst (.int _::_),h,_ | .lst (.tup _::_),h,_ | .lst (.lst _::_),h,_=>by unfold Wk at h;exact absurd h id
theorem lE:∀{ds:List D},Wks ds->∀S:List D,stk (wlks ds++S)=ds++stk S
 | [],_,S=>rfl
 | d::ds,⟨a,b⟩,S=>by rw[wlks,ci,wW a,lE b];rfl
end
mutual
theorem pE:∀{d:D},Wk d->∀{pre S:List D} {x:D},wlk d=pre++x::S->∃rest,S=wlks (pts x)++rest
 | .str y,_,pre,S,x,e=>by
  unfold wlk at e;cases pre with
  | nil=>cases e;exact⟨[],rfl⟩
  | cons p pre=>have:=congrArg List.length e;simp at this
 | .tup (.str n::ds),h,pre,S,x,e=>by
  unfold Wk at h;rw[wlk]at e;cases pre with
  | nil=>cases e;exact⟨[],by simp[pts]⟩
  | cons p pre=>injection e with _ e;exact j8 h e
 | .lst (.str n::ds),h,pre,S,x,e=>by
  unfold Wk at h;rw[wlk]at e;cases pre with
  | nil=>cases e;exact⟨[],by simp[pts]⟩
  | cons p pre=>injection e with _ e;exact j8 h e
 | .non,h,_,_,_,_ | .bl _,h,_,_,_,_ | .int _,h,_,_,_,_ | .tup [],h,_,_,_,_ | .lst [],h,_,_,_,_ | .tup (.non::_),h,_,_,_,_ | .tup (.bl _::_),h,_,_,_,_ | .tup (.int _::_),h,_,_,_,_ | .tup (.tup _::_),h,_,_,_,_ | .tup (.lst _::_),h,_,_,_,_ | .lst (.non::_),h,_,_,_,_ | .lst (.bl _::_),h,_,_,_,_ | .lst (.int _::_),h,_,_,_,_ | .lst (.tup _::_),h,_,_,_,_ | .lst (.lst _::_),h,_,_,_,_=>by unfold Wk at h;exact absurd h id
theorem j8:∀{ds:List D},Wks ds->∀{pre S:List D} {x:D},wlks ds=pre++x::S->∃rest,S=wlks (pts x)++rest
 | [],_,pre,S,x,e=>by have:=congrArg List.length e;simp[wlks]at this
 | d::ds,⟨a,b⟩,pre,S,x,e=>by
  rw[wlks]at e;rcases List.append_eq_append_iff.mp e with⟨m,f,c⟩|⟨m,f,c⟩
  ·exact j8 b c
  ·cases m with
   | nil=>exact j8 b (pre:=[]) (by simpa using c.symm)
   | cons y m =>
    injection c with i h;subst i;obtain⟨rest,g⟩:=pE a f;exact⟨rest++wlks ds,by rw[h,g];show(wlks (pts x)++rest)++wlks ds=_;rw[ci]⟩
end
theorem wX:∀{S:List D} {y:D},y∈stk S->y∈S
 | x::S,y,h=>by
  rw[stk]at h;obtain rfl|h:=cp.mp h
  ·exact av
  ·exact ay _ (wX (List.mem_of_mem_drop h))
theorem wY:∀S:List D,(stk S).length<=S.length
 | []=>ac _
 | x::S=>by rw[stk,ao,ao,bu];have:=wY S;omega
theorem mN {l:List D}(h:Fls l):Fls l.reverse:=jP λd hd=>dP h d (List.mem_reverse.mp hd)
theorem oU {l:List D}(h:Fls l)(k:Nat):Fls (l.drop k):=jP λd hd=>dP h d (List.mem_of_mem_drop hd)
theorem AV {l:List D}(h:Fls l)(k:Nat):Fls (l.take k):=jP λd hd=>dP h d (List.mem_of_mem_take hd)
theorem G2 (sm:bE)(l:List D)(k:Nat):flts sm (l.drop k)=(flts sm l).drop k:=by rw[dZ,dZ,List.map_drop]
structure Sub (d x:D):Prop where
 tm:Tm x
 sz:sz x<=sz d
 nd:nds x<=nds d
 dp:depD x<=depD d
mutual
theorem nV:∀{d:D},Tm d->∀x∈wlk d,Sub d x
 | .str y,h,x,f=>by unfold wlk at f;rw[cm.mp f];exact⟨h,ac _,ac _,ac _⟩
 | .tup (.str n::ds),h,x,f=>by
  rw[wlk]at f;obtain rfl|f:=cp.mp f
  ·exact⟨h,ac _,ac _,ac _⟩
  ·unfold Tm at h;obtain⟨a,b,c,e⟩:=sA h.2 x f;exact⟨a,by rw[sz];omega,by rw[nds];omega,by rw[depD,depDs];omega⟩
 | .lst (.str n::ds),h,x,f=>by
  rw[wlk]at f;obtain rfl|f:=cp.mp f
  ·exact⟨h,ac _,ac _,ac _⟩
  ·unfold Tm at h;obtain⟨a,b,c,e⟩:=sA h.2 x f;exact⟨a,by rw[sz];omega,by rw[nds];omega,by rw[depD,depDs];omega⟩
 | .non,h,_,_ | .bl _,h,_,_ | .int _,h,_,_ | .tup [],h,_,_ | .lst [],h,_,_ | .tup (.non::_),h,_,_ | .tup (.bl _::_),h,_,_ | .tup (.int _::_),h,_,_ | .tup (.tup _::_),h,_,_ | .tup (.lst _::_),h,_,_ | .lst (.non::_),h,_,_ | .lst (.bl _::_),h,_,_ | .lst (.int _::_),h,_,_ | .lst (.tup _::_),h,_,_ | .lst (.lst _::_),h,_,_=>by unfold Tm at h;exact absurd h id
theorem sA:∀{ds:List D},Tms ds->∀x∈wlks ds,Tm x/\sz x<=szs ds/\nds x<=ndss ds/\depD x<=depDs ds
 | d::ds,⟨a,b⟩,x,c=>by
  rw[wlks]at c;obtain c|c:=cr.mp c
  ·obtain⟨e,h,g,f⟩:=nV a x c;exact⟨e,by rw[szs];omega,by rw[ndss];omega,by rw[depDs];omega⟩
  ·obtain⟨e,h,g,f⟩:=sA b x c;exact⟨e,by rw[szs];omega,by rw[ndss];omega,by rw[depDs];omega⟩
end
mutual
theorem m6:∀{d:D},Tm d->Wk d
 | .str x,h=>trivial
 | .tup (.str n::ds),h=>by unfold Wk;unfold Tm at h;exact lD h.2
 | .lst (.str n::ds),h=>by unfold Wk;unfold Tm at h;exact lD h.2
 | .non,h | .bl _,h | .int _,h | .tup [],h | .lst [],h | .tup (.non::_),h | .tup (.bl _::_),h | .tup (.int _::_),h | .tup (.tup _::_),h | .tup (.lst _::_),h | .lst (.non::_),h | .lst (.bl _::_),h | .lst (.int _::_),h | .lst (.tup _::_),h | .lst (.lst _::_),h=>by unfold Tm at h;exact absurd h id
theorem lD:∀{ds:List D},Tms ds->Wks ds
 | [],_=>trivial
 | _::_,⟨a,b⟩=>⟨m6 a,lD b⟩
end
theorem MR (n z:Str)(l:List D):nds (one n z l)<=1+ndss l:=by
 unfold one;split
 ·show nds (.str z)<=_;unfold nds;omega
 ·rw[ndss,ndss];omega
 ·rw[nds];omega
theorem GP {l m:List D}(p:l.Perm m):ndss l=ndss m:=by
 induction p with
 | nil=>rfl
 | cons x _ c=>rw[ndss,ndss,c]
 | swap x y l=>rw[ndss,ndss,ndss,ndss];omega
 | trans _ _ a b=>exact a.trans b
theorem AI (sm:bE)(n:Str)(ps:List D):nds (knot sm n ps)<=1+ndss ps:=by
 unfold knot;split
 ·rw[nds];omega
 ·rename_i z _;have a:=MR n z (eV (opn n z ps));rw[GP (bR _)]at a;have b:=xM n z ps;omega
mutual
theorem EZ (sm:bE):∀d:D,nds (flt sm d)<=nds d
 | .tup (.str n::ds)=>by rw[flt,nds];have:=AI sm n (flts sm ds);have:=oS sm ds;omega
 | .lst (.str n::ds)=>by rw[flt,nds];have:=AI sm n (flts sm ds);have:=oS sm ds;omega
 | .non | .bl _ | .int _ | .str _ | .tup [] | .lst [] | .tup (.non::_) | .tup (.bl _::_) | .tup (.int _::_) | .tup (.tup _::_) | .tup (.lst _::_) | .lst (.non::_) | .lst (.bl _::_) | .lst (.int _::_) | .lst (.tup _::_) | .lst (.lst _::_)=>by unfold flt;exact ac _
theorem oS (sm:bE):∀ds:List D,ndss (flts sm ds)<=ndss ds
 | []=>ac _
 | d::ds=>by rw[flts,ndss,ndss];have:=EZ sm d;have:=oS sm ds;omega
end
theorem NO (sm:bE){n:Str}{ds:List D}{x:D}(h:x = .tup (.str n::ds)∨x = .lst (.str n::ds)):flt sm x=knot sm n (flts sm ds)/\pts x=ds:=by rcases h with rfl|rfl <;> exact⟨by rw[flt],rfl⟩
def spFW (K:PySem.W.Frag)(C:Addr):Sp:=λvs H Q _=>∃(b fl c g:Addr) (fx:cW) (sm:bE) (d:D) (v:V),vs=[v,.ref b,.ref fl]/\H b=some (.dK [])/\BN H fl c g/\fN K C fx sm H g/\aT H d v/\Tm d/\(∀r∈sm,r.2=("" : Str)∨Fl (.str r.2))/\sz d<=60/\nds d<=1000/\depD d<=100 /\
 ∀(a:V) (H':Hp),aD H H'->aT H' (flt sm d) a->Q a H'
def T2 (v:V)(b fl m l:Addr)(sm:bE)(W:List D)(ws:List V)(H:Hp)(i:Nat)(σ:St)(a:Hp):Prop:=∃(us:List V) (o4 o5:Option V),σ=[some v,some (.ref b),some (.ref fl),some (.ref m),o4,o5]/\a m=some (.lst us)/\aD H a/\a l=some (.lst ws)/\Reps a (flts sm (stk (W.drop (W.length - i)))).reverse us
def T4 (m l p:Addr)(ws:List V)(o:HO)(fs:List D)(H:Hp)(j:Nat)(b:List V)(σ:St)(a:Hp):Prop:=∃(us:List V) (o0:Option V),σ=[o0,some (.ref m)]/\a m=some (.lst us)/\aD H a/\a l=some (.lst ws)/\a p=some o/\Reps a (fs.drop j).reverse us/\Reps a (fs.take j) b
theorem RK {f C:Addr}{fd:FuncData}(F:fY K "from_within" "from_within" dJ f fd)(T:Txt mg)(B:d8 P w K mg base bH 1 "walked" nX)(c:d8 P w K mg base bH 6 "flat_of_parts" (iO K C)):bN P w K mg base bH 8 f fd jT (spFW K C):=by
 refine F.ok cU (λvs H Q E h=>?_) (λcdv A outer s H vs Q E hr h=>?_)
 ·obtain⟨fi,fl,c0,g,fx,sm,d,v,rfl,_⟩:=h;rfl
 ·obtain⟨fi,fl,c0,g,fx,sm,d,v,rfl,hfi,la,sg,rep,tm,hz,s60,n1000,d50,q⟩:=h;have hu:=hr.units
  refine⟨_,(aC (aW (i:=3) cU.nd rfl (Or.inr rfl) (cQ aB))
   (aC (dG dc rfl (oJ K rfl rfl T.n_reversed (aA (aN B (hr.mono (by decide)) pass0 rfl (aA (pv 0) aB)) aB)) (aZ (i:=4) cU.nd rfl (Or.inl rfl)) (aG (bD (aO K rfl (aL aK rfl T.n_isinstance rfl (aA (pv 4) (aA (bG (v:=V.ty "str") rfl T.n_str rfl rfl) aB))) (λ_=>rfl)) (aG (cS (iU c4 db da dY (pv 3) (aA (zO (aj (bx (by decide) _) hu) (pv 1) (pv 4) (pv 4) ⟨rfl,rfl,rfl,rfl⟩) aB)))) (aC (jJ (i:=5) cU.nd rfl rfl rfl rfl (bW.by (N:=fG) (names:=(aJ dJ).names) (N':=["part","made"]) (src:=[none,some 3]) (by decide +kernel) rfl rfl) (cP K rfl (dC gT (pv 4) (bT aF) cF)) (λ_ _ _ _=>(aZ (i:=0) (show List.Nodup (["part","made"]:aV)by decide +kernel) rfl (Or.inl rfl))) (λ_ _ _ _=>dN) (λ_ _ _ _=>(D8 K rfl c4 PySem.F.slot_list_pop PySem.F.type_list_pop xU (pv 1))))
   (aG (cS (iU c4 db da dY (pv 3) (aA (CD (i:=2) rfl (Or.inl rfl) c (hr.mono (by decide)) (aA (aS bB (pv 4) aF (λ_ _=>rfl)) (aA (pv 5) aB))) aB))))))))
   (aG (aM (aS bB (pv 3) aF (λ_ _=>rfl)))))),?_⟩
  try dsimp only[cxOf,Cx.nox]
  clear hr F T hu B c;simp only[eL,dU];refine⟨show 0<=sizeLine by decide,λm hm=>?_⟩;change tSeq _ _ _ _ (upd H m (.lst []));have s1:aD H (upd H m (.lst [])):=aD.upd hm;have hm1:upd H m (.lst []) m=some (.lst []):=upd_same;generalize upd H m (.lst [])=H1 at s1 hm1⊢;refine⟨_,rfl,d,v,H,rfl,s1,rep,m6 tm,n1000,λl ws H2 s2 hl h2 rws=>⟨l,ws,rfl,h2,?_⟩⟩;have lw:=Reps.len rws;have lk:=nR d;have hml:m≠l:=λz=>by rw[z,hl]at hm1;cases hm1
  refine AS ws (T2 v fi fl m l sm (wlk d) ws H) ⟨[],none,none,rfl,s2 _ _ hm1,s1.trans s2,h2,by rw[Nat.sub_zero,List.drop_length];rfl⟩ (λi σ H3 _ ⟨_,_,_,_,_,_,h,_⟩=>h) ?_ ?_
  ·rintro i x σ H3 hi hx ⟨us,o4,o5,rfl,h3,s3,hl3,ru⟩;obtain⟨e,he,rx⟩:=Reps.get rws hx;rw[lw]at hi he;have hlt:(wlk d).length - 1 - i<(wlk d).length:=by omega
   have I:(wlk d).drop ((wlk d).length - (i+1))=e::(wlk d).drop ((wlk d).length - i):=by have e1:(wlk d)[(wlk d).length - 1 - i]=e:=(ck.mp he).2;rw[show(wlk d).length - (i+1)=(wlk d).length - 1 - i by omega,List.drop_eq_getElem_cons hlt,e1,show(wlk d).length - 1 - i+1=(wlk d).length - i by omega]
   have U:wlk d=(wlk d).take ((wlk d).length - (i+1))++e::(wlk d).drop ((wlk d).length - i):=by rw[←I,List.take_append_drop]
   obtain⟨rest,O⟩:=pE (m6 tm) U;have W:=nV tm e (bg he);have inS:∀y∈(wlk d).drop ((wlk d).length - i),y∈wlk d:=λy hy=>List.mem_of_mem_drop hy;have lS:((wlk d).drop ((wlk d).length - i)).length<=1000:=by rw[bu];omega
   generalize (wlk d).drop ((wlk d).length - i)=S at I U O inS lS ru;have X:Fls (flts sm (stk S)):=jP λy hy=>by rw[dZ]at hy;obtain⟨z,hz1,rfl⟩:=cs.mp hy;exact(nI hz (nV tm z (inS z (wX hz1))).tm).1
   have lu:=Reps.len ru;rw[List.length_reverse,dZ,ae]at lu;have ls:(stk S).length<=1000:=al (wY S) lS;rcases DU W.tm with⟨y,rfl,_⟩|⟨n,ds,hd,dne,tms⟩
   ·cases (show x = .str y from rx);refine⟨_,rfl,.str y,.ty "str",true,rfl,rfl,true,rfl,?_⟩;refine⟨_,rfl,tyL h3,_,rfl,fi,rfl,.inl ⟨_,.inl (s3 _ _ hfi)⟩,_,rfl,_,rfl,_,kX.k (k:=.inr y) (s3 _ _ hfi),m,us,.str y,rfl,rfl,h3,aj (m:=1000) (by omega) (by decide),us++[.str y],_,_,rfl,upd_same,λb o hb=>by rw[aE (aH hb hm)];exact s3 _ _ hb,by rw[aE hml.symm];exact hl3,?_⟩;rw[I,stk];show Reps _ (flts sm (.str y::(stk S).drop 0)).reverse _;rw[List.drop_zero,flts,List.reverse_cons];exact Reps.snoc (by unfold flt;rfl) (Reps.tups (bV.lst h3) (mN X) ru)
   ·obtain⟨va,G,rfl,hbb,hseq,lv⟩:∃va G,x = .ref va/\isV H3 (.ref va) (.ty "str")=some false/\cV H va (.str n::G)/\G.length=ds.length:=by
     rcases hd with rfl|rfl
     ·obtain⟨a,vs,rfl,ha,_,G,rfl,e1,r⟩:=rx;cases e1;exact⟨a,G,rfl,iX (s3 _ _ ha),.inr ha,Reps.len r⟩
     ·obtain⟨a,vs,rfl,ha,_,G,rfl,e1,r⟩:=rx;cases e1;exact⟨a,G,rfl,nG (s3 _ _ ha),.inl ha,Reps.len r⟩
    obtain⟨hfe,hpe⟩:=NO sm hd;rw[hpe]at O;have wds:Wks ds:=lD tms;have hst:stk S=ds++stk rest:=by rw[O,lE wds]
    have hfs:flts sm (stk S)=flts sm ds++flts sm (stk rest):=by rw[hst,dZ,ax,←dZ,←dZ]
    have lds:(flts sm ds).length=ds.length:=by rw[dZ,ae]
    have lfs:(flts sm (stk S)).length<=1000:=by rw[dZ,ae];exact ls
    refine⟨_,rfl,.ref va,.ty "str",false,rfl,hbb,false,rfl,?_⟩;refine⟨_,rfl,(1:Int),rfl,va,_,rfl,hseq.same s3,λ_ h=>by have:=h.1;simp[HT.sIx]at this,λp o hp ho=>?_⟩;rw[mP]at ho;refine⟨p,G,rfl,by rcases ho with⟨rfl,_⟩|⟨rfl,_⟩;exact .inl upd_same;exact .inr upd_same,λJ hJ=>?_⟩;have sp:aD H3 (upd H3 p o):=aD.upd hp;have hpo:upd H3 p o p=some o:=upd_same;have hmp:m≠p:=aH h3 hp;have hlp:l≠p:=aH hl3 hp;generalize upd H3 p o=H4 at sp hpo hJ⊢;refine dF hJ (T4 m l p ws o (flts sm (stk S)) H) ⟨us,none,rfl,sp _ _ h3,s3.trans sp,sp _ _ hl3,hpo,by rw[List.drop_zero];exact Reps.same sp ru,rfl⟩ (λj R σ H' _ ⟨_,_,_,_,_,_,h,_⟩=>by rw[h,hpo]) ?_ ?_
    ·rintro j y R σ H5 hy ⟨Y,o0,rfl,h5,s5,hl5,hp5,r5,L⟩;have hj:j<ds.length:=by have:=(ck.mp hy).1;omega
     have hj2:j<(flts sm (stk S)).length:=by rw[hfs,aq];omega
     rw[List.drop_eq_getElem_cons hj2,List.reverse_cons]at r5;obtain⟨us6,u,rfl,r6,ru6⟩:=iB r5;have la':=Reps.len L;rw[bq]at la';have fu:Fl (flts sm (stk S))[j]:=dP X _ (List.getElem_mem hj2);refine⟨_,rfl,tyL h5,m,_,u,rfl,rfl,h5,by simp,aj (m:=1000) (by omega) (by decide),?_⟩;rw[List.dropLast_concat];have tt:bV H5 (upd H5 m (.lst us6)):=bV.lst h5;refine⟨us6,_,rfl,upd_same,λb o hb=>by rw[aE (aH hb hm)];exact s5 _ _ hb,by rw[aE hml.symm];exact hl5,by rw[aE hmp.symm];exact hp5,Reps.tups tt (mN (oU X (j+1))) r6,?_⟩;rw[bC (aw hj2)];exact Reps.snoc (aT.tups tt fu ru6) (Reps.tups tt (AV X j) L)
    ·rintro R σ H5 ⟨Y,o0,rfl,h5,s5,hl5,hp5,r5,L⟩ p6 hp6;have e1:(flts sm (stk S)).take G.length=flts sm ds:=by rw[hfs,lv,←lds,List.take_left]
     rw[e1]at L;have s6:aD H5 (upd H5 p6 (.lst R)):=aD.upd hp6;have h66:upd H5 p6 (.lst R) p6=some (.lst R):=upd_same;have hmp6:m≠p6:=aH h5 hp6;generalize upd H5 p6 (.lst R)=H6 at s6 h66⊢;have Z:=s5.trans s6;have ix0:ixV H6 (.ref va) (.int 0)=some (.str n):=by
      rcases hseq.same Z with e|e
      ·rw[ixV_l e,atI_zero]
      ·rw[ixV_t e,atI_zero]
     have hsz:sz e=max 1 (szs ds):=by rcases hd with rfl|rfl <;> rw[sz]
     have hnd:nds e=1+ndss ds:=by rcases hd with rfl|rfl <;> rw[nds]
     have hdp:depD e=depDs ds+1:=by
      rcases hd with rfl|rfl
      ·rw[depD,depDs,show depD (.str n)=0 from rfl];omega
      ·rw[depD,depDs,show depD (.str n)=0 from rfl];omega
     have b1:=rR sm ds;have b2:=oS sm ds;have b3:=oT sm ds;have c1:=W.sz;have c2:=W.nd;have c3:=W.dp;refine⟨_,rfl,tyL (s6 _ _ h5),fl,rfl,_,rfl,.str n,ix0,_,rfl,c0,g,fx,sm,n,p6,flts sm ds,R,rfl,la.same Z,sg.same Z,h66,Reps.same s6 L,NN hz tms,by omega,by omega,by omega,λv' H7 s7 r7=>?_⟩;have h7:=s7 _ _ (s6 _ _ h5);have l5:=Reps.len r5;rw[List.length_reverse,bu]at l5;refine⟨m,Y,v',rfl,rfl,h7,aj (m:=1000) (by omega) (by decide),Y++[v'],_,_,rfl,upd_same,λb o hb=>by rw[aE (aH hb hm)];exact s7 _ _ (Z _ _ hb),by rw[aE hml.symm];exact s7 _ _ (s6 _ _ hl5),?_⟩;have tt:bV H7 (upd H7 m (.lst (Y++[v']))):=bV.lst h7;rw[I,stk,flts,List.reverse_cons,hpe,G2,hfe];rw[lv]at r5;have fe:=(nI hz W.tm).1;rw[hfe]at fe;exact Reps.snoc (aT.tups tt fe r7) (Reps.tups tt (mN (oU X ds.length)) (Reps.same (s6.trans s7) r5))
  ·rintro σ H3 ⟨us,o4,o5,rfl,h3,s3,hl3,ru⟩;rw[lw,Nat.sub_self,List.drop_zero]at ru;have e:=wW (m6 tm) [];rw[bi]at e;rw[e]at ru;obtain⟨u,r,rfl,r1,r2⟩:=ru;cases (show r=[]from r2);exact⟨_,rfl,u,by rw[ixV_l h3,atI_zero],q u H3 s3 r1⟩
end
end Lw
namespace L2
open PySem PySem.Spec PyProof.Rows PySem.W
theorem aQ.grow {X:Cx}{a:c9}{σ:L2.St}{H:Hp}{s:Shared}{P:Addr}{ps more:gN}{h':Heap}{t':Nat}(I:aQ X a σ H s)(i:H P=some (.tbl ps))(f:Heap.ExtBut P s.heap h')(l:h'.get? P=some (tabObj (ps++more))):aQ X a σ (upd H P (.tbl (ps++more))) {s with heap:=h',toks:=t'}:=by
 have g:∀b,H b=none->b≠P:=λb e z=>by rw[z,i]at e;cases e
 have d:∀b u,H b=some u->(∀j,u≠.tbl j)->b≠P:=λb u e z w=>by rw[w,i]at e;cases e;exact z _ rfl
 refine I.un ⟨λb o e n _ _=>f b o (g b n) e,λb o e n _ _=>⟨o.slots,f b o (g b n) e⟩,λb o e n _=>by rw[aE (g b n)];exact n,λb o e _=>?_,λb xs e=>?_,λb o u e=>?_,λb j e=>?_⟩ (λb u e=>?_)
 ·by_cases z:b=P
  ·subst z;exact⟨_,l⟩
  ·exact⟨o,f b o z e⟩
 ·rw[aE (d b _ e λ_=>by simp)];exact e
 ·rw[aE (d b _ e λ_=>by simp)];exact e
 ·by_cases z:b=P
  ·subst z;rw[i]at e;cases e;exact⟨more,upd_same⟩
  ·exact⟨#[],by rw[aE z,e];simp⟩
 ·by_cases z:b=P
  ·subst z;rw[upd_same]at e;cases e;exact l
  ·rw[aE z]at e;refine(I.hok b u e).stay (λc o h q=>f c o ?_ q) (λc q=>by rw[aE (d c _ q λ_=>by simp)];exact q) (λc xs q=>by rw[aE (d c _ q λ_=>by simp)];exact q);rcases h with rfl|h
   ·exact z
   ·exact d c _ h λ_=>by simp
end L2
namespace Lw
open PySem PySem.Spec PyProof.Rows PySem.W L2
noncomputable def KG (e:Expr):Pos:=match e with
 | .Lambda _ _ _ p=>p
 | _=>⟨0,0,0,0⟩
noncomputable abbrev xL:Pos:=KG (lamOf cX)
def LT (P:Addr)(H:Hp):Prop:=H P=some (.tbl #[])∨∃(a:Addr) (oc':Obj) (vsc:gN) (tq:Tok),H P=some (.tbl #[rawInt xL.line,rawInt xL.col,.ref a])/\H a=some (pinO a oc')/\oc'.data = .fields vsc/\vsc[1]?=some (.str qL tq)
theorem LT.same {P:Addr}{H H':Hp}(h:LT P H)(s:aD H H'):LT P H':=by
 rcases h with h|⟨g,b,a,c,f,e,d⟩
 ·exact .inl (s _ _ h)
 ·exact .inr ⟨g,b,a,c,s _ _ f,s _ _ e,d⟩
def Bm (mg:iH)(base:Heap):Prop:=∃a o,mg "__builtins__" = some (.ref a)/\a≠builtinsNs/\a≠mainGlobals/\base.get? a=some o/\o.cls = .type "module"/\o.dict=some builtinsNs/\o.data = .plain
def OZ (P a:Addr):TE:=λσ H Q=>LT P H/\∀(fl b:Addr) (pm ctv:Value) (oc':Obj) (vsc:gN) (tq:Tok) (H':Hp),dR P H H'->LT P H'->H' fl=some (pinO fl (oL a b pm ctv))->H' b=some (pinO b oc')->oc'.data = .fields vsc->vsc[1]?=some (.str qL tq)->H a=none->H' a=none->Q (.ref fl) H'
theorem JB {X:Cx}{c P i:Addr}(B:closureFor scL X.env=pure [(("signs" : Str),i)])(g:X.env.cells.lookup ("signs" : Str)=some i)(l:X.env.code = .ref c)(hq:X.env.qual++"<lambda>" = qL)(hC:∀h,X.K.In h->CodeHd h c P)(hB:Bm X.mg X.base):PE X (.Lambda pL bL scL xL) (OZ P i):=by
 intro r s σ H Q I h;obtain⟨lt,q⟩:=h;have hg:s.heap.Ns mainGlobals X.mg:=I.mod.glob.keeps I.bk;have R:∃ps,H P=some (.tbl ps):=by
  rcases lt with h|⟨_,_,_,_,h,_⟩
  ·exact⟨_,h⟩
  ·exact⟨_,h⟩
 obtain⟨ps,v⟩:=R;have F:s.heap.get? P=some (tabObj ps):=I.hok P _ v;have E:∀b o,X.base.get? b=some o->b≠P:=λb o e z=>by have:=(I.bs b o e).2;rw[z,v]at this;cases this
 have O:mainGlobals≠P:=by obtain⟨o,es,ep,e,_⟩:=I.mod.glob;exact E _ _ e
 have hb:s.heap.BuiltinsAt X.mg P:=by obtain⟨bm,o,b1,b2,b3,b4,b5,b6,b7⟩:=hB;exact⟨bm,o,b1,b2,b3,E _ _ b4,I.bk _ _ b4,b5,b6,b7⟩
 have n0:=I.freeC _ _ g;refine kla_eval rfl ?_;rw[hq];rcases lt with lt|⟨a,f,j,w,lt,l2,l3,l4⟩
 ·rw[v]at lt;cases lt;refine kla_makeFunction B I.ok.glob hg l (hC _ I.kIn) F trivial rfl O hb λa d h' tk hx m A x L=>?_;obtain⟨c2,f,j,w,e2,N,hd,hv⟩:=x;cases e2;have I1:aQ X r σ (upd H P (.tbl (#[] ++ #[rawInt xL.line,rawInt xL.col,.ref a]))) {s with heap:=h',toks:=tk}:=I.grow v hx L;have nP:P≠a:=λz=>by have:=az F;rw[z]at this;exact bI _ (bc this m)
  have nc':H a=none:=I.hok.fresh m;have fc:=I.fpOk (H':=upd H P (.tbl (#[] ++ #[rawInt xL.line,rawInt xL.col,.ref a]))) m (by rw[aE nP.symm];exact nc');have Y:=I1.adopt (o:=pinO a f) fc (m8 N);have Z:s.heap.objs.size<=h'.objs.size:=al m (Nat.le_of_lt A);have W:=Y.kept (t':=tk) λb o e=>af (oL i a ((X.mg "__name__").getD .none) d) e;have U:=Y.fpOk (ac h'.objs.size) (Y.hok.fresh (ac _));have T:(h'.push (oL i a ((X.mg "__name__").getD .none) d)).get? h'.objs.size=some (oL i a ((X.mg "__name__").getD .none) d):=ar _ rfl;have C:=W.adopt (o:=pinO h'.objs.size (oL i a ((X.mg "__name__").getD .none) d)) U (m8 T);have G:a≠h'.objs.size:=bj A;have J:P≠h'.objs.size:=λz=>by have:=az F;rw[z]at this;exact bI _ (bc this Z)
  have u:upd (upd (upd H P (.tbl (#[] ++ #[rawInt xL.line,rawInt xL.col,.ref a]))) a (pinO a f)) h'.objs.size (pinO h'.objs.size (oL i a ((X.mg "__name__").getD .none) d)) a=some (pinO a f):=by rw[aE G];exact upd_same
  have S:upd (upd (upd H P (.tbl (#[] ++ #[rawInt xL.line,rawInt xL.col,.ref a]))) a (pinO a f)) h'.objs.size (pinO h'.objs.size (oL i a ((X.mg "__name__").getD .none) d)) P=some (.tbl #[rawInt xL.line,rawInt xL.col,.ref a]):=by rw[aE J,aE nP,upd_same];rfl
  refine⟨.ref h'.objs.size,_,C,rfl,q _ a _ d f j w _ (λb o E e=>?_) (.inr ⟨a,f,j,w,S,u,hd,hv⟩) upd_same u hd hv n0 (C.freeC _ _ g)⟩;have lb:=I.hok.lt e;rw[aE (λz=>by rw[z]at lb;exact bI _ (bc lb Z)),aE (aH e nc'),aE E];exact e
 ·rw[v]at lt;cases lt;have am:codeAmong xL [rawInt xL.line,rawInt xL.col,.ref a]=some (.ref a):=by simp[codeAmong,rawInt]
  refine kla_makeFunctionHit (cv:=.ref a) B I.ok.glob hg l (hC _ I.kIn) F trivial am hb λd h' tk hk hsz=>?_;have W:aQ X r σ H {s with heap:=h'.push (oL i a ((X.mg "__name__").getD .none) d),toks:=tk}:=I.kept λb o e=>af _ (hk b o e);have nf:=I.hok.fresh hsz;have U:=I.fpOk hsz nf;have T:(h'.push (oL i a ((X.mg "__name__").getD .none) d)).get? h'.objs.size=some (oL i a ((X.mg "__name__").getD .none) d):=ar _ rfl;have C:=W.adopt (o:=pinO h'.objs.size (oL i a ((X.mg "__name__").getD .none) d)) U (m8 T);have sm:aD H (upd H h'.objs.size (pinO h'.objs.size (oL i a ((X.mg "__name__").getD .none) d))):=aD.upd nf;exact⟨.ref h'.objs.size,_,C,rfl,q _ a _ d f j w _ (λb o _ e=>sm b o e) (.inr ⟨a,f,j,w,sm _ _ v,sm _ _ l2,l3,l4⟩) upd_same (sm _ _ l2) l3 l4 n0 (C.freeC _ _ g)⟩
def tFWc (K:PySem.W.Frag)(C b:Addr)(t:TA):TE:=λσ H Q=>t σ H λvs c=>∃g,σ[0]?=some (some (.ref g))/\∀a:Obj,a.data = .cell (some (.ref g))->c b=none->spFW K C vs (upd c b (pinO b a)) (λv H'=>H' b=some (pinO b a)/\Q v (del1 H' b)) E0
theorem RI {X:Cx}{C i:Addr}{k:Nat}{e:Expr}{es:jW}{t:TA}{p G:Pos}(O:d8 X.prog X.w X.K X.mg X.base bH k "from_within" (spFW X.K C))(hr:d5 k X.A)(hg:Gl X "from_within")(hN:X.N[0]?=some ("signs" : Str))(l:X.env.scope.names.lookup ("signs" : Str)=some .cell)(d:X.env.cells.lookup ("signs" : Str)=some i)(hfn:X.fn "signs" = true)(ha:PA X (e::es) t)
  (he:starEach (e::es) X.env=(false,eval e X.env)::starEach es X.env:=by rfl) (hpl:(backTo G (starEach es X.env)).any (·.1)=false:=by rfl):PE X (.Call (.Name "from_within" p) (e::es) [] G) (tFWc X.K C i t):=by
 obtain⟨f,fd,ps,F,hm,hk,hb⟩:=O;intro R s σ H Q I h;refine wpAny_Call_Name_kw (oO I hg hm ?_ (by decide));refine PySem.W.callWith_K (h₀:=X.base) I.ok.mod.kin hk (thn (ha G R s σ H _ I h) λus P ⟨vs,H1,B,r,q⟩=>⟨B.kIn,?_⟩) he hpl;obtain⟨g,hσ,q⟩:=q;have n0:=B.freeC _ _ d;have j:=B.ok.cab _ _ hfn d;obtain⟨a,ho,hd⟩:∃a,P.heap.get? i=some a/\a.data = .cell (some (.ref g)):=by
  obtain⟨m,hns,hl⟩:=B.loc;obtain⟨u,ru,look⟩:=hl 0 _ _ hN hσ (.inr (.inl l));cases ru;rcases look with⟨z,_⟩|⟨_,c,hc,a,ho,hd⟩
  ·have z':X.env.scope.names.lookup ("signs" : Str)=some .local:=z;rw[l]at z';cases z'
  ·rw[d]at hc;cases hc;exact⟨a,ho,hd⟩
 have sp:=q a hd n0;have E:=B.env0;have nl:i≠X.env.locals:=λz=>by obtain⟨m,⟨o,es',ep,Z,e2,_⟩,_⟩:=B.loc;rw[←z,ho]at Z;cases Z;rw[hd]at e2;cases e2
 have S:∀b∈frs X.stack,b≠i:=λb hb z=>by
  rcases cp.mp (B.stkSub b hb)with w|w
  ·exact nl (z ▸ w)
  ·obtain⟨_,o,Z,_⟩:=B.ok.funs.mem w;exact bI _ (bc (az Z) (z ▸ j))
 have hl:(us++[]).length=ps.length:=by have:=F.len _ _ _ _ sp;rw[bi,←r.length];exact this
 have ne:∀b o,X.base.get? b=some o->b≠i:=λb o e z=>bI _ (bc (az (B.ok.bs b o e).1) (z ▸ j));have env:uI X.prog X.w X.K X.mg X.base X.A X.stack P (upd H1 i (pinO i a)):=⟨E.frames,E.mod,λb o e=>⟨(E.bs b o e).1,by rw[aE (ne b o e)];exact(E.bs b o e).2⟩,E.bsz,E.funs,λb z=>by rw[aE (S b z)];exact E.frf b z,E.hok.back n0 ho,E.bare⟩
 refine wpAny_call (codeAny_mono (F.run X.A X.stack P _ ⟨us,[]⟩ us vs _ E0 hr env (by have:=hb P us B.kIn hl;rw[bi]at this;exact this) r sp) λres s' T=>?_);cases res with
 | error x=>exact T.elim
 | ok fl' =>
  cases fl' with
  | ret u =>
   obtain⟨v,H',os,bare,un,hok,rv,U,qq⟩:=T;have g0:=hV hok U;have L:∀b u,H1 b=some u->b≠i:=λb u e=>aH e n0;have un2:Un (frs X.stack) [] H1 (del1 H' i) P.heap s'.heap:=by
    refine⟨λb o e n Y J=>?_,λb o e n Y J=>?_,λb o e n J=>?_,λb o e J=>un.there b o e J,λb xs e=>?_,λb o u' e=>?_,λb qs e=>?_⟩
    ·by_cases z:b=i
     ·subst z;rw[ho]at e;cases e;exact g0
     ·exact un.keep b o e (by rw[aE z];exact n) Y J
    ·exact un.slot b o e (by rw[aE (S b Y)];exact n) Y J
    ·by_cases z:b=i
     ·subst z;exact fW
     ·exact dH (un.free b o e (by rw[aE z];exact n) J)
    ·rw[cG (L b _ e)];exact un.tups b xs (by rw[aE (L b _ e)];exact e)
    ·rw[cG (L b _ e)];exact un.frzs b o u' (by rw[aE (L b _ e)];exact e)
    ·rw[cG (L b _ e)];exact un.tbls b qs (by rw[aE (L b _ e)];exact e)
   exact⟨v,_,B.call' (ch:=[]) os un2 (hok.del U) bare (λb z=>absurd z (by simp)),rv,qq⟩
  | next=>exact T.elim
  | brk=>exact T.elim
  | cont=>exact T.elim
end Lw
namespace Lw
open PySem L2
section
variable {P:Program}{w:World}{K:PySem.W.Frag}{mg:iH}{base:Heap}
theorem EW {x a:Str}{st:Stmt}{f:Addr}{m:Value}{od l:Option Addr}{osl:Array (Option Value)}{kV d j b ct:Value}{N ps:aV}{k:Nat}{e:Sp}(o:K.lookup f=some ⟨m,od,.func (PySem.W.fnOf x a (cT st) (cH st) (aJ st) .none kV d j l b ct),osl⟩)(i:PySem.W.codeIn K b a=true)(S:aR N ps (aJ st))(len:∀vs H Q E,e vs H Q E->vs.length=ps.length)
  (c:∀(A:Around) (outer:List Env) (s:Shared) (H:Hp) (vs:List V) (Q:VK) (E:XK),d5 k (A.deeper (PyProof.Rows.envOfC a (aJ st) s.heap.objs.size f b))->e vs H Q E ->
   ∃t,FH (cxOf bH P w K mg base N a (aJ st) f b A outer s H E).nox (cH st) t/\t {nx:=λ_ H'=>Q .non H',rt:=Q} (start N vs) H):bN P w K mg base bH (k+1) f (PySem.W.fnOf x a (cT st) (cH st) (aJ st) .none kV d j l b ct) ps e:=by
 refine OG o i S len λA outer s H vs Q E r g=>?_;obtain⟨t,h,q⟩:=c A outer s H vs Q E r g;exact⟨t,h.nox,q⟩
mutual
theorem aT.but {H H':Hp}{p:Addr}(b:dR p H H')(n1:∀xs,H p≠some (.tup xs))(n2:∀xs,H p≠some (.lst xs)):∀{d:D} {v:V},aT H d v->aT H' d v
 | .non,v,h | .bl _,v,h | .int _,v,h | .str _,v,h=>h
 | .tup ds,v,⟨a,vs,f,c,e⟩=>⟨a,vs,f,b a _ (λz=>n1 vs (z ▸ c)) c,Reps.but b n1 n2 e⟩
 | .lst ds,v,⟨a,vs,f,c,e⟩=>⟨a,vs,f,b a _ (λz=>n2 vs (z ▸ c)) c,Reps.but b n1 n2 e⟩
theorem Reps.but {H H':Hp}{p:Addr}(b:dR p H H')(n1:∀xs,H p≠some (.tup xs))(n2:∀xs,H p≠some (.lst xs)):∀{ds:List D} {vs:List V},Reps H ds vs->Reps H' ds vs
 | [],vs,h=>h
 | d::ds,vs,⟨v,r,e,c,a⟩=>⟨v,r,e,aT.but b n1 n2 c,Reps.but b n1 n2 a⟩
end
theorem LT.tbl {Pt:Addr}{H:Hp}(h:LT Pt H):∃ps,H Pt=some (.tbl ps):=by
 rcases h with h|⟨_,_,_,_,h,_⟩
 ·exact⟨_,h⟩
 ·exact⟨_,h⟩
theorem LT.rep {Pt:Addr}{H H':Hp}(h:LT Pt H)(b:dR Pt H H'){d:D}{v:V}(r:aT H d v):aT H' d v:=by obtain⟨ps,e⟩:=h.tbl;exact aT.but b (λxs z=>by rw[e]at z;cases z) (λxs z=>by rw[e]at z;cases z) r
theorem LT.ne {Pt:Addr}{H:Hp}(h:LT Pt H){a:Addr}{o:HO}(e:H a=some o)(n:∀ps,o≠.tbl ps):a≠Pt:=λz=>by obtain⟨ps,b⟩:=h.tbl;rw[z,b]at e;cases e;exact n _ rfl
theorem LT.sg {Pt C g:Addr}{e:cW}{sm:bE}{H H':Hp}(h:LT Pt H)(b:dR Pt H H')(s:fN K C e sm H g):fN K C e sm H' g:=by obtain⟨u,r,q,m,fs,o,dn,d,l,j,i,f,c,a⟩:=s;exact⟨u,r,q,m,fs,o,dn,b _ _ (h.ne d λ_=>by simp) d,l,j,i,f,b _ _ (h.ne c λ_=>by simp) c,b _ _ (h.ne a λ_=>by simp) a⟩
def w5 (K:PySem.W.Frag)(C Pt:Addr):Sp:=λvs H Q _=>∃(b g:Addr) (fx:cW) (sm:bE) (d:D) (v:V),vs=[.ref g,.ref b,v]/\H b=some (.dK [])/\fN K C fx sm H g/\aT H d v/\Tm d/\(∀r∈sm,r.2=("" : Str)∨Fl (.str r.2))/\sz d<=60/\nds d<=1000/\depD d<=100/\LT Pt H /\
 ∀(a:V) (H':Hp),dR Pt H H'->LT Pt H'->aT H' (flt sm d) a->Q a H'
theorem JU {f C c Pt:Addr}{oc:Value}{od X:Option Addr}{osl:Array (Option Value)}{kV x z ct:Value}(lk:K.lookup f=some ⟨oc,od,.func (PySem.W.fnOf "put_in" "put_in" (cT cX) (cH cX) (aJ cX) .none kV x z X (.ref c) ct),osl⟩)(j:PySem.W.codeIn K (.ref c) "put_in" = true)
  (hC:∀h,K.In h->PySem.W.CodeHd h c Pt) (hB:Bm mg base) (a:d8 P w K mg base bH 8 "from_within" (spFW K C)):bN P w K mg base bH 9 f (PySem.W.fnOf "put_in" "put_in" (cT cX) (cH cX) (aJ cX) .none kV x z X (.ref c) ct) tU (w5 K C Pt):=by
 refine EW lk j FY (λvs H Q E h=>?_) (λA outer s H vs Q E hr h=>?_)
 ·obtain⟨U,g,T,sm,d,v,rfl,_⟩:=h;rfl
 ·obtain⟨U,g,T,sm,d,v,rfl,u,sg,rep,tm,hz,F,i,O,lt,q⟩:=h;refine⟨_,(aG (aM (RI a (hr.mono (by decide)) rfl rfl rfl rfl rfl (aA (pv 2) (aA (pv 1) (aA (JB rfl rfl rfl rfl hC hB) aB)))))),?_⟩
  try dsimp only[cxOf,Cx.nox]
  refine⟨_,rfl,_,rfl,lt,λfl c' z R G B Z H' bt I J N j hv n0 r=>⟨g,rfl,λm L _=>?_⟩⟩;have l:aD H' (upd H' (s.heap.objs.size+1) (pinO (s.heap.objs.size+1) m)):=aD.upd r;refine⟨U,fl,s.heap.objs.size+1,g,T,sm,d,v,rfl,l _ _ (bt _ _ (lt.ne u λ_=>by simp) u),⟨c',z,R,m,G,B,Z,l _ _ J,upd_same,L,l _ _ N,j,hv⟩,(lt.sg bt sg).same l,aT.same l (lt.rep bt rep),tm,hz,F,i,O,λY H2 s2 r2=>⟨s2 _ _ upd_same,?_⟩⟩;have S:aD H' (del1 H2 (s.heap.objs.size+1)):=λb o e=>by rw[cG (aH e r)];exact s2 _ _ (l _ _ e)
  exact q Y _ (λb o nb e=>S _ _ (bt b o nb e)) (I.same S) (aT.del1 (s2 _ _ upd_same) r2)
structure yT (fx:cW)(sm:bE)(os:aV)(d:D):Prop where
 so:bX fx sm
 ho:∀x∈os,eC x
 tm:bA fx sm os d
 lv:lvs d<=60
 nd:nds d<=1000
 dp:depD d<=100
def DY (K:PySem.W.Frag)(C Pt:Addr):Sp:=λvs H Q _=>∃(g:Addr) (fx:cW) (sm:bE) (os:aV) (d:D) (v:V),vs=[.ref g,v]/\fN K C fx sm H g/\aT H d v/\yT fx sm os d/\LT Pt H /\
 ∀(a:V) (H':Hp),dR Pt H H'->LT Pt H'->aT H' (flt sm d) a->Q a H'
theorem J3 {f C Pt:Addr}{z:FuncData}(F:fY K "flat" "flat" xC f z)(T:Txt mg)(c:d8 P w K mg base bH 3 "check_term" (w8 K C))(i:d8 P w K mg base bH 9 "put_in" (w5 K C Pt)):bN P w K mg base bH 10 f z LH (DY K C Pt):=by
 refine F.ok L0 (λvs H Q E h=>?_) (λR A outer s H vs Q E j h=>?_)
 ·obtain⟨g,x,sm,os,d,v,rfl,_⟩:=h;rfl
 ·obtain⟨g,x,sm,os,d,v,rfl,sg,rep,tr,lt,q⟩:=h;have J:=j.units
  refine⟨_,(aC (cS (aN c (j.mono (by decide)) pass0 rfl (aA (pv 0) (aA (pv 1) aB))))
   (aG (aM (aN i (j.mono (by decide)) pass0 rfl (aA (pv 0) (@EA _ _ _ _ (aA (pv 1) aB))))))),?_⟩
  try dsimp only[cxOf,Cx.nox]
  simp only[DP];clear j F T J c i;have keep:=aI q (aI sg (aI rep (aI tr lt)));clear q sg rep tr lt
  walk_at "rd"
  obtain⟨q,sg,rep,tr,lt⟩:=keep;obtain⟨m,N⟩:=kY tr.so tr.ho tr.tm;have S:=tr.lv;have O:=tr.dp;refine⟨g,x,sm,os,d,v,rfl,sg,tr.so,tr.ho,rep,tr.tm,by omega,by omega,tr.nd,λU G L u=>?_⟩;have s2:=G.trans (aD.upd (o:=.dK []) u);exact⟨L,g,x,sm,d,v,rfl,upd_same,sg.same s2,aT.same s2 rep,m,eT tr.so,by omega,tr.nd,O,lt.same s2,λB H' b l r=>q B H' (λa o I e=>b a o I (s2 _ _ e)) l r⟩
def IK (K:PySem.W.Frag)(C Pt:Addr):Sp:=λvs H Q _=>∃(g:Addr) (fx:cW) (sm:bE) (os:aV) (d:D) (v:V),vs=[.ref g,v]/\fN K C fx sm H g/\aT H d v/\yT fx sm os d/\LT Pt H /\
 ∀(a:V) (H':Hp),dR Pt H H'->LT Pt H'->aT H' (kyD (flt sm d)) a->Q a H'
theorem OW {a:cW}{sm:bE}{os:aV}{d:D}(t:yT a sm os d):Fl (flt sm d):=(nI (eT t.so) (kY t.so t.ho t.tm).1).1
theorem M5 {f C Pt:Addr}{m:FuncData}(F:fY K "flat_key" "flat_key" kJ f m)(T:Txt mg)(c:d8 P w K mg base bH 10 "flat" (DY K C Pt))(a:d8 P w K mg base bH 2 "order_key" spKey):bN P w K mg base bH 11 f m uB (IK K C Pt):=by
 refine F.ok zI (λvs H Q E h=>?_) (λG A outer s H vs Q E i h=>?_)
 ·obtain⟨g,j,sm,os,d,v,rfl,_⟩:=h;rfl
 ·obtain⟨g,j,sm,os,d,v,rfl,sg,rep,tr,lt,q⟩:=h;refine⟨_,(aG (aM (aN a (i.mono (by decide)) pass0 rfl (aA (aN c (i.mono (by decide)) pass0 rfl (aA (pv 0) (aA (pv 1) aB))) aB)))),?_⟩
  try dsimp only[cxOf,Cx.nox]
  refine⟨_,rfl,_,rfl,g,j,sm,os,d,v,rfl,sg,rep,tr,lt,λr N I B r1=>?_⟩;refine⟨flt sm d,r,rfl,r1,OW tr,al (EZ sm d) tr.nd,λl J s2 L u=>?_⟩;exact q _ J (λb o x e=>s2 _ _ (I b o x e)) (B.same s2) (aT.same (λb o z=>(lM.mp z).2) u)
def spTwo (K:PySem.W.Frag)(C Pt:Addr)(R:bE->D->D->Bool):Sp:=λvs H Q _=>∃(g:Addr) (fx:cW) (sm:bE) (os:aV) (d e:D) (v u:V),vs=[.ref g,v,u]/\fN K C fx sm H g/\aT H d v/\aT H e u/\yT fx sm os d/\yT fx sm os e/\LT Pt H /\
 ∀(H':Hp),dR Pt H H'->LT Pt H'->Q (.bl (R sm d e)) H'
noncomputable def pK (sm:bE)(d e:D):Bool:=decide (key (flt sm d)=key (flt sm e))
theorem AZ:∀ks a:List M,eqDs (ks.map mD) (a.map mD)=decide (ks=a)
 | [],[]=>by simp[eqDs]
 | [],_::_=>by simp[eqDs]
 | _::_,[]=>by simp[eqDs]
 | m::ks,b::a=>by rw[ba,ba,eqDs,AY,AZ ks a,bS];simp
theorem NT (ks:List M):depDs (ks.map mD)<=1:=by
 induction ks with
 | nil=>exact au _
 | cons m ks a =>
  rw[ba,depDs];have:depD (mD m)=1:=rfl;omega
theorem J6 {f C Pt:Addr}{l:FuncData}(F:fY K "alike" "alike" rK f l)(T:Txt mg)(a:d8 P w K mg base bH 11 "flat_key" (IK K C Pt)):bN P w K mg base bH 12 f l FF (spTwo K C Pt pK):=by
 refine F.ok IP (λvs H Q E h=>?_) (λJ A outer s H vs Q E b h=>?_)
 ·obtain⟨g,c,sm,os,d,e,v,u,rfl,_⟩:=h;rfl
 ·obtain⟨g,c,sm,os,d,e,v,u,rfl,sg,x,r,o,m,lt,q⟩:=h;have G:=b.units;refine⟨_,(aG (aM (gH (gJ G) (aN a (b.mono (by decide)) pass0 rfl (aA (pv 0) (aA (pv 1) aB))) (aN a (b.mono (by decide)) pass0 rfl (aA (pv 0) (aA (pv 2) aB))) (nomark _)))),?_⟩
  try dsimp only[cxOf,Cx.nox]
  refine⟨_,rfl,_,rfl,g,c,sm,os,d,v,rfl,sg,x,o,lt,λO R i j r1=>?_⟩;refine⟨_,rfl,_,rfl,g,c,sm,os,e,u,rfl,lt.sg i sg,lt.rep i r,m,j,λN L b2 B z=>?_⟩;refine⟨kyD (flt sm d),kyD (flt sm e),j.rep b2 r1,z,?_,?_⟩
  ·unfold kyD;rw[depD];have:=NT (key (flt sm d));omega
  ·have I:eqD (kyD (flt sm d)) (kyD (flt sm e))=pK sm d e:=by unfold kyD pK;rw[eqD,AZ]
   rw[I];exact q L (i.trans b2) B
def lG:Sp:=λvs H Q _=>∃(p a:Addr) (fx:cW) (fv:List V),vs=[.ref p,.ref a]/\bY H p/\H a=some (.lst fv)/\c6 H fx fv/\a≠p/\(∀j,j<5->∃x,fx[j]?=some (x,0))/\∀(x:Str) (H':Hp),dR p H H'->bY H' p->(x∈wi31∨x∈zeros fx)->Q (.str x) H'
theorem c6.at_ {H:Hp}:∀{l:cW} {vs:List V} {i:Nat} {r:Str×Int},c6 H l vs->l[i]?=some r->∃t,vs[i]?=some (.ref t)/\H t=some (.tup [.str r.1,.int r.2])
 | [],_,_,_,_,e=>by simp at e
 | r::_,_,0,_,⟨t,us,e,h,q⟩,k=>by subst e;simp at k;subst k;exact⟨t,rfl,h⟩
 | _::_,_,i+1,_,⟨t,us,e,h,q⟩,k=>by subst e;simp at k;obtain⟨t,b,a⟩:=c6.at_ q k;exact⟨t,by simpa using b,a⟩
theorem MZ {f:Addr}{I:FuncData}(F:fY K "_law_leaf" "_law_leaf" jH f I)(T:Txt mg)(b:d8 P w K mg base bH 1 "_law_take" iQ):bN P w K mg base bH 2 f I qW lG:=by
 refine F.ok n9 (λvs H Q E h=>?_) (λR A outer s H vs Q E e h=>?_)
 ·obtain⟨p,a,O,G,rfl,_⟩:=h;rfl
 ·obtain⟨p,a,O,G,rfl,C,N,g,l,J,q⟩:=h;have B:=e.units
  refine⟨_,(aC (aW (i:=2) n9.nd rfl (Or.inl rfl) (aN b (e.mono (by decide)) pass0 rfl (aA (pv 0) (aA aF aB))))
   (aC (bD (aY (lL B) (pv 2) aF (nomark _)) (aG (aM (aS bB (cQ (aA cI (aA cI (aA cI (aA cI aB))))) (pv 2) (λ_ _=>rfl)))) aP)
   (aG (aM (aS bB (aS bB (pv 1) (bF iW (pv 2) aF) (λ_ _=>rfl)) aF (λ_ _=>rfl)))))),?_⟩
  try dsimp only[cxOf,Cx.nox]
  clear e F T b B;refine⟨_,rfl,p,9,rfl,C,by decide,by decide,λd x y U S=>⟨_,rfl,.inl (.inl ⟨_,_,rfl,rfl,_,rfl,ite2 (λc=>?_) (λc=>?_)⟩)⟩⟩
  ·have c:d<4:=by simpa using c
   refine⟨show 4<=sizeLine by decide,λr e=>⟨_,rfl,?_⟩⟩;have q':=λx L=>q x _ ((dR.upd p H (.lst [.int _,.int _])).trans (dR.new (p:=p) (o:=.lst [.str "?x",.str "?1",.str "?0z9",.str "?zzzzzzzz"]) e)) (bY.but ⟨_,_,upd_same⟩ (bY.ne ⟨_,_,upd_same⟩ e)) (.inl L);have:d=0∨d=1∨d=2∨d=3:=by omega
   rcases this with rfl|rfl|rfl|rfl
   ·exact⟨.str "?x",by rw[ixV_l upd_same];rfl,q' _ (by decide)⟩
   ·exact⟨.str "?1",by rw[ixV_l upd_same];rfl,q' _ (by decide)⟩
   ·exact⟨.str "?0z9",by rw[ixV_l upd_same];rfl,q' _ (by decide)⟩
   ·exact⟨.str "?zzzzzzzz",by rw[ixV_l upd_same];rfl,q' _ (by decide)⟩
  ·have c:¬d<4:=by simpa using c
   obtain⟨j,hj,h5⟩:∃j:Nat,d - 4=(j:Int)/\j<5:=⟨(d - 4).toNat,by omega,by omega⟩
   obtain⟨z,hz⟩:=J j h5;have v:=bV.pot (o:=.lst [.int x,.int y]) C;obtain⟨t,u,m⟩:=(g.same v).at_ hz;refine⟨_,rfl,_,rfl,_,_,rfl,rfl,.ref t,?_,.str z,by rw[ixV_t m];rfl,q z _ (dR.upd _ _ _) ⟨_,_,upd_same⟩ (.inr ?_)⟩
   ·dsimp only;rw[hj,ixV_l (xs:=G) (by rw[aE l];exact N)];exact jL u
   ·exact cs.mpr ⟨(z,0),cx.mpr ⟨bg hz,rfl⟩,rfl⟩
def RS (p t:Addr)(a:cW)(sm:bE)(H:Hp):Prop:=bY H p/\LE p t a sm H/\bX a sm/\RU a sm
theorem RS.but {p t:Addr}{a:cW}{sm:bE}{H H':Hp}(h:RS p t a sm H)(c:dR p H H')(b:bY H' p):RS p t a sm H':=⟨b,h.2.1.but c h.1,h.2.2⟩
def n5:Sp:=λvs H Q _=>∃(p t:Addr) (fx:cW) (sm:bE) (b:Nat),vs=[.ref p,.ref t,.int b]/\RS p t fx sm H/\2<=b/\b<=40/\∀(u:Addr) (n:Str) (k:Nat) (H':Hp),dR p H H'->bY H' p->H' u=some (.tup [.str n,.int k])->qB fx sm n k->k<=b->Q (.ref u) H'
def SV (c:cW)(b:Nat)(H:Hp)(i:Nat)(a:List V)(σ:St)(H':Hp):Prop:=H'=H/\(∃o:Option V,σ=[o,some (.int b)])/\c6 H ((c.take i).filter λr=>decide (1<=r.2) && decide (r.2<=(b:Int))) a
theorem M3 {f:Addr}{fd:FuncData}(F:fY K "_law_head" "_law_head" iA f fd)(T:Txt mg)(g:d8 P w K mg base bH 1 "_law_take" iQ):bN P w K mg base bH 2 f fd qX n5:=by
 refine F.ok kC (λvs H Q E h=>?_) (λcdv A outer s H vs Q E G h=>?_)
 ·obtain⟨p,t,fx,sm,b,rfl,_⟩:=h;rfl
 ·obtain⟨p,t,fx,sm,b,rfl,h0,b2,b40,q⟩:=h;have hu:=G.units
  refine⟨_,(aC (jN (pv 1) (eF K rfl (i:=3) (j:=4) rfl kC.nd rfl rfl rfl rfl))
   (aC (bD (aY (gJ hu) (aN g (G.mono (by decide)) pass0 rfl (aA (pv 0) (aA aF aB))) aF (nomark _)) (aG (aM (bK (aA (aS bB (aS bB (pv 4) (aN g (G.mono (by decide)) pass0 rfl (aA (pv 0) (aA (aL bZ rfl T.n_len rfl (aA (pv 4) aB)) aB))) (λ_ _=>rfl)) aF (λ_ _=>rfl)) (aA (bF bM aF (aN g (G.mono (by decide)) pass0 rfl (aA (pv 0) (aA (bF iW (pv 2) aF) aB)))) aB))))) aP)
   (aC (jJ (i:=5) kC.nd rfl rfl rfl rfl (bW.by (N:=lZ) (names:=(aJ iA).names) (N':=["_law_pair","_law_budget"]) (src:=[none,some 2]) (by decide +kernel) rfl rfl) (cP K rfl (pv 3)) (λ_ _ _ _=>(aZ (i:=0) (show List.Nodup (["_law_pair","_law_budget"]:aV)by decide +kernel) rfl (Or.inl rfl))) (λ_ _ _ _=>(xF (iT k6 k6 aF (aS bB (pv 0) aF (λ_ _=>rfl)) (pv 1)))) (λ_ _ _ _=>(pv 0)))
   (aG (aM (aS bB (pv 5) (aN g (G.mono (by decide)) pass0 rfl (aA (pv 0) (aA (aL bZ rfl T.n_len rfl (aA (pv 5) aB)) aB))) (λ_ _=>rfl))))))),?_⟩
  try dsimp only[cxOf,Cx.nox]
  clear G F T g hu;simp only[dU];obtain⟨hp,⟨fa,sa,fv,sv,t1,t2,t3,t4,t5,nfp,nsp⟩,so,sg⟩:=id h0;refine⟨_,rfl,t,_,rfl,hZ.of t1,rfl,_,_,rfl,_,_,rfl,rfl,?_⟩;refine⟨_,rfl,p,2,rfl,hp,by decide,by decide,λd x y d0 d1=>?_⟩;have U:bY (upd H p (.lst [.int x,.int y])) p:=⟨_,_,upd_same⟩
  have O:dR p H (upd H p (.lst [.int x,.int y])):=dR.upd p H _;have h1:=h0.but O U;have f1:upd H p (.lst [.int x,.int y]) fa=some (.lst fv):=by rw[aE nfp];exact t2
  have s1:upd H p (.lst [.int x,.int y]) sa=some (.lst sv):=by rw[aE nsp];exact t3
  have r1:=t4.same (bV.pot (o:=.lst [.int x,.int y]) hp);have S:=t5.same (bV.pot (o:=.lst [.int x,.int y]) hp);generalize upd H p (.lst [.int x,.int y])=H1 at U O h1 f1 s1 r1 S⊢;have ls:=S.len;have len1:∀{l:Addr} {xs:List V} {H':Hp},H' l=some (.lst xs)->(Option.map (λn=>V.int n) do let a ←lenV H' (.ref l);pure (a:Int))=some (.int xs.length):=λh=>by rw[lenV_l h];rfl
  refine⟨.int d,.int 0,rfl,rfl,au _,_,rfl,cN (λc=>?_) (λc=>?_)⟩
  ·refine⟨_,rfl,_,rfl,_,rfl,_,_,rfl,len1 s1,p,sv.length,rfl,U,by have:=sg.2.2;omega,by have:=so.s2;omega,λe Y X e0 e1=>?_⟩;obtain⟨r,I,G,htt,ht⟩:∃r I,sm[e.toNat]?=some r/\sv[e.toNat]?=some (.ref I)/\H1 I=some (.tup [.str r.1,.str r.2]):=by
    obtain⟨v,W⟩:∃v,sv[e.toNat]?=some v:=⟨_,aw (by omega)⟩
    obtain⟨r,I,h1,rfl,h3⟩:=S.get W;exact⟨r,I,h1,W,h3⟩
   have Z:bY (upd H1 p (.lst [.int Y,.int X])) p:=⟨_,_,upd_same⟩
   have L:=O.trans (dR.upd p H1 (.lst [.int Y,.int X]));have s2:upd H1 p (.lst [.int Y,.int X]) sa=some (.lst sv):=by rw[aE nsp];exact s1
   have t2':=bV.pot (o:=.lst [.int Y,.int X]) U _ _ ht;generalize upd H1 p (.lst [.int Y,.int X])=H2 at Z L s2 t2'⊢;refine⟨.ref I,by rw[ixV_l s2,tN e0 e1];exact htt,.str r.1,by rw[ixV_t t2'];rfl,_,rfl,_,rfl,_,_,rfl,rfl,p,_,rfl,Z,by omega,by omega,λk x2 y2 k0 k1=>.inl ⟨_,rfl,show 2<=sizeLine by decide,λu hu=>?_⟩⟩;obtain⟨kk,hk⟩:∃kk:Nat,2+k=(kk:Int):=⟨(2+k).toNat,by omega⟩
   rw[hk];have p3:bY (upd H2 p (.lst [.int x2,.int y2])) p:=⟨_,_,upd_same⟩
   exact q u r.1 kk _ ((L.trans (dR.upd p H2 _)).trans (dR.new hu)) (p3.but (p3.ne hu)) upd_same (.inr ⟨by omega,cs.mpr ⟨r,bg G,rfl⟩⟩) (by omega)
  ·refine⟨_,rfl,fa,fv,rfl,.inl f1,λJ hJ=>dF hJ (SV fx b H1) ⟨rfl,⟨none,rfl⟩,rfl⟩ (λi B σ H' _ h=>by rw[h.1]) ?_ ?_⟩
   ·rintro i v B σ H' W ⟨rfl,⟨o,rfl⟩,C⟩;obtain⟨r,I,G,rfl,ht⟩:=r1.get W;have la:B.length<sizeLine:=aj (m:=12) (by rw[C.len];exact al (List.length_filter_le _ _) (by rw[bq];have:=so.f2;omega)) (by decide);have no:(decide (1<=r.2) && decide (r.2<=(b:Int)))=false->SV fx b H' (i+1) B [some (.ref I),some (.int b)] H':=λz=>⟨rfl,⟨_,rfl⟩,by rw[bC G,List.filter_append,List.filter_cons_of_neg (by rw[z];decide),List.filter_nil,bi];exact C⟩
    refine⟨_,rfl,.int r.2,by rw[ixV_t ht];rfl,_,_,rfl,rfl,_,rfl,cN (λO=>⟨_,rfl,_,_,rfl,rfl,_,rfl,cN (λL=>?_) (λL=>?_)⟩) (λO=>⟨_,rfl,?_⟩)⟩
    ·refine⟨_,rfl,la,rfl,⟨_,rfl⟩,?_⟩;rw[bC G,List.filter_append,List.filter_cons_of_pos (by rw[O,L];rfl),List.filter_nil];exact C.snoc ht
    ·exact no (by rw[L,Bool.and_false])
    ·exact no (by rw[O,Bool.false_and])
   ·rintro B σ H' ⟨rfl,⟨o,rfl⟩,C⟩ l hl;rw[r1.len,br]at C;have Z:=U.but (o:=.lst B) (U.ne hl);have L:=O.trans (dR.new (p:=p) (o:=.lst B) hl);have l2:upd H' l (.lst B) l=some (.lst B):=upd_same;have R:=C.same (bV.of (aD.upd (o:=.lst B) hl));have nlp:=(U.ne hl).symm;generalize upd H' l (.lst B)=H2 at Z L l2 R⊢;have la:=R.len;have mem:∀r,r∈fx.filter (λr=>decide (1<=r.2) && decide (r.2<=(b:Int))) ↔ r∈fx/\1<=r.2/\r.2<=(b:Int):=λr=>by rw[cx,Bool.and_eq_true,decide_eq_true_iff,decide_eq_true_iff]
    have pos:1<=B.length:=by obtain⟨r,h1,h2⟩:=sg.2.1;rw[la];exact List.length_pos_of_mem ((mem r).mpr ⟨h1,by omega,by omega⟩)
    have le12:B.length<=12:=by rw[la];exact al (List.length_filter_le _ _) so.f2
    refine⟨_,rfl,_,rfl,_,rfl,_,_,rfl,len1 l2,p,B.length,rfl,Z,by omega,by omega,λe Y X e0 e1=>?_⟩;obtain⟨v,W⟩:∃v,B[e.toNat]?=some v:=⟨_,aw (by omega)⟩
    obtain⟨r,I,G,rfl,ht⟩:=R.get W;obtain⟨g1,g2,g3⟩:=(mem r).mp (bg G);refine⟨.ref I,by rw[ixV_l (xs:=B) (by rw[aE nlp];exact l2),tN e0 e1];exact W,?_⟩;obtain⟨k,hk⟩:∃k:Nat,r.2=(k:Int):=⟨r.2.toNat,by omega⟩
    exact q I r.1 k _ (L.trans (dR.upd p H2 _)) ⟨_,_,upd_same⟩ (by rw[←hk];exact bV.pot Z _ _ ht) (.inl ⟨by omega,by rw[←hk];exact g1⟩) (by omega)
def jX (n:Nat):Sp:=λvs H Q _=>∃(p t:Addr) (fx:cW) (sm:bE) (room deep:Nat),vs=[.ref p,.ref t,.int room,.int deep]/\RS p t fx sm H/\1<=room/\room<=40/\deep<=n /\
 ∀(d:D) (v:V) (H':Hp),dR p H H'->bY H' p->aT H' d v->bA fx sm wi31 d->Fl d->lvs d<=room->depD d<=deep->Q v H'
def RQ (p t rw u:Addr)(a c b:Nat)(nm:Str)(e:cW)(sm:bE)(H:Hp)(i:Nat)(σ:St)(d:Hp):Prop :=
 ∃(left:Nat) (ds:List D) (vs:List V) (o8 o9:Option V),σ=[some (.ref p),some (.ref t),some (.int a),some (.int c),some (.str nm),some (.int b),some (.ref rw),some (.int left),o8,o9] /\
  dR p H d/\bY d p/\d rw=some (.lst (.str nm::vs))/\Reps d ds vs/\ds.length=i/\IsTms e sm wi31 ds/\Fls ds/\lvss ds+left<=a/\b<=left+i/\depDs ds+1<=c
theorem MU {f:Addr}{fd:FuncData}(n:Nat)(F:fY K "_law_term" "_law_term" fP f fd)(T:Txt mg)(C:d8 P w K mg base bH 1 "_law_take" iQ)(G:d8 P w K mg base bH 2 "_law_leaf" lG)(I:d8 P w K mg base bH 2 "_law_head" n5)
  (B:d8 P w K mg base bH (n+3) "_law_term" (λvs H Q E=>∃m,m<n/\jX m vs H Q E)):bN P w K mg base bH (n+4) f fd iD (jX n):=by
 refine F.ok dI (λvs H Q E h=>?_) (λcdv A outer s H vs Q E Z h=>?_)
 ·obtain⟨p,t,U,sm,o,l,rfl,_⟩:=h;rfl
 ·obtain⟨p,t,U,sm,o,l,rfl,J,r1,r2,dn,q⟩:=h;have hu:=Z.units
  refine⟨_,(aC (bD (PW.pt (gR (aY (gJ hu) (pv 2) aF (nomark _)) (eQ (aY (gJ hu) (pv 3) aF (nomark _))))) (aG (aM (aN G (Z.mono (by omega)) pass0 rfl (aA (pv 0) (aA (aS bB (pv 1) aF (λ_ _=>rfl)) aB))))) aP)
   (aC (jN (aN I (Z.mono (by omega)) pass0 rfl (aA (pv 0) (aA (pv 1) (aA (pv 2) aB)))) (eF K rfl (i:=4) (j:=5) rfl dI.nd rfl rfl rfl rfl))
   (aC (aW (i:=6) dI.nd rfl (Or.inl rfl) (cQ (aA (pv 4) aB)))
   (aC (aW (i:=7) dI.nd rfl (Or.inl rfl) (pv 2))
   (aC (dG dc rfl (j6 rfl T.n_range (aA (pv 5) aB)) (aZ (i:=8) dI.nd rfl (Or.inl rfl)) (aC (aW (i:=9) dI.nd rfl (Or.inl rfl) (pv 7))
   (aC (bD (aY (lL hu) (pv 8) (bF iW (pv 5) aF) (nomark _)) (aG (aW (i:=9) dI.nd rfl (Or.inl rfl) (bF bM aF (aN C (Z.mono (by omega)) pass0 rfl (aA (pv 0) (aA (bF iW (pv 7) (bF iW (bF iW (pv 5) aF) (pv 8))) aB)))))) aP)
   (aC (cS (iU c4 db da dY (pv 6) (aA (aN B (Z.mono (by omega)) pass0 rfl (aA (pv 0) (aA (pv 1) (aA (pv 9) (aA (bF iW (pv 3) aF) aB))))) aB)))
   (aG (aW (i:=7) dI.nd rfl (Or.inl rfl) (bF iW (pv 7) (pv 9))))))))
   (aG (aM (cR fX rfl T.n_tuple rfl (aA (pv 6) aB))))))))),?_⟩
  try dsimp only[cxOf,Cx.nox]
  clear Z F T hu C G I B;simp only[eL];have S:∀X,dR p H X->bY X p->∀a fv,X a=some (.lst fv)->c6 X U fv->a≠p->lG [.ref p,.ref a] X Q E0:=λX b1 p1 a fv ha row na=>by
   refine⟨p,a,U,fv,rfl,p1,ha,row,na,J.2.2.2.1,λx H' b2 R Y=>q (.str x) (.str x) H' (b1.trans b2) R rfl (by unfold bA;exact Y) ?_ r1 (au _)⟩;unfold Fl;rcases Y with Y|Y
   ·have:∀y∈wi31,1<=y.cps.toList.length/\y.cps.toList.length<=20:=by decide +kernel
    exact this x Y
   ·have:=J.2.2.1.nm x (cb _ ((FM U).subset Y));exact⟨this.1,al this.2.1 (by decide)⟩
  obtain⟨hp,⟨fa,sa,fv,sv,t1,t2,t3,t4,t5,nfp,nsp⟩,so,sg⟩:=id J;have lf:=S H (dR.refl _ _) hp fa fv t2 t4 nfp;refine⟨_,rfl,.int o,.int 1,rfl,rfl,au _,_,rfl,cN (λc=>?_) (λc1=>⟨_,rfl,.int l,.int 0,rfl,rfl,au _,_,rfl,cN (λc=>?_) (λc2=>?_)⟩)⟩
  ·exact⟨_,rfl,_,rfl,.ref fa,by rw[ixV_t t1];rfl,lf⟩
  ·exact⟨_,rfl,_,rfl,.ref fa,by rw[ixV_t t1];rfl,lf⟩
  have n1:(o:Int)≠1:=λz=>by rw[z]at c1;exact absurd c1 (by decide)
  have n2:(l:Int)≠0:=λz=>by rw[z]at c2;exact absurd c2 (by decide)
  clear lf S c1 c2;refine⟨_,rfl,_,rfl,_,rfl,p,t,U,sm,o,rfl,J,by omega,r2,λu nm r X b1 p1 u1 hh hk=>?_⟩;refine⟨u,_,rfl,hZ.of u1,rfl,_,_,rfl,_,_,rfl,rfl,_,rfl,show 1<=sizeLine by decide,λrw O=>⟨_,rfl,_,rfl,r,rfl,by omega,by omega,?_⟩⟩;have N:=(p1.ne O).symm;have nrH:H rw=none:=by
   cases e:H rw with
   | none=>rfl
   | some w=>have:=b1 rw w N e;rw[O]at this;cases this
  refine nH (n:=r) (RQ p t rw u o l r nm U sm H) ⟨o,[],[],none,none,rfl,b1.trans (dR.new O),p1.but (p1.ne O),upd_same,rfl,rfl,trivial,trivial,by show 0+o<=o;omega,by omega,by show 0+1<=l;omega⟩ ?_ ?_
  ·rintro i σ H2 hi ⟨left,ds,vs,o8,o9,rfl,b2,R,w2,rp,hl,W,L,lv,mi,dp⟩;have hh2:=Reps.len rp;have step:∀(b:Nat) (H3:Hp) (b3:dR p H2 H3) (p3:bY H3 p) (s1:1<=b) (s2:b<=left) (s3:r<=left - b+(i+1)) (D:iM) (hD:∀σ H',RQ p t rw u o l r nm U sm H (i+1) σ H'->D.nx σ H'),
     tSeq (tDrop (tBM K "list" rAppend (tVar 6) (tCons (tCall (λvs H Q E=>∃m,m<n/\jX m vs H Q E) [] E0 (tCons (tVar 0) (tCons (tVar 1) (tCons (tVar 9) (tCons (tOp (rI0 λi j=>V.int (i - j)) (tVar 3) (tC (V.int 1))) tNil))))) tNil))) (tAsg (tOp (rI0 λi j=>V.int (i - j)) (tVar 7) (tVar 9)) (gName 7)) D
      [some (.ref p),some (.ref t),some (.int o),some (.int l),some (.str nm),some (.int r),some (.ref rw),some (.int left),some (.int (0+i)),some (.int b)] H3:=λb H3 b3 p3 s1 s2 s3 D hD=>by
    have w3:=b3 _ _ N w2;have e2:(l:Int) - 1=((l - 1:Nat):Int):=by omega
    refine⟨_,rfl,.inl ⟨rfl,_,eK.of w3⟩,_,rfl,_,rfl,_,rfl,_,rfl,_,_,rfl,rfl,l - 1,by omega,p,t,U,sm,b,l - 1,(by rw[←e2];rfl),J.but (b2.trans b3) p3,s1,by omega,ac _,λd v H4 b4 p4 rep tm fl lv4 dp4=>?_⟩;have w4:=b4 _ _ N w3;refine⟨rw,_,v,rfl,rfl,w4,aj (m:=100) (by simp only[ao];omega) (by decide),_,rfl,_,rfl,_,_,rfl,rfl,hD _ _ ?_⟩;have tt:bV H2 H4:=(bV.ofBut b3 R).trans (bV.ofBut b4 p3);refine⟨left - b,ds++[d],vs++[v],some (.int (0+i)),some (.int b),?_,DK ((b2.trans b3).trans b4) nrH,p4.but N.symm,by rw[upd_same];rfl,?_,by rw[aq,hl];rfl,W.snoc tm,?_,?_,s3,?_⟩
    ·rw[Int.ofNat_sub s2];rfl
    ·have t5:bV H4 (upd H4 rw (.lst (.str nm::vs++[v]))):=bV.lst w4;exact Reps.snoc (aT.tups t5 fl rep) (Reps.tups t5 L (Reps.tups tt L rp))
    ·exact jP λe he=>(cr.mp he).elim (λh=>dP L e h) λh=>by rw[cm.mp h];exact fl
    ·rw[vJ];omega
    ·rw[tH];omega
   refine⟨_,rfl,_,rfl,_,rfl,_,_,rfl,rfl,.inl (.inl ⟨_,_,rfl,rfl,_,rfl,ite2 (λc=>?_) (λc=>?_)⟩)⟩
   ·have c:(0:Int)+i<r - 1:=by simpa using c
    obtain⟨m,hm⟩:∃m:Nat,(left:Int) - (r - 1 - (0+i))=(m:Int):=⟨left - (r - 1 - i),by omega⟩
    refine⟨_,rfl,_,rfl,_,rfl,_,_,rfl,rfl,_,rfl,_,_,rfl,rfl,_,_,rfl,rfl,p,m,(by dsimp only;rw[hm];rfl),R,by omega,by omega,λg x y g0 g1=>.inl ⟨_,rfl,?_⟩⟩;obtain⟨k,hk⟩:∃k:Nat,1+g=(k:Int):=⟨(1+g).toNat,by omega⟩
    rw[hk];exact step k _ (dR.upd p H2 _) ⟨_,_,upd_same⟩ (by omega) (by omega) (by omega) _ λ_ _ h=>h
   ·have c:¬(0:Int)+i<r - 1:=by simpa using c
    exact step left H2 (dR.refl _ _) R (by omega) (ac _) (by omega) _ λ_ _ h=>h
  ·rintro σ H2 ⟨left,ds,vs,o8,o9,rfl,b2,R,w2,rp,hl,W,L,lv,mi,dp⟩;refine⟨_,rfl,rw,_,rfl,.inl w2,λtp H3 hc=>?_⟩;rcases hc with⟨z,_⟩|⟨_,ht,rfl⟩
   ·rw[w2]at z;cases z
   refine q (.tup (.str nm::ds)) _ _ (b2.trans (dR.new ht)) (R.but (R.ne ht)) ⟨tp,_,rfl,upd_same,_,_,rfl,rfl,Reps.same (aD.upd ht) rp⟩ ?_ ?_ ?_ ?_
   ·unfold bA;exact⟨by rw[hl];exact hh,W⟩
   ·unfold Fl;exact L
   ·rw[lvs];omega
   ·rw[depD,depDs,show depD (.str nm)=0 from rfl];omega
theorem NM {f:Addr}{d:FuncData}(F:fY K "_law_term" "_law_term" fP f d)(T:Txt mg)(a:d8 P w K mg base bH 1 "_law_take" iQ)(b:d8 P w K mg base bH 2 "_law_leaf" lG)(c:d8 P w K mg base bH 2 "_law_head" n5)
  (o:mg "_law_term" = some (.ref f)) (q:PySem.W.keepIn K (.ref f)=true) (e:eY K d iD []):∀n,bN P w K mg base bH (n+4) f d iD (jX n):=by
 intro n
 induction n using Nat.strongRecOn with
 | ind n i =>
  exact MU n F T a b c ⟨f,d,_,⟨λvs H Q E ⟨m,g,h⟩=>(i m g).len vs H Q E h,λA outer s H args us vs Q E l r e j ⟨m,g,h⟩=>((i m g).mono (by omega)).run A outer s H args us vs Q E l r e j h⟩,o,q,e⟩
theorem JI {f:Addr}{d:FuncData}(F:fY K "_law_term" "_law_term" fP f d)(T:Txt mg)(a:d8 P w K mg base bH 1 "_law_take" iQ)(b:d8 P w K mg base bH 2 "_law_leaf" lG)(c:d8 P w K mg base bH 2 "_law_head" n5)
  (e:mg "_law_term" = some (.ref f)) (g:PySem.W.keepIn K (.ref f)=true) (h:eY K d iD []) (n:Nat):d8 P w K mg base bH (n+4) "_law_term" (jX n):=⟨f,d,_,NM F T a b c e g h n,e,g,h⟩
theorem GS {c:Nat}(h:97<=c/\c<=122):inTx "abcdefghijklmnopqrstuvwxyz" c=true:=by
 have a:∀j:Fin 26,inTx "abcdefghijklmnopqrstuvwxyz" (97+j.1)=true:=by decide +kernel
 have:=a ⟨c - 97,by omega⟩;rw[show 97+(c - 97)=c by omega]at this;exact this
def IH:Sp:=λvs H Q _=>∃x:Str,vs=[.str x]/\kR x/\∀H',aD H H'->Q (.bl true) H'
theorem MW {f:Addr}{r:FuncData}(F:fY K "is_name" "is_name" j5 f r)(T:Txt mg):bN P w K mg base bH 1 f r wI IH:=by
 refine F.ok B4 (λvs H Q E h=>?_) (λG A outer s H vs Q E j h=>?_)
 ·obtain⟨x,rfl,_⟩:=h;rfl
 ·obtain⟨x,rfl,g,q⟩:=h;have u:=j.units
  refine⟨_,(aC (bD (PW.pt (gR (cM (aO K rfl (aL aK rfl T.n_isinstance rfl (aA (pv 0) (aA (bG (v:=V.ty "str") rfl T.n_str rfl rfl) aB))) (λ_=>rfl))) (eQ (cM (iT k6 k6 aF (aL bZ rfl T.n_len rfl (aA (pv 0) aB)) (eS T.c_LONGEST_NAME rfl)))))) (aG (aM qE)) aP)
   (aG (aM (aL (mQ rfl) rfl T.n_all rfl (aA (gG rfl (bW.by (N:=p7) (names:=(aJ j5).names) (N':=["sign"]) (src:=[none]) (by decide +kernel) rfl rfl) (I9 (pv 0)) (λ_ _ _ _=>(aZ (i:=0) (show List.Nodup (["sign"]:aV)by decide +kernel) rfl (Or.inl rfl))) (λ_ _ _ _=>dN) (λ_ _ _ _=>(gH pQ (pv 0) (eS T.c_LETTERS rfl) (by with_unfolding_all rfl)))) aB))))),?_⟩
  try dsimp only[cxOf,Cx.nox]
  simp only[p7];clear j F T u;have keep:=aI q g;clear q g
  walk_at "rd"
  obtain⟨q,I,d,l⟩:=keep;have hz:x.length<=sizeLine:=al (m:=6) (by rw[bn]at d;exact d) (by decide);have J:x.cps.toList.length=x.length:=by rw[bn];rfl
  refine⟨true,rfl,?_⟩;rw[ab (by decide)];refine⟨.int x.length,by rw[AG hz];rfl,_,rfl,?_⟩;rw[ai (by omega)];refine⟨_,rfl,?_⟩;rw[ab (by omega)];refine⟨_,rfl,x,rfl,?_,?_⟩
  ·rw[Array.all_eq_true_iff_forall_mem];intro c b;have:=l c (by simpa using b);simp only[decide_eq_true_eq];omega
  ·refine vY (λi a σ H'=>H'=H/\a=(List.replicate i true).map V.bl/\i<=6/\∃o:Option V,σ=[o]) ⟨rfl,rfl,by decide,none,rfl⟩ ?_ ?_
   ·rintro i c a σ H' b ⟨rfl,rfl,C,o,rfl⟩;have B:c∈x.cps.toList:=by
     have:x.cps.toList[i]?=some c:=by rw[Array.getElem?_toList];exact b
     exact bg this
    have hi':i<x.cps.size:=(Array.getElem?_eq_some_iff.mp b).1;refine⟨_,rfl,_,rfl,_,rfl,?_⟩;have e:=GS (l c B);unfold inTx at e;dsimp only;refine⟨aj (m:=100) (by simp;omega) (by decide),rfl,?_,by rw[bn]at d;omega,_,rfl⟩;rw[e,List.replicate_succ',ax];rfl
   ·rintro a σ H' ⟨rfl,rfl,C,o,rfl⟩ p z;refine⟨p,rfl,List.replicate _ true,upd_same,?_⟩;have:(List.replicate x.cps.size true).all id=true:=by simp
    rw[this];exact q _ (aD.upd z)
def wZ:Sp:=λvs H Q _=>∃i:Int,vs=[.int i]/\Q (.bl true) H
theorem JQ {f:Addr}{a:FuncData}(F:fY K "is_whole" "is_whole" kE f a)(T:Txt mg):bN P w K mg base bH 1 f a tX wZ:=by
 refine F.ok zG (λvs H Q E h=>?_) (λc A outer s H vs Q E b h=>?_)
 ·obtain⟨x,rfl,_⟩:=h;rfl
 ·obtain⟨i,rfl,q⟩:=h;refine⟨_,(aG (aM (xK (aL aK rfl T.n_isinstance rfl (aA (pv 0) (aA (bG (v:=V.ty "int") rfl T.n_int rfl rfl) aB))) (pM (PM (aL aK rfl T.n_isinstance rfl (aA (pv 0) (aA (bG (v:=V.ty "bool") rfl T.n_bool rfl rfl) aB)))))))),?_⟩
  try dsimp only[cxOf,Cx.nox]
  simp only[uE];clear b F T
  walk_at "rd"
def mS (H:Hp)(ws:List V):Prop:=∀v∈ws,∃t x y,v = .ref t/\H t=some (.tup [x,y])
theorem mS.same {H H':Hp}{ws:List V}(h:mS H ws)(s:aD H H'):mS H' ws:=λv a=>by obtain⟨t,x,y,e,h⟩:=h v a;exact⟨t,x,y,e,s _ _ h⟩
def DX:Sp:=λvs H Q _=>∃(a:Addr) (lo hi:Int) (ws:List V),vs=[.ref a,.int lo,.int hi]/\H a=some (.lst ws)/\mS H ws/\lo<=ws.length/\(ws.length:Int)<=hi/\ws.length<=100/\∀l H',aD H H'->H l=none->H' l=some (.lst ws)->Q (.ref l) H'
def T7 (a:Addr)(b c:Int)(H:Hp)(i:Nat)(σ:St)(d:Hp):Prop:=∃o:Option V,σ=[some (.ref a),some (.int b),some (.int c),o]/\aD H d
def T9 (ws:List V)(H:Hp)(i:Nat)(a:List V)(σ:St)(b:Hp):Prop:=∃o:Option V,σ=[o]/\aD H b/\a=ws.take i
theorem JW {f:Addr}{fd:FuncData}(F:fY K "checked_pairs" "checked_pairs" eD f fd)(T:Txt mg):bN P w K mg base bH 1 f fd lB DX:=by
 refine F.ok jZ (λvs H Q E h=>?_) (λcdv A outer s H vs Q E hr h=>?_)
 ·obtain⟨a,lo,hi,ws,rfl,_⟩:=h;rfl
 ·obtain⟨a,lo,hi,ws,rfl,B,pr,L,W,U,q⟩:=h;have hu:=hr.units
  refine⟨_,(aC (bD (PW.pt (gR (cM (aO K rfl (aL aK rfl T.n_isinstance rfl (aA (pv 0) (aA (bK (aA (bG (v:=V.ty "list") rfl T.n_list rfl rfl) (aA (bG (v:=V.ty "tuple") rfl T.n_tuple rfl rfl) aB))) aB))) (λ_=>rfl))) (eQ (cM (iT k6 k6 (pv 1) (aL bZ rfl T.n_len rfl (aA (pv 0) aB)) (pv 2)))))) (aG dB) aP)
   (aC (dG dc rfl (cP K rfl (pv 0)) (aZ (i:=3) jZ.nd rfl (Or.inl rfl)) (aG (bD (PW.pt (gR (cM (aO K rfl (aL aK rfl T.n_isinstance rfl (aA (pv 3) (aA (bK (aA (bG (v:=V.ty "list") rfl T.n_list rfl rfl) (aA (bG (v:=V.ty "tuple") rfl T.n_tuple rfl rfl) aB))) aB))) (λ_=>rfl))) (eQ (aY (nC hu) (aL bZ rfl T.n_len rfl (aA (pv 3) aB)) aF (nomark _))))) (aG dB) aP)))
   (aG (aM (gG rfl (bW.by (N:=fK) (names:=(aJ eD).names) (N':=["pair"]) (src:=[none]) (by decide +kernel) rfl rfl) (cP K rfl (pv 0)) (λ_ _ _ _=>(aZ (i:=0) (show List.Nodup (["pair"]:aV)by decide +kernel) rfl (Or.inl rfl))) (λ_ _ _ _=>dN) (λ_ _ _ _=>(cR fX rfl T.n_tuple rfl (aA (pv 0) aB)))))))),?_⟩
  try dsimp only[cxOf,Cx.nox]
  simp only[fK];clear hr F T hu;have keep:=aI q (aI B (aI pr (aI L (aI W U))));clear q B pr L W U
  walk_at "rd"
  obtain⟨q,B,pr,L,W,U⟩:=keep;refine⟨by decide,λp hp=>?_⟩;have g:aD H (upd H p (.tup [.ty "list",.ty "tuple"])):=aD.upd hp;have r:upd H p (.tup [.ty "list",.ty "tuple"]) p=some (.tup [.ty "list",.ty "tuple"]):=upd_same;generalize upd H p (.tup [.ty "list",.ty "tuple"])=H1 at g r⊢;have b:=g _ _ B;refine⟨true,C7 b r,?_⟩;rw[ab (by decide)];refine⟨.int ws.length,by rw[lenV_l b];rfl,_,rfl,?_⟩;rw[ai L];refine⟨_,rfl,?_⟩;rw[ab (by omega)];refine⟨ws,.inl b,λJ hJ=>?_⟩;refine eW hJ (T7 a lo hi H1) ⟨none,rfl,aD.refl _⟩ (by rintro i σ H' _ ⟨_,_,s2⟩;rw[b,s2 _ _ b]) ?_ ?_
  ·rintro i x σ G C ⟨o,rfl,s2⟩;obtain⟨t,y,z,rfl,S⟩:=pr x (bg C);have e:=s2 _ _ (g _ _ S);have keep:=aI q (aI B (aI pr (aI s2 (aI e g))));clear q B pr s2 e S b r L W U hJ C g hp
   walk_at "rd"
   obtain⟨q,B,pr,s2,e,g⟩:=keep;refine⟨by decide,λR X=>?_⟩;have d:aD G (upd G R (.tup [.ty "list",.ty "tuple"])):=aD.upd X;have j:upd G R (.tup [.ty "list",.ty "tuple"]) R=some (.tup [.ty "list",.ty "tuple"]):=upd_same;generalize upd G R (.tup [.ty "list",.ty "tuple"])=H3 at d j⊢;have c:=d _ _ e;refine⟨true,C6 c j,?_⟩;rw[ab (by decide)];refine⟨.int 2,by rw[lenV_t c];rfl,?_⟩;rw[rNeD_ii];refine⟨_,rfl,?_⟩;rw[ab (by decide)];exact⟨_,rfl,s2.trans d⟩
  ·rintro σ G ⟨o,rfl,s2⟩;have u:=s2 _ _ b;refine⟨_,rfl,a,ws,rfl,.inl u,λJ2 Y=>?_⟩;refine dF Y (T9 ws G) ⟨none,rfl,aD.refl _,rfl⟩ (by rintro i O σ H' _ ⟨_,_,d,_⟩;rw[u,d _ _ u]) ?_ ?_
   ·rintro i x O σ H3 C ⟨o',rfl,d,rfl⟩;obtain⟨t,y,z,rfl,S⟩:=pr x (bg C);have c:=d _ _ (s2 _ _ (g _ _ S));have hi':=(ck.mp C).1;refine⟨_,rfl,t,[y,z],rfl,.inr c,λl H4 I=>?_⟩;rcases I with⟨I,rfl,rfl⟩|⟨I,_⟩
    ·exact⟨aj (m:=100) (by rw[bq];omega) (by decide),_,rfl,d,by rw[bC C]⟩
    ·rw[c]at I;cases I
   ·rintro O σ H3 ⟨o',rfl,d,rfl⟩ l hl;rw[br];have Z:=(g.trans s2).trans d;exact q l _ (Z.trans (aD.upd hl)) (Z.free hl) upd_same
def i8 (H:Hp):aV->List V->Prop
 | [],vs=>vs=[]
 | n::ns,vs=>∃t y us,vs = .ref t::us/\H t=some (.tup [.str n,y])/\i8 H ns us
theorem i8.same {H H':Hp}(s:aD H H'):∀{ns:aV} {vs:List V},i8 H ns vs->i8 H' ns vs
 | [],_,h=>h
 | _::_,_,⟨t,y,us,e,h,q⟩=>⟨t,y,us,e,s _ _ h,i8.same s q⟩
theorem i8.len {H:Hp}:∀{ns:aV} {vs:List V},i8 H ns vs->vs.length=ns.length
 | [],_,h=>by cases h;rfl
 | _::_,_,⟨t,y,us,e,h,q⟩=>by subst e;simp[i8.len q]
theorem i8.get {H:Hp}:∀{ns:aV} {vs:List V} {i:Nat} {v:V},i8 H ns vs->vs[i]?=some v->∃n t y,ns[i]?=some n/\v = .ref t/\H t=some (.tup [.str n,y])
 | [],_,_,_,h,k=>by cases h;simp at k
 | _::_,_,0,_,⟨t,y,us,e,h,q⟩,k=>by subst e;simp at k;exact⟨_,t,y,rfl,k.symm,h⟩
 | _::_,_,i+1,_,⟨t,y,us,e,h,q⟩,k=>by subst e;simp at k;obtain⟨r,t,y,c,b,a⟩:=i8.get q k;exact⟨r,t,y,by simpa using c,b,a⟩
theorem i8.app {H:Hp}:∀{ns a:aV} {vs us:List V},i8 H ns vs->i8 H a us->i8 H (ns++a) (vs++us)
 | [],_,_,_,h,k=>by cases h;exact k
 | _::_,_,_,_,⟨t,y,us,e,h,q⟩,k=>by subst e;exact⟨t,y,_,rfl,h,i8.app q k⟩
theorem c6.n {H:Hp}:∀{l:cW} {vs:List V},c6 H l vs->i8 H (l.map (·.1)) vs
 | [],_,h=>h
 | _::_,_,⟨t,us,e,h,q⟩=>⟨t,_,us,e,h,c6.n q⟩
theorem gM.n {H:Hp}:∀{l:bE} {vs:List V},gM H l vs->i8 H (l.map (·.1)) vs
 | [],_,h=>h
 | _::_,_,⟨t,us,e,h,q⟩=>⟨t,_,us,e,h,gM.n q⟩
def zC:Sp:=λvs H Q _=>∃(a:Addr) (ns:aV) (ws:List V),vs=[.ref a]/\H a=some (.lst ws)/\i8 H ns ws/\(∀x∈ns,kR x)/\ns.Nodup/\ns.length<=50/\∀H',aD H H'->Q .non H'
def UB (ns:aV)(H:Hp)(i:Nat)(a:List V)(σ:St)(c:Hp):Prop:=∃o b:Option V,σ=[o,b]/\aD H c/\a=(ns.take i).map V.str
def UA (H:Hp)(i:Nat)(a:List V)(σ:St)(b:Hp):Prop:=∃o:Option V,σ=[o]/\aD H b/\a=(List.replicate i true).map V.bl
theorem GL {f:Addr}{W:FuncData}(F:fY K "check_names" "check_names" eG f W)(T:Txt mg)(b:d8 P w K mg base bH 1 "is_name" IH):bN P w K mg base bH 2 f W mW zC:=by
 refine F.ok lJ (λvs H Q E h=>?_) (λcdv A outer s H vs Q E C h=>?_)
 ·obtain⟨a,ns,ws,rfl,_⟩:=h;rfl
 ·obtain⟨a,ns,ws,rfl,r,v,ok,nd,e,q⟩:=h;have S:=C.units
  refine⟨_,(aC (jJ (i:=1) lJ.nd rfl rfl rfl rfl (bW.by (N:=h8) (names:=(aJ eG).names) (N':=["name","told"]) (src:=[none,none]) (by decide +kernel) rfl rfl) (cP K rfl (pv 0)) (λ_ _ _ _=>(eF K rfl (i:=0) (j:=1) rfl (show List.Nodup (["name","told"]:aV)by decide +kernel) rfl rfl rfl rfl)) (λ_ _ _ _=>dN) (λ_ _ _ _=>(pv 0)))
   (aC (bD (cM (aO K rfl (aL (mQ rfl) rfl T.n_all rfl (aA (gG rfl (bW.by (N:=h8) (names:=(aJ eG).names) (N':=["name"]) (src:=[none]) (by decide +kernel) rfl rfl) (cP K rfl (pv 1)) (λ_ _ _ _=>(aZ (i:=0) (show List.Nodup (["name"]:aV)by decide +kernel) rfl (Or.inl rfl))) (λ_ _ _ _=>dN) (λ_ _ _ _=>(aN b (C.mono (by decide)) pass0 rfl (aA (pv 0) aB)))) aB)) (λ_=>rfl))) (aG dB) aP)
   (aG (bD (aY (lL S) (aL wA rfl T.n_len rfl (aA (cR (v9 rfl) rfl T.n_set rfl (aA (pv 1) aB)) aB)) (aL bZ rfl T.n_len rfl (aA (pv 1) aB)) (nomark _)) (aG dB) aP)))),?_⟩
  try dsimp only[cxOf,Cx.nox]
  simp only[h8];clear C F T S b;have keep:=aI q (aI r (aI v (aI ok (aI nd e))));clear q r v ok nd e
  walk_at "rd"
  obtain⟨q,r,v,ok,nd,e⟩:=keep;have lw:=v.len;refine⟨ws,.inl r,λJ hJ=>?_⟩;refine dF hJ (UB ns H) ⟨none,none,rfl,aD.refl _,rfl⟩ (by rintro i d σ H' _ ⟨_,_,_,s2,_⟩;rw[r,s2 _ _ r]) ?_ ?_
  ·rintro i x d σ L B ⟨o,Z,rfl,s2,rfl⟩;obtain⟨n,t,y,z,rfl,ht⟩:=v.get B;have hi:=(ck.mp z).1;refine⟨t,_,rfl,hZ.of (s2 _ _ ht),rfl,_,_,rfl,_,_,rfl,rfl,_,rfl,aj (m:=100) (by simp;omega) (by decide),_,_,rfl,s2,?_⟩;rw[bC z,ax];rfl
  ·rintro d σ L ⟨o,Z,rfl,s2,rfl⟩ l hl;rw[lw,br];have c:upd L l (.lst (ns.map V.str)) l=some (.lst (ns.map V.str)):=upd_same;have O:=s2.trans (aD.upd (o:=.lst (ns.map V.str)) hl);generalize upd L l (.lst (ns.map V.str))=H3 at c O⊢;refine⟨l,rfl,_,.inl c,λJ2 I=>?_⟩;refine dF I (UA H3) ⟨none,rfl,aD.refl _,rfl⟩ (by rintro i d σ H' _ ⟨_,_,u,_⟩;rw[c,u _ _ c]) ?_ ?_
   ·rintro i x d σ Y B ⟨o,rfl,u,rfl⟩;rw[bw]at B;obtain⟨n,z,rfl⟩:=Option.map_eq_some_iff.mp B;have hi:=(ck.mp z).1;refine⟨_,rfl,n,rfl,ok n (bg z),λX g=>⟨aj (m:=100) (by simp;omega) (by decide),_,rfl,u.trans g,?_⟩⟩;rw[List.replicate_succ',ax];rfl
   ·rintro d σ Y ⟨o,rfl,u,rfl⟩ R G;refine⟨R,rfl,_,upd_same,?_⟩;rw[ab (by simp)];have g:=u.trans (aD.upd (o:=.lst ((List.replicate (ns.map V.str).length true).map V.bl)) G);generalize upd Y R (.lst ((List.replicate (ns.map V.str).length true).map V.bl))=X at g⊢;refine⟨l,ns,rfl,g _ _ c,nd,by omega,λp U=>⟨p,ns.length,rfl,upd_same,.int ns.length,?_,.inl (.inl ⟨_,rfl,_,rfl,?_⟩)⟩⟩
    ·have:=(aD.upd (o:=BB P w p ns.length) U) _ _ (g _ _ c);show Option.map _ ((lenV (upd X p (BB P w p ns.length)) (.ref l)).bind _)=_;rw[lenV_l this,ae];rfl
    ·rw[ab (by omega)];exact q _ ((O.trans g).trans (aD.upd U))
def DW:Sp:=λvs H Q _=>∃(a:Addr) (fx:cW) (fv:List V),vs=[.ref a]/\H a=some (.lst fv)/\c6 H fx fv/\(∀r∈fx,0<=r.2/\r.2<=3)/\(∃r∈fx,r.2=0)/\fx.length<=50/\∀H',aD H H'->Q .non H'
def TH (a:Addr)(H:Hp)(i:Nat)(σ:St)(c:Hp):Prop:=∃o b:Option V,σ=[some (.ref a),o,b]/\c=H
def TJ (c:cW)(H:Hp)(i:Nat)(a:List V)(σ:St)(d:Hp):Prop:=∃o b:Option V,σ=[o,b]/\d=H/\a=((c.take i).map λr=>decide (r.2=0)).map V.bl
theorem JV {f:Addr}{Z:FuncData}(F:fY K "check_parts" "check_parts" eZ f Z)(T:Txt mg)(b:d8 P w K mg base bH 1 "is_whole" wZ):bN P w K mg base bH 2 f Z mU DW:=by
 refine F.ok lI (λvs H Q E h=>?_) (λcdv A outer s H vs Q E u h=>?_)
 ·obtain⟨a,S,U,rfl,_⟩:=h;rfl
 ·obtain⟨a,S,U,rfl,g,d,ok,bare,c,q⟩:=h;have Y:=u.units
  refine⟨_,(aC (dG dc rfl (cP K rfl (pv 0)) (eF K rfl (i:=1) (j:=2) rfl lI.nd rfl rfl rfl rfl) (aG (bD (PW.pt (gR (cM (aO K rfl (aN b (u.mono (by decide)) pass0 rfl (aA (pv 2) aB)) (λ_=>rfl))) (eQ (cM (iT k6 k6 aF (pv 2) (eS T.c_MOST_PARTS rfl)))))) (aG dB) aP)))
   (aG (bD (cM (aO K rfl (aL (HD rfl) rfl T.n_any rfl (aA (gG rfl (bW.by (N:=jU) (names:=(aJ eZ).names) (N':=["name","many"]) (src:=[none,none]) (by decide +kernel) rfl rfl) (cP K rfl (pv 0)) (λ_ _ _ _=>(eF K rfl (i:=0) (j:=1) rfl (show List.Nodup (["name","many"]:aV)by decide +kernel) rfl rfl rfl rfl)) (λ_ _ _ _=>dN) (λ_ _ _ _=>(gH (gJ Y) (pv 1) aF (nomark _)))) aB)) (λ_=>rfl))) (aG dB) aP))),?_⟩
  try dsimp only[cxOf,Cx.nox]
  simp only[jU];clear u F T Y b;have keep:=aI q (aI g (aI d (aI ok (aI bare c))));clear q g d ok bare c
  walk_at "rd"
  obtain⟨q,g,d,ok,bare,c⟩:=keep;have l:=d.len;refine⟨U,.inl g,λJ R=>?_⟩;refine eW R (TH a H) ⟨none,none,rfl,rfl⟩ (by rintro i σ H' _ ⟨_,_,_,rfl⟩;rfl) ?_ ?_
  ·rintro i x σ H2 C ⟨o,I,rfl,rfl⟩;obtain⟨r,t,v,rfl,G⟩:=d.get C;obtain⟨X,W⟩:=ok r (bg v);refine⟨t,_,rfl,hZ.of G,rfl,_,_,rfl,_,_,rfl,rfl,?_⟩;have keep:=aI q (aI X W);clear q g d ok bare c l R C v G
   walk_at "rd"
   obtain⟨q,X,W⟩:=keep;refine⟨r.2,rfl,true,rfl,?_⟩;rw[ab (by decide)];exact⟨_,_,rfl,rfl⟩
  ·rintro σ H2 ⟨o,I,rfl,rfl⟩;have keep:=aI q (aI g (aI d (aI ok (aI bare (aI c l)))));clear q g d ok bare c l R
   walk_at "rd"
   obtain⟨q,g,d,ok,bare,c,l⟩:=keep;refine⟨U,.inl g,λJ2 O=>?_⟩;refine dF O (TJ S H2) ⟨none,none,rfl,rfl,rfl⟩ (by rintro i B σ H' _ ⟨_,_,_,rfl,_⟩;rfl) ?_ ?_
   ·rintro i x B σ H3 C ⟨o,I,rfl,rfl,rfl⟩;obtain⟨r,t,v,rfl,G⟩:=d.get C;have hi:=(ck.mp v).1;refine⟨t,_,rfl,hZ.of G,rfl,_,_,rfl,_,_,rfl,rfl,_,rfl,?_⟩;dsimp only[tC];rw[rEqD_ii];refine⟨aj (m:=100) (by simp;omega) (by decide),_,_,rfl,rfl,?_⟩;rw[bC v,ax,ax];rfl
   ·rintro B σ H3 ⟨o,I,rfl,rfl,rfl⟩ l2 L;rw[l,br];refine⟨l2,rfl,_,upd_same,?_⟩;have z:((S.map λr=>decide (r.2=0)).any id)=true:=by obtain⟨r,u,e⟩:=bare;rw[List.any_eq_true];exact⟨true,cs.mpr ⟨r,u,bf e⟩,rfl⟩
    rw[z,ab (by decide)];exact q _ (aD.upd L)
noncomputable def nots (sm:bE):aV:=(sm.map (·.2)).filter λ(x:Str)=>decide (x≠("" : Str))
def sC:Sp:=λvs H Q _=>∃(a b:Addr) (sm:bE) (sv:List V) (zs:aV),vs=[.ref a,.ref b]/\H a=some (.lst sv)/\gM H sm sv/\H b=some (.lst (zs.map V.str))/\(∀r∈sm,r.2≠("" : Str)->r.2∈zs)/\(nots sm).Nodup/\sm.length<=50/\∀H',aD H H'->Q .non H'
def TL (a b:Addr)(H:Hp)(i:Nat)(σ:St)(e:Hp):Prop:=∃o d c:Option V,σ=[some (.ref a),some (.ref b),o,d,c]/\e=H
def TM (sm:bE)(H:Hp)(i:Nat)(a:List V)(σ:St)(c:Hp):Prop:=∃o b:Option V,σ=[o,b]/\c=H/\a=(nots (sm.take i)).map V.str
theorem GO (sm:bE)(r:Str×Str):nots (sm++[r])=nots sm++(if r.2=("" : Str)then []else [r.2]):=by unfold nots;rw[ax,List.filter_append];congr 1;by_cases z:r.2=("" : Str) <;> simp[z]
theorem zU (sm:bE):(nots sm).length<=sm.length:=by unfold nots;exact al (List.length_filter_le _ _) (by rw[ae];exact ac _)
theorem zS {f:Addr}{fd:FuncData}(F:fY K "check_noughts" "check_noughts" eE f fd)(T:Txt mg):bN P w K mg base bH 1 f fd lC sC:=by
 refine F.ok gU (λvs H Q E h=>?_) (λcdv A outer s H vs Q E hr h=>?_)
 ·obtain⟨a,b,sm,X,W,rfl,_⟩:=h;rfl
 ·obtain⟨a,b,sm,X,W,rfl,g,d,u,ok,nd,c,q⟩:=h;have G:=hr.units
  refine⟨_,(aC (dG dc rfl (cP K rfl (pv 0)) (eF K rfl (i:=2) (j:=3) rfl gU.nd rfl rfl rfl rfl) (aG (bD (PW.pt (gR (cM (aO K rfl (aL aK rfl T.n_isinstance rfl (aA (pv 3) (aA (bG (v:=V.ty "str") rfl T.n_str rfl rfl) aB))) (λ_=>rfl))) (eQ (PW.pt (B8 (aY (nC G) (pv 3) cI (nomark _)) (xE (aY (GF G) (pv 3) (pv 1) (by with_unfolding_all rfl)))))))) (aG dB) aP)))
   (aC (jJ (i:=4) gU.nd rfl rfl rfl rfl (bW.by (N:=fM) (names:=(aJ eE).names) (N':=["name","nought"]) (src:=[none,none]) (by decide +kernel) rfl rfl) (cP K rfl (pv 0)) (λ_ _ _ _=>(eF K rfl (i:=0) (j:=1) rfl (show List.Nodup (["name","nought"]:aV)by decide +kernel) rfl rfl rfl rfl)) (λ_ _ _ _=>(xF (aY (nC G) (pv 1) cI (nomark _)))) (λ_ _ _ _=>(pv 1)))
   (aG (bD (aY (lL G) (aL wA rfl T.n_len rfl (aA (cR (v9 rfl) rfl T.n_set rfl (aA (pv 4) aB)) aB)) (aL bZ rfl T.n_len rfl (aA (pv 4) aB)) (nomark _)) (aG dB) aP)))),?_⟩
  try dsimp only[cxOf,Cx.nox]
  simp only[fM];clear hr F T G;have keep:=aI q (aI g (aI d (aI u (aI ok (aI nd c)))));clear q g d u ok nd c
  walk_at "rd"
  obtain⟨q,g,d,u,ok,nd,c⟩:=keep;have C:=d.len;refine⟨X,.inl g,λJ hJ=>?_⟩;refine eW hJ (TL a b H) ⟨none,none,none,rfl,rfl⟩ (by rintro i σ H' _ ⟨_,_,_,_,rfl⟩;rfl) ?_ ?_
  ·rintro i x σ H2 S ⟨o,Z,Y,rfl,rfl⟩;obtain⟨r,t,I,rfl,U⟩:=d.get S;have e:=ok r (bg I);refine⟨t,_,rfl,hZ.of U,rfl,_,_,rfl,_,_,rfl,rfl,?_⟩;have keep:=aI q (aI e u);clear q g d u ok nd c C hJ S I U e
   walk_at "rd"
   obtain⟨q,e,u⟩:=keep;refine⟨true,rfl,?_⟩;rw[ab (by decide)];refine⟨!decide (r.2=("" : Str)),by simp,?_⟩;by_cases z:r.2=("" : Str)
   ·rw[ab (by simp[z])];exact⟨_,_,_,rfl,rfl⟩
   ·rw[ai (by simp[z])];refine⟨.str r.2,W.map D.str,rfl,.inl ⟨b,_,rfl,u,vD W⟩,by rw[dep_strs];decide,_,rfl,?_⟩;rw[ab]
    ·exact⟨_,_,_,rfl,rfl⟩
    ·rw[AQ,bf (e z)];decide
  ·rintro σ H2 ⟨o,Z,Y,rfl,rfl⟩;have keep:=aI q (aI g (aI d (aI nd (aI c C))));clear q g d ok u nd c C hJ
   walk_at "rd"
   obtain⟨q,g,d,nd,c,C⟩:=keep;refine⟨X,.inl g,λJ2 hJ2=>?_⟩;refine dF hJ2 (TM sm H2) ⟨none,none,rfl,rfl,rfl⟩ (by rintro i O σ H' _ ⟨_,_,_,rfl,_⟩;rfl) ?_ ?_
   ·rintro i x O σ R S ⟨o,Z,rfl,rfl,rfl⟩;obtain⟨r,t,I,rfl,U⟩:=d.get S;have hi:=(ck.mp I).1;have hk:=zU (sm.take i);rw[bq]at hk;have L:=GO (sm.take i) r;rw[←bC I]at L;refine⟨t,_,rfl,hZ.of U,rfl,_,_,rfl,_,_,rfl,rfl,_,rfl,?_⟩;dsimp only[tC];rw[rNeD_ss];refine⟨_,rfl,?_⟩;by_cases z:r.2=("" : Str)
    ·rw[ab (by simp[z])];rw[ai z,bi]at L;exact⟨_,_,rfl,rfl,by rw[L]⟩
    ·rw[ai (by simp[z])];rw[ab z]at L;exact⟨_,rfl,aj (m:=100) (by rw[ae];omega) (by decide),_,_,rfl,rfl,by rw[L,ax];rfl⟩
   ·rintro O σ R ⟨o,Z,rfl,rfl,rfl⟩ l hl;rw[C,br];have B:upd R l (.lst ((nots sm).map V.str)) l=some (.lst ((nots sm).map V.str)):=upd_same;have s3:aD R (upd R l (.lst ((nots sm).map V.str))):=aD.upd hl;generalize upd R l (.lst ((nots sm).map V.str))=H4 at B s3⊢;have hk:=zU sm;refine⟨l,nots sm,rfl,B,nd,by omega,λp hp=>⟨p,(nots sm).length,rfl,upd_same,.int (nots sm).length,?_,.inl (.inl ⟨_,rfl,_,rfl,?_⟩)⟩⟩
    ·have:=(aD.upd (o:=BB P w p (nots sm).length) hp) _ _ B;show Option.map _ ((lenV (upd H4 p (BB P w p (nots sm).length)) (.ref l)).bind _)=_;rw[lenV_l this,ae];rfl
    ·rw[ab (by omega)];exact q _ (s3.trans (aD.upd hp))
structure OP (K:PySem.W.Frag)(C:Addr):Prop where
 cls:HG K C
 n1:iF K C "fixed_rows"
 n2:iF K C "sum_rows"
 n3:iF K C "many_by_name"
 n4:iF K C "nought_by_name"
theorem c6.pairs {H:Hp}{f:cW}{a:List V}(h:c6 H f a):mS H a:=λv b=>by obtain⟨i,d⟩:=List.getElem?_of_mem b;obtain⟨r,t,_,e,c⟩:=h.get d;exact⟨t,_,_,e,c⟩
theorem gM.pairs {H:Hp}{sm:bE}{a:List V}(h:gM H sm a):mS H a:=λv b=>by obtain⟨i,d⟩:=List.getElem?_of_mem b;obtain⟨r,t,_,e,c⟩:=h.get d;exact⟨t,_,_,e,c⟩
theorem c6.prs {H:Hp}:∀{b:cW} {fv:List V},c6 H b fv->fv.map (prV H)=(b.map λr=>((.inr r.1,V.int r.2):dQ×V)).map (λa=>some (kV a.1,a.2))
 | [],_,e=>by cases e;rfl
 | r::l,_,⟨t,us,e,h,q⟩=>by subst e;rw[ba,c6.prs q];unfold prV;simp only[h];rfl
theorem J9 {a:cW}(nd:(a.map (·.1)).Nodup):eJ [] (a.map λr=>((.inr r.1,V.int r.2):dQ×V))=a.map λr=>(.inr r.1,V.int r.2):=by
 rw[nE]
 ·rfl
 ·rw[List.nil_append,List.map_map];exact List.pairwise_map.mpr ((List.pairwise_map.mp nd).imp λh e=>h (Sum.inr.inj e))
def B0 (K:PySem.W.Frag)(C:Addr):Sp:=λvs H Q _=>∃(x c a b:Addr) (fx:cW) (sm:bE) (fv sv:List V),vs=[.ref x,.ref a,.ref b]/\H x=some (.ins C c [])/\H a=some (.lst fv)/\H b=some (.lst sv)/\c6 H fx fv/\gM H sm sv/\bX fx sm /\
 ∀H',dR x H H'->fN K C fx sm H' x->Q .non H'
def SY (c:cW)(H:Hp)(i:Nat)(a:List V)(σ:St)(d:Hp):Prop:=∃o b:Option V,σ=[o,b]/\d=H/\a=(zeros (c.take i)).map V.str
theorem BR (a:cW):(zeros a).length<=a.length:=by unfold zeros;rw[ae];exact List.length_filter_le _ _
theorem M0 {f C:Addr}{fd:FuncData}(F:fY K "__init__" "Signs.__init__" cJ f fd)(T:Txt mg)(co:OP K C)(d:d8 P w K mg base bH 1 "checked_pairs" DX)(u:d8 P w K mg base bH 2 "check_names" zC)(l:d8 P w K mg base bH 2 "check_parts" DW)(g:d8 P w K mg base bH 1 "check_noughts" sC):bN P w K mg base bH 3 f fd gW (B0 K C):=by
 refine F.ok gA (λvs H Q E h=>?_) (λcdv A outer s H vs Q E hr h=>?_)
 ·obtain⟨x,v,a,b,B,sm,I,L,rfl,_⟩:=h;rfl
 ·obtain⟨x,v,a,b,B,sm,I,L,rfl,hx,ha,hb,W,rs,so,q⟩:=h;have hu:=hr.units
  refine⟨_,(aC (aW (i:=3) gA.nd rfl (Or.inl rfl) (aN d (hr.mono (by decide)) pass0 rfl (aA (pv 1) (aA aF (aA (eS T.c_MOST_FIXED rfl) aB)))))
   (aC (aW (i:=4) gA.nd rfl (Or.inl rfl) (aN d (hr.mono (by decide)) pass0 rfl (aA (pv 2) (aA aF (aA (eS T.c_MOST_SUMS rfl) aB)))))
   (aC (cS (aN u (hr.mono (by decide)) pass0 rfl (aA (bF bM (pv 3) (pv 4)) aB)))
   (aC (cS (aN l (hr.mono (by decide)) pass0 rfl (aA (pv 3) aB)))
   (aC (cS (aN g (hr.mono (by decide)) pass0 rfl (aA (pv 4) (aA (gG rfl (bW.by (N:=eX) (names:=(aJ cJ).names) (N':=["name","many"]) (src:=[none,none]) (by decide +kernel) rfl rfl) (cP K rfl (pv 3)) (λ_ _ _ _=>(eF K rfl (i:=0) (j:=1) rfl (show List.Nodup (["name","many"]:aV)by decide +kernel) rfl rfl rfl rfl)) (λ_ _ _ _=>(xF (aY (gJ hu) (pv 1) aF (nomark _)))) (λ_ _ _ _=>(pv 0))) aB))))
   (aC (xG (pv 0) (pv 3) rfl)
   (aC (xG (pv 0) (pv 4) rfl)
   (aC (xG (pv 0) (cR (nL rfl) rfl T.n_dict rfl (aA (pv 3) aB)) rfl)
   (aG (xG (pv 0) (cR (nL rfl) rfl T.n_dict rfl (aA (pv 4) aB)) rfl)))))))))),?_⟩
  try dsimp only[cxOf,Cx.nox]
  simp only[eX];clear hr F T hu d u l g;have keep:=aI q (aI hx (aI ha (aI hb (aI W (aI rs (aI so co))))));clear q hx ha hb W rs so co
  walk_at "rd"
  obtain⟨q,hx,ha,hb,W,rs,so,co⟩:=keep;have lf:=W.len;have ls:=rs.len;have f1:=so.f1;have f2:=so.f2;have s2':=so.s2;have ndf:=(List.nodup_append.mp so.nd).1;have nds':=(List.nodup_append.mp so.nd).2.1;refine⟨a,1,12,I,rfl,ha,W.pairs,by omega,by omega,by omega,λO H1 s1 hl1 h1=>?_⟩;refine⟨b,0,3,L,rfl,s1 _ _ hb,rs.pairs.same s1,by omega,by omega,by omega,λX H2 s2 hl2 h2=>?_⟩;have nxl1:x≠O:=aH hx hl1;have nxl2:x≠X:=aH (s1 _ _ hx) hl2;refine .inr ⟨.lst (I++L),oX (s2 _ _ h1) h2 (al (m:=100) (by omega) (by decide)),λl3 hl3=>?_⟩;have s3:=(s1.trans s2).trans (aD.upd (o:=.lst (I++L)) hl3);have h13:=(aD.upd (o:=.lst (I++L)) hl3) _ _ (s2 _ _ h1);have h23:=(aD.upd (o:=.lst (I++L)) hl3) _ _ h2;have h33:upd H2 l3 (.lst (I++L)) l3=some (.lst (I++L)):=upd_same;generalize upd H2 l3 (.lst (I++L))=H3 at s3 h13 h23 h33⊢;refine⟨l3,B.map (·.1)++sm.map (·.1),I++L,rfl,h33,i8.app (i8.same s3 W.n) (i8.same s3 rs.n),so.nm,so.nd,by simp;omega,λH4 s4=>?_⟩;refine⟨O,B,I,rfl,s4 _ _ h13,W.same (bV.of (s3.trans s4)),so.parts,so.bare,by omega,λH5 s5=>?_⟩;have h15:=s5 _ _ (s4 _ _ h13);have h25:=s5 _ _ (s4 _ _ h23);have sH5:=(s3.trans s4).trans s5;have rf5:=W.same (bV.of sH5);have rs5:=rs.same (bV.of sH5);refine⟨O,rfl,I,.inl h15,λJ hJ=>?_⟩;refine dF hJ (SY B H5) ⟨none,none,rfl,rfl,rfl⟩ (by rintro i acc σ H' _ ⟨_,_,_,rfl,_⟩;rfl) ?_ ?_
  ·rintro i y acc σ H6 hy ⟨o,o',rfl,rfl,rfl⟩;obtain⟨r,t,hn,rfl,ht⟩:=rf5.get hy;have hi:=(ck.mp hn).1;have hk:=BR (B.take i);rw[bq]at hk;have e1:=BQ (B.take i) r;rw[←bC hn]at e1;refine⟨t,_,rfl,hZ.of ht,rfl,_,_,rfl,_,_,rfl,rfl,_,rfl,?_⟩;dsimp only[tC];rw[rEqD_ii];refine⟨_,rfl,?_⟩;by_cases z:r.2=0
   ·rw[ai (bf z)];rw[ai z]at e1;exact⟨_,rfl,aj (m:=100) (by rw[ae];omega) (by decide),_,_,rfl,rfl,by rw[e1,ax];rfl⟩
   ·rw[ab (by simpa using z)];rw[ab z,bi]at e1;exact⟨_,_,rfl,rfl,by rw[e1]⟩
  ·rintro acc σ H6 ⟨o,o',rfl,rfl,rfl⟩ l6 hl6;rw[lf,br];have s6:aD H6 (upd H6 l6 (.lst ((zeros B).map V.str))):=aD.upd hl6;have h66:upd H6 l6 (.lst ((zeros B).map V.str)) l6=some (.lst ((zeros B).map V.str)):=upd_same;generalize upd H6 l6 (.lst ((zeros B).map V.str))=H7 at s6 h66⊢;refine⟨X,l6,sm,L,zeros B,rfl,s6 _ _ h25,rs5.same (bV.of s6),h66,so.nought,so.once,by omega,λH8 s8=>?_⟩;have U:=(sH5.trans s6).trans s8;have h18:=s8 _ _ (s6 _ _ h15);have h28:=s8 _ _ (s6 _ _ h25);have hx8:=U _ _ hx;have rf8:=W.same (bV.of U);have rs8:=rs.same (bV.of U);refine⟨_,rfl,_,rfl,x,C,v,[],rfl,hx8,co.cls,co.n1,by decide,?_⟩;refine⟨_,rfl,_,rfl,x,C,v,_,rfl,upd_same,co.cls,co.n2,?_,?_⟩
   ·have:=fU ("fixed_rows" : Str) (.ref O) [];simp only[List.length_nil]at this;omega
   rw[upd_upd];have e9:∀(fs:List (Str×V)),aD (del H8 x) (upd H8 x (.ins C v fs)):=λfs b o e=>by obtain⟨z1,z2⟩:=hX e;rw[aE z2];exact z1
   have l2f:(putF ("sum_rows" : Str) (.ref X) (putF ("fixed_rows" : Str) (.ref O) [])).length<=2:=by have:=fU ("sum_rows" : Str) (.ref X) (putF ("fixed_rows" : Str) (.ref O) []);have:=fU ("fixed_rows" : Str) (.ref O) [];simp only[List.length_nil]at this;omega
   have k1:(putF ("sum_rows" : Str) (.ref X) (putF ("fixed_rows" : Str) (.ref O) [])).lookup ("many" : Str)=none:=by rw[cK,ab (by decide),cK,ab (by decide)];rfl
   have k2:(putF ("sum_rows" : Str) (.ref X) (putF ("fixed_rows" : Str) (.ref O) [])).lookup ("nought" : Str)=none:=by rw[cK,ab (by decide),cK,ab (by decide)];rfl
   generalize putF ("sum_rows" : Str) (.ref X) (putF ("fixed_rows" : Str) (.ref O) [])=fs2 at l2f k1 k2⊢;have t9:bV H8 (upd H8 x (.ins C v fs2)):=λc xs e=>by rw[aE (λz=>by rw[z,hx8]at e;cases e)];exact e
   have Y:upd H8 x (.ins C v fs2) x=some (.ins C v fs2):=upd_same;have b9:dR x H (upd H8 x (.ins C v fs2)):=λc o nc e=>by rw[aE nc];exact U _ _ e
   have h19:upd H8 x (.ins C v fs2) O=some (.lst I):=by rw[aE nxl1.symm];exact h18
   have h29:upd H8 x (.ins C v fs2) X=some (.lst L):=by rw[aE nxl2.symm];exact h28
   have rf9:=rf8.same t9;have rs9:=rs8.same t9;generalize upd H8 x (.ins C v fs2)=H9 at t9 Y b9 h19 h29 rf9 rs9⊢;refine⟨_,rfl,O,I,_,rfl,h19,rf9.prs,λG hd3=>?_⟩;rw[J9 ndf];have nx3:x≠G:=aH Y hd3;refine⟨_,rfl,x,C,v,fs2,rfl,by rw[aE nx3];exact Y,co.cls,co.n3,by omega,?_⟩;have l3f:=fU ("many_by_name" : Str) (.ref G) fs2;have k3:(putF ("many_by_name" : Str) (.ref G) fs2).lookup ("many" : Str)=none:=by rw[cK,ab (by decide)];exact k1
   have k4:(putF ("many_by_name" : Str) (.ref G) fs2).lookup ("nought" : Str)=none:=by rw[cK,ab (by decide)];exact k2
   have k5:(putF ("many_by_name" : Str) (.ref G) fs2).lookup ("many_by_name" : Str)=some (.ref G):=by rw[cK,ai rfl]
   generalize putF ("many_by_name" : Str) (.ref G) fs2=fs3 at l3f k3 k4 k5⊢;have s10:aD H9 (upd H9 G (.dK (B.map λr=>(.inr r.1,.int r.2)))):=aD.upd hd3;have R:upd (upd H9 G (.dK (B.map λr=>(.inr r.1,.int r.2)))) x (.ins C v fs3) x=some (.ins C v fs3):=upd_same;have S:upd (upd H9 G (.dK (B.map λr=>(.inr r.1,.int r.2)))) x (.ins C v fs3) G=some (.dK (B.map λr=>(.inr r.1,.int r.2))):=by rw[aE nx3.symm];exact upd_same
   have Z:dR x H9 (upd (upd H9 G (.dK (B.map λr=>(.inr r.1,.int r.2)))) x (.ins C v fs3)):=λc o nc e=>by rw[aE nc];exact s10 _ _ e
   generalize upd (upd H9 G (.dK (B.map λr=>(.inr r.1,.int r.2)))) x (.ins C v fs3)=H11 at R S Z⊢;have t11:bV H9 H11:=λc xs e=>Z c _ (λz=>by rw[z,Y]at e;cases e) e;refine⟨_,rfl,X,L,_,rfl,Z _ _ nxl2.symm h29,(rs9.same t11).prs,λd4 hd4=>?_⟩;rw[AB nds'];have nx4:x≠d4:=aH R hd4;have n34:G≠d4:=aH S hd4;refine⟨_,rfl,x,C,v,fs3,rfl,by rw[aE nx4];exact R,co.cls,co.n4,by omega,?_⟩;refine q _ (λc o nc e=>?_) ⟨co.cls,co.n3,co.n4,v,_,G,d4,upd_same,by rw[cK,ab (by decide)];exact k3,by rw[cK,ab (by decide)];exact k4,by rw[cK,ab (by decide)];exact k5,by rw[cK,ai rfl],by rw[aE nx3.symm,aE n34];exact S,by rw[aE nx4.symm];exact upd_same⟩;rw[aE nc];exact(aD.upd hd4) _ _ (Z c o nc (b9 c o nc e))
end
mutual
def NF (sm:bE):D->Prop
 | .tup (.str n::ds)=>NFs sm ds/\∀z,zr sm n=some z->2<=ds.length/\ds.Pairwise leK/\∀e∈ds,opn1 n z e=[e]
 | _=>True
def NFs (sm:bE):List D->Prop
 | []=>True
 | d::ds=>NF sm d/\NFs sm ds
end
theorem xS {sm:bE}:∀{ds:List D},NFs sm ds->∀d∈ds,NF sm d
 | _::_,⟨a,b⟩,d,h=>by
  obtain rfl|h:=cp.mp h
  ·exact a
  ·exact xS b d h
theorem J8 {sm:bE}:∀{ds:List D},(∀d∈ds,NF sm d)->NFs sm ds
 | [],_=>trivial
 | d::ds,h=>⟨h d av,J8 λe k=>h e (ay _ k)⟩
theorem MN {sm:bE}{n z:Str}(hz:zr sm n=some z){d:D}(h:NF sm d):∀e∈opn1 n z d,NF sm e/\opn1 n z e=[e]:=by
 intro e a;have rest:∀d':D,(∀m es,d'≠.tup (.str m::es))->opn1 n z d'=if eqD d' (.str z)=true then []else [d']:=λd' hd=>by
  unfold opn1;split
  ·rename_i m es;exact absurd rfl (hd m es)
  ·rfl
 by_cases c:∃m es,d = .tup (.str m::es)
 ·obtain⟨m,es,rfl⟩:=c;by_cases f:m=n
  ·subst f;have b:opn1 m z (.tup (.str m::es))=es:=by rw[opn1,ai rfl]
   rw[b]at a;unfold NF at h;exact⟨xS h.1 e a,(h.2 z hz).2.2 e a⟩
  ·have b:opn1 n z (.tup (.str m::es))=[.tup (.str m::es)]:=by rw[opn1,ab f]
   rw[b]at a;cases cm.mp a;exact⟨h,b⟩
 ·have b:=rest d λm es z=>c ⟨m,es,z⟩;by_cases q:eqD d (.str z)=true
  ·rw[b,ai q]at a;cases a
  ·rw[ab q]at b;rw[b]at a;cases cm.mp a;exact⟨h,b⟩
theorem JL {sm:bE}{n z:Str}(hz:zr sm n=some z){ds:List D}(h:NFs sm ds):∀e∈opn n z ds,NF sm e/\opn1 n z e=[e]:=λe a=>by obtain⟨d,c,b⟩:=List.mem_flatMap.mp a;exact MN hz (xS h d c) e b
theorem EN {sm:bE}{n:Str}{ps:List D}(f:Fls ps)(h:NFs sm ps):NF sm (knot sm n ps):=by
 unfold knot;cases hz:zr sm n with
 | none =>
  dsimp only;unfold NF;exact⟨h,λz e=>by rw[hz]at e;cases e⟩
 | some z =>
  dsimp only;have g:=bR (opn n z ps);have so:=fC (dP (sO (n:=n) (z:=z) f));have a:∀e∈eV (opn n z ps),NF sm e/\opn1 n z e=[e]:=λe i=>JL hz h e (g.mem_iff.mp i);generalize eV (opn n z ps)=l at so a
  match l,so,a with
  | [],_,_=>unfold one NF;trivial
  | [d],_,a=>exact(a d (cm.mpr rfl)).1
  | d::e::l,so,a =>
   show NF sm (.tup (.str n::d::e::l));unfold NF;refine⟨J8 λx c=>(a x c).1,λj b=>?_⟩;rw[hz]at b;cases b;exact⟨by simp,so,λx c=>(a x c).2⟩
mutual
theorem KR {sm:bE}(hz:∀r∈sm,r.2=("" : Str)∨Fl (.str r.2)):∀{d:D},Tm d->NF sm (flt sm d)
 | .str x,_=>by
  have:flt sm (.str x) = .str x:=by unfold flt;rfl
  rw[this];unfold NF;trivial
 | .tup (.str n::ds),h=>by
  unfold Tm at h;rw[flt];exact EN (gL hz h.2).1 (rS hz h.2)
 | .lst (.str n::ds),h=>by unfold Tm at h;rw[flt];exact EN (gL hz h.2).1 (rS hz h.2)
theorem rS {sm:bE}(hz:∀r∈sm,r.2=("" : Str)∨Fl (.str r.2)):∀{ds:List D},Tms ds->NFs sm (flts sm ds)
 | [],_=>trivial
 | d::ds,⟨a,b⟩=>by rw[flts];exact⟨KR hz a,rS hz b⟩
end
theorem pV {sm:bE}{n z:Str}{ps a:List D}(hz:zr sm n=some z)(f:Fls ps)(p:(opn n z ps).Perm (opn n z a)):knot sm n ps=knot sm n a:=by unfold knot;rw[hz];dsimp only;have f1:=dP (sO (n:=n) (z:=z) f);have f2:∀d∈opn n z a,Fl d:=λd hd=>f1 d (p.mem_iff.mpr hd);rw[kA (λd hd=>f1 d ((bR _).mem_iff.mp hd)) ((bR _).trans (p.trans (bR _).symm)) (fC f1) (fC f2)]
theorem pN {sm:bE}{n z:Str}{gs:List D}(hz:zr sm n=some z)(h:NFs sm gs):(opn1 n z (knot sm n gs)).Perm (opn n z gs):=by
 unfold knot;rw[hz];dsimp only;have b:=bR (opn n z gs);have a:∀e∈eV (opn n z gs),opn1 n z e=[e]:=λe c=>(JL hz h e (b.mem_iff.mp c)).2;refine List.Perm.trans ?_ b;generalize eV (opn n z gs)=l at a
 match l,a with
 | [],_ =>
  show(opn1 n z (.str z)).Perm [];have:opn1 n z (.str z)=[]:=by unfold opn1;dsimp only;rw[ai (by simp[eqD])]
  rw[this]
 | [d],a=>rw[show one n z [d]=d from rfl,a d (cm.mpr rfl)]
 | d::e::l,a =>
  show(opn1 n z (.tup (.str n::d::e::l))).Perm _;rw[opn1,ai rfl]
theorem qF {sm:bE}{n z:Str}{d:D}(hz:zr sm n=some z)(f:Fl d)(h:NF sm d){ps:List D}(l:ps=[d,.str z]∨ps=[.str z,d]):knot sm n ps=d:=by
 have g:opn1 n z (.str z)=[]:=by unfold opn1;dsimp only;rw[ai (by simp[eqD])]
 have r:opn n z ps=opn1 n z d:=by
  rcases l with rfl|rfl
  ·rw[cD,cD,g];simp[opn]
  ·rw[cD,cD,g];simp[opn]
 unfold knot;rw[hz];dsimp only;rw[r];by_cases c:∃es,d = .tup (.str n::es)
 ·obtain⟨es,rfl⟩:=c;unfold NF at h;obtain⟨i,so,_⟩:=h.2 z hz;have b:∀e∈es,Fl e:=by unfold Fl at f;exact dP f
  rw[opn1,ai rfl,kA (λx j=>b x ((bR _).mem_iff.mp j)) (bR es) (fC b) so]
  match es,i with
  | _::_::_,_=>rfl
 ·have a:opn1 n z d=[d]∨(opn1 n z d=[]/\d = .str z):=by
   unfold opn1;split
   ·rename_i m es;refine .inl (ab λe=>c ⟨es,by rw[e]⟩)
   ·by_cases q:eqD d (.str z)=true
    ·rw[ai q];refine .inr ⟨rfl,?_⟩;cases d with
     | str x=>unfold eqD at q;rw[bo q]
     | _=>unfold eqD at q;simp at q
    ·rw[ab q];exact .inl rfl
  rcases a with a|⟨a,o⟩
  ·rw[a];rfl
  ·rw[a,o];rfl
theorem mL {c:cW}{sm:bE}{os:aV}:∀{ds:List D},IsTms c sm os ds->∀d∈ds,bA c sm os d
 | _::_,⟨a,b⟩,d,h=>by
  obtain rfl|h:=cp.mp h
  ·exact a
  ·exact mL b d h
theorem AN {a:cW}{sm:bE}{os:aV}:∀{ds:List D},(∀d∈ds,bA a sm os d)->IsTms a sm os ds
 | [],_=>trivial
 | d::ds,h=>⟨h d av,AN λe k=>h e (ay _ k)⟩
theorem ML {b:cW}{sm:bE}{os:aV}{n z:Str}{d:D}(h:bA b sm os d):∀e∈opn1 n z d,bA b sm os e:=by
 intro e a;unfold opn1 at a;split at a
 ·rename_i m es;split at a
  ·unfold bA at h;exact mL h.2 e a
  ·cases cm.mp a;exact h
 ·split at a
  ·cases a
  ·cases cm.mp a;exact h
theorem HJ {sm:bE}{n z:Str}(h:zr sm n=some z):∃r∈sm,r.1=n/\r.2=z:=by unfold zr at h;obtain⟨r,a,c⟩:=Option.map_eq_some_iff.mp h;have b:=List.find?_some a;exact⟨r,List.mem_of_find?_eq_some a,bo b,c⟩
theorem EL {a:cW}{sm:bE}{os:aV}{n:Str}{ps:List D}(so:bX a sm)(f:Fls ps)(b:Nbs ps)(h:IsTms a sm os ps)(hd:qB a sm n ps.length):bA a sm os (knot sm n ps):=by
 unfold knot;cases hz:zr sm n with
 | none=>dsimp only;unfold bA;exact⟨hd,h⟩
 | some z =>
  dsimp only;obtain⟨r,m,o,j⟩:=HJ hz;have g:=bR (opn n z ps);have c:∀e∈eV (opn n z ps),bA a sm os e:=λe s=>by obtain⟨d,i,u⟩:=List.mem_flatMap.mp (g.mem_iff.mp s);exact ML (mL h d i) e u
  have ne:z=("" : Str)->eV (opn n z ps)≠[]:=λe q=>by subst e;have i:=JM (n:=n) f b (λe=>by rw[e]at hd;have:=kP hd;simp at this);rw[q]at g;exact i (List.Perm.eq_nil g.symm)
  generalize eV (opn n z ps)=l at c ne
  match l,c,ne with
  | [],_,ne =>
   show bA a sm os (.str z);unfold bA;refine .inr ?_;rw[←j];exact so.nought r m λe=>ne (by rw[←j];exact e) rfl
  | [d],c,_=>exact c d (cm.mpr rfl)
  | d::e::l,c,_ =>
   show bA a sm os (.tup (.str n::d::e::l));unfold bA;exact⟨.inr ⟨by simp,by rw[←o];exact cs.mpr ⟨r,m,rfl⟩⟩,AN c⟩
mutual
theorem QJ {a:cW}{sm:bE}{os:aV}(so:bX a sm)(ho:∀x∈os,eC x):∀{d:D},bA a sm os d->bA a sm os (flt sm d)
 | .str x,h=>by
  have:flt sm (.str x) = .str x:=by unfold flt;rfl
  rw[this];exact h
 | .tup (.str n::ds),h=>by
  unfold bA at h;have t:=(pG so ho h.2).1;have g:=gL (eT so) t;rw[flt];exact EL so g.1 g.2 (yH so ho h.2) (by rw[dZ,ae];exact h.1)
 | .lst (.str n::ds),h=>by
  unfold bA at h;have t:=(pG so ho h.2).1;have g:=gL (eT so) t;rw[flt];exact EL so g.1 g.2 (yH so ho h.2) (by rw[dZ,ae];exact h.1)
 | .non,h | .bl _,h | .int _,h | .tup [],h | .lst [],h | .tup (.non::_),h | .tup (.bl _::_),h | .tup (.int _::_),h | .tup (.tup _::_),h | .tup (.lst _::_),h | .lst (.non::_),h | .lst (.bl _::_),h | .lst (.int _::_),h | .lst (.tup _::_),h | .lst (.lst _::_),h=>by unfold bA at h;exact absurd h id
theorem yH {c:cW}{sm:bE}{os:aV}(so:bX c sm)(ho:∀x∈os,eC x):∀{ds:List D},IsTms c sm os ds->IsTms c sm os (flts sm ds)
 | [],_=>trivial
 | d::ds,⟨a,b⟩=>by rw[flts];exact⟨QJ so ho a,yH so ho b⟩
end
mutual
noncomputable def asD (b:Bool):D->D
 | .tup (.str n::ds)=>if b=true then .lst (.str n::asDs b ds)else .tup (.str n::asDs b ds)
 | .lst (.str n::ds)=>if b=true then .lst (.str n::asDs b ds)else .tup (.str n::asDs b ds)
 | d=>d
noncomputable def asDs (b:Bool):List D->List D
 | []=>[]
 | d::ds=>asD b d::asDs b ds
end
theorem lT (b:Bool):∀ds:List D,asDs b ds=ds.map (asD b)
 | []=>rfl
 | d::ds=>by rw[asDs,lT b ds];rfl
mutual
theorem FD {i:cW}{sm:bE}{os:aV}(b:Bool):∀{d:D},bA i sm os d->flt sm (asD b d)=flt sm d/\bA i sm os (asD b d)/\lvs (asD b d)=lvs d/\depD (asD b d)=depD d
 | .str x,h=>by
  have:asD b (.str x) = .str x:=by unfold asD;rfl
  rw[this];exact⟨rfl,h,rfl,rfl⟩
 | .tup (.str n::ds),h=>by
  unfold bA at h;obtain⟨g,f,e,c⟩:=tO b h.2;have a:(asDs b ds).length=ds.length:=by rw[lT,ae]
  rw[asD];cases b with
  | true =>
   rw[ai rfl];refine⟨by rw[flt,flt,g],by unfold bA;rw[a];exact⟨h.1,f⟩,by rw[lvs,lvs,e],by rw[depD,depD,depDs,depDs,c]⟩
  | false =>
   rw[ab (by decide)];refine⟨by rw[flt,flt,g],by unfold bA;rw[a];exact⟨h.1,f⟩,by rw[lvs,lvs,e],by rw[depD,depD,depDs,depDs,c]⟩
 | .lst (.str n::ds),h=>by
  unfold bA at h;obtain⟨g,f,e,c⟩:=tO b h.2;have a:(asDs b ds).length=ds.length:=by rw[lT,ae]
  rw[asD];cases b with
  | true =>
   rw[ai rfl];refine⟨by rw[flt,flt,g],by unfold bA;rw[a];exact⟨h.1,f⟩,by rw[lvs,lvs,e],by rw[depD,depD,depDs,depDs,c]⟩
  | false =>
   rw[ab (by decide)];refine⟨by rw[flt,flt,g],by unfold bA;rw[a];exact⟨h.1,f⟩,by rw[lvs,lvs,e],by rw[depD,depD,depDs,depDs,c]⟩
 | .non,h | .bl _,h | .int _,h | .tup [],h | .lst [],h | .tup (.non::_),h | .tup (.bl _::_),h | .tup (.int _::_),h | .tup (.tup _::_),h | .tup (.lst _::_),h | .lst (.non::_),h | .lst (.bl _::_),h | .lst (.int _::_),h | .lst (.tup _::_),h | .lst (.lst _::_),h=>by unfold bA at h;exact absurd h id
theorem tO {a:cW}{sm:bE}{os:aV}(b:Bool):∀{ds:List D},IsTms a sm os ds->flts sm (asDs b ds)=flts sm ds/\IsTms a sm os (asDs b ds)/\lvss (asDs b ds)=lvss ds/\depDs (asDs b ds)=depDs ds
 | [],_=>⟨rfl,trivial,rfl,rfl⟩
 | d::ds,⟨x,y⟩=>by obtain⟨l,j,i,h⟩:=FD b x;obtain⟨g,f,e,c⟩:=tO b y;rw[asDs];exact⟨by rw[flts,flts,l,g],⟨j,f⟩,by rw[lvss,lvss,i,e],by rw[depDs,depDs,h,c]⟩
end
section
variable {P:Program}{w:World}{K:PySem.W.Frag}{mg:iH}{base:Heap}
mutual
noncomputable def lfs:D->aV
 | .str x=>[x]
 | .tup (.str _::ds)=>lfss ds
 | .lst (.str _::ds)=>lfss ds
 | _=>[]
noncomputable def lfss:List D->aV
 | []=>[]
 | d::ds=>lfs d++lfss ds
end
noncomputable def txD:D->Option Str
 | .str x=>some x
 | _=>none
mutual
theorem HK:∀{d:D},Wk d->∀e∈wlk d,Wk e
 | .str x,h=>λe a=>by
  have:wlk (.str x)=[.str x]:=by rw[wlk] <;> simp
  rw[this,cm]at a;rw[a];exact h
 | .tup (.str n::ds),h=>λe a=>by
  rw[wlk,cp]at a;rcases a with z|z
  ·rw[z];exact h
  ·unfold Wk at h;exact wN h e z
 | .lst (.str n::ds),h=>λe a=>by
  rw[wlk,cp]at a;rcases a with z|z
  ·rw[z];exact h
  ·unfold Wk at h;exact wN h e z
 | .non,h | .bl _,h | .int _,h | .tup [],h | .lst [],h | .tup (.non::_),h | .tup (.bl _::_),h | .tup (.int _::_),h | .tup (.tup _::_),h | .tup (.lst _::_),h | .lst (.non::_),h | .lst (.bl _::_),h | .lst (.int _::_),h | .lst (.tup _::_),h | .lst (.lst _::_),h=>by unfold Wk at h;exact absurd h id
theorem wN:∀{ds:List D},Wks ds->∀e∈wlks ds,Wk e
 | [],_=>λe c=>by rw[wlks]at c;cases c
 | d::ds,⟨a,b⟩=>λe c=>by
  rw[wlks,cr]at c;rcases c with z|z
  ·exact HK a e z
  ·exact wN b e z
end
theorem met {d e:D}{G H:Hp}{v:V}(f:Wk d)(g:e∈wlk d)(c:aT G e v)(s:aD G H):(∃y,e = .str y/\v = .str y)∨(txD e=none/\∃a xs,v = .ref a/\cV H a xs/\isV H (.ref a) (.ty "str")=some false):=by
 rcases HL (HK f e g)with⟨y,rfl⟩|⟨n,ds,rfl|rfl,_⟩
 ·exact .inl ⟨y,rfl,c⟩
 ·obtain⟨a,vs,rfl,b,_⟩:=c;exact .inr ⟨rfl,a,vs,rfl,.inr (s _ _ b),iX (s _ _ b)⟩
 ·obtain⟨a,vs,rfl,b,_⟩:=c;exact .inr ⟨rfl,a,vs,rfl,.inl (s _ _ b),nG (s _ _ b)⟩
end
noncomputable def chn (n:Str):List D->D
 | []=>.str n
 | [d]=>d
 | d::e::r=>.tup [.str n,d,chn n (e::r)]
noncomputable def pr (sm:bE)(n:Str)(ds:List D):D:=match zr sm n with
 | none=>.tup (.str n::ds)
 | some _=>chn n ds
mutual
noncomputable def prD (sm:bE):D->D
 | .tup (.str n::ds)=>pr sm n (prDs sm ds)
 | .lst (.str n::ds)=>pr sm n (prDs sm ds)
 | d=>d
noncomputable def prDs (sm:bE):List D->List D
 | []=>[]
 | d::ds=>prD sm d::prDs sm ds
end
section
variable {fx:cW}{sm:bE}{os:aV}
theorem cA (sm:bE):∀ds:List D,prDs sm ds=ds.map (prD sm)
 | []=>rfl
 | d::ds=>by rw[prDs,cA sm ds];rfl
theorem F4 (sm:bE)(l:List D)(k:Nat):prDs sm (l.drop k)=(prDs sm l).drop k:=by rw[cA,cA,List.map_drop]
theorem oI (sm:bE){n:Str}{ds:List D}{x:D}(h:x = .tup (.str n::ds)∨x = .lst (.str n::ds)):prD sm x=pr sm n (prDs sm ds)/\pts x=ds:=by rcases h with rfl|rfl <;> exact⟨by rw[prD],rfl⟩
theorem mI (sm:bE)(x:Str):prD sm (.str x) = .str x:=by unfold prD;rfl
theorem rV {P:D->Prop}{n:Str}(two:∀d e,P d->P e->P (.tup [.str n,d,e])):∀{ds:List D},ds≠[]->(∀d∈ds,P d)->P (chn n ds)
 | [],h,_=>absurd rfl h
 | [d],_,h=>h d av
 | d::e::r,_,h=>two d _ (h d av) (rV two (by simp) λx a=>h x (ay _ a))
theorem OC {n:Str}{ds:List D}(h:Fls ds)(ne:ds≠[]):Fl (pr sm n ds):=by
 unfold pr;split
 ·unfold Fl;exact h
 ·exact rV (λd e a b=>by unfold Fl;exact⟨a,b,trivial⟩) ne (dP h)
mutual
theorem m7:∀{d:D},Tm d->Fl (prD sm d)
 | .str x,h=>by rw[mI];unfold Tm at h;unfold Fl;exact h
 | .tup (.str n::ds),h=>by
  unfold Tm at h;rw[prD];exact OC (xI h.2) (by rw[cA];simpa using h.1)
 | .lst (.str n::ds),h=>by
  unfold Tm at h;rw[prD];exact OC (xI h.2) (by rw[cA];simpa using h.1)
 | .non,h | .bl _,h | .int _,h | .tup [],h | .lst [],h | .tup (.non::_),h | .tup (.bl _::_),h | .tup (.int _::_),h | .tup (.tup _::_),h | .tup (.lst _::_),h | .lst (.non::_),h | .lst (.bl _::_),h | .lst (.int _::_),h | .lst (.tup _::_),h | .lst (.lst _::_),h=>by unfold Tm at h;exact absurd h id
theorem xI:∀{ds:List D},Tms ds->Fls (prDs sm ds)
 | [],_=>trivial
 | d::ds,⟨a,b⟩=>by rw[prDs];exact⟨m7 a,xI b⟩
end
theorem BP {n:Str}(h:n∈sm.map (·.1)):∃z,zr sm n=some z:=by
 obtain⟨r,a,rfl⟩:=cs.mp h;unfold zr;cases e:sm.find? λq=>decide (q.1=r.1)with
 | none=>exact absurd (bf rfl) (List.find?_eq_none.mp e r a)
 | some q=>exact⟨q.2,rfl⟩
theorem OR (so:bX fx sm){n:Str}{k:Int}(h:(n,k)∈fx):zr sm n=none:=by
 cases e:zr sm n with
 | none=>rfl
 | some z =>
  obtain⟨r,a,b,_⟩:=HJ e;exact absurd rfl ((List.nodup_append.mp so.nd).2.2 n (List.mem_map_of_mem (f:=(·.1)) h) n (b ▸ List.mem_map_of_mem (f:=(·.1)) a))
theorem KM (so:bX fx sm){n:Str}{k:Nat}(h:qB fx sm n k):(zr sm n=none/\(n,(k:Int))∈fx/\0<k)∨∃z,zr sm n=some z/\n∈sm.map (·.1)/\2<=k:=by
 rcases h with⟨b,a⟩|⟨b,a⟩
 ·exact .inl ⟨OR so a,a,b⟩
 ·obtain⟨z,hz⟩:=BP a;exact .inr ⟨z,hz,a,b⟩
theorem E9 {n:Str}:∀{ds:List D},ds≠[]->lvs (chn n ds)=lvss ds
 | [],h=>absurd rfl h
 | [d],_=>by show lvs d=_;rw[lvss,lvss];omega
 | d::e::r,_=>by have:=E9 (n:=n) (ds:=e::r) (by simp);show lvs (.tup [.str n,d,chn n (e::r)])=_;simp only[lvs,lvss]at this⊢;omega
theorem E8 {n:Str}:∀{ds:List D},ds≠[]->nds (chn n ds)+1=ndss ds+ds.length
 | [],h=>absurd rfl h
 | [d],_=>by show nds d+1=_;rw[ndss,ndss];rfl
 | d::e::r,_=>by have:=E8 (n:=n) (ds:=e::r) (by simp);show nds (.tup [.str n,d,chn n (e::r)])+1=_;simp only[nds,ndss,ao]at this⊢;omega
theorem FA {n:Str}:∀{ds:List D},ds≠[]->depD (chn n ds)+1<=depDs ds+ds.length
 | [],h=>absurd rfl h
 | [d],_=>by show depD d+1<=_;rw[depDs,depDs];simp
 | d::e::r,_=>by have:=FA (n:=n) (ds:=e::r) (by simp);show depD (.tup [.str n,d,chn n (e::r)])+1<=_;simp only[depD,depDs,ao]at this⊢;omega
theorem OX {d:D}(h:bA fx sm os d):1<=lvs d:=HY h
theorem mC:∀{ds:List D},IsTms fx sm os ds ↔ ∀e∈ds,bA fx sm os e
 | []=>⟨λ_ _ h=>(nomatch h),λ_=>trivial⟩
 | d::ds=>by unfold IsTms;rw[mC,List.forall_mem_cons]
mutual
theorem mZ {P:D->Prop}(s:∀x,bA fx sm os (.str x)->P (.str x))(t:∀n ds d,(d = .tup (.str n::ds)∨d = .lst (.str n::ds))->qB fx sm n ds.length->IsTms fx sm os ds->(∀e∈ds,P e)->P d):∀{d:D},bA fx sm os d->P d
 | .str x,h=>s x h
 | .tup (.str n::ds),h=>by unfold bA at h;exact t n ds _ (.inl rfl) h.1 h.2 (wR s t h.2)
 | .lst (.str n::ds),h=>by unfold bA at h;exact t n ds _ (.inr rfl) h.1 h.2 (wR s t h.2)
 | .non,h | .bl _,h | .int _,h | .tup [],h | .lst [],h | .tup (.non::_),h | .tup (.bl _::_),h | .tup (.int _::_),h | .tup (.tup _::_),h | .tup (.lst _::_),h | .lst (.non::_),h | .lst (.bl _::_),h | .lst (.int _::_),h | .lst (.tup _::_),h | .lst (.lst _::_),h=>by unfold bA at h;exact absurd h id
theorem wR {P:D->Prop}(s:∀x,bA fx sm os (.str x)->P (.str x))(t:∀n ds d,(d = .tup (.str n::ds)∨d = .lst (.str n::ds))->qB fx sm n ds.length->IsTms fx sm os ds->(∀e∈ds,P e)->P d):∀{ds:List D},IsTms fx sm os ds->∀e∈ds,P e
 | [],_=>λe h=>(nomatch h)
 | d::ds,⟨a,b⟩=>List.forall_mem_cons.mpr ⟨mZ s t a,wR s t b⟩
end
theorem eM {n:Str}{ds:List D}{d:D}(h:d = .tup (.str n::ds)∨d = .lst (.str n::ds)):lvs d=lvss ds/\nds d=1+ndss ds/\depD d=depDs ds+1/\flt sm d=knot sm n (flts sm ds)/\lfs d=lfss ds:=by
 rcases h with rfl|rfl
 ·exact⟨by rw[lvs],by rw[nds],by rw[depD,depDs,show depD (.str n)=0 from rfl];omega,by rw[flt],by rw[lfs]⟩
 ·exact⟨by rw[lvs],by rw[nds],by rw[depD,depDs,show depD (.str n)=0 from rfl];omega,by rw[flt],by rw[lfs]⟩
theorem E1 (so:bX fx sm)(ho:∀x∈os,eC x){n z:Str}(hz:zr sm n=some z):∀{es:List D},IsTms fx sm os es->2<=es.length->flt sm (chn n es)=knot sm n (flts sm es)
 | [],_,h=>by simp at h
 | [_],_,h=>by simp at h
 | [d,e],_,_=>by show flt sm (.tup [.str n,d,e])=_;rw[flt]
 | d::e::g::r,⟨i,f⟩,_=>by
  have c:=E1 so ho hz (es:=e::g::r) f (by simp);have a:=eT so;show flt sm (.tup [.str n,d,chn n (e::g::r)])=_;have f1:=(nI a (kY so ho i).1).1;have b:=(pG so ho f).1;have f2:Fl (flt sm (chn n (e::g::r))):=by rw[c];exact x6 a (gL a b).1 (gL a b).2 (by rw[flts];simp)
  rw[flt];show knot sm n [flt sm d,flt sm (chn n (e::g::r))]=knot sm n (flt sm d::flts sm (e::g::r));refine pV hz ⟨f1,f2,trivial⟩ ?_;rw[cD,cD,cD,c];refine List.Perm.append_left (opn1 n z (flt sm d)) ?_;have:=pN hz (rS a b)
  simpa [opn] using this
theorem EK {n:Str}:∀{ds:List D},ds≠[]->lfs (chn n ds)=lfss ds
 | [],h=>absurd rfl h
 | [d],_=>by show lfs d=_;simp only[lfss,bi]
 | d::e::r,_=>by have:=EK (n:=n) (ds:=e::r) (by simp);show lfs (.tup [.str n,d,chn n (e::r)])=_;simp only[lfs,lfss,bi]at this⊢;rw[this]
theorem D6 {n z:Str}(hz:zr sm n=some z):∀{ds:List D},ds≠[]->(∀e∈ds,prD sm e=e)->prD sm (chn n ds)=chn n ds
 | [],h,_=>absurd rfl h
 | [d],_,h=>h d av
 | d::e::r,_,h=>by have:=D6 hz (ds:=e::r) (by simp) λx a=>h x (ay _ a);show prD sm (.tup [.str n,d,chn n (e::r)]) = .tup [.str n,d,chn n (e::r)];rw[prD,prDs,prDs,prDs,h d av,this];unfold pr;rw[hz];rfl
structure SE (fx:cW)(sm:bE)(os:aV)(d e:D):Prop where
 tm:bA fx sm os e
 lv:lvs e=lvs d
 nd:nds e+1<=nds d+lvs d
 dp:depD e+1<=lvs d+depD d
 fl:flt sm e=flt sm d
 lf:lfs e=lfs d
 id:prD sm e=e
structure SD (fx:cW)(sm:bE)(os:aV)(ds es:List D):Prop where
 tm:IsTms fx sm os es
 ln:es.length=ds.length
 lv:lvss es=lvss ds
 nd:ndss es+ds.length<=ndss ds+lvss ds
 dp:depDs es+ds.length<=lvss ds+depDs ds
 fl:flts sm es=flts sm ds
 lf:lfss es=lfss ds
 id:∀e∈es,prD sm e=e
theorem D5:∀{ds:List D},IsTms fx sm os ds->(∀e∈ds,SE fx sm os e (prD sm e))->SD fx sm os ds (prDs sm ds)
 | [],_,_=>⟨trivial,rfl,rfl,ac _,ac _,rfl,rfl,λ_ h=>nomatch h⟩
 | d::ds,⟨t1,f⟩,h=>by
  have a:=h d av;have b:=D5 f λe c=>h e (ay _ c);have i:=OX t1;have g:=iI f;have m:=a.nd;have l:=a.dp;have j:=b.nd;have b2:=b.dp;rw[prDs];refine⟨⟨a.tm,b.tm⟩,by rw[ao,ao,b.ln],by rw[lvss,lvss,a.lv,b.lv],?_,?_,by rw[flts,flts,a.fl,b.fl],by rw[lfss,lfss,a.lf,b.lf],λe c=>?_⟩
  ·rw[ndss,ndss,lvss,ao];omega
  ·rw[depDs,depDs,lvss,ao];omega
  ·obtain rfl|c:=cp.mp c
   ·exact a.id
   ·exact b.id e c
theorem xH (so:bX fx sm)(ho:∀x∈os,eC x){d:D}(h:bA fx sm os d):SE fx sm os d (prD sm d):=by
 refine mZ (P:=λd=>SE fx sm os d (prD sm d)) (λx s=>?_) (λn ds d hd j i r=>?_) h
 ·rw[mI];exact⟨s,rfl,by unfold nds lvs;exact ac _,by unfold lvs;show 0+1<=1+0;omega,rfl,rfl,mI _ _⟩
 ·have b:=D5 i r;obtain⟨c,q,o,m,l⟩:=eM (sm:=sm) hd;have K:=b.nd;have b2:=b.dp;rw[(oI sm hd).1];rcases KM so j with⟨hz,F,E⟩|⟨z,hz,u,G⟩
  ·have f:pr sm n (prDs sm ds) = .tup (.str n::prDs sm ds):=by unfold pr;rw[hz]
   obtain⟨C,B,A,w,v⟩:=eM (sm:=sm) (d:=.tup (.str n::prDs sm ds)) (.inl rfl);rw[f];refine⟨by unfold bA;rw[b.ln];exact⟨j,b.tm⟩,by rw[C,c,b.lv],by rw[B,q,c];omega,by rw[A,c,o];omega,by rw[w,m,b.fl],by rw[v,l,b.lf],?_⟩;rw[prD,cA,List.map_congr_left (g:=id) b.id,List.map_id];exact f
  ·have f:pr sm n (prDs sm ds)=chn n (prDs sm ds):=by unfold pr;rw[hz]
   have ne:prDs sm ds≠[]:=λz=>by have:=b.ln;rw[z]at this;simp only[List.length_nil]at this;omega
   have J:=E8 (n:=n) ne;have I:=FA (n:=n) ne;have H:=b.ln;rw[f];refine⟨rV (λd e a b=>by unfold bA;exact⟨.inr ⟨by simp,u⟩,a,b,trivial⟩) ne (mC.mp b.tm),by rw[E9 ne,c,b.lv],by rw[q,c];omega,by rw[c,o];omega,by rw[E1 so ho hz b.tm (by omega),m,b.fl],by rw[EK ne,l,b.lf],D6 hz ne b.id⟩
theorem IY (b:Bool){d:D}(h:bA fx sm os d):prD sm (asD b d)=prD sm d:=by
 refine mZ (P:=λd=>prD sm (asD b d)=prD sm d) (λx _=>by unfold asD;rfl) (λn ds d hd _ a c=>?_) h;have e:prDs sm (asDs b ds)=prDs sm ds:=by rw[cA,cA,lT,List.map_map];exact List.map_congr_left c
 rw[(oI sm hd).1];rcases hd with rfl|rfl <;> (rw[asD];split <;> rw[prD,e])
end
section
variable {P:Program}{w:World}{K:PySem.W.Frag}{mg:iH}{base:Heap}
def spInP (K:PySem.W.Frag)(C:Addr):Sp:=λvs H Q _=>∃(g:Addr) (fx:cW) (sm:bE) (n:Str) (a:Addr) (ds:List D) (ws:List V),vs=[.ref g,.str n,.ref a]/\fN K C fx sm H g/\H a=some (.lst ws)/\Reps H ds ws/\ds≠[]/\ds.length<=1000 /\
 ∀(b:V) (H':Hp),aD H H'->aT H' (pr sm n ds) b->Q b H'
def TZ (g a p:Addr)(n:Str)(ds:List D)(H:Hp)(i:Nat)(σ:St)(b:Hp):Prop:=∃(w:V) (o4:Option V),σ=[some (.ref g),some (.str n),some (.ref a),some w,o4]/\aD H b/\aT b (chn n (ds.drop (ds.length - 1 - i))) w
theorem A3 {n:Str}{ds:List D}{j:Nat}{d:D}(h:ds[j]?=some d)(l:j+1<ds.length):chn n (ds.drop j) = .tup [.str n,d,chn n (ds.drop (j+1))]:=by obtain⟨a,rfl⟩:=ck.mp h;rw[List.drop_eq_getElem_cons a,List.drop_eq_getElem_cons l];rfl
theorem CN {f C:Addr}{fd:FuncData}(F:fY K "in_pairs" "in_pairs" kG f fd)(T:Txt mg)(b:yV P w K mg base bH 1 C "nought" (iR K C)):bN P w K mg base bH 2 f fd tZ (spInP K C):=by
 refine F.ok jB (λvs H Q E h=>?_) (λcdv A outer s H vs Q E O h=>?_)
 ·obtain⟨g,fx,sm,n,a,ds,ws,rfl,_⟩:=h;rfl
 ·obtain⟨g,fx,sm,n,a,ds,ws,rfl,sg,I,r,ne,X,q⟩:=h;have j:=O.units
  refine⟨_,(aC (bD (aY pO (m9 b (O.mono (by decide)) pass0 (pv 0) (aA (pv 1) aB)) dE (nomark _)) (aG (aM (cR fX rfl T.n_tuple rfl (aA (bF bM (cQ (aA (pv 1) aB)) (pv 2)) aB)))) aP)
   (aC (aW (i:=3) jB.nd rfl (Or.inl rfl) (aS bB (pv 2) (fQ dS aF) (λ_ _=>rfl)))
   (aC (dG dc rfl (cP K rfl (fS rJ (pv 2) (bT (fQ dS aF)) cF (bT (fQ dS aF)))) (aZ (i:=4) jB.nd rfl (Or.inl rfl)) (aG (aW (i:=3) jB.nd rfl (Or.inl rfl) (bK (aA (pv 1) (aA (pv 4) (aA (pv 3) aB)))))))
   (aG (aM (pv 3)))))),?_⟩
  try dsimp only[cxOf,Cx.nox]
  clear O F T j b;simp only[eL];obtain⟨dx,fs,_,_,h1,_,h3,_⟩:=sg.ex;have v:=Reps.len r;refine⟨_,rfl,g,dx,fs,rfl,h1,h3,_,rfl,g,n,fx,sm,rfl,sg,?_⟩;refine⟨rfl,_,rfl,cN (λc=>?_) (λc=>?_)⟩
  ·have hz:zr sm n=none:=by
    have c:=bo c;unfold nulV at c;cases e:zr sm n with
    | none=>rfl
    | some z=>rw[e]at c;cases c
   have W:pr sm n ds = .tup (.str n::ds):=by unfold pr;rw[hz]
   rw[W]at q;refine⟨_,rfl,show 1<=sizeLine by decide,λp B=>⟨_,rfl,.inr ⟨.lst (.str n::ws),oX upd_same (by rw[aE (aH I B)];exact I) (al (m:=1100) (by simp;omega) (by decide)),λZ R=>⟨Z,.str n::ws,rfl,.inl upd_same,λl6 H6 G=>?_⟩⟩⟩⟩;rcases G with⟨G,_⟩|⟨_,S,rfl⟩
   ·rw[upd_same]at G;cases G
   ·have Y:aD H (upd (upd (upd H p (.lst [.str n])) Z (.lst (.str n::ws))) l6 (.tup (.str n::ws))):=((aD.upd B).trans (aD.upd R)).trans (aD.upd S);exact q _ _ Y ⟨l6,_,rfl,upd_same,.str n,ws,rfl,rfl,Reps.same Y r⟩
  ·obtain⟨z,hz⟩:∃z,zr sm n=some z:=by
    have c:=of_decide_eq_false c;unfold nulV at c;cases e:zr sm n with
    | none=>rw[e]at c;exact absurd rfl c
    | some z=>exact⟨z,rfl⟩
   have W:pr sm n ds=chn n ds:=by unfold pr;rw[hz]
   rw[W]at q;have l1:1<=ds.length:=List.length_pos_iff.mpr ne;obtain⟨l,hw0⟩:∃l,ws[ds.length - 1]?=some l:=⟨_,aw (by omega)⟩
   obtain⟨d0,U,r0⟩:=Reps.get r hw0;have e0:ds.drop (ds.length - 1)=[d0]:=by obtain⟨g1,rfl⟩:=ck.mp U;rw[List.drop_eq_getElem_cons g1,List.drop_eq_nil_of_le (by omega)]
   refine⟨_,rfl,1,rfl,l,?_,_,rfl,2,rfl,-2,rfl,1,rfl,-1,rfl,rfl,rfl,rfl,a,ws,rfl,I,λz=>by rw[z]at v;simp at v;omega,λp B=>⟨p,_,rfl,.inl upd_same,λJ hJ=>?_⟩⟩
   ·rw[ixV_l I,←v]at *;show atI ws (-1)=_;unfold atI ixN;rw[ab (by decide),ai (by omega)];have:(-1+(ws.length:Int)).toNat=ws.length - 1:=by omega
    rw[this];exact hw0
   ·have o:aD H (upd H p (.lst ws.dropLast.reverse)):=aD.upd B;have L:upd H p (.lst ws.dropLast.reverse) p=some (.lst ws.dropLast.reverse):=upd_same;generalize upd H p (.lst ws.dropLast.reverse)=H1 at o L hJ⊢;refine eW hJ (TZ g a p n ds H1) ⟨l,none,rfl,aD.refl _,by rw[Nat.sub_zero,e0];exact aT.same o r0⟩ (λi σ H' _ ⟨_,_,_,s,_⟩=>by rw[s _ _ L,L]) ?_ ?_
    ·rintro i x σ H2 N ⟨w,o4,rfl,s2,d⟩;have hi:=(ck.mp N).1;rw[List.length_reverse,List.length_dropLast]at hi;have hx':ws[ds.length - 2 - i]?=some x:=by rw[List.getElem?_reverse (by rw[List.length_dropLast];exact hi),List.length_dropLast,List.getElem?_dropLast,ai (by omega)]at N;rw[show ds.length - 2 - i=ws.length - 1 - 1 - i by omega];exact N
     obtain⟨e,he,re⟩:=Reps.get r hx';refine⟨_,rfl,_,rfl,_,rfl,show 3<=sizeLine by decide,λu j=>⟨.ref u,some x,rfl,s2.trans (aD.upd j),?_⟩⟩;rw[show ds.length - 1 - (i+1)=ds.length - 2 - i by omega,A3 he (by omega),show ds.length - 2 - i+1=ds.length - 1 - i by omega];exact⟨u,_,rfl,upd_same,_,_,rfl,rfl,_,_,rfl,aT.same ((o.trans s2).trans (aD.upd j)) re,_,_,rfl,aT.same (aD.upd j) d,rfl⟩
    ·rintro σ H2 ⟨w,o4,rfl,s2,d⟩;rw[List.length_reverse,List.length_dropLast,v,Nat.sub_self,List.drop_zero]at d;exact⟨_,rfl,q w H2 (o.trans s2) d⟩
end
end Lw
namespace Lw
open PySem PySem.Spec PyProof.Rows L2
noncomputable def x4 (s:Stmt):Expr:=match cH s with
 | [_,.Return (some (.Call _ [_,_,e] _ _)) _]=>e
 | _=>.Name "" ⟨0,0,0,0⟩
noncomputable abbrev pP:Arguments:=KH (x4 cY)
noncomputable abbrev bP:Expr:=KI (x4 cY)
noncomputable abbrev scP:Scope:=lamSc (x4 cY)
noncomputable def qP:Str:="paired.<locals>.<lambda>"
noncomputable abbrev oP (c0 c':Addr)(pm ctv:Value):Obj:=PySem.W.kla_obj "<lambda>" qP pP bP scP [("signs",c0)] pm c' ctv
noncomputable abbrev envP (L fl c0 c':Addr):Env:=newEnv scP L mainGlobals [("signs",c0)] (qP++".<locals>.") (some fl) (.ref c') none builtinsNs
noncomputable def cxP (P:Program)(w:World)(K:PySem.W.Frag)(mg:iH)(base:Heap)(A:Around)(outer:List Env)(s:Shared)(H:Hp)(fl a b:Addr):Cx where
 prog:=P
 w:=w
 K:=K
 mg:=mg
 base:=base
 A:=A.deeper (envP s.heap.objs.size fl a b)
 N:=["name","parts","signs"]
 s₀:=s
 H₀:=H
 env:=envP s.heap.objs.size fl a b
 outer:=outer
 stack:=envP s.heap.objs.size fl a b::outer
 ex:=[]
 fn:=λ_=>false
 calm:=true
 pn:=[]
 xe:=λ_ _=>False
theorem AR {x:Str}(h:scP.names.lookup x=some .cell∨scP.names.lookup x=some .free):x="signs":=by
 have all:∀y∈scP.names,(y.2 = .cell∨y.2 = .free)->y.1=("signs" : Str):=by decide +kernel
 rcases h with h|h
 ·exact all _ (PySem.mem_of_lookup h) (.inl rfl)
 ·exact all _ (PySem.mem_of_lookup h) (.inr rfl)
section
variable {P:Program}{w:World}{K:PySem.W.Frag}{mg:iH}{base:Heap}
theorem KF {A:Around}{outer:List Env}{s:Shared}{H:Hp}{g fl d E a C:Addr}{pm Y S R:Value}{f L:Obj}{G:gN}{tq:Tok}{n:Str}{k:Nat}{Q:VK}(hr:d5 (k+1) A)(j:uI P w K mg base A outer s H)
  (hfl:H fl=some (pinO fl (oP d E pm Y))) (m:H d=some (pinO d f)) (X:f.data = .cell (some (.ref g))) (hc':H E=some (pinO E L)) (hcd:L.data = .fields G) (hq:G[1]?=some (.str qP tq))
  (O:d8 P w K mg base bH k "in_pairs" (spInP K C)) (r1:aU (.str n) S) (r2:aU (.ref a) R) (sp:spInP K C [.ref g,.str n,.ref a] (del1 H d) (λv H'=>H' d=none->Q v (upd H' d (pinO d f))) E0) :
  codeAny (model P w) A (.call (.ref fl) ⟨[S,R],[]⟩) (CR bH outer P w H s Q E0) s:=by
 have gfl:=hV j.hok hfl;have g0:=hV j.hok m;have g':=hV j.hok hc';have lim:s.heap.NoLimit:=j.mod.nolimit.keeps λb o e=>(j.bs b o e).1;refine PySem.W.kla_callFunE hr.depth gfl rfl rfl rfl rfl ⟨E,L,G,tq,rfl,g',hcd,hq⟩ ?_;rw[show bindArgs (PySem.W.kla_fn "<lambda>" qP pP bP scP [("signs",d)] pm (.ref E) Y) ⟨[S,R],[]⟩=pure [(("name" : Str),S),(("parts" : Str),R)]from rfl];have nc:∀x∈scP.names,x.2≠.cell:=by decide +kernel
 have nl:∀x∈[(("name" : Str),S),(("parts" : Str),R)],scP.names.lookup x.1=some .local:=by
  intro x l;obtain rfl|l:=cp.mp l
  ·rfl
  ·rw[cm.mp l];rfl
 refine ak (wpAny_newFunctionEnv nc nl (λh' hns U=>⟨lim.fresh _ U,?_⟩) rfl);have Z:∀b o,s.heap.get? b=some o->h'.get? b=some o:=λb o e=>U.extBut b o (bj (az e)) (af _ e);have T:=j.hok.del m;have nfr:d∉frs outer:=λz=>by have:=j.frf d z;rw[m]at this;cases this
 have I:aQ (cxP P w K mg base A outer s (del1 H d) fl d E) [] [some (.str n),some (.ref a),some (.ref g)] (del1 H d) {s with heap:=h',toks:=s.toks+2}:=by
  have N:∀b:Addr,b∉(cxP P w K mg base A outer s (del1 H d) fl d E).ex:=λb z=>absurd (show b∈([]:List Addr)from z) (by simp);have one:∀x c,(cxP P w K mg base A outer s (del1 H d) fl d E).env.cells.lookup x=some c->x=("signs" : Str)/\c=d:=λx c e=>by have e':[(("signs" : Str),d)].lookup x=some c:=e;have:=PySem.mem_of_lookup e';rw[cm]at this;cases this;exact⟨rfl,rfl⟩
  refine⟨⟨j.mod,rfl,rfl,rfl,ac _,λx y c r B=>?_,λx l=>?_,λx c h=>absurd h (by simp[cxP]),λ_=>hr.hd,Around.frames_deeper j.frames,.inr ⟨rfl,rfl⟩,λb z=>absurd z (N b),λb o e=>⟨(j.bs b o e).1,dH (j.bs b o e).2⟩,j.bsz,λb _ _=>N b,λb z=>absurd z (N b),j.funs,λb z=>dH (j.frf b z)⟩,
   rfl,j.bare,Un.kept Z,⟨_,hns,λi x v r B h3=>?_⟩,λx c h=>?_,T.fresh (ac _),λx c h=>?_,λp hp=>absurd (show p∈([]:c9)from hp) (by simp),T.kept Z,rfl⟩
  ·rw[(one x c r).1,(one y c B).1]
  ·rw[AR l];exact⟨d,rfl⟩
  ·match i,r,B with
   | 0,r,B=>cases r;cases B;exact⟨S,r1,.inl ⟨rfl,rfl⟩⟩
   | 1,r,B=>cases r;cases B;exact⟨R,r2,.inl ⟨rfl,rfl⟩⟩
   | 2,r,B=>cases r;cases B;exact⟨.ref g,rfl,.inr ⟨.inr rfl,d,rfl,f,Z _ _ g0,X⟩⟩
   | i+3,r,B=>cases r
  ·rw[(one x c h).2];exact⟨_,f,Z _ _ g0,X⟩
  ·rw[(one x c h).2];exact fW
 have pb:PE (cxP P w K mg base A outer s (del1 H d) fl d E) bP (tCall (spInP K C) [] E0 (tCons (tVar 2) (tCons (tVar 0) (tCons (tVar 1) tNil)))):=aN O (hr.deeper _) pass0 rfl (aA (pv 2) (aA (pv 0) (aA (pv 1) aB)));refine PySem.W.kla_codeExpr (wpAny_mono (pb [] _ _ _ (λv H'=>H' d=none->Q v (upd H' d (pinO d f))) I ⟨_,rfl,_,rfl,_,rfl,sp⟩) (λu s' ⟨v,H',J,rv,q⟩=>?_) λ_ _ z=>z.elim);have un:Un (frs outer) [] (del1 H d) H' s.heap s'.heap:=J.base;have gs:=un.keep d f g0 fW nfr (by simp);have nn:=un.free d f g0 fW (by simp);refine⟨v,upd H' d (pinO d f),J.os,J.bare,?_,J.hok.back nn gs,rv,q nn⟩;have ne:∀b u,H b=some u->(∀φ,u≠.ext φ)->b≠d:=λb u e z w=>by rw[w,m]at e;cases e;exact z _ rfl
 refine⟨λb o e z hb l=>un.keep b o e (dH z) hb l,λb o e z hb l=>un.slot b o e (dH z) hb l,λb o e z l=>?_,λb o e l=>un.there b o e l,λb xs e=>?_,λb o u' e=>?_,λb ps e=>?_⟩
 ·rw[aE (λw=>by rw[w,m]at z;cases z)];exact un.free b o e (dH z) l
 ·have F:=ne b _ e (λφ=>by simp);rw[aE F];exact un.tups b xs (by rw[cG F];exact e)
 ·have F:=ne b _ e (λφ=>by simp);rw[aE F];exact un.frzs b o u' (by rw[cG F];exact e)
 ·have F:=ne b _ e (λφ=>by simp);rw[aE F];exact un.tbls b ps (by rw[cG F];exact e)
end
def LN (H:Hp)(fl a g:Addr):Prop:=∃(b:Addr) (pm ctv:Value) (oc0 oc':Obj) (vsc:gN) (tq:Tok),H fl=some (pinO fl (oP a b pm ctv))/\H a=some (pinO a oc0)/\oc0.data = .cell (some (.ref g))/\H b=some (pinO b oc')/\oc'.data = .fields vsc/\vsc[1]?=some (.str qP tq)
theorem LN.same {H H':Hp}{fl e g:Addr}(h:LN H fl e g)(s:aD H H'):LN H' fl e g:=by obtain⟨r,i,d,b,c,a,f,q,o,m,l,j⟩:=h;exact⟨r,i,d,b,c,a,f,s _ _ q,s _ _ o,m,s _ _ l,j⟩
def tLamP (K:PySem.W.Frag)(C:Addr)(i:Nat)(t:TA):TE:=λσ H Q=>∃fl,σ[i]?=some (some (.ref fl))/\t σ H λvs b=>∃(d g:Addr) (fx:cW) (sm:bE) (n:Str) (a:Addr) (ds:List D) (ws:List V),vs=[.str n,.ref a]/\LN b fl d g /\
 fN K C fx sm b g/\b a=some (.lst ws)/\Reps b ds ws/\ds≠[]/\ds.length<=1000/\∀(c:V) (H':Hp),aD b H'->aT H' (pr sm n ds) c->Q c H'
theorem zN {X:Cx}{C:Addr}{k i:Nat}{E m:Expr}{t:TA}{p d:Pos}(hN:X.N[i]?=some ("whole" : Str))(hv:RA X.env.scope "whole")(O:d8 X.prog X.w X.K X.mg X.base bH k "in_pairs" (spInP X.K C))(hr:d5 (k+1) X.A)(ha:PA X [E,m] t)
  (he:starEach [E,m] X.env=(false,eval E X.env)::starEach [m] X.env:=by rfl) (G:(backTo d (starEach [m] X.env)).any (·.1)=false:=by rfl):PE X (.Call (.Name "whole" p) [E,m] [] d) (tLamP X.K C i t):=by
 intro j s σ H Q I h;obtain⟨fl,J,h⟩:=h;have pw:PE X (.Name "whole" p) (tVar i):=xJ hN hv;refine wpAny_Call_Name_kw (thn (pw j s σ H (λx H'=>x = .ref fl/\H'=H) I ⟨_,J,rfl,rfl⟩) λf s0 ⟨x,H0,I0,rx,e3,e4⟩=>?_);subst e3 e4;cases rx;have c:=ha d j s0 σ H0 _ I0 h;rw[he]at c⊢;refine PySem.W.callWith_of (P:=λh=>∃o Y,h.get? fl=some o/\o.data = .func Y) (by show((false || (backTo d (starEach [m] X.env)).any (·.1)) || false)=false;rw[G];rfl) (λh ⟨o,Y,z1,Z⟩=>⟨.frame,.inl rfl,?_⟩) (Calls.evalArgs_plain (thn c λus s1 ⟨vs,H1,T,rv,q⟩=>?_))
 ·intro A' Q' E' s' kp q;unfold keeperOf;refine aa (wpAny_load (kp _ _ z1) ?_);rw[Z];exact ak q
 ·obtain⟨c0,g,fx,sm,n,a,ds,ws,rfl,la,sg,L,rd,S,l,q⟩:=q;obtain⟨c',pm,ctv,oc0,oc',vsc,tq,U,v,l3,l4,l5,l6⟩:=la;obtain⟨u1,u2,rfl,r1,r2⟩:=aX.two rv;refine⟨⟨_,_,hV T.hok U,rfl⟩,?_⟩;refine wpAny_call (codeAny_mono (KF (Q:=Q) hr T.env0 U v l3 l4 l5 l6 O r1 r2 ⟨g,fx,sm,n,a,ds,ws,rfl,sg.del1 v,by rw[cG (λz=>by rw[z,v]at L;cases L)];exact L,Reps.del1 v rd,S,l,λv' H' F rp nn=>q v' _ (λb o e=>?_) (aT.same (aD.upd nn) rp)⟩) λr s' B=>?_)
  ·by_cases z:b=c0
   ·subst z;rw[v]at e;cases e;exact upd_same
   ·rw[aE z];exact F b o (by rw[cG z];exact e)
  ·cases r with
   | error e=>exact B.elim
   | ok R =>
    cases R with
    | ret u=>exact T.after B
    | next=>exact B.elim
    | brk=>exact B.elim
    | cont=>exact B.elim
end Lw
namespace Lw
open PySem L2
section
variable {P:Program}{w:World}{K:PySem.W.Frag}{mg:iH}{base:Heap}
def spFWP (K:PySem.W.Frag)(C:Addr):Sp:=λvs H Q _=>∃(b fl c g:Addr) (fx:cW) (sm:bE) (d:D) (v:V),vs=[v,.ref b,.ref fl]/\H b=some (.dK [])/\LN H fl c g/\fN K C fx sm H g/\aT H d v/\Tm d/\nds d<=1000 /\
 ∀(a:V) (H':Hp),aD H H'->aT H' (prD sm d) a->Q a H'
def SL (v:V)(b fl m l:Addr)(sm:bE)(W:List D)(ws:List V)(H:Hp)(i:Nat)(σ:St)(a:Hp):Prop:=∃(us:List V) (o4 o5:Option V),σ=[some v,some (.ref b),some (.ref fl),some (.ref m),o4,o5]/\a m=some (.lst us)/\aD H a/\a l=some (.lst ws)/\Reps a (prDs sm (stk (W.drop (W.length - i)))).reverse us
def SM (m l p:Addr)(ws:List V)(o:HO)(fs:List D)(H:Hp)(j:Nat)(b:List V)(σ:St)(a:Hp):Prop:=∃(us:List V) (o0:Option V),σ=[o0,some (.ref m)]/\a m=some (.lst us)/\aD H a/\a l=some (.lst ws)/\a p=some o/\Reps a (fs.drop j).reverse us/\Reps a (fs.take j) b
theorem P5 {f C:Addr}{fd:FuncData}(F:fY K "from_within" "from_within" dJ f fd)(T:Txt mg)(L:d8 P w K mg base bH 1 "walked" nX)(I:d8 P w K mg base bH 2 "in_pairs" (spInP K C)):bN P w K mg base bH 8 f fd jT (spFWP K C):=by
 refine F.ok cU (λvs H Q E h=>?_) (λcdv A outer s H vs Q E hr h=>?_)
 ·obtain⟨fi,fl,c0,g,fx,sm,d,v,rfl,_⟩:=h;rfl
 ·obtain⟨fi,fl,c0,g,fx,sm,d,v,rfl,W,la,sg,rep,tm,c,q⟩:=h;have hu:=hr.units
  refine⟨_,(aC (aW (i:=3) cU.nd rfl (Or.inr rfl) (cQ aB))
   (aC (dG dc rfl (oJ K rfl rfl T.n_reversed (aA (aN L (hr.mono (by decide)) pass0 rfl (aA (pv 0) aB)) aB)) (aZ (i:=4) cU.nd rfl (Or.inl rfl)) (aG (bD (aO K rfl (aL aK rfl T.n_isinstance rfl (aA (pv 4) (aA (bG (v:=V.ty "str") rfl T.n_str rfl rfl) aB))) (λ_=>rfl)) (aG (cS (iU c4 db da dY (pv 3) (aA (zO (aj (bx (by decide) _) hu) (pv 1) (pv 4) (pv 4) ⟨rfl,rfl,rfl,rfl⟩) aB)))) (aC (jJ (i:=5) cU.nd rfl rfl rfl rfl (bW.by (N:=fG) (names:=(aJ dJ).names) (N':=["part","made"]) (src:=[none,some 3]) (by decide +kernel) rfl rfl) (cP K rfl (dC gT (pv 4) (bT aF) cF)) (λ_ _ _ _=>(aZ (i:=0) (show List.Nodup (["part","made"]:aV)by decide +kernel) rfl (Or.inl rfl))) (λ_ _ _ _=>dN) (λ_ _ _ _=>(D8 K rfl c4 PySem.F.slot_list_pop PySem.F.type_list_pop xU (pv 1))))
   (aG (cS (iU c4 db da dY (pv 3) (aA (zN (i:=2) rfl (Or.inl rfl) I (hr.mono (by decide)) (aA (aS bB (pv 4) aF (λ_ _=>rfl)) (aA (pv 5) aB))) aB))))))))
   (aG (aM (aS bB (pv 3) aF (λ_ _=>rfl)))))),?_⟩
  try dsimp only[cxOf,Cx.nox]
  simp only[fG];clear hr F T hu L I;have keep:=aI q (aI W (aI la (aI sg (aI rep (aI tm c)))));clear q W la sg rep tm c
  walk_at "rd"
  obtain⟨q,W,la,sg,rep,tm,c⟩:=keep;refine⟨au _,λm hm=>?_⟩;have s1:aD H (upd H m (.lst [])):=aD.upd hm;have hm1:upd H m (.lst []) m=some (.lst []):=upd_same;generalize upd H m (.lst [])=H1 at s1 hm1⊢;refine⟨_,rfl,d,v,H,rfl,s1,rep,m6 tm,c,λl ws H2 s2 hl h2 rws=>⟨l,ws,rfl,h2,?_⟩⟩;have lw:=Reps.len rws;have lk:=nR d;have hml:m≠l:=λz=>by rw[z,hl]at hm1;cases hm1
  refine AS ws (SL v fi fl m l sm (wlk d) ws H) ⟨[],none,none,rfl,s2 _ _ hm1,s1.trans s2,h2,by rw[Nat.sub_zero,List.drop_length];rfl⟩ (λi σ H3 _ ⟨_,_,_,_,_,_,h,_⟩=>h) ?_ ?_
  ·rintro i x σ H3 hi hx ⟨us,o4,o5,rfl,h3,s3,Y,ru⟩;obtain⟨e,he,rx⟩:=Reps.get rws hx;rw[lw]at hi he;have hlt:(wlk d).length - 1 - i<(wlk d).length:=by omega
   have B:(wlk d).drop ((wlk d).length - (i+1))=e::(wlk d).drop ((wlk d).length - i):=by have e1:(wlk d)[(wlk d).length - 1 - i]=e:=(ck.mp he).2;rw[show(wlk d).length - (i+1)=(wlk d).length - 1 - i by omega,List.drop_eq_getElem_cons hlt,e1,show(wlk d).length - 1 - i+1=(wlk d).length - i by omega]
   have R:wlk d=(wlk d).take ((wlk d).length - (i+1))++e::(wlk d).drop ((wlk d).length - i):=by rw[←B,List.take_append_drop]
   obtain⟨rest,G⟩:=pE (m6 tm) R;have sub:=nV tm e (bg he);have inS:∀y∈(wlk d).drop ((wlk d).length - i),y∈wlk d:=λy hy=>List.mem_of_mem_drop hy;have lS:((wlk d).drop ((wlk d).length - i)).length<=1000:=by rw[bu];omega
   generalize (wlk d).drop ((wlk d).length - i)=S at B R G inS lS ru;have X:Fls (prDs sm (stk S)):=jP λy hy=>by rw[cA]at hy;obtain⟨z,hz1,rfl⟩:=cs.mp hy;exact m7 (nV tm z (inS z (wX hz1))).tm
   have lu:=Reps.len ru;rw[List.length_reverse,cA,ae]at lu;have ls:(stk S).length<=1000:=al (wY S) lS;have keep:=aI q (aI W (aI la (aI sg (aI tm (aI c (aI hm (aI Y (aI h3 (aI s3 (aI ru (aI rx (aI sub (aI B (aI G (aI X (aI lu (aI ls (aI hml he))))))))))))))))));clear q W la sg rep tm c hm Y h3 s3 ru rx sub B G X lu ls hml he s1 hm1 s2 hl h2 rws lw lk hx hi hlt R inS lS
   walk_at "rd"
   obtain⟨q,W,la,sg,tm,c,hm,Y,h3,s3,ru,rx,sub,B,G,X,lu,ls,hml,he⟩:=keep;rcases DU sub.tm with⟨y,rfl,_⟩|⟨n,ds,hd,dne,tms⟩
   ·cases (show x = .str y from rx);refine⟨true,rfl,?_⟩;rw[ai rfl];refine⟨tyL h3,_,rfl,fi,rfl,.inl ⟨_,.inl (s3 _ _ W)⟩,_,rfl,_,rfl,_,kX.k (k:=.inr y) (s3 _ _ W),us,h3,aj (m:=1000) (by omega) (by decide),us++[.str y],_,_,rfl,upd_same,λb o hb=>by rw[aE (aH hb hm)];exact s3 _ _ hb,by rw[aE hml.symm];exact Y,?_⟩;rw[B,stk];show Reps _ (prDs sm (.str y::(stk S).drop 0)).reverse _;rw[List.drop_zero,prDs,List.reverse_cons];exact Reps.snoc (by unfold prD;rfl) (Reps.tups (bV.lst h3) (mN X) ru)
   ·obtain⟨va,O,rfl,hbb,hseq,lv⟩:∃va O,x = .ref va/\isV H3 (.ref va) (.ty "str")=some false/\cV H va (.str n::O)/\O.length=ds.length:=by
     rcases hd with rfl|rfl
     ·obtain⟨a,vs,rfl,ha,_,O,rfl,e1,r⟩:=rx;cases e1;exact⟨a,O,rfl,iX (s3 _ _ ha),.inr ha,Reps.len r⟩
     ·obtain⟨a,vs,rfl,ha,_,O,rfl,e1,r⟩:=rx;cases e1;exact⟨a,O,rfl,nG (s3 _ _ ha),.inl ha,Reps.len r⟩
    obtain⟨hfe,hpe⟩:=oI sm hd;rw[hpe]at G;have wds:Wks ds:=lD tms;have hst:stk S=ds++stk rest:=by rw[G,lE wds]
    have hfs:prDs sm (stk S)=prDs sm ds++prDs sm (stk rest):=by rw[hst,cA,ax,←cA,←cA]
    have lds:(prDs sm ds).length=ds.length:=by rw[cA,ae]
    have lfs:(prDs sm (stk S)).length<=1000:=by rw[cA,ae];exact ls
    refine⟨false,hbb,?_⟩;rw[ab (by decide)];refine⟨va,rfl,_,hseq.same s3,λ_ h=>by have:=h.1;simp[HT.sIx]at this,λp o hp ho=>?_⟩;rw[mP]at ho;refine⟨O,by rcases ho with⟨rfl,_⟩|⟨rfl,_⟩;exact .inl upd_same;exact .inr upd_same,λJ hJ=>?_⟩;have sp:aD H3 (upd H3 p o):=aD.upd hp;have hpo:upd H3 p o p=some o:=upd_same;have hmp:m≠p:=aH h3 hp;have hlp:l≠p:=aH Y hp;generalize upd H3 p o=H4 at sp hpo hJ⊢;refine dF hJ (SM m l p ws o (prDs sm (stk S)) H) ⟨us,none,rfl,sp _ _ h3,s3.trans sp,sp _ _ Y,hpo,by rw[List.drop_zero];exact Reps.same sp ru,rfl⟩ (λj Z σ H' _ ⟨_,_,_,_,_,_,h,_⟩=>by rw[h,hpo]) ?_ ?_
    ·rintro j y Z σ H5 hy ⟨us5,o0,rfl,h5,s5,hl5,hp5,r5,U⟩;have hj:j<ds.length:=by have:=(ck.mp hy).1;omega
     have hj2:j<(prDs sm (stk S)).length:=by rw[hfs,aq];omega
     rw[List.drop_eq_getElem_cons hj2,List.reverse_cons]at r5;obtain⟨us6,u,rfl,r6,ru6⟩:=iB r5;have la':=Reps.len U;rw[bq]at la';have fu:Fl (prDs sm (stk S))[j]:=dP X _ (List.getElem_mem hj2);refine⟨_,rfl,tyL h5,m,_,u,rfl,rfl,h5,by simp,aj (m:=1000) (by omega) (by decide),?_⟩;rw[List.dropLast_concat];have tt:bV H5 (upd H5 m (.lst us6)):=bV.lst h5;refine⟨us6,_,rfl,upd_same,λb o hb=>by rw[aE (aH hb hm)];exact s5 _ _ hb,by rw[aE hml.symm];exact hl5,by rw[aE hmp.symm];exact hp5,Reps.tups tt (mN (oU X (j+1))) r6,?_⟩;rw[bC (aw hj2)];exact Reps.snoc (aT.tups tt fu ru6) (Reps.tups tt (AV X j) U)
    ·rintro Z σ H5 ⟨us5,o0,rfl,h5,s5,hl5,hp5,r5,U⟩ p6 hp6;have e1:(prDs sm (stk S)).take O.length=prDs sm ds:=by rw[hfs,lv,←lds,List.take_left]
     rw[e1]at U;have s6:aD H5 (upd H5 p6 (.lst Z)):=aD.upd hp6;have h66:upd H5 p6 (.lst Z) p6=some (.lst Z):=upd_same;have hmp6:m≠p6:=aH h5 hp6;generalize upd H5 p6 (.lst Z)=H6 at s6 h66⊢;have sH6:=s5.trans s6;have ix0:ixV H6 (.ref va) (.int 0)=some (.str n):=by
      rcases hseq.same sH6 with e|e
      ·rw[ixV_l e,atI_zero]
      ·rw[ixV_t e,atI_zero]
     refine⟨tyL (s6 _ _ h5),fl,rfl,_,rfl,.str n,ix0,_,rfl,c0,g,fx,sm,n,p6,prDs sm ds,Z,rfl,la.same sH6,sg.same sH6,h66,Reps.same s6 U,(λz=>by rw[z]at lds;exact absurd (List.length_eq_zero_iff.mp lds.symm) dne),(by rw[hfs,aq]at lfs;omega),λv' H7 s7 r7=>?_⟩;have h7:=s7 _ _ (s6 _ _ h5);have l5:=Reps.len r5;rw[List.length_reverse,bu]at l5;refine⟨us5,h7,aj (m:=1000) (by omega) (by decide),us5++[v'],_,_,rfl,upd_same,λb o hb=>by rw[aE (aH hb hm)];exact s7 _ _ (sH6 _ _ hb),by rw[aE hml.symm];exact s7 _ _ (s6 _ _ hl5),?_⟩;have tt:bV H7 (upd H7 m (.lst (us5++[v']))):=bV.lst h7;rw[B,stk,prDs,List.reverse_cons,hpe,F4,hfe];rw[lv]at r5;have fe:=m7 (sm:=sm) sub.tm;rw[hfe]at fe;exact Reps.snoc (aT.tups tt fe r7) (Reps.tups tt (mN (oU X ds.length)) (Reps.same (s6.trans s7) r5))
  ·rintro σ H3 ⟨us,o4,o5,rfl,h3,s3,Y,ru⟩;rw[lw,Nat.sub_self,List.drop_zero]at ru;have e:=wW (m6 tm) [];rw[bi]at e;rw[e]at ru;obtain⟨u,r,rfl,r1,r2⟩:=ru;cases (show r=[]from r2);exact⟨_,rfl,u,by rw[ixV_l h3,atI_zero],q u H3 s3 r1⟩
end
end Lw
namespace Lw
open PySem PySem.Spec PyProof.Rows PySem.W L2
noncomputable abbrev xP:Pos:=KG (x4 cY)
def uT (P:Addr)(H:Hp):Prop:=H P=some (.tbl #[])∨∃(a:Addr) (oc':Obj) (vsc:gN) (tq:Tok),H P=some (.tbl #[rawInt xP.line,rawInt xP.col,.ref a])/\H a=some (pinO a oc')/\oc'.data = .fields vsc/\vsc[1]?=some (.str qP tq)
theorem uT.same {P:Addr}{H H':Hp}(h:uT P H)(s:aD H H'):uT P H':=by
 rcases h with h|⟨g,b,a,c,f,e,d⟩
 ·exact .inl (s _ _ h)
 ·exact .inr ⟨g,b,a,c,s _ _ f,s _ _ e,d⟩
def LW (P a:Addr):TE:=λσ H Q=>uT P H/\∀(fl b:Addr) (pm ctv:Value) (oc':Obj) (vsc:gN) (tq:Tok) (H':Hp),dR P H H'->uT P H'->H' fl=some (pinO fl (oP a b pm ctv))->H' b=some (pinO b oc')->oc'.data = .fields vsc->vsc[1]?=some (.str qP tq)->H a=none->H' a=none->Q (.ref fl) H'
theorem GB {X:Cx}{c P i:Addr}(B:closureFor scP X.env=pure [(("signs" : Str),i)])(g:X.env.cells.lookup ("signs" : Str)=some i)(l:X.env.code = .ref c)(hq:X.env.qual++"<lambda>" = qP)(hC:∀h,X.K.In h->CodeHd h c P)(hB:Bm X.mg X.base):PE X (.Lambda pP bP scP xP) (LW P i):=by
 intro r s σ H Q I h;obtain⟨lt,q⟩:=h;have hg:s.heap.Ns mainGlobals X.mg:=I.mod.glob.keeps I.bk;have R:∃ps,H P=some (.tbl ps):=by
  rcases lt with h|⟨_,_,_,_,h,_⟩
  ·exact⟨_,h⟩
  ·exact⟨_,h⟩
 obtain⟨ps,v⟩:=R;have F:s.heap.get? P=some (tabObj ps):=I.hok P _ v;have E:∀b o,X.base.get? b=some o->b≠P:=λb o e z=>by have:=(I.bs b o e).2;rw[z,v]at this;cases this
 have O:mainGlobals≠P:=by obtain⟨o,es,ep,e,_⟩:=I.mod.glob;exact E _ _ e
 have hb:s.heap.BuiltinsAt X.mg P:=by obtain⟨bm,o,b1,b2,b3,b4,b5,b6,b7⟩:=hB;exact⟨bm,o,b1,b2,b3,E _ _ b4,I.bk _ _ b4,b5,b6,b7⟩
 have n0:=I.freeC _ _ g;refine kla_eval rfl ?_;rw[hq];rcases lt with lt|⟨a,f,j,w,lt,l2,l3,l4⟩
 ·rw[v]at lt;cases lt;refine kla_makeFunction B I.ok.glob hg l (hC _ I.kIn) F trivial rfl O hb λa d h' tk hx m A x L=>?_;obtain⟨c2,f,j,w,e2,N,hd,hv⟩:=x;cases e2;have I1:aQ X r σ (upd H P (.tbl (#[] ++ #[rawInt xP.line,rawInt xP.col,.ref a]))) {s with heap:=h',toks:=tk}:=I.grow v hx L;have nP:P≠a:=λz=>by have:=az F;rw[z]at this;exact bI _ (bc this m)
  have nc':H a=none:=I.hok.fresh m;have fc:=I.fpOk (H':=upd H P (.tbl (#[] ++ #[rawInt xP.line,rawInt xP.col,.ref a]))) m (by rw[aE nP.symm];exact nc');have Y:=I1.adopt (o:=pinO a f) fc (m8 N);have Z:s.heap.objs.size<=h'.objs.size:=al m (Nat.le_of_lt A);have W:=Y.kept (t':=tk) λb o e=>af (oP i a ((X.mg "__name__").getD .none) d) e;have U:=Y.fpOk (ac h'.objs.size) (Y.hok.fresh (ac _));have T:(h'.push (oP i a ((X.mg "__name__").getD .none) d)).get? h'.objs.size=some (oP i a ((X.mg "__name__").getD .none) d):=ar _ rfl;have C:=W.adopt (o:=pinO h'.objs.size (oP i a ((X.mg "__name__").getD .none) d)) U (m8 T);have G:a≠h'.objs.size:=bj A;have J:P≠h'.objs.size:=λz=>by have:=az F;rw[z]at this;exact bI _ (bc this Z)
  have u:upd (upd (upd H P (.tbl (#[] ++ #[rawInt xP.line,rawInt xP.col,.ref a]))) a (pinO a f)) h'.objs.size (pinO h'.objs.size (oP i a ((X.mg "__name__").getD .none) d)) a=some (pinO a f):=by rw[aE G];exact upd_same
  have S:upd (upd (upd H P (.tbl (#[] ++ #[rawInt xP.line,rawInt xP.col,.ref a]))) a (pinO a f)) h'.objs.size (pinO h'.objs.size (oP i a ((X.mg "__name__").getD .none) d)) P=some (.tbl #[rawInt xP.line,rawInt xP.col,.ref a]):=by rw[aE J,aE nP,upd_same];rfl
  refine⟨.ref h'.objs.size,_,C,rfl,q _ a _ d f j w _ (λb o E e=>?_) (.inr ⟨a,f,j,w,S,u,hd,hv⟩) upd_same u hd hv n0 (C.freeC _ _ g)⟩;have lb:=I.hok.lt e;rw[aE (λz=>by rw[z]at lb;exact bI _ (bc lb Z)),aE (aH e nc'),aE E];exact e
 ·rw[v]at lt;cases lt;have am:codeAmong xP [rawInt xP.line,rawInt xP.col,.ref a]=some (.ref a):=by simp[codeAmong,rawInt]
  refine kla_makeFunctionHit (cv:=.ref a) B I.ok.glob hg l (hC _ I.kIn) F trivial am hb λd h' tk hk hsz=>?_;have W:aQ X r σ H {s with heap:=h'.push (oP i a ((X.mg "__name__").getD .none) d),toks:=tk}:=I.kept λb o e=>af _ (hk b o e);have nf:=I.hok.fresh hsz;have U:=I.fpOk hsz nf;have T:(h'.push (oP i a ((X.mg "__name__").getD .none) d)).get? h'.objs.size=some (oP i a ((X.mg "__name__").getD .none) d):=ar _ rfl;have C:=W.adopt (o:=pinO h'.objs.size (oP i a ((X.mg "__name__").getD .none) d)) U (m8 T);have sm:aD H (upd H h'.objs.size (pinO h'.objs.size (oP i a ((X.mg "__name__").getD .none) d))):=aD.upd nf;exact⟨.ref h'.objs.size,_,C,rfl,q _ a _ d f j w _ (λb o _ e=>sm b o e) (.inr ⟨a,f,j,w,sm _ _ v,sm _ _ l2,l3,l4⟩) upd_same (sm _ _ l2) l3 l4 n0 (C.freeC _ _ g)⟩
def tFWcP (K:PySem.W.Frag)(C b:Addr)(t:TA):TE:=λσ H Q=>t σ H λvs c=>∃g,σ[0]?=some (some (.ref g))/\∀a:Obj,a.data = .cell (some (.ref g))->c b=none->spFWP K C vs (upd c b (pinO b a)) (λv H'=>H' b=some (pinO b a)/\Q v (del1 H' b)) E0
theorem PN {X:Cx}{C i:Addr}{k:Nat}{e:Expr}{es:jW}{t:TA}{p G:Pos}(O:d8 X.prog X.w X.K X.mg X.base bH k "from_within" (spFWP X.K C))(hr:d5 k X.A)(hg:Gl X "from_within")(hN:X.N[0]?=some ("signs" : Str))(l:X.env.scope.names.lookup ("signs" : Str)=some .cell)(d:X.env.cells.lookup ("signs" : Str)=some i)(hfn:X.fn "signs" = true)(ha:PA X (e::es) t)
  (he:starEach (e::es) X.env=(false,eval e X.env)::starEach es X.env:=by rfl) (hpl:(backTo G (starEach es X.env)).any (·.1)=false:=by rfl):PE X (.Call (.Name "from_within" p) (e::es) [] G) (tFWcP X.K C i t):=by
 obtain⟨f,fd,ps,F,hm,hk,hb⟩:=O;intro R s σ H Q I h;refine wpAny_Call_Name_kw (oO I hg hm ?_ (by decide));refine PySem.W.callWith_K (h₀:=X.base) I.ok.mod.kin hk (thn (ha G R s σ H _ I h) λus P ⟨vs,H1,B,r,q⟩=>⟨B.kIn,?_⟩) he hpl;obtain⟨g,hσ,q⟩:=q;have n0:=B.freeC _ _ d;have j:=B.ok.cab _ _ hfn d;obtain⟨a,ho,hd⟩:∃a,P.heap.get? i=some a/\a.data = .cell (some (.ref g)):=by
  obtain⟨m,hns,hl⟩:=B.loc;obtain⟨u,ru,look⟩:=hl 0 _ _ hN hσ (.inr (.inl l));cases ru;rcases look with⟨z,_⟩|⟨_,c,hc,a,ho,hd⟩
  ·have z':X.env.scope.names.lookup ("signs" : Str)=some .local:=z;rw[l]at z';cases z'
  ·rw[d]at hc;cases hc;exact⟨a,ho,hd⟩
 have sp:=q a hd n0;have E:=B.env0;have nl:i≠X.env.locals:=λz=>by obtain⟨m,⟨o,es',ep,Z,e2,_⟩,_⟩:=B.loc;rw[←z,ho]at Z;cases Z;rw[hd]at e2;cases e2
 have S:∀b∈frs X.stack,b≠i:=λb hb z=>by
  rcases cp.mp (B.stkSub b hb)with w|w
  ·exact nl (z ▸ w)
  ·obtain⟨_,o,Z,_⟩:=B.ok.funs.mem w;exact bI _ (bc (az Z) (z ▸ j))
 have hl:(us++[]).length=ps.length:=by have:=F.len _ _ _ _ sp;rw[bi,←r.length];exact this
 have ne:∀b o,X.base.get? b=some o->b≠i:=λb o e z=>bI _ (bc (az (B.ok.bs b o e).1) (z ▸ j));have env:uI X.prog X.w X.K X.mg X.base X.A X.stack P (upd H1 i (pinO i a)):=⟨E.frames,E.mod,λb o e=>⟨(E.bs b o e).1,by rw[aE (ne b o e)];exact(E.bs b o e).2⟩,E.bsz,E.funs,λb z=>by rw[aE (S b z)];exact E.frf b z,E.hok.back n0 ho,E.bare⟩
 refine wpAny_call (codeAny_mono (F.run X.A X.stack P _ ⟨us,[]⟩ us vs _ E0 hr env (by have:=hb P us B.kIn hl;rw[bi]at this;exact this) r sp) λres s' T=>?_);cases res with
 | error x=>exact T.elim
 | ok fl' =>
  cases fl' with
  | ret u =>
   obtain⟨v,H',os,bare,un,hok,rv,U,qq⟩:=T;have g0:=hV hok U;have L:∀b u,H1 b=some u->b≠i:=λb u e=>aH e n0;have un2:Un (frs X.stack) [] H1 (del1 H' i) P.heap s'.heap:=by
    refine⟨λb o e n Y J=>?_,λb o e n Y J=>?_,λb o e n J=>?_,λb o e J=>un.there b o e J,λb xs e=>?_,λb o u' e=>?_,λb qs e=>?_⟩
    ·by_cases z:b=i
     ·subst z;rw[ho]at e;cases e;exact g0
     ·exact un.keep b o e (by rw[aE z];exact n) Y J
    ·exact un.slot b o e (by rw[aE (S b Y)];exact n) Y J
    ·by_cases z:b=i
     ·subst z;exact fW
     ·exact dH (un.free b o e (by rw[aE z];exact n) J)
    ·rw[cG (L b _ e)];exact un.tups b xs (by rw[aE (L b _ e)];exact e)
    ·rw[cG (L b _ e)];exact un.frzs b o u' (by rw[aE (L b _ e)];exact e)
    ·rw[cG (L b _ e)];exact un.tbls b qs (by rw[aE (L b _ e)];exact e)
   exact⟨v,_,B.call' (ch:=[]) os un2 (hok.del U) bare (λb z=>absurd z (by simp)),rv,qq⟩
  | next=>exact T.elim
  | brk=>exact T.elim
  | cont=>exact T.elim
end Lw
namespace Lw
open PySem L2
section
variable {P:Program}{w:World}{K:PySem.W.Frag}{mg:iH}{base:Heap}
theorem uT.tbl {Pt:Addr}{H:Hp}(h:uT Pt H):∃ps,H Pt=some (.tbl ps):=by
 rcases h with h|⟨_,_,_,_,h,_⟩
 ·exact⟨_,h⟩
 ·exact⟨_,h⟩
theorem uT.rep {Pt:Addr}{H H':Hp}(h:uT Pt H)(b:dR Pt H H'){d:D}{v:V}(r:aT H d v):aT H' d v:=by obtain⟨ps,e⟩:=h.tbl;exact aT.but b (λxs z=>by rw[e]at z;cases z) (λxs z=>by rw[e]at z;cases z) r
theorem uT.ne {Pt:Addr}{H:Hp}(h:uT Pt H){a:Addr}{o:HO}(e:H a=some o)(n:∀ps,o≠.tbl ps):a≠Pt:=λz=>by obtain⟨ps,b⟩:=h.tbl;rw[z,b]at e;cases e;exact n _ rfl
theorem uT.sg {Pt C g:Addr}{e:cW}{sm:bE}{H H':Hp}(h:uT Pt H)(b:dR Pt H H')(s:fN K C e sm H g):fN K C e sm H' g:=by obtain⟨u,r,q,m,fs,o,dn,d,l,j,i,f,c,a⟩:=s;exact⟨u,r,q,m,fs,o,dn,b _ _ (h.ne d λ_=>by simp) d,l,j,i,f,b _ _ (h.ne c λ_=>by simp) c,b _ _ (h.ne a λ_=>by simp) a⟩
def nY (K:PySem.W.Frag)(C Pp:Addr):Sp:=λvs H Q _=>∃(g:Addr) (fx:cW) (sm:bE) (os:aV) (d:D) (v:V),vs=[.ref g,v]/\fN K C fx sm H g/\aT H d v/\yT fx sm os d/\uT Pp H /\
 ∀(a:V) (H':Hp),dR Pp H H'->uT Pp H'->aT H' (prD sm d) a->Q a H'
theorem GJ {f C c Pp:Addr}{oc:Value}{od Z:Option Addr}{osl:Array (Option Value)}{kV z B ct:Value}(lk:K.lookup f=some ⟨oc,od,.func (PySem.W.fnOf "paired" "paired" (cT cY) (cH cY) (aJ cY) .none kV z B Z (.ref c) ct),osl⟩)(l:PySem.W.codeIn K (.ref c) "paired" = true)
  (hC:∀h,K.In h->PySem.W.CodeHd h c Pp) (hB:Bm mg base) (i:d8 P w K mg base bH 3 "check_term" (w8 K C)) (a:d8 P w K mg base bH 8 "from_within" (spFWP K C)):bN P w K mg base bH 9 f (PySem.W.fnOf "paired" "paired" (cT cY) (cH cY) (aJ cY) .none kV z B Z (.ref c) ct) tV (nY K C Pp):=by
 refine EW lk l FZ (λvs H Q E h=>?_) (λA outer s H vs Q E Y h=>?_)
 ·obtain⟨g,S,sm,os,d,v,rfl,_⟩:=h;rfl
 ·obtain⟨g,S,sm,os,d,v,rfl,sg,rep,tm,lt,q⟩:=h
  refine⟨_,(aC (cS (aN i (Y.mono (by decide)) pass0 rfl (aA (pv 0) (aA (pv 1) aB))))
   (aG (aM (PN a (Y.mono (by decide)) rfl rfl rfl rfl rfl (aA (pv 1) (@EA _ _ _ _ (aA (GB rfl rfl rfl rfl hC hB) aB))))))),?_⟩
  try dsimp only[cxOf,Cx.nox]
  refine⟨_,rfl,_,rfl,g,S,sm,os,d,v,rfl,sg,tm.so,tm.ho,rep,tm.tm,al tm.lv (by decide),al tm.dp (by decide),tm.nd,λU s1=>?_⟩;refine⟨_,rfl,λx N=>?_⟩;have s2:aD H (upd U x (.dK [])):=s1.trans (aD.upd N);have f2:upd U x (.dK []) x=some (.dK []):=upd_same;generalize upd U x (.dK [])=H2 at s2 f2⊢;have j:=lt.same s2;refine⟨j,λfl c' B T I F tq H' bt J L R l hv n0 u=>⟨g,rfl,λr O _=>?_⟩⟩;have m:aD H' (upd H' (s.heap.objs.size+1) (pinO (s.heap.objs.size+1) r)):=aD.upd u;refine⟨x,fl,s.heap.objs.size+1,g,S,sm,d,v,rfl,m _ _ (bt _ _ (j.ne f2 λ_=>by simp) f2),⟨c',B,T,r,I,F,tq,m _ _ L,upd_same,O,m _ _ R,l,hv⟩,(j.sg bt (sg.same s2)).same m,aT.same m (j.rep bt (aT.same s2 rep)),(kY tm.so tm.ho tm.tm).1,tm.nd,λv' H3 G r3=>⟨G _ _ upd_same,?_⟩⟩;have X:aD H' (del1 H3 (s.heap.objs.size+1)):=λb o e=>by rw[cG (aH e u)];exact G _ _ (m _ _ e)
  exact q v' _ (λb o nb e=>X _ _ (bt b o nb (s2 _ _ e))) (J.same X) (aT.del1 (G _ _ upd_same) r3)
theorem EG:∀{ds:List D} {i:Nat} {d:D},ds[i]?=some d->nds d<=ndss ds
 | [],_,_,h=>by simp at h
 | e::ds,0,d,h=>by
  simp at h;subst h;rw[ndss];omega
 | e::ds,i+1,d,h=>by have:=EG (ds:=ds) (i:=i) (d:=d) (by simpa using h);rw[ndss];omega
theorem y7 {b:cW}{sm:bE}{os:aV}{d e:D}{n:Str}{ds:List D}(t:yT b sm os d)(hd:d = .tup (.str n::ds)∨d = .lst (.str n::ds))(c:e∈ds):yT b sm os e/\depD e<depD d:=by
 obtain⟨i,a⟩:=List.getElem?_of_mem c;have m:=iZ a;have l:=xW a;have j:=EG a;have h:depD d=depDs ds+1:=by
  rcases hd with rfl|rfl
  ·rw[depD,depDs,show depD (.str n)=0 from rfl];omega
  ·rw[depD,depDs,show depD (.str n)=0 from rfl];omega
 have g:lvs d=lvss ds:=by rcases hd with rfl|rfl <;> rw[lvs]
 have f:nds d=1+ndss ds:=by rcases hd with rfl|rfl <;> rw[nds]
 have tm:IsTms b sm os ds:=by have:=t.tm;rcases hd with rfl|rfl <;> (unfold bA at this;exact this.2)
 have r:=t.lv;have q:=t.nd;have o:=t.dp;exact⟨⟨t.so,t.ho,mL tm e c,by omega,by omega,by omega⟩,by omega⟩
theorem dep_strs:∀(l:aV),depDs (l.map D.str)=0
 | []=>by rw[List.map_nil,depDs]
 | x::l=>by rw[ba,depDs,dep_strs l];rfl
theorem oV (xs:List V)(n:Nat):cutV xs none (some (n:Int))=xs.take n:=by
 unfold cutV;rw[HT.sIx_nat,HT.sIx_none];rcases Nat.le_total n xs.length with h|h
 ·rw[Nat.min_eq_left h];simp
 ·rw[Nat.min_eq_right h];simp[List.take_of_length_le h]
noncomputable def dK31 (sm:bE):HO:=.dK (sm.map λr=>(.inr r.1,V.str r.2))
def nZ (n:Nat):Sp:=λvs H Q _=>∃(dn:Addr) (fx:cW) (sm:bE) (os:aV) (d:D) (v:V),vs=[.ref dn,v]/\H dn=some (dK31 sm)/\aT H d v/\yT fx sm os d/\depD d<=n/\∀(a:V) (H':Hp),aD H H'->aT H' (prD sm d) a->Q a H'
def TU (dn:Addr)(sm:bE)(ds:List D)(H:Hp)(i:Nat)(a:List V)(σ:St)(b:Hp):Prop:=∃c:Option V,σ=[c,some (.ref dn)]/\aD H b/\Reps b (prDs sm (ds.take i)) a
def TR (dn b l:Addr)(n:Str)(ds:List D)(H:Hp)(i:Nat)(σ:St)(a:Hp):Prop:=∃(w:V) (o4:Option V),σ=[some (.ref dn),some (.ref b),some (.ref l),some w,o4]/\aD H a/\aT a (chn n (ds.drop (ds.length - 1 - i))) w
theorem F3 (sm:bE)(ds:List D)(d:D):prDs sm (ds++[d])=prDs sm ds++[prD sm d]:=by rw[cA,cA,ax];rfl
theorem DT {g:cW}{sm:bE}{os:aV}{d:D}{v:V}{H:Hp}(t:yT g sm os d)(rep:aT H d v):(∃x,d = .str x/\v = .str x)∨∃nm ds c b,(d = .tup (.str nm::ds)∨d = .lst (.str nm::ds))/\qB g sm nm ds.length/\IsTms g sm os ds/\v = .ref c/\isV H (.ref c) (.ty "str")=some false/\cV H c (.str nm::b)/\Reps H ds b:=by
 refine mZ (P:=λd=>aT H d v->(∃x,d = .str x/\v = .str x)∨∃nm ds c b,(d = .tup (.str nm::ds)∨d = .lst (.str nm::ds))/\qB g sm nm ds.length/\IsTms g sm os ds/\v = .ref c/\isV H (.ref c) (.ty "str")=some false/\cV H c (.str nm::b)/\Reps H ds b) (λx _ r=>.inl ⟨x,rfl,r⟩) (λn ds d hd i e _ r=>.inr ?_) t.tm rep;rcases hd with rfl|rfl
 ·obtain⟨a,vs,rfl,f,_,b,rfl,h,r⟩:=r;cases h;exact⟨n,ds,a,b,.inl rfl,i,e,rfl,iX f,.inr f,r⟩
 ·obtain⟨a,vs,rfl,f,_,b,rfl,h,r⟩:=r;cases h;exact⟨n,ds,a,b,.inr rfl,i,e,rfl,nG f,.inl f,r⟩
theorem J0 {f:Addr}{fd:FuncData}(n:Nat)(F:fY K "_law_paired" "_law_paired" dL f fd)(T:Txt mg)(b:d8 P w K mg base bH (n+1) "_law_paired" (λvs H Q E=>∃m,m<n/\nZ m vs H Q E)):bN P w K mg base bH (n+2) f fd fE (nZ n):=by
 refine F.ok eP (λvs H Q E h=>?_) (λcdv A outer s H vs Q E hr h=>?_)
 ·obtain⟨dn,fx,sm,os,d,v,rfl,_⟩:=h;rfl
 ·obtain⟨dn,fx,sm,os,d,v,rfl,hdn,rep,tm,dp,q⟩:=h;have S:=hr.units
  refine⟨_,(aC (bD (aO K rfl (aL aK rfl T.n_isinstance rfl (aA (pv 1) (aA (bG (v:=V.ty "str") rfl T.n_str rfl rfl) aB))) (λ_=>rfl)) (aG (aM (pv 1))) aP)
   (aC (jJ (i:=2) eP.nd rfl rfl rfl rfl (bW.by (N:=jV) (names:=(aJ dL).names) (N':=["_law_part_here","_law_noughts"]) (src:=[none,some 0]) (by decide +kernel) rfl rfl) (cP K rfl (dC gT (pv 1) (bT aF) cF)) (λ_ _ _ _=>(aZ (i:=0) (show List.Nodup (["_law_part_here","_law_noughts"]:aV)by decide +kernel) rfl (Or.inl rfl))) (λ_ _ _ _=>dN) (λ_ _ _ _=>(aN b (hr.mono (by omega)) pass0 rfl (aA (pv 1) (aA (pv 0) aB)))))
   (aC (bD (aY (CJ S) (aS bB (pv 1) aF (λ_ _=>rfl)) (pv 0) (by with_unfolding_all rfl)) (aG (aM (bF bM (bK (aA (aS bB (pv 1) aF (λ_ _=>rfl)) aB)) (cR fX rfl T.n_tuple rfl (aA (pv 2) aB))))) aP)
   (aC (aW (i:=3) eP.nd rfl (Or.inl rfl) (aS bB (pv 2) (fQ dS aF) (λ_ _=>rfl)))
   (aC (dG dc rfl (cP K rfl (fS rJ (pv 2) (bT (fQ dS aF)) cF (bT (fQ dS aF)))) (aZ (i:=4) eP.nd rfl (Or.inl rfl)) (aG (aW (i:=3) eP.nd rfl (Or.inl rfl) (bK (aA (aS bB (pv 1) aF (λ_ _=>rfl)) (aA (pv 4) (aA (pv 3) aB)))))))
   (aG (aM (pv 3)))))))),?_⟩
  try dsimp only[cxOf,Cx.nox]
  clear hr F T S b;simp only[dU,eL];rcases DT tm rep with⟨x,rfl,rfl⟩|⟨nm,ds,va,vs',hd,hh,tms,rfl,hbb,G,res⟩
  ·exact⟨_,rfl,.str x,.ty "str",true,rfl,rfl,_,rfl,_,rfl,q _ _ (aD.refl _) (by rw[mI];rfl)⟩
  have I:∀H',aD H H'->ixV H' (.ref va) (.int 0)=some (.str nm):=λH' s'=>by
   rcases G.same s' with e|e
   ·rw[ixV_l e,atI_zero]
   ·rw[ixV_t e,atI_zero]
  refine⟨_,rfl,.ref va,.ty "str",false,rfl,hbb,_,rfl,?_⟩;have U:=(oI sm hd).1;have hl:=Reps.len res;have hn50:ds.length<=60:=by have h1:=iI tms;have h2:=tm.lv;rw[(eM (sm:=sm) hd).1]at h2;omega
  have dne:ds≠[]:=λz=>by have:=kP hh;rw[z]at this;simp at this
  refine⟨_,rfl,1,rfl,va,_,rfl,G,λ_ h=>by have:=h.1;simp[HT.sIx]at this,λp o hp ho=>?_⟩;rw[mP]at ho;have s0:aD H (upd H p o):=aD.upd hp;have h0:upd H p o p=some o:=upd_same;refine⟨p,vs',rfl,by rcases ho with⟨rfl,_⟩|⟨rfl,_⟩;exact .inl upd_same;exact .inr upd_same,λJ hJ=>?_⟩;generalize upd H p o=H0 at s0 h0 hJ⊢;refine dF hJ (TU dn sm ds H0) ⟨none,rfl,aD.refl _,rfl⟩ (λi a σ H' _ ⟨_,_,s,_⟩=>by rw[s _ _ h0,h0]) ?_ ?_
  ·rintro i x a σ H1 Y ⟨o0,rfl,s1,c⟩;obtain⟨e,he,re⟩:=Reps.get res Y;have te:=y7 tm hd (bg he);have s2:=s0.trans s1;have h3:=Reps.len c;rw[cA,ae,bq]at h3;refine⟨_,rfl,_,rfl,depD e,by have:=te.2;omega,dn,fx,sm,os,e,x,rfl,s2 _ _ hdn,aT.same s2 re,te.1,ac _,λv' r s' r'=>⟨aj (m:=64) (by omega) (by decide),_,rfl,s1.trans s',?_⟩⟩;rw[bC he,F3];exact Reps.snoc r' (Reps.same s' c)
  ·rintro a σ H1 ⟨o0,rfl,s1,c⟩ l hl1;rw[hl,br]at c;have la:=Reps.len c;rw[cA,ae]at la;have s2:=(s0.trans s1).trans (aD.upd (o:=.lst a) hl1);have R:upd H1 l (.lst a) l=some (.lst a):=upd_same;have O:=Reps.same (aD.upd (o:=.lst a) hl1) c;generalize upd H1 l (.lst a)=r at s2 R O⊢;have g2:kX r dn (.str nm) ((zr sm nm).map V.str):=by have:=kX.k (k:=.inr nm) (s2 _ _ hdn);rw[wQ]at this;exact this
   have X:prDs sm ds≠[]:=λz=>dne (by rw[cA]at z;exact List.map_eq_nil_iff.mp z);refine⟨_,rfl,.str nm,I _ s2,_,rfl,dn,_,rfl,g2,_,rfl,?_⟩;unfold pr at U;cases hz:zr sm nm with
   | none =>
    rw[hz]at U;refine⟨_,rfl,.str nm,I _ s2,show 1<=sizeLine by decide,λj g=>⟨_,rfl,l,a,rfl,.inl (aD.upd g _ _ R),λl3 H3 L=>?_⟩⟩;rcases L with⟨L,_⟩|⟨_,L,rfl⟩
    ·rw[aE (aH R g),R]at L;cases L
    ·have C:aD r (upd (upd r j (.tup [.str nm])) l3 (.tup a)):=(aD.upd g).trans (aD.upd L);refine .inr ⟨.tup (.str nm::a),?_,λp4 Z=>?_⟩
     ·have e1:upd (upd r j (.tup [.str nm])) l3 (.tup a) j=some (.tup [.str nm]):=by rw[aE (aH upd_same L)];exact upd_same
      have e2:upd (upd r j (.tup [.str nm])) l3 (.tup a) l3=some (.tup a):=upd_same;unfold catO;simp only[e1,e2];refine ai ⟨al (m:=100) (by simp;omega) (by decide),by simp,λz=>dne (List.length_eq_zero_iff.mp (by rw[←la,z];rfl))⟩
     ·refine q _ _ (s2.trans (C.trans (aD.upd Z))) ?_;rw[U];exact⟨p4,_,rfl,upd_same,.str nm,a,rfl,rfl,Reps.same (C.trans (aD.upd Z)) O⟩
   | some z =>
    rw[hz]at U;obtain⟨ws,hws⟩:∃ws,ws=prDs sm ds:=⟨_,rfl⟩
    rw[←hws]at U O X;have lw:=Reps.len O;have l1:1<=ws.length:=List.length_pos_iff.mpr X;obtain⟨w0,hw0⟩:∃w0,a[ws.length - 1]?=some w0:=⟨_,aw (by omega)⟩
    obtain⟨d0,hd0,r0⟩:=Reps.get O hw0;have e0:ws.drop (ws.length - 1)=[d0]:=by obtain⟨g1,rfl⟩:=ck.mp hd0;rw[List.drop_eq_getElem_cons g1,List.drop_eq_nil_of_le (by omega)]
    refine⟨_,rfl,1,rfl,w0,?_,_,rfl,2,rfl,-2,rfl,1,rfl,-1,rfl,rfl,rfl,rfl,l,a,rfl,R,λz=>by rw[z]at lw;simp at lw;omega,λj g=>⟨j,_,rfl,.inl upd_same,λJ hJ=>?_⟩⟩
    ·rw[ixV_l R];show atI a (-1)=_;unfold atI ixN;rw[ab (by decide),ai (by omega)];have:(-1+(a.length:Int)).toNat=ws.length - 1:=by omega
     rw[this];exact hw0
    ·have W:aD r (upd r j (.lst a.dropLast.reverse)):=aD.upd g;have p3:upd r j (.lst a.dropLast.reverse) j=some (.lst a.dropLast.reverse):=upd_same;generalize upd r j (.lst a.dropLast.reverse)=H3 at W p3 hJ⊢;refine eW hJ (TR dn va l nm ws H3) ⟨w0,none,rfl,aD.refl _,by rw[Nat.sub_zero,e0];exact aT.same W r0⟩ (λi σ H' _ ⟨_,_,_,s,_⟩=>by rw[s _ _ p3,p3]) ?_ ?_
     ·rintro i x σ H4 Y ⟨w,o4,rfl,C,B⟩;have hi:=(ck.mp Y).1;rw[List.length_reverse,List.length_dropLast]at hi;have hx':a[ws.length - 2 - i]?=some x:=by rw[List.getElem?_reverse (by rw[List.length_dropLast];exact hi),List.length_dropLast,List.getElem?_dropLast,ai (by omega)]at Y;rw[show ws.length - 2 - i=a.length - 1 - 1 - i by omega];exact Y
      obtain⟨e,he,re⟩:=Reps.get O hx';refine⟨_,rfl,.str nm,I _ (s2.trans (W.trans C)),_,rfl,_,rfl,show 3<=sizeLine by decide,λu S=>⟨.ref u,some x,rfl,C.trans (aD.upd S),?_⟩⟩;rw[show ws.length - 1 - (i+1)=ws.length - 2 - i by omega,A3 he (by omega),show ws.length - 2 - i+1=ws.length - 1 - i by omega];exact⟨u,_,rfl,upd_same,_,_,rfl,rfl,_,_,rfl,aT.same ((W.trans C).trans (aD.upd S)) re,_,_,rfl,aT.same (aD.upd S) B,rfl⟩
     ·rintro σ H4 ⟨w,o4,rfl,C,B⟩;rw[List.length_reverse,List.length_dropLast,lw,Nat.sub_self,List.drop_zero]at B;exact⟨_,rfl,q w H4 (s2.trans (W.trans C)) (by rw[U];exact B)⟩
theorem KQ {f:Addr}{a:FuncData}(F:fY K "_law_paired" "_law_paired" dL f a)(T:Txt mg)(i:mg "_law_paired" = some (.ref f))(j:PySem.W.keepIn K (.ref f)=true)(b:eY K a fE []):∀n,bN P w K mg base bH (n+2) f a fE (nZ n):=by
 intro n
 induction n using Nat.strongRecOn with
 | ind n d =>
  exact J0 n F T ⟨f,a,_,⟨λvs H Q E ⟨m,c,h⟩=>(d m c).len vs H Q E h,λA outer s H args us vs Q E g l b e ⟨m,c,h⟩=>((d m c).mono (by omega)).run A outer s H args us vs Q E g l b e h⟩,i,j,b⟩
theorem GC {f:Addr}{a:FuncData}(F:fY K "_law_paired" "_law_paired" dL f a)(T:Txt mg)(b:mg "_law_paired" = some (.ref f))(c:PySem.W.keepIn K (.ref f)=true)(d:eY K a fE [])(n:Nat):d8 P w K mg base bH (n+2) "_law_paired" (nZ n):=⟨f,a,_,KQ F T b c d n,b,c,d⟩
def lF (n:Nat):Sp:=λvs H Q _=>∃(b:cW) (sm:bE) (os:aV) (d:D) (v:V),vs=[v]/\aT H d v/\(yT b sm os d∨∃x,d = .str x)/\depD d<=n/\∀(a:V) (H':Hp),aD H H'->aT H' (asD true d) a->Q a H'
def TQ (es:List D)(H:Hp)(i:Nat)(a:List V)(σ:St)(b:Hp):Prop:=∃c:Option V,σ=[c]/\aD H b/\Reps b ((es.take i).map (asD true)) a
theorem FE (b:Bool)(x:Str):asD b (.str x) = .str x:=by unfold asD;rfl
theorem NZ {n:Str}{ds:List D}{d:D}(h:d = .tup (.str n::ds)∨d = .lst (.str n::ds)):asD true d = .lst (.str n::asDs true ds):=by rcases h with rfl|rfl <;> (rw[asD,ai rfl])
theorem GM {f:Addr}{Y:FuncData}(n:Nat)(F:fY K "_law_listed" "_law_listed" dM f Y)(T:Txt mg)(a:d8 P w K mg base bH (n+1) "_law_listed" (λvs H Q E=>∃m,m<n/\lF m vs H Q E)):bN P w K mg base bH (n+2) f Y fF (lF n):=by
 refine F.ok sE (λvs H Q E h=>?_) (λcdv A outer s H vs Q E C h=>?_)
 ·obtain⟨u,sm,os,d,v,rfl,_⟩:=h;rfl
 ·obtain⟨u,sm,os,d,v,rfl,rep,tm,dp,q⟩:=h;have hu:=C.units
  refine⟨_,(aC (bD (aO K rfl (aL aK rfl T.n_isinstance rfl (aA (pv 0) (aA (bG (v:=V.ty "str") rfl T.n_str rfl rfl) aB))) (λ_=>rfl)) (aG (aM (pv 0))) aP)
   (aG (aM (gG rfl (bW.by (N:=mY) (names:=(aJ dM).names) (N':=["_law_part_here"]) (src:=[none]) (by decide +kernel) rfl rfl) (cP K rfl (pv 0)) (λ_ _ _ _=>(aZ (i:=0) (show List.Nodup (["_law_part_here"]:aV)by decide +kernel) rfl (Or.inl rfl))) (λ_ _ _ _=>dN) (λ_ _ _ _=>(aN a (C.mono (by omega)) pass0 rfl (aA (pv 0) aB))))))),?_⟩
  try dsimp only[cxOf,Cx.nox]
  clear C F T hu a;simp only[dU];have two:(∃x,d = .str x/\v = .str x)∨∃nm ds g c,yT u sm os d/\(d = .tup (.str nm::ds)∨d = .lst (.str nm::ds))/\IsTms u sm os ds/\v = .ref g/\isV H (.ref g) (.ty "str")=some false/\cV H g (.str nm::c)/\Reps H ds c:=by
   rcases tm with tm|⟨x,rfl⟩
   ·rcases DT tm rep with h|⟨nm,ds,g,c,X,W,L,h4,h5,h6,h7⟩
    ·exact .inl h
    ·exact .inr ⟨nm,ds,g,c,tm,X,L,h4,h5,h6,h7⟩
   ·exact .inl ⟨x,rfl,rep⟩
  rcases two with⟨x,rfl,rfl⟩|⟨nm,ds,g,c,tm,hd,B,rfl,I,j,res⟩
  ·exact⟨_,rfl,.str x,.ty "str",true,rfl,rfl,_,rfl,_,rfl,q _ _ (aD.refl _) (by rw[FE];rfl)⟩
  have S:ds.length<=60:=by have X:=iI B;have W:=tm.lv;rw[(eM (sm:=sm) hd).1]at W;omega
  have G:=(eM (sm:=sm) hd).2.2.1;have hl:=Reps.len res;have res':Reps H (.str nm::ds) (.str nm::c):=⟨_,_,rfl,rfl,res⟩
  refine⟨_,rfl,.ref g,.ty "str",false,rfl,I,_,rfl,_,rfl,g,_,rfl,j,λJ hJ=>?_⟩;refine dF hJ (TQ (.str nm::ds) H) ⟨none,rfl,aD.refl _,rfl⟩ (λi o σ H' _ ⟨_,_,s,_⟩=>by rcases j with e|e <;> rw[s _ _ e,e]) ?_ ?_
  ·rintro i x o σ H1 hx ⟨o0,rfl,z,b⟩;obtain⟨e,U,Z⟩:=Reps.get res' hx;have L:=Reps.len b;rw[ae,bq,ao]at L;have O:(yT u sm os e∨∃x,e = .str x)/\depD e<depD d:=by
    obtain rfl|h:=cp.mp (bg U)
    ·exact⟨.inr ⟨nm,rfl⟩,by rw[G];show 0<_;omega⟩
    ·have:=y7 tm hd h;exact⟨.inl this.1,this.2⟩
   refine⟨_,rfl,depD e,by have:=O.2;omega,u,sm,os,e,x,rfl,aT.same z Z,O.1,ac _,λv' H2 R r'=>⟨aj (m:=64) (by omega) (by decide),_,rfl,z.trans R,?_⟩⟩;rw[bC U,ax];exact Reps.snoc r' (Reps.same R b)
  ·rintro o σ H1 ⟨o0,rfl,z,b⟩ l r;refine q _ _ (z.trans (aD.upd r)) ?_;rw[ao,hl,show ds.length+1=(D.str nm::ds).length from rfl,br,ba,FE,←lT]at b;rw[NZ hd];exact⟨l,o,rfl,upd_same,Reps.same (aD.upd r) b⟩
theorem G1 {f:Addr}{a:FuncData}(F:fY K "_law_listed" "_law_listed" dM f a)(T:Txt mg)(i:mg "_law_listed" = some (.ref f))(j:PySem.W.keepIn K (.ref f)=true)(b:eY K a fF []):∀n,bN P w K mg base bH (n+2) f a fF (lF n):=by
 intro n
 induction n using Nat.strongRecOn with
 | ind n d =>
  exact GM n F T ⟨f,a,_,⟨λvs H Q E ⟨m,c,h⟩=>(d m c).len vs H Q E h,λA outer s H args us vs Q E g l b e ⟨m,c,h⟩=>((d m c).mono (by omega)).run A outer s H args us vs Q E g l b e h⟩,i,j,b⟩
theorem CG {f:Addr}{a:FuncData}(F:fY K "_law_listed" "_law_listed" dM f a)(T:Txt mg)(b:mg "_law_listed" = some (.ref f))(c:PySem.W.keepIn K (.ref f)=true)(d:eY K a fF [])(n:Nat):d8 P w K mg base bH (n+2) "_law_listed" (lF n):=⟨f,a,_,G1 F T b c d n,b,c,d⟩
end
mutual
/-- texts and tuples,each sum of two parts -/
def Pd (sm:bE):D->Prop
 | .str _=>True
 | .tup (.str n::ds)=>(zr sm n≠none->ds.length=2)/\Pds sm ds
 | _=>False
def Pds (sm:bE):List D->Prop
 | []=>True
 | d::ds=>Pd sm d/\Pds sm ds
end
section
variable {fx:cW}{sm:bE}{os:aV}
theorem kL:∀{ds:List D},Pds sm ds ↔ ∀e∈ds,Pd sm e
 | []=>⟨λ_ _ h=>(nomatch h),λ_=>trivial⟩
 | d::ds=>by unfold Pds;rw[kL,List.forall_mem_cons]
mutual
theorem JH:∀{d:D},Pd sm d->prD sm d=d
 | .str x,_=>mI _ _
 | .tup (.str n::ds),h=>by
  unfold Pd at h;rw[prD,JG h.2];unfold pr;cases e:zr sm n with
  | none=>rfl
  | some z =>
   have:=h.1 (by rw[e];simp)
   match ds,this with
   | [a,b],_=>rfl
 | .non,h | .bl _,h | .int _,h | .tup [],h | .lst _,h | .tup (.non::_),h | .tup (.bl _::_),h | .tup (.int _::_),h | .tup (.tup _::_),h | .tup (.lst _::_),h=>by unfold Pd at h;exact absurd h id
theorem JG:∀{ds:List D},Pds sm ds->prDs sm ds=ds
 | [],_=>rfl
 | d::ds,⟨a,b⟩=>by rw[prDs,JH a,JG b]
end
theorem OB (so:bX fx sm){d:D}(h:bA fx sm os d):Pd sm (prD sm d):=by
 refine mZ (P:=λd=>Pd sm (prD sm d)) (λx _=>by rw[mI];unfold Pd;trivial) (λn ds d hd i _ f=>?_) h;have all:∀e∈prDs sm ds,Pd sm e:=λe c=>by rw[cA]at c;obtain⟨x,g,rfl⟩:=cs.mp c;exact f x g
 rw[(oI sm hd).1];unfold pr;cases e:zr sm n with
 | none =>
  dsimp only;unfold Pd;exact⟨λz=>absurd e z,kL.mpr all⟩
 | some z =>
  have ne:prDs sm ds≠[]:=λz=>by have:=kP i;rw[cA,List.map_eq_nil_iff]at z;rw[z]at this;simp at this
  exact rV (λd e a b=>by unfold Pd;exact⟨λ_=>rfl,a,b,trivial⟩) ne all
noncomputable def chD (sm:bE)(k n:Str)(d:D):Option D :=
 if k="add" then(match zr sm n with
  | some z=>if z=("" : Str)then none else some (.tup [.str n,d,.str z])
  | none=>none)
 else match d with
 | .tup [.str m,a,b]=>if m=n then
   (if k="turn" then some (.tup [.str n,b,a])
    else if k="drop" then(match zr sm n with
     | some z=>if eqD b (.str z)=true then some a else none
     | none=>none)
    else if k="left" then(match b with
     | .tup [.str c,e,b2]=>if c=n then some (.tup [.str n,.tup [.str n,a,e],b2])else none
     | _=>none)
    else(match a with
     | .tup [.str c,g,f]=>if c=n then some (.tup [.str n,g,.tup [.str n,f,b]])else none
     | _=>none))else none
 | _=>none
noncomputable def backK (k:Str):Str:=if k="left" then "right" else if k="right" then "left" else if k="drop" then "add" else if k="add" then "drop" else k
noncomputable def kinds:aV:=["turn","left","right","drop","add"]
structure SR (fx:cW)(sm:bE)(os:aV)(d e:D):Prop where
 tm:bA fx sm os e
 pd:Pd sm e
 lv:lvs e<=lvs d+1
 nd:nds e<=nds d+2
 dp:depD e<=depD d+1
 fl:flt sm e=flt sm d
theorem jM {n:Str}{a b:D}:bA fx sm os (.tup [.str n,a,b]) ↔ qB fx sm n 2/\bA fx sm os a/\bA fx sm os b:=by
 constructor
 ·intro h;unfold bA at h;exact⟨h.1,h.2.1,h.2.2.1⟩
 ·intro h;unfold bA;exact⟨h.1,h.2.1,h.2.2,trivial⟩
theorem kM {n:Str}{a b:D}:Pd sm (.tup [.str n,a,b]) ↔ Pd sm a/\Pd sm b:=by
 constructor
 ·intro h;unfold Pd at h;exact⟨h.2.1,h.2.2.1⟩
 ·intro h;unfold Pd;exact⟨λ_=>rfl,h.1,h.2,trivial⟩
theorem fI (n:Str)(a b:D):lvs (.tup [.str n,a,b])=lvs a+lvs b/\nds (.tup [.str n,a,b])=1+(nds a+nds b)/\depD (.tup [.str n,a,b])=max (depD a) (depD b)+1/\flt sm (.tup [.str n,a,b])=knot sm n [flt sm a,flt sm b]:=by obtain⟨g,f,e,c,_⟩:=eM (sm:=sm) (d:=.tup [.str n,a,b]) (.inl rfl);refine⟨by rw[g];simp only[lvss];omega,by rw[f];simp only[ndss];omega,by rw[e];simp only[depDs];omega,by rw[c];rfl⟩
theorem fV (so:bX fx sm)(ho:∀x∈os,eC x){d:D}(h:bA fx sm os d):Fl (flt sm d)/\NF sm (flt sm d):=⟨(nI (eT so) (kY so ho h).1).1,KR (eT so) (kY so ho h).1⟩
theorem knot3 {n z:Str}(hz:zr sm n=some z){x y w:D}(d:Fl x/\NF sm x)(c:Fl y/\NF sm y)(e:Fl w/\NF sm w)(f:Fl (knot sm n [y,w]))(g:Fl (knot sm n [x,y])):knot sm n [x,knot sm n [y,w]]=knot sm n [knot sm n [x,y],w]:=by have b:=pN (gs:=[y,w]) hz ⟨c.2,e.2,trivial⟩;have a:=pN (gs:=[x,y]) hz ⟨d.2,c.2,trivial⟩;refine pV hz ⟨d.1,f,trivial⟩ ?_;rw[cD,cD,cD,cD,show opn n z []=[]from rfl,bi,bi];rw[cD,cD,show opn n z []=[]from rfl,bi]at b a;refine(List.Perm.append_left (opn1 n z x) b).trans ?_;rw[←ci];exact(a.symm).append_right _
theorem AX {b:D}{z:Str}(h:eqD b (.str z)=true):b = .str z:=by
 cases b with
 | str x=>unfold eqD at h;rw[bo h]
 | _=>unfold eqD at h;simp at h
theorem GN (so:bX fx sm){n z:Str}(hz:zr sm n=some z)(ne:z≠("" : Str)):bA fx sm os (.str z):=by obtain⟨r,a,_,rfl⟩:=HJ hz;unfold bA;exact .inr (so.nought r a ne)
theorem NE (so:bX fx sm)(ho:∀x∈os,eC x){z:Str}(h:bA fx sm os (.str z)):z≠("" : Str):=λe=>by have:=(kY so ho h).1;unfold Tm at this;rw[e]at this;exact absurd this.1 (by decide)
theorem jQ {k n:Str}{a b:D}(h:k≠"add"):chD sm k n (.tup [.str n,a,b])=(if k="turn" then some (.tup [.str n,b,a])
    else if k="drop" then(match zr sm n with
     | some z=>if eqD b (.str z)=true then some a else none
     | none=>none)
    else if k="left" then(match b with
     | .tup [.str c,d,b2]=>if c=n then some (.tup [.str n,.tup [.str n,a,d],b2])else none
     | _=>none)
    else(match a with
     | .tup [.str c,f,e]=>if c=n then some (.tup [.str n,f,.tup [.str n,e,b]])else none
     | _=>none)):=by
 unfold chD;rw[ab h];dsimp only;rw[ai rfl]
theorem NV {n z:Str}{a:D}(hz:zr sm n=some z):chD sm "drop" n (.tup [.str n,a,.str z])=some a:=by rw[jQ (by decide),ab (by decide),ai rfl,hz];dsimp only;rw[iY,ai rfl]
theorem DI {n z:Str}{a:D}(hz:zr sm n=some z)(ne:z≠("" : Str)):chD sm "add" n a=some (.tup [.str n,a,.str z]):=by unfold chD;rw[ai rfl,hz];dsimp only;rw[ab ne]
theorem FB {n:Str}{a b c:D}:chD sm "left" n (.tup [.str n,a,.tup [.str n,b,c]])=some (.tup [.str n,.tup [.str n,a,b],c]):=by rw[jQ (by decide),ab (by decide),ab (by decide),ai rfl];dsimp only;rw[ai rfl]
theorem A4 {n:Str}{a b c:D}:chD sm "right" n (.tup [.str n,.tup [.str n,a,b],c])=some (.tup [.str n,a,.tup [.str n,b,c]]):=by rw[jQ (by decide),ab (by decide),ab (by decide),ab (by decide)];dsimp only;rw[ai rfl]
theorem yN (so:bX fx sm)(ho:∀x∈os,eC x){k n:Str}{d e:D}(hk:k∈kinds)(hn:n∈sm.map (·.1))(tm:bA fx sm os d)(pd:Pd sm d)(h:chD sm k n d=some e):SR fx sm os d e/\chD sm (backK k) n e=some d:=by
 obtain⟨z,hz⟩:=BP hn;have i:qB fx sm n 2:=.inr ⟨ac _,hn⟩;have nz:=eT so;have Z:flt sm (.str z) = .str z:=by unfold flt;rfl
 have G:∀{x y:D},bA fx sm os x->bA fx sm os y->Fl (knot sm n [flt sm x,flt sm y]):=λ{x y} hx hy=>by have:=(fV so ho (jM.mpr ⟨i,hx,hy⟩)).1;rw[(fI (sm:=sm) n x y).2.2.2]at this;exact this
 unfold chD at h;by_cases A:k="add"
 ·subst A;rw[ai rfl,hz]at h;by_cases H:z=("" : Str)
  ·dsimp only at h;rw[ai H]at h;cases h
  ·dsimp only at h;rw[ab H]at h;cases h;have tz:bA fx sm os (.str z):=GN so hz H;obtain⟨v,u,s,r⟩:=fI (sm:=sm) n d (.str z);obtain⟨f1,f2⟩:=fV so ho tm;refine⟨⟨jM.mpr ⟨i,tm,tz⟩,kM.mpr ⟨pd,by unfold Pd;trivial⟩,by rw[v];show _+1<=_;omega,by rw[u];show 1+(_+1)<=_;omega,by rw[s];show max _ 0+1<=_;omega,by rw[r,Z];exact qF hz f1 f2 (.inl rfl)⟩,?_⟩;exact NV hz
 ·rw[ab A]at h;have c:∃a b,d = .tup [.str n,a,b]:=by
   split at h
   ·rename_i m a b;by_cases g:m=n
    ·exact⟨a,b,by rw[g]⟩
    ·rw[ab g]at h;cases h
   ·cases h
  obtain⟨a,b,rfl⟩:=c
  replace h:chD sm k n (.tup [.str n,a,b])=some e:=by unfold chD;rw[ab A];exact h
  rw[jQ A]at h;obtain⟨_,o,tb⟩:=jM.mp tm;obtain⟨pa,I⟩:=kM.mp pd;obtain⟨v,u,s,r⟩:=fI (sm:=sm) n a b;obtain⟨T,na⟩:=fV so ho o;obtain⟨fb,nb⟩:=fV so ho tb;by_cases L:k="turn"
  ·subst L;rw[ai rfl]at h;cases h;obtain⟨F,E,C,B⟩:=fI (sm:=sm) n b a;refine⟨⟨jM.mpr ⟨i,tb,o⟩,kM.mpr ⟨I,pa⟩,by rw[F,v];omega,by rw[E,u];omega,by rw[C,s];omega,?_⟩,?_⟩
   ·rw[B,r];refine pV hz ⟨fb,T,trivial⟩ ?_;rw[cD,cD,cD,cD,show opn n z []=[]from rfl,bi,bi];exact List.perm_append_comm
   ·show chD sm "turn" n _=_;rw[jQ (by decide),ai rfl]
  rw[ab L]at h;by_cases O:k="drop"
  ·subst O;rw[ai rfl,hz]at h;dsimp only at h;by_cases q:eqD b (.str z)=true
   ·rw[ai q]at h;cases h;have:=AX q;subst this;refine⟨⟨o,pa,by rw[v];omega,by rw[u];omega,by rw[s];omega,by rw[r,Z];exact(qF hz T na (.inl rfl)).symm⟩,?_⟩;exact DI hz (NE so ho tb)
   ·rw[ab q]at h;cases h
  rw[ab O]at h;by_cases N:k="left"
  ·subst N;rw[ai rfl]at h;have c:∃j b2,b = .tup [.str n,j,b2]:=by
    split at h
    ·rename_i m j b2;by_cases g:m=n
     ·exact⟨j,b2,by rw[g]⟩
     ·rw[ab g]at h;cases h
    ·cases h
   obtain⟨j,b2,rfl⟩:=c;dsimp only at h;rw[ai rfl]at h;cases h;obtain⟨_,t1,f⟩:=jM.mp tb;obtain⟨K,J⟩:=kM.mp I;obtain⟨Y,X,W,U⟩:=fI (sm:=sm) n j b2;obtain⟨F,E,C,B⟩:=fI (sm:=sm) n a j;obtain⟨S,R,Q,P⟩:=fI (sm:=sm) n (.tup [.str n,a,j]) b2;refine⟨⟨jM.mpr ⟨i,jM.mpr ⟨i,o,t1⟩,f⟩,kM.mpr ⟨kM.mpr ⟨pa,K⟩,J⟩,by rw[S,F,v,Y];omega,by rw[R,E,u,X];omega,by rw[Q,C,s,W];omega,?_⟩,A4⟩;rw[P,B,r,U];exact(knot3 hz ⟨T,na⟩ (fV so ho t1) (fV so ho f) (G t1 f) (G o t1)).symm
  rw[ab N]at h;have kr:k="right":=by
   simp only[kinds,cp,List.not_mem_nil,or_false]at hk;rcases hk with h|h|h|h|h
   ·exact absurd h L
   ·exact absurd h N
   ·exact h
   ·exact absurd h O
   ·exact absurd h A
  subst kr;have c:∃w l,a = .tup [.str n,w,l]:=by
   split at h
   ·rename_i m w l;by_cases g:m=n
    ·exact⟨w,l,by rw[g]⟩
    ·rw[ab g]at h;cases h
   ·cases h
  obtain⟨w,l,rfl⟩:=c;dsimp only at h;rw[ai rfl]at h;cases h;obtain⟨_,t1,f⟩:=jM.mp o;obtain⟨K,J⟩:=kM.mp pa;obtain⟨Y,X,W,U⟩:=fI (sm:=sm) n w l;obtain⟨F,E,C,B⟩:=fI (sm:=sm) n l b;obtain⟨S,R,Q,P⟩:=fI (sm:=sm) n w (.tup [.str n,l,b]);refine⟨⟨jM.mpr ⟨i,t1,jM.mpr ⟨i,f,tb⟩⟩,kM.mpr ⟨K,kM.mpr ⟨J,I⟩⟩,by rw[S,F,v,Y];omega,by rw[R,E,u,X];omega,by rw[Q,C,s,W];omega,?_⟩,FB⟩;rw[P,B,r,U];exact knot3 hz (fV so ho t1) (fV so ho f) ⟨fb,nb⟩ (G f tb) (G t1 f)
noncomputable def eI (sm:bE)(k n:Str):List Nat->D->Option D
 | [],d=>chD sm k n d
 | i::pl,.tup (.str m::ds)=>(ds[i]?).bind λe=>(eI sm k n pl e).map λa=>.tup (.str m::ds.set i a)
 | _::_,_=>none
theorem zE {x y:D}:∀{ds:List D} {i:Nat},ds[i]?=some x->lvss (ds.set i y)+lvs x=lvss ds+lvs y/\ndss (ds.set i y)+nds x=ndss ds+nds y/\depDs (ds.set i y)<=max (depDs ds) (depD y)/\(flt sm y=flt sm x->flts sm (ds.set i y)=flts sm ds)
 | [],_,h=>by simp at h
 | e::ds,0,h=>by
  simp at h;subst h;rw[List.set_cons_zero,lvss,lvss,ndss,ndss,depDs,depDs,flts,flts];exact⟨by omega,by omega,by omega,λz=>by rw[z]⟩
 | e::ds,i+1,h=>by obtain⟨d,c,b,a⟩:=zE (ds:=ds) (i:=i) (x:=x) (y:=y) (by simpa using h);rw[List.set_cons_succ,lvss,lvss,ndss,ndss,depDs,depDs,flts,flts];exact⟨by omega,by omega,by omega,λz=>by rw[a z]⟩
theorem D9 {d:D}(h:Pd sm d):(∃x,d = .str x)∨∃m ds,d = .tup (.str m::ds):=by
 unfold Pd at h;split at h
 ·exact .inl ⟨_,rfl⟩
 ·exact .inr ⟨_,_,rfl⟩
 ·exact absurd h id
theorem zA (so:bX fx sm)(ho:∀x∈os,eC x){k n:Str}(f:k∈kinds)(c:n∈sm.map (·.1)):∀{pl:List Nat} {d e:D},bA fx sm os d->Pd sm d->eI sm k n pl d=some e->SR fx sm os d e/\eI sm (backK k) n pl e=some d
 | [],d,e,tm,pd,h=>yN so ho f c tm pd h
 | i::pl,d,e,tm,pd,h=>by
  rcases D9 pd with⟨x,rfl⟩|⟨m,ds,rfl⟩
  ·simp[eI]at h
  ·rw[eI]at h;obtain⟨x,a,l⟩:=Option.bind_eq_some_iff.mp h;obtain⟨y,j,rfl⟩:=Option.map_eq_some_iff.mp l;unfold bA at tm;unfold Pd at pd;have b:=bg a;have g:=(ck.mp a).1;obtain⟨s,back⟩:=zA so ho f c (mC.mp tm.2 x b) (kL.mp pd.2 x b) j;obtain⟨E,C,B,A,_⟩:=eM (sm:=sm) (d:=.tup (.str m::ds)) (.inl rfl);obtain⟨z,w,v,u,_⟩:=eM (sm:=sm) (d:=.tup (.str m::ds.set i y)) (.inl rfl);obtain⟨L,K,J,F⟩:=zE (sm:=sm) (y:=y) a;have H:=s.lv;have s2:=s.nd;have G:=s.dp;have I:=iZ a;have all:∀{P:D->Prop},(∀e∈ds,P e)->P y->∀e∈ds.set i y,P e:=λr q e o=>by
    rcases List.mem_or_eq_of_mem_set o with h|rfl
    ·exact r e h
    ·exact q
   refine⟨⟨?_,?_,by rw[z,E];omega,by rw[w,C];omega,by rw[v,B];omega,by rw[u,A,F s.fl]⟩,?_⟩
   ·unfold bA;rw[List.length_set];exact⟨tm.1,mC.mpr (all (mC.mp tm.2) s.tm)⟩
   ·unfold Pd;rw[List.length_set];exact⟨pd.1,kL.mpr (all (kL.mp pd.2) s.pd)⟩
   ·rw[eI,List.getElem?_set_self g,Option.bind_some,back,Option.map_some,List.set_set];congr;rw[←(ck.mp a).2,List.set_getElem_self]
end
inductive tT (d:D):List Nat->List D->D->Prop
 | nil:tT d [] [d] d
 | snoc {pl:List Nat} {ws:List D} {m:Str} {ds:List D} {i:Nat} {e:D} (h:tT d pl ws (.tup (.str m::ds))) (hi:ds[i]?=some e):tT d (pl++[i]) (ws++[e]) e
theorem tT.len {d:D}{pl:List Nat}{ws:List D}{e:D}(h:tT d pl ws e):ws.length=pl.length+1:=by
 induction h with
 | nil=>rfl
 | snoc _ _ a=>rw[aq,aq,a];rfl
theorem tT.last {d:D}{pl:List Nat}{ws:List D}{e:D}(h:tT d pl ws e):ws[pl.length]?=some e:=by
 cases h with
 | nil=>rfl
 | snoc h a=>rw[aq,List.getElem?_append_right (by rw[h.len];simp),h.len];simp
theorem tT.first {d:D}{pl:List Nat}{ws:List D}{e:D}(h:tT d pl ws e):∃r,ws=d::r:=by
 induction h with
 | nil=>exact⟨[],rfl⟩
 | snoc _ _ a=>obtain⟨r,rfl⟩:=a;exact⟨r++[_],rfl⟩
theorem tT.upto {d:D}{pl:List Nat}{ws:List D}{e:D}(h:tT d pl ws e):∀i,i<=pl.length->∃c,tT d (pl.take i) (ws.take (i+1)) c/\∀j,pl[i]?=some j->∃m ds x,c = .tup (.str m::ds)/\ds[j]?=some x/\ws[i+1]?=some x:=by
 induction h with
 | nil =>
  intro i f;cases Nat.le_zero.mp f;exact⟨_,.nil,λj b=>by simp at b⟩
 | snoc h f v =>
  rename_i pl ws m ds i e;intro j b;rw[aq]at b;have o:=h.len;by_cases z:j=pl.length+1
  ·subst z;rw[List.take_of_length_le (by rw[aq];exact ac _),List.take_of_length_le (by rw[aq,o];exact ac _)];exact⟨_,.snoc h f,λt a=>by rw[List.getElem?_eq_none (by rw[aq];exact ac _)]at a;cases a⟩
  ·have l:j<=pl.length:=by simp only[ao,List.length_nil]at b;omega
   obtain⟨c,q,nx⟩:=v j l;rw[List.take_append_of_le_length l,List.take_append_of_le_length (by omega)];refine⟨c,q,λt a=>?_⟩;by_cases y:j<pl.length
   ·rw[List.getElem?_append_left y]at a;obtain⟨u,g,x,B,A,w⟩:=nx t a;exact⟨u,g,x,B,A,by rw[List.getElem?_append_left (by omega)];exact w⟩
   ·have:j=pl.length:=by omega
    subst this;rw[List.getElem?_append_right (ac _),Nat.sub_self]at a;cases a;have s:=q.last;rw[br,List.getElem?_take_of_lt (by omega)]at s;have r:=h.last;rw[s]at r;cases r;exact⟨m,ds,e,rfl,f,by rw[List.getElem?_append_right (by omega),o];simp⟩
theorem HN {m:Str}{ds:List D}{i:Nat}{x:D}(c:ds[i]?=some x){pl:List Nat}{ws:List D}{e:D}(h:tT x pl ws e):tT (.tup (.str m::ds)) (i::pl) (.tup (.str m::ds)::ws) e:=by
 induction h with
 | nil=>exact .snoc (pl:=[]) (ws:=[_]) .nil c
 | snoc h b a=>exact .snoc (pl:=i::_) (ws:=_::_) a b
theorem sB {sm:bE}{k n:Str}:∀{pl:List Nat} {d r:D},eI sm k n pl d=some r->∃ws e c,tT d pl ws e/\chD sm k n e=some c
 | [],d,r,h=>⟨[d],d,r,.nil,h⟩
 | i::pl,d,r,h=>by
  unfold eI at h;split at h
  ·rename_i q;cases q
  ·rename_i q;cases q;obtain⟨x,b,h⟩:=Option.bind_eq_some_iff.mp h;obtain⟨y,a,rfl⟩:=Option.map_eq_some_iff.mp h;obtain⟨ws,e,c,g,f⟩:=sB a;exact⟨_,e,c,HN b g,f⟩
  ·cases h
section
variable {P:Program}{w:World}{K:PySem.W.Frag}{mg:iH}{base:Heap}
noncomputable def isS (n:Str):D->Bool
 | .tup (.str m::_)=>decide (m=n)
 | _=>false
def j9:Sp:=λvs H Q _=>∃(sm:bE) (n:Str) (d:D) (v:V),vs=[.str n,v]/\Pd sm d/\aT H d v/\Q (.bl (isS n d)) H
theorem nA {sm:bE}{d:D}{v:V}{H:Hp}(h:Pd sm d)(r:aT H d v):(∃x,d = .str x/\v = .str x)∨∃m ds c b,d = .tup (.str m::ds)/\v = .ref c/\H c=some (.tup (.str m::b))/\Reps H ds b:=by
 rcases D9 h with⟨x,rfl⟩|⟨m,ds,rfl⟩
 ·exact .inl ⟨x,rfl,r⟩
 ·obtain⟨a,vs,rfl,e,_,b,rfl,f,r⟩:=r;cases f;exact .inr ⟨m,ds,a,b,rfl,rfl,e,r⟩
theorem J1 {f:Addr}{g:FuncData}(F:fY K "is_sum" "is_sum" oG f g)(T:Txt mg):bN P w K mg base bH 1 f g BG j9:=by
 refine F.ok F1 (λvs H Q E h=>?_) (λl A outer s H vs Q E b h=>?_)
 ·obtain⟨sm,n,d,v,rfl,_⟩:=h;rfl
 ·obtain⟨sm,n,d,v,rfl,pd,rep,q⟩:=h;have a:=b.units;refine⟨_,(aG (aM (xK (aL aK rfl T.n_isinstance rfl (aA (pv 1) (aA (bG (v:=V.ty "tuple") rfl T.n_tuple rfl rfl) aB))) (pM (gH (gJ a) (aS bB (pv 1) aF (λ_ _=>rfl)) (pv 0) (nomark _)))))),?_⟩
  try dsimp only[cxOf,Cx.nox]
  clear b F T a;rcases nA pd rep with⟨x,rfl,rfl⟩|⟨m,ds,j,i,rfl,rfl,c,res⟩
  ·exact⟨_,rfl,.str x,.ty "tuple",false,rfl,rfl,false,rfl,q⟩
  ·refine⟨_,rfl,.ref j,.ty "tuple",true,rfl,yE c,true,rfl,_,rfl,.str m,by rw[ixV_t c,atI_zero],_,rfl,.str m,.str n,rfl,rfl,au _,?_⟩;have e:eqD (.str m) (.str n)=isS n (.tup (.str m::ds)):=by show(m == n)=decide (m=n);rw[bS];simp
   rw[e];exact q
def iS (k:Str):Sp:=λvs H Q _=>∃(b:cW) (sm:bE) (os:aV) (n z:Str) (d:D) (v:V),vs=[.str n,.str z,v]/\zr sm n=some z/\n∈sm.map (·.1)/\bA b sm os d/\Pd sm d/\aT H d v/\depD d<=100 /\
 (∀e a H',chD sm k n d=some e->aD H H'->aT H' e a->Q a H')/\(∀H',chD sm k n d=none->aD H H'->Q .non H')
theorem kN {sm:bE}{n z:Str}(hz:zr sm n=some z){d:D}{v:V}{H:Hp}(h:Pd sm d)(r:aT H d v):(isS n d=false/\∀k:Str,k≠("add" : Str)->chD sm k n d=none)∨∃a b c x y,d = .tup [.str n,a,b]/\isS n d=true/\v = .ref c/\H c=some (.tup [.str n,x,y])/\aT H a x/\aT H b y/\Pd sm a/\Pd sm b:=by
 rcases nA h r with⟨x,rfl,rfl⟩|⟨m,ds,c,g,rfl,rfl,l,res⟩
 ·exact .inl ⟨rfl,λk f=>by unfold chD;rw[ab f]⟩
 ·by_cases e:m=n
  ·subst e;unfold Pd at h;have j:=h.1 (by rw[hz];simp)
   match ds,j,h,res with
   | [a,b],_,h,res =>
    obtain⟨x,_,rfl,r1,y,_,rfl,i,o⟩:=res;cases (show _=[]from o);exact .inr ⟨a,b,c,x,y,rfl,bf rfl,rfl,l,r1,i,h.2.1,h.2.2.1⟩
  ·refine .inl ⟨bh e,λk f=>?_⟩;unfold chD;rw[ab f];split
   ·rename_i s a b q;cases q;rw[ab e]
   ·rfl
theorem ix2 {H:Hp}{a:Addr}{n x y:V}(h:H a=some (.tup [n,x,y])):ixV H (.ref a) (.int 1)=some x/\ixV H (.ref a) (.int 2)=some y:=by rw[ixV_t h,ixV_t h];exact⟨rfl,rfl⟩
theorem GH {f:Addr}{l:FuncData}(F:fY K "turned" "turned" oE f l)(T:Txt mg)(c:d8 P w K mg base bH 1 "is_sum" j9):bN P w K mg base bH 2 f l BE (iS "turn"):=by
 refine F.ok FX (λvs H Q E h=>?_) (λG A outer s H vs Q E i h=>?_)
 ·obtain⟨C,sm,os,n,z,d,v,rfl,_⟩:=h;rfl
 ·obtain⟨C,sm,os,n,z,d,v,rfl,hz,L,tm,pd,rep,m,u,r⟩:=h;have B:=i.units;refine⟨_,(aG (aM (e8 (aO K rfl (aN c (i.mono (by decide)) pass0 rfl (aA (pv 0) (aA (pv 2) aB))) (λ_=>rfl)) (bK (aA (pv 0) (aA (aS bB (pv 2) aF (λ_ _=>rfl)) (aA (aS bB (pv 2) aF (λ_ _=>rfl)) aB)))) dE))),?_⟩
  try dsimp only[cxOf,Cx.nox]
  clear i F T B c;refine⟨_,rfl,_,rfl,sm,n,d,v,rfl,pd,rep,_,rfl,?_⟩;rcases kN hz pd rep with⟨e,none⟩|⟨a,b,I,x,y,rfl,e,rfl,j,q,o,pa,J⟩
  ·rw[e];exact r H (none _ (by decide)) (aD.refl _)
  ·rw[e];refine⟨_,rfl,_,rfl,y,(ix2 j).2,_,rfl,x,(ix2 j).1,show 3<=sizeLine by decide,λt g=>u (.tup [.str n,b,a]) (.ref t) _ (by rw[jQ (by decide),ai rfl]) (aD.upd g) ?_⟩;exact⟨t,_,rfl,upd_same,_,_,rfl,rfl,_,_,rfl,aT.same (aD.upd g) o,_,_,rfl,aT.same (aD.upd g) q,rfl⟩
theorem CP {f:Addr}{q:FuncData}(F:fY K "dropped" "dropped" mG f q)(T:Txt mg)(g:d8 P w K mg base bH 1 "is_sum" j9):bN P w K mg base bH 2 f q wJ (iS "drop"):=by
 refine F.ok B5 (λvs H Q E h=>?_) (λI A outer s H vs Q E j h=>?_)
 ·obtain⟨G,sm,os,n,z,d,v,rfl,_⟩:=h;rfl
 ·obtain⟨G,sm,os,n,z,d,v,rfl,hz,N,tm,pd,rep,r,m,l⟩:=h;have C:=j.units;have i:_+160<cLine:=aj (bx (show 160<=16 * 1+200 by decide) _) (by rw[←Nat.add_assoc];exact j.un);refine⟨_,(aG (aM (e8 (PW.pt (B8 (aO K rfl (aN g (j.mono (by decide)) pass0 rfl (aA (pv 0) (aA (pv 2) aB))) (λ_=>rfl)) (xE (aY (pS i) (aS bB (pv 2) aF (λ_ _=>rfl)) (pv 1) (nomark _))))) (aS bB (pv 2) aF (λ_ _=>rfl)) dE))),?_⟩
  try dsimp only[cxOf,Cx.nox]
  clear j F T C i g;refine⟨_,rfl,_,rfl,sm,n,d,v,rfl,pd,rep,_,rfl,?_⟩;rcases kN hz pd rep with⟨e,none⟩|⟨a,b,J,x,y,rfl,e,rfl,o,B,u,pa,L⟩
  ·rw[e];exact l H (none _ (by decide)) (aD.refl _)
  ·rw[e];have dp:=(fI (sm:=sm) n a b).2.2.1;have ch:chD sm "drop" n (.tup [.str n,a,b])=if eqD b (.str z)=true then some a else none:=by rw[jQ (by decide),ab (by decide),ai rfl,hz]
   rw[ch]at m l;refine⟨_,rfl,y,(ix2 o).2,_,rfl,b,.str z,u,rfl,by omega,_,rfl,cN (λc=>?_) (λc=>?_)⟩
   ·exact⟨_,rfl,x,(ix2 o).1,m a x H (ai c) (aD.refl _) B⟩
   ·exact l H (ab (by rw[c];decide)) (aD.refl _)
theorem J7 {f:Addr}{i:FuncData}(F:fY K "added" "added" rL f i)(T:Txt mg):bN P w K mg base bH 2 f i FG (iS "add"):=by
 refine F.ok IQ (λvs H Q E h=>?_) (λr A outer s H vs Q E g h=>?_)
 ·obtain⟨o,sm,os,n,z,d,v,rfl,_⟩:=h;rfl
 ·obtain⟨o,sm,os,n,z,d,v,rfl,hz,u,tm,pd,rep,j,m,l⟩:=h;have a:=g.units;refine⟨_,(aG (aM (e8 (aY (nC a) (pv 1) cI (nomark _)) (bK (aA (pv 0) (aA (pv 2) (aA (pv 1) aB)))) dE))),?_⟩
  try dsimp only[cxOf,Cx.nox]
  clear g F T a;refine⟨_,rfl,.str z,.str (PySem.Str.ofString ""),rfl,rfl,au _,_,rfl,cN (λc=>?_) (λc=>?_)⟩
  ·have ne:z≠("" : Str):=λe=>by rw[e,iY]at c;cases c
   exact⟨_,rfl,_,rfl,_,rfl,show 3<=sizeLine by decide,λt b=>m (.tup [.str n,d,.str z]) (.ref t) _ (DI hz ne) (aD.upd b) ⟨t,_,rfl,upd_same,_,_,rfl,rfl,_,_,rfl,aT.same (aD.upd b) rep,_,_,rfl,rfl,rfl⟩⟩
  ·have q:z=("" : Str):=by
    have c:eqD (.str z) (.str (PySem.Str.ofString ""))=true:=by
     cases e:eqD (.str z) (.str (PySem.Str.ofString ""))with
     | true=>rfl
     | false=>rw[e]at c;cases c
    cases AX c;rfl
   refine l H ?_ (aD.refl _);unfold chD;rw[ai rfl,hz];dsimp only;rw[ai q]
theorem zT {f:Addr}{R:FuncData}(F:fY K "leftward" "leftward" kD f R)(T:Txt mg)(c:d8 P w K mg base bH 1 "is_sum" j9):bN P w K mg base bH 2 f R tW (iS "left"):=by
 refine F.ok zF (λvs H Q E h=>?_) (λcdv A outer s H vs Q E i h=>?_)
 ·obtain⟨fx,sm,os,n,z,d,v,rfl,_⟩:=h;rfl
 ·obtain⟨fx,sm,os,n,z,d,v,rfl,hz,hn,tm,pd,rep,S,X,L⟩:=h;have g:=i.units
  refine⟨_,(aC (bD (PW.pt (gR (cM (aO K rfl (aN c (i.mono (by decide)) pass0 rfl (aA (pv 0) (aA (pv 2) aB))) (λ_=>rfl))) (eQ (cM (aO K rfl (aN c (i.mono (by decide)) pass0 rfl (aA (pv 0) (aA (aS bB (pv 2) aF (λ_ _=>rfl)) aB))) (λ_=>rfl)))))) (aG (aM dE)) aP)
   (aG (aM (bK (aA (pv 0) (aA (bK (aA (pv 0) (aA (aS bB (pv 2) aF (λ_ _=>rfl)) (aA (aS bB (aS bB (pv 2) aF (λ_ _=>rfl)) aF (λ_ _=>rfl)) aB)))) (aA (aS bB (aS bB (pv 2) aF (λ_ _=>rfl)) aF (λ_ _=>rfl)) aB))))))),?_⟩
  try dsimp only[cxOf,Cx.nox]
  clear i F T g c;refine⟨_,rfl,_,rfl,sm,n,d,v,rfl,pd,rep,_,rfl,?_⟩;rcases kN hz pd rep with⟨e,none⟩|⟨a,b,U,x,y,rfl,e,rfl,j,W,J,pa,N⟩
  ·rw[e];exact L H (none _ (by decide)) (aD.refl _)
  rw[e];refine⟨_,rfl,_,rfl,y,(ix2 j).2,sm,n,b,y,rfl,N,J,_,rfl,?_⟩;rcases kN hz N J with⟨l,C⟩|⟨b1,b2,m,I,G,rfl,l,rfl,O,B,r,Z,Y⟩
  ·rw[l];refine L H ?_ (aD.refl _);rw[jQ (by decide),ab (by decide),ab (by decide),ai rfl];split
   ·rename_i m' c1 c2;exact ab (of_decide_eq_false l)
   ·rfl
  ·rw[l];have i2:∀{H':Hp},aD H H'->ixV H' (.ref U) (.int 2)=some (.ref m):=λs=>(ix2 (s _ _ j)).2;refine⟨_,rfl,_,rfl,_,rfl,x,(ix2 j).1,_,rfl,.ref m,(ix2 j).2,I,(ix2 O).1,show 3<=sizeLine by decide,λt ht=>?_⟩;have q:=aD.upd (o:=.tup [.str n,x,I]) ht;refine⟨_,rfl,.ref m,i2 q,G,(ix2 (q _ _ O)).2,show 3<=sizeLine by decide,λu g=>?_⟩;have s2:=q.trans (aD.upd (o:=.tup [.str n,.ref t,G]) g);exact X (.tup [.str n,.tup [.str n,a,b1],b2]) (.ref u) _ FB s2 ⟨u,_,rfl,upd_same,_,_,rfl,rfl,_,_,rfl,⟨t,_,rfl,aD.upd g _ _ upd_same,_,_,rfl,rfl,_,_,rfl,aT.same s2 W,_,_,rfl,aT.same s2 B,rfl⟩,_,_,rfl,aT.same s2 r,rfl⟩
theorem xO {f:Addr}{N:FuncData}(F:fY K "rightward" "rightward" jC f N)(T:Txt mg)(c:d8 P w K mg base bH 1 "is_sum" j9):bN P w K mg base bH 2 f N qQ (iS "right"):=by
 refine F.ok xA (λvs H Q E h=>?_) (λcdv A outer s H vs Q E i h=>?_)
 ·obtain⟨Z,sm,os,n,z,d,v,rfl,_⟩:=h;rfl
 ·obtain⟨Z,sm,os,n,z,d,v,rfl,hz,hn,tm,pd,rep,O,U,J⟩:=h;have g:=i.units
  refine⟨_,(aC (bD (PW.pt (gR (cM (aO K rfl (aN c (i.mono (by decide)) pass0 rfl (aA (pv 0) (aA (pv 2) aB))) (λ_=>rfl))) (eQ (cM (aO K rfl (aN c (i.mono (by decide)) pass0 rfl (aA (pv 0) (aA (aS bB (pv 2) aF (λ_ _=>rfl)) aB))) (λ_=>rfl)))))) (aG (aM dE)) aP)
   (aG (aM (bK (aA (pv 0) (aA (aS bB (aS bB (pv 2) aF (λ_ _=>rfl)) aF (λ_ _=>rfl)) (aA (bK (aA (pv 0) (aA (aS bB (aS bB (pv 2) aF (λ_ _=>rfl)) aF (λ_ _=>rfl)) (aA (aS bB (pv 2) aF (λ_ _=>rfl)) aB)))) aB))))))),?_⟩
  try dsimp only[cxOf,Cx.nox]
  clear i F T g c;refine⟨_,rfl,_,rfl,sm,n,d,v,rfl,pd,rep,_,rfl,?_⟩;rcases kN hz pd rep with⟨e,none⟩|⟨a,b,va,x,y,rfl,e,rfl,j,I,S,pa,pb⟩
  ·rw[e];exact J H (none _ (by decide)) (aD.refl _)
  rw[e];refine⟨_,rfl,_,rfl,x,(ix2 j).1,sm,n,a,x,rfl,pa,I,_,rfl,?_⟩;rcases kN hz pa I with⟨l,r⟩|⟨a1,a2,G,C,B,rfl,l,rfl,L,q,m,X,W⟩
  ·rw[l];refine J H ?_ (aD.refl _);rw[jQ (by decide),ab (by decide),ab (by decide),ab (by decide)];split
   ·rename_i m' c1 c2;exact ab (of_decide_eq_false l)
   ·rfl
  ·rw[l];refine⟨_,rfl,_,rfl,.ref G,(ix2 j).1,C,(ix2 L).1,_,rfl,_,rfl,.ref G,(ix2 j).1,B,(ix2 L).2,_,rfl,y,(ix2 j).2,show 3<=sizeLine by decide,λt Y=>?_⟩;have R:=aD.upd (o:=.tup [.str n,B,y]) Y;refine⟨show 3<=sizeLine by decide,λu g=>?_⟩;have s2:=R.trans (aD.upd (o:=.tup [.str n,C,.ref t]) g);exact U (.tup [.str n,a1,.tup [.str n,a2,b]]) (.ref u) _ A4 s2 ⟨u,_,rfl,upd_same,_,_,rfl,rfl,_,_,rfl,aT.same s2 q,_,_,rfl,⟨t,_,rfl,aD.upd g _ _ upd_same,_,_,rfl,rfl,_,_,rfl,aT.same s2 m,_,_,rfl,aT.same s2 S,rfl⟩,rfl⟩
theorem P1 {f:Addr}{g:FuncData}(F:fY K "_law_is" "_law_is" mH f g)(T:Txt mg):bN P w K mg base bH 1 f g wK j9:=by
 refine F.ok B6 (λvs H Q E h=>?_) (λl A outer s H vs Q E b h=>?_)
 ·obtain⟨sm,n,d,v,rfl,_⟩:=h;rfl
 ·obtain⟨sm,n,d,v,rfl,pd,rep,q⟩:=h;have a:=b.units;refine⟨_,(aG (aM (xK (aL aK rfl T.n_isinstance rfl (aA (pv 1) (aA (bG (v:=V.ty "tuple") rfl T.n_tuple rfl rfl) aB))) (pM (gH (gJ a) (aS bB (pv 1) aF (λ_ _=>rfl)) (pv 0) (nomark _)))))),?_⟩
  try dsimp only[cxOf,Cx.nox]
  clear b F T a;rcases nA pd rep with⟨x,rfl,rfl⟩|⟨m,ds,j,i,rfl,rfl,c,res⟩
  ·exact⟨_,rfl,.str x,.ty "tuple",false,rfl,rfl,false,rfl,q⟩
  ·refine⟨_,rfl,.ref j,.ty "tuple",true,rfl,yE c,true,rfl,_,rfl,.str m,by rw[ixV_t c,atI_zero],_,rfl,.str m,.str n,rfl,rfl,au _,?_⟩;have e:eqD (.str m) (.str n)=isS n (.tup (.str m::ds)):=by show(m == n)=decide (m=n);rw[bS];simp
   rw[e];exact q
def spLCh (P:Program)(w:World):Sp:=λvs H Q _=>∃(dn:Addr) (fx:cW) (sm:bE) (os:aV) (k n z:Str) (d:D) (v:V),vs=[.ref dn,.str k,.str n,v]/\QW P w H dn (sm.map λr=>(.inr r.1,V.str r.2))/\k∈kinds/\zr sm n=some z/\bA fx sm os d/\Pd sm d/\aT H d v/\depD d<=100 /\
 (∀e a H',chD sm k n d=some e->aD H H'->aT H' e a->Q a H')/\(∀H',chD sm k n d=none->aD H H'->Q .non H')
theorem AW (x y:Str):eqD (.str x) (.str y)=decide (x=y):=by show(x == y)=_;rw[bS];simp
theorem QO (x y z:V):cutV [x,y,z] (some 1) none=[y,z]:=mP x [y,z]
theorem P2 {f:Addr}{fd:FuncData}(F:fY K "_law_changed" "_law_changed" gF f fd)(T:Txt mg)(g:d8 P w K mg base bH 1 "_law_is" j9):bN P w K mg base bH 2 f fd lW (spLCh P w):=by
 refine F.ok iE (λvs H Q E h=>?_) (λcdv A outer s H vs Q E W h=>?_)
 ·obtain⟨dn,fx,sm,os,k,n,z,d,v,rfl,_⟩:=h;rfl
 ·obtain⟨dn,fx,sm,os,k,n,z,d,v,rfl,hdn,hk,hz,tm,pd,rep,d100,B,r⟩:=h;have S:=W.units;have l:_+160<cLine:=aj (bx (show 160<=16 * 1+200 by decide) _) (by rw[←Nat.add_assoc];exact W.un)
  refine⟨_,(aC (aW (i:=4) iE.nd rfl (Or.inl rfl) (JE (pv 0) (pv 2) (λ_ _=>rfl)))
   (aC (bD (aY (pS l) (pv 1) cI (nomark _)) (aG (aM (e8 (aY (nC S) (pv 4) cI (nomark _)) (bK (aA (pv 2) (aA (pv 3) (aA (pv 4) aB)))) dE))) aP)
   (aC (bD (cM (aO K rfl (aN g (W.mono (by decide)) pass0 rfl (aA (pv 2) (aA (pv 3) aB))) (λ_=>rfl))) (aG (aM dE)) aP)
   (aC (jN (dC gT (pv 3) (bT aF) cF) (eF K rfl (i:=5) (j:=6) rfl iE.nd rfl rfl rfl rfl))
   (aC (bD (aY (pS l) (pv 1) cI (nomark _)) (aG (aM (bK (aA (pv 2) (aA (pv 6) (aA (pv 5) aB)))))) aP)
   (aC (bD (aY (pS l) (pv 1) cI (nomark _)) (aG (aM (e8 (aY (pS l) (pv 6) (pv 4) (nomark _)) (pv 5) dE))) aP)
   (aC (bD (aY (pS l) (pv 1) cI (nomark _)) (aG (aM (e8 (aO K rfl (aN g (W.mono (by decide)) pass0 rfl (aA (pv 2) (aA (pv 6) aB))) (λ_=>rfl)) (bK (aA (pv 2) (aA (bK (aA (pv 2) (aA (pv 5) (aA (aS bB (pv 6) aF (λ_ _=>rfl)) aB)))) (aA (aS bB (pv 6) aF (λ_ _=>rfl)) aB)))) dE))) aP)
   (aG (aM (e8 (aO K rfl (aN g (W.mono (by decide)) pass0 rfl (aA (pv 2) (aA (pv 5) aB))) (λ_=>rfl)) (bK (aA (pv 2) (aA (aS bB (pv 5) aF (λ_ _=>rfl)) (aA (bK (aA (pv 2) (aA (aS bB (pv 5) aF (λ_ _=>rfl)) (aA (pv 6) aB)))) aB)))) dE)))))))))),?_⟩
  try dsimp only[cxOf,Cx.nox]
  clear W F T S l g;refine⟨_,rfl,_,rfl,dn,_,.inr n,.str z,rfl,hdn,rfl,by rw[wQ,hz];rfl,?_⟩;refine⟨_,rfl,.str k,.str (PySem.Str.ofString "add"),rfl,rfl,au _,_,rfl,?_⟩;rw[AW];refine ite2 (λJ=>?_) (λJ=>?_)
  ·have J:k="add":=bo (by simpa using J);subst J;refine⟨_,rfl,.str z,.str (PySem.Str.ofString ""),rfl,rfl,au _,_,rfl,?_⟩;rw[AW];by_cases z0:z=("" : Str)
   ·rw[bf z0];refine r H ?_ (aD.refl _);unfold chD;rw[ai rfl,hz];dsimp only;rw[ai z0]
   ·rw[bh z0];exact⟨_,rfl,_,rfl,_,rfl,show 3<=sizeLine by decide,λt G=>B (.tup [.str n,d,.str z]) (.ref t) _ (DI hz z0) (aD.upd G) ⟨t,_,rfl,upd_same,_,_,rfl,rfl,_,_,rfl,aT.same (aD.upd G) rep,_,_,rfl,rfl,rfl⟩⟩
  have J:k≠"add":=λe=>by rw[e]at J;exact J (by simp)
  refine⟨_,rfl,_,rfl,sm,n,d,v,rfl,pd,rep,_,rfl,?_⟩;rcases kN hz pd rep with⟨e,none⟩|⟨a,b,va,x,y,rfl,e,rfl,ha,ra,rb,pa,pb⟩
  ·rw[e];exact r H (none k J) (aD.refl _)
  rw[e];have dp:=(fI (sm:=sm) n a b).2.2.1;refine⟨_,rfl,1,rfl,va,_,rfl,.inr ha,λ_ h=>by have:=h.1;simp[HT.sIx]at this,λp o hp ho=>?_⟩;have eo:o = .tup [x,y]:=by
   rcases ho with⟨_,e⟩|⟨e,_⟩
   ·rw[ha]at e;cases e
   ·rw[e,QO]
  subst eo;have C:aD H (upd H p (.tup [x,y])):=aD.upd hp;have p1:upd H p (.tup [x,y]) p=some (.tup [x,y]):=upd_same;generalize upd H p (.tup [x,y])=H1 at C p1⊢;have q:=aT.same C ra;have m:=aT.same C rb;refine⟨p,_,rfl,hZ.of p1,rfl,_,_,rfl,_,_,rfl,rfl,?_⟩;rw[jQ J]at B r;refine⟨_,rfl,.str k,.str (PySem.Str.ofString "turn"),rfl,rfl,au _,_,rfl,?_⟩;rw[AW];refine ite2 (λN=>?_) (λN=>?_)
  ·have N:k="turn":=bo (by simpa using N);exact⟨_,rfl,_,rfl,_,rfl,show 3<=sizeLine by decide,λt G=>B (.tup [.str n,b,a]) (.ref t) _ (ai N) (C.trans (aD.upd G)) ⟨t,_,rfl,upd_same,_,_,rfl,rfl,_,_,rfl,aT.same (aD.upd G) m,_,_,rfl,aT.same (aD.upd G) q,rfl⟩⟩
  have N:k≠"turn":=λe=>by rw[e]at N;exact N (by simp)
  rw[ab N]at B r;refine⟨_,rfl,.str k,.str (PySem.Str.ofString "drop"),rfl,rfl,au _,_,rfl,?_⟩;rw[AW];refine ite2 (λR=>?_) (λR=>?_)
  ·have R:k="drop":=bo (by simpa using R);rw[ai R,hz]at B r;refine⟨_,rfl,_,rfl,b,.str z,m,rfl,by omega,_,rfl,cN (λc=>?_) (λc=>?_)⟩
   ·exact⟨_,rfl,B a x H1 (ai c) C q⟩
   ·exact r H1 (ab (by rw[c];decide)) C
  have R:k≠"drop":=λe=>by rw[e]at R;exact R (by simp)
  rw[ab R]at B r;refine⟨_,rfl,.str k,.str (PySem.Str.ofString "left"),rfl,rfl,au _,_,rfl,?_⟩;rw[AW];refine ite2 (λO=>?_) (λO=>?_)
  ·have O:k="left":=bo (by simpa using O);rw[ai O]at B r;refine⟨_,rfl,_,rfl,sm,n,b,y,rfl,pb,m,_,rfl,?_⟩;rcases kN hz pb m with⟨L,U⟩|⟨b1,b2,vb,y1,y2,rfl,L,rfl,hb,Y,X,pb1,pb2⟩
   ·rw[L];refine r H1 ?_ C;split
    ·exact ab (of_decide_eq_false L)
    ·rfl
   ·rw[L];refine⟨_,rfl,_,rfl,_,rfl,_,rfl,y1,(ix2 hb).1,show 3<=sizeLine by decide,λt G=>?_⟩;have s2:=aD.upd (o:=.tup [.str n,x,y1]) G;refine⟨_,rfl,y2,(ix2 (s2 _ _ hb)).2,show 3<=sizeLine by decide,λu S=>?_⟩;have I:=s2.trans (aD.upd (o:=.tup [.str n,.ref t,y2]) S);exact B (.tup [.str n,.tup [.str n,a,b1],b2]) (.ref u) _ (ai rfl) (C.trans I) ⟨u,_,rfl,upd_same,_,_,rfl,rfl,_,_,rfl,⟨t,_,rfl,aD.upd S _ _ upd_same,_,_,rfl,rfl,_,_,rfl,aT.same I q,_,_,rfl,aT.same I Y,rfl⟩,_,_,rfl,aT.same I X,rfl⟩
  have O:k≠"left":=λe=>by rw[e]at O;exact O (by simp)
  rw[ab O]at B r;refine⟨_,rfl,_,rfl,sm,n,a,x,rfl,pa,q,_,rfl,?_⟩;rcases kN hz pa q with⟨L,U⟩|⟨a1,a2,wa,x1,x2,rfl,L,rfl,hw,ra1',Z,pa1,pa2⟩
  ·rw[L];refine r H1 ?_ C;split
   ·exact ab (of_decide_eq_false L)
   ·rfl
  ·rw[L];refine⟨_,rfl,_,rfl,x1,(ix2 hw).1,_,rfl,_,rfl,x2,(ix2 hw).2,_,rfl,show 3<=sizeLine by decide,λt G=>?_⟩;have s2:=aD.upd (o:=.tup [.str n,x2,y]) G;refine⟨show 3<=sizeLine by decide,λu S=>?_⟩;have I:=s2.trans (aD.upd (o:=.tup [.str n,x1,.ref t]) S);exact B (.tup [.str n,a1,.tup [.str n,a2,b]]) (.ref u) _ (ai rfl) (C.trans I) ⟨u,_,rfl,upd_same,_,_,rfl,rfl,_,_,rfl,aT.same I ra1',_,_,rfl,⟨t,_,rfl,aD.upd S _ _ upd_same,_,_,rfl,rfl,_,_,rfl,aT.same I Z,_,_,rfl,aT.same I m,rfl⟩,rfl⟩
noncomputable def iV (pl:List Nat):List V:=pl.map λ(i:Nat)=>V.int (i:Int)
def spWay:Sp:=λvs H Q _=>∃(d:D) (v:V) (pa:Addr) (pl:List Nat) (ws:List D) (e:D),vs=[v,.ref pa]/\aT H d v/\cV H pa (iV pl)/\tT d pl ws e/\pl.length<=200/\∀l us H',aD H H'->H l=none->H' l=some (.lst us)->Reps H' ws us->Q (.ref l) H'
def SZ (v:V)(pa l:Addr)(ws:List D)(H:Hp)(i:Nat)(σ:St)(a:Hp):Prop:=∃(us:List V) (o3 o4:Option V),σ=[some v,some (.ref pa),some (.ref l),o3,o4]/\aD H a/\a l=some (.lst us)/\Reps H (ws.take (i+1)) us
theorem rQ {H:Hp}{l:Addr}{us:List V}{u:V}{n:Nat}(h:H l=some (.lst us))(e:us[n]?=some u)(a:us.length=n+1):ixV H (.ref l) (.int (-1))=some u:=by
 rw[ixV_l h];unfold atI ixN;rw[ab (by decide),ai (by omega)];have:(-1+(us.length:Int)).toNat=n:=by omega
 show us[(-1+(us.length:Int)).toNat]?=_;rw[this];exact e
theorem JR {f:Addr}{fd:FuncData}(F:fY K "way_to" "way_to" oB f fd)(T:Txt mg):bN P w K mg base bH 1 f fd BC spWay:=by
 refine F.ok mE (λvs H Q E h=>?_) (λcdv A outer s H vs Q E hr h=>?_)
 ·obtain⟨d,v,pa,pl,ws,e,rfl,_⟩:=h;rfl
 ·obtain⟨d,v,pa,pl,ws,e,rfl,rep,R,z,l200,q⟩:=h;have O:=hr.units
  refine⟨_,(aC (aW (i:=2) mE.nd rfl (Or.inl rfl) (cQ (aA (pv 0) aB)))
   (aC (dG dc rfl (cP K rfl (pv 1)) (aZ (i:=3) mE.nd rfl (Or.inl rfl)) (aC (aW (i:=4) mE.nd rfl (Or.inl rfl) (aS bB (pv 2) (fQ dS aF) (λ_ _=>rfl)))
   (aC (bD (PW.pt (gR (aO K rfl (aL aK rfl T.n_isinstance rfl (aA (pv 4) (aA (bG (v:=V.ty "str") rfl T.n_str rfl rfl) aB))) (λ_=>rfl)) (eQ (cM (iT k6 (lL O) aF (pv 3) (bF iW (aL bZ rfl T.n_len rfl (aA (pv 4) aB)) aF)))))) (aG dB) aP)
   (aG (cS (iU c4 db da dY (pv 2) (aA (aS bB (pv 4) (bF bM (pv 3) aF) (λ_ _=>rfl)) aB)))))))
   (aG (aM (pv 2))))),?_⟩
  try dsimp only[cxOf,Cx.nox]
  clear hr F T O;simp only[eL];refine⟨_,rfl,show 1<=sizeLine by decide,λl Y=>?_⟩;have W:aD H (upd H l (.lst [v])):=aD.upd Y;have l1:upd H l (.lst [v]) l=some (.lst [v]):=upd_same;generalize upd H l (.lst [v])=H1 at W l1⊢;have wl:=z.len;refine⟨_,rfl,pa,_,rfl,R.same W,λJ hJ=>?_⟩;have t1:ws.take 1=[d]:=by obtain⟨r,rfl⟩:=z.first;rfl
  refine eW hJ (SZ v pa l ws H) ⟨[v],none,none,rfl,W,l1,by rw[t1];exact⟨v,[],rfl,rep,rfl⟩⟩ (λi σ H' _ ⟨_,_,_,_,s,_⟩=>by rcases R with e|e <;> rw[s _ _ e,W _ _ e]) ?_ ?_
  ·rintro i x σ H2 C ⟨us,o3,o4,rfl,s2,L,B⟩;obtain⟨j,hj,rfl⟩:∃j,pl[i]?=some j/\x = .int (j:Int):=by
    unfold iV at C;rw[bw]at C;cases e:pl[i]? with
    | none=>rw[e]at C;cases C
    | some y=>rw[e]at C;cases C;exact⟨y,rfl,rfl⟩
   have li:=(ck.mp hj).1;obtain⟨c,hc,nx⟩:=z.upto i (by omega);obtain⟨m,ds,y,rfl,hy,hw⟩:=nx j hj;have a:=hc.last;rw[bq,Nat.min_eq_left (by omega)]at a;have lu:=Reps.len B;rw[bq]at lu;obtain⟨u,O⟩:∃u,us[i]?=some u:=⟨_,aw (by omega)⟩
   obtain⟨c',S,rc⟩:=Reps.get B O;rw[a]at S;cases S;obtain⟨ua,vs,rfl,X,_,g,rfl,U,I⟩:=rc;cases U;have lj:=(ck.mp hy).1;have lv:=Reps.len I;obtain⟨G,hyv⟩:∃G,g[j]?=some G:=⟨_,aw (by omega)⟩
   obtain⟨y',N,ry⟩:=Reps.get I hyv;rw[hy]at N;cases N;have Z:=s2 _ _ X;refine⟨_,rfl,1,rfl,.ref ua,rQ L O (by omega),?_⟩;refine⟨_,rfl,.ref ua,.ty "str",false,rfl,iX Z,?_⟩;have l3:g.length+1 - 1=g.length:=rfl;refine⟨_,rfl,_,rfl,_,_,rfl,rfl,_,rfl,cN (λ_=>?_) (λc=>absurd (Int.natCast_nonneg j) (of_decide_eq_false c))⟩;refine⟨_,rfl,_,_,rfl,(by dsimp only;rw[lenV_t Z];rfl),_,_,rfl,rfl,.inl (.inl ⟨_,_,rfl,rfl,_,rfl,?_⟩)⟩;have lt:decide ((j:Int)<((V.str m::g).length:Int) - 1)=true:=bf (by rw[ao];omega);dsimp only;rw[lt];refine⟨_,rfl,.inl ⟨rfl,_,eK.of L⟩,_,rfl,_,rfl,.inl ⟨_,rfl,G,?_,l,us,G,rfl,rfl,L,aj (m:=300) (by omega) (by decide),?_⟩⟩
   ·rw[ixV_t Z];have U:(j:Int)+1=((j+1:Nat):Int):=by omega
    rw[U];exact jL (by simpa using hyv)
   ·refine⟨us++[G],_,_,rfl,λb o hb=>by rw[aE (aH hb Y)];exact s2 _ _ hb,upd_same,?_⟩;rw[bC hw];exact Reps.snoc ry B
  ·rintro σ H2 ⟨us,o3,o4,rfl,s2,L,B⟩;have U:ws.take ((iV pl).length+1)=ws:=by unfold iV;rw[ae,←wl,br]
   rw[U]at B;exact⟨_,rfl,q l us H2 s2 Y L (Reps.same s2 B)⟩
theorem EV {H:Hp}{a p:Addr}{xs:List V}(h:cV H a xs)(b:H p=some (.tup [.ty "list",.ty "tuple"])):isV H (.ref a) (.ref p)=some true:=by
 rcases h with h|h
 ·exact C7 h b
 ·exact C6 h b
theorem NC {H:Hp}{a:Addr}{xs:List V}(h:cV H a xs):lenV H (.ref a)=some xs.length:=by
 rcases h with h|h
 ·exact lenV_l h
 ·exact lenV_t h
def S3 (H:Hp)(i:Nat)(a:List V)(σ:St)(b:Hp):Prop:=∃(o:Option V),σ=[o]/\b=H/\a=(List.replicate i true).map V.bl
def DV (K:PySem.W.Frag)(C:Addr):Sp:=λvs H Q _=>∃(g sa pa:Addr) (fx:cW) (sm:bE) (k n z:Str) (pl:List Nat),vs=[.ref g,.ref sa]/\fN K C fx sm H g/\cV H sa [.str k,.ref pa,.str n]/\cV H pa (iV pl)/\k∈kinds/\nulV sm n = .str z/\pl.length<=200/\∀H',aD H H'->Q .non H'
theorem JS {f C dD:Addr}{fd:FuncData}{j:List (dQ×V)}(F:fY K "check_step" "check_step" gC f fd)(T:Txt mg)(G_DEEDS:∃u,mg "DEEDS" = some u/\aU (.ref dD) u)(KD_DEEDS:R0 P w K dD j)(hk:∀k∈kinds,(valV j (.inr k)).isSome=true)(b:yV P w K mg base bH 1 C "nought" (iR K C))(a:d8 P w K mg base bH 1 "is_whole" wZ):bN P w K mg base bH 2 f fd pB (DV K C):=by
 refine F.ok gZ (λvs H Q E h=>?_) (λcdv A outer s H vs Q E G h=>?_)
 ·obtain⟨g,sa,pa,fx,sm,k,n,z,pl,rfl,_⟩:=h;rfl
 ·obtain⟨g,sa,pa,fx,sm,k,n,z,pl,rfl,sg,S,U,Y,hz,l200,q⟩:=h;have hu:=G.units
  refine⟨_,(aC (bD (PW.pt (gR (cM (aO K rfl (aL aK rfl T.n_isinstance rfl (aA (pv 1) (aA (bK (aA (bG (v:=V.ty "list") rfl T.n_list rfl rfl) (aA (bG (v:=V.ty "tuple") rfl T.n_tuple rfl rfl) aB))) aB))) (λ_=>rfl))) (eQ (aY (nC hu) (aL bZ rfl T.n_len rfl (aA (pv 1) aB)) aF (nomark _))))) (aG dB) aP)
   (aC (jN (pv 1) (JA (n:=3) rfl (dX (aZ (i:=2) gZ.nd rfl (Or.inl rfl)) (dX (aZ (i:=3) gZ.nd rfl (Or.inl rfl)) (dX (aZ (i:=4) gZ.nd rfl (Or.inl rfl)) oK)))))
   (aC (bD (PW.pt (gR (cM (aO K rfl (aL aK rfl T.n_isinstance rfl (aA (pv 2) (aA (bG (v:=V.ty "str") rfl T.n_str rfl rfl) aB))) (λ_=>rfl))) (eQ (aY (GE KD_DEEDS) (pv 2) (eS G_DEEDS rfl) (by with_unfolding_all rfl))))) (aG dB) aP)
   (aC (bD (PW.pt (gR (cM (aO K rfl (aL aK rfl T.n_isinstance rfl (aA (pv 3) (aA (bK (aA (bG (v:=V.ty "list") rfl T.n_list rfl rfl) (aA (bG (v:=V.ty "tuple") rfl T.n_tuple rfl rfl) aB))) aB))) (λ_=>rfl))) (eQ (cM (aO K rfl (aL (mQ rfl) rfl T.n_all rfl (aA (gG rfl (bW.by (N:=kU) (names:=(aJ gC).names) (N':=["part"]) (src:=[none]) (by decide +kernel) rfl rfl) (cP K rfl (pv 3)) (λ_ _ _ _=>(aZ (i:=0) (show List.Nodup (["part"]:aV)by decide +kernel) rfl (Or.inl rfl))) (λ_ _ _ _=>dN) (λ_ _ _ _=>(aN a (G.mono (by decide)) pass0 rfl (aA (pv 0) aB)))) aB)) (λ_=>rfl)))))) (aG dB) aP)
   (aG (bD (aY pO (m9 b (G.mono (by decide)) pass0 (pv 0) (aA (pv 4) aB)) dE (nomark _)) (aG dB) aP)))))),?_⟩
  try dsimp only[cxOf,Cx.nox]
  clear G F T hu a b KD_DEEDS G_DEEDS;simp only[eL,dU];refine⟨_,rfl,by decide,λp hp=>?_⟩;have L:aD H (upd H p (.tup [.ty "list",.ty "tuple"])):=aD.upd hp;have p1:upd H p (.tup [.ty "list",.ty "tuple"]) p=some (.tup [.ty "list",.ty "tuple"]):=upd_same;generalize upd H p (.tup [.ty "list",.ty "tuple"])=H1 at L p1⊢;have Z:=S.same L;refine⟨_,_,true,rfl,EV Z p1,true,rfl,?_⟩;refine cN (λe=>absurd e (by decide)) (λ_=>?_);refine⟨_,rfl,_,_,rfl,(by dsimp only;rw[NC Z];rfl),?_⟩;dsimp only[tC];rw[rNeD_ii];refine⟨_,rfl,cN (λe=>absurd e (by simp)) (λ_=>?_)⟩;refine⟨_,rfl,sa,_,rfl,Z,rfl,_,_,rfl,_,_,rfl,_,_,rfl,rfl,?_⟩;refine⟨_,rfl,_,_,true,rfl,rfl,true,rfl,cN (λe=>absurd e (by decide)) (λ_=>?_)⟩;refine⟨_,rfl,rfl,.inr k,rfl,?_⟩;rw[hk k Y];refine⟨_,rfl,cN (λe=>absurd e (by decide)) (λ_=>?_)⟩;refine⟨_,rfl,by decide,λr W=>?_⟩;have s2:aD H (upd H1 r (.tup [.ty "list",.ty "tuple"])):=L.trans (aD.upd W);have d:upd H1 r (.tup [.ty "list",.ty "tuple"]) r=some (.tup [.ty "list",.ty "tuple"]):=upd_same;generalize upd H1 r (.tup [.ty "list",.ty "tuple"])=H2 at s2 d⊢;have a2:=U.same s2;refine⟨_,_,true,rfl,EV a2 d,true,rfl,cN (λe=>absurd e (by decide)) (λ_=>?_)⟩;refine⟨_,rfl,pa,_,rfl,a2,λJ hJ=>?_⟩;refine dF hJ (S3 H2) ⟨none,rfl,rfl,rfl⟩ (by rintro i l σ H' _ ⟨_,_,rfl,_⟩;rfl) ?_ ?_
  ·rintro i x l σ H3 B ⟨o,rfl,rfl,rfl⟩;have O:=(ck.mp B).1;unfold iV at B O;rw[ae]at O;rw[bw,aw O]at B;cases B;refine⟨_,rfl,_,rfl,aj (m:=200) (by simp;omega) (by decide),_,rfl,rfl,?_⟩;rw[List.replicate_succ',ax];rfl
  ·rintro l σ H3 ⟨o,rfl,rfl,rfl⟩ R X;refine⟨R,_,rfl,upd_same,true,?_,?_⟩
   ·have e:(List.replicate (iV pl).length true).all id=true:=by simp
    rw[e];rfl
   have I:aD H (upd H3 R (.lst ((List.replicate (iV pl).length true).map V.bl))):=s2.trans (aD.upd X);generalize upd H3 R (.lst ((List.replicate (iV pl).length true).map V.bl))=H4 at I⊢;refine cN (λe=>absurd e (by decide)) (λ_=>?_);have c:=sg.same I;obtain⟨dx,fs,_,_,h1,h2,h3,_⟩:=c.ex;refine⟨_,rfl,g,dx,fs,rfl,h1,h3,_,rfl,g,n,fx,sm,rfl,c,rfl,?_⟩;rw[hz];exact⟨_,rfl,cN (λe=>nomatch bo e) (λ_=>q _ I)⟩
theorem nW {sm:bE}{k n:Str}{d:D}{pl:List Nat}{ws:List D}{e:D}(h:tT d pl ws e){i j:Nat}(a:pl[i]?=some j):∃m ds x,ws[i]?=some (.tup (.str m::ds))/\ds[j]?=some x/\ws[i+1]?=some x/\∀y,eI sm k n (pl.drop (i+1)) x=some y->eI sm k n (pl.drop i) (.tup (.str m::ds))=some (.tup (.str m::ds.set j y)):=by
 have b:=(ck.mp a).1;obtain⟨c,q,nx⟩:=h.upto i (by omega);obtain⟨m,ds,x,rfl,f,o⟩:=nx j a;have g:=q.last;rw[bq,Nat.min_eq_left (by omega),List.getElem?_take_of_lt (by omega)]at g;refine⟨m,ds,x,g,f,o,λy l=>?_⟩;have e:pl.drop i=j::pl.drop (i+1):=by rw[List.drop_eq_getElem_cons b];rw[aw b]at a;cases a;rfl
 rw[e,eI,f,Option.bind_some,l];rfl
theorem Reps.put {H:Hp}{e:D}{u:V}(r:aT H e u):∀{ds:List D} {vs:List V} (i:Nat),Reps H ds vs->Reps H (ds.set i e) (vs.set i u)
 | [],vs,i,h=>by cases (show vs=[]from h);exact h
 | d::ds,vs,0,h=>by
  obtain⟨v,a,rfl,c,b⟩:=h;exact⟨u,a,rfl,r,b⟩
 | d::ds,vs,i+1,h=>by obtain⟨v,a,rfl,c,b⟩:=h;exact⟨v,_,rfl,c,Reps.put r i b⟩
theorem wO {i:cW}{sm:bE}{os:aV}{d:D}{pl:List Nat}{ws:List D}{e:D}(h:tT d pl ws e)(tm:bA i sm os d)(pd:Pd sm d):∀x∈ws,bA i sm os x/\Pd sm x/\depD x<=depD d/\nds x<=nds d:=by
 induction h with
 | nil=>intro x b;cases cm.mp b;exact⟨tm,pd,ac _,ac _⟩
 | snoc h g f =>
  intro x b;rcases cr.mp b with m|m
  ·exact f x m
  ·cases cm.mp m;obtain⟨t1,c,t3,t4⟩:=f _ (bg h.last);obtain⟨_,l,j,_⟩:=eM (sm:=sm) (d:=.tup (.str _::_)) (.inl rfl);rw[l]at t4;rw[j]at t3;have q:=iZ g;have a:=bg g;have o:=xT a;unfold bA at t1;unfold Pd at c;exact⟨mC.mp t1.2 _ a,kL.mp c.2 _ a,by omega,by omega⟩
theorem uT.seq {Pt:Addr}{H H':Hp}(h:uT Pt H)(b:dR Pt H H'){a:Addr}{xs:List V}(e:cV H a xs):cV H' a xs:=by
 rcases e with e|e
 ·exact .inl (b _ _ (h.ne e λ_=>by simp) e)
 ·exact .inr (b _ _ (h.ne e λ_=>by simp) e)
theorem vE {m x:V}{vs:List V}{i:Nat}(a:i<vs.length):(m::vs).take (i+1)++[x]++(m::vs).drop (i+2)=m::vs.set i x:=by rw[List.take_succ_cons,List.drop_succ_cons,List.set_eq_take_append_cons_drop,ai a];simp
def T6 (g sa pa l f:Addr)(v b:V)(sm:bE)(k n:Str)(pl:List Nat)(ws:List D)(H:Hp)(i:Nat)(σ:St)(a:Hp):Prop:=∃(u:V) (y x:D) (o1 o2:Option V),σ=[some (.ref g),some v,some (.ref sa),some b,some (.str k),some (.ref pa),some (.str n),some (.ref l),some (.ref f),some u,o1,o2]/\aD H a/\aT a y u/\ws[pl.length - i]?=some x/\eI sm k n (pl.drop (pl.length - i)) x=some y
def SX (a:List (dQ×V))(f:Addr)(b:Sp):Prop:=∃k∈kinds,valV a (.inr k)=some (.ref f)/\b=iS k
def IL (K:PySem.W.Frag)(C Pp:Addr):Sp:=λvs H Q _=>∃(g sa pa:Addr) (fx:cW) (sm:bE) (os:aV) (k n z:Str) (pl:List Nat) (d e:D) (v:V),vs=[.ref g,v,.ref sa]/\fN K C fx sm H g/\aT H d v/\yT fx sm os d/\depD (prD sm d)<=100/\uT Pp H/\cV H sa [.str k,.ref pa,.str n]/\cV H pa (iV pl)/\k∈kinds/\zr sm n=some z/\n∈sm.map (·.1)/\pl.length<=200/\eI sm k n pl (prD sm d)=some e /\
 ∀(a:V) (H':Hp),dR Pp H H'->uT Pp H'->aT H' e a->Q a H'
theorem M6 {f C dD Pp:Addr}{fd:FuncData}{kvs:List (dQ×V)}(F:fY K "done" "done" xD f fd)(T:Txt mg)(G_DEEDS:∃u,mg "DEEDS" = some u/\aU (.ref dD) u)(KD_DEEDS:R0 P w K dD kvs)(hk:∀k∈kinds,∃f,valV kvs (.inr k)=some (.ref f))(OV:∀f sp,SX kvs f sp->yW P w K mg base bH 2 f sp)(I:yV P w K mg base bH 1 C "nought" (iR K C))
  (G:d8 P w K mg base bH 9 "paired" (nY K C Pp)) (a:d8 P w K mg base bH 2 "check_step" (DV K C)) (B:d8 P w K mg base bH 1 "way_to" spWay):bN P w K mg base bH 10 f fd LI (IL K C Pp):=by
 refine F.ok gX (λvs H Q E h=>?_) (λcdv A outer s H vs Q E hr h=>?_)
 ·obtain⟨g,sa,pa,fx,sm,os,k,n,z,pl,d,e,v,rfl,_⟩:=h;rfl
 ·obtain⟨g,sa,pa,fx,sm,os,k,n,z,pl,d,e,v,rfl,sg,rep,tm,dp,lt,hsa,hpa,hkk,hz,hn,l200,st,q⟩:=h;have hu:=hr.units
  refine⟨_,(aC (aW (i:=3) gX.nd rfl (Or.inl rfl) (aN G (hr.mono (by decide)) pass0 rfl (aA (pv 0) (aA (pv 1) aB))))
   (aC (cS (aN a (hr.mono (by decide)) pass0 rfl (aA (pv 0) (aA (pv 2) aB))))
   (aC (jN (pv 2) (JA (n:=3) rfl (dX (aZ (i:=4) gX.nd rfl (Or.inl rfl)) (dX (aZ (i:=5) gX.nd rfl (Or.inl rfl)) (dX (aZ (i:=6) gX.nd rfl (Or.inl rfl)) oK)))))
   (aC (aW (i:=7) gX.nd rfl (Or.inl rfl) (aN B (hr.mono (by decide)) pass0 rfl (aA (pv 3) (aA (pv 5) aB))))
   (aC (aW (i:=8) gX.nd rfl (Or.inl rfl) (JF KD_DEEDS (eS G_DEEDS rfl) (pv 4) (λ_ _=>rfl)))
   (aC (aW (i:=9) gX.nd rfl (Or.inl rfl) (ME (i:=8) OV rfl (Or.inl rfl) (hr.mono (by decide)) pass0 (aA (pv 6) (aA (m9 I (hr.mono (by decide)) pass0 (pv 0) (aA (pv 6) aB)) (aA (aS bB (pv 7) (fQ dS aF) (λ_ _=>rfl)) aB)))))
   (aC (bD (aY pO (pv 9) dE (nomark _)) (aG dB) aP)
   (aC (dG dc rfl (D7 rfl T.n_zip (aA (fS D0 (pv 5) cF cF (bT (fQ dS aF))) (aA (fS rJ (pv 7) (bT (fQ dS aF)) cF (bT (fQ dS aF))) aB))) (eF K rfl (i:=10) (j:=11) rfl gX.nd rfl rfl rfl rfl) (aG (aW (i:=9) gX.nd rfl (Or.inl rfl) (bF (bM.or gI) (bF (bM.or gI) (dC gT (pv 11) cF (bT (bF (bM.or gI) (pv 10) aF))) (bK (aA (pv 9) aB))) (dC gT (pv 11) (bT (bF (bM.or gI) (pv 10) aF)) cF)))))
   (aG (aM (pv 9))))))))))),?_⟩
  try dsimp only[cxOf,Cx.nox]
  clear hr F T hu OV I G a B KD_DEEDS G_DEEDS;simp only[eL,dU];have nul:nulV sm n = .str z:=by unfold nulV;rw[hz];rfl
  refine⟨_,rfl,_,rfl,g,fx,sm,os,d,v,rfl,sg,rep,tm,lt,λv1 H1 b1 lt1 r1=>?_⟩;have sg1:=lt.sg b1 sg;have sa1:=lt.seq b1 hsa;have pa1:=lt.seq b1 hpa;refine⟨_,rfl,_,rfl,g,sa,pa,fx,sm,k,n,z,pl,rfl,sg1,sa1,pa1,hkk,nul,l200,λH2 s2=>?_⟩;refine⟨_,rfl,sa,_,rfl,sa1.same s2,rfl,_,_,rfl,_,_,rfl,_,_,rfl,rfl,?_⟩;obtain⟨ws,e0,c,J,hc⟩:=sB st;refine⟨_,rfl,_,rfl,prD sm d,v1,pa,pl,ws,e0,rfl,aT.same s2 r1,pa1.same s2,J,l200,λl us H3 s3 hl l3 rus=>?_⟩;obtain⟨f',hf⟩:=hk k hkk;refine⟨_,rfl,.inr k,_,rfl,rfl,hf,?_⟩;have s13:=s2.trans s3;have sg3:=sg1.same s13;obtain⟨dx,fs,_,_,h1,_,h3,_⟩:=sg3.ex;have wl:=J.len;have lu:=Reps.len rus;obtain⟨u0,hu0⟩:∃u,us[pl.length]?=some u:=⟨_,aw (by omega)⟩
  obtain⟨e0',he0,ru0⟩:=Reps.get rus hu0;rw[J.last]at he0;cases he0;have pr:=xH tm.so tm.ho tm.tm;have sub:=wO J pr.tm (OB tm.so tm.tm);obtain⟨t1,t2,t3,t4⟩:=sub e0 (bg J.last);refine⟨f',_,rfl,⟨k,hkk,hf,rfl⟩,_,rfl,_,rfl,g,dx,fs,rfl,h1,h3,_,rfl,g,n,fx,sm,rfl,sg3,_,rfl,1,rfl,u0,rQ l3 hu0 (by omega),?_⟩;rw[nul];refine⟨fx,sm,os,n,z,e0,u0,rfl,hz,hn,t1,t2,ru0,by omega,λe' u1 H4 he s4 r4=>?_,λH4 he _=>by rw[hc]at he;cases he⟩;rw[hc]at he;cases he;have pdc:=(yN tm.so tm.ho hkk hn t1 t2 hc).1.pd;refine⟨_,rfl,rfl,_,rfl,cN (λz=>?_) (λ_=>?_)⟩
  ·have z:=bo z;rcases nA pdc r4 with⟨x,_,w⟩|⟨m,ds,va,N,_,w,_⟩ <;> (rw[w]at z;cases z)
  have s14:=s13.trans s4;have pa4:=pa1.same s14;refine⟨_,rfl,1,rfl,-1,rfl,rfl,rfl,rfl,pa,_,rfl,pa4,λp5 o5 hp5 ho5=>?_⟩;have s5:aD H4 (upd H4 p5 o5):=aD.upd hp5;have q5:cV (upd H4 p5 o5) p5 (iV pl).reverse:=by
   rcases ho5 with⟨rfl,_⟩|⟨rfl,_⟩
   ·exact .inl upd_same
   ·exact .inr upd_same
  generalize upd H4 p5 o5=H5 at s5 q5⊢;refine⟨_,rfl,2,rfl,-2,rfl,1,rfl,-1,rfl,rfl,rfl,rfl,l,us,rfl,s5 _ _ (s4 _ _ l3),λz=>by rw[z]at lu;simp at lu;omega,λp6 hp6=>?_⟩;have s6:aD H5 (upd H5 p6 (.lst us.dropLast.reverse)):=aD.upd hp6;have q6:upd H5 p6 (.lst us.dropLast.reverse) p6=some (.lst us.dropLast.reverse):=upd_same;generalize upd H5 p6 (.lst us.dropLast.reverse)=H6 at s6 q6⊢;refine⟨p5,p6,_,_,rfl,q5.same s6,.inl q6,?_⟩;have lz:min (iV pl).reverse.length us.dropLast.reverse.length=pl.length:=by unfold iV;rw[List.length_reverse,List.length_reverse,List.length_dropLast,ae];omega
  have W:=s5.trans s6;have rus6:=Reps.same (s4.trans W) rus;refine vQ (iV pl).reverse us.dropLast.reverse (T6 g sa pa l f' v v1 sm k n pl ws H6) ⟨u1,c,e0,none,none,rfl,aD.refl _,aT.same W r4,by rw[Nat.sub_zero];exact J.last,by rw[Nat.sub_zero,List.drop_length];exact hc⟩ (λi σ H' _ ⟨_,_,_,_,_,_,s,_⟩=>⟨(q5.same s6).same s,.inl (s _ _ q6)⟩) ?_ ?_
  ·rintro i x y T σ H7 Z hy ⟨u,yd,xd,o1,o2,rfl,s7,ry,Y,U⟩ hT;have li:=(ck.mp Z).1;have li2:=(ck.mp hy).1;rw[List.getElem?_reverse (by simpa using li)]at Z;rw[List.getElem?_reverse (by simpa using li2)]at hy;have l1:(iV pl).length=pl.length:=by unfold iV;rw[ae]
   have l2:us.dropLast.length=pl.length:=by rw[List.length_dropLast];omega
   rw[List.length_reverse,l1]at li;rw[l1]at Z;rw[l2]at hy;obtain⟨j,hj,rfl⟩:∃j,pl[pl.length - 1 - i]?=some j/\x = .int (j:Int):=by
    unfold iV at Z;rw[bw]at Z;cases e:pl[pl.length - 1 - i]? with
    | none=>rw[e]at Z;cases Z
    | some y=>rw[e]at Z;cases Z;exact⟨y,rfl,rfl⟩
   have hy':us[pl.length - 1 - i]?=some y:=by
    rw[List.getElem?_dropLast]at hy;split at hy
    ·exact hy
    ·cases hy
   obtain⟨m,ds,xx,hw,hdx,L,fin⟩:=nW (sm:=sm) (k:=k) (n:=n) J hj;rw[show pl.length - 1 - i+1=pl.length - i by omega]at L fin;rw[Y]at L;cases L;obtain⟨dd,hdd,rdd⟩:=Reps.get rus6 hy';rw[hw]at hdd;cases hdd;obtain⟨_,_,_,tn⟩:=sub _ (bg hw);obtain⟨_,n2,_⟩:=eM (sm:=sm) (d:=.tup (.str m::ds)) (.inl rfl);have nl:=fB ds;have pn:=pr.nd;have p1:=tm.nd;have p2:=tm.lv;obtain⟨ua,vs,rfl,hua,_,N,rfl,e1,rds⟩:=rdd;cases e1;have lv:=Reps.len rds;have lj:=(ck.mp hdx).1;have s8:aD H7 (upd H7 T (.tup [.int (j:Int),.ref ua])):=aD.upd hT;have T8:upd H7 T (.tup [.int (j:Int),.ref ua]) T=some (.tup [.int (j:Int),.ref ua]):=upd_same;generalize upd H7 T (.tup [.int (j:Int),.ref ua])=H8 at s8 T8⊢;have R:=s8 _ _ (s7 _ _ hua);have c1:(j:Int)+1=((j+1:Nat):Int):=by omega
   have c2:(j:Int)+2=((j+2:Nat):Int):=by omega
   refine⟨T,_,rfl,hZ.of T8,rfl,_,_,rfl,_,_,rfl,rfl,?_⟩;refine⟨_,rfl,_,rfl,.inl (.inl ⟨_,rfl,(j:Int)+1,rfl,ua,_,rfl,.inr R,λ_ z=>?_,λq1 w1 hq1 L=>?_⟩)⟩
   ·have z:=z.2;rw[c1,HT.sIx_nat,ao]at z;omega
   rw[c1,oV]at L;obtain⟨rfl,_⟩:=L.resolve_left λz=>by rw[R]at z;exact nomatch z.2
   have s9:aD H8 (upd H8 q1 (.tup ((.str m::N).take (j+1)))):=aD.upd hq1;have r9:upd H8 q1 (.tup ((.str m::N).take (j+1))) q1=some (.tup ((.str m::N).take (j+1))):=upd_same;generalize upd H8 q1 (.tup ((.str m::N).take (j+1)))=H9 at s9 r9⊢;refine⟨_,rfl,show 1<=sizeLine by decide,λq2 hq2=>?_⟩;have X:aD H9 (upd H9 q2 (.tup [u])):=aD.upd hq2;have r10:upd H9 q2 (.tup [u]) q2=some (.tup [u]):=upd_same;generalize upd H9 q2 (.tup [u])=H10 at X r10⊢;refine .inr ⟨q1,q2,_,_,rfl,rfl,X _ _ r9,r10,al (m:=2000) (by simp;omega) (by decide),λq3 H11 s11 r11=>?_⟩;have S:=s11 _ _ (X _ _ (s9 _ _ R));refine⟨_,rfl,_,rfl,.inl (.inl ⟨_,rfl,(j:Int)+2,rfl,ua,_,rfl,.inr S,λ_ z=>?_,λq4 w4 hq4 hw4=>?_⟩)⟩
   ·have z:=z.1;rw[c2,HT.sIx_nat,ao]at z;omega
   rw[c2,tI]at hw4;obtain⟨rfl,_⟩:=hw4.resolve_left λz=>by rw[S]at z;exact nomatch z.2
   refine .inr ⟨q3,q4,_,_,rfl,rfl,aD.upd hq4 _ _ r11,upd_same,al (m:=2000) (by simp;omega) (by decide),λq5 H12 s12 r12=>?_⟩;rw[vE (by omega)]at r12;have O:aD H7 H12:=((s8.trans s9).trans (X.trans s11)).trans ((aD.upd hq4).trans s12);refine⟨.ref q5,.tup (.str m::ds.set j yd),.tup (.str m::ds),_,_,rfl,s7.trans O,⟨q5,_,rfl,r12,.str m,_,rfl,rfl,Reps.put (aT.same O ry) j (Reps.same (s7.trans O) rds)⟩,?_,?_⟩
   ·rw[show pl.length - (i+1)=pl.length - 1 - i by omega];exact hw
   ·rw[show pl.length - (i+1)=pl.length - 1 - i by omega];exact fin yd U
  ·rintro σ H7 ⟨u,yd,xd,o1,o2,rfl,s7,ry,Y,U⟩;rw[lz,Nat.sub_self]at Y U;obtain⟨r,rfl⟩:=J.first
   cases Y;rw[List.drop_zero,st]at U;cases U;exact⟨_,rfl,q _ _ (λb o nb e=>s7 _ _ (W _ _ (s14 _ _ (b1 b o nb e)))) (lt1.same (s14.trans (W.trans s7))) ry⟩
def S1 (dn sa pa l:Addr)(v:V)(k n:Str)(ws:List D)(H:Hp)(i:Nat)(σ:St)(a:Hp):Prop:=∃(us:List V) (o7 o8 o9:Option V),σ=[some (.ref dn),some v,some (.ref sa),some (.str k),some (.ref pa),some (.str n),some (.ref l),o7,o8,o9]/\aD H a/\a l=some (.lst us)/\Reps H (ws.take (i+1)) us
def S5 (dn sa pa l:Addr)(v:V)(sm:bE)(k n:Str)(pl:List Nat)(ws:List D)(H:Hp)(i:Nat)(σ:St)(a:Hp):Prop:=∃(u:V) (y x:D) (o1 o2:Option V),σ=[some (.ref dn),some v,some (.ref sa),some (.str k),some (.ref pa),some (.str n),some (.ref l),o1,some u,o2]/\aD H a/\aT a y u/\ws[pl.length - i]?=some x/\eI sm k n (pl.drop (pl.length - i)) x=some y
def u8:Sp:=λvs H Q _=>∃(dn sa pa:Addr) (fx:cW) (sm:bE) (os:aV) (k n z:Str) (pl:List Nat) (d e:D) (v:V),vs=[.ref dn,v,.ref sa]/\H dn=some (dK31 sm)/\bX fx sm/\(∀x∈os,eC x)/\aT H d v/\bA fx sm os d/\Pd sm d/\depD d<=100/\nds d<=1100/\cV H sa [.str k,.ref pa,.str n]/\cV H pa (iV pl)/\k∈kinds/\zr sm n=some z/\n∈sm.map (·.1)/\pl.length<=200/\eI sm k n pl d=some e /\
 ∀(a:V) (H':Hp),aD H H'->aT H' e a->Q a H'
theorem CK {f:Addr}{fd:FuncData}(F:fY K "_law_stepped" "_law_stepped" gE f fd)(T:Txt mg)(a:d8 P w K mg base bH 2 "_law_changed" (spLCh P w)):bN P w K mg base bH 3 f fd lV u8:=by
 refine F.ok cE (λvs H Q E h=>?_) (λcdv A outer s H vs Q E hr h=>?_)
 ·obtain⟨dn,sa,pa,fx,sm,os,k,n,z,pl,d,e,v,rfl,_⟩:=h;rfl
 ·obtain⟨dn,sa,pa,fx,sm,os,k,n,z,pl,d,e,v,rfl,hdn,so,ho,rep,tm,pd,dp,nd,hsa,hpa,hkk,hz,hn,l200,st,q⟩:=h;have hu:=hr.units
  refine⟨_,(aC (jN (pv 2) (JA (n:=3) rfl (dX (aZ (i:=3) cE.nd rfl (Or.inl rfl)) (dX (aZ (i:=4) cE.nd rfl (Or.inl rfl)) (dX (aZ (i:=5) cE.nd rfl (Or.inl rfl)) oK)))))
   (aC (aW (i:=6) cE.nd rfl (Or.inl rfl) (cQ (aA (pv 1) aB)))
   (aC (dG dc rfl (cP K rfl (pv 4)) (aZ (i:=7) cE.nd rfl (Or.inl rfl)) (aC (bD (PW.pt (gR (aO K rfl (aL aK rfl T.n_isinstance rfl (aA (aS bB (pv 6) (fQ dS aF) (λ_ _=>rfl)) (aA (bG (v:=V.ty "str") rfl T.n_str rfl rfl) aB))) (λ_=>rfl)) (eQ (cM (iT k6 (lL hu) aF (pv 7) (bF iW (aL bZ rfl T.n_len rfl (aA (aS bB (pv 6) (fQ dS aF) (λ_ _=>rfl)) aB)) aF)))))) (aG (aM dE)) aP)
   (aG (cS (iU c4 db da dY (pv 6) (aA (aS bB (aS bB (pv 6) (fQ dS aF) (λ_ _=>rfl)) (bF (bM.or gI) aF (pv 7)) (λ_ _=>rfl)) aB))))))
   (aC (aW (i:=8) cE.nd rfl (Or.inl rfl) (aN a (hr.mono (by decide)) pass0 rfl (aA (pv 0) (aA (pv 3) (aA (pv 5) (aA (aS bB (pv 6) (fQ dS aF) (λ_ _=>rfl)) aB))))))
   (aC (bD (aY pO (pv 8) dE (nomark _)) (aG (aM dE)) aP)
   (aC (dG dc rfl (D7 rfl T.n_zip (aA (fS rJ (pv 6) (bT (fQ dS aF)) cF (bT (fQ dS aF))) (aA (fS D0 (pv 4) cF cF (bT (fQ dS aF))) aB))) (eF K rfl (i:=9) (j:=7) rfl cE.nd rfl rfl rfl rfl) (aG (aW (i:=8) cE.nd rfl (Or.inl rfl) (bF (bM.or gI) (bF (bM.or gI) (dC gT (pv 9) cF (bT (bF (bM.or gI) aF (pv 7)))) (bK (aA (pv 8) aB))) (dC gT (pv 9) (bT (bF (bM.or gI) aF (pv 7))) cF)))))
   (aG (aM (pv 8))))))))),?_⟩
  try dsimp only[cxOf,Cx.nox]
  clear hr F T hu a;simp only[eL,dU];refine⟨_,rfl,sa,_,rfl,hsa,rfl,_,_,rfl,_,_,rfl,_,_,rfl,rfl,?_⟩;refine⟨_,rfl,show 1<=sizeLine by decide,λl hl=>?_⟩;have s1:aD H (upd H l (.lst [v])):=aD.upd hl;have l1:upd H l (.lst [v]) l=some (.lst [v]):=upd_same;generalize upd H l (.lst [v])=H1 at s1 l1⊢;obtain⟨ws,e0,c,g,hc⟩:=sB st;have wl:=g.len;refine⟨_,rfl,pa,_,rfl,hpa.same s1,λJ hJ=>?_⟩;have t1:ws.take 1=[d]:=by obtain⟨r,rfl⟩:=g.first;rfl
  refine eW hJ (S1 dn sa pa l v k n ws H) ⟨[v],none,none,none,rfl,s1,l1,by rw[t1];exact⟨v,[],rfl,rep,rfl⟩⟩ (λi σ H' _ ⟨_,_,_,_,_,s,_⟩=>by rcases hpa with e|e <;> rw[s _ _ e,s1 _ _ e]) ?_ ?_
  ·rintro i x σ H2 C ⟨us,o7,o8,o9,rfl,s2,l2,ru⟩;obtain⟨j,hj,rfl⟩:∃j,pl[i]?=some j/\x = .int (j:Int):=by
    unfold iV at C;rw[bw]at C;cases e:pl[i]? with
    | none=>rw[e]at C;cases C
    | some y=>rw[e]at C;cases C;exact⟨y,rfl,rfl⟩
   have li:=(ck.mp hj).1;obtain⟨c',hc',nx⟩:=g.upto i (by omega);obtain⟨m,ds,y,rfl,W,hw⟩:=nx j hj;have U:=hc'.last;rw[bq,Nat.min_eq_left (by omega)]at U;have lu:=Reps.len ru;rw[bq]at lu;obtain⟨u,hu⟩:∃u,us[i]?=some u:=⟨_,aw (by omega)⟩
   obtain⟨c2,hc2,rc⟩:=Reps.get ru hu;rw[U]at hc2;cases hc2;obtain⟨I,vs,rfl,hua,_,B,rfl,e1,N⟩:=rc;cases e1;have lj:=(ck.mp W).1;have lv:=Reps.len N;obtain⟨yv,hyv⟩:∃yv,B[j]?=some yv:=⟨_,aw (by omega)⟩
   obtain⟨y',Z,ry⟩:=Reps.get N hyv;rw[W]at Z;cases Z;have h2:=s2 _ _ hua;have ix:=rQ l2 hu (by omega);refine⟨_,rfl,1,rfl,.ref I,ix,.ref I,.ty "str",false,rfl,iX h2,?_⟩;refine⟨_,rfl,_,rfl,_,_,rfl,rfl,_,rfl,cN (λ_=>?_) (λc=>absurd (Int.natCast_nonneg j) (of_decide_eq_false c))⟩;refine⟨_,rfl,1,rfl,.ref I,ix,_,_,rfl,(by dsimp only;rw[lenV_t h2];rfl),_,_,rfl,rfl,.inl (.inl ⟨_,_,rfl,rfl,_,rfl,?_⟩)⟩;have lt:decide ((j:Int)<((V.str m::B).length:Int) - 1)=true:=bf (by rw[ao];omega);dsimp only;rw[lt];refine⟨_,rfl,.inl ⟨rfl,_,eK.of l2⟩,_,rfl,1,rfl,.ref I,ix,_,rfl,.inl (.inl ⟨_,rfl,yv,?_,l,us,yv,rfl,rfl,l2,aj (m:=300) (by omega) (by decide),?_⟩)⟩
   ·rw[ixV_t h2];have e1:1+(j:Int)=((j+1:Nat):Int):=by omega
    rw[e1];exact jL (by simpa using hyv)
   ·refine⟨us++[yv],_,_,_,rfl,λb o hb=>by rw[aE (aH hb hl)];exact s2 _ _ hb,upd_same,?_⟩;rw[bC hw];exact Reps.snoc ry ru
  ·rintro σ H3 ⟨us,o7,o8,o9,rfl,s3,l3,Y⟩;have e1:ws.take ((iV pl).length+1)=ws:=by unfold iV;rw[ae,←wl,br]
   rw[e1]at Y;have lu:=Reps.len Y;obtain⟨u0,hu0⟩:∃u,us[pl.length]?=some u:=⟨_,aw (by omega)⟩
   obtain⟨e0',he0,ru0⟩:=Reps.get Y hu0;rw[g.last]at he0;cases he0;have sub:=wO g tm pd;obtain⟨t1,t2,t3,t4⟩:=sub e0 (bg g.last);refine⟨_,rfl,_,rfl,_,rfl,_,rfl,1,rfl,u0,rQ l3 hu0 (by omega),dn,fx,sm,os,k,n,z,e0,u0,rfl,.inl (s3 _ _ hdn),hkk,hz,t1,t2,aT.same s3 ru0,by omega,λe' u1 H4 he s4 r4=>?_,λH4 he _=>by rw[hc]at he;cases he⟩;rw[hc]at he;cases he;have pdc:=(yN so ho hkk hn t1 t2 hc).1.pd;refine⟨_,rfl,rfl,_,rfl,cN (λz=>?_) (λ_=>?_)⟩
   ·have z:=bo z;rcases nA pdc r4 with⟨x,_,w⟩|⟨m,ds,va,B,_,w,_⟩ <;> (rw[w]at z;cases z)
   have pa4:=hpa.same (s3.trans s4);refine⟨_,rfl,2,rfl,-2,rfl,1,rfl,-1,rfl,rfl,rfl,rfl,l,us,rfl,s4 _ _ l3,λz=>by rw[z]at lu;simp at lu;omega,λp5 hp5=>?_⟩;have s5:aD H4 (upd H4 p5 (.lst us.dropLast.reverse)):=aD.upd hp5;have q5:upd H4 p5 (.lst us.dropLast.reverse) p5=some (.lst us.dropLast.reverse):=upd_same;generalize upd H4 p5 (.lst us.dropLast.reverse)=H5 at s5 q5⊢;refine⟨_,rfl,1,rfl,-1,rfl,rfl,rfl,rfl,pa,_,rfl,pa4.same s5,λp6 o6 hp6 ho6=>?_⟩;have s6:aD H5 (upd H5 p6 o6):=aD.upd hp6;have q6:cV (upd H5 p6 o6) p6 (iV pl).reverse:=by
    rcases ho6 with⟨rfl,_⟩|⟨rfl,_⟩
    ·exact .inl upd_same
    ·exact .inr upd_same
   generalize upd H5 p6 o6=H6 at s6 q6⊢;refine⟨p5,p6,_,_,rfl,.inl (s6 _ _ q5),q6,?_⟩;have lz:min us.dropLast.reverse.length (iV pl).reverse.length=pl.length:=by unfold iV;rw[List.length_reverse,List.length_reverse,List.length_dropLast,ae];omega
   have s46:=s5.trans s6;have s36:=s3.trans (s4.trans s46);have rus6:=Reps.same s36 Y;refine vQ us.dropLast.reverse (iV pl).reverse (S5 dn sa pa l v sm k n pl ws H6) ⟨u1,c,e0,_,_,rfl,aD.refl _,aT.same s46 r4,by rw[Nat.sub_zero];exact g.last,by rw[Nat.sub_zero,List.drop_length];exact hc⟩ (λi σ H' _ ⟨_,_,_,_,_,_,s,_⟩=>⟨.inl (s _ _ (s6 _ _ q5)),q6.same s⟩) ?_ ?_
   ·rintro i y x T σ H7 W C ⟨u,yd,xd,o1,o2,rfl,s7,ry,hxd,S⟩ hT;have li:=(ck.mp C).1;have li2:=(ck.mp W).1;rw[List.getElem?_reverse (by simpa using li)]at C;rw[List.getElem?_reverse (by simpa using li2)]at W;have l1:(iV pl).length=pl.length:=by unfold iV;rw[ae]
    have l2:us.dropLast.length=pl.length:=by rw[List.length_dropLast];omega
    rw[List.length_reverse,l1]at li;rw[l1]at C;rw[l2]at W;obtain⟨j,hj,rfl⟩:∃j,pl[pl.length - 1 - i]?=some j/\x = .int (j:Int):=by
     unfold iV at C;rw[bw]at C;cases e:pl[pl.length - 1 - i]? with
     | none=>rw[e]at C;cases C
     | some y=>rw[e]at C;cases C;exact⟨y,rfl,rfl⟩
    have Z:us[pl.length - 1 - i]?=some y:=by
     rw[List.getElem?_dropLast]at W;split at W
     ·exact W
     ·cases W
    obtain⟨m,ds,xx,hw,hdx,G,fin⟩:=nW (sm:=sm) (k:=k) (n:=n) g hj;rw[show pl.length - 1 - i+1=pl.length - i by omega]at G fin;rw[hxd]at G;cases G;obtain⟨dd,hdd,rdd⟩:=Reps.get rus6 Z;rw[hw]at hdd;cases hdd;obtain⟨_,_,_,tn⟩:=sub _ (bg hw);obtain⟨_,n2,_⟩:=eM (sm:=sm) (d:=.tup (.str m::ds)) (.inl rfl);have nl:=fB ds;obtain⟨I,vs,rfl,hua,_,B,rfl,e1,N⟩:=rdd;cases e1;have lv:=Reps.len N;have lj:=(ck.mp hdx).1;have s8:aD H7 (upd H7 T (.tup [.ref I,.int (j:Int)])):=aD.upd hT;have T8:upd H7 T (.tup [.ref I,.int (j:Int)]) T=some (.tup [.ref I,.int (j:Int)]):=upd_same;generalize upd H7 T (.tup [.ref I,.int (j:Int)])=H8 at s8 T8⊢;have O:=s8 _ _ (s7 _ _ hua);have c1:1+(j:Int)=((j+1:Nat):Int):=by omega
    have c2:2+(j:Int)=((j+2:Nat):Int):=by omega
    refine⟨T,_,rfl,hZ.of T8,rfl,_,_,rfl,_,_,rfl,rfl,?_⟩;refine⟨_,rfl,_,rfl,.inl (.inl ⟨_,rfl,1+(j:Int),rfl,I,_,rfl,.inr O,λ_ z=>?_,λq1 w1 hq1 G=>?_⟩)⟩
    ·have z:=z.2;rw[c1,HT.sIx_nat,ao]at z;omega
    rw[c1,oV]at G;obtain⟨rfl,_⟩:=G.resolve_left λz=>by rw[O]at z;exact nomatch z.2
    have s9:aD H8 (upd H8 q1 (.tup ((.str m::B).take (j+1)))):=aD.upd hq1;have r9:upd H8 q1 (.tup ((.str m::B).take (j+1))) q1=some (.tup ((.str m::B).take (j+1))):=upd_same;generalize upd H8 q1 (.tup ((.str m::B).take (j+1)))=H9 at s9 r9⊢;refine⟨_,rfl,show 1<=sizeLine by decide,λq2 hq2=>?_⟩;have X:aD H9 (upd H9 q2 (.tup [u])):=aD.upd hq2;have r10:upd H9 q2 (.tup [u]) q2=some (.tup [u]):=upd_same;generalize upd H9 q2 (.tup [u])=H10 at X r10⊢;refine .inr ⟨q1,q2,_,_,rfl,rfl,X _ _ r9,r10,al (m:=2000) (by simp;omega) (by decide),λq3 H11 s11 r11=>?_⟩;have R:=s11 _ _ (X _ _ (s9 _ _ O));refine⟨_,rfl,_,rfl,.inl (.inl ⟨_,rfl,2+(j:Int),rfl,I,_,rfl,.inr R,λ_ z=>?_,λq4 w4 hq4 hw4=>?_⟩)⟩
    ·have z:=z.1;rw[c2,HT.sIx_nat,ao]at z;omega
    rw[c2,tI]at hw4;obtain⟨rfl,_⟩:=hw4.resolve_left λz=>by rw[R]at z;exact nomatch z.2
    refine .inr ⟨q3,q4,_,_,rfl,rfl,aD.upd hq4 _ _ r11,upd_same,al (m:=2000) (by simp;omega) (by decide),λq5 H12 s12 r12=>?_⟩;rw[vE (by omega)]at r12;have L:aD H7 H12:=((s8.trans s9).trans (X.trans s11)).trans ((aD.upd hq4).trans s12);refine⟨.ref q5,.tup (.str m::ds.set j yd),.tup (.str m::ds),_,_,rfl,s7.trans L,⟨q5,_,rfl,r12,.str m,_,rfl,rfl,Reps.put (aT.same L ry) j (Reps.same (s7.trans L) N)⟩,?_,?_⟩
    ·rw[show pl.length - (i+1)=pl.length - 1 - i by omega];exact hw
    ·rw[show pl.length - (i+1)=pl.length - 1 - i by omega];exact fin yd S
   ·rintro σ H7 ⟨u,yd,xd,o1,o2,rfl,s7,ry,hxd,S⟩;rw[lz,Nat.sub_self]at hxd S;obtain⟨r,rfl⟩:=g.first
    cases hxd;rw[List.drop_zero,st]at S;cases S;exact⟨_,rfl,q _ _ (s36.trans s7) ry⟩
def IG:Sp:=λvs H Q _=>∃(d e:D) (v:V) (pa:Addr) (pl:List Nat) (ws:List D),vs=[v,.ref pa]/\aT H d v/\cV H pa (iV pl)/\tT d pl ws e/\∀a,aT H e a->Q a H
def TF (pa:Addr)(ws:List D)(H:Hp)(i:Nat)(σ:St)(a:Hp):Prop:=∃(u:V) (o:Option V) (x:D),σ=[some u,some (.ref pa),o]/\a=H/\ws[i]?=some x/\aT H x u
theorem JZ {f:Addr}{U:FuncData}(F:fY K "_law_part" "_law_part" jG f U)(T:Txt mg):bN P w K mg base bH 1 f U qV IG:=by
 refine F.ok kB (λvs H Q E h=>?_) (λZ A outer s H vs Q E S h=>?_)
 ·obtain⟨d,e,v,pa,pl,ws,rfl,_⟩:=h;rfl
 ·obtain⟨d,e,v,pa,pl,ws,rfl,rep,L,b,q⟩:=h;have X:=S.units
  refine⟨_,(aC (dG dc rfl (cP K rfl (pv 1)) (aZ (i:=2) kB.nd rfl (Or.inl rfl)) (aG (aW (i:=0) kB.nd rfl (Or.inl rfl) (aS bB (pv 0) (bF bM aF (pv 2)) (λ_ _=>rfl)))))
   (aG (aM (pv 0)))),?_⟩
  try dsimp only[cxOf,Cx.nox]
  clear S F T X;simp only[eL,dU];refine⟨_,rfl,pa,_,rfl,L,λJ Y=>?_⟩;refine eW Y (TF pa ws H) ⟨v,none,d,rfl,rfl,by obtain⟨r,rfl⟩:=b.first;rfl,rep⟩ (by rintro i σ H' _ ⟨_,_,_,_,rfl,_⟩;rfl) ?_ ?_
  ·rintro i x σ H2 c ⟨u,o,xd,rfl,rfl,a,C⟩;obtain⟨j,hj,rfl⟩:∃j,pl[i]?=some j/\x = .int (j:Int):=by
    unfold iV at c;rw[bw]at c;cases e:pl[i]? with
    | none=>rw[e]at c;cases c
    | some y=>rw[e]at c;cases c;exact⟨y,rfl,rfl⟩
   obtain⟨m,ds,y,R,O,G,_⟩:=nW (sm:=[]) (k:="") (n:="") b hj;rw[a]at R;cases R;obtain⟨ua,vs,rfl,I,_,B,rfl,N,g⟩:=C;cases N;have lj:=(ck.mp O).1;have lv:=Reps.len g;obtain⟨z,hyv⟩:∃z,B[j]?=some z:=⟨_,aw (by omega)⟩
   obtain⟨y',l,W⟩:=Reps.get g hyv;rw[O]at l;cases l;refine⟨_,rfl,_,rfl,.inl ⟨_,rfl,z,?_,z,_,y,rfl,rfl,G,W⟩⟩;rw[ixV_t I];have N:1+(j:Int)=((j+1:Nat):Int):=by omega
   rw[N];exact jL (by simpa using hyv)
  ·rintro σ H2 ⟨u,o,xd,rfl,rfl,a,C⟩;have:=b.last;rw[show(iV pl).length=pl.length by unfold iV;rw[ae],this]at a;cases a;exact⟨_,rfl,q _ C⟩
def Q6 (sm:bE)(d:D)(a:V)(H:Hp)(u:V):Prop:=∃(T:Addr) (k n:Str),u = .ref T/\H T=some (.tup [.str k,a,.str n])/\k∈kinds/\n∈sm.map (·.1)/\(chD sm k n d).isSome=true
def IF:Sp:=λvs H Q _=>∃(dn:Addr) (fx:cW) (sm:bE) (os:aV) (d:D) (v pq:V),vs=[.ref dn,v,pq]/\H dn=some (dK31 sm)/\bX fx sm/\(∀x∈os,eC x)/\bA fx sm os d/\Pd sm d/\aT H d v/\depD d<=100/\sm.length<=100 /\
 ∀l us H',aD H H'->H l=none->H' l=some (.lst us)->us.length<=5 * sm.length->(∀u∈us,Q6 sm d pq H' u)->Q (.ref l) H'
theorem Q6.get {sm:bE}{d:D}{c:V}{H H':Hp}{u:V}(h:Q6 sm d c H u)(k:∀T xs,H T=some (.tup xs)->H' T=some (.tup xs)):Q6 sm d c H' u:=by obtain⟨T,a,b,e,g,f⟩:=h;exact⟨T,a,b,e,k _ _ g,f⟩
structure Sm (P:Program)(w:World)(dn l:Addr)(o:Obj)(kvs:List (dQ×V))(sm:bE)(d:D)(pq:V)(H:Hp)(n:Nat)(us:List V)(H1:Hp):Prop where
 bt:dR dn H H1
 wd:H1 dn=some (wD P w dn o kvs)
 at_:H1 l=some (.lst us)
 len:us.length<=n
 all:∀u∈us,Q6 sm d pq H1 u
def TB (P:Program)(w:World)(dn l:Addr)(o:Obj)(a:List (dQ×V))(sm:bE)(d:D)(v b:V)(H:Hp)(i:Nat)(σ:St)(c:Hp):Prop:=∃(us:List V) (o4 o5:Option V),σ=[some (.ref dn),some v,some b,some (.ref l),o4,o5]/\Sm P w dn l o a sm d b H (5 * i) us c
def S7 (P:Program)(w:World)(dn l p:Addr)(o:Obj)(a:List (dQ×V))(sm:bE)(d:D)(v b:V)(n:Str)(H:Hp)(i:Nat)(j:Nat)(σ:St)(c:Hp):Prop:=∃(us:List V) (o5:Option V),σ=[some (.ref dn),some v,some b,some (.ref l),some (.str n),o5]/\Sm P w dn l o a sm d b H (5 * i+j) us c/\c p=some (.lst (kinds.map V.str))
theorem JY {f:Addr}{fd:FuncData}(F:fY K "_law_some" "_law_some" jF f fd)(T:Txt mg)(a:d8 P w K mg base bH 2 "_law_changed" (spLCh P w)):bN P w K mg base bH 3 f fd qU IF:=by
 refine F.ok iJ (λvs H Q E h=>?_) (λcdv A outer s H vs Q E O h=>?_)
 ·obtain⟨dn,fx,sm,os,d,v,I,rfl,_⟩:=h;rfl
 ·obtain⟨dn,fx,sm,os,d,v,I,rfl,C,so,ho,tm,pd,rep,dp,l100,q⟩:=h;have g:=O.units
  refine⟨_,(aC (aW (i:=3) iJ.nd rfl (Or.inl rfl) (cQ aB))
   (aC (L9 (dG dc rfl (MC (pv 0)) (aZ (i:=4) iJ.nd rfl (Or.inl rfl)) (aG (dG dc rfl (cP K rfl (cQ (aA cI (aA cI (aA cI (aA cI (aA cI aB))))))) (aZ (i:=5) iJ.nd rfl (Or.inl rfl)) (aG (bD (aY EC (aN a (O.mono (by decide)) pass0 rfl (aA (pv 0) (aA (pv 5) (aA (pv 4) (aA (pv 1) aB))))) dE (nomark _)) (aG (cS (iU c4 db da dY (pv 3) (aA (bK (aA (pv 5) (aA (pv 2) (aA (pv 4) aB)))) aB)))) aP))))))
   (aG (aM (pv 3))))),?_⟩
  try dsimp only[cxOf,Cx.nox]
  clear O F T g a;simp only[eL,dU];refine⟨show 0<=sizeLine by decide,λl Z=>?_⟩;have L:dn≠l:=aH C Z;have s1:aD H (upd H l (.lst [])):=aD.upd Z;have l1:upd H l (.lst []) l=some (.lst []):=upd_same;generalize upd H l (.lst [])=H1 at s1 l1⊢;refine⟨_,rfl,dn,_,rfl,s1 _ _ C,λo=>?_⟩;have W:∀xs,H dn≠some (.tup xs)/\H dn≠some (.lst xs):=λxs=>⟨λz=>(by rw[C]at z;cases z),λz=>(by rw[C]at z;cases z)⟩
  refine G0 (P:=P) (w:=w) (TB P w dn l o (sm.map λr=>(.inr r.1,V.str r.2)) sm d v I H) ⟨[],none,none,rfl,λb u n e=>by rw[aE n];exact s1 _ _ e,upd_same,by rw[aE L.symm];exact l1,au _,λ_ h=>nomatch h⟩ (λi σ H' ⟨_,_,_,_,h⟩=>h.wd) ?_ ?_
  ·rintro i k v' σ N X ⟨us,o4,o5,rfl,S⟩;obtain⟨r,O,e⟩:∃r,sm[i]?=some r/\k = .inr r.1:=by
    rw[bw]at X;cases e:sm[i]? with
    | none=>rw[e]at X;cases X
    | some r=>rw[e]at X;cases X;exact⟨r,rfl,rfl⟩
   subst e;have hn:r.1∈sm.map (·.1):=cs.mpr ⟨r,bg O,rfl⟩;have il:=(ck.mp O).1;obtain⟨z,hz⟩:=DS hn;refine⟨show 5<=sizeLine by decide,λp hp=>⟨p,_,rfl,.inl upd_same,λJ hJ=>?_⟩⟩;have R:aD N (upd N p (.lst (kinds.map V.str))):=aD.upd hp;have p3:upd N p (.lst (kinds.map V.str)) p=some (.lst (kinds.map V.str)):=upd_same;change LO K p (kinds.map V.str) J (upd N p (.lst (kinds.map V.str)))at hJ;change nQ J _ _ _ _ (upd N p (.lst (kinds.map V.str)));generalize upd N p (.lst (kinds.map V.str))=H3 at R p3 hJ⊢;have npl:p≠l:=λz=>by rw[z,S.at_]at hp;cases hp
   refine eW hJ (S7 P w dn l p o (sm.map λr=>(.inr r.1,V.str r.2)) sm d v I r.1 H i) ⟨us,_,rfl,⟨λb u n e=>R _ _ (S.bt b u n e),R _ _ S.wd,R _ _ S.at_,S.len,λu g=>(S.all u g).get λ_ _ z=>R _ _ z⟩,p3⟩ (λj σ H' _ ⟨_,_,_,_,h⟩=>h.trans p3.symm) ?_ ?_
   ·rintro j x σ H4 hx ⟨us,o5,rfl,S,p4⟩;obtain⟨k,hkk,rfl⟩:∃k∈kinds,x = .str k:=by obtain⟨k,h1,h2⟩:=cs.mp (show x∈kinds.map V.str from bg hx);exact⟨k,h1,h2.symm⟩
    have U:aT H4 d v:=aT.but S.bt (λxs=>(W xs).1) (λxs=>(W xs).2) rep;have jl:j<5:=(ck.mp hx).1;refine⟨_,rfl,_,rfl,_,rfl,_,rfl,dn,fx,sm,os,k,r.1,z,d,v,rfl,.inr ⟨o,S.wd⟩,hkk,hz,tm,pd,U,dp,λe u Y he G r5=>?_,λY he G=>?_⟩
    ·refine⟨rfl,_,rfl,cN (λ_=>?_) (λc=>?_)⟩
     ·refine⟨_,rfl,.inl ⟨rfl,_,eK.of (G _ _ S.at_)⟩,_,rfl,_,rfl,_,rfl,show 3<=sizeLine by decide,λT hT=>⟨l,us,.ref T,rfl,rfl,aD.upd hT _ _ (G _ _ S.at_),aj (m:=1000) (by have:=S.len;omega) (by decide),?_⟩⟩;have s6:aD Y (upd Y T (.tup [.str k,I,.str r.1])):=aD.upd hT;have t6:upd Y T (.tup [.str k,I,.str r.1]) T=some (.tup [.str k,I,.str r.1]):=upd_same;generalize upd Y T (.tup [.str k,I,.str r.1])=H6 at s6 t6⊢;have B:=G.trans s6;have l6:=B _ _ S.at_;have keep:∀T xs,H6 T=some (.tup xs)->upd H6 l (.lst (us++[.ref T])) T=some (.tup xs):=λT xs e=>by rw[aE (λz=>by rw[z,l6]at e;cases e)];exact e
      refine⟨us++[.ref T],_,rfl,⟨λb u n e=>?_,?_,upd_same,by rw[aq];have:=S.len;simp only[cg];omega,λu g=>?_⟩,?_⟩
      ·rw[aE (aH e Z)];exact B _ _ (S.bt b u n e)
      ·rw[aE L];exact B _ _ S.wd
      ·have keep:∀T' xs,H6 T'=some (.tup xs)->upd H6 l (.lst (us++[.ref T])) T'=some (.tup xs):=λT' xs e=>by rw[aE (λz=>by rw[z,l6]at e;cases e)];exact e
       rcases cr.mp g with g|g
       ·exact(S.all u g).get λ_ _ z=>keep _ _ (B _ _ z)
       ·cases cm.mp g;exact⟨T,k,r.1,rfl,keep _ _ t6,hkk,hn,by rw[he];rfl⟩
      ·rw[aE npl];exact B _ _ p4
     ·have c:u = .non:=by simpa using c
      rcases nA (yN so ho hkk hn tm pd he).1.pd r5 with⟨x,_,w⟩|⟨m,ds,va,vs',_,w,_⟩ <;> (rw[w]at c;cases c)
    ·refine⟨rfl,_,rfl,cN (λc=>absurd c (by simp)) (λ_=>?_)⟩;exact⟨us,_,rfl,⟨λb u n e=>G _ _ (S.bt b u n e),G _ _ S.wd,G _ _ S.at_,by have:=S.len;omega,λu g=>(S.all u g).get λ_ _ z=>G _ _ z⟩,G _ _ p4⟩
   ·rintro σ H4 ⟨us,o5,rfl,S,p4⟩;exact⟨us,_,_,rfl,S.bt,S.wd,S.at_,by have:us.length<=5 * i+5:=S.len;omega,S.all⟩
  ·rintro σ N ⟨us,o4,o5,rfl,S⟩;refine⟨_,.inr ⟨dn,o,_,S.wd,rfl⟩,_,rfl,?_⟩;refine q l us _ (λz u e=>?_) Z (by rw[aE L.symm];exact S.at_) (by have:=S.len;rw[ae]at this;exact this) (λu g=>(S.all u g).get λT xs e=>by rw[aE (λz=>by rw[z,S.wd]at e;cases e)];exact e);by_cases y:z=dn
   ·rw[y,upd_same,←e,y,C];rfl
   ·rw[aE y];exact S.bt z u y e
theorem y3 {d:D}{pl:List Nat}{ws:List D}{e:D}(h:tT d pl ws e):depD e+pl.length<=depD d:=by
 induction h with
 | nil=>exact ac _
 | snoc h b a =>
  obtain⟨_,_,c,_⟩:=eM (sm:=[]) (d:=.tup (.str _::_)) (.inl rfl);rw[c]at a;have:=iZ b;rw[aq,cg];omega
def ST (d:D)(H:Hp)(u:V):Prop:=∃(pa:Addr) (pl:List Nat) (ws:List D) (e:D),u = .ref pa/\H pa=some (.tup (iV pl))/\tT d pl ws e
def zB:Sp:=λvs H Q _=>∃(sm:bE) (d:D) (v:V),vs=[v]/\aT H d v/\Pd sm d/\nds d<=1100/\depD d<=100 /\
 ∀l us H',aD H H'->H l=none->H' l=some (.lst us)->1<=us.length->us.length<=nds d->(∀u∈us,ST d H' u)->Q (.ref l) H'
theorem IV {es:List D}{i N:Nat}{x:Str}(h:i+ndss (es.drop i)=N)(b:es[i]?=some (.str x)):i+1+ndss (es.drop (i+1))=N:=by obtain⟨a,e⟩:=ck.mp b;rw[List.drop_eq_getElem_cons a,e,ndss,show nds (.str x)=1 from by unfold nds;rfl]at h;omega
theorem IU {es ds:List D}{i N:Nat}{m:Str}(h:i+ndss (es.drop i)=N)(b:es[i]?=some (.tup (.str m::ds))):i+1+ndss ((es++ds).drop (i+1))=N:=by obtain⟨a,e⟩:=ck.mp b;obtain⟨_,c,_⟩:=eM (sm:=[]) (d:=.tup (.str m::ds)) (.inl rfl);rw[List.drop_eq_getElem_cons a,e,ndss,c]at h;rw[List.drop_append_of_le_length (by omega),eU];omega
def R6 (d:D)(H:Hp)(u:V)(x:D):Prop:=∃(pa:Addr) (pl:List Nat) (ws:List D),u = .ref pa/\H pa=some (.tup (iV pl))/\tT d pl ws x/\True
structure Qu (sm:bE)(d:D)(l h:Addr)(H:Hp)(es:List D)(H1:Hp):Prop where
 sa:aD H H1
 ex:∃us vs,H1 l=some (.lst us)/\H1 h=some (.lst vs)/\Reps H es vs/\us.length=es.length/\∀(j:Nat) (u:V) (x:D),us[j]?=some u->es[j]?=some x->R6 d H1 u x
 pd:∀x∈es,Pd sm x
theorem R6.get {d:D}{H H':Hp}{u:V}{x:D}(h:R6 d H u x)(k:∀T xs,H T=some (.tup xs)->H' T=some (.tup xs)):R6 d H' u x:=by obtain⟨pa,pl,ws,e,b,a⟩:=h;exact⟨pa,pl,ws,e,k _ _ b,a⟩
def TD (sm:bE)(d:D)(v:V)(l h:Addr)(H:Hp)(n:Nat)(σ:St)(a:Hp):Prop:=∃(es:List D) (i:Nat) (o4 o5:Option V),σ=[some v,some (.ref l),some (.int (i:Int)),some (.ref h),o4,o5]/\Qu sm d l h H es a/\i<=es.length/\1<=es.length/\i+ndss (es.drop i)=nds d/\n=nds d - i
def TC (sm:bE)(d:D)(v:V)(l h q:Addr)(H:Hp)(i:Nat)(es ds:List D)(vs:List V)(j:Nat)(σ:St)(a:Hp):Prop:=∃(c b:Option V),σ=[some v,some (.ref l),some (.int (i:Int)),some (.ref h),c,b]/\Qu sm d l h H (es++ds.take j) a/\a q=some (.tup vs)
theorem GI {f:Addr}{fd:FuncData}(F:fY K "_law_places" "_law_places" hU f fd)(T:Txt mg)(hE:mg "enumerate" = none):bN P w K mg base bH 1 f fd mX zB:=by
 refine F.ok dW (λvs H Q E h=>?_) (λcdv A outer s H vs Q E hr h=>?_)
 ·obtain⟨sm,d,v,rfl,_⟩:=h;rfl
 ·obtain⟨sm,d,v,rfl,rep,pd,nd,dp,q⟩:=h;have hu:=hr.units
  refine⟨_,(aC (aW (i:=1) dW.nd rfl (Or.inl rfl) (cQ (aA (bK aB) aB)))
   (aC (aW (i:=2) dW.nd rfl (Or.inl rfl) aF)
   (aC (aW (i:=3) dW.nd rfl (Or.inl rfl) (cQ (aA (pv 0) aB)))
   (aC (sJ dc (aY (lL hu) (pv 2) (aL bZ rfl T.n_len rfl (aA (pv 1) aB)) (nomark _)) (aC (bD (aO K rfl (aL aK rfl T.n_isinstance rfl (aA (aS bB (pv 3) (pv 2) (λ_ _=>rfl)) (aA (bG (v:=V.ty "tuple") rfl T.n_tuple rfl rfl) aB))) (λ_=>rfl)) (aG (dG dc rfl (uO rfl hE (aA (dC gT (aS bB (pv 3) (pv 2) (λ_ _=>rfl)) (bT aF) cF) aB)) (eF K rfl (i:=4) (j:=5) rfl dW.nd rfl rfl rfl rfl) (aC (cS (iU c4 db da dY (pv 1) (aA (bF (bM.or gI) (aS bB (pv 1) (pv 2) (λ_ _=>rfl)) (bK (aA (pv 4) aB))) aB)))
   (aG (cS (iU c4 db da dY (pv 3) (aA (pv 5) aB))))))) aP)
   (aG (aW (i:=2) dW.nd rfl (Or.inl rfl) (bF (bM.or gI) (pv 2) aF)))))
   (aG (aM (pv 1))))))),?_⟩
  try dsimp only[cxOf,Cx.nox]
  clear hr F T hu hE;simp only[eL,dU];refine⟨show 0<=sizeLine by decide,λG hp0=>⟨show 1<=sizeLine by decide,λl hl=>?_⟩⟩;have s0:aD H (upd H G (.tup [])):=aD.upd hp0;have r0:upd H G (.tup []) G=some (.tup []):=upd_same;generalize upd H G (.tup [])=H0 at s0 r0 hl⊢;have s1:aD H0 (upd H0 l (.lst [.ref G])):=aD.upd hl;have r1:upd H0 l (.lst [.ref G]) l=some (.lst [.ref G]):=upd_same;change tSeq _ _ _ _ (upd H0 l (.lst [.ref G]));generalize upd H0 l (.lst [.ref G])=H1 at s1 r1⊢;refine⟨_,rfl,show 1<=sizeLine by decide,λh hh=>?_⟩;have s2:aD H1 (upd H1 h (.lst [v])):=aD.upd hh;have r2:upd H1 h (.lst [v]) h=some (.lst [v]):=upd_same;change tSeq _ _ _ _ (upd H1 h (.lst [v]));generalize upd H1 h (.lst [v])=H2 at s2 r2⊢;have hlN:H l=none:=by cases e:H l with|none=>rfl|some o=>rw[s0 _ _ e]at hl;cases hl
  have hhN:H h=none:=by cases e:H h with|none=>rfl|some o=>rw[s1 _ _ (s0 _ _ e)]at hh;cases hh
  have nlh:l≠h:=λz=>by rw[←z,r1]at hh;cases hh
  refine BS (TD sm d v l h H) (nds d) ⟨[d],0,none,none,rfl,⟨(s0.trans s1).trans s2,⟨[.ref G],[v],s2 _ _ r1,r2,⟨v,[],rfl,rep,rfl⟩,rfl,λj u x hu B=>?_⟩,λx B=>by cases cm.mp B;exact pd⟩,au _,ac _,by rw[List.drop_zero,ndss,ndss];omega,rfl⟩ ?_
  ·cases j with
   | zero=>cases hu;cases B;exact⟨G,[],[d],rfl,s2 _ _ (s1 _ _ r0),(.nil),trivial⟩
   | succ j=>simp at hu
  ·rintro n σ U ⟨es,i,o4,o5,rfl,Q3,li,l1,hN,rfl⟩ R rt rf;obtain⟨us,vs,hl3,hh3,Z,lu,ats⟩:=Q3.ex;have lv:=Reps.len Z;refine⟨_,rfl,_,rfl,_,_,rfl,(by dsimp only;rw[lenV_l hl3];rfl),.inl (.inl ⟨_,_,rfl,rfl,_,rfl,?_⟩)⟩;by_cases lt:i<es.length
   ·rw[bf (by omega:(i:Int)<((us.length:Nat):Int))];refine rt U ?_;obtain⟨x,B⟩:∃x,es[i]?=some x:=⟨_,aw lt⟩
    obtain⟨vx,hvx,rx⟩:=Reps.get' Z B;have ix:ixV U (.ref h) (.int (i:Int))=some vx:=by rw[ixV_l hh3];exact jL hvx
    have pdx:=Q3.pd x (bg B);rcases nA pdx rx with⟨y,rfl,rfl⟩|⟨m,ds,va,r,rfl,rfl,ha,rds⟩
    ·refine⟨_,rfl,_,rfl,_,ix,.str y,.ty "tuple",false,rfl,rfl,false,rfl,cN (λc=>absurd c (by decide)) (λ_=>?_)⟩;refine⟨_,rfl,.inl (.inl ⟨_,rfl,nds d - (i+1),?_,es,i+1,_,_,rfl,Q3,lt,l1,IV hN B,rfl⟩)⟩;have:=IV hN B;omega
    ·have ha3:=Q3.sa _ _ ha;refine⟨_,rfl,_,rfl,_,ix,.ref va,.ty "tuple",true,rfl,yE ha3,true,rfl,cN (λ_=>?_) (λc=>absurd c (by decide))⟩;refine⟨_,rfl,_,rfl,_,ix,(1:Int),rfl,va,_,rfl,.inr ha3,λ_ z=>?_,λq0 oq hq0 hoq=>?_⟩
     ·have z:=z.1;rw[show(1:Int)=((1:Nat):Int)from rfl,HT.sIx_nat,ao]at z;omega
     obtain⟨rfl,_⟩:=hoq.resolve_left λz=>by rw[ha3]at z;exact nomatch z.2
     rw[mP];have s4:aD U (upd U q0 (.tup r)):=aD.upd hq0;have r4:upd U q0 (.tup r) q0=some (.tup r):=upd_same;generalize upd U q0 (.tup r)=H4 at s4 r4⊢;have lr:=Reps.len rds;have ndsl:ds.length<=nds d:=by have N:=fB ds;have I:=IU hN B;rw[List.drop_append_of_le_length (by omega),eU]at I;omega
     have esl:es.length+ds.length<=nds d:=by have I:=IU hN B;have N:=fB ((es++ds).drop (i+1));rw[bu,aq]at N;omega
     refine⟨q0,r,rfl,r4,DC (TC sm d v l h q0 H i es ds r) ⟨_,_,rfl,?_,r4⟩ (λj σ H' ⟨_,_,_,_,z⟩=>z) ?_ ?_⟩
     ·rw[List.take_zero,bi];exact⟨Q3.sa.trans s4,⟨us,vs,s4 _ _ hl3,s4 _ _ hh3,Z,lu,λj u x N I=>(ats j u x N I).get λ_ _ z=>s4 _ _ z⟩,Q3.pd⟩
     ·rintro j W T σ H5 hxv ⟨o4,o5,rfl,Q5,hq5⟩ hT;obtain⟨g,X,hl5,hh5,O,lu5,S⟩:=Q5.ex;have s6:aD H5 (upd H5 T (.tup [.int (j:Int),W])):=aD.upd hT;have r6:upd H5 T (.tup [.int (j:Int),W]) T=some (.tup [.int (j:Int),W]):=upd_same;generalize upd H5 T (.tup [.int (j:Int),W])=H6 at s6 r6⊢;have lj:=(ck.mp hxv).1;obtain⟨y,hy,ry⟩:=Reps.get rds hxv;have l5:(es++ds.take j).length=es.length+j:=by rw[aq,bq];omega
      rw[l5]at lu5;have hei:(es++ds.take j)[i]?=some (.tup (.str m::ds)):=by rw[List.getElem?_append_left lt];exact B
      obtain⟨ui,hui⟩:∃u,g[i]?=some u:=⟨_,aw (by omega)⟩
      obtain⟨pa,pl,ws,rfl,hpa,way,_⟩:=S i ui _ hui hei;have wd:=y3 way;have hl6:=s6 _ _ hl5;refine⟨T,_,rfl,hZ.of r6,rfl,_,_,rfl,_,_,rfl,rfl,?_⟩;refine⟨_,rfl,.inl ⟨rfl,_,eK.of hl6⟩,_,rfl,_,rfl,.ref pa,by rw[ixV_l hl6];exact jL hui,_,rfl,show 1<=sizeLine by decide,λp2 hp2=>?_⟩;have s7:aD H6 (upd H6 p2 (.tup [.int (j:Int)])):=aD.upd hp2;have r7:upd H6 p2 (.tup [.int (j:Int)]) p2=some (.tup [.int (j:Int)]):=upd_same;generalize upd H6 p2 (.tup [.int (j:Int)])=H7 at s7 r7⊢;refine .inr ⟨pa,p2,_,_,rfl,rfl,s7 _ _ (s6 _ _ hpa),r7,al (m:=3000) (by unfold iV;rw[ae];simp;omega) (by decide),λJ H8 s8 r8=>?_⟩;have C:=(s6.trans s7).trans s8;have hl8:=C _ _ hl5;refine⟨l,g,.ref J,rfl,rfl,hl8,aj (m:=3000) (by omega) (by decide),?_⟩;have keep:∀{b:Addr} {o:HO},H8 b=some o->b≠l->upd H8 l (.lst (g++[.ref J])) b=some o:=λe n=>by rw[aE n];exact e
      have L:=keep (C _ _ hh5) nlh.symm;have r9:upd H8 l (.lst (g++[.ref J])) l=some (.lst (g++[.ref J])):=upd_same;have t9:∀T xs,H8 T=some (.tup xs)->upd H8 l (.lst (g++[.ref J])) T=some (.tup xs):=λT xs e=>keep e λz=>by rw[z,hl8]at e;cases e
      have sa9:aD H (upd H8 l (.lst (g++[.ref J]))):=λb o e=>keep (C _ _ (Q5.sa _ _ e)) (aH e hlN);have lv5:=Reps.len O;rw[l5]at lv5;generalize upd H8 l (.lst (g++[.ref J]))=H9 at L r9 t9 sa9⊢;refine⟨_,rfl,.inl ⟨rfl,_,eK.of L⟩,_,rfl,h,X,W,rfl,rfl,L,aj (m:=3000) (by omega) (by decide),?_⟩;have Y:∀T xs,H9 T=some (.tup xs)->upd H9 h (.lst (X++[W])) T=some (.tup xs):=λT xs e=>by rw[aE (λz=>by rw[z,L]at e;cases e)];exact e
      have tk:es++ds.take (j+1)=(es++ds.take j)++[y]:=by rw[bC hy,ci]
      refine⟨_,_,rfl,⟨λb o e=>by rw[aE (aH e hhN)];exact sa9 _ _ e,⟨g++[.ref J],X++[W],by rw[aE nlh];exact r9,upd_same,?_,?_,?_⟩,?_⟩,Y _ _ (t9 _ _ (C _ _ hq5))⟩
      ·rw[tk];exact Reps.snoc ry O
      ·rw[tk,aq,aq (as:=es++ds.take j),l5,lu5];rfl
      ·intro a u x N I;rw[tk]at I;by_cases la:a<es.length+j
       ·rw[List.getElem?_append_left (by omega)]at N;rw[List.getElem?_append_left (by omega)]at I;exact(S a u x N I).get λ_ _ z=>Y _ _ (t9 _ _ (C _ _ z))
       ·have la2:a=es.length+j:=by have:=(ck.mp I).1;rw[aq,l5]at this;simp at this;omega
        subst la2;rw[←lu5,List.getElem?_append_right (ac _),Nat.sub_self]at N;rw[←l5,List.getElem?_append_right (ac _),Nat.sub_self]at I;cases N;cases I;refine⟨J,pl++[j],ws++[y],rfl,Y _ _ (t9 _ _ ?_),.snoc way hy,?_⟩
        ·rw[r8];unfold iV;rw[ax];rfl
        ·trivial
      ·intro x hx';rw[tk]at hx';rcases cr.mp hx' with m|m
       ·exact Q5.pd x m
       ·cases cm.mp m;unfold Pd at pdx;exact kL.mp pdx.2 _ (bg hy)
     ·rintro σ H5 ⟨o4,o5,rfl,Q5,_⟩;rw[show r.length=ds.length from lr,br]at Q5;have qr:=IU hN B;refine⟨_,rfl,.inl (.inl ⟨_,rfl,nds d - (i+1),by omega,es++ds,i+1,_,_,rfl,Q5,by rw[aq];omega,by rw[aq];omega,qr,rfl⟩)⟩
   ·rw[bh (by omega:¬(i:Int)<((us.length:Nat):Int))];refine rf U ⟨_,rfl,q l us U Q3.sa hlN hl3 (by omega) ?_ λu hu=>?_⟩
    ·have:ndss (es.drop i)=0:=by rw[List.drop_eq_nil_of_le (by omega)];rfl
     omega
    ·obtain⟨j,hj⟩:=List.getElem?_of_mem hu;have lj:=(ck.mp hj).1;obtain⟨pa,pl,ws,e1,e2,e3,_⟩:=ats j u es[j] hj (by simp);exact⟨pa,pl,ws,_,e1,e2,e3⟩
theorem HM {sm:bE}{k n:Str}{d:D}{pl:List Nat}{ws:List D}{e c:D}(h:tT d pl ws e)(o:chD sm k n e=some c):∃r,eI sm k n pl d=some r:=by
 have go:∀j,j<=pl.length->∃x r,ws[pl.length - j]?=some x/\eI sm k n (pl.drop (pl.length - j)) x=some r:=by
  intro j
  induction j with
  | zero=>intro _;exact⟨e,c,h.last,by rw[Nat.sub_zero,List.drop_length];exact o⟩
  | succ j l =>
   intro v;obtain⟨x,r,b,a⟩:=l (by omega);have u:pl.length - (j+1)+1=pl.length - j:=by omega
   obtain⟨m,ds,y,s,_,f,g⟩:=nW (sm:=sm) (k:=k) (n:=n) h (i:=pl.length - (j+1)) (aw (by omega));rw[u]at f g;rw[b]at f;cases f;exact⟨_,_,s,g r a⟩
 obtain⟨x,r,b,a⟩:=go pl.length (ac _);rw[Nat.sub_self]at b a;obtain⟨q,rfl⟩:=h.first
 cases b;exact⟨r,a⟩
theorem rM (H:Hp):∀pl:List Nat,Reps H (pl.map λ(i:Nat)=>D.int (i:Int)) (iV pl)
 | []=>rfl
 | i::pl=>⟨_,_,rfl,rfl,rM H pl⟩
theorem tG:∀pl:List Nat,depDs (pl.map λ(i:Nat)=>D.int (i:Int))=0
 | []=>rfl
 | i::pl=>by rw[ba,depDs,tG pl];rfl
theorem NL {sm:bE}{d:D}{pa:Addr}{pl:List Nat}{H:Hp}{u:V}(h:Q6 sm d (.ref pa) H u)(a:H pa=some (.tup (iV pl))):∃x,aT H x u/\depD x<=5:=by obtain⟨T,k,n,rfl,b,_⟩:=h;refine⟨.tup [.str k,.tup (pl.map λ(i:Nat)=>D.int (i:Int)),.str n],⟨T,_,rfl,b,.str k,_,rfl,rfl,.ref pa,_,rfl,⟨pa,_,rfl,a,rM H pl⟩,.str n,[],rfl,rfl,rfl⟩,?_⟩;rw[depD,depDs,depDs,depDs,depDs,depD,tG,show depD (.str k)=0 from rfl,show depD (.str n)=0 from rfl];decide
theorem D3 {H:Hp}:∀{us:List V},(∀u∈us,∃x,aT H x u/\depD x<=5)->∃ds,Reps H ds us/\depDs ds<=5
 | [],_=>⟨[],rfl,by rw[depDs];decide⟩
 | u::us,h=>by obtain⟨x,c,e⟩:=h u av;obtain⟨ds,b,d⟩:=D3 λy a=>h y (ay _ a);exact⟨x::ds,⟨u,us,rfl,c,b⟩,by rw[depDs];omega⟩
def S2 (p dn l:Addr)(v:V)(m:Nat)(H:Hp)(i:Nat)(σ:St)(c:Hp):Prop:=∃b a:Option V,σ=[some (.ref p),some (.ref dn),some v,some (.ref l),some (.int (m:Int)),b,a]/\aD H c
def IE:Sp:=λvs H Q _=>∃(p dn:Addr) (fx:cW) (sm:bE) (os:aV) (d:D) (v:V),vs=[.ref p,.ref dn,v]/\bY H p/\H dn=some (dK31 sm)/\bX fx sm/\(∀x∈os,eC x)/\bA fx sm os d/\Pd sm d/\aT H d v/\depD d<=100/\nds d<=1100/\sm.length<=100/\(∀H',dR p H H'->bY H' p->Q .non H') /\
 ∀(T pa:Addr) (k n:Str) (pl:List Nat) (e:D) (H':Hp),dR p H H'->bY H' p->H' T=some (.tup [.str k,.ref pa,.str n])->H' pa=some (.tup (iV pl))->pl.length<=100->k∈kinds->n∈sm.map (·.1)->eI sm k n pl d=some e->Q (.ref T) H'
theorem JX {f:Addr}{fd:FuncData}(F:fY K "_law_step" "_law_step" jE f fd)(T:Txt mg)(q:d8 P w K mg base bH 1 "_law_places" zB)(g:d8 P w K mg base bH 1 "_law_take" iQ)(B:d8 P w K mg base bH 3 "_law_some" IF)(C:d8 P w K mg base bH 1 "_law_part" IG):bN P w K mg base bH 4 f fd qT IE:=by
 refine F.ok fZ (λvs H Q E h=>?_) (λcdv A outer s H vs Q E R h=>?_)
 ·obtain⟨p,dn,fx,sm,os,d,v,rfl,_⟩:=h;rfl
 ·obtain⟨p,dn,fx,sm,os,d,v,rfl,pt,hdn,so,ho,tm,pd,rep,dp,nd,l100,q0,q1⟩:=h;have O:=R.units
  refine⟨_,(aC (aW (i:=3) fZ.nd rfl (Or.inl rfl) (aN q (R.mono (by decide)) pass0 rfl (aA (pv 2) aB)))
   (aC (aW (i:=4) fZ.nd rfl (Or.inl rfl) (aN g (R.mono (by decide)) pass0 rfl (aA (pv 0) (aA (aL bZ rfl T.n_len rfl (aA (pv 3) aB)) aB))))
   (aC (dG dc rfl (cP K rfl (bF bM (dC gT (pv 3) (bT (pv 4)) cF) (dC gT (pv 3) cF (bT (pv 4))))) (aZ (i:=5) fZ.nd rfl (Or.inl rfl)) (aC (aW (i:=6) fZ.nd rfl (Or.inl rfl) (aN B (R.mono (by decide)) pass0 rfl (aA (pv 1) (aA (aN C (R.mono (by decide)) pass0 rfl (aA (pv 2) (aA (pv 5) aB))) (aA (pv 5) aB)))))
   (aG (bD (aY (nC O) (pv 6) (cQ aB) (nomark _)) (aG (aM (aS bB (pv 6) (aN g (R.mono (by decide)) pass0 rfl (aA (pv 0) (aA (aL bZ rfl T.n_len rfl (aA (pv 6) aB)) aB))) (λ_ _=>rfl)))) aP))))
   (aG (aM dE))))),?_⟩
  try dsimp only[cxOf,Cx.nox]
  clear R F T O q g B C;simp only[eL,dU];refine⟨_,rfl,sm,d,v,rfl,rep,pd,nd,dp,λl us H1 s1 hl l1 ne1 le1 all=>?_⟩;obtain⟨a0,b0,S⟩:=pt;have npl:l≠p:=(aH S hl).symm;refine⟨_,rfl,_,rfl,_,_,rfl,(by dsimp only;rw[lenV_l l1];rfl),p,_,rfl,⟨a0,b0,s1 _ _ S⟩,by omega,by omega,λc a b c0 c1=>?_⟩;obtain⟨m,rfl⟩:∃m:Nat,c=(m:Int):=⟨c.toNat,by omega⟩
  have ts:bV H1 (upd H1 p (.lst [.int a,.int b])):=λz xs e=>by rw[aE (λy=>by rw[y,s1 _ _ S]at e;cases e)];exact e
  have U:dR p H (upd H1 p (.lst [.int a,.int b])):=λz o n e=>by rw[aE n];exact s1 _ _ e
  have p2:upd H1 p (.lst [.int a,.int b]) p=some (.lst [.int a,.int b]):=upd_same;have l2:upd H1 p (.lst [.int a,.int b]) l=some (.lst us):=by rw[aE npl];exact l1
  generalize upd H1 p (.lst [.int a,.int b])=H2 at ts U p2 l2⊢;have fl:Fl d:=by rw[←JH pd];exact m7 (kY so ho tm).1
  have rep2:aT H2 d v:=aT.tups ts fl (aT.same s1 rep);have all2:∀u∈us,ST d H2 u:=λu O=>by obtain⟨pa,pl,ws,e,h1,h2,h3⟩:=all u O;exact⟨pa,pl,ws,e,h1,ts _ _ h2,h3⟩
  have dn2:H2 dn=some (dK31 sm):=U _ _ (λz=>by rw[z,S]at hdn;cases hdn) hdn;refine⟨_,rfl,_,rfl,(m:Int),rfl,l,us,rfl,.inl l2,λ⟨ys,e⟩=>(by rw[l2]at e;cases e),λp3 o3 hp3 ho3=>?_⟩;obtain⟨rfl,_⟩:=ho3.resolve_right λz=>by rw[l2]at z;exact nomatch z.2
  have s3:aD H2 (upd H2 p3 (.lst (cutV us (some (m:Int)) none))):=aD.upd hp3;have r3:upd H2 p3 (.lst (cutV us (some (m:Int)) none)) p3=some (.lst (cutV us (some (m:Int)) none)):=upd_same;generalize upd H2 p3 (.lst (cutV us (some (m:Int)) none))=H3 at s3 r3⊢;have l3:=s3 _ _ l2;refine⟨_,rfl,_,rfl,(m:Int),rfl,l,us,rfl,.inl l3,λ⟨ys,e⟩=>(by rw[l3]at e;cases e),λp4 o4 hp4 ho4=>?_⟩;obtain⟨rfl,_⟩:=ho4.resolve_right λz=>by rw[l3]at z;exact nomatch z.2
  have s4:aD H3 (upd H3 p4 (.lst (cutV us none (some (m:Int))))):=aD.upd hp4;have r4:upd H3 p4 (.lst (cutV us none (some (m:Int)))) p4=some (.lst (cutV us none (some (m:Int)))):=upd_same;generalize upd H3 p4 (.lst (cutV us none (some (m:Int))))=H4 at s4 r4⊢;rw[oV]at r4;have r3':=s4 _ _ r3;rw[tI]at r3';refine .inr ⟨_,oX r3' r4 (al (m:=3000) (by rw[bu,bq];omega) (by decide)),λp5 hp5=>⟨p5,_,rfl,.inl upd_same,λJ hJ=>?_⟩⟩;have s5:aD H4 (upd H4 p5 (.lst (us.drop m++us.take m))):=aD.upd hp5;have r5:upd H4 p5 (.lst (us.drop m++us.take m)) p5=some (.lst (us.drop m++us.take m)):=upd_same;generalize upd H4 p5 (.lst (us.drop m++us.take m))=H5 at s5 r5 hJ⊢;have Z:=(s3.trans s4).trans s5;refine eW hJ (S2 p dn l v m H5) ⟨_,_,rfl,aD.refl _⟩ (λi σ H' _ ⟨_,_,_,s⟩=>by rw[s _ _ r5,r5]) ?_ ?_
  ·rintro i x σ H6 hx ⟨o5,o6,rfl,s6⟩;have hx:x∈us:=by
    rcases cr.mp (bg hx)with h|h
    ·exact List.mem_of_mem_drop h
    ·exact List.mem_of_mem_take h
   obtain⟨pa,pl,ws,e,rfl,hpa,L⟩:=all2 x hx;have N:=Z.trans s6;obtain⟨t1,t2,t3,_⟩:=wO L tm pd e (bg L.last);have wd:=y3 L;refine⟨_,rfl,_,rfl,_,rfl,d,e,v,pa,pl,ws,rfl,aT.same N rep2,.inr (N _ _ hpa),L,λv' rv=>?_⟩;refine⟨_,rfl,dn,fx,sm,os,e,v',.ref pa,rfl,N _ _ dn2,so,ho,t1,t2,rv,by omega,l100,λl7 I H7 s7 hl7 r7 le7 all7=>?_⟩;have s27:=N.trans s7;have hpa7:=s27 _ _ hpa;refine⟨_,rfl,show 0<=sizeLine by decide,λp8 hp8=>?_⟩;have X:aD H7 (upd H7 p8 (.lst [])):=aD.upd hp8;have r8:upd H7 p8 (.lst []) p8=some (.lst []):=upd_same;generalize upd H7 p8 (.lst [])=H8 at X r8⊢;have Y:=s27.trans X;have G:=X _ _ hpa7;have W:∀u∈I,Q6 sm e (.ref pa) H8 u:=λu O=>(all7 u O).get λ_ _ z=>X _ _ z;obtain⟨ds,rds,dds⟩:=D3 λu O=>NL (W u O) G;refine⟨.lst ds,.lst [],⟨l7,I,rfl,X _ _ r7,rds⟩,⟨p8,[],rfl,r8,rfl⟩,by rw[depD];omega,_,rfl,cN (λc=>?_) (λc=>?_)⟩
   ·have ne:0<I.length:=by
     cases I with
     | nil =>
      have z:ds=[]:=List.length_eq_zero_iff.mp (Reps.len rds).symm;subst z;have t:eqD (.lst []) (.lst [])=true:=by rfl
      rw[t]at c;cases c
     | cons _ _=>simp
    have l8:=X _ _ r7;have n7:l7≠p:=λz=>by have:=N _ _ p2;rw[←z,hl7]at this;cases this
    refine⟨_,rfl,_,rfl,_,rfl,_,_,rfl,(by dsimp only;rw[lenV_l l8];rfl),p,_,rfl,⟨a,b,Y _ _ p2⟩,by omega,by omega,λj x y j0 j1=>?_⟩;obtain⟨j,rfl⟩:∃i:Nat,j=(i:Int):=⟨j.toNat,by omega⟩
    obtain⟨u,O⟩:∃u,I[j]?=some u:=⟨_,aw (by omega)⟩
    obtain⟨T,k,n,rfl,hT,hkk,hn,hc⟩:=W u (bg O);obtain⟨cc,hcc⟩:=Option.isSome_iff_exists.mp hc;obtain⟨r,R⟩:=HM L hcc;have p8':=Y _ _ p2;have l9:upd H8 p (.lst [.int x,.int y]) l7=some (.lst I):=by rw[aE n7];exact l8
    refine⟨.ref T,by rw[ixV_l l9];exact jL O,q1 T pa k n pl r _ (λz o nz ez=>by rw[aE nz];exact Y _ _ (U z o nz ez)) ⟨x,y,upd_same⟩ ?_ ?_ (by omega) hkk hn R⟩
    ·rw[aE (λz=>by rw[z,p8']at hT;cases hT)];exact hT
    ·rw[aE (λz=>by rw[z,p8']at G;cases G)];exact G
   ·exact⟨_,_,rfl,s6.trans (s7.trans X)⟩
  ·rintro σ H6 ⟨o5,o6,rfl,s6⟩;exact q0 _ (λz o n e=>s6 _ _ (Z _ _ (U z o n e))) ⟨a,b,s6 _ _ (Z _ _ p2)⟩
structure Tb (Pt Pp:Addr)(H:Hp):Prop where
 lt:LT Pt H
 lp:uT Pp H
 ne:Pt≠Pp
def B2 (Pt Pp:Addr)(H H':Hp):Prop:=∀c o,c≠Pt->c≠Pp->H c=some o->H' c=some o
theorem B2.trans {Pt Pp:Addr}{H h g:Hp}(a:B2 Pt Pp H h)(b:B2 Pt Pp h g):B2 Pt Pp H g:=λc o f d e=>b c o f d (a c o f d e)
theorem B2.of {Pt Pp:Addr}{H H':Hp}(s:aD H H'):B2 Pt Pp H H':=λc o _ _ e=>s c o e
theorem B2.t {Pt Pp:Addr}{H H':Hp}(s:dR Pt H H'):B2 Pt Pp H H':=λc o h _ e=>s c o h e
theorem B2.p {Pt Pp:Addr}{H H':Hp}(s:dR Pp H H'):B2 Pt Pp H H':=λc o _ h e=>s c o h e
theorem Tb.same {Pt Pp:Addr}{H H':Hp}(h:Tb Pt Pp H)(s:aD H H'):Tb Pt Pp H':=⟨h.lt.same s,h.lp.same s,h.ne⟩
theorem Tb.t {Pt Pp:Addr}{H H':Hp}(h:Tb Pt Pp H)(b:dR Pt H H')(l:LT Pt H'):Tb Pt Pp H':=by
 refine⟨l,?_,h.ne⟩;rcases h.lp with e|⟨j,c,a,f,i,d,g⟩
 ·exact .inl (b _ _ h.ne.symm e)
 ·exact .inr ⟨j,c,a,f,b _ _ h.ne.symm i,b _ _ (h.lt.ne d λ_=>by simp) d,g⟩
theorem Tb.p {Pt Pp:Addr}{H H':Hp}(h:Tb Pt Pp H)(b:dR Pp H H')(l:uT Pp H'):Tb Pt Pp H':=by
 refine⟨?_,l,h.ne⟩;rcases h.lt with e|⟨j,c,a,f,i,d,g⟩
 ·exact .inl (b _ _ h.ne e)
 ·exact .inr ⟨j,c,a,f,b _ _ h.ne i,b _ _ (h.lp.ne d λ_=>by simp) d,g⟩
theorem Tb.get {Pt Pp:Addr}{H H':Hp}(h:Tb Pt Pp H)(b:B2 Pt Pp H H'){a:Addr}{o:HO}(e:H a=some o)(n:∀ps,o≠.tbl ps):H' a=some o:=b _ _ (h.lt.ne e n) (h.lp.ne e n) e
mutual
theorem Tb.rep {Pt Pp:Addr}{H H':Hp}(h:Tb Pt Pp H)(b:B2 Pt Pp H H'):∀{d:D} {v:V},aT H d v->aT H' d v
 | .non,v,k | .bl _,v,k | .int _,v,k | .str _,v,k=>k
 | .tup ds,v,⟨a,vs,f,e,c⟩=>⟨a,vs,f,h.get b e λ_=>by simp,Tb.reps h b c⟩
 | .lst ds,v,⟨a,vs,f,e,c⟩=>⟨a,vs,f,h.get b e λ_=>by simp,Tb.reps h b c⟩
theorem Tb.reps {Pt Pp:Addr}{H H':Hp}(h:Tb Pt Pp H)(b:B2 Pt Pp H H'):∀{ds:List D} {vs:List V},Reps H ds vs->Reps H' ds vs
 | [],vs,k=>k
 | d::ds,vs,⟨v,r,e,c,a⟩=>⟨v,r,e,Tb.rep h b c,Tb.reps h b a⟩
end
theorem Tb.sg {Pt Pp C g:Addr}{a:cW}{sm:bE}{H H':Hp}(h:Tb Pt Pp H)(b:B2 Pt Pp H H')(s:fN K C a sm H g):fN K C a sm H' g:=by obtain⟨u,r,q,m,fs,o,dn,l,j,i,f,e,d,c⟩:=s;exact⟨u,r,q,m,fs,o,dn,h.get b l λ_=>by simp,j,i,f,e,h.get b d λ_=>by simp,h.get b c λ_=>by simp⟩
theorem M9 {i:cW}{sm:bE}{os:aV}{d:D}(h:bA i sm os d):nds d<=lvs d * (depD d+1):=by
 refine mZ (P:=λd=>nds d<=lvs d * (depD d+1)) (λx _=>by unfold nds lvs;exact ac _) (λn ds d hd f a b=>?_) h;obtain⟨m,l,j,_⟩:=eM (sm:=sm) hd;have q:=kP f;have o:=iI a;have go:∀{es:List D},(∀e∈es,nds e<=lvs e * (depD e+1))->ndss es<=lvss es * (depDs es+1):=λ{es}=>by
  induction es with
  | nil=>intro _;exact au _
  | cons e es b =>
   intro h;have s:=h e av;have r:=b λx c=>h x (ay _ c);rw[ndss,lvss,depDs,Nat.add_mul];have v:=Nat.mul_le_mul_left (lvs e) (Nat.add_le_add_right (Nat.le_max_left (depD e) (depDs es)) 1);have u:=Nat.mul_le_mul_left (lvss es) (Nat.add_le_add_right (Nat.le_max_right (depD e) (depDs es)) 1);omega
 have g:=go b;rw[m,l,j,Nat.mul_succ];omega
theorem jA:∀x∈wi31,eC x:=by
 intro x a;simp only[wi31,cp,List.not_mem_nil,or_false]at a;have wd:∀{l:List Nat},(l.all λc=>decide ((97<=c/\c<=122)∨(48<=c/\c<=57)))=true->∀c∈l,isWd c:=λh c b=>by have:=List.all_eq_true.mp h c b;have:(97<=c/\c<=122)∨(48<=c/\c<=57):=bo this;unfold isWd;omega
 rcases a with rfl|rfl|rfl|rfl
 ·exact⟨[120],rfl,by decide,by decide,wd (by decide)⟩
 ·exact⟨[49],rfl,by decide,by decide,wd (by decide)⟩
 ·exact⟨[48,122,57],rfl,by decide,by decide,wd (by decide)⟩
 ·exact⟨[122,122,122,122,122,122,122,122],rfl,by decide,by decide,wd (by decide)⟩
theorem JK {a:Addr}{ns:List Int}{σ:St}{H:Hp}{Q:VK}(e:σ[0]?=some (some (.ref a)))(c:eK K H a (ns.map V.int))(q:∀b H1 (ms:List Int),aD H H1->eK K H1 b (ms.map V.int)->Q (.ref b) H1):tOrT K (tVar 0) (tLst (tCons (tC (V.int 7)) tNil)) σ H Q :=
 ⟨_,e,_,.inl ⟨_,c,rfl⟩,cN (λ_=>q a H ns (aD.refl _) c) (λ_=>⟨show 1<=sizeLine by decide,λp d=>q p _ [7] (aD.upd d) (eK.of upd_same)⟩)⟩
theorem vW (a:List Int):cutV (a.map V.int) none (some 3)=(a.take 3).map V.int:=by have:=oV (a.map V.int) 3;rw[List.map_take];exact this
theorem P8 {i:cW}{sm:bE}{os:aV}(b:Bool){d:D}(h:bA i sm os d):nds (asD b d)=nds d:=by
 refine mZ (P:=λd=>nds (asD b d)=nds d) (λx _=>by unfold asD;rfl) (λn ds d hd _ c f=>?_) h;have go:∀{es:List D},(∀e∈es,nds (asD b e)=nds e)->ndss (asDs b es)=ndss es:=λ{es}=>by
  induction es with
  | nil=>intro _;rfl
  | cons e es a=>intro h;rw[asDs,ndss,ndss,h e av,a λx g=>h x (ay _ g)]
 rcases hd with rfl|rfl <;> (rw[asD];split <;> rw[nds,nds,go f])
theorem eK.keep {K:PySem.W.Frag}{H H':Hp}{a:Addr}{xs:List V}(h:eK K H a xs)(s:aD H H'):eK K H' a xs:=by
 rcases h with(h|⟨o,h⟩)|h
 ·exact .inl (.inl (s _ _ h))
 ·exact .inl (.inr ⟨o,s _ _ h⟩)
 ·exact .inr h
noncomputable def bkKV:List (dQ×V):=[(.inr "turn",.str "turn"),(.inr "left",.str "right"),(.inr "right",.str "left"),(.inr "drop",.str "add"),(.inr "add",.str "drop")]
theorem QQ {k:Str}(a:k∈kinds):valV (eJ [] bkKV) (.inr k)=some (.str (backK k)):=by simp only[kinds,cp,List.not_mem_nil,or_false]at a;rcases a with rfl|rfl|rfl|rfl|rfl <;> rfl
theorem RO {k:Str}(a:k∈kinds):backK k∈kinds:=by simp only[kinds,cp,List.not_mem_nil,or_false]at a;rcases a with rfl|rfl|rfl|rfl|rfl <;> decide
theorem AT {g:TG}{tb:TS}{D:iM}{σ:St}{H:Hp}{a:Int}{n:Nat}(Pv:Nat->St->Hp->Prop)(Fin:St->Hp->Prop)(e:Pv 0 σ H)(hd:∀σ H,Fin σ H->D.nx σ H)
  (c:(∀σ H,Fin σ H->D.nx σ H)->∀i σ H,i<n->Pv i σ H->g (.int (a+i)) σ H λb f=>tb {D with nx:=Pv (i+1),ct:=Pv (i+1),bk:=D.nx} b f) (d:∀σ H,Pv n σ H->Fin σ H):nQ (LS a n) g tb D σ H:=nH Pv e (c hd) λσ H h=>hd σ H (d σ H h)
theorem Tb.bp {Pt Pp p:Addr}{H H':Hp}(h:Tb Pt Pp H)(k:∀{c:Addr} {o:HO},H c=some o->(∀xs,o≠.lst xs)->H' c=some o):Tb Pt Pp H':=by
 refine⟨?_,?_,h.ne⟩
 ·rcases h.lt with h|⟨i,b,a,d,g,f,e⟩
  ·exact .inl (k h λ_ z=>by cases z)
  ·exact .inr ⟨i,b,a,d,k g λ_ z=>(by cases z),k f λ_ z=>(by cases z),e⟩
 ·rcases h.lp with h|⟨i,b,a,d,g,f,e⟩
  ·exact .inl (k h λ_ z=>by cases z)
  ·exact .inr ⟨i,b,a,d,k g λ_ z=>(by cases z),k f λ_ z=>(by cases z),e⟩
structure OI (K:PySem.W.Frag)(C Pt Pp p g dn kb:Addr)(fx:cW)(sm:bE)(H1 H:Hp):Prop where
 pt:bY H p
 tb:Tb Pt Pp H
 sg:fN K C fx sm H g
 dn:H dn=some (dK31 sm)
 kb:H kb=some (.dK (eJ [] bkKV))
 ob:B2 Pt Pp H1 H
theorem OI.b2 {C Pt Pp p g dn kb:Addr}{a:cW}{sm:bE}{b H H':Hp}(s:OI K C Pt Pp p g dn kb a sm b H)(c:B2 Pt Pp H H')(t:Tb Pt Pp H'):OI K C Pt Pp p g dn kb a sm b H':=by obtain⟨⟨x,y,e⟩,tb,sg,f,d,ob⟩:=s;exact⟨⟨x,y,tb.get c e λ_ z=>by cases z⟩,t,tb.sg c sg,tb.get c f λ_ z=>(by cases z),tb.get c d λ_ z=>(by cases z),ob.trans c⟩
theorem OI.bp {C Pt Pp p g dn kb:Addr}{i:cW}{sm:bE}{f H H':Hp}(s:OI K C Pt Pp p g dn kb i sm f H)(j:f p=none)(b:dR p H H')(pt:bY H' p):OI K C Pt Pp p g dn kb i sm f H':=by obtain⟨⟨x,y,e⟩,tb,sg,m,l,ob⟩:=s;have k:∀{c:Addr} {o:HO},H c=some o->(∀xs,o≠.lst xs)->H' c=some o:=λ{c o} h n=>b c o (λz=>by rw[z,e]at h;cases h;exact n _ rfl) h;obtain⟨I,G,F,a,fs,E,d,B,A,w,v,u,r,q⟩:=sg;exact⟨pt,tb.bp (p:=p) k,⟨I,G,F,a,fs,E,d,k B λ_ z=>(by cases z),A,w,v,u,k r λ_ z=>(by cases z),k q λ_ z=>(by cases z)⟩,k m λ_ z=>(by cases z),k l λ_ z=>(by cases z),λc o n1 n2 h=>b c o (aH h j) (ob c o n1 n2 h)⟩
def R1 (K:PySem.W.Frag)(C Pt Pp a kb p t dn g:Addr)(v:V)(b:cW)(sm:bE)(d:D)(c:Hp)(i:Nat)(σ:St)(H:Hp):Prop:=∃(q:D) (va vh:V) (oc o10 o11 o12 o13 o14:Option V),σ=[some (.ref a),some (.ref kb),oc,some (.ref p),some (.ref t),some (.ref dn),some (.ref g),some v,some va,some vh,o10,o11,o12,o13,o14]/\OI K C Pt Pp p g dn kb b sm c H/\aT H d v/\aT H q va/\aT H (prD sm q) vh/\bA b sm wi31 q/\Fl q/\lvs q<=40+i/\nds q<=520+2 * i/\depD q<=50+i/\nds (prD sm q)<=520+2 * i/\depD (prD sm q)<=50+i/\flt sm q=flt sm d
def w6 (K:PySem.W.Frag)(Pt Pp:Addr):Sp:=λvs H Q _=>∃(a:Addr) (ns:List Int),vs=[.ref a]/\eK K H a (ns.map V.int)/\ns.length<=63/\Tb Pt Pp H/\∀H',Q (.bl true) H'
def TV (a kb:Addr)(Pt Pp:Addr)(H:Hp)(i:Nat)(σ:St)(g:Hp):Prop:=∃s r q o m l j h f e d c b:Option V,σ=[some (.ref a),some (.ref kb),s,r,q,o,m,l,j,h,f,e,d,c,b]/\B2 Pt Pp H g/\Tb Pt Pp g
theorem P3 {f C Pt Pp:Addr}{fd:FuncData}(F:fY K "law" "law" qC f fd)(T:Txt mg)(R:d8 P w K mg base bH 1 "_law_from" IJ)(r:d8 P w K mg base bH 1 "_law_take" iQ)(I:d8 P w K mg base bH 2 "_law_signs" u9)(MK_Signs:QY P w K mg base bH 3 "Signs" C (B0 K C))(N:d8 P w K mg base bH 15 "_law_term" (jX 11))
  (G:d8 P w K mg base bH 13 "_law_paired" (nZ 11)) (j:d8 P w K mg base bH 64 "_law_listed" (lF 62)) (O_paired:d8 P w K mg base bH 9 "paired" (nY K C Pp)) (O_alike:d8 P w K mg base bH 12 "alike" (spTwo K C Pt pK)) (O:d8 P w K mg base bH 4 "_law_step" IE) (B:d8 P w K mg base bH 3 "_law_stepped" u8) (U:d8 P w K mg base bH 10 "done" (IL K C Pp)):bN P w K mg base bH 65 f fd OK (w6 K Pt Pp):=by
 refine F.ok eN (λvs H Q E h=>?_) (λcdv A outer s H vs Q E hr h=>?_)
 ·obtain⟨a,ns,rfl,_⟩:=h;rfl
 ·obtain⟨a,ns,rfl,hs,n63,tb,q⟩:=h;have hu:=hr.units;have hu2:_+160<cLine:=aj (bx (show 160<=16 * 64+200 by decide) _) (by rw[←Nat.add_assoc];exact hr.un)
  refine⟨_,(aC (aW (i:=1) eN.nd rfl (Or.inl rfl) (MI (lK cI cI (lK cI cI (lK cI cI (lK cI cI (lK cI cI MA))))) rfl rfl (λz=>nomatch z) (by decide)))
   (aC (dG dc rfl (cP K rfl (dC D1 (PL (pv 0) (pM (cQ (aA aF aB)))) cF (bT aF))) (aZ (i:=2) eN.nd rfl (Or.inl rfl)) (aC (aW (i:=3) eN.nd rfl (Or.inl rfl) (aN R (hr.mono (by decide)) pass0 rfl (aA (pv 2) aB)))
   (aC (aW (i:=4) eN.nd rfl (Or.inl rfl) (aN I (hr.mono (by decide)) pass0 rfl (aA (pv 3) aB)))
   (aC (aW (i:=5) eN.nd rfl (Or.inl rfl) (cR (nL rfl) rfl T.n_dict rfl (aA (aS bB (pv 4) aF (λ_ _=>rfl)) aB)))
   (aC (aW (i:=6) eN.nd rfl (Or.inl rfl) (RH MK_Signs (hr.mono (by decide)) pass0 rfl (aA (aS bB (pv 4) aF (λ_ _=>rfl)) (aA (aS bB (pv 4) aF (λ_ _=>rfl)) aB))))
   (aC (aW (i:=7) eN.nd rfl (Or.inl rfl) (aN N (hr.mono (by decide)) pass0 rfl (aA (pv 3) (aA (pv 4) (aA (bF bM aF (aN r (hr.mono (by decide)) pass0 rfl (aA (pv 3) (aA aF aB)))) (aA aF aB))))))
   (aC (aW (i:=8) eN.nd rfl (Or.inl rfl) (pv 7))
   (aC (aW (i:=9) eN.nd rfl (Or.inl rfl) (aN G (hr.mono (by decide)) pass0 rfl (aA (pv 5) (aA (pv 7) aB))))
   (aC (dG dc rfl (j6 rfl T.n_range (aA (bF bM aF (aN r (hr.mono (by decide)) pass0 rfl (aA (pv 3) (aA aF aB)))) aB)) (aZ (i:=10) eN.nd rfl (Or.inl rfl)) (aC (aW (i:=11) eN.nd rfl (Or.inl rfl) (aN O (hr.mono (by decide)) pass0 rfl (aA (pv 3) (aA (pv 5) (aA (pv 9) aB)))))
   (aC (bD (aY pO (pv 11) dE (nomark _)) (aG IX) aP)
   (aC (aW (i:=12) eN.nd rfl (Or.inl rfl) (aN B (hr.mono (by decide)) pass0 rfl (aA (pv 5) (aA (pv 9) (aA (pv 11) aB)))))
   (aC (aW (i:=13) eN.nd rfl (Or.inl rfl) (cQ (aA (aS bB (pv 11) aF (λ_ _=>rfl)) (aA (cR nJ rfl T.n_list rfl (aA (aS bB (pv 11) aF (λ_ _=>rfl)) aB)) (aA (aS bB (pv 11) aF (λ_ _=>rfl)) aB)))))
   (aC (aW (i:=14) eN.nd rfl (Or.inl rfl) (aN j (hr.mono (by decide)) pass0 rfl (aA (pv 8) aB)))
   (aC (bD (PW.pt (gR (aY (pR hu2) (aN U (hr.mono (by decide)) pass0 rfl (aA (pv 6) (aA (pv 8) (aA (pv 11) aB)))) (pv 12) (nomark _)) (gR (aY (pR hu2) (aN U (hr.mono (by decide)) pass0 rfl (aA (pv 6) (aA (pv 14) (aA (pv 13) aB)))) (pv 12) (nomark _)) (eQ (aY (pR hu2) (pv 14) (aN j (hr.mono (by decide)) pass0 rfl (aA (pv 8) aB)) (nomark _)))))) (aG (aM qE)) aP)
   (aC (bD (aY (pR hu2) (pv 13) (cQ (aA (aS bB (pv 11) aF (λ_ _=>rfl)) (aA (cR nJ rfl T.n_list rfl (aA (aS bB (pv 11) aF (λ_ _=>rfl)) aB)) (aA (aS bB (pv 11) aF (λ_ _=>rfl)) aB)))) (nomark _)) (aG (aM qE)) aP)
   (aC (bD (aY (pR hu2) (aN U (hr.mono (by decide)) pass0 rfl (aA (pv 6) (aA (pv 12) (aA (bK (aA (MJ (aj (bx (by decide) _) hu) (pv 1) (aS bB (pv 11) aF (λ_ _=>rfl)) (λ_ _=>rfl)) (aA (aS bB (pv 11) aF (λ_ _=>rfl)) (aA (aS bB (pv 11) aF (λ_ _=>rfl)) aB)))) aB)))) (aN O_paired (hr.mono (by decide)) pass0 rfl (aA (pv 6) (aA (pv 8) aB))) (nomark _)) (aG (aM qE)) aP)
   (aC (aW (i:=8) eN.nd rfl (Or.inl rfl) (pv 12))
   (aG (aW (i:=9) eN.nd rfl (Or.inl rfl) (pv 12)))))))))))))
   (aG (bD (cM (aO K rfl (aN O_alike (hr.mono (by decide)) pass0 rfl (aA (pv 6) (aA (pv 9) (aA (pv 7) aB)))) (λ_=>rfl))) (aG (aM qE)) aP)))))))))))
   (aG (aM qE)))),?_⟩
  try dsimp only[cxOf,Cx.nox]
  clear hr F T hu hu2 R r I MK_Signs N G j O_paired O_alike O B U;simp only[eL];refine λkb hkb=>⟨upd_same,bkKV,rfl,show 5<=15 by decide,?_⟩
  have sk:aD H (upd (upd H kb (.dK [])) kb (.dK (eJ [] bkKV))):=λc o e=>by rw[aE (aH e hkb),aE (aH e hkb)];exact e
  have rk:upd (upd H kb (.dK [])) kb (.dK (eJ [] bkKV)) kb=some (.dK (eJ [] bkKV)):=upd_same;generalize upd (upd H kb (.dK [])) kb (.dK (eJ [] bkKV))=Hk at sk rk⊢;refine JK rfl (eK.keep hs sk) λb0 Hs ms0 ss hb0=>⟨3,rfl,b0,_,rfl,hb0,λsl hsl=>⟨sl,_,rfl,.inl upd_same,λJ hJ=>?_⟩⟩
  rw[vW]at hJ;have s0:=ss.trans (aD.upd (o:=.lst ((ms0.take 3).map V.int)) hsl);have sl0:upd Hs sl (.lst ((ms0.take 3).map V.int)) sl=some (.lst ((ms0.take 3).map V.int)):=upd_same;rw[vW];generalize upd Hs sl (.lst ((ms0.take 3).map V.int))=H0 at s0 sl0 hJ⊢;have tb0:=tb.same (sk.trans s0);have kb0:=s0 _ _ rk;clear tb hs hb0 ss hsl s0 sk rk hkb;generalize ms0.take 3=ms at sl0 hJ;refine eW hJ (TV a kb Pt Pp H0) ⟨none,none,none,none,none,none,none,none,none,none,none,none,none,rfl,.of (aD.refl _),tb0⟩ (λi σ H' _ ⟨_,_,_,_,_,_,_,_,_,_,_,_,_,_,b,_⟩=>by rw[tb0.get b sl0 λ_=>by simp,sl0]) ?_ ?_
  ·rintro i x σ H1 hx ⟨o2,o3,o4,o5,o6,o7,o8,o9,o10,o11,o12,o13,o14,rfl,b1,tb1⟩;have kb1:=tb0.get b1 kb0 λ_ z=>by cases z
   obtain⟨m,hm,rfl⟩:∃m,ms[i]?=some m/\x = .int m:=by
    rw[bw]at hx;cases e:ms[i]? with
    | none=>rw[e]at hx;cases hx
    | some y=>rw[e]at hx;cases hx;exact⟨y,rfl,rfl⟩
   refine⟨_,rfl,m,rfl,λp x y hp=>?_⟩;have s2:aD H1 (upd H1 p (.lst [.int x,.int y])):=aD.upd hp;have p2:bY (upd H1 p (.lst [.int x,.int y])) p:=⟨_,_,upd_same⟩
   generalize upd H1 p (.lst [.int x,.int y])=H2 at s2 p2⊢;refine⟨_,rfl,p,rfl,p2,λt a1 a2 Y sm fv sv H3 b3 p3 ht ha hb rf rs so na1 nb1 sg31=>?_⟩;have s3:aD H1 H3:=λc ob e=>b3 c ob (aH e hp) (s2 _ _ e);refine⟨_,rfl,.ref a2,by rw[ixV_t ht];rfl,a2,sv,_,rfl,hb,rs.prs,λdn hdn=>?_⟩;have ndm:(sm.map (·.1)).Nodup:=(List.nodup_append.mp so.nd).2.1;rw[AB ndm];have s7:=aD.upd (o:=dK31 sm) hdn;have d7:upd H3 dn (dK31 sm) dn=some (dK31 sm):=upd_same;change tSeq _ _ _ _ (upd H3 dn (dK31 sm));generalize upd H3 dn (dK31 sm)=H7 at s7 d7⊢;have ht7:=s7 _ _ ht;refine⟨_,rfl,.ref a1,by rw[ixV_t ht7];rfl,_,rfl,.ref a2,by rw[ixV_t ht7];rfl,λg dx hg hdx ng=>?_⟩;have s4':aD H7 (upd (upd H7 dx (.own g)) g (.ins C dx [])):=(aD.upd hdx).trans (aD.upd (by rw[aE (Ne.symm ng)];exact hg));have s34':=s7.trans s4';refine⟨g,dx,a1,a2,Y,sm,fv,sv,rfl,upd_same,s34' _ _ ha,s34' _ _ hb,rf.same (bV.of s34'),rs.same (bV.of s34'),so,λH4 b4 sg=>⟨rfl,?_⟩⟩;have s74:aD H7 H4:=λc ob e=>b4 c ob (aH e hg) (s4' _ _ e);have s34:aD H3 H4:=s7.trans s74;have p4:bY H4 p:=by obtain⟨x',y',e⟩:=p3;exact⟨x',y',s34 _ _ e⟩
   have X:=s3.trans s34;have told4:LE p t Y sm H4:=⟨a1,a2,fv,sv,s34 _ _ ht,s34 _ _ ha,s34 _ _ hb,rf.same (bV.of s34),rs.same (bV.of s34),na1,nb1⟩
   have S4:OI K C Pt Pp p g dn kb Y sm H1 H4:=⟨p4,tb1.same X,sg,s74 _ _ d7,X _ _ kb1,.of X⟩
   clear b3 b4 s4' hg hdx ng p3 p2 s34' s74 s34 s7 d7 hdn ht7 rf rs ht ha hb na1 nb1 s3 s2 X sg;refine⟨_,rfl,_,rfl,_,rfl,p,40,rfl,p4,by decide,by decide,λk x5 y5 k0 k1=>.inl ⟨_,rfl,?_⟩⟩;obtain⟨room,hroom⟩:∃room:Nat,1+k=(room:Int):=⟨(1+k).toNat,by omega⟩
   rw[hroom];have b5:dR p H4 (upd H4 p (.lst [.int x5,.int y5])):=dR.upd p H4 _;have p5:bY (upd H4 p (.lst [.int x5,.int y5])) p:=⟨_,_,upd_same⟩
   generalize upd H4 p (.lst [.int x5,.int y5])=H5 at b5 p5⊢;refine⟨p,t,Y,sm,room,11,rfl,⟨p5,told4.but b5 p4,so,sg31⟩,by omega,by omega,ac _,λd v H6 b6 p6 rep tm fl lv dp=>?_⟩;have S6:=S4.bp hp (b5.trans b6) p6;have l40:lvs d<=40:=by omega
   have n480:nds d<=480:=by have h1:=M9 tm;have h2:lvs d * (depD d+1)<=40 * 12:=Nat.mul_le_mul l40 (by omega);omega
   have tr:yT Y sm wi31 d:=⟨so,jA,tm,by omega,by omega,by omega⟩
   have pd:=xH so jA tm;have pd1:=pd.nd;have pd2:=pd.dp;clear b5 p5 b6 p6 told4 p4 S4 k0 k1;have no:∀e1:D,(!eqD e1 e1)=false:=λe=>by rw[iY];rfl
   refine⟨_,rfl,_,rfl,_,rfl,dn,Y,sm,wi31,d,v,rfl,S6.dn,rep,tr,dp,λu H8 s8 ru=>?_⟩;have S8:=S6.b2 (.of s8) (S6.tb.same s8);have rep8:=aT.same s8 rep;refine⟨_,rfl,p,12,rfl,S8.pt,by decide,by decide,λk9 x9 y9 k90 k91=>.inl ⟨_,rfl,(1+k9),rfl,by omega,by omega,?_⟩⟩;have b9:dR p H8 (upd H8 p (.lst [.int x9,.int y9])):=dR.upd p H8 _;have p9:bY (upd H8 p (.lst [.int x9,.int y9])) p:=⟨_,_,upd_same⟩
   generalize upd H8 p (.lst [.int x9,.int y9])=H9 at b9 p9⊢;have S9:=S8.bp hp b9 p9;have ts9:=bV.ofBut b9 S8.pt;have flp:Fl (prD sm d):=m7 (kY so jA tm).1;have n12:(1+k9).toNat<=12:=by omega
   generalize (1+k9).toNat=n at n12⊢;refine AT (R1 K C Pt Pp a kb p t dn g v Y sm d H1) (λσ H=>∃i,i<=12/\R1 K C Pt Pp a kb p t dn g v Y sm d H1 i σ H) ⟨d,v,u,_,_,_,_,_,_,rfl,S9,aT.tups ts9 fl rep8,aT.tups ts9 fl rep8,aT.tups ts9 flp ru,tm,fl,by omega,by omega,by omega,by omega,by omega,rfl⟩ ?_ (λfin=>?_) (λσ H h=>⟨n,n12,h⟩)
   ·rintro σ H10 ⟨i',li,Z,va,vh,oc,o10',o11',o12',o13',o14',rfl,S,rd,rq,rh,W,flq,lq,nq,dq,nh,dh,ff⟩;have pq:=xH so jA W;have tq:yT Y sm wi31 (prD sm Z):=⟨so,jA,pq.tm,by rw[pq.lv];omega,by omega,by omega⟩
    have ra:pK sm (prD sm Z) d=true:=by unfold pK;rw[pq.fl,ff];exact bf rfl
    refine⟨_,rfl,_,rfl,_,rfl,g,Y,sm,wi31,prD sm Z,d,vh,v,rfl,S.sg,rh,rd,tq,tr,S.tb.lt,λH14 b14 lt14=>?_⟩;rw[ra];refine⟨true,rfl,?_⟩;exact⟨_,_,_,_,_,_,_,_,_,_,_,_,_,rfl,(b1.trans S.ob).trans (.t b14),S.tb.t b14 lt14⟩
   ·rintro i' σ H10 li ⟨Z,va,vh,oc,o10',o11',o12',o13',o14',rfl,S,rd,rq,rh,W,flq,lq,nq,dq,nh,dh,ff⟩;have pq:=xH so jA W;have tq:yT Y sm wi31 Z:=⟨so,jA,W,by omega,by omega,by omega⟩
    have pdq:=OB so W;have flh:Fl (prD sm Z):=m7 (kY so jA W).1;refine⟨_,rfl,_,rfl,_,rfl,p,dn,Y,sm,wi31,prD sm Z,vh,rfl,S.pt,S.dn,so,jA,pq.tm,pdq,rh,by omega,by omega,al so.s2 (by decide),λH11 b11 p11=>?_,λT pa k n pl e H11 b11 p11 hT hpa lpl hk hn st=>?_⟩
    ·have ts:=bV.ofBut b11 S.pt;refine⟨_,rfl,rfl,_,rfl,cN (λ_=>?_) (λz=>absurd z (by decide))⟩;exact fin _ _ ⟨i',by omega,Z,va,vh,_,_,_,_,_,_,rfl,S.bp hp b11 p11,aT.tups ts fl rd,aT.tups ts flq rq,aT.tups ts flh rh,W,flq,lq,nq,dq,nh,dh,ff⟩
    have ts:=bV.ofBut b11 S.pt;have S11:=S.bp hp b11 p11;have rd11:=aT.tups ts fl rd;have rq11:=aT.tups ts flq rq;have rh11:=aT.tups ts flh rh;clear S rd rq rh ts b11 p11;obtain⟨stp,back⟩:=zA so jA hk hn pq.tm pdq st;obtain⟨z,hz⟩:=BP hn;have e1:=stp.lv;have e2:=stp.nd;have e3:=stp.dp;have e4:=JH stp.pd;have l3:=pq.lv;have te:yT Y sm wi31 e:=⟨so,jA,stp.tm,by omega,by omega,by omega⟩
    have fle:Fl e:=by rw[←e4];exact m7 (kY so jA stp.tm).1
    refine⟨_,rfl,rfl,_,rfl,cN (λz=>nomatch bo z) (λ_=>?_)⟩;refine⟨_,rfl,_,rfl,_,rfl,dn,T,pa,Y,sm,wi31,k,n,z,pl,prD sm Z,e,vh,rfl,S11.dn,so,jA,rh11,pq.tm,pdq,by omega,by omega,.inr hT,.inr hpa,hk,hz,hn,by omega,st,λvd H12 s12 re=>?_⟩;have tT12:=s12 _ _ hT;refine⟨_,rfl,.str k,by rw[ixV_t tT12];rfl,_,rfl,.ref pa,by rw[ixV_t tT12];rfl,.ref pa,iV pl,rfl,seqV_t (s12 _ _ hpa),λl1 hl1=>?_⟩;have s13:aD H12 (upd H12 l1 (.lst (iV pl))):=aD.upd hl1;have r13:upd H12 l1 (.lst (iV pl)) l1=some (.lst (iV pl)):=upd_same;generalize upd H12 l1 (.lst (iV pl))=H13 at s13 r13⊢;have tT13:=s13 _ _ tT12;refine⟨_,rfl,.str n,by rw[ixV_t tT13];rfl,show 3<=sizeLine by decide,λl2 hl2=>?_⟩;have X:aD H13 (upd H13 l2 (.lst [.str k,.ref l1,.str n])):=aD.upd hl2;have r14:upd H13 l2 (.lst [.str k,.ref l1,.str n]) l2=some (.lst [.str k,.ref l1,.str n]):=upd_same;change tSeq _ _ _ _ (upd H13 l2 (.lst [.str k,.ref l1,.str n]));generalize upd H13 l2 (.lst [.str k,.ref l1,.str n])=H14 at X r14⊢;have s11:=(s12.trans s13).trans X;refine⟨_,rfl,Y,sm,wi31,Z,va,rfl,aT.same s11 rq11,.inl tq,by omega,λl3 H15 s15 rl3=>?_⟩;have L:=s11.trans s15;have S15:=S11.b2 (.of L) (S11.tb.same L);have rd15:=aT.same L rd11;have rq15:=aT.same L rq11;have re15:=aT.same ((s13.trans X).trans s15) re;have hT15:=L _ _ hT;have hpa15:=L _ _ hpa;have l115:=(X.trans s15) _ _ r13;have l215:=s15 _ _ r14;clear s11 L S11 rd11 rq11 rh11 re hT hpa r13 r14 s12 s13 X s15 hl1 hl2 tT12 tT13;have ta:=FD (b:=true) W;have na:=P8 true W;have tal:yT Y sm wi31 (asD true Z):=⟨so,jA,ta.2.1,by rw[ta.2.2.1];omega,by rw[na];omega,by rw[ta.2.2.2];omega⟩
    have nt:∀{xs:List V} (ps:gN),HO.lst xs≠.tbl ps:=λ_ z=>by cases z
    have nu:∀{xs:List V} (ps:gN),HO.tup xs≠.tbl ps:=λ_ z=>by cases z
    have l:=S15.tb;refine⟨_,rfl,_,rfl,_,rfl,g,T,pa,Y,sm,wi31,k,n,z,pl,Z,e,va,rfl,S15.sg,rq15,tq,by omega,l.lp,.inr hT15,.inr hpa15,hk,hz,hn,by omega,st,λv16 H16 b16 lp16 r16=>?_⟩;have tb16:=l.p b16 lp16;have c16:B2 Pt Pp H15 H16:=.p b16;refine⟨_,rfl,e,e,r16,l.rep c16 re15,by omega,_,rfl,?_⟩;rw[no];refine⟨_,rfl,_,rfl,_,rfl,g,l2,l1,Y,sm,wi31,k,n,z,pl,asD true Z,e,l3,rfl,l.sg c16 S15.sg,l.rep c16 rl3,tal,by rw[IY true W];omega,tb16.lp,.inl (l.get c16 l215 nt),.inl (l.get c16 l115 nt),hk,hz,hn,by omega,by rw[IY true W];exact st,λv17 H17 b17 lp17 r17=>?_⟩;have tb17:=tb16.p b17 lp17;have c17:=c16.trans (.p b17);refine⟨_,rfl,e,e,r17,l.rep c17 re15,by omega,_,rfl,?_⟩;rw[no];refine⟨_,rfl,_,rfl,Y,sm,wi31,Z,va,rfl,l.rep c17 rq15,.inl tq,by omega,λl18 H18 s18 r18=>?_⟩;have tb18:=tb17.same s18;have c18:=c17.trans (.of s18);refine⟨asD true Z,asD true Z,l.rep c18 rl3,r18,by rw[ta.2.2.2];omega,_,rfl,?_⟩;rw[no];have hT18:=l.get c18 hT15 nu;have hpa18:=l.get c18 hpa15 nu;refine⟨_,rfl,_,rfl,.str k,by rw[ixV_t hT18];rfl,_,rfl,.ref pa,by rw[ixV_t hT18];rfl,.ref pa,iV pl,rfl,seqV_t hpa18,λl4 hl4=>?_⟩;have s19:aD H18 (upd H18 l4 (.lst (iV pl))):=aD.upd hl4;have r19:upd H18 l4 (.lst (iV pl)) l4=some (.lst (iV pl)):=upd_same;generalize upd H18 l4 (.lst (iV pl))=H19 at s19 r19⊢;have hT19:=s19 _ _ hT18;refine⟨_,rfl,.str n,by rw[ixV_t hT19];rfl,show 3<=sizeLine by decide,λl5 hl5=>?_⟩;have s20:aD H19 (upd H19 l5 (.lst [.str k,.ref l4,.str n])):=aD.upd hl5;have r20:upd H19 l5 (.lst [.str k,.ref l4,.str n]) l5=some (.lst [.str k,.ref l4,.str n]):=upd_same;change rNeW _ _ (upd H19 l5 (.lst [.str k,.ref l4,.str n])) _;generalize upd H19 l5 (.lst [.str k,.ref l4,.str n])=H20 at s20 r20⊢;have s1820:=s19.trans s20;have tb20:=tb18.same s1820;have c20:=c18.trans (.of s1820);refine⟨.lst [.str k,.lst (pl.map λ(i:Nat)=>D.int (i:Int)),.str n],.lst [.str k,.lst (pl.map λ(i:Nat)=>D.int (i:Int)),.str n],⟨l2,_,rfl,l.get c20 l215 nt,.str k,_,rfl,rfl,.ref l1,_,rfl,⟨l1,_,rfl,l.get c20 l115 nt,rM _ pl⟩,.str n,[],rfl,rfl,rfl⟩,⟨l5,_,rfl,r20,.str k,_,rfl,rfl,.ref l4,_,rfl,⟨l4,_,rfl,s20 _ _ r19,rM _ pl⟩,.str n,[],rfl,rfl,rfl⟩,?_,_,rfl,?_⟩
    ·rw[depD,depDs,depDs,depDs,depDs,depD,tG,show depD (.str k)=0 from rfl,show depD (.str n)=0 from rfl];decide
    rw[no];have hT20:=s1820 _ _ hT18;have hpa20:=s1820 _ _ hpa18;have S20:=S15.b2 c20 tb20;have bkv:kX H20 kb (.str k) (some (.str (backK k))):=by have:=kX.k (k:=.inr k) S20.kb;rw[QQ hk]at this;exact this
    refine⟨_,rfl,_,rfl,_,rfl,_,rfl,.str k,by rw[ixV_t hT20];rfl,kb,.str (backK k),rfl,bkv,_,rfl,.ref pa,by rw[ixV_t hT20];rfl,_,rfl,.str n,by rw[ixV_t hT20];rfl,show 3<=sizeLine by decide,λT3 hT3=>?_⟩;have s21:aD H20 (upd H20 T3 (.tup [.str (backK k),.ref pa,.str n])):=aD.upd hT3;have r21:upd H20 T3 (.tup [.str (backK k),.ref pa,.str n]) T3=some (.tup [.str (backK k),.ref pa,.str n]):=upd_same;generalize upd H20 T3 (.tup [.str (backK k),.ref pa,.str n])=H21 at s21 r21⊢;have tb21:=tb20.same s21;have c21:=c20.trans (.of s21);refine⟨g,T3,pa,Y,sm,wi31,backK k,n,z,pl,e,prD sm Z,vd,rfl,l.sg c21 S15.sg,l.rep c21 re15,te,by rw[e4];omega,tb21.lp,.inr r21,.inr (s21 _ _ hpa20),RO hk,hz,hn,by omega,by rw[e4];exact back,λv22 H22 b22 lp22 r22=>?_⟩;have tb22:=tb21.p b22 lp22;have c22:=c21.trans (.p b22);refine⟨_,rfl,_,rfl,g,Y,sm,wi31,Z,va,rfl,l.sg c22 S15.sg,l.rep c22 rq15,tq,tb22.lp,λv23 H23 b23 lp23 r23=>?_⟩;have tb23:=tb22.p b23 lp23;have c23:=c22.trans (.p b23);refine⟨prD sm Z,prD sm Z,tb22.rep (.p b23) r22,r23,by omega,_,rfl,?_⟩;rw[no];refine⟨_,rfl,_,rfl,e,vd,vd,_,_,_,_,_,_,rfl,S15.b2 c23 tb23,l.rep c23 rd15,l.rep c23 re15,by rw[e4];exact l.rep c23 re15,stp.tm,fle,by omega,by omega,by omega,by rw[e4];omega,by rw[e4];omega,by rw[stp.fl,pq.fl,ff]⟩
  ·exact λσ H1 _=>q H1
noncomputable def dKV (a c b d e:Addr):List (dQ×V):=[(.inr "turn",.ref a),(.inr "left",.ref c),(.inr "right",.ref b),(.inr "drop",.ref d),(.inr "add",.ref e)]
noncomputable def dEs (p:Params)(b d c e f:Addr)(t1 a t3 t4 t5:Tok):Array DictEntry:=#[⟨PyData.keyHash p "turn",.str "turn" t1,.ref b⟩,⟨PyData.keyHash p "left",.str "left" a,.ref d⟩,⟨PyData.keyHash p "right",.str "right" t3,.ref c⟩,⟨PyData.keyHash p "drop",.str "drop" t4,.ref e⟩,⟨PyData.keyHash p "add",.str "add" t5,.ref f⟩]
theorem K9 {dD b d c f g:Addr}{t1 i t3 t4 t5:Tok}{j:Nat}(ns:(dD == sysModules)=false)(l:K.lookup dD=some ⟨.type "dict",none,.dict (dEs w.params b d c f g t1 i t3 t4 t5) j,#[]⟩):R0 P w K dD (dKV b d c f g):=by
 refine⟨ns,λh X=>⟨[(.inr "turn",.ref b),(.inr "left",.ref d),(.inr "right",.ref c),(.inr "drop",.ref f),(.inr "add",.ref g)],?_,?_⟩⟩
 ·exact .cons ⟨rfl,rfl⟩ (.cons ⟨rfl,rfl⟩ (.cons ⟨rfl,rfl⟩ (.cons ⟨rfl,rfl⟩ (.cons ⟨rfl,rfl⟩ .nil))))
 ·have ks:∀(x:Str) (t:Tok),(bU P w).is (.inr x) (.str x t)=true:=λx t=>pX x t;refine⟨_,_,_,X _ _ l,⟨rfl,rfl,rfl⟩,rfl,?_,.cons (ks _ _) rfl (.cons (ks _ _) rfl (.cons (ks _ _) rfl (.cons (ks _ _) rfl (.cons (ks _ _) rfl .nil)))),?_⟩
  ·intro e a;have a:e∈(dEs w.params b d c f g t1 i t3 t4 t5).toList:=Array.mem_toList_iff.mpr a;simp only[dEs,cp,List.not_mem_nil,or_false]at a;rcases a with rfl|rfl|rfl|rfl|rfl <;> exact⟨_,ks _ _,rfl⟩
  ·show([.inr "turn",.inr "left",.inr "right",.inr "drop",.inr "add"]:List dQ).Nodup;decide +kernel
theorem vV {dD b d c e g:Addr}:∀k∈kinds,∃f,valV (dKV b d c e g) (.inr k)=some (.ref f):=by intro k a;simp only[kinds,cp,List.not_mem_nil,or_false]at a;rcases a with rfl|rfl|rfl|rfl|rfl <;> exact⟨_,rfl⟩
theorem zR {x:Str}{k:Nat}{f:Addr}{a:Sp}(O:d8 P w K mg base bH k x a)(e:mg x=some (.ref f)):yW P w K mg base bH k f a:=by obtain⟨f',g,ps,F,b,c,d⟩:=O;rw[b]at e;cases e;exact⟨g,ps,F,c,d⟩
theorem K8 {c e d g h:Addr}(q:yW P w K mg base bH 2 c (iS "turn"))(o:yW P w K mg base bH 2 e (iS "left"))(m:yW P w K mg base bH 2 d (iS "right"))(l:yW P w K mg base bH 2 g (iS "drop"))(j:yW P w K mg base bH 2 h (iS "add")):∀f b,SX (dKV c e d g h) f b->yW P w K mg base bH 2 f b:=by
 rintro f b ⟨k,i,a,rfl⟩;simp only[kinds,cp,List.not_mem_nil,or_false]at i;rcases i with rfl|rfl|rfl|rfl|rfl
 ·cases (show V.ref c = .ref f from Option.some.inj a);exact q
 ·cases (show V.ref e = .ref f from Option.some.inj a);exact o
 ·cases (show V.ref d = .ref f from Option.some.inj a);exact m
 ·cases (show V.ref g = .ref f from Option.some.inj a);exact l
 ·cases (show V.ref h = .ref f from Option.some.inj a);exact j
end
end Lw
namespace Lw
open PySem PySem.Spec PyProof.Rows PySem.W L2
theorem tK {K:Frag}{h:Heap}{x:Str}{c Pt:Addr}(X:K.In h)(a:tabIn K x=some (c,Pt))(C:CodeHd h c Pt):∀h',K.In h'->CodeHd h' c Pt:=by
 have b:∃o,K.lookup c=some o:=by
  unfold tabIn at a;split at a
  ·split at a
   ·split at a
    ·split at a
     ·rename_i v _ _ _ _ _ q;split at a
      ·cases a;exact⟨_,q⟩
      ·cases a
     ·cases a
    ·cases a
   ·cases a
  ·cases a
 obtain⟨o,b⟩:=b;obtain⟨u,vs,r1,m,l,j,i,g,f,e,r⟩:=C;intro h' s;have d:=X _ _ b;rw[e]at d;cases d;exact⟨_,vs,r1,m,l,j,i,g,f,s _ _ b,r⟩
theorem C3 {P:Program}{w:World}{K:Frag}{mg W:iH}{k:Nat}{fa a c Pt c2 Pp:Addr}{fd:FuncData}{x:Str}{sp:Sp}{f:Shared}{vs:cC}{ns:List Int}
  (KX:K.In f.heap) (N:f.heap.Ns mainGlobals mg) (g:f.heap.Ns builtinsNs W) (Y:∀x:Str,x≠"__name__"->W x=bootBuiltins x) (O:f.heap.NoLimit) (hg:f.gens = #[])
  (G:f.heap.get? a=some {cls:=.type "list",data:=.seq vs.toArray}) (hi:IntsAre vs ns) (hl:ns.length<=sizeLine) (hr:d5 k callerA)
  (hT:CodeHd f.heap c Pt) (hP:f.heap.get? Pt=some (tabObj #[])) (hKP:K.lookup Pt=none) (Z:CodeHd f.heap c2 Pp) (hP2:f.heap.get? Pp=some (tabObj #[])) (hKP2:K.lookup Pp=none) (hB:Bm mg f.heap)
  (F:∀base:Heap,K.In base->base.Ns mainGlobals mg->Bm mg base->bN P w K mg base bH k fa fd [x] sp) (E:∀(s:Shared) (u:Value),BindsTo s fd ⟨[u],[]⟩ [(x,u)])
  (X:∀H:Hp,H Pt=some (.tbl #[])->H Pp=some (.tbl #[])->eK K H a (ns.map V.int)->sp [.ref a] H (λv _=>v = .bl true) λ_ _ _=>False) :
  codeAny (model P w) callerA (.call (.ref fa) ⟨[.ref a],[]⟩) (λr l=>r = .ok (.ret (.bool true))/\OldK f.heap l.heap/\l.os=f.os/\AllBare l.gens) f:=by
 have rv:=uY hi;have lenV:=hi.length;have i:∀b,(b=Pt∨b=Pp)->f.heap.get? b=some (tabObj #[]):=λb h=>by rcases h with rfl|rfl <;> assumption
 have L:∀b,(b=Pt∨b=Pp)->K.lookup b=none:=λb h=>by rcases h with rfl|rfl <;> assumption
 have J:¬(a=Pt∨a=Pp):=λz=>by have:=i a z;rw[G]at this;cases this
 have C:∀H:Hp,(∀b,(b=Pt∨b=Pp)->H b=some (.tbl #[]))->(∀b,¬(b=Pt∨b=Pp)->H b≠none->b=a/\K.lookup a=none/\∃o xs,H a=some (.frz o (.lst xs)))->eK K H a (ns.map V.int)->gQ P w H f.heap ->
   codeAny (model P w) callerA (.call (.ref fa) ⟨[.ref a],[]⟩) (λr l=>r = .ok (.ret (.bool true))/\OldK f.heap l.heap/\l.os=f.os/\AllBare l.gens) f:=by
  intro H hH hA hS hok;have free:∀{b:Addr} {o:Obj},f.heap.get? b=some o->o≠tabObj #[]->(b=a->K.lookup a=none->False)->H b=none:=λ{b o} e n n2=>by
   cases q:H b with
   | none=>rfl
   | some u =>
    by_cases z:b=Pt∨b=Pp
    ·rw[i b z]at e;exact absurd (Option.some.inj e).symm n
    ·obtain⟨U,I,_⟩:=hA b z (by rw[q];simp);exact(n2 U I).elim
  have A:∀{b:Addr} {m:iH},f.heap.Ns b m->(hidT f.heap H).Ns b m:=λ{b m} ⟨o,es,ep,e,d,r⟩=>⟨o,es,ep,tE e (free e (λz=>by rw[z]at d;cases d) (λz _=>by rw[z,G]at e;cases e;cases d)),d,r⟩
  have Q:K.In (hidT f.heap H):=λb o e=>tE (KX b o e) (by
   cases q:H b with
   | none=>rfl
   | some u =>
    by_cases z:b=Pt∨b=Pp
    ·rw[L b z]at e;cases e
    ·obtain⟨U,I,_⟩:=hA b z (by rw[q];simp)
     rw[U,I]at e;cases e)
  have hM:Mod K mg (hidT f.heap H):=⟨Q,A N,⟨W,A g,Y⟩,let⟨mc,h1,h2⟩:=O;⟨mc,A h1,h2⟩⟩
  have hB':Bm mg (hidT f.heap H):=by obtain⟨bm,o,T,e2,e3,S,e5,e6,e7⟩:=hB;exact⟨bm,o,T,e2,e3,tE S (free S (λz=>by rw[z]at e5;cases e5) (λz _=>by rw[z,G]at S;cases S;cases e7)),e5,e6,e7⟩
  have e0:uI P w K mg (hidT f.heap H) callerA [] f H:=⟨rfl,hM,λb o e=>M7 e,Nat.le_of_eq (GW _ _),trivial,λb g=>absurd (show b∈([]:List Addr)from g) (by simp),hok,.of_eq hg⟩
  refine codeAny_mono ((F _ Q (A N) hB').run callerA [] f H ⟨[.ref a],[]⟩ [.ref a] [.ref a] _ _ hr e0 (E f (.ref a)) (.cons rfl .nil) (X H (hH Pt (.inl rfl)) (hH Pp (.inr rfl)) hS)) λr l h=>?_;cases r with
  | error e=>exact False.elim h
  | ok fl =>
   cases fl with
   | next=>exact False.elim h
   | brk=>exact False.elim h
   | cont=>exact False.elim h
   | ret u =>
    obtain⟨v,H',os,bare,un,B,r',q⟩:=h;have q':v = .bl true:=q;subst q';obtain rfl:u=Value.bool true:=r';have keep:∀b o,¬(b=Pt∨b=Pp)->f.heap.get? b=some o->l.heap.get? b=some o:=λb o n e=>by
     cases q:H b with
     | none=>exact un.keep b o e q (by intro z;exact absurd (show b∈([]:List Addr)from z) (by simp)) (by simp)
     | some u =>
      obtain⟨rfl,_,ob,xs,z⟩:=hA b n (by rw[q];simp);have I:=un.frzs b ob _ z;obtain⟨T,_⟩:=hok b _ z;obtain⟨e2,_⟩:=B b _ I;rw[e]at T;cases T;exact e2
    have j:∀b,(b=Pt∨b=Pp)->∃more,l.heap.get? b=some (tabObj (#[]++more)):=λb z=>by obtain⟨more,hm⟩:=un.tbls b #[] (hH b z);exact⟨more,B b _ hm⟩
    refine⟨rfl,⟨λb o e=>?_,λb o e=>?_⟩,os,bare⟩
    ·by_cases z:b=Pt∨b=Pp
     ·obtain⟨more,gP⟩:=j b z;rw[i b z]at e;cases e;refine .inr (.inl ⟨?_,rfl,#[],more,rfl,gP⟩);rcases z with rfl|rfl
      ·exact(hT.tab hP).isCodeTable
      ·exact(Z.tab hP2).isCodeTable
     ·exact .inl (keep b o z e)
    ·by_cases z:b=Pt∨b=Pp
     ·obtain⟨more,gP⟩:=j b z;exact⟨_,gP⟩
     ·exact⟨o,keep b o z e⟩
 cases hk:K.lookup a with
 | some o =>
  have e:=KX a o hk;rw[G]at e;cases e;refine C (λb=>if b=Pt∨b=Pp then some (.tbl #[])else none) (λb z=>ai z) (λb n z=>absurd (ab n) z) (.inr ⟨_,vs.toArray,_,hk,rfl,rfl,rfl,by rw[ag,lenV];exact hl,by simpa using rv⟩) λb u z=>?_;by_cases g:b=Pt∨b=Pp
  ·have z':=(ai g).symm.trans z;cases z';exact i b g
  ·have z':=(ab g).symm.trans z;cases z'
 | none =>
  refine C (λb=>if b=Pt∨b=Pp then some (.tbl #[])else if b=a then some (.frz {cls:=.type "list",data:=.seq vs.toArray} (.lst (ns.map V.int)))else none) (λb z=>ai z) (λb n z=>?_) (.inl (.inr ⟨{cls:=.type "list",data:=.seq vs.toArray},(ab J).trans (ai rfl)⟩)) (λb u z=>?_)
  ·by_cases g:b=a
   ·exact⟨g,hk,_,_,(ab J).trans (ai rfl)⟩
   ·exact absurd ((ab n).trans (ab g)) z
  ·by_cases R:b=Pt∨b=Pp
   ·have z':=(ai R).symm.trans z;cases z';exact i b R
   ·by_cases g:b=a
    ·have z':=((ab R).trans (ai g)).symm.trans z;cases z';subst g;exact⟨G,by rw[ae];exact hl,vs,_,rv,G⟩
    ·have z':=((ab R).trans (ab g)).symm.trans z;cases z'
theorem OS {l:PySem.W.OpenLaw}{q:Program}{loose:aV}{XP:(iH)->Heap->Prop}{YP:World->Heap->Prop}{d dp Q:DefRec}{K:Params->PySem.W.Frag}(hn:l.most=some 63)(I:d.params.defaults=[])
  (hY:∀(w:World) (h:Heap),YP w h->(K w.params).In h) (hq:(recsOf q).find? (λe=>e.name == ("put_in" : Str))=some dp) (B:(recsOf q).find? (λe=>e.name == ("paired" : Str))=some Q)
  (F:∀(w:World) (mg:iH) (A:Addr) (h:Heap),(K w.params).In h->h.Ns mainGlobals mg->mg d.name=some (.ref A) ->
   ∃(O:FuncData) (c Pt R Pp:Addr),tabIn (K w.params) "put_in" = some (c,Pt)/\(K w.params).lookup Pt=none/\tabIn (K w.params) "paired" = some (R,Pp)/\(K w.params).lookup Pp=none/\Pt≠Pp/\(∀(s:Shared) (u:Value),BindsTo s O ⟨[u],[]⟩ [("_law_script",u)]) /\
    ∀base:Heap,(K w.params).In base->base.Ns mainGlobals mg->Bm mg base->(∀h,(K w.params).In h->CodeHd h c Pt)->(∀h,(K w.params).In h->CodeHd h R Pp)->bN l.prog w (K w.params) mg base bH 65 A O ["_law_script"] (w6 (K w.params) Pt Pp)) :
  PySem.W.WalkO q loose XP YP l.row.toRowW d [] (λf vs=>PySem.call f vs):=by
 refine Att.A7 hn I λw s0 s1 mg mb A o pm cd doc a vs ns G Y ho hd hcd E r j i hg=>?_;have KX:=hY w _ Y;obtain⟨O,c,Pt,R,Pp,S,L,m,v,C,hb,hF⟩:=F w mg A _ KX G.T.g E;obtain⟨U,hP⟩:=tab_of G.T KX hq S;obtain⟨x,J⟩:=tab_of G.T KX B m;have hB:Bm mg s1.heap:=by obtain⟨bm,ob,e1,e2,P,e4,e5,Z⟩:=G.T.bmain;refine⟨bm,ob,e1,e2,λz=>?_,P,e4,e5,Z⟩;obtain⟨o',es,ep,g1,X,_⟩:=G.T.g;rw[z,g1]at P;cases P;rw[Z]at X;cases X
 exact C3 KX G.T.g G.T.b G.T.builtins G.T.nolimit hg r j (al i (by decide)) ⟨rfl,by decide,by decide⟩ U hP L x J v hB (λbase kb nb bb=>hF base kb nb bb (tK KX S U) (tK KX m x)) hb
  λH hH N hS=>⟨a,ns,rfl,hS,i,⟨.inl hH,.inl N,C⟩,λ_=>rfl⟩
theorem lenS {n:Nat}{us:cC}{P:cC->Prop}(h:us.length=n+1)(k:∀a t,t.length=n->P (a::t)):P us:=by
 cases us
 ·cases h
 ·exact k _ _ (Nat.succ.inj h)
theorem len1 {us:cC}{P:cC->Prop}(h:us.length=1)(k:∀a,P [a]):P us:=lenS h λa t h=>by cases t;exact k a;cases h
theorem len2 {us:cC}{P:cC->Prop}(h:us.length=2)(k:∀a b,P [a,b]):P us:=lenS h λa _ h=>len1 (P:=λt=>P (a::t)) h (k a)
theorem len3 {us:cC}{P:cC->Prop}(h:us.length=3)(k:∀a b c,P [a,b,c]):P us:=lenS h λa _ h=>len2 (P:=λt=>P (a::t)) h (k a)
theorem len4 {us:cC}{P:cC->Prop}(h:us.length=4)(k:∀a b c d,P [a,b,c,d]):P us:=lenS h λa _ h=>len3 (P:=λt=>P (a::t)) h (k a)
def bJ (K:PySem.W.Frag)(x:Str)(st:Stmt)(f:Addr):Prop:=(nsIn K mainGlobals x=some (some (.ref f))/\keepIn K (.ref f)=true)/\∃d od kV e c g a ct b,K.lookup f=some ⟨d,od,.func (PySem.W.fnOf x x (cT st) (cH st) (aJ st) .none kV e c g a ct),b⟩/\codeIn K a x=true
theorem bJ.mk {K:PySem.W.Frag}{x:Str}{st:Stmt}{f:Addr}{h kV i g d ct:Value}{od j:Option Addr}{e:Array (Option Value)}(a:nsIn K mainGlobals x=some (some (.ref f)))(b:keepIn K (.ref f)=true)(l:K.lookup f=some ⟨h,od,.func (PySem.W.fnOf x x (cT st) (cH st) (aJ st) .none kV i g j d ct),e⟩)(c:codeIn K d x=true):bJ K x st f:=⟨⟨a,b⟩,_,_,_,_,_,_,_,_,_,l,c⟩
theorem bJ.use {K:PySem.W.Frag}{x:Str}{st:Stmt}{f:Addr}{h:Heap}{mg:iH}{ps:aV}{R:Prop}(a:bJ K x st f)(X:K.In h)(G:h.Ns mainGlobals mg)(ok:∀d,fY K x x st f d->mg x=some (.ref f)->keepIn K (.ref f)=true->eY K d ps []->R)(g:∀(kV b e:Value) (an:Option Addr) (cdv ct:Value) (us:cC),us.length=ps.length->bindArgs (PySem.W.fnOf x x (cT st) (cH st) (aJ st) .none kV b e an cdv ct) ⟨us,[]⟩=pure (ps.zip us)):R:=by obtain⟨⟨a,k⟩,_,_,_,_,_,_,_,_,_,l,c⟩:=a;exact ok _ (lQ l c k) (cy X G a) k ((lQ l c k).binds g)
theorem bJ.own {K:PySem.W.Frag}{x:Str}{st:Stmt}{f:Addr}{h base:Heap}{mg:iH}{ps:aV}{P:Program}{w:World}{CX:BO}{k:Nat}{d:Sp}(a:bJ K x st f)(X:K.In h)(G:h.Ns mainGlobals mg)(ok:∀e,fY K x x st f e->bN P w K mg base CX k f e ps d)(i:∀(kV c g:Value) (an:Option Addr) (cdv ct:Value) (us:cC),us.length=ps.length->bindArgs (PySem.W.fnOf x x (cT st) (cH st) (aJ st) .none kV c g an cdv ct) ⟨us,[]⟩=pure (ps.zip us)):d8 P w K mg base CX k x d:=a.use X G (λ_ F m k b=>⟨_,_,_,ok _ F,m,k,b⟩) i
theorem QR {l:PySem.W.OpenLaw}{w:World}{K:PySem.W.Frag}{h:Heap}{mg:iH}{fa C cc Pt cc2 Pp f1 f2 f3 f4 f5 f6 f7 f8 f9 f10 f11 f12 f13 f14 f15 f16 f17 f18 f19 f20 f21 f22 f23 f24 f25 f26 f27 f28 f29 f30 f31 f32 f33 f34 f35 f36 f37 f38 f39 f40 f41 f42 f43 f44 f45 f46 f47 f48 f49 f50:Addr}(X:K.In h)(G:h.Ns mainGlobals mg)(hfa:mg "law" = some (.ref fa))
  {od7 an7 od8 an8 od19 an19 od29 an29 od31 an31:Option Addr} {sl7 sl8 sl19 sl29 sl31:Array (Option Value)} {oc7 kV7 dc7 pm7 ct7 cd7 oc8 kV8 dc8 pm8 ct8 cd8 oc19 kV19 dc19 pm19 ct19 oc29 kV29 dc29 pm29 ct29 cd29 oc31 kV31 dc31 pm31 ct31:Value} {tk0 tk1 tk2 tk3 tk4 tk5 tk6 tk7:Tok} {odq odr:Option Addr} {ocq ocr:Value} {vq vr:gN} {slq slr:Array (Option Value)}
  {dD:Addr} {u1 u2 u3 u4 u5:Tok} {epD:Nat}
  (m0:nsIn K mainGlobals "Signs" = some (some (.ref C)))
  (a1:bJ K "_law_from" jI f1)
  (a2:bJ K "_law_take" jD f2)
  (a3:bJ K "_law_signs" eA f3)
  (a4:bJ K "_law_leaf" jH f4)
  (a5:bJ K "_law_head" iA f5)
  (a6:bJ K "_law_term" fP f6)
  (a7:findIn K (.ref C) "many" = some (some (.ref f7)))
  (l7:K.lookup f7=some ⟨oc7,od7,.func (PySem.W.fnOf "many" "Signs.many" (cT eB) (cH eB) (aJ eB) .none kV7 dc7 pm7 an7 cd7 ct7),sl7⟩)
  (c7:codeIn K cd7 "Signs.many" = true)
  (k7:keepIn K (.ref f7)=true)
  (n7:isFn K (.ref f7)=true)
  (a8:findIn K (.ref C) "nought" = some (some (.ref f8)))
  (l8:K.lookup f8=some ⟨oc8,od8,.func (PySem.W.fnOf "nought" "Signs.nought" (cT dA) (cH dA) (aJ dA) .none kV8 dc8 pm8 an8 cd8 ct8),sl8⟩)
  (c8:codeIn K cd8 "Signs.nought" = true)
  (k8:keepIn K (.ref f8)=true)
  (n8:isFn K (.ref f8)=true)
  (a9:bJ K "is_wish" j4 f9)
  (a10:bJ K "is_built" kF f10)
  (a11:bJ K "check_term" gB f11)
  (a12:bJ K "walked" oC f12)
  (a13:bJ K "order_mark" iK f13)
  (a14:bJ K "order_key" h9 f14)
  (a15:bJ K "opened" oF f15)
  (a16:bJ K "flat_sum" kH f16)
  (a17:bJ K "flat_of_parts" fJ f17)
  (a18:bJ K "from_within" dJ f18)
  (a19:nsIn K mainGlobals "put_in" = some (some (.ref f19)))
  (l19:K.lookup f19=some ⟨oc19,od19,.func (PySem.W.fnOf "put_in" "put_in" (cT cX) (cH cX) (aJ cX) .none kV19 dc19 pm19 an19 (.ref cc) ct19),sl19⟩)
  (c19:codeIn K (.ref cc) "put_in" = true)
  (k19:keepIn K (.ref f19)=true)
  (t2:K.lookup cc=some ⟨ocq,odq,.fields vq,slq⟩)
  (t3:vq[11]?=some (.ref Pt))
  (t0:tabIn K "put_in" = some (cc,Pt))
  (t1:K.lookup Pt=none)
  (a20:bJ K "flat" xC f20)
  (a21:bJ K "flat_key" kJ f21)
  (a22:bJ K "alike" rK f22)
  (a23:bJ K "is_name" j5 f23)
  (a24:bJ K "is_whole" kE f24)
  (a25:bJ K "checked_pairs" eD f25)
  (a26:bJ K "check_names" eG f26)
  (a27:bJ K "check_parts" eZ f27)
  (a28:bJ K "check_noughts" eE f28)
  (a29:findIn K (.ref C) "__init__" = some (some (.ref f29)))
  (l29:K.lookup f29=some ⟨oc29,od29,.func (PySem.W.fnOf "__init__" "Signs.__init__" (cT cJ) (cH cJ) (aJ cJ) .none kV29 dc29 pm29 an29 cd29 ct29),sl29⟩)
  (c29:codeIn K cd29 "Signs.__init__" = true)
  (k29:keepIn K (.ref f29)=true)
  (n29:isFn K (.ref f29)=true)
  (a30:bJ K "in_pairs" kG f30)
  (a31:nsIn K mainGlobals "paired" = some (some (.ref f31)))
  (l31:K.lookup f31=some ⟨oc31,od31,.func (PySem.W.fnOf "paired" "paired" (cT cY) (cH cY) (aJ cY) .none kV31 dc31 pm31 an31 (.ref cc2) ct31),sl31⟩)
  (c31:codeIn K (.ref cc2) "paired" = true)
  (k31:keepIn K (.ref f31)=true)
  (t6:K.lookup cc2=some ⟨ocr,odr,.fields vr,slr⟩)
  (t7:vr[11]?=some (.ref Pp))
  (t4:tabIn K "paired" = some (cc2,Pp))
  (t5:K.lookup Pp=none)
  (t8:(Pt == Pp)=false)
  (a32:bJ K "_law_paired" dL f32)
  (a33:bJ K "_law_listed" dM f33)
  (a34:bJ K "is_sum" oG f34)
  (a35:bJ K "turned" oE f35)
  (a36:bJ K "leftward" kD f36)
  (a37:bJ K "rightward" jC f37)
  (a38:bJ K "dropped" mG f38)
  (a39:bJ K "added" rL f39)
  (a40:bJ K "check_step" gC f40)
  (a41:bJ K "way_to" oB f41)
  (a42:bJ K "done" xD f42)
  (a43:bJ K "_law_is" mH f43)
  (a44:bJ K "_law_changed" gF f44)
  (a45:bJ K "_law_stepped" gE f45)
  (a46:bJ K "_law_places" hU f46)
  (a47:bJ K "_law_some" jF f47)
  (a48:bJ K "_law_part" jG f48)
  (a49:bJ K "_law_step" jE f49)
  (a50:bJ K "law" qC f50)
  (g1:plainGet K C Str.empty=true)
  (g2:hasDictIn K C=true)
  (g3:plainOver K C=true)
  (g4:findIn K (.ref C) "__setattr__" = some (some (.builtin "object.__setattr__")))
  (h0:findIn K (.ref C) "fixed_rows" = some none)
  (h1:findIn K (.ref C) "sum_rows" = some none)
  (h2:findIn K (.ref C) "many_by_name" = some none)
  (h3:findIn K (.ref C) "nought_by_name" = some none)
  (g5:makesIn K C=true)
  (g6:keepIn K (.ref C)=true)
  (v0:nsIn K mainGlobals "WISH_SIGNS" = some (some (.str "abcdefghijklmnopqrstuvwxyz0123456789" tk0)))
  (v1:nsIn K mainGlobals "LETTERS" = some (some (.str "abcdefghijklmnopqrstuvwxyz" tk1)))
  (v2:nsIn K mainGlobals "LONGEST_WISH" = some (some (.int 9 tk2)))
  (v3:nsIn K mainGlobals "DEEPEST" = some (some (.int 1000 tk3)))
  (v4:nsIn K mainGlobals "LONGEST_NAME" = some (some (.int 6 tk4)))
  (v5:nsIn K mainGlobals "MOST_FIXED" = some (some (.int 12 tk5)))
  (v6:nsIn K mainGlobals "MOST_SUMS" = some (some (.int 3 tk6)))
  (v7:nsIn K mainGlobals "MOST_PARTS" = some (some (.int 3 tk7)))
  (y0:(dD == sysModules)=false)
  (w0:nsIn K mainGlobals "DEEDS" = some (some (.ref dD)))
  (w1:K.lookup dD=some ⟨.type "dict",none,.dict (dEs w.params f35 f36 f37 f38 f39 u1 u2 u3 u4 u5) epD,#[]⟩)
  (zx0:nsIn K mainGlobals "enumerate" = some none)
  (z0:nsIn K mainGlobals "len" = some none)
  (z1:nsIn K mainGlobals "range" = some none)
  (z2:nsIn K mainGlobals "int" = some none)
  (z3:nsIn K mainGlobals "abs" = some none)
  (z4:nsIn K mainGlobals "min" = some none)
  (z5:nsIn K mainGlobals "max" = some none)
  (z6:nsIn K mainGlobals "tuple" = some none)
  (z7:nsIn K mainGlobals "list" = some none)
  (z8:nsIn K mainGlobals "dict" = some none)
  (z9:nsIn K mainGlobals "set" = some none)
  (z10:nsIn K mainGlobals "isinstance" = some none)
  (z11:nsIn K mainGlobals "str" = some none)
  (z12:nsIn K mainGlobals "bool" = some none)
  (z13:nsIn K mainGlobals "sorted" = some none)
  (z14:nsIn K mainGlobals "reversed" = some none)
  (z15:nsIn K mainGlobals "all" = some none)
  (z16:nsIn K mainGlobals "any" = some none)
  (z17:nsIn K mainGlobals "zip" = some none)
  (z18:nsIn K mainGlobals "repr" = some none)
  : ∃(fd:FuncData) (c Pt c2 Pp:Addr),tabIn K "put_in" = some (c,Pt)/\K.lookup Pt=none/\tabIn K "paired" = some (c2,Pp)/\K.lookup Pp=none/\Pt≠Pp/\(∀(s:Shared) (v:Value),BindsTo s fd ⟨[v],[]⟩ [("_law_script",v)]) /\
   ∀base:Heap,K.In base->base.Ns mainGlobals mg->Bm mg base->(∀h,K.In h->CodeHd h c Pt)->(∀h,K.In h->CodeHd h c2 Pp)->bN l.prog w K mg base bH 65 fa fd ["_law_script"] (w6 K Pt Pp):=by
 obtain⟨⟨a50,k50⟩,_,_,kV50,dc50,pm50,an50,cd50,ct50,_,l50,c50⟩:=a50;have e:=hfa.symm.trans (cy X G a50);cases e;have T:Txt mg:=⟨cz X G z0,cz X G z1,cz X G z2,cz X G z3,cz X G z4,cz X G z5,cz X G z6,cz X G z7,cz X G z8,cz X G z9,cz X G z10,cz X G z11,cz X G z12,cz X G z13,cz X G z14,cz X G z15,cz X G z16,cz X G z17,cz X G z18,⟨_,cy X G v0,⟨_,rfl⟩⟩,⟨_,cy X G v1,⟨_,rfl⟩⟩,⟨_,cy X G v2,⟨_,rfl⟩⟩,⟨_,cy X G v3,⟨_,rfl⟩⟩,⟨_,cy X G v4,⟨_,rfl⟩⟩,⟨_,cy X G v5,⟨_,rfl⟩⟩,⟨_,cy X G v6,⟨_,rfl⟩⟩,⟨_,cy X G v7,⟨_,rfl⟩⟩⟩
 have hns:=y0;have U:=cz X G zx0;have hG:∃u,mg "DEEDS" = some u/\aU (.ref dD) u:=⟨_,cy X G w0,rfl⟩
 have hKD:=K9 (P:=l.prog) (w:=w) hns w1;have cl:HG K C:=⟨g1,g2,g3,g4⟩
 have co:OP K C:=⟨cl,h0,h1,h2,h3⟩
 have F7:=lQ (st:=eB) l7 c7 k7;have b7:=F7.binds (ps:=kQ) λ_ _ _ _ _ _ us a=>by apply len2 a;intros;rfl
 have F8:=lQ (st:=dA) l8 c8 k8;have b8:=F8.binds (ps:=i0) λ_ _ _ _ _ _ us a=>by apply len2 a;intros;rfl
 have F19:=lQ (st:=cX) l19 c19 k19;have b19:=F19.binds (ps:=tU) λ_ _ _ _ _ _ us a=>by apply len3 a;intros;rfl
 have F29:=lQ (st:=cJ) l29 c29 k29;have b29:=F29.binds (ps:=gW) λ_ _ _ _ _ _ us a=>by apply len3 a;intros;rfl
 have SN:=lQ (st:=cY) l31 c31 k31;have b31:=SN.binds (ps:=tV) λ_ _ _ _ _ _ us a=>by apply len2 a;intros;rfl
 have F50:=lQ (st:=qC) l50 c50 k50;refine⟨PySem.W.fnOf "law" "law" (cT qC) (cH qC) (aJ qC) .none kV50 dc50 pm50 an50 cd50 ct50,cc,Pt,cc2,Pp,t0,t1,t4,t5,(λz=>by rw[z]at t8;simp at t8),λs v=>.of_eq rfl,λbase _ _ hB hC hC2=>?_⟩;have O__law_from:=a1.own (base:=base) (P:=l.prog) (w:=w) X G (λ_ F=>M4 F T) (λ_ _ _ _ _ _ _ a=>by apply len1 a;intros;rfl);have g:=a2.own (base:=base) (P:=l.prog) (w:=w) X G (λ_ F=>MV F T) (λ_ _ _ _ _ _ _ a=>by apply len2 a;intros;rfl);have O__law_signs:=a3.own X G (λ_ F=>JT F T g) (λ_ _ _ _ _ _ _ a=>by apply len1 a;intros;rfl);have O__law_leaf:=a4.own X G (λ_ F=>MZ F T g) (λ_ _ _ _ _ _ _ a=>by apply len2 a;intros;rfl);have O__law_head:=a5.own X G (λ_ F=>M3 F T g) (λ_ _ _ _ _ _ _ a=>by apply len3 a;intros;rfl);have O__law_term:=a6.use X G (λ_ F m k b=>JI F T g O__law_leaf O__law_head m k b 11) (λ_ _ _ _ _ _ _ a=>by apply len4 a;intros;rfl);have O_Signs_many:yV l.prog w K mg base bH 1 C "many" (BZ K C):=⟨f7,_,_,MY F7 T,⟨a7,n7,k7⟩,b7,cl⟩
 have d:yV l.prog w K mg base bH 1 C "nought" (iR K C):=⟨f8,_,_,GK F8 T,⟨a8,n8,k8⟩,b8,cl⟩
 have O_is_wish:=a9.own (base:=base) (P:=l.prog) (w:=w) X G (λ_ F=>MT F T) (λ_ _ _ _ _ _ _ a=>by apply len1 a;intros;rfl);have O_is_built:=a10.own X G (λ_ F=>J5 F T O_is_wish O_Signs_many d) (λ_ _ _ _ _ _ _ a=>by apply len2 a;intros;rfl);have o:=a11.own X G (λ_ F=>J4 F T O_is_built) (λ_ _ _ _ _ _ _ a=>by apply len2 a;intros;rfl);have x:=a12.own (base:=base) (P:=l.prog) (w:=w) X G (λ_ F=>GG F T) (λ_ _ _ _ _ _ _ a=>by apply len1 a;intros;rfl);have Y:=a13.own (base:=base) (P:=l.prog) (w:=w) X G (λ_ F=>MX F T) (λ_ _ _ _ _ _ _ a=>by apply len1 a;intros;rfl);have q:=a14.own X G (λ_ F=>P4 F T Y x) (λ_ _ _ _ _ _ _ a=>by apply len1 a;intros;rfl);have O_opened:=a15.own (base:=base) (P:=l.prog) (w:=w) X G (λ_ F=>CL F T) (λ_ _ _ _ _ _ _ a=>by apply len2 a;intros;rfl);have O_flat_sum:=a16.own X G (λ_ F=>CO F T O_opened q) (λ_ _ _ _ _ _ _ a=>by apply len3 a;intros;rfl);have A:=a17.own X G (λ_ F=>CM F T d O_flat_sum) (λ_ _ _ _ _ _ _ a=>by apply len3 a;intros;rfl);have L:=a18.own X G (λ_ F=>RK F T x A) (λ_ _ _ _ _ _ _ a=>by apply len3 a;intros;rfl);have O_put_in:d8 l.prog w K mg base bH 9 "put_in" (w5 K C Pt):=⟨f19,_,_,JU l19 c19 hC hB L,cy X G a19,k19,b19⟩
 have O_flat:=a20.own X G (λ_ F=>J3 F T o O_put_in) (λ_ _ _ _ _ _ _ a=>by apply len2 a;intros;rfl);have O_flat_key:=a21.own X G (λ_ F=>M5 F T O_flat q) (λ_ _ _ _ _ _ _ a=>by apply len2 a;intros;rfl);have O_alike:=a22.own X G (λ_ F=>J6 F T O_flat_key) (λ_ _ _ _ _ _ _ a=>by apply len3 a;intros;rfl);have O_is_name:=a23.own (base:=base) (P:=l.prog) (w:=w) X G (λ_ F=>MW F T) (λ_ _ _ _ _ _ _ a=>by apply len1 a;intros;rfl);have H:=a24.own (base:=base) (P:=l.prog) (w:=w) X G (λ_ F=>JQ F T) (λ_ _ _ _ _ _ _ a=>by apply len1 a;intros;rfl);have B:=a25.own (base:=base) (P:=l.prog) (w:=w) X G (λ_ F=>JW F T) (λ_ _ _ _ _ _ _ a=>by apply len3 a;intros;rfl);have O:=a26.own X G (λ_ F=>GL F T O_is_name) (λ_ _ _ _ _ _ _ a=>by apply len1 a;intros;rfl);have N:=a27.own X G (λ_ F=>JV F T H) (λ_ _ _ _ _ _ _ a=>by apply len1 a;intros;rfl);have E:=a28.own (base:=base) (P:=l.prog) (w:=w) X G (λ_ F=>zS F T) (λ_ _ _ _ _ _ _ a=>by apply len2 a;intros;rfl);have r:QY l.prog w K mg base bH 3 "Signs" C (B0 K C):=⟨f29,_,_,M0 F29 T co B O N E,cy X G m0,⟨g5,a29,n29,g6⟩,b29⟩
 have O_in_pairs:=a30.own X G (λ_ F=>CN F T d) (λ_ _ _ _ _ _ _ a=>by apply len3 a;intros;rfl);have I:=a18.own X G (λ_ F=>P5 F T x O_in_pairs) (λ_ _ _ _ _ _ _ a=>by apply len3 a;intros;rfl);have O_paired:d8 l.prog w K mg base bH 9 "paired" (nY K C Pp):=⟨f31,_,_,GJ l31 c31 hC2 hB o I,cy X G a31,k31,b31⟩
 have R:=a32.use X G (λ_ F m k b=>GC (base:=base) (P:=l.prog) (w:=w) F T m k b 11) (λ_ _ _ _ _ _ _ a=>by apply len2 a;intros;rfl);have S:=a33.use X G (λ_ F m k b=>CG (base:=base) (P:=l.prog) (w:=w) F T m k b 62) (λ_ _ _ _ _ _ _ a=>by apply len1 a;intros;rfl);have j:=a34.own (base:=base) (P:=l.prog) (w:=w) X G (λ_ F=>J1 F T) (λ_ _ _ _ _ _ _ a=>by apply len2 a;intros;rfl);have O_turned:=a35.own X G (λ_ F=>GH F T j) (λ_ _ _ _ _ _ _ a=>by apply len3 a;intros;rfl);have O_leftward:=a36.own X G (λ_ F=>zT F T j) (λ_ _ _ _ _ _ _ a=>by apply len3 a;intros;rfl);have O_rightward:=a37.own X G (λ_ F=>xO F T j) (λ_ _ _ _ _ _ _ a=>by apply len3 a;intros;rfl);have O_dropped:=a38.own X G (λ_ F=>CP F T j) (λ_ _ _ _ _ _ _ a=>by apply len3 a;intros;rfl);have O_added:=a39.own (base:=base) (P:=l.prog) (w:=w) X G (λ_ F=>J7 F T) (λ_ _ _ _ _ _ _ a=>by apply len3 a;intros;rfl);have Z:=a40.own X G (λ_ F=>JS F T hG hKD (λk hk=>by obtain⟨f,e⟩:=vV (dD:=dD) k hk;rw[e];rfl) d H) (λ_ _ _ _ _ _ _ a=>by apply len2 a;intros;rfl);have O_way_to:=a41.own (base:=base) (P:=l.prog) (w:=w) X G (λ_ F=>JR F T) (λ_ _ _ _ _ _ _ a=>by apply len2 a;intros;rfl);have O_done:=a42.own X G (λ_ F=>M6 F T hG hKD (vV (dD:=dD)) (K8 (zR O_turned (cy X G a35.1.1)) (zR O_leftward (cy X G a36.1.1)) (zR O_rightward (cy X G a37.1.1)) (zR O_dropped (cy X G a38.1.1)) (zR O_added (cy X G a39.1.1))) d O_paired Z O_way_to) (λ_ _ _ _ _ _ _ a=>by apply len3 a;intros;rfl);have O__law_is:=a43.own (base:=base) (P:=l.prog) (w:=w) X G (λ_ F=>P1 F T) (λ_ _ _ _ _ _ _ a=>by apply len2 a;intros;rfl);have i:=a44.own X G (λ_ F=>P2 F T O__law_is) (λ_ _ _ _ _ _ _ a=>by apply len4 a;intros;rfl);have J:=a45.own X G (λ_ F=>CK F T i) (λ_ _ _ _ _ _ _ a=>by apply len3 a;intros;rfl);have Q:=a46.own (base:=base) (P:=l.prog) (w:=w) X G (λ_ F=>GI F T U) (λ_ _ _ _ _ _ _ a=>by apply len1 a;intros;rfl);have O__law_some:=a47.own X G (λ_ F=>JY F T i) (λ_ _ _ _ _ _ _ a=>by apply len3 a;intros;rfl);have O__law_part:=a48.own (base:=base) (P:=l.prog) (w:=w) X G (λ_ F=>JZ F T) (λ_ _ _ _ _ _ _ a=>by apply len2 a;intros;rfl);have O__law_step:=a49.own X G (λ_ F=>JX F T Q g O__law_some O__law_part) (λ_ _ _ _ _ _ _ a=>by apply len3 a;intros;rfl);exact P3 F50 T O__law_from g O__law_signs r O__law_term R S O_paired O_alike O__law_step J O_done
end Lw
open PySem PySem.W PyProof.Rows
set_option maxRecDepth 100000 in
set_option maxHeartbeats 0 in
theorem PySem.Challenge.cw_likefill_k32_steps_holds : PySem.Challenge.rw_likefill_k32_steps.Holds := by
 obtain⟨d,hdf,hn,k⟩:=Lw.red;refine k ?_
 k_fill
 refine Lw.OS (l:=PySem.Challenge.rw_likefill_k32_steps) rfl hdf (λw h Y=>Y) rfl rfl ?F
 case F =>
  intro w mg fa h KX G hmg;rw[hn]at hmg
  refine' Lw.QR KX G hmg ?_ ?_ ?_ ?_ ?_ ?_ ?_ ?_ ?_ ?_ ?_ ?_ ?_ ?_ ?_ ?_ ?_ ?_ ?_ ?_ ?_ ?_ ?_ ?_ ?_ ?_ ?_ ?_ ?_ ?_ ?_ ?_ ?t3 ?t0 ?t1 ?_ ?_ ?_ ?_ ?_ ?_ ?_ ?_ ?_ ?_ ?_ ?_ ?_ ?_ ?_ ?_ ?_ ?_ ?_ ?_ ?t7 ?t4 ?t5 ?t8 ?_ ?_ ?_ ?_ ?_ ?_ ?_ ?_ ?_ ?_ ?_ ?_ ?_ ?_ ?_ ?_ ?_ ?_ ?_ ?_ ?_ ?_ ?_ ?_ ?_ ?_ ?_ ?_ ?_ ?_ ?_ ?_ ?_ ?_ ?_ ?_ ?_ ?y0 ?_ ?_ ?_ ?_ ?_ ?_ ?_ ?_ ?_ ?_ ?_ ?_ ?_ ?_ ?_ ?_ ?_ ?_ ?_ ?_ ?_ ?_
  all_goals try first|(refine' Lw.bJ.mk ?_ ?_ ?_ ?_ <;> try k_is)|k_is
  (case t3=>rfl);(case t7=>rfl);(case t4=>kernel_rfl);(case t5=>kernel_rfl);(case t8=>kernel_rfl);(case t0=>kernel_rfl);(case t1=>kernel_rfl);all_goals kernel_rfl
end
