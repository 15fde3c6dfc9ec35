import PyProof.Rows.All
import Wide.All
import OpenK.AllK
import Wide.FinOn
import Lean
import PyProof.EqAt
import PyProof.EqKinds
import PyProof.TupleCall
import PyProof.NeKinds
import KE.LcSums
import PyProof.ZipIter
import PyProof.Rows.SumAny
import PyProof.ExcClass3
import PyProof.ExcBaseAll.ValueError
import OpenK.KOwn
import PyProof.EnumFor
import PyProof.EnumMake
import PyProof.TupleIter
import KE.KIsAll
import PyProof.ExcArgsOwn
import PyProof.NsDelKeeps
import KE.KDictOf
import PyProof.AttrMissHeap
import PyProof.AutoSeq1
import KE.KRevIter
import PyProof.TupleOfSeq
import PyProof.CollectIter
import PyProof.TupleOfStr
import PyProof.SliceStr2
import PyProof.StrWalks
import KE.KSortTup
import PyProof.Rows.SetFrom
import PyProof.SetRoads
import PyProof.Rows.SortStr
import PyProof.Walks
import PyProof.CollectWalk
import PyProof.ReprRoads
import PyProof.CallFns
import PyProof.StrCalls2
import PyProof.StrBlock
import KE.KLam
import PySem.Challenge.RW_likefill_k31_paired
set_option Elab.async false
set_option linter.all false
set_option maxRecDepth 100000
set_option compiler.extract_closed false
set_option maxHeartbeats 4000000
open Lean Parser.Term in
local macro_rules
  | `(fun $bs:funBinder* => $b) => do
    let c (x : Syntax) := x.isOfKind ``anonymousCtor
    let some i := bs.findIdx? (c ·.raw) | Macro.throwUnsupported
    let xs := bs[i]!.raw[1].getSepArgs
    let n := xs.size
    if n < 3 || xs.any (fun x => !(x.isIdent || x.isOfKind ``hole || c x) || x.getId == `rfl) then Macro.throwUnsupported
    let mut r := b
    if i + 1 < bs.size then r ← `(fun $(bs.extract (i+1) bs.size)* => $b)
    let mut g : TSyntax ``funBinder := ⟨xs[n-1]!⟩
    for k in [0:n-1] do
      let h := mkIdent (← Macro.addMacroScope (.mkSimple s!"h{k}"))
      r ← `(($h).elim fun $(⟨xs[n-2-k]!⟩) $g => clear% $h; $r)
      g := ⟨h⟩
    `(fun $(bs.extract 0 i)* $g => $r)
abbrev aa:=@PySem.wpAny_bind
abbrev ac:=@if_neg
abbrev ae:=@Nat.le_refl
abbrev af:=@List.length_map
abbrev ag:=@PySem.Heap.get?_push_of_some
abbrev ai:=@List.size_toArray
abbrev aj:=@if_pos
abbrev ak:=@Nat.lt_of_le_of_lt
abbrev al:=@PySem.wpAny_pure
abbrev ao:=@Nat.le_trans
abbrev ap:=@List.length_cons
abbrev aq:=@List.length_append
abbrev ar:=@PySem.Heap.get?_push_size
abbrev au:=@Nat.zero_le
abbrev av:=@List.mem_cons_self
abbrev aw:=@List.getElem?_eq_getElem
abbrev ax:=@List.map_append
abbrev ay:=@List.mem_cons_of_mem
abbrev az:=@PySem.Heap.lt_size
abbrev aS:=@List.map_cons
abbrev ba:=@Nat.lt_of_lt_of_le
abbrev bc:=@PySem.wpAny_loadPart'
abbrev bd:=@decide_eq_true
abbrev bf:=@List.mem_of_getElem?
abbrev bg:=@decide_eq_false
abbrev bh:=@List.append_nil
abbrev bi:=@Nat.ne_of_lt
abbrev bj:=@Array.length_toList
abbrev bn:=@of_decide_eq_true
abbrev bo:=@List.length_take
abbrev bp:=@List.take_length
abbrev bq:=@List.length_drop
abbrev br:=@List.mem_append_right
abbrev bu:=@List.getElem?_map
abbrev bv:=@Nat.add_le_add_left
abbrev bw:=@List.lookup_cons
abbrev bx:=@Nat.lt_irrefl
abbrev bz:=@Bool.eq_iff_iff
abbrev bI:=@PySem.wpAny_newObj_type
abbrev bS:=@List.mem_append_left
abbrev ca:=@PySem.wpAny_holding
abbrev cb:=@List.length_singleton
abbrev cf:=@List.map_map
abbrev cg:=@List.append_assoc
abbrev ci:=@Int.toNat_natCast
abbrev cj:=@List.getElem?_eq_some_iff
abbrev ck:=@List.mem_singleton
abbrev cm:=@List.mem_cons
abbrev cp:=@List.mem_append
abbrev cr:=@List.mem_map
abbrev cs:=@beq_eq_false_iff_ne
abbrev cu:=@List.nodup_cons
abbrev cw:=@List.mem_filter
abbrev cy:=@PySem.W.mg_of
abbrev cz:=@PySem.W.mg_none_of
abbrev da:=@PySem.F.plainAttrs_list
abbrev db:=@PySem.F.type_list_append
abbrev dc:=@PySem.F.slot_list_append
abbrev de:=@PySem.PassesOwn.never
noncomputable abbrev cZ:=List (PySem.Addr×PySem.Obj)
noncomputable abbrev cJ:=PySem.Value->PySem.Shared->Prop
noncomputable abbrev cG:=List (PySem.Str×Int)
noncomputable abbrev bG:=List (PySem.Str×PySem.Str)
noncomputable abbrev bQ:=List PySem.Value
noncomputable abbrev aN:=List PySem.Str
noncomputable abbrev gX:=PySem.Str->Option PySem.Value
noncomputable abbrev mJ:=List PySem.Expr
noncomputable abbrev i8:=Array PySem.Value
noncomputable abbrev N1:=Nat->PySem.Heap->Prop
theorem aI {a b:Prop}(x:a)(y:b):a/\b:=⟨x,y⟩
namespace L2
open PySem
noncomputable def xB (s:Stmt)(j:Nat):Stmt:=match s with
 | .ClassDef _ _ _ body _ _ _ _ _ _ _=>body.getD j (.Pass ⟨0,0,0,0⟩)
 | _=>.Pass ⟨0,0,0,0⟩
noncomputable def cK (s:Stmt):Arguments:=match s with
 | .FunctionDef _ a _ _ _ _ _ _ _ _=>a
 | _=>{posonlyargs:=[],args:=[],vararg:=none,kwonlyargs:=[],kw_defaults:=[],kwarg:=none,defaults:=[]}
noncomputable def bX (s:Stmt):List Stmt:=match s with
 | .FunctionDef _ _ b _ _ _ _ _ _ _=>b
 | _=>[]
noncomputable def aH (s:Stmt):Scope:=match s with
 | .FunctionDef _ _ _ _ _ _ a _ _ _=>a
 | _=>{kind:=.function,names:=[],isGenerator:=false,isCoroutine:=false}
end L2
namespace Lw
open PySem L2
noncomputable def top (i:Nat):Stmt:=PySem.Challenge.pw_likefill_k31_paired.main.body.getD i (.Pass ⟨0,0,0,0⟩)
noncomputable abbrev iP:Stmt:=top 49
noncomputable abbrev dQ:Stmt:=top 50
noncomputable abbrev iQ:Stmt:=top 51
noncomputable abbrev fF:Stmt:=top 53
noncomputable abbrev pT:Stmt:=top 59
noncomputable abbrev hZ:Stmt:=top 22
noncomputable abbrev jS:Stmt:=top 23
noncomputable abbrev fM:Stmt:=top 24
noncomputable abbrev nQ:Stmt:=top 26
noncomputable abbrev gZ:Stmt:=top 27
noncomputable abbrev gJ:Stmt:=top 28
noncomputable abbrev nS:Stmt:=top 29
noncomputable abbrev jU:Stmt:=top 30
noncomputable abbrev fA:Stmt:=top 31
noncomputable abbrev dI:Stmt:=top 32
noncomputable abbrev cT:Stmt:=top 33
noncomputable abbrev wD:Stmt:=top 34
noncomputable abbrev jG:Stmt:=top 12
noncomputable abbrev jR:Stmt:=top 13
noncomputable abbrev dX:Stmt:=top 14
noncomputable abbrev d5:Stmt:=top 15
noncomputable abbrev eW:Stmt:=top 16
noncomputable abbrev dY:Stmt:=top 17
noncomputable abbrev bY:Stmt:=xB (top 11) 0
noncomputable abbrev dR:Stmt:=xB (top 11) 3
noncomputable abbrev dB:Stmt:=xB (top 11) 4
noncomputable abbrev iR:Stmt:=top 48
noncomputable abbrev gK:Stmt:=top 52
noncomputable abbrev dJ:Stmt:=top 54
noncomputable abbrev dL:Stmt:=top 55
noncomputable abbrev d8:Stmt:=top 56
noncomputable abbrev dA:Stmt:=top 57
noncomputable abbrev dE:Stmt:=top 58
noncomputable abbrev qU:Stmt:=top 36
noncomputable abbrev jV:Stmt:=top 35
noncomputable abbrev lI:Stmt:=top 25
noncomputable abbrev kT:Stmt:=top 37
noncomputable abbrev kR:Stmt:=top 38
noncomputable abbrev qT:Stmt:=top 43
noncomputable abbrev nR:Stmt:=top 44
noncomputable abbrev wC:Stmt:=top 45
noncomputable abbrev gC:Stmt:=top 46
noncomputable abbrev jT:Stmt:=top 40
noncomputable abbrev cU:Stmt:=top 41
end Lw
namespace Lw
open PySem PySem.W L2
noncomputable def eO (P:Params)(x:Str)(t:Tok)(v:Value):DictEntry:=⟨PyData.keyHash P x,.str x t,v⟩
noncomputable def eR (P:Params)(x:Str)(t:Tok)(a:Addr):DictEntry:=eO P x t (.ref a)
noncomputable def dO (es:List DictEntry)(n:Nat):Obj:=⟨.type "dict",none,.dict es.toArray n,#[]⟩
noncomputable def fO (x q:Str)(st:Stmt)(m:Str)(t:Tok)(c:Addr):Obj:=⟨.type "function",none,.func (fnOf x q (cK st) (bX st) (aH st) .none .none .none (.str m t) none (.ref c) .none),#[]⟩
noncomputable def cO (x q:Str)(t1 a t3:Tok)(l n f:Int)(r1:Addr)(b:Bool)(g:Int)(d:Addr)(u v w:Value)(c:Addr)(e:Int)(t4:Tok):Obj :=
 ⟨.type "code",none,.fields #[.str x t1,.str q a,.str "/claim/cut.py" t3,.int l 0,.int n 0,.int 0 0,.int 0 0,.int f 0,.ref r1,.bool b,.int g 0,.ref d,u,v,w,.ref c,.int e 0,.int l 0,.str "/claim/cut.py" t4],#[]⟩
noncomputable def gO (x:Str)(st:Stmt)(m:Str)(t:Tok)(c:Addr):Obj:=fO x x st m t c
noncomputable def hO (x:Str)(t1 a t3:Tok)(l n f:Int)(r1:Addr)(b:Bool)(g:Int)(d:Addr)(u v w:Value)(c:Addr)(e:Int)(t4:Tok):Obj:=cO x x t1 a t3 l n f r1 b g d u v w c e t4
noncomputable def mO0:Str:="law_likefill_k31_paired"
noncomputable def mO1:Str:="likefill.signs"
noncomputable def mO2:Str:="likefill.terms"
noncomputable def mO3:Str:="likefill.texts"
noncomputable def K0 (P:Params):PySem.W.Frag :=
 (nat_lit 3,dO [eO P "__name__" 165 (.str "law_likefill_k31_paired" 568),eO P "__doc__" 166 .none,eO P "__package__" 167 .none,eO P "__loader__" 168 (.builtin "__main__.__loader__#opaque"),eO P "__spec__" 169 .none,eR P "__annotations__" 170 6,eR P "__builtins__" 171 4,eO P "__file__" 173 (.str "/claim/cut.py" 172),eO P "__cached__" 174 .none,eR P "LikeError" 206 24,eR P "NoSigns" 222 37,eR P "NoTerm" 238 49,eR P "NoText" 254 61,eO P "LETTERS" 258 (.str "abcdefghijklmnopqrstuvwxyz" 257),eO P "LONGEST_NAME" 260 (.int 6 259),eO P "MOST_FIXED" 262 (.int 12 261),eO P "MOST_SUMS" 264 (.int 3 263),eO P "MOST_PARTS" 266 (.int 3 265),eR P "Signs" 326 106,eR P "is_name" 332 115,eR P "is_whole" 339 122,eR P "checked_pairs" 345 127,eR P "check_names" 351 132,eR P "check_parts" 357 137,eR P "check_noughts" 363 142,eO P "WISH_SIGNS" 367 (.str "abcdefghijklmnopqrstuvwxyz0123456789" 366),eO P "LONGEST_WISH" 369 (.int 9 368),eO P "DEEPEST" 371 (.int 1000 370),eR P "is_wish" 377 147,eR P "is_built" 385 154,eR P "check_term" 391 159,eR P "is_term" 399 166,eR P "walked" 409 173,eR P "order_mark" 416 180,eR P "order_key" 422 185,eR P "opened" 430 192,eR P "flat_sum" 441 199,eR P "flat_of_parts" 451 206,eR P "from_within" 457 211,eR P "put_in" 467 218,eR P "flat" 475 225,eR P "flat_key" 483 232,eR P "alike" 492 239,eR P "leaves" 498 244,eR P "wishes" 504 249,eR P "in_pairs" 517 256,eR P "paired" 526 263,eR P "write" 539 270,eR P "pieces" 548 277,eR P "read" 557 284,eR P "unbracketed" 567 291,eR P "_law_from" 577 298,eR P "_law_take" 586 305,eR P "_law_signs" 592 310,eR P "_law_leaf" 601 317,eR P "_law_head" 607 322,eR P "_law_term" 623 329,eR P "_law_paired" 629 334,eR P "_law_listed" 635 339,eR P "_law_leaves" 644 346,eR P "_law_written" 650 351,eR P "_law_told_again" 656 356,eR P "law" 670 363] 63) ::
 (nat_lit 23,dO [eO P "__module__" 196 (.str "likefill.errors" 187),eO P "__firstlineno__" 200 (.int 2 199),eR P "__static_attributes__" 201 22,eR P "__weakref__" 203 25,eO P "__doc__" 204 .none] 3) ::
 (nat_lit 24,⟨.type "type",none,.cls ⟨"LikeError",[(.type "ValueError")],[(.ref 24),(.type "ValueError"),(.type "Exception"),(.type "BaseException"),(.type "object")],23,"LikeError",true,[],[(.ref 37),(.ref 49),(.ref 61)],false,none,false⟩,#[some (.ref 15),none,some (.str "LikeError" 189),some (.str "LikeError" 197),some (.builtin "ValueError.__new__"),some (.bool true)]⟩) ::
 (nat_lit 36,dO [eO P "__module__" 214 (.str "likefill.errors" 187),eO P "__firstlineno__" 218 (.int 4 217),eR P "__static_attributes__" 219 35,eO P "__doc__" 220 .none] 2) ::
 (nat_lit 37,⟨.type "type",none,.cls ⟨"NoSigns",[(.ref 24)],[(.ref 37),(.ref 24),(.type "ValueError"),(.type "Exception"),(.type "BaseException"),(.type "object")],36,"NoSigns",true,[],[],false,none,false⟩,#[some (.ref 28),none,some (.str "NoSigns" 207),some (.str "NoSigns" 215),some (.builtin "ValueError.__new__"),some (.bool true)]⟩) ::
 (nat_lit 48,dO [eO P "__module__" 230 (.str "likefill.errors" 187),eO P "__firstlineno__" 234 (.int 6 233),eR P "__static_attributes__" 235 47,eO P "__doc__" 236 .none] 2) ::
 (nat_lit 49,⟨.type "type",none,.cls ⟨"NoTerm",[(.ref 24)],[(.ref 49),(.ref 24),(.type "ValueError"),(.type "Exception"),(.type "BaseException"),(.type "object")],48,"NoTerm",true,[],[],false,none,false⟩,#[some (.ref 40),none,some (.str "NoTerm" 223),some (.str "NoTerm" 231),some (.builtin "ValueError.__new__"),some (.bool true)]⟩) ::
 (nat_lit 60,dO [eO P "__module__" 246 (.str "likefill.errors" 187),eO P "__firstlineno__" 250 (.int 8 249),eR P "__static_attributes__" 251 59,eO P "__doc__" 252 .none] 2) ::
 (nat_lit 61,⟨.type "type",none,.cls ⟨"NoText",[(.ref 24)],[(.ref 61),(.ref 24),(.type "ValueError"),(.type "Exception"),(.type "BaseException"),(.type "object")],60,"NoText",true,[],[],false,none,false⟩,#[some (.ref 52),none,some (.str "NoText" 239),some (.str "NoText" 247),some (.builtin "ValueError.__new__"),some (.bool true)]⟩) ::
 (nat_lit 74,cO "__init__" "Signs.__init__" 279 280 281 18 3 3 71 true 181 72 .none .none .none 73 282 283) ::
 (nat_lit 75,fO "__init__" "Signs.__init__" bY "likefill.signs" 255 74) ::
 (nat_lit 95,cO "many" "Signs.many" 299 300 301 35 2 3 90 true 181 91 .none (.ref 92) (.ref 93) 94 304 305) ::
 (nat_lit 96,fO "many" "Signs.many" dR "likefill.signs" 255 95) ::
 (nat_lit 102,cO "nought" "Signs.nought" 307 308 309 38 2 3 97 true 181 98 .none (.ref 99) (.ref 100) 101 312 313) ::
 (nat_lit 103,fO "nought" "Signs.nought" dB "likefill.signs" 255 102) ::
 (nat_lit 105,dO [eO P "__module__" 274 (.str "likefill.signs" 255),eO P "__firstlineno__" 278 (.int 16 277),eR P "__init__" 284 75,eR P "fixed" 291 82,eR P "sums" 298 89,eR P "many" 306 96,eR P "nought" 314 103,eR P "__static_attributes__" 319 104,eR P "__dict__" 321 107,eR P "__weakref__" 323 108,eO P "__doc__" 324 .none] 4) ::
 (nat_lit 106,⟨.type "type",none,.cls ⟨"Signs",[(.type "object")],[(.ref 106),(.type "object")],105,"Signs",true,[],[],false,none,false⟩,#[none,none,some (.str "Signs" 267),some (.str "Signs" 275),some (.builtin "object.__new__"),some (.bool true)]⟩) ::
 (nat_lit 114,hO "is_name" 327 328 329 40 1 3 111 true 181 112 .none .none .none 113 330 331) ::
 (nat_lit 115,gO "is_name" jG mO1 255 114) ::
 (nat_lit 121,hO "is_whole" 333 334 335 44 1 3 116 true 181 117 .none (.ref 118) (.ref 119) 120 337 338) ::
 (nat_lit 122,gO "is_whole" jR mO1 255 121) ::
 (nat_lit 126,hO "checked_pairs" 340 341 342 46 3 3 123 true 181 124 .none .none .none 125 343 344) ::
 (nat_lit 127,gO "checked_pairs" dX mO1 255 126) ::
 (nat_lit 131,hO "check_names" 346 347 348 53 1 3 128 true 181 129 .none .none .none 130 349 350) ::
 (nat_lit 132,gO "check_names" d5 mO1 255 131) ::
 (nat_lit 136,hO "check_parts" 352 353 354 59 1 3 133 true 181 134 .none .none .none 135 355 356) ::
 (nat_lit 137,gO "check_parts" eW mO1 255 136) ::
 (nat_lit 141,hO "check_noughts" 358 359 360 65 2 3 138 true 181 139 .none .none .none 140 361 362) ::
 (nat_lit 142,gO "check_noughts" dY mO1 255 141) ::
 (nat_lit 146,hO "is_wish" 372 373 374 76 1 3 143 true 181 144 .none .none .none 145 375 376) ::
 (nat_lit 147,gO "is_wish" hZ mO2 364 146) ::
 (nat_lit 153,hO "is_built" 378 379 380 80 2 3 148 true 181 149 .none (.ref 150) (.ref 151) 152 383 384) ::
 (nat_lit 154,gO "is_built" jS mO2 364 153) ::
 (nat_lit 158,hO "check_term" 386 387 388 88 2 3 155 true 181 156 .none .none .none 157 389 390) ::
 (nat_lit 159,gO "check_term" fM mO2 364 158) ::
 (nat_lit 165,hO "is_term" 392 393 394 96 2 3 160 true 181 161 .none (.ref 162) (.ref 163) 164 397 398) ::
 (nat_lit 166,gO "is_term" lI mO2 364 165) ::
 (nat_lit 172,hO "walked" 400 401 402 102 1 3 167 true 181 168 .none (.ref 169) (.ref 170) 171 407 408) ::
 (nat_lit 173,gO "walked" nQ mO2 364 172) ::
 (nat_lit 179,hO "order_mark" 410 411 412 111 1 3 174 true 181 175 .none (.ref 176) (.ref 177) 178 414 415) ::
 (nat_lit 180,gO "order_mark" gZ mO2 364 179) ::
 (nat_lit 184,hO "order_key" 417 418 419 115 1 3 181 true 181 182 .none .none .none 183 420 421) ::
 (nat_lit 185,gO "order_key" gJ mO2 364 184) ::
 (nat_lit 191,hO "opened" 423 424 425 119 2 3 186 true 181 187 .none (.ref 188) (.ref 189) 190 428 429) ::
 (nat_lit 192,gO "opened" nS mO2 364 191) ::
 (nat_lit 198,hO "flat_sum" 431 432 433 123 3 3 193 true 181 194 .none (.ref 195) (.ref 196) 197 439 440) ::
 (nat_lit 199,gO "flat_sum" jU mO2 364 198) ::
 (nat_lit 205,hO "flat_of_parts" 442 443 444 133 3 3 200 true 181 201 .none (.ref 202) (.ref 203) 204 449 450) ::
 (nat_lit 206,gO "flat_of_parts" fA mO2 364 205) ::
 (nat_lit 210,hO "from_within" 452 453 454 138 3 3 207 true 181 208 .none .none .none 209 455 456) ::
 (nat_lit 211,gO "from_within" dI mO2 364 210) ::
 (nat_lit 217,hO "put_in" 458 459 460 147 3 3 212 true 181 213 .none (.ref 214) (.ref 215) 216 465 466) ::
 (nat_lit 218,gO "put_in" cT mO2 364 217) ::
 (nat_lit 224,hO "flat" 468 469 470 149 2 3 219 true 181 220 .none (.ref 221) (.ref 222) 223 473 474) ::
 (nat_lit 225,gO "flat" wD mO2 364 224) ::
 (nat_lit 231,hO "flat_key" 476 477 478 152 2 3 226 true 181 227 .none (.ref 228) (.ref 229) 230 481 482) ::
 (nat_lit 232,gO "flat_key" jV mO2 364 231) ::
 (nat_lit 238,hO "alike" 484 485 486 154 3 3 233 true 181 234 .none (.ref 235) (.ref 236) 237 490 491) ::
 (nat_lit 239,gO "alike" qU mO2 364 238) ::
 (nat_lit 243,hO "leaves" 493 494 495 156 2 3 240 true 181 241 .none .none .none 242 496 497) ::
 (nat_lit 244,gO "leaves" kT mO2 364 243) ::
 (nat_lit 248,hO "wishes" 499 500 501 159 2 3 245 true 181 246 .none .none .none 247 502 503) ::
 (nat_lit 249,gO "wishes" kR mO2 364 248) ::
 (nat_lit 255,hO "in_pairs" 507 508 509 163 3 3 250 true 181 251 .none (.ref 252) (.ref 253) 254 515 516) ::
 (nat_lit 256,gO "in_pairs" jT "likefill.steps" 505 255) ::
 (nat_lit 262,hO "paired" 518 519 520 170 2 3 257 true 181 258 .none (.ref 259) (.ref 260) 261 524 525) ::
 (nat_lit 263,gO "paired" cU "likefill.steps" 505 262) ::
 (nat_lit 269,hO "write" 529 530 531 174 2 3 264 true 181 265 .none (.ref 266) (.ref 267) 268 537 538) ::
 (nat_lit 270,gO "write" qT mO3 527 269) ::
 (nat_lit 276,hO "pieces" 540 541 542 185 1 3 271 true 181 272 .none (.ref 273) (.ref 274) 275 546 547) ::
 (nat_lit 277,gO "pieces" nR mO3 527 276) ::
 (nat_lit 283,hO "read" 549 550 551 191 2 3 278 true 181 279 .none (.ref 280) (.ref 281) 282 555 556) ::
 (nat_lit 284,gO "read" wC mO3 527 283) ::
 (nat_lit 290,hO "unbracketed" 558 559 560 198 1 3 285 true 181 286 .none (.ref 287) (.ref 288) 289 565 566) ::
 (nat_lit 291,gO "unbracketed" gC mO3 527 290) ::
 (nat_lit 297,hO "_law_from" 570 571 572 216 1 3 292 true 181 293 .none (.ref 294) (.ref 295) 296 575 576) ::
 (nat_lit 298,gO "_law_from" iR mO0 568 297) ::
 (nat_lit 304,hO "_law_take" 578 579 580 219 2 3 299 true 181 300 .none (.ref 301) (.ref 302) 303 584 585) ::
 (nat_lit 305,gO "_law_take" iP mO0 568 304) ::
 (nat_lit 309,hO "_law_signs" 587 588 589 226 1 3 306 true 181 307 .none .none .none 308 590 591) ::
 (nat_lit 310,gO "_law_signs" dQ mO0 568 309) ::
 (nat_lit 316,hO "_law_leaf" 593 594 595 237 2 3 311 true 181 312 .none (.ref 313) (.ref 314) 315 599 600) ::
 (nat_lit 317,gO "_law_leaf" iQ mO0 568 316) ::
 (nat_lit 321,hO "_law_head" 602 603 604 242 3 3 318 true 181 319 .none .none .none 320 605 606) ::
 (nat_lit 322,gO "_law_head" gK mO0 568 321) ::
 (nat_lit 328,hO "_law_term" 608 609 610 248 4 3 323 true 181 324 .none (.ref 325) (.ref 326) 327 621 622) ::
 (nat_lit 329,gO "_law_term" fF mO0 568 328) ::
 (nat_lit 333,hO "_law_paired" 624 625 626 261 2 3 330 true 181 331 .none .none .none 332 627 628) ::
 (nat_lit 334,gO "_law_paired" dJ mO0 568 333) ::
 (nat_lit 338,hO "_law_listed" 630 631 632 271 1 3 335 true 181 336 .none .none .none 337 633 634) ::
 (nat_lit 339,gO "_law_listed" dL mO0 568 338) ::
 (nat_lit 345,hO "_law_leaves" 636 637 638 275 1 3 340 true 181 341 .none (.ref 342) (.ref 343) 344 642 643) ::
 (nat_lit 346,gO "_law_leaves" d8 mO0 568 345) ::
 (nat_lit 350,hO "_law_written" 645 646 647 282 1 3 347 true 181 348 .none .none .none 349 648 649) ::
 (nat_lit 351,gO "_law_written" dA mO0 568 350) ::
 (nat_lit 355,hO "_law_told_again" 651 652 653 286 3 3 352 true 181 353 .none .none .none 354 654 655) ::
 (nat_lit 356,gO "_law_told_again" dE mO0 568 355) ::
 (nat_lit 362,hO "law" 657 658 659 296 1 3 357 true 181 358 .none (.ref 359) (.ref 360) 361 668 669) ::
 (nat_lit 363,gO "law" pT mO0 568 362)::[]
noncomputable def as0:List Addr:=[3,23,24,36,37,48,49,60,61,74,75,95,96,102,103,105,106,114,115,121,122,126,127,131,132,136,137,141,142,146,147,153,154,158,159,165,166,172,173,179,180,184,185,191,192,198,199,205,206,210,211,217,218,224,225,231,232,238,239,243,244,248,249,255,256,262,263,269,270,276,277,283,284,290,291,297,298,304,305,309,310,316,317,321,322,328,329,333,334,338,339,345,346,350,351,355,356,362,363]
noncomputable def without (ks:List Nat):Nat->List Stmt->List Stmt
 | _,[]=>[]
 | i,s::r=>if i∈ks then without ks (i+1) r else s::without ks (i+1) r
noncomputable def q0:Program:={PySem.Challenge.pw_likefill_k31_paired with main:={PySem.Challenge.pw_likefill_k31_paired.main with body:=without [0,5,18,39,42,47] 0 PySem.Challenge.pw_likefill_k31_paired.main.body} }
noncomputable def R0:Shared->Bool:=λs=>xlAt q0 [] s && recOk (RowW.records PySem.Challenge.rw_likefill_k31_paired.row.toRowW) s
theorem NC {p q:Program}{Xt:Shared->Bool}{α:Type}{Yf:Shared->α}{Ya:World->α}{N:Nat}
  (e:opening p=plainProg p.main.scope.names) (n:Nat.ble 600 N=true) (a:∀s,fenceModules? p s=some s)
  (h:∀w os,(topFrom treeTable p w N ⟨boot_heap w.params,⟨[]⟩,boot_drawn,boot_toks,os⟩).map (λs=>(openSeen q [] (importedModules p.main.body) Xt true s,Yf s))=some (openGood q [],Ya w)):LeftO p q [] Xt Yf Ya N:=λw=>by
 obtain⟨s,c,b⟩:=Option.map_eq_some_iff.mp (boot_open e n a w);obtain⟨i,g,f,d,os⟩:=s;cases b;unfold openEnds;rw[c];exact h w os
theorem CB {A B C R δ:Type}{o:Option Shared}{X:Shared->A×B×C×R}{Y:Shared->δ}{g:A×B×C×R}{y:δ}(a:(o.map λs=>((X s).1,Y s))=some (g.1,y))(b:(o.map λs=>((X s).2.1,(X s).2.2.1))=some (g.2.1,g.2.2.1))(c:(o.map λs=>(X s).2.2.2)=some g.2.2.2):(o.map λs=>(X s,Y s))=some (g,y):=by
 cases o with
 | none=>cases a
 | some s =>
  simp only[Option.map_some,Option.some.injEq,Prod.mk.injEq]at a b c⊢;exact⟨Prod.ext a.1 (Prod.ext b.1 (Prod.ext b.2 c)),a.2⟩
noncomputable def run0 (w:World)(os:OsState):Option Shared:=topFrom treeTable PySem.Challenge.rw_likefill_k31_paired.row.prog w 5118 ⟨boot_heap w.params,⟨[]⟩,boot_drawn,boot_toks,os⟩
noncomputable def seen0 (s:Shared):=openSeen q0 [] (importedModules PySem.Challenge.rw_likefill_k31_paired.row.prog.main.body) R0 true s
theorem run1 (w:World)(os:OsState):((run0 w os).map λs=>((seen0 s).1,as0.map s.heap.get?))=some ((openGood q0 []).1,(K0 w.params).map λp=>some p.2):=by unfold run0 seen0 topFrom;rw[PySem.W.Fast.te14082659384304107361,PySem.W.Fast.te4187177175401517315,PySem.W.Fast.te14364793385576792824];kernel_rfl
theorem run2 (w:World)(os:OsState):((run0 w os).map λs=>((seen0 s).2.1,(seen0 s).2.2.1))=some ((openGood q0 []).2.1,(openGood q0 []).2.2.1):=by unfold run0 seen0 topFrom;rw[PySem.W.Fast.te14082659384304107361,PySem.W.Fast.te4187177175401517315,PySem.W.Fast.te14364793385576792824];kernel_rfl
theorem run3 (w:World)(os:OsState):((run0 w os).map λs=>(seen0 s).2.2.2)=some (openGood q0 []).2.2.2:=by unfold run0 seen0 topFrom;rw[PySem.W.Fast.te14082659384304107361,PySem.W.Fast.te4187177175401517315,PySem.W.Fast.te14364793385576792824];kernel_rfl
theorem left0:LeftO PySem.Challenge.rw_likefill_k31_paired.row.prog q0 [] R0 (λs=>as0.map s.heap.get?) (λw=>(K0 w.params).map λp=>some p.2) 5118 :=
 NC (by kernel_rfl) (by kernel_rfl) (λs=>by kernel_rfl) λw os=>CB (X:=seen0) (run1 w os) (run2 w os) (run3 w os)
theorem keys0:∀P,as0=(K0 P).map (·.1):=λP=>by kernel_rfl
end Lw
namespace Lw
open PySem PySem.W PyProof.Rows
set_option maxRecDepth 100000 in
set_option maxHeartbeats 0 in
theorem red:∃d:DefRec,d.params.defaults=[]/\d.name=("law" : Str)/\(WalkO q0 [] (XL q0 []) (InK K0) PySem.Challenge.rw_likefill_k31_paired.row.toRowW d [] (λf vs=>PySem.call f vs)->PySem.Challenge.rw_likefill_k31_paired.Holds):=by
 refine' ⟨?d,?a,?b,λh=>?c⟩
 case c =>
  w_on
  refine holds_law (by kernel_rfl) λg=>?_;refine holds_open (q:=q0) (loose:=[]) (Xt:=R0) (XP:=XL q0 []) (YP:=InK K0) left0 (InK.of keys0) InK.keeps (λs e=>xl_of s (Bool.and_eq_true_iff.mp e).1) XL.keeps (by rfl) (by rfl) (by rfl) (λs e=>recFacts_of (Bool.and_eq_true_iff.mp e).2) (by rfl) g (by decide +kernel) ⟨rfl,rfl,rfl,rfl,rfl,by decide +kernel⟩ (by w_witness2) ?_
  k_fill
  exact h
 case a=>rfl
 case b=>rfl
end Lw
namespace L2
open PySem PySem.Spec PyProof.Rows
abbrev fU:=Sum Int Str
noncomputable def keyIs:fU->Value->Bool
 | .inl k,v=>Value.isInt k v
 | .inr x,v=>Value.isStrOf x v
noncomputable def keyH (w:World):fU->Int
 | .inl k=>hashInt k
 | .inr x=>hashStr w x
theorem dH:∀{k:fU} {v:Value},keyIs k v=true->(∃i t,k=Sum.inl i/\v=Value.int i t)∨(∃x t,k=Sum.inr x/\v=Value.str x t)
 | .inl i,v,h=>by
  obtain⟨t,e⟩:=Value.isInt_shape (k:=i) (v:=v) h;exact .inl ⟨i,t,rfl,e⟩
 | .inr x,v,h=>by obtain⟨t,e⟩:=Value.isStrOf_shape (x:=x) (v:=v) h;exact .inr ⟨x,t,rfl,e⟩
theorem GU (i:Int)(t:Tok):keyIs (.inl i) (.int i t)=true:=by simp[keyIs,Value.isInt]
theorem uV (x:Str)(t:Tok):keyIs (.inr x) (.str x t)=true:=by simp[keyIs,Value.isStrOf]
theorem QE (a b:Int):decide ((Sum.inl a:fU)=Sum.inl b)=(a == b):=by
 by_cases e:a=b
 ·subst e;simp
 ·have h:¬(Sum.inl a:fU)=Sum.inl b:=λq=>e (Sum.inl.inj q);rw[bg h];exact(cs.mpr e).symm
theorem QB (a b:Str):decide ((Sum.inr a:fU)=Sum.inr b)=decide (a=b):=by
 by_cases e:a=b
 ·subst e;simp
 ·have h:¬(Sum.inr a:fU)=Sum.inr b:=λq=>e (Sum.inr.inj q);rw[bg h,bg e]
theorem QD (a:Int)(b:Str):decide ((Sum.inl a:fU)=Sum.inr b)=false:=bg (λq=>nomatch q)
theorem QC (a:Str)(b:Int):decide ((Sum.inr a:fU)=Sum.inl b)=false:=bg (λq=>nomatch q)
noncomputable def cQ (prog:Program)(w:World):PySem.KeyKind prog w fU where
 is:=keyIs
 hash:=keyH w
 inj:=λv a b l f=>by
  rcases dH l with⟨i,t,rfl,rfl⟩|⟨x,t,rfl,rfl⟩
  ·rcases dH f with⟨j,u,rfl,e⟩|⟨y,u,rfl,e⟩
   ·injection e with c _;rw[c]
   ·exact nomatch e
  ·rcases dH f with⟨j,u,rfl,e⟩|⟨y,u,rfl,e⟩
   ·exact nomatch e
   ·injection e with c _;rw[c]
 byValue:=λk v h=>by rcases dH h with⟨i,t,rfl,rfl⟩|⟨x,t,rfl,rfl⟩ <;> rfl
 pyHash:=λd h=>by
  rcases dH d with⟨i,t,rfl,rfl⟩|⟨x,t,rfl,rfl⟩
  ·exact wpAny_pyHash_int h
  ·exact wpAny_pyHash_str h
 eqBool:=λg d h=>by
  rcases dH g with⟨i,t,rfl,rfl⟩|⟨x,t,rfl,rfl⟩
  ·rcases dH d with⟨j,u,rfl,rfl⟩|⟨y,u,rfl,rfl⟩
   ·rw[QE]at h;exact wpAny_eqBool_int h
   ·rw[QD]at h;exact SeqAt.EqAt.int_str i t y u _ _ _ _ h
  ·rcases dH d with⟨j,u,rfl,rfl⟩|⟨y,u,rfl,rfl⟩
   ·rw[QC]at h;exact SeqAt.EqAt.str_int x t j u _ _ _ _ h
   ·rw[QB]at h;exact wpAny_eqBool_str h
 «strs»:=λk x t v h=>by
  rcases dH h with⟨i,u,rfl,e⟩|⟨y,u,rfl,e⟩
  ·exact nomatch e
  ·injection e with c _;subst c;cases v <;> rfl
theorem yZ (prog:Program)(w:World)(i:Int)(t:Tok):(cQ prog w).is (.inl i) (.int i t)=true:=GU i t
theorem yY (prog:Program)(w:World)(x:Str)(t:Tok):(cQ prog w).is (.inr x) (.str x t)=true:=uV x t
inductive V where
 | non|bl (b:Bool)|int (i:Int)|str (x:Str)|byt (b:Array UInt8)|flt (b:UInt64)|ref (a:Addr)|ty (n:String)
 deriving DecidableEq
def aU:V->Value->Prop
 | .non,u=>u=Value.none
 | .bl b,u=>u=Value.bool b
 | .int i,u=>∃t,u=Value.int i t
 | .str x,u=>∃t,u=Value.str x t
 | .byt b,u=>∃t,u=Value.bytes b t
 | .flt b,u=>∃t,u=Value.float b t
 | .ref a,u=>u=Value.ref a
 | .ty n,u=>u=Value.type n
abbrev aT:List V->bQ->Prop:=Paired aU
theorem aT.length {xs:List V}{us:bQ}(r:aT xs us):xs.length=us.length:=Paired.length r
theorem aT.get:∀{xs:List V} {us:bQ} {i:Nat} {x:V},aT xs us->xs[i]?=some x->∃u,us[i]?=some u/\aU x u
 | _,_,_,_,.nil,e=>by simp at e
 | _,_,0,_,.cons r _,e=>by simp at e;subst e;exact⟨_,rfl,r⟩
 | _,_,i+1,x,.cons _ t,e=>by obtain⟨u,b,a⟩:=aT.get (i:=i) (x:=x) t (by simpa using e);exact⟨u,by simpa using b,a⟩
theorem aT.set {x:V}{u:Value}(r:aU x u):∀{xs:List V} {us:bQ} (i:Nat),aT xs us->aT (xs.set i x) (us.set i u)
 | _,_,_,.nil=>.nil
 | _,_,0,.cons _ t=>.cons r t
 | _,_,i+1,.cons q t=>.cons q (aT.set r i t)
theorem aT.append:∀{xs a:List V} {us ws:bQ},aT xs us->aT a ws->aT (xs++a) (us++ws)
 | _,_,_,_,.nil,s=>s
 | _,_,_,_,.cons r t,s=>.cons r (aT.append t s)
theorem aT.take:∀{xs:List V} {us:bQ} (n:Nat),aT xs us->aT (xs.take n) (us.take n)
 | _,_,0,_=>.nil
 | _,_,_+1,.nil=>.nil
 | _,_,n+1,.cons r t=>.cons r (aT.take n t)
theorem aT.drop:∀{xs:List V} {us:bQ} (n:Nat),aT xs us->aT (xs.drop n) (us.drop n)
 | _,_,0,r=>r
 | _,_,_+1,.nil=>.nil
 | _,_,n+1,.cons _ t=>aT.drop n t
def lX:Option V->Option Value->Prop
 | some v,some u=>aU v u
 | none,none=>True
 | _,_=>False
def KV {κ:Type}:List (κ×V)->List (κ×Value)->Prop:=Paired λ(p:κ×V) (q:κ×Value)=>p.1=q.1/\aU p.2 q.2
noncomputable def kV:fU->V
 | .inl i=>.int i
 | .inr x=>.str x
inductive HO where
 /-- a list -/
 | lst (xs:List V)
 /-- a tuple (never changes) -/
 | tup (xs:List V)
 /-- a dict whose keys are ints and texts;one whose keys are tuples of ints and texts (the empty one is both) -/
 | dK (kvs:List (fU×V))|dT (kvs:List (List fU×V))
 /-- a set of ints: its members,its size -/
 | set (S:Int->Bool) (n:Nat)
 /-- an instance of the class at C,its dict at dx,its attributes -/
 | ins (C dx:Addr) (fs:List (Str×V))
 /-- the dict of the instance at x -/
 | own (x:Addr)
 /-- the dict of an exception -/
 | xd (fs:List (Str×V))
 /-- a bound method,f of x -/
 | met (f x:Addr)
 /-- a range object lo,lo+1,.. below hi -/
 | rng (lo hi:Int)
 /-- a thing that is known to the object (the script;a dict while a loop walks it): read,never written while it is so -/
 | frz (o:Obj) (u:HO)
 /-- a code object's table -/
 | tbl (ps:i8)
 /-- any other thing,by what is true of its one object (a def of one's own: SetO a S n:=HO.ext λh=>..) -/
 | ext (φ:Heap->Prop)
abbrev Hp:=Addr->Option HO
noncomputable def upd (H:Hp)(a:Addr)(o:HO):Hp:=λb=>if b=a then some o else H b
theorem upd_same {H:Hp}{a:Addr}{o:HO}:upd H a o a=some o:=by unfold upd;rw[aj rfl]
theorem aC {H:Hp}{a b:Addr}{o:HO}(h:b≠a):upd H a o b=H b:=by unfold upd;rw[ac h]
theorem upd_upd {H:Hp}{a:Addr}{o u:HO}:upd (upd H a o) a u=upd H a u:=by funext b;unfold upd;split <;> rfl
theorem aE {H:Hp}{a b:Addr}{o:HO}(h:H a=some o)(h':H b=none):a≠b:=by intro e;subst e;rw[h]at h';cases h'
section
variable (P:Program)(w:World)
def cF (H:Hp)(h:Heap)(a:Addr):HO->Prop
 | .lst xs=>xs.length<=sizeLine/\∃(its:bQ) (n:Nat),aT xs its/\h.get? a=some {cls:=.type "list",data:=.seq its.toArray n}
 | .tup xs=>xs.length<=sizeLine/\∃its:bQ,aT xs its/\IsTup h a its.toArray
 | .dK b=>b.length<=sizeLine/\(a == sysModules)=false/\∃vs,KV b vs/\h.DictOf (cQ P w) a vs
 | .dT b=>b.length<=sizeLine/\(a == sysModules)=false/\∃xs:List (List fU×Addr×Value),
   Paired (λ(p:List fU×V) (q:List fU×Addr×Value)=>p.1=q.1/\H q.2.1=some (.tup (p.1.map kV))/\aU p.2 q.2.2) b xs /\
   ∃o es ep,h.get? a=some o/\o.ExactDict/\o.data = .dict es ep/\es.toList=xs.map (entryOfKey (tupleKind (cQ P w)))/\(xs.map (·.1)).Nodup
 | .set S n=>h.SetOf (intKind P w) a S n
 | .ins C d fs=>H d=some (.own a)/\fs.length<=1000/\d≠a/\h.get? a=some (PySem.W.instObj C d) /\
   ∃c,h.Ns1 d c/\(∀f,lX (fs.lookup f) (c f))/\PySem.Within c (fs.map (·.1))
 | .own _=>∃o,h.get? a=some o
 | .xd fs=>∃c,h.Ns1 a c/\∀f,lX (fs.lookup f) (c f)
 | .rng i j=>∃t u v,h.get? a=some {cls:=.type "range",data:=.fields #[.int i t,.int j u,.int 1 v]}
 | .frz o u=>h.get? a=some o/\cF H h a u
 | .tbl ps=>h.get? a=some {cls:=.none,data:=.fields ps}
 | .met f x=>h.get? a=some (PySem.W.methodObj (.ref f) (.ref x))
 | .ext φ=>φ h/\(∃o,h.get? a=some o)/\∀g e:Heap,φ g->(∀o,g.get? a=some o->e.get? a=some o)->φ e
def fV (H:Hp)(h:Heap):Prop:=∀a o,H a=some o->cF P w H h a o
end
section
variable {P:Program}{w:World}{H H':Hp}{h h':Heap}{a:Addr}{o:HO}
theorem cF.lt (x:cF P w H h a o):a<h.objs.size:=by
 cases o with
 | lst xs=>obtain⟨_,_,_,_,e⟩:=x;exact az e
 | tup xs=>obtain⟨_,_,_,p⟩:=x;exact p.lt
 | dK b=>obtain⟨_,_,_,_,o,_,_,e,_⟩:=x;exact az e
 | dT b=>obtain⟨_,_,_,_,o,_,_,e,_⟩:=x;exact az e
 | set S n=>obtain⟨o,_,_,_,e,_⟩:=x;exact az e
 | ins C i fs=>obtain⟨_,_,_,e,_⟩:=x;exact az e
 | own y=>obtain⟨_,e⟩:=x;exact az e
 | xd fs=>obtain⟨_,⟨_,_,_,e,_⟩,_⟩:=x;exact az e
 | rng d g=>obtain⟨_,_,_,e⟩:=x;exact az e
 | frz c u=>obtain⟨e,_⟩:=x;exact az e
 | tbl ps=>exact az (show h.get? a=some _ from x)
 | met f y=>exact az (show h.get? a=some _ from x)
 | ext φ=>obtain⟨_,⟨_,e⟩,_⟩:=x;exact az e
theorem Paired.mapP {α β:Type}{F G:α->β->Prop}{d:List α}{c:List β}(h:Paired F d c)(f:∀a b,F a b->G a b):Paired G d c:=by
 induction h with
 | nil=>exact .nil
 | cons r t e=>exact .cons (f _ _ r) e
theorem cF.stay (x:cF P w H h a o)(k:∀b u,(b=a∨H b=some (.own a))->h.get? b=some u->h'.get? b=some u)
  (ho:∀b,H b=some (.own a)->H' b=some (.own a)) (m:∀b xs,H b=some (.tup xs)->H' b=some (.tup xs)):cF P w H' h' a o:=by
 induction o with
 | lst xs=>obtain⟨z,its,n,r,e⟩:=x;exact⟨z,its,n,r,k _ _ (.inl rfl) e⟩
 | tup xs=>obtain⟨z,its,r,g,e,c⟩:=x;exact⟨z,its,r,g,k _ _ (.inl rfl) e,c⟩
 | dK j=>obtain⟨z,y,vs,r,g,es,ep,e,c⟩:=x;exact⟨z,y,vs,r,g,es,ep,k _ _ (.inl rfl) e,c⟩
 | dT j =>
  obtain⟨z,y,xs,r,g,es,ep,e,c⟩:=x;exact⟨z,y,xs,Paired.mapP r λp q z=>⟨z.1,m _ _ z.2.1,z.2.2⟩,g,es,ep,k _ _ (.inl rfl) e,c⟩
 | set S n=>obtain⟨g,es,ep,t,e,c⟩:=x;exact⟨g,es,ep,t,k _ _ (.inl rfl) e,c⟩
 | ins C E fs =>
  obtain⟨d,z,ne,e,i,⟨od,es,ep,s,c⟩,r⟩:=x;exact⟨ho _ d,z,ne,k _ _ (.inl rfl) e,i,⟨od,es,ep,k _ _ (.inr d) s,c⟩,r⟩
 | own y=>obtain⟨g,e⟩:=x;exact⟨g,k _ _ (.inl rfl) e⟩
 | xd fs=>obtain⟨i,⟨od,es,ep,e,c⟩,r⟩:=x;exact⟨i,⟨od,es,ep,k _ _ (.inl rfl) e,c⟩,r⟩
 | rng A B=>obtain⟨t,u,v,e⟩:=x;exact⟨t,u,v,k _ _ (.inl rfl) e⟩
 | frz g u l=>obtain⟨e,q⟩:=x;exact⟨k _ _ (.inl rfl) e,l q⟩
 | tbl ps =>
  have e:h.get? a=some {cls:=.none,data:=.fields ps}:=x;show h'.get? a=some {cls:=.none,data:=.fields ps};exact k a _ (.inl rfl) e
 | met f y =>
  have e:h.get? a=some (PySem.W.methodObj (.ref f) (.ref y)):=x;show h'.get? a=some (PySem.W.methodObj (.ref f) (.ref y));exact k a _ (.inl rfl) e
 | ext φ=>obtain⟨p,⟨o,e⟩,st⟩:=x;exact⟨st _ _ p λo q=>k _ _ (.inl rfl) q,⟨o,k _ _ (.inl rfl) e⟩,st⟩
theorem fV.lt (x:fV P w H h)(e:H a=some o):a<h.objs.size:=(x a o e).lt
theorem fV.fresh (x:fV P w H h)(e:h.objs.size<=a):H a=none:=by
 cases q:H a with
 | none=>rfl
 | some u=>exact absurd (ba (x.lt q) e) (bx _)
theorem fV.kept (x:fV P w H h)(k:∀b u,h.get? b=some u->h'.get? b=some u):fV P w H h':=λa o e =>
 (x a o e).stay (λb u _ q=>k b u q) (λ_ q=>q) λ_ _ q=>q
theorem fV.laid (x:fV P w H h)(k:∀b u,h.get? b=some u->h'.get? b=some u)(g:h.objs.size<=a)(new:cF P w (upd H a o) h' a o):fV P w (upd H a o) h':=λb u e=>by
 have d:=x.fresh g;by_cases f:b=a
 ·subst f;rw[upd_same]at e;cases e;exact new
 ·rw[aC f]at e;exact(x b u e).stay (λc v _ q=>k c v q) (λc q=>by rw[aC (aE q d)];exact q) λc xs q=>by rw[aC (aE q d)];exact q
end
def Rd (H:Hp)(a:Addr)(u:HO):Prop:=H a=some u∨∃o,H a=some (.frz o u)
theorem Rd.ok {P:Program}{w:World}{H:Hp}{h:Heap}{a:Addr}{u:HO}(r:Rd H a u)(x:fV P w H h):cF P w H h a u:=by
 rcases r with r|⟨o,r⟩
 ·exact x a u r
 ·obtain⟨_,q⟩:=x a _ r;exact q
def RV:Option HO->Prop
 | some (.lst _)=>True
 | some (.dK _)=>True
 | some (.dT _)=>True
 | some (.set _ _)=>True
 | some (.ins _ _ _)=>True
 | some (.ext _)=>True
 | _=>False
section
variable {P:Program}{w:World}{H:Hp}{h h':Heap}{x e:Addr}{o':HO}
theorem fV.write (ok:fV P w H h)(g:RV (H x))(m:e=x∨H e=some (.own x))(k:∀b u,b≠e->h.get? b=some u->h'.get? b=some u)(l:∃u,h'.get? e=some u)
  (new:cF P w (upd H x o') h' x o'):fV P w (upd H x o') h':=λb u q=>by
 have d:∀c y,H c=some (.own y)->c≠x:=λc y r z=>by subst z;rw[r]at g;exact g
 have f:∀c xs,H c=some (.tup xs)->c≠x:=λc xs r z=>by subst z;rw[r]at g;exact g
 by_cases j:b=x
 ·subst j;rw[upd_same]at q;cases q;exact new
 ·rw[aC j]at q;by_cases a:b=e
  ·have q':H b=some (.own x):=by
    rcases m with z|z
    ·exact absurd (a.trans z) j
    ·rw[a];exact z
   rw[q]at q';cases q';obtain⟨v,o⟩:=l;exact⟨v,by rw[a];exact o⟩
  ·refine(ok b u q).stay (λc v i r=>k c v ?_ r) (λc r=>by rw[aC (d c b r)];exact r) λc xs r=>by rw[aC (f c xs r)];exact r
   rcases i with rfl|i
   ·exact a
   ·rintro rfl;rcases m with z|z
    ·exact d c b i z
    ·rw[i]at z;cases z;exact j rfl
end
structure Un (fs ex:List Addr)(H H':Hp)(h h':Heap):Prop where
 keep:∀b o,h.get? b=some o->H b=none->b∉fs->b∉ex->h'.get? b=some o
 slot:∀b o,h.get? b=some o->H b=none->b∈fs->b∉ex->∃sl,h'.get? b=some {o with slots:=sl}
 free:∀b o,h.get? b=some o->H b=none->b∉ex->H' b=none
 there:∀b o,h.get? b=some o->b∉ex->∃o',h'.get? b=some o'
 tups:∀b xs,H b=some (.tup xs)->H' b=some (.tup xs)
 frzs:∀b o u,H b=some (.frz o u)->H' b=some (.frz o u)
 tbls:∀b ps,H b=some (.tbl ps)->∃more,H' b=some (.tbl (ps++more))
section
variable {fs fs' ex ex':List Addr}{H H1 H2:Hp}{h h1 h2 h':Heap}{a x e:Addr}{o:HO}
theorem Un.any (u:Un fs ex H H1 h h1){b:Addr}{a:Obj}(q:h.get? b=some a)(n:H b=none)(c:b∉ex):∃e,h1.get? b=some {a with slots:=e}:=by
 by_cases d:b∈fs
 ·exact u.slot b a q n d c
 ·exact⟨a.slots,u.keep b a q n d c⟩
theorem Un.kept (k:∀b u,h.get? b=some u->h'.get? b=some u):Un fs ex H H h h' :=
 ⟨λb a q _ _ _=>k b a q,λb a q _ _ _=>⟨a.slots,k b a q⟩,λ_ _ _ n _=>n,λb a q _=>⟨a,k b a q⟩,λ_ _ q=>q,λ_ _ _ q=>q,λ_ ps q=>⟨#[],by rw[q];simp⟩⟩
theorem Un.refl:Un fs ex H H h h:=Un.kept λ_ _ q=>q
theorem Un.laid (k:∀b u,h.get? b=some u->h'.get? b=some u)(d:h.objs.size<=a)(c:H a=none):Un fs ex H (upd H a o) h h' where
 keep:=λb u q _ _ _=>k b u q
 slot:=λb u q _ _ _=>⟨u.slots,k b u q⟩
 free:=λb u q n _=>by rw[aC (bi (ba (az q) d))];exact n
 there:=λb u q _=>⟨u,k b u q⟩
 tups:=λb xs q=>by rw[aC (aE q c)];exact q
 frzs:=λb u xs q=>by rw[aC (aE q c)];exact q
 tbls:=λb ps q=>⟨#[],by rw[aC (aE q c),q];simp⟩
theorem Un.write (c:RV (H x))(j:e=x∨H e=some (.own x))(k:∀b u,b≠e->h.get? b=some u->h'.get? b=some u)(f:∃u,h'.get? e=some u):Un fs ex H (upd H x o) h h':=by
 have g:∀b,H b=none->b≠x:=λb n z=>by subst z;rw[n]at c;exact c
 have i:∀b,H b=none->b≠e:=λb n z=>by
  subst z;rcases j with r|r
  ·exact g b n r
  ·rw[n]at r;cases r
 have d:∀b u,H b=some u->¬RV (some u)->b≠x:=λb u q nm z=>by subst z;rw[q]at c;exact nm c
 refine⟨λb u q n _ _=>k b u (i b n) q,λb u q n _ _=>⟨u.slots,k b u (i b n) q⟩,λb u q n _=>by rw[aC (g b n)];exact n,λb u q _=>?_,
  λb xs q=>by rw[aC (d b _ q λz=>z)];exact q,λb u xs q=>by rw[aC (d b _ q λz=>z)];exact q,λb ps q=>⟨#[],by rw[aC (d b _ q λz=>z),q];simp⟩⟩
 by_cases a:b=e
 ·subst a;exact f
 ·exact⟨u,k b u a q⟩
end
noncomputable def trk (h:Heap)(H:Hp):List Addr:=(List.range h.objs.size).filter λa=>(H a).isSome
noncomputable def hidT (h:Heap)(H:Hp):Heap:=PySem.W.hideAll h (trk h H)
theorem GY (h:Heap)(H:Hp):(hidT h H).objs.size=h.objs.size:=PySem.W.hideAll_size _ _
theorem sN {h:Heap}{H:Hp}{b:Addr}{o:Obj}(e:h.get? b=some o)(n:H b=none):(hidT h H).get? b=some o :=
 PySem.W.hideAll_get _ e λa=>by have q:(H b).isSome=true:=(cw.mp a).2;rw[n]at q;simp at q
theorem M7 {h:Heap}{H:Hp}{b:Addr}{o:Obj}(e:(hidT h H).get? b=some o):h.get? b=some o/\H b=none:=by
 have e':h.get? b=some o:=PySem.W.of_hideAll (trk h H) e;refine⟨e',?_⟩;cases q:H b with
 | none=>rfl
 | some x =>
  have a:b∈trk h H:=cw.mpr ⟨List.mem_range.mpr (az e'),by simp[q]⟩;have z:(hidT h H).get? b=none:=PySem.W.hideAll_none (trk h H) a;rw[z]at e;cases e
noncomputable def NX (g h:Heap)(L:Addr):cZ:=(List.range h.objs.size).filterMap λa=>if a=L∨(g.get? a).isSome=true then none else(h.get? a).map λo=>(a,o)
noncomputable def rest (g h:Heap)(L d:Addr):cZ:=(NX g h L).filter λp=>decide (p.1≠d)
structure Mod (K:PySem.W.Frag)(mg:gX)(base:Heap):Prop where
 kin:K.In base
 glob:base.Ns mainGlobals mg
 blt:∃mb,base.Ns builtinsNs mb/\∀x:Str,x≠"__name__"->mb x=bootBuiltins x
 nolimit:base.NoLimit
structure Cx where
 prog:Program
 w:World
 K:PySem.W.Frag
 mg:gX
 base:Heap
 A:Around
 N:aN
 s₀:Shared
 H₀:Hp
 env:Env
 outer:List Env
 stack:List Env
 ex:List Addr
 fn:Str->Bool
 calm:Bool
 pn:cZ
 xe:cJ
noncomputable def frs (l:List Env):List Addr:=l.filterMap (·.frame)
noncomputable abbrev Cx.fs (X:Cx):List Addr:=frs X.outer
def Q6 (a:Scope)(x:Str):Prop:=a.names.lookup x=some .local∨a.names.lookup x=some .cell∨a.names.lookup x=some .free
def RQ (a:Scope)(x:Str):Prop:=a.names.lookup x=some .local∨a.names.lookup x=some .cell
def R7 (env:Env)(h:Heap)(m:gX)(x:Str)(u:Value):Prop :=
 (env.kindOf x=some .local/\m x=some u)∨((env.kindOf x=some .cell∨env.kindOf x=some .free)/\∃c,env.cells.lookup x=some c/\h.IsCell c (some u))
structure Cx.Ok (X:Cx):Prop where
 mod:Mod X.K X.mg X.base
 kind:X.env.scope.kind = .function
 glob:X.env.globals=mainGlobals
 blt:X.env.builtins=builtinsNs
 above:X.s₀.heap.objs.size<=X.env.locals
 inj:∀x y c,X.env.cells.lookup x=some c->X.env.cells.lookup y=some c->x=y
 has:∀x,(X.env.kindOf x=some .cell∨X.env.kindOf x=some .free)->∃c,X.env.cells.lookup x=some c
 cab:∀x c,X.fn x=true->X.env.cells.lookup x=some c->X.s₀.heap.objs.size<=c
 hd:X.calm=true->X.A.handled=none
 frames:X.A.frames=some X.stack
 stk:X.stack=X.outer∨(X.stack=X.env::X.outer/\X.env.frame=some X.env.locals)
 exf:∀b∈X.ex,b≠X.env.locals/\∀x c,X.env.cells.lookup x=some c->c≠b
 bs:∀b o,X.base.get? b=some o->X.s₀.heap.get? b=some o/\X.H₀ b=none
 bsz:X.base.objs.size<=X.s₀.heap.objs.size
 noex:∀b o,X.base.get? b=some o->b∉X.ex
 exfs:∀b∈X.ex,b∉X.fs
 funs:X.s₀.heap.FunFrames X.base X.outer
 frf:∀b∈X.fs,X.H₀ b=none
structure aQ (X:Cx)(pins:cZ)(σ:List (Option V))(H:Hp)(s:Shared):Prop where
 ok:X.Ok
 os:s.os=X.s₀.os
 bare:AllBare s.gens
 base:Un X.fs X.ex X.H₀ H X.s₀.heap s.heap
 loc:∃m,s.heap.Ns X.env.locals m/\∀(i:Nat) (x:Str) (v:V),X.N[i]?=some x->σ[i]?=some (some v)->Q6 X.env.scope x->∃u,aU v u/\R7 X.env s.heap m x u
 cell:∀x c,X.env.cells.lookup x=some c->∃v,s.heap.IsCell c v
 free:H X.env.locals=none
 freeC:∀x c,X.env.cells.lookup x=some c->H c=none
 pin:∀p∈X.pn++pins,s.heap.get? p.1=some p.2/\H p.1=none/\p.1≠X.env.locals/\p.1∉X.fs/\∀v,p.2.data≠.cell v
 hok:fV X.prog X.w H s.heap
 len:σ.length=X.N.length
section
variable {X:Cx}{pins:cZ}{σ:List (Option V)}{H H':Hp}{s:Shared}{h':Heap}
theorem Cx.Ok.nofr (ok:X.Ok){b:Addr}{o:Obj}(e:X.base.get? b=some o):b∉X.fs:=λa=>by have:=(ok.funs.mem a).1;rw[e]at this;cases this
theorem aQ.bs (I:aQ X pins σ H s):∀b o,X.base.get? b=some o->s.heap.get? b=some o/\H b=none:=λb o e =>
 ⟨I.base.keep b o (I.ok.bs b o e).1 (I.ok.bs b o e).2 (I.ok.nofr e) (I.ok.noex b o e),I.base.free b o (I.ok.bs b o e).1 (I.ok.bs b o e).2 (I.ok.noex b o e)⟩
theorem aQ.bk (I:aQ X pins σ H s):∀b o,X.base.get? b=some o->s.heap.get? b=some o:=λb o e=>(I.bs b o e).1
theorem aQ.mod (I:aQ X pins σ H s):Mod X.K X.mg X.base:=I.ok.mod
theorem aQ.kIn (I:aQ X pins σ H s):X.K.In s.heap:=I.ok.mod.kin.keeps I.bk
theorem aQ.lt (I:aQ X pins σ H s):X.env.locals<s.heap.objs.size:=let⟨_,hn,_⟩:=I.loc;hn.lt
theorem aQ.sz (I:aQ X pins σ H s):X.s₀.heap.objs.size<=s.heap.objs.size:=ao I.ok.above (Nat.le_of_lt I.lt)
theorem aQ.nofs (I:aQ X pins σ H s){a:Addr}(h:s.heap.objs.size<=a):a∉X.fs:=λb=>by obtain⟨_,o,ho,_⟩:=I.ok.funs.mem b;exact absurd (ba (az ho) (ao I.sz h)) (bx _)
theorem aQ.cne (I:aQ X pins σ H s):∀x c,X.env.cells.lookup x=some c->c≠X.env.locals:=λx c e z=>by obtain⟨v,o,ho,hd⟩:=I.cell x c e;obtain⟨m,⟨d,es,ep,a,b,_⟩,_⟩:=I.loc;rw[z,a]at ho;cases ho;rw[b]at hd;cases hd
theorem aQ.funs (I:aQ X pins σ H s):s.heap.FunFrames X.base X.outer:=by
 have all:∀(l:List Env),(∀b∈frs l,b∈X.fs)->X.s₀.heap.FunFrames X.base l->s.heap.FunFrames X.base l:=by
  intro l
  induction l with
  | nil=>intro _ _;trivial
  | cons env r g =>
   intro f j;obtain⟨m,⟨L,o,a,i,ho,hd⟩,h⟩:=j;have d:L∈X.fs:=f L (by unfold frs;rw[List.filterMap_cons,a];exact av);obtain⟨q,e⟩:=I.base.slot L o ho (I.ok.frf L d) d λz=>I.ok.exfs L z d;exact⟨m,⟨L,_,a,i,e,hd⟩,g (λb c=>f b (by unfold frs;rw[List.filterMap_cons,a];exact ay _ c)) h⟩
 exact all X.outer (λ_ c=>c) I.ok.funs
theorem aQ.stack (I:aQ X pins σ H s):s.heap.FunFrames X.base X.stack:=by
 rcases I.ok.stk with e|⟨e,b⟩
 ·rw[e];exact I.funs
 ·rw[e];obtain⟨m,a,_⟩:=I.loc;refine .cons (by rw[I.ok.kind];decide) b a ?_ I.funs;exact Heap.get?_none_of_le (ao I.ok.bsz I.ok.above)
theorem aQ.stkSub (I:aQ X pins σ H s):∀b∈frs X.stack,b∈X.env.locals::X.fs:=λb a=>by
 rcases I.ok.stk with e|⟨e,c⟩
 ·rw[e]at a;exact ay _ a
 ·rw[e]at a;unfold frs at a;rw[List.filterMap_cons,c]at a;exact a
theorem aQ.stkFree (I:aQ X pins σ H s):∀b∈frs X.stack,H b=none:=λb a=>by
 rcases cm.mp (I.stkSub b a)with e|a
 ·rw[e];exact I.free
 ·obtain⟨_,o,ho,_⟩:=I.ok.funs.mem a;exact I.base.free b o ho (I.ok.frf b a) λz=>I.ok.exfs b z a
theorem aQ.step {g':Array GenState}{t':Nat}{d':Drawn}{ch:List Addr}(I:aQ X pins σ H s)
  (g:∀b∈ch,(b∈X.ex∨X.s₀.heap.objs.size<=b)/\b≠X.env.locals/\(∀x c,X.env.cells.lookup x=some c->c≠b)/\∀p∈X.pn++pins,p.1≠b)
  (keep:∀b o,b≠X.env.locals->b∉X.fs->b∉ch->s.heap.get? b=some o->H b=none->h'.get? b=some o)
  (slot:∀b o,b≠X.env.locals->b∈X.fs->b∉ch->s.heap.get? b=some o->H b=none->∃J,h'.get? b=some {o with slots:=J}) (free:∀b o,b∉ch->s.heap.get? b=some o->H b=none->H' b=none)
  (there:∀b o,b∉ch->s.heap.get? b=some o->∃C,h'.get? b=some C)
  (tups:∀b xs,H b=some (.tup xs)->H' b=some (.tup xs)) (frzs:∀b o u,H b=some (.frz o u)->H' b=some (.frz o u)) (tbls:∀b ps,H b=some (.tbl ps)->∃more,H' b=some (.tbl (ps++more)))
  (ns:∀m,s.heap.Ns X.env.locals m->h'.Ns X.env.locals m) (hok:fV X.prog X.w H' h') (S:AllBare g') :
  aQ X pins σ H' {s with heap:=h',gens:=g',drawn:=d',toks:=t'}:=by
 have E:∀b o,X.s₀.heap.get? b=some o->b≠X.env.locals:=λb o e=>bi (ba (az e) I.ok.above);have j:∀b o,X.s₀.heap.get? b=some o->b∉X.ex->b∉ch:=λb o e a B=>by
  rcases(g b B).1 with z|z
  ·exact a z
  ·exact absurd (ba (az e) z) (bx _)
 have h:∀x c,X.env.cells.lookup x=some c->∀v,s.heap.IsCell c v->h'.IsCell c v:=λx c e v ⟨o,ho,hd⟩=>by
  have f:c∉ch:=λz=>(g c z).2.2.1 x c e rfl;by_cases N:c∈X.fs
  ·obtain⟨J,q⟩:=slot c o (I.cne x c e) N f ho (I.freeC x c e);exact⟨_,q,hd⟩
  ·exact⟨o,keep c o (I.cne x c e) N f ho (I.freeC x c e),hd⟩
 refine⟨I.ok,I.os,S,⟨λb o e n B a=>?_,λb o e n B a=>?_,λb o e n a=>?_,λb o e a=>?_,λb xs e=>tups b xs (I.base.tups b xs e),λb o xs e=>frzs b o xs (I.base.frzs b o xs e),λb ps e=>?_⟩,?_,λx c e=>?_,?_,λx c e=>?_,λp L=>?_,hok,I.len⟩
 ·exact keep b o (E b o e) B (j b o e a) (I.base.keep b o e n B a) (I.base.free b o e n a)
 ·obtain⟨J,A⟩:=I.base.slot b o e n B a;obtain⟨G,F⟩:=slot b _ (E b o e) B (j b o e a) A (I.base.free b o e n a);exact⟨G,F⟩
 ·obtain⟨C,A⟩:=I.base.there b o e a;exact free b C (j b o e a) A (I.base.free b o e n a)
 ·obtain⟨C,A⟩:=I.base.there b o e a;exact there b C (j b o e a) A
 ·obtain⟨P,A⟩:=I.base.tbls b ps e;obtain⟨O,F⟩:=tbls b _ A;exact⟨P++O,by rw[F,Array.append_assoc]⟩
 ·obtain⟨m,Q,R⟩:=I.loc;refine⟨m,ns m Q,λi x v A F T=>?_⟩;obtain⟨u,r,l⟩:=R i x v A F T;refine⟨u,r,?_⟩;rcases l with l|⟨k,c,e,z⟩
  ·exact .inl l
  ·exact .inr ⟨k,c,e,h x c e _ z⟩
 ·obtain⟨v,z⟩:=I.cell x c e;exact⟨v,h x c e v z⟩
 ·obtain⟨m,⟨o,_,_,ho,_⟩,_⟩:=I.loc;exact free _ o (λz=>(g _ z).2.1 rfl) ho I.free
 ·obtain⟨v,o,ho,hd⟩:=I.cell x c e;exact free c o (λz=>(g c z).2.2.1 x c e rfl) ho (I.freeC x c e)
 ·obtain⟨e,n,ne,K,d⟩:=I.pin p L;have f:p.1∉ch:=λz=>(g p.1 z).2.2.2 p L rfl;exact⟨keep p.1 p.2 ne K f e n,free p.1 p.2 f e n,ne,K,d⟩
theorem aQ.un {t':Nat}(I:aQ X pins σ H s)(u:Un X.fs [] H H' s.heap h')(hok:fV X.prog X.w H' h'):aQ X pins σ H' {s with heap:=h',toks:=t'}:=by
 obtain⟨m,⟨o,es,ep,ho,r⟩,_⟩:=id I.loc;obtain⟨j,i⟩:=u.any ho I.free (by simp)
 exact I.step (g':=s.gens) (d':=s.drawn) (ch:=[]) (λ_ z=>nomatch z) (λb o _ c _ e n=>u.keep b o e n c (by simp)) (λb o _ c _ e n=>u.slot b o e n c (by simp)) (λb o _ e n=>u.free b o e n (by simp)) (λb o _ e=>u.there b o e (by simp)) u.tups u.frzs u.tbls (λq h=>by
  obtain⟨l,d,f,a,g⟩:=h;rw[ho]at a;cases a
  exact⟨_,d,f,i,g⟩) hok I.bare
theorem aQ.call {g':Array GenState}{t':Nat}{d':Drawn}{ch:List Addr}(I:aQ X pins σ H s)(u:Un (frs X.stack) ch H H' s.heap h')(hok:fV X.prog X.w H' h')(q:AllBare g')
  (f:∀b∈ch,(b∈X.ex∨X.s₀.heap.objs.size<=b)/\b≠X.env.locals/\(∀x c,X.env.cells.lookup x=some c->c≠b)/\∀p∈X.pn++pins,p.1≠b) :
  aQ X pins σ H' {s with heap:=h',gens:=g',drawn:=d',toks:=t'}:=by
 obtain⟨m,⟨o,es,ep,ho,r⟩,_⟩:=id I.loc;obtain⟨A,g⟩:=u.any ho I.free λz=>(f _ z).2.1 rfl
 exact I.step (ch:=ch) f (λb o g v a e n=>u.keep b o e n (λz=>(cm.mp (I.stkSub b z)).elim g v) a) (λb o _ _ a e n=>u.any e n a) (λb o a e n=>u.free b o e n a) (λb o a e=>u.there b o e a) u.tups u.frzs u.tbls (λC l=>by
  obtain⟨B,h,i,d,j⟩:=l;rw[ho]at d;cases d
  exact⟨_,h,i,g,j⟩) hok q
theorem aQ.turned {t':Nat}{it:Addr}(I:aQ X pins σ H s)(k:∀b o,b≠it->s.heap.get? b=some o->h'.get? b=some o)(g:H it=none)(f:it≠X.env.locals)
  (w:it∈X.ex∨X.s₀.heap.objs.size<=it) (l:∀x c,X.env.cells.lookup x=some c->c≠it) (j:∀p∈X.pn++pins,p.1≠it):aQ X pins σ H {s with heap:=h',toks:=t'}:=by
 have d:∀b u,H b=some u->b≠it:=λb u e z=>by rw[z,g]at e;cases e
 refine I.step (g':=s.gens) (d':=s.drawn) (ch:=[it]) (λb i=>?_) (λb o _ _ a e _=>k b o (λz=>a (by simp[z])) e) (λb o _ _ a e _=>⟨o.slots,k b o (λz=>a (by simp[z])) e⟩) (λ_ _ _ _ n=>n)
  (λb o a e=>⟨o,k b o (λz=>a (by simp[z])) e⟩) (λ_ _ e=>e) (λ_ _ _ e=>e) (λb ps e=>⟨#[],by rw[e];simp⟩) (λm h=>?_) (λb u e=>?_) I.bare
 ·have e:b=it:=by simpa using i
  subst e;exact⟨w,f,l,j⟩
 ·obtain⟨o,es,ep,ho,r⟩:=h;exact⟨o,es,ep,k _ o (Ne.symm f) ho,r⟩
 ·refine(I.hok b u e).stay (λc v a q=>k c v ?_ q) (λ_ q=>q) λ_ _ q=>q;rcases a with z|z
  ·rw[z];exact d b u e
  ·exact d c _ z
theorem aQ.tok (I:aQ X pins σ H s)(t:Nat):aQ X pins σ H {s with toks:=t}:=I.un (h':=s.heap) (t':=t) Un.refl I.hok
theorem aQ.kept {t':Nat}(I:aQ X pins σ H s)(k:∀b u,s.heap.get? b=some u->h'.get? b=some u):aQ X pins σ H {s with heap:=h',toks:=t'}:=I.un (Un.kept k) (I.hok.kept k)
theorem aQ.laid {a:Addr}{o:HO}{t':Nat}(I:aQ X pins σ H s)(k:∀b u,s.heap.get? b=some u->h'.get? b=some u)(c:s.heap.objs.size<=a)(new:cF X.prog X.w (upd H a o) h' a o) :
  aQ X pins σ (upd H a o) {s with heap:=h',toks:=t'}:=I.un (Un.laid k c (I.hok.fresh c)) (I.hok.laid k c new)
theorem aQ.write {x e:Addr}{o:HO}{t':Nat}(I:aQ X pins σ H s)(c:RV (H x))(d:e=x∨H e=some (.own x))(k:∀b u,b≠e->s.heap.get? b=some u->h'.get? b=some u)(a:∃u,h'.get? e=some u)
  (new:cF X.prog X.w (upd H x o) h' x o):aQ X pins σ (upd H x o) {s with heap:=h',toks:=t'}:=I.un (Un.write c d k a) (I.hok.write c d k a new)
theorem aQ.pins_of {a:cZ}(I:aQ X pins σ H s)(h:∀p∈a,s.heap.get? p.1=some p.2/\H p.1=none/\p.1≠X.env.locals/\p.1∉X.fs/\∀v,p.2.data≠.cell v):aQ X a σ H s :=
 ⟨I.ok,I.os,I.bare,I.base,I.loc,I.cell,I.free,I.freeC,λp b=>(cp.mp b).elim (λz=>I.pin p (bS _ z)) (h p),I.hok,I.len⟩
theorem yV {N:aN}(c:N.Nodup){i j:Nat}{x:Str}(a:N[i]?=some x)(b:N[j]?=some x):i=j:=by obtain⟨g,e⟩:=cj.mp a;obtain⟨f,d⟩:=cj.mp b;exact(List.getElem_inj c).mp (e.trans d.symm)
theorem uI {M:Model}{A:Around}{E:cJ}{i:Nat}{x:Str}{v:V}{u:Value}{Q:Unit->Shared->Prop}(I:aQ X pins σ H s)(hN:X.N.Nodup)(T:X.N[i]?=some x)(C:RQ X.env.scope x)(r:aU v u)
  (h:∀s',aQ X pins (σ.set i (some v)) H s'->(∃a,Heap.SameBut a s.heap s'.heap/\(a=X.env.locals∨X.env.cells.lookup x=some a))->Q () s') (hf:X.fn x=true∨X.env.scope.names.lookup x=some .local:=by first|exact .inl rfl|exact .inr rfl|assumption):wpAny M A (storeName X.env x u) Q E s:=by
 obtain⟨m,hn,hl⟩:=id I.loc;have U:(X.env.scope.kind == .class || (X.env.scope.kind == .module && X.env.locals != X.env.globals))=false:=by rw[I.ok.kind];rfl
 have S:i<σ.length:=by rw[I.len];exact(cj.mp T).1
 have cne:=I.cne;have g:∀{a:Addr} {h':Heap},(∃o,s.heap.get? a=some o/\H a=none)->Heap.SameBut a s.heap h'->fV X.prog X.w H h':=λ{a h'} ha f b ob e=>by
  obtain⟨_,_,F⟩:=ha;refine(I.hok b ob e).stay (λc Z B q=>(f.2 c ?_).trans q) (λ_ q=>q) λ_ _ q=>q;rintro rfl;rcases B with rfl|B
  ·rw[F]at e;cases e
  ·rw[F]at B;cases B
 rcases C with J|J
 ·refine wpAny_storeName_local J hn (λh' hn' f=>?_) U;obtain⟨oL,_,_,hoL,_⟩:=id hn;refine h _ ⟨I.ok,I.os,I.bare,⟨λb o e n O C=>?_,λb o e n O C=>?_,I.base.free,λb o e C=>?_,I.base.tups,I.base.frzs,I.base.tbls⟩,⟨_,hn',λj y v' l G e3=>?_⟩,λy c e=>?_,I.free,I.freeC,λp hp=>?_,g ⟨oL,hoL,I.free⟩ f,by simpa using I.len⟩ ⟨_,f,.inl rfl⟩
  ·exact(f.2 b (bi (ba (az e) I.ok.above))).trans (I.base.keep b o e n O C)
  ·obtain⟨sl,l⟩:=I.base.slot b o e n O C;exact⟨sl,(f.2 b (bi (ba (az e) I.ok.above))).trans l⟩
  ·obtain⟨o',l⟩:=I.base.there b o e C;exact⟨o',(f.2 b (bi (ba (az e) I.ok.above))).trans l⟩
  ·by_cases K:j=i
   ·subst K;rw[T]at l;cases l;rw[List.getElem?_set_self S]at G;cases G;exact⟨u,r,.inl ⟨J,by simp⟩⟩
   ·rw[List.getElem?_set_ne (Ne.symm K)]at G;obtain⟨u',r',q⟩:=hl j y v' l G e3;refine⟨u',r',?_⟩;rcases q with⟨k,e⟩|⟨k,c,e,z⟩
    ·refine .inl ⟨k,?_⟩;have:y≠x:=λe=>K (yV hN l (e ▸ T));simp[this,e]
    ·exact .inr ⟨k,c,e,z.sameBut f (cne y c e)⟩
  ·obtain⟨Z,z⟩:=I.cell y c e;exact⟨Z,z.sameBut f (cne y c e)⟩
  ·obtain⟨e,n,ne,nf,d⟩:=I.pin p hp;exact⟨(f.2 p.1 ne).trans e,n,ne,nf,d⟩
 ·have L:X.fn x=true:=by
   rcases hf with z|z
   ·exact z
   ·rw[z]at J;cases J
  obtain⟨c,B⟩:=I.ok.has x (.inl J);obtain⟨Z,z⟩:=I.cell x c B;refine wpAny_storeName_cell I.ok.kind J B z (λh' Y f=>?_);obtain⟨oc,R,P⟩:=id z;refine h {s with heap:=h'} ⟨I.ok,I.os,I.bare,⟨λb o e n O C=>?_,λb o e n O C=>?_,I.base.free,λb o e C=>?_,I.base.tups,I.base.frzs,I.base.tbls⟩,⟨m,hn.sameBut f (Ne.symm (cne x c B)),λj y v' l G e3=>?_⟩,λy c' e=>?_,I.free,I.freeC,λp hp=>?_,g ⟨oc,R,I.freeC x c B⟩ f,by simpa using I.len⟩ ⟨c,f,.inr B⟩
  ·exact(f.2 b (bi (ba (az e) (I.ok.cab x c L B)))).trans (I.base.keep b o e n O C)
  ·obtain⟨sl,l⟩:=I.base.slot b o e n O C;exact⟨sl,(f.2 b (bi (ba (az e) (I.ok.cab x c L B)))).trans l⟩
  ·obtain⟨o',l⟩:=I.base.there b o e C;exact⟨o',(f.2 b (bi (ba (az e) (I.ok.cab x c L B)))).trans l⟩
  ·by_cases K:j=i
   ·subst K;rw[T]at l;cases l;rw[List.getElem?_set_self S]at G;cases G;exact⟨u,r,.inr ⟨.inl J,c,B,Y⟩⟩
   ·rw[List.getElem?_set_ne (Ne.symm K)]at G;obtain⟨u',r',q⟩:=hl j y v' l G e3;refine⟨u',r',?_⟩;rcases q with q|⟨k,c',e,z'⟩
    ·exact .inl q
    ·refine .inr ⟨k,c',e,z'.sameBut f ?_⟩;rintro rfl;exact K (yV hN l (I.ok.inj _ _ _ e B ▸ T))
  ·by_cases W:c'=c
   ·subst W;exact⟨_,Y⟩
   ·obtain⟨w2,z2⟩:=I.cell y c' e;exact⟨w2,z2.sameBut f W⟩
  ·obtain⟨e,n,ne,nf,d⟩:=I.pin p hp;refine⟨(f.2 p.1 ?_).trans e,n,ne,nf,d⟩;intro q;rw[q,R]at e;have q':oc=p.2:=Option.some.inj e;exact d Z (by rw[←q'];exact P)
theorem rM {M:Model}{A:Around}{E:cJ}{i:Nat}{x:Str}{v:V}{u:Value}{Q:Unit->Shared->Prop}(I:aQ X pins σ H s)(d:X.N.Nodup)(b:X.N[i]?=some x)(a:RQ X.env.scope x)(r:aU v u)
  (h:∀s',aQ X pins (σ.set i (some v)) H s'->Q () s') (c:X.fn x=true∨X.env.scope.names.lookup x=some .local:=by first|exact .inl rfl|exact .inr rfl|assumption):wpAny M A (storeName X.env x u) Q E s :=
 uI I d b a r (λs' e _=>h s' e) c
theorem aQ.call' {s':Shared}{ch:List Addr}(I:aQ X pins σ H s)(ho:s'.os=s.os)(u:Un (frs X.stack) ch H H' s.heap s'.heap)(hok:fV X.prog X.w H' s'.heap)(f:AllBare s'.gens)
  (a:∀b∈ch,(b∈X.ex∨X.s₀.heap.objs.size<=b)/\b≠X.env.locals/\(∀x c,X.env.cells.lookup x=some c->c≠b)/\∀p∈X.pn++pins,p.1≠b):aQ X pins σ H' s':=by
 obtain⟨h',g',d',t',d⟩:=s';have e:d=s.os:=ho;subst e;exact I.call (g':=g') (t':=t') (d':=d') u hok f a
end
abbrev XK:=Value->Option Addr->Hp->Prop
abbrev St:=List (Option V)
abbrev VK:=V->Hp->Prop
abbrev TE:=St->Hp->VK->Prop
abbrev TT:=St->Hp->(Bool->Hp->Prop)->Prop
abbrev TA:=St->Hp->(List V->Hp->Prop)->Prop
structure iJ where
 nx:St->Hp->Prop
 rt:VK
 bk:St->Hp->Prop:=λ_ _=>False
 ct:St->Hp->Prop:=λ_ _=>False
abbrev TS:=iJ->St->Hp->Prop
def EP (X:Cx)(a:cZ)(σ:St)(Q:VK)(u:Value)(s':Shared):Prop:=∃v H',aQ X a σ H' s'/\aU v u/\Q v H'
def TP (X:Cx)(a:cZ)(σ:St)(Q:Bool->Hp->Prop)(b:Bool)(s':Shared):Prop:=∃H',aQ X a σ H' s'/\Q b H'
def AP (X:Cx)(a:cZ)(σ:St)(Q:List V->Hp->Prop)(us:bQ)(s':Shared):Prop:=∃vs H',aQ X a σ H' s'/\aT vs us/\Q vs H'
def SP (X:Cx)(a:cZ)(D:iJ)(f:Flow)(s':Shared):Prop :=
 match f with
 | .next=>∃b H',aQ X a b H' s'/\D.nx b H'
 | .brk=>∃b H',aQ X a b H' s'/\D.bk b H'
 | .cont=>∃b H',aQ X a b H' s'/\D.ct b H'
 | .ret u=>∃v b H',aQ X a b H' s'/\aU v u/\D.rt v H'
def PE (X:Cx)(e:Expr)(t:TE):Prop :=
 ∀(a:cZ) (s:Shared) (σ:St) (H:Hp) (Q:VK),aQ X a σ H s->t σ H Q->wpAny (model X.prog X.w) X.A (eval e X.env) (EP X a σ Q) X.xe s
def PT (X:Cx)(e:Expr)(t:TT):Prop :=
 ∀(a:cZ) (s:Shared) (σ:St) (H:Hp) (Q:Bool->Hp->Prop),aQ X a σ H s->t σ H Q->wpAny (model X.prog X.w) X.A (isTrue e X.env (eval e X.env)) (TP X a σ Q) X.xe s
def PW (X:Cx)(e:Expr)(t:TT):Prop :=
 ∀(a:Sem Value) (pins:cZ) (s:Shared) (σ:St) (H:Hp) (Q:Bool->Hp->Prop),aQ X pins σ H s->t σ H Q->wpAny (model X.prog X.w) X.A (isTrue e X.env a) (TP X pins σ Q) X.xe s
theorem PW.pt {X:Cx}{e:Expr}{t:TT}(h:PW X e t):PT X e t:=h _
def PA (X:Cx)(es:mJ)(t:TA):Prop :=
 ∀(a:Pos) (pins:cZ) (s:Shared) (σ:St) (H:Hp) (Q:List V->Hp->Prop),aQ X pins σ H s->t σ H Q->wpAny (model X.prog X.w) X.A (spliced (backTo a (starEach es X.env))) (AP X pins σ Q) X.xe s
def PS (X:Cx)(st:Stmt)(t:TS):Prop :=
 ∀(a:cZ) (s:Shared) (σ:St) (H:Hp) (D:iJ),aQ X a σ H s->t D σ H->wpAny (model X.prog X.w) X.A (exec st X.env) (SP X a D) X.xe s
def AJ (X:Cx)(st:List Stmt)(t:TS):Prop :=
 ∀(a:cZ) (s:Shared) (σ:St) (H:Hp) (D:iJ),aQ X a σ H s->t D σ H->wpAny (model X.prog X.w) X.A (execs st X.env) (SP X a D) X.xe s
theorem thn {α:Type}{t:Sem α}{Q b:α->Shared->Prop}{M:Model}{A:Around}{E:cJ}{s:Shared}(h:wpAny M A t Q E s)(c:∀a s,Q a s->b a s):wpAny M A t b E s:=wpAny_mono h c λ_ _ x=>x
section
variable {X:Cx}
theorem bin {a b:Expr}{i g:TE}(C:PE X a i)(B:PE X b g){c:cZ}{s:Shared}{σ:St}{H:Hp}{R:V->V->Hp->Prop}(I:aQ X c σ H s)(h:i σ H λx e=>g σ e λy d=>R x y d)
  {α:Type} {Q:α->Shared->Prop} {f:Value->Value->Sem α}
  (z:∀v u s2 x y d,aQ X c σ d s2->aU x v->aU y u->R x y d->wpAny (model X.prog X.w) X.A (f v u) Q X.xe s2) :
  wpAny (model X.prog X.w) X.A (eval a X.env) (λv l=>wpAny (model X.prog X.w) X.A (eval b X.env) (λu j=>wpAny (model X.prog X.w) X.A (f v u) Q X.xe j) X.xe l) X.xe s:=by
 refine thn (C c s σ H _ I h) λv m ⟨x,e,F,r1,r⟩=>?_;refine thn (B c m σ e _ F r) λu s2 ⟨y,d,E,o,q⟩=>?_;exact z v u s2 x y d E r1 o q
def tVar (i:Nat):TE:=λσ H Q=>∃v,σ[i]?=some (some v)/\Q v H
def tC (v:V):TE:=λ_ H Q=>Q v H
theorem BI {i:Nat}{x:Str}{f:Pos}(A:X.N[i]?=some x)(o:Q6 X.env.scope x)(hd:(x == ("__debug__" : Str))=false:=by decide)(g:(x == ("__classdict__" : Str))=false:=by decide):PE X (.Name x f) (tVar i):=by
 intro d s σ H Q I h;obtain⟨v,e,h⟩:=h;obtain⟨m,q,z⟩:=I.loc;obtain⟨u,r,l⟩:=z i x v A e o;have fin:EP X d σ Q u s:=⟨v,H,I,r,h⟩
 rcases l with⟨b,w⟩|⟨b,c,j,a⟩
 ·exact wpAny_Name (wpAny_loadName_local I.ok.kind b q w fin) hd
 ·rcases b with b|b
  ·exact wpAny_Name (wpAny_loadName_cell I.ok.kind b j a fin) hd
  ·exact wpAny_Name (wpAny_loadName_free I.ok.kind b j a fin g) hd
theorem aJ {i j pos}:PE X (.Constant (.int i) j pos) (tC (.int i)):=λ_ _ _ H _ I h=>wpAny_Constant_int ⟨.int i,H,I.tok _,⟨_,rfl⟩,h⟩
theorem jK {b j pos}:PE X (.Constant (.bool b) j pos) (tC (.bl b)):=λ_ _ _ H _ I h=>Constant_bool ⟨.bl b,H,I,rfl,h⟩
theorem kW {j pos}:PE X (.Constant .none j pos) (tC .non):=λ_ _ _ H _ I h=>Constant_none ⟨.non,H,I,rfl,h⟩
theorem cS {x j pos}:PE X (.Constant (.str x) j pos) (tC (.str x)):=λ_ _ _ H _ I h=>Calls.Constant_str ⟨.str x,H,I.tok _,⟨_,rfl⟩,h⟩
def Gl (X:Cx)(x:Str):Prop:=X.env.kindOf x=some .globalImplicit
theorem j4 {E:cJ}{a:cZ}{s:Shared}{σ:St}{H:Hp}{x:Str}{u:Value}{b:Pos}{Q:cJ}(I:aQ X a σ H s)(d:Gl X x)(c:X.mg x=some u)(h:Q u s)
  (hd:(x == ("__debug__" : Str))=false:=by decide):wpAny (model X.prog X.w) X.A (eval (.Name x b) X.env) Q E s :=
 Calls.Name_function_global I.ok.kind d (Calls.loadGlobal_global (by rw[I.ok.glob];exact I.mod.glob.keeps I.bk) c h) hd
theorem pG {E:cJ}{a:cZ}{s:Shared}{σ:St}{H:Hp}{x:Str}{u:Value}{b:Pos}{Q:cJ}(I:aQ X a σ H s)(f:Gl X x)(e:X.mg x=none)(c:bootBuiltins x=some u)(h:Q u s)
  (d:x≠"__name__":=by decide) (hd:(x == ("__debug__" : Str))=false:=by decide):wpAny (model X.prog X.w) X.A (eval (.Name x b) X.env) Q E s:=by
 obtain⟨j,i,g⟩:=I.mod.blt;exact Calls.Name_function_global I.ok.kind f (Calls.loadGlobal_builtin (by rw[I.ok.glob];exact I.mod.glob.keeps I.bk) e (by rw[I.ok.blt];exact i.keeps I.bk) ((g x d).trans c) h) hd
theorem MF {x:Str}{v:V}{u:Value}{a:Pos}(c:Gl X x)(b:X.mg x=some u)(r:aU v u)(hd:(x == ("__debug__" : Str))=false:=by decide):PE X (.Name x a) (tC v) :=
 λ_ _ _ H _ I h=>j4 I c b ⟨v,H,I,r,h⟩ hd
theorem bJ {x:Str}{v:V}{u:Value}{a:Pos}(e:Gl X x)(d:X.mg x=none)(b:bootBuiltins x=some u)(r:aU v u)(c:x≠"__name__":=by decide)(hd:(x == ("__debug__" : Str))=false:=by decide):PE X (.Name x a) (tC v) :=
 λ_ _ _ H _ I h=>pG I e d b ⟨v,H,I,r,h⟩ c hd
variable {a b:Expr}{ta tb:TE}{pos:Pos}
variable {tA tB':TT}{rest:mJ}
def tAnd (t u:TT):TT:=λσ H Q=>t σ H λc a=>if c=true then u σ a Q else Q false a
def tOr (t u:TT):TT:=λσ H Q=>t σ H λc a=>if c=true then Q true a else u σ a Q
def tNot (t:TT):TT:=λσ H Q=>t σ H λc a=>Q (!c) a
theorem DU (d:PT X a tA):PW X (.BoolOp .And [a] pos) tA:=by
 intro f b s σ H Q I h;refine isTrue_and (thn (d b s σ H Q I h) λc g e=>?_);cases c with
 | true=>exact isTrue_and_nil e
 | false=>exact e
theorem fN (d:PT X a tA):PW X (.BoolOp .Or [a] pos) tA:=by
 intro f b s σ H Q I h;refine isTrue_or (thn (d b s σ H Q I h) λc g e=>?_);cases c with
 | false=>exact isTrue_or_nil e
 | true=>exact e
theorem IX (m:PT X a tA)(l:PW X (.BoolOp .And (b::rest) pos) tB'):PW X (.BoolOp .And (a::b::rest) pos) (tAnd tA tB'):=by
 intro i d s σ H Q I h;refine isTrue_and (thn (m d s σ H _ I h) λc j ⟨g,f,e⟩=>?_);cases c with
 | true=>exact l i d j σ g Q f e
 | false=>exact⟨g,f,e⟩
theorem iA (m:PT X a tA)(l:PW X (.BoolOp .Or (b::rest) pos) tB'):PW X (.BoolOp .Or (a::b::rest) pos) (tOr tA tB'):=by
 intro i d s σ H Q I h;refine isTrue_or (thn (m d s σ H _ I h) λc j ⟨g,f,e⟩=>?_);cases c with
 | true=>exact⟨g,f,e⟩
 | false=>exact l i d j σ g Q f e
theorem cR (d:PT X a tA):PT X (.UnaryOp .Not a pos) (tNot tA):=by intro b s σ H Q I h;exact isTrue_not (d b s σ H (λc e=>Q (!c) e) I h)
def tAndV (d b:TE):TE:=λσ H Q=>d σ H λx a=>∃c,x = .bl c/\if c=true then b σ a Q else Q (.bl false) a
def tOrV (d b:TE):TE:=λσ H Q=>d σ H λx a=>∃c,x = .bl c/\if c=true then Q (.bl true) a else b σ a Q
def tNotV (a:TE):TE:=λσ H Q=>a σ H λx b=>∃c,x = .bl c/\Q (.bl (!c)) b
theorem pC {op}{t:TE}(h:PE X a t):PE X (.BoolOp op [a] pos) t:=λb s σ H Q I c=>BoolOp_one (h b s σ H Q I c)
theorem wL (l:PE X a ta)(j:PE X (.BoolOp .And (b::rest) pos) tb):PE X (.BoolOp .And (a::b::rest) pos) (tAndV ta tb):=by
 intro d s σ H Q I h;refine BoolOp_and (thn (l d s σ H _ I h) λv i ⟨x,g,f,r1,e⟩=>?_);obtain⟨c,rfl,e⟩:=e;cases r1;refine wpAny_truthy_bool ?_;cases c with
 | true=>exact j d i σ g Q f e
 | false=>exact⟨.bl false,g,f,rfl,e⟩
theorem RA (l:PE X a ta)(j:PE X (.BoolOp .Or (b::rest) pos) tb):PE X (.BoolOp .Or (a::b::rest) pos) (tOrV ta tb):=by
 intro d s σ H Q I h;refine BoolOp_or (thn (l d s σ H _ I h) λv i ⟨x,g,f,r1,e⟩=>?_);obtain⟨c,rfl,e⟩:=e;cases r1;refine wpAny_truthy_bool ?_;cases c with
 | false=>exact j d i σ g Q f e
 | true=>exact⟨.bl true,g,f,rfl,e⟩
theorem PN (e:PE X a ta):PE X (.UnaryOp .Not a pos) (tNotV ta):=by intro b s σ H Q I h;refine UnaryOp_ (thn (e b s σ H _ I h) λv i ⟨x,g,f,r1,d⟩=>?_);obtain⟨c,rfl,d⟩:=d;cases r1;exact not_of (wpAny_truthy_bool ⟨.bl (!c),g,f,rfl,d⟩)
def tIf (t:TT)(d b:TE):TE:=λσ H Q=>t σ H λc a=>if c=true then d σ a Q else b σ a Q
theorem kX {c:Expr}(l:PT X c tA)(o:PE X a ta)(m:PE X b tb):PE X (.IfExp c a b pos) (tIf tA ta tb):=by
 intro e s σ H Q I h;refine wpAny_IfExp (thn (l e s σ H _ I h) λd f ⟨j,i,g⟩=>?_);cases d with
 | true=>exact o e f σ j Q i g
 | false=>exact m e f σ j Q i g
end
def eH (K:PySem.W.Frag)(H:Hp)(a:Addr)(xs:List V):Prop :=
 Rd H a (.lst xs) ∨
  ∃(o:Obj) (its:i8) (n:Nat),K.lookup a=some o/\o.cls = .type "list"/\o.dict=none/\o.data = .seq its n/\its.size<=sizeLine/\aT xs its.toList
def iU (K:PySem.W.Frag)(H:Hp)(a:Addr)(xs:List V):Prop :=
 Rd H a (.tup xs) ∨
  ∃(o:Obj) (its:i8) (n:Nat),K.lookup a=some o/\o.cls = .type "tuple"/\o.data = .seq its n/\its.size<=sizeLine/\aT xs its.toList
noncomputable def absV:Value->Option V
 | .none=>some .non
 | .bool b=>some (.bl b)
 | .int i _=>some (.int i)
 | .str x _=>some (.str x)
 | .bytes b _=>some (.byt b)
 | .float b _=>some (.flt b)
 | .ref a=>some (.ref a)
 | .type n=>some (.ty n)
 | _=>none
theorem aU.abs {x:V}{u:Value}(r:aU x u):absV u=some x:=by
 cases x with
 | non=>cases r;rfl
 | bl _=>cases r;rfl
 | int _=>obtain⟨t,rfl⟩:=r;rfl
 | str _=>obtain⟨t,rfl⟩:=r;rfl
 | byt _=>obtain⟨t,rfl⟩:=r;rfl
 | flt _=>obtain⟨t,rfl⟩:=r;rfl
 | ref _=>cases r;rfl
 | ty _=>cases r;rfl
theorem aU.inj {x y:V}{u:Value}(r:aU x u)(q:aU y u):x=y:=Option.some.inj (r.abs.symm.trans q.abs)
theorem aT.inj {xs a:List V}{us:bQ}(h:aT xs us)(g:aT a us):xs=a:=by
 induction h generalizing a with
 | nil=>cases g;rfl
 | cons r t b=>cases g with|cons r' t'=>rw[r.inj r',b t']
section
variable {X:Cx}{pins:cZ}{σ:St}{H:Hp}{s:Shared}{a:Addr}{xs ys:List V}
theorem eH.of {K:PySem.W.Frag}(h:H a=some (.lst xs)):eH K H a xs:=.inl (.inl h)
theorem iU.of {K:PySem.W.Frag}(h:H a=some (.tup xs)):iU K H a xs:=.inl (.inl h)
theorem aQ.list (I:aQ X pins σ H s)(h:eH X.K H a xs):∃its:bQ,aT xs its/\PlainL s.heap a its.toArray/\xs.length<=sizeLine:=by
 rcases h with h|⟨o,its,n,c,d,hd,b,hz,r⟩
 ·obtain⟨z,its,n,r,e⟩:=h.ok I.hok;exact⟨its,r,⟨_,n,e,rfl,rfl,rfl⟩,z⟩
 ·refine⟨its.toList,r,⟨o,n,I.kIn a o c,d,hd,by simpa using b⟩,?_⟩;have e:=r.length;simp only[bj]at e;omega
theorem aQ.tuple (I:aQ X pins σ H s)(h:iU X.K H a xs):∃its:bQ,aT xs its/\IsTup s.heap a its.toArray/\xs.length<=sizeLine:=by
 rcases h with h|⟨o,its,n,c,d,b,hz,r⟩
 ·obtain⟨z,its,r,p⟩:=h.ok I.hok;exact⟨its,r,p,z⟩
 ·refine⟨its.toList,r,⟨o,I.kIn a o c,d,n,by simpa using b⟩,?_⟩;have e:=r.length;simp only[bj]at e;omega
theorem aQ.list_inj (I:aQ X pins σ H s)(h:eH X.K H a xs)(h':eH X.K H a ys):xs=ys:=by
 obtain⟨its,r,⟨o,n,e,_,_,d⟩,_⟩:=I.list h;obtain⟨its',c,⟨g,i,b,_,_,d'⟩,_⟩:=I.list h';rw[e]at b;cases b;rw[d]at d';injection d' with f _;have:its=its':=by simpa using congrArg Array.toList f
 subst this;exact r.inj c
theorem aQ.tuple_inj (I:aQ X pins σ H s)(h:iU X.K H a xs)(h':iU X.K H a ys):xs=ys:=by
 obtain⟨its,r,⟨o,e,_,n,d⟩,_⟩:=I.tuple h;obtain⟨its',c,⟨g,b,_,i,d'⟩,_⟩:=I.tuple h';rw[e]at b;cases b;rw[d]at d';injection d' with f _;have:its=its':=by simpa using congrArg Array.toList f
 subst this;exact r.inj c
end
noncomputable abbrev Cx.wish (X:Cx)(E:cJ):Cx:={X with xe:=E}
noncomputable abbrev Cx.nox (X:Cx):Cx:=X.wish λ_ _=>False
theorem Cx.Ok.wish {X:Cx}(ok:X.Ok)(E:cJ):(X.wish E).Ok :=
 ⟨ok.mod,ok.kind,ok.glob,ok.blt,ok.above,ok.inj,ok.has,ok.cab,ok.hd,ok.frames,ok.stk,ok.exf,ok.bs,ok.bsz,ok.noex,ok.exfs,ok.funs,ok.frf⟩
theorem Cx.Ok.unwish {X:Cx}{E:cJ}(ok:(X.wish E).Ok):X.Ok :=
 ⟨ok.mod,ok.kind,ok.glob,ok.blt,ok.above,ok.inj,ok.has,ok.cab,ok.hd,ok.frames,ok.stk,ok.exf,ok.bs,ok.bsz,ok.noex,ok.exfs,ok.funs,ok.frf⟩
section
variable {X:Cx}{pins:cZ}{σ:St}{H:Hp}{s:Shared}{E:cJ}
theorem aQ.wish (I:aQ X pins σ H s)(E:cJ):aQ (X.wish E) pins σ H s:=⟨I.ok.wish E,I.os,I.bare,I.base,I.loc,I.cell,I.free,I.freeC,I.pin,I.hok,I.len⟩
theorem aQ.unwish (I:aQ (X.wish E) pins σ H s):aQ X pins σ H s:=⟨I.ok.unwish,I.os,I.bare,I.base,I.loc,I.cell,I.free,I.freeC,I.pin,I.hok,I.len⟩
theorem SP.unwish {D:iJ}{f:Flow}{s':Shared}(h:SP (X.wish E) pins D f s'):SP X pins D f s':=by
 cases f with
 | next=>obtain⟨a,H',I,q⟩:=h;exact⟨a,H',I.unwish,q⟩
 | brk=>obtain⟨a,H',I,q⟩:=h;exact⟨a,H',I.unwish,q⟩
 | cont=>obtain⟨a,H',I,q⟩:=h;exact⟨a,H',I.unwish,q⟩
 | ret u=>obtain⟨v,a,H',I,r,q⟩:=h;exact⟨v,a,H',I.unwish,r,q⟩
theorem AJ.nox {st:List Stmt}{t:TS}(h:AJ X.nox st t):AJ X st t:=λa s σ H D I b =>
 wpAny_mono (h a s σ H D (I.wish _) b) (λ_ _ q=>q.unwish) λ_ _ z=>False.elim z
end
section
variable {X:Cx}{st:Stmt}{rest:List Stmt}{t u:TS}{e:Expr}{te:TE}{pos:Pos}
def tNext:TS:=λD σ H=>D.nx σ H
def tSeq (t u:TS):TS:=λD σ H=>t {D with nx:=u D} σ H
theorem aW:AJ X [] tNext:=λ_ _ σ H _ I h=>wpAny_execs_nil ⟨σ,H,I,h⟩
theorem aD (e:PS X st t)(d:AJ X rest u):AJ X (st::rest) (tSeq t u):=by
 intro a s σ H D I h;refine wpAny_execs_cons (thn (e a s σ H {D with nx:=u D} I h) λf c q=>?_);cases f with
 | next =>
  obtain⟨b,H',g,q⟩:=q;exact d a c b H' D g q
 | ret v=>exact q
 | brk=>exact q
 | cont=>exact q
theorem aG (b:PS X st t):AJ X [st] t:=by
 intro a s σ H D I h;refine wpAny_execs_cons (thn (b a s σ H D I h) λf c q=>?_);cases f with
 | next=>exact wpAny_execs_nil q
 | ret v=>exact q
 | brk=>exact q
 | cont=>exact q
theorem aQ.quiet {a:cZ}{σ:St}{H:Hp}{s:Shared}(I:aQ X a σ H s):interactive X.env=false:=by simp[interactive,I.ok.kind]
def tDrop (a:TE):TS:=λD σ H=>a σ H λ_ b=>D.nx σ b
theorem cB (d:PE X e te)(c:swapsWith e none pos.line X.env=pure false:=by rfl):PS X (.Expr e pos) (tDrop te):=by intro a s σ H D I h;exact wpAny_Expr_any (thn (d a s σ H _ I h) λv i ⟨x,g,f,r1,b⟩=>⟨σ,g,f,b⟩) I.quiet c
def tRet (a:TE):TS:=λD σ H=>a σ H D.rt
theorem aO (c:PE X e te):PS X (.Return (some e) pos) (tRet te):=by intro a s σ H D I h;exact wpAny_Return_some (thn (c a s σ H _ I h) λv g ⟨x,f,d,r1,b⟩=>⟨x,σ,f,d,r1,b⟩)
def tIfS (c:TT)(t u:TS):TS:=λD σ H=>c σ H λb a=>if b=true then t D σ a else u D σ a
theorem bK {c:Expr}{a b:List Stmt}{f:TT}(m:PT X c f)(q:AJ X a t)(o:AJ X b u):PS X (.If c a b pos) (tIfS f t u):=by
 intro e s σ H D I h;refine wpAny_If (thn (m e s σ H _ I h) λd g ⟨l,j,i⟩=>?_);cases d with
 | true=>exact q e g σ l D j i
 | false=>exact o e g σ l D j i
def tNever:TS:=λ_ _ _=>False
theorem eJ:PS X st tNever:=λ_ _ _ _ _ _ h=>h.elim
end
abbrev TG:=V->St->Hp->(St->Hp->Prop)->Prop
abbrev QX:=List V->St->Hp->(St->Hp->Prop)->Prop
def PG (X:Cx)(a:Expr)(t:TG):Prop :=
 ∀(b:cZ) (s:Shared) (σ:St) (H:Hp) (v:V) (u:Value) (Q:St->Hp->Prop),aQ X b σ H s->aU v u->t v σ H Q ->
  wpAny (model X.prog X.w) X.A (assign a X.env u) (λ_ s'=>∃c H',aQ X b c H' s'/\Q c H') X.xe s
def RU (X:Cx)(c:mJ)(t:QX):Prop :=
 ∀(a:cZ) (s:Shared) (σ:St) (H:Hp) (vs:List V) (us:bQ) (Q:St->Hp->Prop),aQ X a σ H s->aT vs us->t vs σ H Q ->
  wpAny (model X.prog X.w) X.A (assignInOrder ((assignEach c X.env).map (·.2)) us) (λ_ s'=>∃b H',aQ X a b H' s'/\Q b H') X.xe s
abbrev QW:=V->V->V->Hp->(Hp->Prop)->Prop
def RN (X:Cx)(t:QW):Prop :=
 ∀(a:cZ) (s:Shared) (σ:St) (H:Hp) (o i v:V) (ov iv u:Value) (Q:Hp->Prop),aQ X a σ H s->aU o ov->aU i iv->aU v u->t o i v H Q ->
  wpAny (model X.prog X.w) X.A (setItem ov iv u) (λ_ s'=>∃H',aQ X a σ H' s'/\Q H') X.xe s
abbrev RT:=V->V->Hp->VK->Prop
def SJ (X:Cx)(op:Operator)(t:RT):Prop :=
 ∀(a:cZ) (s:Shared) (σ:St) (H:Hp) (x y:V) (v u:Value) (Q:VK),aQ X a σ H s->aU x v->aU y u->t x y H Q ->
  wpAny (model X.prog X.w) X.A (inplaceOp op v u) (EP X a σ Q) X.xe s
section
variable {X:Cx}{pos:Pos}
def gName (i:Nat):TG:=λv σ H Q=>Q (σ.set i (some v)) H
theorem bA {i:Nat}{x:Str}(e:X.N.Nodup)(c:X.N[i]?=some x)(b:RQ X.env.scope x)(d:X.fn x=true∨X.env.scope.names.lookup x=some .local:=by first|exact .inl rfl|exact .inr rfl|assumption):PG X (.Name x pos) (gName i):=by intro a s σ H v u Q I r h;exact wpAny_assign_Name (rM I e c b r (λs' f=>⟨_,H,f,h⟩) d)
def gNil:QX:=λvs σ H Q=>vs=[]/\Q σ H
def gCons (t:TG)(u:QX):QX:=λvs σ H Q=>∃v r,vs=v::r/\t v σ H λa H'=>u r a H' Q
theorem DX:RU X [] gNil:=by intro a s σ H vs us Q I r h;obtain⟨e,h⟩:=h;subst e;cases r;exact assignInOrder_nil ⟨σ,H,I,h⟩
theorem nV {e:Expr}{es:mJ}{t:TG}{u:QX}(j:PG X e t)(i:RU X es u)
  (g:(assignEach (e::es) X.env).map (·.2)=assign e X.env::(assignEach es X.env).map (·.2):=by rfl):RU X (e::es) (gCons t u):=by
 intro a s σ H vs us Q I r h;obtain⟨v,q,l,h⟩:=h;subst l;cases r with
 | cons r d =>
  rw[g];refine assignInOrder_cons (thn (j a s σ H _ _ _ I r h) λ_ c ⟨b,o,m,f⟩=>?_);exact i a c b o _ _ Q m d f
def gTup (K:PySem.W.Frag)(n:Nat)(t:QX):TG:=λv σ H Q=>∃a xs,v = .ref a/\iU K H a xs/\xs.length=n/\t xs σ H Q
theorem JA {es:mJ}{k:Nat}{t:QX}{n:Nat}(w:X.calm=true)(h:RU X es t)
  (m:(assignEach es X.env).length=n:=by rfl) (f:(assignEach es X.env).findIdx? (·.1)=none:=by rfl):PG X (.Tuple es k pos) (gTup X.K n t):=by
 intro c s σ H v u Q I r d;obtain⟨a,xs,x,l,q,d⟩:=d;subst x;cases r;obtain⟨its,g,j,hz⟩:=I.tuple l;refine assign_Tuple_tuple (I.ok.hd w) j (by simp[m,←q,g.length]) f λh' i=>?_;have z:aQ X c σ H {s with heap:=h'}:=I.kept (t':=s.toks) λb o e=>i b o (bi (az e)) e;exact h c _ σ H xs _ Q z (by simpa using g) d
def gSub (a b:TE)(t:QW):TG:=λv σ H Q=>a σ H λo e=>b σ e λi d=>t o i v d λc=>Q σ c
theorem wK {o i:Expr}{d e:TE}{t:QW}(ho:PE X o d)(w:PE X i e)(q:RN X t)
  (z:∀v,assign (.Subscript o i pos) X.env v=(do
   let b ←holding [v] (eval o X.env)
   let c ←holding [v,b] (eval i X.env)
   standAt pos
   holding [v,b,c] (setItem b c v)
   release [v,b,c] []):=by intro _;rfl):PG X (.Subscript o i pos) (gSub d e t):=by
 intro a s σ H v u Q I r h;rw[z];refine aa (ca (thn (ho a s σ H _ I h) λb f ⟨x,G,C,r1,m⟩=>?_));refine aa (ca (thn (w a f σ G _ C m) λc s2 ⟨y,F,B,g,l⟩=>?_));refine aa (wpAny_standAt (aa (ca (thn (q a s2 σ F x y v b c u _ B r1 g r l) λ_ J ⟨E,A,j⟩=>?_))));exact wpAny_release ⟨σ,E,A,j⟩
def tAsg (a:TE)(g:TG):TS:=λD σ H=>a σ H λx b=>g x σ b D.nx
theorem mO {b e:Expr}{c:TE}{g:TG}(m:PE X e c)(l:PG X b g)(j:swapsWithSole [b] e pos.line X.env=pure false:=by rfl)(i:swappedStores [b] e X.env=pure none:=by rfl)
  (o:(assignEach [b] X.env).map (·.2)=[assign b X.env]:=by rfl):PS X (.Assign [b] e pos) (tAsg c g):=by
 intro a s σ H D I h;refine wpAny_Assign_stores (thn (m a s σ H _ I h) λv d ⟨x,u,r,r1,f⟩=>?_) j i;rw[o];exact thn (l a d σ u x v _ r r1 f) λ_ s2 q=>q
theorem aZ {i:Nat}{x:Str}{e:Expr}{c:TE}{a:Pos}(o:X.N.Nodup)(j:X.N[i]?=some x)(f:RQ X.env.scope x)(m:PE X e c)(g:swapsWith e (some (.Name x a)) pos.line X.env=pure false:=by rfl)(l:X.fn x=true∨X.env.scope.names.lookup x=some .local:=by first|exact .inl rfl|exact .inr rfl|assumption) :
  PS X (.Assign [.Name x a] e pos) (tAsg c (gName i)):=by
 intro b s σ H D I h;refine wpAny_Assign_Name (thn (m b s σ H _ I h) λv w ⟨y,u,r,r1,d⟩=>?_) g;exact rM r o j f r1 (λs2 q=>⟨_,u,q,d⟩) l
def tAug (i:Nat)(b:TE)(a:RT):TS:=λD σ H=>∃x,σ[i]?=some (some x)/\b σ H λy d=>a x y d λz c=>D.nx (σ.set i (some z)) c
theorem PF {i:Nat}{x:Str}{e:Expr}{q:TE}{op:Operator}{o:RT}{f:Pos}(T:X.N.Nodup)(B:X.N[i]?=some x)(j:RQ X.env.scope x)(R:PE X e q)(ho:SJ X op o)(Q:X.fn x=true∨X.env.scope.names.lookup x=some .local:=by first|exact .inl rfl|exact .inr rfl|assumption) :
  PS X (.AugAssign (.Name x f) op e pos) (tAug i q o):=by
 intro a s σ H D I h;obtain⟨v,U,h⟩:=h;obtain⟨m,L,P⟩:=I.loc;have g:Q6 X.env.scope x:=by rcases j with k|k;exact .inl k;exact .inr (.inl k)
 obtain⟨u,r,l⟩:=P i x v B U g;refine wpAny_AugAssign_Name ?_;have go:wpAny (model X.prog X.w) X.A (eval e X.env) (λw E=>wpAny (model X.prog X.w) X.A (inplaceOp op u w) (λr C=>wpAny (model X.prog X.w) X.A (storeName X.env x r) (λ_=>SP X a D .next) X.xe C) X.xe E) X.xe s:=by refine thn (R a s σ H _ I h) λw F ⟨y,H1,Z,r1,K⟩=>?_;refine thn (ho a F σ H1 v y u w _ Z r r1 K) λz s2 ⟨zv,H2,Y,G,J⟩=>?_;exact rM Y T B j G (λs3 W=>⟨_,H2,W,J⟩) Q
 rcases l with⟨b,O⟩|⟨b,c,S,d⟩
 ·exact wpAny_loadName_local I.ok.kind b L O go
 ·rcases b with b|b
  ·exact wpAny_loadName_cell I.ok.kind b S d go
  ·rcases j with k|k
   ·have:X.env.scope.names.lookup x=some .free:=b;rw[k]at this;cases this
   ·have:X.env.scope.names.lookup x=some .free:=b;rw[k]at this;cases this
def IB (c:TT)(f:TS):TS:=λD σ H=>∃W:Nat->St->Hp->Prop,(∃m,W m σ H)/\∀m σ H,W m σ H ->
 c σ H λb e=>if b=true then ∃N:St->Hp->Prop,(∀a H',N a H'->∃d,d<m/\W d a H')/\f {D with nx:=N,ct:=N,bk:=D.nx} σ e else D.nx σ e
theorem rS {c:Expr}{body:List Stmt}{u:TT}{x:TS}(z:PassesOwn (model X.prog X.w) X.A X.env X.xe)(O:PT X c u)(P:AJ X body x):PS X (.While c body [] pos) (IB u x):=by
 intro a s σ H D I h;obtain⟨W,⟨L,J⟩,turn⟩:=h;refine wpAny_While (codeAny_whileLoop (λn s'=>∃r H',aQ X a r H' s'/\W n r H') ?_ L ⟨σ,H,I,J⟩);rintro n K ⟨g,F,Q,G⟩;refine wpAny_passesOwn z (thn (O a K g F _ Q (turn n g F G)) λb s2 ⟨E,C,j⟩=>?_);cases b with
 | true =>
  obtain⟨N,B,j⟩:=j;rw[aj rfl];refine wpAny_passesOwn z (thn (P a s2 g E _ C j) λf R i=>?_);cases f with
  | next =>
   obtain⟨d,e,q,n3⟩:=i;obtain⟨m,o,l⟩:=B d e n3;exact⟨m,o,d,e,q,l⟩
  | cont =>
   obtain⟨d,e,q,n3⟩:=i;obtain⟨m,o,l⟩:=B d e n3;exact⟨m,o,d,e,q,l⟩
  | brk=>exact i
  | ret v=>exact i
 | false =>
  rw[ac Bool.false_ne_true];exact wpAny_execs_nil ⟨g,E,C,j⟩
end
structure It where
 go:Nat->Hp->Prop
 yld:Nat->Hp->V->Hp->Prop
 stop:Nat->Hp->Prop
def fT (X:Cx)(a:cZ)(H:Hp)(b:Addr):Prop :=
 H b=none/\b≠X.env.locals/\b∉X.fs/\(b∈X.ex∨X.s₀.heap.objs.size<=b)/\(∀x c,X.env.cells.lookup x=some c->c≠b)/\∀p∈X.pn++a,p.1≠b
theorem aQ.fpOk {X:Cx}{a:cZ}{σ:St}{H H':Hp}{s:Shared}{b:Addr}(I:aQ X a σ H s)(d:s.heap.objs.size<=b)(g:H' b=none):fT X a H' b:=by
 refine⟨g,Nat.ne_of_gt (ba I.lt d),I.nofs d,.inr (ao I.sz d),λx c e z=>?_,λp f z=>?_⟩
 ·obtain⟨v,q⟩:=I.cell x c e;exact absurd (ba q.lt (by rw[z];exact d)) (bx _)
 ·exact absurd (ba (az (I.pin p f).1) (by rw[z];exact d)) (bx _)
structure qR (P:Program)(w:World)(K:PySem.W.Frag)(tg:Expr)(J:It)(fp:List Addr)(it:Addr)(tn:N1):Prop where
 mem:it∈fp
 obj:∀i h,tn i h->∀b∈fp,∃o,h.get? b=some o/\∀v,o.data≠.cell v
 keep:∀i h h',tn i h->(∀b∈fp,∀o,h.get? b=some o->h'.get? b=some o)->tn i h'
 item:∀(X:Cx),X.prog=P->X.w=w->X.K=K->X.calm=true->∀(i:Nat) (pins:cZ) (s:Shared) (σ:St) (H:Hp) (E:cJ),aQ X pins σ H s->(∀b∈fp,fT X pins H b)->tn i s.heap->J.go i H ->
  wpAny (model P w) X.A (pyNext (.ref it)) (λr s1=>∃u,r=some u /\
   wpAny (model P w) X.A (letOwnedTupleGo tg (.ref it) u) (λ_ s2=>∃x H',aQ X pins σ H' s2/\aU x u/\J.yld i H x H'/\tn (i+1) s2.heap/\∀b∈fp,H' b=none) E s1) E s
 done:∀(X:Cx),X.prog=P->X.w=w->X.K=K->X.calm=true->∀(i:Nat) (pins:cZ) (s:Shared) (σ:St) (H:Hp) (E:cJ),aQ X pins σ H s->(∀b∈fp,fT X pins H b)->tn i s.heap->J.stop i H ->
  wpAny (model P w) X.A (pyNext (.ref it)) (λr s1=>r=none/\aQ X pins σ H s1) E s
 self:∀(A:Around) (i:Nat) (s:Shared) (Q:cJ) (E:cJ),tn i s.heap->Q (.ref it) s->wpAny (model P w) A (pyIter (.ref it)) Q E s
abbrev TI:=St->Hp->(It->Hp->Prop)->Prop
def SK (X:Cx)(a:cZ)(σ:St)(d:Expr)(R:It->Hp->Prop)(c:Value)(s2:Shared):Prop :=
 ∃(it:Addr) (fp:List Addr) (tn:N1) (J:It) (H':Hp),c = .ref it/\aQ X a σ H' s2/\qR X.prog X.w X.K d J fp it tn/\tn 0 s2.heap/\(∀b∈fp,fT X a H' b)/\R J H'
def PI (X:Cx)(c iter:Expr)(b:TI):Prop :=
 ∀(a:cZ) (s:Shared) (σ:St) (H:Hp) (R:It->Hp->Prop),aQ X a σ H s->b σ H R ->
  wpAny (model X.prog X.w) X.A (eval iter X.env) (λv d=>wpAny (model X.prog X.w) X.A (pyIter v) (SK X a σ c R) X.xe d) X.xe s
theorem zL {M:Model}{A:Around}{E:cJ}{s:Shared}{b:Expr}{it:Addr}{u:Value}{o:Obj}{n:String}{vs:i8}{Q:Unit->Shared->Prop}(ho:s.heap.get? it=some o)(d:o.cls = .type n)(hd:o.data = .fields vs)
  (c:["enumerate","zip","dict_itemiterator","dict_reverseitemiterator","odict_iterator","itertools.zip_longest","itertools.pairwise"].contains n=false) (a:Q () s):wpAny M A (letOwnedTupleGo b (.ref it) u) Q E s:=by
 unfold letOwnedTupleGo;cases b <;> first
  | exact al a
  | (cases u <;> first
    | exact al a
    | (refine aa (wpAny_load ho ?_);rw[d,hd];show wpAny M A (if (["enumerate","zip","dict_itemiterator","dict_reverseitemiterator","odict_iterator","itertools.zip_longest","itertools.pairwise"].contains n && vs[0]? == some (rawInt _))=true then _ else _) Q E s;rw[ac (by intro h;rw[c,Bool.false_and]at h;cases h)];exact al a))
noncomputable def OO (K:PySem.W.Frag)(a:Addr):It :=
 ⟨λi H=>∃xs x,eH K H a xs/\xs[i]?=some x,λi H x H'=>H'=H/\∀xs,eH K H a xs->xs[i]?=some x,λi H=>∃xs,eH K H a xs/\xs.length<=i⟩
noncomputable def ON (K:PySem.W.Frag)(a:Addr):It :=
 ⟨λi H=>∃xs x,iU K H a xs/\xs[i]?=some x,λi H x H'=>H'=H/\∀xs,iU K H a xs->xs[i]?=some x,λi H=>∃xs,iU K H a xs/\xs.length<=i⟩
noncomputable def N7 (a:Int)(n:Nat):It:=⟨λi _=>i<n,λi H x H'=>H'=H/\x = .int (a+i),λi _=>n<=i⟩
theorem FK {P:Program}{w:World}{K:PySem.W.Frag}{Q:Expr}(a it:Addr):qR P w K Q (OO K a) [it] it (λi h=>h.IsListIter it a i) where
 mem:=by simp
 obj:=λi h st b g=>by
  have e:b=it:=by simpa using g
  subst e;obtain⟨o,e,c,d⟩:=st;exact⟨o,e,λv z=>by rw[d]at z;cases z⟩
 keep:=λi h h' st k=>st.at λo e=>k it (by simp) o e
 item:=by intro X C A F O i f s σ H E I m st B;subst C A F;obtain⟨xs,x,l,r⟩:=B;obtain⟨its,q,p,hz⟩:=I.list l;obtain⟨u,U,S⟩:=q.get r;obtain⟨N,f1,f2,L,J,G⟩:=m it (by simp);refine wpAny_pyNext_list_item st p.isList (x:=u) (by simpa using U) λh' j R=>?_;have Z:aQ X f σ H {s with heap:=h'}:=I.turned (t':=s.toks) (λb o g e=>(R.2 b g).trans e) N f1 L J G;obtain⟨o,e,c,d⟩:=id j;exact⟨u,rfl,zL (s:={s with heap:=h'}) e c d (by decide) ⟨x,H,Z,S,⟨rfl,λys T=>by rw[I.list_inj T l];exact r⟩,j,λb g=>(m b g).1⟩⟩
 done:=by intro X C A F O i f s σ H E I m st B;subst C A F;obtain⟨xs,l,r⟩:=B;obtain⟨its,q,p,hz⟩:=I.list l;obtain⟨N,f1,f2,L,J,G⟩:=m it (by simp);have hl:=q.length;exact wpAny_pyNext_list_end (I.ok.hd O) st p.isList (by simp;omega) λh' Y=>⟨rfl,I.turned (t':=s.toks) (λb o g e=>Y b o g e) N f1 L J G⟩
 self:=λ_ _ _ _ _ st h=>wpAny_pyIter_listiter st h
theorem A0 {P:Program}{w:World}{K:PySem.W.Frag}{Q:Expr}(a it:Addr):qR P w K Q (ON K a) [it] it (λi h=>h.IsTupleIter it a i) where
 mem:=by simp
 obj:=λi h st b g=>by
  have e:b=it:=by simpa using g
  subst e;obtain⟨o,e,c,d⟩:=st;exact⟨o,e,λv z=>by rw[d]at z;cases z⟩
 keep:=λi h h' st k=>st.at λo e=>k it (by simp) o e
 item:=by intro X C A F O i f s σ H E I m st B;subst C A F;obtain⟨xs,x,l,r⟩:=B;obtain⟨its,q,p,hz⟩:=I.tuple l;obtain⟨u,U,S⟩:=q.get r;obtain⟨N,f1,f2,L,J,G⟩:=m it (by simp);refine wpAny_pyNext_tuple_item st (show s.heap.IsTuple a its.toArray from p) (x:=u) (by simpa using U) λh' j R=>?_;have Z:aQ X f σ H {s with heap:=h'}:=I.turned (t':=s.toks) (λb o g e=>(R.2 b g).trans e) N f1 L J G;obtain⟨o,e,c,d⟩:=id j;exact⟨u,rfl,zL (s:={s with heap:=h'}) e c d (by decide) ⟨x,H,Z,S,⟨rfl,λys T=>by rw[I.tuple_inj T l];exact r⟩,j,λb g=>(m b g).1⟩⟩
 done:=by intro X C A F O i f s σ H E I m st B;subst C A F;obtain⟨xs,l,r⟩:=B;obtain⟨its,q,p,hz⟩:=I.tuple l;obtain⟨N,f1,f2,L,J,G⟩:=m it (by simp);have hl:=q.length;exact wpAny_pyNext_tuple_end (I.ok.hd O) st (show s.heap.IsTuple a its.toArray from p) (by simp;omega) λh' Y=>⟨rfl,I.turned (t':=s.toks) (λb o g e=>Y b o g e) N f1 L J G⟩
 self:=λ_ _ _ _ _ st h=>wpAny_pyIter_tupleiter st h
theorem A1 {P:Program}{w:World}{K:PySem.W.Frag}{C:Expr}(it:Addr)(f:Int)(n:Nat):qR P w K C (N7 f n) [it] it (λi h=>IsRangeIter h it (f+(i:Nat) * 1) ((n:Int) - (i:Nat)) 1) where
 mem:=by simp
 obj:=λi h st b c=>by
  have e:b=it:=by simpa using c
  subst e
  exact⟨_,st,λv z=>by
   have z':Data.fields _=Data.cell v:=z
   cases z'⟩
 keep:=λi h h' st k=>k it (by simp) _ st
 item:=by intro X q j r m i a s σ H E I g st l;subst q j r;obtain⟨B,f1,f2,A,x,u⟩:=g it (by simp);have W:=Walks.range (prog:=X.prog) (w:=X.w) (I.ok.hd m) it f 1 n;refine W.item i s _ _ l st λv h' tk G d F=>?_;obtain⟨t,rfl⟩:=G;have L:aQ X a σ H {s with heap:=h',toks:=tk}:=I.turned (λb o c e=>F b o (by simpa using c) e) B f1 A x u;refine⟨_,rfl,zL (s:={s with heap:=h',toks:=tk}) (n:="range_iterator") d rfl rfl (by decide) ⟨.int (f+i),H,L,⟨t,?_⟩,⟨rfl,rfl⟩,d,λb c=>(g b c).1⟩⟩;rw[Int.mul_one]
 done:=by intro X q j r m i a s σ H E I g st l;subst q j r;obtain⟨B,f1,f2,A,x,u⟩:=g it (by simp);exact wpAny_pyNext_range_end (I.ok.hd m) st (by have:n<=i:=l;omega) λh' J=>⟨rfl,I.turned (t':=s.toks) (λb o c e=>J b o c e) B f1 A x u⟩
 self:=λ_ _ _ _ _ st h=>wpAny_pyIter_rangeiter st h
section
variable {X:Cx}{tg:Expr}
theorem IW {d:cZ}{σ:St}{H:Hp}{s:Shared}{R:It->Hp->Prop}{E:cJ}{a c:Int}{t u v:Tok}{tk:Nat}(I:aQ X d σ H s)(l : -(2 ^ 62)<=a)(j:a<2 ^ 62)(i : -(2 ^ 62)<=c)(h:c<2 ^ 62)
  (q:R (N7 a (c - a).toNat) H):wpAny (model X.prog X.w) X.A (pyIter (.ref s.heap.objs.size)) (SK X d σ tg R) E {s with heap:=s.heap.push {cls:=.type "range",data:=.fields #[.int a t,.int c u,.int 1 v]},toks:=tk}:=by
 refine wpAny_pyIter_range (IsRange.new ..) (small_one l j i h) ?_;have f:aQ X d σ H {s with heap:=s.heap.push {cls:=.type "range",data:=.fields #[.int a t,.int c u,.int 1 v]},toks:=tk}:=I.kept λb o e=>ag _ e
 refine⟨(s.heap.push {cls:=.type "range",data:=.fields #[.int a t,.int c u,.int 1 v]}).objs.size,[(s.heap.push {cls:=.type "range",data:=.fields #[.int a t,.int c u,.int 1 v]}).objs.size],_,_,H,rfl,
  f.kept (t':=tk) λb o e=>ag _ e,A1 _ a (c - a).toNat,?_,λb g=>?_,q⟩
 ·have r:a+((0:Nat):Int) * 1=a:=by simp
  have m:(((c - a).toNat:Nat):Int) - ((0:Nat):Int)=Builtin.Range.rangeSize a c 1:=by rw[rangeSize_one];split <;> omega
  show IsRangeIter _ _ (a+((0:Nat):Int) * 1) ((((c - a).toNat:Nat):Int) - ((0:Nat):Int)) 1;rw[r,m];exact ar _ rfl
 ·have e:b=(s.heap.push {cls:=.type "range",data:=.fields #[.int a t,.int c u,.int 1 v]}).objs.size:=by simpa using g
  subst e;exact f.fpOk (ae _) (f.hok.fresh (ae _))
def iRng1 (a:TA):TI:=λσ H R=>a σ H λvs b=>∃j:Int,vs=[.int j]/\-(2 ^ 62)<=j/\j<2 ^ 62/\R (N7 0 j.toNat) b
def iRng2 (a:TA):TI:=λσ H R=>a σ H λvs b=>∃i j:Int,vs=[.int i,.int j]/\(-(2 ^ 62)<=i/\i<2 ^ 62/\-(2 ^ 62)<=j/\j<2 ^ 62)/\R (N7 i (j - i).toNat) b
theorem lN {a:Expr}{f:TA}{p b:Pos}(o:Gl X "range")(m:X.mg "range" = none)(u:PA X [a] f)(l:starEach [a] X.env=[(false,eval a X.env)]:=by rfl):PI X tg (.Call (.Name "range" p) [a] [] b) (iRng1 f):=by
 intro c s σ H R I h;refine Call_ (pG I o m boot_range (PyProof.Rows.callWith_type1 (thn (u b c s σ H _ I h) λus w ⟨vs,x,v,r1,d⟩=>?_) l rfl));obtain⟨j,e,d,i,q⟩:=d;subst e;cases r1 with
 | cons r g =>
  cases g;obtain⟨t,rfl⟩:=r;exact call_range_1 (IW v (by omega) (by omega) d i (by simpa using q))
def tFor (d:TI)(g:TG)(e:TS):TS:=λD σ H=>d σ H λJ h=>∃W:Nat->Nat->St->Hp->Prop,(∃m,W 0 m σ h)/\∀i m σ H,W i m σ H ->
 (J.stop i H/\D.nx σ H)∨(J.go i H/\∃N:St->Hp->Prop,(∀a H',N a H'->∃b,b<m/\W (i+1) b a H')/\∀x H',J.yld i H x H'->g x σ H' λc f=>e {D with nx:=N,ct:=N,bk:=D.nx} c f)
noncomputable def rT (a:List Addr)(h:Heap):cZ:=a.filterMap λb=>(h.get? b).map λo=>(b,o)
theorem mU {a:List Addr}{h:Heap}{b:Addr}{o:Obj}(c:b∈a)(e:h.get? b=some o):(b,o)∈rT a h:=List.mem_filterMap.mpr ⟨b,c,by rw[e];rfl⟩
theorem uO {a:List Addr}{h:Heap}{p:Addr×Obj}(c:p∈rT a h):p.1∈a/\h.get? p.1=some p.2:=by
 obtain⟨b,d,e⟩:=List.mem_filterMap.mp c;cases q:h.get? b with
 | none=>rw[q]at e;cases e
 | some o =>
  rw[q]at e;have e':(b,o)=p:=Option.some.inj e;subst e';exact⟨d,q⟩
theorem aQ.pinned {a:cZ}{σ:St}{H:Hp}{s:Shared}{c:List Addr}(I:aQ X a σ H s)(i:∀b∈c,fT X a H b)(ho:∀b∈c,∃o,s.heap.get? b=some o/\∀v,o.data≠.cell v):aQ X (a++rT c s.heap) σ H s :=
 I.pins_of λp h=>(cp.mp h).elim (λz=>I.pin p (br _ z)) λz=>by obtain⟨f,e⟩:=uO z;obtain⟨j,f1,f2,_⟩:=i p.1 f;obtain⟨o,g,d⟩:=ho p.1 f;rw[e]at g;cases g;exact⟨e,j,f1,f2,d⟩
theorem aQ.unpinned {a pl:cZ}{σ:St}{H:Hp}{s:Shared}(I:aQ X (a++pl) σ H s):aQ X a σ H s:=I.pins_of λp b=>I.pin p (br _ (bS _ b))
theorem fE {iter:Expr}{body:List Stmt}{wi:TI}{g:TG}{tb:TS}{Y:Pos}(O:PassesOwn (model X.prog X.w) X.A X.env X.xe)(hc:X.calm=true)(hi:PI X tg iter wi)(hg:PG X tg g)(l:AJ X body tb)
  (hs:∀x,foldedSetIterable iter X.env x=pure x:=by intro _;rfl):PS X (.For tg iter body [] Y) (tFor wi g tb):=by
 intro a s σ H D I h;refine wpAny_For (thn (hi a s σ H _ I h) λv s1 h1=>thn h1 λitv s2 h2=>?_) hs;obtain⟨it,Q,tn,J,H2,e,I2,T,S,f2,W,⟨m0,w0⟩,turn⟩:=h2;subst e
 -- what stays true of the iterator's objects through the loop
 have j:∀{H':Hp},(∀b∈Q,H' b=none)->∀b∈Q,fT X a H' b:=λhn b l=>⟨hn b l,(f2 b l).2⟩
 refine codeAny_forLoop_any (λn s'=>∃i G H',aQ X a G H' s'/\tn i s'.heap/\(∀b∈Q,H' b=none)/\W i n G H') ?_ m0 ⟨0,σ,H2,I2,S,λb l=>(f2 b l).1,w0⟩;rintro n s3 ⟨i,F,R,I3,K,P,w3⟩;rcases turn i n F R w3 with⟨stop,qn⟩|⟨go,N,hN,step⟩
 ·refine wpAny_passesOwn O (thn (T.done X rfl rfl rfl hc i a s3 F R X.xe I3 (j P) K stop) λr s4 ⟨Z,I4⟩=>?_);subst Z;exact wpAny_execs_nil ⟨F,R,I4,qn⟩
 ·refine wpAny_passesOwn O (thn (T.item X rfl rfl rfl hc i a s3 F R X.xe I3 (j P) K go) λr s4 ⟨u,Z,h4⟩=>?_);subst Z;refine wpAny_passesOwn O (thn h4 λ_ s5 ⟨x,H5,I5,r5,y5,E,fr5⟩=>?_);have I5':=I5.pinned (j fr5) (T.obj _ _ E);refine wpAny_passesOwn O (thn (hg _ s5 F H5 x u _ I5' r5 (step x H5 y5)) λ_ s6 ⟨σ6,H6,I6,q6⟩=>?_);refine wpAny_passesOwn O (thn (l _ s6 σ6 H6 _ I6 q6) λf U C=>?_);have q:∀{c:St} {B:Hp},aQ X (a++rT Q s5.heap) c B U->N c B->∃m,m<n/\∃i G H',aQ X a G H' U/\tn i U.heap/\(∀b∈Q,H' b=none)/\W i m G H':=λ{c B} z L=>by obtain⟨m',hm,w7⟩:=hN c B L;refine⟨m',hm,i+1,c,B,z.unpinned,T.keep _ _ _ E λb l o e=>(z.pin (b,o) (br _ (br _ (mU l e)))).1,λb l=>?_,w7⟩;obtain⟨o,e,d⟩:=T.obj _ _ E b l;exact(z.pin (b,o) (br _ (br _ (mU l e)))).2.1
  cases f with
  | next=>obtain⟨c,B,z,L⟩:=C;exact q z L
  | cont=>obtain⟨c,B,z,L⟩:=C;exact q z L
  | brk=>obtain⟨c,B,z,C⟩:=C;exact⟨c,B,z.unpinned,C⟩
  | ret v=>obtain⟨x7,c,B,z,r7,C⟩:=C;exact⟨x7,c,B,z.unpinned,r7,C⟩
end
theorem KO {K:PySem.W.Frag}{a:Addr}{xs:List V}{g:TG}{h:TS}{D:iJ}{σ:St}{H:Hp}(Pv:Nat->St->Hp->Prop)(u:Pv 0 σ H)(r:∀i σ H,i<=xs.length->Pv i σ H->eH K H a xs)
  (o:∀i x σ H,xs[i]?=some x->Pv i σ H->g x σ H λc f=>h {D with nx:=Pv (i+1),ct:=Pv (i+1),bk:=D.nx} c f) (hd:∀σ H,Pv xs.length σ H->D.nx σ H) :
  ∃W:Nat->Nat->St->Hp->Prop,(∃m,W 0 m σ H)/\∀i m σ H,W i m σ H ->
   ((OO K a).stop i H/\D.nx σ H)∨((OO K a).go i H/\∃N:St->Hp->Prop,(∀d H',N d H'->∃j,j<m/\W (i+1) j d H')/\∀x H',(OO K a).yld i H x H'->g x σ H' λc f=>h {D with nx:=N,ct:=N,bk:=D.nx} c f):=by
 refine⟨λi m σ H=>m=xs.length - i/\i<=xs.length/\Pv i σ H,⟨xs.length,by simp,au _,u⟩,?_⟩;rintro i m σ H ⟨rfl,s,p⟩;have q:=r i σ H s p;by_cases b:i<xs.length
 ·refine .inr ⟨⟨xs,xs[i],q,by simp[b]⟩,Pv (i+1),λd H' l=>⟨xs.length - (i+1),by omega,rfl,b,l⟩,λx H' y=>?_⟩;obtain⟨e,y⟩:=y;subst e;exact o i x σ _ (y xs q) p
 ·have e:i=xs.length:=by omega
  subst e;exact .inl ⟨⟨xs,q,ae _⟩,hd σ H p⟩
theorem NK {K:PySem.W.Frag}{a:Addr}{xs:List V}{g:TG}{h:TS}{D:iJ}{σ:St}{H:Hp}(Pv:Nat->St->Hp->Prop)(u:Pv 0 σ H)(r:∀i σ H,i<=xs.length->Pv i σ H->iU K H a xs)
  (o:∀i x σ H,xs[i]?=some x->Pv i σ H->g x σ H λc f=>h {D with nx:=Pv (i+1),ct:=Pv (i+1),bk:=D.nx} c f) (hd:∀σ H,Pv xs.length σ H->D.nx σ H) :
  ∃W:Nat->Nat->St->Hp->Prop,(∃m,W 0 m σ H)/\∀i m σ H,W i m σ H ->
   ((ON K a).stop i H/\D.nx σ H)∨((ON K a).go i H/\∃N:St->Hp->Prop,(∀d H',N d H'->∃j,j<m/\W (i+1) j d H')/\∀x H',(ON K a).yld i H x H'->g x σ H' λc f=>h {D with nx:=N,ct:=N,bk:=D.nx} c f):=by
 refine⟨λi m σ H=>m=xs.length - i/\i<=xs.length/\Pv i σ H,⟨xs.length,by simp,au _,u⟩,?_⟩;rintro i m σ H ⟨rfl,s,p⟩;have q:=r i σ H s p;by_cases b:i<xs.length
 ·refine .inr ⟨⟨xs,xs[i],q,by simp[b]⟩,Pv (i+1),λd H' l=>⟨xs.length - (i+1),by omega,rfl,b,l⟩,λx H' y=>?_⟩;obtain⟨e,y⟩:=y;subst e;exact o i x σ _ (y xs q) p
 ·have e:i=xs.length:=by omega
  subst e;exact .inl ⟨⟨xs,q,ae _⟩,hd σ H p⟩
theorem G0 {b:Int}{n:Nat}{g:TG}{h:TS}{D:iJ}{σ:St}{H:Hp}(Pv:Nat->St->Hp->Prop)(q:Pv 0 σ H)
  (o:∀i σ H,i<n->Pv i σ H->g (.int (b+i)) σ H λc f=>h {D with nx:=Pv (i+1),ct:=Pv (i+1),bk:=D.nx} c f) (hd:∀σ H,Pv n σ H->D.nx σ H) :
  ∃W:Nat->Nat->St->Hp->Prop,(∃m,W 0 m σ H)/\∀i m σ H,W i m σ H ->
   ((N7 b n).stop i H/\D.nx σ H)∨((N7 b n).go i H/\∃N:St->Hp->Prop,(∀d H',N d H'->∃j,j<m/\W (i+1) j d H')/\∀x H',(N7 b n).yld i H x H'->g x σ H' λc f=>h {D with nx:=N,ct:=N,bk:=D.nx} c f):=by
 refine⟨λi m σ H=>m=n - i/\i<=n/\Pv i σ H,⟨n,by simp,au _,q⟩,?_⟩;rintro i m σ H ⟨rfl,r,p⟩;by_cases a:i<n
 ·refine .inr ⟨a,Pv (i+1),λd H' l=>⟨n - (i+1),by omega,rfl,a,l⟩,λx H' y=>?_⟩;obtain⟨e,y⟩:=y;subst e y;exact o i σ _ a p
 ·have e:i=n:=by omega
  subst e;exact .inl ⟨ae _,hd σ H p⟩
abbrev R2:=V->V->Hp->VK->Prop
def iM (X:Cx)(f:Value->Value->Sem Value)(r:R2):Prop :=
 ∀(a:cZ) (s:Shared) (σ:St) (H:Hp) (x y:V) (v u:Value) (Q:VK),aQ X a σ H s->aU x v->aU y u->r x y H Q ->
  wpAny (model X.prog X.w) X.A (f v u) (EP X a σ Q) X.xe s
def R1 (X:Cx)(f:Value->Sem Value)(r:V->Hp->VK->Prop):Prop :=
 ∀(a:cZ) (s:Shared) (σ:St) (H:Hp) (x:V) (v:Value) (Q:VK),aQ X a σ H s->aU x v->r x H Q ->
  wpAny (model X.prog X.w) X.A (f v) (EP X a σ Q) X.xe s
def dN (X:Cx)(f:Value)(r:List V->Hp->VK->Prop):Prop :=
 ∀(a:cZ) (s:Shared) (σ:St) (H:Hp) (xs:List V) (us:bQ) (Q:VK),aQ X a σ H s->aT xs us->r xs H Q ->
  wpAny (model X.prog X.w) X.A (call f us) (EP X a σ Q) X.xe s
def R3 (X:Cx)(r:V->Hp->(Bool->Hp->Prop)->Prop):Prop :=
 ∀(a:cZ) (s:Shared) (σ:St) (H:Hp) (x:V) (v:Value) (Q:Bool->Hp->Prop),aQ X a σ H s->aU x v->r x H Q ->
  wpAny (model X.prog X.w) X.A (truthy v) (TP X a σ Q) X.xe s
def tOp (r:R2)(b a:TE):TE:=λσ H Q=>b σ H λx d=>a σ d λy c=>r x y c Q
def tUn (r:V->Hp->VK->Prop)(a:TE):TE:=λσ H Q=>a σ H λx b=>r x b Q
def rI (C:Int->Int->Prop)(g:Int->Int->V):R2:=λx y H Q=>∃i j,x = .int i/\y = .int j/\C i j/\Q (g i j) H
def rI0 (g:Int->Int->V):R2:=λx y H Q=>∃i j,x = .int i/\y = .int j/\Q (g i j) H
def rU (g:Int->V):V->Hp->VK->Prop:=λx H Q=>∃i,x = .int i/\Q (g i) H
section
variable {X:Cx}{a b c:Expr}{ta tb tc:TE}{pos:Pos}
theorem binT (z:PE X a ta)(r:PE X b tb){c:cZ}{s:Shared}{σ:St}{H:Hp}{R:V->V->Hp->Prop}(I:aQ X c σ H s)
  (h:ta σ H λx e=>tb σ e λy d=>R x y d) {Q:cJ} {f:Value->Value->Sem Value}
  (q:∀v u s2 x y d,aQ X c σ d s2->aU x v->aU y u->R x y d->wpAny (model X.prog X.w) X.A (f v u) Q X.xe s2) :
  wpAny (model X.prog X.w) X.A (eval a X.env) (λv i=>wpAny (model X.prog X.w) X.A (eval b X.env) (λu g=>wpAny (model X.prog X.w) X.A (f v u) Q X.xe g) X.xe i) X.xe s:=by
 refine thn (z c s σ H _ I h) λv j ⟨x,e,C,r1,o⟩=>?_;refine thn (r c j σ e _ C o) λu s2 ⟨y,d,B,l,m⟩=>?_;exact q v u s2 x y d B r1 l m
theorem bV {op:Operator}{r:R2}(ho:iM X (binaryOp op) r)(g:PE X a ta)(f:PE X b tb):PE X (.BinOp a op b pos) (tOp r ta tb):=by intro c s σ H Q I h;exact wpAny_BinOp (binT g f I h λv u s2 x y j i e d q=>ho c s2 σ j x y v u Q i e d q)
theorem kU {op:UnaryOp}{r:V->Hp->VK->Prop}(ho:R1 X (unaryOp op) r)(e:PE X a ta):PE X (.UnaryOp op a pos) (tUn r ta):=by intro b s σ H Q I h;exact UnaryOp_ (thn (e b s σ H _ I h) λv c ⟨x,g,f,r1,d⟩=>ho b c σ g x v Q f r1 d)
theorem opI {f:Value->Value->Sem Value}{C:Int->Int->Prop}{g:Int->Int->Int}
  (a:∀(i j:Int) (t u:Tok) (s:Shared) (Q:cJ) (E:cJ),C i j->Q (.int (g i j) s.toks) {s with toks:=s.toks+1}->wpAny (model X.prog X.w) X.A (f (.int i t) (.int j u)) Q E s) :
  iM X f (rI C λi j=>.int (g i j)):=by
 intro b s σ H x y v u Q I d c h;obtain⟨i,j,rfl,rfl,e,q⟩:=h;obtain⟨t,rfl⟩:=d;obtain⟨t',rfl⟩:=c;exact a i j t t' s _ _ e ⟨.int (g i j),H,I.tok _,⟨_,rfl⟩,q⟩
theorem opI0 {f:Value->Value->Sem Value}{g:Int->Int->Int}
  (a:∀(i j:Int) (t u:Tok) (s:Shared) (Q:cJ) (E:cJ),Q (.int (g i j) s.toks) {s with toks:=s.toks+1}->wpAny (model X.prog X.w) X.A (f (.int i t) (.int j u)) Q E s) :
  iM X f (rI0 λi j=>.int (g i j)):=by
 intro b s σ H x y v u Q I d c h;obtain⟨i,j,rfl,rfl,q⟩:=h;obtain⟨t,rfl⟩:=d;obtain⟨t',rfl⟩:=c;exact a i j t t' s _ _ ⟨.int (g i j),H,I.tok _,⟨_,rfl⟩,q⟩
theorem opB0 {f:Value->Value->Sem Value}{g:Int->Int->Bool}
  (a:∀(i j:Int) (t u:Tok) (s:Shared) (Q:cJ) (E:cJ),Q (.bool (g i j)) s->wpAny (model X.prog X.w) X.A (f (.int i t) (.int j u)) Q E s) :
  iM X f (rI0 λi j=>.bl (g i j)):=by
 intro b s σ H x y v u Q I d c h;obtain⟨i,j,rfl,rfl,q⟩:=h;obtain⟨t,rfl⟩:=d;obtain⟨t',rfl⟩:=c;exact a i j t t' s _ _ ⟨.bl (g i j),H,I,rfl,q⟩
def SH (i j:Int):Prop:=0<j/\j<1073741824
def SG (i j:Int):Prop:=0<=j/\j<=1000000/\i.natAbs<2 ^ 64
def Q5 (i j:Int):Prop:=(-(2 ^ 64)<i/\i<2 ^ 64)∨(-(2 ^ 64)<j/\j<2 ^ 64)
theorem Q5.ok {i j:Int}(h:Q5 i j):IntMulOk i j:=by
 rcases h with⟨b,a⟩|⟨b,a⟩
 ·exact .of_left (intBits_le_64 b a)
 ·exact .of_right (intBits_le_64 b a)
theorem PZ:iM X (binaryOp .Add) (rI0 λi j=>.int (i+j)):=opI0 λ_ _ _ _ _ _ _ q=>add_int q
theorem jZ:iM X (binaryOp .Sub) (rI0 λi j=>.int (i - j)):=opI0 λ_ _ _ _ _ _ _ q=>sub_int q
theorem r8:iM X (binaryOp .Mult) (rI Q5 λi j=>.int (i * j)):=opI λ_ _ _ _ _ _ _ a q=>mul_int q a.ok
theorem D1:iM X (binaryOp .FloorDiv) (rI SH λi j=>.int (i / j)):=opI λi j _ _ _ _ _ a q=>by have c:(0:Int)<j:=a.1;have b:j<1073741824:=a.2;exact floordiv_int (by omega) (by rw[Int.fdiv_eq_ediv_of_nonneg i (by omega)];exact q) (.inl (PyProof.noPylong_small (by omega)))
theorem mR:iM X (binaryOp .Mod) (rI (λ_ j=>0<j) λi j=>.int (i % j)):=opI λi j _ _ _ _ _ a q=>by have b:(0:Int)<j:=a;exact mod_int' (by omega) (by rw[Int.fmod_eq_emod_of_nonneg i (by omega)];exact q)
theorem PV:iM X (binaryOp .Pow) (rI SG λi j=>.int (i ^ j.toNat)):=opI λ_ _ _ _ _ _ _ a q=>pow_int_small a.1 a.2.1 a.2.2 q
theorem unI {f:Value->Sem Value}{g:Int->Int}
  (a:∀(i:Int) (t:Tok) (s:Shared) (Q:cJ) (E:cJ),Q (.int (g i) s.toks) {s with toks:=s.toks+1}->wpAny (model X.prog X.w) X.A (f (.int i t)) Q E s) :
  R1 X f (rU λi=>.int (g i)):=by
 intro b s σ H x v Q I c h;obtain⟨i,rfl,q⟩:=h;obtain⟨t,rfl⟩:=c;exact a i t s _ _ ⟨.int (g i),H,I.tok _,⟨_,rfl⟩,q⟩
theorem h9:R1 X (unaryOp .USub) (rU λi=>.int (-i)):=unI λ_ _ _ _ _ q=>neg_int q
theorem xE {a:cZ}{σ:St}{H:Hp}{s:Shared}{Q:VK}{k b:Bool}(I:aQ X a σ H s)(q:Q (.bl k) H)(e:k=b):EP X a σ Q (.bool b) s:=by subst e;exact⟨.bl k,H,I,rfl,q⟩
theorem RD:iM X (compareOp .Lt) (rI0 λi j=>.bl (decide (i<j))):=opB0 λ_ _ _ _ _ _ _ q=>lt_int q
theorem kA:iM X (compareOp .LtE) (rI0 λi j=>.bl (decide (i<=j))):=opB0 λ_ _ _ _ _ _ _ q=>le_int q
theorem OE:iM X (compareOp .Gt) (rI0 λi j=>.bl (decide (j<i))):=opB0 λ_ _ _ _ _ _ _ q=>gt_int q
theorem OF:iM X (compareOp .GtE) (rI0 λi j=>.bl (decide (j<=i))):=opB0 λ_ _ _ _ _ _ _ q=>ge_int q
theorem F9:iM X (compareOp .Lt) (λx y H Q=>∃i j,x = .str i/\y = .str j/\Q (.bl (decide (i.cps.toList<j.cps.toList))) H):=by intro a s σ H x y v u Q I c b h;obtain⟨i,j,rfl,rfl,q⟩:=h;obtain⟨t,rfl⟩:=c;obtain⟨t',rfl⟩:=b;exact lt_str (xE I q rfl)
theorem jL:iM X (compareOp .In) (λx y H Q=>∃i j,x = .str i/\y = .str j/\Q (.bl (!(Builtin.Str.occurrences j i 0 j.length 1).isEmpty)) H):=by intro a s σ H x y v u Q I c b h;obtain⟨i,j,rfl,rfl,q⟩:=h;obtain⟨t,rfl⟩:=c;obtain⟨t',rfl⟩:=b;exact in_str (xE I q rfl)
theorem JL:iM X (compareOp .Is) (λx y H Q=>y = .non/\Q (.bl (decide (x = .non))) H):=by
 intro b s σ H x y v u Q I a c h;obtain⟨rfl,q⟩:=h;cases c;refine is_none_gen (xE I q ?_);cases x <;> first
  | (cases a;rfl)
  | (obtain⟨t,rfl⟩:=a;rfl)
theorem MO:iM X (compareOp .IsNot) (λx y H Q=>y = .non/\Q (.bl (!decide (x = .non))) H):=by
 intro b s σ H x y v u Q I a c h;obtain⟨rfl,q⟩:=h;cases c;refine isnot_none_gen (xE I q ?_);cases x <;> first
  | (cases a;rfl)
  | (obtain⟨t,rfl⟩:=a;rfl)
theorem iM.or {f:Value->Value->Sem Value}{r d:R2}(h:iM X f r)(h':iM X f d):iM X f (λx y H Q=>r x y H Q∨d x y H Q):=by
 intro a s σ H x y v u Q I c b q;rcases q with q|q
 ·exact h a s σ H x y v u Q I c b q
 ·exact h' a s σ H x y v u Q I c b q
theorem nomark (b:Expr){op:CmpOp}(h:op≠.In:=by decide)(a:op≠.NotIn:=by decide):behindInMarks op b=false:=by
 have d:(op == CmpOp.In)=false:=by cases op <;> first|rfl|exact absurd rfl h
 have c:(op == CmpOp.NotIn)=false:=by cases op <;> first|rfl|exact absurd rfl a
 cases b <;> simp[behindInMarks,d,c]
theorem eS {op:CmpOp}{r:R2}(ho:iM X (compareOp op) r)(i:PE X a ta)(g:PE X b tb)(f:behindInMarks op b=false):PE X (.Compare a [op] [b] pos) (tOp r ta tb):=by intro c s σ H Q I h;exact wpAny_Compare1 (binT i g I h λv u s2 x y l j e d q=>ho c s2 σ l x y v u Q j e d q) f
def tTest (t:TE):TT:=λσ H Q=>t σ H λx H'=>∃k,x = .bl k/\Q k H'
theorem bC {op:CmpOp}{r:R2}(ho:iM X (compareOp op) r)(w:PE X a ta)(q:PE X b tb)(o:behindInMarks op b=false):PT X (.Compare a [op] [b] pos) (tTest (tOp r ta tb)):=by
 intro d s σ H Q I h
 refine wpAny_isTrue_Compare1 (thn (w d s σ H _ I h) λv f ⟨x,G,C,r1,m⟩=>thn (q d f σ G _ C m) λu s2 ⟨y,F,B,i,l⟩ =>
  thn (ho d s2 σ F x y v u _ B r1 i l) λc J ⟨z,E,A,g,k,e,j⟩=>?_) o
 subst e;cases g;exact wpAny_truthy_bool ⟨E,A,j⟩
def tChain (r f:R2)(e d c:TE):TE:=λσ H Q=>e σ H λx i=>d σ i λy h=>r x y h λz a=>∃k,z = .bl k /\
 (if k=true then c σ a λb g=>f y b g Q else Q (.bl false) a)
theorem jI {op g:CmpOp}{r l:R2}(ho:iM X (compareOp op) r)(i:iM X (compareOp g) l)(U:PE X a ta)(T:PE X b tb)(S:PE X c tc)
  (R:lastMarks [op,g] [b,c]=false:=by with_unfolding_all rfl):PT X (.Compare a [op,g] [b,c] pos) (tTest (tChain r l ta tb tc)):=by
 intro f s σ H Q I h
 refine isTrue_chain (thn (U f s σ H _ I h) λv E ⟨x,H1,I1,r1,O⟩=>test_link (thn (T f E σ H1 _ I1 O) λu s2 ⟨y,H2,I2,j,N⟩ =>
  thn (ho f s2 σ H2 x y v u _ I2 r1 j N) λd C ⟨z,q,o,J,k,e,m⟩=>?_)) R
 subst e;cases J;refine wpAny_truthy_bool ?_;cases k with
 | false =>
  obtain⟨k',Y,P⟩:=m;cases Y;exact ite_ff ⟨q,o,P⟩
 | true =>
  refine ite_tt (test_last (thn (S f C σ q _ o m) λA B ⟨w,H4,I4,G,L⟩=>thn (i f B σ H4 y w u A _ I4 j G L) λd' s5 ⟨z2,H5,Z,F,k2,W,K⟩=>?_));subst W;cases F;exact wpAny_truthy_bool ⟨H5,Z,K⟩
def LE (K:PySem.W.Frag)(x:V)(H:Hp)(k:Bool):Prop :=
 match x with
 | .non=>k=false
 | .bl b=>k=b
 | .int i=>k=(i != 0)
 | .str y=>y.length<=sizeLine/\k=((y.length:Int) != 0)
 | .byt y=>y.size<=sizeLine/\k=((y.size:Int) != 0)
 | .ref p=>(∃xs,eH K H p xs/\k=!xs.isEmpty)∨(∃xs,iU K H p xs/\k=!xs.isEmpty)∨∃a,H p=some (.dK a)/\k=!a.isEmpty
 | _=>False
theorem CG {κ:Type}{a:List (κ×V)}{vs:List (κ×Value)}(r:KV a vs):(!vs.isEmpty)=!a.isEmpty:=by cases r <;> rfl
theorem sJ {xs:List V}{its:bQ}(r:aT xs its):(!its.toArray.isEmpty)=!xs.isEmpty:=by cases r <;> simp
theorem line63:(sizeLine:Nat)<2 ^ 63:=by rw[sizeLine_eq];decide
theorem HX:R3 X (λx H Q=>∃k,LE X.K x H k/\Q k H):=by
 intro j s σ H x v Q I f h;obtain⟨k,e,q⟩:=h;have o:=line63;have l:sizeLine=16777216:=sizeLine_eq;cases x with
 | non =>
  cases f;have a:k=false:=e;subst a;exact truthy_none ⟨H,I,q⟩
 | bl b =>
  cases f;have a:k=b:=e;subst a;exact wpAny_truthy_bool ⟨H,I,q⟩
 | int i =>
  obtain⟨t,rfl⟩:=f;have a:k=(i != 0):=e;subst a;exact PySem.P.truthy_int ⟨H,I,q⟩
 | str y =>
  obtain⟨t,rfl⟩:=f;obtain⟨hy,a⟩:y.length<=sizeLine/\k=((y.length:Int) != 0):=e;subst a;exact PySem.P.truthy_str (by omega) ⟨H,I.tok _,q⟩
 | byt y =>
  obtain⟨t,rfl⟩:=f;obtain⟨hy,a⟩:y.size<=sizeLine/\k=((y.size:Int) != 0):=e;subst a;exact PySem.W.truthy_bytes (by omega) ⟨H,I.tok _,q⟩
 | ref p =>
  cases f;have a:(∃xs,eH X.K H p xs/\k=!xs.isEmpty)∨(∃xs,iU X.K H p xs/\k=!xs.isEmpty)∨∃c,H p=some (.dK c)/\k=!c.isEmpty:=e;rcases a with⟨xs,g,a⟩|⟨xs,g,a⟩|⟨c,g,a⟩
  ·subst a;obtain⟨its,r,pl,hz⟩:=I.list g;have d:=r.length;exact wpAny_truthy_list pl.isList (by simp only[ai];omega) ⟨H,I.tok _,by rw[sJ r];exact q⟩
  ·subst a;obtain⟨its,r,pl,hz⟩:=I.tuple g;have d:=r.length;exact truthy_tuple pl (by simp only[ai];omega) ⟨H,I.tok _,by rw[sJ r];exact q⟩
  ·subst a;obtain⟨hz,hS,vs,r,m⟩:c.length<=sizeLine/\(p == sysModules)=false/\∃vs,KV c vs/\s.heap.DictOf (cQ X.prog X.w) p vs:=I.hok p _ g;have d:c.length=vs.length:=Paired.length r;exact wpAny_truthy_dict hS m (by omega) ⟨H,I.tok _,by rw[CG r];exact q⟩
 | _=>exact(show False from e).elim
theorem IY (g:PE X a ta)(f:∀b,isTrue a X.env b=(do let v ←b;standAt a.pos;holding [v] (truthy v))) :
  PT X a (λσ H Q=>ta σ H λx H'=>∃k,LE X.K x H' k/\Q k H'):=by
 intro c s σ H Q I h;exact isTrue_plain (thn (g c s σ H _ I h) λv d ⟨x,j,i,r1,e⟩=>HX c d σ j x v Q i r1 e) (f _)
theorem BO:iM X (binaryOp .Add) (λx y H Q=>∃i j,x = .str i/\y = .str j/\i.length+j.length<=sizeLine/\Q (.str (i++j)) H):=by intro a s σ H x y v u Q I c b h;obtain⟨i,j,rfl,rfl,hz,q⟩:=h;obtain⟨t,rfl⟩:=c;obtain⟨t',rfl⟩:=b;exact add_str (λt' tk=>⟨.str (i++j),H,I.tok _,⟨_,rfl⟩,q⟩) hz
theorem vals1 {x:V}{us:bQ}(r:aT [x] us):∃u,us=[u]/\aU x u:=by
 cases r with
 | cons r1 a=>cases a;exact⟨_,rfl,r1⟩
theorem vals2 {x y:V}{us:bQ}(r:aT [x,y] us):∃u a,us=[u,a]/\aU x u/\aU y a:=by
 cases r with
 | cons r1 d =>
  cases d with
  | cons c b=>cases b;exact⟨_,_,rfl,r1,c⟩
theorem HD:dN X (.type "int") (λxs H Q=>(∃i,xs=[.int i]/\Q (.int i) H)∨∃k,xs=[.bl k]/\Q (.int (if k then 1 else 0)) H):=by
 intro a s σ H xs us Q I r h;rcases h with⟨i,rfl,q⟩|⟨k,rfl,q⟩
 ·obtain⟨u,rfl,t,rfl⟩:=vals1 r;exact call_int_int ⟨.int i,H,I,⟨_,rfl⟩,q⟩
 ·obtain⟨u,rfl,r1⟩:=vals1 r;cases r1;exact call_int_bool ⟨.int (if k then 1 else 0),H,I.tok _,⟨_,rfl⟩,q⟩
end
structure C5 (h:Heap)(x dx C:Addr)(mA:gX):Prop where
 obj:h.get? x=some (PySem.W.instObj C dx)
 ns:h.Ns1 dx mA
 ne:dx≠x
theorem GO {h:Heap}{d:Addr}{c:gX}(n:h.Ns1 d c):∃od,h.get? d=some od/\∀name,PySem.W.lookIn name od=some (c name):=by
 obtain⟨o,es,ep,ho,hd,i,_,g⟩:=n;refine⟨o,ho,λname=>?_⟩;have e:=g name;unfold nsFind findBy at e;rw[←Array.find?_toList]at e;unfold PySem.W.lookIn;rw[hd];dsimp only;split
 ·rename_i y q;rw[q]at e;exact congrArg some e
 ·rename_i q;rw[q]at e;have a:es.toList.any (·.refKey)=false:=by rw[List.any_eq_false];intro y f;obtain⟨z,t,b⟩:=i y (Array.mem_toList_iff.mp f);simp[DictEntry.refKey,b]
  have a':¬es.toList.any (·.refKey)=true:=by rw[a];exact Bool.false_ne_true
  rw[ac a'];exact congrArg some e
theorem C5.look {h:Heap}{x b C:Addr}{a:gX}(I:C5 h x b C a):∃od,PySem.W.InstAt h x (PySem.W.instObj C b) C (some od)/\∀name,PySem.W.lookIn name od=some (a name) :=
 let⟨od,ho,hl⟩:=GO I.ns
 ⟨od,⟨I.obj,rfl,rfl,ho⟩,hl⟩
section
variable {prog:Program}{w:World}{A:Around}{E:cJ}{s:Shared}{K:PySem.W.Frag}{x dx C f:Addr}{mA:gX}{name:Str}{v:Value}
theorem NJ {a:Bool}{Q:cJ}(X:K.In s.heap)(I:C5 s.heap x dx C mA)(f:PySem.W.plainGet K C name=true)(e:PySem.W.hasDictIn K C=true)
  (g:PySem.W.findIn K (.ref C) name=some none) (c:mA name=some v) (b:PySem.W.handedIn v=true) (h:Q v {s with toks:=s.toks+1}) :
  wpAny (model prog w) A (getAttr (.ref x) name a) Q E s:=by
 obtain⟨od,J,d⟩:=I.look;exact PySem.W.get_value X J (PySem.W.plainGet_of f).1 (PySem.W.findObj_own e g rfl (by rw[d,c])) b h
theorem KN {pl:Sem Bool}{Q:Value×bQ->Shared->Prop}(X:K.In s.heap)(I:C5 s.heap x dx C mA)(a:PySem.W.plainGet K C name=true)
  (e:PySem.W.findIn K (.ref C) name=some (some (.ref f))) (c:PySem.W.isFn K (.ref f)=true) (b:mA name=none) (h:Q (.ref f,[.ref x]) s) :
  wpAny (model prog w) A (getMethod (.ref x) name pl) Q E s:=by
 obtain⟨od,J,d⟩:=I.look;exact PySem.W.method_fn X J (PySem.W.plainGet_of a).1 (PySem.W.plainGet_of a).2 e (beq_iff_eq.mp c) (by show(PySem.W.lookIn name od).map (·.isSome)=some false;rw[d,b];rfl) h
theorem LW {ns:aN}{Q:Unit->Shared->Prop}(X:K.In s.heap)(I:C5 s.heap x dx C mA)
  (o:PySem.W.findIn K (.ref C) "__setattr__" = some (some (.builtin "object.__setattr__"))) (q:PySem.W.plainOver K C=true) (m:PySem.W.takerIn K C name=some none) (u:PySem.W.hasDictIn K C=true)
  (l:PySem.Within mA ns) (hsz:ns.length<=sizeLine)
  (h:∀h',C5 h' x dx C (λy=>if y=name then some v else mA y)->Heap.SameBut dx s.heap h'->Q () {s with heap:=h',toks:=s.toks+2}) :
  wpAny (model prog w) A (setAttr (.ref x) name v) Q E s:=by
 obtain⟨od,J,H⟩:=I.look;refine PySem.W.set_plain X J o (PySem.W.osa_open (s:={s with toks:=s.toks+1}) (r:=none) X J q m λb=>?_);obtain⟨L,z,g⟩:=PySem.W.any_some u;have j:s.heap.get? x=some ⟨.ref C,some dx,.plain,#[]⟩:=I.obj;refine aa (al (aa (aa (wpAny_loadPart j (aa (PySem.W.Looks.here (s:={s with toks:=s.toks+1}) (PySem.W.looks_clsIn X z) ?_))))));rw[g];refine al (a:=some dx) (aa (al (aa ?_)));refine wpAny_nsSet1 (s:={s with toks:=s.toks+1}) I.ns λh' d c=>?_;obtain⟨G,B,F,e,f,i⟩:=d.count (PySem.Within.cons name v l);refine aa (wpAny_lookBehind e (by rw[f];exact pastItsLine_dict (ao i (by rw[ap];omega))) ?_);exact al (h _ ⟨(c.2 _ (Ne.symm I.ne)).trans I.obj,d,I.ne⟩ c)
theorem J3 {R:Result->Shared->Prop}{vs:bQ}{a:List (Str×Value)}(X:K.In s.heap)(b:PySem.W.makesIn K C=true)
  (c:PySem.W.findIn K (.ref C) "__init__" = some (some (.ref f))) (e:PySem.W.typeIn K (.ref f)=some (.type "function"))
  (h:codeAny (model prog w) (A.under (.builtin "type.__call__" ⟨.ref C::vs,a⟩)) (.call (.ref f) ⟨.ref (s.heap.objs.size+1)::vs,a⟩) (PySem.W.InitBack (s.heap.objs.size+1) R)
   {s with heap:=(s.heap.push PySem.W.emptyDict).push (PySem.W.instObj C s.heap.objs.size)}) :
  codeAny (model prog w) A (.call (.ref C) ⟨vs,a⟩) R s:=by
 obtain⟨i,g,d,t,os⟩:=s;exact PySem.W.make_core (PySem.W.makes_of X b) (PySem.W.looks_findIn X c) (λself=>PySem.W.bind_fn X self e) (.inl rfl) h
end
noncomputable def putF (f:Str)(v:V):List (Str×V)->List (Str×V)
 | []=>[(f,v)]
 | (g,x)::r=>if g=f then(g,v)::r else(g,x)::putF f v r
theorem cA (f g:Str)(v:V):∀fs:List (Str×V),(putF f v fs).lookup g=if g=f then some v else fs.lookup g
 | []=>by
  show List.lookup g [(f,v)]=_;by_cases h:g=f
  ·have a:(g == f)=true:=beq_iff_eq.mpr h;simp only[List.lookup,a,aj h]
  ·have a:(g == f)=false:=cs.mpr h;simp only[List.lookup,a,ac h]
 | (k,x)::r=>by
  have c:=cA f g v r;rw[show putF f v ((k,x)::r)=(if k=f then(k,v)::r else(k,x)::putF f v r)from rfl];by_cases b:k=f
  ·rw[aj b];by_cases h:g=k
   ·have a:(g == k)=true:=beq_iff_eq.mpr h;simp only[List.lookup,a,aj (h.trans b)]
   ·have a:(g == k)=false:=cs.mpr h;simp only[List.lookup,a,ac (λe:g=f=>h (e.trans b.symm))]
  ·rw[ac b];by_cases h:g=k
   ·have a:(g == k)=true:=beq_iff_eq.mpr h;simp only[List.lookup,a,ac (λe:g=f=>b (h.symm.trans e))]
   ·have a:(g == k)=false:=cs.mpr h;simp only[List.lookup,a];exact c
theorem pH (f:Str)(v:V):∀fs:List (Str×V),f∈(putF f v fs).map (·.1)/\∀g,g∈fs.map (·.1)->g∈(putF f v fs).map (·.1)
 | []=>⟨by simp[putF],λg h=>by simp at h⟩
 | (k,x)::r=>by
  obtain⟨c,b⟩:=pH f v r;rw[show putF f v ((k,x)::r)=(if k=f then(k,v)::r else(k,x)::putF f v r)from rfl];by_cases a:k=f
  ·rw[aj a];subst a;exact⟨by simp,λg h=>by simpa using h⟩
  ·rw[ac a];refine⟨?_,λg h=>?_⟩
   ·rw[aS];exact ay _ c
   ·rw[aS]at h⊢;rcases cm.mp h with e|e
    ·exact cm.mpr (.inl e)
    ·exact ay _ (b g e)
theorem fH (f:Str)(v:V):∀fs:List (Str×V),(putF f v fs).length<=fs.length+1
 | []=>by simp[putF]
 | (k,x)::r=>by
  have b:=fH f v r;rw[show putF f v ((k,x)::r)=(if k=f then(k,v)::r else(k,x)::putF f v r)from rfl];by_cases a:k=f
  ·rw[aj a,ap,ap];omega
  ·rw[ac a,ap,ap];omega
theorem lX.some_of {v:V}{o:Option Value}(r:lX (some v) o):∃u,o=some u/\aU v u:=by
 cases o with
 | none=>exact(show False from r).elim
 | some u=>exact⟨u,rfl,r⟩
theorem lX.none_of {o:Option Value}(r:lX none o):o=none:=by
 cases o with
 | none=>rfl
 | some u=>exact(show False from r).elim
theorem GZ {v:V}{u:Value}(r:aU v u):PySem.W.handedIn u=true:=by
 cases v with
 | non=>cases (show u=Value.none from r);rfl
 | bl b=>cases (show u=Value.bool b from r);rfl
 | int i=>obtain⟨t,e⟩:=(show ∃t,u=Value.int i t from r);cases e;rfl
 | str x=>obtain⟨t,e⟩:=(show ∃t,u=Value.str x t from r);cases e;rfl
 | byt b=>obtain⟨t,e⟩:=(show ∃t,u=Value.bytes b t from r);cases e;rfl
 | flt b=>obtain⟨t,e⟩:=(show ∃t,u=Value.float b t from r);cases e;rfl
 | ref a=>cases (show u=Value.ref a from r);rfl
 | ty n=>cases (show u=Value.type n from r);rfl
section
variable {P:Program}{w:World}{H H':Hp}{h h':Heap}{a C dx:Addr}{fs fs':List (Str×V)}
theorem xA (hok:fV P w H h)(e:H a=some (.ins C dx fs)):∃b,C5 h a dx C b/\(∀f,lX (fs.lookup f) (b f))/\PySem.Within b (fs.map (·.1))/\fs.length<=1000/\H dx=some (.own a):=by
 obtain⟨d,z,ne,c,b,n,r,q⟩:=(show cF P w H h a (.ins C dx fs)from hok a _ e)
 exact⟨b,⟨c,n,ne⟩,r,q,z,d⟩
end
structure HJ (K:PySem.W.Frag)(C:Addr):Prop where
 pg:PySem.W.plainGet K C Str.empty=true
 hd:PySem.W.hasDictIn K C=true
 po:PySem.W.plainOver K C=true
 sa:PySem.W.findIn K (.ref C) "__setattr__" = some (some (.builtin "object.__setattr__"))
theorem HJ.get {K:PySem.W.Frag}{C:Addr}(c:HJ K C)(f:Str):PySem.W.plainGet K C f=true:=c.pg
def gU (K:PySem.W.Frag)(C:Addr)(f:Str):Prop:=PySem.W.findIn K (.ref C) f=some none
theorem gU.taker {K:PySem.W.Frag}{C:Addr}{f:Str}(n:gU K C f):PySem.W.takerIn K C f=some none:=by unfold PySem.W.takerIn;rw[show PySem.W.findIn K (.ref C) f=some none from n];rfl
structure N2 (K:PySem.W.Frag)(C:Addr)(m:Str)(f:Addr):Prop where
 at_:PySem.W.findIn K (.ref C) m=some (some (.ref f))
 fn:PySem.W.isFn K (.ref f)=true
 kp:PySem.W.keepIn K (.ref f)=true
section
variable {X:Cx}{pins:cZ}{σ:St}{H:Hp}{s:Shared}{a C dx:Addr}{fs:List (Str×V)}{f:Str}{v:V}{A:Around}{E:cJ}
theorem CH {b:Bool}{Q:cJ}(I:aQ X pins σ H s)(e:H a=some (.ins C dx fs))(c:HJ X.K C)(n:gU X.K C f)(l:fs.lookup f=some v)
  (h:∀u s',aQ X pins σ H s'->aU v u->Q u s'):wpAny (model X.prog X.w) A (getAttr (.ref a) f b) Q E s:=by
 obtain⟨g,O,r,_,_,_⟩:=xA I.hok e;obtain⟨u,i,d⟩:=lX.some_of (v:=v) (o:=g f) (by rw[←l];exact r f);exact NJ I.kIn O (c.get f) c.hd n i (GZ d) (h u _ (I.tok _) d)
theorem sP {m:Str}{g:Addr}{pl:Sem Bool}{Q:Value×bQ->Shared->Prop}(I:aQ X pins σ H s)(e:H a=some (.ins C dx fs))(c:HJ X.K C)(k:N2 X.K C m g)(l:fs.lookup m=none)
  (h:Q (.ref g,[.ref a]) s):wpAny (model X.prog X.w) A (getMethod (.ref a) m pl) Q E s:=by
 obtain⟨b,O,r,_,_,_⟩:=xA I.hok e;have d:b m=none:=lX.none_of (by rw[←l];exact r m);exact KN I.kIn O (c.get m) k.at_ k.fn d h
theorem BA {y:V}{u:Value}{Q:Unit->Shared->Prop}(I:aQ X pins σ H s)(e:H a=some (.ins C dx fs))(c:HJ X.K C)(n:gU X.K C f)(F:fs.length<1000)(m:aU y u)
  (h:∀s',aQ X pins σ (upd H a (.ins C dx (putF f y fs))) s'->Q () s'):wpAny (model X.prog X.w) A (setAttr (.ref a) f u) Q E s:=by
 obtain⟨j,O,r,i,_,ho⟩:=xA I.hok e;have hz:(fs.map (·.1)).length<=sizeLine:=by rw[af,sizeLine_eq];omega
 refine LW I.kIn O c.sa c.po n.taker c.hd i hz λh' d l=>h _ ?_;have hd:∃o,h'.get? dx=some o:=let⟨o,_,_,e',_⟩:=d.ns;⟨o,e'⟩;refine I.write (x:=a) (e:=dx) (by rw[e];exact True.intro) (.inr ho) (λb q B z=>(l.2 b B).trans z) hd ?_;refine⟨by rw[aC O.ne];exact ho,?_,O.ne,d.obj,_,d.ns,λg=>?_,λg v=>?_⟩
 ·have:=fH f y fs;omega
 ·show lX ((putF f y fs).lookup g) (if g=f then some u else j g);rw[cA];by_cases q:g=f
  ·rw[aj q,aj q];exact m
  ·rw[ac q,ac q];exact r g
 ·by_cases q:g=f
  ·rw[q];exact(pH f y fs).1
  ·refine(pH f y fs).2 g (i g λz=>v ?_);show(if g=f then some u else j g)=none;rw[ac q];exact z
theorem aQ.made (I:aQ X pins σ H s):aQ X pins σ (upd (upd H s.heap.objs.size (.own (s.heap.objs.size+1))) (s.heap.objs.size+1) (.ins C s.heap.objs.size []))
  {s with heap:=(s.heap.push PySem.W.emptyDict).push (PySem.W.instObj C s.heap.objs.size)}:=by
 have c:(s.heap.push PySem.W.emptyDict).get? s.heap.objs.size=some PySem.W.emptyDict:=ar s.heap rfl;have h:((s.heap.push PySem.W.emptyDict).push (PySem.W.instObj C s.heap.objs.size)).get? (s.heap.objs.size+1)=some (PySem.W.instObj C s.heap.objs.size):=by
  have:=ar (s.heap.push PySem.W.emptyDict) (o:=PySem.W.instObj C s.heap.objs.size) rfl
  rwa [Heap.size_push]at this
 have g:(s.heap.push PySem.W.emptyDict).Ns s.heap.objs.size (λ_=>none):=⟨PySem.W.emptyDict,#[],_,c,rfl,(λe f=>absurd f (by simp)),λ_=>rfl⟩
 have i:=I.laid (a:=s.heap.objs.size) (o:=.own (s.heap.objs.size+1)) (h':=s.heap.push PySem.W.emptyDict) (t':=s.toks) (λb u q=>ag _ q) (ae _) ⟨_,c⟩;refine i.laid (a:=s.heap.objs.size+1) (o:=.ins C s.heap.objs.size []) (t':=s.toks) (λb u q=>ag _ q) (Nat.le_of_eq (Heap.size_push _ _)) ?_;have ne:s.heap.objs.size≠s.heap.objs.size+1:=bi (Nat.lt_succ_self _);refine⟨by rw[aC ne,upd_same],au _,ne,h,λ_=>none,(Heap.Ns1.of_empty g).at λo q=>ag _ q,λ_=>True.intro,λy d=>absurd rfl d⟩
theorem NU {prog:Program}{w:World}{env:Env}{e:Expr}{f:Str}{a:Pos}{s:Shared}{Q:cJ}(c:attributeBase e f env (eval e env)=eval e env)
  (h:wpAny (model prog w) A (eval e env) (λo b=>wpAny (model prog w) A (getAttr o f true) Q E b) E s):wpAny (model prog w) A (eval (.Attribute e f a) env) Q E s :=
 Attribute_any_ h (by rw[arm_eval_Attribute,c])
end
def tFld (K:PySem.W.Frag)(c:TE)(f:Str):TE:=λσ H Q=>c σ H λx b=>∃a C d fs v,x = .ref a/\b a=some (.ins C d fs)/\HJ K C/\gU K C f/\fs.lookup f=some v/\Q v b
def sFld (K:PySem.W.Frag)(e d:TE)(f:Str):TS:=λD σ H=>d σ H λy g=>e σ g λx c=>∃a C b fs,x = .ref a/\c a=some (.ins C b fs)/\HJ K C/\gU K C f/\fs.length<1000 /\
 D.nx σ (upd c a (.ins C b (putF f y fs)))
section
variable {X:Cx}{o e value:Expr}{f:Str}{pos pos' tpos:Pos}{ta tv:TE}
theorem JC (i:PE X e ta)(j:attributeBase e f X.env (eval e X.env)=eval e X.env):PE X (.Attribute e f pos) (tFld X.K ta f):=by intro b s σ H Q I h;refine NU j (thn (i b s σ H _ I h) λu A ⟨x,w,r,d,a,C,B,fs,v,ex,m,c,n,l,q⟩=>?_);subst ex;obtain rfl:u=Value.ref a:=d;exact CH r m c n l λz s2 o g=>⟨v,w,o,g,q⟩
theorem wE (v:PE X o ta)(m:PE X value tv)(r:swapsWith value (some (.Attribute o f pos')) pos.line X.env=pure false):PS X (.Assign [.Attribute o f pos'] value pos) (sFld X.K ta tv f):=by intro b s σ H D I h;refine plainObj_wpAny_Assign_Attribute (thn (m b s σ H _ I h) λu d ⟨y,E,B,e,q⟩=>thn (v b d σ E _ B q) λj s2 ⟨x,J,A,g,a,C,G,fs,ex,w,c,n,l,i⟩=>?_) r;subst ex;obtain rfl:j=Value.ref a:=g;exact BA A w c n l e λF z=>⟨σ,_,z,i⟩
theorem OG {pl:Sem Bool}{m:Str}{d:Pos}{args:mJ}{b:cZ}{s:Shared}{σ:St}{H:Hp}{Q:cJ}{o:TE}(E:PE X e o)(I:aQ X b σ H s)
  (h:o σ H λx j=>∃a C r fs g,x = .ref a/\j a=some (.ins C r fs)/\HJ X.K C/\N2 X.K C m g/\fs.lookup m=none /\
   ∀i,aQ X b σ j i->wpAny (model X.prog X.w) X.A (callWith pos (.ref g) [.ref a] (backTo pos (starEach args X.env)) (backToKw pos (keywordEach [] X.env))) Q X.xe i)
  (B:eval (.Call (.Attribute e m d) args [] pos) X.env=(do
   let ov ←eval e X.env
   standAt d.atName
   let(f,first) ←holding [ov] (getMethod ov m pl)
   callWith pos f first (backTo pos (starEach args X.env)) (backToKw pos (keywordEach [] X.env)))) :
  wpAny (model X.prog X.w) X.A (eval (.Call (.Attribute e m d) args [] pos) X.env) Q X.xe s:=by
 refine PySem.W.methodCall_KW (pl:=pl) (thn (E b s σ H _ I h) λu i ⟨x,j,v,z,a,C,r,fs,g,ex,F,c,k,l,q⟩=>?_) B;subst ex;obtain rfl:u=Value.ref a:=z;exact sP v F c k l (q i v)
end
structure dW (k:Nat)(A:Around):Prop where
 hd:A.handled=none
 dp:A.depth+3 * k+5<recursionLimit
 un:A.units+16 * k+200<cLine
theorem dW.mono {j k:Nat}{A:Around}(r:dW k A)(h:j<=k):dW j A:=⟨r.hd,by have:=r.dp;omega,by have:=r.un;omega⟩
theorem dW.deeper {k:Nat}{A:Around}(r:dW (k+1) A)(env:Env):dW k (A.deeper env) :=
 ⟨r.hd,by have:=r.dp;show A.depth+1+3 * k+5<_;omega,by have:=r.un;show A.units+3+16 * k+200<_;omega⟩
theorem dW.in1 {k:Nat}{A:Around}(r:dW (k+1) A):dW k A.in1 :=
 ⟨r.hd,by have:=r.dp;show A.depth+3 * k+5<_;omega,by have:=r.un;show A.units+1+16 * k+200<_;omega⟩
theorem B6 {A:Around}{C:Addr}{us:bQ}{a:List (Str×Value)}:(A.under (.builtin "type.__call__" ⟨.ref C::us,a⟩)).depth=A.depth+1:=by
 first|rfl|simp[Around.under,Code.weight,Code.isCreation,Code.isGuard,Code.isCaller,Code.frames,Code.isFrame,guardIds]
theorem B5 {A:Around}{C:Addr}{us:bQ}{a:List (Str×Value)}:(A.under (.builtin "type.__call__" ⟨.ref C::us,a⟩)).units=A.units+1:=by
 first|rfl|simp[Around.under,Code.cUnits,Code.frames,Code.isFrame]
theorem dW.make {k:Nat}{A:Around}(r:dW (k+1) A)(C:Addr)(us:bQ)(a:List (Str×Value)):dW k (A.under (.builtin "type.__call__" ⟨.ref C::us,a⟩)) :=
 ⟨r.hd,by have:=r.dp;rw[B6];omega,by have:=r.un;rw[B5];omega⟩
theorem dW.depth {k:Nat}{A:Around}(r:dW k A):A.depth<recursionLimit:=by have:=r.dp;omega
theorem dW.units {k:Nat}{A:Around}(r:dW k A):A.units+64<cLine:=by have:=r.un;omega
def tNil:TA:=λ_ H Q=>Q [] H
def tCons (a:TE)(tr:TA):TA:=λσ H Q=>a σ H λx c=>tr σ c λxs b=>Q (x::xs) b
section
variable {X:Cx}{e:Expr}{es:mJ}{te:TE}{t:TA}{pos:Pos}
theorem aB:PA X [] tNil:=λ_ _ _ _ H Q I h=>Calls.spliced_nil ⟨[],H,I,.nil,h⟩
theorem aA (l:PE X e te)(j:PA X es t)(i:starEach (e::es) X.env=(false,eval e X.env)::starEach es X.env:=by rfl):PA X (e::es) (tCons te t):=by intro b a s σ H Q I h;rw[i];show wpAny _ _ (spliced ((false,eval e X.env)::backTo b (starEach es X.env))) _ _ s;refine Calls.spliced_cons (thn (l a s σ H _ I h) λu c ⟨x,r,o,r1,g⟩=>?_);exact thn (j b a c σ r _ o g) λus s2 ⟨xs,q,m,d,f⟩=>⟨x::xs,q,m,.cons r1 d,f⟩
def tTup (t:TA):TE:=λσ H Q=>t σ H λxs a=>xs.length<=sizeLine/\∀p,a p=none->Q (.ref p) (upd a p (.tup xs))
def tLst (t:TA):TE:=λσ H Q=>t σ H λxs a=>xs.length<=sizeLine/\∀p,a p=none->Q (.ref p) (upd a p (.lst xs))
theorem eB {x1}(h:PA X es t):PE X (.Tuple es x1 pos) (tTup t):=by intro a s σ H Q I g;refine wpAny_Tuple_spliced (thn (h pos a s σ H _ I g) λus c ⟨xs,f,d,r,z,q⟩=>⟨by rw[←r.length];exact z,?_⟩);have i:f c.heap.objs.size=none:=d.hok.fresh (ae _);refine⟨.ref c.heap.objs.size,upd f c.heap.objs.size (.tup xs),d.laid (t':=c.toks) (λb u e=>ag _ e) (ae _) ?_,rfl,q _ i⟩;exact⟨z,us,r,⟨_,ar _ rfl,rfl,_,rfl⟩⟩
theorem cM (h:PA X es t):PE X (.List es pos) (tLst t):=by intro a s σ H Q I g;refine wpAny_List_spliced (thn (h pos a s σ H _ I g) λus c ⟨xs,f,d,r,z,q⟩=>⟨by rw[←r.length];exact z,?_⟩);have i:f c.heap.objs.size=none:=d.hok.fresh (ae _);refine⟨.ref c.heap.objs.size,upd f c.heap.objs.size (.lst xs),d.laid (t':=c.toks) (λb u e=>ag _ e) (ae _) ?_,rfl,q _ i⟩;exact⟨z,us,0,r,ar _ rfl⟩
end
abbrev Sp:=List V->Hp->VK->XK->Prop
abbrev AT:=List Env->Hp->Shared->XK->cJ
structure tO (P:Program)(w:World)(K:PySem.W.Frag)(mg:gX)(base:Heap)(A:Around)(outer:List Env)(s:Shared)(H:Hp):Prop where
 frames:A.frames=some outer
 mod:Mod K mg base
 bs:∀b o,base.get? b=some o->s.heap.get? b=some o/\H b=none
 bsz:base.objs.size<=s.heap.objs.size
 funs:s.heap.FunFrames base outer
 frf:∀b∈frs outer,H b=none
 hok:fV P w H s.heap
 bare:AllBare s.gens
def CE (outer:List Env)(P:Program)(w:World)(H:Hp)(s:Shared)(Q:VK)(u:Value)(s':Shared):Prop :=
 ∃v H',s'.os=s.os/\AllBare s'.gens/\Un (frs outer) [] H H' s.heap s'.heap/\fV P w H' s'.heap/\aU v u/\Q v H'
def CR (CX:AT)(outer:List Env)(P:Program)(w:World)(H:Hp)(s:Shared)(Q:VK)(E:XK)(r:Result)(s':Shared):Prop :=
 match r with
 | .ok (.ret u)=>CE outer P w H s Q u s'
 | .ok _=>False
 | .error e=>CX outer H s E e s'
structure bN (P:Program)(w:World)(K:PySem.W.Frag)(mg:gX)(base:Heap)(CX:AT)(k:Nat)(f:Addr)(fd:FuncData)(ps:aN)(sp:Sp):Prop where
 len:∀vs H Q E,sp vs H Q E->vs.length=ps.length
 run:∀(A:Around) (outer:List Env) (s:Shared) (H:Hp) (args:Args) (us:bQ) (vs:List V) (Q:VK) (E:XK),dW k A->tO P w K mg base A outer s H->BindsTo s fd args (ps.zip us)->aT vs us->sp vs H Q E ->
  codeAny (model P w) A (.call (.ref f) args) (CR CX outer P w H s Q E) s
theorem bN.mono {P:Program}{w:World}{K:PySem.W.Frag}{mg:gX}{base:Heap}{CX:AT}{j k:Nat}{f:Addr}{b:FuncData}{ps:aN}{a:Sp}(F:bN P w K mg base CX j f b ps a)(h:j<=k) :
  bN P w K mg base CX k f b ps a:=⟨F.len,λA outer s H args us vs Q E c=>F.run A outer s H args us vs Q E (c.mono h)⟩
theorem tO.make {P:Program}{w:World}{K:PySem.W.Frag}{mg:gX}{base:Heap}{A:Around}{outer:List Env}{s:Shared}{H:Hp}(e:tO P w K mg base A outer s H)(C:Addr)(us:bQ)(a:List (Str×Value)) :
  tO P w K mg base (A.under (.builtin "type.__call__" ⟨.ref C::us,a⟩)) outer s H:=⟨by first|exact e.frames|(simpa [Around.under,Code.envs,Code.isFrame,pushEnvs] using e.frames),e.mod,e.bs,e.bsz,e.funs,e.frf,e.hok,e.bare⟩
section
variable {X:Cx}{pins:cZ}{σ:St}{H:Hp}{s s':Shared}
theorem aQ.env0 (I:aQ X pins σ H s):tO X.prog X.w X.K X.mg X.base X.A X.stack s H :=
 ⟨I.ok.frames,I.ok.mod,I.bs,ao I.ok.bsz I.sz,I.stack,I.stkFree,I.hok,I.bare⟩
theorem aQ.after {Q:VK}{u:Value}(I:aQ X pins σ H s)(h:CE X.stack X.prog X.w H s Q u s'):EP X pins σ Q u s':=by obtain⟨v,H',os,bare,un,hok,r,q⟩:=h;obtain⟨c,g,d,t,a⟩:=s';obtain rfl:a=s.os:=os;exact⟨v,H',I.call (h':=c) (g':=g) (d':=d) (t':=t) (ch:=[]) un hok bare (λb z=>absurd z (by simp)),r,q⟩
end
def tCall (b:Sp)(a:List V)(E:XK)(t:TA):TE:=λσ H Q=>t σ H λvs c=>b (vs++a) c Q E
def tMeth (C:Addr)(m:Str)(e:Sp)(b:List V)(E:XK)(d:TE)(t:TA):TE:=λσ H Q=>d σ H λx c=>∃a f fs,x = .ref a/\c a=some (.ins C f fs)/\fs.lookup m=none /\
 t σ c λvs g=>e (x::(vs++b)) g Q E
def tMake (C:Addr)(d:Sp)(b:List V)(E:XK)(t:TA):TE:=λσ H Q=>t σ H λvs c=>∀x a,c x=none->c a=none->a≠x ->
 d (.ref x::(vs++b)) (upd (upd c a (.own x)) x (.ins C a [])) (λv e=>v = .non/\Q (.ref x) e) E
def dZ (K:PySem.W.Frag)(a:FuncData)(ps:aN)(ds:bQ):Prop :=
 ∀(s:Shared) (us:bQ),K.In s.heap->(us++ds).length=ps.length->BindsTo s a ⟨us,[]⟩ (ps.zip (us++ds))
theorem dZ.all {K:PySem.W.Frag}{b:FuncData}{ps:aN}(h:∀us:bQ,us.length=ps.length->bindArgs b ⟨us,[]⟩=pure (ps.zip us)):dZ K b ps []:=λs us _ a=>by rw[bh]at a⊢;exact .of_eq (h us a)
def iF (CX:AT)(X:Cx)(E:XK):Prop:=∀(a:cZ) (σ:St) (H:Hp) (s:Shared) (e:Value) (s':Shared),aQ X a σ H s->CX X.stack H s E e s'->X.xe e s'
section
variable {X:Cx}{CX:AT}{k:Nat}{f C:Addr}{fd:FuncData}{ps:aN}{sp:Sp}{dvs:List V}{ds:bQ}{E:XK}{x m:Str}{p pos apos:Pos}{e o:Expr}{es:mJ}{ta:TE}{t:TA}
theorem IU {a:cZ}{σ:St}{H:Hp}{s:Shared}{Q:VK}{us:bQ}{vs:List V}(F:bN X.prog X.w X.K X.mg X.base CX k f fd ps sp)(g:dW k X.A)(j:dZ X.K fd ps ds)(hd:aT dvs ds)(d:iF CX X E)
  (I:aQ X a σ H s) (r:aT vs us) (h:sp (vs++dvs) H Q E):wpAny (model X.prog X.w) X.A (call (.ref f) us) (EP X a σ Q) X.xe s:=by
 have c:aT (vs++dvs) (us++ds):=r.append hd;have i:(us++ds).length=ps.length:=by rw[←c.length];exact F.len _ _ _ _ h
 refine wpAny_call (codeAny_mono (F.run X.A X.stack s H ⟨us,[]⟩ (us++ds) (vs++dvs) Q E g I.env0 (j s us I.kIn i) c h) λr s' b=>?_);cases r with
 | error e=>exact d a σ H s e s' I b
 | ok fl =>
  cases fl with
  | ret u=>exact I.after b
  | next=>exact False.elim b
  | brk=>exact False.elim b
  | cont=>exact False.elim b
theorem MG (F:bN X.prog X.w X.K X.mg X.base CX k f fd ps sp)(i:dW k X.A)(m:Gl X x)(j:X.mg x=some (.ref f))(l:PySem.W.keepIn X.K (.ref f)=true)(u:dZ X.K fd ps ds)(hd:aT dvs ds)(g:iF CX X E)
  (v:PA X (e::es) t) (c:(x == ("__debug__" : Str))=false:=by decide) (o:starEach (e::es) X.env=(false,eval e X.env)::starEach es X.env:=by rfl) (b:(backTo pos (starEach es X.env)).any (·.1)=false:=by rfl) :
  PE X (.Call (.Name x p) (e::es) [] pos) (tCall sp dvs E t):=by
 intro a s σ H Q I h;refine wpAny_Call_Name_kw (j4 I m j ?_ c);refine PySem.W.callWith_K (h₀:=X.base) I.ok.mod.kin l (thn (v pos a s σ H _ I h) λus z ⟨vs,B,d,r,q⟩=>⟨d.kIn,?_⟩) o b;exact IU F i u hd g d r q
theorem MD {pl:Sem Bool}(O:PE X o ta)(c:HJ X.K C)(i:N2 X.K C m f)(F:bN X.prog X.w X.K X.mg X.base CX k f fd ps sp)(N:dW k X.A)(P:dZ X.K fd ps ds)(hd:aT dvs ds)(J:iF CX X E)(R:PA X (e::es) t)
  (d:starEach (e::es) X.env=(false,eval e X.env)::starEach es X.env:=by rfl) (g:(backTo pos (starEach es X.env)).any (·.1)=false:=by rfl)
  (L:eval (.Call (.Attribute o m apos) (e::es) [] pos) X.env=(do
   let ov ←eval o X.env
   standAt apos.atName
   let(f,first) ←holding [ov] (getMethod ov m pl)
   callWith pos f first (backTo pos (starEach (e::es) X.env)) (backToKw pos (keywordEach [] X.env))):=by rfl) :
  PE X (.Call (.Attribute o m apos) (e::es) [] pos) (tMeth C m sp dvs E ta t):=by
 intro b s σ H Q I h;refine PySem.W.methodCall_KW (pl:=pl) (thn (O b s σ H _ I h) λu z ⟨x,T,v,B,a,U,fs,ex,S,l,q⟩=>?_) L;subst ex;obtain rfl:u=Value.ref a:=B;refine sP v S c i l ?_;refine PySem.W.callWith_K (first:=[.ref a]) (h₀:=X.base) I.ok.mod.kin i.kp (thn (R pos b z σ T _ v q) λus s2 ⟨vs,Y,j,r,G⟩=>⟨j.kIn,?_⟩) d g;exact IU (us:=.ref a::us) (vs:=.ref a::vs) F N P hd J j (.cons rfl r) G
structure Mk (K:PySem.W.Frag)(C f:Addr):Prop where
 makes:PySem.W.makesIn K C=true
 init:PySem.W.findIn K (.ref C) "__init__" = some (some (.ref f))
 fn:PySem.W.isFn K (.ref f)=true
 kp:PySem.W.keepIn K (.ref C)=true
theorem IT {a:cZ}{σ:St}{H:Hp}{s:Shared}{Q:VK}{us:bQ}{vs:List V}(M:Mk X.K C f)(F:bN X.prog X.w X.K X.mg X.base CX k f fd ps sp)(o:dW (k+1) X.A)(z:dZ X.K fd ps ds)(hd:aT dvs ds)
  (m:iF CX X E) (I:aQ X a σ H s) (r:aT vs us)
  (h:∀x c,H x=none->H c=none->c≠x->sp (.ref x::(vs++dvs)) (upd (upd H c (.own x)) x (.ins C c [])) (λv J=>v = .non/\Q (.ref x) J) E) :
  wpAny (model X.prog X.w) X.A (call (.ref C) us) (EP X a σ Q) X.xe s:=by
 have i:=h (s.heap.objs.size+1) s.heap.objs.size (I.hok.fresh (Nat.le_succ _)) (I.hok.fresh (ae _)) (bi (Nat.lt_succ_self _));have d:=aQ.made (C:=C) I;have g:aT (V.ref (s.heap.objs.size+1)::(vs++dvs)) (Value.ref (s.heap.objs.size+1)::(us++ds)):=.cons rfl (r.append hd);have q:(Value.ref (s.heap.objs.size+1)::us++ds).length=ps.length:=by have e:=g.length;rw[F.len _ _ _ _ i]at e;exact e.symm
 refine wpAny_call (J3 (f:=f) I.kIn M.makes M.init (beq_iff_eq.mp M.fn) (codeAny_mono (F.run _ X.stack _ _ ⟨Value.ref (s.heap.objs.size+1)::us,[]⟩ (Value.ref (s.heap.objs.size+1)::(us++ds)) _ _ E (o.make C us [])
  (d.env0.make C us []) (z _ (Value.ref (s.heap.objs.size+1)::us) d.kIn q) g i) λr s' b=>?_))
 cases r with
 | error e=>exact m a σ _ _ e s' d b
 | ok fl =>
  cases fl with
  | ret u =>
   obtain⟨v,H',G,j,B,l⟩:=d.after b;subst B;exact⟨j,⟨V.ref (s.heap.objs.size+1),H',G,rfl,l⟩⟩
  | next=>exact False.elim b
  | brk=>exact False.elim b
  | cont=>exact False.elim b
theorem ME (M:Mk X.K C f)(F:bN X.prog X.w X.K X.mg X.base CX k f fd ps sp)(i:dW (k+1) X.A)(l:Gl X x)(j:X.mg x=some (.ref C))(o:dZ X.K fd ps ds)(hd:aT dvs ds)(g:iF CX X E)
  (u:PA X (e::es) t) (c:(x == ("__debug__" : Str))=false:=by decide) (m:starEach (e::es) X.env=(false,eval e X.env)::starEach es X.env:=by rfl) (b:(backTo pos (starEach es X.env)).any (·.1)=false:=by rfl) :
  PE X (.Call (.Name x p) (e::es) [] pos) (tMake C sp dvs E t):=by
 intro a s σ H Q I h;refine wpAny_Call_Name_kw (j4 I l j ?_ c);refine PySem.W.callWith_K (h₀:=X.base) I.ok.mod.kin M.kp (thn (u pos a s σ H _ I h) λus v ⟨vs,z,d,r,q⟩=>⟨d.kIn,?_⟩) m b;exact IT M F i o hd g d r q
end
def PK (X:Cx)(b:List Keyword)(t:TA):Prop :=
 ∀(a:Pos) (pins:cZ) (s:Shared) (σ:St) (H:Hp) (Q:List V->Hp->Prop),aQ X pins σ H s->t σ H Q->wpAny (model X.prog X.w) X.A (evalAll ((backToKw a (keywordEach b X.env)).map (·.2))) (AP X pins σ Q) X.xe s
section
variable {X:Cx}{CX:AT}{k:Nat}{f C:Addr}{fd:FuncData}{ps ks:aN}{sp:Sp}{E:XK}{x m:Str}{p pos apos kpos:Pos}{e o:Expr}{es:mJ}{kws:List Keyword}{te ta:TE}{t tk:TA}{nm:Option Str}
theorem PJ:PK X [] tNil:=λ_ _ _ _ H Q I h=>wpAny_evalAll_nil ⟨[],H,I,.nil,h⟩
theorem MA (j:PE X e te)(i:PK X kws t):PK X (⟨nm,e,kpos⟩::kws) (tCons te t):=by intro b a s σ H Q I h;show wpAny _ _ (evalAll ((do let v ←eval e X.env;standAt b;pure v)::(backToKw b (keywordEach kws X.env)).map (·.2))) _ _ s;refine wpAny_evalAll_cons (aa (thn (j a s σ H _ I h) λu c ⟨x,q,m,r1,g⟩=>aa (wpAny_standAt (al ?_))));exact thn (i b a c σ q _ m g) λus s2 ⟨xs,o,l,d,f⟩=>⟨x::xs,o,l,.cons r1 d,f⟩
variable {g:bQ->bQ->bQ}{gV:List V->List V->List V}
end
structure aR (N P:aN)(sc:Scope):Prop where
 kind:sc.kind = .function
 co:sc.isCoroutine=false
 gen:sc.isGenerator=false
 nd:N.Nodup
 pre:N.take P.length=P
 par:∀x∈P,sc.names.lookup x=some .local∨sc.names.lookup x=some .cell
 nofree:∀y∈sc.names,y.2≠.free
theorem vE {a:Str->Option NameKind}{x:Str}:∀{binds:List (Str×Value)} {m:gX},(∀v,(x,v)∉binds)->bindL a binds m x=m x
 | [],_,_=>rfl
 | (n,v)::r,m,h=>by
  unfold bindL;rw[vE λw b=>h w (ay _ b)];split
  ·have:x≠n:=by rintro rfl;exact h v av
   simp[this]
  ·rfl
theorem vG {a:Str->Option NameKind}{x:Str}:∀{binds:List (Str×Value)} {m:gX},(∀v,(x,v)∉binds)->bindC a binds m x=m x
 | [],_,_=>rfl
 | (n,v)::r,m,h=>by
  unfold bindC;rw[vG λw b=>h w (ay _ b)];split
  ·rfl
  ·have:x≠n:=by rintro rfl;exact h v av
   simp[this]
theorem vF {a:Str->Option NameKind}{x:Str}{v:Value}:∀{P:aN} {vs:bQ} {i:Nat} {m:gX},P.Nodup->P[i]?=some x->vs[i]?=some v->a x=some .local ->
  bindL a (P.zip vs) m x=some v
 | [],_,_,_,_,h,_,_=>by simp at h
 | _::_,[],_,_,_,_,h,_=>by simp at h
 | p::P,w::vs,0,m,nd,c,b,d=>by
  simp at c b;subst c;subst b;show bindL a ((p,w)::P.zip vs) m p=_;unfold bindL;rw[vE λv e=>(cu.mp nd).1 (List.of_mem_zip e).1,aj d];simp
 | p::P,w::vs,i+1,m,nd,c,b,d=>by show bindL a ((p,w)::P.zip vs) m x=_;unfold bindL;exact vF (i:=i) (cu.mp nd).2 (by simpa using c) (by simpa using b) d
theorem vH {a:Str->Option NameKind}{x:Str}{v:Value}:∀{P:aN} {vs:bQ} {i:Nat} {m:gX},P.Nodup->P[i]?=some x->vs[i]?=some v->a x≠some .local ->
  bindC a (P.zip vs) m x=some v
 | [],_,_,_,_,h,_,_=>by simp at h
 | _::_,[],_,_,_,_,h,_=>by simp at h
 | p::P,w::vs,0,m,nd,c,b,d=>by
  simp at c b;subst c;subst b;show bindC a ((p,w)::P.zip vs) m p=_;unfold bindC;rw[vG λv e=>(cu.mp nd).1 (List.of_mem_zip e).1,ac d];simp
 | p::P,w::vs,i+1,m,nd,c,b,d=>by show bindC a ((p,w)::P.zip vs) m x=_;unfold bindC;exact vH (i:=i) (cu.mp nd).2 (by simpa using c) (by simpa using b) d
noncomputable def start (N:aN)(vs:List V):St:=vs.map some++List.replicate (N.length - vs.length) none
noncomputable def cxOf (CX:AT)(P:Program)(w:World)(K:PySem.W.Frag)(mg:gX)(base:Heap)(N:aN)(a:Str)(scope:Scope)(f:Addr)(c:Value)(A:Around)(outer:List Env)(s:Shared)(H:Hp)(E:XK):Cx where
 prog:=P
 w:=w
 K:=K
 mg:=mg
 base:=base
 A:=A.deeper (envOfC a scope s.heap.objs.size f c)
 N:=N
 s₀:=s
 H₀:=H
 env:=envOfC a scope s.heap.objs.size f c
 outer:=outer
 stack:=envOfC a scope s.heap.objs.size f c::outer
 ex:=[]
 calm:=true
 fn:=λ_=>true
 pn:=[]
 xe:=λe s'=>wpAny (model P w) (A.deeper (envOfC a scope s.heap.objs.size f c)) (leaving (envOfC a scope s.heap.objs.size f c) e) (λ_ b=>CX outer H s E e b) (λd b=>CX outer H s E d b) s'
theorem zX {a:Scope}{n:Nat}{x:Str}(h:a.names.lookup x=some .cell):∃c,(cellsFrom n a.names []).lookup x=some c:=by have q:=PySem.W.cellsFrom_some a.names n [] (.inl h);exact Option.isSome_iff_exists.mp q
theorem GX {CX:AT}{P:Program}{w:World}{K:PySem.W.Frag}{mg:gX}{base:Heap}{N ps:aN}{d:Str}{scope:Scope}{f:Addr}{G:Value}{A:Around}{outer:List Env}{s I:Shared}{H:Hp}{E:XK}{us:bQ}{vs:List V}
  (S:aR N ps scope) (hd:A.handled=none) (j:tO P w K mg base A outer s H) (T:vs.length=ps.length) (r:aT vs us)
  (x:InCallC s s.heap.objs.size (bindL (envOfC d scope s.heap.objs.size f G).kindOf (ps.zip us) λ_=>none) (cellsFrom (s.heap.objs.size+1) scope.names []) (bindC (envOfC d scope s.heap.objs.size f G).kindOf (ps.zip us) λ_=>none) I) :
  aQ (cxOf CX P w K mg base N d scope f G A outer s H E) [] (start N vs) H I:=by
 have Q:ps.length<=N.length:=by have:=congrArg List.length S.pre;rw[bo]at this;omega
 obtain⟨F,tk,rfl,L⟩:=x.done;have l:∀b:Addr,b∉(cxOf CX P w K mg base N d scope f G A outer s H E).ex:=λb z=>absurd (show b∈([]:List Addr)from z) (by simp)
 refine⟨⟨j.mod,S.kind,rfl,rfl,ae _,λy z c F g=>?_,λy m=>?_,λy c _ h=>?_,λ_=>hd,Around.frames_deeper j.frames,.inr ⟨rfl,rfl⟩,λb z=>absurd z (l b),j.bs,j.bsz,λb _ _=>l b,λb z=>absurd z (l b),j.funs,j.frf⟩,
  rfl,j.bare,Un.kept L,⟨_,x.toInCall.ns,λi y v F g U=>?_⟩,λy c h=>⟨_,x.cell y c h⟩,j.hok.fresh (ae _),λy c h=>?_,λp B=>absurd (show p∈([]:cZ)from B) (by simp),j.hok.kept L,?_⟩
 ·exact name_of_addr x.apart (PySem.mem_of_lookup F) (PySem.mem_of_lookup g)
 ·have m:scope.names.lookup y=some .cell∨scope.names.lookup y=some .free:=m;rcases m with m|m
  ·exact zX m
  ·exact absurd rfl (S.nofree _ (PySem.mem_of_lookup m))
 ·exact Nat.le_of_lt (x.above y c (PySem.mem_of_lookup h))
 ·have C:i<vs.length:=by
   unfold start at g;by_cases C:i<vs.length
   ·exact C
   ·rw[List.getElem?_append_right (by simpa using C)]at g;rw[List.getElem?_replicate]at g;split at g <;> cases g
  have R:vs[i]?=some v:=by
   unfold start at g;rw[List.getElem?_append_left (by simpa using C),bu]at g;cases e:vs[i]? with
   | none=>rw[e]at g;cases g
   | some a=>rw[e]at g;cases g;rfl
  obtain⟨u,J,O⟩:=r.get R;have B:ps[i]?=some y:=by rw[←S.pre,List.getElem?_take_of_lt (by omega)];exact F
  have o:ps.Nodup:=by rw[←S.pre];exact S.nd.sublist (List.take_sublist _ _)
  refine⟨u,O,?_⟩;rcases S.par y (bf B)with k|k
  ·exact .inl ⟨k,vF o B J k⟩
  ·obtain⟨c,e⟩:=zX (n:=s.heap.objs.size+1) k;refine .inr ⟨.inl k,c,e,?_⟩;have q:=x.cell y c e;rw[vH o B J (by show scope.names.lookup y≠_;rw[k];decide)]at q;exact q
 ·exact j.hok.fresh (Nat.le_of_lt (x.above y c (PySem.mem_of_lookup h)))
 ·unfold start;show _=N.length;rw[aq,af,List.length_replicate];omega
theorem OH {CX:AT}{P:Program}{w:World}{K:PySem.W.Frag}{mg:gX}{base:Heap}{k:Nat}{f:Addr}{name a:Str}{params:Arguments}{body:List Stmt}{scope:Scope}{R kV l O c ct U:Value}{T od:Option Addr}
  {osl:Array (Option Value)} {N ps:aN} {z:Sp} (X:K.lookup f=some ⟨U,od,.func (PySem.W.fnOf name a params body scope R kV l O T c ct),osl⟩) (G:PySem.W.codeIn K c a=true) (S:aR N ps scope)
  (len:∀vs H Q E,z vs H Q E->vs.length=ps.length)
  (g:∀(A:Around) (outer:List Env) (s:Shared) (H:Hp) (vs:List V) (Q:VK) (E:XK),dW k (A.deeper (envOfC a scope s.heap.objs.size f c))->z vs H Q E ->
   ∃t,AJ (cxOf CX P w K mg base N a scope f c A outer s H E) body t/\t {nx:=λ_ H'=>Q .non H',rt:=Q} (start N vs) H) :
  bN P w K mg base CX (k+1) f (PySem.W.fnOf name a params body scope R kV l O T c ct) ps z:=by
 refine⟨len,λA outer s H args us vs Q E F j hb r i=>?_⟩;have hl:=len _ _ _ _ i;have KX:K.In s.heap:=j.mod.kin.keeps λb o e=>(j.bs b o e).1;have C:s.heap.NoLimit:=j.mod.nolimit.keeps λb o e=>(j.bs b o e).1;have d:∀y∈ps.zip us,scope.names.lookup y.1=some .local∨(scope.names.lookup y.1=some .cell/\((cellsFrom (s.heap.objs.size+1) scope.names []).lookup y.1).isSome=true):=λ⟨n,v⟩ Y=>by
  rcases S.par n (List.of_mem_zip Y).1 with q|q
  ·exact .inl q
  ·exact .inr ⟨q,PySem.W.cellsFrom_some _ _ _ (.inl q)⟩
 refine codeAny_call_function F.depth (KX _ _ X) rfl S.co S.gen rfl (PySem.W.codeRec_of KX G) (hb _ _ _ _ ?_);refine wpAny_newFunctionEnv_cells S.kind d λenv he L x=>?_;subst he;refine⟨C.keeps x.toInCall.keep,codeAny_func ?_⟩;obtain⟨t,Z,hq⟩:=g A outer s H vs Q E (F.deeper _) i;have I:aQ (cxOf CX P w K mg base N a scope f c A outer s H E) [] (start N vs) H L:=GX S F.hd j hl r x;refine wpAny_mono (Z [] L (start N vs) H _ I hq) (λfl s' h=>?_) λe s' h=>h;have fin:∀{m:St} {H':Hp} {v:V} {u:Value},aQ (cxOf CX P w K mg base N a scope f c A outer s H E) [] m H' s'->aU v u->Q v H'->CE outer P w H s Q u s' :=
  λ{m H' v u} J B q=>⟨v,H',J.os,J.bare,J.base,J.hok,B,q⟩
 cases fl with
 | ret u =>
  obtain⟨v,m,H',J,B,q⟩:=h;exact fin J B q
 | next =>
  obtain⟨m,H',J,q⟩:=h;exact fin (v:=V.non) (u:=Value.none) J rfl q
 | brk =>
  obtain⟨_,_,_,q⟩:=h;exact False.elim q
 | cont =>
  obtain⟨_,_,_,q⟩:=h;exact False.elim q
section
variable {X:Cx}{x:Str}{p pos:Pos}{e:Expr}{es:mJ}{t:TA}{id T:String}{r:List V->Hp->VK->Prop}
def tCB (r:List V->Hp->VK->Prop)(t:TA):TE:=λσ H Q=>t σ H λvs a=>r vs a Q
theorem aL (o:dN X (.builtin id) r)(l:Gl X x)(j:X.mg x=none)(g:bootBuiltins x=some (.builtin id))(q:PA X (e::es) t)(i:x≠"__name__":=by decide)(c:(x == ("__debug__" : Str))=false:=by decide)
  (m:starEach (e::es) X.env=(false,eval e X.env)::starEach es X.env:=by rfl) (b:(backTo pos (starEach es X.env)).any (·.1)=false:=by rfl):PE X (.Call (.Name x p) (e::es) [] pos) (tCB r t):=by
 intro a s σ H Q I h;refine wpAny_Call_Name_kw (pG I l j g ?_ i c);exact PyProof.Rows.callWith_builtin1 (thn (q pos a s σ H _ I h) λus d ⟨vs,v,u,r1,f⟩=>o a d σ v vs us Q u r1 f) m b
theorem cH (o:dN X (.type T) r)(l:Gl X x)(j:X.mg x=none)(g:bootBuiltins x=some (.type T))(q:PA X (e::es) t)(i:x≠"__name__":=by decide)(c:(x == ("__debug__" : Str))=false:=by decide)
  (m:starEach (e::es) X.env=(false,eval e X.env)::starEach es X.env:=by rfl) (b:(backTo pos (starEach es X.env)).any (·.1)=false:=by rfl):PE X (.Call (.Name x p) (e::es) [] pos) (tCB r t):=by
 intro a s σ H Q I h;refine wpAny_Call_Name_kw (pG I l j g ?_ i c);exact PyProof.Rows.callWith_type1 (thn (q pos a s σ H _ I h) λus d ⟨vs,v,u,r1,f⟩=>o a d σ v vs us Q u r1 f) m b
end
end L2
namespace HT
open PySem PyProof.Rows
noncomputable def lexLt:List Int->List Int->Bool
 | [],[]=>false
 | [],_::_=>true
 | _::_,[]=>false
 | x::xs,y::a=>if x=y then lexLt xs a else decide (x<y)
theorem lexLt_cons (x y:Int)(xs a:List Int):lexLt (x::xs) (y::a)=if x=y then lexLt xs a else decide (x<y):=rfl
theorem eqAt_int (A:Around)(s:Shared)(a:Int)(t:Tok)(c:Int)(u:Tok):∃e,SeqAt.EqAt A s (.int a t) (.int c u) e/\(e=true ↔ a=c) :=
 ⟨(a == c),SeqAt.EqAt.int_int a t c u,by simp⟩
theorem rcLt_int (A:Around)(s:Shared)(a:Int)(t:Tok)(c:Int)(u:Tok)(prog:Program)(w:World)(E:cJ)(Q:cJ)(h:Q (.bool (decide (a<c))) s) :
  wpAny (model prog w) A (richCompare .Lt (.int a t) (.int c u)) Q E s :=
 (PyProof.Rows.lt_int h:wpAny (model prog w) A (compareOp .Lt (.int a t) (.int c u)) Q E s)
section
open PySem.SeqAt
open PySem.AutoSeq1 (wpAny_loadPart')
open PySem.MeetsSeq PySem.MeetsSeq2 PySem.MeetsSeq3
end
section
variable {prog:Program}{w:World}{A:Around}{E:cJ}{s:Shared}
theorem cat_tup {t b:Addr}{vs a:bQ}{Q:cJ}(r:IsTup s.heap t vs.toArray)(u:IsTup s.heap b a.toArray)(m:vs≠[])
  (x:a=[]->Q (.ref t) s) (v:a≠[]->Q (.ref s.heap.objs.size) {s with heap:=s.heap.push {cls:=.type "tuple",data:=.seq (vs++a).toArray} })
  (hsz:vs.length+a.length<=sizeLine):wpAny (model prog w) A (binaryOp .Add (.ref t) (.ref b)) Q E s:=by
 obtain⟨⟨cls,dd,data,l⟩,ho,o,n,hd⟩:=id r;obtain⟨⟨q,h,j,d⟩,c,g,n2,f⟩:=id u;simp only at o hd g f;subst o hd g f;have e:vs.toArray++a.toArray=(vs++a).toArray:=by simp
 by_cases i:a=[]
 ·exact concat_meets ⟨_,ho,rfl⟩ ⟨_,c,rfl⟩ noFill_tuple_add seq_tuple_add PySem.F.slot_tuple_add PySem.F.entry_tuple_add (PySem.F.args_tuple_add_2 _ _)
   (tuple_addW1 t b vs.toArray a.toArray n n2 dd h l d (by simpa using m) (by simp[i])) ⟨ho,c,x i⟩
 ·refine concat_meets ⟨_,ho,rfl⟩ ⟨_,c,rfl⟩ noFill_tuple_add seq_tuple_add PySem.F.slot_tuple_add PySem.F.entry_tuple_add (PySem.F.args_tuple_add_2 _ _)
   (tuple_addW2 t b vs.toArray a.toArray n n2 dd h l d (by simpa using m) (by simpa using i) (by rw[ai,ai];exact hsz)) ⟨ho,c,?_⟩
  rw[e];exact v i
noncomputable def sIx (n d:Nat):Option Int->Nat
 | none=>d
 | some v=>if v<0 then(v+(n:Int)).toNat else min v.toNat n
theorem sIx_none (n d:Nat):sIx n d none=d:=rfl
theorem sIx_nat (n d k:Nat):sIx n d (some (k:Int))=min k n:=by show(if (k:Int)<0 then((k:Int)+(n:Int)).toNat else min (k:Int).toNat n)=min k n;rw[ac (by omega),ci]
theorem PB (n d:Nat)(hd:d<=n)(o:Option Int):sIx n d o<=n:=by
 cases o with
 | none=>exact hd
 | some v =>
  show(if v<0 then(v+(n:Int)).toNat else min v.toNat n)<=n;by_cases a:v<0
  ·rw[aj a];omega
  ·rw[ac a];exact Nat.min_le_right _ _
theorem E5 (v:Int)(n d:Nat):(if v<0 then max (v+(n:Int)) 0 else min v (n:Int))=((sIx n d (some v):Nat):Int):=by
 show(if v<0 then max (v+(n:Int)) 0 else min v (n:Int))=(((if v<0 then(v+(n:Int)).toNat else min v.toNat n):Nat):Int);by_cases a:v<0
 ·simp only[aj a];omega
 ·simp only[ac a];omega
theorem C1 (a b:Option Int)(n:Nat):Builtin.Slice.sliceAdjust a b 1 (n:Int)=(((sIx n 0 a:Nat):Int),((sIx n n b:Nat):Int)):=by
 have c:¬((1:Int)<0):=by omega
 unfold Builtin.Slice.sliceAdjust;simp only[c,if_false];refine Prod.ext ?_ ?_
 ·cases a with
  | none=>rfl
  | some v=>exact E5 v n 0
 ·cases b with
  | none=>rfl
  | some v=>exact E5 v n n
theorem BH (i j:Nat):Builtin.Slice.slicePlaces (i:Int) (j:Int) 1=j - i:=by
 unfold Builtin.Slice.slicePlaces;have a:(1:Int) > 0:=by omega
 simp only[a,if_true,Int.ediv_one];split <;> omega
theorem slicePart_ {v:Value}{o:Option Int}{Q:Option Int->Shared->Prop}(p:IsPart v o)(h:Q o s):wpAny (model prog w) A (Builtin.Slice.slicePartIndex v) Q E s:=by
 cases p with
 | none=>exact slicePart_none h
 | int i t=>exact slicePart_int h
theorem oY {g:Addr}{f e:Value}{a c:Option Int}{n:Nat}{Q:Int×Int×Nat->Shared->Prop}(j:s.heap.IsSliceOf g f e .none)(pl:IsPart f a)(i:IsPart e c)
  (h:Q (((sIx n 0 a:Nat):Int),1,sIx n n c - sIx n 0 a) s):wpAny (model prog w) A (Builtin.Slice.sliceApplied (.ref g) (pure (n:Int))) Q E s:=by
 obtain⟨os,b,l,d⟩:=id j;unfold Builtin.Slice.sliceApplied Builtin.Slice.sliceFields;refine aa (aa (wpAny_field b d (x:=f) rfl (aa (wpAny_field b d (x:=e) rfl (aa (wpAny_field b d (x:=.none) rfl (al ?_)))))));refine aa (slicePart_none ?_);show wpAny _ _ (if ((1:Int) == 0)=true then _ else _) _ _ s;rw[ac (by decide)];refine aa (slicePart_ pl (aa (slicePart_ i (aa (al ?_)))));show wpAny _ _ (match Builtin.Slice.sliceAdjust a c 1 (n:Int)with|(a,c)=>pure (a,(1:Int),Builtin.Slice.slicePlaces a c 1)) _ _ s;rw[C1 a c n];show wpAny _ _ (pure (((sIx n 0 a:Nat):Int),(1:Int),Builtin.Slice.slicePlaces ((sIx n 0 a:Nat):Int) ((sIx n n c:Nat):Int) 1)) _ _ s;rw[BH];exact al h
theorem I9 (xs:i8)(i k:Nat):((List.range k).filterMap λ(m:Nat)=>xs[((i:Int)+(m:Int) * 1).toNat]?).toArray=((xs.toList.drop i).take k).toArray:=by
 have e:(λ(m:Nat)=>xs[((i:Int)+(m:Int) * 1).toNat]?)=λm=>xs[i+m]?:=by
  funext m;have:((i:Int)+(m:Int) * 1).toNat=i+m:=by omega
  rw[this]
 rw[e];have:=pick_run xs i k;rw[List.filterMap_map]at this;have a:((λx=>xs[x]?) ∘ λx=>i+x)=λm=>xs[i+m]?:=rfl;rw[a]at this;rw[this]
theorem getItem_tuple_cut {t e:Addr}{items:i8}{o l:Value}{b c:Option Int}{Q:cJ}(d:IsTup s.heap t items)(r:s.heap.IsSliceOf e o l .none)(pl:IsPart o b)(u:IsPart l c)
  (v:¬(sIx items.size 0 b=0/\sIx items.size items.size c=items.size))
  (h:Q (.ref s.heap.objs.size) {s with heap:=s.heap.push {cls:=.type "tuple",data:=.seq ((items.toList.drop (sIx items.size 0 b)).take (sIx items.size items.size c - sIx items.size 0 b)).toArray} })
  (hsz:items.size<=sizeLine):wpAny (model prog w) A (getItem (.ref t) (.ref e)) Q E s:=by
 have a:sizeOk (.seq ((items.toList.drop (sIx items.size 0 b)).take (sIx items.size items.size c - sIx items.size 0 b)).toArray):=by show((items.toList.drop (sIx items.size 0 b)).take (sIx items.size items.size c - sIx items.size 0 b)).toArray.size<=sizeLine;rw[ai,bo,bq,bj];omega
 have C:sIx items.size items.size c<=items.size:=PB _ _ (ae _) c;obtain⟨os,f,i,x⟩:=id r;have j:s.TypeIs (.ref e) "slice":=⟨os,f,i⟩
 unfold getItem
 try with_reducible refine ca ?_
 first|refine aa (al ?_)|skip
 refine aa (wpAny_sequenceKey d.typeIs (by decide) ?_)
 refine aa (wpAny_callSpecial?_slot (name:=Str.ofString "__getitem__") d.typeIs PyProof.Rows.slot_tuple_getitem
  (wpAny_call_entry PyProof.Rows.slot_tuple_getitem d.typeIs entry_tuple_getitem ?_ (args_tuple_getitem _ _)))
 show wpAny _ _ (Builtin.Tuple.tupleItemsOf (.ref t) >>= _) _ _ s;refine aa (tupleItemsOf_ d ?_);refine aa (wpAny_typeOf j ?_);rw[aj (by decide)];refine aa (oY r pl u ?_);have g:¬((((sIx items.size 0 b:Nat):Int) == 0 && (1:Int) == 1 && (sIx items.size items.size c - sIx items.size 0 b) == items.size)=true):=by intro q;rw[Bool.and_eq_true,Bool.and_eq_true]at q;have B:((sIx items.size 0 b:Nat):Int)=0:=eq_of_beq q.1.1;have z:sIx items.size items.size c - sIx items.size 0 b=items.size:=eq_of_beq q.2;exact v ⟨by omega,by omega⟩
 show wpAny _ _ (if (((sIx items.size 0 b:Nat):Int) == 0 && (1:Int) == 1 && (sIx items.size items.size c - sIx items.size 0 b) == items.size)=true then _ else _) _ _ s;rw[ac g,I9]
 first
  | exact aa (m:=Builtin.Tuple.tupleExact _) (bI (al ⟨_,rfl,al h⟩) a)
  | exact aa (m:=Builtin.Tuple.tupleExact _) (bI (aa (al (al ⟨_,rfl,al h⟩))) a)
  | exact aa (aa (m:=Builtin.Tuple.tupleExact _) (bI (al (al ⟨_,rfl,al h⟩)) a))
  | exact aa (aa (m:=Builtin.Tuple.tupleExact _) (bI (al ⟨_,rfl,al h⟩) a))
end
end HT
namespace L2
open PySem PySem.Spec PyProof.Rows
abbrev TO:=St->Hp->(Option Int->Hp->Prop)->Prop
def PO (X:Cx)(e:Option Expr)(t:TO):Prop :=
 ∀(a:cZ) (s:Shared) (σ:St) (H:Hp) (Q:Option Int->Hp->Prop),aQ X a σ H s->t σ H Q ->
  wpAny (model X.prog X.w) X.A (evalPart e X.env) (λu s'=>∃o H',aQ X a σ H' s'/\IsPart u o/\Q o H') X.xe s
def tNoPart:TO:=λ_ H Q=>Q none H
def tPart (t:TE):TO:=λσ H Q=>t σ H λx a=>∃i,x = .int i/\Q (some i) a
theorem sK {ns:List Int}:∀{us:bQ},aT (ns.map V.int) us->IntsAre us ns:=by
 induction ns with
 | nil=>intro us r;rw[List.map_nil]at r;cases r;exact .nil
 | cons n ns b =>
  intro us r;rw[aS]at r;cases r with
  | cons r1 a =>
   obtain⟨t,e⟩:=r1;subst e;exact .cons n t (b a)
section
variable {X:Cx}{e:Expr}{te:TE}{lo hi:Option Expr}{tl th:TO}{pos p2:Pos}
theorem dG:PO X none tNoPart:=by intro a s σ H Q I h;rw[evalPart_none];exact al ⟨none,H,I,.none,h⟩
theorem cP (h:PE X e te):PO X (some e) (tPart te):=by intro a s σ H Q I c;rw[evalPart_some];refine thn (h a s σ H _ I c) λu g ⟨x,f,d,r1,b⟩=>?_;obtain⟨i,rfl,q⟩:=b;obtain⟨t,rfl⟩:=r1;exact⟨some i,f,d,.int i t,q⟩
def RL (X:Cx)(r:V->Option Int->Option Int->Hp->VK->Prop):Prop :=
 ∀(a:cZ) (s:Shared) (σ:St) (H:Hp) (x:V) (v vl vu:Value) (lo hi:Option Int) (sl:Addr) (Q:VK),aQ X a σ H s->aU x v->s.heap.IsSliceOf sl vl vu .none->IsPart vl lo->IsPart vu hi->r x lo hi H Q ->
  ∃T id,typeLookup (.type T) "__getitem__" = pure (some (.builtin id))/\s.TypeIs v T/\wpAny (model X.prog X.w) X.A (getItem v (.ref sl)) (EP X a σ Q) X.xe s
def tSl (r:V->Option Int->Option Int->Hp->VK->Prop)(b:TE)(tl a:TO):TE:=λσ H Q=>b σ H λx e=>tl σ e λl d=>a σ d λu c=>r x l u c Q
theorem eK {r:V->Option Int->Option Int->Hp->VK->Prop}(E:RL X r)(J:PE X e te)(F:PO X lo tl)(B:PO X hi th):PE X (.Subscript e (.Slice lo hi none p2) pos) (tSl r te tl th):=by intro a s σ H Q I h;refine Subscript_ (thn (J a s σ H _ I h) λv i ⟨x,S,P,r1,o⟩=>?_);refine wpAny_Slice (thn (F a i σ S _ P o) λf s2 ⟨l,R,O,pl,m⟩=>thn (B a s2 σ R _ O m) λd c ⟨u,g,N,z,j⟩=>?_);rw[evalPart_none];refine al ?_;have L:aQ X a σ g {c with heap:=c.heap.push {cls:=.type "slice",data:=.fields #[f,d,.none]} }:=N.kept (t':=c.toks) λb U q=>ag _ q;obtain⟨T,id,K,C,G⟩:=E a {c with heap:=c.heap.push {cls:=.type "slice",data:=.fields #[f,d,.none]} } σ g x v f d l u c.heap.objs.size Q L r1 (Heap.IsSliceOf.new ..) pl z j;show wpAny (model X.prog X.w) X.A (subscriptTail e (.Slice lo hi none p2) v (.ref c.heap.objs.size)) (EP X a σ Q) X.xe {c with heap:=c.heap.push {cls:=.type "slice",data:=.fields #[f,d,.none]} };exact tail_any (ops:=[.ref c.heap.objs.size,v]) C K G (by with_unfolding_all rfl)
noncomputable def cutV (xs:List V)(a b:Option Int):List V:=(xs.drop (HT.sIx xs.length 0 a)).take (HT.sIx xs.length xs.length b - HT.sIx xs.length 0 a)
theorem pY (xs:List V)(a b:Option Int):(cutV xs a b).length<=xs.length:=by unfold cutV;rw[bo,bq];omega
def rSlT (K:PySem.W.Frag):V->Option Int->Option Int->Hp->VK->Prop:=λx b c H Q=>∃a xs,x = .ref a/\iU K H a xs /\
 ¬(HT.sIx xs.length 0 b=0/\HT.sIx xs.length xs.length c=xs.length)/\∀p,H p=none->Q (.ref p) (upd H p (.tup (cutV xs b c)))
theorem O7:RL X (rSlT X.K):=by
 intro f s σ H x v z w d e A Q I i u pl j h;obtain⟨a,xs,rfl,l,m,q⟩:=h;cases i;obtain⟨its,r,g,hz⟩:=I.tuple l;have c:its.toArray.size=xs.length:=by rw[ai];exact r.length.symm
 refine⟨"tuple",_,PyProof.Rows.slot_tuple_getitem.lookup,g.typeIs,?_⟩;refine HT.getItem_tuple_cut g u pl j (by rw[c];exact m) ?_ (by rw[c];exact hz);rw[c];refine⟨.ref s.heap.objs.size,_,I.laid (t':=s.toks) (o:=.tup (cutV xs d e)) (λb B q=>ag _ q) (ae _) ?_,rfl,q _ (I.hok.fresh (ae _))⟩;exact⟨ao (pY xs d e) hz,_,(r.drop (HT.sIx xs.length 0 d)).take (HT.sIx xs.length xs.length e - HT.sIx xs.length 0 d),IsTup.new _ _⟩
def rCatT (K:PySem.W.Frag):R2:=λx y H Q=>∃a b xs c,x = .ref a/\y = .ref b/\iU K H a xs/\iU K H b c/\xs≠[]/\xs.length+c.length<=sizeLine /\
 (c=[]->Q (.ref a) H)/\(c≠[]->∀p,H p=none->Q (.ref p) (upd H p (.tup (xs++c))))
theorem aT.nil_iff {xs:List V}{us:bQ}(r:aT xs us):us=[] ↔ xs=[]:=by
 cases r with
 | nil=>simp
 | cons _ _=>simp
theorem MQ:iM X (binaryOp .Add) (rCatT X.K):=by intro d s σ H x y v u Q I g f h;obtain⟨a,b,xs,e,rfl,rfl,B,A,r,hz,j,i⟩:=h;cases g;cases f;obtain⟨its,r1,m,_⟩:=I.tuple B;obtain⟨its2,c,l,_⟩:=I.tuple A;refine HT.cat_tup m l (λz=>r (r1.nil_iff.mp z)) (λz=>⟨.ref a,H,I,rfl,j (c.nil_iff.mp z)⟩) (λz=>?_) (by rw[←r1.length,←c.length];exact hz);refine⟨.ref s.heap.objs.size,_,I.laid (t':=s.toks) (o:=.tup (xs++e)) (λb C q=>ag _ q) (ae _) ?_,rfl,i (λw=>z (c.nil_iff.mpr w)) _ (I.hok.fresh (ae _))⟩;exact⟨by rw[aq];exact hz,_,r1.append c,IsTup.new _ _⟩
end
noncomputable def ixN (n:Nat)(i:Int):Option Nat:=if 0<=i then(if i<n then some i.toNat else none)else if -(n:Int)<=i then some (i+n).toNat else none
noncomputable def atI {α:Type}(xs:List α)(i:Int):Option α:=(ixN xs.length i).bind λj=>xs[j]?
theorem EL {n:Nat}{i:Int}{j:Nat}(h:ixN n i=some j):seqIndex? i n=some j/\j<n/\-(n:Int)<=i/\i<n:=by
 unfold ixN at h;by_cases b:0<=i
 ·rw[aj b]at h;by_cases a:i<n
  ·rw[aj a]at h;have e:i.toNat=j:=Option.some.inj h;exact⟨by rw[seqIndex_of b a,e],by omega,by omega,a⟩
  ·rw[ac a]at h;cases h
 ·rw[ac b]at h;by_cases a : -(n:Int)<=i
  ·rw[aj a]at h;have e:(i+n).toNat=j:=Option.some.inj h;exact⟨by rw[seqIndex_neg (by omega) a,e],by omega,a,by omega⟩
  ·rw[ac a]at h;cases h
theorem xM {α:Type}{xs:List α}{i:Int}{v:α}(h:atI xs i=some v):∃j,seqIndex? i xs.length=some j/\xs[j]?=some v/\j<xs.length/\-(xs.length:Int)<=i/\i<xs.length:=by
 unfold atI at h;cases e:ixN xs.length i with
 | none=>rw[e]at h;cases h
 | some j =>
  rw[e]at h;obtain⟨d,c,b,a⟩:=EL e;exact⟨j,d,h,c,b,a⟩
theorem E9 {α:Type}{xs:List α}{j:Nat}{v:α}(h:xs[j]?=some v):atI xs (j:Int)=some v:=by
 have a:j<xs.length:=(cj.mp h).1;have e:ixN xs.length (j:Int)=some j:=by unfold ixN;rw[aj (by omega),aj (by omega)];simp
 unfold atI;rw[e];exact h
theorem atI_last {α:Type}(xs:List α)(v:α):atI (xs++[v]) (-1)=some v:=by
 have a:(xs++[v]).length=xs.length+1:=by simp
 have e:ixN (xs++[v]).length (-1)=some xs.length:=by unfold ixN;rw[a,ac (by decide),aj (by omega)];congr 1;omega
 unfold atI;rw[e];show(xs++[v])[xs.length]?=some v;simp
def N0 (b:Expr):Prop:=∀o i,subscripted b false o i=operate [o,i] (getItem o i)
def LM (X:Cx)(r:R2):Prop :=
 ∀(b a:Expr) (pins:cZ) (s:Shared) (σ:St) (H:Hp) (x y:V) (v u:Value) (Q:VK),aQ X pins σ H s->aU x v->aU y u->r x y H Q ->
  subscripted a false v u=operate [v,u] (getItem v u)->wpAny (model X.prog X.w) X.A (subscriptTail b a v u) (EP X pins σ Q) X.xe s
def RW (X:Cx)(id:String)(r:V->List V->Hp->VK->Prop):Prop :=
 ∀(a:cZ) (s:Shared) (σ:St) (H:Hp) (x:V) (xs:List V) (v:Value) (us:bQ) (Q:VK),aQ X a σ H s->aU x v->aT xs us->r x xs H Q ->
  wpAny (model X.prog X.w) X.A (call (.builtin id) (v::us)) (EP X a σ Q) X.xe s
section
variable {X:Cx}{a b:Expr}{ta tb:TE}{pos:Pos}
theorem LM.or {r f:R2}(h:LM X r)(h':LM X f):LM X (λx y H Q=>r x y H Q∨f x y H Q):=by
 intro a b c s σ H x y v u Q I e d q g;rcases q with q|q
 ·exact h a b c s σ H x y v u Q I e d q g
 ·exact h' a b c s σ H x y v u Q I e d q g
theorem bM {r:R2}(g:LM X r)(j:PE X a ta)(i:PE X b tb)(f:N0 b):PE X (.Subscript a b pos) (tOp r ta tb):=by intro c s σ H Q I h;exact Subscript_ (binT j i I h λv u s2 x y m l e d q=>g a b c s2 σ m x y v u Q l e d q (f _ _))
def rIxL (K:PySem.W.Frag):R2:=λx y H Q=>∃p xs i v,x = .ref p/\y = .int i/\eH K H p xs/\atI xs i=some v/\Q v H
def rIxT (K:PySem.W.Frag):R2:=λx y H Q=>∃p xs i v,x = .ref p/\y = .int i/\iU K H p xs/\atI xs i=some v/\Q v H
def rIxS:R2:=λx y H Q=>∃z i c,x = .str z/\y = .int i/\z.length<=sizeLine/\atI z.cps.toList i=some c/\Q (.str ⟨#[c]⟩) H
theorem NH:LM X (rIxL X.K):=by
 intro c d a s σ H x y v u Q I A o h g;obtain⟨p,xs,i,z,rfl,rfl,B,E,q⟩:=h;cases A;obtain⟨t,rfl⟩:=o;obtain⟨its,r,pl,hz⟩:=I.list B;obtain⟨j,b,J,N,G,F⟩:=xM E;obtain⟨w,m,e⟩:=r.get J;have C:=r.length;have L:=line63;have fin:EP X a σ Q w s:=⟨z,H,I,e,q⟩
 by_cases l:0<=i
 ·have f:i.toNat=j:=by rw[seqIndex_of l F]at b;exact Option.some.inj b
  exact item_listR pl.isList l (by omega) (by rw[f];simpa using m) fin g
 ·have f:(i+(its.toArray.size:Int)).toNat=j:=by rw[seqIndex_neg (by omega) G]at b;rw[ai,←C];exact Option.some.inj b
  exact subscriptTail_builtinR (x:=w) pl.isList.typeIs slot_list_getitem.lookup
   (wpAny_getItem_list_neg (Q:=λr s'=>r=w/\EP X a σ Q r s') pl.isList (by omega) (by rw[ai] <;> omega) (by omega) (by rw[f];simpa using m) ⟨rfl,fin⟩) g
theorem QG:LM X (rIxT X.K):=by
 intro b c a s σ H x y v u Q I f e h g;obtain⟨p,xs,i,z,rfl,rfl,l,o,q⟩:=h;cases f;obtain⟨t,rfl⟩:=e;obtain⟨its,r,pl,hz⟩:=I.tuple l;obtain⟨j,B,A,J,G,F⟩:=xM o;obtain⟨w,C,d⟩:=r.get A;have m:=r.length;have E:=line63;have fin:EP X a σ Q w s:=⟨z,H,I,d,q⟩
 exact subscriptTail_builtinR (x:=w) pl.typeIs slot_tuple_getitem.lookup
  (getItem_tuple (j:=j) (Q:=λr s'=>r=w/\EP X a σ Q r s') pl (by omega) (by omega) (by rw[ai,←m];exact B) (by simpa using C) ⟨rfl,fin⟩) g
theorem QH:LM X rIxS:=by
 intro a b d s σ H x y v u Q I g f h l;obtain⟨z,i,c,rfl,rfl,hz,o,q⟩:=h;obtain⟨t,rfl⟩:=g;obtain⟨t',rfl⟩:=f;obtain⟨j,e,A,F,w,r⟩:=xM o;have m:z.cps.toList.length=z.length:=by simp[Str.length]
 rw[m]at e w r;have E:=line63
 exact tail_any (typeIs_str s z t) slot_str_getitem.lookup (getItem_str (c:=c) (by
  have C:decide (i < -(2 ^ 63:Int))=false:=bg (by omega);have B:decide (i ≥ 2 ^ 63)=false:=bg (by omega)
  rw[C,B,Bool.or_false]) (by rw[e];simpa using A) ⟨.str ⟨#[c]⟩,H,I.tok _,⟨_,rfl⟩,q⟩) l
def rIx (K:PySem.W.Frag):R2:=λx y H Q=>rIxL K x y H Q∨rIxT K x y H Q∨rIxS x y H Q
theorem QI:LM X (rIx X.K):=NH.or (QG.or QH)
theorem B4 (its:bQ)(n j:Nat)(u:Value):Obj.mapSeq (·.setIfInBounds j u) {cls:=.type "list",data:=.seq its.toArray n}={cls:=.type "list",data:=.seq (its.set j u).toArray n}:=by simp[Obj.mapSeq]
theorem aQ.lst {a:cZ}{σ:St}{H:Hp}{s:Shared}{p:Addr}{xs:List V}(I:aQ X a σ H s)(h:H p=some (.lst xs)) :
  ∃(its:bQ) (n:Nat),aT xs its/\s.heap.get? p=some {cls:=.type "list",data:=.seq its.toArray n}/\xs.length<=sizeLine:=by
 obtain⟨z,its,n,r,e⟩:=I.hok p _ h;exact⟨its,n,r,e,z⟩
theorem aQ.lstUpd {a:cZ}{σ:St}{H:Hp}{s:Shared}{p:Addr}{xs c:List V}{its its':bQ}{n d:Nat}{f:Obj->Obj}(I:aQ X a σ H s)(h:H p=some (.lst xs))
  (ho:s.heap.get? p=some {cls:=.type "list",data:=.seq its.toArray n}) (g:f {cls:=.type "list",data:=.seq its.toArray n}={cls:=.type "list",data:=.seq its'.toArray d}) (r:aT c its') (hz:c.length<=sizeLine) (t:Nat) :
  aQ X a σ (upd H p (.lst c)) {s with heap:=s.heap.update p f,toks:=t}:=by
 have e:(s.heap.update p f).get? p=some {cls:=.type "list",data:=.seq its'.toArray d}:=by rw[Heap.get?_update_self f ho (by rw[g] <;> rfl),g]
 refine I.write (x:=p) (e:=p) (by rw[h];trivial) (.inl rfl) (λb u i q=>(Heap.get?_update_other _ _ (Ne.symm i)).trans q) ⟨_,e⟩ ?_;exact⟨hz,its',d,r,e⟩
def rSetL:V->V->V->Hp->(Hp->Prop)->Prop:=λo i v H Q=>∃p xs k j,o = .ref p/\i = .int k/\H p=some (.lst xs)/\ixN xs.length k=some j/\Q (upd H p (.lst (xs.set j v)))
theorem nJ:RN X rSetL:=by
 intro a s σ H o i v A B u Q I w x m h;obtain⟨p,xs,k,j,rfl,rfl,e,z,q⟩:=h;cases w;obtain⟨t,rfl⟩:=x;obtain⟨its,n,r,ho,hz⟩:=I.lst e;obtain⟨b,E,g,f⟩:=EL z;have c:=r.length;have C:=line63;have I':aQ X a σ (upd H p (.lst (xs.set j v))) {s with heap:=s.heap.update p (Obj.mapSeq (·.setIfInBounds j u))} :=
  I.lstUpd e ho (B4 its n j u) (r.set m j) (by rw[List.length_set];exact hz) s.toks
 by_cases l:0<=k
 ·have d:k.toNat=j:=by rw[seqIndex_of l f]at b;exact Option.some.inj b
  exact PySem.W.ki_setAt ho l (by omega) (by rw[ai,←c];exact f) (by rw[d];exact⟨_,I',q⟩)
 ·have d:(k+(its.toArray.size:Int)).toNat=j:=by rw[seqIndex_neg (by omega) g]at b;rw[ai,←c];exact Option.some.inj b
  exact PySem.W.ki_setBack ho (by omega) (by rw[ai,←c];exact g) (by omega) (by rw[d];exact⟨_,I',q⟩)
theorem wA (a b:Option Int)(n:Nat):(sliceBounds a b none n).1=((HT.sIx n 0 a:Nat):Int)/\(sliceBounds a b none n).2.1=((HT.sIx n n b:Nat):Int)/\(sliceBounds a b none n).2.2=1:=by
 refine⟨?_,?_,rfl⟩
 ·cases a with
  | none=>simp[sliceBounds,HT.sIx]
  | some i =>
   simp only[sliceBounds,HT.sIx,Option.getD_none,show(1:Int) > 0 by decide,if_true];by_cases h:i<0
   ·simp only[h,if_true] <;> omega
   ·simp only[h,if_false] <;> omega
 ·cases b with
  | none=>simp[sliceBounds,HT.sIx]
  | some i =>
   simp only[sliceBounds,HT.sIx,Option.getD_none,show(1:Int) > 0 by decide,if_true];by_cases h:i<0
   ·simp only[h,if_true] <;> omega
   ·simp only[h,if_false] <;> omega
theorem tQ (its:bQ)(a b:Option Int):slicePick its.toArray a b none=((its.drop (HT.sIx its.length 0 a)).take (HT.sIx its.length its.length b - HT.sIx its.length 0 a)).toArray:=by obtain⟨e,d,c⟩:=wA a b its.toArray.size;unfold slicePick;rw[e,d,c];simp only[sliceRange_one,pick_run,ai] <;> rfl
def rSlL (K:PySem.W.Frag):V->Option Int->Option Int->Hp->VK->Prop:=λx b c H Q=>∃a xs,x = .ref a/\eH K H a xs/\∀p,H p=none->Q (.ref p) (upd H p (.lst (cutV xs b c)))
theorem DQ:RL X (rSlL X.K):=by intro f s σ H x v w u d e z Q I i m pl j h;obtain⟨a,xs,rfl,l,q⟩:=h;cases i;obtain⟨its,r,g,hz⟩:=I.list l;have c:=r.length;refine⟨"list",_,slot_list_getitem.lookup,g.isList.typeIs,?_⟩;refine wpAny_getItem_list_slice g.isList m pl j .none (by simp) ?_ (by rw[ai] <;> omega);rw[tQ,←c];refine⟨.ref s.heap.objs.size,_,I.laid (t':=s.toks) (o:=.lst (cutV xs d e)) (λb A q=>ag _ q) (ae _) ?_,rfl,q _ (I.hok.fresh (ae _))⟩;exact⟨ao (pY xs d e) hz,_,0,(r.drop (HT.sIx xs.length 0 d)).take (HT.sIx xs.length xs.length e - HT.sIx xs.length 0 d),ar _ rfl⟩
theorem wN:iM X (compareOp .NotIn) (λx y H Q=>∃i j,x = .str i/\y = .str j/\Q (.bl (!(!(Builtin.Str.occurrences j i 0 j.length 1).isEmpty))) H):=by intro a s σ H x y v u Q I c b h;obtain⟨i,j,rfl,rfl,q⟩:=h;obtain⟨t,rfl⟩:=c;obtain⟨t',rfl⟩:=b;exact notIn_str ⟨.bl _,H,I,rfl,q⟩
theorem xK:dN X (.builtin "len") (λxs H Q=>∃p b,xs=[.ref p]/\(eH X.K H p b∨iU X.K H p b)/\Q (.int b.length) H):=by
 intro e s σ H xs us Q I r h;obtain⟨p,b,rfl,c,q⟩:=h;obtain⟨u,rfl,f⟩:=vals1 r;cases f;have g:=line63;rcases c with c|c
 ·obtain⟨its,d,pl,hz⟩:=I.list c;have a:=d.length;exact Calls.call_len_list pl.isList (by simp only[ai] <;> omega) ⟨.int b.length,H,I.tok _,⟨s.toks+1,by rw[ai,a]⟩,q⟩
 ·obtain⟨its,d,pl,hz⟩:=I.tuple c;have a:=d.length;exact len_tuple pl (by simp only[ai] <;> omega) ⟨.int b.length,H,I.tok _,⟨s.toks+1,by rw[ai,a]⟩,q⟩
theorem xJ:dN X (.builtin "len") (λxs H Q=>∃z,xs=[.str z]/\z.length<=sizeLine/\Q (.int z.length) H):=by intro a s σ H xs us Q I r h;obtain⟨z,rfl,hz,q⟩:=h;obtain⟨u,rfl,t,rfl⟩:=vals1 r;have b:=line63;exact len_str (by omega) ⟨.int z.length,H,I.tok _,⟨_,rfl⟩,q⟩
theorem xI:dN X (.type "list") (λxs H Q=>∃p a,xs=[.ref p]/\(eH X.K H p a∨iU X.K H p a)/\∀l,H l=none->Q (.ref l) (upd H l (.lst a))):=by
 intro f s σ H xs us Q I r h;obtain⟨p,a,rfl,g,q⟩:=h;obtain⟨u,rfl,v⟩:=vals1 r;cases v;have fin:∀(its:bQ),aT a its->a.length<=sizeLine->∀(h':Heap) (d:Nat),(∀b m,s.heap.get? b=some m->h'.get? b=some m) ->
   h'.get? s.heap.objs.size=some {cls:=.type "list",dict:=none,data:=.seq its.toArray d,slots:=#[]}->EP X f σ Q (.ref s.heap.objs.size) {s with heap:=h'}:=λits c hz h' d kp e =>
  ⟨.ref s.heap.objs.size,_,I.laid (t':=s.toks) kp (ae _) (show cF X.prog X.w _ h' _ (.lst a)from⟨hz,its,d,c,e⟩),rfl,q _ (I.hok.fresh (ae _))⟩
 rcases g with g|g
 ·obtain⟨its,c,pl,hz⟩:=I.list g;have i:=c.length;obtain⟨o,ho,j,n,hd⟩:=pl.isList;exact call_list_seq p (.inl rfl) ho j hd (λh' d kp e=>fin its c hz h' d kp e) (by simp only[ai] <;> omega)
 ·obtain⟨its,c,pl,hz⟩:=I.tuple g;have i:=c.length;obtain⟨o,ho,j,n,hd⟩:=pl;exact call_list_seq p (.inr rfl) ho j hd (λh' d kp e=>fin its c hz h' d kp e) (by simp only[ai] <;> omega)
theorem tW:dN X (.type "tuple") (λxs H Q=>∃p c,xs=[.ref p]/\((eH X.K H p c/\∀l,H l=none->Q (.ref l) (upd H l (.tup c)))∨(iU X.K H p c/\Q (.ref p) H))):=by
 intro a s σ H xs us Q I r h;obtain⟨p,c,rfl,h⟩:=h;obtain⟨u,rfl,j⟩:=vals1 r;cases j;rcases h with⟨f,q⟩|⟨f,q⟩
 ·obtain⟨its,d,pl,hz⟩:=I.list f;have g:=d.length;refine call_tuple_list pl.isList (λh' kp=>?_) (by simp only[ai] <;> omega);have i:aQ X a σ H {s with heap:=h'}:=I.kept (t':=s.toks) kp;have m:aQ X a σ (upd H h'.objs.size (.tup c)) {s with heap:=h'.push {cls:=.type "tuple",data:=.seq its.toArray} } :=
   i.laid (t':=s.toks) (λb o e=>ag _ e) (ae _) (show cF X.prog X.w _ _ _ (.tup c)from⟨hz,its,d,IsTup.new _ _⟩)
  exact⟨.ref h'.objs.size,_,m,rfl,q _ (i.hok.fresh (ae _))⟩
 ·obtain⟨its,d,pl,hz⟩:=I.tuple f;exact call_tuple_same pl ⟨.ref p,H,I,rfl,q⟩
def tyV (K:PySem.W.Frag)(T:String)(x:V)(H:Hp):Prop:=match x with
 | .str _=>T="str"
 | .int _=>T="int"
 | .ref p=>(T="list"/\∃xs,eH K H p xs)∨(T="tuple"/\∃o,K.lookup p=some o/\o.cls = .type "tuple"/\o.dict=none) ∨
   (T="dict"/\((∃a,H p=some (.dK a))∨∃a,H p=some (.dT a)))∨(T="set"/\∃S n,H p=some (.set S n))
 | _=>False
theorem HS {d:cZ}{σ:St}{H:Hp}{s:Shared}{T:String}{x:V}{v:Value}(I:aQ X d σ H s)(r:aU x v)(ty:tyV X.K T x H) :
  s.TypeIs v T/\∀a,v = .ref a->∃h,s.heap.get? a=some h/\h.dict=none:=by
 cases x with
 | str z =>
  obtain⟨t,rfl⟩:=r;cases (show T="str" from ty);exact⟨typeIs_str s z t,λ_ e=>nomatch e⟩
 | int i =>
  obtain⟨t,rfl⟩:=r;cases (show T="int" from ty);exact⟨typeIs_int s i t,λ_ e=>nomatch e⟩
 | ref p =>
  cases r;rcases ty with⟨rfl,xs,j⟩|⟨rfl,o,b,l,hd⟩|⟨rfl,b⟩|⟨rfl,S,n,b⟩
  ·obtain⟨its,_,pl,_⟩:=I.list j;refine⟨pl.isList.typeIs,λa e=>?_⟩;cases e;obtain⟨o,n,e,c,hd,_⟩:=pl;exact⟨o,e,hd⟩
  ·refine⟨⟨o,I.kIn p o b,l⟩,λa e=>?_⟩;cases e;exact⟨o,I.kIn _ o b,hd⟩
  ·have z:∃o,s.heap.get? p=some o/\o.ExactDict:=by
    rcases b with⟨f,b⟩|⟨f,b⟩
    ·obtain⟨_,_,_,_,o,_,_,e,ex,_⟩:=I.hok p _ b;exact⟨o,e,ex⟩
    ·obtain⟨_,_,_,_,o,_,_,e,ex,_⟩:=I.hok p _ b;exact⟨o,e,ex⟩
   obtain⟨o,e,ex⟩:=z;refine⟨⟨o,e,ex.1⟩,λa g=>?_⟩;cases g;exact⟨o,e,ex.2.1⟩
  ·obtain⟨o,_,_,_,e,ex,_⟩:=I.hok p _ b;refine⟨⟨o,e,ex.1⟩,λa g=>?_⟩;cases g;exact⟨o,e,ex.2.1⟩
 | _=>exact False.elim ty
def tBM0 (K:PySem.W.Frag)(T:String)(r:V->List V->Hp->VK->Prop)(b:TE):TE:=λσ H Q=>b σ H λx a=>tyV K T x a/\r x [] a Q
def tBM (K:PySem.W.Frag)(T:String)(r:V->List V->Hp->VK->Prop)(b:TE)(t:TA):TE:=λσ H Q=>b σ H λx a=>tyV K T x a/\t σ a λxs c=>r x xs c Q
variable {o e:Expr}{es:mJ}{to:TE}{t:TA}{name:Str}{apos cpos:Pos}{T id:String}{r:V->List V->Hp->VK->Prop}
theorem rW (pa:PlainAttrs T)(slot:Slot T name id)(d:typeOf (.builtin id)=pure (.type "method_descriptor"))(i:RW X id r)(ho:PE X o to)
  (c:attributeBase o name X.env (eval o X.env)=eval o X.env:=by rfl) (b:(apos.endLine == cpos.line)=true:=by rfl):PE X (.Call (.Attribute o name apos) [] [] cpos) (tBM0 X.K T r to):=by
 intro a s σ H Q I h;refine wpAny_Call_method0_late c b (thn (ho a s σ H _ I h) λv f ⟨x,m,e,r1,ty,g⟩=>?_);obtain⟨l,j⟩:=HS e r1 ty;exact⟨T,id,pa,slot,d,l,j,Calls.callWith_builtin rfl (PySem.evalArgs_none (i a f σ m x [] v [] Q e r1 .nil g))⟩
theorem gM (pa:PlainAttrs T)(slot:Slot T name id)(g:typeOf (.builtin id)=pure (.type "method_descriptor"))(z:RW X id r)(ho:PE X o to)(A:PA X (e::es) t)
  (d:attributeBase o name X.env (eval o X.env)=eval o X.env:=by rfl)
  (f:((backTo cpos (starEach (e::es) X.env)).all (λx=>!x.1) && (backToKw cpos (keywordEach [] X.env)).all (λx=>x.1.isSome)
   && decide ((e::es).length+([]:List Keyword).length+(if ([]:List Keyword).isEmpty then 0 else 1)<30))=true:=by rfl)
  (c:(apos.endLine == cpos.line)=true:=by rfl) (w:starEach (e::es) X.env=(false,eval e X.env)::starEach es X.env:=by rfl) (b:(backTo cpos (starEach es X.env)).any (·.1)=false:=by rfl) :
  PE X (.Call (.Attribute o name apos) (e::es) [] cpos) (tBM X.K T r to t):=by
 intro a s σ H Q I h;refine wpAny_Call_method_late d f c rfl (thn (ho a s σ H _ I h) λv l ⟨x,G,j,r1,ty,u⟩=>?_);obtain⟨C,B⟩:=HS j r1 ty;refine⟨T,id,pa,slot,g,C,B,?_⟩;have i:=A cpos a l σ G _ j u;rw[w]at i⊢;refine Calls.callWith_builtin (by show(false || (backTo cpos (starEach es X.env)).any (·.1))=false;rw[b] <;> rfl) (Calls.evalArgs_plain ?_);exact thn i λus s2 ⟨vs,F,E,m,q⟩=>z a s2 σ F x vs v us Q E r1 m q
end
def RX (X:Cx)(id:String)(r:V->List V->Hp->VK->Prop):Prop :=
 ∀(a:cZ) (s:Shared) (σ:St) (H:Hp) (x:V) (xs:List V) (v:Value) (us:bQ) (Q:VK),aQ X a σ H s->aU x v->aT xs us->r x xs H Q ->
  wpAny (model X.prog X.w) X.A (call (.builtin id) (v::us)) (EP X a σ Q) X.xe s
theorem aT.one {x:V}{us:bQ}(h:aT [x] us):∃u,us=[u]/\aU x u:=by cases h with|cons r t=>cases t;exact⟨_,rfl,r⟩
theorem aT.two {x y:V}{us:bQ}(h:aT [x,y] us):∃u v,us=[u,v]/\aU x u/\aU y v:=by cases h with|cons r t=>obtain⟨v,rfl,q⟩:=aT.one t;exact⟨_,_,rfl,r,q⟩
theorem aT.zero:∀{us:bQ},aT [] us->us=[]
 | _,.nil=>rfl
theorem aT.dropLast {xs:List V}{us:bQ}(h:aT xs us):aT xs.dropLast us.dropLast:=by
 induction h with
 | nil=>exact .nil
 | cons r t a =>
  cases t with
  | nil=>exact .nil
  | cons q t'=>exact .cons r a
theorem aT.reverse {xs:List V}{us:bQ}(h:aT xs us):aT xs.reverse us.reverse:=by
 induction h with
 | nil=>exact .nil
 | cons r t a=>rw[List.reverse_cons,List.reverse_cons];exact aT.append a (.cons r .nil)
theorem aT.rep {xs:List V}{us:bQ}(h:aT xs us):∀k:Nat,aT (List.replicate k xs).flatten (List.replicate k us).flatten
 | 0=>.nil
 | k+1=>by rw[List.replicate_succ,List.replicate_succ,List.flatten_cons,List.flatten_cons];exact aT.append h (aT.rep h k)
theorem CL {α:Type}(l:List α):l.eraseIdx (l.length - 1)=l.dropLast:=by
 induction l with
 | nil=>rfl
 | cons a r c =>
  cases r with
  | nil=>rfl
  | cons b r =>
   have e:(a::b::r).length - 1=((b::r).length - 1)+1:=by have f:(a::b::r).length=r.length+2:=rfl;have d:(b::r).length=r.length+1:=rfl;omega
   rw[e,List.eraseIdx_cons_succ,c]
   all_goals rfl
theorem u0 (its:bQ):∀(k:Nat) (a:bQ),
  List.foldl (λc b=>c++b) a.toArray (List.replicate k its.toArray)=(a++(List.replicate k its).flatten).toArray
 | 0,a=>by simp
 | k+1,a=>by
  have e:a.toArray++its.toArray=(a++its).toArray:=by simp
  have d:(a++its)++(List.replicate k its).flatten=a++(List.replicate (k+1) its).flatten:=by rw[List.replicate_succ,List.flatten_cons,cg]
  rw[←d,←u0 its k (a++its),←e,List.replicate_succ,List.foldl_cons]
section
variable {X:Cx}{pins:cZ}{σ:St}{H:Hp}{s:Shared}{l b:Addr}{xs ys zs:List V}
theorem aQ.lset {its its':bQ}{n:Nat}{f:i8->i8}{t':Nat}(I:aQ X pins σ H s)(g:H l=some (.lst xs))
  (e:s.heap.get? l=some {cls:=.type "list",data:=.seq its.toArray n}) (c:f its.toArray=its'.toArray) (a:aT ys its') (hz:ys.length<=sizeLine) :
  aQ X pins σ (upd H l (.lst ys)) {s with heap:=s.heap.update l (Obj.mapSeq f),toks:=t'}:=by
 have q:=PySem.IsL.update e f;rw[c]at q;refine I.write (x:=l) (e:=l) (by rw[g];exact trivial) (.inl rfl) (λh u d b=>(Heap.get?_update_other s.heap (Obj.mapSeq f) (Ne.symm d)).trans b) ⟨_,q⟩ ?_;exact⟨hz,its',_,a,q⟩
theorem aQ.lnew {its:bQ}{t':Nat}(I:aQ X pins σ H s)(a:aT ys its)(hz:ys.length<=sizeLine) :
  aQ X pins σ (upd H s.heap.objs.size (.lst ys)) {s with heap:=s.heap.push {cls:=.type "list",data:=.seq its.toArray},toks:=t'} :=
 I.laid (λ_ _ q=>ag _ q) (ae _) ⟨hz,its,0,a,ar _ rfl⟩
theorem aQ.fresh (I:aQ X pins σ H s):H s.heap.objs.size=none:=I.hok.fresh (ae _)
theorem aQ.lstM (I:aQ X pins σ H s)(a:H l=some (.lst xs)):xs.length<=sizeLine/\∃(its:bQ) (n:Nat),aT xs its/\xs.length=its.length/\s.heap.get? l=some {cls:=.type "list",data:=.seq its.toArray n}:=by obtain⟨z,its,n,r,e⟩:=I.hok l _ a;exact⟨z,its,n,r,r.length,e⟩
theorem sA {n:Nat}(h:n<=sizeLine):Builtin.List.listTooLong n=false:=by unfold Builtin.List.listTooLong;exact bg (by omega)
end
section
variable {X:Cx}
def rAppend:V->List V->Hp->VK->Prop:=λx vs H Q=>∃l xs y,x = .ref l/\vs=[y]/\H l=some (.lst xs)/\xs.length<sizeLine/\Q .non (upd H l (.lst (xs++[y])))
theorem eT:RX X "list.append" rAppend:=by intro a s σ H x vs v us Q I c d h;obtain⟨l,xs,y,rfl,rfl,b,hz,q⟩:=h;cases c;obtain⟨u,rfl,f⟩:=d.one;obtain⟨z,its,n,r,g,e⟩:=I.lstM b;refine call_meets F.slot_list_append ⟨_,e,rfl⟩ F.entry_list_append (F.args_list_append_2 _ _) (PySem.list_append l its.toArray n u (by rw[ai];omega)) ⟨e,?_⟩;refine⟨.non,_,I.lset (its':=its++[u]) b e (by simp) (r.append (.cons f .nil)) ?_,rfl,q⟩;rw[aq,cb];omega
def rExtend:V->List V->Hp->VK->Prop:=λx vs H Q=>∃l b xs a,x = .ref l/\vs=[.ref b]/\H l=some (.lst xs)/\H b=some (.lst a)/\xs.length+a.length<=sizeLine/\Q .non (upd H l (.lst (xs++a)))
theorem GM:RX X "list.extend" rExtend:=by
 intro c s σ H x vs v us Q I f g h;obtain⟨l,b,xs,A,rfl,rfl,d,o,hz,q⟩:=h;cases f;obtain⟨u,rfl,i⟩:=g.one;cases i;obtain⟨z,its,n,r,C,e⟩:=I.lstM d;obtain⟨B,its2,n2,j,m,w⟩:=I.lstM o;have hsz:its.toArray.size+its2.toArray.size<=sizeLine:=by rw[ai,ai];omega
 have a:¬(!its.toArray.isEmpty && Builtin.List.listTooLong (its.toArray.size+its2.toArray.size))=true:=by rw[sA hsz,Bool.and_false];exact Bool.false_ne_true
 refine call_meets F.slot_list_extend ⟨_,e,rfl⟩ F.entry_list_extend (F.args_list_extend_2 _ _)
  (AutoSeq1.list_extend_list_list_0 l its.toArray n b its2.toArray n2 a (by rw[ai];omega) (by omega)) ⟨e,w,?_⟩
 refine⟨.non,_,I.lset (its':=its++its2) d e (by simp) (r.append j) ?_,rfl,q⟩;rw[aq];omega
def rPop:V->List V->Hp->VK->Prop:=λx vs H Q=>∃l xs y,x = .ref l/\vs=[]/\H l=some (.lst xs)/\xs[xs.length - 1]?=some y/\Q y (upd H l (.lst xs.dropLast))
theorem pD:RX X "list.pop" rPop:=by
 intro b s σ H x vs v us Q I d f h;obtain⟨l,xs,y,rfl,rfl,c,i,q⟩:=h;cases d;have a:=f.zero;subst a;obtain⟨z,its,n,r,m,e⟩:=I.lstM c;obtain⟨u,j,g⟩:=r.get i;have hy':its.toArray[its.toArray.size - 1]?=some u:=by show its.toArray[its.length - 1]?=some u;rw[←Array.getElem?_toList,←m];exact j
 refine call_meets F.slot_list_pop ⟨_,e,rfl⟩ F.entry_list_pop (F.args_list_pop_1 _) (MeetsSeq.list_pop_last l its.toArray n u hy' (by rw[ai];omega)) ⟨e,?_⟩;refine⟨y,_,I.lset (its':=its.dropLast) c e ?_ r.dropLast ?_,g,q⟩
 ·show its.toArray.eraseIdxIfInBounds (its.toArray.size - 1)=its.dropLast.toArray;rw[ai,List.eraseIdxIfInBounds_toArray,CL]
 ·rw[List.length_dropLast];omega
def rPopAt:V->List V->Hp->VK->Prop:=λx vs H Q=>∃l xs i k y,x = .ref l/\vs=[.int i]/\H l=some (.lst xs)/\-(2 ^ 63)<=i/\i<2 ^ 63/\seqIndex? i xs.length=some k/\xs[k]?=some y/\Q y (upd H l (.lst (xs.eraseIdx k)))
def rCat:R2:=λx y H Q=>∃l b xs a,x = .ref l/\y = .ref b/\H l=some (.lst xs)/\H b=some (.lst a)/\xs.length+a.length<=sizeLine/\∀p,H p=none->Q (.ref p) (upd H p (.lst (xs++a)))
theorem PY:iM X (binaryOp .Add) rCat:=by
 intro a s σ H x y v u Q I d c h;obtain⟨l,b,xs,w,rfl,rfl,i,j,hz,q⟩:=h;cases d;cases c;obtain⟨z,its,n,r,B,e⟩:=I.lstM i;obtain⟨A,its2,n2,f,g,o⟩:=I.lstM j;refine PySem.P.add_list e o ?_ (by rw[ai,ai];omega);have m:its.toArray++its2.toArray=(its++its2).toArray:=by simp
 rw[m];exact⟨.ref _,_,I.lnew (t':=s.toks) (r.append f) (by rw[aq];omega),rfl,q _ I.fresh⟩
def rRep:R2:=λx y H Q=>∃l k xs,x = .ref l/\y = .int k/\H l=some (.lst xs)/\-(2 ^ 63)<=k/\k<2 ^ 63/\xs.length * k.toNat<=sizeLine /\
 ∀p,H p=none->Q (.ref p) (upd H p (.lst (List.replicate k.toNat xs).flatten))
theorem NB {α:Type}(xs:List α)(k:Nat):(List.replicate k xs).flatten.length=k * xs.length:=by
 induction k with
 | zero=>simp
 | succ k a=>rw[List.replicate_succ,List.flatten_cons,aq,a,Nat.succ_mul,Nat.add_comm]
theorem rZ:iM X (binaryOp .Mult) rRep:=by
 intro o s σ H x y v u Q I A w h;obtain⟨l,k,xs,rfl,rfl,C,G,E,hz,q⟩:=h;cases A;obtain⟨t,rfl⟩:=w;obtain⟨z,its,n,r,B,e⟩:=I.lstM C;have d:its.toArray.size * k.toNat<=sizeLine:=by rw[ai,←B];exact hz
 have g:¬its.toArray.size * k.toNat > (2 ^ 63 - 1) / 8:=by
  have:(sizeLine:Nat)<=(2 ^ 63 - 1) / 8:=by decide
  omega
 have f:¬(!Builtin.List.listFitsIndex k)=true:=by rw[fitsIndex_both G E];exact Bool.false_ne_true
 have b:¬Builtin.List.listTooLong (its.toArray.size * k.toNat)=true:=by rw[sA d];exact Bool.false_ne_true
 have c:List.foldl (λj i=>j++i) #[] (List.replicate (if its.toArray.isEmpty=true then 0 else k.toNat) its.toArray)=(List.replicate k.toNat its).flatten.toArray:=by
  have J:∀m:Nat,List.foldl (λj i=>j++i) #[] (List.replicate m its.toArray)=(List.replicate m its).flatten.toArray:=λm=>by have:=u0 its m [];rw[List.nil_append]at this;exact this
  rw[J];cases its with
  | nil=>simp
  | cons a K=>rw[ac (by simp)]
 refine wpAny_binaryOp_repeat_ref (T:="list") (U:="int") (by decide) ⟨_,e,rfl⟩ (λs'=>typeIs_int s' k t) noFill_list_mul F.fills_int_mul F.slot_int_rmul repeat_list F.slot_int_index.lookup
  (call_meets F.slot_int_rmul (typeIs_int s k t) F.entry_int_rmul (F.args_int_rmul_2 _ _) (int___rmul___int_list k t l its.toArray n)
   ⟨e,rfl,⟨_,e,rfl⟩,call_meets F.slot_list_mul ⟨_,e,rfl⟩ F.entry_list_mul (F.args_list_mul_2 _ _) (AutoListH.list___mul___list_int_3 l its.toArray n k t f g b) ⟨e,?_⟩⟩)
 rw[c];exact⟨.ref _,_,I.lnew (t':=s.toks) (r.rep k.toNat) (by rw[NB,Nat.mul_comm];exact hz),rfl,q _ I.fresh⟩
end
end L2
namespace Att
open PySem PySem.W PySem.Calls PyProof.Rows
theorem qO {P:Params}{h:Heap}:∀(ns:List Int) (vs:bQ),WellAll P h vs (ns.map WData.int)->IntsAre vs ns:=by
 intro ns
 induction ns with
 | nil =>
  intro vs w;rw[List.map_nil]at w;cases w;exact .nil
 | cons n ns c =>
  intro vs w;rw[aS]at w;cases w with
  | cons a b =>
   cases a;exact .cons _ _ (c _ b)
theorem FS {l:OpenLaw}{n:Nat}(v:l.most=some n){P:Params}{h:Heap}{args:List WData}{b:bQ}
  (c:l.row.toRowW.claim.pre args=true) (j:WellAll P h b args) :
  ∃a vs ns,b=[Value.ref a]/\args=[WData.list (ns.map WData.int)]/\h.get? a=some {cls:=.type "list",data:=.seq vs.toArray}/\IntsAre vs ns/\ns.length<=n:=by
 have m:WShape.hasAll [] args [.list .int]=true:=(pre_splitW c).1;have o:l.pre.holds [] {args:=args}=true:=(pre_splitW c).2;obtain⟨d,r,rfl,z,x⟩:=hasAllW_cons m;obtain rfl:=hasAllW_nil x;obtain⟨xs,rfl,w⟩:=hasW_list z;obtain⟨ns,rfl⟩:=items_int w;have e:ns.length<=n:=by
  unfold OpenLaw.pre at o;have i:(WTm.not (.lt (.lit (.int (n:Int))) (.len (.arg 0)))).holds [] {args:=[.list (ns.map .int)]}=true:=by have i:=(holds_andW o).1;rw[v]at i;exact i
  have g:=condW_of i (w_not (w_lt w_lit (w_len_list (w_arg rfl))));rw[af]at g;refine Nat.le_of_not_lt λq=>?_;have q':(n:Int)<((ns.length:Nat):Int):=by omega
  first
   | (rw[bd q']at g;exact absurd g (by decide))
   | (simp at g;omega)
 cases j with
 | cons u s =>
  cases s;cases u with
  | list ho f=>exact⟨_,_,ns,rfl,rfl,ho,qO ns _ f,e⟩
theorem F0 (l:OpenLaw)(args:List WData):l.row.toRowW.claim.post args (.bool true) args=true :=
 postW_of (r:=l.row.toRowW) (X:=(true == true))
  (show WShape.has [] (.bool true) .bool=true by first|rfl|decide|simp[WShape.has,WShape.arms,WShape.armsAll])
  (show(WTm.eq .res (.lit (.bool true))).value [] {args:=args,res:=some (.bool true),after:=args}=some (.bool (true == true))from w_eq_bool (w_res rfl) w_lit) rfl
theorem zZ {l:OpenLaw}{n:Nat}{q:Program}{loose:aN}{XP:(gX)->Heap->Prop}{YP:World->Heap->Prop}{d:DefRec}
  (I:l.most=some n) (z:d.params.defaults=[])
  (call:∀(w:World) (s₀ b:Shared) (mg u:gX) (j:Addr) (o:Obj) (s m e:Value) (a:Addr) (vs:bQ) (ns:List Int),
   Ground q loose [] XP w s₀ mg u b.heap->YP w b.heap ->
   b.heap.get? j=some o->o.data = .func (docDef d.name d.params d.body d.scope s m e)->b.heap.CodeRec m d.name->mg d.name=some (.ref j) ->
   b.heap.get? a=some {cls:=.type "list",data:=.seq vs.toArray}->IntsAre vs ns->ns.length<=n->b.gens = #[] ->
   codeAny (model l.prog w) callerA (.call (.ref j) ⟨[.ref a],[]⟩) (λr s'=>r = .ok (.ret (.bool true))/\OldK b.heap s'.heap/\s'.os=b.os/\AllBare s'.gens) b) :
  WalkO q loose XP YP l.row.toRowW d [] (λf vs=>PySem.call f vs):=by
 intro w s₀ b mg u G Y j o s m e Q kV ho hd A E x L args B as g C F v K;obtain rfl:Q = .none:=Dflts.none E z;obtain rfl:kV = .none:=Dflts.noKw E;obtain⟨a,vs,ns,rfl,rfl,h,c,i⟩:=FS I g v;refine enter_call (codeAny_mono (call w s₀ b mg u j o s m e a vs ns G Y ho (fd_plain hd) A x h c i L) λr s' H=>?_);obtain⟨rfl,P,O,N⟩:=H;exact⟨.inl ⟨.bool true,.bool true,[],rfl,λ_=>rfl,.bool true,F0 l _,λ_=>⟨List.Pairwise.nil,λ_ J=>(nomatch J)⟩⟩,P,O,N⟩
end Att
namespace L2
open PySem PySem.Spec PyProof.Rows
theorem uC:∀{vs:bQ} {ns:List Int},IntsAre vs ns->aT (ns.map V.int) vs
 | _,_,.nil=>.nil
 | _,_,.cons n t h=>.cons ⟨t,rfl⟩ (uC h)
abbrev bH:AT:=λ_ _ _ _ _ _=>False
abbrev E0:XK:=λ_ _ _=>False
theorem pass0 {X:Cx}:iF bH X E0:=λ_ _ _ _ _ _ _ h=>h.elim
structure fJ (K:PySem.W.Frag)(x qual:Str)(st:Stmt)(f:Addr)(fd:FuncData):Prop where
 ex:∃(oc:Value) (od:Option Addr) (kV doc pm:Value) (an:Option Addr) (cdv ct:Value) (osl:Array (Option Value)),
  fd=PySem.W.fnOf x qual (cK st) (bX st) (aH st) .none kV doc pm an cdv ct/\K.lookup f=some ⟨oc,od,.func fd,osl⟩/\PySem.W.codeIn K cdv qual=true
 kp:PySem.W.keepIn K (.ref f)=true
section
variable {P:Program}{w:World}{K:PySem.W.Frag}{mg:gX}{base:Heap}
theorem fJ.ok {x a:Str}{st:Stmt}{f:Addr}{i:FuncData}{N ps:aN}{k:Nat}{d:Sp}(F:fJ K x a st f i)(S:aR N ps (aH st))(len:∀vs H Q E,d vs H Q E->vs.length=ps.length)
  (c:∀(b:Value) (A:Around) (outer:List Env) (s:Shared) (H:Hp) (vs:List V) (Q:VK) (E:XK),dW k (A.deeper (envOfC a (aH st) s.heap.objs.size f b))->d vs H Q E ->
   ∃t,AJ (cxOf bH P w K mg base N a (aH st) f b A outer s H E).nox (bX st) t/\t {nx:=λ_ H'=>Q .non H',rt:=Q} (start N vs) H):bN P w K mg base bH (k+1) f i ps d:=by
 obtain⟨r,od,kV,m,o,u,b,ct,osl,rfl,j,g⟩:=F.ex;refine OH j g S len λA outer s H vs Q E l e=>?_;obtain⟨t,h,q⟩:=c b A outer s H vs Q E l e;exact⟨t,h.nox,q⟩
theorem fJ.binds {x a:Str}{st:Stmt}{f:Addr}{g:FuncData}{ps:aN}(F:fJ K x a st f g)
  (h:∀(kV b d:Value) (e:Option Addr) (c ct:Value) (us:bQ),us.length=ps.length->bindArgs (PySem.W.fnOf x a (cK st) (bX st) (aH st) .none kV b d e c ct) ⟨us,[]⟩=pure (ps.zip us)):dZ K g ps []:=by
 obtain⟨j,od,kV,b,d,e,c,ct,osl,rfl,l,i⟩:=F.ex;exact .all (h kV b d e c ct)
theorem lA {x a:Str}{st:Stmt}{f:Addr}{h:Value}{od g:Option Addr}{osl:Array (Option Value)}{kV d e b ct:Value}(l:K.lookup f=some ⟨h,od,.func (PySem.W.fnOf x a (cK st) (bX st) (aH st) .none kV d e g b ct),osl⟩)
  (c:PySem.W.codeIn K b a=true) (k:PySem.W.keepIn K (.ref f)=true):fJ K x a st f (PySem.W.fnOf x a (cK st) (bX st) (aH st) .none kV d e g b ct):=⟨⟨h,od,kV,d,e,g,b,ct,osl,rfl,l,c⟩,k⟩
end
section
variable {X:Cx}
theorem pv (i:Nat){x:Str}{a:Pos}(d:X.N[i]?=some x:=by rfl)(c:Q6 X.env.scope x:=by first|exact Or.inl rfl|exact Or.inr (Or.inl rfl)|exact Or.inr (Or.inr rfl))(hd:(x == ("__debug__" : Str))=false:=by decide)
  (b:(x == ("__classdict__" : Str))=false:=by decide):PE X (.Name x a) (tVar i):=BI d c hd b
end
theorem ite2 {c A B:Prop}[Decidable c](b:c->A)(a:¬c->B):if c then A else B:=by
 by_cases h:c
 ·rw[aj h];exact b h
 ·rw[ac h];exact a h
def aF (H H':Hp):Prop:=∀b o,H b=some o->H' b=some o
theorem aF.refl (H:Hp):aF H H:=λ_ _ h=>h
theorem aF.trans {H e d:Hp}(a:aF H e)(b:aF e d):aF H d:=λc o h=>b c o (a c o h)
theorem aF.free {H H':Hp}(e:aF H H'){l:Addr}(h:H' l=Option.none):H l=Option.none:=by
 cases q:H l with
 | none=>rfl
 | some o =>
  rw[e l o q]at h;cases h
section
variable {κ:Type}[DecidableEq κ]
noncomputable def valV (a:List (κ×V))(k:κ):Option V:=(a.find? λb=>decide (b.1=k)).map (·.2)
noncomputable def putK (a:List (κ×V))(k:κ)(v:V):List (κ×V) :=
 if (a.any λb=>decide (b.1=k))=true then a.map (λb=>if b.1=k then(b.1,v)else b)else a++[(k,v)]
theorem nA {p:κ×V}{r:List (κ×V)}{k:κ}(e:p.1=k):valV (p::r) k=some p.2:=by simp[valV,List.find?_cons,e]
theorem nB {p:κ×V}{r:List (κ×V)}{k:κ}(e:¬p.1=k):valV (p::r) k=valV r k:=by simp[valV,List.find?_cons,e]
theorem zA (a:List (κ×V))(k:κ)(v:V):(putK a k v).length<=a.length+1:=by
 unfold putK;split
 ·rw[af];omega
 ·rw[aq,ap,List.length_nil];omega
theorem lX.isSome_eq {o:Option V}{u:Option Value}(r:lX o u):o.isSome=u.isSome:=by
 cases o with
 | none=>cases u with
  | none=>rfl
  | some _=>exact(show False from r).elim
 | some _=>cases u with
  | none=>exact(show False from r).elim
  | some _=>rfl
theorem lX.getD {o:Option V}{u:Option Value}{d:V}{d':Value}(r:lX o u)(a:aU d d'):aU (o.getD d) (u.getD d'):=by
 cases o with
 | none=>cases u with
  | none=>exact a
  | some _=>exact(show False from r).elim
 | some _=>cases u with
  | none=>exact(show False from r).elim
  | some _=>exact r
theorem KV.val {a:List (κ×V)}{vs:List (κ×Value)}(r:KV a vs)(k:κ):lX (valV a k) (valueAt vs k):=by
 unfold KV at r
 induction r with
 | nil=>exact True.intro
 | @cons p q ps c h t f =>
  obtain⟨d,g⟩:=h;by_cases e:p.1=k
  ·have e':q.1=k:=d.symm.trans e;have b:valueAt (q::c) k=some q.2:=by simp[valueAt,List.find?_cons,e']
   rw[nA e,b];exact g
  ·have e':¬q.1=k:=λz=>e (d.trans z);have b:valueAt (q::c) k=valueAt c k:=by simp[valueAt,List.find?_cons,e']
   rw[nB e,b];exact f
theorem KV.any {a:List (κ×V)}{vs:List (κ×Value)}(r:KV a vs)(k:κ):(a.any λb=>decide (b.1=k))=vs.any λb=>decide (b.1=k):=by
 unfold KV at r
 induction r with
 | nil=>rfl
 | cons h t c=>rw[List.any_cons,List.any_cons,c,h.1]
theorem KV.repl {b:List (κ×V)}{vs:List (κ×Value)}(r:KV b vs)(k:κ){y:V}{u:Value}(d:aU y u) :
  KV (b.map λa=>if a.1=k then(a.1,y)else a) (vs.map λa=>if a.1=k then(a.1,u)else a):=by
 unfold KV at r⊢
 induction r with
 | nil=>exact .nil
 | @cons p q ps i h t f =>
  rw[aS,aS];refine .cons ?_ f;obtain⟨c,g⟩:=h;by_cases e:p.1=k
  ·rw[aj e,aj (c.symm.trans e)];exact⟨c,d⟩
  ·rw[ac e,ac (λz=>e (c.trans z))];exact⟨c,g⟩
theorem KV.put {a:List (κ×V)}{vs:List (κ×Value)}(r:KV a vs)(k:κ){y:V}{u:Value}(b:aU y u):KV (putK a k y) (stored vs k u):=by
 unfold putK stored;rw[r.any k];by_cases e:(vs.any λc=>decide (c.1=k))=true
 ·rw[aj e,aj e];exact r.repl k b
 ·rw[ac e,ac e];exact Paired.snoc r ⟨rfl,b⟩
theorem KV.length {a:List (κ×V)}{vs:List (κ×Value)}(r:KV a vs):a.length=vs.length:=Paired.length r
end
theorem uW {P:Program}{w:World}{k:fU}{u:Value}(r:aU (kV k) u):(cQ P w).is k u=true:=by
 cases k with
 | inl i=>obtain⟨t,e⟩:=(show ∃t,u=Value.int i t from r);subst e;exact yZ P w i t
 | inr x=>obtain⟨t,e⟩:=(show ∃t,u=Value.str x t from r);subst e;exact yY P w x t
theorem uX {P:Program}{w:World}:∀{ks:List fU} {us:bQ},aT (ks.map kV) us->ItemsAre (cQ P w) ks us
 | [],_,r=>by rw[List.map_nil]at r;cases r;exact .nil
 | k::ks,_,r=>by
  rw[aS]at r;cases r with
  | cons h t=>exact .cons (uW h) (uX t)
abbrev KT (H:Hp):List (List fU×V)->List (List fU×Addr×Value)->Prop:=Paired λp q=>p.1=q.1/\H q.2.1=some (.tup (p.1.map kV))/\aU p.2 q.2.2
theorem KT.val {H:Hp}{a:List (List fU×V)}{xs:List (List fU×Addr×Value)}(r:KT H a xs)(k:List fU):lX (valV a k) ((atKey xs k).map (·.2)):=by
 induction r with
 | nil=>exact True.intro
 | @cons p q ps c h t f =>
  obtain⟨d,_,g⟩:=h;by_cases e:p.1=k
  ·have e':q.1=k:=d.symm.trans e;have b:atKey (q::c) k=some q.2:=by simp[atKey,List.find?_cons,e']
   rw[nA e,b];exact g
  ·have e':¬q.1=k:=λz=>e (d.trans z);have b:atKey (q::c) k=atKey c k:=by simp[atKey,List.find?_cons,e']
   rw[nB e,b];exact f
section
variable {P:Program}{w:World}{H:Hp}{h:Heap}{a:Addr}
theorem OC {u:HO}(ok:fV P w H h)(e:Rd H a u):cF P w H h a u:=e.ok ok
theorem zS {b:List (fU×V)}(ok:fV P w H h)(e:Rd H a (.dK b)):b.length<=sizeLine/\(a == sysModules)=false/\∃vs,KV b vs/\h.DictOf (cQ P w) a vs :=
 show cF P w H h a (.dK b)from OC ok e
theorem w5 {ks:List fU}(ok:fV P w H h)(e:H a=some (.tup (ks.map kV))):(tupleKind (cQ P w)).is h ks a:=by
 obtain⟨_,its,r,o,d,c,n,b⟩:=(show cF P w H h a (.tup (ks.map kV))from ok a _ e)
 exact⟨o,its.toArray,n,d,c,b,by simpa using uX r⟩
theorem EZ {b:List (List fU×V)}(ok:fV P w H h)(e:Rd H a (.dT b)):b.length<=sizeLine/\(a == sysModules)=false /\
  ∃xs,KT H b xs/\h.DictOfH (tupleKind (cQ P w)) a xs:=by
 obtain⟨z,y,xs,r,o,es,ep,u,s,j,i,g⟩:=(show cF P w H h a (.dT b)from OC ok e)
 refine⟨z,y,xs,r,o,es,ep,u,s,j,i,λx c=>?_,g⟩;have all:∀{l:List (List fU×V)} {m:List (List fU×Addr×Value)},KT H l m->∀x∈m,(tupleKind (cQ P w)).is h x.1 x.2.1:=by
  intro l m q
  induction q with
  | nil=>intro x c;exact nomatch c
  | @cons p q ps v d t f =>
   intro x c;rcases cm.mp c with e|c
   ·subst e;exact w5 ok (by rw[←d.1];exact d.2.1)
   ·exact f x c
 exact all r x c
end
def oQ (H:Hp)(a:Addr)(y:V)(r:Option V):Prop :=
 (∃c k,Rd H a (.dK c)/\y=kV k/\r=valV c k)∨∃c k b,Rd H a (.dT c)/\y = .ref b/\H b=some (.tup (k.map kV))/\r=valV c k
theorem oQ.k {H:Hp}{a:Addr}{b:List (fU×V)}{k:fU}(e:H a=some (.dK b)):oQ H a (kV k) (valV b k):=.inl ⟨b,k,.inl e,rfl,rfl⟩
section
variable {X:Cx}{pins:cZ}{σ:St}{H:Hp}{s:Shared}{a:Addr}{y v:V}{u r:Value}{o:Option V}{A:Around}{E:cJ}
theorem aQ.big (I:aQ X pins σ H s):sysModules<s.heap.objs.size:=by have h:mainGlobals<s.heap.objs.size:=(I.mod.glob.keeps I.bk).lt;exact Nat.lt_trans (by decide) h
theorem NS {Q:cJ}(j:A.units+1<cLine)(I:aQ X pins σ H s)(g:oQ H a y o)(i:aU y u)(h:∀s',aQ X pins σ H s'->Q (.bool (!o.isSome)) s') :
  wpAny (model X.prog X.w) A (compareOp .NotIn u (.ref a)) Q E s:=by
 rcases g with⟨d,k,e,f,l⟩|⟨d,k,b,e,f,m,l⟩
 ·subst f;obtain⟨z,hd,vs,c,dd⟩:=zS I.hok e;refine wpAny_notIn_of (uW i) hd dd.mapOf ?_;rw[←(c.val k).isSome_eq,←l];exact h _ (I.tok _)
 ·subst f;cases (show u=Value.ref b from i);obtain⟨z,hd,xs,c,dd⟩:=EZ I.hok e;refine wpAny_notIn_heap (tupleKind_room_in1 j) (w5 I.hok m) hd dd ?_;have q:=(c.val k).isSome_eq;rw[Option.isSome_map]at q;rw[←q,←l];exact h _ (I.tok _)
theorem QO {P:Program}{w:World}{H':Hp}{h':Heap}{b:List (fU×V)}{vs:List (fU×Value)}(z:b.length<=sizeLine)(hd:(a == sysModules)=false)(c:KV b vs)(dd:h'.DictOf (cQ P w) a vs) :
  cF P w H' h' a (.dK b):=⟨z,hd,vs,c,dd⟩
end
section
variable {X:Cx}{pins:cZ}{σ:St}{H:Hp}{s:Shared}{a:Addr}{kvs:List (fU×V)}{k:fU}{u:Value}{A:Around}{E:cJ}
theorem RH {Q:cJ}(I:aQ X pins σ H s)(e:Rd H a (.dK kvs))(h:∀t s',aQ X pins σ H s'->Q (.int kvs.length t) s'):wpAny (model X.prog X.w) A (call (.builtin "len") [.ref a]) Q E s:=by obtain⟨z,hd,vs,b,dd⟩:=zS I.hok e;refine call_len_dict hd dd (by rw[←b.length];rw[sizeLine_eq]at z;omega) ?_;rw[←b.length];exact h _ _ (I.tok _)
end
theorem K3 {P:Program}{w:World}{H:Hp}(h:Heap)(a:sysModules<h.objs.size):cF P w H (h.push {cls:=.type "dict",data:=.dict #[]}) h.objs.size (.dK []) :=
 ⟨au _,cs.mpr (Ne.symm (bi a)),[],.nil,Heap.DictOf.new h⟩
def IC:TE:=λ_ H Q=>∀p,H p=none->Q (.ref p) (upd H p (.dK []))
section
variable {X:Cx}{pos:Pos}
theorem JD:PE X (.Dict [] [] pos) IC:=λb s σ H Q I h =>
 wpAny_Dict_empty ⟨.ref s.heap.objs.size,_,I.laid (a:=s.heap.objs.size) (o:=.dK []) (t':=s.toks) (λ_ _ q=>ag _ q) (ae _) (K3 s.heap I.big),rfl,h _ (I.hok.fresh (ae _))⟩
end
noncomputable def iY (a more:List (fU×V)):List (fU×V):=more.foldl (λb c=>putK b c.1 c.2) a
theorem KV.merge:∀{more:List (fU×V)} {b:List (fU×Value)} {a:List (fU×V)} {vs:List (fU×Value)},KV more b->KV a vs->KV (iY a more) (merged vs b):=by
 intro more b a vs r;unfold KV at r
 induction r generalizing a vs with
 | nil=>intro q;exact q
 | @cons p q ps f h t d =>
  intro c;have e:KV (putK a p.1 p.2) (stored vs q.1 q.2):=by have:=c.put p.1 h.2;rw[←h.1];exact this
  exact d e
theorem lZ:∀(more a:List (fU×V)),(iY a more).length<=a.length+more.length
 | [],a=>by show a.length<=a.length+0;omega
 | p::r,a=>by have c:=lZ r (putK a p.1 p.2);have b:=zA a p.1 p.2;show(iY (putK a p.1 p.2) r).length<=_;rw[ap];omega
structure M1 (X:Cx)(o:Expr)(m:Str)(apos:Pos)(e:Expr)(cpos:Pos):Prop where
 base:attributeBase o m X.env (eval o X.env)=eval o X.env
 few:((backTo cpos (starEach [e] X.env)).all (λx=>!x.1) && (backToKw cpos (keywordEach [] X.env)).all (λx=>x.1.isSome)
  && decide (([e]:mJ).length+([]:List Keyword).length+(if ([]:List Keyword).isEmpty then 0 else 1)<30))=true
 line:(apos.endLine == cpos.line)=true
 trees:backTo cpos (starEach [e] X.env)=[(false,eval e X.env)]
structure M2 (X:Cx)(o:Expr)(m:Str)(apos:Pos)(e f:Expr)(cpos:Pos):Prop where
 base:attributeBase o m X.env (eval o X.env)=eval o X.env
 few:((backTo cpos (starEach [e,f] X.env)).all (λx=>!x.1) && (backToKw cpos (keywordEach [] X.env)).all (λx=>x.1.isSome)
  && decide (([e,f]:mJ).length+([]:List Keyword).length+(if ([]:List Keyword).isEmpty then 0 else 1)<30))=true
 line:(apos.endLine == cpos.line)=true
 trees:backTo cpos (starEach [e,f] X.env)=[(false,eval e X.env),(false,eval f X.env)]
def SA (H:Hp)(a:Addr):Prop:=(∃b,Rd H a (.dK b))∨∃b,Rd H a (.dT b)
theorem KL {X:Cx}{f:cZ}{σ:St}{H:Hp}{s:Shared}{a:Addr}(I:aQ X f σ H s)(d:SA H a) :
  s.TypeIs (.ref a) "dict"/\(∀b,Value.ref a = .ref b->∃c,s.heap.get? b=some c/\c.dict=none)/\(a == sysModules)=false:=by
 rcases d with⟨g,e⟩|⟨g,e⟩
 ·obtain⟨_,hd,vs,_,dd⟩:=zS I.hok e;refine⟨dd.typeIs,λb q=>?_,hd⟩;cases q;obtain⟨c,_,_,i,h,_⟩:=dd;exact⟨c,i,h.2.1⟩
 ·obtain⟨_,hd,xs,_,dd⟩:=EZ I.hok e;refine⟨dd.typeIs,λb q=>?_,hd⟩;cases q;obtain⟨c,_,_,i,h,_⟩:=dd;exact⟨c,i,h.2.1⟩
section
variable {X:Cx}{pins:cZ}{σ:St}{H:Hp}{s:Shared}{a:Addr}{y d:V}{u r:Value}{o:Option V}{A:Around}{E:cJ}
theorem QR {Q:cJ}(m:A.units+1<cLine)(I:aQ X pins σ H s)(g:oQ H a y o)(j:aU y u)(h:∀i s',aQ X pins σ H s'->aU (o.getD .non) i->Q i s') :
  wpAny (model X.prog X.w) A (call (.builtin "dict.get") [.ref a,u]) Q E s:=by
 rcases g with⟨d,k,e,f,l⟩|⟨d,k,b,e,f,q,l⟩
 ·subst f;obtain⟨z,hd,vs,c,dd⟩:=zS I.hok e;refine call_meetsIn PySem.F.slot_dict_get dd.typeIs PySem.F.entry_dict_get (PySem.F.args_dict_get_2 _ _) (meets_dict_get (cQ X.prog X.w) a (uW j) hd) ⟨_,dd.mapOf,h _ _ (I.tok _) ?_⟩;rw[l];exact(c.val k).getD rfl
 ·subst f;cases (show u=Value.ref b from j);obtain⟨z,hd,xs,c,dd⟩:=EZ I.hok e;refine call_meetsIn PySem.F.slot_dict_get dd.typeIs PySem.F.entry_dict_get (PySem.F.args_dict_get_2 _ _) (meetsH_dict_get (tupleKind (cQ X.prog X.w)) a b hd) ⟨tupleKind_room_in1 m,k,xs,w5 I.hok q,dd,h _ _ (I.tok _) ?_⟩;rw[l];exact(c.val k).getD rfl
theorem QQ {Q:cJ}(v:A.units+1<cLine)(I:aQ X pins σ H s)(g:oQ H a y o)(m:aU y u)(q:aU d r)(h:∀j s',aQ X pins σ H s'->aU (o.getD d) j->Q j s') :
  wpAny (model X.prog X.w) A (call (.builtin "dict.get") [.ref a,u,r]) Q E s:=by
 rcases g with⟨f,k,e,i,l⟩|⟨f,k,b,e,i,x,l⟩
 ·subst i;obtain⟨z,hd,vs,c,dd⟩:=zS I.hok e;refine call_meetsIn PySem.F.slot_dict_get dd.typeIs PySem.F.entry_dict_get (PySem.F.args_dict_get_3 _ _ _) (meets_dict_get_default (cQ X.prog X.w) a (uW m) hd r) ⟨_,dd.mapOf,h _ _ (I.tok _) ?_⟩;rw[l];exact(c.val k).getD q
 ·subst i;cases (show u=Value.ref b from m);obtain⟨z,hd,xs,c,dd⟩:=EZ I.hok e;refine call_meetsIn PySem.F.slot_dict_get dd.typeIs PySem.F.entry_dict_get (PySem.F.args_dict_get_3 _ _ _) (meetsH_dict_get_default (tupleKind (cQ X.prog X.w)) a b hd r) ⟨tupleKind_room_in1 v,k,xs,w5 I.hok x,dd,h _ _ (I.tok _) ?_⟩;rw[l];exact(c.val k).getD q
end
def O4 (d ty:TE):TE:=λσ H Q=>d σ H λx c=>∃a,x = .ref a/\SA c a/\ty σ c λy b=>∃o,oQ b a y o/\Q (o.getD .non) b
def O3 (e ty d:TE):TE:=λσ H Q=>e σ H λx c=>∃a,x = .ref a/\SA c a/\ty σ c λy f=>d σ f λz b=>∃o,oQ b a y o/\Q (o.getD z) b
section
variable {X:Cx}{o e f:Expr}{apos cpos:Pos}{td ty tx:TE}
theorem yP (w:X.A.units+1<cLine)(ho:PE X o td)(z:PE X e ty)(m:M1 X o "get" apos e cpos):PE X (.Call (.Attribute o "get" apos) [e] [] cpos) (O4 td ty):=by intro b s σ H Q I h;refine wpAny_Call_method m.base m.few m.line PySem.F.plainAttrs_dict PySem.F.slot_dict_get PySem.F.type_dict_get (thn (ho b s σ H _ I h) λu j ⟨x,G,f,q,a,ex,d,v⟩=>?_);subst ex;obtain rfl:u=Value.ref a:=q;obtain⟨t1,i,_⟩:=KL f d;refine⟨t1,i,?_⟩;rw[m.trees];refine Calls.callWith_builtin rfl (Calls.evalArgs_plain (Calls.spliced_cons (thn (z b j σ G _ f v) λN s2 ⟨y,E,C,l,L,g,r⟩=>Calls.spliced_nil ?_)));exact QR w C g l λJ K B c=>⟨_,E,B,c,r⟩
theorem yO (E:X.A.units+1<cLine)(ho:PE X o td)(J:PE X e ty)(G:PE X f tx)(m:M2 X o "get" apos e f cpos):PE X (.Call (.Attribute o "get" apos) [e,f] [] cpos) (O3 td ty tx):=by
 intro b s σ H Q I h;refine wpAny_Call_method m.base m.few m.line PySem.F.plainAttrs_dict PySem.F.slot_dict_get PySem.F.type_dict_get (thn (ho b s σ H _ I h) λu l ⟨x,R,i,v,a,ex,d,C⟩=>?_);subst ex;obtain rfl:u=Value.ref a:=v;obtain⟨t1,j,_⟩:=KL i d;refine⟨t1,j,?_⟩;rw[m.trees]
 refine Calls.callWith_builtin rfl (Calls.evalArgs_plain (Calls.spliced_cons (thn (J b l σ R _ i C) λY s2 ⟨y,P,N,r,B⟩ =>
  Calls.spliced_cons (thn (G b s2 σ P _ N B) λZ U ⟨z,O,L,q,W,g,w⟩=>Calls.spliced_nil ?_))))
 exact QQ E L g r q λS T K c=>⟨_,O,K,c,w⟩
end
section
variable {X:Cx}
theorem HB:dN X (.builtin "len") (λxs H Q=>∃a b,xs=[V.ref a]/\H a=some (.dK b)/\Q (.int b.length) H):=by intro c s σ H xs us Q I r h;obtain⟨a,b,rfl,e,q⟩:=h;obtain⟨u,rfl,d⟩:=vals1 r;cases d;exact RH I (.inl e) λt s' f=>⟨.int b.length,H,f,⟨t,rfl⟩,q⟩
end
noncomputable def closL (cells:List (Str×Addr)):List (Str×NameKind)->List (Str×Addr)->List (Str×Addr)
 | [],a=>a
 | (n,k)::r,a=>closL cells r (if k = .free then(n,(cells.lookup n).getD 0)::a else a)
theorem tV {scope:Scope}{env:Env}(h:∀x∈scope.names,x.2 = .free->∃c,env.cells.lookup x.1=some c):closureFor scope env=pure (closL env.cells scope.names []):=by
 have go:∀(l:List (Str×NameKind)) (b:List (Str×Addr)),(∀x∈l,x.2 = .free->∃c,env.cells.lookup x.1=some c) ->
   (forIn l b λ(x:Str×NameKind) (r:List (Str×Addr))=>match x with|(name,kind)=>if (kind == NameKind.free)=true then do let a ←cellOf env name;pure (ForInStep.yield ((name,a)::r))else pure (ForInStep.yield r):Sem (List (Str×Addr)))=pure (closL env.cells l b):=by
  intro l
  induction l with
  | nil=>intro b _;rfl
  | cons x r e =>
   intro b f;obtain⟨n,k⟩:=x;have g:=λy i=>f y (ay _ i);rw[List.forIn_cons];by_cases d:k = .free
   ·subst d;obtain⟨c,j⟩:=f (n,.free) av rfl;have hc':List.lookup n env.cells=some c:=j;have q:cellOf env n=pure c:=by unfold cellOf;rw[hc']
    simp only[beq_self_eq_true,if_true,q,pure_bind];rw[e _ g];show _=pure (closL env.cells r (if NameKind.free = .free then(n,(env.cells.lookup n).getD 0)::b else b));rw[aj rfl,hc'];rfl
   ·have o:(k == NameKind.free)=false:=by simpa using d
    simp only[o,Bool.false_eq_true,if_false,pure_bind];rw[e _ g];show _=pure (closL env.cells r (if k = .free then(n,(env.cells.lookup n).getD 0)::b else b));rw[ac d]
 exact(congrArg (λ(m:Sem (List (Str×Addr)))=>m >>= λs=>pure s) (go scope.names [] h)).trans rfl
theorem vA {cells:List (Str×Addr)}{x:Str}{c:Addr}:∀(l:List (Str×NameKind)) (b:List (Str×Addr)),(closL cells l b).lookup x=some c->b.lookup x=some c∨(x,NameKind.free)∈l/\c=(cells.lookup x).getD 0
 | [],_,h=>.inl h
 | (n,k)::r,b,h=>by
  unfold closL at h;rcases vA r _ h with q|⟨q,e⟩
  ·by_cases a:k = .free
   ·rw[aj a]at q;rw[bw]at q;by_cases d:x=n
    ·subst d;rw[beq_self_eq_true]at q;subst a;exact .inr ⟨av,(Option.some.inj q).symm⟩
    ·have f:(x == n)=false:=by simpa using d
     rw[f]at q;exact .inl q
   ·rw[ac a]at q;exact .inl q
  ·exact .inr ⟨ay _ q,e⟩
theorem vB {cells:List (Str×Addr)}{x:Str}:∀(l:List (Str×NameKind)) (a:List (Str×Addr)),((x,NameKind.free)∈l∨(a.lookup x).isSome)->((closL cells l a).lookup x).isSome
 | [],a,h=>by
  rcases h with h|h
  ·cases h
  ·exact h
 | (n,k)::r,a,h=>by
  unfold closL;refine vB r _ ?_;by_cases c:k = .free
  ·rw[aj c,bw];by_cases b:x=n
   ·subst b;rw[beq_self_eq_true];exact .inr rfl
   ·have d:(x == n)=false:=by simpa using b
    rw[d];rcases h with h|h
    ·rcases cm.mp h with e|e
     ·cases e;exact absurd rfl b
     ·exact .inl e
    ·exact .inr h
  ·rw[ac c];rcases h with h|h
   ·rcases cm.mp h with e|e
    ·cases e;exact absurd rfl c
    ·exact .inl e
   ·exact .inr h
theorem kZ {α β:Type}[BEq α][LawfulBEq α]{x:α}{v:β}:∀{l:List (α×β)},l.lookup x=some v->(x,v)∈l
 | [],h=>by simp at h
 | (n,k)::r,h=>by
  rw[bw]at h;by_cases e:x=n
  ·subst e;rw[beq_self_eq_true]at h;cases h;exact av
  ·have a:(x == n)=false:=by simpa using e
   rw[a]at h;exact ay _ (kZ h)
theorem jW {env:Env}{x:Str}:∀{names:List (Str×NameKind)} {a:NameKind},(∀y∈names,y.2≠.cell) ->
  (names.map λ(n,k)=>if (k == NameKind.free && env.scope.kind == .function && env.kindOf n == some .cell)then(n,NameKind.cell)else(n,k)).lookup x=some a->(a = .cell∨a = .free)->names.lookup x=some .free
 | [],_,_,h,_=>by simp at h
 | (n,k)::r,a,g,h,b=>by
  have d:=@jW env x r a (λy i=>g y (ay _ i));have j:=g (n,k) av;have h:List.lookup x ((if (k == NameKind.free && env.scope.kind == .function && env.kindOf n == some .cell)=true then(n,NameKind.cell)else(n,k))::_)=some a:=h;by_cases f:x=n
  ·subst f;rw[bw,beq_self_eq_true];by_cases q:(k == NameKind.free && env.scope.kind == .function && env.kindOf x == some .cell)=true
   ·simp only[Bool.and_eq_true,beq_iff_eq]at q;show some k=some .free;rw[q.1.1]
   ·rw[ac q,bw,beq_self_eq_true]at h;have h:some k=some a:=h;cases h;rcases b with e|e
    ·exact absurd e j
    ·show some k=some .free;rw[e]
  ·have c:(x == n)=false:=by simpa using f
   rw[bw,c];by_cases q:(k == NameKind.free && env.scope.kind == .function && env.kindOf n == some .cell)=true
   ·rw[aj q,bw,c]at h;exact d h b
   ·rw[ac q,bw,c]at h;exact d h b
theorem j9 {env:Env}{x:Str}:∀{names:List (Str×NameKind)},names.lookup x=some .free ->
  (names.map λ(n,k)=>if (k == NameKind.free && env.scope.kind == .function && env.kindOf n == some .cell)then(n,NameKind.cell)else(n,k)).lookup x=some .cell ∨
  (names.map λ(n,k)=>if (k == NameKind.free && env.scope.kind == .function && env.kindOf n == some .cell)then(n,NameKind.cell)else(n,k)).lookup x=some .free
 | [],h=>by simp at h
 | (n,k)::r,h=>by
  have b:=@j9 env x r;show List.lookup x ((if (k == NameKind.free && env.scope.kind == .function && env.kindOf n == some .cell)=true then(n,NameKind.cell)else(n,k))::_)=_∨List.lookup x ((if (k == NameKind.free && env.scope.kind == .function && env.kindOf n == some .cell)=true then(n,NameKind.cell)else(n,k))::_)=_;by_cases c:x=n
  ·subst c;rw[bw,beq_self_eq_true]at h;have h:some k=some .free:=h;cases h;by_cases q:(NameKind.free == NameKind.free && env.scope.kind == .function && env.kindOf x == some .cell)=true
   ·rw[aj q,bw,beq_self_eq_true];exact .inl rfl
   ·rw[ac q,bw,beq_self_eq_true];exact .inr rfl
  ·have a:(x == n)=false:=by simpa using c
   rw[bw,a]at h;by_cases q:(k == NameKind.free && env.scope.kind == .function && env.kindOf n == some .cell)=true
   ·rw[aj q,bw,a];exact b h
   ·rw[ac q,bw,a];exact b h
noncomputable def srcOk (N:aN)(names:List (Str×NameKind)):List (Option Nat)->aN->Bool
 | [],[]=>true
 | none::r,_::n=>srcOk N names r n
 | some i::r,x::n=>N[i]? == some x && names.lookup x == some .free && srcOk N names r n
 | _,_=>false
theorem oW {N:aN}{names:List (Str×NameKind)}:∀{src:List (Option Nat)} {n:aN},srcOk N names src n=true->src.length=n.length
 | [],[],_=>rfl
 | none::r,_::n,h=>by simp[oW (src:=r) (n:=n) h]
 | some i::r,x::n,h=>by
  simp only[srcOk,Bool.and_eq_true]at h;simp[oW (src:=r) (n:=n) h.2]
 | [],_::_,h=>by simp[srcOk]at h
 | none::_,[],h=>by simp[srcOk]at h
 | some _::_,[],h=>by simp[srcOk]at h
theorem oX {N:aN}{names:List (Str×NameKind)}:∀{src:List (Option Nat)} {n:aN} {j i:Nat} {x:Str},srcOk N names src n=true->src[j]?=some (some i)->n[j]?=some x->N[i]?=some x/\names.lookup x=some .free
 | [],_,_,_,_,_,h,_=>by simp at h
 | _::_,[],_,_,_,_,_,h=>by simp at h
 | none::r,_::n,0,_,_,_,h,_=>by simp at h
 | none::r,_::n,j+1,_,_,h,b,a=>oX (src:=r) (n:=n) (j:=j) h (by simpa using b) (by simpa using a)
 | some k::r,y::n,0,i,x,h,b,a=>by
  simp at b a;subst b a;simp only[srcOk,Bool.and_eq_true,beq_iff_eq]at h;exact h.1
 | some _::r,_::n,j+1,_,_,h,b,a=>by simp only[srcOk,Bool.and_eq_true]at h;exact oX (src:=r) (n:=n) (j:=j) h.2 (by simpa using b) (by simpa using a)
structure bD (X:Cx)(scope:Scope)(N':aN)(src:List (Option Nat)):Prop where
 kind:scope.kind = .function
 cell:∀y∈scope.names,y.2≠.cell
 names:∀y∈scope.names,y.2 = .local->scope.names.lookup y.1=some .local
 free:∀y∈scope.names,y.2 = .free->(X.env.scope.names.lookup y.1=some .cell∨X.env.scope.names.lookup y.1=some .free)
 nd:N'.Nodup
 map:srcOk X.N scope.names src N'=true
noncomputable def stC (src:List (Option Nat))(σ:St):St:=src.map λo=>o.bind λi=>(σ[i]?).join
noncomputable def blk (X:Cx)(scope:Scope)(N':aN)(C:Addr)(a:Shared)(H₂:Hp)(b:List Addr):Cx :=
 {X with N:=N',s₀:=a,H₀:=H₂,env:=compEnvC scope (closL X.env.cells scope.names []) C X.env,outer:=X.stack,stack:=X.stack,ex:=b,fn:=λ_=>false,pn:=[],xe:=λ_ _=>False}
section
variable {X:Cx}{pins:cZ}{σ:St}{H:Hp}{s:Shared}{scope:Scope}{N':aN}{src:List (Option Nat)}
theorem bD.cells (S:bD X scope N' src)(I:aQ X pins σ H s):∀x∈scope.names,x.2 = .free->∃c,X.env.cells.lookup x.1=some c:=λx a b=>I.ok.has x.1 (S.free x a b)
theorem bD.cl (S:bD X scope N' src)(I:aQ X pins σ H s){x:Str}{c:Addr}(h:(closL X.env.cells scope.names []).lookup x=some c):X.env.cells.lookup x=some c:=by
 rcases vA _ _ h with q|⟨q,e⟩
 ·simp at q
 ·obtain⟨d,hd⟩:=S.cells I (x,.free) q rfl;have hd:X.env.cells.lookup x=some d:=hd;rw[hd]at e;rw[hd,e];rfl
theorem bD.clHas (S:bD X scope N' src)(I:aQ X pins σ H s){x:Str}(h:scope.names.lookup x=some .free):∃c,(closL X.env.cells scope.names []).lookup x=some c/\X.env.cells.lookup x=some c:=by have q:=vB (cells:=X.env.cells) (x:=x) scope.names [] (.inl (kZ h));obtain⟨c,a⟩:=Option.isSome_iff_exists.mp q;exact⟨c,a,S.cl I a⟩
theorem bD.ok (S:bD X scope N' src)(I:aQ X pins σ H s){g:List Addr}{C:Addr}(d:∀b∈g,fT X pins H b)(f:∀b∈g,b<s.heap.objs.size)(i:s.heap.objs.size<=C):(blk X scope N' C s H g).Ok where
 mod:=I.mod
 kind:=S.kind
 glob:=I.ok.glob
 blt:=I.ok.blt
 above:=i
 inj:=λx y c r m=>I.ok.inj x y c (S.cl I r) (S.cl I m)
 has:=λx j=>by
  have q:scope.names.lookup x=some .free:=by
   rcases j with h|h
   ·exact jW S.cell h (.inl rfl)
   ·exact jW S.cell h (.inr rfl)
  obtain⟨c,l,_⟩:=S.clHas I q;exact⟨c,l⟩
 cab:=λx c h _=>by cases h
 hd:=I.ok.hd
 frames:=I.ok.frames
 stk:=.inl rfl
 exf:=λb a=>⟨bi (ba (f b a) i),λx c e=>(d b a).2.2.2.2.1 x c (S.cl I e)⟩
 bs:=I.bs
 bsz:=ao I.ok.bsz I.sz
 noex:=λb o e a=>by
  rcases(d b a).2.2.2.1 with z|z
  ·exact I.ok.noex b o e z
  ·exact absurd (ba (az e) (ao I.ok.bsz z)) (bx _)
 exfs:=λb a z=>by
  rcases cm.mp (I.stkSub b z)with e|e
  ·exact(d b a).2.1 e
  ·exact(d b a).2.2.1 e
 funs:=I.stack
 frf:=I.stkFree
theorem bD.start (S:bD X scope N' src)(I:aQ X pins σ H s){L:List Addr}{C:Addr}{h':Heap}{tk:Nat}{m:gX}{pl:cZ}(T:∀b∈L,fT X pins H b)(G:∀b∈L,b<s.heap.objs.size)(O:s.heap.objs.size<=C)
  (h:∀b o,s.heap.get? b=some o->h'.get? b=some o) (F:h'.Ns C m)
  (E:∀p∈pl,h'.get? p.1=some p.2/\s.heap.objs.size<=p.1/\p.1≠C/\∀v,p.2.data≠.cell v) :
  aQ (blk X scope N' C s H L) pl (stC src σ) H {s with heap:=h',toks:=tk} where
 ok:=S.ok I T G O
 os:=rfl
 bare:=I.bare
 base:=Un.kept h
 loc:=by
  obtain⟨Z,R,J⟩:=I.loc;refine⟨m,F,λj x v W f h3=>?_⟩;have f:(src.map λo=>o.bind λi=>(σ[i]?).join)[j]?=some (some v):=f;rw[bu]at f;cases e:src[j]? with
  | none=>rw[e]at f;cases f
  | some o =>
   rw[e]at f;cases o with
   | none=>cases f
   | some i =>
    have f:some ((σ[i]?).join)=some (some v):=f;obtain⟨Y,N⟩:=oX S.map e W;have P:σ[i]?=some (some v):=by
     cases q:σ[i]? with
     | none=>rw[q]at f;cases f
     | some w=>rw[q]at f;cases w with
      | none=>cases f
      | some w=>cases f;rfl
    have g:=S.free (x,.free) (kZ N) rfl;obtain⟨u,r,l⟩:=J i x v Y P (.inr g);refine⟨u,r,.inr ⟨j9 N,?_⟩⟩;obtain⟨c,U,K⟩:=S.clHas I N;refine⟨c,U,?_⟩;rcases l with⟨k,_⟩|⟨_,c',B,A⟩
    ·have k:X.env.scope.names.lookup x=some .local:=k;have g:X.env.scope.names.lookup x=some .cell∨X.env.scope.names.lookup x=some .free:=g;rw[k]at g;rcases g with z|z <;> cases z
    ·rw[K]at B;cases B;obtain⟨o,ho,hd⟩:=A;exact⟨o,h _ _ ho,hd⟩
 cell:=λx c e=>by obtain⟨v,o,ho,hd⟩:=I.cell x c (S.cl I e);exact⟨v,o,h _ _ ho,hd⟩
 free:=I.hok.fresh O
 freeC:=λx c e=>I.freeC x c (S.cl I e)
 pin:=λp Q=>by
  obtain⟨a,b,c,d⟩:=E p (by simpa [blk] using Q);refine⟨a,I.hok.fresh b,c,λz=>?_,d⟩;rcases cm.mp (I.stkSub _ z)with e|e
  ·exact absurd (ba I.lt (by rw[←e];exact b)) (bx _)
  ·exact I.nofs b e
 hok:=I.hok.kept h
 len:=by show(src.map _).length=N'.length;rw[af];exact oW S.map
end
noncomputable def vT (a:mJ)(env:Env):Sem Bool:=forIn a true λc (b:Bool)=>if b=true then isTrue c env (eval c env) >>= λb=>pure (.yield b)else pure (.yield b)
section
variable (M:Model)(A:Around)(env:Env)(E:cJ)
def Drawn (it:Value)(a:Expr)(stop go:Shared->Prop)(s:Shared):Prop :=
 wpAny M A (pyNext it) (λr t=>r.elim (stop t) λv=>wpAny M A (letOwnedTupleGo a it v) (λ_ t=>wpAny M A (assign a env v) (λ_=>go) E t) E t) E s
def C8 (b:mJ)(lay:Sem Unit)(a:Shared->Prop)(s:Shared):Prop :=
 wpAny M A (vT b env) (λok t=>if ok=true then wpAny M A lay (λ_=>a) E t else a t) E s
end
noncomputable def oT (p:Pos)(it:Value)(a:Expr)(env:Env)(k:Sem PySem.Fin):Sem PySem.Fin:=standAt p >>= λ_=>pyNext it >>= λr=>match r with
 | none=>pure (.done .next)
 | some v=>letOwnedTupleGo a it v >>= λ_=>assign a env v >>= λ_=>k
noncomputable def layOn (a:mJ)(lay:Sem Unit)(env:Env)(c:Code):Sem PySem.Fin:=vT a env >>= λok=>if ok=true then lay >>= λ_=>again c else again c
noncomputable def wW (a:Expr)(b:Value)(env:Env):Sem Unit:=eval a env >>= λx=>call (.builtin "list.append") [b,x] >>= λ_=>pure ()
section
variable {M:Model}{A:Around}{env:Env}{E:cJ}{it:Value}{tg:Expr}{s:Shared}
theorem Drawn.mono {stop go a b:Shared->Prop}(h:Drawn M A env E it tg stop go s)(d:∀t,stop t->a t)(c:∀t,go t->b t):Drawn M A env E it tg a b s :=
 thn h λr t q=>by
  cases r
  ·exact d t q
  ·exact thn q λ_ _ q=>thn q λ_ t q=>c t q
theorem Drawn.run {p:Pos}{k:Sem PySem.Fin}{Q:PySem.Fin->Shared->Prop}(h:Drawn M A env E it tg (Q (.done .next)) (λt=>wpAny M A k Q E t) s):wpAny M A (oT p it tg env k) Q E s:=by
 unfold oT;refine aa (wpAny_standAt (aa (thn h λr t q=>?_)));cases r
 ·exact al q
 ·exact aa (thn q λ_ _ q=>aa q)
theorem C8.run {a:mJ}{lay:Sem Unit}{c:Code}{Q:PySem.Fin->Shared->Prop}(h:C8 M A env E a lay (Q (.again c)) s):wpAny M A (layOn a lay env c) Q E s:=by
 unfold layOn;refine aa (thn h λok t q=>?_);cases ok
 ·exact al q
 ·exact aa (thn q λ_ _ q=>al q)
end
theorem xW (b e iter:Expr)(a:mJ)(scope:Scope)(d:Pos)(it c:Value)(env:Env) :
  compTurn (.ListComp b [⟨e,iter,a,0⟩] scope d) 0 it c env=oT iter.pos it e env (layOn a (wW b c env) env (.compLoop (.ListComp b [⟨e,iter,a,0⟩] scope d) 0 it c env)):=rfl
section
variable {prog:Program}{w:World}{A:Around}{R:Result->Shared->Prop}{s:Shared}{tg ce:Expr}{d:Nat}{it acc:Value}{env:Env}{p:Pos}{k:Sem PySem.Fin}
abbrev XN (prog:Program)(w:World)(A:Around)(env:Env)(R:Result->Shared->Prop):cJ:=notedBy (model prog w) A env λx t=>R (.error x) t
inductive N8:Expr->Prop
 | lst (e gs sc p):N8 (.ListComp e gs sc p)
 | set (e gs sc p):N8 (.SetComp e gs sc p)
 | dct (k e gs sc p):N8 (.DictComp k e gs sc p)
theorem K4 (a:N8 ce){Q:PySem.Fin->Shared->Prop}{E:cJ}(h:wpAny (model prog w) A (Sem.onRaise (compTurn ce d it acc env) λx=>noteFrame x env >>= λ_=>theTreesLotGoes x) Q E s):wpAny (model prog w) (A.under (.compLoop ce d it acc env)) ((model prog w).den (.compLoop ce d it acc env)) Q E s:=by cases a <;> exact h
theorem G7 (a:N8 ce){Q:PySem.Fin->Shared->Prop}{E:cJ}(h:wpAny (model prog w) A (compStart ce d it acc env) Q (notedBy (model prog w) A env E) s):wpAny (model prog w) (A.under (.compStart ce d it acc env)) ((model prog w).den (.compStart ce d it acc env)) Q E s:=by cases a <;> exact wpAny_notedAt h
theorem B8 (a:N8 ce)(c:compTurn ce d it acc env=oT p it tg env k)(I:Nat->Shared->Prop)
  (turn:∀n s,I n s->Drawn (model prog w) A env (XN prog w A env R) it tg (R (.ok .next)) (λt=>wpAny (model prog w) A k (λf t=>f = .again (.compLoop ce d it acc env)/\∃m,m<n/\I m t) (XN prog w A env R) t) s)
  (n:Nat) (h:I n s):codeAny (model prog w) A (.compLoop ce d it acc env) R s:=by
 apply codeAny_loop rfl I _ n h;intro n s i;have q:=turn n s i;apply K4 a;rw[c];apply wpAny_noted;apply Drawn.run;exact q.mono (λ_ z=>z) λt z=>thn z λf t ⟨b,m⟩=>by subst b;exact⟨rfl,m⟩
end
def QZ (X:Cx)(b:mJ)(t:TT):Prop :=
 ∀(a:cZ) (s:Shared) (σ:St) (H:Hp) (Q:Bool->Hp->Prop),aQ X a σ H s->t σ H Q->wpAny (model X.prog X.w) X.A (vT b X.env) (TP X a σ Q) X.xe s
def tYes:TT:=λ_ H Q=>Q true H
theorem dF {X:Cx}:QZ X [] tYes:=λ_ _ _ H _ I h=>wpAny_tests_nil ⟨H,I,h⟩
theorem lL {X:Cx}{c:Expr}{t:TT}(h:PT X c t):QZ X [c] t:=λa s σ H Q I q=>wpAny_tests_one (h a s σ H Q I q)
abbrev Q3 (β:Type):=Nat->Nat->β->St->Hp->Prop
abbrev CW:=Q3 (List V)
structure AC (Y:Cx)(tg:Expr)(J:It)(fp:List Addr)(it:Addr)(tn:N1):Prop where
 obj:∀i h,tn i h->∀b∈fp,∃o,h.get? b=some o/\∀v,o.data≠.cell v
 keep:∀i h h',tn i h->(∀b∈fp,∀o,h.get? b=some o->h'.get? b=some o)->tn i h'
 item:∀(i:Nat) (pins:cZ) (s:Shared) (σ:St) (H:Hp) (E:cJ),aQ Y pins σ H s->(∀b∈fp,fT Y pins H b)->tn i s.heap->J.go i H ->
  wpAny (model Y.prog Y.w) Y.A (pyNext (.ref it)) (λr s1=>∃u,r=some u /\
   wpAny (model Y.prog Y.w) Y.A (letOwnedTupleGo tg (.ref it) u) (λ_ s2=>∃x H',aQ Y pins σ H' s2/\aU x u/\J.yld i H x H'/\tn (i+1) s2.heap/\∀b∈fp,H' b=none) E s1) E s
 done:∀(i:Nat) (pins:cZ) (s:Shared) (σ:St) (H:Hp) (E:cJ),aQ Y pins σ H s->(∀b∈fp,fT Y pins H b)->tn i s.heap->J.stop i H ->
  wpAny (model Y.prog Y.w) Y.A (pyNext (.ref it)) (λr s1=>r=none/\aQ Y pins σ H s1) E s
 self:∀(A:Around) (i:Nat) (s:Shared) (Q:cJ) (E:cJ),tn i s.heap->Q (.ref it) s->wpAny (model Y.prog Y.w) A (pyIter (.ref it)) Q E s
theorem qR.y {Y:Cx}{b:Expr}{J:It}{d:List Addr}{it:Addr}{a:N1}(T:qR Y.prog Y.w Y.K b J d it a)(c:Y.calm=true):AC Y b J d it a :=
 ⟨T.obj,T.keep,T.item Y rfl rfl rfl c,T.done Y rfl rfl rfl c,T.self⟩
def N5 {β:Type}(F:Heap->Addr->β->Prop):Prop:=∀h a x,F h a x->∃o,h.get? a=some o/\(∀v,o.data≠.cell v)/\∀h':Heap,h'.get? a=some o->F h' a x
def N4 (h:Heap)(a:Addr)(b:List V):Prop:=b.length<=sizeLine/\∃items,h.PlainList a items/\aT b items.toList
theorem uS:N5 N4:=λ_ _ _ ⟨l,it,⟨n,e⟩,r⟩=>⟨_,e,(λ_ z=>nomatch z),λ_ a=>⟨l,it,⟨n,a⟩,r⟩⟩
section
variable {β:Type}{F:Heap->Addr->β->Prop}{Y:Cx}{pins:cZ}{D it:Addr}{fp:List Addr}{tn:N1}{J:It}{W:Q3 β}{Fin:β->St->Hp->Prop}{R:Result->Shared->Prop}{tg:Expr}{g:TG}{Nx:Nat->Nat->β->St->Hp->Prop}
def HK (F:Heap->Addr->β->Prop)(Y:Cx)(a:cZ)(D:Addr)(e:List Addr)(d:N1)(W:Q3 β)(n:Nat)(s:Shared):Prop :=
 ∃i σ H c,aQ Y a σ H s/\d i s.heap/\(∀b∈e,H b=none)/\H D=none/\F s.heap D c/\W i n c σ H
structure SM (F:Heap->Addr->β->Prop)(Y:Cx)(D:Addr)(fp:List Addr)(tn:N1)(i:Nat)(acc:β)(more:cZ)(o:Obj):Prop where
 fill:∀h:Heap,h.get? D=some o->F h D acc
 own:∀p∈more,p.1∈fp
 back:∀{pl:cZ} {σ:St} {H:Hp} {s:Shared},(∀p∈more,p∈pl)->aQ Y pl σ H s->tn i s.heap/\∀b∈fp,H b=none
structure qB (Y:Cx)(pins:cZ)(D:Addr)(fp:List Addr):Prop where
 off:D∉fp
 list:∀H:Hp,H D=none->fT Y pins H D
 iter:∀H:Hp,(∀b∈fp,H b=none)->∀b∈fp,fT Y pins H b
theorem PL {a:Addr×Obj}{pn b more:cZ}:a∈pn++(b++a::more):=by simp
theorem qB.pin {σ:St}{H:Hp}{s:Shared}{o:Obj}(P:qB Y pins D fp)(I:aQ Y pins σ H s)(c:H D=none)(ho:s.heap.get? D=some o)(b:∀v,o.data≠.cell v):aQ Y (pins++[(D,o)]) σ H s:=by
 refine I.pins_of λp a=>?_;simp only[cp,ck]at a;rcases a with a|rfl
 ·exact I.pin p (br _ a)
 ·have f:=P.list H c;exact⟨ho,f.1,f.2.1,f.2.2.1,b⟩
theorem qB.more {o:Obj}(P:qB Y pins D fp)(H:Hp)(d:∀b∈fp,H b=none)(b:Addr)(c:b∈fp):fT Y (pins++[(D,o)]) H b:=by
 have f:=P.iter H d b c;refine⟨f.1,f.2.1,f.2.2.1,f.2.2.2.1,f.2.2.2.2.1,λp a z=>?_⟩;rw[←cg,cp,ck]at a;rcases a with a|rfl
 ·exact f.2.2.2.2.2 p a z
 ·exact P.off (show D∈fp from(show D=b from z) ▸ c)
theorem B3 {more:cZ}{o:Obj}{σ:St}{H:Hp}{s:Shared}(I:aQ Y (pins++(D,o)::more) σ H s):H D=none/\s.heap.get? D=some o/\aQ Y pins σ H s:=by have q:=I.pin (D,o) PL;exact⟨q.2.1,q.1,I.pins_of λp a=>I.pin p (by simp[a])⟩
theorem G6 (hF:N5 F)(Z:∀e s,¬Y.xe e s)(T:AC Y tg J fp it tn)(P:qB Y pins D fp)(hg:PG Y tg g)
  (turn:∀i m a σ H,W i m a σ H->(J.stop i H/\Fin a σ H)∨(J.go i H/\∀x H',J.yld i H x H'->g x σ H' (Nx i m a)))
  (hR:∀s σ H a,aQ Y pins σ H s->H D=none->F s.heap D a->Fin a σ H->R (.ok .next) s)
  (n:Nat) (s:Shared) (B:HK F Y pins D fp tn W n s) {E:cJ} :
  Drawn (model Y.prog Y.w) Y.A Y.env E (.ref it) tg (R (.ok .next))
   (λt=>∃i a o more σ H,SM F Y D fp tn (i+1) a more o/\aQ Y (pins++(D,o)::more) σ H t/\Nx i n a σ H) s:=by
 obtain⟨i,σ,H,a,I,st,G,fD,N,w⟩:=B;obtain⟨o,ho,l,f⟩:=hF _ _ _ N;have Ip:=P.pin I fD ho l;rcases turn i n a σ H w with⟨stop,fin⟩|⟨go,step⟩
 ·refine thn (T.done i _ s σ H _ Ip (P.more H G) st stop) λr t ⟨j,It⟩=>?_;subst j;obtain⟨X,U,S⟩:=B3 It;exact hR t σ H a S X (f _ U) fin
 ·refine thn (T.item i _ s σ H _ Ip (P.more H G) st go) λr t ⟨u,j,q⟩=>?_;subst j;refine thn q λ_ t1 ⟨x,C,I1,r1,L,c,v⟩=>?_;have I1p:=I1.pinned (P.more C v) (T.obj _ _ c);rw[cg]at I1p;refine wpAny_mono (hg _ t1 σ C x u _ I1p r1 (step x C L)) (λ_ t2 ⟨K,H2,I2,Q⟩=>?_) λe t z=>(Z e t z).elim;refine⟨i,a,o,rT fp t1.heap,K,H2,⟨f,λp hp=>(uO hp).1,λ{pl σ3 H3 O} sub I3=>?_⟩,I2,Q⟩;have h:∀b∈fp,∀o,t1.heap.get? b=some o->O.heap.get? b=some o/\H3 b=none:=λb d o e=>by have z:=I3.pin (b,o) (br _ (sub _ (mU d e)));exact⟨z.1,z.2.1⟩
  refine⟨T.keep _ _ _ c λb d o e=>(h b d o e).1,λb d=>?_⟩;obtain⟨o,e,_⟩:=T.obj _ _ c b d;exact(h b d o e).2
def N6 (F:Heap->Addr->β->Prop)(Y:Cx)(D:Addr)(lay:Sem Unit)(q:St->Hp->(β->Hp->Prop)->Prop)(d:β):Prop :=
 ∀(E:cJ) (pl:cZ) (o:Obj) (σ:St) (H:Hp) (t:Shared) (N:β->Hp->Prop),aQ Y pl σ H t->(D,o)∈pl->(∀h:Heap,h.get? D=some o->F h D d)->q σ H N ->
  wpAny (model Y.prog Y.w) Y.A lay (λ_ t3=>∃b c tk e a,t3={b with heap:=c,toks:=tk}/\aQ Y pl σ e b/\Heap.SameBut D b.heap c/\F c D a/\N a e) E t
theorem KA {g:mJ}{lay:Sem Unit}{N:TT}{tl:St->Hp->(β->Hp->Prop)->Prop}{i n:Nat}{c:β}{more:cZ}{o:Obj}{σ:St}{H:Hp}{t:Shared}{E:cJ}(hx:∀e s,¬Y.xe e s)(P:qB Y pins D fp)(T:AC Y tg J fp it tn)(ht:QZ Y g N)(hl:N6 F Y D lay tl c)
  (B:SM F Y D fp tn (i+1) c more o) (I:aQ Y (pins++(D,o)::more) σ H t)
  (q:N σ H λb R=>if b=true then tl σ R λa H4=>∃d,d<n/\W (i+1) d a σ H4 else ∃d,d<n/\W (i+1) d c σ R) :
  C8 (model Y.prog Y.w) Y.A Y.env E g lay (λt=>∃m,m<n/\HK F Y pins D fp tn W m t) t:=by
 refine wpAny_mono (ht _ t σ H _ I q) (λok t1 ⟨U,L,l⟩=>?_) λe t z=>(hx e t z).elim;cases ok
 ·rw[ac Bool.false_ne_true]at l⊢;obtain⟨m,x,w⟩:=l;obtain⟨K,G⟩:=B.back (λp v=>by simp[v]) L;obtain⟨r,O,u⟩:=B3 L;exact⟨m,x,i+1,σ,U,c,u,K,G,r,B.fill _ O,w⟩
 ·rw[aj rfl]at l⊢;refine thn (hl _ _ o σ U t1 _ L (by simp) B.fill l) λ_ t3 ⟨X,h3,tk,S,j,e3,Q,Z,f3,m,x,w⟩=>?_;subst e3;obtain⟨K,G⟩:=B.back (λp v=>by simp[v]) Q;obtain⟨r,O,u⟩:=B3 Q;have f:=P.list S r;have h:∀b o,b≠D->X.heap.get? b=some o->h3.get? b=some o:=λb o C e=>Z.extBut b o C e;exact⟨m,x,i+1,σ,S,j,u.turned (t':=tk) h f.1 f.2.1 f.2.2.2.1 f.2.2.2.2.1 f.2.2.2.2.2,T.keep _ _ _ K λb C o e=>h b o (λz=>P.off (z ▸ C)) e,G,r,f3,w⟩
theorem C8.go {a:mJ}{lay:Sem Unit}{c:Code}{n:Nat}{t:Shared}{E:cJ}(h:C8 (model Y.prog Y.w) Y.A Y.env E a lay (λt=>∃m,m<n/\HK F Y pins D fp tn W m t) t) :
  wpAny (model Y.prog Y.w) Y.A (layOn a lay Y.env c) (λf t=>f = .again c/\∃m,m<n/\HK F Y pins D fp tn W m t) E t :=
 C8.run (thn h λok t q=>by
  cases ok
  ·exact⟨rfl,q⟩
  ·exact thn q λ_ _ q=>⟨rfl,q⟩)
end
def tlLst (b:TE)(a:List V):St->Hp->(List V->Hp->Prop)->Prop:=λσ H N=>b σ H λy c=>a.length<sizeLine/\N (a++[y]) c
theorem zC {Y:Cx}{D:Addr}{c:Expr}{d:TE}{b:List V}(u:∀e s,¬Y.xe e s)(B:PE Y c d):N6 N4 Y D (wW c (.ref D) Y.env) (tlLst d b) b:=by
 intro E pl o σ H t N I v A q;refine aa (wpAny_mono (B _ t σ H _ I q) (λy f ⟨i,F,h,l,x,w⟩=>?_) λe t z=>(u e t z).elim);obtain⟨hz,items,r,g⟩:=A _ (h.pin (D,o) (br _ v)).1;have a:items.size<=sizeLine:=by rw[←bj,←g.length];exact hz
 refine aa (wpAny_list_append_plain (hsz:=a) r λC m j=>al ⟨f,C,f.toks,F,b++[i],rfl,h,j,⟨?_,items.push y,m,?_⟩,w⟩)
 ·rw[aq];exact x
 ·rw[Array.toList_push];exact g.append (.cons l .nil)
def OQ (J:It)(g:TG)(f:TT)(h:TE)(Fin:List V->Hp->Prop)(W:CW):Prop:=∀i m a σ H,W i m a σ H ->
 (J.stop i H/\Fin a H) ∨
 (J.go i H/\∀x H',J.yld i H x H'->g x σ H' λd l=>f d l λb e =>
  if b=true then h d e λy j=>a.length<sizeLine/\∃c,c<m/\W (i+1) c (a++[y]) d j else ∃c,c<m/\W (i+1) c a d e)
def tComp (src:List (Option Nat))(b:TI)(g:TG)(c:TT)(d:TE):TE:=λσ H Q=>b σ H λJ e=>∃W:CW,(∃m,W 0 m [] (stC src σ) e)/\OQ J g c d (λa H=>∀p,H p=none->Q (.ref p) (upd H p (.lst a))) W
section
variable {prog:Program}{w:World}{A:Around}{ce:Expr}{c:Comprehension}{rest:List Comprehension}
theorem zT (g:N8 ce)(e:clausesOf ce=c::rest)(i:c.is_async=0){it a:Value}{env:Env}{R:Result->Shared->Prop}{s:Shared}(j:codeAny (model prog w) A (.compLoop ce 0 it a env) R s)
  (h:wpAny (model prog w) A (pyIter it) (λd s'=>codeAny (model prog w) A (.compLoop ce 0 d a env) R s') (XN prog w A env R) s) :
  codeAny (model prog w) A (.compStart ce 0 it a env) R s:=by
 apply codeAny_of_tree;apply G7 g;obtain⟨l,iter,f,_⟩:=c;cases i;unfold compStart;rw[e];change wpAny _ _ (ask >>= _) _ _ s;apply aa;apply wpAny_askSetting;by_cases b:(⟨(model prog w).prog,(model prog w).w.params⟩:Setting).params.followText "comprehension-iter-twice" = true
 ·rw[aj b];exact al ⟨rfl,j⟩
 ·rw[ac b];refine aa (wpAny_rule ?_);change wpAny _ _ (standAt iter.pos >>= _) _ _ s;exact aa (wpAny_standAt (aa (thn h λd s' z=>al ⟨rfl,z⟩)))
def FF {β:Type}(F:Heap->Addr->β->Prop)(a:β)(prog:Program)(w:World)(A:Around)(mk:Sem Value):Prop :=
 ∀(Q:cJ) (E:cJ) (s:Shared),(∀o:Obj,o.isFreed=false->(∀h:Heap,h.get? s.heap.objs.size=some o->F h s.heap.objs.size a)->Q (.ref s.heap.objs.size) {s with heap:=s.heap.push o})->wpAny (model prog w) A mk Q E s
theorem uQ:FF N4 [] prog w A (newList []):=λ_ _ _ q=>bI (q _ rfl λ_ e=>⟨au _,#[],⟨_,e⟩,.nil⟩)
end
section
variable {β:Type}{F:Heap->Addr->β->Prop}{e0:β}{mk:Sem Value}{ce:Expr}{cls:List Comprehension}{ob:HO}
variable {X:Cx}{scope:Scope}{N':aN}{src:List (Option Nat)}{pins:cZ}{σ:St}{H₂:Hp}{s₂:Shared}{fp:List Addr}{it:Addr}{tn:N1}{J:It}{tg iter:Expr}{ifs:mJ}
theorem NT {pl:cZ}{i:St}{H':Hp}{s':Shared}{C D:Addr}(x:aQ X pins σ H₂ s₂)(l:∀b∈fp,fT X pins H₂ b)
  (f:aQ (blk X scope N' C s₂ H₂ fp) pl i H' s') (m:s₂.heap.objs.size<=D) (h:H' D=none) (ok:cF X.prog X.w (upd H' D ob) s'.heap D ob):aQ X pins σ (upd H' D ob) s':=by
 have u:=f.base;have g:∀b o,s₂.heap.get? b=some o->b≠D:=λb o e=>bi (ba (az e) m);have a:∀b o,H' b=some o->b≠D:=λb o e z=>by rw[z,h]at e;cases e
 refine x.call' (ch:=fp) f.os ⟨u.keep,u.slot,λb o e n j=>?_,u.there,λb xs e=>?_,λb o xs e=>?_,λb ps e=>?_⟩ (λb o e=>?_) f.bare λb d=>?_
 ·rw[aC (g b o e)];exact u.free b o e n j
 ·have q:=u.tups b xs e;rw[aC (a b _ q)];exact q
 ·have q:=u.frzs b o xs e;rw[aC (a b _ q)];exact q
 ·obtain⟨more,q⟩:=u.tbls b ps e;exact⟨more,by rw[aC (a b _ q)];exact q⟩
 ·by_cases d:b=D
  ·subst d;rw[upd_same]at e;cases e;exact ok
  ·rw[aC d]at e;exact(f.hok b o e).stay (λ_ _ _ q=>q) (λc q=>by rw[aC (a c _ q)];exact q) λc xs q=>by rw[aC (a c _ q)];exact q
 ·obtain⟨A,f1,f2,v,s,r⟩:=l b d;exact⟨v,f1,s,r⟩
theorem D9 {P:Program}{w:World}{H:Hp}{h:Heap}{a:Addr}{b:List V}:N4 h a b->cF P w H h a (.lst b):=λ⟨hz,items,⟨n,ho⟩,r⟩=>⟨hz,items.toList,n,r,by simpa using ho⟩
structure FG (F:Heap->Addr->β->Prop)(e0:β)(X:Cx)(scope:Scope)(N':aN)(src:List (Option Nat))(s₂:Shared)(H₂:Hp)(σ:St)(fp:List Addr)(tn:N1)(D C:Addr)(t:Shared):Prop where
 at_:s₂.heap.objs.size=D
 le:s₂.heap.objs.size<=C
 ne:D≠C
 place:qB (blk X scope N' C s₂ H₂ fp) [] D fp
 betw:∀W:Q3 β,(∃m,W 0 m e0 (stC src σ) H₂)->∃m,HK F (blk X scope N' C s₂ H₂ fp) [] D fp tn W m t
theorem HU {h h':Heap}{o a:Obj}(ho:o.isFreed=false)(c:Heap.SameBut (h.push o).objs.size ((h.push o).push a) h'):(∀b x,h.get? b=some x->h'.get? b=some x)/\h'.get? h.objs.size=some o:=by have key:∀b x,(h.push o).get? b=some x->h'.get? b=some x:=λb x e=>c.extBut b x (bi (az e)) (ag a e);exact⟨λb x e=>key b x (ag o e),key _ _ (ar h ho)⟩
theorem zY {RR:Value->Addr->Result->Shared->Prop}{E:cJ}(r:FF F e0 X.prog X.w X.A mk)(N:N8 ce)(u:clausesOf ce=⟨tg,iter,ifs,0⟩::cls)(S:bD X scope N' src)(h:aQ X pins σ H₂ s₂)(T:∀C,AC (blk X scope N' C s₂ H₂ fp) tg J fp it tn)(i:tn 0 s₂.heap)(s:∀b∈fp,fT X pins H₂ b)
  (k:∀D C t,FG F e0 X scope N' src s₂ H₂ σ fp tn D C t->codeAny (model X.prog X.w) X.A (.compLoop ce 0 (.ref it) (.ref D) (blk X scope N' C s₂ H₂ fp).env) (RR (.ref D) C) t) :
  wpAny (model X.prog X.w) X.A mk (λl I=>wpAny (model X.prog X.w) X.A (newFunctionEnv scope X.env.globals (closL X.env.cells scope.names []) [] X.env.qual none .none (some X.env)) (λd G =>
   codeAny (model X.prog X.w) X.A (.compStart ce 0 (.ref it) l {d with scope:=relabel scope X.env}) (RR l d.locals) G) E I) E s₂:=by
 refine r _ _ _ λo of L=>?_;refine wpAny_newFunctionEnv S.cell (λ_ z=>nomatch z) (λv ns K=>?_) S.kind;obtain⟨g,new⟩:=HU of K;have sz:(s₂.heap.push o).objs.size=s₂.heap.objs.size+1:=Heap.size_push ..;dsimp only at ns g new⊢;rw[sz]at ns⊢;have lt:∀b∈fp,b<s₂.heap.objs.size:=λb a=>let⟨_,e,_⟩:=(T 0).obj 0 _ i b a;az e;have j:tn 0 v:=(T 0).keep _ _ _ i λb _ o e=>g b o e;have off:s₂.heap.objs.size∉fp:=λz=>bx _ (lt _ z);have B:=S.start (tk:=s₂.toks+([]:List (Str×Value)).length) (pl:=[]) h s lt (Nat.le_succ _) g ns (λ_ z=>nomatch z);have pl:qB (blk X scope N' (s₂.heap.objs.size+1) s₂ H₂ fp) [] s₂.heap.objs.size fp:=by
  refine⟨off,λH q=>?_,λH q b a=>?_⟩
  ·have f:=h.fpOk (ae _) q;refine⟨q,bi (Nat.lt_succ_self _),λz=>?_,.inr (ae _),λx c e=>f.2.2.2.2.1 x c (S.cl h e),λ_ z=>nomatch z⟩;exact(cm.mp (h.stkSub _ z)).elim f.2.1 f.2.2.1
  ·exact⟨q b a,bi (Nat.lt_succ_of_lt (lt b a)),B.ok.exfs b a,.inl a,λx c e=>(s b a).2.2.2.2.1 x c (S.cl h e),λ_ z=>nomatch z⟩
 have O:FG F e0 X scope N' src s₂ H₂ σ fp tn s₂.heap.objs.size (s₂.heap.objs.size+1) {s₂ with heap:=v,toks:=s₂.toks+([]:List (Str×Value)).length} :=
  ⟨rfl,Nat.le_succ _,bi (Nat.lt_succ_self _),pl,λW ⟨m,w⟩=>⟨m,0,_,H₂,e0,B,j,λb a=>(s b a).1,h.hok.fresh (ae _),L _ new,w⟩⟩
 have go:=k _ _ _ O;exact zT N u rfl go ((T 0).self _ 0 _ _ _ j go)
theorem FG.out {D C:Addr}{t s:Shared}{H':Hp}{a:St}(B:FG F e0 X scope N' src s₂ H₂ σ fp tn D C t)(e:aQ X pins σ H₂ s₂)(c:∀b∈fp,fT X pins H₂ b)(I:aQ (blk X scope N' C s₂ H₂ fp) [] a H' s)(d:H' D=none)(ok:cF X.prog X.w (upd H' D ob) s.heap D ob) :
  H' C=none/\(∃m,s.heap.Ns C m)/\aQ X pins σ (upd H' D ob) s :=
 ⟨I.free,⟨_,I.loc.choose_spec.1⟩,NT e c I (Nat.le_of_eq B.at_) d ok⟩
variable {elt:Expr}{pos:Pos}{g:TG}{tt:TT}{te:TE}{tl:β->St->Hp->(β->Hp->Prop)->Prop}
def DB (J:It)(g:TG)(h:TT)(tl:β->St->Hp->(β->Hp->Prop)->Prop)(Fin:β->Hp->Prop)(W:Q3 β):Prop:=∀i m c σ H,W i m c σ H ->
 (J.stop i H/\Fin c H) ∨
 (J.go i H/\∀x H',J.yld i H x H'->g x σ H' λe l=>h e l λb f =>
  if b=true then tl c e f λa j=>∃d,d<m/\W (i+1) d a e j else ∃d,d<m/\W (i+1) d c e f)
theorem mX {W:Q3 β}{Fin:β->Hp->Prop}{RR:Value->Addr->Result->Shared->Prop}{E:cJ}{lay:Value->Env->Sem Unit}{obj:Addr->β->HO}{ps:Pos}(hF:N5 F)(f:FF F e0 X.prog X.w X.A mk)(q:N8 ce)(j:clausesOf ce=⟨tg,iter,ifs,0⟩::cls)(hb:∀it a env,compTurn ce 0 it a env=oT ps it tg env (layOn ifs (lay a env) env (.compLoop ce 0 it a env)))(hok:∀H h D a,F h D a->cF X.prog X.w H h D (obj D a))
  (S:bD X scope N' src) (v:aQ X pins σ H₂ s₂) (T:∀C,AC (blk X scope N' C s₂ H₂ fp) tg J fp it tn) (d:tn 0 s₂.heap) (r:∀b∈fp,fT X pins H₂ b)
  (Z:∀C,PG (blk X scope N' C s₂ H₂ fp) tg g) (Q:∀C,QZ (blk X scope N' C s₂ H₂ fp) ifs tt) (U:∀C D a,N6 F (blk X scope N' C s₂ H₂ fp) D (lay (.ref D) (blk X scope N' C s₂ H₂ fp).env) (tl a) a)
  (x:∃m,W 0 m e0 (stC src σ) H₂) (turn:DB J g tt tl Fin W)
  (l:∀D C s' H' a,s₂.heap.objs.size<=C->H' C=none->D≠C->(∃m,s'.heap.Ns C m)->aQ X pins σ (upd H' D (obj D a)) s'->H' D=none->Fin a H'->RR (.ref D) C (.ok .next) s') :
  wpAny (model X.prog X.w) X.A mk (λa K=>wpAny (model X.prog X.w) X.A (newFunctionEnv scope X.env.globals (closL X.env.cells scope.names []) [] X.env.qual none .none (some X.env)) (λc G =>
   codeAny (model X.prog X.w) X.A (.compStart ce 0 (.ref it) a {c with scope:=relabel scope X.env}) (RR a c.locals) G) E K) E s₂:=by
 refine zY f q j S v T d r λD C t B=>?_;obtain⟨m,b⟩:=B.betw W x;refine B8 q (hb ..) (HK F (blk X scope N' C s₂ H₂ fp) [] D fp tn W) (λn s b=>?_) m b;refine(G6 (Y:=blk X scope N' C s₂ H₂ fp) hF (λ_ _ z=>z) (T C) B.place (Z C) turn (λs σc H a I u R fin=>?_) n s b).mono (λ_ z=>z) ?_
 ·obtain⟨P,O,N⟩:=B.out v r I u (hok _ _ _ _ R);exact l D C s H a B.le P B.ne O N u fin
 ·rintro t ⟨i,a,o,more,σ3,H3,e,I3,L⟩;exact C8.go (KA (W:=W) (λ_ _ z=>z) B.place (T C) (Q C) (U C D a) e I3 L)
theorem zR {Q:VK}{D C:Addr}{s':Shared}{H':Hp}(l:aQ X pins σ H₂ s₂)(j:s₂.heap.objs.size<=C)(g:H' C=none)(d:D≠C)(c:∃m,s'.heap.Ns C m)(r:aQ X pins σ (upd H' D ob) s')(q:Q (.ref D) (upd H' D ob)) :
  compPost (model X.prog X.w) X.A X.xe none (EP X pins σ Q) (.ref D) C (.ok .next) s':=by
 obtain⟨m,h⟩:=c;have f:=l.fpOk (H':=upd H' D ob) j (by rw[aC (Ne.symm d)];exact g);exact⟨m,h,λh' a=>⟨.ref D,_,r.turned (t':=s'.toks) (λb o i e=>a.extBut b o i e) f.1 f.2.1 f.2.2.2.1 f.2.2.2.2.1 f.2.2.2.2.2,rfl,q⟩⟩
theorem KZ {r:iJ}{D C:Addr}{s':Shared}{H':Hp}{i:Nat}{y:Str}{u:Pos}(F:X.N.Nodup)(g:X.N[i]?=some y)(l:X.env.scope.names.lookup y=some .local)(H:aQ X pins σ H₂ s₂)(G:s₂.heap.objs.size<=C)(j:H' C=none)(h:D≠C)(d:∃m,s'.heap.Ns C m)(I:aQ X pins σ (upd H' D ob) s')(q:r.nx (σ.set i (some (.ref D))) (upd H' D ob)) :
  compPost (model X.prog X.w) X.A X.xe (some (assign (.Name y u) X.env)) (λ_ s'=>SP X pins r .next s') (.ref D) C (.ok .next) s':=by
 obtain⟨m,x⟩:=d;have f:=H.fpOk (H':=upd H' D ob) G (by rw[aC (Ne.symm h)];exact j);refine wpAny_assign_Name (uI I F g (.inl l) (v:=.ref D) rfl (λt It ⟨a,s,E⟩=>?_) (.inr l));have ne:C≠a:=E.elim (λe=>e ▸ f.2.1) λe z=>f.2.2.2.2.1 y a e z.symm;exact⟨m,x.sameBut s ne,λh' c=>⟨_,_,It.turned (t':=t.toks) (λb o B e=>c.extBut b o B e) f.1 f.2.1 f.2.2.2.1 f.2.2.2.2.1 f.2.2.2.2.2,q⟩⟩
theorem FI {gens:List Comprehension}{y:Str}{b a:Pos}{Q:Flow->Shared->Prop}{s:Shared}(c:swapsWith (.ListComp elt gens scope pos) (some (.Name y b)) a.line X.env=pure true)
  (h:wpAny (model X.prog X.w) X.A (comprehension (.ListComp elt gens scope pos) scope X.env (firstIterPos gens pos) (newList []) (firstAsync gens) (firstIter gens X.env) (some (assign (.Name y b) X.env))) (λ_=>Q .next) X.xe s) :
  wpAny (model X.prog X.w) X.A (exec (.Assign [.Name y b] (.ListComp elt gens scope pos) a) X.env) Q X.xe s:=by
 have u:wpAny (model X.prog X.w) X.A (evalThenUse (.ListComp elt gens scope pos) X.env (assign (.Name y b) X.env)) (λ_=>Q .next) X.xe s:=aa (thn h λ_ _ q=>al q);exact(exec_Assign_Name_used y b _ a c) ▸ aa (wpAny_standAt (aa (thn u λ_ _ q=>al q)))
theorem pK {j:TI}{use:Option (Value->Sem Unit)}{Q:cJ}{s:Shared}{H:Hp}{K:It->Hp->Prop}{ps:Pos}(i:clausesOf ce=⟨tg,iter,ifs,0⟩::cls)(S:bD X scope N' src)(r:PI X tg iter j)(o:∀x,foldedSetIterable iter X.env x=pure x)(I:aQ X pins σ H s)(h:j σ H K)
  (k:∀c H₂ it g e J,aQ X pins σ H₂ c->qR X.prog X.w X.K tg J g it e->e 0 c.heap->(∀b∈g,fT X pins H₂ b)->K J H₂ ->
   wpAny (model X.prog X.w) X.A mk (λd m=>wpAny (model X.prog X.w) X.A (newFunctionEnv scope X.env.globals (closL X.env.cells scope.names []) [] X.env.qual none .none (some X.env)) (λa l =>
    codeAny (model X.prog X.w) X.A (.compStart ce 0 (.ref it) d {a with scope:=relabel scope X.env}) (compPost (model X.prog X.w) X.A X.xe use Q d a.locals) l) X.xe m) X.xe c) :
  wpAny (model X.prog X.w) X.A (comprehension ce scope X.env ps mk false (eval iter X.env) use) Q X.xe s:=by
 refine wpAny_comprehension_free i o (tV (S.cells I)) S.kind S.names (thn (r pins s σ H K I h) λ_ _ q=>thn q ?_);rintro _ c ⟨it,g,e,J,H₂,rfl,u,T,st,f,q⟩;exact k c H₂ it g e J u T st f q
theorem eF {d:TI}(u:X.calm=true)(S:bD X scope N' src)(o:PI X tg iter d)(q:∀C s H a,PG (blk X scope N' C s H a) tg g)(l:∀C s H a,QZ (blk X scope N' C s H a) ifs tt)(r:∀C s H a,PE (blk X scope N' C s H a) elt te)
  (m:∀x,foldedSetIterable iter X.env x=pure x:=by intro _;rfl):PE X (.ListComp elt [⟨tg,iter,ifs,0⟩] scope pos) (tComp src d g tt te):=by
 intro e s σ H Q I h;rw[eval_ListComp];refine pK rfl S o m I h λb H₂ it a G J i T st f ⟨W,j,turn⟩=>?_;exact mX (lay:=wW elt) (tl:=tlLst te) (obj:=λ_=>.lst) uS uQ (.lst ..) rfl (xW elt tg iter ifs scope pos) (λ_ _ _ _=>D9) S i (λC=>qR.y (Y:=blk X scope N' C b H₂ a) T u) st f (λC=>q C b H₂ a) (λC=>l C b H₂ a) (λC D c=>zC (λ_ _ z=>z) (r C b H₂ a)) j turn λD C s' H' c F E B A w v fin=>zR i F E B A w (fin D v)
theorem iS {l:TI}{i:Nat}{y:Str}{m b:Pos}(G:X.N.Nodup)(e:X.N[i]?=some y)(u:X.env.scope.names.lookup y=some .local)(d:swapsWith (.ListComp elt [⟨tg,iter,ifs,0⟩] scope pos) (some (.Name y m)) b.line X.env=pure true)
  (F:X.calm=true) (S:bD X scope N' src) (A:PI X tg iter l) (B:∀C s H a,PG (blk X scope N' C s H a) tg g) (v:∀C s H a,QZ (blk X scope N' C s H a) ifs tt) (E:∀C s H a,PE (blk X scope N' C s H a) elt te)
  (w:∀x,foldedSetIterable iter X.env x=pure x:=by intro _;rfl):PS X (.Assign [.Name y m] (.ListComp elt [⟨tg,iter,ifs,0⟩] scope pos) b) (tAsg (tComp src l g tt te) (gName i)):=by
 intro o s σ H D I h;refine FI d ?_;refine pK rfl S A w I h λc H₂ it a U J q T st f ⟨W,r,turn⟩=>?_;exact mX (lay:=wW elt) (tl:=tlLst te) (obj:=λ_=>.lst) uS uQ (.lst ..) rfl (xW elt tg iter ifs scope pos) (λ_ _ _ _=>D9) S q (λC=>qR.y (Y:=blk X scope N' C c H₂ a) T F) st f (λC=>B C c H₂ a) (λC=>v C c H₂ a) (λC D j=>zC (λ_ _ z=>z) (E C c H₂ a)) r turn λD C s' H' j R Q P O L K fin=>KZ G e u q R Q P O L (fin D K)
end
noncomputable def wO:aN->Bool
 | []=>true
 | x::r=>!r.contains x && wO r
theorem uP:∀{l:aN},wO l=true->l.Nodup
 | [],_=>List.nodup_nil
 | x::r,h=>by simp only[wO,Bool.and_eq_true,Bool.not_eq_true',List.contains_eq_mem,decide_eq_false_iff_not]at h;exact cu.mpr ⟨h.1,uP h.2⟩
noncomputable def compB (N:aN)(names:List (Str×NameKind))(scope:Scope)(N':aN)(src:List (Option Nat)):Bool :=
 decide (scope.kind = .function) && scope.names.all (λy=>decide (y.2≠.cell)) && scope.names.all (λy=>decide (y.2≠.local) || decide (scope.names.lookup y.1=some .local)) &&
 scope.names.all (λy=>decide (y.2≠.free) || (decide (names.lookup y.1=some .cell) || decide (names.lookup y.1=some .free))) && wO N' && srcOk N scope.names src N'
theorem bD.by {X:Cx}{N:aN}{names:List (Str×NameKind)}{scope:Scope}{N':aN}{src:List (Option Nat)}(h:compB N names scope N' src=true)(c:X.N=N)(d:X.env.scope.names=names):bD X scope N' src:=by subst c d;simp only[compB,Bool.and_eq_true,List.all_eq_true,Bool.or_eq_true,decide_eq_true_eq]at h;obtain⟨⟨⟨⟨⟨l,j⟩,i⟩,g⟩,f⟩,e⟩:=h;exact⟨l,j,λy a b=>(i y a).resolve_left λz=>z b,λy a b=>(g y a).resolve_left λz=>z b,uP f,e⟩
def dM (P:Program)(w:World)(K:PySem.W.Frag)(mg:gX)(base:Heap)(CX:AT)(k:Nat)(x:Str)(b:Sp):Prop :=
 ∃f a ps,bN P w K mg base CX k f a ps b/\mg x=some (.ref f)/\PySem.W.keepIn K (.ref f)=true/\dZ K a ps []
section
variable {X:Cx}{CX:AT}{k:Nat}{sp:Sp}{E:XK}{x:Str}{p pos:Pos}{e:Expr}{es:mJ}{t:TA}
theorem aM (O:dM X.prog X.w X.K X.mg X.base CX k x sp)(d:dW k X.A)(c:iF CX X E)(i:Gl X x)(m:PA X (e::es) t)(b:(x == ("__debug__" : Str))=false:=by decide)
  (j:starEach (e::es) X.env=(false,eval e X.env)::starEach es X.env:=by rfl) (a:(backTo pos (starEach es X.env)).any (·.1)=false:=by rfl):PE X (.Call (.Name x p) (e::es) [] pos) (tCall sp [] E t):=by
 obtain⟨f,o,ps,F,g,h,l⟩:=O;exact MG F d i g h l .nil c m b j a
theorem eL {v:V}(a:∃u,X.mg x=some u/\aU v u)(b:Gl X x)(hd:(x == ("__debug__" : Str))=false:=by decide):PE X (.Name x pos) (tC v):=by obtain⟨u,h,r⟩:=a;exact MF b h r hd
end
def C4 (P:Program)(w:World)(K:PySem.W.Frag)(mg:gX)(base:Heap)(CX:AT)(k:Nat)(C:Addr)(m:Str)(b:Sp):Prop :=
 ∃f a ps,bN P w K mg base CX k f a ps b/\N2 K C m f/\dZ K a ps []/\HJ K C
section
variable {X:Cx}
noncomputable def ixV (H:Hp):V->V->Option V
 | .ref p,.int i=>match H p with
  | some (.lst xs)=>atI xs i
  | some (.tup xs)=>atI xs i
  | some (.frz _ (.lst xs))=>atI xs i
  | _=>none
 | .str z,.int i=>if z.length<=sizeLine then(atI z.cps.toList i).map λc=>.str ⟨#[c]⟩else none
 | _,_=>none
theorem cX:LM X (λx y H Q=>∃v,ixV H x y=some v/\Q v H):=by
 intro a b d s σ H x y v u Q I j g h l;obtain⟨z,e,q⟩:=h;refine QI a b d s σ H x y v u Q I j g ?_ l;cases x with
 | ref p =>
  cases y with
  | int i =>
   unfold ixV at e;dsimp only at e;split at e
   ·rename_i xs f;exact .inl ⟨p,xs,i,z,rfl,rfl,eH.of f,e,q⟩
   ·rename_i xs f;exact .inr (.inl ⟨p,xs,i,z,rfl,rfl,iU.of f,e,q⟩)
   ·rename_i o xs f;exact .inl ⟨p,xs,i,z,rfl,rfl,.inl (.inr ⟨o,f⟩),e,q⟩
   ·cases e
  | _=>cases e
 | str t =>
  cases y with
  | int i =>
   unfold ixV at e;dsimp only at e;split at e
   ·rename_i hz;cases ea:atI t.cps.toList i with
    | none=>rw[ea]at e;cases e
    | some c =>
     rw[ea]at e;cases e;exact .inr (.inr ⟨t,i,c,rfl,rfl,hz,ea,q⟩)
   ·cases e
  | _=>cases e
 | _=>cases e
noncomputable def lenV (H:Hp):V->Option Nat
 | .ref p=>match H p with
  | some (.lst xs)=>some xs.length
  | some (.tup xs)=>some xs.length
  | some (.frz _ (.lst xs))=>some xs.length
  | some (.dK a)=>some a.length
  | _=>none
 | .str z=>if z.length<=sizeLine then some z.length else none
 | _=>none
theorem dN.or' {f:Value}{r c:List V->Hp->VK->Prop}(h:dN X f r)(h':dN X f c):dN X f (λxs H Q=>r xs H Q∨c xs H Q):=by
 intro a s σ H xs us Q I b q;rcases q with q|q
 ·exact h a s σ H xs us Q I b q
 ·exact h' a s σ H xs us Q I b q
theorem dN.imp {f:Value}{r b:List V->Hp->VK->Prop}(h:dN X f r)(i:∀xs H Q,b xs H Q->r xs H Q):dN X f b:=λa s σ H xs us Q I c q=>h a s σ H xs us Q I c (i _ _ _ q)
theorem iM.imp {f:Value->Value->Sem Value}{r b:R2}(h:iM X f r)(i:∀x y H Q,b x y H Q->r x y H Q):iM X f b:=λa s σ H x y v u Q I d c q=>h a s σ H x y v u Q I d c (i _ _ _ _ q)
def r1 (f:Hp->V->Option V):List V->Hp->VK->Prop:=λxs H Q=>∃x v,xs=[x]/\f H x=some v/\Q v H
theorem cD:dN X (.builtin "len") (r1 λH x=>(lenV H x).map λn=>.int n):=by
 refine((xK.or' xJ).or' HB).imp λxs H Q h=>?_;obtain⟨x,v,rfl,e,q⟩:=h;cases x with
 | ref p =>
  unfold lenV at e;dsimp only at e;split at e
  ·rename_i xs a;cases e;exact .inl (.inl ⟨p,xs,rfl,.inl (eH.of a),q⟩)
  ·rename_i xs a;cases e;exact .inl (.inl ⟨p,xs,rfl,.inr (iU.of a),q⟩)
  ·rename_i o xs a;cases e;exact .inl (.inl ⟨p,xs,rfl,.inl (.inl (.inr ⟨o,a⟩)),q⟩)
  ·rename_i b a;cases e;exact .inr ⟨p,b,rfl,a,q⟩
  ·cases e
 | str z =>
  unfold lenV at e;dsimp only at e;split at e
  ·rename_i hz;cases e;exact .inl (.inr ⟨z,rfl,hz,q⟩)
  ·cases e
 | _=>cases e
noncomputable def intV:V->Option V
 | .int i=>some (.int i)
 | .bl k=>some (.int (if k then 1 else 0))
 | _=>none
theorem HC:dN X (.type "int") (r1 λ_ x=>intV x):=by
 refine HD.imp λxs H Q h=>?_;obtain⟨x,v,rfl,e,q⟩:=h;cases x with
 | int i=>cases e;exact .inl ⟨i,rfl,q⟩
 | bl k=>cases e;exact .inr ⟨k,rfl,q⟩
 | _=>cases e
noncomputable def addV:V->V->Option V
 | .int i,.int j=>some (.int (i+j))
 | .str i,.str j=>if i.length+j.length<=sizeLine then some (.str (i++j))else none
 | _,_=>none
noncomputable def catO (H:Hp):V->V->Option HO
 | .ref a,.ref b=>match H a,H b with
  | some (.lst xs),some (.lst c)=>if xs.length+c.length<=sizeLine then some (.lst (xs++c))else none
  | some (.tup xs),some (.tup c)=>if xs.length+c.length<=sizeLine/\xs≠[]/\c≠[]then some (.tup (xs++c))else none
  | _,_=>none
 | _,_=>none
def rAddF:R2:=λx y H Q=>(∃v,addV x y=some v/\Q v H)∨(∃o,catO H x y=some o/\∀p,H p=none->Q (.ref p) (upd H p o))
theorem cV:iM X (binaryOp .Add) rAddF:=by
 refine((PZ.or BO).or (PY.or MQ)).imp λx y H Q h=>?_;rcases h with⟨v,e,q⟩|⟨o,e,q⟩
 ·cases x with
  | int i=>cases y with
   | int j=>cases e;exact .inl (.inl ⟨i,j,rfl,rfl,q⟩)
   | _=>cases e
  | str i=>cases y with
   | str j =>
    unfold addV at e;dsimp only at e;split at e
    ·rename_i hz;cases e;exact .inl (.inr ⟨i,j,rfl,rfl,hz,q⟩)
    ·cases e
   | _=>cases e
  | _=>cases e
 ·cases x with
  | ref a=>cases y with
   | ref b =>
    unfold catO at e;dsimp only at e;split at e
    ·rename_i xs c f d;split at e
     ·rename_i hz;cases e;exact .inr (.inl ⟨a,b,xs,c,rfl,rfl,f,d,hz,q⟩)
     ·cases e
    ·rename_i xs c f d;split at e
     ·rename_i hz;cases e;exact .inr (.inr ⟨a,b,xs,c,rfl,rfl,iU.of f,iU.of d,hz.2.1,hz.1,λw=>absurd w hz.2.2,λ_=>q⟩)
     ·cases e
    ·cases e
   | _=>cases e
  | _=>cases e
end
inductive D where
 | non|bl (b:Bool)|int (i:Int)|str (x:Str)|tup (xs:List D)|lst (xs:List D)
mutual
def aX (H:Hp):D->V->Prop
 | .non,v=>v = .non
 | .bl b,v=>v = .bl b
 | .int i,v=>v = .int i
 | .str x,v=>v = .str x
 | .tup ds,v=>∃a vs,v = .ref a/\H a=some (.tup vs)/\Reps H ds vs
 | .lst ds,v=>∃a vs,v = .ref a/\H a=some (.lst vs)/\Reps H ds vs
def Reps (H:Hp):List D->List V->Prop
 | [],vs=>vs=[]
 | d::ds,vs=>∃v r,vs=v::r/\aX H d v/\Reps H ds r
end
mutual
theorem aX.same {H H':Hp}(s:aF H H'):∀{d:D} {v:V},aX H d v->aX H' d v
 | .non,_,h=>h
 | .bl _,_,h=>h
 | .int _,_,h=>h
 | .str _,_,h=>h
 | .tup _,_,⟨a,vs,e,h,r⟩=>⟨a,vs,e,s _ _ h,Reps.same s r⟩
 | .lst _,_,⟨a,vs,e,h,r⟩=>⟨a,vs,e,s _ _ h,Reps.same s r⟩
theorem Reps.same {H H':Hp}(s:aF H H'):∀{ds:List D} {vs:List V},Reps H ds vs->Reps H' ds vs
 | [],_,h=>h
 | _::_,_,⟨v,r,e,h,q⟩=>⟨v,r,e,aX.same s h,Reps.same s q⟩
end
theorem Reps.length {H:Hp}:∀{ds:List D} {vs:List V},Reps H ds vs->vs.length=ds.length
 | [],_,h=>by cases h;rfl
 | _::_,_,⟨v,r,e,_,q⟩=>by subst e;simp[Reps.length q]
theorem Reps.append {H:Hp}:∀{ds es:List D} {vs ws:List V},Reps H ds vs->Reps H es ws->Reps H (ds++es) (vs++ws)
 | [],_,_,_,h,k=>by cases h;exact k
 | _::_,_,_,_,⟨v,r,e,h,q⟩,k=>by subst e;exact⟨v,r++_,rfl,h,Reps.append q k⟩
theorem Reps.get {H:Hp}:∀{ds:List D} {vs:List V} {i:Nat} {v:V},Reps H ds vs->vs[i]?=some v->∃d,ds[i]?=some d/\aX H d v
 | [],_,_,_,h,e=>by cases h;simp at e
 | d::_,_,0,_,⟨v,r,e,h,q⟩,k=>by subst e;simp at k;subst k;exact⟨d,rfl,h⟩
 | _::_,_,i+1,_,⟨v,r,e,h,q⟩,k=>by subst e;simp at k;obtain⟨d,b,a⟩:=Reps.get q k;exact⟨d,by simpa using b,a⟩
theorem Reps.get' {H:Hp}:∀{ds:List D} {vs:List V} {i:Nat} {d:D},Reps H ds vs->ds[i]?=some d->∃v,vs[i]?=some v/\aX H d v
 | [],_,_,_,_,e=>by simp at e
 | d::_,_,0,_,⟨v,r,e,h,q⟩,k=>by subst e;simp at k;subst k;exact⟨v,rfl,h⟩
 | _::_,_,i+1,_,⟨v,r,e,h,q⟩,k=>by subst e;simp at k;obtain⟨w,b,a⟩:=Reps.get' q k;exact⟨w,by simpa using b,a⟩
mutual
noncomputable def eqD:D->D->Bool
 | .non,.non=>true
 | .bl a,.bl b=>a == b
 | .bl a,.int b=>(if a then 1 else 0) == b
 | .int a,.bl b=>a == (if b then 1 else 0)
 | .int a,.int b=>a == b
 | .str a,.str b=>a == b
 | .tup xs,.tup c=>eqDs xs c
 | .lst xs,.lst c=>eqDs xs c
 | _,_=>false
noncomputable def eqDs:List D->List D->Bool
 | [],[]=>true
 | x::xs,y::a=>eqD x y && eqDs xs a
 | _,_=>false
end
mutual
noncomputable def depD:D->Nat
 | .tup xs=>depDs xs+1
 | .lst xs=>depDs xs+1
 | _=>0
noncomputable def depDs:List D->Nat
 | []=>0
 | x::xs=>max (depD x) (depDs xs)
end
end L2
namespace L2
open PySem PySem.Spec PyProof.Rows PySem.SeqAt
mutual
theorem aX.inj {H:Hp}:∀{d e:D} {v:V},aX H d v->aX H e v->d=e
 | .non,e,v,h,k=>by cases h;cases e <;> first|rfl|(exact absurd k (by simp[aX]))|(obtain⟨_,_,z,_⟩:=k;cases z)
 | .bl b,e,v,h,k=>by cases h;cases e <;> first|(cases k;rfl)|(exact absurd k (by simp[aX]))|(obtain⟨_,_,z,_⟩:=k;cases z)
 | .int b,e,v,h,k=>by cases h;cases e <;> first|(cases k;rfl)|(exact absurd k (by simp[aX]))|(obtain⟨_,_,z,_⟩:=k;cases z)
 | .str b,e,v,h,k=>by cases h;cases e <;> first|(cases k;rfl)|(exact absurd k (by simp[aX]))|(obtain⟨_,_,z,_⟩:=k;cases z)
 | .tup ds,e,v,⟨a,vs,i,c,g⟩,k=>by
  subst i;cases e with
  | tup es =>
   obtain⟨b,f,k1,k2,k3⟩:=k;cases k1;rw[c]at k2;cases k2;rw[Reps.inj g k3]
  | lst es =>
   obtain⟨b,f,k1,k2,k3⟩:=k;cases k1;rw[c]at k2;cases k2
  | _=>exact absurd k (by simp[aX])
 | .lst ds,e,v,⟨a,vs,i,c,g⟩,k=>by
  subst i;cases e with
  | lst es =>
   obtain⟨b,f,k1,k2,k3⟩:=k;cases k1;rw[c]at k2;cases k2;rw[Reps.inj g k3]
  | tup es =>
   obtain⟨b,f,k1,k2,k3⟩:=k;cases k1;rw[c]at k2;cases k2
  | _=>exact absurd k (by simp[aX])
theorem Reps.inj {H:Hp}:∀{ds es:List D} {vs:List V},Reps H ds vs->Reps H es vs->ds=es
 | [],[],_,_,_=>rfl
 | [],e::es,_,h,k=>by cases h;obtain⟨_,_,z,_⟩:=k;cases z
 | d::ds,[],_,h,k=>by cases k;obtain⟨_,_,z,_⟩:=h;cases z
 | d::ds,e::es,_,⟨v,r,c,b,a⟩,⟨w,q,k1,k2,k3⟩=>by subst c;cases k1;rw[aX.inj b k2,Reps.inj a k3]
end
mutual
theorem gR:∀d:D,eqD d d=true
 | .non=>rfl
 | .bl b=>by simp[eqD]
 | .int b=>by simp[eqD]
 | .str b=>by simp[eqD]
 | .tup xs=>by rw[eqD];exact pJ xs
 | .lst xs=>by rw[eqD];exact pJ xs
theorem pJ:∀ds:List D,eqDs ds ds=true
 | []=>rfl
 | d::ds=>by rw[eqDs,gR d,pJ ds];rfl
end
theorem sZ (n:Nat)(f:Nat->Bool):(List.range (n+1)).all f=(f 0 && (List.range n).all λj=>f (j+1)):=by have e:=List.range_succ_eq_map (n:=n);rw[e,List.all_cons,List.all_map];rfl
theorem gQ:∀ds es:List D,eqDs ds es=((List.range (min ds.length es.length)).all (λj=>eqD (ds.getD j .non) (es.getD j .non)) && ds.length == es.length)
 | [],[]=>rfl
 | [],e::es=>by simp[eqDs]
 | d::ds,[]=>by simp[eqDs]
 | d::ds,e::es=>by
  rw[eqDs,gQ ds es];have a:min (d::ds).length (e::es).length=min ds.length es.length+1:=by simp only[ap];omega
  rw[a,sZ];simp only[List.getD_cons_zero,List.getD_cons_succ,ap];rw[Bool.and_assoc];congr 2;rw[bz];simp
section
variable {P:Program}{w:World}{H:Hp}{s:Shared}
theorem gN (ok:fV P w H s.heap){a:Addr}{vs:List V}(h:H a=some (.lst vs)):∃its:bQ,aT vs its/\s.heap.IsList a its.toArray:=by obtain⟨_,its,n,r,e⟩:=ok a _ h;exact⟨its,r,⟨_,e,rfl,n,rfl⟩⟩
theorem iT (ok:fV P w H s.heap){a:Addr}{vs:List V}(h:H a=some (.tup vs)):∃its:bQ,aT vs its/\s.heap.IsTuple a its.toArray:=by obtain⟨_,its,r,e⟩:=ok a _ h;exact⟨its,r,e⟩
theorem d9 (A:Around):A.in1.units=A.units+1:=rfl
def R4 (u:Value):Prop:=u = .none∨(∃b,u = .bool b)∨(∃i t,u = .int i t)∨(∃x t,u = .str x t)∨∃a,u = .ref a
theorem IP {H:Hp}{d:D}{v:V}{u:Value}(h:aX H d v)(r:aU v u):R4 u:=by
 cases d with
 | non=>cases h;exact .inl r
 | bl b=>cases h;exact .inr (.inl ⟨b,r⟩)
 | int i=>cases h;obtain⟨t,e⟩:=r;exact .inr (.inr (.inl ⟨i,t,e⟩))
 | str x=>cases h;obtain⟨t,e⟩:=r;exact .inr (.inr (.inr (.inl ⟨x,t,e⟩)))
 | tup ds=>obtain⟨a,vs,e,_⟩:=h;subst e;exact .inr (.inr (.inr (.inr ⟨a,r⟩)))
 | lst ds=>obtain⟨a,vs,e,_⟩:=h;subst e;exact .inr (.inr (.inr (.inr ⟨a,r⟩)))
theorem NP {A:Around}{s:Shared}{u a:Value}{b:Bool}(e:R4 u)(c:R4 a)(f:u≠a)(q:RcAt A s u a b):EqAt A s u a b:=by intro prog w E Q g;unfold eqBool;refine ca ?_;refine wpAny_ite_split (λd=>absurd (eq_of_beq d) f) (λ_=>?_);have q':=q prog w E (λv s'=>wpAny (model prog w) A (truthOfDropped v) Q E s') (wpAny_truthy_bool g);rcases e with rfl|⟨_,rfl⟩|⟨_,_,rfl⟩|⟨_,_,rfl⟩|⟨_,rfl⟩ <;> rcases c with rfl|⟨_,rfl⟩|⟨_,_,rfl⟩|⟨_,_,rfl⟩|⟨_,rfl⟩ <;> exact aa q'
theorem EV {A:Around}{d e:D}{v b:V}{u a:Value}(h:aX H d v)(k:aX H e b)(r:aU v u)(c:aU b a)(q:RcAt A s u a (eqD d e)):EqAt A s u a (eqD d e):=by
 by_cases f:u=a
 ·subst f;have i:v=b:=r.inj c;subst i;have g:=aX.inj h k;subst g;rw[gR];exact EqAt.same u
 ·exact NP (IP h r) (IP k c) f q
def rD (s:Shared)(H:Hp)(n:Nat):Prop:=∀(d e:D) (A:Around) (v v':V) (u u':Value),depD d<n->aX H d v->aX H e v'->aU v u->aU v' u'->A.units+depD d<cLine->RcAt A s u u' (eqD d e)
theorem xF {n:Nat}(E:rD s H n):∀{ds es:List D} {A:Around} {vs c:List V} {us a:bQ},depDs ds<n->Reps H ds vs->Reps H es c->aT vs us->aT c a->A.units+depDs ds<cLine ->
  ∀j (f:j<us.length) (m:j<a.length),EqAt A s us[j] a[j] (eqD (ds.getD j .non) (es.getD j .non)):=by
 intro ds
 induction ds with
 | nil=>intro es A vs c us a _ h _ r _ _ j f;cases h;cases r;exact absurd f (Nat.not_lt_zero _)
 | cons d ds F =>
  intro es A vs c us a l h k r o i j f m;cases es with
  | nil=>cases k;cases o;exact absurd m (Nat.not_lt_zero _)
  | cons e es =>
   obtain⟨v,I,z,q,x⟩:=h;obtain⟨y,G,C,u,B⟩:=k;subst z C;rw[depDs]at i l;cases r with
   | cons r1 w =>
    cases o with
    | cons b g =>
     cases j with
     | zero=>exact EV q u r1 b (E d e A v y _ _ (ak (Nat.le_max_left _ _) l) q u r1 b (ak (bv (Nat.le_max_left _ _) _) i))
     | succ j=>exact F (ak (Nat.le_max_right _ _) l) x B w g (ak (bv (Nat.le_max_right _ _) _) i) j (Nat.lt_of_succ_lt_succ f) (Nat.lt_of_succ_lt_succ m)
theorem L5 (ok:fV P w H s.heap){n:Nat}(z:rD s H n){ds es:List D}{A:Around}{v i:V}{u l:Value}(B:depDs ds<n)(h:aX H (.tup ds) v)(k:aX H (.tup es) i)(r:aU v u)(x:aU i l)(I:A.units+depDs ds+1<cLine):RcAt A s u l (eqD (.tup ds) (.tup es)):=by
 obtain⟨a,vs,g,f,o⟩:=h;obtain⟨b,G,k1,k2,k3⟩:=k;subst g k1;cases r;cases x;obtain⟨its,m,C⟩:=iT ok f;obtain⟨its2,c,d⟩:=iT ok k2;have q:=RcAt.tuples (A:=A) C d (by omega) (e:=λj=>eqD (ds.getD j .non) (es.getD j .non)) λj g f=>xF z B o k3 m c (A:=A.in1) (by rw[d9];omega) j g f;have F:its.toArray.size=ds.length:=by rw[ai,←m.length,o.length]
 have E:its2.toArray.size=es.length:=by rw[ai,←c.length,k3.length]
 rw[F,E,←gQ]at q;exact q
theorem L6 (ok:fV P w H s.heap){n:Nat}(G:rD s H n){ds es:List D}{A:Around}{v m:V}{u o:Value}(I:depDs ds<n)(h:aX H (.lst ds) v)(k:aX H (.lst es) m)(r:aU v u)(F:aU m o)(K:A.units+depDs ds+1<cLine):RcAt A s u o (eqD (.lst ds) (.lst es)):=by
 obtain⟨a,vs,g,f,B⟩:=h;obtain⟨b,J,k1,k2,k3⟩:=k;subst g k1;cases r;cases F;obtain⟨its,x,z⟩:=gN ok f;obtain⟨its2,c,d⟩:=gN ok k2;have l:its.toArray.size=ds.length:=by rw[ai,←x.length,B.length]
 have E:its2.toArray.size=es.length:=by rw[ai,←c.length,k3.length]
 by_cases hz:its.toArray.size=its2.toArray.size
 ·have q:=RcAt.lists (A:=A) z d hz (by omega) (e:=λj=>eqD (ds.getD j .non) (es.getD j .non)) λj g f=>xF G I B k3 x c (A:=A.in1) (by rw[d9];omega) j g f;have C:ds.length=es.length:=by rw[←l,←E];exact hz
  have i:eqD (.lst ds) (.lst es)=(List.range its.toArray.size).all λj=>eqD (ds.getD j .non) (es.getD j .non):=by rw[eqD,gQ,C,Nat.min_self,l,C,beq_self_eq_true,Bool.and_true]
  rw[i];exact q
 ·have q:=RcAt.lists_lengths (A:=A) z d (bne_iff_ne.mpr hz) (by omega);have i:eqD (.lst ds) (.lst es)=false:=by rw[eqD,gQ];have:(ds.length == es.length)=false:=cs.mpr (by rw[←l,←E];exact hz);rw[this,Bool.and_false]
  rw[i];exact q
inductive Kd (s:Shared):D->Value->Prop
 | non:Kd s .non .none
 | bl (b:Bool):Kd s (.bl b) (.bool b)
 | int (i:Int) (t:Tok):Kd s (.int i) (.int i t)
 | str (x:Str) (t:Tok):Kd s (.str x) (.str x t)
 | tup {ds:List D} {a:Addr} {its:bQ}:s.heap.IsTuple a its.toArray->Kd s (.tup ds) (.ref a)
 | lst {ds:List D} {a:Addr} {its:bQ}:s.heap.IsList a its.toArray->Kd s (.lst ds) (.ref a)
theorem EK (ok:fV P w H s.heap):∀{d:D} {v:V} {u:Value},aX H d v->aU v u->Kd s d u
 | .non,_,_,h,r=>by cases h;cases r;exact .non
 | .bl b,_,_,h,r=>by cases h;cases r;exact .bl b
 | .int i,_,_,h,r=>by cases h;obtain⟨t,rfl⟩:=r;exact .int i t
 | .str x,_,_,h,r=>by cases h;obtain⟨t,rfl⟩:=r;exact .str x t
 | .tup _,_,_,⟨_,_,e,h,_⟩,r=>by subst e;cases r;obtain⟨_,_,a⟩:=iT ok h;exact .tup a
 | .lst _,_,_,⟨_,_,e,h,_⟩,r=>by subst e;cases r;obtain⟨_,_,a⟩:=gN ok h;exact .lst a
theorem L7 {A:Around}{d e:D}{u g:Value}(a:A.units<cLine)(h:Kd s d u)(k:Kd s e g)(n1:∀xs f,d = .tup xs->e≠.tup f)(n2:∀xs f,d = .lst xs->e≠.lst f):RcAt A s u g (eqD d e):=by
 cases h with
 | non=>cases k with
  | non=>exact RcAt.none_none
  | bl c=>exact RcAt.none_bool c
  | int c t=>exact RcAt.none_int c t
  | str c t=>exact RcAt.none_str c t
  | tup l=>exact RcAt.none_tuple l a
  | lst l=>exact RcAt.none_list l a
 | bl x=>cases k with
  | non=>exact RcAt.bool_none x
  | bl c=>exact RcAt.bool_bool x c
  | int c t=>exact RcAt.bool_int x c t
  | str c t=>exact RcAt.bool_str x c t
  | tup l=>exact RcAt.bool_tuple x l a
  | lst l=>exact RcAt.bool_list x l a
 | int x b=>cases k with
  | non=>exact RcAt.int_none x b
  | bl c=>exact RcAt.int_bool x b c
  | int c t=>exact RcAt.int_int x b c t
  | str c t=>exact RcAt.int_str x b c t
  | tup l=>exact RcAt.int_tuple x b l a
  | lst l=>exact RcAt.int_list x b l a
 | str x b=>cases k with
  | non=>exact RcAt.str_none x b
  | bl c=>exact RcAt.str_bool x b c
  | int c t=>exact RcAt.str_int x b c t
  | str c t=>exact RcAt.str_str x b c t
  | tup l=>exact RcAt.str_tuple x b l a
  | lst l=>exact RcAt.str_list x b l a
 | tup m=>cases k with
  | non=>exact RcAt.tuple_none m a
  | bl c=>exact RcAt.tuple_bool c m a
  | int c t=>exact RcAt.tuple_int c t m a
  | str c t=>exact RcAt.tuple_str c t m a
  | tup l=>exact absurd rfl (n1 _ _ rfl)
  | lst l=>exact RcAt.tuple_list m l a
 | lst m=>cases k with
  | non=>exact RcAt.list_none m a
  | bl c=>exact RcAt.list_bool c m a
  | int c t=>exact RcAt.list_int c t m a
  | str c t=>exact RcAt.list_str c t m a
  | tup l=>exact RcAt.list_tuple m l a
  | lst l=>exact absurd rfl (n2 _ _ rfl)
theorem nT (ok:fV P w H s.heap):∀n,rD s H n
 | 0=>λ_ _ _ _ _ _ _ h=>absurd h (Nat.not_lt_zero _)
 | n+1=>λd e A v o u q c h k r f b=>by
  have m:A.units<cLine:=ak (Nat.le_add_right _ _) b;by_cases l:∃xs a,d = .tup xs/\e = .tup a
  ·obtain⟨xs,a,rfl,rfl⟩:=l;rw[depD]at b c;exact L5 ok (nT ok n) (Nat.lt_of_succ_lt_succ c) h k r f b
  ·by_cases j:∃xs a,d = .lst xs/\e = .lst a
   ·obtain⟨xs,a,rfl,rfl⟩:=j;rw[depD]at b c;exact L6 ok (nT ok n) (Nat.lt_of_succ_lt_succ c) h k r f b
   ·exact L7 m (EK ok h r) (EK ok k f) (λxs a i g=>l ⟨xs,a,i,g⟩) (λxs a i g=>j ⟨xs,a,i,g⟩)
theorem rcAtD (ok:fV P w H s.heap)(d e:D)(A:Around)(v a:V)(u b:Value)(h:aX H d v)(k:aX H e a)(r:aU v u)(c:aU a b)(f:A.units+depD d<cLine):RcAt A s u b (eqD d e):=nT ok _ d e A v a u b (Nat.lt_succ_self _) h k r c f
theorem eqAtD (ok:fV P w H s.heap)(d e:D)(A:Around)(v a:V)(u b:Value)(h:aX H d v)(k:aX H e a)(r:aU v u)(c:aU a b)(f:A.units+depD d<cLine):EqAt A s u b (eqD d e):=EV h k r c (rcAtD ok d e A v a u b h k r c f)
end
section
variable {X:Cx}
def rEqD:R2:=λx y H Q=>∃d e,aX H d x/\aX H e y/\depD d<=60/\Q (.bl (eqD d e)) H
def rNeD:R2:=λx y H Q=>∃d e,aX H d x/\aX H e y/\depD d<=60/\Q (.bl (!eqD d e)) H
theorem eD (g:X.A.units+64<cLine):iM X (compareOp .Eq) rEqD:=by intro a s σ H x y v u Q I c b h;obtain⟨d,e,hd,f,hz,q⟩:=h;exact rcAtD I.hok d e X.A x y v u hd f c b (by omega) X.prog X.w X.xe _ ⟨.bl _,H,I,rfl,q⟩
end
section
variable {P:Program}{w:World}{H:Hp}{s:Shared}
theorem L1 (ok:fV P w H s.heap){ds es:List D}{A:Around}{v i:V}{u l:Value}(h:aX H (.tup ds) v)(k:aX H (.tup es) i)(r:aU v u)(x:aU i l)(F:A.units+depDs ds+1<cLine):RcNeAt A s u l (!eqD (.tup ds) (.tup es)):=by
 obtain⟨a,vs,g,f,o⟩:=h;obtain⟨b,E,k1,k2,k3⟩:=k;subst g k1;cases r;cases x;obtain⟨its,m,z⟩:=iT ok f;obtain⟨its2,c,d⟩:=iT ok k2;have q:=RcNeAt.tuples (A:=A) z d (by omega) (e:=λj=>eqD (ds.getD j .non) (es.getD j .non)) λj g f=>xF (nT ok _) (Nat.lt_succ_self _) o k3 m c (A:=A.in1) (by rw[d9];omega) j g f;have C:its.toArray.size=ds.length:=by rw[ai,←m.length,o.length]
 have B:its2.toArray.size=es.length:=by rw[ai,←c.length,k3.length]
 rw[C,B,←gQ]at q;exact q
theorem L3 (ok:fV P w H s.heap){ds es:List D}{A:Around}{v m:V}{u o:Value}(h:aX H (.lst ds) v)(k:aX H (.lst es) m)(r:aU v u)(F:aU m o)(I:A.units+depDs ds+1<cLine):RcNeAt A s u o (!eqD (.lst ds) (.lst es)):=by
 obtain⟨a,vs,g,f,B⟩:=h;obtain⟨b,G,k1,k2,k3⟩:=k;subst g k1;cases r;cases F;obtain⟨its,x,z⟩:=gN ok f;obtain⟨its2,c,d⟩:=gN ok k2;have l:its.toArray.size=ds.length:=by rw[ai,←x.length,B.length]
 have E:its2.toArray.size=es.length:=by rw[ai,←c.length,k3.length]
 by_cases hz:its.toArray.size=its2.toArray.size
 ·have q:=RcNeAt.lists (A:=A) z d hz (by omega) (e:=λj=>eqD (ds.getD j .non) (es.getD j .non)) λj g f=>xF (nT ok _) (Nat.lt_succ_self _) B k3 x c (A:=A.in1) (by rw[d9];omega) j g f;have C:ds.length=es.length:=by rw[←l,←E];exact hz
  have i:eqD (.lst ds) (.lst es)=(List.range its.toArray.size).all λj=>eqD (ds.getD j .non) (es.getD j .non):=by rw[eqD,gQ,C,Nat.min_self,l,C,beq_self_eq_true,Bool.and_true]
  rw[i];exact q
 ·have q:=RcNeAt.lists_lengths (A:=A) z d (bne_iff_ne.mpr hz) (by omega);have i:eqD (.lst ds) (.lst es)=false:=by rw[eqD,gQ];have:(ds.length == es.length)=false:=cs.mpr (by rw[←l,←E];exact hz);rw[this,Bool.and_false]
  rw[i];exact q
theorem L4 {A:Around}{d e:D}{u g:Value}(a:A.units<cLine)(h:Kd s d u)(k:Kd s e g)(n1:∀xs f,d = .tup xs->e≠.tup f)(n2:∀xs f,d = .lst xs->e≠.lst f):RcNeAt A s u g (!eqD d e):=by
 cases h with
 | non=>cases k with
  | non=>exact RcNeAt.none_none
  | bl c=>exact RcNeAt.none_bool c
  | int c t=>exact RcNeAt.none_int c t
  | str c t=>exact RcNeAt.none_str c t
  | tup l=>exact RcNeAt.none_tuple l a
  | lst l=>exact RcNeAt.none_list l a
 | bl x=>cases k with
  | non=>exact RcNeAt.bool_none x
  | bl c=>exact RcNeAt.bool_bool x c
  | int c t=>exact RcNeAt.bool_int x c t
  | str c t=>exact RcNeAt.bool_str x c t
  | tup l=>exact RcNeAt.bool_tuple x l a
  | lst l=>exact RcNeAt.bool_list x l a
 | int x b=>cases k with
  | non=>exact RcNeAt.int_none x b
  | bl c=>exact RcNeAt.int_bool x b c
  | int c t=>exact RcNeAt.int_int x b c t
  | str c t=>exact RcNeAt.int_str x b c t
  | tup l=>exact RcNeAt.int_tuple x b l a
  | lst l=>exact RcNeAt.int_list x b l a
 | str x b=>cases k with
  | non=>exact RcNeAt.str_none x b
  | bl c=>exact RcNeAt.str_bool x b c
  | int c t=>exact RcNeAt.str_int x b c t
  | str c t=>exact RcNeAt.str_str x b c t
  | tup l=>exact RcNeAt.str_tuple x b l a
  | lst l=>exact RcNeAt.str_list x b l a
 | tup m=>cases k with
  | non=>exact RcNeAt.tuple_none m a
  | bl c=>exact RcNeAt.tuple_bool c m a
  | int c t=>exact RcNeAt.tuple_int c t m a
  | str c t=>exact RcNeAt.tuple_str c t m a
  | tup l=>exact absurd rfl (n1 _ _ rfl)
  | lst l=>exact RcNeAt.tuple_list m l a
 | lst m=>cases k with
  | non=>exact RcNeAt.list_none m a
  | bl c=>exact RcNeAt.list_bool c m a
  | int c t=>exact RcNeAt.list_int c t m a
  | str c t=>exact RcNeAt.list_str c t m a
  | tup l=>exact RcNeAt.list_tuple m l a
  | lst l=>exact absurd rfl (n2 _ _ rfl)
theorem L8 (ok:fV P w H s.heap)(d e:D)(A:Around)(v i:V)(u j:Value)(h:aX H d v)(k:aX H e i)(r:aU v u)(c:aU i j)(b:A.units+depD d<cLine):RcNeAt A s u j (!eqD d e):=by
 have o:A.units<cLine:=ak (Nat.le_add_right _ _) b;by_cases m:∃xs a,d = .tup xs/\e = .tup a
 ·obtain⟨xs,a,rfl,rfl⟩:=m;rw[depD]at b;exact L1 ok h k r c b
 ·by_cases l:∃xs a,d = .lst xs/\e = .lst a
  ·obtain⟨xs,a,rfl,rfl⟩:=l;rw[depD]at b;exact L3 ok h k r c b
  ·exact L4 o (EK ok h r) (EK ok k c) (λxs a g f=>m ⟨xs,a,g,f⟩) (λxs a g f=>l ⟨xs,a,g,f⟩)
end
section
variable {X:Cx}
theorem iC (g:X.A.units+64<cLine):iM X (compareOp .NotEq) rNeD:=by intro a s σ H x y v u Q I c b h;obtain⟨d,e,hd,f,hz,q⟩:=h;exact L8 I.hok d e X.A x y v u hd f c b (by omega) X.prog X.w X.xe _ ⟨.bl _,H,I,rfl,q⟩
noncomputable def inD (d:D)(ds:List D):Bool:=ds.any λe=>eqD e d
def rInD (a:Bool):R2:=λx y H Q=>∃d ds,aX H d x/\(aX H (.lst ds) y∨aX H (.tup ds) y)/\depDs ds<=60/\Q (.bl (if a then !inD d ds else inD d ds)) H
open Classical in
noncomputable def datOf (H:Hp)(y:Value):D:=if h:∃d v,absV y=some v/\aX H d v then h.choose else .non
theorem K8 {H:Hp}{d:D}{v:V}{y:Value}(r:aU v y)(h:aX H d v):datOf H y=d:=by
 have e:∃d v,absV y=some v/\aX H d v:=⟨d,v,r.abs,h⟩
 unfold datOf;rw[dif_pos e];obtain⟨c,a,b⟩:=e.choose_spec;rw[r.abs]at a;cases a;exact aX.inj b h
theorem sM {P:Program}{w:World}{H:Hp}{s:Shared}(ok:fV P w H s.heap){A:Around}{d:D}{v:V}{u:Value}(h:aX H d v)(r:aU v u):∀(ds:List D) (vs:List V) (us:bQ),Reps H ds vs->aT vs us->A.units+depDs ds<cLine ->
  (∀y∈us,EqAt A s y u (eqD (datOf H y) d))/\us.any (λy=>eqD (datOf H y) d)=inD d ds
 | [],vs,us,a,r1,_=>by cases a;cases r1;exact⟨by simp,rfl⟩
 | e::ds,vs,us,a,r1,x=>by
  obtain⟨g,f,o,b,m⟩:=a;subst o;rw[depDs]at x;cases r1 with
  | @cons _ j _ i r1 l =>
   obtain⟨C,B⟩:=sM ok (A:=A) h r ds f i m l (by omega);have hd:=eqAtD ok e d A g v j u b h r1 r (by omega);have c:=K8 r1 b;refine⟨λy q=>?_,?_⟩
   ·rcases cm.mp q with z|z
    ·subst z;rw[c];exact hd
    ·exact C y z
   ·rw[List.any_cons,c,B];rfl
theorem RZ (B:X.A.units+64<cLine):iM X (compareOp .In) (λx y H Q=>rInD false x y H Q∨∃i j,x = .str i/\y = .str j/\Q (.bl (!(Builtin.Str.occurrences j i 0 j.length 1).isEmpty)) H):=by
 refine iM.or ?_ jL;intro z s σ H x y v u Q I w r h;obtain⟨d,ds,hd,b,hz,q⟩:=h;have q:Q (.bl (inD d ds)) H:=q;rcases b with⟨a,vs,e,l,f⟩|⟨a,vs,e,l,f⟩
 ·subst e;cases r;obtain⟨its,c,g⟩:=gN I.hok l;obtain⟨o,m⟩:=sM I.hok (A:=X.A.in1) hd w ds vs its f c (by rw[d9];omega);refine in_listAt (λy=>eqD (datOf H y) d) g (λy b=>o y (by simpa using b)) ?_;refine⟨.bl (inD d ds),H,I,?_,q⟩;show _=Value.bool _;rw[←m];simp
 ·subst e;cases r;obtain⟨its,c,g⟩:=iT I.hok l;obtain⟨o,m⟩:=sM I.hok (A:=X.A.in1) hd w ds vs its f c (by rw[d9];omega);refine in_tupleAt (λy=>eqD (datOf H y) d) g (λy b=>o y (by simpa using b)) ?_;refine⟨.bl (inD d ds),H,I,?_,q⟩;show _=Value.bool _;rw[←m];simp
theorem GA (B:X.A.units+64<cLine):iM X (compareOp .NotIn) (λx y H Q=>rInD true x y H Q∨∃i j,x = .str i/\y = .str j/\Q (.bl (!(!(Builtin.Str.occurrences j i 0 j.length 1).isEmpty))) H):=by
 refine iM.or ?_ wN;intro z s σ H x y v u Q I w r h;obtain⟨d,ds,hd,b,hz,q⟩:=h;have q:Q (.bl (!inD d ds)) H:=q;rcases b with⟨a,vs,e,l,f⟩|⟨a,vs,e,l,f⟩
 ·subst e;cases r;obtain⟨its,c,g⟩:=gN I.hok l;obtain⟨o,m⟩:=sM I.hok (A:=X.A.in1) hd w ds vs its f c (by rw[d9];omega);refine notIn_listAt (λy=>eqD (datOf H y) d) g (λy b=>o y (by simpa using b)) ?_;refine⟨.bl (!inD d ds),H,I,?_,q⟩;show _=Value.bool _;rw[←m];simp
 ·subst e;cases r;obtain⟨its,c,g⟩:=iT I.hok l;obtain⟨o,m⟩:=sM I.hok (A:=X.A.in1) hd w ds vs its f c (by rw[d9];omega);refine notIn_tupleAt (λy=>eqD (datOf H y) d) g (λy b=>o y (by simpa using b)) ?_;refine⟨.bl (!inD d ds),H,I,?_,q⟩;show _=Value.bool _;rw[←m];simp
end
end L2
namespace L2
open PySem PySem.Spec PyProof.Rows
section
variable {X:Cx}{pins:cZ}{σ:St}{H:Hp}{s:Shared}
noncomputable def tyN (H:Hp):V->Option String
 | .non=>some "NoneType"
 | .bl _=>some "bool"
 | .int _=>some "int"
 | .str _=>some "str"
 | .ref p=>match H p with
  | some (.lst _)=>some "list"
  | some (.tup _)=>some "tuple"
  | some (.dK _)=>some "dict"
  | _=>none
 | _=>none
noncomputable def okT (c:String):Bool:=c == "str" || c == "int" || c == "bool" || c == "list" || c == "tuple" || c == "dict"
noncomputable def subT (t c:String):Bool:=t == c || (t == "bool" && c == "int")
noncomputable def tysV:List V->Option (List String)
 | []=>some []
 | .ty n::r=>(tysV r).map (n :: ·)
 | _::_=>none
noncomputable def clsV (H:Hp):V->Option (List String)
 | .ty n=>some [n]
 | .ref p=>match H p with
  | some (.tup vs)=>tysV vs
  | _=>none
 | _=>none
noncomputable def isV (H:Hp)(x c:V):Option Bool:=match tyN H x,clsV H c with
 | some t,some a=>if a.all okT then some (a.any (subT t))else none
 | _,_=>none
theorem RF {x:V}{u:Value}{t:String}(I:aQ X pins σ H s)(a:aU x u)(e:tyN H x=some t) :
  ∃HH:Heap->Prop,PySem.W.KitX X.K u (.type t) HH/\HH s.heap/\u≠.builtin "__main__.__loader__#opaque":=by
 cases x with
 | non=>cases e;cases a;exact⟨_,PySem.W.kitx_none,True.intro,λz=>nomatch z⟩
 | bl b=>cases e;cases a;exact⟨_,PySem.W.kitx_bool,True.intro,λz=>nomatch z⟩
 | int i=>cases e;obtain⟨t,rfl⟩:=a;exact⟨_,PySem.W.kitx_int,True.intro,λz=>nomatch z⟩
 | str i=>cases e;obtain⟨t,rfl⟩:=a;exact⟨_,PySem.W.kitx_str,True.intro,λz=>nomatch z⟩
 | ref p =>
  cases a;unfold tyN at e;dsimp only at e;split at e
  ·rename_i xs c;cases e;obtain⟨_,_,n,_,d⟩:=(show cF X.prog X.w H s.heap p (.lst xs)from I.hok p _ c)
   exact⟨_,PySem.W.kitx_list,⟨_,d,rfl⟩,λz=>nomatch z⟩
  ·rename_i xs c;cases e;obtain⟨_,_,_,o,d,g,_⟩:=(show cF X.prog X.w H s.heap p (.tup xs)from I.hok p _ c)
   exact⟨_,PySem.W.kitx_tuple,⟨o,d,g⟩,λz=>nomatch z⟩
  ·rename_i f c;cases e;obtain⟨_,_,vs,_,o,es,ep,d,g,_⟩:=(show cF X.prog X.w H s.heap p (.dK f)from I.hok p _ c)
   exact⟨_,PySem.W.kitx_dict,⟨o,d,g.1⟩,λz=>nomatch z⟩
  ·cases e
 | _=>cases e
theorem OW {x:V}{t:String}(e:tyN H x=some t):t="NoneType"∨t="bool"∨t="int"∨t="str"∨t="list"∨t="tuple"∨t="dict":=by
 cases x with
 | non=>cases e;simp
 | bl b=>cases e;simp
 | int i=>cases e;simp
 | str i=>cases e;simp
 | ref p =>
  unfold tyN at e;dsimp only at e;split at e <;> cases e <;> simp
 | _=>cases e
theorem P6 {c:String}(e:okT c=true):c="str"∨c="int"∨c="bool"∨c="list"∨c="tuple"∨c="dict":=by simp only[okT,Bool.or_eq_true,beq_iff_eq]at e;rcases e with((((e|e)|e)|e)|e)|e <;> simp[e]
theorem EH {K:PySem.W.Frag}{x:V}{t c:String}(e:tyN H x=some t)(a:okT c=true):PySem.W.kitOne K (.type t) (.type c)=some (subT t c):=by rcases OW e with rfl|rfl|rfl|rfl|rfl|rfl|rfl <;> rcases P6 a with rfl|rfl|rfl|rfl|rfl|rfl <;> with_unfolding_all rfl
theorem EI {K:PySem.W.Frag}{x:V}{t:String}(e:tyN H x=some t):∀{a:List String},a.all okT=true->PySem.W.kitAny K (.type t) (a.map Value.type)=some (a.any (subT t))
 | [],_=>rfl
 | c::r,h=>by
  replace h:=Bool.and_eq_true_iff.mp (List.all_cons ▸ h)
  rw[aS];unfold PySem.W.kitAny;rw[EH e h.1];cases q:subT t c with
  | true=>simp[q]
  | false=>simp only[List.any_cons,q,Bool.false_or];exact EI e h.2
theorem uD:∀{vs:List V} {a:List String} {us:bQ},tysV vs=some a->aT vs us->us=a.map Value.type
 | [],a,us,h,r=>by cases h;cases r;rfl
 | .ty n::vs,a,us,h,r=>by
  unfold tysV at h;cases e:tysV vs with
  | none=>rw[e]at h;cases h
  | some c =>
   rw[e]at h;cases h;cases r with
   | cons r1 b =>
    cases r1;rw[aS,uD e b]
 | .non::_,_,_,h,_=>by cases h
 | .bl _::_,_,_,h,_=>by cases h
 | .int _::_,_,_,h,_=>by cases h
 | .str _::_,_,_,h,_=>by cases h
 | .byt _::_,_,_,h,_=>by cases h
 | .flt _::_,_,_,h,_=>by cases h
 | .ref _::_,_,_,h,_=>by cases h
def rIs:List V->Hp->VK->Prop:=λxs H Q=>∃x c b,xs=[x,c]/\isV H x c=some b/\Q (.bl b) H
theorem aK:dN X (.builtin "isinstance") rIs:=by
 intro d s σ H xs us Q I r h;obtain⟨x,c,b,rfl,e,q⟩:=h;cases r with
 | cons u A =>
  cases A with
  | cons l z =>
   cases z;unfold isV at e;split at e
   ·rename_i t G j a;split at e
    ·rename_i g;cases e;obtain⟨HH,Z,m,f⟩:=RF I u j;have fin:∀tk,EP X d σ Q (.bool (G.any (subT t))) {s with toks:=tk}:=λtk=>⟨.bl _,H,I.tok tk,rfl,q⟩
     cases c with
     | ty n =>
      cases l;cases a;have i:okT n=true:=by simpa using g
      refine PySem.W.kia_one Z I.kIn m (EH j i) f ?_;intro tk;have:=fin tk
      simpa using this
     | ref p =>
      cases l;unfold clsV at a;dsimp only at a;split at a
      ·rename_i vs B;obtain⟨_,its,v,o,i,E,n,C⟩:=(show cF X.prog X.w H s.heap p (.tup vs)from I.hok p _ B)
       obtain⟨cl,dd,K,J⟩:=o;cases E;cases C;have F:=uD a v;subst F;exact PySem.W.kia_tup Z I.kIn m i (EI j g) f fin
      ·cases a
     | _=>cases a
    ·cases e
   ·cases e
noncomputable def seqV (H:Hp):V->Option (List V)
 | .ref p=>match H p with
  | some (.lst xs)=>some xs
  | some (.tup xs)=>some xs
  | _=>none
 | _=>none
theorem CV:dN X (.type "list") (λxs H Q=>∃x a,xs=[x]/\seqV H x=some a/\∀l,H l=none->Q (.ref l) (upd H l (.lst a))):=by
 refine xI.imp λxs H Q h=>?_;obtain⟨x,a,rfl,e,q⟩:=h;cases x with
 | ref p =>
  unfold seqV at e;dsimp only at e;split at e
  ·rename_i c b;cases e;exact⟨p,_,rfl,.inl (eH.of b),q⟩
  ·rename_i c b;cases e;exact⟨p,_,rfl,.inr (iU.of b),q⟩
  ·cases e
 | _=>cases e
def rSlF:V->Option Int->Option Int->Hp->VK->Prop:=λx b c H Q=>∃a,x = .ref a /\
 ((∃xs,H a=some (.lst xs)/\∀p,H p=none->Q (.ref p) (upd H p (.lst (cutV xs b c)))) ∨
  (∃xs,H a=some (.tup xs)/\¬(HT.sIx xs.length 0 b=0/\HT.sIx xs.length xs.length c=xs.length)/\∀p,H p=none->Q (.ref p) (upd H p (.tup (cutV xs b c)))))
end
def tX (J:It)(g:TG)(d:TS)(D:iJ)(σ:St)(f:Hp):Prop:=∃W:Nat->Nat->St->Hp->Prop,(∃m,W 0 m σ f)/\∀i m σ H,W i m σ H ->
 (J.stop i H/\D.nx σ H)∨(J.go i H/\∃N:St->Hp->Prop,(∀a H',N a H'->∃b,b<m/\W (i+1) b a H')/\∀x H',J.yld i H x H'->g x σ H' λc e=>d {D with nx:=N,ct:=N,bk:=D.nx} c e)
theorem tFor_eq {a:TI}{g:TG}{b:TS}{D:iJ}{σ:St}{H:Hp}:tFor a g b D σ H=a σ H λJ c=>tX J g b D σ c:=rfl
def qK (J:It)(g:TG)(b:TT)(c:TE)(Q:VK)(σ:St)(d:Hp):Prop:=∃W:CW,(∃m,W 0 m [] σ d)/\OQ J g b c (λa H=>∀p,H p=none->Q (.ref p) (upd H p (.lst a))) W
theorem tComp_eq {src:List (Option Nat)}{a:TI}{g:TG}{b:TT}{c:TE}{σ:St}{H:Hp}{Q:VK}:tComp src a g b c σ H Q=a σ H λJ d=>qK J g b c Q (stC src σ) d:=rfl
section
variable {X:Cx}{tg:Expr}
def iAny (K:PySem.W.Frag)(tl:TE):TI:=λσ H R=>tl σ H λx b=>∃a,x = .ref a/\((∃xs,b a=some (.lst xs)/\R (OO K a) b)∨(∃xs,b a=some (.tup xs)/\R (ON K a) b))
end
section
variable {g:TG}{tb:TS}{D:iJ}{σ:St}{H:Hp}{tt:TT}{te:TE}{Q:VK}{K:PySem.W.Frag}
theorem sQ {a:Int}{n:Nat}(Pv:Nat->St->Hp->Prop)(d:Pv 0 σ H)
  (c:∀i σ H,i<n->Pv i σ H->g (.int (a+i)) σ H λb e=>tb {D with nx:=Pv (i+1),ct:=Pv (i+1),bk:=D.nx} b e) (hd:∀σ H,Pv n σ H->D.nx σ H):tX (N7 a n) g tb D σ H:=G0 Pv d c hd
theorem G1 {a:Addr}(xs:List V)(Pv:Nat->St->Hp->Prop)(f:Pv 0 σ H)(d:∀i σ H,i<=xs.length->Pv i σ H->H a=some (.lst xs))
  (c:∀i x σ H,xs[i]?=some x->Pv i σ H->g x σ H λb h=>tb {D with nx:=Pv (i+1),ct:=Pv (i+1),bk:=D.nx} b h) (hd:∀σ H,Pv xs.length σ H->D.nx σ H):tX (OO K a) g tb D σ H :=
 KO Pv f (λi σ H e p=>eH.of (d i σ H e p)) c hd
theorem KQ {a:Addr}(xs:List V)(Pv:Nat->St->Hp->Prop)(f:Pv 0 σ H)(d:∀i σ H,i<=xs.length->Pv i σ H->H a=some (.tup xs))
  (c:∀i x σ H,xs[i]?=some x->Pv i σ H->g x σ H λb h=>tb {D with nx:=Pv (i+1),ct:=Pv (i+1),bk:=D.nx} b h) (hd:∀σ H,Pv xs.length σ H->D.nx σ H):tX (ON K a) g tb D σ H :=
 NK Pv f (λi σ H e p=>iU.of (d i σ H e p)) c hd
def CStep (g:TG)(e:TT)(f:TE)(x:V)(a:List V)(σ:St)(H:Hp)(N:List V->St->Hp->Prop):Prop :=
 g x σ H λc i=>e c i λb d=>if b=true then f c d λy h=>a.length<sizeLine/\N (a++[y]) c h else N a c d
theorem oF {J:It}{n:Nat}(Pv:Nat->List V->St->Hp->Prop)(j:Pv 0 [] σ H)
  (h:∀i c σ H,i<n->Pv i c σ H->J.go i H/\∀x H',J.yld i H x H'->CStep g tt te x c σ H' (Pv (i+1)))
  (hd:∀c σ H,Pv n c σ H->J.stop n H/\∀p,H p=none->Q (.ref p) (upd H p (.lst c))):qK J g tt te Q σ H:=by
 refine⟨λi m c σ H=>m=n - i/\i<=n/\Pv i c σ H,⟨n,by simp,au _,j⟩,?_⟩;rintro i m c σ H ⟨rfl,l,p⟩;by_cases d:i<n
 ·obtain⟨go,step⟩:=h i c σ H d p;refine .inr ⟨go,λx H' y=>?_⟩;have e:∀c σ H,(∃f,f<n - i/\f=n - (i+1)/\i+1<=n/\Pv (i+1) c σ H)=Pv (i+1) c σ H:=λc σ H=>propext ⟨λ⟨_,_,_,_,q⟩=>q,λq=>⟨n - (i+1),by omega,rfl,d,q⟩⟩;simp only[e];exact step x H' y
 ·have e:i=n:=by omega
  subst e;obtain⟨a,b⟩:=hd c σ H p;exact .inl ⟨a,b⟩
theorem pZ {b:Int}{n:Nat}(Pv:Nat->List V->St->Hp->Prop)(e:Pv 0 [] σ H)(d:∀i a σ H,i<n->Pv i a σ H->CStep g tt te (.int (b+i)) a σ H (Pv (i+1)))
  (hd:∀a σ H,Pv n a σ H->∀p,H p=none->Q (.ref p) (upd H p (.lst a))):qK (N7 b n) g tt te Q σ H :=
 oF Pv e (λi a σ H c p=>⟨c,λx H' y=>by obtain⟨rfl,rfl⟩:=y;exact d i a σ _ c p⟩) λa σ H p=>⟨ae _,hd a σ H p⟩
theorem CP {a:Addr}(xs:List V)(Pv:Nat->List V->St->Hp->Prop)(f:Pv 0 [] σ H)(c:∀i b σ H,i<=xs.length->Pv i b σ H->H a=some (.lst xs))
  (e:∀i x b σ H,xs[i]?=some x->Pv i b σ H->CStep g tt te x b σ H (Pv (i+1))) (hd:∀b σ H,Pv xs.length b σ H->∀p,H p=none->Q (.ref p) (upd H p (.lst b))):qK (OO K a) g tt te Q σ H :=
 oF (n:=xs.length) Pv f (λi b σ H d p=>⟨⟨xs,xs[i],eH.of (c i b σ H (Nat.le_of_lt d) p),by simp[d]⟩,λx H' y=>by obtain⟨rfl,y⟩:=y;exact e i x b σ _ (y xs (eH.of (c i b σ _ (Nat.le_of_lt d) p))) p⟩)
  λb σ H p=>⟨⟨xs,eH.of (c _ b σ H (ae _) p),ae _⟩,hd b σ H p⟩
theorem G8 {a:Addr}(xs:List V)(Pv:Nat->List V->St->Hp->Prop)(f:Pv 0 [] σ H)(c:∀i b σ H,i<=xs.length->Pv i b σ H->H a=some (.tup xs))
  (e:∀i x b σ H,xs[i]?=some x->Pv i b σ H->CStep g tt te x b σ H (Pv (i+1))) (hd:∀b σ H,Pv xs.length b σ H->∀p,H p=none->Q (.ref p) (upd H p (.lst b))):qK (ON K a) g tt te Q σ H :=
 oF (n:=xs.length) Pv f (λi b σ H d p=>⟨⟨xs,xs[i],iU.of (c i b σ H (Nat.le_of_lt d) p),by simp[d]⟩,λx H' y=>by obtain⟨rfl,y⟩:=y;exact e i x b σ _ (y xs (iU.of (c i b σ _ (Nat.le_of_lt d) p))) p⟩)
  λb σ H p=>⟨⟨xs,iU.of (c _ b σ H (ae _) p),ae _⟩,hd b σ H p⟩
theorem w8 {n:Nat}{i:Int}(b:0<=i)(a:i<n):ixN n i=some i.toNat:=by unfold ixN;rw[aj b,aj a]
theorem sV {α:Type}{xs:List α}{i:Int}(b:0<=i)(a:i<xs.length):atI xs i=xs[i.toNat]?:=by unfold atI;rw[w8 b a];rfl
theorem atI_zero {α:Type}{a:α}{xs:List α}:atI (a::xs) 0=some a:=by rw[sV (by decide) (by simp only[ap];omega)];rfl
theorem atI_one {α:Type}{a b:α}{xs:List α}:atI (a::b::xs) 1=some b:=by rw[sV (by decide) (by simp only[ap];omega)];rfl
theorem ixN_zero {n:Nat}:ixN (n+1) 0=some 0:=by rw[w8 (by decide) (by omega)];rfl
theorem ixN_one {n:Nat}:ixN (n+1+1) 1=some 1:=by rw[w8 (by decide) (by omega)];rfl
end
theorem aF.upd {H:Hp}{a:Addr}{o:HO}(h:H a=none):aF H (upd H a o):=λb u e=>by rw[aC (aE e h)];exact e
def eE (p:Addr)(H H':Hp):Prop:=∀b o,b≠p->H b=some o->H' b=some o
theorem eE.refl (p:Addr)(H:Hp):eE p H H:=λ_ _ _ h=>h
theorem eE.trans {p:Addr}{H e d:Hp}(a:eE p H e)(b:eE p e d):eE p H d:=λc o n h=>b c o n (a c o n h)
theorem eE.upd (p:Addr)(H:Hp)(o:HO):eE p H (upd H p o):=λc u n h=>by rw[aC n];exact h
theorem eE.new {p a:Addr}{H:Hp}{o:HO}(h:H a=none):eE p H (L2.upd H a o):=λc u n e=>by rw[aC (aE e h)];exact e
theorem aF.but {p:Addr}{H H':Hp}(s:aF H H'):eE p H H':=λb o _ h=>s b o h
end L2
namespace L2
open PySem PySem.Spec PyProof.Rows PyProof.Rows.LSm
section
variable {X:Cx}
theorem p9:∀{bs:List Bool} {us:bQ},aT (bs.map V.bl) us->BoolsAre us bs
 | [],_,r=>by cases r;exact .nil
 | b::bs,_,r=>by
  cases r with
  | cons r1 a=>cases r1;exact .cons b (p9 a)
theorem CF {prog:Program}{w:World}{A:Around}{E:cJ}{s:Shared}{p:Addr}{its:bQ}{bs:List Bool}(d:Bool){K:Bool->Shared->Prop}{a:Nat->(Nat->Bool)->Bool}(m:A.handled=none)(at_:s.heap.IsList p its.toArray)(f:BoolsAre its bs)
  (k:∀h' tk,(∀b x,s.heap.get? b=some x->h'.get? b=some x)->K (a bs.length λi=>(bs[i]?).getD d) {s with heap:=h',toks:=tk}) :
  wpAny (model prog w) A (pyIter (.ref p)) (λit t=>∃I o h n P St tr,it = .ref I/\Walks prog w A I o h n P St/\St 0 t.heap/\TruthOf prog w A P tr /\
   ∀h' tk,(∀b x,b∉h->t.heap.get? b=some x->h'.get? b=some x)->K (a n tr) {t with heap:=h',toks:=tk}) E s:=by
 have ne:p≠s.heap.objs.size:=let⟨_,e,_⟩:=id at_;bi (az e);have c:TruthOf prog w A (λi v=>its.toArray[i]?=some v) λi=>(bs[i]?).getD d:=by intro i v t Q X j g;obtain⟨b,is,rfl⟩:=LSm.BoolsAre.get f i v (by simpa using j);have g:Q ((bs[i]?).getD d) t:=g;rw[is]at g;exact wpAny_truthy_bool g
 have len:its.toArray.size=bs.length:=(ai ..).trans (LSm.BoolsAre.length f);refine wpAny_pyIter_list at_ ⟨_,_,_,_,_,_,_,rfl,Walks.list m s.heap.objs.size p ne its.toArray,?_,c,λh' tk l=>?_⟩
 ·exact aI ⟨_,ar _ rfl,rfl,rfl⟩ (at_.push _)
 ·rw[len];exact k h' tk (LSm.kept_iter l)
def rAll:List V->Hp->VK->Prop:=λxs H Q=>∃(p:Addr) (bs:List Bool),xs=[.ref p]/\H p=some (.lst (bs.map V.bl))/\Q (.bl (bs.all id)) H
def rAny:List V->Hp->VK->Prop:=λxs H Q=>∃(p:Addr) (bs:List Bool),xs=[.ref p]/\H p=some (.lst (bs.map V.bl))/\Q (.bl (bs.any id)) H
def rSum:List V->Hp->VK->Prop:=λxs H Q=>∃(p:Addr) (ns:List Int),xs=[.ref p]/\H p=some (.lst (ns.map V.int))/\Q (.int ns.sum) H
theorem sU (m:X.calm=true){nm:String}{c:Nat->(Nat->Bool)->Bool}{a:List Bool->Bool}(d:Bool)(is:∀bs:List Bool,c bs.length (λi=>(bs[i]?).getD d)=a bs)
  (ask:∀{s:Shared} {x:Value} {Q E:cJ},wpAny (model X.prog X.w) X.A.in1 (pyIter x) (λit t=>∃I o g n P St tr,it = .ref I/\Walks X.prog X.w X.A.in1 I o g n P St/\St 0 t.heap/\TruthOf X.prog X.w X.A.in1 P tr /\
   ∀h' tk,(∀b x,b∉g->t.heap.get? b=some x->h'.get? b=some x)->Q (.bool (c n tr)) {t with heap:=h',toks:=tk}) E s->wpAny (model X.prog X.w) X.A (call (.builtin nm) [x]) Q E s) :
  dN X (.builtin nm) λxs H Q=>∃(p:Addr) (bs:List Bool),xs=[.ref p]/\H p=some (.lst (bs.map V.bl))/\Q (.bl (a bs)) H:=by
 rintro f s σ H _ us Q I r ⟨p,bs,rfl,j,q⟩;obtain⟨u,rfl,e⟩:=vals1 r;cases e;obtain⟨its,h,pl,_⟩:=I.list (eH.of j);refine ask (CF (K:=λb t=>EP X f σ Q (.bool b) t) d (show X.A.in1.handled=none from I.ok.hd m) pl.isList (p9 h) λh' tk l=>?_);rw[is bs];exact⟨.bl (a bs),H,I.kept (t':=tk) l,rfl,q⟩
theorem lU (a:X.calm=true):dN X (.builtin "all") rAll:=sU a true LSm.range_all call_all_walk
theorem HE (a:X.calm=true):dN X (.builtin "any") rAny:=sU a false LSm.range_any call_any_walk
end
end L2
namespace L2
open PySem PySem.Spec PyProof.Rows
noncomputable def S9 (K:PySem.W.Frag)(a b:Addr):It :=
 ⟨λi H=>∃xs c x y,eH K H a xs/\eH K H b c/\xs[i]?=some x/\c[i]?=some y,
  λi H z H'=>∃T x y,z = .ref T/\H T=none/\H'=upd H T (.tup [x,y])/\∀xs c,eH K H a xs->eH K H b c->xs[i]?=some x/\c[i]?=some y,
  λi H=>∃xs c,eH K H a xs/\eH K H b c/\(xs.length<=i∨c.length<=i)⟩
section
variable {X:Cx}{elts:mJ}{tk0:_}{tpos:Pos}
def iZip (K:PySem.W.Frag)(e:TA):TI:=λσ H R=>e σ H λvs c=>∃a b,vs=[.ref a,.ref b]/\(∃xs,eH K c a xs)/\(∃d,eH K c b d)/\R (S9 K a b) c
end
def Q4 (J:It)(g:TG)(f:TT)(h:TE)(Fin:List V->St->Hp->Prop)(W:CW):Prop:=∀i m a σ H,W i m a σ H ->
 (J.stop i H/\Fin a σ H) ∨
 (J.go i H/\∀x H',J.yld i H x H'->g x σ H' λd l=>f d l λb e =>
  if b=true then h d e λy j=>a.length<sizeLine/\∃c,c<m/\W (i+1) c (a++[y]) d j else ∃c,c<m/\W (i+1) c a d e)
def TD (J:It)(g:TG)(b:TT)(c:TE)(Fin:List V->St->Hp->Prop)(a:List V)(σ:St)(H:Hp):Prop:=∃W:CW,(∃m,W 0 m a σ H)/\Q4 J g b c Fin W
def LL (J:It)(l:TG)(c:TI)(j:TG)(g:TT)(h:TE)(Q:VK)(σ:St)(u:Hp):Prop:=∃W:CW,(∃m,W 0 m [] σ u)/\∀i m a σ H,W i m a σ H ->
 (J.stop i H/\∀p,H p=none->Q (.ref p) (upd H p (.lst a))) ∨
 (J.go i H/\∀x H',J.yld i H x H'->l x σ H' λd s=>c d s λo r=>TD o j g h (λb f q=>∃e,e<m/\W (i+1) e b f q) a d r)
def O5 (src:List (Option Nat))(b:TI)(f:TG)(a:TI)(e:TG)(c:TT)(d:TE):TE:=λσ H Q=>b σ H λJ g=>LL J f a e c d Q (stC src σ) g
end L2
namespace L2
open PySem PySem.Spec PyProof.Rows
open PySem.AutoSeq1 (wpAny_loadPart')
open PySem.MeetsSeq PySem.MeetsSeq2 PySem.MeetsSeq3
def C9 (items:i8)(i:Nat)(ns:List Int):Prop:=i<=items.size/\IntsAre (items.toList.drop i) ns
theorem C9.end_ {items:i8}{i:Nat}(h:C9 items i []):items.size=i/\items[i]?=none:=by obtain⟨b,a⟩:=h;have e:=a.length;rw[bq,bj,List.length_nil]at e;exact⟨by omega,Array.getElem?_eq_none (by omega)⟩
theorem C9.next {items:i8}{i:Nat}{a:Int}{ns:List Int}(h:C9 items i (a::ns)):i<items.size/\(∃t,items[i]?=some (.int a t))/\C9 items (i+1) ns:=by
 obtain⟨f,b⟩:=h;generalize e:items.toList.drop i=us at b;cases b with
 | cons _ t r =>
  have lt:i<items.toList.length:=by have z:=congrArg List.length e;rw[bq,ap]at z;omega
  rw[List.drop_eq_getElem_cons lt]at e;injection e with d c;rw[bj]at lt;refine⟨lt,⟨t,?_⟩,lt,c ▸ r⟩;rw[Array.getElem?_eq_getElem lt,←d];rfl
abbrev xT (l b:Addr)(ol ob:Obj)(xs ys:List Int):PySem.Spec:=λ_ R s=>s.heap.get? l=some ol/\s.heap.get? b=some ob/\R (.ok (.ret (.bool (HT.lexLt xs ys)))) s
noncomputable abbrev ltAsk (l b:Addr)(i:Nat):Args:=⟨[.ref l,.ref b,rawInt i,rawInt 0],[]⟩
theorem y7 {l b:Addr}{c d:Obj}{xs a:List Int}{i:Nat}{prog:Program}{w:World}{A:Around}{R:Result->Shared->Prop}{s:Shared}(m:Meets (Builtin.«list.__eq__.loop» (ltAsk l b i)) (xT l b c d xs a))(h:xT l b c d xs a A R s) :
  (Code.builtin "list.__eq__.loop" (ltAsk l b i)).quiet=true/\codeAny (model prog w) A (.builtin "list.__eq__.loop" (ltAsk l b i)) R s:=by
 refine⟨plainId_quiet plain_eq_loop (ltAsk l b i),codeAny_builtin entry_eq_loop ?_⟩;have u:=A.under_plainId plain_eq_loop (ltAsk l b i);rw[u];exact m prog w A R s h
theorem D8 (l b:Addr)(us vs:i8)(n k:Nat)(H G:Option Addr)(F E:Array (Option Value)):∀(xs m:List Int) (i:Nat),C9 us i xs->C9 vs i m ->
  Meets (Builtin.«list.__eq__.loop» (ltAsk l b i)) (xT l b {cls:=.type "list",dict:=H,data:=.seq us n,slots:=F} {cls:=.type "list",dict:=G,data:=.seq vs k,slots:=E} xs m)
 | [],m,i,f,g=>by
  rintro prog w A R ⟨v,B,d,tk,os⟩ ⟨a,c,h⟩;obtain⟨z,C⟩:=f.end_;have j:HT.lexLt [] m=decide (us.size<vs.size):=by
   cases m with
   | nil=>exact(bg (by rw[z,(g.end_).1];exact bx _)).symm
   | cons y r=>exact(bd (by rw[z];exact(g.next).1)).symm
  rw[j]at h
  wp_walk using bc a,bc c
  rw[show((i:Nat):Int).toNat=i from rfl,C];cases vs[i]? <;> wp_walk using bc a,bc c <;> exact h
 | x::xs,[],i,f,g=>by
  rintro prog w A R ⟨v,B,d,tk,os⟩ ⟨a,c,h⟩;obtain⟨z,C⟩:=g.end_;obtain⟨lt,⟨t,is⟩,_⟩:=f.next
  have j:HT.lexLt (x::xs) []=decide (us.size<vs.size):=(bg (by omega)).symm;rw[j]at h
  wp_walk using bc a,bc c
  rw[show((i:Nat):Int).toNat=i from rfl,C,is]
  wp_walk using bc a,bc c
  exact h
 | x::xs,y::m,i,f,g=>by
  have go:=D8 l b us vs n k H G F E xs m (i+1) (f.next).2.2 (g.next).2.2;rintro prog w A R ⟨v,B,d,tk,os⟩ ⟨a,c,h⟩;obtain⟨_,⟨t,s⟩,_⟩:=f.next
  obtain⟨_,⟨t',isV⟩,_⟩:=g.next
  wp_walk using bc a,bc c
  rw[show((i:Nat):Int).toNat=i from rfl,s,isV];obtain⟨e,o,iff⟩:=HT.eqAt_int A.in1 ⟨v,B,d,tk,os⟩ x t y t';refine aa (o prog w _ _ ?_);by_cases u:x=y
  ·rw[HT.lexLt_cons,aj u]at h;rw[iff.mpr u]
   wp_walk
   exact y7 go ⟨a,c,h⟩
  ·rw[HT.lexLt_cons,ac u]at h;have I:e=false:=by cases e with|false=>rfl|true=>exact absurd (iff.mp rfl) u
   subst I;have q:=HT.rcLt_int A.in1 ⟨v,B,d,tk,os⟩ x t y t' prog w
   wp_walk using bc a,bc c
   rw[s,isV]
   wp_walk using q
   exact h
theorem wT (l b:Addr)(us vs:i8)(n k:Nat)(j i:Option Addr)(g f:Array (Option Value))(xs e:List Int)(o:IntsAre us.toList xs)(m:IntsAre vs.toList e) :
  Meets (Builtin.«list.__lt__» ⟨[.ref l,.ref b],[]⟩) (xT l b {cls:=.type "list",dict:=j,data:=.seq us n,slots:=g} {cls:=.type "list",dict:=i,data:=.seq vs k,slots:=f} xs e):=by
 have go:=D8 l b us vs n k j i g f xs e 0 ⟨au _,o⟩ ⟨au _,m⟩;rintro prog w A R ⟨q,r,d,tk,os⟩ ⟨a,c,h⟩;have kind:=AutoSeq1.sub_list_list
 wp_walk using bc a,bc c
 exact y7 go ⟨a,c,h⟩
section
variable {prog:Program}{w:World}{A:Around}{E:cJ}{s:Shared}
theorem y6 {l b:Addr}{items a:i8}{ns ms:List Int}{Q:cJ}(r:s.heap.IsList l items)(z:s.heap.IsList b a)(v:IntsAre items.toList ns)(u:IntsAre a.toList ms)
  (q:A.units<cLine) (h:Q (.bool (HT.lexLt ns ms)) s):wpAny (model prog w) A (compareOp .Lt (.ref l) (.ref b)) Q E s:=by
 obtain⟨⟨cls,dd,data,o⟩,ho,j,n,hd⟩:=id r;obtain⟨⟨m,g,i,f⟩,c,e,n2,d⟩:=id z;simp only at j hd e d;subst j hd e d;exact richCompare_meets_room (op:=.Lt) ⟨_,ho,rfl⟩ ⟨_,c,rfl⟩ PySem.F.slot_list_lt PySem.F.entry_list_lt (PySem.F.args_list_lt_2 _ _) (wT l b items a n n2 dd g o f ns ms v u)
  ⟨ho,c,show Value.bool (HT.lexLt ns ms)≠Value.notImplemented/\Q (.bool (HT.lexLt ns ms)) s from⟨(λx=>nomatch x),h⟩⟩ q
end
section
variable {X:Cx}
def rLtL:R2:=λx y H Q=>∃a b ns ms,x = .ref a/\y = .ref b/\H a=some (.lst (ns.map V.int))/\H b=some (.lst (ms.map V.int))/\Q (.bl (HT.lexLt ns ms)) H
theorem PX (m:X.A.units<cLine):iM X (compareOp .Lt) rLtL:=by intro c s σ H x y v u Q I e d h;obtain⟨a,b,ns,ms,rfl,rfl,r,o,q⟩:=h;cases e;cases d;obtain⟨its,r1,i,_⟩:=I.list (eH.of r);obtain⟨its2,f,g,_⟩:=I.list (eH.of o);have l:IntsAre its.toArray.toList ns:=sK r1;have j:IntsAre its2.toArray.toList ms:=sK f;exact y6 i.isList g.isList l j m ⟨.bl (HT.lexLt ns ms),H,I,rfl,q⟩
end
end L2
namespace L2
open PySem PySem.Spec PyProof.Rows
section
variable {X:Cx}{pos:Pos}
theorem MC {i j:Nat}{x y:Str}{e d:Pos}{k:_}(h:X.calm=true)(c:X.N.Nodup)(g:X.N[i]?=some x)(f:X.N[j]?=some y)(b:X.env.scope.names.lookup x=some .local)(a:X.env.scope.names.lookup y=some .local) :
  PG X (.Tuple [.Name x e,.Name y d] k pos) (gTup X.K 2 (gCons (gName i) (gCons (gName j) gNil))) :=
 JA h (nV (bA c g (.inl b) (.inr b)) (nV (bA c f (.inl a) (.inr a)) DX))
end
section
variable {g g1 g2:TG}{tb:TS}{D:iJ}{σ:St}{H:Hp}{tt:TT}{te:TE}{Q:VK}{K:PySem.W.Frag}{wi2:TI}{acc:List V}{Fin:List V->St->Hp->Prop}
theorem tComp2_eq {src:List (Option Nat)}{a:TI}{σ:St}{H:Hp}{Q:VK}:O5 src a g1 wi2 g2 tt te σ H Q=a σ H λJ b=>LL J g1 wi2 g2 tt te Q (stC src σ) b:=rfl
end
section
variable {X:Cx}
theorem r9 (a:X.A.units+64<cLine):iM X (compareOp .Lt) (λx y H Q=>(rI0 (λi j=>.bl (decide (i<j))) x y H Q∨(∃i j,x = .str i/\y = .str j/\Q (.bl (decide (i.cps.toList<j.cps.toList))) H))∨rLtL x y H Q) :=
 (RD.or F9).or (PX (by omega))
end
section
variable {H:Hp}{a p:Addr}{xs:List V}{Q:VK}{K:PySem.W.Frag}
theorem rIs_eq {x c:V}:rIs [x,c] H Q = ∃b,isV H x c=some b/\Q (.bl b) H:=propext ⟨λ⟨a,d,b,e,h,q⟩=>by cases e;exact⟨b,h,q⟩,λ⟨b,h,q⟩=>⟨x,c,b,rfl,h,q⟩⟩
theorem truV_bl {b k:Bool}:LE K (.bl b) H k=(k=b):=rfl
theorem isV_ii {n:Int}:isV H (.int n) (.ty "int")=some true:=rfl
theorem isV_ib {n:Int}:isV H (.int n) (.ty "bool")=some false:=rfl
theorem isV_bb {n:Bool}:isV H (.bl n) (.ty "bool")=some true:=rfl
theorem isV_ll (h:H a=some (.lst xs)):isV H (.ref a) (.ty "list")=some true:=by unfold isV tyN;simp only[h];rfl
theorem KK (h:H a=some (.lst xs))(b:H p=some (.tup [.ty "list",.ty "tuple"])):isV H (.ref a) (.ref p)=some true:=by unfold isV tyN clsV;simp only[h,b];rfl
theorem KJ (h:H a=some (.tup xs))(b:H p=some (.tup [.ty "list",.ty "tuple"])):isV H (.ref a) (.ref p)=some true:=by unfold isV tyN clsV;simp only[h,b];rfl
theorem lenV_l (h:H a=some (.lst xs)):lenV H (.ref a)=some xs.length:=by unfold lenV;simp only[h]
theorem lenV_t (h:H a=some (.tup xs)):lenV H (.ref a)=some xs.length:=by unfold lenV;simp only[h]
theorem seqV_l (h:H a=some (.lst xs)):seqV H (.ref a)=some xs:=by unfold seqV;simp only[h]
theorem seqV_t (h:H a=some (.tup xs)):seqV H (.ref a)=some xs:=by unfold seqV;simp only[h]
theorem ixV_l {i:Int}(h:H a=some (.lst xs)):ixV H (.ref a) (.int i)=atI xs i:=by unfold ixV;simp only[h]
theorem ixV_t {i:Int}(h:H a=some (.tup xs)):ixV H (.ref a) (.int i)=atI xs i:=by unfold ixV;simp only[h]
end
section
def eV (H:Hp)(a:Addr)(xs:List V):Prop:=H a=some (.lst xs)∨H a=some (.tup xs)
theorem eV.same {H H':Hp}{a:Addr}{xs:List V}(h:eV H a xs)(s:aF H H'):eV H' a xs:=h.elim (λe=>.inl (s _ _ e)) λe=>.inr (s _ _ e)
variable {g:TG}{tt:TT}{te:TE}{Q:VK}{K:PySem.W.Frag}{σ:St}{H:Hp}
variable {tb:TS}{D:iJ}
end
section
variable {X:Cx}{pos:Pos}{tg:Expr}
theorem gL (K:PySem.W.Frag)(l:X.K=K){i j:Nat}{x y:Str}{b a:Pos}{k:_}(g:X.calm=true)(h:X.N.Nodup)(f:X.N[i]?=some x)(e:X.N[j]?=some y)(d:X.env.scope.names.lookup x=some .local)(c:X.env.scope.names.lookup y=some .local) :
  PG X (.Tuple [.Name x b,.Name y a] k pos) (gTup K 2 (gCons (gName i) (gCons (gName j) gNil))):=by subst l;exact MC g h f e d c
def tTruth (K:PySem.W.Frag)(b:TE):TT:=λσ H Q=>b σ H λx a=>∃k,LE K x a k/\Q k a
theorem aP (K:PySem.W.Frag)(f:X.K=K){a:Expr}{c:TE}(e:PE X a c)(d:∀b,isTrue a X.env b=(do let v ←b;standAt a.pos;holding [v] (truthy v))):PT X a (tTruth K c):=by subst f;exact IY e d
end
def LJ (K:PySem.W.Frag)(a:Addr)(xs:List V)(J:It)(H:Hp):Prop:=(J=OO K a/\H a=some (.lst xs))∨(J=ON K a/\H a=some (.tup xs))
def iSq (K:PySem.W.Frag)(tl:TE):TI:=λσ H R=>tl σ H λx b=>∃a xs,x = .ref a/\eV b a xs/\∀J,LJ K a xs J b->R J b
section
variable {X:Cx}{tg:Expr}
theorem cE (K:PySem.W.Frag)(z:X.K=K){l:Expr}{tl:TE}(w:PE X l tl):PI X tg l (iSq K tl):=by
 subst z;intro f s σ H R I h;refine thn (w f s σ H _ I h) λv c ⟨x,j,d,r1,r⟩=>?_;obtain⟨a,xs,e,u,q⟩:=r;subst e;cases r1;rcases u with g|g
 ·obtain⟨its,m,p,hz⟩:=d.list (eH.of g);refine wpAny_pyIter_list p.isList ?_;refine⟨c.heap.objs.size,[c.heap.objs.size],_,_,j,rfl,d.kept (t':=c.toks) λb o e=>ag _ e,FK a _,⟨_,ar _ rfl,rfl,rfl⟩,λb i=>?_,q _ (.inl ⟨rfl,g⟩)⟩;have e:b=c.heap.objs.size:=by simpa using i
  subst e;exact d.fpOk (ae _) (d.hok.fresh (ae _))
 ·obtain⟨its,m,p,hz⟩:=d.tuple (iU.of g);refine wpAny_pyIter_tuple (show c.heap.IsTuple a its.toArray from p) ?_;refine⟨c.heap.objs.size,[c.heap.objs.size],_,_,j,rfl,d.kept (t':=c.toks) λb o e=>ag _ e,A0 a _,⟨_,ar _ rfl,rfl,rfl⟩,λb i=>?_,q _ (.inr ⟨rfl,g⟩)⟩;have e:b=c.heap.objs.size:=by simpa using i
  subst e;exact d.fpOk (ae _) (d.hok.fresh (ae _))
end
section
variable {g g1 g2:TG}{tb:TS}{D:iJ}{σ:St}{H:Hp}{tt:TT}{te:TE}{Q:VK}{K:PySem.W.Frag}{wi2:TI}{J:It}{a:Addr}{xs:List V}
theorem gG (j:LJ K a xs J H)(Pv:Nat->St->Hp->Prop)(f:Pv 0 σ H)(d:∀i σ H',i<=xs.length->Pv i σ H'->H' a=H a)
  (c:∀i x σ H,xs[i]?=some x->Pv i σ H->g x σ H λh l=>tb {D with nx:=Pv (i+1),ct:=Pv (i+1),bk:=D.nx} h l) (hd:∀σ H,Pv xs.length σ H->D.nx σ H):tX J g tb D σ H:=by
 rcases j with⟨rfl,e⟩|⟨rfl,e⟩
 ·exact G1 xs Pv f (λi σ H' b p=>(d i σ H' b p).trans e) c hd
 ·exact KQ xs Pv f (λi σ H' b p=>(d i σ H' b p).trans e) c hd
theorem cN (j:LJ K a xs J H)(Pv:Nat->List V->St->Hp->Prop)(h:Pv 0 [] σ H)(f:∀i b σ H',i<=xs.length->Pv i b σ H'->H' a=H a)
  (d:∀i x b σ H,xs[i]?=some x->Pv i b σ H->CStep g tt te x b σ H (Pv (i+1))) (hd:∀b σ H,Pv xs.length b σ H->∀p,H p=none->Q (.ref p) (upd H p (.lst b))):qK J g tt te Q σ H:=by
 rcases j with⟨rfl,e⟩|⟨rfl,e⟩
 ·exact CP xs Pv h (λi b σ H' c p=>(f i b σ H' c p).trans e) d hd
 ·exact G8 xs Pv h (λi b σ H' c p=>(f i b σ H' c p).trans e) d hd
end
def rSlU:V->Option Int->Option Int->Hp->VK->Prop:=λx b c H Q=>∃a xs,x = .ref a/\eV H a xs/\((∃d,H a=some (.tup d))->¬(HT.sIx xs.length 0 b=0/\HT.sIx xs.length xs.length c=xs.length)) /\
 ∀p o,H p=none->(o = .lst (cutV xs b c)/\H a=some (.lst xs)∨o = .tup (cutV xs b c)/\H a=some (.tup xs))->Q (.ref p) (upd H p o)
theorem kM {X:Cx}:RL X rSlU:=by
 intro b s σ H x v f e l o g Q I i m pl j h;obtain⟨a,xs,rfl,c|c,r,q⟩:=h
 ·exact DQ b s σ H _ v f e l o g Q I i m pl j ⟨a,xs,rfl,eH.of c,λp d=>q p _ d (.inl ⟨rfl,c⟩)⟩
 ·exact O7 b s σ H _ v f e l o g Q I i m pl j ⟨a,xs,rfl,iU.of c,r ⟨_,c⟩,λp d=>q p _ d (.inr ⟨rfl,c⟩)⟩
section
variable {H:Hp}{Q:VK}
theorem rEqD_ii {i j:Int}:rEqD (.int i) (.int j) H Q=Q (.bl (decide (i=j))) H:=by
 have e:eqD (.int i) (.int j)=decide (i=j):=by show(i == j)=_;rw[bz];simp
 refine propext ⟨λ⟨d,c,b,a,_,q⟩=>?_,λq=>⟨.int i,.int j,rfl,rfl,au _,by rw[e];exact q⟩⟩;have g:d = .int i:=aX.inj b (show aX H (.int i) (.int i)from rfl);have f:c = .int j:=aX.inj a (show aX H (.int j) (.int j)from rfl);rw[g,f,e]at q;exact q
theorem rNeD_ii {i j:Int}:rNeD (.int i) (.int j) H Q=Q (.bl (!decide (i=j))) H:=by
 have e:eqD (.int i) (.int j)=decide (i=j):=by show(i == j)=_;rw[bz];simp
 refine propext ⟨λ⟨d,c,b,a,_,q⟩=>?_,λq=>⟨.int i,.int j,rfl,rfl,au _,by rw[e];exact q⟩⟩;have g:d = .int i:=aX.inj b (show aX H (.int i) (.int i)from rfl);have f:c = .int j:=aX.inj a (show aX H (.int j) (.int j)from rfl);rw[g,f,e]at q;exact q
theorem rEqD_ss {i j:Str}:rEqD (.str i) (.str j) H Q=Q (.bl (decide (i=j))) H:=by
 have e:eqD (.str i) (.str j)=decide (i=j):=by show(i == j)=_;rw[bz];simp
 refine propext ⟨λ⟨d,c,b,a,_,q⟩=>?_,λq=>⟨.str i,.str j,rfl,rfl,au _,by rw[e];exact q⟩⟩;have g:d = .str i:=aX.inj b (show aX H (.str i) (.str i)from rfl);have f:c = .str j:=aX.inj a (show aX H (.str j) (.str j)from rfl);rw[g,f,e]at q;exact q
theorem rNeD_ss {i j:Str}:rNeD (.str i) (.str j) H Q=Q (.bl (!decide (i=j))) H:=by
 have e:eqD (.str i) (.str j)=decide (i=j):=by show(i == j)=_;rw[bz];simp
 refine propext ⟨λ⟨d,c,b,a,_,q⟩=>?_,λq=>⟨.str i,.str j,rfl,rfl,au _,by rw[e];exact q⟩⟩;have g:d = .str i:=aX.inj b (show aX H (.str i) (.str i)from rfl);have f:c = .str j:=aX.inj a (show aX H (.str j) (.str j)from rfl);rw[g,f,e]at q;exact q
theorem oG {a b:Addr}{xs c:List V}(e:H a=some (.lst xs))(d:H b=some (.lst c))(hz:xs.length+c.length<=sizeLine):catO H (.ref a) (.ref b)=some (.lst (xs++c)):=by unfold catO;simp only[e,d];rw[aj hz]
theorem catO_i {i:Int}{y:V}:catO H (.int i) y=none:=by cases y <;> rfl
theorem catO_s {i:Str}{y:V}:catO H (.str i) y=none:=by cases y <;> rfl
end
def rTupU:List V->Hp->VK->Prop:=λxs H Q=>∃p a,xs=[.ref p]/\eV H p a/\∀l H',(H p=some (.tup a)/\l=p/\H'=H∨H p=some (.lst a)/\H l=none/\H'=upd H l (.tup a))->Q (.ref l) H'
theorem eN {X:Cx}:dN X (.type "tuple") rTupU:=by
 refine tW.imp λxs H Q h=>?_;obtain⟨p,b,rfl,a|a,q⟩:=h
 ·exact⟨p,b,rfl,.inl ⟨eH.of a,λl c=>q l _ (.inr ⟨a,c,rfl⟩)⟩⟩
 ·exact⟨p,b,rfl,.inr ⟨iU.of a,q p _ (.inl ⟨a,rfl,rfl⟩)⟩⟩
def RS (e:Addr)(h:Heap):Prop:=∃o vs,h.get? e=some o/\o.data = .fields vs/\vs[2]?=some .none
section
variable {P:Program}{w:World}{fs:List Addr}{H H':Hp}{h h1 h2 B:Heap}
theorem Un.fly (u:Un fs [] H H' h h1)(l:∀b o,B.get? b=some o->h1.get? b=some o/\h2.get? b=some o)(f:∀b o,h.get? b=some o->b∉fs->∃c,B.get? b=some c)
  (j:∀b∈fs,∀o,h1.get? b=some o->∃s2,h2.get? b=some {o with slots:=s2}):Un fs [] H H' h h2 where
 keep:=λb o e n a d=>by have q:=u.keep b o e n a d;obtain⟨c,i⟩:=f b o e a;obtain⟨k1,k2⟩:=l b c i;rw[q]at k1;cases k1;exact k2
 slot:=λb o e n a d=>by obtain⟨m,q⟩:=u.slot b o e n a d;obtain⟨s2,g⟩:=j b a _ q;exact⟨s2,g⟩
 free:=u.free
 there:=λb o e d=>by
  obtain⟨r,q⟩:=u.there b o e d;by_cases a:b∈fs
  ·obtain⟨s2,g⟩:=j b a _ q;exact⟨_,g⟩
  ·obtain⟨c,i⟩:=f b o e a;exact⟨c,(l b c i).2⟩
 tups:=u.tups
 frzs:=u.frzs
 tbls:=u.tbls
theorem fV.fly (hok:fV P w H' h1)(f:∀b o,B.get? b=some o->h1.get? b=some o/\h2.get? b=some o)(c:∀b u,H' b=some u->∃d,B.get? b=some d):fV P w H' h2:=λa o e =>
 (hok a o e).stay (λb u g q=>by
  obtain⟨d,e'⟩:∃d,B.get? b=some d:=by
   rcases g with z|z
   ·rw[z];exact c a o e
   ·exact c b _ z
  obtain⟨k1,k2⟩:=f b d e';rw[q]at k1;cases k1
  exact k2) (λ_ q=>q) λ_ _ q=>q
theorem IN {l:List Env}(F:h1.FunFrames B l)(u:h1.UpToSlots h2):∀b∈frs l,∀o,h1.get? b=some o->∃s2,h2.get? b=some {o with slots:=s2}:=λb c o e=>by obtain⟨_,f,a,d⟩:=F.mem c;rw[e]at a;cases a;exact u b o e d
end
def SF (P:Program)(w:World):AT:=λouter H s E e s'=>∃(c C:Addr) (a0:Value) (B:Heap) (H':Hp),e = .ref c/\Heap.FlyingW B outer c (.ref C) a0 s'.heap/\RS c s'.heap/\Un (frs outer) [] H H' s.heap s'.heap/\fV P w H' s'.heap/\s'.os=s.os/\AllBare s'.gens /\
 (∀b o,s.heap.get? b=some o->b∉frs outer->∃a,B.get? b=some a)/\(∀b u,H' b=some u->∃a,B.get? b=some a)/\E (.ref C) none H'
def QV (X:Cx)(E:XK):Prop:=∀(a:cZ) (σ:St) (H:Hp) (s:Shared) (h':Heap) (e C:Addr) (us:bQ),aQ X a σ H s->Heap.MadeExcOf s.heap h' e (.ref C) us->E (.ref C) none H->X.xe (.ref e) {s with heap:=h'}
def HP:bQ:=[.type "ValueError",.type "Exception",.type "BaseException",.type "object"]
def AS (K:PySem.W.Frag)(C:Addr):Prop:=PySem.W.excIn K C HP "ValueError.__new__" = true
theorem EU {K:PySem.W.Frag}{h:Heap}{C:Addr}{s:bQ}{g:String}(X:K.In h)(q:PySem.W.excIn K C s g=true) :
  ∃(bm:bQ) (N:Addr) (nm u:Str) (bs:bQ) (hd:Bool) (sn:aN) (sub:bQ) (ab:Bool) (col:Option Bool) (dd:Option Addr) (k0 k1 k2 k3 k5:Option Value) (mN:gX),
   h.get? C=some (excClassObj nm u C N bs bm hd sn sub ab col dd k0 k1 k2 k3 k5 g)/\h.Ns N mN/\mN "__init__" = none/\OwnTail h s bm:=by
 -- the class is looked up once;what else it might be is ruled out by q
 cases found:K.lookup C with
 | none=>simp[PySem.W.excIn,found]at q
 | some o =>
  have m:=X _ _ found;unfold PySem.W.excIn at q;rw[found]at q
  revert q
  split
  next dict cd slots same =>
   cases same;cases cd with
   | mk nm j v ns u i e l abs r del =>
    split
    next C2 rest a b c d new f isMro isSlots =>
     intro q
     repeat rw[Bool.and_eq_true]at q
     obtain⟨⟨⟨⟨⟨H,G⟩,F⟩,E⟩,w⟩,B⟩:=q;have L:=eq_of_beq H;have J:=eq_of_beq G;have I:del=false:=by cases del with|false=>rfl|true=>cases F
     have A:slots=[a,b,c,d,some (.builtin new),f].toArray:=by rw[←isSlots]
     have x:v = .ref C2::rest:=isMro;rw[L]at x;rw[J]at A;subst I A x;exact⟨rest,ns,nm,u,j,i,e,l,abs,r,dict,a,b,c,d,f,_,m,.of_isNs (PySem.W.isNs_of_in X w),PySem.W.nsMap_none_of_in X w (eq_of_beq B),PySem.W.tail_of_in X E⟩
    next=>exact λz=>nomatch z
  next=>exact λz=>nomatch z
section
variable {X:Cx}{x:Str}{C:Addr}{np cpos pos:Pos}{e:Expr}{ta:TA}{E:XK}
def tRaise (C:Addr)(E:XK)(a:TA):TS:=λ_ σ H=>a σ H λvs b=>vs.length<=1000/\E (.ref C) none b
theorem Q9 (A:X.calm=true)(G:QV X E)(w:Gl X x)(u:X.mg x=some (.ref C))(q:AS X.K C)(B:PA X [e] ta)(g:(x == ("__debug__" : Str))=false:=by decide)
  (j:starEach [e] X.env=(false,eval e X.env)::starEach [] X.env:=by rfl) (c:(backTo cpos (starEach [] X.env)).any (·.1)=false:=by rfl):PS X (.Raise (some (.Call (.Name x np) [e] [] cpos)) none pos) (tRaise C E ta):=by
 intro a s σ H D I h;obtain⟨bm,N,nm,o,bs,hdct,sn,sub,ab,col,dd,k0,k1,k2,k3,k5,mN,O,J,d,TL⟩:=EU I.ok.mod.kin q;refine wpAny_Raise_call_subU (C:=C) (nm:=nm) (q:=o) (N:=N) (bs:=bs) (bm:=bm) (hdct:=hdct) (sn:=sn) (sub:=sub) (ab:=ab) (col:=col) (dd:=dd) (k0:=k0) (k1:=k1) (k2:=k2) (k3:=k3) (k5:=k5)
  PySem.F.excBase_ValueError (by decide +kernel) PySem.F.excBase_ValueError (mN:=mN) (TL.hasType (by decide +kernel)) (I.ok.hd A) (by rw[j];show(false || (backTo cpos (starEach [] X.env)).any (·.1))=false;rw[c];rfl) d (j4 I w u ⟨rfl,?_⟩ g)
 have i:=B cpos a s σ H _ I h;rw[j]at i⊢;refine Calls.evalArgs_plain (wpAny_mono i (λvs l r=>?_) λ_ _ y=>y);obtain⟨R,Q,b,m,v,L⟩:=r;refine⟨rfl,?_,b.bk _ _ O,J.keeps b.bk,TL.keeps b.bk,λh' P f=>G a σ Q l h' P C vs b f L⟩;have z:vs.length<=1000:=by rw[←m.length];exact v
 exact ao z (by decide)
end
noncomputable abbrev Cx.mk1 (X:Cx)(e:Value):Cx:={X with A:=X.A.mark (some e),calm:=false,xe:=λ_ _=>False}
noncomputable abbrev Cx.tr (X:Cx)(pn:cZ)(E:cJ):Cx:={X with pn:=pn,xe:=E}
section
variable {X:Cx}{pins:cZ}{σ:St}{H:Hp}{s:Shared}{e:Value}
theorem Cx.Ok.mk1 (ok:X.Ok)(e:Value):(X.mk1 e).Ok :=
 ⟨ok.mod,ok.kind,ok.glob,ok.blt,ok.above,ok.inj,ok.has,ok.cab,λh=>Bool.noConfusion h,ok.frames,ok.stk,ok.exf,ok.bs,ok.bsz,ok.noex,ok.exfs,ok.funs,ok.frf⟩
theorem Cx.Ok.tr (ok:X.Ok)(pn:cZ)(E:cJ):(X.tr pn E).Ok :=
 ⟨ok.mod,ok.kind,ok.glob,ok.blt,ok.above,ok.inj,ok.has,ok.cab,ok.hd,ok.frames,ok.stk,ok.exf,ok.bs,ok.bsz,ok.noex,ok.exfs,ok.funs,ok.frf⟩
theorem aQ.mk1 (I:aQ X pins σ H s)(e:Value):aQ (X.mk1 e) pins σ H s:=⟨I.ok.mk1 e,I.os,I.bare,I.base,I.loc,I.cell,I.free,I.freeC,I.pin,I.hok,I.len⟩
theorem aQ.unmk1 (ok:X.Ok)(I:aQ (X.mk1 e) pins σ H s):aQ X pins σ H s:=⟨ok,I.os,I.bare,I.base,I.loc,I.cell,I.free,I.freeC,I.pin,I.hok,I.len⟩
theorem aQ.tr (I:aQ X pins σ H s)(E:cJ):aQ (X.tr (X.pn++pins) E) [] σ H s:=⟨I.ok.tr _ E,I.os,I.bare,I.base,I.loc,I.cell,I.free,I.freeC,λp a=>I.pin p (by simpa using a),I.hok,I.len⟩
theorem aQ.untr {E:cJ}{pl:cZ}(ok:X.Ok)(I:aQ (X.tr (X.pn++pins) E) pl σ H s):aQ X pins σ H s:=⟨ok,I.os,I.bare,I.base,I.loc,I.cell,I.free,I.freeC,λp a=>I.pin p (bS _ a),I.hok,I.len⟩
theorem SP.unmk1 {D:iJ}{f:Flow}{s':Shared}(ok:X.Ok)(h:SP (X.mk1 e) pins D f s'):SP X pins D f s':=by
 cases f with
 | next=>obtain⟨σ,H,I,q⟩:=h;exact⟨σ,H,I.unmk1 ok,q⟩
 | brk=>obtain⟨σ,H,I,q⟩:=h;exact⟨σ,H,I.unmk1 ok,q⟩
 | cont=>obtain⟨σ,H,I,q⟩:=h;exact⟨σ,H,I.unmk1 ok,q⟩
 | ret v=>obtain⟨x,σ,H,I,r,q⟩:=h;exact⟨x,σ,H,I.unmk1 ok,r,q⟩
theorem SP.untr {D:iJ}{f:Flow}{s':Shared}{E:cJ}{pl:cZ}(ok:X.Ok)(h:SP (X.tr (X.pn++pins) E) pl D f s'):SP X pins D f s':=by
 cases f with
 | next=>obtain⟨σ,H,I,q⟩:=h;exact⟨σ,H,I.untr ok,q⟩
 | brk=>obtain⟨σ,H,I,q⟩:=h;exact⟨σ,H,I.untr ok,q⟩
 | cont=>obtain⟨σ,H,I,q⟩:=h;exact⟨σ,H,I.untr ok,q⟩
 | ret v=>obtain⟨x,σ,H,I,r,q⟩:=h;exact⟨x,σ,H,I.untr ok,r,q⟩
end
section
variable {X:Cx}{x:Str}{C:Addr}{np hp pos:Pos}{EX:XK}{b0:Stmt}{suite body:List Stmt}{tb th:TS}
theorem G9 {a:cZ}{σ:St}{H:Hp}{s l:Shared}{e:Value}{D:iJ}(c:X.stack=X.env::X.outer/\X.env.frame=some X.env.locals)(hg:Gl X x)(hm:X.mg x=some (.ref C))(q:AS X.K C)
  (hh:∀e,AJ (X.mk1 e) (b0::suite) th) (O:∀cls d H',EX cls d H'->cls = .ref C) (I:aQ X a σ H s) (cx:SF X.prog X.w X.stack H s EX e l) (Z:∀cls d H',EX cls d H'->th D σ H') (L:(x == ("__debug__" : Str))=false) :
  wpAny (model X.prog X.w) X.A (noteFrame e X.env) (λ_ Y=>wpAny (model X.prog X.w) X.A (setFlight e none) (λ_ W=>wpAny (model X.prog X.w) X.A (handleBy e X.env [.ExceptHandler (some (.Name x np)) none (b0::suite) hp]) (SP X a D) X.xe W) X.xe Y) X.xe l:=by
 obtain⟨E,C',a0,B,H',rfl,g,_,un,hok,os,bare,Q,v,S⟩:=cx;have eC:=O _ _ _ S;cases eC;have J:X.A.frames=some (X.env::X.outer):=by rw[←c.1];exact I.ok.frames
 rw[c.1]at g;have U:∀h,Heap.FlyingW B (X.env::X.outer) E (.ref C) a0 h->l.heap.UpToSlots h->aQ X a σ H' {l with heap:=h}:=λh fl sm=>by
  have R:∀b o,B.get? b=some o->l.heap.get? b=some o/\h.get? b=some o:=λb o z=>⟨g.1 b o z,fl.1 b o z⟩
  refine I.call' (s':={l with heap:=h}) (ch:=[]) os (un.fly R Q λb hb o z=>IN g.2.2.1 sm b (by rw[←c.1];exact hb) o z) (hok.fly R v) bare λb z=>absurd z (by simp)
 refine wpAny_looks_onW J c.2 g λh4 i r=>?_;refine wpAny_landsW i λh5 j m=>?_;have T:=(U h5 j (r.trans m)).mk1 (.ref E);obtain⟨ob,G,u⟩:=j.there;refine wpAny_handleBy_cons (codeAny_handlers_test (j4 T hg hm ?_ L)) (by intro z;cases z);obtain⟨bm,N,nm,qn,bs,hdct,sn,sub,ab,col,dd,k0,k1,k2,k3,k5,mN,hC,hN,hni,TL⟩:=EU T.kIn q;refine wpAny_excMatches_sub_self hC G u (TL.hasType (by decide +kernel)) (codeAny_handlers_suite ?_);refine lands_againW j λh P F=>?_;have I6':=U h P ((r.trans m).trans F);refine wpAny_mono (hh (.ref E) a _ σ H' D (I6'.mk1 (.ref E)) (Z _ _ _ S)) (λf s2 h2=>?_) λ_ _ z=>False.elim z;exact SP.unmk1 I.ok h2
def tTry (c:TS)(EX:XK)(b:TS):TS:=λD σ H=>c D σ H/\∀cls d a H',EX cls d H'->b D a H'
theorem PD (EX:XK)(c:X.stack=X.env::X.outer/\X.env.frame=some X.env.locals)(G:Gl X x)(E:X.mg x=some (.ref C))(q:AS X.K C)(j:∀cls d H',EX cls d H'->cls = .ref C)
  (J:∀pn Ew,iF (SF X.prog X.w) (X.tr pn Ew) EX->AJ (X.tr pn Ew) body tb) (F:∀e,AJ (X.mk1 e) (b0::suite) th) (g:(x == ("__debug__" : Str))=false:=by decide) :
  PS X (.Try body [.ExceptHandler (some (.Name x np)) none (b0::suite) hp] [] [] pos) (tTry tb EX th):=by
 intro a s σ H D I h;obtain⟨i,B⟩:=h;refine wpAny_Try_except ?_;have L:iF (SF X.prog X.w) (X.tr (X.pn++a) λe r=>wpAny (model X.prog X.w) X.A (noteFrame e X.env) (λ_ o=>wpAny (model X.prog X.w) X.A (setFlight e none) (λ_ m=>wpAny (model X.prog X.w) X.A (handleBy e X.env [.ExceptHandler (some (.Name x np)) none (b0::suite) hp]) (SP X a D) X.xe m) X.xe o) X.xe r) EX:=by intro pl l Q u e s2 P O;exact G9 c G E q F j (P.untr I.ok) O (λcls d H' z=>B cls d l H' z) g
 refine wpAny_mono (J _ _ L [] s σ H D (I.tr _) i) (λf u N=>?_) λ_ _ z=>z;have b:=SP.untr I.ok N;cases f with
 | next=>exact wpAny_execs_nil b
 | brk=>exact b
 | cont=>exact b
 | ret v=>exact b
end
noncomputable def TB (K:PySem.W.Frag)(a:Addr):It :=
 ⟨λi H=>∃xs x,eH K H a xs/\xs[i]?=some x,λi H z H'=>∃T x,z = .ref T/\H T=none/\H'=upd H T (.tup [.int i,x])/\∀xs,eH K H a xs->xs[i]?=some x,λi H=>∃xs,eH K H a xs/\xs.length<=i⟩
def iEnum (K:PySem.W.Frag)(c:TA):TI:=λσ H R=>c σ H λvs b=>∃a,vs=[.ref a]/\(∃xs,eH K b a xs)/\R (TB K a) b
noncomputable def R8 (a b:Addr):It :=
 ⟨λi H=>∃xs c x y,eV H a xs/\eV H b c/\xs[i]?=some x/\c[i]?=some y,
  λi H z H'=>∃T x y,z = .ref T/\H T=none/\H'=upd H T (.tup [x,y])/\∀xs c,eV H a xs->eV H b c->xs[i]?=some x/\c[i]?=some y,
  λi H=>∃xs c,eV H a xs/\eV H b c/\(xs.length<=i∨c.length<=i)⟩
def iZip2 (e:TA):TI:=λσ H R=>e σ H λvs c=>∃a b xs d,vs=[.ref a,.ref b]/\eV c a xs/\eV c b d/\R (R8 a b) c
theorem rNeD_bb {H:Hp}{Q:VK}{i j:Bool}:rNeD (.bl i) (.bl j) H Q=Q (.bl (!decide (i=j))) H:=by
 have e:eqD (.bl i) (.bl j)=decide (i=j):=by cases i <;> cases j <;> rfl
 refine propext ⟨λ⟨d,c,b,a,_,q⟩=>?_,λq=>⟨.bl i,.bl j,rfl,rfl,au _,by rw[e];exact q⟩⟩;have g:d = .bl i:=aX.inj b (show aX H (.bl i) (.bl i)from rfl);have f:c = .bl j:=aX.inj a (show aX H (.bl j) (.bl j)from rfl);rw[g,f,e]at q;exact q
theorem rEqD_bb {H:Hp}{Q:VK}{i j:Bool}:rEqD (.bl i) (.bl j) H Q=Q (.bl (decide (i=j))) H:=by
 have e:eqD (.bl i) (.bl j)=decide (i=j):=by cases i <;> cases j <;> rfl
 refine propext ⟨λ⟨d,c,b,a,_,q⟩=>?_,λq=>⟨.bl i,.bl j,rfl,rfl,au _,by rw[e];exact q⟩⟩;have g:d = .bl i:=aX.inj b (show aX H (.bl i) (.bl i)from rfl);have f:c = .bl j:=aX.inj a (show aX H (.bl j) (.bl j)from rfl);rw[g,f,e]at q;exact q
theorem FN {ks:List (Option Expr)}{vs es:mJ}{p:Pos}{env:Env}:starEach (.Dict ks vs p::es) env=(false,eval (.Dict ks vs p) env)::starEach es env:=by rw[starEach];exact λ_ _ z=>nomatch z
theorem DZ {X:Cx}{es:mJ}{p:Pos}{t:TA}(h:PA X es t):PA X (.Dict [] [] p::es) (tCons IC t):=aA JD h FN
theorem wP:typeLookup (.type "list") "keys" = pure none:=am_miss_of_fast (by decide +kernel)
theorem wZ {P:Program}{w:World}{A:Around}{E:cJ}{s:Shared}{a:Addr}{xs:i8}{k:Nat}{d:Array (Option Value)}{Q:Option Value->Shared->Prop}
  (c:s.heap.get? a=some {cls:=.type "list",dict:=none,data:=.seq xs k,slots:=d}) (calm:A.handled=none)
  (q:∀h' tk,(∀b f,s.heap.get? b=some f->h'.get? b=some f)->Q none {s with heap:=h',toks:=tk}) :
  wpAny (model P w) A (getAttr? (.ref a) "keys") Q E s:=by
 rcases s with⟨h,i,j,tk,os⟩;have ty:∀t,(⟨h,i,j,t,os⟩:Shared).TypeIs (.ref a) "list":=λ_=>⟨_,c,rfl⟩
 have x:=F.slot_list_getattribute.lookup;have v:=F.slot_list_getattribute.bind (.ref a);have u:=am_list_getattr_none;have r:=sub_AttributeError;rw[getAttr?];unfold getAttrBy? getAttrBy
 repeat (any_goals (first|assumption|exact ty _|((with_reducible show wpAny _ _ (call (Value.builtin "list.__getattribute__") _ _) _ _ _);refine call_meets F.slot_list_getattribute (ty _) am_entry_list_getattribute (F.args_list_getattribute_2 _ _) (meets_getattribute_miss_list a xs k d "keys" _ wP (by decide) (by decide)) ⟨c,calm,λh' g e n=>?_⟩)|wp_step))
 obtain⟨o,m,l⟩:=n.there;dsimp only[wants];unfold getattributeRaised
 wp_walk
 exact q _ _ n.keeps
section
variable {P:Program}{w:World}{K:Type}[DecidableEq K]{knd:KeyKind P w K}
def xR (knd:KeyKind P w K)(h:Heap)(d it:Addr)(x:Value)(a:K×Value):Prop :=
 ∃(q:Addr) (o:Obj) (key:Value) (n:Nat),x = .ref q/\q≠d/\q≠it/\h.get? q=some o/\(o.cls = .type "list"∨o.cls = .type "tuple")/\o.data = .seq #[key,a.2] n/\knd.is a.1 key=true
theorem xR.mono {h h':Heap}{d it:Addr}{x:Value}{a:K×Value}(p:xR knd h d it x a)(k:∀b o,b≠d->b≠it->h.get? b=some o->h'.get? b=some o):xR knd h' d it x a:=by obtain⟨q,o,key,n,i,e,c,g,f⟩:=p;exact⟨q,o,key,n,i,e,c,k q o e c g,f⟩
inductive OL (knd:KeyKind P w K)(h:Heap)(d it:Addr):bQ->List (K×Value)->Prop
 | nil:OL knd h d it [] []
 | cons {x:Value} {xs:bQ} {kv:K×Value} {more:List (K×Value)}:xR knd h d it x kv->OL knd h d it xs more->OL knd h d it (x::xs) (kv::more)
theorem OL.mono {h h':Heap}{d it:Addr}(k:∀b o,b≠d->b≠it->h.get? b=some o->h'.get? b=some o){xs:bQ}{more:List (K×Value)}(r:OL knd h d it xs more):OL knd h' d it xs more:=by
 induction r with
 | nil=>exact .nil
 | cons p r a=>exact .cons (p.mono k) a
theorem lM:plainId "dict.update.loop" = true:=by decide +kernel
theorem u6:entryFor table "dict.update.loop" = some Builtin.«dict.update.loop»:=entryFor_of_fast (by kernel_rfl)
theorem tU {A:Around}{E:cJ}{s:Shared}{q:Addr}{o:Obj}{n:Nat}{a b:Value}{Q:bQ->Shared->Prop}(e:s.heap.get? q=some o)(c:o.cls = .type "list"∨o.cls = .type "tuple")(d:o.data = .seq #[a,b] n)(h:Q [a,b] s) :
  wpAny (model P w) A (Builtin.Dict.pairItems (.ref q)) Q E s:=by
 unfold Builtin.Dict.pairItems;rcases c with c|c
 ·refine aa (wpAny_typeOf (T:="list") ⟨o,e,c⟩ ?_);rw[aj (by decide)];exact aa (wpAny_seqItems e d (al h))
 ·refine aa (wpAny_typeOf (T:="tuple") ⟨o,e,c⟩ ?_);rw[aj (by decide)];exact aa (wpAny_seqItems e d (al h))
theorem HR {d it l:Addr}{items:i8}(g:it≠d)(F:l≠d)(E:l≠it):∀(m i:Nat),items.size - i=m->∀(A:Around) (R:Result->Shared->Prop) (s:Shared) (a more:List (K×Value)) (tk:Tok),
  A.handled=none->s.heap.IsListIter it l i->s.heap.IsList l items->s.heap.DictOf knd d a->OL knd s.heap d it (items.toList.drop i) more->a.length+more.length<=sizeLine ->
  (∀h' c,h'.DictOf knd d (merged a more)->(∀b o,b≠d->b≠it->s.heap.get? b=some o->h'.get? b=some o)->R (.ok (.ret .none)) {s with heap:=h',toks:=c}) ->
  codeAny (model P w) A (.builtin "dict.update.loop" ⟨[.ref d,.ref it,.int i tk,.none],[]⟩) R s:=by
 intro m
 induction m with
 | zero =>
  intro i S A R s a more tk I st z hd r hz k;refine codeAny_builtin u6 ?_;rw[Around.under_plainId lM];have G:items[i]?=none:=by simp;omega
  have Y:more=[]:=by
   have:items.toList.drop i=[]:=by simp;omega
   rw[this]at r;cases r;rfl
  subst Y;unfold Builtin.«dict.update.loop»;dsimp only;refine aa (wpAny_pyNext_list_end I st z G λh' J=>?_);dsimp only;refine aa (m:=Builtin.Dict.addKeywords d []) (al (al ?_));exact k h' s.toks (hd.extBut J g.symm) λb o _ T e=>J b o T e
 | succ m Q =>
  intro i S A R s a more tk I st z hd r hz k;refine codeAny_builtin u6 ?_;rw[Around.under_plainId lM];have j:i<items.size:=by omega
  have G:items[i]?=some items[i]:=by simp[j]
  have Z:items.toList.drop i=items[i]::items.toList.drop (i+1):=by simp[List.drop_eq_getElem_cons,j]
  rw[Z]at r;cases r with
  | cons p rest =>
   rename_i x more;unfold Builtin.«dict.update.loop»;dsimp only;refine aa (wpAny_pyNext_list_item st z G λW B f=>?_);dsimp only;obtain⟨q,o,key,n,eq,N,C,X,cq,dq,O⟩:=p;rw[eq];refine aa (ca (aa (wpAny_tryCatch (tU (s:={s with heap:=W}) ((f.2 q C).trans X) cq dq ?_))));refine ca (wpAny_dictSet_pairs O (hd.sameBut f g.symm) (λU H h=>?_) (by simp at hz;omega));have kept:∀b o,b≠d->b≠it->s.heap.get? b=some o->U.get? b=some o:=λb o v u e=>(h.2 b v).trans ((f.2 b u).trans e);refine al ⟨plainId_quiet lM _,?_⟩;have e1:((i:Int)+1)=((i+1:Nat):Int):=by push_cast;rfl
   rw[e1];refine Q (i+1) (by omega) A R _ (stored a x.1 x.2) more 0 I (B.at λo e=>(h.2 it g).trans e) (z.at λo e=>kept l o F E e) H (rest.mono kept) ?_ λh' c r1 L=>?_
   ·have:=stored_length_le a x.1 x.2;simp at hz;omega
   ·exact k h' c r1 λb o v u e=>L b o v u (kept b o v u e)
def QY (knd:KeyKind P w K)(h:Heap)(x:Value)(a:K×Value):Prop :=
 ∃(q:Addr) (o:Obj) (key:Value) (n:Nat),x = .ref q/\h.get? q=some o/\(o.cls = .type "list"∨o.cls = .type "tuple")/\o.data = .seq #[key,a.2] n/\knd.is a.1 key=true
inductive qA (knd:KeyKind P w K)(h:Heap):bQ->List (K×Value)->Prop
 | nil:qA knd h [] []
 | cons {x:Value} {xs:bQ} {kv:K×Value} {more:List (K×Value)}:QY knd h x kv->qA knd h xs more->qA knd h (x::xs) (kv::more)
theorem qA.at {h h':Heap}{d it:Addr}(g:h.get? d=none)(f:h.get? it=none)(k:∀b o,h.get? b=some o->h'.get? b=some o){xs:bQ}{more:List (K×Value)}(r:qA knd h xs more):OL knd h' d it xs more:=by
 induction r with
 | nil=>exact .nil
 | cons p r c =>
  obtain⟨q,o,key,n,j,a,i⟩:=p;exact .cons ⟨q,o,key,n,j,λe=>(by rw[e,g]at a;cases a),λe=>(by rw[e,f]at a;cases a),k q o a,i⟩ c
theorem qQ {A:Around}{E:cJ}{s:Shared}{l:Addr}{items:i8}{n:Nat}{m:Array (Option Value)}{more:List (K×Value)}{Q:cJ}
  (a:s.heap.get? l=some {cls:=.type "list",dict:=none,data:=.seq items n,slots:=m}) (calm:A.handled=none) (x:qA knd s.heap items.toList more) (hz:more.length<=sizeLine)
  (q:∀h' tk,h'.DictOf knd s.heap.objs.size (merged [] more)->(∀b o,s.heap.get? b=some o->h'.get? b=some o)->Q (.ref s.heap.objs.size) {s with heap:=h',toks:=tk}) :
  wpAny (model P w) A (call (.type "dict") [.ref l]) Q E s:=by
 refine callType_codes (Q₁:=λv i=>v = .ref s.heap.objs.size/\i={s with heap:=s.heap.push {cls:=.type "dict",data:=.dict #[]} }) F.kt_called_dict (F.kt_typeCall_dict_1 _) F.entry_dict_init (kt_code_dict_new _ ⟨rfl,rfl⟩) ?_;rintro v i ⟨rfl,rfl⟩;have h:(s.heap.push {cls:=.type "dict",data:=.dict #[]}).DictOf knd s.heap.objs.size []:=Heap.DictOf.new s.heap;have f:=ag {cls:=.type "dict",data:=.dict #[]} a;have lt:=az a;refine⟨h.typeIs,F.args_dict_init_2 _ _,?_⟩;unfold Builtin.«dict.__init__» Builtin.Dict.selfAndRest;refine aa (aa (wpAny_notOrdered_dict h.typeIs (al ?_)));unfold Builtin.Dict.updateCommon Builtin.Dict.updateFrom;dsimp only;refine aa (wpAny_typeOf (T:="list") ⟨_,f,rfl⟩ ?_);rw[aj (by decide)];refine aa (wZ f calm λg t1 k1=>?_);rw[aj (by rfl)];have u:=k1 _ _ f;refine aa (wpAny_rule (aa (wpAny_pyIter_list (items:=items) ⟨_,u,rfl,_,rfl⟩ (al ⟨plainId_quiet lM _,?_⟩))));have j:=h.keep k1;have c:s.heap.objs.size<g.objs.size:=by obtain⟨o,e,_⟩:=Heap.dictOf_iff.mp j;exact az e
 have k2:∀b o,s.heap.get? b=some o->(g.push {cls:=.type "list_iterator",data:=.fields #[.ref l,.int 0 0]}).get? b=some o:=λb o e=>ag _ (k1 b o (ag _ e));refine HR (it:=g.objs.size) (l:=l) (items:=items) (Nat.ne_of_gt c) (bi lt) (bi (Nat.lt_trans lt c)) _ 0 rfl A.in1 _ _ [] more 0 calm ⟨_,ar _ rfl,rfl,rfl⟩ ⟨_,k2 _ _ a,rfl,_,rfl⟩ (j.push _)
  (qA.at (Heap.get?_none_of_le (ae _)) (Heap.get?_none_of_le (Nat.le_of_lt c)) k2 x) (by simpa using hz) λh' d r1 r=>?_
 exact⟨rfl,q h' d r1 λb o e=>r b o (bi (az e)) (bi (Nat.lt_trans (az e) c)) (k2 b o e)⟩
end
noncomputable def prV (H:Hp):V->Option (V×V)
 | .ref p=>match H p with
  | some (.lst [a,b])=>some (a,b)
  | some (.tup [a,b])=>some (a,b)
  | _=>none
 | _=>none
theorem yM {X:Cx}{h:cZ}{σ:St}{H:Hp}{s:Shared}(I:aQ X h σ H s):∀{j:List V} {us:bQ} {d:List (fU×V)},aT j us->j.map (prV H)=d.map (λi=>some (kV i.1,i.2)) ->
  ∃g:List (fU×Value),qA (cQ X.prog X.w) s.heap us g/\KV d g
 | [],_,[],r,_=>by cases r;exact⟨[],.nil,.nil⟩
 | [],_,_::_,_,e=>by cases e
 | _::_,_,[],_,e=>by cases e
 | y::j,_,i::d,r,e=>by
  cases r with
  | @cons _ u _ us B r =>
   rw[aS,aS]at e;injection e with f F;obtain⟨g,c,q⟩:=yM I r F;cases y with
   | ref p =>
    cases B;unfold prV at f;dsimp only at f;split at f
    ·rename_i a b z;cases f;obtain⟨_,its,n,v,A⟩:=(show cF X.prog X.w H s.heap p (.lst [_,_])from I.hok p _ z)
     obtain⟨m,l,rfl,r1,x⟩:=vals2 v;exact⟨(i.1,l)::g,.cons ⟨p,_,m,n,rfl,A,.inl rfl,rfl,uW r1⟩ c,.cons ⟨rfl,x⟩ q⟩
    ·rename_i a b z;cases f;obtain⟨_,its,v,o,A,E,n,C⟩:=(show cF X.prog X.w H s.heap p (.tup [_,_])from I.hok p _ z)
     obtain⟨m,l,rfl,r1,x⟩:=vals2 v;exact⟨(i.1,l)::g,.cons ⟨p,o,m,n,rfl,A,.inr E,C,uW r1⟩ c,.cons ⟨rfl,x⟩ q⟩
    ·cases f
   | _=>cases f
def PC:List V->Hp->VK->Prop:=λxs H Q=>∃p b a,xs=[.ref p]/\H p=some (.lst b)/\b.map (prV H)=a.map (λc=>some (kV c.1,c.2))/\∀d,H d=none->Q (.ref d) (upd H d (.dK (iY [] a)))
theorem mY {X:Cx}(m:X.calm=true):dN X (.type "dict") PC:=by
 intro e s σ H xs us Q I r h;obtain⟨p,b,a,rfl,l,f,q⟩:=h;obtain⟨u,rfl,g⟩:=vals1 r;cases g;obtain⟨z,its,n,i,o⟩:=(show cF X.prog X.w H s.heap p (.lst b)from I.hok p _ l)
 obtain⟨j,c,d⟩:=yM I i f;have x:a.length=b.length:=by have:=congrArg List.length f;simpa using this.symm
 have v:a.length=j.length:=d.length;refine qQ o (I.ok.hd m) (by simpa using c) (by omega) λh' tk dd kp=>⟨.ref s.heap.objs.size,_,?_,rfl,q _ (I.hok.fresh (ae _))⟩
 have hz:(iY [] a).length<=sizeLine:=by have:=lZ a [];rw[List.length_nil]at this;omega
 exact I.laid (t':=tk) kp (ae _) (QO hz (cs.mpr (Ne.symm (bi I.big))) (d.merge .nil) dd)
def rDIn (b:Bool):R2:=λx y H Q=>∃a o,y = .ref a/\oQ H a x o/\Q (.bl (if b then !o.isSome else o.isSome)) H
theorem BP {X:Cx}(e:X.A.units+64<cLine):iM X (compareOp .NotIn) (rDIn true):=by intro b s σ H x y v u Q I d c h;obtain⟨a,o,rfl,g,q⟩:=h;cases c;exact NS (ak (bv (by decide) _) e) I g d λs' f=>⟨.bl _,H,f,rfl,q⟩
noncomputable def R9 (K:PySem.W.Frag)(a:Addr)(xs:List V):It :=
 ⟨λi H=>eH K H a xs/\i<xs.length,λi H x H'=>H'=H/\xs[xs.length - 1 - i]?=some x,λi H=>eH K H a xs/\i=xs.length⟩
theorem HW {P:Program}{w:World}{K:PySem.W.Frag}{Q:Expr}(a it:Addr)(xs:List V):qR P w K Q (R9 K a xs) [it] it (λi h=>h.IsRevIter it a ((xs.length:Int) - 1 - (i:Int))) where
 mem:=by simp
 obj:=λi h st b g=>by
  obtain rfl:b=it:=by simpa using g
  obtain⟨o,e,c,d⟩:=st;exact⟨o,e,λv z=>by rw[d]at z;cases z⟩
 keep:=λi h h' st k=>st.at λo e=>k it (by simp) o e
 item:=by
  intro X r m A O i f s σ H E I l st q;subst r m A;obtain⟨N,Y⟩:=q;obtain⟨its,S,p,hz⟩:=I.list N;have L:xs[xs.length - 1 - i]?=some xs[xs.length - 1 - i]:=aw (by omega);obtain⟨u,U,T⟩:=S.get L;obtain⟨G,f1,f2,F,C,B⟩:=l it (by simp);have J:(xs.length:Int) - 1 - (i:Int)=((xs.length - 1 - i:Nat):Int):=by omega
  rw[J]at st;refine wpAny_pyNext_rev_item st p.isList (x:=u) (by simpa using U) λh' j R=>?_;have I1:aQ X f σ H {s with heap:=h'}:=I.turned (t':=s.toks) (λb o g e=>(R.2 b g).trans e) G f1 F C B;obtain⟨o,e,c,d⟩:=id j;refine⟨u,rfl,zL (s:={s with heap:=h'}) e c d (by decide) ⟨_,H,I1,T,⟨rfl,L⟩,?_,λb g=>(l b g).1⟩⟩;have e1:(xs.length:Int) - 1 - ((i+1:Nat):Int)=((xs.length - 1 - i:Nat):Int) - 1:=by omega
  rw[e1];exact j
 done:=by
  intro X r m A O i f s σ H E I l st q;subst r m A;obtain⟨N,Y⟩:=q;obtain⟨G,f1,f2,F,C,B⟩:=l it (by simp);have J:(xs.length:Int) - 1 - (i:Int) = -1:=by omega
  rw[J]at st;exact wpAny_pyNext_rev_end (I.ok.hd O) st λh' Z=>⟨rfl,I.turned (t':=s.toks) (λb o g e=>Z b o g e) G f1 F C B⟩
 self:=λ_ _ _ _ _ st h=>wpAny_pyIter_revIter st h
def iRev (K:PySem.W.Frag)(c:TA):TI:=λσ H R=>c σ H λvs b=>∃a xs,vs=[.ref a]/\b a=some (.lst xs)/\R (R9 K a xs) b
theorem nU {X:Cx}{l:Expr}(K:PySem.W.Frag)(E:X.K=K){a:Expr}{j:TA}{p d:Pos}(A:Gl X "reversed")(z:X.mg "reversed" = none)(C:PA X [a] j)(x:starEach [a] X.env=[(false,eval a X.env)]:=by rfl) :
  PI X l (.Call (.Name "reversed" p) [a] [] d) (iRev K j):=by
 subst E;intro f s σ H R I h;refine Call_ (pG I A z boot_reversed (PyProof.Rows.callWith_type1 (thn (C d f s σ H _ I h) λus c ⟨vs,G,i,r1,r⟩=>?_) x rfl));obtain⟨g,xs,e,w,q⟩:=r;subst e;obtain⟨J,rfl,F⟩:=vals1 r1;cases F;obtain⟨its,m,u,v⟩:=i.list (eH.of w);refine call_reversed_list u.isList ?_
 have st:(c.heap.push (revObj g ((its.toArray.size:Int) - 1))).IsRevIter c.heap.objs.size g ((xs.length:Int) - 1 - ((0:Nat):Int)):=⟨_,ar _ rfl,rfl,by
  have e:=m.length;rw[ai,←e]
  simp[revObj]⟩
 refine wpAny_pyIter_revIter (s:={c with heap:=c.heap.push (revObj g ((its.toArray.size:Int) - 1))}) st ?_;refine⟨c.heap.objs.size,[c.heap.objs.size],_,_,G,rfl,i.kept (t':=c.toks) λb o e=>ag _ e,HW g _ xs,st,λb B=>?_,q⟩;obtain rfl:b=c.heap.objs.size:=by simpa using B
 exact i.fpOk (ae _) (i.hok.fresh (ae _))
section
variable {g:TG}{tb:TS}{D:iJ}{σ:St}{H:Hp}{K:PySem.W.Frag}
theorem zN {a:Addr}(xs:List V)(Pv:Nat->St->Hp->Prop)(l:Pv 0 σ H)(h:∀i σ H,i<=xs.length->Pv i σ H->H a=some (.lst xs))
  (f:∀i x σ H,i<xs.length->xs[xs.length - 1 - i]?=some x->Pv i σ H->g x σ H λd o=>tb {D with nx:=Pv (i+1),ct:=Pv (i+1),bk:=D.nx} d o) (hd:∀σ H,Pv xs.length σ H->D.nx σ H):tX (R9 K a xs) g tb D σ H:=by
 refine⟨λi m σ H=>m=xs.length - i/\i<=xs.length/\Pv i σ H,⟨xs.length,by simp,au _,l⟩,?_⟩;rintro i m σ H ⟨rfl,j,p⟩;have c:=eH.of (K:=K) (h i σ H j p);by_cases b:i<xs.length
 ·refine .inr ⟨⟨c,b⟩,Pv (i+1),λr H' q=>⟨xs.length - (i+1),by omega,rfl,b,q⟩,λz H' y=>?_⟩;obtain⟨rfl,q⟩:=y;exact f i z σ _ b q p
 ·have e:i=xs.length:=by omega
  subst e;exact .inl ⟨⟨c,rfl⟩,hd σ H p⟩
end
noncomputable def revT {α:Type}(xs:List α):List α:=(xs.drop 1).reverse
theorem uN {α:Type}(x:α)(xs:List α):revT (x::xs)=xs.reverse:=rfl
theorem LC (k:Nat):(List.range k).map (λm=>k - m)=((List.range k).map (λm=>1+m)).reverse:=by
 apply List.ext_getElem
 ·simp
 ·intro i b a;simp at b a⊢;omega
theorem vJ (its:bQ)(k:Nat)(h:its.length=k+1):(List.range k).filterMap (λm=>its.toArray[k - m]?)=(its.drop 1).reverse:=by
 have e:(List.range k).filterMap (λm=>its.toArray[k - m]?)=((List.range k).map (λm=>k - m)).filterMap (λj=>its.toArray[j]?):=by rw[List.filterMap_map];rfl
 rw[e,LC,List.filterMap_reverse];have:=pick_run its.toArray 1 k;rw[this];congr 1;rw[List.take_of_length_le];rw[bq];simp;omega
theorem F3 (its:bQ)(h:its≠[]):slicePick its.toArray none (some 0) (some (-1))=(revT its).toArray:=by
 obtain⟨k,hk⟩:∃k,its.length=k+1:=⟨its.length - 1,by have:=List.length_pos_iff.mpr h;omega⟩
 unfold slicePick;rw[ai,hk];have e:sliceBounds none (some 0) (some (-1)) (k+1)=((k:Int),0,-1):=by
  simp only[sliceBounds,Option.getD_some];refine Prod.ext ?_ (Prod.ext ?_ rfl)
  ·simp
  ·simp <;> omega
 rw[e];have b:sliceRange (k:Int) 0 (-1)=(List.range k).map λm=>k - m:=by
  unfold sliceRange;have c:(if (-1:Int) > 0 then(if (k:Int)<0 then(0 - (k:Int) + -1 - 1) / -1 else 0)else(if (k:Int) > 0 then((k:Int) - 0 - -1 - 1) / (- -1)else 0)).toNat=k:=by
   rw[ac (by decide)];split
   ·have:((k:Int) - 0 - -1 - 1) / (- -1)=k:=by rw[show(- -1:Int)=1 from rfl,Int.ediv_one];omega
    rw[this];omega
   ·omega
  dsimp only;rw[c];refine List.map_congr_left λm a=>?_;have:=List.mem_range.mp a;omega
 dsimp only;rw[b,List.filterMap_map];have:=vJ its k hk;unfold revT;rw[←this];rfl
theorem xQ {prog:Program}{w:World}{A:Around}{E:cJ}{s:Shared}{f:Addr}{e c d:Value}{n:Nat}{Q:Int×Int×Nat->Shared->Prop}(i:s.heap.IsSliceOf f e c d)(pl:IsPart e none)(g:IsPart c (some 0))(pt:IsPart d (some (-1)))(o:1<=n)
  (h:Q ((n:Int) - 1,-1,n - 1) s):wpAny (model prog w) A (Builtin.Slice.sliceApplied (.ref f) (pure (n:Int))) Q E s:=by
 obtain⟨os,a,j,b⟩:=id i;unfold Builtin.Slice.sliceApplied Builtin.Slice.sliceFields;refine aa (aa (wpAny_field a b (x:=e) rfl (aa (wpAny_field a b (x:=c) rfl (aa (wpAny_field a b (x:=d) rfl (al ?_)))))));refine aa (HT.slicePart_ pt ?_);show wpAny _ _ (if ((-1:Int) == 0)=true then _ else _) _ _ s;rw[ac (by decide)];refine aa (HT.slicePart_ pl (aa (HT.slicePart_ g (aa (al ?_)))));have m:Builtin.Slice.sliceAdjust none (some 0) (-1) (n:Int)=((n:Int) - 1,0):=by
  unfold Builtin.Slice.sliceAdjust;refine Prod.ext ?_ ?_
  ·simp
  ·simp;omega
 have l:Builtin.Slice.slicePlaces ((n:Int) - 1) 0 (-1)=n - 1:=by
  unfold Builtin.Slice.slicePlaces;rw[ac (by decide)];split
  ·rw[show(- -1:Int)=1 from rfl,Int.ediv_one];omega
  ·omega
 show wpAny _ _ (match Builtin.Slice.sliceAdjust none (some 0) (-1) (n:Int)with|(lo,hi)=>pure (lo,(-1:Int),Builtin.Slice.slicePlaces lo hi (-1))) _ _ s;rw[m];show wpAny _ _ (pure ((n:Int) - 1,(-1:Int),Builtin.Slice.slicePlaces ((n:Int) - 1) 0 (-1))) _ _ s;rw[l];exact al h
theorem A2 {prog:Program}{w:World}{A:Around}{E:cJ}{s:Shared}{t b:Addr}{its:bQ}{j g i:Value}{Q:cJ}(a:IsTup s.heap t its.toArray)(l:s.heap.IsSliceOf b j g i)(pl:IsPart j none)(o:IsPart g (some 0))(pt:IsPart i (some (-1)))(r:its≠[])(hz:its.length<=sizeLine)
  (h:Q (.ref s.heap.objs.size) {s with heap:=s.heap.push {cls:=.type "tuple",data:=.seq (revT its).toArray} }):wpAny (model prog w) A (getItem (.ref t) (.ref b)) Q E s:=by
 obtain⟨k,hk⟩:∃k,its.length=k+1:=⟨its.length - 1,by have:=List.length_pos_iff.mpr r;omega⟩
 obtain⟨os,c,d,u⟩:=id l;have f:s.TypeIs (.ref b) "slice":=⟨os,c,d⟩
 unfold getItem
 try with_reducible refine ca ?_
 first|refine aa (al ?_)|skip
 refine aa (wpAny_sequenceKey a.typeIs (by decide) ?_)
 refine aa (wpAny_callSpecial?_slot (name:=Str.ofString "__getitem__") a.typeIs PyProof.Rows.slot_tuple_getitem
  (wpAny_call_entry PyProof.Rows.slot_tuple_getitem a.typeIs entry_tuple_getitem ?_ (args_tuple_getitem _ _)))
 show wpAny _ _ (Builtin.Tuple.tupleItemsOf (.ref t) >>= _) _ _ s;refine aa (tupleItemsOf_ a ?_);refine aa (wpAny_typeOf f ?_);rw[aj (by decide)];refine aa (xQ (n:=its.toArray.size) l pl o pt (by rw[ai];omega) ?_);dsimp only;rw[ac (by intro q;rw[Bool.and_eq_true,Bool.and_eq_true]at q;exact absurd q.1.2 (by decide))];have e:((List.range (its.toArray.size - 1)).filterMap λ(m:Nat)=>its.toArray[(((its.toArray.size:Nat):Int) - 1+(m:Int) * -1).toNat]?).toArray=(revT its).toArray:=by rw[ai,hk];have q:=vJ its k hk;unfold revT;rw[←q];congr 2;funext m;congr 1;omega
 rw[e];have hsz:sizeOk (.seq (revT its).toArray):=by show(revT its).toArray.size<=sizeLine;rw[ai];unfold revT;rw[List.length_reverse,bq];omega
 first
  | exact aa (m:=Builtin.Tuple.tupleExact _) (bI (al ⟨_,rfl,al h⟩) hsz)
  | exact aa (m:=Builtin.Tuple.tupleExact _) (bI (aa (al (al ⟨_,rfl,al h⟩))) hsz)
  | exact aa (aa (m:=Builtin.Tuple.tupleExact _) (bI (al (al ⟨_,rfl,al h⟩)) hsz))
  | exact aa (aa (m:=Builtin.Tuple.tupleExact _) (bI (al ⟨_,rfl,al h⟩) hsz))
def NZ (X:Cx)(r:V->Option Int->Option Int->Option Int->Hp->VK->Prop):Prop :=
 ∀(a:cZ) (s:Shared) (σ:St) (H:Hp) (x:V) (v vl vu vt:Value) (lo hi st:Option Int) (sl:Addr) (Q:VK),aQ X a σ H s->aU x v->s.heap.IsSliceOf sl vl vu vt->IsPart vl lo->IsPart vu hi->IsPart vt st->r x lo hi st H Q ->
  ∃T id,typeLookup (.type T) "__getitem__" = pure (some (.builtin id))/\s.TypeIs v T/\wpAny (model X.prog X.w) X.A (getItem v (.ref sl)) (EP X a σ Q) X.xe s
def tSl3 (r:V->Option Int->Option Int->Option Int->Hp->VK->Prop)(c:TE)(tl b a:TO):TE:=λσ H Q=>c σ H λx g=>tl σ g λl f=>b σ f λu e=>a σ e λt d=>r x l u t d Q
theorem jJ {X:Cx}{e:Expr}{o:TE}{w z:Option Expr}{st:Expr}{tl m j:TO}{d L:Pos}{r:V->Option Int->Option Int->Option Int->Hp->VK->Prop}(R:NZ X r)(W:PE X e o)(S:PO X w tl)(O:PO X z m)(P:PO X (some st) j):PE X (.Subscript e (.Slice w z (some st) L) d) (tSl3 r o tl m j):=by intro a s σ H Q I h;refine Subscript_ (thn (W a s σ H _ I h) λv C ⟨x,H1,I1,r1,J⟩=>?_);refine wpAny_Slice (thn (S a C σ H1 _ I1 J) λi s2 ⟨l,H2,I2,pl,G⟩=>thn (O a s2 σ H2 _ I2 G) λf B ⟨u,H3,I3,K,F⟩=>thn (P a B σ H3 _ I3 F) λg c ⟨t,A,I4,pt,E⟩=>?_);have Z:aQ X a σ A {c with heap:=c.heap.push {cls:=.type "slice",data:=.fields #[i,f,g]} }:=I4.kept (t':=c.toks) λb ob q=>ag _ q;obtain⟨T,id,Y,N,U⟩:=R a _ σ A x v i f g l u t c.heap.objs.size Q Z r1 (Heap.IsSliceOf.new ..) pl K pt E;exact tail_any (ops:=[v,.ref c.heap.objs.size]) N Y U (by with_unfolding_all rfl)
def rBack:V->Option Int->Option Int->Option Int->Hp->VK->Prop:=λx b c st H Q=>b=none/\c=some 0/\st=some (-1)/\∃a xs,x = .ref a/\eV H a xs/\xs≠[] /\
 ∀p o,H p=none->(o = .lst (revT xs)/\H a=some (.lst xs)∨o = .tup (revT xs)/\H a=some (.tup xs))->Q (.ref p) (upd H p o)
theorem aT.revT {xs:List V}{us:bQ}(h:aT xs us):aT (revT xs) (L2.revT us):=(h.drop 1).reverse
theorem yH {α:Type}(xs:List α):(revT xs).length<=xs.length:=by unfold revT;rw[List.length_reverse,bq];omega
theorem vQ {xs:List V}{us:bQ}(h:aT xs us)(n:xs≠[]):us≠[]:=λz=>by have:=h.length;rw[z]at this;exact n (List.length_eq_zero_iff.mp this)
theorem DR {X:Cx}:NZ X rBack:=by
 intro i s σ H x v z u w B C st A Q I f j pl g pt h;obtain⟨rfl,rfl,rfl,a,xs,rfl,e|e,l,q⟩:=h
 ·cases f;obtain⟨its,r,d,hz⟩:=I.list (eH.of e);refine⟨"list",_,slot_list_getitem.lookup,d.isList.typeIs,?_⟩;have c:=r.length;refine wpAny_getItem_list_slice d.isList j pl g pt (by decide) ?_ (by rw[ai] <;> omega);rw[F3 its (vQ r l)];refine⟨.ref s.heap.objs.size,_,I.laid (t':=s.toks) (o:=.lst (revT xs)) (λb m q=>ag _ q) (ae _) ?_,rfl,q _ _ (I.hok.fresh (ae _)) (.inl ⟨rfl,e⟩)⟩;exact⟨ao (yH xs) hz,_,0,r.revT,ar _ rfl⟩
 ·cases f;obtain⟨its,r,d,hz⟩:=I.tuple (iU.of e);refine⟨"tuple",_,PyProof.Rows.slot_tuple_getitem.lookup,d.typeIs,?_⟩;have c:=r.length;refine A2 d j pl g pt (vQ r l) (by omega) ?_;refine⟨.ref s.heap.objs.size,_,I.laid (t':=s.toks) (o:=.tup (revT xs)) (λb m q=>ag _ q) (ae _) ?_,rfl,q _ _ (I.hok.fresh (ae _)) (.inr ⟨rfl,e⟩)⟩;exact⟨ao (yH xs) hz,_,r.revT,⟨_,ar _ rfl,rfl,_,rfl⟩⟩
def rExtU:V->List V->Hp->VK->Prop:=λx vs H Q=>∃l b xs a,x = .ref l/\vs=[.ref b]/\H l=some (.lst xs)/\eV H b a/\xs.length+a.length<=sizeLine/\Q .non (upd H l (.lst (xs++a)))
theorem NO {l b:Addr}{its its2:i8}{n n2:Nat}{od:Option Addr}{osl:Array (Option Value)}(c:(!its.isEmpty && Builtin.List.listTooLong (its.size+its2.size))=false)(m:its.size<=sizeLine)(j:its.size+its2.size<=sizeLine+1) :
  Meets (Builtin.«list.extend» ⟨[.ref l,.ref b],[]⟩) (λ_ R s=>s.heap.get? l=some {cls:=.type "list",data:=.seq its n}/\s.heap.get? b=some ⟨.type "tuple",od,.seq its2 n2,osl⟩ /\
   R (.ok (.ret .none)) {s with heap:=s.heap.update l (Obj.mapSeq λx=>x++its2)}):=by
 refine .of_wp λprog w A R e h=>?_;obtain⟨o,g,d,tk,os⟩:=e;obtain⟨a,f,h⟩:=h;have c:¬(!its.isEmpty && Builtin.List.listTooLong (its.size+its2.size))=true:=by rw[c];decide
 have f1:=AutoSeq1.idx_int;have r:=AutoSeq1.sub_tuple_list;have q:=AutoSeq1.sub_list_tuple;have i:(its++its2).size<=sizeLine+1:=by rw[Array.size_append];exact j
 wp_walk using (wpAny_updateSeq a rfl (hz:=m) (_hz':=i)),
  bc a,bc f
 exact⟨_,rfl,h⟩
theorem lO {X:Cx}:RX X "list.extend" rExtU:=by
 intro a s σ H x vs v us Q I f g h;obtain⟨l,b,xs,w,j,o,c,d|d,hz,q⟩:=h
 ·exact GM a s σ H x vs v us Q I f g ⟨l,b,xs,w,j,o,c,d,hz,q⟩
 subst j o;cases f;obtain⟨u,rfl,A⟩:=g.one;cases A;obtain⟨z,its,n,r,N,e⟩:=I.lstM c;obtain⟨its2,i,⟨⟨L,od,B,osl⟩,E,J,n2,G⟩,K⟩:=I.tuple (iU.of d);cases J;cases G;have C:=i.length;have hsz:its.toArray.size+its2.toArray.size<=sizeLine:=by rw[ai,ai];omega
 have m:=NO (l:=l) (b:=b) (its:=its.toArray) (its2:=its2.toArray) (n:=n) (n2:=n2) (od:=od) (osl:=osl) (by rw[sA hsz,Bool.and_false]) (by rw[ai];omega) (by omega);refine call_meets F.slot_list_extend ⟨_,e,rfl⟩ F.entry_list_extend (F.args_list_extend_2 _ _) m ⟨e,E,?_⟩;refine⟨.non,_,I.lset (its':=its++its2) c e (by simp) (r.append i) ?_,rfl,q⟩;rw[aq];omega
noncomputable def tl1 (z:Str):Str:=⟨(z.cps.toList.drop 1).toArray⟩
def rSlTx:V->Option Int->Option Int->Hp->VK->Prop:=λx a b H Q=>∃z,x = .str z/\a=some 1/\b=none/\1<=z.length/\z.length<=sizeLine/\Q (.str (tl1 z)) H
theorem F1 (z:Str)(h:1<=z.length)(u:Tok):slicePicked z (some (1,u)) none none=(List.range (z.length - 1)).map λm=>1+m:=by
 show Builtin.Str.strSliceIndices (some 1) none 1 z.length=_;unfold Builtin.Str.strSliceIndices;dsimp only;rw[ac (show ¬(1:Int)<0 by decide),aj (show(1:Int) > 0 by decide),aj (show(1:Int) > 0 by decide)];have e:max 0 (min 1 (z.length:Int))=1:=by omega
 rw[e];unfold sliceRange;dsimp only;rw[aj (by decide)];have c:(if (1:Int)<(z.length:Int)then((z.length:Int) - 1+1 - 1) / 1 else 0).toNat=z.length - 1:=by
  split
  ·rw[Int.ediv_one];omega
  ·omega
 rw[c];refine List.map_congr_left λm _=>?_;omega
theorem IO {X:Cx}:RL X rSlTx:=by
 intro a s σ H x v j i r A o Q I b d pl c h;obtain⟨z,rfl,rfl,rfl,g,hz,q⟩:=h;obtain⟨t,rfl⟩:=b;cases pl;rename_i tk;cases c;refine⟨"str",_,F.slot_str_getitem.lookup,typeIs_str _ _ _,?_⟩;refine wpAny_getItem_str_slice (l:=some (1,tk)) (u:=none) (st:=none) d rfl ?_;have f:=F1 z g tk;unfold sliceMade;rw[f,ac (by intro w;rw[Bool.and_eq_true]at w;have:=eq_of_beq w.2;simp at this;omega)];have e:(((List.range (z.length - 1)).map λm=>1+m).filterMap (z.cps[·]?)).toArray=(z.cps.toList.drop 1).toArray:=by have:=pick_run z.cps 1 (z.length - 1);rw[this];congr 1;rw[List.take_of_length_le];rw[bq,bj];exact ae _
 rw[e];refine⟨?_,.str (tl1 z),H,I.tok _,⟨_,rfl⟩,q⟩;show(z.cps.toList.drop 1).toArray.size<=sizeLine;have hd:(z.cps.toList.drop 1).length=z.cps.size - 1:=by simp
 rw[ai,hd];exact ao (Nat.sub_le _ _) hz
noncomputable def RY (z:Str):It:=⟨λi _=>i<z.cps.size,λi H x H'=>H'=H/\∃c,z.cps[i]?=some c/\x = .str ⟨#[c]⟩,λi _=>i=z.cps.size⟩
theorem HV {P:Program}{w:World}{K:PySem.W.Frag}{N:Expr}(it:Addr)(z:Str)(t:Tok):qR P w K N (RY z) [it] it (λi h=>h.IsStrIter it "str_ascii_iterator" z t i) where
 mem:=by simp
 obj:=λi h st b f=>by
  obtain rfl:b=it:=by simpa using f
  obtain⟨o,e,c,d⟩:=st;exact⟨o,e,λv q=>by rw[d]at q;cases q⟩
 keep:=λi h h' st k=>by obtain⟨o,e,r⟩:=st;exact⟨o,k it (by simp) o e,r⟩
 item:=by intro X B m C A i a s σ H E I l st j;subst B m C;obtain⟨L,f1,f2,J,G,F⟩:=l it (by simp);have W:=Walks.strAscii (prog:=X.prog) (w:=X.w) (I.ok.hd A) it z t;refine W.item i s _ _ j st λv h' tk Q g O=>?_;obtain⟨c,u,x,rfl⟩:=Q;have T:aQ X a σ H {s with heap:=h',toks:=tk}:=I.turned (λb o f e=>O b o (by simpa using f) e) L f1 J G F;obtain⟨o,e,S,d⟩:=id g;exact⟨_,rfl,zL (s:={s with heap:=h',toks:=tk}) e S d (by decide) ⟨.str ⟨#[c]⟩,H,T,⟨u,rfl⟩,⟨rfl,c,x,rfl⟩,g,λb f=>(l b f).1⟩⟩
 done:=by intro X B m C A i a s σ H E I l st j;subst B m C;obtain⟨L,f1,f2,J,G,F⟩:=l it (by simp);have j:i=z.cps.size:=j;subst j;exact wpAny_pyNext_ascii_end (I.ok.hd A) st (by simp) λh' R=>⟨rfl,I.turned (t':=s.toks) (λb o f e=>R b o f e) L f1 J G F⟩
 self:=λ_ _ _ _ _ st h=>wpAny_pyIter_striter_ascii st h
def iTxt (a:TE):TI:=λσ H R=>a σ H λx b=>∃z:Str,x = .str z/\z.cps.all (· < 128)=true/\R (RY z) b
theorem wJ {X:Cx}{g e:Expr}{f:TE}(j:PE X e f):PI X g e (iTxt f):=by
 intro a s σ H R I h;refine thn (j a s σ H _ I h) λv c ⟨x,r,d,r1,i⟩=>?_;obtain⟨z,rfl,m,q⟩:=i;obtain⟨t,rfl⟩:=r1;refine wpAny_pyIter_ascii m ?_;refine⟨c.heap.objs.size,[c.heap.objs.size],_,_,r,rfl,d.kept (t':=c.toks) λb o e=>ag _ e,HV _ z t,⟨_,ar _ rfl,rfl,rfl⟩,λb l=>?_,q⟩;obtain rfl:b=c.heap.objs.size:=by simpa using l
 exact d.fpOk (ae _) (d.hok.fresh (ae _))
section
variable {X:Cx}{CX:AT}{k:Nat}{sp:Sp}{E:XK}{x m:Str}{C:Addr}{p pos apos:Pos}{o e:Expr}{es:mJ}{ta:TE}{t:TA}
theorem rV {pl:Sem Bool}(O:C4 X.prog X.w X.K X.mg X.base CX k C m sp)(h:dW k X.A)(d:iF CX X E)(i:PE X o ta)(l:PA X (e::es) t)
  (a:starEach (e::es) X.env=(false,eval e X.env)::starEach es X.env:=by rfl) (b:(backTo pos (starEach es X.env)).any (·.1)=false:=by rfl)
  (g:eval (.Call (.Attribute o m apos) (e::es) [] pos) X.env=(do
   let ov ←eval o X.env
   standAt apos.atName
   let(f,first) ←holding [ov] (getMethod ov m pl)
   callWith pos f first (backTo pos (starEach (e::es) X.env)) (backToKw pos (keywordEach [] X.env))):=by rfl):PE X (.Call (.Attribute o m apos) (e::es) [] pos) (tMeth C m sp [] E ta t):=by
 obtain⟨f,q,ps,F,M,j,c⟩:=O;exact MD i c M F h j .nil d l a b g
def Q0 (P:Program)(w:World)(K:PySem.W.Frag)(mg:gX)(base:Heap)(CX:AT)(k:Nat)(x:Str)(C:Addr)(b:Sp):Prop :=
 ∃f a ps,bN P w K mg base CX k f a ps b/\mg x=some (.ref C)/\Mk K C f/\dZ K a ps []
theorem RB (O:Q0 X.prog X.w X.K X.mg X.base CX k x C sp)(d:dW (k+1) X.A)(c:iF CX X E)(h:Gl X x)(l:PA X (e::es) t)(b:(x == ("__debug__" : Str))=false:=by decide)
  (i:starEach (e::es) X.env=(false,eval e X.env)::starEach es X.env:=by rfl) (a:(backTo pos (starEach es X.env)).any (·.1)=false:=by rfl):PE X (.Call (.Name x p) (e::es) [] pos) (tMake C sp [] E t):=by
 obtain⟨f,m,ps,F,g,M,j⟩:=O;exact ME M F d h g j .nil c l b i a
end
section
variable {g:TG}{tt:TT}{te:TE}{Q:VK}{σ:St}{H:Hp}
theorem u9 {z:Str}(Pv:Nat->List V->St->Hp->Prop)(f:Pv 0 [] σ H)(b:∀i c a σ H,z.cps[i]?=some c->Pv i a σ H->CStep g tt te (.str ⟨#[c]⟩) a σ H (Pv (i+1)))
  (hd:∀a σ H,Pv z.cps.size a σ H->∀p,H p=none->Q (.ref p) (upd H p (.lst a))):qK (RY z) g tt te Q σ H :=
 oF (n:=z.cps.size) Pv f (λi a σ H d p=>⟨d,λx H' y=>by obtain⟨rfl,c,e,rfl⟩:=y;exact b i c a σ _ e p⟩) λa σ H p=>⟨rfl,hd a σ H p⟩
end
noncomputable def inTx (z:Str)(c:Nat):Bool:=!(Builtin.Str.occurrences z ⟨#[c]⟩ 0 z.length 1).isEmpty
end L2
namespace L2
open PySem PySem.Spec PyProof.Rows PySem.W
def hV (n:Nat)(lt:Nat->Nat->Bool){α:Type}:KasT α->(α->Prop)->Prop
 | .ret a,Q=>Q a
 | .ask i j k,Q=>i<n/\j<n/\hV n lt (k (lt i j)) Q
theorem hV.bind {n:Nat}{lt:Nat->Nat->Bool}{α β:Type}{f:α->KasT β}{Q:β->Prop}{R:α->Prop}(b:∀a,R a->hV n lt (f a) Q):∀{t:KasT α},hV n lt t R->hV n lt (t.bind f) Q
 | .ret a,h=>b a h
 | .ask i j k,h=>⟨h.1,h.2.1,hV.bind b h.2.2⟩
theorem hV.mono {n:Nat}{lt:Nat->Nat->Bool}{α:Type}{Q R:α->Prop}(b:∀a,R a->Q a):∀{t:KasT α},hV n lt t R->hV n lt t Q
 | .ret a,h=>b a h
 | .ask i j k,h=>⟨h.1,h.2.1,hV.mono b h.2.2⟩
structure RO (n:Nat)(lt:Nat->Nat->Bool):Prop where
 irr:∀i,lt i i=false
 asym:∀i j,lt i j=true->lt j i=false
 tr:∀i j k,lt j i=false->lt k j=false->lt k i=false
section
variable {n:Nat}{lt:Nat->Nat->Bool}
def le (lt:Nat->Nat->Bool)(i j:Nat):Prop:=lt j i=false
noncomputable abbrev pa (p:Array Nat)(i:Nat):Nat:=p.getD i 0
def Up (lt:Nat->Nat->Bool)(p:Array Nat)(k:Nat):Prop:=∀i j,i<=j->j<k->le lt (pa p i) (pa p j)
def Dn (lt:Nat->Nat->Bool)(p:Array Nat)(k:Nat):Prop:=∀i j,i<=j->j<k->le lt (pa p j) (pa p i)
def Gd (n:Nat)(p:Array Nat):Prop:=p.Perm (List.range n).toArray
theorem Gd.size {p:Array Nat}(h:Gd n p):p.size=n:=by have:=h.size_eq;simpa using this
theorem Gd.inn {p:Array Nat}(h:Gd n p)(b:1<=n)(i:Nat):pa p i<n:=by
 by_cases a:i<p.size
 ·have e:pa p i=p[i]:=by simp[pa,Array.getD,a]
  rw[e];have c:p[i]∈p.toList:=by simp
  have:=(Array.perm_iff_toList_perm.mp h).mem_iff.mp c
  simpa using this
 ·have e:pa p i=0:=by simp[pa,Array.getD,a]
  rw[e];exact b
theorem yQ {p q:Array Nat}{i j:Nat}(h:p[i]?=q[j]?):pa p i=pa q j:=by unfold pa;rw[Array.getD_eq_getD_getElem?,Array.getD_eq_getD_getElem?,h]
theorem jY {p:Array Nat}{i j:Nat}(a:j<=p.size)(k:Nat):pa (kas_rev p i j) k=if i<=k/\k<j then pa p (i+j - 1 - k)else pa p k:=by
 have e:=getElem?_mirror_all (xs:=p) (i:=i) a k;unfold kas_rev;by_cases h:i<=k/\k<j
 ·rw[aj h]at e⊢;exact yQ e
 ·rw[ac h]at e⊢;exact yQ e
theorem PQ {p:Array Nat}{src d:Nat}(c:src<p.size)(hd:d<=src)(k:Nat):pa (bubble p src d) k=if k=src - d then pa p src else if src - d<k/\k<=src then pa p (k - 1)else pa p k:=by
 have e:=getElem?_bubble (xs:=p) c d hd k;by_cases b:k=src - d
 ·rw[aj b]at e⊢;exact yQ e
 ·rw[ac b]at e⊢;by_cases a:src - d<k/\k<=src
  ·rw[aj a]at e⊢;exact yQ e
  ·rw[ac a]at e⊢;exact yQ e
theorem Gd.rev {p:Array Nat}(h:Gd n p)(i j:Nat):Gd n (kas_rev p i j):=(mirror_perm p i j _).trans h
theorem Gd.bub {p:Array Nat}(h:Gd n p)(i j:Nat):Gd n (bubble p i j):=(bubble_perm p i j).trans h
variable (O:RO n lt)
include O
theorem RO.le_refl (i:Nat):le lt i i:=O.irr i
theorem RO.le_trans {i j k:Nat}(a:le lt i j)(b:le lt j k):le lt i k:=O.tr i j k a b
theorem RO.le_of {i j:Nat}(h:lt i j=true):le lt i j:=O.asym i j h
theorem Up.snoc {p:Array Nat}{k:Nat}(h:Up lt p k)(d:1<=k)(e:le lt (pa p (k - 1)) (pa p k)):Up lt p (k+1):=by
 intro i j b f;by_cases a:j<k
 ·exact h i j b a
 ·have:j=k:=by omega
  subst this;by_cases c:i=j
  ·subst c;exact O.le_refl _
  ·exact O.le_trans (h i (j - 1) (by omega) (by omega)) e
theorem Dn.snoc {p:Array Nat}{k:Nat}(h:Dn lt p k)(d:1<=k)(e:le lt (pa p k) (pa p (k - 1))):Dn lt p (k+1):=by
 intro i j b f;by_cases a:j<k
 ·exact h i j b a
 ·have:j=k:=by omega
  subst this;by_cases c:i=j
  ·subst c;exact O.le_refl _
  ·exact O.le_trans e (h i (j - 1) (by omega) (by omega))
theorem sY {p:Array Nat}(g:Gd n p)(i:1<=n):∀(f k:Nat),1<=k->Up lt p k->hV n lt (kas_asc p f k) λm=>k<=m/\m<=k+f/\Up lt p m/\(m<k+f->lt (pa p m) (pa p (m - 1))=true)
 | 0,k,j,h=>⟨ae _,ae _,h,λz=>absurd z (bx _)⟩
 | f+1,k,j,h=>by
  refine⟨g.inn i _,g.inn i _,?_⟩;cases c:lt (p.getD k 0) (p.getD (k - 1) 0)with
  | true =>
   dsimp only;rw[aj rfl];exact⟨ae _,by omega,h,λ_=>c⟩
  | false =>
   dsimp only;rw[ac (by decide)];exact(sY g i f (k+1) (by omega) (Up.snoc O h j c)).mono λm ⟨a,b,d,e⟩=>⟨by omega,by omega,d,λz=>e (by omega)⟩
theorem mZ {p:Array Nat}{k:Nat}(g:Gd n p)(e:1<=n)(d:Up lt p k):∀(f l r:Nat),r - l<=f->l<=r->r<=k->(∀i,i<l->le lt (pa p i) (pa p k))->(∀i,r<=i->i<k->le lt (pa p k) (pa p i)) ->
  hV n lt (kas_place p k f l r) λm=>m<=k/\(∀i,i<m->le lt (pa p i) (pa p k))/\(∀i,m<=i->i<k->le lt (pa p k) (pa p i))
 | 0,l,r,u,o,a,j,h=>by
  have:l=r:=by omega
  subst this;exact⟨a,j,h⟩
 | f+1,l,r,u,o,a,j,h=>by
  unfold kas_place;by_cases b:l ≥ r
  ·rw[aj b];have:l=r:=by omega
   subst this;exact⟨a,j,h⟩
  ·rw[ac b];refine⟨g.inn e _,g.inn e _,?_⟩;cases c:lt (p.getD k 0) (p.getD ((l+r) / 2) 0)with
   | true =>
    dsimp only;rw[aj rfl];refine mZ g e d f l ((l+r) / 2) (by omega) (by omega) (by omega) j λi q s=>?_;exact O.le_trans (O.le_of c) (d _ _ q s)
   | false =>
    dsimp only;rw[ac (by decide)];refine mZ g e d f ((l+r) / 2+1) r (by omega) (by omega) a (λi q=>?_) h;exact O.le_trans (d i ((l+r) / 2) (by omega) (by omega)) c
theorem OV {p:Array Nat}{k l:Nat}(h:k<p.size)(b:Up lt p k)(r:l<=k)(o:∀i,i<l->le lt (pa p i) (pa p k))(m:∀i,l<=i->i<k->le lt (pa p k) (pa p i)):Up lt (bubble p k (k - l)) (k+1):=by
 have e:=PQ (p:=p) h (Nat.sub_le k l);have q:k - (k - l)=l:=by omega
 rw[q]at e;intro i j c s;rw[e i,e j];by_cases g:i=l
 ·rw[aj g];by_cases a:j=l
  ·rw[aj a];exact O.le_refl _
  ·rw[ac a,aj (by omega)];exact m _ (by omega) (by omega)
 ·rw[ac g];by_cases f:l<i/\i<=k
  ·rw[aj f,ac (by omega),aj (by omega)];exact b _ _ (by omega) (by omega)
  ·rw[ac f];by_cases a:j=l
   ·rw[aj a];exact o _ (by omega)
   ·rw[ac a];by_cases d:l<j/\j<=k
    ·rw[aj d];exact b _ _ (by omega) (by omega)
    ·rw[ac d];exact b _ _ c (by omega)
theorem AA (d:1<=n):∀(f:Nat) (p:Array Nat) (k:Nat),Gd n p->k+f<=n->Up lt p k->hV n lt (kas_bin f p k) λq=>Gd n q/\Up lt q (k+f)
 | 0,p,k,g,e,a=>⟨g,a⟩
 | f+1,p,k,g,e,a=>by
  unfold kas_bin;refine hV.bind (R:=λm=>m<=k/\(∀i,i<m->le lt (pa p i) (pa p k))/\(∀i,m<=i->i<k->le lt (pa p k) (pa p i))) (λm b=>?_) (mZ O g d a k 0 k (by omega) (by omega) (ae _) (λi c=>absurd c (Nat.not_lt_zero _)) λi c e=>absurd c (by omega));refine(AA d f (bubble p k (k - m)) (k+1) (g.bub _ _) (by omega) (OV O (by rw[g.size];omega) a b.1 b.2.1 b.2.2)).mono λq h=>⟨h.1,?_⟩
  rw[show k+(f+1)=k+1+f by omega];exact h.2
def Q7 (lt:Nat->Nat->Bool)(p:Array Nat)(n q:Nat):Prop:=∀i j,n - (q+1)<=i->i<n->n - (q+1)<=j->j<n->le lt (pa p i) (pa p j)
theorem K2 {p:Array Nat}{k q:Nat}(b:k<=p.size)(e:Dn lt p k)(eq:Q7 lt p k q):Dn lt (kas_rev p (k - (q+1)) k) k:=by
 intro i j a f;rw[jY b,jY b];by_cases d:k - (q+1)<=i/\i<k
 ·rw[aj d,aj (by omega)];exact eq _ _ (by omega) (by omega) (by omega) (by omega)
 ·rw[ac d];by_cases c:k - (q+1)<=j/\j<k
  ·rw[aj c];exact e _ _ (by omega) (by omega)
  ·rw[ac c];exact e _ _ a f
theorem rX {p:Array Nat}{i j:Nat}(a:j<=p.size){k:Nat}(h:j<=k):pa (kas_rev p i j) k=pa p k:=by rw[jY a,ac (by omega)]
theorem lV (e:1<=n):∀(f:Nat) (p:Array Nat) (k q:Nat),Gd n p->1<=k->k+f<=n->q+1<=k->Dn lt p k->Q7 lt p k q->hV n lt (kas_desc f p k q) λr=>Gd n r.1/\k<=r.2.1/\r.2.1<=k+f/\r.2.2+1<=r.2.1/\Dn lt r.1 r.2.1/\Q7 lt r.1 r.2.1 r.2.2
 | 0,p,k,q,g,l,x,o,h,eq=>⟨g,ae _,ae _,o,h,eq⟩
 | f+1,p,k,q,g,l,x,o,h,eq=>by
  refine⟨g.inn e _,g.inn e _,?_⟩;have one:∀s:Array Nat,Q7 lt s (k+1) 0:=λs i j a b c d=>by
   have:i=k:=by omega
   have:j=k:=by omega
   subst_vars
   exact O.le_refl _
  have more:∀r:Array Nat×Nat×Nat,(Gd n r.1/\k+1<=r.2.1/\r.2.1<=k+1+f/\r.2.2+1<=r.2.1/\Dn lt r.1 r.2.1/\Q7 lt r.1 r.2.1 r.2.2)->(Gd n r.1/\k<=r.2.1/\r.2.1<=k+(f+1)/\r.2.2+1<=r.2.1/\Dn lt r.1 r.2.1/\Q7 lt r.1 r.2.1 r.2.2):=λr ⟨a,b,c,d⟩=>⟨a,by omega,by omega,d⟩
  have hz:k<=p.size:=by rw[g.size];omega
  cases c:lt (p.getD k 0) (p.getD (k - 1) 0)with
  | true =>
   dsimp only;rw[aj rfl];have u:=O.le_of c;by_cases w:q > 0
   ·rw[aj w];have E:=K2 O hz h eq;have C:pa (kas_rev p (k - (q+1)) k) k=pa p k:=rX O hz (ae _);have B:le lt (pa p k) (pa (kas_rev p (k - (q+1)) k) (k - 1)):=by rw[jY hz,aj (by omega)];exact O.le_trans u (eq _ _ (by omega) (by omega) (by omega) (by omega))
    exact(lV e f _ (k+1) 0 (g.rev _ _) (by omega) (by omega) (by omega) (Dn.snoc O E l (by rw[C];exact B)) (one _)).mono more
   ·rw[ac w];exact(lV e f p (k+1) 0 g (by omega) (by omega) (by omega) (Dn.snoc O h l u) (one _)).mono more
  | false =>
   dsimp only;rw[ac (by decide)];refine⟨g.inn e _,g.inn e _,?_⟩;cases c2:lt (p.getD (k - 1) 0) (p.getD k 0)with
   | true =>
    dsimp only;rw[aj rfl];exact⟨g,ae _,by show k<=k+(f+1);omega,o,h,eq⟩
   | false =>
    dsimp only;rw[ac (by decide)];refine(lV e f p (k+1) (q+1) g (by omega) (by omega) (by omega) (Dn.snoc O h l c2) ?_).mono more;have G:le lt (pa p (k - 1)) (pa p k):=c;have F:le lt (pa p k) (pa p (k - 1)):=c2;intro i j I A H z;by_cases v:i=k
    ·by_cases m:j=k
     ·subst v;subst m;exact O.le_refl _
     ·subst v;exact O.le_trans F (eq _ _ (by omega) (by omega) (by omega) (by omega))
    ·by_cases m:j=k
     ·subst m;exact O.le_trans (eq _ _ (by omega) (by omega) (by omega) (by omega)) G
     ·exact eq _ _ (by omega) (by omega) (by omega) (by omega)
theorem LR {p:Array Nat}{k:Nat}(a:k<=p.size)(c:Dn lt p k):Up lt (kas_rev p 0 k) k:=by intro i j b d;rw[jY a,jY a,aj (by omega),aj (by omega)];exact c _ _ (by omega) (by omega)
theorem sX (b:1<=n){p:Array Nat}{k m:Nat}(g:Gd n p)(c:1<=k)(f:k<=m)(e:m<=n)(d:Dn lt p k):hV n lt (kas_tail3 k m p) λr=>Gd n r.2/\1<=r.1/\r.1<=m/\Up lt r.2 r.1:=by
 have hz:k<=p.size:=by rw[g.size];omega
 unfold kas_tail3;refine hV.bind (λa h=>?_) (sY O (g.rev 0 k) b (m - k) k c (LR O hz d));exact⟨g.rev 0 k,by have:=h.1;show 1<=a;omega,by have:=h.2.1;show a<=m;omega,h.2.2.1⟩
theorem mB (l:1<=n){p:Array Nat}{k m:Nat}(g:Gd n p)(v:1<=k)(u:k+1<=m)(o:m<=n)(s:Dn lt p (k+1)):hV n lt (kas_descPart k m p) λr=>Gd n r.2/\1<=r.1/\r.1<=m/\Up lt r.2 r.1:=by
 unfold kas_descPart
 refine hV.bind (λr h=>?_) (lV O l (m - (k+1)) p (k+1) 0 g (by omega) (by omega) (by omega) s λi j a b c d=>by
  have:i=k:=by omega
  have:j=k:=by omega
  subst_vars
  exact O.le_refl _)
 obtain⟨a,b,c,d,e,f⟩:=h;by_cases q:r.2.2 > 0
 ·rw[aj q];exact sX O l (a.rev _ _) (by omega) (by omega) o (K2 O (by rw[a.size];omega) e f)
 ·rw[ac q];exact sX O l a (by omega) (by omega) o e
theorem CZ (d:1<=n){p:Array Nat}(g:Gd n p):hV n lt (kas_count n p) λr=>Gd n r.2/\1<=r.1/\r.1<=n/\Up lt r.2 r.1:=by
 unfold kas_count
 refine hV.bind (λm h=>?_) (sY O g d (n - 1) 1 (ae _) λi j a b=>by
  have:i=0:=by omega
  have:j=0:=by omega
  subst_vars
  exact O.le_refl _)
 obtain⟨l,x,f,s⟩:=h;by_cases e:m=n
 ·rw[aj (by simpa using e)];exact⟨g,l,by show m<=n;omega,f⟩
 ·rw[ac (by simpa using e)];have v:=s (by omega);by_cases u:m > 1
  ·rw[aj u];refine⟨g.inn d _,g.inn d _,?_⟩;cases c:lt (p.getD 0 0) (p.getD (m - 1) 0)with
   | true =>
    dsimp only;rw[aj rfl];exact⟨g,l,by show m<=n;omega,f⟩
   | false =>
    dsimp only;rw[ac (by decide)];have hz:m<=p.size:=by rw[g.size];omega
    have all:∀i j,i<m->j<m->le lt (pa p i) (pa p j):=λi j w o=>O.le_trans (O.le_trans (f i (m - 1) (by omega) (by omega)) c) (f 0 j (by omega) o);refine mB O d (g.rev 0 m) l (by omega) (ae _) (Dn.snoc O (λi j q o=>?_) l ?_)
    ·rw[jY hz,jY hz,aj (by omega),aj (by omega)];exact all _ _ (by omega) (by omega)
    ·rw[rX O hz (ae _),jY hz,aj (by omega)];exact O.le_trans (O.le_of v) (all _ _ (by omega) (by omega))
  ·rw[ac u];have:m=1:=by omega
   subst this;refine mB O d g (ae _) (by omega) (ae _) (Dn.snoc O (λi j q o=>?_) (ae _) (O.le_of v));have:i=0:=by omega
   have:j=0:=by omega
   subst_vars
   exact O.le_refl _
theorem HF (c:1<=n):hV n lt (kas_sort n) λq=>Gd n q/\Up lt q n:=by
 unfold kas_sort;refine hV.bind (λr h=>?_) (CZ O c (Array.Perm.refl _));obtain⟨g,e,d,a⟩:=h;by_cases h:r.1<n
 ·rw[aj h,show max r.1 1=r.1 by omega];refine(AA O c (n - r.1) r.2 r.1 g (by omega) a).mono λq b=>⟨b.1,?_⟩
  rw[←show r.1+(n - r.1)=n by omega];exact b.2
 ·rw[ac h];have:r.1=n:=by omega
  rw[this]at a;exact⟨g,a⟩
end
theorem FA {n:Nat}{lt:Nat->Nat->Bool}{α:Type}{b:Nat->Nat->(Bool->Shared->Prop)->Shared->Prop}(J:Shared->Prop)(e:∀i j C s,i<n->j<n->J s->(∀s',J s'->C (lt i j) s')->b i j C s){Q:α->Prop}{R:α->Shared->Prop}(f:∀a s,J s->Q a->R a s) :
  ∀{t:KasT α},hV n lt t Q->∀s,J s->t.kasWp b R s
 | .ret a,h,s,d=>f a s d h
 | .ask i j k,h,s,d=>e i j _ s h.1 h.2.1 d λs' c=>FA J e f h.2.2 s' c
end L2
namespace L2
open PySem PySem.Spec PyProof.Rows PySem.SeqAt
open PySem.AutoSeq1 (wpAny_loadPart')
open PySem.MeetsSeq PySem.MeetsSeq2 PySem.MeetsSeq3
def N3 (A:Around)(s:Shared)(y x:Value)(b:Bool):Prop:=∀(prog:Program) (w:World) (E:cJ) (Q:cJ),Q (.bool b) s->wpAny (model prog w) A (richCompare .Lt y x) Q E s
inductive tY (A:Around)(s:Shared):bQ->bQ->Bool->Prop
 | nn:tY A s [] [] false
 | nc {v:Value} {vs:bQ}:tY A s [] (v::vs) true
 | cn {u:Value} {us:bQ}:tY A s (u::us) [] false
 | eq {u v:Value} {us vs:bQ} {b:Bool}:EqAt A s u v true->tY A s us vs b->tY A s (u::us) (v::vs) b
 | ne {u v:Value} {us vs:bQ} {b:Bool}:EqAt A s u v false->N3 A s u v b->tY A s (u::us) (v::vs) b
def Q2 (us:i8)(i:Nat)(xs:bQ):Prop:=i<=us.size/\us.toList.drop i=xs
theorem Q2.end_ {us:i8}{i:Nat}(h:Q2 us i []):us.size=i/\us[i]?=none:=by have e:=congrArg List.length h.2;rw[bq,bj,List.length_nil]at e;have:=h.1;exact⟨by omega,Array.getElem?_eq_none (by omega)⟩
theorem Q2.next {us:i8}{i:Nat}{x:Value}{xs:bQ}(h:Q2 us i (x::xs)):i<us.size/\us[i]?=some x/\Q2 us (i+1) xs:=by
 have e:=congrArg List.length h.2;rw[bq,bj,ap]at e;have lt:i<us.toList.length:=by rw[bj];omega
 have a:=h.2;rw[List.drop_eq_getElem_cons lt]at a;injection a with c b;rw[bj]at lt;refine⟨lt,?_,lt,b⟩;rw[Array.getElem?_eq_getElem lt,←c];rfl
abbrev tN (l b:Addr)(ol ob:Obj)(xs ys:bQ):PySem.Spec:=λA R s=>s.heap.get? l=some ol/\s.heap.get? b=some ob/\∃r,tY A.in1 s xs ys r/\R (.ok (.ret (.bool r))) s
theorem rH {l b:Addr}{c d:Obj}{xs a:bQ}{i:Nat}{prog:Program}{w:World}{A:Around}{R:Result->Shared->Prop}{s:Shared}(m:Meets (Builtin.«list.__eq__.loop» (ltAsk l b i)) (tN l b c d xs a))(h:tN l b c d xs a A R s) :
  (Code.builtin "list.__eq__.loop" (ltAsk l b i)).quiet=true/\codeAny (model prog w) A (.builtin "list.__eq__.loop" (ltAsk l b i)) R s:=by
 refine⟨plainId_quiet plain_eq_loop (ltAsk l b i),codeAny_builtin entry_eq_loop ?_⟩;have u:=A.under_plainId plain_eq_loop (ltAsk l b i);rw[u];exact m prog w A R s h
theorem uE (l b:Addr)(us vs:i8)(n k:Nat)(G F:Option Addr)(B v:Array (Option Value)):∀(xs o:bQ) (i:Nat),Q2 us i xs->Q2 vs i o ->
  Meets (Builtin.«list.__eq__.loop» (ltAsk l b i)) (tN l b {cls:=.type "list",dict:=G,data:=.seq us n,slots:=B} {cls:=.type "list",dict:=F,data:=.seq vs k,slots:=v} xs o)
 | [],o,i,f,g=>by
  rintro prog w A R ⟨C,E,d,tk,os⟩ ⟨a,c,r,s,h⟩;obtain⟨z,u⟩:=f.end_;have j:r=decide (us.size<vs.size):=by
   cases s with
   | nn=>exact(bg (by rw[z,(g.end_).1];exact bx _)).symm
   | nc=>exact(bd (by rw[z];exact(g.next).1)).symm
  rw[j]at h
  wp_walk using bc a,bc c
  rw[show((i:Nat):Int).toNat=i from rfl,u];cases vs[i]? <;> wp_walk using bc a,bc c <;> exact h
 | x::xs,[],i,f,g=>by
  rintro prog w A R ⟨C,E,d,tk,os⟩ ⟨a,c,r,s,h⟩;obtain⟨z,u⟩:=g.end_;obtain⟨lt,is,_⟩:=f.next
  cases s;have j:false=decide (us.size<vs.size):=(bg (by omega)).symm;rw[j]at h
  wp_walk using bc a,bc c
  rw[show((i:Nat):Int).toNat=i from rfl,u,is]
  wp_walk using bc a,bc c
  exact h
 | x::xs,y::o,i,f,g=>by
  have go:=uE l b us vs n k G F B v xs o (i+1) (f.next).2.2 (g.next).2.2;rintro prog w A R ⟨C,E,d,tk,os⟩ ⟨a,c,r,s,h⟩;obtain⟨_,q,_⟩:=f.next
  obtain⟨_,isV,_⟩:=g.next
  wp_walk using bc a,bc c
  rw[show((i:Nat):Int).toNat=i from rfl,q,isV];cases s with
  | eq e rest =>
   refine aa (e prog w _ _ ?_)
   wp_walk
   exact rH go ⟨a,c,r,rest,h⟩
  | ne e m =>
   refine aa (e prog w _ _ ?_);have m:=m prog w
   wp_walk using bc a,bc c
   rw[q,isV]
   wp_walk using m
   exact h
theorem wS (l b:Addr)(us vs:i8)(n k:Nat)(i g:Option Addr)(f e:Array (Option Value)) :
  Meets (Builtin.«list.__lt__» ⟨[.ref l,.ref b],[]⟩) (tN l b {cls:=.type "list",dict:=i,data:=.seq us n,slots:=f} {cls:=.type "list",dict:=g,data:=.seq vs k,slots:=e} us.toList vs.toList):=by
 have go:=uE l b us vs n k i g f e us.toList vs.toList 0 ⟨au _,rfl⟩ ⟨au _,rfl⟩;rintro prog w A R ⟨j,m,d,tk,os⟩ ⟨a,c,h⟩;have kind:=AutoSeq1.sub_list_list
 wp_walk using bc a,bc c
 exact rH go ⟨a,c,h⟩
theorem tP (l b:Addr)(us vs:i8)(n k:Nat)(I H:Option Addr)(z v:Array (Option Value)) :
  Meets (Builtin.«tuple.__lt__» ⟨[.ref l,.ref b],[]⟩) (tN l b {cls:=.type "tuple",dict:=I,data:=.seq us n,slots:=z} {cls:=.type "tuple",dict:=H,data:=.seq vs k,slots:=v} us.toList vs.toList):=by
 refine .of_wp λprog w A R B h=>?_;obtain⟨u,g,d,tk,os⟩:=B;obtain⟨E,G,r,F,h⟩:=h;have f2:=AutoSeq1.sub_tuple_tuple
 wp_walk using bc E,bc G,wpAny_forIn_list _ (λrest b s'=>b.1=none/\s'=⟨u,g,d,tk,os⟩/\∃(xs o:bQ),rest=xs.zip o/\tY A.in1 ⟨u,g,d,tk,os⟩ xs o r/\xs.length+vs.size=o.length+us.size) _
 case turn =>
  rintro⟨y,x⟩ rest b s' ⟨m,rfl,xs,o,hz,j,a⟩;cases j with
  | nn=>cases hz
  | nc=>cases hz
  | cn=>cases hz
  | eq c more =>
   rw[List.zip_cons_cons]at hz;injection hz with i f;injection i with q s;subst q s;simp only[ap]at a;refine aa (c prog w _ _ ?_)
   wp_walk
   exact⟨rfl,rfl,_,_,f,more,by omega⟩
  | ne c e =>
   rw[List.zip_cons_cons]at hz;injection hz with i f;injection i with q s;subst q s;refine aa (c prog w _ _ ?_);have e:=e prog w
   wp_walk using e
   refine⟨_,rfl,?_⟩
   simpa using h
 case fin =>
  rintro⟨K,J⟩ s' ⟨m,rfl,xs,o,hz,j,a⟩;simp only at m;subst m;have C:r=decide (us.size<vs.size):=by
   cases j with
   | nn =>
    simp only[List.length_nil]at a;exact(bg (by omega)).symm
   | nc =>
    simp only[List.length_nil,ap]at a;exact(bd (by omega)).symm
   | cn =>
    simp only[List.length_nil,ap]at a;exact(bg (by omega)).symm
   | eq _ _=>rw[List.zip_cons_cons]at hz;cases hz
   | ne _ _=>rw[List.zip_cons_cons]at hz;cases hz
  rw[C]at h
  wp_walk
  exact⟨_,rfl,by simpa [Builtin.Tuple.tupleCompareSizes] using h⟩
 case h =>
  exact⟨rfl,rfl,us.toList,vs.toList,rfl,F,by simp[Nat.add_comm]⟩
end L2
namespace L2
open PySem PySem.Spec PyProof.Rows
theorem aQ.adopt {X:Cx}{d:cZ}{σ:St}{H:Hp}{s:Shared}{a:Addr}{o:HO}(I:aQ X d σ H s)(f:fT X d H a)(new:cF X.prog X.w (upd H a o) s.heap a o):aQ X d σ (upd H a o) s:=by
 obtain⟨E,f1,f2,C,B,A⟩:=f;have keep:∀b u,H b=some u->upd H a o b=some u:=λb u e=>by rw[aC (aE e E)];exact e
 refine {ok:=I.ok,os:=I.os,bare:=I.bare,base:=?_,loc:=I.loc,cell:=I.cell,free:=?_,freeC:=?_,pin:=?_,hok:=?_,len:=I.len}
 ·have u:=I.base
  exact {
   keep:=u.keep,slot:=u.slot,there:=u.there,tups:=λb xs e=>keep _ _ (u.tups b xs e),frzs:=λb q r e=>keep _ _ (u.frzs b q r e),
   tbls:=λb ps e=>by obtain⟨more,h⟩:=u.tbls b ps e;exact⟨more,keep _ _ h⟩,
   free:=λb q e n g=>by
    have ne:b≠a:=λz=>by
     rcases C with h|h
     ·exact g (z ▸ h)
     ·exact bx _ (ba (az e) (z ▸ h))
    rw[aC ne]
    exact u.free b q e n g}
 ·rw[aC (Ne.symm f1)];exact I.free
 ·intro x c e;rw[aC (B x c e)];exact I.freeC x c e
 ·intro p i;obtain⟨v,m,l⟩:=I.pin p i;exact⟨v,by rw[aC (A p i)];exact m,l⟩
 ·intro b u e;by_cases j:b=a
  ·subst j;rw[upd_same]at e;cases e;exact new
  ·rw[aC j]at e;exact(I.hok b u e).stay (λ_ _ _ q=>q) (λc q=>keep _ _ q) (λc xs q=>keep _ _ q)
theorem fT.at {X:Cx}{a:cZ}{H H':Hp}{b:Addr}(f:fT X a H b)(h:H' b=none):fT X a H' b:=⟨h,f.2⟩
def xU (vs:bQ)(ks:List fU):Prop:=ks.length=vs.length/\∀(i:Nat) (k:fU) (v:Value),ks[i]?=some k->vs[i]?=some v->keyIs k v=true/\v.scannable=true
def LK (P:Program)(w:World)(h:Heap)(S:Addr)(ks:List fU)(i:Nat):Prop:=h.SetOf (cQ P w) S (λk=>(ks.take i).any λx=>decide (x=k)) i
theorem LK.at {P:Program}{w:World}{h h':Heap}{S:Addr}{ks:List fU}{i:Nat}(x:LK P w h S ks i)(k:∀o,h.get? S=some o->h'.get? S=some o):LK P w h' S ks i:=by obtain⟨o,es,ep,t,e,r⟩:=x;exact⟨o,es,ep,t,k _ e,r⟩
local macro_rules | `(tactic| walk_at "sd_on")=>`(tactic| (repeat (any_goals (first | assumption | wp_step))))
section
variable {P:Program}{w:World}{A:Around}
theorem EA {I S:Addr}{R:Result->Shared->Prop}{s:Shared}(h:wpAny (model P w) A.in1 (Builtin.«set.update.loop» ⟨[.ref S,.ref I],[]⟩) (λy s'=>match y with | .done f=>R (.ok f) s' | .again c=>c.quiet=true/\codeAny (model P w) A c R s') (λe s'=>R (.error e) s') s):codeAny (model P w) A (.builtin "set.update.loop" ⟨[.ref S,.ref I],[]⟩) R s :=
 codeAny_builtin F.entry_set_update_loop (by rw[Around.under_plainId F.plain_set_update_loop _];exact h)
theorem IQ {l I S:Addr}{items:bQ}{ks:List fU}(Z:A.handled=none)(J:xU items ks)(nd:ks.Nodup)(hb:items.length+1<scanBound)(n1:S≠I)(n2:l≠I)(n3:l≠S){R:Result->Shared->Prop} :
  ∀(j i:Nat) (s:Shared),i+j=items.length->s.heap.IsListIter I l i->s.heap.IsList l items.toArray->LK P w s.heap S ks i ->
   (∀h' tk,LK P w h' S ks items.length->(∀b o,b≠S->b≠I->s.heap.get? b=some o->h'.get? b=some o)->R (.ok (.ret .none)) {s with heap:=h',toks:=tk}) ->
   codeAny (model P w) A (.builtin "set.update.loop" ⟨[.ref S,.ref I],[]⟩) R s:=by
 intro j
 induction j with
 | zero =>
  intro i s e it f C E;rw[Nat.add_zero]at e;subst e;refine EA ?_;refine aa (wpAny_pyNext_list_end (A:=A.in1) Z it f (by simp) λh' O=>?_);exact al (E h' s.toks (C.at λo z=>O _ _ n1 z) λb o _ hI z=>O b o hI z)
 | succ j W =>
  intro i s e it f C E;have r:i<items.length:=by omega
  have L:i<ks.length:=by rw[J.1];exact r
  obtain⟨is,U⟩:=J.2 i ks[i] items[i] (aw L) (aw r);refine EA ?_;refine aa (wpAny_pyNext_list_item (A:=A.in1) (x:=items[i]) it f (by simp[r]) λG q c=>?_);have v:LK P w G S ks i:=C.at λo z=>(c.2 S n1).trans z;show wpAny _ A.in1 (holding [items[i]] (setAdd S items[i]) >>= _) _ _ {s with heap:=G};refine aa (ca (show wpAny _ _ (setAdd S items[i]) _ _ _ from ?_));unfold setAdd;refine ca (aa ((cQ P w).pyHash (k:=ks[i]) is ?_));refine wpAny_setAddHashed_of (knd:=cQ P w) (s:={s with heap:=G,toks:=s.toks+1}) is U v (by omega) λN a d=>?_;have new:((ks.take i).any λx=>decide (x=ks[i]))=false:=by rw[List.any_eq_false];intro x X z;have z:=bn z;obtain⟨m,Y,H⟩:=List.mem_iff_getElem.mp X;rw[z]at H;rw[bo]at Y;rw[List.getElem_take]at H;have:=(List.getElem_inj nd).mp H;omega
  rw[new]at d;have fe:(λK=>((ks.take i).any λx=>decide (x=K)) || decide (K=ks[i]))=λk=>(ks.take (i+1)).any λx=>decide (x=k):=by funext k;rw[List.take_succ_eq_append_getElem L,List.any_append,List.any_cons,List.any_nil,Bool.or_false];congr 1;exact decide_eq_decide.mpr eq_comm
  rw[fe]at d;have u:LK P w N S ks (i+1):=d;refine al ⟨plainId_quiet F.plain_set_update_loop _,W (i+1) {s with heap:=N,toks:=s.toks+1} (by omega) ?_ ?_ u λh' tk B kp=>?_⟩
  ·obtain⟨o,h,g⟩:=q;exact⟨o,(a.2 I n1.symm).trans h,g⟩
  ·obtain⟨o,h,g⟩:=f;exact⟨o,(a.2 l n3).trans ((c.2 l n2).trans h),g⟩
  ·exact E h' tk B λb o Q T z=>kp b o Q T ((a.2 b Q).trans ((c.2 b T).trans z))
theorem HA {E:cJ}{s:Shared}{l:Addr}{items:bQ}{ks:List fU}{Q:cJ}(J:A.handled=none)(I:s.heap.IsList l items.toArray)(H:xU items ks)(nd:ks.Nodup)(L:items.length+1<scanBound)
  (h:∀(h':Heap) (tk:Nat),LK P w h' s.heap.objs.size ks items.length->(∀b o,s.heap.get? b=some o->h'.get? b=some o)->Q (.ref s.heap.objs.size) {s with heap:=h',toks:=tk}) :
  wpAny (model P w) A (call (.type "set") [.ref l]) Q E s:=by
 obtain⟨c,tl,X⟩:=F.called_set.mro;have W:=F.called_set.made;have U:=F.called_set.sub;refine wpAny_call (codeAny_of_tree (al ⟨Code.quiet_builtin _ (by decide +kernel),codeAny_builtin F.entry_type_call ?_⟩));have z:=weight_type_call_type "set" [.ref l] [];rw[Around.under_plain z rfl];have T:=F.called_set.notType;have S:=F.called_set.canCreate;have O:=F.typeCall_set_1 (.ref l)
 walk_at "sd_on"
 refine codeAny_mono (code_set_new_1 (.ref l) (E:=E) (Q₁:=λobj v=>∃a:Bool,obj = .ref s.heap.objs.size/\v={s with heap:=s.heap.push {cls:=.type "set",dict:=none,data:=.set #[] 0 (.fresh 0 0 a)} }) λa=>⟨a,rfl,rfl⟩) λr v g=>?_;cases r with
 | error e=>exact g
 | ok fl =>
  cases fl with
  | next=>exact g.elim
  | brk=>exact g.elim
  | cont=>exact g.elim
  | ret obj =>
   obtain⟨a,rfl,rfl⟩:=g;have x:(s.heap.push {cls:=.type "set",dict:=none,data:=.set #[] 0 (.fresh 0 0 a)}).get? s.heap.objs.size=some {cls:=.type "set",dict:=none,data:=.set #[] 0 (.fresh 0 0 a)}:=ar _ rfl;have B:Shared.TypeIs {s with heap:=s.heap.push {cls:=.type "set",dict:=none,data:=.set #[] 0 (.fresh 0 0 a)} } (.ref s.heap.objs.size) "set":=⟨_,x,rfl⟩
   have i1:=F.called_set.init.lookup;have i2:=F.called_set.init.bind (.ref s.heap.objs.size)
   walk_at "sd_on"
   refine codeAny_mono (codeAny_call_builtin (R:=wants (λr s2=>r = .none/\∃h' tk,s2={s with heap:=h',toks:=tk}/\LK P w h' s.heap.objs.size ks items.length/\∀b o,s.heap.get? b=some o->h'.get? b=some o) E) F.called_set.init.plain F.entry_set_init (check_set_init_1 B ?_)) λG s2 d=>?_
   ·obtain⟨⟨c1,d1,t1,C⟩,ho,j,n1,i⟩:=id I;simp only at j i;subst j i;have ho':=ag {cls:=.type "set",dict:=none,data:=.set #[] 0 (.fresh 0 0 a)} ho;have j1:=F.sub_list_set;have Z:=F.sub_list_frozenset;have Y:(Value.type "list" == Value.type "dict")=false:=by decide
    have hl':(s.heap.push {cls:=.type "set",dict:=none,data:=.set #[] 0 (.fresh 0 0 a)}).IsList l items.toArray:=⟨_,ho',rfl,n1,rfl⟩
    unfold Builtin.«set.__init__» Builtin.Frozenset.updateFrom noKeywords;generalize u:pyIter=PI
    wp_walk
    subst u;refine wpAny_pyIter_list hl' (aa (wpAny_runValue ?_));have lt:=az ho;have m:(s.heap.push {cls:=.type "set",dict:=none,data:=.set #[] 0 (.fresh 0 0 a)}).objs.size=s.heap.objs.size+1:=Heap.size_push _ _;refine IQ (P:=P) (w:=w) (items:=items) (ks:=ks) (l:=l) (by simp[J]) H nd L (by rw[m];exact bi (Nat.lt_succ_self _)) (by rw[m];exact bi (Nat.lt_succ_of_lt lt)) (bi lt) items.length 0 _ (Nat.zero_add _) ⟨_,ar _ rfl,rfl,rfl⟩ (hl'.push _) ?_ λh' tk f kp=>?_
    ·have N:=ag {cls:=.type "list_iterator",data:=.fields #[.ref l,.int 0 0]} x;refine⟨_,#[],0,.fresh 0 0 a,N,⟨rfl,rfl,rfl⟩,rfl,(λe K=>absurd K (by simp)),λk=>?_,(by show 0<scanBound;omega),(by cases a <;> decide),rfl⟩;simp
    ·refine al (al ⟨rfl,h',tk,rfl,f,λb o e=>kp b o (bi (az e)) (by rw[m];exact bi (Nat.lt_succ_of_lt (az e))) (ag _ (ag _ e))⟩)
   ·cases G with
    | error e=>exact d
    | ok f2 =>
     cases f2 with
     | next=>exact d.elim
     | brk=>exact d.elim
     | cont=>exact d.elim
     | ret r =>
      obtain⟨rfl,h',tk,rfl,f,q⟩:=d
      walk_at "sd_on"
      exact h _ _ f q
end
noncomputable abbrev AD (P:Program)(w:World)(a:Addr)(n:Nat):HO:=.ext λh=>∃ks,LK P w h a ks n
theorem LY {P:Program}{w:World}{H:Hp}{h:Heap}{a:Addr}{n:Nat}{ks:List fU}(x:LK P w h a ks n):cF P w H h a (AD P w a n):=by refine⟨⟨ks,x⟩,?_,λd c ⟨b,y⟩ k=>⟨b,y.at λo e=>k o e⟩⟩;obtain⟨o,_,_,_,e,_⟩:=x;exact⟨o,e⟩
theorem CD:∀{ss:aN} {us:bQ},aT (ss.map V.str) us->xU us (ss.map Sum.inr):=by
 intro ss us h;refine⟨by rw[af,←h.length,af],λi k v a d=>?_⟩;rw[bu]at a;cases hs:ss[i]? with
 | none=>rw[hs]at a;cases a
 | some x =>
  rw[hs]at a;cases a;obtain⟨u,b,c⟩:=h.get (i:=i) (x:=.str x) (by rw[bu,hs];rfl);rw[d]at b;cases b;obtain⟨t,rfl⟩:=c;exact⟨uV x t,rfl⟩
section
variable {X:Cx}
def rSetT (P:Program)(w:World):List V->Hp->VK->Prop:=λxs H Q=>∃(l:Addr) (ss:aN),xs=[.ref l]/\H l=some (.lst (ss.map V.str))/\ss.Nodup/\ss.length<=100/\∀p,H p=none->Q (.ref p) (upd H p (AD P w p ss.length))
theorem vC (i:X.calm=true):dN X (.type "set") (rSetT X.prog X.w):=by
 intro a s σ H xs us Q I c h;obtain⟨l,ss,rfl,g,nd,le,q⟩:=h;obtain⟨u,rfl,d⟩:=aT.one c;cases d;obtain⟨its,r,pl,hz⟩:=I.list (eH.of g);have len:its.length=ss.length:=by rw[←r.length,af]
 refine HA (P:=X.prog) (w:=X.w) (I.ok.hd i) pl.isList (CD r) ((List.pairwise_map.mpr (nd.imp λh e=>h (Sum.inr.inj e)))) (by rw[len];exact ak (Nat.succ_le_succ le) (by decide)) λh' tk b kp=>?_;have f:H s.heap.objs.size=none:=I.hok.fresh (ae _);rw[len]at b;exact⟨.ref s.heap.objs.size,_,I.laid (t':=tk) (o:=AD X.prog X.w s.heap.objs.size ss.length) kp (ae _) (LY b),rfl,q _ f⟩
def rLenS (P:Program)(w:World):List V->Hp->VK->Prop:=λxs H Q=>∃(a:Addr) (n:Nat),xs=[.ref a]/\H a=some (AD P w a n)/\Q (.int n) H
theorem vD:dN X (.builtin "len") (rLenS X.prog X.w):=by intro c s σ H xs us Q I d h;obtain⟨a,n,rfl,j,q⟩:=h;obtain⟨u,rfl,e⟩:=aT.one d;cases e;obtain⟨⟨ks,o,es,ep,t,ho,b,hd,_,_,i,g,f⟩,_⟩:=I.hok a _ j;have l:es.size<4096:=i;refine call_len_set ho b hd g (by omega) ?_;rw[f];exact⟨.int n,H,I.tok _,⟨_,rfl⟩,q⟩
end
noncomputable def byTx (w:World):Bool:=w.params.followText "set-order"
theorem ND (t:SetTable)(es:Array (Int×Value))(h:Int)(x:Value):(layNew t es h x).2.1.led=t.led:=by
 unfold layNew;cases t.freeSlot h with
 | none=>rfl
 | some p =>
  show((t.put p.1).1.orStandIn _).led=t.led;unfold SetTable.orStandIn;split <;> rfl
theorem GR (t:SetTable)(es:Array (Int×Value))(n:Nat):(relayAll t es n).2.1.led=t.led/\(t.plain=false->(relayAll t es n).2.1.plain=false):=by
 unfold relayAll;cases e:t.relaid (es.map (·.1)) n with
 | none=>exact⟨rfl,λ_=>rfl⟩
 | some p =>
  have q:p.1.led=t.led/\p.1.plain=t.plain:=by
   unfold SetTable.relaid SetTable.laid at e;cases e2:SetTable.layClean (SetTable.sizeAbove n - 1) (es.map (·.1))with
   | none=>rw[e2]at e;cases e
   | some o=>rw[e2]at e;cases e;exact⟨rfl,rfl⟩
  obtain⟨t1,od⟩:=p;dsimp only at q⊢;split
  ·exact⟨q.1,λz=>q.2.trans z⟩
  ·exact⟨rfl,λ_=>rfl⟩
def iK (P:Program)(w:World)(h:Heap)(a:Addr)(ss:aN):Prop :=
 ∃o es ep t,h.get? a=some o/\o.ExactSet/\o.data = .set es ep t/\ElemsOf (PySem.strKind P w) es.toList/\(es.toList.map λe=>strOf e.2).Perm ss/\es.size<scanBound/\t.fits es.size=true/\t.led=!byTx w/\(es.size=0∨t.plain=false)
section
variable {P:Program}{w:World}{A:Around}{E:cJ}{s:Shared}{a:Addr}{ss:aN}
theorem iK.at {h h':Heap}(x:iK P w h a ss)(k:∀o,h.get? a=some o->h'.get? a=some o):iK P w h' a ss:=by obtain⟨o,es,ep,t,e,r⟩:=x;exact⟨o,es,ep,t,k _ e,r⟩
theorem mK {x:Str}{v:Value}:(PySem.strKind P w).is x v=true ↔ ∃t,v = .str x t:=by
 constructor
 ·intro h;obtain⟨t,e⟩:=Value.isStrOf_shape h;exact⟨t,e⟩
 ·rintro⟨t,rfl⟩;show Value.isStrOf x (.str x t)=true;simp[Value.isStrOf]
theorem G4 {es:List (Int×Value)}(c:ElemsOf (PySem.strKind P w) es)(x:Str):x∈es.map (λe=>strOf e.2) ↔ ∃e∈es,(PySem.strKind P w).is x e.2=true:=by
 rw[cr];constructor
 ·rintro⟨e,a,rfl⟩;obtain⟨⟨k,b,_⟩,_⟩:=c e a;obtain⟨t,z⟩:=mK.mp b;exact⟨e,a,mK.mpr ⟨t,by rw[z];rfl⟩⟩
 ·rintro⟨e,a,h⟩;obtain⟨t,z⟩:=mK.mp h;exact⟨e,a,by rw[z];rfl⟩
theorem yA {h:Heap}{o:Obj}{es b:Array (Int×Value)}{ep:Nat}{t t':SetTable}{ss':aN}(g:h.get? a=some o)(ex:o.ExactSet)(d:o.data = .set es ep t)(i:ElemsOf (PySem.strKind P w) b.toList)(j:(b.toList.map λe=>strOf e.2).Perm ss')(sm:b.size<scanBound)(f:t'.fits b.size=true)(c:t'.led=!byTx w)(pl:t'.plain=false) :
  (h.update a (Obj.putSet b t')).get? a=some {o with data:=.set b (ep+1) t'}/\iK P w (h.update a (Obj.putSet b t')) a ss':=by
 obtain⟨z,_⟩:=SetOf_store (knd:=PySem.strKind P w) (S':=λk=>b.toList.any λe=>(PySem.strKind P w).is k e.2) g ex d i (λk=>by rw[List.any_eq_true]) sm f;exact⟨z,_,b,ep+1,t',z,ex,rfl,i,j,sm,f,c,.inr pl⟩
theorem AB {x:Str}{tk:Tok}{Q:Bool->Shared->Prop}(T:iK P w s.heap a ss)(C:ss.length+1<scanBound)
  (k:∀h' b,Heap.SameBut a s.heap h'->iK P w h' a (if x∈ss then ss else ss++[x])->Q b {s with heap:=h'}):wpAny (model P w) A (setAddHashed a (.str x tk) ((PySem.strKind P w).hash x)) Q E s:=by
 obtain⟨o,es,ep,t,g,ex,d,N,X,sm,ft,G,pl⟩:=id T;have len:es.size=ss.length:=by rw[←X.length_eq];simp
 have is:(PySem.strKind P w).is x (.str x tk)=true:=mK.mpr ⟨tk,rfl⟩;have B:=byScan_of (x:=.str x tk) rfl sm N;have mem:x∈ss ↔ ∃e∈es.toList,(PySem.strKind P w).is x e.2=true:=X.mem_iff.symm.trans (G4 N x);have l:∀(b:Bool) {U:Shared} {Z:Unit->Shared->Prop},Z () U->wpAny (model P w) A (match b with|true=>rule "set.scan.the-table-gave-way" | false=>pure ()) Z E U:=λb U Z q=>by
  cases b
  ·exact al q
  ·exact wpAny_rule q
 unfold setAddHashed setAddHashedIn setAddByScan;apply ca;refine aa (wpAny_setState_of g d ft ?_);dsimp only;rw[aj B];refine aa (aa (wpAny_rule (aa (wpAny_setScan_of (knd:=PySem.strKind P w) is g d ft N ?_))));cases fd:es.toList.findIdx? λe=>(PySem.strKind P w).is x e.2 with
 | some j =>
  obtain⟨lt,O,_⟩:=List.findIdx?_eq_some_iff_getElem.mp fd;have z:x∈ss:=mem.mpr ⟨_,List.getElem_mem lt,O⟩;have q:=k s.heap false (.refl a s.heap);rw[aj z]at q;exact al (al (q T))
 | none =>
  have z:x∉ss:=λh=>by obtain⟨e,he,y⟩:=mem.mp h;have n:=List.findIdx?_eq_none_iff.mp fd e he;rw[y]at n;cases n
  rw[ac z]at k;dsimp only;have u:=layNew_perm t es ((PySem.strKind P w).hash x) (.str x tk);have K:=layNew_fits t es ((PySem.strKind P w).hash x) (.str x tk);have J:=ND t es ((PySem.strKind P w).hash x) (.str x tk);generalize layNew t es ((PySem.strKind P w).hash x) (.str x tk)=L at u K J⊢;obtain⟨c,t1,wd,gv⟩:=L;dsimp only at u K J⊢;rw[Array.toList_push]at u;have H:ElemsOf (PySem.strKind P w) c.toList:=(N.push is rfl).perm u;have S:c.size=es.size+1:=by rw[←bj,u.length_eq];simp
  have m:c.size<scanBound:=by rw[S,len];exact C
  have F:(c.toList.map λe=>strOf e.2).Perm (ss++[x]):=by refine(u.map _).trans ?_;rw[ax];exact X.append_right _
  refine aa (l _ ?_);have i:∀f:SetTable,f.fits c.size=true->f.led=!byTx w->f.plain=false ->
    wpAny (model P w) A (do
     storeSet a c f
     if (!wd && f.tooFull)=true then do
       (match(relayAll f c (SetTable.grown c.size)).2.2 with|true=>rule "set.scan.the-table-gave-way" | false=>pure ():Sem Unit)
       storeSet a (relayAll f c (SetTable.grown c.size)).1 (relayAll f c (SetTable.grown c.size)).2.1
       pure (some true)
      else pure (some true)) (λr s'=>wpAny (model P w) A (match r with|some b=>pure b|none=>setAddHashedIn a (.str x tk) ((PySem.strKind P w).hash x) 99999) Q E s') E s:=by
   intro f f2 l2 n2;obtain⟨g1,T1⟩:=yA (P:=P) (w:=w) g ex d H F m f2 l2 n2;refine aa (wpAny_storeSet_of g d ?_ (fits_of_scanBound m));have b1:=Heap.SameBut.update s.heap a (Obj.putSet c f);split
   ·have r1:=relayAll_perm f c (SetTable.grown c.size);have W:=relayAll_fits f c (SetTable.grown c.size);have I:=GR f c (SetTable.grown c.size);generalize relayAll f c (SetTable.grown c.size)=R at r1 W I⊢;obtain⟨e2,t3,gv2⟩:=R;dsimp only at r1 W I⊢;have v:e2.size<scanBound:=by rw[←bj,r1.length_eq,bj];exact m
    obtain⟨g2,T2⟩:=yA (P:=P) (w:=w) (ss':=ss++[x]) g1 ex rfl (H.perm r1) ((r1.map _).trans F) v W (I.1.trans l2) (I.2 n2);refine aa (l _ (aa (wpAny_storeSet_of g1 rfl ?_ (fits_of_scanBound v))));exact al (al (k _ _ (b1.trans (Heap.SameBut.update _ a _)) T2))
   ·exact al (al (k _ _ b1 T1))
  have pk:plainKind (.str x tk)=false:=rfl;by_cases Y:t1.plain=true
  ·rw[aj Y,hashByValue_scannable 8 rfl,pk];refine aa (al ?_);exact i {t1 with plain:=false} (SetTable.fits_plain_off K) (J.trans G) rfl
  ·rw[ac Y];refine aa (al ?_);exact i t1 K (J.trans G) (by simpa using Y)
end
theorem bB:Slot "set_iterator" "__next__" "set_iterator.__next__" :=
 .of (owner:="set_iterator") (n:="__next__") (by rw[typeLookup_type,builtinLookup_eq_fast];kernel_rfl) (by decide +kernel) (by decide +kernel) (by decide +kernel) (by first|exact .inl (by decide +kernel)|exact .inr (by decide +kernel)) (by rw[isSubtype_type];kernel_rfl)
theorem iN:Slot "set_iterator" "__iter__" "set_iterator.__iter__" :=
 .of (owner:="set_iterator") (n:="__iter__") (by rw[typeLookup_type,builtinLookup_eq_fast];kernel_rfl) (by decide +kernel) (by decide +kernel) (by decide +kernel) (by first|exact .inl (by decide +kernel)|exact .inr (by decide +kernel)) (by rw[isSubtype_type];kernel_rfl)
theorem dU:entryFor table "set_iterator.__next__" = some Builtin.«set_iterator.__next__»:=entryFor_of_fast (by kernel_rfl)
theorem mW:entryFor table "set_iterator.__iter__" = some Builtin.«dict_keyiterator.__iter__»:=entryFor_alias (id':="dict_keyiterator.__iter__") (by kernel_rfl) rfl (by decide +kernel) (by kernel_rfl)
theorem eG (a:Value):argsOk "set_iterator.__next__" ⟨[a],[]⟩:=by unfold argsOk;kernel_rfl
theorem oH (a:Value):argsOk "set_iterator.__iter__" ⟨[a],[]⟩:=by unfold argsOk;kernel_rfl
theorem sR:entryFor table "set.__iter__" = some Builtin.«frozenset.__iter__»:=entryFor_alias (id':="frozenset.__iter__") (by kernel_rfl) rfl (by decide +kernel) (by kernel_rfl)
def eX (h:Heap)(it a:Addr)(first:Value)(i n ep:Nat):Prop:=∃o,h.get? it=some o/\o.cls = .type "set_iterator"/\o.data = .fields #[first,.int i 0,.ref a,.int n 0,.int ep 0]
structure lD (h:Heap)(a:Addr)(es:Array (Int×Value))(ep:Nat)(t:SetTable):Prop where
 ex:∃o,h.get? a=some o/\o.ExactSet/\o.data = .set es ep t
 fit:t.fits es.size=true
section
variable {P:Program}{w:World}{A:Around}{E:cJ}{s:Shared}{it a:Addr}{first:Value}{i n ep:Nat}{es:Array (Int×Value)}{t:SetTable}
theorem eX.ty (h:eX s.heap it a first i n ep):s.TypeIs (.ref it) "set_iterator":=by obtain⟨o,c,b,_⟩:=h;exact⟨o,c,b⟩
theorem eX.set {h:Heap}{o:Obj}{vs:i8}(k:Nat)(x:Value)(g:h.get? it=some o)(d:o.data = .fields vs):(h.update it (Obj.mapFields (·.setIfInBounds k x))).get? it=some (o.mapFields (·.setIfInBounds k x))/\(o.mapFields (·.setIfInBounds k x)).data = .fields (vs.setIfInBounds k x)/\(o.mapFields (·.setIfInBounds k x)).cls=o.cls:=by refine⟨Heap.get?_update_self _ g (Obj.isFreed_of_fields (Obj.data_mapFields d _)),Obj.data_mapFields d _,Obj.cls_mapFields ..⟩
theorem yB {k nx:Nat}{x:Value}{Q:Option Value->Shared->Prop}(b:eX s.heap it a (.int k 0) i n ep)(S:lD s.heap a es ep t)(h:es.size=n)
  (sn:∀(A:Around) (E:cJ) (Q:Option (Value×Nat)->Shared->Prop),Q (some (x,nx)) s->wpAny (model P w) A (setNext a k i ep) Q E s)
  (q:∀h',eX h' it a (.int nx 0) (i+1) n ep->Heap.SameBut it s.heap h'->Q (some x) {s with heap:=h'}):wpAny (model P w) A (pyNext (.ref it)) Q E s:=by
 have ty:=b.ty;obtain⟨o,g,c,d⟩:=b;obtain⟨⟨C,j,B,r⟩,m⟩:=S;unfold pyNext;refine aa (wpAny_attempt (wpAny_callSpecial?_slot (name:=Str.ofString "__next__") ty bB (wpAny_call_entry bB ty dU ?_ (eG _))));show wpAny _ _ (fieldsOf (.ref it) >>= _) _ _ s;refine aa (wpAny_fieldsOf g d ?_);show wpAny _ _ (setEntries a >>= _) _ _ s;refine aa (wpAny_setEntries_of j r m ?_);rw[h,ac (by simp)];show wpAny _ _ (setNext a (k:Int).toNat (i:Int).toNat (ep:Int).toNat >>= _) _ _ s;rw[ci,ci,ci];refine aa (sn _ _ _ ?_);obtain⟨e,f,z⟩:=eX.set 0 (.int nx 0) g d;obtain⟨l,u,v⟩:=eX.set 1 (.int ((i:Int)+1) 0) e f;refine aa (wpAny_setField g d (by simp) (aa (wpAny_setField e f (by simp) (al ⟨x,rfl,al (q _ ⟨_,l,v.trans (z.trans c),?_⟩ ((Heap.SameBut.update ..).trans (Heap.SameBut.update ..)))⟩))));rw[u];simp
theorem DS {k:Nat}{Q:Option Value->Shared->Prop}(h:A.handled=none)(e:eX s.heap it a (.int k 0) i n ep)(S:lD s.heap a es ep t)(f:es.size=n)
  (sn:∀(A:Around) (E:cJ) (Q:Option (Value×Nat)->Shared->Prop),Q none s->wpAny (model P w) A (setNext a k i ep) Q E s)
  (q:∀h',Heap.ExtBut it s.heap h'->Q none {s with heap:=h'}):wpAny (model P w) A (pyNext (.ref it)) Q E s:=by
 have ty:=e.ty;obtain⟨o,g,c,d⟩:=e;obtain⟨⟨u,j,r,m⟩,l⟩:=S;unfold pyNext;refine aa (wpAny_attempt (wpAny_callSpecial?_slot (name:=Str.ofString "__next__") ty bB (wpAny_call_entry bB ty dU ?_ (eG _))));show wpAny _ _ (fieldsOf (.ref it) >>= _) _ _ s;refine aa (wpAny_fieldsOf g d ?_);show wpAny _ _ (setEntries a >>= _) _ _ s;refine aa (wpAny_setEntries_of j m l ?_);rw[f,ac (by simp)];show wpAny _ _ (setNext a (k:Int).toNat (i:Int).toNat (ep:Int).toNat >>= _) _ _ s;rw[ci,ci,ci];refine aa (sn _ _ _ (aa (wpAny_setField g d (by simp) ?_)))
 wp_walk
 refine wpAny_raiseNew_none h (aa (wpAny_isInstance (b:=true) ⟨_,ar _ rfl,rfl⟩ isSubtype_stop (al (q _ ?_))));exact((Heap.SameBut.update ..).extBut.push _).push _
end
section
variable {P:Program}{w:World}{A:Around}{E:cJ}{s:Shared}{it a tp:Addr}{first:Value}{i n ep:Nat}{es:Array (Int×Value)}{t:SetTable}{od:List Nat}
noncomputable def j5 (od:List Nat):i8:=(od.map λ(i:Nat)=>rawInt i).toArray
theorem CM {Q:Option Value->Shared->Prop}{p:Nat}{e:Int×Value}(b:eX s.heap it a (.ref tp) i n ep)(T:∃o k,s.heap.get? tp=some o/\o.data = .seq (j5 od) k)(S:lD s.heap a es ep t)(m:es.size=n)(l:od[i]?=some p)(r:es[p]?=some e)
  (q:∀h',eX h' it a (.ref tp) (i+1) n ep->Heap.SameBut it s.heap h'->Q (some e.2) {s with heap:=h'}):wpAny (model P w) A (pyNext (.ref it)) Q E s:=by
 have ty:=b.ty;obtain⟨o,g,c,d⟩:=b;obtain⟨⟨G,f,C,j⟩,h⟩:=S;obtain⟨F,H,u,x⟩:=T;unfold pyNext;refine aa (wpAny_attempt (wpAny_callSpecial?_slot (name:=Str.ofString "__next__") ty bB (wpAny_call_entry bB ty dU ?_ (eG _))));show wpAny _ _ (fieldsOf (.ref it) >>= _) _ _ s;refine aa (wpAny_fieldsOf g d ?_);show wpAny _ _ (setEntries a >>= _) _ _ s;refine aa (wpAny_setEntries_of f j h ?_);rw[m,ac (by simp)];show wpAny _ _ (seqItems? (.ref tp) >>= _) _ _ s;refine aa (wpAny_seqItems u x ?_);have at_:(j5 od)[i]?=some (.int p 0):=by simp[j5,l,rawInt]
 dsimp only;rw[ci,at_];dsimp only;rw[ci,ci];unfold setNextDrawn;refine aa (aa (wpAny_setState_of f j h ?_));dsimp only;rw[ac (by simp),r];refine al ?_;obtain⟨v,z,B⟩:=eX.set 1 (.int ((i:Int)+1) 0) g d;refine aa (wpAny_setField g d (by simp) (al ⟨e.2,rfl,al (q _ ⟨_,v,B.trans c,?_⟩ (Heap.SameBut.update ..))⟩));rw[z];simp
theorem G5 {Q:Option Value->Shared->Prop}(j:A.handled=none)(e:eX s.heap it a (.ref tp) i n ep)(T:∃o k,s.heap.get? tp=some o/\o.data = .seq (j5 od) k)(S:lD s.heap a es ep t)(h:es.size=n)(f:od[i]?=none)
  (q:∀h',Heap.ExtBut it s.heap h'->Q none {s with heap:=h'}):wpAny (model P w) A (pyNext (.ref it)) Q E s:=by
 have ty:=e.ty;obtain⟨o,g,c,d⟩:=e;obtain⟨⟨F,m,B,x⟩,u⟩:=S;obtain⟨C,G,l,v⟩:=T;unfold pyNext;refine aa (wpAny_attempt (wpAny_callSpecial?_slot (name:=Str.ofString "__next__") ty bB (wpAny_call_entry bB ty dU ?_ (eG _))));show wpAny _ _ (fieldsOf (.ref it) >>= _) _ _ s;refine aa (wpAny_fieldsOf g d ?_);show wpAny _ _ (setEntries a >>= _) _ _ s;refine aa (wpAny_setEntries_of m x u ?_);rw[h,ac (by simp)];show wpAny _ _ (seqItems? (.ref tp) >>= _) _ _ s;refine aa (wpAny_seqItems l v ?_);have at_:(j5 od)[i]?=none:=by simp[j5]at f⊢;exact f
 dsimp only;rw[ci,at_];dsimp only;obtain⟨r,z,H⟩:=eX.set 0 (.int 0 0) g d;refine aa (wpAny_setField g d (by simp) (aa (wpAny_setField r z (by simp) ?_)))
 wp_walk
 refine wpAny_raiseNew_none j (aa (wpAny_isInstance (b:=true) ⟨_,ar _ rfl,rfl⟩ isSubtype_stop (al (q _ ?_))));exact(((Heap.SameBut.update ..).trans (Heap.SameBut.update ..)).extBut.push _).push _
theorem C0 {src:Source}{n:Nat}{Q:Nat->Shared->Prop}(h:n≠0)(q:∀d a,d<n->Q d {s with drawn:=a}):wpAny (model P w) A (choose src n) Q E s:=λΓ p _=>by unfold choose;rw[PySem.Sem.wp_choose];exact⟨h,q _ _ (Nat.mod_lt _ (Nat.pos_of_ne_zero h))⟩
theorem mQ {α:Type}:∀(l:List α) (i:Nat) (h:i<l.length),(l[i]::l.eraseIdx i).Perm l
 | x::l,0,_=>.rfl
 | x::l,i+1,h=>(List.Perm.swap ..).trans ((mQ l i (Nat.lt_of_succ_lt_succ h)).cons x)
theorem CN {α:Type}:∀(n:Nat) (xs:List α) (s:Shared) {Q:List α->Shared->Prop},xs.length=n->(∀a c,a.Perm xs->Q a {s with drawn:=c})->wpAny (model P w) A (drawOrder n xs) Q E s:=by
 intro n
 induction n with
 | zero =>
  intro xs s Q h q;rw[List.length_eq_zero_iff.mp h]at q⊢;exact al (q [] s.drawn .rfl)
 | succ n f =>
  intro xs s Q h q;cases xs with
  | nil=>cases h
  | cons x0 rest =>
   unfold drawOrder;refine aa (C0 (by simp) λd c hd=>?_);rw[aw hd];have b:=mQ (x0::rest) d hd;refine aa (f _ _ (by have:=b.length_eq;simp only[ap]at this h⊢;omega) λa g e=>al (q _ _ ((e.cons _).trans b)))
theorem lY (g:byTx w=true)(S:lD s.heap a es ep t){k:Nat}{Q:Option (Value×Nat)->Shared->Prop}(q:Q (((pickOrder (w.params.setOrder a ep) es)[i]?).map λe=>(e.2,k)) s):wpAny (model P w) A (setNext a k i ep) Q E s:=by obtain⟨⟨j,b,h,d⟩,c⟩:=S;unfold setNext setWalk setsByText;refine aa (wpAny_setState_of b d c (aa (aa (wpAny_askSetting (al ?_)))));have f:({program:=(model P w).prog,params:=(model P w).w.params}:Setting).params.followText "set-order" = true:=g;rw[aj f];dsimp only;rw[ac (by simp)];refine aa (aa (wpAny_setState_of b d c (aa (aa (wpAny_askSetting (al ?_))))));rw[aj f];exact aa (wpAny_askSetting (al (al q)))
end
theorem MB {α:Type}(f:Nat->Nat):∀(n k:Nat) (left:List α) (out:Array α),left.length=n->(pickOrder.go f n k left out).toList.Perm (out.toList++left):=by
 intro n
 induction n with
 | zero=>intro k left out h;rw[List.length_eq_zero_iff.mp h,bh];exact .rfl
 | succ n b =>
  intro k left out h;have lt:f k % left.length<left.length:=Nat.mod_lt _ (by omega);have a:=mQ left _ lt;unfold pickOrder.go;rw[aw lt];refine(b _ _ _ (by have:=a.length_eq;simp only[ap]at this;omega)).trans ?_;rw[Array.toList_push,cg];exact a.append_left _
theorem pB {α:Type}(f:Nat->Nat)(xs:Array α):(pickOrder f xs).toList.Perm xs.toList:=by
 have:=MB f xs.size 0 xs.toList #[] (by simp)
 simpa [pickOrder] using this
theorem vI (j:Nat):SetTable.below #[j] 0=0/\SetTable.below #[j] (j+1)=1:=by constructor <;> simp[SetTable.below,SetTable.below.go]
section
variable {P:Program}{w:World}{A:Around}{E:cJ}{s:Shared}{it a tp:Addr}{first:Value}{i n ep:Nat}{es:Array (Int×Value)}{t:SetTable}{od:List Nat}
noncomputable def nX (es:Array (Int×Value))(t:SetTable)(k:Nat):Option (Value×Nat):=match es[SetTable.below t.place k]?,t.place[SetTable.below t.place k]? with|some (_,x),some j=>some (x,j+1)|_,_=>none
theorem nI (f:byTx w=false)(sm:es.size<=1)(b:t.led=true)(S:lD s.heap a es ep t){k:Nat}{Q:Option (Value×Nat)->Shared->Prop}(q:Q (nX es t k) s):wpAny (model P w) A (setNext a k i ep) Q E s:=by
 obtain⟨⟨l,c,j,e⟩,d⟩:=S;have g:({program:=(model P w).prog,params:=(model P w).w.params}:Setting).params.followText "set-order" = false:=f;unfold setNext setsByText;refine aa (wpAny_setState_of c e d (aa (aa (wpAny_askSetting (al ?_)))));rw[g,ac Bool.false_ne_true];dsimp only;split
 ·rename_i h;have h:(!t.plain && decide (es.size > 1))=true:=h;simp only[Bool.and_eq_true,decide_eq_true_eq]at h;omega
 ·refine aa (show wpAny _ _ (if (!t.led && !es.isEmpty)=true then unsupported "set:maker-not-led" else pure ()) _ _ _ from ?_);rw[b,ac (by simp)];exact al (al q)
def OK (w:World)(it a tp:Addr)(es:Array (Int×Value))(ep:Nat)(t:SetTable)(vs:bQ)(i:Nat)(h:Heap):Prop :=
 lD h a es ep t/\((byTx w=true/\eX h it a (.int (0:Nat) 0) i es.size ep/\vs=(pickOrder (w.params.setOrder a ep) es).toList.map (·.2)) ∨
  (byTx w=false/\es.size<=1/\t.led=true/\(∃k:Nat,eX h it a (.int k 0) i es.size ep/\((i=0/\k=0)∨(i=1/\∃j,t.place = #[j]/\k=j+1)))/\vs=es.toList.map (·.2)) ∨
  ∃od:List Nat,eX h it a (.ref tp) i es.size ep/\(∃o k,h.get? tp=some o/\o.data = .seq (j5 od) k)/\od.Perm (List.range es.size)/\vs=od.map λp=>(es.getD p (0,.none)).2)
theorem eX.at {h h':Heap}(x:eX h it a first i n ep)(k:∀o,h.get? it=some o->h'.get? it=some o):eX h' it a first i n ep:=by obtain⟨o,e,r⟩:=x;exact⟨o,k _ e,r⟩
theorem lD.at {h h':Heap}(x:lD h a es ep t)(k:∀o,h.get? a=some o->h'.get? a=some o):lD h' a es ep t:=by obtain⟨⟨o,e,r⟩,f⟩:=x;exact⟨⟨o,k _ e,r⟩,f⟩
theorem rP {Q:cJ}(b:eX s.heap it a first i n ep)(q:Q (.ref it) s):wpAny (model P w) A (pyIter (.ref it)) Q E s:=by have ty:=b.ty;refine wpAny_pyIter_slot ty iN (wpAny_call_entry iN ty mW ?_ (oH _));exact al ⟨_,rfl,"set_iterator",_,ty,bB.lookup,q⟩
theorem FB {α:Type}{es:Array α}(h:es.size=1):∃e,es = #[e]:=by
 obtain⟨l⟩:=es;cases l with
 | nil=>cases h
 | cons e r =>
  cases r with
  | nil=>exact⟨e,rfl⟩
  | cons=>cases h
theorem uM (K:A.handled=none)(na:a≠it)(nt:tp≠it){vs:bQ}:Walks P w A it [it,a,tp] [it] es.size (λi v=>vs[i]?=some v) (OK w it a tp es ep t vs) where
 sub:=λb O=>by simp only[ck]at O;simp[O]
 frame:=by
  rintro i h h' ⟨S,m⟩ k;have k1:=k it (by simp);have k2:=k a (by simp);have k3:=k tp (by simp);refine⟨S.at k2,?_⟩;rcases m with⟨d,l,r⟩|⟨d,l,r,⟨k,u,B⟩,C⟩|⟨od,d,⟨o,c,l,r⟩,u⟩
  ·exact .inl ⟨d,l.at k1,r⟩
  ·exact .inr (.inl ⟨d,l,r,⟨k,u.at k1,B⟩,C⟩)
  ·exact .inr (.inr ⟨od,d.at k1,⟨o,c,k3 _ l,r⟩,u⟩)
 item:=by
  rintro i s Q E lt ⟨S,m⟩ q;have keep:∀h',Heap.SameBut it s.heap h'->∀b o,b∉[it]->s.heap.get? b=some o->h'.get? b=some o:=λh' x b o J e=>x.extBut b o (by simpa using J) e;rcases m with⟨d,l,r⟩|⟨d,l,r,⟨k,u,B⟩,C⟩|⟨od,d,⟨o,c,l,r⟩,u,B⟩
  ·have H:=pB (w.params.setOrder a ep) es;have U:(pickOrder (w.params.setOrder a ep) es).size=es.size:=by rw[←bj,H.length_eq,bj]
   have g:(pickOrder (w.params.setOrder a ep) es)[i]?=some ((pickOrder (w.params.setOrder a ep) es)[i]'(by omega)):=Array.getElem?_eq_getElem _;refine yB l S rfl (λA E Q z=>lY d S (by rw[g];exact z)) λh' F x=>q _ h' s.toks ?_ ⟨S.at λo e=>x.extBut _ _ na e,.inl ⟨d,F,r⟩⟩ (keep h' x);rw[r,bu,Array.getElem?_toList,g];rfl
  ·have R:es.size=1:=by omega
   have W:i=0:=by omega
   subst W;have k0:k=0:=by rcases B with z|z;exact z.2;exact absurd z.1 (by omega)
   subst k0;obtain⟨e,N⟩:=FB R;obtain⟨j,G⟩:∃j,t.place = #[j]:=by have f:=S.fit;simp only[SetTable.fits,Bool.and_eq_true,beq_iff_eq]at f;rw[R]at f;exact FB f.1
   have I:nX es t 0=some (e.2,j+1):=by unfold nX;rw[G,(vI j).1,N];rfl
   refine yB u S rfl (λA E Q z=>nI d l r S (by rw[I];exact z)) λh' F x=>q _ h' s.toks ?_ ⟨S.at λo e=>x.extBut _ _ na e,.inr (.inl ⟨d,l,r,⟨j+1,F,.inr ⟨rfl,j,G,rfl⟩⟩,C⟩)⟩ (keep h' x);rw[C,N];rfl
  ·have X:od.length=es.size:=by rw[u.length_eq,List.length_range]
   have g:od[i]?=some (od[i]'(by omega)):=aw _;have lp:od[i]'(by omega)<es.size:=List.mem_range.mp (u.mem_iff.mp (List.getElem_mem _));refine CM d ⟨o,c,l,r⟩ S rfl g (Array.getElem?_eq_getElem lp) λh' F x=>q _ h' s.toks ?_ ⟨S.at λo e=>x.extBut _ _ na e,.inr (.inr ⟨od,F,⟨o,c,x.extBut _ _ nt l,r⟩,u,B⟩)⟩ (keep h' x);rw[B,bu,g];simp[lp]
 done:=by
  rintro s Q E ⟨S,m⟩ q;have keep:∀h',Heap.ExtBut it s.heap h'->Q none {s with heap:=h',toks:=s.toks}:=λh' x=>q h' s.toks λb o J e=>x b o (by simpa using J) e;rcases m with⟨d,l,r⟩|⟨d,l,r,⟨k,u,B⟩,C⟩|⟨od,d,⟨o,c,l,r⟩,u,B⟩
  ·have H:=pB (w.params.setOrder a ep) es;have U:(pickOrder (w.params.setOrder a ep) es).size=es.size:=by rw[←bj,H.length_eq,bj]
   have g:(pickOrder (w.params.setOrder a ep) es)[es.size]?=none:=Array.getElem?_eq_none (by omega);exact DS K l S rfl (λA E Q z=>lY d S (by rw[g];exact z)) keep
  ·have I:nX es t k=none:=by
    unfold nX;rcases B with⟨T,L⟩|⟨T,j,G,L⟩
    ·have:es[SetTable.below t.place k]?=none:=Array.getElem?_eq_none (by omega);rw[this]
    ·have:es[SetTable.below t.place k]?=none:=by rw[G,L,(vI j).2];exact Array.getElem?_eq_none (by omega)
     rw[this]
   exact DS K u S rfl (λA E Q z=>nI d l r S (by rw[I];exact z)) keep
  ·exact G5 K d ⟨o,c,l,r⟩ S rfl (List.getElem?_eq_none (by rw[u.length_eq,List.length_range];exact ae _)) keep
 self:=by
  rintro i s Q E ⟨S,m⟩ q;rcases m with⟨d,l,r⟩|⟨d,l,r,⟨k,u,B⟩,C⟩|⟨od,d,_⟩
  ·exact rP l q
  ·exact rP u q
  ·exact rP d q
end
theorem BB:typeLookup (.type "set") "__len__" = pure (some (.builtin "set.__len__")):=by rw[typeLookup_type,builtinLookup_eq_fast];kernel_rfl
theorem LV:isSubtype (.type "set") (.type "set")=pure true:=by rw[isSubtype_type];kernel_rfl
section
variable {P:Program}{w:World}{A:Around}{E:cJ}{s:Shared}{it a tp:Addr}{ss:aN}
structure RI (w:World)(h h':Heap)(a:Addr)(ss:aN)(it tp:Addr)(es:Array (Int×Value))(ep:Nat)(t:SetTable)(vs:bQ):Prop where
 st:OK w it a tp es ep t vs 0 h'
 na:a≠it
 nt:tp≠it
 it0:h.objs.size<=it
 tp0:tp=a∨h.objs.size<=tp
 keep:∀b o,h.get? b=some o->h'.get? b=some o
 len:vs.length=es.size
 perm:(vs.map strOf).Perm ss
 txt:∀v∈vs,∃x k,v = .str x k
theorem IG {es:List (Int×Value)}(c:ElemsOf (PySem.strKind P w) es):∀e∈es,∃x k,e.2 = .str x k:=λe b=>by obtain⟨⟨k,a,_⟩,_⟩:=c e b;obtain⟨t,z⟩:=mK.mp a;exact⟨k,t,z⟩
theorem KI {Q:cJ}(X:iK P w s.heap a ss)(q:∀it tp es ep t vs h' u,RI w s.heap h' a ss it tp es ep t vs->Q (.ref it) {s with heap:=h',drawn:=u}):wpAny (model P w) A (pyIter (.ref a)) Q E s:=by
 obtain⟨o,es,ep,t,g,ex,d,I,G,sm,c,m,pl⟩:=id X;have ty:s.TypeIs (.ref a) "set":=⟨o,g,ex.1⟩
 have lt:=az g;have x:=IG I;have pv:((es.toList.map (·.2)).map strOf).Perm ss:=by rw[cf];exact G
 refine wpAny_pyIter_slot ty F.slot_set_iter (wpAny_call_entry F.slot_set_iter ty sR ?_ (F.args_set_iter_1 _));show wpAny _ _ (Builtin.Frozenset.sizeOf a >>= _) _ _ s;unfold Builtin.Frozenset.sizeOf;refine aa (aa (wpAny_setEntries_of g d c (al ?_)));unfold setDrawn setsByText;refine aa (aa (wpAny_setState_of g d c (aa (aa (wpAny_askSetting (al ?_))))));have J:({program:=(model P w).prog,params:=(model P w).w.params}:Setting).params.followText "set-order" = byTx w:=rfl;rw[J];dsimp only;refine al ?_;split
 ·rename_i hd;have hd:(!byTx w && (!t.plain && decide (es.size > 1)))=true:=hd;simp only[Bool.and_eq_true]at hd;have L:byTx w=false:=by simpa using hd.1
  refine aa (CN es.size (List.range es.size) s (by simp) λod u po=>?_);have B:od.length=es.size:=by rw[po.length_eq,List.length_range]
  have big:(od.map λ(i:Nat)=>rawInt i).length<=sizeLine:=by rw[af,B];exact fits_of_scanBound sm
  refine aa (wpAny_newTuple ?_ big);refine aa (wpAny_setEpoch_of (o:=o) (ag _ g) d c ?_);refine aa (bI (al ⟨_,rfl,"set_iterator",_,⟨_,ar _ rfl,rfl⟩,bB.lookup,?_⟩));have h:(s.heap.push {cls:=.type "tuple",data:=.seq (od.map λ(i:Nat)=>rawInt i).toArray}).objs.size=s.heap.objs.size+1:=Heap.size_push _ _;refine q _ s.heap.objs.size es ep t (od.map λp=>(es.getD p (0,.none)).2) _ u ⟨⟨⟨⟨o,ag _ (ag _ g),ex,d⟩,c⟩,.inr (.inr ⟨od,⟨_,ar _ rfl,rfl,rfl⟩,⟨_,0,ag _ (ar _ rfl),rfl⟩,po,rfl⟩)⟩,?_,?_,?_,.inr (ae _),λb o e=>ag _ (ag _ e),by rw[af,B],?_,?_⟩
  ·show a≠(s.heap.push _).objs.size;rw[h];exact bi (Nat.lt_succ_of_lt lt)
  ·show s.heap.objs.size≠(s.heap.push _).objs.size;rw[h];omega
  ·show s.heap.objs.size<=(s.heap.push _).objs.size;rw[h];omega
  ·have e:(List.range es.size).map (λp=>(es.getD p (0,.none)).2)=es.toList.map (·.2):=by
    apply List.ext_getElem
    ·simp
    ·intro i C K;simp at C;simp[C]
   refine((po.map _).map strOf).trans ?_;rw[e];exact pv
  ·intro v f;obtain⟨p,H,rfl⟩:=cr.mp f;have lp:p<es.size:=List.mem_range.mp (po.mem_iff.mp H);have:es.getD p (0,.none)=es[p]:=by simp[lp]
   rw[this];exact x _ (by simp)
 ·rename_i hd;have hd:¬(!byTx w && (!t.plain && decide (es.size > 1)))=true:=hd;refine aa (al (aa (wpAny_setEpoch_of g d c (aa (bI (al ⟨_,rfl,"set_iterator",_,⟨_,ar _ rfl,rfl⟩,bB.lookup,?_⟩))))));have it0:eX (s.heap.push {cls:=.type "set_iterator",data:=.fields #[.int (0:Nat) 0,.int (0:Nat) 0,.ref a,.int es.size 0,.int ep 0]}) s.heap.objs.size a (.int (0:Nat) 0) 0 es.size ep:=⟨_,ar _ rfl,rfl,rfl⟩
  have S:lD (s.heap.push {cls:=.type "set_iterator",data:=.fields #[.int (0:Nat) 0,.int (0:Nat) 0,.ref a,.int es.size 0,.int ep 0]}) a es ep t:=⟨⟨o,ag _ g,ex,d⟩,c⟩
  cases bt:byTx w with
  | true =>
   have l:=pB (w.params.setOrder a ep) es
   exact q _ a es ep t ((pickOrder (w.params.setOrder a ep) es).toList.map (·.2)) _ s.drawn ⟨⟨S,.inl ⟨bt,it0,rfl⟩⟩,bi lt,bi lt,ae _,.inl rfl,λb o e=>ag _ e,by rw[af,l.length_eq,bj],((l.map _).map strOf).trans pv,λv f=>by
    obtain⟨e,r,rfl⟩:=cr.mp f
    exact x e (l.mem_iff.mp r)⟩
  | false =>
   have j:es.size<=1:=by
    rw[bt]at hd;rcases pl with z|z
    ·omega
    ·rw[z]at hd;simp at hd;exact hd
   exact q _ a es ep t (es.toList.map (·.2)) _ s.drawn ⟨⟨S,.inr (.inl ⟨bt,j,by rw[m,bt];rfl,⟨0,it0,.inl ⟨rfl,rfl⟩⟩,rfl⟩)⟩,bi lt,bi lt,ae _,.inl rfl,λb o e=>ag _ e,by simp,pv,λv f=>by
    obtain⟨e,r,rfl⟩:=cr.mp f
    exact x e r⟩
theorem IV {Q:Bool->Shared->Prop}(ty:s.TypeIs (.ref a) "set")(h:Q false s):wpAny (model P w) A (Builtin.List.listLengthHint (.ref a)) Q E s:=by
 have c:splitId "set.__len__" = some ("set","__len__"):=by decide +kernel
 delta Builtin.List.listLengthHint
 refine aa (wpAny_specialOf ty BB ?_);dsimp only;rw[c];dsimp only;refine aa (wpAny_isInstance (b:=true) ty LV ?_);rw[ac (by decide),aj (by decide +kernel)];refine aa (wpAny_typeOf ty ?_);exact al h
theorem zV {Q:bQ->Shared->Prop}(I:A.handled=none)(X:iK P w s.heap a ss)(hz:ss.length<=sizeLine)
  (q:∀(vs:bQ) (s':Shared),(vs.map strOf).Perm ss->(∀v∈vs,∃x k,v = .str x k)->(∀b o,s.heap.get? b=some o->s'.heap.get? b=some o)->s'.gens=s.gens->s'.os=s.os->Q vs s'):wpAny (model P w) A (collect (.ref a)) Q E s:=by
 have K:a<s.heap.objs.size:=by obtain⟨o,_,_,_,e,_⟩:=id X;exact az e
 unfold collect;refine aa (wpAny_runValue (codeAny_builtin PySem.F.entry_proto_collect ((Around.under_plainId PySem.F.plain_proto_collect _).symm ▸ ?_)));show wpAny (model P w) A.in1 (newList [] >>= λv=>again (.builtin "list.__iadd__" ⟨[v,.ref a],[]⟩)) _ _ s;refine aa (bI (al ⟨plainId_quiet PySem.F.plain_list_iadd _,?_⟩));have L:iK P w (s.heap.push {cls:=.type "list",data:=.seq #[]}) a ss:=X.at λo e=>ag _ e;have h:Shared.TypeIs {s with heap:=s.heap.push {cls:=.type "list",data:=.seq #[]} } (.ref a) "set":=by obtain⟨o,_,_,_,e,ex,_⟩:=L;exact⟨o,e,ex.1⟩
 have g:Builtin.List.listSameRef (.ref s.heap.objs.size) (.ref a)=false:=by simp[Builtin.List.listSameRef,Nat.ne_of_gt K]
 refine codeAny_builtin PySem.F.entry_list_iadd ((Around.under_plainId PySem.F.plain_list_iadd _).symm ▸ ?_);show wpAny (model P w) A.in1 (Builtin.List.listExtendWith (.ref s.heap.objs.size) (.ref a) (.ref s.heap.objs.size)) _ _ _
 delta Builtin.List.listExtendWith
 refine aa (wpAny_typeOf h ?_);rw[ac (by rw[g];decide)];refine aa (KI L λit tp es ep t vs h' Y W=>?_);refine aa (ca (IV (by obtain⟨o,e,c⟩:=h;exact⟨o,W.keep _ _ e,c⟩) ?_));rw[aj (by decide +kernel)];have l:h'.get? s.heap.objs.size=some (seqObj "list" #[] 0):=W.keep _ _ (ar _ rfl);have u:s.heap.objs.size≠a:=Nat.ne_of_gt K;have r:(s.heap.push {cls:=.type "list",data:=.seq #[]}).objs.size=s.heap.objs.size+1:=Heap.size_push _ _;have H:s.heap.objs.size≠it:=λz=>by have:=W.it0;rw[r]at this;exact bx _ (z ▸ this)
 have G:s.heap.objs.size≠tp:=λz=>by
  rcases W.tp0 with y|y
  ·exact u (z.trans y)
  ·rw[r]at y;exact bx _ (z ▸ y)
 refine aa (wpAny_rule (aa ?_));unfold Builtin.List.listTouch;have j:=get?_update_seq l (·.push Value.none);have B:=get?_update_seq j (·.pop);refine aa (listUpdate_at l rfl ?_);refine listUpdate_at j rfl ?_;have st:=(uM (P:=P) (A:=A.in1) I W.na W.nt (vs:=vs)).frame 0 h' ((h'.update s.heap.objs.size (Obj.mapSeq (·.push Value.none))).update s.heap.objs.size (Obj.mapSeq (·.pop))) W.st λb i o e=>by
  have N:b≠s.heap.objs.size:=λz=>by
   rw[cm,cm,ck]at i;rcases i with y|y|y
   ·exact H (z.symm.trans y)
   ·exact u (z.symm.trans y)
   ·exact G (z.symm.trans y)
  exact((Heap.SameBut.update ..).trans (Heap.SameBut.update ..)).extBut _ _ N e
 have Ws:=(uM (P:=P) (w:=w) (A:=A.in1) (es:=es) (ep:=ep) (t:=t) I W.na W.nt (vs:=vs)).toS;refine al ⟨plainId_quiet PySem.F.plain_extend_loop _,codeAny_extend_loopS Ws (by rw[←W.len,←af (f:=strOf),W.perm.length_eq];exact hz) s.heap.objs.size (by simp[u,H,G]) _ es.size 0 _ #[] _ rfl (au _) st B (ItemsOf.nil _) λs' d c m T S=>?_⟩;obtain⟨U,R⟩:=S;have same:d.toList=vs:=by
  refine List.ext_getElem? λk=>?_;by_cases O:k<d.size
  ·have J:d[k]?=some d[k]:=Array.getElem?_eq_getElem O;rw[Array.getElem?_toList,J];exact(R k _ J).symm
  ·rw[List.getElem?_eq_none (by simp;omega),List.getElem?_eq_none (by rw[W.len];omega)]
 refine aa (wpAny_load T (al ?_));rw[same];refine q vs s' W.perm W.txt (λb o e=>m.heap b o ?_ ?_) m.gens m.os
 ·have C:=az e;intro i;rw[cm,ck]at i;rcases i with y|y
  ·exact bi C y
  ·exact absurd (ba C (ao (by rw[r];exact Nat.le_succ _) W.it0)) (by rw[y];exact bx _)
 ·exact((Heap.SameBut.update ..).trans (Heap.SameBut.update ..)).extBut _ _ (bi (az e)) (W.keep _ _ (ag _ e))
end
theorem aQ.like {X:Cx}{a:cZ}{σ:St}{H:Hp}{s s':Shared}(I:aQ X a σ H s)(j:s'.heap=s.heap)(i:s'.gens=s.gens)(h:s'.os=s.os):aQ X a σ H s':=by obtain⟨r,q,o,g,f,e,m,l,d,b,c⟩:=I;rw[←j]at g f e d b;exact⟨r,h.trans q,i ▸ o,g,f,e,m,l,d,b,c⟩
theorem aQ.more {X:Cx}{a:cZ}{σ:St}{H:Hp}{s s':Shared}(I:aQ X a σ H s)(e:∀b o,s.heap.get? b=some o->s'.heap.get? b=some o)(d:s'.gens=s.gens)(c:s'.os=s.os):aQ X a σ H s' :=
 aQ.like (I.kept (h':=s'.heap) (t':=s'.toks) e) rfl d c
section
variable {P:Program}{w:World}{A:Around}{E:cJ}{s:Shared}{a:Addr}{ss:aN}
theorem A9 {Q:cJ}(B:A.handled=none)(X:iK P w s.heap a ss)(i:ss.length<64)
  (q:∀(c:Shared) (h':Heap) (out:i8) (h:aN) (e:Nat),(∀b o,s.heap.get? b=some o->c.heap.get? b=some o)->c.gens=s.gens->c.os=s.os->StrsAre out.toList h->h.Perm ss->sortedS h=true ->
   h'.get? c.heap.objs.size=some (seqObj "list" out e)->(∀b o,c.heap.get? b=some o->h'.get? b=some o)->Q (.ref c.heap.objs.size) {c with heap:=h'}) :
  wpAny (model P w) A (call (.builtin "sorted") [.ref a]) Q E s:=by
 refine Calls.call_function_entry kind_sorted plain_sorted entry_sorted (args_sorted1 _) (show wpAny _ _ (Builtin.«sorted» _) _ _ _ from ?_);unfold Builtin.«sorted»;have g:(64:Nat)<=sizeLine:=by rw[sizeLine_eq];decide
 refine aa (m:=checkCount "sorted" 1 1 _) (al (aa (zV (A:=A.in1) B X (ao (Nat.le_of_lt i) g) λvs c l u kp G F=>?_)));have j:StrsAre vs (vs.map strOf):=strsAre_map vs u;have len:vs.length<64:=by rw[←af (f:=strOf),l.length_eq];exact i
 refine aa (wpAny_newList ?_ (ao (Nat.le_of_lt len) g));have d:(c.heap.push (seqObj "list" vs.toArray 0)).get? c.heap.objs.size=some (seqObj "list" vs.toArray 0):=ar _ rfl;refine aa (ca (wpAny_call_entry slot_list_sort ⟨_,d,rfl⟩ entry_list_sort (list_sort_treeK strKind_oneLt d j.keysOf (λL K rest z=>keyKind_strs (z ▸ j)) len λst x v=>⟨_,rfl,?_⟩) (args_list_sort _)));obtain⟨h,J,I,H⟩:=sorted_out_str j x v;obtain⟨e,C⟩:=sortedHeap_at (out:=(arrOf st).map (·.2)) d;refine al ⟨_,rfl,q c _ _ h e kp G F J (I.trans l) H C λb o z=>?_⟩;have r:=az z;rw[sortedHeap_old (bi r) (by rw[Heap.size_push];exact Nat.lt_succ_of_lt r)];exact ag _ z
end
noncomputable abbrev iV (P:Program)(w:World)(a:Addr)(ss:aN):HO:=.ext λh=>iK P w h a ss
theorem yC {P:Program}{w:World}{H:Hp}{h:Heap}{a:Addr}{ss:aN}(x:iK P w h a ss):cF P w H h a (iV P w a ss):=by refine⟨x,?_,λc b y k=>y.at λo e=>k o e⟩;obtain⟨o,_,_,_,e,_⟩:=x;exact⟨o,e⟩
theorem uH:∀{us:bQ} {ys:aN},StrsAre us ys->aT (ys.map V.str) us
 | _,_,.nil=>.nil
 | _,_,.cons x t h=>.cons ⟨t,rfl⟩ (uH h)
theorem rG:∀{b:aN} {us:bQ},aT (b.map V.str) us->StrsAre us b
 | [],us,h=>by cases h;exact .nil
 | y::b,us,h=>by
  obtain⟨u,a,rfl,r,h2⟩:∃u a,us=u::a/\aU (.str y) u/\aT (b.map V.str) a:=by
   cases h with
   | cons r h=>exact⟨_,_,rfl,r,h⟩
  obtain⟨t,rfl⟩:=r;exact .cons y t (rG h2)
section
variable {X:Cx}
def L9 (P:Program)(w:World):List V->Hp->VK->Prop:=λxs H Q=>∃(a:Addr) (ss:aN),xs=[.ref a]/\(H a=some (iV P w a ss)∨H a=some (.lst (ss.map V.str)))/\ss.length<64/\∀b,b.Perm ss->sortedS b=true->∀p,H p=none->Q (.ref p) (upd H p (.lst (b.map V.str)))
theorem p0 (G:X.calm=true):dN X (.builtin "sorted") (L9 X.prog X.w):=by
 intro A s σ H xs us Q I E h;obtain⟨a,ss,rfl,i,d,q⟩:=h;obtain⟨u,rfl,F⟩:=aT.one E;cases F;have l:(64:Nat)<=sizeLine:=by rw[sizeLine_eq];decide
 have made:∀{h:Heap} {H:Hp} {p:Addr} {out:i8} {c:aN} {e:Nat},StrsAre out.toList c->c.Perm ss->h.get? p=some (seqObj "list" out e)->cF X.prog X.w H h p (.lst (c.map V.str)):=λj f g =>
  ⟨by rw[af,f.length_eq];exact ao (Nat.le_of_lt d) l,_,_,uH j,by simpa [seqObj] using g⟩
 rcases i with i|i
 ·obtain⟨C,_⟩:=I.hok a _ i;refine A9 (I.ok.hd G) C d λx h' out c e kp K J j f v g m=>?_;have B:=I.more kp K J;exact⟨.ref x.heap.objs.size,_,B.laid (t':=x.toks) (o:=.lst (c.map V.str)) m (ae _) (made j f g),rfl,q c f v _ (B.hok.fresh (ae _))⟩
 ·obtain⟨its,r,pl,hz⟩:=I.list (eH.of i);have sa:=rG r;refine sorted_strs (vs:=its) pl.isList sa (by rw[←r.length,af];exact d) λout c j f v=>?_;obtain⟨e,g⟩:=sortedAll_at s.heap its out;exact⟨.ref (s.heap.objs.size+1),_,I.laid (t':=s.toks) (o:=.lst (c.map V.str)) (λb o z=>sortedAll_old z) (Nat.le_succ _) (made j f g),rfl,q c f v _ (I.hok.fresh (Nat.le_succ _))⟩
end
abbrev leS (a b:Str):Prop:=a.cps.toList<=b.cps.toList
theorem pU:∀(p:Str) (l:aN),risingS p l=true->(p::l).Pairwise leS
 | p,[],_=>List.pairwise_singleton _ _
 | p,x::r,h=>by
  have h:(!ltCps x.cps.toList p.cps.toList && risingS x r)=true:=h;rw[Bool.and_eq_true,ltCps_eq]at h;have b:=pU x r h.2;have a:leS p x:=by have:=h.1;simp only[Bool.not_eq_true',decide_eq_false_iff_not]at this;exact List.not_lt.mp this
  refine List.pairwise_cons.mpr ⟨λy c=>?_,b⟩;rcases cm.mp c with z|z
  ·rw[z];exact a
  ·exact List.le_trans a ((List.pairwise_cons.mp b).1 y z)
theorem pS:∀{l:aN},sortedS l=true->l.Pairwise leS
 | [],_=>.nil
 | x::r,h=>pU x r h
theorem J7 {a b:Str}(d:leS a b)(c:leS b a):a=b:=by have:=List.le_antisymm d c;cases a;cases b;simp only at this;congr;exact Array.toList_inj.mp this
theorem pR:∀{l m:aN},l.Perm m->l.Pairwise leS->m.Pairwise leS->l=m
 | [],m,h,_,_=>(List.nil_perm.mp h).symm
 | x::l,m,h,b,a=>by
  cases m with
  | nil=>exact absurd (List.perm_nil.mp h) (List.cons_ne_nil _ _)
  | cons y m =>
   have e:x=y:=by
    rcases cm.mp (h.mem_iff.mp av)with z|z
    ·exact z
    ·rcases cm.mp (h.mem_iff.mpr av)with u|u
     ·exact u.symm
     ·exact J7 ((List.pairwise_cons.mp b).1 y u) ((List.pairwise_cons.mp a).1 x z)
   subst e;rw[pR ((List.perm_cons x).mp h) (List.pairwise_cons.mp b).2 (List.pairwise_cons.mp a).2]
noncomputable def wV (a:Expr)(b:Value)(env:Env):Sem Unit:=eval a env >>= λx=>standAt a.pos >>= λ_=>call (.builtin "set.add") [b,x] >>= λ_=>pure ()
theorem FJ (b e iter:Expr)(a:mJ)(scope:Scope)(d:Pos)(it c:Value)(env:Env) :
  compTurn (.SetComp b [⟨e,iter,a,0⟩] scope d) 0 it c env=oT iter.pos it e env (layOn a (wV b c env) env (.compLoop (.SetComp b [⟨e,iter,a,0⟩] scope d) 0 it c env)):=rfl
section
variable {prog:Program}{w:World}{A:Around}{E:cJ}{s:Shared}
theorem GN:FF (iK prog w) [] prog w A (newSet (.type "set")):=by intro Q E s q;unfold newSet setsByText;refine aa (aa (wpAny_askSetting (al (show wpAny _ _ _ _ _ s from ?_))));simp only[newObj];refine aa (wpAny_alloc (al (q _ rfl λh g=>?_)));exact⟨_,#[],0,_,g,⟨rfl,rfl,rfl⟩,rfl,λe a=>by simp at a,by simp,by decide,by rfl,rfl,.inl rfl⟩
theorem LX {a:Addr}{ss:aN}{x:Str}{tk:Tok}{Q:cJ}(T:iK prog w s.heap a ss)(c:ss.length+1<scanBound)
  (q:∀h',Heap.SameBut a s.heap h'->iK prog w h' a (if x∈ss then ss else ss++[x])->Q .none {s with heap:=h',toks:=s.toks+1}):wpAny (model prog w) A (call (.builtin "set.add") [.ref a,.str x tk]) Q E s:=by
 have ty:s.TypeIs (.ref a) "set":=by obtain⟨o,_,_,_,e,ex,_⟩:=id T;exact⟨o,e,ex.1⟩
 refine wpAny_call_entry F.slot_set_add ty F.entry_set_add (show wpAny _ _ (Builtin.«set.add» _) _ _ _ from ?_) (F.args_set_add_2 _ _);unfold Builtin.«set.add»;show wpAny _ _ (setAdd a (.str x tk) >>= _) _ _ s;unfold setAdd;refine aa (ca (aa ((PySem.strKind prog w).pyHash (k:=x) (mK.mpr ⟨tk,rfl⟩) ?_)));exact AB (s:={s with toks:=s.toks+1}) T c λh' b d f=>al ⟨_,rfl,q h' d f⟩
end
abbrev SN:=Q3 (aN)
theorem FR {P:Program}{w:World}:N5 (iK P w):=by rintro h a ss ⟨o,es,ep,t,e,ex,d,r⟩;exact⟨o,e,λv z=>(by rw[d]at z;cases z),λh' b=>⟨o,es,ep,t,b,ex,d,r⟩⟩
def tlSet (b:TE)(a:aN):St->Hp->(aN->Hp->Prop)->Prop:=λσ H N=>b σ H λy c=>a.length<1000/\∃x,y = .str x/\N (if x∈a then a else a++[x]) c
theorem J9 {Y:Cx}{D:Addr}{a:Expr}{c:TE}{b:aN}(l:∀e s,¬Y.xe e s)(u:PE Y a c):N6 (iK Y.prog Y.w) Y D (wV a (.ref D) Y.env) (tlSet c b) b:=by intro E pl o σ H t N I m r q;refine aa (wpAny_mono (u _ t σ H _ I q) (λy g ⟨B,A,d,i,C,x,j,w⟩=>?_) λe t z=>(l e t z).elim);subst j;obtain⟨tk,rfl⟩:=i;refine aa (wpAny_standAt (aa (LX (r _ (d.pin (D,o) (br _ m)).1) (by show _<4096;omega) λv h f=>al ?_)));exact⟨g,v,_,A,_,rfl,d,h,f,w⟩
def ID (P:Program)(w:World)(src:List (Option Nat))(b:TI)(g:TG)(c:TT)(d:TE):TE:=λσ H Q=>b σ H λJ e=>∃W:SN,(∃m,W 0 m [] (stC src σ) e)/\DB J g c (tlSet d) (λa H=>∀p,H p=none->Q (.ref p) (upd H p (iV P w p a))) W
theorem BK {X:Cx}{scope:Scope}{N':aN}{src:List (Option Nat)}{e a iter:Expr}{c:mJ}{d:Pos}{g:TG}{o:TT}{j:TE}{m:TI}(G:X.calm=true)(S:bD X scope N' src)(B:PI X e iter m)(E:∀C s H b,PG (blk X scope N' C s H b) e g)(v:∀C s H b,QZ (blk X scope N' C s H b) c o)(F:∀C s H b,PE (blk X scope N' C s H b) a j)
  (A:∀x,foldedSetIterable iter X.env x=pure x:=by intro _;rfl):PE X (.SetComp a [⟨e,iter,c,0⟩] scope d) (ID X.prog X.w src m g o j):=by
 intro q s σ H Q I h;change wpAny _ _ (comprehension (.SetComp a [⟨e,iter,c,0⟩] scope d) scope X.env iter.pos (newSet (.type "set")) false (eval iter X.env)) _ _ s;refine pK rfl S B A I h λi H₂ it b U J r T st f ⟨W,u,turn⟩=>?_;exact mX (lay:=wV a) (tl:=tlSet j) (obj:=iV X.prog X.w) FR GN (.set ..) rfl (FJ a e iter c scope d) (λ_ _ _ _=>yC) S r (λC=>qR.y (Y:=blk X scope N' C i H₂ b) T G) st f (λC=>E C i H₂ b) (λC=>v C i H₂ b) (λC D l=>J9 (λ_ _ z=>z) (F C i H₂ b)) u turn λD C s' H' l R P O N L K fin=>zR r R P O N L (fin D K)
def DA (P:Program)(w:World)(J:It)(g:TG)(b:TT)(c:TE)(Q:VK)(σ:St)(d:Hp):Prop:=∃W:SN,(∃m,W 0 m [] σ d)/\DB J g b (tlSet c) (λa H=>∀p,H p=none->Q (.ref p) (upd H p (iV P w p a))) W
theorem FL {P:Program}{w:World}{src:List (Option Nat)}{a:TI}{g:TG}{b:TT}{c:TE}{σ:St}{H:Hp}{Q:VK}:ID P w src a g b c σ H Q=a σ H λJ d=>DA P w J g b c Q (stC src σ) d:=rfl
def DC (g:TG)(e:TT)(f:TE)(x:V)(a:aN)(σ:St)(H:Hp)(N:aN->St->Hp->Prop):Prop :=
 g x σ H λc i=>e c i λb d=>if b=true then f c d λy h=>a.length<1000/\∃x,y = .str x/\N (if x∈a then a else a++[x]) c h else N a c d
section
variable {P:Program}{w:World}{K:PySem.W.Frag}{J:It}{g:TG}{tt:TT}{te:TE}{Q:VK}{σ:St}{H:Hp}{a:Addr}{xs:List V}
theorem zU {n:Nat}(Pv:Nat->aN->St->Hp->Prop)(j:Pv 0 [] σ H)
  (h:∀i c σ H,i<n->Pv i c σ H->J.go i H/\∀x H',J.yld i H x H'->DC g tt te x c σ H' (Pv (i+1)))
  (hd:∀c σ H,Pv n c σ H->J.stop n H/\∀p,H p=none->Q (.ref p) (upd H p (iV P w p c))):DA P w J g tt te Q σ H:=by
 refine⟨λi m c σ H=>m=n - i/\i<=n/\Pv i c σ H,⟨n,by simp,au _,j⟩,?_⟩;rintro i m c σ H ⟨rfl,l,p⟩;by_cases d:i<n
 ·obtain⟨go,step⟩:=h i c σ H d p;refine .inr ⟨go,λx H' y=>?_⟩;have e:∀c σ H,(∃f,f<n - i/\f=n - (i+1)/\i+1<=n/\Pv (i+1) c σ H)=Pv (i+1) c σ H:=λc σ H=>propext ⟨λ⟨_,_,_,_,q⟩=>q,λq=>⟨n - (i+1),by omega,rfl,d,q⟩⟩;simp only[e];exact step x H' y
 ·have e:i=n:=by omega
  subst e;obtain⟨a,b⟩:=hd c σ H p;exact .inl ⟨a,b⟩
theorem LA (j:LJ K a xs J H)(Pv:Nat->aN->St->Hp->Prop)(h:Pv 0 [] σ H)(f:∀i b σ H',i<=xs.length->Pv i b σ H'->H' a=H a)
  (d:∀i x b σ H,xs[i]?=some x->Pv i b σ H->DC g tt te x b σ H (Pv (i+1))) (hd:∀b σ H,Pv xs.length b σ H->∀p,H p=none->Q (.ref p) (upd H p (iV P w p b))):DA P w J g tt te Q σ H:=by
 rcases j with⟨rfl,e⟩|⟨rfl,e⟩
 ·have l:∀i b σ H',i<=xs.length->Pv i b σ H'->eH K H' a xs:=λi b σ H' c p=>eH.of ((f i b σ H' c p).trans e);exact zU (n:=xs.length) Pv h (λi b σ H c p=>⟨⟨xs,xs[i],l i b σ H (Nat.le_of_lt c) p,by simp[c]⟩,λx H' y=>by obtain⟨rfl,y⟩:=y;exact d i x b σ _ (y xs (l i b σ _ (Nat.le_of_lt c) p)) p⟩)
   λb σ H p=>⟨⟨xs,l _ b σ H (ae _) p,ae _⟩,hd b σ H p⟩
 ·have l:∀i b σ H',i<=xs.length->Pv i b σ H'->iU K H' a xs:=λi b σ H' c p=>iU.of ((f i b σ H' c p).trans e);exact zU (n:=xs.length) Pv h (λi b σ H c p=>⟨⟨xs,xs[i],l i b σ H (Nat.le_of_lt c) p,by simp[c]⟩,λx H' y=>by obtain⟨rfl,y⟩:=y;exact d i x b σ _ (y xs (l i b σ _ (Nat.le_of_lt c) p)) p⟩)
   λb σ H p=>⟨⟨xs,l _ b σ H (ae _) p,ae _⟩,hd b σ H p⟩
end
section
variable {X:Cx}
theorem FH {a:aN}:∀{us:bQ},aT (a.map V.str) us->∃l:List (Str×Tok),us=strValues l/\l.map (·.1)=a:=by
 induction a with
 | nil=>intro us r;cases r;exact⟨[],rfl,rfl⟩
 | cons x a c =>
  intro us r;cases r with
  | cons r1 b =>
   obtain⟨t,rfl⟩:=r1;obtain⟨l,rfl,e⟩:=c b;exact⟨(x,t)::l,rfl,by rw[aS,e]⟩
def rJoin:V->List V->Hp->VK->Prop:=λx vs H Q=>∃(b:Str) (a:Addr) (ws:aN),x = .str b/\vs=[.ref a]/\H a=some (.lst (ws.map V.str))/\JoinOk b ws=true/\Q (.str (Txt.join b ws)) H
theorem D6:RW X "str.join" rJoin:=by intro d s σ H x xs v us Q I g i h;obtain⟨c,a,f,rfl,rfl,m,ok,q⟩:=h;obtain⟨t,rfl⟩:=g;obtain⟨u,rfl,j⟩:=i.one;cases j;obtain⟨its,r,pl,_⟩:=I.list (eH.of m);obtain⟨l,rfl,e⟩:=FH r;exact PySem.SC.join pl.isList e ok λt' k=>⟨.str (Txt.join c f),H,I.kept (t':=k) λb o q=>q,⟨t',rfl⟩,q⟩
def ipS:RT:=λx y H Q=>∃a b,x = .str a/\y = .str b/\a.length+b.length<=sizeLine/\Q (.str (a++b)) H
theorem NI:SJ X .Add ipS:=by intro c s σ H x y v u Q I e d h;obtain⟨a,b,rfl,rfl,hz,q⟩:=h;obtain⟨t,rfl⟩:=e;obtain⟨f,rfl⟩:=d;exact PySem.SB.iadd (λt' k=>⟨.str (a++b),H,I.kept (t':=k) λb o q=>q,⟨t',rfl⟩,q⟩) hz
theorem KP {g:TG}{a:TS}{D:iJ}{σ:St}{H:Hp}{z:Str}(Pv:Nat->St->Hp->Prop)(h:Pv 0 σ H)
  (e:∀i c σ H,z.cps[i]?=some c->Pv i σ H->g (.str ⟨#[c]⟩) σ H λb j=>a {D with nx:=Pv (i+1),ct:=Pv (i+1),bk:=D.nx} b j) (hd:∀σ H,Pv z.cps.size σ H->D.nx σ H):tX (RY z) g a D σ H:=by
 refine⟨λi m σ H=>m=z.cps.size - i/\i<=z.cps.size/\Pv i σ H,⟨z.cps.size,by simp,au _,h⟩,?_⟩;rintro i m σ H ⟨rfl,o,p⟩;by_cases c:i<z.cps.size
 ·refine .inr ⟨c,Pv (i+1),λl H' d=>⟨z.cps.size - (i+1),by omega,rfl,c,d⟩,?_⟩;rintro x H' ⟨rfl,ch,f,rfl⟩;exact e i ch σ H' f p
 ·obtain rfl:i=z.cps.size:=by omega
  exact .inl ⟨rfl,hd _ _ p⟩
def rRevL:V->Option Int->Option Int->Option Int->Hp->VK->Prop:=λx b c st H Q=>b=none/\c=none/\st=some (-1)/\∃a xs,x = .ref a/\H a=some (.lst xs)/\∀p,H p=none->Q (.ref p) (upd H p (.lst xs.reverse))
theorem yG (its:bQ):(List.range its.length).filterMap (λm=>its.toArray[its.length - 1 - m]?)=its.reverse:=by
 have e:(List.range its.length).filterMap (λm=>its.toArray[its.length - 1 - m]?)=((List.range its.length).map (its.length - 1 - ·)).filterMap (λj=>its.toArray[j]?):=by rw[List.filterMap_map];rfl
 have a:(List.range its.length).map (its.length - 1 - ·)=(List.range its.length).reverse:=by
  apply List.ext_getElem
  ·simp
  ·intro i c b;simp
 rw[e,a,List.filterMap_reverse];have r:=pick_run its.toArray 0 its.length;simp only[Nat.zero_add,List.drop_zero,List.map_id']at r;rw[r];simp
theorem I8 (its:bQ):slicePick its.toArray none none (some (-1))=its.reverse.toArray:=by
 unfold slicePick;rw[ai];have e:sliceBounds none none (some (-1)) its.length=((its.length:Int) - 1,-1,-1):=by
  simp only[sliceBounds,Option.getD_some];refine Prod.ext ?_ (Prod.ext ?_ rfl)
  ·simp
  ·simp
 rw[e];have b:sliceRange ((its.length:Int) - 1) (-1) (-1)=(List.range its.length).map λm=>its.length - 1 - m:=by
  unfold sliceRange;have c:(if (-1:Int) > 0 then(if (its.length:Int) - 1 < -1 then(-1 - ((its.length:Int) - 1) + -1 - 1) / -1 else 0)else(if (its.length:Int) - 1 > -1 then((its.length:Int) - 1 - -1 - -1 - 1) / (- -1)else 0)).toNat=its.length:=by
   rw[ac (by decide)];split
   ·rw[show(- -1:Int)=1 from rfl,Int.ediv_one];omega
   ·omega
  dsimp only;rw[c];refine List.map_congr_left λm a=>?_;have:=List.mem_range.mp a;omega
 dsimp only;rw[b,List.filterMap_map];exact congrArg List.toArray (yG its)
theorem O8:NZ X rRevL:=by intro c s σ H x v u l m A B st w Q I f i pl g pt h;obtain⟨rfl,rfl,rfl,a,xs,rfl,j,q⟩:=h;cases f;obtain⟨its,r,e,hz⟩:=I.list (eH.of j);refine⟨"list",_,slot_list_getitem.lookup,e.isList.typeIs,?_⟩;have d:=r.length;refine wpAny_getItem_list_slice e.isList i pl g pt (by decide) ?_ (by rw[ai] <;> omega);rw[I8];refine⟨.ref s.heap.objs.size,_,I.laid (t':=s.toks) (o:=.lst xs.reverse) (λb z q=>ag _ q) (ae _) ?_,rfl,q _ (I.hok.fresh (ae _))⟩;exact⟨by rw[List.length_reverse];exact hz,_,0,r.reverse,ar _ rfl⟩
end
def rRevI:V->Option Int->Option Int->Option Int->Hp->VK->Prop:=λx b c st H Q=>b=some (-2)/\c=none/\st=some (-1)/\∃a xs,x = .ref a/\H a=some (.lst xs)/\xs≠[]/\∀p,H p=none->Q (.ref p) (upd H p (.lst xs.dropLast.reverse))
theorem KS {α β:Type}{f g:α->Option β}:∀{l:List α},(∀x∈l,f x=g x)->l.filterMap f=l.filterMap g:=by
 intro l
 induction l with
 | nil=>intro _;rfl
 | cons a l b=>intro h;rw[List.filterMap_cons,List.filterMap_cons,h a av,b λx c=>h x (ay _ c)]
theorem F2 (its:bQ)(h:its≠[]):slicePick its.toArray (some (-2)) none (some (-1))=its.dropLast.reverse.toArray:=by
 obtain⟨k,hk⟩:∃k,its.length=k+1:=⟨its.length - 1,by have:=List.length_pos_iff.mpr h;omega⟩
 unfold slicePick;rw[ai,hk];have e:sliceBounds (some (-2)) none (some (-1)) (k+1)=((k:Int) - 1,-1,-1):=by
  simp only[sliceBounds,Option.getD_some];refine Prod.ext ?_ (Prod.ext ?_ rfl)
  ·simp <;> omega
  ·simp
 rw[e];have d:sliceRange ((k:Int) - 1) (-1) (-1)=(List.range k).map λm=>k - 1 - m:=by
  unfold sliceRange;have c:(if (-1:Int) > 0 then(if (k:Int) - 1 < -1 then(-1 - ((k:Int) - 1) + -1 - 1) / -1 else 0)else(if (k:Int) - 1 > -1 then((k:Int) - 1 - -1 - -1 - 1) / (- -1)else 0)).toNat=k:=by
   rw[ac (by decide)];split
   ·rw[show(- -1:Int)=1 from rfl,Int.ediv_one];omega
   ·omega
  dsimp only;rw[c];refine List.map_congr_left λm a=>?_;have:=List.mem_range.mp a;omega
 dsimp only;rw[d,List.filterMap_map];have b:its.dropLast.length=k:=by rw[List.length_dropLast,hk];rfl
 have r:=yG its.dropLast;rw[b]at r;rw[←r];refine congrArg List.toArray (KS λm a=>?_);have:=List.mem_range.mp a;show its.toArray[k - 1 - m]?=its.dropLast.toArray[k - 1 - m]?;rw[List.getElem?_toArray,List.getElem?_toArray,List.getElem?_dropLast,aj (by omega)]
section
variable {X:Cx}
theorem DP:NZ X rRevI:=by intro c s σ H x v u l m A B st w Q I f i pl g pt h;obtain⟨rfl,rfl,rfl,a,xs,rfl,j,ne,q⟩:=h;cases f;obtain⟨its,r,e,hz⟩:=I.list (eH.of j);refine⟨"list",_,slot_list_getitem.lookup,e.isList.typeIs,?_⟩;have d:=r.length;refine wpAny_getItem_list_slice e.isList i pl g pt (by decide) ?_ (by rw[ai] <;> omega);rw[F2 its (vQ r ne)];refine⟨.ref s.heap.objs.size,_,I.laid (t':=s.toks) (o:=.lst xs.dropLast.reverse) (λb z q=>ag _ q) (ae _) ?_,rfl,q _ (I.hok.fresh (ae _))⟩;exact⟨by rw[List.length_reverse,List.length_dropLast];omega,_,0,r.dropLast.reverse,ar _ rfl⟩
end
theorem MP {X:Cx}:iM X (compareOp .IsNot) (λx y H Q=>∃i j,x = .bl i/\y = .bl j/\Q (.bl (!decide (i=j))) H):=by
 intro a s σ H x y u v Q I c b h;obtain⟨i,j,rfl,rfl,q⟩:=h;cases c;cases b;have e:compareOp .IsNot (.bool i) (.bool j)=pure (.bool (!decide (i=j))):=by cases i <;> cases j <;> rfl
 rw[e];exact al ⟨.bl (!decide (i=j)),H,I,rfl,q⟩
def tOrT (K:PySem.W.Frag)(d b:TE):TE:=λσ H Q=>d σ H λx a=>∃c,LE K x a c/\if c=true then Q x a else b σ a Q
theorem PM {X:Cx}{a b:Expr}{rest:mJ}{e:Pos}{g f:TE}(u:PE X a g)(r:PE X (.BoolOp .Or (b::rest) e) f):PE X (.BoolOp .Or (a::b::rest) e) (tOrT X.K g f):=by
 intro d s σ H Q I h;refine BoolOp_or (thn (u d s σ H _ I h) λv q ⟨x,m,A,r1,c,o,i⟩=>?_);refine thn (HX d q σ m x v (λk H'=>k=c/\H'=m) A r1 ⟨c,o,rfl,rfl⟩) λk s2 ⟨l,j,z,w⟩=>?_;subst z w;cases k with
 | true=>exact⟨x,l,j,r1,i⟩
 | false=>exact r d s2 σ l Q j i
local macro_rules | `(tactic| walk_at "sd_on")=>`(tactic| (repeat (any_goals (first | assumption | wp_step))))
section
variable {P:Program}{w:World}{A:Around}
theorem y8 {I S:Addr}{R:Result->Shared->Prop}{s:Shared}(h:wpAny (model P w) A.in1 (Builtin.«set.update.loop» ⟨[.ref S,.ref I],[]⟩) (λy s'=>match y with | .done f=>R (.ok f) s' | .again c=>c.quiet=true/\codeAny (model P w) A c R s') (λe s'=>R (.error e) s') s):codeAny (model P w) A (.builtin "set.update.loop" ⟨[.ref S,.ref I],[]⟩) R s :=
 codeAny_builtin F.entry_set_update_loop (by rw[Around.under_plainId F.plain_set_update_loop _];exact h)
end
noncomputable def ddS (a:aN)(x:Str):aN:=if x∈a then a else a++[x]
noncomputable def dd (l:aN):aN:=l.foldl ddS []
theorem NR (l:aN)(x:Str):dd (l++[x])=ddS (dd l) x:=by simp[dd,List.foldl_append]
theorem E3:∀(l a:aN),(l.foldl ddS a).length<=a.length+l.length
 | [],a=>ae _
 | x::l,a=>by
  have:=E3 l (ddS a x);have e:(ddS a x).length<=a.length+1:=by unfold ddS;split <;> simp
  rw[ap,List.foldl_cons];omega
theorem K7 (l:aN):(dd l).length<=l.length:=by have:=E3 l [];simpa [dd] using this
local macro_rules | `(tactic| walk_at "sz_on")=>`(tactic| (repeat (any_goals (first | assumption | wp_step))))
section
variable {P:Program}{w:World}{A:Around}
noncomputable abbrev soO (w:World):Obj:={cls:=.type "set",dict:=none,data:=.set #[] 0 (.fresh 0 0 (!byTx w))}
theorem soX {h:Heap}{a:Addr}(g:h.get? a=some (soO w)):iK P w h a []:=⟨_,#[],0,_,g,⟨rfl,rfl,rfl⟩,rfl,λe b=>by simp at b,by simp,by decide,by cases e:byTx w <;> rfl,rfl,.inl rfl⟩
theorem BX {E:cJ}{s:Shared}{Q:cJ}(q:Q (.ref s.heap.objs.size) {s with heap:=s.heap.push (soO w)}):wpAny (model P w) A (newSet (.type "set")) Q E s:=by unfold newSet setsByText;refine aa (aa (wpAny_askSetting (al (show wpAny _ _ _ _ _ s from ?_))));simp only[newObj];exact aa (wpAny_alloc (al q))
theorem BW (a:Value){E:cJ}{s:Shared}{R:cJ}(h:R (.ref s.heap.objs.size) {s with heap:=s.heap.push (soO w)}) :
  codeAny (model P w) A (.call (.builtin "set.__new__") ⟨[.type "set",a],[]⟩) (wants R E) s:=by
 have sub:=sub_set_self;have body:wpAny (model P w) A.in1 (Builtin.«set.__new__» ⟨[.type "set",a],[]⟩) (λfin s'=>match fin with | .done f=>wants R E (.ok f) s' | .again c=>c.quiet=true/\codeAny (model P w) A c (wants R E) s') (λe s'=>wants R E (.error e) s') s:=by
  unfold Builtin.«set.__new__» Builtin.Frozenset.newClass;generalize b:newSet=N
  wp_walk
  subst b;exact BX (al h)
 refine codeAny_of_tree (show wpAny _ A.in1 (checkBuiltinCall "set.__new__" _ >>= λ_=>again _) _ _ s from aa (wpAny_of_eq (F.newCall_set_1 a) (al ⟨plainId_quiet F.plain_set_new _,?_⟩)));exact codeAny_builtin F.entry_set_new (by rw[Around.under_plainId F.plain_set_new _];exact body)
theorem FQ {l I S:Addr}{items:bQ}{ss:aN}(O:A.handled=none)(E:aT (ss.map V.str) items)(Y:items.length+1<scanBound)(n1:S≠I)(n2:l≠I)(n3:l≠S){R:Result->Shared->Prop} :
  ∀(j i:Nat) (s:Shared),i+j=items.length->s.heap.IsListIter I l i->s.heap.IsList l items.toArray->iK P w s.heap S (dd (ss.take i)) ->
   (∀h' tk,iK P w h' S (dd ss)->(∀b o,b≠S->b≠I->s.heap.get? b=some o->h'.get? b=some o)->R (.ok (.ret .none)) {s with heap:=h',toks:=tk}) ->
   codeAny (model P w) A (.builtin "set.update.loop" ⟨[.ref S,.ref I],[]⟩) R s:=by
 have ln:ss.length=items.length:=by rw[←E.length,af]
 intro j
 induction j with
 | zero =>
  intro i s e it d f C;rw[Nat.add_zero]at e;subst e;rw[←ln,bp]at f;refine y8 (aa (wpAny_pyNext_list_end (A:=A.in1) O it d (by simp) λh' H=>al ?_));exact C h' s.toks (f.at λo z=>H _ _ n1 z) λb o _ Q z=>H b o Q z
 | succ j L =>
  intro i s e it d f C;have X:i<items.length:=by omega
  obtain⟨x,hx⟩:∃x,ss[i]?=some x:=⟨_,aw (by omega)⟩
  obtain⟨u,N,tk,rfl⟩:=E.get (i:=i) (x:=.str x) (by rw[bu,hx];rfl);refine y8 (aa (wpAny_pyNext_list_item (A:=A.in1) (x:=.str x tk) it d (by simpa using N) λG q c=>?_));have v:=f.at λo z=>(c.2 S n1).trans z;have W:=K7 (ss.take i);rw[bo]at W;show wpAny _ A.in1 (holding [.str x tk] (setAdd S (.str x tk)) >>= _) _ _ {s with heap:=G};refine aa (ca (show wpAny _ _ (setAdd S (.str x tk)) _ _ _ from ca (aa ((PySem.strKind P w).pyHash (k:=x) (mK.mpr ⟨tk,rfl⟩) ?_))));refine AB (s:={s with heap:=G,toks:=s.toks+1}) v (by omega) λT b a r=>al ⟨plainId_quiet F.plain_set_update_loop _,L (i+1) {s with heap:=T,toks:=s.toks+1} (by omega) ?_ ?_ ?_ λh' m B kp=>?_⟩
  ·obtain⟨o,h,g⟩:=q;exact⟨o,(a.2 I n1.symm).trans h,g⟩
  ·obtain⟨o,h,g⟩:=d;exact⟨o,(a.2 l n3).trans ((c.2 l n2).trans h),g⟩
  ·have U:ss.take (i+1)=ss.take i++[x]:=by rw[List.take_succ,hx];rfl
   rw[U,NR];exact r
  ·exact C h' m B λb o J K z=>kp b o J K ((a.2 b J).trans ((c.2 b K).trans z))
theorem CS {E:cJ}{s:Shared}{l:Addr}{items:bQ}{ss:aN}{Q:cJ}(I:A.handled=none)(H:s.heap.IsList l items.toArray)(G:aT (ss.map V.str) items)(J:items.length+1<scanBound)
  (h:∀(h':Heap) (tk:Nat),iK P w h' s.heap.objs.size (dd ss)->(∀b o,s.heap.get? b=some o->h'.get? b=some o)->Q (.ref s.heap.objs.size) {s with heap:=h',toks:=tk}) :
  wpAny (model P w) A (call (.type "set") [.ref l]) Q E s:=by
 obtain⟨c,tl,T⟩:=F.called_set.mro;have S:=F.called_set.made;have O:=F.called_set.sub;refine wpAny_call (codeAny_of_tree (al ⟨Code.quiet_builtin _ (by decide +kernel),codeAny_builtin F.entry_type_call ?_⟩));have x:=weight_type_call_type "set" [.ref l] [];rw[Around.under_plain x rfl];have N:=F.called_set.notType;have L:=F.called_set.canCreate;have K:=F.typeCall_set_1 (.ref l)
 walk_at "sz_on"
 refine codeAny_mono (BW (P:=P) (w:=w) (.ref l) (E:=E) (R:=λobj u=>obj = .ref s.heap.objs.size/\u={s with heap:=s.heap.push (soO w)}) ⟨rfl,rfl⟩) λr u f=>?_;cases r with
 | error e=>exact f
 | ok fl =>
  cases fl with
  | next=>exact f.elim
  | brk=>exact f.elim
  | cont=>exact f.elim
  | ret obj =>
   obtain⟨rfl,rfl⟩:=f;have v:(s.heap.push (soO w)).get? s.heap.objs.size=some (soO w):=ar _ rfl;have z:Shared.TypeIs {s with heap:=s.heap.push (soO w)} (.ref s.heap.objs.size) "set":=⟨_,v,rfl⟩
   have Z:=F.called_set.init.lookup;have Y:=F.called_set.init.bind (.ref s.heap.objs.size)
   walk_at "sz_on"
   refine codeAny_mono (codeAny_call_builtin (R:=wants (λr s2=>r = .none/\∃h' tk,s2={s with heap:=h',toks:=tk}/\iK P w h' s.heap.objs.size (dd ss)/\∀b o,s.heap.get? b=some o->h'.get? b=some o) E) F.called_set.init.plain F.entry_set_init (check_set_init_1 z ?_)) λC s2 a=>?_
   ·obtain⟨⟨c1,d1,t1,B⟩,ho,i,n1,g⟩:=id H;simp only at i g;subst i g;have ho':=ag (soO w) ho;have X:=F.sub_list_set;have W:=F.sub_list_frozenset;have U:(Value.type "list" == Value.type "dict")=false:=by decide
    have hl':(s.heap.push (soO w)).IsList l items.toArray:=⟨_,ho',rfl,n1,rfl⟩
    unfold Builtin.«set.__init__» Builtin.Frozenset.updateFrom noKeywords;generalize q:pyIter=PI
    wp_walk
    subst q;refine wpAny_pyIter_list hl' (aa (wpAny_runValue ?_));have lt:=az ho;have j:(s.heap.push (soO w)).objs.size=s.heap.objs.size+1:=Heap.size_push _ _;refine FQ (P:=P) (w:=w) (items:=items) (ss:=ss) (l:=l) (by simp[I]) G J (by rw[j];exact bi (Nat.lt_succ_self _)) (by rw[j];exact bi (Nat.lt_succ_of_lt lt)) (bi lt) items.length 0 _ (Nat.zero_add _) ⟨_,ar _ rfl,rfl,rfl⟩ (hl'.push _) (soX (ag _ v)) λh' tk d kp=>?_;refine al (al ⟨rfl,h',tk,rfl,d,λb o e=>kp b o (bi (az e)) (by rw[j];exact bi (Nat.lt_succ_of_lt (az e))) (ag _ (ag _ e))⟩)
   ·cases C with
    | error e=>exact a
    | ok f2 =>
     cases f2 with
     | next=>exact a.elim
     | brk=>exact a.elim
     | cont=>exact a.elim
     | ret r =>
      obtain⟨rfl,h',tk,rfl,d,m⟩:=a
      walk_at "sz_on"
      exact h _ _ d m
end
section
variable {X:Cx}
def rSetX (P:Program)(w:World):List V->Hp->VK->Prop:=λxs H Q=>∃(l:Addr) (ss:aN),xs=[.ref l]/\H l=some (.lst (ss.map V.str))/\ss.length<=100/\∀p,H p=none->Q (.ref p) (upd H p (iV P w p (dd ss)))
theorem CU (e:X.calm=true):dN X (.type "set") (rSetX X.prog X.w):=by
 intro a s σ H xs us Q I b h;obtain⟨l,ss,rfl,d,le,q⟩:=h;obtain⟨u,rfl,c⟩:=aT.one b;cases c;obtain⟨its,r,pl,hz⟩:=I.list (eH.of d);have len:its.length=ss.length:=by rw[←r.length,af]
 refine CS (P:=X.prog) (w:=X.w) (I.ok.hd e) pl.isList r (by rw[len];exact ak (Nat.succ_le_succ le) (by decide)) λh' tk f kp=>?_;exact⟨.ref s.heap.objs.size,_,I.laid (t':=tk) (o:=iV X.prog X.w s.heap.objs.size _) kp (ae _) (yC f),rfl,q _ (I.hok.fresh (ae _))⟩
end
end L2
namespace L2
open PySem
theorem bT {N P:aN}{f:Scope}(a:f.kind = .function)(b:f.isCoroutine=false)(c:f.isGenerator=false)(d:N.take P.length=P)(e:N.Nodup/\(∀x∈P,f.names.lookup x=some .local∨f.names.lookup x=some .cell)/\∀y∈f.names,y.2≠.free):aR N P f:=⟨a,b,c,e.1,d,e.2.1,e.2.2⟩
noncomputable def abc:Str:="abcdefghijklmnopqrstuvwxyz"
theorem QU (j:Nat)(h:j<26):abc.cps.toList[j]?=some (97+j):=by
 have:∀j:Fin 26,abc.cps.toList[j.1]?=some (97+j.1):=by decide +kernel
 exact this ⟨j,h⟩
theorem NY:abc.cps.toList.length=26:=by decide +kernel
theorem KH {H:Hp}{i:Int}(b:0<=i)(a:i<26):ixV H (.str abc) (.int i)=some (.str ⟨#[97+i.toNat]⟩):=by show(if abc.length<=sizeLine then(atI abc.cps.toList i).map λc=>V.str ⟨#[c]⟩else none)=_;rw[aj (by decide +kernel),sV b (by rw[NY];exact a),QU _ (by omega)];rfl
theorem tyL {K:PySem.W.Frag}{H:Hp}{p:Addr}{xs:List V}(h:H p=some (.lst xs)):tyV K "list" (.ref p) H:=.inl ⟨rfl,xs,eH.of h⟩
def fZ (x:Str):Prop:=1<=x.cps.toList.length/\x.cps.toList.length<=6/\∀c∈x.cps.toList,97<=c/\c<=122
theorem lK {H:Hp}:∀(a:aN),Reps H (a.map D.str) (a.map V.str)
 | []=>rfl
 | x::r=>⟨.str x,r.map V.str,rfl,rfl,lK r⟩
theorem dep_strs:∀a:aN,depDs (a.map D.str)=0
 | []=>rfl
 | x::r=>by rw[aS,depDs,dep_strs r];rfl
theorem zK {x:Str}:∀a:aN,inD (.str x) (a.map D.str)=decide (x∈a)
 | []=>by simp[inD]
 | y::r=>by
  have b:=zK (x:=x) r;unfold inD at b⊢;rw[aS,List.any_cons,b];have e:eqD (.str y) (.str x)=decide (y=x):=by show(y == x)=_;rw[bz];simp
  rw[e,bz];simp only[Bool.or_eq_true,decide_eq_true_eq,cm];constructor
  ·rintro(h|h)
   ·exact .inl h.symm
   ·exact .inr h
  ·rintro(h|h)
   ·exact .inl h.symm
   ·exact .inr h
noncomputable def del (H:Hp)(p:Addr):Hp:=λb=>if b=p then none else H b
theorem lB {H:Hp}{p b:Addr}{o:HO}(h:H b=some o)(n:b≠p):del H p b=some o:=by unfold del;rw[ac n];exact h
theorem gH {H:Hp}{p b:Addr}{o:HO}(h:del H p b=some o):H b=some o/\b≠p:=by
 unfold del at h;by_cases e:b=p
 ·rw[aj e]at h;cases h
 ·rw[ac e]at h;exact⟨h,e⟩
theorem K5 (H:Hp)(p:Addr):aF (del H p) H:=λb o h=>(gH h).1
end L2
section
local macro_rules | `(tactic| walk_at "rd")=>do
 let xs:Array (Lean.TSyntax [`Lean.Parser.Tactic.simpStar,`Lean.Parser.Tactic.simpErase,`Lean.Parser.Tactic.simpLemma]):=("L2.start List.map_cons List.map_nil List.length_cons List.length_nil Nat.reduceAdd Nat.reduceSub Nat.zero_add List.replicate_succ List.replicate_zero List.cons_append List.nil_append List.set_cons_zero List.set_cons_succ L2.tSeq L2.tIfS L2.tTest L2.tOp L2.tVar L2.tC L2.rI0 L2.tAsg L2.gName L2.gSub L2.rI L2.tRet L2.tNext L2.rSetL L2.rAddF L2.rRep L2.tCB L2.r1 L2.tCons L2.tNil L2.tDrop L2.tAnd L2.tOr L2.tNot L2.tIf L2.tLst L2.tTup L2.tCall L2.tFor_eq L2.tComp_eq L2.tComp2_eq L2.iRng1 L2.iRng2 L2.iAny L2.iSq L2.iZip L2.iZip2 L2.iEnum L2.tRaise L2.tTry L2.rLtL L2.rAll L2.rAny L2.rSum L2.tUn L2.rU L2.gTup L2.gCons L2.gNil L2.tBM L2.tBM0 L2.rAppend L2.rPop L2.rPopAt L2.rExtend L2.tSl L2.tNoPart L2.tPart L2.rSlF L2.rSlU L2.rTupU L2.CStep L2.tYes L2.stC Option.bind_some Option.bind_none Option.join_some L2.tAndV L2.tOrV L2.tNotV L2.tNever not_true_eq_false not_false_eq_true L2.tChain L2.tTruth L2.rIs_eq L2.truV_bl L2.isV_ii L2.isV_ib L2.isV_ll L2.lenV_l L2.lenV_t L2.seqV_l L2.seqV_t L2.ixV_l L2.ixV_t if_true if_false Bool.not_true Bool.not_false Bool.false_eq_true Option.bind_eq_bind Option.pure_def L2.rEqD_ii L2.rNeD_ii L2.rEqD_bb L2.rNeD_bb L2.isV_bb L2.rEqD_ss L2.rNeD_ss Int.zero_add L2.catO_i L2.catO_s L2.addV L2.intV L2.atI_zero L2.atI_one L2.ixN_zero L2.ixN_one L2.upd_same L2.upd_upd Option.map_some Option.map_none List.getElem?_cons_zero List.getElem?_cons_succ Option.some.injEq L2.V.int.injEq L2.V.ref.injEq L2.V.bl.injEq L2.V.str.injEq L2.HO.lst.injEq List.cons.injEq and_true true_and exists_eq_left exists_eq_left' exists_eq_right exists_eq_right' exists_and_left exists_and_right exists_const reduceCtorEq false_and and_false exists_false or_false false_or decide_eq_true_eq ite_eq_left_iff Bool.not_eq_true Bool.not_eq_eq_eq_not decide_eq_false_iff_not decide_true decide_false".splitOn " ").toArray.map λs=>⟨Lean.mkNode `Lean.Parser.Tactic.simpLemma #[Lean.mkNullNode,Lean.mkNullNode,Lean.mkIdent s.toName]⟩
 let xs:=xs.push ⟨Lean.mkNode `Lean.Parser.Tactic.simpStar #[Lean.mkAtom "*"]⟩
 `(tactic| simp only [$xs,*])
namespace Lw
open PySem L2
noncomputable def qI:aN:=["_law_state","_law_many","_law_found"]
noncomputable def qD:aN:=qI.take 2
theorem nM:aR qI qD (aH iP):=bT rfl rfl rfl rfl (by decide +kernel)
noncomputable def hU:aN:=["_law_state","_law_letters","_law_shift","_law_names","_law_j","_law_k","_law_fixed","_law_sums"]
noncomputable def oK:aN:=["_law_state"]
theorem cW:aR hU oK (aH dQ):=bT rfl rfl rfl rfl (by decide +kernel)
noncomputable def qJ:aN:=["_law_state","_law_fixed","_law_k"]
noncomputable def qE:aN:=qJ.take 2
theorem nN:aR qJ qE (aH iQ):=bT rfl rfl rfl rfl (by decide +kernel)
noncomputable def qH:aN:=["_law_state","_law_signs_here","_law_budget","_law_deep","_law_name","_law_many","_law_found","_law_left","_law_k","_law_share"]
noncomputable def gT:aN:=qH.take 4
theorem dD:aR qH gT (aH fF):=bT rfl rfl rfl rfl (by decide +kernel)
noncomputable def RP:aN:=["_law_script","_law_cell","_law_state","_law_given","_law_signs_here","_law_term_here","_law_due","_law_lists"]
noncomputable def OM:aN:=["_law_script"]
theorem kN:aR RP OM (aH pT):=bT rfl rfl rfl rfl (by decide +kernel)
noncomputable def jN:aN:=["thing"]
noncomputable def vK:aN:=["thing"]
theorem BC:aR jN vK (aH hZ):=bT rfl rfl rfl rfl (by decide +kernel)
noncomputable def m7:aN:=["signs","thing"]
noncomputable def tF:aN:=m7.take 2
theorem yE:aR m7 tF (aH jS):=bT rfl rfl rfl rfl (by decide +kernel)
noncomputable def hG:aN:=["signs","thing","todo","at","depth"]
noncomputable def oJ:aN:=hG.take 2
theorem gB:aR hG oJ (aH fM):=bT rfl rfl rfl rfl (by decide +kernel)
noncomputable def AK:aN:=["term","found","todo","at"]
noncomputable def AF:aN:=["term"]
theorem lH:aR AK AF (aH nQ):=bT rfl rfl rfl rfl (by decide +kernel)
noncomputable def oN:aN:=["term"]
noncomputable def oI:aN:=["term"]
theorem tR:aR oN oI (aH gZ):=bT rfl rfl rfl rfl (by decide +kernel)
noncomputable def lE:aN:=["term"]
noncomputable def qC:aN:=["term"]
theorem wB:aR lE qC (aH gJ):=bT rfl rfl rfl rfl (by decide +kernel)
noncomputable def tJ:aN:=["name","term"]
noncomputable def AH:aN:=tJ.take 2
theorem FW:aR tJ AH (aH nS):=bT rfl rfl rfl rfl (by decide +kernel)
noncomputable def m8:aN:=["name","nought","parts","left","part"]
noncomputable def tH:aN:=m8.take 3
theorem kO:aR m8 tH (aH jU):=bT rfl rfl rfl rfl (by decide +kernel)
noncomputable def gW:aN:=["signs","name","parts","nought"]
noncomputable def kC:aN:=gW.take 3
theorem jE:aR gW kC (aH fA):=bT rfl rfl rfl rfl (by decide +kernel)
noncomputable def eA:aN:=["term","filling","whole","made","at","parts"]
noncomputable def i3:aN:=eA.take 3
theorem cL:aR eA i3 (aH dI):=bT rfl rfl rfl rfl (by decide +kernel)
noncomputable def AL:aN:=["signs","filling","term"]
noncomputable def tB:aN:=AL.take 3
theorem FU:aR AL tB (aH cT):=bT rfl rfl rfl rfl (by decide +kernel)
noncomputable def C7:aN:=["signs","term"]
noncomputable def LH:aN:=C7.take 2
theorem LZ:aR C7 LH (aH wD):=bT rfl rfl rfl rfl (by decide +kernel)
noncomputable def pO:aN:=["thing"]
noncomputable def vM:aN:=["thing"]
theorem BE:aR pO vM (aH jG):=bT rfl rfl rfl rfl (by decide +kernel)
noncomputable def tK:aN:=["thing"]
noncomputable def tE:aN:=["thing"]
theorem yD:aR tK tE (aH jR):=bT rfl rfl rfl rfl (by decide +kernel)
noncomputable def fB:aN:=["thing","least","most","pair"]
noncomputable def kD:aN:=fB.take 3
theorem jF:aR fB kD (aH dX):=bT rfl rfl rfl rfl (by decide +kernel)
noncomputable def gI:aN:=["pairs","names"]
noncomputable def mF:aN:=["pairs"]
theorem kQ:aR gI mF (aH d5):=bT rfl rfl rfl rfl (by decide +kernel)
noncomputable def i4:aN:=["fixed_rows","name","many"]
noncomputable def mE:aN:=["fixed_rows"]
theorem kP:aR i4 mE (aH eW):=bT rfl rfl rfl rfl (by decide +kernel)
noncomputable def fC:aN:=["sum_rows","bare_names","name","nought","noughts"]
noncomputable def kE:aN:=fC.take 2
theorem fW:aR fC kE (aH dY):=bT rfl rfl rfl rfl (by decide +kernel)
noncomputable def eU:aN:=["self","fixed","sums","fixed_rows","sum_rows"]
noncomputable def fY:aN:=eU.take 3
theorem fL:aR eU fY (aH bY):=bT rfl rfl rfl rfl (by decide +kernel)
noncomputable def j8:aN:=["self","name"]
noncomputable def j7:aN:=j8.take 2
theorem tT:aR j8 j7 (aH dR):=bT rfl rfl rfl rfl (by decide +kernel)
noncomputable def iI:aN:=["self","name"]
noncomputable def iG:aN:=iI.take 2
theorem qN:aR iI iG (aH dB):=bT rfl rfl rfl rfl (by decide +kernel)
noncomputable def AO:aN:=["_law_cell","_law_mixed"]
noncomputable def qG:aN:=["_law_cell"]
theorem nO:aR AO qG (aH iR):=bT rfl rfl rfl rfl (by decide +kernel)
noncomputable def lF:aN:=["_law_state","_law_signs_here","_law_budget","_law_fixed","_law_sums","_law_some"]
noncomputable def qF:aN:=lF.take 3
theorem jQ:aR lF qF (aH gK):=bT rfl rfl rfl rfl (by decide +kernel)
noncomputable def i5:aN:=["_law_noughts","_law_term_here","_law_parts","_law_found","_law_part"]
noncomputable def eY:aN:=i5.take 2
theorem eI:aR i5 eY (aH dJ):=bT rfl rfl rfl rfl (by decide +kernel)
noncomputable def mH:aN:=["_law_term_here"]
noncomputable def eZ:aN:=["_law_term_here"]
theorem rQ:aR mH eZ (aH dL):=bT rfl rfl rfl rfl (by decide +kernel)
noncomputable def mI:aN:=["_law_term_here","_law_found","_law_part"]
noncomputable def e8:aN:=["_law_term_here"]
theorem fK:aR mI e8 (aH d8):=bT rfl rfl rfl rfl (by decide +kernel)
noncomputable def iH:aN:=["_law_term_here"]
noncomputable def eQ:aN:=["_law_term_here"]
theorem qM:aR iH eQ (aH dA):=bT rfl rfl rfl rfl (by decide +kernel)
noncomputable def fS:aN:=["_law_signs_here","_law_term_here","_law_due","_law_told","_law_own","_law_named","_law_text"]
noncomputable def iW:aN:=fS.take 3
theorem c6:aR fS iW (aH dE):=bT rfl rfl rfl rfl (by decide +kernel)
noncomputable def FE:aN:=["signs","one","other"]
noncomputable def FD:aN:=FE.take 3
theorem IR:aR FE FD (aH qU):=bT rfl rfl rfl rfl (by decide +kernel)
noncomputable def tM:aN:=["signs","term"]
noncomputable def tI:aN:=tM.take 2
theorem yF:aR tM tI (aH jV):=bT rfl rfl rfl rfl (by decide +kernel)
noncomputable def pN:aN:=["signs","thing"]
noncomputable def vL:aN:=pN.take 2
theorem BD:aR pN vL (aH lI):=bT rfl rfl rfl rfl (by decide +kernel)
noncomputable def oO:aN:=["signs","term"]
noncomputable def AI:aN:=oO.take 2
theorem FX:aR oO AI (aH kT):=bT rfl rfl rfl rfl (by decide +kernel)
noncomputable def oM:aN:=["signs","term"]
noncomputable def AE:aN:=oM.take 2
theorem FT:aR oM AE (aH kR):=bT rfl rfl rfl rfl (by decide +kernel)
noncomputable def xS:aN:=["signs","term","said","todo","at"]
noncomputable def FC:aN:=xS.take 2
theorem nL:aR xS FC (aH qT):=bT rfl rfl rfl rfl (by decide +kernel)
noncomputable def AM:aN:=["term","found","part"]
noncomputable def AG:aN:=["term"]
theorem oZ:aR AM AG (aH nR):=bT rfl rfl rfl rfl (by decide +kernel)
noncomputable def C6:aN:=["signs","text","found"]
noncomputable def LG:aN:=C6.take 2
theorem DT:aR C6 LG (aH wC):=bT rfl rfl rfl rfl (by decide +kernel)
noncomputable def mG:aN:=["text","opened","latest","sign"]
noncomputable def mC:aN:=["text"]
theorem c5:aR mG mC (aH gC):=bT rfl rfl rfl rfl (by decide +kernel)
noncomputable def tL:aN:=["signs","name","parts","whole","part"]
noncomputable def tG:aN:=tL.take 3
theorem iO:aR tL tG (aH jT):=bT rfl rfl rfl rfl (by decide +kernel)
noncomputable def AN:aN:=["signs","term"]
noncomputable def tD:aN:=AN.take 2
theorem FV:aR AN tD (aH cU):=bT rfl rfl rfl rfl (by decide +kernel)
structure Txt (mg:gX):Prop where
 n_len:mg "len" = none
 n_range:mg "range" = none
 n_int:mg "int" = none
 n_abs:mg "abs" = none
 n_min:mg "min" = none
 n_max:mg "max" = none
 n_tuple:mg "tuple" = none
 n_list:mg "list" = none
 n_dict:mg "dict" = none
 n_set:mg "set" = none
 n_isinstance:mg "isinstance" = none
 n_str:mg "str" = none
 n_bool:mg "bool" = none
 n_sorted:mg "sorted" = none
 n_reversed:mg "reversed" = none
 n_all:mg "all" = none
 n_any:mg "any" = none
 n_zip:mg "zip" = none
 n_repr:mg "repr" = none
 c_WISH_SIGNS:∃u,mg "WISH_SIGNS" = some u/\aU (.str "abcdefghijklmnopqrstuvwxyz0123456789") u
 c_LETTERS:∃u,mg "LETTERS" = some u/\aU (.str "abcdefghijklmnopqrstuvwxyz") u
 c_LONGEST_WISH:∃u,mg "LONGEST_WISH" = some u/\aU (.int 9) u
 c_DEEPEST:∃u,mg "DEEPEST" = some u/\aU (.int 1000) u
 c_LONGEST_NAME:∃u,mg "LONGEST_NAME" = some u/\aU (.int 6) u
 c_MOST_FIXED:∃u,mg "MOST_FIXED" = some u/\aU (.int 12) u
 c_MOST_SUMS:∃u,mg "MOST_SUMS" = some u/\aU (.int 3) u
 c_MOST_PARTS:∃u,mg "MOST_PARTS" = some u/\aU (.int 3) u
section
variable {P:Program}{w:World}{K:PySem.W.Frag}{mg:gX}{base:Heap}
def cC (H:Hp)(p:Addr):Prop:=∃a b:Int,H p=some (.lst [.int a,.int b])
theorem cC.but {p l:Addr}{H:Hp}{o:HO}(h:cC H p)(n:p≠l):cC (upd H l o) p:=by obtain⟨x,y,e⟩:=h;exact⟨x,y,by rw[aC n];exact e⟩
theorem cC.ne {p l:Addr}{H:Hp}(h:cC H p)(n:H l=none):p≠l:=by obtain⟨x,y,e⟩:=h;exact aE e n
def iX:Sp:=λvs H Q _=>∃p n,vs=[.ref p,.int n]/\cC H p/\0<n/\n<1073741824/\∀d a b,0<=d->d<n->Q (.int d) (upd H p (.lst [.int a,.int b]))
theorem MV {f:Addr}{g:FuncData}(F:fJ K "_law_take" "_law_take" iP f g)(T:Txt mg):bN P w K mg base bH 1 f g qD iX:=by
 refine F.ok nM (λvs H Q E h=>?_) (λo A outer s H vs Q E j h=>?_)
 ·obtain⟨p,n,rfl,_⟩:=h;rfl
 ·obtain⟨p,n,rfl,⟨a,b,d⟩,c,l,k⟩:=h
  refine⟨_,(aD (bK (bC OE (bM cX (pv 0) aJ (λ_ _=>rfl)) aJ (nomark _)) (aD (aZ (i:=2) nM.nd rfl (Or.inl rfl) (bV mR (bM cX (pv 0) aJ (λ_ _=>rfl)) (pv 1)))
   (aD (mO (bV D1 (bM cX (pv 0) aJ (λ_ _=>rfl)) (pv 1)) (wK (pv 0) aJ nJ))
   (aG (aO (pv 2))))) aW)
   (aD (mO (bV mR (bV cV (bV (r8.or rZ) (bM cX (pv 0) aJ (λ_ _=>rfl)) aJ) aJ) aJ) (wK (pv 0) aJ nJ))
   (aG (aO (bV mR (bV D1 (bV mR (bV (r8.or rZ) (bM cX (pv 0) aJ (λ_ _=>rfl)) (bM cX (pv 0) aJ (λ_ _=>rfl))) aJ) aJ) (pv 1)))))),?_⟩
  clear j F T;have e:ixV H (.ref p) (.int 0)=some (.int a):=by rw[ixV_l d];rfl
  have m:ixV H (.ref p) (.int 1)=some (.int b):=by rw[ixV_l d];rfl
  refine⟨_,rfl,_,e,_,_,rfl,rfl,_,rfl,ite2 (λ_=>?_) λ_=>?_⟩
  ·exact⟨_,rfl,_,e,_,rfl,_,_,rfl,rfl,c,_,rfl,_,e,_,rfl,_,_,rfl,rfl,⟨c,l⟩,_,rfl,p,_,0,0,rfl,rfl,d,rfl,_,rfl,k _ _ _ (Int.emod_nonneg _ (by omega)) (Int.emod_lt_of_pos _ c)⟩
  ·have r:=Int.emod_nonneg (b * 39373+7919) (b:=2147483629) (by decide);have q:=Int.emod_lt_of_pos (b * 39373+7919) (b:=2147483629) (by decide);refine⟨_,rfl,_,m,.inl ⟨_,_,rfl,rfl,.inr (by decide),.inl ⟨_,rfl,_,_,rfl,rfl,(by decide:(0:Int)<2147483629),_,rfl,p,_,1,1,rfl,rfl,d,rfl,_,rfl,_,by rw[ixV_l upd_same];rfl,_,rfl,_,by rw[ixV_l upd_same];rfl,.inl ⟨_,_,rfl,rfl,.inl ⟨by omega,by omega⟩,_,_,rfl,rfl,(by decide:(0:Int)<2147483563),_,_,rfl,rfl,⟨by decide,by decide⟩,_,rfl,_,_,rfl,rfl,c,k _ _ _ (Int.emod_nonneg _ (by omega)) (Int.emod_lt_of_pos _ c)⟩⟩⟩⟩
def IK:Sp:=λvs H Q _=>∃n:Int,vs=[.int n]/\∀p x y,H p=none->Q (.ref p) (upd H p (.lst [.int x,.int y]))
theorem M5 {f:Addr}{a:FuncData}(F:fJ K "_law_from" "_law_from" iR f a)(T:Txt mg):bN P w K mg base bH 1 f a qG IK:=by
 refine F.ok nO (λvs H Q E h=>?_) (λd A outer s H vs Q E b h=>?_)
 ·obtain⟨n,rfl,_⟩:=h;rfl
 ·obtain⟨n,rfl,q⟩:=h
  refine⟨_,(aD (aZ (i:=1) nO.nd rfl (Or.inl rfl) (bV mR (bV cV (bV (r8.or rZ) (bV mR (pv 0) aJ) aJ) aJ) aJ))
   (aG (aO (cM (aA (bV (r8.or rZ) (pv 0) (cH HC rfl T.n_int rfl (aA (eS OF (pv 0) (bV PV aJ aJ) (nomark _)) aB))) (aA (pv 1) aB)))))),?_⟩
  clear b F T;refine⟨_,rfl,_,_,rfl,rfl,(by decide:(0:Int)<2147483629),.inl ⟨_,_,rfl,rfl,.inr (by decide),.inl ⟨_,rfl,_,_,rfl,rfl,(by decide:(0:Int)<2147483647),?_⟩⟩⟩;refine⟨_,rfl,_,rfl,_,_,rfl,rfl,⟨by decide,by decide,by decide⟩,_,_,rfl,rfl,_,_,rfl,rfl,.inl ⟨_,_,rfl,rfl,.inr ?_,_,rfl,show 2<=sizeLine by decide,λp c=>q p _ _ c⟩⟩;split <;> decide
def bE (H H':Hp):Prop:=∀b xs,H b=some (.tup xs)->H' b=some (.tup xs)
theorem bE.trans {H e d:Hp}(a:bE H e)(b:bE e d):bE H d:=λc xs h=>b c xs (a c xs h)
theorem bE.of {H H':Hp}(s:aF H H'):bE H H':=λb xs h=>s b _ h
theorem bE.lst {H:Hp}{a:Addr}{c:List V}{o:HO}(h:H a=some (.lst c)):bE H (upd H a o):=λb xs e=>by rw[aC (λz=>by rw[z,h]at e;cases e)];exact e
theorem CY {p a:Addr}{H H':Hp}{o:HO}(h:eE p H H')(n:H a=none):eE p H (upd H' a o):=λc u nc e=>by rw[aC (aE e n)];exact h c u nc e
theorem bE.pot {H:Hp}{p:Addr}{o:HO}(h:cC H p):bE H (upd H p o):=by obtain⟨x,y,e⟩:=h;exact bE.lst e
def cY (H:Hp):cG->List V->Prop
 | [],vs=>vs=[]
 | r::l,vs=>∃t us,vs = .ref t::us/\H t=some (.tup [.str r.1,.int r.2])/\cY H l us
def fR (H:Hp):bG->List V->Prop
 | [],vs=>vs=[]
 | r::l,vs=>∃t us,vs = .ref t::us/\H t=some (.tup [.str r.1,.str r.2])/\fR H l us
theorem cY.same {H H':Hp}(s:bE H H'):∀{l:cG} {vs:List V},cY H l vs->cY H' l vs
 | [],_,h=>h
 | _::_,_,⟨t,us,e,h,q⟩=>⟨t,us,e,s _ _ h,cY.same s q⟩
theorem fR.same {H H':Hp}(s:bE H H'):∀{l:bG} {vs:List V},fR H l vs->fR H' l vs
 | [],_,h=>h
 | _::_,_,⟨t,us,e,h,q⟩=>⟨t,us,e,s _ _ h,fR.same s q⟩
theorem cY.snoc {H:Hp}{n:Str}{k:Int}{t:Addr}(a:H t=some (.tup [.str n,.int k])):∀{l:cG} {vs:List V},cY H l vs->cY H (l++[(n,k)]) (vs++[.ref t])
 | [],_,h=>by cases h;exact⟨t,[],rfl,a,rfl⟩
 | _::_,_,⟨u,us,e,h,q⟩=>by subst e;exact⟨u,us++[.ref t],rfl,h,cY.snoc a q⟩
theorem fR.snoc {H:Hp}{n k:Str}{t:Addr}(a:H t=some (.tup [.str n,.str k])):∀{l:bG} {vs:List V},fR H l vs->fR H (l++[(n,k)]) (vs++[.ref t])
 | [],_,h=>by cases h;exact⟨t,[],rfl,a,rfl⟩
 | _::_,_,⟨u,us,e,h,q⟩=>by subst e;exact⟨u,us++[.ref t],rfl,h,fR.snoc a q⟩
theorem cY.len {H:Hp}:∀{l:cG} {vs:List V},cY H l vs->vs.length=l.length
 | [],_,h=>by cases h;rfl
 | _::_,_,⟨t,us,e,h,q⟩=>by subst e;simp[cY.len q]
theorem cY.get {H:Hp}:∀{l:cG} {vs:List V} {i:Nat} {v:V},cY H l vs->vs[i]?=some v->∃r t,l[i]?=some r/\v = .ref t/\H t=some (.tup [.str r.1,.int r.2])
 | [],_,_,_,h,e=>by cases h;simp at e
 | r::_,_,0,_,⟨t,us,e,h,q⟩,k=>by subst e;simp at k;exact⟨r,t,rfl,k.symm,h⟩
 | _::_,_,i+1,_,⟨t,us,e,h,q⟩,k=>by subst e;simp at k;obtain⟨r,t,c,b,a⟩:=cY.get q k;exact⟨r,t,by simpa using c,b,a⟩
noncomputable def zeros (a:cG):aN:=(a.filter λr=>decide (r.2=0)).map (·.1)
structure bF (fx:cG)(sm:bG):Prop where
 f1:1<=fx.length
 f2:fx.length<=12
 s2:sm.length<=3
 nm:∀x∈fx.map (·.1)++sm.map (·.1),fZ x
 nd:(fx.map (·.1)++sm.map (·.1)).Nodup
 parts:∀r∈fx,0<=r.2/\r.2<=3
 bare:∃r∈fx,r.2=0
 nought:∀r∈sm,r.2≠("" : Str)->r.2∈zeros fx
 once:((sm.map (·.2)).filter λ(x:Str)=>decide (x≠("" : Str))).Nodup
theorem AU (a:cG)(r:Str×Int):zeros (a++[r])=zeros a++(if r.2=0 then [r.1]else []):=by unfold zeros;rw[List.filter_append,ax];congr 1;by_cases z:r.2=0 <;> simp[z]
theorem tZ (a:cG):(zeros a).Sublist (a.map (·.1)):=List.Sublist.map _ List.filter_sublist
theorem aY {α:Type}{xs:List α}{i:Nat}{x:α}(h:xs[i]?=some x):xs.take (i+1)=xs.take i++[x]:=by rw[List.take_succ,h];rfl
def isWd (c:Nat):Prop:=(97<=c/\c<=122)∨(48<=c/\c<=57)
def cI (x:Str):Prop:=∃l:List Nat,x=⟨(63::l).toArray⟩/\1<=l.length/\l.length<=8/\∀c∈l,isWd c
noncomputable def wds:Str:=PySem.Str.ofString "abcdefghijklmnopqrstuvwxyz0123456789"
def LF (p t:Addr)(c:cG)(sm:bG)(H:Hp):Prop:=∃(a b:Addr) (fv sv:List V),H t=some (.tup [.ref a,.ref b])/\H a=some (.lst fv)/\H b=some (.lst sv)/\cY H c fv/\fR H sm sv/\a≠p/\b≠p
theorem bE.ofBut {p:Addr}{H H':Hp}(h:eE p H H')(a:cC H p):bE H H':=λb xs e=>h b _ (λz=>by obtain⟨x,y,q⟩:=a;rw[z,q]at e;cases e) e
theorem LF.but {p t:Addr}{g:cG}{sm:bG}{H H':Hp}(h:LF p t g sm H)(c:eE p H H')(d:cC H p):LF p t g sm H':=by obtain⟨a,b,r,i,q,o,m,l,j,f,e⟩:=h;exact⟨a,b,r,i,bE.ofBut c d _ _ q,c _ _ f o,c _ _ e m,l.same (bE.ofBut c d),j.same (bE.ofBut c d),f,e⟩
theorem fR.get {H:Hp}:∀{l:bG} {vs:List V} {i:Nat} {v:V},fR H l vs->vs[i]?=some v->∃r t,l[i]?=some r/\v = .ref t/\H t=some (.tup [.str r.1,.str r.2])
 | [],_,_,_,h,e=>by cases h;simp at e
 | r::_,_,0,_,⟨t,us,e,h,q⟩,k=>by subst e;simp at k;exact⟨r,t,rfl,k.symm,h⟩
 | _::_,_,i+1,_,⟨t,us,e,h,q⟩,k=>by subst e;simp at k;obtain⟨r,t,c,b,a⟩:=fR.get q k;exact⟨r,t,by simpa using c,b,a⟩
theorem fR.len {H:Hp}:∀{l:bG} {vs:List V},fR H l vs->vs.length=l.length
 | [],_,h=>by cases h;rfl
 | _::_,_,⟨t,us,e,h,q⟩=>by subst e;simp[fR.len q]
theorem cY.app {H:Hp}:∀{l m:cG} {vs us:List V},cY H l vs->cY H m us->cY H (l++m) (vs++us)
 | [],_,_,_,h,k=>by cases h;exact k
 | _::_,_,_,_,⟨t,us,e,h,q⟩,k=>by subst e;exact⟨t,_,rfl,h,cY.app q k⟩
def pQ (a:cG)(sm:bG)(n:Str)(k:Nat):Prop:=(0<k/\(n,(k:Int))∈a)∨(2<=k/\n∈sm.map (·.1))
mutual
def aV (a:cG)(sm:bG)(os:aN):D->Prop
 | .str x=>x∈os∨x∈zeros a
 | .tup (.str n::ds)=>pQ a sm n ds.length/\IsTms a sm os ds
 | .lst (.str n::ds)=>pQ a sm n ds.length/\IsTms a sm os ds
 | _=>False
def IsTms (a:cG)(sm:bG)(os:aN):List D->Prop
 | []=>True
 | d::ds=>aV a sm os d/\IsTms a sm os ds
end
mutual
noncomputable def lvs:D->Nat
 | .tup (_::ds)=>lvss ds
 | .lst (_::ds)=>lvss ds
 | _=>1
noncomputable def lvss:List D->Nat
 | []=>0
 | d::ds=>lvs d+lvss ds
end
theorem IsTms.snoc {c:cG}{sm:bG}{os:aN}{d:D}(h:aV c sm os d):∀{ds:List D},IsTms c sm os ds->IsTms c sm os (ds++[d])
 | [],_=>⟨h,trivial⟩
 | _::_,⟨a,b⟩=>⟨a,IsTms.snoc h b⟩
theorem uR (d:D):∀ds:List D,lvss (ds++[d])=lvss ds+lvs d
 | []=>by simp[lvss]
 | e::ds=>by rw[List.cons_append,lvss,uR d ds,lvss];omega
theorem sS (d:D):∀ds:List D,depDs (ds++[d])=max (depDs ds) (depD d)
 | []=>Nat.max_comm _ _
 | e::ds=>by rw[List.cons_append,depDs,sS d ds,depDs,Nat.max_assoc]
theorem Reps.snoc {H:Hp}{d:D}{v:V}(h:aX H d v):∀{ds:List D} {vs:List V},Reps H ds vs->Reps H (ds++[d]) (vs++[v])
 | [],_,e=>by cases e;exact⟨v,[],rfl,h,rfl⟩
 | _::_,_,⟨x,r,e,a,b⟩=>by subst e;exact⟨x,r++[v],rfl,a,Reps.snoc h b⟩
theorem Reps.len {H:Hp}:∀{ds:List D} {vs:List V},Reps H ds vs->vs.length=ds.length
 | [],_,e=>by cases e;rfl
 | _::_,_,⟨x,r,e,a,b⟩=>by subst e;simp[Reps.len b]
noncomputable def nw (H H':Hp):Hp:=λa=>if H a=none then H' a else none
noncomputable def nwB (r:Addr)(H H':Hp):Hp:=λa=>if H a=none/\a≠r then H' a else none
theorem kY {H H':Hp}{a:Addr}{o:HO}:nw H H' a=some o ↔ H a=none/\H' a=some o:=by
 unfold nw;by_cases h:H a=none
 ·rw[aj h];exact⟨λe=>⟨h,e⟩,λe=>e.2⟩
 ·rw[ac h];exact⟨λe=>(by cases e),λe=>absurd e.1 h⟩
def TI (p t o l rw:Addr)(a b parts:Nat)(nm:Str)(d:cG)(sm:bG)(os:aN)(H:Hp)(i:Nat)(σ:St)(c:Hp):Prop :=
 ∃(left:Nat) (ds:List D) (vs:List V) (o10 o11:Option V),σ=[some (.ref p),some (.ref t),some (.ref o),some (.int a),some (.int b),some (.ref l),some (.str nm),some (.int parts),some (.int left),some (.ref rw),o10,o11] /\
  eE p H c/\cC c p/\c rw=some (.lst (.str nm::vs))/\Reps (nwB rw H c) ds vs/\ds.length=i/\IsTms d sm os ds/\lvss ds+left+(parts - i)<=a/\depDs ds+1<=b
theorem kH {src:List (Option Nat)}{a:L2.TI}{g:TG}{b:TT}{c:TE}:tComp src a g b c=λσ H Q=>a σ H λJ d=>qK J g b c Q (stC src σ) d:=rfl
theorem nC {a:L2.TI}{g:TG}{b:TS}:tFor a g b=λD σ H=>a σ H λJ c=>tX J g b D σ c:=rfl
theorem k6 {c:Bool}{a b:Prop}(e:c=true->a)(d:c=false->b):(if c=true then a else b):=by
 cases c with
 | true=>rw[aj rfl];exact e rfl
 | false=>rw[ac (by decide)];exact d rfl
noncomputable def c31 (a j:Nat):Nat:=97+(7 * j+a) % 26
def C3 (d:Nat)(b:Nat->Nat)(a:aN):Prop:=a.length=12/\∀j x,a[j]?=some x->∃l,x.cps.toList=c31 d j::l/\l.length<=b j/\∀c∈l,97<=c/\c<=122
theorem C3.mono {c:Nat}{b d:Nat->Nat}{a:aN}(h:C3 c b a)(k:∀j,b j<=d j):C3 c d a :=
 ⟨h.1,λj x e=>by obtain⟨l,i,g,f⟩:=h.2 j x e;exact⟨l,i,ao g (k j),f⟩⟩
theorem C3.set {m:Nat}{b:Nat->Nat}{f:aN}{j c:Nat}{x:Str}(h:C3 m b f)(e:f[j]?=some x)(u:97<=c)(s:c<=122):C3 m (λi=>if i=j then b j+1 else b i) (f.set j (x++⟨#[c]⟩)):=by
 refine⟨by rw[List.length_set];exact h.1,λi y a=>?_⟩;by_cases z:i=j
 ·subst z;obtain⟨l,r,q,o⟩:=h.2 i x e;rw[List.getElem?_set_self (cj.mp e).1]at a;cases a;refine⟨l++[c],?_,by dsimp only;rw[aj rfl,aq];exact Nat.succ_le_succ q,λd hd=>?_⟩
  ·show(x.cps ++ #[c]).toList=_;rw[Array.toList_append,r];rfl
  ·obtain g|g:=cp.mp hd
   ·exact o d g
   ·rw[ck.mp g];exact⟨u,s⟩
 ·rw[List.getElem?_set_ne (λw=>z w.symm)]at a;dsimp only;rw[ac z];exact h.2 i y a
theorem C3.name {d:Nat}{b:Nat->Nat}{a:aN}(h:C3 d b a)(k:∀j,b j<=5){j:Nat}{x:Str}(e:a[j]?=some x):fZ x:=by
 obtain⟨l,m,q,i⟩:=h.2 j x e;have o:=k j;unfold fZ;rw[m];refine⟨by rw[ap];omega,by rw[ap];omega,λc f=>?_⟩;obtain g|g:=cm.mp f
 ·have:=Nat.mod_lt (7 * j+d) (show 0<26 by decide);unfold c31 at g;omega
 ·exact i c g
theorem C3.nd {d:Nat}{b:Nat->Nat}{a:aN}(h:C3 d b a):a.Nodup:=by rw[List.nodup_iff_pairwise_ne,List.pairwise_iff_getElem];intro i j q f o e;obtain⟨l,c,_⟩:=h.2 i _ (aw q);obtain⟨m,k1,_⟩:=h.2 j _ (aw f);rw[e,k1]at c;injection c with g _;have r:=h.1;unfold c31 at g;omega
noncomputable def bO (i j:Nat):Nat:=if j∈([0,5,9]:List Nat).take i then 5 else 0
def SY (p l u:Addr)(b:Nat)(H:Hp)(i:Nat)(σ:St)(H':Hp):Prop:=∃(a:aN) (o4 o5:Option V),σ=[some (.ref p),some (.str abc),some (.int b),some (.ref l),o4,o5,none,none]/\eE p H H'/\cC H' p/\H' l=some (.lst (a.map V.str))/\H' u=some (.lst [.int 0,.int 5,.int 9])/\C3 b (bO i) a
def TF (p l u:Addr)(c:Nat)(H:Hp)(b:Nat->Nat)(j:Nat)(t:Nat)(σ:St)(H':Hp):Prop:=∃(a:aN) (o5:Option V),σ=[some (.ref p),some (.str abc),some (.int c),some (.ref l),some (.int j),o5,none,none]/\eE p H H'/\cC H' p/\H' l=some (.lst (a.map V.str))/\H' u=some (.lst [.int 0,.int 5,.int 9])/\C3 c (λi=>if i=j then t else b i) a
theorem B0 {K0:PySem.W.Frag}{p l u:Addr}{s:Nat}{J:It}{d:aN}{H c:Hp}{D:iJ}(hJ:LJ K0 u [.int 0,.int 5,.int 9] J c)(hl:H l=none)(b1:eE p H c)(p1:cC c p)(l1:c l=some (.lst (d.map V.str)))(u1:c u=some (.lst [.int 0,.int 5,.int 9]))(T:u≠l)(C:u≠p)(g:l≠p)(w0:C3 s (bO 0) d)
  (fin:∀f F B H',eE p H H'->cC H' p->H' l=some (.lst (f.map V.str))->C3 s (bO 3) f->D.nx [some (.ref p),some (.str abc),some (.int s),some (.ref l),F,B,none,none] H') :
  tX J (gName 4) (λD σ H=>iRng1 (tCons (tCall iX [] E0 (tCons (tVar 0) (tCons (tC (V.int 6)) tNil))) tNil) σ H λJ c=>tX J (gName 5) (tAsg (tOp rAddF (tOp (λx y H Q=>∃v,ixV H x y=some v/\Q v H) (tVar 3) (tVar 4)) (tOp (λx y H Q=>∃v,ixV H x y=some v/\Q v H) (tVar 1) (tCall iX [] E0 (tCons (tVar 0) (tCons (tC (V.int 26)) tNil))))) (gSub (tVar 3) (tVar 4) rSetL)) D σ c) D [some (.ref p),some (.str abc),some (.int s),some (.ref l),none,none,none,none] c:=by
 refine gG hJ (SY p l u s H) ⟨d,none,none,rfl,b1,p1,l1,u1,w0⟩ (λi σ H' _ ⟨_,_,_,_,_,_,_,h,_⟩=>by rw[h,u1]) ?_ ?_
 ·rintro i x σ o b ⟨f,F,B,rfl,Z,R,X,u2,N⟩;obtain⟨j,rfl,hj,hb0,hb1⟩:∃j:Nat,x = .int j/\j<12/\bO i j=0/\∀k,(if k=j then 5 else bO i k)<=bO (i+1) k:=by
   match i,b with
   | 0,b=>cases b;exact⟨0,rfl,by decide,by decide,λk=>by by_cases z:k=0 <;> simp[bO,z]⟩
   | 1,b=>cases b;exact⟨5,rfl,by decide,by decide,λk=>by by_cases z:k=5 <;> simp[bO,z]⟩
   | 2,b=>cases b;exact⟨9,rfl,by decide,by decide,λk=>by by_cases z:k=9 <;> simp[bO,z]⟩
   | i+3,b=>simp at b
  refine⟨_,rfl,p,6,rfl,R,by decide,by decide,λr A w r0 r1=>⟨r,rfl,by omega,by omega,?_⟩⟩;have b3:=Z.trans (eE.upd p o (.lst [.int A,.int w]));have p3:cC (upd o p (.lst [.int A,.int w])) p:=⟨_,_,upd_same⟩
  have l3:upd o p (.lst [.int A,.int w]) l=some (.lst (f.map V.str)):=by rw[aC g];exact X
  have u3:upd o p (.lst [.int A,.int w]) u=some (.lst [.int 0,.int 5,.int 9]):=by rw[aC C];exact u2
  generalize upd o p (.lst [.int A,.int w])=H3 at b3 p3 l3 u3⊢;refine sQ (TF p l u s H (bO i) j) ⟨f,B,rfl,b3,p3,l3,u3,N.mono λk=>?_⟩ ?_ ?_
  ·by_cases z:k=j
   ·rw[z,hb0];exact au _
   ·rw[ac z];exact ae _
  ·rintro t σ I ht ⟨a,S,rfl,Y,P,G,O,q⟩;obtain⟨y,hy⟩:∃y,a[j]?=some y:=⟨_,aw (by rw[q.1];exact hj)⟩
   obtain⟨ly,U,E,_⟩:=q.2 j y hy;dsimp only at E;rw[aj rfl]at E;refine⟨_,rfl,_,rfl,.str y,by rw[ixV_l G];exact E9 (by rw[bu,hy];rfl),_,rfl,_,rfl,p,26,rfl,P,by decide,by decide,λe L K e0 e1=>⟨_,KH e0 e1,.inl ⟨_,aj (ao (m:=100) ?_ (by decide)),_,rfl,_,rfl,l,_,j,j,rfl,rfl,by rw[aC g];exact G,?_,?_⟩⟩⟩
   ·show y.cps.size+1<=100;rw[←bj,U,ap];omega
   ·rw[w8 (by omega) (by rw[af,q.1];omega)];rfl
   ·have b5:=Y.trans (eE.upd p I (.lst [.int L,.int K]));have p5:cC (upd I p (.lst [.int L,.int K])) p:=⟨_,_,upd_same⟩
    have u5:upd I p (.lst [.int L,.int K]) u=some (.lst [.int 0,.int 5,.int 9]):=by rw[aC C];exact O
    refine⟨a.set j (y++⟨#[97+e.toNat]⟩),_,rfl,CY b5 hl,p5.but g.symm,by rw[upd_same,List.map_set],by rw[aC T];exact u5,(q.set hy (by omega) (by omega)).mono λk=>?_⟩;by_cases z:k=j
    ·rw[aj z,aj z,aj rfl];exact ae _
    ·rw[ac z,ac z,ac z];exact ae _
  ·rintro σ I ⟨a,S,rfl,Y,P,G,O,q⟩;refine⟨a,_,_,rfl,Y,P,G,O,q.mono λk=>ao ?_ (hb1 k)⟩;by_cases z:k=j
   ·rw[aj z,aj z];omega
   ·rw[ac z,ac z];exact ae _
 ·rintro σ o ⟨f,F,B,rfl,Z,R,X,u2,N⟩;exact fin f F B o Z R X N
theorem list12 {α:Type}{f:List α}(h:f.length=12):∃w v u s q o m j i g c b,f=[w,v,u,s,q,o,m,j,i,g,c,b]:=by
 have one:∀{n:Nat} {l:List α},l.length=n+1->∃a r,l=a::r/\r.length=n:=λ{n l} h=>by
  cases l with
  | nil=>cases h
  | cons a r=>exact⟨a,r,rfl,Nat.succ.inj h⟩
 obtain⟨w,_,rfl,I⟩:=one h;obtain⟨v,_,rfl,H⟩:=one I;obtain⟨u,_,rfl,G⟩:=one H;obtain⟨s,_,rfl,F⟩:=one G;obtain⟨q,_,rfl,E⟩:=one F;obtain⟨o,_,rfl,C⟩:=one E;obtain⟨m,_,rfl,B⟩:=one C;obtain⟨j,_,rfl,A⟩:=one B;obtain⟨i,_,rfl,z⟩:=one A;obtain⟨g,_,rfl,x⟩:=one z;obtain⟨c,_,rfl,e⟩:=one x;obtain⟨b,r,rfl,d⟩:=one e;cases List.length_eq_zero_iff.mp d;exact⟨_,_,_,_,_,_,_,_,_,_,_,_,rfl⟩
def TM (ns:aN)(H:Hp)(i:Nat)(a:List V)(σ:St)(H':Hp):Prop:=aF H H'/\cY H' ((ns.take i).map λx=>(x,(0:Int))) a/\∃o:Option V,σ=[o]
noncomputable def SI (p l fl:Addr)(nm:List V)(c:List V)(d:cG)(b ns:aN)(H:Hp)(i:Nat)(a:List V)(σ:St)(H':Hp):Prop :=
 ∃(sm:bG) (o:Option V),σ=[o,some (.ref p),some (.ref l)]/\eE p H H'/\cC H' p/\H' l=some (.lst nm)/\H' fl=some (.lst c)/\cY H' d c/\fR H' sm a/\sm.map (·.1)=ns.take i/\(∀r∈sm,r.2≠("" : Str)->r.2∈b)/\((sm.map (·.2)).filter λ(x:Str)=>decide (x≠("" : Str))).Sublist (b.take i)
theorem yW {f d a i g s q m l v c b:Str}{A k:Nat}{sm:bG}(w:C3 A (bO 3) [f,d,a,i,g,s,q,m,l,v,c,b])(e:sm.map (·.1)=[v,c,b].take k)(z:∀r∈sm,r.2≠("" : Str)->r.2∈[f,d,a])(o:((sm.map (·.2)).filter λ(x:Str)=>decide (x≠("" : Str))).Sublist ([f,d,a].take k)) :
  bF [(f,0),(d,0),(a,0),(i,0),(g,0),(s,1),(q,1),(m,2),(l,3)] sm:=by
 have nd:=w.nd;have sub:([f,d,a,i,g,s,q,m,l]++sm.map (·.1)).Sublist [f,d,a,i,g,s,q,m,l,v,c,b]:=by rw[e];exact List.Sublist.append (List.Sublist.refl _) (List.take_sublist _ _)
 have le:sm.length<=3:=by have:=congrArg List.length e;rw[af,bo]at this;simp only[ap,List.length_nil]at this;omega
 have nm:∀x∈([f,d,a,i,g,s,q,m,l]++sm.map (·.1)),fZ x:=λx B=>by obtain⟨j,C⟩:=List.getElem?_of_mem (sub.subset B);exact w.name (λj=>by unfold bO;split <;> decide) C
 refine⟨by show 1<=9;decide,by show 9<=12;decide,le,nm,nd.sublist sub,?_,⟨_,av,rfl⟩,λr u ne=>?_,(nd.sublist ?_).sublist o⟩
 ·intro r u;simp only[cm,List.not_mem_nil,or_false]at u;rcases u with rfl|rfl|rfl|rfl|rfl|rfl|rfl|rfl|rfl <;> (constructor <;> dsimp only <;> decide)
 ·have:=z r u ne;show r.2∈[f,d,a,i,g];simp only[cm,List.not_mem_nil,or_false]at this⊢;rcases this with h|h|h <;> simp[h]
 ·exact(List.take_sublist _ _).trans (List.sublist_append_left [f,d,a] [i,g,s,q,m,l,v,c,b])
noncomputable def wi31:aN:=["?x","?1","?0z9","?zzzzzzzz"]
def S1 (c:Nat)(d:Hp)(i:Nat)(b:List V)(σ:St)(H':Hp):Prop:=H'=d/\∃(a:aN) (o:Option V),b=a.map V.str/\a.length=i/\σ=[o,some (.str abc),some (.int c)]/\∀(j:Nat) (x:Str),a[j]?=some x->x=⟨#[c31 c j]⟩
def RM (a:cG)(sm:bG):Prop:=(∀j,j<5->∃x,a[j]?=some (x,0))/\(∃r∈a,r.2=1)/\1<=sm.length
def uJ:Sp:=λvs H Q _=>∃p:Addr,vs=[.ref p]/\cC H p/\∀(t a b:Addr) (fx:cG) (sm:bG) (fv sv:List V) (H':Hp),eE p H H'->cC H' p->H' t=some (.tup [.ref a,.ref b])->H' a=some (.lst fv)->H' b=some (.lst sv)->cY H' fx fv->fR H' sm sv->bF fx sm->a≠p->b≠p->RM fx sm->Q (.ref t) H'
theorem JP {f:Addr}{fd:FuncData}(F:fJ K "_law_signs" "_law_signs" dQ f fd)(T:Txt mg)(c:dM P w K mg base bH 1 "_law_take" iX):bN P w K mg base bH 2 f fd oK uJ:=by
 refine F.ok cW (λvs H Q E h=>?_) (λcdv A outer s H vs Q E hr h=>?_)
 ·obtain⟨p,rfl,_⟩:=h;rfl
 ·obtain⟨p,rfl,hp,q⟩:=h;have hu:=hr.units
  refine⟨_,(aD (aZ (i:=1) cW.nd rfl (Or.inr rfl) cS)
   (aD (aZ (i:=2) cW.nd rfl (Or.inr rfl) (aM c (hr.mono (by decide)) pass0 rfl (aA (pv 0) (aA aJ aB))))
   (aD (aZ (i:=3) cW.nd rfl (Or.inr rfl) (eF rfl (bD.by (N:=hU) (names:=(aH dQ).names) (N':=["_law_j","_law_letters","_law_shift"]) (src:=[none,some 1,some 2]) (by decide +kernel) rfl rfl) (lN rfl T.n_range (aA aJ aB)) (λ_ _ _ _=>(bA (i:=0) (show List.Nodup (["_law_j","_law_letters","_law_shift"]:aN)by decide +kernel) rfl (Or.inl rfl))) (λ_ _ _ _=>dF) (λ_ _ _ _=>(bM cX (pv 1) (bV mR (bV cV (bV (r8.or rZ) aJ (pv 0)) (pv 2)) aJ) (λ_ _=>rfl)))))
   (aD (fE de rfl (cE K rfl (cM (aA aJ (aA aJ (aA aJ aB))))) (bA (i:=4) cW.nd rfl (Or.inl rfl)) (aG (fE de rfl (lN rfl T.n_range (aA (aM c (hr.mono (by decide)) pass0 rfl (aA (pv 0) (aA aJ aB))) aB)) (bA (i:=5) cW.nd rfl (Or.inl rfl)) (aG (mO (bV cV (bM cX (pv 3) (pv 4) (λ_ _=>rfl)) (bM cX (pv 1) (aM c (hr.mono (by decide)) pass0 rfl (aA (pv 0) (aA aJ aB))) (λ_ _=>rfl))) (wK (pv 3) (pv 4) nJ))))))
   (aD (iS (i:=6) cW.nd rfl rfl rfl rfl (bD.by (N:=hU) (names:=(aH dQ).names) (N':=["_law_name"]) (src:=[none]) (by decide +kernel) rfl rfl) (cE K rfl (eK kM (pv 3) dG (cP aJ))) (λ_ _ _ _=>(bA (i:=0) (show List.Nodup (["_law_name"]:aN)by decide +kernel) rfl (Or.inl rfl))) (λ_ _ _ _=>dF) (λ_ _ _ _=>(eB (aA (pv 0) (aA aJ aB)))))
   (aD (cB (gM da PySem.F.slot_list_extend PySem.F.type_list_extend lO (pv 6) (aA (cM (aA (eB (aA (bM cX (pv 3) aJ (λ_ _=>rfl)) (aA aJ aB))) (aA (eB (aA (bM cX (pv 3) aJ (λ_ _=>rfl)) (aA aJ aB))) (aA (eB (aA (bM cX (pv 3) aJ (λ_ _=>rfl)) (aA aJ aB))) (aA (eB (aA (bM cX (pv 3) aJ (λ_ _=>rfl)) (aA aJ aB))) aB))))) aB)))
   (aD (iS (i:=7) cW.nd rfl rfl rfl rfl (bD.by (N:=hU) (names:=(aH dQ).names) (N':=["_law_j","_law_state","_law_names"]) (src:=[none,some 0,some 3]) (by decide +kernel) rfl rfl) (lN rfl T.n_range (aA (bV cV aJ (aM c (hr.mono (by decide)) pass0 rfl (aA (pv 0) (aA aJ aB)))) aB)) (λ_ _ _ _=>(bA (i:=0) (show List.Nodup (["_law_j","_law_state","_law_names"]:aN)by decide +kernel) rfl (Or.inl rfl))) (λ_ _ _ _=>dF) (λ_ _ _ _=>(eB (aA (bM cX (pv 2) (bV cV aJ (pv 0)) (λ_ _=>rfl)) (aA (bM cX (cM (aA (bM cX (pv 2) (pv 0) (λ_ _=>rfl)) (aA cS aB))) (aM c (hr.mono (by decide)) pass0 rfl (aA (pv 1) (aA aJ aB))) (λ_ _=>rfl)) aB)))))
   (aG (aO (eB (aA (pv 6) (aA (pv 7) aB)))))))))))),?_⟩
  clear hr F T hu c;simp only[kH,nC];refine⟨_,rfl,p,26,rfl,hp,by decide,by decide,λd x0 y0 d0 d1=>?_⟩;obtain⟨sh,rfl,hsh⟩:∃k:Nat,d=(k:Int)/\k<26:=⟨d.toNat,by omega,by omega⟩
  have p1:cC (upd H p (.lst [.int x0,.int y0])) p:=⟨_,_,upd_same⟩
  have b1:eE p H (upd H p (.lst [.int x0,.int y0])):=eE.upd p H _;generalize upd H p (.lst [.int x0,.int y0])=H1 at p1 b1⊢;refine⟨12,rfl,by decide,by decide,?_⟩;refine pZ (S1 sh H1) ⟨rfl,[],none,rfl,rfl,rfl,by simp⟩ ?_ ?_
  ·rintro i g σ H' hi ⟨rfl,ws,o,rfl,hl,rfl,hw⟩;have hm:=Nat.mod_lt (7 * i+sh) (show 0<26 by decide);have ei:(7 * (0+(i:Int))+(sh:Int)) % 26=((7 * i+sh) % 26:Nat):=by omega
   refine⟨_,rfl,_,rfl,.inl ⟨_,_,rfl,rfl,.inl (by decide),_,rfl,.inl ⟨_,rfl,_,_,rfl,rfl,(by decide:(0:Int)<26),_,(by dsimp only;rw[ei];exact KH (by omega) (by omega)),ak (m:=12) (by rw[af];omega) (by decide),rfl,ws++[⟨#[c31 sh i]⟩],_,by rw[ax];rfl,by rw[aq,hl];rfl,rfl,λj x e=>?_⟩⟩⟩;by_cases z:j<ws.length
   ·rw[List.getElem?_append_left z]at e;exact hw j x e
   ·rw[List.getElem?_append_right (by omega),hl]at e;obtain⟨g1,g2⟩:=cj.mp e;have g3:j=i:=by simp at g1;omega
    subst g3
    simpa using g2.symm
  ·rintro g σ H' ⟨rfl,ws,o,rfl,hl,rfl,hw⟩ l hl0;have nlp:l≠p:=(p1.ne hl0).symm;have old:∀a,a≠p->H' a=none->H a=none:=λa na ha=>by
    cases e:H a with
    | none=>rfl
    | some u=>have:=b1 a u na e;rw[ha]at this;cases this
   have hlH:=old l nlp hl0;have b2:=b1.trans (eE.new (p:=p) (o:=.lst (ws.map V.str)) hl0);have p2:=p1.but (o:=.lst (ws.map V.str)) (p1.ne hl0);have l2:upd H' l (.lst (ws.map V.str)) l=some (.lst (ws.map V.str)):=upd_same;generalize upd H' l (.lst (ws.map V.str))=H2 at b2 p2 l2⊢;refine⟨show 3<=sizeLine by decide,λu hu=>⟨u,_,rfl,.inl upd_same,λJ hJ=>B0 hJ hlH (b2.trans (eE.new hu)) (p2.but (p2.ne hu)) (by rw[aC (aE l2 hu)];exact l2) upd_same (aE l2 hu).symm (p2.ne hu).symm nlp ⟨hl,λj x e=>⟨[],by rw[hw j x e],au _,by simp⟩⟩ λws3 o4 o5 H3 b3 p3 l3 w3=>?_⟩⟩;clear hJ J hu b2 p2 l2 hl hw ws;obtain⟨C,B,v,S,R,W,a6,a7,Z,a9,O,I,rfl⟩:=list12 w3.1;refine⟨_,rfl,5,rfl,l,_,rfl,.inl l3,(λ⟨ys,hy⟩=>by rw[l3]at hy;cases hy),λsl os hsl ho=>?_⟩;have eo:os = .lst [.str C,.str B,.str v,.str S,.str R]:=by
    rcases ho with⟨e,_⟩|⟨_,e⟩
    ·rw[e];rfl
    ·rw[l3]at e;cases e
   subst eo;clear ho;have s4:aF H3 (upd H3 sl (.lst [.str C,.str B,.str v,.str S,.str R])):=aF.upd hsl;have l4:upd H3 sl (.lst [.str C,.str B,.str v,.str S,.str R]) sl=some (.lst ([C,B,v,S,R].map V.str)):=upd_same;generalize upd H3 sl (.lst [.str C,.str B,.str v,.str S,.str R])=H4 at s4 l4⊢;refine⟨sl,_,rfl,.inl l4,λJ hJ=>cN hJ (TM [C,B,v,S,R] H4) ⟨aF.refl _,rfl,none,rfl⟩ (λi g σ H' _ h=>by rw[h.1 _ _ l4,l4]) ?_ ?_⟩
   ·rintro i x g σ H5 hx ⟨s5,r5,o6,rfl⟩;obtain⟨y,hy,rfl⟩:∃y,[C,B,v,S,R][i]?=some y/\x = .str y:=by
     rw[bu]at hx;cases e:[C,B,v,S,R][i]? with
     | none=>rw[e]at hx;cases hx
     | some n=>rw[e]at hx;exact⟨n,rfl,by cases hx;rfl⟩
    refine⟨_,rfl,show 2<=sizeLine by decide,λt U=>⟨ak (m:=20) ?_ (by decide),s5.trans (aF.upd U),?_,_,rfl⟩⟩
    ·rw[r5.len,af,bo];simp;omega
    ·rw[aY hy,ax];exact(r5.same (bE.of (aF.upd U))).snoc upd_same
   ·rintro g σ H5 ⟨s5,r5,o6,rfl⟩ fl hfl;have r5':cY H5 [(C,0),(B,0),(v,0),(S,0),(R,0)] g:=r5;have s6:=(s4.trans s5).trans (aF.upd (o:=.lst g) hfl);have f6:upd H5 fl (.lst g) fl=some (.lst g):=upd_same;have r6:=r5'.same (bE.of (aF.upd (o:=.lst g) hfl));have nfl:H3 fl=none:=by
     cases e:H3 fl with
     | none=>rfl
     | some u=>have:=(s4.trans s5) _ _ e;rw[hfl]at this;cases this
    have nfp:fl≠p:=(p3.ne nfl).symm;have nfH:H fl=none:=by
     cases e:H fl with
     | none=>rfl
     | some u=>have:=b3 fl u nfp e;rw[nfl]at this;cases this
    have la:=r5'.len;generalize upd H5 fl (.lst g)=H6 at s6 f6 r6⊢;have L:∀{H7:Hp},aF H6 H7->H7 l=some (.lst ([C,B,v,S,R,W,a6,a7,Z,a9,O,I].map V.str)):=λs=>s _ _ (s6 _ _ l3);refine⟨_,rfl,.inl ⟨rfl,_,eH.of f6⟩,_,rfl,.str W,by rw[ixV_l (L (aF.refl _))];rfl,show 2<=sizeLine by decide,λt1 h1=>?_⟩;have s7:=aF.upd (o:=.tup [.str W,.int 1]) h1;have g1:upd H6 t1 (.tup [.str W,.int 1]) t1=some (.tup [.str W,.int 1]):=upd_same;generalize upd H6 t1 (.tup [.str W,.int 1])=H7 at s7 g1⊢;refine⟨_,rfl,.str a6,by rw[ixV_l (L s7)];rfl,show 2<=sizeLine by decide,λX h2=>?_⟩;have s8:=s7.trans (aF.upd (o:=.tup [.str a6,.int 1]) h2);have g2:=cY.snoc (upd_same (H:=H7) (a:=X) (o:=.tup [.str a6,.int 1])) (cY.snoc (l:=[]) (vs:=[]) (aF.upd (o:=.tup [.str a6,.int 1]) h2 _ _ g1) rfl);generalize upd H7 X (.tup [.str a6,.int 1])=H8 at s8 g2⊢;refine⟨_,rfl,.str a7,by rw[ixV_l (L s8)];rfl,show 2<=sizeLine by decide,λt3 h3=>?_⟩;have s9:=s8.trans (aF.upd (o:=.tup [.str a7,.int 2]) h3);have g3:=cY.snoc (upd_same (H:=H8) (a:=t3) (o:=.tup [.str a7,.int 2])) (g2.same (bE.of (aF.upd (o:=.tup [.str a7,.int 2]) h3)));generalize upd H8 t3 (.tup [.str a7,.int 2])=H9 at s9 g3⊢;refine⟨_,rfl,.str Z,by rw[ixV_l (L s9)];rfl,show 2<=sizeLine by decide,λt4 h4=>?_⟩;have s10:=s9.trans (aF.upd (o:=.tup [.str Z,.int 3]) h4);have g4:=cY.snoc (upd_same (H:=H9) (a:=t4) (o:=.tup [.str Z,.int 3])) (g3.same (bE.of (aF.upd (o:=.tup [.str Z,.int 3]) h4)));generalize upd H9 t4 (.tup [.str Z,.int 3])=H10 at s10 g4⊢;refine⟨show 4<=sizeLine by decide,λb hb=>⟨fl,b,g,_,rfl,rfl,aF.upd hb _ _ (s10 _ _ f6),.inl upd_same,ao (m:=20) (by rw[la];show 9<=20;decide) (by decide),?_⟩⟩;have Y:=s10.trans (aF.upd (o:=.lst [.ref t1,.ref X,.ref t3,.ref t4]) hb);have g5:=g4.same (bE.of (aF.upd (o:=.lst [.ref t1,.ref X,.ref t3,.ref t4]) hb));generalize upd H10 b (.lst [.ref t1,.ref X,.ref t3,.ref t4])=H11 at Y g5⊢;have l11:=L Y;have f11:=Y _ _ f6;have nlf:l≠fl:=λz=>by rw[z,nfl]at l3;cases l3
    have b12:=CY (o:=.lst (g++[.ref t1,.ref X,.ref t3,.ref t4])) (b3.trans (s6.trans Y).but) nfH;have p11:cC H11 p:=by obtain⟨x,y,e⟩:=p3;exact⟨x,y,(s6.trans Y) _ _ e⟩
    have p12:=p11.but (o:=.lst (g++[.ref t1,.ref X,.ref t3,.ref t4])) nfp.symm;have l12:upd H11 fl (.lst (g++[.ref t1,.ref X,.ref t3,.ref t4])) l=some (.lst ([C,B,v,S,R,W,a6,a7,Z,a9,O,I].map V.str)):=by rw[aC nlf];exact l11
    have f12:upd H11 fl (.lst (g++[.ref t1,.ref X,.ref t3,.ref t4])) fl=some (.lst (g++[.ref t1,.ref X,.ref t3,.ref t4])):=upd_same;have r12:cY (upd H11 fl (.lst (g++[.ref t1,.ref X,.ref t3,.ref t4]))) [(C,0),(B,0),(v,0),(S,0),(R,0),(W,1),(a6,1),(a7,2),(Z,3)] (g++[.ref t1,.ref X,.ref t3,.ref t4]) :=
     cY.app (l:=[(C,0),(B,0),(v,0),(S,0),(R,0)]) (m:=[(W,1),(a6,1),(a7,2),(Z,3)]) (us:=[.ref t1,.ref X,.ref t3,.ref t4]) (r6.same ((bE.of Y).trans (bE.lst f11))) (cY.same (bE.lst f11) g5)
    generalize upd H11 fl (.lst (g++[.ref t1,.ref X,.ref t3,.ref t4]))=H12 at b12 p12 l12 f12 r12⊢;generalize g++[.ref t1,.ref X,.ref t3,.ref t4]=fv at f12 r12;clear Y g5 g4 g3 g2 g1 s10 s9 s8 s7 hb h4 h3 h2 h1 L r6 f6 s6 la nfl hfl r5 r5' s5 hJ J l4 s4 hsl l3 p3 b3 f11 l11 p11 g;refine⟨_,rfl,p,3,rfl,p12,by decide,by decide,λk x1 y1 k0 k1=>.inl ⟨_,rfl,1+k,rfl,by omega,by omega,?_⟩⟩;have b13:=b12.trans (eE.upd p H12 (.lst [.int x1,.int y1]));have p13:cC (upd H12 p (.lst [.int x1,.int y1])) p:=⟨_,_,upd_same⟩
    have l13:upd H12 p (.lst [.int x1,.int y1]) l=some (.lst ([C,B,v,S,R,W,a6,a7,Z,a9,O,I].map V.str)):=by rw[aC nlp];exact l12
    have f13:upd H12 p (.lst [.int x1,.int y1]) fl=some (.lst fv):=by rw[aC nfp];exact f12
    have r13:=r12.same (bE.pot (o:=.lst [.int x1,.int y1]) p12);generalize upd H12 p (.lst [.int x1,.int y1])=H13 at b13 p13 l13 f13 r13⊢;refine pZ (SI p l fl _ fv [(C,0),(B,0),(v,0),(S,0),(R,0),(W,1),(a6,1),(a7,2),(Z,3)] [C,B,v] [a9,O,I] H) ⟨[],none,rfl,b13,p13,l13,f13,r13,rfl,rfl,by simp,by simp⟩ ?_ ?_
    ·rintro i g σ H14 hi ⟨sm,o6,rfl,b14,p14,l14,f14,r14,rs,e1,e2,e3⟩;have hi3:i<3:=by omega
     obtain⟨x9,xj,g9,gj,i9,ij⟩:∃x9 xj,[a9,O,I][i]?=some x9/\[C,B,v][i]?=some xj/\atI ([C,B,v,S,R,W,a6,a7,Z,a9,O,I].map V.str) (9+(0+(i:Int)))=some (.str x9)/\atI ([C,B,v,S,R,W,a6,a7,Z,a9,O,I].map V.str) (0+(i:Int))=some (.str xj):=by
      match i,hi3 with
      | 0,_=>exact⟨_,_,rfl,rfl,rfl,rfl⟩
      | 1,_=>exact⟨_,_,rfl,rfl,rfl,rfl⟩
      | 2,_=>exact⟨_,_,rfl,rfl,rfl,rfl⟩
     refine⟨_,rfl,_,rfl,.inl ⟨_,rfl,.str x9,by rw[ixV_l l14];exact i9,_,rfl,_,rfl,.str xj,by rw[ixV_l l14];exact ij,show 2<=sizeLine by decide,λr hr=>?_⟩⟩;have G:=aF.upd (o:=.lst [.str xj,.str ""]) hr;have q15:upd H14 r (.lst [.str xj,.str ""]) r=some (.lst [.str xj,.str ""]):=upd_same;have nrp:=(p14.ne hr).symm;have p15:=p14.but (o:=.lst [.str xj,.str ""]) (p14.ne hr);generalize upd H14 r (.lst [.str xj,.str ""])=H15 at G q15 p15⊢;refine⟨_,rfl,p,2,rfl,p15,by decide,by decide,λd x2 y2 d0 d1=>?_⟩;have p16:cC (upd H15 p (.lst [.int x2,.int y2])) p:=⟨_,_,upd_same⟩
     have b16:=(b14.trans G.but).trans (eE.upd p H15 (.lst [.int x2,.int y2]));have l16:upd H15 p (.lst [.int x2,.int y2]) l=_:=(aC nlp).trans (G _ _ l14);have f16:upd H15 p (.lst [.int x2,.int y2]) fl=_:=(aC nfp).trans (G _ _ f14);have q16:upd H15 p (.lst [.int x2,.int y2]) r=_:=(aC nrp).trans q15;have tt:=(bE.of G).trans (bE.pot (o:=.lst [.int x2,.int y2]) p15);generalize upd H15 p (.lst [.int x2,.int y2])=H16 at p16 b16 l16 f16 q16 tt⊢;have la:g.length<=20:=by have h1:=congrArg List.length e1;rw[af,bo]at h1;have h2:=rs.len;simp only[List.length_nil,ap]at h1;omega
     have go:∀z:Str,(z=("" : Str)∨z=xj)->∀t,H16 t=none->∃(sm:bG),sm.map (·.1)=[a9,O,I].take (i+1)/\(∀r∈sm,r.2≠("" : Str)->r.2∈[C,B,v])/\((sm.map (·.2)).filter λ(x:Str)=>decide (x≠("" : Str))).Sublist ([C,B,v].take (i+1))/\fR (upd H16 t (.tup [.str x9,.str z])) sm (g++[.ref t]):=λz hz t U=>by
      refine⟨sm++[(x9,z)],by rw[ax,e1,aY g9];rfl,λr hr ne=>?_,?_,((rs.same tt).same (bE.of (aF.upd U))).snoc upd_same⟩
      ·obtain m|m:=cp.mp hr
       ·exact e2 r m ne
       ·rw[ck.mp m]at ne⊢;rw[hz.resolve_left ne];exact bf gj
      ·rw[ax,List.filter_append,aY gj];refine List.Sublist.append e3 ?_;rcases hz with rfl|rfl
       ·simp
       ·exact List.filter_sublist
     have fin:∀z:Str,(z=("" : Str)∨z=xj)->∀t,H16 t=none->SI p l fl ([C,B,v,S,R,W,a6,a7,Z,a9,O,I].map V.str) fv [(C,0),(B,0),(v,0),(S,0),(R,0),(W,1),(a6,1),(a7,2),(Z,3)] [C,B,v] [a9,O,I] H (i+1) (g++[.ref t]) [some (.int (0+i)),some (.ref p),some (.ref l)] (upd H16 t (.tup [.str x9,.str z])):=λz hz t U=>by obtain⟨sm',h1,h2,h3,h4⟩:=go z hz t U;exact⟨sm',_,rfl,b16.trans (eE.new U),p16.but (p16.ne U),aF.upd U _ _ l16,aF.upd U _ _ f16,(r14.same tt).same (bE.of (aF.upd U)),h4,h1,h2,h3⟩
     have:d=0∨d=1:=by omega
     rcases this with rfl|rfl
     ·exact⟨.str xj,by rw[ixV_l q16];rfl,show 2<=sizeLine by decide,λt U=>⟨ak la (by decide),fin xj (.inr rfl) t U⟩⟩
     ·exact⟨.str "",by rw[ixV_l q16];rfl,show 2<=sizeLine by decide,λt U=>⟨ak la (by decide),fin _ (.inl rfl) t U⟩⟩
    ·rintro g σ H14 ⟨sm,o6,rfl,b14,p14,l14,f14,r14,rs,e1,e2,e3⟩ sl hsl;refine⟨_,rfl,_,rfl,show 2<=sizeLine by decide,λt U=>?_⟩;have G:=(aF.upd (o:=.lst g) hsl).trans (aF.upd (o:=.tup [.ref fl,.ref sl]) U);refine q t fl sl _ sm fv g _ (b14.trans G.but) (by obtain⟨x,y,e⟩:=p14;exact⟨x,y,G _ _ e⟩) upd_same (G _ _ f14) (aF.upd U _ _ upd_same) (r14.same (bE.of G)) (rs.same (bE.of G)) (yW w3 e1 e2 e3) nfp (p14.ne hsl).symm ⟨λj hj=>?_,⟨(W,1),by simp,rfl⟩,?_⟩
     ·match j,hj with
      | 0,_=>exact⟨_,rfl⟩
      | 1,_=>exact⟨_,rfl⟩
      | 2,_=>exact⟨_,rfl⟩
      | 3,_=>exact⟨_,rfl⟩
      | 4,_=>exact⟨_,rfl⟩
     ·have:=congrArg List.length e1;rw[af,bo]at this;simp only[ap,List.length_nil]at this;omega
end
abbrev M:=Nat×Str×Nat
noncomputable def sL (x y:Str):Bool:=decide (x.cps.toList<y.cps.toList)
theorem LU {x y:Str}(h:x.cps.toList=y.cps.toList):x=y:=by cases x;cases y;simp only[Str.mk.injEq];exact Array.toList_inj.mp h
theorem O9 (x:Str):sL x x=false:=bg (List.lt_irrefl _)
theorem L0 {x y:Str}(h:sL x y=true):sL y x=false:=bg λk=>absurd (List.lt_trans (bn h) k) (List.lt_irrefl _)
theorem IS {x y:Str}(n:x≠y):sL x y=true∨sL y x=true:=by
 by_cases h:x.cps.toList<y.cps.toList
 ·exact .inl (bd h)
 ·by_cases k:y.cps.toList<x.cps.toList
  ·exact .inr (bd k)
  ·exact absurd (LU (List.le_antisymm (List.not_lt.mp k) (List.not_lt.mp h))) n
noncomputable def ltM (a b:M):Bool:=if a.1=b.1 then(if a.2.1=b.2.1 then decide (a.2.2<b.2.2)else sL a.2.1 b.2.1)else decide (a.1<b.1)
theorem sC {a b:M}(h:ltM a b=true):ltM b a=false:=by
 obtain⟨i,g,l⟩:=a;obtain⟨f,e,j⟩:=b;unfold ltM at h⊢;dsimp only at h⊢;by_cases d:i=f
 ·subst d;rw[aj rfl]at h⊢;by_cases c:g=e
  ·subst c;rw[aj rfl]at h⊢;exact bg (by have:=bn h;omega)
  ·rw[ac c]at h;rw[ac (Ne.symm c)];exact L0 h
 ·rw[ac d]at h;rw[ac (Ne.symm d)];exact bg (by have:=bn h;omega)
theorem pE {a b:M}(n:a≠b):ltM a b=true∨ltM b a=true:=by
 obtain⟨l,j,i⟩:=a;obtain⟨g,f,e⟩:=b;unfold ltM;dsimp only;by_cases d:l=g
 ·subst d;rw[aj rfl,aj rfl];by_cases c:j=f
  ·subst c;rw[aj rfl,aj rfl];have:i≠e:=λz=>n (by rw[z]);rcases Nat.lt_or_gt_of_ne this with h|h
   ·exact .inl (bd h)
   ·exact .inr (bd h)
  ·rw[ac c,ac (Ne.symm c)];exact IS c
 ·rw[ac d,ac (Ne.symm d)];rcases Nat.lt_or_gt_of_ne d with h|h
  ·exact .inl (bd h)
  ·exact .inr (bd h)
noncomputable def lexK:List M->List M->Bool
 | [],[]=>false
 | [],_::_=>true
 | _::_,[]=>false
 | a::s,b::t=>if a=b then lexK s t else ltM a b
theorem n5:∀s:List M,lexK s s=false
 | []=>rfl
 | a::s=>by rw[lexK,aj rfl,n5 s]
theorem pF:∀{s t:List M},lexK s t=true->lexK t s=false
 | [],[],h=>by cases h
 | [],_::_,_=>rfl
 | _::_,[],h=>by cases h
 | a::s,b::t,h=>by
  rw[lexK]at h⊢;by_cases e:a=b
  ·rw[aj e]at h;rw[aj e.symm];exact pF h
  ·rw[ac e]at h;rw[ac (Ne.symm e)];exact sC h
theorem sE:∀{s t:List M},s≠t->lexK s t=true∨lexK t s=true
 | [],[],n=>absurd rfl n
 | [],_::_,_=>.inl rfl
 | _::_,[],_=>.inr rfl
 | a::s,b::t,n=>by
  rw[lexK,lexK];by_cases e:a=b
  ·rw[aj e,aj e.symm];exact sE λz=>n (by rw[e,z])
  ·rw[ac e,ac (Ne.symm e)];exact pE e
noncomputable def sortS (x:Str):Nat:=if x.cps.toList[0]?=some 63 then 0 else 1
mutual
noncomputable def key:D->List M
 | .str x=>[(sortS x,x,0)]
 | .tup (.str n::ds)=>(2,n,ds.length+1)::keys ds
 | _=>[]
noncomputable def keys:List D->List M
 | []=>[]
 | d::ds=>key d++keys ds
end
mutual
/-- texts and tuples whose first is a text -/
def Fl:D->Prop
 | .str x=>1<=x.cps.toList.length/\x.cps.toList.length<=20
 | .tup (.str _::ds)=>Fls ds
 | _=>False
def Fls:List D->Prop
 | []=>True
 | d::ds=>Fl d/\Fls ds
end
noncomputable def sortD:D->Nat
 | .str x=>sortS x
 | _=>2
mutual
/-- part by part -/
noncomputable def ah:D->D->Bool
 | .str x,.str y=>if sortS x=sortS y then sL x y else decide (sortS x<sortS y)
 | .tup (.str n::ds),.tup (.str m::es)=>if n=m then(if ds.length=es.length then ahs ds es else decide (ds.length<es.length))else sL n m
 | d,e=>decide (sortD d<sortD e)
noncomputable def ahs:List D->List D->Bool
 | d::ds,e::es=>if eqD d e=true then ahs ds es else ah d e
 | _,_=>false
end
theorem x8 (x:Str):sortS x<2:=by unfold sortS;split <;> omega
mutual
theorem w6:∀(d e:D) (s t:List M),Fl d->Fl e->lexK (key d++s) (key e++t)=if eqD d e=true then lexK s t else ah d e
 | .str x,.str y,s,t,_,_=>by
  have a:eqD (.str x) (.str y)=(x == y):=rfl;show(if ((sortS x,x,0):M)=(sortS y,y,0)then lexK s t else ltM (sortS x,x,0) (sortS y,y,0))=_;rw[a];by_cases e:x=y
  ·subst e;rw[aj rfl,aj (by simp)]
  ·rw[ac (λz=>e (by simp at z;exact z.2)),ac (by simpa using e),ah];unfold ltM;dsimp only;by_cases h:sortS x=sortS y
   ·rw[aj h,ac e,aj h]
   ·rw[ac h,ac h]
 | .str x,.tup (.str m::es),s,t,_,_=>by
  have a:eqD (.str x) (.tup (.str m::es))=false:=rfl;have:=x8 x;show(if ((sortS x,x,0):M)=(2,m,es.length+1)then _ else ltM (sortS x,x,0) (2,m,es.length+1))=_;rw[a,ac (λz=>by simp at z),ac (by decide),ah]
  ·unfold ltM;rw[ac (by dsimp only;omega)];rfl
  all_goals (intros;simp_all)
 | .tup (.str n::ds),.str y,s,t,_,_=>by
  have a:eqD (.tup (.str n::ds)) (.str y)=false:=rfl;have:=x8 y;show(if ((2,n,ds.length+1):M)=(sortS y,y,0)then _ else ltM (2,n,ds.length+1) (sortS y,y,0))=_;rw[a,ac (λz=>by simp at z),ac (by decide),ah]
  ·unfold ltM;rw[ac (by dsimp only;omega)];rfl
  all_goals (intros;simp_all)
 | .tup (.str n::ds),.tup (.str m::es),s,t,g,f=>by
  have a:eqD (.tup (.str n::ds)) (.tup (.str m::es))=((n == m) && eqDs ds es):=rfl;show(if ((2,n,ds.length+1):M)=(2,m,es.length+1)then lexK (keys ds++s) (keys es++t)else ltM (2,n,ds.length+1) (2,m,es.length+1))=_;rw[a,ah];by_cases c:n=m
  ·subst c;by_cases b:ds.length=es.length
   ·rw[aj (by rw[b]),aj rfl,aj b,zG ds es s t b g f];simp
   ·rw[ac (λz=>b (by simp at z;omega)),aj rfl,ac b];have:eqDs ds es=false:=by
     cases h:eqDs ds es with
     | false=>rfl
     | true=>rw[gQ]at h;simp at h;exact absurd h.2 b
    rw[this,ac (by simp)];unfold ltM;dsimp only;rw[aj rfl,aj rfl];simp
  ·rw[ac (λz=>c (by simp at z;exact z.1)),ac (by simp[c]),ac c];unfold ltM;dsimp only;rw[aj rfl,ac c]
theorem zG:∀(ds es:List D) (s t:List M),ds.length=es.length->Fls ds->Fls es->lexK (keys ds++s) (keys es++t)=if eqDs ds es=true then lexK s t else ahs ds es
 | [],[],s,t,_,_,_=>by rw[eqDs,aj rfl];rfl
 | d::ds,e::es,s,t,a,⟨f1,f2⟩,⟨c,b⟩=>by
  rw[keys,keys,cg,cg,w6 d e _ _ f1 c,zG ds es s t (by simpa using a) f2 b,eqDs,ahs];by_cases h:eqD d e=true
  ·rw[aj h,aj h,h,Bool.true_and]
  ·have h':eqD d e=false:=by simpa using h
   rw[ac h,ac h,h',Bool.false_and,ac (by decide)]
 | [],_::_,_,_,h,_,_=>by simp at h
 | _::_,[],_,_,h,_,_=>by simp at h
end
theorem sF {d e:D}(b:Fl d)(a:Fl e):lexK (key d) (key e)=(!eqD d e && ah d e):=by have:=w6 d e [] [] b a;rw[bh,bh]at this;rw[this];cases h:eqD d e <;> simp[lexK]
theorem NG {d e:D}(f:Fl d)(c:Fl e)(h:key d=key e):eqD d e=true:=by
 have a:=sF f c;have b:=w6 d e [] [(0,default,0)] f c;rw[bh,h]at b;cases q:eqD d e with
 | true=>rfl
 | false =>
  rw[q,ac (by decide)]at b;rw[q,h,n5,←b]at a;have:∀(s:List M) (m:M),lexK s (s++[m])=true:=by
   intro s m
   induction s with
   | nil=>rfl
   | cons a s g=>rw[List.cons_append,lexK,aj rfl,g]
  rw[this]at a;cases a
section
variable {P:Program}{w:World}{K:PySem.W.Frag}{mg:gX}{base:Heap}
theorem QJ {H:Hp}{a:Addr}{xs:List V}(h:H a=some (.tup xs)):isV H (.ref a) (.ty "tuple")=some true:=by unfold isV tyN;simp only[h];rfl
theorem Reps.get {H:Hp}:∀{ds:List D} {vs:List V} {i:Nat} {v:V},Reps H ds vs->vs[i]?=some v->∃d,ds[i]?=some d/\aX H d v
 | [],_,_,_,e,h=>by cases e;simp at h
 | d::_,_,0,_,⟨x,r,e,a,b⟩,h=>by subst e;simp at h;subst h;exact⟨d,rfl,a⟩
 | _::_,_,i+1,_,⟨x,r,e,a,b⟩,h=>by subst e;simp at h;obtain⟨d,f,c⟩:=Reps.get b h;exact⟨d,by simpa using f,c⟩
theorem Fls.get:∀{ds:List D} {i:Nat} {d:D},Fls ds->ds[i]?=some d->Fl d
 | [],_,_,_,z=>by simp at z
 | _::_,0,_,⟨a,_⟩,h=>by simp at h;subst h;exact a
 | _::_,i+1,_,⟨_,b⟩,h=>Fls.get b (by simpa using h)
theorem oE:∀{ds:List D} {i:Nat} {d:D},ds[i]?=some d->depD d<=depDs ds
 | [],_,_,h=>by simp at h
 | e::ds,0,_,h=>by simp at h;subst h;rw[depDs];omega
 | e::ds,i+1,_,h=>by have:=oE (ds:=ds) (i:=i) (by simpa using h);rw[depDs];omega
theorem xD {d:D}(h:Fl d):(∃x,d = .str x/\1<=x.cps.toList.length/\x.cps.toList.length<=20)∨∃n ds,d = .tup (.str n::ds)/\Fls ds:=by
 unfold Fl at h;split at h
 ·exact .inl ⟨_,rfl,h⟩
 ·exact .inr ⟨_,_,rfl,h⟩
 ·exact absurd h id
noncomputable def opn1 (n z:Str)(d:D):List D:=match d with
 | .tup (.str m::es)=>if m=n then es else [d]
 | d=>if eqD d (.str z)=true then []else [d]
noncomputable def opn (n z:Str)(ds:List D):List D:=ds.flatMap (opn1 n z)
theorem nW (n z:Str)(ds:List D)(d:D):opn n z (ds++[d])=opn n z ds++opn1 n z d:=by simp[opn]
theorem IsTms.get {c:cG}{sm:bG}{os:aN}:∀{ds:List D} {i:Nat} {d:D},IsTms c sm os ds->ds[i]?=some d->aV c sm os d
 | [],_,_,_,z=>by simp at z
 | _::_,0,_,⟨a,_⟩,h=>by simp at h;subst h;exact a
 | _::_,i+1,_,⟨_,b⟩,h=>IsTms.get b (by simpa using h)
theorem rJ {a:cG}{sm:bG}{os:aN}{d:D}(h:aV a sm os d):(∃x,d = .str x/\(x∈os∨x∈zeros a))∨∃n ds,(d = .tup (.str n::ds)∨d = .lst (.str n::ds))/\pQ a sm n ds.length/\IsTms a sm os ds:=by
 unfold aV at h;split at h
 ·exact .inl ⟨_,rfl,h⟩
 ·exact .inr ⟨_,_,.inl rfl,h⟩
 ·exact .inr ⟨_,_,.inr rfl,h⟩
 ·exact absurd h id
theorem k9 {a:cG}{sm:bG}{n:Str}{k:Nat}(h:pQ a sm n k):1<=k:=by rcases h with⟨h,_⟩|⟨h,_⟩ <;> omega
theorem fX {H:Hp}{a:Addr}{xs:List V}(h:H a=some (.tup xs)):isV H (.ref a) (.ty "str")=some false:=by unfold isV tyN;simp only[h];rfl
theorem iE {H:Hp}{a:Addr}{xs:List V}(h:H a=some (.lst xs)):isV H (.ref a) (.ty "str")=some false:=by unfold isV tyN;simp only[h];rfl
theorem wR:∀{ds:List D} {i:Nat} {d:D},ds[i]?=some d->lvs d<=lvss ds
 | [],_,_,h=>by simp at h
 | e::ds,0,_,h=>by simp at h;subst h;rw[lvss];omega
 | e::ds,i+1,_,h=>by have:=wR (ds:=ds) (i:=i) (by simpa using h);rw[lvss];omega
mutual
theorem HZ {a:cG}{sm:bG}{os:aN}:∀{d:D},aV a sm os d->1<=lvs d
 | .str x,_=>by rw[lvs] <;> simp
 | .tup (.str n::ds),h=>by
  unfold aV at h;have:=gA h.2;have:=k9 h.1;rw[lvs];omega
 | .lst (.str n::ds),h=>by
  unfold aV at h;have:=gA h.2;have:=k9 h.1;rw[lvs];omega
 | .non,h=>by unfold aV at h;exact absurd h id
 | .bl _,h=>by unfold aV at h;exact absurd h id
 | .int _,h=>by unfold aV at h;exact absurd h id
 | .tup [],h=>by unfold aV at h;exact absurd h id
 | .lst [],h=>by unfold aV at h;exact absurd h id
 | .tup (.non::_),h=>by unfold aV at h;exact absurd h id
 | .tup (.bl _::_),h=>by unfold aV at h;exact absurd h id
 | .tup (.int _::_),h=>by unfold aV at h;exact absurd h id
 | .tup (.tup _::_),h=>by unfold aV at h;exact absurd h id
 | .tup (.lst _::_),h=>by unfold aV at h;exact absurd h id
 | .lst (.non::_),h=>by unfold aV at h;exact absurd h id
 | .lst (.bl _::_),h=>by unfold aV at h;exact absurd h id
 | .lst (.int _::_),h=>by unfold aV at h;exact absurd h id
 | .lst (.tup _::_),h=>by unfold aV at h;exact absurd h id
 | .lst (.lst _::_),h=>by unfold aV at h;exact absurd h id
theorem gA {c:cG}{sm:bG}{os:aN}:∀{ds:List D},IsTms c sm os ds->ds.length<=lvss ds
 | [],_=>au _
 | d::ds,⟨a,b⟩=>by have f:=HZ a;have e:=gA b;rw[lvss,ap];omega
end
end
mutual
theorem KY:∀{d e:D},Fl d->Fl e->eqD d e=true->d=e
 | .str x,.str y,_,_,h=>by
  have h:(x == y)=true:=h;rw[eq_of_beq h]
 | .tup (.str n::ds),.tup (.str m::es),b,a,h=>by
  have h:((n == m) && eqDs ds es)=true:=h;rw[Bool.and_eq_true]at h;unfold Fl at b a;rw[eq_of_beq h.1,KU b a h.2]
 | .str _,.tup (.str _::_),_,_,h=>by cases (show false=true from h)
 | .tup (.str _::_),.str _,_,_,h=>by cases (show false=true from h)
theorem KU:∀{ds es:List D},Fls ds->Fls es->eqDs ds es=true->ds=es
 | [],[],_,_,_=>rfl
 | d::ds,e::es,⟨a,b⟩,⟨f,c⟩,h=>by
  rw[eqDs,Bool.and_eq_true]at h;rw[KY a f h.1,KU b c h.2]
 | [],_::_,_,_,h=>by cases (show false=true from h)
 | _::_,[],_,_,h=>by cases (show false=true from h)
end
theorem QF {d e:D}(b:Fl d)(a:Fl e)(h:key d=key e):d=e:=KY b a (NG b a h)
def leK (d e:D):Prop:=lexK (key e) (key d)=false
theorem J8 {d e:D}(f:Fl d)(c:Fl e)(b:leK d e)(a:leK e d):d=e:=by
 by_cases k:key d=key e
 ·exact QF f c k
 ·rcases sE k with h|h
  ·rw[a]at h;cases h
  ·rw[b]at h;cases h
theorem sD:∀{a b c:List M},lexK a b=false->lexK b c=false->lexK a c=false:=by
 have d:∀{a b c:M},ltM a b=true->ltM b c=true->ltM a c=true:=by
  rintro⟨v,j,C⟩ ⟨u,s,B⟩ ⟨r,i,A⟩ h k;unfold ltM at h k⊢;dsimp only at h k⊢;by_cases f:v=u
  ·subst f;rw[aj rfl]at h;by_cases e:v=r
   ·subst e;rw[aj rfl]at k⊢;by_cases f1:j=s
    ·subst f1;rw[aj rfl]at h;by_cases f2:j=i
     ·subst f2;rw[aj rfl]at k⊢;have:=bn h;have:=bn k;exact bd (p:=_) (by omega)
     ·rw[ac f2]at k⊢;exact k
    ·rw[ac f1]at h;by_cases f2:s=i
     ·subst f2;rw[ac f1];exact h
     ·rw[ac f2]at k;have t:sL j i=true:=bd (List.lt_trans (bn h) (bn k));by_cases o:j=i
      ·subst o;rw[O9]at t;cases t
      ·rw[ac o];exact t
   ·rw[ac e]at k⊢;exact k
  ·rw[ac f]at h;have h:=bn h;by_cases e:u=r
   ·subst e;rw[ac f];exact bd h
   ·rw[ac e]at k;have k:=bn k;rw[ac (by omega)];exact bd (p:=_) (by omega)
 intro a
 induction a with
 | nil =>
  intro b c h k;cases b with
  | nil=>exact k
  | cons y b=>cases h
 | cons x a w =>
  intro b c h k;cases c with
  | nil=>rfl
  | cons z c =>
   cases b with
   | nil=>cases k
   | cons y b =>
    rw[lexK]at h k⊢;by_cases f:x=y
    ·subst f;rw[aj rfl]at h;by_cases e:x=z
     ·rw[aj e]at k⊢;exact w h k
     ·rw[ac e]at k⊢;exact k
    ·rw[ac f]at h;have m:ltM y x=true:=(pE f).resolve_left (by rw[h];decide);by_cases e:y=z
     ·subst e;rw[ac f];exact h
     ·rw[ac e]at k;have l:ltM z y=true:=(pE e).resolve_left (by rw[k];decide);have g:=d l m;by_cases q:x=z
      ·subst q;have:=sC g;rw[g]at this;cases this
      ·rw[ac q];exact sC g
theorem GS {a b c:D}(h:leK a b)(k:leK b c):leK a c:=sD k h
theorem mM:∀{l m:List D},(∀d∈l,Fl d)->l.Perm m->l.Pairwise leK->m.Pairwise leK->l=m
 | [],m,_,p,_,_=>(List.nil_perm.mp p).symm
 | a::l,[],_,p,_,_=>absurd (List.perm_nil.mp p) (by simp)
 | a::l,b::m,f,p,s,t=>by
  have o:∀d∈b::m,Fl d:=λd hd=>f d (p.mem_iff.mpr hd);obtain⟨g,s2⟩:=List.pairwise_cons.mp s;obtain⟨t1,c⟩:=List.pairwise_cons.mp t;have e:a=b:=by
   have j:a∈b::m:=p.mem_iff.mp av;have i:b∈a::l:=p.mem_iff.mpr av;obtain h|h:=cm.mp j
   ·exact h
   ·obtain k|k:=cm.mp i
    ·exact k.symm
    ·exact J8 (f a av) (o b av) (g b k) (t1 a h)
  subst e;rw[mM (λd hd=>f d (ay _ hd)) (List.perm_cons a |>.mp p) s2 c]
noncomputable def insA (d:D):List D->List D
 | []=>[d]
 | e::l=>if ah d e=true then d::e::l else e::insA d l
theorem lQ (d:D):∀l:List D,(insA d l).Perm (d::l)
 | []=>.refl _
 | e::l=>by
  unfold insA;by_cases h:ah d e=true
  ·rw[aj h]
  ·rw[ac h];exact((lQ d l).cons e).trans (.swap d e l)
theorem QT {d e:D}(b:Fl d)(a:Fl e):ah d e=true->lexK (key d) (key e)=true∨d=e:=λh=>by
 rw[sF b a,h];cases q:eqD d e with
 | false=>exact .inl rfl
 | true=>exact .inr (KY b a q)
theorem pW {d:D}(b:Fl d):∀{l:List D},(∀e∈l,Fl e)->l.Pairwise leK->(insA d l).Pairwise leK
 | [],_,_=>List.pairwise_singleton _ _
 | e::l,f,s=>by
  obtain⟨c,s2⟩:=List.pairwise_cons.mp s;have g:=f e av;unfold insA;by_cases h:ah d e=true
  ·rw[aj h];have i:leK d e:=by
    rcases QT b g h with q|q
    ·exact pF q
    ·subst q;exact n5 _
   refine List.pairwise_cons.mpr ⟨λx a=>?_,s⟩;obtain k|k:=cm.mp a
   ·subst k;exact i
   ·exact GS i (c x k)
  ·rw[ac h];have m:leK e d:=by
    have:lexK (key d) (key e)=false:=by rw[sF b g];simp[h]
    exact this
   refine List.pairwise_cons.mpr ⟨λx a=>?_,pW b (λy j=>f y (ay _ j)) s2⟩;rcases cm.mp ((lQ d l).mem_iff.mp a)with k|k
   ·subst k;exact m
   ·exact c x k
noncomputable def eM (ds:List D):List D:=ds.foldl (λl d=>insA d l) []
noncomputable def zr (sm:bG)(n:Str):Option Str:=(sm.find? λr=>decide (r.1=n)).map (·.2)
noncomputable def one (n z:Str)(l:List D):D:=match l with
 | []=>.str z
 | [d]=>d
 | l=>.tup (.str n::l)
noncomputable def knot (sm:bG)(n:Str)(ps:List D):D:=match zr sm n with
 | none=>.tup (.str n::ps)
 | some z=>one n z (eM (opn n z ps))
mutual
noncomputable def flt (sm:bG):D->D
 | .tup (.str n::ds)=>knot sm n (flts sm ds)
 | .lst (.str n::ds)=>knot sm n (flts sm ds)
 | d=>d
noncomputable def flts (sm:bG):List D->List D
 | []=>[]
 | d::ds=>flt sm d::flts sm ds
end
theorem dP (sm:bG):∀ds:List D,flts sm ds=ds.map (flt sm)
 | []=>rfl
 | d::ds=>by rw[flts,dP sm ds];rfl
theorem uZ:∀(ds l:List D),(ds.foldl (λl d=>insA d l) l).Perm (ds++l)
 | [],l=>.refl _
 | d::ds,l=>(uZ ds (insA d l)).trans (((lQ d l).append_left ds).trans (List.perm_middle))
theorem bU (ds:List D):(eM ds).Perm ds:=by have:=uZ ds [];simpa [eM] using this
mutual
noncomputable def sz:D->Nat
 | .tup (_::ds)=>max 1 (szs ds)
 | .lst (_::ds)=>max 1 (szs ds)
 | _=>1
noncomputable def szs:List D->Nat
 | []=>0
 | d::ds=>sz d+szs ds
end
theorem O6:∀d:D,1<=sz d:=by intro d;unfold sz;split <;> omega
theorem vU:∀ds:List D,ds.length<=szs ds
 | []=>ae _
 | d::ds=>by rw[szs,ap];have:=O6 d;have:=vU ds;omega
theorem vV:∀ds es:List D,szs (ds++es)=szs ds+szs es
 | [],es=>by simp[szs]
 | d::ds,es=>by rw[List.cons_append,szs,vV ds es,szs];omega
theorem IF {l m:List D}(p:l.Perm m):szs l=szs m:=by
 induction p with
 | nil=>rfl
 | cons x _ c=>rw[szs,szs,c]
 | swap x y l=>rw[szs,szs,szs,szs];omega
 | trans _ _ a b=>exact a.trans b
theorem u7:∀ds es:List D,depDs (ds++es)=max (depDs ds) (depDs es)
 | [],es=>by simp[depDs]
 | d::ds,es=>by rw[List.cons_append,depDs,u7 ds es,depDs,Nat.max_assoc]
theorem CO {l m:List D}(p:l.Perm m):depDs l=depDs m:=by
 induction p with
 | nil=>rfl
 | cons x _ c=>rw[depDs,depDs,c]
 | swap x y l=>rw[depDs,depDs,depDs,depDs,Nat.max_left_comm]
 | trans _ _ a b=>exact a.trans b
theorem MJ (n z:Str)(d:D):szs (opn1 n z d)<=sz d:=by
 unfold opn1;split
 ·split
  ·rw[sz];omega
  ·rw[szs,szs];omega
 ·split
  ·rw[szs];omega
  ·rw[szs,szs];omega
theorem iB (n z:Str)(d:D)(ds:List D):opn n z (d::ds)=opn1 n z d++opn n z ds:=by simp[opn]
theorem BN (n z:Str):∀ds:List D,szs (opn n z ds)<=szs ds
 | []=>ae _
 | d::ds=>by rw[iB,vV,szs];have:=MJ n z d;have:=BN n z ds;omega
theorem JK (n z:Str)(d:D):depDs (opn1 n z d)<=depD d:=by
 unfold opn1;split
 ·split
  ·rw[depD,depDs];omega
  ·rw[depDs,depDs];omega
 ·split
  ·rw[depDs];omega
  ·rw[depDs,depDs];omega
theorem D0 (n z:Str):∀ds:List D,depDs (opn n z ds)<=depDs ds
 | []=>ae _
 | d::ds=>by rw[iB,u7,depDs];have:=JK n z d;have:=D0 n z ds;omega
theorem P0 (n z:Str)(l:List D):sz (one n z l)<=max 1 (szs l):=by
 unfold one;split
 ·show sz (.str z)<=_;unfold sz;omega
 ·rw[szs,szs];omega
 ·rw[sz];omega
theorem EE (sm:bG)(n:Str)(ps:List D):sz (knot sm n ps)<=max 1 (szs ps):=by
 unfold knot;split
 ·rw[sz];omega
 ·rename_i z _;have a:=P0 n z (eM (opn n z ps));rw[IF (bU _)]at a;have b:=BN n z ps;omega
theorem MS (n z:Str)(l:List D):depD (one n z l)<=depDs l+1:=by
 unfold one;split
 ·show(0:Nat)<=_;omega
 ·rw[depDs,depDs];omega
 ·rw[depD,depDs,show depD (.str n)=0 from rfl];omega
theorem zE (sm:bG)(n:Str)(ps:List D):depD (knot sm n ps)<=depDs ps+1:=by
 unfold knot;split
 ·rw[depD,depDs,show depD (.str n)=0 from rfl];omega
 ·rename_i z _;have a:=MS n z (eM (opn n z ps));rw[CO (bU _)]at a;have b:=D0 n z ps;omega
mutual
theorem QM (sm:bG):∀d:D,sz (flt sm d)<=sz d
 | .tup (.str n::ds)=>by rw[flt,sz];have:=EE sm n (flts sm ds);have:=q9 sm ds;omega
 | .lst (.str n::ds)=>by rw[flt,sz];have:=EE sm n (flts sm ds);have:=q9 sm ds;omega
 | .non | .bl _ | .int _ | .str _ | .tup [] | .lst [] | .tup (.non::_) | .tup (.bl _::_) | .tup (.int _::_) | .tup (.tup _::_) | .tup (.lst _::_) | .lst (.non::_) | .lst (.bl _::_) | .lst (.int _::_) | .lst (.tup _::_) | .lst (.lst _::_)=>by unfold flt;exact ae _
theorem q9 (sm:bG):∀ds:List D,szs (flts sm ds)<=szs ds
 | []=>ae _
 | d::ds=>by rw[flts,szs,szs];have:=QM sm d;have:=q9 sm ds;omega
end
mutual
theorem EQ (sm:bG):∀d:D,depD (flt sm d)<=depD d
 | .tup (.str n::ds)=>by rw[flt,depD,depDs,show depD (.str n)=0 from rfl];have:=zE sm n (flts sm ds);have:=oB sm ds;omega
 | .lst (.str n::ds)=>by rw[flt,depD,depDs,show depD (.str n)=0 from rfl];have:=zE sm n (flts sm ds);have:=oB sm ds;omega
 | .non | .bl _ | .int _ | .str _ | .tup [] | .lst [] | .tup (.non::_) | .tup (.bl _::_) | .tup (.int _::_) | .tup (.tup _::_) | .tup (.lst _::_) | .lst (.non::_) | .lst (.bl _::_) | .lst (.int _::_) | .lst (.tup _::_) | .lst (.lst _::_)=>by unfold flt;exact ae _
theorem oB (sm:bG):∀ds:List D,depDs (flts sm ds)<=depDs ds
 | []=>ae _
 | d::ds=>by rw[flts,depDs,depDs];have:=EQ sm d;have:=oB sm ds;omega
end
theorem dS:∀{ds:List D},Fls ds->∀d∈ds,Fl d
 | _::_,⟨a,b⟩,d,h=>by
  obtain rfl|h:=cm.mp h
  ·exact a
  ·exact dS b d h
theorem iZ:∀{ds:List D},(∀d∈ds,Fl d)->Fls ds
 | [],_=>trivial
 | d::ds,h=>⟨h d av,iZ λe k=>h e (ay _ k)⟩
theorem MN {n z:Str}{d:D}(h:Fl d):Fls (opn1 n z d):=by
 unfold opn1;split
 ·rename_i m es;have k:Fls es:=by unfold Fl at h;exact h
  split
  ·exact k
  ·exact⟨h,trivial⟩
 ·split
  ·exact trivial
  ·exact⟨h,trivial⟩
theorem rY {n z:Str}{ds:List D}(h:Fls ds):Fls (opn n z ds):=iZ λd k=>by obtain⟨e,b,a⟩:=List.mem_flatMap.mp k;exact dS (MN (dS h e b)) d a
mutual
def Nb:D->Prop
 | .tup (_::ds)=>ds≠[]/\Nbs ds
 | _=>True
def Nbs:List D->Prop
 | []=>True
 | d::ds=>Nb d/\Nbs ds
end
theorem qY:∀{ds:List D},Nbs ds->∀d∈ds,Nb d
 | _::_,⟨a,b⟩,d,h=>by
  obtain rfl|h:=cm.mp h
  ·exact a
  ·exact qY b d h
theorem BZ:∀{ds:List D},(∀d∈ds,Nb d)->Nbs ds
 | [],_=>trivial
 | d::ds,h=>⟨h d av,BZ λe k=>h e (ay _ k)⟩
theorem MM {n z:Str}{d:D}(h:Nb d):Nbs (opn1 n z d):=by
 unfold opn1;split
 ·rename_i m es;have k:Nbs es:=by unfold Nb at h;exact h.2
  split
  ·exact k
  ·exact⟨h,trivial⟩
 ·split
  ·exact trivial
  ·exact⟨h,trivial⟩
theorem PR {n z:Str}{ds:List D}(h:Nbs ds):Nbs (opn n z ds):=BZ λd k=>by obtain⟨e,b,a⟩:=List.mem_flatMap.mp k;exact qY (MM (qY h e b)) d a
theorem P1 {n z:Str}{l:List D}(h:∀d∈l,Nb d):Nb (one n z l):=by
 unfold one;split
 ·unfold Nb;exact trivial
 ·exact h _ av
 ·rename_i l a b;unfold Nb;exact⟨a,BZ h⟩
theorem EG {sm:bG}{n:Str}{ps:List D}(h:Nbs ps)(ne:ps≠[]):Nb (knot sm n ps):=by
 unfold knot;split
 ·unfold Nb;exact⟨ne,h⟩
 ·exact P1 λd k=>qY (PR h) d ((bU _).mem_iff.mp k)
theorem ML {n:Str}{d:D}(f:Fl d)(b:Nb d):opn1 n ("" : Str) d≠[]:=by
 unfold opn1;split
 ·split
  ·unfold Nb at b;exact b.1
  ·exact λz=>nomatch z
 ·split
  ·rename_i e;exfalso;cases d with
   | str x =>
    have e:(x == ("" : Str))=true:=e;have e:=eq_of_beq e;subst e;unfold Fl at f;exact absurd f.1 (by decide)
   | tup xs=>cases e
   | _=>unfold Fl at f;exact f
  ·exact λz=>nomatch z
theorem JI {n:Str}:∀{ps:List D},Fls ps->Nbs ps->ps≠[]->opn n ("" : Str) ps≠[]
 | [],_,_,h=>absurd rfl h
 | d::ps,⟨f,_⟩,⟨b,_⟩,_=>by rw[iB];exact λz=>ML f b (List.append_eq_nil_iff.mp z).1
theorem wY {sm:bG}{n:Str}{ps:List D}(hz:∀r∈sm,r.2=("" : Str)∨Fl (.str r.2))(h:Fls ps)(b:Nbs ps)(ne:ps≠[]):Fl (knot sm n ps):=by
 unfold knot;split
 ·unfold Fl;exact h
 ·rename_i z e;have a:z=("" : Str)∨Fl (.str z):=by unfold zr at e;obtain⟨r,c,rfl⟩:=Option.map_eq_some_iff.mp e;exact hz r (List.mem_of_find?_eq_some c)
  have f1:∀d∈eM (opn n z ps),Fl d:=λd k=>dS (rY h) d ((bU _).mem_iff.mp k);unfold one;split
  ·rename_i f;rcases a with rfl|a
   ·exfalso;have:=(bU (opn n ("" : Str) ps)).length_eq;rw[f]at this;exact JI h b ne (List.length_eq_zero_iff.mp this.symm)
   ·exact a
  ·rename_i e;exact f1 _ (by rw[e];exact av)
  ·unfold Fl;exact iZ f1
section
variable {P:Program}{w:World}{K:PySem.W.Frag}{mg:gX}{base:Heap}
mutual
/-- a term: leaves that can be told,names with parts -/
def Tm:D->Prop
 | .str x=>1<=x.cps.toList.length/\x.cps.toList.length<=20
 | .tup (.str _::ds)=>ds≠[]/\Tms ds
 | .lst (.str _::ds)=>ds≠[]/\Tms ds
 | _=>False
def Tms:List D->Prop
 | []=>True
 | d::ds=>Tm d/\Tms ds
end
theorem DH {d:D}(h:Tm d):(∃x,d = .str x/\1<=x.cps.toList.length/\x.cps.toList.length<=20)∨∃n ds,(d = .tup (.str n::ds)∨d = .lst (.str n::ds))/\ds≠[]/\Tms ds:=by
 unfold Tm at h;split at h
 ·exact .inl ⟨_,rfl,h⟩
 ·exact .inr ⟨_,_,.inl rfl,h⟩
 ·exact .inr ⟨_,_,.inr rfl,h⟩
 ·exact absurd h id
theorem rB {sm:bG}{ds:List D}(h:ds≠[]):flts sm ds≠[]:=by rw[dP];exact λz=>h (List.map_eq_nil_iff.mp z)
mutual
theorem pI {sm:bG}(hz:∀r∈sm,r.2=("" : Str)∨Fl (.str r.2)):∀{d:D},Tm d->Fl (flt sm d)/\Nb (flt sm d)
 | .tup (.str n::ds),h=>by
  unfold Tm at h;obtain⟨a,b⟩:=fQ hz h.2;rw[flt];exact⟨wY hz a b (rB h.1),EG b (rB h.1)⟩
 | .lst (.str n::ds),h=>by
  unfold Tm at h;obtain⟨a,b⟩:=fQ hz h.2;rw[flt];exact⟨wY hz a b (rB h.1),EG b (rB h.1)⟩
 | .str x,h=>by unfold flt;unfold Tm at h;unfold Fl Nb;exact⟨h,trivial⟩
 | .non,h | .bl _,h | .int _,h | .tup [],h | .lst [],h | .tup (.non::_),h | .tup (.bl _::_),h | .tup (.int _::_),h | .tup (.tup _::_),h | .tup (.lst _::_),h | .lst (.non::_),h | .lst (.bl _::_),h | .lst (.int _::_),h | .lst (.tup _::_),h | .lst (.lst _::_),h=>by unfold Tm at h;exact absurd h id
theorem fQ {sm:bG}(hz:∀r∈sm,r.2=("" : Str)∨Fl (.str r.2)):∀{ds:List D},Tms ds->Fls (flts sm ds)/\Nbs (flts sm ds)
 | [],_=>by rw[flts];exact⟨trivial,trivial⟩
 | d::ds,⟨a,b⟩=>by rw[flts];exact⟨⟨(pI hz a).1,(fQ hz b).1⟩,⟨(pI hz a).2,(fQ hz b).2⟩⟩
end
theorem NM {sm:bG}(hz:∀r∈sm,r.2=("" : Str)∨Fl (.str r.2)){ds:List D}(h:Tms ds):Fls (flts sm ds):=(fQ hz h).1
theorem uA {a:cG}{sm:bG}(so:bF a sm){x:Str}(h:x∈zeros a):1<=x.cps.toList.length/\x.cps.toList.length<=20:=by unfold zeros at h;obtain⟨r,b,rfl⟩:=cr.mp h;have:=so.nm r.1 (bS _ (List.mem_map_of_mem ((cw.mp b).1)));exact⟨this.1,ao this.2.1 (by decide)⟩
theorem iD {b:cG}{sm:bG}(so:bF b sm):∀r∈sm,r.2=("" : Str)∨Fl (.str r.2):=λr a=>by
 by_cases e:r.2=("" : Str)
 ·exact .inl e
 ·refine .inr ?_;unfold Fl;exact uA so (so.nought r a e)
mutual
theorem uG {f:cG}{sm:bG}{os:aN}(so:bF f sm)(ho:∀x∈os,cI x):∀{d:D},aV f sm os d->Tm d/\sz d=lvs d
 | .str x,h=>by
  unfold aV at h;refine⟨?_,by unfold sz lvs;rfl⟩;unfold Tm;rcases h with h|h
  ·obtain⟨l,rfl,c,e,_⟩:=ho x h;exact⟨by simp,by simp;omega⟩
  ·exact uA so h
 | .tup (.str n::ds),h=>by
  unfold aV at h;obtain⟨a,b⟩:=oV so ho h.2;have c:=k9 h.1;have e:=gA h.2;refine⟨?_,by rw[sz,lvs,b];omega⟩;unfold Tm;exact⟨λz=>by rw[z]at c;simp at c,a⟩
 | .lst (.str n::ds),h=>by
  unfold aV at h;obtain⟨a,b⟩:=oV so ho h.2;have c:=k9 h.1;have e:=gA h.2;refine⟨?_,by rw[sz,lvs,b];omega⟩;unfold Tm;exact⟨λz=>by rw[z]at c;simp at c,a⟩
 | .non,h | .bl _,h | .int _,h | .tup [],h | .lst [],h | .tup (.non::_),h | .tup (.bl _::_),h | .tup (.int _::_),h | .tup (.tup _::_),h | .tup (.lst _::_),h | .lst (.non::_),h | .lst (.bl _::_),h | .lst (.int _::_),h | .lst (.tup _::_),h | .lst (.lst _::_),h=>by unfold aV at h;exact absurd h id
theorem oV {c:cG}{sm:bG}{os:aN}(so:bF c sm)(ho:∀x∈os,cI x):∀{ds:List D},IsTms c sm os ds->Tms ds/\szs ds=lvss ds
 | [],_=>⟨trivial,rfl⟩
 | d::ds,⟨a,b⟩=>by obtain⟨h,g⟩:=uG so ho a;obtain⟨f,e⟩:=oV so ho b;exact⟨⟨h,f⟩,by rw[szs,lvss,g,e]⟩
end
theorem j6 (x:V)(xs:List V):cutV (x::xs) (some 1) none=xs:=by unfold cutV HT.sIx;simp
theorem fR.prs {H:Hp}:∀{sm:bG} {sv:List V},fR H sm sv->sv.map (prV H)=(sm.map λr=>((.inr r.1,V.str r.2):fU×V)).map (λa=>some (kV a.1,a.2))
 | [],_,e=>by cases e;rfl
 | r::l,_,⟨t,us,e,h,q⟩=>by subst e;rw[aS,fR.prs q];unfold prV;simp only[h];rfl
theorem mT:∀(more a:List (fU×V)),((a++more).map (·.1)).Nodup->iY a more=a++more
 | [],a,_=>by simp[iY]
 | p::r,a,h=>by
  have e:putK a p.1 p.2=a++[p]:=by unfold putK;rw[ac];intro z;obtain⟨y,c,b⟩:=List.any_eq_true.mp z;rw[ax,aS]at h;exact(List.nodup_append.mp h).2.2 y.1 (List.mem_map_of_mem c) p.1 av (by simpa using b)
  show iY (putK a p.1 p.2) r=_;rw[e,mT r (a++[p]) (by simpa using h)];simp
theorem y3 {sm:bG}(nd:(sm.map (·.1)).Nodup):iY [] (sm.map λr=>((.inr r.1,V.str r.2):fU×V))=sm.map λr=>(.inr r.1,V.str r.2):=by
 rw[mT]
 ·rfl
 ·rw[List.nil_append,cf];exact List.pairwise_map.mpr ((List.pairwise_map.mp nd).imp λh e=>h (Sum.inr.inj e))
theorem AZ (n:Str):∀sm:bG,valV (sm.map λr=>((.inr r.1,V.str r.2):fU×V)) (.inr n)=(zr sm n).map V.str
 | []=>rfl
 | r::l=>by
  by_cases e:r.1=n
  ·rw[aS,nA (by rw[e])];simp[zr,e]
  ·rw[aS,nB (λz=>e (by cases z;rfl)),AZ n l];simp[zr,e]
mutual
theorem aX.tups {H H':Hp}(s:bE H H'):∀{d:D} {v:V},Fl d->aX H d v->aX H' d v
 | .str x,v,_,h=>h
 | .tup (.str n::ds),v,f,⟨a,vs,e,g,x,r,i,b,c⟩=>⟨a,vs,e,s _ _ g,x,r,i,b,Reps.tups s (by unfold Fl at f;exact f) c⟩
 | .non,_,f,_ | .bl _,_,f,_ | .int _,_,f,_ | .lst _,_,f,_ | .tup [],_,f,_ | .tup (.non::_),_,f,_ | .tup (.bl _::_),_,f,_ | .tup (.int _::_),_,f,_ | .tup (.tup _::_),_,f,_ | .tup (.lst _::_),_,f,_=>by unfold Fl at f;exact absurd f id
theorem Reps.tups {H H':Hp}(s:bE H H'):∀{ds:List D} {vs:List V},Fls ds->Reps H ds vs->Reps H' ds vs
 | [],_,_,h=>h
 | _::_,_,⟨a,b⟩,⟨x,r,e,d,c⟩=>⟨x,r,e,aX.tups s a d,Reps.tups s b c⟩
end
theorem IE (i:Nat)(l:List D):szs (l.take i)<=szs l:=by have:=vV (l.take i) (l.drop i);rw[List.take_append_drop]at this;omega
theorem JM {n z:Str}:∀{l:List D},1<l.length->one n z l = .tup (.str n::l)
 | [],h=>by simp at h
 | [_],h=>by simp at h
 | _::_::_,_=>rfl
theorem Reps.rev {H:Hp}:∀{ds:List D} {vs:List V},Reps H ds vs->Reps H ds.reverse vs.reverse
 | [],_,e=>by cases e;rfl
 | d::ds,_,⟨x,r,e,a,b⟩=>by subst e;rw[List.reverse_cons,List.reverse_cons];exact Reps.snoc a (Reps.rev b)
noncomputable def mulO (a:cG)(n:Str):Option Int:=(a.find? λr=>decide (r.1=n)).map (·.2)
noncomputable def mulV (a:cG)(n:Str):V:=((mulO a n).map V.int).getD .non
noncomputable def nulV (sm:bG)(n:Str):V:=((zr sm n).map V.str).getD .non
theorem HQ (n:Str):∀a:cG,valV (a.map λr=>((.inr r.1,V.int r.2):fU×V)) (.inr n)=(mulO a n).map V.int
 | []=>rfl
 | r::l=>by
  by_cases e:r.1=n
  ·rw[aS,nA (by rw[e])];simp[mulO,e]
  ·rw[aS,nB (λz=>e (by cases z;rfl)),HQ n l];simp[mulO,e]
structure eP (K:PySem.W.Frag)(C:Addr)(fx:cG)(sm:bG)(H:Hp)(g:Addr):Prop where
 cls:HJ K C
 n1:gU K C "many_by_name"
 n2:gU K C "nought_by_name"
 ex:∃dx fs dm dn,H g=some (.ins C dx fs)/\fs.lookup ("many" : Str)=none/\fs.lookup ("nought" : Str)=none/\fs.lookup ("many_by_name" : Str)=some (.ref dm)/\fs.lookup ("nought_by_name" : Str)=some (.ref dn) /\
  H dm=some (.dK (fx.map λr=>(.inr r.1,.int r.2)))/\H dn=some (.dK (sm.map λr=>(.inr r.1,.str r.2)))
theorem eP.same {C:Addr}{d:cG}{sm:bG}{H H':Hp}{g:Addr}(h:eP K C d sm H g)(s:aF H H'):eP K C d sm H' g:=by obtain⟨a,b,c,q,fs,u,r,o,m,l,j,i,f,e⟩:=h;exact⟨a,b,c,q,fs,u,r,s _ _ o,m,l,j,i,s _ _ f,s _ _ e⟩
def A7 (K:PySem.W.Frag)(C:Addr):Sp:=λvs H Q _=>∃(g:Addr) (n:Str) (fx:cG) (sm:bG),vs=[.ref g,.str n]/\eP K C fx sm H g/\Q (mulV fx n) H
theorem MZ {f C:Addr}{m:FuncData}(F:fJ K "many" "Signs.many" dR f m)(T:Txt mg):bN P w K mg base bH 1 f m j7 (A7 K C):=by
 refine F.ok tT (λvs H Q E h=>?_) (λI A outer s H vs Q E l h=>?_)
 ·obtain⟨g,n,z,sm,rfl,_⟩:=h;rfl
 ·obtain⟨g,n,z,sm,rfl,⟨i,e,J,B,fs,G,L,d,x,u,c,r,a,o⟩,q⟩:=h;have j:=l.units;refine⟨_,(aG (aO (kX (aP K rfl (aL aK rfl T.n_isinstance rfl (aA (pv 1) (aA (bJ (v:=V.ty "str") rfl T.n_str rfl rfl) aB))) (λ_=>rfl)) (yP (ak (bv (by decide) _) j) (JC (pv 0) rfl) (pv 1) ⟨rfl,rfl,rfl,rfl⟩) kW))),?_⟩;simp only[j8];clear l F T j;have b:=oQ.k (k:=.inr n) a;rw[HQ]at b;have keep:=aI q (aI i (aI e (aI d (aI c (aI a b)))));clear q i e J d x u c r a o b
  walk_at "rd"
  obtain⟨q,i,e,d,c,a,b⟩:=keep;refine⟨true,rfl,?_⟩;rw[aj rfl];exact⟨_,rfl,g,C,B,fs,_,rfl,d,i,e,c,G,rfl,.inl ⟨_,.inl a⟩,_,rfl,_,b,q⟩
def kJ (K:PySem.W.Frag)(C:Addr):Sp:=λvs H Q _=>∃(g:Addr) (n:Str) (fx:cG) (sm:bG),vs=[.ref g,.str n]/\eP K C fx sm H g/\Q (nulV sm n) H
theorem GF {f C:Addr}{m:FuncData}(F:fJ K "nought" "Signs.nought" dB f m)(T:Txt mg):bN P w K mg base bH 1 f m iG (kJ K C):=by
 refine F.ok qN (λvs H Q E h=>?_) (λI A outer s H vs Q E l h=>?_)
 ·obtain⟨g,n,z,sm,rfl,_⟩:=h;rfl
 ·obtain⟨g,n,z,sm,rfl,⟨i,J,e,B,fs,L,G,d,x,u,r,c,o,a⟩,q⟩:=h;have j:=l.units;refine⟨_,(aG (aO (kX (aP K rfl (aL aK rfl T.n_isinstance rfl (aA (pv 1) (aA (bJ (v:=V.ty "str") rfl T.n_str rfl rfl) aB))) (λ_=>rfl)) (yP (ak (bv (by decide) _) j) (JC (pv 0) rfl) (pv 1) ⟨rfl,rfl,rfl,rfl⟩) kW))),?_⟩;simp only[iI];clear l F T j;have b:=oQ.k (k:=.inr n) a;rw[AZ]at b;have keep:=aI q (aI i (aI e (aI d (aI c (aI a b)))));clear q i J e d x u r c o a b
  walk_at "rd"
  obtain⟨q,i,e,d,c,a,b⟩:=keep;refine⟨true,rfl,?_⟩;rw[aj rfl];exact⟨_,rfl,g,C,B,fs,_,rfl,d,i,e,c,G,rfl,.inl ⟨_,.inl a⟩,_,rfl,_,b,q⟩
theorem Q8 {c:Nat}(h:isWd c):inTx "abcdefghijklmnopqrstuvwxyz0123456789" c=true:=by
 have a:∀j:Fin 26,inTx "abcdefghijklmnopqrstuvwxyz0123456789" (97+j.1)=true:=by decide +kernel
 have b:∀j:Fin 10,inTx "abcdefghijklmnopqrstuvwxyz0123456789" (48+j.1)=true:=by decide +kernel
 unfold isWd at h;rcases h with h|h
 ·have:=a ⟨c - 97,by omega⟩;rw[show 97+(c - 97)=c by omega]at this;exact this
 ·have:=b ⟨c - 48,by omega⟩;rw[show 48+(c - 48)=c by omega]at this;exact this
theorem zB {H:Hp}{z:Str}(h:z.length<=sizeLine):lenV H (.str z)=some z.length:=aj h
theorem q8 {H:Hp}{z:Str}{i:Int}(h:z.length<=sizeLine):ixV H (.str z) (.int i)=(atI z.cps.toList i).map λc=>.str ⟨#[c]⟩:=aj h
def A6:Sp:=λvs H Q _=>(∃x:Str,vs=[.str x]/\(cI x∨fZ x)/\∀H',aF H H'->(cI x->Q (.bl true) H')/\(fZ x->Q (.bl false) H'))∨∃(a:Addr) (xs:List V),vs=[.ref a]/\eV H a xs/\Q (.bl false) H
theorem MT {f:Addr}{R:FuncData}(F:fJ K "is_wish" "is_wish" hZ f R)(T:Txt mg):bN P w K mg base bH 1 f R vK A6:=by
 refine F.ok BC (λvs H Q E h=>?_) (λcdv A outer s H vs Q E B h=>?_)
 ·rcases h with⟨x,rfl,_⟩|⟨a,xs,rfl,_⟩ <;> rfl
 rcases h with h|⟨a,xs,rfl,z,q⟩
 rotate_left
 ·have j:=B.units
  refine⟨_,(aD (bK (PW.pt (iA (cR (aP K rfl (aL aK rfl T.n_isinstance rfl (aA (pv 0) (aA (bJ (v:=V.ty "str") rfl T.n_str rfl rfl) aB))) (λ_=>rfl))) (fN (cR (jI kA kA aJ (aL cD rfl T.n_len rfl (aA (pv 0) aB)) (eL T.c_LONGEST_WISH rfl)))))) (aG (aO jK)) aW)
   (aG (aO (wL (eS (eD j) (bM cX (pv 0) aJ (λ_ _=>rfl)) cS (nomark _)) (pC (aL (lU rfl) rfl T.n_all rfl (aA (eF rfl (bD.by (N:=jN) (names:=(aH hZ).names) (N':=["sign"]) (src:=[none]) (by decide +kernel) rfl rfl) (wJ (eK IO (pv 0) (cP aJ) dG)) (λ_ _ _ _=>(bA (i:=0) (show List.Nodup (["sign"]:aN)by decide +kernel) rfl (Or.inl rfl))) (λ_ _ _ _=>dF) (λ_ _ _ _=>(eS jL (pv 0) (eL T.c_WISH_SIGNS rfl) (by with_unfolding_all rfl)))) aB))))))),?_⟩
  simp only[jN];clear B F T j;have keep:=aI q z;clear q z
  walk_at "rd"
  obtain⟨q,z⟩:=keep;refine⟨false,(by rcases z with e|e;exact iE e;exact fX e),?_⟩;rw[aj rfl]
  first|exact q|trivial
 ·obtain⟨x,rfl,g,q⟩:=h;have j:=B.units
  refine⟨_,(aD (bK (PW.pt (iA (cR (aP K rfl (aL aK rfl T.n_isinstance rfl (aA (pv 0) (aA (bJ (v:=V.ty "str") rfl T.n_str rfl rfl) aB))) (λ_=>rfl))) (fN (cR (jI kA kA aJ (aL cD rfl T.n_len rfl (aA (pv 0) aB)) (eL T.c_LONGEST_WISH rfl)))))) (aG (aO jK)) aW)
   (aG (aO (wL (eS (eD j) (bM cX (pv 0) aJ (λ_ _=>rfl)) cS (nomark _)) (pC (aL (lU rfl) rfl T.n_all rfl (aA (eF rfl (bD.by (N:=jN) (names:=(aH hZ).names) (N':=["sign"]) (src:=[none]) (by decide +kernel) rfl rfl) (wJ (eK IO (pv 0) (cP aJ) dG)) (λ_ _ _ _=>(bA (i:=0) (show List.Nodup (["sign"]:aN)by decide +kernel) rfl (Or.inl rfl))) (λ_ _ _ _=>dF) (λ_ _ _ _=>(eS jL (pv 0) (eL T.c_WISH_SIGNS rfl) (by with_unfolding_all rfl)))) aB))))))),?_⟩
  simp only[jN];clear B F T j;have keep:=aI q g;clear q g
  walk_at "rd"
  obtain⟨q,g⟩:=keep;have Y:x.length<=20:=by
   rcases g with⟨l,rfl,_,G,_⟩|h
   ·show(63::l).toArray.size<=20;rw[ai,ap];omega
   ·have:=h.2.1;rw[bj]at this;exact ao this (by decide)
  have hz:x.length<=sizeLine:=ao Y (by decide);refine⟨true,rfl,?_⟩;rw[ac (by decide)];refine⟨.int x.length,by rw[zB hz];rfl,_,rfl,?_⟩;rcases g with L|C
  ·obtain⟨l,rfl,h1,G,O⟩:=id L;have I:(Str.mk (63::l).toArray).length=l.length+1:=by show(63::l).toArray.size=_;rw[ai,ap]
   have u:=λH' s'=>(q H' s').1 L;have U:ixV H (.str ⟨(63::l).toArray⟩) (.int 0)=some (.str ⟨#[63]⟩):=by rw[q8 hz];show(atI (63::l).toArray.toList 0).map _=_;rw[List.toList_toArray,atI_zero];rfl
   rw[aj (by rw[I];omega)];refine⟨_,rfl,?_⟩;rw[ac (by rw[I];omega)];refine⟨_,U,?_⟩;rw[rEqD_ss]

   refine⟨_,rfl,?_⟩;have J:decide ((⟨#[63]⟩:Str)=Str.ofString "?")=true:=by decide +kernel
   rw[aj J];have S:tl1 ⟨(63::l).toArray⟩=⟨l.toArray⟩:=by unfold tl1;simp
   refine⟨_,rfl,1,rfl,⟨(63::l).toArray⟩,rfl,rfl,rfl,by rw[I];omega,hz,tl1 ⟨(63::l).toArray⟩,rfl,?_,?_⟩
   ·rw[S];simp only[List.all_toArray,List.all_eq_true,decide_eq_true_eq];intro c b;have:=O c b;unfold isWd at this;omega
   ·rw[S];refine u9 (λi d σ H'=>H'=H/\d=(List.replicate i true).map V.bl/\i<=8/\∃o:Option V,σ=[o]) ⟨rfl,rfl,by decide,none,rfl⟩ ?_ ?_
    ·rintro i c d σ H' b ⟨rfl,rfl,Z,o,rfl⟩;have hc':l[i]?=some c:=by simpa using b
     have X:c∈l:=bf hc';have hi':i<l.length:=(cj.mp hc').1;refine⟨_,rfl,_,rfl,_,rfl,?_⟩;have e:=Q8 (O c X);unfold inTx at e;dsimp only;refine⟨ak (m:=100) (by simp;omega) (by decide),rfl,?_,by omega,_,rfl⟩;rw[e,List.replicate_succ',ax];rfl
    ·rintro d σ H' ⟨rfl,rfl,Z,o,rfl⟩ p W;refine⟨p,rfl,List.replicate _ true,upd_same,?_⟩;have:(List.replicate (Str.mk l.toArray).cps.size true).all id=true:=by simp
     rw[this];exact u _ (aF.upd W)
  ·have u:=λH' s'=>(q H' s').2 C;by_cases G:(2:Int)<=x.length
   ·rw[aj G];refine⟨_,rfl,?_⟩;have:=C.2.1;rw[bj]at this;have e9:(x.length:Int)<=9:=by show(x.cps.size:Int)<=9;omega
    rw[ac (by omega)];cases b:x.cps.toList with
    | nil=>have:=C.1;rw[b]at this;simp at this
    | cons c r =>
     have hcc:=C.2.2 c (by rw[b];exact av);refine⟨.str ⟨#[c]⟩,by rw[q8 hz,b,atI_zero];rfl,?_⟩;rw[rEqD_ss];refine⟨_,rfl,?_⟩;rw[ac]
     ·exact u _ (aF.refl _)
     ·intro w;have:=bn w;have e:(⟨#[c]⟩:Str).cps=(Str.ofString "?").cps:=by rw[this]
      have e2:(Str.ofString "?").cps = #[63]:=by decide +kernel
      rw[e2]at e;have:c=63:=by simpa using e
      omega
   ·rw[ac G];exact u _ (aF.refl _)
theorem yX {a:cG}{sm:bG}(so:bF a sm){n:Str}{k:Int}(h:(n,k)∈a):mulO a n=some k:=by
 have nd:=(List.nodup_append.mp so.nd).1;unfold mulO;clear so
 induction a with
 | nil=>cases h
 | cons r l b =>
  rw[aS,cu]at nd;obtain rfl|h:=cm.mp h
  ·simp
  ·have ne:r.1≠n:=λe=>nd.1 (by rw[e];exact List.mem_map_of_mem (f:=(·.1)) h);rw[List.find?_cons,bg ne];exact b h nd.2
theorem LO {sm:bG}{n:Str}(h:n∉sm.map (·.1)):zr sm n=none:=by
 unfold zr;rw[List.find?_eq_none.mpr]
 ·rfl
 ·intro r a e;exact h (cr.mpr ⟨r,a,bn e⟩)
theorem LN {sm:bG}{n:Str}(h:n∈sm.map (·.1)):∃z,zr sm n=some z:=by
 obtain⟨r,a,e⟩:=cr.mp h;cases q:sm.find? (λr=>decide (r.1=n))with
 | none=>exact absurd (bd e) (List.find?_eq_none.mp q r a)
 | some z=>exact⟨z.2,by unfold zr;rw[q];rfl⟩
def DM (K:PySem.W.Frag)(C:Addr):Sp:=λvs H Q _=>∃(g:Addr) (fx:cG) (sm:bG) (os:aN) (d:D) (v:V),vs=[.ref g,v]/\eP K C fx sm H g/\bF fx sm/\(∀x∈os,cI x)/\aX H d v/\aV fx sm os d/\lvs d<=100/\∀H',aF H H'->Q (.bl true) H'
theorem JW {f C:Addr}{fd:FuncData}(F:fJ K "is_built" "is_built" jS f fd)(T:Txt mg)(b:dM P w K mg base bH 1 "is_wish" A6)(i:C4 P w K mg base bH 1 C "many" (A7 K C))(c:C4 P w K mg base bH 1 C "nought" (kJ K C)):bN P w K mg base bH 2 f fd tF (DM K C):=by
 refine F.ok yE (λvs H Q E h=>?_) (λcdv A outer s H vs Q E o h=>?_)
 ·obtain⟨g,B,sm,os,d,v,rfl,_⟩:=h;rfl
 ·obtain⟨g,B,sm,os,d,v,rfl,sg,so,ho,rep,tm,m,q⟩:=h;have W:=o.units
  refine⟨_,(aD (bK (aP K rfl (aL aK rfl T.n_isinstance rfl (aA (pv 1) (aA (bJ (v:=V.ty "str") rfl T.n_str rfl rfl) aB))) (λ_=>rfl)) (aG (aO (RA (aM b (o.mono (by decide)) pass0 rfl (aA (pv 1) aB)) (pC (eS (eD W) (rV i (o.mono (by decide)) pass0 (pv 0) (aA (pv 1) aB)) aJ (nomark _)))))) aW)
   (aD (bK (PW.pt (iA (cR (aP K rfl (aL aK rfl T.n_isinstance rfl (aA (pv 1) (aA (eB (aA (bJ (v:=V.ty "list") rfl T.n_list rfl rfl) (aA (bJ (v:=V.ty "tuple") rfl T.n_tuple rfl rfl) aB))) aB))) (λ_=>rfl))) (fN (bC (r9 W) (aL cD rfl T.n_len rfl (aA (pv 1) aB)) aJ (nomark _))))) (aG (aO jK)) aW)
   (aD (bK (bC MO (rV c (o.mono (by decide)) pass0 (pv 0) (aA (bM cX (pv 1) aJ (λ_ _=>rfl)) aB)) kW (nomark _)) (aG (aO (eS OF (aL cD rfl T.n_len rfl (aA (pv 1) aB)) aJ (nomark _)))) aW)
   (aG (aO (eS (eD W) (rV i (o.mono (by decide)) pass0 (pv 0) (aA (bM cX (pv 1) aJ (λ_ _=>rfl)) aB)) (bV jZ (aL cD rfl T.n_len rfl (aA (pv 1) aB)) aJ) (nomark _))))))),?_⟩
  simp only[m7];clear o F T W b i c;have keep:=aI q (aI sg (aI so (aI ho (aI rep (aI tm m)))));clear q sg so ho rep tm m
  walk_at "rd"
  obtain⟨q,sg,so,ho,rep,tm,m⟩:=keep;obtain⟨dx,fs,_,_,S,Y,h3,_⟩:=sg.ex;rcases rJ tm with⟨x,rfl,L⟩|⟨n,ds,hd,hh,tms⟩
  ·cases (show v = .str x from rep);refine⟨true,rfl,?_⟩;rw[aj rfl];rcases L with L|L
   ·have U:=ho x L;refine .inl ⟨x,rfl,.inl U,λH' s'=>⟨λ_=>⟨true,rfl,?_⟩,λX=>?_⟩⟩
    ·rw[aj rfl];exact q _ s'
    ·obtain⟨l,rfl,_⟩:=U;have:=X.2.2 63 (by simp);omega
   ·obtain⟨r,o,e⟩:∃r∈B,r.1=x/\r.2=0:=by unfold zeros at L;obtain⟨r,S,rfl⟩:=cr.mp L;obtain⟨Y,h3⟩:=cw.mp S;exact⟨r,Y,rfl,by simpa using h3⟩
    have X:fZ x:=so.nm x (bS _ (cr.mpr ⟨r,o,e.1⟩));have hm:mulO B x=some 0:=yX so (by rw[←e.1,←e.2];exact o);refine .inl ⟨x,rfl,.inr X,λH' s'=>⟨λU=>?_,λ_=>⟨false,rfl,?_⟩⟩⟩
    ·obtain⟨l,rfl,_⟩:=U;have:=X.2.2 63 (by simp);omega
    ·rw[ac (by decide)];refine⟨_,rfl,g,dx,fs,rfl,s' _ _ S,Y,_,rfl,g,x,B,sm,rfl,sg.same s',?_⟩;show rEqD (mulV B x) _ _ _;unfold mulV;rw[hm];show rEqD (.int 0) _ _ _;rw[rEqD_ii];exact q _ s'
  ·obtain⟨J,j,rfl,hbb,hseq,res⟩:∃J j,v = .ref J/\isV H (.ref J) (.ty "str")=some false/\eV H J (.str n::j)/\Reps H ds j:=by
    rcases hd with rfl|rfl
    ·obtain⟨a,vs,rfl,R,_,j,rfl,e1,r⟩:=rep;cases e1;exact⟨a,j,rfl,fX R,.inr R,r⟩
    ·obtain⟨a,vs,rfl,R,_,j,rfl,e1,r⟩:=rep;cases e1;exact⟨a,j,rfl,iE R,.inl R,r⟩
   have hlen:=Reps.len res;refine⟨false,hbb,?_⟩;rw[ac (by decide)];refine⟨by decide,λp hp=>?_⟩;have u:aF H (upd H p (.tup [.ty "list",.ty "tuple"])):=aF.upd hp;have I:upd H p (.tup [.ty "list",.ty "tuple"]) p=some (.tup [.ty "list",.ty "tuple"]):=upd_same;generalize upd H p (.tup [.ty "list",.ty "tuple"])=H1 at u I⊢;have G:=hseq.same u;have N:ixV H1 (.ref J) (.int 0)=some (.str n):=by
    rcases G with e|e
    ·rw[ixV_l e,atI_zero]
    ·rw[ixV_t e,atI_zero]
   have ln:lenV H1 (.ref J)=some (j.length+1):=by
    rcases G with e|e
    ·rw[lenV_l e];rfl
    ·rw[lenV_t e];rfl
   refine⟨true,by rcases G with e|e;exact KK e I;exact KJ e I,?_⟩;rw[ac (by decide)];have O:=k9 hh;refine⟨_,by rw[ln];rfl,_,rfl,?_⟩;rw[ac (by omega)];refine⟨_,rfl,g,dx,fs,rfl,u _ _ S,h3,_,rfl,.str n,N,g,n,B,sm,rfl,sg.same u,?_⟩;rcases hh with⟨k0,O⟩|⟨k2,O⟩
   ·have Z:n∉sm.map (·.1):=λz=>(List.nodup_append.mp so.nd).2.2 n (List.mem_map_of_mem (f:=(·.1)) O) n z rfl;have e0:nulV sm n = .non:=by unfold nulV;rw[LO Z];rfl
    have em:mulV B n = .int (ds.length:Int):=by unfold mulV;rw[yX so O];rfl
    rw[e0];refine⟨false,rfl,?_⟩;rw[ac (by decide)];refine⟨_,rfl,g,dx,fs,rfl,u _ _ S,Y,_,rfl,.str n,N,g,n,B,sm,rfl,sg.same u,?_⟩;refine⟨_,by rw[ln];rfl,_,rfl,?_⟩;rw[em,rEqD_ii,bd (by omega)];exact q _ u
   ·obtain⟨z,hz⟩:=LN O;have e0:nulV sm n = .str z:=by unfold nulV;rw[hz];rfl
    rw[e0];refine⟨true,rfl,?_⟩;rw[aj rfl];refine⟨_,by rw[ln];rfl,_,rfl,?_⟩;rw[bd (p:=_) (by omega)];exact q _ u
mutual
noncomputable def nds:D->Nat
 | .tup (_::ds)=>1+ndss ds
 | .lst (_::ds)=>1+ndss ds
 | _=>1
noncomputable def ndss:List D->Nat
 | []=>0
 | d::ds=>nds d+ndss ds
end
theorem qX (d:D):1<=nds d:=by unfold nds;split <;> omega
theorem jM:∀ds:List D,ds.length<=ndss ds
 | []=>ae _
 | d::ds=>by rw[ndss,ap];have:=qX d;have:=jM ds;omega
theorem fP:∀ds es:List D,ndss (ds++es)=ndss ds+ndss es
 | [],es=>by simp[ndss]
 | d::ds,es=>by rw[List.cons_append,ndss,fP ds es,ndss];omega
theorem sB:∀ds:List D,ndss ds.reverse=ndss ds
 | []=>rfl
 | d::ds=>by rw[List.reverse_cons,fP,sB ds,ndss,ndss,ndss];omega
theorem AY {c:TT}{d:TS}{D:iJ}{σ:St}{H:Hp}(Pv:Nat->St->Hp->Prop)(n:Nat)(f:Pv n σ H)
  (e:∀n σ H,Pv n σ H->∀R:Bool->Hp->Prop,(∀H',d {D with nx:=λb a=>∃m,m<n/\Pv m b a,ct:=λb a=>∃m,m<n/\Pv m b a,bk:=D.nx} σ H'->R true H')->(∀H',D.nx σ H'->R false H')->c σ H R):IB c d D σ H:=by
 refine⟨Pv,⟨n,f⟩,?_⟩;intro m σ H p;refine e m σ H p _ (λH' h=>?_) (λH' h=>?_)
 ·rw[aj rfl];exact⟨_,λb a z=>z,h⟩
 ·rw[ac (by decide)];exact h
theorem xG {H:Hp}{p:Addr}{o:HO}:del (upd H p o) p=del H p:=by
 funext b;unfold del upd;by_cases e:b=p
 ·rw[aj e,aj e]
 ·rw[ac e,ac e,ac e]
theorem E2 {H:Hp}{t p:Addr}{o:HO}(h:H p=none):aF (del H t) (del (upd H p o) t):=λb u e=>by obtain⟨a,c⟩:=gH e;exact lB (by rw[aC (aE a h)];exact a) c
theorem lT {H H':Hp}{t:Addr}(s:aF H H'):aF (del H t) (del H' t):=λb u e=>by obtain⟨c,a⟩:=gH e;exact lB (s _ _ c) a
theorem fG {H:Hp}{d:D}:∀{ds:List D} {vs:List V},Reps H (ds++[d]) vs->∃us v,vs=us++[v]/\Reps H ds us/\aX H d v
 | [],vs,⟨v,r,e,h,h'⟩=>by
  cases (show r=[]from h');exact⟨[],v,e,rfl,h⟩
 | c::ds,vs,⟨v,r,e,h,h'⟩=>by obtain⟨us,u,f,b,a⟩:=fG (ds:=ds) h';exact⟨v::us,u,by rw[e,f];rfl,⟨v,us,rfl,h,b⟩,a⟩
noncomputable def tp (r:D×Nat):D:=.tup [r.1,.int r.2]
def TV (g t:Addr)(v:V)(b:cG)(sm:bG)(os:aN)(H:Hp)(n:Nat)(σ:St)(a:Hp):Prop:=∃(ps:List (D×Nat)) (vs:List V) (o3 o4:Option V),σ=[some (.ref g),some v,some (.ref t),o3,o4]/\a t=some (.lst vs)/\aF H (del a t) /\
 Reps (del a t) (ps.map tp) vs/\(∀r∈ps,aV b sm os r.1/\lvs r.1<=100/\r.2+depD r.1<=100)/\ndss (ps.map (·.1))=n/\n<=1000
def TW (t:Addr)(ds:List D)(k:Nat)(e:Hp)(i:Nat)(a:List V)(σ:St)(b:Hp):Prop:=∃c:Option V,σ=[c,some (.int k)]/\aF e b/\Reps (del b t) ((ds.reverse.take i).map λd=>tp (d,k+1)) a
theorem QP {H:Hp}{t:Addr}(h:H t=none){a:Hp}(s:aF H a):aF H (del a t):=λb u e=>lB (s _ _ e) (aE e h)
theorem E1 {H a:Hp}{t:Addr}(s:aF H (del a t)):aF H a:=λb u e=>(gH (s _ _ e)).1
def jP (K:PySem.W.Frag)(C:Addr):Sp:=λvs H Q _=>∃(g:Addr) (fx:cG) (sm:bG) (os:aN) (d:D) (v:V),vs=[.ref g,v]/\eP K C fx sm H g/\bF fx sm/\(∀x∈os,cI x)/\aX H d v/\aV fx sm os d/\lvs d<=100/\depD d<=100/\nds d<=1000/\∀H',aF H H'->Q .non H'
theorem JV {f C:Addr}{fd:FuncData}(F:fJ K "check_term" "check_term" fM f fd)(T:Txt mg)(c:dM P w K mg base bH 2 "is_built" (DM K C)):bN P w K mg base bH 3 f fd oJ (jP K C):=by
 refine F.ok gB (λvs H Q E h=>?_) (λcdv A outer s H vs Q E hr h=>?_)
 ·obtain⟨g,fx,sm,os,d,v,rfl,_⟩:=h;rfl
 ·obtain⟨g,fx,sm,os,d,v,rfl,sg,so,ho,rep,tm,O,S,j,q⟩:=h;have hu:=hr.units
  refine⟨_,(aD (aZ (i:=2) gB.nd rfl (Or.inl rfl) (cM (aA (eB (aA (pv 1) (aA aJ aB))) aB)))
   (aG (rS de (aP K rfl (pv 2) (λ_=>rfl)) (aD (mO (rW da PySem.F.slot_list_pop PySem.F.type_list_pop pD (pv 2)) (JA rfl (nV (bA (i:=3) gB.nd rfl (Or.inl rfl)) (nV (bA (i:=4) gB.nd rfl (Or.inr rfl)) DX))))
   (aD (bK (PW.pt (iA (bC OE (pv 4) (eL T.c_DEEPEST rfl) (nomark _)) (fN (cR (aP K rfl (aM c (hr.mono (by decide)) pass0 rfl (aA (pv 0) (aA (pv 3) aB))) (λ_=>rfl)))))) (aG eJ) aW)
   (aG (bK (cR (aP K rfl (aL aK rfl T.n_isinstance rfl (aA (pv 3) (aA (bJ (v:=V.ty "str") rfl T.n_str rfl rfl) aB))) (λ_=>rfl))) (aG (cB (gM da PySem.F.slot_list_extend PySem.F.type_list_extend lO (pv 2) (aA (eF rfl (bD.by (N:=hG) (names:=(aH fM).names) (N':=["part","depth"]) (src:=[none,some 4]) (by decide +kernel) rfl rfl) (cE K rfl (jJ DR (pv 3) dG (cP aJ) (cP (kU h9 aJ)))) (λ_ _ _ _=>(bA (i:=0) (show List.Nodup (["part","depth"]:aN)by decide +kernel) rfl (Or.inl rfl))) (λ_ _ _ _=>dF) (λ_ _ _ _=>(eB (aA (pv 0) (aA (bV cV (pv 1) aJ) aB))))) aB)))) aW))))))),?_⟩
  simp only[hG];clear hr F T hu c;have keep:=aI q (aI sg (aI so (aI ho (aI rep (aI tm (aI O (aI S j)))))));clear q sg so ho rep tm O S j
  walk_at "rd"
  obtain⟨q,sg,so,ho,rep,tm,O,S,j⟩:=keep;refine⟨by decide,λp hp=>⟨by decide,λt ht=>?_⟩⟩;have s1:aF H (upd H p (.tup [v,.int 0])):=aF.upd hp;have G:upd H p (.tup [v,.int 0]) p=some (.tup [v,.int 0]):=upd_same;generalize upd H p (.tup [v,.int 0])=H1 at s1 G ht⊢;have ht0:H t=none:=s1.free ht;have e1:del (upd H1 t (.lst [.ref p])) t=del H1 t:=xG;have sd:aF H (del H1 t):=QP ht0 s1;refine AY (TV g t v fx sm os H) (nds d) ⟨[(d,0)],[.ref p],none,none,rfl,upd_same,by rw[e1];exact sd,?_,?_,by simp[ndss],j⟩ ?_
  ·rw[e1];exact⟨.ref p,[],rfl,⟨p,_,rfl,lB G (aE G ht),v,_,rfl,aX.same sd rep,.int 0,[],rfl,rfl,rfl⟩,rfl⟩
  ·intro r hr;rw[ck.mp hr];exact⟨tm,O,by simpa using S⟩
  ·rintro n σ H2 ⟨ps,vs,o3,o4,rfl,h2,sH,reps,ok,rfl,B⟩ R hT hF;rcases List.eq_nil_or_concat ps with rfl|⟨Z,r,rfl⟩
   ·have:vs=[]:=reps;subst this;exact⟨_,rfl,false,.inl ⟨[],eH.of h2,rfl⟩,hF H2 (q _ (E1 sH))⟩
   ·rw[List.concat_eq_append]at reps ok B hT;rw[ax,aS,List.map_nil]at reps B hT;obtain⟨us,u,rfl,Y,ru⟩:=fG reps;obtain⟨a,_,rfl,ha,x,_,rfl,rx,_,_,rfl,e2,e3⟩:=ru;cases e2;cases (show _=[]from e3);obtain⟨W,lr,dr⟩:=ok r (by simp);have keep:=aI q (aI sg (aI so (aI ho (aI sH (aI Y (aI ok (aI B (aI h2 (aI ha (aI rx (aI W (aI lr dr))))))))))));refine⟨_,rfl,true,.inl ⟨_,eH.of h2,by simp⟩,hT H2 ?_⟩;clear q sg so ho sH reps ok B hT hF rep tm O S j s1 G ht ht0 e1 sd h2 Y ha rx W lr dr e3
    walk_at "rd"
    obtain⟨q,sg,so,ho,sH,reps,ok,B,h2,ha,rx,W,lr,dr⟩:=keep;have hat:H2 a=some (.tup [x,.int r.2])/\a≠t:=gH ha;refine⟨tyL h2,.ref a,by simp,a,rfl,[x,.int r.2],iU.of (by rw[aC hat.2];exact hat.1),rfl,x,_,rfl,_,_,rfl,rfl,r.2,rfl,?_⟩;rw[ac (by omega),List.dropLast_concat];have e3:del (upd H2 t (.lst us)) t=del H2 t:=xG;have h3:upd H2 t (.lst us) t=some (.lst us):=upd_same;rw[←e3]at sH reps rx;generalize upd H2 t (.lst us)=H3 at e3 h3 sH reps rx⊢;have nl:us.length<=1000:=by have:=Reps.len reps;rw[af]at this;have h1:=jM (Z.map (·.1));rw[af]at h1;rw[fP]at B;omega
    refine⟨g,fx,sm,os,r.1,x,rfl,sg.same (E1 sH),so,ho,aX.same (K5 _ _) rx,W,lr,λH4 s4=>⟨true,rfl,?_⟩⟩;rw[ac (by decide)];have h4:=s4 _ _ h3;have sd4:=lT (t:=t) s4;have sH4:=sH.trans sd4;have X:=Reps.same sd4 reps;have U:=aX.same sd4 rx;have rest:∀r'∈Z,aV fx sm os r'.1/\lvs r'.1<=100/\r'.2+depD r'.1<=100:=λr' hr'=>ok r' (bS _ hr');rw[fP]at B⊢;rcases rJ W with⟨y,ey,hy⟩|⟨n,ds,hd,hh,tms⟩
    ·rw[ey]at U;cases (show x = .str y from U);refine⟨true,rfl,?_⟩;rw[ac (by decide)];exact⟨_,by rw[ndss,ndss];have:=qX r.1;omega,Z,us,_,_,rfl,h4,sH4,X,rest,rfl,by omega⟩
    ·obtain⟨va,L,rfl,hbb,hseq,res⟩:∃va L,x = .ref va/\isV H4 (.ref va) (.ty "str")=some false/\eV H4 va (.str n::L)/\Reps (del H4 t) ds L:=by
      rcases hd with e|e
      ·rw[e]at U;obtain⟨a,vs,rfl,ha,_,L,rfl,e1,r⟩:=U;cases e1;exact⟨a,L,rfl,fX (gH ha).1,.inr (gH ha).1,r⟩
      ·rw[e]at U;obtain⟨a,vs,rfl,ha,_,L,rfl,e1,r⟩:=U;cases e1;exact⟨a,L,rfl,iE (gH ha).1,.inl (gH ha).1,r⟩
     have hnd:nds r.1=1+ndss ds:=by rcases hd with e|e <;> rw[e,nds]
     have hdp:depD r.1=depDs ds+1:=by
      rcases hd with e|e
      ·rw[e,depD,depDs,show depD (.str n)=0 from rfl];omega
      ·rw[e,depD,depDs,show depD (.str n)=0 from rfl];omega
     have hlv:lvs r.1=lvss ds:=by rcases hd with e|e <;> rw[e,lvs]
     refine⟨false,hbb,?_⟩;rw[aj rfl];refine⟨tyL h4,_,rfl,0,rfl,1,rfl,-1,rfl,rfl,rfl,rfl,va,_,rfl,hseq,by simp,λb o hb ho=>?_⟩;rw[uN]at ho;refine⟨b,rfl,L.reverse,by rcases ho with⟨rfl,_⟩|⟨rfl,_⟩;exact .inl upd_same;exact .inr upd_same,λJ hJ=>?_⟩;have s5:aF H4 (upd H4 b o):=aF.upd hb;have hb5:upd H4 b o b=some o:=upd_same;have nbt:b≠t:=(aE h4 hb).symm;generalize upd H4 b o=H5 at s5 hb5 hJ⊢;refine cN hJ (TW t ds r.2 H5) ⟨none,rfl,aF.refl _,rfl⟩ ?_ ?_ ?_
     ·rintro i I σ H' _ ⟨_,_,s6,_⟩;rw[hb5,s6 _ _ hb5]
     ·rintro i y I σ H6 hy ⟨o0,rfl,s6,z⟩;obtain⟨e,he,re⟩:=Reps.get (Reps.rev res) hy;have la:=Reps.len z;have h1:=jM ds;refine⟨_,rfl,_,rfl,.inl ⟨_,rfl,(by decide:2<=sizeLine),λp1 G=>⟨ak (m:=1000) ?_ (by decide),_,rfl,s6.trans (aF.upd G),?_⟩⟩⟩
      ·rw[af,bo,List.length_reverse]at la;rw[ndss,ndss]at B;omega
      ·have np:p1≠t:=(aE (s6 _ _ (s5 _ _ h4)) G).symm;have sm5:aF (del H4 t) (del (upd H6 p1 (.tup [y,.int (r.2+1)])) t):=lT ((s5.trans s6).trans (aF.upd G));rw[aY he,ax];have rp:aX (del (upd H6 p1 (.tup [y,.int (r.2+1)])) t) (tp (e,r.2+1)) (.ref p1):=⟨p1,_,rfl,lB upd_same np,y,_,rfl,aX.same sm5 re,_,[],rfl,rfl,rfl⟩
       exact Reps.snoc rp (Reps.same (E2 G) z)
     ·rintro I σ H6 ⟨o0,rfl,s6,z⟩ l hl;have la:=Reps.len z;have lr':=Reps.len res;have h1:=jM ds;have h6:upd H6 l (.lst I) t=some (.lst us):=by rw[aC (aE (s6 _ _ (s5 _ _ h4)) hl)];exact s6 _ _ (s5 _ _ h4)
      rw[List.length_reverse,lr',←List.length_reverse (as:=ds),bp]at z;rw[af,bo,List.length_reverse]at la;rw[ndss,ndss]at B;have s7:aF H4 (upd H6 l (.lst I)):=(s5.trans s6).trans (aF.upd hl);have e7:del (upd (upd H6 l (.lst I)) t (.lst (us++I))) t=del (upd H6 l (.lst I)) t:=xG;refine⟨t,l,us,I,rfl,rfl,h6,.inl upd_same,ao (m:=2000) (by omega) (by decide),ndss (Z.map (·.1))+ndss ds,by rw[ndss,ndss];omega,Z++ds.reverse.map (λd=>(d,r.2+1)),us++I,_,_,rfl,upd_same,?_,?_,?_,?_,by omega⟩
      ·rw[e7];exact sH4.trans (lT s7)
      ·rw[e7,ax,cf];exact Reps.append (Reps.same (lT s7) X) (Reps.same (E2 hl) z)
      ·intro r' hr';rcases cp.mp hr' with h|h
       ·exact rest r' h
       ·obtain⟨e,he,rfl⟩:=cr.mp h;have he:=List.mem_reverse.mp he;obtain⟨i,hi⟩:=List.getElem?_of_mem he;have h2:=wR hi;have h3:=oE hi;exact⟨tms.get hi,by show lvs e<=100;omega,by show r.2+1+depD e<=100;omega⟩
      ·rw[ax,cf,fP];congr 1;rw[show((λx:D×Nat=>x.1) ∘ λd=>(d,r.2+1))=id from rfl,List.map_id,sB]
mutual
def Wk:D->Prop
 | .str _=>True
 | .tup (.str _::ds)=>Wks ds
 | .lst (.str _::ds)=>Wks ds
 | _=>False
def Wks:List D->Prop
 | []=>True
 | d::ds=>Wk d/\Wks ds
end
mutual
noncomputable def wlk:D->List D
 | .tup (.str n::ds)=>.tup (.str n::ds)::wlks ds
 | .lst (.str n::ds)=>.lst (.str n::ds)::wlks ds
 | d=>[d]
noncomputable def wlks:List D->List D
 | []=>[]
 | d::ds=>wlk d++wlks ds
end
theorem uB:∀ds:List D,wlks ds=ds.flatMap wlk
 | []=>rfl
 | d::ds=>by rw[wlks,uB ds];rfl
theorem HM {d:D}(h:Wk d):(∃x,d = .str x)∨∃n ds,(d = .tup (.str n::ds)∨d = .lst (.str n::ds))/\Wks ds:=by
 unfold Wk at h;split at h
 ·exact .inl ⟨_,rfl⟩
 ·exact .inr ⟨_,_,.inl rfl,h⟩
 ·exact .inr ⟨_,_,.inr rfl,h⟩
 ·exact absurd h id
mutual
theorem OI:∀{d:D},Fl d->Wk d
 | .str x,h=>trivial
 | .tup (.str n::ds),h=>by unfold Wk;unfold Fl at h;exact ET h
 | .non,h | .bl _,h | .int _,h | .lst _,h | .tup [],h | .tup (.non::_),h | .tup (.bl _::_),h | .tup (.int _::_),h | .tup (.tup _::_),h | .tup (.lst _::_),h=>by unfold Fl at h;exact absurd h id
theorem ET:∀{ds:List D},Fls ds->Wks ds
 | [],_=>trivial
 | _::_,⟨a,b⟩=>⟨OI a,ET b⟩
end
mutual
theorem uF {a:cG}{sm:bG}{os:aN}:∀{d:D},aV a sm os d->Wk d
 | .str x,h=>trivial
 | .tup (.str n::ds),h=>by unfold Wk;unfold aV at h;exact qS h.2
 | .lst (.str n::ds),h=>by unfold Wk;unfold aV at h;exact qS h.2
 | .non,h | .bl _,h | .int _,h | .tup [],h | .lst [],h | .tup (.non::_),h | .tup (.bl _::_),h | .tup (.int _::_),h | .tup (.tup _::_),h | .tup (.lst _::_),h | .lst (.non::_),h | .lst (.bl _::_),h | .lst (.int _::_),h | .lst (.tup _::_),h | .lst (.lst _::_),h=>by unfold aV at h;exact absurd h id
theorem qS {c:cG}{sm:bG}{os:aN}:∀{ds:List D},IsTms c sm os ds->Wks ds
 | [],_=>trivial
 | _::_,⟨a,b⟩=>⟨uF a,qS b⟩
end
theorem Wks.app:∀{ds es:List D},Wks ds->Wks es->Wks (ds++es)
 | [],_,_,h=>h
 | _::_,_,⟨a,b⟩,h=>⟨a,Wks.app b h⟩
theorem Wks.rev:∀{ds:List D},Wks ds->Wks ds.reverse
 | [],h=>h
 | d::ds,⟨a,b⟩=>by rw[List.reverse_cons];exact Wks.app (Wks.rev b) ⟨a,trivial⟩
theorem Wks.unsnoc:∀{ds:List D} {d:D},Wks (ds++[d])->Wks ds/\Wk d
 | [],_,h=>⟨trivial,h.1⟩
 | _::_,_,⟨a,b⟩=>⟨⟨a,(Wks.unsnoc b).1⟩,(Wks.unsnoc b).2⟩
mutual
theorem lG:∀d:D,(wlk d).length<=nds d
 | .tup (.str n::ds)=>by rw[wlk,nds,ap];have:=rF ds;omega
 | .lst (.str n::ds)=>by rw[wlk,nds,ap];have:=rF ds;omega
 | .non | .bl _ | .int _ | .str _ | .tup [] | .lst [] | .tup (.non::_) | .tup (.bl _::_) | .tup (.int _::_) | .tup (.tup _::_) | .tup (.lst _::_) | .lst (.non::_) | .lst (.bl _::_) | .lst (.int _::_) | .lst (.tup _::_) | .lst (.lst _::_)=>by unfold wlk;rw[cb];exact qX _
theorem rF:∀ds:List D,(wlks ds).length<=ndss ds
 | []=>ae _
 | d::ds=>by rw[wlks,ndss,aq];have:=lG d;have:=rF ds;omega
end
def jB:Sp:=λvs H Q _=>∃(d:D) (v:V) (G:Hp),vs=[v]/\aF G H/\aX G d v/\Wk d/\nds d<=1000/\∀(l:Addr) (ws:List V) (H':Hp),aF H H'->H l=none->H' l=some (.lst ws)->Reps G (wlk d) ws->Q (.ref l) H'
def ST (v:V)(c t:Addr)(d:D)(H G:Hp)(n:Nat)(σ:St)(b:Hp):Prop:=∃(fs a:List D) (ws us:List V) (o:Option V),σ=[some v,some (.ref c),some (.ref t),o]/\b c=some (.lst ws)/\b t=some (.lst us)/\aF H b/\Reps G fs ws/\Reps G a us/\Wks a /\
 fs++a.reverse.flatMap wlk=wlk d/\ndss a=n/\n<=1000
theorem GC {f:Addr}{fd:FuncData}(F:fJ K "walked" "walked" nQ f fd)(T:Txt mg):bN P w K mg base bH 1 f fd AF jB:=by
 refine F.ok lH (λvs H Q E h=>?_) (λcdv A outer s H vs Q E hr h=>?_)
 ·obtain⟨d,v,G,rfl,_⟩:=h;rfl
 ·obtain⟨d,v,G,rfl,W,rep,wk,c,q⟩:=h;have hu:=hr.units
  refine⟨_,(aD (aZ (i:=1) lH.nd rfl (Or.inl rfl) (cM aB))
   (aD (aZ (i:=2) lH.nd rfl (Or.inl rfl) (cM (aA (pv 0) aB)))
   (aD (rS de (aP K rfl (pv 2) (λ_=>rfl)) (aD (aZ (i:=3) lH.nd rfl (Or.inl rfl) (rW da PySem.F.slot_list_pop PySem.F.type_list_pop pD (pv 2)))
   (aD (cB (gM da dc db eT (pv 1) (aA (pv 3) aB)))
   (aG (bK (cR (aP K rfl (aL aK rfl T.n_isinstance rfl (aA (pv 3) (aA (bJ (v:=V.ty "str") rfl T.n_str rfl rfl) aB))) (λ_=>rfl))) (aG (cB (gM da PySem.F.slot_list_extend PySem.F.type_list_extend lO (pv 2) (aA (jJ DR (pv 3) dG (cP aJ) (cP (kU h9 aJ))) aB)))) aW)))))
   (aG (aO (pv 1)))))),?_⟩
  simp only[AK];clear hr F T hu;have keep:=aI q (aI rep (aI wk (aI c W)));clear q rep wk c W
  walk_at "rd"
  obtain⟨q,rep,wk,c,W⟩:=keep;refine⟨by decide,λN l=>⟨by decide,λt ht=>?_⟩⟩;have S:N≠t:=aE upd_same ht;have I:H t=none:=(aF.upd l).free ht;refine AY (ST v N t d H G) (nds d) ⟨[],[d],[],[v],none,rfl,by rw[aC S];exact upd_same,upd_same,(aF.upd l).trans (aF.upd ht),rfl,⟨v,[],rfl,rep,rfl⟩,⟨wk,trivial⟩,by simp,by simp[ndss],c⟩ ?_;rintro n σ Z ⟨fs,ts,L,us,o,rfl,h1,h2,sH,Y,rt,wt,e,rfl,C⟩ R hT hF;rcases List.eq_nil_or_concat ts with rfl|⟨z,r,rfl⟩
  ·cases (show us=[]from rt);refine⟨_,rfl,false,.inl ⟨[],eH.of h2,rfl⟩,hF Z ⟨_,rfl,?_⟩⟩;have e:fs=wlk d:=by simpa using e
   rw[e]at Y;exact q N L Z sH l h1 Y
  ·rw[List.concat_eq_append]at rt wt e C hT;obtain⟨g,u,rfl,rt',X⟩:=fG rt;obtain⟨wt',wr⟩:=wt.unsnoc;have keep:=aI q (aI h1 (aI h2 (aI sH (aI Y (aI rt' (aI X (aI wt' (aI wr (aI e (aI C (aI l (aI I (aI c W)))))))))))));refine⟨_,rfl,true,.inl ⟨_,eH.of h2,by simp⟩,hT Z ?_⟩;clear q h1 h2 sH Y rt rt' X wt wt' wr e C hT hF rep wk c l ht I W
   walk_at "rd"
   obtain⟨q,h1,h2,sH,Y,rt,X,wt,wr,e,C,l,I,c,W⟩:=keep;rw[List.dropLast_concat];rw[List.reverse_append,List.reverse_cons,List.reverse_nil,List.nil_append,List.singleton_append,List.flatMap_cons]at e;have h3:upd Z t (.lst g) t=some (.lst g):=upd_same;have f3:upd Z t (.lst g) N=some (.lst L):=by rw[aC S];exact h1
   have s3:aF H (upd Z t (.lst g)):=λb o B=>by rw[aC (aE B I)];exact sH _ _ B
   generalize upd Z t (.lst g)=H3 at h3 f3 s3⊢;have h4:upd H3 N (.lst (L++[u])) t=some (.lst g):=by rw[aC S.symm];exact h3
   have f4:upd H3 N (.lst (L++[u])) N=some (.lst (L++[u])):=upd_same;have s4:aF H (upd H3 N (.lst (L++[u]))):=λb o B=>by rw[aC (aE B l)];exact s3 _ _ B
   have lf:=Reps.len Y;have lw:=congrArg List.length e;rw[aq]at lw;have lt':=Reps.len rt;have hn:=jM z;have hnr:nds r+ndss z<=1000:=by rw[fP,ndss,ndss]at C;omega
   have U:Reps G (fs++[r]) (L++[u]):=Reps.snoc X Y;refine⟨tyL h2,u,by simp,tyL f3,L,f3,ak (m:=1000) (by have:=lG d;omega) (by decide),?_⟩;generalize upd H3 N (.lst (L++[u]))=H4 at h4 f4 s4⊢;have O:=W.trans s4;rw[fP];rcases HM wr with⟨x,rfl⟩|⟨nm,ds,hd,wds⟩
   ·cases (show u = .str x from X);refine⟨true,rfl,?_⟩;rw[ac (by decide)];refine⟨ndss z,by rw[ndss,ndss];have:=qX (.str x);omega,fs++[.str x],z,_,g,_,rfl,f4,h4,s4,U,rt,wt,?_,rfl,by omega⟩;rw[←e];show _=fs++([.str x]++_);rw[cg]
   ·obtain⟨va,j,rfl,hbb,J⟩:∃va j,u = .ref va/\isV H4 (.ref va) (.ty "str")=some false/\eV H4 va (.str nm::j)/\Reps G ds j:=by
     rcases hd with rfl|rfl
     ·obtain⟨a,vs,rfl,ha,_,j,rfl,e1,r⟩:=X;cases e1;exact⟨a,j,rfl,fX (O _ _ ha),.inr (O _ _ ha),r⟩
     ·obtain⟨a,vs,rfl,ha,_,j,rfl,e1,r⟩:=X;cases e1;exact⟨a,j,rfl,iE (O _ _ ha),.inl (O _ _ ha),r⟩
    obtain⟨J,res⟩:=J;have hnd:nds r=1+ndss ds:=by rcases hd with rfl|rfl <;> rw[nds]
    have hwl:wlk r=r::wlks ds:=by rcases hd with rfl|rfl <;> rw[wlk]
    have h1:=jM ds;have lr:=Reps.len res;refine⟨false,hbb,?_⟩;rw[aj rfl];refine⟨tyL h4,_,rfl,0,rfl,1,rfl,-1,rfl,rfl,rfl,rfl,va,_,rfl,J,by simp,λb o B ho=>?_⟩;rw[uN]at ho;have h5:upd H4 b o t=some (.lst g):=by rw[aC (aE h4 B)];exact h4
    have f5:upd H4 b o N=some (.lst (L++[.ref va])):=by rw[aC (aE f4 B)];exact f4
    have s5:aF H (upd H4 b o):=s4.trans (aF.upd B);refine⟨t,b,g,j.reverse,rfl,rfl,h5,by rcases ho with⟨rfl,_⟩|⟨rfl,_⟩;exact .inl upd_same;exact .inr upd_same,ao (m:=2000) (by rw[List.length_reverse];omega) (by decide),ndss z+ndss ds,by rw[ndss,ndss];omega,fs++[r],z++ds.reverse,_,_,_,rfl,by rw[aC S];exact f5,upd_same,?_,U,Reps.append rt (Reps.rev res),wt.app wds.rev,?_,by rw[fP,sB],by omega⟩
    ·exact λb o B=>by rw[aC (aE B I)];exact s5 _ _ B
    ·rw[←e,hwl,List.reverse_append,List.reverse_reverse,List.flatMap_append,←uB];simp
noncomputable def mrk:D->M
 | .str x=>(sortS x,x,0)
 | .tup (.str n::ds)=>(2,n,ds.length+1)
 | _=>(0,"",0)
mutual
theorem EJ:∀{d:D},Fl d->key d=(wlk d).map mrk
 | .str x,_=>by unfold key wlk;rfl
 | .tup (.str n::ds),h=>by unfold Fl at h;rw[key,wlk,zF h];rfl
 | .non,h | .bl _,h | .int _,h | .lst _,h | .tup [],h | .tup (.non::_),h | .tup (.bl _::_),h | .tup (.int _::_),h | .tup (.tup _::_),h | .tup (.lst _::_),h=>by unfold Fl at h;exact absurd h id
theorem zF:∀{ds:List D},Fls ds->keys ds=(wlks ds).map mrk
 | [],_=>rfl
 | d::ds,⟨a,b⟩=>by rw[keys,wlks,EJ a,zF b,ax]
end
mutual
theorem KW:∀{d:D},Fl d->∀e∈wlk d,Fl e
 | .str x,h=>by unfold wlk;intro e a;rw[ck.mp a];exact h
 | .tup (.str n::ds),h=>by
  rw[wlk];intro e a;obtain rfl|a:=cm.mp a
  ·exact h
  ·exact ES (by unfold Fl at h;exact h) e a
 | .non,h | .bl _,h | .int _,h | .lst _,h | .tup [],h | .tup (.non::_),h | .tup (.bl _::_),h | .tup (.int _::_),h | .tup (.tup _::_),h | .tup (.lst _::_),h=>by unfold Fl at h;exact absurd h id
theorem ES:∀{ds:List D},Fls ds->∀e∈wlks ds,Fl e
 | [],_=>λe c=>by cases c
 | d::ds,⟨a,b⟩=>λe c=>by
  rw[wlks]at c;obtain c|c:=cp.mp c
  ·exact KW a e c
  ·exact ES b e c
end
noncomputable def mV (m:M):List V:=[.int m.1,.str m.2.1,.int m.2.2]
noncomputable def mD (m:M):D:=.tup [.int m.1,.str m.2.1,.int m.2.2]
def IJ:Sp:=λvs H Q _=>∃(d:D) (v:V),vs=[v]/\aX H d v/\Fl d/\∀p,H p=none->Q (.ref p) (upd H p (.tup (mV (mrk d))))
theorem MY {f:Addr}{o:FuncData}(F:fJ K "order_mark" "order_mark" gZ f o)(T:Txt mg):bN P w K mg base bH 1 f o oI IJ:=by
 refine F.ok tR (λvs H Q E h=>?_) (λJ A outer s H vs Q E i h=>?_)
 ·obtain⟨d,v,rfl,_⟩:=h;rfl
 ·obtain⟨d,v,rfl,rep,fl,q⟩:=h;have g:=i.units
  refine⟨_,(aD (bK (aP K rfl (aL aK rfl T.n_isinstance rfl (aA (pv 0) (aA (bJ (v:=V.ty "str") rfl T.n_str rfl rfl) aB))) (λ_=>rfl)) (aG (aO (eB (aA (kX (bC (eD g) (bM cX (pv 0) aJ (λ_ _=>rfl)) cS (nomark _)) aJ aJ) (aA (pv 0) (aA aJ aB)))))) aW)
   (aG (aO (eB (aA aJ (aA (bM cX (pv 0) aJ (λ_ _=>rfl)) (aA (aL cD rfl T.n_len rfl (aA (pv 0) aB)) aB))))))),?_⟩
  simp only[oN];clear i F T g;have keep:=aI q (aI rep fl);clear q rep fl
  walk_at "rd"
  obtain⟨q,rep,fl⟩:=keep;rcases xD fl with⟨x,rfl,l,j⟩|⟨nm,ds,rfl,B⟩
  ·cases (show v = .str x from rep);refine⟨true,rfl,?_⟩;rw[aj rfl];have hz:x.length<=sizeLine:=ao (m:=20) (by rw[bj]at j;exact j) (by decide);cases hc:x.cps.toList with
   | nil=>rw[hc]at l;simp at l
   | cons c r =>
    refine⟨.str ⟨#[c]⟩,by rw[q8 hz,hc,atI_zero];rfl,?_⟩;rw[rEqD_ss];refine⟨_,rfl,?_⟩;have C:decide ((⟨#[c]⟩:Str)=Str.ofString "?")=decide (c=63):=by
     have G:Str.ofString "?" = ⟨#[63]⟩:=by decide +kernel
     rw[G,bz];simp
    have es:sortS x=if c=63 then 0 else 1:=by unfold sortS;rw[hc];simp
    rw[C];by_cases h:c=63
    ·rw[aj (bd h)];refine⟨by decide,λp b=>?_⟩;have:Q (.ref p) (upd H p (.tup [.int (sortS x),.str x,.int 0])):=q p b;rw[es,aj h]at this;exact this
    ·rw[ac (by simpa using h)];refine⟨by decide,λp b=>?_⟩;have:Q (.ref p) (upd H p (.tup [.int (sortS x),.str x,.int 0])):=q p b;rw[es,ac h]at this;exact this
  ·obtain⟨a,vs,rfl,e,_,u,rfl,I,r⟩:=rep;cases I;have z:=Reps.len r;refine⟨false,fX e,?_⟩;rw[ac (by decide)];refine⟨.str nm,by rw[ixV_t e,atI_zero],.int (ds.length+1),by rw[lenV_t e,ap,z];rfl,by decide,λp b=>?_⟩;exact q p b
def spKey:Sp:=λvs H Q _=>∃(d:D) (v:V),vs=[v]/\aX H d v/\Fl d/\nds d<=1000/\∀(l:Addr) (H':Hp),aF H H'->H l=none->aX (nw H H') (.lst ((key d).map mD)) (.ref l)->Q (.ref l) H'
def S8 (ds:List D)(H d:Hp)(i:Nat)(a:List V)(σ:St)(b:Hp):Prop:=∃c:Option V,σ=[c]/\aF d b/\Reps (nw H b) (((ds.take i).map mrk).map mD) a
theorem yK {H:Hp}{p:Addr}{m:M}(h:H p=some (.tup (mV m))):aX H (mD m) (.ref p):=⟨p,_,rfl,h,.int _,_,rfl,rfl,.str _,_,rfl,rfl,.int _,[],rfl,rfl,rfl⟩
theorem D2 {H c b:Hp}(s:aF c b):aF (nw H c) (nw H b):=λa o e=>by obtain⟨f,d⟩:=kY.mp e;exact kY.mpr ⟨f,s _ _ d⟩
theorem P4 {f:Addr}{O:FuncData}(F:fJ K "order_key" "order_key" gJ f O)(T:Txt mg)(c:dM P w K mg base bH 1 "order_mark" IJ)(g:dM P w K mg base bH 1 "walked" jB):bN P w K mg base bH 2 f O qC spKey:=by
 refine F.ok wB (λvs H Q E h=>?_) (λcdv A outer s H vs Q E G h=>?_)
 ·obtain⟨d,v,rfl,_⟩:=h;rfl
 ·obtain⟨d,v,rfl,rep,fl,j,q⟩:=h;have hu:=G.units
  refine⟨_,(aD (bK (aP K rfl (aL aK rfl T.n_isinstance rfl (aA (pv 0) (aA (bJ (v:=V.ty "str") rfl T.n_str rfl rfl) aB))) (λ_=>rfl)) (aG (aO (cM (aA (aM c (G.mono (by decide)) pass0 rfl (aA (pv 0) aB)) aB)))) aW)
   (aG (aO (eF rfl (bD.by (N:=lE) (names:=(aH gJ).names) (N':=["at"]) (src:=[none]) (by decide +kernel) rfl rfl) (cE K rfl (aM g (G.mono (by decide)) pass0 rfl (aA (pv 0) aB))) (λ_ _ _ _=>(bA (i:=0) (show List.Nodup (["at"]:aN)by decide +kernel) rfl (Or.inl rfl))) (λ_ _ _ _=>dF) (λ_ _ _ _=>(aM c (G.mono (by decide)) pass0 rfl (aA (pv 0) aB))))))),?_⟩
  simp only[lE];clear G F T hu c g;have keep:=aI q (aI rep (aI fl j));clear q rep fl j
  walk_at "rd"
  obtain⟨q,rep,fl,j⟩:=keep;rcases xD fl with⟨x,rfl,I,h2⟩|⟨nm,ds,rfl,fls⟩
  ·cases (show v = .str x from rep);refine⟨true,rfl,?_⟩;rw[aj rfl];refine⟨_,_,rfl,rep,fl,λp u=>⟨by decide,λl r=>q l _ ((aF.upd u).trans (aF.upd r)) ((aF.upd u).free r) ?_⟩⟩;have hk:key (.str x)=[mrk (.str x)]:=by unfold key;rfl
   rw[hk];exact⟨l,[.ref p],rfl,kY.mpr ⟨(aF.upd u).free r,upd_same⟩,.ref p,[],rfl,yK (kY.mpr ⟨u,by rw[aC (aE upd_same r)];exact upd_same⟩),rfl⟩
  ·obtain⟨b,hb⟩:∃b,isV H v (.ty "str")=some b/\b=false:=by obtain⟨a,vs,rfl,ha,_⟩:=rep;exact⟨false,fX ha,rfl⟩
   refine⟨b,hb.1,?_⟩;rw[ac (by rw[hb.2];decide)];refine⟨_,v,H,rfl,aF.refl _,rep,OI fl,j,λY R H1 B hl0 I C=>⟨Y,rfl,R,.inl I,λJ hJ=>?_⟩⟩;have W:=Reps.len C;have lk:=lG (.tup (.str nm::ds));refine cN hJ (S8 (wlk (.tup (.str nm::ds))) H H1) ⟨none,rfl,aF.refl _,rfl⟩ (λi z σ H' _ ⟨_,_,s2,_⟩=>by rw[I,s2 _ _ I]) ?_ ?_
   ·rintro i x z σ H2 Z ⟨U,rfl,s2,o⟩;obtain⟨e,L,S⟩:=Reps.get C Z;have X:=Reps.len o;refine⟨_,rfl,e,x,rfl,aX.same (B.trans s2) S,KW fl e (bf L),λp u=>⟨ak (m:=1000) ?_ (by decide),_,rfl,s2.trans (aF.upd u),?_⟩⟩
    ·rw[af,af,bo]at X;omega
    ·rw[aY L,ax,ax];exact Reps.snoc (yK (kY.mpr ⟨(B.trans s2).free u,upd_same⟩)) (Reps.same (D2 (aF.upd u)) o)
   ·rintro z σ H2 ⟨U,rfl,s2,o⟩ l r;rw[W,bp]at o;refine q l _ ((B.trans s2).trans (aF.upd r)) ((B.trans s2).free r) ?_;rw[EJ fl];exact⟨l,z,rfl,kY.mpr ⟨(B.trans s2).free r,upd_same⟩,Reps.same (D2 (aF.upd r)) o⟩
noncomputable def opP (n:Str)(d:D):List D:=match d with
 | .tup (.str m::es)=>if m=n then es else [d]
 | d=>[d]
def uK:Sp:=λvs H Q _=>∃(n:Str) (d:D) (v:V),vs=[.str n,v]/\aX H d v/\Fl d/\∀(l:Addr) (ws:List V) (H':Hp),aF H H'->H l=none->H' l=some (.lst ws)->Reps H (opP n d) ws->Q (.ref l) H'
theorem BR {f:Addr}{z:FuncData}(F:fJ K "opened" "opened" nS f z)(T:Txt mg):bN P w K mg base bH 1 f z AH uK:=by
 refine F.ok FW (λvs H Q E h=>?_) (λG A outer s H vs Q E m h=>?_)
 ·obtain⟨n,d,v,rfl,_⟩:=h;rfl
 ·obtain⟨n,d,v,rfl,rep,fl,q⟩:=h;have j:=m.units
  refine⟨_,(aD (bK (PW.pt (IX (aP K rfl (aL aK rfl T.n_isinstance rfl (aA (pv 1) (aA (bJ (v:=V.ty "tuple") rfl T.n_tuple rfl rfl) aB))) (λ_=>rfl)) (DU (bC (eD j) (bM cX (pv 1) aJ (λ_ _=>rfl)) (pv 0) (nomark _))))) (aG (aO (cH CV rfl T.n_list rfl (aA (eK kM (pv 1) (cP aJ) dG) aB)))) aW)
   (aG (aO (cM (aA (pv 1) aB))))),?_⟩
  simp only[tJ];clear m F T j;have keep:=aI q (aI rep fl);clear q rep fl
  walk_at "rd"
  obtain⟨q,rep,fl⟩:=keep;have b:opP n d=[d]->1<=sizeLine/\∀(p:Addr),H p=none->Q (V.ref p) (upd H p (HO.lst [v])):=λe=>⟨by decide,λp g=>q p [v] _ (aF.upd g) g upd_same (by rw[e];exact⟨v,[],rfl,rep,rfl⟩)⟩
  rcases xD fl with⟨x,rfl,J,I⟩|⟨nm,ds,rfl,B⟩
  ·cases (show v = .str x from rep);exact⟨false,rfl,by rw[ac (by decide)];exact b rfl⟩
  ·obtain⟨a,vs,rfl,i,_,c,rfl,C,r⟩:=id rep;cases C;refine⟨true,QJ i,?_⟩;rw[aj rfl];refine⟨.str nm,by rw[ixV_t i,atI_zero],?_⟩;rw[rEqD_ss];refine⟨_,rfl,?_⟩;by_cases e:nm=n
   ·rw[aj (bd e)];refine⟨a,rfl,_,.inr i,λ_ h=>?_,λp o g ho=>?_⟩
    ·have:=h.1;simp[HT.sIx]at this
    ·rw[j6]at ho;refine⟨c,by rcases ho with⟨rfl,_⟩|⟨rfl,_⟩;rw[seqV_l upd_same];rw[seqV_t upd_same],λl u=>q l c _ ((aF.upd g).trans (aF.upd u)) ((aF.upd g).free u) upd_same ?_⟩;show Reps H (if nm=n then ds else [.tup (.str nm::ds)]) c;rw[aj e];exact r
   ·rw[ac (by simpa using e)];exact b (by show(if nm=n then ds else [.tup (.str nm::ds)])=_;rw[ac e])
end
end Lw
namespace Lw
open PySem PySem.Spec PyProof.Rows PySem.SeqAt L2
theorem zP (m b:M):eqD (mD m) (mD b)=decide (m=b):=by obtain⟨a,x,c⟩:=m;obtain⟨i,g,h⟩:=b;rw[bz];simp[mD,eqD,eqDs];exact⟨λ⟨f,d,e⟩=>⟨by omega,d,by omega⟩,λ⟨f,d,e⟩=>⟨by omega,d,by omega⟩⟩
theorem FM (A:Around)(s:Shared)(x y:Str)(t u:Tok):N3 A s (.str x t) (.str y u) (sL x y):=λprog w E Q h=>(lt_str h:wpAny (model prog w) A (compareOp .Lt (.str x t) (.str y u)) Q E s)
theorem uY (A:Around)(s:Shared)(x y:Int)(t u:Tok):N3 A s (.int x t) (.int y u) (decide (x<y)):=λprog w E Q h=>HT.rcLt_int A s x t y u prog w E Q h
section
variable {P:Program}{w:World}{H:Hp}{s:Shared}
theorem vals3 {a b c:V}{us:bQ}(h:aT [a,b,c] us):∃u v x,us=[u,v,x]/\aU a u/\aU b v/\aU c x:=by
 cases h with
 | cons r1 h =>
  obtain⟨v,x,rfl,e,d⟩:=aT.two h;exact⟨_,v,x,rfl,r1,e,d⟩
theorem y4 (ok:fV P w H s.heap){m:M}{v:V}{u:Value}(h:aX H (mD m) v)(r:aU v u):∃p t1 a t3,u = .ref p/\s.heap.IsTuple p #[.int m.1 t1,.str m.2.1 a,.int m.2.2 t3]:=by obtain⟨p,vs,rfl,e,q,r1,rfl,j,o,B,rfl,i,l,c,rfl,g,f⟩:=h;cases j;cases i;cases g;cases (show c=[]from f);cases r;obtain⟨its,b,d⟩:=iT ok e;obtain⟨A,z,x,rfl,⟨t1,rfl⟩,⟨a,rfl⟩,⟨t3,rfl⟩⟩:=vals3 b;exact⟨p,t1,a,t3,rfl,d⟩
theorem NA (ok:fV P w H s.heap)(A:Around)(hu:A.units+8<cLine){m G:M}{v R:V}{u S:Value}(h:aX H (mD m) v)(h':aX H (mD G) R)(r:aU v u)(Z:aU R S)(ne:m≠G):N3 A s u S (ltM m G):=by
 obtain⟨p,t1,T,t3,rfl,⟨⟨c,dd,dt,Y⟩,ho,U,n,hd⟩⟩:=y4 ok h r;obtain⟨p',l,j,i,rfl,⟨⟨c',O,dt',K⟩,o,C,n',B⟩⟩:=y4 ok h' Z;simp only at U hd C B;subst U hd C B;obtain⟨a,x,b⟩:=m;obtain⟨f,g,d⟩:=G;have q:tY A.in1 s [.int a t1,.str x T,.int b t3] [.int f l,.str g j,.int d i] (ltM (a,x,b) (f,g,d)):=by
  have L:A.in1.units+0<cLine:=by rw[d9];omega
  have J:=eqAtD ok (.int a) (.int f) A.in1 (.int a) (.int f) (.int a t1) (.int f l) rfl rfl ⟨_,rfl⟩ ⟨_,rfl⟩ L;have I:=eqAtD ok (.str x) (.str g) A.in1 (.str x) (.str g) (.str x T) (.str g j) rfl rfl ⟨_,rfl⟩ ⟨_,rfl⟩ L;have X:=eqAtD ok (.int b) (.int d) A.in1 (.int b) (.int d) (.int b t3) (.int d i) rfl rfl ⟨_,rfl⟩ ⟨_,rfl⟩ L;unfold ltM;dsimp only;by_cases W:a=f
  ·subst W;rw[aj rfl];refine .eq (by rw[gR]at J;exact J) ?_;by_cases N:x=g
   ·subst N;rw[aj rfl];refine .eq (by rw[gR]at I;exact I) ?_;have h3:b≠d:=λz=>ne (by rw[z]);have e:eqD (.int (b:Int)) (.int (d:Int))=false:=by show((b:Int) == (d:Int))=false;simp;omega
    rw[e]at X;have:decide (b<d)=decide ((b:Int)<(d:Int)):=by rw[bz];simp
    rw[this];exact .ne X (uY _ _ _ _ _ _)
   ·rw[ac N];have e:eqD (.str x) (.str g)=false:=by
     show(x == g)=false
     simpa using N
    rw[e]at I;exact .ne I (FM _ _ _ _ _ _)
  ·rw[ac W];have e:eqD (.int (a:Int)) (.int (f:Int))=false:=by show((a:Int) == (f:Int))=false;simp;omega
   rw[e]at J;have:decide (a<f)=decide ((a:Int)<(f:Int)):=by rw[bz];simp
   rw[this];exact .ne J (uY _ _ _ _ _ _)
 intro prog w' E Q hq;exact richCompare_meets_room (op:=.Lt) ⟨_,ho,rfl⟩ ⟨_,o,rfl⟩ PySem.F.slot_tuple_lt PySem.F.entry_tuple_lt (PySem.F.args_tuple_lt_2 _ _) (tP p p' _ _ n n' dd O Y K)
  ⟨ho,o,_,q,show Value.bool _≠Value.notImplemented/\Q _ s from⟨(λx=>nomatch x),hq⟩⟩ (by omega)
theorem uU (ok:fV P w H s.heap)(A:Around)(u:A.units+8<cLine):∀(ks c:List M) (vs a:List V) (us b:bQ),Reps H (ks.map mD) vs->Reps H (c.map mD) a->aT vs us->aT a b->tY A s us b (lexK ks c)
 | [],[],vs,a,us,b,h,h',r,d=>by
  cases (show vs=[]from h);cases (show a=[]from h');cases r.zero;cases d.zero;exact .nn
 | [],j::c,vs,a,us,b,h,⟨z,C,o,_,_⟩,r,d=>by
  cases (show vs=[]from h);subst o;cases r.zero;cases d;exact .nc
 | m::ks,[],vs,a,us,b,⟨x,q,e,_,_⟩,h',r,d=>by
  cases (show a=[]from h');subst e;cases d.zero;cases r;exact .cn
 | m::ks,j::c,vs,a,us,b,⟨x,q,e,v,E⟩,⟨z,C,o,g,l⟩,r,d=>by
  subst e o;cases r with
  | cons r1 B =>
   cases d with
   | cons f i =>
    have e:=eqAtD ok (mD m) (mD j) A _ _ _ _ v g r1 f (by
     have:depD (mD m)=1:=rfl
     omega)
    rw[zP]at e;rw[lexK];by_cases ne:m=j
    ·rw[aj ne];rw[bd ne]at e;exact .eq e (uU ok A u ks c _ _ _ _ E l B i)
    ·rw[ac ne];rw[bg ne]at e;exact .ne e (NA ok A u v g r1 f ne)
theorem sI (ok:fV P w H s.heap){ks:List M}{v:V}{u:Value}(h:aX H (.lst (ks.map mD)) v)(r:aU v u):∃l vs us,u = .ref l/\Reps H (ks.map mD) vs/\aT vs us/\s.heap.IsList l us.toArray:=by obtain⟨l,vs,rfl,d,c⟩:=h;cases r;obtain⟨us,b,a⟩:=gN ok d;exact⟨l,vs,us,rfl,c,b,a⟩
theorem zH (ok:fV P w H s.heap)(A:Around)(S:A.units+16<cLine){ks a:List M}{v z:V}{u i:Value}(h:aX H (.lst (ks.map mD)) v)(h':aX H (.lst (a.map mD)) z)(r:aU v u)(I:aU z i) :
  s.TypeIs u "list"/\s.TypeIs i "list"/\∀(prog:Program) (w:World) (E:cJ) (Q:cJ),Q (.bool (lexK ks a)) s->wpAny (model prog w) A (call (.builtin "list.__lt__") [u,i]) Q E s:=by
 obtain⟨l,vs,us,rfl,L,G,O⟩:=sI ok h r;obtain⟨K,f,g,rfl,o,m,q⟩:=sI ok h' I;obtain⟨⟨c,dd,T,C⟩,ho,B,n,hd⟩:=id O;obtain⟨⟨U,x,R,j⟩,b,e,J,d⟩:=id q;simp only at B hd e d;subst B hd e d;refine⟨⟨_,ho,rfl⟩,⟨_,b,rfl⟩,λprog w E Q N=>?_⟩;exact call_meets PySem.F.slot_list_lt ⟨_,ho,rfl⟩ PySem.F.entry_list_lt (PySem.F.args_list_lt_2 _ _) (wS l K _ _ n J dd x C j) ⟨ho,b,_,uU ok A.in1 (by rw[d9];omega) ks a vs f us g L o G m,N⟩
end
end Lw
namespace Lw
open PySem PySem.Spec PyProof.Rows PySem.SeqAt PySem.W L2
noncomputable def kyD (d:D):D:=.lst ((key d).map mD)
theorem NV {P:Program}{w:World}{H:Hp}{s:Shared}(ok:fV P w H s.heap)(A:Around)(i:A.units+32<cLine){d e:D}{v b:V}{u c:Value}(h:aX H (kyD d) v)(h':aX H (kyD e) b)(r:aU v u)(f:aU b c){prog:Program}{a:World}{E:cJ}{Q:Bool->Shared->Prop}
  (q:Q (lexK (key d) (key e)) s):wpAny (model prog a) A (keyLt' oneType' u c) Q E s:=by
 obtain⟨t1,g,t3⟩:=zH ok A (by omega) h h' r f;rw[keyLt'_oneType,oneLt'_eq,aj rfl];refine aa (wpAny_cRoomFor (by omega) (aa (wpAny_callSpecialIfBound?_slot t1 F.slot_list_lt (t3 prog a _ _ ?_))));exact wpAny_truthy_bool q
theorem B9 {M:Model}{h:Heap}{l:Addr}{us:i8}(a:h.IsList l us):Looks M h (typeOf (.ref l)) (.type "list"):=λA Q E s k q=>by obtain⟨o,ho,b,_⟩:=a;exact wpAny_typeOf ⟨o,k _ _ ho,b⟩ q
noncomputable def ltI (ds:List D)(i j:Nat):Bool:=lexK (key (ds.getD i .non)) (key (ds.getD j .non))
theorem JF (n:Nat)(ds:List D):RO n (ltI ds):=⟨λi=>n5 _,λi j h=>pF h,λi j k b a=>sD a b⟩
theorem w9 {ks is:bQ}{i:Nat}(h:ks.length=is.length)(a:i<is.length):kas_item (ks.toArray.zip is.toArray) i=(ks.getD i .none,is.getD i .none):=by
 unfold kas_item;have c:i<(ks.toArray.zip is.toArray).size:=by simp;omega
 rw[Array.getD_eq_getD_getElem?,Array.getElem?_eq_getElem c];have b:i<ks.length:=by omega
 simp[a,b]
theorem n9 {H:Hp}{ds:List D}{vs:List V}(h:Reps H ds vs){i:Nat}(a:i<ds.length):aX H (ds.getD i .non) (vs.getD i .non):=by
 obtain⟨v,b,r⟩:=Reps.get' h (aw a);have d:ds.getD i .non=ds[i]:=by simp[a]
 have c:vs.getD i .non=v:=by rw[List.getD_eq_getElem?_getD,b];rfl
 rw[d,c];exact r
theorem n6 {vs:List V}{us:bQ}(h:aT vs us){i:Nat}(a:i<vs.length):aU (vs.getD i .non) (us.getD i .none):=by
 obtain⟨u,b,r⟩:=h.get (aw a);have d:vs.getD i .non=vs[i]:=by simp[a]
 have c:us.getD i .none=u:=by rw[List.getD_eq_getElem?_getD,b];rfl
 rw[d,c];exact r
theorem yI {H:Hp}{ds:List D}{vs:List V}(h:Reps H ds vs):∀(l:List Nat),(∀i∈l,i<ds.length)->Reps H (l.map λi=>ds.getD i .non) (l.map λi=>vs.getD i .non)
 | [],_=>rfl
 | i::l,a=>⟨_,_,rfl,n9 h (a i av),yI h l λj b=>a j (ay _ b)⟩
theorem xV {vs:List V}{us:bQ}(h:aT vs us):∀(l:List Nat),(∀i∈l,i<vs.length)->aT (l.map λi=>vs.getD i .non) (l.map λi=>us.getD i .none)
 | [],_=>.nil
 | i::l,a=>.cons (n6 h (a i av)) (xV h l λj b=>a j (ay _ b))
theorem J1 (ds:List D):(List.range ds.length).map (λi=>ds.getD i .non)=ds:=by
 apply List.ext_getElem
 ·simp
 ·intro i b a;simp[a]
section
variable {X:Cx}{pins:cZ}{σ:L2.St}{H Hj:Hp}{s:Shared}{a kS:Addr}{e1 e:Nat}{kvs xs:List V}{kus its:bQ}{ds:List D}{A:Around}{E:cJ}
theorem IM (hu:A.units+64<cLine)(I:aQ X pins σ Hj s)(sH:aF H Hj)(q:fT X pins Hj a)(x:fT X pins Hj kS)(ne:kS≠a)(ha:s.heap.get? a=some (seqObj "list" #[] S))(hk:s.heap.get? kS=some (seqObj "list" kus.toArray e))
  (F:aT kvs kus) (B:Reps Hj (ds.map kyD) kvs) (W:aT xs its) (Y:Reps H ds xs) (h2:2<=ds.length) (P:ds.length<64) {Pf:PySem.Fin->Shared->Prop}
  (h:∀s' U es,aQ X pins σ (upd Hj a (.lst U)) s'->es.Perm ds->es.Pairwise leK->Reps H es U->Pf (.done (.ret .none)) s') :
  wpAny (model X.prog X.w) A (ksk_end a false its.toArray S (.ref kS) kus.toArray) Pf E s:=by
 have l1:=Reps.len B;rw[af]at l1;have l2:=F.length;have l3:=Reps.len Y;have l4:=W.length;have L:kus.length=its.length:=by omega
 have n2:¬its.toArray.size<2:=by rw[ai];omega
 unfold ksk_end;dsimp only;rw[ac n2,ac n2,ac Bool.false_ne_true];have look:∀v∈kus,Looks (model X.prog X.w) s.heap (typeOf v) (.type "list"):=λv hv=>by
  obtain⟨i,c⟩:=List.getElem?_of_mem hv;have hi':=(cj.mp c).1;have r1:=n9 B (i:=i) (by rw[af];omega);have Z:=n6 F (i:=i) (by omega);have ek:kus.getD i .none=v:=by rw[List.getD_eq_getElem?_getD,c];rfl
  rw[ek]at Z;have J:(ds.map kyD).getD i .non=kyD (ds.getD i .non):=by
   have:i<ds.length:=by omega
   simp[this]
  rw[J]at r1;obtain⟨l,_,us,rfl,_,_,hl⟩:=sI I.hok r1 Z;exact B9 hl
 refine aa (kas_kind (vs:=kus) (by omega) look (by decide) (by decide) ?_);have R:SortSt.mk' oneType' (kus.toArray.zip its.toArray) #[] 7 none=kas_st oneType' (kus.toArray.zip its.toArray) (List.toArray (List.range ds.length)):=by
  have e:=kas_range (kus.toArray.zip its.toArray);have z:(kus.toArray.zip its.toArray).size=ds.length:=by simp;omega
  rw[z]at e;unfold kas_st;rw[e]
 have run:=kas_runs (prog:=X.prog) (w:=X.w) (A:=A) (E:=E) (κ:=oneType') (it:=kus.toArray.zip its.toArray) (n:=ds.length) (s:=s)
  (Q:=λ_ d s'=>s'=s/\∃p:Array Nat,Gd ds.length p/\Up (ltI ds) p ds.length/\arrOf d=p.map (kas_item (kus.toArray.zip its.toArray))/\failedOf d=none)
  (G:=λp s'=>s'=s/\Gd ds.length p/\Up (ltI ds) p ds.length) h2 P (λp' d s' _ a2 a3 T=>⟨T.1,p',T.2.1,T.2.2,a2,a3⟩) ?ask
 case ask =>
  refine FA (n:=ds.length) (lt:=ltI ds) (λs'=>s'=s) ?_ (λp s' S e2=>⟨S,e2⟩) (HF (JF ds.length ds) (by omega)) s rfl;intro i j C s' c hj es hC;subst es;unfold kas_cmp;rw[w9 L (by omega),w9 L (by omega)];have g1:=n9 B (i:=i) (by rw[af];omega);have g2:=n9 B (i:=j) (by rw[af];omega);have J:∀i,i<ds.length->(ds.map kyD).getD i .non=kyD (ds.getD i .non):=λi c=>by simp[c]
  rw[J i c]at g1;rw[J j hj]at g2;exact NV I.hok A (by omega) g1 g2 (n6 F (by omega)) (n6 F (by omega)) (hC _ rfl)
 rw[←R]at run;refine aa (wpAny_mono run ?_ λ_ _ z=>z);rintro⟨⟨⟩,d⟩ s' ⟨rfl,p,g,up,O,hf⟩;have ho:(arrOf d).map (·.2)=(p.toList.map λi=>its.getD i .none).toArray:=by
  rw[O];apply Array.toList_inj.mp;rw[Array.map_map,Array.toList_map];refine List.map_congr_left λi c=>?_;have:i<ds.length:=by
   have:=(Array.perm_iff_toList_perm.mp g).mem_iff.mp c
   simpa using this
  show(kas_item (kus.toArray.zip its.toArray) i).2=_;rw[w9 L (by omega)]
 have inn:∀i∈p.toList,i<ds.length:=λi c=>by
  have:=(Array.perm_iff_toList_perm.mp g).mem_iff.mp c
  simpa using this
 have pl:p.toList.length=ds.length:=by rw[bj,g.size]
 unfold ksk_tail;dsimp only;rw[ho];refine aa (listUpdate_at hk rfl ?_ (ao (m:=64) (by rw[ai];omega) (by decide)) (au _));refine aa (wpAny_letGo ?_);have r:=Heap.SameBut.update s'.heap kS (Obj.mapSeq λ_=>(#[]:i8));have f:=(r.2 a ne.symm).trans ha;have I1:=I.turned (t':=s'.toks) (λb o N z=>(r.2 b N).trans z) x.1 x.2.1 x.2.2.2.1 x.2.2.2.2.1 x.2.2.2.2.2;refine aa (seqEpoch_at f rfl ?_);refine aa (listUpdate_at f rfl ?_ (au _) (ao (m:=64) (by simp only[Bool.false_eq_true,if_false];rw[ai,af];omega) (by decide)));rw[hf];simp only[bne_self_eq_false,if_false,Bool.false_eq_true];have K:=Heap.SameBut.update (s'.heap.update kS (Obj.mapSeq λ_=>(#[]:i8))) a (Obj.mapSeq λ_=>(p.toList.map λi=>its.getD i .none).toArray);have I2:=I1.turned (t':=s'.toks) (λb o N z=>(K.2 b N).trans z) q.1 q.2.1 q.2.2.2.1 q.2.2.2.2.1 q.2.2.2.2.2;have ga:=get?_update_seq f λ_=>(p.toList.map λi=>its.getD i .none).toArray;have I3:=I2.adopt (o:=.lst (p.toList.map λi=>xs.getD i .non)) q ⟨ao (m:=64) (by rw[af];omega) (by decide),_,_,xV W p.toList (λi c=>by have:=inn i c;omega),ga⟩;refine al (h _ _ (p.toList.map λi=>ds.getD i .non) I3 ?_ ?_ (yI Y p.toList inn))
 ·have:=(Array.perm_iff_toList_perm.mp g).map (λi=>ds.getD i .non);rw[List.toList_toArray,J1]at this;exact this
 ·rw[List.pairwise_map,List.pairwise_iff_getElem];intro i j c hj hij;have u:=up i j (by omega) (by omega);have ei:pa p i=p.toList[i]:=by
   have:i<p.size:=by rw[g.size];omega
   simp[pa,Array.getD,this]
  have ej:pa p j=p.toList[j]:=by
   have:j<p.size:=by rw[g.size];omega
   simp[pa,Array.getD,this]
  rw[ei,ej]at u;exact u
theorem KG {k:Nat}{f:Addr}{N:FuncData}{ps:aN}(F:bN X.prog X.w X.K X.mg X.base bH k f N ps spKey)(U:dZ X.K N ps [])(S:dW k A)(T:A.frames=some X.stack)(I:aQ X pins σ Hj s)(B:fT X pins Hj a)(q:fT X pins Hj kS){i ok:Obj}(L:s.heap.get? a=some i)(J:s.heap.get? kS=some ok){d:D}{v:V}{u:Value}(P:aX Hj d v)(fl:Fl d)(nd:nds d<=1000)(r:aU v u)
  {Q:cJ} {E:cJ} (h:∀e j H' s',aQ X pins σ H' s'->aF Hj H'->H' a=none->H' kS=none->s'.heap.get? a=some i->s'.heap.get? kS=some ok->aX H' (kyD d) e->aU e j->Q j s') :
  wpAny (model X.prog X.w) A (call (.ref f) [u]) Q E s:=by
 have c:=I.env0;have C:spKey [v] Hj (λe H'=>aF Hj H'/\aX H' (kyD d) e) E0:=⟨d,v,rfl,P,fl,nd,λl H' s' H rep=>⟨s',aX.same (λb o z=>(kY.mp z).2) rep⟩⟩
 have H:[u].length=ps.length:=F.len _ _ _ _ C;have G:∀b,fT X pins Hj b->b∉frs X.stack:=λb O z=>(cm.mp (I.stkSub b z)).elim O.2.1 O.2.2.1;refine wpAny_call (codeAny_mono (F.run A X.stack s Hj ⟨[u],[]⟩ [u] [v] _ E0 S ⟨T,c.mod,c.bs,c.bsz,c.funs,c.frf,c.hok,c.bare⟩ (by have:=U s [u] I.kIn (by simpa using H);simpa using this) (.cons r .nil) C) λres s' g=>?_);cases res with
 | error x=>exact g.elim
 | ok m =>
  cases m with
  | ret j =>
   obtain⟨e,H',os,bare,un,hok,R,sm,rep⟩:=g;have I':=I.call' (ch:=[]) os un hok bare (λb z=>absurd z (by simp));exact h e j H' s' I' sm (un.free a i L B.1 (by simp)) (un.free kS ok J q.1 (by simp)) (un.keep a i L B.1 (G a B) (by simp)) (un.keep kS ok J q.1 (G kS q) (by simp)) rep R
  | next=>exact g.elim
  | brk=>exact g.elim
  | cont=>exact g.elim
theorem FP {k:Nat}{f:Addr}{fd:FuncData}{ps:aN}(F:bN X.prog X.w X.K X.mg X.base bH k f fd ps spKey)(W:dZ X.K fd ps [])(hr:dW k A)(he:A.frames=some X.stack)(I:aQ X pins σ H s)(fa:fT X pins H a)(O:fT X pins H kS)(ne:kS≠a)
  (ha:s.heap.get? a=some (seqObj "list" #[] e1)) (hk:s.heap.get? kS=some (seqObj "list" #[] 0)) (P:aT xs its) (R:Reps H ds xs) (fl:∀d∈ds,Fl d/\nds d<=1000) (h2:2<=ds.length) (Z:ds.length<64) {Pf:PySem.Fin->Shared->Prop}
  (h:∀s' H' L es,aQ X pins σ (upd H' a (.lst L)) s'->aF H H'->H' a=none->es.Perm ds->es.Pairwise leK->Reps H es L->Pf (.done (.ret .none)) s') :
  wpAny (model X.prog X.w) A (ksk_rest a (.ref f) false its.toArray e1 (.ref kS)) Pf E s:=by
 have hu:=hr.units;have l3:=Reps.len R;have l4:=P.length;unfold ksk_rest;refine aa (wpAny_rule ?_);rw[List.forIn_toArray]
 refine aa (ksk_fold (λj s'=>∃(Hj:Hp) (c:List V) (g:bQ) (e:Nat),aQ X pins σ Hj s'/\aF H Hj/\Hj a=none/\Hj kS=none/\s'.heap.get? a=some (seqObj "list" #[] e1)/\s'.heap.get? kS=some (seqObj "list" g.toArray e)/\aT c g/\Reps Hj ((ds.take j).map kyD) c) its 0 s
  ⟨H,[],[],0,I,aF.refl _,fa.1,O.1,ha,hk,.nil,rfl⟩ ?step ?done)
 case step =>
  rintro j x s' hx ⟨Hj,c,g,e,I',sm,na,S,q,l,N,r⟩;rw[Nat.zero_add]at r⊢;have hj:j<its.length:=(cj.mp hx).1;have hd:ds[j]?=some ds[j]:=aw (by omega);obtain⟨v,hv,rv⟩:=Reps.get' R hd;obtain⟨u,G,ru⟩:=P.get hv;rw[hx]at G;cases G;have lr:=Reps.len r;rw[af,bo]at lr;have lk:=N.length;have hf:=fl ds[j] (bf hd);refine aa (wpAny_attempt (KG F W hr he I' (fa.at na) (O.at S) q l (aX.same sm rv) hf.1 hf.2 ru λkv U H' s2 I2 B T C Y J rep Q=>?_));have sb:=Heap.SameBut.update s2.heap kS (Obj.mapSeq (·.push U));have gk:=get?_update_seq J (·.push U);refine aa (listUpdate_at J rfl ?_ (ao (m:=64) (by rw[ai];omega) (by decide)) (ao (m:=65) (by rw[Array.size_push,ai];omega) (by decide)));have i:=O.at C;refine al ⟨rfl,H',c++[kv],g++[U],_,I2.turned (t':=s2.toks) (λb o W z=>(sb.2 b W).trans z) i.1 i.2.1 i.2.2.2.1 i.2.2.2.2.1 i.2.2.2.2.2,sm.trans B,T,C,(sb.2 a ne.symm).trans Y,by rw[gk,List.push_toArray],N.append (.cons Q .nil),?_⟩;rw[aY hd,ax];exact Reps.snoc rep (Reps.same B r)
 case done =>
  rintro s' ⟨Hj,c,g,e,I',sm,na,S,q,l,N,r⟩;rw[Nat.zero_add,←l4,l3,bp]at r;exact aa (listItems_at l rfl (IM (by omega) I' sm (fa.at na) (O.at S) ne q l N r P R h2 Z λs2 L es I2 a1 a2 a3=>h s2 Hj L es I2 sm na a1 a2 a3))
theorem CQ {k:Nat}{f l:Addr}{J:FuncData}{ps:aN}(F:bN X.prog X.w X.K X.mg X.base bH k f J ps spKey)(q:dZ X.K J ps [])(N:dW (k+2) X.A)(I:aQ X pins σ H s)(O:H l=some (.lst xs))(C:Reps H ds xs)(fl:∀d∈ds,Fl d/\nds d<=1000)(P:2<=ds.length)(r:ds.length<64){Q:VK}
  (h:∀j c es H',aF H H'->H j=none->H' j=some (.lst c)->es.Perm ds->es.Pairwise leK->Reps H es c->Q (.ref j) H') :
  wpAny (model X.prog X.w) X.A (call (.builtin "sorted") [.ref l] [(Str.ofString "key",.ref f)]) (EP X pins σ Q) E s:=by
 obtain⟨its,B,pl,hz⟩:=I.list (eH.of O);have l3:=Reps.len C;have l4:=B.length;refine call_function_entry_kw kind_sorted plain_sorted entry_sorted (ksk_s1 _ _) ?_;unfold Builtin.«sorted»;refine aa (m:=checkCount "sorted" 1 1 _) (al (aa (collect_list pl.isList ?_ (by omega))));refine aa (wpAny_newList ?_ (by omega));have k1:∀b o,s.heap.get? b=some o->((s.heap.push (seqObj "list" #[] 0)).update s.heap.objs.size (Obj.mapSeq λx=>x++its.toArray)).get? b=some o:=λb o e=>by have lt:=az e;rw[Heap.get?_update_ne _ _ _ _ (bi lt)];exact ag _ e
 have i:s.heap.objs.size<=((s.heap.push (seqObj "list" #[] 0)).update s.heap.objs.size (Obj.mapSeq λx=>x++its.toArray)).objs.size:=by rw[Heap.size_update,Heap.size_push];omega
 dsimp only;generalize (s.heap.push (seqObj "list" #[] 0)).update s.heap.objs.size (Obj.mapSeq λx=>x++its.toArray)=h1 at k1 i⊢;have I2:aQ X pins σ H {s with heap:=h1.push (seqObj "list" its.toArray 0)}:=I.kept (t':=s.toks) λb o e=>ag _ (k1 b o e);have G:=I.hok.fresh i;have a:=I.fpOk i G;have g:(h1.push (seqObj "list" its.toArray 0)).get? h1.objs.size=some (seqObj "list" its.toArray 0):=ar _ rfl;refine aa (ca (wpAny_call_entry_kw slot_list_sort ⟨_,g,rfl⟩ entry_list_sort ?body (ksk_l1 _ _)));show wpAny (model X.prog X.w) X.A.in1.in1 (ksk_tree h1.objs.size (.ref f) false) _ _ _;unfold ksk_tree;refine aa (listItems_at g rfl ?_);refine aa (listUpdate_at g rfl ?_ (by rw[ai];omega) (au _));have L:=Heap.SameBut.update (h1.push (seqObj "list" its.toArray 0)) h1.objs.size (Obj.mapSeq λ_=>(#[]:i8));have u:=get?_update_seq g λ_=>(#[]:i8)
 have Z:=I2.turned (t':=s.toks) (λb o q z=>(L.2 b q).trans z) a.1 a.2.1 a.2.2.2.1 a.2.2.2.2.1 a.2.2.2.2.2;refine aa (seqEpoch_at u rfl ?_);refine aa (wpAny_newTuple ?_ (by show its.length<=_;omega));refine aa (wpAny_newList (ca ?_) (au _));have v:=Z.kept (t':=s.toks) λb o e=>ag {cls:=.type "tuple",data:=.seq its.toArray} e;have Y:=v.kept (t':=s.toks) λb o e=>ag {cls:=.type "list",data:=.seq #[]} e;have S:=v.fpOk (ae _) (v.hok.fresh (ae _));have R:=ag {cls:=.type "list",data:=.seq #[]} (ag {cls:=.type "tuple",data:=.seq its.toArray} u);refine FP F q N.in1.in1 (I.ok.frames) Y a S (λz=>?_) R (ar _ rfl) B C fl P r λs' H' c es I' sm na W U T=>⟨_,rfl,al ⟨_,rfl,.ref h1.objs.size,_,I',rfl,h _ c es _ (sm.trans (aF.upd na)) G upd_same W U T⟩⟩
 have lt:=az (ag {cls:=.type "tuple",data:=.seq its.toArray} u);exact Nat.ne_of_gt lt z
end
def O1 (e:TA):TE:=λσ H Q=>e σ H λvs a=>∃l xs ds,vs=[.ref l]/\a l=some (.lst xs)/\Reps a ds xs/\(∀d∈ds,Fl d/\nds d<=1000)/\2<=ds.length/\ds.length<64 /\
 ∀b c es H',aF a H'->a b=none->H' b=some (.lst c)->es.Perm ds->es.Pairwise leK->Reps a es c->Q (.ref b) H'
theorem BJ {X:Cx}{k:Nat}{e:Expr}{m:TA}{p o c a:Pos}(O:dM X.prog X.w X.K X.mg X.base bH k "order_key" spKey)(N:dW (k+2) X.A)(S:Gl X "sorted")(P:X.mg "sorted" = none)(i:Gl X "order_key")(Y:PA X [e] m)
  (U:backTo a (starEach [e] X.env)=(false,eval e X.env)::backTo a (starEach [] X.env):=by rfl) (g:(backTo a (starEach [e] X.env)).any (·.1)=false:=by rfl):PE X (.Call (.Name "sorted" p) [e] [⟨some "key",.Name "order_key" o,c⟩] a) (O1 m):=by
 obtain⟨f,fd,ps,F,T,hk,W⟩:=O;intro b s σ H Q I h;refine wpAny_Call_Name_kw (pG I S P (u:=.builtin "sorted") rfl ?_);refine callWith_kw (thn (Y a b s σ H _ I h) λus x ⟨vs,v,I1,r1,E⟩=>?_) U g;have G:PK X [⟨some "key",.Name "order_key" o,c⟩] (tCons (tC (.ref f)) tNil):=MA (eL ⟨_,T,rfl⟩ i) PJ;refine thn (G a b x σ v (λvs r=>vs=[.ref f]/\r=v) I1 ⟨rfl,rfl⟩) λL s2 ⟨J,r,I2,C,e1,e2⟩=>?_;subst e1 e2;obtain⟨ku,rfl,d⟩:=aT.one C;cases d;obtain⟨l,xs,ds,rfl,R,B,fl,Z,j,q⟩:=E;obtain⟨u,rfl,z⟩:=aT.one r1;cases z;exact CQ F W N I2 R B fl Z j q
end Lw
namespace Lw
open PySem L2
section
variable {P:Program}{w:World}{K:PySem.W.Frag}{mg:gX}{base:Heap}
theorem PU (n z:Str)(d:D)(a:Fl d):opn1 n z d=if eqD d (.str z)=true then []else opP n d:=by
 rcases xD a with⟨x,rfl,_⟩|⟨m,es,rfl,_⟩
 ·rfl
 ·have e:eqD (.tup (.str m::es)) (.str z)=false:=rfl;rw[e,ac (by decide)];rfl
theorem pV:∀(ds l:List D),(∀d∈ds,Fl d)->(∀d∈l,Fl d)->l.Pairwise leK->(ds.foldl (λl d=>insA d l) l).Pairwise leK
 | [],l,_,_,h=>h
 | d::ds,l,hd,b,h=>by
  refine pV ds (insA d l) (λe a=>hd e (ay _ a)) (λe a=>?_) (pW (hd d av) b h);rcases cm.mp ((lQ d l).mem_iff.mp a)with rfl|a
  ·exact hd _ av
  ·exact b e a
theorem gF {ds:List D}(h:∀d∈ds,Fl d):(eM ds).Pairwise leK:=pV ds [] h (λ_ h=>by cases h) .nil
theorem FO {ds es:List D}(h:∀d∈ds,Fl d)(p:es.Perm ds)(s:es.Pairwise leK):es=eM ds :=
 mM (λd hd=>h d (p.mem_iff.mp hd)) (p.trans (bU ds).symm) s (gF h)
theorem D3:∀{ds:List D} {d:D},d∈ds->nds d<=ndss ds
 | e::ds,d,h=>by
  rw[ndss];obtain rfl|h:=cm.mp h
  ·omega
  ·have:=D3 h;omega
theorem JJ (n z:Str)(d:D):ndss (opn1 n z d)<=nds d:=by
 unfold opn1;split
 ·split
  ·rw[nds];omega
  ·rw[ndss,ndss];omega
 ·split
  ·rw[ndss];omega
  ·rw[ndss,ndss];omega
theorem wM (n z:Str):∀ds:List D,ndss (opn n z ds)<=ndss ds
 | []=>ae _
 | d::ds=>by rw[iB,fP,ndss];have:=JJ n z d;have:=wM n z ds;omega
def uL:Sp:=λvs H Q _=>∃(n z:Str) (a:Addr) (ds:List D) (ws:List V),vs=[.str n,.str z,.ref a]/\H a=some (.lst ws)/\Reps H ds ws/\Fls ds/\szs ds<=60/\ndss ds<=1000/\depDs ds<=50 /\
 ∀(b:V) (H':Hp),aF H H'->aX H' (one n z (eM (opn n z ds))) b->Q b H'
def TK (a l:Addr)(n z:Str)(ds:List D)(H:Hp)(i:Nat)(σ:St)(b:Hp):Prop:=∃(us:List V) (o:Option V),σ=[some (.str n),some (.str z),some (.ref a),some (.ref l),o]/\b l=some (.lst us)/\aF H b/\Reps b (opn n z (ds.take i)) us
theorem BV {f:Addr}{R:FuncData}(F:fJ K "flat_sum" "flat_sum" jU f R)(T:Txt mg)(v:dM P w K mg base bH 1 "opened" uK)(j:dM P w K mg base bH 2 "order_key" spKey):bN P w K mg base bH 5 f R tH uL:=by
 refine F.ok kO (λvs H Q E h=>?_) (λcdv A outer s H vs Q E hr h=>?_)
 ·obtain⟨n,z,a,ds,ws,rfl,_⟩:=h;rfl
 ·obtain⟨n,z,a,ds,ws,rfl,I,N,r,B,c,C,q⟩:=h;have hu:=hr.units
  refine⟨_,(aD (aZ (i:=3) kO.nd rfl (Or.inl rfl) (cM aB))
   (aD (fE de rfl (cE K rfl (pv 2)) (bA (i:=4) kO.nd rfl (Or.inl rfl)) (aG (bK (bC (iC hu) (pv 4) (pv 1) (nomark _)) (aG (cB (gM da PySem.F.slot_list_extend PySem.F.type_list_extend lO (pv 3) (aA (aM v (hr.mono (by decide)) pass0 rfl (aA (pv 0) (aA (pv 4) aB))) aB)))) aW)))
   (aD (bK (cR (aP K rfl (pv 3) (λ_=>rfl))) (aG (aO (pv 1))) aW)
   (aD (bK (bC (eD hu) (aL cD rfl T.n_len rfl (aA (pv 3) aB)) aJ (nomark _)) (aG (aO (bM cX (pv 3) aJ (λ_ _=>rfl)))) aW)
   (aG (aO (cH eN rfl T.n_tuple rfl (aA (bV cV (cM (aA (pv 0) aB)) (BJ j (hr.mono (by decide)) rfl T.n_sorted rfl (aA (pv 3) aB))) aB)))))))),?_⟩
  simp only[m8];clear hr F T hu v j;have keep:=aI q (aI I (aI N (aI r (aI B (aI c C)))));clear q I N r B c C
  walk_at "rd"
  obtain⟨q,I,N,r,B,c,C⟩:=keep;refine⟨by decide,λl O=>⟨ws,.inl (by rw[aC (aE I O)];exact I),λJ hJ=>?_⟩⟩;have s1:aF H (upd H l (.lst [])):=aF.upd O;have h1:upd H l (.lst []) l=some (.lst []):=upd_same;generalize upd H l (.lst [])=H1 at s1 h1 hJ⊢;have g:∀i,(opn n z (ds.take i)).length<=60:=λi=>by have h1:=vU (opn n z (ds.take i));have L:=BN n z (ds.take i);have h3:=IE i ds;omega
  have lw:=Reps.len N;refine gG hJ (TK a l n z ds H) ⟨[],none,rfl,h1,s1,rfl⟩ (by rintro i σ H' _ ⟨_,_,_,_,s2,_⟩;rw[s2 _ _ I,s1 _ _ I]) ?_ ?_
  ·rintro i x σ H2 hx ⟨us,o,rfl,L,s2,G⟩;obtain⟨d,hd,rx⟩:=Reps.get N hx;have R:=r.get hd;have dd:=oE hd;have keep:=aI q (aI I (aI N (aI r (aI B (aI c (aI C (aI O (aI L (aI s2 (aI G (aI hd (aI rx (aI R (aI dd g))))))))))))));clear q I N r B c C O L s2 G hd rx R dd g s1 h1 hJ hx
   walk_at "rd"
   obtain⟨q,I,N,r,B,c,C,O,L,s2,G,hd,rx,R,dd,g⟩:=keep;refine⟨d,.str z,aX.same s2 rx,rfl,by omega,_,rfl,?_⟩;have U:=Reps.len G;have Y:=PU n z d R;cases W:eqD d (.str z)with
   | true =>
    rw[ac (by decide)];rw[W,aj rfl]at Y;exact⟨us,_,rfl,L,s2,by rw[aY hd,nW,Y,bh];exact G⟩
   | false =>
    rw[aj (by decide)];rw[W,ac (by decide)]at Y;refine⟨tyL L,n,d,x,rfl,aX.same s2 rx,R,λl2 vs2 H3 s3 hl2 h3 r3=>?_⟩;have l3:=s3 _ _ L;have lv:=Reps.len r3;have sm:=g (i+1);rw[aY hd,nW,aq,Y]at sm;have f2:Fls (opn n z (ds.take i)++opP n d):=by rw[←Y,←nW,←aY hd];exact rY (iZ λe W=>dS r e (List.mem_of_mem_take W))
    refine⟨l,l2,us,vs2,rfl,rfl,l3,.inl h3,ao (m:=100) (by omega) (by decide),us++vs2,_,rfl,upd_same,λb o hb=>by rw[aC (aE hb O)];exact s3 _ _ (s2 _ _ hb),?_⟩;rw[aY hd,nW,Y];exact Reps.tups (bE.lst l3) f2 (Reps.append (Reps.same s3 G) (Reps.same s3 r3))
  ·rintro σ H2 ⟨us,o,rfl,L,s2,G⟩;rw[lw,bp]at G;have keep:=aI q (aI I (aI N (aI r (aI B (aI c (aI C (aI O (aI L (aI s2 (aI G g))))))))));clear q I N r B c C O L s2 G g s1 h1 hJ
   walk_at "rd"
   obtain⟨q,I,N,r,B,c,C,O,L,s2,G,g⟩:=keep;have X:=rY (n:=n) (z:=z) r;have U:=Reps.len G;have sm:=g ds.length;rw[bp]at sm;have nn:=wM n z ds;refine⟨!us.isEmpty,.inl ⟨us,eH.of L,rfl⟩,?_⟩;generalize hos:opn n z ds=os at X U sm nn G q;clear hos
   match os,X,U,sm,nn,G,q with
   | [],X,U,sm,nn,G,q =>
    cases (show us=[]from G);rw[aj (by decide)];exact q _ _ s2 rfl
   | [d],X,U,sm,nn,⟨u,_,e,h,e'⟩,q =>
    subst e;cases (show _=[]from e');rw[ac (by simp),aj (by simp)];exact⟨u,atI_zero,q _ _ s2 h⟩
   | d::d2::S,X,U,sm,nn,G,q =>
    have l2:us.length=S.length+2:=by rw[U];rfl
    have ne:us≠[]:=λz=>by rw[z]at l2;simp at l2
    rw[ac (by cases us with|nil=>exact absurd rfl ne|cons a b=>simp),ac (by omega)];refine⟨by decide,λp hp=>?_⟩;have sp:aF H2 (upd H2 p (.lst [.str n])):=aF.upd hp;have hpp:upd H2 p (.lst [.str n]) p=some (.lst [.str n]):=upd_same;generalize upd H2 p (.lst [.str n])=H3 at sp hpp⊢;have all:∀e∈d::d2::S,Fl e:=dS X;refine⟨_,rfl,l,us,d::d2::S,rfl,sp _ _ L,Reps.same sp G,λe W=>⟨all e W,by have:=D3 W;omega⟩,by simp,by simp only[ap]at sm⊢;omega,λl' Z es H4 s4 hl' h4 pm so re=>?_⟩;have ees:=FO all pm so;have ly:=Reps.len re;have le:=pm.length_eq;refine⟨.lst (.str n::Z),oG (s4 _ _ hpp) h4 (ao (m:=100) (by simp only[ap,List.length_nil]at sm le⊢;omega) (by decide)),λp5 hp5=>⟨.str n::Z,.inl upd_same,λl6 H6 hc=>?_⟩⟩;rcases hc with⟨hc,_⟩|⟨_,hl6,rfl⟩
    ·cases hc
    ·have s6:aF H4 (upd (upd H4 p5 (.lst (.str n::Z))) l6 (.tup (.str n::Z))):=(aF.upd hp5).trans (aF.upd hl6);refine q _ _ ((s2.trans (sp.trans s4)).trans s6) ?_;rw[JM (by rw[(bU _).length_eq];simp),←ees];exact⟨l6,_,rfl,upd_same,.str n,Z,rfl,rfl,Reps.same (s4.trans s6) re⟩
def hX (K:PySem.W.Frag)(C:Addr):Sp:=λvs H Q _=>∃(g:Addr) (fx:cG) (sm:bG) (n:Str) (a:Addr) (ds:List D) (ws:List V),vs=[.ref g,.str n,.ref a]/\eP K C fx sm H g/\H a=some (.lst ws)/\Reps H ds ws/\Fls ds/\szs ds<=60/\ndss ds<=1000/\depDs ds<=50 /\
 ∀(b:V) (H':Hp),aF H H'->aX H' (knot sm n ds) b->Q b H'
theorem BS {f C:Addr}{R:FuncData}(F:fJ K "flat_of_parts" "flat_of_parts" fA f R)(T:Txt mg)(c:C4 P w K mg base bH 1 C "nought" (kJ K C))(b:dM P w K mg base bH 5 "flat_sum" uL):bN P w K mg base bH 6 f R kC (hX K C):=by
 refine F.ok jE (λvs H Q E h=>?_) (λZ A outer s H vs Q E v h=>?_)
 ·obtain⟨g,O,sm,n,a,ds,o,rfl,_⟩:=h;rfl
 ·obtain⟨g,O,sm,n,a,ds,o,rfl,sg,u,r,j,e,d,l,q⟩:=h;have U:=v.units
  refine⟨_,(aD (aZ (i:=3) jE.nd rfl (Or.inl rfl) (rV c (v.mono (by decide)) pass0 (pv 0) (aA (pv 1) aB)))
   (aD (bK (bC JL (pv 3) kW (nomark _)) (aG (aO (cH eN rfl T.n_tuple rfl (aA (bV cV (cM (aA (pv 1) aB)) (pv 2)) aB)))) aW)
   (aG (aO (aM b (v.mono (by decide)) pass0 rfl (aA (pv 1) (aA (pv 3) (aA (pv 2) aB)))))))),?_⟩
  simp only[gW];clear v F T U c b;have keep:=aI q (aI u (aI r (aI j (aI e (aI d (aI l sg))))));clear q u r j e d l sg
  walk_at "rd"
  obtain⟨q,u,r,j,e,d,l,sg⟩:=keep;obtain⟨Y,fs,_,_,X,_,W,_⟩:=sg.ex;refine⟨_,rfl,g,Y,fs,rfl,X,W,_,rfl,g,n,O,sm,rfl,sg,?_⟩;unfold knot at q;cases hz:zr sm n with
  | none =>
   have I:nulV sm n = .non:=by unfold nulV;rw[hz];rfl
   rw[hz]at q;rw[I,aj rfl];have lw:=Reps.len r;have:=vU ds;refine⟨by decide,λp N=>⟨.lst (.str n::o),oG upd_same (by rw[aC (aE u N)];exact u) (ao (m:=100) (by simp;omega) (by decide)),λS x=>⟨.str n::o,.inl upd_same,λL H6 G=>?_⟩⟩⟩;rcases G with⟨G,_⟩|⟨_,B,rfl⟩
   ·cases G
   ·have J:aF H (upd (upd (upd H p (.lst [.str n])) S (.lst (.str n::o))) L (.tup (.str n::o))):=((aF.upd N).trans (aF.upd x)).trans (aF.upd B);exact q _ _ J ⟨L,_,rfl,upd_same,.str n,o,rfl,rfl,Reps.same J r⟩
  | some z =>
   have I:nulV sm n = .str z:=by unfold nulV;rw[hz];rfl
   rw[hz]at q;rw[I,ac (by simp)];exact⟨n,z,a,ds,o,rfl,u,r,j,e,d,l,q⟩
end
end Lw
namespace L2
open PySem PySem.Spec PyProof.Rows
theorem DY {X:Cx}(K:PySem.W.Frag)(h:X.K=K){o:Expr}{f:TE}{name:Str}{b a:Pos}{T id:String}{r:V->List V->Hp->VK->Prop}(pa:PlainAttrs T)(slot:Slot T name id)(e:typeOf (.builtin id)=pure (.type "method_descriptor"))(g:RW X id r)(ho:PE X o f)
  (d:attributeBase o name X.env (eval o X.env)=eval o X.env:=by rfl) (c:(b.endLine == a.line)=true:=by rfl):PE X (.Call (.Attribute o name b) [] [] a) (tBM0 K T r f):=by
 subst h;exact rW pa slot e g ho d c
noncomputable abbrev pinO (a:Addr)(o:Obj):HO:=.ext λh=>h.get? a=some o
theorem mP {P:Program}{w:World}{H:Hp}{h:Heap}{a:Addr}{o:Obj}(e:h.get? a=some o):cF P w H h a (pinO a o):=⟨e,⟨o,e⟩,λc b q k=>k o q⟩
theorem gE {P:Program}{w:World}{H:Hp}{h:Heap}{a:Addr}{o:Obj}(ok:fV P w H h)(e:H a=some (pinO a o)):h.get? a=some o:=(ok a _ e).1
noncomputable def del1 (H:Hp)(p:Addr):Hp:=λb=>if b=p then none else H b
theorem K6 {H:Hp}{p b:Addr}{o:HO}(h:del1 H p b=some o):H b=some o/\b≠p:=by
 unfold del1 at h;by_cases e:b=p
 ·rw[aj e]at h;cases h
 ·rw[ac e]at h;exact⟨h,e⟩
theorem dC {H:Hp}{p b:Addr}(h:H b=none):del1 H p b=none:=by
 unfold del1;split
 ·rfl
 ·exact h
theorem bW {H:Hp}{p b:Addr}(h:b≠p):del1 H p b=H b:=by unfold del1;rw[ac h]
theorem fI {H:Hp}{p:Addr}:del1 H p p=none:=by unfold del1;rw[aj rfl]
theorem fV.del {P:Program}{w:World}{H:Hp}{h:Heap}{c:Addr}{φ:Heap->Prop}(ok:fV P w H h)(e:H c=some (.ext φ)):fV P w (del1 H c) h:=λa o q=>by obtain⟨d,f⟩:=K6 q;exact(ok a o d).stay (λ_ _ _ z=>z) (λb z=>by rw[bW (λw=>by rw[w,e]at z;cases z)];exact z) (λb xs z=>by rw[bW (λw=>by rw[w,e]at z;cases z)];exact z)
theorem fV.back {P:Program}{w:World}{H:Hp}{h:Heap}{c:Addr}{o:Obj}(ok:fV P w H h)(n:H c=none)(e:h.get? c=some o):fV P w (upd H c (pinO c o)) h:=λa u q=>by
 by_cases z:a=c
 ·subst z;rw[upd_same]at q;cases q;exact mP e
 ·rw[aC z]at q;exact(ok a u q).stay (λ_ _ _ z=>z) (λb z=>by rw[aC (aE z n)];exact z) (λb xs z=>by rw[aC (aE z n)];exact z)
end L2
namespace Lw
open PySem PySem.Spec PyProof.Rows L2
noncomputable def lamOf (s:Stmt):Expr:=match bX s with
 | [.Return (some (.Call _ [_,_,e] _ _)) _]=>e
 | _=>.Name "" ⟨0,0,0,0⟩
noncomputable def KD (e:Expr):Arguments:=match e with
 | .Lambda a _ _ _=>a
 | _=>default
noncomputable def KF (e:Expr):Expr:=match e with
 | .Lambda _ b _ _=>b
 | e=>e
noncomputable def lamSc (e:Expr):Scope:=match e with
 | .Lambda _ _ s _=>s
 | _=>default
noncomputable abbrev pL:Arguments:=KD (lamOf cT)
noncomputable abbrev bL:Expr:=KF (lamOf cT)
noncomputable abbrev scL:Scope:=lamSc (lamOf cT)
noncomputable def qL:Str:="put_in.<locals>.<lambda>"
noncomputable abbrev oL (c0 c':Addr)(pm ctv:Value):Obj:=PySem.W.kla_obj "<lambda>" qL pL bL scL [("signs",c0)] pm c' ctv
noncomputable abbrev envL (L fl c0 c':Addr):Env:=newEnv scL L mainGlobals [("signs",c0)] (qL++".<locals>.") (some fl) (.ref c') none builtinsNs
noncomputable def cxL (P:Program)(w:World)(K:PySem.W.Frag)(mg:gX)(base:Heap)(A:Around)(outer:List Env)(s:Shared)(H:Hp)(fl a b:Addr):Cx where
 prog:=P
 w:=w
 K:=K
 mg:=mg
 base:=base
 A:=A.deeper (envL s.heap.objs.size fl a b)
 N:=["name","parts","signs"]
 s₀:=s
 H₀:=H
 env:=envL s.heap.objs.size fl a b
 outer:=outer
 stack:=envL s.heap.objs.size fl a b::outer
 ex:=[]
 fn:=λ_=>false
 calm:=true
 pn:=[]
 xe:=λ_ _=>False
theorem CI {x:Str}(h:scL.names.lookup x=some .cell∨scL.names.lookup x=some .free):x="signs":=by
 have all:∀y∈scL.names,(y.2 = .cell∨y.2 = .free)->y.1=("signs" : Str):=by decide +kernel
 rcases h with h|h
 ·exact all _ (PySem.mem_of_lookup h) (.inl rfl)
 ·exact all _ (PySem.mem_of_lookup h) (.inr rfl)
section
variable {P:Program}{w:World}{K:PySem.W.Frag}{mg:gX}{base:Heap}
theorem NE {A:Around}{outer:List Env}{s:Shared}{H:Hp}{g fl d E a C:Addr}{pm Y S R:Value}{f L:Obj}{G:i8}{tq:Tok}{n:Str}{k:Nat}{Q:VK}(hr:dW (k+1) A)(j:tO P w K mg base A outer s H)
  (hfl:H fl=some (pinO fl (oL d E pm Y))) (m:H d=some (pinO d f)) (X:f.data = .cell (some (.ref g))) (hc':H E=some (pinO E L)) (hcd:L.data = .fields G) (hq:G[1]?=some (.str qL tq))
  (O:dM P w K mg base bH k "flat_of_parts" (hX K C)) (r1:aU (.str n) S) (r2:aU (.ref a) R) (sp:hX K C [.ref g,.str n,.ref a] (del1 H d) (λv H'=>H' d=none->Q v (upd H' d (pinO d f))) E0) :
  codeAny (model P w) A (.call (.ref fl) ⟨[S,R],[]⟩) (CR bH outer P w H s Q E0) s:=by
 have gfl:=gE j.hok hfl;have g0:=gE j.hok m;have g':=gE j.hok hc';have lim:s.heap.NoLimit:=j.mod.nolimit.keeps λb o e=>(j.bs b o e).1;refine PySem.W.kla_callFunE hr.depth gfl rfl rfl rfl rfl ⟨E,L,G,tq,rfl,g',hcd,hq⟩ ?_;rw[show bindArgs (PySem.W.kla_fn "<lambda>" qL pL bL scL [("signs",d)] pm (.ref E) Y) ⟨[S,R],[]⟩=pure [(("name" : Str),S),(("parts" : Str),R)]from rfl];have nc:∀x∈scL.names,x.2≠.cell:=by decide +kernel
 have nl:∀x∈[(("name" : Str),S),(("parts" : Str),R)],scL.names.lookup x.1=some .local:=by
  intro x l;obtain rfl|l:=cm.mp l
  ·rfl
  ·rw[ck.mp l];rfl
 refine al (wpAny_newFunctionEnv nc nl (λh' hns U=>⟨lim.fresh _ U,?_⟩) rfl);have Z:∀b o,s.heap.get? b=some o->h'.get? b=some o:=λb o e=>U.extBut b o (bi (az e)) (ag _ e);have T:=j.hok.del m;have nfr:d∉frs outer:=λz=>by have:=j.frf d z;rw[m]at this;cases this
 have I:aQ (cxL P w K mg base A outer s (del1 H d) fl d E) [] [some (.str n),some (.ref a),some (.ref g)] (del1 H d) {s with heap:=h',toks:=s.toks+2}:=by
  have N:∀b:Addr,b∉(cxL P w K mg base A outer s (del1 H d) fl d E).ex:=λb z=>absurd (show b∈([]:List Addr)from z) (by simp);have one:∀x c,(cxL P w K mg base A outer s (del1 H d) fl d E).env.cells.lookup x=some c->x=("signs" : Str)/\c=d:=λx c e=>by have e':[(("signs" : Str),d)].lookup x=some c:=e;have:=PySem.mem_of_lookup e';rw[ck]at this;cases this;exact⟨rfl,rfl⟩
  refine⟨⟨j.mod,rfl,rfl,rfl,ae _,λx y c r B=>?_,λx l=>?_,λx c h=>absurd h (by simp[cxL]),λ_=>hr.hd,Around.frames_deeper j.frames,.inr ⟨rfl,rfl⟩,λb z=>absurd z (N b),λb o e=>⟨(j.bs b o e).1,dC (j.bs b o e).2⟩,j.bsz,λb _ _=>N b,λb z=>absurd z (N b),j.funs,λb z=>dC (j.frf b z)⟩,
   rfl,j.bare,Un.kept Z,⟨_,hns,λi x v r B h3=>?_⟩,λx c h=>?_,T.fresh (ae _),λx c h=>?_,λp hp=>absurd (show p∈([]:cZ)from hp) (by simp),T.kept Z,rfl⟩
  ·rw[(one x c r).1,(one y c B).1]
  ·rw[CI l];exact⟨d,rfl⟩
  ·match i,r,B with
   | 0,r,B=>cases r;cases B;exact⟨S,r1,.inl ⟨rfl,rfl⟩⟩
   | 1,r,B=>cases r;cases B;exact⟨R,r2,.inl ⟨rfl,rfl⟩⟩
   | 2,r,B=>cases r;cases B;exact⟨.ref g,rfl,.inr ⟨.inr rfl,d,rfl,f,Z _ _ g0,X⟩⟩
   | i+3,r,B=>cases r
  ·rw[(one x c h).2];exact⟨_,f,Z _ _ g0,X⟩
  ·rw[(one x c h).2];exact fI
 have pb:PE (cxL P w K mg base A outer s (del1 H d) fl d E) bL (tCall (hX K C) [] E0 (tCons (tVar 2) (tCons (tVar 0) (tCons (tVar 1) tNil)))):=aM O (hr.deeper _) pass0 rfl (aA (pv 2) (aA (pv 0) (aA (pv 1) aB)));refine PySem.W.kla_codeExpr (wpAny_mono (pb [] _ _ _ (λv H'=>H' d=none->Q v (upd H' d (pinO d f))) I ⟨_,rfl,_,rfl,_,rfl,sp⟩) (λu s' ⟨v,H',J,rv,q⟩=>?_) λ_ _ z=>z.elim);have un:Un (frs outer) [] (del1 H d) H' s.heap s'.heap:=J.base;have gs:=un.keep d f g0 fI nfr (by simp);have nn:=un.free d f g0 fI (by simp);refine⟨v,upd H' d (pinO d f),J.os,J.bare,?_,J.hok.back nn gs,rv,q nn⟩;have ne:∀b u,H b=some u->(∀φ,u≠.ext φ)->b≠d:=λb u e z w=>by rw[w,m]at e;cases e;exact z _ rfl
 refine⟨λb o e z hb l=>un.keep b o e (dC z) hb l,λb o e z hb l=>un.slot b o e (dC z) hb l,λb o e z l=>?_,λb o e l=>un.there b o e l,λb xs e=>?_,λb o u' e=>?_,λb ps e=>?_⟩
 ·rw[aC (λw=>by rw[w,m]at z;cases z)];exact un.free b o e (dC z) l
 ·have F:=ne b _ e (λφ=>by simp);rw[aC F];exact un.tups b xs (by rw[bW F];exact e)
 ·have F:=ne b _ e (λφ=>by simp);rw[aC F];exact un.frzs b o u' (by rw[bW F];exact e)
 ·have F:=ne b _ e (λφ=>by simp);rw[aC F];exact un.tbls b ps (by rw[bW F];exact e)
end
def AQ (H:Hp)(fl a g:Addr):Prop:=∃(b:Addr) (pm ctv:Value) (oc0 oc':Obj) (vsc:i8) (tq:Tok),H fl=some (pinO fl (oL a b pm ctv))/\H a=some (pinO a oc0)/\oc0.data = .cell (some (.ref g))/\H b=some (pinO b oc')/\oc'.data = .fields vsc/\vsc[1]?=some (.str qL tq)
theorem AQ.same {H H':Hp}{fl e g:Addr}(h:AQ H fl e g)(s:aF H H'):AQ H' fl e g:=by obtain⟨r,i,d,b,c,a,f,q,o,m,l,j⟩:=h;exact⟨r,i,d,b,c,a,f,s _ _ q,s _ _ o,m,s _ _ l,j⟩
mutual
theorem aX.del1 {H:Hp}{c:Addr}{φ:Heap->Prop}(e:H c=some (.ext φ)):∀{d:D} {v:V},aX H d v->aX (L2.del1 H c) d v
 | .non,v,h | .bl _,v,h | .int _,v,h | .str _,v,h=>h
 | .tup ds,v,⟨a,vs,g,b,f⟩=>⟨a,vs,g,by rw[bW (λz=>by rw[z,e]at b;cases b)];exact b,Reps.del1 e f⟩
 | .lst ds,v,⟨a,vs,g,b,f⟩=>⟨a,vs,g,by rw[bW (λz=>by rw[z,e]at b;cases b)];exact b,Reps.del1 e f⟩
theorem Reps.del1 {H:Hp}{c:Addr}{φ:Heap->Prop}(e:H c=some (.ext φ)):∀{ds:List D} {vs:List V},Reps H ds vs->Reps (L2.del1 H c) ds vs
 | [],vs,h=>h
 | d::ds,vs,⟨v,r,f,b,a⟩=>⟨v,r,f,aX.del1 e b,Reps.del1 e a⟩
end
theorem eP.del1 {K:PySem.W.Frag}{C:Addr}{j:cG}{sm:bG}{H:Hp}{g c:Addr}{φ:Heap->Prop}(e:H c=some (.ext φ))(h:eP K C j sm H g):eP K C j sm (L2.del1 H c) g:=by obtain⟨a,b,n,r,fs,u,s,i,q,o,m,l,f,d⟩:=h;exact⟨a,b,n,r,fs,u,s,by rw[bW (λz=>by rw[z,e]at i;cases i)];exact i,q,o,m,l,by rw[bW (λz=>by rw[z,e]at f;cases f)];exact f,by rw[bW (λz=>by rw[z,e]at d;cases d)];exact d⟩
def tLam (K:PySem.W.Frag)(C:Addr)(i:Nat)(t:TA):TE:=λσ H Q=>∃fl,σ[i]?=some (some (.ref fl))/\t σ H λvs b=>∃(d g:Addr) (fx:cG) (sm:bG) (n:Str) (a:Addr) (ds:List D) (ws:List V),vs=[.str n,.ref a]/\AQ b fl d g /\
 eP K C fx sm b g/\b a=some (.lst ws)/\Reps b ds ws/\Fls ds/\szs ds<=60/\ndss ds<=1000/\depDs ds<=50/\∀(c:V) (H':Hp),aF b H'->aX H' (knot sm n ds) c->Q c H'
theorem BL {X:Cx}{C:Addr}{k i:Nat}{E m:Expr}{t:TA}{p d:Pos}(hN:X.N[i]?=some ("whole" : Str))(hv:Q6 X.env.scope "whole")(O:dM X.prog X.w X.K X.mg X.base bH k "flat_of_parts" (hX X.K C))(hr:dW (k+1) X.A)(ha:PA X [E,m] t)
  (he:starEach [E,m] X.env=(false,eval E X.env)::starEach [m] X.env:=by rfl) (J:(backTo d (starEach [m] X.env)).any (·.1)=false:=by rfl):PE X (.Call (.Name "whole" p) [E,m] [] d) (tLam X.K C i t):=by
 intro j s σ H Q I h;obtain⟨fl,L,h⟩:=h;have pw:PE X (.Name "whole" p) (tVar i):=BI hN hv;refine wpAny_Call_Name_kw (thn (pw j s σ H (λx H'=>x = .ref fl/\H'=H) I ⟨_,L,rfl,rfl⟩) λf s0 ⟨x,H0,I0,rx,e3,e4⟩=>?_);subst e3 e4;cases rx;have c:=ha d j s0 σ H0 _ I0 h;rw[he]at c⊢;refine PySem.W.callWith_of (P:=λh=>∃o fd,h.get? fl=some o/\o.data = .func fd) (by show((false || (backTo d (starEach [m] X.env)).any (·.1)) || false)=false;rw[J];rfl) (λh ⟨o,fd,z1,z2⟩=>⟨.frame,.inl rfl,?_⟩) (Calls.evalArgs_plain (thn c λus s1 ⟨vs,H1,Y,rv,q⟩=>?_))
 ·intro A' Q' E' s' kp q;unfold keeperOf;refine aa (wpAny_load (kp _ _ z1) ?_);rw[z2];exact al q
 ·obtain⟨c0,g,fx,sm,n,a,ds,ws,rfl,la,sg,R,rd,S,G,l,U,q⟩:=q;obtain⟨c',pm,ctv,oc0,oc',vsc,tq,Z,v,l3,l4,l5,l6⟩:=la;obtain⟨u1,u2,rfl,r1,r2⟩:=aT.two rv;refine⟨⟨_,_,gE Y.hok Z,rfl⟩,?_⟩;refine wpAny_call (codeAny_mono (NE (Q:=Q) hr Y.env0 Z v l3 l4 l5 l6 O r1 r2 ⟨g,fx,sm,n,a,ds,ws,rfl,sg.del1 v,by rw[bW (λz=>by rw[z,v]at R;cases R)];exact R,Reps.del1 v rd,S,G,l,U,λv' H' F rp nn=>q v' _ (λb o e=>?_) (aX.same (aF.upd nn) rp)⟩) λr s' B=>?_)
  ·by_cases z:b=c0
   ·subst z;rw[v]at e;cases e;exact upd_same
   ·rw[aC z];exact F b o (by rw[bW z];exact e)
  ·cases r with
   | error e=>exact B.elim
   | ok T =>
    cases T with
    | ret u=>exact Y.after B
    | next=>exact B.elim
    | brk=>exact B.elim
    | cont=>exact B.elim
end Lw
namespace Lw
open PySem L2
section
variable {P:Program}{w:World}{K:PySem.W.Frag}{mg:gX}{base:Heap}
noncomputable def pts:D->List D
 | .tup (.str _::ds)=>ds
 | .lst (.str _::ds)=>ds
 | _=>[]
noncomputable def stk:List D->List D
 | []=>[]
 | x::S=>x::(stk S).drop (pts x).length
mutual
theorem vW:∀{d:D},Wk d->∀S:List D,stk (wlk d++S)=d::stk S
 | .str x,_,S=>by unfold wlk;show stk (.str x::S)=_;rw[stk];rfl
 | .tup (.str n::ds),h,S=>by
  unfold Wk at h;rw[wlk,List.cons_append,stk,kI h S];show _::(ds++stk S).drop ds.length=_;rw[List.drop_left]
 | .lst (.str n::ds),h,S=>by
  unfold Wk at h;rw[wlk,List.cons_append,stk,kI h S];show _::(ds++stk S).drop ds.length=_;rw[List.drop_left]
 | .non,h,_ | .bl _,h,_ | .int _,h,_ | .tup [],h,_ | .lst [],h,_ | .tup (.non::_),h,_ | .tup (.bl _::_),h,_ | .tup (.int _::_),h,_ | .tup (.tup _::_),h,_ | .tup (.lst _::_),h,_ | .lst (.non::_),h,_ | .lst (.bl _::_),h,_ | .lst (.int _::_),h,_ | .lst (.tup _::_),h,_ | .lst (.lst _::_),h,_=>by unfold Wk at h;exact absurd h id
theorem kI:∀{ds:List D},Wks ds->∀S:List D,stk (wlks ds++S)=ds++stk S
 | [],_,S=>rfl
 | d::ds,⟨a,b⟩,S=>by rw[wlks,cg,vW a,kI b];rfl
end
mutual
theorem oS:∀{d:D},Wk d->∀{pre S:List D} {x:D},wlk d=pre++x::S->∃rest,S=wlks (pts x)++rest
 | .str y,_,pre,S,x,e=>by
  unfold wlk at e;cases pre with
  | nil=>cases e;exact⟨[],rfl⟩
  | cons p pre=>have:=congrArg List.length e;simp at this
 | .tup (.str n::ds),h,pre,S,x,e=>by
  unfold Wk at h;rw[wlk]at e;cases pre with
  | nil=>cases e;exact⟨[],by simp[pts]⟩
  | cons p pre=>injection e with _ e;exact jO h e
 | .lst (.str n::ds),h,pre,S,x,e=>by
  unfold Wk at h;rw[wlk]at e;cases pre with
  | nil=>cases e;exact⟨[],by simp[pts]⟩
  | cons p pre=>injection e with _ e;exact jO h e
 | .non,h,_,_,_,_ | .bl _,h,_,_,_,_ | .int _,h,_,_,_,_ | .tup [],h,_,_,_,_ | .lst [],h,_,_,_,_ | .tup (.non::_),h,_,_,_,_ | .tup (.bl _::_),h,_,_,_,_ | .tup (.int _::_),h,_,_,_,_ | .tup (.tup _::_),h,_,_,_,_ | .tup (.lst _::_),h,_,_,_,_ | .lst (.non::_),h,_,_,_,_ | .lst (.bl _::_),h,_,_,_,_ | .lst (.int _::_),h,_,_,_,_ | .lst (.tup _::_),h,_,_,_,_ | .lst (.lst _::_),h,_,_,_,_=>by unfold Wk at h;exact absurd h id
theorem jO:∀{ds:List D},Wks ds->∀{pre S:List D} {x:D},wlks ds=pre++x::S->∃rest,S=wlks (pts x)++rest
 | [],_,pre,S,x,e=>by have:=congrArg List.length e;simp[wlks]at this
 | d::ds,⟨a,b⟩,pre,S,x,e=>by
  rw[wlks]at e;rcases List.append_eq_append_iff.mp e with⟨m,f,c⟩|⟨m,f,c⟩
  ·exact jO b c
  ·cases m with
   | nil=>exact jO b (pre:=[]) (by simpa using c.symm)
   | cons y m =>
    injection c with i h;subst i;obtain⟨rest,g⟩:=oS a f;exact⟨rest++wlks ds,by rw[h,g];show(wlks (pts x)++rest)++wlks ds=_;rw[cg]⟩
end
theorem vX:∀{S:List D} {y:D},y∈stk S->y∈S
 | x::S,y,h=>by
  rw[stk]at h;obtain rfl|h:=cm.mp h
  ·exact av
  ·exact ay _ (vX (List.mem_of_mem_drop h))
theorem vY:∀S:List D,(stk S).length<=S.length
 | []=>ae _
 | x::S=>by rw[stk,ap,ap,bq];have:=vY S;omega
theorem lR {l:List D}(h:Fls l):Fls l.reverse:=iZ λd hd=>dS h d (List.mem_reverse.mp hd)
theorem oC {l:List D}(h:Fls l)(k:Nat):Fls (l.drop k):=iZ λd hd=>dS h d (List.mem_of_mem_drop hd)
theorem zO {l:List D}(h:Fls l)(k:Nat):Fls (l.take k):=iZ λd hd=>dS h d (List.mem_of_mem_take hd)
theorem G3 (sm:bG)(l:List D)(k:Nat):flts sm (l.drop k)=(flts sm l).drop k:=by rw[dP,dP,List.map_drop]
structure Sub (d x:D):Prop where
 tm:Tm x
 sz:sz x<=sz d
 nd:nds x<=nds d
 dp:depD x<=depD d
mutual
theorem nE:∀{d:D},Tm d->∀x∈wlk d,Sub d x
 | .str y,h,x,f=>by unfold wlk at f;rw[ck.mp f];exact⟨h,ae _,ae _,ae _⟩
 | .tup (.str n::ds),h,x,f=>by
  rw[wlk]at f;obtain rfl|f:=cm.mp f
  ·exact⟨h,ae _,ae _,ae _⟩
  ·unfold Tm at h;obtain⟨a,b,c,e⟩:=rL h.2 x f;exact⟨a,by rw[sz];omega,by rw[nds];omega,by rw[depD,depDs];omega⟩
 | .lst (.str n::ds),h,x,f=>by
  rw[wlk]at f;obtain rfl|f:=cm.mp f
  ·exact⟨h,ae _,ae _,ae _⟩
  ·unfold Tm at h;obtain⟨a,b,c,e⟩:=rL h.2 x f;exact⟨a,by rw[sz];omega,by rw[nds];omega,by rw[depD,depDs];omega⟩
 | .non,h,_,_ | .bl _,h,_,_ | .int _,h,_,_ | .tup [],h,_,_ | .lst [],h,_,_ | .tup (.non::_),h,_,_ | .tup (.bl _::_),h,_,_ | .tup (.int _::_),h,_,_ | .tup (.tup _::_),h,_,_ | .tup (.lst _::_),h,_,_ | .lst (.non::_),h,_,_ | .lst (.bl _::_),h,_,_ | .lst (.int _::_),h,_,_ | .lst (.tup _::_),h,_,_ | .lst (.lst _::_),h,_,_=>by unfold Tm at h;exact absurd h id
theorem rL:∀{ds:List D},Tms ds->∀x∈wlks ds,Tm x/\sz x<=szs ds/\nds x<=ndss ds/\depD x<=depDs ds
 | d::ds,⟨a,b⟩,x,c=>by
  rw[wlks]at c;obtain c|c:=cp.mp c
  ·obtain⟨e,h,g,f⟩:=nE a x c;exact⟨e,by rw[szs];omega,by rw[ndss];omega,by rw[depDs];omega⟩
  ·obtain⟨e,h,g,f⟩:=rL b x c;exact⟨e,by rw[szs];omega,by rw[ndss];omega,by rw[depDs];omega⟩
end
mutual
theorem mL:∀{d:D},Tm d->Wk d
 | .str x,h=>trivial
 | .tup (.str n::ds),h=>by unfold Wk;unfold Tm at h;exact kG h.2
 | .lst (.str n::ds),h=>by unfold Wk;unfold Tm at h;exact kG h.2
 | .non,h | .bl _,h | .int _,h | .tup [],h | .lst [],h | .tup (.non::_),h | .tup (.bl _::_),h | .tup (.int _::_),h | .tup (.tup _::_),h | .tup (.lst _::_),h | .lst (.non::_),h | .lst (.bl _::_),h | .lst (.int _::_),h | .lst (.tup _::_),h | .lst (.lst _::_),h=>by unfold Tm at h;exact absurd h id
theorem kG:∀{ds:List D},Tms ds->Wks ds
 | [],_=>trivial
 | _::_,⟨a,b⟩=>⟨mL a,kG b⟩
end
theorem MR (n z:Str)(l:List D):nds (one n z l)<=1+ndss l:=by
 unfold one;split
 ·show nds (.str z)<=_;unfold nds;omega
 ·rw[ndss,ndss];omega
 ·rw[nds];omega
theorem GL {l m:List D}(p:l.Perm m):ndss l=ndss m:=by
 induction p with
 | nil=>rfl
 | cons x _ c=>rw[ndss,ndss,c]
 | swap x y l=>rw[ndss,ndss,ndss,ndss];omega
 | trans _ _ a b=>exact a.trans b
theorem zD (sm:bG)(n:Str)(ps:List D):nds (knot sm n ps)<=1+ndss ps:=by
 unfold knot;split
 ·rw[nds];omega
 ·rename_i z _;have a:=MR n z (eM (opn n z ps));rw[GL (bU _)]at a;have b:=wM n z ps;omega
mutual
theorem EO (sm:bG):∀d:D,nds (flt sm d)<=nds d
 | .tup (.str n::ds)=>by rw[flt,nds];have:=zD sm n (flts sm ds);have:=oA sm ds;omega
 | .lst (.str n::ds)=>by rw[flt,nds];have:=zD sm n (flts sm ds);have:=oA sm ds;omega
 | .non | .bl _ | .int _ | .str _ | .tup [] | .lst [] | .tup (.non::_) | .tup (.bl _::_) | .tup (.int _::_) | .tup (.tup _::_) | .tup (.lst _::_) | .lst (.non::_) | .lst (.bl _::_) | .lst (.int _::_) | .lst (.tup _::_) | .lst (.lst _::_)=>by unfold flt;exact ae _
theorem oA (sm:bG):∀ds:List D,ndss (flts sm ds)<=ndss ds
 | []=>ae _
 | d::ds=>by rw[flts,ndss,ndss];have:=EO sm d;have:=oA sm ds;omega
end
theorem NN (sm:bG){n:Str}{ds:List D}{x:D}(h:x = .tup (.str n::ds)∨x = .lst (.str n::ds)):flt sm x=knot sm n (flts sm ds)/\pts x=ds:=by rcases h with rfl|rfl <;> exact⟨by rw[flt],rfl⟩
def spFW (K:PySem.W.Frag)(C:Addr):Sp:=λvs H Q _=>∃(b fl c g:Addr) (fx:cG) (sm:bG) (d:D) (v:V),vs=[v,.ref b,.ref fl]/\H b=some (.dK [])/\AQ H fl c g/\eP K C fx sm H g/\aX H d v/\Tm d/\(∀r∈sm,r.2=("" : Str)∨Fl (.str r.2))/\sz d<=60/\nds d<=1000/\depD d<=50 /\
 ∀(a:V) (H':Hp),aF H H'->aX H' (flt sm d) a->Q a H'
def TH (v:V)(c fl m l:Addr)(sm:bG)(W:List D)(b:List V)(H:Hp)(i:Nat)(σ:St)(a:Hp):Prop:=∃(us:List V) (o4 o5:Option V),σ=[some v,some (.ref c),some (.ref fl),some (.ref m),o4,o5]/\a m=some (.lst us)/\aF H a/\a l=some (.lst b)/\Reps a (flts sm (stk (W.drop (W.length - i)))).reverse us
def TJ (m l p:Addr)(c:List V)(o:HO)(fs:List D)(H:Hp)(j:Nat)(b:List V)(σ:St)(a:Hp):Prop:=∃(us:List V) (o0:Option V),σ=[o0,some (.ref m)]/\a m=some (.lst us)/\aF H a/\a l=some (.lst c)/\a p=some o/\Reps a (fs.drop j).reverse us/\Reps a (fs.take j) b
theorem RE {f C:Addr}{fd:FuncData}(F:fJ K "from_within" "from_within" dI f fd)(T:Txt mg)(L:dM P w K mg base bH 1 "walked" jB)(c:dM P w K mg base bH 6 "flat_of_parts" (hX K C)):bN P w K mg base bH 8 f fd i3 (spFW K C):=by
 refine F.ok cL (λvs H Q E h=>?_) (λcdv A outer s H vs Q E hr h=>?_)
 ·obtain⟨fi,fl,c0,g,fx,sm,d,v,rfl,_⟩:=h;rfl
 ·obtain⟨fi,fl,c0,g,fx,sm,d,v,rfl,W,la,sg,rep,tm,hz,s60,B,d50,q⟩:=h;have hu:=hr.units
  refine⟨_,(aD (aZ (i:=3) cL.nd rfl (Or.inr rfl) (cM aB))
   (aD (fE de rfl (nU K rfl rfl T.n_reversed (aA (aM L (hr.mono (by decide)) pass0 rfl (aA (pv 0) aB)) aB)) (bA (i:=4) cL.nd rfl (Or.inl rfl)) (aG (bK (aP K rfl (aL aK rfl T.n_isinstance rfl (aA (pv 4) (aA (bJ (v:=V.ty "str") rfl T.n_str rfl rfl) aB))) (λ_=>rfl)) (aG (cB (gM da dc db eT (pv 3) (aA (yO (ak (bv (by decide) _) hu) (pv 1) (pv 4) (pv 4) ⟨rfl,rfl,rfl,rfl⟩) aB)))) (aD (iS (i:=5) cL.nd rfl rfl rfl rfl (bD.by (N:=eA) (names:=(aH dI).names) (N':=["part","made"]) (src:=[none,some 3]) (by decide +kernel) rfl rfl) (cE K rfl (eK kM (pv 4) (cP aJ) dG)) (λ_ _ _ _=>(bA (i:=0) (show List.Nodup (["part","made"]:aN)by decide +kernel) rfl (Or.inl rfl))) (λ_ _ _ _=>dF) (λ_ _ _ _=>(DY K rfl da PySem.F.slot_list_pop PySem.F.type_list_pop pD (pv 1))))
   (aG (cB (gM da dc db eT (pv 3) (aA (BL (i:=2) rfl (Or.inl rfl) c (hr.mono (by decide)) (aA (bM cX (pv 4) aJ (λ_ _=>rfl)) (aA (pv 5) aB))) aB))))))))
   (aG (aO (bM cX (pv 3) aJ (λ_ _=>rfl)))))),?_⟩
  simp only[eA];clear hr F T hu L c;have keep:=aI q (aI W (aI la (aI sg (aI rep (aI tm (aI hz (aI s60 (aI B d50))))))));clear q W la sg rep tm hz s60 B d50
  walk_at "rd"
  obtain⟨q,W,la,sg,rep,tm,hz,s60,B,d50⟩:=keep;refine⟨au _,λm hm=>?_⟩;have s1:aF H (upd H m (.lst [])):=aF.upd hm;have hm1:upd H m (.lst []) m=some (.lst []):=upd_same;generalize upd H m (.lst [])=H1 at s1 hm1⊢;refine⟨_,rfl,d,v,H,rfl,s1,rep,mL tm,B,λl ws H2 s2 hl h2 rws=>⟨l,ws,rfl,h2,?_⟩⟩;have lw:=Reps.len rws;have lk:=lG d;have hml:m≠l:=λz=>by rw[z,hl]at hm1;cases hm1
  refine zN ws (TH v fi fl m l sm (wlk d) ws H) ⟨[],none,none,rfl,s2 _ _ hm1,s1.trans s2,h2,by rw[Nat.sub_zero,List.drop_length];rfl⟩ (λi σ H3 _ ⟨_,_,_,_,_,_,h,_⟩=>h) ?_ ?_
  ·rintro i x σ H3 hi hx ⟨us,o4,o5,rfl,h3,s3,Y,ru⟩;obtain⟨e,he,rx⟩:=Reps.get rws hx;rw[lw]at hi he;have hlt:(wlk d).length - 1 - i<(wlk d).length:=by omega
   have G:(wlk d).drop ((wlk d).length - (i+1))=e::(wlk d).drop ((wlk d).length - i):=by have e1:(wlk d)[(wlk d).length - 1 - i]=e:=(cj.mp he).2;rw[show(wlk d).length - (i+1)=(wlk d).length - 1 - i by omega,List.drop_eq_getElem_cons hlt,e1,show(wlk d).length - 1 - i+1=(wlk d).length - i by omega]
   have R:wlk d=(wlk d).take ((wlk d).length - (i+1))++e::(wlk d).drop ((wlk d).length - i):=by rw[←G,List.take_append_drop]
   obtain⟨rest,I⟩:=oS (mL tm) R;have sub:=nE tm e (bf he);have inS:∀y∈(wlk d).drop ((wlk d).length - i),y∈wlk d:=λy hy=>List.mem_of_mem_drop hy;have lS:((wlk d).drop ((wlk d).length - i)).length<=1000:=by rw[bq];omega
   generalize (wlk d).drop ((wlk d).length - i)=S at G R I inS lS ru;have X:Fls (flts sm (stk S)):=iZ λy hy=>by rw[dP]at hy;obtain⟨z,hz1,rfl⟩:=cr.mp hy;exact(pI hz (nE tm z (inS z (vX hz1))).tm).1
   have lu:=Reps.len ru;rw[List.length_reverse,dP,af]at lu;have ls:(stk S).length<=1000:=ao (vY S) lS;have keep:=aI q (aI W (aI la (aI sg (aI tm (aI hz (aI s60 (aI B (aI d50 (aI hm (aI Y (aI h3 (aI s3 (aI ru (aI rx (aI sub (aI G (aI I (aI X (aI lu (aI ls (aI hml he)))))))))))))))))))));clear q W la sg rep tm hz s60 B d50 hm Y h3 s3 ru rx sub G I X lu ls hml he s1 hm1 s2 hl h2 rws lw lk hx hi hlt R inS lS
   walk_at "rd"
   obtain⟨q,W,la,sg,tm,hz,s60,B,d50,hm,Y,h3,s3,ru,rx,sub,G,I,X,lu,ls,hml,he⟩:=keep;rcases DH sub.tm with⟨y,rfl,_⟩|⟨n,ds,hd,dne,tms⟩
   ·cases (show x = .str y from rx);refine⟨true,rfl,?_⟩;rw[aj rfl];refine⟨tyL h3,_,rfl,fi,rfl,.inl ⟨_,.inl (s3 _ _ W)⟩,_,rfl,_,rfl,_,oQ.k (k:=.inr y) (s3 _ _ W),us,h3,ak (m:=1000) (by omega) (by decide),us++[.str y],_,_,rfl,upd_same,λb o hb=>by rw[aC (aE hb hm)];exact s3 _ _ hb,by rw[aC hml.symm];exact Y,?_⟩;rw[G,stk];show Reps _ (flts sm (.str y::(stk S).drop 0)).reverse _;rw[List.drop_zero,flts,List.reverse_cons];exact Reps.snoc (by unfold flt;rfl) (Reps.tups (bE.lst h3) (lR X) ru)
   ·obtain⟨va,O,rfl,hbb,hseq,lv⟩:∃va O,x = .ref va/\isV H3 (.ref va) (.ty "str")=some false/\eV H va (.str n::O)/\O.length=ds.length:=by
     rcases hd with rfl|rfl
     ·obtain⟨a,vs,rfl,ha,_,O,rfl,e1,r⟩:=rx;cases e1;exact⟨a,O,rfl,fX (s3 _ _ ha),.inr ha,Reps.len r⟩
     ·obtain⟨a,vs,rfl,ha,_,O,rfl,e1,r⟩:=rx;cases e1;exact⟨a,O,rfl,iE (s3 _ _ ha),.inl ha,Reps.len r⟩
    obtain⟨hfe,hpe⟩:=NN sm hd;rw[hpe]at I;have wds:Wks ds:=kG tms;have hst:stk S=ds++stk rest:=by rw[I,kI wds]
    have hfs:flts sm (stk S)=flts sm ds++flts sm (stk rest):=by rw[hst,dP,ax,←dP,←dP]
    have lds:(flts sm ds).length=ds.length:=by rw[dP,af]
    have lfs:(flts sm (stk S)).length<=1000:=by rw[dP,af];exact ls
    refine⟨false,hbb,?_⟩;rw[ac (by decide)];refine⟨va,rfl,_,hseq.same s3,λ_ h=>by have:=h.1;simp[HT.sIx]at this,λp o hp ho=>?_⟩;rw[j6]at ho;refine⟨O,by rcases ho with⟨rfl,_⟩|⟨rfl,_⟩;exact .inl upd_same;exact .inr upd_same,λJ hJ=>?_⟩;have sp:aF H3 (upd H3 p o):=aF.upd hp;have hpo:upd H3 p o p=some o:=upd_same;have hmp:m≠p:=aE h3 hp;have hlp:l≠p:=aE Y hp;generalize upd H3 p o=H4 at sp hpo hJ⊢;refine cN hJ (TJ m l p ws o (flts sm (stk S)) H) ⟨us,none,rfl,sp _ _ h3,s3.trans sp,sp _ _ Y,hpo,by rw[List.drop_zero];exact Reps.same sp ru,rfl⟩ (λj Z σ H' _ ⟨_,_,_,_,_,_,h,_⟩=>by rw[h,hpo]) ?_ ?_
    ·rintro j y Z σ H5 hy ⟨us5,o0,rfl,h5,s5,hl5,hp5,r5,U⟩;have hj:j<ds.length:=by have:=(cj.mp hy).1;omega
     have hj2:j<(flts sm (stk S)).length:=by rw[hfs,aq];omega
     rw[List.drop_eq_getElem_cons hj2,List.reverse_cons]at r5;obtain⟨us6,u,rfl,r6,ru6⟩:=fG r5;have la':=Reps.len U;rw[bo]at la';have fu:Fl (flts sm (stk S))[j]:=dS X _ (List.getElem_mem hj2);refine⟨_,rfl,tyL h5,m,_,u,rfl,rfl,h5,by simp,ak (m:=1000) (by omega) (by decide),?_⟩;rw[List.dropLast_concat];have tt:bE H5 (upd H5 m (.lst us6)):=bE.lst h5;refine⟨us6,_,rfl,upd_same,λb o hb=>by rw[aC (aE hb hm)];exact s5 _ _ hb,by rw[aC hml.symm];exact hl5,by rw[aC hmp.symm];exact hp5,Reps.tups tt (lR (oC X (j+1))) r6,?_⟩;rw[aY (aw hj2)];exact Reps.snoc (aX.tups tt fu ru6) (Reps.tups tt (zO X j) U)
    ·rintro Z σ H5 ⟨us5,o0,rfl,h5,s5,hl5,hp5,r5,U⟩ p6 hp6;have e1:(flts sm (stk S)).take O.length=flts sm ds:=by rw[hfs,lv,←lds,List.take_left]
     rw[e1]at U;have s6:aF H5 (upd H5 p6 (.lst Z)):=aF.upd hp6;have h66:upd H5 p6 (.lst Z) p6=some (.lst Z):=upd_same;have hmp6:m≠p6:=aE h5 hp6;generalize upd H5 p6 (.lst Z)=H6 at s6 h66⊢;have sH6:=s5.trans s6;have ix0:ixV H6 (.ref va) (.int 0)=some (.str n):=by
      rcases hseq.same sH6 with e|e
      ·rw[ixV_l e,atI_zero]
      ·rw[ixV_t e,atI_zero]
     have hsz:sz e=max 1 (szs ds):=by rcases hd with rfl|rfl <;> rw[sz]
     have hnd:nds e=1+ndss ds:=by rcases hd with rfl|rfl <;> rw[nds]
     have hdp:depD e=depDs ds+1:=by
      rcases hd with rfl|rfl
      ·rw[depD,depDs,show depD (.str n)=0 from rfl];omega
      ·rw[depD,depDs,show depD (.str n)=0 from rfl];omega
     have b1:=q9 sm ds;have b2:=oA sm ds;have b3:=oB sm ds;have c1:=sub.sz;have c2:=sub.nd;have c3:=sub.dp;refine⟨tyL (s6 _ _ h5),fl,rfl,_,rfl,.str n,ix0,_,rfl,c0,g,fx,sm,n,p6,flts sm ds,Z,rfl,la.same sH6,sg.same sH6,h66,Reps.same s6 U,NM hz tms,by omega,by omega,by omega,λv' H7 s7 r7=>?_⟩;have h7:=s7 _ _ (s6 _ _ h5);have l5:=Reps.len r5;rw[List.length_reverse,bq]at l5;refine⟨us5,h7,ak (m:=1000) (by omega) (by decide),us5++[v'],_,_,rfl,upd_same,λb o hb=>by rw[aC (aE hb hm)];exact s7 _ _ (sH6 _ _ hb),by rw[aC hml.symm];exact s7 _ _ (s6 _ _ hl5),?_⟩;have tt:bE H7 (upd H7 m (.lst (us5++[v']))):=bE.lst h7;rw[G,stk,flts,List.reverse_cons,hpe,G3,hfe];rw[lv]at r5;have fe:=(pI hz sub.tm).1;rw[hfe]at fe;exact Reps.snoc (aX.tups tt fe r7) (Reps.tups tt (lR (oC X ds.length)) (Reps.same (s6.trans s7) r5))
  ·rintro σ H3 ⟨us,o4,o5,rfl,h3,s3,Y,ru⟩;rw[lw,Nat.sub_self,List.drop_zero]at ru;have e:=vW (mL tm) [];rw[bh]at e;rw[e]at ru;obtain⟨u,r,rfl,r1,r2⟩:=ru;cases (show r=[]from r2);exact⟨_,rfl,u,by rw[ixV_l h3,atI_zero],q u H3 s3 r1⟩
end
end Lw
namespace L2
open PySem PySem.Spec PyProof.Rows PySem.W
theorem aQ.grow {X:Cx}{a:cZ}{σ:L2.St}{H:Hp}{s:Shared}{P:Addr}{ps more:i8}{h':Heap}{t':Nat}(I:aQ X a σ H s)(i:H P=some (.tbl ps))(f:Heap.ExtBut P s.heap h')(l:h'.get? P=some (tabObj (ps++more))):aQ X a σ (upd H P (.tbl (ps++more))) {s with heap:=h',toks:=t'}:=by
 have g:∀b,H b=none->b≠P:=λb e z=>by rw[z,i]at e;cases e
 have d:∀b u,H b=some u->(∀j,u≠.tbl j)->b≠P:=λb u e z w=>by rw[w,i]at e;cases e;exact z _ rfl
 refine I.un ⟨λb o e n _ _=>f b o (g b n) e,λb o e n _ _=>⟨o.slots,f b o (g b n) e⟩,λb o e n _=>by rw[aC (g b n)];exact n,λb o e _=>?_,λb xs e=>?_,λb o u e=>?_,λb j e=>?_⟩ (λb u e=>?_)
 ·by_cases z:b=P
  ·subst z;exact⟨_,l⟩
  ·exact⟨o,f b o z e⟩
 ·rw[aC (d b _ e λ_=>by simp)];exact e
 ·rw[aC (d b _ e λ_=>by simp)];exact e
 ·by_cases z:b=P
  ·subst z;rw[i]at e;cases e;exact⟨more,upd_same⟩
  ·exact⟨#[],by rw[aC z,e];simp⟩
 ·by_cases z:b=P
  ·subst z;rw[upd_same]at e;cases e;exact l
  ·rw[aC z]at e;refine(I.hok b u e).stay (λc o h q=>f c o ?_ q) (λc q=>by rw[aC (d c _ q λ_=>by simp)];exact q) (λc xs q=>by rw[aC (d c _ q λ_=>by simp)];exact q);rcases h with rfl|h
   ·exact z
   ·exact d c _ h λ_=>by simp
end L2
namespace Lw
open PySem PySem.Spec PyProof.Rows PySem.W L2
noncomputable def KC (e:Expr):Pos:=match e with
 | .Lambda _ _ _ p=>p
 | _=>⟨0,0,0,0⟩
noncomputable abbrev xL:Pos:=KC (lamOf cT)
def LT (P:Addr)(H:Hp):Prop:=H P=some (.tbl #[])∨∃(a:Addr) (oc':Obj) (vsc:i8) (tq:Tok),H P=some (.tbl #[rawInt xL.line,rawInt xL.col,.ref a])/\H a=some (pinO a oc')/\oc'.data = .fields vsc/\vsc[1]?=some (.str qL tq)
theorem LT.same {P:Addr}{H H':Hp}(h:LT P H)(s:aF H H'):LT P H':=by
 rcases h with h|⟨g,b,a,c,f,e,d⟩
 ·exact .inl (s _ _ h)
 ·exact .inr ⟨g,b,a,c,s _ _ f,s _ _ e,d⟩
def Bm (mg:gX)(base:Heap):Prop:=∃bm o,mg "__builtins__" = some (.ref bm)/\bm≠builtinsNs/\bm≠mainGlobals/\base.get? bm=some o/\o.cls = .type "module"/\o.dict=some builtinsNs/\o.data = .plain
def O2 (P a:Addr):TE:=λσ H Q=>LT P H/\∀(fl b:Addr) (pm ctv:Value) (oc':Obj) (vsc:i8) (tq:Tok) (H':Hp),eE P H H'->LT P H'->H' fl=some (pinO fl (oL a b pm ctv))->H' b=some (pinO b oc')->oc'.data = .fields vsc->vsc[1]?=some (.str qL tq)->H a=none->H' a=none->Q (.ref fl) H'
theorem JB {X:Cx}{c P i:Addr}(B:closureFor scL X.env=pure [(("signs" : Str),i)])(g:X.env.cells.lookup ("signs" : Str)=some i)(l:X.env.code = .ref c)(hq:X.env.qual++"<lambda>" = qL)(hC:∀h,X.K.In h->CodeHd h c P)(hB:Bm X.mg X.base):PE X (.Lambda pL bL scL xL) (O2 P i):=by
 intro r s σ H Q I h;obtain⟨lt,q⟩:=h;have hg:s.heap.Ns mainGlobals X.mg:=I.mod.glob.keeps I.bk;have R:∃ps,H P=some (.tbl ps):=by
  rcases lt with h|⟨_,_,_,_,h,_⟩
  ·exact⟨_,h⟩
  ·exact⟨_,h⟩
 obtain⟨ps,v⟩:=R;have F:s.heap.get? P=some (tabObj ps):=I.hok P _ v;have E:∀b o,X.base.get? b=some o->b≠P:=λb o e z=>by have:=(I.bs b o e).2;rw[z,v]at this;cases this
 have O:mainGlobals≠P:=by obtain⟨o,es,ep,e,_⟩:=I.mod.glob;exact E _ _ e
 have hb:s.heap.BuiltinsAt X.mg P:=by obtain⟨bm,o,b1,b2,b3,b4,b5,b6,b7⟩:=hB;exact⟨bm,o,b1,b2,b3,E _ _ b4,I.bk _ _ b4,b5,b6,b7⟩
 have n0:=I.freeC _ _ g;refine kla_eval rfl ?_;rw[hq];rcases lt with lt|⟨a,f,j,w,lt,l2,l3,l4⟩
 ·rw[v]at lt;cases lt;refine kla_makeFunction B I.ok.glob hg l (hC _ I.kIn) F trivial rfl O hb λa d h' tk hx m A x L=>?_;obtain⟨c2,f,j,w,e2,N,hd,hv⟩:=x;cases e2;have I1:aQ X r σ (upd H P (.tbl (#[] ++ #[rawInt xL.line,rawInt xL.col,.ref a]))) {s with heap:=h',toks:=tk}:=I.grow v hx L;have nP:P≠a:=λz=>by have:=az F;rw[z]at this;exact bx _ (ba this m)
  have nc':H a=none:=I.hok.fresh m;have fc:=I.fpOk (H':=upd H P (.tbl (#[] ++ #[rawInt xL.line,rawInt xL.col,.ref a]))) m (by rw[aC nP.symm];exact nc');have Y:=I1.adopt (o:=pinO a f) fc (mP N);have Z:s.heap.objs.size<=h'.objs.size:=ao m (Nat.le_of_lt A);have W:=Y.kept (t':=tk) λb o e=>ag (oL i a ((X.mg "__name__").getD .none) d) e;have U:=Y.fpOk (ae h'.objs.size) (Y.hok.fresh (ae _));have T:(h'.push (oL i a ((X.mg "__name__").getD .none) d)).get? h'.objs.size=some (oL i a ((X.mg "__name__").getD .none) d):=ar _ rfl;have C:=W.adopt (o:=pinO h'.objs.size (oL i a ((X.mg "__name__").getD .none) d)) U (mP T);have G:a≠h'.objs.size:=bi A;have J:P≠h'.objs.size:=λz=>by have:=az F;rw[z]at this;exact bx _ (ba this Z)
  have u:upd (upd (upd H P (.tbl (#[] ++ #[rawInt xL.line,rawInt xL.col,.ref a]))) a (pinO a f)) h'.objs.size (pinO h'.objs.size (oL i a ((X.mg "__name__").getD .none) d)) a=some (pinO a f):=by rw[aC G];exact upd_same
  have S:upd (upd (upd H P (.tbl (#[] ++ #[rawInt xL.line,rawInt xL.col,.ref a]))) a (pinO a f)) h'.objs.size (pinO h'.objs.size (oL i a ((X.mg "__name__").getD .none) d)) P=some (.tbl #[rawInt xL.line,rawInt xL.col,.ref a]):=by rw[aC J,aC nP,upd_same];rfl
  refine⟨.ref h'.objs.size,_,C,rfl,q _ a _ d f j w _ (λb o E e=>?_) (.inr ⟨a,f,j,w,S,u,hd,hv⟩) upd_same u hd hv n0 (C.freeC _ _ g)⟩;have lb:=I.hok.lt e;rw[aC (λz=>by rw[z]at lb;exact bx _ (ba lb Z)),aC (aE e nc'),aC E];exact e
 ·rw[v]at lt;cases lt;have am:codeAmong xL [rawInt xL.line,rawInt xL.col,.ref a]=some (.ref a):=by simp[codeAmong,rawInt]
  refine kla_makeFunctionHit (cv:=.ref a) B I.ok.glob hg l (hC _ I.kIn) F trivial am hb λd h' tk hk hsz=>?_;have W:aQ X r σ H {s with heap:=h'.push (oL i a ((X.mg "__name__").getD .none) d),toks:=tk}:=I.kept λb o e=>ag _ (hk b o e);have nf:=I.hok.fresh hsz;have U:=I.fpOk hsz nf;have T:(h'.push (oL i a ((X.mg "__name__").getD .none) d)).get? h'.objs.size=some (oL i a ((X.mg "__name__").getD .none) d):=ar _ rfl;have C:=W.adopt (o:=pinO h'.objs.size (oL i a ((X.mg "__name__").getD .none) d)) U (mP T);have sm:aF H (upd H h'.objs.size (pinO h'.objs.size (oL i a ((X.mg "__name__").getD .none) d))):=aF.upd nf;exact⟨.ref h'.objs.size,_,C,rfl,q _ a _ d f j w _ (λb o _ e=>sm b o e) (.inr ⟨a,f,j,w,sm _ _ v,sm _ _ l2,l3,l4⟩) upd_same (sm _ _ l2) l3 l4 n0 (C.freeC _ _ g)⟩
def tFWc (K:PySem.W.Frag)(C b:Addr)(t:TA):TE:=λσ H Q=>t σ H λvs c=>∃g,σ[0]?=some (some (.ref g))/\∀a:Obj,a.data = .cell (some (.ref g))->c b=none->spFW K C vs (upd c b (pinO b a)) (λv H'=>H' b=some (pinO b a)/\Q v (del1 H' b)) E0
theorem RC {X:Cx}{C i:Addr}{k:Nat}{e:Expr}{es:mJ}{t:TA}{p G:Pos}(O:dM X.prog X.w X.K X.mg X.base bH k "from_within" (spFW X.K C))(hr:dW k X.A)(hg:Gl X "from_within")(hN:X.N[0]?=some ("signs" : Str))(l:X.env.scope.names.lookup ("signs" : Str)=some .cell)(d:X.env.cells.lookup ("signs" : Str)=some i)(hfn:X.fn "signs" = true)(ha:PA X (e::es) t)
  (he:starEach (e::es) X.env=(false,eval e X.env)::starEach es X.env:=by rfl) (hpl:(backTo G (starEach es X.env)).any (·.1)=false:=by rfl):PE X (.Call (.Name "from_within" p) (e::es) [] G) (tFWc X.K C i t):=by
 obtain⟨f,fd,ps,F,hm,hk,hb⟩:=O;intro R s σ H Q I h;refine wpAny_Call_Name_kw (j4 I hg hm ?_ (by decide));refine PySem.W.callWith_K (h₀:=X.base) I.ok.mod.kin hk (thn (ha G R s σ H _ I h) λus P ⟨vs,H1,B,r,q⟩=>⟨B.kIn,?_⟩) he hpl;obtain⟨g,hσ,q⟩:=q;have n0:=B.freeC _ _ d;have j:=B.ok.cab _ _ hfn d;obtain⟨a,ho,hd⟩:∃a,P.heap.get? i=some a/\a.data = .cell (some (.ref g)):=by
  obtain⟨m,hns,hl⟩:=B.loc;obtain⟨u,ru,look⟩:=hl 0 _ _ hN hσ (.inr (.inl l));cases ru;rcases look with⟨z,_⟩|⟨_,c,hc,a,ho,hd⟩
  ·have z':X.env.scope.names.lookup ("signs" : Str)=some .local:=z;rw[l]at z';cases z'
  ·rw[d]at hc;cases hc;exact⟨a,ho,hd⟩
 have sp:=q a hd n0;have E:=B.env0;have nl:i≠X.env.locals:=λz=>by obtain⟨m,⟨o,es',ep,Z,e2,_⟩,_⟩:=B.loc;rw[←z,ho]at Z;cases Z;rw[hd]at e2;cases e2
 have S:∀b∈frs X.stack,b≠i:=λb hb z=>by
  rcases cm.mp (B.stkSub b hb)with w|w
  ·exact nl (z ▸ w)
  ·obtain⟨_,o,Z,_⟩:=B.ok.funs.mem w;exact bx _ (ba (az Z) (z ▸ j))
 have hl:(us++[]).length=ps.length:=by have:=F.len _ _ _ _ sp;rw[bh,←r.length];exact this
 have ne:∀b o,X.base.get? b=some o->b≠i:=λb o e z=>bx _ (ba (az (B.ok.bs b o e).1) (z ▸ j));have env:tO X.prog X.w X.K X.mg X.base X.A X.stack P (upd H1 i (pinO i a)):=⟨E.frames,E.mod,λb o e=>⟨(E.bs b o e).1,by rw[aC (ne b o e)];exact(E.bs b o e).2⟩,E.bsz,E.funs,λb z=>by rw[aC (S b z)];exact E.frf b z,E.hok.back n0 ho,E.bare⟩
 refine wpAny_call (codeAny_mono (F.run X.A X.stack P _ ⟨us,[]⟩ us vs _ E0 hr env (by have:=hb P us B.kIn hl;rw[bh]at this;exact this) r sp) λres s' T=>?_);cases res with
 | error x=>exact T.elim
 | ok fl' =>
  cases fl' with
  | ret u =>
   obtain⟨v,H',os,bare,un,hok,rv,U,qq⟩:=T;have g0:=gE hok U;have L:∀b u,H1 b=some u->b≠i:=λb u e=>aE e n0;have un2:Un (frs X.stack) [] H1 (del1 H' i) P.heap s'.heap:=by
    refine⟨λb o e n Y J=>?_,λb o e n Y J=>?_,λb o e n J=>?_,λb o e J=>un.there b o e J,λb xs e=>?_,λb o u' e=>?_,λb qs e=>?_⟩
    ·by_cases z:b=i
     ·subst z;rw[ho]at e;cases e;exact g0
     ·exact un.keep b o e (by rw[aC z];exact n) Y J
    ·exact un.slot b o e (by rw[aC (S b Y)];exact n) Y J
    ·by_cases z:b=i
     ·subst z;exact fI
     ·exact dC (un.free b o e (by rw[aC z];exact n) J)
    ·rw[bW (L b _ e)];exact un.tups b xs (by rw[aC (L b _ e)];exact e)
    ·rw[bW (L b _ e)];exact un.frzs b o u' (by rw[aC (L b _ e)];exact e)
    ·rw[bW (L b _ e)];exact un.tbls b qs (by rw[aC (L b _ e)];exact e)
   exact⟨v,_,B.call' (ch:=[]) os un2 (hok.del U) bare (λb z=>absurd z (by simp)),rv,qq⟩
  | next=>exact T.elim
  | brk=>exact T.elim
  | cont=>exact T.elim
end Lw
namespace Lw
open PySem L2
section
variable {P:Program}{w:World}{K:PySem.W.Frag}{mg:gX}{base:Heap}
theorem EN {x a:Str}{st:Stmt}{f:Addr}{m:Value}{od l:Option Addr}{osl:Array (Option Value)}{kV d j b ct:Value}{N ps:aN}{k:Nat}{e:Sp}(o:K.lookup f=some ⟨m,od,.func (PySem.W.fnOf x a (cK st) (bX st) (aH st) .none kV d j l b ct),osl⟩)(i:PySem.W.codeIn K b a=true)(S:aR N ps (aH st))(len:∀vs H Q E,e vs H Q E->vs.length=ps.length)
  (c:∀(A:Around) (outer:List Env) (s:Shared) (H:Hp) (vs:List V) (Q:VK) (E:XK),dW k (A.deeper (PyProof.Rows.envOfC a (aH st) s.heap.objs.size f b))->e vs H Q E ->
   ∃t,AJ (cxOf bH P w K mg base N a (aH st) f b A outer s H E).nox (bX st) t/\t {nx:=λ_ H'=>Q .non H',rt:=Q} (start N vs) H):bN P w K mg base bH (k+1) f (PySem.W.fnOf x a (cK st) (bX st) (aH st) .none kV d j l b ct) ps e:=by
 refine OH o i S len λA outer s H vs Q E r g=>?_;obtain⟨t,h,q⟩:=c A outer s H vs Q E r g;exact⟨t,h.nox,q⟩
mutual
theorem aX.but {H H':Hp}{p:Addr}(b:eE p H H')(n1:∀xs,H p≠some (.tup xs))(n2:∀xs,H p≠some (.lst xs)):∀{d:D} {v:V},aX H d v->aX H' d v
 | .non,v,h | .bl _,v,h | .int _,v,h | .str _,v,h=>h
 | .tup ds,v,⟨a,vs,f,c,e⟩=>⟨a,vs,f,b a _ (λz=>n1 vs (z ▸ c)) c,Reps.but b n1 n2 e⟩
 | .lst ds,v,⟨a,vs,f,c,e⟩=>⟨a,vs,f,b a _ (λz=>n2 vs (z ▸ c)) c,Reps.but b n1 n2 e⟩
theorem Reps.but {H H':Hp}{p:Addr}(b:eE p H H')(n1:∀xs,H p≠some (.tup xs))(n2:∀xs,H p≠some (.lst xs)):∀{ds:List D} {vs:List V},Reps H ds vs->Reps H' ds vs
 | [],vs,h=>h
 | d::ds,vs,⟨v,r,e,c,a⟩=>⟨v,r,e,aX.but b n1 n2 c,Reps.but b n1 n2 a⟩
end
theorem LT.tbl {Pt:Addr}{H:Hp}(h:LT Pt H):∃ps,H Pt=some (.tbl ps):=by
 rcases h with h|⟨_,_,_,_,h,_⟩
 ·exact⟨_,h⟩
 ·exact⟨_,h⟩
theorem LT.rep {Pt:Addr}{H H':Hp}(h:LT Pt H)(b:eE Pt H H'){d:D}{v:V}(r:aX H d v):aX H' d v:=by obtain⟨ps,e⟩:=h.tbl;exact aX.but b (λxs z=>by rw[e]at z;cases z) (λxs z=>by rw[e]at z;cases z) r
theorem LT.ne {Pt:Addr}{H:Hp}(h:LT Pt H){a:Addr}{o:HO}(e:H a=some o)(n:∀ps,o≠.tbl ps):a≠Pt:=λz=>by obtain⟨ps,b⟩:=h.tbl;rw[z,b]at e;cases e;exact n _ rfl
theorem LT.sg {Pt C g:Addr}{e:cG}{sm:bG}{H H':Hp}(h:LT Pt H)(b:eE Pt H H')(s:eP K C e sm H g):eP K C e sm H' g:=by obtain⟨v,u,r,m,fs,q,o,d,l,j,i,f,c,a⟩:=s;exact⟨v,u,r,m,fs,q,o,b _ _ (h.ne d λ_=>by simp) d,l,j,i,f,b _ _ (h.ne c λ_=>by simp) c,b _ _ (h.ne a λ_=>by simp) a⟩
def vZ (K:PySem.W.Frag)(C Pt:Addr):Sp:=λvs H Q _=>∃(b g:Addr) (fx:cG) (sm:bG) (d:D) (v:V),vs=[.ref g,.ref b,v]/\H b=some (.dK [])/\eP K C fx sm H g/\aX H d v/\Tm d/\(∀r∈sm,r.2=("" : Str)∨Fl (.str r.2))/\sz d<=60/\nds d<=1000/\depD d<=50/\LT Pt H /\
 ∀(a:V) (H':Hp),eE Pt H H'->LT Pt H'->aX H' (flt sm d) a->Q a H'
theorem JQ {f C c Pt:Addr}{oc:Value}{od Y:Option Addr}{osl:Array (Option Value)}{kV x z ct:Value}(lk:K.lookup f=some ⟨oc,od,.func (PySem.W.fnOf "put_in" "put_in" (cK cT) (bX cT) (aH cT) .none kV x z Y (.ref c) ct),osl⟩)(j:PySem.W.codeIn K (.ref c) "put_in" = true)
  (hC:∀h,K.In h->PySem.W.CodeHd h c Pt) (hB:Bm mg base) (a:dM P w K mg base bH 8 "from_within" (spFW K C)):bN P w K mg base bH 9 f (PySem.W.fnOf "put_in" "put_in" (cK cT) (bX cT) (aH cT) .none kV x z Y (.ref c) ct) tB (vZ K C Pt):=by
 refine EN lk j FU (λvs H Q E h=>?_) (λA outer s H vs Q E hr h=>?_)
 ·obtain⟨X,g,U,sm,d,v,rfl,_⟩:=h;rfl
 ·obtain⟨X,g,U,sm,d,v,rfl,u,sg,rep,tm,hz,G,i,R,lt,q⟩:=h;refine⟨_,(aG (aO (RC a (hr.mono (by decide)) rfl rfl rfl rfl rfl (aA (pv 2) (aA (pv 1) (aA (JB rfl rfl rfl rfl hC hB) aB)))))),?_⟩;refine⟨_,rfl,_,rfl,lt,λfl c' z S I F tq H' B J L O j hv n0 r=>⟨g,rfl,λm N _=>?_⟩⟩;have l:aF H' (upd H' (s.heap.objs.size+1) (pinO (s.heap.objs.size+1) m)):=aF.upd r;refine⟨X,fl,s.heap.objs.size+1,g,U,sm,d,v,rfl,l _ _ (B _ _ (lt.ne u λ_=>by simp) u),⟨c',z,S,m,I,F,tq,l _ _ L,upd_same,N,l _ _ O,j,hv⟩,(lt.sg B sg).same l,aX.same l (lt.rep B rep),tm,hz,G,i,R,λZ H2 s2 r2=>⟨s2 _ _ upd_same,?_⟩⟩;have T:aF H' (del1 H2 (s.heap.objs.size+1)):=λb o e=>by rw[bW (aE e r)];exact s2 _ _ (l _ _ e)
  exact q Z _ (λb o nb e=>T _ _ (B b o nb e)) (J.same T) (aX.del1 (s2 _ _ upd_same) r2)
structure pM (fx:cG)(sm:bG)(os:aN)(d:D):Prop where
 so:bF fx sm
 ho:∀x∈os,cI x
 tm:aV fx sm os d
 lv:lvs d<=50
 nd:nds d<=1000
 dp:depD d<=50
def v9 (K:PySem.W.Frag)(C Pt:Addr):Sp:=λvs H Q _=>∃(g:Addr) (fx:cG) (sm:bG) (os:aN) (d:D) (v:V),vs=[.ref g,v]/\eP K C fx sm H g/\aX H d v/\pM fx sm os d/\LT Pt H /\
 ∀(a:V) (H':Hp),eE Pt H H'->LT Pt H'->aX H' (flt sm d) a->Q a H'
theorem JU {f C Pt:Addr}{z:FuncData}(F:fJ K "flat" "flat" wD f z)(T:Txt mg)(c:dM P w K mg base bH 3 "check_term" (jP K C))(i:dM P w K mg base bH 9 "put_in" (vZ K C Pt)):bN P w K mg base bH 10 f z LH (v9 K C Pt):=by
 refine F.ok LZ (λvs H Q E h=>?_) (λO A outer s H vs Q E j h=>?_)
 ·obtain⟨g,x,sm,os,d,v,rfl,_⟩:=h;rfl
 ·obtain⟨g,x,sm,os,d,v,rfl,sg,rep,tr,lt,q⟩:=h;have I:=j.units
  refine⟨_,(aD (cB (aM c (j.mono (by decide)) pass0 rfl (aA (pv 0) (aA (pv 1) aB))))
   (aG (aO (aM i (j.mono (by decide)) pass0 rfl (aA (pv 0) (@DZ _ _ _ _ (aA (pv 1) aB))))))),?_⟩
  simp only[C7];clear j F T I c i;have keep:=aI q (aI sg (aI rep (aI tr lt)));clear q sg rep tr lt
  walk_at "rd"
  obtain⟨q,sg,rep,tr,lt⟩:=keep;obtain⟨m,L⟩:=uG tr.so tr.ho tr.tm;have R:=tr.lv;have N:=tr.dp;refine⟨g,x,sm,os,d,v,rfl,sg,tr.so,tr.ho,rep,tr.tm,by omega,by omega,tr.nd,λS G J u=>?_⟩;have s2:=G.trans (aF.upd (o:=.dK []) u);exact⟨J,g,x,sm,d,v,rfl,upd_same,sg.same s2,aX.same s2 rep,m,iD tr.so,by omega,tr.nd,N,lt.same s2,λB H' b l r=>q B H' (λa o na e=>b a o na (s2 _ _ e)) l r⟩
def IL (K:PySem.W.Frag)(C Pt:Addr):Sp:=λvs H Q _=>∃(g:Addr) (fx:cG) (sm:bG) (os:aN) (d:D) (v:V),vs=[.ref g,v]/\eP K C fx sm H g/\aX H d v/\pM fx sm os d/\LT Pt H /\
 ∀(a:V) (H':Hp),eE Pt H H'->LT Pt H'->aX H' (kyD (flt sm d)) a->Q a H'
theorem OY {a:cG}{sm:bG}{os:aN}{d:D}(t:pM a sm os d):Fl (flt sm d):=(pI (iD t.so) (uG t.so t.ho t.tm).1).1
theorem M6 {f C Pt:Addr}{m:FuncData}(F:fJ K "flat_key" "flat_key" jV f m)(T:Txt mg)(c:dM P w K mg base bH 10 "flat" (v9 K C Pt))(a:dM P w K mg base bH 2 "order_key" spKey):bN P w K mg base bH 11 f m tI (IL K C Pt):=by
 refine F.ok yF (λvs H Q E h=>?_) (λG A outer s H vs Q E i h=>?_)
 ·obtain⟨g,j,sm,os,d,v,rfl,_⟩:=h;rfl
 ·obtain⟨g,j,sm,os,d,v,rfl,sg,rep,tr,lt,q⟩:=h;refine⟨_,(aG (aO (aM a (i.mono (by decide)) pass0 rfl (aA (aM c (i.mono (by decide)) pass0 rfl (aA (pv 0) (aA (pv 1) aB))) aB)))),?_⟩;refine⟨_,rfl,_,rfl,g,j,sm,os,d,v,rfl,sg,rep,tr,lt,λr N I B r1=>?_⟩;refine⟨flt sm d,r,rfl,r1,OY tr,ao (EO sm d) tr.nd,λl J s2 L u=>?_⟩;exact q _ J (λb o x e=>s2 _ _ (I b o x e)) (B.same s2) (aX.same (λb o z=>(kY.mp z).2) u)
def spTwo (K:PySem.W.Frag)(C Pt:Addr)(R:bG->D->D->Bool):Sp:=λvs H Q _=>∃(g:Addr) (fx:cG) (sm:bG) (os:aN) (d e:D) (v u:V),vs=[.ref g,v,u]/\eP K C fx sm H g/\aX H d v/\aX H e u/\pM fx sm os d/\pM fx sm os e/\LT Pt H /\
 ∀(H':Hp),eE Pt H H'->LT Pt H'->Q (.bl (R sm d e)) H'
noncomputable def pA (sm:bG)(d e:D):Bool:=decide (key (flt sm d)=key (flt sm e))
theorem zQ:∀ks a:List M,eqDs (ks.map mD) (a.map mD)=decide (ks=a)
 | [],[]=>by simp[eqDs]
 | [],_::_=>by simp[eqDs]
 | _::_,[]=>by simp[eqDs]
 | m::ks,b::a=>by rw[aS,aS,eqDs,zP,zQ ks a,bz];simp
theorem NQ (ks:List M):depDs (ks.map mD)<=1:=by
 induction ks with
 | nil=>exact au _
 | cons m ks a =>
  rw[aS,depDs];have:depD (mD m)=1:=rfl;omega
theorem JX {f C Pt:Addr}{l:FuncData}(F:fJ K "alike" "alike" qU f l)(T:Txt mg)(a:dM P w K mg base bH 11 "flat_key" (IL K C Pt)):bN P w K mg base bH 12 f l FD (spTwo K C Pt pA):=by
 refine F.ok IR (λvs H Q E h=>?_) (λL A outer s H vs Q E b h=>?_)
 ·obtain⟨g,c,sm,os,d,e,v,u,rfl,_⟩:=h;rfl
 ·obtain⟨g,c,sm,os,d,e,v,u,rfl,sg,z,x,r,o,lt,q⟩:=h;have I:=b.units;refine⟨_,(aG (aO (eS (eD I) (aM a (b.mono (by decide)) pass0 rfl (aA (pv 0) (aA (pv 1) aB))) (aM a (b.mono (by decide)) pass0 rfl (aA (pv 0) (aA (pv 2) aB))) (nomark _)))),?_⟩;refine⟨_,rfl,_,rfl,g,c,sm,os,d,v,rfl,sg,z,r,lt,λR S i j r1=>?_⟩;refine⟨_,rfl,_,rfl,g,c,sm,os,e,u,rfl,lt.sg i sg,lt.rep i x,o,j,λO N m G B=>?_⟩;refine⟨kyD (flt sm d),kyD (flt sm e),j.rep m r1,B,?_,?_⟩
  ·unfold kyD;rw[depD];have:=NQ (key (flt sm d));omega
  ·have J:eqD (kyD (flt sm d)) (kyD (flt sm e))=pA sm d e:=by unfold kyD pA;rw[eqD,zQ]
   rw[J];exact q N (i.trans m) G
def kL:Sp:=λvs H Q _=>∃(p a:Addr) (fx:cG) (fv:List V),vs=[.ref p,.ref a]/\cC H p/\H a=some (.lst fv)/\cY H fx fv/\a≠p/\(∀j,j<5->∃x,fx[j]?=some (x,0))/\∀(x:Str) (H':Hp),eE p H H'->cC H' p->(x∈wi31∨x∈zeros fx)->Q (.str x) H'
theorem cY.at_ {H:Hp}:∀{l:cG} {vs:List V} {i:Nat} {r:Str×Int},cY H l vs->l[i]?=some r->∃t,vs[i]?=some (.ref t)/\H t=some (.tup [.str r.1,.int r.2])
 | [],_,_,_,_,e=>by simp at e
 | r::_,_,0,_,⟨t,us,e,h,q⟩,k=>by subst e;simp at k;subst k;exact⟨t,rfl,h⟩
 | _::_,_,i+1,_,⟨t,us,e,h,q⟩,k=>by subst e;simp at k;obtain⟨t,b,a⟩:=cY.at_ q k;exact⟨t,by simpa using b,a⟩
theorem M0 {f:Addr}{I:FuncData}(F:fJ K "_law_leaf" "_law_leaf" iQ f I)(T:Txt mg)(b:dM P w K mg base bH 1 "_law_take" iX):bN P w K mg base bH 2 f I qE kL:=by
 refine F.ok nN (λvs H Q E h=>?_) (λR A outer s H vs Q E e h=>?_)
 ·obtain⟨p,a,O,G,rfl,_⟩:=h;rfl
 ·obtain⟨p,a,O,G,rfl,C,N,g,l,J,q⟩:=h;have B:=e.units
  refine⟨_,(aD (aZ (i:=2) nN.nd rfl (Or.inl rfl) (aM b (e.mono (by decide)) pass0 rfl (aA (pv 0) (aA aJ aB))))
   (aD (bK (bC (r9 B) (pv 2) aJ (nomark _)) (aG (aO (bM cX (cM (aA cS (aA cS (aA cS (aA cS aB))))) (pv 2) (λ_ _=>rfl)))) aW)
   (aG (aO (bM cX (bM cX (pv 1) (bV jZ (pv 2) aJ) (λ_ _=>rfl)) aJ (λ_ _=>rfl)))))),?_⟩
  clear e F T b B;refine⟨_,rfl,p,9,rfl,C,by decide,by decide,λd x y U S=>⟨_,rfl,.inl (.inl ⟨_,_,rfl,rfl,_,rfl,ite2 (λc=>?_) (λc=>?_)⟩)⟩⟩
  ·have c:d<4:=by simpa using c
   refine⟨show 4<=sizeLine by decide,λr e=>⟨_,rfl,?_⟩⟩;have q':=λx L=>q x _ ((eE.upd p H (.lst [.int _,.int _])).trans (eE.new (p:=p) (o:=.lst [.str "?x",.str "?1",.str "?0z9",.str "?zzzzzzzz"]) e)) (cC.but ⟨_,_,upd_same⟩ (cC.ne ⟨_,_,upd_same⟩ e)) (.inl L);have:d=0∨d=1∨d=2∨d=3:=by omega
   rcases this with rfl|rfl|rfl|rfl
   ·exact⟨.str "?x",by rw[ixV_l upd_same];rfl,q' _ (by decide)⟩
   ·exact⟨.str "?1",by rw[ixV_l upd_same];rfl,q' _ (by decide)⟩
   ·exact⟨.str "?0z9",by rw[ixV_l upd_same];rfl,q' _ (by decide)⟩
   ·exact⟨.str "?zzzzzzzz",by rw[ixV_l upd_same];rfl,q' _ (by decide)⟩
  ·have c:¬d<4:=by simpa using c
   obtain⟨j,hj,h5⟩:∃j:Nat,d - 4=(j:Int)/\j<5:=⟨(d - 4).toNat,by omega,by omega⟩
   obtain⟨z,hz⟩:=J j h5;have v:=bE.pot (o:=.lst [.int x,.int y]) C;obtain⟨t,u,m⟩:=(g.same v).at_ hz;refine⟨_,rfl,_,rfl,_,_,rfl,rfl,.ref t,?_,.str z,by rw[ixV_t m];rfl,q z _ (eE.upd _ _ _) ⟨_,_,upd_same⟩ (.inr ?_)⟩
   ·dsimp only;rw[hj,ixV_l (xs:=G) (by rw[aC l];exact N)];exact E9 u
   ·exact cr.mpr ⟨(z,0),cw.mpr ⟨bf hz,rfl⟩,rfl⟩
def RK (p t:Addr)(a:cG)(sm:bG)(H:Hp):Prop:=cC H p/\LF p t a sm H/\bF a sm/\RM a sm
theorem RK.but {p t:Addr}{a:cG}{sm:bG}{H H':Hp}(h:RK p t a sm H)(c:eE p H H')(b:cC H' p):RK p t a sm H':=⟨b,h.2.1.but c h.1,h.2.2⟩
def nH:Sp:=λvs H Q _=>∃(p t:Addr) (fx:cG) (sm:bG) (b:Nat),vs=[.ref p,.ref t,.int b]/\RK p t fx sm H/\2<=b/\b<=40/\∀(u:Addr) (n:Str) (k:Nat) (H':Hp),eE p H H'->cC H' p->H' u=some (.tup [.str n,.int k])->pQ fx sm n k->k<=b->Q (.ref u) H'
def SL (c:cG)(b:Nat)(H:Hp)(i:Nat)(a:List V)(σ:St)(H':Hp):Prop:=H'=H/\(∃o:Option V,σ=[o,some (.int b)])/\cY H ((c.take i).filter λr=>decide (1<=r.2) && decide (r.2<=(b:Int))) a
theorem M4 {f:Addr}{fd:FuncData}(F:fJ K "_law_head" "_law_head" gK f fd)(T:Txt mg)(g:dM P w K mg base bH 1 "_law_take" iX):bN P w K mg base bH 2 f fd qF nH:=by
 refine F.ok jQ (λvs H Q E h=>?_) (λcdv A outer s H vs Q E G h=>?_)
 ·obtain⟨p,t,fx,sm,b,rfl,_⟩:=h;rfl
 ·obtain⟨p,t,fx,sm,b,rfl,h0,b2,b40,q⟩:=h;have hu:=G.units
  refine⟨_,(aD (mO (pv 1) (gL K rfl (i:=3) (j:=4) rfl jQ.nd rfl rfl rfl rfl))
   (aD (bK (bC (eD hu) (aM g (G.mono (by decide)) pass0 rfl (aA (pv 0) (aA aJ aB))) aJ (nomark _)) (aG (aO (eB (aA (bM cX (bM cX (pv 4) (aM g (G.mono (by decide)) pass0 rfl (aA (pv 0) (aA (aL cD rfl T.n_len rfl (aA (pv 4) aB)) aB))) (λ_ _=>rfl)) aJ (λ_ _=>rfl)) (aA (bV cV aJ (aM g (G.mono (by decide)) pass0 rfl (aA (pv 0) (aA (bV jZ (pv 2) aJ) aB)))) aB))))) aW)
   (aD (iS (i:=5) jQ.nd rfl rfl rfl rfl (bD.by (N:=lF) (names:=(aH gK).names) (N':=["_law_pair","_law_budget"]) (src:=[none,some 2]) (by decide +kernel) rfl rfl) (cE K rfl (pv 3)) (λ_ _ _ _=>(bA (i:=0) (show List.Nodup (["_law_pair","_law_budget"]:aN)by decide +kernel) rfl (Or.inl rfl))) (λ_ _ _ _=>(lL (jI kA kA aJ (bM cX (pv 0) aJ (λ_ _=>rfl)) (pv 1)))) (λ_ _ _ _=>(pv 0)))
   (aG (aO (bM cX (pv 5) (aM g (G.mono (by decide)) pass0 rfl (aA (pv 0) (aA (aL cD rfl T.n_len rfl (aA (pv 5) aB)) aB))) (λ_ _=>rfl))))))),?_⟩
  clear G F T g hu;simp only[kH];obtain⟨hp,⟨fa,sa,fv,sv,t1,t2,t3,t4,t5,nfp,nsp⟩,so,sg⟩:=id h0;refine⟨_,rfl,t,_,rfl,iU.of t1,rfl,_,_,rfl,_,_,rfl,rfl,?_⟩;refine⟨_,rfl,p,2,rfl,hp,by decide,by decide,λd x y d0 d1=>?_⟩;have U:cC (upd H p (.lst [.int x,.int y])) p:=⟨_,_,upd_same⟩
  have O:eE p H (upd H p (.lst [.int x,.int y])):=eE.upd p H _;have h1:=h0.but O U;have f1:upd H p (.lst [.int x,.int y]) fa=some (.lst fv):=by rw[aC nfp];exact t2
  have s1:upd H p (.lst [.int x,.int y]) sa=some (.lst sv):=by rw[aC nsp];exact t3
  have r1:=t4.same (bE.pot (o:=.lst [.int x,.int y]) hp);have S:=t5.same (bE.pot (o:=.lst [.int x,.int y]) hp);generalize upd H p (.lst [.int x,.int y])=H1 at U O h1 f1 s1 r1 S⊢;have ls:=S.len;have len1:∀{l:Addr} {xs:List V} {H':Hp},H' l=some (.lst xs)->(Option.map (λn=>V.int n) do let a ←lenV H' (.ref l);pure (a:Int))=some (.int xs.length):=λh=>by rw[lenV_l h];rfl
  refine⟨.int d,.int 0,rfl,rfl,au _,_,rfl,k6 (λc=>?_) (λc=>?_)⟩
  ·refine⟨_,rfl,_,rfl,_,rfl,_,_,rfl,len1 s1,p,sv.length,rfl,U,by have:=sg.2.2;omega,by have:=so.s2;omega,λe Y X e0 e1=>?_⟩;obtain⟨r,I,G,htt,ht⟩:∃r I,sm[e.toNat]?=some r/\sv[e.toNat]?=some (.ref I)/\H1 I=some (.tup [.str r.1,.str r.2]):=by
    obtain⟨v,W⟩:∃v,sv[e.toNat]?=some v:=⟨_,aw (by omega)⟩
    obtain⟨r,I,h1,rfl,h3⟩:=S.get W;exact⟨r,I,h1,W,h3⟩
   have Z:cC (upd H1 p (.lst [.int Y,.int X])) p:=⟨_,_,upd_same⟩
   have L:=O.trans (eE.upd p H1 (.lst [.int Y,.int X]));have s2:upd H1 p (.lst [.int Y,.int X]) sa=some (.lst sv):=by rw[aC nsp];exact s1
   have t2':=bE.pot (o:=.lst [.int Y,.int X]) U _ _ ht;generalize upd H1 p (.lst [.int Y,.int X])=H2 at Z L s2 t2'⊢;refine⟨.ref I,by rw[ixV_l s2,sV e0 e1];exact htt,.str r.1,by rw[ixV_t t2'];rfl,_,rfl,_,rfl,_,_,rfl,rfl,p,_,rfl,Z,by omega,by omega,λk x2 y2 k0 k1=>.inl ⟨_,rfl,show 2<=sizeLine by decide,λu hu=>?_⟩⟩;obtain⟨kk,hk⟩:∃kk:Nat,2+k=(kk:Int):=⟨(2+k).toNat,by omega⟩
   rw[hk];have p3:cC (upd H2 p (.lst [.int x2,.int y2])) p:=⟨_,_,upd_same⟩
   exact q u r.1 kk _ ((L.trans (eE.upd p H2 _)).trans (eE.new hu)) (p3.but (p3.ne hu)) upd_same (.inr ⟨by omega,cr.mpr ⟨r,bf G,rfl⟩⟩) (by omega)
  ·refine⟨_,rfl,fa,fv,rfl,.inl f1,λJ hJ=>cN hJ (SL fx b H1) ⟨rfl,⟨none,rfl⟩,rfl⟩ (λi B σ H' _ h=>by rw[h.1]) ?_ ?_⟩
   ·rintro i v B σ H' W ⟨rfl,⟨o,rfl⟩,C⟩;obtain⟨r,I,G,rfl,ht⟩:=r1.get W;have la:B.length<sizeLine:=ak (m:=12) (by rw[C.len];exact ao (List.length_filter_le _ _) (by rw[bo];have:=so.f2;omega)) (by decide);have no:(decide (1<=r.2) && decide (r.2<=(b:Int)))=false->SL fx b H' (i+1) B [some (.ref I),some (.int b)] H':=λz=>⟨rfl,⟨_,rfl⟩,by rw[aY G,List.filter_append,List.filter_cons_of_neg (by rw[z];decide),List.filter_nil,bh];exact C⟩
    refine⟨_,rfl,.int r.2,by rw[ixV_t ht];rfl,_,_,rfl,rfl,_,rfl,k6 (λO=>⟨_,rfl,_,_,rfl,rfl,_,rfl,k6 (λL=>?_) (λL=>?_)⟩) (λO=>⟨_,rfl,?_⟩)⟩
    ·refine⟨_,rfl,la,rfl,⟨_,rfl⟩,?_⟩;rw[aY G,List.filter_append,List.filter_cons_of_pos (by rw[O,L];rfl),List.filter_nil];exact C.snoc ht
    ·exact no (by rw[L,Bool.and_false])
    ·exact no (by rw[O,Bool.false_and])
   ·rintro B σ H' ⟨rfl,⟨o,rfl⟩,C⟩ l hl;rw[r1.len,bp]at C;have Z:=U.but (o:=.lst B) (U.ne hl);have L:=O.trans (eE.new (p:=p) (o:=.lst B) hl);have l2:upd H' l (.lst B) l=some (.lst B):=upd_same;have R:=C.same (bE.of (aF.upd (o:=.lst B) hl));have nlp:=(U.ne hl).symm;generalize upd H' l (.lst B)=H2 at Z L l2 R⊢;have la:=R.len;have mem:∀r,r∈fx.filter (λr=>decide (1<=r.2) && decide (r.2<=(b:Int))) ↔ r∈fx/\1<=r.2/\r.2<=(b:Int):=λr=>by rw[cw,Bool.and_eq_true,decide_eq_true_iff,decide_eq_true_iff]
    have pos:1<=B.length:=by obtain⟨r,h1,h2⟩:=sg.2.1;rw[la];exact List.length_pos_of_mem ((mem r).mpr ⟨h1,by omega,by omega⟩)
    have le12:B.length<=12:=by rw[la];exact ao (List.length_filter_le _ _) so.f2
    refine⟨_,rfl,_,rfl,_,rfl,_,_,rfl,len1 l2,p,B.length,rfl,Z,by omega,by omega,λe Y X e0 e1=>?_⟩;obtain⟨v,W⟩:∃v,B[e.toNat]?=some v:=⟨_,aw (by omega)⟩
    obtain⟨r,I,G,rfl,ht⟩:=R.get W;obtain⟨g1,g2,g3⟩:=(mem r).mp (bf G);refine⟨.ref I,by rw[ixV_l (xs:=B) (by rw[aC nlp];exact l2),sV e0 e1];exact W,?_⟩;obtain⟨k,hk⟩:∃k:Nat,r.2=(k:Int):=⟨r.2.toNat,by omega⟩
    exact q I r.1 k _ (L.trans (eE.upd p H2 _)) ⟨_,_,upd_same⟩ (by rw[←hk];exact bE.pot Z _ _ ht) (.inl ⟨by omega,by rw[←hk];exact g1⟩) (by omega)
def jC (n:Nat):Sp:=λvs H Q _=>∃(p t:Addr) (fx:cG) (sm:bG) (room deep:Nat),vs=[.ref p,.ref t,.int room,.int deep]/\RK p t fx sm H/\1<=room/\room<=40/\deep<=n /\
 ∀(d:D) (v:V) (H':Hp),eE p H H'->cC H' p->aX H' d v->aV fx sm wi31 d->Fl d->lvs d<=room->depD d<=deep->Q v H'
noncomputable def RJ (p t rw u:Addr)(a c b:Nat)(nm:Str)(e:cG)(sm:bG)(H:Hp)(i:Nat)(σ:St)(d:Hp):Prop :=
 ∃(left:Nat) (ds:List D) (vs:List V) (o8 o9:Option V),σ=[some (.ref p),some (.ref t),some (.int a),some (.int c),some (.str nm),some (.int b),some (.ref rw),some (.int left),o8,o9] /\
  eE p H d/\cC d p/\d rw=some (.lst (.str nm::vs))/\Reps d ds vs/\ds.length=i/\IsTms e sm wi31 ds/\Fls ds/\lvss ds+left<=a/\b<=left+i/\depDs ds+1<=c
theorem MU {f:Addr}{fd:FuncData}(n:Nat)(F:fJ K "_law_term" "_law_term" fF f fd)(T:Txt mg)(C:dM P w K mg base bH 1 "_law_take" iX)(G:dM P w K mg base bH 2 "_law_leaf" kL)(I:dM P w K mg base bH 2 "_law_head" nH)
  (B:dM P w K mg base bH (n+3) "_law_term" (λvs H Q E=>∃m,m<n/\jC m vs H Q E)):bN P w K mg base bH (n+4) f fd gT (jC n):=by
 refine F.ok dD (λvs H Q E h=>?_) (λcdv A outer s H vs Q E Z h=>?_)
 ·obtain⟨p,t,U,sm,o,l,rfl,_⟩:=h;rfl
 ·obtain⟨p,t,U,sm,o,l,rfl,J,r1,r2,dn,q⟩:=h;have hu:=Z.units
  refine⟨_,(aD (bK (PW.pt (iA (bC (eD hu) (pv 2) aJ (nomark _)) (fN (bC (eD hu) (pv 3) aJ (nomark _))))) (aG (aO (aM G (Z.mono (by omega)) pass0 rfl (aA (pv 0) (aA (bM cX (pv 1) aJ (λ_ _=>rfl)) aB))))) aW)
   (aD (mO (aM I (Z.mono (by omega)) pass0 rfl (aA (pv 0) (aA (pv 1) (aA (pv 2) aB)))) (gL K rfl (i:=4) (j:=5) rfl dD.nd rfl rfl rfl rfl))
   (aD (aZ (i:=6) dD.nd rfl (Or.inl rfl) (cM (aA (pv 4) aB)))
   (aD (aZ (i:=7) dD.nd rfl (Or.inl rfl) (pv 2))
   (aD (fE de rfl (lN rfl T.n_range (aA (pv 5) aB)) (bA (i:=8) dD.nd rfl (Or.inl rfl)) (aD (aZ (i:=9) dD.nd rfl (Or.inl rfl) (pv 7))
   (aD (bK (bC (r9 hu) (pv 8) (bV jZ (pv 5) aJ) (nomark _)) (aG (aZ (i:=9) dD.nd rfl (Or.inl rfl) (bV cV aJ (aM C (Z.mono (by omega)) pass0 rfl (aA (pv 0) (aA (bV jZ (pv 7) (bV jZ (bV jZ (pv 5) aJ) (pv 8))) aB)))))) aW)
   (aD (cB (gM da dc db eT (pv 6) (aA (aM B (Z.mono (by omega)) pass0 rfl (aA (pv 0) (aA (pv 1) (aA (pv 9) (aA (bV jZ (pv 3) aJ) aB))))) aB)))
   (aG (aZ (i:=7) dD.nd rfl (Or.inl rfl) (bV jZ (pv 7) (pv 9))))))))
   (aG (aO (cH eN rfl T.n_tuple rfl (aA (pv 6) aB))))))))),?_⟩
  clear Z F T hu C G I B;simp only[nC];have S:∀X,eE p H X->cC X p->∀a fv,X a=some (.lst fv)->cY X U fv->a≠p->kL [.ref p,.ref a] X Q E0:=λX b1 p1 a fv ha row na=>by
   refine⟨p,a,U,fv,rfl,p1,ha,row,na,J.2.2.2.1,λx H' b2 R Y=>q (.str x) (.str x) H' (b1.trans b2) R rfl (by unfold aV;exact Y) ?_ r1 (au _)⟩;unfold Fl;rcases Y with Y|Y
   ·have:∀y∈wi31,1<=y.cps.toList.length/\y.cps.toList.length<=20:=by decide +kernel
    exact this x Y
   ·have:=J.2.2.1.nm x (bS _ ((tZ U).subset Y));exact⟨this.1,ao this.2.1 (by decide)⟩
  obtain⟨hp,⟨fa,sa,fv,sv,t1,t2,t3,t4,t5,nfp,nsp⟩,so,sg⟩:=id J;have lf:=S H (eE.refl _ _) hp fa fv t2 t4 nfp;refine⟨_,rfl,.int o,.int 1,rfl,rfl,au _,_,rfl,k6 (λc=>?_) (λc1=>⟨_,rfl,.int l,.int 0,rfl,rfl,au _,_,rfl,k6 (λc=>?_) (λc2=>?_)⟩)⟩
  ·exact⟨_,rfl,_,rfl,.ref fa,by rw[ixV_t t1];rfl,lf⟩
  ·exact⟨_,rfl,_,rfl,.ref fa,by rw[ixV_t t1];rfl,lf⟩
  have n1:(o:Int)≠1:=λz=>by rw[z]at c1;exact absurd c1 (by decide)
  have n2:(l:Int)≠0:=λz=>by rw[z]at c2;exact absurd c2 (by decide)
  clear lf S c1 c2;refine⟨_,rfl,_,rfl,_,rfl,p,t,U,sm,o,rfl,J,by omega,r2,λu nm r X b1 p1 u1 hh hk=>?_⟩;refine⟨u,_,rfl,iU.of u1,rfl,_,_,rfl,_,_,rfl,rfl,_,rfl,show 1<=sizeLine by decide,λrw O=>⟨_,rfl,_,rfl,r,rfl,by omega,by omega,?_⟩⟩;have N:=(p1.ne O).symm;have nrH:H rw=none:=by
   cases e:H rw with
   | none=>rfl
   | some w=>have:=b1 rw w N e;rw[O]at this;cases this
  refine sQ (n:=r) (RJ p t rw u o l r nm U sm H) ⟨o,[],[],none,none,rfl,b1.trans (eE.new O),p1.but (p1.ne O),upd_same,rfl,rfl,trivial,trivial,by show 0+o<=o;omega,by omega,by show 0+1<=l;omega⟩ ?_ ?_
  ·rintro i σ H2 hi ⟨left,ds,vs,o8,o9,rfl,b2,R,w2,rp,hl,W,L,lv,mi,dp⟩;have hh2:=Reps.len rp;have step:∀(b:Nat) (H3:Hp) (b3:eE p H2 H3) (p3:cC H3 p) (s1:1<=b) (s2:b<=left) (s3:r<=left - b+(i+1)) (D:iJ) (hD:∀σ H',RJ p t rw u o l r nm U sm H (i+1) σ H'->D.nx σ H'),
     tSeq (tDrop (tBM K "list" rAppend (tVar 6) (tCons (tCall (λvs H Q E=>∃m,m<n/\jC m vs H Q E) [] E0 (tCons (tVar 0) (tCons (tVar 1) (tCons (tVar 9) (tCons (tOp (rI0 λi j=>V.int (i - j)) (tVar 3) (tC (V.int 1))) tNil))))) tNil))) (tAsg (tOp (rI0 λi j=>V.int (i - j)) (tVar 7) (tVar 9)) (gName 7)) D
      [some (.ref p),some (.ref t),some (.int o),some (.int l),some (.str nm),some (.int r),some (.ref rw),some (.int left),some (.int (0+i)),some (.int b)] H3:=λb H3 b3 p3 s1 s2 s3 D hD=>by
    have w3:=b3 _ _ N w2;have e2:(l:Int) - 1=((l - 1:Nat):Int):=by omega
    refine⟨_,rfl,.inl ⟨rfl,_,eH.of w3⟩,_,rfl,_,rfl,_,rfl,_,rfl,_,_,rfl,rfl,l - 1,by omega,p,t,U,sm,b,l - 1,(by rw[←e2];rfl),J.but (b2.trans b3) p3,s1,by omega,ae _,λd v H4 b4 p4 rep tm fl lv4 dp4=>?_⟩;have w4:=b4 _ _ N w3;refine⟨rw,_,v,rfl,rfl,w4,ak (m:=100) (by simp only[ap];omega) (by decide),_,rfl,_,rfl,_,_,rfl,rfl,hD _ _ ?_⟩;have tt:bE H2 H4:=(bE.ofBut b3 R).trans (bE.ofBut b4 p3);refine⟨left - b,ds++[d],vs++[v],some (.int (0+i)),some (.int b),?_,CY ((b2.trans b3).trans b4) nrH,p4.but N.symm,by rw[upd_same];rfl,?_,by rw[aq,hl];rfl,W.snoc tm,?_,?_,s3,?_⟩
    ·rw[Int.ofNat_sub s2];rfl
    ·have t5:bE H4 (upd H4 rw (.lst (.str nm::vs++[v]))):=bE.lst w4;exact Reps.snoc (aX.tups t5 fl rep) (Reps.tups t5 L (Reps.tups tt L rp))
    ·exact iZ λe he=>(cp.mp he).elim (λh=>dS L e h) λh=>by rw[ck.mp h];exact fl
    ·rw[uR];omega
    ·rw[sS];omega
   refine⟨_,rfl,_,rfl,_,rfl,_,_,rfl,rfl,.inl (.inl ⟨_,_,rfl,rfl,_,rfl,ite2 (λc=>?_) (λc=>?_)⟩)⟩
   ·have c:(0:Int)+i<r - 1:=by simpa using c
    obtain⟨m,hm⟩:∃m:Nat,(left:Int) - (r - 1 - (0+i))=(m:Int):=⟨left - (r - 1 - i),by omega⟩
    refine⟨_,rfl,_,rfl,_,rfl,_,_,rfl,rfl,_,rfl,_,_,rfl,rfl,_,_,rfl,rfl,p,m,(by dsimp only;rw[hm];rfl),R,by omega,by omega,λg x y g0 g1=>.inl ⟨_,rfl,?_⟩⟩;obtain⟨k,hk⟩:∃k:Nat,1+g=(k:Int):=⟨(1+g).toNat,by omega⟩
    rw[hk];exact step k _ (eE.upd p H2 _) ⟨_,_,upd_same⟩ (by omega) (by omega) (by omega) _ λ_ _ h=>h
   ·have c:¬(0:Int)+i<r - 1:=by simpa using c
    exact step left H2 (eE.refl _ _) R (by omega) (ae _) (by omega) _ λ_ _ h=>h
  ·rintro σ H2 ⟨left,ds,vs,o8,o9,rfl,b2,R,w2,rp,hl,W,L,lv,mi,dp⟩;refine⟨_,rfl,rw,_,rfl,.inl w2,λtp H3 hc=>?_⟩;rcases hc with⟨z,_⟩|⟨_,ht,rfl⟩
   ·rw[w2]at z;cases z
   refine q (.tup (.str nm::ds)) _ _ (b2.trans (eE.new ht)) (R.but (R.ne ht)) ⟨tp,_,rfl,upd_same,_,_,rfl,rfl,Reps.same (aF.upd ht) rp⟩ ?_ ?_ ?_ ?_
   ·unfold aV;exact⟨by rw[hl];exact hh,W⟩
   ·unfold Fl;exact L
   ·rw[lvs];omega
   ·rw[depD,depDs,show depD (.str nm)=0 from rfl];omega
theorem NL {f:Addr}{d:FuncData}(F:fJ K "_law_term" "_law_term" fF f d)(T:Txt mg)(a:dM P w K mg base bH 1 "_law_take" iX)(b:dM P w K mg base bH 2 "_law_leaf" kL)(c:dM P w K mg base bH 2 "_law_head" nH)
  (o:mg "_law_term" = some (.ref f)) (q:PySem.W.keepIn K (.ref f)=true) (e:dZ K d gT []):∀n,bN P w K mg base bH (n+4) f d gT (jC n):=by
 intro n
 induction n using Nat.strongRecOn with
 | ind n i =>
  exact MU n F T a b c ⟨f,d,_,⟨λvs H Q E ⟨m,g,h⟩=>(i m g).len vs H Q E h,λA outer s H args us vs Q E l r e j ⟨m,g,h⟩=>((i m g).mono (by omega)).run A outer s H args us vs Q E l r e j h⟩,o,q,e⟩
theorem JE {f:Addr}{d:FuncData}(F:fJ K "_law_term" "_law_term" fF f d)(T:Txt mg)(a:dM P w K mg base bH 1 "_law_take" iX)(b:dM P w K mg base bH 2 "_law_leaf" kL)(c:dM P w K mg base bH 2 "_law_head" nH)
  (e:mg "_law_term" = some (.ref f)) (g:PySem.W.keepIn K (.ref f)=true) (h:dZ K d gT []) (n:Nat):dM P w K mg base bH (n+4) "_law_term" (jC n):=⟨f,d,_,NL F T a b c e g h n,e,g,h⟩
theorem GQ {c:Nat}(h:97<=c/\c<=122):inTx "abcdefghijklmnopqrstuvwxyz" c=true:=by
 have a:∀j:Fin 26,inTx "abcdefghijklmnopqrstuvwxyz" (97+j.1)=true:=by decide +kernel
 have:=a ⟨c - 97,by omega⟩;rw[show 97+(c - 97)=c by omega]at this;exact this
def II:Sp:=λvs H Q _=>∃x:Str,vs=[.str x]/\fZ x/\∀H',aF H H'->Q (.bl true) H'
theorem MX {f:Addr}{r:FuncData}(F:fJ K "is_name" "is_name" jG f r)(T:Txt mg):bN P w K mg base bH 1 f r vM II:=by
 refine F.ok BE (λvs H Q E h=>?_) (λG A outer s H vs Q E j h=>?_)
 ·obtain⟨x,rfl,_⟩:=h;rfl
 ·obtain⟨x,rfl,g,q⟩:=h;have u:=j.units
  refine⟨_,(aD (bK (PW.pt (iA (cR (aP K rfl (aL aK rfl T.n_isinstance rfl (aA (pv 0) (aA (bJ (v:=V.ty "str") rfl T.n_str rfl rfl) aB))) (λ_=>rfl))) (fN (cR (jI kA kA aJ (aL cD rfl T.n_len rfl (aA (pv 0) aB)) (eL T.c_LONGEST_NAME rfl)))))) (aG (aO jK)) aW)
   (aG (aO (aL (lU rfl) rfl T.n_all rfl (aA (eF rfl (bD.by (N:=pO) (names:=(aH jG).names) (N':=["sign"]) (src:=[none]) (by decide +kernel) rfl rfl) (wJ (pv 0)) (λ_ _ _ _=>(bA (i:=0) (show List.Nodup (["sign"]:aN)by decide +kernel) rfl (Or.inl rfl))) (λ_ _ _ _=>dF) (λ_ _ _ _=>(eS jL (pv 0) (eL T.c_LETTERS rfl) (by with_unfolding_all rfl)))) aB))))),?_⟩
  simp only[pO];clear j F T u;have keep:=aI q g;clear q g
  walk_at "rd"
  obtain⟨q,I,d,l⟩:=keep;have hz:x.length<=sizeLine:=ao (m:=6) (by rw[bj]at d;exact d) (by decide);have J:x.cps.toList.length=x.length:=by rw[bj];rfl
  refine⟨true,rfl,?_⟩;rw[ac (by decide)];refine⟨.int x.length,by rw[zB hz];rfl,_,rfl,?_⟩;rw[aj (by omega)];refine⟨_,rfl,?_⟩;rw[ac (by omega)];refine⟨_,rfl,x,rfl,?_,?_⟩
  ·rw[Array.all_eq_true_iff_forall_mem];intro c b;have:=l c (by simpa using b);simp only[decide_eq_true_eq];omega
  ·refine u9 (λi a σ H'=>H'=H/\a=(List.replicate i true).map V.bl/\i<=6/\∃o:Option V,σ=[o]) ⟨rfl,rfl,by decide,none,rfl⟩ ?_ ?_
   ·rintro i c a σ H' b ⟨rfl,rfl,C,o,rfl⟩;have B:c∈x.cps.toList:=by
     have:x.cps.toList[i]?=some c:=by rw[Array.getElem?_toList];exact b
     exact bf this
    have hi':i<x.cps.size:=(Array.getElem?_eq_some_iff.mp b).1;refine⟨_,rfl,_,rfl,_,rfl,?_⟩;have e:=GQ (l c B);unfold inTx at e;dsimp only;refine⟨ak (m:=100) (by simp;omega) (by decide),rfl,?_,by rw[bj]at d;omega,_,rfl⟩;rw[e,List.replicate_succ',ax];rfl
   ·rintro a σ H' ⟨rfl,rfl,C,o,rfl⟩ p z;refine⟨p,rfl,List.replicate _ true,upd_same,?_⟩;have:(List.replicate x.cps.size true).all id=true:=by simp
    rw[this];exact q _ (aF.upd z)
def DJ:Sp:=λvs H Q _=>∃i:Int,vs=[.int i]/\Q (.bl true) H
theorem JO {f:Addr}{a:FuncData}(F:fJ K "is_whole" "is_whole" jR f a)(T:Txt mg):bN P w K mg base bH 1 f a tE DJ:=by
 refine F.ok yD (λvs H Q E h=>?_) (λc A outer s H vs Q E b h=>?_)
 ·obtain⟨x,rfl,_⟩:=h;rfl
 ·obtain⟨i,rfl,q⟩:=h;refine⟨_,(aG (aO (wL (aL aK rfl T.n_isinstance rfl (aA (pv 0) (aA (bJ (v:=V.ty "int") rfl T.n_int rfl rfl) aB))) (pC (PN (aL aK rfl T.n_isinstance rfl (aA (pv 0) (aA (bJ (v:=V.ty "bool") rfl T.n_bool rfl rfl) aB)))))))),?_⟩;simp only[tK];clear b F T
  walk_at "rd"
def lW (H:Hp)(a:List V):Prop:=∀v∈a,∃t x y,v = .ref t/\H t=some (.tup [x,y])
theorem lW.same {H H':Hp}{a:List V}(h:lW H a)(s:aF H H'):lW H' a:=λv b=>by obtain⟨t,x,y,e,h⟩:=h v b;exact⟨t,x,y,e,s _ _ h⟩
def DL:Sp:=λvs H Q _=>∃(a:Addr) (lo hi:Int) (ws:List V),vs=[.ref a,.int lo,.int hi]/\H a=some (.lst ws)/\lW H ws/\lo<=ws.length/\(ws.length:Int)<=hi/\ws.length<=100/\∀l H',aF H H'->H l=none->H' l=some (.lst ws)->Q (.ref l) H'
def TN (a:Addr)(b c:Int)(H:Hp)(i:Nat)(σ:St)(d:Hp):Prop:=∃o:Option V,σ=[some (.ref a),some (.int b),some (.int c),o]/\aF H d
def TQ (b:List V)(H:Hp)(i:Nat)(a:List V)(σ:St)(c:Hp):Prop:=∃o:Option V,σ=[o]/\aF H c/\a=b.take i
theorem JS {f:Addr}{fd:FuncData}(F:fJ K "checked_pairs" "checked_pairs" dX f fd)(T:Txt mg):bN P w K mg base bH 1 f fd kD DL:=by
 refine F.ok jF (λvs H Q E h=>?_) (λcdv A outer s H vs Q E hr h=>?_)
 ·obtain⟨a,lo,hi,I,rfl,_⟩:=h;rfl
 ·obtain⟨a,lo,hi,I,rfl,B,pr,O,X,W,q⟩:=h;have hu:=hr.units
  refine⟨_,(aD (bK (PW.pt (iA (cR (aP K rfl (aL aK rfl T.n_isinstance rfl (aA (pv 0) (aA (eB (aA (bJ (v:=V.ty "list") rfl T.n_list rfl rfl) (aA (bJ (v:=V.ty "tuple") rfl T.n_tuple rfl rfl) aB))) aB))) (λ_=>rfl))) (fN (cR (jI kA kA (pv 1) (aL cD rfl T.n_len rfl (aA (pv 0) aB)) (pv 2)))))) (aG eJ) aW)
   (aD (fE de rfl (cE K rfl (pv 0)) (bA (i:=3) jF.nd rfl (Or.inl rfl)) (aG (bK (PW.pt (iA (cR (aP K rfl (aL aK rfl T.n_isinstance rfl (aA (pv 3) (aA (eB (aA (bJ (v:=V.ty "list") rfl T.n_list rfl rfl) (aA (bJ (v:=V.ty "tuple") rfl T.n_tuple rfl rfl) aB))) aB))) (λ_=>rfl))) (fN (bC (iC hu) (aL cD rfl T.n_len rfl (aA (pv 3) aB)) aJ (nomark _))))) (aG eJ) aW)))
   (aG (aO (eF rfl (bD.by (N:=fB) (names:=(aH dX).names) (N':=["pair"]) (src:=[none]) (by decide +kernel) rfl rfl) (cE K rfl (pv 0)) (λ_ _ _ _=>(bA (i:=0) (show List.Nodup (["pair"]:aN)by decide +kernel) rfl (Or.inl rfl))) (λ_ _ _ _=>dF) (λ_ _ _ _=>(cH eN rfl T.n_tuple rfl (aA (pv 0) aB)))))))),?_⟩
  simp only[fB];clear hr F T hu;have keep:=aI q (aI B (aI pr (aI O (aI X W))));clear q B pr O X W
  walk_at "rd"
  obtain⟨q,B,pr,O,X,W⟩:=keep;refine⟨by decide,λp hp=>?_⟩;have g:aF H (upd H p (.tup [.ty "list",.ty "tuple"])):=aF.upd hp;have r:upd H p (.tup [.ty "list",.ty "tuple"]) p=some (.tup [.ty "list",.ty "tuple"]):=upd_same;generalize upd H p (.tup [.ty "list",.ty "tuple"])=H1 at g r⊢;have b:=g _ _ B;refine⟨true,KK b r,?_⟩;rw[ac (by decide)];refine⟨.int I.length,by rw[lenV_l b];rfl,_,rfl,?_⟩;rw[aj O];refine⟨_,rfl,?_⟩;rw[ac (by omega)];refine⟨I,.inl b,λJ hJ=>?_⟩;refine gG hJ (TN a lo hi H1) ⟨none,rfl,aF.refl _⟩ (by rintro i σ H' _ ⟨_,_,s2⟩;rw[b,s2 _ _ b]) ?_ ?_
  ·rintro i x σ G C ⟨o,rfl,s2⟩;obtain⟨t,y,z,rfl,U⟩:=pr x (bf C);have e:=s2 _ _ (g _ _ U);have keep:=aI q (aI B (aI pr (aI s2 (aI e g))));clear q B pr s2 e U b r O X W hJ C g hp
   walk_at "rd"
   obtain⟨q,B,pr,s2,e,g⟩:=keep;refine⟨by decide,λS Y=>?_⟩;have d:aF G (upd G S (.tup [.ty "list",.ty "tuple"])):=aF.upd Y;have j:upd G S (.tup [.ty "list",.ty "tuple"]) S=some (.tup [.ty "list",.ty "tuple"]):=upd_same;generalize upd G S (.tup [.ty "list",.ty "tuple"])=H3 at d j⊢;have c:=d _ _ e;refine⟨true,KJ c j,?_⟩;rw[ac (by decide)];refine⟨.int 2,by rw[lenV_t c];rfl,?_⟩;rw[rNeD_ii];refine⟨_,rfl,?_⟩;rw[ac (by decide)];exact⟨_,rfl,s2.trans d⟩
  ·rintro σ G ⟨o,rfl,s2⟩;have u:=s2 _ _ b;refine⟨_,rfl,a,I,rfl,.inl u,λJ2 Z=>?_⟩;refine cN Z (TQ I G) ⟨none,rfl,aF.refl _,rfl⟩ (by rintro i R σ H' _ ⟨_,_,d,_⟩;rw[u,d _ _ u]) ?_ ?_
   ·rintro i x R σ H3 C ⟨o',rfl,d,rfl⟩;obtain⟨t,y,z,rfl,U⟩:=pr x (bf C);have c:=d _ _ (s2 _ _ (g _ _ U));have hi':=(cj.mp C).1;refine⟨_,rfl,t,[y,z],rfl,.inr c,λl H4 L=>?_⟩;rcases L with⟨L,rfl,rfl⟩|⟨L,_⟩
    ·exact⟨ak (m:=100) (by rw[bo];omega) (by decide),_,rfl,d,by rw[aY C]⟩
    ·rw[c]at L;cases L
   ·rintro R σ H3 ⟨o',rfl,d,rfl⟩ l hl;rw[bp];have s4:=(g.trans s2).trans d;exact q l _ (s4.trans (aF.upd hl)) (s4.free hl) upd_same
def iL (H:Hp):aN->List V->Prop
 | [],vs=>vs=[]
 | n::ns,vs=>∃t y us,vs = .ref t::us/\H t=some (.tup [.str n,y])/\iL H ns us
theorem iL.same {H H':Hp}(s:aF H H'):∀{ns:aN} {vs:List V},iL H ns vs->iL H' ns vs
 | [],_,h=>h
 | _::_,_,⟨t,y,us,e,h,q⟩=>⟨t,y,us,e,s _ _ h,iL.same s q⟩
theorem iL.len {H:Hp}:∀{ns:aN} {vs:List V},iL H ns vs->vs.length=ns.length
 | [],_,h=>by cases h;rfl
 | _::_,_,⟨t,y,us,e,h,q⟩=>by subst e;simp[iL.len q]
theorem iL.get {H:Hp}:∀{ns:aN} {vs:List V} {i:Nat} {v:V},iL H ns vs->vs[i]?=some v->∃n t y,ns[i]?=some n/\v = .ref t/\H t=some (.tup [.str n,y])
 | [],_,_,_,h,k=>by cases h;simp at k
 | _::_,_,0,_,⟨t,y,us,e,h,q⟩,k=>by subst e;simp at k;exact⟨_,t,y,rfl,k.symm,h⟩
 | _::_,_,i+1,_,⟨t,y,us,e,h,q⟩,k=>by subst e;simp at k;obtain⟨r,t,y,c,b,a⟩:=iL.get q k;exact⟨r,t,y,by simpa using c,b,a⟩
theorem iL.app {H:Hp}:∀{ns ms:aN} {vs us:List V},iL H ns vs->iL H ms us->iL H (ns++ms) (vs++us)
 | [],_,_,_,h,k=>by cases h;exact k
 | _::_,_,_,_,⟨t,y,us,e,h,q⟩,k=>by subst e;exact⟨t,y,_,rfl,h,iL.app q k⟩
theorem cY.n {H:Hp}:∀{l:cG} {vs:List V},cY H l vs->iL H (l.map (·.1)) vs
 | [],_,h=>h
 | _::_,_,⟨t,us,e,h,q⟩=>⟨t,_,us,e,h,cY.n q⟩
theorem fR.n {H:Hp}:∀{l:bG} {vs:List V},fR H l vs->iL H (l.map (·.1)) vs
 | [],_,h=>h
 | _::_,_,⟨t,us,e,h,q⟩=>⟨t,_,us,e,h,fR.n q⟩
def x4:Sp:=λvs H Q _=>∃(a:Addr) (ns:aN) (ws:List V),vs=[.ref a]/\H a=some (.lst ws)/\iL H ns ws/\(∀x∈ns,fZ x)/\ns.Nodup/\ns.length<=50/\∀H',aF H H'->Q .non H'
def TU (ns:aN)(H:Hp)(i:Nat)(a:List V)(σ:St)(c:Hp):Prop:=∃o b:Option V,σ=[o,b]/\aF H c/\a=(ns.take i).map V.str
def TR (H:Hp)(i:Nat)(a:List V)(σ:St)(b:Hp):Prop:=∃o:Option V,σ=[o]/\aF H b/\a=(List.replicate i true).map V.bl
theorem GG {f:Addr}{X:FuncData}(F:fJ K "check_names" "check_names" d5 f X)(T:Txt mg)(b:dM P w K mg base bH 1 "is_name" II):bN P w K mg base bH 2 f X mF x4:=by
 refine F.ok kQ (λvs H Q E h=>?_) (λcdv A outer s H vs Q E C h=>?_)
 ·obtain⟨a,ns,O,rfl,_⟩:=h;rfl
 ·obtain⟨a,ns,O,rfl,r,v,ok,nd,e,q⟩:=h;have U:=C.units
  refine⟨_,(aD (iS (i:=1) kQ.nd rfl rfl rfl rfl (bD.by (N:=gI) (names:=(aH d5).names) (N':=["name","told"]) (src:=[none,none]) (by decide +kernel) rfl rfl) (cE K rfl (pv 0)) (λ_ _ _ _=>(gL K rfl (i:=0) (j:=1) rfl (show List.Nodup (["name","told"]:aN)by decide +kernel) rfl rfl rfl rfl)) (λ_ _ _ _=>dF) (λ_ _ _ _=>(pv 0)))
   (aD (bK (cR (aP K rfl (aL (lU rfl) rfl T.n_all rfl (aA (eF rfl (bD.by (N:=gI) (names:=(aH d5).names) (N':=["name"]) (src:=[none]) (by decide +kernel) rfl rfl) (cE K rfl (pv 1)) (λ_ _ _ _=>(bA (i:=0) (show List.Nodup (["name"]:aN)by decide +kernel) rfl (Or.inl rfl))) (λ_ _ _ _=>dF) (λ_ _ _ _=>(aM b (C.mono (by decide)) pass0 rfl (aA (pv 0) aB)))) aB)) (λ_=>rfl))) (aG eJ) aW)
   (aG (bK (bC (r9 U) (aL vD rfl T.n_len rfl (aA (cH (vC rfl) rfl T.n_set rfl (aA (pv 1) aB)) aB)) (aL cD rfl T.n_len rfl (aA (pv 1) aB)) (nomark _)) (aG eJ) aW)))),?_⟩
  simp only[gI];clear C F T U b;have keep:=aI q (aI r (aI v (aI ok (aI nd e))));clear q r v ok nd e
  walk_at "rd"
  obtain⟨q,r,v,ok,nd,e⟩:=keep;have lw:=v.len;refine⟨O,.inl r,λJ hJ=>?_⟩;refine cN hJ (TU ns H) ⟨none,none,rfl,aF.refl _,rfl⟩ (by rintro i d σ H' _ ⟨_,_,_,s2,_⟩;rw[r,s2 _ _ r]) ?_ ?_
  ·rintro i x d σ L B ⟨o,o',rfl,s2,rfl⟩;obtain⟨n,t,y,z,rfl,ht⟩:=v.get B;have hi:=(cj.mp z).1;refine⟨t,_,rfl,iU.of (s2 _ _ ht),rfl,_,_,rfl,_,_,rfl,rfl,_,rfl,ak (m:=100) (by simp;omega) (by decide),_,_,rfl,s2,?_⟩;rw[aY z,ax];rfl
  ·rintro d σ L ⟨o,o',rfl,s2,rfl⟩ l hl;rw[lw,bp];have c:upd L l (.lst (ns.map V.str)) l=some (.lst (ns.map V.str)):=upd_same;have R:=s2.trans (aF.upd (o:=.lst (ns.map V.str)) hl);generalize upd L l (.lst (ns.map V.str))=H3 at c R⊢;refine⟨l,rfl,_,.inl c,λJ2 I=>?_⟩;refine cN I (TR H3) ⟨none,rfl,aF.refl _,rfl⟩ (by rintro i d σ H' _ ⟨_,_,u,_⟩;rw[c,u _ _ c]) ?_ ?_
   ·rintro i x d σ Z B ⟨o,rfl,u,rfl⟩;rw[bu]at B;obtain⟨n,z,rfl⟩:=Option.map_eq_some_iff.mp B;have hi:=(cj.mp z).1;refine⟨_,rfl,n,rfl,ok n (bf z),λY g=>⟨ak (m:=100) (by simp;omega) (by decide),_,rfl,u.trans g,?_⟩⟩;rw[List.replicate_succ',ax];rfl
   ·rintro d σ Z ⟨o,rfl,u,rfl⟩ S G;refine⟨S,rfl,_,upd_same,?_⟩;rw[ac (by simp)];have g:=u.trans (aF.upd (o:=.lst ((List.replicate (ns.map V.str).length true).map V.bl)) G);generalize upd Z S (.lst ((List.replicate (ns.map V.str).length true).map V.bl))=Y at g⊢;refine⟨l,ns,rfl,g _ _ c,nd,by omega,λp W=>⟨p,ns.length,rfl,upd_same,.int ns.length,?_,.inl (.inl ⟨_,rfl,_,rfl,?_⟩)⟩⟩
    ·have:=(aF.upd (o:=AD P w p ns.length) W) _ _ (g _ _ c);show Option.map _ ((lenV (upd Y p (AD P w p ns.length)) (.ref l)).bind _)=_;rw[lenV_l this,af];rfl
    ·rw[ac (by omega)];exact q _ ((R.trans g).trans (aF.upd W))
def DK:Sp:=λvs H Q _=>∃(a:Addr) (fx:cG) (fv:List V),vs=[.ref a]/\H a=some (.lst fv)/\cY H fx fv/\(∀r∈fx,0<=r.2/\r.2<=3)/\(∃r∈fx,r.2=0)/\fx.length<=50/\∀H',aF H H'->Q .non H'
def SW (a:Addr)(H:Hp)(i:Nat)(σ:St)(c:Hp):Prop:=∃o b:Option V,σ=[some (.ref a),o,b]/\c=H
def SX (c:cG)(H:Hp)(i:Nat)(a:List V)(σ:St)(d:Hp):Prop:=∃o b:Option V,σ=[o,b]/\d=H/\a=((c.take i).map λr=>decide (r.2=0)).map V.bl
theorem JR {f:Addr}{X:FuncData}(F:fJ K "check_parts" "check_parts" eW f X)(T:Txt mg)(b:dM P w K mg base bH 1 "is_whole" DJ):bN P w K mg base bH 2 f X mE DK:=by
 refine F.ok kP (λvs H Q E h=>?_) (λcdv A outer s H vs Q E u h=>?_)
 ·obtain⟨a,S,U,rfl,_⟩:=h;rfl
 ·obtain⟨a,S,U,rfl,g,d,ok,bare,c,q⟩:=h;have W:=u.units
  refine⟨_,(aD (fE de rfl (cE K rfl (pv 0)) (gL K rfl (i:=1) (j:=2) rfl kP.nd rfl rfl rfl rfl) (aG (bK (PW.pt (iA (cR (aP K rfl (aM b (u.mono (by decide)) pass0 rfl (aA (pv 2) aB)) (λ_=>rfl))) (fN (cR (jI kA kA aJ (pv 2) (eL T.c_MOST_PARTS rfl)))))) (aG eJ) aW)))
   (aG (bK (cR (aP K rfl (aL (HE rfl) rfl T.n_any rfl (aA (eF rfl (bD.by (N:=i4) (names:=(aH eW).names) (N':=["name","many"]) (src:=[none,none]) (by decide +kernel) rfl rfl) (cE K rfl (pv 0)) (λ_ _ _ _=>(gL K rfl (i:=0) (j:=1) rfl (show List.Nodup (["name","many"]:aN)by decide +kernel) rfl rfl rfl rfl)) (λ_ _ _ _=>dF) (λ_ _ _ _=>(eS (eD W) (pv 1) aJ (nomark _)))) aB)) (λ_=>rfl))) (aG eJ) aW))),?_⟩
  simp only[i4];clear u F T W b;have keep:=aI q (aI g (aI d (aI ok (aI bare c))));clear q g d ok bare c
  walk_at "rd"
  obtain⟨q,g,d,ok,bare,c⟩:=keep;have l:=d.len;refine⟨U,.inl g,λJ R=>?_⟩;refine gG R (SW a H) ⟨none,none,rfl,rfl⟩ (by rintro i σ H' _ ⟨_,_,_,rfl⟩;rfl) ?_ ?_
  ·rintro i x σ Y C ⟨o,I,rfl,rfl⟩;obtain⟨r,t,v,rfl,G⟩:=d.get C;obtain⟨k0,k3⟩:=ok r (bf v);refine⟨t,_,rfl,iU.of G,rfl,_,_,rfl,_,_,rfl,rfl,?_⟩;have keep:=aI q (aI k0 k3);clear q g d ok bare c l R C v G
   walk_at "rd"
   obtain⟨q,k0,k3⟩:=keep;refine⟨r.2,rfl,true,rfl,?_⟩;rw[ac (by decide)];exact⟨_,_,rfl,rfl⟩
  ·rintro σ Y ⟨o,I,rfl,rfl⟩;have keep:=aI q (aI g (aI d (aI ok (aI bare (aI c l)))));clear q g d ok bare c l R
   walk_at "rd"
   obtain⟨q,g,d,ok,bare,c,l⟩:=keep;refine⟨U,.inl g,λJ2 O=>?_⟩;refine cN O (SX S Y) ⟨none,none,rfl,rfl,rfl⟩ (by rintro i B σ H' _ ⟨_,_,_,rfl,_⟩;rfl) ?_ ?_
   ·rintro i x B σ H3 C ⟨o,I,rfl,rfl,rfl⟩;obtain⟨r,t,v,rfl,G⟩:=d.get C;have hi:=(cj.mp v).1;refine⟨t,_,rfl,iU.of G,rfl,_,_,rfl,_,_,rfl,rfl,_,rfl,?_⟩;dsimp only[tC];rw[rEqD_ii];refine⟨ak (m:=100) (by simp;omega) (by decide),_,_,rfl,rfl,?_⟩;rw[aY v,ax,ax];rfl
   ·rintro B σ H3 ⟨o,I,rfl,rfl,rfl⟩ Z L;rw[l,bp];refine⟨Z,rfl,_,upd_same,?_⟩;have z:((S.map λr=>decide (r.2=0)).any id)=true:=by obtain⟨r,u,e⟩:=bare;rw[List.any_eq_true];exact⟨true,cr.mpr ⟨r,u,bd e⟩,rfl⟩
    rw[z,ac (by decide)];exact q _ (aF.upd L)
noncomputable def nots (sm:bG):aN:=(sm.map (·.2)).filter λ(x:Str)=>decide (x≠("" : Str))
def rN:Sp:=λvs H Q _=>∃(a b:Addr) (sm:bG) (sv:List V) (zs:aN),vs=[.ref a,.ref b]/\H a=some (.lst sv)/\fR H sm sv/\H b=some (.lst (zs.map V.str))/\(∀r∈sm,r.2≠("" : Str)->r.2∈zs)/\(nots sm).Nodup/\sm.length<=50/\∀H',aF H H'->Q .non H'
def SZ (a b:Addr)(H:Hp)(i:Nat)(σ:St)(e:Hp):Prop:=∃o d c:Option V,σ=[some (.ref a),some (.ref b),o,d,c]/\e=H
def S0 (sm:bG)(H:Hp)(i:Nat)(a:List V)(σ:St)(c:Hp):Prop:=∃o b:Option V,σ=[o,b]/\c=H/\a=(nots (sm.take i)).map V.str
theorem GK (sm:bG)(r:Str×Str):nots (sm++[r])=nots sm++(if r.2=("" : Str)then []else [r.2]):=by unfold nots;rw[ax,List.filter_append];congr 1;by_cases z:r.2=("" : Str) <;> simp[z]
theorem yU (sm:bG):(nots sm).length<=sm.length:=by unfold nots;exact ao (List.length_filter_le _ _) (by rw[af];exact ae _)
theorem yT {f:Addr}{fd:FuncData}(F:fJ K "check_noughts" "check_noughts" dY f fd)(T:Txt mg):bN P w K mg base bH 1 f fd kE rN:=by
 refine F.ok fW (λvs H Q E h=>?_) (λcdv A outer s H vs Q E hr h=>?_)
 ·obtain⟨a,b,sm,X,W,rfl,_⟩:=h;rfl
 ·obtain⟨a,b,sm,X,W,rfl,g,d,u,ok,nd,c,q⟩:=h;have G:=hr.units
  refine⟨_,(aD (fE de rfl (cE K rfl (pv 0)) (gL K rfl (i:=2) (j:=3) rfl fW.nd rfl rfl rfl rfl) (aG (bK (PW.pt (iA (cR (aP K rfl (aL aK rfl T.n_isinstance rfl (aA (pv 3) (aA (bJ (v:=V.ty "str") rfl T.n_str rfl rfl) aB))) (λ_=>rfl))) (fN (PW.pt (IX (bC (iC G) (pv 3) cS (nomark _)) (DU (bC (GA G) (pv 3) (pv 1) (by with_unfolding_all rfl)))))))) (aG eJ) aW)))
   (aD (iS (i:=4) fW.nd rfl rfl rfl rfl (bD.by (N:=fC) (names:=(aH dY).names) (N':=["name","nought"]) (src:=[none,none]) (by decide +kernel) rfl rfl) (cE K rfl (pv 0)) (λ_ _ _ _=>(gL K rfl (i:=0) (j:=1) rfl (show List.Nodup (["name","nought"]:aN)by decide +kernel) rfl rfl rfl rfl)) (λ_ _ _ _=>(lL (bC (iC G) (pv 1) cS (nomark _)))) (λ_ _ _ _=>(pv 1)))
   (aG (bK (bC (r9 G) (aL vD rfl T.n_len rfl (aA (cH (vC rfl) rfl T.n_set rfl (aA (pv 4) aB)) aB)) (aL cD rfl T.n_len rfl (aA (pv 4) aB)) (nomark _)) (aG eJ) aW)))),?_⟩
  simp only[fC];clear hr F T G;have keep:=aI q (aI g (aI d (aI u (aI ok (aI nd c)))));clear q g d u ok nd c
  walk_at "rd"
  obtain⟨q,g,d,u,ok,nd,c⟩:=keep;have C:=d.len;refine⟨X,.inl g,λJ hJ=>?_⟩;refine gG hJ (SZ a b H) ⟨none,none,none,rfl,rfl⟩ (by rintro i σ H' _ ⟨_,_,_,_,rfl⟩;rfl) ?_ ?_
  ·rintro i x σ H2 S ⟨o,Z,Y,rfl,rfl⟩;obtain⟨r,t,I,rfl,U⟩:=d.get S;have e:=ok r (bf I);refine⟨t,_,rfl,iU.of U,rfl,_,_,rfl,_,_,rfl,rfl,?_⟩;have keep:=aI q (aI e u);clear q g d u ok nd c C hJ S I U e
   walk_at "rd"
   obtain⟨q,e,u⟩:=keep;refine⟨true,rfl,?_⟩;rw[ac (by decide)];refine⟨!decide (r.2=("" : Str)),by simp,?_⟩;by_cases z:r.2=("" : Str)
   ·rw[ac (by simp[z])];exact⟨_,_,_,rfl,rfl⟩
   ·rw[aj (by simp[z])];refine⟨.str r.2,W.map D.str,rfl,.inl ⟨b,_,rfl,u,lK W⟩,by rw[dep_strs];decide,_,rfl,?_⟩;rw[ac]
    ·exact⟨_,_,_,rfl,rfl⟩
    ·rw[zK,bd (e z)];decide
  ·rintro σ H2 ⟨o,Z,Y,rfl,rfl⟩;have keep:=aI q (aI g (aI d (aI nd (aI c C))));clear q g d ok u nd c C hJ
   walk_at "rd"
   obtain⟨q,g,d,nd,c,C⟩:=keep;refine⟨X,.inl g,λJ2 hJ2=>?_⟩;refine cN hJ2 (S0 sm H2) ⟨none,none,rfl,rfl,rfl⟩ (by rintro i O σ H' _ ⟨_,_,_,rfl,_⟩;rfl) ?_ ?_
   ·rintro i x O σ R S ⟨o,Z,rfl,rfl,rfl⟩;obtain⟨r,t,I,rfl,U⟩:=d.get S;have hi:=(cj.mp I).1;have hk:=yU (sm.take i);rw[bo]at hk;have L:=GK (sm.take i) r;rw[←aY I]at L;refine⟨t,_,rfl,iU.of U,rfl,_,_,rfl,_,_,rfl,rfl,_,rfl,?_⟩;dsimp only[tC];rw[rNeD_ss];refine⟨_,rfl,?_⟩;by_cases z:r.2=("" : Str)
    ·rw[ac (by simp[z])];rw[aj z,bh]at L;exact⟨_,_,rfl,rfl,by rw[L]⟩
    ·rw[aj (by simp[z])];rw[ac z]at L;exact⟨_,rfl,ak (m:=100) (by rw[af];omega) (by decide),_,_,rfl,rfl,by rw[L,ax];rfl⟩
   ·rintro O σ R ⟨o,Z,rfl,rfl,rfl⟩ l hl;rw[C,bp];have B:upd R l (.lst ((nots sm).map V.str)) l=some (.lst ((nots sm).map V.str)):=upd_same;have s3:aF R (upd R l (.lst ((nots sm).map V.str))):=aF.upd hl;generalize upd R l (.lst ((nots sm).map V.str))=H4 at B s3⊢;have hk:=yU sm;refine⟨l,nots sm,rfl,B,nd,by omega,λp hp=>⟨p,(nots sm).length,rfl,upd_same,.int (nots sm).length,?_,.inl (.inl ⟨_,rfl,_,rfl,?_⟩)⟩⟩
    ·have:=(aF.upd (o:=AD P w p (nots sm).length) hp) _ _ B;show Option.map _ ((lenV (upd H4 p (AD P w p (nots sm).length)) (.ref l)).bind _)=_;rw[lenV_l this,af];rfl
    ·rw[ac (by omega)];exact q _ (s3.trans (aF.upd hp))
structure OP (K:PySem.W.Frag)(C:Addr):Prop where
 cls:HJ K C
 n1:gU K C "fixed_rows"
 n2:gU K C "sum_rows"
 n3:gU K C "many_by_name"
 n4:gU K C "nought_by_name"
theorem cY.pairs {H:Hp}{f:cG}{a:List V}(h:cY H f a):lW H a:=λv b=>by obtain⟨i,d⟩:=List.getElem?_of_mem b;obtain⟨r,t,_,e,c⟩:=h.get d;exact⟨t,_,_,e,c⟩
theorem fR.pairs {H:Hp}{sm:bG}{a:List V}(h:fR H sm a):lW H a:=λv b=>by obtain⟨i,d⟩:=List.getElem?_of_mem b;obtain⟨r,t,_,e,c⟩:=h.get d;exact⟨t,_,_,e,c⟩
theorem cY.prs {H:Hp}:∀{b:cG} {fv:List V},cY H b fv->fv.map (prV H)=(b.map λr=>((.inr r.1,V.int r.2):fU×V)).map (λa=>some (kV a.1,a.2))
 | [],_,e=>by cases e;rfl
 | r::l,_,⟨t,us,e,h,q⟩=>by subst e;rw[aS,cY.prs q];unfold prV;simp only[h];rfl
theorem J0 {a:cG}(nd:(a.map (·.1)).Nodup):iY [] (a.map λr=>((.inr r.1,V.int r.2):fU×V))=a.map λr=>(.inr r.1,V.int r.2):=by
 rw[mT]
 ·rfl
 ·rw[List.nil_append,cf];exact List.pairwise_map.mpr ((List.pairwise_map.mp nd).imp λh e=>h (Sum.inr.inj e))
def A8 (K:PySem.W.Frag)(C:Addr):Sp:=λvs H Q _=>∃(x c a b:Addr) (fx:cG) (sm:bG) (fv sv:List V),vs=[.ref x,.ref a,.ref b]/\H x=some (.ins C c [])/\H a=some (.lst fv)/\H b=some (.lst sv)/\cY H fx fv/\fR H sm sv/\bF fx sm /\
 ∀H',eE x H H'->eP K C fx sm H' x->Q .non H'
def SO (c:cG)(H:Hp)(i:Nat)(a:List V)(σ:St)(d:Hp):Prop:=∃o b:Option V,σ=[o,b]/\d=H/\a=(zeros (c.take i)).map V.str
theorem AV (a:cG):(zeros a).length<=a.length:=by unfold zeros;rw[af];exact List.length_filter_le _ _
theorem M3 {f C:Addr}{fd:FuncData}(F:fJ K "__init__" "Signs.__init__" bY f fd)(T:Txt mg)(co:OP K C)(d:dM P w K mg base bH 1 "checked_pairs" DL)(u:dM P w K mg base bH 2 "check_names" x4)(l:dM P w K mg base bH 2 "check_parts" DK)(g:dM P w K mg base bH 1 "check_noughts" rN):bN P w K mg base bH 3 f fd fY (A8 K C):=by
 refine F.ok fL (λvs H Q E h=>?_) (λcdv A outer s H vs Q E hr h=>?_)
 ·obtain⟨x,v,a,b,B,sm,I,L,rfl,_⟩:=h;rfl
 ·obtain⟨x,v,a,b,B,sm,I,L,rfl,hx,ha,hb,W,rs,so,q⟩:=h;have hu:=hr.units
  refine⟨_,(aD (aZ (i:=3) fL.nd rfl (Or.inl rfl) (aM d (hr.mono (by decide)) pass0 rfl (aA (pv 1) (aA aJ (aA (eL T.c_MOST_FIXED rfl) aB)))))
   (aD (aZ (i:=4) fL.nd rfl (Or.inl rfl) (aM d (hr.mono (by decide)) pass0 rfl (aA (pv 2) (aA aJ (aA (eL T.c_MOST_SUMS rfl) aB)))))
   (aD (cB (aM u (hr.mono (by decide)) pass0 rfl (aA (bV cV (pv 3) (pv 4)) aB)))
   (aD (cB (aM l (hr.mono (by decide)) pass0 rfl (aA (pv 3) aB)))
   (aD (cB (aM g (hr.mono (by decide)) pass0 rfl (aA (pv 4) (aA (eF rfl (bD.by (N:=eU) (names:=(aH bY).names) (N':=["name","many"]) (src:=[none,none]) (by decide +kernel) rfl rfl) (cE K rfl (pv 3)) (λ_ _ _ _=>(gL K rfl (i:=0) (j:=1) rfl (show List.Nodup (["name","many"]:aN)by decide +kernel) rfl rfl rfl rfl)) (λ_ _ _ _=>(lL (bC (eD hu) (pv 1) aJ (nomark _)))) (λ_ _ _ _=>(pv 0))) aB))))
   (aD (wE (pv 0) (pv 3) rfl)
   (aD (wE (pv 0) (pv 4) rfl)
   (aD (wE (pv 0) (cH (mY rfl) rfl T.n_dict rfl (aA (pv 3) aB)) rfl)
   (aG (wE (pv 0) (cH (mY rfl) rfl T.n_dict rfl (aA (pv 4) aB)) rfl)))))))))),?_⟩
  simp only[eU];clear hr F T hu d u l g;have keep:=aI q (aI hx (aI ha (aI hb (aI W (aI rs (aI so co))))));clear q hx ha hb W rs so co
  walk_at "rd"
  obtain⟨q,hx,ha,hb,W,rs,so,co⟩:=keep;have lf:=W.len;have ls:=rs.len;have f1:=so.f1;have f2:=so.f2;have s2':=so.s2;have ndf:=(List.nodup_append.mp so.nd).1;have nds':=(List.nodup_append.mp so.nd).2.1;refine⟨a,1,12,I,rfl,ha,W.pairs,by omega,by omega,by omega,λO H1 s1 hl1 h1=>?_⟩;refine⟨b,0,3,L,rfl,s1 _ _ hb,rs.pairs.same s1,by omega,by omega,by omega,λX H2 s2 hl2 h2=>?_⟩;have nxl1:x≠O:=aE hx hl1;have nxl2:x≠X:=aE (s1 _ _ hx) hl2;refine .inr ⟨.lst (I++L),oG (s2 _ _ h1) h2 (ao (m:=100) (by omega) (by decide)),λl3 hl3=>?_⟩;have s3:=(s1.trans s2).trans (aF.upd (o:=.lst (I++L)) hl3);have h13:=(aF.upd (o:=.lst (I++L)) hl3) _ _ (s2 _ _ h1);have h23:=(aF.upd (o:=.lst (I++L)) hl3) _ _ h2;have h33:upd H2 l3 (.lst (I++L)) l3=some (.lst (I++L)):=upd_same;generalize upd H2 l3 (.lst (I++L))=H3 at s3 h13 h23 h33⊢;refine⟨l3,B.map (·.1)++sm.map (·.1),I++L,rfl,h33,iL.app (iL.same s3 W.n) (iL.same s3 rs.n),so.nm,so.nd,by simp;omega,λH4 s4=>?_⟩;refine⟨O,B,I,rfl,s4 _ _ h13,W.same (bE.of (s3.trans s4)),so.parts,so.bare,by omega,λH5 s5=>?_⟩;have h15:=s5 _ _ (s4 _ _ h13);have h25:=s5 _ _ (s4 _ _ h23);have sH5:=(s3.trans s4).trans s5;have rf5:=W.same (bE.of sH5);have rs5:=rs.same (bE.of sH5);refine⟨O,rfl,I,.inl h15,λJ hJ=>?_⟩;refine cN hJ (SO B H5) ⟨none,none,rfl,rfl,rfl⟩ (by rintro i acc σ H' _ ⟨_,_,_,rfl,_⟩;rfl) ?_ ?_
  ·rintro i y acc σ H6 hy ⟨o,o',rfl,rfl,rfl⟩;obtain⟨r,t,hn,rfl,ht⟩:=rf5.get hy;have hi:=(cj.mp hn).1;have hk:=AV (B.take i);rw[bo]at hk;have e1:=AU (B.take i) r;rw[←aY hn]at e1;refine⟨t,_,rfl,iU.of ht,rfl,_,_,rfl,_,_,rfl,rfl,_,rfl,?_⟩;dsimp only[tC];rw[rEqD_ii];refine⟨_,rfl,?_⟩;by_cases z:r.2=0
   ·rw[aj (bd z)];rw[aj z]at e1;exact⟨_,rfl,ak (m:=100) (by rw[af];omega) (by decide),_,_,rfl,rfl,by rw[e1,ax];rfl⟩
   ·rw[ac (by simpa using z)];rw[ac z,bh]at e1;exact⟨_,_,rfl,rfl,by rw[e1]⟩
  ·rintro acc σ H6 ⟨o,o',rfl,rfl,rfl⟩ l6 hl6;rw[lf,bp];have s6:aF H6 (upd H6 l6 (.lst ((zeros B).map V.str))):=aF.upd hl6;have h66:upd H6 l6 (.lst ((zeros B).map V.str)) l6=some (.lst ((zeros B).map V.str)):=upd_same;generalize upd H6 l6 (.lst ((zeros B).map V.str))=H7 at s6 h66⊢;refine⟨X,l6,sm,L,zeros B,rfl,s6 _ _ h25,rs5.same (bE.of s6),h66,so.nought,so.once,by omega,λH8 s8=>?_⟩;have U:=(sH5.trans s6).trans s8;have h18:=s8 _ _ (s6 _ _ h15);have h28:=s8 _ _ (s6 _ _ h25);have hx8:=U _ _ hx;have rf8:=W.same (bE.of U);have rs8:=rs.same (bE.of U);refine⟨_,rfl,_,rfl,x,C,v,[],rfl,hx8,co.cls,co.n1,by decide,?_⟩;refine⟨_,rfl,_,rfl,x,C,v,_,rfl,upd_same,co.cls,co.n2,?_,?_⟩
   ·have:=fH ("fixed_rows" : Str) (.ref O) [];simp only[List.length_nil]at this;omega
   rw[upd_upd];have e9:∀(fs:List (Str×V)),aF (del H8 x) (upd H8 x (.ins C v fs)):=λfs b o e=>by obtain⟨z1,z2⟩:=gH e;rw[aC z2];exact z1
   have l2f:(putF ("sum_rows" : Str) (.ref X) (putF ("fixed_rows" : Str) (.ref O) [])).length<=2:=by have:=fH ("sum_rows" : Str) (.ref X) (putF ("fixed_rows" : Str) (.ref O) []);have:=fH ("fixed_rows" : Str) (.ref O) [];simp only[List.length_nil]at this;omega
   have k1:(putF ("sum_rows" : Str) (.ref X) (putF ("fixed_rows" : Str) (.ref O) [])).lookup ("many" : Str)=none:=by rw[cA,ac (by decide),cA,ac (by decide)];rfl
   have k2:(putF ("sum_rows" : Str) (.ref X) (putF ("fixed_rows" : Str) (.ref O) [])).lookup ("nought" : Str)=none:=by rw[cA,ac (by decide),cA,ac (by decide)];rfl
   generalize putF ("sum_rows" : Str) (.ref X) (putF ("fixed_rows" : Str) (.ref O) [])=fs2 at l2f k1 k2⊢;have t9:bE H8 (upd H8 x (.ins C v fs2)):=λc xs e=>by rw[aC (λz=>by rw[z,hx8]at e;cases e)];exact e
   have Y:upd H8 x (.ins C v fs2) x=some (.ins C v fs2):=upd_same;have b9:eE x H (upd H8 x (.ins C v fs2)):=λc o nc e=>by rw[aC nc];exact U _ _ e
   have h19:upd H8 x (.ins C v fs2) O=some (.lst I):=by rw[aC nxl1.symm];exact h18
   have h29:upd H8 x (.ins C v fs2) X=some (.lst L):=by rw[aC nxl2.symm];exact h28
   have rf9:=rf8.same t9;have rs9:=rs8.same t9;generalize upd H8 x (.ins C v fs2)=H9 at t9 Y b9 h19 h29 rf9 rs9⊢;refine⟨_,rfl,O,I,_,rfl,h19,rf9.prs,λG hd3=>?_⟩;rw[J0 ndf];have nx3:x≠G:=aE Y hd3;refine⟨_,rfl,x,C,v,fs2,rfl,by rw[aC nx3];exact Y,co.cls,co.n3,by omega,?_⟩;have l3f:=fH ("many_by_name" : Str) (.ref G) fs2;have k3:(putF ("many_by_name" : Str) (.ref G) fs2).lookup ("many" : Str)=none:=by rw[cA,ac (by decide)];exact k1
   have k4:(putF ("many_by_name" : Str) (.ref G) fs2).lookup ("nought" : Str)=none:=by rw[cA,ac (by decide)];exact k2
   have k5:(putF ("many_by_name" : Str) (.ref G) fs2).lookup ("many_by_name" : Str)=some (.ref G):=by rw[cA,aj rfl]
   generalize putF ("many_by_name" : Str) (.ref G) fs2=fs3 at l3f k3 k4 k5⊢;have s10:aF H9 (upd H9 G (.dK (B.map λr=>(.inr r.1,.int r.2)))):=aF.upd hd3;have R:upd (upd H9 G (.dK (B.map λr=>(.inr r.1,.int r.2)))) x (.ins C v fs3) x=some (.ins C v fs3):=upd_same;have S:upd (upd H9 G (.dK (B.map λr=>(.inr r.1,.int r.2)))) x (.ins C v fs3) G=some (.dK (B.map λr=>(.inr r.1,.int r.2))):=by rw[aC nx3.symm];exact upd_same
   have Z:eE x H9 (upd (upd H9 G (.dK (B.map λr=>(.inr r.1,.int r.2)))) x (.ins C v fs3)):=λc o nc e=>by rw[aC nc];exact s10 _ _ e
   generalize upd (upd H9 G (.dK (B.map λr=>(.inr r.1,.int r.2)))) x (.ins C v fs3)=H11 at R S Z⊢;have t11:bE H9 H11:=λc xs e=>Z c _ (λz=>by rw[z,Y]at e;cases e) e;refine⟨_,rfl,X,L,_,rfl,Z _ _ nxl2.symm h29,(rs9.same t11).prs,λd4 hd4=>?_⟩;rw[y3 nds'];have nx4:x≠d4:=aE R hd4;have n34:G≠d4:=aE S hd4;refine⟨_,rfl,x,C,v,fs3,rfl,by rw[aC nx4];exact R,co.cls,co.n4,by omega,?_⟩;refine q _ (λc o nc e=>?_) ⟨co.cls,co.n3,co.n4,v,_,G,d4,upd_same,by rw[cA,ac (by decide)];exact k3,by rw[cA,ac (by decide)];exact k4,by rw[cA,ac (by decide)];exact k5,by rw[cA,aj rfl],by rw[aC nx3.symm,aC n34];exact S,by rw[aC nx4.symm];exact upd_same⟩;rw[aC nc];exact(aF.upd hd4) _ _ (Z c o nc (b9 c o nc e))
end
mutual
def NF (sm:bG):D->Prop
 | .tup (.str n::ds)=>NFs sm ds/\∀z,zr sm n=some z->2<=ds.length/\ds.Pairwise leK/\∀e∈ds,opn1 n z e=[e]
 | _=>True
def NFs (sm:bG):List D->Prop
 | []=>True
 | d::ds=>NF sm d/\NFs sm ds
end
theorem wQ {sm:bG}:∀{ds:List D},NFs sm ds->∀d∈ds,NF sm d
 | _::_,⟨a,b⟩,d,h=>by
  obtain rfl|h:=cm.mp h
  ·exact a
  ·exact wQ b d h
theorem JZ {sm:bG}:∀{ds:List D},(∀d∈ds,NF sm d)->NFs sm ds
 | [],_=>trivial
 | d::ds,h=>⟨h d av,JZ λe k=>h e (ay _ k)⟩
theorem MK {sm:bG}{n z:Str}(hz:zr sm n=some z){d:D}(h:NF sm d):∀e∈opn1 n z d,NF sm e/\opn1 n z e=[e]:=by
 intro e a;have rest:∀d':D,(∀m es,d'≠.tup (.str m::es))->opn1 n z d'=if eqD d' (.str z)=true then []else [d']:=λd' hd=>by
  unfold opn1;split
  ·rename_i m es;exact absurd rfl (hd m es)
  ·rfl
 by_cases c:∃m es,d = .tup (.str m::es)
 ·obtain⟨m,es,rfl⟩:=c;by_cases f:m=n
  ·subst f;have b:opn1 m z (.tup (.str m::es))=es:=by rw[opn1,aj rfl]
   rw[b]at a;unfold NF at h;exact⟨wQ h.1 e a,(h.2 z hz).2.2 e a⟩
  ·have b:opn1 n z (.tup (.str m::es))=[.tup (.str m::es)]:=by rw[opn1,ac f]
   rw[b]at a;cases ck.mp a;exact⟨h,b⟩
 ·have b:=rest d λm es z=>c ⟨m,es,z⟩;by_cases q:eqD d (.str z)=true
  ·rw[b,aj q]at a;cases a
  ·rw[ac q]at b;rw[b]at a;cases ck.mp a;exact⟨h,b⟩
theorem JH {sm:bG}{n z:Str}(hz:zr sm n=some z){ds:List D}(h:NFs sm ds):∀e∈opn n z ds,NF sm e/\opn1 n z e=[e]:=λe a=>by obtain⟨d,c,b⟩:=List.mem_flatMap.mp a;exact MK hz (wQ h d c) e b
theorem EF {sm:bG}{n:Str}{ps:List D}(f:Fls ps)(h:NFs sm ps):NF sm (knot sm n ps):=by
 unfold knot;cases hz:zr sm n with
 | none =>
  dsimp only;unfold NF;exact⟨h,λz e=>by rw[hz]at e;cases e⟩
 | some z =>
  dsimp only;have g:=bU (opn n z ps);have so:=gF (dS (rY (n:=n) (z:=z) f));have a:∀e∈eM (opn n z ps),NF sm e/\opn1 n z e=[e]:=λe i=>JH hz h e (g.mem_iff.mp i);generalize eM (opn n z ps)=l at so a
  match l,so,a with
  | [],_,_=>unfold one NF;trivial
  | [d],_,a=>exact(a d (ck.mpr rfl)).1
  | d::e::l,so,a =>
   show NF sm (.tup (.str n::d::e::l));unfold NF;refine⟨JZ λx c=>(a x c).1,λj b=>?_⟩;rw[hz]at b;cases b;exact⟨by simp,so,λx c=>(a x c).2⟩
mutual
theorem QN {sm:bG}(hz:∀r∈sm,r.2=("" : Str)∨Fl (.str r.2)):∀{d:D},Tm d->NF sm (flt sm d)
 | .str x,_=>by
  have:flt sm (.str x) = .str x:=by unfold flt;rfl
  rw[this];unfold NF;trivial
 | .tup (.str n::ds),h=>by
  unfold Tm at h;rw[flt];exact EF (fQ hz h.2).1 (rA hz h.2)
 | .lst (.str n::ds),h=>by unfold Tm at h;rw[flt];exact EF (fQ hz h.2).1 (rA hz h.2)
theorem rA {sm:bG}(hz:∀r∈sm,r.2=("" : Str)∨Fl (.str r.2)):∀{ds:List D},Tms ds->NFs sm (flts sm ds)
 | [],_=>trivial
 | d::ds,⟨a,b⟩=>by rw[flts];exact⟨QN hz a,rA hz b⟩
end
theorem GT {sm:bG}{n z:Str}{ps a:List D}(hz:zr sm n=some z)(f:Fls ps)(p:(opn n z ps).Perm (opn n z a)):knot sm n ps=knot sm n a:=by unfold knot;rw[hz];dsimp only;have f1:=dS (rY (n:=n) (z:=z) f);have f2:∀d∈opn n z a,Fl d:=λd hd=>f1 d (p.mem_iff.mpr hd);rw[mM (λd hd=>f1 d ((bU _).mem_iff.mp hd)) ((bU _).trans (p.trans (bU _).symm)) (gF f1) (gF f2)]
theorem F6 {sm:bG}{n z:Str}{a:List D}(hz:zr sm n=some z)(h:NFs sm a):(opn1 n z (knot sm n a)).Perm (opn n z a):=by
 unfold knot;rw[hz];dsimp only;have c:=bU (opn n z a);have b:∀e∈eM (opn n z a),opn1 n z e=[e]:=λe f=>(JH hz h e (c.mem_iff.mp f)).2;refine List.Perm.trans ?_ c;generalize eM (opn n z a)=l at b
 match l,b with
 | [],_ =>
  show(opn1 n z (.str z)).Perm [];have:opn1 n z (.str z)=[]:=by unfold opn1;dsimp only;rw[aj (by simp[eqD])]
  rw[this]
 | [d],b=>rw[show one n z [d]=d from rfl,b d (ck.mpr rfl)]
 | d::e::l,b =>
  show(opn1 n z (.tup (.str n::d::e::l))).Perm _;rw[opn1,aj rfl]
theorem lP {c:cG}{sm:bG}{os:aN}:∀{ds:List D},IsTms c sm os ds->∀d∈ds,aV c sm os d
 | _::_,⟨a,b⟩,d,h=>by
  obtain rfl|h:=cm.mp h
  ·exact a
  ·exact lP b d h
theorem zJ {a:cG}{sm:bG}{os:aN}:∀{ds:List D},(∀d∈ds,aV a sm os d)->IsTms a sm os ds
 | [],_=>trivial
 | d::ds,h=>⟨h d av,zJ λe k=>h e (ay _ k)⟩
theorem MI {b:cG}{sm:bG}{os:aN}{n z:Str}{d:D}(h:aV b sm os d):∀e∈opn1 n z d,aV b sm os e:=by
 intro e a;unfold opn1 at a;split at a
 ·rename_i m es;split at a
  ·unfold aV at h;exact lP h.2 e a
  ·cases ck.mp a;exact h
 ·split at a
  ·cases a
  ·cases ck.mp a;exact h
theorem N9 {sm:bG}{n z:Str}(h:zr sm n=some z):∃r∈sm,r.1=n/\r.2=z:=by unfold zr at h;obtain⟨r,a,c⟩:=Option.map_eq_some_iff.mp h;have b:=List.find?_some a;exact⟨r,List.mem_of_find?_eq_some a,bn b,c⟩
theorem ED {a:cG}{sm:bG}{os:aN}{n:Str}{ps:List D}(so:bF a sm)(f:Fls ps)(b:Nbs ps)(h:IsTms a sm os ps)(hd:pQ a sm n ps.length):aV a sm os (knot sm n ps):=by
 unfold knot;cases hz:zr sm n with
 | none=>dsimp only;unfold aV;exact⟨hd,h⟩
 | some z =>
  dsimp only;obtain⟨r,m,o,j⟩:=N9 hz;have g:=bU (opn n z ps);have c:∀e∈eM (opn n z ps),aV a sm os e:=λe s=>by obtain⟨d,i,u⟩:=List.mem_flatMap.mp (g.mem_iff.mp s);exact MI (lP h d i) e u
  have ne:z=("" : Str)->eM (opn n z ps)≠[]:=λe q=>by subst e;have i:=JI (n:=n) f b (λe=>by rw[e]at hd;have:=k9 hd;simp at this);rw[q]at g;exact i (List.Perm.eq_nil g.symm)
  generalize eM (opn n z ps)=l at c ne
  match l,c,ne with
  | [],_,ne =>
   show aV a sm os (.str z);unfold aV;refine .inr ?_;rw[←j];exact so.nought r m λe=>ne (by rw[←j];exact e) rfl
  | [d],c,_=>exact c d (ck.mpr rfl)
  | d::e::l,c,_ =>
   show aV a sm os (.tup (.str n::d::e::l));unfold aV;exact⟨.inr ⟨by simp,by rw[←o];exact cr.mpr ⟨r,m,rfl⟩⟩,zJ c⟩
mutual
theorem QL {a:cG}{sm:bG}{os:aN}(so:bF a sm)(ho:∀x∈os,cI x):∀{d:D},aV a sm os d->aV a sm os (flt sm d)
 | .str x,h=>by
  have:flt sm (.str x) = .str x:=by unfold flt;rfl
  rw[this];exact h
 | .tup (.str n::ds),h=>by
  unfold aV at h;have t:=(oV so ho h.2).1;have g:=fQ (iD so) t;rw[flt];exact ED so g.1 g.2 (xC so ho h.2) (by rw[dP,af];exact h.1)
 | .lst (.str n::ds),h=>by
  unfold aV at h;have t:=(oV so ho h.2).1;have g:=fQ (iD so) t;rw[flt];exact ED so g.1 g.2 (xC so ho h.2) (by rw[dP,af];exact h.1)
 | .non,h | .bl _,h | .int _,h | .tup [],h | .lst [],h | .tup (.non::_),h | .tup (.bl _::_),h | .tup (.int _::_),h | .tup (.tup _::_),h | .tup (.lst _::_),h | .lst (.non::_),h | .lst (.bl _::_),h | .lst (.int _::_),h | .lst (.tup _::_),h | .lst (.lst _::_),h=>by unfold aV at h;exact absurd h id
theorem xC {c:cG}{sm:bG}{os:aN}(so:bF c sm)(ho:∀x∈os,cI x):∀{ds:List D},IsTms c sm os ds->IsTms c sm os (flts sm ds)
 | [],_=>trivial
 | d::ds,⟨a,b⟩=>by rw[flts];exact⟨QL so ho a,xC so ho b⟩
end
mutual
noncomputable def asD (b:Bool):D->D
 | .tup (.str n::ds)=>if b=true then .lst (.str n::asDs b ds)else .tup (.str n::asDs b ds)
 | .lst (.str n::ds)=>if b=true then .lst (.str n::asDs b ds)else .tup (.str n::asDs b ds)
 | d=>d
noncomputable def asDs (b:Bool):List D->List D
 | []=>[]
 | d::ds=>asD b d::asDs b ds
end
theorem lC (b:Bool):∀ds:List D,asDs b ds=ds.map (asD b)
 | []=>rfl
 | d::ds=>by rw[asDs,lC b ds];rfl
mutual
theorem xN {i:cG}{sm:bG}{os:aN}(b:Bool):∀{d:D},aV i sm os d->flt sm (asD b d)=flt sm d/\aV i sm os (asD b d)/\lvs (asD b d)=lvs d/\depD (asD b d)=depD d
 | .str x,h=>by
  have:asD b (.str x) = .str x:=by unfold asD;rfl
  rw[this];exact⟨rfl,h,rfl,rfl⟩
 | .tup (.str n::ds),h=>by
  unfold aV at h;obtain⟨g,f,e,c⟩:=sW b h.2;have a:(asDs b ds).length=ds.length:=by rw[lC,af]
  rw[asD];cases b with
  | true =>
   rw[aj rfl];refine⟨by rw[flt,flt,g],by unfold aV;rw[a];exact⟨h.1,f⟩,by rw[lvs,lvs,e],by rw[depD,depD,depDs,depDs,c]⟩
  | false =>
   rw[ac (by decide)];refine⟨by rw[flt,flt,g],by unfold aV;rw[a];exact⟨h.1,f⟩,by rw[lvs,lvs,e],by rw[depD,depD,depDs,depDs,c]⟩
 | .lst (.str n::ds),h=>by
  unfold aV at h;obtain⟨g,f,e,c⟩:=sW b h.2;have a:(asDs b ds).length=ds.length:=by rw[lC,af]
  rw[asD];cases b with
  | true =>
   rw[aj rfl];refine⟨by rw[flt,flt,g],by unfold aV;rw[a];exact⟨h.1,f⟩,by rw[lvs,lvs,e],by rw[depD,depD,depDs,depDs,c]⟩
  | false =>
   rw[ac (by decide)];refine⟨by rw[flt,flt,g],by unfold aV;rw[a];exact⟨h.1,f⟩,by rw[lvs,lvs,e],by rw[depD,depD,depDs,depDs,c]⟩
 | .non,h | .bl _,h | .int _,h | .tup [],h | .lst [],h | .tup (.non::_),h | .tup (.bl _::_),h | .tup (.int _::_),h | .tup (.tup _::_),h | .tup (.lst _::_),h | .lst (.non::_),h | .lst (.bl _::_),h | .lst (.int _::_),h | .lst (.tup _::_),h | .lst (.lst _::_),h=>by unfold aV at h;exact absurd h id
theorem sW {a:cG}{sm:bG}{os:aN}(b:Bool):∀{ds:List D},IsTms a sm os ds->flts sm (asDs b ds)=flts sm ds/\IsTms a sm os (asDs b ds)/\lvss (asDs b ds)=lvss ds/\depDs (asDs b ds)=depDs ds
 | [],_=>⟨rfl,trivial,rfl,rfl⟩
 | d::ds,⟨x,y⟩=>by obtain⟨l,j,i,h⟩:=xN b x;obtain⟨g,f,e,c⟩:=sW b y;rw[asDs];exact⟨by rw[flts,flts,l,g],⟨j,f⟩,by rw[lvss,lvss,i,e],by rw[depDs,depDs,h,c]⟩
end
section
variable {P:Program}{w:World}{K:PySem.W.Frag}{mg:gX}{base:Heap}
mutual
noncomputable def lfs:D->aN
 | .str x=>[x]
 | .tup (.str _::ds)=>lfss ds
 | .lst (.str _::ds)=>lfss ds
 | _=>[]
noncomputable def lfss:List D->aN
 | []=>[]
 | d::ds=>lfs d++lfss ds
end
noncomputable def txD:D->Option Str
 | .str x=>some x
 | _=>none
mutual
theorem m9:∀{d:D},Wk d->(wlk d).filterMap txD=lfs d
 | .str x,_=>by rw[wlk,lfs] <;> simp[txD]
 | .tup (.str n::ds),h=>by
  unfold Wk at h;rw[wlk,lfs,List.filterMap_cons];exact oR h
 | .lst (.str n::ds),h=>by
  unfold Wk at h;rw[wlk,lfs,List.filterMap_cons];exact oR h
 | .non,h | .bl _,h | .int _,h | .tup [],h | .lst [],h | .tup (.non::_),h | .tup (.bl _::_),h | .tup (.int _::_),h | .tup (.tup _::_),h | .tup (.lst _::_),h | .lst (.non::_),h | .lst (.bl _::_),h | .lst (.int _::_),h | .lst (.tup _::_),h | .lst (.lst _::_),h=>by unfold Wk at h;exact absurd h id
theorem oR:∀{ds:List D},Wks ds->(wlks ds).filterMap txD=lfss ds
 | [],_=>by rw[wlks,lfss];rfl
 | d::ds,⟨a,b⟩=>by rw[wlks,lfss,List.filterMap_append,m9 a,oR b]
end
mutual
theorem j0:∀{d:D},Wk d->(lfs d).length=lvs d
 | .str x,_=>by
  have:lvs (.str x)=1:=by rw[lvs] <;> simp
  rw[lfs,this];rfl
 | .tup (.str n::ds),h=>by
  unfold Wk at h;rw[lfs,lvs];exact nZ h
 | .lst (.str n::ds),h=>by
  unfold Wk at h;rw[lfs,lvs];exact nZ h
 | .non,h | .bl _,h | .int _,h | .tup [],h | .lst [],h | .tup (.non::_),h | .tup (.bl _::_),h | .tup (.int _::_),h | .tup (.tup _::_),h | .tup (.lst _::_),h | .lst (.non::_),h | .lst (.bl _::_),h | .lst (.int _::_),h | .lst (.tup _::_),h | .lst (.lst _::_),h=>by unfold Wk at h;exact absurd h id
theorem nZ:∀{ds:List D},Wks ds->(lfss ds).length=lvss ds
 | [],_=>by rw[lfss,lvss];rfl
 | d::ds,⟨a,b⟩=>by rw[lfss,lvss,aq,j0 a,nZ b]
end
mutual
theorem CA {b:cG}{sm:bG}{os:aN}:∀{d:D},aV b sm os d->∀x∈lfs d,aV b sm os (.str x)
 | .str y,h=>λx a=>by
  rw[lfs,ck]at a;rw[a];exact h
 | .tup (.str n::ds),h=>λx a=>by
  unfold aV at h;rw[lfs]at a;exact wU h.2 x a
 | .lst (.str n::ds),h=>λx a=>by
  unfold aV at h;rw[lfs]at a;exact wU h.2 x a
 | .non,h | .bl _,h | .int _,h | .tup [],h | .lst [],h | .tup (.non::_),h | .tup (.bl _::_),h | .tup (.int _::_),h | .tup (.tup _::_),h | .tup (.lst _::_),h | .lst (.non::_),h | .lst (.bl _::_),h | .lst (.int _::_),h | .lst (.tup _::_),h | .lst (.lst _::_),h=>by unfold aV at h;exact absurd h id
theorem wU {e:cG}{sm:bG}{os:aN}:∀{ds:List D},IsTms e sm os ds->∀x∈lfss ds,aV e sm os (.str x)
 | [],_=>λx c=>by rw[lfss]at c;cases c
 | d::ds,⟨a,b⟩=>λx c=>by
  rw[lfss,cp]at c;rcases c with h|h
  ·exact CA a x h
  ·exact wU b x h
end
mutual
theorem HL:∀{d:D},Wk d->∀e∈wlk d,Wk e
 | .str x,h=>λe a=>by
  have:wlk (.str x)=[.str x]:=by rw[wlk] <;> simp
  rw[this,ck]at a;rw[a];exact h
 | .tup (.str n::ds),h=>λe a=>by
  rw[wlk,cm]at a;rcases a with z|z
  ·rw[z];exact h
  ·unfold Wk at h;exact vP h e z
 | .lst (.str n::ds),h=>λe a=>by
  rw[wlk,cm]at a;rcases a with z|z
  ·rw[z];exact h
  ·unfold Wk at h;exact vP h e z
 | .non,h | .bl _,h | .int _,h | .tup [],h | .lst [],h | .tup (.non::_),h | .tup (.bl _::_),h | .tup (.int _::_),h | .tup (.tup _::_),h | .tup (.lst _::_),h | .lst (.non::_),h | .lst (.bl _::_),h | .lst (.int _::_),h | .lst (.tup _::_),h | .lst (.lst _::_),h=>by unfold Wk at h;exact absurd h id
theorem vP:∀{ds:List D},Wks ds->∀e∈wlks ds,Wk e
 | [],_=>λe c=>by rw[wlks]at c;cases c
 | d::ds,⟨a,b⟩=>λe c=>by
  rw[wlks,cp]at c;rcases c with z|z
  ·exact HL a e z
  ·exact vP b e z
end
theorem met {d e:D}{G H:Hp}{v:V}(f:Wk d)(g:e∈wlk d)(c:aX G e v)(s:aF G H):(∃y,e = .str y/\v = .str y)∨(txD e=none/\∃a xs,v = .ref a/\eV H a xs/\isV H (.ref a) (.ty "str")=some false):=by
 rcases HM (HL f e g)with⟨y,rfl⟩|⟨n,ds,rfl|rfl,_⟩
 ·exact .inl ⟨y,rfl,c⟩
 ·obtain⟨a,vs,rfl,b,_⟩:=c;exact .inr ⟨rfl,a,vs,rfl,.inr (s _ _ b),fX (s _ _ b)⟩
 ·obtain⟨a,vs,rfl,b,_⟩:=c;exact .inr ⟨rfl,a,vs,rfl,.inl (s _ _ b),iE (s _ _ b)⟩
theorem DE {ds:List D}{i:Nat}{e:D}(a:ds[i]?=some e)(h:txD e=none):(ds.take (i+1)).filterMap txD=(ds.take i).filterMap txD:=by rw[aY a,List.filterMap_append,List.filterMap_cons,h,List.filterMap_nil,bh]
theorem vR {ds:List D}{i:Nat}{y:Str}(a:ds[i]?=some (.str y)):(ds.take (i+1)).filterMap txD=(ds.take i).filterMap txD++[y]:=by rw[aY a,List.filterMap_append];rfl
theorem OX (d:D)(i:Nat)(h:nds d<=1000):(((wlk d).take i).filterMap txD).length<=1000:=by have c:=List.length_filterMap_le txD ((wlk d).take i);have b:=List.length_take_le' i (wlk d);have a:=lG d;omega
noncomputable def isQ (x:Str):Bool:=x.cps.toList.head? == some 63
theorem AX {x:Str}(h:cI x):isQ x=true:=by obtain⟨l,rfl,_⟩:=h;rfl
theorem B1 {x:Str}(h:fZ x):isQ x=false:=by
 unfold isQ;cases e:x.cps.toList.head? with
 | none=>rfl
 | some c =>
  have m:c∈x.cps.toList:=List.mem_of_head? e;have:=h.2.2 c (by simpa using m);have ne:c≠63:=by omega
  simp[ne]
noncomputable def dzs (a:aN)(x:Str):aN:=if isQ x=true then(if x∈a then a else a++[x])else a
noncomputable def dz (l:aN):aN:=l.foldl dzs []
theorem EY (l:aN)(x:Str):dz (l++[x])=dzs (dz l) x:=by simp[dz,List.foldl_append]
theorem M9 {x:Str}:∀(l c:aN),x∈l.foldl dzs c ↔ x∈c∨(x∈l/\isQ x=true)
 | [],c=>by simp
 | y::l,c=>by
  rw[List.foldl_cons,M9 l];unfold dzs;by_cases d:isQ y=true
  ·rw[aj d];by_cases e:y∈c
   ·rw[aj e,cm];constructor
    ·rintro(h|⟨a,b⟩)
     ·exact .inl h
     ·exact .inr ⟨.inr a,b⟩
    ·rintro(h|⟨a|a,b⟩)
     ·exact .inl h
     ·exact .inl (a ▸ e)
     ·exact .inr ⟨a,b⟩
   ·rw[ac e,cp,ck,cm];constructor
    ·rintro((h|h)|⟨a,b⟩)
     ·exact .inl h
     ·exact .inr ⟨.inl h,h ▸ d⟩
     ·exact .inr ⟨.inr a,b⟩
    ·rintro(h|⟨a|a,b⟩)
     ·exact .inl (.inl h)
     ·exact .inl (.inr a)
     ·exact .inr ⟨a,b⟩
  ·rw[ac d,cm];constructor
   ·rintro(h|⟨a,b⟩)
    ·exact .inl h
    ·exact .inr ⟨.inr a,b⟩
   ·rintro(h|⟨a|a,b⟩)
    ·exact .inl h
    ·exact absurd (a ▸ b) d
    ·exact .inr ⟨a,b⟩
theorem EW:∀(l a:aN),(l.foldl dzs a).length<=a.length+l.length
 | [],a=>by simp
 | y::l,a=>by
  rw[List.foldl_cons];have c:=EW l (dzs a y);have b:(dzs a y).length<=a.length+1:=by
   unfold dzs;split
   ·split
    ·omega
    ·simp
   ·omega
  simp only[ap];omega
theorem K1 (l:aN):(dz l).length<=l.length:=by
 have:=EW l []
 simpa [dz] using this
theorem EC {b:cG}{sm:bG}{os:aN}{x:Str}(so:bF b sm)(ho:∀x∈os,cI x)(h:aV b sm os (.str x)):cI x∨fZ x:=by
 rcases rJ h with⟨y,e,a⟩|⟨n,ds,e|e,_⟩
 ·cases e;rcases a with a|a
  ·exact .inl (ho x a)
  ·unfold zeros at a;obtain⟨r,c,rfl⟩:=cr.mp a;exact .inr (so.nm _ (bS _ (cr.mpr ⟨r,(cw.mp c).1,rfl⟩)))
 ·cases e
 ·cases e
theorem DO {H H':Hp}{a:Addr}(s:aF H H')(h:H' a=none):H a=none:=by
 cases e:H a with
 | none=>rfl
 | some o=>rw[s _ _ e]at h;cases h
def x6 (K:PySem.W.Frag)(C:Addr):Sp:=λvs H Q _=>∃(g:Addr) (fx:cG) (sm:bG) (os:aN) (d:D) (v:V),vs=[.ref g,v]/\eP K C fx sm H g/\aX H d v/\pM fx sm os d/\∀H',aF H H'->Q (.int (lvs d)) H'
def S2 (ds:List D)(H:Hp)(i:Nat)(a:List V)(σ:St)(c:Hp):Prop:=∃b:Option V,σ=[b]/\aF H c/\a=((ds.take i).filterMap txD).map V.str
theorem GI {f C:Addr}{O:FuncData}(F:fJ K "leaves" "leaves" kT f O)(T:Txt mg)(b:dM P w K mg base bH 3 "check_term" (jP K C))(c:dM P w K mg base bH 1 "walked" jB):bN P w K mg base bH 4 f O AI (x6 K C):=by
 refine F.ok FX (λvs H Q E h=>?_) (λcdv A outer s H vs Q E z h=>?_)
 ·obtain⟨g,L,sm,os,d,v,rfl,_⟩:=h;rfl
 ·obtain⟨g,L,sm,os,d,v,rfl,sg,rep,tr,q⟩:=h;have Y:=z.units
  refine⟨_,(aD (cB (aM b (z.mono (by decide)) pass0 rfl (aA (pv 0) (aA (pv 1) aB))))
   (aG (aO (aL cD rfl T.n_len rfl (aA (eF rfl (bD.by (N:=oO) (names:=(aH kT).names) (N':=["at"]) (src:=[none]) (by decide +kernel) rfl rfl) (cE K rfl (aM c (z.mono (by decide)) pass0 rfl (aA (pv 1) aB))) (λ_ _ _ _=>(bA (i:=0) (show List.Nodup (["at"]:aN)by decide +kernel) rfl (Or.inl rfl))) (λ_ _ _ _=>(lL (aP K rfl (aL aK rfl T.n_isinstance rfl (aA (pv 0) (aA (bJ (v:=V.ty "str") rfl T.n_str rfl rfl) aB))) (λ_=>rfl)))) (λ_ _ _ _=>(pv 0))) aB))))),?_⟩
  simp only[oO];clear z F T Y b c;have keep:=aI q (aI sg (aI rep tr));clear q sg rep tr
  walk_at "rd"
  obtain⟨q,sg,rep,tr⟩:=keep;have l1:=tr.lv;have B:=tr.nd;have l3:=tr.dp;have u:=uF tr.tm;refine⟨g,L,sm,os,d,v,rfl,sg,tr.so,tr.ho,rep,tr.tm,by omega,by omega,B,λH1 I=>?_⟩;refine⟨d,v,H1,rfl,aF.refl _,aX.same I rep,u,B,λl R H2 s2 hl1 o res=>?_⟩;refine⟨l,rfl,R,.inl o,λJ hJ=>?_⟩;have e0:=Reps.len res;refine cN hJ (S2 (wlk d) H2) ⟨none,rfl,aF.refl _,rfl⟩ ?_ ?_ ?_
  ·rintro i r σ H' _ ⟨_,_,j,_⟩;rw[o,j _ _ o]
  ·rintro i x r σ H3 X ⟨U,rfl,j,rfl⟩;obtain⟨e,G,S⟩:=Reps.get res X;have W:((((wlk d).take i).filterMap txD).map V.str).length<sizeLine:=ak (m:=1000) (by rw[af];exact OX d i B) (by decide);rcases met u (bf G) S (s2.trans j)with⟨y,rfl,rfl⟩|⟨hn,a,xs,rfl,hs,hf⟩
   ·walk_at "rd"
    refine⟨true,rfl,?_⟩;rw[aj rfl];exact⟨_,rfl,j,by rw[vR G,ax];rfl⟩
   ·walk_at "rd"
    exact⟨_,rfl,j,by rw[DE G hn]⟩
  ·rintro r σ H3 ⟨U,rfl,j,rfl⟩ p Z;rw[lenV_l upd_same,e0,bp,m9 u,af,j0 u];exact⟨_,rfl,q _ (((I.trans s2).trans j).trans (aF.upd Z))⟩
def xY (K:PySem.W.Frag)(C:Addr):Sp:=λvs H Q _=>∃(g:Addr) (fx:cG) (sm:bG) (os:aN) (d:D) (v:V),vs=[.ref g,v]/\eP K C fx sm H g/\aX H d v/\pM fx sm os d /\
 ∀(l:Addr) (ys:aN) (H':Hp),aF H H'->H l=none->H' l=some (.lst (ys.map V.str))->ys.Perm (dz (lfs d))->PyProof.Rows.sortedS ys=true->Q (.ref l) H'
def SR (ds:List D)(H:Hp)(i:Nat)(a:aN)(σ:St)(c:Hp):Prop:=∃b:Option V,σ=[b]/\aF H c/\a=dz ((ds.take i).filterMap txD)
theorem GB {f C:Addr}{X:FuncData}(F:fJ K "wishes" "wishes" kR f X)(T:Txt mg)(b:dM P w K mg base bH 3 "check_term" (jP K C))(j:dM P w K mg base bH 1 "walked" jB)(c:dM P w K mg base bH 1 "is_wish" A6):bN P w K mg base bH 4 f X AE (xY K C):=by
 refine F.ok FT (λvs H Q E h=>?_) (λcdv A outer s H vs Q E G h=>?_)
 ·obtain⟨g,W,sm,os,d,v,rfl,_⟩:=h;rfl
 ·obtain⟨g,W,sm,os,d,v,rfl,sg,rep,tr,q⟩:=h;have hu:=G.units
  refine⟨_,(aD (cB (aM b (G.mono (by decide)) pass0 rfl (aA (pv 0) (aA (pv 1) aB))))
   (aG (aO (aL (p0 rfl) rfl T.n_sorted rfl (aA (BK rfl (bD.by (N:=oM) (names:=(aH kR).names) (N':=["at"]) (src:=[none]) (by decide +kernel) rfl rfl) (cE K rfl (aM j (G.mono (by decide)) pass0 rfl (aA (pv 1) aB))) (λ_ _ _ _=>(bA (i:=0) (show List.Nodup (["at"]:aN)by decide +kernel) rfl (Or.inl rfl))) (λ_ _ _ _=>(lL (aP K rfl (aM c (G.mono (by decide)) pass0 rfl (aA (pv 0) aB)) (λ_=>rfl)))) (λ_ _ _ _=>(pv 0))) aB))))),?_⟩
  simp only[oM];clear G F T hu b j c;have keep:=aI q (aI sg (aI rep tr));clear q sg rep tr
  walk_at "rd"
  obtain⟨q,sg,rep,tr⟩:=keep;have l1:=tr.lv;have U:=tr.nd;have l3:=tr.dp;have r:=uF tr.tm;refine⟨g,W,sm,os,d,v,rfl,sg,tr.so,tr.ho,rep,tr.tm,by omega,by omega,U,λH1 S=>?_⟩;dsimp only;rw[FL]
  walk_at "rd"
  refine⟨d,v,H1,rfl,aF.refl _,aX.same S rep,r,U,λl ws H2 s2 hl1 z res=>?_⟩;refine⟨l,rfl,ws,.inl z,λJ hJ=>?_⟩;have e0:=Reps.len res;refine LA hJ (SR (wlk d) H2) ⟨none,rfl,aF.refl _,rfl⟩ ?_ ?_ ?_
  ·rintro i O σ H' _ ⟨_,_,m,_⟩;rw[z,m _ _ z]
  ·rintro i x O σ Y hx ⟨o0,rfl,m,rfl⟩;obtain⟨e,L,re⟩:=Reps.get res hx;have lim:(dz (((wlk d).take i).filterMap txD)).length<1000:=by
    have h1:=K1 (((wlk d).take i).filterMap txD);have h2:(((wlk d).take i).filterMap txD).length<=(lfs d).length:=by rw[←m9 r];exact((List.take_sublist i (wlk d)).filterMap txD).length_le
    have h3:=j0 r;omega
   unfold DC;rcases met r (bf L) re (s2.trans m)with⟨y,rfl,rfl⟩|⟨u,a,xs,rfl,hs,hf⟩
   ·walk_at "rd"
    have my:y∈lfs d:=by rw[←m9 r];exact List.mem_filterMap.mpr ⟨_,bf L,rfl⟩
    rcases EC tr.so tr.ho (CA tr.tm y my)with B|u
    ·refine .inl ⟨y,rfl,.inl B,λH' s'=>⟨λ_=>⟨true,rfl,?_⟩,λu=>?_⟩⟩
     ·rw[aj rfl];refine⟨_,rfl,m.trans s',?_⟩;rw[vR L,EY];unfold dzs;rw[aj (AX B)]
     ·have:=AX B;rw[B1 u]at this;cases this
    ·refine .inl ⟨y,rfl,.inr u,λH' s'=>⟨λB=>?_,λ_=>⟨false,rfl,?_⟩⟩⟩
     ·have:=AX B;rw[B1 u]at this;cases this
     ·rw[ac (by decide)];refine⟨_,rfl,m.trans s',?_⟩;rw[vR L,EY];unfold dzs;rw[B1 u,ac (by decide)]
   ·walk_at "rd"
    refine .inr ⟨a,xs,rfl,hs,false,rfl,?_⟩;rw[ac (by decide)];exact⟨_,rfl,m,by rw[DE L u]⟩
  ·rintro O σ Y ⟨o0,rfl,m,rfl⟩ p hp;rw[e0,bp,m9 r];have s4:aF H Y:=(S.trans s2).trans m;refine⟨p,dz (lfs d),rfl,.inl upd_same,(by have h1:=K1 (lfs d);have h2:=j0 r;omega),λZ pm so p2 I=>?_⟩;have R:=s4.trans (aF.upd hp (o:=iV P w p (dz (lfs d))));exact q p2 Z _ (R.trans (aF.upd I)) (DO R I) upd_same pm so
theorem D4:∀{ds:List D} {i:Nat} {d:D},ds[i]?=some d->nds d<=ndss ds
 | [],_,_,h=>by simp at h
 | e::ds,0,d,h=>by
  simp at h;subst h;rw[ndss];omega
 | e::ds,i+1,d,h=>by have:=D4 (ds:=ds) (i:=i) (d:=d) (by simpa using h);rw[ndss];omega
theorem kF {b:cG}{sm:bG}{os:aN}{d e:D}{n:Str}{ds:List D}(t:pM b sm os d)(hd:d = .tup (.str n::ds)∨d = .lst (.str n::ds))(c:e∈ds):pM b sm os e/\depD e<depD d:=by
 obtain⟨i,a⟩:=List.getElem?_of_mem c;have m:=oE a;have l:=wR a;have j:=D4 a;have h:depD d=depDs ds+1:=by
  rcases hd with rfl|rfl
  ·rw[depD,depDs,show depD (.str n)=0 from rfl];omega
  ·rw[depD,depDs,show depD (.str n)=0 from rfl];omega
 have g:lvs d=lvss ds:=by rcases hd with rfl|rfl <;> rw[lvs]
 have f:nds d=1+ndss ds:=by rcases hd with rfl|rfl <;> rw[nds]
 have tm:IsTms b sm os ds:=by have:=t.tm;rcases hd with rfl|rfl <;> (unfold aV at this;exact this.2)
 have r:=t.lv;have q:=t.nd;have o:=t.dp;exact⟨⟨t.so,t.ho,lP tm e c,by omega,by omega,by omega⟩,by omega⟩
theorem uT:∀(ds:List D) (d:D),lfss (ds++[d])=lfss ds++lfs d
 | [],d=>by rw[List.nil_append,lfss,lfss,lfss,bh,List.nil_append]
 | e::ds,d=>by rw[List.cons_append,lfss,lfss,uT ds d,cg]
theorem GP {ds:List D}(i:Nat)(h:Wks ds):(lfss (ds.take i)).length<=lvss ds:=by
 have:∀(ds:List D) (i:Nat),(lfss (ds.take i)).length<=(lfss ds).length:=by
  intro ds
  induction ds with
  | nil=>intro i;simp
  | cons d ds a =>
   intro i;cases i with
   | zero=>rw[List.take_zero,lfss];simp
   | succ i=>rw[List.take_succ_cons,lfss,lfss,aq,aq];have:=a i;omega
 rw[←nZ h];exact this ds i
def jD (n:Nat):Sp:=λvs H Q _=>∃(a:cG) (sm:bG) (os:aN) (d:D) (v:V),vs=[v]/\aX H d v/\pM a sm os d/\depD d<=n/\∀(l:Addr) (H':Hp),aF H H'->H l=none->H' l=some (.lst ((lfs d).map V.str))->Q (.ref l) H'
def S6 (v:V)(ds:List D)(H b:Hp)(i:Nat)(σ:St)(a:Hp):Prop:=∃(f:Addr) (o2:Option V),σ=[some v,some (.ref f),o2]/\aF b a/\H f=none/\a f=some (.lst ((lfss (ds.take i)).map V.str))
theorem BT {f:Addr}{fd:FuncData}(n:Nat)(F:fJ K "_law_leaves" "_law_leaves" d8 f fd)(T:Txt mg)(b:dM P w K mg base bH (n+1) "_law_leaves" (λvs H Q E=>∃m,m<n/\jD m vs H Q E)):bN P w K mg base bH (n+2) f fd e8 (jD n):=by
 refine F.ok fK (λvs H Q E h=>?_) (λcdv A outer s H vs Q E U h=>?_)
 ·obtain⟨fx,sm,os,d,v,rfl,_⟩:=h;rfl
 ·obtain⟨fx,sm,os,d,v,rfl,rep,tr,Y,q⟩:=h;have hu:=U.units
  refine⟨_,(aD (bK (aP K rfl (aL aK rfl T.n_isinstance rfl (aA (pv 0) (aA (bJ (v:=V.ty "str") rfl T.n_str rfl rfl) aB))) (λ_=>rfl)) (aG (aO (cM (aA (pv 0) aB)))) aW)
   (aD (aZ (i:=1) fK.nd rfl (Or.inl rfl) (cM aB))
   (aD (fE de rfl (cE K rfl (eK kM (pv 0) (cP aJ) dG)) (bA (i:=2) fK.nd rfl (Or.inl rfl)) (aG (aZ (i:=1) fK.nd rfl (Or.inl rfl) (bV cV (pv 1) (aM b (U.mono (by omega)) pass0 rfl (aA (pv 2) aB))))))
   (aG (aO (pv 1)))))),?_⟩
  simp only[mI];clear U F T hu b;have keep:=aI q (aI rep (aI tr Y));clear q rep tr Y
  walk_at "rd"
  obtain⟨q,rep,tr,Y⟩:=keep;rcases rJ tr.tm with⟨x,rfl,Z⟩|⟨nm,ds,hd,hdo,R⟩
  ·cases (show v = .str x from rep);refine⟨true,rfl,?_⟩;rw[aj rfl];exact⟨by decide,λp I=>q p _ (aF.upd I) I (by rw[upd_same,lfs];rfl)⟩
  ·obtain⟨j,c,rfl,hbb,hseq,res⟩:∃j c,v = .ref j/\isV H (.ref j) (.ty "str")=some false/\eV H j (.str nm::c)/\Reps H ds c:=by
    rcases hd with rfl|rfl
    ·obtain⟨a,vs,rfl,L,_,c,rfl,X,r⟩:=rep;cases X;exact⟨a,c,rfl,fX L,.inr L,r⟩
    ·obtain⟨a,vs,rfl,L,_,c,rfl,X,r⟩:=rep;cases X;exact⟨a,c,rfl,iE L,.inl L,r⟩
   refine⟨false,hbb,?_⟩;rw[ac (by decide)];refine⟨au _,λp I=>?_⟩;have o:aF H (upd H p (.lst [])):=aF.upd I;have hq:eV (upd H p (.lst [])) j (.str nm::c):=by rcases hseq with e|e;exact .inl (o _ _ e);exact .inr (o _ _ e)
   refine⟨j,rfl,_,hq,λ_ h=>?_,λu B G l=>?_⟩
   ·have:=h.1;simp[HT.sIx]at this
   ·rw[j6]at l;have gp:upd H p (.lst []) p=some (.lst []):=upd_same;generalize upd H p (.lst [])=Hp0 at o hq G l gp⊢;have z:aF Hp0 (upd Hp0 u B):=aF.upd G;have W:upd Hp0 u B u=some B:=upd_same;have h1:eV (upd Hp0 u B) u c:=by rcases l with⟨rfl,_⟩|⟨rfl,_⟩;exact .inl upd_same;exact .inr upd_same
    generalize upd Hp0 u B=H0 at z W h1⊢;have lim:lvss ds<=50:=by
     have h3:=tr.lv;have h2:lvs d=lvss ds:=by rcases hd with rfl|rfl <;> rw[lvs]
     omega
    have O:=qS R;refine⟨c,h1,λJ hJ=>?_⟩;refine gG hJ (S6 (.ref j) ds H H0) ⟨p,none,rfl,aF.refl _,I,by rw[z _ _ gp,List.take_zero,lfss];rfl⟩ ?_ ?_ ?_
    ·rintro i σ H' _ ⟨_,_,_,g,_⟩;rw[W,g _ _ W]
    ·rintro i x σ H1 Z ⟨fo,o2,rfl,g,N,f1⟩;obtain⟨e,he,re⟩:=Reps.get res Z;obtain⟨t,hdp⟩:=kF tr hd (bf he);have keep:=aI q (aI g (aI N f1));clear q g N f1
     walk_at "rd"
     obtain⟨q,g,N,f1⟩:=keep;refine⟨depD e,by omega,fx,sm,os,e,x,rfl,aX.same ((o.trans z).trans g) re,t,ae _,λl2 H2 s2 l20 S=>?_⟩;refine⟨_,oG (s2 _ _ f1) S (ao (m:=100) ?_ (by decide)),λp2 C=>?_⟩
     ·rw[af,af];have h2:=GP i O;have h3:=j0 (uF t.tm);have h4:=t.lv;omega
     ·refine⟨p2,_,rfl,(g.trans s2).trans (aF.upd C),DO (((o.trans z).trans g).trans s2) C,?_⟩;rw[upd_same,aY he,uT,ax]
    ·rintro σ H1 ⟨fo,o2,rfl,g,N,f1⟩
     walk_at "rd"
     have e0:=Reps.len res;rw[e0,bp]at f1;have el:lfs d=lfss ds:=by rcases hd with rfl|rfl <;> rw[lfs]
     exact q _ _ ((o.trans z).trans g) N (by rw[f1,el])
theorem CK {f:Addr}{a:FuncData}(F:fJ K "_law_leaves" "_law_leaves" d8 f a)(T:Txt mg)(i:mg "_law_leaves" = some (.ref f))(j:PySem.W.keepIn K (.ref f)=true)(b:dZ K a e8 []):∀n,bN P w K mg base bH (n+2) f a e8 (jD n):=by
 intro n
 induction n using Nat.strongRecOn with
 | ind n d =>
  exact BT n F T ⟨f,a,_,⟨λvs H Q E ⟨m,c,h⟩=>(d m c).len vs H Q E h,λA outer s H args us vs Q E g l b e ⟨m,c,h⟩=>((d m c).mono (by omega)).run A outer s H args us vs Q E g l b e h⟩,i,j,b⟩
theorem yS {f:Addr}{a:FuncData}(F:fJ K "_law_leaves" "_law_leaves" d8 f a)(T:Txt mg)(b:mg "_law_leaves" = some (.ref f))(c:PySem.W.keepIn K (.ref f)=true)(d:dZ K a e8 [])(n:Nat):dM P w K mg base bH (n+2) "_law_leaves" (jD n):=⟨f,a,_,CK F T b c d n,b,c,d⟩
theorem QA {y:Str}(h:cI y∨fZ y):∃c r,y.cps.toList=c::r/\y.length<=sizeLine/\isQ y=decide (c=63):=by
 have key:∀{c r},y.cps.toList=c::r->isQ y=decide (c=63):=λ{c r} e=>by unfold isQ;rw[e,List.head?_cons];by_cases h:c=63 <;> simp[h]
 rcases h with h|h
 ·obtain⟨l,rfl,_,a,_⟩:=id h;refine⟨63,l,rfl,ao (m:=20) ?_ (by decide),key rfl⟩;show(63::l).toArray.size<=20;rw[ai,ap];omega
 ·have b:=h.1;have a:=h.2.1;cases e:y.cps.toList with
  | nil=>rw[e]at b;exact absurd b (by simp)
  | cons c r =>
   refine⟨c,r,rfl,ao (m:=20) ?_ (by decide),key e⟩;rw[bj]at a;exact ao a (by decide)
theorem dep_strs:∀(l:aN),depDs (l.map D.str)=0
 | []=>by rw[List.map_nil,depDs]
 | x::l=>by rw[aS,depDs,dep_strs l];rfl
theorem K9 (xs:List V)(n:Nat):cutV xs none (some (n:Int))=xs.take n:=by
 unfold cutV;rw[HT.sIx_nat,HT.sIx_none];rcases Nat.le_total n xs.length with h|h
 ·rw[Nat.min_eq_left h];simp
 ·rw[Nat.min_eq_right h];simp[List.take_of_length_le h]
end
mutual
/-- a term's text -/
noncomputable def wrL:D->List Nat
 | .str x=>x.cps.toList
 | .tup (.str n::ds)=>n.cps.toList++40::wrJ ds
 | .lst (.str n::ds)=>n.cps.toList++40::wrJ ds
 | _=>[]
/-- the parts' texts,what parts them,and the last bracket -/
noncomputable def wrJ:List D->List Nat
 | []=>[41]
 | [d]=>wrL d++[41]
 | d::e::r=>wrL d++44::wrJ (e::r)
end
noncomputable def wrS (d:D):Str:=⟨(wrL d).toArray⟩
noncomputable def itr:List D->List D
 | []=>[.str ⟨#[41]⟩]
 | [d]=>[d,.str ⟨#[41]⟩]
 | d::e::r=>d :: .str ⟨#[44]⟩::itr (e::r)
noncomputable def wrs (ds:List D):List Nat:=ds.flatMap wrL
theorem DD:∀ds:List D,wrs (itr ds)=wrJ ds
 | []=>rfl
 | [d]=>by rw[itr,wrJ];unfold wrs;simp[wrL]
 | d::e::r=>by have a:=DD (e::r);rw[itr,wrJ,←a];unfold wrs;simp[wrL]
noncomputable def pcs (n:Str)(ds:List D):List D:=.str n :: .str ⟨#[40]⟩::itr ds
theorem LP (n:Str)(ds:List D):wrs (pcs n ds)=n.cps.toList++40::wrJ ds:=by rw[←DD];unfold pcs wrs;simp[wrL]
mutual
noncomputable def ms:D->Nat
 | .tup (.str _::ds)=>4+mss ds
 | .lst (.str _::ds)=>4+mss ds
 | _=>1
noncomputable def mss:List D->Nat
 | []=>0
 | d::ds=>ms d+1+mss ds
end
theorem P7:∀d:D,1<=ms d:=by intro d;unfold ms;split <;> omega
theorem D7:∀ds:List D,ds.length<=mss ds
 | []=>ae _
 | d::ds=>by have a:=D7 ds;rw[mss,ap];omega
noncomputable def mS (ds:List D):Nat:=(ds.map ms).sum
theorem J4:∀ds:List D,mS (itr ds)<=mss ds+1
 | []=>by rw[itr,mss];decide
 | [d]=>by
  rw[itr,mss,mss];unfold mS;simp[ms]
 | d::e::r=>by have a:=J4 (e::r);rw[itr,mss];unfold mS at a⊢;simp only[aS,List.sum_cons,show ms (D.str ⟨#[44]⟩)=1 from by unfold ms;rfl];omega
theorem P9 (n:Str)(ds:List D):mS (pcs n ds)<4+mss ds:=by have h:=J4 ds;unfold pcs mS at *;simp only[aS,List.sum_cons,show ms (D.str ⟨#[40]⟩)=1 from by unfold ms;rfl,show ms (D.str n)=1 from by unfold ms;rfl];omega
theorem vO:∀{ds:List D},ds≠[]->(wrJ ds).length=(ds.map λd=>(wrL d).length+1).sum
 | [],h=>absurd rfl h
 | [d],_=>by rw[wrJ];simp
 | d::e::r,_=>by have a:=vO (ds:=e::r) (by simp);rw[wrJ,aq,ap,a,aS (l:=e::r),List.sum_cons];omega
def Pl (x:Str):Prop:=x.cps.toList.length<=9/\∀c∈x.cps.toList,c≠40/\c≠41/\c≠44/\c<128
theorem D5 {x:Str}(h:fZ x):Pl x:=⟨by have:=h.2.1;omega,λc a=>by have:=h.2.2 c a;omega⟩
theorem LQ {x:Str}(h:cI x):Pl x:=by
 obtain⟨l,rfl,e,d,b⟩:=h;refine⟨by simp;omega,λc a=>?_⟩;simp only[cm]at a;rcases a with rfl|a
 ·decide
 ·have:=b c a;unfold isWd at this;omega
section
variable {fx:cG}{sm:bG}{os:aN}
theorem pX (so:bF fx sm){n:Str}{k:Nat}(h:pQ fx sm n k):Pl n:=by
 refine D5 (so.nm n ?_);rcases h with⟨_,h⟩|⟨_,h⟩
 ·exact bS _ (cr.mpr ⟨_,h,rfl⟩)
 ·exact br _ h
theorem qZ (so:bF fx sm)(ho:∀x∈os,cI x){x:Str}(h:aV fx sm os (.str x)):Pl x:=by
 unfold aV at h;rcases h with h|h
 ·exact LQ (ho x h)
 ·exact D5 (so.nm x (bS _ ((tZ fx).subset h)))
theorem sO {n:Str}{k:Nat}(h:pQ fx sm n k):0<k:=by rcases h with⟨h,_⟩|⟨h,_⟩ <;> omega
mutual
theorem xX (so:bF fx sm)(ho:∀x∈os,cI x):∀{d:D},aV fx sm os d->(wrL d).length+1<=12 * nds d/\ms d+1<=6 * nds d
 | .str x,h=>by
  have:=(qZ so ho h).1;have e:nds (.str x)=1:=by unfold nds;rfl
  have g:ms (.str x)=1:=by unfold ms;rfl
  have f:wrL (.str x)=x.cps.toList:=by unfold wrL;rfl
  rw[e,g,f];omega
 | .tup (.str n::ds),h=>by
  unfold aV at h;have c:=(pX so h.1).1;have ne:ds≠[]:=λz=>by have:=sO h.1;rw[z]at this;exact absurd this (by simp)
  obtain⟨a,b⟩:=A4 so ho h.2;rw[←vO ne]at a;rw[wrL,ms,nds,aq,ap];omega
 | .lst (.str n::ds),h=>by
  unfold aV at h;have c:=(pX so h.1).1;have ne:ds≠[]:=λz=>by have:=sO h.1;rw[z]at this;exact absurd this (by simp)
  obtain⟨a,b⟩:=A4 so ho h.2;rw[←vO ne]at a;rw[wrL,ms,nds,aq,ap];omega
 | .non,h | .bl _,h | .int _,h | .tup [],h | .lst [],h | .tup (.non::_),h | .tup (.bl _::_),h | .tup (.int _::_),h | .tup (.tup _::_),h | .tup (.lst _::_),h | .lst (.non::_),h | .lst (.bl _::_),h | .lst (.int _::_),h | .lst (.tup _::_),h | .lst (.lst _::_),h=>by unfold aV at h;exact absurd h id
theorem A4 (so:bF fx sm)(ho:∀x∈os,cI x):∀{ds:List D},IsTms fx sm os ds->(ds.map λd=>(wrL d).length+1).sum<=12 * ndss ds/\mss ds<=6 * ndss ds
 | [],_=>by rw[ndss,mss];simp
 | d::ds,⟨x,y⟩=>by obtain⟨a,b⟩:=xX so ho x;obtain⟨e,c⟩:=A4 so ho y;rw[ndss,mss,aS,List.sum_cons];omega
end
noncomputable def prs1 (c:Nat)(st:List (List D)×D):Option (List (List D)×D) :=
 if c=44∨c=41 then
  match st.1 with
  | []=>none
  | t::r=>if c=41 then some (r,.tup (t++[st.2]))else some ((t++[st.2])::r,.str ⟨#[]⟩)
 else match st.2 with
  | .str x=>if c=40 then some ([.str x]::st.1,.str ⟨#[]⟩)else some (st.1,.str ⟨x.cps.push c⟩)
  | _=>none
noncomputable def prs:List Nat->List (List D)×D->Option (List (List D)×D)
 | [],st=>some st
 | c::r,st=>(prs1 c st).bind (prs r)
theorem jX:∀(a b:List Nat) (st:List (List D)×D),prs (a++b) st=(prs a st).bind (prs b)
 | [],b,st=>rfl
 | c::a,b,st=>by
  rw[List.cons_append,prs,prs];cases prs1 c st with
  | none=>rfl
  | some d=>exact jX a b d
theorem IZ {l:List Nat}{i c:Nat}{b st e:List (List D)×D}(j:l[i]?=some c)(g:prs (l.take i) b=some st)(d:prs l b=some e):∃a,prs1 c st=some a/\prs (l.take (i+1)) b=some a:=by
 have o:l.take (i+1)=l.take i++[c]:=by rw[List.take_add_one,j];rfl
 have m:l=l.take (i+1)++l.drop (i+1):=(List.take_append_drop _ _).symm;have f:prs (l.take (i+1)) b=prs1 c st:=by rw[o,jX,g];show(prs1 c st).bind (prs [])=_;cases prs1 c st <;> rfl
 cases h:prs1 c st with
 | none =>
  rw[m,jX,f,h]at d;cases d
 | some a=>exact⟨a,rfl,by rw[f,h]⟩
theorem yL (st:List (List D)):∀(l:List Nat) (x:Str),(∀c∈l,c≠40/\c≠41/\c≠44)->prs l (st,.str x)=some (st,.str ⟨x.cps++l.toArray⟩)
 | [],x,_=>by rw[prs];simp
 | c::l,x,h=>by
  obtain⟨b,f,d⟩:=h c av;rw[prs];have e:prs1 c (st,.str x)=some (st,.str ⟨x.cps.push c⟩):=by unfold prs1;rw[ac (by omega)];exact ac b
  rw[e];show prs l (st,.str ⟨x.cps.push c⟩)=_;rw[yL st l _ λc a=>h c (ay _ a)];congr 3;simp
theorem wG (st:List (List D))(x:Str)(h:Pl x):prs x.cps.toList (st,.str ⟨#[]⟩)=some (st,.str x):=by rw[yL st _ _ λc a=>⟨(h.2 c a).1,(h.2 c a).2.1,(h.2 c a).2.2.1⟩];simp
mutual
theorem BF (so:bF fx sm)(ho:∀x∈os,cI x)(st:List (List D)):∀{d:D},aV fx sm os d->prs (wrL d) (st,.str ⟨#[]⟩)=some (st,asD false d)
 | .str x,h=>by
  rw[show wrL (.str x)=x.cps.toList by unfold wrL;rfl,wG st x (qZ so ho h)];unfold asD;rfl
 | .tup (.str n::ds),h=>by
  unfold aV at h;have ne:ds≠[]:=λz=>by have:=sO h.1;rw[z]at this;exact absurd this (by simp)
  rw[wrL,jX,wG st n (pX so h.1),asD];show(prs1 40 (st,.str n)).bind (prs (wrJ ds))=_;have e:prs1 40 (st,.str n)=some ([.str n]::st,.str ⟨#[]⟩):=by unfold prs1;rw[ac (by decide)];exact aj rfl
  rw[e];show prs (wrJ ds) _=_;rw[wF so ho st h.2 ne [.str n]];rfl
 | .lst (.str n::ds),h=>by
  unfold aV at h;have ne:ds≠[]:=λz=>by have:=sO h.1;rw[z]at this;exact absurd this (by simp)
  rw[wrL,jX,wG st n (pX so h.1),asD];show(prs1 40 (st,.str n)).bind (prs (wrJ ds))=_;have e:prs1 40 (st,.str n)=some ([.str n]::st,.str ⟨#[]⟩):=by unfold prs1;rw[ac (by decide)];exact aj rfl
  rw[e];show prs (wrJ ds) _=_;rw[wF so ho st h.2 ne [.str n]];rfl
 | .non,h | .bl _,h | .int _,h | .tup [],h | .lst [],h | .tup (.non::_),h | .tup (.bl _::_),h | .tup (.int _::_),h | .tup (.tup _::_),h | .tup (.lst _::_),h | .lst (.non::_),h | .lst (.bl _::_),h | .lst (.int _::_),h | .lst (.tup _::_),h | .lst (.lst _::_),h=>by unfold aV at h;exact absurd h id
theorem wF (so:bF fx sm)(ho:∀x∈os,cI x)(st:List (List D)):∀{ds:List D},IsTms fx sm os ds->ds≠[]->∀t:List D,prs (wrJ ds) (t::st,.str ⟨#[]⟩)=some (st,.tup (t++asDs false ds))
 | [],_,h=>absurd rfl h
 | [d],h,_=>λt=>by
  rw[wrJ,jX,BF so ho _ h.1,asDs,asDs];rfl
 | d::e::r,h,_=>λt=>by
  rw[wrJ,jX,BF so ho _ h.1,asDs];show(prs1 44 (t::st,asD false d)).bind (prs (wrJ (e::r)))=_;have q:prs1 44 (t::st,asD false d)=some ((t++[asD false d])::st,.str ⟨#[]⟩):=by unfold prs1;rw[aj (.inl rfl)];exact ac (by decide)
  rw[q];show prs (wrJ (e::r)) _=_;rw[wF so ho st h.2 (by simp)];simp
end
mutual
theorem OA (b:Bool):∀{d:D},aV fx sm os d->wrL (asD b d)=wrL d
 | .str x,_=>by unfold asD;rfl
 | .tup (.str n::ds),h=>by
  unfold aV at h;rw[asD];split
  ·rw[wrL,wrL,rE b h.2]
  ·rw[wrL,wrL,rE b h.2]
 | .lst (.str n::ds),h=>by
  unfold aV at h;rw[asD];split
  ·rw[wrL,wrL,rE b h.2]
  ·rw[wrL,wrL,rE b h.2]
 | .non,h | .bl _,h | .int _,h | .tup [],h | .lst [],h | .tup (.non::_),h | .tup (.bl _::_),h | .tup (.int _::_),h | .tup (.tup _::_),h | .tup (.lst _::_),h | .lst (.non::_),h | .lst (.bl _::_),h | .lst (.int _::_),h | .lst (.tup _::_),h | .lst (.lst _::_),h=>by unfold aV at h;exact absurd h id
theorem rE (b:Bool):∀{ds:List D},IsTms fx sm os ds->wrJ (asDs b ds)=wrJ ds
 | [],_=>rfl
 | [d],h=>by rw[asDs,asDs,wrJ,wrJ,OA b h.1]
 | d::e::r,h=>by have a:=rE b h.2;rw[asDs]at a;rw[asDs,asDs,wrJ,wrJ,OA b h.1,a]
end
end
mutual
def Wn:D->Prop
 | .str x=>x.cps.toList.length<=9
 | .tup (.str n::ds)=>(n.cps.toList.length<=9/\ds≠[])/\Wns ds
 | .lst (.str n::ds)=>(n.cps.toList.length<=9/\ds≠[])/\Wns ds
 | _=>False
def Wns:List D->Prop
 | []=>True
 | d::ds=>Wn d/\Wns ds
end
theorem gY:∀{ds:List D},Wns ds ↔ ∀d∈ds,Wn d
 | []=>by simp[Wns]
 | d::ds=>by rw[Wns,gY (ds:=ds)];simp
theorem OT {d:D}(h:Wn d):(∃x:Str,d = .str x/\x.cps.toList.length<=9)∨∃n ds,(d = .tup (.str n::ds)∨d = .lst (.str n::ds))/\(n.cps.toList.length<=9/\ds≠[])/\Wns ds:=by
 unfold Wn at h;split at h
 ·exact .inl ⟨_,rfl,h⟩
 ·exact .inr ⟨_,_,.inl rfl,h⟩
 ·exact .inr ⟨_,_,.inr rfl,h⟩
 ·exact absurd h id
mutual
theorem OB {a:cG}{sm:bG}{os:aN}(so:bF a sm)(ho:∀x∈os,cI x):∀{d:D},aV a sm os d->Wn d
 | .str x,h=>by unfold Wn;exact(qZ so ho h).1
 | .tup (.str n::ds),h=>by
  unfold aV at h;unfold Wn;exact⟨⟨(pX so h.1).1,λz=>by have:=sO h.1;rw[z]at this;exact absurd this (by simp)⟩,A3 so ho h.2⟩
 | .lst (.str n::ds),h=>by
  unfold aV at h;unfold Wn;exact⟨⟨(pX so h.1).1,λz=>by have:=sO h.1;rw[z]at this;exact absurd this (by simp)⟩,A3 so ho h.2⟩
 | .non,h | .bl _,h | .int _,h | .tup [],h | .lst [],h | .tup (.non::_),h | .tup (.bl _::_),h | .tup (.int _::_),h | .tup (.tup _::_),h | .tup (.lst _::_),h | .lst (.non::_),h | .lst (.bl _::_),h | .lst (.int _::_),h | .lst (.tup _::_),h | .lst (.lst _::_),h=>by unfold aV at h;exact absurd h id
theorem A3 {c:cG}{sm:bG}{os:aN}(so:bF c sm)(ho:∀x∈os,cI x):∀{ds:List D},IsTms c sm os ds->Wns ds
 | [],_=>trivial
 | _::_,⟨a,b⟩=>⟨OB so ho a,A3 so ho b⟩
end
theorem EM:∀{ds:List D} {d:D},d∈itr ds->d∈ds∨d = .str ⟨#[41]⟩∨d = .str ⟨#[44]⟩
 | [],d,h=>by rw[itr]at h;exact .inr (.inl (ck.mp h))
 | [e],d,h=>by
  rw[itr]at h;simp only[cm,List.not_mem_nil,or_false]at h⊢;rcases h with h|h
  ·exact .inl h
  ·exact .inr (.inl h)
 | e::f::r,d,h=>by
  rw[itr]at h;obtain h|h:=cm.mp h
  ·exact .inl (h ▸ av)
  ·obtain h|h:=cm.mp h
   ·exact .inr (.inr h)
   ·rcases EM h with h|h
    ·exact .inl (ay _ h)
    ·exact .inr h
theorem MH {n:Str}{ds:List D}(a:n.cps.toList.length<=9)(h:Wns ds):Wns (pcs n ds):=by
 refine gY.mpr λd hd=>?_;unfold pcs at hd;obtain rfl|hd:=cm.mp hd
 ·unfold Wn;exact a
 ·obtain rfl|hd:=cm.mp hd
  ·unfold Wn;decide
  ·rcases EM hd with k|rfl|rfl
   ·exact gY.mp h d k
   ·unfold Wn;decide
   ·unfold Wn;decide
theorem B7:∀ds:List D,ds.length<=mS ds
 | []=>ae _
 | d::ds=>by have a:=B7 ds;have b:=P7 d;unfold mS at a⊢;rw[aS,List.sum_cons,ap];omega
theorem J6 (a b:List D):mS (a++b)=mS a+mS b:=by unfold mS;rw[ax,List.sum_append]
theorem P8 (a:List D):mS a.reverse=mS a:=by unfold mS;rw[List.map_reverse,List.sum_reverse]
theorem GW:∀a:aN,(Txt.join ⟨#[]⟩ a).cps.toList=a.flatMap λx=>x.cps.toList:=by
 intro a;show(Builtin.Str.glued ⟨#[]⟩ a).cps.toList=_;rw[StrLaws.glued_eq_join]
 induction a with
 | nil=>rfl
 | cons x r b =>
  cases r with
  | nil=>simp[Str.join]
  | cons y r =>
   show(x++⟨#[]⟩++Str.join ⟨#[]⟩ (y::r)).cps.toList=_;rw[List.flatMap_cons,←b,Str.cps_append,Str.cps_append];simp
theorem zI {a:Str}{b:aN}{B:Nat}(h:∀y∈b,y.length<=B)(c:b.length * B+b.length * a.length<=16777216):JoinOk a b=true:=by unfold JoinOk;rw[StrLaws.joinFits h c];rfl
theorem GV:∀{ds:List D},ds≠[]->(Txt.join ⟨#[44]⟩ (ds.map wrS)).cps.toList++[41]=wrJ ds:=by
 intro ds;show ds≠[]->(Builtin.Str.glued ⟨#[44]⟩ (ds.map wrS)).cps.toList++[41]=_;rw[StrLaws.glued_eq_join]
 induction ds with
 | nil=>intro h;exact absurd rfl h
 | cons d r a =>
  intro _;cases r with
  | nil=>rw[wrJ];simp[Str.join,wrS]
  | cons e r =>
   have h:=a (by simp);rw[wrJ,←h];show((wrS d)++⟨#[44]⟩++Str.join ⟨#[44]⟩ ((e::r).map wrS)).cps.toList++[41]=_;rw[Str.cps_append,Str.cps_append];simp[wrS]
mutual
theorem AW {b:cG}{sm:bG}{os:aN}(so:bF b sm)(ho:∀x∈os,cI x):∀{d:D},aV b sm os d->∀c∈wrL d,c<128
 | .str x,h=>λc a=>by unfold wrL at a;exact((qZ so ho h).2 c a).2.2.2
 | .tup (.str n::ds),h=>λc a=>by
  unfold aV at h;rw[wrL]at a;obtain a|a:=cp.mp a
  ·exact((pX so h.1).2 c a).2.2.2
  ·obtain rfl|a:=cm.mp a
   ·decide
   ·exact vN so ho h.2 c a
 | .lst (.str n::ds),h=>λc a=>by
  unfold aV at h;rw[wrL]at a;obtain a|a:=cp.mp a
  ·exact((pX so h.1).2 c a).2.2.2
  ·obtain rfl|a:=cm.mp a
   ·decide
   ·exact vN so ho h.2 c a
 | .non,h | .bl _,h | .int _,h | .tup [],h | .lst [],h | .tup (.non::_),h | .tup (.bl _::_),h | .tup (.int _::_),h | .tup (.tup _::_),h | .tup (.lst _::_),h | .lst (.non::_),h | .lst (.bl _::_),h | .lst (.int _::_),h | .lst (.tup _::_),h | .lst (.lst _::_),h=>by unfold aV at h;exact absurd h id
theorem vN {b:cG}{sm:bG}{os:aN}(so:bF b sm)(ho:∀x∈os,cI x):∀{ds:List D},IsTms b sm os ds->∀c∈wrJ ds,c<128
 | [],_=>λc a=>by rw[wrJ]at a;rw[ck.mp a];decide
 | [d],h=>λc a=>by
  rw[wrJ]at a;obtain a|a:=cp.mp a
  ·exact AW so ho h.1 c a
  ·rw[ck.mp a];decide
 | d::e::r,h=>λc a=>by
  rw[wrJ]at a;obtain a|a:=cp.mp a
  ·exact AW so ho h.1 c a
  ·obtain rfl|a:=cm.mp a
   ·decide
   ·exact vN so ho h.2 c a
end
mutual
theorem BY {a:cG}{sm:bG}{os:aN}(b:Bool):∀{d:D},aV a sm os d->nds (asD b d)=nds d
 | .str x,_=>by unfold asD;rfl
 | .tup (.str n::ds),h=>by
  unfold aV at h;rw[asD];split
  ·rw[nds,nds,nY b h.2]
  ·rw[nds,nds,nY b h.2]
 | .lst (.str n::ds),h=>by
  unfold aV at h;rw[asD];split
  ·rw[nds,nds,nY b h.2]
  ·rw[nds,nds,nY b h.2]
 | .non,h | .bl _,h | .int _,h | .tup [],h | .lst [],h | .tup (.non::_),h | .tup (.bl _::_),h | .tup (.int _::_),h | .tup (.tup _::_),h | .tup (.lst _::_),h | .lst (.non::_),h | .lst (.bl _::_),h | .lst (.int _::_),h | .lst (.tup _::_),h | .lst (.lst _::_),h=>by unfold aV at h;exact absurd h id
theorem nY {a:cG}{sm:bG}{os:aN}(b:Bool):∀{ds:List D},IsTms a sm os ds->ndss (asDs b ds)=ndss ds
 | [],_=>rfl
 | _::_,⟨x,y⟩=>by rw[asDs,ndss,ndss,BY b x,nY b y]
end
section
variable {P:Program}{w:World}{K:PySem.W.Frag}{mg:gX}{base:Heap}
noncomputable def itV:List V->List V
 | []=>[.str ⟨#[41]⟩]
 | [v]=>[v,.str ⟨#[41]⟩]
 | v::w::r=>v :: .str ⟨#[44]⟩::itV (w::r)
noncomputable def cmV (vs:List V):List V:=vs.flatMap λv=>[v,.str ⟨#[44]⟩]
theorem rC:∀vs:List V,(cmV vs).length=2 * vs.length
 | []=>rfl
 | v::vs=>by have:=rC vs;unfold cmV at this⊢;rw[List.flatMap_cons,aq,this];simp;omega
theorem LB (vs:List V)(v:V):cmV (vs++[v])=cmV vs++[v,.str ⟨#[44]⟩]:=by unfold cmV;simp
theorem E4:∀{vs:List V},vs≠[]->(cmV vs).set (2 * vs.length - 1) (.str ⟨#[41]⟩)=itV vs
 | [],h=>absurd rfl h
 | [v],_=>rfl
 | v::w::r,_=>by
  have a:=E4 (vs:=w::r) (by simp);rw[itV,←a];have e:2 * (v::w::r).length - 1=(2 * (w::r).length - 1)+1+1:=by simp only[ap];omega
  rw[e];rfl
theorem yJ {H:Hp}:∀{ds:List D} {vs:List V},Reps H ds vs->Reps H (itr ds) (itV vs)
 | [],_,e=>by cases (show _=[]from e);exact⟨_,_,rfl,rfl,rfl⟩
 | [d],_,⟨v,r,e,h,k⟩=>by
  subst e;cases (show r=[]from k);exact⟨v,_,rfl,h,_,_,rfl,rfl,rfl⟩
 | d::e::r,_,⟨v,_,rfl,h,w,q,rfl,k1,k2⟩=>⟨v,_,rfl,h,_,_,rfl,rfl,yJ (ds:=e::r) ⟨w,q,rfl,k1,k2⟩⟩
theorem s40:PySem.Str.ofString "(" = ⟨#[40]⟩:=by decide +kernel
theorem s41:PySem.Str.ofString ")" = ⟨#[41]⟩:=by decide +kernel
theorem s44:PySem.Str.ofString "," = ⟨#[44]⟩:=by decide +kernel
def xZ:Sp:=λvs H Q _=>∃(n:Str) (ds:List D) (d:D) (v:V) (G:Hp),vs=[v]/\aF G H/\aX G d v/\(d = .tup (.str n::ds)∨d = .lst (.str n::ds))/\ds≠[]/\ds.length<=7000 /\
 ∀(l:Addr) (ws:List V) (H':Hp),H l=none->aF H H'->H' l=some (.lst ws)->Reps G (pcs n ds) ws->Q (.ref l) H'
theorem A5 {xs:List V}{i:Nat}{x:V}(h:xs[i]?=some x):xs.take (i+1)=xs.take i++[x]:=by rw[List.take_add_one,h];rfl
def SV (v:V)(l:Addr)(n:Str)(a:List V)(H:Hp)(c:Addr)(d:HO)(i:Nat)(σ:St)(b:Hp):Prop:=∃o:Option V,σ=[some v,some (.ref l),o]/\aF H b/\b c=some d/\b l=some (.lst (.str n :: .str ⟨#[40]⟩::cmV (a.take i)))
theorem GD {f:Addr}{fd:FuncData}(F:fJ K "pieces" "pieces" nR f fd)(T:Txt mg):bN P w K mg base bH 1 f fd AG xZ:=by
 refine F.ok oZ (λvs H Q E h=>?_) (λcdv A outer s H vs Q E hr h=>?_)
 ·obtain⟨n,ds,d,v,G,rfl,_⟩:=h;rfl
 ·obtain⟨n,ds,d,v,G,rfl,W,rep,hd,ne,g,q⟩:=h;have hu:=hr.units
  refine⟨_,(aD (aZ (i:=1) oZ.nd rfl (Or.inl rfl) (cM (aA (bM cX (pv 0) aJ (λ_ _=>rfl)) (aA cS aB))))
   (aD (fE de rfl (cE K rfl (eK kM (pv 0) (cP aJ) dG)) (bA (i:=2) oZ.nd rfl (Or.inl rfl)) (aG (cB (gM da PySem.F.slot_list_extend PySem.F.type_list_extend lO (pv 1) (aA (cM (aA (pv 2) (aA cS aB))) aB)))))
   (aD (mO cS (wK (pv 1) (kU h9 aJ) nJ))
   (aG (aO (pv 1)))))),?_⟩
  simp only[AM];clear hr F T hu;have keep:=aI q (aI rep (aI hd (aI ne (aI g W))));clear q rep hd ne g W
  walk_at "rd"
  obtain⟨q,rep,hd,ne,g,W⟩:=keep;obtain⟨S,b,rfl,hseq,res⟩:∃S b,v = .ref S/\eV H S (.str n::b)/\Reps G ds b:=by
   rcases hd with rfl|rfl
   ·obtain⟨a,vs,rfl,ha,_,b,rfl,j,r⟩:=rep;cases j;exact⟨a,b,rfl,.inr (W _ _ ha),r⟩
   ·obtain⟨a,vs,rfl,ha,_,b,rfl,j,r⟩:=rep;cases j;exact⟨a,b,rfl,.inl (W _ _ ha),r⟩
  have O:ixV H (.ref S) (.int 0)=some (.str n):=by
   rcases hseq with e|e
   ·rw[ixV_l e,atI_zero]
   ·rw[ixV_t e,atI_zero]
  have lv:=Reps.len res;have nv:b≠[]:=λz=>ne (List.length_eq_zero_iff.mp (by rw[←lv,z];rfl));clear rep hd;rw[s40,s44,s41];refine⟨.str n,O,by decide,λl Z=>⟨S,rfl,_,hseq.same (aF.upd Z),λ_ h=>?_,λu L B Y=>?_⟩⟩
  ·have:=h.1;simp[HT.sIx]at this
  ·rw[j6]at Y;have s0:aF H (upd (upd H l (.lst [.str n,.str ⟨#[40]⟩])) u L):=(aF.upd Z).trans (aF.upd B);have np:u≠l:=λz=>by rw[z,upd_same]at B;cases B
   have g0:upd (upd H l (.lst [.str n,.str ⟨#[40]⟩])) u L l=some (.lst [.str n,.str ⟨#[40]⟩]):=by rw[aC np.symm];exact upd_same
   have g1:upd (upd H l (.lst [.str n,.str ⟨#[40]⟩])) u L u=some L:=upd_same;have h1:eV (upd (upd H l (.lst [.str n,.str ⟨#[40]⟩])) u L) u b:=by rcases Y with⟨rfl,_⟩|⟨rfl,_⟩;exact .inl upd_same;exact .inr upd_same
   have n1:H u=none:=by rw[aC np]at B;exact B
   generalize upd (upd H l (.lst [.str n,.str ⟨#[40]⟩])) u L=H0 at s0 g0 g1 h1⊢;refine⟨b,h1,λJ hJ=>?_⟩;refine gG hJ (SV (.ref S) l n b H u L) ⟨none,rfl,s0,g1,by rw[List.take_zero];exact g0⟩ ?_ ?_ ?_
   ·rintro i σ H' _ ⟨_,_,_,e,_⟩;rw[e,g1]
   ·rintro i x σ H1 X ⟨o,rfl,I,j,C⟩;have hi:=(cj.mp X).1;have keep:=aI I (aI j (aI C X));clear I j C X q O hseq
    walk_at "rd"
    obtain⟨I,j,C,X⟩:=keep;refine⟨tyL C,by decide,λp2 R=>?_⟩;have n2l:l≠p2:=aE C R;have n21:u≠p2:=aE j R;refine⟨l,p2,_,[x,.str ⟨#[44]⟩],rfl,rfl,by rw[aC n2l];exact C,.inl upd_same,ao (m:=15000) (by simp only[ap,rC,bo];simp;omega) (by decide),?_⟩;refine⟨_,rfl,λc ob U=>?_,?_,?_⟩
    ·rw[aC (aE U Z),aC (aE (I _ _ U) R)];exact I _ _ U
    ·rw[aC np,aC n21];exact j
    ·rw[upd_same,A5 X,LB];rfl
   ·rintro σ H1 ⟨o,rfl,I,j,C⟩;rw[bp]at C;have keep:=aI I (aI j C);clear I j C O hseq;have N:=q;clear q
    walk_at "rd"
    obtain⟨I,j,C⟩:=keep;have hk:1<=b.length:=List.length_pos_iff.mpr nv;refine⟨2 * b.length+1,?_,?_⟩
    ·unfold ixN;rw[ac (by decide),aj (by simp only[rC];omega)];simp only[rC];congr 1;omega
    ·refine N l _ _ Z (λc ob U=>by rw[aC (aE U Z)];exact I _ _ U) upd_same ?_;have e:(V.str n::V.str ⟨#[40]⟩::cmV b).set (2 * b.length+1) (.str ⟨#[41]⟩) = .str n :: .str ⟨#[40]⟩::itV b:=by rw[←E4 nv,show 2 * b.length+1=(2 * b.length - 1)+1+1 by omega];rfl
     rw[e];exact⟨_,_,rfl,rfl,_,_,rfl,rfl,yJ res⟩
theorem s00:PySem.Str.ofString "" = ⟨#[]⟩:=by decide +kernel
def DI (K:PySem.W.Frag)(C:Addr):Sp:=λvs H Q _=>∃(g:Addr) (fx:cG) (sm:bG) (os:aN) (d:D) (v:V),vs=[.ref g,v]/\eP K C fx sm H g/\aX H d v/\pM fx sm os d/\∀H',aF H H'->Q (.str (wrS d)) H'
def SS (g:Addr)(v:V)(sa t:Addr)(d:D)(H:Hp)(n:Nat)(σ:St)(b:Hp):Prop:=∃(a:aN) (ts:List D) (us:List V) (o:Option V),σ=[some (.ref g),some v,some (.ref sa),some (.ref t),o]/\b sa=some (.lst (a.map V.str))/\b t=some (.lst us)/\aF H b/\Reps H ts us/\Wns ts /\
 (a.flatMap λx=>x.cps.toList)++wrs ts.reverse=wrL d/\mS ts=n/\a.length+n<=ms d/\∀y∈a,y.length<=9
theorem JN {f C:Addr}{fd:FuncData}(F:fJ K "write" "write" qT f fd)(T:Txt mg)(c:dM P w K mg base bH 3 "check_term" (jP K C))(j:dM P w K mg base bH 1 "pieces" xZ):bN P w K mg base bH 4 f fd FC (DI K C):=by
 refine F.ok nL (λvs H Q E h=>?_) (λcdv A outer s H vs Q E hr h=>?_)
 ·obtain⟨g,fx,sm,os,d,v,rfl,_⟩:=h;rfl
 ·obtain⟨g,fx,sm,os,d,v,rfl,sg,rep,tr,q⟩:=h;have hu:=hr.units
  refine⟨_,(aD (cB (aM c (hr.mono (by decide)) pass0 rfl (aA (pv 0) (aA (pv 1) aB))))
   (aD (aZ (i:=2) nL.nd rfl (Or.inl rfl) (cM aB))
   (aD (aZ (i:=3) nL.nd rfl (Or.inl rfl) (cM (aA (pv 1) aB)))
   (aD (rS de (aP K rfl (pv 3) (λ_=>rfl)) (aD (aZ (i:=4) nL.nd rfl (Or.inl rfl) (rW da PySem.F.slot_list_pop PySem.F.type_list_pop pD (pv 3)))
   (aG (bK (aP K rfl (aL aK rfl T.n_isinstance rfl (aA (pv 4) (aA (bJ (v:=V.ty "str") rfl T.n_str rfl rfl) aB))) (λ_=>rfl)) (aG (cB (gM da dc db eT (pv 2) (aA (pv 4) aB)))) (aG (cB (gM da PySem.F.slot_list_extend PySem.F.type_list_extend lO (pv 3) (aA (jJ O8 (aM j (hr.mono (by decide)) pass0 rfl (aA (pv 4) aB)) dG dG (cP (kU h9 aJ))) aB))))))))
   (aG (aO (gM PySem.F.plainAttrs_str PySem.F.slot_str_join PySem.F.type_str_join D6 cS (aA (pv 2) aB)))))))),?_⟩
  simp only[xS];clear hr F T hu c j;have keep:=aI q (aI rep (aI sg tr));clear q rep sg tr
  walk_at "rd"
  obtain⟨q,rep,sg,tr⟩:=keep;refine⟨g,fx,sm,os,d,v,rfl,sg,tr.so,tr.ho,rep,tr.tm,by have:=tr.lv;omega,by have:=tr.dp;omega,tr.nd,λH1 s1=>?_⟩;obtain⟨z1,z2⟩:=xX tr.so tr.ho tr.tm;have nd:=tr.nd;have wn:=OB tr.so tr.ho tr.tm;refine⟨by decide,λsa J=>⟨by decide,λt ht=>?_⟩⟩;have N:sa≠t:=aE upd_same ht;have L:H1 t=none:=(aF.upd J).free ht;refine AY (SS g v sa t d H1) (ms d) ⟨[],[d],[v],none,rfl,by rw[aC N];exact upd_same,upd_same,(aF.upd J).trans (aF.upd ht),⟨v,[],rfl,aX.same s1 rep,rfl⟩,⟨wn,trivial⟩,by simp[wrs],by simp[mS],by simp,by simp⟩ ?_;rintro n σ H2 ⟨U,ts,us,o,rfl,h1,h2,sH,rt,W,e,rfl,I,y9⟩ R hT hF;rcases List.eq_nil_or_concat ts with rfl|⟨G,r,rfl⟩
  ·cases (show us=[]from rt);refine⟨_,rfl,false,.inl ⟨[],eH.of h2,rfl⟩,hF H2 ?_⟩;have e2:(Txt.join ⟨#[]⟩ U)=wrS d:=by have h:=GW U;rw[List.reverse_nil,show wrs []=[]from rfl,bh]at e;rw[e]at h;exact Str.ext' (Array.toList_inj.mp (by rw[h];rfl))
   refine⟨rfl,_,rfl,PySem.Str.ofString "",sa,U,rfl,rfl,h1,?_,?_⟩
   ·refine zI (B:=9) y9 ?_;rw[s00];show U.length * 9+U.length * 0<=_;omega
   ·rw[s00,e2];exact q H2 (s1.trans sH)
  ·rw[List.concat_eq_append]at rt W e I hT;obtain⟨z,u,rfl,rt',Z⟩:=fG rt;have wt':Wns G:=gY.mpr λx O=>gY.mp W x (bS _ O);have wr:Wn r:=gY.mp W r (br _ (ck.mpr rfl));have keep:=aI q (aI h1 (aI h2 (aI sH (aI rt' (aI Z (aI wt' (aI wr (aI e (aI I (aI J (aI L (aI y9 (aI nd (aI z1 z2))))))))))))));refine⟨_,rfl,true,.inl ⟨_,eH.of h2,by simp⟩,hT H2 ?_⟩;clear q h1 h2 sH rt rt' Z W wt' wr e I hT hF rep J ht L y9 nd z1 z2 tr sg s1 wn
   walk_at "rd"
   obtain⟨q,h1,h2,sH,rt,Z,W,wr,e,I,J,L,y9,nd,z1,z2⟩:=keep;rw[List.dropLast_concat];rw[List.reverse_append,List.reverse_cons,List.reverse_nil,List.nil_append,List.singleton_append,show wrs (r::G.reverse)=wrL r++wrs G.reverse from rfl]at e;rw[J6,show mS [r]=ms r by unfold mS;simp]at I⊢;have h3:upd H2 t (.lst z) t=some (.lst z):=upd_same;have f3:upd H2 t (.lst z) sa=some (.lst (U.map V.str)):=by rw[aC N];exact h1
   have Y:aF H1 (upd H2 t (.lst z)):=λb o S=>by rw[aC (aE S L)];exact sH _ _ S
   refine⟨tyL h2,u,by simp,?_⟩;generalize upd H2 t (.lst z)=H3 at h3 f3 Y⊢;rcases OT wr with⟨x,rfl,O⟩|⟨nm,ds,hd,⟨hnm,nds'⟩,wds⟩
   ·cases (show u = .str x from Z);have e1:ms (.str x)=1:=by unfold ms;rfl
    have e2:wrL (.str x)=x.cps.toList:=by unfold wrL;rfl
    rw[e1]at I⊢;refine⟨true,rfl,?_⟩;rw[aj rfl];refine⟨tyL f3,_,f3,ak (m:=6000) (by rw[af];omega) (by decide),mS G,by omega,U++[x],G,z,_,rfl,by rw[upd_same,ax];rfl,by rw[aC N.symm];exact h3,λb o S=>by rw[aC (aE S J)];exact Y _ _ S,rt,W,?_,rfl,by simp only[aq,cb];omega,λy hy=>?_⟩
    ·rw[←e,e2];simp
    ·obtain hy|hy:=cp.mp hy
     ·exact y9 y hy
     ·rw[ck.mp hy];exact O
   ·have em:ms r=4+mss ds:=by rcases hd with rfl|rfl <;> rw[ms]
    have ew:wrL r=nm.cps.toList++40::wrJ ds:=by rcases hd with rfl|rfl <;> rw[wrL]
    have hp:=P9 nm ds;have lp:=B7 (pcs nm ds);have ll:ds.length<=7000:=by have:ds.length<=mss ds:=D7 ds;omega
    have hbb:isV H3 u (.ty "str")=some false:=by
     rcases hd with rfl|rfl
     ·obtain⟨a,vs,rfl,ha,_⟩:=Z;exact fX (Y _ _ ha)
     ·obtain⟨a,vs,rfl,ha,_⟩:=Z;exact iE (Y _ _ ha)
    refine⟨false,hbb,?_⟩;rw[ac (by decide)];refine⟨tyL h3,_,rfl,nm,ds,r,u,H1,rfl,Y,Z,hd,nds',ll,λl X H4 hl s4 h4 r4=>?_⟩;refine⟨1,rfl,-1,rfl,rfl,rfl,rfl,l,X,rfl,h4,λp5 hp5=>?_⟩;have h34:=s4 _ _ h3;have nt5:t≠p5:=aE h34 hp5;have lr:=Reps.len r4;have lt:=Reps.len rt;have lm:=B7 G;refine⟨t,p5,z,X.reverse,rfl,rfl,by rw[aC nt5];exact h34,.inl upd_same,ao (m:=20000) (by rw[List.length_reverse];omega) (by decide),?_⟩;refine⟨mS G+mS (pcs nm ds),by omega,U,G++(pcs nm ds).reverse,z++X.reverse,_,rfl,?_,upd_same,λb o S=>?_,Reps.append rt (Reps.rev r4),gY.mpr λx O=>?_,?_,by rw[J6,P8],by omega,y9⟩
    ·rw[aC N,aC (aE (s4 _ _ f3) hp5)];exact s4 _ _ f3
    ·rw[aC (aE S L),aC (aE (s4 _ _ (Y _ _ S)) hp5)];exact s4 _ _ (Y _ _ S)
    ·obtain O|O:=cp.mp O
     ·exact gY.mp W x O
     ·exact gY.mp (MH hnm wds) x (List.mem_reverse.mp O)
    ·rw[←e,ew,List.reverse_append,List.reverse_reverse];unfold wrs;rw[List.flatMap_append];have:=LP nm ds;unfold wrs at this;rw[this]
end
noncomputable def chn (n:Str):List D->D
 | []=>.str n
 | [d]=>d
 | d::e::r=>.tup [.str n,d,chn n (e::r)]
noncomputable def pr (sm:bG)(n:Str)(ds:List D):D:=match zr sm n with
 | none=>.tup (.str n::ds)
 | some _=>chn n ds
mutual
noncomputable def prD (sm:bG):D->D
 | .tup (.str n::ds)=>pr sm n (prDs sm ds)
 | .lst (.str n::ds)=>pr sm n (prDs sm ds)
 | d=>d
noncomputable def prDs (sm:bG):List D->List D
 | []=>[]
 | d::ds=>prD sm d::prDs sm ds
end
section
variable {fx:cG}{sm:bG}{os:aN}
theorem bZ (sm:bG):∀ds:List D,prDs sm ds=ds.map (prD sm)
 | []=>rfl
 | d::ds=>by rw[prDs,bZ sm ds];rfl
theorem FZ (sm:bG)(l:List D)(k:Nat):prDs sm (l.drop k)=(prDs sm l).drop k:=by rw[bZ,bZ,List.map_drop]
theorem qW (sm:bG){n:Str}{ds:List D}{x:D}(h:x = .tup (.str n::ds)∨x = .lst (.str n::ds)):prD sm x=pr sm n (prDs sm ds)/\pts x=ds:=by rcases h with rfl|rfl <;> exact⟨by rw[prD],rfl⟩
theorem qV (sm:bG)(x:Str):prD sm (.str x) = .str x:=by unfold prD;rfl
theorem xH {P:D->Prop}{n:Str}(two:∀d e,P d->P e->P (.tup [.str n,d,e])):∀{ds:List D},ds≠[]->(∀d∈ds,P d)->P (chn n ds)
 | [],h,_=>absurd rfl h
 | [d],_,h=>h d av
 | d::e::r,_,h=>two d _ (h d av) (xH two (by simp) λx a=>h x (ay _ a))
theorem OD {n:Str}{ds:List D}(h:Fls ds)(ne:ds≠[]):Fl (pr sm n ds):=by
 unfold pr;split
 ·unfold Fl;exact h
 ·exact xH (λd e a b=>by unfold Fl;exact⟨a,b,trivial⟩) ne (dS h)
mutual
theorem wI:∀{d:D},Tm d->Fl (prD sm d)
 | .str x,h=>by rw[qV];unfold Tm at h;unfold Fl;exact h
 | .tup (.str n::ds),h=>by
  unfold Tm at h;rw[prD];exact OD (wH h.2) (by rw[bZ];simpa using h.1)
 | .lst (.str n::ds),h=>by
  unfold Tm at h;rw[prD];exact OD (wH h.2) (by rw[bZ];simpa using h.1)
 | .non,h | .bl _,h | .int _,h | .tup [],h | .lst [],h | .tup (.non::_),h | .tup (.bl _::_),h | .tup (.int _::_),h | .tup (.tup _::_),h | .tup (.lst _::_),h | .lst (.non::_),h | .lst (.bl _::_),h | .lst (.int _::_),h | .lst (.tup _::_),h | .lst (.lst _::_),h=>by unfold Tm at h;exact absurd h id
theorem wH:∀{ds:List D},Tms ds->Fls (prDs sm ds)
 | [],_=>trivial
 | d::ds,⟨a,b⟩=>by rw[prDs];exact⟨wI a,wH b⟩
end
theorem OR {n:Str}(h:n∈sm.map (·.1)):∃z,zr sm n=some z:=by
 obtain⟨r,a,rfl⟩:=cr.mp h;unfold zr;cases e:sm.find? λq=>decide (q.1=r.1)with
 | none=>exact absurd (bd rfl) (List.find?_eq_none.mp e r a)
 | some q=>exact⟨q.2,rfl⟩
theorem OS (so:bF fx sm){n:Str}{k:Int}(h:(n,k)∈fx):zr sm n=none:=by
 cases e:zr sm n with
 | none=>rfl
 | some z =>
  obtain⟨r,a,b,_⟩:=N9 e;exact absurd rfl ((List.nodup_append.mp so.nd).2.2 n (List.mem_map_of_mem (f:=(·.1)) h) n (b ▸ List.mem_map_of_mem (f:=(·.1)) a))
theorem KM (so:bF fx sm){n:Str}{k:Nat}(h:pQ fx sm n k):(zr sm n=none/\(n,(k:Int))∈fx/\0<k)∨∃z,zr sm n=some z/\n∈sm.map (·.1)/\2<=k:=by
 rcases h with⟨b,a⟩|⟨b,a⟩
 ·exact .inl ⟨OS so a,a,b⟩
 ·obtain⟨z,hz⟩:=OR a;exact .inr ⟨z,hz,a,b⟩
theorem E7 {n:Str}:∀{ds:List D},ds≠[]->lvs (chn n ds)=lvss ds
 | [],h=>absurd rfl h
 | [d],_=>by show lvs d=_;rw[lvss,lvss];omega
 | d::e::r,_=>by have:=E7 (n:=n) (ds:=e::r) (by simp);show lvs (.tup [.str n,d,chn n (e::r)])=_;simp only[lvs,lvss]at this⊢;omega
theorem E6 {n:Str}:∀{ds:List D},ds≠[]->nds (chn n ds)+1=ndss ds+ds.length
 | [],h=>absurd rfl h
 | [d],_=>by show nds d+1=_;rw[ndss,ndss];rfl
 | d::e::r,_=>by have:=E6 (n:=n) (ds:=e::r) (by simp);show nds (.tup [.str n,d,chn n (e::r)])+1=_;simp only[nds,ndss,ap]at this⊢;omega
theorem E8 {n:Str}:∀{ds:List D},ds≠[]->depD (chn n ds)+1<=depDs ds+ds.length
 | [],h=>absurd rfl h
 | [d],_=>by show depD d+1<=_;rw[depDs,depDs];simp
 | d::e::r,_=>by have:=E8 (n:=n) (ds:=e::r) (by simp);show depD (.tup [.str n,d,chn n (e::r)])+1<=_;simp only[depD,depDs,ap]at this⊢;omega
theorem O0 {d:D}(h:aV fx sm os d):1<=lvs d:=HZ h
theorem DG:∀{ds:List D},IsTms fx sm os ds ↔ ∀e∈ds,aV fx sm os e
 | []=>⟨λ_ _ h=>(nomatch h),λ_=>trivial⟩
 | d::ds=>by unfold IsTms;rw[DG,List.forall_mem_cons]
mutual
theorem rK {P:D->Prop}(s:∀x,aV fx sm os (.str x)->P (.str x))(t:∀n ds d,(d = .tup (.str n::ds)∨d = .lst (.str n::ds))->pQ fx sm n ds.length->IsTms fx sm os ds->(∀e∈ds,P e)->P d):∀{d:D},aV fx sm os d->P d
 | .str x,h=>s x h
 | .tup (.str n::ds),h=>by unfold aV at h;exact t n ds _ (.inl rfl) h.1 h.2 (vS s t h.2)
 | .lst (.str n::ds),h=>by unfold aV at h;exact t n ds _ (.inr rfl) h.1 h.2 (vS s t h.2)
 | .non,h | .bl _,h | .int _,h | .tup [],h | .lst [],h | .tup (.non::_),h | .tup (.bl _::_),h | .tup (.int _::_),h | .tup (.tup _::_),h | .tup (.lst _::_),h | .lst (.non::_),h | .lst (.bl _::_),h | .lst (.int _::_),h | .lst (.tup _::_),h | .lst (.lst _::_),h=>by unfold aV at h;exact absurd h id
theorem vS {P:D->Prop}(s:∀x,aV fx sm os (.str x)->P (.str x))(t:∀n ds d,(d = .tup (.str n::ds)∨d = .lst (.str n::ds))->pQ fx sm n ds.length->IsTms fx sm os ds->(∀e∈ds,P e)->P d):∀{ds:List D},IsTms fx sm os ds->∀e∈ds,P e
 | [],_=>λe h=>(nomatch h)
 | d::ds,⟨a,b⟩=>List.forall_mem_cons.mpr ⟨rK s t a,vS s t b⟩
end
theorem lJ {n:Str}{ds:List D}{d:D}(h:d = .tup (.str n::ds)∨d = .lst (.str n::ds)):lvs d=lvss ds/\nds d=1+ndss ds/\depD d=depDs ds+1/\flt sm d=knot sm n (flts sm ds)/\lfs d=lfss ds:=by
 rcases h with rfl|rfl
 ·exact⟨by rw[lvs],by rw[nds],by rw[depD,depDs,show depD (.str n)=0 from rfl];omega,by rw[flt],by rw[lfs]⟩
 ·exact⟨by rw[lvs],by rw[nds],by rw[depD,depDs,show depD (.str n)=0 from rfl];omega,by rw[flt],by rw[lfs]⟩
theorem ER (so:bF fx sm)(ho:∀x∈os,cI x){n z:Str}(hz:zr sm n=some z):∀{es:List D},IsTms fx sm os es->2<=es.length->flt sm (chn n es)=knot sm n (flts sm es)
 | [],_,h=>by simp at h
 | [_],_,h=>by simp at h
 | [d,e],_,_=>by show flt sm (.tup [.str n,d,e])=_;rw[flt]
 | d::e::g::r,⟨i,f⟩,_=>by
  have c:=ER so ho hz (es:=e::g::r) f (by simp);have a:=iD so;show flt sm (.tup [.str n,d,chn n (e::g::r)])=_;have f1:=(pI a (uG so ho i).1).1;have b:=(oV so ho f).1;have f2:Fl (flt sm (chn n (e::g::r))):=by rw[c];exact wY a (fQ a b).1 (fQ a b).2 (by rw[flts];simp)
  rw[flt];show knot sm n [flt sm d,flt sm (chn n (e::g::r))]=knot sm n (flt sm d::flts sm (e::g::r));refine GT hz ⟨f1,f2,trivial⟩ ?_;rw[iB,iB,iB,c];refine List.Perm.append_left (opn1 n z (flt sm d)) ?_;have:=F6 hz (rA a b)
  simpa [opn] using this
theorem EB {n:Str}:∀{ds:List D},ds≠[]->lfs (chn n ds)=lfss ds
 | [],h=>absurd rfl h
 | [d],_=>by show lfs d=_;simp only[lfss,bh]
 | d::e::r,_=>by have:=EB (n:=n) (ds:=e::r) (by simp);show lfs (.tup [.str n,d,chn n (e::r)])=_;simp only[lfs,lfss,bh]at this⊢;rw[this]
theorem DW {n z:Str}(hz:zr sm n=some z):∀{ds:List D},ds≠[]->(∀e∈ds,prD sm e=e)->prD sm (chn n ds)=chn n ds
 | [],h,_=>absurd rfl h
 | [d],_,h=>h d av
 | d::e::r,_,h=>by have:=DW hz (ds:=e::r) (by simp) λx a=>h x (ay _ a);show prD sm (.tup [.str n,d,chn n (e::r)]) = .tup [.str n,d,chn n (e::r)];rw[prD,prDs,prDs,prDs,h d av,this];unfold pr;rw[hz];rfl
structure R6 (fx:cG)(sm:bG)(os:aN)(d e:D):Prop where
 tm:aV fx sm os e
 lv:lvs e=lvs d
 nd:nds e+1<=nds d+lvs d
 dp:depD e+1<=lvs d+depD d
 fl:flt sm e=flt sm d
 lf:lfs e=lfs d
 id:prD sm e=e
structure R5 (fx:cG)(sm:bG)(os:aN)(ds es:List D):Prop where
 tm:IsTms fx sm os es
 ln:es.length=ds.length
 lv:lvss es=lvss ds
 nd:ndss es+ds.length<=ndss ds+lvss ds
 dp:depDs es+ds.length<=lvss ds+depDs ds
 fl:flts sm es=flts sm ds
 lf:lfss es=lfss ds
 id:∀e∈es,prD sm e=e
theorem DV:∀{ds:List D},IsTms fx sm os ds->(∀e∈ds,R6 fx sm os e (prD sm e))->R5 fx sm os ds (prDs sm ds)
 | [],_,_=>⟨trivial,rfl,rfl,ae _,ae _,rfl,rfl,λ_ h=>nomatch h⟩
 | d::ds,⟨t1,f⟩,h=>by
  have a:=h d av;have b:=DV f λe c=>h e (ay _ c);have i:=O0 t1;have g:=gA f;have o:=a.nd;have m:=a.dp;have l:=b.nd;have j:=b.dp;rw[prDs];refine⟨⟨a.tm,b.tm⟩,by rw[ap,ap,b.ln],by rw[lvss,lvss,a.lv,b.lv],?_,?_,by rw[flts,flts,a.fl,b.fl],by rw[lfss,lfss,a.lf,b.lf],λe c=>?_⟩
  ·rw[ndss,ndss,lvss,ap];omega
  ·rw[depDs,depDs,lvss,ap];omega
  ·obtain rfl|c:=cm.mp c
   ·exact a.id
   ·exact b.id e c
theorem BG (so:bF fx sm)(ho:∀x∈os,cI x){d:D}(h:aV fx sm os d):R6 fx sm os d (prD sm d):=by
 refine rK (P:=λd=>R6 fx sm os d (prD sm d)) (λx r=>?_) (λn ds d hd i f q=>?_) h
 ·rw[qV];exact⟨r,rfl,by unfold nds lvs;exact ae _,by unfold lvs;show 0+1<=1+0;omega,rfl,rfl,qV _ _⟩
 ·have b:=DV f q;obtain⟨c,o,m,l,j⟩:=lJ (sm:=sm) hd;have K:=b.nd;have J:=b.dp;rw[(qW sm hd).1];rcases KM so i with⟨hz,E,C⟩|⟨z,hz,s,F⟩
  ·have ep:pr sm n (prDs sm ds) = .tup (.str n::prDs sm ds):=by unfold pr;rw[hz]
   obtain⟨B,A,w,v,u⟩:=lJ (sm:=sm) (d:=.tup (.str n::prDs sm ds)) (.inl rfl);rw[ep];refine⟨by unfold aV;rw[b.ln];exact⟨i,b.tm⟩,by rw[B,c,b.lv],by rw[A,o,c];omega,by rw[w,c,m];omega,by rw[v,l,b.fl],by rw[u,j,b.lf],?_⟩;rw[prD,bZ,List.map_congr_left (g:=id) b.id,List.map_id];exact ep
  ·have ep:pr sm n (prDs sm ds)=chn n (prDs sm ds):=by unfold pr;rw[hz]
   have ne:prDs sm ds≠[]:=λz=>by have:=b.ln;rw[z]at this;simp only[List.length_nil]at this;omega
   have I:=E6 (n:=n) ne;have H:=E8 (n:=n) ne;have G:=b.ln;rw[ep];refine⟨xH (λd e a b=>by unfold aV;exact⟨.inr ⟨by simp,s⟩,a,b,trivial⟩) ne (DG.mp b.tm),by rw[E7 ne,c,b.lv],by rw[o,c];omega,by rw[c,m];omega,by rw[ER so ho hz b.tm (by omega),l,b.fl],by rw[EB ne,j,b.lf],DW hz ne b.id⟩
theorem PH (b:Bool){d:D}(h:aV fx sm os d):prD sm (asD b d)=prD sm d:=by
 refine rK (P:=λd=>prD sm (asD b d)=prD sm d) (λx _=>by unfold asD;rfl) (λn ds d hd _ a c=>?_) h;have e:prDs sm (asDs b ds)=prDs sm ds:=by rw[bZ,bZ,lC,cf];exact List.map_congr_left c
 rw[(qW sm hd).1];rcases hd with rfl|rfl <;> (rw[asD];split <;> rw[prD,e])
end
section
variable {P:Program}{w:World}{K:PySem.W.Frag}{mg:gX}{base:Heap}
def spInP (K:PySem.W.Frag)(C:Addr):Sp:=λvs H Q _=>∃(g:Addr) (fx:cG) (sm:bG) (n:Str) (a:Addr) (ds:List D) (ws:List V),vs=[.ref g,.str n,.ref a]/\eP K C fx sm H g/\H a=some (.lst ws)/\Reps H ds ws/\ds≠[]/\ds.length<=1000 /\
 ∀(b:V) (H':Hp),aF H H'->aX H' (pr sm n ds) b->Q b H'
def TC (g a p:Addr)(n:Str)(ds:List D)(H:Hp)(i:Nat)(σ:St)(b:Hp):Prop:=∃(w:V) (o4:Option V),σ=[some (.ref g),some (.str n),some (.ref a),some w,o4]/\aF H b/\aX b (chn n (ds.drop (ds.length - 1 - i))) w
theorem zW {n:Str}{ds:List D}{j:Nat}{d:D}(h:ds[j]?=some d)(l:j+1<ds.length):chn n (ds.drop j) = .tup [.str n,d,chn n (ds.drop (j+1))]:=by obtain⟨a,rfl⟩:=cj.mp h;rw[List.drop_eq_getElem_cons a,List.drop_eq_getElem_cons l];rfl
theorem BU {f C:Addr}{fd:FuncData}(F:fJ K "in_pairs" "in_pairs" jT f fd)(T:Txt mg)(b:C4 P w K mg base bH 1 C "nought" (kJ K C)):bN P w K mg base bH 2 f fd tG (spInP K C):=by
 refine F.ok iO (λvs H Q E h=>?_) (λcdv A outer s H vs Q E R h=>?_)
 ·obtain⟨g,fx,sm,n,a,ds,d,rfl,_⟩:=h;rfl
 ·obtain⟨g,fx,sm,n,a,ds,d,rfl,sg,L,v,ne,X,q⟩:=h;have l:=R.units
  refine⟨_,(aD (bK (bC JL (rV b (R.mono (by decide)) pass0 (pv 0) (aA (pv 1) aB)) kW (nomark _)) (aG (aO (cH eN rfl T.n_tuple rfl (aA (bV cV (cM (aA (pv 1) aB)) (pv 2)) aB)))) aW)
   (aD (aZ (i:=3) iO.nd rfl (Or.inl rfl) (bM cX (pv 2) (kU h9 aJ) (λ_ _=>rfl)))
   (aD (fE de rfl (cE K rfl (jJ DP (pv 2) (cP (kU h9 aJ)) dG (cP (kU h9 aJ)))) (bA (i:=4) iO.nd rfl (Or.inl rfl)) (aG (aZ (i:=3) iO.nd rfl (Or.inl rfl) (eB (aA (pv 1) (aA (pv 4) (aA (pv 3) aB)))))))
   (aG (aO (pv 3)))))),?_⟩
  clear R F T l b;simp only[nC];obtain⟨dx,fs,_,_,h1,_,h3,_⟩:=sg.ex;have B:=Reps.len v;refine⟨_,rfl,g,dx,fs,rfl,h1,h3,_,rfl,g,n,fx,sm,rfl,sg,?_⟩;refine⟨rfl,_,rfl,k6 (λc=>?_) (λc=>?_)⟩
  ·have hz:zr sm n=none:=by
    have c:=bn c;unfold nulV at c;cases e:zr sm n with
    | none=>rfl
    | some z=>rw[e]at c;cases c
   have ep:pr sm n ds = .tup (.str n::ds):=by unfold pr;rw[hz]
   rw[ep]at q;refine⟨_,rfl,show 1<=sizeLine by decide,λp G=>⟨_,rfl,.inr ⟨.lst (.str n::d),oG upd_same (by rw[aC (aE L G)];exact L) (ao (m:=1100) (by simp;omega) (by decide)),λZ S=>⟨Z,.str n::d,rfl,.inl upd_same,λl6 H6 I=>?_⟩⟩⟩⟩;rcases I with⟨I,_⟩|⟨_,U,rfl⟩
   ·rw[upd_same]at I;cases I
   ·have Y:aF H (upd (upd (upd H p (.lst [.str n])) Z (.lst (.str n::d))) l6 (.tup (.str n::d))):=((aF.upd G).trans (aF.upd S)).trans (aF.upd U);exact q _ _ Y ⟨l6,_,rfl,upd_same,.str n,d,rfl,rfl,Reps.same Y v⟩
  ·obtain⟨z,hz⟩:∃z,zr sm n=some z:=by
    have c:=of_decide_eq_false c;unfold nulV at c;cases e:zr sm n with
    | none=>rw[e]at c;exact absurd rfl c
    | some z=>exact⟨z,rfl⟩
   have ep:pr sm n ds=chn n ds:=by unfold pr;rw[hz]
   rw[ep]at q;have l1:1<=ds.length:=List.length_pos_iff.mpr ne;obtain⟨o,hw0⟩:∃o,d[ds.length - 1]?=some o:=⟨_,aw (by omega)⟩
   obtain⟨d0,W,r0⟩:=Reps.get v hw0;have e0:ds.drop (ds.length - 1)=[d0]:=by obtain⟨g1,rfl⟩:=cj.mp W;rw[List.drop_eq_getElem_cons g1,List.drop_eq_nil_of_le (by omega)]
   refine⟨_,rfl,1,rfl,o,?_,_,rfl,2,rfl,-2,rfl,1,rfl,-1,rfl,rfl,rfl,rfl,a,d,rfl,L,λz=>by rw[z]at B;simp at B;omega,λp G=>⟨p,_,rfl,.inl upd_same,λJ hJ=>?_⟩⟩
   ·rw[ixV_l L,←B]at *;show atI d (-1)=_;unfold atI ixN;rw[ac (by decide),aj (by omega)];have:(-1+(d.length:Int)).toNat=d.length - 1:=by omega
    rw[this];exact hw0
   ·have r:aF H (upd H p (.lst d.dropLast.reverse)):=aF.upd G;have N:upd H p (.lst d.dropLast.reverse) p=some (.lst d.dropLast.reverse):=upd_same;generalize upd H p (.lst d.dropLast.reverse)=H1 at r N hJ⊢;refine gG hJ (TC g a p n ds H1) ⟨o,none,rfl,aF.refl _,by rw[Nat.sub_zero,e0];exact aX.same r r0⟩ (λi σ H' _ ⟨_,_,_,s,_⟩=>by rw[s _ _ N,N]) ?_ ?_
    ·rintro i x σ H2 O ⟨w,o4,rfl,s2,j⟩;have hi:=(cj.mp O).1;rw[List.length_reverse,List.length_dropLast]at hi;have hx':d[ds.length - 2 - i]?=some x:=by rw[List.getElem?_reverse (by rw[List.length_dropLast];exact hi),List.length_dropLast,List.getElem?_dropLast,aj (by omega)]at O;rw[show ds.length - 2 - i=d.length - 1 - 1 - i by omega];exact O
     obtain⟨e,he,re⟩:=Reps.get v hx';refine⟨_,rfl,_,rfl,_,rfl,show 3<=sizeLine by decide,λu l=>⟨.ref u,some x,rfl,s2.trans (aF.upd l),?_⟩⟩;rw[show ds.length - 1 - (i+1)=ds.length - 2 - i by omega,zW he (by omega),show ds.length - 2 - i+1=ds.length - 1 - i by omega];exact⟨u,_,rfl,upd_same,_,_,rfl,rfl,_,_,rfl,aX.same ((r.trans s2).trans (aF.upd l)) re,_,_,rfl,aX.same (aF.upd l) j,rfl⟩
    ·rintro σ H2 ⟨w,o4,rfl,s2,j⟩;rw[List.length_reverse,List.length_dropLast,B,Nat.sub_self,List.drop_zero]at j;exact⟨_,rfl,q w H2 (r.trans s2) j⟩
end
end Lw
namespace Lw
open PySem PySem.Spec PyProof.Rows L2
noncomputable def wX (s:Stmt):Expr:=match bX s with
 | [_,.Return (some (.Call _ [_,_,e] _ _)) _]=>e
 | _=>.Name "" ⟨0,0,0,0⟩
noncomputable abbrev pP:Arguments:=KD (wX cU)
noncomputable abbrev bP:Expr:=KF (wX cU)
noncomputable abbrev scP:Scope:=lamSc (wX cU)
noncomputable def qP:Str:="paired.<locals>.<lambda>"
noncomputable abbrev oP (c0 c':Addr)(pm ctv:Value):Obj:=PySem.W.kla_obj "<lambda>" qP pP bP scP [("signs",c0)] pm c' ctv
noncomputable abbrev envP (L fl c0 c':Addr):Env:=newEnv scP L mainGlobals [("signs",c0)] (qP++".<locals>.") (some fl) (.ref c') none builtinsNs
noncomputable def cxP (P:Program)(w:World)(K:PySem.W.Frag)(mg:gX)(base:Heap)(A:Around)(outer:List Env)(s:Shared)(H:Hp)(fl a b:Addr):Cx where
 prog:=P
 w:=w
 K:=K
 mg:=mg
 base:=base
 A:=A.deeper (envP s.heap.objs.size fl a b)
 N:=["name","parts","signs"]
 s₀:=s
 H₀:=H
 env:=envP s.heap.objs.size fl a b
 outer:=outer
 stack:=envP s.heap.objs.size fl a b::outer
 ex:=[]
 fn:=λ_=>false
 calm:=true
 pn:=[]
 xe:=λ_ _=>False
theorem zM {x:Str}(h:scP.names.lookup x=some .cell∨scP.names.lookup x=some .free):x="signs":=by
 have all:∀y∈scP.names,(y.2 = .cell∨y.2 = .free)->y.1=("signs" : Str):=by decide +kernel
 rcases h with h|h
 ·exact all _ (PySem.mem_of_lookup h) (.inl rfl)
 ·exact all _ (PySem.mem_of_lookup h) (.inr rfl)
section
variable {P:Program}{w:World}{K:PySem.W.Frag}{mg:gX}{base:Heap}
theorem KB {A:Around}{outer:List Env}{s:Shared}{H:Hp}{g fl d E a C:Addr}{pm Y S R:Value}{f L:Obj}{G:i8}{tq:Tok}{n:Str}{k:Nat}{Q:VK}(hr:dW (k+1) A)(j:tO P w K mg base A outer s H)
  (hfl:H fl=some (pinO fl (oP d E pm Y))) (m:H d=some (pinO d f)) (X:f.data = .cell (some (.ref g))) (hc':H E=some (pinO E L)) (hcd:L.data = .fields G) (hq:G[1]?=some (.str qP tq))
  (O:dM P w K mg base bH k "in_pairs" (spInP K C)) (r1:aU (.str n) S) (r2:aU (.ref a) R) (sp:spInP K C [.ref g,.str n,.ref a] (del1 H d) (λv H'=>H' d=none->Q v (upd H' d (pinO d f))) E0) :
  codeAny (model P w) A (.call (.ref fl) ⟨[S,R],[]⟩) (CR bH outer P w H s Q E0) s:=by
 have gfl:=gE j.hok hfl;have g0:=gE j.hok m;have g':=gE j.hok hc';have lim:s.heap.NoLimit:=j.mod.nolimit.keeps λb o e=>(j.bs b o e).1;refine PySem.W.kla_callFunE hr.depth gfl rfl rfl rfl rfl ⟨E,L,G,tq,rfl,g',hcd,hq⟩ ?_;rw[show bindArgs (PySem.W.kla_fn "<lambda>" qP pP bP scP [("signs",d)] pm (.ref E) Y) ⟨[S,R],[]⟩=pure [(("name" : Str),S),(("parts" : Str),R)]from rfl];have nc:∀x∈scP.names,x.2≠.cell:=by decide +kernel
 have nl:∀x∈[(("name" : Str),S),(("parts" : Str),R)],scP.names.lookup x.1=some .local:=by
  intro x l;obtain rfl|l:=cm.mp l
  ·rfl
  ·rw[ck.mp l];rfl
 refine al (wpAny_newFunctionEnv nc nl (λh' hns U=>⟨lim.fresh _ U,?_⟩) rfl);have Z:∀b o,s.heap.get? b=some o->h'.get? b=some o:=λb o e=>U.extBut b o (bi (az e)) (ag _ e);have T:=j.hok.del m;have nfr:d∉frs outer:=λz=>by have:=j.frf d z;rw[m]at this;cases this
 have I:aQ (cxP P w K mg base A outer s (del1 H d) fl d E) [] [some (.str n),some (.ref a),some (.ref g)] (del1 H d) {s with heap:=h',toks:=s.toks+2}:=by
  have N:∀b:Addr,b∉(cxP P w K mg base A outer s (del1 H d) fl d E).ex:=λb z=>absurd (show b∈([]:List Addr)from z) (by simp);have one:∀x c,(cxP P w K mg base A outer s (del1 H d) fl d E).env.cells.lookup x=some c->x=("signs" : Str)/\c=d:=λx c e=>by have e':[(("signs" : Str),d)].lookup x=some c:=e;have:=PySem.mem_of_lookup e';rw[ck]at this;cases this;exact⟨rfl,rfl⟩
  refine⟨⟨j.mod,rfl,rfl,rfl,ae _,λx y c r B=>?_,λx l=>?_,λx c h=>absurd h (by simp[cxP]),λ_=>hr.hd,Around.frames_deeper j.frames,.inr ⟨rfl,rfl⟩,λb z=>absurd z (N b),λb o e=>⟨(j.bs b o e).1,dC (j.bs b o e).2⟩,j.bsz,λb _ _=>N b,λb z=>absurd z (N b),j.funs,λb z=>dC (j.frf b z)⟩,
   rfl,j.bare,Un.kept Z,⟨_,hns,λi x v r B h3=>?_⟩,λx c h=>?_,T.fresh (ae _),λx c h=>?_,λp hp=>absurd (show p∈([]:cZ)from hp) (by simp),T.kept Z,rfl⟩
  ·rw[(one x c r).1,(one y c B).1]
  ·rw[zM l];exact⟨d,rfl⟩
  ·match i,r,B with
   | 0,r,B=>cases r;cases B;exact⟨S,r1,.inl ⟨rfl,rfl⟩⟩
   | 1,r,B=>cases r;cases B;exact⟨R,r2,.inl ⟨rfl,rfl⟩⟩
   | 2,r,B=>cases r;cases B;exact⟨.ref g,rfl,.inr ⟨.inr rfl,d,rfl,f,Z _ _ g0,X⟩⟩
   | i+3,r,B=>cases r
  ·rw[(one x c h).2];exact⟨_,f,Z _ _ g0,X⟩
  ·rw[(one x c h).2];exact fI
 have pb:PE (cxP P w K mg base A outer s (del1 H d) fl d E) bP (tCall (spInP K C) [] E0 (tCons (tVar 2) (tCons (tVar 0) (tCons (tVar 1) tNil)))):=aM O (hr.deeper _) pass0 rfl (aA (pv 2) (aA (pv 0) (aA (pv 1) aB)));refine PySem.W.kla_codeExpr (wpAny_mono (pb [] _ _ _ (λv H'=>H' d=none->Q v (upd H' d (pinO d f))) I ⟨_,rfl,_,rfl,_,rfl,sp⟩) (λu s' ⟨v,H',J,rv,q⟩=>?_) λ_ _ z=>z.elim);have un:Un (frs outer) [] (del1 H d) H' s.heap s'.heap:=J.base;have gs:=un.keep d f g0 fI nfr (by simp);have nn:=un.free d f g0 fI (by simp);refine⟨v,upd H' d (pinO d f),J.os,J.bare,?_,J.hok.back nn gs,rv,q nn⟩;have ne:∀b u,H b=some u->(∀φ,u≠.ext φ)->b≠d:=λb u e z w=>by rw[w,m]at e;cases e;exact z _ rfl
 refine⟨λb o e z hb l=>un.keep b o e (dC z) hb l,λb o e z hb l=>un.slot b o e (dC z) hb l,λb o e z l=>?_,λb o e l=>un.there b o e l,λb xs e=>?_,λb o u' e=>?_,λb ps e=>?_⟩
 ·rw[aC (λw=>by rw[w,m]at z;cases z)];exact un.free b o e (dC z) l
 ·have F:=ne b _ e (λφ=>by simp);rw[aC F];exact un.tups b xs (by rw[bW F];exact e)
 ·have F:=ne b _ e (λφ=>by simp);rw[aC F];exact un.frzs b o u' (by rw[bW F];exact e)
 ·have F:=ne b _ e (λφ=>by simp);rw[aC F];exact un.tbls b ps (by rw[bW F];exact e)
end
def LI (H:Hp)(fl a g:Addr):Prop:=∃(b:Addr) (pm ctv:Value) (oc0 oc':Obj) (vsc:i8) (tq:Tok),H fl=some (pinO fl (oP a b pm ctv))/\H a=some (pinO a oc0)/\oc0.data = .cell (some (.ref g))/\H b=some (pinO b oc')/\oc'.data = .fields vsc/\vsc[1]?=some (.str qP tq)
theorem LI.same {H H':Hp}{fl e g:Addr}(h:LI H fl e g)(s:aF H H'):LI H' fl e g:=by obtain⟨r,i,d,b,c,a,f,q,o,m,l,j⟩:=h;exact⟨r,i,d,b,c,a,f,s _ _ q,s _ _ o,m,s _ _ l,j⟩
noncomputable def tLamP (K:PySem.W.Frag)(C:Addr)(i:Nat)(t:TA):TE:=λσ H Q=>∃fl,σ[i]?=some (some (.ref fl))/\t σ H λvs b=>∃(d g:Addr) (fx:cG) (sm:bG) (n:Str) (a:Addr) (ds:List D) (ws:List V),vs=[.str n,.ref a]/\LI b fl d g /\
 eP K C fx sm b g/\b a=some (.lst ws)/\Reps b ds ws/\ds≠[]/\ds.length<=1000/\∀(c:V) (H':Hp),aF b H'->aX H' (pr sm n ds) c->Q c H'
theorem yN {X:Cx}{C:Addr}{k i:Nat}{E m:Expr}{t:TA}{p d:Pos}(hN:X.N[i]?=some ("whole" : Str))(hv:Q6 X.env.scope "whole")(O:dM X.prog X.w X.K X.mg X.base bH k "in_pairs" (spInP X.K C))(hr:dW (k+1) X.A)(ha:PA X [E,m] t)
  (he:starEach [E,m] X.env=(false,eval E X.env)::starEach [m] X.env:=by rfl) (G:(backTo d (starEach [m] X.env)).any (·.1)=false:=by rfl):PE X (.Call (.Name "whole" p) [E,m] [] d) (tLamP X.K C i t):=by
 intro j s σ H Q I h;obtain⟨fl,J,h⟩:=h;have pw:PE X (.Name "whole" p) (tVar i):=BI hN hv;refine wpAny_Call_Name_kw (thn (pw j s σ H (λx H'=>x = .ref fl/\H'=H) I ⟨_,J,rfl,rfl⟩) λf s0 ⟨x,H0,I0,rx,e3,e4⟩=>?_);subst e3 e4;cases rx;have c:=ha d j s0 σ H0 _ I0 h;rw[he]at c⊢;refine PySem.W.callWith_of (P:=λh=>∃o Y,h.get? fl=some o/\o.data = .func Y) (by show((false || (backTo d (starEach [m] X.env)).any (·.1)) || false)=false;rw[G];rfl) (λh ⟨o,Y,z1,Z⟩=>⟨.frame,.inl rfl,?_⟩) (Calls.evalArgs_plain (thn c λus s1 ⟨vs,H1,T,rv,q⟩=>?_))
 ·intro A' Q' E' s' kp q;unfold keeperOf;refine aa (wpAny_load (kp _ _ z1) ?_);rw[Z];exact al q
 ·obtain⟨c0,g,fx,sm,n,a,ds,ws,rfl,la,sg,L,rd,S,l,q⟩:=q;obtain⟨c',pm,ctv,oc0,oc',vsc,tq,U,v,l3,l4,l5,l6⟩:=la;obtain⟨u1,u2,rfl,r1,r2⟩:=aT.two rv;refine⟨⟨_,_,gE T.hok U,rfl⟩,?_⟩;refine wpAny_call (codeAny_mono (KB (Q:=Q) hr T.env0 U v l3 l4 l5 l6 O r1 r2 ⟨g,fx,sm,n,a,ds,ws,rfl,sg.del1 v,by rw[bW (λz=>by rw[z,v]at L;cases L)];exact L,Reps.del1 v rd,S,l,λv' H' F rp nn=>q v' _ (λb o e=>?_) (aX.same (aF.upd nn) rp)⟩) λr s' B=>?_)
  ·by_cases z:b=c0
   ·subst z;rw[v]at e;cases e;exact upd_same
   ·rw[aC z];exact F b o (by rw[bW z];exact e)
  ·cases r with
   | error e=>exact B.elim
   | ok R =>
    cases R with
    | ret u=>exact T.after B
    | next=>exact B.elim
    | brk=>exact B.elim
    | cont=>exact B.elim
end Lw
namespace Lw
open PySem L2
section
variable {P:Program}{w:World}{K:PySem.W.Frag}{mg:gX}{base:Heap}
def spFWP (K:PySem.W.Frag)(C:Addr):Sp:=λvs H Q _=>∃(b fl c g:Addr) (fx:cG) (sm:bG) (d:D) (v:V),vs=[v,.ref b,.ref fl]/\H b=some (.dK [])/\LI H fl c g/\eP K C fx sm H g/\aX H d v/\Tm d/\nds d<=1000 /\
 ∀(a:V) (H':Hp),aF H H'->aX H' (prD sm d) a->Q a H'
def SD (v:V)(c fl m l:Addr)(sm:bG)(W:List D)(b:List V)(H:Hp)(i:Nat)(σ:St)(a:Hp):Prop:=∃(us:List V) (o4 o5:Option V),σ=[some v,some (.ref c),some (.ref fl),some (.ref m),o4,o5]/\a m=some (.lst us)/\aF H a/\a l=some (.lst b)/\Reps a (prDs sm (stk (W.drop (W.length - i)))).reverse us
def SE (m l p:Addr)(c:List V)(o:HO)(fs:List D)(H:Hp)(j:Nat)(b:List V)(σ:St)(a:Hp):Prop:=∃(us:List V) (o0:Option V),σ=[o0,some (.ref m)]/\a m=some (.lst us)/\aF H a/\a l=some (.lst c)/\a p=some o/\Reps a (fs.drop j).reverse us/\Reps a (fs.take j) b
theorem P5 {f C:Addr}{fd:FuncData}(F:fJ K "from_within" "from_within" dI f fd)(T:Txt mg)(L:dM P w K mg base bH 1 "walked" jB)(I:dM P w K mg base bH 2 "in_pairs" (spInP K C)):bN P w K mg base bH 8 f fd i3 (spFWP K C):=by
 refine F.ok cL (λvs H Q E h=>?_) (λcdv A outer s H vs Q E hr h=>?_)
 ·obtain⟨fi,fl,c0,g,fx,sm,d,v,rfl,_⟩:=h;rfl
 ·obtain⟨fi,fl,c0,g,fx,sm,d,v,rfl,W,la,sg,rep,tm,c,q⟩:=h;have hu:=hr.units
  refine⟨_,(aD (aZ (i:=3) cL.nd rfl (Or.inr rfl) (cM aB))
   (aD (fE de rfl (nU K rfl rfl T.n_reversed (aA (aM L (hr.mono (by decide)) pass0 rfl (aA (pv 0) aB)) aB)) (bA (i:=4) cL.nd rfl (Or.inl rfl)) (aG (bK (aP K rfl (aL aK rfl T.n_isinstance rfl (aA (pv 4) (aA (bJ (v:=V.ty "str") rfl T.n_str rfl rfl) aB))) (λ_=>rfl)) (aG (cB (gM da dc db eT (pv 3) (aA (yO (ak (bv (by decide) _) hu) (pv 1) (pv 4) (pv 4) ⟨rfl,rfl,rfl,rfl⟩) aB)))) (aD (iS (i:=5) cL.nd rfl rfl rfl rfl (bD.by (N:=eA) (names:=(aH dI).names) (N':=["part","made"]) (src:=[none,some 3]) (by decide +kernel) rfl rfl) (cE K rfl (eK kM (pv 4) (cP aJ) dG)) (λ_ _ _ _=>(bA (i:=0) (show List.Nodup (["part","made"]:aN)by decide +kernel) rfl (Or.inl rfl))) (λ_ _ _ _=>dF) (λ_ _ _ _=>(DY K rfl da PySem.F.slot_list_pop PySem.F.type_list_pop pD (pv 1))))
   (aG (cB (gM da dc db eT (pv 3) (aA (yN (i:=2) rfl (Or.inl rfl) I (hr.mono (by decide)) (aA (bM cX (pv 4) aJ (λ_ _=>rfl)) (aA (pv 5) aB))) aB))))))))
   (aG (aO (bM cX (pv 3) aJ (λ_ _=>rfl)))))),?_⟩
  simp only[eA];clear hr F T hu L I;have keep:=aI q (aI W (aI la (aI sg (aI rep (aI tm c)))));clear q W la sg rep tm c
  walk_at "rd"
  obtain⟨q,W,la,sg,rep,tm,c⟩:=keep;refine⟨au _,λm hm=>?_⟩;have s1:aF H (upd H m (.lst [])):=aF.upd hm;have hm1:upd H m (.lst []) m=some (.lst []):=upd_same;generalize upd H m (.lst [])=H1 at s1 hm1⊢;refine⟨_,rfl,d,v,H,rfl,s1,rep,mL tm,c,λl ws H2 s2 hl h2 rws=>⟨l,ws,rfl,h2,?_⟩⟩;have lw:=Reps.len rws;have lk:=lG d;have hml:m≠l:=λz=>by rw[z,hl]at hm1;cases hm1
  refine zN ws (SD v fi fl m l sm (wlk d) ws H) ⟨[],none,none,rfl,s2 _ _ hm1,s1.trans s2,h2,by rw[Nat.sub_zero,List.drop_length];rfl⟩ (λi σ H3 _ ⟨_,_,_,_,_,_,h,_⟩=>h) ?_ ?_
  ·rintro i x σ H3 hi hx ⟨us,o4,o5,rfl,h3,s3,Y,ru⟩;obtain⟨e,he,rx⟩:=Reps.get rws hx;rw[lw]at hi he;have hlt:(wlk d).length - 1 - i<(wlk d).length:=by omega
   have B:(wlk d).drop ((wlk d).length - (i+1))=e::(wlk d).drop ((wlk d).length - i):=by have e1:(wlk d)[(wlk d).length - 1 - i]=e:=(cj.mp he).2;rw[show(wlk d).length - (i+1)=(wlk d).length - 1 - i by omega,List.drop_eq_getElem_cons hlt,e1,show(wlk d).length - 1 - i+1=(wlk d).length - i by omega]
   have R:wlk d=(wlk d).take ((wlk d).length - (i+1))++e::(wlk d).drop ((wlk d).length - i):=by rw[←B,List.take_append_drop]
   obtain⟨rest,G⟩:=oS (mL tm) R;have sub:=nE tm e (bf he);have inS:∀y∈(wlk d).drop ((wlk d).length - i),y∈wlk d:=λy hy=>List.mem_of_mem_drop hy;have lS:((wlk d).drop ((wlk d).length - i)).length<=1000:=by rw[bq];omega
   generalize (wlk d).drop ((wlk d).length - i)=S at B R G inS lS ru;have X:Fls (prDs sm (stk S)):=iZ λy hy=>by rw[bZ]at hy;obtain⟨z,hz1,rfl⟩:=cr.mp hy;exact wI (nE tm z (inS z (vX hz1))).tm
   have lu:=Reps.len ru;rw[List.length_reverse,bZ,af]at lu;have ls:(stk S).length<=1000:=ao (vY S) lS;have keep:=aI q (aI W (aI la (aI sg (aI tm (aI c (aI hm (aI Y (aI h3 (aI s3 (aI ru (aI rx (aI sub (aI B (aI G (aI X (aI lu (aI ls (aI hml he))))))))))))))))));clear q W la sg rep tm c hm Y h3 s3 ru rx sub B G X lu ls hml he s1 hm1 s2 hl h2 rws lw lk hx hi hlt R inS lS
   walk_at "rd"
   obtain⟨q,W,la,sg,tm,c,hm,Y,h3,s3,ru,rx,sub,B,G,X,lu,ls,hml,he⟩:=keep;rcases DH sub.tm with⟨y,rfl,_⟩|⟨n,ds,hd,dne,tms⟩
   ·cases (show x = .str y from rx);refine⟨true,rfl,?_⟩;rw[aj rfl];refine⟨tyL h3,_,rfl,fi,rfl,.inl ⟨_,.inl (s3 _ _ W)⟩,_,rfl,_,rfl,_,oQ.k (k:=.inr y) (s3 _ _ W),us,h3,ak (m:=1000) (by omega) (by decide),us++[.str y],_,_,rfl,upd_same,λb o hb=>by rw[aC (aE hb hm)];exact s3 _ _ hb,by rw[aC hml.symm];exact Y,?_⟩;rw[B,stk];show Reps _ (prDs sm (.str y::(stk S).drop 0)).reverse _;rw[List.drop_zero,prDs,List.reverse_cons];exact Reps.snoc (by unfold prD;rfl) (Reps.tups (bE.lst h3) (lR X) ru)
   ·obtain⟨va,O,rfl,hbb,hseq,lv⟩:∃va O,x = .ref va/\isV H3 (.ref va) (.ty "str")=some false/\eV H va (.str n::O)/\O.length=ds.length:=by
     rcases hd with rfl|rfl
     ·obtain⟨a,vs,rfl,ha,_,O,rfl,e1,r⟩:=rx;cases e1;exact⟨a,O,rfl,fX (s3 _ _ ha),.inr ha,Reps.len r⟩
     ·obtain⟨a,vs,rfl,ha,_,O,rfl,e1,r⟩:=rx;cases e1;exact⟨a,O,rfl,iE (s3 _ _ ha),.inl ha,Reps.len r⟩
    obtain⟨hfe,hpe⟩:=qW sm hd;rw[hpe]at G;have wds:Wks ds:=kG tms;have hst:stk S=ds++stk rest:=by rw[G,kI wds]
    have hfs:prDs sm (stk S)=prDs sm ds++prDs sm (stk rest):=by rw[hst,bZ,ax,←bZ,←bZ]
    have lds:(prDs sm ds).length=ds.length:=by rw[bZ,af]
    have lfs:(prDs sm (stk S)).length<=1000:=by rw[bZ,af];exact ls
    refine⟨false,hbb,?_⟩;rw[ac (by decide)];refine⟨va,rfl,_,hseq.same s3,λ_ h=>by have:=h.1;simp[HT.sIx]at this,λp o hp ho=>?_⟩;rw[j6]at ho;refine⟨O,by rcases ho with⟨rfl,_⟩|⟨rfl,_⟩;exact .inl upd_same;exact .inr upd_same,λJ hJ=>?_⟩;have sp:aF H3 (upd H3 p o):=aF.upd hp;have hpo:upd H3 p o p=some o:=upd_same;have hmp:m≠p:=aE h3 hp;have hlp:l≠p:=aE Y hp;generalize upd H3 p o=H4 at sp hpo hJ⊢;refine cN hJ (SE m l p ws o (prDs sm (stk S)) H) ⟨us,none,rfl,sp _ _ h3,s3.trans sp,sp _ _ Y,hpo,by rw[List.drop_zero];exact Reps.same sp ru,rfl⟩ (λj Z σ H' _ ⟨_,_,_,_,_,_,h,_⟩=>by rw[h,hpo]) ?_ ?_
    ·rintro j y Z σ H5 hy ⟨us5,o0,rfl,h5,s5,hl5,hp5,r5,U⟩;have hj:j<ds.length:=by have:=(cj.mp hy).1;omega
     have hj2:j<(prDs sm (stk S)).length:=by rw[hfs,aq];omega
     rw[List.drop_eq_getElem_cons hj2,List.reverse_cons]at r5;obtain⟨us6,u,rfl,r6,ru6⟩:=fG r5;have la':=Reps.len U;rw[bo]at la';have fu:Fl (prDs sm (stk S))[j]:=dS X _ (List.getElem_mem hj2);refine⟨_,rfl,tyL h5,m,_,u,rfl,rfl,h5,by simp,ak (m:=1000) (by omega) (by decide),?_⟩;rw[List.dropLast_concat];have tt:bE H5 (upd H5 m (.lst us6)):=bE.lst h5;refine⟨us6,_,rfl,upd_same,λb o hb=>by rw[aC (aE hb hm)];exact s5 _ _ hb,by rw[aC hml.symm];exact hl5,by rw[aC hmp.symm];exact hp5,Reps.tups tt (lR (oC X (j+1))) r6,?_⟩;rw[aY (aw hj2)];exact Reps.snoc (aX.tups tt fu ru6) (Reps.tups tt (zO X j) U)
    ·rintro Z σ H5 ⟨us5,o0,rfl,h5,s5,hl5,hp5,r5,U⟩ p6 hp6;have e1:(prDs sm (stk S)).take O.length=prDs sm ds:=by rw[hfs,lv,←lds,List.take_left]
     rw[e1]at U;have s6:aF H5 (upd H5 p6 (.lst Z)):=aF.upd hp6;have h66:upd H5 p6 (.lst Z) p6=some (.lst Z):=upd_same;have hmp6:m≠p6:=aE h5 hp6;generalize upd H5 p6 (.lst Z)=H6 at s6 h66⊢;have sH6:=s5.trans s6;have ix0:ixV H6 (.ref va) (.int 0)=some (.str n):=by
      rcases hseq.same sH6 with e|e
      ·rw[ixV_l e,atI_zero]
      ·rw[ixV_t e,atI_zero]
     refine⟨tyL (s6 _ _ h5),fl,rfl,_,rfl,.str n,ix0,_,rfl,c0,g,fx,sm,n,p6,prDs sm ds,Z,rfl,la.same sH6,sg.same sH6,h66,Reps.same s6 U,(λz=>by rw[z]at lds;exact absurd (List.length_eq_zero_iff.mp lds.symm) dne),(by rw[hfs,aq]at lfs;omega),λv' H7 s7 r7=>?_⟩;have h7:=s7 _ _ (s6 _ _ h5);have l5:=Reps.len r5;rw[List.length_reverse,bq]at l5;refine⟨us5,h7,ak (m:=1000) (by omega) (by decide),us5++[v'],_,_,rfl,upd_same,λb o hb=>by rw[aC (aE hb hm)];exact s7 _ _ (sH6 _ _ hb),by rw[aC hml.symm];exact s7 _ _ (s6 _ _ hl5),?_⟩;have tt:bE H7 (upd H7 m (.lst (us5++[v']))):=bE.lst h7;rw[B,stk,prDs,List.reverse_cons,hpe,FZ,hfe];rw[lv]at r5;have fe:=wI (sm:=sm) sub.tm;rw[hfe]at fe;exact Reps.snoc (aX.tups tt fe r7) (Reps.tups tt (lR (oC X ds.length)) (Reps.same (s6.trans s7) r5))
  ·rintro σ H3 ⟨us,o4,o5,rfl,h3,s3,Y,ru⟩;rw[lw,Nat.sub_self,List.drop_zero]at ru;have e:=vW (mL tm) [];rw[bh]at e;rw[e]at ru;obtain⟨u,r,rfl,r1,r2⟩:=ru;cases (show r=[]from r2);exact⟨_,rfl,u,by rw[ixV_l h3,atI_zero],q u H3 s3 r1⟩
end
end Lw
namespace Lw
open PySem PySem.Spec PyProof.Rows PySem.W L2
noncomputable abbrev xP:Pos:=KC (wX cU)
def AR (P:Addr)(H:Hp):Prop:=H P=some (.tbl #[])∨∃(a:Addr) (oc':Obj) (vsc:i8) (tq:Tok),H P=some (.tbl #[rawInt xP.line,rawInt xP.col,.ref a])/\H a=some (pinO a oc')/\oc'.data = .fields vsc/\vsc[1]?=some (.str qP tq)
theorem AR.same {P:Addr}{H H':Hp}(h:AR P H)(s:aF H H'):AR P H':=by
 rcases h with h|⟨g,b,a,c,f,e,d⟩
 ·exact .inl (s _ _ h)
 ·exact .inr ⟨g,b,a,c,s _ _ f,s _ _ e,d⟩
noncomputable def LS (P a:Addr):TE:=λσ H Q=>AR P H/\∀(fl b:Addr) (pm ctv:Value) (oc':Obj) (vsc:i8) (tq:Tok) (H':Hp),eE P H H'->AR P H'->H' fl=some (pinO fl (oP a b pm ctv))->H' b=some (pinO b oc')->oc'.data = .fields vsc->vsc[1]?=some (.str qP tq)->H a=none->H' a=none->Q (.ref fl) H'
theorem F4 {X:Cx}{c P i:Addr}(B:closureFor scP X.env=pure [(("signs" : Str),i)])(g:X.env.cells.lookup ("signs" : Str)=some i)(l:X.env.code = .ref c)(hq:X.env.qual++"<lambda>" = qP)(hC:∀h,X.K.In h->CodeHd h c P)(hB:Bm X.mg X.base):PE X (.Lambda pP bP scP xP) (LS P i):=by
 intro r s σ H Q I h;obtain⟨lt,q⟩:=h;have hg:s.heap.Ns mainGlobals X.mg:=I.mod.glob.keeps I.bk;have R:∃ps,H P=some (.tbl ps):=by
  rcases lt with h|⟨_,_,_,_,h,_⟩
  ·exact⟨_,h⟩
  ·exact⟨_,h⟩
 obtain⟨ps,v⟩:=R;have F:s.heap.get? P=some (tabObj ps):=I.hok P _ v;have E:∀b o,X.base.get? b=some o->b≠P:=λb o e z=>by have:=(I.bs b o e).2;rw[z,v]at this;cases this
 have O:mainGlobals≠P:=by obtain⟨o,es,ep,e,_⟩:=I.mod.glob;exact E _ _ e
 have hb:s.heap.BuiltinsAt X.mg P:=by obtain⟨bm,o,b1,b2,b3,b4,b5,b6,b7⟩:=hB;exact⟨bm,o,b1,b2,b3,E _ _ b4,I.bk _ _ b4,b5,b6,b7⟩
 have n0:=I.freeC _ _ g;refine kla_eval rfl ?_;rw[hq];rcases lt with lt|⟨a,f,j,w,lt,l2,l3,l4⟩
 ·rw[v]at lt;cases lt;refine kla_makeFunction B I.ok.glob hg l (hC _ I.kIn) F trivial rfl O hb λa d h' tk hx m A x L=>?_;obtain⟨c2,f,j,w,e2,N,hd,hv⟩:=x;cases e2;have I1:aQ X r σ (upd H P (.tbl (#[] ++ #[rawInt xP.line,rawInt xP.col,.ref a]))) {s with heap:=h',toks:=tk}:=I.grow v hx L;have nP:P≠a:=λz=>by have:=az F;rw[z]at this;exact bx _ (ba this m)
  have nc':H a=none:=I.hok.fresh m;have fc:=I.fpOk (H':=upd H P (.tbl (#[] ++ #[rawInt xP.line,rawInt xP.col,.ref a]))) m (by rw[aC nP.symm];exact nc');have Y:=I1.adopt (o:=pinO a f) fc (mP N);have Z:s.heap.objs.size<=h'.objs.size:=ao m (Nat.le_of_lt A);have W:=Y.kept (t':=tk) λb o e=>ag (oP i a ((X.mg "__name__").getD .none) d) e;have U:=Y.fpOk (ae h'.objs.size) (Y.hok.fresh (ae _));have T:(h'.push (oP i a ((X.mg "__name__").getD .none) d)).get? h'.objs.size=some (oP i a ((X.mg "__name__").getD .none) d):=ar _ rfl;have C:=W.adopt (o:=pinO h'.objs.size (oP i a ((X.mg "__name__").getD .none) d)) U (mP T);have G:a≠h'.objs.size:=bi A;have J:P≠h'.objs.size:=λz=>by have:=az F;rw[z]at this;exact bx _ (ba this Z)
  have u:upd (upd (upd H P (.tbl (#[] ++ #[rawInt xP.line,rawInt xP.col,.ref a]))) a (pinO a f)) h'.objs.size (pinO h'.objs.size (oP i a ((X.mg "__name__").getD .none) d)) a=some (pinO a f):=by rw[aC G];exact upd_same
  have S:upd (upd (upd H P (.tbl (#[] ++ #[rawInt xP.line,rawInt xP.col,.ref a]))) a (pinO a f)) h'.objs.size (pinO h'.objs.size (oP i a ((X.mg "__name__").getD .none) d)) P=some (.tbl #[rawInt xP.line,rawInt xP.col,.ref a]):=by rw[aC J,aC nP,upd_same];rfl
  refine⟨.ref h'.objs.size,_,C,rfl,q _ a _ d f j w _ (λb o E e=>?_) (.inr ⟨a,f,j,w,S,u,hd,hv⟩) upd_same u hd hv n0 (C.freeC _ _ g)⟩;have lb:=I.hok.lt e;rw[aC (λz=>by rw[z]at lb;exact bx _ (ba lb Z)),aC (aE e nc'),aC E];exact e
 ·rw[v]at lt;cases lt;have am:codeAmong xP [rawInt xP.line,rawInt xP.col,.ref a]=some (.ref a):=by simp[codeAmong,rawInt]
  refine kla_makeFunctionHit (cv:=.ref a) B I.ok.glob hg l (hC _ I.kIn) F trivial am hb λd h' tk hk hsz=>?_;have W:aQ X r σ H {s with heap:=h'.push (oP i a ((X.mg "__name__").getD .none) d),toks:=tk}:=I.kept λb o e=>ag _ (hk b o e);have nf:=I.hok.fresh hsz;have U:=I.fpOk hsz nf;have T:(h'.push (oP i a ((X.mg "__name__").getD .none) d)).get? h'.objs.size=some (oP i a ((X.mg "__name__").getD .none) d):=ar _ rfl;have C:=W.adopt (o:=pinO h'.objs.size (oP i a ((X.mg "__name__").getD .none) d)) U (mP T);have sm:aF H (upd H h'.objs.size (pinO h'.objs.size (oP i a ((X.mg "__name__").getD .none) d))):=aF.upd nf;exact⟨.ref h'.objs.size,_,C,rfl,q _ a _ d f j w _ (λb o _ e=>sm b o e) (.inr ⟨a,f,j,w,sm _ _ v,sm _ _ l2,l3,l4⟩) upd_same (sm _ _ l2) l3 l4 n0 (C.freeC _ _ g)⟩
noncomputable def tFWcP (K:PySem.W.Frag)(C b:Addr)(t:TA):TE:=λσ H Q=>t σ H λvs c=>∃g,σ[0]?=some (some (.ref g))/\∀a:Obj,a.data = .cell (some (.ref g))->c b=none->spFWP K C vs (upd c b (pinO b a)) (λv H'=>H' b=some (pinO b a)/\Q v (del1 H' b)) E0
theorem PP {X:Cx}{C i:Addr}{k:Nat}{e:Expr}{es:mJ}{t:TA}{p G:Pos}(O:dM X.prog X.w X.K X.mg X.base bH k "from_within" (spFWP X.K C))(hr:dW k X.A)(hg:Gl X "from_within")(hN:X.N[0]?=some ("signs" : Str))(l:X.env.scope.names.lookup ("signs" : Str)=some .cell)(d:X.env.cells.lookup ("signs" : Str)=some i)(hfn:X.fn "signs" = true)(ha:PA X (e::es) t)
  (he:starEach (e::es) X.env=(false,eval e X.env)::starEach es X.env:=by rfl) (hpl:(backTo G (starEach es X.env)).any (·.1)=false:=by rfl):PE X (.Call (.Name "from_within" p) (e::es) [] G) (tFWcP X.K C i t):=by
 obtain⟨f,fd,ps,F,hm,hk,hb⟩:=O;intro R s σ H Q I h;refine wpAny_Call_Name_kw (j4 I hg hm ?_ (by decide));refine PySem.W.callWith_K (h₀:=X.base) I.ok.mod.kin hk (thn (ha G R s σ H _ I h) λus P ⟨vs,H1,B,r,q⟩=>⟨B.kIn,?_⟩) he hpl;obtain⟨g,hσ,q⟩:=q;have n0:=B.freeC _ _ d;have j:=B.ok.cab _ _ hfn d;obtain⟨a,ho,hd⟩:∃a,P.heap.get? i=some a/\a.data = .cell (some (.ref g)):=by
  obtain⟨m,hns,hl⟩:=B.loc;obtain⟨u,ru,look⟩:=hl 0 _ _ hN hσ (.inr (.inl l));cases ru;rcases look with⟨z,_⟩|⟨_,c,hc,a,ho,hd⟩
  ·have z':X.env.scope.names.lookup ("signs" : Str)=some .local:=z;rw[l]at z';cases z'
  ·rw[d]at hc;cases hc;exact⟨a,ho,hd⟩
 have sp:=q a hd n0;have E:=B.env0;have nl:i≠X.env.locals:=λz=>by obtain⟨m,⟨o,es',ep,Z,e2,_⟩,_⟩:=B.loc;rw[←z,ho]at Z;cases Z;rw[hd]at e2;cases e2
 have S:∀b∈frs X.stack,b≠i:=λb hb z=>by
  rcases cm.mp (B.stkSub b hb)with w|w
  ·exact nl (z ▸ w)
  ·obtain⟨_,o,Z,_⟩:=B.ok.funs.mem w;exact bx _ (ba (az Z) (z ▸ j))
 have hl:(us++[]).length=ps.length:=by have:=F.len _ _ _ _ sp;rw[bh,←r.length];exact this
 have ne:∀b o,X.base.get? b=some o->b≠i:=λb o e z=>bx _ (ba (az (B.ok.bs b o e).1) (z ▸ j));have env:tO X.prog X.w X.K X.mg X.base X.A X.stack P (upd H1 i (pinO i a)):=⟨E.frames,E.mod,λb o e=>⟨(E.bs b o e).1,by rw[aC (ne b o e)];exact(E.bs b o e).2⟩,E.bsz,E.funs,λb z=>by rw[aC (S b z)];exact E.frf b z,E.hok.back n0 ho,E.bare⟩
 refine wpAny_call (codeAny_mono (F.run X.A X.stack P _ ⟨us,[]⟩ us vs _ E0 hr env (by have:=hb P us B.kIn hl;rw[bh]at this;exact this) r sp) λres s' T=>?_);cases res with
 | error x=>exact T.elim
 | ok fl' =>
  cases fl' with
  | ret u =>
   obtain⟨v,H',os,bare,un,hok,rv,U,qq⟩:=T;have g0:=gE hok U;have L:∀b u,H1 b=some u->b≠i:=λb u e=>aE e n0;have un2:Un (frs X.stack) [] H1 (del1 H' i) P.heap s'.heap:=by
    refine⟨λb o e n Y J=>?_,λb o e n Y J=>?_,λb o e n J=>?_,λb o e J=>un.there b o e J,λb xs e=>?_,λb o u' e=>?_,λb qs e=>?_⟩
    ·by_cases z:b=i
     ·subst z;rw[ho]at e;cases e;exact g0
     ·exact un.keep b o e (by rw[aC z];exact n) Y J
    ·exact un.slot b o e (by rw[aC (S b Y)];exact n) Y J
    ·by_cases z:b=i
     ·subst z;exact fI
     ·exact dC (un.free b o e (by rw[aC z];exact n) J)
    ·rw[bW (L b _ e)];exact un.tups b xs (by rw[aC (L b _ e)];exact e)
    ·rw[bW (L b _ e)];exact un.frzs b o u' (by rw[aC (L b _ e)];exact e)
    ·rw[bW (L b _ e)];exact un.tbls b qs (by rw[aC (L b _ e)];exact e)
   exact⟨v,_,B.call' (ch:=[]) os un2 (hok.del U) bare (λb z=>absurd z (by simp)),rv,qq⟩
  | next=>exact T.elim
  | brk=>exact T.elim
  | cont=>exact T.elim
end Lw
namespace Lw
open PySem L2
section
variable {P:Program}{w:World}{K:PySem.W.Frag}{mg:gX}{base:Heap}
theorem AR.tbl {Pt:Addr}{H:Hp}(h:AR Pt H):∃ps,H Pt=some (.tbl ps):=by
 rcases h with h|⟨_,_,_,_,h,_⟩
 ·exact⟨_,h⟩
 ·exact⟨_,h⟩
theorem AR.rep {Pt:Addr}{H H':Hp}(h:AR Pt H)(b:eE Pt H H'){d:D}{v:V}(r:aX H d v):aX H' d v:=by obtain⟨ps,e⟩:=h.tbl;exact aX.but b (λxs z=>by rw[e]at z;cases z) (λxs z=>by rw[e]at z;cases z) r
theorem AR.ne {Pt:Addr}{H:Hp}(h:AR Pt H){a:Addr}{o:HO}(e:H a=some o)(n:∀ps,o≠.tbl ps):a≠Pt:=λz=>by obtain⟨ps,b⟩:=h.tbl;rw[z,b]at e;cases e;exact n _ rfl
theorem AR.sg {Pt C g:Addr}{e:cG}{sm:bG}{H H':Hp}(h:AR Pt H)(b:eE Pt H H')(s:eP K C e sm H g):eP K C e sm H' g:=by obtain⟨v,u,r,m,fs,q,o,d,l,j,i,f,c,a⟩:=s;exact⟨v,u,r,m,fs,q,o,b _ _ (h.ne d λ_=>by simp) d,l,j,i,f,b _ _ (h.ne c λ_=>by simp) c,b _ _ (h.ne a λ_=>by simp) a⟩
def nF (K:PySem.W.Frag)(C Pp:Addr):Sp:=λvs H Q _=>∃(g:Addr) (fx:cG) (sm:bG) (os:aN) (d:D) (v:V),vs=[.ref g,v]/\eP K C fx sm H g/\aX H d v/\pM fx sm os d/\AR Pp H /\
 ∀(a:V) (H':Hp),eE Pp H H'->AR Pp H'->aX H' (prD sm d) a->Q a H'
theorem GE {f C c Pp:Addr}{oc:Value}{od an:Option Addr}{osl:Array (Option Value)}{kV z B ct:Value}(lk:K.lookup f=some ⟨oc,od,.func (PySem.W.fnOf "paired" "paired" (cK cU) (bX cU) (aH cU) .none kV z B an (.ref c) ct),osl⟩)(l:PySem.W.codeIn K (.ref c) "paired" = true)
  (hC:∀h,K.In h->PySem.W.CodeHd h c Pp) (hB:Bm mg base) (i:dM P w K mg base bH 3 "check_term" (jP K C)) (a:dM P w K mg base bH 8 "from_within" (spFWP K C)):bN P w K mg base bH 9 f (PySem.W.fnOf "paired" "paired" (cK cU) (bX cU) (aH cU) .none kV z B an (.ref c) ct) tD (nF K C Pp):=by
 refine EN lk l FV (λvs H Q E h=>?_) (λA outer s H vs Q E Z h=>?_)
 ·obtain⟨g,T,sm,os,d,v,rfl,_⟩:=h;rfl
 ·obtain⟨g,T,sm,os,d,v,rfl,sg,rep,tm,lt,q⟩:=h
  refine⟨_,(aD (cB (aM i (Z.mono (by decide)) pass0 rfl (aA (pv 0) (aA (pv 1) aB))))
   (aG (aO (PP a (Z.mono (by decide)) rfl rfl rfl rfl rfl (aA (pv 1) (@DZ _ _ _ _ (aA (F4 rfl rfl rfl rfl hC hB) aB))))))),?_⟩
  refine⟨_,rfl,_,rfl,g,T,sm,os,d,v,rfl,sg,tm.so,tm.ho,rep,tm.tm,ao tm.lv (by decide),ao tm.dp (by decide),tm.nd,λX s1=>?_⟩;refine⟨_,rfl,λx O=>?_⟩;have s2:aF H (upd X x (.dK [])):=s1.trans (aF.upd O);have f2:upd X x (.dK []) x=some (.dK []):=upd_same;generalize upd X x (.dK [])=H2 at s2 f2⊢;have j:=lt.same s2;refine⟨j,λfl c' B U J G tq H' F L N S l hv n0 u=>⟨g,rfl,λr R _=>?_⟩⟩;have m:aF H' (upd H' (s.heap.objs.size+1) (pinO (s.heap.objs.size+1) r)):=aF.upd u;refine⟨x,fl,s.heap.objs.size+1,g,T,sm,d,v,rfl,m _ _ (F _ _ (j.ne f2 λ_=>by simp) f2),⟨c',B,U,r,J,G,tq,m _ _ N,upd_same,R,m _ _ S,l,hv⟩,(j.sg F (sg.same s2)).same m,aX.same m (j.rep F (aX.same s2 rep)),(uG tm.so tm.ho tm.tm).1,tm.nd,λv' H3 I r3=>⟨I _ _ upd_same,?_⟩⟩;have Y:aF H' (del1 H3 (s.heap.objs.size+1)):=λb o e=>by rw[bW (aE e u)];exact I _ _ (m _ _ e)
  exact q v' _ (λb o nb e=>Y _ _ (F b o nb (s2 _ _ e))) (L.same Y) (aX.del1 (I _ _ upd_same) r3)
mutual
def HG:D->Prop
 | .str _=>True
 | .tup ds=>Tpls ds
 | _=>False
def Tpls:List D->Prop
 | []=>True
 | d::ds=>HG d/\Tpls ds
end
mutual
theorem rR {H H':Hp}(b:bE H H'):∀{d:D} {v:V},HG d->aX H d v->aX H' d v
 | .str x,v,_,h=>h
 | .tup ds,v,t,⟨a,vs,e,h,r⟩=>by
  unfold HG at t;exact⟨a,vs,e,b _ _ h,jH b t r⟩
 | .non,_,t,_ | .bl _,_,t,_ | .int _,_,t,_ | .lst _,_,t,_=>by unfold HG at t;exact absurd t id
theorem jH {H H':Hp}(c:bE H H'):∀{ds:List D} {vs:List V},Tpls ds->Reps H ds vs->Reps H' ds vs
 | [],_,_,h=>h
 | d::ds,_,⟨a,b⟩,⟨v,r,e,h,k⟩=>⟨v,r,e,rR c a h,jH c b k⟩
end
theorem oU {d:D}(h:HG d):∀{ds:List D},Tpls ds->Tpls (ds++[d])
 | [],_=>⟨h,trivial⟩
 | _::_,⟨a,b⟩=>⟨a,oU h b⟩
def HI (H:Hp):List (List D)->List Addr->Prop
 | [],[]=>True
 | t::r,a::as=>(Tpls t/\∃vs,H a=some (.lst vs)/\Reps H t vs)/\HI H r as
 | _,_=>False
theorem HI.keep {H H':Hp}(c:bE H H'):∀{st:List (List D)} {rs:List Addr},(∀a∈rs,H' a=H a)->HI H st rs->HI H' st rs
 | [],[],_,_=>trivial
 | t::r,a::as,k,⟨⟨d,vs,i,g⟩,f⟩=>⟨⟨d,vs,by rw[k a av];exact i,jH c d g⟩,HI.keep c (λb e=>k b (ay _ e)) f⟩
 | [],_::_,_,h=>absurd h id
 | _::_,[],_,h=>absurd h id
theorem HI.mem {H:Hp}{a:Addr}:∀{st:List (List D)} {rs:List Addr},HI H st rs->a∈rs->∃vs,H a=some (.lst vs)
 | [],[],_,h=>absurd h (List.not_mem_nil)
 | t::r,b::as,⟨⟨_,vs,e,_⟩,k⟩,h=>by
  obtain rfl|h:=cm.mp h
  ·exact⟨vs,e⟩
  ·exact HI.mem k h
 | [],_::_,h,_=>absurd h id
 | _::_,[],h,_=>absurd h id
theorem QK {c:Nat}(h:c<128):inTx (PySem.Str.ofString ",)") c=decide (c=44∨c=41):=by
 have:∀c:Fin 128,inTx (PySem.Str.ofString ",)") c.1=decide (c.1=44∨c.1=41):=by decide +kernel
 exact this ⟨c,h⟩
theorem atI_last {α:Type}(xs:List α)(x:α):atI (xs++[x]) (-1)=some x:=by
 unfold atI ixN;rw[ac (by decide),aj (by simp only[aq,cb];omega)];simp only[aq,cb,Option.bind_some];have:(-1+((xs.length+1:Nat):Int)).toNat=xs.length:=by omega
 rw[this];simp
def spUnb:Sp:=λvs H Q _=>∃(z:Str) (e:D),vs=[.str z]/\z.cps.all (· < 128)=true/\z.cps.size<=20000/\prs z.cps.toList ([],.str ⟨#[]⟩)=some ([],e)/\∀(a:V) (H':Hp),aF H H'->HG e->aX H' e a->Q a H'
def SU (z:Str)(b:Addr)(H:Hp)(i:Nat)(σ:St)(a:Hp):Prop:=∃(stk:List (List D)) (lat:D) (rs:List Addr) (v:V) (o:Option V),σ=[some (.str z),some (.ref b),some v,o]/\prs (z.cps.toList.take i) ([],.str ⟨#[]⟩)=some (stk,lat)/\aF H a/\a b=some (.lst (rs.reverse.map V.ref)) /\
 HI a stk rs/\rs.Nodup/\b∉rs/\(∀r∈rs,H r=none)/\HG lat/\aX a lat v/\rs.length<=i/\(∀t∈stk,t.length<=i+1)/\∀x:Str,lat = .str x->x.cps.size<=i
theorem P2 {f:Addr}{fd:FuncData}(F:fJ K "unbracketed" "unbracketed" gC f fd)(T:Txt mg):bN P w K mg base bH 1 f fd mC spUnb:=by
 refine F.ok c5 (λvs H Q E h=>?_) (λcdv A outer s H vs Q E hr h=>?_)
 ·obtain⟨z,e,rfl,_⟩:=h;rfl
 ·obtain⟨z,e,rfl,l,B,pz,q⟩:=h;have hu:=hr.units
  refine⟨_,(aD (aZ (i:=1) c5.nd rfl (Or.inl rfl) (cM aB))
   (aD (aZ (i:=2) c5.nd rfl (Or.inl rfl) cS)
   (aD (fE de rfl (wJ (pv 0)) (bA (i:=3) c5.nd rfl (Or.inl rfl)) (aG (bK (bC jL (pv 3) cS (by with_unfolding_all rfl)) (aD (bK (cR (aP K rfl (pv 1) (λ_=>rfl))) (aG (aO kW)) aW)
   (aD (cB (gM da dc db eT (bM cX (pv 1) (kU h9 aJ) (λ_ _=>rfl)) (aA (pv 2) aB)))
   (aG (aZ (i:=2) c5.nd rfl (Or.inl rfl) (kX (bC (eD hu) (pv 3) cS (nomark _)) (cH eN rfl T.n_tuple rfl (aA (rW da PySem.F.slot_list_pop PySem.F.type_list_pop pD (pv 1)) aB)) cS))))) (aG (bK (cR (aP K rfl (aL aK rfl T.n_isinstance rfl (aA (pv 2) (aA (bJ (v:=V.ty "str") rfl T.n_str rfl rfl) aB))) (λ_=>rfl))) (aG (aO kW)) (aG (bK (bC (eD hu) (pv 3) cS (nomark _)) (aD (cB (gM da dc db eT (pv 1) (aA (cM (aA (pv 2) aB)) aB)))
   (aG (aZ (i:=2) c5.nd rfl (Or.inl rfl) cS))) (aG (PF (i:=2) c5.nd rfl (Or.inl rfl) (pv 3) NI)))))))))
   (aG (aO (kX (aP K rfl (pv 1) (λ_=>rfl)) kW (pv 2))))))),?_⟩
  simp only[mG];clear hr F T hu;have keep:=aI q (aI l (aI B pz));clear q l B pz
  walk_at "rd"
  obtain⟨q,l,B,pz⟩:=keep;refine⟨by decide,λL Z=>?_⟩;simp only[iTxt,tVar];refine⟨_,rfl,z,rfl,l,?_⟩;refine KP (SU z L H) ⟨[],.str ⟨#[]⟩,[],_,none,rfl,rfl,aF.upd Z,upd_same,trivial,List.nodup_nil,by simp,by simp,by unfold HG;trivial,s00 ▸ rfl,by simp,by simp,by intro x hx;cases hx;simp⟩ ?_ ?_
  ·rintro i c σ I hc ⟨stk,C,rs,v,o,rfl,pi,W,u,J,nd,N,fr,tl,rl,l1,Y,l3⟩;have keep:=aI pi (aI W (aI u (aI J (aI nd (aI N (aI fr (aI tl (aI rl (aI l1 (aI Y (aI l3 hc)))))))))));clear pi W u J nd N fr tl rl l1 Y l3 hc;have keep2:=aI q (aI l (aI B pz));clear q l B pz;simp only[tAug]
   walk_at "rd"
   obtain⟨q,l,B,pz⟩:=keep2;obtain⟨pi,W,u,J,nd,N,fr,tl,rl,l1,Y,l3,hc⟩:=keep;have cc:c<128:=by have h:=Array.all_eq_true.mp l;obtain⟨hi,e1⟩:=Array.getElem?_eq_some_iff.mp hc;have:=h i hi;rw[e1]at this;exact bn this
   have hi:i<z.cps.size:=(Array.getElem?_eq_some_iff.mp hc).1;obtain⟨R,j,X⟩:=IZ (by rw[Array.getElem?_toList];exact hc) pi pz;have hin:=QK cc;unfold inTx at hin;rw[Bool.not_eq_eq_eq_not]at hin;refine⟨decide (c=44∨c=41),hin,?_⟩;by_cases U:c=44∨c=41
   ·rw[bd U,aj rfl];unfold prs1 at j;rw[aj U]at j;cases stk with
    | nil=>cases j
    | cons t r =>
     cases rs with
     | nil=>exact absurd J id
     | cons a as =>
      obtain⟨⟨ht,vs,ha,hv⟩,sr⟩:=J;have er:(a::as).reverse.map V.ref=as.reverse.map V.ref++[.ref a]:=by simp
      rw[er]at u⊢;have noa:L≠a:=λz=>N (z ▸ av);have lt1:=Y t av;have lv:=Reps.len hv;refine⟨true,.inl ⟨_,eH.of u,by simp⟩,?_⟩;rw[ac (by decide)];refine⟨_,atI_last _ _,tyL ha,a,rfl,vs,ha,ak (m:=20005) (by omega) (by decide),?_⟩;have g1:upd I a (.lst (vs++[v])) L=some (.lst (as.reverse.map V.ref++[.ref a])):=by rw[aC noa];exact u
      have ts1:bE I (upd I a (.lst (vs++[v]))):=bE.lst ha;have fra:=fr a av;have s1:aF H (upd I a (.lst (vs++[v]))):=λb ob g=>by rw[aC (aE g fra)];exact W _ _ g
      have na:a∉as:=(cu.mp nd).1;have ea:upd I a (.lst (vs++[v])) a=some (.lst (vs++[v])):=upd_same;have hv1:=jH ts1 ht hv;have rl1:=rR ts1 tl rl;have S:HI (upd I a (.lst (vs++[v]))) r as:=HI.keep ts1 (λb g=>aC (λz=>na (z ▸ g))) sr;generalize upd I a (.lst (vs++[v]))=H3 at g1 s1 ea hv1 rl1 S⊢;by_cases c41:c=41
      ·subst c41;have j:some (r,D.tup (t++[C]))=some R:=j;cases j;rw[aj s41.symm];refine⟨tyL g1,_,g1,.ref a,by simp,a,rfl,vs++[v],.inl (by rw[aC noa.symm];exact ea),λl1' H' hH=>?_⟩;rw[List.dropLast_concat]at hH;have ts2:bE H3 (upd H3 L (.lst (as.reverse.map V.ref))):=bE.lst g1;rcases hH with⟨h,_⟩|⟨_,G,rfl⟩
       ·rw[aC noa.symm,ea]at h;cases h
       ·have nl:L≠l1':=aE upd_same G;have ts3:bE (upd H3 L (.lst (as.reverse.map V.ref))) (upd (upd H3 L (.lst (as.reverse.map V.ref))) l1' (.tup (vs++[v]))):=bE.of (aF.upd G);have ts4:=ts2.trans ts3;refine⟨r,.tup (t++[C]),as,_,_,rfl,X,λb ob g=>?_,?_,HI.keep ts4 (λb g=>?_) S,(cu.mp nd).2,λhm=>N (ay _ hm),λb g=>fr b (ay _ g),by unfold HG;exact oU tl ht,⟨l1',vs++[v],rfl,upd_same,Reps.snoc (rR ts4 tl rl1) (jH ts4 ht hv1)⟩,by simp only[ap]at l1;omega,λt' d=>by have:=Y t' (ay _ d);omega,λx hx=>by cases hx⟩
        ·have h3:=s1 _ _ g;rw[aC (λz=>by rw[←z,aC (aE g Z),h3]at G;cases G),aC (aE g Z)];exact h3
        ·rw[aC nl,upd_same]
        ·have nb:b≠L:=λz=>N (z ▸ ay _ g);obtain⟨ys,O⟩:=S.mem g;rw[aC (λz=>by rw[←z,aC nb,O]at G;cases G),aC nb]
      ·have c44:c=44:=by omega
       subst c44;have j:some ((t++[C])::r,D.str ⟨#[]⟩)=some R:=j;cases j;rw[ac (by rw[s41];intro h;cases h)];refine⟨(t++[C])::r,.str ⟨#[]⟩,a::as,_,_,rfl,X,s1,by rw[er];exact g1,⟨⟨oU tl ht,vs++[v],ea,Reps.snoc rl1 hv1⟩,S⟩,nd,N,fr,by unfold HG;trivial,s00 ▸ rfl,by omega,λt' d=>?_,λx hx=>by cases hx;simp⟩;rcases cm.mp d with rfl|d
       ·simp only[aq,cb];omega
       ·have:=Y t' (ay _ d);omega
   ·rw[bg U,ac (by decide)];unfold prs1 at j;rw[ac U]at j;cases C with
    | str x =>
     cases (show v = .str x from rl);have lx:=l3 x rfl;refine⟨true,rfl,?_⟩;rw[ac (by decide)];by_cases c40:c=40
     ·subst c40;rw[aj s40.symm];have j:some ([D.str x]::stk,D.str ⟨#[]⟩)=some R:=j;cases j;refine⟨tyL u,by decide,λp hp=>⟨_,by rw[aC (aE u hp)];exact u,ak (m:=20005) (by rw[af,List.length_reverse];omega) (by decide),?_⟩⟩;have npo:L≠p:=aE u hp;have hH:H p=none:=W.free hp;have ts2:bE I (upd I p (.lst [.str x])):=bE.of (aF.upd hp);have g1:upd I p (.lst [.str x]) L=some (.lst (rs.reverse.map V.ref)):=by rw[aC npo];exact u
      have ts3:=ts2.trans (bE.lst (o:=.lst (rs.reverse.map V.ref++[.ref p])) g1);refine⟨[.str x]::stk,.str ⟨#[]⟩,p::rs,_,_,rfl,X,λb ob g=>?_,?_,⟨⟨⟨by unfold HG;trivial,trivial⟩,[.str x],?_,⟨_,_,rfl,rfl,rfl⟩⟩,HI.keep ts3 (λb g=>?_) J⟩,?_,?_,?_,by unfold HG;trivial,s00 ▸ rfl,by simp only[ap];omega,λt' d=>?_,λy O=>by cases O;simp⟩
      ·rw[aC (aE g Z),aC (aE g hH)];exact W _ _ g
      ·rw[upd_same,List.reverse_cons,ax];rfl
      ·rw[aC npo.symm];exact upd_same
      ·obtain⟨ys,O⟩:=J.mem g;rw[aC (show b≠L from λz=>N (z ▸ g)),aC (aE O hp)]
      ·refine cu.mpr ⟨λhm=>?_,nd⟩;obtain⟨ys,O⟩:=J.mem hm;rw[hp]at O;cases O
      ·intro hm;obtain h|h:=cm.mp hm
       ·exact npo h
       ·exact N h
      ·intro b g;obtain rfl|h:=cm.mp g
       ·exact hH
       ·exact fr b h
      ·rcases cm.mp d with rfl|d
       ·simp
       ·have:=Y t' d;omega
     ·rw[ac (λh=>c40 (by rw[s40]at h;injection h with h;injection h with h;injection h))];have j:some (stk,D.str ⟨x.cps.push c⟩)=some R:=(ac c40).symm.trans j;cases j;refine⟨.str x,rfl,_,rfl,x,⟨#[c]⟩,rfl,rfl,ao (m:=20005) (by show x.cps.size+1<=_;omega) (by decide),?_⟩;refine⟨stk,.str ⟨x.cps.push c⟩,rs,_,_,rfl,X,W,u,J,nd,N,fr,by unfold HG;trivial,?_,by omega,λt' d=>by have:=Y t' d;omega,λy O=>by cases O;simp;omega⟩;show V.str (x++⟨#[c]⟩)=V.str _;exact congrArg V.str (Str.ext' (by rw[Str.cps_append];rfl))
    | _=>cases j
  ·rintro σ I ⟨stk,C,rs,v,o,rfl,pi,W,u,J,nd,N,fr,tl,rl,l1,Y,l3⟩;rw[List.take_of_length_le (by rw[bj];exact ae _),pz]at pi;cases pi;cases rs with
   | cons a as=>exact absurd J id
   | nil =>
    refine⟨_,rfl,false,.inl ⟨_,eH.of u,rfl⟩,?_⟩;show if false=true then _ else _
    rw[ac (by decide)];exact⟨_,rfl,q v I W tl rl⟩
def rO (K:PySem.W.Frag)(C:Addr):Sp:=λvs H Q _=>∃(g:Addr) (fx:cG) (sm:bG) (os:aN) (d:D) (v:V),vs=[.ref g,v]/\eP K C fx sm H g/\aX H d v/\pM fx sm os d/\∀H',aF H H'->Q (.bl true) H'
theorem GJ {f C CT:Addr}{m:FuncData}(F:fJ K "is_term" "is_term" lI f m)(T:Txt mg)(c:mg "NoTerm" = some (.ref CT))(b:AS K CT)(a:dM P w K mg base bH 3 "check_term" (jP K C)):bN P w K mg base bH 4 f m vL (rO K C):=by
 refine F.ok BD (λvs H Q E h=>?_) (λu A outer s H vs Q E j h=>?_)
 ·obtain⟨g,l,sm,os,d,v,rfl,_⟩:=h;rfl
 ·obtain⟨g,l,sm,os,d,v,rfl,sg,rep,tr,q⟩:=h;have r:=j.units
  let EX:XK:=λ_ _ _=>False
  have i:∀cls d H',EX cls d H'->cls = .ref CT:=λcls d H' z=>False.elim z
  refine⟨_,(aD (PD EX ⟨rfl,rfl⟩ rfl c b i (λpn Ew B=>(aG (cB (aM a (j.mono (by decide)) pass0 rfl (aA (pv 0) (aA (pv 1) aB)))))) (λe=>(aG (aO jK))))
   (aG (aO jK))),?_⟩
  simp only[pN];clear j F T r a i;have keep:=aI q (aI rep (aI sg tr));clear q rep sg tr
  walk_at "rd"
  obtain⟨q,rep,sg,tr⟩:=keep;refine⟨?_,λ_ _ _ _ z=>False.elim z⟩;refine⟨g,l,sm,os,d,v,rfl,sg,tr.so,tr.ho,rep,tr.tm,by have:=tr.lv;omega,by have:=tr.dp;omega,tr.nd,λx o=>q x o⟩
def IH (K:PySem.W.Frag)(C:Addr):Sp:=λvs H Q _=>∃(g:Addr) (fx:cG) (sm:bG) (os:aN) (d:D),vs=[.ref g,.str (wrS d)]/\eP K C fx sm H g/\pM fx sm os d/\∀(a:V) (H':Hp),aF H H'->aX H' (asD false d) a->Q a H'
theorem IA {a:cG}{sm:bG}{os:aN}(so:bF a sm)(ho:∀x∈os,cI x){d:D}(h:aV a sm os d):(wrS d).cps.all (· < 128)=true:=by unfold wrS;rw[←Array.all_toList,List.toList_toArray];exact List.all_eq_true.mpr λc b=>bd (AW so ho h c b)
theorem OZ {a:cG}{sm:bG}{os:aN}{d:D}(b:Bool)(t:pM a sm os d):pM a sm os (asD b d):=by obtain⟨_,f,e,c⟩:=xN b t.tm;exact⟨t.so,t.ho,f,by rw[e];exact t.lv,by rw[BY b t.tm];exact t.nd,by rw[c];exact t.dp⟩
theorem MW {f C:Addr}{m:FuncData}(F:fJ K "read" "read" wC f m)(T:Txt mg)(a:dM P w K mg base bH 1 "unbracketed" spUnb)(b:dM P w K mg base bH 4 "is_term" (rO K C)):bN P w K mg base bH 5 f m LG (IH K C):=by
 refine F.ok DT (λvs H Q E h=>?_) (λr A outer s H vs Q E c h=>?_)
 ·obtain⟨g,l,sm,os,d,rfl,_⟩:=h;rfl
 ·obtain⟨g,l,sm,os,d,rfl,sg,tr,q⟩:=h;have o:=c.units
  refine⟨_,(aD (bK (cR (aP K rfl (aL aK rfl T.n_isinstance rfl (aA (pv 1) (aA (bJ (v:=V.ty "str") rfl T.n_str rfl rfl) aB))) (λ_=>rfl))) (aG eJ) aW)
   (aD (aZ (i:=2) DT.nd rfl (Or.inl rfl) (aM a (c.mono (by decide)) pass0 rfl (aA (pv 1) aB)))
   (aD (bK (cR (aP K rfl (aM b (c.mono (by decide)) pass0 rfl (aA (pv 0) (aA (pv 2) aB))) (λ_=>rfl))) (aG eJ) aW)
   (aG (aO (pv 2)))))),?_⟩
  simp only[C6];clear c F T o a b;have keep:=aI q (aI sg tr);clear q sg tr
  walk_at "rd"
  obtain⟨q,sg,tr⟩:=keep;obtain⟨z,x⟩:=xX tr.so tr.ho tr.tm;have nd:=tr.nd;refine⟨true,rfl,?_⟩;rw[ac (by decide)];refine⟨wrS d,asD false d,rfl,IA tr.so tr.ho tr.tm,by show(wrL d).toArray.size<=_;rw[ai];omega,?_,λe B j tp r1=>?_⟩
  ·show prs (wrL d).toArray.toList _=_;rw[List.toList_toArray];exact BF tr.so tr.ho [] tr.tm
  ·refine⟨g,l,sm,os,asD false d,e,rfl,sg.same j,r1,OZ false tr,λu s2=>?_⟩;refine⟨true,rfl,?_⟩;rw[ac (by decide)];exact q e u (j.trans s2) (aX.same s2 r1)
def jA (n:Nat):Sp:=λvs H Q _=>∃(a:cG) (sm:bG) (os:aN) (d:D) (v:V),vs=[v]/\aX H d v/\pM a sm os d/\depD d<=n/\∀H',aF H H'->Q (.str (wrS d)) H'
def SQ (ds:List D)(H:Hp)(i:Nat)(a:List V)(σ:St)(c:Hp):Prop:=∃b:Option V,σ=[b]/\aF H c/\a=(ds.take i).map λd=>V.str (wrS d)
theorem BQ {f:Addr}{fd:FuncData}(n:Nat)(F:fJ K "_law_written" "_law_written" dA f fd)(T:Txt mg)(c:dM P w K mg base bH (n+1) "_law_written" (λvs H Q E=>∃m,m<n/\jA m vs H Q E)):bN P w K mg base bH (n+2) f fd eQ (jA n):=by
 refine F.ok qM (λvs H Q E h=>?_) (λcdv A outer s H vs Q E X h=>?_)
 ·obtain⟨fx,sm,os,d,v,rfl,_⟩:=h;rfl
 ·obtain⟨fx,sm,os,d,v,rfl,rep,tr,dn,q⟩:=h;have hu:=X.units
  refine⟨_,(aD (bK (aP K rfl (aL aK rfl T.n_isinstance rfl (aA (pv 0) (aA (bJ (v:=V.ty "str") rfl T.n_str rfl rfl) aB))) (λ_=>rfl)) (aG (aO (pv 0))) aW)
   (aG (aO (bV cV (bV cV (bV cV (bM cX (pv 0) aJ (λ_ _=>rfl)) cS) (gM PySem.F.plainAttrs_str PySem.F.slot_str_join PySem.F.type_str_join D6 cS (aA (eF rfl (bD.by (N:=iH) (names:=(aH dA).names) (N':=["_law_part"]) (src:=[none]) (by decide +kernel) rfl rfl) (cE K rfl (eK kM (pv 0) (cP aJ) dG)) (λ_ _ _ _=>(bA (i:=0) (show List.Nodup (["_law_part"]:aN)by decide +kernel) rfl (Or.inl rfl))) (λ_ _ _ _=>dF) (λ_ _ _ _=>(aM c (X.mono (by omega)) pass0 rfl (aA (pv 0) aB)))) aB))) cS)))),?_⟩
  simp only[iH];clear X F T hu c;have keep:=aI q (aI rep (aI tr dn));clear q rep tr dn
  walk_at "rd"
  obtain⟨q,rep,tr,dn⟩:=keep;rcases rJ tr.tm with⟨x,rfl,hx⟩|⟨nm,ds,hd,hdo,S⟩
  ·cases (show v = .str x from rep);refine⟨true,rfl,?_⟩;rw[aj rfl];exact q _ (aF.refl _)
  ·obtain⟨j,g,rfl,hbb,hseq,res⟩:∃j g,v = .ref j/\isV H (.ref j) (.ty "str")=some false/\eV H j (.str nm::g)/\Reps H ds g:=by
    rcases hd with rfl|rfl
    ·obtain⟨a,vs,rfl,L,_,g,rfl,e1,r⟩:=rep;cases e1;exact⟨a,g,rfl,fX L,.inr L,r⟩
    ·obtain⟨a,vs,rfl,L,_,g,rfl,e1,r⟩:=rep;cases e1;exact⟨a,g,rfl,iE L,.inl L,r⟩
   have W:ixV H (.ref j) (.int 0)=some (.str nm):=by
    rcases hseq with e|e
    ·rw[ixV_l e,atI_zero]
    ·rw[ixV_t e,atI_zero]
   refine⟨false,hbb,?_⟩;rw[ac (by decide)];obtain⟨z1,_⟩:=xX tr.so tr.ho tr.tm;have nd:=tr.nd;have ew:wrL d=nm.cps.toList++40::wrJ ds:=by rcases hd with rfl|rfl <;> rw[wrL]
   have ne:ds≠[]:=λz=>by have:=sO hdo;rw[z]at this;exact absurd this (by simp)
   have jp:=GV ne;have lw:(wrL d).length=nm.cps.toList.length+1+((Txt.join ⟨#[44]⟩ (ds.map wrS)).cps.toList.length+1):=by rw[ew,←jp];simp;omega
   have Z:∀y∈ds.map wrS,y.length<=12000:=λy hy=>by obtain⟨e,R,rfl⟩:=cr.mp hy;have t:=(kF tr hd R).1;have C:=(xX t.so t.ho t.tm).1;have h2:=t.nd;show(wrL e).toArray.size<=_;rw[ai];omega
   have lds:ds.length<=60:=by
    have C:=gA S;have h2:lvs d=lvss ds:=by rcases hd with rfl|rfl <;> rw[lvs]
    have h3:=tr.lv;omega
   have ab:∀{a b:Str} {x y:Nat},a.cps.toList.length=x->b.cps.toList.length=y->x+y<=100000->a.length+b.length<=sizeLine:=λC h2 h3=>ao (m:=100000) (by rw[bj]at C h2;unfold PySem.Str.length;omega) (by decide);refine⟨.str nm,W,.inl ⟨.str (nm++PySem.Str.ofString "("),aj (ab rfl rfl (by show _+1<=_;omega)),rfl,j,rfl,_,hseq,λ_ h=>?_,λu G Y I=>?_⟩⟩
   ·have:=h.1;simp[HT.sIx]at this
   ·rw[j6]at I;have U:aF H (upd H u G):=aF.upd Y;have g1:upd H u G u=some G:=upd_same;have C:eV (upd H u G) u g:=by rcases I with⟨rfl,_⟩|⟨rfl,_⟩;exact .inl upd_same;exact .inr upd_same
    generalize upd H u G=H0 at U g1 C⊢;refine⟨g,C,λJ hJ=>?_⟩;refine cN hJ (SQ ds H0) ⟨none,rfl,aF.refl _,rfl⟩ ?_ ?_ ?_
    ·rintro i O σ H' _ ⟨_,_,o,_⟩;rw[g1,o _ _ g1]
    ·rintro i x O σ H1 hx ⟨o0,rfl,o,rfl⟩;obtain⟨e,R,re⟩:=Reps.get res hx;obtain⟨t,hdp⟩:=kF tr hd (bf R);refine⟨_,rfl,⟨depD e,by omega,fx,sm,os,e,x,rfl,aX.same (U.trans o) re,t,ae _,λH2 s2=>⟨ak (m:=100) (by rw[af,bo];omega) (by decide),_,rfl,o.trans s2,?_⟩⟩⟩;rw[aY R,ax];rfl
    ·rintro O σ H1 ⟨o0,rfl,o,rfl⟩ l hl;have e0:=Reps.len res;rw[e0,bp];refine⟨PySem.Str.ofString ",",l,ds.map wrS,rfl,rfl,by rw[upd_same,cf];rfl,?_,?_⟩
     ·refine zI (B:=12000) Z ?_;rw[s44,af];show ds.length * 12000+ds.length * 1<=_;omega
     ·rw[s44,s40,s41];refine .inl ⟨.str (nm++⟨#[40]⟩++Txt.join ⟨#[44]⟩ (ds.map wrS)),aj (ab (x:=nm.cps.toList.length+1) (by rw[Str.cps_append];simp) rfl (by omega)),?_⟩;refine .inl ⟨.str (nm++⟨#[40]⟩++Txt.join ⟨#[44]⟩ (ds.map wrS)++⟨#[41]⟩),aj (ab (x:=nm.cps.toList.length+1+(Txt.join ⟨#[44]⟩ (ds.map wrS)).cps.toList.length) (y:=1) (by rw[Str.cps_append,Str.cps_append];simp only[Array.toList_append,aq];rfl) rfl (by omega)),?_⟩;have ee:(nm++⟨#[40]⟩++Txt.join ⟨#[44]⟩ (ds.map wrS)++⟨#[41]⟩:Str)=wrS d:=by apply Str.ext';apply Array.toList_inj.mp;show _=(wrL d).toArray.toList;rw[Str.cps_append,Str.cps_append,Str.cps_append,List.toList_toArray,ew,←jp];simp
      rw[ee];exact q _ ((U.trans o).trans (aF.upd hl))
theorem CJ {f:Addr}{a:FuncData}(F:fJ K "_law_written" "_law_written" dA f a)(T:Txt mg)(i:mg "_law_written" = some (.ref f))(j:PySem.W.keepIn K (.ref f)=true)(b:dZ K a eQ []):∀n,bN P w K mg base bH (n+2) f a eQ (jA n):=by
 intro n
 induction n using Nat.strongRecOn with
 | ind n d =>
  exact BQ n F T ⟨f,a,_,⟨λvs H Q E ⟨m,c,h⟩=>(d m c).len vs H Q E h,λA outer s H args us vs Q E g l b e ⟨m,c,h⟩=>((d m c).mono (by omega)).run A outer s H args us vs Q E g l b e h⟩,i,j,b⟩
theorem yR {f:Addr}{a:FuncData}(F:fJ K "_law_written" "_law_written" dA f a)(T:Txt mg)(b:mg "_law_written" = some (.ref f))(c:PySem.W.keepIn K (.ref f)=true)(d:dZ K a eQ [])(n:Nat):dM P w K mg base bH (n+2) "_law_written" (jA n):=⟨f,a,_,CJ F T b c d n,b,c,d⟩
noncomputable def dK31 (sm:bG):HO:=.dK (sm.map λr=>(.inr r.1,V.str r.2))
def nG (n:Nat):Sp:=λvs H Q _=>∃(b:Addr) (fx:cG) (sm:bG) (os:aN) (d:D) (v:V),vs=[.ref b,v]/\H b=some (dK31 sm)/\aX H d v/\pM fx sm os d/\depD d<=n/\∀(a:V) (H':Hp),aF H H'->aX H' (prD sm d) a->Q a H'
def S5 (d:Addr)(sm:bG)(ds:List D)(H:Hp)(i:Nat)(a:List V)(σ:St)(b:Hp):Prop:=∃c:Option V,σ=[c,some (.ref d)]/\aF H b/\Reps b (prDs sm (ds.take i)) a
def S4 (c b l:Addr)(n:Str)(ds:List D)(H:Hp)(i:Nat)(σ:St)(a:Hp):Prop:=∃(w:V) (o4:Option V),σ=[some (.ref c),some (.ref b),some (.ref l),some w,o4]/\aF H a/\aX a (chn n (ds.drop (ds.length - 1 - i))) w
theorem FY (sm:bG)(ds:List D)(d:D):prDs sm (ds++[d])=prDs sm ds++[prD sm d]:=by rw[bZ,bZ,ax];rfl
theorem DF {g:cG}{sm:bG}{os:aN}{d:D}{v:V}{H:Hp}(t:pM g sm os d)(rep:aX H d v):(∃x,d = .str x/\v = .str x)∨∃nm ds c b,(d = .tup (.str nm::ds)∨d = .lst (.str nm::ds))/\pQ g sm nm ds.length/\IsTms g sm os ds/\v = .ref c/\isV H (.ref c) (.ty "str")=some false/\eV H c (.str nm::b)/\Reps H ds b:=by
 refine rK (P:=λd=>aX H d v->(∃x,d = .str x/\v = .str x)∨∃nm ds c b,(d = .tup (.str nm::ds)∨d = .lst (.str nm::ds))/\pQ g sm nm ds.length/\IsTms g sm os ds/\v = .ref c/\isV H (.ref c) (.ty "str")=some false/\eV H c (.str nm::b)/\Reps H ds b) (λx _ r=>.inl ⟨x,rfl,r⟩) (λn ds d hd i e _ r=>.inr ?_) t.tm rep;rcases hd with rfl|rfl
 ·obtain⟨a,vs,rfl,f,_,b,rfl,h,r⟩:=r;cases h;exact⟨n,ds,a,b,.inl rfl,i,e,rfl,fX f,.inr f,r⟩
 ·obtain⟨a,vs,rfl,f,_,b,rfl,h,r⟩:=r;cases h;exact⟨n,ds,a,b,.inr rfl,i,e,rfl,iE f,.inl f,r⟩
theorem JT {f:Addr}{fd:FuncData}(n:Nat)(F:fJ K "_law_paired" "_law_paired" dJ f fd)(T:Txt mg)(b:dM P w K mg base bH (n+1) "_law_paired" (λvs H Q E=>∃m,m<n/\nG m vs H Q E)):bN P w K mg base bH (n+2) f fd eY (nG n):=by
 refine F.ok eI (λvs H Q E h=>?_) (λcdv A outer s H vs Q E hr h=>?_)
 ·obtain⟨W,fx,sm,os,d,v,rfl,_⟩:=h;rfl
 ·obtain⟨W,fx,sm,os,d,v,rfl,hdn,rep,tm,dp,q⟩:=h;have U:=hr.units
  refine⟨_,(aD (bK (aP K rfl (aL aK rfl T.n_isinstance rfl (aA (pv 1) (aA (bJ (v:=V.ty "str") rfl T.n_str rfl rfl) aB))) (λ_=>rfl)) (aG (aO (pv 1))) aW)
   (aD (iS (i:=2) eI.nd rfl rfl rfl rfl (bD.by (N:=i5) (names:=(aH dJ).names) (N':=["_law_part","_law_noughts"]) (src:=[none,some 0]) (by decide +kernel) rfl rfl) (cE K rfl (eK kM (pv 1) (cP aJ) dG)) (λ_ _ _ _=>(bA (i:=0) (show List.Nodup (["_law_part","_law_noughts"]:aN)by decide +kernel) rfl (Or.inl rfl))) (λ_ _ _ _=>dF) (λ_ _ _ _=>(aM b (hr.mono (by omega)) pass0 rfl (aA (pv 1) (aA (pv 0) aB)))))
   (aD (bK (bC (BP U) (bM cX (pv 1) aJ (λ_ _=>rfl)) (pv 0) (by with_unfolding_all rfl)) (aG (aO (bV cV (eB (aA (bM cX (pv 1) aJ (λ_ _=>rfl)) aB)) (cH eN rfl T.n_tuple rfl (aA (pv 2) aB))))) aW)
   (aD (aZ (i:=3) eI.nd rfl (Or.inl rfl) (bM cX (pv 2) (kU h9 aJ) (λ_ _=>rfl)))
   (aD (fE de rfl (cE K rfl (jJ DP (pv 2) (cP (kU h9 aJ)) dG (cP (kU h9 aJ)))) (bA (i:=4) eI.nd rfl (Or.inl rfl)) (aG (aZ (i:=3) eI.nd rfl (Or.inl rfl) (eB (aA (bM cX (pv 1) aJ (λ_ _=>rfl)) (aA (pv 4) (aA (pv 3) aB)))))))
   (aG (aO (pv 3)))))))),?_⟩
  clear hr F T U b;simp only[kH,nC];rcases DF tm rep with⟨x,rfl,rfl⟩|⟨nm,ds,va,vs',hd,hh,tms,rfl,hbb,I,res⟩
  ·exact⟨_,rfl,.str x,.ty "str",true,rfl,rfl,_,rfl,_,rfl,q _ _ (aF.refl _) (by rw[qV];rfl)⟩
  have L:∀H',aF H H'->ixV H' (.ref va) (.int 0)=some (.str nm):=λH' s'=>by
   rcases I.same s' with e|e
   ·rw[ixV_l e,atI_zero]
   ·rw[ixV_t e,atI_zero]
  refine⟨_,rfl,.ref va,.ty "str",false,rfl,hbb,_,rfl,?_⟩;have ep:=(qW sm hd).1;have hl:=Reps.len res;have hn50:ds.length<=50:=by have h1:=gA tms;have h2:=tm.lv;rw[(lJ (sm:=sm) hd).1]at h2;omega
  have dne:ds≠[]:=λz=>by have:=k9 hh;rw[z]at this;simp at this
  refine⟨_,rfl,1,rfl,va,_,rfl,I,λ_ h=>by have:=h.1;simp[HT.sIx]at this,λp o hp ho=>?_⟩;rw[j6]at ho;have s0:aF H (upd H p o):=aF.upd hp;have h0:upd H p o p=some o:=upd_same;refine⟨p,vs',rfl,by rcases ho with⟨rfl,_⟩|⟨rfl,_⟩;exact .inl upd_same;exact .inr upd_same,λJ hJ=>?_⟩;generalize upd H p o=H0 at s0 h0 hJ⊢;refine cN hJ (S5 W sm ds H0) ⟨none,rfl,aF.refl _,rfl⟩ (λi a σ H' _ ⟨_,_,s,_⟩=>by rw[s _ _ h0,h0]) ?_ ?_
  ·rintro i x a σ H1 Z ⟨o0,rfl,s1,c⟩;obtain⟨e,he,re⟩:=Reps.get res Z;have te:=kF tm hd (bf he);have s2:=s0.trans s1;have h3:=Reps.len c;rw[bZ,af,bo]at h3;refine⟨_,rfl,_,rfl,depD e,by have:=te.2;omega,W,fx,sm,os,e,x,rfl,s2 _ _ hdn,aX.same s2 re,te.1,ae _,λv' B s' r'=>⟨ak (m:=64) (by omega) (by decide),_,rfl,s1.trans s',?_⟩⟩;rw[aY he,FY];exact Reps.snoc r' (Reps.same s' c)
  ·rintro a σ H1 ⟨o0,rfl,s1,c⟩ l hl1;rw[hl,bp]at c;have la:=Reps.len c;rw[bZ,af]at la;have s2:=(s0.trans s1).trans (aF.upd (o:=.lst a) hl1);have S:upd H1 l (.lst a) l=some (.lst a):=upd_same;have R:=Reps.same (aF.upd (o:=.lst a) hl1) c;generalize upd H1 l (.lst a)=B at s2 S R⊢;have g2:oQ B W (.str nm) ((zr sm nm).map V.str):=by have:=oQ.k (k:=.inr nm) (s2 _ _ hdn);rw[AZ]at this;exact this
   have Y:prDs sm ds≠[]:=λz=>dne (by rw[bZ]at z;exact List.map_eq_nil_iff.mp z);refine⟨_,rfl,.str nm,L _ s2,_,rfl,W,_,rfl,g2,_,rfl,?_⟩;unfold pr at ep;cases hz:zr sm nm with
   | none =>
    rw[hz]at ep;refine⟨_,rfl,.str nm,L _ s2,show 1<=sizeLine by decide,λr j=>⟨_,rfl,l,a,rfl,.inl (aF.upd j _ _ S),λl3 H3 O=>?_⟩⟩;rcases O with⟨O,_⟩|⟨_,O,rfl⟩
    ·rw[aC (aE S j),S]at O;cases O
    ·have G:aF B (upd (upd B r (.tup [.str nm])) l3 (.tup a)):=(aF.upd j).trans (aF.upd O);refine .inr ⟨.tup (.str nm::a),?_,λp4 hp4=>?_⟩
     ·have e1:upd (upd B r (.tup [.str nm])) l3 (.tup a) r=some (.tup [.str nm]):=by rw[aC (aE upd_same O)];exact upd_same
      have e2:upd (upd B r (.tup [.str nm])) l3 (.tup a) l3=some (.tup a):=upd_same;unfold catO;simp only[e1,e2];refine aj ⟨ao (m:=100) (by simp;omega) (by decide),by simp,λz=>dne (List.length_eq_zero_iff.mp (by rw[←la,z];rfl))⟩
     ·refine q _ _ (s2.trans (G.trans (aF.upd hp4))) ?_;rw[ep];exact⟨p4,_,rfl,upd_same,.str nm,a,rfl,rfl,Reps.same (G.trans (aF.upd hp4)) R⟩
   | some z =>
    rw[hz]at ep;obtain⟨g,hws⟩:∃g,g=prDs sm ds:=⟨_,rfl⟩
    rw[←hws]at ep R Y;have lw:=Reps.len R;have l1:1<=g.length:=List.length_pos_iff.mpr Y;obtain⟨w0,hw0⟩:∃w0,a[g.length - 1]?=some w0:=⟨_,aw (by omega)⟩
    obtain⟨d0,hd0,r0⟩:=Reps.get R hw0;have e0:g.drop (g.length - 1)=[d0]:=by obtain⟨g1,rfl⟩:=cj.mp hd0;rw[List.drop_eq_getElem_cons g1,List.drop_eq_nil_of_le (by omega)]
    refine⟨_,rfl,1,rfl,w0,?_,_,rfl,2,rfl,-2,rfl,1,rfl,-1,rfl,rfl,rfl,rfl,l,a,rfl,S,λz=>by rw[z]at lw;simp at lw;omega,λr j=>⟨r,_,rfl,.inl upd_same,λJ hJ=>?_⟩⟩
    ·rw[ixV_l S];show atI a (-1)=_;unfold atI ixN;rw[ac (by decide),aj (by omega)];have:(-1+(a.length:Int)).toNat=g.length - 1:=by omega
     rw[this];exact hw0
    ·have X:aF B (upd B r (.lst a.dropLast.reverse)):=aF.upd j;have p3:upd B r (.lst a.dropLast.reverse) r=some (.lst a.dropLast.reverse):=upd_same;generalize upd B r (.lst a.dropLast.reverse)=H3 at X p3 hJ⊢;refine gG hJ (S4 W va l nm g H3) ⟨w0,none,rfl,aF.refl _,by rw[Nat.sub_zero,e0];exact aX.same X r0⟩ (λi σ H' _ ⟨_,_,_,s,_⟩=>by rw[s _ _ p3,p3]) ?_ ?_
     ·rintro i x σ H4 Z ⟨w,o4,rfl,G,C⟩;have hi:=(cj.mp Z).1;rw[List.length_reverse,List.length_dropLast]at hi;have hx':a[g.length - 2 - i]?=some x:=by rw[List.getElem?_reverse (by rw[List.length_dropLast];exact hi),List.length_dropLast,List.getElem?_dropLast,aj (by omega)]at Z;rw[show g.length - 2 - i=a.length - 1 - 1 - i by omega];exact Z
      obtain⟨e,he,re⟩:=Reps.get R hx';refine⟨_,rfl,.str nm,L _ (s2.trans (X.trans G)),_,rfl,_,rfl,show 3<=sizeLine by decide,λu U=>⟨.ref u,some x,rfl,G.trans (aF.upd U),?_⟩⟩;rw[show g.length - 1 - (i+1)=g.length - 2 - i by omega,zW he (by omega),show g.length - 2 - i+1=g.length - 1 - i by omega];exact⟨u,_,rfl,upd_same,_,_,rfl,rfl,_,_,rfl,aX.same ((X.trans G).trans (aF.upd U)) re,_,_,rfl,aX.same (aF.upd U) C,rfl⟩
     ·rintro σ H4 ⟨w,o4,rfl,G,C⟩;rw[List.length_reverse,List.length_dropLast,lw,Nat.sub_self,List.drop_zero]at C;exact⟨_,rfl,q w H4 (s2.trans (X.trans G)) (by rw[ep];exact C)⟩
theorem KR {f:Addr}{a:FuncData}(F:fJ K "_law_paired" "_law_paired" dJ f a)(T:Txt mg)(i:mg "_law_paired" = some (.ref f))(j:PySem.W.keepIn K (.ref f)=true)(b:dZ K a eY []):∀n,bN P w K mg base bH (n+2) f a eY (nG n):=by
 intro n
 induction n using Nat.strongRecOn with
 | ind n d =>
  exact JT n F T ⟨f,a,_,⟨λvs H Q E ⟨m,c,h⟩=>(d m c).len vs H Q E h,λA outer s H args us vs Q E g l b e ⟨m,c,h⟩=>((d m c).mono (by omega)).run A outer s H args us vs Q E g l b e h⟩,i,j,b⟩
theorem F5 {f:Addr}{a:FuncData}(F:fJ K "_law_paired" "_law_paired" dJ f a)(T:Txt mg)(b:mg "_law_paired" = some (.ref f))(c:PySem.W.keepIn K (.ref f)=true)(d:dZ K a eY [])(n:Nat):dM P w K mg base bH (n+2) "_law_paired" (nG n):=⟨f,a,_,KR F T b c d n,b,c,d⟩
def kK (n:Nat):Sp:=λvs H Q _=>∃(b:cG) (sm:bG) (os:aN) (d:D) (v:V),vs=[v]/\aX H d v/\(pM b sm os d∨∃x,d = .str x)/\depD d<=n/\∀(a:V) (H':Hp),aF H H'->aX H' (asD true d) a->Q a H'
def S3 (es:List D)(H:Hp)(i:Nat)(a:List V)(σ:St)(b:Hp):Prop:=∃c:Option V,σ=[c]/\aF H b/\Reps b ((es.take i).map (asD true)) a
theorem xO (b:Bool)(x:Str):asD b (.str x) = .str x:=by unfold asD;rfl
theorem NW {n:Str}{ds:List D}{d:D}(h:d = .tup (.str n::ds)∨d = .lst (.str n::ds)):asD true d = .lst (.str n::asDs true ds):=by rcases h with rfl|rfl <;> (rw[asD,aj rfl])
theorem GH {f:Addr}{X:FuncData}(n:Nat)(F:fJ K "_law_listed" "_law_listed" dL f X)(T:Txt mg)(a:dM P w K mg base bH (n+1) "_law_listed" (λvs H Q E=>∃m,m<n/\kK m vs H Q E)):bN P w K mg base bH (n+2) f X eZ (kK n):=by
 refine F.ok rQ (λvs H Q E h=>?_) (λcdv A outer s H vs Q E C h=>?_)
 ·obtain⟨u,sm,os,d,v,rfl,_⟩:=h;rfl
 ·obtain⟨u,sm,os,d,v,rfl,rep,tm,dp,q⟩:=h;have hu:=C.units
  refine⟨_,(aD (bK (aP K rfl (aL aK rfl T.n_isinstance rfl (aA (pv 0) (aA (bJ (v:=V.ty "str") rfl T.n_str rfl rfl) aB))) (λ_=>rfl)) (aG (aO (pv 0))) aW)
   (aG (aO (eF rfl (bD.by (N:=mH) (names:=(aH dL).names) (N':=["_law_part"]) (src:=[none]) (by decide +kernel) rfl rfl) (cE K rfl (pv 0)) (λ_ _ _ _=>(bA (i:=0) (show List.Nodup (["_law_part"]:aN)by decide +kernel) rfl (Or.inl rfl))) (λ_ _ _ _=>dF) (λ_ _ _ _=>(aM a (C.mono (by omega)) pass0 rfl (aA (pv 0) aB))))))),?_⟩
  clear C F T hu a;simp only[kH];have two:(∃x,d = .str x/\v = .str x)∨∃nm ds g c,pM u sm os d/\(d = .tup (.str nm::ds)∨d = .lst (.str nm::ds))/\IsTms u sm os ds/\v = .ref g/\isV H (.ref g) (.ty "str")=some false/\eV H g (.str nm::c)/\Reps H ds c:=by
   rcases tm with tm|⟨x,rfl⟩
   ·rcases DF tm rep with h|⟨nm,ds,g,c,W,U,L,h4,h5,h6,h7⟩
    ·exact .inl h
    ·exact .inr ⟨nm,ds,g,c,tm,W,L,h4,h5,h6,h7⟩
   ·exact .inl ⟨x,rfl,rep⟩
  rcases two with⟨x,rfl,rfl⟩|⟨nm,ds,g,c,tm,hd,B,rfl,I,j,res⟩
  ·exact⟨_,rfl,.str x,.ty "str",true,rfl,rfl,_,rfl,_,rfl,q _ _ (aF.refl _) (by rw[xO];rfl)⟩
  have R:ds.length<=50:=by have W:=gA B;have U:=tm.lv;rw[(lJ (sm:=sm) hd).1]at U;omega
  have G:=(lJ (sm:=sm) hd).2.2.1;have hl:=Reps.len res;have res':Reps H (.str nm::ds) (.str nm::c):=⟨_,_,rfl,rfl,res⟩
  refine⟨_,rfl,.ref g,.ty "str",false,rfl,I,_,rfl,_,rfl,g,_,rfl,j,λJ hJ=>?_⟩;refine cN hJ (S3 (.str nm::ds) H) ⟨none,rfl,aF.refl _,rfl⟩ (λi o σ H' _ ⟨_,_,s,_⟩=>by rcases j with e|e <;> rw[s _ _ e,e]) ?_ ?_
  ·rintro i x o σ H1 hx ⟨o0,rfl,z,b⟩;obtain⟨e,S,Y⟩:=Reps.get res' hx;have L:=Reps.len b;rw[af,bo,ap]at L;have O:(pM u sm os e∨∃x,e = .str x)/\depD e<depD d:=by
    obtain rfl|h:=cm.mp (bf S)
    ·exact⟨.inr ⟨nm,rfl⟩,by rw[G];show 0<_;omega⟩
    ·have:=kF tm hd h;exact⟨.inl this.1,this.2⟩
   refine⟨_,rfl,depD e,by have:=O.2;omega,u,sm,os,e,x,rfl,aX.same z Y,O.1,ae _,λv' H2 s' Z=>⟨ak (m:=64) (by omega) (by decide),_,rfl,z.trans s',?_⟩⟩;rw[aY S,ax];exact Reps.snoc Z (Reps.same s' b)
  ·rintro o σ H1 ⟨o0,rfl,z,b⟩ l r;refine q _ _ (z.trans (aF.upd r)) ?_;rw[ap,hl,show ds.length+1=(D.str nm::ds).length from rfl,bp,aS,xO,←lC]at b;rw[NW hd];exact⟨l,o,rfl,upd_same,Reps.same (aF.upd r) b⟩
theorem G2 {f:Addr}{a:FuncData}(F:fJ K "_law_listed" "_law_listed" dL f a)(T:Txt mg)(i:mg "_law_listed" = some (.ref f))(j:PySem.W.keepIn K (.ref f)=true)(b:dZ K a eZ []):∀n,bN P w K mg base bH (n+2) f a eZ (kK n):=by
 intro n
 induction n using Nat.strongRecOn with
 | ind n d =>
  exact GH n F T ⟨f,a,_,⟨λvs H Q E ⟨m,c,h⟩=>(d m c).len vs H Q E h,λA outer s H args us vs Q E g l b e ⟨m,c,h⟩=>((d m c).mono (by omega)).run A outer s H args us vs Q E g l b e h⟩,i,j,b⟩
theorem BM {f:Addr}{a:FuncData}(F:fJ K "_law_listed" "_law_listed" dL f a)(T:Txt mg)(b:mg "_law_listed" = some (.ref f))(c:PySem.W.keepIn K (.ref f)=true)(d:dZ K a eZ [])(n:Nat):dM P w K mg base bH (n+2) "_law_listed" (kK n):=⟨f,a,_,G2 F T b c d n,b,c,d⟩
structure Tb (Pt Pp:Addr)(H:Hp):Prop where
 lt:LT Pt H
 lp:AR Pp H
 ne:Pt≠Pp
def B2 (Pt Pp:Addr)(H H':Hp):Prop:=∀c o,c≠Pt->c≠Pp->H c=some o->H' c=some o
theorem B2.trans {Pt Pp:Addr}{H h g:Hp}(a:B2 Pt Pp H h)(b:B2 Pt Pp h g):B2 Pt Pp H g:=λc o f d e=>b c o f d (a c o f d e)
theorem B2.of {Pt Pp:Addr}{H H':Hp}(s:aF H H'):B2 Pt Pp H H':=λc o _ _ e=>s c o e
theorem B2.t {Pt Pp:Addr}{H H':Hp}(s:eE Pt H H'):B2 Pt Pp H H':=λc o h _ e=>s c o h e
theorem B2.p {Pt Pp:Addr}{H H':Hp}(s:eE Pp H H'):B2 Pt Pp H H':=λc o _ h e=>s c o h e
theorem Tb.same {Pt Pp:Addr}{H H':Hp}(h:Tb Pt Pp H)(s:aF H H'):Tb Pt Pp H':=⟨h.lt.same s,h.lp.same s,h.ne⟩
theorem Tb.t {Pt Pp:Addr}{H H':Hp}(h:Tb Pt Pp H)(b:eE Pt H H')(l:LT Pt H'):Tb Pt Pp H':=by
 refine⟨l,?_,h.ne⟩;rcases h.lp with e|⟨j,c,a,f,i,d,g⟩
 ·exact .inl (b _ _ h.ne.symm e)
 ·exact .inr ⟨j,c,a,f,b _ _ h.ne.symm i,b _ _ (h.lt.ne d λ_=>by simp) d,g⟩
theorem Tb.p {Pt Pp:Addr}{H H':Hp}(h:Tb Pt Pp H)(b:eE Pp H H')(l:AR Pp H'):Tb Pt Pp H':=by
 refine⟨?_,l,h.ne⟩;rcases h.lt with e|⟨j,c,a,f,i,d,g⟩
 ·exact .inl (b _ _ h.ne e)
 ·exact .inr ⟨j,c,a,f,b _ _ h.ne i,b _ _ (h.lp.ne d λ_=>by simp) d,g⟩
theorem Tb.get {Pt Pp:Addr}{H H':Hp}(h:Tb Pt Pp H)(b:B2 Pt Pp H H'){a:Addr}{o:HO}(e:H a=some o)(n:∀ps,o≠.tbl ps):H' a=some o:=b _ _ (h.lt.ne e n) (h.lp.ne e n) e
mutual
theorem Tb.rep {Pt Pp:Addr}{H H':Hp}(h:Tb Pt Pp H)(b:B2 Pt Pp H H'):∀{d:D} {v:V},aX H d v->aX H' d v
 | .non,v,k | .bl _,v,k | .int _,v,k | .str _,v,k=>k
 | .tup ds,v,⟨a,vs,f,e,c⟩=>⟨a,vs,f,h.get b e λ_=>by simp,Tb.reps h b c⟩
 | .lst ds,v,⟨a,vs,f,e,c⟩=>⟨a,vs,f,h.get b e λ_=>by simp,Tb.reps h b c⟩
theorem Tb.reps {Pt Pp:Addr}{H H':Hp}(h:Tb Pt Pp H)(b:B2 Pt Pp H H'):∀{ds:List D} {vs:List V},Reps H ds vs->Reps H' ds vs
 | [],vs,k=>k
 | d::ds,vs,⟨v,r,e,c,a⟩=>⟨v,r,e,Tb.rep h b c,Tb.reps h b a⟩
end
theorem Tb.sg {Pt Pp C g:Addr}{a:cG}{sm:bG}{H H':Hp}(h:Tb Pt Pp H)(b:B2 Pt Pp H H')(s:eP K C a sm H g):eP K C a sm H' g:=by obtain⟨v,u,r,m,fs,q,o,l,j,i,f,e,d,c⟩:=s;exact⟨v,u,r,m,fs,q,o,h.get b l λ_=>by simp,j,i,f,e,h.get b d λ_=>by simp,h.get b c λ_=>by simp⟩
mutual
theorem OJ:∀{d:D},Fl d->asD false d=d
 | .str x,_=>xO _ _
 | .tup (.str n::ds),h=>by unfold Fl at h;rw[asD,ac (by decide),LD h]
 | .non,h | .bl _,h | .int _,h | .tup [],h | .lst _,h | .tup (.non::_),h | .tup (.bl _::_),h | .tup (.int _::_),h | .tup (.tup _::_),h | .tup (.lst _::_),h=>by unfold Fl at h;exact absurd h id
theorem LD:∀{ds:List D},Fls ds->asDs false ds=ds
 | [],_=>rfl
 | d::ds,⟨a,b⟩=>by rw[asDs,OJ a,LD b]
end
theorem RG (l:aN):dd (l.filter isQ)=dz l:=by
 have:∀(l a:aN),(l.filter isQ).foldl ddS a=l.foldl dzs a:=λl=>by
  induction l with
  | nil=>intro a;rfl
  | cons x l b =>
   intro a;by_cases h:isQ x=true
   ·rw[List.filter_cons_of_pos h,List.foldl_cons,List.foldl_cons,b];unfold dzs ddS;rw[aj h]
   ·rw[List.filter_cons_of_neg h,List.foldl_cons,b];unfold dzs;rw[ac h]
 exact this l []
theorem HY {a:cG}{sm:bG}{os:aN}{d:D}(t:pM a sm os d)(l:lvs d<=40)(p:depD d<=11)(n:nds d<=900):pM a sm os (prD sm d):=by have b:=BG t.so t.ho t.tm;have e:=b.nd;have c:=b.dp;exact⟨t.so,t.ho,b.tm,by rw[b.lv];omega,by omega,by omega⟩
def DN (K:PySem.W.Frag)(C Pt Pp:Addr):Sp:=λvs H Q _=>∃(g:Addr) (fx:cG) (sm:bG) (os:aN) (d:D) (v u:V),vs=[.ref g,v,u]/\eP K C fx sm H g/\aX H d v/\aX H (prD sm d) u/\pM fx sm os d/\lvs d<=40/\depD d<=11/\nds d<=900/\Tb Pt Pp H /\
 ∀H',B2 Pt Pp H H'->Tb Pt Pp H'->Q (.bl true) H'
def TX (l:aN)(H:Hp)(i:Nat)(a:List V)(σ:St)(c:Hp):Prop:=∃b:Option V,σ=[b]/\c=H/\a=((l.take i).filter isQ).map V.str
theorem JY {f C Pt Pp:Addr}{fd:FuncData}(F:fJ K "_law_told_again" "_law_told_again" dE f fd)(T:Txt mg)(o:dM P w K mg base bH 9 "paired" (nF K C Pp))(j:dM P w K mg base bH 4 "is_term" (rO K C))(B:dM P w K mg base bH 10 "flat" (v9 K C Pt))(b:dM P w K mg base bH 13 "_law_leaves" (jD 11))(z:dM P w K mg base bH 4 "leaves" (x6 K C))(l:dM P w K mg base bH 4 "wishes" (xY K C))
  (G:dM P w K mg base bH 4 "write" (DI K C)) (a:dM P w K mg base bH 52 "_law_written" (jA 50)) (I:dM P w K mg base bH 5 "read" (IH K C)):bN P w K mg base bH 53 f fd iW (DN K C Pt Pp):=by
 refine F.ok c6 (λvs H Q E h=>?_) (λcdv A outer s H vs Q E L h=>?_)
 ·obtain⟨g,W,sm,os,d,v,u,rfl,_⟩:=h;rfl
 ·obtain⟨g,W,sm,os,d,v,u,rfl,sg,rep,due,tm,l40,d11,n900,X,q⟩:=h;have hu:=L.units
  refine⟨_,(aD (aZ (i:=3) c6.nd rfl (Or.inl rfl) (aM o (L.mono (by decide)) pass0 rfl (aA (pv 0) (aA (pv 1) aB))))
   (aD (bK (PW.pt (iA (bC MP (aM j (L.mono (by decide)) pass0 rfl (aA (pv 0) (aA (pv 3) aB))) jK (nomark _)) (fN (bC (iC hu) (aM B (L.mono (by decide)) pass0 rfl (aA (pv 0) (aA (pv 3) aB))) (aM B (L.mono (by decide)) pass0 rfl (aA (pv 0) (aA (pv 1) aB))) (nomark _))))) (aG (aO jK)) aW)
   (aD (aZ (i:=4) c6.nd rfl (Or.inl rfl) (aM b (L.mono (by decide)) pass0 rfl (aA (pv 1) aB)))
   (aD (aZ (i:=5) c6.nd rfl (Or.inl rfl) (aL (p0 rfl) rfl T.n_sorted rfl (aA (cH (CU rfl) rfl T.n_set rfl (aA (eF rfl (bD.by (N:=fS) (names:=(aH dE).names) (N':=["_law_one"]) (src:=[none]) (by decide +kernel) rfl rfl) (cE K rfl (pv 4)) (λ_ _ _ _=>(bA (i:=0) (show List.Nodup (["_law_one"]:aN)by decide +kernel) rfl (Or.inl rfl))) (λ_ _ _ _=>(lL (bC (eD hu) (bM cX (pv 0) aJ (λ_ _=>rfl)) cS (nomark _)))) (λ_ _ _ _=>(pv 0))) aB)) aB)))
   (aD (bK (PW.pt (iA (bC (iC hu) (aM z (L.mono (by decide)) pass0 rfl (aA (pv 0) (aA (pv 3) aB))) (aL cD rfl T.n_len rfl (aA (pv 4) aB)) (nomark _)) (fN (bC (iC hu) (aM l (L.mono (by decide)) pass0 rfl (aA (pv 0) (aA (pv 3) aB))) (pv 5) (nomark _))))) (aG (aO jK)) aW)
   (aD (aZ (i:=6) c6.nd rfl (Or.inl rfl) (aM G (L.mono (by decide)) pass0 rfl (aA (pv 0) (aA (pv 3) aB))))
   (aG (aO (wL (eS (eD hu) (pv 6) (aM a (L.mono (by decide)) pass0 rfl (aA (pv 2) aB)) (nomark _)) (pC (eS (eD hu) (aM I (L.mono (by decide)) pass0 rfl (aA (pv 0) (aA (pv 6) aB))) (pv 2) (nomark _)))))))))))),?_⟩
  clear L F T hu o j B b z l G a I;simp only[kH];have no:∀e1:D,(!eqD e1 e1)=false:=λe=>by rw[gR];rfl
  have tp:=HY tm l40 d11 n900;have pd:=BG tm.so tm.ho tm.tm;refine⟨_,rfl,_,rfl,g,W,sm,os,d,v,rfl,sg,rep,tm,X.lp,λv1 H1 b1 lp1 r1=>?_⟩;have tb1:=X.p b1 lp1;have c1:B2 Pt Pp H H1:=.p b1;have sg1:=X.sg c1 sg;have rp1:=X.rep c1 rep;have du1:=X.rep c1 due;refine⟨_,rfl,_,rfl,g,W,sm,os,_,v1,rfl,sg1,r1,tp,λH2 s2=>⟨_,_,rfl,rfl,_,rfl,?_⟩⟩;have Y:=tb1.same s2;refine⟨_,rfl,_,rfl,g,W,sm,os,_,v1,rfl,sg1.same s2,aX.same s2 r1,tp,Y.lt,λv3 H3 b3 lt3 r3=>?_⟩;have O:=Y.t b3 lt3;have c3:=(c1.trans (.of s2)).trans (.t b3);have sg3:=X.sg c3 sg;have rp3:=X.rep c3 rep;have U:=Y.rep (.t b3) (aX.same s2 r1);refine⟨_,rfl,_,rfl,g,W,sm,os,d,v,rfl,sg3,rp3,tm,O.lt,λv4 H4 b4 lt4 r4=>?_⟩;have tb4:=O.t b4 lt4;have c4:=c3.trans (.t b4);have Z:=X.sg c4 sg;have rp4:=X.rep c4 rep;have du4:=X.rep c4 due;have r14:=O.rep (.t b4) U;have r34:=O.rep (.t b4) r3;rw[pd.fl]at r34;have fd:=EQ sm d;refine⟨flt sm d,flt sm d,r34,r4,by omega,_,rfl,?_⟩;rw[no];clear sg1 rp1 du1 r1 tb1 lp1 b1 c1 s2 Y b3 lt3 r3 O c3 sg3 rp3 U b4 lt4 r4 r34;refine⟨_,rfl,W,sm,os,d,v,rfl,rp4,tm,d11,λls H5 s5 nl5 l5=>?_⟩;have ll:(lfs d).length<=40:=by rw[j0 (uF tm.tm)];exact l40
  refine⟨_,rfl,ls,_,rfl,.inl l5,λJ hJ=>cN hJ (TX (lfs d) H5) ⟨none,rfl,rfl,rfl⟩ (λi acc σ H' _ ⟨_,_,e,_⟩=>by rw[e]) ?_ ?_⟩
  ·rintro i x acc σ H' hx ⟨o0,rfl,rfl,rfl⟩;obtain⟨y,hy,rfl⟩:∃y,(lfs d)[i]?=some y/\x = .str y:=by
    rw[bu]at hx;cases e:(lfs d)[i]? with
    | none=>rw[e]at hx;cases hx
    | some y=>rw[e]at hx;cases hx;exact⟨y,rfl,rfl⟩
   obtain⟨c,r,hc,hz,hq⟩:=QA (EC tm.so tm.ho (CA tm.tm y (bf hy)));have e63:eqD (.str ⟨#[c]⟩) (.str (PySem.Str.ofString "?"))=isQ y:=by show((⟨#[c]⟩:Str) == PySem.Str.ofString "?")=_;rw[hq,bz,beq_iff_eq,decide_eq_true_iff];exact⟨λh=>(by have h:(⟨#[c]⟩:Str)=⟨#[63]⟩:=h;injection h with h;simpa using h),λh=>(by rw[h];rfl)⟩
   refine⟨_,rfl,.str ⟨#[c]⟩,by rw[q8 hz,hc,atI_zero];rfl,.str ⟨#[c]⟩,.str (PySem.Str.ofString "?"),rfl,rfl,au _,_,rfl,?_⟩;rw[e63];refine k6 (λhqq=>⟨_,rfl,?_,_,rfl,rfl,?_⟩) (λhqq=>⟨_,rfl,rfl,?_⟩)
   ·refine ak (m:=50) ?_ (by decide);rw[af];have h1:=List.length_filter_le isQ ((lfs d).take i);rw[bo]at h1;omega
   ·rw[aY hy,List.filter_append,List.filter_cons_of_pos hqq,List.filter_nil,ax];rfl
   ·rw[aY hy,List.filter_append,List.filter_cons_of_neg (by rw[hqq];decide),List.filter_nil,bh]
  ·rintro acc σ H' ⟨o0,rfl,rfl,rfl⟩ p6 hp6;rw[af,bp];have lf:=List.length_filter_le isQ (lfs d);refine⟨p6,(lfs d).filter isQ,rfl,upd_same,by omega,λp7 hp7=>⟨p7,dd ((lfs d).filter isQ),rfl,.inl upd_same,?_,λys pm so p8 hp8=>?_⟩⟩
   ·have:=K7 ((lfs d).filter isQ);omega
   rw[RG]at pm;have s8:aF H' (upd (upd (upd H' p6 (.lst (((lfs d).filter isQ).map V.str))) p7 (iV P w p7 (dd ((lfs d).filter isQ)))) p8 (.lst (ys.map V.str))):=((aF.upd hp6).trans (aF.upd hp7)).trans (aF.upd hp8);have h8:upd (upd (upd H' p6 (.lst (((lfs d).filter isQ).map V.str))) p7 (iV P w p7 (dd ((lfs d).filter isQ)))) p8 (.lst (ys.map V.str)) p8=some (.lst (ys.map V.str)):=upd_same;change gName 5 (V.ref p8) _ (upd (upd (upd H' p6 (.lst (((lfs d).filter isQ).map V.str))) p7 (iV P w p7 (dd ((lfs d).filter isQ)))) p8 (.lst (ys.map V.str))) _;generalize upd (upd (upd H' p6 (.lst (((lfs d).filter isQ).map V.str))) p7 (iV P w p7 (dd ((lfs d).filter isQ)))) p8 (.lst (ys.map V.str))=H8 at s8 h8⊢;have s48:=s5.trans s8;refine⟨_,rfl,_,rfl,g,W,sm,os,_,v1,rfl,Z.same s48,aX.same s48 r14,tp,λH9 s9=>?_⟩;have l9:=(s8.trans s9) _ _ l5;refine⟨_,rfl,_,_,rfl,by dsimp only;rw[lenV_l l9];rfl,.int (lvs (prD sm d)),.int (lvs (prD sm d)),rfl,?_,au _,_,rfl,?_⟩
   ·show V.int _=V.int _;rw[af,j0 (uF tm.tm),pd.lv]
   rw[no];have s49:=s48.trans s9;refine⟨_,rfl,_,rfl,g,W,sm,os,_,v1,rfl,Z.same s49,aX.same s49 r14,tp,λlw zs H10 s10 nl10 l10 pm10 so10=>?_⟩;rw[pd.lf]at pm10;have eq:zs=ys:=pR (pm10.trans pm.symm) (pS so10) (pS so);subst eq;have S:=s49.trans s10;refine⟨_,rfl,.lst (zs.map D.str),.lst (zs.map D.str),⟨lw,_,rfl,l10,lK _⟩,⟨p8,_,rfl,(s9.trans s10) _ _ h8,lK _⟩,by rw[depD,dep_strs];decide,_,rfl,?_⟩;rw[no];refine⟨_,rfl,_,rfl,g,W,sm,os,_,v1,rfl,Z.same S,aX.same S r14,tp,λH11 s11=>?_⟩;have s411:=S.trans s11;refine⟨_,rfl,_,rfl,W,sm,os,_,u,rfl,aX.same s411 du4,tp,tp.dp,λH12 s12=>?_⟩;have s412:=s411.trans s12;refine⟨.str (wrS (prD sm d)),.str (wrS (prD sm d)),rfl,rfl,au _,?_⟩;rw[gR];refine⟨_,rfl,_,rfl,_,rfl,g,W,sm,os,_,rfl,Z.same s412,tp,λv13 H13 s13 U=>?_⟩;rw[OJ (wI (uG tm.so tm.ho tm.tm).1)]at U;have R:=s412.trans s13;refine⟨_,rfl,prD sm d,prD sm d,U,aX.same R du4,by have:=tp.dp;omega,?_⟩;rw[gR];exact q H13 (c4.trans (.of R)) (tb4.same R)
theorem M8 {i:cG}{sm:bG}{os:aN}{d:D}(h:aV i sm os d):nds d<=lvs d * (depD d+1):=by
 refine rK (P:=λd=>nds d<=lvs d * (depD d+1)) (λx _=>by unfold nds lvs;exact ae _) (λn ds d hd f a b=>?_) h;obtain⟨m,l,j,_⟩:=lJ (sm:=sm) hd;have q:=k9 f;have o:=gA a;have go:∀{es:List D},(∀e∈es,nds e<=lvs e * (depD e+1))->ndss es<=lvss es * (depDs es+1):=λ{es}=>by
  induction es with
  | nil=>intro _;exact au _
  | cons e es b =>
   intro h;have s:=h e av;have r:=b λx c=>h x (ay _ c);rw[ndss,lvss,depDs,Nat.add_mul];have v:=Nat.mul_le_mul_left (lvs e) (Nat.add_le_add_right (Nat.le_max_left (depD e) (depDs es)) 1);have u:=Nat.mul_le_mul_left (lvss es) (Nat.add_le_add_right (Nat.le_max_right (depD e) (depDs es)) 1);omega
 have g:=go b;rw[m,l,j,Nat.mul_succ];omega
theorem HN:∀x∈wi31,cI x:=by
 intro x b;simp only[wi31,cm,List.not_mem_nil,or_false]at b;have a:∀{l:List Nat},(l.all λc=>decide ((97<=c/\c<=122)∨(48<=c/\c<=57)))=true->∀c∈l,isWd c:=λh c d=>by have:=List.all_eq_true.mp h c d;have:(97<=c/\c<=122)∨(48<=c/\c<=57):=bn this;unfold isWd;omega
 rcases b with rfl|rfl|rfl|rfl
 ·exact⟨[120],rfl,by decide,by decide,a (by decide)⟩
 ·exact⟨[49],rfl,by decide,by decide,a (by decide)⟩
 ·exact⟨[48,122,57],rfl,by decide,by decide,a (by decide)⟩
 ·exact⟨[122,122,122,122,122,122,122,122],rfl,by decide,by decide,a (by decide)⟩
def v8 (K:PySem.W.Frag)(Pt Pp:Addr):Sp:=λvs H Q _=>∃(a:Addr) (ns:List Int),vs=[.ref a]/\eH K H a (ns.map V.int)/\ns.length<=63/\Tb Pt Pp H/\∀H',Q (.bl true) H'
def S7 (a:Addr)(Pt Pp:Addr)(H:Hp)(i:Nat)(σ:St)(b:Hp):Prop:=∃j h g f e d c:Option V,σ=[some (.ref a),j,h,g,f,e,d,c]/\B2 Pt Pp H b/\Tb Pt Pp b
theorem JG {a:Addr}{ns:List Int}{σ:St}{H:Hp}{Q:VK}(e:σ[0]?=some (some (.ref a)))(c:eH K H a (ns.map V.int))(q:∀b H1 (ms:List Int),aF H H1->eH K H1 b (ms.map V.int)->Q (.ref b) H1):tOrT K (tVar 0) (tLst (tCons (tC (V.int 7)) tNil)) σ H Q :=
 ⟨_,e,_,.inl ⟨_,c,rfl⟩,k6 (λ_=>q a H ns (aF.refl _) c) (λ_=>⟨show 1<=sizeLine by decide,λp d=>q p _ [7] (aF.upd d) (eH.of upd_same)⟩)⟩
theorem u8 (ms:List Int):cutV (ms.map V.int) none (some 4)=(ms.take 4).map V.int:=by have:=K9 (ms.map V.int) 4;rw[List.map_take];exact this
theorem P3 {f C Pt Pp:Addr}{fd:FuncData}(F:fJ K "law" "law" pT f fd)(T:Txt mg)(R:dM P w K mg base bH 1 "_law_from" IK)(O:dM P w K mg base bH 1 "_law_take" iX)(L:dM P w K mg base bH 2 "_law_signs" uJ)(S:Q0 P w K mg base bH 3 "Signs" C (A8 K C))(N:dM P w K mg base bH 15 "_law_term" (jC 11))
  (G:dM P w K mg base bH 13 "_law_paired" (nG 11)) (r:dM P w K mg base bH 13 "_law_listed" (kK 11)) (I:dM P w K mg base bH 9 "paired" (nF K C Pp)) (W:dM P w K mg base bH 12 "alike" (spTwo K C Pt pA)) (j:dM P w K mg base bH 53 "_law_told_again" (DN K C Pt Pp)):bN P w K mg base bH 54 f fd OM (v8 K Pt Pp):=by
 refine F.ok kN (λvs H Q E h=>?_) (λcdv A outer s H vs Q E Y h=>?_)
 ·obtain⟨a,ns,rfl,_⟩:=h;rfl
 ·obtain⟨a,ns,rfl,hs,n63,tb,q⟩:=h;have hu:=Y.units
  refine⟨_,(aD (fE de rfl (cE K rfl (eK DQ (PM (pv 0) (pC (cM (aA aJ aB)))) dG (cP aJ))) (bA (i:=1) kN.nd rfl (Or.inl rfl)) (aD (aZ (i:=2) kN.nd rfl (Or.inl rfl) (aM R (Y.mono (by decide)) pass0 rfl (aA (pv 1) aB)))
   (aD (aZ (i:=3) kN.nd rfl (Or.inl rfl) (aM L (Y.mono (by decide)) pass0 rfl (aA (pv 2) aB)))
   (aD (aZ (i:=4) kN.nd rfl (Or.inl rfl) (RB S (Y.mono (by decide)) pass0 rfl (aA (bM cX (pv 3) aJ (λ_ _=>rfl)) (aA (bM cX (pv 3) aJ (λ_ _=>rfl)) aB))))
   (aD (aZ (i:=5) kN.nd rfl (Or.inl rfl) (aM N (Y.mono (by decide)) pass0 rfl (aA (pv 2) (aA (pv 3) (aA (bV cV aJ (aM O (Y.mono (by decide)) pass0 rfl (aA (pv 2) (aA aJ aB)))) (aA aJ aB))))))
   (aD (aZ (i:=6) kN.nd rfl (Or.inl rfl) (aM G (Y.mono (by decide)) pass0 rfl (aA (cH (mY rfl) rfl T.n_dict rfl (aA (bM cX (pv 3) aJ (λ_ _=>rfl)) aB)) (aA (pv 5) aB))))
   (aD (aZ (i:=7) kN.nd rfl (Or.inl rfl) (aM r (Y.mono (by decide)) pass0 rfl (aA (pv 5) aB)))
   (aD (bK (PW.pt (iA (bC (iC hu) (aM I (Y.mono (by decide)) pass0 rfl (aA (pv 4) (aA (pv 5) aB))) (pv 6) (nomark _)) (iA (bC (iC hu) (aM I (Y.mono (by decide)) pass0 rfl (aA (pv 4) (aA (pv 7) aB))) (pv 6) (nomark _)) (fN (bC (iC hu) (pv 7) (aM r (Y.mono (by decide)) pass0 rfl (aA (pv 5) aB)) (nomark _)))))) (aG (aO jK)) aW)
   (aD (bK (PW.pt (iA (bC (iC hu) (aM I (Y.mono (by decide)) pass0 rfl (aA (pv 4) (aA (pv 6) aB))) (pv 6) (nomark _)) (fN (cR (aP K rfl (aM W (Y.mono (by decide)) pass0 rfl (aA (pv 4) (aA (pv 6) (aA (pv 5) aB)))) (λ_=>rfl)))))) (aG (aO jK)) aW)
   (aG (bK (cR (aP K rfl (aM j (Y.mono (by decide)) pass0 rfl (aA (pv 4) (aA (pv 5) (aA (pv 6) aB)))) (λ_=>rfl))) (aG (aO jK)) aW)))))))))))
   (aG (aO jK))),?_⟩
  clear Y F T hu R O L S N G r I W j;simp only[nC];refine JG rfl hs λb0 Hs ms0 ss hb0=>⟨4,rfl,b0,_,rfl,hb0,λsl hsl=>⟨sl,_,rfl,.inl upd_same,λJ hJ=>?_⟩⟩
  rw[u8]at hJ;have s0:=ss.trans (aF.upd (o:=.lst ((ms0.take 4).map V.int)) hsl);have sl0:upd Hs sl (.lst ((ms0.take 4).map V.int)) sl=some (.lst ((ms0.take 4).map V.int)):=upd_same;rw[u8];generalize upd Hs sl (.lst ((ms0.take 4).map V.int))=H0 at s0 sl0 hJ⊢;have tb0:=tb.same s0;clear tb hs hb0 ss hsl s0;generalize ms0.take 4=ms at sl0 hJ;refine gG hJ (S7 a Pt Pp H0) ⟨none,none,none,none,none,none,none,rfl,.of (aF.refl _),tb0⟩ (λi σ H' _ ⟨_,_,_,_,_,_,_,_,b,_⟩=>by rw[tb0.get b sl0 λ_=>by simp,sl0]) ?_ ?_
  ·rintro i x σ H1 hx ⟨o1,o2,o3,o4,o5,o6,o7,rfl,b1,tb1⟩;obtain⟨m,hm,rfl⟩:∃m,ms[i]?=some m/\x = .int m:=by
    rw[bu]at hx;cases e:ms[i]? with
    | none=>rw[e]at hx;cases hx
    | some y=>rw[e]at hx;cases hx;exact⟨y,rfl,rfl⟩
   refine⟨_,rfl,m,rfl,λp x y hp=>?_⟩;have s2:aF H1 (upd H1 p (.lst [.int x,.int y])):=aF.upd hp;have p2:cC (upd H1 p (.lst [.int x,.int y])) p:=⟨_,_,upd_same⟩
   generalize upd H1 p (.lst [.int x,.int y])=H2 at s2 p2⊢;refine⟨_,rfl,p,rfl,p2,λt a1 a2 fx sm fv sv H3 b3 p3 ht ha hb rf rs so na1 nb1 sg31=>?_⟩;have s3:aF H1 H3:=λc ob e=>b3 c ob (aE e hp) (s2 _ _ e);refine⟨_,rfl,.ref a1,by rw[ixV_t ht];rfl,_,rfl,.ref a2,by rw[ixV_t ht];rfl,λg dx hg hdx ng=>?_⟩;have s4':aF H3 (upd (upd H3 dx (.own g)) g (.ins C dx [])):=(aF.upd hdx).trans (aF.upd (by rw[aC (Ne.symm ng)];exact hg));refine⟨g,dx,a1,a2,fx,sm,fv,sv,rfl,upd_same,s4' _ _ ha,s4' _ _ hb,rf.same (bE.of s4'),rs.same (bE.of s4'),so,λH4 b4 sg=>⟨rfl,?_⟩⟩;have U:aF H3 H4:=λc ob e=>b4 c ob (aE e hg) (s4' _ _ e);have p4:cC H4 p:=by obtain⟨x',y',e⟩:=p3;exact⟨x',y',U _ _ e⟩
   have s14:=s3.trans U;clear b3 b4 s4' hg hdx ng p3 p2;have X:LF p t fx sm H4:=⟨a1,a2,fv,sv,U _ _ ht,U _ _ ha,U _ _ hb,rf.same (bE.of U),rs.same (bE.of U),na1,nb1⟩
   refine⟨_,rfl,_,rfl,_,rfl,p,40,rfl,p4,by decide,by decide,λk x5 y5 k0 k1=>.inl ⟨_,rfl,?_⟩⟩;obtain⟨room,hroom⟩:∃room:Nat,1+k=(room:Int):=⟨(1+k).toNat,by omega⟩
   rw[hroom];have b5:eE p H4 (upd H4 p (.lst [.int x5,.int y5])):=eE.upd p H4 _;have p5:cC (upd H4 p (.lst [.int x5,.int y5])) p:=⟨_,_,upd_same⟩
   generalize upd H4 p (.lst [.int x5,.int y5])=H5 at b5 p5⊢;refine⟨p,t,fx,sm,room,11,rfl,⟨p5,X.but b5 p4,so,sg31⟩,by omega,by omega,ae _,λd v H6 b6 p6 rep tm fl lv dp=>?_⟩;have b46:=b5.trans b6;have s6:aF H1 H6:=λc ob e=>b46 c ob (aE e hp) (s14 _ _ e);have told6:=X.but b46 p4;have sg6:eP K C fx sm H6 g:=by obtain⟨c1,c2,c3,dx',fs,dm,dn,h1,h2,h3,h4,h5,h6,h7⟩:=sg;obtain⟨x',y',ep⟩:=p4;exact⟨c1,c2,c3,dx',fs,dm,dn,b46 _ _ (λz=>by rw[z,ep]at h1;cases h1) h1,h2,h3,h4,h5,b46 _ _ (λz=>by rw[z,ep]at h6;cases h6) h6,b46 _ _ (λz=>by rw[z,ep]at h7;cases h7) h7⟩
   have tb6:=tb1.same s6;have l40:lvs d<=40:=by omega
   have n900:nds d<=900:=by have h1:=M8 tm;have h2:lvs d * (depD d+1)<=40 * 12:=Nat.mul_le_mul l40 (by omega);omega
   have tr:pM fx sm wi31 d:=⟨so,HN,tm,by omega,by omega,by omega⟩
   have tp:=HY tr l40 dp n900;have pd:=BG so HN tm;have no:∀e1:D,(!eqD e1 e1)=false:=λe=>by rw[gR];rfl
   clear b5 p5 b6 p6 b46 s14 X p4 sg U s3 rf rs ht ha hb na1 nb1 s2 k0 k1;obtain⟨a1,a2,fv,sv,ht,ha,hb,rf,rs,na1,nb1⟩:=told6;refine⟨_,rfl,.ref a2,by rw[ixV_t ht];rfl,a2,sv,_,rfl,hb,rs.prs,λdn hdn=>?_⟩;have nds:(sm.map (·.1)).Nodup:=(List.nodup_append.mp so.nd).2.1;rw[y3 nds];have s7:=aF.upd (o:=dK31 sm) hdn;have d7:upd H6 dn (dK31 sm) dn=some (dK31 sm):=upd_same;refine⟨_,rfl,dn,fx,sm,wi31,d,v,rfl,d7,aX.same s7 rep,tr,dp,λu H8 s8 ru=>?_⟩;have s68:=s7.trans s8;refine⟨_,rfl,fx,sm,wi31,d,v,rfl,aX.same s68 rep,.inl tr,dp,λl H9 s9 rl=>?_⟩;have s69:=s68.trans s9;have B:=tb6.same s69;have sg9:=sg6.same s69;have Z:=aX.same s69 rep;have ru9:=aX.same s9 ru;have ta:=xN (b:=true) tm;have na:=BY true tm;have tal:pM fx sm wi31 (asD true d):=⟨so,HN,ta.2.1,by rw[ta.2.2.1];omega,by rw[na];omega,by rw[ta.2.2.2];omega⟩
   have c9:B2 Pt Pp H1 H9:=.of (s6.trans s69);clear s7 d7 s8 s68 s9 s69 hdn ru rep sg6 tb6 s6 rf rs ht ha hb na1 nb1;refine⟨_,rfl,_,rfl,g,fx,sm,wi31,d,v,rfl,sg9,Z,tr,B.lp,λv10 H10 b10 lp10 r10=>?_⟩;have dpp:=tp.dp;have tb10:=B.p b10 lp10;have e10:B2 Pt Pp H9 H10:=.p b10;refine⟨_,rfl,prD sm d,prD sm d,r10,B.rep e10 ru9,by omega,_,rfl,?_⟩;rw[no];refine⟨_,rfl,_,rfl,g,fx,sm,wi31,asD true d,l,rfl,B.sg e10 sg9,B.rep e10 rl,tal,tb10.lp,λv11 H11 b11 lp11 r11=>?_⟩;rw[PH true tm]at r11;have tb11:=tb10.p b11 lp11;have e11:=e10.trans (.p b11);refine⟨_,rfl,prD sm d,prD sm d,r11,B.rep e11 ru9,by omega,_,rfl,?_⟩;rw[no];refine⟨_,rfl,_,rfl,fx,sm,wi31,d,v,rfl,B.rep e11 Z,.inl tr,dp,λl12 H12 s12 r12=>?_⟩;have e12:=e11.trans (.of s12);have tb12:=tb11.same s12;refine⟨asD true d,asD true d,B.rep e12 rl,r12,by rw[ta.2.2.2];omega,_,rfl,?_⟩;rw[no];refine⟨_,rfl,_,rfl,g,fx,sm,wi31,prD sm d,u,rfl,B.sg e12 sg9,B.rep e12 ru9,tp,tb12.lp,λv13 H13 b13 lp13 r13=>?_⟩;rw[pd.id]at r13;have tb13:=tb12.p b13 lp13;have e13:=e12.trans (.p b13);refine⟨_,rfl,prD sm d,prD sm d,r13,B.rep e13 ru9,by omega,_,rfl,?_⟩;rw[no];refine⟨_,rfl,_,rfl,_,rfl,g,fx,sm,wi31,prD sm d,d,u,v,rfl,B.sg e13 sg9,B.rep e13 ru9,B.rep e13 Z,tp,tr,tb13.lt,λH14 b14 lt14=>?_⟩;have tb14:=tb13.t b14 lt14;have e14:=e13.trans (.t b14);have ra:pA sm (prD sm d) d=true:=by unfold pA;rw[pd.fl];exact bd rfl
   rw[ra];refine⟨true,rfl,?_⟩;refine⟨_,rfl,_,rfl,_,rfl,g,fx,sm,wi31,d,v,u,rfl,B.sg e14 sg9,B.rep e14 Z,B.rep e14 ru9,tr,l40,dp,n900,tb14,λH15 b15 tb15=>⟨true,rfl,?_⟩⟩;exact⟨_,_,_,_,_,_,_,rfl,((b1.trans c9).trans e14).trans b15,tb15⟩
  ·exact λσ H1 _=>q H1
end
end Lw
namespace Lw
open PySem PySem.Spec PyProof.Rows PySem.W L2
theorem sT {K:Frag}{h:Heap}{x:Str}{c Pt:Addr}(X:K.In h)(a:tabIn K x=some (c,Pt))(C:CodeHd h c Pt):∀h',K.In h'->CodeHd h' c Pt:=by
 have b:∃o,K.lookup c=some o:=by
  unfold tabIn at a;split at a
  ·split at a
   ·split at a
    ·split at a
     ·rename_i v _ _ _ _ _ q;split at a
      ·cases a;exact⟨_,q⟩
      ·cases a
     ·cases a
    ·cases a
   ·cases a
  ·cases a
 obtain⟨o,b⟩:=b;obtain⟨u,vs,r1,m,l,j,i,g,f,e,r⟩:=C;intro h' s;have d:=X _ _ b;rw[e]at d;cases d;exact⟨_,vs,r1,m,l,j,i,g,f,s _ _ b,r⟩
theorem CC {P:Program}{w:World}{K:Frag}{mg U:gX}{k:Nat}{fa a c Pt c2 Pp:Addr}{fd:FuncData}{x:Str}{sp:Sp}{f:Shared}{vs:bQ}{ns:List Int}
  (KX:K.In f.heap) (L:f.heap.Ns mainGlobals mg) (g:f.heap.Ns builtinsNs U) (X:∀x:Str,x≠"__name__"->U x=bootBuiltins x) (N:f.heap.NoLimit) (hg:f.gens = #[])
  (E:f.heap.get? a=some {cls:=.type "list",data:=.seq vs.toArray}) (hi:IntsAre vs ns) (hl:ns.length<=sizeLine) (hr:dW k callerA)
  (hT:CodeHd f.heap c Pt) (hP:f.heap.get? Pt=some (tabObj #[])) (hKP:K.lookup Pt=none) (Y:CodeHd f.heap c2 Pp) (Z:f.heap.get? Pp=some (tabObj #[])) (hKP2:K.lookup Pp=none) (hB:Bm mg f.heap)
  (F:∀base:Heap,K.In base->base.Ns mainGlobals mg->Bm mg base->bN P w K mg base bH k fa fd [x] sp) (C:∀(s:Shared) (u:Value),BindsTo s fd ⟨[u],[]⟩ [(x,u)])
  (W:∀H:Hp,H Pt=some (.tbl #[])->H Pp=some (.tbl #[])->eH K H a (ns.map V.int)->sp [.ref a] H (λv _=>v = .bl true) λ_ _ _=>False) :
  codeAny (model P w) callerA (.call (.ref fa) ⟨[.ref a],[]⟩) (λr s'=>r = .ok (.ret (.bool true))/\OldK f.heap s'.heap/\s'.os=f.os/\AllBare s'.gens) f:=by
 have rv:=uC hi;have lenV:=hi.length;have i:∀b,(b=Pt∨b=Pp)->f.heap.get? b=some (tabObj #[]):=λb h=>by rcases h with rfl|rfl <;> assumption
 have J:∀b,(b=Pt∨b=Pp)->K.lookup b=none:=λb h=>by rcases h with rfl|rfl <;> assumption
 have I:¬(a=Pt∨a=Pp):=λz=>by have:=i a z;rw[E]at this;cases this
 have B:∀H:Hp,(∀b,(b=Pt∨b=Pp)->H b=some (.tbl #[]))->(∀b,¬(b=Pt∨b=Pp)->H b≠none->b=a/\K.lookup a=none/\∃o xs,H a=some (.frz o (.lst xs)))->eH K H a (ns.map V.int)->fV P w H f.heap ->
   codeAny (model P w) callerA (.call (.ref fa) ⟨[.ref a],[]⟩) (λr s'=>r = .ok (.ret (.bool true))/\OldK f.heap s'.heap/\s'.os=f.os/\AllBare s'.gens) f:=by
  intro H hH hA hS hok;have free:∀{b:Addr} {o:Obj},f.heap.get? b=some o->o≠tabObj #[]->(b=a->K.lookup a=none->False)->H b=none:=λ{b o} e n n2=>by
   cases q:H b with
   | none=>rfl
   | some u =>
    by_cases z:b=Pt∨b=Pp
    ·rw[i b z]at e;exact absurd (Option.some.inj e).symm n
    ·obtain⟨T,G,_⟩:=hA b z (by rw[q];simp);exact(n2 T G).elim
  have l:∀{b:Addr} {m:gX},f.heap.Ns b m->(hidT f.heap H).Ns b m:=λ{b m} ⟨o,es,ep,e,d,r⟩=>⟨o,es,ep,sN e (free e (λz=>by rw[z]at d;cases d) (λz _=>by rw[z,E]at e;cases e;cases d)),d,r⟩
  have O:K.In (hidT f.heap H):=λb o e=>sN (KX b o e) (by
   cases q:H b with
   | none=>rfl
   | some u =>
    by_cases z:b=Pt∨b=Pp
    ·rw[J b z]at e;cases e
    ·obtain⟨T,G,_⟩:=hA b z (by rw[q];simp)
     rw[T,G]at e;cases e)
  have hM:Mod K mg (hidT f.heap H):=⟨O,l L,⟨U,l g,X⟩,let⟨mc,h1,h2⟩:=N;⟨mc,l h1,h2⟩⟩
  have hB':Bm mg (hidT f.heap H):=by obtain⟨bm,o,S,e2,e3,R,e5,e6,e7⟩:=hB;exact⟨bm,o,S,e2,e3,sN R (free R (λz=>by rw[z]at e5;cases e5) (λz _=>by rw[z,E]at R;cases R;cases e7)),e5,e6,e7⟩
  have e0:tO P w K mg (hidT f.heap H) callerA [] f H:=⟨rfl,hM,λb o e=>M7 e,Nat.le_of_eq (GY _ _),trivial,λb g=>absurd (show b∈([]:List Addr)from g) (by simp),hok,.of_eq hg⟩
  refine codeAny_mono ((F _ O (l L) hB').run callerA [] f H ⟨[.ref a],[]⟩ [.ref a] [.ref a] _ _ hr e0 (C f (.ref a)) (.cons rfl .nil) (W H (hH Pt (.inl rfl)) (hH Pp (.inr rfl)) hS)) λr s' h=>?_;cases r with
  | error e=>exact False.elim h
  | ok fl =>
   cases fl with
   | next=>exact False.elim h
   | brk=>exact False.elim h
   | cont=>exact False.elim h
   | ret u =>
    obtain⟨v,H',os,bare,un,A,r',q⟩:=h;have q':v = .bl true:=q;subst q';obtain rfl:u=Value.bool true:=r';have keep:∀b o,¬(b=Pt∨b=Pp)->f.heap.get? b=some o->s'.heap.get? b=some o:=λb o n e=>by
     cases q:H b with
     | none=>exact un.keep b o e q (by intro z;exact absurd (show b∈([]:List Addr)from z) (by simp)) (by simp)
     | some u =>
      obtain⟨rfl,_,ob,xs,z⟩:=hA b n (by rw[q];simp);have G:=un.frzs b ob _ z;obtain⟨S,_⟩:=hok b _ z;obtain⟨e2,_⟩:=A b _ G;rw[e]at S;cases S;exact e2
    have j:∀b,(b=Pt∨b=Pp)->∃more,s'.heap.get? b=some (tabObj (#[]++more)):=λb z=>by obtain⟨more,hm⟩:=un.tbls b #[] (hH b z);exact⟨more,A b _ hm⟩
    refine⟨rfl,⟨λb o e=>?_,λb o e=>?_⟩,os,bare⟩
    ·by_cases z:b=Pt∨b=Pp
     ·obtain⟨more,gP⟩:=j b z;rw[i b z]at e;cases e;refine .inr (.inl ⟨?_,rfl,#[],more,rfl,gP⟩);rcases z with rfl|rfl
      ·exact(hT.tab hP).isCodeTable
      ·exact(Y.tab Z).isCodeTable
     ·exact .inl (keep b o z e)
    ·by_cases z:b=Pt∨b=Pp
     ·obtain⟨more,gP⟩:=j b z;exact⟨_,gP⟩
     ·exact⟨o,keep b o z e⟩
 cases hk:K.lookup a with
 | some o =>
  have e:=KX a o hk;rw[E]at e;cases e;refine B (λb=>if b=Pt∨b=Pp then some (.tbl #[])else none) (λb z=>aj z) (λb n z=>absurd (ac n) z) (.inr ⟨_,vs.toArray,_,hk,rfl,rfl,rfl,by rw[ai,lenV];exact hl,by simpa using rv⟩) λb u z=>?_;by_cases g:b=Pt∨b=Pp
  ·have z':=(aj g).symm.trans z;cases z';exact i b g
  ·have z':=(ac g).symm.trans z;cases z'
 | none =>
  refine B (λb=>if b=Pt∨b=Pp then some (.tbl #[])else if b=a then some (.frz {cls:=.type "list",data:=.seq vs.toArray} (.lst (ns.map V.int)))else none) (λb z=>aj z) (λb n z=>?_) (.inl (.inr ⟨{cls:=.type "list",data:=.seq vs.toArray},(ac I).trans (aj rfl)⟩)) (λb u z=>?_)
  ·by_cases g:b=a
   ·exact⟨g,hk,_,_,(ac I).trans (aj rfl)⟩
   ·exact absurd ((ac n).trans (ac g)) z
  ·by_cases Q:b=Pt∨b=Pp
   ·have z':=(aj Q).symm.trans z;cases z';exact i b Q
   ·by_cases g:b=a
    ·have z':=((ac Q).trans (aj g)).symm.trans z;cases z';subst g;exact⟨E,by rw[af];exact hl,vs,_,rv,E⟩
    ·have z':=((ac Q).trans (ac g)).symm.trans z;cases z'
theorem OU {l:PySem.W.OpenLaw}{q:Program}{loose:aN}{XP:(gX)->Heap->Prop}{YP:World->Heap->Prop}{d dp Q:DefRec}{K:Params->PySem.W.Frag}(hn:l.most=some 63)(I:d.params.defaults=[])
  (hY:∀(w:World) (h:Heap),YP w h->(K w.params).In h) (hq:(recsOf q).find? (λe=>e.name == ("put_in" : Str))=some dp) (B:(recsOf q).find? (λe=>e.name == ("paired" : Str))=some Q)
  (F:∀(w:World) (mg:gX) (A:Addr) (h:Heap),(K w.params).In h->h.Ns mainGlobals mg->mg d.name=some (.ref A) ->
   ∃(O:FuncData) (c Pt R Pp:Addr),tabIn (K w.params) "put_in" = some (c,Pt)/\(K w.params).lookup Pt=none/\tabIn (K w.params) "paired" = some (R,Pp)/\(K w.params).lookup Pp=none/\Pt≠Pp/\(∀(s:Shared) (u:Value),BindsTo s O ⟨[u],[]⟩ [("_law_script",u)]) /\
    ∀base:Heap,(K w.params).In base->base.Ns mainGlobals mg->Bm mg base->(∀h,(K w.params).In h->CodeHd h c Pt)->(∀h,(K w.params).In h->CodeHd h R Pp)->bN l.prog w (K w.params) mg base bH 54 A O ["_law_script"] (v8 (K w.params) Pt Pp)) :
  PySem.W.WalkO q loose XP YP l.row.toRowW d [] (λf vs=>PySem.call f vs):=by
 refine Att.zZ hn I λw s0 s1 mg mb A o pm cd doc a vs ns G Y ho hd hcd E r j i hg=>?_;have KX:=hY w _ Y;obtain⟨O,c,Pt,R,Pp,S,L,m,v,C,hb,hF⟩:=F w mg A _ KX G.T.g E;obtain⟨U,hP⟩:=tab_of G.T KX hq S;obtain⟨x,J⟩:=tab_of G.T KX B m;have hB:Bm mg s1.heap:=by obtain⟨bm,ob,e1,e2,P,e4,e5,Z⟩:=G.T.bmain;refine⟨bm,ob,e1,e2,λz=>?_,P,e4,e5,Z⟩;obtain⟨o',es,ep,g1,X,_⟩:=G.T.g;rw[z,g1]at P;cases P;rw[Z]at X;cases X
 exact CC KX G.T.g G.T.b G.T.builtins G.T.nolimit hg r j (ao i (by decide)) ⟨rfl,by decide,by decide⟩ U hP L x J v hB (λbase kb nb bb=>hF base kb nb bb (sT KX S U) (sT KX m x)) hb
  λH hH N hS=>⟨a,ns,rfl,hS,i,⟨.inl hH,.inl N,C⟩,λ_=>rfl⟩
theorem lenS {n:Nat}{us:bQ}{P:bQ->Prop}(h:us.length=n+1)(k:∀a t,t.length=n->P (a::t)):P us:=by
 cases us
 ·cases h
 ·exact k _ _ (Nat.succ.inj h)
theorem len1 {us:bQ}{P:bQ->Prop}(h:us.length=1)(k:∀a,P [a]):P us:=lenS h λa t h=>by cases t;exact k a;cases h
theorem len2 {us:bQ}{P:bQ->Prop}(h:us.length=2)(k:∀a b,P [a,b]):P us:=lenS h λa _ h=>len1 (P:=λt=>P (a::t)) h (k a)
theorem len3 {us:bQ}{P:bQ->Prop}(h:us.length=3)(k:∀a b c,P [a,b,c]):P us:=lenS h λa _ h=>len2 (P:=λt=>P (a::t)) h (k a)
theorem len4 {us:bQ}{P:bQ->Prop}(h:us.length=4)(k:∀a b c d,P [a,b,c,d]):P us:=lenS h λa _ h=>len3 (P:=λt=>P (a::t)) h (k a)
def bR (K:PySem.W.Frag)(x:Str)(st:Stmt)(f:Addr):Prop:=(nsIn K mainGlobals x=some (some (.ref f))/\keepIn K (.ref f)=true)/\∃d od kV e c g a ct b,K.lookup f=some ⟨d,od,.func (PySem.W.fnOf x x (cK st) (bX st) (aH st) .none kV e c g a ct),b⟩/\codeIn K a x=true
theorem bR.mk {K:PySem.W.Frag}{x:Str}{st:Stmt}{f:Addr}{h kV i g d ct:Value}{od j:Option Addr}{e:Array (Option Value)}(a:nsIn K mainGlobals x=some (some (.ref f)))(b:keepIn K (.ref f)=true)(l:K.lookup f=some ⟨h,od,.func (PySem.W.fnOf x x (cK st) (bX st) (aH st) .none kV i g j d ct),e⟩)(c:codeIn K d x=true):bR K x st f:=⟨⟨a,b⟩,_,_,_,_,_,_,_,_,_,l,c⟩
theorem bR.use {K:PySem.W.Frag}{x:Str}{st:Stmt}{f:Addr}{h:Heap}{mg:gX}{ps:aN}{R:Prop}(a:bR K x st f)(X:K.In h)(G:h.Ns mainGlobals mg)(ok:∀d,fJ K x x st f d->mg x=some (.ref f)->keepIn K (.ref f)=true->dZ K d ps []->R)(g:∀(kV b e:Value) (an:Option Addr) (cdv ct:Value) (us:bQ),us.length=ps.length->bindArgs (PySem.W.fnOf x x (cK st) (bX st) (aH st) .none kV b e an cdv ct) ⟨us,[]⟩=pure (ps.zip us)):R:=by obtain⟨⟨a,k⟩,_,_,_,_,_,_,_,_,_,l,c⟩:=a;exact ok _ (lA l c k) (cy X G a) k ((lA l c k).binds g)
theorem bR.own {K:PySem.W.Frag}{x:Str}{st:Stmt}{f:Addr}{h base:Heap}{mg:gX}{ps:aN}{P:Program}{w:World}{CX:AT}{k:Nat}{d:Sp}(a:bR K x st f)(X:K.In h)(G:h.Ns mainGlobals mg)(ok:∀e,fJ K x x st f e->bN P w K mg base CX k f e ps d)(i:∀(kV c g:Value) (an:Option Addr) (cdv ct:Value) (us:bQ),us.length=ps.length->bindArgs (PySem.W.fnOf x x (cK st) (bX st) (aH st) .none kV c g an cdv ct) ⟨us,[]⟩=pure (ps.zip us)):dM P w K mg base CX k x d:=a.use X G (λ_ F m k b=>⟨_,_,_,ok _ F,m,k,b⟩) i
theorem QS {l:PySem.W.OpenLaw}{w:World}{K:PySem.W.Frag}{h:Heap}{mg:gX}{fa C cc Pt cc2 Pp f1 f2 f3 f4 f5 f6 f7 f8 f9 f10 f11 f12 f13 f14 f15 f16 f17 f18 f19 f20 f21 f22 f23 f24 f25 f26 f27 f28 f29 f30 f31 f32 f33 f34 f35 f36 f37 f38 f39 f40 f41 f42 f43 f44 C_NoTerm:Addr}(X:K.In h)(G:h.Ns mainGlobals mg)(hfa:mg "law" = some (.ref fa))
  {od7 an7 od8 an8 od19 an19 od29 an29 od40 an40:Option Addr} {sl7 sl8 sl19 sl29 sl40:Array (Option Value)} {oc7 kV7 dc7 pm7 ct7 cd7 oc8 kV8 dc8 pm8 ct8 cd8 oc19 kV19 dc19 pm19 ct19 oc29 kV29 dc29 pm29 ct29 cd29 oc40 kV40 dc40 pm40 ct40:Value} {tk0 tk1 tk2 tk3 tk4 tk5 tk6 tk7:Tok} {odq odr:Option Addr} {ocq ocr:Value} {vq vr:i8} {slq slr:Array (Option Value)}
  (m0:nsIn K mainGlobals "Signs" = some (some (.ref C)))
  (e0:nsIn K mainGlobals "NoTerm" = some (some (.ref C_NoTerm)))
  (x0:excIn K C_NoTerm HP "ValueError.__new__" = true)
  (a1:bR K "_law_from" iR f1)
  (a2:bR K "_law_take" iP f2)
  (a3:bR K "_law_signs" dQ f3)
  (a4:bR K "_law_leaf" iQ f4)
  (a5:bR K "_law_head" gK f5)
  (a6:bR K "_law_term" fF f6)
  (a7:findIn K (.ref C) "many" = some (some (.ref f7)))
  (l7:K.lookup f7=some ⟨oc7,od7,.func (PySem.W.fnOf "many" "Signs.many" (cK dR) (bX dR) (aH dR) .none kV7 dc7 pm7 an7 cd7 ct7),sl7⟩)
  (c7:codeIn K cd7 "Signs.many" = true)
  (k7:keepIn K (.ref f7)=true)
  (n7:isFn K (.ref f7)=true)
  (a8:findIn K (.ref C) "nought" = some (some (.ref f8)))
  (l8:K.lookup f8=some ⟨oc8,od8,.func (PySem.W.fnOf "nought" "Signs.nought" (cK dB) (bX dB) (aH dB) .none kV8 dc8 pm8 an8 cd8 ct8),sl8⟩)
  (c8:codeIn K cd8 "Signs.nought" = true)
  (k8:keepIn K (.ref f8)=true)
  (n8:isFn K (.ref f8)=true)
  (a9:bR K "is_wish" hZ f9)
  (a10:bR K "is_built" jS f10)
  (a11:bR K "check_term" fM f11)
  (a12:bR K "walked" nQ f12)
  (a13:bR K "order_mark" gZ f13)
  (a14:bR K "order_key" gJ f14)
  (a15:bR K "opened" nS f15)
  (a16:bR K "flat_sum" jU f16)
  (a17:bR K "flat_of_parts" fA f17)
  (a18:bR K "from_within" dI f18)
  (a19:nsIn K mainGlobals "put_in" = some (some (.ref f19)))
  (l19:K.lookup f19=some ⟨oc19,od19,.func (PySem.W.fnOf "put_in" "put_in" (cK cT) (bX cT) (aH cT) .none kV19 dc19 pm19 an19 (.ref cc) ct19),sl19⟩)
  (c19:codeIn K (.ref cc) "put_in" = true)
  (k19:keepIn K (.ref f19)=true)
  (t2:K.lookup cc=some ⟨ocq,odq,.fields vq,slq⟩)
  (t3:vq[11]?=some (.ref Pt))
  (t0:tabIn K "put_in" = some (cc,Pt))
  (t1:K.lookup Pt=none)
  (a20:bR K "flat" wD f20)
  (a21:bR K "flat_key" jV f21)
  (a22:bR K "alike" qU f22)
  (a23:bR K "is_name" jG f23)
  (a24:bR K "is_whole" jR f24)
  (a25:bR K "checked_pairs" dX f25)
  (a26:bR K "check_names" d5 f26)
  (a27:bR K "check_parts" eW f27)
  (a28:bR K "check_noughts" dY f28)
  (a29:findIn K (.ref C) "__init__" = some (some (.ref f29)))
  (l29:K.lookup f29=some ⟨oc29,od29,.func (PySem.W.fnOf "__init__" "Signs.__init__" (cK bY) (bX bY) (aH bY) .none kV29 dc29 pm29 an29 cd29 ct29),sl29⟩)
  (c29:codeIn K cd29 "Signs.__init__" = true)
  (k29:keepIn K (.ref f29)=true)
  (n29:isFn K (.ref f29)=true)
  (a30:bR K "leaves" kT f30)
  (a31:bR K "wishes" kR f31)
  (a32:bR K "_law_leaves" d8 f32)
  (a33:bR K "pieces" nR f33)
  (a34:bR K "write" qT f34)
  (a35:bR K "unbracketed" gC f35)
  (a36:bR K "is_term" lI f36)
  (a37:bR K "read" wC f37)
  (a38:bR K "_law_written" dA f38)
  (a39:bR K "in_pairs" jT f39)
  (a40:nsIn K mainGlobals "paired" = some (some (.ref f40)))
  (l40:K.lookup f40=some ⟨oc40,od40,.func (PySem.W.fnOf "paired" "paired" (cK cU) (bX cU) (aH cU) .none kV40 dc40 pm40 an40 (.ref cc2) ct40),sl40⟩)
  (c40:codeIn K (.ref cc2) "paired" = true)
  (k40:keepIn K (.ref f40)=true)
  (t6:K.lookup cc2=some ⟨ocr,odr,.fields vr,slr⟩)
  (t7:vr[11]?=some (.ref Pp))
  (t4:tabIn K "paired" = some (cc2,Pp))
  (t5:K.lookup Pp=none)
  (t8:(Pt == Pp)=false)
  (a41:bR K "_law_paired" dJ f41)
  (a42:bR K "_law_listed" dL f42)
  (a43:bR K "_law_told_again" dE f43)
  (a44:bR K "law" pT f44)
  (g1:plainGet K C Str.empty=true)
  (g2:hasDictIn K C=true)
  (g3:plainOver K C=true)
  (g4:findIn K (.ref C) "__setattr__" = some (some (.builtin "object.__setattr__")))
  (h0:findIn K (.ref C) "fixed_rows" = some none)
  (h1:findIn K (.ref C) "sum_rows" = some none)
  (h2:findIn K (.ref C) "many_by_name" = some none)
  (h3:findIn K (.ref C) "nought_by_name" = some none)
  (g5:makesIn K C=true)
  (g6:keepIn K (.ref C)=true)
  (v0:nsIn K mainGlobals "WISH_SIGNS" = some (some (.str "abcdefghijklmnopqrstuvwxyz0123456789" tk0)))
  (v1:nsIn K mainGlobals "LETTERS" = some (some (.str "abcdefghijklmnopqrstuvwxyz" tk1)))
  (v2:nsIn K mainGlobals "LONGEST_WISH" = some (some (.int 9 tk2)))
  (v3:nsIn K mainGlobals "DEEPEST" = some (some (.int 1000 tk3)))
  (v4:nsIn K mainGlobals "LONGEST_NAME" = some (some (.int 6 tk4)))
  (v5:nsIn K mainGlobals "MOST_FIXED" = some (some (.int 12 tk5)))
  (v6:nsIn K mainGlobals "MOST_SUMS" = some (some (.int 3 tk6)))
  (v7:nsIn K mainGlobals "MOST_PARTS" = some (some (.int 3 tk7)))
  (z0:nsIn K mainGlobals "len" = some none)
  (z1:nsIn K mainGlobals "range" = some none)
  (z2:nsIn K mainGlobals "int" = some none)
  (z3:nsIn K mainGlobals "abs" = some none)
  (z4:nsIn K mainGlobals "min" = some none)
  (z5:nsIn K mainGlobals "max" = some none)
  (z6:nsIn K mainGlobals "tuple" = some none)
  (z7:nsIn K mainGlobals "list" = some none)
  (z8:nsIn K mainGlobals "dict" = some none)
  (z9:nsIn K mainGlobals "set" = some none)
  (z10:nsIn K mainGlobals "isinstance" = some none)
  (z11:nsIn K mainGlobals "str" = some none)
  (z12:nsIn K mainGlobals "bool" = some none)
  (z13:nsIn K mainGlobals "sorted" = some none)
  (z14:nsIn K mainGlobals "reversed" = some none)
  (z15:nsIn K mainGlobals "all" = some none)
  (z16:nsIn K mainGlobals "any" = some none)
  (z17:nsIn K mainGlobals "zip" = some none)
  (z18:nsIn K mainGlobals "repr" = some none)
  : ∃(fd:FuncData) (c Pt c2 Pp:Addr),tabIn K "put_in" = some (c,Pt)/\K.lookup Pt=none/\tabIn K "paired" = some (c2,Pp)/\K.lookup Pp=none/\Pt≠Pp/\(∀(s:Shared) (v:Value),BindsTo s fd ⟨[v],[]⟩ [("_law_script",v)]) /\
   ∀base:Heap,K.In base->base.Ns mainGlobals mg->Bm mg base->(∀h,K.In h->CodeHd h c Pt)->(∀h,K.In h->CodeHd h c2 Pp)->bN l.prog w K mg base bH 54 fa fd ["_law_script"] (v8 K Pt Pp):=by
 obtain⟨⟨a44,k44⟩,_,_,kV44,dc44,pm44,an44,cd44,ct44,_,l44,c44⟩:=a44;have e:=hfa.symm.trans (cy X G a44);cases e;have T:Txt mg:=⟨cz X G z0,cz X G z1,cz X G z2,cz X G z3,cz X G z4,cz X G z5,cz X G z6,cz X G z7,cz X G z8,cz X G z9,cz X G z10,cz X G z11,cz X G z12,cz X G z13,cz X G z14,cz X G z15,cz X G z16,cz X G z17,cz X G z18,⟨_,cy X G v0,⟨_,rfl⟩⟩,⟨_,cy X G v1,⟨_,rfl⟩⟩,⟨_,cy X G v2,⟨_,rfl⟩⟩,⟨_,cy X G v3,⟨_,rfl⟩⟩,⟨_,cy X G v4,⟨_,rfl⟩⟩,⟨_,cy X G v5,⟨_,rfl⟩⟩,⟨_,cy X G v6,⟨_,rfl⟩⟩,⟨_,cy X G v7,⟨_,rfl⟩⟩⟩
 have hm_NoTerm:=cy X G e0;have hx_NoTerm:AS K C_NoTerm:=x0;have cl:HJ K C:=⟨g1,g2,g3,g4⟩
 have co:OP K C:=⟨cl,h0,h1,h2,h3⟩
 have F7:=lA (st:=dR) l7 c7 k7;have b7:=F7.binds (ps:=j7) λ_ _ _ _ _ _ us a=>by apply len2 a;intros;rfl
 have F8:=lA (st:=dB) l8 c8 k8;have b8:=F8.binds (ps:=iG) λ_ _ _ _ _ _ us a=>by apply len2 a;intros;rfl
 have F19:=lA (st:=cT) l19 c19 k19;have b19:=F19.binds (ps:=tB) λ_ _ _ _ _ _ us a=>by apply len3 a;intros;rfl
 have F29:=lA (st:=bY) l29 c29 k29;have b29:=F29.binds (ps:=fY) λ_ _ _ _ _ _ us a=>by apply len3 a;intros;rfl
 have F40:=lA (st:=cU) l40 c40 k40;have b40:=F40.binds (ps:=tD) λ_ _ _ _ _ _ us a=>by apply len2 a;intros;rfl
 have F44:=lA (st:=pT) l44 c44 k44;refine⟨PySem.W.fnOf "law" "law" (cK pT) (bX pT) (aH pT) .none kV44 dc44 pm44 an44 cd44 ct44,cc,Pt,cc2,Pp,t0,t1,t4,t5,(λz=>by rw[z]at t8;simp at t8),λs v=>.of_eq rfl,λbase _ _ hB hC hC2=>?_⟩;have O__law_from:=a1.own (base:=base) (P:=l.prog) (w:=w) X G (λ_ F=>M5 F T) (λ_ _ _ _ _ _ _ a=>by apply len1 a;intros;rfl);have f:=a2.own (base:=base) (P:=l.prog) (w:=w) X G (λ_ F=>MV F T) (λ_ _ _ _ _ _ _ a=>by apply len2 a;intros;rfl);have U:=a3.own X G (λ_ F=>JP F T f) (λ_ _ _ _ _ _ _ a=>by apply len1 a;intros;rfl);have O__law_leaf:=a4.own X G (λ_ F=>M0 F T f) (λ_ _ _ _ _ _ _ a=>by apply len2 a;intros;rfl);have O__law_head:=a5.own X G (λ_ F=>M4 F T f) (λ_ _ _ _ _ _ _ a=>by apply len3 a;intros;rfl);have O__law_term:=a6.use X G (λ_ F m k b=>JE F T f O__law_leaf O__law_head m k b 11) (λ_ _ _ _ _ _ _ a=>by apply len4 a;intros;rfl);have Y:C4 l.prog w K mg base bH 1 C "many" (A7 K C):=⟨f7,_,_,MZ F7 T,⟨a7,n7,k7⟩,b7,cl⟩
 have g:C4 l.prog w K mg base bH 1 C "nought" (kJ K C):=⟨f8,_,_,GF F8 T,⟨a8,n8,k8⟩,b8,cl⟩
 have H:=a9.own (base:=base) (P:=l.prog) (w:=w) X G (λ_ F=>MT F T) (λ_ _ _ _ _ _ _ a=>by apply len1 a;intros;rfl);have O_is_built:=a10.own X G (λ_ F=>JW F T H Y g) (λ_ _ _ _ _ _ _ a=>by apply len2 a;intros;rfl);have d:=a11.own X G (λ_ F=>JV F T O_is_built) (λ_ _ _ _ _ _ _ a=>by apply len2 a;intros;rfl);have i:=a12.own (base:=base) (P:=l.prog) (w:=w) X G (λ_ F=>GC F T) (λ_ _ _ _ _ _ _ a=>by apply len1 a;intros;rfl);have S:=a13.own (base:=base) (P:=l.prog) (w:=w) X G (λ_ F=>MY F T) (λ_ _ _ _ _ _ _ a=>by apply len1 a;intros;rfl);have o:=a14.own X G (λ_ F=>P4 F T S i) (λ_ _ _ _ _ _ _ a=>by apply len1 a;intros;rfl);have O_opened:=a15.own (base:=base) (P:=l.prog) (w:=w) X G (λ_ F=>BR F T) (λ_ _ _ _ _ _ _ a=>by apply len2 a;intros;rfl);have O_flat_sum:=a16.own X G (λ_ F=>BV F T O_opened o) (λ_ _ _ _ _ _ _ a=>by apply len3 a;intros;rfl);have r:=a17.own X G (λ_ F=>BS F T g O_flat_sum) (λ_ _ _ _ _ _ _ a=>by apply len3 a;intros;rfl);have J:=a18.own X G (λ_ F=>RE F T i r) (λ_ _ _ _ _ _ _ a=>by apply len3 a;intros;rfl);have O_put_in:dM l.prog w K mg base bH 9 "put_in" (vZ K C Pt):=⟨f19,_,_,JQ l19 c19 hC hB J,cy X G a19,k19,b19⟩
 have O_flat:=a20.own X G (λ_ F=>JU F T d O_put_in) (λ_ _ _ _ _ _ _ a=>by apply len2 a;intros;rfl);have O_flat_key:=a21.own X G (λ_ F=>M6 F T O_flat o) (λ_ _ _ _ _ _ _ a=>by apply len2 a;intros;rfl);have O_alike:=a22.own X G (λ_ F=>JX F T O_flat_key) (λ_ _ _ _ _ _ _ a=>by apply len3 a;intros;rfl);have O_is_name:=a23.own (base:=base) (P:=l.prog) (w:=w) X G (λ_ F=>MX F T) (λ_ _ _ _ _ _ _ a=>by apply len1 a;intros;rfl);have O_is_whole:=a24.own (base:=base) (P:=l.prog) (w:=w) X G (λ_ F=>JO F T) (λ_ _ _ _ _ _ _ a=>by apply len1 a;intros;rfl);have u:=a25.own (base:=base) (P:=l.prog) (w:=w) X G (λ_ F=>JS F T) (λ_ _ _ _ _ _ _ a=>by apply len3 a;intros;rfl);have N:=a26.own X G (λ_ F=>GG F T O_is_name) (λ_ _ _ _ _ _ _ a=>by apply len1 a;intros;rfl);have L:=a27.own X G (λ_ F=>JR F T O_is_whole) (λ_ _ _ _ _ _ _ a=>by apply len1 a;intros;rfl);have x:=a28.own (base:=base) (P:=l.prog) (w:=w) X G (λ_ F=>yT F T) (λ_ _ _ _ _ _ _ a=>by apply len2 a;intros;rfl);have q:Q0 l.prog w K mg base bH 3 "Signs" C (A8 K C):=⟨f29,_,_,M3 F29 T co u N L x,cy X G m0,⟨g5,a29,n29,g6⟩,b29⟩
 have O_leaves:=a30.own X G (λ_ F=>GI F T d i) (λ_ _ _ _ _ _ _ a=>by apply len2 a;intros;rfl);have O_wishes:=a31.own X G (λ_ F=>GB F T d i H) (λ_ _ _ _ _ _ _ a=>by apply len2 a;intros;rfl);have R:=a32.use X G (λ_ F m k b=>yS (base:=base) (P:=l.prog) (w:=w) F T m k b 11) (λ_ _ _ _ _ _ _ a=>by apply len1 a;intros;rfl);have O_pieces:=a33.own (base:=base) (P:=l.prog) (w:=w) X G (λ_ F=>GD F T) (λ_ _ _ _ _ _ _ a=>by apply len1 a;intros;rfl);have O_write:=a34.own X G (λ_ F=>JN F T d O_pieces) (λ_ _ _ _ _ _ _ a=>by apply len2 a;intros;rfl);have E:=a35.own (base:=base) (P:=l.prog) (w:=w) X G (λ_ F=>P2 F T) (λ_ _ _ _ _ _ _ a=>by apply len1 a;intros;rfl);have I:=a36.own X G (λ_ F=>GJ F T hm_NoTerm hx_NoTerm d) (λ_ _ _ _ _ _ _ a=>by apply len2 a;intros;rfl);have O_read:=a37.own X G (λ_ F=>MW F T E I) (λ_ _ _ _ _ _ _ a=>by apply len2 a;intros;rfl);have B:=a38.use X G (λ_ F m k b=>yR (base:=base) (P:=l.prog) (w:=w) F T m k b 50) (λ_ _ _ _ _ _ _ a=>by apply len1 a;intros;rfl);have O_in_pairs:=a39.own X G (λ_ F=>BU F T g) (λ_ _ _ _ _ _ _ a=>by apply len3 a;intros;rfl);have A:=a18.own X G (λ_ F=>P5 F T i O_in_pairs) (λ_ _ _ _ _ _ _ a=>by apply len3 a;intros;rfl);have Z:dM l.prog w K mg base bH 9 "paired" (nF K C Pp):=⟨f40,_,_,GE l40 c40 hC2 hB d A,cy X G a40,k40,b40⟩
 have O:=a41.use X G (λ_ F m k b=>F5 (base:=base) (P:=l.prog) (w:=w) F T m k b 11) (λ_ _ _ _ _ _ _ a=>by apply len2 a;intros;rfl);have Q:=a42.use X G (λ_ F m k b=>BM (base:=base) (P:=l.prog) (w:=w) F T m k b 11) (λ_ _ _ _ _ _ _ a=>by apply len1 a;intros;rfl);have j:=a43.own X G (λ_ F=>JY F T Z I O_flat R O_leaves O_wishes O_write B O_read) (λ_ _ _ _ _ _ _ a=>by apply len3 a;intros;rfl);exact P3 F44 T O__law_from f U q O__law_term O Q Z O_alike j
end Lw
open PySem PySem.W PyProof.Rows
set_option maxRecDepth 100000 in
set_option maxHeartbeats 0 in
theorem PySem.Challenge.cw_likefill_k31_paired_holds : PySem.Challenge.rw_likefill_k31_paired.Holds := by
 obtain⟨d,hdf,hn,k⟩:=Lw.red;refine k ?_
 k_fill
 refine Lw.OU (l:=PySem.Challenge.rw_likefill_k31_paired) rfl hdf (λw h Y=>Y) rfl rfl ?F
 case F =>
  intro w mg fa h KX G hmg;rw[hn]at hmg
  refine' Lw.QS KX G hmg ?_ ?_ ?x0 ?_ ?_ ?_ ?_ ?_ ?_ ?_ ?_ ?_ ?_ ?_ ?_ ?_ ?_ ?_ ?_ ?_ ?_ ?_ ?_ ?_ ?_ ?_ ?_ ?_ ?_ ?_ ?_ ?_ ?_ ?_ ?t3 ?t0 ?t1 ?_ ?_ ?_ ?_ ?_ ?_ ?_ ?_ ?_ ?_ ?_ ?_ ?_ ?_ ?_ ?_ ?_ ?_ ?_ ?_ ?_ ?_ ?_ ?_ ?_ ?_ ?_ ?_ ?_ ?t7 ?t4 ?t5 ?t8 ?_ ?_ ?_ ?_ ?_ ?_ ?_ ?_ ?_ ?_ ?_ ?_ ?_ ?_ ?_ ?_ ?_ ?_ ?_ ?_ ?_ ?_ ?_ ?_ ?_ ?_ ?_ ?_ ?_ ?_ ?_ ?_ ?_ ?_ ?_ ?_ ?_ ?_ ?_ ?_ ?_
  all_goals try first|(refine' Lw.bR.mk ?_ ?_ ?_ ?_ <;> try k_is)|k_is
  (case t3=>rfl);(case t7=>rfl);(case t4=>kernel_rfl);(case t5=>kernel_rfl);(case t8=>kernel_rfl);(case t0=>kernel_rfl);(case t1=>kernel_rfl);(case x0=>k_exc)
end
