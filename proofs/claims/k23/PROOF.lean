import PyProof.Rows.All
import Wide.All
import OpenK.AllK
import Wide.FinOn
import Lean
import PyProof.EqAt
import PyProof.EqKinds
import PyProof.TupleCall
import PyProof.NeKinds
import KE.LcSums
import PyProof.ZipIter
import PyProof.Rows.SumAny
import PyProof.ExcClass3
import PyProof.ExcBaseAll.ValueError
import OpenK.KOwn
import PyProof.EnumFor
import PyProof.EnumMake
import PyProof.TupleIter
import KE.KIsAll
import PyProof.ExcArgsOwn
import PyProof.NsDelKeeps
import KE.KDictOf
import PyProof.AttrMissHeap
import PyProof.AutoSeq1
import KE.KRevIter
import PyProof.TupleOfSeq
import PyProof.CollectIter
import PyProof.TupleOfStr
import PyProof.SliceStr2
import PyProof.StrWalks
import KE.KSortTup
import PyProof.Rows.SortRuns
import PyProof.Rows.SetFrom
import PyProof.ReprRoads
import PyProof.CallFns
import PyProof.DictItemsLoops
import KE.KPairComp
import PyProof.DictWalks
import KE.KDictList
import KE.KEqDict
import PyProof.Rows.DictMethods
import PyProof.AutoListH
import PyProof.ReprLen
import PyProof.StrCalls2
import PyProof.StrBlock
import PyProof.Rows.StrKeys3
import PyProof.Rows.CountFlat
import KE.KLam
import PySem.Challenge.RW_likefill_k23_whole_further
set_option Elab.async false
set_option linter.all false
set_option maxRecDepth 100000
set_option compiler.extract_closed false
set_option bootstrap.genMatcherCode false
set_option maxHeartbeats 4000000
abbrev d7:=@PyProof.Rows.wpS_lift
abbrev d6:=@PyProof.Rows.wpS_pure
abbrev dV:=@PyProof.Rows.wpS_bind
abbrev dz:=PySem.Around
abbrev dy:=PySem.World
abbrev dw:=PySem.Program
abbrev dv:=PySem.Value
abbrev du:=PySem.Shared
abbrev dq:=PySem.W.Frag
open Lean Parser.Term in
local macro_rules
  | `(fun $bs:funBinder* => $b) => do
    let c (x : Syntax) := x.isOfKind ``anonymousCtor
    let some i := bs.findIdx? (c ·.raw) | Macro.throwUnsupported
    let xs := bs[i]!.raw[1].getSepArgs
    let n := xs.size
    if n < 3 || xs.any (fun x => !(x.isIdent || x.isOfKind ``hole || c x) || x.getId == `rfl) then Macro.throwUnsupported
    let mut r := b
    if i + 1 < bs.size then r ← `(fun $(bs.extract (i+1) bs.size)* => $b)
    let mut g : TSyntax ``funBinder := ⟨xs[n-1]!⟩
    for k in [0:n-1] do
      let h := mkIdent (← Macro.addMacroScope (.mkSimple s!"h{k}"))
      r ← `(($h).elim fun $(⟨xs[n-2-k]!⟩) $g => clear% $h; $r)
      g := ⟨h⟩
    `(fun $(bs.extract 0 i)* $g => $r)
abbrev aa:=@PySem.wpAny_bind
abbrev ab:=@if_neg
abbrev ac:=@Nat.le_refl
abbrev ae:=@List.length_map
abbrev af:=@PySem.Heap.get?_push_of_some
abbrev ag:=@List.size_toArray
abbrev ai:=@if_pos
abbrev aj:=@Nat.lt_of_le_of_lt
abbrev ak:=@PySem.wpAny_pure
abbrev ao:=@Nat.le_trans
abbrev aq:=@List.length_cons
abbrev au:=@List.length_append
abbrev av:=@PySem.Heap.get?_push_size
abbrev aw:=@Nat.zero_le
abbrev ax:=@List.mem_cons_self
abbrev ay:=@List.getElem?_eq_getElem
abbrev az:=@List.map_append
abbrev ba:=@List.mem_cons_of_mem
abbrev bc:=@PySem.Heap.lt_size
abbrev bf:=@List.map_cons
abbrev bg:=@Nat.lt_of_lt_of_le
abbrev bh:=@PySem.wpAny_loadPart'
abbrev bi:=@decide_eq_true
abbrev bj:=@List.mem_of_getElem?
abbrev bo:=@decide_eq_false
abbrev bp:=@List.append_nil
abbrev bq:=@Nat.ne_of_lt
abbrev br:=@Array.length_toList
abbrev bu:=@of_decide_eq_true
abbrev bv:=@List.length_take
abbrev bw:=@List.take_length
abbrev bx:=@List.length_drop
abbrev bz:=@List.mem_append_right
abbrev bS:=@List.getElem?_map
abbrev ca:=@Nat.add_le_add_left
abbrev cb:=@List.lookup_cons
abbrev cf:=@Nat.lt_irrefl
abbrev cg:=@Bool.eq_iff_iff
abbrev ci:=@PySem.wpAny_newObj_type
abbrev cj:=@List.mem_append_left
abbrev ck:=@PySem.wpAny_holding
abbrev cm:=@List.length_singleton
abbrev cp:=@List.map_map
abbrev cq:=@List.append_assoc
abbrev cr:=@Int.toNat_natCast
abbrev cs:=@List.getElem?_eq_some_iff
abbrev cu:=@List.mem_singleton
abbrev cw:=@List.mem_cons
abbrev cx:=@List.mem_append
abbrev cy:=@List.mem_map
abbrev cz:=@beq_eq_false_iff_ne
abbrev da:=@List.nodup_cons
abbrev db:=@List.mem_filter
abbrev dc:=@PySem.W.mg_of
abbrev de:=@PySem.W.mg_none_of
abbrev df:=@PySem.F.plainAttrs_list
abbrev dg:=@PySem.F.type_list_append
abbrev dh:=@PySem.F.slot_list_append
abbrev dj:=@PySem.PassesOwn.never
abbrev dD:=List (PySem.Addr×PySem.Obj)
abbrev cM:=PySem.Value->PySem.Shared->Prop
abbrev cU:=List (PySem.Str×Int)
abbrev cC:=List (PySem.Str×PySem.Str)
abbrev cX:=List PySem.Value
abbrev aV:=List PySem.Str
abbrev jS:=PySem.Str->Option PySem.Value
abbrev pV:=List PySem.Expr
abbrev pU:=Array PySem.Value
abbrev PZ:=Nat->PySem.Heap->Prop
def ad {p:Prop}(h:p:=by decide):p:=h
def dk {p:Prop}(h:p:=by lia):p:=h
def dl {p:Prop}(h:p:=by simp):p:=h
def aI {a b:Prop}(x:a)(y:b):a/\b:=⟨x,y⟩
namespace L2
open PySem
noncomputable def CM (s:Stmt)(j:Nat):Stmt:=match s with
 | .ClassDef _ _ _ body _ _ _ _ _ _ _=>body.getD j (.Pass ⟨0,0,0,0⟩)
 | _=>.Pass ⟨0,0,0,0⟩
noncomputable def dP (s:Stmt):Arguments:=match s with
 | .FunctionDef _ a _ _ _ _ _ _ _ _=>a
 | _=>{posonlyargs:=[],args:=[],vararg:=none,kwonlyargs:=[],kw_defaults:=[],kwarg:=none,defaults:=[]}
noncomputable def cS (s:Stmt):List Stmt:=match s with
 | .FunctionDef _ _ b _ _ _ _ _ _ _=>b
 | _=>[]
noncomputable def aH (s:Stmt):Scope:=match s with
 | .FunctionDef _ _ _ _ _ _ c _ _ _=>c
 | _=>{kind:=.function,names:=[],isGenerator:=false,isCoroutine:=false}
end L2
namespace Lw
open PySem L2
noncomputable def top (i:Nat):Stmt:=PySem.Challenge.pw_likefill_k23_whole_further.main.body.getD i (.Pass ⟨0,0,0,0⟩)
noncomputable abbrev j6:Stmt:=top 41
noncomputable abbrev mG:Stmt:=top 42
noncomputable abbrev jZ:Stmt:=top 43
noncomputable abbrev jY:Stmt:=top 44
noncomputable abbrev i9:Stmt:=top 45
noncomputable abbrev fE:Stmt:=top 46
noncomputable abbrev iK:Stmt:=top 47
noncomputable abbrev iQ:Stmt:=top 48
noncomputable abbrev fG:Stmt:=top 49
noncomputable abbrev gG:Stmt:=top 50
noncomputable abbrev j4:Stmt:=top 51
noncomputable abbrev fH:Stmt:=top 52
noncomputable abbrev iL:Stmt:=top 53
noncomputable abbrev eY:Stmt:=top 54
noncomputable abbrev qK:Stmt:=top 61
noncomputable abbrev lN:Stmt:=top 9
noncomputable abbrev mE:Stmt:=top 10
noncomputable abbrev gQ:Stmt:=top 11
noncomputable abbrev qI:Stmt:=top 13
noncomputable abbrev i8:Stmt:=top 14
noncomputable abbrev iP:Stmt:=top 15
noncomputable abbrev qJ:Stmt:=top 16
noncomputable abbrev mF:Stmt:=top 17
noncomputable abbrev fZ:Stmt:=top 18
noncomputable abbrev fQ:Stmt:=top 19
noncomputable abbrev dA:Stmt:=top 20
noncomputable abbrev lO:Stmt:=top 34
noncomputable abbrev mC:Stmt:=top 35
noncomputable abbrev eI:Stmt:=top 36
noncomputable abbrev eM:Stmt:=top 37
noncomputable abbrev fR:Stmt:=top 38
noncomputable abbrev eJ:Stmt:=top 39
noncomputable abbrev cN:Stmt:=CM (top 33) 0
noncomputable abbrev eC:Stmt:=CM (top 33) 3
noncomputable abbrev dH:Stmt:=CM (top 33) 4
noncomputable abbrev oE:Stmt:=top 12
noncomputable abbrev gA:Stmt:=top 22
noncomputable abbrev eX:Stmt:=top 23
noncomputable abbrev fP:Stmt:=top 24
noncomputable abbrev qM:Stmt:=top 25
noncomputable abbrev lP:Stmt:=top 26
noncomputable abbrev jI:Stmt:=top 55
noncomputable abbrev gU:Stmt:=top 56
noncomputable abbrev j5:Stmt:=top 57
noncomputable abbrev gC:Stmt:=top 58
noncomputable abbrev gR:Stmt:=top 59
noncomputable abbrev eU:Stmt:=top 60
end Lw
namespace Lw
open PySem PySem.W L2
noncomputable def eO (P:Params)(x:Str)(t:Tok)(v:Value):DictEntry:=⟨PyData.keyHash P x,.str x t,v⟩
noncomputable def eR (P:Params)(x:Str)(t:Tok)(a:Addr):DictEntry:=eO P x t (.ref a)
noncomputable def dO (c:List DictEntry)(n:Nat):Obj:=⟨.type "dict",none,.dict c.toArray n,#[]⟩
noncomputable def fO (x q:Str)(st:Stmt)(m:Str)(t:Tok)(c:Addr):Obj:=⟨.type "function",none,.func (fnOf x q (dP st) (cS st) (aH st) .none .none .none (.str m t) none (.ref c) .none),#[]⟩
noncomputable def cO (x q:Str)(t1 d t3:Tok)(l n f:Int)(r1:Addr)(b:Bool)(i:Int)(g:Addr)(u v w:Value)(e:Addr)(h:Int)(c:Tok):Obj :=
 ⟨.type "code",none,.fields #[.str x t1,.str q d,.str "/claim/cut.py" t3,.int l 0,.int n 0,.int 0 0,.int 0 0,.int f 0,.ref r1,.bool b,.int i 0,.ref g,u,v,w,.ref e,.int h 0,.int l 0,.str "/claim/cut.py" c],#[]⟩
noncomputable def gO (x:Str)(st:Stmt)(m:Str)(t:Tok)(c:Addr):Obj:=fO x x st m t c
noncomputable def hO (x:Str)(t1 d t3:Tok)(l n f:Int)(r1:Addr)(b:Bool)(i:Int)(g:Addr)(u v w:Value)(e:Addr)(h:Int)(c:Tok):Obj:=cO x x t1 d t3 l n f r1 b i g u v w e h c
noncomputable def mO0:Str:="law_likefill_k23_whole_further"
noncomputable def mO1:Str:="likefill.fillings"
noncomputable def mO2:Str:="likefill.signs"
noncomputable def mO3:Str:="likefill.terms"
noncomputable def K0 (P:Params):PySem.W.Frag :=
 (nat_lit 3,dO [eO P "__name__" 165 (.str "law_likefill_k23_whole_further" 508),eO P "__doc__" 166 .none,eO P "__package__" 167 .none,eO P "__loader__" 168 (.builtin "__main__.__loader__#opaque"),eO P "__spec__" 169 .none,eR P "__annotations__" 170 6,eR P "__builtins__" 171 4,eO P "__file__" 173 (.str "/claim/cut.py" 172),eO P "__cached__" 174 .none,eR P "LikeError" 206 24,eR P "NoSigns" 222 37,eR P "NoTerm" 238 49,eR P "NoFilling" 254 61,eO P "WISH_SIGNS" 258 (.str "abcdefghijklmnopqrstuvwxyz0123456789" 257),eO P "LONGEST_WISH" 260 (.int 9 259),eO P "DEEPEST" 262 (.int 1000 261),eR P "is_wish" 268 68,eR P "is_built" 276 75,eR P "check_term" 282 80,eR P "is_term" 290 87,eR P "walked" 300 94,eR P "order_mark" 307 101,eR P "order_key" 313 106,eR P "opened" 321 113,eR P "flat_sum" 332 120,eR P "flat_of_parts" 342 127,eR P "from_within" 348 132,eR P "put_in" 358 139,eR P "check_filling" 370 146,eR P "without_idle" 376 151,eR P "looked_over" 382 156,eR P "filled" 392 163,eR P "further" 398 168,eO P "LETTERS" 402 (.str "abcdefghijklmnopqrstuvwxyz" 401),eO P "LONGEST_NAME" 404 (.int 6 403),eO P "MOST_FIXED" 406 (.int 12 405),eO P "MOST_SUMS" 408 (.int 3 407),eO P "MOST_PARTS" 410 (.int 3 409),eR P "Signs" 470 211,eR P "is_name" 476 220,eR P "is_whole" 483 227,eR P "checked_pairs" 489 232,eR P "check_names" 495 237,eR P "check_parts" 501 242,eR P "check_noughts" 507 247,eR P "_law_cell" 517 254,eR P "_law_pot" 526 261,eR P "_law_take" 535 268,eR P "_law_word" 545 275,eR P "_law_names" 557 282,eR P "_law_signs" 563 287,eR P "_law_wishes" 574 294,eR P "_law_leaf" 580 299,eR P "_law_heads" 586 304,eR P "_law_term" 604 311,eR P "_law_sort" 611 318,eR P "_law_ahead" 621 325,eR P "_law_opened" 632 332,eR P "_law_flat" 638 337,eR P "_law_own" 644 342,eR P "_law_filling" 656 349,eR P "_law_more" 664 356,eR P "_law_put" 670 361,eR P "_law_further" 682 368,eR P "_law_is_further" 696 375,eR P "law" 702 380] 66)::(nat_lit 23,dO [eO P "__module__" 196 (.str "likefill.errors" 187),eO P "__firstlineno__" 200 (.int 2 199),eR P "__static_attributes__" 201 22,eR P "__weakref__" 203 25,eO P "__doc__" 204 .none] 3)::(nat_lit 24,⟨.type "type",none,.cls ⟨"LikeError",[(.type "ValueError")],[(.ref 24),(.type "ValueError"),(.type "Exception"),(.type "BaseException"),(.type "object")],23,"LikeError",true,[],[(.ref 37),(.ref 49),(.ref 61)],false,none,false⟩,#[some (.ref 15),none,some (.str "LikeError" 189),some (.str "LikeError" 197),some (.builtin "ValueError.__new__"),some (.bool true)]⟩)::(nat_lit 36,dO [eO P "__module__" 214 (.str "likefill.errors" 187),eO P "__firstlineno__" 218 (.int 4 217),eR P "__static_attributes__" 219 35,eO P "__doc__" 220 .none] 2)::(nat_lit 37,⟨.type "type",none,.cls ⟨"NoSigns",[(.ref 24)],[(.ref 37),(.ref 24),(.type "ValueError"),(.type "Exception"),(.type "BaseException"),(.type "object")],36,"NoSigns",true,[],[],false,none,false⟩,#[some (.ref 28),none,some (.str "NoSigns" 207),some (.str "NoSigns" 215),some (.builtin "ValueError.__new__"),some (.bool true)]⟩)::(nat_lit 48,dO [eO P "__module__" 230 (.str "likefill.errors" 187),eO P "__firstlineno__" 234 (.int 6 233),eR P "__static_attributes__" 235 47,eO P "__doc__" 236 .none] 2)::(nat_lit 49,⟨.type "type",none,.cls ⟨"NoTerm",[(.ref 24)],[(.ref 49),(.ref 24),(.type "ValueError"),(.type "Exception"),(.type "BaseException"),(.type "object")],48,"NoTerm",true,[],[],false,none,false⟩,#[some (.ref 40),none,some (.str "NoTerm" 223),some (.str "NoTerm" 231),some (.builtin "ValueError.__new__"),some (.bool true)]⟩)::(nat_lit 60,dO [eO P "__module__" 246 (.str "likefill.errors" 187),eO P "__firstlineno__" 250 (.int 8 249),eR P "__static_attributes__" 251 59,eO P "__doc__" 252 .none] 2)::(nat_lit 61,⟨.type "type",none,.cls ⟨"NoFilling",[(.ref 24)],[(.ref 61),(.ref 24),(.type "ValueError"),(.type "Exception"),(.type "BaseException"),(.type "object")],60,"NoFilling",true,[],[],false,none,false⟩,#[some (.ref 52),none,some (.str "NoFilling" 239),some (.str "NoFilling" 247),some (.builtin "ValueError.__new__"),some (.bool true)]⟩)::(nat_lit 67,hO "is_wish" 263 264 265 14 1 3 64 true 181 65 .none .none .none 66 266 267)::(nat_lit 68,gO "is_wish" lN mO3 255 67)::(nat_lit 74,hO "is_built" 269 270 271 18 2 3 69 true 181 70 .none (.ref 71) (.ref 72) 73 274 275)::(nat_lit 75,gO "is_built" mE mO3 255 74)::(nat_lit 79,hO "check_term" 277 278 279 26 2 3 76 true 181 77 .none .none .none 78 280 281)::(nat_lit 80,gO "check_term" gQ mO3 255 79)::(nat_lit 86,hO "is_term" 283 284 285 34 2 3 81 true 181 82 .none (.ref 83) (.ref 84) 85 288 289)::(nat_lit 87,gO "is_term" oE mO3 255 86)::(nat_lit 93,hO "walked" 291 292 293 40 1 3 88 true 181 89 .none (.ref 90) (.ref 91) 92 298 299)::(nat_lit 94,gO "walked" qI mO3 255 93)::(nat_lit 100,hO "order_mark" 301 302 303 49 1 3 95 true 181 96 .none (.ref 97) (.ref 98) 99 305 306)::(nat_lit 101,gO "order_mark" i8 mO3 255 100)::(nat_lit 105,hO "order_key" 308 309 310 53 1 3 102 true 181 103 .none .none .none 104 311 312)::(nat_lit 106,gO "order_key" iP mO3 255 105)::(nat_lit 112,hO "opened" 314 315 316 57 2 3 107 true 181 108 .none (.ref 109) (.ref 110) 111 319 320)::(nat_lit 113,gO "opened" qJ mO3 255 112)::(nat_lit 119,hO "flat_sum" 322 323 324 61 3 3 114 true 181 115 .none (.ref 116) (.ref 117) 118 330 331)::(nat_lit 120,gO "flat_sum" mF mO3 255 119)::(nat_lit 126,hO "flat_of_parts" 333 334 335 71 3 3 121 true 181 122 .none (.ref 123) (.ref 124) 125 340 341)::(nat_lit 127,gO "flat_of_parts" fZ mO3 255 126)::(nat_lit 131,hO "from_within" 343 344 345 76 3 3 128 true 181 129 .none .none .none 130 346 347)::(nat_lit 132,gO "from_within" fQ mO3 255 131)::(nat_lit 138,hO "put_in" 349 350 351 85 3 3 133 true 181 134 .none (.ref 135) (.ref 136) 137 356 357)::(nat_lit 139,gO "put_in" dA mO3 255 138)::(nat_lit 145,hO "check_filling" 361 362 363 88 2 3 140 true 181 141 .none (.ref 142) (.ref 143) 144 368 369)::(nat_lit 146,gO "check_filling" gA mO1 359 145)::(nat_lit 150,hO "without_idle" 371 372 373 96 1 3 147 true 181 148 .none .none .none 149 374 375)::(nat_lit 151,gO "without_idle" eX mO1 359 150)::(nat_lit 155,hO "looked_over" 377 378 379 98 2 3 152 true 181 153 .none .none .none 154 380 381)::(nat_lit 156,gO "looked_over" fP mO1 359 155)::(nat_lit 162,hO "filled" 383 384 385 101 3 3 157 true 181 158 .none (.ref 159) (.ref 160) 161 390 391)::(nat_lit 163,gO "filled" qM mO1 359 162)::(nat_lit 167,hO "further" 393 394 395 105 3 3 164 true 181 165 .none .none .none 166 396 397)::(nat_lit 168,gO "further" lP mO1 359 167)::(nat_lit 179,cO "__init__" "Signs.__init__" 423 424 425 119 3 3 176 true 181 177 .none .none .none 178 426 427)::(nat_lit 180,fO "__init__" "Signs.__init__" cN "likefill.signs" 399 179)::(nat_lit 200,cO "many" "Signs.many" 443 444 445 136 2 3 195 true 181 196 .none (.ref 197) (.ref 198) 199 448 449)::(nat_lit 201,fO "many" "Signs.many" eC "likefill.signs" 399 200)::(nat_lit 207,cO "nought" "Signs.nought" 451 452 453 139 2 3 202 true 181 203 .none (.ref 204) (.ref 205) 206 456 457)::(nat_lit 208,fO "nought" "Signs.nought" dH "likefill.signs" 399 207)::(nat_lit 210,dO [eO P "__module__" 418 (.str "likefill.signs" 399),eO P "__firstlineno__" 422 (.int 117 421),eR P "__init__" 428 180,eR P "fixed" 435 187,eR P "sums" 442 194,eR P "many" 450 201,eR P "nought" 458 208,eR P "__static_attributes__" 463 209,eR P "__dict__" 465 212,eR P "__weakref__" 467 213,eO P "__doc__" 468 .none] 4)::(nat_lit 211,⟨.type "type",none,.cls ⟨"Signs",[(.type "object")],[(.ref 211),(.type "object")],210,"Signs",true,[],[],false,none,false⟩,#[none,none,some (.str "Signs" 411),some (.str "Signs" 419),some (.builtin "object.__new__"),some (.bool true)]⟩)::(nat_lit 219,hO "is_name" 471 472 473 141 1 3 216 true 181 217 .none .none .none 218 474 475)::(nat_lit 220,gO "is_name" lO mO2 399 219)::(nat_lit 226,hO "is_whole" 477 478 479 145 1 3 221 true 181 222 .none (.ref 223) (.ref 224) 225 481 482)::(nat_lit 227,gO "is_whole" mC mO2 399 226)::(nat_lit 231,hO "checked_pairs" 484 485 486 147 3 3 228 true 181 229 .none .none .none 230 487 488)::(nat_lit 232,gO "checked_pairs" eI mO2 399 231)::(nat_lit 236,hO "check_names" 490 491 492 154 1 3 233 true 181 234 .none .none .none 235 493 494)::(nat_lit 237,gO "check_names" eM mO2 399 236)::(nat_lit 241,hO "check_parts" 496 497 498 160 1 3 238 true 181 239 .none .none .none 240 499 500)::(nat_lit 242,gO "check_parts" fR mO2 399 241)::(nat_lit 246,hO "check_noughts" 502 503 504 166 2 3 243 true 181 244 .none .none .none 245 505 506)::(nat_lit 247,gO "check_noughts" eJ mO2 399 246)::(nat_lit 253,hO "_law_cell" 510 511 512 174 2 3 248 true 181 249 .none (.ref 250) (.ref 251) 252 515 516)::(nat_lit 254,gO "_law_cell" j6 mO0 508 253)::(nat_lit 260,hO "_law_pot" 518 519 520 178 2 3 255 true 181 256 .none (.ref 257) (.ref 258) 259 524 525)::(nat_lit 261,gO "_law_pot" mG mO0 508 260)::(nat_lit 267,hO "_law_take" 527 528 529 181 2 3 262 true 181 263 .none (.ref 264) (.ref 265) 266 533 534)::(nat_lit 268,gO "_law_take" jZ mO0 508 267)::(nat_lit 274,hO "_law_word" 536 537 538 188 2 3 269 true 181 270 .none (.ref 271) (.ref 272) 273 543 544)::(nat_lit 275,gO "_law_word" jY mO0 508 274)::(nat_lit 281,hO "_law_names" 546 547 548 194 2 3 276 true 181 277 .none (.ref 278) (.ref 279) 280 555 556)::(nat_lit 282,gO "_law_names" i9 mO0 508 281)::(nat_lit 286,hO "_law_signs" 558 559 560 203 1 3 283 true 181 284 .none .none .none 285 561 562)::(nat_lit 287,gO "_law_signs" fE mO0 508 286)::(nat_lit 293,hO "_law_wishes" 564 565 566 217 1 3 288 true 181 289 .none (.ref 290) (.ref 291) 292 572 573)::(nat_lit 294,gO "_law_wishes" iK mO0 508 293)::(nat_lit 298,hO "_law_leaf" 575 576 577 225 3 3 295 true 181 296 .none .none .none 297 578 579)::(nat_lit 299,gO "_law_leaf" iQ mO0 508 298)::(nat_lit 303,hO "_law_heads" 581 582 583 229 2 3 300 true 181 301 .none .none .none 302 584 585)::(nat_lit 304,gO "_law_heads" fG mO0 508 303)::(nat_lit 310,hO "_law_term" 587 588 589 234 5 3 305 true 181 306 .none (.ref 307) (.ref 308) 309 602 603)::(nat_lit 311,gO "_law_term" gG mO0 508 310)::(nat_lit 317,hO "_law_sort" 605 606 607 248 1 3 312 true 181 313 .none (.ref 314) (.ref 315) 316 609 610)::(nat_lit 318,gO "_law_sort" j4 mO0 508 317)::(nat_lit 324,hO "_law_ahead" 612 613 614 252 2 3 319 true 181 320 .none (.ref 321) (.ref 322) 323 619 620)::(nat_lit 325,gO "_law_ahead" fH mO0 508 324)::(nat_lit 331,hO "_law_opened" 622 623 624 265 3 3 326 true 181 327 .none (.ref 328) (.ref 329) 330 630 631)::(nat_lit 332,gO "_law_opened" iL mO0 508 331)::(nat_lit 336,hO "_law_flat" 633 634 635 273 2 3 333 true 181 334 .none .none .none 335 636 637)::(nat_lit 337,gO "_law_flat" eY mO0 508 336)::(nat_lit 341,hO "_law_own" 639 640 641 289 3 3 338 true 181 339 .none .none .none 340 642 643)::(nat_lit 342,gO "_law_own" jI mO0 508 341)::(nat_lit 348,hO "_law_filling" 645 646 647 298 3 3 343 true 181 344 .none (.ref 345) (.ref 346) 347 654 655)::(nat_lit 349,gO "_law_filling" gU mO0 508 348)::(nat_lit 355,hO "_law_more" 657 658 659 307 1 3 350 true 181 351 .none (.ref 352) (.ref 353) 354 662 663)::(nat_lit 356,gO "_law_more" j5 mO0 508 355)::(nat_lit 360,hO "_law_put" 665 666 667 310 2 3 357 true 181 358 .none .none .none 359 668 669)::(nat_lit 361,gO "_law_put" gC mO0 508 360)::(nat_lit 367,hO "_law_further" 671 672 673 314 3 3 362 true 181 363 .none (.ref 364) (.ref 365) 366 680 681)::(nat_lit 368,gO "_law_further" gR mO0 508 367)::(nat_lit 374,hO "_law_is_further" 683 684 685 321 5 3 369 true 181 370 .none (.ref 371) (.ref 372) 373 694 695)::(nat_lit 375,gO "_law_is_further" eU mO0 508 374)::(nat_lit 379,hO "law" 697 698 699 331 1 3 376 true 181 377 .none .none .none 378 700 701)::(nat_lit 380,gO "law" qK mO0 508 379)::[]
noncomputable def as0:List Addr:=[3,23,24,36,37,48,49,60,61,67,68,74,75,79,80,86,87,93,94,100,101,105,106,112,113,119,120,126,127,131,132,138,139,145,146,150,151,155,156,162,163,167,168,179,180,200,201,207,208,210,211,219,220,226,227,231,232,236,237,241,242,246,247,253,254,260,261,267,268,274,275,281,282,286,287,293,294,298,299,303,304,310,311,317,318,324,325,331,332,336,337,341,342,348,349,355,356,360,361,367,368,374,375,379,380]
noncomputable def without (ks:List Nat):Nat->List Stmt->List Stmt
 | _,[]=>[]
 | i,s::r=>if i∈ks then without ks (i+1) r else s::without ks (i+1) r
noncomputable def q0:Program:={PySem.Challenge.pw_likefill_k23_whole_further with main:={PySem.Challenge.pw_likefill_k23_whole_further.main with body:=without [0,5,21,27,40] 0 PySem.Challenge.pw_likefill_k23_whole_further.main.body} }
noncomputable def XQ:Shared->Bool:=λs=>xlAt q0 [] s && recOk (RowW.records PySem.Challenge.rw_likefill_k23_whole_further.row.toRowW) s
def dL (l:aV)(h:l.Nodup:=by decide +kernel):l.Nodup:=h
def R8 {p q:Program}{Xt:Shared->Bool}{c:Type}{Yf:Shared->c}{Ya:World->c}{N:Nat}
  (e:opening p=plainProg p.main.scope.names) (n:Nat.ble 600 N=true) (d:∀s,fenceModules? p s=some s)
  (h:∀w os,(topFrom treeTable p w N ⟨boot_heap w.params,⟨[]⟩,boot_drawn,boot_toks,os⟩).map (λs=>(openSeen q [] (importedModules p.main.body) Xt true s,Yf s))=some (openGood q [],Ya w)):LeftO p q [] Xt Yf Ya N:=λw=>by
 obtain⟨s,i,g⟩:=Option.map_eq_some_iff.mp (boot_open e n d w);obtain⟨o,m,l,j,os⟩:=s;cases g;unfold openEnds;rw[i];exact h w os
def GY {A B C R e:Type}{o:Option Shared}{X:Shared->A×B×C×R}{Y:Shared->e}{g:A×B×C×R}{y:e}(c:(o.map λs=>((X s).1,Y s))=some (g.1,y))(d:(o.map λs=>((X s).2.1,(X s).2.2.1))=some (g.2.1,g.2.2.1))(h:(o.map λs=>(X s).2.2.2)=some g.2.2.2):(o.map λs=>(X s,Y s))=some (g,y):=by
 cases o with
 | none=>cases c
 | some s =>
  simp only[Option.map_some,Option.some.injEq,Prod.mk.injEq]at c d h⊢;exact⟨Prod.ext c.1 (Prod.ext d.1 (Prod.ext d.2 h)),c.2⟩
noncomputable def run0 (w:World)(os:OsState):Option Shared:=topFrom treeTable PySem.Challenge.rw_likefill_k23_whole_further.row.prog w 5292 ⟨boot_heap w.params,⟨[]⟩,boot_drawn,boot_toks,os⟩
noncomputable def seen0 (s:Shared):=openSeen q0 [] (importedModules PySem.Challenge.rw_likefill_k23_whole_further.row.prog.main.body) XQ true s
def run1 (w:World)(os:OsState):((run0 w os).map λs=>((seen0 s).1,as0.map s.heap.get?))=some ((openGood q0 []).1,(K0 w.params).map λp=>some p.2):=by unfold run0 seen0 topFrom;rw[PySem.W.Fast.te14082659384304107361,PySem.W.Fast.te4187177175401517315,PySem.W.Fast.te14364793385576792824];kernel_rfl
def run2 (w:World)(os:OsState):((run0 w os).map λs=>((seen0 s).2.1,(seen0 s).2.2.1))=some ((openGood q0 []).2.1,(openGood q0 []).2.2.1):=by unfold run0 seen0 topFrom;rw[PySem.W.Fast.te14082659384304107361,PySem.W.Fast.te4187177175401517315,PySem.W.Fast.te14364793385576792824];kernel_rfl
def run3 (w:World)(os:OsState):((run0 w os).map λs=>(seen0 s).2.2.2)=some (openGood q0 []).2.2.2:=by unfold run0 seen0 topFrom;rw[PySem.W.Fast.te14082659384304107361,PySem.W.Fast.te4187177175401517315,PySem.W.Fast.te14364793385576792824];kernel_rfl
def left0:LeftO PySem.Challenge.rw_likefill_k23_whole_further.row.prog q0 [] XQ (λs=>as0.map s.heap.get?) (λw=>(K0 w.params).map λp=>some p.2) 5292 :=
 R8 (by kernel_rfl) (by kernel_rfl) (λs=>by kernel_rfl) λw os=>GY (X:=seen0) (run1 w os) (run2 w os) (run3 w os)
def keys0:∀P,as0=(K0 P).map (·.1):=λP=>by kernel_rfl
end Lw
namespace Lw
open PySem PySem.W PyProof.Rows
set_option maxRecDepth 100000 in
set_option maxHeartbeats 0 in
def red:∃d:DefRec,d.params.defaults=[]/\d.name=("law" : Str)/\(WalkO q0 [] (XL q0 []) (InK K0) PySem.Challenge.rw_likefill_k23_whole_further.row.toRowW d [] (λf vs=>PySem.call f vs)->PySem.Challenge.rw_likefill_k23_whole_further.Holds):=by
 refine' ⟨?d,?a,?b,λh=>?c⟩
 case c =>
  w_on
  refine holds_law (by kernel_rfl) λg=>?_;refine holds_open (q:=q0) (loose:=[]) (Xt:=XQ) (XP:=XL q0 []) (YP:=InK K0) left0 (InK.of keys0) InK.keeps (λs e=>xl_of s (Bool.and_eq_true_iff.mp e).1) XL.keeps (by rfl) (by rfl) (by rfl) (λs e=>recFacts_of (Bool.and_eq_true_iff.mp e).2) (by rfl) g (by decide +kernel) ⟨rfl,rfl,rfl,rfl,rfl,by decide +kernel⟩ (by w_witness2) ?_
  k_fill
  exact h
 case a=>rfl
 case b=>rfl
end Lw
namespace L2
open PySem PySem.Spec PyProof.Rows
abbrev cR:=Sum Int Str
noncomputable def keyIs:cR->dv->Bool
 | .inl k,v=>Value.isInt k v
 | .inr x,v=>Value.isStrOf x v
noncomputable def keyH (w:dy):cR->Int
 | .inl k=>hashInt k
 | .inr x=>hashStr w x
def dG:∀{k:cR} {v:dv},keyIs k v=true->(∃i t,k=Sum.inl i/\v=Value.int i t)\/(∃x t,k=Sum.inr x/\v=Value.str x t)
 | .inl i,v,h=>by
  obtain⟨t,e⟩:=Value.isInt_shape (k:=i) (v:=v) h;exact .inl ⟨i,t,rfl,e⟩
 | .inr x,v,h=>by obtain⟨t,e⟩:=Value.isStrOf_shape (x:=x) (v:=v) h;exact .inr ⟨x,t,rfl,e⟩
def LL (i:Int)(t:Tok):keyIs (.inl i) (.int i t)=true:=by simp[keyIs,Value.isInt]
def zU (x:Str)(t:Tok):keyIs (.inr x) (.str x t)=true:=by simp[keyIs,Value.isStrOf]
def VX (a b:Int):decide ((Sum.inl a:cR)=Sum.inl b)=(a == b):=by
 by_cases e:a=b
 ·subst e;simp
 ·have h:¬(Sum.inl a:cR)=Sum.inl b:=λq=>e (Sum.inl.inj q);rw[bo h];exact(cz.mpr e).symm
def VU (a b:Str):decide ((Sum.inr a:cR)=Sum.inr b)=decide (a=b):=by
 by_cases e:a=b
 ·subst e;simp
 ·have h:¬(Sum.inr a:cR)=Sum.inr b:=λq=>e (Sum.inr.inj q);rw[bo h,bo e]
def VW (a:Int)(b:Str):decide ((Sum.inl a:cR)=Sum.inr b)=false:=bo (λq=>nomatch q)
def VV (a:Str)(b:Int):decide ((Sum.inr a:cR)=Sum.inl b)=false:=bo (λq=>nomatch q)
noncomputable def bM (prog:dw)(w:dy):PySem.KeyKind prog w cR where
 is:=keyIs
 hash:=keyH w
 inj:=λv a b l hb=>by
  rcases dG l with⟨i,t,rfl,rfl⟩|⟨x,t,rfl,rfl⟩
  ·rcases dG hb with⟨j,u,rfl,e⟩|⟨y,u,rfl,e⟩
   ·injection e with c _;rw[c]
   ·exact nomatch e
  ·rcases dG hb with⟨j,u,rfl,e⟩|⟨y,u,rfl,e⟩
   ·exact nomatch e
   ·injection e with c _;rw[c]
 byValue:=λk v h=>by rcases dG h with⟨i,t,rfl,rfl⟩|⟨x,t,rfl,rfl⟩ <;> rfl
 pyHash:=λd h=>by
  rcases dG d with⟨i,t,rfl,rfl⟩|⟨x,t,rfl,rfl⟩
  ·exact wpAny_pyHash_int h
  ·exact wpAny_pyHash_str h
 eqBool:=λg d h=>by
  rcases dG g with⟨i,t,rfl,rfl⟩|⟨x,t,rfl,rfl⟩
  ·rcases dG d with⟨j,u,rfl,rfl⟩|⟨y,u,rfl,rfl⟩
   ·rw[VX]at h;exact wpAny_eqBool_int h
   ·rw[VW]at h;exact SeqAt.EqAt.int_str i t y u _ _ _ _ h
  ·rcases dG d with⟨j,u,rfl,rfl⟩|⟨y,u,rfl,rfl⟩
   ·rw[VV]at h;exact SeqAt.EqAt.str_int x t j u _ _ _ _ h
   ·rw[VU]at h;exact wpAny_eqBool_str h
 «strs»:=λk x t v h=>by
  rcases dG h with⟨i,u,rfl,e⟩|⟨y,u,rfl,e⟩
  ·exact nomatch e
  ·injection e with c _;subst c;cases v <;> rfl
def GQ (prog:dw)(w:dy)(k:cR)(v:dv):(bM prog w).is k v=keyIs k v:=rfl
def EJ (prog:dw)(w:dy)(i:Int)(t:Tok):(bM prog w).is (.inl i) (.int i t)=true:=LL i t
def EI (prog:dw)(w:dy)(x:Str)(t:Tok):(bM prog w).is (.inr x) (.str x t)=true:=zU x t
inductive V where
 | non|bl (b:Bool)|int (i:Int)|str (x:Str)|byt (b:Array UInt8)|flt (b:UInt64)|ref (a:Addr)|ty (n:String)
 deriving DecidableEq
def aQ:V->dv->Prop
 | .non,u=>u=Value.none
 | .bl b,u=>u=Value.bool b
 | .int i,u=>∃t,u=Value.int i t
 | .str x,u=>∃t,u=Value.str x t
 | .byt b,u=>∃t,u=Value.bytes b t
 | .flt b,u=>∃t,u=Value.float b t
 | .ref a,u=>u=Value.ref a
 | .ty n,u=>u=Value.type n
abbrev aP:List V->cX->Prop:=Paired aQ
def aP.length (r:aP xs us):xs.length=us.length:=Paired.length r
theorem aP.get:∀{xs:List V} {us:cX} {i:Nat} {x:V},aP xs us->xs[i]?=some x->∃u,us[i]?=some u/\aQ x u
 | _,_,_,_,.nil,e=>by simp at e
 | _,_,0,_,.cons r _,e=>by simp at e;subst e;exact⟨_,rfl,r⟩
 | _,_,i+1,x,.cons _ t,e=>by obtain⟨u,d,c⟩:=aP.get (i:=i) (x:=x) t (by simpa using e);exact⟨u,by simpa using d,c⟩
def aP.set (r:aQ x u):∀{xs:List V} {us:cX} (i:Nat),aP xs us->aP (xs.set i x) (us.set i u)
 | _,_,_,.nil=>.nil
 | _,_,0,.cons _ t=>.cons r t
 | _,_,i+1,.cons q t=>.cons q (aP.set r i t)
def aP.append:∀{xs ys:List V} {us ws:cX},aP xs us->aP ys ws->aP (xs++ys) (us++ws)
 | _,_,_,_,.nil,s=>s
 | _,_,_,_,.cons r t,s=>.cons r (aP.append t s)
def aP.take:∀{xs:List V} {us:cX} (n:Nat),aP xs us->aP (xs.take n) (us.take n)
 | _,_,0,_=>.nil
 | _,_,_+1,.nil=>.nil
 | _,_,n+1,.cons r t=>.cons r (aP.take n t)
def aP.drop:∀{xs:List V} {us:cX} (n:Nat),aP xs us->aP (xs.drop n) (us.drop n)
 | _,_,0,r=>r
 | _,_,_+1,.nil=>.nil
 | _,_,n+1,.cons _ t=>aP.drop n t
def m8:Option V->Option dv->Prop
 | some v,some u=>aQ v u
 | none,none=>True
 | _,_=>False
def KV {c:Type}:List (c×V)->List (c×dv)->Prop:=Paired λ(p:c×V) (q:c×dv)=>p.1=q.1/\aQ p.2 q.2
noncomputable def kV:cR->V
 | .inl i=>.int i
 | .inr x=>.str x
inductive HO where
 /-- a list -/
 | lst (xs:List V)
 /-- a tuple (never changes) -/
 | tup (xs:List V)
 /-- a dict whose keys are ints and texts;one whose keys are tuples of ints and texts (the empty one is both) -/
 | dK (kvs:List (cR×V))|dT (kvs:List (List cR×V))
 /-- a set of ints: its members,its size -/
 | set (S:Int->Bool) (n:Nat)
 /-- an instance of the class at C,its dict at dx,its attributes -/
 | ins (C dx:Addr) (fs:List (Str×V))
 /-- the dict of the instance at x -/
 | own (x:Addr)
 /-- the dict of an exception -/
 | xd (fs:List (Str×V))
 /-- a bound method,f of x -/
 | met (f x:Addr)
 /-- a range object lo,lo+1,.. below hi -/
 | rng (lo hi:Int)
 /-- a thing that is known to the object (the script;a dict while a loop walks it): read,never written while it is so -/
 | frz (o:Obj) (u:HO)
 /-- a code object's table -/
 | tbl (ps:pU)
 /-- any other thing,by what is true of its one object (a def of one's own: SetO a S n:=HO.ext λh=>..) -/
 | ext (φ:Heap->Prop)
abbrev Hp:=Addr->Option HO
noncomputable def upd (H:Hp)(a:Addr)(o:HO):Hp:=λb=>if b=a then some o else H b
def upd_same:upd H a o a=some o:=by unfold upd;rw[ai rfl]
abbrev ec:=@upd_same
def aC (h:b≠a):upd H a o b=H b:=by unfold upd;rw[ab h]
def upd_upd:upd (upd H a o) a u=upd H a u:=by funext b;unfold upd;split <;> rfl
def W1 {H:Hp}{a b:Addr}{o u:HO}(h:H a=some o)(h':H b=some u)(d:o≠u):a≠b:=by intro e;subst e;rw[h]at h';exact d (Option.some.inj h')
def aD {H:Hp}{a b:Addr}{o:HO}(h:H a=some o)(h':H b=none):a≠b:=by intro e;subst e;rw[h]at h';cases h'
section
variable (P:dw)(w:dy)
def cK (H:Hp)(h:Heap)(a:Addr):HO->Prop
 | .lst xs=>xs.length<=sizeLine/\∃(its:cX) (n:Nat),aP xs its/\h.get? a=some {cls:=.type "list",data:=.seq its.toArray n}
 | .tup xs=>xs.length<=sizeLine/\∃its:cX,aP xs its/\IsTup h a its.toArray
 | .dK c=>c.length<=sizeLine/\(a == sysModules)=false/\∃vs,KV c vs/\h.DictOf (bM P w) a vs
 | .dT c=>c.length<=sizeLine/\(a == sysModules)=false/\∃xs:List (List cR×Addr×dv),
   Paired (λ(p:List cR×V) (q:List cR×Addr×dv)=>p.1=q.1/\H q.2.1=some (.tup (p.1.map kV))/\aQ p.2 q.2.2) c xs /\
   ∃o j l,h.get? a=some o/\o.ExactDict/\o.data = .dict j l/\j.toList=xs.map (entryOfKey (tupleKind (bM P w)))/\(xs.map (·.1)).Nodup
 | .set S n=>h.SetOf (intKind P w) a S n
 | .ins C e fs=>H e=some (.own a)/\fs.length<=1000/\e≠a/\h.get? a=some (PySem.W.instObj C e) /\
   ∃d,h.Ns1 e d/\(∀f,m8 (fs.lookup f) (d f))/\PySem.Within d (fs.map (·.1))
 | .own _=>∃o,h.get? a=some o
 | .xd fs=>∃d,h.Ns1 a d/\∀f,m8 (fs.lookup f) (d f)
 | .rng lo hi=>∃t u v,h.get? a=some {cls:=.type "range",data:=.fields #[.int lo t,.int hi u,.int 1 v]}
 | .frz o u=>h.get? a=some o/\cK H h a u
 | .tbl ps=>h.get? a=some {cls:=.none,data:=.fields ps}
 | .met f x=>h.get? a=some (PySem.W.methodObj (.ref f) (.ref x))
 | .ext φ=>φ h/\(∃o,h.get? a=some o)/\∀i g:Heap,φ i->(∀o,i.get? a=some o->g.get? a=some o)->φ g
def hV (H:Hp)(h:Heap):Prop:=∀a o,H a=some o->cK P w H h a o
end
section
variable {P:dw}{w:dy}{H H':Hp}{h h':Heap}{a:Addr}{o:HO}
theorem cK.lt (x:cK P w H h a o):a<h.objs.size:=by
 cases o with
 | lst xs=>obtain⟨_,_,_,_,e⟩:=x;exact bc e
 | tup xs=>obtain⟨_,_,_,p⟩:=x;exact p.lt
 | dK c=>obtain⟨_,_,_,_,o,_,_,e,_⟩:=x;exact bc e
 | dT c=>obtain⟨_,_,_,_,o,_,_,e,_⟩:=x;exact bc e
 | set S n=>obtain⟨o,_,_,_,e,_⟩:=x;exact bc e
 | ins C g fs=>obtain⟨_,_,_,e,_⟩:=x;exact bc e
 | own y=>obtain⟨_,e⟩:=x;exact bc e
 | xd fs=>obtain⟨_,⟨_,_,_,e,_⟩,_⟩:=x;exact bc e
 | rng lo hi=>obtain⟨_,_,_,e⟩:=x;exact bc e
 | frz d u=>obtain⟨e,_⟩:=x;exact bc e
 | tbl ps=>exact bc (show h.get? a=some _ from x)
 | met f y=>exact bc (show h.get? a=some _ from x)
 | ext φ=>obtain⟨_,⟨_,e⟩,_⟩:=x;exact bc e
def Paired.mapP {d c:Type}{F G:d->c->Prop}{l₁:List d}{l₂:List c}(h:Paired F l₁ l₂)(f:∀a b,F a b->G a b):Paired G l₁ l₂:=by
 induction h with
 | nil=>exact .nil
 | cons r t e=>exact .cons (f _ _ r) e
def cK.stay (x:cK P w H h a o)(k:∀b u,(b=a\/H b=some (.own a))->h.get? b=some u->h'.get? b=some u)
  (ho:∀b,H b=some (.own a)->H' b=some (.own a)) (A:∀b xs,H b=some (.tup xs)->H' b=some (.tup xs)):cK P w H' h' a o:=by
 induction o with
 | lst xs=>obtain⟨z,its,n,r,e⟩:=x;exact⟨z,its,n,r,k _ _ (.inl rfl) e⟩
 | tup xs=>obtain⟨z,its,r,g,e,c⟩:=x;exact⟨z,its,r,g,k _ _ (.inl rfl) e,c⟩
 | dK m=>obtain⟨z,y,vs,r,g,i,j,e,c⟩:=x;exact⟨z,y,vs,r,g,i,j,k _ _ (.inl rfl) e,c⟩
 | dT m =>
  obtain⟨z,y,xs,r,g,i,j,e,c⟩:=x;exact⟨z,y,xs,Paired.mapP r λp q z=>⟨z.1,A _ _ z.2.1,z.2.2⟩,g,i,j,k _ _ (.inl rfl) e,c⟩
 | set S n=>obtain⟨g,i,j,t,e,c⟩:=x;exact⟨g,i,j,t,k _ _ (.inl rfl) e,c⟩
 | ins C E fs =>
  obtain⟨d,z,ne,e,l,⟨od,i,j,B,c⟩,r⟩:=x;exact⟨ho _ d,z,ne,k _ _ (.inl rfl) e,l,⟨od,i,j,k _ _ (.inr d) B,c⟩,r⟩
 | own y=>obtain⟨g,e⟩:=x;exact⟨g,k _ _ (.inl rfl) e⟩
 | xd fs=>obtain⟨l,⟨od,i,j,e,c⟩,r⟩:=x;exact⟨l,⟨od,i,j,k _ _ (.inl rfl) e,c⟩,r⟩
 | rng lo hi=>obtain⟨t,u,v,e⟩:=x;exact⟨t,u,v,k _ _ (.inl rfl) e⟩
 | frz g u s=>obtain⟨e,q⟩:=x;exact⟨k _ _ (.inl rfl) e,s q⟩
 | tbl ps =>
  have e:h.get? a=some {cls:=.none,data:=.fields ps}:=x;show h'.get? a=some {cls:=.none,data:=.fields ps};exact k a _ (.inl rfl) e
 | met f y =>
  have e:h.get? a=some (PySem.W.methodObj (.ref f) (.ref y)):=x;show h'.get? a=some (PySem.W.methodObj (.ref f) (.ref y));exact k a _ (.inl rfl) e
 | ext φ=>obtain⟨p,⟨o,e⟩,st⟩:=x;exact⟨st _ _ p λo q=>k _ _ (.inl rfl) q,⟨o,k _ _ (.inl rfl) e⟩,st⟩
def hV.lt (x:hV P w H h)(e:H a=some o):a<h.objs.size:=(x a o e).lt
def hV.fresh (x:hV P w H h)(e:h.objs.size<=a):H a=none:=by
 cases q:H a with
 | none=>rfl
 | some u=>exact absurd (bg (x.lt q) e) (cf _)
def hV.kept (x:hV P w H h)(k:∀b u,h.get? b=some u->h'.get? b=some u):hV P w H h':=λa o e =>
 (x a o e).stay (λb u _ q=>k b u q) (λ_ q=>q) λ_ _ q=>q
def hV.laid (x:hV P w H h)(k:∀b u,h.get? b=some u->h'.get? b=some u)(g:h.objs.size<=a)(new:cK P w (upd H a o) h' a o):hV P w (upd H a o) h':=λb u e=>by
 have d:=x.fresh g;by_cases hb:b=a
 ·subst hb;rw[ec]at e;cases e;exact new
 ·rw[aC hb]at e;exact(x b u e).stay (λc v _ q=>k c v q) (λc q=>by rw[aC (aD q d)];exact q) λc xs q=>by rw[aC (aD q d)];exact q
end
def Rd (H:Hp)(a:Addr)(u:HO):Prop:=H a=some u\/∃o,H a=some (.frz o u)
def Rd.ok (r:Rd H a u)(x:hV P w H h):cK P w H h a u:=by
 rcases r with r|⟨o,r⟩
 ·exact x a u r
 ·obtain⟨_,q⟩:=x a _ r;exact q
def XG:Option HO->Prop
 | some (.lst _)=>True
 | some (.dK _)=>True
 | some (.dT _)=>True
 | some (.set _ _)=>True
 | some (.ins _ _ _)=>True
 | some (.ext _)=>True
 | _=>False
section
variable {P:dw}{w:dy}{H:Hp}{h h':Heap}{x e:Addr}{o':HO}
def hV.write (ok:hV P w H h)(j:XG (H x))(m:e=x\/H e=some (.own x))(k:∀b u,b≠e->h.get? b=some u->h'.get? b=some u)(l:∃u,h'.get? e=some u)
  (new:cK P w (upd H x o') h' x o'):hV P w (upd H x o') h':=λb u q=>by
 have g:∀c y,H c=some (.own y)->c≠x:=λc y r z=>by subst z;rw[r]at j;exact j
 have i:∀c xs,H c=some (.tup xs)->c≠x:=λc xs r z=>by subst z;rw[r]at j;exact j
 by_cases hb:b=x
 ·subst hb;rw[ec]at q;cases q;exact new
 ·rw[aC hb]at q;by_cases d:b=e
  ·have q':H b=some (.own x):=by
    rcases m with z|z
    ·exact absurd (d.trans z) hb
    ·rw[d];exact z
   rw[q]at q';cases q';obtain⟨v,o⟩:=l;exact⟨v,by rw[d];exact o⟩
  ·refine(ok b u q).stay (λc v hc r=>k c v ?_ r) (λc r=>by rw[aC (g c b r)];exact r) λc xs r=>by rw[aC (i c xs r)];exact r
   rcases hc with rfl|hc
   ·exact d
   ·rintro rfl;rcases m with z|z
    ·exact g c b hc z
    ·rw[hc]at z;cases z;exact hb rfl
end
structure Un (fs ex:List Addr)(H H':Hp)(h h':Heap):Prop where
 keep:∀b o,h.get? b=some o->H b=none->b∉fs->b∉ex->h'.get? b=some o
 slot:∀b o,h.get? b=some o->H b=none->b∈fs->b∉ex->∃sl,h'.get? b=some {o with slots:=sl}
 free:∀b o,h.get? b=some o->H b=none->b∉ex->H' b=none
 there:∀b o,h.get? b=some o->b∉ex->∃o',h'.get? b=some o'
 tups:∀b xs,H b=some (.tup xs)->H' b=some (.tup xs)
 frzs:∀b o u,H b=some (.frz o u)->H' b=some (.frz o u)
 tbls:∀b ps,H b=some (.tbl ps)->∃more,H' b=some (.tbl (ps++more))
section
variable {fs fs' ex ex':List Addr}{H H1 H2:Hp}{h h1 h2 h':Heap}{a x e:Addr}{o:HO}
def Un.any (u:Un fs ex H H1 h h1)(q:h.get? b=some ob)(n:H b=none)(c:b∉ex):∃d,h1.get? b=some {ob with slots:=d}:=by
 by_cases hb:b∈fs
 ·exact u.slot b ob q n hb c
 ·exact⟨ob.slots,u.keep b ob q n hb c⟩
def Un.kept (k:∀b u,h.get? b=some u->h'.get? b=some u):Un fs ex H H h h' :=
 ⟨λb c q _ _ _=>k b c q,λb c q _ _ _=>⟨c.slots,k b c q⟩,λ_ _ _ n _=>n,λb c q _=>⟨c,k b c q⟩,λ_ _ q=>q,λ_ _ _ q=>q,λ_ ps q=>⟨#[],by rw[q];simp⟩⟩
def Un.refl:Un fs ex H H h h:=Un.kept λ_ _ q=>q
def Un.laid (k:∀b u,h.get? b=some u->h'.get? b=some u)(d:h.objs.size<=a)(c:H a=none):Un fs ex H (upd H a o) h h' where
 keep:=λb u q _ _ _=>k b u q
 slot:=λb u q _ _ _=>⟨u.slots,k b u q⟩
 free:=λb u q n _=>by rw[aC (bq (bg (bc q) d))];exact n
 there:=λb u q _=>⟨u,k b u q⟩
 tups:=λb xs q=>by rw[aC (aD q c)];exact q
 frzs:=λb u xs q=>by rw[aC (aD q c)];exact q
 tbls:=λb ps q=>⟨#[],by rw[aC (aD q c),q];simp⟩
def Un.write (d:XG (H x))(l:e=x\/H e=some (.own x))(k:∀b u,b≠e->h.get? b=some u->h'.get? b=some u)(i:∃u,h'.get? e=some u):Un fs ex H (upd H x o) h h':=by
 have j:∀b,H b=none->b≠x:=λb n z=>by subst z;rw[n]at d;exact d
 have hb:∀b,H b=none->b≠e:=λb n z=>by
  subst z;rcases l with r|r
  ·exact j b n r
  ·rw[n]at r;cases r
 have g:∀b u,H b=some u->¬XG (some u)->b≠x:=λb u q nm z=>by subst z;rw[q]at d;exact nm d
 refine⟨λb u q n _ _=>k b u (hb b n) q,λb u q n _ _=>⟨u.slots,k b u (hb b n) q⟩,λb u q n _=>by rw[aC (j b n)];exact n,λb u q _=>?_,
  λb xs q=>by rw[aC (g b _ q λz=>z)];exact q,λb u xs q=>by rw[aC (g b _ q λz=>z)];exact q,λb ps q=>⟨#[],by rw[aC (g b _ q λz=>z),q];simp⟩⟩
 by_cases c:b=e
 ·subst c;exact i
 ·exact⟨u,k b u c q⟩
end
noncomputable def trk (h:Heap)(H:Hp):List Addr:=(List.range h.objs.size).filter λa=>(H a).isSome
noncomputable def hidT (h:Heap)(H:Hp):Heap:=PySem.W.hideAll h (trk h H)
def LM (h:Heap)(H:Hp):(hidT h H).objs.size=h.objs.size:=PySem.W.hideAll_size _ _
def xA (e:h.get? b=some o)(n:H b=none):(hidT h H).get? b=some o :=
 PySem.W.hideAll_get _ e λc=>by have q:(H b).isSome=true:=(db.mp c).2;rw[n]at q;simp at q
def RZ (e:(hidT h H).get? b=some o):h.get? b=some o/\H b=none:=by
 have e':h.get? b=some o:=PySem.W.of_hideAll (trk h H) e;refine⟨e',?_⟩;cases q:H b with
 | none=>rfl
 | some x =>
  have c:b∈trk h H:=db.mpr ⟨List.mem_range.mpr (bc e'),by simp[q]⟩;have z:(hidT h H).get? b=none:=PySem.W.hideAll_none (trk h H) c;rw[z]at e;cases e
noncomputable def S9 (g h:Heap)(L:Addr):dD:=(List.range h.objs.size).filterMap λa=>if a=L\/(g.get? a).isSome=true then none else(h.get? a).map λo=>(a,o)
noncomputable def rest (g h:Heap)(L d:Addr):dD:=(S9 g h L).filter λp=>decide (p.1≠d)
structure Mod (K:dq)(mg:jS)(base:Heap):Prop where
 kin:K.In base
 glob:base.Ns mainGlobals mg
 blt:∃mb,base.Ns builtinsNs mb/\∀x:Str,x≠"__name__"->mb x=bootBuiltins x
 nolimit:base.NoLimit
structure Cx where
 prog:dw
 w:dy
 K:dq
 mg:jS
 base:Heap
 A:dz
 N:aV
 s₀:du
 H₀:Hp
 env:Env
 outer:List Env
 stack:List Env
 ex:List Addr
 fn:Str->Bool
 calm:Bool
 pn:dD
 xe:cM
noncomputable def frs (l:List Env):List Addr:=l.filterMap (·.frame)
noncomputable abbrev Cx.fs (X:Cx):List Addr:=frs X.outer
def XJ (c:Scope)(x:Str):Prop:=c.names.lookup x=some .local\/c.names.lookup x=some .cell\/c.names.lookup x=some .free
def WR (c:Scope)(x:Str):Prop:=c.names.lookup x=some .local\/c.names.lookup x=some .cell
def XX (env:Env)(h:Heap)(m:jS)(x:Str)(u:dv):Prop :=
 (env.kindOf x=some .local/\m x=some u)\/((env.kindOf x=some .cell\/env.kindOf x=some .free)/\∃c,env.cells.lookup x=some c/\h.IsCell c (some u))
structure Cx.Ok (X:Cx):Prop where
 mod:Mod X.K X.mg X.base
 kind:X.env.scope.kind = .function
 glob:X.env.globals=mainGlobals
 blt:X.env.builtins=builtinsNs
 above:X.s₀.heap.objs.size<=X.env.locals
 inj:∀x y c,X.env.cells.lookup x=some c->X.env.cells.lookup y=some c->x=y
 has:∀x,(X.env.kindOf x=some .cell\/X.env.kindOf x=some .free)->∃c,X.env.cells.lookup x=some c
 cab:∀x c,X.fn x=true->X.env.cells.lookup x=some c->X.s₀.heap.objs.size<=c
 hd:X.calm=true->X.A.handled=none
 frames:X.A.frames=some X.stack
 stk:X.stack=X.outer\/(X.stack=X.env::X.outer/\X.env.frame=some X.env.locals)
 exf:∀b∈X.ex,b≠X.env.locals/\∀x c,X.env.cells.lookup x=some c->c≠b
 bs:∀b o,X.base.get? b=some o->X.s₀.heap.get? b=some o/\X.H₀ b=none
 bsz:X.base.objs.size<=X.s₀.heap.objs.size
 noex:∀b o,X.base.get? b=some o->b∉X.ex
 exfs:∀b∈X.ex,b∉X.fs
 funs:X.s₀.heap.FunFrames X.base X.outer
 frf:∀b∈X.fs,X.H₀ b=none
structure aM (X:Cx)(pins:dD)(σ:List (Option V))(H:Hp)(s:du):Prop where
 ok:X.Ok
 os:s.os=X.s₀.os
 bare:AllBare s.gens
 base:Un X.fs X.ex X.H₀ H X.s₀.heap s.heap
 loc:∃m,s.heap.Ns X.env.locals m/\∀(i:Nat) (x:Str) (v:V),X.N[i]?=some x->σ[i]?=some (some v)->XJ X.env.scope x->∃u,aQ v u/\XX X.env s.heap m x u
 cell:∀x c,X.env.cells.lookup x=some c->∃v,s.heap.IsCell c v
 free:H X.env.locals=none
 freeC:∀x c,X.env.cells.lookup x=some c->H c=none
 pin:∀p∈X.pn++pins,s.heap.get? p.1=some p.2/\H p.1=none/\p.1≠X.env.locals/\p.1∉X.fs/\∀v,p.2.data≠.cell v
 hok:hV X.prog X.w H s.heap
 len:σ.length=X.N.length
section
variable {X:Cx}{pins:dD}{σ:List (Option V)}{H H':Hp}{s:du}{h':Heap}
def Cx.Ok.nofr (ok:X.Ok)(e:X.base.get? b=some o):b∉X.fs:=λhb=>by have:=(ok.funs.mem hb).1;rw[e]at this;cases this
theorem aM.bs (I:aM X pins σ H s):∀b o,X.base.get? b=some o->s.heap.get? b=some o/\H b=none:=λb o e =>
 ⟨I.base.keep b o (I.ok.bs b o e).1 (I.ok.bs b o e).2 (I.ok.nofr e) (I.ok.noex b o e),I.base.free b o (I.ok.bs b o e).1 (I.ok.bs b o e).2 (I.ok.noex b o e)⟩
def aM.bk (I:aM X pins σ H s):∀b o,X.base.get? b=some o->s.heap.get? b=some o:=λb o e=>(I.bs b o e).1
def aM.mod (I:aM X pins σ H s):Mod X.K X.mg X.base:=I.ok.mod
def aM.kIn (I:aM X pins σ H s):X.K.In s.heap:=I.ok.mod.kin.keeps I.bk
def aM.lt (I:aM X pins σ H s):X.env.locals<s.heap.objs.size:=let⟨_,hn,_⟩:=I.loc;hn.lt
def aM.sz (I:aM X pins σ H s):X.s₀.heap.objs.size<=s.heap.objs.size:=ao I.ok.above (Nat.le_of_lt I.lt)
def aM.nofs (I:aM X pins σ H s){a:Addr}(h:s.heap.objs.size<=a):a∉X.fs:=λhb=>by obtain⟨_,o,ho,_⟩:=I.ok.funs.mem hb;exact absurd (bg (bc ho) (ao I.sz h)) (cf _)
def aM.cne (I:aM X pins σ H s):∀x c,X.env.cells.lookup x=some c->c≠X.env.locals:=λx c e z=>by obtain⟨v,o,ho,hd⟩:=I.cell x c e;obtain⟨m,⟨h,i,j,d,g,_⟩,_⟩:=I.loc;rw[z,d]at ho;cases ho;rw[g]at hd;cases hd
theorem aM.funs (I:aM X pins σ H s):s.heap.FunFrames X.base X.outer:=by
 have all:∀(l:List Env),(∀b∈frs l,b∈X.fs)->X.s₀.heap.FunFrames X.base l->s.heap.FunFrames X.base l:=by
  intro l
  induction l with
  | nil=>intro _ _;trivial
  | cons env r h =>
   intro g m;obtain⟨p,⟨L,o,c,j,ho,hd⟩,i⟩:=m;have d:L∈X.fs:=g L (by unfold frs;rw[List.filterMap_cons,c];exact ax);obtain⟨q,e⟩:=I.base.slot L o ho (I.ok.frf L d) d λz=>I.ok.exfs L z d;exact⟨p,⟨L,_,c,j,e,hd⟩,h (λb hb=>g b (by unfold frs;rw[List.filterMap_cons,c];exact ba _ hb)) i⟩
 exact all X.outer (λ_ hb=>hb) I.ok.funs
theorem aM.stack (I:aM X pins σ H s):s.heap.FunFrames X.base X.stack:=by
 rcases I.ok.stk with e|⟨e,d⟩
 ·rw[e];exact I.funs
 ·rw[e];obtain⟨m,c,_⟩:=I.loc;refine .cons (by rw[I.ok.kind];decide) d c ?_ I.funs;exact Heap.get?_none_of_le (ao I.ok.bsz I.ok.above)
def aM.stkSub (I:aM X pins σ H s):∀b∈frs X.stack,b∈X.env.locals::X.fs:=λb hb=>by
 rcases I.ok.stk with e|⟨e,c⟩
 ·rw[e]at hb;exact ba _ hb
 ·rw[e]at hb;unfold frs at hb;rw[List.filterMap_cons,c]at hb;exact hb
def aM.stkFree (I:aM X pins σ H s):∀b∈frs X.stack,H b=none:=λb hb=>by
 rcases cw.mp (I.stkSub b hb)with e|hb
 ·rw[e];exact I.free
 ·obtain⟨_,o,ho,_⟩:=I.ok.funs.mem hb;exact I.base.free b o ho (I.ok.frf b hb) λz=>I.ok.exfs b z hb
def aM.step {g':Array GenState}{t':Nat}{d':Drawn}{ch:List Addr}(I:aM X pins σ H s)
  (j:∀b∈ch,(b∈X.ex\/X.s₀.heap.objs.size<=b)/\b≠X.env.locals/\(∀x c,X.env.cells.lookup x=some c->c≠b)/\∀p∈X.pn++pins,p.1≠b)
  (keep:∀b o,b≠X.env.locals->b∉X.fs->b∉ch->s.heap.get? b=some o->H b=none->h'.get? b=some o)
  (slot:∀b o,b≠X.env.locals->b∈X.fs->b∉ch->s.heap.get? b=some o->H b=none->∃J,h'.get? b=some {o with slots:=J}) (free:∀b o,b∉ch->s.heap.get? b=some o->H b=none->H' b=none)
  (there:∀b o,b∉ch->s.heap.get? b=some o->∃C,h'.get? b=some C)
  (tups:∀b xs,H b=some (.tup xs)->H' b=some (.tup xs)) (frzs:∀b o u,H b=some (.frz o u)->H' b=some (.frz o u)) (tbls:∀b ps,H b=some (.tbl ps)->∃more,H' b=some (.tbl (ps++more)))
  (ns:∀m,s.heap.Ns X.env.locals m->h'.Ns X.env.locals m) (hok:hV X.prog X.w H' h') (Q:AllBare g') :
  aM X pins σ H' {s with heap:=h',gens:=g',drawn:=d',toks:=t'}:=by
 have E:∀b o,X.s₀.heap.get? b=some o->b≠X.env.locals:=λb o e=>bq (bg (bc e) I.ok.above);have A:∀b o,X.s₀.heap.get? b=some o->b∉X.ex->b∉ch:=λb o e g hb=>by
  rcases(j b hb).1 with z|z
  ·exact g z
  ·exact absurd (bg (bc e) z) (cf _)
 have t:∀x c,X.env.cells.lookup x=some c->∀v,s.heap.IsCell c v->h'.IsCell c v:=λx c e v ⟨o,ho,hd⟩=>by
  have h:c∉ch:=λz=>(j c z).2.2.1 x c e rfl;by_cases hc:c∈X.fs
  ·obtain⟨J,q⟩:=slot c o (I.cne x c e) hc h ho (I.freeC x c e);exact⟨_,q,hd⟩
  ·exact⟨o,keep c o (I.cne x c e) hc h ho (I.freeC x c e),hd⟩
 refine⟨I.ok,I.os,Q,⟨λb o e n hb g=>?_,λb o e n hb g=>?_,λb o e n g=>?_,λb o e g=>?_,λb xs e=>tups b xs (I.base.tups b xs e),λb o xs e=>frzs b o xs (I.base.frzs b o xs e),λb ps e=>?_⟩,?_,λx c e=>?_,?_,λx c e=>?_,λp K=>?_,hok,I.len⟩
 ·exact keep b o (E b o e) hb (A b o e g) (I.base.keep b o e n hb g) (I.base.free b o e n g)
 ·obtain⟨J,B⟩:=I.base.slot b o e n hb g;obtain⟨G,F⟩:=slot b _ (E b o e) hb (A b o e g) B (I.base.free b o e n g);exact⟨G,F⟩
 ·obtain⟨C,B⟩:=I.base.there b o e g;exact free b C (A b o e g) B (I.base.free b o e n g)
 ·obtain⟨C,B⟩:=I.base.there b o e g;exact there b C (A b o e g) B
 ·obtain⟨N,B⟩:=I.base.tbls b ps e;obtain⟨L,F⟩:=tbls b _ B;exact⟨N++L,by rw[F,Array.append_assoc]⟩
 ·obtain⟨m,O,P⟩:=I.loc;refine⟨m,ns m O,λi x v B F R=>?_⟩;obtain⟨u,r,l⟩:=P i x v B F R;refine⟨u,r,?_⟩;rcases l with l|⟨k,c,e,z⟩
  ·exact .inl l
  ·exact .inr ⟨k,c,e,t x c e _ z⟩
 ·obtain⟨v,z⟩:=I.cell x c e;exact⟨v,t x c e v z⟩
 ·obtain⟨m,⟨o,_,_,ho,_⟩,_⟩:=I.loc;exact free _ o (λz=>(j _ z).2.1 rfl) ho I.free
 ·obtain⟨v,o,ho,hd⟩:=I.cell x c e;exact free c o (λz=>(j c z).2.2.1 x c e rfl) ho (I.freeC x c e)
 ·obtain⟨e,n,ne,nf,d⟩:=I.pin p K;have h:p.1∉ch:=λz=>(j p.1 z).2.2.2 p K rfl;exact⟨keep p.1 p.2 ne nf h e n,free p.1 p.2 h e n,ne,nf,d⟩
def aM.un {t':Nat}(I:aM X pins σ H s)(u:Un X.fs [] H H' s.heap h')(hok:hV X.prog X.w H' h'):aM X pins σ H' {s with heap:=h',toks:=t'}:=by
 obtain⟨m,⟨o,t,v,ho,r⟩,_⟩:=id I.loc;obtain⟨l,j⟩:=u.any ho I.free dl
 exact I.step (g':=s.gens) (d':=s.drawn) (ch:=[]) (λ_ z=>nomatch z) (λb o _ hb _ e n=>u.keep b o e n hb dl) (λb o _ hb _ e n=>u.slot b o e n hb dl) (λb o _ e n=>u.free b o e n dl) (λb o _ e=>u.there b o e dl) u.tups u.frzs u.tbls (λq i=>by
  obtain⟨p,d,g,c,h⟩:=i;rw[ho]at c;cases c
  exact⟨_,d,g,j,h⟩) hok I.bare
def aM.call {g':Array GenState}{t':Nat}{d':Drawn}{ch:List Addr}(I:aM X pins σ H s)(u:Un (frs X.stack) ch H H' s.heap h')(hok:hV X.prog X.w H' h')(t:AllBare g')
  (g:∀b∈ch,(b∈X.ex\/X.s₀.heap.objs.size<=b)/\b≠X.env.locals/\(∀x c,X.env.cells.lookup x=some c->c≠b)/\∀p∈X.pn++pins,p.1≠b) :
  aM X pins σ H' {s with heap:=h',gens:=g',drawn:=d',toks:=t'}:=by
 obtain⟨m,⟨o,C,E,ho,r⟩,_⟩:=id I.loc;obtain⟨v,h⟩:=u.any ho I.free λz=>(g _ z).2.1 rfl
 exact I.step (ch:=ch) g (λb o h hb hc e n=>u.keep b o e n (λz=>(cw.mp (I.stkSub b z)).elim h hb) hc) (λb o _ _ hc e n=>u.any e n hc) (λb o hc e n=>u.free b o e n hc) (λb o hc e=>u.there b o e hc) u.tups u.frzs u.tbls (λB q=>by
  obtain⟨A,i,j,d,l⟩:=q;rw[ho]at d;cases d
  exact⟨_,i,j,h,l⟩) hok t
def aM.turned {t':Nat}{it:Addr}(I:aM X pins σ H s)(k:∀b o,b≠it->s.heap.get? b=some o->h'.get? b=some o)(h:H it=none)(g:it≠X.env.locals)
  (t:it∈X.ex\/X.s₀.heap.objs.size<=it) (l:∀x c,X.env.cells.lookup x=some c->c≠it) (j:∀p∈X.pn++pins,p.1≠it):aM X pins σ H {s with heap:=h',toks:=t'}:=by
 have d:∀b u,H b=some u->b≠it:=λb u e z=>by rw[z,h]at e;cases e
 refine I.step (g':=s.gens) (d':=s.drawn) (ch:=[it]) (λb hb=>?_) (λb o _ _ hc e _=>k b o (λz=>hc (by simp[z])) e) (λb o _ _ hc e _=>⟨o.slots,k b o (λz=>hc (by simp[z])) e⟩) (λ_ _ _ _ n=>n)
  (λb o hc e=>⟨o,k b o (λz=>hc (by simp[z])) e⟩) (λ_ _ e=>e) (λ_ _ _ e=>e) (λb ps e=>⟨#[],by rw[e];simp⟩) (λm i=>?_) (λb u e=>?_) I.bare
 ·have e:b=it:=by simpa using hb
  subst e;exact⟨t,g,l,j⟩
 ·obtain⟨o,w,A,ho,r⟩:=i;exact⟨o,w,A,k _ o (Ne.symm g) ho,r⟩
 ·refine(I.hok b u e).stay (λc v hc q=>k c v ?_ q) (λ_ q=>q) λ_ _ q=>q;rcases hc with z|z
  ·rw[z];exact d b u e
  ·exact d c _ z
def aM.tok (I:aM X pins σ H s)(t:Nat):aM X pins σ H {s with toks:=t}:=I.un (h':=s.heap) (t':=t) Un.refl I.hok
def aM.kept {t':Nat}(I:aM X pins σ H s)(k:∀b u,s.heap.get? b=some u->h'.get? b=some u):aM X pins σ H {s with heap:=h',toks:=t'}:=I.un (Un.kept k) (I.hok.kept k)
theorem aM.laid {a:Addr}{o:HO}{t':Nat}(I:aM X pins σ H s)(k:∀b u,s.heap.get? b=some u->h'.get? b=some u)(c:s.heap.objs.size<=a)(new:cK X.prog X.w (upd H a o) h' a o) :
  aM X pins σ (upd H a o) {s with heap:=h',toks:=t'}:=I.un (Un.laid k c (I.hok.fresh c)) (I.hok.laid k c new)
theorem aM.write {x e:Addr}{o:HO}{t':Nat}(I:aM X pins σ H s)(d:XG (H x))(g:e=x\/H e=some (.own x))(k:∀b u,b≠e->s.heap.get? b=some u->h'.get? b=some u)(c:∃u,h'.get? e=some u)
  (new:cK X.prog X.w (upd H x o) h' x o):aM X pins σ (upd H x o) {s with heap:=h',toks:=t'}:=I.un (Un.write d g k c) (I.hok.write d g k c new)
def aM.pins_of {c:dD}(I:aM X pins σ H s)(h:∀p∈c,s.heap.get? p.1=some p.2/\H p.1=none/\p.1≠X.env.locals/\p.1∉X.fs/\∀v,p.2.data≠.cell v):aM X c σ H s :=
 ⟨I.ok,I.os,I.bare,I.base,I.loc,I.cell,I.free,I.freeC,λp d=>(cx.mp d).elim (λz=>I.pin p (cj _ z)) (h p),I.hok,I.len⟩
def EF {N:aV}(c:N.Nodup){i j:Nat}{x:Str}(a:N[i]?=some x)(b:N[j]?=some x):i=j:=by obtain⟨h,e⟩:=cs.mp a;obtain⟨g,d⟩:=cs.mp b;exact(List.getElem_inj c).mp (e.trans d.symm)
def y0 {M:Model}{A:dz}{E:cM}{i:Nat}{x:Str}{v:V}{u:dv}{Q:Unit->du->Prop}(I:aM X pins σ H s)(hN:X.N.Nodup)(hi:X.N[i]?=some x)(B:WR X.env.scope x)(r:aQ v u)
  (h:∀s',aM X pins (σ.set i (some v)) H s'->(∃a,Heap.SameBut a s.heap s'.heap/\(a=X.env.locals\/X.env.cells.lookup x=some a))->Q () s') (hf:X.fn x=true\/X.env.scope.names.lookup x=some .local:=by first|exact .inl rfl|exact .inr rfl|assumption):wpAny M A (storeName X.env x u) Q E s:=by
 obtain⟨m,hn,hl⟩:=id I.loc;have R:(X.env.scope.kind == .class || (X.env.scope.kind == .module && X.env.locals != X.env.globals))=false:=by rw[I.ok.kind];rfl
 have J:i<σ.length:=by rw[I.len];exact(cs.mp hi).1
 have cne:=I.cne;have l:∀{a:Addr} {h':Heap},(∃o,s.heap.get? a=some o/\H a=none)->Heap.SameBut a s.heap h'->hV X.prog X.w H h':=λ{a h'} ha g b ob e=>by
  obtain⟨_,_,C⟩:=ha;refine(I.hok b ob e).stay (λc U hc q=>(g.2 c ?_).trans q) (λ_ q=>q) λ_ _ q=>q;rintro rfl;rcases hc with rfl|hc
  ·rw[C]at e;cases e
  ·rw[C]at hc;cases hc
 rcases B with G|G
 ·refine wpAny_storeName_local G hn (λh' hn' g=>?_) R;obtain⟨oL,_,_,hoL,_⟩:=id hn;refine h _ ⟨I.ok,I.os,I.bare,⟨λb o e n hb B=>?_,λb o e n hb B=>?_,I.base.free,λb o e B=>?_,I.base.tups,I.base.frzs,I.base.tbls⟩,⟨_,hn',λj y Y t F e3=>?_⟩,λy c e=>?_,I.free,I.freeC,λp hp=>?_,l ⟨oL,hoL,I.free⟩ g,by simpa using I.len⟩ ⟨_,g,.inl rfl⟩
  ·exact(g.2 b (bq (bg (bc e) I.ok.above))).trans (I.base.keep b o e n hb B)
  ·obtain⟨sl,t⟩:=I.base.slot b o e n hb B;exact⟨sl,(g.2 b (bq (bg (bc e) I.ok.above))).trans t⟩
  ·obtain⟨o',t⟩:=I.base.there b o e B;exact⟨o',(g.2 b (bq (bg (bc e) I.ok.above))).trans t⟩
  ·by_cases K:j=i
   ·subst K;rw[hi]at t;cases t;rw[List.getElem?_set_self J]at F;cases F;exact⟨u,r,.inl ⟨G,dl⟩⟩
   ·rw[List.getElem?_set_ne (Ne.symm K)]at F;obtain⟨Z,r',q⟩:=hl j y Y t F e3;refine⟨Z,r',?_⟩;rcases q with⟨k,e⟩|⟨k,c,e,z⟩
    ·refine .inl ⟨k,?_⟩;have:y≠x:=λe=>K (EF hN t (e ▸ hi));simp[this,e]
    ·exact .inr ⟨k,c,e,z.sameBut g (cne y c e)⟩
  ·obtain⟨U,z⟩:=I.cell y c e;exact⟨U,z.sameBut g (cne y c e)⟩
  ·obtain⟨e,n,ne,nf,d⟩:=I.pin p hp;exact⟨(g.2 p.1 ne).trans e,n,ne,nf,d⟩
 ·have L:X.fn x=true:=by
   rcases hf with z|z
   ·exact z
   ·rw[z]at G;cases G
  obtain⟨c,hc⟩:=I.ok.has x (.inl G);obtain⟨U,z⟩:=I.cell x c hc;refine wpAny_storeName_cell I.ok.kind G hc z (λh' T g=>?_);obtain⟨oc,P,O⟩:=id z;refine h {s with heap:=h'} ⟨I.ok,I.os,I.bare,⟨λb o e n hb B=>?_,λb o e n hb B=>?_,I.base.free,λb o e B=>?_,I.base.tups,I.base.frzs,I.base.tbls⟩,⟨m,hn.sameBut g (Ne.symm (cne x c hc)),λj y Y t F e3=>?_⟩,λy W e=>?_,I.free,I.freeC,λp hp=>?_,l ⟨oc,P,I.freeC x c hc⟩ g,by simpa using I.len⟩ ⟨c,g,.inr hc⟩
  ·exact(g.2 b (bq (bg (bc e) (I.ok.cab x c L hc)))).trans (I.base.keep b o e n hb B)
  ·obtain⟨sl,t⟩:=I.base.slot b o e n hb B;exact⟨sl,(g.2 b (bq (bg (bc e) (I.ok.cab x c L hc)))).trans t⟩
  ·obtain⟨o',t⟩:=I.base.there b o e B;exact⟨o',(g.2 b (bq (bg (bc e) (I.ok.cab x c L hc)))).trans t⟩
  ·by_cases K:j=i
   ·subst K;rw[hi]at t;cases t;rw[List.getElem?_set_self J]at F;cases F;exact⟨u,r,.inr ⟨.inl G,c,hc,T⟩⟩
   ·rw[List.getElem?_set_ne (Ne.symm K)]at F;obtain⟨Z,r',q⟩:=hl j y Y t F e3;refine⟨Z,r',?_⟩;rcases q with q|⟨k,W,e,z'⟩
    ·exact .inl q
    ·refine .inr ⟨k,W,e,z'.sameBut g ?_⟩;rintro rfl;exact K (EF hN t (I.ok.inj _ _ _ e hc ▸ hi))
  ·by_cases S:W=c
   ·subst S;exact⟨_,T⟩
   ·obtain⟨w2,z2⟩:=I.cell y W e;exact⟨w2,z2.sameBut g S⟩
  ·obtain⟨e,n,ne,nf,d⟩:=I.pin p hp;refine⟨(g.2 p.1 ?_).trans e,n,ne,nf,d⟩;intro q;rw[q,P]at e;have q':oc=p.2:=Option.some.inj e;exact d U (by rw[←q'];exact O)
def DO {M:Model}{A:dz}{E:cM}{i:Nat}{x:Str}{v:V}{u:dv}{Q:Unit->du->Prop}(I:aM X pins σ H s)(g:X.N.Nodup)(hi:X.N[i]?=some x)(d:WR X.env.scope x)(r:aQ v u)
  (h:∀c,aM X pins (σ.set i (some v)) H c->Q () c) (e:X.fn x=true\/X.env.scope.names.lookup x=some .local:=by first|exact .inl rfl|exact .inr rfl|assumption):wpAny M A (storeName X.env x u) Q E s :=
 y0 I g hi d r (λc j _=>h c j) e
def aM.call' {d:du}{ch:List Addr}(I:aM X pins σ H s)(ho:d.os=s.os)(u:Un (frs X.stack) ch H H' s.heap d.heap)(hok:hV X.prog X.w H' d.heap)(i:AllBare d.gens)
  (g:∀b∈ch,(b∈X.ex\/X.s₀.heap.objs.size<=b)/\b≠X.env.locals/\(∀x c,X.env.cells.lookup x=some c->c≠b)/\∀p∈X.pn++pins,p.1≠b):aM X pins σ H' d:=by
 obtain⟨h',g',d',t',h⟩:=d;have e:h=s.os:=ho;subst e;exact I.call (g':=g') (t':=t') (d':=d') u hok i g
end
abbrev XK:=dv->Option Addr->Hp->Prop
abbrev St:=List (Option V)
abbrev VK:=V->Hp->Prop
abbrev TE:=St->Hp->VK->Prop
abbrev TT:=St->Hp->(Bool->Hp->Prop)->Prop
abbrev TA:=St->Hp->(List V->Hp->Prop)->Prop
structure jV where
 nx:St->Hp->Prop
 rt:VK
 bk:St->Hp->Prop:=λ_ _=>False
 ct:St->Hp->Prop:=λ_ _=>False
abbrev TS:=jV->St->Hp->Prop
def EP (X:Cx)(c:dD)(d:St)(Q:VK)(u:dv)(e:du):Prop:=∃v H',aM X c d H' e/\aQ v u/\Q v H'
def TP (X:Cx)(c:dD)(d:St)(Q:Bool->Hp->Prop)(b:Bool)(e:du):Prop:=∃H',aM X c d H' e/\Q b H'
def AP (X:Cx)(c:dD)(d:St)(Q:List V->Hp->Prop)(us:cX)(e:du):Prop:=∃vs H',aM X c d H' e/\aP vs us/\Q vs H'
def SP (X:Cx)(d:dD)(D:jV)(f:Flow)(e:du):Prop :=
 match f with
 | .next=>∃c H',aM X d c H' e/\D.nx c H'
 | .brk=>∃c H',aM X d c H' e/\D.bk c H'
 | .cont=>∃c H',aM X d c H' e/\D.ct c H'
 | .ret u=>∃v c H',aM X d c H' e/\aQ v u/\D.rt v H'
def PE (X:Cx)(e:Expr)(t:TE):Prop :=
 ∀(c:dD) (s:du) (σ:St) (H:Hp) (Q:VK),aM X c σ H s->t σ H Q->wpAny (model X.prog X.w) X.A (eval e X.env) (EP X c σ Q) X.xe s
def PT (X:Cx)(e:Expr)(t:TT):Prop :=
 ∀(c:dD) (s:du) (σ:St) (H:Hp) (Q:Bool->Hp->Prop),aM X c σ H s->t σ H Q->wpAny (model X.prog X.w) X.A (isTrue e X.env (eval e X.env)) (TP X c σ Q) X.xe s
def PW (X:Cx)(e:Expr)(t:TT):Prop :=
 ∀(c:Sem dv) (pins:dD) (s:du) (σ:St) (H:Hp) (Q:Bool->Hp->Prop),aM X pins σ H s->t σ H Q->wpAny (model X.prog X.w) X.A (isTrue e X.env c) (TP X pins σ Q) X.xe s
def PW.pt (h:PW X e t):PT X e t:=h _
def PA (X:Cx)(d:pV)(t:TA):Prop :=
 ∀(c:Pos) (pins:dD) (s:du) (σ:St) (H:Hp) (Q:List V->Hp->Prop),aM X pins σ H s->t σ H Q->wpAny (model X.prog X.w) X.A (spliced (backTo c (starEach d X.env))) (AP X pins σ Q) X.xe s
def PS (X:Cx)(st:Stmt)(t:TS):Prop :=
 ∀(c:dD) (s:du) (σ:St) (H:Hp) (D:jV),aM X c σ H s->t D σ H->wpAny (model X.prog X.w) X.A (exec st X.env) (SP X c D) X.xe s
def FR (X:Cx)(st:List Stmt)(t:TS):Prop :=
 ∀(c:dD) (s:du) (σ:St) (H:Hp) (D:jV),aM X c σ H s->t D σ H->wpAny (model X.prog X.w) X.A (execs st X.env) (SP X c D) X.xe s
def thn {c:Type}{t:Sem c}{Q d:c->du->Prop}{M:Model}{A:dz}{E:cM}{s:du}(h:wpAny M A t Q E s)(e:∀a s,Q a s->d a s):wpAny M A t d E s:=wpAny_mono h e λ_ _ x=>x
section
variable {X:Cx}
def bin {a b:Expr}{o m:TE}(B:PE X a o)(hb:PE X b m){c:dD}{s:du}{d:St}{H:Hp}{R:V->V->Hp->Prop}(I:aM X c d H s)(h:o d H λx j=>m d j λy e=>R x y e)
  {l:Type} {Q:l->du->Prop} {f:dv->dv->Sem l}
  (z:∀v u s2 x y e,aM X c d e s2->aQ x v->aQ y u->R x y e->wpAny (model X.prog X.w) X.A (f v u) Q X.xe s2) :
  wpAny (model X.prog X.w) X.A (eval a X.env) (λv i=>wpAny (model X.prog X.w) X.A (eval b X.env) (λu g=>wpAny (model X.prog X.w) X.A (f v u) Q X.xe g) X.xe i) X.xe s:=by
 refine thn (B c s d H _ I h) λv p ⟨x,j,E,r1,t⟩=>?_;refine thn (hb c p d j _ E t) λu s2 ⟨y,e,C,q,r⟩=>?_;exact z v u s2 x y e C r1 q r
def tVar (i:Nat):TE:=λc H Q=>∃v,c[i]?=some (some v)/\Q v H
def tC (v:V):TE:=λ_ H Q=>Q v H
def NK (A:X.N[i]?=some x)(q:XJ X.env.scope x)(hd:(x == ("__debug__" : Str))=false:=by decide)(o:(x == ("__classdict__" : Str))=false:=by decide):PE X (.Name x pos) (tVar i):=by
 intro j s p H Q I h;obtain⟨v,e,h⟩:=h;obtain⟨m,t,z⟩:=I.loc;obtain⟨u,r,l⟩:=z i x v A e q;have fin:EP X j p Q u s:=⟨v,H,I,r,h⟩
 rcases l with⟨g,w⟩|⟨g,c,hc,d⟩
 ·exact wpAny_Name (wpAny_loadName_local I.ok.kind g t w fin) hd
 ·rcases g with g|g
  ·exact wpAny_Name (wpAny_loadName_cell I.ok.kind g hc d fin) hd
  ·exact wpAny_Name (wpAny_loadName_free I.ok.kind g hc d fin o) hd
def aJ {i j pos}:PE X (.Constant (.int i) j pos) (tC (.int i)):=λ_ _ _ H _ I h=>wpAny_Constant_int ⟨.int i,H,I.tok _,⟨_,rfl⟩,h⟩
def oS {b j pos}:PE X (.Constant (.bool b) j pos) (tC (.bl b)):=λ_ _ _ H _ I h=>Constant_bool ⟨.bl b,H,I,rfl,h⟩
def BQ {j pos}:PE X (.Constant .none j pos) (tC .non):=λ_ _ _ H _ I h=>Constant_none ⟨.non,H,I,rfl,h⟩
def iE {x j pos}:PE X (.Constant (.str x) j pos) (tC (.str x)):=λ_ _ _ H _ I h=>Calls.Constant_str ⟨.str x,H,I.tok _,⟨_,rfl⟩,h⟩
def Gl (X:Cx)(x:Str):Prop:=X.env.kindOf x=some .globalImplicit
def qX {E:cM}{c:dD}{s:du}{e:St}{H:Hp}{x:Str}{u:dv}{d:Pos}{Q:cM}(I:aM X c e H s)(i:Gl X x)(g:X.mg x=some u)(h:Q u s)
  (hd:(x == ("__debug__" : Str))=false:=by decide):wpAny (model X.prog X.w) X.A (eval (.Name x d) X.env) Q E s :=
 Calls.Name_function_global I.ok.kind i (Calls.loadGlobal_global (by rw[I.ok.glob];exact I.mod.glob.keeps I.bk) g h) hd
def pK {E:cM}{c:dD}{s:du}{e:St}{H:Hp}{x:Str}{u:dv}{d:Pos}{Q:cM}(I:aM X c e H s)(l:Gl X x)(j:X.mg x=none)(g:bootBuiltins x=some u)(h:Q u s)
  (i:x≠"__name__":=by decide) (hd:(x == ("__debug__" : Str))=false:=by decide):wpAny (model X.prog X.w) X.A (eval (.Name x d) X.env) Q E s:=by
 obtain⟨mb,o,m⟩:=I.mod.blt;exact Calls.Name_function_global I.ok.kind l (Calls.loadGlobal_builtin (by rw[I.ok.glob];exact I.mod.glob.keeps I.bk) j (by rw[I.ok.blt];exact o.keeps I.bk) ((m x i).trans g) h) hd
def Q5 (d:Gl X x)(c:X.mg x=some u)(r:aQ v u)(hd:(x == ("__debug__" : Str))=false:=by decide):PE X (.Name x pos) (tC v) :=
 λ_ _ _ H _ I h=>qX I d c ⟨v,H,I,r,h⟩ hd
def cF (g:Gl X x)(e:X.mg x=none)(c:bootBuiltins x=some u)(r:aQ v u)(d:x≠"__name__":=by decide)(hd:(x == ("__debug__" : Str))=false:=by decide):PE X (.Name x pos) (tC v) :=
 λ_ _ _ H _ I h=>pK I g e c ⟨v,H,I,r,h⟩ d hd
variable {a b:Expr}{ta tb:TE}{pos:Pos}
variable {tA tB':TT}{rest:pV}
def tAnd (t u:TT):TT:=λd H Q=>t d H λc e=>if c=true then u d e Q else Q false e
def tOr (t u:TT):TT:=λd H Q=>t d H λc e=>if c=true then Q true e else u d e Q
def tNot (t:TT):TT:=λd H Q=>t d H λc e=>Q (!c) e
def qO (i:PT X a tA):PW X (.BoolOp .And [a] pos) tA:=by
 intro j d s g H Q I h;refine isTrue_and (thn (i d s g H Q I h) λc l e=>?_);cases c with
 | true=>exact isTrue_and_nil e
 | false=>exact e
def iD (i:PT X a tA):PW X (.BoolOp .Or [a] pos) tA:=by
 intro j d s g H Q I h;refine isTrue_or (thn (i d s g H Q I h) λc l e=>?_);cases c with
 | false=>exact isTrue_or_nil e
 | true=>exact e
def wE (o:PT X a tA)(hb:PW X (.BoolOp .And (b::rest) pos) tB'):PW X (.BoolOp .And (a::b::rest) pos) (tAnd tA tB'):=by
 intro l d s e H Q I h;refine isTrue_and (thn (o d s e H _ I h) λc m ⟨j,i,g⟩=>?_);cases c with
 | true=>exact hb l d m e j Q i g
 | false=>exact⟨j,i,g⟩
def jJ (o:PT X a tA)(hb:PW X (.BoolOp .Or (b::rest) pos) tB'):PW X (.BoolOp .Or (a::b::rest) pos) (tOr tA tB'):=by
 intro l d s e H Q I h;refine isTrue_or (thn (o d s e H _ I h) λc m ⟨j,i,g⟩=>?_);cases c with
 | true=>exact⟨j,i,g⟩
 | false=>exact hb l d m e j Q i g
def cZ (g:PT X a tA):PT X (.UnaryOp .Not a pos) (tNot tA):=by intro d s e H Q I h;exact isTrue_not (g d s e H (λc i=>Q (!c) i) I h)
def tAndV (h g:TE):TE:=λd H Q=>h d H λx e=>∃c,x = .bl c/\if c=true then g d e Q else Q (.bl false) e
def tOrV (h g:TE):TE:=λd H Q=>h d H λx e=>∃c,x = .bl c/\if c=true then Q (.bl true) e else g d e Q
def tNotV (e:TE):TE:=λd H Q=>e d H λx g=>∃c,x = .bl c/\Q (.bl (!c)) g
def GD {op}(h:PE X a t):PE X (.BoolOp op [a] pos) t:=λc s d H Q I e=>BoolOp_one (h c s d H Q I e)
def NO (m:PE X a ta)(hb:PE X (.BoolOp .And (b::rest) pos) tb):PE X (.BoolOp .And (a::b::rest) pos) (tAndV ta tb):=by
 intro d s g H Q I h;refine BoolOp_and (thn (m d s g H _ I h) λv l ⟨x,j,i,r1,e⟩=>?_);obtain⟨c,rfl,e⟩:=e;cases r1;refine wpAny_truthy_bool ?_;cases c with
 | true=>exact hb d l g j Q i e
 | false=>exact⟨.bl false,j,i,rfl,e⟩
def WV (m:PE X a ta)(hb:PE X (.BoolOp .Or (b::rest) pos) tb):PE X (.BoolOp .Or (a::b::rest) pos) (tOrV ta tb):=by
 intro d s g H Q I h;refine BoolOp_or (thn (m d s g H _ I h) λv l ⟨x,j,i,r1,e⟩=>?_);obtain⟨c,rfl,e⟩:=e;cases r1;refine wpAny_truthy_bool ?_;cases c with
 | false=>exact hb d l g j Q i e
 | true=>exact⟨.bl true,j,i,rfl,e⟩
def U5 (i:PE X a ta):PE X (.UnaryOp .Not a pos) (tNotV ta):=by intro d s g H Q I h;refine UnaryOp_ (thn (i d s g H _ I h) λv m ⟨x,l,j,r1,e⟩=>?_);obtain⟨c,rfl,e⟩:=e;cases r1;exact not_of (wpAny_truthy_bool ⟨.bl (!c),l,j,rfl,e⟩)
def tIf (t:TT)(h g:TE):TE:=λd H Q=>t d H λc e=>if c=true then h d e Q else g d e Q
def wG (hc:PT X c tA)(o:PE X a ta)(hb:PE X b tb):PE X (.IfExp c a b pos) (tIf tA ta tb):=by
 intro e s g H Q I h;refine wpAny_IfExp (thn (hc e s g H _ I h) λd i ⟨m,l,j⟩=>?_);cases d with
 | true=>exact o e i g m Q l j
 | false=>exact hb e i g m Q l j
end
def fL (K:dq)(H:Hp)(a:Addr)(xs:List V):Prop :=
 Rd H a (.lst xs) \/
  ∃(o:Obj) (its:pU) (n:Nat),K.lookup a=some o/\o.cls = .type "list"/\o.dict=none/\o.data = .seq its n/\its.size<=sizeLine/\aP xs its.toList
def iF (K:dq)(H:Hp)(a:Addr)(xs:List V):Prop :=
 Rd H a (.tup xs) \/
  ∃(o:Obj) (its:pU) (n:Nat),K.lookup a=some o/\o.cls = .type "tuple"/\o.data = .seq its n/\its.size<=sizeLine/\aP xs its.toList
noncomputable def absV:dv->Option V
 | .none=>some .non
 | .bool b=>some (.bl b)
 | .int i _=>some (.int i)
 | .str x _=>some (.str x)
 | .bytes b _=>some (.byt b)
 | .float b _=>some (.flt b)
 | .ref a=>some (.ref a)
 | .type n=>some (.ty n)
 | _=>none
def aQ.abs (r:aQ x u):absV u=some x:=by
 cases x with
 | non=>cases r;rfl
 | bl _=>cases r;rfl
 | int _=>obtain⟨t,rfl⟩:=r;rfl
 | str _=>obtain⟨t,rfl⟩:=r;rfl
 | byt _=>obtain⟨t,rfl⟩:=r;rfl
 | flt _=>obtain⟨t,rfl⟩:=r;rfl
 | ref _=>cases r;rfl
 | ty _=>cases r;rfl
def aQ.inj (r:aQ x u)(q:aQ y u):x=y:=Option.some.inj (r.abs.symm.trans q.abs)
def aP.inj (h:aP xs us)(g:aP ys us):xs=ys:=by
 induction h generalizing ys with
 | nil=>cases g;rfl
 | cons r t c=>cases g with|cons r' t'=>rw[r.inj r',c t']
section
variable {X:Cx}{pins:dD}{σ:St}{H:Hp}{s:du}{a:Addr}{xs ys:List V}
def fL.of {K:dq}(h:H a=some (.lst xs)):fL K H a xs:=.inl (.inl h)
def iF.of {K:dq}(h:H a=some (.tup xs)):iF K H a xs:=.inl (.inl h)
def aM.list (I:aM X pins σ H s)(h:fL X.K H a xs):∃its:cX,aP xs its/\PlainL s.heap a its.toArray/\xs.length<=sizeLine:=by
 rcases h with h|⟨o,its,n,d,hc,hd,c,hz,r⟩
 ·obtain⟨z,its,n,r,e⟩:=h.ok I.hok;exact⟨its,r,⟨_,n,e,rfl,rfl,rfl⟩,z⟩
 ·refine⟨its.toList,r,⟨o,n,I.kIn a o d,hc,hd,by simpa using c⟩,?_⟩;have e:=r.length;simp only[br]at e
  lia
def aM.tuple (I:aM X pins σ H s)(h:iF X.K H a xs):∃its:cX,aP xs its/\IsTup s.heap a its.toArray/\xs.length<=sizeLine:=by
 rcases h with h|⟨o,its,n,d,hc,c,hz,r⟩
 ·obtain⟨z,its,r,p⟩:=h.ok I.hok;exact⟨its,r,p,z⟩
 ·refine⟨its.toList,r,⟨o,I.kIn a o d,hc,n,by simpa using c⟩,?_⟩;have e:=r.length;simp only[br]at e
  lia
def aM.list_inj (I:aM X pins σ H s)(h:fL X.K H a xs)(h':fL X.K H a ys):xs=ys:=by
 obtain⟨its,r,⟨o,n,e,_,_,d⟩,_⟩:=I.list h;obtain⟨its',g,⟨j,l,c,_,_,d'⟩,_⟩:=I.list h';rw[e]at c;cases c;rw[d]at d';injection d' with i _;have:its=its':=by simpa using congrArg Array.toList i
 subst this;exact r.inj g
def aM.tuple_inj (I:aM X pins σ H s)(h:iF X.K H a xs)(h':iF X.K H a ys):xs=ys:=by
 obtain⟨its,r,⟨o,e,_,n,d⟩,_⟩:=I.tuple h;obtain⟨its',g,⟨j,c,_,l,d'⟩,_⟩:=I.tuple h';rw[e]at c;cases c;rw[d]at d';injection d' with i _;have:its=its':=by simpa using congrArg Array.toList i
 subst this;exact r.inj g
end
noncomputable abbrev Cx.wish (X:Cx)(E:cM):Cx:={X with xe:=E}
noncomputable abbrev Cx.nox (X:Cx):Cx:=X.wish λ_ _=>False
def Cx.Ok.wish {X:Cx}(ok:X.Ok)(E:cM):(X.wish E).Ok :=
 ⟨ok.mod,ok.kind,ok.glob,ok.blt,ok.above,ok.inj,ok.has,ok.cab,ok.hd,ok.frames,ok.stk,ok.exf,ok.bs,ok.bsz,ok.noex,ok.exfs,ok.funs,ok.frf⟩
def Cx.Ok.unwish {X:Cx}{E:cM}(ok:(X.wish E).Ok):X.Ok :=
 ⟨ok.mod,ok.kind,ok.glob,ok.blt,ok.above,ok.inj,ok.has,ok.cab,ok.hd,ok.frames,ok.stk,ok.exf,ok.bs,ok.bsz,ok.noex,ok.exfs,ok.funs,ok.frf⟩
section
variable {X:Cx}{pins:dD}{σ:St}{H:Hp}{s:du}{E:cM}
def aM.wish (I:aM X pins σ H s)(E:cM):aM (X.wish E) pins σ H s:=⟨I.ok.wish E,I.os,I.bare,I.base,I.loc,I.cell,I.free,I.freeC,I.pin,I.hok,I.len⟩
def aM.unwish (I:aM (X.wish E) pins σ H s):aM X pins σ H s:=⟨I.ok.unwish,I.os,I.bare,I.base,I.loc,I.cell,I.free,I.freeC,I.pin,I.hok,I.len⟩
theorem SP.unwish (h:SP (X.wish E) pins D f s'):SP X pins D f s':=by
 cases f with
 | next=>obtain⟨c,H',I,q⟩:=h;exact⟨c,H',I.unwish,q⟩
 | brk=>obtain⟨c,H',I,q⟩:=h;exact⟨c,H',I.unwish,q⟩
 | cont=>obtain⟨c,H',I,q⟩:=h;exact⟨c,H',I.unwish,q⟩
 | ret u=>obtain⟨v,c,H',I,r,q⟩:=h;exact⟨v,c,H',I.unwish,r,q⟩
def FR.nox {st:List Stmt}{t:TS}(h:FR X.nox st t):FR X st t:=λc s d H D I e =>
 wpAny_mono (h c s d H D (I.wish _) e) (λ_ _ q=>q.unwish) λ_ _ z=>False.elim z
end
section
variable {X:Cx}{st:Stmt}{rest:List Stmt}{t u:TS}{e:Expr}{te:TE}{pos:Pos}
def tNext:TS:=λD c H=>D.nx c H
def tSeq (t u:TS):TS:=λD c H=>t {D with nx:=u D} c H
def aO:FR X [] tNext:=λ_ _ c H _ I h=>wpAny_execs_nil ⟨c,H,I,h⟩
def aE (j:PS X st t)(i:FR X rest u):FR X (st::rest) (tSeq t u):=by
 intro c s e H D I h;refine wpAny_execs_cons (thn (j c s e H {D with nx:=u D} I h) λf g q=>?_);cases f with
 | next =>
  obtain⟨d,H',l,q⟩:=q;exact i c g d H' D l q
 | ret v=>exact q
 | brk=>exact q
 | cont=>exact q
def aG (e:PS X st t):FR X [st] t:=by
 intro c s d H D I h;refine wpAny_execs_cons (thn (e c s d H D I h) λf g q=>?_);cases f with
 | next=>exact wpAny_execs_nil q
 | ret v=>exact q
 | brk=>exact q
 | cont=>exact q
def aM.quiet {c:dD}{d:St}{H:Hp}{s:du}(I:aM X c d H s):interactive X.env=false:=by simp[interactive,I.ok.kind]
def tDrop (d:TE):TS:=λD c H=>d c H λ_ e=>D.nx c e
def cW (j:PE X e te)(i:swapsWith e none pos.line X.env=pure false:=by rfl):PS X (.Expr e pos) (tDrop te):=by intro c s d H D I h;exact wpAny_Expr_any (thn (j c s d H _ I h) λv o ⟨x,m,l,r1,g⟩=>⟨d,m,l,g⟩) I.quiet i
def tRet (d:TE):TS:=λD c H=>d c H D.rt
def aL (i:PE X e te):PS X (.Return (some e) pos) (tRet te):=by intro c s d H D I h;exact wpAny_Return_some (thn (i c s d H _ I h) λv m ⟨x,l,j,r1,g⟩=>⟨x,d,l,j,r1,g⟩)
def tIfS (c:TT)(t u:TS):TS:=λD d H=>c d H λb e=>if b=true then t D d e else u D d e
def bQ (hc:PT X c tc)(o:FR X a t)(hb:FR X b u):PS X (.If c a b pos) (tIfS tc t u):=by
 intro e s g H D I h;refine wpAny_If (thn (hc e s g H _ I h) λd i ⟨m,l,j⟩=>?_);cases d with
 | true=>exact o e i g m D l j
 | false=>exact hb e i g m D l j
def tNever:TS:=λ_ _ _=>False
def eK:PS X st tNever:=λ_ _ _ _ _ _ h=>h.elim
end
abbrev TG:=V->St->Hp->(St->Hp->Prop)->Prop
abbrev WP:=List V->St->Hp->(St->Hp->Prop)->Prop
def PG (X:Cx)(c:Expr)(t:TG):Prop :=
 ∀(d:dD) (s:du) (σ:St) (H:Hp) (v:V) (u:dv) (Q:St->Hp->Prop),aM X d σ H s->aQ v u->t v σ H Q ->
  wpAny (model X.prog X.w) X.A (assign c X.env u) (λ_ g=>∃e H',aM X d e H' g/\Q e H') X.xe s
def XE (X:Cx)(ts:pV)(t:WP):Prop :=
 ∀(c:dD) (s:du) (σ:St) (H:Hp) (vs:List V) (us:cX) (Q:St->Hp->Prop),aM X c σ H s->aP vs us->t vs σ H Q ->
  wpAny (model X.prog X.w) X.A (assignInOrder ((assignEach ts X.env).map (·.2)) us) (λ_ e=>∃d H',aM X c d H' e/\Q d H') X.xe s
abbrev XA:=V->V->V->Hp->(Hp->Prop)->Prop
def XD (X:Cx)(t:XA):Prop :=
 ∀(c:dD) (s:du) (σ:St) (H:Hp) (o i v:V) (ov iv u:dv) (Q:Hp->Prop),aM X c σ H s->aQ o ov->aQ i iv->aQ v u->t o i v H Q ->
  wpAny (model X.prog X.w) X.A (setItem ov iv u) (λ_ d=>∃H',aM X c σ H' d/\Q H') X.xe s
section
variable {X:Cx}{pos:Pos}
def gName (i:Nat):TG:=λv c H Q=>Q (c.set i (some v)) H
def eD (g:X.N.Nodup)(hi:X.N[i]?=some x)(d:WR X.env.scope x)(e:X.fn x=true\/X.env.scope.names.lookup x=some .local:=by first|exact .inl rfl|exact .inr rfl|assumption):PG X (.Name x pos) (gName i):=by intro c s l H v u Q I r h;exact wpAny_assign_Name (DO I g hi d r (λm j=>⟨_,H,j,h⟩) e)
def h8 (i:Nat)(e:X.N.Nodup)(hi:X.N[i]?=some x:=by exact rfl)(c:WR X.env.scope x:=by exact Or.inl rfl)(d:X.fn x=true\/X.env.scope.names.lookup x=some .local:=by first|exact .inl rfl|exact .inr rfl|assumption):PG X (.Name x pos) (gName i):=eD e hi c d
def gNil:WP:=λvs c H Q=>vs=[]/\Q c H
def gCons (t:TG)(u:WP):WP:=λvs d H Q=>∃v r,vs=v::r/\t v d H λc H'=>u r c H' Q
def BP:XE X [] gNil:=by intro c s d H vs us Q I r h;obtain⟨e,h⟩:=h;subst e;cases r;exact assignInOrder_nil ⟨d,H,I,h⟩
def jK (p:PG X e t)(o:XE X es u)
  (m:(assignEach (e::es) X.env).map (·.2)=assign e X.env::(assignEach es X.env).map (·.2):=by rfl):XE X (e::es) (gCons t u):=by
 intro c s g H vs us Q I r h;obtain⟨v,z,q,h⟩:=h;subst q;cases r with
 | cons r j =>
  rw[m];refine assignInOrder_cons (thn (p c s g H _ _ _ I r h) λ_ i ⟨d,x,w,l⟩=>?_);exact o c i d x _ _ Q w j l
def gTup (K:dq)(n:Nat)(t:WP):TG:=λv c H Q=>∃a xs,v = .ref a/\iF K H a xs/\xs.length=n/\t xs c H Q
def GB (hc:X.calm=true)(h:XE X es t)
  (q:(assignEach es X.env).length=n:=by rfl) (g:(assignEach es X.env).findIdx? (·.1)=none:=by rfl):PG X (.Tuple es k pos) (gTup X.K n t):=by
 intro c s i H v u Q I r d;obtain⟨a,xs,x,p,w,d⟩:=d;subst x;cases r;obtain⟨its,j,m,hz⟩:=I.tuple p;refine assign_Tuple_tuple (I.ok.hd hc) m (by simp[q,←w,j.length]) g λh' l=>?_;have z:aM X c i H {s with heap:=h'}:=I.kept (t':=s.toks) λb o e=>l b o (bq (bc e)) e;exact h c _ i H xs _ Q z (by simpa using j) d
def gSub (d e:TE)(t:XA):TG:=λv c H Q=>d c H λo j=>e c j λi h=>t o i v h λg=>Q c g
def NI (ho:PE X o to)(hi:PE X i ti)(q:XD X t)
  (w:∀v,assign (.Subscript o i pos) X.env v=(do
   let d ←holding [v] (eval o X.env)
   let iv ←holding [v,d] (eval i X.env)
   standAt pos
   holding [v,d,iv] (setItem d iv v)
   release [v,d,iv] []):=by intro _;rfl):PG X (.Subscript o i pos) (gSub to ti t):=by
 intro c s e H v u Q I r h;rw[w];refine aa (ck (thn (ho c s e H _ I h) λd g ⟨x,F,B,r1,p⟩=>?_));refine aa (ck (thn (hi c g e F _ B p) λiv s2 ⟨y,E,A,j,m⟩=>?_));refine aa (wpAny_standAt (aa (ck (thn (q c s2 e E x y v d iv u _ A r1 j r m) λ_ G ⟨C,z,l⟩=>?_))));exact wpAny_release ⟨e,C,z,l⟩
def tAsg (d:TE)(g:TG):TS:=λD c H=>d c H λx e=>g x c e D.nx
def sI (p:PE X e te)(o:PG X tg g)(m:swapsWithSole [tg] e pos.line X.env=pure false:=by rfl)(l:swappedStores [tg] e X.env=pure none:=by rfl)
  (r:(assignEach [tg] X.env).map (·.2)=[assign tg X.env]:=by rfl):PS X (.Assign [tg] e pos) (tAsg te g):=by
 intro c s d H D I h;refine wpAny_Assign_stores (thn (p c s d H _ I h) λv i ⟨x,u,t,r1,j⟩=>?_) m l;rw[r];exact thn (o c i d u x v _ t r1 j) λ_ s2 q=>q
def mJ (p:X.N.Nodup)(hi:X.N[i]?=some x)(j:WR X.env.scope x)(o:PE X e te)(l:swapsWith e (some (.Name x pos')) pos.line X.env=pure false:=by rfl)(m:X.fn x=true\/X.env.scope.names.lookup x=some .local:=by first|exact .inl rfl|exact .inr rfl|assumption) :
  PS X (.Assign [.Name x pos'] e pos) (tAsg te (gName i)):=by
 intro c s d H D I h;refine wpAny_Assign_Name (thn (o c s d H _ I h) λv u ⟨y,t,r,r1,g⟩=>?_) l;exact DO r p hi j r1 (λs2 q=>⟨_,t,q,g⟩) m
def bP (i:Nat)(j:X.N.Nodup)(h:PE X e te)(hi:X.N[i]?=some x:=by exact rfl)(c:WR X.env.scope x:=by exact Or.inl rfl)(d:swapsWith e (some (.Name x pos')) pos.line X.env=pure false:=by rfl)(g:X.fn x=true\/X.env.scope.names.lookup x=some .local:=by first|exact .inl rfl|exact .inr rfl|assumption) :
  PS X (.Assign [.Name x pos'] e pos) (tAsg te (gName i)):=mJ j hi c h d g
def vV (c:TT)(i:TS):TS:=λD d H=>∃W:Nat->St->Hp->Prop,(∃m,W m d H)/\∀m d H,W m d H ->
 c d H λb h=>if b=true then ∃N:St->Hp->Prop,(∀e H',N e H'->∃g,g<m/\W g e H')/\i {D with nx:=N,ct:=N,bk:=D.nx} d h else D.nx d h
def qP (t:PassesOwn (model X.prog X.w) X.A X.env X.xe)(hc:PT X c tc)(hb:FR X body tb):PS X (.While c body [] pos) (vV tc tb):=by
 intro e s C H D I h;obtain⟨W,⟨K,F⟩,turn⟩:=h;refine wpAny_While (codeAny_whileLoop (λn J=>∃i H',aM X e i H' J/\W n i H') ?_ K ⟨C,H,I,F⟩);rintro n G ⟨g,B,L,E⟩;refine wpAny_passesOwn t (thn (hc e G g B _ L (turn n g B E)) λb s2 ⟨z,x,m⟩=>?_);cases b with
 | true =>
  obtain⟨N,u,m⟩:=m;rw[ai rfl];refine wpAny_passesOwn t (thn (hb e s2 g z _ x m) λf O l=>?_);cases f with
  | next =>
   obtain⟨d,j,r,n3⟩:=l;obtain⟨p,q,o⟩:=u d j n3;exact⟨p,q,d,j,r,o⟩
  | cont =>
   obtain⟨d,j,r,n3⟩:=l;obtain⟨p,q,o⟩:=u d j n3;exact⟨p,q,d,j,r,o⟩
  | brk=>exact l
  | ret v=>exact l
 | false =>
  rw[ab Bool.false_ne_true];exact wpAny_execs_nil ⟨g,z,x,m⟩
end
structure It where
 go:Nat->Hp->Prop
 yld:Nat->Hp->V->Hp->Prop
 stop:Nat->Hp->Prop
def fN (X:Cx)(d:dD)(H:Hp)(b:Addr):Prop :=
 H b=none/\b≠X.env.locals/\b∉X.fs/\(b∈X.ex\/X.s₀.heap.objs.size<=b)/\(∀x c,X.env.cells.lookup x=some c->c≠b)/\∀p∈X.pn++d,p.1≠b
def aM.fpOk {X:Cx}{d:dD}{g:St}{H H':Hp}{s:du}{b:Addr}(I:aM X d g H s)(hb:s.heap.objs.size<=b)(i:H' b=none):fN X d H' b:=by
 refine⟨i,Nat.ne_of_gt (bg I.lt hb),I.nofs hb,.inr (ao I.sz hb),λx c e z=>?_,λp h z=>?_⟩
 ·obtain⟨v,q⟩:=I.cell x c e;exact absurd (bg q.lt (by rw[z];exact hb)) (cf _)
 ·exact absurd (bg (bc (I.pin p h).1) (by rw[z];exact hb)) (cf _)
structure rM (P:dw)(w:dy)(K:dq)(tg:Expr)(J:It)(fp:List Addr)(it:Addr)(tn:PZ):Prop where
 mem:it∈fp
 obj:∀i h,tn i h->∀b∈fp,∃o,h.get? b=some o/\∀v,o.data≠.cell v
 keep:∀i h h',tn i h->(∀b∈fp,∀o,h.get? b=some o->h'.get? b=some o)->tn i h'
 item:∀(X:Cx),X.prog=P->X.w=w->X.K=K->X.calm=true->∀(i:Nat) (pins:dD) (s:du) (σ:St) (H:Hp) (E:cM),aM X pins σ H s->(∀b∈fp,fN X pins H b)->tn i s.heap->J.go i H ->
  wpAny (model P w) X.A (pyNext (.ref it)) (λr s1=>∃u,r=some u /\
   wpAny (model P w) X.A (letOwnedTupleGo tg (.ref it) u) (λ_ s2=>∃x H',aM X pins σ H' s2/\aQ x u/\J.yld i H x H'/\tn (i+1) s2.heap/\∀b∈fp,H' b=none) E s1) E s
 done:∀(X:Cx),X.prog=P->X.w=w->X.K=K->X.calm=true->∀(i:Nat) (pins:dD) (s:du) (σ:St) (H:Hp) (E:cM),aM X pins σ H s->(∀b∈fp,fN X pins H b)->tn i s.heap->J.stop i H ->
  wpAny (model P w) X.A (pyNext (.ref it)) (λr s1=>r=none/\aM X pins σ H s1) E s
 self:∀(A:dz) (i:Nat) (s:du) (Q:cM) (E:cM),tn i s.heap->Q (.ref it) s->wpAny (model P w) A (pyIter (.ref it)) Q E s
abbrev TI:=St->Hp->(It->Hp->Prop)->Prop
def X5 (X:Cx)(c:dD)(e:St)(g:Expr)(R:It->Hp->Prop)(d:dv)(s2:du):Prop :=
 ∃(it:Addr) (fp:List Addr) (tn:PZ) (J:It) (H':Hp),d = .ref it/\aM X c e H' s2/\rM X.prog X.w X.K g J fp it tn/\tn 0 s2.heap/\(∀b∈fp,fN X c H' b)/\R J H'
def PI (X:Cx)(e iter:Expr)(d:TI):Prop :=
 ∀(c:dD) (s:du) (σ:St) (H:Hp) (R:It->Hp->Prop),aM X c σ H s->d σ H R ->
  wpAny (model X.prog X.w) X.A (eval iter X.env) (λv g=>wpAny (model X.prog X.w) X.A (pyIter v) (X5 X c σ e R) X.xe g) X.xe s
def E3 {E:cM}{Q:Unit->du->Prop}(ho:s.heap.get? it=some o)(hc:o.cls = .type n)(hd:o.data = .fields vs)
  (d:["enumerate","zip","dict_itemiterator","dict_reverseitemiterator","odict_iterator","itertools.zip_longest","itertools.pairwise"].contains n=false) (c:Q () s):wpAny M A (letOwnedTupleGo tg (.ref it) u) Q E s:=by
 unfold letOwnedTupleGo;cases tg <;> first
  | exact ak c
  | (cases u <;> first
    | exact ak c
    | (refine aa (wpAny_load ho ?_);rw[hc,hd];show wpAny M A (if (["enumerate","zip","dict_itemiterator","dict_reverseitemiterator","odict_iterator","itertools.zip_longest","itertools.pairwise"].contains n && vs[0]? == some (rawInt _))=true then _ else _) Q E s;rw[ab (by intro h;rw[d,Bool.false_and]at h;cases h)];exact ak c))
def UD (K:dq)(a:Addr):It :=
 ⟨λi H=>∃xs x,fL K H a xs/\xs[i]?=some x,λi H x H'=>H'=H/\∀xs,fL K H a xs->xs[i]?=some x,λi H=>∃xs,fL K H a xs/\xs.length<=i⟩
def UC (K:dq)(a:Addr):It :=
 ⟨λi H=>∃xs x,iF K H a xs/\xs[i]?=some x,λi H x H'=>H'=H/\∀xs,iF K H a xs->xs[i]?=some x,λi H=>∃xs,iF K H a xs/\xs.length<=i⟩
def P7 (lo:Int)(n:Nat):It:=⟨λi _=>i<n,λi H x H'=>H'=H/\x = .int (lo+i),λi _=>n<=i⟩
def KA {P:dw}{w:dy}{K:dq}{J:Expr}(a it:Addr):rM P w K J (UD K a) [it] it (λi h=>h.IsListIter it a i) where
 mem:=by simp
 obj:=λi h st b hb=>by
  have e:b=it:=by simpa using hb
  subst e;obtain⟨o,e,c,d⟩:=st;exact⟨o,e,λv z=>by rw[d]at z;cases z⟩
 keep:=λi h h' st k=>st.at λo e=>k it dl o e
 item:=by intro X B t C hc i g s G H E I m st A;subst B t C;obtain⟨xs,x,l,r⟩:=A;obtain⟨its,q,p,hz⟩:=I.list l;obtain⟨u,O,L⟩:=q.get r;obtain⟨f0,f1,f2,f3,f4,F⟩:=m it dl;refine wpAny_pyNext_list_item st p.isList (x:=u) (by simpa using O) λh' j sb=>?_;have R:aM X g G H {s with heap:=h'}:=I.turned (t':=s.toks) (λb o hb e=>(sb.2 b hb).trans e) f0 f1 f3 f4 F;obtain⟨o,e,c,d⟩:=id j;exact⟨u,rfl,E3 (s:={s with heap:=h'}) e c d ad ⟨x,H,R,L,⟨rfl,λys N=>by rw[I.list_inj N l];exact r⟩,j,λb hb=>(m b hb).1⟩⟩
 done:=by intro X B t C hc i g s G H E I m st A;subst B t C;obtain⟨xs,l,r⟩:=A;obtain⟨its,q,p,hz⟩:=I.list l;obtain⟨f0,f1,f2,f3,f4,F⟩:=m it dl;have S:=q.length;exact wpAny_pyNext_list_end (I.ok.hd hc) st p.isList (by simp;lia) λh' Q=>⟨rfl,I.turned (t':=s.toks) (λb o hb e=>Q b o hb e) f0 f1 f3 f4 F⟩
 self:=λ_ _ _ _ _ st h=>wpAny_pyIter_listiter st h
def FV {P:dw}{w:dy}{K:dq}{J:Expr}(a it:Addr):rM P w K J (UC K a) [it] it (λi h=>h.IsTupleIter it a i) where
 mem:=by simp
 obj:=λi h st b hb=>by
  have e:b=it:=by simpa using hb
  subst e;obtain⟨o,e,c,d⟩:=st;exact⟨o,e,λv z=>by rw[d]at z;cases z⟩
 keep:=λi h h' st k=>st.at λo e=>k it dl o e
 item:=by intro X B t C hc i g s G H E I m st A;subst B t C;obtain⟨xs,x,l,r⟩:=A;obtain⟨its,q,p,hz⟩:=I.tuple l;obtain⟨u,O,L⟩:=q.get r;obtain⟨f0,f1,f2,f3,f4,F⟩:=m it dl;refine wpAny_pyNext_tuple_item st (show s.heap.IsTuple a its.toArray from p) (x:=u) (by simpa using O) λh' j sb=>?_;have R:aM X g G H {s with heap:=h'}:=I.turned (t':=s.toks) (λb o hb e=>(sb.2 b hb).trans e) f0 f1 f3 f4 F;obtain⟨o,e,c,d⟩:=id j;exact⟨u,rfl,E3 (s:={s with heap:=h'}) e c d ad ⟨x,H,R,L,⟨rfl,λys N=>by rw[I.tuple_inj N l];exact r⟩,j,λb hb=>(m b hb).1⟩⟩
 done:=by intro X B t C hc i g s G H E I m st A;subst B t C;obtain⟨xs,l,r⟩:=A;obtain⟨its,q,p,hz⟩:=I.tuple l;obtain⟨f0,f1,f2,f3,f4,F⟩:=m it dl;have S:=q.length;exact wpAny_pyNext_tuple_end (I.ok.hd hc) st (show s.heap.IsTuple a its.toArray from p) (by simp;lia) λh' Q=>⟨rfl,I.turned (t':=s.toks) (λb o hb e=>Q b o hb e) f0 f1 f3 f4 F⟩
 self:=λ_ _ _ _ _ st h=>wpAny_pyIter_tupleiter st h
def FW {P:dw}{w:dy}{K:dq}{u:Expr}(it:Addr)(lo:Int)(n:Nat):rM P w K u (P7 lo n) [it] it (λi h=>IsRangeIter h it (lo+(i:Nat) * 1) ((n:Int) - (i:Nat)) 1) where
 mem:=by simp
 obj:=λi h st b hb=>by
  have e:b=it:=by simpa using hb
  subst e
  exact⟨_,st,λv z=>by
   have z':Data.fields _=Data.cell v:=z
   cases z'⟩
 keep:=λi h h' st k=>k it dl _ st
 item:=by intro X m j p hc i c s r H E I g st l;subst m j p;obtain⟨f0,f1,f2,f3,f4,q⟩:=g it dl;have W:=Walks.range (prog:=X.prog) (w:=X.w) (I.ok.hd hc) it lo 1 n;refine W.item i s _ _ l st λv h' tk A d x=>?_;obtain⟨t,rfl⟩:=A;have C:aM X c r H {s with heap:=h',toks:=tk}:=I.turned (λb o hb e=>x b o (by simpa using hb) e) f0 f1 f3 f4 q;refine⟨_,rfl,E3 (s:={s with heap:=h',toks:=tk}) (n:="range_iterator") d rfl rfl ad ⟨.int (lo+i),H,C,⟨t,?_⟩,⟨rfl,rfl⟩,d,λb hb=>(g b hb).1⟩⟩;rw[Int.mul_one]
 done:=by intro X m j p hc i c s r H E I g st l;subst m j p;obtain⟨f0,f1,f2,f3,f4,q⟩:=g it dl;exact wpAny_pyNext_range_end (I.ok.hd hc) st (by have:n<=i:=l;lia) λh' B=>⟨rfl,I.turned (t':=s.toks) (λb o hb e=>B b o hb e) f0 f1 f3 f4 q⟩
 self:=λ_ _ _ _ _ st h=>wpAny_pyIter_rangeiter st h
section
variable {X:Cx}{tg:Expr}
def NC {c:dD}{d:St}{H:Hp}{s:du}{R:It->Hp->Prop}{E:cM}{lo hi:Int}{t u v:Tok}{tk:Nat}(I:aM X c d H s)(l : -(2 ^ 62)<=lo)(j:lo<2 ^ 62)(i : -(2 ^ 62)<=hi)(h:hi<2 ^ 62)
  (q:R (P7 lo (hi - lo).toNat) H):wpAny (model X.prog X.w) X.A (pyIter (.ref s.heap.objs.size)) (X5 X c d tg R) E {s with heap:=s.heap.push {cls:=.type "range",data:=.fields #[.int lo t,.int hi u,.int 1 v]},toks:=tk}:=by
 refine wpAny_pyIter_range (IsRange.new ..) (small_one l j i h) ?_;have g:aM X c d H {s with heap:=s.heap.push {cls:=.type "range",data:=.fields #[.int lo t,.int hi u,.int 1 v]},toks:=tk}:=I.kept λb o e=>af _ e
 refine⟨(s.heap.push {cls:=.type "range",data:=.fields #[.int lo t,.int hi u,.int 1 v]}).objs.size,[(s.heap.push {cls:=.type "range",data:=.fields #[.int lo t,.int hi u,.int 1 v]}).objs.size],_,_,H,rfl,
  g.kept (t':=tk) λb o e=>af _ e,FW _ lo (hi - lo).toNat,?_,λb hb=>?_,q⟩
 ·have p:lo+((0:Nat):Int) * 1=lo:=by simp
  have m:(((hi - lo).toNat:Nat):Int) - ((0:Nat):Int)=Builtin.Range.rangeSize lo hi 1:=by rw[rangeSize_one];split <;> lia
  show IsRangeIter _ _ (lo+((0:Nat):Int) * 1) ((((hi - lo).toNat:Nat):Int) - ((0:Nat):Int)) 1;rw[p,m];exact av _ rfl
 ·have e:b=(s.heap.push {cls:=.type "range",data:=.fields #[.int lo t,.int hi u,.int 1 v]}).objs.size:=by simpa using hb
  subst e;exact g.fpOk (ac _) (g.hok.fresh (ac _))
def iRng1 (d:TA):TI:=λc H R=>d c H λvs e=>∃j:Int,vs=[.int j]/\-(2 ^ 62)<=j/\j<2 ^ 62/\R (P7 0 j.toNat) e
def iRng2 (d:TA):TI:=λc H R=>d c H λvs e=>∃i j:Int,vs=[.int i,.int j]/\(-(2 ^ 62)<=i/\i<2 ^ 62/\-(2 ^ 62)<=j/\j<2 ^ 62)/\R (P7 i (j - i).toNat) e
def fI (u:Gl X "range")(o:X.mg "range" = none)(v:PA X [a] ta)(m:starEach [a] X.env=[(false,eval a X.env)]:=by rfl):PI X tg (.Call (.Name "range" p) [a] [] pos) (iRng1 ta):=by
 intro c s g H R I h;refine Call_ (pK I u o boot_range (PyProof.Rows.callWith_type1 (thn (v pos c s g H _ I h) λus x ⟨vs,z,w,r1,d⟩=>?_) m rfl));obtain⟨j,e,d,l,q⟩:=d;subst e;cases r1 with
 | cons r i =>
  cases i;obtain⟨t,rfl⟩:=r;exact call_range_1 (NC w dk dk d l (by simpa using q))
def tFor (j:TI)(g:TG)(l:TS):TS:=λD c H=>j c H λJ p=>∃W:Nat->Nat->St->Hp->Prop,(∃m,W 0 m c p)/\∀i m c H,W i m c H ->
 (J.stop i H/\D.nx c H)\/(J.go i H/\∃N:St->Hp->Prop,(∀d H',N d H'->∃h,h<m/\W (i+1) h d H')/\∀x H',J.yld i H x H'->g x c H' λe o=>l {D with nx:=N,ct:=N,bk:=D.nx} e o)
noncomputable def wF (fp:List Addr)(h:Heap):dD:=fp.filterMap λb=>(h.get? b).map λo=>(b,o)
def pI (hb:b∈fp)(e:h.get? b=some o):(b,o)∈wF fp h:=List.mem_filterMap.mpr ⟨b,hb,by rw[e];rfl⟩
def zH (c:p∈wF fp h):p.1∈fp/\h.get? p.1=some p.2:=by
 obtain⟨b,hb,e⟩:=List.mem_filterMap.mp c;cases q:h.get? b with
 | none=>rw[q]at e;cases e
 | some o =>
  rw[q]at e;have e':(b,o)=p:=Option.some.inj e;subst e';exact⟨hb,q⟩
def aM.pinned {c:dD}{g:St}{H:Hp}{s:du}{fp:List Addr}(I:aM X c g H s)(j:∀b∈fp,fN X c H b)(ho:∀b∈fp,∃o,s.heap.get? b=some o/\∀v,o.data≠.cell v):aM X (c++wF fp s.heap) g H s :=
 I.pins_of λp i=>(cx.mp i).elim (λz=>I.pin p (bz _ z)) λz=>by obtain⟨hb,e⟩:=zH z;obtain⟨f0,f1,f2,_⟩:=j p.1 hb;obtain⟨o,h,d⟩:=ho p.1 hb;rw[e]at h;cases h;exact⟨e,f0,f1,f2,d⟩
def aM.unpinned {c pl:dD}{d:St}{H:Hp}{s:du}(I:aM X (c++pl) d H s):aM X c d H s:=I.pins_of λp e=>I.pin p (bz _ (cj _ e))
def eT (G:PassesOwn (model X.prog X.w) X.A X.env X.xe)(hc:X.calm=true)(hi:PI X tg iter wi)(hg:PG X tg g)(hb:FR X body tb)
  (hs:∀x,foldedSetIterable iter X.env x=pure x:=by intro _;rfl):PS X (.For tg iter body [] pos) (tFor wi g tb):=by
 intro j s U H D I h;refine wpAny_For (thn (hi j s U H _ I h) λv s1 h1=>thn h1 λitv s2 h2=>?_) hs;obtain⟨it,fp,Y,J,H2,e,I2,T,P,f2,W,⟨m0,w0⟩,turn⟩:=h2;subst e
 -- what stays true of the iterator's objects through the loop
 have q:∀{H':Hp},(∀b∈fp,H' b=none)->∀b∈fp,fN X j H' b:=λhn b hb=>⟨hn b hb,(f2 b hb).2⟩
 refine codeAny_forLoop_any (λn s'=>∃i p H',aM X j p H' s'/\Y i s'.heap/\(∀b∈fp,H' b=none)/\W i n p H') ?_ m0 ⟨0,U,H2,I2,P,λb hb=>(f2 b hb).1,w0⟩;rintro n s3 ⟨i,l,L,I3,E,K,w3⟩;rcases turn i n l L w3 with⟨stop,qn⟩|⟨go,N,hN,step⟩
 ·refine wpAny_passesOwn G (thn (T.done X rfl rfl rfl hc i j s3 l L X.xe I3 (q K) E stop) λr s4 ⟨R,I4⟩=>?_);subst R;exact wpAny_execs_nil ⟨l,L,I4,qn⟩
 ·refine wpAny_passesOwn G (thn (T.item X rfl rfl rfl hc i j s3 l L X.xe I3 (q K) E go) λr s4 ⟨u,R,h4⟩=>?_);subst R;refine wpAny_passesOwn G (thn h4 λ_ Z ⟨x,H5,I5,r5,y5,C,S⟩=>?_);have I5':=I5.pinned (q S) (T.obj _ _ C);refine wpAny_passesOwn G (thn (hg _ Z l H5 x u _ I5' r5 (step x H5 y5)) λ_ s6 ⟨O,H6,I6,q6⟩=>?_);refine wpAny_passesOwn G (thn (hb _ s6 O H6 _ I6 q6) λf Q B=>?_);have again:∀{c:St} {z:Hp},aM X (j++wF fp Z.heap) c z Q->N c z->∃m,m<n/\∃i p H',aM X j p H' Q/\Y i Q.heap/\(∀b∈fp,H' b=none)/\W i m p H':=λ{c z} t F=>by obtain⟨m',hm,w7⟩:=hN c z F;refine⟨m',hm,i+1,c,z,t.unpinned,T.keep _ _ _ C λb hb o e=>(t.pin (b,o) (bz _ (bz _ (pI hb e)))).1,λb hb=>?_,w7⟩;obtain⟨o,e,d⟩:=T.obj _ _ C b hb;exact(t.pin (b,o) (bz _ (bz _ (pI hb e)))).2.1
  cases f with
  | next=>obtain⟨c,z,t,F⟩:=B;exact again t F
  | cont=>obtain⟨c,z,t,F⟩:=B;exact again t F
  | brk=>obtain⟨c,z,t,B⟩:=B;exact⟨c,z,t.unpinned,B⟩
  | ret v=>obtain⟨x7,c,z,t,r7,B⟩:=B;exact⟨x7,c,z,t.unpinned,r7,B⟩
end
def O2 {K:dq}{a:Addr}{xs:List V}{g:TG}{o:TS}{D:jV}{c:St}{H:Hp}(Pv:Nat->St->Hp->Prop)(v:Pv 0 c H)(u:∀i c H,i<=xs.length->Pv i c H->fL K H a xs)
  (t:∀i x c H,xs[i]?=some x->Pv i c H->g x c H λd l=>o {D with nx:=Pv (i+1),ct:=Pv (i+1),bk:=D.nx} d l) (hd:∀c H,Pv xs.length c H->D.nx c H) :
  ∃W:Nat->Nat->St->Hp->Prop,(∃m,W 0 m c H)/\∀i m c H,W i m c H ->
   ((UD K a).stop i H/\D.nx c H)\/((UD K a).go i H/\∃N:St->Hp->Prop,(∀h H',N h H'->∃r,r<m/\W (i+1) r h H')/\∀x H',(UD K a).yld i H x H'->g x c H' λd l=>o {D with nx:=N,ct:=N,bk:=D.nx} d l):=by
 refine⟨λi m c H=>m=xs.length - i/\i<=xs.length/\Pv i c H,⟨xs.length,dl,aw _,v⟩,?_⟩;rintro i m c H ⟨rfl,hi,p⟩;have q:=u i c H hi p;by_cases j:i<xs.length
 ·refine .inr ⟨⟨xs,xs[i],q,by simp[j]⟩,Pv (i+1),λh H' s=>⟨xs.length - (i+1),dk,rfl,j,s⟩,λx H' y=>?_⟩;obtain⟨e,y⟩:=y;subst e;exact t i x c _ (y xs q) p
 ·have e:i=xs.length:=by lia
  subst e;exact .inl ⟨⟨xs,q,ac _⟩,hd c H p⟩
def SJ {K:dq}{a:Addr}{xs:List V}{g:TG}{o:TS}{D:jV}{c:St}{H:Hp}(Pv:Nat->St->Hp->Prop)(v:Pv 0 c H)(u:∀i c H,i<=xs.length->Pv i c H->iF K H a xs)
  (t:∀i x c H,xs[i]?=some x->Pv i c H->g x c H λd l=>o {D with nx:=Pv (i+1),ct:=Pv (i+1),bk:=D.nx} d l) (hd:∀c H,Pv xs.length c H->D.nx c H) :
  ∃W:Nat->Nat->St->Hp->Prop,(∃m,W 0 m c H)/\∀i m c H,W i m c H ->
   ((UC K a).stop i H/\D.nx c H)\/((UC K a).go i H/\∃N:St->Hp->Prop,(∀h H',N h H'->∃r,r<m/\W (i+1) r h H')/\∀x H',(UC K a).yld i H x H'->g x c H' λd l=>o {D with nx:=N,ct:=N,bk:=D.nx} d l):=by
 refine⟨λi m c H=>m=xs.length - i/\i<=xs.length/\Pv i c H,⟨xs.length,dl,aw _,v⟩,?_⟩;rintro i m c H ⟨rfl,hi,p⟩;have q:=u i c H hi p;by_cases j:i<xs.length
 ·refine .inr ⟨⟨xs,xs[i],q,by simp[j]⟩,Pv (i+1),λh H' s=>⟨xs.length - (i+1),dk,rfl,j,s⟩,λx H' y=>?_⟩;obtain⟨e,y⟩:=y;subst e;exact t i x c _ (y xs q) p
 ·have e:i=xs.length:=by lia
  subst e;exact .inl ⟨⟨xs,q,ac _⟩,hd c H p⟩
def LR {lo:Int}{n:Nat}{g:TG}{o:TS}{D:jV}{c:St}{H:Hp}(Pv:Nat->St->Hp->Prop)(t:Pv 0 c H)
  (s:∀i c H,i<n->Pv i c H->g (.int (lo+i)) c H λd l=>o {D with nx:=Pv (i+1),ct:=Pv (i+1),bk:=D.nx} d l) (hd:∀c H,Pv n c H->D.nx c H) :
  ∃W:Nat->Nat->St->Hp->Prop,(∃m,W 0 m c H)/\∀i m c H,W i m c H ->
   ((P7 lo n).stop i H/\D.nx c H)\/((P7 lo n).go i H/\∃N:St->Hp->Prop,(∀h H',N h H'->∃q,q<m/\W (i+1) q h H')/\∀x H',(P7 lo n).yld i H x H'->g x c H' λd l=>o {D with nx:=N,ct:=N,bk:=D.nx} d l):=by
 refine⟨λi m c H=>m=n - i/\i<=n/\Pv i c H,⟨n,dl,aw _,t⟩,?_⟩;rintro i m c H ⟨rfl,hi,p⟩;by_cases j:i<n
 ·refine .inr ⟨j,Pv (i+1),λh H' r=>⟨n - (i+1),dk,rfl,j,r⟩,λx H' y=>?_⟩;obtain⟨e,y⟩:=y;subst e y;exact s i c _ j p
 ·have e:i=n:=by lia
  subst e;exact .inl ⟨ac _,hd c H p⟩
abbrev R2:=V->V->Hp->VK->Prop
def jU (X:Cx)(f:dv->dv->Sem dv)(r:R2):Prop :=
 ∀(c:dD) (s:du) (σ:St) (H:Hp) (x y:V) (v u:dv) (Q:VK),aM X c σ H s->aQ x v->aQ y u->r x y H Q ->
  wpAny (model X.prog X.w) X.A (f v u) (EP X c σ Q) X.xe s
def XR (X:Cx)(f:dv->Sem dv)(r:V->Hp->VK->Prop):Prop :=
 ∀(c:dD) (s:du) (σ:St) (H:Hp) (x:V) (v:dv) (Q:VK),aM X c σ H s->aQ x v->r x H Q ->
  wpAny (model X.prog X.w) X.A (f v) (EP X c σ Q) X.xe s
def cV (X:Cx)(f:dv)(r:List V->Hp->VK->Prop):Prop :=
 ∀(c:dD) (s:du) (σ:St) (H:Hp) (xs:List V) (us:cX) (Q:VK),aM X c σ H s->aP xs us->r xs H Q ->
  wpAny (model X.prog X.w) X.A (call f us) (EP X c σ Q) X.xe s
def XS (X:Cx)(r:V->Hp->(Bool->Hp->Prop)->Prop):Prop :=
 ∀(c:dD) (s:du) (σ:St) (H:Hp) (x:V) (v:dv) (Q:Bool->Hp->Prop),aM X c σ H s->aQ x v->r x H Q ->
  wpAny (model X.prog X.w) X.A (truthy v) (TP X c σ Q) X.xe s
def tOp (r:R2)(e d:TE):TE:=λc H Q=>e c H λx h=>d c h λy g=>r x y g Q
def tUn (r:V->Hp->VK->Prop)(d:TE):TE:=λc H Q=>d c H λx e=>r x e Q
def rI (C:Int->Int->Prop)(g:Int->Int->V):R2:=λx y H Q=>∃i j,x = .int i/\y = .int j/\C i j/\Q (g i j) H
def rI0 (g:Int->Int->V):R2:=λx y H Q=>∃i j,x = .int i/\y = .int j/\Q (g i j) H
def rU (g:Int->V):V->Hp->VK->Prop:=λx H Q=>∃i,x = .int i/\Q (g i) H
section
variable {X:Cx}{a b c:Expr}{ta tb tc:TE}{pos:Pos}
def binT (r:PE X a ta)(hb:PE X b tb){c:dD}{s:du}{d:St}{H:Hp}{R:V->V->Hp->Prop}(I:aM X c d H s)
  (h:ta d H λx j=>tb d j λy e=>R x y e) {Q:cM} {f:dv->dv->Sem dv}
  (q:∀v u s2 x y e,aM X c d e s2->aQ x v->aQ y u->R x y e->wpAny (model X.prog X.w) X.A (f v u) Q X.xe s2) :
  wpAny (model X.prog X.w) X.A (eval a X.env) (λv i=>wpAny (model X.prog X.w) X.A (eval b X.env) (λu g=>wpAny (model X.prog X.w) X.A (f v u) Q X.xe g) X.xe i) X.xe s:=by
 refine thn (r c s d H _ I h) λv l ⟨x,j,z,r1,p⟩=>?_;refine thn (hb c l d j _ z p) λu s2 ⟨y,e,t,m,o⟩=>?_;exact q v u s2 x y e t r1 m o
def bW (ho:jU X (binaryOp op) r)(i:PE X a ta)(hb:PE X b tb):PE X (.BinOp a op b pos) (tOp r ta tb):=by intro c s d H Q I h;exact wpAny_BinOp (binT i hb I h λv u s2 x y l j g e q=>ho c s2 d l x y v u Q j g e q)
def TZ {r:V->Hp->VK->Prop}(ho:XR X (unaryOp op) r)(i:PE X a ta):PE X (.UnaryOp op a pos) (tUn r ta):=by intro c s d H Q I h;exact UnaryOp_ (thn (i c s d H _ I h) λv e ⟨x,l,j,r1,g⟩=>ho c e d l x v Q j r1 g)
def opI {f:dv->dv->Sem dv}{C:Int->Int->Prop}{g:Int->Int->Int}
  (c:∀(i j:Int) (t u:Tok) (s:du) (Q:cM) (E:cM),C i j->Q (.int (g i j) s.toks) {s with toks:=s.toks+1}->wpAny (model X.prog X.w) X.A (f (.int i t) (.int j u)) Q E s) :
  jU X f (rI C λi j=>.int (g i j)):=by
 intro d s m H x y v u Q I l e h;obtain⟨i,j,rfl,rfl,hc,q⟩:=h;obtain⟨t,rfl⟩:=l;obtain⟨t',rfl⟩:=e;exact c i j t t' s _ _ hc ⟨.int (g i j),H,I.tok _,⟨_,rfl⟩,q⟩
def opI0 {f:dv->dv->Sem dv}{g:Int->Int->Int}
  (c:∀(i j:Int) (t u:Tok) (s:du) (Q:cM) (E:cM),Q (.int (g i j) s.toks) {s with toks:=s.toks+1}->wpAny (model X.prog X.w) X.A (f (.int i t) (.int j u)) Q E s) :
  jU X f (rI0 λi j=>.int (g i j)):=by
 intro d s m H x y v u Q I l e h;obtain⟨i,j,rfl,rfl,q⟩:=h;obtain⟨t,rfl⟩:=l;obtain⟨t',rfl⟩:=e;exact c i j t t' s _ _ ⟨.int (g i j),H,I.tok _,⟨_,rfl⟩,q⟩
def opB0 {f:dv->dv->Sem dv}{g:Int->Int->Bool}
  (c:∀(i j:Int) (t u:Tok) (s:du) (Q:cM) (E:cM),Q (.bool (g i j)) s->wpAny (model X.prog X.w) X.A (f (.int i t) (.int j u)) Q E s) :
  jU X f (rI0 λi j=>.bl (g i j)):=by
 intro d s m H x y v u Q I l e h;obtain⟨i,j,rfl,rfl,q⟩:=h;obtain⟨t,rfl⟩:=l;obtain⟨t',rfl⟩:=e;exact c i j t t' s _ _ ⟨.bl (g i j),H,I,rfl,q⟩
def X4 (i j:Int):Prop:=0<j/\j<1073741824
def X3 (i j:Int):Prop:=0<=j/\j<=1000000/\i.natAbs<2 ^ 64
def WO (i j:Int):Prop:=(-(2 ^ 64)<i/\i<2 ^ 64)\/(-(2 ^ 64)<j/\j<2 ^ 64)
def WO.ok (h:WO i j):IntMulOk i j:=by
 rcases h with⟨d,c⟩|⟨d,c⟩
 ·exact .of_left (intBits_le_64 d c)
 ·exact .of_right (intBits_le_64 d c)
def VB:jU X (binaryOp .Add) (rI0 λi j=>.int (i+j)):=opI0 λ_ _ _ _ _ _ _ q=>add_int q
def sK:jU X (binaryOp .Sub) (rI0 λi j=>.int (i - j)):=opI0 λ_ _ _ _ _ _ _ q=>sub_int q
def sN:jU X (binaryOp .Mult) (rI WO λi j=>.int (i * j)):=opI λ_ _ _ _ _ _ _ hc q=>mul_int q hc.ok
def BX:jU X (binaryOp .FloorDiv) (rI X4 λi j=>.int (i / j)):=opI λi j _ _ _ _ _ hc q=>by have d:(0:Int)<j:=hc.1;have c:j<1073741824:=hc.2;exact floordiv_int dk (by rw[Int.fdiv_eq_ediv_of_nonneg i dk];exact q) (.inl (PyProof.noPylong_small dk))
def wJ:jU X (binaryOp .Mod) (rI (λ_ j=>0<j) λi j=>.int (i % j)):=opI λi j _ _ _ _ _ hc q=>by have c:(0:Int)<j:=hc;exact mod_int' dk (by rw[Int.fmod_eq_emod_of_nonneg i dk];exact q)
def U8:jU X (binaryOp .Pow) (rI X3 λi j=>.int (i ^ j.toNat)):=opI λ_ _ _ _ _ _ _ hc q=>pow_int_small hc.1 hc.2.1 hc.2.2 q
def unI {f:dv->Sem dv}{g:Int->Int}
  (c:∀(i:Int) (t:Tok) (s:du) (Q:cM) (E:cM),Q (.int (g i) s.toks) {s with toks:=s.toks+1}->wpAny (model X.prog X.w) X.A (f (.int i t)) Q E s) :
  XR X f (rU λi=>.int (g i)):=by
 intro d s j H x v Q I e h;obtain⟨i,rfl,q⟩:=h;obtain⟨t,rfl⟩:=e;exact c i t s _ _ ⟨.int (g i),H,I.tok _,⟨_,rfl⟩,q⟩
def MO:XR X (unaryOp .USub) (rU λi=>.int (-i)):=unI λ_ _ _ _ _ q=>neg_int q
def CV {c:dD}{d:St}{H:Hp}{s:du}{Q:VK}{k g:Bool}(I:aM X c d H s)(q:Q (.bl k) H)(e:k=g):EP X c d Q (.bool g) s:=by subst e;exact⟨.bl k,H,I,rfl,q⟩
def WZ:jU X (compareOp .Lt) (rI0 λi j=>.bl (decide (i<j))):=opB0 λ_ _ _ _ _ _ _ q=>lt_int q
def qT:jU X (compareOp .LtE) (rI0 λi j=>.bl (decide (i<=j))):=opB0 λ_ _ _ _ _ _ _ q=>le_int q
def EA:jU X (compareOp .Gt) (rI0 λi j=>.bl (decide (j<i))):=opB0 λ_ _ _ _ _ _ _ q=>gt_int q
def T1:jU X (compareOp .GtE) (rI0 λi j=>.bl (decide (j<=i))):=opB0 λ_ _ _ _ _ _ _ q=>ge_int q
def KS:jU X (compareOp .Lt) (λx y H Q=>∃i j,x = .str i/\y = .str j/\Q (.bl (decide (i.cps.toList<j.cps.toList))) H):=by intro c s g H x y v u Q I e d h;obtain⟨i,j,rfl,rfl,q⟩:=h;obtain⟨t,rfl⟩:=e;obtain⟨t',rfl⟩:=d;exact lt_str (CV I q rfl)
def sO:jU X (compareOp .In) (λx y H Q=>∃i j,x = .str i/\y = .str j/\Q (.bl (!(Builtin.Str.occurrences j i 0 j.length 1).isEmpty)) H):=by intro c s g H x y v u Q I e d h;obtain⟨i,j,rfl,rfl,q⟩:=h;obtain⟨t,rfl⟩:=e;obtain⟨t',rfl⟩:=d;exact in_str (CV I q rfl)
def U9:jU X (compareOp .Is) (λx y H Q=>y = .non/\Q (.bl (decide (x = .non))) H):=by
 intro d s g H x y v u Q I c e h;obtain⟨rfl,q⟩:=h;cases e;refine is_none_gen (CV I q ?_);cases x <;> first
  | (cases c;rfl)
  | (obtain⟨t,rfl⟩:=c;rfl)
def RE:jU X (compareOp .IsNot) (λx y H Q=>y = .non/\Q (.bl (!decide (x = .non))) H):=by
 intro d s g H x y v u Q I c e h;obtain⟨rfl,q⟩:=h;cases e;refine isnot_none_gen (CV I q ?_);cases x <;> first
  | (cases c;rfl)
  | (obtain⟨t,rfl⟩:=c;rfl)
def jU.or {f:dv->dv->Sem dv}(h:jU X f r)(h':jU X f r'):jU X f (λx y H Q=>r x y H Q\/r' x y H Q):=by
 intro c s d H x y v u Q I g e q;rcases q with q|q
 ·exact h c s d H x y v u Q I g e q
 ·exact h' c s d H x y v u Q I g e q
def nomark (b:Expr)(h:op≠.In:=by decide)(c:op≠.NotIn:=by decide):behindInMarks op b=false:=by
 have e:(op == CmpOp.In)=false:=by cases op <;> first|rfl|exact absurd rfl h
 have d:(op == CmpOp.NotIn)=false:=by cases op <;> first|rfl|exact absurd rfl c
 cases b <;> simp[behindInMarks,e,d]
def dY (ho:jU X (compareOp op) r)(j:PE X a ta)(hb:PE X b tb)(i:behindInMarks op b=false:=by exact nomark _):PE X (.Compare a [op] [b] pos) (tOp r ta tb):=by intro c s d H Q I h;exact wpAny_Compare1 (binT j hb I h λv u s2 x y m l g e q=>ho c s2 d m x y v u Q l g e q) i
def tTest (t:TE):TT:=λc H Q=>t c H λx H'=>∃k,x = .bl k/\Q k H'
def aR (ho:jU X (compareOp op) r)(t:PE X a ta)(hb:PE X b tb)(q:behindInMarks op b=false:=by exact nomark _):PT X (.Compare a [op] [b] pos) (tTest (tOp r ta tb)):=by
 intro d s g H Q I h
 refine wpAny_isTrue_Compare1 (thn (t d s g H _ I h) λv i ⟨x,F,B,r1,p⟩=>thn (hb d i g F _ B p) λu s2 ⟨y,E,A,l,o⟩ =>
  thn (ho d s2 g E x y v u _ A r1 l o) λc G ⟨z,C,w,j,k,e,m⟩=>?_) q
 subst e;cases j;exact wpAny_truthy_bool ⟨C,w,m⟩
def tChain (r j:R2)(i h g:TE):TE:=λc H Q=>i c H λx o=>h c o λy m=>r x y m λz d=>∃k,z = .bl k /\
 (if k=true then g c d λe l=>j y e l Q else Q (.bl false) d)
def nL (ho:jU X (compareOp op) r)(j:jU X (compareOp op') r')(P:PE X a ta)(hb:PE X b tb)(hc:PE X c tc)
  (O:lastMarks [op,op'] [b,c]=false:=by with_unfolding_all rfl):PT X (.Compare a [op,op'] [b,c] pos) (tTest (tChain r r' ta tb tc)):=by
 intro g s i H Q I h
 refine isTrue_chain (thn (P g s i H _ I h) λv B ⟨x,H1,Y,r1,L⟩=>test_link (thn (hb g B i H1 _ Y L) λu s2 ⟨y,H2,W,l,K⟩ =>
  thn (ho g s2 i H2 x y v u _ W r1 l K) λd A ⟨z,p,o,F,k,e,m⟩=>?_)) O
 subst e;cases F;refine wpAny_truthy_bool ?_;cases k with
 | false =>
  obtain⟨k',S,N⟩:=m;cases S;exact ite_ff ⟨p,o,N⟩
 | true =>
  refine ite_tt (test_last (thn (hc g A i p _ o m) λt w ⟨q,H4,U,E,J⟩=>thn (j g w i H4 y q u t _ U l E J) λd' s5 ⟨z2,Z,T,C,k2,R,G⟩=>?_));subst R;cases C;exact wpAny_truthy_bool ⟨Z,T,G⟩
def TF (K:dq)(x:V)(H:Hp)(k:Bool):Prop :=
 match x with
 | .non=>k=false
 | .bl b=>k=b
 | .int i=>k=(i != 0)
 | .str y=>y.length<=sizeLine/\k=((y.length:Int) != 0)
 | .byt y=>y.size<=sizeLine/\k=((y.size:Int) != 0)
 | .ref p=>(∃xs,fL K H p xs/\k=!xs.isEmpty)\/(∃xs,iF K H p xs/\k=!xs.isEmpty)\/∃c,H p=some (.dK c)/\k=!c.isEmpty
 | _=>False
def HK {d:Type}{c:List (d×V)}{vs:List (d×dv)}(r:KV c vs):(!vs.isEmpty)=!c.isEmpty:=by cases r <;> rfl
def wZ (r:aP xs its):(!its.toArray.isEmpty)=!xs.isEmpty:=by cases r <;> simp
def line63:(sizeLine:Nat)<2 ^ 63:=by rw[sizeLine_eq];decide
def UO:XS X (λx H Q=>∃k,TF X.K x H k/\Q k H):=by
 intro o s u H x v Q I j h;obtain⟨k,e,q⟩:=h;have A:=line63;have z:sizeLine=16777216:=sizeLine_eq;cases x with
 | non =>
  cases j;have c:k=false:=e;subst c;exact truthy_none ⟨H,I,q⟩
 | bl b =>
  cases j;have c:k=b:=e;subst c;exact wpAny_truthy_bool ⟨H,I,q⟩
 | int i =>
  obtain⟨t,rfl⟩:=j;have c:k=(i != 0):=e;subst c;exact PySem.P.truthy_int ⟨H,I,q⟩
 | str y =>
  obtain⟨t,rfl⟩:=j;obtain⟨hy,c⟩:y.length<=sizeLine/\k=((y.length:Int) != 0):=e;subst c;exact PySem.P.truthy_str dk ⟨H,I.tok _,q⟩
 | byt y =>
  obtain⟨t,rfl⟩:=j;obtain⟨hy,c⟩:y.size<=sizeLine/\k=((y.size:Int) != 0):=e;subst c;exact PySem.W.truthy_bytes dk ⟨H,I.tok _,q⟩
 | ref p =>
  cases j;have c:(∃xs,fL X.K H p xs/\k=!xs.isEmpty)\/(∃xs,iF X.K H p xs/\k=!xs.isEmpty)\/∃d,H p=some (.dK d)/\k=!d.isEmpty:=e;rcases c with⟨xs,l,c⟩|⟨xs,l,c⟩|⟨d,l,c⟩
  ·subst c;obtain⟨its,r,pl,hz⟩:=I.list l;have g:=r.length;exact wpAny_truthy_list pl.isList (by simp only[ag];lia) ⟨H,I.tok _,by rw[wZ r];exact q⟩
  ·subst c;obtain⟨its,r,pl,hz⟩:=I.tuple l;have g:=r.length;exact truthy_tuple pl (by simp only[ag];lia) ⟨H,I.tok _,by rw[wZ r];exact q⟩
  ·subst c;obtain⟨hz,hS,vs,r,m⟩:d.length<=sizeLine/\(p == sysModules)=false/\∃vs,KV d vs/\s.heap.DictOf (bM X.prog X.w) p vs:=I.hok p _ l;have g:d.length=vs.length:=Paired.length r;exact wpAny_truthy_dict hS m dk ⟨H,I.tok _,by rw[HK r];exact q⟩
 | _=>exact(show False from e).elim
def ND (l:PE X a ta)(j:∀c,isTrue a X.env c=(do let v ←c;standAt a.pos;holding [v] (truthy v))) :
  PT X a (λe H Q=>ta e H λx H'=>∃k,TF X.K x H' k/\Q k H'):=by
 intro d s e H Q I h;exact isTrue_plain (thn (l d s e H _ I h) λv g ⟨x,o,m,r1,i⟩=>UO d g e o x v Q m r1 i) (j _)
def GG:jU X (binaryOp .Add) (λx y H Q=>∃i j,x = .str i/\y = .str j/\i.length+j.length<=sizeLine/\Q (.str (i++j)) H):=by intro c s g H x y v u Q I e d h;obtain⟨i,j,rfl,rfl,hz,q⟩:=h;obtain⟨t,rfl⟩:=e;obtain⟨t',rfl⟩:=d;exact add_str (λt' tk=>⟨.str (i++j),H,I.tok _,⟨_,rfl⟩,q⟩) hz
def vals1 (r:aP [x] us):∃u,us=[u]/\aQ x u:=by
 cases r with
 | cons r1 c=>cases c;exact⟨_,rfl,r1⟩
def vals2 (r:aP [x,y] us):∃u c,us=[u,c]/\aQ x u/\aQ y c:=by
 cases r with
 | cons r1 g =>
  cases g with
  | cons e d=>cases d;exact⟨_,_,rfl,r1,e⟩
def PQ:cV X (.builtin "abs") (λxs H Q=>∃i,xs=[.int i]/\Q (.int (if i<0 then -i else i)) H):=by intro c s d H xs us Q I r h;obtain⟨i,rfl,q⟩:=h;obtain⟨u,rfl,t,rfl⟩:=vals1 r;exact call_abs_int λu tk=>⟨.int (if i<0 then -i else i),H,I.tok _,⟨_,rfl⟩,q⟩
def MA (hc:X.calm=true):cV X (.builtin "max") (λxs H Q=>∃i j,xs=[.int i,.int j]/\Q (.int (if j > i then j else i)) H):=by
 intro d s e H xs us Q I r h;obtain⟨i,j,rfl,q⟩:=h;obtain⟨u,g,rfl,⟨t,rfl⟩,⟨t',rfl⟩⟩:=vals2 r;refine max_two_ints (I.ok.hd hc) λh' tk k=>⟨_,H,I.kept k,?_,q⟩
 by_cases c:j > i
 ·rw[ai c,ai c];exact⟨_,rfl⟩
 ·rw[ab c,ab c];exact⟨_,rfl⟩
def L8 (hc:X.calm=true):cV X (.builtin "min") (λxs H Q=>∃i j,xs=[.int i,.int j]/\Q (.int (if j<i then j else i)) H):=by
 intro d s e H xs us Q I r h;obtain⟨i,j,rfl,q⟩:=h;obtain⟨u,g,rfl,⟨t,rfl⟩,⟨t',rfl⟩⟩:=vals2 r;refine min_two_ints (I.ok.hd hc) λh' tk k=>⟨_,H,I.kept k,?_,q⟩
 by_cases c:j<i
 ·rw[ai c,ai c];exact⟨_,rfl⟩
 ·rw[ab c,ab c];exact⟨_,rfl⟩
def MC:cV X (.type "int") (λxs H Q=>(∃i,xs=[.int i]/\Q (.int i) H)\/∃k,xs=[.bl k]/\Q (.int (if k then 1 else 0)) H):=by
 intro c s d H xs us Q I r h;rcases h with⟨i,rfl,q⟩|⟨k,rfl,q⟩
 ·obtain⟨u,rfl,t,rfl⟩:=vals1 r;exact call_int_int ⟨.int i,H,I,⟨_,rfl⟩,q⟩
 ·obtain⟨u,rfl,r1⟩:=vals1 r;cases r1;exact call_int_bool ⟨.int (if k then 1 else 0),H,I.tok _,⟨_,rfl⟩,q⟩
end
structure IH (h:Heap)(x dx C:Addr)(mA:jS):Prop where
 obj:h.get? x=some (PySem.W.instObj C dx)
 ns:h.Ns1 dx mA
 ne:dx≠x
def LC {h:Heap}{i:Addr}{d:jS}(n:h.Ns1 i d):∃od,h.get? i=some od/\∀name,PySem.W.lookIn name od=some (d name):=by
 obtain⟨o,g,p,ho,hd,m,_,l⟩:=n;refine⟨o,ho,λname=>?_⟩;have e:=l name;unfold nsFind findBy at e;rw[←Array.find?_toList]at e;unfold PySem.W.lookIn;rw[hd];dsimp only;split
 ·rename_i y q;rw[q]at e;exact congrArg some e
 ·rename_i q;rw[q]at e;have a:g.toList.any (·.refKey)=false:=by rw[List.any_eq_false];intro y j;obtain⟨z,t,c⟩:=m y (Array.mem_toList_iff.mp j);simp[DictEntry.refKey,c]
  have a':¬g.toList.any (·.refKey)=true:=by rw[a];exact Bool.false_ne_true
  rw[ab a'];exact congrArg some e
def IH.look {c:jS}(I:IH h x dx C c):∃od,PySem.W.InstAt h x (PySem.W.instObj C dx) C (some od)/\∀name,PySem.W.lookIn name od=some (c name) :=
 let⟨od,ho,hl⟩:=LC I.ns
 ⟨od,⟨I.obj,rfl,rfl,ho⟩,hl⟩
section
variable {prog:dw}{w:dy}{A:dz}{E:cM}{s:du}{K:dq}{x dx C f:Addr}{mA:jS}{name:Str}{v:dv}
def SG {Q:cM}(X:K.In s.heap)(I:IH s.heap x dx C mA)(i:PySem.W.plainGet K C name=true)(g:PySem.W.hasDictIn K C=true)
  (j:PySem.W.findIn K (.ref C) name=some none) (d:mA name=some v) (c:PySem.W.handedIn v=true) (h:Q v {s with toks:=s.toks+1}) :
  wpAny (model prog w) A (getAttr (.ref x) name expr) Q E s:=by
 obtain⟨od,J,e⟩:=I.look;exact PySem.W.get_value X J (PySem.W.plainGet_of i).1 (PySem.W.findObj_own g j rfl (by rw[e,d])) c h
def OZ {Q:dv×cX->du->Prop}(X:K.In s.heap)(I:IH s.heap x dx C mA)(c:PySem.W.plainGet K C name=true)
  (i:PySem.W.findIn K (.ref C) name=some (some (.ref f))) (e:PySem.W.isFn K (.ref f)=true) (d:mA name=none) (h:Q (.ref f,[.ref x]) s) :
  wpAny (model prog w) A (getMethod (.ref x) name pl) Q E s:=by
 obtain⟨od,J,g⟩:=I.look;exact PySem.W.method_fn X J (PySem.W.plainGet_of c).1 (PySem.W.plainGet_of c).2 i (beq_iff_eq.mp e) (by show(PySem.W.lookIn name od).map (·.isSome)=some false;rw[g,d];rfl) h
def QJ {Q:Unit->du->Prop}(X:K.In s.heap)(I:IH s.heap x dx C mA)
  (p:PySem.W.findIn K (.ref C) "__setattr__" = some (some (.builtin "object.__setattr__"))) (q:PySem.W.plainOver K C=true) (o:PySem.W.takerIn K C name=some none) (t:PySem.W.hasDictIn K C=true)
  (m:PySem.Within mA ns) (hsz:ns.length<=sizeLine)
  (h:∀h',IH h' x dx C (λy=>if y=name then some v else mA y)->Heap.SameBut dx s.heap h'->Q () {s with heap:=h',toks:=s.toks+2}) :
  wpAny (model prog w) A (setAttr (.ref x) name v) Q E s:=by
 obtain⟨od,J,F⟩:=I.look;refine PySem.W.set_plain X J p (PySem.W.osa_open (s:={s with toks:=s.toks+1}) (r:=none) X J q o λb=>?_);obtain⟨G,hc,i⟩:=PySem.W.any_some t;have l:s.heap.get? x=some ⟨.ref C,some dx,.plain,#[]⟩:=I.obj;refine aa (ak (aa (aa (wpAny_loadPart l (aa (PySem.W.Looks.here (s:={s with toks:=s.toks+1}) (PySem.W.looks_clsIn X hc) ?_))))));rw[i];refine ak (a:=some dx) (aa (ak (aa ?_)));refine wpAny_nsSet1 (s:={s with toks:=s.toks+1}) I.ns λh' d c=>?_;obtain⟨B,u,z,e,g,j⟩:=d.count (PySem.Within.cons name v m);refine aa (wpAny_lookBehind e (by rw[g];exact pastItsLine_dict (ao j (by rw[aq];lia))) ?_);exact ak (h _ ⟨(c.2 _ (Ne.symm I.ne)).trans I.obj,d,I.ne⟩ c)
def OK {R:Result->du->Prop}(X:K.In s.heap)(c:PySem.W.makesIn K C=true)
  (hi:PySem.W.findIn K (.ref C) "__init__" = some (some (.ref f))) (e:PySem.W.typeIn K (.ref f)=some (.type "function"))
  (h:codeAny (model prog w) (A.under (.builtin "type.__call__" ⟨.ref C::vs,kw⟩)) (.call (.ref f) ⟨.ref (s.heap.objs.size+1)::vs,kw⟩) (PySem.W.InitBack (s.heap.objs.size+1) R)
   {s with heap:=(s.heap.push PySem.W.emptyDict).push (PySem.W.instObj C s.heap.objs.size)}) :
  codeAny (model prog w) A (.call (.ref C) ⟨vs,kw⟩) R s:=by
 obtain⟨i,g,d,t,os⟩:=s;exact PySem.W.make_core (PySem.W.makes_of X c) (PySem.W.looks_findIn X hi) (λself=>PySem.W.bind_fn X self e) (.inl rfl) h
end
noncomputable def putF (f:Str)(v:V):List (Str×V)->List (Str×V)
 | []=>[(f,v)]
 | (g,x)::r=>if g=f then(g,v)::r else(g,x)::putF f v r
theorem cP (f g:Str)(v:V):∀fs:List (Str×V),(putF f v fs).lookup g=if g=f then some v else fs.lookup g
 | []=>by
  show List.lookup g [(f,v)]=_;by_cases h:g=f
  ·have hb:(g == f)=true:=beq_iff_eq.mpr h;simp only[List.lookup,hb,ai h]
  ·have hb:(g == f)=false:=cz.mpr h;simp only[List.lookup,hb,ab h]
 | (k,x)::r=>by
  have d:=cP f g v r;rw[show putF f v ((k,x)::r)=(if k=f then(k,v)::r else(k,x)::putF f v r)from rfl];by_cases c:k=f
  ·rw[ai c];by_cases h:g=k
   ·have hb:(g == k)=true:=beq_iff_eq.mpr h;simp only[List.lookup,hb,ai (h.trans c)]
   ·have hb:(g == k)=false:=cz.mpr h;simp only[List.lookup,hb,ab (λe:g=f=>h (e.trans c.symm))]
  ·rw[ab c];by_cases h:g=k
   ·have hb:(g == k)=true:=beq_iff_eq.mpr h;simp only[List.lookup,hb,ab (λe:g=f=>c (h.symm.trans e))]
   ·have hb:(g == k)=false:=cz.mpr h;simp only[List.lookup,hb];exact d
theorem sW (f:Str)(v:V):∀fs:List (Str×V),f∈(putF f v fs).map (·.1)/\∀g,g∈fs.map (·.1)->g∈(putF f v fs).map (·.1)
 | []=>⟨by simp[putF],λg h=>by simp at h⟩
 | (k,x)::r=>by
  obtain⟨i,d⟩:=sW f v r;rw[show putF f v ((k,x)::r)=(if k=f then(k,v)::r else(k,x)::putF f v r)from rfl];by_cases c:k=f
  ·rw[ai c];subst c;exact⟨dl,λg h=>by simpa using h⟩
  ·rw[ab c];refine⟨?_,λg h=>?_⟩
   ·rw[bf];exact ba _ i
   ·rw[bf]at h⊢;rcases cw.mp h with e|e
    ·exact cw.mpr (.inl e)
    ·exact ba _ (d g e)
theorem gI (f:Str)(v:V):∀fs:List (Str×V),(putF f v fs).length<=fs.length+1
 | []=>by simp[putF]
 | (k,x)::r=>by
  have d:=gI f v r;rw[show putF f v ((k,x)::r)=(if k=f then(k,v)::r else(k,x)::putF f v r)from rfl];by_cases c:k=f
  ·rw[ai c,aq,aq];lia
  ·rw[ab c,aq,aq];lia
def m8.some_of (r:m8 (some v) o):∃u,o=some u/\aQ v u:=by
 cases o with
 | none=>exact(show False from r).elim
 | some u=>exact⟨u,rfl,r⟩
def m8.none_of (r:m8 none o):o=none:=by
 cases o with
 | none=>rfl
 | some u=>exact(show False from r).elim
def LQ (r:aQ v u):PySem.W.handedIn u=true:=by
 cases v with
 | non=>cases (show u=Value.none from r);rfl
 | bl b=>cases (show u=Value.bool b from r);rfl
 | int i=>obtain⟨t,e⟩:=(show ∃t,u=Value.int i t from r);cases e;rfl
 | str x=>obtain⟨t,e⟩:=(show ∃t,u=Value.str x t from r);cases e;rfl
 | byt b=>obtain⟨t,e⟩:=(show ∃t,u=Value.bytes b t from r);cases e;rfl
 | flt b=>obtain⟨t,e⟩:=(show ∃t,u=Value.float b t from r);cases e;rfl
 | ref a=>cases (show u=Value.ref a from r);rfl
 | ty n=>cases (show u=Value.type n from r);rfl
section
variable {P:dw}{w:dy}{H H':Hp}{h h':Heap}{a C dx:Addr}{fs fs':List (Str×V)}
def CK (hok:hV P w H h)(e:H a=some (.ins C dx fs)):∃c,IH h a dx C c/\(∀f,m8 (fs.lookup f) (c f))/\PySem.Within c (fs.map (·.1))/\fs.length<=1000/\H dx=some (.own a):=by
 obtain⟨d,z,ne,g,c,n,r,q⟩:=(show cK P w H h a (.ins C dx fs)from hok a _ e)
 exact⟨c,⟨g,n,ne⟩,r,q,z,d⟩
end
structure MI (K:dq)(C:Addr):Prop where
 pg:PySem.W.plainGet K C Str.empty=true
 hd:PySem.W.hasDictIn K C=true
 po:PySem.W.plainOver K C=true
 sa:PySem.W.findIn K (.ref C) "__setattr__" = some (some (.builtin "object.__setattr__"))
def MI.get {K:dq}{C:Addr}(c:MI K C)(f:Str):PySem.W.plainGet K C f=true:=c.pg
def iZ (K:dq)(C:Addr)(f:Str):Prop:=PySem.W.findIn K (.ref C) f=some none
def iZ.taker {K:dq}{C:Addr}{f:Str}(n:iZ K C f):PySem.W.takerIn K C f=some none:=by unfold PySem.W.takerIn;rw[show PySem.W.findIn K (.ref C) f=some none from n];rfl
structure TK (K:dq)(C:Addr)(m:Str)(f:Addr):Prop where
 at_:PySem.W.findIn K (.ref C) m=some (some (.ref f))
 fn:PySem.W.isFn K (.ref f)=true
 kp:PySem.W.keepIn K (.ref f)=true
section
variable {X:Cx}{pins:dD}{σ:St}{H:Hp}{s:du}{a C dx:Addr}{fs:List (Str×V)}{f:Str}{v:V}{A:dz}{E:cM}
def HM {b:Bool}{Q:cM}(I:aM X pins σ H s)(e:H a=some (.ins C dx fs))(c:MI X.K C)(n:iZ X.K C f)(l:fs.lookup f=some v)
  (h:∀u d,aM X pins σ H d->aQ v u->Q u d):wpAny (model X.prog X.w) A (getAttr (.ref a) f b) Q E s:=by
 obtain⟨i,O,r,_,_,_⟩:=CK I.hok e;obtain⟨u,j,g⟩:=m8.some_of (v:=v) (o:=i f) (by rw[←l];exact r f);exact SG I.kIn O (c.get f) c.hd n j (LQ g) (h u _ (I.tok _) g)
def xB {m:Str}{g:Addr}{pl:Sem Bool}{Q:dv×cX->du->Prop}(I:aM X pins σ H s)(e:H a=some (.ins C dx fs))(c:MI X.K C)(k:TK X.K C m g)(l:fs.lookup m=none)
  (h:Q (.ref g,[.ref a]) s):wpAny (model X.prog X.w) A (getMethod (.ref a) m pl) Q E s:=by
 obtain⟨d,O,r,_,_,_⟩:=CK I.hok e;have i:d m=none:=m8.none_of (by rw[←l];exact r m);exact OZ I.kIn O (c.get m) k.at_ k.fn i h
def F4 {y:V}{u:dv}{Q:Unit->du->Prop}(I:aM X pins σ H s)(e:H a=some (.ins C dx fs))(c:MI X.K C)(n:iZ X.K C f)(t:fs.length<1000)(m:aQ y u)
  (h:∀j,aM X pins σ (upd H a (.ins C dx (putF f y fs))) j->Q () j):wpAny (model X.prog X.w) A (setAttr (.ref a) f u) Q E s:=by
 obtain⟨l,O,r,i,_,ho⟩:=CK I.hok e;have hz:(fs.map (·.1)).length<=sizeLine:=by rw[ae,sizeLine_eq];lia
 refine QJ I.kIn O c.sa c.po n.taker c.hd i hz λh' d sb=>h _ ?_;have hd:∃o,h'.get? dx=some o:=let⟨o,_,_,e',_⟩:=d.ns;⟨o,e'⟩;refine I.write (x:=a) (e:=dx) (by rw[e];exact True.intro) (.inr ho) (λb q hb z=>(sb.2 b hb).trans z) hd ?_;refine⟨by rw[aC O.ne];exact ho,?_,O.ne,d.obj,_,d.ns,λg=>?_,λg p=>?_⟩
 ·have:=gI f y fs;lia
 ·show m8 ((putF f y fs).lookup g) (if g=f then some u else l g);rw[cP];by_cases q:g=f
  ·rw[ai q,ai q];exact m
  ·rw[ab q,ab q];exact r g
 ·by_cases q:g=f
  ·rw[q];exact(sW f y fs).1
  ·refine(sW f y fs).2 g (i g λz=>p ?_);show(if g=f then some u else l g)=none;rw[ab q];exact z
def aM.made (I:aM X pins σ H s):aM X pins σ (upd (upd H s.heap.objs.size (.own (s.heap.objs.size+1))) (s.heap.objs.size+1) (.ins C s.heap.objs.size []))
  {s with heap:=(s.heap.push PySem.W.emptyDict).push (PySem.W.instObj C s.heap.objs.size)}:=by
 have c:(s.heap.push PySem.W.emptyDict).get? s.heap.objs.size=some PySem.W.emptyDict:=av s.heap rfl;have i:((s.heap.push PySem.W.emptyDict).push (PySem.W.instObj C s.heap.objs.size)).get? (s.heap.objs.size+1)=some (PySem.W.instObj C s.heap.objs.size):=by
  have:=av (s.heap.push PySem.W.emptyDict) (o:=PySem.W.instObj C s.heap.objs.size) rfl
  rwa [Heap.size_push]at this
 have h:(s.heap.push PySem.W.emptyDict).Ns s.heap.objs.size (λ_=>none):=⟨PySem.W.emptyDict,#[],_,c,rfl,(λe g=>absurd g dl),λ_=>rfl⟩
 have j:=I.laid (a:=s.heap.objs.size) (o:=.own (s.heap.objs.size+1)) (h':=s.heap.push PySem.W.emptyDict) (t':=s.toks) (λb u q=>af _ q) (ac _) ⟨_,c⟩;refine j.laid (a:=s.heap.objs.size+1) (o:=.ins C s.heap.objs.size []) (t':=s.toks) (λb u q=>af _ q) (Nat.le_of_eq (Heap.size_push _ _)) ?_;have ne:s.heap.objs.size≠s.heap.objs.size+1:=bq (Nat.lt_succ_self _);refine⟨by rw[aC ne,ec],aw _,ne,i,λ_=>none,(Heap.Ns1.of_empty h).at λo q=>af _ q,λ_=>True.intro,λy d=>absurd rfl d⟩
def S6 {Q:cM}(hb:attributeBase e f env (eval e env)=eval e env)
  (h:wpAny (model prog w) A (eval e env) (λo c=>wpAny (model prog w) A (getAttr o f true) Q E c) E s):wpAny (model prog w) A (eval (.Attribute e f pos) env) Q E s :=
 Attribute_any_ h (by rw[arm_eval_Attribute,hb])
end
def tFld (K:dq)(e:TE)(f:Str):TE:=λd H Q=>e d H λx c=>∃a C g fs v,x = .ref a/\c a=some (.ins C g fs)/\MI K C/\iZ K C f/\fs.lookup f=some v/\Q v c
def sFld (K:dq)(h g:TE)(f:Str):TS:=λD c H=>g c H λy i=>h c i λx e=>∃a C d fs,x = .ref a/\e a=some (.ins C d fs)/\MI K C/\iZ K C f/\fs.length<1000 /\
 D.nx c (upd e a (.ins C d (putF f y fs)))
section
variable {X:Cx}{o e value:Expr}{f:Str}{pos pos' tpos:Pos}{ta tv:TE}
def NM (m:PE X e ta)(hb:attributeBase e f X.env (eval e X.env)=eval e X.env):PE X (.Attribute e f pos) (tFld X.K ta f):=by intro d s g H Q I h;refine S6 hb (thn (m d s g H _ I h) λu z ⟨x,t,r,i,a,C,A,fs,v,ex,o,c,n,l,q⟩=>?_);subst ex;obtain rfl:u=Value.ref a:=i;exact HM r o c n l λw s2 p j=>⟨v,t,p,j,q⟩
def BK (v:PE X o ta)(r:PE X value tv)(t:swapsWith value (some (.Attribute o f pos')) pos.line X.env=pure false):PS X (.Assign [.Attribute o f pos'] value pos) (sFld X.K ta tv f):=by intro d s e H D I h;refine plainObj_wpAny_Assign_Attribute (thn (r d s e H _ I h) λu g ⟨y,E,B,i,q⟩=>thn (v d g e E _ B q) λp s2 ⟨x,J,A,j,a,C,G,fs,ex,w,c,n,l,m⟩=>?_) t;subst ex;obtain rfl:p=Value.ref a:=j;exact F4 A w c n l i λF z=>⟨e,_,z,m⟩
def T3 {pl:Sem Bool}{m:Str}{i:Pos}{args:pV}{d:dD}{s:du}{j:St}{H:Hp}{Q:cM}{r:TE}(E:PE X e r)(I:aM X d j H s)
  (h:r j H λx p=>∃a C t fs g,x = .ref a/\p a=some (.ins C t fs)/\MI X.K C/\TK X.K C m g/\fs.lookup m=none /\
   ∀o,aM X d j p o->wpAny (model X.prog X.w) X.A (callWith pos (.ref g) [.ref a] (backTo pos (starEach args X.env)) (backToKw pos (keywordEach [] X.env))) Q X.xe o)
  (B:eval (.Call (.Attribute e m i) args [] pos) X.env=(do
   let ov ←eval e X.env
   standAt i.atName
   let(f,first) ←holding [ov] (getMethod ov m pl)
   callWith pos f first (backTo pos (starEach args X.env)) (backToKw pos (keywordEach [] X.env)))) :
  wpAny (model X.prog X.w) X.A (eval (.Call (.Attribute e m i) args [] pos) X.env) Q X.xe s:=by
 refine PySem.W.methodCall_KW (pl:=pl) (thn (E d s j H _ I h) λu o ⟨x,p,v,z,a,C,t,fs,g,ex,F,c,k,l,q⟩=>?_) B;subst ex;obtain rfl:u=Value.ref a:=z;exact xB v F c k l (q o v)
end
structure d9 (k:Nat)(A:dz):Prop where
 hd:A.handled=none
 dp:A.depth+3 * k+5<recursionLimit
 un:A.units+16 * k+200<cLine
def d9.mono (r:d9 k A)(h:j<=k):d9 j A:=⟨r.hd,by have:=r.dp;lia,by have:=r.un;lia⟩
def d9.deeper (r:d9 (k+1) A)(env:Env):d9 k (A.deeper env) :=
 ⟨r.hd,by have:=r.dp;show A.depth+1+3 * k+5<_;lia,by have:=r.un;show A.units+3+16 * k+200<_;lia⟩
def d9.in1 (r:d9 (k+1) A):d9 k A.in1 :=
 ⟨r.hd,by have:=r.dp;show A.depth+3 * k+5<_;lia,by have:=r.un;show A.units+1+16 * k+200<_;lia⟩
def GW {A:dz}{C:Addr}{us:cX}{c:List (Str×dv)}:(A.under (.builtin "type.__call__" ⟨.ref C::us,c⟩)).depth=A.depth+1:=by
 first|rfl|simp[Around.under,Code.weight,Code.isCreation,Code.isGuard,Code.isCaller,Code.frames,Code.isFrame,guardIds]
def GV {A:dz}{C:Addr}{us:cX}{c:List (Str×dv)}:(A.under (.builtin "type.__call__" ⟨.ref C::us,c⟩)).units=A.units+1:=by
 first|rfl|simp[Around.under,Code.cUnits,Code.frames,Code.isFrame]
def d9.make (r:d9 (k+1) A)(C:Addr)(us:cX)(c:List (Str×dv)):d9 k (A.under (.builtin "type.__call__" ⟨.ref C::us,c⟩)) :=
 ⟨r.hd,by have:=r.dp;rw[GW];lia,by have:=r.un;rw[GV];lia⟩
def d9.depth (r:d9 k A):A.depth<recursionLimit:=by have:=r.dp;lia
def d9.units (r:d9 k A):A.units+64<cLine:=by have:=r.un;lia
def tNil:TA:=λ_ H Q=>Q [] H
def tCons (d:TE)(tr:TA):TA:=λc H Q=>d c H λx g=>tr c g λxs e=>Q (x::xs) e
section
variable {X:Cx}{e:Expr}{es:pV}{te:TE}{t:TA}{pos:Pos}
def aB:PA X [] tNil:=λ_ _ _ _ H Q I h=>Calls.spliced_nil ⟨[],H,I,.nil,h⟩
def aA (q:PE X e te)(p:PA X es t)(o:starEach (e::es) X.env=(false,eval e X.env)::starEach es X.env:=by rfl):PA X (e::es) (tCons te t):=by intro d c s g H Q I h;rw[o];show wpAny _ _ (spliced ((false,eval e X.env)::backTo d (starEach es X.env))) _ _ s;refine Calls.spliced_cons (thn (q c s g H _ I h) λu i ⟨x,z,v,r1,m⟩=>?_);exact thn (p d c i g z _ v m) λus s2 ⟨xs,w,r,j,l⟩=>⟨x::xs,w,r,.cons r1 j,l⟩
def tTup (t:TA):TE:=λd H Q=>t d H λxs c=>xs.length<=sizeLine/\∀p,c p=none->Q (.ref p) (upd c p (.tup xs))
def tLst (t:TA):TE:=λd H Q=>t d H λxs c=>xs.length<=sizeLine/\∀p,c p=none->Q (.ref p) (upd c p (.lst xs))
def fM {x1}(h:PA X es t):PE X (.Tuple es x1 pos) (tTup t):=by intro c s j H Q I l;refine wpAny_Tuple_spliced (thn (h pos c s j H _ I l) λus d ⟨xs,i,g,r,z,q⟩=>⟨by rw[←r.length];exact z,?_⟩);have m:i d.heap.objs.size=none:=g.hok.fresh (ac _);refine⟨.ref d.heap.objs.size,upd i d.heap.objs.size (.tup xs),g.laid (t':=d.toks) (λb u e=>af _ e) (ac _) ?_,rfl,q _ m⟩;exact⟨z,us,r,⟨_,av _ rfl,rfl,_,rfl⟩⟩
def cQ (h:PA X es t):PE X (.List es pos) (tLst t):=by intro c s j H Q I l;refine wpAny_List_spliced (thn (h pos c s j H _ I l) λus d ⟨xs,i,g,r,z,q⟩=>⟨by rw[←r.length];exact z,?_⟩);have m:i d.heap.objs.size=none:=g.hok.fresh (ac _);refine⟨.ref d.heap.objs.size,upd i d.heap.objs.size (.lst xs),g.laid (t':=d.toks) (λb u e=>af _ e) (ac _) ?_,rfl,q _ m⟩;exact⟨z,us,0,r,av _ rfl⟩
end
abbrev Sp:=List V->Hp->VK->XK->Prop
abbrev DC:=List Env->Hp->du->XK->cM
structure yP (P:dw)(w:dy)(K:dq)(mg:jS)(base:Heap)(A:dz)(outer:List Env)(s:du)(H:Hp):Prop where
 frames:A.frames=some outer
 mod:Mod K mg base
 bs:∀b o,base.get? b=some o->s.heap.get? b=some o/\H b=none
 bsz:base.objs.size<=s.heap.objs.size
 funs:s.heap.FunFrames base outer
 frf:∀b∈frs outer,H b=none
 hok:hV P w H s.heap
 bare:AllBare s.gens
def CE (outer:List Env)(P:dw)(w:dy)(H:Hp)(s:du)(Q:VK)(u:dv)(c:du):Prop :=
 ∃v H',c.os=s.os/\AllBare c.gens/\Un (frs outer) [] H H' s.heap c.heap/\hV P w H' c.heap/\aQ v u/\Q v H'
def CR (CX:DC)(outer:List Env)(P:dw)(w:dy)(H:Hp)(s:du)(Q:VK)(E:XK)(r:Result)(c:du):Prop :=
 match r with
 | .ok (.ret u)=>CE outer P w H s Q u c
 | .ok _=>False
 | .error e=>CX outer H s E e c
structure cH (P:dw)(w:dy)(K:dq)(mg:jS)(base:Heap)(CX:DC)(k:Nat)(f:Addr)(fd:FuncData)(ps:aV)(sp:Sp):Prop where
 len:∀vs H Q E,sp vs H Q E->vs.length=ps.length
 run:∀(A:dz) (outer:List Env) (s:du) (H:Hp) (args:Args) (us:cX) (vs:List V) (Q:VK) (E:XK),d9 k A->yP P w K mg base A outer s H->BindsTo s fd args (ps.zip us)->aP vs us->sp vs H Q E ->
  codeAny (model P w) A (.call (.ref f) args) (CR CX outer P w H s Q E) s
theorem cH.mono {P:dw}{w:dy}{K:dq}{mg:jS}{base:Heap}{CX:DC}{j k:Nat}{f:Addr}{c:FuncData}{ps:aV}{sp:Sp}(F:cH P w K mg base CX j f c ps sp)(h:j<=k) :
  cH P w K mg base CX k f c ps sp:=⟨F.len,λA outer s H args us vs Q E d=>F.run A outer s H args us vs Q E (d.mono h)⟩
def yP.make {P:dw}{w:dy}{K:dq}{mg:jS}{base:Heap}{A:dz}{outer:List Env}{s:du}{H:Hp}(e:yP P w K mg base A outer s H)(C:Addr)(us:cX)(c:List (Str×dv)) :
  yP P w K mg base (A.under (.builtin "type.__call__" ⟨.ref C::us,c⟩)) outer s H:=⟨by first|exact e.frames|(simpa [Around.under,Code.envs,Code.isFrame,pushEnvs] using e.frames),e.mod,e.bs,e.bsz,e.funs,e.frf,e.hok,e.bare⟩
section
variable {X:Cx}{pins:dD}{σ:St}{H:Hp}{s s':du}
def aM.env0 (I:aM X pins σ H s):yP X.prog X.w X.K X.mg X.base X.A X.stack s H :=
 ⟨I.ok.frames,I.ok.mod,I.bs,ao I.ok.bsz I.sz,I.stack,I.stkFree,I.hok,I.bare⟩
def aM.after {Q:VK}{u:dv}(I:aM X pins σ H s)(h:CE X.stack X.prog X.w H s Q u s'):EP X pins σ Q u s':=by obtain⟨v,H',os,bare,un,hok,r,q⟩:=h;obtain⟨e,g,d,t,c⟩:=s';obtain rfl:c=s.os:=os;exact⟨v,H',I.call (h':=e) (g':=g) (d':=d) (t':=t) (ch:=[]) un hok bare (λb z=>absurd z dl),r,q⟩
end
def tCall (sp:Sp)(c:List V)(E:XK)(t:TA):TE:=λd H Q=>t d H λvs e=>sp (vs++c) e Q E
def tMeth (C:Addr)(m:Str)(sp:Sp)(c:List V)(E:XK)(g:TE)(t:TA):TE:=λd H Q=>g d H λx e=>∃a h fs,x = .ref a/\e a=some (.ins C h fs)/\fs.lookup m=none /\
 t d e λvs i=>sp (x::(vs++c)) i Q E
def tMake (C:Addr)(sp:Sp)(d:List V)(E:XK)(t:TA):TE:=λg H Q=>t g H λvs e=>∀x c,e x=none->e c=none->c≠x ->
 sp (.ref x::(vs++d)) (upd (upd e c (.own x)) x (.ins C c [])) (λv h=>v = .non/\Q (.ref x) h) E
def eW (K:dq)(c:FuncData)(ps:aV)(ds:cX):Prop :=
 ∀(s:du) (us:cX),K.In s.heap->(us++ds).length=ps.length->BindsTo s c ⟨us,[]⟩ (ps.zip (us++ds))
def eW.all {K:dq}{d:FuncData}{ps:aV}(h:∀us:cX,us.length=ps.length->bindArgs d ⟨us,[]⟩=pure (ps.zip us)):eW K d ps []:=λs us _ c=>by rw[bp]at c⊢;exact .of_eq (h us c)
def kW (CX:DC)(X:Cx)(E:XK):Prop:=∀(c:dD) (σ:St) (H:Hp) (s:du) (e:dv) (s':du),aM X c σ H s->CX X.stack H s E e s'->X.xe e s'
section
variable {X:Cx}{CX:DC}{k:Nat}{f C:Addr}{fd:FuncData}{ps:aV}{sp:Sp}{dvs:List V}{ds:cX}{E:XK}{x m:Str}{p pos apos:Pos}{e o:Expr}{es:pV}{ta:TE}{t:TA}
def NA {c:dD}{g:St}{H:Hp}{s:du}{Q:VK}{us:cX}{vs:List V}(F:cH X.prog X.w X.K X.mg X.base CX k f fd ps sp)(m:d9 k X.A)(hb:eW X.K fd ps ds)(hd:aP dvs ds)(l:kW CX X E)
  (I:aM X c g H s) (r:aP vs us) (h:sp (vs++dvs) H Q E):wpAny (model X.prog X.w) X.A (call (.ref f) us) (EP X c g Q) X.xe s:=by
 have i:aP (vs++dvs) (us++ds):=r.append hd;have o:(us++ds).length=ps.length:=by rw[←i.length];exact F.len _ _ _ _ h
 refine wpAny_call (codeAny_mono (F.run X.A X.stack s H ⟨us,[]⟩ (us++ds) (vs++dvs) Q E m I.env0 (hb s us I.kIn o) i h) λr j d=>?_);cases r with
 | error e=>exact l c g H s e j I d
 | ok fl =>
  cases fl with
  | ret u=>exact I.after d
  | next=>exact False.elim d
  | brk=>exact False.elim d
  | cont=>exact False.elim d
def Q6 (F:cH X.prog X.w X.K X.mg X.base CX k f fd ps sp)(m:d9 k X.A)(v:Gl X x)(o:X.mg x=some (.ref f))(u:PySem.W.keepIn X.K (.ref f)=true)(hb:eW X.K fd ps ds)(hd:aP dvs ds)(l:kW CX X E)
  (B:PA X (e::es) t) (g:(x == ("__debug__" : Str))=false:=by decide) (z:starEach (e::es) X.env=(false,eval e X.env)::starEach es X.env:=by rfl) (d:(backTo pos (starEach es X.env)).any (·.1)=false:=by rfl) :
  PE X (.Call (.Name x p) (e::es) [] pos) (tCall sp dvs E t):=by
 intro c s j H Q I h;refine wpAny_Call_Name_kw (qX I v o ?_ g);refine PySem.W.callWith_K (h₀:=X.base) I.ok.mod.kin u (thn (B pos c s j H _ I h) λus C ⟨vs,G,i,r,q⟩=>⟨i.kIn,?_⟩) z d;exact NA F m hb hd l i r q
def Q3 (P:PE X o ta)(c:MI X.K C)(p:TK X.K C m f)(F:cH X.prog X.w X.K X.mg X.base CX k f fd ps sp)(O:d9 k X.A)(hb:eW X.K fd ps ds)(hd:aP dvs ds)(L:kW CX X E)(R:PA X (e::es) t)
  (g:starEach (e::es) X.env=(false,eval e X.env)::starEach es X.env:=by rfl) (i:(backTo pos (starEach es X.env)).any (·.1)=false:=by rfl)
  (N:eval (.Call (.Attribute o m apos) (e::es) [] pos) X.env=(do
   let ov ←eval o X.env
   standAt apos.atName
   let(f,first) ←holding [ov] (getMethod ov m pl)
   callWith pos f first (backTo pos (starEach (e::es) X.env)) (backToKw pos (keywordEach [] X.env))):=by rfl) :
  PE X (.Call (.Attribute o m apos) (e::es) [] pos) (tMeth C m sp dvs E ta t):=by
 intro d s j H Q I h;refine PySem.W.methodCall_KW (pl:=pl) (thn (P d s j H _ I h) λu B ⟨x,T,z,G,a,U,fs,ex,S,l,q⟩=>?_) N;subst ex;obtain rfl:u=Value.ref a:=G;refine xB z S c p l ?_;refine PySem.W.callWith_K (first:=[.ref a]) (h₀:=X.base) I.ok.mod.kin p.kp (thn (R pos d B j T _ z q) λus s2 ⟨vs,Y,v,r,J⟩=>⟨v.kIn,?_⟩) g i;exact NA (us:=.ref a::us) (vs:=.ref a::vs) F O hb hd L v (.cons rfl r) J
structure Mk (K:dq)(C f:Addr):Prop where
 makes:PySem.W.makesIn K C=true
 init:PySem.W.findIn K (.ref C) "__init__" = some (some (.ref f))
 fn:PySem.W.isFn K (.ref f)=true
 kp:PySem.W.keepIn K (.ref C)=true
def M9 {c:dD}{j:St}{H:Hp}{s:du}{Q:VK}{us:cX}{vs:List V}(M:Mk X.K C f)(F:cH X.prog X.w X.K X.mg X.base CX k f fd ps sp)(z:d9 (k+1) X.A)(hb:eW X.K fd ps ds)(hd:aP dvs ds)
  (t:kW CX X E) (I:aM X c j H s) (r:aP vs us)
  (h:∀x g,H x=none->H g=none->g≠x->sp (.ref x::(vs++dvs)) (upd (upd H g (.own x)) x (.ins C g [])) (λv L=>v = .non/\Q (.ref x) L) E) :
  wpAny (model X.prog X.w) X.A (call (.ref C) us) (EP X c j Q) X.xe s:=by
 have m:=h (s.heap.objs.size+1) s.heap.objs.size (I.hok.fresh (Nat.le_succ _)) (I.hok.fresh (ac _)) (bq (Nat.lt_succ_self _));have i:=aM.made (C:=C) I;have l:aP (V.ref (s.heap.objs.size+1)::(vs++dvs)) (Value.ref (s.heap.objs.size+1)::(us++ds)):=.cons rfl (r.append hd);have B:(Value.ref (s.heap.objs.size+1)::us++ds).length=ps.length:=by have e:=l.length;rw[F.len _ _ _ _ m]at e;exact e.symm
 refine wpAny_call (OK (f:=f) I.kIn M.makes M.init (beq_iff_eq.mp M.fn) (codeAny_mono (F.run _ X.stack _ _ ⟨Value.ref (s.heap.objs.size+1)::us,[]⟩ (Value.ref (s.heap.objs.size+1)::(us++ds)) _ _ E (z.make C us [])
  (i.env0.make C us []) (hb _ (Value.ref (s.heap.objs.size+1)::us) i.kIn B) l m) λr o d=>?_))
 cases r with
 | error e=>exact t c j _ _ e o i d
 | ok fl =>
  cases fl with
  | ret u =>
   obtain⟨v,H',J,p,G,q⟩:=i.after d;subst G;exact⟨p,⟨V.ref (s.heap.objs.size+1),H',J,rfl,q⟩⟩
  | next=>exact False.elim d
  | brk=>exact False.elim d
  | cont=>exact False.elim d
def Q4 (M:Mk X.K C f)(F:cH X.prog X.w X.K X.mg X.base CX k f fd ps sp)(m:d9 (k+1) X.A)(u:Gl X x)(o:X.mg x=some (.ref C))(hb:eW X.K fd ps ds)(hd:aP dvs ds)(l:kW CX X E)
  (z:PA X (e::es) t) (g:(x == ("__debug__" : Str))=false:=by decide) (v:starEach (e::es) X.env=(false,eval e X.env)::starEach es X.env:=by rfl) (d:(backTo pos (starEach es X.env)).any (·.1)=false:=by rfl) :
  PE X (.Call (.Name x p) (e::es) [] pos) (tMake C sp dvs E t):=by
 intro c s j H Q I h;refine wpAny_Call_Name_kw (qX I u o ?_ g);refine PySem.W.callWith_K (h₀:=X.base) I.ok.mod.kin M.kp (thn (z pos c s j H _ I h) λus B ⟨vs,G,i,r,q⟩=>⟨i.kIn,?_⟩) v d;exact M9 M F m hb hd l i r q
end
def PK (X:Cx)(d:List Keyword)(t:TA):Prop :=
 ∀(c:Pos) (pins:dD) (s:du) (σ:St) (H:Hp) (Q:List V->Hp->Prop),aM X pins σ H s->t σ H Q->wpAny (model X.prog X.w) X.A (evalAll ((backToKw c (keywordEach d X.env)).map (·.2))) (AP X pins σ Q) X.xe s
section
variable {X:Cx}{CX:DC}{k:Nat}{f C:Addr}{fd:FuncData}{ps ks:aV}{sp:Sp}{E:XK}{x m:Str}{p pos apos kpos:Pos}{e o:Expr}{es:pV}{kws:List Keyword}{te ta:TE}{t tk:TA}{nm:Option Str}
def U3:PK X [] tNil:=λ_ _ _ _ H Q I h=>wpAny_evalAll_nil ⟨[],H,I,.nil,h⟩
def QY (p:PE X e te)(o:PK X kws t):PK X (⟨nm,e,kpos⟩::kws) (tCons te t):=by intro d c s g H Q I h;show wpAny _ _ (evalAll ((do let v ←eval e X.env;standAt d;pure v)::(backToKw d (keywordEach kws X.env)).map (·.2))) _ _ s;refine wpAny_evalAll_cons (aa (thn (p c s g H _ I h) λu i ⟨x,z,r,r1,m⟩=>aa (wpAny_standAt (ak ?_))));exact thn (o d c i g z _ r m) λus s2 ⟨xs,w,q,j,l⟩=>⟨x::xs,w,q,.cons r1 j,l⟩
variable {g:cX->cX->cX}{gV:List V->List V->List V}
end
structure aN (N P:aV)(sc:Scope):Prop where
 kind:sc.kind = .function
 co:sc.isCoroutine=false
 gen:sc.isGenerator=false
 nd:N.Nodup
 pre:N.take P.length=P
 par:∀x∈P,sc.names.lookup x=some .local\/sc.names.lookup x=some .cell
 nofree:∀y∈sc.names,y.2≠.free
def AM {c:Str->Option NameKind}:∀{binds:List (Str×dv)} {m:jS},(∀v,(x,v)∉binds)->bindL c binds m x=m x
 | [],_,_=>rfl
 | (n,v)::r,m,h=>by
  unfold bindL;rw[AM λw d=>h w (ba _ d)];split
  ·have:x≠n:=by rintro rfl;exact h v ax
   simp[this]
  ·rfl
def AO {c:Str->Option NameKind}:∀{binds:List (Str×dv)} {m:jS},(∀v,(x,v)∉binds)->bindC c binds m x=m x
 | [],_,_=>rfl
 | (n,v)::r,m,h=>by
  unfold bindC;rw[AO λw d=>h w (ba _ d)];split
  ·rfl
  ·have:x≠n:=by rintro rfl;exact h v ax
   simp[this]
theorem AN {c:Str->Option NameKind}:∀{P:aV} {vs:cX} {i:Nat} {m:jS},P.Nodup->P[i]?=some x->vs[i]?=some v->c x=some .local ->
  bindL c (P.zip vs) m x=some v
 | [],_,_,_,_,h,_,_=>by simp at h
 | _::_,[],_,_,_,_,h,_=>by simp at h
 | p::P,w::vs,0,m,nd,e,d,g=>by
  simp at e d;subst e;subst d;show bindL c ((p,w)::P.zip vs) m p=_;unfold bindL;rw[AM λv j=>(da.mp nd).1 (List.of_mem_zip j).1,ai g];simp
 | p::P,w::vs,i+1,m,nd,e,d,g=>by show bindL c ((p,w)::P.zip vs) m x=_;unfold bindL;exact AN (i:=i) (da.mp nd).2 (by simpa using e) (by simpa using d) g
theorem AQ {c:Str->Option NameKind}:∀{P:aV} {vs:cX} {i:Nat} {m:jS},P.Nodup->P[i]?=some x->vs[i]?=some v->c x≠some .local ->
  bindC c (P.zip vs) m x=some v
 | [],_,_,_,_,h,_,_=>by simp at h
 | _::_,[],_,_,_,_,h,_=>by simp at h
 | p::P,w::vs,0,m,nd,e,d,g=>by
  simp at e d;subst e;subst d;show bindC c ((p,w)::P.zip vs) m p=_;unfold bindC;rw[AO λv j=>(da.mp nd).1 (List.of_mem_zip j).1,ab g];simp
 | p::P,w::vs,i+1,m,nd,e,d,g=>by show bindC c ((p,w)::P.zip vs) m x=_;unfold bindC;exact AQ (i:=i) (da.mp nd).2 (by simpa using e) (by simpa using d) g
noncomputable def start (N:aV)(vs:List V):St:=vs.map some++List.replicate (N.length - vs.length) none
noncomputable def cxOf (CX:DC)(P:dw)(w:dy)(K:dq)(mg:jS)(base:Heap)(N:aV)(c:Str)(scope:Scope)(f:Addr)(g:dv)(A:dz)(outer:List Env)(s:du)(H:Hp)(E:XK):Cx where
 prog:=P
 w:=w
 K:=K
 mg:=mg
 base:=base
 A:=A.deeper (envOfC c scope s.heap.objs.size f g)
 N:=N
 s₀:=s
 H₀:=H
 env:=envOfC c scope s.heap.objs.size f g
 outer:=outer
 stack:=envOfC c scope s.heap.objs.size f g::outer
 ex:=[]
 calm:=true
 fn:=λ_=>true
 pn:=[]
 xe:=λe h=>wpAny (model P w) (A.deeper (envOfC c scope s.heap.objs.size f g)) (leaving (envOfC c scope s.heap.objs.size f g) e) (λ_ d=>CX outer H s E e d) (λi d=>CX outer H s E i d) h
def FF {d:Scope}{n:Nat}{x:Str}(h:d.names.lookup x=some .cell):∃c,(cellsFrom n d.names []).lookup x=some c:=by have q:=PySem.W.cellsFrom_some d.names n [] (.inl h);exact Option.isSome_iff_exists.mp q
def zW {CX:DC}{P:dw}{w:dy}{K:dq}{mg:jS}{base:Heap}{N ps:aV}{d:Str}{scope:Scope}{f:Addr}{C:dv}{A:dz}{outer:List Env}{s F:du}{H:Hp}{E:XK}{us:cX}{vs:List V}
  (S:aN N ps scope) (hd:A.handled=none) (j:yP P w K mg base A outer s H) (Q:vs.length=ps.length) (r:aP vs us)
  (x:InCallC s s.heap.objs.size (bindL (envOfC d scope s.heap.objs.size f C).kindOf (ps.zip us) λ_=>none) (cellsFrom (s.heap.objs.size+1) scope.names []) (bindC (envOfC d scope s.heap.objs.size f C).kindOf (ps.zip us) λ_=>none) F) :
  aM (cxOf CX P w K mg base N d scope f C A outer s H E) [] (start N vs) H F:=by
 have L:ps.length<=N.length:=by have:=congrArg List.length S.pre;rw[bv]at this;lia
 obtain⟨B,tk,rfl,I⟩:=x.done;have l:∀b:Addr,b∉(cxOf CX P w K mg base N d scope f C A outer s H E).ex:=λb z=>absurd (show b∈([]:List Addr)from z) dl
 refine⟨⟨j.mod,S.kind,rfl,rfl,ac _,λy z c B g=>?_,λy m=>?_,λy c _ h=>?_,λ_=>hd,Around.frames_deeper j.frames,.inr ⟨rfl,rfl⟩,λb z=>absurd z (l b),j.bs,j.bsz,λb _ _=>l b,λb z=>absurd z (l b),j.funs,j.frf⟩,
  rfl,j.bare,Un.kept I,⟨_,x.toInCall.ns,λi y v B g R=>?_⟩,λy c h=>⟨_,x.cell y c h⟩,j.hok.fresh (ac _),λy c h=>?_,λp t=>absurd (show p∈([]:dD)from t) dl,j.hok.kept I,?_⟩
 ·exact name_of_addr x.apart (PySem.mem_of_lookup B) (PySem.mem_of_lookup g)
 ·have m:scope.names.lookup y=some .cell\/scope.names.lookup y=some .free:=m;rcases m with m|m
  ·exact FF m
  ·exact absurd rfl (S.nofree _ (PySem.mem_of_lookup m))
 ·exact Nat.le_of_lt (x.above y c (PySem.mem_of_lookup h))
 ·have hi:i<vs.length:=by
   unfold start at g;by_cases hi:i<vs.length
   ·exact hi
   ·rw[List.getElem?_append_right (by simpa using hi)]at g;rw[List.getElem?_replicate]at g;split at g <;> cases g
  have O:vs[i]?=some v:=by
   unfold start at g;rw[List.getElem?_append_left (by simpa using hi),bS]at g;cases e:vs[i]? with
   | none=>rw[e]at g;cases g
   | some a=>rw[e]at g;cases g;rfl
  obtain⟨u,G,J⟩:=r.get O;have t:ps[i]?=some y:=by rw[←S.pre,List.getElem?_take_of_lt dk];exact B
  have o:ps.Nodup:=by rw[←S.pre];exact S.nd.sublist (List.take_sublist _ _)
  refine⟨u,J,?_⟩;rcases S.par y (bj t)with k|k
  ·exact .inl ⟨k,AN o t G k⟩
  ·obtain⟨c,e⟩:=FF (n:=s.heap.objs.size+1) k;refine .inr ⟨.inl k,c,e,?_⟩;have q:=x.cell y c e;rw[AQ o t G (by show scope.names.lookup y≠_;rw[k];decide)]at q;exact q
 ·exact j.hok.fresh (Nat.le_of_lt (x.above y c (PySem.mem_of_lookup h)))
 ·unfold start;show _=N.length;rw[au,ae,List.length_replicate]
  lia
def T5 {CX:DC}{P:dw}{w:dy}{K:dq}{mg:jS}{base:Heap}{k:Nat}{f:Addr}{name c:Str}{g:Arguments}{body:List Stmt}{scope:Scope}{R kV z pm d ct U:dv}{T od:Option Addr}
  {osl:Array (Option dv)} {N ps:aV} {sp:Sp} (X:K.lookup f=some ⟨U,od,.func (PySem.W.fnOf name c g body scope R kV z pm T d ct),osl⟩) (L:PySem.W.codeIn K d c=true) (S:aN N ps scope)
  (len:∀vs H Q E,sp vs H Q E->vs.length=ps.length)
  (j:∀(A:dz) (outer:List Env) (s:du) (H:Hp) (vs:List V) (Q:VK) (E:XK),d9 k (A.deeper (envOfC c scope s.heap.objs.size f d))->sp vs H Q E ->
   ∃t,FR (cxOf CX P w K mg base N c scope f d A outer s H E) body t/\t {nx:=λ_ H'=>Q .non H',rt:=Q} (start N vs) H) :
  cH P w K mg base CX (k+1) f (PySem.W.fnOf name c g body scope R kV z pm T d ct) ps sp:=by
 refine⟨len,λA outer s H args us vs Q E G p hb r m=>?_⟩;have hl:=len _ _ _ _ m;have KX:K.In s.heap:=p.mod.kin.keeps λb o e=>(p.bs b o e).1;have F:s.heap.NoLimit:=p.mod.nolimit.keeps λb o e=>(p.bs b o e).1;have i:∀y∈ps.zip us,scope.names.lookup y.1=some .local\/(scope.names.lookup y.1=some .cell/\((cellsFrom (s.heap.objs.size+1) scope.names []).lookup y.1).isSome=true):=λ⟨n,v⟩ Y=>by
  rcases S.par n (List.of_mem_zip Y).1 with q|q
  ·exact .inl q
  ·exact .inr ⟨q,PySem.W.cellsFrom_some _ _ _ (.inl q)⟩
 refine codeAny_call_function G.depth (KX _ _ X) rfl S.co S.gen rfl (PySem.W.codeRec_of KX L) (hb _ _ _ _ ?_);refine wpAny_newFunctionEnv_cells S.kind i λenv he O x=>?_;subst he;refine⟨F.keeps x.toInCall.keep,codeAny_func ?_⟩;obtain⟨t,Z,hq⟩:=j A outer s H vs Q E (G.deeper _) m;have I:aM (cxOf CX P w K mg base N c scope f d A outer s H E) [] (start N vs) H O:=zW S G.hd p hl r x;refine wpAny_mono (Z [] O (start N vs) H _ I hq) (λfl B l=>?_) λe B l=>l;have fin:∀{h:St} {H':Hp} {v:V} {u:dv},aM (cxOf CX P w K mg base N c scope f d A outer s H E) [] h H' B->aQ v u->Q v H'->CE outer P w H s Q u B :=
  λ{h H' v u} J C q=>⟨v,H',J.os,J.bare,J.base,J.hok,C,q⟩
 cases fl with
 | ret u =>
  obtain⟨v,h,H',J,C,q⟩:=l;exact fin J C q
 | next =>
  obtain⟨h,H',J,q⟩:=l;exact fin (v:=V.non) (u:=Value.none) J rfl q
 | brk =>
  obtain⟨_,_,_,q⟩:=l;exact False.elim q
 | cont =>
  obtain⟨_,_,_,q⟩:=l;exact False.elim q
section
variable {X:Cx}{x:Str}{p pos:Pos}{e:Expr}{es:pV}{t:TA}{id T:String}{r:List V->Hp->VK->Prop}
def tCB (r:List V->Hp->VK->Prop)(t:TA):TE:=λc H Q=>t c H λvs d=>r vs d Q
def NN (hc:cV X (.builtin id) r)(u:Gl X x)(q:X.mg x=none)(m:bootBuiltins x=some (.builtin id))(w:PA X (e::es) t)(o:x≠"__name__":=by decide)(g:(x == ("__debug__" : Str))=false:=by decide)
  (v:starEach (e::es) X.env=(false,eval e X.env)::starEach es X.env:=by rfl) (d:(backTo pos (starEach es X.env)).any (·.1)=false:=by rfl):PE X (.Call (.Name x p) (e::es) [] pos) (tCB r t):=by
 intro c s i H Q I h;refine wpAny_Call_Name_kw (pK I u q m ?_ o g);exact PyProof.Rows.callWith_builtin1 (thn (w pos c s i H _ I h) λus j ⟨vs,A,z,r1,l⟩=>hc c j i A vs us Q z r1 l) v d
def aZ (hc:cV X (.builtin id) r)(i:X.mg x=none)(m:PA X (e::es) t)(j:Gl X x:=by exact rfl)(g:bootBuiltins x=some (.builtin id):=by exact rfl)(h:x≠"__name__":=by decide)(d:(x == ("__debug__" : Str))=false:=by decide)
  (l:starEach (e::es) X.env=(false,eval e X.env)::starEach es X.env:=by rfl) (c:(backTo pos (starEach es X.env)).any (·.1)=false:=by rfl):PE X (.Call (.Name x p) (e::es) [] pos) (tCB r t):=NN hc j i g m h d l c
def cB (hc:cV X (.type T) r)(u:Gl X x)(q:X.mg x=none)(m:bootBuiltins x=some (.type T))(w:PA X (e::es) t)(o:x≠"__name__":=by decide)(g:(x == ("__debug__" : Str))=false:=by decide)
  (v:starEach (e::es) X.env=(false,eval e X.env)::starEach es X.env:=by rfl) (d:(backTo pos (starEach es X.env)).any (·.1)=false:=by rfl):PE X (.Call (.Name x p) (e::es) [] pos) (tCB r t):=by
 intro c s i H Q I h;refine wpAny_Call_Name_kw (pK I u q m ?_ o g);exact PyProof.Rows.callWith_type1 (thn (w pos c s i H _ I h) λus j ⟨vs,A,z,r1,l⟩=>hc c j i A vs us Q z r1 l) v d
end
end L2
namespace HT
open PySem PyProof.Rows
noncomputable def lexLt:List Int->List Int->Bool
 | [],[]=>false
 | [],_::_=>true
 | _::_,[]=>false
 | x::xs,y::ys=>if x=y then lexLt xs ys else decide (x<y)
def VQ (x y:Int)(xs ys:List Int):lexLt (x::xs) (y::ys)=if x=y then lexLt xs ys else decide (x<y):=rfl
def W4 (A:dz)(s:du)(a:Int)(t:Tok)(c:Int)(u:Tok):∃e,SeqAt.EqAt A s (.int a t) (.int c u) e/\(e=true ↔ a=c) :=
 ⟨(a == c),SeqAt.EqAt.int_int a t c u,dl⟩
def rcLt_int (A:dz)(s:du)(a:Int)(t:Tok)(c:Int)(u:Tok)(prog:dw)(w:dy)(E:cM)(Q:cM)(h:Q (.bool (decide (a<c))) s) :
  wpAny (model prog w) A (richCompare .Lt (.int a t) (.int c u)) Q E s :=
 (PyProof.Rows.lt_int h:wpAny (model prog w) A (compareOp .Lt (.int a t) (.int c u)) Q E s)
section
open PySem.SeqAt
open PySem.AutoSeq1 (wpAny_loadPart')
open PySem.MeetsSeq PySem.MeetsSeq2 PySem.MeetsSeq3
end
section
variable {prog:dw}{w:dy}{A:dz}{E:cM}{s:du}
def cat_tup {Q:cM}(r:IsTup s.heap t vs.toArray)(hb:IsTup s.heap b ws.toArray)(o:vs≠[])
  (v:ws=[]->Q (.ref t) s) (u:ws≠[]->Q (.ref s.heap.objs.size) {s with heap:=s.heap.push {cls:=.type "tuple",data:=.seq (vs++ws).toArray} })
  (hsz:vs.length+ws.length<=sizeLine):wpAny (model prog w) A (binaryOp .Add (.ref t) (.ref b)) Q E s:=by
 obtain⟨⟨cls,p,data,m⟩,ho,hc,n,hd⟩:=id r;obtain⟨⟨q,i,l,d⟩,c,h,n2,g⟩:=id hb;simp only at hc hd h g;subst hc hd h g;have e:vs.toArray++ws.toArray=(vs++ws).toArray:=by simp
 by_cases j:ws=[]
 ·exact concat_meets ⟨_,ho,rfl⟩ ⟨_,c,rfl⟩ noFill_tuple_add seq_tuple_add PySem.F.slot_tuple_add PySem.F.entry_tuple_add (PySem.F.args_tuple_add_2 _ _)
   (tuple_addW1 t b vs.toArray ws.toArray n n2 p i m d (by simpa using o) (by simp[j])) ⟨ho,c,v j⟩
 ·refine concat_meets ⟨_,ho,rfl⟩ ⟨_,c,rfl⟩ noFill_tuple_add seq_tuple_add PySem.F.slot_tuple_add PySem.F.entry_tuple_add (PySem.F.args_tuple_add_2 _ _)
   (tuple_addW2 t b vs.toArray ws.toArray n n2 p i m d (by simpa using o) (by simpa using j) (by rw[ag,ag];exact hsz)) ⟨ho,c,?_⟩
  rw[e];exact u j
noncomputable def sIx (n d:Nat):Option Int->Nat
 | none=>d
 | some v=>if v<0 then(v+(n:Int)).toNat else min v.toNat n
def sIx_none (n d:Nat):sIx n d none=d:=rfl
def sIx_nat (n d k:Nat):sIx n d (some (k:Int))=min k n:=by show(if (k:Int)<0 then((k:Int)+(n:Int)).toNat else min (k:Int).toNat n)=min k n;rw[ab dk,cr]
def UZ (n d:Nat)(hd:d<=n)(o:Option Int):sIx n d o<=n:=by
 cases o with
 | none=>exact hd
 | some v =>
  show(if v<0 then(v+(n:Int)).toNat else min v.toNat n)<=n;by_cases c:v<0
  ·rw[ai c];lia
  ·rw[ab c];exact Nat.min_le_right _ _
def J0 (v:Int)(n d:Nat):(if v<0 then max (v+(n:Int)) 0 else min v (n:Int))=((sIx n d (some v):Nat):Int):=by
 show(if v<0 then max (v+(n:Int)) 0 else min v (n:Int))=(((if v<0 then(v+(n:Int)).toNat else min v.toNat n):Nat):Int);by_cases c:v<0
 ·simp only[ai c];lia
 ·simp only[ab c];lia
def IF (lo hi:Option Int)(n:Nat):Builtin.Slice.sliceAdjust lo hi 1 (n:Int)=(((sIx n 0 lo:Nat):Int),((sIx n n hi:Nat):Int)):=by
 have c:¬((1:Int)<0):=by lia
 unfold Builtin.Slice.sliceAdjust;simp only[c,if_false];refine Prod.ext ?_ ?_
 ·cases lo with
  | none=>rfl
  | some v=>exact J0 v n 0
 ·cases hi with
  | none=>rfl
  | some v=>exact J0 v n n
def F9 (i j:Nat):Builtin.Slice.slicePlaces (i:Int) (j:Int) 1=j - i:=by
 unfold Builtin.Slice.slicePlaces;have c:(1:Int) > 0:=by lia
 simp only[c,if_true,Int.ediv_one];split <;> lia
def slicePart_ {Q:Option Int->du->Prop}(p:IsPart v o)(h:Q o s):wpAny (model prog w) A (Builtin.Slice.slicePartIndex v) Q E s:=by
 cases p with
 | none=>exact slicePart_none h
 | int i t=>exact slicePart_int h
def sD {i:Addr}{g e:dv}{lo hi:Option Int}{n:Nat}{Q:Int×Int×Nat->du->Prop}(l:s.heap.IsSliceOf i g e .none)(pl:IsPart g lo)(j:IsPart e hi)
  (h:Q (((sIx n 0 lo:Nat):Int),1,sIx n n hi - sIx n 0 lo) s):wpAny (model prog w) A (Builtin.Slice.sliceApplied (.ref i) (pure (n:Int))) Q E s:=by
 obtain⟨os,c,m,d⟩:=id l;unfold Builtin.Slice.sliceApplied Builtin.Slice.sliceFields;refine aa (aa (wpAny_field c d (x:=g) rfl (aa (wpAny_field c d (x:=e) rfl (aa (wpAny_field c d (x:=.none) rfl (ak ?_)))))));refine aa (slicePart_none ?_);show wpAny _ _ (if ((1:Int) == 0)=true then _ else _) _ _ s;rw[ab ad];refine aa (slicePart_ pl (aa (slicePart_ j (aa (ak ?_)))));show wpAny _ _ (match Builtin.Slice.sliceAdjust lo hi 1 (n:Int)with|(lo,hi)=>pure (lo,(1:Int),Builtin.Slice.slicePlaces lo hi 1)) _ _ s;rw[IF lo hi n];show wpAny _ _ (pure (((sIx n 0 lo:Nat):Int),(1:Int),Builtin.Slice.slicePlaces ((sIx n 0 lo:Nat):Int) ((sIx n n hi:Nat):Int) 1)) _ _ s;rw[F9];exact ak h
def NE (xs:pU)(i k:Nat):((List.range k).filterMap λ(m:Nat)=>xs[((i:Int)+(m:Int) * 1).toNat]?).toArray=((xs.toList.drop i).take k).toArray:=by
 have e:(λ(m:Nat)=>xs[((i:Int)+(m:Int) * 1).toNat]?)=λm=>xs[i+m]?:=by
  funext m;have:((i:Int)+(m:Int) * 1).toNat=i+m:=by lia
  rw[this]
 rw[e];have:=pick_run xs i k;rw[List.filterMap_map]at this;have c:((λx=>xs[x]?) ∘ λx=>i+x)=λm=>xs[i+m]?:=rfl;rw[c]at this;rw[this]
def getItem_tuple_cut {t e:Addr}{items:pU}{p o:dv}{lo hi:Option Int}{Q:cM}(d:IsTup s.heap t items)(r:s.heap.IsSliceOf e p o .none)(pl:IsPart p lo)(u:IsPart o hi)
  (v:¬(sIx items.size 0 lo=0/\sIx items.size items.size hi=items.size))
  (h:Q (.ref s.heap.objs.size) {s with heap:=s.heap.push {cls:=.type "tuple",data:=.seq ((items.toList.drop (sIx items.size 0 lo)).take (sIx items.size items.size hi - sIx items.size 0 lo)).toArray} })
  (hsz:items.size<=sizeLine):wpAny (model prog w) A (getItem (.ref t) (.ref e)) Q E s:=by
 have c:sizeOk (.seq ((items.toList.drop (sIx items.size 0 lo)).take (sIx items.size items.size hi - sIx items.size 0 lo)).toArray):=by
  show((items.toList.drop (sIx items.size 0 lo)).take (sIx items.size items.size hi - sIx items.size 0 lo)).toArray.size<=sizeLine;rw[ag,bv,bx,br]
  lia
 have C:sIx items.size items.size hi<=items.size:=UZ _ _ (ac _) hi;obtain⟨os,g,j,x⟩:=id r;have l:s.TypeIs (.ref e) "slice":=⟨os,g,j⟩
 unfold getItem
 try with_reducible refine ck ?_
 first|refine aa (ak ?_)|skip
 refine aa (wpAny_sequenceKey d.typeIs ad ?_)
 refine aa (wpAny_callSpecial?_slot (name:=Str.ofString "__getitem__") d.typeIs PyProof.Rows.slot_tuple_getitem
  (wpAny_call_entry PyProof.Rows.slot_tuple_getitem d.typeIs entry_tuple_getitem ?_ (args_tuple_getitem _ _)))
 show wpAny _ _ (Builtin.Tuple.tupleItemsOf (.ref t) >>= _) _ _ s;refine aa (tupleItemsOf_ d ?_);refine aa (wpAny_typeOf l ?_);rw[ai ad];refine aa (sD r pl u ?_);have i:¬((((sIx items.size 0 lo:Nat):Int) == 0 && (1:Int) == 1 && (sIx items.size items.size hi - sIx items.size 0 lo) == items.size)=true):=by intro q;rw[Bool.and_eq_true,Bool.and_eq_true]at q;have B:((sIx items.size 0 lo:Nat):Int)=0:=eq_of_beq q.1.1;have z:sIx items.size items.size hi - sIx items.size 0 lo=items.size:=eq_of_beq q.2;exact v ⟨dk,dk⟩
 show wpAny _ _ (if (((sIx items.size 0 lo:Nat):Int) == 0 && (1:Int) == 1 && (sIx items.size items.size hi - sIx items.size 0 lo) == items.size)=true then _ else _) _ _ s;rw[ab i,NE]
 first
  | exact aa (m:=Builtin.Tuple.tupleExact _) (ci (ak ⟨_,rfl,ak h⟩) c)
  | exact aa (m:=Builtin.Tuple.tupleExact _) (ci (aa (ak (ak ⟨_,rfl,ak h⟩))) c)
  | exact aa (aa (m:=Builtin.Tuple.tupleExact _) (ci (ak (ak ⟨_,rfl,ak h⟩)) c))
  | exact aa (aa (m:=Builtin.Tuple.tupleExact _) (ci (ak ⟨_,rfl,ak h⟩) c))
end
end HT
namespace L2
open PySem PySem.Spec PyProof.Rows
abbrev TO:=St->Hp->(Option Int->Hp->Prop)->Prop
def PO (X:Cx)(e:Option Expr)(t:TO):Prop :=
 ∀(c:dD) (s:du) (σ:St) (H:Hp) (Q:Option Int->Hp->Prop),aM X c σ H s->t σ H Q ->
  wpAny (model X.prog X.w) X.A (evalPart e X.env) (λu d=>∃o H',aM X c σ H' d/\IsPart u o/\Q o H') X.xe s
def tNoPart:TO:=λ_ H Q=>Q none H
def tPart (t:TE):TO:=λc H Q=>t c H λx d=>∃i,x = .int i/\Q (some i) d
def V3:∀{us:cX},aP (ns.map V.int) us->IntsAre us ns:=by
 induction ns with
 | nil=>intro us r;rw[List.map_nil]at r;cases r;exact .nil
 | cons n ns d =>
  intro us r;rw[bf]at r;cases r with
  | cons r1 c =>
   obtain⟨t,e⟩:=r1;subst e;exact .cons n t (d c)
section
variable {X:Cx}{e:Expr}{te:TE}{lo hi:Option Expr}{tl th:TO}{pos p2:Pos}
def gB:PO X none tNoPart:=by intro c s d H Q I h;rw[evalPart_none];exact ak ⟨none,H,I,.none,h⟩
def eV (h:PE X e te):PO X (some e) (tPart te):=by intro c s d H Q I j;rw[evalPart_some];refine thn (h c s d H _ I j) λu o ⟨x,m,l,r1,g⟩=>?_;obtain⟨i,rfl,q⟩:=g;obtain⟨t,rfl⟩:=r1;exact⟨some i,m,l,.int i t,q⟩
def XB (X:Cx)(r:V->Option Int->Option Int->Hp->VK->Prop):Prop :=
 ∀(c:dD) (s:du) (σ:St) (H:Hp) (x:V) (v vl vu:dv) (lo hi:Option Int) (sl:Addr) (Q:VK),aM X c σ H s->aQ x v->s.heap.IsSliceOf sl vl vu .none->IsPart vl lo->IsPart vu hi->r x lo hi H Q ->
  ∃T id,typeLookup (.type T) "__getitem__" = pure (some (.builtin id))/\s.TypeIs v T/\wpAny (model X.prog X.w) X.A (getItem v (.ref sl)) (EP X c σ Q) X.xe s
def tSl (r:V->Option Int->Option Int->Hp->VK->Prop)(e:TE)(tl d:TO):TE:=λc H Q=>e c H λx i=>tl c i λl h=>d c h λu g=>r x l u g Q
def fS {r:V->Option Int->Option Int->Hp->VK->Prop}(F:XB X r)(K:PE X e te)(G:PO X lo tl)(C:PO X hi th):PE X (.Subscript e (.Slice lo hi none p2) pos) (tSl r te tl th):=by intro c s g H Q I h;refine Subscript_ (thn (K c s g H _ I h) λv o ⟨x,U,R,r1,z⟩=>?_);refine wpAny_Slice (thn (G c o g U _ R z) λj s2 ⟨l,S,P,pl,t⟩=>thn (C c s2 g S _ P t) λi d ⟨u,m,O,B,p⟩=>?_);rw[evalPart_none];refine ak ?_;have N:aM X c g m {d with heap:=d.heap.push {cls:=.type "slice",data:=.fields #[j,i,.none]} }:=O.kept (t':=d.toks) λb W q=>af _ q;obtain⟨T,id,L,E,J⟩:=F c {d with heap:=d.heap.push {cls:=.type "slice",data:=.fields #[j,i,.none]} } g m x v j i l u d.heap.objs.size Q N r1 (Heap.IsSliceOf.new ..) pl B p;show wpAny (model X.prog X.w) X.A (subscriptTail e (.Slice lo hi none p2) v (.ref d.heap.objs.size)) (EP X c g Q) X.xe {d with heap:=d.heap.push {cls:=.type "slice",data:=.fields #[j,i,.none]} };exact tail_any (ops:=[.ref d.heap.objs.size,v]) E L J (by with_unfolding_all rfl)
noncomputable def cutV (xs:List V)(lo hi:Option Int):List V:=(xs.drop (HT.sIx xs.length 0 lo)).take (HT.sIx xs.length xs.length hi - HT.sIx xs.length 0 lo)
def tY (xs:List V)(lo hi:Option Int):(cutV xs lo hi).length<=xs.length:=by
 unfold cutV;rw[bv,bx]
 lia
def rSlT (K:dq):V->Option Int->Option Int->Hp->VK->Prop:=λx lo hi H Q=>∃a xs,x = .ref a/\iF K H a xs /\
 ¬(HT.sIx xs.length 0 lo=0/\HT.sIx xs.length xs.length hi=xs.length)/\∀p,H p=none->Q (.ref p) (upd H p (.tup (cutV xs lo hi)))
def UX:XB X (rSlT X.K):=by
 intro d s p H x v u t lo hi w Q I g m pl i h;obtain⟨a,xs,rfl,j,l,q⟩:=h;cases g;obtain⟨its,r,e,hz⟩:=I.tuple j;have c:its.toArray.size=xs.length:=by rw[ag];exact r.length.symm
 refine⟨"tuple",_,PyProof.Rows.slot_tuple_getitem.lookup,e.typeIs,?_⟩;refine HT.getItem_tuple_cut e m pl i (by rw[c];exact l) ?_ (by rw[c];exact hz);rw[c];refine⟨.ref s.heap.objs.size,_,I.laid (t':=s.toks) (o:=.tup (cutV xs lo hi)) (λb z q=>af _ q) (ac _) ?_,rfl,q _ (I.hok.fresh (ac _))⟩;exact⟨ao (tY xs lo hi) hz,_,(r.drop (HT.sIx xs.length 0 lo)).take (HT.sIx xs.length xs.length hi - HT.sIx xs.length 0 lo),IsTup.new _ _⟩
def rCatT (K:dq):R2:=λx y H Q=>∃a b xs ys,x = .ref a/\y = .ref b/\iF K H a xs/\iF K H b ys/\xs≠[]/\xs.length+ys.length<=sizeLine /\
 (ys=[]->Q (.ref a) H)/\(ys≠[]->∀p,H p=none->Q (.ref p) (upd H p (.tup (xs++ys))))
def aP.nil_iff (r:aP xs us):us=[] ↔ xs=[]:=by
 cases r with
 | nil=>simp
 | cons _ _=>simp
def RF:jU X (binaryOp .Add) (rCatT X.K):=by intro d s t H x y v u Q I g e h;obtain⟨a,b,xs,ys,rfl,rfl,r,hb,p,hz,j,i⟩:=h;cases g;cases e;obtain⟨its,r1,m,_⟩:=I.tuple r;obtain⟨its2,c,l,_⟩:=I.tuple hb;refine HT.cat_tup m l (λz=>p (r1.nil_iff.mp z)) (λz=>⟨.ref a,H,I,rfl,j (c.nil_iff.mp z)⟩) (λz=>?_) (by rw[←r1.length,←c.length];exact hz);refine⟨.ref s.heap.objs.size,_,I.laid (t':=s.toks) (o:=.tup (xs++ys)) (λb A q=>af _ q) (ac _) ?_,rfl,i (λw=>z (c.nil_iff.mpr w)) _ (I.hok.fresh (ac _))⟩;exact⟨by rw[au];exact hz,_,r1.append c,IsTup.new _ _⟩
end
noncomputable def ixN (n:Nat)(i:Int):Option Nat:=if 0<=i then(if i<n then some i.toNat else none)else if -(n:Int)<=i then some (i+n).toNat else none
noncomputable def atI {c:Type}(xs:List c)(i:Int):Option c:=(ixN xs.length i).bind λj=>xs[j]?
def JT (h:ixN n i=some j):seqIndex? i n=some j/\j<n/\-(n:Int)<=i/\i<n:=by
 unfold ixN at h;by_cases d:0<=i
 ·rw[ai d]at h;by_cases c:i<n
  ·rw[ai c]at h;have e:i.toNat=j:=Option.some.inj h;exact⟨by rw[seqIndex_of d c,e],dk,dk,c⟩
  ·rw[ab c]at h;cases h
 ·rw[ab d]at h;by_cases c : -(n:Int)<=i
  ·rw[ai c]at h;have e:(i+n).toNat=j:=Option.some.inj h;exact⟨by rw[seqIndex_neg dk c,e],dk,c,dk⟩
  ·rw[ab c]at h;cases h
def C4 {c:Type}{xs:List c}{i:Int}{v:c}(h:atI xs i=some v):∃j,seqIndex? i xs.length=some j/\xs[j]?=some v/\j<xs.length/\-(xs.length:Int)<=i/\i<xs.length:=by
 unfold atI at h;cases e:ixN xs.length i with
 | none=>rw[e]at h;cases h
 | some j =>
  rw[e]at h;obtain⟨m,l,g,d⟩:=JT e;exact⟨j,m,h,l,g,d⟩
def J1 {c:Type}{xs:List c}{j:Nat}{v:c}(h:xs[j]?=some v):atI xs (j:Int)=some v:=by
 have d:j<xs.length:=(cs.mp h).1;have e:ixN xs.length (j:Int)=some j:=by unfold ixN;rw[ai dk,ai dk];simp
 unfold atI;rw[e];exact h
def TJ (b:Expr):Prop:=∀o i,subscripted b false o i=operate [o,i] (getItem o i)
def P6 (X:Cx)(r:R2):Prop :=
 ∀(d c:Expr) (pins:dD) (s:du) (σ:St) (H:Hp) (x y:V) (v u:dv) (Q:VK),aM X pins σ H s->aQ x v->aQ y u->r x y H Q ->
  subscripted c false v u=operate [v,u] (getItem v u)->wpAny (model X.prog X.w) X.A (subscriptTail d c v u) (EP X pins σ Q) X.xe s
def XW (X:Cx)(id:String)(r:V->List V->Hp->VK->Prop):Prop :=
 ∀(c:dD) (s:du) (σ:St) (H:Hp) (x:V) (xs:List V) (v:dv) (us:cX) (Q:VK),aM X c σ H s->aQ x v->aP xs us->r x xs H Q ->
  wpAny (model X.prog X.w) X.A (call (.builtin id) (v::us)) (EP X c σ Q) X.xe s
section
variable {X:Cx}{a b:Expr}{ta tb:TE}{pos:Pos}
def P6.or (h:P6 X r)(h':P6 X r'):P6 X (λx y H Q=>r x y H Q\/r' x y H Q):=by
 intro c d e s g H x y v u Q I j i q l;rcases q with q|q
 ·exact h c d e s g H x y v u Q I j i q l
 ·exact h' c d e s g H x y v u Q I j i q l
def cA (j:P6 X r)(l:PE X a ta)(hb:PE X b tb)(i:TJ b):PE X (.Subscript a b pos) (tOp r ta tb):=by intro c s d H Q I h;exact Subscript_ (binT l hb I h λv u s2 x y o m g e q=>j a b c s2 d o x y v u Q m g e q (i _ _))
def rIxL (K:dq):R2:=λx y H Q=>∃p xs i v,x = .ref p/\y = .int i/\fL K H p xs/\atI xs i=some v/\Q v H
def rIxT (K:dq):R2:=λx y H Q=>∃p xs i v,x = .ref p/\y = .int i/\iF K H p xs/\atI xs i=some v/\Q v H
def rIxS:R2:=λx y H Q=>∃z i c,x = .str z/\y = .int i/\z.length<=sizeLine/\atI z.cps.toList i=some c/\Q (.str ⟨#[c]⟩) H
def SC:P6 X (rIxL X.K):=by
 intro e g c s o H x y v u Q I G F h A;obtain⟨p,xs,i,z,rfl,rfl,J,N,q⟩:=h;cases G;obtain⟨t,rfl⟩:=F;obtain⟨its,r,pl,hz⟩:=I.list J;obtain⟨j,d,R,T,P,O⟩:=C4 N;obtain⟨w,C,l⟩:=r.get R;have L:=r.length;have S:=line63;have fin:EP X c o Q w s:=⟨z,H,I,l,q⟩
 by_cases B:0<=i
 ·have m:i.toNat=j:=by rw[seqIndex_of B O]at d;exact Option.some.inj d
  exact item_listR pl.isList B dk (by rw[m];simpa using C) fin A
 ·have m:(i+(its.toArray.size:Int)).toNat=j:=by rw[seqIndex_neg dk P]at d;rw[ag,←L];exact Option.some.inj d
  exact subscriptTail_builtinR (x:=w) pl.isList.typeIs slot_list_getitem.lookup
   (wpAny_getItem_list_neg (Q:=λr E=>r=w/\EP X c o Q r E) pl.isList dk (by rw[ag] <;> lia) dk (by rw[m];simpa using C) ⟨rfl,fin⟩) A
def V0:P6 X (rIxT X.K):=by
 intro d e c s l H x y v u Q I A o h B;obtain⟨p,xs,i,z,rfl,rfl,C,F,q⟩:=h;cases A;obtain⟨t,rfl⟩:=o;obtain⟨its,r,pl,hz⟩:=I.tuple C;obtain⟨j,J,G,R,P,O⟩:=C4 F;obtain⟨w,L,g⟩:=r.get G;have E:=r.length;have N:=line63;have fin:EP X c l Q w s:=⟨z,H,I,g,q⟩
 exact subscriptTail_builtinR (x:=w) pl.typeIs slot_tuple_getitem.lookup
  (getItem_tuple (j:=j) (Q:=λr m=>r=w/\EP X c l Q r m) pl dk dk (by rw[ag,←E];exact J) (by simpa using L) ⟨rfl,fin⟩) B
def V1:P6 X rIxS:=by
 intro d e g s G H x y v u Q I o m h p;obtain⟨z,i,c,rfl,rfl,hz,w,q⟩:=h;obtain⟨t,rfl⟩:=o;obtain⟨t',rfl⟩:=m;obtain⟨j,l,C,K,B,A⟩:=C4 w;have r:z.cps.toList.length=z.length:=by simp[Str.length]
 rw[r]at l B A;have J:=line63
 exact tail_any (typeIs_str s z t) slot_str_getitem.lookup (getItem_str (c:=c) (by
  have F:decide (i < -(2 ^ 63:Int))=false:=bo dk;have E:decide (i ≥ 2 ^ 63)=false:=bo dk
  rw[F,E,Bool.or_false]) (by rw[l];simpa using C) ⟨.str ⟨#[c]⟩,H,I.tok _,⟨_,rfl⟩,q⟩) p
def rIx (K:dq):R2:=λx y H Q=>rIxL K x y H Q\/rIxT K x y H Q\/rIxS x y H Q
def OT:P6 X (rIx X.K):=SC.or (V0.or V1)
def GS (its:cX)(n j:Nat)(u:dv):Obj.mapSeq (·.setIfInBounds j u) {cls:=.type "list",data:=.seq its.toArray n}={cls:=.type "list",data:=.seq (its.set j u).toArray n}:=by simp[Obj.mapSeq]
theorem aM.lst {c:dD}{d:St}{H:Hp}{s:du}{p:Addr}{xs:List V}(I:aM X c d H s)(h:H p=some (.lst xs)) :
  ∃(its:cX) (n:Nat),aP xs its/\s.heap.get? p=some {cls:=.type "list",data:=.seq its.toArray n}/\xs.length<=sizeLine:=by
 obtain⟨z,its,n,r,e⟩:=I.hok p _ h;exact⟨its,n,r,e,z⟩
def aM.lstUpd {c:dD}{g:St}{H:Hp}{s:du}{p:Addr}{xs ys:List V}{its its':cX}{n d:Nat}{f:Obj->Obj}(I:aM X c g H s)(h:H p=some (.lst xs))
  (ho:s.heap.get? p=some {cls:=.type "list",data:=.seq its.toArray n}) (i:f {cls:=.type "list",data:=.seq its.toArray n}={cls:=.type "list",data:=.seq its'.toArray d}) (r:aP ys its') (hz:ys.length<=sizeLine) (t:Nat) :
  aM X c g (upd H p (.lst ys)) {s with heap:=s.heap.update p f,toks:=t}:=by
 have e:(s.heap.update p f).get? p=some {cls:=.type "list",data:=.seq its'.toArray d}:=by rw[Heap.get?_update_self f ho (by rw[i] <;> rfl),i]
 refine I.write (x:=p) (e:=p) (by rw[h];trivial) (.inl rfl) (λb u hb q=>(Heap.get?_update_other _ _ (Ne.symm hb)).trans q) ⟨_,e⟩ ?_;exact⟨hz,its',d,r,e⟩
def rSetL:V->V->V->Hp->(Hp->Prop)->Prop:=λo i v H Q=>∃p xs k j,o = .ref p/\i = .int k/\H p=some (.lst xs)/\ixN xs.length k=some j/\Q (upd H p (.lst (xs.set j v)))
def DS:XD X rSetL:=by
 intro c s z H o i v F iv u Q I B C A h;obtain⟨p,xs,k,j,rfl,rfl,l,E,q⟩:=h;cases B;obtain⟨t,rfl⟩:=C;obtain⟨its,n,r,ho,hz⟩:=I.lst l;obtain⟨d,J,w,m⟩:=JT E;have e:=r.length;have G:=line63;have I':aM X c z (upd H p (.lst (xs.set j v))) {s with heap:=s.heap.update p (Obj.mapSeq (·.setIfInBounds j u))} :=
  I.lstUpd l ho (GS its n j u) (r.set A j) (by rw[List.length_set];exact hz) s.toks
 by_cases x:0<=k
 ·have g:k.toNat=j:=by rw[seqIndex_of x m]at d;exact Option.some.inj d
  exact PySem.W.ki_setAt ho x dk (by rw[ag,←e];exact m) (by rw[g];exact⟨_,I',q⟩)
 ·have g:(k+(its.toArray.size:Int)).toNat=j:=by rw[seqIndex_neg dk w]at d;rw[ag,←e];exact Option.some.inj d
  exact PySem.W.ki_setBack ho dk (by rw[ag,←e];exact w) dk (by rw[g];exact⟨_,I',q⟩)
def BD (lo hi:Option Int)(n:Nat):(sliceBounds lo hi none n).1=((HT.sIx n 0 lo:Nat):Int)/\(sliceBounds lo hi none n).2.1=((HT.sIx n n hi:Nat):Int)/\(sliceBounds lo hi none n).2.2=1:=by
 refine⟨?_,?_,rfl⟩
 ·cases lo with
  | none=>simp[sliceBounds,HT.sIx]
  | some i =>
   simp only[sliceBounds,HT.sIx,Option.getD_none,show(1:Int) > 0 by decide,if_true];by_cases h:i<0
   ·simp only[h,if_true] <;> lia
   ·simp only[h,if_false] <;> lia
 ·cases hi with
  | none=>simp[sliceBounds,HT.sIx]
  | some i =>
   simp only[sliceBounds,HT.sIx,Option.getD_none,show(1:Int) > 0 by decide,if_true];by_cases h:i<0
   ·simp only[h,if_true] <;> lia
   ·simp only[h,if_false] <;> lia
def yJ (its:cX)(lo hi:Option Int):slicePick its.toArray lo hi none=((its.drop (HT.sIx its.length 0 lo)).take (HT.sIx its.length its.length hi - HT.sIx its.length 0 lo)).toArray:=by obtain⟨e,d,c⟩:=BD lo hi its.toArray.size;unfold slicePick;rw[e,d,c];simp only[sliceRange_one,pick_run,ag] <;> rfl
def rSlL (K:dq):V->Option Int->Option Int->Hp->VK->Prop:=λx lo hi H Q=>∃a xs,x = .ref a/\fL K H a xs/\∀p,H p=none->Q (.ref p) (upd H p (.lst (cutV xs lo hi)))
def QI:XB X (rSlL X.K):=by intro d s m H x v t p lo hi u Q I g l pl i h;obtain⟨a,xs,rfl,j,q⟩:=h;cases g;obtain⟨its,r,e,hz⟩:=I.list j;have c:=r.length;refine⟨"list",_,slot_list_getitem.lookup,e.isList.typeIs,?_⟩;refine wpAny_getItem_list_slice e.isList l pl i .none dl ?_ (by rw[ag] <;> lia);rw[yJ,←c];refine⟨.ref s.heap.objs.size,_,I.laid (t':=s.toks) (o:=.lst (cutV xs lo hi)) (λb w q=>af _ q) (ac _) ?_,rfl,q _ (I.hok.fresh (ac _))⟩;exact⟨ao (tY xs lo hi) hz,_,0,(r.drop (HT.sIx xs.length 0 lo)).take (HT.sIx xs.length xs.length hi - HT.sIx xs.length 0 lo),av _ rfl⟩
def BW:jU X (compareOp .NotIn) (λx y H Q=>∃i j,x = .str i/\y = .str j/\Q (.bl (!(!(Builtin.Str.occurrences j i 0 j.length 1).isEmpty))) H):=by intro c s g H x y v u Q I e d h;obtain⟨i,j,rfl,rfl,q⟩:=h;obtain⟨t,rfl⟩:=e;obtain⟨t',rfl⟩:=d;exact notIn_str ⟨.bl _,H,I,rfl,q⟩
def mO:cV X (.builtin "len") (λxs H Q=>∃p ys,xs=[.ref p]/\(fL X.K H p ys\/iF X.K H p ys)/\Q (.int ys.length) H):=by
 intro g s j H xs us Q I r h;obtain⟨p,ys,rfl,d,q⟩:=h;obtain⟨u,rfl,i⟩:=vals1 r;cases i;have l:=line63;rcases d with d|d
 ·obtain⟨its,e,pl,hz⟩:=I.list d;have c:=e.length;exact Calls.call_len_list pl.isList (by simp only[ag] <;> lia) ⟨.int ys.length,H,I.tok _,⟨s.toks+1,by rw[ag,c]⟩,q⟩
 ·obtain⟨its,e,pl,hz⟩:=I.tuple d;have c:=e.length;exact len_tuple pl (by simp only[ag] <;> lia) ⟨.int ys.length,H,I.tok _,⟨s.toks+1,by rw[ag,c]⟩,q⟩
def C2:cV X (.builtin "len") (λxs H Q=>∃z,xs=[.str z]/\z.length<=sizeLine/\Q (.int z.length) H):=by intro c s d H xs us Q I r h;obtain⟨z,rfl,hz,q⟩:=h;obtain⟨u,rfl,t,rfl⟩:=vals1 r;have e:=line63;exact len_str dk ⟨.int z.length,H,I.tok _,⟨_,rfl⟩,q⟩
def C1:cV X (.type "list") (λxs H Q=>∃p ys,xs=[.ref p]/\(fL X.K H p ys\/iF X.K H p ys)/\∀l,H l=none->Q (.ref l) (upd H l (.lst ys))):=by
 intro g s t H xs us Q I r h;obtain⟨p,ys,rfl,i,q⟩:=h;obtain⟨u,rfl,v⟩:=vals1 r;cases v;have fin:∀(its:cX),aP ys its->ys.length<=sizeLine->∀(h':Heap) (d:Nat),(∀b m,s.heap.get? b=some m->h'.get? b=some m) ->
   h'.get? s.heap.objs.size=some {cls:=.type "list",dict:=none,data:=.seq its.toArray d,slots:=#[]}->EP X g t Q (.ref s.heap.objs.size) {s with heap:=h'}:=λits c hz h' d kp e =>
  ⟨.ref s.heap.objs.size,_,I.laid (t':=s.toks) kp (ac _) (show cK X.prog X.w _ h' _ (.lst ys)from⟨hz,its,d,c,e⟩),rfl,q _ (I.hok.fresh (ac _))⟩
 rcases i with i|i
 ·obtain⟨its,c,pl,hz⟩:=I.list i;have j:=c.length;obtain⟨o,ho,hc,n,hd⟩:=pl.isList;exact call_list_seq p (.inl rfl) ho hc hd (λh' d kp e=>fin its c hz h' d kp e) (by simp only[ag] <;> lia)
 ·obtain⟨its,c,pl,hz⟩:=I.tuple i;have j:=c.length;obtain⟨o,ho,hc,n,hd⟩:=pl;exact call_list_seq p (.inr rfl) ho hc hd (λh' d kp e=>fin its c hz h' d kp e) (by simp only[ag] <;> lia)
def yO:cV X (.type "tuple") (λxs H Q=>∃p ys,xs=[.ref p]/\((fL X.K H p ys/\∀l,H l=none->Q (.ref l) (upd H l (.tup ys)))\/(iF X.K H p ys/\Q (.ref p) H))):=by
 intro c s i H xs us Q I r h;obtain⟨p,ys,rfl,h⟩:=h;obtain⟨u,rfl,t⟩:=vals1 r;cases t;rcases h with⟨g,q⟩|⟨g,q⟩
 ·obtain⟨its,d,pl,hz⟩:=I.list g;have j:=d.length;refine call_tuple_list pl.isList (λh' kp=>?_) (by simp only[ag] <;> lia);have m:aM X c i H {s with heap:=h'}:=I.kept (t':=s.toks) kp;have v:aM X c i (upd H h'.objs.size (.tup ys)) {s with heap:=h'.push {cls:=.type "tuple",data:=.seq its.toArray} } :=
   m.laid (t':=s.toks) (λb o e=>af _ e) (ac _) (show cK X.prog X.w _ _ _ (.tup ys)from⟨hz,its,d,IsTup.new _ _⟩)
  exact⟨.ref h'.objs.size,_,v,rfl,q _ (m.hok.fresh (ac _))⟩
 ·obtain⟨its,d,pl,hz⟩:=I.tuple g;exact call_tuple_same pl ⟨.ref p,H,I,rfl,q⟩
def tyV (K:dq)(T:String)(x:V)(H:Hp):Prop:=match x with
 | .str _=>T="str"
 | .int _=>T="int"
 | .ref p=>(T="list"/\∃xs,fL K H p xs)\/(T="tuple"/\∃o,K.lookup p=some o/\o.cls = .type "tuple"/\o.dict=none) \/
   (T="dict"/\((∃c,H p=some (.dK c))\/∃c,H p=some (.dT c)))\/(T="set"/\∃S n,H p=some (.set S n))
 | _=>False
def MP {g:dD}{m:St}{H:Hp}{s:du}{T:String}{x:V}{v:dv}(I:aM X g m H s)(r:aQ x v)(ty:tyV X.K T x H) :
  s.TypeIs v T/\∀a,v = .ref a->∃l,s.heap.get? a=some l/\l.dict=none:=by
 cases x with
 | str z =>
  obtain⟨t,rfl⟩:=r;cases (show T="str" from ty);exact⟨typeIs_str s z t,λ_ e=>nomatch e⟩
 | int i =>
  obtain⟨t,rfl⟩:=r;cases (show T="int" from ty);exact⟨typeIs_int s i t,λ_ e=>nomatch e⟩
 | ref p =>
  cases r;rcases ty with⟨rfl,xs,q⟩|⟨rfl,o,d,hc,hd⟩|⟨rfl,d⟩|⟨rfl,S,n,d⟩
  ·obtain⟨its,_,pl,_⟩:=I.list q;refine⟨pl.isList.typeIs,λa e=>?_⟩;cases e;obtain⟨o,n,e,c,hd,_⟩:=pl;exact⟨o,e,hd⟩
  ·refine⟨⟨o,I.kIn p o d,hc⟩,λa e=>?_⟩;cases e;exact⟨o,I.kIn _ o d,hd⟩
  ·have z:∃o,s.heap.get? p=some o/\o.ExactDict:=by
    rcases d with⟨h,d⟩|⟨h,d⟩
    ·obtain⟨_,_,_,_,o,_,_,e,ex,_⟩:=I.hok p _ d;exact⟨o,e,ex⟩
    ·obtain⟨_,_,_,_,o,_,_,e,ex,_⟩:=I.hok p _ d;exact⟨o,e,ex⟩
   obtain⟨o,e,ex⟩:=z;refine⟨⟨o,e,ex.1⟩,λa j=>?_⟩;cases j;exact⟨o,e,ex.2.1⟩
  ·obtain⟨o,_,_,_,e,ex,_⟩:=I.hok p _ d;refine⟨⟨o,e,ex.1⟩,λa j=>?_⟩;cases j;exact⟨o,e,ex.2.1⟩
 | _=>exact False.elim ty
def tBM0 (K:dq)(T:String)(r:V->List V->Hp->VK->Prop)(e:TE):TE:=λd H Q=>e d H λx c=>tyV K T x c/\r x [] c Q
def tBM (K:dq)(T:String)(r:V->List V->Hp->VK->Prop)(e:TE)(t:TA):TE:=λc H Q=>e c H λx d=>tyV K T x d/\t c d λxs g=>r x xs g Q
variable {o e:Expr}{es:pV}{to:TE}{t:TA}{name:Str}{apos cpos:Pos}{T id:String}{r:V->List V->Hp->VK->Prop}
def BT (pa:PlainAttrs T)(slot:Slot T name id)(g:typeOf (.builtin id)=pure (.type "method_descriptor"))(p:XW X id r)(ho:PE X o to)
  (e:attributeBase o name X.env (eval o X.env)=eval o X.env:=by rfl) (d:(apos.endLine == cpos.line)=true:=by rfl):PE X (.Call (.Attribute o name apos) [] [] cpos) (tBM0 X.K T r to):=by
 intro c s i H Q I h;refine wpAny_Call_method0_late e d (thn (ho c s i H _ I h) λv l ⟨x,u,j,r1,ty,m⟩=>?_);obtain⟨t,q⟩:=MP j r1 ty;exact⟨T,id,pa,slot,g,t,q,Calls.callWith_builtin rfl (PySem.evalArgs_none (p c l i u x [] v [] Q j r1 .nil m))⟩
def j8 (pa:PlainAttrs T)(slot:Slot T name id)(m:typeOf (.builtin id)=pure (.type "method_descriptor"))(C:XW X id r)(ho:PE X o to)(E:PA X (e::es) t)
  (i:attributeBase o name X.env (eval o X.env)=eval o X.env:=by rfl)
  (j:((backTo cpos (starEach (e::es) X.env)).all (λx=>!x.1) && (backToKw cpos (keywordEach [] X.env)).all (λx=>x.1.isSome)
   && decide ((e::es).length+([]:List Keyword).length+(if ([]:List Keyword).isEmpty then 0 else 1)<30))=true:=by rfl)
  (g:(apos.endLine == cpos.line)=true:=by rfl) (B:starEach (e::es) X.env=(false,eval e X.env)::starEach es X.env:=by rfl) (d:(backTo cpos (starEach es X.env)).any (·.1)=false:=by rfl) :
  PE X (.Call (.Attribute o name apos) (e::es) [] cpos) (tBM X.K T r to t):=by
 intro c s l H Q I h;refine wpAny_Call_method_late i j g rfl (thn (ho c s l H _ I h) λv u ⟨x,N,q,r1,ty,A⟩=>?_);obtain⟨G,F⟩:=MP q r1 ty;refine⟨T,id,pa,slot,m,G,F,?_⟩;have p:=E cpos c u l N _ q A;rw[B]at p⊢;refine Calls.callWith_builtin (by show(false || (backTo cpos (starEach es X.env)).any (·.1))=false;rw[d] <;> rfl) (Calls.evalArgs_plain ?_);exact thn p λus s2 ⟨vs,L,J,w,z⟩=>C c s2 l L x vs v us Q J r1 w z
end
def UB (X:Cx)(id:String)(r:V->List V->Hp->VK->Prop):Prop :=
 ∀(c:dD) (s:du) (σ:St) (H:Hp) (x:V) (xs:List V) (v:dv) (us:cX) (Q:VK),aM X c σ H s->aQ x v->aP xs us->r x xs H Q ->
  wpAny (model X.prog X.w) X.A (call (.builtin id) (v::us)) (EP X c σ Q) X.xe s
def aP.one (h:aP [x] us):∃u,us=[u]/\aQ x u:=by cases h with|cons r t=>cases t;exact⟨_,rfl,r⟩
def aP.two (h:aP [x,y] us):∃u v,us=[u,v]/\aQ x u/\aQ y v:=by cases h with|cons r t=>obtain⟨v,rfl,q⟩:=aP.one t;exact⟨_,_,rfl,r,q⟩
def aP.zero:∀{us:cX},aP [] us->us=[]
 | _,.nil=>rfl
def aP.dropLast (h:aP xs us):aP xs.dropLast us.dropLast:=by
 induction h with
 | nil=>exact .nil
 | cons r t c =>
  cases t with
  | nil=>exact .nil
  | cons q t'=>exact .cons r c
def aP.eraseIdx:∀{xs:List V} {us:cX} (i:Nat),aP xs us->aP (xs.eraseIdx i) (us.eraseIdx i)
 | _,_,_,.nil=>.nil
 | _,_,0,.cons _ t=>t
 | _,_,i+1,.cons r t=>.cons r (aP.eraseIdx i t)
def aP.reverse (h:aP xs us):aP xs.reverse us.reverse:=by
 induction h with
 | nil=>exact .nil
 | cons r t c=>rw[List.reverse_cons,List.reverse_cons];exact aP.append c (.cons r .nil)
def aP.rep (h:aP xs us):∀k:Nat,aP (List.replicate k xs).flatten (List.replicate k us).flatten
 | 0=>.nil
 | k+1=>by rw[List.replicate_succ,List.replicate_succ,List.flatten_cons,List.flatten_cons];exact aP.append h (aP.rep h k)
def HX {c:Type}(l:List c):l.eraseIdx (l.length - 1)=l.dropLast:=by
 induction l with
 | nil=>rfl
 | cons a r d =>
  cases r with
  | nil=>rfl
  | cons b r =>
   have e:(a::b::r).length - 1=((b::r).length - 1)+1:=by
    have h:(a::b::r).length=r.length+2:=rfl;have g:(b::r).length=r.length+1:=rfl
    lia
   rw[e,List.eraseIdx_cons_succ,d]
   all_goals rfl
def zQ {c:Type}:∀(l:List c) (i:Nat),(l.eraseIdx i).length<=l.length
 | [],_=>ac _
 | _::_,0=>Nat.le_succ _
 | _::r,i+1=>Nat.succ_le_succ (zQ r i)
theorem AA (its:cX):∀(k:Nat) (c:cX),
  List.foldl (λg d=>g++d) c.toArray (List.replicate k its.toArray)=(c++(List.replicate k its).flatten).toArray
 | 0,c=>by simp
 | k+1,c=>by
  have e:c.toArray++its.toArray=(c++its).toArray:=by simp
  have h:(c++its)++(List.replicate k its).flatten=c++(List.replicate (k+1) its).flatten:=by rw[List.replicate_succ,List.flatten_cons,cq]
  rw[←h,←AA its k (c++its),←e,List.replicate_succ,List.foldl_cons]
section
variable {X:Cx}{pins:dD}{σ:St}{H:Hp}{s:du}{l b:Addr}{xs ys zs:List V}
def aM.lset {its its':cX}{n:Nat}{f:pU->pU}{t':Nat}(I:aM X pins σ H s)(h:H l=some (.lst xs))
  (e:s.heap.get? l=some {cls:=.type "list",data:=.seq its.toArray n}) (g:f its.toArray=its'.toArray) (c:aP ys its') (hz:ys.length<=sizeLine) :
  aM X pins σ (upd H l (.lst ys)) {s with heap:=s.heap.update l (Obj.mapSeq f),toks:=t'}:=by
 have q:=PySem.IsL.update e f;rw[g]at q;refine I.write (x:=l) (e:=l) (by rw[h];exact trivial) (.inl rfl) (λi u hb d=>(Heap.get?_update_other s.heap (Obj.mapSeq f) (Ne.symm hb)).trans d) ⟨_,q⟩ ?_;exact⟨hz,its',_,c,q⟩
def aM.lnew {its:cX}{t':Nat}(I:aM X pins σ H s)(c:aP ys its)(hz:ys.length<=sizeLine) :
  aM X pins σ (upd H s.heap.objs.size (.lst ys)) {s with heap:=s.heap.push {cls:=.type "list",data:=.seq its.toArray},toks:=t'} :=
 I.laid (λ_ _ q=>af _ q) (ac _) ⟨hz,its,0,c,av _ rfl⟩
def aM.fresh (I:aM X pins σ H s):H s.heap.objs.size=none:=I.hok.fresh (ac _)
def aM.lstM (I:aM X pins σ H s)(c:H l=some (.lst xs)):xs.length<=sizeLine/\∃(its:cX) (n:Nat),aP xs its/\xs.length=its.length/\s.heap.get? l=some {cls:=.type "list",data:=.seq its.toArray n}:=by obtain⟨z,its,n,r,e⟩:=I.hok l _ c;exact⟨z,its,n,r,r.length,e⟩
def wM (h:n<=sizeLine):Builtin.List.listTooLong n=false:=by unfold Builtin.List.listTooLong;exact bo dk
end
section
variable {X:Cx}
def rAppend:V->List V->Hp->VK->Prop:=λx vs H Q=>∃l xs y,x = .ref l/\vs=[y]/\H l=some (.lst xs)/\xs.length<sizeLine/\Q .non (upd H l (.lst (xs++[y])))
def gH:UB X "list.append" rAppend:=by
 intro c s m H x vs v us Q I g i h;obtain⟨l,xs,y,rfl,rfl,d,hz,q⟩:=h;cases g;obtain⟨u,rfl,j⟩:=i.one;obtain⟨z,its,n,r,o,e⟩:=I.lstM d;refine call_meets F.slot_list_append ⟨_,e,rfl⟩ F.entry_list_append (F.args_list_append_2 _ _) (PySem.list_append l its.toArray n u (by rw[ag];lia)) ⟨e,?_⟩;refine⟨.non,_,I.lset (its':=its++[u]) d e dl (r.append (.cons j .nil)) ?_,rfl,q⟩;rw[au,cm]
 lia
def rExtend:V->List V->Hp->VK->Prop:=λx vs H Q=>∃l b xs c,x = .ref l/\vs=[.ref b]/\H l=some (.lst xs)/\H b=some (.lst c)/\xs.length+c.length<=sizeLine/\Q .non (upd H l (.lst (xs++c)))
def K8:UB X "list.extend" rExtend:=by
 intro d s A H x vs v us Q I i j h;obtain⟨l,b,xs,B,rfl,rfl,g,t,hz,q⟩:=h;cases i;obtain⟨u,rfl,m⟩:=j.one;cases m;obtain⟨z,its,n,r,E,e⟩:=I.lstM g;obtain⟨C,its2,n2,o,p,w⟩:=I.lstM t;have hsz:its.toArray.size+its2.toArray.size<=sizeLine:=by rw[ag,ag];lia
 have c:¬(!its.toArray.isEmpty && Builtin.List.listTooLong (its.toArray.size+its2.toArray.size))=true:=by rw[wM hsz,Bool.and_false];exact Bool.false_ne_true
 refine call_meets F.slot_list_extend ⟨_,e,rfl⟩ F.entry_list_extend (F.args_list_extend_2 _ _)
  (AutoSeq1.list_extend_list_list_0 l its.toArray n b its2.toArray n2 c (by rw[ag];lia) dk) ⟨e,w,?_⟩
 refine⟨.non,_,I.lset (its':=its++its2) g e dl (r.append o) ?_,rfl,q⟩;rw[au]
 lia
def rPop:V->List V->Hp->VK->Prop:=λx vs H Q=>∃l xs y,x = .ref l/\vs=[]/\H l=some (.lst xs)/\xs[xs.length - 1]?=some y/\Q y (upd H l (.lst xs.dropLast))
def GP:UB X "list.pop" rPop:=by
 intro d s w H x vs v us Q I i j h;obtain⟨l,xs,y,rfl,rfl,g,o,q⟩:=h;cases i;have c:=j.zero;subst c;obtain⟨z,its,n,r,t,e⟩:=I.lstM g;obtain⟨u,p,m⟩:=r.get o;have hy':its.toArray[its.toArray.size - 1]?=some u:=by show its.toArray[its.length - 1]?=some u;rw[←Array.getElem?_toList,←t];exact p
 refine call_meets F.slot_list_pop ⟨_,e,rfl⟩ F.entry_list_pop (F.args_list_pop_1 _) (MeetsSeq.list_pop_last l its.toArray n u hy' (by rw[ag];lia)) ⟨e,?_⟩;refine⟨y,_,I.lset (its':=its.dropLast) g e ?_ r.dropLast ?_,m,q⟩
 ·show its.toArray.eraseIdxIfInBounds (its.toArray.size - 1)=its.dropLast.toArray;rw[ag,List.eraseIdxIfInBounds_toArray,HX]
 ·rw[List.length_dropLast]
  lia
def rPopAt:V->List V->Hp->VK->Prop:=λx vs H Q=>∃l xs i k y,x = .ref l/\vs=[.int i]/\H l=some (.lst xs)/\-(2 ^ 63)<=i/\i<2 ^ 63/\seqIndex? i xs.length=some k/\xs[k]?=some y/\Q y (upd H l (.lst (xs.eraseIdx k)))
def OD:UB X "list.pop" rPopAt:=by
 intro d s J H x vs v us Q I j m h;obtain⟨l,xs,i,k,y,rfl,rfl,g,G,E,C,p,q⟩:=h;cases j;obtain⟨u,rfl,o⟩:=m.one;obtain⟨t,rfl⟩:=o;obtain⟨z,its,n,r,B,e⟩:=I.lstM g;obtain⟨w,A,c⟩:=r.get p;refine call_meets F.slot_list_pop ⟨_,e,rfl⟩ F.entry_list_pop (F.args_list_pop_2 _ _)
  (MeetsSeq.list_pop_at l its.toArray n i t k w (fitsIndex_both G E) (by rw[ag,←B];exact C) (by rw[←Array.getElem?_toList];exact A) (by rw[ag];lia)) ⟨e,?_⟩
 refine⟨y,_,I.lset (its':=its.eraseIdx k) g e ?_ (r.eraseIdx k) ?_,c,q⟩
 ·show its.toArray.eraseIdxIfInBounds k=(its.eraseIdx k).toArray;rw[List.eraseIdxIfInBounds_toArray]
 ·have:=zQ xs k
  lia
def rCat:R2:=λx y H Q=>∃l b xs c,x = .ref l/\y = .ref b/\H l=some (.lst xs)/\H b=some (.lst c)/\xs.length+c.length<=sizeLine/\∀p,H p=none->Q (.ref p) (upd H p (.lst (xs++c)))
def VA:jU X (binaryOp .Add) rCat:=by
 intro c s w H x y v u Q I g d h;obtain⟨l,b,xs,A,rfl,rfl,m,o,hz,q⟩:=h;cases g;cases d;obtain⟨z,its,n,r,C,e⟩:=I.lstM m;obtain⟨B,its2,n2,i,j,t⟩:=I.lstM o;refine PySem.P.add_list e t ?_ (by rw[ag,ag];lia);have p:its.toArray++its2.toArray=(its++its2).toArray:=by simp
 rw[p];exact⟨.ref _,_,I.lnew (t':=s.toks) (r.append i) (by rw[au];lia),rfl,q _ I.fresh⟩
def rRep:R2:=λx y H Q=>∃l k xs,x = .ref l/\y = .int k/\H l=some (.lst xs)/\-(2 ^ 63)<=k/\k<2 ^ 63/\xs.length * k.toNat<=sizeLine /\
 ∀p,H p=none->Q (.ref p) (upd H p (.lst (List.replicate k.toNat xs).flatten))
def R7 {c:Type}(xs:List c)(k:Nat):(List.replicate k xs).flatten.length=k * xs.length:=by
 induction k with
 | zero=>simp
 | succ k d=>rw[List.replicate_succ,List.flatten_cons,au,d,Nat.succ_mul,Nat.add_comm]
def sM:jU X (binaryOp .Mult) rRep:=by
 intro w s L H x y v u Q I C B h;obtain⟨l,k,xs,rfl,rfl,G,K,J,hz,q⟩:=h;cases C;obtain⟨t,rfl⟩:=B;obtain⟨z,its,n,r,E,e⟩:=I.lstM G;have g:its.toArray.size * k.toNat<=sizeLine:=by rw[ag,←E];exact hz
 have j:¬its.toArray.size * k.toNat > (2 ^ 63 - 1) / 8:=by
  have:(sizeLine:Nat)<=(2 ^ 63 - 1) / 8:=by decide
  lia
 have i:¬(!Builtin.List.listFitsIndex k)=true:=by rw[fitsIndex_both K J];exact Bool.false_ne_true
 have c:¬Builtin.List.listTooLong (its.toArray.size * k.toNat)=true:=by rw[wM g];exact Bool.false_ne_true
 have d:List.foldl (λp o=>p++o) #[] (List.replicate (if its.toArray.isEmpty=true then 0 else k.toNat) its.toArray)=(List.replicate k.toNat its).flatten.toArray:=by
  have f0:∀m:Nat,List.foldl (λp o=>p++o) #[] (List.replicate m its.toArray)=(List.replicate m its).flatten.toArray:=λm=>by have:=AA its m [];rw[List.nil_append]at this;exact this
  rw[f0];cases its with
  | nil=>simp
  | cons a N=>rw[ab dl]
 refine wpAny_binaryOp_repeat_ref (T:="list") (U:="int") ad ⟨_,e,rfl⟩ (λA=>typeIs_int A k t) noFill_list_mul F.fills_int_mul F.slot_int_rmul repeat_list F.slot_int_index.lookup
  (call_meets F.slot_int_rmul (typeIs_int s k t) F.entry_int_rmul (F.args_int_rmul_2 _ _) (int___rmul___int_list k t l its.toArray n)
   ⟨e,rfl,⟨_,e,rfl⟩,call_meets F.slot_list_mul ⟨_,e,rfl⟩ F.entry_list_mul (F.args_list_mul_2 _ _) (AutoListH.list___mul___list_int_3 l its.toArray n k t i j c) ⟨e,?_⟩⟩)
 rw[d];exact⟨.ref _,_,I.lnew (t':=s.toks) (r.rep k.toNat) (by rw[R7,Nat.mul_comm];exact hz),rfl,q _ I.fresh⟩
end
end L2
namespace Att
open PySem PySem.W PySem.Calls PyProof.Rows
def uS:∀(ns:List Int) (vs:cX),WellAll P h vs (ns.map WData.int)->IntsAre vs ns:=by
 intro ns
 induction ns with
 | nil =>
  intro vs w;rw[List.map_nil]at w;cases w;exact .nil
 | cons n ns c =>
  intro vs w;rw[bf]at w;cases w with
  | cons a b =>
   cases a;exact .cons _ _ (c _ b)
def KH {l:OpenLaw}{n:Nat}(u:l.most=some n){P:Params}{h:Heap}{args:List WData}{c:cX}
  (e:l.row.toRowW.claim.pre args=true) (o:WellAll P h c args) :
  ∃a vs ns,c=[Value.ref a]/\args=[WData.list (ns.map WData.int)]/\h.get? a=some {cls:=.type "list",data:=.seq vs.toArray}/\IntsAre vs ns/\ns.length<=n:=by
 have p:WShape.hasAll [] args [.list .int]=true:=(pre_splitW e).1;have hc:l.pre.holds [] {args:=args}=true:=(pre_splitW e).2;obtain⟨d,r,rfl,x,w⟩:=hasAllW_cons p;obtain rfl:=hasAllW_nil w;obtain⟨xs,rfl,v⟩:=hasW_list x;obtain⟨ns,rfl⟩:=items_int v;have g:ns.length<=n:=by
  unfold OpenLaw.pre at hc;have m:(WTm.not (.lt (.lit (.int (n:Int))) (.len (.arg 0)))).holds [] {args:=[.list (ns.map .int)]}=true:=by have m:=(holds_andW hc).1;rw[u]at m;exact m
  have j:=condW_of m (w_not (w_lt w_lit (w_len_list (w_arg rfl))));rw[ae]at j;refine Nat.le_of_not_lt λq=>?_;have q':(n:Int)<((ns.length:Nat):Int):=by lia
  first
   | (rw[bi q']at j;exact absurd j ad)
   | (simp at j;lia)
 cases o with
 | cons t s =>
  cases s;cases t with
  | list ho i=>exact⟨_,_,ns,rfl,rfl,ho,uS ns _ i,g⟩
def KM (l:OpenLaw)(args:List WData):l.row.toRowW.claim.post args (.bool true) args=true :=
 postW_of (r:=l.row.toRowW) (X:=(true == true))
  (show WShape.has [] (.bool true) .bool=true by first|rfl|decide|simp[WShape.has,WShape.arms,WShape.armsAll])
  (show(WTm.eq .res (.lit (.bool true))).value [] {args:=args,res:=some (.bool true),after:=args}=some (.bool (true == true))from w_eq_bool (w_res rfl) w_lit) rfl
def FG {l:OpenLaw}{n:Nat}{q:dw}{loose:aV}{XP:(jS)->Heap->Prop}{YP:dy->Heap->Prop}{d:DefRec}
  (E:l.most=some n) (u:d.params.defaults=[])
  (call:∀(w:dy) (s₀ c:du) (mg mb:jS) (fa:Addr) (o:Obj) (pm p g:dv) (a:Addr) (vs:cX) (ns:List Int),
   Ground q loose [] XP w s₀ mg mb c.heap->YP w c.heap ->
   c.heap.get? fa=some o->o.data = .func (docDef d.name d.params d.body d.scope pm p g)->c.heap.CodeRec p d.name->mg d.name=some (.ref fa) ->
   c.heap.get? a=some {cls:=.type "list",data:=.seq vs.toArray}->IntsAre vs ns->ns.length<=n->c.gens = #[] ->
   codeAny (model l.prog w) callerA (.call (.ref fa) ⟨[.ref a],[]⟩) (λr m=>r = .ok (.ret (.bool true))/\OldK c.heap m.heap/\m.os=c.os/\AllBare m.gens) c) :
  WalkO q loose XP YP l.row.toRowW d [] (λf vs=>PySem.call f vs):=by
 intro w s₀ c mg mb G Y fa o pm p g N kV ho hd v A t I args x as h z B s H;obtain rfl:N = .none:=Dflts.none A u;obtain rfl:kV = .none:=Dflts.noKw A;obtain⟨a,vs,ns,rfl,rfl,i,e,j⟩:=KH E h s;refine enter_call (codeAny_mono (call w s₀ c mg mb fa o pm p g a vs ns G Y ho (fd_plain hd) v t i e j I) λr m C=>?_);obtain⟨rfl,L,K,J⟩:=C;exact⟨.inl ⟨.bool true,.bool true,[],rfl,λ_=>rfl,.bool true,KM l _,λ_=>⟨List.Pairwise.nil,λ_ F=>(nomatch F)⟩⟩,L,K,J⟩
end Att
namespace L2
open PySem PySem.Spec PyProof.Rows
def yV:∀{vs:cX} {ns:List Int},IntsAre vs ns->aP (ns.map V.int) vs
 | _,_,.nil=>.nil
 | _,_,.cons n t h=>.cons ⟨t,rfl⟩ (yV h)
abbrev bU:DC:=λ_ _ _ _ _ _=>False
abbrev E0:XK:=λ_ _ _=>False
def pass0:kW bU X E0:=λ_ _ _ _ _ _ _ h=>h.elim
structure fV (K:dq)(x qual:Str)(st:Stmt)(f:Addr)(fd:FuncData):Prop where
 ex:∃(oc:dv) (od:Option Addr) (kV doc pm:dv) (an:Option Addr) (cdv ct:dv) (osl:Array (Option dv)),
  fd=PySem.W.fnOf x qual (dP st) (cS st) (aH st) .none kV doc pm an cdv ct/\K.lookup f=some ⟨oc,od,.func fd,osl⟩/\PySem.W.codeIn K cdv qual=true
 kp:PySem.W.keepIn K (.ref f)=true
section
variable {P:dw}{w:dy}{K:dq}{mg:jS}{base:Heap}
def fV.ok {x c:Str}{st:Stmt}{f:Addr}{j:FuncData}{N ps:aV}{k:Nat}{sp:Sp}(F:fV K x c st f j)(S:aN N ps (aH st))(len:∀vs H Q E,sp vs H Q E->vs.length=ps.length)
  (e:∀(d:dv) (A:dz) (outer:List Env) (s:du) (H:Hp) (vs:List V) (Q:VK) (E:XK),d9 k (A.deeper (envOfC c (aH st) s.heap.objs.size f d))->sp vs H Q E ->
   ∃t,FR (cxOf bU P w K mg base N c (aH st) f d A outer s H E).nox (cS st) t/\t {nx:=λ_ H'=>Q .non H',rt:=Q} (start N vs) H):cH P w K mg base bU (k+1) f j ps sp:=by
 obtain⟨p,od,kV,o,pm,r,d,ct,osl,rfl,l,i⟩:=F.ex;refine T5 l i S len λA outer s H vs Q E m g=>?_;obtain⟨t,h,q⟩:=e d A outer s H vs Q E m g;exact⟨t,h.nox,q⟩
def fV.binds {x c:Str}{st:Stmt}{f:Addr}{i:FuncData}{ps:aV}(F:fV K x c st f i)
  (h:∀(kV d pm:dv) (g:Option Addr) (e ct:dv) (us:cX),us.length=ps.length->bindArgs (PySem.W.fnOf x c (dP st) (cS st) (aH st) .none kV d pm g e ct) ⟨us,[]⟩=pure (ps.zip us)):eW K i ps []:=by
 obtain⟨l,od,kV,d,pm,g,e,ct,osl,rfl,m,j⟩:=F.ex;exact .all (h kV d pm g e ct)
def pO {x d:Str}{st:Stmt}{f:Addr}{i:dv}{od h:Option Addr}{osl:Array (Option dv)}{kV g pm e ct:dv}(l:K.lookup f=some ⟨i,od,.func (PySem.W.fnOf x d (dP st) (cS st) (aH st) .none kV g pm h e ct),osl⟩)
  (c:PySem.W.codeIn K e d=true) (k:PySem.W.keepIn K (.ref f)=true):fV K x d st f (PySem.W.fnOf x d (dP st) (cS st) (aH st) .none kV g pm h e ct):=⟨⟨i,od,kV,g,pm,h,e,ct,osl,rfl,l,c⟩,k⟩
end
section
variable {X:Cx}
def pv (i:Nat)(e:X.N[i]?=some x:=by rfl)(d:XJ X.env.scope x:=by first|exact Or.inl rfl|exact Or.inr (Or.inl rfl)|exact Or.inr (Or.inr rfl))(hd:(x == ("__debug__" : Str))=false:=by decide)
  (c:(x == ("__classdict__" : Str))=false:=by decide):PE X (.Name x pos) (tVar i):=NK e d hd c
end
def ite2 {c A B:Prop}[Decidable c](e:c->A)(d:¬c->B):if c then A else B:=by
 by_cases h:c
 ·rw[ai h];exact e h
 ·rw[ab h];exact d h
def aF (H H':Hp):Prop:=∀b o,H b=some o->H' b=some o
def aF.refl (H:Hp):aF H H:=λ_ _ h=>h
def aF.trans (a:aF H H1)(b:aF H1 H2):aF H H2:=λc o h=>b c o (a c o h)
def aF.free (e:aF H H')(h:H' l=Option.none):H l=Option.none:=by
 cases q:H l with
 | none=>rfl
 | some o =>
  rw[e l o q]at h;cases h
def aF.seq {K:dq}{H H':Hp}{a:Addr}{xs:List V}(e:aF H H')(h:fL K H a xs):fL K H' a xs:=by
 rcases h with(h|⟨o,h⟩)|h
 ·exact .inl (.inl (e _ _ h))
 ·exact .inl (.inr ⟨o,e _ _ h⟩)
 ·exact .inr h
section
variable {κ:Type}[DecidableEq κ]
noncomputable def valV (c:List (κ×V))(k:κ):Option V:=(c.find? λkv=>decide (kv.1=k)).map (·.2)
noncomputable def putK (c:List (κ×V))(k:κ)(v:V):List (κ×V) :=
 if (c.any λkv=>decide (kv.1=k))=true then c.map (λkv=>if kv.1=k then(kv.1,v)else kv)else c++[(k,v)]
def k8 {p:κ×V}{r:List (κ×V)}{k:κ}(e:p.1=k):valV (p::r) k=some p.2:=by simp[valV,List.find?_cons,e]
def lE {p:κ×V}{r:List (κ×V)}{k:κ}(e:¬p.1=k):valV (p::r) k=valV r k:=by simp[valV,List.find?_cons,e]
def vP (k:κ):∀c:List (κ×V),(c.any λkv=>decide (kv.1=k))=(valV c k).isSome
 | []=>rfl
 | p::r=>by
  rw[List.any_cons];by_cases e:p.1=k
  ·simp only[k8 e,bi e,Bool.true_or,Option.isSome_some]
  ·rw[lE e,bo e,Bool.false_or];exact vP k r
def kH (c:List (κ×V))(k:κ)(v:V):(putK c k v).length<=c.length+1:=by
 unfold putK;split
 ·rw[ae];lia
 ·rw[au,aq,List.length_nil];lia
def putK_new {c:List (κ×V)}{k:κ}(v:V)(h:valV c k=none):putK c k v=c++[(k,v)]:=by unfold putK;rw[vP,h];exact ab ad
def m8.isSome_eq (r:m8 o u):o.isSome=u.isSome:=by
 cases o with
 | none=>cases u with
  | none=>rfl
  | some _=>exact(show False from r).elim
 | some _=>cases u with
  | none=>exact(show False from r).elim
  | some _=>rfl
def m8.getD (r:m8 o u)(c:aQ d d'):aQ (o.getD d) (u.getD d'):=by
 cases o with
 | none=>cases u with
  | none=>exact c
  | some _=>exact(show False from r).elim
 | some _=>cases u with
  | none=>exact(show False from r).elim
  | some _=>exact r
def KV.val {c:List (κ×V)}{vs:List (κ×dv)}(r:KV c vs)(k:κ):m8 (valV c k) (valueAt vs k):=by
 unfold KV at r
 induction r with
 | nil=>exact True.intro
 | @cons p q ps qs h t g =>
  obtain⟨d,i⟩:=h;by_cases e:p.1=k
  ·have e':q.1=k:=d.symm.trans e;have b:valueAt (q::qs) k=some q.2:=by simp[valueAt,List.find?_cons,e']
   rw[k8 e,b];exact i
  ·have e':¬q.1=k:=λz=>e (d.trans z);have b:valueAt (q::qs) k=valueAt qs k:=by simp[valueAt,List.find?_cons,e']
   rw[lE e,b];exact g
def KV.any {c:List (κ×V)}{vs:List (κ×dv)}(r:KV c vs)(k:κ):(c.any λkv=>decide (kv.1=k))=vs.any λkv=>decide (kv.1=k):=by
 unfold KV at r
 induction r with
 | nil=>rfl
 | cons h t d=>rw[List.any_cons,List.any_cons,d,h.1]
def KV.repl {c:List (κ×V)}{vs:List (κ×dv)}(r:KV c vs)(k:κ){y:V}{u:dv}(g:aQ y u) :
  KV (c.map λkv=>if kv.1=k then(kv.1,y)else kv) (vs.map λkv=>if kv.1=k then(kv.1,u)else kv):=by
 unfold KV at r⊢
 induction r with
 | nil=>exact .nil
 | @cons p q ps qs h t i =>
  rw[bf,bf];refine .cons ?_ i;obtain⟨d,j⟩:=h;by_cases e:p.1=k
  ·rw[ai e,ai (d.symm.trans e)];exact⟨d,g⟩
  ·rw[ab e,ab (λz=>e (d.trans z))];exact⟨d,j⟩
def KV.put {c:List (κ×V)}{vs:List (κ×dv)}(r:KV c vs)(k:κ){y:V}{u:dv}(d:aQ y u):KV (putK c k y) (stored vs k u):=by
 unfold putK stored;rw[r.any k];by_cases e:(vs.any λkv=>decide (kv.1=k))=true
 ·rw[ai e,ai e];exact r.repl k d
 ·rw[ab e,ab e];exact Paired.snoc r ⟨rfl,d⟩
def KV.length {c:List (κ×V)}{vs:List (κ×dv)}(r:KV c vs):c.length=vs.length:=Paired.length r
end
def qY (r:aQ (kV k) u):(bM P w).is k u=true:=by
 cases k with
 | inl i=>obtain⟨t,e⟩:=(show ∃t,u=Value.int i t from r);subst e;exact EJ P w i t
 | inr x=>obtain⟨t,e⟩:=(show ∃t,u=Value.str x t from r);subst e;exact EI P w x t
def zV:∀{ks:List cR} {us:cX},aP (ks.map kV) us->ItemsAre (bM P w) ks us
 | [],_,r=>by rw[List.map_nil]at r;cases r;exact .nil
 | k::ks,_,r=>by
  rw[bf]at r;cases r with
  | cons h t=>exact .cons (qY h) (zV t)
abbrev KT (H:Hp):List (List cR×V)->List (List cR×Addr×dv)->Prop:=Paired λp q=>p.1=q.1/\H q.2.1=some (.tup (p.1.map kV))/\aQ p.2 q.2.2
def KT.val (r:KT H kvs xs)(k:List cR):m8 (valV kvs k) ((atKey xs k).map (·.2)):=by
 induction r with
 | nil=>exact True.intro
 | @cons p q ps qs h t d =>
  obtain⟨c,_,g⟩:=h;by_cases e:p.1=k
  ·have e':q.1=k:=c.symm.trans e;have b:atKey (q::qs) k=some q.2:=by simp[atKey,List.find?_cons,e']
   rw[k8 e,b];exact g
  ·have e':¬q.1=k:=λz=>e (c.trans z);have b:atKey (q::qs) k=atKey qs k:=by simp[atKey,List.find?_cons,e']
   rw[lE e,b];exact d
def KT.repl (r:KT H kvs xs)(k:List cR)(g:aQ y u) :
  KT H (kvs.map λkv=>if kv.1=k then(kv.1,y)else kv) (xs.map (putAt k u)):=by
 induction r with
 | nil=>exact .nil
 | @cons p q ps qs h t i =>
  rw[bf,bf];refine .cons ?_ i;obtain⟨c,d,j⟩:=h;unfold putAt;by_cases e:p.1=k
  ·rw[ai e,ai (c.symm.trans e)];exact⟨c,d,g⟩
  ·rw[ab e,ab (λz=>e (c.trans z))];exact⟨c,d,j⟩
def KT.put (r:KT H kvs xs)(k:List cR)(hb:H b=some (.tup (k.map kV)))(c:aQ y u) :
  KT H (putK kvs k y) (storedH xs k b u):=by
 have e:(kvs.any λkv=>decide (kv.1=k))=(atKey xs k).isSome:=by rw[vP,(r.val k).isSome_eq,Option.isSome_map]
 unfold putK storedH;rw[e];by_cases q:(atKey xs k).isSome=true
 ·rw[ai q,ai q];exact r.repl k c
 ·rw[ab q,ab q];exact Paired.snoc r ⟨rfl,hb,c⟩
def KT.keeps (r:KT H kvs xs)(c:∀b ys,H b=some (.tup ys)->H' b=some (.tup ys)):KT H' kvs xs :=
 Paired.mapP r λ_ _ z=>⟨z.1,c _ _ z.2.1,z.2.2⟩
section
variable {P:dw}{w:dy}{H:Hp}{h:Heap}{a:Addr}
def TY (ok:hV P w H h)(e:Rd H a u):cK P w H h a u:=e.ok ok
def tX (ok:hV P w H h)(e:Rd H a (.dK kvs)):kvs.length<=sizeLine/\(a == sysModules)=false/\∃vs,KV kvs vs/\h.DictOf (bM P w) a vs :=
 show cK P w H h a (.dK kvs)from TY ok e
def rH (ok:hV P w H h)(e:H a=some (.dK kvs)):kvs.length<=sizeLine/\(a == sysModules)=false/\∃vs,KV kvs vs/\h.DictOf (bM P w) a vs:=tX ok (.inl e)
def sX (ok:hV P w H h)(e:H a=some (.tup (ks.map kV))):(tupleKind (bM P w)).is h ks a:=by
 obtain⟨_,its,r,o,g,d,n,c⟩:=(show cK P w H h a (.tup (ks.map kV))from ok a _ e)
 exact⟨o,its.toArray,n,g,d,c,by simpa using zV r⟩
def xF (ok:hV P w H h)(e:Rd H a (.dT kvs)):kvs.length<=sizeLine/\(a == sysModules)=false /\
  ∃xs,KT H kvs xs/\h.DictOfH (tupleKind (bM P w)) a xs:=by
 obtain⟨z,y,xs,r,o,A,B,v,u,s,j,i⟩:=(show cK P w H h a (.dT kvs)from TY ok e)
 refine⟨z,y,xs,r,o,A,B,v,u,s,j,λx c=>?_,i⟩;have all:∀{l:List (List cR×V)} {m:List (List cR×Addr×dv)},KT H l m->∀x∈m,(tupleKind (bM P w)).is h x.1 x.2.1:=by
  intro l m q
  induction q with
  | nil=>intro x c;exact nomatch c
  | @cons p q ps qs d t g =>
   intro x c;rcases cw.mp c with e|c
   ·subst e;exact sX ok (by rw[←d.1];exact d.2.1)
   ·exact g x c
 exact all r x c
def W5 (ok:hV P w H h)(e:H a=some (.dT kvs)):kvs.length<=sizeLine/\(a == sysModules)=false /\
  ∃xs,KT H kvs xs/\h.DictOfH (tupleKind (bM P w)) a xs:=xF ok (.inl e)
end
def jW (H:Hp)(a:Addr)(y:V)(r:Option V):Prop :=
 (∃c k,Rd H a (.dK c)/\y=kV k/\r=valV c k)\/∃c k b,Rd H a (.dT c)/\y = .ref b/\H b=some (.tup (k.map kV))/\r=valV c k
def II (H:Hp)(a:Addr)(y v:V)(H':Hp):Prop :=
 (∃c k,H a=some (.dK c)/\y=kV k/\c.length<sizeLine/\H'=upd H a (.dK (putK c k v))) \/
 ∃c k b,H a=some (.dT c)/\y = .ref b/\H b=some (.tup (k.map kV))/\c.length<sizeLine/\H'=upd H a (.dT (putK c k v))
def jW.k {H:Hp}{a:Addr}{c:List (cR×V)}{k:cR}(e:H a=some (.dK c)):jW H a (kV k) (valV c k):=.inl ⟨c,k,.inl e,rfl,rfl⟩
def II.k {H:Hp}{a:Addr}{c:List (cR×V)}{k:cR}{v:V}(e:H a=some (.dK c))(d:c.length<sizeLine):II H a (kV k) v (upd H a (.dK (putK c k v))):=.inl ⟨c,k,e,rfl,d,rfl⟩
section
variable {X:Cx}{pins:dD}{σ:St}{H:Hp}{s:du}{a:Addr}{y v:V}{u r:dv}{o:Option V}{A:dz}{E:cM}
def aM.big (I:aM X pins σ H s):sysModules<s.heap.objs.size:=by have h:mainGlobals<s.heap.objs.size:=(I.mod.glob.keeps I.bk).lt;exact Nat.lt_trans ad h
def L3 {Q:cM}(C:A.units+1<cLine)(I:aM X pins σ H s)(g:jW H a y (some v))(B:aQ y u)(h:∀i x,aM X pins σ H x->aQ v i->Q i x) :
  wpAny (model X.prog X.w) A (getItem (.ref a) u) Q E s:=by
 rcases g with⟨j,k,e,r,l⟩|⟨j,k,b,e,r,G,l⟩
 ·subst r;obtain⟨z,hd,vs,d,t⟩:=tX I.hok e;obtain⟨i,m,c⟩:=m8.some_of (v:=v) (o:=valueAt vs k) (by rw[l];exact d.val k);exact wpAny_getItem_of (qY B) t.mapOf m (h i _ (I.tok _) c)
 ·subst r;cases (show u=Value.ref b from B);obtain⟨z,hd,xs,d,t⟩:=xF I.hok e;obtain⟨i,m,c⟩:=m8.some_of (v:=v) (o:=(atKey xs k).map (·.2)) (by rw[l];exact d.val k);obtain⟨p,F,q⟩:=Option.map_eq_some_iff.mp m;refine wpAny_getItem_heap (tupleKind_room_in1 C) (sX I.hok G) t F ?_;rw[q];exact h i _ (I.tok _) c
def SW {Q:cM}(r:A.units+1<cLine)(I:aM X pins σ H s)(g:jW H a y o)(p:aQ y u)(h:∀m,aM X pins σ H m->Q (.bool (!o.isSome)) m) :
  wpAny (model X.prog X.w) A (compareOp .NotIn u (.ref a)) Q E s:=by
 rcases g with⟨d,k,e,i,l⟩|⟨d,k,b,e,i,t,l⟩
 ·subst i;obtain⟨z,hd,vs,c,j⟩:=tX I.hok e;refine wpAny_notIn_of (qY p) hd j.mapOf ?_;rw[←(c.val k).isSome_eq,←l];exact h _ (I.tok _)
 ·subst i;cases (show u=Value.ref b from p);obtain⟨z,hd,xs,c,j⟩:=xF I.hok e;refine wpAny_notIn_heap (tupleKind_room_in1 r) (sX I.hok t) hd j ?_;have q:=(c.val k).isSome_eq;rw[Option.isSome_map]at q;rw[←q,←l];exact h _ (I.tok _)
def oN {h':Heap}{t':Nat}{c:HO}(I:aM X pins σ H s)(d:XG (H a))(g:Heap.SameBut a s.heap h')(h:∃q,h'.get? a=some q)(new:cK X.prog X.w (upd H a c) h' a c) :
  aM X pins σ (upd H a c) {s with heap:=h',toks:=t'} :=
 I.write (x:=a) (e:=a) d (.inl rfl) (λb q hb z=>(g.2 b hb).trans z) h new
def xG (z:kvs.length<=sizeLine)(hd:(a == sysModules)=false)(c:KV kvs vs)(d:h'.DictOf (bM P w) a vs) :
  cK P w H' h' a (.dK kvs):=⟨z,hd,vs,c,d⟩
def L1 {H':Hp}{Q:Unit->du->Prop}(L:A.units+1<cLine)(I:aM X pins σ H s)(g:II H a y v H')(F:aQ y u)(G:aQ v r)(h:∀C,aM X pins σ H' C->Q () C) :
  wpAny (model X.prog X.w) A (setItem (.ref a) u r) Q E s:=by
 rcases g with⟨i,k,e,t,l,x⟩|⟨i,k,b,e,t,K,l,x⟩
 ·subst t x;obtain⟨z,hd,vs,d,B⟩:=rH I.hok e;have hz:vs.length<=sizeLine:=by rw[←d.length];exact z
  have p:(putK i k v).length<=sizeLine:=by have:=kH i k v;lia
  refine wpAny_setItem_pairs (hsz:=hz) (qY F) B λh' j o=>h _ ?_;have N:∃q,h'.get? a=some q:=let⟨q,_,_,m,_⟩:=j;⟨q,m⟩;exact oN I (by rw[e];exact True.intro) o N (xG p hd (d.put k G) j)
 ·subst t x;cases (show u=Value.ref b from F);obtain⟨z,hd,xs,d,B⟩:=W5 I.hok e;have hz:xs.length<=sizeLine:=by rw[←Paired.length d];exact z
  have p:(putK i k v).length<=sizeLine:=by have:=kH i k v;lia
  refine wpAny_setItem_heap (hsz:=hz) (tupleKind_room_in1 L) (sX I.hok K) B λh' j o=>h _ ?_;obtain⟨q,T,U,m,S,R,P,_,O⟩:=j;refine oN I (by rw[e];exact True.intro) o ⟨q,m⟩ ⟨p,hd,_,(d.put k K G).keeps λc ys J=>?_,q,T,U,m,S,R,P,O⟩;rw[aC (W1 J e (λz=>nomatch z))];exact J
end
section
variable {X:Cx}{pins:dD}{σ:St}{H:Hp}{s:du}{a:Addr}{kvs:List (cR×V)}{k:cR}{u:dv}{A:dz}{E:cM}
def SX {Q:cM}(I:aM X pins σ H s)(e:H a=some (.dK kvs))(h:∀g,aM X pins σ (upd H a (.dK [])) g->Q .none g):wpAny (model X.prog X.w) A (call (.builtin "dict.clear") [.ref a]) Q E s:=by obtain⟨z,hd,vs,d,i⟩:=rH I.hok e;refine call_meetsIn PySem.F.slot_dict_clear i.typeIs PySem.F.entry_dict_clear (PySem.F.args_dict_clear_1 _) (meets_dict_clear (bM X.prog X.w) a) ⟨vs,i,by rw[←d.length];exact z,λh' c j=>h _ ?_⟩;have l:∃q,h'.get? a=some q:=let⟨q,_,_,hq,_⟩:=c;⟨q,hq⟩;exact oN (t':=s.toks) I (by rw[e];exact True.intro) j l (xG (aw _) hd .nil c)
def W6 {Q:cM}(I:aM X pins σ H s)(e:Rd H a (.dK kvs))(h:∀t d,aM X pins σ H d->Q (.int kvs.length t) d):wpAny (model X.prog X.w) A (call (.builtin "len") [.ref a]) Q E s:=by obtain⟨z,hd,vs,c,g⟩:=tX I.hok e;refine call_len_dict hd g (by rw[←c.length];rw[sizeLine_eq]at z;lia) ?_;rw[←c.length];exact h _ _ (I.tok _)
end
def XF (i:Expr):Prop:=∀c iv,subscripted i false c iv=operate [c,iv] (getItem c iv)
def QF {prog:dw}{w:dy}{A:dz}{E:cM}{s:du}{env:Env}{d c:Expr}{q:Pos}{T id:String}{Q:cM}
  (v:typeLookup (.type T) "__getitem__" = pure (some (.builtin id))) (u:XF c)
  (h:wpAny (model prog w) A (eval d env) (λo l=>wpAny (model prog w) A (eval c env) (λi e=>e.TypeIs o T/\wpAny (model prog w) A (getItem o i) Q E e) E l) E s) :
  wpAny (model prog w) A (eval (.Subscript d c q) env) Q E s:=by
 refine Subscript_ (wpAny_mono h (λo l p=>wpAny_mono p (λi e g=>?_) λ_ _ x=>x) λ_ _ x=>x);obtain⟨t,g⟩:=g;unfold subscriptTail;refine aa ?_;rw[getitemInPython_of_ne t.not_modules];refine aa (wpAny_specialOf t v ?_);have fin:wpAny (model prog w) A (subscripted c false o i) (λr j=>wpAny (model prog w) A (letTemporaryGo d o r >>= λ_=>pure r) Q E j) E e:=by rw[u o i];exact wpAny_operating (wpAny_mono g (λr j m=>aa (wpAny_letTemporaryGo (ak m))) λ_ _ x=>x)
 first
  | exact ak (aa fin)
  | exact aa (ak (aa fin))
  | exact aa fin
def E9 {X:Cx}{c:dD}{i:St}{H:Hp}{s:du}{a:Addr}{y:V}{o:Option V}(I:aM X c i H s)(g:jW H a y o):s.TypeIs (.ref a) "dict":=by
 rcases g with⟨d,k,e,_,_⟩|⟨d,k,b,e,_,_,_⟩
 ·obtain⟨_,_,vs,_,h⟩:=tX I.hok e;exact h.typeIs
 ·obtain⟨_,_,xs,_,h⟩:=xF I.hok e;exact h.typeIs
def tDGet (e ty:TE):TE:=λc H Q=>e c H λx g=>ty c g λy d=>∃a v,x = .ref a/\jW d a y (some v)/\Q v d
def sDPut (g ty e:TE):TS:=λD c H=>e c H λv j=>g c j λx i=>ty c i λy h=>∃a d,x = .ref a/\II h a y v d/\D.nx c d
section
variable {X:Cx}{o i e value:Expr}{pos pos' tpos:Pos}{td ty tv:TE}
def JD (t:X.A.units+1<cLine)(ho:PE X o td)(hi:PE X i ty)(w:XF i):PE X (.Subscript o i pos) (tDGet td ty):=by intro c s e H Q I h;refine QF PySem.F.slot_dict_getitem.lookup w (thn (ho c s e H _ I h) λu l ⟨x,E,B,p,r⟩=>thn (hi c l e E _ B r) λiv s2 ⟨y,C,j,m,a,v,ex,g,q⟩=>?_);subst ex;obtain rfl:u=Value.ref a:=p;exact⟨E9 j g,L3 t j g m λG J z d=>⟨v,C,z,d,q⟩⟩
def BL (z:X.A.units+1<cLine)(ho:PE X o td)(hi:PE X i ty)(w:PE X value tv)(B:swapsWith value (some (.Subscript o i pos')) pos.line X.env=pure false) :
  PS X (.Assign [.Subscript o i pos'] value pos) (sDPut td ty tv):=by
 intro c s d H D I h;refine wpAny_Assign_Subscript (thn (w c s d H _ I h) λr e ⟨v,L,G,m,t⟩=>thn (ho c e d L _ G t) λu s2 ⟨x,K,F,l,q⟩=>thn (hi c s2 d K _ F q) λiv O ⟨y,P,E,j,a,J,ex,g,p⟩=>?_) B;subst ex;obtain rfl:u=Value.ref a:=l;exact L1 z E g j m λN C=>⟨d,J,C,p⟩
end
def PL (h:Heap)(hb:sysModules<h.objs.size):cK P w H (h.push {cls:=.type "dict",data:=.dict #[]}) h.objs.size (.dK []) :=
 ⟨aw _,cz.mpr (Ne.symm (bq hb)),[],.nil,Heap.DictOf.new h⟩
def MU:TE:=λ_ H Q=>∀p,H p=none->Q (.ref p) (upd H p (.dK []))
section
variable {X:Cx}{pos:Pos}
def qR:PE X (.Dict [] [] pos) MU:=λc s d H Q I h =>
 wpAny_Dict_empty ⟨.ref s.heap.objs.size,_,I.laid (a:=s.heap.objs.size) (o:=.dK []) (t':=s.toks) (λ_ _ q=>af _ q) (ac _) (PL s.heap I.big),rfl,h _ (I.hok.fresh (ac _))⟩
end
noncomputable def gE (c more:List (cR×V)):List (cR×V):=more.foldl (λd kv=>putK d kv.1 kv.2) c
def KV.merge:∀{more:List (cR×V)} {rs:List (cR×dv)} {c:List (cR×V)} {vs:List (cR×dv)},KV more rs->KV c vs->KV (gE c more) (merged vs rs):=by
 intro more rs c vs r;unfold KV at r
 induction r generalizing c vs with
 | nil=>intro q;exact q
 | @cons p q ps qs h t g =>
  intro d;have e:KV (putK c p.1 p.2) (stored vs q.1 q.2):=by have:=d.put p.1 h.2;rw[←h.1];exact this
  exact g e
def kR:∀(more c:List (cR×V)),(gE c more).length<=c.length+more.length
 | [],c=>by show c.length<=c.length+0;lia
 | p::r,c=>by have e:=kR r (putK c p.1 p.2);have d:=kH c p.1 p.2;show(gE (putK c p.1 p.2) r).length<=_;rw[aq];lia
structure M1 (X:Cx)(o:Expr)(m:Str)(apos:Pos)(e:Expr)(cpos:Pos):Prop where
 base:attributeBase o m X.env (eval o X.env)=eval o X.env
 few:((backTo cpos (starEach [e] X.env)).all (λx=>!x.1) && (backToKw cpos (keywordEach [] X.env)).all (λx=>x.1.isSome)
  && decide (([e]:pV).length+([]:List Keyword).length+(if ([]:List Keyword).isEmpty then 0 else 1)<30))=true
 line:(apos.endLine == cpos.line)=true
 trees:backTo cpos (starEach [e] X.env)=[(false,eval e X.env)]
structure M2 (X:Cx)(o:Expr)(m:Str)(apos:Pos)(e f:Expr)(cpos:Pos):Prop where
 base:attributeBase o m X.env (eval o X.env)=eval o X.env
 few:((backTo cpos (starEach [e,f] X.env)).all (λx=>!x.1) && (backToKw cpos (keywordEach [] X.env)).all (λx=>x.1.isSome)
  && decide (([e,f]:pV).length+([]:List Keyword).length+(if ([]:List Keyword).isEmpty then 0 else 1)<30))=true
 line:(apos.endLine == cpos.line)=true
 trees:backTo cpos (starEach [e,f] X.env)=[(false,eval e X.env),(false,eval f X.env)]
def X1 (H:Hp)(a:Addr):Prop:=(∃c,Rd H a (.dK c))\/∃c,Rd H a (.dT c)
def HL {X:Cx}{g:dD}{m:St}{H:Hp}{s:du}{a:Addr}(I:aM X g m H s)(d:X1 H a) :
  s.TypeIs (.ref a) "dict"/\(∀b,Value.ref a = .ref b->∃c,s.heap.get? b=some c/\c.dict=none)/\(a == sysModules)=false:=by
 rcases d with⟨i,e⟩|⟨i,e⟩
 ·obtain⟨_,hd,vs,_,h⟩:=tX I.hok e;refine⟨h.typeIs,λb q=>?_,hd⟩;cases q;obtain⟨c,_,_,l,j,_⟩:=h;exact⟨c,l,j.2.1⟩
 ·obtain⟨_,hd,xs,_,h⟩:=xF I.hok e;refine⟨h.typeIs,λb q=>?_,hd⟩;cases q;obtain⟨c,_,_,l,j,_⟩:=h;exact⟨c,l,j.2.1⟩
section
variable {X:Cx}{pins:dD}{σ:St}{H:Hp}{s:du}{a:Addr}{y d:V}{u r:dv}{o:Option V}{A:dz}{E:cM}
def V8 {Q:cM}(r:A.units+1<cLine)(I:aM X pins σ H s)(g:jW H a y o)(q:aQ y u)(h:∀m p,aM X pins σ H p->aQ (o.getD .non) m->Q m p) :
  wpAny (model X.prog X.w) A (call (.builtin "dict.get") [.ref a,u]) Q E s:=by
 rcases g with⟨i,k,e,j,l⟩|⟨i,k,b,e,j,t,l⟩
 ·subst j;obtain⟨z,hd,vs,c,d⟩:=tX I.hok e;refine call_meetsIn PySem.F.slot_dict_get d.typeIs PySem.F.entry_dict_get (PySem.F.args_dict_get_2 _ _) (meets_dict_get (bM X.prog X.w) a (qY q) hd) ⟨_,d.mapOf,h _ _ (I.tok _) ?_⟩;rw[l];exact(c.val k).getD rfl
 ·subst j;cases (show u=Value.ref b from q);obtain⟨z,hd,xs,c,d⟩:=xF I.hok e;refine call_meetsIn PySem.F.slot_dict_get d.typeIs PySem.F.entry_dict_get (PySem.F.args_dict_get_2 _ _) (meetsH_dict_get (tupleKind (bM X.prog X.w)) a b hd) ⟨tupleKind_room_in1 r,k,xs,sX I.hok t,d,h _ _ (I.tok _) ?_⟩;rw[l];exact(c.val k).getD rfl
def V7 {Q:cM}(x:A.units+1<cLine)(I:aM X pins σ H s)(g:jW H a y o)(t:aQ y u)(v:aQ d r)(h:∀p q,aM X pins σ H q->aQ (o.getD d) p->Q p q) :
  wpAny (model X.prog X.w) A (call (.builtin "dict.get") [.ref a,u,r]) Q E s:=by
 rcases g with⟨j,k,e,m,l⟩|⟨j,k,b,e,m,B,l⟩
 ·subst m;obtain⟨z,hd,vs,c,i⟩:=tX I.hok e;refine call_meetsIn PySem.F.slot_dict_get i.typeIs PySem.F.entry_dict_get (PySem.F.args_dict_get_3 _ _ _) (meets_dict_get_default (bM X.prog X.w) a (qY t) hd r) ⟨_,i.mapOf,h _ _ (I.tok _) ?_⟩;rw[l];exact(c.val k).getD v
 ·subst m;cases (show u=Value.ref b from t);obtain⟨z,hd,xs,c,i⟩:=xF I.hok e;refine call_meetsIn PySem.F.slot_dict_get i.typeIs PySem.F.entry_dict_get (PySem.F.args_dict_get_3 _ _ _) (meetsH_dict_get_default (tupleKind (bM X.prog X.w)) a b hd r) ⟨tupleKind_room_in1 x,k,xs,sX I.hok B,i,h _ _ (I.tok _) ?_⟩;rw[l];exact(c.val k).getD v
end
def US (g ty:TE):TE:=λc H Q=>g c H λx e=>∃a,x = .ref a/\X1 e a/\ty c e λy d=>∃o,jW d a y o/\Q (o.getD .non) d
def UR (h ty g:TE):TE:=λc H Q=>h c H λx e=>∃a,x = .ref a/\X1 e a/\ty c e λy i=>g c i λz d=>∃o,jW d a y o/\Q (o.getD z) d
section
variable {X:Cx}{o e f:Expr}{apos cpos:Pos}{td ty tx:TE}
def D7 (z:X.A.units+1<cLine)(ho:PE X o td)(B:PE X e ty)(m:M1 X o "get" apos e cpos):PE X (.Call (.Attribute o "get" apos) [e] [] cpos) (US td ty):=by intro c s j H Q I h;refine wpAny_Call_method m.base m.few m.line PySem.F.plainAttrs_dict PySem.F.slot_dict_get PySem.F.type_dict_get (thn (ho c s j H _ I h) λu q ⟨x,J,l,t,a,ex,d,w⟩=>?_);subst ex;obtain rfl:u=Value.ref a:=t;obtain⟨t1,p,_⟩:=HL l d;refine⟨t1,p,?_⟩;rw[m.trees];refine Calls.callWith_builtin rfl (Calls.evalArgs_plain (Calls.spliced_cons (thn (B c q j J _ l w) λiv s2 ⟨y,G,E,r,N,g,v⟩=>Calls.spliced_nil ?_)));exact V8 z E g r λK L C i=>⟨_,G,C,i,v⟩
def wH (E:X.A.units+1<cLine)(ho:PE X o td)(J:PE X e ty)(G:PE X f tx)(m:M2 X o "get" apos e f cpos):PE X (.Call (.Attribute o "get" apos) [e,f] [] cpos) (UR td ty tx):=by
 intro c s i H Q I h;refine wpAny_Call_method m.base m.few m.line PySem.F.plainAttrs_dict PySem.F.slot_dict_get PySem.F.type_dict_get (thn (ho c s i H _ I h) λu q ⟨x,R,l,v,a,ex,d,C⟩=>?_);subst ex;obtain rfl:u=Value.ref a:=v;obtain⟨t1,p,_⟩:=HL l d;refine⟨t1,p,?_⟩;rw[m.trees]
 refine Calls.callWith_builtin rfl (Calls.evalArgs_plain (Calls.spliced_cons (thn (J c q i R _ l C) λiv s2 ⟨y,P,N,t,B⟩ =>
  Calls.spliced_cons (thn (G c s2 i P _ N B) λY U ⟨z,O,L,r,W,g,w⟩=>Calls.spliced_nil ?_))))
 exact V7 E L g t r λS T K j=>⟨_,O,K,j,w⟩
end
section
variable {κ:Type}[DecidableEq κ]
theorem JJ:∀{l:List κ} {k:κ},l.Nodup->¬k∈l->(l++[k]).Nodup
 | [],k,_,_=>by simp
 | a::r,k,h,c=>by
  obtain⟨e,d⟩:=da.mp h;show(a::(r++[k])).Nodup;refine da.mpr ⟨λm=>?_,JJ d λm=>c (cw.mpr (Or.inr m))⟩;rcases cx.mp m with q|q
  ·exact e q
  ·exact c (cw.mpr (Or.inl (cu.mp q).symm))
end
section
variable {X:Cx}
def MB:cV X (.builtin "len") (λxs H Q=>∃a c,xs=[V.ref a]/\H a=some (.dK c)/\Q (.int c.length) H):=by intro d s j H xs us Q I r h;obtain⟨a,c,rfl,g,q⟩:=h;obtain⟨u,rfl,e⟩:=vals1 r;cases e;exact W6 I (.inl g) λt l i=>⟨.int c.length,H,i,⟨t,rfl⟩,q⟩
end
noncomputable def closL (cells:List (Str×Addr)):List (Str×NameKind)->List (Str×Addr)->List (Str×Addr)
 | [],c=>c
 | (n,k)::r,c=>closL cells r (if k = .free then(n,(cells.lookup n).getD 0)::c else c)
def yN (h:∀x∈scope.names,x.2 = .free->∃c,env.cells.lookup x.1=some c):closureFor scope env=pure (closL env.cells scope.names []):=by
 have go:∀(l:List (Str×NameKind)) (d:List (Str×Addr)),(∀x∈l,x.2 = .free->∃c,env.cells.lookup x.1=some c) ->
   (forIn l d λ(x:Str×NameKind) (r:List (Str×Addr))=>match x with|(name,kind)=>if (kind == NameKind.free)=true then do let a ←cellOf env name;pure (ForInStep.yield ((name,a)::r))else pure (ForInStep.yield r):Sem (List (Str×Addr)))=pure (closL env.cells l d):=by
  intro l
  induction l with
  | nil=>intro d _;rfl
  | cons x r g =>
   intro d i;obtain⟨n,k⟩:=x;have j:=λy o=>i y (ba _ o);rw[List.forIn_cons];by_cases e:k = .free
   ·subst e;obtain⟨c,hc⟩:=i (n,.free) ax rfl;have hc':List.lookup n env.cells=some c:=hc;have p:cellOf env n=pure c:=by unfold cellOf;rw[hc']
    simp only[beq_self_eq_true,if_true,p,pure_bind];rw[g _ j];show _=pure (closL env.cells r (if NameKind.free = .free then(n,(env.cells.lookup n).getD 0)::d else d));rw[ai rfl,hc'];rfl
   ·have hb:(k == NameKind.free)=false:=by simpa using e
    simp only[hb,Bool.false_eq_true,if_false,pure_bind];rw[g _ j];show _=pure (closL env.cells r (if k = .free then(n,(env.cells.lookup n).getD 0)::d else d));rw[ab e]
 exact(congrArg (λ(m:Sem (List (Str×Addr)))=>m >>= λs=>pure s) (go scope.names [] h)).trans rfl
theorem AH:∀(l:List (Str×NameKind)) (g:List (Str×Addr)),(closL cells l g).lookup x=some c->g.lookup x=some c\/(x,NameKind.free)∈l/\c=(cells.lookup x).getD 0
 | [],_,h=>.inl h
 | (n,k)::r,g,h=>by
  unfold closL at h;rcases AH r _ h with q|⟨q,e⟩
  ·by_cases d:k = .free
   ·rw[ai d]at q;rw[cb]at q;by_cases i:x=n
    ·subst i;rw[beq_self_eq_true]at q;subst d;exact .inr ⟨ax,(Option.some.inj q).symm⟩
    ·have hb:(x == n)=false:=by simpa using i
     rw[hb]at q;exact .inl q
   ·rw[ab d]at q;exact .inl q
  ·exact .inr ⟨ba _ q,e⟩
theorem AI:∀(l:List (Str×NameKind)) (c:List (Str×Addr)),((x,NameKind.free)∈l\/(c.lookup x).isSome)->((closL cells l c).lookup x).isSome
 | [],c,h=>by
  rcases h with h|h
  ·cases h
  ·exact h
 | (n,k)::r,c,h=>by
  unfold closL;refine AI r _ ?_;by_cases g:k = .free
  ·rw[ai g,cb];by_cases d:x=n
   ·subst d;rw[beq_self_eq_true];exact .inr rfl
   ·have hb:(x == n)=false:=by simpa using d
    rw[hb];rcases h with h|h
    ·rcases cw.mp h with e|e
     ·cases e;exact absurd rfl d
     ·exact .inl e
    ·exact .inr h
  ·rw[ab g];rcases h with h|h
   ·rcases cw.mp h with e|e
    ·cases e;exact absurd rfl g
    ·exact .inl e
   ·exact .inr h
theorem nM {c d:Type}[BEq c][LawfulBEq c]{x:c}{v:d}:∀{l:List (c×d)},l.lookup x=some v->(x,v)∈l
 | [],h=>by simp at h
 | (n,k)::r,h=>by
  rw[cb]at h;by_cases e:x=n
  ·subst e;rw[beq_self_eq_true]at h;cases h;exact ax
  ·have hb:(x == n)=false:=by simpa using e
   rw[hb]at h;exact ba _ (nM h)
theorem mH {env:Env}{x:Str}:∀{names:List (Str×NameKind)} {c:NameKind},(∀y∈names,y.2≠.cell) ->
  (names.map λ(n,k)=>if (k == NameKind.free && env.scope.kind == .function && env.kindOf n == some .cell)then(n,NameKind.cell)else(n,k)).lookup x=some c->(c = .cell\/c = .free)->names.lookup x=some .free
 | [],_,_,h,_=>by simp at h
 | (n,k)::r,c,hc,h,d=>by
  have g:=@mH env x r c (λy j=>hc y (ba _ j));have l:=hc (n,k) ax;have h:List.lookup x ((if (k == NameKind.free && env.scope.kind == .function && env.kindOf n == some .cell)=true then(n,NameKind.cell)else(n,k))::_)=some c:=h;by_cases i:x=n
  ·subst i;rw[cb,beq_self_eq_true];by_cases q:(k == NameKind.free && env.scope.kind == .function && env.kindOf x == some .cell)=true
   ·simp only[Bool.and_eq_true,beq_iff_eq]at q;show some k=some .free;rw[q.1.1]
   ·rw[ab q,cb,beq_self_eq_true]at h;have h:some k=some c:=h;cases h;rcases d with e|e
    ·exact absurd e l
    ·show some k=some .free;rw[e]
  ·have hb:(x == n)=false:=by simpa using i
   rw[cb,hb];by_cases q:(k == NameKind.free && env.scope.kind == .function && env.kindOf n == some .cell)=true
   ·rw[ai q,cb,hb]at h;exact g h d
   ·rw[ab q,cb,hb]at h;exact g h d
theorem mT {env:Env}{x:Str}:∀{names:List (Str×NameKind)},names.lookup x=some .free ->
  (names.map λ(n,k)=>if (k == NameKind.free && env.scope.kind == .function && env.kindOf n == some .cell)then(n,NameKind.cell)else(n,k)).lookup x=some .cell \/
  (names.map λ(n,k)=>if (k == NameKind.free && env.scope.kind == .function && env.kindOf n == some .cell)then(n,NameKind.cell)else(n,k)).lookup x=some .free
 | [],h=>by simp at h
 | (n,k)::r,h=>by
  have c:=@mT env x r;show List.lookup x ((if (k == NameKind.free && env.scope.kind == .function && env.kindOf n == some .cell)=true then(n,NameKind.cell)else(n,k))::_)=_\/List.lookup x ((if (k == NameKind.free && env.scope.kind == .function && env.kindOf n == some .cell)=true then(n,NameKind.cell)else(n,k))::_)=_;by_cases d:x=n
  ·subst d;rw[cb,beq_self_eq_true]at h;have h:some k=some .free:=h;cases h;by_cases q:(NameKind.free == NameKind.free && env.scope.kind == .function && env.kindOf x == some .cell)=true
   ·rw[ai q,cb,beq_self_eq_true];exact .inl rfl
   ·rw[ab q,cb,beq_self_eq_true];exact .inr rfl
  ·have hb:(x == n)=false:=by simpa using d
   rw[cb,hb]at h;by_cases q:(k == NameKind.free && env.scope.kind == .function && env.kindOf n == some .cell)=true
   ·rw[ai q,cb,hb];exact c h
   ·rw[ab q,cb,hb];exact c h
noncomputable def srcOk (N:aV)(names:List (Str×NameKind)):List (Option Nat)->aV->Bool
 | [],[]=>true
 | none::r,_::n=>srcOk N names r n
 | some i::r,x::n=>N[i]? == some x && names.lookup x == some .free && srcOk N names r n
 | _,_=>false
theorem sA:∀{src:List (Option Nat)} {n:aV},srcOk N names src n=true->src.length=n.length
 | [],[],_=>rfl
 | none::r,_::n,h=>by simp[sA (src:=r) (n:=n) h]
 | some i::r,x::n,h=>by
  simp only[srcOk,Bool.and_eq_true]at h;simp[sA (src:=r) (n:=n) h.2]
 | [],_::_,h=>by simp[srcOk]at h
 | none::_,[],h=>by simp[srcOk]at h
 | some _::_,[],h=>by simp[srcOk]at h
theorem sB:∀{src:List (Option Nat)} {n:aV} {j i:Nat} {x:Str},srcOk N names src n=true->src[j]?=some (some i)->n[j]?=some x->N[i]?=some x/\names.lookup x=some .free
 | [],_,_,_,_,_,h,_=>by simp at h
 | _::_,[],_,_,_,_,_,h=>by simp at h
 | none::r,_::n,0,_,_,_,h,_=>by simp at h
 | none::r,_::n,j+1,_,_,h,d,c=>sB (src:=r) (n:=n) (j:=j) h (by simpa using d) (by simpa using c)
 | some k::r,y::n,0,i,x,h,d,c=>by
  simp at d c;subst d c;simp only[srcOk,Bool.and_eq_true,beq_iff_eq]at h;exact h.1
 | some _::r,_::n,j+1,_,_,h,d,c=>by simp only[srcOk,Bool.and_eq_true]at h;exact sB (src:=r) (n:=n) (j:=j) h.2 (by simpa using d) (by simpa using c)
structure bN (X:Cx)(scope:Scope)(N':aV)(src:List (Option Nat)):Prop where
 kind:scope.kind = .function
 cell:∀y∈scope.names,y.2≠.cell
 names:∀y∈scope.names,y.2 = .local->scope.names.lookup y.1=some .local
 free:∀y∈scope.names,y.2 = .free->(X.env.scope.names.lookup y.1=some .cell\/X.env.scope.names.lookup y.1=some .free)
 nd:N'.Nodup
 map:srcOk X.N scope.names src N'=true
noncomputable def stC (src:List (Option Nat))(c:St):St:=src.map λo=>o.bind λi=>(c[i]?).join
noncomputable def blk (X:Cx)(scope:Scope)(N':aV)(C:Addr)(c:du)(H₂:Hp)(fp:List Addr):Cx :=
 {X with N:=N',s₀:=c,H₀:=H₂,env:=compEnvC scope (closL X.env.cells scope.names []) C X.env,outer:=X.stack,stack:=X.stack,ex:=fp,fn:=λ_=>false,pn:=[],xe:=λ_ _=>False}
section
variable {X:Cx}{pins:dD}{σ:St}{H:Hp}{s:du}{scope:Scope}{N':aV}{src:List (Option Nat)}
def bN.cells (S:bN X scope N' src)(I:aM X pins σ H s):∀x∈scope.names,x.2 = .free->∃c,X.env.cells.lookup x.1=some c:=λx d e=>I.ok.has x.1 (S.free x d e)
def bN.cl (S:bN X scope N' src)(I:aM X pins σ H s){x:Str}{c:Addr}(h:(closL X.env.cells scope.names []).lookup x=some c):X.env.cells.lookup x=some c:=by
 rcases AH _ _ h with q|⟨q,e⟩
 ·simp at q
 ·obtain⟨d,hd⟩:=S.cells I (x,.free) q rfl;have hd:X.env.cells.lookup x=some d:=hd;rw[hd]at e;rw[hd,e];rfl
def bN.clHas (S:bN X scope N' src)(I:aM X pins σ H s){x:Str}(h:scope.names.lookup x=some .free):∃c,(closL X.env.cells scope.names []).lookup x=some c/\X.env.cells.lookup x=some c:=by have q:=AI (cells:=X.env.cells) (x:=x) scope.names [] (.inl (nM h));obtain⟨c,hc⟩:=Option.isSome_iff_exists.mp q;exact⟨c,hc,S.cl I hc⟩
theorem bN.ok (S:bN X scope N' src)(I:aM X pins σ H s){fp:List Addr}{C:Addr}(d:∀b∈fp,fN X pins H b)(g:∀b∈fp,b<s.heap.objs.size)(i:s.heap.objs.size<=C):(blk X scope N' C s H fp).Ok where
 mod:=I.mod
 kind:=S.kind
 glob:=I.ok.glob
 blt:=I.ok.blt
 above:=i
 inj:=λx y c m l=>I.ok.inj x y c (S.cl I m) (S.cl I l)
 has:=λx j=>by
  have q:scope.names.lookup x=some .free:=by
   rcases j with h|h
   ·exact mH S.cell h (.inl rfl)
   ·exact mH S.cell h (.inr rfl)
  obtain⟨c,hc,_⟩:=S.clHas I q;exact⟨c,hc⟩
 cab:=λx c h _=>by cases h
 hd:=I.ok.hd
 frames:=I.ok.frames
 stk:=.inl rfl
 exf:=λb hb=>⟨bq (bg (g b hb) i),λx c e=>(d b hb).2.2.2.2.1 x c (S.cl I e)⟩
 bs:=I.bs
 bsz:=ao I.ok.bsz I.sz
 noex:=λb o e hb=>by
  rcases(d b hb).2.2.2.1 with z|z
  ·exact I.ok.noex b o e z
  ·exact absurd (bg (bc e) (ao I.ok.bsz z)) (cf _)
 exfs:=λb hb z=>by
  rcases cw.mp (I.stkSub b z)with e|e
  ·exact(d b hb).2.1 e
  ·exact(d b hb).2.2.1 e
 funs:=I.stack
 frf:=I.stkFree
def bN.start (S:bN X scope N' src)(I:aM X pins σ H s){fp:List Addr}{C:Addr}{h':Heap}{tk:Nat}{m:jS}{pl:dD}(R:∀b∈fp,fN X pins H b)(G:∀b∈fp,b<s.heap.objs.size)(N:s.heap.objs.size<=C)
  (t:∀b o,s.heap.get? b=some o->h'.get? b=some o) (F:h'.Ns C m)
  (E:∀p∈pl,h'.get? p.1=some p.2/\s.heap.objs.size<=p.1/\p.1≠C/\∀v,p.2.data≠.cell v) :
  aM (blk X scope N' C s H fp) pl (stC src σ) H {s with heap:=h',toks:=tk} where
 ok:=S.ok I R G N
 os:=rfl
 bare:=I.bare
 base:=Un.kept t
 loc:=by
  obtain⟨W,Q,J⟩:=I.loc;refine⟨m,F,λj x v T g Y=>?_⟩;have g:(src.map λo=>o.bind λi=>(σ[i]?).join)[j]?=some (some v):=g;rw[bS]at g;cases e:src[j]? with
  | none=>rw[e]at g;cases g
  | some o =>
   rw[e]at g;cases o with
   | none=>cases g
   | some i =>
    have g:some ((σ[i]?).join)=some (some v):=g;obtain⟨U,L⟩:=sB S.map e T;have O:σ[i]?=some (some v):=by
     cases q:σ[i]? with
     | none=>rw[q]at g;cases g
     | some w=>rw[q]at g;cases w with
      | none=>cases g
      | some w=>cases g;rfl
    have h:=S.free (x,.free) (nM L) rfl;obtain⟨u,r,l⟩:=J i x v U O (.inr h);refine⟨u,r,.inr ⟨mT L,?_⟩⟩;obtain⟨c,hc,K⟩:=S.clHas I L;refine⟨c,hc,?_⟩;rcases l with⟨k,_⟩|⟨_,Z,B,A⟩
    ·have k:X.env.scope.names.lookup x=some .local:=k;have h:X.env.scope.names.lookup x=some .cell\/X.env.scope.names.lookup x=some .free:=h;rw[k]at h;rcases h with z|z <;> cases z
    ·rw[K]at B;cases B;obtain⟨o,ho,hd⟩:=A;exact⟨o,t _ _ ho,hd⟩
 cell:=λx c e=>by obtain⟨v,o,ho,hd⟩:=I.cell x c (S.cl I e);exact⟨v,o,t _ _ ho,hd⟩
 free:=I.hok.fresh N
 freeC:=λx c e=>I.freeC x c (S.cl I e)
 pin:=λp P=>by
  obtain⟨a,b,c,d⟩:=E p (by simpa [blk] using P);refine⟨a,I.hok.fresh b,c,λz=>?_,d⟩;rcases cw.mp (I.stkSub _ z)with e|e
  ·exact absurd (bg I.lt (by rw[←e];exact b)) (cf _)
  ·exact I.nofs b e
 hok:=I.hok.kept t
 len:=by show(src.map _).length=N'.length;rw[ae];exact sA S.map
end
noncomputable def A8 (d:pV)(env:Env):Sem Bool:=forIn d true λc (b:Bool)=>if b=true then isTrue c env (eval c env) >>= λb=>pure (.yield b)else pure (.yield b)
section
variable (M:Model)(A:dz)(env:Env)(E:cM)
def Drawn (it:dv)(c:Expr)(stop go:du->Prop)(s:du):Prop :=
 wpAny M A (pyNext it) (λr t=>r.elim (stop t) λv=>wpAny M A (letOwnedTupleGo c it v) (λ_ t=>wpAny M A (assign c env v) (λ_=>go) E t) E t) E s
def FQ (d:pV)(lay:Sem Unit)(c:du->Prop)(s:du):Prop :=
 wpAny M A (A8 d env) (λok t=>if ok=true then wpAny M A lay (λ_=>c) E t else c t) E s
end
noncomputable def pE (p:Pos)(it:dv)(c:Expr)(env:Env)(k:Sem PySem.Fin):Sem PySem.Fin:=standAt p >>= λ_=>pyNext it >>= λr=>match r with
 | none=>pure (.done .next)
 | some v=>letOwnedTupleGo c it v >>= λ_=>assign c env v >>= λ_=>k
noncomputable def layOn (d:pV)(lay:Sem Unit)(env:Env)(c:Code):Sem PySem.Fin:=A8 d env >>= λok=>if ok=true then lay >>= λ_=>again c else again c
noncomputable def B7 (c:Expr)(d:dv)(env:Env):Sem Unit:=eval c env >>= λx=>call (.builtin "list.append") [d,x] >>= λ_=>pure ()
section
variable {M:Model}{A:dz}{env:Env}{E:cM}{it:dv}{tg:Expr}{s:du}
def Drawn.mono {stop go c d:du->Prop}(h:Drawn M A env E it tg stop go s)(g:∀t,stop t->c t)(e:∀t,go t->d t):Drawn M A env E it tg c d s :=
 thn h λr t q=>by
  cases r
  ·exact g t q
  ·exact thn q λ_ _ q=>thn q λ_ t q=>e t q
def Drawn.run {Q:PySem.Fin->du->Prop}(h:Drawn M A env E it tg (Q (.done .next)) (λt=>wpAny M A k Q E t) s):wpAny M A (pE p it tg env k) Q E s:=by
 unfold pE;refine aa (wpAny_standAt (aa (thn h λr t q=>?_)));cases r
 ·exact ak q
 ·exact aa (thn q λ_ _ q=>aa q)
def FQ.run {Q:PySem.Fin->du->Prop}(h:FQ M A env E ifs lay (Q (.again c)) s):wpAny M A (layOn ifs lay env c) Q E s:=by
 unfold layOn;refine aa (thn h λok t q=>?_);cases ok
 ·exact ak q
 ·exact aa (thn q λ_ _ q=>ak q)
end
def DL (d h iter:Expr)(c:pV)(scope:Scope)(g:Pos)(it e:dv)(env:Env) :
  compTurn (.ListComp d [⟨h,iter,c,0⟩] scope g) 0 it e env=pE iter.pos it h env (layOn c (B7 d e env) env (.compLoop (.ListComp d [⟨h,iter,c,0⟩] scope g) 0 it e env)):=rfl
section
variable {prog:dw}{w:dy}{A:dz}{R:Result->du->Prop}{s:du}{tg ce:Expr}{d:Nat}{it acc:dv}{env:Env}{p:Pos}{k:Sem PySem.Fin}
abbrev XN (prog:dw)(w:dy)(A:dz)(env:Env)(R:Result->du->Prop):cM:=notedBy (model prog w) A env λx t=>R (.error x) t
inductive P9:Expr->Prop
 | lst (e gs sc p):P9 (.ListComp e gs sc p)
 | set (e gs sc p):P9 (.SetComp e gs sc p)
 | dct (k e gs sc p):P9 (.DictComp k e gs sc p)
def PM (c:P9 ce){Q:PySem.Fin->du->Prop}{E:cM}(h:wpAny (model prog w) A (Sem.onRaise (compTurn ce d it acc env) λx=>noteFrame x env >>= λ_=>theTreesLotGoes x) Q E s):wpAny (model prog w) (A.under (.compLoop ce d it acc env)) ((model prog w).den (.compLoop ce d it acc env)) Q E s:=by cases c <;> exact h
def LZ (c:P9 ce){Q:PySem.Fin->du->Prop}{E:cM}(h:wpAny (model prog w) A (compStart ce d it acc env) Q (notedBy (model prog w) A env E) s):wpAny (model prog w) (A.under (.compStart ce d it acc env)) ((model prog w).den (.compStart ce d it acc env)) Q E s:=by cases c <;> exact wpAny_notedAt h
def wR (c:P9 ce)(hb:compTurn ce d it acc env=pE p it tg env k)(I:Nat->du->Prop)
  (turn:∀n s,I n s->Drawn (model prog w) A env (XN prog w A env R) it tg (R (.ok .next)) (λt=>wpAny (model prog w) A k (λf t=>f = .again (.compLoop ce d it acc env)/\∃m,m<n/\I m t) (XN prog w A env R) t) s)
  (n:Nat) (h:I n s):codeAny (model prog w) A (.compLoop ce d it acc env) R s:=by
 apply codeAny_loop rfl I _ n h;intro n s i;have q:=turn n s i;apply PM c;rw[hb];apply wpAny_noted;apply Drawn.run;exact q.mono (λ_ z=>z) λt z=>thn z λf t ⟨e,m⟩=>by subst e;exact⟨rfl,m⟩
end
def T9 (X:Cx)(d:pV)(t:TT):Prop :=
 ∀(c:dD) (s:du) (σ:St) (H:Hp) (Q:Bool->Hp->Prop),aM X c σ H s->t σ H Q->wpAny (model X.prog X.w) X.A (A8 d X.env) (TP X c σ Q) X.xe s
def tYes:TT:=λ_ H Q=>Q true H
def dW:T9 X [] tYes:=λ_ _ _ H _ I h=>wpAny_tests_nil ⟨H,I,h⟩
def mI (h:PT X c t):T9 X [c] t:=λd s e H Q I q=>wpAny_tests_one (h d s e H Q I q)
abbrev P8 (β:Type):=Nat->Nat->β->St->Hp->Prop
abbrev CW:=P8 (List V)
structure AS (Y:Cx)(tg:Expr)(J:It)(fp:List Addr)(it:Addr)(tn:PZ):Prop where
 obj:∀i h,tn i h->∀b∈fp,∃o,h.get? b=some o/\∀v,o.data≠.cell v
 keep:∀i h h',tn i h->(∀b∈fp,∀o,h.get? b=some o->h'.get? b=some o)->tn i h'
 item:∀(i:Nat) (pins:dD) (s:du) (σ:St) (H:Hp) (E:cM),aM Y pins σ H s->(∀b∈fp,fN Y pins H b)->tn i s.heap->J.go i H ->
  wpAny (model Y.prog Y.w) Y.A (pyNext (.ref it)) (λr s1=>∃u,r=some u /\
   wpAny (model Y.prog Y.w) Y.A (letOwnedTupleGo tg (.ref it) u) (λ_ s2=>∃x H',aM Y pins σ H' s2/\aQ x u/\J.yld i H x H'/\tn (i+1) s2.heap/\∀b∈fp,H' b=none) E s1) E s
 done:∀(i:Nat) (pins:dD) (s:du) (σ:St) (H:Hp) (E:cM),aM Y pins σ H s->(∀b∈fp,fN Y pins H b)->tn i s.heap->J.stop i H ->
  wpAny (model Y.prog Y.w) Y.A (pyNext (.ref it)) (λr s1=>r=none/\aM Y pins σ H s1) E s
 self:∀(A:dz) (i:Nat) (s:du) (Q:cM) (E:cM),tn i s.heap->Q (.ref it) s->wpAny (model Y.prog Y.w) A (pyIter (.ref it)) Q E s
def rM.y {c:PZ}(T:rM Y.prog Y.w Y.K tg J fp it c)(hc:Y.calm=true):AS Y tg J fp it c :=
 ⟨T.obj,T.keep,T.item Y rfl rfl rfl hc,T.done Y rfl rfl rfl hc,T.self⟩
def P1 {c:Type}(F:Heap->Addr->c->Prop):Prop:=∀h a x,F h a x->∃o,h.get? a=some o/\(∀v,o.data≠.cell v)/\∀h':Heap,h'.get? a=some o->F h' a x
def TQ (h:Heap)(a:Addr)(c:List V):Prop:=c.length<=sizeLine/\∃items,h.PlainList a items/\aP c items.toList
def zO:P1 TQ:=λ_ _ _ ⟨l,it,⟨n,e⟩,r⟩=>⟨_,e,(λ_ z=>nomatch z),λ_ c=>⟨l,it,⟨n,c⟩,r⟩⟩
section
variable {β:Type}{F:Heap->Addr->β->Prop}{Y:Cx}{pins:dD}{D it:Addr}{fp:List Addr}{tn:PZ}{J:It}{W:P8 β}{Fin:β->St->Hp->Prop}{R:Result->du->Prop}{tg:Expr}{g:TG}{Nx:Nat->Nat->β->St->Hp->Prop}
def IJ (F:Heap->Addr->β->Prop)(Y:Cx)(c:dD)(D:Addr)(fp:List Addr)(g:PZ)(W:P8 β)(n:Nat)(s:du):Prop :=
 ∃i e H d,aM Y c e H s/\g i s.heap/\(∀b∈fp,H b=none)/\H D=none/\F s.heap D d/\W i n d e H
structure X6 (F:Heap->Addr->β->Prop)(Y:Cx)(D:Addr)(fp:List Addr)(tn:PZ)(i:Nat)(acc:β)(more:dD)(o:Obj):Prop where
 fill:∀h:Heap,h.get? D=some o->F h D acc
 own:∀p∈more,p.1∈fp
 back:∀{pl:dD} {σ:St} {H:Hp} {s:du},(∀p∈more,p∈pl)->aM Y pl σ H s->tn i s.heap/\∀b∈fp,H b=none
structure uC (Y:Cx)(pins:dD)(D:Addr)(fp:List Addr):Prop where
 off:D∉fp
 list:∀H:Hp,H D=none->fN Y pins H D
 iter:∀H:Hp,(∀b∈fp,H b=none)->∀b∈fp,fN Y pins H b
def U4:a∈pn++(pins++a::more):=by simp
theorem uC.pin {d:St}{H:Hp}{s:du}{o:Obj}(P:uC Y pins D fp)(I:aM Y pins d H s)(e:H D=none)(ho:s.heap.get? D=some o)(hc:∀v,o.data≠.cell v):aM Y (pins++[(D,o)]) d H s:=by
 refine I.pins_of λp c=>?_;simp only[cx,cu]at c;rcases c with c|rfl
 ·exact I.pin p (bz _ c)
 ·have f:=P.list H e;exact⟨ho,f.1,f.2.1,f.2.2.1,hc⟩
def uC.more (P:uC Y pins D fp)(H:Hp)(d:∀b∈fp,H b=none)(b:Addr)(hb:b∈fp):fN Y (pins++[(D,o)]) H b:=by
 have f:=P.iter H d b hb;refine⟨f.1,f.2.1,f.2.2.1,f.2.2.2.1,f.2.2.2.2.1,λp c z=>?_⟩;rw[←cq,cx,cu]at c;rcases c with c|rfl
 ·exact f.2.2.2.2.2 p c z
 ·exact P.off (show D∈fp from(show D=b from z) ▸ hb)
def GR {more:dD}{o:Obj}{c:St}{H:Hp}{s:du}(I:aM Y (pins++(D,o)::more) c H s):H D=none/\s.heap.get? D=some o/\aM Y pins c H s:=by have q:=I.pin (D,o) U4;exact⟨q.2.1,q.1,I.pins_of λp d=>I.pin p (by simp[d])⟩
def AD (hF:P1 F)(hx:∀e s,¬Y.xe e s)(T:AS Y tg J fp it tn)(P:uC Y pins D fp)(hg:PG Y tg g)
  (turn:∀i m c d H,W i m c d H->(J.stop i H/\Fin c d H)\/(J.go i H/\∀x H',J.yld i H x H'->g x d H' (Nx i m c)))
  (hR:∀s d H c,aM Y pins d H s->H D=none->F s.heap D c->Fin c d H->R (.ok .next) s)
  (n:Nat) (s:du) (B:IJ F Y pins D fp tn W n s) {E:cM} :
  Drawn (model Y.prog Y.w) Y.A Y.env E (.ref it) tg (R (.ok .next))
   (λt=>∃i c o more d H,X6 F Y D fp tn (i+1) c more o/\aM Y (pins++(D,o)::more) d H t/\Nx i n c d H) s:=by
 obtain⟨i,d,H,c,I,st,O,fD,U,w⟩:=B;obtain⟨o,ho,K,j⟩:=hF _ _ _ U;have Ip:=P.pin I fD ho K;rcases turn i n c d H w with⟨stop,fin⟩|⟨go,step⟩
 ·refine thn (T.done i _ s d H _ Ip (P.more H O) st stop) λr t ⟨G,It⟩=>?_;subst G;obtain⟨l1,l2,l3⟩:=GR It;exact hR t d H c l3 l1 (j _ l2) fin
 ·refine thn (T.item i _ s d H _ Ip (P.more H O) st go) λr t ⟨u,G,q⟩=>?_;subst G;refine thn q λ_ t1 ⟨x,N,I1,r1,S,h,L⟩=>?_;have I1p:=I1.pinned (P.more N L) (T.obj _ _ h);rw[cq]at I1p;refine wpAny_mono (hg _ t1 d N x u _ I1p r1 (step x N S)) (λ_ t2 ⟨v,H2,I2,Z⟩=>?_) λe t z=>(hx e t z).elim;refine⟨i,c,o,wF fp t1.heap,v,H2,⟨j,λp hp=>(zH hp).1,λ{pl Q H3 X} C I3=>?_⟩,I2,Z⟩;have l:∀b∈fp,∀o,t1.heap.get? b=some o->X.heap.get? b=some o/\H3 b=none:=λb hb o e=>by have z:=I3.pin (b,o) (bz _ (C _ (pI hb e)));exact⟨z.1,z.2.1⟩
  refine⟨T.keep _ _ _ h λb hb o e=>(l b hb o e).1,λb hb=>?_⟩;obtain⟨o,e,_⟩:=T.obj _ _ h b hb;exact(l b hb o e).2
def P2 (F:Heap->Addr->β->Prop)(Y:Cx)(D:Addr)(lay:Sem Unit)(q:St->Hp->(β->Hp->Prop)->Prop)(g:β):Prop :=
 ∀(E:cM) (pl:dD) (o:Obj) (σ:St) (H:Hp) (t:du) (N:β->Hp->Prop),aM Y pl σ H t->(D,o)∈pl->(∀h:Heap,h.get? D=some o->F h D g)->q σ H N ->
  wpAny (model Y.prog Y.w) Y.A lay (λ_ t3=>∃d e tk i c,t3={d with heap:=e,toks:=tk}/\aM Y pl σ i d/\Heap.SameBut D d.heap e/\F e D c/\N c i) E t
def ER {h:pV}{lay:Sem Unit}{G:TT}{tl:St->Hp->(β->Hp->Prop)->Prop}{i n:Nat}{d:β}{more:dD}{o:Obj}{c:St}{H:Hp}{t:du}{E:cM}(U:∀e s,¬Y.xe e s)(P:uC Y pins D fp)(T:AS Y tg J fp it tn)(X:T9 Y h G)(Z:P2 F Y D lay tl d)
  (B:X6 F Y D fp tn (i+1) d more o) (I:aM Y (pins++(D,o)::more) c H t)
  (q:G c H λb N=>if b=true then tl c N λa H4=>∃g,g<n/\W (i+1) g a c H4 else ∃g,g<n/\W (i+1) g d c N) :
  FQ (model Y.prog Y.w) Y.A Y.env E h lay (λt=>∃m,m<n/\IJ F Y pins D fp tn W m t) t:=by
 refine wpAny_mono (X _ t c H _ I q) (λok t1 ⟨Q,C,l⟩=>?_) λe t z=>(U e t z).elim;cases ok
 ·rw[ab Bool.false_ne_true]at l⊢;obtain⟨m,x,w⟩:=l;obtain⟨b1,b2⟩:=B.back (λp v=>by simp[v]) C;obtain⟨r,K,u⟩:=GR C;exact⟨m,x,i+1,c,Q,d,u,b1,b2,r,B.fill _ K,w⟩
 ·rw[ai rfl]at l⊢;refine thn (Z _ _ o c Q t1 _ C dl B.fill l) λ_ t3 ⟨R,h3,tk,O,j,e3,L,S,f3,m,x,w⟩=>?_;subst e3;obtain⟨b1,b2⟩:=B.back (λp v=>by simp[v]) L;obtain⟨r,K,u⟩:=GR L;have f:=P.list O r;have far:∀b o,b≠D->R.heap.get? b=some o->h3.get? b=some o:=λb o hb e=>S.extBut b o hb e;exact⟨m,x,i+1,c,O,j,u.turned (t':=tk) far f.1 f.2.1 f.2.2.2.1 f.2.2.2.2.1 f.2.2.2.2.2,T.keep _ _ _ b1 λb hb o e=>far b o (λz=>P.off (z ▸ hb)) e,b2,r,f3,w⟩
def FQ.go {E:cM}(h:FQ (model Y.prog Y.w) Y.A Y.env E ifs lay (λt=>∃m,m<n/\IJ F Y pins D fp tn W m t) t) :
  wpAny (model Y.prog Y.w) Y.A (layOn ifs lay Y.env c) (λf t=>f = .again c/\∃m,m<n/\IJ F Y pins D fp tn W m t) E t :=
 FQ.run (thn h λok t q=>by
  cases ok
  ·exact⟨rfl,q⟩
  ·exact thn q λ_ _ q=>⟨rfl,q⟩)
end
def tlLst (e:TE)(c:List V):St->Hp->(List V->Hp->Prop)->Prop:=λd H N=>e d H λy g=>c.length<sizeLine/\N (c++[y]) g
def EQ (r:∀e s,¬Y.xe e s)(A:PE Y elt te):P2 TQ Y D (B7 elt (.ref D) Y.env) (tlLst te acc) acc:=by
 intro E pl o h H t N I u x q;refine aa (wpAny_mono (A _ t h H _ I q) (λy c ⟨i,C,g,l,v,w⟩=>?_) λe t z=>(r e t z).elim);obtain⟨hz,items,p,d⟩:=x _ (g.pin (D,o) (bz _ u)).1;have small:items.size<=sizeLine:=by rw[←br,←d.length];exact hz
 refine aa (wpAny_list_append_plain (hsz:=small) p λB m j=>ak ⟨c,B,c.toks,C,acc++[i],rfl,g,j,⟨?_,items.push y,m,?_⟩,w⟩)
 ·rw[au];exact v
 ·rw[Array.toList_push];exact d.append (.cons l .nil)
def UF (J:It)(g:TG)(l:TT)(o:TE)(Fin:List V->Hp->Prop)(W:CW):Prop:=∀i m c h H,W i m c h H ->
 (J.stop i H/\Fin c H) \/
 (J.go i H/\∀x H',J.yld i H x H'->g x h H' λd q=>l d q λb j =>
  if b=true then o d j λy p=>c.length<sizeLine/\∃e,e<m/\W (i+1) e (c++[y]) d p else ∃e,e<m/\W (i+1) e c d j)
def tComp (src:List (Option Nat))(e:TI)(g:TG)(h:TT)(i:TE):TE:=λd H Q=>e d H λJ j=>∃W:CW,(∃m,W 0 m [] (stC src d) j)/\UF J g h i (λc H=>∀p,H p=none->Q (.ref p) (upd H p (.lst c))) W
section
variable {prog:dw}{w:dy}{A:dz}{ce:Expr}{c:Comprehension}{rest:List Comprehension}
def FC (j:P9 ce)(e:clausesOf ce=c::rest)(l:c.is_async=0){R:Result->du->Prop}(m:codeAny (model prog w) A (.compLoop ce 0 it acc env) R s)
  (h:wpAny (model prog w) A (pyIter it) (λd g=>codeAny (model prog w) A (.compLoop ce 0 d acc env) R g) (XN prog w A env R) s) :
  codeAny (model prog w) A (.compStart ce 0 it acc env) R s:=by
 apply codeAny_of_tree;apply LZ j;obtain⟨o,iter,i,_⟩:=c;cases l;unfold compStart;rw[e];change wpAny _ _ (ask >>= _) _ _ s;apply aa;apply wpAny_askSetting;by_cases b:(⟨(model prog w).prog,(model prog w).w.params⟩:Setting).params.followText "comprehension-iter-twice" = true
 ·rw[ai b];exact ak ⟨rfl,m⟩
 ·rw[ab b];refine aa (wpAny_rule ?_);change wpAny _ _ (standAt iter.pos >>= _) _ _ s;exact aa (wpAny_standAt (aa (thn h λd g z=>ak ⟨rfl,z⟩)))
def FO {c:Type}(F:Heap->Addr->c->Prop)(d:c)(prog:dw)(w:dy)(A:dz)(mk:Sem dv):Prop :=
 ∀(Q:cM) (E:cM) (s:du),(∀o:Obj,o.isFreed=false->(∀h:Heap,h.get? s.heap.objs.size=some o->F h s.heap.objs.size d)->Q (.ref s.heap.objs.size) {s with heap:=s.heap.push o})->wpAny (model prog w) A mk Q E s
def zM:FO TQ [] prog w A (newList []):=λ_ _ _ q=>ci (q _ rfl λ_ e=>⟨aw _,#[],⟨_,e⟩,.nil⟩)
end
section
variable {β:Type}{F:Heap->Addr->β->Prop}{e0:β}{mk:Sem dv}{ce:Expr}{cls:List Comprehension}{ob:HO}
variable {X:Cx}{scope:Scope}{N':aV}{src:List (Option Nat)}{pins:dD}{σ:St}{H₂:Hp}{s₂:du}{fp:List Addr}{it:Addr}{tn:PZ}{J:It}{tg iter:Expr}{ifs:pV}
def S0 {pl:dD}{h:St}{H':Hp}{i:du}{C D:Addr}(t:aM X pins σ H₂ s₂)(p:∀b∈fp,fN X pins H₂ b)
  (g:aM (blk X scope N' C s₂ H₂ fp) pl h H' i) (r:s₂.heap.objs.size<=D) (l:H' D=none) (ok:cK X.prog X.w (upd H' D ob) i.heap D ob):aM X pins σ (upd H' D ob) i:=by
 have u:=g.base;have j:∀b o,s₂.heap.get? b=some o->b≠D:=λb o e=>bq (bg (bc e) r);have d:∀b o,H' b=some o->b≠D:=λb o e z=>by rw[z,l]at e;cases e
 refine t.call' (ch:=fp) g.os ⟨u.keep,u.slot,λb o e n m=>?_,u.there,λb xs e=>?_,λb o xs e=>?_,λb ps e=>?_⟩ (λb o e=>?_) g.bare λb hb=>?_
 ·rw[aC (j b o e)];exact u.free b o e n m
 ·have q:=u.tups b xs e;rw[aC (d b _ q)];exact q
 ·have q:=u.frzs b o xs e;rw[aC (d b _ q)];exact q
 ·obtain⟨more,q⟩:=u.tbls b ps e;exact⟨more,by rw[aC (d b _ q)];exact q⟩
 ·by_cases hb:b=D
  ·subst hb;rw[ec]at e;cases e;exact ok
  ·rw[aC hb]at e;exact(g.hok b o e).stay (λ_ _ _ q=>q) (λc q=>by rw[aC (d c _ q)];exact q) λc xs q=>by rw[aC (d c _ q)];exact q
 ·obtain⟨f0,f1,f2,f3,f4,s⟩:=p b hb;exact⟨f3,f1,f4,s⟩
def JM:TQ h a acc->cK P w H h a (.lst acc):=λ⟨hz,items,⟨n,ho⟩,r⟩=>⟨hz,items.toList,n,r,by simpa using ho⟩
structure J3 (F:Heap->Addr->β->Prop)(e0:β)(X:Cx)(scope:Scope)(N':aV)(src:List (Option Nat))(s₂:du)(H₂:Hp)(σ:St)(fp:List Addr)(tn:PZ)(D C:Addr)(t:du):Prop where
 at_:s₂.heap.objs.size=D
 le:s₂.heap.objs.size<=C
 ne:D≠C
 place:uC (blk X scope N' C s₂ H₂ fp) [] D fp
 betw:∀W:P8 β,(∃m,W 0 m e0 (stC src σ) H₂)->∃m,IJ F (blk X scope N' C s₂ H₂ fp) [] D fp tn W m t
def MQ {h h':Heap}{o c:Obj}(ho:o.isFreed=false)(d:Heap.SameBut (h.push o).objs.size ((h.push o).push c) h'):(∀b x,h.get? b=some x->h'.get? b=some x)/\h'.get? h.objs.size=some o:=by have key:∀b x,(h.push o).get? b=some x->h'.get? b=some x:=λb x e=>d.extBut b x (bq (bc e)) (af c e);exact⟨λb x e=>key b x (af o e),key _ _ (av h ho)⟩
def uA {RR:dv->Addr->Result->du->Prop}{E:cM}(u:FO F e0 X.prog X.w X.A mk)(K:P9 ce)(B:clausesOf ce=⟨tg,iter,ifs,0⟩::cls)(S:bN X scope N' src)(i:aM X pins σ H₂ s₂)(T:∀C,AS (blk X scope N' C s₂ H₂ fp) tg J fp it tn)(p:tn 0 s₂.heap)(v:∀b∈fp,fN X pins H₂ b)
  (k:∀D C t,J3 F e0 X scope N' src s₂ H₂ σ fp tn D C t->codeAny (model X.prog X.w) X.A (.compLoop ce 0 (.ref it) (.ref D) (blk X scope N' C s₂ H₂ fp).env) (RR (.ref D) C) t) :
  wpAny (model X.prog X.w) X.A mk (λr l=>wpAny (model X.prog X.w) X.A (newFunctionEnv scope X.env.globals (closL X.env.cells scope.names []) [] X.env.qual none .none (some X.env)) (λg j =>
   codeAny (model X.prog X.w) X.A (.compStart ce 0 (.ref it) r {g with scope:=relabel scope X.env}) (RR r g.locals) j) E l) E s₂:=by
 refine u _ _ _ λo of I=>?_;refine wpAny_newFunctionEnv S.cell (λ_ z=>nomatch z) (λd ns sb=>?_) S.kind;obtain⟨h,new⟩:=MQ of sb;have sz:(s₂.heap.push o).objs.size=s₂.heap.objs.size+1:=Heap.size_push ..;dsimp only at ns h new⊢;rw[sz]at ns⊢;have lt:∀b∈fp,b<s₂.heap.objs.size:=λb hb=>let⟨_,e,_⟩:=(T 0).obj 0 _ p b hb;bc e;have q:tn 0 d:=(T 0).keep _ _ _ p λb _ o e=>h b o e;have off:s₂.heap.objs.size∉fp:=λz=>cf _ (lt _ z);have G:=S.start (tk:=s₂.toks+([]:List (Str×dv)).length) (pl:=[]) i v lt (Nat.le_succ _) h ns (λ_ z=>nomatch z);have pl:uC (blk X scope N' (s₂.heap.objs.size+1) s₂ H₂ fp) [] s₂.heap.objs.size fp:=by
  refine⟨off,λH s=>?_,λH s b hb=>?_⟩
  ·have f:=i.fpOk (ac _) s;refine⟨s,bq (Nat.lt_succ_self _),λz=>?_,.inr (ac _),λx c e=>f.2.2.2.2.1 x c (S.cl i e),λ_ z=>nomatch z⟩;exact(cw.mp (i.stkSub _ z)).elim f.2.1 f.2.2.1
  ·exact⟨s b hb,bq (Nat.lt_succ_of_lt (lt b hb)),G.ok.exfs b hb,.inl hb,λx c e=>(v b hb).2.2.2.2.1 x c (S.cl i e),λ_ z=>nomatch z⟩
 have L:J3 F e0 X scope N' src s₂ H₂ σ fp tn s₂.heap.objs.size (s₂.heap.objs.size+1) {s₂ with heap:=d,toks:=s₂.toks+([]:List (Str×dv)).length} :=
  ⟨rfl,Nat.le_succ _,bq (Nat.lt_succ_self _),pl,λW ⟨m,w⟩=>⟨m,0,_,H₂,e0,G,q,λb hb=>(v b hb).1,i.hok.fresh (ac _),I _ new,w⟩⟩
 have go:=k _ _ _ L;exact FC K B rfl go ((T 0).self _ 0 _ _ _ q go)
def J3.out {D C:Addr}{t s:du}{H':Hp}{c:St}(B:J3 F e0 X scope N' src s₂ H₂ σ fp tn D C t)(g:aM X pins σ H₂ s₂)(d:∀b∈fp,fN X pins H₂ b)(I:aM (blk X scope N' C s₂ H₂ fp) [] c H' s)(e:H' D=none)(ok:cK X.prog X.w (upd H' D ob) s.heap D ob) :
  H' C=none/\(∃m,s.heap.Ns C m)/\aM X pins σ (upd H' D ob) s :=
 ⟨I.free,⟨_,I.loc.choose_spec.1⟩,S0 g d I (Nat.le_of_eq B.at_) e ok⟩
variable {elt:Expr}{pos:Pos}{g:TG}{tt:TT}{te:TE}{tl:β->St->Hp->(β->Hp->Prop)->Prop}
def yD (J:It)(g:TG)(l:TT)(tl:β->St->Hp->(β->Hp->Prop)->Prop)(Fin:β->Hp->Prop)(W:P8 β):Prop:=∀i m d h H,W i m d h H ->
 (J.stop i H/\Fin d H) \/
 (J.go i H/\∀x H',J.yld i H x H'->g x h H' λc p=>l c p λb j =>
  if b=true then tl d c j λa o=>∃e,e<m/\W (i+1) e a c o else ∃e,e<m/\W (i+1) e d c j)
def xM {W:P8 β}{Fin:β->Hp->Prop}{RR:dv->Addr->Result->du->Prop}{E:cM}{lay:dv->Env->Sem Unit}{obj:Addr->β->HO}{ps:Pos}(hF:P1 F)(r:FO F e0 X.prog X.w X.A mk)(x:P9 ce)(u:clausesOf ce=⟨tg,iter,ifs,0⟩::cls)(hb:∀it c env,compTurn ce 0 it c env=pE ps it tg env (layOn ifs (lay c env) env (.compLoop ce 0 it c env)))(hok:∀H h D c,F h D c->cK X.prog X.w H h D (obj D c))
  (S:bN X scope N' src) (L:aM X pins σ H₂ s₂) (T:∀C,AS (blk X scope N' C s₂ H₂ fp) tg J fp it tn) (l:tn 0 s₂.heap) (G:∀b∈fp,fN X pins H₂ b)
  (hg:∀C,PG (blk X scope N' C s₂ H₂ fp) tg g) (U:∀C,T9 (blk X scope N' C s₂ H₂ fp) ifs tt) (hl:∀C D c,P2 F (blk X scope N' C s₂ H₂ fp) D (lay (.ref D) (blk X scope N' C s₂ H₂ fp).env) (tl c) c)
  (P:∃m,W 0 m e0 (stC src σ) H₂) (turn:yD J g tt tl Fin W)
  (v:∀D C p H' c,s₂.heap.objs.size<=C->H' C=none->D≠C->(∃m,p.heap.Ns C m)->aM X pins σ (upd H' D (obj D c)) p->H' D=none->Fin c H'->RR (.ref D) C (.ok .next) p) :
  wpAny (model X.prog X.w) X.A mk (λc j=>wpAny (model X.prog X.w) X.A (newFunctionEnv scope X.env.globals (closL X.env.cells scope.names []) [] X.env.qual none .none (some X.env)) (λd e =>
   codeAny (model X.prog X.w) X.A (.compStart ce 0 (.ref it) c {d with scope:=relabel scope X.env}) (RR c d.locals) e) E j) E s₂:=by
 refine uA r x u S L T l G λD C t B=>?_;obtain⟨m,b⟩:=B.betw W P;refine wR x (hb ..) (IJ F (blk X scope N' C s₂ H₂ fp) [] D fp tn W) (λn s b=>?_) m b;refine(AD (Y:=blk X scope N' C s₂ H₂ fp) hF (λ_ _ z=>z) (T C) B.place (hg C) turn (λs N H c I K Z fin=>?_) n s b).mono (λ_ z=>z) ?_
 ·obtain⟨o1,o2,R⟩:=B.out L G I K (hok _ _ _ _ Z);exact v D C s H c B.le o1 B.ne o2 R K fin
 ·rintro t ⟨i,c,o,more,O,H3,q,I3,Q⟩;exact FQ.go (ER (W:=W) (λ_ _ z=>z) B.place (T C) (U C) (hl C D c) q I3 Q)
def E7 {Q:VK}{D C:Addr}{c:du}{H':Hp}(p:aM X pins σ H₂ s₂)(l:s₂.heap.objs.size<=C)(i:H' C=none)(h:D≠C)(g:∃m,c.heap.Ns C m)(r:aM X pins σ (upd H' D ob) c)(q:Q (.ref D) (upd H' D ob)) :
  compPost (model X.prog X.w) X.A X.xe none (EP X pins σ Q) (.ref D) C (.ok .next) c:=by
 obtain⟨m,j⟩:=g;have f:=p.fpOk (H':=upd H' D ob) l (by rw[aC (Ne.symm h)];exact i);exact⟨m,j,λh' d=>⟨.ref D,_,r.turned (t':=c.toks) (λb o hb e=>d.extBut b o hb e) f.1 f.2.1 f.2.2.2.1 f.2.2.2.2.1 f.2.2.2.2.2,rfl,q⟩⟩
def PH {r:jV}{D C:Addr}{c:du}{H':Hp}{i:Nat}{y:Str}{s:Pos}(B:X.N.Nodup)(h:X.N[i]?=some y)(p:X.env.scope.names.lookup y=some .local)(F:aM X pins σ H₂ s₂)(E:s₂.heap.objs.size<=C)(l:H' C=none)(j:D≠C)(g:∃m,c.heap.Ns C m)(G:aM X pins σ (upd H' D ob) c)(q:r.nx (σ.set i (some (.ref D))) (upd H' D ob)) :
  compPost (model X.prog X.w) X.A X.xe (some (assign (.Name y s) X.env)) (λ_ c=>SP X pins r .next c) (.ref D) C (.ok .next) c:=by
 obtain⟨m,u⟩:=g;have f:=F.fpOk (H':=upd H' D ob) E (by rw[aC (Ne.symm j)];exact l);refine wpAny_assign_Name (y0 G B h (.inl p) (v:=.ref D) rfl (λt It ⟨a,sb,x⟩=>?_) (.inr p));have ne:C≠a:=x.elim (λe=>e ▸ f.2.1) λe z=>f.2.2.2.2.1 y a e z.symm;exact⟨m,u.sameBut sb ne,λh' d=>⟨_,_,It.turned (t':=t.toks) (λb o hb e=>d.extBut b o hb e) f.1 f.2.1 f.2.2.2.1 f.2.2.2.2.1 f.2.2.2.2.2,q⟩⟩
def J7 {Q:Flow->du->Prop}(c:swapsWith (.ListComp elt gens scope pos) (some (.Name y py)) spos.line X.env=pure true)
  (h:wpAny (model X.prog X.w) X.A (comprehension (.ListComp elt gens scope pos) scope X.env (firstIterPos gens pos) (newList []) (firstAsync gens) (firstIter gens X.env) (some (assign (.Name y py) X.env))) (λ_=>Q .next) X.xe s) :
  wpAny (model X.prog X.w) X.A (exec (.Assign [.Name y py] (.ListComp elt gens scope pos) spos) X.env) Q X.xe s:=by
 have u:wpAny (model X.prog X.w) X.A (evalThenUse (.ListComp elt gens scope pos) X.env (assign (.Name y py) X.env)) (λ_=>Q .next) X.xe s:=aa (thn h λ_ _ q=>ak q);exact(exec_Assign_Name_used y py _ spos c) ▸ aa (wpAny_standAt (aa (thn u λ_ _ q=>ak q)))
def tF {m:TI}{use:Option (dv->Sem Unit)}{Q:cM}{s:du}{H:Hp}{K:It->Hp->Prop}{ps:Pos}(l:clausesOf ce=⟨tg,iter,ifs,0⟩::cls)(S:bN X scope N' src)(hi:PI X tg iter m)(o:∀x,foldedSetIterable iter X.env x=pure x)(I:aM X pins σ H s)(h:m σ H K)
  (k:∀c H₂ it fp j J,aM X pins σ H₂ c->rM X.prog X.w X.K tg J fp it j->j 0 c.heap->(∀b∈fp,fN X pins H₂ b)->K J H₂ ->
   wpAny (model X.prog X.w) X.A mk (λi g=>wpAny (model X.prog X.w) X.A (newFunctionEnv scope X.env.globals (closL X.env.cells scope.names []) [] X.env.qual none .none (some X.env)) (λd e =>
    codeAny (model X.prog X.w) X.A (.compStart ce 0 (.ref it) i {d with scope:=relabel scope X.env}) (compPost (model X.prog X.w) X.A X.xe use Q i d.locals) e) X.xe g) X.xe c) :
  wpAny (model X.prog X.w) X.A (comprehension ce scope X.env ps mk false (eval iter X.env) use) Q X.xe s:=by
 refine wpAny_comprehension_free l o (yN (S.cells I)) S.kind S.names (thn (hi pins s σ H K I h) λ_ _ q=>thn q ?_);rintro _ c ⟨it,fp,j,J,H₂,rfl,p,T,st,f,q⟩;exact k c H₂ it fp j J p T st f q
def gZ (hc:X.calm=true)(S:bN X scope N' src)(hi:PI X tg iter wi)(o:∀C s H fp,PG (blk X scope N' C s H fp) tg g)(l:∀C s H fp,T9 (blk X scope N' C s H fp) ifs tt)(p:∀C s H fp,PE (blk X scope N' C s H fp) elt te)
  (m:∀x,foldedSetIterable iter X.env x=pure x:=by intro _;rfl):PE X (.ListComp elt [⟨tg,iter,ifs,0⟩] scope pos) (tComp src wi g tt te):=by
 intro e s v H Q I h;rw[eval_ListComp];refine tF rfl S hi m I h λc H₂ it fp w J i T st f ⟨W,j,turn⟩=>?_;exact xM (lay:=B7 elt) (tl:=tlLst te) (obj:=λ_=>.lst) zO zM (.lst ..) rfl (DL elt tg iter ifs scope pos) (λ_ _ _ _=>JM) S i (λC=>rM.y (Y:=blk X scope N' C c H₂ fp) T hc) st f (λC=>o C c H₂ fp) (λC=>l C c H₂ fp) (λC D d=>EQ (λ_ _ z=>z) (p C c H₂ fp)) j turn λD C A H' d a1 a2 u t r q fin=>E7 i a1 a2 u t r (fin D q)
def jA (v:X.N.Nodup)(e:X.N[i]?=some y)(p:X.env.scope.names.lookup y=some .local)(d:swapsWith (.ListComp elt [⟨tg,iter,ifs,0⟩] scope pos) (some (.Name y py)) spos.line X.env=pure true)
  (hc:X.calm=true) (S:bN X scope N' src) (hi:PI X tg iter wi) (t:∀C s H fp,PG (blk X scope N' C s H fp) tg g) (q:∀C s H fp,T9 (blk X scope N' C s H fp) ifs tt) (u:∀C s H fp,PE (blk X scope N' C s H fp) elt te)
  (r:∀x,foldedSetIterable iter X.env x=pure x:=by intro _;rfl):PS X (.Assign [.Name y py] (.ListComp elt [⟨tg,iter,ifs,0⟩] scope pos) spos) (tAsg (tComp src wi g tt te) (gName i)):=by
 intro l s F H D I h;refine J7 d ?_;refine tF rfl S hi r I h λc H₂ it fp G J m T st f ⟨W,o,turn⟩=>?_;exact xM (lay:=B7 elt) (tl:=tlLst te) (obj:=λ_=>.lst) zO zM (.lst ..) rfl (DL elt tg iter ifs scope pos) (λ_ _ _ _=>JM) S m (λC=>rM.y (Y:=blk X scope N' C c H₂ fp) T hc) st f (λC=>t C c H₂ fp) (λC=>q C c H₂ fp) (λC D j=>EQ (λ_ _ z=>z) (u C c H₂ fp)) o turn λD C K H' j a1 a2 E B A w fin=>PH v e p m a1 a2 E B A (fin D w)
end
noncomputable def BY:aV->Bool
 | []=>true
 | x::r=>!r.contains x && BY r
def zI:∀{l:aV},BY l=true->l.Nodup
 | [],_=>List.nodup_nil
 | x::r,h=>by simp only[BY,Bool.and_eq_true,Bool.not_eq_true',List.contains_eq_mem,decide_eq_false_iff_not]at h;exact da.mpr ⟨h.1,zI h.2⟩
noncomputable def compB (N:aV)(names:List (Str×NameKind))(scope:Scope)(N':aV)(src:List (Option Nat)):Bool :=
 decide (scope.kind = .function) && scope.names.all (λy=>decide (y.2≠.cell)) && scope.names.all (λy=>decide (y.2≠.local) || decide (scope.names.lookup y.1=some .local)) &&
 scope.names.all (λy=>decide (y.2≠.free) || (decide (names.lookup y.1=some .cell) || decide (names.lookup y.1=some .free))) && BY N' && srcOk N scope.names src N'
theorem bN.by {X:Cx}{N:aV}{names:List (Str×NameKind)}{scope:Scope}{N':aV}{src:List (Option Nat)}(h:compB N names scope N' src=true)(e:X.N=N)(g:X.env.scope.names=names):bN X scope N' src:=by subst e g;simp only[compB,Bool.and_eq_true,List.all_eq_true,Bool.or_eq_true,decide_eq_true_eq]at h;obtain⟨⟨⟨⟨⟨p,o⟩,m⟩,l⟩,j⟩,i⟩:=h;exact⟨p,o,λy c d=>(m y c).resolve_left λz=>z d,λy c d=>(l y c).resolve_left λz=>z d,zI j,i⟩
def dS (P:dw)(w:dy)(K:dq)(mg:jS)(base:Heap)(CX:DC)(k:Nat)(x:Str)(sp:Sp):Prop :=
 ∃f c ps,cH P w K mg base CX k f c ps sp/\mg x=some (.ref f)/\PySem.W.keepIn K (.ref f)=true/\eW K c ps []
section
variable {X:Cx}{CX:DC}{k:Nat}{sp:Sp}{E:XK}{x:Str}{p pos:Pos}{e:Expr}{es:pV}{t:TA}
def eE (O:dS X.prog X.w X.K X.mg X.base CX k x sp)(h:d9 k X.A)(g:kW CX X E)(l:Gl X x)(o:PA X (e::es) t)(d:(x == ("__debug__" : Str))=false:=by decide)
  (m:starEach (e::es) X.env=(false,eval e X.env)::starEach es X.env:=by rfl) (c:(backTo pos (starEach es X.env)).any (·.1)=false:=by rfl):PE X (.Call (.Name x p) (e::es) [] pos) (tCall sp [] E t):=by
 obtain⟨f,q,ps,F,i,j,hb⟩:=O;exact Q6 F h l i j hb .nil g o d m c
def aU (O:dS X.prog X.w X.K X.mg X.base bU k x sp)(g:d9 m X.A)(l:PA X (e::es) t)(h:k<=m:=by decide)(i:Gl X x:=by exact rfl)(d:(x == ("__debug__" : Str))=false:=by decide)
  (j:starEach (e::es) X.env=(false,eval e X.env)::starEach es X.env:=by rfl) (c:(backTo pos (starEach es X.env)).any (·.1)=false:=by rfl):PE X (.Call (.Name x p) (e::es) [] pos) (tCall sp [] E0 t):=eE O (g.mono h) pass0 i l d j c
def gW (c:∃u,X.mg x=some u/\aQ v u)(d:Gl X x)(hd:(x == ("__debug__" : Str))=false:=by decide):PE X (.Name x pos) (tC v):=by obtain⟨u,h,r⟩:=c;exact Q5 d h r hd
end
def MH (P:dw)(w:dy)(K:dq)(mg:jS)(base:Heap)(CX:DC)(k:Nat)(C:Addr)(m:Str)(sp:Sp):Prop :=
 ∃f c ps,cH P w K mg base CX k f c ps sp/\TK K C m f/\eW K c ps []/\MI K C
section
variable {X:Cx}
noncomputable def ixV (H:Hp):V->V->Option V
 | .ref p,.int i=>match H p with
  | some (.lst xs)=>atI xs i
  | some (.tup xs)=>atI xs i
  | some (.frz _ (.lst xs))=>atI xs i
  | _=>none
 | .str z,.int i=>if z.length<=sizeLine then(atI z.cps.toList i).map λc=>.str ⟨#[c]⟩else none
 | _,_=>none
def dM:P6 X (λx y H Q=>∃v,ixV H x y=some v/\Q v H):=by
 intro d g j s m H x y v u Q I w r h A;obtain⟨z,e,q⟩:=h;refine OT d g j s m H x y v u Q I w r ?_ A;cases x with
 | ref p =>
  cases y with
  | int i =>
   unfold ixV at e;dsimp only at e;split at e
   ·rename_i xs l;exact .inl ⟨p,xs,i,z,rfl,rfl,fL.of l,e,q⟩
   ·rename_i xs l;exact .inr (.inl ⟨p,xs,i,z,rfl,rfl,iF.of l,e,q⟩)
   ·rename_i o xs l;exact .inl ⟨p,xs,i,z,rfl,rfl,.inl (.inr ⟨o,l⟩),e,q⟩
   ·cases e
  | _=>cases e
 | str t =>
  cases y with
  | int i =>
   unfold ixV at e;dsimp only at e;split at e
   ·rename_i hz;cases ea:atI t.cps.toList i with
    | none=>rw[ea]at e;cases e
    | some c =>
     rw[ea]at e;cases e;exact .inr (.inr ⟨t,i,c,rfl,rfl,hz,ea,q⟩)
   ·cases e
  | _=>cases e
 | _=>cases e
noncomputable def lenV (H:Hp):V->Option Nat
 | .ref p=>match H p with
  | some (.lst xs)=>some xs.length
  | some (.tup xs)=>some xs.length
  | some (.frz _ (.lst xs))=>some xs.length
  | some (.dK c)=>some c.length
  | _=>none
 | .str z=>if z.length<=sizeLine then some z.length else none
 | _=>none
def cV.or' {r e:List V->Hp->VK->Prop}(h:cV X f r)(h':cV X f e):cV X f (λxs H Q=>r xs H Q\/e xs H Q):=by
 intro c s d H xs us Q I rs q;rcases q with q|q
 ·exact h c s d H xs us Q I rs q
 ·exact h' c s d H xs us Q I rs q
def cV.imp {r d:List V->Hp->VK->Prop}(h:cV X f r)(i:∀xs H Q,d xs H Q->r xs H Q):cV X f d:=λc s e H xs us Q I rs q=>h c s e H xs us Q I rs (i _ _ _ q)
def jU.imp {f:dv->dv->Sem dv}(h:jU X f r)(i:∀x y H Q,r' x y H Q->r x y H Q):jU X f r':=λc s d H x y v u Q I g e q=>h c s d H x y v u Q I g e (i _ _ _ _ q)
def r1 (f:Hp->V->Option V):List V->Hp->VK->Prop:=λxs H Q=>∃x v,xs=[x]/\f H x=some v/\Q v H
def bV:cV X (.builtin "len") (r1 λH x=>(lenV H x).map λn=>.int n):=by
 refine((mO.or' C2).or' MB).imp λxs H Q h=>?_;obtain⟨x,v,rfl,e,q⟩:=h;cases x with
 | ref p =>
  unfold lenV at e;dsimp only at e;split at e
  ·rename_i xs c;cases e;exact .inl (.inl ⟨p,xs,rfl,.inl (fL.of c),q⟩)
  ·rename_i xs c;cases e;exact .inl (.inl ⟨p,xs,rfl,.inr (iF.of c),q⟩)
  ·rename_i o xs c;cases e;exact .inl (.inl ⟨p,xs,rfl,.inl (.inl (.inr ⟨o,c⟩)),q⟩)
  ·rename_i d c;cases e;exact .inr ⟨p,d,rfl,c,q⟩
  ·cases e
 | str z =>
  unfold lenV at e;dsimp only at e;split at e
  ·rename_i hz;cases e;exact .inl (.inr ⟨z,rfl,hz,q⟩)
  ·cases e
 | _=>cases e
noncomputable def intV:V->Option V
 | .int i=>some (.int i)
 | .bl k=>some (.int (if k then 1 else 0))
 | _=>none
def tG:cV X (.type "int") (r1 λ_ x=>intV x):=by
 refine MC.imp λxs H Q h=>?_;obtain⟨x,v,rfl,e,q⟩:=h;cases x with
 | int i=>cases e;exact .inl ⟨i,rfl,q⟩
 | bl k=>cases e;exact .inr ⟨k,rfl,q⟩
 | _=>cases e
noncomputable def addV:V->V->Option V
 | .int i,.int j=>some (.int (i+j))
 | .str i,.str j=>if i.length+j.length<=sizeLine then some (.str (i++j))else none
 | _,_=>none
noncomputable def catO (H:Hp):V->V->Option HO
 | .ref a,.ref b=>match H a,H b with
  | some (.lst xs),some (.lst ys)=>if xs.length+ys.length<=sizeLine then some (.lst (xs++ys))else none
  | some (.tup xs),some (.tup ys)=>if xs.length+ys.length<=sizeLine/\xs≠[]/\ys≠[]then some (.tup (xs++ys))else none
  | _,_=>none
 | _,_=>none
def rAddF:R2:=λx y H Q=>(∃v,addV x y=some v/\Q v H)\/(∃o,catO H x y=some o/\∀p,H p=none->Q (.ref p) (upd H p o))
def bZ:jU X (binaryOp .Add) rAddF:=by
 refine((VB.or GG).or (VA.or RF)).imp λx y H Q h=>?_;rcases h with⟨v,e,q⟩|⟨o,e,q⟩
 ·cases x with
  | int i=>cases y with
   | int j=>cases e;exact .inl (.inl ⟨i,j,rfl,rfl,q⟩)
   | _=>cases e
  | str i=>cases y with
   | str j =>
    unfold addV at e;dsimp only at e;split at e
    ·rename_i hz;cases e;exact .inl (.inr ⟨i,j,rfl,rfl,hz,q⟩)
    ·cases e
   | _=>cases e
  | _=>cases e
 ·cases x with
  | ref a=>cases y with
   | ref b =>
    unfold catO at e;dsimp only at e;split at e
    ·rename_i xs ys c hb;split at e
     ·rename_i hz;cases e;exact .inr (.inl ⟨a,b,xs,ys,rfl,rfl,c,hb,hz,q⟩)
     ·cases e
    ·rename_i xs ys c hb;split at e
     ·rename_i hz;cases e;exact .inr (.inr ⟨a,b,xs,ys,rfl,rfl,iF.of c,iF.of hb,hz.2.1,hz.1,λw=>absurd w hz.2.2,λ_=>q⟩)
     ·cases e
    ·cases e
   | _=>cases e
  | _=>cases e
end
inductive D where
 | non|bl (b:Bool)|int (i:Int)|str (x:Str)|tup (xs:List D)|lst (xs:List D)
mutual
def aY (H:Hp):D->V->Prop
 | .non,v=>v = .non
 | .bl b,v=>v = .bl b
 | .int i,v=>v = .int i
 | .str x,v=>v = .str x
 | .tup ds,v=>∃a vs,v = .ref a/\H a=some (.tup vs)/\Reps H ds vs
 | .lst ds,v=>∃a vs,v = .ref a/\H a=some (.lst vs)/\Reps H ds vs
def Reps (H:Hp):List D->List V->Prop
 | [],vs=>vs=[]
 | d::ds,vs=>∃v r,vs=v::r/\aY H d v/\Reps H ds r
end
mutual
theorem aY.same (s:aF H H'):∀{d:D} {v:V},aY H d v->aY H' d v
 | .non,_,h=>h
 | .bl _,_,h=>h
 | .int _,_,h=>h
 | .str _,_,h=>h
 | .tup _,_,⟨a,vs,e,h,r⟩=>⟨a,vs,e,s _ _ h,Reps.same s r⟩
 | .lst _,_,⟨a,vs,e,h,r⟩=>⟨a,vs,e,s _ _ h,Reps.same s r⟩
theorem Reps.same (s:aF H H'):∀{ds:List D} {vs:List V},Reps H ds vs->Reps H' ds vs
 | [],_,h=>h
 | _::_,_,⟨v,r,e,h,q⟩=>⟨v,r,e,aY.same s h,Reps.same s q⟩
end
def Reps.length:∀{ds:List D} {vs:List V},Reps H ds vs->vs.length=ds.length
 | [],_,h=>by cases h;rfl
 | _::_,_,⟨v,r,e,_,q⟩=>by subst e;simp[Reps.length q]
def Reps.append:∀{ds c:List D} {vs ws:List V},Reps H ds vs->Reps H c ws->Reps H (ds++c) (vs++ws)
 | [],_,_,_,h,k=>by cases h;exact k
 | _::_,_,_,_,⟨v,r,e,h,q⟩,k=>by subst e;exact⟨v,r++_,rfl,h,Reps.append q k⟩
theorem Reps.get:∀{ds:List D} {vs:List V} {i:Nat} {v:V},Reps H ds vs->vs[i]?=some v->∃d,ds[i]?=some d/\aY H d v
 | [],_,_,_,h,e=>by cases h;simp at e
 | d::_,_,0,_,⟨v,r,e,h,q⟩,k=>by subst e;simp at k;subst k;exact⟨d,rfl,h⟩
 | _::_,_,i+1,_,⟨v,r,e,h,q⟩,k=>by subst e;simp at k;obtain⟨d,g,c⟩:=Reps.get q k;exact⟨d,by simpa using g,c⟩
theorem Reps.get':∀{ds:List D} {vs:List V} {i:Nat} {d:D},Reps H ds vs->ds[i]?=some d->∃v,vs[i]?=some v/\aY H d v
 | [],_,_,_,_,e=>by simp at e
 | d::_,_,0,_,⟨v,r,e,h,q⟩,k=>by subst e;simp at k;subst k;exact⟨v,rfl,h⟩
 | _::_,_,i+1,_,⟨v,r,e,h,q⟩,k=>by subst e;simp at k;obtain⟨w,g,c⟩:=Reps.get' q k;exact⟨w,by simpa using g,c⟩
mutual
noncomputable def eqD:D->D->Bool
 | .non,.non=>true
 | .bl a,.bl b=>a == b
 | .bl a,.int b=>(if a then 1 else 0) == b
 | .int a,.bl b=>a == (if b then 1 else 0)
 | .int a,.int b=>a == b
 | .str a,.str b=>a == b
 | .tup xs,.tup ys=>eqDs xs ys
 | .lst xs,.lst ys=>eqDs xs ys
 | _,_=>false
noncomputable def eqDs:List D->List D->Bool
 | [],[]=>true
 | x::xs,y::ys=>eqD x y && eqDs xs ys
 | _,_=>false
end
mutual
noncomputable def depD:D->Nat
 | .tup xs=>depDs xs+1
 | .lst xs=>depDs xs+1
 | _=>0
noncomputable def depDs:List D->Nat
 | []=>0
 | x::xs=>max (depD x) (depDs xs)
end
end L2
namespace L2
open PySem PySem.Spec PyProof.Rows PySem.SeqAt
mutual
theorem aY.inj:∀{d e:D} {v:V},aY H d v->aY H e v->d=e
 | .non,e,v,h,k=>by cases h;cases e <;> first|rfl|(exact absurd k (by simp[aY]))|(obtain⟨_,_,z,_⟩:=k;cases z)
 | .bl b,e,v,h,k=>by cases h;cases e <;> first|(cases k;rfl)|(exact absurd k (by simp[aY]))|(obtain⟨_,_,z,_⟩:=k;cases z)
 | .int b,e,v,h,k=>by cases h;cases e <;> first|(cases k;rfl)|(exact absurd k (by simp[aY]))|(obtain⟨_,_,z,_⟩:=k;cases z)
 | .str b,e,v,h,k=>by cases h;cases e <;> first|(cases k;rfl)|(exact absurd k (by simp[aY]))|(obtain⟨_,_,z,_⟩:=k;cases z)
 | .tup ds,e,v,⟨a,vs,o,j,m⟩,k=>by
  subst o;cases e with
  | tup p =>
   obtain⟨b,l,g,c,i⟩:=k;cases g;rw[j]at c;cases c;rw[Reps.inj m i]
  | lst p =>
   obtain⟨b,l,g,c,i⟩:=k;cases g;rw[j]at c;cases c
  | _=>exact absurd k (by simp[aY])
 | .lst ds,e,v,⟨a,vs,o,j,m⟩,k=>by
  subst o;cases e with
  | lst p =>
   obtain⟨b,l,g,c,i⟩:=k;cases g;rw[j]at c;cases c;rw[Reps.inj m i]
  | tup p =>
   obtain⟨b,l,g,c,i⟩:=k;cases g;rw[j]at c;cases c
  | _=>exact absurd k (by simp[aY])
theorem Reps.inj:∀{ds c:List D} {vs:List V},Reps H ds vs->Reps H c vs->ds=c
 | [],[],_,_,_=>rfl
 | [],e::c,_,h,k=>by cases h;obtain⟨_,_,z,_⟩:=k;cases z
 | d::ds,[],_,h,k=>by cases k;obtain⟨_,_,z,_⟩:=h;cases z
 | d::ds,e::c,_,⟨v,r,o,m,l⟩,⟨w,q,j,i,g⟩=>by subst o;cases j;rw[aY.inj m i,Reps.inj l g]
end
mutual
theorem dQ:∀d:D,eqD d d=true
 | .non=>rfl
 | .bl b=>by simp[eqD]
 | .int b=>by simp[eqD]
 | .str b=>by simp[eqD]
 | .tup xs=>by rw[eqD];exact tE xs
 | .lst xs=>by rw[eqD];exact tE xs
theorem tE:∀ds:List D,eqDs ds ds=true
 | []=>rfl
 | d::ds=>by rw[eqDs,dQ d,tE ds];rfl
end
def xR (n:Nat)(f:Nat->Bool):(List.range (n+1)).all f=(f 0 && (List.range n).all λj=>f (j+1)):=by have e:=List.range_succ_eq_map (n:=n);rw[e,List.all_cons,List.all_map];rfl
theorem iT:∀ds c:List D,eqDs ds c=((List.range (min ds.length c.length)).all (λj=>eqD (ds.getD j .non) (c.getD j .non)) && ds.length == c.length)
 | [],[]=>rfl
 | [],e::c=>by simp[eqDs]
 | d::ds,[]=>by simp[eqDs]
 | d::ds,e::c=>by
  rw[eqDs,iT ds c];have g:min (d::ds).length (e::c).length=min ds.length c.length+1:=by simp only[aq];lia
  rw[g,xR];simp only[List.getD_cons_zero,List.getD_cons_succ,aq];rw[Bool.and_assoc];congr 2;rw[cg];simp
section
variable {P:dw}{w:dy}{H:Hp}{s:du}
def g8 (ok:hV P w H s.heap)(h:H a=some (.lst vs)):∃its:cX,aP vs its/\s.heap.IsList a its.toArray:=by obtain⟨_,its,n,r,e⟩:=ok a _ h;exact⟨its,r,⟨_,e,rfl,n,rfl⟩⟩
def kK (ok:hV P w H s.heap)(h:H a=some (.tup vs)):∃its:cX,aP vs its/\s.heap.IsTuple a its.toArray:=by obtain⟨_,its,r,e⟩:=ok a _ h;exact⟨its,r,e⟩
def eS (A:dz):A.in1.units=A.units+1:=rfl
def XT (u:dv):Prop:=u = .none\/(∃b,u = .bool b)\/(∃i t,u = .int i t)\/(∃x t,u = .str x t)\/∃a,u = .ref a
def M6 (h:aY H d v)(r:aQ v u):XT u:=by
 cases d with
 | non=>cases h;exact .inl r
 | bl b=>cases h;exact .inr (.inl ⟨b,r⟩)
 | int i=>cases h;obtain⟨t,e⟩:=r;exact .inr (.inr (.inl ⟨i,t,e⟩))
 | str x=>cases h;obtain⟨t,e⟩:=r;exact .inr (.inr (.inr (.inl ⟨x,t,e⟩)))
 | tup ds=>obtain⟨a,vs,e,_⟩:=h;subst e;exact .inr (.inr (.inr (.inr ⟨a,r⟩)))
 | lst ds=>obtain⟨a,vs,e,_⟩:=h;subst e;exact .inr (.inr (.inr (.inr ⟨a,r⟩)))
def SV (g:XT u)(c:XT u')(h:u≠u')(q:RcAt A s u u' b):EqAt A s u u' b:=by intro prog w E Q i;unfold eqBool;refine ck ?_;refine wpAny_ite_split (λd=>absurd (eq_of_beq d) h) (λ_=>?_);have q':=q prog w E (λv e=>wpAny (model prog w) A (truthOfDropped v) Q E e) (wpAny_truthy_bool i);rcases g with rfl|⟨_,rfl⟩|⟨_,_,rfl⟩|⟨_,_,rfl⟩|⟨_,rfl⟩ <;> rcases c with rfl|⟨_,rfl⟩|⟨_,_,rfl⟩|⟨_,_,rfl⟩|⟨_,rfl⟩ <;> exact aa q'
def JX (h:aY H d v)(k:aY H e v')(r:aQ v u)(c:aQ v' u')(q:RcAt A s u u' (eqD d e)):EqAt A s u u' (eqD d e):=by
 by_cases g:u=u'
 ·subst g;have j:v=v':=r.inj c;subst j;have i:=aY.inj h k;subst i;rw[dQ];exact EqAt.same u
 ·exact SV (M6 h r) (M6 k c) g q
def vK (s:du)(H:Hp)(n:Nat):Prop:=∀(d e:D) (A:dz) (v v':V) (u u':dv),depD d<n->aY H d v->aY H e v'->aQ v u->aQ v' u'->A.units+depD d<cLine->RcAt A s u u' (eqD d e)
def CZ (G:vK s H n):∀{ds g:List D} {A:dz} {vs l:List V} {us c:cX},depDs ds<n->Reps H ds vs->Reps H g l->aP vs us->aP l c->A.units+depDs ds<cLine ->
  ∀j (m:j<us.length) (t:j<c.length),EqAt A s us[j] c[j] (eqD (ds.getD j .non) (g.getD j .non)):=by
 intro ds
 induction ds with
 | nil=>intro g A vs l us c _ h _ r _ _ j m;cases h;cases r;exact absurd m (Nat.not_lt_zero _)
 | cons d ds I =>
  intro g A vs l us c q h k r u p j m t;cases g with
  | nil=>cases k;cases u;exact absurd t (Nat.not_lt_zero _)
  | cons e g =>
   obtain⟨v,K,C,w,B⟩:=h;obtain⟨y,J,F,x,E⟩:=k;subst C F;rw[depDs]at p q;cases r with
   | cons r1 z =>
    cases u with
    | cons i o =>
     cases j with
     | zero=>exact JX w x r1 i (G d e A v y _ _ (aj (Nat.le_max_left _ _) q) w x r1 i (aj (ca (Nat.le_max_left _ _) _) p))
     | succ j=>exact I (aj (Nat.le_max_right _ _) q) B E z o (aj (ca (Nat.le_max_right _ _) _) p) j (Nat.lt_of_succ_lt_succ m) (Nat.lt_of_succ_lt_succ t)
def QQ (ok:hV P w H s.heap)(z:vK s H n)(B:depDs ds<n)(h:aY H (.tup ds) v)(k:aY H (.tup es) v')(r:aQ v u)(p:aQ v' u')(I:A.units+depDs ds+1<cLine):RcAt A s u u' (eqD (.tup ds) (.tup es)):=by
 obtain⟨a,vs,i,g,o⟩:=h;obtain⟨b,G,x,t,m⟩:=k;subst i x;cases r;cases p;obtain⟨its,l,C⟩:=kK ok g;obtain⟨its2,c,d⟩:=kK ok t;have q:=RcAt.tuples (A:=A) C d dk (e:=λj=>eqD (ds.getD j .non) (es.getD j .non)) λj i g=>CZ z B o m l c (A:=A.in1) (by rw[eS];lia) j i g;have F:its.toArray.size=ds.length:=by rw[ag,←l.length,o.length]
 have E:its2.toArray.size=es.length:=by rw[ag,←c.length,m.length]
 rw[F,E,←iT]at q;exact q
def QR (ok:hV P w H s.heap)(G:vK s H n)(I:depDs ds<n)(h:aY H (.lst ds) v)(k:aY H (.lst es) v')(r:aQ v u)(C:aQ v' u')(K:A.units+depDs ds+1<cLine):RcAt A s u u' (eqD (.lst ds) (.lst es)):=by
 obtain⟨a,vs,i,g,x⟩:=h;obtain⟨b,J,F,E,p⟩:=k;subst i F;cases r;cases C;obtain⟨its,o,t⟩:=g8 ok g;obtain⟨its2,c,d⟩:=g8 ok E;have m:its.toArray.size=ds.length:=by rw[ag,←o.length,x.length]
 have B:its2.toArray.size=es.length:=by rw[ag,←c.length,p.length]
 by_cases hz:its.toArray.size=its2.toArray.size
 ·have q:=RcAt.lists (A:=A) t d hz dk (e:=λj=>eqD (ds.getD j .non) (es.getD j .non)) λj i g=>CZ G I x p o c (A:=A.in1) (by rw[eS];lia) j i g;have z:ds.length=es.length:=by rw[←m,←B];exact hz
  have l:eqD (.lst ds) (.lst es)=(List.range its.toArray.size).all λj=>eqD (ds.getD j .non) (es.getD j .non):=by rw[eqD,iT,z,Nat.min_self,m,z,beq_self_eq_true,Bool.and_true]
  rw[l];exact q
 ·have q:=RcAt.lists_lengths (A:=A) t d (bne_iff_ne.mpr hz) dk;have l:eqD (.lst ds) (.lst es)=false:=by rw[eqD,iT];have:(ds.length == es.length)=false:=cz.mpr (by rw[←m,←B];exact hz);rw[this,Bool.and_false]
  rw[l];exact q
inductive Kd (s:du):D->dv->Prop
 | non:Kd s .non .none
 | bl (b:Bool):Kd s (.bl b) (.bool b)
 | int (i:Int) (t:Tok):Kd s (.int i) (.int i t)
 | str (x:Str) (t:Tok):Kd s (.str x) (.str x t)
 | tup {ds:List D} {a:Addr} {its:cX}:s.heap.IsTuple a its.toArray->Kd s (.tup ds) (.ref a)
 | lst {ds:List D} {a:Addr} {its:cX}:s.heap.IsList a its.toArray->Kd s (.lst ds) (.ref a)
def JS (ok:hV P w H s.heap):∀{d:D} {v:V} {u:dv},aY H d v->aQ v u->Kd s d u
 | .non,_,_,h,r=>by cases h;cases r;exact .non
 | .bl b,_,_,h,r=>by cases h;cases r;exact .bl b
 | .int i,_,_,h,r=>by cases h;obtain⟨t,rfl⟩:=r;exact .int i t
 | .str x,_,_,h,r=>by cases h;obtain⟨t,rfl⟩:=r;exact .str x t
 | .tup _,_,_,⟨_,_,e,h,_⟩,r=>by subst e;cases r;obtain⟨_,_,c⟩:=kK ok h;exact .tup c
 | .lst _,_,_,⟨_,_,e,h,_⟩,r=>by subst e;cases r;obtain⟨_,_,c⟩:=g8 ok h;exact .lst c
def QS (g:A.units<cLine)(h:Kd s d u)(k:Kd s e u')(n1:∀xs ys,d = .tup xs->e≠.tup ys)(n2:∀xs ys,d = .lst xs->e≠.lst ys):RcAt A s u u' (eqD d e):=by
 cases h with
 | non=>cases k with
  | non=>exact RcAt.none_none
  | bl c=>exact RcAt.none_bool c
  | int c t=>exact RcAt.none_int c t
  | str c t=>exact RcAt.none_str c t
  | tup l=>exact RcAt.none_tuple l g
  | lst l=>exact RcAt.none_list l g
 | bl x=>cases k with
  | non=>exact RcAt.bool_none x
  | bl c=>exact RcAt.bool_bool x c
  | int c t=>exact RcAt.bool_int x c t
  | str c t=>exact RcAt.bool_str x c t
  | tup l=>exact RcAt.bool_tuple x l g
  | lst l=>exact RcAt.bool_list x l g
 | int x i=>cases k with
  | non=>exact RcAt.int_none x i
  | bl c=>exact RcAt.int_bool x i c
  | int c t=>exact RcAt.int_int x i c t
  | str c t=>exact RcAt.int_str x i c t
  | tup l=>exact RcAt.int_tuple x i l g
  | lst l=>exact RcAt.int_list x i l g
 | str x i=>cases k with
  | non=>exact RcAt.str_none x i
  | bl c=>exact RcAt.str_bool x i c
  | int c t=>exact RcAt.str_int x i c t
  | str c t=>exact RcAt.str_str x i c t
  | tup l=>exact RcAt.str_tuple x i l g
  | lst l=>exact RcAt.str_list x i l g
 | tup m=>cases k with
  | non=>exact RcAt.tuple_none m g
  | bl c=>exact RcAt.tuple_bool c m g
  | int c t=>exact RcAt.tuple_int c t m g
  | str c t=>exact RcAt.tuple_str c t m g
  | tup l=>exact absurd rfl (n1 _ _ rfl)
  | lst l=>exact RcAt.tuple_list m l g
 | lst m=>cases k with
  | non=>exact RcAt.list_none m g
  | bl c=>exact RcAt.list_bool c m g
  | int c t=>exact RcAt.list_int c t m g
  | str c t=>exact RcAt.list_str c t m g
  | tup l=>exact RcAt.list_tuple m l g
  | lst l=>exact absurd rfl (n2 _ _ rfl)
theorem qN (ok:hV P w H s.heap):∀n,vK s H n
 | 0=>λ_ _ _ _ _ _ _ h=>absurd h (Nat.not_lt_zero _)
 | n+1=>λd e A v q u t g h k r i c=>by
  have p:A.units<cLine:=aj (Nat.le_add_right _ _) c;by_cases o:∃xs ys,d = .tup xs/\e = .tup ys
  ·obtain⟨xs,ys,rfl,rfl⟩:=o;rw[depD]at c g;exact QQ ok (qN ok n) (Nat.lt_of_succ_lt_succ g) h k r i c
  ·by_cases m:∃xs ys,d = .lst xs/\e = .lst ys
   ·obtain⟨xs,ys,rfl,rfl⟩:=m;rw[depD]at c g;exact QR ok (qN ok n) (Nat.lt_of_succ_lt_succ g) h k r i c
   ·exact QS p (JS ok h r) (JS ok k i) (λxs ys l j=>o ⟨xs,ys,l,j⟩) (λxs ys l j=>m ⟨xs,ys,l,j⟩)
def rcAtD (ok:hV P w H s.heap)(d e:D)(A:dz)(v c:V)(u g:dv)(h:aY H d v)(k:aY H e c)(r:aQ v u)(i:aQ c g)(j:A.units+depD d<cLine):RcAt A s u g (eqD d e):=qN ok _ d e A v c u g (Nat.lt_succ_self _) h k r i j
def eqAtD (ok:hV P w H s.heap)(d e:D)(A:dz)(v c:V)(u g:dv)(h:aY H d v)(k:aY H e c)(r:aQ v u)(i:aQ c g)(j:A.units+depD d<cLine):EqAt A s u g (eqD d e):=JX h k r i (rcAtD ok d e A v c u g h k r i j)
end
section
variable {X:Cx}
def rEqD:R2:=λx y H Q=>∃d e,aY H d x/\aY H e y/\depD d<=60/\Q (.bl (eqD d e)) H
def rNeD:R2:=λx y H Q=>∃d e,aY H d x/\aY H e y/\depD d<=60/\Q (.bl (!eqD d e)) H
def eF (m:X.A.units+64<cLine):jU X (compareOp .Eq) rEqD:=by intro c s l H x y v u Q I i g h;obtain⟨d,e,hd,j,hz,q⟩:=h;exact rcAtD I.hok d e X.A x y v u hd j i g dk X.prog X.w X.xe _ ⟨.bl _,H,I,rfl,q⟩
end
section
variable {P:dw}{w:dy}{H:Hp}{s:du}
def QM (ok:hV P w H s.heap)(h:aY H (.tup ds) v)(k:aY H (.tup es) v')(r:aQ v u)(p:aQ v' u')(F:A.units+depDs ds+1<cLine):RcNeAt A s u u' (!eqD (.tup ds) (.tup es)):=by
 obtain⟨a,vs,i,g,o⟩:=h;obtain⟨b,E,x,t,m⟩:=k;subst i x;cases r;cases p;obtain⟨its,l,z⟩:=kK ok g;obtain⟨its2,c,d⟩:=kK ok t;have q:=RcNeAt.tuples (A:=A) z d dk (e:=λj=>eqD (ds.getD j .non) (es.getD j .non)) λj i g=>CZ (qN ok _) (Nat.lt_succ_self _) o m l c (A:=A.in1) (by rw[eS];lia) j i g;have C:its.toArray.size=ds.length:=by rw[ag,←l.length,o.length]
 have B:its2.toArray.size=es.length:=by rw[ag,←c.length,m.length]
 rw[C,B,←iT]at q;exact q
def QN (ok:hV P w H s.heap)(h:aY H (.lst ds) v)(k:aY H (.lst es) v')(r:aQ v u)(C:aQ v' u')(I:A.units+depDs ds+1<cLine):RcNeAt A s u u' (!eqD (.lst ds) (.lst es)):=by
 obtain⟨a,vs,i,g,x⟩:=h;obtain⟨b,G,F,E,p⟩:=k;subst i F;cases r;cases C;obtain⟨its,o,t⟩:=g8 ok g;obtain⟨its2,c,d⟩:=g8 ok E;have m:its.toArray.size=ds.length:=by rw[ag,←o.length,x.length]
 have B:its2.toArray.size=es.length:=by rw[ag,←c.length,p.length]
 by_cases hz:its.toArray.size=its2.toArray.size
 ·have q:=RcNeAt.lists (A:=A) t d hz dk (e:=λj=>eqD (ds.getD j .non) (es.getD j .non)) λj i g=>CZ (qN ok _) (Nat.lt_succ_self _) x p o c (A:=A.in1) (by rw[eS];lia) j i g;have z:ds.length=es.length:=by rw[←m,←B];exact hz
  have l:eqD (.lst ds) (.lst es)=(List.range its.toArray.size).all λj=>eqD (ds.getD j .non) (es.getD j .non):=by rw[eqD,iT,z,Nat.min_self,m,z,beq_self_eq_true,Bool.and_true]
  rw[l];exact q
 ·have q:=RcNeAt.lists_lengths (A:=A) t d (bne_iff_ne.mpr hz) dk;have l:eqD (.lst ds) (.lst es)=false:=by rw[eqD,iT];have:(ds.length == es.length)=false:=cz.mpr (by rw[←m,←B];exact hz);rw[this,Bool.and_false]
  rw[l];exact q
def QO (g:A.units<cLine)(h:Kd s d u)(k:Kd s e u')(n1:∀xs ys,d = .tup xs->e≠.tup ys)(n2:∀xs ys,d = .lst xs->e≠.lst ys):RcNeAt A s u u' (!eqD d e):=by
 cases h with
 | non=>cases k with
  | non=>exact RcNeAt.none_none
  | bl c=>exact RcNeAt.none_bool c
  | int c t=>exact RcNeAt.none_int c t
  | str c t=>exact RcNeAt.none_str c t
  | tup l=>exact RcNeAt.none_tuple l g
  | lst l=>exact RcNeAt.none_list l g
 | bl x=>cases k with
  | non=>exact RcNeAt.bool_none x
  | bl c=>exact RcNeAt.bool_bool x c
  | int c t=>exact RcNeAt.bool_int x c t
  | str c t=>exact RcNeAt.bool_str x c t
  | tup l=>exact RcNeAt.bool_tuple x l g
  | lst l=>exact RcNeAt.bool_list x l g
 | int x i=>cases k with
  | non=>exact RcNeAt.int_none x i
  | bl c=>exact RcNeAt.int_bool x i c
  | int c t=>exact RcNeAt.int_int x i c t
  | str c t=>exact RcNeAt.int_str x i c t
  | tup l=>exact RcNeAt.int_tuple x i l g
  | lst l=>exact RcNeAt.int_list x i l g
 | str x i=>cases k with
  | non=>exact RcNeAt.str_none x i
  | bl c=>exact RcNeAt.str_bool x i c
  | int c t=>exact RcNeAt.str_int x i c t
  | str c t=>exact RcNeAt.str_str x i c t
  | tup l=>exact RcNeAt.str_tuple x i l g
  | lst l=>exact RcNeAt.str_list x i l g
 | tup m=>cases k with
  | non=>exact RcNeAt.tuple_none m g
  | bl c=>exact RcNeAt.tuple_bool c m g
  | int c t=>exact RcNeAt.tuple_int c t m g
  | str c t=>exact RcNeAt.tuple_str c t m g
  | tup l=>exact absurd rfl (n1 _ _ rfl)
  | lst l=>exact RcNeAt.tuple_list m l g
 | lst m=>cases k with
  | non=>exact RcNeAt.list_none m g
  | bl c=>exact RcNeAt.list_bool c m g
  | int c t=>exact RcNeAt.list_int c t m g
  | str c t=>exact RcNeAt.list_str c t m g
  | tup l=>exact RcNeAt.list_tuple m l g
  | lst l=>exact absurd rfl (n2 _ _ rfl)
def QT (ok:hV P w H s.heap)(d e:D)(A:dz)(v l:V)(u m:dv)(h:aY H d v)(k:aY H e l)(r:aQ v u)(g:aQ l m)(c:A.units+depD d<cLine):RcNeAt A s u m (!eqD d e):=by
 have q:A.units<cLine:=aj (Nat.le_add_right _ _) c;by_cases p:∃xs ys,d = .tup xs/\e = .tup ys
 ·obtain⟨xs,ys,rfl,rfl⟩:=p;rw[depD]at c;exact QM ok h k r g c
 ·by_cases o:∃xs ys,d = .lst xs/\e = .lst ys
  ·obtain⟨xs,ys,rfl,rfl⟩:=o;rw[depD]at c;exact QN ok h k r g c
  ·exact QO q (JS ok h r) (JS ok k g) (λxs ys j i=>p ⟨xs,ys,j,i⟩) (λxs ys j i=>o ⟨xs,ys,j,i⟩)
end
section
variable {X:Cx}
def eZ (m:X.A.units+64<cLine):jU X (compareOp .NotEq) rNeD:=by intro c s l H x y v u Q I i g h;obtain⟨d,e,hd,j,hz,q⟩:=h;exact QT I.hok d e X.A x y v u hd j i g dk X.prog X.w X.xe _ ⟨.bl _,H,I,rfl,q⟩
noncomputable def inD (d:D)(ds:List D):Bool:=ds.any λe=>eqD e d
def rInD (c:Bool):R2:=λx y H Q=>∃d ds,aY H d x/\(aY H (.lst ds) y\/aY H (.tup ds) y)/\depDs ds<=60/\Q (.bl (if c then !inD d ds else inD d ds)) H
open Classical in
noncomputable def datOf (H:Hp)(y:dv):D:=if h:∃d v,absV y=some v/\aY H d v then h.choose else .non
def PP (r:aQ v y)(h:aY H d v):datOf H y=d:=by
 have e:∃d v,absV y=some v/\aY H d v:=⟨d,v,r.abs,h⟩
 unfold datOf;rw[dif_pos e];obtain⟨i,c,g⟩:=e.choose_spec;rw[r.abs]at c;cases c;exact aY.inj g h
theorem w4 (ok:hV P w H s.heap)(h:aY H d v)(r:aQ v u):∀(ds:List D) (vs:List V) (us:cX),Reps H ds vs->aP vs us->A.units+depDs ds<cLine ->
  (∀y∈us,EqAt A s y u (eqD (datOf H y) d))/\us.any (λy=>eqD (datOf H y) d)=inD d ds
 | [],vs,us,c,r1,_=>by cases c;cases r1;exact⟨dl,rfl⟩
 | e::ds,vs,us,c,r1,B=>by
  obtain⟨l,j,t,g,q⟩:=c;subst t;rw[depDs]at B;cases r1 with
  | @cons _ o _ m r1 p =>
   obtain⟨E,C⟩:=w4 ok (A:=A) h r ds j m q p dk;have hd:=eqAtD ok e d A l v o u g h r1 r dk;have i:=PP r1 g;refine⟨λy x=>?_,?_⟩
   ·rcases cw.mp x with z|z
    ·subst z;rw[i];exact hd
    ·exact E y z
   ·rw[List.any_cons,i,C];rfl
def VC (C:X.A.units+64<cLine):jU X (compareOp .In) (λx y H Q=>rInD false x y H Q\/∃i j,x = .str i/\y = .str j/\Q (.bl (!(Builtin.Str.occurrences j i 0 j.length 1).isEmpty)) H):=by
 refine jU.or ?_ sO;intro z s B H x y v u Q I w t h;obtain⟨d,ds,hd,c,hz,q⟩:=h;have q:Q (.bl (inD d ds)) H:=q;rcases c with⟨a,vs,e,o,l⟩|⟨a,vs,e,o,l⟩
 ·subst e;cases t;obtain⟨its,g,m⟩:=g8 I.hok o;obtain⟨r,p⟩:=w4 I.hok (A:=X.A.in1) hd w ds vs its l g (by rw[eS];lia);refine in_listAt (λy=>eqD (datOf H y) d) m (λy c=>r y (by simpa using c)) ?_;refine⟨.bl (inD d ds),H,I,?_,q⟩;show _=Value.bool _;rw[←p];simp
 ·subst e;cases t;obtain⟨its,g,m⟩:=kK I.hok o;obtain⟨r,p⟩:=w4 I.hok (A:=X.A.in1) hd w ds vs its l g (by rw[eS];lia);refine in_tupleAt (λy=>eqD (datOf H y) d) m (λy c=>r y (by simpa using c)) ?_;refine⟨.bl (inD d ds),H,I,?_,q⟩;show _=Value.bool _;rw[←p];simp
def KU (C:X.A.units+64<cLine):jU X (compareOp .NotIn) (λx y H Q=>rInD true x y H Q\/∃i j,x = .str i/\y = .str j/\Q (.bl (!(!(Builtin.Str.occurrences j i 0 j.length 1).isEmpty))) H):=by
 refine jU.or ?_ BW;intro z s B H x y v u Q I w t h;obtain⟨d,ds,hd,c,hz,q⟩:=h;have q:Q (.bl (!inD d ds)) H:=q;rcases c with⟨a,vs,e,o,l⟩|⟨a,vs,e,o,l⟩
 ·subst e;cases t;obtain⟨its,g,m⟩:=g8 I.hok o;obtain⟨r,p⟩:=w4 I.hok (A:=X.A.in1) hd w ds vs its l g (by rw[eS];lia);refine notIn_listAt (λy=>eqD (datOf H y) d) m (λy c=>r y (by simpa using c)) ?_;refine⟨.bl (!inD d ds),H,I,?_,q⟩;show _=Value.bool _;rw[←p];simp
 ·subst e;cases t;obtain⟨its,g,m⟩:=kK I.hok o;obtain⟨r,p⟩:=w4 I.hok (A:=X.A.in1) hd w ds vs its l g (by rw[eS];lia);refine notIn_tupleAt (λy=>eqD (datOf H y) d) m (λy c=>r y (by simpa using c)) ?_;refine⟨.bl (!inD d ds),H,I,?_,q⟩;show _=Value.bool _;rw[←p];simp
end
end L2
namespace L2
open PySem PySem.Spec PyProof.Rows
section
variable {X:Cx}{pins:dD}{σ:St}{H:Hp}{s:du}
noncomputable def tyN (H:Hp):V->Option String
 | .non=>some "NoneType"
 | .bl _=>some "bool"
 | .int _=>some "int"
 | .str _=>some "str"
 | .ref p=>match H p with
  | some (.lst _)=>some "list"
  | some (.tup _)=>some "tuple"
  | some (.dK _)=>some "dict"
  | _=>none
 | _=>none
noncomputable def okT (c:String):Bool:=c == "str" || c == "int" || c == "bool" || c == "list" || c == "tuple" || c == "dict"
noncomputable def subT (t c:String):Bool:=t == c || (t == "bool" && c == "int")
noncomputable def tysV:List V->Option (List String)
 | []=>some []
 | .ty n::r=>(tysV r).map (n :: ·)
 | _::_=>none
noncomputable def clsV (H:Hp):V->Option (List String)
 | .ty n=>some [n]
 | .ref p=>match H p with
  | some (.tup vs)=>tysV vs
  | _=>none
 | _=>none
noncomputable def isV (H:Hp)(x c:V):Option Bool:=match tyN H x,clsV H c with
 | some t,some d=>if d.all okT then some (d.any (subT t))else none
 | _,_=>none
def W3 {x:V}{u:dv}{t:String}(I:aM X pins σ H s)(c:aQ x u)(e:tyN H x=some t) :
  ∃HH:Heap->Prop,PySem.W.KitX X.K u (.type t) HH/\HH s.heap/\u≠.builtin "__main__.__loader__#opaque":=by
 cases x with
 | non=>cases e;cases c;exact⟨_,PySem.W.kitx_none,True.intro,λz=>nomatch z⟩
 | bl b=>cases e;cases c;exact⟨_,PySem.W.kitx_bool,True.intro,λz=>nomatch z⟩
 | int i=>cases e;obtain⟨t,rfl⟩:=c;exact⟨_,PySem.W.kitx_int,True.intro,λz=>nomatch z⟩
 | str i=>cases e;obtain⟨t,rfl⟩:=c;exact⟨_,PySem.W.kitx_str,True.intro,λz=>nomatch z⟩
 | ref p =>
  cases c;unfold tyN at e;dsimp only at e;split at e
  ·rename_i xs d;cases e;obtain⟨_,_,n,_,g⟩:=(show cK X.prog X.w H s.heap p (.lst xs)from I.hok p _ d)
   exact⟨_,PySem.W.kitx_list,⟨_,g,rfl⟩,λz=>nomatch z⟩
  ·rename_i xs d;cases e;obtain⟨_,_,_,o,g,j,_⟩:=(show cK X.prog X.w H s.heap p (.tup xs)from I.hok p _ d)
   exact⟨_,PySem.W.kitx_tuple,⟨o,g,j⟩,λz=>nomatch z⟩
  ·rename_i h d;cases e;obtain⟨_,_,vs,_,o,l,m,g,j,_⟩:=(show cK X.prog X.w H s.heap p (.dK h)from I.hok p _ d)
   exact⟨_,PySem.W.kitx_dict,⟨o,g,j.1⟩,λz=>nomatch z⟩
  ·cases e
 | _=>cases e
def UM (e:tyN H x=some t):t="NoneType"\/t="bool"\/t="int"\/t="str"\/t="list"\/t="tuple"\/t="dict":=by
 cases x with
 | non=>cases e;simp
 | bl b=>cases e;simp
 | int i=>cases e;simp
 | str i=>cases e;simp
 | ref p =>
  unfold tyN at e;dsimp only at e;split at e <;> cases e <;> simp
 | _=>cases e
def VL (e:okT c=true):c="str"\/c="int"\/c="bool"\/c="list"\/c="tuple"\/c="dict":=by simp only[okT,Bool.or_eq_true,beq_iff_eq]at e;rcases e with((((e|e)|e)|e)|e)|e <;> simp[e]
def JP {K:dq}{x:V}{t c:String}(e:tyN H x=some t)(hc:okT c=true):PySem.W.kitOne K (.type t) (.type c)=some (subT t c):=by rcases UM e with rfl|rfl|rfl|rfl|rfl|rfl|rfl <;> rcases VL hc with rfl|rfl|rfl|rfl|rfl|rfl <;> with_unfolding_all rfl
theorem JQ {K:dq}{x:V}{t:String}(e:tyN H x=some t):∀{d:List String},d.all okT=true->PySem.W.kitAny K (.type t) (d.map Value.type)=some (d.any (subT t))
 | [],_=>rfl
 | c::r,h=>by
  replace h:=Bool.and_eq_true_iff.mp (List.all_cons ▸ h)
  rw[bf];unfold PySem.W.kitAny;rw[JP e h.1];cases q:subT t c with
  | true=>simp[q]
  | false=>simp only[List.any_cons,q,Bool.false_or];exact JQ e h.2
theorem yW:∀{vs:List V} {c:List String} {us:cX},tysV vs=some c->aP vs us->us=c.map Value.type
 | [],c,us,h,r=>by cases h;cases r;rfl
 | .ty n::vs,c,us,h,r=>by
  unfold tysV at h;cases e:tysV vs with
  | none=>rw[e]at h;cases h
  | some g =>
   rw[e]at h;cases h;cases r with
   | cons r1 d =>
    cases r1;rw[bf,yW e d]
 | .non::_,_,_,h,_=>by cases h
 | .bl _::_,_,_,h,_=>by cases h
 | .int _::_,_,_,h,_=>by cases h
 | .str _::_,_,_,h,_=>by cases h
 | .byt _::_,_,_,h,_=>by cases h
 | .flt _::_,_,_,h,_=>by cases h
 | .ref _::_,_,_,h,_=>by cases h
def rIs:List V->Hp->VK->Prop:=λxs H Q=>∃x c b,xs=[x,c]/\isV H x c=some b/\Q (.bl b) H
def aK:cV X (.builtin "isinstance") rIs:=by
 intro g s z H xs us Q I r h;obtain⟨x,c,b,rfl,e,q⟩:=h;cases r with
 | cons A E =>
  cases E with
  | cons u C =>
   cases C;unfold isV at e;split at e
   ·rename_i t L m d;split at e
    ·rename_i j;cases e;obtain⟨HH,Z,v,i⟩:=W3 I A m;have fin:∀tk,EP X g z Q (.bool (L.any (subT t))) {s with toks:=tk}:=λtk=>⟨.bl _,H,I.tok tk,rfl,q⟩
     cases c with
     | ty n =>
      cases u;cases d;have l:okT n=true:=by simpa using j
      refine PySem.W.kia_one Z I.kIn v (JP m l) i ?_;intro tk;have:=fin tk
      simpa using this
     | ref p =>
      cases u;unfold clsV at d;dsimp only at d;split at d
      ·rename_i vs F;obtain⟨_,its,B,o,l,J,n,G⟩:=(show cK X.prog X.w H s.heap p (.tup vs)from I.hok p _ F)
       obtain⟨cl,P,O,N⟩:=o;cases J;cases G;have K:=yW d B;subst K;exact PySem.W.kia_tup Z I.kIn v l (JQ m j) i fin
      ·cases d
     | _=>cases d
    ·cases e
   ·cases e
noncomputable def seqV (H:Hp):V->Option (List V)
 | .ref p=>match H p with
  | some (.lst xs)=>some xs
  | some (.tup xs)=>some xs
  | _=>none
 | _=>none
def xP:cV X (.type "list") (λxs H Q=>∃x ys,xs=[x]/\seqV H x=some ys/\∀l,H l=none->Q (.ref l) (upd H l (.lst ys))):=by
 refine C1.imp λxs H Q h=>?_;obtain⟨x,ys,rfl,e,q⟩:=h;cases x with
 | ref p =>
  unfold seqV at e;dsimp only at e;split at e
  ·rename_i d c;cases e;exact⟨p,_,rfl,.inl (fL.of c),q⟩
  ·rename_i d c;cases e;exact⟨p,_,rfl,.inr (iF.of c),q⟩
  ·cases e
 | _=>cases e
def ME:cV X (.builtin "abs") (λxs H Q=>∃i,xs=[.int i]/\Q (.int (if i<0 then -i else i)) H):=PQ
def rSlF:V->Option Int->Option Int->Hp->VK->Prop:=λx lo hi H Q=>∃a,x = .ref a /\
 ((∃xs,H a=some (.lst xs)/\∀p,H p=none->Q (.ref p) (upd H p (.lst (cutV xs lo hi)))) \/
  (∃xs,H a=some (.tup xs)/\¬(HT.sIx xs.length 0 lo=0/\HT.sIx xs.length xs.length hi=xs.length)/\∀p,H p=none->Q (.ref p) (upd H p (.tup (cutV xs lo hi)))))
end
def uU (J:It)(g:TG)(j:TS)(D:jV)(d:St)(o:Hp):Prop:=∃W:Nat->Nat->St->Hp->Prop,(∃m,W 0 m d o)/\∀i m d H,W i m d H ->
 (J.stop i H/\D.nx d H)\/(J.go i H/\∃N:St->Hp->Prop,(∀c H',N c H'->∃h,h<m/\W (i+1) h c H')/\∀x H',J.yld i H x H'->g x d H' λe l=>j {D with nx:=N,ct:=N,bk:=D.nx} e l)
def tFor_eq {d:TI}{g:TG}{e:TS}{D:jV}{c:St}{H:Hp}:tFor d g e D c H=d c H λJ h=>uU J g e D c h:=rfl
def pD (J:It)(g:TG)(e:TT)(h:TE)(Q:VK)(d:St)(i:Hp):Prop:=∃W:CW,(∃m,W 0 m [] d i)/\UF J g e h (λc H=>∀p,H p=none->Q (.ref p) (upd H p (.lst c))) W
def tComp_eq {src:List (Option Nat)}{d:TI}{g:TG}{e:TT}{h:TE}{c:St}{H:Hp}{Q:VK}:tComp src d g e h c H Q=d c H λJ i=>pD J g e h Q (stC src c) i:=rfl
section
variable {X:Cx}{tg:Expr}
def iAny (K:dq)(tl:TE):TI:=λd H R=>tl d H λx c=>∃a,x = .ref a/\((∃xs,c a=some (.lst xs)/\R (UD K a) c)\/(∃xs,c a=some (.tup xs)/\R (UC K a) c))
end
section
variable {g:TG}{tb:TS}{D:jV}{σ:St}{H:Hp}{tt:TT}{te:TE}{Q:VK}{K:dq}
def gF {lo:Int}{n:Nat}(Pv:Nat->St->Hp->Prop)(h:Pv 0 c H)
  (e:∀i c H,i<n->Pv i c H->g (.int (lo+i)) c H λd j=>tb {D with nx:=Pv (i+1),ct:=Pv (i+1),bk:=D.nx} d j) (hd:∀c H,Pv n c H->D.nx c H):uU (P7 lo n) g tb D c H:=LR Pv h e hd
def LU {a:Addr}(xs:List V)(Pv:Nat->St->Hp->Prop)(j:Pv 0 c H)(h:∀i c H,i<=xs.length->Pv i c H->H a=some (.lst xs))
  (e:∀i x c H,xs[i]?=some x->Pv i c H->g x c H λd l=>tb {D with nx:=Pv (i+1),ct:=Pv (i+1),bk:=D.nx} d l) (hd:∀c H,Pv xs.length c H->D.nx c H):uU (UD K a) g tb D c H :=
 O2 Pv j (λi c H hi p=>fL.of (h i c H hi p)) e hd
def O3 {a:Addr}(xs:List V)(Pv:Nat->St->Hp->Prop)(j:Pv 0 c H)(h:∀i c H,i<=xs.length->Pv i c H->H a=some (.tup xs))
  (e:∀i x c H,xs[i]?=some x->Pv i c H->g x c H λd l=>tb {D with nx:=Pv (i+1),ct:=Pv (i+1),bk:=D.nx} d l) (hd:∀c H,Pv xs.length c H->D.nx c H):uU (UC K a) g tb D c H :=
 SJ Pv j (λi c H hi p=>iF.of (h i c H hi p)) e hd
def CStep (g:TG)(i:TT)(j:TE)(x:V)(d:List V)(h:St)(H:Hp)(N:List V->St->Hp->Prop):Prop :=
 g x h H λc m=>i c m λb e=>if b=true then j c e λy l=>d.length<sizeLine/\N (d++[y]) c l else N d c e
def rK {J:It}{n:Nat}(Pv:Nat->List V->St->Hp->Prop)(o:Pv 0 [] d H)
  (l:∀i c d H,i<n->Pv i c d H->J.go i H/\∀x H',J.yld i H x H'->CStep g tt te x c d H' (Pv (i+1)))
  (hd:∀c d H,Pv n c d H->J.stop n H/\∀p,H p=none->Q (.ref p) (upd H p (.lst c))):pD J g tt te Q d H:=by
 refine⟨λi m c d H=>m=n - i/\i<=n/\Pv i c d H,⟨n,dl,aw _,o⟩,?_⟩;rintro i m c d H ⟨rfl,hi,p⟩;by_cases h:i<n
 ·obtain⟨go,step⟩:=l i c d H h p;refine .inr ⟨go,λx H' y=>?_⟩;have e:∀c d H,(∃j,j<n - i/\j=n - (i+1)/\i+1<=n/\Pv (i+1) c d H)=Pv (i+1) c d H:=λc d H=>propext ⟨λ⟨_,_,_,_,q⟩=>q,λq=>⟨n - (i+1),dk,rfl,h,q⟩⟩;simp only[e];exact step x H' y
 ·have e:i=n:=by lia
  subst e;obtain⟨a,b⟩:=hd c d H p;exact .inl ⟨a,b⟩
def tZ {lo:Int}{n:Nat}(Pv:Nat->List V->St->Hp->Prop)(h:Pv 0 [] d H)(e:∀i c d H,i<n->Pv i c d H->CStep g tt te (.int (lo+i)) c d H (Pv (i+1)))
  (hd:∀c d H,Pv n c d H->∀p,H p=none->Q (.ref p) (upd H p (.lst c))):pD (P7 lo n) g tt te Q d H :=
 rK Pv h (λi c d H hi p=>⟨hi,λx H' y=>by obtain⟨rfl,rfl⟩:=y;exact e i c d _ hi p⟩) λc d H p=>⟨ac _,hd c d H p⟩
def IB {a:Addr}(xs:List V)(Pv:Nat->List V->St->Hp->Prop)(j:Pv 0 [] d H)(e:∀i c d H,i<=xs.length->Pv i c d H->H a=some (.lst xs))
  (h:∀i x c d H,xs[i]?=some x->Pv i c d H->CStep g tt te x c d H (Pv (i+1))) (hd:∀c d H,Pv xs.length c d H->∀p,H p=none->Q (.ref p) (upd H p (.lst c))):pD (UD K a) g tt te Q d H :=
 rK (n:=xs.length) Pv j (λi c d H hi p=>⟨⟨xs,xs[i],fL.of (e i c d H (Nat.le_of_lt hi) p),by simp[hi]⟩,λx H' y=>by obtain⟨rfl,y⟩:=y;exact h i x c d _ (y xs (fL.of (e i c d _ (Nat.le_of_lt hi) p))) p⟩)
  λc d H p=>⟨⟨xs,fL.of (e _ c d H (ac _) p),ac _⟩,hd c d H p⟩
def L4 {a:Addr}(xs:List V)(Pv:Nat->List V->St->Hp->Prop)(j:Pv 0 [] d H)(e:∀i c d H,i<=xs.length->Pv i c d H->H a=some (.tup xs))
  (h:∀i x c d H,xs[i]?=some x->Pv i c d H->CStep g tt te x c d H (Pv (i+1))) (hd:∀c d H,Pv xs.length c d H->∀p,H p=none->Q (.ref p) (upd H p (.lst c))):pD (UC K a) g tt te Q d H :=
 rK (n:=xs.length) Pv j (λi c d H hi p=>⟨⟨xs,xs[i],iF.of (e i c d H (Nat.le_of_lt hi) p),by simp[hi]⟩,λx H' y=>by obtain⟨rfl,y⟩:=y;exact h i x c d _ (y xs (iF.of (e i c d _ (Nat.le_of_lt hi) p))) p⟩)
  λc d H p=>⟨⟨xs,iF.of (e _ c d H (ac _) p),ac _⟩,hd c d H p⟩
def UK {c:TT}(Pv:St->Hp->Prop)(g:St->Hp->Nat)(q:Pv e H)
  (j:∀e H,Pv e H->∃b:Bool,(∀R:Bool->Hp->Prop,R b H->c e H R)/\(b=true->tb {D with nx:=λd H'=>Pv d H'/\g d H'<g e H,ct:=λd H'=>Pv d H'/\g d H'<g e H,bk:=D.nx} e H)/\(b=false->D.nx e H)):vV c tb D e H:=by
 refine⟨λm e H=>m=g e H/\Pv e H,⟨_,rfl,q⟩,?_⟩;rintro m e H ⟨rfl,p⟩;obtain⟨b,hc,i,o⟩:=j e H p;refine hc _ ?_;cases b with
 | true=>exact⟨_,λd H' ⟨h,l⟩=>⟨_,l,rfl,h⟩,i rfl⟩
 | false=>exact o rfl
def G4 {n:Nat}{i:Int}(d:0<=i)(c:i<n):ixN n i=some i.toNat:=by unfold ixN;rw[ai d,ai c]
def kT {c:Type}{xs:List c}{i:Int}(e:0<=i)(d:i<xs.length):atI xs i=xs[i.toNat]?:=by unfold atI;rw[G4 e d];rfl
def atI_zero {c:Type}{a:c}{xs:List c}:atI (a::xs) 0=some a:=by rw[kT ad (by simp only[aq];lia)];rfl
def atI_one {c:Type}{a b:c}{xs:List c}:atI (a::b::xs) 1=some b:=by rw[kT ad (by simp only[aq];lia)];rfl
def ixN_zero:ixN (n+1) 0=some 0:=by rw[G4 ad dk];rfl
def ixN_one:ixN (n+1+1) 1=some 1:=by rw[G4 ad dk];rfl
end
def aF.upd (h:H a=none):aF H (upd H a o):=λb u e=>by rw[aC (aD e h)];exact e
def bO (p:Addr)(H H':Hp):Prop:=∀b o,b≠p->H b=some o->H' b=some o
def bO.refl (p:Addr)(H:Hp):bO p H H:=λ_ _ _ h=>h
def bO.trans (a:bO p H H1)(b:bO p H1 H2):bO p H H2:=λc o n h=>b c o n (a c o n h)
def bO.upd (p:Addr)(H:Hp)(o:HO):bO p H (upd H p o):=λc u n h=>by rw[aC n];exact h
def bO.new (h:H a=none):bO p H (L2.upd H a o):=λc u n e=>by rw[aC (aD e h)];exact e
def aF.but (s:aF H H'):bO p H H':=λb o _ h=>s b o h
end L2
namespace L2
open PySem PySem.Spec PyProof.Rows PyProof.Rows.LSm
section
variable {X:Cx}
def t8:∀{bs:List Bool} {us:cX},aP (bs.map V.bl) us->BoolsAre us bs
 | [],_,r=>by cases r;exact .nil
 | b::bs,_,r=>by
  cases r with
  | cons r1 c=>cases r1;exact .cons b (t8 c)
def G5 {E:cM}(d:Bool){K:Bool->du->Prop}{c:Nat->(Nat->Bool)->Bool}(q:A.handled=none)(at_:s.heap.IsList p its.toArray)(h:BoolsAre its bs)
  (k:∀h' tk,(∀b x,s.heap.get? b=some x->h'.get? b=some x)->K (c bs.length λi=>(bs[i]?).getD d) {s with heap:=h',toks:=tk}) :
  wpAny (model prog w) A (pyIter (.ref p)) (λit t=>∃I fp l n P St tr,it = .ref I/\Walks prog w A I fp l n P St/\St 0 t.heap/\TruthOf prog w A P tr /\
   ∀h' tk,(∀b x,b∉l->t.heap.get? b=some x->h'.get? b=some x)->K (c n tr) {t with heap:=h',toks:=tk}) E s:=by
 have ne:p≠s.heap.objs.size:=let⟨_,e,_⟩:=id at_;bq (bc e);have g:TruthOf prog w A (λi v=>its.toArray[i]?=some v) λi=>(bs[i]?).getD d:=by intro i v t Q X m j;obtain⟨b,is,rfl⟩:=LSm.BoolsAre.get h i v (by simpa using m);have j:Q ((bs[i]?).getD d) t:=j;rw[is]at j;exact wpAny_truthy_bool j
 have len:its.toArray.size=bs.length:=(ag ..).trans (LSm.BoolsAre.length h);refine wpAny_pyIter_list at_ ⟨_,_,_,_,_,_,_,rfl,Walks.list q s.heap.objs.size p ne its.toArray,?_,g,λh' tk o=>?_⟩
 ·exact aI ⟨_,av _ rfl,rfl,rfl⟩ (at_.push _)
 ·rw[len];exact k h' tk (LSm.kept_iter o)
def rAll:List V->Hp->VK->Prop:=λxs H Q=>∃(p:Addr) (bs:List Bool),xs=[.ref p]/\H p=some (.lst (bs.map V.bl))/\Q (.bl (bs.all id)) H
def rAny:List V->Hp->VK->Prop:=λxs H Q=>∃(p:Addr) (bs:List Bool),xs=[.ref p]/\H p=some (.lst (bs.map V.bl))/\Q (.bl (bs.any id)) H
def rSum:List V->Hp->VK->Prop:=λxs H Q=>∃(p:Addr) (ns:List Int),xs=[.ref p]/\H p=some (.lst (ns.map V.int))/\Q (.int ns.sum) H
def xQ (hc:X.calm=true){g:Nat->(Nat->Bool)->Bool}{c:List Bool->Bool}(d:Bool)(is:∀bs:List Bool,g bs.length (λi=>(bs[i]?).getD d)=c bs)
  (j:∀{s:du} {x:dv} {Q E:cM},wpAny (model X.prog X.w) X.A.in1 (pyIter x) (λit t=>∃I fp l n P St tr,it = .ref I/\Walks X.prog X.w X.A.in1 I fp l n P St/\St 0 t.heap/\TruthOf X.prog X.w X.A.in1 P tr /\
   ∀h' tk,(∀b x,b∉l->t.heap.get? b=some x->h'.get? b=some x)->Q (.bool (g n tr)) {t with heap:=h',toks:=tk}) E s->wpAny (model X.prog X.w) X.A (call (.builtin nm) [x]) Q E s) :
  cV X (.builtin nm) λxs H Q=>∃(p:Addr) (bs:List Bool),xs=[.ref p]/\H p=some (.lst (bs.map V.bl))/\Q (.bl (c bs)) H:=by
 rintro h s m H _ us Q I r ⟨p,bs,rfl,v,q⟩;obtain⟨u,rfl,e⟩:=vals1 r;cases e;obtain⟨its,o,pl,_⟩:=I.list (fL.of v);refine j (G5 (K:=λb t=>EP X h m Q (.bool b) t) d (show X.A.in1.handled=none from I.ok.hd hc) pl.isList (t8 o) λh' tk z=>?_);rw[is bs];exact⟨.bl (c bs),H,I.kept (t':=tk) z,rfl,q⟩
def tH (hc:X.calm=true):cV X (.builtin "all") rAll:=xQ hc true LSm.range_all call_all_walk
def MD (hc:X.calm=true):cV X (.builtin "any") rAny:=xQ hc false LSm.range_any call_any_walk
def L9 (hc:X.calm=true):cV X (.builtin "max") (λxs H Q=>∃i j,xs=[.int i,.int j]/\Q (.int (if j > i then j else i)) H):=MA hc
def AK (hc:X.calm=true):cV X (.builtin "min") (λxs H Q=>∃i j,xs=[.int i,.int j]/\Q (.int (if j<i then j else i)) H):=L8 hc
end
end L2
namespace L2
open PySem PySem.Spec PyProof.Rows
section
variable {X:Cx}{pins:dD}{σ:St}{H:Hp}{s:du}{h':Heap}
def aM.turnedL {t':Nat}{ch:List Addr}(I:aM X pins σ H s)(k:∀b o,b∉ch->s.heap.get? b=some o->h'.get? b=some o)(g:∀b∈ch,fN X pins H b):aM X pins σ H {s with heap:=h',toks:=t'}:=by
 have d:∀b u,H b=some u->b∉ch:=λb u e z=>by rw[(g b z).1]at e;cases e
 have i:X.env.locals∉ch:=λz=>(g _ z).2.1 rfl;refine I.step (g':=s.gens) (d':=s.drawn) (ch:=ch) (λb hb=>?_) (λb o _ _ hc e _=>k b o hc e) (λb o _ _ hc e _=>⟨o.slots,k b o hc e⟩) (λ_ _ _ _ n=>n)
  (λb o hc e=>⟨o,k b o hc e⟩) (λ_ _ e=>e) (λ_ _ _ e=>e) (λb ps e=>⟨#[],by rw[e];simp⟩) (λm h=>?_) (λb u e=>?_) I.bare
 ·obtain⟨f0,f1,f2,f3,f4,j⟩:=g b hb;exact⟨f3,f1,f4,j⟩
 ·obtain⟨o,l,p,ho,r⟩:=h;exact⟨o,l,p,k _ o i ho,r⟩
 ·refine(I.hok b u e).stay (λc v hc q=>k c v ?_ q) (λ_ q=>q) λ_ _ q=>q;rcases hc with z|z
  ·rw[z];exact d b u e
  ·exact d c _ z
def aM.turnedLaid {t':Nat}{ch:List Addr}{T:Addr}{o:HO}(I:aM X pins σ H s)(k:∀b o,b∉ch->s.heap.get? b=some o->h'.get? b=some o)(i:∀b∈ch,fN X pins H b)
  (j:s.heap.objs.size<=T) (new:cK X.prog X.w (upd H T o) h' T o):aM X pins σ (upd H T o) {s with heap:=h',toks:=t'}:=by
 have g:H T=none:=I.hok.fresh j;have d:∀b u,H b=some u->b∉ch:=λb u e z=>by rw[(i b z).1]at e;cases e
 have p:X.env.locals∉ch:=λz=>(i _ z).2.1 rfl;have lt:∀b h,s.heap.get? b=some h->b≠T:=λb h e=>bq (bg (bc e) j);refine I.step (g':=s.gens) (d':=s.drawn) (ch:=ch) (λb hb=>?_) (λb o _ _ hc e _=>k b o hc e) (λb o _ _ hc e _=>⟨o.slots,k b o hc e⟩) (λb h _ e n=>by rw[aC (lt b h e)];exact n)
  (λb o hc e=>⟨o,k b o hc e⟩) (λb xs e=>by rw[aC (aD e g)];exact e) (λb _ _ e=>by rw[aC (aD e g)];exact e) (λb ps e=>⟨#[],by rw[aC (aD e g),e];simp⟩) (λm l=>?_) (λb u e=>?_) I.bare
 ·obtain⟨f0,f1,f2,f3,f4,t⟩:=i b hb;exact⟨f3,f1,f4,t⟩
 ·obtain⟨o,x,A,ho,r⟩:=l;exact⟨o,x,A,k _ o p ho,r⟩
 ·by_cases hb:b=T
  ·subst hb;rw[ec]at e;cases e;exact new
  ·rw[aC hb]at e;refine(I.hok b u e).stay (λc v hc q=>k c v ?_ q) (λc q=>by rw[aC (aD q g)];exact q) λc xs q=>by rw[aC (aD q g)];exact q
   rcases hc with z|z
   ·rw[z];exact d b u e
   ·exact d c _ z
end
def YK (K:dq)(a b:Addr):It :=
 ⟨λi H=>∃xs ys x y,fL K H a xs/\fL K H b ys/\xs[i]?=some x/\ys[i]?=some y,
  λi H z H'=>∃T x y,z = .ref T/\H T=none/\H'=upd H T (.tup [x,y])/\∀xs ys,fL K H a xs->fL K H b ys->xs[i]?=some x/\ys[i]?=some y,
  λi H=>∃xs ys,fL K H a xs/\fL K H b ys/\(xs.length<=i\/ys.length<=i)⟩
structure ZipAt (z TI TO i1 i2:Addr):Prop where
 TIz:TI≠z
 TOz:TO≠z
 i1z:i1≠z
 i2z:i2≠z
 TITO:TI≠TO
 TIi1:TI≠i1
 TIi2:TI≠i2
 TOi1:TO≠i1
 TOi2:TO≠i2
 i12:i1≠i2
section
variable {X:Cx}{elts:pV}{tk0:_}{tpos:Pos}
def iZip (K:dq)(e:TA):TI:=λd H R=>e d H λvs c=>∃a b,vs=[.ref a,.ref b]/\(∃xs,fL K c a xs)/\(∃ys,fL K c b ys)/\R (YK K a b) c
end
def WN (J:It)(g:TG)(l:TT)(o:TE)(Fin:List V->St->Hp->Prop)(W:CW):Prop:=∀i m c h H,W i m c h H ->
 (J.stop i H/\Fin c h H) \/
 (J.go i H/\∀x H',J.yld i H x H'->g x h H' λd q=>l d q λb j =>
  if b=true then o d j λy p=>c.length<sizeLine/\∃e,e<m/\W (i+1) e (c++[y]) d p else ∃e,e<m/\W (i+1) e c d j)
def YM (J:It)(g:TG)(e:TT)(h:TE)(Fin:List V->St->Hp->Prop)(c:List V)(d:St)(H:Hp):Prop:=∃W:CW,(∃m,W 0 m c d H)/\WN J g e h Fin W
def P4 (J:It)(s:TG)(j:TI)(r:TG)(o:TT)(q:TE)(Q:VK)(g:St)(z:Hp):Prop:=∃W:CW,(∃m,W 0 m [] g z)/\∀i m c g H,W i m c g H ->
 (J.stop i H/\∀p,H p=none->Q (.ref p) (upd H p (.lst c))) \/
 (J.go i H/\∀x H',J.yld i H x H'->s x g H' λd w=>j d w λt v=>YM t r o q (λe h u=>∃l,l<m/\W (i+1) l e h u) c d v)
def UU (src:List (Option Nat))(e:TI)(j:TG)(c:TI)(i:TG)(g:TT)(h:TE):TE:=λd H Q=>e d H λJ l=>P4 J j c i g h Q (stC src d) l
end L2
namespace L2
open PySem PySem.Spec PyProof.Rows
open PySem.AutoSeq1 (wpAny_loadPart')
open PySem.MeetsSeq PySem.MeetsSeq2 PySem.MeetsSeq3
noncomputable abbrev ltAsk (l b:Addr)(i:Nat):Args:=⟨[.ref l,.ref b,rawInt i,rawInt 0],[]⟩
end L2
namespace L2
open PySem PySem.Spec PyProof.Rows
section
variable {X:Cx}{pos:Pos}
def Q2 (hc:X.calm=true)(e:X.N.Nodup)(hi:X.N[i]?=some x)(g:X.N[j]?=some y)(d:X.env.scope.names.lookup x=some .local)(c:X.env.scope.names.lookup y=some .local) :
  PG X (.Tuple [.Name x px,.Name y py] k pos) (gTup X.K 2 (gCons (gName i) (gCons (gName j) gNil))) :=
 GB hc (jK (eD e hi (.inl d) (.inr d)) (jK (eD e g (.inl c) (.inr c)) BP))
end
section
variable {g g1 g2:TG}{tb:TS}{D:jV}{σ:St}{H:Hp}{tt:TT}{te:TE}{Q:VK}{K:dq}{wi2:TI}{acc:List V}{Fin:List V->St->Hp->Prop}
def tComp2_eq {src:List (Option Nat)}{d:TI}{c:St}{H:Hp}{Q:VK}:UU src d g1 wi2 g2 tt te c H Q=d c H λJ e=>P4 J g1 wi2 g2 tt te Q (stC src c) e:=rfl
end
section
variable {X:Cx}
def rN0:Prop:=False
def rNo:R2:=λx y _ _=>∃a b,x = .ref a/\y = .ref b/\rN0
def kQ (l:X.A.units+64<cLine):jU X (compareOp .Lt) (λx y H Q=>(rI0 (λi j=>.bl (decide (i<j))) x y H Q\/(∃i j,x = .str i/\y = .str j/\Q (.bl (decide (i.cps.toList<j.cps.toList))) H))\/rNo x y H Q) :=
 λc s d H x y v u Q I g e h=>(WZ.or KS) c s d H x y v u Q I g e (h.elim id λ⟨_,_,_,_,z⟩=>(show False from z).elim)
end
section
variable {H:Hp}{a p:Addr}{xs:List V}{Q:VK}{K:dq}
def rIs_eq:rIs [x,c] H Q = ∃b,isV H x c=some b/\Q (.bl b) H:=propext ⟨λ⟨d,g,b,e,h,q⟩=>by cases e;exact⟨b,h,q⟩,λ⟨b,h,q⟩=>⟨x,c,b,rfl,h,q⟩⟩
def truV_bl:TF K (.bl b) H k=(k=b):=rfl
def isV_ii:isV H (.int n) (.ty "int")=some true:=rfl
def isV_ib:isV H (.int n) (.ty "bool")=some false:=rfl
def isV_bb:isV H (.bl n) (.ty "bool")=some true:=rfl
def isV_ll (h:H a=some (.lst xs)):isV H (.ref a) (.ty "list")=some true:=by unfold isV tyN;simp only[h];rfl
def OW (h:H a=some (.lst xs))(c:H p=some (.tup [.ty "list",.ty "tuple"])):isV H (.ref a) (.ref p)=some true:=by unfold isV tyN clsV;simp only[h,c];rfl
def OV (h:H a=some (.tup xs))(c:H p=some (.tup [.ty "list",.ty "tuple"])):isV H (.ref a) (.ref p)=some true:=by unfold isV tyN clsV;simp only[h,c];rfl
def lenV_l (h:H a=some (.lst xs)):lenV H (.ref a)=some xs.length:=by unfold lenV;simp only[h]
def lenV_t (h:H a=some (.tup xs)):lenV H (.ref a)=some xs.length:=by unfold lenV;simp only[h]
def seqV_l (h:H a=some (.lst xs)):seqV H (.ref a)=some xs:=by unfold seqV;simp only[h]
def seqV_t (h:H a=some (.tup xs)):seqV H (.ref a)=some xs:=by unfold seqV;simp only[h]
def ixV_l (h:H a=some (.lst xs)):ixV H (.ref a) (.int i)=atI xs i:=by unfold ixV;simp only[h]
def ixV_t (h:H a=some (.tup xs)):ixV H (.ref a) (.int i)=atI xs i:=by unfold ixV;simp only[h]
end
section
def fB (H:Hp)(a:Addr)(xs:List V):Prop:=H a=some (.lst xs)\/H a=some (.tup xs)
def fB.same (h:fB H a xs)(s:aF H H'):fB H' a xs:=h.elim (λe=>.inl (s _ _ e)) λe=>.inr (s _ _ e)
variable {g:TG}{tt:TT}{te:TE}{Q:VK}{K:dq}{σ:St}{H:Hp}
variable {tb:TS}{D:jV}
end
section
variable {X:Cx}{pos:Pos}{tg:Expr}
def cT (K:dq)(h:X.K=K)(hc:X.calm=true)(g:X.N.Nodup)(hi:X.N[i]?=some x)(e:X.N[j]?=some y)(d:X.env.scope.names.lookup x=some .local)(c:X.env.scope.names.lookup y=some .local) :
  PG X (.Tuple [.Name x px,.Name y py] k pos) (gTup K 2 (gCons (gName i) (gCons (gName j) gNil))):=by subst h;exact Q2 hc g hi e d c
def tTruth (K:dq)(e:TE):TT:=λd H Q=>e d H λx c=>∃k,TF K x c k/\Q k c
def aT (K:dq)(g:X.K=K)(e:PE X a ta)(d:∀c,isTrue a X.env c=(do let v ←c;standAt a.pos;holding [v] (truthy v))):PT X a (tTruth K ta):=by subst g;exact ND e d
end
def TR (K:dq)(a:Addr)(xs:List V)(J:It)(H:Hp):Prop:=(J=UD K a/\H a=some (.lst xs))\/(J=UC K a/\H a=some (.tup xs))
def iSq (K:dq)(tl:TE):TI:=λd H R=>tl d H λx c=>∃a xs,x = .ref a/\fB c a xs/\∀J,TR K a xs J c->R J c
section
variable {X:Cx}{tg:Expr}
def dF (K:dq)(z:X.K=K)(w:PE X l tl):PI X tg l (iSq K tl):=by
 subst z;intro g s m H R I h;refine thn (w g s m H _ I h) λv c ⟨x,j,d,r1,t⟩=>?_;obtain⟨a,xs,e,u,q⟩:=t;subst e;cases r1;rcases u with i|i
 ·obtain⟨its,r,p,hz⟩:=d.list (fL.of i);refine wpAny_pyIter_list p.isList ?_;refine⟨c.heap.objs.size,[c.heap.objs.size],_,_,j,rfl,d.kept (t':=c.toks) λb o e=>af _ e,KA a _,⟨_,av _ rfl,rfl,rfl⟩,λb hb=>?_,q _ (.inl ⟨rfl,i⟩)⟩;have e:b=c.heap.objs.size:=by simpa using hb
  subst e;exact d.fpOk (ac _) (d.hok.fresh (ac _))
 ·obtain⟨its,r,p,hz⟩:=d.tuple (iF.of i);refine wpAny_pyIter_tuple (show c.heap.IsTuple a its.toArray from p) ?_;refine⟨c.heap.objs.size,[c.heap.objs.size],_,_,j,rfl,d.kept (t':=c.toks) λb o e=>af _ e,FV a _,⟨_,av _ rfl,rfl,rfl⟩,λb hb=>?_,q _ (.inr ⟨rfl,i⟩)⟩;have e:b=c.heap.objs.size:=by simpa using hb
  subst e;exact d.fpOk (ac _) (d.hok.fresh (ac _))
end
section
variable {g g1 g2:TG}{tb:TS}{D:jV}{σ:St}{H:Hp}{tt:TT}{te:TE}{Q:VK}{K:dq}{wi2:TI}{J:It}{a:Addr}{xs:List V}
def kL (m:TR K a xs J H)(Pv:Nat->St->Hp->Prop)(l:Pv 0 c H)(j:∀i c H',i<=xs.length->Pv i c H'->H' a=H a)
  (h:∀i x c H,xs[i]?=some x->Pv i c H->g x c H λd o=>tb {D with nx:=Pv (i+1),ct:=Pv (i+1),bk:=D.nx} d o) (hd:∀c H,Pv xs.length c H->D.nx c H):uU J g tb D c H:=by
 rcases m with⟨rfl,e⟩|⟨rfl,e⟩
 ·exact LU xs Pv l (λi c H' hi p=>(j i c H' hi p).trans e) h hd
 ·exact O3 xs Pv l (λi c H' hi p=>(j i c H' hi p).trans e) h hd
def dC (m:TR K a xs J H)(Pv:Nat->List V->St->Hp->Prop)(l:Pv 0 [] d H)(j:∀i c d H',i<=xs.length->Pv i c d H'->H' a=H a)
  (h:∀i x c d H,xs[i]?=some x->Pv i c d H->CStep g tt te x c d H (Pv (i+1))) (hd:∀c d H,Pv xs.length c d H->∀p,H p=none->Q (.ref p) (upd H p (.lst c))):pD J g tt te Q d H:=by
 rcases m with⟨rfl,e⟩|⟨rfl,e⟩
 ·exact IB xs Pv l (λi c d H' hi p=>(j i c d H' hi p).trans e) h hd
 ·exact L4 xs Pv l (λi c d H' hi p=>(j i c d H' hi p).trans e) h hd
end
def rSlU:V->Option Int->Option Int->Hp->VK->Prop:=λx lo hi H Q=>∃a xs,x = .ref a/\fB H a xs/\((∃ys,H a=some (.tup ys))->¬(HT.sIx xs.length 0 lo=0/\HT.sIx xs.length xs.length hi=xs.length)) /\
 ∀p o,H p=none->(o = .lst (cutV xs lo hi)/\H a=some (.lst xs)\/o = .tup (cutV xs lo hi)/\H a=some (.tup xs))->Q (.ref p) (upd H p o)
def l7:XB X rSlU:=by
 intro c s g H x v j i lo hi l Q I m r pl o h;obtain⟨a,xs,rfl,d|d,t,q⟩:=h
 ·exact QI c s g H _ v j i lo hi l Q I m r pl o ⟨a,xs,rfl,fL.of d,λp e=>q p _ e (.inl ⟨rfl,d⟩)⟩
 ·exact UX c s g H _ v j i lo hi l Q I m r pl o ⟨a,xs,rfl,iF.of d,t ⟨_,d⟩,λp e=>q p _ e (.inr ⟨rfl,d⟩)⟩
section
variable {H:Hp}{Q:VK}
def rEqD_ii:rEqD (.int i) (.int j) H Q=Q (.bl (decide (i=j))) H:=by
 have e:eqD (.int i) (.int j)=decide (i=j):=by show(i == j)=_;rw[cg];simp
 refine propext ⟨λ⟨d,h,g,c,_,q⟩=>?_,λq=>⟨.int i,.int j,rfl,rfl,aw _,by rw[e];exact q⟩⟩;have m:d = .int i:=aY.inj g (show aY H (.int i) (.int i)from rfl);have l:h = .int j:=aY.inj c (show aY H (.int j) (.int j)from rfl);rw[m,l,e]at q;exact q
def rNeD_ii:rNeD (.int i) (.int j) H Q=Q (.bl (!decide (i=j))) H:=by
 have e:eqD (.int i) (.int j)=decide (i=j):=by show(i == j)=_;rw[cg];simp
 refine propext ⟨λ⟨d,h,g,c,_,q⟩=>?_,λq=>⟨.int i,.int j,rfl,rfl,aw _,by rw[e];exact q⟩⟩;have m:d = .int i:=aY.inj g (show aY H (.int i) (.int i)from rfl);have l:h = .int j:=aY.inj c (show aY H (.int j) (.int j)from rfl);rw[m,l,e]at q;exact q
def rEqD_ss:rEqD (.str i) (.str j) H Q=Q (.bl (decide (i=j))) H:=by
 have e:eqD (.str i) (.str j)=decide (i=j):=by show(i == j)=_;rw[cg];simp
 refine propext ⟨λ⟨d,h,g,c,_,q⟩=>?_,λq=>⟨.str i,.str j,rfl,rfl,aw _,by rw[e];exact q⟩⟩;have m:d = .str i:=aY.inj g (show aY H (.str i) (.str i)from rfl);have l:h = .str j:=aY.inj c (show aY H (.str j) (.str j)from rfl);rw[m,l,e]at q;exact q
def rNeD_ss:rNeD (.str i) (.str j) H Q=Q (.bl (!decide (i=j))) H:=by
 have e:eqD (.str i) (.str j)=decide (i=j):=by show(i == j)=_;rw[cg];simp
 refine propext ⟨λ⟨d,h,g,c,_,q⟩=>?_,λq=>⟨.str i,.str j,rfl,rfl,aw _,by rw[e];exact q⟩⟩;have m:d = .str i:=aY.inj g (show aY H (.str i) (.str i)from rfl);have l:h = .str j:=aY.inj c (show aY H (.str j) (.str j)from rfl);rw[m,l,e]at q;exact q
def rL (c:H a=some (.lst xs))(hb:H b=some (.lst ys))(hz:xs.length+ys.length<=sizeLine):catO H (.ref a) (.ref b)=some (.lst (xs++ys)):=by unfold catO;simp only[c,hb];rw[ai hz]
def catO_i:catO H (.int i) y=none:=by cases y <;> rfl
def catO_s:catO H (.str i) y=none:=by cases y <;> rfl
end
def rTupU:List V->Hp->VK->Prop:=λxs H Q=>∃p ys,xs=[.ref p]/\fB H p ys/\∀l H',(H p=some (.tup ys)/\l=p/\H'=H\/H p=some (.lst ys)/\H l=none/\H'=upd H l (.tup ys))->Q (.ref l) H'
def fA:cV X (.type "tuple") rTupU:=by
 refine yO.imp λxs H Q h=>?_;obtain⟨p,ys,rfl,c|c,q⟩:=h
 ·exact⟨p,ys,rfl,.inl ⟨fL.of c,λl d=>q l _ (.inr ⟨c,d,rfl⟩)⟩⟩
 ·exact⟨p,ys,rfl,.inr ⟨iF.of c,q p _ (.inl ⟨c,rfl,rfl⟩)⟩⟩
def tComp_fn:tComp src wi g tt te=λc H Q=>wi c H λJ d=>pD J g tt te Q (stC src c) d:=rfl
def tFor_fn:tFor wi g tb=λD c H=>wi c H λJ d=>uU J g tb D c d:=rfl
def ite_on {a b:Prop}(e:c=true->a)(d:c=false->b):(if c=true then a else b):=by
 cases c with
 | true=>rw[ai rfl];exact e rfl
 | false=>rw[ab ad];exact d rfl
def eqIC {i j:Int}{c:St}{H:Hp}{Q:VK}(q:Q (.bl (decide (i=j))) H):tC (.int j) c H λy d=>rEqD (.int i) y d Q:=(Eq.mpr rEqD_ii q:rEqD (.int i) (.int j) H Q)
def tEqV {n:Nat}{i j:Int}{c:St}{H:Hp}{Q:VK}(h:c[n]?=some (some (.int i)))(q:Q (.bl (decide (i=j))) H):tOp rEqD (tVar n) (tC (.int j)) c H Q :=
 ⟨_,h,(Eq.mpr rEqD_ii q:rEqD (.int i) (.int j) H Q)⟩
section
variable {X:Cx}{x:Str}{C:Addr}{np cpos pos:Pos}{e:Expr}{ta:TA}{E:XK}
def tRaise (C:Addr)(E:XK)(d:TA):TS:=λ_ c H=>d c H λvs e=>vs.length<=1000/\E (.ref C) none e
end
noncomputable abbrev Cx.tr (X:Cx)(pn:dD)(E:cM):Cx:={X with pn:=pn,xe:=E}
section
variable {X:Cx}{pins:dD}{σ:St}{H:Hp}{s:du}{e:dv}
def Cx.Ok.tr (ok:X.Ok)(pn:dD)(E:cM):(X.tr pn E).Ok :=
 ⟨ok.mod,ok.kind,ok.glob,ok.blt,ok.above,ok.inj,ok.has,ok.cab,ok.hd,ok.frames,ok.stk,ok.exf,ok.bs,ok.bsz,ok.noex,ok.exfs,ok.funs,ok.frf⟩
def aM.tr (I:aM X pins σ H s)(E:cM):aM (X.tr (X.pn++pins) E) [] σ H s:=⟨I.ok.tr _ E,I.os,I.bare,I.base,I.loc,I.cell,I.free,I.freeC,λp c=>I.pin p (by simpa using c),I.hok,I.len⟩
def aM.untr {E:cM}{pl:dD}(ok:X.Ok)(I:aM (X.tr (X.pn++pins) E) pl σ H s):aM X pins σ H s:=⟨ok,I.os,I.bare,I.base,I.loc,I.cell,I.free,I.freeC,λp c=>I.pin p (cj _ c),I.hok,I.len⟩
theorem SP.untr {D:jV}{f:Flow}{d:du}{E:cM}{pl:dD}(ok:X.Ok)(h:SP (X.tr (X.pn++pins) E) pl D f d):SP X pins D f d:=by
 cases f with
 | next=>obtain⟨c,H,I,q⟩:=h;exact⟨c,H,I.untr ok,q⟩
 | brk=>obtain⟨c,H,I,q⟩:=h;exact⟨c,H,I.untr ok,q⟩
 | cont=>obtain⟨c,H,I,q⟩:=h;exact⟨c,H,I.untr ok,q⟩
 | ret v=>obtain⟨x,c,H,I,r,q⟩:=h;exact⟨x,c,H,I.untr ok,r,q⟩
end
section
variable {X:Cx}{x:Str}{C:Addr}{np hp pos:Pos}{EX:XK}{b0:Stmt}{suite body:List Stmt}{tb th:TS}
def tTry (h:TS)(EX:XK)(g:TS):TS:=λD e H=>h D e H/\∀cls d c H',EX cls d H'->g D c H'
end
def YL (K:dq)(a:Addr):It :=
 ⟨λi H=>∃xs x,fL K H a xs/\xs[i]?=some x,λi H z H'=>∃T x,z = .ref T/\H T=none/\H'=upd H T (.tup [.int i,x])/\∀xs,fL K H a xs->xs[i]?=some x,λi H=>∃xs,fL K H a xs/\xs.length<=i⟩
def iEnum (K:dq)(e:TA):TI:=λd H R=>e d H λvs c=>∃a,vs=[.ref a]/\(∃xs,fL K c a xs)/\R (YL K a) c
def kU (h:Heap)(i a:Addr)(k:Nat):Prop:=h.IsListIter i a k\/h.IsTupleIter i a k
def tL (h:Heap)(a:Addr)(xs:pU):Prop:=∃o n,h.get? a=some o/\o.data = .seq xs n
def kU.at (x:kU h i a k)(e:∀o,h.get? i=some o->h'.get? i=some o):kU h' i a k:=x.elim (λy=>.inl (y.at e)) λy=>.inr (y.at e)
def tL.at (x:tL h a xs)(e:∀o,h.get? a=some o->h'.get? a=some o):tL h' a xs:=by obtain⟨o,n,ho,hd⟩:=x;exact⟨o,n,e o ho,hd⟩
def kU.obj (x:kU h i a k):∃o,h.get? i=some o/\o.data = .fields #[.ref a,.int k 0]:=by
 rcases x with⟨o,e,_,d⟩|⟨o,e,_,d⟩
 ·exact⟨o,e,d⟩
 ·exact⟨o,e,d⟩
section
variable {prog:dw}{w:dy}{A:dz}{E:cM}{s:du}{it l:Addr}{i:Nat}{items:pU}
def oH {T id:String}{b:Builtin}{Q:cM}(kind:s.TypeIs (.ref it) T)(slot:Slot T "__next__" id)(c:entryFor table id=some b)(args:argsOk id ⟨[.ref it],[]⟩)
  (h:wpAny (model prog w) A.in1 (b ⟨[.ref it],[]⟩) (λf t=>∃v,f = .done (.ret v)/\Q v t) E s):wpAny (model prog w) A (Builtin.SmallTypes.nextOf (.ref it)) Q E s:=by
 have asked:wpAny (model prog w) A (callSpecial? (.ref it) "__next__") (λr t=>∃v,r=some v/\Q v t) E s :=
  wpAny_callSpecial?_slot kind slot (wpAny_call_entry slot kind c (thn h λf t ⟨v,e,q⟩=>⟨v,e,v,rfl,q⟩) args)
 refine aa (thn asked ?_);rintro _ t ⟨v,rfl,q⟩;exact ak q
structure nR (prog:dw)(w:dy)(A:dz)(E:cM)(s:du)(it l:Addr)(i:Nat)(items:pU):Prop where
 seq:∀(Q:cM),Q (.ref l) s->wpAny (model prog w) A (field (.ref it) 0) Q E s
 place:∀(Q:cM),Q (.int i 0) s->wpAny (model prog w) A (field (.ref it) 1) Q E s
 items:∀(Q:Option (pU)->du->Prop),Q (some items) s->wpAny (model prog w) A (seqItems? (.ref l)) Q E s
 set:∀(k:Nat) (v:dv) (Q:Unit->du->Prop),k<2->Q () {s with heap:=s.heap.update it (Obj.mapFields (·.setIfInBounds k v))}->wpAny (model prog w) A (setField (.ref it) k v) Q E s
def nR.of (ho:s.heap.get? it=some o)(hd:o.data = .fields #[.ref l,.int i 0])(e:tL s.heap l items):nR prog w A E s it l i items:=by obtain⟨ol,nl,c,d⟩:=e;exact⟨λ_ h=>wpAny_field ho hd rfl h,λ_ h=>wpAny_field ho hd rfl h,λ_ h=>wpAny_seqItems c d h,λk v _ g h=>wpAny_setField ho hd g h⟩
abbrev EY (b:Builtin):Prop:=b=Builtin.«list_iterator.__next__»\/b=Builtin.«tuple_iterator.__next__»
def tQ {Q:cM}(hb:EY b)(R:nR prog w A E s it l i items)(g:items[i]?=some x)
  (j:Q x {s with heap:=s.heap.update it (Obj.mapFields (·.setIfInBounds 1 (rawInt (i+1))))}):wpAny (model prog w) A (b ⟨[.ref it],[]⟩) (λf t=>∃v,f = .done (.ret v)/\Q v t) E s:=by
 have e:=R.seq;have r1:=R.place;have d:=R.items;have c:=λQ h=>R.set 1 (rawInt (i+1)) Q ad h;rcases hb with rfl|rfl
 all_goals
  wp_walk using e,r1,d,c
  rw[cr,g]
  wp_walk using e,r1,d,c
  exact⟨x,rfl,j⟩
def wC {Q:PySem.Fin->du->Prop}(m:A.handled=none)(hb:EY b)(R:nR prog w A E s it l i items)(j:items[i]?=none)
  (p:∀h' e,Heap.ExtBut it s.heap h'->(∃o,h'.get? e=some o/\o.cls = .type "StopIteration")->E (.ref e) {s with heap:=h'}):wpAny (model prog w) A (b ⟨[.ref it],[]⟩) Q E s:=by
 have g:=R.seq;have r1:=R.place;have d:=R.items;have c:=λQ h=>R.set 0 .none Q ad h;rcases hb with rfl|rfl
 all_goals
  wp_walk using g,r1,d,c
  rw[cr,j]
  wp_walk using g,r1,d,c
  exact wpAny_raiseNew_none m (p _ _ (((Heap.SameBut.update ..).extBut.push _).push _) ⟨_,av _ rfl,rfl⟩)
def R0 {Q:cM}(d:kU s.heap it l i)(j:tL s.heap l items)(h:items[i]?=some x)(m:∀h',kU h' it l (i+1)->Heap.SameBut it s.heap h'->Q x {s with heap:=h'}):wpAny (model prog w) A (Builtin.SmallTypes.nextOf (.ref it)) Q E s:=by
 obtain⟨o,ho,hd⟩:=d.obj;have new:(s.heap.update it (Obj.mapFields (·.setIfInBounds 1 (rawInt (i+1))))).get? it=some (o.mapFields (·.setIfInBounds 1 (rawInt (i+1)))):=Heap.get?_update_self _ ho (Obj.isFreed_of_fields (Obj.data_mapFields hd _));have data:(o.mapFields (·.setIfInBounds 1 (rawInt (i+1)))).data = .fields #[.ref l,.int (i+1:Nat) 0]:=by rw[Obj.data_mapFields hd];simp[rawInt]
 have cls:(o.mapFields (·.setIfInBounds 1 (rawInt (i+1)))).cls=o.cls:=Obj.cls_mapFields ..;have same:Heap.SameBut it s.heap (s.heap.update it (Obj.mapFields (·.setIfInBounds 1 (rawInt (i+1))))):=Heap.SameBut.update ..;rcases d with g|e
 ·obtain⟨p,c,hc,_⟩:=id g;rw[ho]at c;cases c;exact oH g.typeIs slot_listiter_next entry_listiter_next (args_listiter_next _) (tQ (.inl rfl) (nR.of ho hd j) h (m _ (.inl ⟨_,new,cls.trans hc,data⟩) same))
 ·obtain⟨p,c,hc,_⟩:=id e;rw[ho]at c;cases c;exact oH e.typeIs PySem.F.slot_tuple_iterator_next PySem.F.entry_tuple_iterator_next (PySem.F.args_tuple_iterator_next_1 _) (tQ (.inr rfl) (nR.of ho hd j) h (m _ (.inr ⟨_,new,cls.trans hc,data⟩) same))
def VM {Q:cM}(p:A.handled=none)(c:kU s.heap it l i)(g:tL s.heap l items)(d:items[i]?=none)
  (h:∀h' e,Heap.ExtBut it s.heap h'->(∃o,h'.get? e=some o/\o.cls = .type "StopIteration")->E (.ref e) {s with heap:=h'}):wpAny (model prog w) A (Builtin.SmallTypes.nextOf (.ref it)) Q E s:=by
 obtain⟨o,ho,hd⟩:=c.obj;have no:A.in1.handled=none:=p;rcases c with m|j
 ·exact oH m.typeIs slot_listiter_next entry_listiter_next (args_listiter_next _) (wC no (.inl rfl) (nR.of ho hd g) d h)
 ·exact oH j.typeIs PySem.F.slot_tuple_iterator_next PySem.F.entry_tuple_iterator_next (PySem.F.args_tuple_iterator_next_1 _) (wC no (.inr rfl) (nR.of ho hd g) d h)
end
structure WD (z TI TO i1 i2 l1 l2:Addr):Prop extends ZipAt z TI TO i1 i2 where
 n1:l1∉[z,TO,i1,i2]
 n2:l2∉[z,TO,i1,i2]
structure ZS (h0:Heap)(z TI TO i1 i2 l1 l2:Addr)(xs ys:pU)(h:Heap)(f a b:dv)(k1 k2:Nat):Prop where
 ap:WD z TI TO i1 i2 l1 l2
 zip:IsZip h z TI TO f
 tin:IsPair h TI (.ref i1) (.ref i2)
 tout:IsPair h TO a b
 one:kU h i1 l1 k1
 two:kU h i2 l2 k2
 src1:tL h l1 xs
 src2:tL h l2 ys
 far:∀c o,c∉[z,TO,i1,i2]->h0.get? c=some o->h.get? c=some o
section
variable {prog:dw}{w:dy}{A:dz}{E:cM}{s:du}{z TI TO i1 i2 l1 l2:Addr}{k1 k2:Nat}{xs ys:pU}{f a b:dv}{h0 h h':Heap}
def off4 (hc:c∉[z,TO,i1,i2]):c≠z/\c≠TO/\c≠i1/\c≠i2:=by simpa using hc
def ZS.self (Z:ZS h0 z TI TO i1 i2 l1 l2 xs ys h f a b k1 k2)(e:Heap.ExtBut z h h')(hz:IsZip h' z TI TO f'):ZS h0 z TI TO i1 i2 l1 l2 xs ys h' f' a b k1 k2 :=
 ⟨Z.ap,hz,e _ _ Z.ap.TIz Z.tin,e _ _ Z.ap.TOz Z.tout,Z.one.at λo=>e _ o Z.ap.i1z,Z.two.at λo=>e _ o Z.ap.i2z,Z.src1.at λo=>e _ o (off4 Z.ap.n1).1,Z.src2.at λo=>e _ o (off4 Z.ap.n2).1,λc o hc q=>e c o (off4 hc).1 (Z.far c o hc q)⟩
def ZS.out (Z:ZS h0 z TI TO i1 i2 l1 l2 xs ys h f a b k1 k2)(e:Heap.ExtBut TO h h')(d:IsPair h' TO a' b'):ZS h0 z TI TO i1 i2 l1 l2 xs ys h' f a' b' k1 k2 :=
 ⟨Z.ap,e _ _ Z.ap.TOz.symm Z.zip,e _ _ Z.ap.TITO Z.tin,d,Z.one.at λo=>e _ o Z.ap.TOi1.symm,Z.two.at λo=>e _ o Z.ap.TOi2.symm,Z.src1.at λo=>e _ o (off4 Z.ap.n1).2.1,Z.src2.at λo=>e _ o (off4 Z.ap.n2).2.1,λc o hc q=>e c o (off4 hc).2.1 (Z.far c o hc q)⟩
def ZS.on1 (Z:ZS h0 z TI TO i1 i2 l1 l2 xs ys h f a b k1 k2)(e:Heap.ExtBut i1 h h')(hi:kU h' i1 l1 k):ZS h0 z TI TO i1 i2 l1 l2 xs ys h' f a b k k2 :=
 ⟨Z.ap,e _ _ Z.ap.i1z.symm Z.zip,e _ _ Z.ap.TIi1 Z.tin,e _ _ Z.ap.TOi1 Z.tout,hi,Z.two.at λo=>e _ o Z.ap.i12.symm,Z.src1.at λo=>e _ o (off4 Z.ap.n1).2.2.1,Z.src2.at λo=>e _ o (off4 Z.ap.n2).2.2.1,λc o hc q=>e c o (off4 hc).2.2.1 (Z.far c o hc q)⟩
def ZS.on2 (Z:ZS h0 z TI TO i1 i2 l1 l2 xs ys h f a b k1 k2)(e:Heap.ExtBut i2 h h')(hi:kU h' i2 l2 k):ZS h0 z TI TO i1 i2 l1 l2 xs ys h' f a b k1 k :=
 ⟨Z.ap,e _ _ Z.ap.i2z.symm Z.zip,e _ _ Z.ap.TIi2 Z.tin,e _ _ Z.ap.TOi2 Z.tout,Z.one.at λo=>e _ o Z.ap.i12,hi,Z.src1.at λo=>e _ o (off4 Z.ap.n1).2.2.2,Z.src2.at λo=>e _ o (off4 Z.ap.n2).2.2.2,λc o hc q=>e c o (off4 hc).2.2.2 (Z.far c o hc q)⟩
theorem ZS.push (Z:ZS h0 z TI TO i1 i2 l1 l2 xs ys h f a b k1 k2)(o:Obj):ZS h0 z TI TO i1 i2 l1 l2 xs ys (h.push o) f a b k1 k2:=by have e:∀c x,h.get? c=some x->(h.push o).get? c=some x:=λc x q=>af o q;exact⟨Z.ap,e _ _ Z.zip,e _ _ Z.tin,e _ _ Z.tout,Z.one.at (e _),Z.two.at (e _),Z.src1.at (e _),Z.src2.at (e _),λc x hc q=>e c x (Z.far c x hc q)⟩
structure ZF (prog:dw)(w:dy)(A:dz)(E:cM)(s:du)(z TI TO i1 i2:Addr)(f a b:dv):Prop where
 f0:∀(Q:cM),Q f s->wpAny (model prog w) A (field (.ref z) 0) Q E s
 f2:∀(Q:cM),Q (.bool false) s->wpAny (model prog w) A (field (.ref z) 2) Q E s
 f3:∀(Q:cM),Q (.ref TI) s->wpAny (model prog w) A (field (.ref z) 3) Q E s
 f4:∀(Q:cM),Q (.ref TO) s->wpAny (model prog w) A (field (.ref z) 4) Q E s
 ins:∀(Q:Option (pU)->du->Prop),Q (some #[.ref i1,.ref i2]) s->wpAny (model prog w) A (seqItems? (.ref TI)) Q E s
 outs:∀(Q:Option (pU)->du->Prop),Q (some #[a,b]) s->wpAny (model prog w) A (seqItems? (.ref TO)) Q E s
 set:∀(v:dv) (Q:Unit->du->Prop),(∀h',IsZip h' z TI TO v->Heap.SameBut z s.heap h'->Q () {s with heap:=h'})->wpAny (model prog w) A (setField (.ref z) 0 v) Q E s
 put:∀(k:Nat) (v:dv) (Q:Unit->du->Prop),(∀h',IsPair h' TO (if k=0 then v else a) (if k=1 then v else b)->Heap.SameBut TO s.heap h'->Q () {s with heap:=h'})->k<2->wpAny (model prog w) A (updateSeq TO (·.setIfInBounds k v)) Q E s
def ZS.asked (Z:ZS h0 z TI TO i1 i2 l1 l2 xs ys s.heap f a b k1 k2):ZF prog w A E s z TI TO i1 i2 f a b:=by
 refine⟨λ_ q=>wpAny_field Z.zip rfl rfl q,λ_ q=>wpAny_field Z.zip rfl rfl q,λ_ q=>wpAny_field Z.zip rfl rfl q,λ_ q=>wpAny_field Z.zip rfl rfl q,λ_ q=>wpAny_seqItems Z.tin rfl q,λ_ q=>wpAny_seqItems Z.tout rfl q,λv _ q=>?_,λk v _ q c=>?_⟩
 ·exact wpAny_setField_rec Z.zip dl λh' e sb=>q h' e sb
 ·refine wpAny_updateSeq_pair Z.tout λh' e sb=>q h' ?_ sb
  match k,c with
  | 0,_=>exact e
  | 1,_=>exact e
abbrev W7 (h0:Heap)(z TI TO i1 i2 l1 l2:Addr)(xs ys:pU)(a b:dv)(k1 k2:Nat)(h:Heap):List (dv×Nat)->Prop
 | []=>∃x y,xs[k1]?=some x/\ys[k2]?=some y/\ZS h0 z TI TO i1 i2 l1 l2 xs ys h .ellipsis x y (k1+1) (k2+1)
 | [p]=>p=(.ref i2,1)/\∃x,xs[k1]?=some x/\ZS h0 z TI TO i1 i2 l1 l2 xs ys h .ellipsis x b (k1+1) k2
 | [p,q]=>p=(.ref i1,0)/\q=(.ref i2,1)/\ZS h0 z TI TO i1 i2 l1 l2 xs ys h .ellipsis a b k1 k2
 | _=>False
abbrev C8 (h:Heap)(e:Addr):Prop:=∃o,h.get? e=some o/\o.cls = .type "StopIteration"
def yR {c:Sem (Option dv)}{i l:Addr}{k:Nat}{items:pU}{Q:Option dv->du->Prop}(hd:c=(Builtin.SmallTypes.nextOf (.ref i) >>= λv=>pure (some v)))(h:A.handled=none)(it:kU s.heap i l k)(src:tL s.heap l items)(hz:IsZip s.heap z TI TO .ellipsis)(g:i≠z)
  (item:∀v h',items[k]?=some v->kU h' i l (k+1)->Heap.SameBut i s.heap h'->Q (some v) {s with heap:=h'})
  (stop:items[k]?=none->∀h' d e,Heap.ExtBut i s.heap h'->Heap.SameBut z h' d->C8 d e->E (.ref e) {s with heap:=d}) :
  wpAny (model prog w) A (c.onRaise λ_=>setField (.ref z) 0 .none) Q E s:=by
 subst hd;refine wpAny_onRaise (aa ?_);cases e:items[k]? with
 | some v=>exact R0 it src e λh' a1 a2=>ak (item v h' e a1 a2)
 | none =>
  refine VM h it src e λh' x ext ⟨o,ho,hc⟩=>?_;have zip:=ext z _ g.symm hz;have ne:x≠z:=λq=>by rw[q,zip]at ho;cases ho;exact absurd (show Value.type "zip" = .type "StopIteration" from hc) ad
  exact wpAny_setField_rec zip dl λd _ sb=>stop e h' d x ext sb ⟨o,sb.extBut x o ne ho,hc⟩
def J4 {Q:cM}(W:A.handled=none)(Z:ZS s.heap z TI TO i1 i2 l1 l2 xs ys s.heap .none a b k1 k2)
  (item:∀x y h',xs[k1]?=some x->ys[k2]?=some y->ZS s.heap z TI TO i1 i2 l1 l2 xs ys h' (rawInt s.heap.objs.size) x y (k1+1) (k2+1)->IsPair h' s.heap.objs.size x y->h'.objs.size=s.heap.objs.size+1->Q (.ref s.heap.objs.size) {s with heap:=h'})
  (stop:(xs[k1]?=none\/ys[k2]?=none)->∀h' e,(∀c o,c∉[z,TO,i1,i2]->s.heap.get? c=some o->h'.get? c=some o)->C8 h' e->E (.ref e) {s with heap:=h'}) :
  wpAny (model prog w) A (Builtin.«zip.__next__» ⟨[.ref z],[]⟩) (λf t=>∃v,f = .done (.ret v)/\Q v t) E s:=by
 have F:=Z.asked (prog:=prog) (w:=w) (A:=A) (E:=E);have g0:=F.f0;have g2:=F.f2;have g3:=F.f3;have g4:=F.f4;have gi:=F.ins;have Y:=F.set .ellipsis;obtain⟨h,g,d,tk,os⟩:=s;dsimp only at Z item stop
 wp_walk using g0,g2,g3,g4,gi,Y
 intro X O J;have Z1:=Z.self J.extBut O;have H:X.objs.size=h.objs.size:=J.1;clear F g0 g2 g3 g4 gi Y
 wp_walk using wpAny_forIn_list _ (λrest r t=>r=((none:Option PySem.Fin),())/\∃h',t=⟨h',g,d,tk,os⟩/\h'.objs.size=h.objs.size/\W7 h z TI TO i1 i2 l1 l2 xs ys a b k1 k2 h' rest) _
 case turn =>
  rintro p rest r t ⟨rfl,K,rfl,j,zr⟩
  match rest,zr with
  | [],⟨e,x,P,l⟩ =>
   subst e;refine aa (yR rfl W l.two l.src2 l.zip l.ap.i2z (λv T R N m=>?_) λno T C e ext i st=>?_)
   ·have u:=l.on2 m.extBut N;refine aa (wpAny_seqItems u.tout rfl (aa (wpAny_updateSeq_pair u.tout λC L i=>aa (wpAny_letGo (ak ?_)))));exact⟨rfl,C,rfl,by rw[i.1,m.1];exact j,x,v,P,R,u.out i.extBut L⟩
   ·exact stop (.inr no) C e (λc o hc q=>i.extBut c o (off4 hc).1 (ext c o (off4 hc).2.2.2 (l.far c o hc q))) st
  | [q],⟨e1,e2,l⟩ =>
   subst e1 e2;refine aa (yR rfl W l.one l.src1 l.zip l.ap.i1z (λv T R N m=>?_) λno T C e ext i st=>?_)
   ·have u:=l.on1 m.extBut N;refine aa (wpAny_seqItems u.tout rfl (aa (wpAny_updateSeq_pair u.tout λC L i=>aa (wpAny_letGo (ak ?_)))));exact⟨rfl,C,rfl,by rw[i.1,m.1];exact j,rfl,v,R,u.out i.extBut L⟩
   ·exact stop (.inl no) C e (λc o hc q=>i.extBut c o (off4 hc).1 (ext c o (off4 hc).2.2.1 (l.far c o hc q))) st
  | _::_::_,zr=>exact zr.elim
 case fin =>
  rintro r t ⟨rfl,K,rfl,j,x,y,P,hy,l⟩;refine aa (wpAny_seqItems l.tout rfl (aa (wpAny_newTuple ?_)));have u:=l.push {cls:=.type "tuple",data:=.seq #[x,y]};refine aa (aa (wpAny_setField_rec u.zip dl λC U i=>wpAny_setField_rec U dl λS z5 I=>ak ⟨_,rfl,?_⟩));have G:S.objs.size=h.objs.size+1:=by rw[I.1,i.1,Heap.size_push,j]
  have new:z≠K.objs.size:=bq (bc l.zip);have B:IsPair S K.objs.size x y:=I.extBut _ _ new.symm (i.extBut _ _ new.symm (av _ rfl));have Z5:=(u.self i.extBut (f':=rawInt K.objs.size) U).self I.extBut (f':=rawInt K.objs.size) z5;rw[j]at B Z5⊢;exact item x y S P hy Z5 B G
 case h=>exact⟨rfl,X,rfl,H,rfl,rfl,Z1⟩
def KL {it:Addr}{T id:String}{b:Builtin}{Q:Option dv->du->Prop}(kind:s.TypeIs (.ref it) T)(slot:Slot T "__next__" id)(c:entryFor table id=some b)(args:argsOk id ⟨[.ref it],[]⟩)
  (h:wpAny (model prog w) A.in1 (b ⟨[.ref it],[]⟩) (λf t=>∃v,f = .done (.ret v)/\Q (some v) t) (λx t=>∃e,x = .ref e/\C8 t.heap e/\Q none t) s):wpAny (model prog w) A (pyNext (.ref it)) Q E s:=by
 have asked:wpAny (model prog w) A (callSpecial? (.ref it) "__next__") (λr t=>∃v,r=some v/\Q (some v) t) (λx t=>∃e,x = .ref e/\C8 t.heap e/\Q none t) s :=
  wpAny_callSpecial?_slot kind slot (wpAny_call_entry slot kind c (thn h λf t ⟨v,e,q⟩=>⟨v,e,v,rfl,q⟩) args)
 refine aa (wpAny_attempt (wpAny_mono asked ?_ ?_))
 ·rintro _ t ⟨v,rfl,q⟩;exact ak q
 ·rintro _ t ⟨e,rfl,⟨o,ho,hc⟩,q⟩;exact aa (wpAny_isInstance ⟨o,ho,hc⟩ isSubtype_stop (ak q))
def zJ {Q:Option dv->du->Prop}(d:A.handled=none)(Z:ZS s.heap z TI TO i1 i2 l1 l2 xs ys s.heap .none a b k1 k2)
  (item:∀x y h',xs[k1]?=some x->ys[k2]?=some y->ZS s.heap z TI TO i1 i2 l1 l2 xs ys h' (rawInt s.heap.objs.size) x y (k1+1) (k2+1)->IsPair h' s.heap.objs.size x y->h'.objs.size=s.heap.objs.size+1->Q (some (.ref s.heap.objs.size)) {s with heap:=h'})
  (stop:(xs[k1]?=none\/ys[k2]?=none)->∀h',(∀c o,c∉[z,TO,i1,i2]->s.heap.get? c=some o->h'.get? c=some o)->Q none {s with heap:=h'}):wpAny (model prog w) A (pyNext (.ref z)) Q E s :=
 KL (b:=Builtin.«zip.__next__») ⟨_,Z.zip,rfl⟩ PySem.F.slot_zip_next PySem.F.entry_zip_next (PySem.F.args_zip_next_1 _) (J4 (Q:=λv t=>Q (some v) t) d Z item λno h' e far st=>⟨e,rfl,st,stop no h' far⟩)
end
def PU (h:Heap)(l:Addr)(nm:String):Prop:=(∃xs,h.IsList l xs/\nm="list_iterator")\/(∃xs,h.IsTuple l xs/\nm="tuple_iterator")
def PU.push (x:PU h l nm):PU (h.push o) l nm:=by
 rcases x with⟨xs,y,e⟩|⟨xs,y,e⟩
 ·exact .inl ⟨xs,y.push _,e⟩
 ·exact .inr ⟨xs,y.push _,e⟩
def OU {E:cM}{Q:cM}(x:PU s.heap l nm)
  (h:Q (.ref s.heap.objs.size) {s with heap:=s.heap.push {cls:=.type nm,data:=.fields #[.ref l,.int 0 0]} }):wpAny (model prog w) A (pyIter (.ref l)) Q E s:=by
 rcases x with⟨xs,y,rfl⟩|⟨xs,y,rfl⟩
 ·exact wpAny_pyIter_list y h
 ·exact wpAny_pyIter_tuple y h
def L6 {E:cM}{Q:cM}(a1:PU s.heap l1 n1)(a2:PU s.heap l2 n2)
  (k:∀h' z TI TO m j,ZipAt z TI TO m j->(∀c∈[z,TI,TO,m,j],s.heap.objs.size<=c)->IsZip h' z TI TO .none->IsPair h' TI (.ref m) (.ref j)->IsPair h' TO .none .none->kU h' m l1 0->kU h' j l2 0->(∀c o,s.heap.get? c=some o->h'.get? c=some o)->Q (.ref z) {s with heap:=h'}):wpAny (model prog w) A (call (.type "zip") [.ref l1,.ref l2]) Q E s:=by
 have made:Meets (Builtin.«zip.__new__» ⟨[.type "zip",.ref l1,.ref l2],[]⟩) (λ_ R t=>PU t.heap l1 n1/\PU t.heap l2 n2/\∀m j TI TO z B x v r,m=t.heap.objs.size->B=t.heap.push {cls:=.type n1,data:=.fields #[.ref l1,.int 0 0]} ->
   j=B.objs.size->x=B.push {cls:=.type n2,data:=.fields #[.ref l2,.int 0 0]}->TI=x.objs.size->v=x.push {cls:=.type "tuple",data:=.seq #[.ref m,.ref j]}->TO=v.objs.size->r=v.push {cls:=.type "tuple",data:=.seq #[.none,.none]}->z=r.objs.size ->
   R (.ok (.ret (.ref z))) {t with heap:=r.push {cls:=.type "zip",data:=.fields #[.none,.bool false,.bool false,.ref TI,.ref TO]} }):=by
  refine .of_wp λprog w A R t ⟨b1,b2,q⟩=>?_;have J:=sub_zip;obtain⟨h,g,d,tk,os⟩:=t;have r1:=λ(Q:cM) q=>OU (prog:=prog) (w:=w) (A:=A.in1) (E:=λe I=>R (.error e) I) (Q:=Q) b1 q;have U:=λ(Q:cM) q=>OU (prog:=prog) (w:=w) (A:=A.in1) (E:=λe I=>R (.error e) I) (Q:=Q) (s:=⟨h.push {cls:=.type n1,data:=.fields #[.ref l1,.int 0 0]},g,d,tk,os⟩) (PU.push b2) q
  wp_walk using r1,U
  exact⟨_,rfl,q _ _ _ _ _ _ _ _ _ rfl rfl rfl rfl rfl rfl rfl rfl rfl⟩
 refine callType_new PySem.F.called_zip ad (PySem.F.typeCall_zip_2 _ _) (PySem.F.newCall_zip_2 _ _) (λobj=>PySem.F.args_object_init_3 obj _ _) PySem.F.entry_zip_new made ⟨a1,a2,?_⟩;intro m j TI TO z B x v r e1 O e2 N e3 L e4 K e5;have T:B.objs.size=s.heap.objs.size+1:=by rw[O,Heap.size_push]
 have s2:x.objs.size=s.heap.objs.size+2:=by rw[N,Heap.size_push,T]
 have S:v.objs.size=s.heap.objs.size+3:=by rw[L,Heap.size_push,s2]
 have s4:r.objs.size=s.heap.objs.size+4:=by rw[K,Heap.size_push,S]
 have H:∀c o,s.heap.get? c=some o->B.get? c=some o:=λc o q=>by rw[O];exact af _ q
 have G:∀c o,B.get? c=some o->x.get? c=some o:=λc o q=>by rw[N];exact af _ q
 have C:∀c o,x.get? c=some o->v.get? c=some o:=λc o q=>by rw[L];exact af _ q
 have u:∀c o,v.get? c=some o->r.get? c=some o:=λc o q=>by rw[K];exact af _ q
 have Z:B.get? m=some {cls:=.type n1,data:=.fields #[.ref l1,.int 0 0]}:=by rw[e1,O];exact av _ rfl
 have Y:x.get? j=some {cls:=.type n2,data:=.fields #[.ref l2,.int 0 0]}:=by rw[e2,N];exact av _ rfl
 have X:v.get? TI=some {cls:=.type "tuple",data:=.seq #[.ref m,.ref j]}:=by rw[e3,L];exact av _ rfl
 have W:r.get? TO=some {cls:=.type "tuple",data:=.seq #[.none,.none]}:=by rw[e4,K];exact av _ rfl
 have p:∀c o,r.get? c=some o->(r.push {cls:=.type "zip",data:=.fields #[.none,.bool false,.bool false,.ref TI,.ref TO]}).get? c=some o:=λc o q=>af _ q;have P:IsZip (r.push {cls:=.type "zip",data:=.fields #[.none,.bool false,.bool false,.ref TI,.ref TO]}) z TI TO .none:=by rw[e5];exact av _ rfl
 have sq:∀{l i:Addr} {nm:String} {h:Heap},PU s.heap l nm->h.get? i=some {cls:=.type nm,data:=.fields #[.ref l,.int 0 0]}->kU h i l 0:=λa e=>by
  rcases a with⟨_,_,rfl⟩|⟨_,_,rfl⟩
  ·exact .inl ⟨_,e,rfl,rfl⟩
  ·exact .inr ⟨_,e,rfl,rfl⟩
 have D:ZipAt z TI TO m j:=by constructor <;> (intro q;have q:(_:Nat)=_:=q;lia)
 refine⟨⟨_,P,rfl⟩,k _ z TI TO m j D (λc hc=>?_) P (p _ _ (u _ _ X)) (p _ _ W) (sq a1 (p _ _ (u _ _ (C _ _ (G _ _ Z))))) (sq a2 (p _ _ (u _ _ (C _ _ Y)))) λc o q=>p _ _ (u _ _ (C _ _ (G _ _ (H _ _ q))))⟩;simp only[cw,List.not_mem_nil,or_false]at hc;rcases hc with q|q|q|q|q <;> (rw[q];show(_:Nat)<=_;lia)
def WK (a b:Addr):It :=
 ⟨λi H=>∃xs ys x y,fB H a xs/\fB H b ys/\xs[i]?=some x/\ys[i]?=some y,
  λi H z H'=>∃T x y,z = .ref T/\H T=none/\H'=upd H T (.tup [x,y])/\∀xs ys,fB H a xs->fB H b ys->xs[i]?=some x/\ys[i]?=some y,
  λi H=>∃xs ys,fB H a xs/\fB H b ys/\(xs.length<=i\/ys.length<=i)⟩
def fB.inj (h:fB H a xs)(k:fB H a ys):xs=ys:=by rcases h with h|h <;> rcases k with k|k <;> rw[h]at k <;> cases k <;> rfl
def aM.sq {X:Cx}{g:dD}{j:St}{H:Hp}{s:du}{a:Addr}{xs:List V}(I:aM X g j H s)(h:fB H a xs):∃its:cX,aP xs its/\tL s.heap a its.toArray/\∃nm,PU s.heap a nm:=by
 rcases h with h|h
 ·obtain⟨its,i,p,_⟩:=I.list (fL.of h);obtain⟨o,e,c,n,d⟩:=p.isList;exact⟨its,i,⟨o,n,e,d⟩,_,.inl ⟨_,p.isList,rfl⟩⟩
 ·obtain⟨its,i,p,_⟩:=I.tuple (iF.of h);have p':s.heap.IsTuple a its.toArray:=p;obtain⟨o,e,c,n,d⟩:=id p';exact⟨its,i,⟨o,n,e,d⟩,_,.inr ⟨_,p',rfl⟩⟩
def fB.some (h:fB H a xs):∃o,H a=some o:=h.elim (λe=>⟨_,e⟩) λe=>⟨_,e⟩
def TU {X:Cx}{d:dD}{C:St}{H:Hp}{s:du}{a b z TI TO h g:Addr}{i:Nat}{xs ys:List V}(I:aM X d C H s)(J:∀c∈[z,TI,TO,h,g],fN X d H c)(D:ZipAt z TI TO h g)
  (st:IsZip s.heap z TI TO .none/\IsPair s.heap TI (.ref h) (.ref g)/\(∃u v,IsPair s.heap TO u v)/\kU s.heap h a i/\kU s.heap g b i) (l:fB H a xs) (j:fB H b ys) :
  ∃its:cX,aP xs its/\tL s.heap a its.toArray/\(∃its2:cX,aP ys its2/\tL s.heap b its2.toArray)/\∀its2:cX,(aP ys its2/\tL s.heap b its2.toArray)->∃u v,ZS s.heap z TI TO h g a b its.toArray its2.toArray s.heap .none u v i i:=by
 obtain⟨its,E,p,_⟩:=I.sq l;obtain⟨its2,m,G,_⟩:=I.sq j;obtain⟨hz,w,⟨u,v,t⟩,L,K⟩:=st;have off:∀{c:Addr} {x:List V},fB H c x->c∉[z,TO,h,g]:=λ{c x} q B=>by obtain⟨o,e⟩:=q.some;rw[(J c (by simp at B⊢;rcases B with r|r|r|r <;> simp[r])).1]at e;cases e
 exact⟨its,E,p,⟨its2,m,G⟩,λA F=>⟨u,v,{toZipAt:=D,n1:=off l,n2:=off j},hz,w,t,L,K,p,F.2,λ_ _ _ e=>e⟩⟩
def J8 {P:dw}{w:dy}{K:dq}{T:pV}{tk0}{N:Pos}(a b z TI TO t m:Addr)(D:ZipAt z TI TO t m) :
  rM P w K (.Tuple T tk0 N) (WK a b) [z,TI,TO,t,m] z (λi h=>IsZip h z TI TO .none/\IsPair h TI (.ref t) (.ref m)/\(∃u v,IsPair h TO u v)/\kU h t a i/\kU h m b i) where
 mem:=by simp
 obj:=λi h st c hc=>by
  obtain⟨hz,F,⟨u,v,C⟩,h1,G⟩:=st;obtain⟨o1,e1,d1⟩:=h1.obj;obtain⟨o2,e2,d2⟩:=G.obj;simp only[cw,List.not_mem_nil,or_false]at hc;rcases hc with rfl|rfl|rfl|rfl|rfl
  ·exact⟨_,hz,λv z=>by cases z⟩
  ·exact⟨_,F,λv z=>by cases z⟩
  ·exact⟨_,C,λv z=>by cases z⟩
  ·exact⟨_,e1,λv z=>by rw[d1]at z;cases z⟩
  ·exact⟨_,e2,λv z=>by rw[d2]at z;cases z⟩
 keep:=λi h h' st k=>by obtain⟨hz,F,⟨u,v,C⟩,h1,G⟩:=st;exact⟨k z dl _ hz,k TI dl _ F,⟨u,v,k TO dl _ C⟩,h1.at λo e=>k t dl o e,G.at λo e=>k m dl o e⟩
 item:=by
  rintro X hP hw hK hc i l s σ H E I J st ⟨xs,ys,x,y,j,g,hx,hy⟩;subst hP hw hK;obtain⟨its,U,p,p',Z⟩:=TU I J D st j g;obtain⟨its2,d⟩:=p';obtain⟨u0,v0,Z⟩:=Z its2 d;refine zJ (I.ok.hd hc) Z (λu v h' S R Z' pr size=>?_) λno=>?_
  ·obtain⟨u',B,ru⟩:=U.get hx;obtain⟨v',A,Y⟩:=d.1.get hy;rw[show its.toArray[i]?=its[i]? from by simp]at S;rw[show its2.toArray[i]?=its2[i]? from by simp]at R;rw[B]at S;rw[A]at R;cases S;cases R;refine⟨_,rfl,wpAny_letOwnedTupleGo_zip (s:={s with heap:=h'}) Z'.zip λG hz2 O=>?_⟩;have L:=Z'.self O.extBut hz2;have new:z≠s.heap.objs.size:=bq (bc Z.zip);have pr2:IsPair G s.heap.objs.size u v:=O.extBut _ _ new.symm pr;have far:∀c o,c∉[z,TI,TO,t,m]->s.heap.get? c=some o->G.get? c=some o:=λc o hc e=>L.far c o (λq=>hc (by simp at q⊢;rcases q with r|r|r|r <;> simp[r])) e;have I2:aM X l σ (upd H s.heap.objs.size (.tup [x,y])) {s with heap:=G}:=I.turnedLaid (t':=s.toks) (ch:=[z,TI,TO,t,m]) far J (ac _) ⟨by show 2<=sizeLine;decide,[u,v],.cons ru (.cons Y .nil),⟨_,pr2,rfl,_,rfl⟩⟩;refine⟨.ref s.heap.objs.size,_,I2,rfl,⟨s.heap.objs.size,x,y,rfl,I.hok.fresh (ac _),rfl,λxs' ys' q1 q2=>?_⟩,⟨L.zip,L.tin,⟨u,v,L.tout⟩,L.one,L.two⟩,λc hc=>?_⟩
   ·rw[q1.inj j,q2.inj g];exact⟨hx,hy⟩
   ·have Q:∃o,s.heap.get? c=some o:=by
     simp only[cw,List.not_mem_nil,or_false]at hc;rcases hc with rfl|rfl|rfl|rfl|rfl
     ·exact⟨_,Z.zip⟩
     ·exact⟨_,Z.tin⟩
     ·exact⟨_,Z.tout⟩
     ·obtain⟨o,e,_⟩:=Z.one.obj;exact⟨o,e⟩
     ·obtain⟨o,e,_⟩:=Z.two.obj;exact⟨o,e⟩
    obtain⟨o,e⟩:=Q;rw[aC (bq (bc e))];exact(J c hc).1
  ·obtain⟨u',B,_⟩:=U.get hx;obtain⟨v',A,_⟩:=d.1.get hy;rcases no with q|q
   ·rw[show its.toArray[i]?=its[i]? from by simp,B]at q;cases q
   ·rw[show its2.toArray[i]?=its2[i]? from by simp,A]at q;cases q
 done:=by
  rintro X hP hw hK hc i l s σ H E I J st ⟨xs,ys,j,g,hd⟩;subst hP hw hK;obtain⟨its,U,p,p',Z⟩:=TU I J D st j g;obtain⟨its2,d⟩:=p';obtain⟨u0,v0,Z⟩:=Z its2 d;have e1:=U.length;have e2:=d.1.length;refine zJ (I.ok.hd hc) Z (λu v h' S R _ _ _=>?_) λ_ h' far=>⟨rfl,?_⟩
  ·obtain⟨q1,_⟩:=Array.getElem?_eq_some_iff.mp S;obtain⟨q2,_⟩:=Array.getElem?_eq_some_iff.mp R;rw[ag]at q1 q2
   lia
  ·exact I.turnedL (t':=s.toks) (ch:=[z,TI,TO,t,m]) (λc o hc e=>far c o (λq=>hc (by simp at q⊢;rcases q with r|r|r|r <;> simp[r])) e) J
 self:=λ_ _ _ _ _ st h=>wpAny_pyIter_zip st.1 h
def iZip2 (e:TA):TI:=λd H R=>e d H λvs c=>∃a b xs ys,vs=[.ref a,.ref b]/\fB c a xs/\fB c b ys/\R (WK a b) c
def QZ (K:Gl X "zip")(G:X.mg "zip" = none)(L:PA X [a,b] ta)(F:starEach [a,b] X.env=[(false,eval a X.env),(false,eval b X.env)]:=by rfl)(g:starEach [b] X.env=[(false,eval b X.env)]:=by rfl) :
  PI X (.Tuple elts tk0 tpos) (.Call (.Name "zip" p) [a,b] [] pos) (iZip2 ta):=by
 intro d s o H R I h;refine Call_ (pK I K G boot_zip (PyProof.Rows.callWith_type1 (thn (L pos d s o H _ I h) λus j ⟨vs,T,i,r1,t⟩=>?_) (by rw[F,g]) (by rw[g];rfl)));obtain⟨x,w,xs,ys,e,E,C,q⟩:=t;subst e;obtain⟨W,U,rfl,O,N⟩:=vals2 r1;cases O;cases N;obtain⟨its,Y,p1,v,B⟩:=i.sq E;obtain⟨its2,r,Z,u,A⟩:=i.sq C;refine L6 B A λh' z TI TO m l D new a1 a2 S Q P J=>?_;refine wpAny_pyIter_zip (s:={j with heap:=h'}) a1 ?_;exact⟨z,[z,TI,TO,m,l],_,_,T,rfl,i.kept (t':=j.toks) J,J8 x w z TI TO m l D,⟨a1,a2,⟨_,_,S⟩,Q,P⟩,λc hc=>i.fpOk (new c hc) (i.hok.fresh (new c hc)),q⟩
def rNeD_bb:rNeD (.bl i) (.bl j) H Q=Q (.bl (!decide (i=j))) H:=by
 have e:eqD (.bl i) (.bl j)=decide (i=j):=by cases i <;> cases j <;> rfl
 refine propext ⟨λ⟨d,h,g,c,_,q⟩=>?_,λq=>⟨.bl i,.bl j,rfl,rfl,aw _,by rw[e];exact q⟩⟩;have m:d = .bl i:=aY.inj g (show aY H (.bl i) (.bl i)from rfl);have l:h = .bl j:=aY.inj c (show aY H (.bl j) (.bl j)from rfl);rw[m,l,e]at q;exact q
def rEqD_bb:rEqD (.bl i) (.bl j) H Q=Q (.bl (decide (i=j))) H:=by
 have e:eqD (.bl i) (.bl j)=decide (i=j):=by cases i <;> cases j <;> rfl
 refine propext ⟨λ⟨d,h,g,c,_,q⟩=>?_,λq=>⟨.bl i,.bl j,rfl,rfl,aw _,by rw[e];exact q⟩⟩;have m:d = .bl i:=aY.inj g (show aY H (.bl i) (.bl i)from rfl);have l:h = .bl j:=aY.inj c (show aY H (.bl j) (.bl j)from rfl);rw[m,l,e]at q;exact q
def KD:starEach (.Dict ks vs p::es) env=(false,eval (.Dict ks vs p) env)::starEach es env:=by rw[starEach];exact λ_ _ z=>nomatch z
def qS {X:Cx}{c:pV}{p:Pos}{t:TA}(h:PA X c t):PA X (.Dict [] [] p::c) (tCons MU t):=aA qR h KD
def BZ:typeLookup (.type "list") "keys" = pure none:=am_miss_of_fast (by decide +kernel)
def CB {E:cM}{Q:Option dv->du->Prop}
  (c:s.heap.get? a=some {cls:=.type "list",dict:=none,data:=.seq xs k,slots:=sl}) (calm:A.handled=none)
  (q:∀h' tk,(∀b d,s.heap.get? b=some d->h'.get? b=some d)->Q none {s with heap:=h',toks:=tk}) :
  wpAny (model P w) A (getAttr? (.ref a) "keys") Q E s:=by
 rcases s with⟨h,i,j,tk,os⟩;have ty:∀t,(⟨h,i,j,t,os⟩:du).TypeIs (.ref a) "list":=λ_=>⟨_,c,rfl⟩
 have v:=F.slot_list_getattribute.lookup;have u:=F.slot_list_getattribute.bind (.ref a);have r:=am_list_getattr_none;have p:=sub_AttributeError;rw[getAttr?];unfold getAttrBy? getAttrBy
 repeat (any_goals (first|assumption|exact ty _|((with_reducible show wpAny _ _ (call (Value.builtin "list.__getattribute__") _ _) _ _ _);refine call_meets F.slot_list_getattribute (ty _) am_entry_list_getattribute (F.args_list_getattribute_2 _ _) (meets_getattribute_miss_list a xs k sl "keys" _ BZ ad ad) ⟨c,calm,λh' g e n=>?_⟩)|wp_step))
 obtain⟨o,m,l⟩:=n.there;dsimp only[wants];unfold getattributeRaised
 wp_walk
 exact q _ _ n.keeps
section
variable {P:dw}{w:dy}{K:Type}[DecidableEq K]{knd:KeyKind P w K}
def C6 (knd:KeyKind P w K)(h:Heap)(d it:Addr)(x:dv)(kv:K×dv):Prop :=
 ∃(q:Addr) (o:Obj) (key:dv) (n:Nat),x = .ref q/\q≠d/\q≠it/\h.get? q=some o/\(o.cls = .type "list"\/o.cls = .type "tuple")/\o.data = .seq #[key,kv.2] n/\knd.is kv.1 key=true
def C6.mono (p:C6 knd h d it x kv)(k:∀b o,b≠d->b≠it->h.get? b=some o->h'.get? b=some o):C6 knd h' d it x kv:=by obtain⟨q,o,key,n,j,e,c,i,g⟩:=p;exact⟨q,o,key,n,j,e,c,k q o e c i,g⟩
inductive T7 (knd:KeyKind P w K)(h:Heap)(d it:Addr):cX->List (K×dv)->Prop
 | nil:T7 knd h d it [] []
 | cons {x:dv} {xs:cX} {kv:K×dv} {more:List (K×dv)}:C6 knd h d it x kv->T7 knd h d it xs more->T7 knd h d it (x::xs) (kv::more)
def T7.mono (k:∀b o,b≠d->b≠it->h.get? b=some o->h'.get? b=some o)(r:T7 knd h d it xs more):T7 knd h' d it xs more:=by
 induction r with
 | nil=>exact .nil
 | cons p r c=>exact .cons (p.mono k) c
def oF:plainId "dict.update.loop" = true:=by decide +kernel
def AB:entryFor table "dict.update.loop" = some Builtin.«dict.update.loop»:=entryFor_of_fast (by kernel_rfl)
def yM {E:cM}{Q:cX->du->Prop}(e:s.heap.get? q=some o)(c:o.cls = .type "list"\/o.cls = .type "tuple")(d:o.data = .seq #[a,b] n)(h:Q [a,b] s) :
  wpAny (model P w) A (Builtin.Dict.pairItems (.ref q)) Q E s:=by
 unfold Builtin.Dict.pairItems;rcases c with c|c
 ·refine aa (wpAny_typeOf (T:="list") ⟨o,e,c⟩ ?_);rw[ai ad];exact aa (wpAny_seqItems e d (ak h))
 ·refine aa (wpAny_typeOf (T:="tuple") ⟨o,e,c⟩ ?_);rw[ai ad];exact aa (wpAny_seqItems e d (ak h))
def MN (j:it≠d)(E:l≠d)(C:l≠it):∀(m i:Nat),items.size - i=m->∀(A:dz) (R:Result->du->Prop) (s:du) (c more:List (K×dv)) (tk:Tok),
  A.handled=none->s.heap.IsListIter it l i->s.heap.IsList l items->s.heap.DictOf knd d c->T7 knd s.heap d it (items.toList.drop i) more->c.length+more.length<=sizeLine ->
  (∀h' g,h'.DictOf knd d (merged c more)->(∀b o,b≠d->b≠it->s.heap.get? b=some o->h'.get? b=some o)->R (.ok (.ret .none)) {s with heap:=h',toks:=g}) ->
  codeAny (model P w) A (.builtin "dict.update.loop" ⟨[.ref d,.ref it,.int i tk,.none],[]⟩) R s:=by
 intro m
 induction m with
 | zero =>
  intro i O A R s c more tk G st x hd u hz k;refine codeAny_builtin AB ?_;rw[Around.under_plainId oF];have hi:items[i]?=none:=by simp;lia
  have U:more=[]:=by
   have:items.toList.drop i=[]:=by simp;lia
   rw[this]at u;cases u;rfl
  subst U;unfold Builtin.«dict.update.loop»;dsimp only;refine aa (wpAny_pyNext_list_end G st x hi λh' H=>?_);dsimp only;refine aa (m:=Builtin.Dict.addKeywords d []) (ak (ak ?_));exact k h' s.toks (hd.extBut H j.symm) λb o _ hb e=>H b o hb e
 | succ m N =>
  intro i O A R s c more tk G st x hd u hz k;refine codeAny_builtin AB ?_;rw[Around.under_plainId oF];have t:i<items.size:=by lia
  have hi:items[i]?=some items[i]:=by simp[t]
  have W:items.toList.drop i=items[i]::items.toList.drop (i+1):=by simp[List.drop_eq_getElem_cons,t]
  rw[W]at u;cases u with
  | cons p rest =>
   rename_i kv more;unfold Builtin.«dict.update.loop»;dsimp only;refine aa (wpAny_pyNext_list_item st x hi λS z h=>?_);dsimp only;obtain⟨q,o,key,n,eq,J,B,T,Z,Y,L⟩:=p;rw[eq];refine aa (ck (aa (wpAny_tryCatch (yM (s:={s with heap:=S}) ((h.2 q B).trans T) Z Y ?_))));refine ck (wpAny_dictSet_pairs L (hd.sameBut h j.symm) (λQ F r=>?_) (by simp at hz;lia));have kept:∀b o,b≠d->b≠it->s.heap.get? b=some o->Q.get? b=some o:=λb o nb v e=>(r.2 b nb).trans ((h.2 b v).trans e);refine ak ⟨plainId_quiet oF _,?_⟩;have X:((i:Int)+1)=((i+1:Nat):Int):=by push_cast;rfl
   rw[X];refine N (i+1) dk A R _ (stored c kv.1 kv.2) more 0 G (z.at λo e=>(r.2 it j).trans e) (x.at λo e=>kept l o E C e) F (rest.mono kept) ?_ λh' g r1 I=>?_
   ·have:=stored_length_le c kv.1 kv.2;simp at hz;lia
   ·exact k h' g r1 λb o nb v e=>I b o nb v (kept b o nb v e)
def WE (knd:KeyKind P w K)(h:Heap)(x:dv)(kv:K×dv):Prop :=
 ∃(q:Addr) (o:Obj) (key:dv) (n:Nat),x = .ref q/\h.get? q=some o/\(o.cls = .type "list"\/o.cls = .type "tuple")/\o.data = .seq #[key,kv.2] n/\knd.is kv.1 key=true
inductive uB (knd:KeyKind P w K)(h:Heap):cX->List (K×dv)->Prop
 | nil:uB knd h [] []
 | cons {x:dv} {xs:cX} {kv:K×dv} {more:List (K×dv)}:WE knd h x kv->uB knd h xs more->uB knd h (x::xs) (kv::more)
theorem uB.at (j:h.get? d=none)(i:h.get? it=none)(k:∀b o,h.get? b=some o->h'.get? b=some o)(r:uB knd h xs more):T7 knd h' d it xs more:=by
 induction r with
 | nil=>exact .nil
 | cons p r g =>
  obtain⟨q,o,key,n,m,c,l⟩:=p;exact .cons ⟨q,o,key,n,m,λe=>(by rw[e,j]at c;cases c),λe=>(by rw[e,i]at c;cases c),k q o c,l⟩ g
def uT {E:cM}{Q:cM}
  (c:s.heap.get? l=some {cls:=.type "list",dict:=none,data:=.seq items n,slots:=sl}) (calm:A.handled=none) (z:uB knd s.heap items.toList more) (hz:more.length<=sizeLine)
  (q:∀h' tk,h'.DictOf knd s.heap.objs.size (merged [] more)->(∀b o,s.heap.get? b=some o->h'.get? b=some o)->Q (.ref s.heap.objs.size) {s with heap:=h',toks:=tk}) :
  wpAny (model P w) A (call (.type "dict") [.ref l]) Q E s:=by
 refine callType_codes (Q₁:=λv r=>v = .ref s.heap.objs.size/\r={s with heap:=s.heap.push {cls:=.type "dict",data:=.dict #[]} }) F.kt_called_dict (F.kt_typeCall_dict_1 _) F.entry_dict_init (kt_code_dict_new _ ⟨rfl,rfl⟩) ?_;rintro v r ⟨rfl,rfl⟩;have p:(s.heap.push {cls:=.type "dict",data:=.dict #[]}).DictOf knd s.heap.objs.size []:=Heap.DictOf.new s.heap;have h:=af {cls:=.type "dict",data:=.dict #[]} c;have lt:=bc c;refine⟨p.typeIs,F.args_dict_init_2 _ _,?_⟩;unfold Builtin.«dict.__init__» Builtin.Dict.selfAndRest;refine aa (aa (wpAny_notOrdered_dict p.typeIs (ak ?_)));unfold Builtin.Dict.updateCommon Builtin.Dict.updateFrom;dsimp only;refine aa (wpAny_typeOf (T:="list") ⟨_,h,rfl⟩ ?_);rw[ai ad];refine aa (CB h calm λm t1 j=>?_);rw[ai (by rfl)];have x:=j _ _ h;refine aa (wpAny_rule (aa (wpAny_pyIter_list (items:=items) ⟨_,x,rfl,_,rfl⟩ (ak ⟨plainId_quiet oF _,?_⟩))));have t:=p.keep j;have d:s.heap.objs.size<m.objs.size:=by obtain⟨o,e,_⟩:=Heap.dictOf_iff.mp t;exact bc e
 have i:∀b o,s.heap.get? b=some o->(m.push {cls:=.type "list_iterator",data:=.fields #[.ref l,.int 0 0]}).get? b=some o:=λb o e=>af _ (j b o (af _ e));refine MN (it:=m.objs.size) (l:=l) (items:=items) (Nat.ne_of_gt d) (bq lt) (bq (Nat.lt_trans lt d)) _ 0 rfl A.in1 _ _ [] more 0 calm ⟨_,av _ rfl,rfl,rfl⟩ ⟨_,i _ _ c,rfl,_,rfl⟩ (t.push _)
  (uB.at (Heap.get?_none_of_le (ac _)) (Heap.get?_none_of_le (Nat.le_of_lt d)) i z) (by simpa using hz) λh' g r1 u=>?_
 exact⟨rfl,q h' g r1 λb o e=>u b o (bq (bc e)) (bq (Nat.lt_trans (bc e) d)) (i b o e)⟩
end
noncomputable def prV (H:Hp):V->Option (V×V)
 | .ref p=>match H p with
  | some (.lst [a,b])=>some (a,b)
  | some (.tup [a,b])=>some (a,b)
  | _=>none
 | _=>none
theorem D6 {X:Cx}{h:dD}{x:St}{H:Hp}{s:du}(I:aM X h x H s):∀{ys:List V} {us:cX} {d:List (cR×V)},aP ys us->ys.map (prV H)=d.map (λkv=>some (kV kv.1,kv.2)) ->
  ∃rs:List (cR×dv),uB (bM X.prog X.w) s.heap us rs/\KV d rs
 | [],_,[],r,_=>by cases r;exact⟨[],.nil,.nil⟩
 | [],_,_::_,_,e=>by cases e
 | _::_,_,[],_,e=>by cases e
 | y::ys,_,kv::d,r,e=>by
  cases r with
  | @cons _ u _ us z r =>
   rw[bf,bf]at e;injection e with g C;obtain⟨rs,c,q⟩:=D6 I r C;cases y with
   | ref p =>
    cases z;unfold prV at g;dsimp only at g;split at g
    ·rename_i a b t;cases g;obtain⟨_,its,n,l,v⟩:=(show cK X.prog X.w H s.heap p (.lst [_,_])from I.hok p _ t)
     obtain⟨j,i,rfl,r1,m⟩:=vals2 l;exact⟨(kv.1,i)::rs,.cons ⟨p,_,j,n,rfl,v,.inl rfl,rfl,qY r1⟩ c,.cons ⟨rfl,m⟩ q⟩
    ·rename_i a b t;cases g;obtain⟨_,its,l,o,v,B,n,A⟩:=(show cK X.prog X.w H s.heap p (.tup [_,_])from I.hok p _ t)
     obtain⟨j,i,rfl,r1,m⟩:=vals2 l;exact⟨(kv.1,i)::rs,.cons ⟨p,o,j,n,rfl,v,.inr B,A,qY r1⟩ c,.cons ⟨rfl,m⟩ q⟩
    ·cases g
   | _=>cases g
def U1:List V->Hp->VK->Prop:=λxs H Q=>∃p ys c,xs=[.ref p]/\H p=some (.lst ys)/\ys.map (prV H)=c.map (λkv=>some (kV kv.1,kv.2))/\∀d,H d=none->Q (.ref d) (upd H d (.dK (gE [] c)))
def pQ (hc:X.calm=true):cV X (.type "dict") U1:=by
 intro g s v H xs us Q I r h;obtain⟨p,ys,d,rfl,m,i,q⟩:=h;obtain⟨u,rfl,j⟩:=vals1 r;cases j;obtain⟨z,its,n,l,o⟩:=(show cK X.prog X.w H s.heap p (.lst ys)from I.hok p _ m)
 obtain⟨rs,c,e⟩:=D6 I l i;have A:d.length=ys.length:=by have:=congrArg List.length i;simpa using this.symm
 have x:d.length=rs.length:=e.length;refine uT o (I.ok.hd hc) (by simpa using c) dk λh' tk t kp=>⟨.ref s.heap.objs.size,_,?_,rfl,q _ (I.hok.fresh (ac _))⟩
 have hz:(gE [] d).length<=sizeLine:=by have:=kR d [];rw[List.length_nil]at this;lia
 exact I.laid (t':=tk) kp (ac _) (xG hz (cz.mpr (Ne.symm (bq I.big))) (e.merge .nil) t)
def rDIn (c:Bool):R2:=λx y H Q=>∃a o,y = .ref a/\jW H a x o/\Q (.bl (if c then !o.isSome else o.isSome)) H
def GH (i:X.A.units+64<cLine):jU X (compareOp .NotIn) (rDIn true):=by intro c s l H x y v u Q I e d h;obtain⟨a,o,rfl,g,q⟩:=h;cases d;exact SW (aj (ca ad _) i) I g e λm j=>⟨.bl _,H,j,rfl,q⟩
def QU:V->List V->Hp->VK->Prop:=λx vs H Q=>∃(l:Addr) (xs:List V) (i:Nat) (y:V),x = .ref l/\vs=[.int i,y]/\H l=some (.lst xs)/\i<=xs.length/\xs.length<1000/\Q .non (upd H l (.lst (xs.take i++y::xs.drop i)))
theorem rY:∀{xs:List V} {us:cX} (i:Nat),aP xs us->aP (xs.take i) (us.take i)/\aP (xs.drop i) (us.drop i)
 | _,_,i,.nil=>by rw[List.take_nil,List.take_nil,List.drop_nil,List.drop_nil];exact⟨.nil,.nil⟩
 | _,_,0,.cons r t=>⟨.nil,.cons r t⟩
 | _,_,i+1,.cons r t=>⟨.cons r (rY i t).1,(rY i t).2⟩
def K7:UB X "list.insert" QU:=by
 intro g s C H x vs v us Q I o p h;obtain⟨l,xs,i,y,rfl,rfl,j,hi,hz,q⟩:=h;cases o;obtain⟨E,d,rfl,r1,u⟩:=vals2 p;obtain⟨t,rfl⟩:=r1;obtain⟨z,its,n,r,w,e⟩:=I.lstM j;obtain⟨k,hk⟩:∃k:Int,k=(i:Int):=⟨_,rfl⟩
 rw[←hk];have c:¬(!Builtin.List.listFitsIndex k)=true:=by rw[fitsIndex_both dk dk];exact Bool.false_ne_true
 have hsz:its.toArray.size<=sizeLine:=by rw[ag,←w];exact z
 refine call_meets F.slot_list_insert ⟨_,e,rfl⟩ F.entry_list_insert (F.args_list_insert_3 _ _ _) (PySem.AutoSeq1.list_insert_list_int_val_1 l its.toArray n k t d c hsz) ⟨e,?_⟩
 ·obtain⟨a1,a2⟩:=rY i r;refine⟨.non,_,I.lset (its':=its.take i++d::its.drop i) j e ?_ (a1.append (.cons u a2)) ?_,rfl,q⟩
  ·have B:¬(k<0):=by lia
   have A:min k.toNat its.toArray.size=i:=by rw[ag,hk,cr];lia
   dsimp only;rw[ab B,A];apply Array.ext';simp;exact List.take_of_length_le (by rw[bx];exact ac _)
  ·rw[au,aq,bv,bx];exact ao (m:=1000) dk ad
def X0 (K:dq)(a:Addr)(xs:List V):It :=
 ⟨λi H=>fL K H a xs/\i<xs.length,λi H x H'=>H'=H/\xs[xs.length - 1 - i]?=some x,λi H=>fL K H a xs/\i=xs.length⟩
def MS {P:dw}{w:dy}{K:dq}{J:Expr}(a it:Addr)(xs:List V):rM P w K J (X0 K a xs) [it] it (λi h=>h.IsRevIter it a ((xs.length:Int) - 1 - (i:Int))) where
 mem:=by simp
 obj:=λi h st b hb=>by
  obtain rfl:b=it:=by simpa using hb
  obtain⟨o,e,c,d⟩:=st;exact⟨o,e,λv z=>by rw[d]at z;cases z⟩
 keep:=λi h h' st k=>st.at λo e=>k it dl o e
 item:=by
  intro X r m t hc i g s C H E I l st q;subst r m t;obtain⟨G,hi⟩:=q;obtain⟨its,L,p,hz⟩:=I.list G;have F:xs[xs.length - 1 - i]?=some xs[xs.length - 1 - i]:=ay dk;obtain⟨u,O,N⟩:=L.get F;obtain⟨f0,f1,f2,f3,f4,A⟩:=l it dl;have B:(xs.length:Int) - 1 - (i:Int)=((xs.length - 1 - i:Nat):Int):=by lia
  rw[B]at st;refine wpAny_pyNext_rev_item st p.isList (x:=u) (by simpa using O) λh' j sb=>?_;have S:aM X g C H {s with heap:=h'}:=I.turned (t':=s.toks) (λb o hb e=>(sb.2 b hb).trans e) f0 f1 f3 f4 A;obtain⟨o,e,c,d⟩:=id j;refine⟨u,rfl,E3 (s:={s with heap:=h'}) e c d ad ⟨_,H,S,N,⟨rfl,F⟩,?_,λb hb=>(l b hb).1⟩⟩;have R:(xs.length:Int) - 1 - ((i+1:Nat):Int)=((xs.length - 1 - i:Nat):Int) - 1:=by lia
  rw[R];exact j
 done:=by
  intro X r m t hc i g s C H E I l st q;subst r m t;obtain⟨G,hi⟩:=q;obtain⟨f0,f1,f2,f3,f4,A⟩:=l it dl;have B:(xs.length:Int) - 1 - (i:Int) = -1:=by lia
  rw[B]at st;exact wpAny_pyNext_rev_end (I.ok.hd hc) st λh' Q=>⟨rfl,I.turned (t':=s.toks) (λb o hb e=>Q b o hb e) f0 f1 f3 f4 A⟩
 self:=λ_ _ _ _ _ st h=>wpAny_pyIter_revIter st h
def iRev (K:dq)(e:TA):TI:=λd H R=>e d H λvs c=>∃a xs,vs=[.ref a]/\c a=some (.lst xs)/\R (X0 K a xs) c
def BN (K:dq)(A:X.K=K)(x:Gl X "reversed")(w:X.mg "reversed" = none)(z:PA X [a] ta)(v:starEach [a] X.env=[(false,eval a X.env)]:=by rfl) :
  PI X tg (.Call (.Name "reversed" p) [a] [] pos) (iRev K ta):=by
 subst A;intro d s j H R I h;refine Call_ (pK I x w boot_reversed (PyProof.Rows.callWith_type1 (thn (z pos d s j H _ I h) λus c ⟨vs,C,i,r1,m⟩=>?_) v rfl));obtain⟨g,xs,e,u,q⟩:=m;subst e;obtain⟨E,rfl,B⟩:=vals1 r1;cases B;obtain⟨its,l,r,t⟩:=i.list (fL.of u);refine call_reversed_list r.isList ?_
 have st:(c.heap.push (revObj g ((its.toArray.size:Int) - 1))).IsRevIter c.heap.objs.size g ((xs.length:Int) - 1 - ((0:Nat):Int)):=⟨_,av _ rfl,rfl,by
  have e:=l.length;rw[ag,←e]
  simp[revObj]⟩
 refine wpAny_pyIter_revIter (s:={c with heap:=c.heap.push (revObj g ((its.toArray.size:Int) - 1))}) st ?_;refine⟨c.heap.objs.size,[c.heap.objs.size],_,_,C,rfl,i.kept (t':=c.toks) λb o e=>af _ e,MS g _ xs,st,λb hb=>?_,q⟩;obtain rfl:b=c.heap.objs.size:=by simpa using hb
 exact i.fpOk (ac _) (i.hok.fresh (ac _))
section
variable {g:TG}{tb:TS}{D:jV}{σ:St}{H:Hp}{K:dq}
def O4 {a:Addr}(xs:List V)(Pv:Nat->St->Hp->Prop)(s:Pv 0 c H)(r:∀i c H,i<=xs.length->Pv i c H->H a=some (.lst xs))
  (o:∀i x c H,i<xs.length->xs[xs.length - 1 - i]?=some x->Pv i c H->g x c H λh t=>tb {D with nx:=Pv (i+1),ct:=Pv (i+1),bk:=D.nx} h t) (hd:∀c H,Pv xs.length c H->D.nx c H):uU (X0 K a xs) g tb D c H:=by
 refine⟨λi m c H=>m=xs.length - i/\i<=xs.length/\Pv i c H,⟨xs.length,dl,aw _,s⟩,?_⟩;rintro i m c H ⟨rfl,hi,p⟩;have j:=fL.of (K:=K) (r i c H hi p);by_cases d:i<xs.length
 ·refine .inr ⟨⟨j,d⟩,Pv (i+1),λl H' q=>⟨xs.length - (i+1),dk,rfl,d,q⟩,λz H' y=>?_⟩;obtain⟨rfl,q⟩:=y;exact o i z c _ d q p
 ·have e:i=xs.length:=by lia
  subst e;exact .inl ⟨⟨j,rfl⟩,hd c H p⟩
end
noncomputable def revT {c:Type}(xs:List c):List c:=(xs.drop 1).reverse
def zD {c:Type}(x:c)(xs:List c):revT (x::xs)=xs.reverse:=rfl
def PR (k:Nat):(List.range k).map (λm=>k - m)=((List.range k).map (λm=>1+m)).reverse:=by
 apply List.ext_getElem
 ·simp
 ·intro i d c;simp at d c⊢
  lia
def AR (its:cX)(k:Nat)(h:its.length=k+1):(List.range k).filterMap (λm=>its.toArray[k - m]?)=(its.drop 1).reverse:=by
 have e:(List.range k).filterMap (λm=>its.toArray[k - m]?)=((List.range k).map (λm=>k - m)).filterMap (λj=>its.toArray[j]?):=by rw[List.filterMap_map];rfl
 rw[e,PR,List.filterMap_reverse];have:=pick_run its.toArray 1 k;rw[this];congr 1;rw[List.take_of_length_le];rw[bx];simp
 lia
def KO (its:cX)(h:its≠[]):slicePick its.toArray none (some 0) (some (-1))=(revT its).toArray:=by
 obtain⟨k,hk⟩:∃k,its.length=k+1:=⟨its.length - 1,by have:=List.length_pos_iff.mpr h;lia⟩
 unfold slicePick;rw[ag,hk];have e:sliceBounds none (some 0) (some (-1)) (k+1)=((k:Int),0,-1):=by
  simp only[sliceBounds,Option.getD_some];refine Prod.ext ?_ (Prod.ext ?_ rfl)
  ·simp
  ·simp <;> lia
 rw[e];have g:sliceRange (k:Int) 0 (-1)=(List.range k).map λm=>k - m:=by
  unfold sliceRange;have c:(if (-1:Int) > 0 then(if (k:Int)<0 then(0 - (k:Int) + -1 - 1) / -1 else 0)else(if (k:Int) > 0 then((k:Int) - 0 - -1 - 1) / (- -1)else 0)).toNat=k:=by
   rw[ab ad];split
   ·have:((k:Int) - 0 - -1 - 1) / (- -1)=k:=by rw[show(- -1:Int)=1 from rfl,Int.ediv_one];lia
    rw[this];lia
   ·lia
  dsimp only;rw[c];refine List.map_congr_left λm d=>?_;have:=List.mem_range.mp d
  lia
 dsimp only;rw[g,List.filterMap_map];have:=AR its k hk;unfold revT;rw[←this];rfl
def C5 {prog:dw}{w:dy}{A:dz}{E:cM}{s:du}{j:Addr}{i e g:dv}{n:Nat}{Q:Int×Int×Nat->du->Prop}(m:s.heap.IsSliceOf j i e g)(pl:IsPart i none)(l:IsPart e (some 0))(pt:IsPart g (some (-1)))(r:1<=n)
  (h:Q ((n:Int) - 1,-1,n - 1) s):wpAny (model prog w) A (Builtin.Slice.sliceApplied (.ref j) (pure (n:Int))) Q E s:=by
 obtain⟨os,c,o,d⟩:=id m;unfold Builtin.Slice.sliceApplied Builtin.Slice.sliceFields;refine aa (aa (wpAny_field c d (x:=i) rfl (aa (wpAny_field c d (x:=e) rfl (aa (wpAny_field c d (x:=g) rfl (ak ?_)))))));refine aa (HT.slicePart_ pt ?_);show wpAny _ _ (if ((-1:Int) == 0)=true then _ else _) _ _ s;rw[ab ad];refine aa (HT.slicePart_ pl (aa (HT.slicePart_ l (aa (ak ?_)))));have q:Builtin.Slice.sliceAdjust none (some 0) (-1) (n:Int)=((n:Int) - 1,0):=by
  unfold Builtin.Slice.sliceAdjust;refine Prod.ext ?_ ?_
  ·simp
  ·simp
   lia
 have p:Builtin.Slice.slicePlaces ((n:Int) - 1) 0 (-1)=n - 1:=by
  unfold Builtin.Slice.slicePlaces;rw[ab ad];split
  ·rw[show(- -1:Int)=1 from rfl,Int.ediv_one];lia
  ·lia
 show wpAny _ _ (match Builtin.Slice.sliceAdjust none (some 0) (-1) (n:Int)with|(lo,hi)=>pure (lo,(-1:Int),Builtin.Slice.slicePlaces lo hi (-1))) _ _ s;rw[q];show wpAny _ _ (pure ((n:Int) - 1,(-1:Int),Builtin.Slice.slicePlaces ((n:Int) - 1) 0 (-1))) _ _ s;rw[p];exact ak h
def FX {E:cM}{Q:cM}(c:IsTup s.heap t its.toArray)(j:s.heap.IsSliceOf sl vl vu vt)(pl:IsPart vl none)(l:IsPart vu (some 0))(pt:IsPart vt (some (-1)))(o:its≠[])(hz:its.length<=sizeLine)
  (h:Q (.ref s.heap.objs.size) {s with heap:=s.heap.push {cls:=.type "tuple",data:=.seq (revT its).toArray} }):wpAny (model prog w) A (getItem (.ref t) (.ref sl)) Q E s:=by
 obtain⟨k,hk⟩:∃k,its.length=k+1:=⟨its.length - 1,by have:=List.length_pos_iff.mpr o;lia⟩
 obtain⟨os,d,g,p⟩:=id j;have i:s.TypeIs (.ref sl) "slice":=⟨os,d,g⟩
 unfold getItem
 try with_reducible refine ck ?_
 first|refine aa (ak ?_)|skip
 refine aa (wpAny_sequenceKey c.typeIs ad ?_)
 refine aa (wpAny_callSpecial?_slot (name:=Str.ofString "__getitem__") c.typeIs PyProof.Rows.slot_tuple_getitem
  (wpAny_call_entry PyProof.Rows.slot_tuple_getitem c.typeIs entry_tuple_getitem ?_ (args_tuple_getitem _ _)))
 show wpAny _ _ (Builtin.Tuple.tupleItemsOf (.ref t) >>= _) _ _ s;refine aa (tupleItemsOf_ c ?_);refine aa (wpAny_typeOf i ?_);rw[ai ad];refine aa (C5 (n:=its.toArray.size) j pl l pt (by rw[ag];lia) ?_);dsimp only;rw[ab (by intro q;rw[Bool.and_eq_true,Bool.and_eq_true]at q;exact absurd q.1.2 ad)];have e:((List.range (its.toArray.size - 1)).filterMap λ(m:Nat)=>its.toArray[(((its.toArray.size:Nat):Int) - 1+(m:Int) * -1).toNat]?).toArray=(revT its).toArray:=by
  rw[ag,hk];have q:=AR its k hk;unfold revT;rw[←q];congr 2;funext m;congr 1
  lia
 rw[e];have hsz:sizeOk (.seq (revT its).toArray):=by
  show(revT its).toArray.size<=sizeLine;rw[ag];unfold revT;rw[List.length_reverse,bx]
  lia
 first
  | exact aa (m:=Builtin.Tuple.tupleExact _) (ci (ak ⟨_,rfl,ak h⟩) hsz)
  | exact aa (m:=Builtin.Tuple.tupleExact _) (ci (aa (ak (ak ⟨_,rfl,ak h⟩))) hsz)
  | exact aa (aa (m:=Builtin.Tuple.tupleExact _) (ci (ak (ak ⟨_,rfl,ak h⟩)) hsz))
  | exact aa (aa (m:=Builtin.Tuple.tupleExact _) (ci (ak ⟨_,rfl,ak h⟩) hsz))
def XC (X:Cx)(r:V->Option Int->Option Int->Option Int->Hp->VK->Prop):Prop :=
 ∀(c:dD) (s:du) (σ:St) (H:Hp) (x:V) (v vl vu vt:dv) (lo hi st:Option Int) (sl:Addr) (Q:VK),aM X c σ H s->aQ x v->s.heap.IsSliceOf sl vl vu vt->IsPart vl lo->IsPart vu hi->IsPart vt st->r x lo hi st H Q ->
  ∃T id,typeLookup (.type T) "__getitem__" = pure (some (.builtin id))/\s.TypeIs v T/\wpAny (model X.prog X.w) X.A (getItem v (.ref sl)) (EP X c σ Q) X.xe s
def tSl3 (r:V->Option Int->Option Int->Option Int->Hp->VK->Prop)(g:TE)(tl e d:TO):TE:=λc H Q=>g c H λx m=>tl c m λl j=>e c j λu i=>d c i λt h=>r x l u t h Q
def zG {X:Cx}{e:Expr}{z:TE}{lo hi:Option Expr}{st:Expr}{tl w p:TO}{i L:Pos}{r:V->Option Int->Option Int->Option Int->Hp->VK->Prop}(R:XC X r)(W:PE X e z)(S:PO X lo tl)(O:PO X hi w)(P:PO X (some st) p):PE X (.Subscript e (.Slice lo hi (some st) L) i) (tSl3 r z tl w p):=by intro c s d H Q I h;refine Subscript_ (thn (W c s d H _ I h) λv C ⟨x,H1,I1,r1,J⟩=>?_);refine wpAny_Slice (thn (S c C d H1 _ I1 J) λo s2 ⟨l,H2,I2,pl,G⟩=>thn (O c s2 d H2 _ I2 G) λj B ⟨u,H3,I3,K,F⟩=>thn (P c B d H3 _ I3 F) λm g ⟨t,A,I4,pt,E⟩=>?_);have Z:aM X c d A {g with heap:=g.heap.push {cls:=.type "slice",data:=.fields #[o,j,m]} }:=I4.kept (t':=g.toks) λb ob q=>af _ q;obtain⟨T,id,Y,N,U⟩:=R c _ d A x v o j m l u t g.heap.objs.size Q Z r1 (Heap.IsSliceOf.new ..) pl K pt E;exact tail_any (ops:=[v,.ref g.heap.objs.size]) N Y U (by with_unfolding_all rfl)
def rBack:V->Option Int->Option Int->Option Int->Hp->VK->Prop:=λx lo hi st H Q=>lo=none/\hi=some 0/\st=some (-1)/\∃a xs,x = .ref a/\fB H a xs/\xs≠[] /\
 ∀p o,H p=none->(o = .lst (revT xs)/\H a=some (.lst xs)\/o = .tup (revT xs)/\H a=some (.tup xs))->Q (.ref p) (upd H p o)
def aP.revT (h:aP xs us):aP (revT xs) (L2.revT us):=(h.drop 1).reverse
def DW {c:Type}(xs:List c):(revT xs).length<=xs.length:=by unfold revT;rw[List.length_reverse,bx];lia
def IL (h:aP xs us)(n:xs≠[]):us≠[]:=λz=>by have:=h.length;rw[z]at this;exact n (List.length_eq_zero_iff.mp this)
def I8:XC X rBack:=by
 intro j s t H x v z u w lo hi st A Q I g l pl i pt h;obtain⟨rfl,rfl,rfl,a,xs,rfl,e|e,m,q⟩:=h
 ·cases g;obtain⟨its,r,d,hz⟩:=I.list (fL.of e);refine⟨"list",_,slot_list_getitem.lookup,d.isList.typeIs,?_⟩;have c:=r.length;refine wpAny_getItem_list_slice d.isList l pl i pt ad ?_ (by rw[ag] <;> lia);rw[KO its (IL r m)];refine⟨.ref s.heap.objs.size,_,I.laid (t':=s.toks) (o:=.lst (revT xs)) (λb p q=>af _ q) (ac _) ?_,rfl,q _ _ (I.hok.fresh (ac _)) (.inl ⟨rfl,e⟩)⟩;exact⟨ao (DW xs) hz,_,0,r.revT,av _ rfl⟩
 ·cases g;obtain⟨its,r,d,hz⟩:=I.tuple (iF.of e);refine⟨"tuple",_,PyProof.Rows.slot_tuple_getitem.lookup,d.typeIs,?_⟩;have c:=r.length;refine FX d l pl i pt (IL r m) dk ?_;refine⟨.ref s.heap.objs.size,_,I.laid (t':=s.toks) (o:=.tup (revT xs)) (λb p q=>af _ q) (ac _) ?_,rfl,q _ _ (I.hok.fresh (ac _)) (.inr ⟨rfl,e⟩)⟩;exact⟨ao (DW xs) hz,_,r.revT,⟨_,av _ rfl,rfl,_,rfl⟩⟩
def rExtU:V->List V->Hp->VK->Prop:=λx vs H Q=>∃l b xs c,x = .ref l/\vs=[.ref b]/\H l=some (.lst xs)/\fB H b c/\xs.length+c.length<=sizeLine/\Q .non (upd H l (.lst (xs++c)))
def SU (e:(!its.isEmpty && Builtin.List.listTooLong (its.size+its2.size))=false)(o:its.size<=sizeLine)(m:its.size+its2.size<=sizeLine+1) :
  Meets (Builtin.«list.extend» ⟨[.ref l,.ref b],[]⟩) (λ_ R s=>s.heap.get? l=some {cls:=.type "list",data:=.seq its n}/\s.heap.get? b=some ⟨.type "tuple",od,.seq its2 n2,osl⟩ /\
   R (.ok (.ret .none)) {s with heap:=s.heap.update l (Obj.mapSeq λx=>x++its2)}):=by
 refine .of_wp λprog w A R i h=>?_;obtain⟨p,g,d,tk,os⟩:=i;obtain⟨c,hb,h⟩:=h;have e:¬(!its.isEmpty && Builtin.List.listTooLong (its.size+its2.size))=true:=by rw[e];decide
 have f1:=AutoSeq1.idx_int;have f4:=AutoSeq1.sub_tuple_list;have q:=AutoSeq1.sub_list_tuple;have j:(its++its2).size<=sizeLine+1:=by rw[Array.size_append];exact m
 wp_walk using (wpAny_updateSeq c rfl (hz:=o) (_hz':=j)),
  bh c,bh hb
 exact⟨_,rfl,h⟩
def B3:UB X "list.extend" rExtU:=by
 intro c s w H x vs v us Q I i j h;obtain⟨l,b,xs,A,p,t,d,g|g,hz,q⟩:=h
 ·exact K8 c s w H x vs v us Q I i j ⟨l,b,xs,A,p,t,d,g,hz,q⟩
 subst p t;cases i;obtain⟨u,rfl,B⟩:=j.one;cases B;obtain⟨z,its,n,r,O,e⟩:=I.lstM d;obtain⟨its2,o,⟨⟨N,od,C,osl⟩,G,K,n2,J⟩,L⟩:=I.tuple (iF.of g);cases K;cases J;have E:=o.length;have hsz:its.toArray.size+its2.toArray.size<=sizeLine:=by rw[ag,ag];lia
 have m:=SU (l:=l) (b:=b) (its:=its.toArray) (its2:=its2.toArray) (n:=n) (n2:=n2) (od:=od) (osl:=osl) (by rw[wM hsz,Bool.and_false]) (by rw[ag];lia) dk;refine call_meets F.slot_list_extend ⟨_,e,rfl⟩ F.entry_list_extend (F.args_list_extend_2 _ _) m ⟨e,G,?_⟩;refine⟨.non,_,I.lset (its':=its++its2) d e dl (r.append o) ?_,rfl,q⟩;rw[au]
 lia
noncomputable def tl1 (z:Str):Str:=⟨(z.cps.toList.drop 1).toArray⟩
def rSlTx:V->Option Int->Option Int->Hp->VK->Prop:=λx lo hi H Q=>∃z,x = .str z/\lo=some 1/\hi=none/\1<=z.length/\z.length<=sizeLine/\Q (.str (tl1 z)) H
def KN (z:Str)(h:1<=z.length)(u:Tok):slicePicked z (some (1,u)) none none=(List.range (z.length - 1)).map λm=>1+m:=by
 show Builtin.Str.strSliceIndices (some 1) none 1 z.length=_;unfold Builtin.Str.strSliceIndices;dsimp only;rw[ab (show ¬(1:Int)<0 by decide),ai (show(1:Int) > 0 by decide),ai (show(1:Int) > 0 by decide)];have e:max 0 (min 1 (z.length:Int))=1:=by lia
 rw[e];unfold sliceRange;dsimp only;rw[ai ad];have c:(if (1:Int)<(z.length:Int)then((z.length:Int) - 1+1 - 1) / 1 else 0).toNat=z.length - 1:=by
  split
  ·rw[Int.ediv_one];lia
  ·lia
 rw[c];refine List.map_congr_left λm _=>?_
 lia
def UW:XB X rSlTx:=by
 intro c s p H x v A r lo hi B Q I d i pl g h;obtain⟨z,rfl,rfl,rfl,o,hz,q⟩:=h;obtain⟨t,rfl⟩:=d;cases pl;rename_i tk;cases g;refine⟨"str",_,F.slot_str_getitem.lookup,typeIs_str _ _ _,?_⟩;refine wpAny_getItem_str_slice (l:=some (1,tk)) (u:=none) (st:=none) i rfl ?_;have j:=KN z o tk;unfold sliceMade;rw[j,ab (by intro w;rw[Bool.and_eq_true]at w;have:=eq_of_beq w.2;simp at this;lia)];have e:(((List.range (z.length - 1)).map λm=>1+m).filterMap (z.cps[·]?)).toArray=(z.cps.toList.drop 1).toArray:=by have:=pick_run z.cps 1 (z.length - 1);rw[this];congr 1;rw[List.take_of_length_le];rw[bx,br];exact ac _
 rw[e];refine⟨?_,.str (tl1 z),H,I.tok _,⟨_,rfl⟩,q⟩;show(z.cps.toList.drop 1).toArray.size<=sizeLine;have hd:(z.cps.toList.drop 1).length=z.cps.size - 1:=by simp
 rw[ag,hd];exact ao (Nat.sub_le _ _) hz
def XZ (z:Str):It:=⟨λi _=>i<z.cps.size,λi H x H'=>H'=H/\∃c,z.cps[i]?=some c/\x = .str ⟨#[c]⟩,λi _=>i=z.cps.size⟩
def MR {P:dw}{w:dy}{K:dq}{G:Expr}(it:Addr)(z:Str)(t:Tok):rM P w K G (XZ z) [it] it (λi h=>h.IsStrIter it "str_ascii_iterator" z t i) where
 mem:=by simp
 obj:=λi h st b hb=>by
  obtain rfl:b=it:=by simpa using hb
  obtain⟨o,e,c,d⟩:=st;exact⟨o,e,λv q=>by rw[d]at q;cases q⟩
 keep:=λi h h' st k=>by obtain⟨o,e,r⟩:=st;exact⟨o,k it dl o e,r⟩
 item:=by intro X A p B hc i g s F H E I m st l;subst A p B;obtain⟨f0,f1,f2,f3,f4,C⟩:=m it dl;have W:=Walks.strAscii (prog:=X.prog) (w:=X.w) (I.ok.hd hc) it z t;refine W.item i s _ _ l st λv h' tk L j J=>?_;obtain⟨c,u,x,rfl⟩:=L;have Q:aM X g F H {s with heap:=h',toks:=tk}:=I.turned (λb o hb e=>J b o (by simpa using hb) e) f0 f1 f3 f4 C;obtain⟨o,e,O,d⟩:=id j;exact⟨_,rfl,E3 (s:={s with heap:=h',toks:=tk}) e O d ad ⟨.str ⟨#[c]⟩,H,Q,⟨u,rfl⟩,⟨rfl,c,x,rfl⟩,j,λb hb=>(m b hb).1⟩⟩
 done:=by intro X A p B hc i g s F H E I m st l;subst A p B;obtain⟨f0,f1,f2,f3,f4,C⟩:=m it dl;have l:i=z.cps.size:=l;subst l;exact wpAny_pyNext_ascii_end (I.ok.hd hc) st dl λh' N=>⟨rfl,I.turned (t':=s.toks) (λb o hb e=>N b o hb e) f0 f1 f3 f4 C⟩
 self:=λ_ _ _ _ _ st h=>wpAny_pyIter_striter_ascii st h
def iTxt (d:TE):TI:=λc H R=>d c H λx e=>∃z:Str,x = .str z/\z.cps.all (. < 128)=true/\R (XZ z) e
def NG (l:PE X e te):PI X tg e (iTxt te):=by
 intro c s i H R I h;refine thn (l c s i H _ I h) λv d ⟨x,p,g,r1,j⟩=>?_;obtain⟨z,rfl,m,q⟩:=j;obtain⟨t,rfl⟩:=r1;refine wpAny_pyIter_ascii m ?_;refine⟨d.heap.objs.size,[d.heap.objs.size],_,_,p,rfl,g.kept (t':=d.toks) λb o e=>af _ e,MR _ z t,⟨_,av _ rfl,rfl,rfl⟩,λb hb=>?_,q⟩;obtain rfl:b=d.heap.objs.size:=by simpa using hb
 exact g.fpOk (ac _) (g.hok.fresh (ac _))
section
variable {X:Cx}{CX:DC}{k:Nat}{sp:Sp}{E:XK}{x m:Str}{C:Addr}{p pos apos:Pos}{o e:Expr}{es:pV}{ta:TE}{t:TA}
def BR (O:MH X.prog X.w X.K X.mg X.base CX k C m sp)(j:d9 k X.A)(h:kW CX X E)(l:PE X o ta)(p:PA X (e::es) t)
  (d:starEach (e::es) X.env=(false,eval e X.env)::starEach es X.env:=by rfl) (g:(backTo pos (starEach es X.env)).any (·.1)=false:=by rfl)
  (i:eval (.Call (.Attribute o m apos) (e::es) [] pos) X.env=(do
   let ov ←eval o X.env
   standAt apos.atName
   let(f,first) ←holding [ov] (getMethod ov m pl)
   callWith pos f first (backTo pos (starEach (e::es) X.env)) (backToKw pos (keywordEach [] X.env))):=by rfl):PE X (.Call (.Attribute o m apos) (e::es) [] pos) (tMeth C m sp [] E ta t):=by
 obtain⟨f,q,ps,F,M,hb,c⟩:=O;exact Q3 l c M F j hb .nil h p d g i
def WG (P:dw)(w:dy)(K:dq)(mg:jS)(base:Heap)(CX:DC)(k:Nat)(x:Str)(C:Addr)(sp:Sp):Prop :=
 ∃f c ps,cH P w K mg base CX k f c ps sp/\mg x=some (.ref C)/\Mk K C f/\eW K c ps []
def WW (O:WG X.prog X.w X.K X.mg X.base CX k x C sp)(h:d9 (k+1) X.A)(g:kW CX X E)(j:Gl X x)(m:PA X (e::es) t)(d:(x == ("__debug__" : Str))=false:=by decide)
  (l:starEach (e::es) X.env=(false,eval e X.env)::starEach es X.env:=by rfl) (c:(backTo pos (starEach es X.env)).any (·.1)=false:=by rfl):PE X (.Call (.Name x p) (e::es) [] pos) (tMake C sp [] E t):=by
 obtain⟨f,o,ps,F,i,M,hb⟩:=O;exact Q4 M F h j i hb .nil g m d l c
end
section
variable {g:TG}{tt:TT}{te:TE}{Q:VK}{σ:St}{H:Hp}
def AG {z:Str}(Pv:Nat->List V->St->Hp->Prop)(j:Pv 0 [] e H)(h:∀i c d e H,z.cps[i]?=some c->Pv i d e H->CStep g tt te (.str ⟨#[c]⟩) d e H (Pv (i+1)))
  (hd:∀d e H,Pv z.cps.size d e H->∀p,H p=none->Q (.ref p) (upd H p (.lst d))):pD (XZ z) g tt te Q e H :=
 rK (n:=z.cps.size) Pv j (λi d e H hi p=>⟨hi,λx H' y=>by obtain⟨rfl,c,hc,rfl⟩:=y;exact h i c d e _ hc p⟩) λd e H p=>⟨rfl,hd d e H p⟩
end
noncomputable def inTx (z:Str)(c:Nat):Bool:=!(Builtin.Str.occurrences z ⟨#[c]⟩ 0 z.length 1).isEmpty
end L2
namespace L2
open PySem PySem.Spec PyProof.Rows PySem.W
structure YE (n:Nat)(lt:Nat->Nat->Bool):Prop where
 irr:∀i,lt i i=false
 asym:∀i j,lt i j=true->lt j i=false
 tr:∀i j k,lt j i=false->lt k j=false->lt k i=false
section
variable {n:Nat}{lt:Nat->Nat->Bool}
def le (lt:Nat->Nat->Bool)(i j:Nat):Prop:=lt j i=false
noncomputable abbrev pa (p:Array Nat)(i:Nat):Nat:=p.getD i 0
def Gd (n:Nat)(p:Array Nat):Prop:=p.Perm (List.range n).toArray
variable (O:YE n lt)
include O
end
end L2
namespace L2
open PySem PySem.Spec PyProof.Rows PySem.SeqAt
open PySem.AutoSeq1 (wpAny_loadPart')
open PySem.MeetsSeq PySem.MeetsSeq2 PySem.MeetsSeq3
def TN (A:dz)(s:du)(y x:dv)(b:Bool):Prop:=∀(prog:dw) (w:dy) (E:cM) (Q:cM),Q (.bool b) s->wpAny (model prog w) A (richCompare .Lt y x) Q E s
inductive yQ (A:dz)(s:du):cX->cX->Bool->Prop
 | nn:yQ A s [] [] false
 | nc {v:dv} {vs:cX}:yQ A s [] (v::vs) true
 | cn {u:dv} {us:cX}:yQ A s (u::us) [] false
 | eq {u v:dv} {us vs:cX} {b:Bool}:EqAt A s u v true->yQ A s us vs b->yQ A s (u::us) (v::vs) b
 | ne {u v:dv} {us vs:cX} {b:Bool}:EqAt A s u v false->TN A s u v b->yQ A s (u::us) (v::vs) b
def WJ (us:pU)(i:Nat)(xs:cX):Prop:=i<=us.size/\us.toList.drop i=xs
def WJ.end_ (h:WJ us i []):us.size=i/\us[i]?=none:=by have e:=congrArg List.length h.2;rw[bx,br,List.length_nil]at e;have:=h.1;exact⟨dk,Array.getElem?_eq_none dk⟩
def WJ.next (h:WJ us i (x::xs)):i<us.size/\us[i]?=some x/\WJ us (i+1) xs:=by
 have e:=congrArg List.length h.2;rw[bx,br,aq]at e;have lt:i<us.toList.length:=by rw[br];lia
 have c:=h.2;rw[List.drop_eq_getElem_cons lt]at c;injection c with g d;rw[br]at lt;refine⟨lt,?_,lt,d⟩;rw[Array.getElem?_eq_getElem lt,←g];rfl
abbrev x8 (l b:Addr)(ol ob:Obj)(xs ys:cX):PySem.Spec:=λA R s=>s.heap.get? l=some ol/\s.heap.get? b=some ob/\∃r,yQ A.in1 s xs ys r/\R (.ok (.ret (.bool r))) s
def vR {R:Result->du->Prop}(m:Meets (Builtin.«list.__eq__.loop» (ltAsk l b i)) (x8 l b ol ob xs ys))(h:x8 l b ol ob xs ys A R s) :
  (Code.builtin "list.__eq__.loop" (ltAsk l b i)).quiet=true/\codeAny (model prog w) A (.builtin "list.__eq__.loop" (ltAsk l b i)) R s:=by
 refine⟨plainId_quiet plain_eq_loop (ltAsk l b i),codeAny_builtin entry_eq_loop ?_⟩;have u:=A.under_plainId plain_eq_loop (ltAsk l b i);rw[u];exact m prog w A R s h
theorem yX (l b:Addr)(us vs:pU)(n k:Nat)(v u:Option Addr)(q p:Array (Option dv)):∀(xs ys:cX) (i:Nat),WJ us i xs->WJ vs i ys ->
  Meets (Builtin.«list.__eq__.loop» (ltAsk l b i)) (x8 l b {cls:=.type "list",dict:=v,data:=.seq us n,slots:=q} {cls:=.type "list",dict:=u,data:=.seq vs k,slots:=p} xs ys)
 | [],ys,i,f,g=>by
  rintro prog w A R ⟨s,t,d,tk,os⟩ ⟨c,e,r,hc,h⟩;obtain⟨z,no⟩:=f.end_;have j:r=decide (us.size<vs.size):=by
   cases hc with
   | nn=>exact(bo (by rw[z,(g.end_).1];exact cf _)).symm
   | nc=>exact(bi (by rw[z];exact(g.next).1)).symm
  rw[j]at h
  wp_walk using bh c,bh e
  rw[show((i:Nat):Int).toNat=i from rfl,no];cases vs[i]? <;> wp_walk using bh c,bh e <;> exact h
 | x::xs,[],i,f,g=>by
  rintro prog w A R ⟨s,t,d,tk,os⟩ ⟨c,e,r,hc,h⟩;obtain⟨z,no⟩:=g.end_;obtain⟨lt,is,_⟩:=f.next
  cases hc;have j:false=decide (us.size<vs.size):=(bo dk).symm;rw[j]at h
  wp_walk using bh c,bh e
  rw[show((i:Nat):Int).toNat=i from rfl,no,is]
  wp_walk using bh c,bh e
  exact h
 | x::xs,y::ys,i,f,g=>by
  have go:=yX l b us vs n k v u q p xs ys (i+1) (f.next).2.2 (g.next).2.2;rintro prog w A R ⟨s,t,d,tk,os⟩ ⟨c,e,r,hc,h⟩;obtain⟨_,o,_⟩:=f.next
  obtain⟨_,isV,_⟩:=g.next
  wp_walk using bh c,bh e
  rw[show((i:Nat):Int).toNat=i from rfl,o,isV];cases hc with
  | eq asked rest =>
   refine aa (asked prog w _ _ ?_)
   wp_walk
   exact vR go ⟨c,e,r,rest,h⟩
  | ne asked m =>
   refine aa (asked prog w _ _ ?_);have m:=m prog w
   wp_walk using bh c,bh e
   rw[o,isV]
   wp_walk using m
   exact h
def B6 (l b:Addr)(us vs:pU)(n k:Nat)(m j:Option Addr)(i g:Array (Option dv)) :
  Meets (Builtin.«list.__lt__» ⟨[.ref l,.ref b],[]⟩) (x8 l b {cls:=.type "list",dict:=m,data:=.seq us n,slots:=i} {cls:=.type "list",dict:=j,data:=.seq vs k,slots:=g} us.toList vs.toList):=by
 have go:=yX l b us vs n k m j i g us.toList vs.toList 0 ⟨aw _,rfl⟩ ⟨aw _,rfl⟩;rintro prog w A R ⟨o,p,d,tk,os⟩ ⟨c,e,h⟩;have kind:=AutoSeq1.sub_list_list
 wp_walk using bh c,bh e
 exact vR go ⟨c,e,h⟩
def yI (l b:Addr)(us vs:pU)(n k:Nat)(F E:Option Addr)(v u:Array (Option dv)) :
  Meets (Builtin.«tuple.__lt__» ⟨[.ref l,.ref b],[]⟩) (x8 l b {cls:=.type "tuple",dict:=F,data:=.seq us n,slots:=v} {cls:=.type "tuple",dict:=E,data:=.seq vs k,slots:=u} us.toList vs.toList):=by
 refine .of_wp λprog w A R z h=>?_;obtain⟨t,g,d,tk,os⟩:=z;obtain⟨C,hb,r,hc,h⟩:=h;have f2:=AutoSeq1.sub_tuple_tuple
 wp_walk using bh C,bh hb,wpAny_forIn_list _ (λrest b p=>b.1=none/\p=⟨t,g,d,tk,os⟩/\∃(xs ys:cX),rest=xs.zip ys/\yQ A.in1 ⟨t,g,d,tk,os⟩ xs ys r/\xs.length+vs.size=ys.length+us.size) _
 case turn =>
  rintro⟨y,x⟩ rest b p ⟨o,rfl,xs,ys,hz,m,c⟩;cases m with
  | nn=>cases hz
  | nc=>cases hz
  | cn=>cases hz
  | eq asked more =>
   rw[List.zip_cons_cons]at hz;injection hz with j i;injection j with q s;subst q s;simp only[aq]at c;refine aa (asked prog w _ _ ?_)
   wp_walk
   exact⟨rfl,rfl,_,_,i,more,dk⟩
  | ne asked e =>
   rw[List.zip_cons_cons]at hz;injection hz with j i;injection j with q s;subst q s;refine aa (asked prog w _ _ ?_);have e:=e prog w
   wp_walk using e
   refine⟨_,rfl,?_⟩
   simpa using h
 case fin =>
  rintro⟨b1,b2⟩ p ⟨o,rfl,xs,ys,hz,m,c⟩;simp only at o;subst o;have B:r=decide (us.size<vs.size):=by
   cases m with
   | nn =>
    simp only[List.length_nil]at c;exact(bo dk).symm
   | nc =>
    simp only[List.length_nil,aq]at c;exact(bi dk).symm
   | cn =>
    simp only[List.length_nil,aq]at c;exact(bo dk).symm
   | eq _ _=>rw[List.zip_cons_cons]at hz;cases hz
   | ne _ _=>rw[List.zip_cons_cons]at hz;cases hz
  rw[B]at h
  wp_walk
  exact⟨_,rfl,by simpa [Builtin.Tuple.tupleCompareSizes] using h⟩
 case h =>
  exact⟨rfl,rfl,us.toList,vs.toList,rfl,hc,by simp[Nat.add_comm]⟩
end L2
namespace L2
open PySem PySem.Spec PyProof.Rows
def aM.adopt {X:Cx}{d:dD}{g:St}{H:Hp}{s:du}{a:Addr}{o:HO}(I:aM X d g H s)(f:fN X d H a)(new:cK X.prog X.w (upd H a o) s.heap a o):aM X d g (upd H a o) s:=by
 obtain⟨f0,f1,f2,f3,f4,v⟩:=f;have keep:∀b u,H b=some u->upd H a o b=some u:=λb u e=>by rw[aC (aD e f0)];exact e
 refine {ok:=I.ok,os:=I.os,bare:=I.bare,base:=?_,loc:=I.loc,cell:=I.cell,free:=?_,freeC:=?_,pin:=?_,hok:=?_,len:=I.len}
 ·have u:=I.base
  exact {
   keep:=u.keep,slot:=u.slot,there:=u.there,tups:=λb xs e=>keep _ _ (u.tups b xs e),frzs:=λb q r e=>keep _ _ (u.frzs b q r e),
   tbls:=λb ps e=>by obtain⟨more,h⟩:=u.tbls b ps e;exact⟨more,keep _ _ h⟩,
   free:=λb q e n i=>by
    have ne:b≠a:=λz=>by
     rcases f3 with h|h
     ·exact i (z ▸ h)
     ·exact cf _ (bg (bc e) (z ▸ h))
    rw[aC ne]
    exact u.free b q e n i}
 ·rw[aC (Ne.symm f1)];exact I.free
 ·intro x c e;rw[aC (f4 x c e)];exact I.freeC x c e
 ·intro p j;obtain⟨t,m,l⟩:=I.pin p j;exact⟨t,by rw[aC (v p j)];exact m,l⟩
 ·intro b u e;by_cases hb:b=a
  ·subst hb;rw[ec]at e;cases e;exact new
  ·rw[aC hb]at e;exact(I.hok b u e).stay (λ_ _ _ q=>q) (λc q=>keep _ _ q) (λc xs q=>keep _ _ q)
def fN.at (f:fN X pins H b)(h:H' b=none):fN X pins H' b:=⟨h,f.2⟩
end L2
namespace L2
open PySem PyProof.Rows
noncomputable def gallop':Bool->Keyed->Array Keyed->Nat->Nat->Nat->StateT SortSt Sem (Option Nat):=sortPriv% PySem.Builtin.gallop
noncomputable def OF:Array Keyed->Array Keyed->StateT SortSt Sem (Array Keyed):=sortPriv% PySem.Builtin.mergeLo
noncomputable def OG:Array Keyed->Array Keyed->StateT SortSt Sem (Array Keyed):=sortPriv% PySem.Builtin.mergeHi
section
variable {M:Model}{E:cM}{A:dz}{s:du}
def tN (M:Model)(A:dz)(E:cM)(s:du)(c:Keyed->Nat)(e:SortKind)(d:Array Keyed):Prop :=
 ∀x y,x∈d.toList->y∈d.toList->∀(st:SortSt) (Q:Option Bool->SortSt->Prop),kindOf st=e->Q (some (decide (c x<c y))) st->wpS M A E s (lt' x y) Q st
variable {kf:Keyed->Nat}{κ:SortKind}{a0:Array Keyed}
def kZ {c:Type}{n:String}{k:PUnit->StateT SortSt Sem c}{Q:c->SortSt->Prop}{st:SortSt}(h:wpS M A E s (k ⟨⟩) Q st):wpS M A E s (liftM (rule n) >>= k) Q st:=dV (d7 (wpAny_rule ⟨rfl,h⟩))
def bE {d e:Type}{c:Prop}[Decidable c]{x y:StateT d Sem e}{Q:e->d->Prop}{st:d}(h:c->wpS M A E s x Q st)(g:¬c->wpS M A E s y Q st):wpS M A E s (if c then x else y) Q st:=by
 by_cases z:c
 ·rw[ai z];exact h z
 ·rw[ab z];exact g z
def mL {p:Prop}[Decidable p](h:¬decide p=true):¬p:=λz=>h (bi z)
def dN {a b:Nat}(h:¬(a == b)=true):a≠b:=λz=>h (by rw[z,beq_self_eq_true])
def MJ {d e:Type}{c:Prop}[Decidable c]{x T:StateT d Sem e}{Q:e->d->Prop}{st:d}(I:d->Prop)(t:∀st,I st->wpS M A E s T Q st)(h:c->(∀st,I st->wpS M A E s T Q st)->wpS M A E s x Q st)(g:¬c->I st):wpS M A E s (if c then x else T) Q st :=
 bE (λz=>h z t) λz=>t _ (g z)
def AZ {g i h:Type}{d:h}{c:h->Prop}[∀b,Decidable (c b)]{x y:h->StateT g Sem i}{Q:i->g->Prop}{st:g}(I:h->g->Prop)(t:∀b st,I b st->wpS M A E s (y b) Q st)(l:c d->(∀b st,I b st->wpS M A E s (y b) Q st)->wpS M A E s (x d) Q st)(j:¬c d->I d st):∀b,d=b->wpS M A E s (if c b then x b else y b) Q st :=
 λ_ e=>e ▸ bE (λz=>l z t) λz=>t _ _ (j z)
def uW {i m l j:Type}{h:l}{d:j}{c:l->j->Prop}[∀b g,Decidable (c b g)]{x y:l->j->StateT i Sem m}{Q:m->i->Prop}{st:i}(I:l->j->i->Prop)(t:∀b g st,I b g st->wpS M A E s (y b g) Q st)(p:c h d->(∀b g st,I b g st->wpS M A E s (y b g) Q st)->wpS M A E s (x h d) Q st)(o:¬c h d->I h d st) :
  ∀b,h=b->∀g,d=g->wpS M A E s (if c b g then x b g else y b g) Q st :=
 λ_ e _ f=>e ▸ f ▸ bE (λz=>p z t) λz=>t _ _ _ (o z)
def cD {c:Array Keyed}{i:Nat}{x:Keyed}{st:SortSt}{Q:Keyed->SortSt->Prop}(e:c[i]?=some x)(h:Q x st):wpS M A E s (elem' c i) Q st:=by rw[elem'_eq,e];exact d6 h
noncomputable def beyond' (left:Bool)(key:Keyed)(d:Array Keyed)(base i:Nat):StateT SortSt Sem (Option Bool) :=
 elem' d (base+i) >>= λx=>if left=true then lt' x key else lt' key x >>= λb=>pure (b.map λc=>!c)
structure XO (kf:Keyed->Nat)(a0:Array Keyed)(left:Bool)(key:Keyed)(arr:Array Keyed)(base n:Nat)(f:Nat->Bool):Prop where
 kin:key∈a0.toList
 at_:∀i,i<n->∃x,arr[base+i]?=some x/\x∈a0.toList/\f i=if left=true then decide (kf x<kf key)else !decide (kf key<kf x)
 mono:∀i j,i<=j->j<n->f j=true->f i=true
def lU {left:Bool}{key:Keyed}{d:Array Keyed}{base n i:Nat}{f:Nat->Bool}{st:SortSt}{Q:Option Bool->SortSt->Prop}(c:tN M A E s kf κ a0)(j:kindOf st=κ)(F:XO kf a0 left key d base n f)(hi:i<n)(h:Q (some (f i)) st):wpS M A E s (beyond' left key d base i) Q st:=by
 obtain⟨x,e,g,l⟩:=F.at_ i hi;refine dV (cD e ?_);cases left with
 | true=>exact c _ _ g F.kin st Q j (by rw[l]at h;exact h)
 | false=>exact dV (c _ _ F.kin g st _ j (d6 (by rw[l]at h;exact h)))
def vM {left:Bool}{key:Keyed}{v:Array Keyed}{base n d:Nat}{f:Nat->Bool}{st:SortSt}{Q:Option Nat->SortSt->Prop}(t:tN M A E s kf κ a0)(H:kindOf st=κ)(F:XO kf a0 left key v base n f)(X:d<n)
  (h:∀r,r<=n->(∀i,i<r->f i=true)->(∀i,r<=i->i<n->f i=false)->Q (some r) st):wpS M A E s (gallop' left key v base n d) Q st:=by
 have no:∀i j,i<=j->j<n->f i=false->f j=false:=λi j U T e=>by
  cases z:f j with
  | false=>rfl
  | true=>rw[F.mono i j U T z]at e;cases e
 refine dV (lU t H F X ?_);dsimp only;have u:∀lo hi,lo<=hi->hi<=n->(∀i,i<lo->f i=true)->(∀i,hi<=i->i<n->f i=false)->∀(P:(Option (Option Nat)×Nat×Nat)->SortSt->Prop),(∀r,r<=n->(∀i,i<r->f i=true)->(∀i,r<=i->i<n->f i=false)->P (none,r,r) st) ->
   wpS M A E s (forIn [0:n] ((none,lo,hi):Option (Option Nat)×Nat×Nat) λ_ c=>if c.2.1 ≥ c.2.2 then pure (.done (none,c.2.1,c.2.2))else beyond' left key v base (c.2.1+(c.2.2 - c.2.1) / 2) >>= λz =>
    match z with
    | some more=>if more=true then pure (.yield (none,c.2.1+(c.2.2 - c.2.1) / 2+1,c.2.2))else pure (.yield (none,c.2.1,c.2.1+(c.2.2 - c.2.1) / 2))
    | _=>pure (.done (some none,c.2.1,c.2.2))) P st:=by
  intro lo hi N w C B P S;refine wpS_forRange (I:=λx c m=>m=st/\∃lo hi,c=(none,lo,hi)/\lo<=hi/\hi<=n/\hi - lo<=n - x/\(∀i,i<lo->f i=true)/\(∀i,hi<=i->i<n->f i=false)) ?_ ?_ ⟨rfl,lo,hi,rfl,N,w,by omega,C,B⟩
  ·rintro x c m _ R ⟨rfl,lo,hi,rfl,N,w,W,C,B⟩;dsimp only;by_cases g:lo ≥ hi
   ·rw[ai g];have e:lo=hi:=by omega
    subst e;exact d6 (S lo w C B)
   ·rw[ab g];refine dV (lU t H F (by omega) ?_);dsimp only;cases z:f (lo+(hi - lo) / 2)with
    | true =>
     rw[ai rfl];exact d6 ⟨rfl,_,_,rfl,by omega,w,by omega,λi G=>F.mono i _ (by omega) (by omega) z,B⟩
    | false =>
     rw[ab ad];exact d6 ⟨rfl,_,_,rfl,by omega,by omega,by omega,C,λi G p=>no _ i G p z⟩
  ·rintro c m ⟨rfl,lo,hi,rfl,N,w,W,C,B⟩;have e:lo=hi:=by omega
   subst e;exact S lo w C B
 cases z:f d with
 | true =>
  rw[ai rfl]
  refine dV (wpS_mono (wpS_forRange (I:=λx c m=>m=st/\∃l o,c=(none,l,o)/\l<o/\x+1<=o/\d+l<n/\f (d+l)=true)
   (Q:=λc m=>m=st/\∃l o,c=(none,l,o)/\l<o/\d+l<n/\f (d+l)=true/\(n - d<=o\/d+o<n/\f (d+o)=false)) ?_ ?_ ⟨rfl,0,1,rfl,by omega,by omega,by omega,z⟩) ?_)
  ·rintro x c m _ R ⟨rfl,l,o,rfl,lo,J,ln,fl⟩;dsimp only;by_cases g:o ≥ n - d
   ·rw[ai g];exact d6 ⟨rfl,l,o,rfl,lo,ln,fl,.inl g⟩
   ·rw[ab g];refine dV (lU t H F (by omega) ?_);dsimp only;cases zo:f (d+o)with
    | true =>
     rw[ab ad];exact d6 ⟨rfl,o,2 * o+1,rfl,by omega,by omega,by omega,zo⟩
    | false =>
     rw[ai ad];exact d6 ⟨rfl,l,o,rfl,lo,ln,fl,.inr ⟨by omega,zo⟩⟩
  ·rintro c m ⟨rfl,l,o,rfl,lo,J,ln,fl⟩;exact⟨rfl,l,o,rfl,lo,ln,fl,.inl (by omega)⟩
  ·rintro c m ⟨rfl,l,o,rfl,lo,ln,fl,q⟩;dsimp only;refine dV (u _ _ ?_ ?_ ?_ ?_ _ λr K r1 L=>d6 (h r K r1 L))
   ·omega
   ·omega
   ·exact λi hi=>F.mono i (d+l) (by omega) ln fl
   ·rintro i hi p;rcases q with g|⟨g,O⟩
    ·omega
    ·exact no (d+o) i (by omega) p O
 | false =>
  rw[ab ad]
  refine dV (wpS_mono (wpS_forRange (I:=λx c m=>m=st/\∃l o,c=(none,l,o)/\l<o/\x+1<=o/\l<=d/\f (d - l)=false)
   (Q:=λc m=>m=st/\∃l o,c=(none,l,o)/\l<o/\l<=d/\f (d - l)=false/\(d+1<=o\/o<=d/\f (d - o)=true)) ?_ ?_ ⟨rfl,0,1,rfl,by omega,by omega,by omega,z⟩) ?_)
  ·rintro x c m _ R ⟨rfl,l,o,rfl,lo,J,ln,fl⟩;dsimp only;by_cases g:o ≥ d+1
   ·rw[ai g];exact d6 ⟨rfl,l,o,rfl,lo,ln,fl,.inl g⟩
   ·rw[ab g];refine dV (lU t H F (by omega) ?_);dsimp only;cases zo:f (d - o)with
    | false =>
     rw[ab ad];exact d6 ⟨rfl,o,2 * o+1,rfl,by omega,by omega,by omega,zo⟩
    | true =>
     rw[ai rfl];exact d6 ⟨rfl,l,o,rfl,lo,ln,fl,.inr ⟨by omega,zo⟩⟩
  ·rintro c m ⟨rfl,l,o,rfl,lo,J,ln,fl⟩;exact⟨rfl,l,o,rfl,lo,ln,fl,.inl (by omega)⟩
  ·rintro c m ⟨rfl,l,o,rfl,lo,ln,fl,q⟩;dsimp only;refine dV (u _ _ ?_ ?_ ?_ ?_ _ λr K r1 L=>d6 (h r K r1 L))
   ·omega
   ·omega
   ·rintro i hi;rcases q with g|⟨g,O⟩
    ·omega
    ·exact F.mono i (d - o) (by omega) (by omega) O
   ·exact λi hi p=>no (d - l) i hi p fl
end
def vL (c:Keyed->Nat)(x y:Keyed):Prop:=c x<=c y
structure DB (kf:Keyed->Nat)(all out ra rb:List Keyed):Prop where
 pa:(out++ra).Pairwise (vL kf)
 pb:(out++rb).Pairwise (vL kf)
 pm:(out++(ra++rb)).Perm all
def iV (c:Keyed->Nat)(all l:List Keyed):Prop:=l.Perm all/\l.Pairwise (vL c)
section
variable {kf:Keyed->Nat}{all out ra rb p:List Keyed}
def DB.a (h:DB kf all out (p++ra) rb)(i:∀x∈p,∀y∈rb,kf x<=kf y):DB kf all (out++p) ra rb:=by
 obtain⟨d,l,j⟩:=h;rw[←cq]at d;refine⟨d,?_,by rw[cq,←cq p];exact j⟩;have c:=List.pairwise_append.mp l;refine List.pairwise_append.mpr ⟨(List.pairwise_append.mp d).1,c.2.1,λx g y e=>?_⟩;rcases cx.mp g with z|z
 ·exact c.2.2 x z y e
 ·exact i x z y e
def DB.swap (h:DB kf all out ra rb):DB kf all out rb ra:=⟨h.pb,h.pa,((List.perm_append_comm).append_left out).trans h.pm⟩
def DB.b (h:DB kf all out ra (p++rb))(c:∀x∈p,∀y∈ra,kf x<=kf y):DB kf all (out++p) ra rb:=(h.swap.a c).swap
def DB.finA (h:DB kf all out ra []):iV kf all (out++ra):=⟨by have:=h.pm;rwa [bp]at this,h.pa⟩
def DB.finB (h:DB kf all out [] rb):iV kf all (out++rb):=h.swap.finA
def DB.finL (h:DB kf all out [x] rb)(d:∀y∈rb,kf y<=kf x):iV kf all (out++rb++[x]):=by
 have g:DB kf all out [x] (rb++[]):=by rw[bp];exact h
 exact(g.b λy c z hz=>by rw[cu.mp hz];exact d y c).finA
def oK {a:Array Keyed}{i:Nat}{x:Keyed}(h:a[i]?=some x):a.toList.drop i=x::a.toList.drop (i+1):=by
 have hi:i<a.toList.length:=by rw[br];exact(Array.getElem?_eq_some_iff.mp h).1
 rw[List.drop_eq_getElem_cons hi];congr 1;have e:a.toList[i]?=some x:=by rw[Array.getElem?_toList];exact h
 rw[ay hi]at e;exact Option.some.inj e
def tB {a:Array Keyed}{i:Nat}:(a.extract i).toList=a.toList.drop i:=by rw[Array.toList_extract,List.extract];exact List.take_of_length_le (by rw[bx,br];lia)
def CY {a:Array Keyed}{i k:Nat}:(a.extract i (i+k)).toList=(a.toList.drop i).take k:=by rw[Array.toList_extract,List.extract,Nat.add_sub_cancel_left]
def u6 {a:Array Keyed}{x:Keyed}:(a.push x).toList=a.toList++[x]:=Array.toList_push
def fC {a:Array Keyed}(h:a.toList.Pairwise (vL kf)){i j:Nat}{x y:Keyed}(d:a[i]?=some x)(c:a[j]?=some y)(e:i<=j):kf x<=kf y:=by
 rcases Nat.eq_or_lt_of_le e with rfl|lt
 ·rw[d]at c;cases c;exact ac _
 ·obtain⟨hi,m⟩:=Array.getElem?_eq_some_iff.mp d;obtain⟨g,l⟩:=Array.getElem?_eq_some_iff.mp c;have:=List.pairwise_iff_getElem.mp h i j (by simpa using hi) (by simpa using g) lt;rw[Array.getElem_toList,Array.getElem_toList,m,l]at this;exact this
def kE {a:Array Keyed}{i:Nat}{y:Keyed}(h:y∈a.toList.drop i):∃j,i<=j/\a[j]?=some y:=by obtain⟨k,c⟩:=List.getElem?_of_mem h;rw[List.getElem?_drop,Array.getElem?_toList]at c;exact⟨i+k,Nat.le_add_right _ _,c⟩
def j9 {a:Array Keyed}{i k:Nat}{y:Keyed}(h:y∈(a.toList.drop i).take k):∃j,j<k/\a[i+j]?=some y:=by
 obtain⟨n,c⟩:=List.getElem?_of_mem h;rw[List.getElem?_take]at c;by_cases z:n<k
 ·rw[ai z,List.getElem?_drop,Array.getElem?_toList]at c;exact⟨n,z,c⟩
 ·rw[ab z]at c;cases c
end
structure TD (kf:Keyed->Nat)(a0 a b:Array Keyed):Prop where
 sa:a.toList.Pairwise (vL kf)
 sb:b.toList.Pairwise (vL kf)
 ma:∀x∈a.toList,x∈a0.toList
 mb:∀x∈b.toList,x∈a0.toList
 na:0<a.size
 nb:0<b.size
 fst:∀x y,b[0]?=some y->x∈a.toList->kf y<kf x
 lst:∀x y,a[a.size - 1]?=some x->y∈b.toList->kf y<kf x
def gJ {a:Array Keyed}{i:Nat}(h:i<a.size):∃x,a[i]?=some x/\x∈a.toList:=⟨a[i],Array.getElem?_eq_getElem h,dl⟩
structure Kp (st st':SortSt):Prop where
 kd:kindOf st'=kindOf st
 ar:arrOf st'=arrOf st
 pe:pendingOf st'=pendingOf st
 fa:failedOf st'=failedOf st
def Kp.refl (st:SortSt):Kp st st:=⟨rfl,rfl,rfl,rfl⟩
def MG (c:Keyed->Nat)(a:Array Keyed)(lo n:Nat):Prop:=∀i j x y,i<=j->j<n->a[lo+i]?=some x->a[lo+j]?=some y->c x<=c y
def BE {c:Keyed->Nat}{a:Array Keyed}{lo n:Nat}(h:a.toList.Pairwise (vL c)):MG c a lo n:=λi j x y e _ ex d=>fC h ex d dk
def LY {c:Keyed->Nat}(sa:MG c a ia n)(ma:∀x∈a.toList,x∈a0.toList)(o:key∈a0.toList)(h:ia+n<=a.size) :
  XO c a0 false key a ia n (λi=>match a[ia+i]? with|some x=>!decide (c key<c x)|none=>false):=by
 refine⟨o,λi hi=>?_,λi j l g=>?_⟩
 ·obtain⟨x,e,m⟩:=gJ (a:=a) (i:=ia+i) dk;exact⟨x,e,ma _ m,by rw[e];rfl⟩
 ·obtain⟨x,e,m⟩:=gJ (a:=a) (i:=ia+i) dk;obtain⟨y,d,p⟩:=gJ (a:=a) (i:=ia+j) dk;have:=sa i j x y l g e d;rw[e,d];dsimp only;intro z;have z':¬c key<c y:=λw=>by rw[bi w]at z;cases z
  rw[bo (show ¬c key<c x by lia)];rfl
def PD {c:Keyed->Nat}(sa:MG c a ia n)(ma:∀x∈a.toList,x∈a0.toList)(o:key∈a0.toList)(h:ia+n<=a.size) :
  XO c a0 true key a ia n (λi=>match a[ia+i]? with|some x=>decide (c x<c key)|none=>false):=by
 refine⟨o,λi hi=>?_,λi j l g=>?_⟩
 ·obtain⟨x,e,m⟩:=gJ (a:=a) (i:=ia+i) dk;exact⟨x,e,ma _ m,by rw[e];rfl⟩
 ·obtain⟨x,e,m⟩:=gJ (a:=a) (i:=ia+i) dk;obtain⟨y,d,p⟩:=gJ (a:=a) (i:=ia+j) dk;have:=sa i j x y l g e d;rw[e,d];dsimp only;intro z;have z':c y<c key:=bu z;exact bi (show c x<c key by lia)
section
variable {M:Model}{A:dz}{E:cM}{s:du}{kf:Keyed->Nat}{κ:SortKind}{a0:Array Keyed}
def nA {key:Keyed}{a:Array Keyed}{d n c:Nat}{st:SortSt}{Q:Option Nat->SortSt->Prop}(g:tN M A E s kf κ a0)(p:kindOf st=κ)(sa:MG kf a d n)(ma:∀x∈a.toList,x∈a0.toList)(o:key∈a0.toList)(m:d+n<=a.size)(q:c<n)
  (h:∀r,r<=n->(∀i x,i<r->a[d+i]?=some x->kf x<=kf key)->(∀i x,r<=i->i<n->a[d+i]?=some x->kf key<kf x)->Q (some r) st):wpS M A E s (gallop' false key a d n c) Q st:=by
 refine vM g p (LY sa ma o m) q λr j u t=>h r j (λi x hi e=>?_) (λi x l hi e=>?_)
 ·have:=u i hi;rw[e]at this;dsimp only at this;have:¬kf key<kf x:=λw=>by rw[bi w]at this;cases this
  lia
 ·have:=t i l hi;rw[e]at this;dsimp only at this;have:¬ ¬kf key<kf x:=λw=>by rw[bo w]at this;cases this
  lia
def nC {key:Keyed}{a:Array Keyed}{d n c:Nat}{st:SortSt}{Q:Option Nat->SortSt->Prop}(g:tN M A E s kf κ a0)(p:kindOf st=κ)(sa:MG kf a d n)(ma:∀x∈a.toList,x∈a0.toList)(o:key∈a0.toList)(m:d+n<=a.size)(q:c<n)
  (h:∀r,r<=n->(∀i x,i<r->a[d+i]?=some x->kf x<kf key)->(∀i x,r<=i->i<n->a[d+i]?=some x->kf key<=kf x)->Q (some r) st):wpS M A E s (gallop' true key a d n c) Q st:=by
 refine vM g p (PD sa ma o m) q λr j u t=>h r j (λi x hi e=>?_) (λi x l hi e=>?_)
 ·have:=u i hi;rw[e]at this;exact bu this
 ·have:=t i l hi;rw[e]at this;have:=of_decide_eq_false this
  lia
abbrev yE (kf:Keyed->Nat)(a b out:Array Keyed)(ia ib:Nat):Prop:=DB kf (a.toList++b.toList) out.toList (a.toList.drop ia) (b.toList.drop ib)
structure TL (kf:Keyed->Nat)(a b out:Array Keyed)(ia ib:Nat):Prop where
 hi:ia+1<a.size
 hb:ib<b.size
 g:yE kf a b out ia ib
def vB (e:ib=b.size)(g:yE kf a b out ia ib):iV kf (a.toList++b.toList) (out++a.extract ia++b.extract ib).toList:=by unfold yE at g;rw[Array.toList_append,Array.toList_append,tB,tB];have z:b.toList.drop ib=[]:=List.drop_of_length_le (by rw[br];lia);rw[z]at g⊢;rw[bp];exact g.finA
def VP (e:ia=a.size)(g:yE kf a b out ia ib):iV kf (a.toList++b.toList) (out++a.extract ia++b.extract ib).toList:=by unfold yE at g;rw[Array.toList_append,Array.toList_append,tB,tB];have z:a.toList.drop ia=[]:=List.drop_of_length_le (by rw[br];lia);rw[z]at g⊢;rw[bp];exact g.finB
def vA (T:TD kf a0 a b)(e:ia+1=a.size)(g:yE kf a b out ia ib):iV kf (a.toList++b.toList) (out++b.extract ib++a.extract ia).toList:=by
 unfold yE at g;rw[Array.toList_append,Array.toList_append,tB,tB];obtain⟨x,ex,d⟩:=gJ (a:=a) (i:=ia) dk;have z:a.toList.drop ia=[x]:=by rw[oK ex,List.drop_of_length_le (by rw[br];lia)]
 rw[z]at g⊢;exact g.finL λy c=>Nat.le_of_lt (T.lst x y (by rw[←e,Nat.add_sub_cancel];exact ex) (List.mem_of_mem_drop c))
def EM (T:TD kf a0 a b)(ex:a[ia]?=some x)(e:b[ib]?=some y)(l:kf y<=kf x)(g:yE kf a b out ia ib):yE kf a b (out.push y) ia (ib+1):=by unfold yE at g⊢;rw[u6];rw[oK e]at g;refine DB.b (p:=[y]) g λz hz w d=>?_;rw[cu.mp hz];obtain⟨j,c,h⟩:=kE d;exact ao l (fC T.sa ex h c)
def EN (T:TD kf a0 a b)(ex:a[ia]?=some x)(e:b[ib]?=some y)(l:kf x<=kf y)(g:yE kf a b out ia ib):yE kf a b (out.push x) (ia+1) ib:=by unfold yE at g⊢;rw[u6];rw[oK ex]at g;refine DB.a (p:=[x]) g λz hz w d=>?_;rw[cu.mp hz];obtain⟨j,c,h⟩:=kE d;exact ao l (fC T.sb e h c)
def AC {a:Array Keyed}{i k:Nat}:a.toList.drop i=(a.toList.drop i).take k++a.toList.drop (i+k):=by rw[←List.drop_drop,List.take_append_drop]
def LF (T:TD kf a0 a b)(e:b[ib]?=some y)(l:∀i x,i<k->a[ia+i]?=some x->kf x<=kf y)(g:yE kf a b out ia ib):yE kf a b (out++a.extract ia (ia+k)) (ia+k) ib:=by unfold yE at g⊢;rw[Array.toList_append,CY];rw[AC (k:=k)]at g;refine g.a λz hz w d=>?_;obtain⟨i,hi,m⟩:=j9 hz;obtain⟨j,c,h⟩:=kE d;exact ao (l i z hi m) (fC T.sb e h c)
def LD (T:TD kf a0 a b)(ex:a[ia]?=some x)(l:∀i y,i<k->b[ib+i]?=some y->kf y<=kf x)(g:yE kf a b out ia ib):yE kf a b (out++b.extract ib (ib+k)) ia (ib+k):=by unfold yE at g⊢;rw[Array.toList_append,CY];rw[AC (a:=b) (k:=k)]at g;refine g.b λz hz w d=>?_;obtain⟨i,hi,h⟩:=j9 hz;obtain⟨j,c,e⟩:=kE d;exact ao (l i z hi h) (fC T.sa ex e c)
def DD {a b:Array Keyed}{st:SortSt}{Q:Array Keyed->SortSt->Prop}(Y:tN M A E s kf κ a0)(hk:kindOf st=κ)(T:TD kf a0 a b)(h:∀r l,Kp st l->iV kf (a.toList++b.toList) r.toList->Q r l):wpS M A E s (OF a b) Q st:=by
 obtain⟨b0,W,mb0⟩:=gJ T.nb;refine kZ ?_;refine dV (cD W ?_);dsimp only;have g0:yE kf a b #[b0] 0 1:=by
  have d:=oK W;rw[List.drop_zero]at d;have c:∀x∈a.toList,kf b0<=kf x:=λx hx=>Nat.le_of_lt (T.fst x b0 W hx);refine⟨List.pairwise_append.mpr ⟨List.pairwise_singleton _ _,by rw[List.drop_zero];exact T.sa,λx hx y hy=>?_⟩,?_,?_⟩
  ·rw[cu.mp hx];exact c y (List.mem_of_mem_drop hy)
  ·have:=T.sb;rw[d]at this;exact this
  ·rw[List.drop_zero,d];exact(List.perm_middle (a:=b0) (l₁:=a.toList) (l₂:=b.toList.drop 1)).symm
 refine bE (λc1=>d6 (h _ _ (Kp.refl _) (vB (eq_of_beq c1) g0))) λc1=>?_;refine bE (λc2=>d6 (h _ _ (Kp.refl _) (vA T (eq_of_beq c2) g0))) λc2=>?_;have c1:=dN c1;have c2:=dN c2;have na:=T.na;have nb:=T.nb;have m0:TL kf a b #[b0] 0 1:=⟨dk,dk,g0⟩
 refine dV (wpS_get ?_)
 refine dV (wpS_mono (wpS_forRange (I:=λx c l=>Kp st l/\∃out F u mg,c=(none,out,F,u,mg)/\TL kf a b out F u/\x+1<=F+u)
  (Q:=λc l=>Kp st l/\∃r,c.1=some r/\iV kf (a.toList++b.toList) r.toList) ?_ ?_ ⟨Kp.refl _,_,_,_,_,rfl,m0,dk⟩) ?_)
 ·rintro x c st1 _ xt ⟨k1,out,F,u,mg,rfl,m1,x1⟩;dsimp only
  refine dV (wpS_mono (wpS_forRange (I:=λy c l=>l=st1/\∃o q p J H,c=(none,o,q,p,J,H)/\TL kf a b o q p/\F+u+y<=q+p)
   (Q:=λc l=>l=st1/\((∃r,c.1=some r/\iV kf (a.toList++b.toList) r.toList)\/∃o q p J H,c=(none,o,q,p,J,H)/\TL kf a b o q p/\F+u+1<=q+p)) ?_ ?_ ⟨rfl,_,_,_,_,_,rfl,m1,dk⟩) ?_)
  ·rintro y c st2 _ yt ⟨rfl,out,F,u,J,H,rfl,K,x2⟩;dsimp only;obtain⟨eb,O,me⟩:=gJ K.hb;have hi:=K.hi;have hb:=K.hb;obtain⟨P,e2,mf⟩:=gJ (show F<a.size by lia);refine dV (cD O (dV (cD e2 (dV (Y _ _ (T.mb _ me) (T.ma _ mf) _ _ (k1.kd.trans hk) ?_)))));dsimp only;refine bE (λw=>dV (cD O ?_)) λw=>dV (cD e2 ?_)
   ·have g:=EM T e2 O (Nat.le_of_lt (bu w)) K.g;refine bE (λX=>d6 ⟨rfl,.inl ⟨_,rfl,vB (eq_of_beq X) g⟩⟩) λX=>?_;have C:TL kf a b (out.push eb) F (u+1):=⟨hi,by have:=dN X;lia,g⟩
    exact bE (λ_=>d6 ⟨rfl,.inr ⟨_,_,_,_,_,rfl,C,dk⟩⟩) λ_=>d6 ⟨rfl,_,_,_,_,_,rfl,C,dk⟩
   ·have g:=EN T e2 O (Nat.not_lt.mp (mL w)) K.g;refine bE (λX=>d6 ⟨rfl,.inl ⟨_,rfl,vA T (eq_of_beq X) g⟩⟩) λX=>?_;have C:TL kf a b (out.push P) (F+1) u:=⟨by have:=dN X;lia,hb,g⟩
    exact bE (λ_=>d6 ⟨rfl,.inr ⟨_,_,_,_,_,rfl,C,dk⟩⟩) λ_=>d6 ⟨rfl,_,_,_,_,_,rfl,C,dk⟩
  ·rintro c st2 ⟨rfl,out,F,u,J,H,rfl,K,x2⟩;have:=K.hi;have:=K.hb
   lia
  ·rintro c st2 ⟨rfl,⟨r,e,hr⟩|⟨out2,U,S,J,H,rfl,K,x2⟩⟩
   ·obtain⟨c1',c2'⟩:=c;cases e;exact d6 ⟨k1,_,rfl,hr⟩
   ·dsimp only;refine kZ ?_
    refine dV (wpS_mono (wpS_forRange (I:=λy c l=>Kp st l/\∃o q p G J H,c=(none,o,q,p,G,J,H)/\TL kf a b o q p/\U+S+y<=q+p)
     (Q:=λc l=>Kp st l/\((∃r,c.1=some r/\iV kf (a.toList++b.toList) r.toList)\/∃o q p G J H,c=(none,o,q,p,G,J,H)/\TL kf a b o q p/\U+S<=q+p)) ?_ ?_ ⟨k1,_,_,_,_,_,_,rfl,K,dk⟩) ?_)
    ·rintro y c st3 _ yt ⟨N,out,F,u,G,J,H,rfl,C,x3⟩;dsimp only;obtain⟨eb,O,me⟩:=gJ C.hb;have hi3:=C.hi;have hb3:=C.hb;generalize hm:G=R
     revert R
     refine AZ (λ_ l=>Kp st l) (λR L k4=>dV (wpS_modify ?_)) (λ_ k=>k _ _ N) λ_=>N;have k5:Kp st (SortSt.mk' (kindOf L) (arrOf L) (pendingOf L) R (failedOf L)):=⟨k4.kd,k4.ar,k4.pe,k4.fa⟩
     refine dV (cD O (dV (nA Y (k5.kd.trans hk) (BE T.sa) T.ma (T.mb _ me) dk dk λk kn f1 f2=>?_)));dsimp only;have gX:=LF T O f1 C.g;generalize hO:out=B;generalize hI:F=t
     revert B t
     refine uW (λB t l=>Kp st l/\yE kf a b B t u/\t+1<a.size/\(∀x,a[t]?=some x->kf eb<kf x)/\U+S+y<=t+u) ?_ ?_ λk0=>⟨k5,C.g,hi3,λx e=>f2 0 x dk dk e,x3⟩
     rotate_left
     ·refine λk0 j=>bE (λc4=>d6 ⟨k5,.inl ⟨_,rfl,vA T (eq_of_beq c4) gX⟩⟩) λc4=>bE (λc5=>d6 ⟨k5,.inl ⟨_,rfl,VP (eq_of_beq c5) gX⟩⟩) λc5=>?_;have c4:=dN c4;have c5:=dN c5;exact j _ _ _ ⟨k5,gX,dk,λx e=>f2 k x (ac _) dk e,dk⟩
     rintro B t st6 ⟨k6,gX,hX,fX,pX⟩;obtain⟨xa,P,mxa⟩:=gJ (a:=a) (i:=t) dk;refine dV (cD O ?_);have g1:=EM T P O (Nat.le_of_lt (fX xa P)) gX;refine bE (λc6=>d6 ⟨k6,.inl ⟨_,rfl,vB (eq_of_beq c6) g1⟩⟩) λc6=>?_;have c6:=dN c6;refine dV (cD P (dV (nC Y (k6.kd.trans hk) (BE T.sb) T.mb (T.ma _ mxa) dk dk λk2 kn2 q1 q2=>?_)));dsimp only;have Z:=LD T P (λi y hi e=>Nat.le_of_lt (q1 i y hi e)) g1;have pb:u+1<b.size:=by lia
     have pb2:u<=u+1:=Nat.le_succ _;generalize B.push eb=outP at g1 Z⊢;generalize u+1=ibP at g1 Z kn2 q1 q2 pb pb2⊢;generalize hO:outP=z;generalize hI:ibP=v
     revert z v
     refine uW (λz v l=>Kp st l/\yE kf a b z t v/\v<b.size/\(∀y,b[v]?=some y->kf xa<=kf y)/\u<=v) ?_ ?_ λk20=>⟨k6,g1,pb,λy e=>q2 0 y dk dk e,pb2⟩
     rotate_left
     ·refine λk20 j=>bE (λc7=>d6 ⟨k6,.inl ⟨_,rfl,vB (eq_of_beq c7) Z⟩⟩) λc7=>?_;have c7:=dN c7;exact j _ _ _ ⟨k6,Z,dk,λy e=>q2 k2 y (ac _) dk e,dk⟩
     rintro z v st7 ⟨k7,Z,bY,lY,pY⟩;obtain⟨yb,eyb,myb⟩:=gJ (a:=b) (i:=v) bY;refine dV (cD P ?_);have g3:=EN T P eyb (lY yb eyb) Z;refine bE (λc8=>d6 ⟨k7,.inl ⟨_,rfl,vA T (eq_of_beq c8) g3⟩⟩) λc8=>?_;have m9:TL kf a b (z.push xa) (t+1) v:=⟨by have:=dN c8;lia,bY,g3⟩
     exact bE (λ_=>d6 ⟨k7,.inr ⟨_,_,_,_,_,_,rfl,m9,dk⟩⟩) λ_=>d6 ⟨k7,_,_,_,_,_,_,rfl,m9,dk⟩
    ·rintro c st3 ⟨N,out,F,u,G,J,H,rfl,C,x3⟩;have:=C.hi;have:=C.hb
     lia
    ·rintro c st3 ⟨N,⟨r,e,hr⟩|⟨out3,ia3,ib3,mg3,J,H,rfl,C,x3⟩⟩
     ·obtain⟨c1',c2'⟩:=c;cases e;exact d6 ⟨N,_,rfl,hr⟩
     ·dsimp only;exact dV (wpS_modify (d6 ⟨⟨N.kd,N.ar,N.pe,N.fa⟩,_,_,_,_,rfl,C,dk⟩))
 ·rintro c l ⟨k,out,F,u,mg,rfl,m,x1⟩;have:=m.hi;have:=m.hb
  lia
 ·rintro c l ⟨k,r,e,hr⟩;rw[e];exact d6 (h _ _ k hr)
end
structure DA (kf:Keyed->Nat)(all out ra rb:List Keyed):Prop where
 pa:(ra++out).Pairwise (vL kf)
 pb:(rb++out).Pairwise (vL kf)
 pm:((ra++rb)++out).Perm all
section
variable {kf:Keyed->Nat}{all out ra rb p:List Keyed}
def DA.a (h:DA kf all out (ra++p) rb)(i:∀x∈p,∀y∈rb,kf y<=kf x):DA kf all (p++out) ra rb:=by
 obtain⟨d,l,j⟩:=h;rw[cq]at d;refine⟨d,?_,?_⟩
 ·have c:=List.pairwise_append.mp l;refine List.pairwise_append.mpr ⟨c.1,(List.pairwise_append.mp d).2.1,λy e x g=>?_⟩;rcases cx.mp g with z|z
  ·exact i x z y e
  ·exact c.2.2 y e x z
 ·refine List.Perm.trans ?_ j;rw[←cq,cq ra rb p,cq ra p rb];exact(List.perm_append_comm.append_left ra).append_right out
def DA.swap (h:DA kf all out ra rb):DA kf all out rb ra:=⟨h.pb,h.pa,((List.perm_append_comm).append_right out).trans h.pm⟩
def DA.b (h:DA kf all out ra (rb++p))(c:∀x∈p,∀y∈ra,kf y<=kf x):DA kf all (p++out) ra rb:=(h.swap.a c).swap
def DA.finA (h:DA kf all out ra []):iV kf all (ra++out):=⟨by have:=h.pm;rwa [bp]at this,h.pa⟩
def DA.finB (h:DA kf all out [] rb):iV kf all (rb++out):=h.swap.finA
def DA.finF (h:DA kf all out ra [y])(c:∀x∈ra,kf y<=kf x):iV kf all ([y]++(ra++out)):=by have g:DA kf all out ([]++ra) [y]:=h;exact(g.a λx d z hz=>by rw[cu.mp hz];exact c x d).finB
def take_snoc {a:Array Keyed}{n:Nat}{x:Keyed}(h:a[n]?=some x):a.toList.take (n+1)=a.toList.take n++[x]:=by rw[List.take_add_one,Array.getElem?_toList,h];rfl
abbrev ee:=@take_snoc
def tD {a:Array Keyed}{n:Nat}:(a.extract 0 n).toList=a.toList.take n:=by rw[Array.toList_extract,List.extract,List.drop_zero,Nat.sub_zero]
def qV {a:Array Keyed}{n:Nat}{y:Keyed}(h:y∈a.toList.take n):∃j,j<n/\a[j]?=some y:=by obtain⟨j,lt,e⟩:=j9 (a:=a) (i:=0) (k:=n) (by rw[List.drop_zero];exact h);rw[Nat.zero_add]at e;exact⟨j,lt,e⟩
def yZ {a:Array Keyed}{i n:Nat}(h:i<=n):a.toList.take n=a.toList.take i++(a.extract i n).toList:=by
 have e:n=i+(n - i):=by lia
 conv=>lhs;rw[e,List.take_add]
 rw[Array.toList_extract]
def JK {a:Array Keyed}{i n:Nat}{y:Keyed}(h:y∈(a.extract i n).toList):∃j,i<=j/\j<n/\a[j]?=some y:=by rw[Array.toList_extract,List.extract]at h;obtain⟨j,lt,e⟩:=j9 h;exact⟨i+j,dk,dk,e⟩
end
section
variable {M:Model}{A:dz}{E:cM}{s:du}{kf:Keyed->Nat}{κ:SortKind}{a0:Array Keyed}
abbrev yA (kf:Keyed->Nat)(a b out:Array Keyed)(na nb:Nat):Prop:=DA kf (a.toList++b.toList) out.toList.reverse (a.toList.take na) (b.toList.take nb)
structure TM (kf:Keyed->Nat)(a b out:Array Keyed)(na nb:Nat):Prop where
 a1:1<=na
 a2:na<=a.size
 b1:2<=nb
 b2:nb<=b.size
 g:yA kf a b out na nb
def vE (e:na=0)(g:yA kf a b out na nb):iV kf (a.toList++b.toList) (a.extract 0 na++b.extract 0 nb++out.reverse).toList:=by subst e;rw[Array.toList_append,Array.toList_append,tD,tD,Array.toList_reverse];exact g.finB
def V4 (e:nb=0)(g:yA kf a b out na nb):iV kf (a.toList++b.toList) (a.extract 0 na++b.extract 0 nb++out.reverse).toList:=by subst e;rw[Array.toList_append,Array.toList_append,tD,tD,Array.toList_reverse,List.take_zero,bp];exact g.finA
def q8 (T:TD kf a0 a b)(e:nb=1)(g:yA kf a b out na nb):iV kf (a.toList++b.toList) (b.extract 0 nb++a.extract 0 na++out.reverse).toList:=by
 subst e;obtain⟨y,c,h⟩:=gJ T.nb;have z:b.toList.take 1=[y]:=by rw[show 1=0+1 from rfl,ee c,List.take_zero];rfl
 unfold yA at g;rw[z]at g;rw[Array.toList_append,Array.toList_append,tD,tD,Array.toList_reverse,z,cq];exact g.finF λx d=>Nat.le_of_lt (T.fst x y c (List.mem_of_mem_take d))
def E1 (ex:a[na]?=some x)(l:∀j y,j<nb->b[j]?=some y->kf y<=kf x)(g:yA kf a b out (na+1) nb):yA kf a b (out.push x) na nb:=by unfold yA at g⊢;rw[u6,List.reverse_append];rw[ee ex]at g;refine DA.a (p:=[x]) g λz hz w c=>?_;rw[cu.mp hz];obtain⟨j,lt,d⟩:=qV c;exact l j w lt d
def EZ (d:b[nb]?=some y)(l:∀j x,j<na->a[j]?=some x->kf x<=kf y)(g:yA kf a b out na (nb+1)):yA kf a b (out.push y) na nb:=by unfold yA at g⊢;rw[u6,List.reverse_append];rw[ee d]at g;refine DA.b (p:=[y]) g λz hz w c=>?_;rw[cu.mp hz];obtain⟨j,lt,e⟩:=qV c;exact l j w lt e
def LO (hi:i<=na)(l:∀k x,i<=k->k<na->a[k]?=some x->∀j y,j<nb->b[j]?=some y->kf y<=kf x)(g:yA kf a b out na nb):yA kf a b (out++(a.extract i na).reverse) i nb:=by unfold yA at g⊢;rw[Array.toList_append,List.reverse_append,Array.toList_reverse,List.reverse_reverse];rw[yZ hi]at g;refine g.a λz hz w e=>?_;obtain⟨k,d,c,h⟩:=JK hz;obtain⟨j,lt,m⟩:=qV e;exact l k z d c h j w lt m
def LN (hi:i<=nb)(l:∀k y,i<=k->k<nb->b[k]?=some y->∀j x,j<na->a[j]?=some x->kf x<=kf y)(g:yA kf a b out na nb):yA kf a b (out++(b.extract i nb).reverse) na i:=by unfold yA at g⊢;rw[Array.toList_append,List.reverse_append,Array.toList_reverse,List.reverse_reverse];rw[yZ hi]at g;refine g.b λz hz w e=>?_;obtain⟨k,d,c,h⟩:=JK hz;obtain⟨j,lt,m⟩:=qV e;exact l k z d c h j w lt m
def DE {a b:Array Keyed}{st:SortSt}{Q:Array Keyed->SortSt->Prop}(W:tN M A E s kf κ a0)(hk:kindOf st=κ)(T:TD kf a0 a b)(h:∀r d,Kp st d->iV kf (a.toList++b.toList) r.toList->Q r d):wpS M A E s (OG a b) Q st:=by
 have na0:=T.na;have nb0:=T.nb;obtain⟨al,S,mal⟩:=gJ (a:=a) (i:=a.size - 1) dk;refine kZ ?_;refine dV (cD S ?_);have g0:yA kf a b #[al] (a.size - 1) b.size:=by
  have ta:a.toList.take (a.size - 1)++[al]=a.toList:=by rw[←ee S];exact List.take_of_length_le (by rw[br];lia)
  have tb:b.toList.take b.size=b.toList:=List.take_of_length_le (by rw[br];lia);refine⟨?_,?_,?_⟩
  ·show(a.toList.take (a.size - 1)++[al]).Pairwise _;rw[ta];exact T.sa
  ·rw[tb];refine List.pairwise_append.mpr ⟨T.sb,List.pairwise_singleton _ _,λy hy x hx=>?_⟩;rw[cu.mp hx];exact Nat.le_of_lt (T.lst al y S hy)
  ·rw[tb];show((a.toList.take (a.size - 1)++b.toList)++[al]).Perm _
   conv=>rhs;rw[←ta]
   rw[cq,cq];exact List.perm_append_comm.append_left _
 refine bE (λc1=>d6 (h _ _ (Kp.refl _) (vE (eq_of_beq c1) g0))) λc1=>?_;refine bE (λc2=>d6 (h _ _ (Kp.refl _) (q8 T (eq_of_beq c2) g0))) λc2=>?_;have c1:=dN c1;have c2:=dN c2;have m0:TM kf a b #[al] (a.size - 1) b.size:=⟨dk,dk,dk,dk,g0⟩
 refine dV (wpS_get ?_)
 refine dV (wpS_mono (wpS_forRange (I:=λx c d=>Kp st d/\∃na nb out mg,c=(none,na,nb,out,mg)/\TM kf a b out na nb/\na+nb+x+1<=a.size+b.size)
  (Q:=λc d=>Kp st d/\∃r,c.1=some r/\iV kf (a.toList++b.toList) r.toList) ?_ ?_ ⟨Kp.refl _,_,_,_,_,rfl,m0,dk⟩) ?_)
 ·rintro x c st1 _ xt ⟨k1,na,nb,out,mg,rfl,m1,x1⟩;dsimp only
  refine dV (wpS_mono (wpS_forRange (I:=λy c d=>d=st1/\∃p o l C B,c=(none,p,o,l,C,B)/\TM kf a b l p o/\p+o+y<=na+nb)
   (Q:=λc d=>d=st1/\((∃r,c.1=some r/\iV kf (a.toList++b.toList) r.toList)\/∃p o l C B,c=(none,p,o,l,C,B)/\TM kf a b l p o/\p+o+1<=na+nb)) ?_ ?_ ⟨rfl,_,_,_,_,_,rfl,m1,dk⟩) ?_)
  ·rintro y c st2 _ yt ⟨rfl,na,nb,out,C,B,rfl,O,x2⟩;dsimp only;obtain⟨i1,i2,i3,i4,ig⟩:=O;obtain⟨eb,J,me⟩:=gJ (a:=b) (i:=nb - 1) dk;obtain⟨Z,e2,mf⟩:=gJ (a:=a) (i:=na - 1) dk;refine dV (cD J (dV (cD e2 (dV (W _ _ (T.mb _ me) (T.ma _ mf) _ _ (k1.kd.trans hk) ?_)))));dsimp only;have ig':yA kf a b out (na - 1+1) (nb - 1+1):=by rw[Nat.sub_add_cancel i1,Nat.sub_add_cancel (show 1<=nb by lia)];exact ig
   refine bE (λw=>dV (cD e2 ?_)) λw=>dV (cD J ?_)
   ·have w:=bu w;have g:=E1 e2 (λj y Y R=>ao (fC T.sb R J dk) dk) ig';rw[Nat.sub_add_cancel (show 1<=nb by lia)]at g;refine bE (λU=>d6 ⟨rfl,.inl ⟨_,rfl,vE (eq_of_beq U) g⟩⟩) λU=>?_;have F:TM kf a b (out.push Z) (na - 1) nb:=⟨by have:=dN U;lia,dk,i3,i4,g⟩
    exact bE (λ_=>d6 ⟨rfl,.inr ⟨_,_,_,_,_,rfl,F,dk⟩⟩) λ_=>d6 ⟨rfl,_,_,_,_,_,rfl,F,dk⟩
   ·have w:=mL w;have g:=EZ J (λj x Y R=>ao (fC T.sa R e2 dk) dk) ig';rw[Nat.sub_add_cancel i1]at g;refine bE (λU=>d6 ⟨rfl,.inl ⟨_,rfl,q8 T (eq_of_beq U) g⟩⟩) λU=>?_;have F:TM kf a b (out.push eb) na (nb - 1):=⟨i1,i2,by have:=dN U;lia,dk,g⟩
    exact bE (λ_=>d6 ⟨rfl,.inr ⟨_,_,_,_,_,rfl,F,dk⟩⟩) λ_=>d6 ⟨rfl,_,_,_,_,_,rfl,F,dk⟩
  ·rintro c st2 ⟨rfl,p,o,l,C,B,rfl,O,x2⟩;have:=O.a1
   lia
  ·rintro c st2 ⟨rfl,⟨r,e,hr⟩|⟨L,K,out2,C,B,rfl,O,x2⟩⟩
   ·obtain⟨c1',c2'⟩:=c;cases e;exact d6 ⟨k1,_,rfl,hr⟩
   ·dsimp only;refine kZ ?_
    refine dV (wpS_mono (wpS_forRange (I:=λy c d=>Kp st d/\∃p o l z C B,c=(none,p,o,l,z,C,B)/\TM kf a b l p o/\p+o+y<=L+K)
     (Q:=λc d=>Kp st d/\((∃r,c.1=some r/\iV kf (a.toList++b.toList) r.toList)\/∃p o l z C B,c=(none,p,o,l,z,C,B)/\TM kf a b l p o/\p+o<=L+K)) ?_ ?_ ⟨k1,_,_,_,_,_,_,rfl,O,dk⟩) ?_)
    ·rintro y c st3 _ yt ⟨H,na,nb,out,z,C,B,rfl,F,x3⟩;dsimp only;obtain⟨i1,i2,i3,i4,ig⟩:=F;obtain⟨eb,J,me⟩:=gJ (a:=b) (i:=nb - 1) dk;generalize hm:z=N
     revert N
     refine AZ (λ_ d=>Kp st d) (λN G k4=>dV (wpS_modify ?_)) (λ_ k=>k _ _ H) λ_=>H;have k5:Kp st (SortSt.mk' (kindOf G) (arrOf G) (pendingOf G) N (failedOf G)):=⟨k4.kd,k4.ar,k4.pe,k4.fa⟩
     refine dV (cD J (dV (nA W (k5.kd.trans hk) (BE T.sa) T.ma (T.mb _ me) dk dk λat_ an f1 f2=>?_)));dsimp only;simp only[Nat.zero_add]at f1 f2;have gX:=LO an (λk x ik kn ek j y Y R=>ao (fC T.sb R J dk) (Nat.le_of_lt (f2 k x ik kn ek))) ig;generalize hq:na - at_=kq;generalize hO:out=u;generalize hI:na=q
     revert u q
     refine uW (λu q d=>Kp st d/\yA kf a b u q nb/\1<=q/\q<=a.size/\(∀j x,j<q->a[j]?=some x->kf x<=kf eb)/\q+nb+y<=L+K) ?_ ?_ λk0=>⟨k5,ig,i1,i2,by rw[show na=at_ by lia];exact f1,x3⟩
     rotate_left
     ·exact λk0 j=>bE (λc4=>d6 ⟨k5,.inl ⟨_,rfl,vE (eq_of_beq c4) gX⟩⟩) λc4=>j (out++(a.extract at_ na).reverse) at_ _ ⟨k5,gX,by have:=dN c4;lia,dk,f1,dk⟩
     rintro u q st6 ⟨X,gX,hX,hX2,fX,pX⟩;refine dV (cD J ?_);have gX':yA kf a b u q (nb - 1+1):=by rw[Nat.sub_add_cancel (show 1<=nb by lia)];exact gX
     have g1:=EZ J fX gX';refine bE (λc6=>d6 ⟨X,.inl ⟨_,rfl,q8 T (eq_of_beq c6) g1⟩⟩) λc6=>?_;have c6:=dN c6;obtain⟨xa,Z,mxa⟩:=gJ (a:=a) (i:=q - 1) dk;refine dV (cD Z (dV (nC W (X.kd.trans hk) (BE T.sb) T.mb (T.ma _ mxa) dk dk λbt bn q1 q2=>?_)));dsimp only;simp only[Nat.zero_add]at q1 q2;have P:=LN bn (λk y ik kn ek j x Y R=>ao (fC T.sa R Z dk) (q2 k y ik kn ek)) g1;have pb:nb - 1+1<=nb/\2<=nb - 1:=by lia
     generalize u.push eb=outP at g1 P⊢;generalize nb - 1=nbP at g1 P bn q1 q2 pb⊢;generalize hq2:nbP - bt=kq2;generalize hO:outP=t;generalize hI:nbP=v
     revert t v
     refine uW (λt v d=>Kp st d/\yA kf a b t q v/\2<=v/\v+1<=nb/\∀j y,j<v->b[j]?=some y->kf y<=kf xa) ?_ ?_ λk20=>⟨X,g1,pb.2,pb.1,λj y Y e=>Nat.le_of_lt (q1 j y dk e)⟩
     rotate_left
     ·exact λk20 j=>bE (λc7=>d6 ⟨X,.inl ⟨_,rfl,q8 T (eq_of_beq c7) P⟩⟩) λc7=>bE (λc9=>d6 ⟨X,.inl ⟨_,rfl,V4 (eq_of_beq c9) P⟩⟩) λc9=>j (outP++(b.extract bt nbP).reverse) bt _ ⟨X,P,by have:=dN c7;have:=dN c9;lia,dk,λj y Y e=>Nat.le_of_lt (q1 j y Y e)⟩
     rintro t v st7 ⟨k7,P,bY,bY2,lY⟩;refine dV (cD Z ?_);have gY':yA kf a b t (q - 1+1) v:=by rw[Nat.sub_add_cancel hX];exact P
     have g3:=E1 Z lY gY';refine bE (λc8=>d6 ⟨k7,.inl ⟨_,rfl,vE (eq_of_beq c8) g3⟩⟩) λc8=>?_;have m9:TM kf a b (t.push xa) (q - 1) v:=⟨by have:=dN c8;lia,dk,bY,dk,g3⟩
     exact bE (λ_=>d6 ⟨k7,.inr ⟨_,_,_,_,_,_,rfl,m9,dk⟩⟩) λ_=>d6 ⟨k7,_,_,_,_,_,_,rfl,m9,dk⟩
    ·rintro c st3 ⟨H,na,nb,out,z,C,B,rfl,F,x3⟩;have:=F.a1;have:=O.a2;have:=O.b2
     lia
    ·rintro c st3 ⟨H,⟨r,e,hr⟩|⟨na3,nb3,out3,mg3,C,B,rfl,F,x3⟩⟩
     ·obtain⟨c1',c2'⟩:=c;cases e;exact d6 ⟨H,_,rfl,hr⟩
     ·dsimp only;exact dV (wpS_modify (d6 ⟨⟨H.kd,H.ar,H.pe,H.fa⟩,_,_,_,_,rfl,F,dk⟩))
 ·rintro c d ⟨k,na,nb,out,mg,rfl,m,x1⟩;have:=m.a1
  lia
 ·rintro c d ⟨k,r,e,hr⟩;rw[e];exact d6 (h _ _ k hr)
end
noncomputable def kv (c:Keyed->Nat)(xs:Array Keyed)(i:Nat):Nat:=match xs[i]? with
 | some p=>c p
 | none=>0
def ES {c:Keyed->Nat}(h:xs[i]?=ys[j]?):kv c xs i=kv c ys j:=by unfold kv;rw[h]
def JO {c:Keyed->Nat}(h:xs[i]?=some x):kv c xs i=c x:=by unfold kv;rw[h]
def OP {c:Keyed->Nat}(i:src<xs.size)(hd:d<=src)(k:Nat):kv c (bubble xs src d) k=if k=src - d then kv c xs src else if src - d<k/\k<=src then kv c xs (k - 1)else kv c xs k:=by
 have e:=getElem?_bubble (xs:=xs) i d hd k;split <;> rename_i h
 ·rw[ai h]at e;exact ES e
 ·rw[ab h]at e;split <;> rename_i g
  ·rw[ai g]at e;exact ES e
  ·rw[ab g]at e;exact ES e
def GZ {c:Keyed->Nat}(g:j<=xs.size)(k:Nat):kv c (mirror xs i j ((j - i) / 2)) k=if i<=k/\k<j then kv c xs (i+j - 1 - k)else kv c xs k:=by
 have e:=getElem?_mirror_all (xs:=xs) (i:=i) g k;split <;> rename_i d
 ·rw[ai d]at e;exact ES e
 ·rw[ab d]at e;exact ES e
def SA {d:Keyed->Nat}(e:j<=xs.size)(c:∀k,i<=k->k<j->kv d xs k=kv d xs (j - 1))(k:Nat):kv d (mirror xs i j ((j - i) / 2)) k=kv d xs k:=by
 rw[GZ e];split
 ·rw[c k dk dk];exact c _ dk dk
 ·rfl
structure SR (κ:SortKind)(a0 a1:Array Keyed)(lo:Nat)(st0 st:SortSt):Prop where
 pm:(arrOf st).Perm a0
 kd:kindOf st=κ
 fa:failedOf st=none
 pe:pendingOf st=pendingOf st0
 pre:∀j,j<lo->(arrOf st)[j]?=a1[j]?
section
variable {M:Model}{A:dz}{E:cM}{s:du}{kf:Keyed->Nat}{κ:SortKind}{a0 a1:Array Keyed}{lo:Nat}{st0:SortSt}
def SR.size {st:SortSt}(h:SR κ a0 a1 lo st0 st):(arrOf st).size=a0.size:=h.pm.size_eq
def SR.mem {st:SortSt}(h:SR κ a0 a1 lo st0 st){i:Nat}(hi:i<a0.size):∃x,(arrOf st)[i]?=some x/\x∈a0.toList:=by obtain⟨x,e,m⟩:=gJ (a:=arrOf st) (i:=i) (by rw[h.size];exact hi);exact⟨x,e,(Array.perm_iff_toList_perm.mp h.pm).mem_iff.mp m⟩
def oA {st:SortSt}{i j:Nat}{Q:Option Bool->SortSt->Prop}(c:tN M A E s kf κ a0)(h:SR κ a0 a1 lo st0 st)(hi:i<a0.size)(l:j<a0.size)(q:Q (some (decide (kv kf (arrOf st) i<kv kf (arrOf st) j))) st):wpS M A E s (ltAt' i j) Q st:=by obtain⟨x,ex,g⟩:=h.mem hi;obtain⟨y,d,e⟩:=h.mem l;rw[JO ex,JO d]at q;refine dV (wpS_get ?_);exact dV (cD ex (dV (cD d (c _ _ g e st Q h.kd q))))
theorem SR.mirror {st:SortSt}(h:SR κ a0 a1 lo st0 st){i j d:Nat}(e:j<=a0.size)(hi:lo<=i):SR κ a0 a1 lo st0 (setArr st (PyProof.Rows.mirror (arrOf st) i j ((j - i) / 2))):=by refine⟨(mirror_perm _ _ _ _).trans h.pm,h.kd,h.fa,h.pe,λk c=>?_⟩;show(PyProof.Rows.mirror (arrOf st) i j ((j - i) / 2))[k]?=_;rw[getElem?_mirror_all (by rw[h.size];exact e),ab dk];exact h.pre k c
def oP (c:Keyed->Nat)(xs:Array Keyed)(lo n:Nat):Prop:=∀i j,i<=j->j<n->kv c xs (lo+i)<=kv c xs (lo+j)
def yC (c:Keyed->Nat)(xs:Array Keyed)(lo n:Nat):Prop:=∀i j,i<=j->j<n->kv c xs (lo+j)<=kv c xs (lo+i)
def oP.snoc (h:oP kf xs lo n)(g:1<=n)(e:¬kv kf xs (lo+n)<kv kf xs (lo+n - 1)):oP kf xs lo (n+1):=by
 intro i j c d;by_cases z:j<n
 ·exact h i j c z
 ·have:j=n:=by lia
  subst this;by_cases y:i=j
  ·subst y;exact ac _
  ·have:=h i (j - 1) dk dk;rw[show lo+(j - 1)=lo+j - 1 by lia]at this
   lia
def yC.snoc (h:yC kf xs lo n)(g:1<=n)(e:¬kv kf xs (lo+n - 1)<kv kf xs (lo+n)):yC kf xs lo (n+1):=by
 intro i j c d;by_cases z:j<n
 ·exact h i j c z
 ·have:j=n:=by lia
  subst this;by_cases y:i=j
  ·subst y;exact ac _
  ·have:=h i (j - 1) dk dk;rw[show lo+(j - 1)=lo+j - 1 by lia]at this
   lia
def yC.turned (h:yC kf xs lo n)(hz:lo+n<=xs.size):oP kf (PyProof.Rows.mirror xs lo (lo+n) ((lo+n - lo) / 2)) lo n:=by intro i j d c;rw[GZ hz,GZ hz,ai dk,ai dk];have:=h (n - 1 - j) (n - 1 - i) dk dk;rw[show lo+(lo+n) - 1 - (lo+i)=lo+(n - 1 - i)by lia,show lo+(lo+n) - 1 - (lo+j)=lo+(n - 1 - j)by lia];exact this
def uV {st:SortSt}{i j:Nat}{Q:Unit->SortSt->Prop}(h:Q () (setArr st (PyProof.Rows.mirror (arrOf st) i j ((j - i) / 2)))):wpS M A E s (reverseSlice' i j) Q st:=by rw[reverseSlice'_eq];exact wpS_modify h
def uP (c:Keyed->Nat)(xs:Array Keyed)(lo a n:Nat):Prop:=∀k,a<=k->k<n->kv c xs (lo+k)=kv c xs (lo+n - 1)
def sZ:uP kf xs lo (x+1 - (0+1)) (x+1):=λk d c=>by rw[show k=x by lia,show lo+(x+1) - 1=lo+x by lia]
def uP.fl (h:uP kf xs lo a n)(z:lo+n<=xs.size)(k:Nat):kv kf (PyProof.Rows.mirror xs (lo+a) (lo+n) ((lo+n - (lo+a)) / 2)) k=kv kf xs k :=
 SA z (λk d c=>by have:=h (k - lo) dk dk;rw[show lo+(k - lo)=k by lia]at this;exact this) k
def uP.dsc (h:uP kf xs lo (n - (e+1)) n)(z:lo+n<=xs.size)(l:e+1<=n)(d:yC kf xs lo m):yC kf (PyProof.Rows.mirror xs (lo+n - (e+1)) (lo+n) ((lo+n - (lo+n - (e+1))) / 2)) lo m:=λi j g c=>by have f:=h.fl z;rw[show lo+(n - (e+1))=lo+n - (e+1)by lia]at f;rw[f,f];exact d i j g c
def yG {l:Nat}{st:SortSt}{Q:Option Nat->SortSt->Prop}(t:tN M A E s kf κ a0)(h:SR κ a0 a1 lo st0 st)(O:1<=l)(hz:lo+l<=a0.size)
  (q:∀n g,SR κ a0 a1 lo st0 g->1<=n->n<=l->oP kf (arrOf g) lo n->Q (some n) g):wpS M A E s (countRun' lo l) Q st:=by
 refine dV (wpS_mono (wpS_forRange (I:=λx c g=>g=st/\c=(none,x)/\oP kf (arrOf st) lo x)
  (Q:=λc g=>g=st/\∃n,c=(none,n)/\1<=n/\n<=l/\oP kf (arrOf st) lo n/\(n=l\/kv kf (arrOf st) (lo+n)<kv kf (arrOf st) (lo+n - 1))) ?_ ?_ ⟨rfl,rfl,λi j T N=>?_⟩) ?_)
 ·rintro x c g H S ⟨rfl,rfl,up⟩;dsimp only;refine dV (oA t h dk dk ?_);dsimp only;by_cases w:kv kf (arrOf g) (lo+x)<kv kf (arrOf g) (lo+x - 1)
  ·rw[bi w,ai rfl];exact d6 ⟨rfl,x,rfl,H,dk,up,.inr w⟩
  ·rw[bo w,ab ad];exact d6 ⟨rfl,rfl,up.snoc H w⟩
 ·rintro c g ⟨rfl,rfl,up⟩;rw[show max 1 l=l by lia]at up⊢;exact⟨rfl,l,rfl,O,ac _,up,.inl rfl⟩
 ·rw[show i=0 by lia,show j=0 by lia];exact ac _
 ·rintro c g ⟨rfl,n,rfl,n1,nn,up,out⟩;dsimp only;refine bE (λ_=>d6 (q n g h n1 nn up)) λP=>?_;have P:n≠l:=by simpa using P
  have U:kv kf (arrOf g) (lo+n)<kv kf (arrOf g) (lo+n - 1):=out.resolve_left P;refine MJ (λr=>SR κ a0 a1 lo st0 r/\yC kf (arrOf r) lo n/\kv kf (arrOf r) (lo+n)<kv kf (arrOf r) (lo+n - 1)) (λr hI=>?_) (λc2 k=>?_) λc2=>⟨h,λi j T N=>by rw[show i=0 by lia,show j=0 by lia];exact ac _,U⟩
  ·obtain⟨S2,D2,dn2⟩:=hI;refine kZ ?_
   refine dV (wpS_mono (wpS_forRange (I:=λx c g=>SR κ a0 a1 lo st0 g/\∃e,c=(none,x,e)/\yC kf (arrOf g) lo x/\e+1<=x/\uP kf (arrOf g) lo (x - (e+1)) x)
    (Q:=λc g=>SR κ a0 a1 lo st0 g/\∃m e,c=(none,m,e)/\1<=m/\m<=l/\yC kf (arrOf g) lo m/\e+1<=m/\uP kf (arrOf g) lo (m - (e+1)) m) ?_ ?_ ⟨S2,0,rfl,D2.snoc n1 dk,dk,sZ⟩) ?_)
   ·rintro x c C S xr ⟨p,e,rfl,u,F,B⟩;dsimp only;refine dV (oA t p dk dk ?_);dsimp only;refine bE (λw=>?_) λw=>?_
    ·have G:=u.snoc dk (by have:=bu w;lia);refine bE (λe0=>dV (uV (d6 ⟨p.mirror (d:=0) dk dk,0,rfl,?_,dk,sZ⟩))) λ_=>d6 ⟨p,0,rfl,G,dk,sZ⟩;exact B.dsc (by rw[p.size];lia) dk G
    ·refine dV (oA t p dk dk ?_);dsimp only;refine bE (λ_=>d6 ⟨p,x,e,rfl,dk,dk,u,F,B⟩) λv=>d6 ⟨p,e+1,rfl,u.snoc dk (mL v),dk,λk k1 k2=>?_⟩;have w:=mL w;have v:=mL v;rw[show lo+(x+1) - 1=lo+x by lia];by_cases y:k=x
     ·rw[y]
     ·rw[B k dk dk]
      lia
   ·rintro c C ⟨p,e,rfl,u,F,B⟩;rw[show max (n+1) l=l by lia]at u F B⊢;exact⟨p,l,e,rfl,O,ac _,u,F,B⟩
   ·rintro c C ⟨p,m,e,rfl,m1,mr,u,F,B⟩;dsimp only;refine MJ (λo=>SR κ a0 a1 lo st0 o/\yC kf (arrOf o) lo m) (λo ⟨W,G⟩=>?_) (λe0 k=>dV (uV (k _ ⟨p.mirror (d:=0) dk dk,B.dsc (by rw[p.size];lia) dk u⟩))) λ_=>⟨p,u⟩
    refine dV (uV ?_);have R:=W.mirror (i:=lo) (j:=lo+m) (d:=0) dk (ac _);have X:oP kf (arrOf (setArr o (PyProof.Rows.mirror (arrOf o) lo (lo+m) ((lo+m - lo) / 2)))) lo m:=G.turned (by rw[W.size];lia);generalize setArr o (PyProof.Rows.mirror (arrOf o) lo (lo+m) ((lo+m - lo) / 2))=st5 at R X⊢
    refine dV (wpS_mono (wpS_forRange (I:=λx c g=>g=st5/\c=(none,x)/\oP kf (arrOf st5) lo x)
     (Q:=λc g=>g=st5/\∃n,c=(none,n)/\1<=n/\n<=l/\oP kf (arrOf st5) lo n) ?_ ?_ ⟨rfl,rfl,X⟩) ?_)
    ·rintro x c g H S ⟨rfl,rfl,up⟩;dsimp only;refine dV (oA t R dk dk ?_);dsimp only;exact bE (λ_=>d6 ⟨rfl,x,rfl,dk,dk,up⟩) λw=>d6 ⟨rfl,rfl,up.snoc dk (mL w)⟩
    ·rintro c g ⟨rfl,rfl,up⟩;rw[show max m l=l by lia]at up⊢;exact⟨rfl,l,rfl,O,ac _,up⟩
    ·rintro c g ⟨rfl,Y,rfl,L,K,J⟩;exact d6 (q Y g R L K J)
  ·refine dV (oA t h dk dk ?_);dsimp only;refine bE (λ_=>d6 (q n g h n1 nn up)) λz=>?_;have z:=mL z;have same:uP kf (arrOf g) lo 0 n:=λk _ Z=>by
    have a1:=up 0 k dk Z;have a2:=up k (n - 1) dk dk;rw[show lo+(n - 1)=lo+n - 1 by lia]at a2;rw[Nat.add_zero]at a1
    lia
   have fl:=same.fl (by rw[h.size];lia);rw[Nat.add_zero]at fl;refine dV (uV (k _ ⟨h.mirror (d:=0) dk (ac _),λi j T N=>?_,?_⟩))
   ·show kv kf (PyProof.Rows.mirror _ _ _ _) _<=kv kf (PyProof.Rows.mirror _ _ _ _) _;rw[fl,fl,same i dk dk,same j dk N];exact ac _
   ·show kv kf (PyProof.Rows.mirror _ _ _ _) _<kv kf (PyProof.Rows.mirror _ _ _ _) _;rw[fl,fl];exact U
def QD {st:SortSt}{i j:Nat}{Q:Unit->SortSt->Prop}(h:Q () (setArr st (bubble (arrOf st) i (i - j)))):wpS M A E s (moveDown' i j) Q st:=by rw[moveDown'_eq];exact wpS_modify h
def SR.bub {st:SortSt}(h:SR κ a0 a1 lo st0 st){k l:Nat}(c:lo+k<a0.size)(e:l<=k):SR κ a0 a1 lo st0 (setArr st (bubble (arrOf st) (lo+k) (lo+k - (lo+l)))):=by refine⟨(bubble_perm _ _ _).trans h.pm,h.kd,h.fa,h.pe,λj d=>?_⟩;show(bubble (arrOf st) (lo+k) (lo+k - (lo+l)))[j]?=_;rw[getElem?_bubble (by rw[h.size];exact c) _ dk,ab dk,ab dk];exact h.pre j d
def DF {n ok:Nat}{st:SortSt}{Q:Bool->SortSt->Prop}(C:tN M A E s kf κ a0)(h:SR κ a0 a1 lo st0 st)(hz:lo+n<=a0.size)(hok:ok<=n)(up:oP kf (arrOf st) lo ok)
  (q:∀m,SR κ a0 a1 lo st0 m->oP kf (arrOf m) lo n->Q true m):wpS M A E s (binarySort' lo n ok) Q st:=by
 refine dV (wpS_mono (wpS_forRange (I:=λk c m=>c=(none,())/\SR κ a0 a1 lo st0 m/\oP kf (arrOf m) lo (min k n))
  (Q:=λc m=>c=(none,())/\SR κ a0 a1 lo st0 m/\oP kf (arrOf m) lo n) ?_ ?_ ⟨rfl,h,λi j B G=>?_⟩) ?_)
 ·rintro k c d S F ⟨rfl,t,o⟩;rw[Nat.min_eq_left (Nat.le_of_lt F)]at o
  refine dV (wpS_mono (wpS_forRange (I:=λx c m=>m=d/\∃l r,c=(none,l,r)/\l<=r/\r<=k/\r - l<=k - x/\(∀i,i<l->kv kf (arrOf d) (lo+i)<=kv kf (arrOf d) (lo+k))/\∀i,r<=i->i<k->kv kf (arrOf d) (lo+k)<kv kf (arrOf d) (lo+i))
   (Q:=λc m=>m=d/\∃l,c=(none,l,l)/\l<=k/\(∀i,i<l->kv kf (arrOf d) (lo+i)<=kv kf (arrOf d) (lo+k))/\∀i,l<=i->i<k->kv kf (arrOf d) (lo+k)<kv kf (arrOf d) (lo+i)) ?_ ?_ ⟨rfl,0,k,rfl,dk,dk,dk,λi hi=>by lia,λi W U=>by lia⟩) ?_)
  ·rintro x c p _ R ⟨rfl,l,r,rfl,K,v,P,b1,b2⟩;dsimp only;by_cases g:l ≥ r
   ·rw[ai g];have e:l=r:=by lia
    subst e;exact d6 ⟨rfl,l,rfl,v,b1,b2⟩
   rw[ab g];refine dV (oA C t dk dk ?_);dsimp only;by_cases w:kv kf (arrOf p) (lo+k)<kv kf (arrOf p) (lo+(l+r) / 2)
   ·rw[bi w,ai rfl];exact d6 ⟨rfl,l,(l+r) / 2,rfl,dk,dk,dk,b1,λi u H=>bg w (o _ _ u H)⟩
   ·rw[bo w,ab ad];exact d6 ⟨rfl,(l+r) / 2+1,r,rfl,dk,v,dk,λi u=>ao (o i ((l+r) / 2) dk dk) dk,b2⟩
  ·rintro c p ⟨rfl,l,r,rfl,K,v,P,b1,b2⟩;have e:l=r:=by lia
   subst e;exact⟨rfl,l,rfl,v,b1,b2⟩
  ·rintro c p ⟨rfl,l,rfl,N,b1,b2⟩;dsimp only;refine dV (QD (d6 ⟨rfl,t.bub dk N,λi j B G=>?_⟩));rw[Nat.min_eq_left (show k+1<=n from F)]at G;have J:lo+k<(arrOf p).size:=by rw[t.size];lia
   show kv kf (bubble _ _ _) _<=kv kf (bubble _ _ _) _;rw[OP J dk,OP J dk,show lo+k - (lo+k - (lo+l))=lo+l by lia];have L:∀i,i<l->kv kf (arrOf p) (lo+i)<=kv kf (arrOf p) (lo+k):=b1;by_cases O:j=l
   ·subst O;by_cases u:i=j
    ·subst u;exact ac _
    ·rw[ai (show lo+j=lo+j from rfl),ab dk,ab dk];exact b1 i dk
   ·by_cases T:j<l
    ·rw[ab (show ¬lo+j=lo+l by lia),ab (show ¬(lo+l<lo+j/\lo+j<=lo+k)by lia),ab dk,ab dk];exact o i j B dk
    ·rw[ab (show ¬lo+j=lo+l by lia),ai (show lo+l<lo+j/\lo+j<=lo+k by lia),show lo+j - 1=lo+(j - 1)by lia];by_cases u:i=l
     ·rw[ai dk];exact Nat.le_of_lt (b2 (j - 1) dk dk)
     ·by_cases H:i<l
      ·rw[ab dk,ab dk];exact o i (j - 1) dk dk
      ·rw[ab dk,ai dk,show lo+i - 1=lo+(i - 1)by lia];exact o (i - 1) (j - 1) dk dk
 ·rintro c d ⟨rfl,t,o⟩;rw[show min (max (max ok 1) n) n=n by lia]at o;exact⟨rfl,t,o⟩
 ·by_cases z:ok=0
  ·rw[show i=0 by lia,show j=0 by lia];exact ac _
  ·exact up i j B dk
 ·rintro c d ⟨rfl,t,o⟩;exact d6 (q d t o)
end
section
variable {kf:Keyed->Nat}{arr:Array Keyed}{L ra rb R X:List Keyed}
def mM (e:arr.toList=L++(ra++R))(hi:i<ra.length):arr[L.length+i]?=ra[i]?:=by rw[←Array.getElem?_toList,e,List.getElem?_append_right (Nat.le_add_right _ _),Nat.add_sub_cancel_left,List.getElem?_append_left hi]
def tR {l:List Keyed}(p:l.Pairwise (vL kf)){i j:Nat}{x y:Keyed}(d:i<=j)(ex:l[i]?=some x)(c:l[j]?=some y):kf x<=kf y:=by
 rcases Nat.eq_or_lt_of_le d with rfl|lt
 ·rw[ex]at c;cases c;exact ac _
 ·obtain⟨hi,h⟩:=cs.mp ex;obtain⟨e,g⟩:=cs.mp c;have:=List.pairwise_iff_getElem.mp p i j hi e lt;rw[h,g]at this;exact this
def I9 (e:arr.toList=L++(ra++R))(p:ra.Pairwise (vL kf)):MG kf arr L.length ra.length:=λi j x y d c ex g =>
 tR p d (by rw[←mM e dk];exact ex) (by rw[←mM e c];exact g)
def PF (e:arr.toList=L++(X++R)):(arr.extract L.length (L.length+X.length)).toList=X:=by rw[CY,e,List.drop_left,List.take_left]
def ON (e:arr.toList=L++(X++R)):L.length+X.length<=arr.size:=by
 have:=congrArg List.length e;rw[br,au,au]at this
 lia
theorem D5:∀(m:List Keyed) {d:Array Keyed} {L Z R:List Keyed} {k b:Nat},d.toList=L++(Z++R)->Z.length=m.length->L.length=b+k->((m.zipIdx k).foldl (λa x=>match x with|(p,j)=>a.setIfInBounds (b+j) p) d).toList=L++(m++R)
 | [],d,L,Z,R,k,b,e,z,l=>by
  rw[List.length_eq_zero_iff.mp z]at e;exact e
 | x::m,d,L,[],R,k,b,e,z,l=>by cases z
 | x::m,d,L,c::Z,R,k,b,e,z,l=>by
  rw[List.zipIdx_cons,List.foldl_cons];have e':(d.setIfInBounds (b+k) x).toList=(L++[x])++(Z++R):=by rw[Array.toList_setIfInBounds,e,←l,List.set_append_right _ _ (ac _),Nat.sub_self];show L++(x::(Z++R))=_;rw[cq];rfl
  have:=D5 m (k:=k+1) (b:=b) e' (by simpa using z) (by rw[au,l];rfl);rw[this,cq];rfl
def NB (h:l.Pairwise (vL kf)):iV kf l l:=⟨List.Perm.refl _,h⟩
def F8 (sa:ra.Pairwise (vL kf))(sb:rb.Pairwise (vL kf))(h:∀x∈ra,∀y∈rb,kf x<=kf y):(ra++rb).Pairwise (vL kf):=List.pairwise_append.mpr ⟨sa,sb,h⟩
def QP (sa:ra.Pairwise (vL kf))(sb:rb.Pairwise (vL kf))(p:rb[0]?=some b0)(s:ra[ra.length - 1]?=some al)(f1:∀i x,i<k->ra[i]?=some x->kf x<=kf b0)(q:∀i y,m<=i->rb[i]?=some y->kf al<=kf y)
  (h:iV kf (ra.drop k++rb.take m) r):iV kf (ra++rb) (ra.take k++(r++rb.drop m)):=by
 have inr:∀x∈r,(∃i,k<=i/\ra[i]?=some x)\/∃i,i<m/\rb[i]?=some x:=λx d=>by
  rcases cx.mp (h.1.mem_iff.mp d)with z|z
  ·obtain⟨i,c⟩:=List.getElem?_of_mem z;rw[List.getElem?_drop]at c;exact .inl ⟨k+i,Nat.le_add_right _ _,c⟩
  ·obtain⟨i,c⟩:=List.getElem?_of_mem z;rw[List.getElem?_take]at c;by_cases w:i<m
   ·rw[ai w]at c;exact .inr ⟨i,w,c⟩
   ·rw[ab w]at c;cases c
 have inl:∀x∈ra.take k,∃i,i<k/\ra[i]?=some x:=λx d=>by
  obtain⟨i,c⟩:=List.getElem?_of_mem d;rw[List.getElem?_take]at c;by_cases w:i<k
  ·rw[ai w]at c;exact⟨i,w,c⟩
  ·rw[ab w]at c;cases c
 have ind:∀x∈rb.drop m,∃i,m<=i/\rb[i]?=some x:=λx d=>by obtain⟨i,c⟩:=List.getElem?_of_mem d;rw[List.getElem?_drop]at c;exact⟨m+i,Nat.le_add_right _ _,c⟩
 refine⟨?_,F8 (sa.sublist (List.take_sublist _ _)) (F8 h.2 (sb.sublist (List.drop_sublist _ _)) λx d y l=>?_) λx d y l=>?_⟩
 ·conv=>rhs;rw[←List.take_append_drop k ra,←List.take_append_drop m rb,cq,←cq (ra.drop k)]
  exact(h.1.append_right _).append_left _
 ·obtain⟨j,o,e⟩:=ind y l;rcases inr x d with⟨i,g,c⟩|⟨i,v,c⟩
  ·have lt:=(cs.mp c).1;exact ao (tR sa dk c s) (q j y o e)
  ·exact tR sb dk c e
 ·obtain⟨i,g,c⟩:=inl x d;rcases cx.mp l with z|z
  ·rcases inr y z with⟨j,t,e⟩|⟨j,u,e⟩
   ·exact tR sa dk c e
   ·exact ao (f1 i x g c) (tR sb (aw _) p e)
  ·obtain⟨j,o,e⟩:=ind y z;exact ao (f1 i x g c) (tR sb (aw _) p e)
end
section
variable {M:Model}{A:dz}{E:cM}{s:du}{kf:Keyed->Nat}{κ:SortKind}{a0:Array Keyed}
def QC {d:Type}{st c:d}{Q:PUnit->d->Prop}(h:Q ⟨⟩ c):wpS M A E s (set c:StateT d Sem PUnit) Q st:=by unfold wpS;rw[StateT.run_set];exact ak ⟨rfl,h⟩
def AY {i N W:Nat}{L ra d R:List Keyed}{st:SortSt}{Q:Bool->SortSt->Prop}(v:tN M A E s kf κ a0)(B:kindOf st=κ)(U:failedOf st=none)(mem:∀x∈(arrOf st).toList,x∈a0.toList)(e:(arrOf st).toList=L++(ra++(d++R)))
  (p1:(pendingOf st)[i]?=some (L.length,ra.length,N)) (p2:(pendingOf st)[i+1]?=some (L.length+ra.length,d.length,W)) (sa:ra.Pairwise (vL kf)) (sb:d.Pairwise (vL kf)) (na:ra≠[]) (nb:d≠[])
  (q:∀c rm,kindOf c=κ->failedOf c=none->pendingOf c=((pendingOf st).setIfInBounds i (L.length,ra.length+d.length,N)).eraseIdxIfInBounds (i+1)->(arrOf c).toList=L++(rm++R)->iV kf (ra++d) rm->Q true c):wpS M A E s (mergeAt' i) Q st:=by
 have la:1<=ra.length:=List.length_pos_iff.mpr na;have lb:1<=d.length:=List.length_pos_iff.mpr nb;have P:(arrOf st).toList=(L++ra)++(d++R):=by rw[e,cq]
 have u:(L++ra).length=L.length+ra.length:=au;have l1:=ON e;have l2:=ON P;rw[u]at l2;obtain⟨K,eb0⟩:∃K,d[0]?=some K:=⟨d[0],ay lb⟩
 obtain⟨I,eal⟩:∃I,ra[ra.length - 1]?=some I:=⟨ra[ra.length - 1],ay dk⟩
 have hb0:(arrOf st)[L.length+ra.length]?=some K:=by have:=mM P lb;rw[u,Nat.add_zero]at this;rw[this];exact eb0
 have hal:(arrOf st)[L.length+(ra.length - 1)]?=some I:=by rw[mM e dk];exact eal
 have X:K∈a0.toList:=mem _ (by rw[e];exact bz _ (bz _ (cj _ (bj eb0))));have Y:I∈a0.toList:=mem _ (by rw[e];exact bz _ (cj _ (bj eal)));have C:(∀x∈ra,∀y∈d,kf x<=kf y)->iV kf (ra++d) (ra++d):=λh=>NB (F8 sa sb h);have e0:(arrOf st).toList=L++((ra++d)++R):=by rw[e,cq]
 refine dV (wpS_get ?_);rw[p1,p2];dsimp only;refine dV (QC ?_);refine dV (cD hb0 (dV (nA v B (I9 e sa) mem X l1 dk λk kn f1 f2=>?_)));dsimp only;have f1':∀i x,i<k->ra[i]?=some x->kf x<=kf K:=λi x ik ex=>f1 i x ik (by rw[mM e dk];exact ex);have f2':∀i x,k<=i->ra[i]?=some x->kf K<kf x:=λi x ik ex=>by have lt:=(cs.mp ex).1;exact f2 i x ik lt (by rw[mM e lt];exact ex)
 by_cases c1:ra.length - k=0
 ·rw[ai (by simpa using c1)];refine d6 (q _ _ B U rfl e0 (C λx l y J=>?_));obtain⟨i,O⟩:=List.getElem?_of_mem l;obtain⟨j,o⟩:=List.getElem?_of_mem J;have lt:=(cs.mp O).1;exact ao (f1' i x dk O) (tR sb (aw _) eb0 o)
 rw[ab (by simpa using c1)];have hal':(arrOf st)[L.length+k+(ra.length - k) - 1]?=some I:=by rw[show L.length+k+(ra.length - k) - 1=L.length+(ra.length - 1)by lia];exact hal
 have sg:=I9 P sb;rw[u]at sg;refine dV (cD hal' (dV (nC v B sg mem Y dk dk λm mn q1 q2=>?_)));dsimp only;have S:∀i,i<d.length->(arrOf st)[L.length+ra.length+i]?=d[i]?:=λi hi=>by have:=mM P hi;rw[u]at this;exact this
 have q1':∀i y,i<m->d[i]?=some y->kf y<kf I:=λi y Z H=>q1 i y Z (by rw[S i dk];exact H);have q2':∀i y,m<=i->d[i]?=some y->kf I<=kf y:=λi y Z H=>by have lt:=(cs.mp H).1;exact q2 i y Z lt (by rw[S i lt];exact H)
 by_cases c2:m=0
 ·rw[ai (by simpa using c2)];refine d6 (q _ _ B U rfl e0 (C λx l y J=>?_));obtain⟨i,O⟩:=List.getElem?_of_mem l;obtain⟨j,o⟩:=List.getElem?_of_mem J;have lt:=(cs.mp O).1;exact ao (tR sa dk O eal) (q2' j y dk o)
 rw[ab (by simpa using c2)];have G:((arrOf st).extract (L.length+k) (L.length+ra.length)).toList=ra.drop k:=by
  have e3:(arrOf st).toList=(L++ra.take k)++(ra.drop k++(d++R)):=by rw[e,cq,←cq (ra.take k),List.take_append_drop]
  have:=PF e3;rw[au,bv,bx,Nat.min_eq_left kn,show L.length+k+(ra.length - k)=L.length+ra.length by lia]at this;exact this
 have F:((arrOf st).extract (L.length+ra.length) (L.length+ra.length+m)).toList=d.take m:=by
  have e3:(arrOf st).toList=(L++ra)++(d.take m++(d.drop m++R)):=by rw[P,←cq (d.take m),List.take_append_drop]
  have:=PF e3;rw[u,bv,Nat.min_eq_left mn]at this;exact this
 have T:TD kf a0 ((arrOf st).extract (L.length+k) (L.length+ra.length)) ((arrOf st).extract (L.length+ra.length) (L.length+ra.length+m)):=by
  have zx:((arrOf st).extract (L.length+k) (L.length+ra.length)).size=ra.length - k:=by rw[←br,G,bx]
  have zy:((arrOf st).extract (L.length+ra.length) (L.length+ra.length+m)).size=m:=by rw[←br,F,bv,Nat.min_eq_left mn]
  refine⟨by rw[G];exact sa.sublist (List.drop_sublist _ _),by rw[F];exact sb.sublist (List.take_sublist _ _),λx l=>?_,λx l=>?_,dk,dk,λx y H l=>?_,λx y ex J=>?_⟩
  ·rw[G]at l;exact mem x (by rw[e];exact bz _ (cj _ (List.mem_of_mem_drop l)))
  ·rw[F]at l;exact mem x (by rw[e];exact bz _ (bz _ (cj _ (List.mem_of_mem_take l))))
  ·rw[←Array.getElem?_toList,F,List.getElem?_take,ai dk,eb0]at H;cases H;rw[G]at l;obtain⟨j,o⟩:=List.getElem?_of_mem l;rw[List.getElem?_drop]at o;exact f2' _ x (Nat.le_add_right _ _) o
  ·rw[←Array.getElem?_toList,zx,G,List.getElem?_drop,show k+(ra.length - k - 1)=ra.length - 1 by lia,eal]at ex;cases ex;rw[F]at J;obtain⟨j,o⟩:=List.getElem?_of_mem J;rw[List.getElem?_take]at o;by_cases w:j<m
   ·rw[ai w]at o;exact q1' j y w o
   ·rw[ab w]at o;cases o
 have fin:∀(r:Array Keyed) (g c:SortSt),kindOf g=κ->failedOf g=none->arrOf g=arrOf st->pendingOf g=((pendingOf st).setIfInBounds i (L.length,ra.length+d.length,N)).eraseIdxIfInBounds (i+1)->Kp g c->iV kf (ra.drop k++d.take m) r.toList ->
   wpS M A E s (do modify (λs=>setArr s ((r.toList.zipIdx).foldl (λa x=>match x with|(p,j)=>a.setIfInBounds (L.length+k+j) p) (arrOf s)));let t ←get;pure (failedOf t).isNone) Q c:=by
  intro r g c k1 k2 k3 k4 kp z;refine dV (wpS_modify ?_);refine dV (wpS_get ?_);have e4:(arrOf c).toList=(L++ra.take k)++((ra.drop k++d.take m)++(d.drop m++R)):=by rw[kp.ar,k3,e,cq,cq,←cq (d.take m),List.take_append_drop,←cq (ra.take k),List.take_append_drop]
  have e5:=D5 r.toList (k:=0) (b:=L.length+k) e4 z.1.length_eq.symm (by rw[au,bv,Nat.min_eq_left kn];rfl);rw[show(failedOf (setArr c _)).isNone=true by show(failedOf c).isNone=true;rw[kp.fa,k2];rfl];refine d6 (q _ (ra.take k++(r.toList++d.drop m)) (kp.kd.trans k1) (kp.fa.trans k2) (kp.pe.trans k4) ?_ (QP sa sb eb0 eal f1' q2' z));refine e5.trans ?_;rw[cq,cq,cq]
 by_cases c3:ra.length - k<=m
 ·rw[ai c3];exact dV (DD v B T λr c kp z=>fin r (SortSt.mk' (kindOf st) (arrOf st) (((pendingOf st).setIfInBounds i (L.length,ra.length+d.length,N)).eraseIdxIfInBounds (i+1)) (gallopOf st) (failedOf st)) c B U rfl rfl kp (by rw[G,F]at z;exact z))
 ·rw[ab c3];exact dV (DE v B T λr c kp z=>fin r (SortSt.mk' (kindOf st) (arrOf st) (((pendingOf st).setIfInBounds i (L.length,ra.length+d.length,N)).eraseIdxIfInBounds (i+1)) (gallopOf st) (failedOf st)) c B U rfl rfl kp (by rw[G,F]at z;exact z))
end
noncomputable def offs:Nat->List (List Keyed)->List (Nat×Nat)
 | _,[]=>[]
 | a,r::rs=>(a,r.length)::offs (a+r.length) rs
theorem qU:∀(a:Nat) (rs ts:List (List Keyed)),offs a (rs++ts)=offs a rs++offs (a+rs.flatten.length) ts
 | a,[],ts=>by simp[offs]
 | a,r::rs,ts=>by show(a,r.length)::offs (a+r.length) (rs++ts)=(a,r.length)::(offs (a+r.length) rs++_);rw[qU (a+r.length) rs ts,List.flatten_cons,au,Nat.add_assoc]
def wL:∀(a:Nat) (rs:List (List Keyed)),(offs a rs).length=rs.length
 | _,[]=>rfl
 | a,r::rs=>by show(offs (a+r.length) rs).length+1=rs.length+1;rw[wL]
def map_erase {c d:Type}(f:c->d):∀(l:List c) (k:Nat),(l.eraseIdx k).map f=(l.map f).eraseIdx k
 | [],_=>rfl
 | _::_,0=>rfl
 | x::l,k+1=>congrArg (f x :: ·) (map_erase f l k)
noncomputable abbrev two3 (p:Nat×Nat×Nat):Nat×Nat:=(p.1,p.2.1)
structure SI (kf:Keyed->Nat)(κ:SortKind)(a0:Array Keyed)(rs:List (List Keyed))(rest:List Keyed)(st:SortSt):Prop where
 ar:(arrOf st).toList=rs.flatten++rest
 pe:(pendingOf st).toList.map two3=offs 0 rs
 so:∀r∈rs,r≠[]/\r.Pairwise (vL kf)
 kd:kindOf st=κ
 fa:failedOf st=none
 pm:(arrOf st).Perm a0
section
variable {M:Model}{A:dz}{E:cM}{s:du}{kf:Keyed->Nat}{κ:SortKind}{a0:Array Keyed}{rs:List (List Keyed)}{rest:List Keyed}
def SI.many {st:SortSt}(h:SI kf κ a0 rs rest st):(pendingOf st).size=rs.length:=by have:=congrArg List.length h.pe;rw[ae,br,wL]at this;exact this
def UN (h:i+1<rs.length):∃r1 ra c d,rs=r1++ra::c::d/\r1.length=i:=by refine⟨rs.take i,rs[i],rs[i+1],rs.drop (i+1+1),?_,by rw[bv];lia⟩;rw[←List.drop_eq_getElem_cons h,←List.drop_eq_getElem_cons (show i<rs.length by lia),List.take_append_drop]
def tO {i:Nat}{st:SortSt}{Q:Bool->SortSt->Prop}(v:tN M A E s kf κ a0)(h:SI kf κ a0 rs rest st)(hi:i+1<rs.length)
  (q:∀c g,SI kf κ a0 g rest c->g.length+1=rs.length->g.flatten.length=rs.flatten.length->Q true c):wpS M A E s (mergeAt' i) Q st:=by
 obtain⟨r1,ra,e,l,rfl,K⟩:=UN hi;have j:offs 0 (r1++ra::e::l)=offs 0 r1++(r1.flatten.length,ra.length)::(r1.flatten.length+ra.length,e.length)::offs (r1.flatten.length+ra.length+e.length) l:=by rw[qU,Nat.zero_add];rfl
 have d:(offs 0 r1).length=i:=by rw[wL,K]
 have o:((pendingOf st).toList.map two3)[i]?=some (r1.flatten.length,ra.length):=by rw[h.pe,j,List.getElem?_append_right dk,d,Nat.sub_self];rfl
 have m:((pendingOf st).toList.map two3)[i+1]?=some (r1.flatten.length+ra.length,e.length):=by rw[h.pe,j,List.getElem?_append_right dk,d,Nat.add_sub_cancel_left];rfl
 rw[bS,Array.getElem?_toList]at o m;obtain⟨⟨W,U,X⟩,J,G⟩:=Option.map_eq_some_iff.mp o;obtain⟨⟨T,S,H⟩,I,F⟩:=Option.map_eq_some_iff.mp m;cases G;cases F;have C:(arrOf st).toList=r1.flatten++(ra++(e++(l.flatten++rest))):=by rw[h.ar,List.flatten_append,List.flatten_cons,List.flatten_cons];simp only[cq]
 have mem:∀x∈(arrOf st).toList,x∈a0.toList:=λx P=>(Array.perm_iff_toList_perm.mp h.pm).mem_iff.mp P;have sa:=h.so ra dl;have sb:=h.so e dl;refine AY v h.kd h.fa mem C J I sa.2 sb.2 sa.1 sb.1 λc p O N L B u=>?_;have t:p.length=ra.length+e.length:=by rw[u.1.length_eq,au]
 refine q c (r1++p::l) ⟨?_,?_,λr R=>?_,O,N,?_⟩ ?_ ?_
 ·rw[B,List.flatten_append,List.flatten_cons];simp only[cq]
 ·rw[L,Array.toList_eraseIdxIfInBounds,Array.toList_setIfInBounds,map_erase,List.map_set,h.pe,j,qU,Nat.zero_add];show((offs 0 r1++_).set i (r1.flatten.length,ra.length+e.length)).eraseIdx (i+1)=offs 0 r1++(r1.flatten.length,p.length)::offs (r1.flatten.length+p.length) l;rw[List.set_append_right _ _ dk,d,Nat.sub_self,List.eraseIdx_append_of_length_le dk,d,Nat.add_sub_cancel_left,t,Nat.add_assoc];rfl
 ·rcases cx.mp R with z|z
  ·exact h.so r (cj _ z)
  ·rcases cw.mp z with rfl|z
   ·exact⟨λw=>sa.1 (List.length_eq_zero_iff.mp (by rw[w]at t;simp at t;lia)),u.2⟩
   ·exact h.so r (bz _ (ba _ (ba _ z)))
 ·refine Array.Perm.trans (Array.perm_iff_toList_perm.mpr ?_) h.pm;rw[B,C,←cq ra];exact((u.1.append_right _).append_left _)
 ·simp only[au,aq]
  lia
 ·rw[List.flatten_append,List.flatten_append,List.flatten_cons,List.flatten_cons,List.flatten_cons];simp only[au]
  lia
def S8 {c:Array Keyed}{lo n:Nat}(h:oP kf c lo n):((c.toList.drop lo).take n).Pairwise (vL kf):=by
 refine List.pairwise_iff_getElem.mpr λi j hi l o=>?_;have m:j<n:=by rw[bv]at l;lia
 have g:∀k (d:k<((c.toList.drop lo).take n).length),c[lo+k]?=some (((c.toList.drop lo).take n)[k]):=λk d=>by have e:=ay d;rw[←e,List.getElem?_take,ai (by rw[bv]at d;lia),List.getElem?_drop,Array.getElem?_toList]
 have:=h i j (Nat.le_of_lt o) m;rw[JO (g i hi),JO (g j l)]at this;exact this
def SI.found {st c:SortSt}(h:SI kf κ a0 rs rest st)(r:SR κ a0 (arrOf st) rs.flatten.length st c):SI kf κ a0 rs ((arrOf c).toList.drop rs.flatten.length) c:=by
 refine⟨?_,by rw[r.pe];exact h.pe,h.so,r.kd,r.fa,r.pm⟩;have t:(arrOf c).toList.take rs.flatten.length=rs.flatten:=by
  refine List.ext_getElem? λj=>?_;rw[List.getElem?_take];by_cases z:j<rs.flatten.length
  ·rw[ai z,Array.getElem?_toList,r.pre j z,←Array.getElem?_toList,h.ar,List.getElem?_append_left z]
  ·rw[ab z,List.getElem?_eq_none dk]
 conv=>lhs;rw[←List.take_append_drop rs.flatten.length (arrOf c).toList,t]
def JL {c d:Type}(g:c->d)(f:c->c)(e:∀x,g (f x)=g x):∀(l:List c) (k:Nat),(l.modify k f).map g=l.map g
 | [],k=>by simp
 | x::l,0=>by simp[e]
 | x::l,k+1=>by simp[JL g f e l k]
def oJ (h:n<=rest.length):(rs++[rest.take n]).flatten.length=rs.flatten.length+n:=by rw[List.flatten_append,au,List.flatten_cons,List.flatten_nil,bp,bv,Nat.min_eq_left h]
def SI.run {st c:SortSt}{n:Nat}(h:SI kf κ a0 rs rest st)(d:n<=rest.length)(n1:1<=n)(e:(rest.take n).Pairwise (vL kf))(ar:arrOf c=arrOf st)(kd:kindOf c=kindOf st)(fa:failedOf c=failedOf st)
  (pe:(pendingOf c).toList.map two3=(pendingOf st).toList.map two3++[(rs.flatten.length,n)]):SI kf κ a0 (rs++[rest.take n]) (rest.drop n) c:=by
 refine⟨?_,?_,λr g=>?_,kd.trans h.kd,fa.trans h.fa,by rw[ar];exact h.pm⟩
 ·rw[ar,h.ar,List.flatten_append,List.flatten_cons,List.flatten_nil,bp,cq,List.take_append_drop]
 ·rw[pe,h.pe,qU,Nat.zero_add];show _=offs 0 rs++[(rs.flatten.length,(rest.take n).length)];rw[bv,Nat.min_eq_left d]
 ·rcases cx.mp g with z|z
  ·exact h.so r z
  ·rw[cu.mp z];refine⟨λw=>?_,e⟩;have:=congrArg List.length w;rw[bv,Nat.min_eq_left d,List.length_nil]at this
   lia
def SE {c:Prop}[Decidable c](h:k+1<n):(if c then k - 1 else k)+1<n:=by split <;> lia
def JA:∀{rs:List (List Keyed)},(∀r∈rs,r≠[])->rs.length<=rs.flatten.length
 | [],_=>ac _
 | r::rs,h=>by
  have e:=JA (rs:=rs) λx c=>h x (ba _ c);have d:=List.length_pos_iff.mpr (h r ax);rw[List.flatten_cons,au,aq]
  lia
def yF {st:SortSt}{Q:Unit->SortSt->Prop}(F:tN M A E s kf κ a0)(Z:SI kf κ a0 [] a0.toList st)
  (q:∀d,(arrOf d).Perm a0->failedOf d=none->(arrOf d).toList.Pairwise (vL kf)->Q () d):wpS M A E s sortRuns' Q st:=by
 refine dV (wpS_get ?_);have z0:(arrOf st).size=a0.size:=Z.pm.size_eq;dsimp only;rw[z0]
 refine dV (wpS_mono (wpS_forRange (I:=λx c d=>∃rs rest,SI kf κ a0 rs rest d/\c=(none,rs.flatten.length)/\(x<=rs.flatten.length\/rest=[]))
  (Q:=λc d=>∃rs,SI kf κ a0 rs [] d/\c.1=none) ?_ ?_ ⟨[],_,Z,rfl,.inl (ac _)⟩) ?_)
 ·rintro x c o _ xn ⟨rs,rest,m,rfl,L⟩;dsimp only;have sz:rs.flatten.length+rest.length=a0.size:=by have:=m.pm.size_eq;rw[←br,m.ar,au]at this;exact this
  by_cases X:rs.flatten.length ≥ a0.size
  ·rw[ai X];have e:rest=[]:=List.length_eq_zero_iff.mp dk;subst e;exact d6 ⟨rs,m,rfl⟩
  rw[ab X];have x1':x<=rs.flatten.length:=L.elim id λz=>by rw[z,List.length_nil]at sz;lia
  refine dV (yG (a1:=arrOf o) (st0:=o) F ⟨m.pm,m.kd,m.fa,rfl,λ_ _=>rfl⟩ dk dk λn t R2 n1 nn A2=>?_);dsimp only;generalize hn:n=v
  revert v
  refine AZ (λv i=>SR κ a0 (arrOf o) rs.flatten.length o i/\1<=v/\v<=a0.size - rs.flatten.length/\oP kf (arrOf i) rs.flatten.length v) ?_ (λc2 j=>kZ (dV (DF F R2 dk dk A2 λi N Y=>?_))) λ_=>⟨R2,n1,nn,A2⟩
  rotate_left
  ·rw[ab ad];exact j _ _ ⟨N,by have c2':n<minRun' a0.size a0.size 0:=c2;change 1<=min _ (minRun' a0.size a0.size 0);lia,Nat.min_le_left _ _,Y⟩
  rintro v i ⟨N,H,nX2,Y⟩;refine dV (wpS_get ?_);have K:=m.found N;have lr:((arrOf i).toList.drop rs.flatten.length).length=a0.size - rs.flatten.length:=by rw[bx,br,N.size]
  have O:=S8 Y;generalize (arrOf i).toList.drop rs.flatten.length=rest3 at K lr O⊢;cases hb:(pendingOf i).back? with
  | none =>
   dsimp only;exact dV (wpS_modify (d6 ⟨rs++[rest3.take v],rest3.drop v,K.run dk H O rfl rfl rfl (by rw[Array.toList_push,az];rfl),by rw[oJ dk],.inl (by rw[oJ dk];lia)⟩))
  | some p =>
   obtain⟨s1,n1',o1⟩:=p;dsimp only
   refine dV (wpS_mono (wpS_forRange (I:=λ_ c d=>c=(none,())/\∃g,SI kf κ a0 g rest3 d/\g.flatten.length=rs.flatten.length)
    (Q:=λc d=>c=(none,())/\∃g,SI kf κ a0 g rest3 d/\g.flatten.length=rs.flatten.length) ?_ (λ_ _ h=>h) ⟨rfl,rs,K,rfl⟩) ?_)
   ·rintro y c B _ _ ⟨rfl,C,G,J⟩;refine dV (wpS_get ?_);have m4:=G.many;by_cases U:(pendingOf B).size > 1
    ·rw[ai U];obtain⟨S,ep⟩:∃S,(pendingOf B)[(pendingOf B).size - 2]?=some S:=⟨_,Array.getElem?_eq_getElem dk⟩
     rw[ep];obtain⟨o2,o3,o4⟩:=S;dsimp only;refine bE (λ_=>d6 ⟨rfl,C,G,J⟩) λ_=>?_;refine dV (tO F G (by rw[m4]at U⊢;lia) λst5 P S5 l5 f5=>?_);rw[ab ad];exact d6 ⟨rfl,P,S5,dk⟩
    ·rw[ab U];exact d6 ⟨rfl,C,G,J⟩
   ·rintro c B ⟨rfl,C,G,J⟩;dsimp only;refine dV (wpS_modify (dV (wpS_modify (d6 ⟨C++[rest3.take v],rest3.drop v,G.run dk H O rfl rfl rfl ?_,by rw[oJ dk,J],.inl (by rw[oJ dk];lia)⟩))));rw[Array.toList_push,az,Array.toList_modify,JL,J]
    ·rfl
    ·exact λ_=>rfl
 ·rintro c o ⟨rs,rest,m,rfl,L⟩;have sz:rs.flatten.length+rest.length=a0.size:=by have:=m.pm.size_eq;rw[←br,m.ar,au]at this;exact this
  rw[show max 0 a0.size=a0.size by lia]at L;have e:rest=[]:=L.elim (λz=>List.length_eq_zero_iff.mp dk) id;subst e;exact⟨rs,m,rfl⟩
 ·rintro⟨X,c2⟩ o ⟨rs,m,e⟩;cases e;dsimp only;have rl:rs.length<=a0.size:=by
   have:=JA λr hr=>(m.so r hr).1;have z:=m.pm.size_eq;rw[←br,m.ar,bp]at z
   lia
  refine dV (wpS_mono (wpS_forRange (I:=λx c d=>c=(none,())/\∃g,SI kf κ a0 g [] d/\(g.length+x<=a0.size\/g.length<=1))
   (Q:=λc d=>c=(none,())/\∃g,SI kf κ a0 g [] d/\g.length<=1) ?_ ?_ ⟨rfl,rs,m,.inl dk⟩) ?_)
  ·rintro y c t _ _ ⟨rfl,u,w,T⟩;refine dV (wpS_get ?_);have m2:=w.many;by_cases W:(pendingOf t).size<=1
   ·rw[ai W];exact d6 ⟨rfl,u,w,dk⟩
   ·rw[ab W];refine dV (tO F w (by rw[m2]at W⊢;exact SE dk) λi R K l3 _=>?_);rw[ab ad];exact d6 ⟨rfl,R,K,dk⟩
  ·rintro c t ⟨rfl,u,w,T⟩;exact⟨rfl,u,w,dk⟩
  ·rintro c t ⟨rfl,u,w,T⟩;refine d6 (q t w.pm w.fa ?_);rw[w.ar,bp]
   match u,T,w.so with
   | [],_,_=>exact List.Pairwise.nil
   | [r],_,so =>
    rw[List.flatten_cons,List.flatten_nil,bp];exact(so r ax).2
   | _::_::_,l,_=>exact absurd l dl
end
structure WH {α:Type}(lt:α->α->Bool):Prop where
 irr:∀x,lt x x=false
 tr:∀x y z,lt x y=true->lt y z=true->lt x z=true
 one:∀x y,lt x y=false->lt y x=false->∀z,lt z x=lt z y
noncomputable def rank {d c:Type}(lt:c->c->Bool)(iv:d->c)(l:List d)(x:d):Nat:=l.countP λz=>lt (iv z) (iv x)
section
variable {α β:Type}{lt:β->β->Bool}{iv:α->β}
theorem BJ (O:WH lt):∀(l:List α) {x y:α},lt (iv x) (iv y)=true->rank lt iv l x<=rank lt iv l y/\(x∈l->rank lt iv l x<rank lt iv l y)
 | [],x,y,h=>⟨ac _,λm=>nomatch m⟩
 | z::l,x,y,h=>by
  obtain⟨g,d⟩:=BJ O l h;unfold rank at g d⊢;rw[List.countP_cons,List.countP_cons];have step:(if lt (iv z) (iv x)=true then 1 else 0)<=(if lt (iv z) (iv y)=true then 1 else 0):=by
   by_cases c:lt (iv z) (iv x)=true
   ·rw[ai c,ai (O.tr _ _ _ c h)];exact ac _
   ·rw[ab c];exact aw _
  refine⟨Nat.add_le_add g step,λm=>?_⟩;rcases cw.mp m with e|m
  ·subst e;rw[O.irr,h];simp only[Bool.false_eq_true,if_false,if_true]
   lia
  ·exact Nat.add_lt_add_of_lt_of_le (d m) step
def D1 (O:WH lt){l:List α}{x y:α}(h:x∈l)(g:y∈l):decide (rank lt iv l x<rank lt iv l y)=lt (iv x) (iv y):=by
 cases c:lt (iv x) (iv y)with
 | true=>exact bi ((BJ O l c).2 h)
 | false =>
  refine bo λz=>?_;cases d:lt (iv y) (iv x)with
  | true =>
   have:=(BJ O l d).2 g
   lia
  | false =>
   have e:rank lt iv l x=rank lt iv l y:=by unfold rank;congr 1;funext w;exact O.one _ _ c d _
   lia
end
end L2
namespace L2
open PySem PySem.Spec PyProof.Rows
def C7 (vs:cX)(ks:List cR):Prop:=ks.length=vs.length/\∀(i:Nat) (k:cR) (v:dv),ks[i]?=some k->vs[i]?=some v->keyIs k v=true/\v.scannable=true
def P3 (P:dw)(w:dy)(h:Heap)(S:Addr)(ks:List cR)(i:Nat):Prop:=h.SetOf (bM P w) S (λk=>(ks.take i).any λx=>decide (x=k)) i
def P3.at (x:P3 P w h S ks i)(k:∀o,h.get? S=some o->h'.get? S=some o):P3 P w h' S ks i:=by obtain⟨o,c,d,t,e,r⟩:=x;exact⟨o,c,d,t,k _ e,r⟩
local macro_rules | `(tactic| walk_at "sd_on")=>`(tactic| (repeat (any_goals (first | assumption | wp_step))))
section
variable {P:dw}{w:dy}{A:dz}
def JN {R:Result->du->Prop}(h:wpAny (model P w) A.in1 (Builtin.«set.update.loop» ⟨[.ref S,.ref I],[]⟩) (λy d=>match y with | .done f=>R (.ok f) d | .again c=>c.quiet=true/\codeAny (model P w) A c R d) (λe d=>R (.error e) d) s):codeAny (model P w) A (.builtin "set.update.loop" ⟨[.ref S,.ref I],[]⟩) R s :=
 codeAny_builtin F.entry_set_update_loop (by rw[Around.under_plainId F.plain_set_update_loop _];exact h)
def M7 (Y:A.handled=none)(H:C7 items ks)(nd:ks.Nodup)(hb:items.length+1<scanBound)(n1:S≠I)(n2:l≠I)(n3:l≠S){R:Result->du->Prop} :
  ∀(j i:Nat) (s:du),i+j=items.length->s.heap.IsListIter I l i->s.heap.IsList l items.toArray->P3 P w s.heap S ks i ->
   (∀h' tk,P3 P w h' S ks items.length->(∀b o,b≠S->b≠I->s.heap.get? b=some o->h'.get? b=some o)->R (.ok (.ret .none)) {s with heap:=h',toks:=tk}) ->
   codeAny (model P w) A (.builtin "set.update.loop" ⟨[.ref S,.ref I],[]⟩) R s:=by
 intro j
 induction j with
 | zero =>
  intro i s e it h B C;rw[Nat.add_zero]at e;subst e;refine JN ?_;refine aa (wpAny_pyNext_list_end (A:=A.in1) Y it h dl λh' N=>?_);exact ak (C h' s.toks (B.at λo z=>N _ _ n1 z) λb o _ Z z=>N b o Z z)
 | succ j U =>
  intro i s e it h B C;have hi:i<items.length:=by lia
  have K:i<ks.length:=by rw[H.1];exact hi
  obtain⟨is,T⟩:=H.2 i ks[i] items[i] (ay K) (ay hi);refine JN ?_;refine aa (wpAny_pyNext_list_item (A:=A.in1) (x:=items[i]) it h (by simp[hi]) λE r d=>?_);have u:P3 P w E S ks i:=B.at λo z=>(d.2 S n1).trans z;show wpAny _ A.in1 (holding [items[i]] (setAdd S items[i]) >>= _) _ _ {s with heap:=E};refine aa (ck (show wpAny _ _ (setAdd S items[i]) _ _ _ from ?_));unfold setAdd;refine ck (aa ((bM P w).pyHash (k:=ks[i]) is ?_));refine wpAny_setAddHashed_of (knd:=bM P w) (s:={s with heap:=E,toks:=s.toks+1}) is T u dk λL c g=>?_;have new:((ks.take i).any λx=>decide (x=ks[i]))=false:=by
   rw[List.any_eq_false];intro x W z;have z:=bu z;obtain⟨m,X,G⟩:=List.mem_iff_getElem.mp W;rw[z]at G;rw[bv]at X;rw[List.getElem_take]at G;have:=(List.getElem_inj nd).mp G
   lia
  rw[new]at g;have fe:(λJ=>((ks.take i).any λx=>decide (x=J)) || decide (J=ks[i]))=λk=>(ks.take (i+1)).any λx=>decide (x=k):=by funext k;rw[List.take_succ_eq_append_getElem K,List.any_append,List.any_cons,List.any_nil,Bool.or_false];congr 1;exact decide_eq_decide.mpr eq_comm
  rw[fe]at g;have t:P3 P w L S ks (i+1):=g;refine ak ⟨plainId_quiet F.plain_set_update_loop _,U (i+1) {s with heap:=L,toks:=s.toks+1} dk ?_ ?_ t λh' tk v kp=>?_⟩
  ·obtain⟨o,q,p⟩:=r;exact⟨o,(c.2 I n1.symm).trans q,p⟩
  ·obtain⟨o,q,p⟩:=h;exact⟨o,(c.2 l n3).trans ((d.2 l n2).trans q),p⟩
  ·exact C h' tk v λb o O Q z=>kp b o O Q ((c.2 b O).trans ((d.2 b Q).trans z))
def L7 {E:cM}{Q:cM}(J:A.handled=none)(I:s.heap.IsList l items.toArray)(H:C7 items ks)(nd:ks.Nodup)(hb:items.length+1<scanBound)
  (h:∀(h':Heap) (tk:Nat),P3 P w h' s.heap.objs.size ks items.length->(∀b o,s.heap.get? b=some o->h'.get? b=some o)->Q (.ref s.heap.objs.size) {s with heap:=h',toks:=tk}) :
  wpAny (model P w) A (call (.type "set") [.ref l]) Q E s:=by
 obtain⟨c,tl,W⟩:=F.called_set.mro;have U:=F.called_set.made;have T:=F.called_set.sub;refine wpAny_call (codeAny_of_tree (ak ⟨Code.quiet_builtin _ (by decide +kernel),codeAny_builtin F.entry_type_call ?_⟩));have z:=weight_type_call_type "set" [.ref l] [];rw[Around.under_plain z rfl];have S:=F.called_set.notType;have O:=F.called_set.canCreate;have N:=F.typeCall_set_1 (.ref l)
 walk_at "sd_on"
 refine codeAny_mono (code_set_new_1 (.ref l) (E:=E) (Q₁:=λobj v=>∃d:Bool,obj = .ref s.heap.objs.size/\v={s with heap:=s.heap.push {cls:=.type "set",dict:=none,data:=.set #[] 0 (.fresh 0 0 d)} }) λd=>⟨d,rfl,rfl⟩) λr v j=>?_;cases r with
 | error e=>exact j
 | ok fl =>
  cases fl with
  | next=>exact j.elim
  | brk=>exact j.elim
  | cont=>exact j.elim
  | ret obj =>
   obtain⟨d,rfl,rfl⟩:=j;have x:(s.heap.push {cls:=.type "set",dict:=none,data:=.set #[] 0 (.fresh 0 0 d)}).get? s.heap.objs.size=some {cls:=.type "set",dict:=none,data:=.set #[] 0 (.fresh 0 0 d)}:=av _ rfl;have B:Shared.TypeIs {s with heap:=s.heap.push {cls:=.type "set",dict:=none,data:=.set #[] 0 (.fresh 0 0 d)} } (.ref s.heap.objs.size) "set":=⟨_,x,rfl⟩
   have i1:=F.called_set.init.lookup;have i2:=F.called_set.init.bind (.ref s.heap.objs.size)
   walk_at "sd_on"
   refine codeAny_mono (codeAny_call_builtin (R:=wants (λr s2=>r = .none/\∃h' tk,s2={s with heap:=h',toks:=tk}/\P3 P w h' s.heap.objs.size ks items.length/\∀b o,s.heap.get? b=some o->h'.get? b=some o) E) F.called_set.init.plain F.entry_set_init (check_set_init_1 B ?_)) λG s2 g=>?_
   ·obtain⟨⟨c1,d1,t1,C⟩,ho,p,n1,m⟩:=id I;simp only at p m;subst p m;have ho':=af {cls:=.type "set",dict:=none,data:=.set #[] 0 (.fresh 0 0 d)} ho;have Z:=F.sub_list_set;have Y:=F.sub_list_frozenset;have X:(Value.type "list" == Value.type "dict")=false:=by decide
    have hl':(s.heap.push {cls:=.type "set",dict:=none,data:=.set #[] 0 (.fresh 0 0 d)}).IsList l items.toArray:=⟨_,ho',rfl,n1,rfl⟩
    unfold Builtin.«set.__init__» Builtin.Frozenset.updateFrom noKeywords;generalize u:pyIter=PI
    wp_walk
    subst u;refine wpAny_pyIter_list hl' (aa (wpAny_runValue ?_));have lt:=bc ho;have q:(s.heap.push {cls:=.type "set",dict:=none,data:=.set #[] 0 (.fresh 0 0 d)}).objs.size=s.heap.objs.size+1:=Heap.size_push _ _;refine M7 (P:=P) (w:=w) (items:=items) (ks:=ks) (l:=l) (by simp[J]) H nd hb (by rw[q];exact bq (Nat.lt_succ_self _)) (by rw[q];exact bq (Nat.lt_succ_of_lt lt)) (bq lt) items.length 0 _ (Nat.zero_add _) ⟨_,av _ rfl,rfl,rfl⟩ (hl'.push _) ?_ λh' tk i kp=>?_
    ·have L:=af {cls:=.type "list_iterator",data:=.fields #[.ref l,.int 0 0]} x;refine⟨_,#[],0,.fresh 0 0 d,L,⟨rfl,rfl,rfl⟩,rfl,(λe K=>absurd K dl),λk=>?_,(by show 0<scanBound;lia),(by cases d <;> decide),rfl⟩;simp
    ·refine ak (ak ⟨rfl,h',tk,rfl,i,λb o e=>kp b o (bq (bc e)) (by rw[q];exact bq (Nat.lt_succ_of_lt (bc e))) (af _ (af _ e))⟩)
   ·cases G with
    | error e=>exact g
    | ok f2 =>
     cases f2 with
     | next=>exact g.elim
     | brk=>exact g.elim
     | cont=>exact g.elim
     | ret r =>
      obtain⟨rfl,h',tk,rfl,i,t⟩:=g
      walk_at "sd_on"
      exact h _ _ i t
end
noncomputable abbrev IG (P:dw)(w:dy)(a:Addr)(n:Nat):HO:=.ext λh=>∃ks,P3 P w h a ks n
def QK (x:P3 P w h a ks n):cK P w H h a (IG P w a n):=by refine⟨⟨ks,x⟩,?_,λg d ⟨c,y⟩ k=>⟨c,y.at λo e=>k o e⟩⟩;obtain⟨o,_,_,_,e,_⟩:=x;exact⟨o,e⟩
def G1:∀{d:aV} {us:cX},aP (d.map V.str) us->C7 us (d.map Sum.inr):=by
 intro d us h;refine⟨by rw[ae,←h.length,ae],λi k v c j=>?_⟩;rw[bS]at c;cases hs:d[i]? with
 | none=>rw[hs]at c;cases c
 | some x =>
  rw[hs]at c;cases c;obtain⟨u,e,g⟩:=h.get (i:=i) (x:=.str x) (by rw[bS,hs];rfl);rw[j]at e;cases e;obtain⟨t,rfl⟩:=g;exact⟨zU x t,rfl⟩
section
variable {X:Cx}
def rSetT (P:dw)(w:dy):List V->Hp->VK->Prop:=λxs H Q=>∃(l:Addr) (ss:aV),xs=[.ref l]/\H l=some (.lst (ss.map V.str))/\ss.Nodup/\ss.length<=100/\∀p,H p=none->Q (.ref p) (upd H p (IG P w p ss.length))
def AJ (hc:X.calm=true):cV X (.type "set") (rSetT X.prog X.w):=by
 intro d s t H xs us Q I i h;obtain⟨l,c,rfl,p,nd,le,q⟩:=h;obtain⟨u,rfl,j⟩:=aP.one i;cases j;obtain⟨its,r,pl,hz⟩:=I.list (fL.of p);have len:its.length=c.length:=by rw[←r.length,ae]
 refine L7 (P:=X.prog) (w:=X.w) (I.ok.hd hc) pl.isList (G1 r) ((List.pairwise_map.mpr (nd.imp λh e=>h (Sum.inr.inj e)))) (by rw[len];exact aj (Nat.succ_le_succ le) ad) λh' tk g kp=>?_;have m:H s.heap.objs.size=none:=I.hok.fresh (ac _);rw[len]at g;exact⟨.ref s.heap.objs.size,_,I.laid (t':=tk) (o:=IG X.prog X.w s.heap.objs.size c.length) kp (ac _) (QK g),rfl,q _ m⟩
def rLenS (P:dw)(w:dy):List V->Hp->VK->Prop:=λxs H Q=>∃(a:Addr) (n:Nat),xs=[.ref a]/\H a=some (IG P w a n)/\Q (.int n) H
def AL:cV X (.builtin "len") (rLenS X.prog X.w):=by intro d s p H xs us Q I e h;obtain⟨a,n,rfl,l,q⟩:=h;obtain⟨u,rfl,g⟩:=aP.one e;cases g;obtain⟨⟨ks,o,m,r,t,ho,c,hd,_,_,hb,j,i⟩,_⟩:=I.hok a _ l;have b1:m.size<4096:=hb;refine call_len_set ho c hd j dk ?_;rw[i];exact⟨.int n,H,I.tok _,⟨_,rfl⟩,q⟩
end
mutual
noncomputable def pdOf:D->PyData
 | .non=>.none
 | .bl b=>.bool b
 | .int i=>.int i
 | .str x=>.str x
 | .tup ds=>.tuple (pdsOf ds)
 | .lst ds=>.list (pdsOf ds)
noncomputable def pdsOf:List D->List PyData
 | []=>[]
 | d::ds=>pdOf d::pdsOf ds
end
mutual
def Tx:D->Prop
 | .str _=>True
 | .tup ds=>Txs ds
 | .lst ds=>Txs ds
 | _=>False
def Txs:List D->Prop
 | []=>True
 | d::ds=>Tx d/\Txs ds
end
mutual
theorem A0:∀{d:D},Tx d->(pdOf d).showable=true/\(pdOf d).hasDict=false/\(pdOf d).depth=depD d
 | .str _,_=>by unfold pdOf PyData.showable PyData.hasDict PyData.depth depD;exact⟨rfl,rfl,rfl⟩
 | .tup ds,h=>by
  unfold Tx at h;obtain⟨a,b,c⟩:=vQ h;unfold pdOf PyData.showable PyData.hasDict PyData.depth depD;exact⟨a,b,by rw[c]⟩
 | .lst ds,h=>by
  unfold Tx at h;obtain⟨a,b,c⟩:=vQ h;unfold pdOf PyData.showable PyData.hasDict PyData.depth depD;exact⟨a,b,by rw[c]⟩
 | .non,h | .bl _,h | .int _,h=>by unfold Tx at h;exact absurd h id
theorem vQ:∀{ds:List D},Txs ds->PyData.showableAll (pdsOf ds)=true/\PyData.hasDictAll (pdsOf ds)=false/\PyData.depthAll (pdsOf ds)=depDs ds
 | [],_=>by unfold pdsOf PyData.showableAll PyData.hasDictAll PyData.depthAll depDs;exact⟨rfl,rfl,rfl⟩
 | d::ds,⟨x,y⟩=>by obtain⟨a,b,c⟩:=A0 x;obtain⟨h,g,e⟩:=vQ y;unfold pdsOf PyData.showableAll PyData.hasDictAll PyData.depthAll depDs;rw[a,h,b,g,c,e];exact⟨rfl,rfl,rfl⟩
end
section
variable {X:Cx}{pins:dD}{σ:St}{H:Hp}{s:du}
mutual
theorem D0 (I:aM X pins σ H s):∀{d:D} {v:V} {u:dv},Tx d->aY H d v->aQ v u->∃as,Reads s.heap u (pdOf d) as
 | .str x,v,u,_,h,r=>by
  cases (show v = .str x from h);obtain⟨t,rfl⟩:=r;unfold pdOf;exact⟨_,.str x t⟩
 | .tup ds,v,u,t,h,r=>by
  unfold Tx at t;obtain⟨a,vs,rfl,g,e⟩:=h;cases r;obtain⟨its,c,⟨o,l,j,n,i⟩,_⟩:=I.tuple (iF.of g);obtain⟨as,ra⟩:=nJ I t e c;unfold pdOf;exact⟨_,.tuple l j i (by simpa using ra)⟩
 | .lst ds,v,u,t,h,r=>by
  unfold Tx at t;obtain⟨a,vs,rfl,g,e⟩:=h;cases r;obtain⟨its,c,pl,_⟩:=I.list (fL.of g);obtain⟨as,ra⟩:=nJ I t e c;obtain⟨o,l,j,n,i⟩:=pl.isList;unfold pdOf;exact⟨_,.list l j i (by simpa using ra)⟩
 | .non,_,_,t,_,_ | .bl _,_,_,t,_,_ | .int _,_,_,t,_,_=>by unfold Tx at t;exact absurd t id
theorem nJ (I:aM X pins σ H s):∀{ds:List D} {vs:List V} {us:cX},Txs ds->Reps H ds vs->aP vs us->∃as,ReadsAll s.heap us (pdsOf ds) as
 | [],_,_,_,h,r=>by
  cases (show _=[]from h);cases r;unfold pdsOf;exact⟨_,.nil⟩
 | d::ds,_,_,⟨t1,c⟩,⟨x,vs,e,l,j⟩,r=>by
  subst e;cases r with
  | cons r1 i =>
   obtain⟨as,ra⟩:=D0 I t1 l r1;obtain⟨bs,g⟩:=nJ I c j i;unfold pdsOf;exact⟨_,.cons ra g⟩
end
end
structure yB (P:dw)(w:dy)(K:dq)(mg:jS)(base:Heap)(CX:DC)(k:Nat)(f:Addr)(fd:FuncData)(ps:aV)(sp:Sp):Prop where
 len:∀vs H Q E,sp vs H Q E->vs.length=ps.length
 run:∀(A:dz) (outer:List Env) (s:du) (H:Hp) (args:Args) (us:cX) (vs:List V) (Q:VK) (E:XK),A.guards=some []->d9 k A->yP P w K mg base A outer s H->BindsTo s fd args (ps.zip us)->aP vs us->sp vs H Q E ->
  codeAny (model P w) A (.call (.ref f) args) (CR CX outer P w H s Q E) s
def fV.okG {P:dw}{w:dy}{K:dq}{mg:jS}{base:Heap}{x c:Str}{st:Stmt}{f:Addr}{R:FuncData}{N ps:aV}{k:Nat}{sp:Sp}(F:fV K x c st f R)(S:aN N ps (aH st))(len:∀vs H Q E,sp vs H Q E->vs.length=ps.length)
  (i:∀(d:dv) (A:dz) (outer:List Env) (s:du) (H:Hp) (vs:List V) (Q:VK) (E:XK),A.guards=some []->d9 k (A.deeper (envOfC c (aH st) s.heap.objs.size f d))->sp vs H Q E ->
   ∃t,FR (cxOf bU P w K mg base N c (aH st) f d A outer s H E).nox (cS st) t/\t {nx:=λ_ H'=>Q .non H',rt:=Q} (start N vs) H):yB P w K mg base bU (k+1) f R ps sp:=by
 obtain⟨oc,od,kV,doc,pm,an,d,ct,osl,rfl,T,L⟩:=F.ex;refine⟨len,λA outer s H args us vs Q E hG G m hb r l=>?_⟩;have Z:=len _ _ _ _ l;have KX:K.In s.heap:=m.mod.kin.keeps λb o e=>(m.bs b o e).1;have B:s.heap.NoLimit:=m.mod.nolimit.keeps λb o e=>(m.bs b o e).1;have h:∀y∈ps.zip us,(aH st).names.lookup y.1=some .local\/((aH st).names.lookup y.1=some .cell/\((cellsFrom (s.heap.objs.size+1) (aH st).names []).lookup y.1).isSome=true):=λ⟨n,v⟩ U=>by
  rcases S.par n (List.of_mem_zip U).1 with q|q
  ·exact .inl q
  ·exact .inr ⟨q,PySem.W.cellsFrom_some _ _ _ (.inl q)⟩
 refine codeAny_call_function G.depth (KX _ _ T) rfl S.co S.gen rfl (PySem.W.codeRec_of KX L) (hb _ _ _ _ ?_);refine wpAny_newFunctionEnv_cells S.kind h λenv he O x=>?_;subst he;refine⟨B.keeps x.toInCall.keep,codeAny_func ?_⟩;obtain⟨t,C,Y⟩:=i d A outer s H vs Q E hG (G.deeper _) l;have X:=C.nox;have I:aM (cxOf bU P w K mg base N c (aH st) f d A outer s H E) [] (start N vs) H O:=zW S G.hd m Z r x;refine wpAny_mono (X [] O (start N vs) H _ I Y) (λfl p j=>?_) λe p j=>j;have fin:∀{g:St} {H':Hp} {v:V} {u:dv},aM (cxOf bU P w K mg base N c (aH st) f d A outer s H E) [] g H' p->aQ v u->Q v H'->CE outer P w H s Q u p :=
  λ{g H' v u} J z q=>⟨v,H',J.os,J.bare,J.base,J.hok,z,q⟩
 cases fl with
 | ret u =>
  obtain⟨v,g,H',J,z,q⟩:=j;exact fin J z q
 | next =>
  obtain⟨g,H',J,q⟩:=j;exact fin (v:=V.non) (u:=Value.none) J rfl q
 | brk =>
  obtain⟨_,_,_,q⟩:=j;exact False.elim q
 | cont =>
  obtain⟨_,_,_,q⟩:=j;exact False.elim q
theorem pG {c d:Type}{F:c->d->Prop}:∀{l:List c} {m:List d} {i:Nat} {x:c},Paired F l m->l[i]?=some x->∃y,m[i]?=some y/\F x y
 | _,_,_,_,.nil,h=>by simp at h
 | _,_,0,_,.cons r _,h=>by simp at h;subst h;exact⟨_,rfl,r⟩
 | _,_,i+1,_,.cons _ t,h=>by obtain⟨y,g,e⟩:=pG t (by simpa using h);exact⟨y,by simpa using g,e⟩
section
variable {P:dw}{w:dy}{A:dz}{E:cM}{s:du}{it v d:Addr}{o:Obj}{es:Array DictEntry}{i ep:Nat}{ok ov:dv}
def G6 {Q:cM}(t:s.TypeIs (.ref d) "dict")(ns:(d == sysModules)=false)
  (q:∀h',h'.objs.size=s.heap.objs.size+1->(∀b c,s.heap.get? b=some c->h'.get? b=some c)->h'.IsItemsView s.heap.objs.size d->Q (.ref s.heap.objs.size) {s with heap:=h'}):wpAny (model P w) A (call (.builtin "dict.items") [.ref d]) Q E s:=by
 refine wpAny_call_entry F.slot_dict_items t F.entry_dict_items ?_ (F.args_dict_items_1 _);unfold Builtin.«dict.items» Builtin.Dict.noArgs;refine aa (aa (wpAny_notOrdered_dict t (show wpAny _ _ (pure d) _ _ _ from ak ?_)));have no:Builtin.Dict.showsAll d=pure ():=ab (by rw[ns];decide);rw[no];exact aa (ak (aa (ci (ak ⟨_,rfl,q _ (Heap.size_push _ _) (λb c e=>af _ e) ⟨_,av _ rfl,rfl,rfl⟩⟩))))
def G9 {Q:cM}(g:s.heap.IsItemsView v d)(ho:s.heap.get? d=some o)(hd:o.data = .dict es ep)
  (q:∀h',h'.objs.size=s.heap.objs.size+1->(∀b c,s.heap.get? b=some c->h'.get? b=some c)->IsItemIter h' s.heap.objs.size d 0 es.size ep .none .none->Q (.ref s.heap.objs.size) {s with heap:=h'}):wpAny (model P w) A (pyIter (.ref v)) Q E s:=by
 obtain⟨j,i,l,h⟩:=id g;refine wpAny_pyIter_slot g.typeIs F.slot_dict_items_iter (wpAny_call_entry F.slot_dict_items_iter g.typeIs F.entry_dict_items_iter (show wpAny _ _ (Builtin.«dict_items.__iter__» _) _ _ _ from ?_) (F.args_dict_items_iter_1 _));unfold Builtin.«dict_items.__iter__» Builtin.Dict_items.dictOf Builtin.Dict_items.newIterator;refine aa (ak (aa (aa (wpAny_field i h (x:=.ref d) rfl (ak (aa (aa (wpAny_dictEntries ho hd (aa (wpAny_dictEpoch ho hd ?_))))))))));have tp:Builtin.Dict_items.ownsTuple "dict_itemiterator" = true:=by decide
 simp only[tp,if_true,Bool.false_eq_true,if_false];refine ci (ak ⟨_,rfl,"dict_itemiterator",_,⟨_,av _ rfl,rfl⟩,F.slot_dict_itemiterator_next.lookup,q _ (Heap.size_push _ _) (λb c e=>af _ e) ?_⟩) ?_
 ·exact(av _ (by rfl))
 ·simp only[sizeOk,Builtin.Dict_items.ownedTupleFields,ag,au,aq,List.length_nil,sizeLine_eq];decide
def G8 {Q:Option dv->du->Prop}(h:IsItemIter s.heap it d i es.size ep ok ov)(ho:s.heap.get? d=some o)(hd:o.data = .dict es ep)(K:es[i]?=some e)
  (q:∀h',IsItemIterOut h' it d (i+1) es.size ep e.key e.val s.heap.objs.size->h'.get? s.heap.objs.size=some {cls:=.type "tuple",data:=.seq #[e.key,e.val]}->h'.objs.size=s.heap.objs.size+1 ->
   (∀b c,b≠it->s.heap.get? b=some c->h'.get? b=some c)->Q (some (.ref s.heap.objs.size)) {s with heap:=h'}):wpAny (model P w) A (pyNext (.ref it)) Q E s:=by
 have t:s.TypeIs (.ref it) "dict_itemiterator":=⟨_,h,rfl⟩
 have m:it<s.heap.objs.size:=bc h;have tp:Builtin.Dict_items.ownsTuple "dict_itemiterator" = true:=by decide
 unfold pyNext;refine aa (wpAny_attempt (wpAny_callSpecial?_slot (name:=Str.ofString "__next__") t F.slot_dict_itemiterator_next (wpAny_call_entry F.slot_dict_itemiterator_next t F.entry_dict_itemiterator_next ?_ (F.args_dict_itemiterator_next_1 _))));refine aa (ak (aa (aa (aa (wpAny_typeNameOfWhole_itemiter t (ak (aa (wpAny_fieldsOf h rfl ?_))))))));simp only[tp,if_true];dsimp only[List.take,List.drop];rw[ab (show ¬(Value.ref d == Value.none)=true from λz=>nomatch z)];refine aa (ak (aa (wpAny_dictEntries ho hd ?_)));rw[ab (show ¬((es.size:Int) != (es.size:Int))=true by simp)];refine aa (ak (aa (wpAny_dictEpoch ho hd ?_)));rw[ab (show ¬((ep:Int) != (ep:Int))=true by simp)];refine ak ?_;dsimp only;rw[ab (show ¬(i:Int)<0 by lia),cr,K];dsimp only;refine aa (aa (wpAny_typeNameOfWhole_itemiter t (ak (aa (wpAny_isOneOf_itemiter t (aa (wpAny_setField_rec h (show _<8 by rw[tp];decide) λg S J=>?_)))))));have s1':Heap.SameBut it s.heap g:=J;have e1':IsItemIter g it d (i+1) es.size ep ok ov:=by unfold IsItemIter;rw[show((i+1:Nat):Int)=(i:Int)+1 from rfl];exact S
 have t1:Shared.TypeIs {s with heap:=g} (.ref it) "dict_itemiterator":=⟨_,e1',rfl⟩
 refine aa (ck (aa (wpAny_isOneOf_itemiter t1 (aa (wpAny_isOneOf_itemiter t1 ?_)))));rw[ab ad];unfold Builtin.Dict_items.pairFromOwner Builtin.Dict_items.ownedTupleIsFree;refine aa (wpAny_newTuple (show wpAny _ _ _ _ _ {s with heap:=g.push {cls:=.type "tuple",data:=.seq #[e.key,e.val]} }from ?_));have l:g.objs.size=s.heap.objs.size:=s1'.1;rw[l];have j:IsItemIter (g.push {cls:=.type "tuple",data:=.seq #[e.key,e.val]}) it d (i+1) es.size ep ok ov:=af _ e1';have H:(g.push {cls:=.type "tuple",data:=.seq #[e.key,e.val]}).get? s.heap.objs.size=some {cls:=.type "tuple",data:=.seq #[e.key,e.val]}:=l ▸ av _ rfl;have r:(g.push {cls:=.type "tuple",data:=.seq #[e.key,e.val]}).objs.size=s.heap.objs.size+1:=by rw[Heap.size_push,l]
 have G:∀b c,b≠it->s.heap.get? b=some c->(g.push {cls:=.type "tuple",data:=.seq #[e.key,e.val]}).get? b=some c:=λb c nb z=>af _ (s1'.extBut b c nb z);generalize g.push {cls:=.type "tuple",data:=.seq #[e.key,e.val]}=h2 at j H r G⊢;refine aa (aa (wpAny_field j rfl (x:=.none) rfl (ak ?_)));dsimp only;rw[ai rfl];refine aa (wpAny_field j rfl (x:=ok) rfl (aa (wpAny_field j rfl (x:=ov) rfl (aa (wpAny_setField_rec j dl λW R C=>?_)))));refine aa (wpAny_setField_rec R dl λU O B=>aa (wpAny_setField_rec O dl λT N v=>aa (wpAny_setField_rec N dl λp L u=>?_)));have far:∀b c,b≠it->h2.get? b=some c->p.get? b=some c:=λb c nb z=>u.extBut b c nb (v.extBut b c nb (B.extBut b c nb (C.extBut b c nb z)));have I:p.objs.size=s.heap.objs.size+1:=u.1.trans (v.1.trans (B.1.trans (C.1.trans r)));exact aa (wpAny_letGo (ak (ak ⟨_,rfl,ak (q p L (far _ _ (Nat.ne_of_gt m) H) I λb c nb z=>far b c nb (G b c nb z))⟩)))
def G7 {Q:Option dv->du->Prop}(g:A.handled=none)(c:IsItemIter s.heap it d i es.size ep ok ov)(ho:s.heap.get? d=some o)(hd:o.data = .dict es ep)(hi:es.size<=i)
  (q:∀h',Heap.ExtBut it s.heap h'->Q none {s with heap:=h'}):wpAny (model P w) A (pyNext (.ref it)) Q E s:=by
 have t:s.TypeIs (.ref it) "dict_itemiterator":=⟨_,c,rfl⟩
 have tp:Builtin.Dict_items.ownsTuple "dict_itemiterator" = true:=by decide
 unfold pyNext;refine aa (wpAny_attempt (wpAny_callSpecial?_slot (name:=Str.ofString "__next__") t F.slot_dict_itemiterator_next (wpAny_call_entry F.slot_dict_itemiterator_next t F.entry_dict_itemiterator_next ?_ (F.args_dict_itemiterator_next_1 _))));refine aa (ak (aa (aa (aa (wpAny_typeNameOfWhole_itemiter t (ak (aa (wpAny_fieldsOf c rfl ?_))))))));simp only[tp,if_true];dsimp only[List.take,List.drop];rw[ab (show ¬(Value.ref d == Value.none)=true from λz=>nomatch z)];refine aa (ak (aa (wpAny_dictEntries ho hd ?_)));rw[ab (show ¬((es.size:Int) != (es.size:Int))=true by simp)];refine aa (ak (aa (wpAny_dictEpoch ho hd ?_)));rw[ab (show ¬((ep:Int) != (ep:Int))=true by simp)];refine ak ?_;dsimp only;rw[ab (show ¬(i:Int)<0 by lia),cr,Array.getElem?_eq_none hi];dsimp only;refine aa (aa (wpAny_typeNameOfWhole_itemiter t (ak (aa (wpAny_setField_rec c (show _<8 by rw[tp];decide) λh j e=>?_)))))
 wp_walk
 refine wpAny_raiseNew_none g (aa (wpAny_isInstance (b:=true) ⟨_,av _ rfl,rfl⟩ isSubtype_stop (ak (q _ ?_))));exact(e.extBut.push _).push _
end
noncomputable def layKV (g c:Expr)(e:dv)(env:Env):Sem Unit:=eval g env >>= λa=>holding [a] (eval c env) >>= λb=>match e with
 | .ref d=>standAt {g.pos with endLine:=c.pos.endLine,endCol:=c.pos.endCol} >>= λ_=>holding [a,b] (dictSet d a b)
 | _=>unsupported "internal:dictcomp"
def J9 (i g h iter:Expr)(c:pV)(scope:Scope)(e:Pos)(it d:dv)(env:Env) :
  compTurn (.DictComp i g [⟨h,iter,c,0⟩] scope e) 0 it d env=pE iter.pos it h env (layOn c (layKV i g d env) env (.compLoop (.DictComp i g [⟨h,iter,c,0⟩] scope e) 0 it d env)):=rfl
section
variable {β:Type}{F:Heap->Addr->β->Prop}{e0:β}{mk:Sem dv}{ce:Expr}{cls:List Comprehension}
variable {X:Cx}{scope:Scope}{N':aV}{src:List (Option Nat)}{pins:dD}{σ:St}{H₂:Hp}{s₂:du}{fp:List Addr}{it:Addr}{tn:PZ}{J:It}{tg iter:Expr}{ifs:pV}{g:TG}{tt:TT}{tl:β->St->Hp->(β->Hp->Prop)->Prop}
def FE {W:P8 β}{Fin:β->Hp->Prop}{RR:dv->Addr->Result->du->Prop}{E:cM}{lay:dv->Env->Sem Unit}{obj:Addr->β->HO}{ps:Pos}(hF:P1 F)(r:FO F e0 X.prog X.w X.A mk)(K:P9 ce)(u:clausesOf ce=⟨tg,iter,ifs,0⟩::cls)(hb:∀it c env,compTurn ce 0 it c env=pE ps it tg env (layOn ifs (lay c env) env (.compLoop ce 0 it c env)))
  (hok:∀H h D c,(D == sysModules)=false->H D=none->F h D c->Fin c H->cK X.prog X.w (upd H D (obj D c)) h D (obj D c))
  (S:bN X scope N' src) (G:aM X pins σ H₂ s₂) (T:∀C,AS (blk X scope N' C s₂ H₂ fp) tg J fp it tn) (l:tn 0 s₂.heap) (L:∀b∈fp,fN X pins H₂ b)
  (hg:∀C,PG (blk X scope N' C s₂ H₂ fp) tg g) (Z:∀C,T9 (blk X scope N' C s₂ H₂ fp) ifs tt) (hl:∀C D c,P2 F (blk X scope N' C s₂ H₂ fp) D (lay (.ref D) (blk X scope N' C s₂ H₂ fp).env) (tl c) c)
  (P:∃m,W 0 m e0 (stC src σ) H₂) (turn:yD J g tt tl Fin W)
  (v:∀D C p H' c,s₂.heap.objs.size<=C->H' C=none->D≠C->(∃m,p.heap.Ns C m)->aM X pins σ (upd H' D (obj D c)) p->H' D=none->Fin c H'->RR (.ref D) C (.ok .next) p) :
  wpAny (model X.prog X.w) X.A mk (λc j=>wpAny (model X.prog X.w) X.A (newFunctionEnv scope X.env.globals (closL X.env.cells scope.names []) [] X.env.qual none .none (some X.env)) (λd e =>
   codeAny (model X.prog X.w) X.A (.compStart ce 0 (.ref it) c {d with scope:=relabel scope X.env}) (RR c d.locals) e) E j) E s₂:=by
 refine uA r K u S G T l L λD C t B=>?_;obtain⟨m,b⟩:=B.betw W P;have U:(D == sysModules)=false:=by have:=G.big;rw[B.at_]at this;exact cz.mpr (Nat.ne_of_gt this)
 refine wR K (hb ..) (IJ F (blk X scope N' C s₂ H₂ fp) [] D fp tn W) (λn s b=>?_) m b;refine(AD (Y:=blk X scope N' C s₂ H₂ fp) hF (λ_ _ z=>z) (T C) B.place (hg C) turn (λs N H c I x hp fin=>?_) n s b).mono (λ_ z=>z) ?_
 ·obtain⟨o1,o2,R⟩:=B.out G L I x (hok _ _ _ _ U x hp fin);exact v D C s H c B.le o1 B.ne o2 R x fin
 ·rintro t ⟨i,c,o,more,O,H3,q,I3,Q⟩;exact FQ.go (ER (W:=W) (λ_ _ z=>z) B.place (T C) (Z C) (hl C D c) q I3 Q)
end
section
variable {β:Type}{J:It}{g:TG}{tt:TT}{te:TE}{tb:TS}{D:jV}{tl:β->St->Hp->(β->Hp->Prop)->Prop}{Fin:β->Hp->Prop}{σ:St}{H:Hp}{e0:β}
def SK {n:Nat}(Pv:Nat->St->Hp->Prop)(j:Pv 0 c H)(h:∀i c H,i<n->Pv i c H->J.go i H/\∀x H',J.yld i H x H'->g x c H' λd l=>tb {D with nx:=Pv (i+1),ct:=Pv (i+1),bk:=D.nx} d l)
  (hd:∀c H,Pv n c H->J.stop n H/\D.nx c H):uU J g tb D c H:=by
 refine⟨λi m c H=>m=n - i/\i<=n/\Pv i c H,⟨n,dl,aw _,j⟩,?_⟩;rintro i m c H ⟨rfl,hi,p⟩;by_cases lt:i<n
 ·obtain⟨go,step⟩:=h i c H lt p;exact .inr ⟨go,Pv (i+1),λe H' q=>⟨n - (i+1),dk,rfl,lt,q⟩,step⟩
 ·obtain rfl:i=n:=by lia
  exact .inl (hd c H p)
def MT {n:Nat}(Pv:Nat->β->St->Hp->Prop)(r:Pv 0 e0 d H)
  (o:∀i c d H,i<n->Pv i c d H->J.go i H/\∀x H',J.yld i H x H'->g x d H' λh t=>tt h t λb l=>if b=true then tl c h l λa s=>Pv (i+1) a h s else Pv (i+1) c h l)
  (hd:∀c d H,Pv n c d H->J.stop n H/\Fin c H):∃W:P8 β,(∃m,W 0 m e0 d H)/\yD J g tt tl Fin W:=by
 refine⟨λi m c d H=>m=n - i/\i<=n/\Pv i c d H,⟨n,dl,aw _,r⟩,?_⟩;rintro i m c d H ⟨rfl,hi,p⟩;by_cases lt:i<n
 ·obtain⟨go,step⟩:=o i c d H lt p;refine .inr ⟨go,λx H' y=>?_⟩;have e:∀c d H,(∃j,j<n - i/\j=n - (i+1)/\i+1<=n/\Pv (i+1) c d H)=Pv (i+1) c d H:=λc d H=>propext ⟨λz=>z.choose_spec.2.2.2,λq=>⟨n - (i+1),dk,rfl,lt,q⟩⟩;simp only[e];exact step x H' y
 ·obtain rfl:i=n:=by lia
  exact .inl (hd c d H p)
end
section
variable {β:Type}{F:Heap->Addr->β->Prop}{e0:β}{mk:Sem dv}{ce:Expr}{cls:List Comprehension}{ob:HO}
variable {X:Cx}{scope:Scope}{N':aV}{src:List (Option Nat)}{pins:dD}{σ:St}{H₂:Hp}{s₂:du}{fp:List Addr}{it:Addr}{tn:PZ}{J:It}{tg iter:Expr}{ifs:pV}
variable {g:TG}{tt:TT}{tl:β->St->Hp->(β->Hp->Prop)->Prop}
end
noncomputable def wD (P:dw)(w:dy)(a:Addr)(o:Obj)(c:List (cR×V)):HO:=.ext λh=>h.get? a=some o/\cK P w (λ_=>none) h a (.dK c)
section
variable {P:dw}{w:dy}{H:Hp}{h:Heap}{a:Addr}{o:Obj}{kvs:List (cR×V)}{es:Array DictEntry}{ep:Nat}
def WT (e:h.get? a=some o)(k:cK P w H h a (.dK kvs)):cK P w H' h a (wD P w a o kvs) :=
 ⟨⟨e,k⟩,⟨o,e⟩,λm l ⟨c,z,y,vs,r,d,i,j,g,rest⟩ k=>⟨k _ c,z,y,vs,r,d,i,j,k _ g,rest⟩⟩
def TW (ok:hV P w H h)(e:H a=some (wD P w a o kvs)):h.get? a=some o/\cK P w H h a (.dK kvs):=(ok a _ e).1
def G3 (h:(bM P w).is k u=true):aQ (kV k) u:=by
 rcases dG ((GQ P w k u).symm.trans h)with⟨i,t,rfl,rfl⟩|⟨x,t,rfl,rfl⟩
 ·exact⟨t,rfl⟩
 ·exact⟨t,rfl⟩
def PJ (r:KV kvs vs)(p:Pairs (bM P w) es.toList vs):es.size=kvs.length/\∀(i:Nat) (k:cR) (v:V),kvs[i]?=some (k,v)->∃y:DictEntry,es[i]?=some y/\aQ (kV k) y.key/\aQ v y.val:=by
 have l:es.size=vs.length:=by rw[←p.length,br]
 refine⟨l.trans (Paired.length r).symm,λi k v h=>?_⟩;obtain⟨⟨o,u⟩,c,g,d⟩:=pG r h;cases g;have hi:i<es.size:=by rw[l];exact(cs.mp c).1
 obtain⟨m,j⟩:=p.get? (i:=i) (e:=es[i]) (by rw[Array.getElem?_toList];exact Array.getElem?_eq_getElem hi) c;exact⟨es[i],Array.getElem?_eq_getElem hi,G3 m,by rw[j];exact d⟩
def TX (ok:hV P w H h)(e:H a=some (wD P w a o kvs))(hd:o.data = .dict es ep):h.get? a=some o/\es.size=kvs.length/\∀(i:Nat) (k:cR) (v:V),kvs[i]?=some (k,v)->∃y:DictEntry,es[i]?=some y/\aQ (kV k) y.key/\aQ v y.val:=by obtain⟨g,_,_,vs,r,p,l,m,d,_,c,_,j,_⟩:=TW ok e;rw[g]at d;cases d;rw[hd]at c;cases c;exact⟨g,PJ r j⟩
end
section
variable {X:Cx}{pins:dD}{σ:St}{H:Hp}{s:du}{a:Addr}{kvs:List (cR×V)}
def aM.walkD (I:aM X pins σ H s)(e:H a=some (.dK kvs)):∃o d g,s.heap.get? a=some o/\o.data = .dict d g/\aM X pins σ (upd H a (wD X.prog X.w a o kvs)) s:=by
 obtain⟨z,y,vs,r,o,d,g,c,i,h,rest⟩:=(show cK X.prog X.w H s.heap a (.dK kvs)from I.hok a _ e)
 exact⟨o,d,g,c,h,oN (t':=s.toks) I (by rw[e];trivial) ⟨rfl,λ_ _=>rfl⟩ ⟨o,c⟩ (WT (H:=H) c ⟨z,y,vs,r,o,d,g,c,i,h,rest⟩)⟩
def aM.melt {o:Obj}(I:aM X pins σ H s)(e:H a=some (wD X.prog X.w a o kvs)):aM X pins σ (upd H a (.dK kvs)) s:=by obtain⟨g,k⟩:=TW I.hok e;exact oN (t':=s.toks) I (by rw[e];trivial) ⟨rfl,λ_ _=>rfl⟩ ⟨o,g⟩ k
end
def P0 (P:dw)(w:dy)(H H':Hp):Prop:=H'=H\/∃a o c,H a=some (wD P w a o c)/\H'=upd H a (.dK c)
def aM.melts {X:Cx}{c:dD}{d:St}{H H':Hp}{s:du}(I:aM X c d H s)(m:P0 X.prog X.w H H'):aM X c d H' s:=by
 rcases m with rfl|⟨a,o,g,e,rfl⟩
 ·exact I
 ·exact I.melt e
def tMelt (P:dw)(w:dy)(t:TE):TE:=λd H Q=>t d H λv e=>∃c,P0 P w e c/\Q v c
def BS (h:PE X e t):PE X e (tMelt X.prog X.w t):=λc s d H Q I q =>
 thn (h c s d H _ I q) λ_ _ ⟨v,H',i,r,j,m,g⟩=>⟨v,j,i.melts m,r,g⟩
def sMelt (P:dw)(w:dy)(t:TS):TS:=λD c H=>t {D with nx:=λc e=>∃d,P0 P w e d/\D.nx c d} c H
def QX {X:Cx}{st:Stmt}{t:TS}(h:PS X st t):PS X st (sMelt X.prog X.w t):=λc s e H D I q =>
 thn (h c s e H _ I q) λfl l z=>by
  cases fl with
  | next =>
   obtain⟨d,H',i,j,m,g⟩:=z;exact⟨d,j,i.melts m,g⟩
  | ret u=>exact z
  | brk=>exact z
  | cont=>exact z
def XM (P:dw)(w:dy)(a:Addr)(o:Obj)(c:List (cR×V)):It :=
 ⟨λi H=>H a=some (wD P w a o c)/\i<c.length,λi H x H'=>∃T k v,c[i]?=some (k,v)/\x = .ref T/\H T=none/\H'=upd H T (.tup [kV k,v]),λi H=>H a=some (wD P w a o c)/\c.length<=i⟩
def DM {P:dw}{w:dy}{K:dq}{l:pV}{tk0}{j:Pos}(a it:Addr)(o:Obj)(C:Array DictEntry)(F:Nat)(d:List (cR×V))(hd:o.data = .dict C F) :
  rM P w K (.Tuple l tk0 j) (XM P w a o d) [it] it (λi h=>∃ok g,IsItemIter h it a i C.size F ok g) where
 mem:=cu.mpr rfl
 obj:=λi h ⟨ok,g,st⟩ b hb=>by rw[cu.mp hb];exact⟨_,st,λv z=>nomatch z⟩
 keep:=λi h h' ⟨ok,g,st⟩ k=>⟨ok,g,k it (cu.mpr rfl) _ st⟩
 item:=by
  rintro X t p u hc i e s B H E I m st ⟨r,hi⟩;subst t p u;obtain⟨ok,g,st⟩:=st;obtain⟨x,U,G⟩:=TX I.hok r hd;obtain⟨y,R,N,L⟩:=G i d[i].1 d[i].2 (ay hi);obtain⟨f0,f1,f2,f3,f4,f5⟩:=m it (cu.mpr rfl);refine G8 st x hd R λh' a1 a2 a3 Z=>⟨_,rfl,wpAny_letOwnedTupleGo_items (s:={s with heap:=h'}) a1 λT Y J=>?_⟩
  have lt:s.heap.objs.size≠it:=Nat.ne_of_gt (bc st);have I1:aM X e B (upd H s.heap.objs.size (.tup [kV d[i].1,d[i].2])) {s with heap:=T}:=I.turnedLaid (t':=s.toks) (ch:=[it]) (λc O hc z=>J.extBut _ _ (λq=>hc (cu.mpr q)) (Z c O (λq=>hc (cu.mpr q)) z)) m (ac _)
   ⟨show 2<=sizeLine by decide,[_,_],.cons N (.cons L .nil),⟨_,J.extBut _ _ lt a2,rfl,_,rfl⟩⟩
  refine⟨.ref s.heap.objs.size,_,I1,rfl,⟨s.heap.objs.size,d[i].1,d[i].2,ay hi,rfl,I.hok.fresh (ac _),rfl⟩,⟨_,_,Y⟩,λc hc=>?_⟩;rw[cu.mp hc,aC lt.symm];exact f0
 done:=by rintro X t p u hc i e s B H E I m st ⟨r,hi⟩;subst t p u;obtain⟨ok,g,st⟩:=st;obtain⟨x,U,G⟩:=TX I.hok r hd;exact G7 (I.ok.hd hc) st x hd dk λh' S=>⟨rfl,I.turnedL (t':=s.toks) (ch:=[it]) (λc o hc z=>S c o (λq=>hc (cu.mpr q)) z) m⟩
 self:=λA i s Q E ⟨ok,g,st⟩ h=>PySem.W.kcp_self st h
def SF (P:dw)(w:dy)(g:TE):TI:=λe H R=>g e H λx d=>∃a c,x = .ref a/\d a=some (.dK c)/\∀o,R (XM P w a o c) (upd d a (wD P w a o c))
section
variable {X:Cx}{elts:pV}{tk0:_}{tpos apos cpos:Pos}{o:Expr}{to:TE}
def oG (ho:PE X o to)(g:attributeBase o "items" X.env (eval o X.env)=eval o X.env:=by rfl)(d:(apos.endLine == cpos.line)=true:=by rfl) :
  PI X (.Tuple elts tk0 tpos) (.Call (.Attribute o "items" apos) [] [] cpos) (SF X.prog X.w to):=by
 intro i s A H R I h;refine wpAny_Call_method (T:="dict") (id:="dict.items") g rfl d F.plainAttrs_dict F.slot_dict_items F.type_dict_items (thn (ho i s A H _ I h) λu l ⟨x,O,z,E,a,j,ex,e,q⟩=>?_);subst ex;cases E;obtain⟨t1,C,t3⟩:=HL z (.inl ⟨j,.inl e⟩);obtain⟨p,J,K,L,v,m⟩:=z.walkD e;refine⟨t1,C,?_⟩;show wpAny _ _ (callWith cpos (.builtin "dict.items") [.ref a] [] []) _ _ l;refine Calls.callWith_builtin rfl (PySem.evalArgs_none (G6 t1 t3 λt B r iv=>?_));refine G9 (s:={l with heap:=t}) iv (r _ _ L) v λh' N G st=>?_;have le:l.heap.objs.size<=t.objs.size:=by rw[B];exact Nat.le_succ _
 refine⟨_,[_],_,_,_,rfl,m.kept (t':=l.toks) λb u e=>G b u (r b u e),DM a _ p J K j v,⟨_,_,st⟩,λc hc=>?_,q p⟩;rw[cu.mp hc];exact m.fpOk le (m.hok.fresh le)
end
section
variable {β:Type}{g:TG}{tt:TT}{te:TE}{tb:TS}{D:jV}{tl:β->St->Hp->(β->Hp->Prop)->Prop}{Fin:β->Hp->Prop}{σ:St}{H:Hp}{e0:β}{P:dw}{w:dy}{a:Addr}{o:Obj}{kvs:List (cR×V)}
def E4 (Pv:Nat->St->Hp->Prop)(m:Pv 0 c H)(h:∀i c H,Pv i c H->H a=some (wD P w a o kvs))
  (j:∀i k v T c H,kvs[i]?=some (k,v)->Pv i c H->H T=none->g (.ref T) c (upd H T (.tup [kV k,v])) λd q=>tb {D with nx:=Pv (i+1),ct:=Pv (i+1),bk:=D.nx} d q)
  (hd:∀c H,Pv kvs.length c H->D.nx c H):uU (XM P w a o kvs) g tb D c H :=
 SK (n:=kvs.length) Pv m (λi c H lt p=>⟨⟨h i c H p,lt⟩,λx H' y=>by
  obtain⟨T,k,v,e,rfl,l,rfl⟩:=y
  exact j i k v T c H e p l⟩) λc H p=>⟨⟨h _ c H p,ac _⟩,hd c H p⟩
def lW (Pv:Nat->β->St->Hp->Prop)(s:Pv 0 e0 d H)(j:∀i c d H,Pv i c d H->H a=some (wD P w a o kvs))
  (q:∀i k v T c d H,kvs[i]?=some (k,v)->Pv i c d H->H T=none->g (.ref T) d (upd H T (.tup [kV k,v])) λh u=>tt h u λb l=>if b=true then tl c h l λa t=>Pv (i+1) a h t else Pv (i+1) c h l)
  (hd:∀c d H,Pv kvs.length c d H->Fin c H):∃W:P8 β,(∃m,W 0 m e0 d H)/\yD (XM P w a o kvs) g tt tl Fin W :=
 MT (n:=kvs.length) Pv s (λi c d H lt p=>⟨⟨j i c d H p,lt⟩,λx H' y=>by
  obtain⟨T,k,v,e,rfl,r,rfl⟩:=y
  exact q i k v T c d H e p r⟩) λc d H p=>⟨⟨j _ c d H p,ac _⟩,hd c d H p⟩
end
def WM (P:dw)(w:dy)(h:Heap)(a:Addr)(c:List (cR×V)):Prop:=c.length<=sizeLine/\∃vs,KV c vs/\h.DictOf (bM P w) a vs
def L0:P1 (WM P w):=by rintro h a j ⟨z,vs,r,o,c,g,e,x,d,q⟩;exact⟨o,e,λv k=>(by rw[d]at k;cases k),λh' i=>⟨z,vs,r,o,c,g,i,x,d,q⟩⟩
def GU:FO (WM P w) [] P w A newDict:=λ_ _ _ q=>ci (q _ rfl λ_ e=>⟨aw _,[],.nil,_,_,_,e,⟨rfl,rfl,rfl⟩,rfl,λ_ z=>absurd z dl,.nil,List.nodup_nil⟩)
def tlDK (tk e:TE)(c:List (cR×V)):St->Hp->(List (cR×V)->Hp->Prop)->Prop:=λd H N=>tk d H λy h=>e d h λv g=>∃k,y=kV k/\c.length<sizeLine/\N (putK c k v) g
def LJ {Y:Cx}{D:Addr}{j h:Expr}{tk i:TE}{c:List (cR×V)}(l:∀e s,¬Y.xe e s)(L:PE Y j tk)(J:PE Y h i):P2 (WM Y.prog Y.w) Y D (layKV j h (.ref D) Y.env) (tlDK tk i c) c:=by intro E pl o g H t N I K O q;refine aa (wpAny_mono (L _ t g H _ I q) (λy t1 ⟨U,T,R,r1,C⟩=>?_) λe t z=>(l e t z).elim);refine aa (ck (wpAny_mono (J _ t1 g T _ R C) (λv u ⟨p,S,m,B,k,G,sm,w⟩=>?_) λe t z=>(l e t z).elim));subst G;obtain⟨_,vs,r,Q⟩:=O _ (m.pin (D,o) (bz _ K)).1;have F:vs.length=c.length:=(Paired.length r).symm;refine aa (wpAny_standAt (ck (wpAny_dictSet_pairs (A:=Y.A) (hsz:=by rw[F];exact Nat.le_of_lt sm) (qY r1) Q λP d x=>?_)));exact⟨u,P,_,S,_,rfl,m,x,⟨by have:=kH c k p;lia,_,r.put k B,d⟩,w⟩
def UT (src:List (Option Nat))(e:TI)(g:TG)(i:TT)(tk h:TE):TE:=λd H Q=>e d H λJ j=>∃W:P8 (List (cR×V)),(∃m,W 0 m [] (stC src d) j)/\yD J g i (tlDK tk h) (λc H=>∀p,H p=none->Q (.ref p) (upd H p (.dK c))) W
def mK (hc:X.calm=true)(S:bN X scope N' src)(hi:PI X tg iter wi)(r:∀C s H fp,PG (blk X scope N' C s H fp) tg g)(o:∀C s H fp,T9 (blk X scope N' C s H fp) ifs tt)(q:∀C s H fp,PE (blk X scope N' C s H fp) kx tk)(m:∀C s H fp,PE (blk X scope N' C s H fp) vx tv)
  (p:∀x,foldedSetIterable iter X.env x=pure x:=by intro _;rfl):PE X (.DictComp kx vx [⟨tg,iter,ifs,0⟩] scope pos) (UT src wi g tt tk tv):=by
 intro e s A H Q I h;change wpAny _ _ (comprehension (.DictComp kx vx [⟨tg,iter,ifs,0⟩] scope pos) scope X.env iter.pos newDict false (eval iter X.env)) _ _ s;refine tF rfl S hi p I h λc H₂ it fp B J i T st f ⟨W,j,turn⟩=>?_;exact FE (lay:=layKV kx vx) (tl:=tlDK tk tv) (obj:=λ_ d=>.dK d) L0 GU (.dct ..) rfl (J9 kx vx tg iter ifs scope pos) (λ_ _ _ _ l _ f _=>⟨f.1,l,f.2⟩) S i (λC=>rM.y (Y:=blk X scope N' C c H₂ fp) T hc) st f (λC=>r C c H₂ fp) (λC=>o C c H₂ fp) (λC D d=>LJ (λ_ _ z=>z) (q C c H₂ fp) (m C c H₂ fp)) j turn λD C E H' d a1 a2 w v u t fin=>E7 i a1 a2 w v u (fin D t)
end L2
namespace L2
open PySem
variable {X:Cx}
end L2
namespace L2
open PySem PySem.Spec PyProof.Rows
section
variable {X:Cx}
def J6 (r:KV kvs vs)(h:us.length=vs.length)(q:∀(j:Nat) (v:dv),us[j]?=some v->∃k x,vs[j]?=some (k,x)/\(bM P w).is k v=true):aP (kvs.map λp=>kV p.1) us:=by
 induction r generalizing us with
 | nil=>cases us with
  | nil=>exact .nil
  | cons _ _=>cases h
 | cons r rs c =>
  cases us with
  | nil=>cases h
  | cons u us =>
  obtain⟨k,x,e,i⟩:=q 0 u rfl;cases e;refine .cons ?_ (c (Nat.succ.inj h) λj v e=>q (j+1) v e);show aQ (kV _) u;rw[r.1];exact G3 i
def xO (hc:X.calm=true):cV X (.type "list") (λxs H Q=>∃p d,xs=[.ref p]/\H p=some (.dK d)/\∀l,H l=none->Q (.ref l) (upd H l (.lst (d.map λp=>kV p.1)))):=by rintro m s F H xs us Q I r ⟨p,d,rfl,x,q⟩;obtain⟨u,rfl,t⟩:=r.one;cases t;obtain⟨z,lo,vs,h,C⟩:=rH I.hok x;obtain⟨G,E⟩:=C.dictAt;have l:d.length=vs.length:=Paired.length h;refine PySem.W.kdl_call (PySem.W.kdl_dict lo) (I.ok.hd hc) E (by rw[←l];exact z) λh' tk i c A B g=>?_;have w:aP (d.map λp=>kV p.1) i.toList:=J6 h (by rw[br];exact g.1) λj v e=>g.2 j v (by rw[←Array.getElem?_toList];exact e);refine⟨.ref s.heap.objs.size,_,I.laid (o:=.lst (d.map λp=>kV p.1)) (t':=tk) A (ac _) ⟨by rw[ae];exact z,i.toList,c,w,?_⟩,rfl,q _ (I.hok.fresh (ac _))⟩;rw[Array.toArray_toList];exact B
def QV:V->List V->Hp->VK->Prop:=λx vs H Q=>∃a c,x = .ref a/\vs=[]/\H a=some (.dK c)/\Q .non (upd H a (.dK []))
def K9:UB X "dict.clear" QV:=by rintro d s l H x vs v us Q I e g ⟨a,h,rfl,rfl,i,q⟩;cases e;have c:=g.zero;subst c;exact SX I i λm j=>⟨.non,_,j,rfl,q⟩
end
def cG (H:Hp)(ds:List (cR×D))(c:List (cR×V)):Prop:=Paired (λ(d:cR×D) (v:cR×V)=>d.1=v.1/\aY H d.2 v.2) ds c
def cG.same (h:cG H ds kvs)(s:aF H H'):cG H' ds kvs:=Paired.mapP h λ_ _ z=>⟨z.1,aY.same s z.2⟩
def OS {A:dz}{s:du}{c l m:List (cR×dv)}(h:Paired (λp q=>p.1=q.1/\SeqAt.EqAt A s p.2 q.2 true) l m)(d:∀q∈m,valueAt c q.1=some q.2):PySem.W.KeqHits A s c l true:=by
 induction h with
 | nil=>exact .nil
 | @cons p q l m h t e =>
  have:=PySem.W.KeqHits.hit (A:=A) (s:=s) (kb:=c) (k:=p.1) (v:=p.2) ((congrArg (valueAt c) h.1).trans (d q ax)) h.2 (e λq g=>d q (ba _ g));exact this
def G2 (ok:hV P w H s.heap)(j:A.units+n<cLine)(l:cG H ds ka)(g:cG H ds kb)(e:KV ka va)(c:KV kb vb)(hd:∀d∈ds,depD d.2<=n) :
  Paired (λp q=>p.1=q.1/\SeqAt.EqAt A s p.2 q.2 true) va vb:=by
 induction l generalizing kb va vb with
 | nil=>cases g;cases e;cases c;exact .nil
 | cons a1 t1 i =>
  cases g with|cons a2 t2 =>
  cases e with|cons a3 t3 =>
  cases c with|cons a4 t4 =>
  refine .cons ⟨a3.1.symm.trans (a1.1.symm.trans (a2.1.trans a4.1)),?_⟩ (i t2 t3 t4 λd h=>hd d (ba _ h));have:=eqAtD ok _ _ A _ _ _ _ a1.2 a2.2 a3.2 a4.2 (aj (ca (hd _ ax) _) j);rw[dQ]at this;exact this
noncomputable def keyPd:cR->PyData
 | .inl i=>.int i
 | .inr x=>.str x
noncomputable def kvPd (ds:List (cR×D)):List (PyData×PyData):=ds.map λp=>(keyPd p.1,pdOf p.2)
noncomputable def cY (ds:List (cR×D)):Str:=dictText (PyData.shownKv (kvPd ds))
def W8 (ds:List (cR×D)):Prop:=∀p∈ds,(∃x,p.1 = .inr x)/\Tx p.2/\depD p.2<=50
theorem DK:∀{ds:List (cR×D)},W8 ds->(PyData.showableAll ((kvPd ds).map (·.1))=true/\PyData.hasDictAll ((kvPd ds).map (·.1))=false)/\PyData.showableAll ((kvPd ds).map (·.2))=true/\PyData.hasDictAll ((kvPd ds).map (·.2))=false
 | [],_=>⟨⟨rfl,rfl⟩,rfl,rfl⟩
 | (k,d)::ds,h=>by obtain⟨⟨a,b⟩,c,e⟩:=DK (ds:=ds) λp i=>h p (ba _ i);obtain⟨⟨x,rfl⟩,t,_⟩:=h (k,d) ax;obtain⟨t1,g,_⟩:=A0 t;simp only[kvPd,bf,PyData.showableAll,PyData.hasDictAll,keyPd,PyData.showable,PyData.hasDict,t1,g];exact⟨⟨a,b⟩,c,e⟩
theorem xH:∀{ds:List (cR×D)},W8 ds->PyData.depthKv (kvPd ds)<=51
 | [],_=>aw _
 | (k,d)::ds,h=>by
  have i:=xH (ds:=ds) λp g=>h p (ba _ g);obtain⟨⟨x,rfl⟩,t,c⟩:=h (k,d) ax;obtain⟨_,_,t3⟩:=A0 t;have d50':depD d<=50:=c;have e:PyData.depthKv (kvPd ((Sum.inr x,d)::ds))=max (max (PyData.depth (.str x)) (pdOf d).depth) (PyData.depthKv (kvPd ds)):=by rw[show kvPd ((Sum.inr x,d)::ds)=(.str x,pdOf d)::kvPd ds from rfl,PyData.depthKv]
  rw[e,t3,PyData.depth]
  lia
section
variable {X:Cx}{pins:dD}{σ:St}{H:Hp}{s:du}
def KK (I:aM X pins σ H s){ds:List (cR×D)}{c:List (cR×V)}{vs:List (cR×dv)}{g:List DictEntry}(h:W8 ds)(u:cG H ds c)(j:KV c vs)(i:Pairs (bM X.prog X.w) g vs) :
  (∃as,ReadsAll s.heap (g.map (·.key)) ((kvPd ds).map (·.1)) as)/\∃bs,ReadsAll s.heap (g.map (·.val)) ((kvPd ds).map (·.2)) bs:=by
 induction u generalizing vs g with
 | nil=>cases j;cases i;exact⟨⟨_,.nil⟩,_,.nil⟩
 | @cons kd _ ds _ a1 t1 q =>
  cases j with|cons a2 t2 =>
  cases i with|cons a3 a4 t3 =>
  obtain⟨k,d⟩:=kd;obtain⟨⟨as,ra⟩,bs,m⟩:=q (λp r=>h p (ba _ r)) t2 t3;obtain⟨⟨x,rfl⟩,t,_⟩:=h (k,d) ax;obtain⟨z,l⟩:=D0 I t a1.2 a2.2;have e:Sum.inr x=_:=a1.1.trans a2.1;have o:=G3 (k:=Sum.inr x) (by rw[e];exact a3);obtain⟨tk,v⟩:=(show ∃tk,_=Value.str x tk from o)
  simp only[kvPd,bf,keyPd,v,a4];exact⟨⟨_,.cons (.str x tk) ra⟩,_,.cons l m⟩
def U0:List V->Hp->VK->Prop:=λxs H Q=>∃a c ds,xs=[.ref a]/\H a=some (.dK c)/\cG H ds c/\W8 ds/\(cY ds).length<=sizeLine/\Q (.str (cY ds)) H
def mN (O:X.A.guards=some [])(Y:X.A.units+64<cLine):cV X (.builtin "repr") U0:=by
 rintro v s W H xs us Q I r ⟨a,J,ds,rfl,P,rep,g,hz,q⟩;obtain⟨u,rfl,C⟩:=r.one;cases C;obtain⟨z,lo,vs,h,o,S,Z,l,j,x,_,R,_⟩:=rH I.hok P;obtain⟨⟨as,ra⟩,bs,m⟩:=KK I g rep h R;obtain⟨⟨B,U⟩,s2,T⟩:=DK g;have dep:=xH g;obtain⟨b1,G,L⟩:=ReprAllK.of_readsAll (prog:=X.prog) (w:=X.w) ra B (λz=>by rw[U]at z;cases z) λt i=>let⟨p,hp,hl⟩:=PyData.shownKv_key_le _ t i;ao hl (ao (dictText_mem_le hp) hz);obtain⟨b2,E,K⟩:=ReprAllK.of_readsAll (prog:=X.prog) (w:=X.w) m s2 (λz=>by rw[T]at z;cases z) λt i=>let⟨p,hp,hl⟩:=PyData.shownKv_val_le _ t i;ao hl (ao (dictText_mem_le hp) hz);have d:=PyData.depthAll_keys_le (kvPd ds);have c:=PyData.depthAll_vals_le (kvPd ds);have na:a∉b1++b2:=not_mem_of_deeper (.dict l j.1 x ra m) (by simp only[PyData.depth];exact Nat.lt_succ_self _) ((G.mono d).append (E.mono c));refine call_repr_slot dk ⟨o,l,j.1⟩ F.slot_dict_repr (call_dict_reprK (h₀:=s.heap) l j.1 x lo na (ReprEntriesK.of_two S.toList _ _ (L.more_le (λb hb=>cj _ hb) d) (K.more_le (λb hb=>bz _ hb) c)) O (λb _=>Clear.nil b) ?_ (λb o e=>e) (λh' u tk N=>?_) ?_)
 ·show X.A.units+1+(_+1)<cLine
  lia
 ·rw[←PyData.shownKv_eq];exact⟨_,_,rfl,.str (cY ds),H,I.kept (t':=tk) N,⟨_,rfl⟩,q⟩
 ·rw[←PyData.shownKv_eq];exact hz
end
def tT {i c:Type}{R:i->c->Prop}{l j:List i}(p:l.Perm j):∀{m:List c},Paired R l m->∃d:List c,m.Perm d/\Paired R j d:=by
 induction p with
 | nil=>exact λh=>⟨_,.refl _,h⟩
 | cons x _ w =>
  intro m h;cases h with|cons a t =>
  obtain⟨d,u,r⟩:=w t;exact⟨_,u.cons _,.cons a r⟩
 | swap x y l =>
  intro m h;cases h with|cons a t =>
  cases t with|cons b t =>
  exact⟨_,.swap _ _ _,.cons b (.cons a t)⟩
 | trans _ _ g e =>
  intro m h;obtain⟨z,s,r1⟩:=g h;obtain⟨v,q,o⟩:=e r1;exact⟨v,s.trans q,o⟩
section
variable {X:Cx}
def rKP (b:Bool):R2:=λx y H Q=>∃p q e kb ds c,x = .ref p/\y = .ref q/\H p=some (.dK e)/\H q=some (.dK kb)/\cG H ds e/\cG H c kb/\c.Perm ds/\(∀d∈ds,depD d.2<=50)/\Q (.bl b) H
def T4 {g:dD}{s:du}{v:St}{H:Hp}{p q:Addr}{r kb:List (cR×V)}{ds h:List (cR×D)}(L:X.A.units+64<cLine)(I:aM X g v H s)(J:H p=some (.dK r))(G:H q=some (.dK kb))(ra:cG H ds r)(z:cG H h kb)(pm:h.Perm ds)(hd:∀d∈ds,depD d.2<=50) :
  ∃e c,(p == sysModules)=false/\(q == sysModules)=false/\s.heap.DictOf (bM X.prog X.w) p e/\s.heap.DictOf (bM X.prog X.w) q c/\e.length=c.length/\PySem.W.KeqHits X.A.in1 s c e true:=by
 obtain⟨_,lp,e,kv,dp⟩:=rH I.hok J;obtain⟨_,C,c,E,t⟩:=rH I.hok G;obtain⟨_,_,_,_,_,_,_,_,nd⟩:=id t;obtain⟨F,B,j⟩:=tT pm z;obtain⟨x,o,l⟩:=tT B E;have m:=G2 (A:=X.A.in1) I.hok (n:=50) (by show X.A.units+1+50<cLine;lia) ra j kv l hd;refine⟨e,c,lp,C,dp,t,(Paired.length m).trans o.length_eq.symm,OS m λ⟨k,u⟩ K=>?_⟩;obtain⟨i,hi⟩:=List.getElem?_of_mem (o.mem_iff.mpr K);exact valueAt_of_get nd hi
def JG (m:X.A.units+64<cLine):jU X (compareOp .Eq) (rKP true):=by rintro d s C H x y v u Q I g e ⟨p,q,G,kb,ds,z,rfl,rfl,t,o,ra,h,pm,hd,i⟩;cases g;cases e;obtain⟨F,E,lp,j,dp,B,l,c⟩:=T4 m I t o ra h pm hd;refine PySem.W.keq_eq (knd:=bM X.prog X.w) (r:=true) lp j dp B dk (λ_=>c) ⟨.bl true,H,I,?_,i⟩;rw[l,beq_self_eq_true];rfl
def u7 (m:X.A.units+64<cLine):jU X (compareOp .NotEq) (rKP false):=by rintro d s C H x y v u Q I g e ⟨p,q,G,kb,ds,z,rfl,rfl,t,o,ra,h,pm,hd,i⟩;cases g;cases e;obtain⟨F,E,lp,j,dp,B,l,c⟩:=T4 m I t o ra h pm hd;refine PySem.W.keq_ne (knd:=bM X.prog X.w) (r:=true) lp j dp B dk (λ_=>c) ⟨.bl false,H,I,?_,i⟩;rw[l,beq_self_eq_true];rfl
def U2:List V->Hp->VK->Prop:=λxs H Q=>∃p c,xs=[.ref p]/\H p=some (.dK c)/\∀l,H l=none->Q (.ref l) (upd H l (.dK c))
def IE:cV X (.type "dict") U2:=by
 rintro g s m H xs us Q I r ⟨p,i,rfl,j,q⟩;obtain⟨u,rfl,h⟩:=r.one;cases h;obtain⟨z,lo,vs,c,l⟩:=rH I.hok j;refine kt_call_dict lo l (by rw[←c.length];exact z) λh' d sb=>⟨.ref s.heap.objs.size,_,?_,rfl,q _ (I.hok.fresh (ac _))⟩
 exact I.laid (t':=s.toks) (λb o e=>(sb.2 b (bq (bc e))).trans (af _ e)) (ac _) (xG z (cz.mpr (Ne.symm (bq I.big))) c d)
def rDUpd:V->List V->Hp->VK->Prop:=λx vs H Q=>∃a b c more,x = .ref a/\vs=[.ref b]/\a≠b/\H a=some (.dK c)/\H b=some (.dK more)/\c.length+more.length<=sizeLine/\Q .non (upd H a (.dK (gE c more)))
def R1:UB X "dict.update" rDUpd:=by rintro g s C H x vs v us Q I m o ⟨a,b,d,more,rfl,rfl,ne,h,hb,z,q⟩;cases m;obtain⟨u,rfl,p⟩:=aP.one o;cases p;obtain⟨_,la,l,ra,i⟩:=rH I.hok h;obtain⟨_,r,j,e,B⟩:=rH I.hok hb;refine call_meetsIn PySem.F.slot_dict_update i.typeIs PySem.F.entry_dict_update (PySem.F.args_dict_update_2 _ _) (meets_dict_update (bM X.prog X.w) a b ne r) ⟨l,j,i,B,by rw[←ra.length,←e.length];exact z,λh' c _ t=>⟨.non,_,?_,rfl,q⟩⟩;have A:∃q,h'.get? a=some q:=let⟨q,_,_,hq,_⟩:=c;⟨q,hq⟩;exact oN (t':=s.toks) I (by rw[h];exact True.intro) t A (xG (ao (kR more d) z) la (e.merge ra) c)
end
def WF (P:dw)(w:dy)(K:dq)(mg:jS)(base:Heap)(CX:DC)(k:Nat)(x:Str)(sp:Sp):Prop :=
 ∃f c ps,yB P w K mg base CX k f c ps sp/\mg x=some (.ref f)/\PySem.W.keepIn K (.ref f)=true/\eW K c ps []
section
variable {X:Cx}{CX:DC}{k:Nat}{sp:Sp}{E:XK}{x:Str}{p pos:Pos}{e:Expr}{es:pV}{t:TA}
def JC (O:WF X.prog X.w X.K X.mg X.base CX k x sp)(S:X.A.guards=some [])(C:d9 k X.A)(B:kW CX X E)(N:Gl X x)(R:PA X (e::es) t)(l:(x == ("__debug__" : Str))=false:=by decide)
  (P:starEach (e::es) X.env=(false,eval e X.env)::starEach es X.env:=by rfl) (j:(backTo pos (starEach es X.env)).any (·.1)=false:=by rfl):PE X (.Call (.Name x p) (e::es) [] pos) (tCall sp [] E t):=by
 obtain⟨f,T,ps,F,G,L,hb⟩:=O;intro c s m H Q I h;refine wpAny_Call_Name_kw (qX I N G ?_ l);refine PySem.W.callWith_K (h₀:=X.base) I.ok.mod.kin L (thn (R pos c s m H _ I h) λus i ⟨vs,o,g,r,q⟩=>⟨g.kIn,?_⟩) P j;have J:(us++[]).length=ps.length:=by rw[bp,←r.length,←bp vs];exact F.len _ _ _ _ q
 have z:aP (vs++[]) (us++[]):=r.append .nil;refine wpAny_call (codeAny_mono (F.run X.A X.stack i o ⟨us,[]⟩ (us++[]) (vs++[]) Q E S C g.env0 (hb i us g.kIn J) z q) λr v d=>?_);cases r with
 | error e=>exact B c m o i e v g d
 | ok fl =>
  cases fl with
  | ret u=>exact g.after d
  | next=>exact False.elim d
  | brk=>exact False.elim d
  | cont=>exact False.elim d
end
end L2
namespace L2
open PySem PySem.Spec PyProof.Rows PySem.SeqAt
section
variable {X:Cx}{pins:dD}{σ:St}{H:Hp}{s:du}
variable {x:Str}{C:Addr}{p pos:Pos}{e:Expr}{es:pV}{ta:TA}
end
section
variable {a:Addr}{z:Str}{k:Tok}
variable {s:du}{A:dz}
end
end L2
namespace L2
open PySem PySem.Spec PyProof.Rows
section
variable {P:dw}{w:dy}{A:dz}{E:cM}
def HY {it l:Addr}{items:cX}(ne:l≠it):∀(j i:Nat) (s:du) (Q:cX->du->Prop),i+j=items.length->s.heap.IsListIter it l i->s.heap.IsList l items.toArray ->
  (∀h',h'.IsListIter it l items.length->h'.IsList l items.toArray->(∀b o,b≠it->s.heap.get? b=some o->h'.get? b=some o)->Q (items.drop i) {s with heap:=h'})->wpAny (model P w) A (draw (.ref it) j) Q E s:=by
 intro j
 induction j with
 | zero =>
  intro i s Q e hi c q;rw[Nat.add_zero]at e;subst e;have:=q s.heap hi c λ_ _ _ z=>z;rw[List.drop_length]at this;exact ak this
 | succ j r =>
  intro i s Q e hi c q;have lt:i<items.length:=by lia
  refine aa (wpAny_pyNext_list_item (x:=items[i]) hi c (by simp[lt]) λp m sb=>?_);have g:p.IsList l items.toArray:=by obtain⟨o,a,b⟩:=c;exact⟨o,(sb.2 l ne).trans a,b⟩
  refine aa (ck (r (i+1) {s with heap:=p} _ dk m g λt h d kp=>ak ?_));rw[←List.drop_eq_getElem_cons lt];exact q t h d λb o n z=>kp b o n ((sb.2 b n).trans z)
def heldB {d c:Type}{M:Model}{B:dz}{E:cM}{s:du}{vs:cX}{m:Sem d}{f:d->Sem c}{Q:c->du->Prop}(h:wpAny M B m (λa t=>wpAny M B (f a) Q E t) E s):wpAny M B (holding vs m >>= f) Q E s:=aa (ck h)
def yH {c:List (Bool×(dv->Sem Unit))}{Q:Unit->du->Prop}(p:A.handled=none)(d:s.heap.IsList l items.toArray)(m:c.length=items.length)(e:c.findIdx? (·.1)=none)
  (h:∀h',(∀b o,s.heap.get? b=some o->h'.get? b=some o)->wpAny (model P w) A (assignInOrder (c.map (·.2)) items) Q E {s with heap:=h'}):wpAny (model P w) A (unpack (.ref l) c) Q E s:=by
 have lt:l<s.heap.objs.size:=by obtain⟨o,a,_⟩:=d;exact bc a
 unfold unpack;rw[m,e];refine heldB ?_;unfold unpackItems notIterableAtAll;refine aa (aa (wpAny_specialOf d.typeIs slot_list_iter.lookup (ak ?_)));show wpAny _ _ (if false=true then _ else _) _ _ _;rw[ab ad];refine heldB (wpAny_pyIter_list d ?_);refine heldB (HY (l:=l) (items:=items) (bq lt) items.length 0 _ _ (Nat.zero_add _) ⟨_,av _ rfl,rfl,rfl⟩ (d.push _) λt j g i=>?_);rw[List.drop_zero,ab (cf _)];refine heldB (wpAny_pyNext_list_end p j g dl λq r=>?_);rw[ab ad];exact ak (h q λb o z=>r b o (bq (bc z)) (i b o (bq (bc z)) (af _ z)))
end
section
variable {X:Cx}{pos:Pos}
def gSq (n:Nat)(t:WP):TG:=λv c H Q=>∃a xs,v = .ref a/\fB H a xs/\xs.length=n/\t xs c H Q
def WU (hc:X.calm=true)(h:XE X es t)(j:(assignEach es X.env).length=n:=by rfl)(d:(assignEach es X.env).findIdx? (·.1)=none:=by rfl):PG X (.Tuple es k pos) (gSq n t):=by
 rintro c s g H v u Q I r ⟨a,xs,rfl,e|e,l,q⟩
 ·cases r;obtain⟨its,i,m⟩:=g8 I.hok e;rw[assign_Tuple];refine aa (wpAny_standAt (yH (I.ok.hd hc) m (by rw[j,←l,i.length]) d λh' k=>?_));exact h c _ g H xs its Q (I.kept (t':=s.toks) k) i q
 ·exact GB hc h j d c s g H (.ref a) u Q I r ⟨a,xs,rfl,iF.of e,l,q⟩
end
end L2
namespace L2
open PySem
def cE (a:sc.kind = .function:=by exact rfl)(b:sc.isCoroutine=false:=by exact rfl)(c:sc.isGenerator=false:=by exact rfl)(d:N.take P.length=P:=by exact rfl)(e:N.Nodup/\(∀x∈P,sc.names.lookup x=some .local\/sc.names.lookup x=some .cell)/\∀y∈sc.names,y.2≠.free:=by decide +kernel):aN N P sc:=⟨a,b,c,e.1,d,e.2.1,e.2.2⟩
def XI:ixV H (.ref p) (.int i)=(match H p with
  | some (.lst xs)=>atI xs i
  | some (.tup xs)=>atI xs i
  | some (.frz _ (.lst xs))=>atI xs i
  | _=>none):=rfl
noncomputable def abc:Str:="abcdefghijklmnopqrstuvwxyz"
def WC (j:Nat)(h:j<26):abc.cps.toList[j]?=some (97+j):=by
 have:∀j:Fin 26,abc.cps.toList[j.1]?=some (97+j.1):=by decide +kernel
 exact this ⟨j,h⟩
def TC:abc.cps.toList.length=26:=by decide +kernel
def V2 (e:0<=i)(d:i<26):ixV H (.str abc) (.int i)=some (.str ⟨#[97+i.toNat]⟩):=by show(if abc.length<=sizeLine then(atI abc.cps.toList i).map λc=>V.str ⟨#[c]⟩else none)=_;rw[ai (by decide +kernel),kT e (by rw[TC];exact d),WC _ dk];rfl
noncomputable def wordL:Nat->Int->List Nat
 | 0,_=>[]
 | k+1,n=>(97+(n % 26).toNat)::wordL k (n / 26)
def rX:∀k n,(wordL k n).length=k
 | 0,_=>rfl
 | k+1,n=>by simp[wordL,rX k]
noncomputable def wordS (k:Nat)(n:Int):Str:=⟨(wordL k n).toArray⟩
def tyL (h:H p=some (.lst xs)):tyV K "list" (.ref p) H:=.inl ⟨rfl,xs,fL.of h⟩
def jQ (x:Str):Prop:=1<=x.cps.toList.length/\x.cps.toList.length<=6/\∀c∈x.cps.toList,97<=c/\c<=122
def DG:∀(k:Nat) (n:Int),∀c∈wordL k n,97<=c/\c<=122
 | 0,_,_,h=>by simp[wordL]at h
 | k+1,n,c,h=>by
  rw[wordL]at h;rcases cw.mp h with e|e
  ·have g:=Int.emod_nonneg n (b:=26) ad;have d:=Int.emod_lt_of_pos n (b:=26) ad
   lia
  ·exact DG k _ c e
def MK (d:1<=k)(c:k<=6):jQ (wordS k n):=by
 have e:(wordS k n).cps.toList=wordL k n:=by simp[wordS]
 refine⟨?_,?_,?_⟩
 ·rw[e,rX];exact d
 ·rw[e,rX];exact c
 ·rw[e];exact DG k n
def J5 (c:1<=k)(h:wordS k a=wordS k b):a % 26=b % 26:=by
 obtain⟨j,rfl⟩:∃j,k=j+1:=⟨k - 1,dk⟩
 have e:(wordS (j+1) a).cps.toList=(wordS (j+1) b).cps.toList:=by rw[h]
 simp only[wordS,wordL]at e;injection e with i _;have g:=Int.emod_nonneg a (b:=26) ad;have d:=Int.emod_nonneg b (b:=26) ad
 lia
theorem sP {c:Type}[DecidableEq c]:∀{xs ys:List c},xs.Nodup->(∀x∈xs,x∈ys)->xs.length<=ys.length
 | [],_,_,_=>aw _
 | x::xs,ys,nd,h=>by
  obtain⟨j,i⟩:=da.mp nd;have g:=h x ax;have q:=sP (ys:=ys.erase x) i λy d=>(List.mem_erase_of_ne (λe=>j (by rw[←e];exact d))).mpr (h y (ba _ d));rw[List.length_erase_of_mem g]at q;have:=List.length_pos_of_mem g;simp only[aq]
  lia
def rW {k:Nat}{n:Int}{c:aV}{t:Nat}(g:1<=k)(m:t<=26)(h:∀i,i<t->wordS k (n+i)∈c):t<=c.length:=by
 have nd:((List.range t).map λi=>wordS k (n+(i:Nat))).Nodup:=by
  rw[List.nodup_iff_pairwise_ne,List.pairwise_map];refine List.Pairwise.imp_of_mem ?_ (List.pairwise_lt_range (n:=t));intro a b l hb j e;have:=J5 g e;have p:=List.mem_range.mp l;have o:=List.mem_range.mp hb
  lia
 have q:=sP nd (ys:=c) λx d=>by obtain⟨i,hi,rfl⟩:=cy.mp d;exact h i (List.mem_range.mp hi)
 simpa using q
def sF:∀(c:aV),Reps H (c.map D.str) (c.map V.str)
 | []=>rfl
 | x::r=>⟨.str x,r.map V.str,rfl,rfl,sF r⟩
def xI:∀c:aV,depDs (c.map D.str)=0
 | []=>rfl
 | x::r=>by rw[bf,depDs,xI r];rfl
theorem w8:∀c:aV,inD (.str x) (c.map D.str)=decide (x∈c)
 | []=>by simp[inD]
 | y::r=>by
  have d:=w8 (x:=x) r;unfold inD at d⊢;rw[bf,List.any_cons,d];have e:eqD (.str y) (.str x)=decide (y=x):=by show(y == x)=_;rw[cg];simp
  rw[e,cg];simp only[Bool.or_eq_true,decide_eq_true_eq,cw];constructor
  ·rintro(h|h)
   ·exact .inl h.symm
   ·exact .inr h
  ·rintro(h|h)
   ·exact .inl h.symm
   ·exact .inr h
noncomputable def del (H:Hp)(p:Addr):Hp:=λb=>if b=p then none else H b
def dB (h:H b=some o)(n:b≠p):del H p b=some o:=by unfold del;rw[ab n];exact h
def dR (h:del H p b=some o):H b=some o/\b≠p:=by
 unfold del at h;by_cases e:b=p
 ·rw[ai e]at h;cases h
 ·rw[ab e]at h;exact⟨h,e⟩
def g9 (H:Hp)(p:Addr):aF (del H p) H:=λb o h=>(dR h).1
end L2
section
local macro_rules | `(tactic| walk_at "rd")=>do
 let xs:Array (Lean.TSyntax [`Lean.Parser.Tactic.simpStar,`Lean.Parser.Tactic.simpErase,`Lean.Parser.Tactic.simpLemma]):=("L2.start List.map_cons List.map_nil List.length_cons List.length_nil Nat.reduceAdd Nat.reduceSub Nat.zero_add List.replicate_succ List.replicate_zero List.cons_append List.nil_append List.set_cons_zero List.set_cons_succ L2.tSeq L2.tIfS L2.tTest L2.tOp L2.tVar L2.tC L2.rI0 L2.tAsg L2.gName L2.gSub L2.rI L2.tRet L2.tNext L2.rSetL L2.rAddF L2.rRep L2.tCB L2.r1 L2.tCons L2.tNil L2.tDrop L2.tAnd L2.tOr L2.tNot L2.tIf L2.tLst L2.tTup L2.tCall L2.tFor_eq L2.tComp_eq L2.tComp2_eq L2.iRng1 L2.iRng2 L2.iAny L2.iSq L2.iZip L2.iZip2 L2.iEnum L2.tRaise L2.tTry L2.rNo L2.rAll L2.rAny L2.rSum L2.tUn L2.rU L2.gTup L2.gCons L2.gNil L2.tBM L2.tBM0 L2.rAppend L2.rPop L2.rPopAt L2.rExtend L2.tSl L2.tNoPart L2.tPart L2.rSlF L2.rSlU L2.rTupU L2.CStep L2.tYes L2.stC Option.bind_some Option.bind_none Option.join_some L2.tAndV L2.tOrV L2.tNotV L2.tNever not_true_eq_false not_false_eq_true L2.tChain L2.tTruth L2.rIs_eq L2.truV_bl L2.isV_ii L2.isV_ib L2.isV_ll L2.lenV_l L2.lenV_t L2.seqV_l L2.seqV_t L2.ixV_l L2.ixV_t if_true if_false Bool.not_true Bool.not_false Bool.false_eq_true Option.bind_eq_bind Option.pure_def L2.rEqD_ii L2.rNeD_ii L2.rEqD_bb L2.rNeD_bb L2.isV_bb L2.rEqD_ss L2.rNeD_ss Int.zero_add L2.catO_i L2.catO_s L2.addV L2.intV L2.atI_zero L2.atI_one L2.ixN_zero L2.ixN_one L2.upd_same L2.upd_upd Option.map_some Option.map_none List.getElem?_cons_zero List.getElem?_cons_succ Option.some.injEq L2.V.int.injEq L2.V.ref.injEq L2.V.bl.injEq L2.V.str.injEq L2.HO.lst.injEq List.cons.injEq and_true true_and exists_eq_left exists_eq_left' exists_eq_right exists_eq_right' exists_and_left exists_and_right exists_const reduceCtorEq false_and and_false exists_false or_false false_or decide_eq_true_eq ite_eq_left_iff Bool.not_eq_true Bool.not_eq_eq_eq_not decide_eq_false_iff_not decide_true decide_false".splitOn " ").toArray.map λs=>⟨Lean.mkNode `Lean.Parser.Tactic.simpLemma #[Lean.mkNullNode,Lean.mkNullNode,Lean.mkIdent s.toName]⟩
 let xs:=xs.push ⟨Lean.mkNode `Lean.Parser.Tactic.simpStar #[Lean.mkAtom "*"]⟩
 `(tactic| simp only [$xs,*])
namespace Lw
open PySem L2
noncomputable def uO:aV:=["_law_script","_law_k"]
noncomputable def uJ:aV:=uO.take 2
def BH:aN uO uJ (aH j6):=cE
noncomputable def x6:aV:=["_law_script","_law_k","_law_cell_here"]
noncomputable def xW:aV:=x6.take 2
def tP:aN x6 xW (aH mG):=cE
noncomputable def uM:aV:=["_law_pot_here","_law_many","_law_digit"]
noncomputable def uF:aV:=uM.take 2
def qG:aN uM uF (aH jZ):=cE
noncomputable def uK:aV:=["_law_size","_law_number","_law_word_here","_law_k"]
noncomputable def uE:aV:=uK.take 2
def gL:aN uK uE (aH jY):=cE
noncomputable def rT:aV:=["_law_pot_here","_law_many","_law_found","_law_k","_law_size","_law_number"]
noncomputable def rQ:aV:=rT.take 2
def eL:aN rT rQ (aH i9):=cE
noncomputable def mR:aV:=["_law_pot_here","_law_many","_law_sums","_law_names_here","_law_sure","_law_fixed","_law_left","_law_told","_law_name","_law_nought"]
noncomputable def rP:aV:=["_law_pot_here"]
def cI:aN mR rP (aH fE):=cE
noncomputable def pB:aV:=["_law_pot_here","_law_found","_law_k","_law_wish","_law_j"]
noncomputable def oY:aV:=["_law_pot_here"]
def d5:aN pB oY (aH iK):=cE
noncomputable def nY:aV:=["_law_pot_here","_law_told","_law_own_here","_law_bare","_law_some"]
noncomputable def uI:aV:=nY.take 3
def mB:aN nY uI (aH iQ):=cE
noncomputable def jC:aV:=["_law_told","_law_room","_law_found"]
noncomputable def rR:aV:=jC.take 2
def kP:aN jC rR (aH fG):=cE
noncomputable def uL:aV:=["_law_pot_here","_law_told","_law_own_here","_law_room","_law_deep","_law_heads_here","_law_name","_law_parts","_law_left","_law_row","_law_k","_law_more_here"]
noncomputable def iW:aV:=uL.take 5
def dE:aN uL iW (aH gG):=cE
noncomputable def uN:aV:=["_law_term_here"]
noncomputable def uG:aV:=["_law_term_here"]
def BG:aN uN uG (aH j4):=cE
noncomputable def rV:aV:=["_law_one","_law_other","_law_here","_law_there"]
noncomputable def hU:aV:=rV.take 2
def oR:aN rV hU (aH fH):=cE
noncomputable def pC:aV:=["_law_name","_law_nought","_law_parts","_law_found","_law_part"]
noncomputable def oZ:aV:=pC.take 3
def gM:aN pC oZ (aH iL):=cE
noncomputable def n8:aV:=["_law_told","_law_term_here","_law_parts","_law_noughts","_law_found","_law_part","_law_at"]
noncomputable def iX:aV:=n8.take 2
def eB:aN n8 iX (aH eY):=cE
noncomputable def UA:aV:=["_law_script","_law_pot_here","_law_told","_law_signs_here","_law_some","_law_k","_law_one","_law_other","_law_last","_law_term_here","_law_both"]
noncomputable def T8:aV:=["_law_script"]
def iY:aN UA T8 (aH qK):=cE
noncomputable def tI:aV:=["thing"]
noncomputable def AT:aV:=["thing"]
def F5:aN tI AT (aH lN):=cE
noncomputable def pR:aV:=["signs","thing"]
noncomputable def xU:aV:=pR.take 2
def DU:aN pR xU (aH mE):=cE
noncomputable def mQ:aV:=["signs","thing","todo","at","depth"]
noncomputable def rO:aV:=mQ.take 2
def iJ:aN mQ rO (aH gQ):=cE
noncomputable def PY:aV:=["term","found","todo","at"]
noncomputable def FH:aV:=["term"]
def oC:aN PY FH (aH qI):=cE
noncomputable def rS:aV:=["term"]
noncomputable def rN:aV:=["term"]
def yK:aN rS rN (aH i8):=cE
noncomputable def nW:aV:=["term"]
noncomputable def uD:aV:=["term"]
def BF:aN nW uD (aH iP):=cE
noncomputable def xY:aV:=["name","term"]
noncomputable def FJ:aV:=xY.take 2
def KJ:aN xY FJ (aH qJ):=cE
noncomputable def x0:aV:=["name","nought","parts","left","part"]
noncomputable def xV:aV:=x0.take 3
def nE:aN x0 xV (aH mF):=cE
noncomputable def mZ:aV:=["signs","name","parts","nought"]
noncomputable def mU:aV:=mZ.take 3
def lK:aN mZ mU (aH fZ):=cE
noncomputable def kY:aV:=["term","filling","whole","made","at","parts"]
noncomputable def oV:aV:=kY.take 3
def gK:aN kY oV (aH fQ):=cE
noncomputable def FL:aV:=["signs","filling","term"]
noncomputable def xS:aV:=FL.take 3
def KI:aN FL xS (aH dA):=cE
noncomputable def tJ:aV:=["thing"]
noncomputable def AV:aV:=["thing"]
def F7:aN tJ AV (aH lO):=cE
noncomputable def xZ:aV:=["thing"]
noncomputable def xT:aV:=["thing"]
def DT:aN xZ xT (aH mC):=cE
noncomputable def i0:aV:=["thing","least","most","pair"]
noncomputable def mW:aV:=i0.take 3
def lL:aN i0 mW (aH eI):=cE
noncomputable def iO:aV:=["pairs","names"]
noncomputable def oX:aV:=["pairs"]
def nH:aN iO oX (aH eM):=cE
noncomputable def pA:aV:=["fixed_rows","name","many"]
noncomputable def oW:aV:=["fixed_rows"]
def nG:aN pA oW (aH fR):=cE
noncomputable def i5:aV:=["sum_rows","bare_names","name","nought","noughts"]
noncomputable def mX:aV:=i5.take 2
def iC:aN i5 mX (aH eJ):=cE
noncomputable def iI:aV:=["self","fixed","sums","fixed_rows","sum_rows"]
noncomputable def iH:aV:=iI.take 3
def gN:aN iI iH (aH cN):=cE
noncomputable def mS:aV:=["self","name"]
noncomputable def mP:aV:=mS.take 2
def yL:aN mS mP (aH eC):=cE
noncomputable def jR:aV:=["self","name"]
noncomputable def jP:aV:=jR.take 2
def uR:aN jR jP (aH dH):=cE
noncomputable def AX:aV:=["signs","thing"]
noncomputable def AU:aV:=AX.take 2
def F6:aN AX AU (aH oE):=cE
noncomputable def m6:aV:=["signs","thing","wish","term"]
noncomputable def mY:aV:=m6.take 2
def lM:aN m6 mY (aH gA):=cE
noncomputable def nV:aV:=["filling"]
noncomputable def nS:aV:=["filling"]
def uQ:aN nV nS (aH eX):=cE
noncomputable def kX:aV:=["signs","filling"]
noncomputable def oU:aV:=kX.take 2
def wA:aN kX oU (aH fP):=cE
noncomputable def FM:aV:=["signs","filling","term","looked"]
noncomputable def FK:aV:=FM.take 3
def zC:aN FM FK (aH qM):=cE
noncomputable def tK:aV:=["signs","one","other","first","second","both"]
noncomputable def AW:aV:=tK.take 3
def l8:aN tK AW (aH lP):=cE
noncomputable def pT:aV:=["_law_pot_here","_law_told","_law_wish","_law_noughts","_law_way","_law_name","_law_nought"]
noncomputable def xX:aV:=pT.take 3
def jX:aN pT xX (aH jI):=cE
noncomputable def n9:aV:=["_law_pot_here","_law_told","_law_some","_law_found","_law_k","_law_wish"]
noncomputable def nU:aV:=n9.take 3
def fY:aN n9 nU (aH gU):=cE
noncomputable def FN:aV:=["_law_pot_here","_law_some"]
noncomputable def uH:aV:=["_law_pot_here"]
def qH:aN FN uH (aH j5):=cE
noncomputable def pS:aV:=["_law_filling_here","_law_term_here"]
noncomputable def jO:aV:=pS.take 2
def DV:aN pS jO (aH gC):=cE
noncomputable def nZ:aV:=["_law_told","_law_one","_law_other","_law_found","_law_wish","_law_term_here"]
noncomputable def nT:aV:=nZ.take 3
def fW:aN nZ nT (aH gR):=cE
noncomputable def kO:aV:=["_law_signs_here","_law_told","_law_one","_law_other","_law_term_here","_law_due","_law_held","_law_found"]
noncomputable def kN:aV:=kO.take 5
def eA:aN kO kN (aH eU):=cE
structure Txt (mg:jS):Prop where
 n_len:mg "len" = none
 n_range:mg "range" = none
 n_int:mg "int" = none
 n_abs:mg "abs" = none
 n_min:mg "min" = none
 n_max:mg "max" = none
 n_tuple:mg "tuple" = none
 n_list:mg "list" = none
 n_dict:mg "dict" = none
 n_set:mg "set" = none
 n_isinstance:mg "isinstance" = none
 n_str:mg "str" = none
 n_bool:mg "bool" = none
 n_sorted:mg "sorted" = none
 n_reversed:mg "reversed" = none
 n_all:mg "all" = none
 n_any:mg "any" = none
 n_zip:mg "zip" = none
 n_repr:mg "repr" = none
 c_WISH_SIGNS:∃u,mg "WISH_SIGNS" = some u/\aQ (.str "abcdefghijklmnopqrstuvwxyz0123456789") u
 c_LETTERS:∃u,mg "LETTERS" = some u/\aQ (.str "abcdefghijklmnopqrstuvwxyz") u
 c_LONGEST_WISH:∃u,mg "LONGEST_WISH" = some u/\aQ (.int 9) u
 c_DEEPEST:∃u,mg "DEEPEST" = some u/\aQ (.int 1000) u
 c_LONGEST_NAME:∃u,mg "LONGEST_NAME" = some u/\aQ (.int 6) u
 c_MOST_FIXED:∃u,mg "MOST_FIXED" = some u/\aQ (.int 12) u
 c_MOST_SUMS:∃u,mg "MOST_SUMS" = some u/\aQ (.int 3) u
 c_MOST_PARTS:∃u,mg "MOST_PARTS" = some u/\aQ (.int 3) u
section
variable {P:dw}{w:dy}{K:dq}{mg:jS}{base:Heap}
def M4 (K:dq):Sp:=λvs H Q _=>∃(a:Addr) (k:Int) (ns:List Int),vs=[.ref a,.int k]/\fL K H a (ns.map V.int)/\0<=k/\k<=1000/\∀n,Q (.int n) H
def RY (F:fV K "_law_cell" "_law_cell" j6 f fd)(T:Txt mg):cH P w K mg base bU 1 f fd uJ (M4 K):=by
 refine F.ok BH (λvs H Q E h=>?_) (λl A outer s H vs Q E g h=>?_)
 ·obtain⟨a,k,ns,rfl,_⟩:=h;rfl
 ·obtain⟨a,k,ns,rfl,d,j,m,q⟩:=h;have e:=g.units
  refine⟨_,(aE (bQ (aR (kQ e) (pv 1) (aZ mO T.n_len (aA (pv 0) aB))) (aG (aL (cA OT (pv 0) (pv 1) (λ_ _=>rfl)))) aO)
   (aG (aL aJ))),?_⟩
  refine⟨_,rfl,_,rfl,a,_,rfl,.inl d,.inl (.inl ⟨_,_,rfl,rfl,_,rfl,?_⟩)⟩;refine ite2 (λc=>?_) (λc=>?_)
  ·have c:k<((ns.map V.int).length:Int):=by simpa using c
   have i:k.toNat<ns.length:=by rw[ae]at c;lia
   refine⟨_,rfl,_,rfl,.inl ⟨a,_,k,.int (ns[k.toNat]),rfl,rfl,d,?_,q _⟩⟩;rw[kT j c];simp[i]
  ·exact q 0
def spPot (K:dq):Sp:=λvs H Q _=>∃(a:Addr) (k:Int) (ns:List Int),vs=[.ref a,.int k]/\fL K H a (ns.map V.int)/\0<=k/\k<=1000/\∀p x y,H p=none->Q (.ref p) (upd H p (.lst [.int x,.int y]))
def VG (F:fV K "_law_pot" "_law_pot" mG f fd)(T:Txt mg)(c:dS P w K mg base bU 1 "_law_cell" (M4 K)):cH P w K mg base bU 2 f fd xW (spPot K):=by
 refine F.ok tP (λvs H Q E h=>?_) (λl A outer s H vs Q E d h=>?_)
 ·obtain⟨a,k,ns,rfl,_⟩:=h;rfl
 ·obtain⟨a,k,ns,rfl,g,j,i,q⟩:=h
  refine⟨_,(aE (bP 2 tP.nd (aU c d (aA (pv 0) (aA (pv 1) aB))))
   (aG (aL (cQ (aA (bW (sN.or sM) (pv 2) (cB tG rfl T.n_int rfl (aA (dY T1 (pv 2) (bW U8 aJ aJ)) aB))) (aA (bW bZ (bW bZ (bW (sN.or sM) (bW wJ (aZ ME T.n_abs (aA (pv 2) aB)) aJ) aJ) (bW (sN.or sM) aJ (pv 1))) aJ) aB)))))),?_⟩
  try dsimp only[cxOf,Cx.nox]
  refine⟨_,rfl,_,rfl,a,k,ns,rfl,g,j,i,λn=>?_⟩;clear F T c d;refine⟨_,rfl,_,rfl,_,_,rfl,rfl,⟨ad,ad,ad⟩,_,_,rfl,rfl,_,_,rfl,rfl,.inl ⟨_,_,rfl,rfl,.inr ?_,_,rfl,_,rfl,_,_,rfl,rfl,(by decide:(0:Int)<2147483629),.inl ⟨_,_,rfl,rfl,.inr ad,_,rfl,.inl ⟨_,_,rfl,rfl,.inl ad,.inl ⟨_,rfl,.inl ⟨_,rfl,show 2<=sizeLine by decide,λp e=>q p _ _ e⟩⟩⟩⟩⟩⟩;split <;> decide
def bH (H:Hp)(p:Addr):Prop:=∃a b:Int,H p=some (.lst [.int a,.int b])
def bH.but (h:bH H p)(n:p≠l):bH (upd H l o) p:=by obtain⟨x,y,e⟩:=h;exact⟨x,y,by rw[aC n];exact e⟩
def bH.ne (h:bH H p)(n:H l=none):p≠l:=by obtain⟨x,y,e⟩:=h;exact aD e n
def iB:Sp:=λvs H Q _=>∃p n,vs=[.ref p,.int n]/\bH H p/\0<n/\n<1073741824/\∀d a b,0<=d->d<n->Q (.int d) (upd H p (.lst [.int a,.int b]))
def RM (F:fV K "_law_take" "_law_take" jZ f fd)(T:Txt mg):cH P w K mg base bU 1 f fd uF iB:=by
 refine F.ok qG (λvs H Q E h=>?_) (λl A outer s H vs Q E g h=>?_)
 ·obtain⟨p,n,rfl,_⟩:=h;rfl
 ·obtain⟨p,n,rfl,⟨a,b,d⟩,c,i,k⟩:=h
  refine⟨_,(aE (bQ (aR EA (cA dM (pv 0) aJ (λ_ _=>rfl)) aJ) (aE (bP 2 qG.nd (bW wJ (cA dM (pv 0) aJ (λ_ _=>rfl)) (pv 1)))
   (aE (sI (bW BX (cA dM (pv 0) aJ (λ_ _=>rfl)) (pv 1)) (NI (pv 0) aJ DS))
   (aG (aL (pv 2))))) aO)
   (aE (sI (bW wJ (bW bZ (bW (sN.or sM) (cA dM (pv 0) aJ (λ_ _=>rfl)) aJ) aJ) aJ) (NI (pv 0) aJ DS))
   (aG (aL (bW wJ (bW BX (cA dM (pv 0) aJ (λ_ _=>rfl)) aJ) (pv 1)))))),?_⟩
  try dsimp only[cxOf,Cx.nox]
  clear g F T;have e:ixV H (.ref p) (.int 0)=some (.int a):=by rw[ixV_l d];rfl
  have j:ixV H (.ref p) (.int 1)=some (.int b):=by rw[ixV_l d];rfl
  refine⟨_,rfl,_,e,_,_,rfl,rfl,_,rfl,ite2 (λ_=>?_) λ_=>?_⟩
  ·exact⟨_,rfl,_,e,_,rfl,_,_,rfl,rfl,c,_,rfl,_,e,_,rfl,_,_,rfl,rfl,⟨c,i⟩,_,rfl,p,_,0,0,rfl,rfl,d,rfl,_,rfl,k _ _ _ (Int.emod_nonneg _ dk) (Int.emod_lt_of_pos _ c)⟩
  ·refine⟨_,rfl,_,j,.inl ⟨_,_,rfl,rfl,.inr ad,.inl ⟨_,rfl,_,_,rfl,rfl,(by decide:(0:Int)<2147483647),_,rfl,p,_,1,1,rfl,rfl,d,rfl,_,rfl,_,by rw[ixV_l ec];rfl,_,_,rfl,rfl,⟨ad,ad⟩,_,rfl,_,_,rfl,rfl,c,k _ _ _ (Int.emod_nonneg _ dk) (Int.emod_lt_of_pos _ c)⟩⟩⟩
def MX:Sp:=λvs H Q _=>∃(k:Nat) (n:Int),vs=[.int k,.int n]/\k<=6/\Q (.str (wordS k n)) H
def RJ (F:fV K "_law_word" "_law_word" jY f fd)(T:Txt mg):cH P w K mg base bU 1 f fd uE MX:=by
 refine F.ok gL (λvs H Q E h=>?_) (λr A outer s H vs Q E j h=>?_)
 ·obtain⟨k,n,rfl,_⟩:=h;rfl
 ·obtain⟨k,n,rfl,t,q⟩:=h
  refine⟨_,(aE (bP 2 gL.nd iE)
   (aE (eT dj rfl (fI rfl T.n_range (aA (pv 0) aB)) (h8 3 gL.nd) (aE (bP 2 gL.nd (bW bZ (pv 2) (cA dM iE (bW wJ (pv 1) aJ) (λ_ _=>rfl))))
   (aG (bP 1 gL.nd (bW BX (pv 1) aJ)))))
   (aG (aL (pv 2))))),?_⟩
  try dsimp only[cxOf,Cx.nox]
  clear j F T;refine⟨_,rfl,_,rfl,dk,dk,?_⟩;rw[cr];refine gF (lo:=0) (λi d H'=>H'=H/\∃(m:Int) (l:List Nat) (o:Option V),d=[some (.int k),some (.int m),some (.str ⟨l.toArray⟩),o]/\l.length=i/\l++wordL (k - i) m=wordL k n) ⟨rfl,n,[],none,rfl,rfl,rfl⟩ ?_ ?_
  ·rintro i d H' hi ⟨rfl,m,l,o,rfl,e,c⟩;have g:=V2 (H:=H') (i:=m % 26) (Int.emod_nonneg _ ad) (Int.emod_lt_of_pos _ ad);have p:k - i=(k - (i+1))+1:=by lia
   rw[p,wordL]at c;refine⟨_,rfl,_,rfl,_,_,rfl,rfl,(by decide:(0:Int)<26),_,g,.inl ⟨_,ai (ao (m:=100) ?_ ad),_,rfl,_,_,rfl,rfl,⟨ad,ad⟩,rfl,_,l++[97+(m % 26).toNat],some (.int (0+i)),congrArg (λx=>[some (V.int k),some (V.int (m / 26)),some (V.str x),some (V.int (0+i))]) ?_,by simp[e],by rw[cq];exact c⟩⟩
   ·show l.toArray.size+1<=100;rw[ag]
    lia
   ·exact congrArg Str.mk dl
  ·rintro d H' ⟨rfl,m,l,o,rfl,e,c⟩;rw[Nat.sub_self,wordL,bp]at c;rw[c];exact⟨_,rfl,q⟩
def IW:Sp:=λvs H Q _=>∃(p:Addr) (m:Nat),vs=[.ref p,.int m]/\bH H p/\m<=15/\∀(l:Addr) (ws:aV) (H':Hp),H l=none->H' l=some (.lst (ws.map V.str))->bO p H H'->bH H' p->ws.length=m->ws.Nodup->(∀x∈ws,jQ x)->Q (.ref l) H'
def XV (p l:Addr)(m:Nat)(H:Hp)(i:Nat)(e:St)(d:Hp):Prop:=∃(c:aV) (o1 o2 o3:Option V),e=[some (.ref p),some (.int m),some (.ref l),o1,o2,o3]/\d l=some (.lst (c.map V.str))/\bO p H d/\bH d p/\c.length=i/\c.Nodup/\∀x∈c,jQ x
def N2 (F:fV K "_law_names" "_law_names" i9 f fd)(T:Txt mg)(u:dS P w K mg base bU 1 "_law_take" iB)(g:dS P w K mg base bU 1 "_law_word" MX):cH P w K mg base bU 2 f fd rQ IW:=by
 refine F.ok eL (λvs H Q E h=>?_) (λcdv A outer s H vs Q E G h=>?_)
 ·obtain⟨p,m,rfl,_⟩:=h;rfl
 ·obtain⟨p,m,rfl,hp,hm,q⟩:=h;have hu:=G.units
  refine⟨_,(aE (bP 2 eL.nd (cQ aB))
   (aE (eT dj rfl (fI rfl T.n_range (aA (pv 1) aB)) (h8 3 eL.nd) (aE (bP 4 eL.nd (bW bZ aJ (aU u G (aA (pv 0) (aA aJ aB)))))
   (aE (bP 5 eL.nd (aU u G (aA (pv 0) (aA (cA dM (cQ (aA aJ (aA aJ (aA aJ (aA aJ (aA aJ (aA aJ aB))))))) (bW sK (pv 4) aJ) (λ_ _=>rfl)) aB))))
   (aE (qP dj (aR (VC hu) (aU g G (aA (pv 4) (aA (pv 5) aB))) (pv 2) (by with_unfolding_all rfl)) (aG (bP 5 eL.nd (bW bZ (pv 5) aJ))))
   (aG (cW (j8 df dh dg gH (pv 2) (aA (aU g G (aA (pv 4) (aA (pv 5) aB))) aB))))))))
   (aG (aL (pv 2))))),?_⟩
  try dsimp only[cxOf,Cx.nox]
  clear G F T u g hu;refine⟨show 0<=sizeLine by decide,λl hl=>⟨_,rfl,_,rfl,dk,dk,?_⟩⟩;rw[cr];have C:p≠l:=by obtain⟨a,b,e⟩:=hp;exact aD e hl
  refine gF (lo:=0) (XV p l m H)
   ⟨[],none,none,none,rfl,ec,bO.new hl,by obtain⟨a,b,e⟩:=hp;exact⟨a,b,by rw[aC C];exact e⟩,rfl,List.nodup_nil,dl⟩ ?_ ?_
  ·rintro i σ U hi ⟨z,o1,o2,o3,rfl,J,hb,N,I,nd,ok⟩;clear q;refine⟨_,rfl,p,6,rfl,N,ad,ad,λd a b h0 h1=>.inl ⟨_,rfl,?_⟩⟩;obtain⟨v,hkk⟩:∃v:Nat,(v:Int)=1+d:=⟨(1+d).toNat,dk⟩
   clear N;rw[←hkk];refine⟨_,rfl,show 6<=sizeLine by decide,λr G=>?_⟩;have W:p≠r:=aD ec G;have X:l≠r:=aD (by rw[aC C.symm];exact J) G;obtain⟨B,hB,hB0,hB1⟩:∃B:Int,atI [V.int 26,V.int 676,V.int 17576,V.int 456976,V.int 11881376,V.int 308915776] ((v:Int) - 1)=some (.int B)/\0<B/\B<1073741824:=by
    have:v=1\/v=2\/v=3\/v=4\/v=5\/v=6:=by lia
    rcases this with rfl|rfl|rfl|rfl|rfl|rfl
    ·exact⟨26,ad,ad,ad⟩
    ·exact⟨676,ad,ad,ad⟩
    ·exact⟨17576,ad,ad,ad⟩
    ·exact⟨456976,ad,ad,ad⟩
    ·exact⟨11881376,ad,ad,ad⟩
    ·exact⟨308915776,ad,ad,ad⟩
   refine⟨_,rfl,_,_,rfl,rfl,_,by rw[ixV_l ec];exact hB,p,B,rfl,⟨a,b,by rw[aC W,ec]⟩,hB0,hB1,λn a2 b2 hn0 hn1=>?_⟩;have O:upd (upd (upd U p (.lst [.int a,.int b])) r (.lst [.int 26,.int 676,.int 17576,.int 456976,.int 11881376,.int 308915776])) p (.lst [.int a2,.int b2]) l=some (.lst (z.map V.str)):=by rw[aC C.symm,aC X,aC C.symm];exact J
   have hb4:bO p H (upd (upd (upd U p (.lst [.int a,.int b])) r (.lst [.int 26,.int 676,.int 17576,.int 456976,.int 11881376,.int 308915776])) p (.lst [.int a2,.int b2])) :=
    hb.trans (((bO.upd p U _).trans (bO.new G)).trans (bO.upd p _ _))
   have Z:bH (upd (upd (upd U p (.lst [.int a,.int b])) r (.lst [.int 26,.int 676,.int 17576,.int 456976,.int 11881376,.int 308915776])) p (.lst [.int a2,.int b2])) p:=⟨a2,b2,ec⟩
   generalize upd (upd (upd U p (.lst [.int a,.int b])) r (.lst [.int 26,.int 676,.int 17576,.int 456976,.int 11881376,.int 308915776])) p (.lst [.int a2,.int b2])=H4 at O hb4 Z⊢;clear G W X hB hB0 hB1 J hb;refine UK (λL H'=>H'=H4/\∃t:Nat,L=[some (.ref p),some (.int m),some (.ref l),some (.int (0+i)),some (.int v),some (.int (n+t))]/\∀j:Nat,j<t->wordS v (n+j)∈z)
    (λ(L:St) (_:Hp)=>match L[5]? with|some (some (V.int x))=>(n+30 - x).toNat|_=>0) ⟨rfl,0,dl,dl⟩ ?_
   rintro L H' ⟨rfl,t,rfl,ht⟩;have ht26:t<=26->t<=z.length:=λh=>rW dk h ht;have hty:=tyL (K:=K) O;refine⟨decide (wordS v (n+t)∈z),λR hR=>?_,λhb=>?_,λhb=>?_⟩
   ·have hin:=w8 (x:=wordS v (n+t)) z;refine⟨_,rfl,_,rfl,v,n+t,rfl,dk,_,rfl,.inl ⟨.str _,z.map D.str,rfl,.inl ⟨l,_,rfl,O,sF z⟩,by rw[xI];decide,_,rfl,?_⟩⟩;show R (inD _ _) _;rw[hin];exact hR
   ·have hmem:wordS v (n+t)∈z:=bu hb;have S:∀j:Nat,j<t+1->wordS v (n+j)∈z:=λj hj=>by
     by_cases e:j<t
     ·exact ht j e
     ·have:j=t:=by lia
      subst this;exact hmem
    have few:t<26->t+1<=z.length:=λh=>rW dk dk S;refine⟨_,rfl,.inl ⟨_,rfl,⟨rfl,t+1,?_,S⟩,?_⟩⟩
    ·simp only[List.set_cons_zero,List.set_cons_succ];have:n+(t:Int)+1=n+((t+1:Nat):Int):=by lia
     rw[this]
    ·have Y:t<26:=by
      by_cases e:t<26
      ·exact e
      ·have:=rW (t:=16) (n:=n) (by lia:1<=v) dk λj hj=>ht j dk
       lia
     have:=few Y;show(n+30 - (n+(t:Int)+1)).toNat<(n+30 - (n+(t:Int))).toNat
     lia
   ·have hnm:wordS v (n+t)∉z:=of_decide_eq_false hb;refine⟨_,rfl,hty,_,rfl,_,rfl,v,n+t,rfl,dk,l,_,_,rfl,rfl,O,aj (m:=100) (by rw[ae];lia) ad,?_⟩;refine⟨z++[wordS v (n+t)],_,_,_,rfl,?_,λc o hc e=>?_,?_,by simp[I],JJ nd hnm,λx hx=>?_⟩
    ·rw[ec,az];rfl
    ·have nlc:c≠l:=aD e hl;rw[aC nlc];exact hb4 c o hc e
    ·obtain⟨a3,b3,e3⟩:=Z;exact⟨a3,b3,by rw[aC C];exact e3⟩
    ·obtain h|h:=cx.mp hx
     ·exact ok x h
     ·rw[cu.mp h];exact MK dk dk
  ·rintro σ U ⟨z,o1,o2,o3,rfl,J,hb,N,I,nd,ok⟩;exact⟨_,rfl,q l z U hl J hb N I nd ok⟩
def bK (H H':Hp):Prop:=∀b xs,H b=some (.tup xs)->H' b=some (.tup xs)
def bK.refl (H:Hp):bK H H:=λ_ _ h=>h
def bK.trans (a:bK H H1)(b:bK H1 H2):bK H H2:=λc xs h=>b c xs (a c xs h)
def bK.of (s:aF H H'):bK H H':=λb xs h=>s b _ h
def bK.lst (h:H a=some (.lst ys)):bK H (upd H a o):=λb xs e=>by rw[aC (λz=>by rw[z,h]at e;cases e)];exact e
def C3 (h:bO p H H')(n:H a=none):bO p H (upd H' a o):=λc u nc e=>by rw[aC (aD e n)];exact h c u nc e
def bK.pot (h:bH H p):bK H (upd H p o):=by obtain⟨x,y,e⟩:=h;exact bK.lst e
def dU (H:Hp):cU->List V->Prop
 | [],vs=>vs=[]
 | r::l,vs=>∃t us,vs = .ref t::us/\H t=some (.tup [.str r.1,.int r.2])/\dU H l us
def d8 (H:Hp):cC->List V->Prop
 | [],vs=>vs=[]
 | r::l,vs=>∃t us,vs = .ref t::us/\H t=some (.tup [.str r.1,.str r.2])/\d8 H l us
def dU.same (s:bK H H'):∀{l:cU} {vs:List V},dU H l vs->dU H' l vs
 | [],_,h=>h
 | _::_,_,⟨t,us,e,h,q⟩=>⟨t,us,e,s _ _ h,dU.same s q⟩
def d8.same (s:bK H H'):∀{l:cC} {vs:List V},d8 H l vs->d8 H' l vs
 | [],_,h=>h
 | _::_,_,⟨t,us,e,h,q⟩=>⟨t,us,e,s _ _ h,d8.same s q⟩
def dU.snoc (c:H t=some (.tup [.str n,.int k])):∀{l:cU} {vs:List V},dU H l vs->dU H (l++[(n,k)]) (vs++[.ref t])
 | [],_,h=>by cases h;exact⟨t,[],rfl,c,rfl⟩
 | _::_,_,⟨u,us,e,h,q⟩=>by subst e;exact⟨u,us++[.ref t],rfl,h,dU.snoc c q⟩
def d8.snoc (c:H t=some (.tup [.str n,.str k])):∀{l:cC} {vs:List V},d8 H l vs->d8 H (l++[(n,k)]) (vs++[.ref t])
 | [],_,h=>by cases h;exact⟨t,[],rfl,c,rfl⟩
 | _::_,_,⟨u,us,e,h,q⟩=>by subst e;exact⟨u,us++[.ref t],rfl,h,d8.snoc c q⟩
def dU.len:∀{l:cU} {vs:List V},dU H l vs->vs.length=l.length
 | [],_,h=>by cases h;rfl
 | _::_,_,⟨t,us,e,h,q⟩=>by subst e;simp[dU.len q]
theorem dU.get:∀{l:cU} {vs:List V} {i:Nat} {v:V},dU H l vs->vs[i]?=some v->∃r t,l[i]?=some r/\v = .ref t/\H t=some (.tup [.str r.1,.int r.2])
 | [],_,_,_,h,e=>by cases h;simp at e
 | r::_,_,0,_,⟨t,us,e,h,q⟩,k=>by subst e;simp at k;exact⟨r,t,rfl,k.symm,h⟩
 | _::_,_,i+1,_,⟨t,us,e,h,q⟩,k=>by subst e;simp at k;obtain⟨r,t,g,d,c⟩:=dU.get q k;exact⟨r,t,by simpa using g,d,c⟩
noncomputable def zeros (c:cU):aV:=(c.filter λr=>decide (r.2=0)).map (·.1)
structure aW (fx:cU)(sm:cC):Prop where
 f1:1<=fx.length
 f2:fx.length<=12
 s2:sm.length<=3
 nm:∀x∈fx.map (·.1)++sm.map (·.1),jQ x
 nd:(fx.map (·.1)++sm.map (·.1)).Nodup
 parts:∀r∈fx,0<=r.2/\r.2<=3
 bare:∃r∈fx,r.2=0
 nought:∀r∈sm,r.2≠("" : Str)->r.2∈zeros fx
 once:((sm.map (·.2)).filter λ(x:Str)=>decide (x≠("" : Str))).Nodup
def jG (c:cU)(r:Str×Int):zeros (c++[r])=zeros c++(if r.2=0 then [r.1]else []):=by unfold zeros;rw[List.filter_append,az];congr 1;by_cases z:r.2=0 <;> simp[z]
def iA (c:cU):(zeros c).Sublist (c.map (·.1)):=List.Sublist.map _ List.filter_sublist
def ee {c:Type}{xs:List c}{i:Nat}{x:c}(h:xs[i]?=some x):xs.take (i+1)=xs.take i++[x]:=by rw[List.take_succ,h];rfl
def xK (xs:List V)(n:Nat):cutV xs (some (n:Int)) none=xs.drop n:=by
 unfold cutV;rw[HT.sIx_nat,HT.sIx_none,←bx];rcases Nat.le_total n xs.length with h|h
 ·rw[Nat.min_eq_left h,bw]
 ·rw[Nat.min_eq_right h,List.drop_eq_nil_of_le h,List.drop_eq_nil_of_le (ac _)];rfl
def map_erase {c d:Type}(f:c->d):∀(l:List c) (k:Nat),(l.map f).eraseIdx k=(l.eraseIdx k).map f
 | [],_=>rfl
 | _::_,0=>rfl
 | a::l,k+1=>by show f a::(l.map f).eraseIdx k=f a::(l.eraseIdx k).map f;rw[map_erase f l k]
def zK {c:Type}{l:List c}{k:Nat}{x:c}(h:x∈l.eraseIdx k):x∈l:=List.eraseIdx_subset h
theorem oT {c:Type}:∀{l:List c} {k:Nat} {x:c},l.Nodup->l[k]?=some x->x∉l.eraseIdx k
 | [],_,_,_,z=>by simp at z
 | a::l,0,x,n,h=>by simp at h;subst h;exact(da.mp n).1
 | a::l,k+1,x,n,h=>by
  simp at h;intro m;obtain e|e:=cw.mp m
  ·subst e;exact(da.mp n).1 (bj h)
  ·exact oT (da.mp n).2 h e
structure NS (fx:cU)(ns:aV)(sm:cC)(lz:aV):Prop where
 names:sm.map (·.1)=ns
 lzl:lz.length<=(zeros fx).length
 lzn:lz.Nodup
 lz1:∀x∈lz,x∈zeros fx
 no:∀r∈sm,r.2≠("" : Str)->r.2∈zeros fx/\r.2∉lz
 once:((sm.map (·.2)).filter λ(x:Str)=>decide (x≠("" : Str))).Nodup
def NS.none (h:NS fx ns sm lz)(n:Str):NS fx (ns++[n]) (sm++[(n,("" : Str))]) lz:=by
 refine⟨by rw[az,h.names];rfl,h.lzl,h.lzn,h.lz1,λr c ne=>?_,?_⟩
 ·obtain m|m:=cx.mp c
  ·exact h.no r m ne
  ·rw[cu.mp m]at ne;exact absurd rfl ne
 ·rw[az,List.filter_append];have e:(List.filter (λ(x:Str)=>decide (x≠("" : Str))) (List.map (λr:Str×Str=>r.2) [(n,("" : Str))]))=[]:=by simp
  rw[e,bp];exact h.once
def NS.pop (h:NS fx ns sm lz)(n:Str)(g:lz[k]?=some y):NS fx (ns++[n]) (sm++[(n,y)]) (lz.eraseIdx k):=by
 have d:=bj g;refine⟨by rw[az,h.names];rfl,ao (List.eraseIdx_sublist _ _).length_le h.lzl,h.lzn.sublist (List.eraseIdx_sublist _ _),λx q=>h.lz1 x (zK q),λr c ne=>?_,?_⟩
 ·obtain m|m:=cx.mp c
  ·exact⟨(h.no r m ne).1,λz=>(h.no r m ne).2 (zK z)⟩
  ·rw[cu.mp m];exact⟨h.lz1 y d,oT h.lzn g⟩
 ·rw[az,List.filter_append];refine List.nodup_append.mpr ⟨h.once,?_,?_⟩
  ·by_cases z:y=("" : Str) <;> simp[z]
  ·intro a s b hb e;subst e;obtain⟨p,o⟩:=db.mp s;obtain⟨r,c,i⟩:=cy.mp p;have j:a=y:=by
    obtain⟨l,_⟩:=db.mp hb
    simpa using l
   have ne:r.2≠("" : Str):=by rw[i];simpa using o
   exact(h.no r c ne).2 (by rw[i,j];exact d)
structure XH (p fl lf tl sl:Addr)(H:Hp):Prop where
 fp:fl≠p
 lp:lf≠p
 tp:tl≠p
 sp:sl≠p
 lf1:lf≠fl
 ls:lf≠sl
 lt:lf≠tl
 tf:tl≠fl
 ts:tl≠sl
 nl:H lf=none
 nt:H tl=none
structure HS (p fl lf tl sl:Addr)(H:Hp)(fx:cU)(acc zl:List V)(lv:List V)(sm:cC)(sv:List V)(H':Hp):Prop where
 b:bO p H H'
 pot:bH H' p
 f:H' fl=some (.lst acc)
 r:dU H' fx acc
 l:H' lf=some (.lst lv)
 t:H' tl=some (.lst sv)
 s:d8 H' sm sv
 z:H' sl=some (.lst zl)
section
variable {p fl lf tl sl:Addr}{H H':Hp}{fx:cU}{acc zl lv sv:List V}{sm:cC}
theorem HS.new (h:HS p fl lf tl sl H fx acc zl lv sm sv H')(c:H' q=none):HS p fl lf tl sl H fx acc zl lv sm sv (upd H' q o) :=
 ⟨h.b.trans (bO.new c),h.pot.but (h.pot.ne c),by rw[aC (aD h.f c)];exact h.f,h.r.same (bK.of (aF.upd c)),by rw[aC (aD h.l c)];exact h.l,by rw[aC (aD h.t c)];exact h.t,h.s.same (bK.of (aF.upd c)),by rw[aC (aD h.z c)];exact h.z⟩
def HS.take (h:HS p fl lf tl sl H fx acc zl lv sm sv H')(d:XH p fl lf tl sl H)(x y:Int):HS p fl lf tl sl H fx acc zl lv sm sv (upd H' p (.lst [.int x,.int y])) :=
 ⟨h.b.trans (bO.upd _ _ _),⟨_,_,ec⟩,by rw[aC d.fp];exact h.f,h.r.same (bK.pot h.pot),by rw[aC d.lp];exact h.l,by rw[aC d.tp];exact h.t,h.s.same (bK.pot h.pot),by rw[aC d.sp];exact h.z⟩
def HS.left (h:HS p fl lf tl sl H fx acc zl lv sm sv H')(d:XH p fl lf tl sl H)(c:List V):HS p fl lf tl sl H fx acc zl c sm sv (upd H' lf (.lst c)) :=
 ⟨C3 h.b d.nl,h.pot.but d.lp.symm,by rw[aC d.lf1.symm];exact h.f,h.r.same (bK.lst h.l),ec,by rw[aC d.lt.symm];exact h.t,h.s.same (bK.lst h.l),by rw[aC d.ls.symm];exact h.z⟩
def HS.told (h:HS p fl lf tl sl H fx acc zl lv sm sv H')(d:XH p fl lf tl sl H)(c:d8 H' sm' sv'):HS p fl lf tl sl H fx acc zl lv sm' sv' (upd H' tl (.lst sv')) :=
 ⟨C3 h.b d.nt,h.pot.but d.tp.symm,by rw[aC d.tf.symm];exact h.f,h.r.same (bK.lst h.t),by rw[aC d.lt];exact h.l,ec,c.same (bK.lst h.t),by rw[aC d.ts.symm];exact h.z⟩
end
def LI (e:cU)(h:Hp)(i:Nat)(c:List V)(d:St)(g:Hp):Prop:=∃o1 o2:Option V,d=[o1,o2]/\g=h/\c=(zeros (e.take i)).map V.str
def SI (p fl g tl q l:Addr)(many d c:Nat)(o:aV)(h:cU)(e m:List V)(H:Hp)(i:Nat)(j:St)(H':Hp):Prop :=
 ∃(s r:Option V) (sm:cC) (lz:aV) (sv:List V),j=[some (.ref p),some (.int many),some (.int d),some (.ref l),some (.int c),some (.ref fl),some (.ref g),some (.ref tl),s,r]/\HS p fl g tl q H h e m (lz.map V.str) sm sv H'/\NS h ((o.drop many).take i) sm lz/\sv.length=i
def DX (H:Hp):∀c:aV,Reps H (c.map D.str) (c.map V.str)
 | []=>rfl
 | _::l=>⟨_,_,rfl,rfl,DX H l⟩
def AE:∀c:aV,depDs (c.map D.str)=0
 | []=>rfl
 | _::l=>by rw[bf,depDs,AE l];rfl
def rZ {p fl l tl j:Addr}{H H':Hp}{q:cU}{e o lv i:List V}{sm:cC}{K0:dq}{D:jV}{c:St}{n y:Str}(d:XH p fl l tl j H)(x:c[7]?=some (some (.ref tl)))(w:c[8]?=some (some (.str n)))(v:c[9]?=some (some (.str y)))
  (h:HS p fl l tl j H q e o lv sm i H') (u:i.length<20) (r:∀t g,HS p fl l tl j H q e o lv (sm++[(n,y)]) (i++[.ref t]) g->D.nx c g):tDrop (tBM K0 "list" rAppend (tVar 7) (tCons (tTup (tCons (tVar 8) (tCons (tVar 9) tNil))) tNil)) D c H':=by
 refine⟨_,x,.inl ⟨rfl,_,fL.of h.t⟩,_,w,_,v,(by show 2<=sizeLine;decide),λt m=>⟨tl,i,.ref t,rfl,rfl,(h.new m).t,bg u ad,?_⟩⟩;exact r t _ ((h.new m).told d ((h.new m).s.snoc ec))
def FI (p l:Addr)(j:aV)(c:Nat)(m:Hp)(i:Nat)(e:List V)(h:St)(g:Hp):Prop :=
 ∃(d:cU) (o:Option V),h=[o,some (.ref p),some (.ref l),some (.int c)]/\bO p m g/\bH g p/\d.map (·.1)=j.take i/\(∀r∈d,0<=r.2/\r.2<=3)/\(c<i->∃r∈d,r.2=0)/\dU g d e
def IT:Sp:=λvs H Q _=>∃p:Addr,vs=[.ref p]/\bH H p/\∀(t a b:Addr) (fx:cU) (sm:cC) (fv sv:List V) (H':Hp),bO p H H'->bH H' p->H' t=some (.tup [.ref a,.ref b])->H' a=some (.lst fv)->H' b=some (.lst sv)->dU H' fx fv->d8 H' sm sv->aW fx sm->a≠p->b≠p->Q (.ref t) H'
def NY (F:fV K "_law_signs" "_law_signs" fE f fd)(T:Txt mg)(c:dS P w K mg base bU 1 "_law_take" iB)(g:dS P w K mg base bU 2 "_law_names" IW):cH P w K mg base bU 3 f fd rP IT:=by
 refine F.ok cI (λvs H Q E h=>?_) (λcdv A outer s H vs Q E S h=>?_)
 ·obtain⟨p,rfl,_⟩:=h;rfl
 ·obtain⟨p,rfl,hp,q⟩:=h;have hu:=S.units
  refine⟨_,(aE (bP 1 cI.nd (bW bZ aJ (aU c S (aA (pv 0) (aA aJ aB)))))
   (aE (bP 2 cI.nd (aU c S (aA (pv 0) (aA aJ aB))))
   (aE (mJ (i:=3) cI.nd rfl (Or.inr rfl) (aU g S (aA (pv 0) (aA (bW bZ (pv 1) (pv 2)) aB))))
   (aE (mJ (i:=4) cI.nd rfl (Or.inr rfl) (aU c S (aA (pv 0) (aA (pv 1) aB))))
   (aE (jA (i:=5) cI.nd rfl rfl rfl rfl (bN.by (N:=mR) (names:=(aH fE).names) (N':=["_law_k","_law_pot_here","_law_names_here","_law_sure"]) (src:=[none,some 0,some 3,some 4]) (by decide +kernel) rfl rfl) (fI rfl T.n_range (aA (pv 1) aB)) (λ_ _ _ _=>(eD (i:=0) (dL ["_law_k","_law_pot_here","_law_names_here","_law_sure"]) rfl (Or.inl rfl))) (λ_ _ _ _=>dW) (λ_ _ _ _=>(fM (aA (cA dM (pv 2) (pv 0) (λ_ _=>rfl)) (aA (bW (sN.or sM) (aU c S (aA (pv 1) (aA aJ aB))) (cB tG rfl T.n_int rfl (aA (dY (eZ hu) (pv 0) (pv 3)) aB))) aB)))))
   (aE (jA (i:=6) cI.nd rfl rfl rfl rfl (bN.by (N:=mR) (names:=(aH fE).names) (N':=["_law_name","_law_parts"]) (src:=[none,none]) (by decide +kernel) rfl rfl) (dF K rfl (pv 5)) (λ_ _ _ _=>(cT K rfl (i:=0) (j:=1) rfl (dL ["_law_name","_law_parts"]) rfl rfl rfl rfl)) (λ_ _ _ _=>(mI (aR (eF hu) (pv 1) aJ))) (λ_ _ _ _=>(pv 0)))
   (aE (bP 7 cI.nd (cQ aB))
   (aE (eT dj rfl (dF K rfl (fS l7 (pv 3) (eV (pv 1)) gB)) (h8 8 cI.nd) (aE (bP 9 cI.nd iE)
   (aE (bQ (PW.pt (wE (aR (eZ hu) (pv 6) (cQ aB)) (qO (aR EA (aU c S (aA (pv 0) (aA aJ aB))) aJ)))) (aG (bP 9 cI.nd (j8 df PySem.F.slot_list_pop PySem.F.type_list_pop OD (pv 6) (aA (aU c S (aA (pv 0) (aA (aZ bV T.n_len (aA (pv 6) aB)) aB))) aB)))) aO)
   (aG (cW (j8 df dh dg gH (pv 7) (aA (fM (aA (pv 8) (aA (pv 9) aB))) aB)))))))
   (aG (aL (fM (aA (pv 5) (aA (pv 7) aB))))))))))))),?_⟩
  try dsimp only[cxOf,Cx.nox]
  clear S F T c g hu;simp only[tFor_fn,tComp_fn];have hq:=q;clear q;refine⟨_,rfl,p,12,rfl,hp,ad,ad,λd a b h0 h1=>.inl ⟨_,rfl,_,rfl,?_⟩⟩;obtain⟨many,hm1,hm2,hmd⟩:∃many:Nat,1<=many/\many<=12/\1+d=(many:Int):=⟨(1+d).toNat,dk,dk,dk⟩
  rw[hmd];clear hmd h0 h1 d;refine⟨p,4,rfl,⟨_,_,ec⟩,ad,ad,λd2 a b h2 h3=>?_⟩;obtain⟨sums,rfl⟩:∃k:Nat,d2=(k:Int):=⟨d2.toNat,dk⟩
  have hs4:sums<4:=by lia
  clear h2 h3;rw[upd_upd];refine⟨_,rfl,_,rfl,_,rfl,.inl ⟨.int ((many+sums:Nat):Int),rfl,p,many+sums,rfl,⟨_,_,ec⟩,dk,λl G H1 hl hl1 hb1 hp1 hlen nd ok=>?_⟩⟩;have hlp:l≠p:=λz=>by rw[z,ec]at hl;cases hl
  refine⟨_,rfl,_,rfl,p,many,rfl,hp1,dk,dk,λd3 x3 y3 h4 h5=>?_⟩;obtain⟨sure,rfl⟩:∃k:Nat,d3=(k:Int):=⟨d3.toNat,dk⟩
  have hsm:sure<many:=by lia
  have b2:bO p H (upd H1 p (.lst [.int x3,.int y3])):=((bO.upd p H _).trans hb1).trans (bO.upd p H1 _);have p2:bH (upd H1 p (.lst [.int x3,.int y3])) p:=⟨_,_,ec⟩
  have l2:upd H1 p (.lst [.int x3,.int y3]) l=some (.lst (G.map V.str)):=by rw[aC hlp];exact hl1
  generalize upd H1 p (.lst [.int x3,.int y3])=H2 at b2 p2 l2⊢;clear hl hl1 hb1 hp1 h4 h5 hp;refine⟨_,rfl,_,rfl,dk,dk,?_⟩;refine tZ (n:=many) (FI p l G sure H2) ⟨[],none,rfl,bO.refl _ _,p2,rfl,dl,λz=>absurd z (Nat.not_lt_zero _),rfl⟩ ?_ ?_
  ·rintro i u σ H3 hi ⟨v,o,rfl,b3,p3,O,hpt,hsu,L⟩;have l3:=b3 l _ hlp l2;obtain⟨wd,hwd⟩:∃wd,G[i]?=some wd:=⟨G[i],ay dk⟩
   have e1:atI (G.map V.str) (i:Int)=some (.str wd):=J1 (by rw[bS,hwd];rfl);refine⟨_,rfl,_,rfl,_,(by rw[ixV_l l3,Int.zero_add];exact e1),_,rfl,p,4,rfl,p3,ad,ad,λd x4 y4 d0 d1=>?_⟩;have ek:(if (!eqD (.int (0+(i:Int))) (.int (sure:Int)))=true then(1:Int)else 0)=if i=sure then 0 else 1:=by
    by_cases z:i=sure
    ·subst z;rw[Int.zero_add,dQ,ai rfl];rfl
    ·have e:eqD (.int (0+(i:Int))) (.int (sure:Int))=false:=by show((0+(i:Int)) == (sure:Int))=false;rw[Int.zero_add];exact cz.mpr dk
     rw[e,ab z];rfl
   refine⟨_,rfl,_,rfl,.int _,.int _,rfl,rfl,aw _,_,_,rfl,rfl,.inl ⟨d,_,rfl,rfl,.inr (by rw[ek];split <;> constructor <;> lia),?_⟩⟩;rw[ek];refine⟨(by show 2<=sizeLine;decide),λt ht=>⟨aj (m:=20) ?_ ad,?_⟩⟩
   ·rw[L.len];have:=congrArg List.length O;rw[ae,bv]at this
    lia
   have p4:bH (upd H3 p (.lst [.int x4,.int y4])) p:=⟨_,_,ec⟩
   have hv:0<=d * (if i=sure then 0 else 1)/\d * (if i=sure then 0 else 1)<=3:=by split <;> constructor <;> lia
   have C:dU (upd (upd H3 p (.lst [.int x4,.int y4])) t (.tup [.str wd,.int (d * (if i=sure then 0 else 1))])) v u:=(L.same (bK.pot p3)).same (bK.of (aF.upd ht));refine⟨v++[(wd,d * (if i=sure then 0 else 1))],_,rfl,(b3.trans (bO.upd p _ _)).trans (bO.new ht),p4.but (p4.ne ht),?_,λr S=>?_,λhlt=>?_,C.snoc ec⟩
   ·rw[az,O,List.take_succ,hwd];rfl
   ·obtain h|h:=cx.mp S
    ·exact hpt r h
    ·rw[cu.mp h];exact hv
   ·by_cases z:i=sure
    ·exact⟨_,bz _ ax,by show d * (if i=sure then 0 else 1)=0;rw[ai z];lia⟩
    ·obtain⟨r,h1,h2⟩:=hsu dk;exact⟨r,cj _ h1,h2⟩
  ·rintro u σ H3 ⟨v,o,rfl,b3,p3,O,hpt,hsu,L⟩ fl W;have l3:=b3 l _ hlp l2;have f4:upd H3 fl (.lst u) fl=some (.lst u):=ec;have b4:bO p H (upd H3 fl (.lst u)):=(b2.trans b3).trans (bO.new W);have p4:=p3.but (o:=.lst u) (p3.ne W);have Z:upd H3 fl (.lst u) l=some (.lst (G.map V.str)):=by rw[aC (aD l3 W)];exact l3
   have C:dU (upd H3 fl (.lst u)) v u:=L.same (bK.of (aF.upd W));have nfp:fl≠p:=(p3.ne W).symm;generalize upd H3 fl (.lst u)=H4 at f4 b4 p4 Z C⊢;obtain⟨r0,hr0,hz0⟩:=hsu hsm;clear L W l3 p3 b3 b2 p2 l2 hsu;refine⟨_,rfl,fl,_,rfl,.inl f4,λJ hJ=>?_⟩;have hfn:(v.map (·.1)).Nodup:=by rw[O];exact nd.sublist (List.take_sublist _ _)
   have hzl:(zeros v).length<=12:=by
    have h1:=(iA v).length_le;rw[O,bv]at h1
    lia
   refine dC hJ (LI v H4) ⟨none,none,rfl,rfl,rfl⟩ (by rintro i acc' σ H' _ ⟨_,_,_,rfl,_⟩;rfl) ?_ ?_
   ·rintro i x acc' σ H' hx ⟨o1,o2,rfl,rfl,rfl⟩;obtain⟨r,t,S,rfl,ht⟩:=C.get hx;refine⟨t,_,rfl,iF.of ht,rfl,_,_,rfl,_,_,rfl,rfl,_,rfl,?_⟩;dsimp only[tC];rw[rEqD_ii];refine⟨_,rfl,?_⟩;by_cases z:r.2=0
    ·rw[ai (by simpa using z)];refine⟨_,rfl,?_,?_⟩
     ·rw[ae];have h1:=(iA (v.take i)).length_le;have h2:(v.take i).length<=12:=by have h3:=congrArg List.length O;rw[ae,bv]at h3;rw[bv];lia
      rw[ae]at h1;exact aj (m:=12) dk ad
     ·exact⟨_,_,rfl,rfl,by rw[ee S,jG,ai z,az];rfl⟩
    ·rw[ab (by simpa using z)];exact⟨_,_,rfl,rfl,by rw[ee S,jG,ab z,bp]⟩
   ·rintro acc' σ H' ⟨o1,o2,rfl,rfl,rfl⟩ Y I;rw[List.take_of_length_le (by rw[C.len];exact ac _)];refine⟨aw _,λtl B=>⟨_,rfl,_,rfl,_,rfl,l,G.map V.str,rfl,.inl ?_,?_,λsl o U ho=>?_⟩⟩
    ·rw[aC,aC (aD Z I)]
     ·exact Z
     ·intro e;subst e;rw[aC (aD Z I),Z]at B;cases B
    ·rintro⟨ys,hy⟩;rw[aC,aC (aD Z I),Z]at hy
     ·cases hy
     ·intro e;subst e;rw[aC (aD Z I),Z]at B;cases B
    ·have l5:upd H' Y (HO.lst (List.map V.str (zeros v))) l=some (.lst (G.map V.str)):=by rw[aC (aD Z I)];exact Z
     have l6:upd (upd H' Y (HO.lst (List.map V.str (zeros v)))) tl (.lst []) l=some (.lst (G.map V.str)):=by rw[aC (aD l5 B)];exact l5
     have eo:o = .lst ((G.drop many).map V.str):=by
      rcases ho with⟨e,_⟩|⟨_,e⟩
      ·rw[e,xK,List.map_drop]
      ·rw[l6]at e;cases e
     subst eo;clear ho;have htf:tl≠Y:=λe=>by subst e;rw[ec]at B;cases B
     have htl':H' tl=none:=by rw[aC htf]at B;exact B
     have hst:sl≠tl:=λe=>by subst e;rw[ec]at U;cases U
     have hsf:sl≠Y:=λe=>by subst e;rw[aC hst,ec]at U;cases U
     have hsl':H' sl=none:=by rw[aC hst,aC hsf]at U;exact U
     have nn:∀a,H' a=none->H a=none:=λa ha=>by
      cases e:H a with
      | none=>rfl
      | some o=>have z:=b4 a o (p4.ne ha).symm e;rw[ha]at z;cases z
     have R:XH p fl Y tl sl H:=⟨nfp,(p4.ne I).symm,(p4.ne htl').symm,(p4.ne hsl').symm,(aD f4 I).symm,hsf.symm,htf.symm,(aD f4 htl').symm,hst.symm,nn _ I,nn _ htl'⟩
     have h0:HS p fl Y tl sl H v u ((G.drop many).map V.str) ((zeros v).map V.str) [] [] (upd (upd (upd H' Y (.lst ((zeros v).map V.str))) tl (.lst [])) sl (.lst ((G.drop many).map V.str))):=by have s1:aF H' (upd (upd (upd H' Y (.lst ((zeros v).map V.str))) tl (.lst [])) sl (.lst ((G.drop many).map V.str))):=((aF.upd I).trans (aF.upd B)).trans (aF.upd U);obtain⟨px,py,pe⟩:=p4;exact⟨b4.trans s1.but,⟨px,py,s1 _ _ pe⟩,s1 _ _ f4,C.same (bK.of s1),by rw[aC hsf.symm,aC htf.symm,ec],by rw[aC hst.symm,ec],rfl,ec⟩
     have n0:NS v [] [] (zeros v):=⟨rfl,ac _,hfn.sublist (iA v),λ_ h=>h,dl,dl⟩
     generalize upd (upd (upd H' Y (.lst ((zeros v).map V.str))) tl (.lst [])) sl (.lst ((G.drop many).map V.str))=H7 at h0⊢;refine⟨sl,_,rfl,.inl h0.z,λJ2 hJ2=>?_⟩;refine kL hJ2 (SI p fl Y tl sl l many sums sure G v u ((G.drop many).map V.str) H) ⟨none,none,[],zeros v,[],rfl,h0,n0,rfl⟩ (by rintro i σ H'' _ ⟨_,_,_,_,_,_,hh,_⟩;rw[hh.z,h0.z]) ?_ ?_
     ·rintro i x σ H8 hx ⟨o8,o9,sm,lz,sv,rfl,hh,ns,hsv⟩;obtain⟨n,hn,rfl⟩:∃n,(G.drop many)[i]?=some n/\x = .str n:=by
       rw[bS]at hx;cases e:(G.drop many)[i]? with
       | none=>rw[e]at hx;cases hx
       | some n=>rw[e]at hx;exact⟨n,rfl,by cases hx;rfl⟩
      have hi:i<4:=by
       have:=(cs.mp hn).1;rw[bx]at this
       lia
      refine⟨_,rfl,aw _,λq hq2=>⟨.lst (lz.map D.str),.lst [],⟨Y,_,rfl,(hh.new hq2).l,DX _ _⟩,⟨q,[],rfl,ec,rfl⟩,by rw[depD,AE];decide,_,rfl,?_⟩⟩;have h9:=hh.new (o:=.lst []) hq2;generalize upd H8 q (.lst [])=H9 at h9⊢;cases lz with
      | nil =>
       dsimp only;rw[ab ad,ab ad];refine rZ R rfl rfl rfl h9 dk λt H'' h''=>?_;exact⟨_,_,_,_,_,rfl,h'',by rw[ee hn];exact ns.none n,by rw[au,hsv];rfl⟩
      | cons z lz =>
       dsimp only;rw[ai (by rfl)];refine⟨_,rfl,p,3,rfl,h9.pot,ad,ad,λd1 x1 y1 d0 d1'=>⟨_,_,rfl,rfl,_,rfl,?_⟩⟩;have X:=h9.take R x1 y1;generalize upd H9 p (.lst [.int x1,.int y1])=H10 at X⊢;dsimp only;by_cases hd:0<d1
       ·rw[ai (by simpa using hd)];have hlz:(z::lz).length<=12:=by
         have h1:=ns.lzl
         lia
        refine⟨_,rfl,.inl ⟨rfl,_,fL.of X.l⟩,_,rfl,_,rfl,_,_,rfl,(by dsimp only;rw[lenV_l X.l];rfl),p,_,rfl,X.pot,?_,?_,λd2 x2 y2 e0 e1=>?_⟩
        ·rw[ae,aq];lia
        ·rw[ae];lia
        ·have h11:=X.take R x2 y2;generalize upd H10 p (.lst [.int x2,.int y2])=H11 at h11⊢;rw[ae]at e1;obtain⟨y,hy⟩:∃y,(z::lz)[d2.toNat]?=some y:=⟨_,ay dk⟩
         refine⟨Y,_,d2,d2.toNat,.str y,rfl,rfl,h11.l,dk,dk,PySem.StrLaws.seqIndex_nonneg e0 (by rw[ae];exact e1),by rw[bS,hy];rfl,?_⟩;have h12:=h11.left R (((z::lz).eraseIdx d2.toNat).map V.str);rw[map_erase];refine rZ R rfl rfl rfl h12 dk λt H'' h''=>?_;exact⟨_,_,_,_,_,rfl,h'',by rw[ee hn];exact ns.pop n hy,by rw[au,hsv];rfl⟩
       ·rw[ab (by simpa using hd)];refine rZ R rfl rfl rfl X dk λt H'' h''=>?_;exact⟨_,_,_,_,_,rfl,h'',by rw[ee hn];exact ns.none n,by rw[au,hsv];rfl⟩
     ·rintro σ H8 ⟨o8,o9,sm,lz,sv,rfl,hh,ns,hsv⟩;refine⟨_,rfl,_,rfl,(by show 2<=sizeLine;decide),λt ht=>?_⟩;have h9:=hh.new (o:=.tup [.ref fl,.ref tl]) ht;refine hq t fl tl v sm u sv _ h9.b h9.pot ec h9.f h9.t h9.r h9.s ?_ R.fp R.tp;have e1:=ns.names;rw[ae,bw]at e1;have e2:=congrArg List.length e1;have e3:=congrArg List.length O;rw[ae,bx]at e2;rw[ae,bv]at e3;have e4:v.map (·.1)++sm.map (·.1)=G:=by rw[O,e1,List.take_append_drop]
      exact⟨dk,dk,dk,by rw[e4];exact ok,by rw[e4];exact nd,hpt,⟨r0,hr0,hz0⟩,λr S ne=>(ns.no r S ne).1,ns.once⟩
def isWd (c:Nat):Prop:=(97<=c/\c<=122)\/(48<=c/\c<=57)
def bR (x:Str):Prop:=∃l:List Nat,x=⟨(63::l).toArray⟩/\1<=l.length/\l.length<=8/\∀c∈l,isWd c
noncomputable def wds:Str:=PySem.Str.ofString "abcdefghijklmnopqrstuvwxyz0123456789"
def IK:wds.cps.toList.length=36:=by decide +kernel
def QE:wds.cps.toList.all (λc=>(decide (97<=c) && decide (c<=122)) || (decide (48<=c) && decide (c<=57)))=true:=by decide +kernel
def UL (h:c∈wds.cps.toList):isWd c:=by
 have:=List.all_eq_true.mp QE c h
 simpa [isWd] using this
def VZ (g:0<=i)(e:i<36):∃c,isWd c/\ixV H (.str wds) (.int i)=some (.str ⟨#[c]⟩):=by
 have d:i.toNat<wds.cps.toList.length:=by rw[IK];lia
 refine⟨wds.cps.toList[i.toNat],UL (List.getElem_mem d),?_⟩;show(if wds.length<=sizeLine then(atI wds.cps.toList i).map λc=>V.str ⟨#[c]⟩else none)=_;rw[ai (by decide +kernel),kT g (by rw[IK];exact e),ay d];rfl
def IY:Sp:=λvs H Q _=>∃p:Addr,vs=[.ref p]/\bH H p/\∀(o:Addr) (os:aV) (H':Hp),o≠p->bO p H H'->bH H' p->H' o=some (.lst (os.map V.str))->os.length=5->(∀x∈os,bR x)->Q (.ref o) H'
def DI (p l:Addr)(H:Hp)(i:Nat)(d:St)(c:Hp):Prop:=∃(os:aV) (o2 o3 o4:Option V),d=[some (.ref p),some (.ref l),o2,o3,o4]/\c l=some (.lst (os.map V.str))/\bO p H c/\bH c p/\os.length=i/\∀x∈os,bR x
def DJ (p l:Addr)(os:aV)(i:Int)(H:Hp)(j:Nat)(g:St)(e:Hp):Prop:=∃(d:List Nat) (o4:Option V),g=[some (.ref p),some (.ref l),some (.int i),some (.str ⟨(63::d).toArray⟩),o4]/\e l=some (.lst (os.map V.str))/\bO p H e/\bH e p/\d.length=j/\∀c∈d,isWd c
def N5 (F:fV K "_law_wishes" "_law_wishes" iK f fd)(T:Txt mg)(g:dS P w K mg base bU 1 "_law_take" iB):cH P w K mg base bU 2 f fd oY IY:=by
 refine F.ok d5 (λvs H Q E h=>?_) (λcdv A outer s H vs Q E G h=>?_)
 ·obtain⟨p,rfl,_⟩:=h;rfl
 ·obtain⟨p,rfl,hp,q⟩:=h;have hu:=G.units
  refine⟨_,(aE (bP 1 d5.nd (cQ aB))
   (aE (eT dj rfl (fI rfl T.n_range (aA aJ aB)) (h8 2 d5.nd) (aE (bP 3 d5.nd iE)
   (aE (eT dj rfl (fI rfl T.n_range (aA (bW bZ aJ (aU g G (aA (pv 0) (aA (cA dM (cQ (aA aJ (aA aJ (aA aJ aB)))) (aU g G (aA (pv 0) (aA aJ aB))) (λ_ _=>rfl)) aB)))) aB)) (h8 4 d5.nd) (aG (bP 3 d5.nd (bW bZ (pv 3) (cA dM iE (aU g G (aA (pv 0) (aA aJ aB))) (λ_ _=>rfl))))))
   (aG (cW (j8 df dh dg gH (pv 1) (aA (pv 3) aB)))))))
   (aG (aL (pv 1))))),?_⟩
  try dsimp only[cxOf,Cx.nox]
  simp only[pB];clear G F T g hu
  walk_at "rd"
  refine⟨ad,λl O=>⟨ad,ad,?_⟩⟩;have C:p≠l:=hp.ne O;refine gF (DI p l H) ⟨[],none,none,none,rfl,ec,bO.new O,hp.but C,rfl,dl⟩ ?_ ?_
  ·rintro i σ S hi ⟨os,o2,o3,o4,rfl,v,hb,t,o,ok⟩;clear q hp;have keep:=aI O (aI v (aI hb (aI t (aI o ok))));clear O v hb t o ok
   walk_at "rd"
   obtain⟨O,v,hb,t,o,ok⟩:=keep;refine⟨ad,λr G=>⟨p,3,rfl,t.but (t.ne G),ad,ad,λd a b h0 h1=>?_⟩⟩;have npr:p≠r:=t.ne G;have nlr:l≠r:=aD v G;obtain⟨B,hB,hB0,hB1⟩:∃B:Int,atI [V.int 1,V.int 2,V.int 8] d=some (.int B)/\0<B/\B<=8:=by
    have:d=0\/d=1\/d=2:=by lia
    rcases this with rfl|rfl|rfl
    ·exact⟨1,ad,ad,ad⟩
    ·exact⟨2,ad,ad,ad⟩
    ·exact⟨8,ad,ad,ad⟩
   dsimp only;refine⟨.int B,by rw[ixV_l (xs:=[.int 1,.int 2,.int 8]) (by rw[aC npr.symm,ec])];exact hB,p,B,rfl,⟨a,b,ec⟩,hB0,dk,λn a2 b2 n0 n1=>⟨.int (1+n),rfl,1+n,rfl,dk,dk,?_⟩⟩;have Z:bO p H (upd (upd (upd S r (.lst [.int 1,.int 2,.int 8])) p (.lst [.int a,.int b])) p (.lst [.int a2,.int b2])):=((hb.trans (bO.new G)).trans (bO.upd _ _ _)).trans (bO.upd _ _ _);have W:bH (upd (upd (upd S r (.lst [.int 1,.int 2,.int 8])) p (.lst [.int a,.int b])) p (.lst [.int a2,.int b2])) p:=⟨_,_,ec⟩
   have X:upd (upd (upd S r (.lst [.int 1,.int 2,.int 8])) p (.lst [.int a,.int b])) p (.lst [.int a2,.int b2]) l=some (.lst (os.map V.str)):=by rw[aC C.symm,aC C.symm,aC nlr];exact v
   generalize upd (upd (upd S r (.lst [.int 1,.int 2,.int 8])) p (.lst [.int a,.int b])) p (.lst [.int a2,.int b2])=H2 at Z W X⊢;refine gF (DJ p l os i H) ⟨[],o4,rfl,X,Z,W,rfl,dl⟩ ?_ ?_
   ·rintro j σ H3 hj ⟨R,o4',rfl,I,N,J,Y,L⟩;refine⟨_,rfl,_,rfl,p,36,rfl,J,ad,ad,λd3 a3 b3 e0 e1=>?_⟩;obtain⟨c,hc,U⟩:=VZ (H:=upd H3 p (.lst [.int a3,.int b3])) e0 e1;refine⟨_,U,?_⟩;refine .inl ⟨.str ⟨(63::(R++[c])).toArray⟩,?_,?_⟩
    ·show(if (63::R).toArray.size+1<=sizeLine then some (V.str _)else none)=_;rw[ai (ao (m:=100) (by simp;lia) ad)];exact congrArg some (congrArg V.str (congrArg Str.mk dl))
    ·exact⟨R++[c],_,rfl,by rw[aC C.symm];exact I,N.trans (bO.upd _ _ _),⟨_,_,ec⟩,by rw[au,Y];rfl,λx U=>(cx.mp U).elim (L x) λh=>by rw[cu.mp h];exact hc⟩
   ·rintro σ H3 ⟨R,o4',rfl,I,N,J,Y,L⟩;refine⟨_,rfl,tyL I,_,rfl,l,_,_,rfl,rfl,I,aj (m:=10) (by rw[ae];lia) ad,?_⟩;refine⟨os++[⟨(63::R).toArray⟩],_,_,_,rfl,by rw[ec,az];rfl,?_,J.but C,by rw[au,o];rfl,λx U=>(cx.mp U).elim (ok x) λh=>by rw[cu.mp h];exact⟨R,rfl,dk,dk,L⟩⟩;intro c u hc e;rw[aC (λz=>?_)]
    ·exact N c u hc e
    ·subst z;rw[O]at e;cases e
  ·rintro σ S ⟨os,o2,o3,o4,rfl,v,hb,t,o,ok⟩;exact⟨_,rfl,q l os S C.symm hb t v o ok⟩
def MF (p t:Addr)(c:cU)(sm:cC)(H:Hp):Prop:=∃(a b:Addr) (fv sv:List V),H t=some (.tup [.ref a,.ref b])/\H a=some (.lst fv)/\H b=some (.lst sv)/\dU H c fv/\d8 H sm sv/\a≠p/\b≠p
def bK.ofBut (h:bO p H H')(c:bH H p):bK H H':=λb xs e=>h b _ (λz=>by obtain⟨x,y,q⟩:=c;rw[z,q]at e;cases e) e
def MF.but (h:MF p t fx sm H)(hb:bO p H H')(c:bH H p):MF p t fx sm H':=by obtain⟨a,b,q,g,o,m,l,j,i,e,d⟩:=h;exact⟨a,b,q,g,bK.ofBut hb c _ _ o,hb _ _ e m,hb _ _ d l,j.same (bK.ofBut hb c),i.same (bK.ofBut hb c),e,d⟩
def PX (p o:Addr)(os:aV)(H:Hp):Prop:=H o=some (.lst (os.map V.str))/\o≠p
def PX.but {p o:Addr}{os:aV}{H H':Hp}(h:PX p o os H)(hb:bO p H H'):PX p o os H':=⟨hb _ _ h.2 h.1,h.2⟩
def vZ:Sp:=λvs H Q _=>∃(p t o:Addr) (fx:cU) (sm:cC) (os:aV),vs=[.ref p,.ref t,.ref o]/\bH H p/\MF p t fx sm H/\PX p o os H/\1<=os.length/\os.length<=12/\fx.length<=12/\(∃r∈fx,r.2=0) /\
 ∀(x:Str) (H':Hp),bO p H H'->bH H' p->(x∈os\/x∈zeros fx)->Q (.str x) H'
def FT {K0:dq}{J:It}{a:Addr}{h:cU}{p:List V}{e:Hp}{Qk:VK}(u:TR K0 a p J e)(c:dU e h p)(v:h.length<=12)(hd:∀g,e g=none->Qk (.ref g) (upd e g (.lst ((zeros h).map V.str)))) :
  pD J (gTup K0 2 (gCons (gName 0) (gCons (gName 1) gNil))) (tTest (tOp rEqD (tVar 1) (tC (.int 0)))) (tVar 0) Qk [none,none] e:=by
 refine dC u (LI h e) ⟨none,none,rfl,rfl,rfl⟩ (by rintro i d l H' _ ⟨_,_,_,rfl,_⟩;rfl) ?_ ?_
 ·rintro i x d l H' q ⟨o1,o2,rfl,rfl,rfl⟩;obtain⟨r,t,o,rfl,s⟩:=c.get q;refine⟨t,_,rfl,iF.of s,rfl,_,_,rfl,_,_,rfl,rfl,_,rfl,?_⟩;dsimp only[tC];rw[rEqD_ii];refine⟨_,rfl,?_⟩;by_cases z:r.2=0
  ·rw[ai (by simpa using z)];refine⟨_,rfl,?_,?_⟩
   ·rw[ae];have w:=(iA (h.take i)).length_le;rw[ae,bv]at w;exact aj (m:=12) dk ad
   ·exact⟨_,_,rfl,rfl,by rw[ee o,jG,ai z,az];rfl⟩
  ·rw[ab (by simpa using z)];exact⟨_,_,rfl,rfl,by rw[ee o,jG,ab z,bp]⟩
 ·rintro d l H' ⟨o1,o2,rfl,rfl,rfl⟩ g j;rw[List.take_of_length_le (by rw[c.len];exact ac _)];exact hd g j
def RT (F:fV K "_law_leaf" "_law_leaf" iQ f fd)(T:Txt mg)(c:dS P w K mg base bU 1 "_law_take" iB):cH P w K mg base bU 2 f fd uI vZ:=by
 refine F.ok mB (λvs H Q E h=>?_) (λcdv A outer s H vs Q E u h=>?_)
 ·obtain⟨p,t,o,m,sm,os,rfl,_⟩:=h;rfl
 ·obtain⟨p,t,o,m,sm,os,rfl,I,ht,ho,h1,h2,h3,hz,q⟩:=h;have W:=u.units
  refine⟨_,(aE (jA (i:=3) mB.nd rfl rfl rfl rfl (bN.by (N:=nY) (names:=(aH iQ).names) (N':=["_law_name","_law_parts"]) (src:=[none,none]) (by decide +kernel) rfl rfl) (dF K rfl (cA dM (pv 1) aJ (λ_ _=>rfl))) (λ_ _ _ _=>(cT K rfl (i:=0) (j:=1) rfl (dL ["_law_name","_law_parts"]) rfl rfl rfl rfl)) (λ_ _ _ _=>(mI (aR (eF W) (pv 1) aJ))) (λ_ _ _ _=>(pv 0)))
   (aE (bP 4 mB.nd (cA dM (cQ (aA (pv 2) (aA (pv 3) aB))) (aU c u (aA (pv 0) (aA aJ aB))) (λ_ _=>rfl)))
   (aG (aL (cA dM (pv 4) (aU c u (aA (pv 0) (aA (aZ bV T.n_len (aA (pv 4) aB)) aB))) (λ_ _=>rfl)))))),?_⟩
  try dsimp only[cxOf,Cx.nox]
  clear u F T c W;simp only[tFor_fn,tComp_fn];obtain⟨a,b,fv,sv,t1,t2,t3,Z,t5,t6,t7⟩:=ht;refine⟨_,rfl,.ref a,by rw[ixV_t t1];rfl,a,fv,rfl,.inl t2,λJ hJ=>FT hJ Z h3 λg v=>⟨_,rfl,_,rfl,show 2<=sizeLine by decide,λr u=>?_⟩⟩;have L:1<=(zeros m).length:=by obtain⟨y,hy,e⟩:=hz;exact List.length_pos_of_mem (cy.mpr ⟨y,db.mpr ⟨hy,by simpa using e⟩,rfl⟩)
  have O:(zeros m).length<=12:=by have:=(iA m).length_le;rw[ae]at this;lia
  have C:=I.but (o:=.lst ((zeros m).map V.str)) (I.ne v);have U:=C.but (o:=.lst [.ref o,.ref g]) (C.ne u);have b2:bO p H (upd (upd H g (.lst ((zeros m).map V.str))) r (.lst [.ref o,.ref g])):=(bO.new v).trans (bO.new u);have f2:upd (upd H g (.lst ((zeros m).map V.str))) r (.lst [.ref o,.ref g]) g=some (.lst ((zeros m).map V.str)):=by rw[aC (aD ec u)];exact ec
  have o2:=(ho.but b2)
  have R:upd (upd H g (.lst ((zeros m).map V.str))) r (.lst [.ref o,.ref g]) r=some (.lst [.ref o,.ref g]):=ec;have nr:=(C.ne u).symm;have nl:=(I.ne v).symm;generalize upd (upd H g (.lst ((zeros m).map V.str))) r (.lst [.ref o,.ref g])=H2 at U b2 f2 o2 R⊢;refine⟨_,rfl,p,2,rfl,U,ad,ad,λd x y d0 d1=>?_⟩;have S:bH (upd H2 p (.lst [.int x,.int y])) p:=⟨_,_,ec⟩
  have Y:=b2.trans (bO.upd p H2 (.lst [.int x,.int y]));have f3:upd H2 p (.lst [.int x,.int y]) g=some (.lst ((zeros m).map V.str)):=by rw[aC nl];exact f2
  have G:=o2.but (bO.upd p H2 (.lst [.int x,.int y]));have B:upd H2 p (.lst [.int x,.int y]) r=some (.lst [.ref o,.ref g]):=by rw[aC nr];exact R
  generalize upd H2 p (.lst [.int x,.int y])=H3 at S Y f3 G B⊢;obtain⟨l,ls,hi,hl,g1,g2,nlp,gin⟩:∃(l:Addr) (ls:aV),ixV H3 (.ref r) (.int d)=some (.ref l)/\H3 l=some (.lst (ls.map V.str))/\1<=ls.length/\ls.length<=12/\l≠p/\∀z∈ls,z∈os\/z∈zeros m:=by
   have:d=0\/d=1:=by lia
   rcases this with rfl|rfl
   ·exact⟨o,os,by rw[ixV_l B];rfl,G.1,h1,dk,G.2,λz hz=>.inl hz⟩
   ·exact⟨g,_,by rw[ixV_l B];rfl,f3,L,O,nl,λz hz=>.inr hz⟩
  refine⟨.ref l,hi,_,rfl,_,rfl,_,rfl,_,.int ls.length,rfl,by dsimp only;rw[lenV_l hl,ae];rfl,p,ls.length,rfl,S,dk,dk,λe x4 y4 e0 e1=>?_⟩;have X:e.toNat<ls.length:=by lia
  refine⟨.str ls[e.toNat],?_,q _ _ (Y.trans (bO.upd _ _ _)) ⟨_,_,ec⟩ (gin _ (List.getElem_mem X))⟩;rw[ixV_l (xs:=ls.map V.str) (by rw[aC nlp];exact hl),kT e0 (by rw[ae];exact e1),bS,ay X];rfl
def WL (d:cU)(sm:cC)(c:Int)(r:Str×Int):Prop:=(0<r.2/\r.2<=c/\r∈d)\/(r.2=0/\1<c/\r.1∈sm.map (·.1))
def uY:Sp:=λvs H Q _=>∃(p t:Addr) (room:Int) (fx:cU) (sm:cC),vs=[.ref t,.int room]/\MF p t fx sm H/\fx.length<=12/\sm.length<=3 /\
 ∀(l:Addr) (hs:cU) (hv:List V) (H':Hp),aF H H'->H l=none->H' l=some (.lst hv)->dU H' hs hv->hs.length<=18->(∀r∈hs,WL fx sm room r)->Q (.ref l) H'
def HI (h:cU)(c:Int)(H:Hp)(i:Nat)(d:List V)(g:St)(e:Hp):Prop:=∃(o1 o2:Option V) (hs:cU),g=[o1,o2,some (.int c)]/\aF H e/\dU e hs d/\hs.length<=i/\∀r∈hs,0<r.2/\r.2<=c/\r∈h
def HJ (sm:cC)(H:Hp)(i:Nat)(c:List V)(e:St)(d:Hp):Prop:=∃(o1 o2:Option V) (hs:cU),e=[o1,o2]/\aF H d/\dU d hs c/\hs.length=i/\∀r∈hs,r.2=0/\r.1∈sm.map (·.1)
theorem d8.get:∀{l:cC} {vs:List V} {i:Nat} {v:V},d8 H l vs->vs[i]?=some v->∃r t,l[i]?=some r/\v = .ref t/\H t=some (.tup [.str r.1,.str r.2])
 | [],_,_,_,h,e=>by cases h;simp at e
 | r::_,_,0,_,⟨t,us,e,h,q⟩,k=>by subst e;simp at k;exact⟨r,t,rfl,k.symm,h⟩
 | _::_,_,i+1,_,⟨t,us,e,h,q⟩,k=>by subst e;simp at k;obtain⟨r,t,g,d,c⟩:=d8.get q k;exact⟨r,t,by simpa using g,d,c⟩
def d8.len:∀{l:cC} {vs:List V},d8 H l vs->vs.length=l.length
 | [],_,h=>by cases h;rfl
 | _::_,_,⟨t,us,e,h,q⟩=>by subst e;simp[d8.len q]
def dU.app:∀{l m:cU} {vs us:List V},dU H l vs->dU H m us->dU H (l++m) (vs++us)
 | [],_,_,_,h,k=>by cases h;exact k
 | _::_,_,_,_,⟨t,us,e,h,q⟩,k=>by subst e;exact⟨t,_,rfl,h,dU.app q k⟩
def N4 (F:fV K "_law_heads" "_law_heads" fG f fd)(T:Txt mg):cH P w K mg base bU 1 f fd rR uY:=by
 refine F.ok kP (λvs H Q E h=>?_) (λcdv A outer s H vs Q E U h=>?_)
 ·obtain⟨p,t,I,fx,sm,rfl,_⟩:=h;rfl
 ·obtain⟨p,t,I,fx,sm,rfl,ht,h1,h2,q⟩:=h;have S:=U.units
  refine⟨_,(aE (jA (i:=2) kP.nd rfl rfl rfl rfl (bN.by (N:=jC) (names:=(aH fG).names) (N':=["_law_name","_law_parts","_law_room"]) (src:=[none,none,some 1]) (by decide +kernel) rfl rfl) (dF K rfl (cA dM (pv 0) aJ (λ_ _=>rfl))) (λ_ _ _ _=>(cT K rfl (i:=0) (j:=1) rfl (dL ["_law_name","_law_parts","_law_room"]) rfl rfl rfl rfl)) (λ_ _ _ _=>(mI (nL (kQ S) qT aJ (pv 1) (pv 2)))) (λ_ _ _ _=>(fM (aA (pv 0) (aA (pv 1) aB)))))
   (aE (bQ (aR EA (pv 1) aJ) (aG (bP 2 kP.nd (bW bZ (pv 2) (bW (sN.or sM) (gZ rfl (bN.by (N:=jC) (names:=(aH fG).names) (N':=["_law_name","_law_nought"]) (src:=[none,none]) (by decide +kernel) rfl rfl) (dF K rfl (cA dM (pv 0) aJ (λ_ _=>rfl))) (λ_ _ _ _=>(cT K rfl (i:=0) (j:=1) rfl (dL ["_law_name","_law_nought"]) rfl rfl rfl rfl)) (λ_ _ _ _=>dW) (λ_ _ _ _=>(fM (aA (pv 0) (aA aJ aB))))) aJ)))) aO)
   (aG (aL (pv 2))))),?_⟩
  try dsimp only[cxOf,Cx.nox]
  clear U F T S;simp only[tFor_fn,tComp_fn];obtain⟨a,b,fv,sv,t1,t2,t3,t4,t5,t6,t7⟩:=ht;refine⟨_,rfl,.ref a,by rw[ixV_t t1];rfl,a,fv,rfl,.inl t2,λJ hJ=>dC hJ (HI fx I H) ⟨none,none,[],rfl,λ_ _ h=>h,rfl,ac _,dl⟩ ?_ ?_ ?_⟩
  ·rintro i d σ H' _ ⟨_,_,_,_,W,_⟩;rw[W _ _ t2,t2]
  ·rintro i x d σ H1 hx ⟨o1,o2,hs,rfl,W,O,hl,R⟩;obtain⟨r,t',U,rfl,ht⟩:=(t4.same (bK.of W)).get hx;have hi:i<12:=by
    have:=(cs.mp U).1
    lia
   refine⟨t',_,rfl,iF.of ht,rfl,_,_,rfl,_,_,rfl,rfl,_,rfl,.inl (.inl ⟨_,_,rfl,rfl,_,rfl,?_⟩)⟩;by_cases z:0<r.2
   ·rw[ai (by simpa using z)];refine⟨_,rfl,_,_,rfl,rfl,_,rfl,?_⟩;dsimp only;by_cases z2:r.2<=I
    ·rw[ai (by simpa using z2)];refine⟨_,rfl,_,rfl,(by show 2<=sizeLine;decide),λu S=>⟨aj (m:=12) (by rw[O.len];lia) ad,?_⟩⟩;have g:=(O.same (bK.of (aF.upd (o:=.tup [.str r.1,.int r.2]) S))).snoc (n:=r.1) (k:=r.2) ec;exact⟨_,_,hs++[(r.1,r.2)],rfl,W.trans (aF.upd S),g,by rw[au];simp;lia,λy X=>(cx.mp X).elim (R y) λh=>by rw[cu.mp h];exact⟨z,z2,bj U⟩⟩
    ·rw[ab (by simpa using z2)];exact⟨_,_,hs,rfl,W,O,dk,R⟩
   ·rw[ab (by simpa using z)];refine⟨false,rfl,?_⟩;dsimp only;rw[ab ad];exact⟨_,_,hs,rfl,W,O,dk,R⟩
  ·rintro d σ H1 ⟨o1,o2,hs,rfl,W,O,hl,R⟩ l Z;rw[t4.len]at hl;have s2:aF H (upd H1 l (.lst d)):=W.trans (aF.upd Z);have nl:H l=none:=by
    cases e:H l with
    | none=>rfl
    | some o=>have z:=W l o e;rw[Z]at z;cases z
   have g:=O.same (bK.of (aF.upd (o:=.lst d) Z));have l2:upd H1 l (.lst d) l=some (.lst d):=ec;generalize upd H1 l (.lst d)=H2 at s2 g l2⊢;refine⟨_,rfl,_,_,rfl,rfl,_,rfl,ite_on (λU=>?_) (λU=>?_)⟩
   ·have U:1<I:=bu U;refine⟨_,rfl,_,rfl,.ref b,by rw[ixV_t (s2 _ _ t1)];rfl,b,sv,rfl,.inl (s2 _ _ t3),λJ2 hJ2=>dC hJ2 (HJ sm H2) ⟨none,none,[],rfl,λ_ _ h=>h,rfl,rfl,dl⟩ ?_ ?_ ?_⟩
    ·rintro i d σ H' _ ⟨_,_,_,_,s3,_⟩;rw[s3 _ _ (s2 _ _ t3),s2 _ _ t3]
    ·rintro i x c σ H3 hx ⟨o1,o2,hs2,rfl,s3,G,Y,L⟩;obtain⟨r,t',hr',rfl,ht⟩:=(t5.same (bK.of (s2.trans s3))).get hx;have hi:=(cs.mp hr').1;refine⟨t',_,rfl,iF.of ht,rfl,_,_,rfl,_,_,rfl,rfl,?_⟩;dsimp only[tYes];rw[ai rfl];refine⟨_,rfl,(by show 2<=sizeLine;decide),λu S=>⟨aj (m:=12) (by rw[G.len];lia) ad,?_⟩⟩;have B:=(G.same (bK.of (aF.upd (o:=.tup [.str r.1,.int 0]) S))).snoc (n:=r.1) (k:=0) ec;exact⟨_,_,hs2++[(r.1,0)],rfl,s3.trans (aF.upd S),B,by rw[au,Y];rfl,λy X=>(cx.mp X).elim (L y) λh=>by rw[cu.mp h];exact⟨rfl,cy.mpr ⟨r,bj hr',rfl⟩⟩⟩
    ·rintro c σ H3 ⟨o1,o2,hs2,rfl,s3,G,Y,L⟩ m hm;rw[t5.len]at Y;have s4:=s3.trans (aF.upd (o:=.lst c) hm);have B:=G.same (bK.of (aF.upd (o:=.lst c) hm));have m4:upd H3 m (.lst c) m=some (.lst c):=ec;generalize upd H3 m (.lst c)=H4 at s4 B m4⊢;refine .inr ⟨m,2,c,rfl,rfl,m4,ad,ad,ao (m:=100) (by rw[B.len];show _ * 2<=_;lia) ad,λu S=>?_⟩;have e2:(List.replicate (Int.toNat 2) c).flatten=c++c:=by show c++(c++[])=_;rw[bp]
     rw[e2];have l5:upd H4 u (.lst (c++c)) l=some (.lst d):=by rw[aC (aD (s4 _ _ l2) S)];exact s4 _ _ l2
     have s5:=s4.trans (aF.upd (o:=.lst (c++c)) S);have C:=B.same (bK.of (aF.upd (o:=.lst (c++c)) S));have u5:upd H4 u (.lst (c++c)) u=some (.lst (c++c)):=ec;generalize upd H4 u (.lst (c++c))=H5 at l5 s5 C u5⊢;refine .inr ⟨.lst (d++(c++c)),?_,λv hv=>⟨_,rfl,?_⟩⟩
     ·simp only[catO,l5,u5];exact ai (ao (m:=100) (by rw[au,C.len,(g.same (bK.of s5)).len];lia) ad)
     ·have s6:=(s2.trans s5).trans (aF.upd (o:=.lst (d++(c++c))) hv);have row6:=((g.same (bK.of s5)).app (C.app C)).same (bK.of (aF.upd (o:=.lst (d++(c++c))) hv));refine q v _ _ _ s6 ?_ ec row6 (by simp only[au];lia) λy X=>?_
      ·cases e:H v with
       | none=>rfl
       | some o=>have z:=(s2.trans s5) v o e;rw[hv]at z;cases z
      ·obtain h|h:=cx.mp X
       ·exact .inl (R y h)
       ·have:=(cx.mp h).elim (L y) (L y);exact .inr ⟨this.1,U,this.2⟩
   ·exact⟨_,rfl,q l hs d H2 s2 nl l2 g dk λy X=>.inl (R y X)⟩
def C9 (c:cU)(sm:cC)(n:Str)(k:Nat):Prop:=(0<k/\(n,(k:Int))∈c)\/(2<=k/\n∈sm.map (·.1))
mutual
def aS (c:cU)(sm:cC)(os:aV):D->Prop
 | .str x=>x∈os\/x∈zeros c
 | .tup (.str n::ds)=>C9 c sm n ds.length/\IsTms c sm os ds
 | .lst (.str n::ds)=>C9 c sm n ds.length/\IsTms c sm os ds
 | _=>False
def IsTms (c:cU)(sm:cC)(os:aV):List D->Prop
 | []=>True
 | d::ds=>aS c sm os d/\IsTms c sm os ds
end
mutual
noncomputable def lvs:D->Nat
 | .tup (_::ds)=>lvss ds
 | .lst (_::ds)=>lvss ds
 | _=>1
noncomputable def lvss:List D->Nat
 | []=>0
 | d::ds=>lvs d+lvss ds
end
def IsTms.snoc {c:cU}{sm:cC}{os:aV}{d:D}(h:aS c sm os d):∀{ds:List D},IsTms c sm os ds->IsTms c sm os (ds++[d])
 | [],_=>⟨h,trivial⟩
 | _::_,⟨a,b⟩=>⟨a,IsTms.snoc h b⟩
def zN (d:D):∀ds:List D,lvss (ds++[d])=lvss ds+lvs d
 | []=>by simp[lvss]
 | e::ds=>by rw[List.cons_append,lvss,zN d ds,lvss];lia
def xJ (d:D):∀ds:List D,depDs (ds++[d])=max (depDs ds) (depD d)
 | []=>Nat.max_comm _ _
 | e::ds=>by rw[List.cons_append,depDs,xJ d ds,depDs,Nat.max_assoc]
def Reps.snoc (h:aY H d v):∀{ds:List D} {vs:List V},Reps H ds vs->Reps H (ds++[d]) (vs++[v])
 | [],_,e=>by cases e;exact⟨v,[],rfl,h,rfl⟩
 | _::_,_,⟨x,r,e,a,b⟩=>by subst e;exact⟨x,r++[v],rfl,a,Reps.snoc h b⟩
def Reps.len:∀{ds:List D} {vs:List V},Reps H ds vs->vs.length=ds.length
 | [],_,e=>by cases e;rfl
 | _::_,_,⟨x,r,e,a,b⟩=>by subst e;simp[Reps.len b]
noncomputable def nw (H H':Hp):Hp:=λa=>if H a=none then H' a else none
noncomputable def nwB (r:Addr)(H H':Hp):Hp:=λa=>if H a=none/\a≠r then H' a else none
def dJ:nw H H' a=some o ↔ H a=none/\H' a=some o:=by
 unfold nw;by_cases h:H a=none
 ·rw[ai h];exact⟨λe=>⟨h,e⟩,λe=>e.2⟩
 ·rw[ab h];exact⟨λe=>(by cases e),λe=>absurd e.1 h⟩
def fJ:nwB r H H' a=some o ↔ (H a=none/\a≠r)/\H' a=some o:=by
 unfold nwB;by_cases h:H a=none/\a≠r
 ·rw[ai h];exact⟨λe=>⟨h,e⟩,λe=>e.2⟩
 ·rw[ab h];exact⟨λe=>(by cases e),λe=>absurd e.1 h⟩
def nQ (p t o:Addr)(c:cU)(sm:cC)(os:aV)(H:Hp):Prop:=bH H p/\MF p t c sm H/\PX p o os H/\aW c sm/\1<=os.length/\os.length<=12
def nQ.but {p t o:Addr}{c:cU}{sm:cC}{os:aV}{H H':Hp}(h:nQ p t o c sm os H)(hb:bO p H H')(d:bH H' p):nQ p t o c sm os H' :=
 ⟨d,h.2.1.but hb h.1,h.2.2.1.but hb,h.2.2.2⟩
def pF (n:Nat):Sp:=λvs H Q _=>∃(p t o:Addr) (fx:cU) (sm:cC) (os:aV) (room deep:Nat),vs=[.ref p,.ref t,.ref o,.int room,.int deep]/\nQ p t o fx sm os H/\1<=room/\room<=64/\deep<=n /\
 ∀(d:D) (v:V) (H':Hp),bO p H H'->bH H' p->aY (nw H H') d v->aS fx sm os d->lvs d<=room->depD d<=deep->Q v H'
def zF:∀{c:cU} {hv:List V},dU H c hv->Reps H (c.map λr=>D.tup [.str r.1,.int r.2]) hv
 | [],_,e=>e
 | r::_,_,⟨t,us,e,h,q⟩=>⟨.ref t,us,e,⟨t,_,rfl,h,_,_,rfl,rfl,_,_,rfl,rfl,rfl⟩,zF q⟩
def FB:∀c:cU,depDs (c.map λr=>D.tup [.str r.1,.int r.2])<=1
 | []=>aw _
 | r::c=>by
  have:=FB c;rw[bf,depDs];show max 1 _<=1
  lia
def TI (p t o l rw:Addr)(c d parts:Nat)(nm:Str)(h:cU)(sm:cC)(os:aV)(H:Hp)(i:Nat)(g:St)(e:Hp):Prop :=
 ∃(left:Nat) (ds:List D) (vs:List V) (o10 o11:Option V),g=[some (.ref p),some (.ref t),some (.ref o),some (.int c),some (.int d),some (.ref l),some (.str nm),some (.int parts),some (.int left),some (.ref rw),o10,o11] /\
  bO p H e/\bH e p/\e rw=some (.lst (.str nm::vs))/\Reps (nwB rw H e) ds vs/\ds.length=i/\IsTms h sm os ds/\lvss ds+left+(parts - i)<=c/\depDs ds+1<=d
def yY {K0:dq}{Q:VK}{H Y:Hp}{p t o l rw:Addr}{S:cU}{sm:cC}{os:aV}{c g parts n:Nat}{nm:Str}(C:nQ p t o S sm os H)(dn:g<=n)(d1:1<=g)(r2:c<=64)(hpr:parts<=c)(hh:C9 S sm nm parts)
  (b5:bO p H Y) (p5:bH Y p) (nr:H rw=none) (r5:Y rw=some (.lst [.str nm]))
  (q:∀(d:D) (v:V) (H':Hp),bO p H H'->bH H' p->aY (nw H H') d v->aS S sm os d->lvs d<=c->depD d<=g->Q v H') :
  uU (P7 0 parts) (gName 10) (tSeq (tAsg (tCall iB [] E0 (tCons (tVar 0) (tCons (tOp rAddF (tVar 8) (tC (V.int 1))) tNil))) (gName 11)) (tSeq (tAsg (tOp (rI0 λi j=>V.int (i - j)) (tVar 8) (tVar 11)) (gName 8))
   (tDrop (tBM K0 "list" rAppend (tVar 9) (tCons (tCall (λvs H Q E=>∃m,m<n/\pF m vs H Q E) [] E0 (tCons (tVar 0) (tCons (tVar 1) (tCons (tVar 2) (tCons (tOp rAddF (tC (V.int 1)) (tVar 11)) (tCons (tOp (rI0 λi j=>V.int (i - j)) (tVar 4) (tC (V.int 1))) tNil)))))) tNil)))))
   {nx:=tRet (tOp (λx y H Q=>∃v,ixV H x y=some v/\Q v H) (tLst (tCons (tVar 9) (tCons (tCB rTupU (tCons (tVar 9) tNil)) tNil))) (tCall iB [] E0 (tCons (tVar 0) (tCons (tC (V.int 2)) tNil)))) {nx:=λx H'=>Q V.non H',rt:=Q},rt:=Q}
   [some (.ref p),some (.ref t),some (.ref o),some (.int c),some (.int g),some (.ref l),some (.str nm),some (.int parts),some (.int ((c:Int) - (parts:Int))),some (.ref rw),none,none] Y:=by
 have s:rw≠p:=λz=>by obtain⟨x,y,e⟩:=C.1;rw[←z,nr]at e;cases e
 have O:H p≠none:=λz=>by obtain⟨x,y,e⟩:=C.1;rw[z]at e;cases e
 refine gF (TI p t o l rw c g parts nm S sm os H) ⟨c - parts,[],[],none,none,by rw[Int.ofNat_sub hpr],b5,p5,r5,rfl,rfl,trivial,by show 0+(c - parts)+(parts - 0)<=c;lia,d1⟩ ?_ ?_
 ·rintro i σ h hi ⟨left,ds,vs,o10,o11,rfl,b1,r,r1,T,X,tm,lv,dp⟩;refine⟨_,rfl,_,rfl,.inl ⟨.int (left+1),rfl,p,left+1,rfl,r,dk,dk,λmore x y m0 m1=>?_⟩⟩;obtain⟨k,rfl⟩:∃k:Nat,more=(k:Int):=⟨more.toNat,dk⟩
  have b2:=b1.trans (bO.upd p h (.lst [.int x,.int y]));have p2:bH (upd h p (.lst [.int x,.int y])) p:=⟨_,_,ec⟩
  have r2':upd h p (.lst [.int x,.int y]) rw=some (.lst (.str nm::vs)):=by rw[aC s];exact r1
  have s2:∀a,a≠p->upd h p (.lst [.int x,.int y]) a=h a:=λa P=>aC P;generalize upd h p (.lst [.int x,.int y])=B at b2 p2 r2' s2⊢;refine⟨_,rfl,_,rfl,_,_,rfl,rfl,?_⟩;have e1:(1:Int)+(k:Int)=((1+k:Nat):Int):=by lia
  have e2:(g:Int) - 1=((g - 1:Nat):Int):=by lia
  refine⟨_,rfl,.inl ⟨rfl,_,fL.of r2'⟩,_,rfl,_,rfl,_,rfl,_,rfl,.inl ⟨_,rfl,_,rfl,_,_,rfl,rfl,g - 1,dk,p,t,o,S,sm,os,1+k,g - 1,(by rw[←e1,←e2];rfl),C.but b2 p2,dk,dk,ac _,λd v H3 G p3 J Z lv3 dp3=>?_⟩⟩;have r3:=G rw _ s r2';have old:∀a,B a=none->H a=none:=λa P=>by
   cases e:H a with
   | none=>rfl
   | some u =>
    by_cases z:a=p
    ·obtain⟨x,y,e'⟩:=p2;rw[z,e']at P;cases P
    ·have:=b2 a u z e;rw[P]at this;cases this
  refine⟨rw,_,v,rfl,rfl,r3,aj (m:=100) (by simp only[aq];rw[Reps.len T];lia) ad,?_⟩;refine⟨left - k,ds++[d],vs++[v],some (.int (0+i)),some (.int k),?_,C3 (b2.trans G) nr,p3.but s.symm,by rw[ec];rfl,?_,by rw[au,X];rfl,tm.snoc Z,?_,?_⟩
  ·rw[Int.ofNat_sub dk];rfl
  ·refine Reps.snoc (aY.same ?_ J) (Reps.same ?_ T)
   ·intro a u e;obtain⟨A,R⟩:=dJ.mp e;have L:a≠rw:=λz=>by rw[z,r2']at A;cases A
    exact fJ.mpr ⟨⟨old a A,L⟩,by rw[aC L];exact R⟩
   ·intro a u e;obtain⟨⟨A,R⟩,g3⟩:=fJ.mp e;have N:a≠p:=λz=>O (by rw[←z];exact A);exact fJ.mpr ⟨⟨A,R⟩,by rw[aC R];exact G a u N (by rw[s2 a N];exact g3)⟩
  ·rw[zN];lia
  ·rw[xJ];lia
 ·rintro σ h ⟨left,ds,vs,o10,o11,rfl,b1,r,r1,T,X,tm,lv,dp⟩;refine⟨_,rfl,_,rfl,rw,_,rfl,.inl r1,λtp B hc=>?_⟩;rcases hc with⟨z,_⟩|⟨_,F,rfl⟩
  ·rw[r1]at z;cases z
  refine⟨(by show 2<=sizeLine;decide),λu U=>⟨_,rfl,p,2,rfl,(r.but (r.ne F)).but ((r.but (r.ne F)).ne U),ad,ad,λd x y d0 d2=>?_⟩⟩;have s2:aF h (upd (upd h tp (.tup (.str nm::vs))) u (.lst [.ref rw,.ref tp])):=(aF.upd F).trans (aF.upd U);have t2:upd (upd h tp (.tup (.str nm::vs))) u (.lst [.ref rw,.ref tp]) tp=some (.tup (.str nm::vs)):=by rw[aC (aD ec U)];exact ec
  have u2:upd (upd h tp (.tup (.str nm::vs))) u (.lst [.ref rw,.ref tp]) u=some (.lst [.ref rw,.ref tp]):=ec;have nup:u≠p:=((r.but (o:=.tup (.str nm::vs)) (r.ne F)).ne U).symm;have K:tp≠p:=(r.ne F).symm;generalize upd (upd h tp (.tup (.str nm::vs))) u (.lst [.ref rw,.ref tp])=B at s2 t2 u2⊢;have G:bO p H (upd B p (.lst [.int x,.int y])):=(b1.trans s2.but).trans (bO.upd _ _ _);have r3:upd B p (.lst [.int x,.int y]) rw=some (.lst (.str nm::vs)):=by rw[aC s];exact s2 _ _ r1
  have t3:upd B p (.lst [.int x,.int y]) tp=some (.tup (.str nm::vs)):=by rw[aC K];exact t2
  have u3:upd B p (.lst [.int x,.int y]) u=some (.lst [.ref rw,.ref tp]):=by rw[aC nup];exact u2
  have nt:H tp=none:=by
   cases e:H tp with
   | none=>rfl
   | some w=>have:=b1 tp w K e;rw[F]at this;cases this
  have I:Reps (nw H (upd B p (.lst [.int x,.int y]))) (.str nm::ds) (.str nm::vs):=by refine⟨_,_,rfl,rfl,Reps.same (λa w e=>?_) T⟩;obtain⟨⟨A,R⟩,g3⟩:=fJ.mp e;exact dJ.mpr ⟨A,by rw[aC (λz=>O (by rw[←z];exact A))];exact s2 _ _ g3⟩
  have dd:depDs (.str nm::ds)+1<=g:=by rw[depDs,show depD (.str nm)=0 from rfl];lia
  have ll:lvss ds<=c:=by lia
  dsimp only;have:d=0\/d=1:=by lia
  rcases this with rfl|rfl
  ·refine⟨.ref rw,by rw[ixV_l u3];rfl,q (.lst (.str nm::ds)) _ _ G ⟨_,_,ec⟩ ⟨rw,_,rfl,dJ.mpr ⟨nr,r3⟩,I⟩ ?_ (by rw[lvs];exact ll) (by rw[depD];exact dd)⟩;unfold aS;exact⟨by rw[X];exact hh,tm⟩
  ·refine⟨.ref tp,by rw[ixV_l u3];rfl,q (.tup (.str nm::ds)) _ _ G ⟨_,_,ec⟩ ⟨tp,_,rfl,dJ.mpr ⟨nt,t3⟩,I⟩ ?_ (by rw[lvs];exact ll) (by rw[depD];exact dd)⟩;unfold aS;exact⟨by rw[X];exact hh,tm⟩
def RL (n:Nat)(F:fV K "_law_term" "_law_term" gG f fd)(T:Txt mg)(v:dS P w K mg base bU 1 "_law_take" iB)(G:dS P w K mg base bU 2 "_law_leaf" vZ)(B:dS P w K mg base bU 1 "_law_heads" uY)
  (C:dS P w K mg base bU (n+3) "_law_term" (λvs H Q E=>∃m,m<n/\pF m vs H Q E)):cH P w K mg base bU (n+4) f fd iW (pF n):=by
 refine F.ok dE (λvs H Q E h=>?_) (λcdv A outer s H vs Q E N h=>?_)
 ·obtain⟨p,t,o,fx,sm,os,J,Y,rfl,_⟩:=h;rfl
 ·obtain⟨p,t,o,fx,sm,os,J,Y,rfl,I,r1,r2,dn,q⟩:=h;have X:=N.units
  refine⟨_,(aE (bP 5 dE.nd (eE B (N.mono dk) pass0 rfl (aA (pv 1) (aA (pv 3) aB))))
   (aE (bQ (PW.pt (jJ (aR (eF X) (pv 4) aJ) (jJ (aR (eF X) (pv 5) (cQ aB)) (iD (aR (eF X) (eE v (N.mono dk) pass0 rfl (aA (pv 0) (aA aJ aB))) aJ))))) (aG (aL (eE G (N.mono dk) pass0 rfl (aA (pv 0) (aA (pv 1) (aA (pv 2) aB)))))) aO)
   (aE (sI (cA dM (pv 5) (eE v (N.mono dk) pass0 rfl (aA (pv 0) (aA (aZ bV T.n_len (aA (pv 5) aB)) aB))) (λ_ _=>rfl)) (cT K rfl (i:=6) (j:=7) rfl dE.nd rfl rfl rfl rfl))
   (aE (bQ (aR (eF X) (pv 7) aJ) (aG (bP 7 dE.nd (bW bZ aJ (eE v (N.mono dk) pass0 rfl (aA (pv 0) (aA (aZ (AK rfl) T.n_min (aA aJ (aA (bW sK (pv 3) aJ) aB))) aB)))))) aO)
   (aE (bP 8 dE.nd (bW sK (pv 3) (pv 7)))
   (aE (bP 9 dE.nd (cQ (aA (pv 6) aB)))
   (aE (eT dj rfl (fI rfl T.n_range (aA (pv 7) aB)) (h8 10 dE.nd) (aE (bP 11 dE.nd (eE v (N.mono dk) pass0 rfl (aA (pv 0) (aA (bW bZ (pv 8) aJ) aB))))
   (aE (bP 8 dE.nd (bW sK (pv 8) (pv 11)))
   (aG (cW (j8 df dh dg gH (pv 9) (aA (eE C (N.mono dk) pass0 rfl (aA (pv 0) (aA (pv 1) (aA (pv 2) (aA (bW bZ aJ (pv 11)) (aA (bW sK (pv 4) aJ) aB)))))) aB)))))))
   (aG (aL (cA dM (cQ (aA (pv 9) (aA (cB fA rfl T.n_tuple rfl (aA (pv 9) aB)) aB))) (eE v (N.mono dk) pass0 rfl (aA (pv 0) (aA aJ aB))) (λ_ _=>rfl))))))))))),?_⟩
  try dsimp only[cxOf,Cx.nox]
  clear N F T X v G B C;simp only[tFor_fn,tComp_fn];have U:∀W,bO p H W->bH W p->vZ [.ref p,.ref t,.ref o] W Q E0:=λW b1 p1=>by have i1:=I.but b1 p1;exact⟨p,t,o,fx,sm,os,rfl,p1,i1.2.1,i1.2.2.1,i1.2.2.2.2.1,i1.2.2.2.2.2,I.2.2.2.1.f2,I.2.2.2.1.bare,λx H' b2 p2 hx=>q (.str x) (.str x) H' (b1.trans b2) p2 rfl (by unfold aS;exact hx) r1 (aw _)⟩
  refine⟨_,rfl,_,rfl,p,t,J,fx,sm,rfl,I.2.1,I.2.2.2.1.f2,I.2.2.2.1.s2,λl Z hv W s1 nl l1 row hl hok=>?_⟩;have b1:bO p H W:=s1.but;have p1:bH W p:=by obtain⟨x,y,e⟩:=I.1;exact⟨x,y,s1 _ _ e⟩
  have nlp:l≠p:=λz=>by obtain⟨x,y,e⟩:=I.1;rw[←z,nl]at e;cases e
  refine tEqV rfl ⟨_,rfl,ite_on (λ_=>ite_on (λ_=>⟨_,rfl,_,rfl,_,rfl,U W b1 p1⟩) λz=>Bool.noConfusion z) λhd0=>⟨_,rfl,aw _,λu X=>?_⟩⟩;have hd0:¬(Y:Int)=0:=by simpa using hd0
  have b2:=b1.trans (bO.new (p:=p) (o:=.lst []) X);have p2:=p1.but (o:=.lst []) (p1.ne X);have l2:upd W u (.lst []) l=some (.lst hv):=by rw[aC (aD l1 X)];exact l1
  have S:=row.same (bK.of (aF.upd (o:=.lst []) X));have u2:upd W u (.lst []) u=some (.lst []):=ec;generalize upd W u (.lst [])=H2 at b2 p2 l2 S u2⊢;have dr:=FB Z;refine⟨.lst (Z.map λr=>D.tup [.str r.1,.int r.2]),.lst [],⟨l,hv,rfl,l2,zF S⟩,⟨u,[],rfl,u2,rfl⟩,by rw[depD];lia,_,rfl,ite_on (λ_=>ite_on (λ_=>⟨_,rfl,_,rfl,_,rfl,U H2 b2 p2⟩) λz=>Bool.noConfusion z) λhe=>⟨_,rfl,p,7,rfl,p2,ad,ad,λd x y d0 d1=>?_⟩⟩;have he:Z≠[]:=λz=>by subst z;cases he
  have b3:=b2.trans (bO.upd p H2 (.lst [.int x,.int y]));have p3:bH (upd H2 p (.lst [.int x,.int y])) p:=⟨_,_,ec⟩
  have l3:upd H2 p (.lst [.int x,.int y]) l=some (.lst hv):=by rw[aC nlp];exact l2
  have R:=S.same (bK.pot (o:=.lst [.int x,.int y]) p2);generalize upd H2 p (.lst [.int x,.int y])=H3 at b3 p3 l3 R⊢;have hn:1<=Z.length:=by cases Z with|nil=>exact absurd rfl he|cons a b=>simp
  have nlen:Option.map (λn:Int=>V.int n) (do
    let a ←lenV H3 (.ref l)
    pure (a:Int))=some (.int (Z.length:Int)):=by rw[lenV_l l3,R.len];rfl
  refine eqIC ⟨_,rfl,ite_on (λ_=>⟨_,rfl,_,rfl,_,rfl,U H3 b3 p3⟩) λ_=>⟨_,rfl,_,rfl,_,rfl,_,_,rfl,nlen,p,Z.length,rfl,p3,dk,dk,λe x4 y4 e0 e1=>?_⟩⟩;have b4:=b3.trans (bO.upd p H3 (.lst [.int x4,.int y4]));have p4:bH (upd H3 p (.lst [.int x4,.int y4])) p:=⟨_,_,ec⟩
  have l4:upd H3 p (.lst [.int x4,.int y4]) l=some (.lst hv):=by rw[aC nlp];exact l3
  have O:=R.same (bK.pot (o:=.lst [.int x4,.int y4]) p3);generalize upd H3 p (.lst [.int x4,.int y4])=H4 at b4 p4 l4 O⊢;have hle:e.toNat<hv.length:=by rw[O.len];lia
  obtain⟨r,tt,N,hv',ht⟩:=O.get (ay hle);have hok':=hok r (bj N);refine⟨.ref tt,by rw[ixV_l l4,kT e0 dk,ay hle,hv'],tt,_,rfl,iF.of ht,rfl,_,_,rfl,_,_,rfl,rfl,tEqV rfl ⟨_,rfl,ite_on (λhz=>?_) λhz=>?_⟩⟩
  ·have hz:r.2=0:=by simpa using hz
   have h0:1<(J:Int)/\r.1∈sm.map (·.1):=by
    rcases hok' with⟨a,_,_⟩|⟨_,b,c⟩
    ·lia
    ·exact⟨b,c⟩
   refine⟨_,rfl,_,rfl,_,_,rfl,rfl,4,(J:Int) - 1,rfl,p,_,rfl,p4,by split <;> lia,by split <;> lia,λg x5 y5 g0 g1=>.inl ⟨.int (2+g),rfl,_,rfl,_,rfl,_,_,rfl,rfl,_,rfl,(show 1<=sizeLine by decide),λu5 L=>⟨_,rfl,2+g,rfl,by split at g1 <;> lia,by split at g1 <;> lia,?_⟩⟩⟩;obtain⟨k,hk⟩:∃k:Nat,2+g=(k:Int):=⟨(2+g).toNat,dk⟩
   have hk2:2<=k/\k<=J:=by split at g1 <;> lia
   rw[hk,cr];have b5:=(b4.trans (bO.upd p H4 (.lst [.int x5,.int y5]))).trans (bO.new (o:=.lst [.str r.1]) L);have p5:bH (upd H4 p (.lst [.int x5,.int y5])) p:=⟨_,_,ec⟩
   refine yY I dn dk r2 hk2.2 (.inr ⟨hk2.1,h0.2⟩) b5 (p5.but (p5.ne L)) ?_ ec q;cases e:H u5 with
   | none=>rfl
   | some w=>have:=(b4.trans (bO.upd p H4 (.lst [.int x5,.int y5]))) u5 w (p5.ne L).symm e;rw[L]at this;cases this
  ·have hz:¬r.2=0:=by simpa using hz
   have h0:0<r.2/\r.2<=(J:Int)/\r∈fx:=by
    rcases hok' with h|⟨h,_⟩
    ·exact h
    ·exact absurd h hz
   refine⟨_,rfl,_,rfl,_,_,rfl,rfl,_,rfl,(show 1<=sizeLine by decide),λu5 L=>⟨_,rfl,r.2,rfl,dk,dk,?_⟩⟩;obtain⟨k,hk⟩:∃k:Nat,r.2=(k:Int):=⟨r.2.toNat,dk⟩
   have hm:(r.1,(k:Int))∈fx:=by rw[←hk];exact h0.2.2
   rw[hk,cr];have b5:=b4.trans (bO.new (p:=p) (o:=.lst [.str r.1]) L);refine yY I dn dk r2 dk (.inl ⟨dk,hm⟩) b5 (p4.but (p4.ne L)) ?_ ec q;cases e:H u5 with
   | none=>rfl
   | some w=>have:=b4 u5 w (p4.ne L).symm e;rw[L]at this;cases this
def SL (F:fV K "_law_term" "_law_term" gG f fd)(T:Txt mg)(d:dS P w K mg base bU 1 "_law_take" iB)(e:dS P w K mg base bU 2 "_law_leaf" vZ)(c:dS P w K mg base bU 1 "_law_heads" uY)
  (o:mg "_law_term" = some (.ref f)) (p:PySem.W.keepIn K (.ref f)=true) (hb:eW K fd iW []):∀n,cH P w K mg base bU (n+4) f fd iW (pF n):=by
 intro n
 induction n using Nat.strongRecOn with
 | ind n i =>
  exact RL n F T d e c ⟨f,fd,_,⟨λvs H Q E ⟨m,g,h⟩=>(i m g).len vs H Q E h,λA outer s H args us vs Q E l q hb j ⟨m,g,h⟩=>((i m g).mono dk).run A outer s H args us vs Q E l q hb j h⟩,o,p,hb⟩
def NP (F:fV K "_law_term" "_law_term" gG f fd)(T:Txt mg)(d:dS P w K mg base bU 1 "_law_take" iB)(e:dS P w K mg base bU 2 "_law_leaf" vZ)(c:dS P w K mg base bU 1 "_law_heads" uY)
  (g:mg "_law_term" = some (.ref f)) (h:PySem.W.keepIn K (.ref f)=true) (hb:eW K fd iW []) (n:Nat):dS P w K mg base bU (n+4) "_law_term" (pF n):=⟨f,fd,_,SL F T d e c g h hb n,g,h,hb⟩
end
abbrev M:=Nat×Str×Nat
noncomputable def sL (x y:Str):Bool:=decide (x.cps.toList<y.cps.toList)
def QG {x y:Str}(h:x.cps.toList=y.cps.toList):x=y:=by cases x;cases y;simp only[Str.mk.injEq];exact Array.toList_inj.mp h
def UY (x:Str):sL x x=false:=bo (List.lt_irrefl _)
def QL (h:sL x y=true):sL y x=false:=bo λk=>absurd (List.lt_trans (bu h) k) (List.lt_irrefl _)
def M8 (n:x≠y):sL x y=true\/sL y x=true:=by
 by_cases h:x.cps.toList<y.cps.toList
 ·exact .inl (bi h)
 ·by_cases k:y.cps.toList<x.cps.toList
  ·exact .inr (bi k)
  ·exact absurd (QG (List.le_antisymm (List.not_lt.mp k) (List.not_lt.mp h))) n
noncomputable def ltM (a b:M):Bool:=if a.1=b.1 then(if a.2.1=b.2.1 then decide (a.2.2<b.2.2)else sL a.2.1 b.2.1)else decide (a.1<b.1)
def wQ (h:ltM a b=true):ltM b a=false:=by
 obtain⟨a1,a2,g⟩:=a;obtain⟨b1,b2,e⟩:=b;unfold ltM at h⊢;dsimp only at h⊢;by_cases d:a1=b1
 ·subst d;rw[ai rfl]at h⊢;by_cases c:a2=b2
  ·subst c;rw[ai rfl]at h⊢;exact bo (by have:=bu h;lia)
  ·rw[ab c]at h;rw[ab (Ne.symm c)];exact QL h
 ·rw[ab d]at h;rw[ab (Ne.symm d)];exact bo (by have:=bu h;lia)
def sS (n:a≠b):ltM a b=true\/ltM b a=true:=by
 obtain⟨a1,a2,g⟩:=a;obtain⟨b1,b2,e⟩:=b;unfold ltM;dsimp only;by_cases d:a1=b1
 ·subst d;rw[ai rfl,ai rfl];by_cases c:a2=b2
  ·subst c;rw[ai rfl,ai rfl];have:g≠e:=λz=>n (by rw[z]);rcases Nat.lt_or_gt_of_ne this with h|h
   ·exact .inl (bi h)
   ·exact .inr (bi h)
  ·rw[ab c,ab (Ne.symm c)];exact M8 c
 ·rw[ab d,ab (Ne.symm d)];rcases Nat.lt_or_gt_of_ne d with h|h
  ·exact .inl (bi h)
  ·exact .inr (bi h)
noncomputable def lexK:List M->List M->Bool
 | [],[]=>false
 | [],_::_=>true
 | _::_,[]=>false
 | a::s,b::t=>if a=b then lexK s t else ltM a b
def qW:∀s:List M,lexK s s=false
 | []=>rfl
 | a::s=>by rw[lexK,ai rfl,qW s]
theorem sU:∀{s t:List M},lexK s t=true->lexK t s=false
 | [],[],h=>by cases h
 | [],_::_,_=>rfl
 | _::_,[],h=>by cases h
 | a::s,b::t,h=>by
  rw[lexK]at h⊢;by_cases e:a=b
  ·rw[ai e]at h;rw[ai e.symm];exact sU h
  ·rw[ab e]at h;rw[ab (Ne.symm e)];exact wQ h
theorem pJ:∀{s t:List M},s≠t->lexK s t=true\/lexK t s=true
 | [],[],n=>absurd rfl n
 | [],_::_,_=>.inl rfl
 | _::_,[],_=>.inr rfl
 | a::s,b::t,n=>by
  rw[lexK,lexK];by_cases e:a=b
  ·rw[ai e,ai e.symm];exact pJ λz=>n (by rw[e,z])
  ·rw[ab e,ab (Ne.symm e)];exact sS e
noncomputable def sortS (x:Str):Nat:=if x.cps.toList[0]?=some 63 then 0 else 1
mutual
noncomputable def key:D->List M
 | .str x=>[(sortS x,x,0)]
 | .tup (.str n::ds)=>(2,n,ds.length+1)::keys ds
 | _=>[]
noncomputable def keys:List D->List M
 | []=>[]
 | d::ds=>key d++keys ds
end
mutual
/-- texts and tuples whose first is a text -/
def Fl:D->Prop
 | .str x=>1<=x.cps.toList.length/\x.cps.toList.length<=20
 | .tup (.str _::ds)=>Fls ds
 | _=>False
def Fls:List D->Prop
 | []=>True
 | d::ds=>Fl d/\Fls ds
end
noncomputable def sortD:D->Nat
 | .str x=>sortS x
 | _=>2
mutual
/-- part by part -/
noncomputable def ah:D->D->Bool
 | .str x,.str y=>if sortS x=sortS y then sL x y else decide (sortS x<sortS y)
 | .tup (.str n::ds),.tup (.str m::c)=>if n=m then(if ds.length=c.length then ahs ds c else decide (ds.length<c.length))else sL n m
 | d,e=>decide (sortD d<sortD e)
noncomputable def ahs:List D->List D->Bool
 | d::ds,e::c=>if eqD d e=true then ahs ds c else ah d e
 | _,_=>false
end
def qE (x:Str):sortS x<2:=by unfold sortS;split <;> lia
mutual
theorem CD:∀(d e:D) (s t:List M),Fl d->Fl e->lexK (key d++s) (key e++t)=if eqD d e=true then lexK s t else ah d e
 | .str x,.str y,s,t,_,_=>by
  have g:eqD (.str x) (.str y)=(x == y):=rfl;show(if ((sortS x,x,0):M)=(sortS y,y,0)then lexK s t else ltM (sortS x,x,0) (sortS y,y,0))=_;rw[g];by_cases e:x=y
  ·subst e;rw[ai rfl,ai dl]
  ·rw[ab (λz=>e (by simp at z;exact z.2)),ab (by simpa using e),ah];unfold ltM;dsimp only;by_cases h:sortS x=sortS y
   ·rw[ai h,ab e,ai h]
   ·rw[ab h,ab h]
 | .str x,.tup (.str m::c),s,t,_,_=>by
  have g:eqD (.str x) (.tup (.str m::c))=false:=rfl;have:=qE x;show(if ((sortS x,x,0):M)=(2,m,c.length+1)then _ else ltM (sortS x,x,0) (2,m,c.length+1))=_;rw[g,ab (λz=>by simp at z),ab ad,ah]
  ·unfold ltM;rw[ab (by dsimp only;lia)];rfl
  all_goals (intros;simp_all)
 | .tup (.str n::ds),.str y,s,t,_,_=>by
  have g:eqD (.tup (.str n::ds)) (.str y)=false:=rfl;have:=qE y;show(if ((2,n,ds.length+1):M)=(sortS y,y,0)then _ else ltM (2,n,ds.length+1) (sortS y,y,0))=_;rw[g,ab (λz=>by simp at z),ab ad,ah]
  ·unfold ltM;rw[ab (by dsimp only;lia)];rfl
  all_goals (intros;simp_all)
 | .tup (.str n::ds),.tup (.str m::c),s,t,o,l=>by
  have g:eqD (.tup (.str n::ds)) (.tup (.str m::c))=((n == m) && eqDs ds c):=rfl;show(if ((2,n,ds.length+1):M)=(2,m,c.length+1)then lexK (keys ds++s) (keys c++t)else ltM (2,n,ds.length+1) (2,m,c.length+1))=_;rw[g,ah];by_cases j:n=m
  ·subst j;by_cases i:ds.length=c.length
   ·rw[ai (by rw[i]),ai rfl,ai i,EV ds c s t i o l];simp
   ·rw[ab (λz=>i (by simp at z;lia)),ai rfl,ab i];have:eqDs ds c=false:=by
     cases h:eqDs ds c with
     | false=>rfl
     | true=>rw[iT]at h;simp at h;exact absurd h.2 i
    rw[this,ab dl];unfold ltM;dsimp only;rw[ai rfl,ai rfl];simp
  ·rw[ab (λz=>j (by simp at z;exact z.1)),ab (by simp[j]),ab j];unfold ltM;dsimp only;rw[ai rfl,ab j]
theorem EV:∀(ds c:List D) (s t:List M),ds.length=c.length->Fls ds->Fls c->lexK (keys ds++s) (keys c++t)=if eqDs ds c=true then lexK s t else ahs ds c
 | [],[],s,t,_,_,_=>by rw[eqDs,ai rfl];rfl
 | d::ds,e::c,s,t,g,⟨f1,f2⟩,⟨j,i⟩=>by
  rw[keys,keys,cq,cq,CD d e _ _ f1 j,EV ds c s t (by simpa using g) f2 i,eqDs,ahs];by_cases h:eqD d e=true
  ·rw[ai h,ai h,h,Bool.true_and]
  ·have h':eqD d e=false:=by simpa using h
   rw[ab h,ab h,h',Bool.false_and,ab ad]
 | [],_::_,_,_,h,_,_=>by simp at h
 | _::_,[],_,_,h,_,_=>by simp at h
end
def wU (g:Fl d)(c:Fl e):lexK (key d) (key e)=(!eqD d e && ah d e):=by have:=CD d e [] [] g c;rw[bp,bp]at this;rw[this];cases h:eqD d e <;> simp[lexK]
def SB (g:Fl d)(c:Fl e)(h:key d=key e):eqD d e=true:=by
 have a:=wU g c;have b:=CD d e [] [(0,default,0)] g c;rw[bp,h]at b;cases q:eqD d e with
 | true=>rfl
 | false =>
  rw[q,ab ad]at b;rw[q,h,qW,←b]at a;have:∀(s:List M) (m:M),lexK s (s++[m])=true:=by
   intro s m
   induction s with
   | nil=>rfl
   | cons a s i=>rw[List.cons_append,lexK,ai rfl,i]
  rw[this]at a;cases a
section
variable {P:dw}{w:dy}{K:dq}{mg:jS}{base:Heap}
def CJ (h:H a=some (.tup xs)):isV H (.ref a) (.ty "tuple")=some true:=by unfold isV tyN;simp only[h];rfl
def BB:Sp:=λvs H Q _=>∃(d:D) (v:V),vs=[v]/\aY H d v/\Fl d/\Q (.int (sortD d)) H
def RN (F:fV K "_law_sort" "_law_sort" j4 f fd)(T:Txt mg):cH P w K mg base bU 1 f fd uG BB:=by
 refine F.ok BG (λvs H Q E h=>?_) (λo A outer s H vs Q E i h=>?_)
 ·obtain⟨d,v,rfl,_⟩:=h;rfl
 ·obtain⟨d,v,rfl,rep,fl,q⟩:=h;have g:=i.units
  refine⟨_,(aE (bQ (aT K rfl (aZ aK T.n_isinstance (aA (pv 0) (aA (cF (v:=V.ty "tuple") rfl T.n_tuple rfl rfl) aB))) (λ_=>rfl)) (aG (aL aJ)) aO)
   (aG (aL (cB tG rfl T.n_int rfl (aA (dY (eZ g) (cA dM (pv 0) aJ (λ_ _=>rfl)) iE) aB))))),?_⟩
  try dsimp only[cxOf,Cx.nox]
  simp only[uN];clear i F T g;have keep:=aI q (aI rep fl);clear q rep fl
  walk_at "rd"
  obtain⟨q,rep,fl⟩:=keep;cases d with
  | str x =>
   cases (show v = .str x from rep);obtain⟨f1,f2⟩:=(show 1<=x.cps.toList.length/\x.cps.toList.length<=20 from by unfold Fl at fl;exact fl)
   obtain⟨c,hc⟩:∃c,x.cps.toList[0]?=some c:=⟨_,ay dk⟩
   refine⟨false,rfl,?_⟩;rw[ab ad];refine⟨.str ⟨#[c]⟩,?_,?_⟩
   ·show(if x.length<=sizeLine then(atI x.cps.toList 0).map λc=>V.str ⟨#[c]⟩else none)=_;rw[ai (ao (m:=20) (by simpa [Str.length] using f2) ad),kT ad dk,show(0:Int).toNat=0 from rfl,hc];rfl
   ·rw[rNeD_ss];refine⟨_,rfl,?_⟩;have e:(if (!decide ((⟨#[c]⟩:Str)=Str.ofString "?"))=true then(1:Int)else 0)=((sortD (.str x):Nat):Int):=by
     show _=((sortS x:Nat):Int);unfold sortS;rw[hc];have j:Str.ofString "?" = ⟨#[63]⟩:=by decide +kernel
     by_cases z:c=63
     ·subst z;rw[j];simp
     ·have:¬((⟨#[c]⟩:Str)=Str.ofString "?"):=λw=>by rw[j]at w;simp at w;exact z w
      simp[this,z]
    rw[e];exact q
  | tup ds =>
   obtain⟨a,vs,rfl,l,_⟩:=rep;refine⟨true,?_,?_⟩
   ·exact CJ l
   ·rw[ai rfl];exact q
  | _=>unfold Fl at fl;exact absurd fl id
def lZ (n:Nat):Sp:=λvs H Q _=>∃(d e:D) (v u:V),vs=[v,u]/\aY H d v/\aY H e u/\Fl d/\Fl e/\depD d<=n/\depD d<=50/\∀H',aF H H'->Q (.bl (ah d e)) H'
def LS {g:TG}{o:TS}{D:jV}{c:St}{H:Hp}{a b:Addr}(xs ys:List V)(Pv:Nat->St->Hp->Prop)(C:Pv 0 c H)(A:∀i c H,i<=min xs.length ys.length->Pv i c H->fB H a xs/\fB H b ys)
  (w:∀i x y T c H,xs[i]?=some x->ys[i]?=some y->Pv i c H->H T=none->g (.ref T) c (upd H T (.tup [x,y])) λh E=>o {D with nx:=Pv (i+1),ct:=Pv (i+1),bk:=D.nx} h E)
  (hd:∀c H,Pv (min xs.length ys.length) c H->D.nx c H):uU (WK a b) g o D c H:=by
 refine⟨λi m c H=>m=min xs.length ys.length - i/\i<=min xs.length ys.length/\Pv i c H,⟨min xs.length ys.length,dl,aw _,C⟩,?_⟩;rintro i m c H ⟨rfl,hi,p⟩;obtain⟨l,j⟩:=A i c H hi p;by_cases d:i<min xs.length ys.length
 ·have v:i<xs.length:=bg d (Nat.min_le_left _ _);have u:i<ys.length:=bg d (Nat.min_le_right _ _);refine .inr ⟨⟨xs,ys,xs[i],ys[i],l,j,by simp[v],by simp[u]⟩,Pv (i+1),λr H' q=>⟨min xs.length ys.length - (i+1),dk,rfl,d,q⟩,λz H' y=>?_⟩;obtain⟨T,x,y,rfl,B,rfl,q⟩:=y;obtain⟨t,s⟩:=q xs ys l j;exact w i x y T c H t s p B
 ·have e:i=min xs.length ys.length:=by lia
  subst e;exact .inl ⟨⟨xs,ys,l,j,dk⟩,hd c H p⟩
theorem Reps.get:∀{ds:List D} {vs:List V} {i:Nat} {v:V},Reps H ds vs->vs[i]?=some v->∃d,ds[i]?=some d/\aY H d v
 | [],_,_,_,e,h=>by cases e;simp at h
 | d::_,_,0,_,⟨x,r,e,a,b⟩,h=>by subst e;simp at h;subst h;exact⟨d,rfl,a⟩
 | _::_,_,i+1,_,⟨x,r,e,a,b⟩,h=>by subst e;simp at h;obtain⟨d,g,c⟩:=Reps.get b h;exact⟨d,by simpa using g,c⟩
def Fls.get:∀{ds:List D} {i:Nat} {d:D},Fls ds->ds[i]?=some d->Fl d
 | [],_,_,_,z=>by simp at z
 | _::_,0,_,⟨a,_⟩,h=>by simp at h;subst h;exact a
 | _::_,i+1,_,⟨_,b⟩,h=>Fls.get b (by simpa using h)
def iU:∀{ds:List D} {i:Nat} {d:D},ds[i]?=some d->depD d<=depDs ds
 | [],_,_,h=>by simp at h
 | e::ds,0,_,h=>by simp at h;subst h;rw[depDs];lia
 | e::ds,i+1,_,h=>by have:=iU (ds:=ds) (i:=i) (by simpa using h);rw[depDs];lia
def E8 {c:Type}{l:List c}{i:Nat}{x:c}(h:l[i]?=some x):l.drop i=x::l.drop (i+1):=by have⟨hi,e⟩:=cs.mp h;rw[List.drop_eq_getElem_cons hi,e]
def ZI (e g:Addr)(ds c:List D)(H:Hp)(i:Nat)(d:St)(j:Hp):Prop:=∃o2 h:Option V,d=[some (.ref e),some (.ref g),o2,h]/\aF H j/\ahs ds c=ahs (ds.drop i) (c.drop i)
def jN (h:Fl d):(∃x,d = .str x/\1<=x.cps.toList.length/\x.cps.toList.length<=20)\/∃n ds,d = .tup (.str n::ds)/\Fls ds:=by
 unfold Fl at h;split at h
 ·exact .inl ⟨_,rfl,h⟩
 ·exact .inr ⟨_,_,rfl,h⟩
 ·exact absurd h id
def TB (hd:Fl d)(c:Fl e)(n:sortD d≠sortD e):ah d e=decide (sortD d<sortD e):=by
 rcases jN hd with⟨x,rfl,_⟩|⟨a,ds,rfl,_⟩ <;> rcases jN c with⟨y,rfl,_⟩|⟨b,g,rfl,_⟩
 ·rw[ah];exact ab n
 ·rw[ah]
  all_goals (intros;simp_all)
 ·rw[ah]
  all_goals (intros;simp_all)
 ·exact absurd rfl n
def N8 (n:Nat)(F:fV K "_law_ahead" "_law_ahead" fH f fd)(T:Txt mg)(g:dS P w K mg base bU 1 "_law_sort" BB)
  (p:dS P w K mg base bU (n+1) "_law_ahead" (λvs H Q E=>∃m,m<n/\lZ m vs H Q E)):cH P w K mg base bU (n+2) f fd hU (lZ n):=by
 refine F.ok oR (λvs H Q E h=>?_) (λcdv A outer s H vs Q E J h=>?_)
 ·obtain⟨d,e,v,u,rfl,_⟩:=h;rfl
 ·obtain⟨d,e,v,u,rfl,r1,r2,f1,f2,dn,d50,q⟩:=h;have C:=J.units
  refine⟨_,(aE (bQ (aR (eZ C) (eE g (J.mono dk) pass0 rfl (aA (pv 0) aB)) (eE g (J.mono dk) pass0 rfl (aA (pv 1) aB))) (aG (aL (dY (kQ C) (eE g (J.mono dk) pass0 rfl (aA (pv 0) aB)) (eE g (J.mono dk) pass0 rfl (aA (pv 1) aB))))) aO)
   (aE (bQ (cZ (aT K rfl (aZ aK T.n_isinstance (aA (pv 0) (aA (cF (v:=V.ty "tuple") rfl T.n_tuple rfl rfl) aB))) (λ_=>rfl))) (aG (aL (dY (kQ C) (pv 0) (pv 1)))) aO)
   (aE (bQ (aR (eZ C) (cA dM (pv 0) aJ (λ_ _=>rfl)) (cA dM (pv 1) aJ (λ_ _=>rfl))) (aG (aL (dY (kQ C) (cA dM (pv 0) aJ (λ_ _=>rfl)) (cA dM (pv 1) aJ (λ_ _=>rfl))))) aO)
   (aE (bQ (aR (eZ C) (aZ bV T.n_len (aA (pv 0) aB)) (aZ bV T.n_len (aA (pv 1) aB))) (aG (aL (dY (kQ C) (aZ bV T.n_len (aA (pv 0) aB)) (aZ bV T.n_len (aA (pv 1) aB))))) aO)
   (aE (eT dj rfl (QZ rfl T.n_zip (aA (fS l7 (pv 0) (eV aJ) gB) (aA (fS l7 (pv 1) (eV aJ) gB) aB))) (cT K rfl (i:=2) (j:=3) rfl oR.nd rfl rfl rfl rfl) (aG (bQ (aR (eZ C) (pv 2) (pv 3)) (aG (aL (eE p (J.mono dk) pass0 rfl (aA (pv 2) (aA (pv 3) aB))))) aO)))
   (aG (aL oS))))))),?_⟩
  try dsimp only[cxOf,Cx.nox]
  clear J F T C g p;simp only[tFor_fn,tComp_fn];have ib:∀{i j:Nat},decide ((i:Int)<(j:Int))=decide (i<j):=λ{i j}=>by
   by_cases z:i<j
   ·rw[bi z,bi dk]
   ·rw[bo z,bo dk]
  have q0:=q H (λ_ _ h=>h);refine⟨_,rfl,d,v,rfl,r1,f1,_,rfl,e,u,rfl,r2,f2,Eq.mpr rNeD_ii ⟨_,rfl,ite_on (λhc=>?_) λhc=>?_⟩⟩
  ·rw[TB f1 f2 (λz=>by rw[z]at hc;simp at hc),←ib]at q0;exact⟨_,rfl,d,v,rfl,r1,f1,_,rfl,e,u,rfl,r2,f2,.inl (.inl ⟨_,_,rfl,rfl,q0⟩)⟩
  have hs:sortD d=sortD e:=by
   simp at hc
   lia
  clear hc;rcases jN f1 with⟨x,rfl,_⟩|⟨a,ds,rfl,fds⟩
  ·obtain⟨y,rfl,_⟩:∃y,e = .str y/\True:=by
    rcases jN f2 with⟨y,rfl,_⟩|⟨b,B,rfl,_⟩
    ·exact⟨y,rfl,trivial⟩
    ·have:=qE x;have:sortS x=2:=hs;lia
   cases (show v = .str x from r1);cases (show u = .str y from r2);rw[show ah (.str x) (.str y)=sL x y by rw[ah];exact ai hs]at q0;exact⟨_,rfl,_,_,false,rfl,rfl,_,rfl,ite_on (λ_=>⟨_,rfl,_,rfl,.inl (.inr ⟨x,y,rfl,rfl,q0⟩)⟩) λz=>Bool.noConfusion z⟩
  obtain⟨b,B,rfl,fes⟩:∃b B,e = .tup (.str b::B)/\Fls B:=by
   rcases jN f2 with⟨y,rfl,_⟩|h
   ·have:=qE y;have:2=sortS y:=hs;lia
   ·exact h
  obtain⟨va,vs,rfl,Z,_,t,rfl,h1,U⟩:=r1;obtain⟨R,us,rfl,hb,_,r,rfl,h2,res⟩:=r2;cases h1;cases h2;have i1:ixV H (.ref va) (.int 0)=some (.str a):=by rw[ixV_t Z,atI_zero]
  have i2:ixV H (.ref R) (.int 0)=some (.str b):=by rw[ixV_t hb,atI_zero]
  refine⟨_,rfl,_,_,true,rfl,CJ Z,_,rfl,ite_on (λz=>Bool.noConfusion z) λ_=>⟨_,rfl,_,i1,_,rfl,_,i2,Eq.mpr rNeD_ss ⟨_,rfl,ite_on (λhc=>?_) λhc=>?_⟩⟩⟩
  ·rw[show ah (.tup (.str a::ds)) (.tup (.str b::B))=sL a b by rw[ah,ab (λz=>by rw[z]at hc;simp at hc)]]at q0;exact⟨_,rfl,_,i1,_,rfl,_,i2,.inl (.inr ⟨a,b,rfl,rfl,q0⟩)⟩
  obtain rfl:a=b:=by simpa using hc
  clear hc i1 i2;have la:=Reps.len U;have lb:=Reps.len res
  have n1:Option.map (λn:Int=>V.int n) (do
    let a ←lenV H (.ref va)
    pure (a:Int))=some (.int ((ds.length+1:Nat):Int)):=by rw[lenV_t Z,←la];rfl
  have n2:Option.map (λn:Int=>V.int n) (do
    let a ←lenV H (.ref R)
    pure (a:Int))=some (.int ((B.length+1:Nat):Int)):=by rw[lenV_t hb,←lb];rfl
  refine⟨_,rfl,_,_,rfl,n1,_,rfl,_,_,rfl,n2,Eq.mpr rNeD_ii ⟨_,rfl,ite_on (λhc=>?_) λhc=>?_⟩⟩
  ·rw[show ah (.tup (.str a::ds)) (.tup (.str a::B))=decide (ds.length+1<B.length+1)by
    rw[ah,ai rfl,ab (λz=>by rw[z]at hc;simp at hc)]
    simp,←ib]at q0
   exact⟨_,rfl,_,_,rfl,n1,_,rfl,_,_,rfl,n2,.inl (.inl ⟨_,_,rfl,rfl,q0⟩)⟩
  have hl:ds.length=B.length:=by
   simp at hc
   lia
  clear hc n1 n2 ib q0;have G:∀(x:V) (l:List V),cutV (x::l) (some 1) none=l:=λx l=>xK (x::l) 1;have nf:∀(x:V) (l:List V),¬(HT.sIx (x::l).length 0 (some 1)=0/\HT.sIx (x::l).length (x::l).length none=(x::l).length):=λx l h=>by
   have e:=h.1;rw[show((1:Int))=((1:Nat):Int)from rfl,HT.sIx_nat]at e;simp only[aq]at e
   lia
  refine⟨_,rfl,_,rfl,va,_,rfl,.inr Z,λ_=>nf _ _,λc o hc ho=>⟨_,rfl,_,rfl,R,_,rfl,.inr (by rw[aC (aD hb hc)];exact hb),λ_=>nf _ _,λO o2 Y ho2=>?_⟩⟩;have hb':upd H c o R=some (.tup (.str a::r)):=by rw[aC (aD hb hc)];exact hb
  have eo:o = .tup t:=by
   rcases ho with⟨_,z⟩|⟨z,_⟩
   ·rw[Z]at z;cases z
   ·rw[z,G]
  have eo2:o2 = .tup r:=by
   rcases ho2 with⟨_,z⟩|⟨z,_⟩
   ·rw[hb']at z;cases z
   ·rw[z,G]
  subst eo eo2;have s2:aF H (upd (upd H c (.tup t)) O (.tup r)):=(aF.upd hc).trans (aF.upd Y);have g1:upd (upd H c (.tup t)) O (.tup r) c=some (.tup t):=by rw[aC (aD ec Y)];exact ec
  have g2:upd (upd H c (.tup t)) O (.tup r) O=some (.tup r):=ec;generalize upd (upd H c (.tup t)) O (.tup r)=H2 at s2 g1 g2⊢;have e1:ah (.tup (.str a::ds)) (.tup (.str a::B))=ahs ds B:=by rw[ah,ai rfl,ai hl]
  rw[e1]at q;have dd:depDs ds+1<=n/\depDs ds+1<=50:=by
   rw[depD,depDs,show depD (.str a)=0 from rfl]at dn d50
   lia
  refine⟨c,O,t,r,rfl,.inr g1,.inr g2,LS t r (ZI va R ds B H2) ⟨none,none,rfl,λ_ _ h=>h,dl⟩ (λi σ H3 _ ⟨_,_,_,I,_⟩=>⟨.inr (I _ _ g1),.inr (I _ _ g2)⟩) ?_ ?_⟩
  ·rintro i x y T σ H3 hx hy ⟨o2,o3,rfl,I,L⟩ hT;have s4:=(s2.trans I).trans (aF.upd (o:=.tup [x,y]) hT);obtain⟨di,N,W⟩:=Reps.get (Reps.same s4 U) hx;obtain⟨ei,X,S⟩:=Reps.get (Reps.same s4 res) hy;have ddi:=iU N;rw[E8 N,E8 X,ahs]at L;refine⟨T,_,rfl,iF.of ec,rfl,_,_,rfl,_,_,rfl,rfl,_,rfl,_,rfl,di,ei,W,S,dk,_,rfl,ite_on (λhc=>?_) λhc=>?_⟩
   ·rw[ab (by simpa using hc)]at L;refine⟨_,rfl,_,rfl,n - 1,dk,di,ei,x,y,rfl,W,S,fds.get N,fes.get X,dk,dk,λH5 s5=>?_⟩;have:=q H5 (s4.trans s5);rw[L]at this;exact this
   ·rw[ai (by simpa using hc)]at L;exact⟨_,_,rfl,I.trans (aF.upd hT),L⟩
  ·rintro σ H3 ⟨o2,o3,rfl,I,L⟩;have:ahs ds B=false:=by rw[L,List.drop_eq_nil_of_le (by rw[la,lb,hl];simp)];rfl
   rw[this]at q;exact q H3 (s2.trans I)
def O5 (F:fV K "_law_ahead" "_law_ahead" fH f fd)(T:Txt mg)(c:dS P w K mg base bU 1 "_law_sort" BB)
  (j:mg "_law_ahead" = some (.ref f)) (l:PySem.W.keepIn K (.ref f)=true) (hb:eW K fd hU []):∀n,cH P w K mg base bU (n+2) f fd hU (lZ n):=by
 intro n
 induction n using Nat.strongRecOn with
 | ind n e =>
  exact N8 n F T c ⟨f,fd,_,⟨λvs H Q E ⟨m,d,h⟩=>(e m d).len vs H Q E h,λA outer s H args us vs Q E i o hb g ⟨m,d,h⟩=>((e m d).mono dk).run A outer s H args us vs Q E i o hb g h⟩,j,l,hb⟩
def KQ (F:fV K "_law_ahead" "_law_ahead" fH f fd)(T:Txt mg)(c:dS P w K mg base bU 1 "_law_sort" BB)
  (d:mg "_law_ahead" = some (.ref f)) (e:PySem.W.keepIn K (.ref f)=true) (hb:eW K fd hU []) (n:Nat):dS P w K mg base bU (n+2) "_law_ahead" (lZ n):=⟨f,fd,_,O5 F T c d e hb n,d,e,hb⟩
noncomputable def opn1 (n z:Str)(d:D):List D:=match d with
 | .tup (.str m::c)=>if m=n then c else [d]
 | d=>if eqD d (.str z)=true then []else [d]
noncomputable def opn (n z:Str)(ds:List D):List D:=ds.flatMap (opn1 n z)
def iR (n z:Str)(ds:List D)(d:D):opn n z (ds++[d])=opn n z ds++opn1 n z d:=by simp[opn]
def Reps.app:∀{ds c:List D} {vs us:List V},Reps H ds vs->Reps H c us->Reps H (ds++c) (vs++us)
 | [],_,_,_,h,k=>by cases h;exact k
 | _::_,_,_,_,⟨x,r,e,a,b⟩,k=>by subst e;exact⟨x,_,rfl,a,Reps.app b k⟩
def qB:Sp:=λvs H Q _=>∃(n z:Str) (a:Addr) (ds:List D) (ws:List V),vs=[.str n,.str z,.ref a]/\H a=some (.lst ws)/\Reps H ds ws/\Fls ds/\(∀i,(opn n z (ds.take i)).length<=100)/\depDs ds<=50 /\
 ∀(l:Addr) (us:List V) (H':Hp),aF H H'->H l=none->H' l=some (.lst us)->Reps H (opn n z ds) us->Q (.ref l) H'
def OI (n z:Str)(a:Addr)(ds:List D)(H:Hp)(i:Nat)(d:St)(c:Hp):Prop:=∃(e:Option V) (l:Addr) (us:List V),d=[some (.str n),some (.str z),some (.ref a),some (.ref l),e]/\aF H c/\H l=none/\c l=some (.lst us)/\Reps H (opn n z (ds.take i)) us
def KY (F:fV K "_law_opened" "_law_opened" iL f fd)(T:Txt mg):cH P w K mg base bU 1 f fd oZ qB:=by
 refine F.ok gM (λvs H Q E h=>?_) (λcdv A outer s H vs Q E hr h=>?_)
 ·obtain⟨n,z,a,ds,ws,rfl,_⟩:=h;rfl
 ·obtain⟨n,z,a,ds,ws,rfl,O,G,fl,L,dep,q⟩:=h;have hu:=hr.units
  refine⟨_,(aE (bP 3 gM.nd (cQ aB))
   (aE (eT dj rfl (dF K rfl (pv 2)) (h8 4 gM.nd) (aG (bQ (PW.pt (wE (aT K rfl (aZ aK T.n_isinstance (aA (pv 4) (aA (cF (v:=V.ty "tuple") rfl T.n_tuple rfl rfl) aB))) (λ_=>rfl)) (qO (aR (eF hu) (cA dM (pv 4) aJ (λ_ _=>rfl)) (pv 0))))) (aG (bP 3 gM.nd (bW bZ (pv 3) (cB xP rfl T.n_list rfl (aA (fS l7 (pv 4) (eV aJ) gB) aB))))) (aG (bQ (aR (eZ hu) (pv 4) (pv 1)) (aG (cW (j8 df dh dg gH (pv 3) (aA (pv 4) aB)))) aO)))))
   (aG (aL (pv 3))))),?_⟩
  try dsimp only[cxOf,Cx.nox]
  clear hr F T hu;simp only[tFor_fn,tComp_fn];refine⟨aw _,λl X=>⟨_,rfl,a,ws,rfl,.inl (by rw[aC (aD O X)];exact O),λJ hJ=>?_⟩⟩;have la:=Reps.len G;refine kL hJ (OI n z a ds H) ⟨none,l,[],rfl,aF.upd X,X,ec,rfl⟩ (by rintro i σ H' _ ⟨_,_,_,_,t,_⟩;rw[t _ _ O,aC (aD O X),O]) ?_ ?_
  ·rintro i x σ B hx ⟨o4,l,us,rfl,t,nl,j,p⟩;obtain⟨d,hd,W⟩:=Reps.get G hx;have fd:=fl.get hd;have key:=L (i+1);rw[ee hd,iR,au]at key;have lu:=Reps.len p;have app:∀U,aF B U->U l=some (.lst us)->(opn1 n z d=[d])->OI n z a ds H (i+1) [some (.str n),some (.str z),some (.ref a),some (.ref l),some x] (upd U l (.lst (us++[x]))):=λU s2 hl2 u=>by refine⟨_,l,us++[x],rfl,λb o e=>?_,nl,ec,by rw[ee hd,iR,u];exact Reps.app p ⟨x,[],rfl,W,rfl⟩⟩;rw[aC (λw=>by rw[w,nl]at e;cases e)];exact s2 _ _ (t _ _ e)
   have rd1:=aY.same t W;have ddi:=iU hd;rcases jN fd with⟨y,rfl,_⟩|⟨m,R,rfl,fes⟩
   ·cases (show x = .str y from W);refine⟨_,rfl,.str y,.ty "tuple",false,rfl,rfl,false,rfl,_,rfl,_,rfl,.str y,.str z,rfl,rfl,aw _,_,rfl,ite_on (λe=>?_) (λe=>?_)⟩
    ·have u:opn1 n z (.str y)=[.str y]:=ab λc=>by rw[c]at e;cases e
     exact⟨_,rfl,tyL j,_,rfl,l,us,_,rfl,rfl,j,aj (m:=100) dk ad,app B (λ_ _ h=>h) j u⟩
    ·have u:opn1 n z (.str y)=[]:=ai (by cases c:eqD (.str y) (.str z)with|true=>rfl|false=>rw[c]at e;cases e);exact⟨_,l,us,rfl,t,nl,j,by rw[ee hd,iR,u,bp];exact p⟩
   ·obtain⟨Z,vs,rfl,r,_,g,rfl,h1,res⟩:=rd1;cases h1;refine⟨_,rfl,.ref Z,.ty "tuple",true,rfl,CJ r,true,rfl,_,rfl,.str m,by rw[ixV_t r,atI_zero],_,rfl,.str m,.str n,rfl,rfl,aw _,_,rfl,ite_on (λe=>?_) (λe=>?_)⟩
    ·have e:m=n:=by simpa [eqD] using e
     have u:opn1 n z (.tup (.str m::R))=R:=by unfold opn1;exact ai e
     rw[u]at key;have S:∀(x:V) (l:List V),cutV (x::l) (some 1) none=l:=λx l=>xK (x::l) 1;have nf:¬(HT.sIx (V.str m::g).length 0 (some 1)=0/\HT.sIx (V.str m::g).length (V.str m::g).length none=(V.str m::g).length):=λh=>by
      have e:=h.1;rw[show((1:Int))=((1:Nat):Int)from rfl,HT.sIx_nat]at e;simp only[aq]at e
      lia
     refine⟨_,rfl,_,rfl,1,rfl,Z,_,rfl,.inr r,λ_=>nf,λc o hc ho=>?_⟩;have eo:o = .tup g:=by
      rcases ho with⟨_,w⟩|⟨w,_⟩
      ·rw[r]at w;cases w
      ·rw[w,S]
     subst eo;refine⟨_,g,rfl,by rw[seqV_t ec],λY hc2=>?_⟩;have s2:aF B (upd (upd B c (.tup g)) Y (.lst g)):=(aF.upd hc).trans (aF.upd hc2);have g2:upd (upd B c (.tup g)) Y (.lst g) Y=some (.lst g):=ec;generalize upd (upd B c (.tup g)) Y (.lst g)=U at s2 g2⊢;have lv:=Reps.len res;refine .inr ⟨.lst (us++g),?_,λc3 N=>⟨_,c3,us++g,rfl,(t.trans s2).trans (aF.upd N),?_,ec,?_⟩⟩
     ·simp only[catO,s2 _ _ j,g2];exact ai (ao (m:=100) dk ad)
     ·cases e:H c3 with
      | none=>rfl
      | some w=>have:=(t.trans s2) _ _ e;rw[N]at this;cases this
     ·rw[ee hd,iR,u];obtain⟨va',vs2,e2,I,v0,vs3,e3,e4,C⟩:=W;cases e2;rw[t _ _ I]at r;cases r;cases e3;exact Reps.app p C
    ·have u:opn1 n z (.tup (.str m::R))=[.tup (.str m::R)]:=ab λc=>by subst c;rw[dQ]at e;cases e
     exact⟨_,rfl,_,rfl,.tup (.str m::R),.str z,⟨Z,_,rfl,r,_,_,rfl,rfl,res⟩,rfl,dk,_,rfl,_,rfl,tyL j,_,rfl,l,us,_,rfl,rfl,j,aj (m:=100) dk ad,app B (λ_ _ h=>h) j u⟩
  ·rintro σ B ⟨o4,l,us,rfl,t,nl,j,p⟩;rw[la,bw]at p;exact⟨_,rfl,q l us B t nl j p⟩
def IsTms.get {c:cU}{sm:cC}{os:aV}:∀{ds:List D} {i:Nat} {d:D},IsTms c sm os ds->ds[i]?=some d->aS c sm os d
 | [],_,_,_,z=>by simp at z
 | _::_,0,_,⟨a,_⟩,h=>by simp at h;subst h;exact a
 | _::_,i+1,_,⟨_,b⟩,h=>IsTms.get b (by simpa using h)
def FZ {c:cU}{sm:cC}{os:aV}{d:D}(h:aS c sm os d):(∃x,d = .str x/\(x∈os\/x∈zeros c))\/∃n ds,(d = .tup (.str n::ds)\/d = .lst (.str n::ds))/\C9 c sm n ds.length/\IsTms c sm os ds:=by
 unfold aS at h;split at h
 ·exact .inl ⟨_,rfl,h⟩
 ·exact .inr ⟨_,_,.inl rfl,h⟩
 ·exact .inr ⟨_,_,.inr rfl,h⟩
 ·exact absurd h id
def pN (h:C9 fx sm n k):1<=k:=by rcases h with⟨h,_⟩|⟨h,_⟩ <;> lia
def nN (h:H a=some (.tup xs)):isV H (.ref a) (.ty "str")=some false:=by unfold isV tyN;simp only[h];rfl
def sY (h:H a=some (.lst xs)):isV H (.ref a) (.ty "str")=some false:=by unfold isV tyN;simp only[h];rfl
def B5:∀{ds:List D} {i:Nat} {d:D},ds[i]?=some d->lvs d<=lvss ds
 | [],_,_,h=>by simp at h
 | e::ds,0,_,h=>by simp at h;subst h;rw[lvss];lia
 | e::ds,i+1,_,h=>by have:=B5 (ds:=ds) (i:=i) (by simpa using h);rw[lvss];lia
mutual
theorem FY {c:cU}{sm:cC}{os:aV}:∀{d:D},aS c sm os d->1<=lvs d
 | .str x,_=>by rw[lvs] <;> simp
 | .tup (.str n::ds),h=>by
  unfold aS at h;have:=oB h.2;have:=pN h.1;rw[lvs];lia
 | .lst (.str n::ds),h=>by
  unfold aS at h;have:=oB h.2;have:=pN h.1;rw[lvs];lia
 | .non,h=>by unfold aS at h;exact absurd h id
 | .bl _,h=>by unfold aS at h;exact absurd h id
 | .int _,h=>by unfold aS at h;exact absurd h id
 | .tup [],h=>by unfold aS at h;exact absurd h id
 | .lst [],h=>by unfold aS at h;exact absurd h id
 | .tup (.non::_),h=>by unfold aS at h;exact absurd h id
 | .tup (.bl _::_),h=>by unfold aS at h;exact absurd h id
 | .tup (.int _::_),h=>by unfold aS at h;exact absurd h id
 | .tup (.tup _::_),h=>by unfold aS at h;exact absurd h id
 | .tup (.lst _::_),h=>by unfold aS at h;exact absurd h id
 | .lst (.non::_),h=>by unfold aS at h;exact absurd h id
 | .lst (.bl _::_),h=>by unfold aS at h;exact absurd h id
 | .lst (.int _::_),h=>by unfold aS at h;exact absurd h id
 | .lst (.tup _::_),h=>by unfold aS at h;exact absurd h id
 | .lst (.lst _::_),h=>by unfold aS at h;exact absurd h id
theorem oB {c:cU}{sm:cC}{os:aV}:∀{ds:List D},IsTms c sm os ds->ds.length<=lvss ds
 | [],_=>aw _
 | d::ds,⟨a,b⟩=>by have g:=FY a;have e:=oB b;rw[lvss,aq];lia
end
end
mutual
theorem PC:∀{d e:D},Fl d->Fl e->eqD d e=true->d=e
 | .str x,.str y,_,_,h=>by
  have h:(x == y)=true:=h;rw[eq_of_beq h]
 | .tup (.str n::ds),.tup (.str m::i),g,c,h=>by
  have h:((n == m) && eqDs ds i)=true:=h;rw[Bool.and_eq_true]at h;unfold Fl at g c;rw[eq_of_beq h.1,O7 g c h.2]
 | .str _,.tup (.str _::_),_,_,h=>by cases (show false=true from h)
 | .tup (.str _::_),.str _,_,_,h=>by cases (show false=true from h)
theorem O7:∀{ds c:List D},Fls ds->Fls c->eqDs ds c=true->ds=c
 | [],[],_,_,_=>rfl
 | d::ds,e::c,⟨a,b⟩,⟨i,g⟩,h=>by
  rw[eqDs,Bool.and_eq_true]at h;rw[PC a i h.1,O7 b g h.2]
 | [],_::_,_,_,h=>by cases (show false=true from h)
 | _::_,[],_,_,h=>by cases (show false=true from h)
end
def VY (g:Fl d)(c:Fl e)(h:key d=key e):d=e:=PC g c (SB g c h)
def leK (d e:D):Prop:=lexK (key e) (key d)=false
def OO (j:Fl d)(i:Fl e)(g:leK d e)(c:leK e d):d=e:=by
 by_cases k:key d=key e
 ·exact VY j i k
 ·rcases pJ k with h|h
  ·rw[c]at h;cases h
  ·rw[g]at h;cases h
def wT:∀{a b c:List M},lexK a b=false->lexK b c=false->lexK a c=false:=by
 have d:∀{a b c:M},ltM a b=true->ltM b c=true->ltM a c=true:=by
  rintro⟨a1,a2,v⟩ ⟨b1,b2,u⟩ ⟨q,j,s⟩ h k;unfold ltM at h k⊢;dsimp only at h k⊢;by_cases g:a1=b1
  ·subst g;rw[ai rfl]at h;by_cases e:a1=q
   ·subst e;rw[ai rfl]at k⊢;by_cases f1:a2=b2
    ·subst f1;rw[ai rfl]at h;by_cases f2:a2=j
     ·subst f2;rw[ai rfl]at k⊢;have:=bu h;have:=bu k;exact bi (p:=_) dk
     ·rw[ab f2]at k⊢;exact k
    ·rw[ab f1]at h;by_cases f2:b2=j
     ·subst f2;rw[ab f1];exact h
     ·rw[ab f2]at k;have t:sL a2 j=true:=bi (List.lt_trans (bu h) (bu k));by_cases f3:a2=j
      ·subst f3;rw[UY]at t;cases t
      ·rw[ab f3];exact t
   ·rw[ab e]at k⊢;exact k
  ·rw[ab g]at h;have h:=bu h;by_cases e:b1=q
   ·subst e;rw[ab g];exact bi h
   ·rw[ab e]at k;have k:=bu k;rw[ab dk];exact bi (p:=_) dk
 intro a
 induction a with
 | nil =>
  intro b c h k;cases b with
  | nil=>exact k
  | cons y b=>cases h
 | cons x a r =>
  intro b c h k;cases c with
  | nil=>rfl
  | cons z c =>
   cases b with
   | nil=>cases k
   | cons y b =>
    rw[lexK]at h k⊢;by_cases g:x=y
    ·subst g;rw[ai rfl]at h;by_cases e:x=z
     ·rw[ai e]at k⊢;exact r h k
     ·rw[ab e]at k⊢;exact k
    ·rw[ab g]at h;have m:ltM y x=true:=(sS g).resolve_left (by rw[h];decide);by_cases e:y=z
     ·subst e;rw[ab g];exact h
     ·rw[ab e]at k;have l:ltM z y=true:=(sS e).resolve_left (by rw[k];decide);have i:=d l m;by_cases o:x=z
      ·subst o;have:=wQ i;rw[i]at this;cases this
      ·rw[ab o];exact wQ i
def LH (h:leK a b)(k:leK b c):leK a c:=wT k h
theorem jH:∀{l m:List D},(∀d∈l,Fl d)->l.Perm m->l.Pairwise leK->m.Pairwise leK->l=m
 | [],m,_,p,_,_=>(List.nil_perm.mp p).symm
 | a::l,[],_,p,_,_=>absurd (List.perm_nil.mp p) dl
 | a::l,b::m,f,p,s,t=>by
  have j:∀d∈b::m,Fl d:=λd hd=>f d (p.mem_iff.mpr hd);obtain⟨g,s2⟩:=List.pairwise_cons.mp s;obtain⟨t1,c⟩:=List.pairwise_cons.mp t;have e:a=b:=by
   have i:a∈b::m:=p.mem_iff.mp ax;have hb:b∈a::l:=p.mem_iff.mpr ax;obtain h|h:=cw.mp i
   ·exact h
   ·obtain k|k:=cw.mp hb
    ·exact k.symm
    ·exact OO (f a ax) (j b ax) (g b k) (t1 a h)
  subst e;rw[jH (λd hd=>f d (ba _ hd)) (List.perm_cons a |>.mp p) s2 c]
noncomputable def insA (d:D):List D->List D
 | []=>[d]
 | e::l=>if ah d e=true then d::e::l else e::insA d l
def oI (d:D):∀l:List D,(insA d l).Perm (d::l)
 | []=>.refl _
 | e::l=>by
  unfold insA;by_cases h:ah d e=true
  ·rw[ai h]
  ·rw[ab h];exact((oI d l).cons e).trans (.swap d e l)
def WB (g:Fl d)(c:Fl e):ah d e=true->lexK (key d) (key e)=true\/d=e:=λh=>by
 rw[wU g c,h];cases q:eqD d e with
 | false=>exact .inl rfl
 | true=>exact .inr (PC g c q)
theorem tW (g:Fl d):∀{l:List D},(∀e∈l,Fl e)->l.Pairwise leK->(insA d l).Pairwise leK
 | [],_,_=>List.pairwise_singleton _ _
 | e::l,f,s=>by
  obtain⟨i,s2⟩:=List.pairwise_cons.mp s;have j:=f e ax;unfold insA;by_cases h:ah d e=true
  ·rw[ai h];have m:leK d e:=by
    rcases WB g j h with q|q
    ·exact sU q
    ·subst q;exact qW _
   refine List.pairwise_cons.mpr ⟨λx c=>?_,s⟩;obtain k|k:=cw.mp c
   ·subst k;exact m
   ·exact LH m (i x k)
  ·rw[ab h];have p:leK e d:=by
    have:lexK (key d) (key e)=false:=by rw[wU g j];simp[h]
    exact this
   refine List.pairwise_cons.mpr ⟨λx c=>?_,tW g (λy o=>f y (ba _ o)) s2⟩;rcases cw.mp ((oI d l).mem_iff.mp c)with k|k
   ·subst k;exact p
   ·exact i x k
noncomputable def cJ (ds:List D):List D:=ds.foldl (λl d=>insA d l) []
noncomputable def zr (sm:cC)(n:Str):Option Str:=(sm.find? λr=>decide (r.1=n)).map (·.2)
noncomputable def one (n z:Str)(l:List D):D:=match l with
 | []=>.str z
 | [d]=>d
 | l=>.tup (.str n::l)
noncomputable def knot (sm:cC)(n:Str)(ps:List D):D:=match zr sm n with
 | none=>.tup (.str n::ps)
 | some z=>one n z (cJ (opn n z ps))
mutual
noncomputable def flt (sm:cC):D->D
 | .tup (.str n::ds)=>knot sm n (flts sm ds)
 | .lst (.str n::ds)=>knot sm n (flts sm ds)
 | d=>d
noncomputable def flts (sm:cC):List D->List D
 | []=>[]
 | d::ds=>flt sm d::flts sm ds
end
def iS (sm:cC):∀ds:List D,flts sm ds=ds.map (flt sm)
 | []=>rfl
 | d::ds=>by rw[flts,iS sm ds];rfl
def tV (ds:List D)(d:D):cJ (ds++[d])=insA d (cJ ds):=by simp[cJ]
def zY:∀(ds l:List D),(ds.foldl (λl d=>insA d l) l).Perm (ds++l)
 | [],l=>.refl _
 | d::ds,l=>(zY ds (insA d l)).trans (((oI d l).append_left ds).trans (List.perm_middle))
def aX (ds:List D):(cJ ds).Perm ds:=by have:=zY ds [];simpa [cJ] using this
mutual
noncomputable def sz:D->Nat
 | .tup (_::ds)=>max 1 (szs ds)
 | .lst (_::ds)=>max 1 (szs ds)
 | _=>1
noncomputable def szs:List D->Nat
 | []=>0
 | d::ds=>sz d+szs ds
end
def UV:∀d:D,1<=sz d:=by intro d;unfold sz;split <;> lia
def lX:∀ds:List D,ds.length<=szs ds
 | []=>ac _
 | d::ds=>by rw[szs,aq];have:=UV d;have:=lX ds;lia
def A9:∀ds c:List D,szs (ds++c)=szs ds+szs c
 | [],c=>by simp[szs]
 | d::ds,c=>by rw[List.cons_append,szs,A9 ds c,szs];lia
def MV (p:l.Perm m):szs l=szs m:=by
 induction p with
 | nil=>rfl
 | cons x _ c=>rw[szs,szs,c]
 | swap x y l=>rw[szs,szs,szs,szs];lia
 | trans _ _ a b=>exact a.trans b
def AF:∀ds c:List D,depDs (ds++c)=max (depDs ds) (depDs c)
 | [],c=>by simp[depDs]
 | d::ds,c=>by rw[List.cons_append,depDs,AF ds c,depDs,Nat.max_assoc]
def HZ (p:l.Perm m):depDs l=depDs m:=by
 induction p with
 | nil=>rfl
 | cons x _ c=>rw[depDs,depDs,c]
 | swap x y l=>rw[depDs,depDs,depDs,depDs,Nat.max_left_comm]
 | trans _ _ a b=>exact a.trans b
def Q9 (n z:Str)(d:D):szs (opn1 n z d)<=sz d:=by
 unfold opn1;split
 ·split
  ·rw[sz];lia
  ·rw[szs,szs];lia
 ·split
  ·rw[szs];lia
  ·rw[szs,szs];lia
def dI (n z:Str)(d:D)(ds:List D):opn n z (d::ds)=opn1 n z d++opn n z ds:=by simp[opn]
def wI (n z:Str):∀ds:List D,szs (opn n z ds)<=szs ds
 | []=>ac _
 | d::ds=>by rw[dI,A9,szs];have:=Q9 n z d;have:=wI n z ds;lia
def NW (n z:Str)(d:D):depDs (opn1 n z d)<=depD d:=by
 unfold opn1;split
 ·split
  ·rw[depD,depDs];lia
  ·rw[depDs,depDs];lia
 ·split
  ·rw[depDs];lia
  ·rw[depDs,depDs];lia
def BV (n z:Str):∀ds:List D,depDs (opn n z ds)<=depDs ds
 | []=>ac _
 | d::ds=>by rw[dI,AF,depDs];have:=NW n z d;have:=BV n z ds;lia
def VD (n z:Str)(l:List D):sz (one n z l)<=max 1 (szs l):=by
 unfold one;split
 ·show sz (.str z)<=_;unfold sz;lia
 ·rw[szs,szs];lia
 ·rw[sz];lia
def B9 (sm:cC)(n:Str)(ps:List D):sz (knot sm n ps)<=max 1 (szs ps):=by
 unfold knot;split
 ·rw[sz];lia
 ·rename_i z _;have c:=VD n z (cJ (opn n z ps));rw[MV (aX _)]at c;have d:=wI n z ps
  lia
def RI (n z:Str)(l:List D):depD (one n z l)<=depDs l+1:=by
 unfold one;split
 ·show(0:Nat)<=_;lia
 ·rw[depDs,depDs];lia
 ·rw[depD,depDs,show depD (.str n)=0 from rfl];lia
def wW (sm:cC)(n:Str)(ps:List D):depD (knot sm n ps)<=depDs ps+1:=by
 unfold knot;split
 ·rw[depD,depDs,show depD (.str n)=0 from rfl];lia
 ·rename_i z _;have c:=RI n z (cJ (opn n z ps));rw[HZ (aX _)]at c;have d:=BV n z ps
  lia
mutual
theorem HP (sm:cC):∀d:D,sz (flt sm d)<=sz d
 | .tup (.str n::ds)=>by rw[flt,sz];have:=B9 sm n (flts sm ds);have:=vG sm ds;lia
 | .lst (.str n::ds)=>by rw[flt,sz];have:=B9 sm n (flts sm ds);have:=vG sm ds;lia
 | .non | .bl _ | .int _ | .str _ | .tup [] | .lst [] | .tup (.non::_) | .tup (.bl _::_) | .tup (.int _::_) | .tup (.tup _::_) | .tup (.lst _::_) | .lst (.non::_) | .lst (.bl _::_) | .lst (.int _::_) | .lst (.tup _::_) | .lst (.lst _::_)=>by unfold flt;exact ac _
theorem vG (sm:cC):∀ds:List D,szs (flts sm ds)<=szs ds
 | []=>ac _
 | d::ds=>by rw[flts,szs,szs];have:=HP sm d;have:=vG sm ds;lia
end
mutual
theorem rE (sm:cC):∀d:D,depD (flt sm d)<=depD d
 | .tup (.str n::ds)=>by rw[flt,depD,depDs,show depD (.str n)=0 from rfl];have:=wW sm n (flts sm ds);have:=q9 sm ds;lia
 | .lst (.str n::ds)=>by rw[flt,depD,depDs,show depD (.str n)=0 from rfl];have:=wW sm n (flts sm ds);have:=q9 sm ds;lia
 | .non | .bl _ | .int _ | .str _ | .tup [] | .lst [] | .tup (.non::_) | .tup (.bl _::_) | .tup (.int _::_) | .tup (.tup _::_) | .tup (.lst _::_) | .lst (.non::_) | .lst (.bl _::_) | .lst (.int _::_) | .lst (.tup _::_) | .lst (.lst _::_)=>by unfold flt;exact ac _
theorem q9 (sm:cC):∀ds:List D,depDs (flts sm ds)<=depDs ds
 | []=>ac _
 | d::ds=>by rw[flts,depDs,depDs];have:=rE sm d;have:=q9 sm ds;lia
end
def eG:∀{ds:List D},Fls ds->∀d∈ds,Fl d
 | _::_,⟨a,b⟩,d,h=>by
  obtain rfl|h:=cw.mp h
  ·exact a
  ·exact eG b d h
def jM:∀{ds:List D},(∀d∈ds,Fl d)->Fls ds
 | [],_=>trivial
 | d::ds,h=>⟨h d ax,jM λe k=>h e (ba _ k)⟩
def RD (h:Fl d):Fls (opn1 n z d):=by
 unfold opn1;split
 ·rename_i m c;have k:Fls c:=by unfold Fl at h;exact h
  split
  ·exact k
  ·exact⟨h,trivial⟩
 ·split
  ·exact trivial
  ·exact⟨h,trivial⟩
def sJ (h:Fls ds):Fls (opn n z ds):=jM λd k=>by obtain⟨e,g,c⟩:=List.mem_flatMap.mp k;exact eG (RD (eG h e g)) d c
mutual
def Nb:D->Prop
 | .tup (_::ds)=>ds≠[]/\Nbs ds
 | _=>True
def Nbs:List D->Prop
 | []=>True
 | d::ds=>Nb d/\Nbs ds
end
def u9:∀{ds:List D},Nbs ds->∀d∈ds,Nb d
 | _::_,⟨a,b⟩,d,h=>by
  obtain rfl|h:=cw.mp h
  ·exact a
  ·exact u9 b d h
def B2:∀{ds:List D},(∀d∈ds,Nb d)->Nbs ds
 | [],_=>trivial
 | d::ds,h=>⟨h d ax,B2 λe k=>h e (ba _ k)⟩
def RC (h:Nb d):Nbs (opn1 n z d):=by
 unfold opn1;split
 ·rename_i m c;have k:Nbs c:=by unfold Nb at h;exact h.2
  split
  ·exact k
  ·exact⟨h,trivial⟩
 ·split
  ·exact trivial
  ·exact⟨h,trivial⟩
def U6 (h:Nbs ds):Nbs (opn n z ds):=B2 λd k=>by obtain⟨e,g,c⟩:=List.mem_flatMap.mp k;exact u9 (RC (u9 h e g)) d c
def VE (h:∀d∈l,Nb d):Nb (one n z l):=by
 unfold one;split
 ·unfold Nb;exact trivial
 ·exact h _ ax
 ·rename_i l c e;unfold Nb;exact⟨c,B2 h⟩
def vC (h:Nbs ps)(ne:ps≠[]):Nb (knot sm n ps):=by
 unfold knot;split
 ·unfold Nb;exact⟨ne,h⟩
 ·exact VE λd k=>u9 (U6 h) d ((aX _).mem_iff.mp k)
def RB (f:Fl d)(b:Nb d):opn1 n ("" : Str) d≠[]:=by
 unfold opn1;split
 ·split
  ·unfold Nb at b;exact b.1
  ·exact λz=>nomatch z
 ·split
  ·rename_i e;exfalso;cases d with
   | str x =>
    have e:(x == ("" : Str))=true:=e;have e:=eq_of_beq e;subst e;unfold Fl at f;exact absurd f.1 ad
   | tup xs=>cases e
   | _=>unfold Fl at f;exact f
  ·exact λz=>nomatch z
def NU:∀{ps:List D},Fls ps->Nbs ps->ps≠[]->opn n ("" : Str) ps≠[]
 | [],_,_,h=>absurd rfl h
 | d::ps,⟨f,_⟩,⟨b,_⟩,_=>by rw[dI];exact λz=>RB f b (List.append_eq_nil_iff.mp z).1
def vD (hz:∀r∈sm,r.2=("" : Str)\/Fl (.str r.2))(h:Fls ps)(b:Nbs ps)(ne:ps≠[]):Fl (knot sm n ps):=by
 unfold knot;split
 ·unfold Fl;exact h
 ·rename_i z e;have c:z=("" : Str)\/Fl (.str z):=by unfold zr at e;obtain⟨r,g,rfl⟩:=Option.map_eq_some_iff.mp e;exact hz r (List.mem_of_find?_eq_some g)
  have f1:∀d∈cJ (opn n z ps),Fl d:=λd k=>eG (sJ h) d ((aX _).mem_iff.mp k);unfold one;split
  ·rename_i i;rcases c with rfl|c
   ·exfalso;have:=(aX (opn n ("" : Str) ps)).length_eq;rw[i]at this;exact NU h b ne (List.length_eq_zero_iff.mp this.symm)
   ·exact c
  ·rename_i e;exact f1 _ (by rw[e];exact ax)
  ·unfold Fl;exact jM f1
section
variable {P:dw}{w:dy}{K:dq}{mg:jS}{base:Heap}
mutual
/-- a term: leaves that can be told,names with parts -/
def Tm:D->Prop
 | .str x=>1<=x.cps.toList.length/\x.cps.toList.length<=20
 | .tup (.str _::ds)=>ds≠[]/\Tms ds
 | .lst (.str _::ds)=>ds≠[]/\Tms ds
 | _=>False
def Tms:List D->Prop
 | []=>True
 | d::ds=>Tm d/\Tms ds
end
def A7 (h:Tm d):(∃x,d = .str x/\1<=x.cps.toList.length/\x.cps.toList.length<=20)\/∃n ds,(d = .tup (.str n::ds)\/d = .lst (.str n::ds))/\ds≠[]/\Tms ds:=by
 unfold Tm at h;split at h
 ·exact .inl ⟨_,rfl,h⟩
 ·exact .inr ⟨_,_,.inl rfl,h⟩
 ·exact .inr ⟨_,_,.inr rfl,h⟩
 ·exact absurd h id
def vH (h:ds≠[]):flts sm ds≠[]:=by rw[iS];exact λz=>h (List.map_eq_nil_iff.mp z)
mutual
theorem CQ (hz:∀r∈sm,r.2=("" : Str)\/Fl (.str r.2)):∀{d:D},Tm d->Fl (flt sm d)/\Nb (flt sm d)
 | .tup (.str n::ds),h=>by
  unfold Tm at h;obtain⟨a,b⟩:=jB hz h.2;rw[flt];exact⟨vD hz a b (vH h.1),vC b (vH h.1)⟩
 | .lst (.str n::ds),h=>by
  unfold Tm at h;obtain⟨a,b⟩:=jB hz h.2;rw[flt];exact⟨vD hz a b (vH h.1),vC b (vH h.1)⟩
 | .str x,h=>by unfold flt;unfold Tm at h;unfold Fl Nb;exact⟨h,trivial⟩
 | .non,h | .bl _,h | .int _,h | .tup [],h | .lst [],h | .tup (.non::_),h | .tup (.bl _::_),h | .tup (.int _::_),h | .tup (.tup _::_),h | .tup (.lst _::_),h | .lst (.non::_),h | .lst (.bl _::_),h | .lst (.int _::_),h | .lst (.tup _::_),h | .lst (.lst _::_),h=>by unfold Tm at h;exact absurd h id
theorem jB (hz:∀r∈sm,r.2=("" : Str)\/Fl (.str r.2)):∀{ds:List D},Tms ds->Fls (flts sm ds)/\Nbs (flts sm ds)
 | [],_=>by rw[flts];exact⟨trivial,trivial⟩
 | d::ds,⟨a,b⟩=>by rw[flts];exact⟨⟨(CQ hz a).1,(jB hz b).1⟩,⟨(CQ hz a).2,(jB hz b).2⟩⟩
end
def SN (hz:∀r∈sm,r.2=("" : Str)\/Fl (.str r.2))(h:Tms ds):Fls (flts sm ds):=(jB hz h).1
def yS (so:aW fx sm)(h:x∈zeros fx):1<=x.cps.toList.length/\x.cps.toList.length<=20:=by unfold zeros at h;obtain⟨r,c,rfl⟩:=cy.mp h;have:=so.nm r.1 (cj _ (List.mem_map_of_mem ((db.mp c).1)));exact⟨this.1,ao this.2.1 ad⟩
def cL (so:aW fx sm):∀r∈sm,r.2=("" : Str)\/Fl (.str r.2):=λr c=>by
 by_cases e:r.2=("" : Str)
 ·exact .inl e
 ·refine .inr ?_;unfold Fl;exact yS so (so.nought r c e)
mutual
theorem hZ {g:cU}{sm:cC}{os:aV}(so:aW g sm)(ho:∀x∈os,bR x):∀{d:D},aS g sm os d->Tm d/\sz d=lvs d
 | .str x,h=>by
  unfold aS at h;refine⟨?_,by unfold sz lvs;rfl⟩;unfold Tm;rcases h with h|h
  ·obtain⟨l,rfl,c,e,_⟩:=ho x h;exact⟨dl,by simp;lia⟩
  ·exact yS so h
 | .tup (.str n::ds),h=>by
  unfold aS at h;obtain⟨a,b⟩:=vT so ho h.2;have c:=pN h.1;have e:=oB h.2;refine⟨?_,by rw[sz,lvs,b];lia⟩;unfold Tm;exact⟨λz=>by rw[z]at c;simp at c,a⟩
 | .lst (.str n::ds),h=>by
  unfold aS at h;obtain⟨a,b⟩:=vT so ho h.2;have c:=pN h.1;have e:=oB h.2;refine⟨?_,by rw[sz,lvs,b];lia⟩;unfold Tm;exact⟨λz=>by rw[z]at c;simp at c,a⟩
 | .non,h | .bl _,h | .int _,h | .tup [],h | .lst [],h | .tup (.non::_),h | .tup (.bl _::_),h | .tup (.int _::_),h | .tup (.tup _::_),h | .tup (.lst _::_),h | .lst (.non::_),h | .lst (.bl _::_),h | .lst (.int _::_),h | .lst (.tup _::_),h | .lst (.lst _::_),h=>by unfold aS at h;exact absurd h id
theorem vT {c:cU}{sm:cC}{os:aV}(so:aW c sm)(ho:∀x∈os,bR x):∀{ds:List D},IsTms c sm os ds->Tms ds/\szs ds=lvss ds
 | [],_=>⟨trivial,rfl⟩
 | d::ds,⟨a,b⟩=>by obtain⟨i,h⟩:=hZ so ho a;obtain⟨g,e⟩:=vT so ho b;exact⟨⟨i,g⟩,by rw[szs,lvss,h,e]⟩
end
def Tms.get:∀{ds:List D} {i:Nat} {d:D},Tms ds->ds[i]?=some d->Tm d
 | [],_,_,_,z=>by simp at z
 | _::_,0,_,⟨a,_⟩,h=>by simp at h;subst h;exact a
 | _::_,i+1,_,⟨_,b⟩,h=>Tms.get b (by simpa using h)
def IN:∀{ds:List D} {i:Nat} {d:D},ds[i]?=some d->sz d<=szs ds
 | [],_,_,h=>by simp at h
 | e::ds,0,_,h=>by simp at h;subst h;rw[szs];lia
 | e::ds,i+1,_,h=>by have:=IN (ds:=ds) (i:=i) (by simpa using h);rw[szs];lia
def LV (sm:cC)(ds:List D)(d:D):flts sm (ds++[d])=flts sm ds++[flt sm d]:=by rw[iS,iS,az];rfl
def vI (x:V)(xs:List V):cutV (x::xs) (some 1) none=xs:=by unfold cutV HT.sIx;simp
def d8.prs:∀{sm:cC} {sv:List V},d8 H sm sv->sv.map (prV H)=(sm.map λr=>((.inr r.1,V.str r.2):cR×V)).map (λkv=>some (kV kv.1,kv.2))
 | [],_,e=>by cases e;rfl
 | r::l,_,⟨t,us,e,h,q⟩=>by subst e;rw[bf,d8.prs q];unfold prV;simp only[h];rfl
theorem pH:∀(more c:List (cR×V)),((c++more).map (·.1)).Nodup->gE c more=c++more
 | [],c,_=>by simp[gE]
 | p::r,c,h=>by
  have e:putK c p.1 p.2=c++[p]:=by unfold putK;rw[ab];intro z;obtain⟨y,g,d⟩:=List.any_eq_true.mp z;rw[az,bf]at h;exact(List.nodup_append.mp h).2.2 y.1 (List.mem_map_of_mem g) p.1 ax (by simpa using d)
  show gE (putK c p.1 p.2) r=_;rw[e,pH r (c++[p]) (by simpa using h)];simp
def EK {sm:cC}(nd:(sm.map (·.1)).Nodup):gE [] (sm.map λr=>((.inr r.1,V.str r.2):cR×V))=sm.map λr=>(.inr r.1,V.str r.2):=by
 rw[pH]
 ·rfl
 ·rw[List.nil_append,cp];exact List.pairwise_map.mpr ((List.pairwise_map.mp nd).imp λh e=>h (Sum.inr.inj e))
def vO (n:Str):∀sm:cC,valV (sm.map λr=>((.inr r.1,V.str r.2):cR×V)) (.inr n)=(zr sm n).map V.str
 | []=>rfl
 | r::l=>by
  by_cases e:r.1=n
  ·rw[bf,k8 (by rw[e])];simp[zr,e]
  ·rw[bf,lE (λz=>e (by cases z;rfl)),vO n l];simp[zr,e]
def CI (t:Addr)(sm:cC)(ds:List D)(H:Hp)(i:Nat)(c:List V)(e:St)(d:Hp):Prop:=∃g:Option V,e=[g,some (.ref t)]/\aF H d/\Reps d (flts sm (ds.take i)) c
def UJ {c:TT}{j:TS}{D:jV}{d:St}{H:Hp}(Pv:St->Hp->Prop)(i:St->Hp->Nat)(o:Pv d H)
  (l:∀d H,Pv d H->∀R:Bool->Hp->Prop,(∀H',j {D with nx:=λe g=>Pv e g/\i e g<i d H,ct:=λe g=>Pv e g/\i e g<i d H,bk:=D.nx} d H'->R true H')->(∀H',D.nx d H'->R false H')->c d H R):vV c j D d H:=by
 refine⟨λm d H=>m=i d H/\Pv d H,⟨_,rfl,o⟩,?_⟩;rintro m d H ⟨rfl,p⟩;refine l d H p _ (λH' h=>?_) (λH' h=>?_)
 ·rw[ai rfl];exact⟨_,λe g ⟨a,b⟩=>⟨_,b,rfl,a⟩,h⟩
 ·rw[ab ad];exact h
mutual
theorem aY.tups (s:bK H H'):∀{d:D} {v:V},Fl d->aY H d v->aY H' d v
 | .str x,v,_,h=>h
 | .tup (.str n::ds),v,f,⟨a,vs,e,i,x,r,j,c,g⟩=>⟨a,vs,e,s _ _ i,x,r,j,c,Reps.tups s (by unfold Fl at f;exact f) g⟩
 | .non,_,f,_ | .bl _,_,f,_ | .int _,_,f,_ | .lst _,_,f,_ | .tup [],_,f,_ | .tup (.non::_),_,f,_ | .tup (.bl _::_),_,f,_ | .tup (.int _::_),_,f,_ | .tup (.tup _::_),_,f,_ | .tup (.lst _::_),_,f,_=>by unfold Fl at f;exact absurd f id
theorem Reps.tups (s:bK H H'):∀{ds:List D} {vs:List V},Fls ds->Reps H ds vs->Reps H' ds vs
 | [],_,_,h=>h
 | _::_,_,⟨a,b⟩,⟨x,r,e,d,c⟩=>⟨x,r,e,aY.tups s a d,Reps.tups s b c⟩
end
theorem CL:∀{l:List D} {k:Nat},k<=l.length->(∀j e,j<k->l[j]?=some e->ah d e=false)->(∀e,l[k]?=some e->ah d e=true)->insA d l=l.take k++d::l.drop k
 | [],k,h,_,_=>by
  have:k=0:=by simpa using h
  subst this;rfl
 | e::l,0,_,_,h=>by
  have:=h e rfl;rw[insA,ai this];rfl
 | e::l,k+1,h,g,i=>by have:=g 0 e dk rfl;rw[insA,ab (by rw[this];decide),CL (l:=l) (k:=k) (by simpa using h) (λj f m c=>g (j+1) f dk (by simpa using c)) (λf c=>i f (by simpa using c))];rfl
def DN (i:Nat)(l:List D):szs (l.take i)<=szs l:=by
 have:=A9 (l.take i) (l.drop i);rw[List.take_append_drop]at this
 lia
theorem Reps.cut (h:aY H d v):∀{ds:List D} {vs:List V} (k:Nat),Reps H ds vs->Reps H (ds.take k++d::ds.drop k) (vs.take k++v::vs.drop k)
 | [],_,k,e=>by cases e;simp;exact⟨v,[],rfl,h,rfl⟩
 | _::_,_,0,r=>⟨v,_,rfl,h,r⟩
 | _::_,_,k+1,⟨x,r,e,g,c⟩=>by subst e;exact⟨x,_,rfl,g,Reps.cut h k c⟩
def EB:∀{l:List D},1<l.length->one n z l = .tup (.str n::l)
 | [],h=>by simp at h
 | [_],h=>by simp at h
 | _::_::_,_=>rfl
def GI (t g l m d ol:Addr)(os:List D)(us:List V)(p o:Hp)(i:Nat)(e:St)(c:Hp):Prop:=∃(j h:Option V) (fs:List V),e=[some (.ref t),some (.ref g),some (.ref l),some (.ref m),some (.ref d),j,h]/\aF p c/\c ol=some (.lst us)/\bK o c/\c d=some (.lst fs)/\Reps c (cJ (os.take i)) fs
def WI (t h l m i:Addr)(x:V)(e:D)(c:List D)(p:Hp)(d:St)(o:Hp):Prop:=∃k:Nat,d=[some (.ref t),some (.ref h),some (.ref l),some (.ref m),some (.ref i),some x,some (.int k)]/\aF p o/\k<=c.length/\∀j g,j<k->c[j]?=some g->ah e g=false
noncomputable def wMu (n:Nat)(c:St)(_:Hp):Nat:=match c[6]? with|some (some (V.int x))=>((n:Int) - x).toNat|_=>0
def v9 (n:Nat):Sp:=λvs H Q _=>∃(t a b:Addr) (sm:cC) (sv:List V) (d:D) (v:V),vs=[.ref t,v]/\H t=some (.tup [.ref a,.ref b])/\H b=some (.lst sv)/\d8 H sm sv/\(sm.map (·.1)).Nodup/\(∀r∈sm,r.2=("" : Str)\/Fl (.str r.2))/\sm.length<=3/\aY H d v/\Tm d/\depD d<=n/\depD d<=50/\sz d<=64 /\
 ∀(c:V) (H':Hp),aF H H'->aY H' (flt sm d) c->Q c H'
def RX (n:Nat)(F:fV K "_law_flat" "_law_flat" eY f fd)(T:Txt mg)(G:dS P w K mg base bU (n+2) "_law_ahead" (lZ n))(C:dS P w K mg base bU 1 "_law_opened" qB)
  (I:dS P w K mg base bU (n+2) "_law_flat" (λvs H Q E=>∃m,m<n/\v9 m vs H Q E)):cH P w K mg base bU (n+3) f fd iX (v9 n):=by
 refine F.ok eB (λvs H Q E h=>?_) (λcdv A outer s H vs Q E hr h=>?_)
 ·obtain⟨t,a,b,sm,sv,d,v,rfl,_⟩:=h;rfl
 ·obtain⟨t,a,b,sm,sv,d,v,rfl,ht,hb,rs,nd,fz,s3,rep,tm,dn,d50,s64,q⟩:=h;have hu:=hr.units
  refine⟨_,(aE (bQ (aT K rfl (aZ aK T.n_isinstance (aA (pv 1) (aA (cF (v:=V.ty "str") rfl T.n_str rfl rfl) aB))) (λ_=>rfl)) (aG (aL (pv 1))) aO)
   (aE (jA (i:=2) eB.nd rfl rfl rfl rfl (bN.by (N:=n8) (names:=(aH eY).names) (N':=["_law_part","_law_told"]) (src:=[none,some 0]) (by decide +kernel) rfl rfl) (dF K rfl (fS l7 (pv 1) (eV aJ) gB)) (λ_ _ _ _=>(eD (i:=0) (dL ["_law_part","_law_told"]) rfl (Or.inl rfl))) (λ_ _ _ _=>dW) (λ_ _ _ _=>(eE I (hr.mono dk) pass0 rfl (aA (pv 1) (aA (pv 0) aB)))))
   (aE (bP 3 eB.nd (cB (pQ rfl) rfl T.n_dict rfl (aA (cA dM (pv 0) aJ (λ_ _=>rfl)) aB)))
   (aE (bQ (aR (GH hu) (cA dM (pv 1) aJ (λ_ _=>rfl)) (pv 3) (by with_unfolding_all rfl)) (aG (aL (bW bZ (fM (aA (cA dM (pv 1) aJ (λ_ _=>rfl)) aB)) (cB fA rfl T.n_tuple rfl (aA (pv 2) aB))))) aO)
   (aE (bP 4 eB.nd (cQ aB))
   (aE (eT dj rfl (dF K rfl (eE C (hr.mono dk) pass0 rfl (aA (cA dM (pv 1) aJ (λ_ _=>rfl)) (aA (JD (aj (ca ad _) hu) (pv 3) (cA dM (pv 1) aJ (λ_ _=>rfl)) (λ_ _=>rfl)) (aA (pv 2) aB))))) (h8 5 eB.nd) (aE (bP 6 eB.nd aJ)
   (aE (qP dj (PW.pt (wE (aR (kQ hu) (pv 6) (aZ bV T.n_len (aA (pv 4) aB))) (qO (cZ (aT K rfl (eE G (hr.mono dk) pass0 rfl (aA (pv 5) (aA (cA dM (pv 4) (pv 6) (λ_ _=>rfl)) aB))) (λ_=>rfl)))))) (aG (bP 6 eB.nd (bW bZ (pv 6) aJ))))
   (aG (cW (j8 df PySem.F.slot_list_insert PySem.F.type_list_insert K7 (pv 4) (aA (pv 6) (aA (pv 5) aB))))))))
   (aE (bQ (aR EA (aZ bV T.n_len (aA (pv 4) aB)) aJ) (aG (aL (bW bZ (fM (aA (cA dM (pv 1) aJ (λ_ _=>rfl)) aB)) (cB fA rfl T.n_tuple rfl (aA (pv 4) aB))))) aO)
   (aG (aL (cA dM (bW bZ (pv 4) (cQ (aA (JD (aj (ca ad _) hu) (pv 3) (cA dM (pv 1) aJ (λ_ _=>rfl)) (λ_ _=>rfl)) aB))) aJ (λ_ _=>rfl))))))))))),?_⟩
  try dsimp only[cxOf,Cx.nox]
  clear hr F T hu G C I;simp only[tFor_fn,tComp_fn];rcases A7 tm with⟨x,rfl,hx⟩|⟨nm,ds,hd,dne,tms⟩
  ·cases (show v = .str x from rep);exact⟨_,rfl,_,_,true,rfl,rfl,_,rfl,ite_on (λ_=>⟨_,rfl,q _ _ (λ_ _ h=>h) (by unfold flt;rfl)⟩) λz=>Bool.noConfusion z⟩
  ·obtain⟨va,S,rfl,hbb,hseq,res⟩:∃va S,v = .ref va/\isV H (.ref va) (.ty "str")=some false/\fB H va (.str nm::S)/\Reps H ds S:=by
    rcases hd with rfl|rfl
    ·obtain⟨a,vs,rfl,ha,_,S,rfl,e1,r⟩:=rep;cases e1;exact⟨a,S,rfl,nN ha,.inr ha,r⟩
    ·obtain⟨a,vs,rfl,ha,_,S,rfl,e1,r⟩:=rep;cases e1;exact⟨a,S,rfl,sY ha,.inl ha,r⟩
   have X:∀H',aF H H'->ixV H' (.ref va) (.int 0)=some (.str nm):=λH' s'=>by
    rcases hseq.same s' with e|e
    ·rw[ixV_l e,atI_zero]
    ·rw[ixV_t e,atI_zero]
   have hfl:flt sm d=knot sm nm (flts sm ds):=by rcases hd with rfl|rfl <;> rw[flt]
   have hsz:sz d=max 1 (szs ds):=by rcases hd with rfl|rfl <;> rw[sz]
   have hdp:depD d=depDs ds+1:=by
    rcases hd with rfl|rfl
    ·rw[depD,depDs,show depD (.str nm)=0 from rfl];lia
    ·rw[depD,depDs,show depD (.str nm)=0 from rfl];lia
   refine⟨_,rfl,_,_,false,rfl,hbb,_,rfl,ite_on (λz=>Bool.noConfusion z) λ_=>⟨_,rfl,_,rfl,va,_,rfl,hseq,λ_ h=>?_,λp o hp ho=>?_⟩⟩
   ·have:=h.1;simp[HT.sIx]at this
   ·rw[vI]at ho;have s0:aF H (upd H p o):=aF.upd hp;refine⟨p,S,rfl,by rcases ho with⟨rfl,_⟩|⟨rfl,_⟩;exact .inl ec;exact .inr ec,λJ hJ=>?_⟩;refine dC hJ (CI t sm ds (upd H p o)) ⟨none,rfl,λ_ _ h=>h,rfl⟩ ?_ ?_ ?_
    ·rintro i B σ H' _ ⟨_,_,s1,_⟩;rw[ec,s1 _ _ ec]
    ·rintro i x B σ H1 hx ⟨o0,rfl,s1,L⟩;obtain⟨e,he,re⟩:=Reps.get res hx;have s2:=s0.trans s1;have h1:=iU he;have h2:=IN he;have h3:=Reps.len L;refine⟨_,rfl,_,rfl,depD e,dk,t,a,b,sm,sv,e,x,rfl,s2 _ _ ht,s2 _ _ hb,rs.same (bK.of s2),nd,fz,s3,aY.same s2 re,tms.get he,ac _,dk,dk,λv' Z s' r'=>⟨?_,_,rfl,s1.trans s',?_⟩⟩
     ·refine aj (m:=64) ?_ ad;rw[iS,ae,bv]at h3;have:=lX ds
      lia
     ·rw[ee he,LV];exact Reps.snoc r' (Reps.same s' L)
    ·rintro B σ H1 ⟨o0,rfl,s1,L⟩ l hl;have L:Reps H1 (flts sm ds) B:=by have e:=Reps.len res;rw[e,bw]at L;exact L
     have sl:aF H (upd H1 l (.lst B)):=(s0.trans s1).trans (aF.upd hl);refine⟨_,rfl,.ref b,by rw[ixV_t (sl _ _ ht)];rfl,b,sv,_,rfl,sl _ _ hb,(rs.same (bK.of sl)).prs,λY hdd=>?_⟩;rw[EK nd];have s2:aF (upd H1 l (.lst B)) (upd (upd H1 l (.lst B)) Y (.dK (sm.map λr=>(.inr r.1,V.str r.2)))):=aF.upd hdd;have s3':=sl.trans s2;have l2:upd (upd H1 l (.lst B)) Y (.dK (sm.map λr=>(.inr r.1,V.str r.2))) l=some (.lst B):=s2 _ _ ec;have d2:upd (upd H1 l (.lst B)) Y (.dK (sm.map λr=>(.inr r.1,V.str r.2))) Y=some (.dK (sm.map λr=>(.inr r.1,V.str r.2))):=ec;have r2:Reps (upd (upd H1 l (.lst B)) Y (.dK (sm.map λr=>(.inr r.1,V.str r.2)))) (flts sm ds) B:=Reps.same ((aF.upd hl).trans s2) L;generalize upd (upd H1 l (.lst B)) Y (.dK (sm.map λr=>(.inr r.1,V.str r.2)))=Z at s2 s3' l2 d2 r2⊢;have g2:jW Z Y (.str nm) ((zr sm nm).map V.str):=by have:=jW.k (k:=.inr nm) d2;rw[vO]at this;exact this
     cases hz:zr sm nm with
     | none =>
      rw[hz]at g2;refine⟨_,rfl,.str nm,X _ s3',_,rfl,Y,_,rfl,g2,_,rfl,ite_on (λ_=>⟨_,rfl,.str nm,X _ s3',(show 1<=sizeLine by decide),λp1 O=>⟨_,rfl,l,B,rfl,.inl (by rw[aC (aD l2 O)];exact l2),λl3 H3 hc=>?_⟩⟩) λz=>Bool.noConfusion z⟩;rcases hc with⟨hc,_⟩|⟨_,hc,rfl⟩
      ·rw[aC (aD l2 O),l2]at hc;cases hc
      ·have s4:aF Z (upd (upd Z p1 (.tup [.str nm])) l3 (.tup B)):=(aF.upd O).trans (aF.upd hc);refine .inr ⟨.tup (.str nm::B),?_,λp4 hp4=>?_⟩
       ·have e1:upd (upd Z p1 (.tup [.str nm])) l3 (.tup B) p1=some (.tup [.str nm]):=by rw[aC (aD ec hc)];exact ec
        have e2:upd (upd Z p1 (.tup [.str nm])) l3 (.tup B) l3=some (.tup B):=ec;have la:=Reps.len r2;rw[iS,ae]at la;have:=lX ds;unfold catO;simp only[e1,e2];refine ai ⟨ao (m:=100) (by simp;lia) ad,dl,λz=>dne (List.length_eq_zero_iff.mp (by rw[←la,z];rfl))⟩
       ·refine q _ _ (s3'.trans (s4.trans (aF.upd hp4))) ?_;rw[hfl];unfold knot;rw[hz];exact⟨p4,_,rfl,ec,.str nm,B,rfl,rfl,Reps.same (s4.trans (aF.upd hp4)) r2⟩
     | some z =>
      rw[hz]at g2;refine⟨_,rfl,.str nm,X _ s3',_,rfl,Y,_,rfl,g2,_,rfl,ite_on (λz=>Bool.noConfusion z) λ_=>⟨aw _,λW hfo=>⟨_,rfl,.str nm,X _ (s3'.trans (aF.upd hfo)),?_⟩⟩⟩;have sfo:aF Z (upd Z W (.lst [])):=aF.upd hfo;have g3:jW (upd Z W (.lst [])) Y (.str nm) (some (.str z)):=by have:=jW.k (k:=.inr nm) (sfo _ _ d2);rw[vO,hz]at this;exact this
      refine⟨_,rfl,_,rfl,.str nm,X _ (s3'.trans sfo),Y,.str z,rfl,g3,_,rfl,?_⟩;have fls:=SN fz tms;have hsf:=vG sm ds;have hdf:=q9 sm ds;refine⟨nm,z,l,flts sm ds,B,rfl,sfo _ _ l2,Reps.same sfo r2,fls,λi=>?_,dk,λol us H4 s5 ol0 ol4 rus=>?_⟩
      ·have h1:=lX (opn nm z ((flts sm ds).take i));have h2:=wI nm z ((flts sm ds).take i);have h3:=DN i (flts sm ds)
       lia
      ·refine⟨ol,us,rfl,.inl ol4,λJ hJ=>?_⟩;have fop:Fls (opn nm z (flts sm ds)):=sJ fls;have hlo:(opn nm z (flts sm ds)).length<=64:=by
        have h1:=lX (opn nm z (flts sm ds));have h2:=wI nm z (flts sm ds)
        lia
       have hdo:=BV nm z (flts sm ds);have nfo:ol≠W:=λe=>by rw[e,ec]at ol0;cases ol0
       have fo4:H4 W=some (.lst []):=s5 _ _ ec;have s6:aF Z H4:=sfo.trans s5;have rus4:Reps H4 (opn nm z (flts sm ds)) us:=Reps.same s5 rus;generalize hos:opn nm z (flts sm ds)=os at fop hlo hdo rus rus4;have lus:=Reps.len rus;refine kL hJ (GI t va l Y W ol os us Z H4) ⟨none,none,[],rfl,s6,ol4,bK.refl _,fo4,rfl⟩ (by rintro i σ H' _ ⟨_,_,_,_,_,h,_⟩;rw[h,ol4]) ?_ ?_
       ·rintro i x σ H5 hx ⟨o5,o6,fs,rfl,g1,g2',g3',g4,g5⟩;obtain⟨e,he,re⟩:=Reps.get rus4 hx;have fe:=fop.get he;have re5:=aY.tups g3' fe re;have dpe:=iU he;have fgs:∀g∈cJ (os.take i),Fl g:=λg hg=>eG fop g (List.mem_of_mem_take ((aX _).mem_iff.mp hg));have lf:=Reps.len g5;have li:(cJ (os.take i)).length<=64:=by rw[(aX _).length_eq,bv];lia
        refine UJ (WI t va l Y W x e (cJ (os.take i)) H5) (wMu fs.length) ⟨0,rfl,λ_ _ h=>h,aw _,λj g hj=>absurd hj (Nat.not_lt_zero _)⟩ ?_;rintro σ H6 ⟨k,rfl,w1,w2,w3⟩ R hT hF;have h6:=w1 _ _ g4;by_cases hk:k<fs.length
        ·obtain⟨y,hy⟩:∃y,fs[k]?=some y:=⟨_,ay hk⟩
         obtain⟨g,hg,rg⟩:=Reps.get g5 hy;have rg6:=aY.same w1 rg;have re6:=aY.same w1 re5;have ix6:ixV H6 (.ref W) (.int k)=some y:=by rw[ixV_l h6,J1];exact hy
         have n6:Option.map (λn:Int=>V.int n) (do
           let a ←lenV H6 (.ref W)
           pure (a:Int))=some (.int (fs.length:Int)):=by rw[lenV_l h6];rfl
         refine⟨_,rfl,_,rfl,_,_,rfl,n6,.inl (.inl ⟨_,_,rfl,rfl,_,rfl,ite_on (λ_=>?_) λz=>absurd (of_decide_eq_false z) dk⟩)⟩;refine⟨_,rfl,_,rfl,_,rfl,y,ix6,e,g,x,y,rfl,re6,rg6,fe,fgs g (bj hg),dk,dk,λH7 s7=>⟨ah e g,rfl,?_⟩⟩;cases hab:ah e g with
         | false =>
          refine hT H7 ?_;refine⟨_,rfl,.inl ⟨_,rfl,⟨k+1,rfl,w1.trans s7,dk,λj g' hj U=>?_⟩,?_⟩⟩
          ·by_cases ej:j<k
           ·exact w3 j g' ej U
           ·have:j=k:=by lia
            subst this;rw[hg]at U;cases U;exact hab
          ·show((fs.length:Int) - ((k:Int)+1)).toNat<((fs.length:Int) - (k:Int)).toNat
           lia
         | true =>
          refine hF H7 ?_;have h7:=s7 _ _ h6;have ein:=CL (d:=e) (l:=cJ (os.take i)) w2 w3 (λg' U=>by rw[hg]at U;cases U;exact hab);refine⟨_,rfl,tyL h7,_,rfl,_,rfl,W,fs,k,x,rfl,rfl,h7,dk,dk,?_⟩;have w9:=w1.trans s7;have s9:aF Z (upd H7 W (.lst (fs.take k++x::fs.drop k))):=λc u hc=>by rw[aC (λw=>by rw[w,hfo]at hc;cases hc)];exact w9 _ _ (g1 _ _ hc)
          have t9:bK H7 (upd H7 W (.lst (fs.take k++x::fs.drop k))):=bK.lst h7;refine⟨_,_,fs.take k++x::fs.drop k,rfl,s9,by rw[aC nfo];exact w9 _ _ g2',(g3'.trans (bK.of w9)).trans t9,ec,?_⟩;rw[ee he,tV,ein];exact Reps.cut (aY.tups t9 fe (aY.same s7 re6)) k (Reps.tups t9 (jM fgs) (Reps.same w9 g5))
        ·have n6:Option.map (λn:Int=>V.int n) (do
           let a ←lenV H6 (.ref W)
           pure (a:Int))=some (.int (fs.length:Int)):=by rw[lenV_l h6];rfl
         refine⟨_,rfl,_,rfl,_,_,rfl,n6,.inl (.inl ⟨_,_,rfl,rfl,_,rfl,ite_on (λz=>absurd (bu z) dk) λ_=>?_⟩)⟩;refine hF H6 ?_
         have ein:=CL (d:=e) (l:=cJ (os.take i)) w2 w3 (λg' U=>by
          have:=(cs.mp U).1
          lia)
         have re6:=aY.same w1 re5;refine⟨_,rfl,tyL h6,_,rfl,_,rfl,W,fs,k,x,rfl,rfl,h6,dk,dk,?_⟩;have s9:aF Z (upd H6 W (.lst (fs.take k++x::fs.drop k))):=λc u hc=>by rw[aC (λw=>by rw[w,hfo]at hc;cases hc)];exact w1 _ _ (g1 _ _ hc)
         have t9:bK H6 (upd H6 W (.lst (fs.take k++x::fs.drop k))):=bK.lst h6;refine⟨_,_,fs.take k++x::fs.drop k,rfl,s9,by rw[aC nfo];exact w1 _ _ g2',(g3'.trans (bK.of w1)).trans t9,ec,?_⟩;rw[ee he,tV,ein];exact Reps.cut (aY.tups t9 fe re6) k (Reps.tups t9 (jM fgs) (Reps.same w1 g5))
       ·rintro σ H5 ⟨o5,o6,fs,rfl,g1,g2',g3',g4,g5⟩;rw[lus,bw]at g5;have lf:=Reps.len g5;have ll:(cJ os).length=os.length:=(aX os).length_eq;have hk:flt sm d=one nm z (cJ os):=by rw[hfl];unfold knot;rw[hz,←hos]
        have s7:=s3'.trans g1
        have n5:Option.map (λn:Int=>V.int n) (do
          let a ←lenV H5 (.ref W)
          pure (a:Int))=some (.int (fs.length:Int)):=by rw[lenV_l g4];rfl
        refine⟨_,rfl,_,_,rfl,n5,_,_,rfl,rfl,_,rfl,ite_on (λh=>?_) λh=>?_⟩
        ·have h:1<fs.length:=by have:=bu h;lia
         refine⟨_,rfl,.str nm,X _ s7,(show 1<=sizeLine by decide),λp1 O=>⟨_,rfl,W,fs,rfl,.inl (by rw[aC (aD g4 O)];exact g4),λl3 H3 hc=>?_⟩⟩;rcases hc with⟨hc,_⟩|⟨_,hc,rfl⟩
         ·rw[aC (aD g4 O),g4]at hc;cases hc
         ·have s4:aF H5 (upd (upd H5 p1 (.tup [.str nm])) l3 (.tup fs)):=(aF.upd O).trans (aF.upd hc);refine .inr ⟨.tup (.str nm::fs),?_,λp4 hp4=>?_⟩
          ·have e1:upd (upd H5 p1 (.tup [.str nm])) l3 (.tup fs) p1=some (.tup [.str nm]):=by rw[aC (aD ec hc)];exact ec
           have e2:upd (upd H5 p1 (.tup [.str nm])) l3 (.tup fs) l3=some (.tup fs):=ec;unfold catO;simp only[e1,e2];refine ai ⟨ao (m:=100) (by simp;lia) ad,dl,λz=>by rw[z]at h;simp at h⟩
          ·refine q _ _ (s7.trans (s4.trans (aF.upd hp4))) ?_;rw[hk,EB dk];exact⟨p4,_,rfl,ec,.str nm,fs,rfl,rfl,Reps.same (s4.trans (aF.upd hp4)) g5⟩
        ·have h:¬1<fs.length:=by have:=of_decide_eq_false h;lia
         have g6:jW H5 Y (.str nm) (some (.str z)):=by have:=jW.k (k:=.inr nm) (g1 _ _ d2);rw[vO,hz]at this;exact this
         refine⟨_,rfl,_,rfl,_,rfl,.str nm,X _ s7,Y,.str z,rfl,g6,(show 1<=sizeLine by decide),λp1 O=>.inr ⟨.lst (fs++[.str z]),rL (by rw[aC (aD g4 O)];exact g4) ec (ao (m:=100) (by simp;lia) ad),λp2 hp2=>?_⟩⟩;have s8:aF H5 (upd (upd H5 p1 (.lst [.str z])) p2 (.lst (fs++[.str z]))):=(aF.upd O).trans (aF.upd hp2);cases hl:cJ os with
         | nil =>
          rw[hl]at g5 hk;cases g5;exact⟨.str z,by rw[ixV_l ec];rfl,q _ _ (s7.trans s8) (by rw[hk];rfl)⟩
         | cons g gs =>
          rw[hl]at g5 hk lf;have en:gs=[]:=by rw[aq]at lf;exact List.length_eq_zero_iff.mp dk
          subst en;obtain⟨y,r,rfl,ry,_⟩:=g5;exact⟨y,by rw[ixV_l ec,List.cons_append,atI_zero],q _ _ (s7.trans s8) (by rw[hk];exact aY.same s8 ry)⟩
def SM (F:fV K "_law_flat" "_law_flat" eY f fd)(T:Txt mg)(d:∀n,dS P w K mg base bU (n+2) "_law_ahead" (lZ n))(c:dS P w K mg base bU 1 "_law_opened" qB)
  (l:mg "_law_flat" = some (.ref f)) (o:PySem.W.keepIn K (.ref f)=true) (hb:eW K fd iX []):∀n,cH P w K mg base bU (n+3) f fd iX (v9 n):=by
 intro n
 induction n using Nat.strongRecOn with
 | ind n g =>
  exact RX n F T (d n) c ⟨f,fd,_,⟨λvs H Q E ⟨m,e,h⟩=>(g m e).len vs H Q E h,λA outer s H args us vs Q E j p hb i ⟨m,e,h⟩=>((g m e).mono dk).run A outer s H args us vs Q E j p hb i h⟩,l,o,hb⟩
def NQ (F:fV K "_law_flat" "_law_flat" eY f fd)(T:Txt mg)(d:∀n,dS P w K mg base bU (n+2) "_law_ahead" (lZ n))(c:dS P w K mg base bU 1 "_law_opened" qB)
  (e:mg "_law_flat" = some (.ref f)) (g:PySem.W.keepIn K (.ref f)=true) (hb:eW K fd iX []) (n:Nat):dS P w K mg base bU (n+3) "_law_flat" (v9 n):=⟨f,fd,_,SM F T d c e g hb n,e,g,hb⟩
def Reps.rev:∀{ds:List D} {vs:List V},Reps H ds vs->Reps H ds.reverse vs.reverse
 | [],_,e=>by cases e;rfl
 | d::ds,_,⟨x,r,e,a,b⟩=>by subst e;rw[List.reverse_cons,List.reverse_cons];exact Reps.snoc a (Reps.rev b)
noncomputable def mulO (c:cU)(n:Str):Option Int:=(c.find? λr=>decide (r.1=n)).map (·.2)
noncomputable def mulV (c:cU)(n:Str):V:=((mulO c n).map V.int).getD .non
noncomputable def nulV (sm:cC)(n:Str):V:=((zr sm n).map V.str).getD .non
def MM (n:Str):∀c:cU,valV (c.map λr=>((.inr r.1,V.int r.2):cR×V)) (.inr n)=(mulO c n).map V.int
 | []=>rfl
 | r::l=>by
  by_cases e:r.1=n
  ·rw[bf,k8 (by rw[e])];simp[mulO,e]
  ·rw[bf,lE (λz=>e (by cases z;rfl)),MM n l];simp[mulO,e]
structure iG (K:dq)(C:Addr)(fx:cU)(sm:cC)(H:Hp)(g:Addr):Prop where
 cls:MI K C
 n1:iZ K C "many_by_name"
 n2:iZ K C "nought_by_name"
 ex:∃dx fs dm dn,H g=some (.ins C dx fs)/\fs.lookup ("many" : Str)=none/\fs.lookup ("nought" : Str)=none/\fs.lookup ("many_by_name" : Str)=some (.ref dm)/\fs.lookup ("nought_by_name" : Str)=some (.ref dn) /\
  H dm=some (.dK (fx.map λr=>(.inr r.1,.int r.2)))/\H dn=some (.dK (sm.map λr=>(.inr r.1,.str r.2)))
def iG.same (h:iG K C fx sm H g)(s:aF H H'):iG K C fx sm H' g:=by obtain⟨a,b,c,p,fs,r,q,o,m,l,j,i,e,d⟩:=h;exact⟨a,b,c,p,fs,r,q,s _ _ o,m,l,j,i,s _ _ e,s _ _ d⟩
def F1 (K:dq)(C:Addr):Sp:=λvs H Q _=>∃(g:Addr) (n:Str) (fx:cU) (sm:cC),vs=[.ref g,.str n]/\iG K C fx sm H g/\Q (mulV fx n) H
def RS (F:fV K "many" "Signs.many" eC f fd)(T:Txt mg):cH P w K mg base bU 1 f fd mP (F1 K C):=by
 refine F.ok yL (λvs H Q E h=>?_) (λG A outer s H vs Q E o h=>?_)
 ·obtain⟨g,n,x,sm,rfl,_⟩:=h;rfl
 ·obtain⟨g,n,x,sm,rfl,⟨l,j,I,z,fs,B,J,i,u,t,e,r,c,p⟩,q⟩:=h;have m:=o.units;refine⟨_,(aG (aL (wG (aT K rfl (aZ aK T.n_isinstance (aA (pv 1) (aA (cF (v:=V.ty "str") rfl T.n_str rfl rfl) aB))) (λ_=>rfl)) (D7 (aj (ca ad _) m) (NM (pv 0) rfl) (pv 1) ⟨rfl,rfl,rfl,rfl⟩) BQ))),?_⟩
  try dsimp only[cxOf,Cx.nox]
  simp only[mS];clear o F T m;have d:=jW.k (k:=.inr n) c;rw[MM]at d;have keep:=aI q (aI l (aI j (aI i (aI e (aI c d)))));clear q l j I i u t e r c p d
  walk_at "rd"
  obtain⟨q,l,j,i,e,c,d⟩:=keep;refine⟨true,rfl,?_⟩;rw[ai rfl];exact⟨_,rfl,g,C,z,fs,_,rfl,i,l,j,e,B,rfl,.inl ⟨_,.inl c⟩,_,rfl,_,d,q⟩
def qC (K:dq)(C:Addr):Sp:=λvs H Q _=>∃(g:Addr) (n:Str) (fx:cU) (sm:cC),vs=[.ref g,.str n]/\iG K C fx sm H g/\Q (nulV sm n) H
def KZ (F:fV K "nought" "Signs.nought" dH f fd)(T:Txt mg):cH P w K mg base bU 1 f fd jP (qC K C):=by
 refine F.ok uR (λvs H Q E h=>?_) (λG A outer s H vs Q E o h=>?_)
 ·obtain⟨g,n,x,sm,rfl,_⟩:=h;rfl
 ·obtain⟨g,n,x,sm,rfl,⟨l,I,j,z,fs,J,B,i,u,t,r,e,p,c⟩,q⟩:=h;have m:=o.units;refine⟨_,(aG (aL (wG (aT K rfl (aZ aK T.n_isinstance (aA (pv 1) (aA (cF (v:=V.ty "str") rfl T.n_str rfl rfl) aB))) (λ_=>rfl)) (D7 (aj (ca ad _) m) (NM (pv 0) rfl) (pv 1) ⟨rfl,rfl,rfl,rfl⟩) BQ))),?_⟩
  try dsimp only[cxOf,Cx.nox]
  simp only[jR];clear o F T m;have d:=jW.k (k:=.inr n) c;rw[vO]at d;have keep:=aI q (aI l (aI j (aI i (aI e (aI c d)))));clear q l I j i u t r e p c d
  walk_at "rd"
  obtain⟨q,l,j,i,e,c,d⟩:=keep;refine⟨true,rfl,?_⟩;rw[ai rfl];exact⟨_,rfl,g,C,z,fs,_,rfl,i,l,j,e,B,rfl,.inl ⟨_,.inl c⟩,_,rfl,_,d,q⟩
def WS (h:isWd c):inTx "abcdefghijklmnopqrstuvwxyz0123456789" c=true:=by
 have a:∀j:Fin 26,inTx "abcdefghijklmnopqrstuvwxyz0123456789" (97+j.1)=true:=by decide +kernel
 have b:∀j:Fin 10,inTx "abcdefghijklmnopqrstuvwxyz0123456789" (48+j.1)=true:=by decide +kernel
 unfold isWd at h;rcases h with h|h
 ·have:=a ⟨c - 97,dk⟩;rw[show 97+(c - 97)=c by lia]at this;exact this
 ·have:=b ⟨c - 48,dk⟩;rw[show 48+(c - 48)=c by lia]at this;exact this
def EO (h:z.length<=sizeLine):lenV H (.str z)=some z.length:=ai h
def CH (h:z.length<=sizeLine):ixV H (.str z) (.int i)=(atI z.cps.toList i).map λc=>.str ⟨#[c]⟩:=ai h
def F0:Sp:=λvs H Q _=>∃x:Str,vs=[.str x]/\(bR x\/jQ x)/\∀H',aF H H'->(bR x->Q (.bl true) H')/\(jQ x->Q (.bl false) H')
def RK (F:fV K "is_wish" "is_wish" lN f fd)(T:Txt mg):cH P w K mg base bU 1 f fd AT F0:=by
 refine F.ok F5 (λvs H Q E h=>?_) (λcdv A outer s H vs Q E L h=>?_)
 ·obtain⟨x,rfl,_⟩:=h;rfl
 ·obtain⟨x,rfl,g,q⟩:=h;have J:=L.units
  refine⟨_,(aE (bQ (PW.pt (jJ (cZ (aT K rfl (aZ aK T.n_isinstance (aA (pv 0) (aA (cF (v:=V.ty "str") rfl T.n_str rfl rfl) aB))) (λ_=>rfl))) (iD (cZ (nL qT qT aJ (aZ bV T.n_len (aA (pv 0) aB)) (gW T.c_LONGEST_WISH rfl)))))) (aG (aL oS)) aO)
   (aG (aL (NO (dY (eF J) (cA dM (pv 0) aJ (λ_ _=>rfl)) iE) (GD (aZ (tH rfl) T.n_all (aA (gZ rfl (bN.by (N:=tI) (names:=(aH lN).names) (N':=["sign"]) (src:=[none]) (by decide +kernel) rfl rfl) (NG (fS UW (pv 0) (eV aJ) gB)) (λ_ _ _ _=>(eD (i:=0) (dL ["sign"]) rfl (Or.inl rfl))) (λ_ _ _ _=>dW) (λ_ _ _ _=>(dY sO (pv 0) (gW T.c_WISH_SIGNS rfl) (by with_unfolding_all rfl)))) aB))))))),?_⟩
  try dsimp only[cxOf,Cx.nox]
  simp only[tI];clear L F T J;have keep:=aI q g;clear q g
  walk_at "rd"
  obtain⟨q,g⟩:=keep;have X:x.length<=20:=by
   rcases g with⟨l,rfl,_,u,_⟩|h
   ·show(63::l).toArray.size<=20;rw[ag,aq];lia
   ·have:=h.2.1;rw[br]at this;exact ao this ad
  have hz:x.length<=sizeLine:=ao X ad;refine⟨true,rfl,?_⟩;rw[ab ad];refine⟨.int x.length,by rw[EO hz];rfl,_,rfl,?_⟩;rcases g with I|t
  ·obtain⟨l,rfl,h1,u,O⟩:=id I;have C:(Str.mk (63::l).toArray).length=l.length+1:=by show(63::l).toArray.size=_;rw[ag,aq]
   have j:=λH' B=>(q H' B).1 I;have S:ixV H (.str ⟨(63::l).toArray⟩) (.int 0)=some (.str ⟨#[63]⟩):=by rw[CH hz];show(atI (63::l).toArray.toList 0).map _=_;rw[List.toList_toArray,atI_zero];rfl
   rw[ai (by rw[C];lia)];refine⟨_,rfl,?_⟩;rw[ab (by rw[C];lia)];refine⟨_,S,?_⟩;rw[rEqD_ss]

   refine⟨_,rfl,?_⟩;have G:decide ((⟨#[63]⟩:Str)=Str.ofString "?")=true:=by decide +kernel
   rw[ai G];have R:tl1 ⟨(63::l).toArray⟩=⟨l.toArray⟩:=by unfold tl1;simp
   refine⟨_,rfl,1,rfl,⟨(63::l).toArray⟩,rfl,rfl,rfl,by rw[C];lia,hz,tl1 ⟨(63::l).toArray⟩,rfl,?_,?_⟩
   ·rw[R];simp only[List.all_toArray,List.all_eq_true,decide_eq_true_eq];intro c hc;have:=O c hc;unfold isWd at this
    lia
   ·rw[R];refine AG (λi d z H'=>H'=H/\d=(List.replicate i true).map V.bl/\i<=8/\∃o:Option V,z=[o]) ⟨rfl,rfl,ad,none,rfl⟩ ?_ ?_
    ·rintro i c d z H' hc ⟨rfl,rfl,hi,o,rfl⟩;have hc':l[i]?=some c:=by simpa using hc
     have W:c∈l:=bj hc';have hi':i<l.length:=(cs.mp hc').1;refine⟨_,rfl,_,rfl,_,rfl,?_⟩;have e:=WS (O c W);unfold inTx at e;dsimp only;refine⟨aj (m:=100) (by simp;lia) ad,rfl,?_,dk,_,rfl⟩;rw[e,List.replicate_succ',az];rfl
    ·rintro d z H' ⟨rfl,rfl,hi,o,rfl⟩ p U;refine⟨p,rfl,List.replicate _ true,ec,?_⟩;have:(List.replicate (Str.mk l.toArray).cps.size true).all id=true:=by simp
     rw[this];exact j _ (aF.upd U)
  ·have j:=λH' B=>(q H' B).2 t;by_cases u:(2:Int)<=x.length
   ·rw[ai u];refine⟨_,rfl,?_⟩;have:=t.2.1;rw[br]at this;have e9:(x.length:Int)<=9:=by show(x.cps.size:Int)<=9;lia
    rw[ab dk];cases hc:x.cps.toList with
    | nil=>have:=t.1;rw[hc]at this;simp at this
    | cons c r =>
     have Y:=t.2.2 c (by rw[hc];exact ax);refine⟨.str ⟨#[c]⟩,by rw[CH hz,hc,atI_zero];rfl,?_⟩;rw[rEqD_ss];refine⟨_,rfl,?_⟩;rw[ab]
     ·exact j _ (aF.refl _)
     ·intro w;have:=bu w;have e:(⟨#[c]⟩:Str).cps=(Str.ofString "?").cps:=by rw[this]
      have Z:(Str.ofString "?").cps = #[63]:=by decide +kernel
      rw[Z]at e;have:c=63:=by simpa using e
      lia
   ·rw[ab u];exact j _ (aF.refl _)
def EH (so:aW fx sm)(h:(n,k)∈fx):mulO fx n=some k:=by
 have nd:=(List.nodup_append.mp so.nd).1;unfold mulO;clear so
 induction fx with
 | nil=>cases h
 | cons r l c =>
  rw[bf,da]at nd;obtain rfl|h:=cw.mp h
  ·simp
  ·have ne:r.1≠n:=λe=>nd.1 (by rw[e];exact List.mem_map_of_mem (f:=(·.1)) h);rw[List.find?_cons,bo ne];exact c h nd.2
def QB (h:n∉sm.map (·.1)):zr sm n=none:=by
 unfold zr;rw[List.find?_eq_none.mpr]
 ·rfl
 ·intro r c e;exact h (cy.mpr ⟨r,c,bu e⟩)
def QA (h:n∈sm.map (·.1)):∃z,zr sm n=some z:=by
 obtain⟨r,c,e⟩:=cy.mp h;cases q:sm.find? (λr=>decide (r.1=n))with
 | none=>exact absurd (bi e) (List.find?_eq_none.mp q r c)
 | some z=>exact⟨z.2,by unfold zr;rw[q];rfl⟩
def IZ (K:dq)(C:Addr):Sp:=λvs H Q _=>∃(g:Addr) (fx:cU) (sm:cC) (os:aV) (d:D) (v:V),vs=[.ref g,v]/\iG K C fx sm H g/\aW fx sm/\(∀x∈os,bR x)/\aY H d v/\aS fx sm os d/\lvs d<=300/\∀H',aF H H'->Q (.bl true) H'
def N7 (F:fV K "is_built" "is_built" mE f fd)(T:Txt mg)(c:dS P w K mg base bU 1 "is_wish" F0)(j:MH P w K mg base bU 1 C "many" (F1 K C))(i:MH P w K mg base bU 1 C "nought" (qC K C)):cH P w K mg base bU 2 f fd xU (IZ K C):=by
 refine F.ok DU (λvs H Q E h=>?_) (λcdv A outer s H vs Q E t h=>?_)
 ·obtain⟨g,B,sm,os,d,v,rfl,_⟩:=h;rfl
 ·obtain⟨g,B,sm,os,d,v,rfl,sg,so,ho,rep,tm,o,q⟩:=h;have X:=t.units
  refine⟨_,(aE (bQ (aT K rfl (aZ aK T.n_isinstance (aA (pv 1) (aA (cF (v:=V.ty "str") rfl T.n_str rfl rfl) aB))) (λ_=>rfl)) (aG (aL (WV (aU c t (aA (pv 1) aB)) (GD (dY (eF X) (BR j (t.mono ad) pass0 (pv 0) (aA (pv 1) aB)) aJ))))) aO)
   (aE (bQ (PW.pt (jJ (cZ (aT K rfl (aZ aK T.n_isinstance (aA (pv 1) (aA (fM (aA (cF (v:=V.ty "list") rfl T.n_list rfl rfl) (aA (cF (v:=V.ty "tuple") rfl T.n_tuple rfl rfl) aB))) aB))) (λ_=>rfl))) (iD (aR (kQ X) (aZ bV T.n_len (aA (pv 1) aB)) aJ)))) (aG (aL oS)) aO)
   (aE (bQ (aR RE (BR i (t.mono ad) pass0 (pv 0) (aA (cA dM (pv 1) aJ (λ_ _=>rfl)) aB)) BQ) (aG (aL (dY T1 (aZ bV T.n_len (aA (pv 1) aB)) aJ))) aO)
   (aG (aL (dY (eF X) (BR j (t.mono ad) pass0 (pv 0) (aA (cA dM (pv 1) aJ (λ_ _=>rfl)) aB)) (bW sK (aZ bV T.n_len (aA (pv 1) aB)) aJ))))))),?_⟩
  try dsimp only[cxOf,Cx.nox]
  simp only[pR];clear t F T X c j i;have keep:=aI q (aI sg (aI so (aI ho (aI rep (aI tm o)))));clear q sg so ho rep tm o
  walk_at "rd"
  obtain⟨q,sg,so,ho,rep,tm,o⟩:=keep;obtain⟨dx,fs,_,_,U,Z,h3,_⟩:=sg.ex;rcases FZ tm with⟨x,rfl,L⟩|⟨n,ds,hd,hh,tms⟩
  ·cases (show v = .str x from rep);refine⟨true,rfl,?_⟩;rw[ai rfl];rcases L with L|L
   ·have W:=ho x L;refine⟨x,rfl,.inl W,λH' N=>⟨λ_=>⟨true,rfl,?_⟩,λY=>?_⟩⟩
    ·rw[ai rfl];exact q _ N
    ·obtain⟨l,rfl,_⟩:=W;have:=Y.2.2 63 dl
     lia
   ·obtain⟨r,t,e⟩:∃r∈B,r.1=x/\r.2=0:=by unfold zeros at L;obtain⟨r,U,rfl⟩:=cy.mp L;obtain⟨Z,h3⟩:=db.mp U;exact⟨r,Z,rfl,by simpa using h3⟩
    have Y:jQ x:=so.nm x (cj _ (cy.mpr ⟨r,t,e.1⟩));have hm:mulO B x=some 0:=EH so (by rw[←e.1,←e.2];exact t);refine⟨x,rfl,.inr Y,λH' N=>⟨λW=>?_,λ_=>⟨false,rfl,?_⟩⟩⟩
    ·obtain⟨l,rfl,_⟩:=W;have:=Y.2.2 63 dl
     lia
    ·rw[ab ad];refine⟨_,rfl,g,dx,fs,rfl,N _ _ U,Z,_,rfl,g,x,B,sm,rfl,sg.same N,?_⟩;show rEqD (mulV B x) _ _ _;unfold mulV;rw[hm];show rEqD (.int 0) _ _ _;rw[rEqD_ii];exact q _ N
  ·obtain⟨J,m,rfl,hbb,hseq,res⟩:∃J m,v = .ref J/\isV H (.ref J) (.ty "str")=some false/\fB H J (.str n::m)/\Reps H ds m:=by
    rcases hd with rfl|rfl
    ·obtain⟨a,vs,rfl,S,_,m,rfl,e1,r⟩:=rep;cases e1;exact⟨a,m,rfl,nN S,.inr S,r⟩
    ·obtain⟨a,vs,rfl,S,_,m,rfl,e1,r⟩:=rep;cases e1;exact⟨a,m,rfl,sY S,.inl S,r⟩
   have hlen:=Reps.len res;refine⟨false,hbb,?_⟩;rw[ab ad];refine⟨ad,λp hp=>?_⟩;have u:aF H (upd H p (.tup [.ty "list",.ty "tuple"])):=aF.upd hp;have I:upd H p (.tup [.ty "list",.ty "tuple"]) p=some (.tup [.ty "list",.ty "tuple"]):=ec;generalize upd H p (.tup [.ty "list",.ty "tuple"])=H1 at u I⊢;have G:=hseq.same u;have O:ixV H1 (.ref J) (.int 0)=some (.str n):=by
    rcases G with e|e
    ·rw[ixV_l e,atI_zero]
    ·rw[ixV_t e,atI_zero]
   have ln:lenV H1 (.ref J)=some (m.length+1):=by
    rcases G with e|e
    ·rw[lenV_l e];rfl
    ·rw[lenV_t e];rfl
   refine⟨true,by rcases G with e|e;exact OW e I;exact OV e I,?_⟩;rw[ab ad];have R:=pN hh;refine⟨_,by rw[ln];rfl,_,rfl,?_⟩;rw[ab dk];refine⟨_,rfl,g,dx,fs,rfl,u _ _ U,h3,_,rfl,.str n,O,g,n,B,sm,rfl,sg.same u,?_⟩;rcases hh with⟨k0,R⟩|⟨k2,R⟩
   ·have nin:n∉sm.map (·.1):=λz=>(List.nodup_append.mp so.nd).2.2 n (List.mem_map_of_mem (f:=(·.1)) R) n z rfl;have e0:nulV sm n = .non:=by unfold nulV;rw[QB nin];rfl
    have em:mulV B n = .int (ds.length:Int):=by unfold mulV;rw[EH so R];rfl
    rw[e0];refine⟨false,rfl,?_⟩;rw[ab ad];refine⟨_,rfl,g,dx,fs,rfl,u _ _ U,Z,_,rfl,.str n,O,g,n,B,sm,rfl,sg.same u,?_⟩;refine⟨_,by rw[ln];rfl,_,rfl,?_⟩;rw[em,rEqD_ii,bi dk];exact q _ u
   ·obtain⟨z,hz⟩:=QA R;have e0:nulV sm n = .str z:=by unfold nulV;rw[hz];rfl
    rw[e0];refine⟨true,rfl,?_⟩;rw[ai rfl];refine⟨_,by rw[ln];rfl,_,rfl,?_⟩;rw[bi (p:=_) dk];exact q _ u
mutual
noncomputable def nds:D->Nat
 | .tup (_::ds)=>1+ndss ds
 | .lst (_::ds)=>1+ndss ds
 | _=>1
noncomputable def ndss:List D->Nat
 | []=>0
 | d::ds=>nds d+ndss ds
end
def u8 (d:D):1<=nds d:=by unfold nds;split <;> lia
def lR:∀ds:List D,ds.length<=ndss ds
 | []=>ac _
 | d::ds=>by rw[ndss,aq];have:=u8 d;have:=lR ds;lia
def g7:∀ds c:List D,ndss (ds++c)=ndss ds+ndss c
 | [],c=>by simp[ndss]
 | d::ds,c=>by rw[List.cons_append,ndss,g7 ds c,ndss];lia
def wN:∀ds:List D,ndss ds.reverse=ndss ds
 | []=>rfl
 | d::ds=>by rw[List.reverse_cons,g7,wN ds,ndss,ndss,ndss];lia
def ML {c:TT}{i:TS}{D:jV}{e:St}{H:Hp}(Pv:Nat->St->Hp->Prop)(n:Nat)(l:Pv n e H)
  (j:∀n e H,Pv n e H->∀R:Bool->Hp->Prop,(∀H',i {D with nx:=λd g=>∃m,m<n/\Pv m d g,ct:=λd g=>∃m,m<n/\Pv m d g,bk:=D.nx} e H'->R true H')->(∀H',D.nx e H'->R false H')->c e H R):vV c i D e H:=by
 refine⟨Pv,⟨n,l⟩,?_⟩;intro m e H p;refine j m e H p _ (λH' h=>?_) (λH' h=>?_)
 ·rw[ai rfl];exact⟨_,λd g z=>z,h⟩
 ·rw[ab ad];exact h
def C0:del (upd H p o) p=del H p:=by
 funext b;unfold del upd;by_cases e:b=p
 ·rw[ai e,ai e]
 ·rw[ab e,ab e,ab e]
def JZ (h:H p=none):aF (del H t) (del (upd H p o) t):=λb u e=>by obtain⟨c,d⟩:=dR e;exact dB (by rw[aC (aD c h)];exact c) d
def lT (s:aF H H'):aF (del H t) (del H' t):=λb u e=>by obtain⟨d,c⟩:=dR e;exact dB (s _ _ d) c
theorem j7:∀{ds:List D} {vs:List V},Reps H (ds++[d]) vs->∃us v,vs=us++[v]/\Reps H ds us/\aY H d v
 | [],vs,⟨v,r,e,h,h'⟩=>by
  cases (show r=[]from h');exact⟨[],v,e,rfl,h⟩
 | c::ds,vs,⟨v,r,e,h,h'⟩=>by obtain⟨us,u,j,i,g⟩:=j7 (ds:=ds) h';exact⟨v::us,u,by rw[e,j];rfl,⟨v,us,rfl,h,i⟩,g⟩
noncomputable def tp (r:D×Nat):D:=.tup [r.1,.int r.2]
def YY (g t:Addr)(v:V)(e:cU)(sm:cC)(os:aV)(H:Hp)(n:Nat)(d:St)(c:Hp):Prop:=∃(ps:List (D×Nat)) (vs:List V) (o3 o4:Option V),d=[some (.ref g),some v,some (.ref t),o3,o4]/\c t=some (.lst vs)/\aF H (del c t) /\
 Reps (del c t) (ps.map tp) vs/\(∀r∈ps,aS e sm os r.1/\lvs r.1<=300/\r.2+depD r.1<=300)/\ndss (ps.map (·.1))=n/\n<=8000
def YZ (t:Addr)(ds:List D)(k:Nat)(j:Hp)(i:Nat)(c:List V)(g:St)(e:Hp):Prop:=∃h:Option V,g=[h,some (.int k)]/\aF j e/\Reps (del e t) ((ds.reverse.take i).map λd=>tp (d,k+1)) c
def IA (h:H t=none)(s:aF H H2):aF H (del H2 t):=λb u e=>dB (s _ _ e) (aD e h)
def JY (s:aF H (del H2 t)):aF H H2:=λb u e=>(dR (s _ _ e)).1
def BC (K:dq)(C:Addr):Sp:=λvs H Q _=>∃(g:Addr) (fx:cU) (sm:cC) (os:aV) (d:D) (v:V),vs=[.ref g,v]/\iG K C fx sm H g/\aW fx sm/\(∀x∈os,bR x)/\aY H d v/\aS fx sm os d/\lvs d<=300/\depD d<=300/\nds d<=8000/\∀H',aF H H'->Q .non H'
def N6 (F:fV K "check_term" "check_term" gQ f fd)(T:Txt mg)(j:dS P w K mg base bU 2 "is_built" (IZ K C)):cH P w K mg base bU 3 f fd rO (BC K C):=by
 refine F.ok iJ (λvs H Q E h=>?_) (λcdv A outer s H vs Q E hr h=>?_)
 ·obtain⟨g,fx,sm,os,d,v,rfl,_⟩:=h;rfl
 ·obtain⟨g,fx,sm,os,d,v,rfl,sg,so,ho,rep,tm,l100,d100,n1000,q⟩:=h;have hu:=hr.units
  refine⟨_,(aE (bP 2 iJ.nd (cQ (aA (fM (aA (pv 1) (aA aJ aB))) aB)))
   (aG (qP dj (aT K rfl (pv 2) (λ_=>rfl)) (aE (sI (BT df PySem.F.slot_list_pop PySem.F.type_list_pop GP (pv 2)) (GB rfl (jK (h8 3 iJ.nd) (jK (eD (i:=4) iJ.nd rfl (Or.inr rfl)) BP))))
   (aE (bQ (PW.pt (jJ (aR EA (pv 4) (gW T.c_DEEPEST rfl)) (iD (cZ (aT K rfl (aU j hr (aA (pv 0) (aA (pv 3) aB))) (λ_=>rfl)))))) (aG eK) aO)
   (aG (bQ (cZ (aT K rfl (aZ aK T.n_isinstance (aA (pv 3) (aA (cF (v:=V.ty "str") rfl T.n_str rfl rfl) aB))) (λ_=>rfl))) (aG (cW (j8 df PySem.F.slot_list_extend PySem.F.type_list_extend B3 (pv 2) (aA (gZ rfl (bN.by (N:=mQ) (names:=(aH gQ).names) (N':=["part","depth"]) (src:=[none,some 4]) (by decide +kernel) rfl rfl) (dF K rfl (zG I8 (pv 3) gB (eV aJ) (eV (TZ MO aJ)))) (λ_ _ _ _=>(eD (i:=0) (dL ["part","depth"]) rfl (Or.inl rfl))) (λ_ _ _ _=>dW) (λ_ _ _ _=>(fM (aA (pv 0) (aA (bW bZ (pv 1) aJ) aB))))) aB)))) aO))))))),?_⟩
  try dsimp only[cxOf,Cx.nox]
  clear hr F T hu j;simp only[tComp_fn];refine⟨_,rfl,show 2<=sizeLine by decide,λp hp=>⟨show 1<=sizeLine by decide,λt ht=>?_⟩⟩;have s1:aF H (upd H p (.tup [v,.int 0])):=aF.upd hp;have L:upd H p (.tup [v,.int 0]) p=some (.tup [v,.int 0]):=ec;generalize upd H p (.tup [v,.int 0])=H1 at s1 L ht⊢;have ht0:H t=none:=s1.free ht;have e1:del (upd H1 t (.lst [.ref p])) t=del H1 t:=C0;have sd:aF H (del H1 t):=IA ht0 s1;change vV _ _ _ _ (upd H1 t (.lst [.ref p]));refine ML (YY g t v fx sm os H) (nds d) ⟨[(d,0)],[.ref p],none,none,rfl,ec,by rw[e1];exact sd,?_,?_,by simp[ndss],n1000⟩ ?_
  ·rw[e1];exact⟨.ref p,[],rfl,⟨p,_,rfl,dB L (aD L ht),v,_,rfl,aY.same sd rep,.int 0,[],rfl,rfl,rfl⟩,rfl⟩
  ·intro r hr;rw[cu.mp hr];exact⟨tm,l100,by simpa using d100⟩
  ·rintro n σ H2 ⟨ps,vs,o3,o4,rfl,h2,sH,c,ok,rfl,S⟩ R hT hF;rcases List.eq_nil_or_concat ps with rfl|⟨W,r,rfl⟩
   ·have:vs=[]:=c;subst this;exact⟨_,rfl,false,.inl ⟨[],fL.of h2,rfl⟩,hF H2 (q _ (JY sH))⟩
   ·rw[List.concat_eq_append]at c ok S hT;rw[az,bf,List.map_nil]at c S hT;obtain⟨us,u,rfl,reps',ru⟩:=j7 c;obtain⟨a,_,rfl,ha,x,_,rfl,rx,_,_,rfl,e2,e3⟩:=ru;cases e2;cases (show _=[]from e3);obtain⟨tmr,lr,dr⟩:=ok r dl;have hat:H2 a=some (.tup [x,.int r.2])/\a≠t:=dR ha;refine⟨_,rfl,true,.inl ⟨_,fL.of h2,dl⟩,hT H2 ⟨_,rfl,tyL h2,t,_,.ref a,rfl,rfl,h2,dl,a,[x,.int r.2],rfl,iF.of (by rw[aC hat.2];exact hat.1),rfl,x,_,rfl,_,_,rfl,rfl,_,rfl,_,_,rfl,rfl,_,rfl,ite_on (λz=>absurd (bu z) dk) λ_=>?_⟩⟩;clear hT hF;rw[List.dropLast_concat];have c:=reps';have e3:del (upd H2 t (.lst us)) t=del H2 t:=C0;have h3:upd H2 t (.lst us) t=some (.lst us):=ec;rw[←e3]at sH c rx;generalize upd H2 t (.lst us)=H3 at e3 h3 sH c rx⊢;have nl:us.length<=8000:=by
     have:=Reps.len c;rw[ae]at this;have h1:=lR (W.map (·.1));rw[ae]at h1;rw[g7]at S
     lia
    refine⟨_,rfl,_,rfl,g,fx,sm,os,r.1,x,rfl,sg.same (JY sH),so,ho,aY.same (g9 _ _) rx,tmr,lr,λY s4=>⟨true,rfl,?_⟩⟩;have h4:=s4 _ _ h3;have sd4:=lT (t:=t) s4;have sH4:=sH.trans sd4;have U:=Reps.same sd4 c;have O:=aY.same sd4 rx;have rest:∀Z∈W,aS fx sm os Z.1/\lvs Z.1<=300/\Z.2+depD Z.1<=300:=λZ hr'=>ok Z (cj _ hr');rw[g7]at S⊢;rcases FZ tmr with⟨y,ey,hy⟩|⟨n,ds,hd,hh,tms⟩
    ·rw[ey]at O;cases (show x = .str y from O);refine⟨_,rfl,.str y,.ty "str",true,rfl,rfl,true,rfl,?_⟩;exact⟨_,by rw[ndss,ndss];have:=u8 r.1;lia,W,us,_,_,rfl,h4,sH4,U,rest,rfl,dk⟩
    ·obtain⟨va,I,rfl,hbb,hseq,res⟩:∃va I,x = .ref va/\isV Y (.ref va) (.ty "str")=some false/\fB Y va (.str n::I)/\Reps (del Y t) ds I:=by
      rcases hd with e|e
      ·rw[e]at O;obtain⟨a,vs,rfl,ha,_,I,rfl,e1,r⟩:=O;cases e1;exact⟨a,I,rfl,nN (dR ha).1,.inr (dR ha).1,r⟩
      ·rw[e]at O;obtain⟨a,vs,rfl,ha,_,I,rfl,e1,r⟩:=O;cases e1;exact⟨a,I,rfl,sY (dR ha).1,.inl (dR ha).1,r⟩
     have hnd:nds r.1=1+ndss ds:=by rcases hd with e|e <;> rw[e,nds]
     have hdp:depD r.1=depDs ds+1:=by
      rcases hd with e|e
      ·rw[e,depD,depDs,show depD (.str n)=0 from rfl];lia
      ·rw[e,depD,depDs,show depD (.str n)=0 from rfl];lia
     have hlv:lvs r.1=lvss ds:=by rcases hd with e|e <;> rw[e,lvs]
     refine⟨_,rfl,.ref va,.ty "str",false,rfl,hbb,false,rfl,?_⟩;refine⟨_,rfl,tyL h4,_,rfl,0,rfl,1,rfl,-1,rfl,rfl,rfl,rfl,va,_,rfl,hseq,dl,λb o hb ho=>?_⟩;rw[zD]at ho;refine⟨b,I.reverse,rfl,by rcases ho with⟨rfl,_⟩|⟨rfl,_⟩;exact .inl ec;exact .inr ec,λJ hJ=>?_⟩;have s5:aF Y (upd Y b o):=aF.upd hb;have hb5:upd Y b o b=some o:=ec;have nbt:b≠t:=(aD h4 hb).symm;generalize upd Y b o=H5 at s5 hb5 hJ⊢;refine dC hJ (YZ t ds r.2 H5) ⟨none,rfl,aF.refl _,rfl⟩ ?_ ?_ ?_
     ·rintro i G σ H' _ ⟨_,_,X,_⟩;rw[hb5,X _ _ hb5]
     ·rintro i y G σ H6 hy ⟨o0,rfl,X,B⟩;obtain⟨e,he,re⟩:=Reps.get (Reps.rev res) hy;have la:=Reps.len B;have h1:=lR ds;refine⟨_,rfl,_,rfl,.inl ⟨_,rfl,(by decide:2<=sizeLine),λp1 L=>⟨aj (m:=8000) ?_ ad,_,rfl,X.trans (aF.upd L),?_⟩⟩⟩
      ·rw[ae,bv,List.length_reverse]at la;rw[ndss,ndss]at S
       lia
      ·have np:p1≠t:=(aD (X _ _ (s5 _ _ h4)) L).symm;have sm5:aF (del Y t) (del (upd H6 p1 (.tup [y,.int (r.2+1)])) t):=lT ((s5.trans X).trans (aF.upd L));rw[ee he,az];have rp:aY (del (upd H6 p1 (.tup [y,.int (r.2+1)])) t) (tp (e,r.2+1)) (.ref p1):=⟨p1,_,rfl,dB ec np,y,_,rfl,aY.same sm5 re,_,[],rfl,rfl,rfl⟩
       exact Reps.snoc rp (Reps.same (JZ L) B)
     ·rintro G σ H6 ⟨o0,rfl,X,B⟩ l hl;have la:=Reps.len B;have lr':=Reps.len res;have h1:=lR ds;have h6:upd H6 l (.lst G) t=some (.lst us):=by rw[aC (aD (X _ _ (s5 _ _ h4)) hl)];exact X _ _ (s5 _ _ h4)
      rw[List.length_reverse,lr',←List.length_reverse (as:=ds),bw]at B;rw[ae,bv,List.length_reverse]at la;rw[ndss,ndss]at S;have s7:aF Y (upd H6 l (.lst G)):=(s5.trans X).trans (aF.upd hl);have e7:del (upd (upd H6 l (.lst G)) t (.lst (us++G))) t=del (upd H6 l (.lst G)) t:=C0;refine⟨t,l,us,G,rfl,rfl,h6,.inl ec,ao (m:=16000) dk ad,ndss (W.map (·.1))+ndss ds,by rw[ndss,ndss];lia,W++ds.reverse.map (λd=>(d,r.2+1)),us++G,_,_,rfl,ec,?_,?_,?_,?_,dk⟩
      ·rw[e7];exact sH4.trans (lT s7)
      ·rw[e7,az,cp];exact Reps.append (Reps.same (lT s7) U) (Reps.same (JZ hl) B)
      ·intro Z hr';rcases cx.mp hr' with h|h
       ·exact rest Z h
       ·obtain⟨e,he,rfl⟩:=cy.mp h;have he:=List.mem_reverse.mp he;obtain⟨i,hi⟩:=List.getElem?_of_mem he;have h2:=B5 hi;have h3:=iU hi;exact⟨tms.get hi,by show lvs e<=300;lia,by show r.2+1+depD e<=300;lia⟩
      ·rw[az,cp,g7];congr 1;rw[show((λx:D×Nat=>x.1) ∘ λd=>(d,r.2+1))=id from rfl,List.map_id,wN]
mutual
def Wk:D->Prop
 | .str _=>True
 | .tup (.str _::ds)=>Wks ds
 | .lst (.str _::ds)=>Wks ds
 | _=>False
def Wks:List D->Prop
 | []=>True
 | d::ds=>Wk d/\Wks ds
end
mutual
noncomputable def wlk:D->List D
 | .tup (.str n::ds)=>.tup (.str n::ds)::wlks ds
 | .lst (.str n::ds)=>.lst (.str n::ds)::wlks ds
 | d=>[d]
noncomputable def wlks:List D->List D
 | []=>[]
 | d::ds=>wlk d++wlks ds
end
def yT:∀ds:List D,wlks ds=ds.flatMap wlk
 | []=>rfl
 | d::ds=>by rw[wlks,yT ds];rfl
def UG (h:Wk d):(∃x,d = .str x)\/∃n ds,(d = .tup (.str n::ds)\/d = .lst (.str n::ds))/\Wks ds:=by
 unfold Wk at h;split at h
 ·exact .inl ⟨_,rfl⟩
 ·exact .inr ⟨_,_,.inl rfl,h⟩
 ·exact .inr ⟨_,_,.inr rfl,h⟩
 ·exact absurd h id
mutual
theorem T6:∀{d:D},Fl d->Wk d
 | .str x,h=>trivial
 | .tup (.str n::ds),h=>by unfold Wk;unfold Fl at h;exact JW h
 | .non,h | .bl _,h | .int _,h | .lst _,h | .tup [],h | .tup (.non::_),h | .tup (.bl _::_),h | .tup (.int _::_),h | .tup (.tup _::_),h | .tup (.lst _::_),h=>by unfold Fl at h;exact absurd h id
theorem JW:∀{ds:List D},Fls ds->Wks ds
 | [],_=>trivial
 | _::_,⟨a,b⟩=>⟨T6 a,JW b⟩
end
def Wks.app:∀{ds c:List D},Wks ds->Wks c->Wks (ds++c)
 | [],_,_,h=>h
 | _::_,_,⟨a,b⟩,h=>⟨a,Wks.app b h⟩
def Wks.rev:∀{ds:List D},Wks ds->Wks ds.reverse
 | [],h=>h
 | d::ds,⟨a,b⟩=>by rw[List.reverse_cons];exact Wks.app (Wks.rev b) ⟨a,trivial⟩
def Wks.unsnoc:∀{ds:List D} {d:D},Wks (ds++[d])->Wks ds/\Wk d
 | [],_,h=>⟨trivial,h.1⟩
 | _::_,_,⟨a,b⟩=>⟨⟨a,(Wks.unsnoc b).1⟩,(Wks.unsnoc b).2⟩
mutual
theorem uX:∀d:D,(wlk d).length<=nds d
 | .tup (.str n::ds)=>by rw[wlk,nds,aq];have:=vN ds;lia
 | .lst (.str n::ds)=>by rw[wlk,nds,aq];have:=vN ds;lia
 | .non | .bl _ | .int _ | .str _ | .tup [] | .lst [] | .tup (.non::_) | .tup (.bl _::_) | .tup (.int _::_) | .tup (.tup _::_) | .tup (.lst _::_) | .lst (.non::_) | .lst (.bl _::_) | .lst (.int _::_) | .lst (.tup _::_) | .lst (.lst _::_)=>by unfold wlk;rw[cm];exact u8 _
theorem vN:∀ds:List D,(wlks ds).length<=ndss ds
 | []=>ac _
 | d::ds=>by rw[wlks,ndss,au];have:=uX d;have:=vN ds;lia
end
def vX:Sp:=λvs H Q _=>∃(d:D) (v:V) (G:Hp),vs=[v]/\aF G H/\aY G d v/\Wk d/\nds d<=8000000/\∀(l:Addr) (ws:List V) (H':Hp),aF H H'->H l=none->H' l=some (.lst ws)->Reps G (wlk d) ws->Q (.ref l) H'
def YA (v:V)(e t:Addr)(d:D)(H G:Hp)(n:Nat)(g:St)(c:Hp):Prop:=∃(fs ts:List D) (ws us:List V) (o:Option V),g=[some v,some (.ref e),some (.ref t),o]/\c e=some (.lst ws)/\c t=some (.lst us)/\aF H c/\Reps G fs ws/\Reps G ts us/\Wks ts /\
 fs++ts.reverse.flatMap wlk=wlk d/\ndss ts=n/\n<=8000000
def KW (F:fV K "walked" "walked" qI f fd)(T:Txt mg):cH P w K mg base bU 1 f fd FH vX:=by
 refine F.ok oC (λvs H Q E h=>?_) (λcdv A outer s H vs Q E hr h=>?_)
 ·obtain⟨d,v,G,rfl,_⟩:=h;rfl
 ·obtain⟨d,v,G,rfl,sG,rep,wk,L,q⟩:=h;have hu:=hr.units
  refine⟨_,(aE (bP 1 oC.nd (cQ aB))
   (aE (bP 2 oC.nd (cQ (aA (pv 0) aB)))
   (aE (qP dj (aT K rfl (pv 2) (λ_=>rfl)) (aE (bP 3 oC.nd (BT df PySem.F.slot_list_pop PySem.F.type_list_pop GP (pv 2)))
   (aE (cW (j8 df dh dg gH (pv 1) (aA (pv 3) aB)))
   (aG (bQ (cZ (aT K rfl (aZ aK T.n_isinstance (aA (pv 3) (aA (cF (v:=V.ty "str") rfl T.n_str rfl rfl) aB))) (λ_=>rfl))) (aG (cW (j8 df PySem.F.slot_list_extend PySem.F.type_list_extend B3 (pv 2) (aA (zG I8 (pv 3) gB (eV aJ) (eV (TZ MO aJ))) aB)))) aO)))))
   (aG (aL (pv 1)))))),?_⟩
  try dsimp only[cxOf,Cx.nox]
  clear hr F T hu;refine⟨show 0<=sizeLine by decide,λj C=>⟨_,rfl,show 1<=sizeLine by decide,λt ht=>?_⟩⟩;change tSeq _ _ _ _ (upd (upd H j (.lst [])) t (.lst [v]));have B:j≠t:=aD ec ht;have U:H t=none:=(aF.upd C).free ht;refine ML (YA v j t d H G) (nds d) ⟨[],[d],[],[v],none,rfl,by rw[aC B];exact ec,ec,(aF.upd C).trans (aF.upd ht),rfl,⟨v,[],rfl,rep,rfl⟩,⟨wk,trivial⟩,dl,by simp[ndss],L⟩ ?_;rintro n σ N ⟨fs,ts,p,us,o,rfl,h1,h2,sH,rf,rt,O,e,rfl,S⟩ R hT hF;rcases List.eq_nil_or_concat ts with rfl|⟨i,r,rfl⟩
  ·cases (show us=[]from rt);refine⟨_,rfl,false,.inl ⟨[],fL.of h2,rfl⟩,hF N ⟨_,rfl,?_⟩⟩;have e:fs=wlk d:=by simpa using e
   rw[e]at rf;exact q j p N sH C h1 rf
  ·rw[List.concat_eq_append]at rt O e S hT;obtain⟨c,u,rfl,rt',Z⟩:=j7 rt;obtain⟨wt',wr⟩:=O.unsnoc;refine⟨_,rfl,true,.inl ⟨_,fL.of h2,dl⟩,hT N ⟨_,rfl,tyL h2,t,_,u,rfl,rfl,h2,dl,?_⟩⟩;clear rt O hT hF;have rt:=rt';have O:=wt';rw[List.dropLast_concat];rw[List.reverse_append,List.reverse_cons,List.reverse_nil,List.nil_append,List.singleton_append,List.flatMap_cons]at e;have h3:upd N t (.lst c) t=some (.lst c):=ec;have f3:upd N t (.lst c) j=some (.lst p):=by rw[aC B];exact h1
   have s3:aF H (upd N t (.lst c)):=λb o hb=>by rw[aC (aD hb U)];exact sH _ _ hb
   generalize upd N t (.lst c)=H3 at h3 f3 s3⊢;have X:upd H3 j (.lst (p++[u])) t=some (.lst c):=by rw[aC B.symm];exact h3
   have f4:upd H3 j (.lst (p++[u])) j=some (.lst (p++[u])):=ec;have Y:aF H (upd H3 j (.lst (p++[u]))):=λb o hb=>by rw[aC (aD hb C)];exact s3 _ _ hb
   have lf:=Reps.len rf;have lw:=congrArg List.length e;rw[au]at lw;have lt':=Reps.len rt;have hn:=lR i;have hnr:nds r+ndss i<=8000000:=by rw[g7,ndss,ndss]at S;lia
   have I:Reps G (fs++[r]) (p++[u]):=Reps.snoc Z rf;refine⟨_,rfl,tyL f3,_,rfl,j,p,u,rfl,rfl,f3,aj (m:=8000000) (by have:=uX d;lia) ad,?_⟩;generalize upd H3 j (.lst (p++[u]))=H4 at X f4 Y⊢;have z:=sG.trans Y;rw[g7];rcases UG wr with⟨x,rfl⟩|⟨nm,ds,hd,wds⟩
   ·cases (show u = .str x from Z);refine⟨_,rfl,.str x,.ty "str",true,rfl,rfl,true,rfl,?_⟩;refine⟨ndss i,by rw[ndss,ndss];have:=u8 (.str x);lia,fs++[.str x],i,_,c,_,rfl,f4,X,Y,I,rt,O,?_,rfl,dk⟩;rw[←e];show _=fs++([.str x]++_);rw[cq]
   ·obtain⟨J,g,rfl,hbb,l⟩:∃J g,u = .ref J/\isV H4 (.ref J) (.ty "str")=some false/\fB H4 J (.str nm::g)/\Reps G ds g:=by
     rcases hd with rfl|rfl
     ·obtain⟨a,vs,rfl,W,_,g,rfl,e1,r⟩:=Z;cases e1;exact⟨a,g,rfl,nN (z _ _ W),.inr (z _ _ W),r⟩
     ·obtain⟨a,vs,rfl,W,_,g,rfl,e1,r⟩:=Z;cases e1;exact⟨a,g,rfl,sY (z _ _ W),.inl (z _ _ W),r⟩
    obtain⟨l,res⟩:=l;have hnd:nds r=1+ndss ds:=by rcases hd with rfl|rfl <;> rw[nds]
    have hwl:wlk r=r::wlks ds:=by rcases hd with rfl|rfl <;> rw[wlk]
    have h1:=lR ds;have lr:=Reps.len res;refine⟨_,rfl,.ref J,.ty "str",false,rfl,hbb,false,rfl,?_⟩;refine⟨_,rfl,tyL X,_,rfl,0,rfl,1,rfl,-1,rfl,rfl,rfl,rfl,J,_,rfl,l,dl,λb o hb ho=>?_⟩;rw[zD]at ho;have h5:upd H4 b o t=some (.lst c):=by rw[aC (aD X hb)];exact X
    have f5:upd H4 b o j=some (.lst (p++[.ref J])):=by rw[aC (aD f4 hb)];exact f4
    have s5:aF H (upd H4 b o):=Y.trans (aF.upd hb);refine⟨t,b,c,g.reverse,rfl,rfl,h5,by rcases ho with⟨rfl,_⟩|⟨rfl,_⟩;exact .inl ec;exact .inr ec,ao (m:=16000000) (by rw[List.length_reverse];lia) ad,ndss i+ndss ds,by rw[ndss,ndss];lia,fs++[r],i++ds.reverse,_,_,_,rfl,by rw[aC B];exact f5,ec,?_,I,Reps.append rt (Reps.rev res),O.app wds.rev,?_,by rw[g7,wN],dk⟩
    ·exact λb o hb=>by rw[aC (aD hb U)];exact s5 _ _ hb
    ·rw[←e,hwl,List.reverse_append,List.reverse_reverse,List.flatMap_append,←yT];simp
noncomputable def mrk:D->M
 | .str x=>(sortS x,x,0)
 | .tup (.str n::ds)=>(2,n,ds.length+1)
 | _=>(0,"",0)
mutual
theorem JR:∀{d:D},Fl d->key d=(wlk d).map mrk
 | .str x,_=>by unfold key wlk;rfl
 | .tup (.str n::ds),h=>by unfold Fl at h;rw[key,wlk,EU h];rfl
 | .non,h | .bl _,h | .int _,h | .lst _,h | .tup [],h | .tup (.non::_),h | .tup (.bl _::_),h | .tup (.int _::_),h | .tup (.tup _::_),h | .tup (.lst _::_),h=>by unfold Fl at h;exact absurd h id
theorem EU:∀{ds:List D},Fls ds->keys ds=(wlks ds).map mrk
 | [],_=>rfl
 | d::ds,⟨a,b⟩=>by rw[keys,wlks,JR a,EU b,az]
end
mutual
theorem PB:∀{d:D},Fl d->∀e∈wlk d,Fl e
 | .str x,h=>by unfold wlk;intro e c;rw[cu.mp c];exact h
 | .tup (.str n::ds),h=>by
  rw[wlk];intro e c;obtain rfl|c:=cw.mp c
  ·exact h
  ·exact JV (by unfold Fl at h;exact h) e c
 | .non,h | .bl _,h | .int _,h | .lst _,h | .tup [],h | .tup (.non::_),h | .tup (.bl _::_),h | .tup (.int _::_),h | .tup (.tup _::_),h | .tup (.lst _::_),h=>by unfold Fl at h;exact absurd h id
theorem JV:∀{ds:List D},Fls ds->∀e∈wlks ds,Fl e
 | [],_=>λe c=>by cases c
 | d::ds,⟨a,b⟩=>λe c=>by
  rw[wlks]at c;obtain c|c:=cx.mp c
  ·exact PB a e c
  ·exact JV b e c
end
noncomputable def mV (m:M):List V:=[.int m.1,.str m.2.1,.int m.2.2]
noncomputable def mD (m:M):D:=.tup [.int m.1,.str m.2.1,.int m.2.2]
def M0:Sp:=λvs H Q _=>∃(d:D) (v:V),vs=[v]/\aY H d v/\Fl d/\∀p,H p=none->Q (.ref p) (upd H p (.tup (mV (mrk d))))
def RQ (F:fV K "order_mark" "order_mark" i8 f fd)(T:Txt mg):cH P w K mg base bU 1 f fd rN M0:=by
 refine F.ok yK (λvs H Q E h=>?_) (λJ A outer s H vs Q E j h=>?_)
 ·obtain⟨d,v,rfl,_⟩:=h;rfl
 ·obtain⟨d,v,rfl,rep,fl,q⟩:=h;have i:=j.units
  refine⟨_,(aE (bQ (aT K rfl (aZ aK T.n_isinstance (aA (pv 0) (aA (cF (v:=V.ty "str") rfl T.n_str rfl rfl) aB))) (λ_=>rfl)) (aG (aL (fM (aA (wG (aR (eF i) (cA dM (pv 0) aJ (λ_ _=>rfl)) iE) aJ aJ) (aA (pv 0) (aA aJ aB)))))) aO)
   (aG (aL (fM (aA aJ (aA (cA dM (pv 0) aJ (λ_ _=>rfl)) (aA (aZ bV T.n_len (aA (pv 0) aB)) aB))))))),?_⟩
  try dsimp only[cxOf,Cx.nox]
  simp only[rS];clear j F T i;have keep:=aI q (aI rep fl);clear q rep fl
  walk_at "rd"
  obtain⟨q,rep,fl⟩:=keep;rcases jN fl with⟨x,rfl,o,l⟩|⟨nm,ds,rfl,B⟩
  ·cases (show v = .str x from rep);refine⟨true,rfl,?_⟩;rw[ai rfl];have hz:x.length<=sizeLine:=ao (m:=20) (by rw[br]at l;exact l) ad;cases hc:x.cps.toList with
   | nil=>rw[hc]at o;simp at o
   | cons c r =>
    refine⟨.str ⟨#[c]⟩,by rw[CH hz,hc,atI_zero];rfl,?_⟩;rw[rEqD_ss];refine⟨_,rfl,?_⟩;have C:decide ((⟨#[c]⟩:Str)=Str.ofString "?")=decide (c=63):=by
     have G:Str.ofString "?" = ⟨#[63]⟩:=by decide +kernel
     rw[G,cg];simp
    have t:sortS x=if c=63 then 0 else 1:=by unfold sortS;rw[hc];simp
    rw[C];by_cases h:c=63
    ·rw[ai (bi h)];refine⟨ad,λp e=>?_⟩;have:Q (.ref p) (upd H p (.tup [.int (sortS x),.str x,.int 0])):=q p e;rw[t,ai h]at this;exact this
    ·rw[ab (by simpa using h)];refine⟨ad,λp e=>?_⟩;have:Q (.ref p) (upd H p (.tup [.int (sortS x),.str x,.int 0])):=q p e;rw[t,ab h]at this;exact this
  ·obtain⟨a,vs,rfl,g,_,u,rfl,I,r⟩:=rep;cases I;have z:=Reps.len r;refine⟨false,nN g,?_⟩;rw[ab ad];refine⟨.str nm,by rw[ixV_t g,atI_zero],.int (ds.length+1),by rw[lenV_t g,aq,z];rfl,ad,λp e=>?_⟩;exact q p e
def spKey:Sp:=λvs H Q _=>∃(d:D) (v:V),vs=[v]/\aY H d v/\Fl d/\nds d<=8000000/\∀(l:Addr) (H':Hp),aF H H'->H l=none->aY (nw H H') (.lst ((key d).map mD)) (.ref l)->Q (.ref l) H'
def YJ (ds:List D)(H h:Hp)(i:Nat)(c:List V)(e:St)(d:Hp):Prop:=∃g:Option V,e=[g]/\aF h d/\Reps (nw H d) (((ds.take i).map mrk).map mD) c
def DZ (h:H p=some (.tup (mV m))):aY H (mD m) (.ref p):=⟨p,_,rfl,h,.int _,_,rfl,rfl,.str _,_,rfl,rfl,.int _,[],rfl,rfl,rfl⟩
def JH (s:aF H1 H2):aF (nw H H1) (nw H H2):=λa o e=>by obtain⟨d,c⟩:=dJ.mp e;exact dJ.mpr ⟨d,s _ _ c⟩
def VI (F:fV K "order_key" "order_key" iP f fd)(T:Txt mg)(c:dS P w K mg base bU 1 "order_mark" M0)(g:dS P w K mg base bU 1 "walked" vX):cH P w K mg base bU 2 f fd uD spKey:=by
 refine F.ok BF (λvs H Q E h=>?_) (λcdv A outer s H vs Q E C h=>?_)
 ·obtain⟨d,v,rfl,_⟩:=h;rfl
 ·obtain⟨d,v,rfl,rep,fl,j,q⟩:=h;have X:=C.units
  refine⟨_,(aE (bQ (aT K rfl (aZ aK T.n_isinstance (aA (pv 0) (aA (cF (v:=V.ty "str") rfl T.n_str rfl rfl) aB))) (λ_=>rfl)) (aG (aL (cQ (aA (aU c C (aA (pv 0) aB)) aB)))) aO)
   (aG (aL (gZ rfl (bN.by (N:=nW) (names:=(aH iP).names) (N':=["at"]) (src:=[none]) (by decide +kernel) rfl rfl) (dF K rfl (aU g C (aA (pv 0) aB))) (λ_ _ _ _=>(eD (i:=0) (dL ["at"]) rfl (Or.inl rfl))) (λ_ _ _ _=>dW) (λ_ _ _ _=>(aU c C (aA (pv 0) aB))))))),?_⟩
  try dsimp only[cxOf,Cx.nox]
  simp only[nW];clear C F T X c g;have keep:=aI q (aI rep (aI fl j));clear q rep fl j
  walk_at "rd"
  obtain⟨q,rep,fl,j⟩:=keep;rcases jN fl with⟨x,rfl,G,h2⟩|⟨nm,ds,rfl,fls⟩
  ·cases (show v = .str x from rep);refine⟨true,rfl,?_⟩;rw[ai rfl];refine⟨_,_,rfl,rep,fl,λp t=>⟨ad,λl r=>q l _ ((aF.upd t).trans (aF.upd r)) ((aF.upd t).free r) ?_⟩⟩;have Z:key (.str x)=[mrk (.str x)]:=by unfold key;rfl
   rw[Z];exact⟨l,[.ref p],rfl,dJ.mpr ⟨(aF.upd t).free r,ec⟩,.ref p,[],rfl,DZ (dJ.mpr ⟨t,by rw[aC (aD ec r)];exact ec⟩),rfl⟩
  ·obtain⟨b,hb⟩:∃b,isV H v (.ty "str")=some b/\b=false:=by obtain⟨a,vs,rfl,ha,_⟩:=rep;exact⟨false,nN ha,rfl⟩
   refine⟨b,hb.1,?_⟩;rw[ab (by rw[hb.2];decide)];refine⟨_,v,H,rfl,aF.refl _,rep,T6 fl,j,λU O H1 z Y G B=>⟨U,rfl,O,.inl G,λJ hJ=>?_⟩⟩;have S:=Reps.len B;have lk:=uX (.tup (.str nm::ds));refine dC hJ (YJ (wlk (.tup (.str nm::ds))) H H1) ⟨none,rfl,aF.refl _,rfl⟩ (λi u I H' _ ⟨_,_,s2,_⟩=>by rw[G,s2 _ _ G]) ?_ ?_
   ·rintro i x u I H2 W ⟨R,rfl,s2,o⟩;obtain⟨e,L,re⟩:=Reps.get B W;have la:=Reps.len o;refine⟨_,rfl,e,x,rfl,aY.same (z.trans s2) re,PB fl e (bj L),λp t=>⟨aj (m:=8000000) ?_ ad,_,rfl,s2.trans (aF.upd t),?_⟩⟩
    ·rw[ae,ae,bv]at la
     lia
    ·rw[ee L,az,az];exact Reps.snoc (DZ (dJ.mpr ⟨(z.trans s2).free t,ec⟩)) (Reps.same (JH (aF.upd t)) o)
   ·rintro u I H2 ⟨R,rfl,s2,o⟩ l r;rw[S,bw]at o;refine q l _ ((z.trans s2).trans (aF.upd r)) ((z.trans s2).free r) ?_;rw[JR fl];exact⟨l,u,rfl,dJ.mpr ⟨(z.trans s2).free r,ec⟩,Reps.same (JH (aF.upd r)) o⟩
noncomputable def opP (n:Str)(d:D):List D:=match d with
 | .tup (.str m::c)=>if m=n then c else [d]
 | d=>[d]
def y6:Sp:=λvs H Q _=>∃(n:Str) (d:D) (v:V),vs=[.str n,v]/\aY H d v/\Fl d/\∀(l:Addr) (ws:List V) (H':Hp),aF H H'->H l=none->H' l=some (.lst ws)->Reps H (opP n d) ws->Q (.ref l) H'
def GJ (F:fV K "opened" "opened" qJ f fd)(T:Txt mg):cH P w K mg base bU 1 f fd FJ y6:=by
 refine F.ok KJ (λvs H Q E h=>?_) (λC A outer s H vs Q E t h=>?_)
 ·obtain⟨n,d,v,rfl,_⟩:=h;rfl
 ·obtain⟨n,d,v,rfl,rep,fl,q⟩:=h;have m:=t.units
  refine⟨_,(aE (bQ (PW.pt (wE (aT K rfl (aZ aK T.n_isinstance (aA (pv 1) (aA (cF (v:=V.ty "tuple") rfl T.n_tuple rfl rfl) aB))) (λ_=>rfl)) (qO (aR (eF m) (cA dM (pv 1) aJ (λ_ _=>rfl)) (pv 0))))) (aG (aL (cB xP rfl T.n_list rfl (aA (fS l7 (pv 1) (eV aJ) gB) aB)))) aO)
   (aG (aL (cQ (aA (pv 1) aB))))),?_⟩
  try dsimp only[cxOf,Cx.nox]
  simp only[xY];clear t F T m;have keep:=aI q (aI rep fl);clear q rep fl
  walk_at "rd"
  obtain⟨q,rep,fl⟩:=keep;have c:opP n d=[d]->1<=sizeLine/\∀(p:Addr),H p=none->Q (V.ref p) (upd H p (HO.lst [v])):=λe=>⟨ad,λp i=>q p [v] _ (aF.upd i) i ec (by rw[e];exact⟨v,[],rfl,rep,rfl⟩)⟩
  rcases jN fl with⟨x,rfl,I,G⟩|⟨nm,ds,rfl,z⟩
  ·cases (show v = .str x from rep);exact⟨false,rfl,by rw[ab ad];exact c rfl⟩
  ·obtain⟨a,vs,rfl,j,_,g,rfl,B,r⟩:=id rep;cases B;refine⟨true,CJ j,?_⟩;rw[ai rfl];refine⟨.str nm,by rw[ixV_t j,atI_zero],?_⟩;rw[rEqD_ss];refine⟨_,rfl,?_⟩;by_cases e:nm=n
   ·rw[ai (bi e)];refine⟨a,rfl,_,.inr j,λ_ h=>?_,λp o i ho=>?_⟩
    ·have:=h.1;simp[HT.sIx]at this
    ·rw[vI]at ho;refine⟨g,by rcases ho with⟨rfl,_⟩|⟨rfl,_⟩;rw[seqV_l ec];rw[seqV_t ec],λl u=>q l g _ ((aF.upd i).trans (aF.upd u)) ((aF.upd i).free u) ec ?_⟩;show Reps H (if nm=n then ds else [.tup (.str nm::ds)]) g;rw[ai e];exact r
   ·rw[ab (by simpa using e)];exact c (by show(if nm=n then ds else [.tup (.str nm::ds)])=_;rw[ab e])
end
end Lw
namespace Lw
open PySem PySem.Spec PyProof.Rows PySem.SeqAt L2
def E6 (m d:M):eqD (mD m) (mD d)=decide (m=d):=by obtain⟨a,x,c⟩:=m;obtain⟨l,i,j⟩:=d;rw[cg];simp[mD,eqD,eqDs];exact⟨λ⟨h,e,g⟩=>⟨dk,e,dk⟩,λ⟨h,e,g⟩=>⟨dk,e,dk⟩⟩
def KC (A:dz)(s:du)(x y:Str)(t u:Tok):TN A s (.str x t) (.str y u) (sL x y):=λprog w E Q h=>(lt_str h:wpAny (model prog w) A (compareOp .Lt (.str x t) (.str y u)) Q E s)
def zX (A:dz)(s:du)(x y:Int)(t u:Tok):TN A s (.int x t) (.int y u) (decide (x<y)):=λprog w E Q h=>HT.rcLt_int A s x t y u prog w E Q h
section
variable {P:dw}{w:dy}{H:Hp}{s:du}
def vals3 (h:aP [a,b,c] us):∃u v x,us=[u,v,x]/\aQ a u/\aQ b v/\aQ c x:=by
 cases h with
 | cons r1 h =>
  obtain⟨v,x,rfl,e,d⟩:=aP.two h;exact⟨_,v,x,rfl,r1,e,d⟩
def EL (ok:hV P w H s.heap)(h:aY H (mD m) v)(r:aQ v u):∃p t1 c t3,u = .ref p/\s.heap.IsTuple p #[.int m.1 t1,.str m.2.1 c,.int m.2.2 t3]:=by obtain⟨p,vs,rfl,i,z,r1,rfl,q,x,E,rfl,o,t,e,rfl,l,j⟩:=h;cases q;cases o;cases l;cases (show e=[]from j);cases r;obtain⟨its,d,g⟩:=kK ok i;obtain⟨C,B,A,rfl,⟨t1,rfl⟩,⟨c,rfl⟩,⟨t3,rfl⟩⟩:=vals3 d;exact⟨p,t1,c,t3,rfl,g⟩
def R4 (ok:hV P w H s.heap)(A:dz)(hu:A.units+8<cLine)(h:aY H (mD m) v)(h':aY H (mD m') v')(r:aQ v u)(T:aQ v' u')(ne:m≠m'):TN A s u u' (ltM m m'):=by
 obtain⟨p,t1,N,t3,rfl,⟨⟨c,Z,dt,S⟩,ho,hc,n,hd⟩⟩:=EL ok h r;obtain⟨U,o,l,j,rfl,⟨⟨c',L,Y,J⟩,t,C,W,B⟩⟩:=EL ok h' T;simp only at hc hd C B;subst hc hd C B;obtain⟨a,x,b⟩:=m;obtain⟨g,i,d⟩:=m';have q:yQ A.in1 s [.int a t1,.str x N,.int b t3] [.int g o,.str i l,.int d j] (ltM (a,x,b) (g,i,d)):=by
  have hi:A.in1.units+0<cLine:=by rw[eS];lia
  have I:=eqAtD ok (.int a) (.int g) A.in1 (.int a) (.int g) (.int a t1) (.int g o) rfl rfl ⟨_,rfl⟩ ⟨_,rfl⟩ hi;have G:=eqAtD ok (.str x) (.str i) A.in1 (.str x) (.str i) (.str x N) (.str i l) rfl rfl ⟨_,rfl⟩ ⟨_,rfl⟩ hi;have R:=eqAtD ok (.int b) (.int d) A.in1 (.int b) (.int d) (.int b t3) (.int d j) rfl rfl ⟨_,rfl⟩ ⟨_,rfl⟩ hi;unfold ltM;dsimp only;by_cases O:a=g
  ·subst O;rw[ai rfl];refine .eq (by rw[dQ]at I;exact I) ?_;by_cases K:x=i
   ·subst K;rw[ai rfl];refine .eq (by rw[dQ]at G;exact G) ?_;have h3:b≠d:=λz=>ne (by rw[z]);have e:eqD (.int (b:Int)) (.int (d:Int))=false:=by show((b:Int) == (d:Int))=false;simp;lia
    rw[e]at R;have:decide (b<d)=decide ((b:Int)<(d:Int)):=by rw[cg];simp
    rw[this];exact .ne R (zX _ _ _ _ _ _)
   ·rw[ab K];have e:eqD (.str x) (.str i)=false:=by
     show(x == i)=false
     simpa using K
    rw[e]at G;exact .ne G (KC _ _ _ _ _ _)
  ·rw[ab O];have e:eqD (.int (a:Int)) (.int (g:Int))=false:=by show((a:Int) == (g:Int))=false;simp;lia
   rw[e]at I;have:decide (a<g)=decide ((a:Int)<(g:Int)):=by rw[cg];simp
   rw[this];exact .ne I (zX _ _ _ _ _ _)
 intro prog w' E Q X;exact richCompare_meets_room (op:=.Lt) ⟨_,ho,rfl⟩ ⟨_,t,rfl⟩ PySem.F.slot_tuple_lt PySem.F.entry_tuple_lt (PySem.F.args_tuple_lt_2 _ _) (yI p U _ _ n W Z L S J)
  ⟨ho,t,_,q,show Value.bool _≠Value.notImplemented/\Q _ s from⟨(λx=>nomatch x),X⟩⟩ dk
theorem zT (ok:hV P w H s.heap)(A:dz)(v:A.units+8<cLine):∀(ks g:List M) (vs c:List V) (us d:cX),Reps H (ks.map mD) vs->Reps H (g.map mD) c->aP vs us->aP c d->yQ A s us d (lexK ks g)
 | [],[],vs,c,us,d,h,h',r,i=>by
  cases (show vs=[]from h);cases (show c=[]from h');cases r.zero;cases i.zero;exact .nn
 | [],p::g,vs,c,us,d,h,⟨B,E,u,_,_⟩,r,i=>by
  cases (show vs=[]from h);subst u;cases r.zero;cases i;exact .nc
 | m::ks,[],vs,c,us,d,⟨x,q,e,_,_⟩,h',r,i=>by
  cases (show c=[]from h');subst e;cases i.zero;cases r;exact .cn
 | m::ks,p::g,vs,c,us,d,⟨x,q,e,z,F⟩,⟨B,E,u,l,t⟩,r,i=>by
  subst e u;cases r with
  | cons r1 C =>
   cases i with
   | cons j o =>
    have e:=eqAtD ok (mD m) (mD p) A _ _ _ _ z l r1 j (by
     have:depD (mD m)=1:=rfl
     lia)
    rw[E6]at e;rw[lexK];by_cases ne:m=p
    ·rw[ai ne];rw[bi ne]at e;exact .eq e (zT ok A v ks g _ _ _ _ F t C o)
    ·rw[ab ne];rw[bo ne]at e;exact .ne e (R4 ok A v z l r1 j ne)
def wY (ok:hV P w H s.heap){ks:List M}{v:V}{u:dv}(h:aY H (.lst (ks.map mD)) v)(r:aQ v u):∃l vs us,u = .ref l/\Reps H (ks.map mD) vs/\aP vs us/\s.heap.IsList l us.toArray:=by obtain⟨l,vs,rfl,g,e⟩:=h;cases r;obtain⟨us,d,c⟩:=g8 ok g;exact⟨l,vs,us,rfl,e,d,c⟩
def EW (ok:hV P w H s.heap)(A:dz)(O:A.units+16<cLine)(h:aY H (.lst (ks.map mD)) v)(h':aY H (.lst (ks'.map mD)) v')(r:aQ v u)(B:aQ v' u') :
  s.TypeIs u "list"/\s.TypeIs u' "list"/\∀(prog:dw) (w:dy) (E:cM) (Q:cM),Q (.bool (lexK ks ks')) s->wpAny (model prog w) A (call (.builtin "list.__lt__") [u,u']) Q E s:=by
 obtain⟨l,vs,us,rfl,I,z,K⟩:=wY ok h r;obtain⟨G,i,j,rfl,p,o,q⟩:=wY ok h' B;obtain⟨⟨c,N,R,x⟩,ho,hc,n,hd⟩:=id K;obtain⟨⟨S,t,L,m⟩,d,g,C,e⟩:=id q;simp only at hc hd g e;subst hc hd g e;refine⟨⟨_,ho,rfl⟩,⟨_,d,rfl⟩,λprog w E Q J=>?_⟩;exact call_meets PySem.F.slot_list_lt ⟨_,ho,rfl⟩ PySem.F.entry_list_lt (PySem.F.args_list_lt_2 _ _) (B6 l G _ _ n C N t x m) ⟨ho,d,_,zT ok A.in1 (by rw[eS];lia) ks ks' vs i us j I p z o,J⟩
end
end Lw
namespace Lw
open PySem PySem.Spec PyProof.Rows PySem.SeqAt PySem.W L2
noncomputable def kyD (d:D):D:=.lst ((key d).map mD)
def S7 (ok:hV P w H s.heap)(A:dz)(i:A.units+32<cLine)(h:aY H (kyD d) v)(h':aY H (kyD e) v')(r:aQ v u)(c:aQ v' u'){E:cM}{Q:Bool->du->Prop}
  (q:Q (lexK (key d) (key e)) s):wpAny (model prog w') A (keyLt' oneType' u u') Q E s:=by
 obtain⟨t1,g,t3⟩:=EW ok A dk h h' r c;rw[keyLt'_oneType,oneLt'_eq,ai rfl];refine aa (wpAny_cRoomFor dk (aa (wpAny_callSpecialIfBound?_slot t1 F.slot_list_lt (t3 prog w' _ _ ?_))));exact wpAny_truthy_bool q
def GX {M:Model}{h:Heap}{l:Addr}{us:pU}(c:h.IsList l us):Looks M h (typeOf (.ref l)) (.type "list"):=λA Q E s k q=>by obtain⟨o,ho,hc,_⟩:=c;exact wpAny_typeOf ⟨o,k _ _ ho,hc⟩ q
def R6 (h:lexK a b=true)(k:lexK b c=true):lexK a c=true:=by
 cases z:lexK a c with
 | true=>rfl
 | false=>rw[wT (sU h) z]at k;cases k
def OM (h:lexK a b=false)(k:lexK b a=false):a=b:=by
 by_cases e:a=b
 ·exact e
 ·rcases pJ e with z|z
  ·rw[h]at z;cases z
  ·rw[k]at z;cases z
def D8:WH lexK:=⟨qW,λ_ _ _=>R6,λ_ _ h k z=>by rw[OM h k]⟩
def VO (h:mD m=mD m'):m=m':=by have e:=E6 m m';rw[h,dQ]at e;exact bu e.symm
def NJ {g q:Type}{f:g->q}{l s:List q}(h:l.Perm s):∀m:List g,s=m.map f->∃d:List g,l=d.map f/\d.Perm m:=by
 induction h with
 | nil=>exact λm e=>⟨m,e,.refl _⟩
 | cons x _ A =>
  intro m e;cases m with
  | nil=>cases e
  | cons a m =>
   injection e with o c;obtain⟨d,r,p⟩:=A m c;exact⟨a::d,by rw[bf,r,o],p.cons a⟩
 | swap x y l =>
  intro m e;cases m with
  | nil=>cases e
  | cons a m =>
   cases m with
   | nil=>cases e
   | cons b m =>
    injection e with o c;injection c with c B;exact⟨b::a::m,by rw[bf,bf,o,c,B],.swap a b m⟩
 | trans _ _ j i =>
  intro m e;obtain⟨z,r1,v⟩:=i m e;obtain⟨w,t,u⟩:=j z r1;exact⟨w,t,u.trans v⟩
def SD {ks is:cX}{i:Nat}(h:ks.length=is.length)(hi:i<is.length):kas_item (ks.toArray.zip is.toArray) i=(ks.getD i .none,is.getD i .none):=by
 unfold kas_item;have d:i<(ks.toArray.zip is.toArray).size:=by simp;lia
 rw[Array.getD_eq_getD_getElem?,Array.getElem?_eq_getElem d];have c:i<ks.length:=by lia
 simp[hi,c]
def xD (h:Reps H ds vs)(hi:i<ds.length):aY H (ds.getD i .non) (vs.getD i .non):=by
 obtain⟨v,c,r⟩:=Reps.get' h (ay hi);have e:ds.getD i .non=ds[i]:=by simp[hi]
 have d:vs.getD i .non=v:=by rw[List.getD_eq_getElem?_getD,c];rfl
 rw[e,d];exact r
def xC (h:aP vs us)(hi:i<vs.length):aQ (vs.getD i .non) (us.getD i .none):=by
 obtain⟨u,c,r⟩:=h.get (ay hi);have e:vs.getD i .non=vs[i]:=by simp[hi]
 have d:us.getD i .none=u:=by rw[List.getD_eq_getElem?_getD,c];rfl
 rw[e,d];exact r
def DY (h:Reps H ds vs):∀(l:List Nat),(∀i∈l,i<ds.length)->Reps H (l.map λi=>ds.getD i .non) (l.map λi=>vs.getD i .non)
 | [],_=>rfl
 | i::l,c=>⟨_,_,rfl,xD h (c i ax),DY h l λj d=>c j (ba _ d)⟩
def DH (h:aP vs us):∀(l:List Nat),(∀i∈l,i<vs.length)->aP (l.map λi=>vs.getD i .non) (l.map λi=>us.getD i .none)
 | [],_=>.nil
 | i::l,c=>.cons (xC h (c i ax)) (DH h l λj d=>c j (ba _ d))
def OH (ds:List D):(List.range ds.length).map (λi=>ds.getD i .non)=ds:=by
 apply List.ext_getElem
 ·simp
 ·intro i d c;simp[c]
section
variable {X:Cx}{pins:dD}{σ:L2.St}{H Hj:Hp}{s:du}{a kS:Addr}{e1 e:Nat}{kvs xs:List V}{kus its:cX}{ds:List D}{A:dz}{E:cM}
def M5 (hu:A.units+64<cLine)(I:aM X pins σ Hj s)(sH:aF H Hj)(fa:fN X pins Hj a)(R:fN X pins Hj kS)(ne:kS≠a)(ha:s.heap.get? a=some (seqObj "list" #[] e1))(hk:s.heap.get? kS=some (seqObj "list" kus.toArray e))
  (Y:aP kvs kus) (W:Reps Hj (ds.map kyD) kvs) (rx:aP xs its) (rd:Reps H ds xs) (h2:2<=ds.length) (h400:ds.length<=20000) {Pf:PySem.Fin->du->Prop}
  (h:∀B ys es,aM X pins σ (upd Hj a (.lst ys)) B->es.Perm ds->es.Pairwise leK->Reps H es ys->Pf (.done (.ret .none)) B) :
  wpAny (model X.prog X.w) A (ksk_end a false its.toArray e1 (.ref kS) kus.toArray) Pf E s:=by
 have l1:=Reps.len W;rw[ae]at l1;have l2:=Y.length;have l3:=Reps.len rd;have l4:=rx.length;have lk:kus.length=its.length:=by lia
 have n2:¬its.toArray.size<2:=by rw[ag];lia
 unfold ksk_end;dsimp only;rw[ab n2,ab n2,ab Bool.false_ne_true];have look:∀v∈kus,Looks (model X.prog X.w) s.heap (typeOf v) (.type "list"):=λv hv=>by
  obtain⟨i,hi⟩:=List.getElem?_of_mem hv;have hi':=(cs.mp hi).1;have r1:=xD W (i:=i) (by rw[ae];lia);have G:=xC Y (i:=i) dk;have ek:kus.getD i .none=v:=by rw[List.getD_eq_getElem?_getD,hi];rfl
  rw[ek]at G;have ed:(ds.map kyD).getD i .non=kyD (ds.getD i .non):=by
   have:i<ds.length:=by lia
   simp[this]
  rw[ed]at r1;obtain⟨l,_,us,rfl,_,_,hl⟩:=wY I.hok r1 G;exact GX hl
 refine aa (kas_kind (vs:=kus) dk look ad ad ?_);obtain⟨c,ha0⟩:∃c,c=kus.toArray.zip its.toArray:=⟨_,rfl⟩
 have e0:c.toList=(List.range ds.length).map (kas_item c):=by
  have e:=congrArg Array.toList (kas_range c);have z:c.size=ds.length:=by rw[ha0];simp;lia
  rw[Array.toList_map,z]at e;exact e.symm
 have u:∀i,i<ds.length->kas_item c i=(kus.getD i .none,its.getD i .none):=λi hi=>by rw[ha0];exact SD lk dk
 have C:∀i,i<ds.length->aY Hj (kyD (ds.getD i .non)) (kvs.getD i .non)/\aQ (kvs.getD i .non) (kus.getD i .none):=λi hi=>by have g:=xD W (i:=i) (by rw[ae];lia);rw[show(ds.map kyD).getD i .non=kyD (ds.getD i .non)by simp[hi]]at g;exact⟨g,xC Y dk⟩
 obtain⟨iv,hiv⟩:∃iv:Keyed->List M,∀i,i<ds.length->iv (kas_item c i)=key (ds.getD i .non):=by
  refine⟨λx=>Classical.epsilon λks=>∃v,aQ v x.1/\aY Hj (.lst (ks.map mD)) v,λi hi=>?_⟩;obtain⟨P,O⟩:=C i hi;rw[u i hi];obtain⟨v,r1,G⟩:=Classical.epsilon_spec (p:=λks:List M=>∃v,aQ v (kus.getD i .none)/\aY Hj (.lst (ks.map mD)) v) ⟨key (ds.getD i .non),_,O,P⟩;have ev:v=kvs.getD i .non:=by obtain⟨x,_,e1,_⟩:=G;obtain⟨y,_,e2,_⟩:=P;rw[e1]at r1⊢;rw[e2]at O⊢;injection r1.symm.trans O with S;rw[S]
  rw[ev]at G;have S:=aY.inj G P;unfold kyD at S;injection S with e4;exact(List.map_inj_right λ_ _=>VO).mp e4
 have mem:∀x,x∈c.toList->∃i,i<ds.length/\x=kas_item c i:=λx N=>by rw[e0]at N;obtain⟨i,hi,rfl⟩:=cy.mp N;exact⟨i,List.mem_range.mp hi,rfl⟩
 have L:∀i,i<ds.length->kas_item c i∈c.toList:=λi hi=>by rw[e0];exact List.mem_map_of_mem (List.mem_range.mpr hi)
 have ask:tN (model X.prog X.w) A E s (rank lexK iv c.toList) oneType' c:=by intro x y N hy st Q hk hq;obtain⟨i,hi,ex⟩:=mem x N;obtain⟨j,J,ey⟩:=mem y hy;rw[D1 D8 N hy]at hq;subst ex ey;rw[hiv i hi,hiv j J]at hq;obtain⟨P,O⟩:=C i hi;obtain⟨g3,g4⟩:=C j J;rw[lt'_eq,u i hi,u j J];refine dV (wpS_get ?_);rw[hk];exact dV (d7 (wpAny_attempt (S7 I.hok A dk P g3 O g4 ⟨rfl,d6 hq⟩)))
 have st0:L2.SI (rank lexK iv c.toList) oneType' c [] c.toList (SortSt.mk' oneType' c #[] 7 none):=⟨rfl,rfl,λr hr=>(nomatch hr),rfl,rfl,Array.Perm.refl _⟩
 have run:=L2.yF (Q:=λ_ t=>(arrOf t).toList.Perm c.toList/\failedOf t=none/\(arrOf t).toList.Pairwise (vL (rank lexK iv c.toList))) ask st0 λt b1 b2 T=>⟨Array.perm_iff_toList_perm.mp b1,b2,T⟩
 rw[←ha0];refine aa (wpAny_mono run ?_ λ_ _ z=>z);rintro⟨⟨⟩,t⟩ B ⟨rfl,b1,hf,T⟩;obtain⟨p,ep,Z⟩:=NJ b1 _ e0;have d:∀i∈p,i<ds.length:=λi hi=>List.mem_range.mp (Z.mem_iff.mp hi);have ho:(arrOf t).map (·.2)=(p.map λi=>its.getD i .none).toArray:=by apply Array.toList_inj.mp;rw[Array.toList_map,ep,cp];refine List.map_congr_left λi hi=>?_;show(kas_item c i).2=_;rw[u i (d i hi)]
 have pl:p.length=ds.length:=by rw[Z.length_eq,List.length_range]
 unfold ksk_tail;dsimp only;rw[ho];refine aa (listUpdate_at hk rfl ?_ (ao (m:=20000) (by rw[ag];lia) ad) (aw _));refine aa (wpAny_letGo ?_);have K:=Heap.SameBut.update B.heap kS (Obj.mapSeq λ_=>(#[]:pU));have F:=(K.2 a ne.symm).trans ha;have I1:=I.turned (t':=B.toks) (λb o hb z=>(K.2 b hb).trans z) R.1 R.2.1 R.2.2.2.1 R.2.2.2.2.1 R.2.2.2.2.2;refine aa (seqEpoch_at F rfl ?_);refine aa (listUpdate_at F rfl ?_ (aw _) (ao (m:=20000) (by simp only[Bool.false_eq_true,if_false];rw[ag,ae];lia) ad));rw[hf];simp only[bne_self_eq_false,if_false,Bool.false_eq_true];have U:=Heap.SameBut.update (B.heap.update kS (Obj.mapSeq λ_=>(#[]:pU))) a (Obj.mapSeq λ_=>(p.map λi=>its.getD i .none).toArray);have I2:=I1.turned (t':=B.toks) (λb o hb z=>(U.2 b hb).trans z) fa.1 fa.2.1 fa.2.2.2.1 fa.2.2.2.2.1 fa.2.2.2.2.2;have ga:=get?_update_seq F λ_=>(p.map λi=>its.getD i .none).toArray;have I3:=I2.adopt (o:=.lst (p.map λi=>xs.getD i .non)) fa ⟨ao (m:=20000) (by rw[ae];lia) ad,_,_,DH rx p (λi hi=>by have:=d i hi;lia),ga⟩;refine ak (h _ _ (p.map λi=>ds.getD i .non) I3 ?_ ?_ (DY rd p d))
 ·have:=Z.map λi=>ds.getD i .non;rw[OH]at this;exact this
 ·rw[ep,List.pairwise_map]at T;refine List.pairwise_map.mpr (T.imp_of_mem λ{i j} hi J z=>?_);have q:=D1 D8 (iv:=iv) (L j (d j J)) (L i (d i hi));rw[hiv j (d j J),hiv i (d i hi),bo (Nat.not_lt.mpr z)]at q;exact q.symm
def OR {k:Nat}{f:Addr}{C:FuncData}{ps:aV}(F:cH X.prog X.w X.K X.mg X.base bU k f C ps spKey)(hb:eW X.K C ps [])(L:d9 k A)(N:A.frames=some X.stack)(I:aM X pins σ Hj s)(fa:fN X pins Hj a)(p:fN X pins Hj kS){i ok:Obj}(B:s.heap.get? a=some i)(t:s.heap.get? kS=some ok){d:D}{v:V}{u:dv}(H:aY Hj d v)(fl:Fl d)(nd:nds d<=8000000)(r:aQ v u)
  {Q:cM} {E:cM} (h:∀kv j H' c,aM X pins σ H' c->aF Hj H'->H' a=none->H' kS=none->c.heap.get? a=some i->c.heap.get? kS=some ok->aY H' (kyD d) kv->aQ kv j->Q j c) :
  wpAny (model X.prog X.w) A (call (.ref f) [u]) Q E s:=by
 have e:=I.env0;have sp:spKey [v] Hj (λkv H'=>aF Hj H'/\aY H' (kyD d) kv) E0:=⟨d,v,rfl,H,fl,nd,λl H' c q rep=>⟨c,aY.same (λb o z=>(dJ.mp z).2) rep⟩⟩
 have q:[u].length=ps.length:=F.len _ _ _ _ sp;have nf:∀b,fN X pins Hj b->b∉frs X.stack:=λb G z=>(cw.mp (I.stkSub b z)).elim G.2.1 G.2.2.1;refine wpAny_call (codeAny_mono (F.run A X.stack s Hj ⟨[u],[]⟩ [u] [v] _ E0 L ⟨N,e.mod,e.bs,e.bsz,e.funs,e.frf,e.hok,e.bare⟩ (by have:=hb s [u] I.kIn (by simpa using q);simpa using this) (.cons r .nil) sp) λres c g=>?_);cases res with
 | error x=>exact g.elim
 | ok m =>
  cases m with
  | ret j =>
   obtain⟨kv,H',os,bare,un,hok,J,sm,rep⟩:=g;have I':=I.call' (ch:=[]) os un hok bare (λb z=>absurd z dl);exact h kv j H' c I' sm (un.free a i B fa.1 dl) (un.free kS ok t p.1 dl) (un.keep a i B fa.1 (nf a fa) dl) (un.keep kS ok t p.1 (nf kS p) dl) rep J
  | next=>exact g.elim
  | brk=>exact g.elim
  | cont=>exact g.elim
def KG {k:Nat}{f:Addr}{fd:FuncData}{ps:aV}(F:cH X.prog X.w X.K X.mg X.base bU k f fd ps spKey)(hb:eW X.K fd ps [])(hr:d9 k A)(he:A.frames=some X.stack)(I:aM X pins σ H s)(fa:fN X pins H a)(O:fN X pins H kS)(ne:kS≠a)
  (ha:s.heap.get? a=some (seqObj "list" #[] e1)) (hk:s.heap.get? kS=some (seqObj "list" #[] 0)) (P:aP xs its) (R:Reps H ds xs) (fl:∀d∈ds,Fl d/\nds d<=8000000) (h2:2<=ds.length) (J:ds.length<=20000) {Pf:PySem.Fin->du->Prop}
  (h:∀p H' ys L,aM X pins σ (upd H' a (.lst ys)) p->aF H H'->H' a=none->L.Perm ds->L.Pairwise leK->Reps H L ys->Pf (.done (.ret .none)) p) :
  wpAny (model X.prog X.w) A (ksk_rest a (.ref f) false its.toArray e1 (.ref kS)) Pf E s:=by
 have hu:=hr.units;have l3:=Reps.len R;have l4:=P.length;unfold ksk_rest;refine aa (wpAny_rule ?_);rw[List.forIn_toArray]
 refine aa (ksk_fold (λj p=>∃(Hj:Hp) (c:List V) (g:cX) (e:Nat),aM X pins σ Hj p/\aF H Hj/\Hj a=none/\Hj kS=none/\p.heap.get? a=some (seqObj "list" #[] e1)/\p.heap.get? kS=some (seqObj "list" g.toArray e)/\aP c g/\Reps Hj ((ds.take j).map kyD) c) its 0 s
  ⟨H,[],[],0,I,aF.refl _,fa.1,O.1,ha,hk,.nil,rfl⟩ ?step ?done)
 case step =>
  rintro j x p hx ⟨Hj,c,g,e,Z,sm,na,S,q,l,N,r⟩;rw[Nat.zero_add]at r⊢;have hj:j<its.length:=(cs.mp hx).1;have hd:ds[j]?=some ds[j]:=ay dk;obtain⟨v,hv,rv⟩:=Reps.get' R hd;obtain⟨u,C,ru⟩:=P.get hv;rw[hx]at C;cases C;have lr:=Reps.len r;rw[ae,bv]at lr;have lk:=N.length;have hf:=fl ds[j] (bj hd);refine aa (wpAny_attempt (OR F hb hr he Z (fa.at na) (O.at S) q l (aY.same sm rv) hf.1 hf.2 ru λkv U H' s2 Y t T B W G rep Q=>?_));have sb:=Heap.SameBut.update s2.heap kS (Obj.mapSeq (·.push U));have gk:=get?_update_seq G (·.push U);refine aa (listUpdate_at G rfl ?_ (ao (m:=20000) (by rw[ag];lia) ad) (ao (m:=20001) (by rw[Array.size_push,ag];lia) ad));have i:=O.at B;refine ak ⟨rfl,H',c++[kv],g++[U],_,Y.turned (t':=s2.toks) (λb o hb z=>(sb.2 b hb).trans z) i.1 i.2.1 i.2.2.2.1 i.2.2.2.2.1 i.2.2.2.2.2,sm.trans t,T,B,(sb.2 a ne.symm).trans W,by rw[gk,List.push_toArray],N.append (.cons Q .nil),?_⟩;rw[ee hd,az];exact Reps.snoc rep (Reps.same t r)
 case done =>
  rintro p ⟨Hj,c,g,e,Z,sm,na,S,q,l,N,r⟩;rw[Nat.zero_add,←l4,l3,bw]at r;exact aa (listItems_at l rfl (M5 dk Z sm (fa.at na) (O.at S) ne q l N r P R h2 J λs2 ys L Y a1 a2 a3=>h s2 Hj ys L Y sm na a1 a2 a3))
def ID {k:Nat}{f l:Addr}{G:FuncData}{ps:aV}(F:cH X.prog X.w X.K X.mg X.base bU k f G ps spKey)(hb:eW X.K G ps [])(J:d9 (k+2) X.A)(I:aM X pins σ H s)(L:H l=some (.lst xs))(v:Reps H ds xs)(fl:∀d∈ds,Fl d/\nds d<=8000000)(N:2<=ds.length)(g:ds.length<=20000){Q:VK}
  (h:∀q ys i H',aF H H'->H q=none->H' q=some (.lst ys)->i.Perm ds->i.Pairwise leK->Reps H i ys->Q (.ref q) H') :
  wpAny (model X.prog X.w) X.A (call (.builtin "sorted") [.ref l] [(Str.ofString "key",.ref f)]) (EP X pins σ Q) E s:=by
 obtain⟨its,u,pl,hz⟩:=I.list (fL.of L);have l3:=Reps.len v;have Z:=u.length;refine call_function_entry_kw kind_sorted plain_sorted entry_sorted (ksk_s1 _ _) ?_;unfold Builtin.«sorted»;refine aa (m:=checkCount "sorted" 1 1 _) (ak (aa (collect_list pl.isList ?_ dk)));refine aa (wpAny_newList ?_ dk);have C:∀b o,s.heap.get? b=some o->((s.heap.push (seqObj "list" #[] 0)).update s.heap.objs.size (Obj.mapSeq λx=>x++its.toArray)).get? b=some o:=λb o e=>by have lt:=bc e;rw[Heap.get?_update_ne _ _ _ _ (bq lt)];exact af _ e
 have p:s.heap.objs.size<=((s.heap.push (seqObj "list" #[] 0)).update s.heap.objs.size (Obj.mapSeq λx=>x++its.toArray)).objs.size:=by
  rw[Heap.size_update,Heap.size_push]
  lia
 dsimp only;generalize (s.heap.push (seqObj "list" #[] 0)).update s.heap.objs.size (Obj.mapSeq λx=>x++its.toArray)=h1 at C p⊢;have U:aM X pins σ H {s with heap:=h1.push (seqObj "list" its.toArray 0)}:=I.kept (t':=s.toks) λb o e=>af _ (C b o e);have B:=I.hok.fresh p;have c:=I.fpOk p B;have j:(h1.push (seqObj "list" its.toArray 0)).get? h1.objs.size=some (seqObj "list" its.toArray 0):=av _ rfl;refine aa (ck (wpAny_call_entry_kw slot_list_sort ⟨_,j,rfl⟩ entry_list_sort ?body (ksk_l1 _ _)));show wpAny (model X.prog X.w) X.A.in1.in1 (ksk_tree h1.objs.size (.ref f) false) _ _ _;unfold ksk_tree;refine aa (listItems_at j rfl ?_);refine aa (listUpdate_at j rfl ?_ (by rw[ag];lia) (aw _));have sb:=Heap.SameBut.update (h1.push (seqObj "list" its.toArray 0)) h1.objs.size (Obj.mapSeq λ_=>(#[]:pU));have r:=get?_update_seq j λ_=>(#[]:pU)
 have T:=U.turned (t':=s.toks) (λb o hb z=>(sb.2 b hb).trans z) c.1 c.2.1 c.2.2.2.1 c.2.2.2.2.1 c.2.2.2.2.2;refine aa (seqEpoch_at r rfl ?_);refine aa (wpAny_newTuple ?_ (by show its.length<=_;lia));refine aa (wpAny_newList (ck ?_) (aw _));have t:=T.kept (t':=s.toks) λb o e=>af {cls:=.type "tuple",data:=.seq its.toArray} e;have S:=t.kept (t':=s.toks) λb o e=>af {cls:=.type "list",data:=.seq #[]} e;have P:=t.fpOk (ac _) (t.hok.fresh (ac _));have O:=af {cls:=.type "list",data:=.seq #[]} (af {cls:=.type "tuple",data:=.seq its.toArray} r);refine KG F hb J.in1.in1 (I.ok.frames) S c P (λz=>?_) O (av _ rfl) u v fl N g λY H' ys i W sm na a1 a2 R=>⟨_,rfl,ak ⟨_,rfl,.ref h1.objs.size,_,W,rfl,h _ ys i _ (sm.trans (aF.upd na)) B ec a1 a2 R⟩⟩
 have lt:=bc (af {cls:=.type "tuple",data:=.seq its.toArray} r);exact Nat.ne_of_gt lt z
end
def UP (i:TA):TE:=λh H Q=>i h H λvs c=>∃l xs ds,vs=[.ref l]/\c l=some (.lst xs)/\Reps c ds xs/\(∀d∈ds,Fl d/\nds d<=8000000)/\2<=ds.length/\ds.length<=20000 /\
 ∀e ys g H',aF c H'->c e=none->H' e=some (.lst ys)->g.Perm ds->g.Pairwise leK->Reps c g ys->Q (.ref e) H'
def GC (O:dS X.prog X.w X.K X.mg X.base bU k "order_key" spKey)(J:d9 (k+2) X.A)(P:Gl X "sorted")(L:X.mg "sorted" = none)(j:Gl X "order_key")(T:PA X [e] ta)
  (S:backTo pos (starEach [e] X.env)=(false,eval e X.env)::backTo pos (starEach [] X.env):=by rfl) (i:(backTo pos (starEach [e] X.env)).any (·.1)=false:=by rfl):PE X (.Call (.Name "sorted" p) [e] [⟨some "key",.Name "order_key" p3,kpos⟩] pos) (UP ta):=by
 obtain⟨f,fd,ps,F,R,hk,hb⟩:=O;intro c s m H Q I h;refine wpAny_Call_Name_kw (pK I P L (u:=.builtin "sorted") rfl ?_);refine callWith_kw (thn (T pos c s m H _ I h) λus t ⟨vs,r,I1,r1,B⟩=>?_) S i;have C:PK X [⟨some "key",.Name "order_key" p3,kpos⟩] (tCons (tC (.ref f)) tNil):=QY (gW ⟨_,R,rfl⟩ j) U3;refine thn (C pos c t m r (λvs o=>vs=[.ref f]/\o=r) I1 ⟨rfl,rfl⟩) λG s2 ⟨E,o,Z,z,Y,W⟩=>?_;subst Y W;obtain⟨ku,rfl,g⟩:=aP.one z;cases g;obtain⟨l,xs,ds,rfl,N,x,fl,U,d,q⟩:=B;obtain⟨u,rfl,v⟩:=aP.one r1;cases v;exact ID F hb J Z N x fl U d q
end Lw
namespace Lw
open PySem L2
section
variable {P:dw}{w:dy}{K:dq}{mg:jS}{base:Heap}
def U7 (n z:Str)(d:D)(c:Fl d):opn1 n z d=if eqD d (.str z)=true then []else opP n d:=by
 rcases jN c with⟨x,rfl,_⟩|⟨m,g,rfl,_⟩
 ·rfl
 ·have e:eqD (.tup (.str m::g)) (.str z)=false:=rfl;rw[e,ab ad];rfl
theorem tU:∀(ds l:List D),(∀d∈ds,Fl d)->(∀d∈l,Fl d)->l.Pairwise leK->(ds.foldl (λl d=>insA d l) l).Pairwise leK
 | [],l,_,_,h=>h
 | d::ds,l,hd,g,h=>by
  refine tU ds (insA d l) (λe c=>hd e (ba _ c)) (λe c=>?_) (tW (hd d ax) g h);rcases cw.mp ((oI d l).mem_iff.mp c)with rfl|c
  ·exact hd _ ax
  ·exact g e c
def eQ (h:∀d∈ds,Fl d):(cJ ds).Pairwise leK:=tU ds [] h (λ_ h=>by cases h) .nil
def KF (h:∀d∈ds,Fl d)(p:es.Perm ds)(s:es.Pairwise leK):es=cJ ds :=
 jH (λd hd=>h d (p.mem_iff.mp hd)) (p.trans (aX ds).symm) s (eQ h)
def JI:∀{ds:List D} {d:D},d∈ds->nds d<=ndss ds
 | e::ds,d,h=>by
  rw[ndss];obtain rfl|h:=cw.mp h
  ·lia
  ·have:=JI h;lia
def NV (n z:Str)(d:D):ndss (opn1 n z d)<=nds d:=by
 unfold opn1;split
 ·split
  ·rw[nds];lia
  ·rw[ndss,ndss];lia
 ·split
  ·rw[ndss];lia
  ·rw[ndss,ndss];lia
def BU (n z:Str):∀ds:List D,ndss (opn n z ds)<=ndss ds
 | []=>ac _
 | d::ds=>by rw[dI,g7,ndss];have:=NV n z d;have:=BU n z ds;lia
def y8:Sp:=λvs H Q _=>∃(n z:Str) (a:Addr) (ds:List D) (ws:List V),vs=[.str n,.str z,.ref a]/\H a=some (.lst ws)/\Reps H ds ws/\Fls ds/\szs ds<=20000/\ndss ds<=8000000/\depDs ds<=50 /\
 ∀(c:V) (H':Hp),aF H H'->aY H' (one n z (cJ (opn n z ds))) c->Q c H'
def YS (a l:Addr)(n z:Str)(ds:List D)(H:Hp)(i:Nat)(d:St)(c:Hp):Prop:=∃(us:List V) (o:Option V),d=[some (.str n),some (.str z),some (.ref a),some (.ref l),o]/\c l=some (.lst us)/\aF H c/\Reps c (opn n z (ds.take i)) us
def GM (F:fV K "flat_sum" "flat_sum" mF f Y)(T:Txt mg)(j:dS P w K mg base bU 1 "opened" y6)(g:dS P w K mg base bU 2 "order_key" spKey):cH P w K mg base bU 5 f Y xV y8:=by
 refine F.ok nE (λvs H Q E h=>?_) (λcdv A outer s H vs Q E W h=>?_)
 ·obtain⟨n,z,a,ds,ws,rfl,_⟩:=h;rfl
 ·obtain⟨n,z,a,ds,ws,rfl,X,rd,G,s60,n1000,d50,q⟩:=h;have hu:=W.units
  refine⟨_,(aE (bP 3 nE.nd (cQ aB))
   (aE (eT dj rfl (dF K rfl (pv 2)) (h8 4 nE.nd) (aG (bQ (aR (eZ hu) (pv 4) (pv 1)) (aG (cW (j8 df PySem.F.slot_list_extend PySem.F.type_list_extend B3 (pv 3) (aA (aU j W (aA (pv 0) (aA (pv 4) aB))) aB)))) aO)))
   (aE (bQ (cZ (aT K rfl (pv 3) (λ_=>rfl))) (aG (aL (pv 1))) aO)
   (aE (bQ (aR (eF hu) (aZ bV T.n_len (aA (pv 3) aB)) aJ) (aG (aL (cA dM (pv 3) aJ (λ_ _=>rfl)))) aO)
   (aG (aL (cB fA rfl T.n_tuple rfl (aA (bW bZ (cQ (aA (pv 0) aB)) (GC g (W.mono ad) rfl T.n_sorted rfl (aA (pv 3) aB))) aB)))))))),?_⟩
  try dsimp only[cxOf,Cx.nox]
  clear W F T hu j g;simp only[tFor_fn,tComp_fn];refine⟨ad,λl hl=>⟨_,rfl,a,ws,rfl,.inl (by rw[aC (aD X hl)];exact X),λJ hJ=>?_⟩⟩;have s1:aF H (upd H l (.lst [])):=aF.upd hl;have h1:upd H l (.lst []) l=some (.lst []):=ec;generalize upd H l (.lst [])=H1 at s1 h1 hJ⊢;have small:∀i,(opn n z (ds.take i)).length<=20000:=λi=>by
   have h1:=lX (opn n z (ds.take i));have v:=wI n z (ds.take i);have h3:=DN i ds
   lia
  have lw:=Reps.len rd;refine kL hJ (YS a l n z ds H) ⟨[],none,rfl,h1,s1,rfl⟩ (by rintro i σ H' _ ⟨_,_,_,_,s2,_⟩;rw[s2 _ _ X,s1 _ _ X]) ?_ ?_
  ·rintro i x σ R hx ⟨us,o,rfl,v,s2,r⟩;obtain⟨d,hd,rx⟩:=Reps.get rd hx;have Y:=G.get hd;have dd:=iU hd;have C:=Reps.len r;have L:=U7 n z d Y;refine⟨_,rfl,_,rfl,d,.str z,aY.same s2 rx,rfl,dk,_,rfl,ite_on (λt=>?_) (λt=>?_)⟩
   rotate_left
   ·have t:eqD d (.str z)=true:=by cases c:eqD d (.str z)with|true=>rfl|false=>rw[c]at t;cases t
    rw[t,ai rfl]at L;exact⟨us,_,rfl,v,s2,by rw[ee hd,iR,L,bp];exact r⟩
   ·rw[ab (λc=>by rw[c]at t;cases t)]at L;refine⟨_,rfl,tyL v,_,rfl,_,rfl,n,d,x,rfl,aY.same s2 rx,Y,λU N H3 S hl2 h3 r3=>?_⟩;have l3:=S _ _ v;have lv:=Reps.len r3;have sm:=small (i+1);rw[ee hd,iR,au,L]at sm;have f2:Fls (opn n z (ds.take i)++opP n d):=by rw[←L,←iR,←ee hd];exact sJ (jM λe t=>eG G e (List.mem_of_mem_take t))
    refine⟨l,U,us,N,rfl,rfl,l3,.inl h3,ao (m:=20010) dk ad,us++N,_,rfl,ec,λb o hb=>by rw[aC (aD hb hl)];exact S _ _ (s2 _ _ hb),?_⟩;rw[ee hd,iR,L];exact Reps.tups (bK.lst l3) f2 (Reps.append (Reps.same S r) (Reps.same S r3))
  ·rintro σ R ⟨us,o,rfl,v,s2,r⟩;rw[lw,bw]at r;have I:=sJ (n:=n) (z:=z) G;have C:=Reps.len r;have sm:=small ds.length;rw[bw]at sm;have nn:=BU n z ds;refine⟨_,rfl,!us.isEmpty,.inl ⟨us,fL.of v,rfl⟩,?_⟩;generalize hos:opn n z ds=os at I C sm nn r q;clear hos
   match os,I,C,sm,nn,r,q with
   | [],I,C,sm,nn,r,q =>
    cases (show us=[]from r);exact ite_on (λ_=>⟨_,rfl,q _ _ s2 rfl⟩) λc=>nomatch c
   | [d],I,C,sm,nn,⟨u,_,e,h,e'⟩,q =>
    subst e;cases (show _=[]from e');exact ite_on (λc=>nomatch c) λ_=>⟨_,rfl,_,.int ([u].length:Int),rfl,by dsimp only;rw[lenV_l v];rfl,eqIC ⟨_,rfl,ite_on (λ_=>⟨_,rfl,u,by rw[ixV_l v];exact atI_zero,q _ _ s2 h⟩) λc=>nomatch c⟩⟩
   | d::d2::B,I,C,sm,nn,r,q =>
    have U:us.length=B.length+2:=by rw[C];rfl
    have ne:us≠[]:=λz=>by rw[z]at U;simp at U
    refine ite_on (λc=>by cases us with|nil=>exact absurd rfl ne|cons a b=>cases c) λ_=>⟨_,rfl,_,.int (us.length:Int),rfl,by dsimp only;rw[lenV_l v];rfl,eqIC ⟨_,rfl,ite_on (λc=>absurd (bu c) dk) λ_=>⟨_,rfl,show 1<=sizeLine by decide,λp hp=>?_⟩⟩⟩
    have sp:aF R (upd R p (.lst [.str n])):=aF.upd hp;have O:upd R p (.lst [.str n]) p=some (.lst [.str n]):=ec;generalize upd R p (.lst [.str n])=H3 at sp O⊢;have all:∀e∈d::d2::B,Fl e:=eG I;refine⟨_,rfl,l,us,d::d2::B,rfl,sp _ _ v,Reps.same sp r,λe t=>⟨all e t,by have:=JI t;lia⟩,dl,by simp only[aq]at sm⊢;lia,λl' ys es H4 Z hl' h4 pm so re=>?_⟩;have ees:=KF all pm so;have ly:=Reps.len re;have le:=pm.length_eq;refine .inr ⟨.lst (.str n::ys),rL (Z _ _ O) h4 (ao (m:=20010) (by simp only[aq,List.length_nil]at sm le⊢;lia) ad),λp5 hp5=>⟨_,.str n::ys,rfl,.inl ec,λl6 H6 hc=>?_⟩⟩;rcases hc with⟨hc,_⟩|⟨_,hl6,rfl⟩
    ·rw[ec]at hc;cases hc
    ·have s6:aF H4 (upd (upd H4 p5 (.lst (.str n::ys))) l6 (.tup (.str n::ys))):=(aF.upd hp5).trans (aF.upd hl6);refine q _ _ ((s2.trans (sp.trans Z)).trans s6) ?_;rw[EB (by rw[(aX _).length_eq];simp),←ees];exact⟨l6,_,rfl,ec,.str n,ys,rfl,rfl,Reps.same (Z.trans s6) re⟩
def jD (K:dq)(C:Addr):Sp:=λvs H Q _=>∃(g:Addr) (fx:cU) (sm:cC) (n:Str) (a:Addr) (ds:List D) (ws:List V),vs=[.ref g,.str n,.ref a]/\iG K C fx sm H g/\H a=some (.lst ws)/\Reps H ds ws/\Fls ds/\szs ds<=20000/\ndss ds<=8000000/\depDs ds<=50 /\
 ∀(c:V) (H':Hp),aF H H'->aY H' (knot sm n ds) c->Q c H'
def GK (F:fV K "flat_of_parts" "flat_of_parts" fZ f fd)(T:Txt mg)(e:MH P w K mg base bU 1 C "nought" (qC K C))(d:dS P w K mg base bU 5 "flat_sum" y8):cH P w K mg base bU 6 f fd mU (jD K C):=by
 refine F.ok lK (λvs H Q E h=>?_) (λX A outer s H vs Q E l h=>?_)
 ·obtain⟨g,N,sm,n,a,ds,i,rfl,_⟩:=h;rfl
 ·obtain⟨g,N,sm,n,a,ds,i,rfl,sg,v,r,x,o,j,G,q⟩:=h;have R:=l.units
  refine⟨_,(aE (bP 3 lK.nd (BR e (l.mono ad) pass0 (pv 0) (aA (pv 1) aB)))
   (aE (bQ (aR U9 (pv 3) BQ) (aG (aL (cB fA rfl T.n_tuple rfl (aA (bW bZ (cQ (aA (pv 1) aB)) (pv 2)) aB)))) aO)
   (aG (aL (aU d l (aA (pv 1) (aA (pv 3) (aA (pv 2) aB)))))))),?_⟩
  try dsimp only[cxOf,Cx.nox]
  clear l F T R e d;obtain⟨W,fs,_,_,U,_,S,_⟩:=sg.ex;refine⟨_,rfl,g,W,fs,rfl,U,S,_,rfl,g,n,N,sm,rfl,sg,?_⟩;unfold knot at q;cases hz:zr sm n with
  | none =>
   have B:nulV sm n = .non:=by unfold nulV;rw[hz];rfl
   rw[hz]at q;rw[B];refine⟨_,rfl,rfl,_,rfl,ite_on (λ_=>?_) (λc=>nomatch c)⟩;have Y:=Reps.len r;have:=lX ds;refine⟨_,rfl,show 1<=sizeLine by decide,λp L=>⟨_,rfl,.inr ⟨.lst (.str n::i),rL ec (by rw[aC (aD v L)];exact v) (ao (m:=20010) (by simp;lia) ad),λO t=>⟨_,.str n::i,rfl,.inl ec,λJ Z hc=>?_⟩⟩⟩⟩;rcases hc with⟨hc,_⟩|⟨_,u,rfl⟩
   ·rw[ec]at hc;cases hc
   ·have I:aF H (upd (upd (upd H p (.lst [.str n])) O (.lst (.str n::i))) J (.tup (.str n::i))):=((aF.upd L).trans (aF.upd t)).trans (aF.upd u);exact q _ _ I ⟨J,_,rfl,ec,.str n,i,rfl,rfl,Reps.same I r⟩
  | some z =>
   have B:nulV sm n = .str z:=by unfold nulV;rw[hz];rfl
   rw[hz]at q;rw[B];exact⟨_,rfl,rfl,_,rfl,ite_on (λc=>nomatch c) λ_=>⟨_,rfl,_,rfl,_,rfl,n,z,a,ds,i,rfl,v,r,x,o,j,G,q⟩⟩
end
end Lw
namespace L2
open PySem PySem.Spec PyProof.Rows
def Q7 {X:Cx}(K:dq)(l:X.K=K){o:Expr}{i:TE}{name:Str}{d c:Pos}{T id:String}{r:V->List V->Hp->VK->Prop}(pa:PlainAttrs T)(slot:Slot T name id)(h:typeOf (.builtin id)=pure (.type "method_descriptor"))(j:XW X id r)(ho:PE X o i)
  (g:attributeBase o name X.env (eval o X.env)=eval o X.env:=by rfl) (e:(d.endLine == c.line)=true:=by rfl):PE X (.Call (.Attribute o name d) [] [] c) (tBM0 K T r i):=by
 subst l;exact BT pa slot h j ho g e
noncomputable abbrev pinO (a:Addr)(o:Obj):HO:=.ext λh=>h.get? a=some o
def BM (e:h.get? a=some o):cK P w H h a (pinO a o):=⟨e,⟨o,e⟩,λd c q k=>k o q⟩
def qQ (ok:hV P w H h)(e:H a=some (pinO a o)):h.get? a=some o:=(ok a _ e).1
noncomputable def del1 (H:Hp)(p:Addr):Hp:=λb=>if b=p then none else H b
def PN (h:del1 H p b=some o):H b=some o/\b≠p:=by
 unfold del1 at h;by_cases e:b=p
 ·rw[ai e]at h;cases h
 ·rw[ab e]at h;exact⟨h,e⟩
def jF (h:H b=none):del1 H p b=none:=by
 unfold del1;split
 ·rfl
 ·exact h
def dZ (h:b≠p):del1 H p b=H b:=by unfold del1;rw[ab h]
def oM:del1 H p p=none:=by unfold del1;rw[ai rfl]
def hV.del {P:dw}{w:dy}{H:Hp}{h:Heap}{c:Addr}{φ:Heap->Prop}(ok:hV P w H h)(e:H c=some (.ext φ)):hV P w (del1 H c) h:=λa o q=>by obtain⟨d,g⟩:=PN q;exact(ok a o d).stay (λ_ _ _ z=>z) (λb z=>by rw[dZ (λw=>by rw[w,e]at z;cases z)];exact z) (λb xs z=>by rw[dZ (λw=>by rw[w,e]at z;cases z)];exact z)
def hV.back (ok:hV P w H h)(n:H c=none)(e:h.get? c=some o):hV P w (upd H c (pinO c o)) h:=λa u q=>by
 by_cases z:a=c
 ·subst z;rw[ec]at q;cases q;exact BM e
 ·rw[aC z]at q;exact(ok a u q).stay (λ_ _ _ z=>z) (λb z=>by rw[aC (aD z n)];exact z) (λb xs z=>by rw[aC (aD z n)];exact z)
end L2
namespace Lw
open PySem PySem.Spec PyProof.Rows L2
noncomputable def lamOf (s:Stmt):Expr:=match cS s with
 | [.Return (some (.Call _ [_,_,e] _ _)) _]=>e
 | _=>.Name "" ⟨0,0,0,0⟩
noncomputable def VS (e:Expr):Arguments:=match e with
 | .Lambda a _ _ _=>a
 | _=>default
noncomputable def VT (e:Expr):Expr:=match e with
 | .Lambda _ b _ _=>b
 | e=>e
noncomputable def lamSc (e:Expr):Scope:=match e with
 | .Lambda _ _ s _=>s
 | _=>default
noncomputable abbrev pL:Arguments:=VS (lamOf dA)
noncomputable abbrev bL:Expr:=VT (lamOf dA)
noncomputable abbrev scL:Scope:=lamSc (lamOf dA)
noncomputable def qL:Str:="put_in.<locals>.<lambda>"
noncomputable abbrev oL (c0 c':Addr)(pm ctv:dv):Obj:=PySem.W.kla_obj "<lambda>" qL pL bL scL [("signs",c0)] pm c' ctv
noncomputable abbrev envL (L fl c0 c':Addr):Env:=newEnv scL L mainGlobals [("signs",c0)] (qL++".<locals>.") (some fl) (.ref c') none builtinsNs
noncomputable def cxL (P:dw)(w:dy)(K:dq)(mg:jS)(base:Heap)(A:dz)(outer:List Env)(s:du)(H:Hp)(fl c d:Addr):Cx where
 prog:=P
 w:=w
 K:=K
 mg:=mg
 base:=base
 A:=A.deeper (envL s.heap.objs.size fl c d)
 N:=["name","parts","signs"]
 s₀:=s
 H₀:=H
 env:=envL s.heap.objs.size fl c d
 outer:=outer
 stack:=envL s.heap.objs.size fl c d::outer
 ex:=[]
 fn:=λ_=>false
 calm:=true
 pn:=[]
 xe:=λ_ _=>False
def HN (h:scL.names.lookup x=some .cell\/scL.names.lookup x=some .free):x="signs":=by
 have all:∀y∈scL.names,(y.2 = .cell\/y.2 = .free)->y.1=("signs" : Str):=by decide +kernel
 rcases h with h|h
 ·exact all _ (PySem.mem_of_lookup h) (.inl rfl)
 ·exact all _ (PySem.mem_of_lookup h) (.inr rfl)
section
variable {P:dw}{w:dy}{K:dq}{mg:jS}{base:Heap}
def R9 (S:d9 (k+1) A)(d:yP P w K mg base A outer s H)
  (U:H fl=some (pinO fl (oL c0 c' pm ctv))) (l:H c0=some (pinO c0 oc0)) (F:oc0.data = .cell (some (.ref g))) (Y:H c'=some (pinO c' oc')) (X:oc'.data = .fields vsc) (hq:vsc[1]?=some (.str qL tq))
  (O:dS P w K mg base bU k "flat_of_parts" (jD K C)) (r1:aQ (.str n) u1) (r2:aQ (.ref a) u2) (sp:jD K C [.ref g,.str n,.ref a] (del1 H c0) (λv H'=>H' c0=none->Q v (upd H' c0 (pinO c0 oc0))) E0) :
  codeAny (model P w) A (.call (.ref fl) ⟨[u1,u2],[]⟩) (CR bU outer P w H s Q E0) s:=by
 have Z:=qQ d.hok U;have L:=qQ d.hok l;have g':=qQ d.hok Y;have R:s.heap.NoLimit:=d.mod.nolimit.keeps λb o e=>(d.bs b o e).1;refine PySem.W.kla_callFunE S.depth Z rfl rfl rfl rfl ⟨c',oc',vsc,tq,rfl,g',X,hq⟩ ?_;rw[show bindArgs (PySem.W.kla_fn "<lambda>" qL pL bL scL [("signs",c0)] pm (.ref c') ctv) ⟨[u1,u2],[]⟩=pure [(("name" : Str),u1),(("parts" : Str),u2)]from rfl];have nc:∀x∈scL.names,x.2≠.cell:=by decide +kernel
 have nl:∀x∈[(("name" : Str),u1),(("parts" : Str),u2)],scL.names.lookup x.1=some .local:=by
  intro x j;obtain rfl|j:=cw.mp j
  ·rfl
  ·rw[cu.mp j];rfl
 refine ak (wpAny_newFunctionEnv nc nl (λh' T E=>⟨R.fresh _ E,?_⟩) rfl);have G:∀b o,s.heap.get? b=some o->h'.get? b=some o:=λb o e=>E.extBut b o (bq (bc e)) (af _ e);have B:=d.hok.del l;have N:c0∉frs outer:=λz=>by have:=d.frf c0 z;rw[l]at this;cases this
 have I:aM (cxL P w K mg base A outer s (del1 H c0) fl c0 c') [] [some (.str n),some (.ref a),some (.ref g)] (del1 H c0) {s with heap:=h',toks:=s.toks+2}:=by
  have t:∀b:Addr,b∉(cxL P w K mg base A outer s (del1 H c0) fl c0 c').ex:=λb z=>absurd (show b∈([]:List Addr)from z) dl;have one:∀x c,(cxL P w K mg base A outer s (del1 H c0) fl c0 c').env.cells.lookup x=some c->x=("signs" : Str)/\c=c0:=λx c e=>by have e':[(("signs" : Str),c0)].lookup x=some c:=e;have:=PySem.mem_of_lookup e';rw[cu]at this;cases this;exact⟨rfl,rfl⟩
  refine⟨⟨d.mod,rfl,rfl,rfl,ac _,λx y c m r=>?_,λx j=>?_,λx c h=>absurd h (by simp[cxL]),λ_=>S.hd,Around.frames_deeper d.frames,.inr ⟨rfl,rfl⟩,λb z=>absurd z (t b),λb o e=>⟨(d.bs b o e).1,jF (d.bs b o e).2⟩,d.bsz,λb _ _=>t b,λb z=>absurd z (t b),d.funs,λb z=>jF (d.frf b z)⟩,
   rfl,d.bare,Un.kept G,⟨_,T,λi x v m r h3=>?_⟩,λx c h=>?_,B.fresh (ac _),λx c h=>?_,λp hp=>absurd (show p∈([]:dD)from hp) dl,B.kept G,rfl⟩
  ·rw[(one x c m).1,(one y c r).1]
  ·rw[HN j];exact⟨c0,rfl⟩
  ·match i,m,r with
   | 0,m,r=>cases m;cases r;exact⟨u1,r1,.inl ⟨rfl,rfl⟩⟩
   | 1,m,r=>cases m;cases r;exact⟨u2,r2,.inl ⟨rfl,rfl⟩⟩
   | 2,m,r=>cases m;cases r;exact⟨.ref g,rfl,.inr ⟨.inr rfl,c0,rfl,oc0,G _ _ L,F⟩⟩
   | i+3,m,r=>cases m
  ·rw[(one x c h).2];exact⟨_,oc0,G _ _ L,F⟩
  ·rw[(one x c h).2];exact oM
 have pb:PE (cxL P w K mg base A outer s (del1 H c0) fl c0 c') bL (tCall (jD K C) [] E0 (tCons (tVar 2) (tCons (tVar 0) (tCons (tVar 1) tNil)))):=eE O (S.deeper _) pass0 rfl (aA (pv 2) (aA (pv 0) (aA (pv 1) aB)));refine PySem.W.kla_codeExpr (wpAny_mono (pb [] _ _ _ (λv H'=>H' c0=none->Q v (upd H' c0 (pinO c0 oc0))) I ⟨_,rfl,_,rfl,_,rfl,sp⟩) (λu s' ⟨v,H',J,rv,q⟩=>?_) λ_ _ z=>z.elim);have un:Un (frs outer) [] (del1 H c0) H' s.heap s'.heap:=J.base;have gs:=un.keep c0 oc0 L oM N dl;have nn:=un.free c0 oc0 L oM dl;refine⟨v,upd H' c0 (pinO c0 oc0),J.os,J.bare,?_,J.hok.back nn gs,rv,q nn⟩;have ne:∀b u,H b=some u->(∀φ,u≠.ext φ)->b≠c0:=λb u e z w=>by rw[w,l]at e;cases e;exact z _ rfl
 refine⟨λb o e z hb j=>un.keep b o e (jF z) hb j,λb o e z hb j=>un.slot b o e (jF z) hb j,λb o e z j=>?_,λb o e j=>un.there b o e j,λb xs e=>?_,λb o u' e=>?_,λb ps e=>?_⟩
 ·rw[aC (λw=>by rw[w,l]at z;cases z)];exact un.free b o e (jF z) j
 ·have nb:=ne b _ e (λφ=>by simp);rw[aC nb];exact un.tups b xs (by rw[dZ nb];exact e)
 ·have nb:=ne b _ e (λφ=>by simp);rw[aC nb];exact un.frzs b o u' (by rw[dZ nb];exact e)
 ·have nb:=ne b _ e (λφ=>by simp);rw[aC nb];exact un.tbls b ps (by rw[dZ nb];exact e)
end
def FP (H:Hp)(fl c g:Addr):Prop:=∃(d:Addr) (pm ctv:dv) (oc0 oc':Obj) (vsc:pU) (tq:Tok),H fl=some (pinO fl (oL c d pm ctv))/\H c=some (pinO c oc0)/\oc0.data = .cell (some (.ref g))/\H d=some (pinO d oc')/\oc'.data = .fields vsc/\vsc[1]?=some (.str qL tq)
def FP.same (h:FP H fl c0 g)(s:aF H H'):FP H' fl c0 g:=by obtain⟨r,pm,i,d,e,c,j,q,p,o,m,l⟩:=h;exact⟨r,pm,i,d,e,c,j,s _ _ q,s _ _ p,o,s _ _ m,l⟩
mutual
theorem aY.del1 {H:Hp}{c:Addr}{φ:Heap->Prop}(e:H c=some (.ext φ)):∀{d:D} {v:V},aY H d v->aY (L2.del1 H c) d v
 | .non,v,h | .bl _,v,h | .int _,v,h | .str _,v,h=>h
 | .tup ds,v,⟨a,vs,j,g,i⟩=>⟨a,vs,j,by rw[dZ (λz=>by rw[z,e]at g;cases g)];exact g,Reps.del1 e i⟩
 | .lst ds,v,⟨a,vs,j,g,i⟩=>⟨a,vs,j,by rw[dZ (λz=>by rw[z,e]at g;cases g)];exact g,Reps.del1 e i⟩
theorem Reps.del1 {H:Hp}{c:Addr}{φ:Heap->Prop}(e:H c=some (.ext φ)):∀{ds:List D} {vs:List V},Reps H ds vs->Reps (L2.del1 H c) ds vs
 | [],vs,h=>h
 | d::ds,vs,⟨v,r,j,i,g⟩=>⟨v,r,j,aY.del1 e i,Reps.del1 e g⟩
end
theorem iG.del1 {K:dq}{C:Addr}{l:cU}{sm:cC}{H:Hp}{g c:Addr}{φ:Heap->Prop}(e:H c=some (.ext φ))(h:iG K C l sm H g):iG K C l sm (L2.del1 H c) g:=by obtain⟨a,b,n,r,fs,t,s,j,q,p,o,m,i,d⟩:=h;exact⟨a,b,n,r,fs,t,s,by rw[dZ (λz=>by rw[z,e]at j;cases j)];exact j,q,p,o,m,by rw[dZ (λz=>by rw[z,e]at i;cases i)];exact i,by rw[dZ (λz=>by rw[z,e]at d;cases d)];exact d⟩
def tLam (K:dq)(C:Addr)(i:Nat)(t:TA):TE:=λd H Q=>∃fl,d[i]?=some (some (.ref fl))/\t d H λvs c=>∃(h g:Addr) (fx:cU) (sm:cC) (n:Str) (a:Addr) (ds:List D) (ws:List V),vs=[.str n,.ref a]/\FP c fl h g /\
 iG K C fx sm c g/\c a=some (.lst ws)/\Reps c ds ws/\Fls ds/\szs ds<=20000/\ndss ds<=8000000/\depDs ds<=50/\∀(e:V) (H':Hp),aF c H'->aY H' (knot sm n ds) e->Q e H'
def GF (hN:X.N[i]?=some ("whole" : Str))(hv:XJ X.env.scope "whole")(O:dS X.prog X.w X.K X.mg X.base bU k "flat_of_parts" (jD X.K C))(hr:d9 (k+1) X.A)(ha:PA X [e1,e2] t)
  (he:starEach [e1,e2] X.env=(false,eval e1 X.env)::starEach [e2] X.env:=by rfl) (E:(backTo pos (starEach [e2] X.env)).any (·.1)=false:=by rfl):PE X (.Call (.Name "whole" p) [e1,e2] [] pos) (tLam X.K C i t):=by
 intro d s T H Q I h;obtain⟨fl,F,h⟩:=h;have pw:PE X (.Name "whole" p) (tVar i):=NK hN hv;refine wpAny_Call_Name_kw (thn (pw d s T H (λx H'=>x = .ref fl/\H'=H) I ⟨_,F,rfl,rfl⟩) λf s0 ⟨x,H0,I0,rx,e3,e4⟩=>?_);subst e3 e4;cases rx;have c:=ha pos d s0 T H0 _ I0 h;rw[he]at c⊢;refine PySem.W.callWith_of (P:=λh=>∃o Y,h.get? fl=some o/\o.data = .func Y) (by show((false || (backTo pos (starEach [e2] X.env)).any (·.1)) || false)=false;rw[E];rfl) (λh ⟨o,Y,z1,Z⟩=>⟨.frame,.inl rfl,?_⟩) (Calls.evalArgs_plain (thn c λus s1 ⟨vs,H1,S,rv,q⟩=>?_))
 ·intro A' Q' E' s' kp q;unfold keeperOf;refine aa (wpAny_load (kp _ _ z1) ?_);rw[Z];exact ak q
 ·obtain⟨c0,g,fx,sm,n,a,ds,ws,rfl,la,sg,G,rd,J,B,j,R,q⟩:=q;obtain⟨c',pm,ctv,oc0,oc',vsc,tq,U,l,l3,l4,l5,l6⟩:=la;obtain⟨u1,u2,rfl,r1,r2⟩:=aP.two rv;refine⟨⟨_,_,qQ S.hok U,rfl⟩,?_⟩;refine wpAny_call (codeAny_mono (R9 (Q:=Q) hr S.env0 U l l3 l4 l5 l6 O r1 r2 ⟨g,fx,sm,n,a,ds,ws,rfl,sg.del1 l,by rw[dZ (λz=>by rw[z,l]at G;cases G)];exact G,Reps.del1 l rd,J,B,j,R,λv' H' v rp nn=>q v' _ (λb o e=>?_) (aY.same (aF.upd nn) rp)⟩) λr s' m=>?_)
  ·by_cases z:b=c0
   ·subst z;rw[l]at e;cases e;exact ec
   ·rw[aC z];exact v b o (by rw[dZ z];exact e)
  ·cases r with
   | error e=>exact m.elim
   | ok L =>
    cases L with
    | ret u=>exact S.after m
    | next=>exact m.elim
    | brk=>exact m.elim
    | cont=>exact m.elim
end Lw
namespace Lw
open PySem L2
mutual
def NF (sm:cC):D->Prop
 | .tup (.str n::ds)=>NFs sm ds/\∀z,zr sm n=some z->2<=ds.length/\ds.Pairwise leK/\∀e∈ds,opn1 n z e=[e]
 | _=>True
def NFs (sm:cC):List D->Prop
 | []=>True
 | d::ds=>NF sm d/\NFs sm ds
end
def B1:∀{ds:List D},NFs sm ds->∀d∈ds,NF sm d
 | _::_,⟨a,b⟩,d,h=>by
  obtain rfl|h:=cw.mp h
  ·exact a
  ·exact B1 b d h
def GO:∀{ds:List D},(∀d∈ds,NF sm d)->NFs sm ds
 | [],_=>trivial
 | d::ds,h=>⟨h d ax,GO λe k=>h e (ba _ k)⟩
def RA (hz:zr sm n=some z)(h:NF sm d):∀e∈opn1 n z d,NF sm e/\opn1 n z e=[e]:=by
 intro e i;have rest:∀d':D,(∀m g,d'≠.tup (.str m::g))->opn1 n z d'=if eqD d' (.str z)=true then []else [d']:=λd' hd=>by
  unfold opn1;split
  ·rename_i m g;exact absurd rfl (hd m g)
  ·rfl
 by_cases c:∃m g,d = .tup (.str m::g)
 ·obtain⟨m,g,rfl⟩:=c;by_cases l:m=n
  ·subst l;have j:opn1 m z (.tup (.str m::g))=g:=by rw[opn1,ai rfl]
   rw[j]at i;unfold NF at h;exact⟨B1 h.1 e i,(h.2 z hz).2.2 e i⟩
  ·have j:opn1 n z (.tup (.str m::g))=[.tup (.str m::g)]:=by rw[opn1,ab l]
   rw[j]at i;cases cu.mp i;exact⟨h,j⟩
 ·have j:=rest d λm g z=>c ⟨m,g,z⟩;by_cases q:eqD d (.str z)=true
  ·rw[j,ai q]at i;cases i
  ·rw[ab q]at j;rw[j]at i;cases cu.mp i;exact⟨h,j⟩
def NT (hz:zr sm n=some z)(h:NFs sm ds):∀e∈opn n z ds,NF sm e/\opn1 n z e=[e]:=λe c=>by obtain⟨d,i,g⟩:=List.mem_flatMap.mp c;exact RA hz (B1 h d i) e g
def CA (f:Fls ps)(h:NFs sm ps):NF sm (knot sm n ps):=by
 unfold knot;cases hz:zr sm n with
 | none =>
  dsimp only;unfold NF;exact⟨h,λz e=>by rw[hz]at e;cases e⟩
 | some z =>
  dsimp only;have pm:=aX (opn n z ps);have so:=eQ (eG (sJ (n:=n) (z:=z) f));have c:∀e∈cJ (opn n z ps),NF sm e/\opn1 n z e=[e]:=λe j=>NT hz h e (pm.mem_iff.mp j);generalize cJ (opn n z ps)=l at so c
  match l,so,c with
  | [],_,_=>unfold one NF;trivial
  | [d],_,c=>exact(c d (cu.mpr rfl)).1
  | d::e::l,so,c =>
   show NF sm (.tup (.str n::d::e::l));unfold NF;refine⟨GO λx i=>(c x i).1,λm g=>?_⟩;rw[hz]at g;cases g;exact⟨dl,so,λx i=>(c x i).2⟩
mutual
theorem HR (hz:∀r∈sm,r.2=("" : Str)\/Fl (.str r.2)):∀{d:D},Tm d->NF sm (flt sm d)
 | .str x,_=>by
  have:flt sm (.str x) = .str x:=by unfold flt;rfl
  rw[this];unfold NF;trivial
 | .tup (.str n::ds),h=>by
  unfold Tm at h;rw[flt];exact CA (jB hz h.2).1 (CO hz h.2)
 | .lst (.str n::ds),h=>by unfold Tm at h;rw[flt];exact CA (jB hz h.2).1 (CO hz h.2)
theorem CO (hz:∀r∈sm,r.2=("" : Str)\/Fl (.str r.2)):∀{ds:List D},Tms ds->NFs sm (flts sm ds)
 | [],_=>trivial
 | d::ds,⟨a,b⟩=>by rw[flts];exact⟨HR hz a,CO hz b⟩
end
def zS (hz:zr sm n=some z)(f:Fls ps)(p:(opn n z ps).Perm (opn n z qs)):knot sm n ps=knot sm n qs:=by unfold knot;rw[hz];dsimp only;have f1:=eG (sJ (n:=n) (z:=z) f);have f2:∀d∈opn n z qs,Fl d:=λd hd=>f1 d (p.mem_iff.mpr hd);rw[jH (λd hd=>f1 d ((aX _).mem_iff.mp hd)) ((aX _).trans (p.trans (aX _).symm)) (eQ f1) (eQ f2)]
def KR (hz:zr sm n=some z)(h:NFs sm gs):(opn1 n z (knot sm n gs)).Perm (opn n z gs):=by
 unfold knot;rw[hz];dsimp only;have pm:=aX (opn n z gs);have c:∀e∈cJ (opn n z gs),opn1 n z e=[e]:=λe g=>(NT hz h e (pm.mem_iff.mp g)).2;refine List.Perm.trans ?_ pm;generalize cJ (opn n z gs)=l at c
 match l,c with
 | [],_ =>
  show(opn1 n z (.str z)).Perm [];have:opn1 n z (.str z)=[]:=by unfold opn1;dsimp only;rw[ai (by simp[eqD])]
  rw[this]
 | [d],c=>rw[show one n z [d]=d from rfl,c d (cu.mpr rfl)]
 | d::e::l,c =>
  show(opn1 n z (.tup (.str n::d::e::l))).Perm _;rw[opn1,ai rfl]
def ET (hz:zr sm n=some z)(f:Fl d)(h:NF sm d)(r:ps=[d,.str z]\/ps=[.str z,d]):knot sm n ps=d:=by
 have l:opn1 n z (.str z)=[]:=by unfold opn1;dsimp only;rw[ai (by simp[eqD])]
 have t:opn n z ps=opn1 n z d:=by
  rcases r with rfl|rfl
  ·rw[dI,dI,l];simp[opn]
  ·rw[dI,dI,l];simp[opn]
 unfold knot;rw[hz];dsimp only;rw[t];by_cases c:∃g,d = .tup (.str n::g)
 ·obtain⟨g,rfl⟩:=c;unfold NF at h;obtain⟨o,so,_⟩:=h.2 z hz;have j:∀e∈g,Fl e:=by unfold Fl at f;exact eG f
  rw[opn1,ai rfl,jH (λx p=>j x ((aX _).mem_iff.mp p)) (aX g) (eQ j) so]
  match g,o with
  | _::_::_,_=>rfl
 ·have i:opn1 n z d=[d]\/(opn1 n z d=[]/\d = .str z):=by
   unfold opn1;split
   ·rename_i m g;refine .inl (ab λe=>c ⟨g,by rw[e]⟩)
   ·by_cases q:eqD d (.str z)=true
    ·rw[ai q];refine .inr ⟨rfl,?_⟩;cases d with
     | str x=>unfold eqD at q;rw[bu q]
     | _=>unfold eqD at q;simp at q
    ·rw[ab q];exact .inl rfl
  rcases i with i|⟨i,s⟩
  ·rw[i];rfl
  ·rw[i,s];rfl
def eN {c:cU}{sm:cC}{os:aV}:∀{ds:List D},IsTms c sm os ds->∀d∈ds,aS c sm os d
 | _::_,⟨a,b⟩,d,h=>by
  obtain rfl|h:=cw.mp h
  ·exact a
  ·exact eN b d h
def qZ {c:cU}{sm:cC}{os:aV}:∀{ds:List D},(∀d∈ds,aS c sm os d)->IsTms c sm os ds
 | [],_=>trivial
 | d::ds,h=>⟨h d ax,qZ λe k=>h e (ba _ k)⟩
def NR (p:l.Perm m):(opn n z l).Perm (opn n z m):=by unfold opn;exact p.flatMap_right _
def D9:∀{c:List D},(∀e∈c,opn1 n z e=[e])->opn n z c=c
 | [],_=>rfl
 | e::c,h=>by rw[dI,h e ax,D9 λx d=>h x (ba _ d)];rfl
mutual
theorem OB:∀{d:D},NF sm d->Fl d->flt sm d=d
 | .str x,_,_=>by unfold flt;rfl
 | .tup (.str n::e),h,f=>by
  unfold NF at h;unfold Fl at f;rw[flt,EG h.1 f];unfold knot;cases hz:zr sm n with
  | none=>rfl
  | some z =>
   dsimp only;obtain⟨g,so,j⟩:=h.2 z hz;have c:=eG f;rw[D9 j,jH (λx i=>c x ((aX _).mem_iff.mp i)) (aX e) (eQ c) so]
   match e,g with
   | _::_::_,_=>rfl
 | .non,_,f | .bl _,_,f | .int _,_,f | .tup [],_,f | .lst _,_,f | .tup (.non::_),_,f | .tup (.bl _::_),_,f | .tup (.int _::_),_,f | .tup (.tup _::_),_,f | .tup (.lst _::_),_,f=>by unfold Fl at f;exact absurd f id
theorem EG:∀{ds:List D},NFs sm ds->Fls ds->flts sm ds=ds
 | [],_,_=>rfl
 | d::ds,⟨a,b⟩,⟨f,g⟩=>by rw[flts,OB a f,EG b g]
end
def JF {g:cU}{sm:cC}{os:aV}{n z:Str}{d:D}(h:aS g sm os d):∀e∈opn1 n z d,aS g sm os e:=by
 intro e c;unfold opn1 at c;split at c
 ·rename_i m i;split at c
  ·unfold aS at h;exact eN h.2 e c
  ·cases cu.mp c;exact h
 ·split at c
  ·cases c
  ·cases cu.mp c;exact h
def TV (h:zr sm n=some z):∃r∈sm,r.1=n/\r.2=z:=by unfold zr at h;obtain⟨r,c,e⟩:=Option.map_eq_some_iff.mp h;have d:=List.find?_some c;exact⟨r,List.mem_of_find?_eq_some c,bu d,e⟩
def B8 {c:cU}{sm:cC}{os:aV}{n:Str}{ps:List D}(so:aW c sm)(f:Fls ps)(b:Nbs ps)(h:IsTms c sm os ps)(hd:C9 c sm n ps.length):aS c sm os (knot sm n ps):=by
 unfold knot;cases hz:zr sm n with
 | none=>dsimp only;unfold aS;exact⟨hd,h⟩
 | some z =>
  dsimp only;obtain⟨r,m,o,j⟩:=TV hz;have pm:=aX (opn n z ps);have g:∀e∈cJ (opn n z ps),aS c sm os e:=λe p=>by obtain⟨d,i,s⟩:=List.mem_flatMap.mp (pm.mem_iff.mp p);exact JF (eN h d i) e s
  have ne:z=("" : Str)->cJ (opn n z ps)≠[]:=λe q=>by subst e;have i:=NU (n:=n) f b (λe=>by rw[e]at hd;have:=pN hd;simp at this);rw[q]at pm;exact i (List.Perm.eq_nil pm.symm)
  generalize cJ (opn n z ps)=l at g ne
  match l,g,ne with
  | [],_,ne =>
   show aS c sm os (.str z);unfold aS;refine .inr ?_;rw[←j];exact so.nought r m λe=>ne (by rw[←j];exact e) rfl
  | [d],g,_=>exact g d (cu.mpr rfl)
  | d::e::l,g,_ =>
   show aS c sm os (.tup (.str n::d::e::l));unfold aS;exact⟨.inr ⟨dl,by rw[←o];exact cy.mpr ⟨r,m,rfl⟩⟩,qZ g⟩
mutual
theorem CP {c:cU}{sm:cC}{os:aV}(so:aW c sm)(ho:∀x∈os,bR x):∀{d:D},aS c sm os d->aS c sm os (flt sm d)
 | .str x,h=>by
  have:flt sm (.str x) = .str x:=by unfold flt;rfl
  rw[this];exact h
 | .tup (.str n::ds),h=>by
  unfold aS at h;have t:=(vT so ho h.2).1;have g:=jB (cL so) t;rw[flt];exact B8 so g.1 g.2 (CN so ho h.2) (by rw[iS,ae];exact h.1)
 | .lst (.str n::ds),h=>by
  unfold aS at h;have t:=(vT so ho h.2).1;have g:=jB (cL so) t;rw[flt];exact B8 so g.1 g.2 (CN so ho h.2) (by rw[iS,ae];exact h.1)
 | .non,h | .bl _,h | .int _,h | .tup [],h | .lst [],h | .tup (.non::_),h | .tup (.bl _::_),h | .tup (.int _::_),h | .tup (.tup _::_),h | .tup (.lst _::_),h | .lst (.non::_),h | .lst (.bl _::_),h | .lst (.int _::_),h | .lst (.tup _::_),h | .lst (.lst _::_),h=>by unfold aS at h;exact absurd h id
theorem CN {c:cU}{sm:cC}{os:aV}(so:aW c sm)(ho:∀x∈os,bR x):∀{ds:List D},IsTms c sm os ds->IsTms c sm os (flts sm ds)
 | [],_=>trivial
 | d::ds,⟨a,b⟩=>by rw[flts];exact⟨CP so ho a,CN so ho b⟩
end
mutual
noncomputable def flf (sm:cC)(φ:Str->D):D->D
 | .tup (.str n::ds)=>knot sm n (flfs sm φ ds)
 | .lst (.str n::ds)=>knot sm n (flfs sm φ ds)
 | .str x=>φ x
 | d=>d
noncomputable def flfs (sm:cC)(φ:Str->D):List D->List D
 | []=>[]
 | d::ds=>flf sm φ d::flfs sm φ ds
end
def bT (sm:cC)(φ:Str->D):∀ds:List D,flfs sm φ ds=ds.map (flf sm φ)
 | []=>rfl
 | d::ds=>by rw[flfs,bT sm φ ds];rfl
mutual
noncomputable def putD (ψ:Str->D):D->D
 | .tup (.str n::ds)=>.tup (.str n::putDs ψ ds)
 | .lst (.str n::ds)=>.tup (.str n::putDs ψ ds)
 | .str x=>ψ x
 | d=>d
noncomputable def putDs (ψ:Str->D):List D->List D
 | []=>[]
 | d::ds=>putD ψ d::putDs ψ ds
end
section
variable {fx:cU}{sm:cC}{os:aV}
def tmi {P:D->Prop}(s:∀x,aS fx sm os (.str x)->P (.str x))(t:∀n ds d,(d = .tup (.str n::ds)\/d = .lst (.str n::ds))->C9 fx sm n ds.length->IsTms fx sm os ds->(∀e∈ds,P e)->P d):∀{d:D},aS fx sm os d->P d:=by
 have go:∀(k:Nat) (d:D),sizeOf d<=k->aS fx sm os d->P d:=by
  intro k
  induction k with
  | zero=>intro d h;cases d <;> simp at h
  | succ k i =>
   intro d h f
   have c:∀n ds,(d = .tup (.str n::ds)\/d = .lst (.str n::ds))->C9 fx sm n ds.length/\IsTms fx sm os ds->P d:=λn ds e w=>t n ds d e w.1 w.2 λx g=>i x (by
    have:=List.sizeOf_lt_of_mem g
    rcases e with rfl|rfl <;> (simp at h;lia)) (eN w.2 x g)
   match d,f with
   | .str x,f=>exact s x f
   | .tup (.str n::ds),f=>unfold aS at f;exact c n ds (.inl rfl) f
   | .lst (.str n::ds),f=>unfold aS at f;exact c n ds (.inr rfl) f
 exact λ{d} f=>go _ d (ac _) f
def fK {φ:Str->D}{x:Str}:flf sm φ (.str x)=φ x:=by unfold flf;rfl
def kM {φ:Str->D}{n:Str}{ds:List D}{d:D}(h:d = .tup (.str n::ds)\/d = .lst (.str n::ds)):flf sm φ d=knot sm n (flfs sm φ ds):=by rcases h with rfl|rfl <;> rw[flf]
def SO (h:d = .tup (.str n::ds)\/d = .lst (.str n::ds)):flt sm d=knot sm n (flts sm ds):=by rcases h with rfl|rfl <;> rw[flt]
def uZ {ψ:Str->D}{n:Str}{ds:List D}{d:D}(h:d = .tup (.str n::ds)\/d = .lst (.str n::ds)):putD ψ d = .tup (.str n::putDs ψ ds):=by rcases h with rfl|rfl <;> rw[putD]
def SQ {ψ:Str->D}{d:D}(h:aS fx sm os d):flt sm (putD ψ d)=flf sm (λx=>flt sm (ψ x)) d:=by
 refine tmi (P:=λd=>flt sm (putD ψ d)=flf sm (λx=>flt sm (ψ x)) d) (λx _=>by unfold putD flf;rfl) (λn ds d hd _ _ j=>?_) h;rw[uZ hd,flt,kM hd];congr 1;have:∀c:List D,(∀e∈c,e∈ds)->flts sm (putDs ψ c)=flfs sm (λx=>flt sm (ψ x)) c:=by
  intro c
  induction c with
  | nil=>intro _;rfl
  | cons e c g=>intro i;rw[putDs,flts,flfs,j e (i e ax),g λy l=>i y (ba _ l)]
 exact this ds λ_ z=>z
def HU (h:aS fx sm os d):flf sm D.str d=flt sm d:=by
 refine tmi (P:=λd=>flf sm D.str d=flt sm d) (λx _=>by unfold flf flt;rfl) (λn ds d hd _ _ j=>?_) h;rw[kM hd,SO hd];congr 1;have:∀c:List D,(∀e∈c,e∈ds)->flfs sm D.str c=flts sm c:=by
  intro c
  induction c with
  | nil=>intro _;rfl
  | cons e c g=>intro i;rw[flts,flfs,j e (i e ax),g λy l=>i y (ba _ l)]
 exact this ds λ_ z=>z
structure Gd (sm:cC)(d:D):Prop where
 fl:Fl d
 nb:Nb d
 nf:NF sm d
def gds (h:∀d∈ds,Gd sm d):Fls ds/\Nbs ds/\NFs sm ds:=⟨jM λd hd=>(h d hd).fl,B2 λd hd=>(h d hd).nb,GO λd hd=>(h d hd).nf⟩
def nO {φ:Str->D}(so:aW fx sm)(g:∀x,aS fx sm os (.str x)->Gd sm (φ x)){d:D}(h:aS fx sm os d):Gd sm (flf sm φ d):=by
 refine tmi (P:=λd=>Gd sm (flf sm φ d)) (λx i=>by unfold flf;exact g x i) (λn ds d hd m _ l=>?_) h;have all:∀e∈flfs sm φ ds,Gd sm e:=λe j=>by rw[bT]at j;obtain⟨x,i,rfl⟩:=cy.mp j;exact l x i
 obtain⟨a,b,c⟩:=gds all;have ne:flfs sm φ ds≠[]:=λz=>by
  have:=congrArg List.length z;rw[bT,ae]at this;have:=pN m
  simp_all
 rw[kM hd];exact⟨vD (cL so) a b ne,vC b ne,CA a c⟩
def RH {φ:Str->D}{n z:Str}(hz:zr sm n=some z)(h:φ z = .str z)(g:∀d,Gd sm (flf sm φ d)->knot sm n [flf sm φ d]=flf sm φ d){l:List D}(c:∀d∈l,Gd sm (flf sm φ d)):flf sm φ (one n z l)=knot sm n (flfs sm φ l):=by
 match l,c with
 | [],_=>show flf sm φ (.str z)=_;unfold flf flfs;rw[h];unfold knot;rw[hz];rfl
 | [d],c=>show flf sm φ d=_;rw[flfs,flfs,g d (c d ax)]
 | d::e::l,_=>show flf sm φ (.tup (.str n::d::e::l))=_;rw[flf]
theorem JE {φ:Str->D}{n z:Str}(so:aW fx sm)(hz:zr sm n=some z)(o:φ z = .str z)(g:∀x,aS fx sm os (.str x)->Gd sm (φ x)):∀{i:List D},Fls i->IsTms fx sm os i->(opn n z (flfs sm φ (opn n z i))).Perm (opn n z (flfs sm φ i))
 | [],_,_=>.refl _
 | d::i,⟨f,fs⟩,⟨t,ts⟩=>by
  have l:∀a b:List D,opn n z (flfs sm φ (a++b))=opn n z (flfs sm φ a)++opn n z (flfs sm φ b):=λa b=>by rw[bT,bT,bT,az];unfold opn;rw[List.flatMap_append]
  rw[dI,l,flfs,dI];refine List.Perm.append ?_ (JE so hz o g fs ts);have c:opn n z (flfs sm φ [d])=opn1 n z (flf sm φ d):=by rw[flfs,flfs,dI];show _++[]=_;rw[bp]
  rcases jN f with⟨y,rfl,_⟩|⟨m,j,rfl,r⟩
  ·unfold opn1;dsimp only;split
   ·rename_i h;have e:y=z:=eq_of_beq (show(y == z)=true from h);subst e;show([]:List D).Perm _;unfold flf;rw[o];show([]:List D).Perm (opn1 n y (.str y));unfold opn1;dsimp only;rw[ai h]
   ·rw[c];exact .refl _
  ·by_cases e:m=n
   ·subst e;rw[show opn1 m z (.tup (.str m::j))=j by unfold opn1;dsimp only;rw[ai rfl],flf];unfold aS at t;have all:∀e∈flfs sm φ j,Gd sm e:=λe p=>by rw[bT]at p;obtain⟨x,q,rfl⟩:=cy.mp p;exact nO so g (eN t.2 x q)
    exact(KR hz (gds all).2.2).symm
   ·rw[show opn1 n z (.tup (.str m::j))=[.tup (.str m::j)]by unfold opn1;dsimp only;rw[ab e],c]
def O9 {φ:Str->D}(so:aW fx sm)(l:∀r∈sm,φ r.2 = .str r.2)(g:∀x,aS fx sm os (.str x)->Gd sm (φ x)){n:Str}{h:List D}(v:Fls h)(m:IsTms fx sm os h):flf sm φ (knot sm n h)=knot sm n (flfs sm φ h):=by
 cases hz:zr sm n with
 | none=>unfold knot;rw[hz];dsimp only;rw[flf];unfold knot;rw[hz]
 | some z =>
  obtain⟨r,s,_,e⟩:=TV hz;have o:φ z = .str z:=e ▸ l r s;have pm:=aX (opn n z h);have i:∀x:D,Gd sm x->knot sm n [x]=x:=λx c=>by refine(zS (ps:=[x]) (qs:=[x,.str z]) hz ⟨c.fl,trivial⟩ ?_).trans (ET (n:=n) hz c.fl c.nf (.inl rfl));rw[dI,dI,dI,show opn1 n z (.str z)=[]by unfold opn1;simp[eqD]];simp[opn]
  have j:∀x∈cJ (opn n z h),aS fx sm os x:=λx c=>by obtain⟨y,u,t⟩:=List.mem_flatMap.mp (pm.mem_iff.mp c);exact JF (eN m y u) x t
  have p:∀x∈cJ (opn n z h),Gd sm (flf sm φ x):=λx c=>nO so g (j x c);rw[show knot sm n h=one n z (cJ (opn n z h))by unfold knot;rw[hz],RH hz o (λd hd=>i _ hd) p];refine zS hz (gds (sm:=sm) λx c=>?_).1 ?_
  ·rw[bT]at c;obtain⟨w,q,rfl⟩:=cy.mp c;exact p w q
  ·refine List.Perm.trans (NR ?_) (JE so hz o g v m);rw[bT,bT];exact pm.map _
def CT {φ:Str->D}(so:aW fx sm)(g:∀x,aS fx sm os (.str x)->Gd sm (φ x))(h:∀x,aS fx sm os (.str x)->aS fx sm os (φ x)){d:D}(t:aS fx sm os d):aS fx sm os (flf sm φ d):=by
 refine tmi (P:=λd=>aS fx sm os (flf sm φ d)) (λx i=>by unfold flf;exact h x i) (λn ds d hd m j l=>?_) t;have all:∀e∈flfs sm φ ds,Gd sm e/\aS fx sm os e:=λe c=>by rw[bT]at c;obtain⟨x,i,rfl⟩:=cy.mp c;exact⟨nO so g (eN j x i),l x i⟩
 obtain⟨a,b,_⟩:=gds λe c=>(all e c).1;rw[kM hd];exact B8 so a b (qZ λe c=>(all e c).2) (by rw[bT,ae];exact m)
def CU {φ ψ:Str->D}(so:aW fx sm)(l:∀r∈sm,ψ r.2 = .str r.2)(g:∀x,aS fx sm os (.str x)->Gd sm (φ x)/\aS fx sm os (φ x))(p:∀x,aS fx sm os (.str x)->Gd sm (ψ x)){d:D}(h:aS fx sm os d):flf sm ψ (flf sm φ d)=flf sm (λx=>flf sm ψ (φ x)) d:=by
 refine tmi (P:=λd=>flf sm ψ (flf sm φ d)=flf sm (λx=>flf sm ψ (φ x)) d) (λx _=>by rw[fK,fK]) (λn ds d hd q j m=>?_) h;have o:flfs sm ψ (flfs sm φ ds)=flfs sm (λx=>flf sm ψ (φ x)) ds:=by rw[bT,bT,cp,bT];exact List.map_congr_left λe i=>m e i
 have all:∀e∈flfs sm φ ds,Gd sm e/\aS fx sm os e:=λe i=>by rw[bT]at i;obtain⟨x,c,rfl⟩:=cy.mp i;exact⟨nO so (λx c=>(g x c).1) (eN j x c),CT so (λx c=>(g x c).1) (λx c=>(g x c).2) (eN j x c)⟩
 rw[kM hd,kM hd,O9 so l p (gds λe i=>(all e i).1).1 (qZ λe i=>(all e i).2),o]
end
section
variable {P:dw}{w:dy}{K:dq}{mg:jS}{base:Heap}
noncomputable def pts:D->List D
 | .tup (.str _::ds)=>ds
 | .lst (.str _::ds)=>ds
 | _=>[]
noncomputable def stk:List D->List D
 | []=>[]
 | x::S=>x::(stk S).drop (pts x).length
mutual
theorem IP:∀{d:D},Wk d->∀S:List D,stk (wlk d++S)=d::stk S
 | .str x,_,S=>by unfold wlk;show stk (.str x::S)=_;rw[stk];rfl
 | .tup (.str n::ds),h,S=>by
  unfold Wk at h;rw[wlk,List.cons_append,stk,pZ h S];show _::(ds++stk S).drop ds.length=_;rw[List.drop_left]
 | .lst (.str n::ds),h,S=>by
  unfold Wk at h;rw[wlk,List.cons_append,stk,pZ h S];show _::(ds++stk S).drop ds.length=_;rw[List.drop_left]
 | .non,h,_ | .bl _,h,_ | .int _,h,_ | .tup [],h,_ | .lst [],h,_ | .tup (.non::_),h,_ | .tup (.bl _::_),h,_ | .tup (.int _::_),h,_ | .tup (.tup _::_),h,_ | .tup (.lst _::_),h,_ | .lst (.non::_),h,_ | .lst (.bl _::_),h,_ | .lst (.int _::_),h,_ | .lst (.tup _::_),h,_ | .lst (.lst _::_),h,_=>by unfold Wk at h;exact absurd h id
theorem pZ:∀{ds:List D},Wks ds->∀S:List D,stk (wlks ds++S)=ds++stk S
 | [],_,S=>rfl
 | d::ds,⟨a,b⟩,S=>by rw[wlks,cq,IP a,pZ b];rfl
end
mutual
theorem yU:∀{d:D},Wk d->∀{pre S:List D} {x:D},wlk d=pre++x::S->∃rest,S=wlks (pts x)++rest
 | .str y,_,pre,S,x,e=>by
  unfold wlk at e;cases pre with
  | nil=>cases e;exact⟨[],rfl⟩
  | cons p pre=>have:=congrArg List.length e;simp at this
 | .tup (.str n::ds),h,pre,S,x,e=>by
  unfold Wk at h;rw[wlk]at e;cases pre with
  | nil=>cases e;exact⟨[],by simp[pts]⟩
  | cons p pre=>injection e with _ e;exact lV h e
 | .lst (.str n::ds),h,pre,S,x,e=>by
  unfold Wk at h;rw[wlk]at e;cases pre with
  | nil=>cases e;exact⟨[],by simp[pts]⟩
  | cons p pre=>injection e with _ e;exact lV h e
 | .non,h,_,_,_,_ | .bl _,h,_,_,_,_ | .int _,h,_,_,_,_ | .tup [],h,_,_,_,_ | .lst [],h,_,_,_,_ | .tup (.non::_),h,_,_,_,_ | .tup (.bl _::_),h,_,_,_,_ | .tup (.int _::_),h,_,_,_,_ | .tup (.tup _::_),h,_,_,_,_ | .tup (.lst _::_),h,_,_,_,_ | .lst (.non::_),h,_,_,_,_ | .lst (.bl _::_),h,_,_,_,_ | .lst (.int _::_),h,_,_,_,_ | .lst (.tup _::_),h,_,_,_,_ | .lst (.lst _::_),h,_,_,_,_=>by unfold Wk at h;exact absurd h id
theorem lV:∀{ds:List D},Wks ds->∀{pre S:List D} {x:D},wlks ds=pre++x::S->∃rest,S=wlks (pts x)++rest
 | [],_,pre,S,x,e=>by have:=congrArg List.length e;simp[wlks]at this
 | d::ds,⟨a,b⟩,pre,S,x,e=>by
  rw[wlks]at e;rcases List.append_eq_append_iff.mp e with⟨m,g,c⟩|⟨m,g,c⟩
  ·exact lV b c
  ·cases m with
   | nil=>exact lV b (pre:=[]) (by simpa using c.symm)
   | cons y m =>
    injection c with j i;subst j;obtain⟨rest,h⟩:=yU a g;exact⟨rest++wlks ds,by rw[i,h];show(wlks (pts x)++rest)++wlks ds=_;rw[cq]⟩
end
def IQ:∀{S:List D} {y:D},y∈stk S->y∈S
 | x::S,y,h=>by
  rw[stk]at h;obtain rfl|h:=cw.mp h
  ·exact ax
  ·exact ba _ (IQ (List.mem_of_mem_drop h))
def IR:∀S:List D,(stk S).length<=S.length
 | []=>ac _
 | x::S=>by rw[stk,aq,aq,bx];have:=IR S;lia
def CS (h:Fls l):Fls l.reverse:=jM λd hd=>eG h d (List.mem_reverse.mp hd)
def E5 (h:Fls l)(k:Nat):Fls (l.drop k):=jM λd hd=>eG h d (List.mem_of_mem_drop hd)
def O6 (h:Fls l)(k:Nat):Fls (l.take k):=jM λd hd=>eG h d (List.mem_of_mem_take hd)
def LW (sm:cC)(φ:Str->D)(l:List D)(k:Nat):flfs sm φ (l.drop k)=(flfs sm φ l).drop k:=by rw[bT,bT,List.map_drop]
structure Sub (d x:D):Prop where
 tm:Tm x
 sz:sz x<=sz d
 nd:nds x<=nds d
 dp:depD x<=depD d
mutual
theorem BA:∀{d:D},Tm d->∀x∈wlk d,Sub d x
 | .str y,h,x,g=>by unfold wlk at g;rw[cu.mp g];exact⟨h,ac _,ac _,ac _⟩
 | .tup (.str n::ds),h,x,g=>by
  rw[wlk]at g;obtain rfl|g:=cw.mp g
  ·exact⟨h,ac _,ac _,ac _⟩
  ·unfold Tm at h;obtain⟨a,b,c,e⟩:=vW h.2 x g;exact⟨a,by rw[sz];lia,by rw[nds];lia,by rw[depD,depDs];lia⟩
 | .lst (.str n::ds),h,x,g=>by
  rw[wlk]at g;obtain rfl|g:=cw.mp g
  ·exact⟨h,ac _,ac _,ac _⟩
  ·unfold Tm at h;obtain⟨a,b,c,e⟩:=vW h.2 x g;exact⟨a,by rw[sz];lia,by rw[nds];lia,by rw[depD,depDs];lia⟩
 | .non,h,_,_ | .bl _,h,_,_ | .int _,h,_,_ | .tup [],h,_,_ | .lst [],h,_,_ | .tup (.non::_),h,_,_ | .tup (.bl _::_),h,_,_ | .tup (.int _::_),h,_,_ | .tup (.tup _::_),h,_,_ | .tup (.lst _::_),h,_,_ | .lst (.non::_),h,_,_ | .lst (.bl _::_),h,_,_ | .lst (.int _::_),h,_,_ | .lst (.tup _::_),h,_,_ | .lst (.lst _::_),h,_,_=>by unfold Tm at h;exact absurd h id
theorem vW:∀{ds:List D},Tms ds->∀x∈wlks ds,Tm x/\sz x<=szs ds/\nds x<=ndss ds/\depD x<=depDs ds
 | d::ds,⟨a,b⟩,x,c=>by
  rw[wlks]at c;obtain c|c:=cx.mp c
  ·obtain⟨e,i,h,g⟩:=BA a x c;exact⟨e,by rw[szs];lia,by rw[ndss];lia,by rw[depDs];lia⟩
  ·obtain⟨e,i,h,g⟩:=vW b x c;exact⟨e,by rw[szs];lia,by rw[ndss];lia,by rw[depDs];lia⟩
end
mutual
theorem A6:∀{d:D},Tm d->Wk d
 | .str x,h=>trivial
 | .tup (.str n::ds),h=>by unfold Wk;unfold Tm at h;exact pW h.2
 | .lst (.str n::ds),h=>by unfold Wk;unfold Tm at h;exact pW h.2
 | .non,h | .bl _,h | .int _,h | .tup [],h | .lst [],h | .tup (.non::_),h | .tup (.bl _::_),h | .tup (.int _::_),h | .tup (.tup _::_),h | .tup (.lst _::_),h | .lst (.non::_),h | .lst (.bl _::_),h | .lst (.int _::_),h | .lst (.tup _::_),h | .lst (.lst _::_),h=>by unfold Tm at h;exact absurd h id
theorem pW:∀{ds:List D},Tms ds->Wks ds
 | [],_=>trivial
 | _::_,⟨a,b⟩=>⟨A6 a,pW b⟩
end
def RG (n z:Str)(l:List D):nds (one n z l)<=1+ndss l:=by
 unfold one;split
 ·show nds (.str z)<=_;unfold nds;lia
 ·rw[ndss,ndss];lia
 ·rw[nds];lia
def K6 (p:l.Perm m):ndss l=ndss m:=by
 induction p with
 | nil=>rfl
 | cons x _ c=>rw[ndss,ndss,c]
 | swap x y l=>rw[ndss,ndss,ndss,ndss];lia
 | trans _ _ a b=>exact a.trans b
def OQ (sm:cC)(n:Str)(ps:List D):nds (knot sm n ps)<=1+ndss ps:=by
 unfold knot;split
 ·rw[nds];lia
 ·rename_i z _;have c:=RG n z (cJ (opn n z ps));rw[K6 (aX _)]at c;have d:=BU n z ps
  lia
def tm0i {P:D->Prop}(s:∀x,Tm (.str x)->P (.str x))(t:∀n ds d,(d = .tup (.str n::ds)\/d = .lst (.str n::ds))->ds≠[]->(∀e∈ds,P e)->P d)(h:Tm d):P d:=by
 have go:∀(k:Nat) (d:D),sizeOf d<=k->Tm d->P d:=by
  intro k
  induction k with
  | zero=>intro d h;cases d <;> simp at h
  | succ k j =>
   intro d h f;rcases A7 f with⟨x,rfl,_⟩|⟨n,ds,hd,ne,c⟩
   ·exact s x f
   ·refine t n ds d hd ne λe g=>?_;obtain⟨i,hi⟩:=List.getElem?_of_mem g;have:=List.sizeOf_lt_of_mem g;exact j e (by rcases hd with rfl|rfl <;> (simp at h;lia)) (c.get hi)
 exact go _ d (ac _) h
structure WQ (b n e:Nat)(φ:Str->D):Prop where
 one:1<=b/\1<=n
 fl:∀x,Tm (.str x)->Fl (φ x)/\Nb (φ x)
 sz:∀x,sz (φ x)<=b
 nd:∀x,nds (φ x)<=n
 dp:∀x,depD (φ x)<=e
structure Fd (b n e:Nat)(sm:cC)(φ:Str->D)(d:D):Prop where
 fl:Fl (flf sm φ d)
 nb:Nb (flf sm φ d)
 sz:sz (flf sm φ d)<=b * sz d
 nd:nds (flf sm φ d)<=n * nds d
 dp:depD (flf sm φ d)<=depD d+e
structure X7 (b n e:Nat)(sm:cC)(φ:Str->D)(ds:List D):Prop where
 fl:Fls (flfs sm φ ds)
 nb:Nbs (flfs sm φ ds)
 sz:szs (flfs sm φ ds)<=b * szs ds
 nd:ndss (flfs sm φ ds)<=n * ndss ds
 dp:depDs (flfs sm φ ds)<=depDs ds+e
def fds {b n e:Nat}{sm:cC}{φ:Str->D}:∀{ds:List D},(∀d∈ds,Fd b n e sm φ d)->X7 b n e sm φ ds:=by
 intro ds
 induction ds with
 | nil=>exact λ_=>⟨trivial,trivial,aw _,aw _,aw _⟩
 | cons d ds c =>
  intro h;obtain⟨a1,a2,p,o,m⟩:=h d ax;obtain⟨b1,b2,l,j,i⟩:=c λx g=>h x (ba _ g);refine⟨⟨a1,b1⟩,⟨a2,b2⟩,?_,?_,?_⟩
  ·rw[flfs,szs,szs,Nat.mul_add];lia
  ·rw[flfs,ndss,ndss,Nat.mul_add];lia
  ·rw[flfs,depDs,depDs];lia
def wB (hd:d = .tup (.str n::ds)\/d = .lst (.str n::ds)):sz d=max 1 (szs ds)/\nds d=1+ndss ds/\depD d=depDs ds+1/\pts d=ds:=by
 have e:depDs (.str n::ds)=depDs ds:=by rw[depDs,show depD (.str n)=0 from rfl];lia
 rcases hd with rfl|rfl
 ·exact⟨by rw[sz],by rw[nds],by rw[depD,e],rfl⟩
 ·exact⟨by rw[sz],by rw[nds],by rw[depD,e],rfl⟩
def xE {b g e:Nat}{sm:cC}{φ:Str->D}(hz:∀r∈sm,r.2=("" : Str)\/Fl (.str r.2))(pb:WQ b g e φ){d:D}(h:Tm d):Fd b g e sm φ d:=by
 refine tm0i (P:=λd=>Fd b g e sm φ d) (λx m=>?_) (λn ds d hd ne l=>?_) h
 ·have j:sz (.str x)=1:=by rw[sz] <;> simp
  have i:nds (.str x)=1:=by unfold nds;rfl
  obtain⟨f1,f2⟩:=pb.fl x m;refine⟨?_,?_,?_,?_,?_⟩ <;> rw[fK]
  ·exact f1
  ·exact f2
  ·rw[j,Nat.mul_one];exact pb.sz x
  ·rw[i,Nat.mul_one];exact pb.nd x
  ·exact ao (pb.dp x) (Nat.le_add_left _ _)
 ·obtain⟨a1,a2,A,w,v⟩:=fds l;obtain⟨j,i,u,_⟩:=wB hd;obtain⟨o1,o2⟩:=pb.one;have c:flfs sm φ ds≠[]:=by rw[bT];exact λz=>ne (List.map_eq_nil_iff.mp z)
  have t:=B9 sm n (flfs sm φ ds);have s:=OQ sm n (flfs sm φ ds);have q:=wW sm n (flfs sm φ ds);have p:=Nat.mul_le_mul_left b (Nat.le_max_right 1 (szs ds));have o:=Nat.mul_le_mul_left b (Nat.le_max_left 1 (szs ds));refine⟨?_,?_,?_,?_,?_⟩ <;> rw[kM (sm:=sm) (φ:=φ) hd]
  ·exact vD hz a1 a2 c
  ·exact vC a2 c
  ·rw[j];lia
  ·rw[i,Nat.mul_add];lia
  ·lia
def O8 {b n e:Nat}{sm:cC}{φ:Str->D}(hz:∀r∈sm,r.2=("" : Str)\/Fl (.str r.2))(pb:WQ b n e φ){ds:List D}(h:∀d∈ds,Tm d):X7 b n e sm φ ds:=fds λd hd=>xE hz pb (h d hd)
def PV (H:Hp)(kv:List (cR×V))(φ:Str->D):Prop:=∀x:Str,aY H (φ x) ((valV kv (.inr x)).getD (.str x))
def spFW (K:dq)(C:Addr):Sp:=λvs H Q _=>∃(e fl h g:Addr) (fx:cU) (sm:cC) (φ:Str->D) (kv:List (cR×V)) (d:D) (v:V),vs=[v,.ref e,.ref fl]/\H e=some (.dK kv)/\PV H kv φ/\WQ 49 833 16 φ/\FP H fl h g/\iG K C fx sm H g/\aY H d v/\Tm d/\(∀r∈sm,r.2=("" : Str)\/Fl (.str r.2))/\sz d<=300/\nds d<=8000/\depD d<=30 /\
 ∀(c:V) (H':Hp),aF H H'->aY H' (flf sm φ d) c->Q c H'
def YO (v:V)(g fl m l:Addr)(sm:cC)(φ:Str->D)(W:List D)(e:List V)(H:Hp)(i:Nat)(d:St)(c:Hp):Prop:=∃(us:List V) (o4 o5:Option V),d=[some v,some (.ref g),some (.ref fl),some (.ref m),o4,o5]/\c m=some (.lst us)/\aF H c/\c l=some (.lst e)/\Reps c (flfs sm φ (stk (W.drop (W.length - i)))).reverse us
def YQ (m l p:Addr)(g:List V)(o:HO)(fs:List D)(H:Hp)(j:Nat)(d:List V)(e:St)(c:Hp):Prop:=∃(us:List V) (o0:Option V),e=[o0,some (.ref m)]/\c m=some (.lst us)/\aF H c/\c l=some (.lst g)/\c p=some o/\Reps c (fs.drop j).reverse us/\Reps c (fs.take j) d
def W0 (F:fV K "from_within" "from_within" fQ f fd)(T:Txt mg)(t:dS P w K mg base bU 1 "walked" vX)(c:dS P w K mg base bU 6 "flat_of_parts" (jD K C)):cH P w K mg base bU 8 f fd oV (spFW K C):=by
 refine F.ok gK (λvs H Q E h=>?_) (λcdv A outer s H vs Q E hr h=>?_)
 ·obtain⟨fi,fl,c0,g,fx,sm,φ,kv,d,v,rfl,_⟩:=h;rfl
 ·obtain⟨fi,fl,c0,g,fx,sm,φ,kv,d,v,rfl,hfi,ph,pb,la,sg,rep,tm,hz,s60,n1000,d50,q⟩:=h;have hu:=hr.units
  refine⟨_,(aE (mJ (i:=3) gK.nd rfl (Or.inr rfl) (cQ aB))
   (aE (eT dj rfl (BN K rfl rfl T.n_reversed (aA (aU t hr (aA (pv 0) aB)) aB)) (h8 4 gK.nd) (aG (bQ (aT K rfl (aZ aK T.n_isinstance (aA (pv 4) (aA (cF (v:=V.ty "str") rfl T.n_str rfl rfl) aB))) (λ_=>rfl)) (aG (cW (j8 df dh dg gH (pv 3) (aA (wH (aj (ca ad _) hu) (pv 1) (pv 4) (pv 4) ⟨rfl,rfl,rfl,rfl⟩) aB)))) (aE (jA (i:=5) gK.nd rfl rfl rfl rfl (bN.by (N:=kY) (names:=(aH fQ).names) (N':=["part","made"]) (src:=[none,some 3]) (by decide +kernel) rfl rfl) (dF K rfl (fS l7 (pv 4) (eV aJ) gB)) (λ_ _ _ _=>(eD (i:=0) (dL ["part","made"]) rfl (Or.inl rfl))) (λ_ _ _ _=>dW) (λ_ _ _ _=>(Q7 K rfl df PySem.F.slot_list_pop PySem.F.type_list_pop GP (pv 1))))
   (aG (cW (j8 df dh dg gH (pv 3) (aA (GF (i:=2) rfl (Or.inl rfl) c (hr.mono ad) (aA (cA dM (pv 4) aJ (λ_ _=>rfl)) (aA (pv 5) aB))) aB))))))))
   (aG (aL (cA dM (pv 3) aJ (λ_ _=>rfl)))))),?_⟩
  try dsimp only[cxOf,Cx.nox]
  clear hr F T hu t c;simp only[tFor_fn,tComp_fn];refine⟨show 0<=sizeLine by decide,λm hm=>?_⟩;change tSeq _ _ _ _ (upd H m (.lst []));have s1:aF H (upd H m (.lst [])):=aF.upd hm;have hm1:upd H m (.lst []) m=some (.lst []):=ec;generalize upd H m (.lst [])=H1 at s1 hm1⊢;refine⟨_,rfl,d,v,H,rfl,s1,rep,A6 tm,ao n1000 ad,λl ws H2 s2 hl h2 rws=>⟨l,ws,rfl,h2,?_⟩⟩;have lw:=Reps.len rws;have lk:=uX d;have hml:m≠l:=λz=>by rw[z,hl]at hm1;cases hm1
  refine O4 ws (YO v fi fl m l sm φ (wlk d) ws H) ⟨[],none,none,rfl,s2 _ _ hm1,s1.trans s2,h2,by rw[Nat.sub_zero,List.drop_length];rfl⟩ (λi σ H3 _ ⟨_,_,_,_,_,_,h,_⟩=>h) ?_ ?_
  ·rintro i x σ H3 hi hx ⟨us,o4,o5,rfl,h3,X,hl3,ru⟩;obtain⟨e,he,rx⟩:=Reps.get rws hx;rw[lw]at hi he;have hlt:(wlk d).length - 1 - i<(wlk d).length:=by lia
   have G:(wlk d).drop ((wlk d).length - (i+1))=e::(wlk d).drop ((wlk d).length - i):=by have e1:(wlk d)[(wlk d).length - 1 - i]=e:=(cs.mp he).2;rw[show(wlk d).length - (i+1)=(wlk d).length - 1 - i by lia,List.drop_eq_getElem_cons hlt,e1,show(wlk d).length - 1 - i+1=(wlk d).length - i by lia]
   have R:wlk d=(wlk d).take ((wlk d).length - (i+1))++e::(wlk d).drop ((wlk d).length - i):=by rw[←G,List.take_append_drop]
   obtain⟨rest,L⟩:=yU (A6 tm) R;have U:=BA tm e (bj he);have inS:∀y∈(wlk d).drop ((wlk d).length - i),y∈wlk d:=λy hy=>List.mem_of_mem_drop hy;have lS:((wlk d).drop ((wlk d).length - i)).length<=8000:=by rw[bx];lia
   generalize (wlk d).drop ((wlk d).length - i)=S at G R L inS lS ru;have W:Fls (flfs sm φ (stk S)):=jM λy hy=>by rw[bT]at hy;obtain⟨z,hz1,rfl⟩:=cy.mp hy;exact(xE hz pb (BA tm z (inS z (IQ hz1))).tm).fl
   have lu:=Reps.len ru;rw[List.length_reverse,bT,ae]at lu;have ls:(stk S).length<=8000:=ao (IR S) lS;rcases A7 U.tm with⟨y,rfl,_⟩|⟨n,ds,hd,dne,tms⟩
   ·cases (show x = .str y from rx);refine⟨_,rfl,.str y,.ty "str",true,rfl,rfl,true,rfl,?_⟩;refine⟨_,rfl,tyL h3,_,rfl,fi,rfl,.inl ⟨_,.inl (X _ _ hfi)⟩,_,rfl,_,rfl,_,jW.k (k:=.inr y) (X _ _ hfi),m,us,_,rfl,rfl,h3,aj (m:=8000) dk ad,us++[_],_,_,rfl,ec,λb o hb=>by rw[aC (aD hb hm)];exact X _ _ hb,by rw[aC hml.symm];exact hl3,?_⟩;rw[G,stk];show Reps _ (flfs sm φ (.str y::(stk S).drop 0)).reverse _;rw[List.drop_zero,flfs,List.reverse_cons,show flf sm φ (.str y)=φ y by unfold flf;rfl];exact Reps.snoc (aY.tups (bK.lst h3) (pb.fl y U.tm).1 (aY.same X (ph y))) (Reps.tups (bK.lst h3) (CS W) ru)
   ·obtain⟨va,B,rfl,hbb,hseq,lv⟩:∃va B,x = .ref va/\isV H3 (.ref va) (.ty "str")=some false/\fB H va (.str n::B)/\B.length=ds.length:=by
     rcases hd with rfl|rfl
     ·obtain⟨a,vs,rfl,ha,_,B,rfl,e1,r⟩:=rx;cases e1;exact⟨a,B,rfl,nN (X _ _ ha),.inr ha,Reps.len r⟩
     ·obtain⟨a,vs,rfl,ha,_,B,rfl,e1,r⟩:=rx;cases e1;exact⟨a,B,rfl,sY (X _ _ ha),.inl ha,Reps.len r⟩
    have hfe:=kM (sm:=sm) (φ:=φ) hd;obtain⟨hsz,hnd,hdp,hpe⟩:=wB hd;rw[hpe]at L;have wds:Wks ds:=pW tms;have hst:stk S=ds++stk rest:=by rw[L,pZ wds]
    have hfs:flfs sm φ (stk S)=flfs sm φ ds++flfs sm φ (stk rest):=by rw[hst,bT,az,←bT,←bT]
    have lds:(flfs sm φ ds).length=ds.length:=by rw[bT,ae]
    have lfs:(flfs sm φ (stk S)).length<=8000:=by rw[bT,ae];exact ls
    refine⟨_,rfl,.ref va,.ty "str",false,rfl,hbb,false,rfl,?_⟩;refine⟨_,rfl,(1:Int),rfl,va,_,rfl,hseq.same X,λ_ h=>by have:=h.1;simp[HT.sIx]at this,λp o hp ho=>?_⟩;rw[vI]at ho;refine⟨p,B,rfl,by rcases ho with⟨rfl,_⟩|⟨rfl,_⟩;exact .inl ec;exact .inr ec,λJ hJ=>?_⟩;have sp:aF H3 (upd H3 p o):=aF.upd hp;have hpo:upd H3 p o p=some o:=ec;have hmp:m≠p:=aD h3 hp;have hlp:l≠p:=aD hl3 hp;generalize upd H3 p o=H4 at sp hpo hJ⊢;refine dC hJ (YQ m l p ws o (flfs sm φ (stk S)) H) ⟨us,none,rfl,sp _ _ h3,X.trans sp,sp _ _ hl3,hpo,by rw[List.drop_zero];exact Reps.same sp ru,rfl⟩ (λj O σ H' _ ⟨_,_,_,_,_,_,h,_⟩=>by rw[h,hpo]) ?_ ?_
    ·rintro j y O σ H5 hy ⟨Y,o0,rfl,h5,s5,hl5,hp5,r5,I⟩;have hj:j<ds.length:=by have:=(cs.mp hy).1;lia
     have hj2:j<(flfs sm φ (stk S)).length:=by rw[hfs,au];lia
     rw[List.drop_eq_getElem_cons hj2,List.reverse_cons]at r5;obtain⟨us6,u,rfl,r6,ru6⟩:=j7 r5;have la':=Reps.len I;rw[bv]at la';have fu:Fl (flfs sm φ (stk S))[j]:=eG W _ (List.getElem_mem hj2);refine⟨_,rfl,tyL h5,m,_,u,rfl,rfl,h5,dl,aj (m:=8000) dk ad,?_⟩;rw[List.dropLast_concat];have tt:bK H5 (upd H5 m (.lst us6)):=bK.lst h5;refine⟨us6,_,rfl,ec,λb o hb=>by rw[aC (aD hb hm)];exact s5 _ _ hb,by rw[aC hml.symm];exact hl5,by rw[aC hmp.symm];exact hp5,Reps.tups tt (CS (E5 W (j+1))) r6,?_⟩;rw[ee (ay hj2)];exact Reps.snoc (aY.tups tt fu ru6) (Reps.tups tt (O6 W j) I)
    ·rintro O σ H5 ⟨Y,o0,rfl,h5,s5,hl5,hp5,r5,I⟩ p6 hp6;have e1:(flfs sm φ (stk S)).take B.length=flfs sm φ ds:=by rw[hfs,lv,←lds,List.take_left]
     rw[e1]at I;have s6:aF H5 (upd H5 p6 (.lst O)):=aF.upd hp6;have h66:upd H5 p6 (.lst O) p6=some (.lst O):=ec;have hmp6:m≠p6:=aD h5 hp6;generalize upd H5 p6 (.lst O)=H6 at s6 h66⊢;have Z:=s5.trans s6;have ix0:ixV H6 (.ref va) (.int 0)=some (.str n):=by
      rcases hseq.same Z with e|e
      ·rw[ixV_l e,atI_zero]
      ·rw[ixV_t e,atI_zero]
     have fd:=O8 (sm:=sm) hz pb λx hx=>(List.getElem?_of_mem hx).elim λi hi=>tms.get hi;have b1:=fd.sz;have b2:=fd.nd;have b3:=fd.dp;have c1:=U.sz;have c2:=U.nd;have c3:=U.dp;refine⟨_,rfl,tyL (s6 _ _ h5),fl,rfl,_,rfl,.str n,ix0,_,rfl,c0,g,fx,sm,n,p6,flfs sm φ ds,O,rfl,la.same Z,sg.same Z,h66,Reps.same s6 I,fd.fl,dk,dk,dk,λv' H7 s7 r7=>?_⟩;have h7:=s7 _ _ (s6 _ _ h5);have l5:=Reps.len r5;rw[List.length_reverse,bx]at l5;refine⟨m,Y,v',rfl,rfl,h7,aj (m:=8000) dk ad,Y++[v'],_,_,rfl,ec,λb o hb=>by rw[aC (aD hb hm)];exact s7 _ _ (Z _ _ hb),by rw[aC hml.symm];exact s7 _ _ (s6 _ _ hl5),?_⟩;have tt:bK H7 (upd H7 m (.lst (Y++[v']))):=bK.lst h7;rw[G,stk,flfs,List.reverse_cons,hpe,LW,hfe];rw[lv]at r5;have fe:=(xE (φ:=φ) hz pb U.tm).fl;rw[hfe]at fe;exact Reps.snoc (aY.tups tt fe r7) (Reps.tups tt (CS (E5 W ds.length)) (Reps.same (s6.trans s7) r5))
  ·rintro σ H3 ⟨us,o4,o5,rfl,h3,X,hl3,ru⟩;rw[lw,Nat.sub_self,List.drop_zero]at ru;have e:=IP (A6 tm) [];rw[bp]at e;rw[e]at ru;obtain⟨u,r,rfl,r1,r2⟩:=ru;cases (show r=[]from r2);exact⟨_,rfl,u,by rw[ixV_l h3,atI_zero],q u H3 X r1⟩
end
end Lw
namespace L2
open PySem PySem.Spec PyProof.Rows PySem.W
def aM.grow {X:Cx}{d:dD}{l:L2.St}{H:Hp}{s:du}{P:Addr}{ps more:pU}{h':Heap}{t':Nat}(I:aM X d l H s)(j:H P=some (.tbl ps))(h:Heap.ExtBut P s.heap h')(m:h'.get? P=some (tabObj (ps++more))):aM X d l (upd H P (.tbl (ps++more))) {s with heap:=h',toks:=t'}:=by
 have i:∀b,H b=none->b≠P:=λb e z=>by rw[z,j]at e;cases e
 have g:∀b u,H b=some u->(∀qs,u≠.tbl qs)->b≠P:=λb u e z w=>by rw[w,j]at e;cases e;exact z _ rfl
 refine I.un ⟨λb o e n _ _=>h b o (i b n) e,λb o e n _ _=>⟨o.slots,h b o (i b n) e⟩,λb o e n _=>by rw[aC (i b n)];exact n,λb o e _=>?_,λb xs e=>?_,λb o u e=>?_,λb qs e=>?_⟩ (λb u e=>?_)
 ·by_cases z:b=P
  ·subst z;exact⟨_,m⟩
  ·exact⟨o,h b o z e⟩
 ·rw[aC (g b _ e λ_=>by simp)];exact e
 ·rw[aC (g b _ e λ_=>by simp)];exact e
 ·by_cases z:b=P
  ·subst z;rw[j]at e;cases e;exact⟨more,ec⟩
  ·exact⟨#[],by rw[aC z,e];simp⟩
 ·by_cases z:b=P
  ·subst z;rw[ec]at e;cases e;exact m
  ·rw[aC z]at e;refine(I.hok b u e).stay (λc o hc q=>h c o ?_ q) (λc q=>by rw[aC (g c _ q λ_=>by simp)];exact q) (λc xs q=>by rw[aC (g c _ q λ_=>by simp)];exact q);rcases hc with rfl|hc
   ·exact z
   ·exact g c _ hc λ_=>by simp
end L2
namespace Lw
open PySem PySem.Spec PyProof.Rows PySem.W L2
noncomputable def VR (e:Expr):Pos:=match e with
 | .Lambda _ _ _ p=>p
 | _=>⟨0,0,0,0⟩
noncomputable abbrev xL:Pos:=VR (lamOf dA)
def LT (P:Addr)(H:Hp):Prop:=H P=some (.tbl #[])\/∃(c:Addr) (oc':Obj) (vsc:pU) (tq:Tok),H P=some (.tbl #[rawInt xL.line,rawInt xL.col,.ref c])/\H c=some (pinO c oc')/\oc'.data = .fields vsc/\vsc[1]?=some (.str qL tq)
def LT.same (h:LT P H)(s:aF H H'):LT P H':=by
 rcases h with h|⟨l,d,c,e,j,i,g⟩
 ·exact .inl (s _ _ h)
 ·exact .inr ⟨l,d,c,e,s _ _ j,s _ _ i,g⟩
def Bm (mg:jS)(base:Heap):Prop:=∃c o,mg "__builtins__" = some (.ref c)/\c≠builtinsNs/\c≠mainGlobals/\base.get? c=some o/\o.cls = .type "module"/\o.dict=some builtinsNs/\o.data = .plain
def UQ (P c:Addr):TE:=λe H Q=>LT P H/\∀(fl d:Addr) (pm ctv:dv) (oc':Obj) (vsc:pU) (tq:Tok) (H':Hp),bO P H H'->LT P H'->H' fl=some (pinO fl (oL c d pm ctv))->H' d=some (pinO d oc')->oc'.data = .fields vsc->vsc[1]?=some (.str qL tq)->H c=none->H' c=none->Q (.ref fl) H'
def NL (A:closureFor scL X.env=pure [(("signs" : Str),c0)])(j:X.env.cells.lookup ("signs" : Str)=some c0)(m:X.env.code = .ref c)(hq:X.env.qual++"<lambda>" = qL)(hC:∀h,X.K.In h->CodeHd h c P)(hB:Bm X.mg X.base):PE X (.Lambda pL bL scL xL) (UQ P c0):=by
 intro r s W H Q I h;obtain⟨lt,q⟩:=h;have hg:s.heap.Ns mainGlobals X.mg:=I.mod.glob.keeps I.bk;have N:∃ps,H P=some (.tbl ps):=by
  rcases lt with h|⟨_,_,_,_,h,_⟩
  ·exact⟨_,h⟩
  ·exact⟨_,h⟩
 obtain⟨ps,u⟩:=N;have C:s.heap.get? P=some (tabObj ps):=I.hok P _ u;have nb:∀b o,X.base.get? b=some o->b≠P:=λb o e z=>by have:=(I.bs b o e).2;rw[z,u]at this;cases this
 have L:mainGlobals≠P:=by obtain⟨o,es,ep,e,_⟩:=I.mod.glob;exact nb _ _ e
 have hb:s.heap.BuiltinsAt X.mg P:=by obtain⟨bm,o,b1,b2,b3,b4,b5,b6,b7⟩:=hB;exact⟨bm,o,b1,b2,b3,nb _ _ b4,I.bk _ _ b4,b5,b6,b7⟩
 have n0:=I.freeC _ _ j;refine kla_eval rfl ?_;rw[hq];rcases lt with lt|⟨d,i,l,v,lt,l2,l3,l4⟩
 ·rw[u]at lt;cases lt;refine kla_makeFunction A I.ok.glob hg m (hC _ I.kIn) C trivial rfl L hb λd g h' tk hx p x w G=>?_;obtain⟨c2,i,l,v,e2,J,hd,hv⟩:=w;cases e2;have I1:aM X r W (upd H P (.tbl (#[] ++ #[rawInt xL.line,rawInt xL.col,.ref d]))) {s with heap:=h',toks:=tk}:=I.grow u hx G;have Z:P≠d:=λz=>by have:=bc C;rw[z]at this;exact cf _ (bg this p)
  have nc':H d=none:=I.hok.fresh p;have fc:=I.fpOk (H':=upd H P (.tbl (#[] ++ #[rawInt xL.line,rawInt xL.col,.ref d]))) p (by rw[aC Z.symm];exact nc');have U:=I1.adopt (o:=pinO d i) fc (BM J);have Y:s.heap.objs.size<=h'.objs.size:=ao p (Nat.le_of_lt x);have T:=U.kept (t':=tk) λb o e=>af (oL c0 d ((X.mg "__name__").getD .none) g) e;have S:=U.fpOk (ac h'.objs.size) (U.hok.fresh (ac _));have R:(h'.push (oL c0 d ((X.mg "__name__").getD .none) g)).get? h'.objs.size=some (oL c0 d ((X.mg "__name__").getD .none) g):=av _ rfl;have B:=T.adopt (o:=pinO h'.objs.size (oL c0 d ((X.mg "__name__").getD .none) g)) S (BM R);have E:d≠h'.objs.size:=bq x;have F:P≠h'.objs.size:=λz=>by have:=bc C;rw[z]at this;exact cf _ (bg this Y)
  have t:upd (upd (upd H P (.tbl (#[] ++ #[rawInt xL.line,rawInt xL.col,.ref d]))) d (pinO d i)) h'.objs.size (pinO h'.objs.size (oL c0 d ((X.mg "__name__").getD .none) g)) d=some (pinO d i):=by rw[aC E];exact ec
  have O:upd (upd (upd H P (.tbl (#[] ++ #[rawInt xL.line,rawInt xL.col,.ref d]))) d (pinO d i)) h'.objs.size (pinO h'.objs.size (oL c0 d ((X.mg "__name__").getD .none) g)) P=some (.tbl #[rawInt xL.line,rawInt xL.col,.ref d]):=by rw[aC F,aC Z,ec];rfl
  refine⟨.ref h'.objs.size,_,B,rfl,q _ d _ g i l v _ (λb o nb e=>?_) (.inr ⟨d,i,l,v,O,t,hd,hv⟩) ec t hd hv n0 (B.freeC _ _ j)⟩;have lb:=I.hok.lt e;rw[aC (λz=>by rw[z]at lb;exact cf _ (bg lb Y)),aC (aD e nc'),aC nb];exact e
 ·rw[u]at lt;cases lt;have am:codeAmong xL [rawInt xL.line,rawInt xL.col,.ref d]=some (.ref d):=by simp[codeAmong,rawInt]
  refine kla_makeFunctionHit (cv:=.ref d) A I.ok.glob hg m (hC _ I.kIn) C trivial am hb λg h' tk hk hsz=>?_;have T:aM X r W H {s with heap:=h'.push (oL c0 d ((X.mg "__name__").getD .none) g),toks:=tk}:=I.kept λb o e=>af _ (hk b o e);have nf:=I.hok.fresh hsz;have S:=I.fpOk hsz nf;have R:(h'.push (oL c0 d ((X.mg "__name__").getD .none) g)).get? h'.objs.size=some (oL c0 d ((X.mg "__name__").getD .none) g):=av _ rfl;have B:=T.adopt (o:=pinO h'.objs.size (oL c0 d ((X.mg "__name__").getD .none) g)) S (BM R);have sm:aF H (upd H h'.objs.size (pinO h'.objs.size (oL c0 d ((X.mg "__name__").getD .none) g))):=aF.upd nf;exact⟨.ref h'.objs.size,_,B,rfl,q _ d _ g i l v _ (λb o _ e=>sm b o e) (.inr ⟨d,i,l,v,sm _ _ u,sm _ _ l2,l3,l4⟩) ec (sm _ _ l2) l3 l4 n0 (B.freeC _ _ j)⟩
def tFWc (K:dq)(C d:Addr)(t:TA):TE:=λe H Q=>t e H λvs h=>∃g,e[0]?=some (some (.ref g))/\∀c:Obj,c.data = .cell (some (.ref g))->h d=none->spFW K C vs (upd h d (pinO d c)) (λv H'=>H' d=some (pinO d c)/\Q v (del1 H' d)) E0
def WX (O:dS X.prog X.w X.K X.mg X.base bU k "from_within" (spFW X.K C))(hr:d9 k X.A)(hg:Gl X "from_within")(hN:X.N[0]?=some ("signs" : Str))(l:X.env.scope.names.lookup ("signs" : Str)=some .cell)(i:X.env.cells.lookup ("signs" : Str)=some c0)(hfn:X.fn "signs" = true)(ha:PA X (e::es) t)
  (he:starEach (e::es) X.env=(false,eval e X.env)::starEach es X.env:=by rfl) (hpl:(backTo pos (starEach es X.env)).any (·.1)=false:=by rfl):PE X (.Call (.Name "from_within" p) (e::es) [] pos) (tFWc X.K C c0 t):=by
 obtain⟨f,fd,ps,F,hm,hk,hb⟩:=O;intro L s σ H Q I h;refine wpAny_Call_Name_kw (qX I hg hm ?_ ad);refine PySem.W.callWith_K (h₀:=X.base) I.ok.mod.kin hk (thn (ha pos L s σ H _ I h) λus J ⟨vs,H1,B,r,q⟩=>⟨B.kIn,?_⟩) he hpl;obtain⟨g,hσ,q⟩:=q;have Z:=B.freeC _ _ i;have j:=B.ok.cab _ _ hfn i;obtain⟨d,ho,hd⟩:∃d,J.heap.get? c0=some d/\d.data = .cell (some (.ref g)):=by
  obtain⟨m,hns,hl⟩:=B.loc;obtain⟨u,ru,look⟩:=hl 0 _ _ hN hσ (.inr (.inl l));cases ru;rcases look with⟨z,_⟩|⟨_,c,hc,d,ho,hd⟩
  ·have z':X.env.scope.names.lookup ("signs" : Str)=some .local:=z;rw[l]at z';cases z'
  ·rw[i]at hc;cases hc;exact⟨d,ho,hd⟩
 have sp:=q d hd Z;have E:=B.env0;have nl:c0≠X.env.locals:=λz=>by obtain⟨m,⟨o,es',ep,U,e2,_⟩,_⟩:=B.loc;rw[←z,ho]at U;cases U;rw[hd]at e2;cases e2
 have P:∀b∈frs X.stack,b≠c0:=λb hb z=>by
  rcases cw.mp (B.stkSub b hb)with w|w
  ·exact nl (z ▸ w)
  ·obtain⟨_,o,U,_⟩:=B.ok.funs.mem w;exact cf _ (bg (bc U) (z ▸ j))
 have hl:(us++[]).length=ps.length:=by have:=F.len _ _ _ _ sp;rw[bp,←r.length];exact this
 have ne:∀b o,X.base.get? b=some o->b≠c0:=λb o e z=>cf _ (bg (bc (B.ok.bs b o e).1) (z ▸ j));have env:yP X.prog X.w X.K X.mg X.base X.A X.stack J (upd H1 c0 (pinO c0 d)):=⟨E.frames,E.mod,λb o e=>⟨(E.bs b o e).1,by rw[aC (ne b o e)];exact(E.bs b o e).2⟩,E.bsz,E.funs,λb z=>by rw[aC (P b z)];exact E.frf b z,E.hok.back Z ho,E.bare⟩
 refine wpAny_call (codeAny_mono (F.run X.A X.stack J _ ⟨us,[]⟩ us vs _ E0 hr env (by have:=hb J us B.kIn hl;rw[bp]at this;exact this) r sp) λres s' R=>?_);cases res with
 | error x=>exact R.elim
 | ok fl' =>
  cases fl' with
  | ret u =>
   obtain⟨v,H',os,bare,un,hok,rv,S,qq⟩:=R;have g0:=qQ hok S;have nb:∀b u,H1 b=some u->b≠c0:=λb u e=>aD e Z;have Y:Un (frs X.stack) [] H1 (del1 H' c0) J.heap s'.heap:=by
    refine⟨λb o e n T G=>?_,λb o e n T G=>?_,λb o e n G=>?_,λb o e G=>un.there b o e G,λb xs e=>?_,λb o u' e=>?_,λb qs e=>?_⟩
    ·by_cases z:b=c0
     ·subst z;rw[ho]at e;cases e;exact g0
     ·exact un.keep b o e (by rw[aC z];exact n) T G
    ·exact un.slot b o e (by rw[aC (P b T)];exact n) T G
    ·by_cases z:b=c0
     ·subst z;exact oM
     ·exact jF (un.free b o e (by rw[aC z];exact n) G)
    ·rw[dZ (nb b _ e)];exact un.tups b xs (by rw[aC (nb b _ e)];exact e)
    ·rw[dZ (nb b _ e)];exact un.frzs b o u' (by rw[aC (nb b _ e)];exact e)
    ·rw[dZ (nb b _ e)];exact un.tbls b qs (by rw[aC (nb b _ e)];exact e)
   exact⟨v,_,B.call' (ch:=[]) os Y (hok.del S) bare (λb z=>absurd z dl),rv,qq⟩
  | next=>exact R.elim
  | brk=>exact R.elim
  | cont=>exact R.elim
end Lw
namespace Lw
open PySem L2
section
variable {P:dw}{w:dy}{K:dq}{mg:jS}{base:Heap}
def SH {x c:Str}{st:Stmt}{f:Addr}{m:dv}{od l:Option Addr}{osl:Array (Option dv)}{kV g pm d ct:dv}{N ps:aV}{k:Nat}{sp:Sp}(o:K.lookup f=some ⟨m,od,.func (PySem.W.fnOf x c (dP st) (cS st) (aH st) .none kV g pm l d ct),osl⟩)(j:PySem.W.codeIn K d c=true)(S:aN N ps (aH st))(len:∀vs H Q E,sp vs H Q E->vs.length=ps.length)
  (e:∀(A:dz) (outer:List Env) (s:du) (H:Hp) (vs:List V) (Q:VK) (E:XK),d9 k (A.deeper (PyProof.Rows.envOfC c (aH st) s.heap.objs.size f d))->sp vs H Q E ->
   ∃t,FR (cxOf bU P w K mg base N c (aH st) f d A outer s H E).nox (cS st) t/\t {nx:=λ_ H'=>Q .non H',rt:=Q} (start N vs) H):cH P w K mg base bU (k+1) f (PySem.W.fnOf x c (dP st) (cS st) (aH st) .none kV g pm l d ct) ps sp:=by
 refine T5 o j S len λA outer s H vs Q E p i=>?_;obtain⟨t,h,q⟩:=e A outer s H vs Q E p i;exact⟨t,h.nox,q⟩
mutual
theorem aY.but (b:bO p H H')(n1:∀xs,H p≠some (.tup xs))(n2:∀xs,H p≠some (.lst xs)):∀{d:D} {v:V},aY H d v->aY H' d v
 | .non,v,h | .bl _,v,h | .int _,v,h | .str _,v,h=>h
 | .tup ds,v,⟨a,vs,g,c,e⟩=>⟨a,vs,g,b a _ (λz=>n1 vs (z ▸ c)) c,Reps.but b n1 n2 e⟩
 | .lst ds,v,⟨a,vs,g,c,e⟩=>⟨a,vs,g,b a _ (λz=>n2 vs (z ▸ c)) c,Reps.but b n1 n2 e⟩
theorem Reps.but (b:bO p H H')(n1:∀xs,H p≠some (.tup xs))(n2:∀xs,H p≠some (.lst xs)):∀{ds:List D} {vs:List V},Reps H ds vs->Reps H' ds vs
 | [],vs,h=>h
 | d::ds,vs,⟨v,r,g,e,c⟩=>⟨v,r,g,aY.but b n1 n2 e,Reps.but b n1 n2 c⟩
end
def LT.tbl (h:LT Pt H):∃ps,H Pt=some (.tbl ps):=by
 rcases h with h|⟨_,_,_,_,h,_⟩
 ·exact⟨_,h⟩
 ·exact⟨_,h⟩
def LT.rep (h:LT Pt H)(b:bO Pt H H')(r:aY H d v):aY H' d v:=by obtain⟨ps,e⟩:=h.tbl;exact aY.but b (λxs z=>by rw[e]at z;cases z) (λxs z=>by rw[e]at z;cases z) r
def LT.ne (h:LT Pt H)(e:H a=some o)(n:∀ps,o≠.tbl ps):a≠Pt:=λz=>by obtain⟨ps,c⟩:=h.tbl;rw[z,c]at e;cases e;exact n _ rfl
def LT.sg (h:LT Pt H)(b:bO Pt H H')(s:iG K C fx sm H g):iG K C fx sm H' g:=by obtain⟨a1,a2,r,o,fs,q,p,e,m,l,j,i,d,c⟩:=s;exact⟨a1,a2,r,o,fs,q,p,b _ _ (h.ne e λ_=>by simp) e,m,l,j,i,b _ _ (h.ne d λ_=>by simp) d,b _ _ (h.ne c λ_=>by simp) c⟩
def qA (K:dq)(C Pt:Addr):Sp:=λvs H Q _=>∃(e g:Addr) (fx:cU) (sm:cC) (φ:Str->D) (kv:List (cR×V)) (d:D) (v:V),vs=[.ref g,.ref e,v]/\H e=some (.dK kv)/\PV H kv φ/\WQ 49 833 16 φ/\iG K C fx sm H g/\aY H d v/\Tm d/\(∀r∈sm,r.2=("" : Str)\/Fl (.str r.2))/\sz d<=300/\nds d<=8000/\depD d<=30/\LT Pt H /\
 ∀(c:V) (H':Hp),bO Pt H H'->LT Pt H'->aY H' (flf sm φ d) c->Q c H'
def NZ {f C c Pt:Addr}{oc:dv}{od U:Option Addr}{osl:Array (Option dv)}{kV u pm ct:dv}(lk:K.lookup f=some ⟨oc,od,.func (PySem.W.fnOf "put_in" "put_in" (dP dA) (cS dA) (aH dA) .none kV u pm U (.ref c) ct),osl⟩)(m:PySem.W.codeIn K (.ref c) "put_in" = true)
  (hC:∀h,K.In h->PySem.W.CodeHd h c Pt) (hB:Bm mg base) (i:dS P w K mg base bU 8 "from_within" (spFW K C)):cH P w K mg base bU 9 f (PySem.W.fnOf "put_in" "put_in" (dP dA) (cS dA) (aH dA) .none kV u pm U (.ref c) ct) xS (qA K C Pt):=by
 refine SH lk m KI (λvs H Q E h=>?_) (λA outer s H vs Q E hr h=>?_)
 ·obtain⟨T,g,S,sm,φ,kv,d,v,rfl,_⟩:=h;rfl
 ·obtain⟨T,g,S,sm,φ,kv,d,v,rfl,t,ph,pb,sg,rep,tm,hz,B,l,N,lt,q⟩:=h;refine⟨_,(aG (aL (WX i (hr.mono ad) rfl rfl rfl rfl rfl (aA (pv 2) (aA (pv 1) (aA (NL rfl rfl rfl rfl hC hB) aB)))))),?_⟩
  try dsimp only[cxOf,Cx.nox]
  refine⟨_,rfl,_,rfl,lt,λfl c' pm O F z Y H' bt G I L m hv n0 r=>⟨g,rfl,λp J _=>?_⟩⟩;have j:aF H' (upd H' (s.heap.objs.size+1) (pinO (s.heap.objs.size+1) p)):=aF.upd r;refine⟨T,fl,s.heap.objs.size+1,g,S,sm,φ,kv,d,v,rfl,j _ _ (bt _ _ (lt.ne t λ_=>by simp) t),λx=>aY.same j (lt.rep bt (ph x)),pb,⟨c',pm,O,p,F,z,Y,j _ _ I,ec,J,j _ _ L,m,hv⟩,(lt.sg bt sg).same j,aY.same j (lt.rep bt rep),tm,hz,B,l,N,λX H2 s2 Z=>⟨s2 _ _ ec,?_⟩⟩;have R:aF H' (del1 H2 (s.heap.objs.size+1)):=λb o e=>by rw[dZ (aD e r)];exact s2 _ _ (j _ _ e)
  exact q X _ (λb o nb e=>R _ _ (bt b o nb e)) (G.same R) (aY.del1 (s2 _ _ ec) Z)
def ph0:PV H [] D.str:=λ_=>rfl
def pb0 (one:1<=b/\1<=n):WQ b n e D.str:=⟨one,λx h=>⟨by unfold Tm at h;unfold Fl;exact h,by unfold Nb;trivial⟩,λx=>by rw[sz];exact one.1;all_goals simp,λx=>by unfold nds;exact one.2,λ_=>aw _⟩
structure W9 (fx:cU)(sm:cC)(os:aV)(d:D):Prop where
 so:aW fx sm
 ho:∀x∈os,bR x
 tm:aS fx sm os d
 lv:lvs d<=300
 nd:nds d<=8000
 dp:depD d<=30
def LG (h:97<=c/\c<=122):inTx "abcdefghijklmnopqrstuvwxyz" c=true:=by
 have a:∀j:Fin 26,inTx "abcdefghijklmnopqrstuvwxyz" (97+j.1)=true:=by decide +kernel
 have:=a ⟨c - 97,dk⟩;rw[show 97+(c - 97)=c by lia]at this;exact this
def MZ:Sp:=λvs H Q _=>∃x:Str,vs=[.str x]/\jQ x/\∀H',aF H H'->Q (.bl true) H'
def RP (F:fV K "is_name" "is_name" lO f fd)(T:Txt mg):cH P w K mg base bU 1 f fd AV MZ:=by
 refine F.ok F7 (λvs H Q E h=>?_) (λC A outer s H vs Q E r h=>?_)
 ·obtain⟨x,rfl,_⟩:=h;rfl
 ·obtain⟨x,rfl,l,q⟩:=h;have u:=r.units
  refine⟨_,(aE (bQ (PW.pt (jJ (cZ (aT K rfl (aZ aK T.n_isinstance (aA (pv 0) (aA (cF (v:=V.ty "str") rfl T.n_str rfl rfl) aB))) (λ_=>rfl))) (iD (cZ (nL qT qT aJ (aZ bV T.n_len (aA (pv 0) aB)) (gW T.c_LONGEST_NAME rfl)))))) (aG (aL oS)) aO)
   (aG (aL (aZ (tH rfl) T.n_all (aA (gZ rfl (bN.by (N:=tJ) (names:=(aH lO).names) (N':=["sign"]) (src:=[none]) (by decide +kernel) rfl rfl) (NG (pv 0)) (λ_ _ _ _=>(eD (i:=0) (dL ["sign"]) rfl (Or.inl rfl))) (λ_ _ _ _=>dW) (λ_ _ _ _=>(dY sO (pv 0) (gW T.c_LETTERS rfl) (by with_unfolding_all rfl)))) aB))))),?_⟩
  try dsimp only[cxOf,Cx.nox]
  simp only[tJ];clear r F T u;have keep:=aI q l;clear q l
  walk_at "rd"
  obtain⟨q,G,j,t⟩:=keep;have hz:x.length<=sizeLine:=ao (m:=6) (by rw[br]at j;exact j) ad;have I:x.cps.toList.length=x.length:=by rw[br];rfl
  refine⟨true,rfl,?_⟩;rw[ab ad];refine⟨.int x.length,by rw[EO hz];rfl,_,rfl,?_⟩;rw[ai dk];refine⟨_,rfl,?_⟩;rw[ab dk];refine⟨_,rfl,x,rfl,?_,?_⟩
  ·rw[Array.all_eq_true_iff_forall_mem];intro c hc;have:=t c (by simpa using hc);simp only[decide_eq_true_eq]
   lia
  ·refine AG (λi d g H'=>H'=H/\d=(List.replicate i true).map V.bl/\i<=6/\∃o:Option V,g=[o]) ⟨rfl,rfl,ad,none,rfl⟩ ?_ ?_
   ·rintro i c d g H' hc ⟨rfl,rfl,hi,o,rfl⟩;have B:c∈x.cps.toList:=by
     have:x.cps.toList[i]?=some c:=by rw[Array.getElem?_toList];exact hc
     exact bj this
    have hi':i<x.cps.size:=(Array.getElem?_eq_some_iff.mp hc).1;refine⟨_,rfl,_,rfl,_,rfl,?_⟩;have e:=LG (t c B);unfold inTx at e;dsimp only;refine⟨aj (m:=100) (by simp;lia) ad,rfl,?_,by rw[br]at j;lia,_,rfl⟩;rw[e,List.replicate_succ',az];rfl
   ·rintro d g H' ⟨rfl,rfl,hi,o,rfl⟩ p z;refine⟨p,rfl,List.replicate _ true,ec,?_⟩;have:(List.replicate x.cps.size true).all id=true:=by simp
    rw[this];exact q _ (aF.upd z)
def IS:Sp:=λvs H Q _=>∃i:Int,vs=[.int i]/\Q (.bl true) H
def NX (F:fV K "is_whole" "is_whole" mC f fd)(T:Txt mg):cH P w K mg base bU 1 f fd xT IS:=by
 refine F.ok DT (λvs H Q E h=>?_) (λd A outer s H vs Q E c h=>?_)
 ·obtain⟨x,rfl,_⟩:=h;rfl
 ·obtain⟨i,rfl,q⟩:=h;refine⟨_,(aG (aL (NO (aZ aK T.n_isinstance (aA (pv 0) (aA (cF (v:=V.ty "int") rfl T.n_int rfl rfl) aB))) (GD (U5 (aZ aK T.n_isinstance (aA (pv 0) (aA (cF (v:=V.ty "bool") rfl T.n_bool rfl rfl) aB)))))))),?_⟩
  try dsimp only[cxOf,Cx.nox]
  simp only[xZ];clear c F T
  walk_at "rd"
def oO (H:Hp)(c:List V):Prop:=∀v∈c,∃t x y,v = .ref t/\H t=some (.tup [x,y])
def oO.same (h:oO H ws)(s:aF H H'):oO H' ws:=λv c=>by obtain⟨t,x,y,e,h⟩:=h v c;exact⟨t,x,y,e,s _ _ h⟩
def IV:Sp:=λvs H Q _=>∃(a:Addr) (lo hi:Int) (ws:List V),vs=[.ref a,.int lo,.int hi]/\H a=some (.lst ws)/\oO H ws/\lo<=ws.length/\(ws.length:Int)<=hi/\ws.length<=100/\∀l H',aF H H'->H l=none->H' l=some (.lst ws)->Q (.ref l) H'
def YU (a:Addr)(lo hi:Int)(H:Hp)(i:Nat)(c:St)(d:Hp):Prop:=∃o:Option V,c=[some (.ref a),some (.int lo),some (.int hi),o]/\aF H d
def YV (e:List V)(H:Hp)(i:Nat)(c:List V)(d:St)(g:Hp):Prop:=∃o:Option V,d=[o]/\aF H g/\c=e.take i
def N1 (F:fV K "checked_pairs" "checked_pairs" eI f fd)(T:Txt mg):cH P w K mg base bU 1 f fd mW IV:=by
 refine F.ok lL (λvs H Q E h=>?_) (λcdv A outer s H vs Q E hr h=>?_)
 ·obtain⟨a,lo,hi,C,rfl,_⟩:=h;rfl
 ·obtain⟨a,lo,hi,C,rfl,ha,Z,h1,h2,h3,q⟩:=h;have hu:=hr.units
  refine⟨_,(aE (bQ (PW.pt (jJ (cZ (aT K rfl (aZ aK T.n_isinstance (aA (pv 0) (aA (fM (aA (cF (v:=V.ty "list") rfl T.n_list rfl rfl) (aA (cF (v:=V.ty "tuple") rfl T.n_tuple rfl rfl) aB))) aB))) (λ_=>rfl))) (iD (cZ (nL qT qT (pv 1) (aZ bV T.n_len (aA (pv 0) aB)) (pv 2)))))) (aG eK) aO)
   (aE (eT dj rfl (dF K rfl (pv 0)) (h8 3 lL.nd) (aG (bQ (PW.pt (jJ (cZ (aT K rfl (aZ aK T.n_isinstance (aA (pv 3) (aA (fM (aA (cF (v:=V.ty "list") rfl T.n_list rfl rfl) (aA (cF (v:=V.ty "tuple") rfl T.n_tuple rfl rfl) aB))) aB))) (λ_=>rfl))) (iD (aR (eZ hu) (aZ bV T.n_len (aA (pv 3) aB)) aJ)))) (aG eK) aO)))
   (aG (aL (gZ rfl (bN.by (N:=i0) (names:=(aH eI).names) (N':=["pair"]) (src:=[none]) (by decide +kernel) rfl rfl) (dF K rfl (pv 0)) (λ_ _ _ _=>(eD (i:=0) (dL ["pair"]) rfl (Or.inl rfl))) (λ_ _ _ _=>dW) (λ_ _ _ _=>(cB fA rfl T.n_tuple rfl (aA (pv 0) aB)))))))),?_⟩
  try dsimp only[cxOf,Cx.nox]
  clear hr F T hu;simp only[tFor_fn,tComp_fn];refine⟨_,rfl,show 2<=sizeLine by decide,λp hp=>?_⟩;have G:aF H (upd H p (.tup [.ty "list",.ty "tuple"])):=aF.upd hp;have O:upd H p (.tup [.ty "list",.ty "tuple"]) p=some (.tup [.ty "list",.ty "tuple"]):=ec;generalize upd H p (.tup [.ty "list",.ty "tuple"])=H1 at G O⊢;have d:=G _ _ ha;refine⟨.ref a,.ref p,true,rfl,OW d O,true,rfl,?_⟩;refine⟨_,rfl,_,rfl,_,.int C.length,rfl,by dsimp only;rw[lenV_l d];rfl,_,_,rfl,rfl,_,rfl,ite_on (λ_=>⟨_,rfl,_,_,rfl,rfl,_,rfl,?_⟩) λc=>absurd h1 (of_decide_eq_false c)⟩;rw[bi h2];refine⟨_,rfl,a,C,rfl,.inl d,λJ hJ=>?_⟩;refine kL hJ (YU a lo hi H1) ⟨none,rfl,aF.refl _⟩ (by rintro i B H' _ ⟨_,_,s2⟩;rw[d,s2 _ _ d]) ?_ ?_
  ·rintro i x B u L ⟨o,rfl,s2⟩;obtain⟨t,y,z,rfl,U⟩:=Z x (bj L);have S:=s2 _ _ (G _ _ U);refine⟨_,rfl,show 2<=sizeLine by decide,λI W=>?_⟩;have g:aF u (upd u I (.tup [.ty "list",.ty "tuple"])):=aF.upd W;have j:upd u I (.tup [.ty "list",.ty "tuple"]) I=some (.tup [.ty "list",.ty "tuple"]):=ec;generalize upd u I (.tup [.ty "list",.ty "tuple"])=H3 at g j⊢;have e:=g _ _ S;refine⟨.ref t,.ref I,true,rfl,OV e j,true,rfl,_,rfl,_,.int 2,rfl,by dsimp only;rw[lenV_t e];rfl,.int 2,.int 2,rfl,rfl,aw _,_,rfl,?_⟩;rw[dQ];exact⟨_,rfl,s2.trans g⟩
  ·rintro B u ⟨o,rfl,s2⟩;have r:=s2 _ _ d;refine⟨_,rfl,a,C,rfl,.inl r,λJ2 X=>?_⟩;refine dC X (YV C u) ⟨none,rfl,aF.refl _,rfl⟩ (by rintro i R B H' _ ⟨_,_,g,_⟩;rw[r,g _ _ r]) ?_ ?_
   ·rintro i x R B H3 L ⟨o',rfl,g,rfl⟩;obtain⟨t,y,z,rfl,U⟩:=Z x (bj L);have e:=g _ _ (s2 _ _ (G _ _ U));have hi':=(cs.mp L).1;refine⟨_,rfl,t,[y,z],rfl,.inr e,λl H4 hc=>?_⟩;rcases hc with⟨hc,rfl,rfl⟩|⟨hc,_⟩
    ·exact⟨aj (m:=100) (by rw[bv];lia) ad,_,rfl,g,by rw[ee L]⟩
    ·rw[e]at hc;cases hc
   ·rintro R B H3 ⟨o',rfl,g,rfl⟩ l hl;rw[bw];have Y:=(G.trans s2).trans g;exact q l _ (Y.trans (aF.upd hl)) (Y.free hl) ec
def jT (H:Hp):aV->List V->Prop
 | [],vs=>vs=[]
 | n::ns,vs=>∃t y us,vs = .ref t::us/\H t=some (.tup [.str n,y])/\jT H ns us
def jT.same (s:aF H H'):∀{ns:aV} {vs:List V},jT H ns vs->jT H' ns vs
 | [],_,h=>h
 | _::_,_,⟨t,y,us,e,h,q⟩=>⟨t,y,us,e,s _ _ h,jT.same s q⟩
def jT.len:∀{ns:aV} {vs:List V},jT H ns vs->vs.length=ns.length
 | [],_,h=>by cases h;rfl
 | _::_,_,⟨t,y,us,e,h,q⟩=>by subst e;simp[jT.len q]
theorem jT.get:∀{ns:aV} {vs:List V} {i:Nat} {v:V},jT H ns vs->vs[i]?=some v->∃n t y,ns[i]?=some n/\v = .ref t/\H t=some (.tup [.str n,y])
 | [],_,_,_,h,k=>by cases h;simp at k
 | _::_,_,0,_,⟨t,y,us,e,h,q⟩,k=>by subst e;simp at k;exact⟨_,t,y,rfl,k.symm,h⟩
 | _::_,_,i+1,_,⟨t,y,us,e,h,q⟩,k=>by subst e;simp at k;obtain⟨r,t,y,g,d,c⟩:=jT.get q k;exact⟨r,t,y,by simpa using g,d,c⟩
def jT.app:∀{ns c:aV} {vs us:List V},jT H ns vs->jT H c us->jT H (ns++c) (vs++us)
 | [],_,_,_,h,k=>by cases h;exact k
 | _::_,_,_,_,⟨t,y,us,e,h,q⟩,k=>by subst e;exact⟨t,y,_,rfl,h,jT.app q k⟩
def dU.n:∀{l:cU} {vs:List V},dU H l vs->jT H (l.map (·.1)) vs
 | [],_,h=>h
 | _::_,_,⟨t,us,e,h,q⟩=>⟨t,_,us,e,h,dU.n q⟩
def d8.n:∀{l:cC} {vs:List V},d8 H l vs->jT H (l.map (·.1)) vs
 | [],_,h=>h
 | _::_,_,⟨t,us,e,h,q⟩=>⟨t,_,us,e,h,d8.n q⟩
def DP:Sp:=λvs H Q _=>∃(a:Addr) (ns:aV) (ws:List V),vs=[.ref a]/\H a=some (.lst ws)/\jT H ns ws/\(∀x∈ns,jQ x)/\ns.Nodup/\ns.length<=50/\∀H',aF H H'->Q .non H'
def YX (ns:aV)(H:Hp)(i:Nat)(c:List V)(d:St)(g:Hp):Prop:=∃o e:Option V,d=[o,e]/\aF H g/\c=(ns.take i).map V.str
def YW (H:Hp)(i:Nat)(c:List V)(d:St)(e:Hp):Prop:=∃o:Option V,d=[o]/\aF H e/\c=(List.replicate i true).map V.bl
def K1 (F:fV K "check_names" "check_names" eM f fd)(T:Txt mg)(c:dS P w K mg base bU 1 "is_name" MZ):cH P w K mg base bU 2 f fd oX DP:=by
 refine F.ok nH (λvs H Q E h=>?_) (λcdv A outer s H vs Q E I h=>?_)
 ·obtain⟨a,ns,S,rfl,_⟩:=h;rfl
 ·obtain⟨a,ns,S,rfl,u,B,ok,nd,g,q⟩:=h;have X:=I.units
  refine⟨_,(aE (jA (i:=1) nH.nd rfl rfl rfl rfl (bN.by (N:=iO) (names:=(aH eM).names) (N':=["name","told"]) (src:=[none,none]) (by decide +kernel) rfl rfl) (dF K rfl (pv 0)) (λ_ _ _ _=>(cT K rfl (i:=0) (j:=1) rfl (dL ["name","told"]) rfl rfl rfl rfl)) (λ_ _ _ _=>dW) (λ_ _ _ _=>(pv 0)))
   (aE (bQ (cZ (aT K rfl (aZ (tH rfl) T.n_all (aA (gZ rfl (bN.by (N:=iO) (names:=(aH eM).names) (N':=["name"]) (src:=[none]) (by decide +kernel) rfl rfl) (dF K rfl (pv 1)) (λ_ _ _ _=>(eD (i:=0) (dL ["name"]) rfl (Or.inl rfl))) (λ_ _ _ _=>dW) (λ_ _ _ _=>(aU c I (aA (pv 0) aB)))) aB)) (λ_=>rfl))) (aG eK) aO)
   (aG (bQ (aR (kQ X) (aZ AL T.n_len (aA (cB (AJ rfl) rfl T.n_set rfl (aA (pv 1) aB)) aB)) (aZ bV T.n_len (aA (pv 1) aB))) (aG eK) aO)))),?_⟩
  try dsimp only[cxOf,Cx.nox]
  simp only[iO];clear I F T X c;have keep:=aI q (aI u (aI B (aI ok (aI nd g))));clear q u B ok nd g
  walk_at "rd"
  obtain⟨q,u,B,ok,nd,g⟩:=keep;have lw:=B.len;refine⟨S,.inl u,λJ hJ=>?_⟩;refine dC hJ (YX ns H) ⟨none,none,rfl,aF.refl _,rfl⟩ (by rintro i e v H' _ ⟨_,_,_,s2,_⟩;rw[u,s2 _ _ u]) ?_ ?_
  ·rintro i x e v R G ⟨o,o',rfl,s2,rfl⟩;obtain⟨n,t,y,C,rfl,ht⟩:=B.get G;have hi:=(cs.mp C).1;refine⟨t,_,rfl,iF.of (s2 _ _ ht),rfl,_,_,rfl,_,_,rfl,rfl,_,rfl,aj (m:=100) (by simp;lia) ad,_,_,rfl,s2,?_⟩;rw[ee C,az];rfl
  ·rintro e v R ⟨o,o',rfl,s2,rfl⟩ l hl;rw[lw,bw];have d:upd R l (.lst (ns.map V.str)) l=some (.lst (ns.map V.str)):=ec;have U:=s2.trans (aF.upd (o:=.lst (ns.map V.str)) hl);generalize upd R l (.lst (ns.map V.str))=H3 at d U⊢;refine⟨l,rfl,_,.inl d,λJ2 O=>?_⟩;refine dC O (YW H3) ⟨none,rfl,aF.refl _,rfl⟩ (by rintro i e v H' _ ⟨_,_,z,_⟩;rw[d,z _ _ d]) ?_ ?_
   ·rintro i x e v H4 G ⟨o,rfl,z,rfl⟩;rw[bS]at G;obtain⟨n,C,rfl⟩:=Option.map_eq_some_iff.mp G;have hi:=(cs.mp C).1;refine⟨_,rfl,n,rfl,ok n (bj C),λZ r=>⟨aj (m:=100) (by simp;lia) ad,_,rfl,z.trans r,?_⟩⟩;rw[List.replicate_succ',az];rfl
   ·rintro e v H4 ⟨o,rfl,z,rfl⟩ W L;refine⟨W,rfl,_,ec,?_⟩;rw[ab dl];have r:=z.trans (aF.upd (o:=.lst ((List.replicate (ns.map V.str).length true).map V.bl)) L);generalize upd H4 W (.lst ((List.replicate (ns.map V.str).length true).map V.bl))=Z at r⊢;refine⟨l,ns,rfl,r _ _ d,nd,dk,λp Y=>⟨p,ns.length,rfl,ec,.int ns.length,?_,.inl (.inl ⟨_,rfl,_,rfl,?_⟩)⟩⟩
    ·have:=(aF.upd (o:=IG P w p ns.length) Y) _ _ (r _ _ d);show Option.map _ ((lenV (upd Z p (IG P w p ns.length)) (.ref l)).bind _)=_;rw[lenV_l this,ae];rfl
    ·rw[ab dk];exact q _ ((U.trans r).trans (aF.upd Y))
def IU:Sp:=λvs H Q _=>∃(a:Addr) (fx:cU) (fv:List V),vs=[.ref a]/\H a=some (.lst fv)/\dU H fx fv/\(∀r∈fx,0<=r.2/\r.2<=3)/\(∃r∈fx,r.2=0)/\fx.length<=50/\∀H',aF H H'->Q .non H'
def YC (a:Addr)(H:Hp)(i:Nat)(c:St)(e:Hp):Prop:=∃o d:Option V,c=[some (.ref a),o,d]/\e=H
def YD (g:cU)(H:Hp)(i:Nat)(c:List V)(d:St)(h:Hp):Prop:=∃o e:Option V,d=[o,e]/\h=H/\c=((g.take i).map λr=>decide (r.2=0)).map V.bl
def N0 (F:fV K "check_parts" "check_parts" fR f fd)(T:Txt mg)(d:dS P w K mg base bU 1 "is_whole" IS):cH P w K mg base bU 2 f fd oW IU:=by
 refine F.ok nG (λvs H Q E h=>?_) (λcdv A outer s H vs Q E l h=>?_)
 ·obtain⟨a,O,R,rfl,_⟩:=h;rfl
 ·obtain⟨a,O,R,rfl,U,z,ok,bare,Y,q⟩:=h;have S:=l.units
  refine⟨_,(aE (eT dj rfl (dF K rfl (pv 0)) (cT K rfl (i:=1) (j:=2) rfl nG.nd rfl rfl rfl rfl) (aG (bQ (PW.pt (jJ (cZ (aT K rfl (aU d l (aA (pv 2) aB)) (λ_=>rfl))) (iD (cZ (nL qT qT aJ (pv 2) (gW T.c_MOST_PARTS rfl)))))) (aG eK) aO)))
   (aG (bQ (cZ (aT K rfl (aZ (MD rfl) T.n_any (aA (gZ rfl (bN.by (N:=pA) (names:=(aH fR).names) (N':=["name","many"]) (src:=[none,none]) (by decide +kernel) rfl rfl) (dF K rfl (pv 0)) (λ_ _ _ _=>(cT K rfl (i:=0) (j:=1) rfl (dL ["name","many"]) rfl rfl rfl rfl)) (λ_ _ _ _=>dW) (λ_ _ _ _=>(dY (eF S) (pv 1) aJ))) aB)) (λ_=>rfl))) (aG eK) aO))),?_⟩
  try dsimp only[cxOf,Cx.nox]
  clear l F T S d;simp only[tFor_fn,tComp_fn];have X:=z.len;refine⟨_,rfl,a,R,rfl,.inl U,λJ hJ=>?_⟩;refine kL hJ (YC a H) ⟨none,none,rfl,rfl⟩ (by rintro i g H' _ ⟨_,_,_,rfl⟩;rfl) ?_ ?_
  ·rintro i x g W C ⟨o,B,rfl,rfl⟩;obtain⟨r,t,v,rfl,G⟩:=z.get C;obtain⟨k0,k3⟩:=ok r (bj v);refine⟨t,_,rfl,iF.of G,rfl,_,_,rfl,_,_,rfl,rfl,?_⟩;refine⟨_,rfl,r.2,rfl,true,rfl,_,rfl,_,_,rfl,rfl,_,rfl,ite_on (λ_=>⟨_,_,rfl,rfl,_,rfl,?_⟩) λc=>absurd k0 (of_decide_eq_false c)⟩;rw[bi k3];exact⟨_,_,rfl,rfl⟩
  ·rintro g W ⟨o,B,rfl,rfl⟩;refine⟨_,rfl,a,R,rfl,.inl U,λJ2 L=>?_⟩;refine dC L (YD O W) ⟨none,none,rfl,rfl,rfl⟩ (by rintro i u g H' _ ⟨_,_,_,rfl,_⟩;rfl) ?_ ?_
   ·rintro i x u g H3 C ⟨o,B,rfl,rfl,rfl⟩;obtain⟨r,t,v,rfl,G⟩:=z.get C;have hi:=(cs.mp v).1;refine⟨t,_,rfl,iF.of G,rfl,_,_,rfl,_,_,rfl,rfl,_,rfl,?_⟩;dsimp only[tC];rw[rEqD_ii];refine⟨aj (m:=100) (by simp;lia) ad,_,_,rfl,rfl,?_⟩;rw[ee v,az,az];rfl
   ·rintro u g H3 ⟨o,B,rfl,rfl,rfl⟩ Z I;rw[X,bw];refine⟨Z,_,rfl,ec,?_⟩;have p:((O.map λr=>decide (r.2=0)).any id)=true:=by obtain⟨r,l,e⟩:=bare;rw[List.any_eq_true];exact⟨true,cy.mpr ⟨r,l,bi e⟩,rfl⟩
    rw[p];exact⟨true,rfl,q _ (aF.upd I)⟩
noncomputable def nots (sm:cC):aV:=(sm.map (·.2)).filter λ(x:Str)=>decide (x≠("" : Str))
def vY:Sp:=λvs H Q _=>∃(a b:Addr) (sm:cC) (sv:List V) (zs:aV),vs=[.ref a,.ref b]/\H a=some (.lst sv)/\d8 H sm sv/\H b=some (.lst (zs.map V.str))/\(∀r∈sm,r.2≠("" : Str)->r.2∈zs)/\(nots sm).Nodup/\sm.length<=50/\∀H',aF H H'->Q .non H'
def YG (a b:Addr)(H:Hp)(i:Nat)(d:St)(g:Hp):Prop:=∃o e c:Option V,d=[some (.ref a),some (.ref b),o,e,c]/\g=H
def YH (sm:cC)(H:Hp)(i:Nat)(c:List V)(d:St)(g:Hp):Prop:=∃o e:Option V,d=[o,e]/\g=H/\c=(nots (sm.take i)).map V.str
def K5 (sm:cC)(r:Str×Str):nots (sm++[r])=nots sm++(if r.2=("" : Str)then []else [r.2]):=by unfold nots;rw[az,List.filter_append];congr 1;by_cases z:r.2=("" : Str) <;> simp[z]
def EE (sm:cC):(nots sm).length<=sm.length:=by unfold nots;exact ao (List.length_filter_le _ _) (by rw[ae];exact ac _)
def EC (F:fV K "check_noughts" "check_noughts" eJ f fd)(T:Txt mg):cH P w K mg base bU 1 f fd mX vY:=by
 refine F.ok iC (λvs H Q E h=>?_) (λcdv A outer s H vs Q E hr h=>?_)
 ·obtain⟨a,b,sm,L,I,rfl,_⟩:=h;rfl
 ·obtain⟨a,b,sm,L,I,rfl,ha,O,hb,ok,nd,l50,q⟩:=h;have g:=hr.units
  refine⟨_,(aE (eT dj rfl (dF K rfl (pv 0)) (cT K rfl (i:=2) (j:=3) rfl iC.nd rfl rfl rfl rfl) (aG (bQ (PW.pt (jJ (cZ (aT K rfl (aZ aK T.n_isinstance (aA (pv 3) (aA (cF (v:=V.ty "str") rfl T.n_str rfl rfl) aB))) (λ_=>rfl))) (iD (PW.pt (wE (aR (eZ g) (pv 3) iE) (qO (aR (KU g) (pv 3) (pv 1) (by with_unfolding_all rfl)))))))) (aG eK) aO)))
   (aE (jA (i:=4) iC.nd rfl rfl rfl rfl (bN.by (N:=i5) (names:=(aH eJ).names) (N':=["name","nought"]) (src:=[none,none]) (by decide +kernel) rfl rfl) (dF K rfl (pv 0)) (λ_ _ _ _=>(cT K rfl (i:=0) (j:=1) rfl (dL ["name","nought"]) rfl rfl rfl rfl)) (λ_ _ _ _=>(mI (aR (eZ g) (pv 1) iE))) (λ_ _ _ _=>(pv 1)))
   (aG (bQ (aR (kQ g) (aZ AL T.n_len (aA (cB (AJ rfl) rfl T.n_set rfl (aA (pv 4) aB)) aB)) (aZ bV T.n_len (aA (pv 4) aB))) (aG eK) aO)))),?_⟩
  try dsimp only[cxOf,Cx.nox]
  clear hr F T g;simp only[tFor_fn,tComp_fn];have lw:=O.len;refine⟨_,rfl,a,L,rfl,.inl ha,λJ hJ=>?_⟩;refine kL hJ (YG a b H) ⟨none,none,none,rfl,rfl⟩ (by rintro i e H' _ ⟨_,_,_,_,rfl⟩;rfl) ?_ ?_
  ·rintro i x e H2 W ⟨o,U,S,rfl,rfl⟩;obtain⟨r,t,G,rfl,X⟩:=O.get W;have R:=ok r (bj G);refine⟨t,_,rfl,iF.of X,rfl,_,_,rfl,_,_,rfl,rfl,?_⟩;refine⟨_,rfl,.str r.2,.ty "str",true,rfl,rfl,true,rfl,_,rfl,.str r.2,.str (PySem.Str.ofString ""),rfl,rfl,aw _,_,rfl,ite_on (λz=>?_) (λz=>?_)⟩
   ·have z:r.2≠("" : Str):=λc=>by rw[c]at z;exact absurd z (by rw[show(PySem.Str.ofString "")=("" : Str)from rfl,dQ];decide)
    refine⟨_,rfl,_,rfl,.inl ⟨.str r.2,I.map D.str,rfl,.inl ⟨b,_,rfl,hb,sF I⟩,by rw[xI];decide,_,rfl,?_⟩⟩;rw[w8,bi (R z)];exact⟨_,_,_,rfl,rfl⟩
   ·exact⟨_,_,_,rfl,rfl⟩
  ·rintro e H2 ⟨o,U,S,rfl,rfl⟩;refine⟨_,rfl,a,L,rfl,.inl ha,λJ2 Y=>?_⟩;refine dC Y (YH sm H2) ⟨none,none,rfl,rfl,rfl⟩ (by rintro i B e H' _ ⟨_,_,_,rfl,_⟩;rfl) ?_ ?_
   ·rintro i x B e C W ⟨o,U,rfl,rfl,rfl⟩;obtain⟨r,t,G,rfl,X⟩:=O.get W;have hi:=(cs.mp G).1;have hk:=EE (sm.take i);rw[bv]at hk;have u:=K5 (sm.take i) r;rw[←ee G]at u;refine⟨t,_,rfl,iF.of X,rfl,_,_,rfl,_,_,rfl,rfl,_,rfl,?_⟩;dsimp only[tC];rw[rNeD_ss];refine⟨_,rfl,?_⟩;by_cases z:r.2=("" : Str)
    ·rw[ab (by simp[z])];rw[ai z,bp]at u;exact⟨_,_,rfl,rfl,by rw[u]⟩
    ·rw[ai (by simp[z])];rw[ab z]at u;exact⟨_,rfl,aj (m:=100) (by rw[ae];lia) ad,_,_,rfl,rfl,by rw[u,az];rfl⟩
   ·rintro B e C ⟨o,U,rfl,rfl,rfl⟩ l hl;rw[lw,bw];have d:upd C l (.lst ((nots sm).map V.str)) l=some (.lst ((nots sm).map V.str)):=ec;have Z:aF C (upd C l (.lst ((nots sm).map V.str))):=aF.upd hl;generalize upd C l (.lst ((nots sm).map V.str))=H4 at d Z⊢;have hk:=EE sm;refine⟨_,rfl,l,nots sm,rfl,d,nd,dk,λp hp=>⟨p,(nots sm).length,rfl,ec,_,rfl,_,.int (nots sm).length,rfl,?_,.inl (.inl ⟨_,_,rfl,rfl,_,rfl,ite_on (λc=>absurd (bu c) dk) λ_=>q _ (Z.trans (aF.upd hp))⟩)⟩⟩;have:=(aF.upd (o:=IG P w p (nots sm).length) hp) _ _ d;dsimp only;rw[lenV_l this,ae];rfl
structure UE (K:dq)(C:Addr):Prop where
 cls:MI K C
 n1:iZ K C "fixed_rows"
 n2:iZ K C "sum_rows"
 n3:iZ K C "many_by_name"
 n4:iZ K C "nought_by_name"
def dU.pairs (h:dU H fx fv):oO H fv:=λv c=>by obtain⟨i,hi⟩:=List.getElem?_of_mem c;obtain⟨r,t,_,e,d⟩:=h.get hi;exact⟨t,_,_,e,d⟩
def d8.pairs (h:d8 H sm sv):oO H sv:=λv c=>by obtain⟨i,hi⟩:=List.getElem?_of_mem c;obtain⟨r,t,_,e,d⟩:=h.get hi;exact⟨t,_,_,e,d⟩
def dU.prs:∀{c:cU} {fv:List V},dU H c fv->fv.map (prV H)=(c.map λr=>((.inr r.1,V.int r.2):cR×V)).map (λkv=>some (kV kv.1,kv.2))
 | [],_,e=>by cases e;rfl
 | r::l,_,⟨t,us,e,h,q⟩=>by subst e;rw[bf,dU.prs q];unfold prV;simp only[h];rfl
def OE {c:cU}(nd:(c.map (·.1)).Nodup):gE [] (c.map λr=>((.inr r.1,V.int r.2):cR×V))=c.map λr=>(.inr r.1,V.int r.2):=by
 rw[pH]
 ·rfl
 ·rw[List.nil_append,cp];exact List.pairwise_map.mpr ((List.pairwise_map.mp nd).imp λh e=>h (Sum.inr.inj e))
def F2 (K:dq)(C:Addr):Sp:=λvs H Q _=>∃(x c a b:Addr) (fx:cU) (sm:cC) (fv sv:List V),vs=[.ref x,.ref a,.ref b]/\H x=some (.ins C c [])/\H a=some (.lst fv)/\H b=some (.lst sv)/\dU H fx fv/\d8 H sm sv/\aW fx sm /\
 ∀H',bO x H H'->iG K C fx sm H' x->Q .non H'
def X9 (g:cU)(H:Hp)(i:Nat)(c:List V)(d:St)(h:Hp):Prop:=∃o e:Option V,d=[o,e]/\h=H/\c=(zeros (g.take i)).map V.str
def FS (c:cU):(zeros c).length<=c.length:=by unfold zeros;rw[ae];exact List.length_filter_le _ _
def RV (F:fV K "__init__" "Signs.__init__" cN f fd)(T:Txt mg)(co:UE K C)(d:dS P w K mg base bU 1 "checked_pairs" IV)(p:dS P w K mg base bU 2 "check_names" DP)(l:dS P w K mg base bU 2 "check_parts" IU)(g:dS P w K mg base bU 1 "check_noughts" vY):cH P w K mg base bU 3 f fd iH (F2 K C):=by
 refine F.ok gN (λvs H Q E h=>?_) (λcdv A outer s H vs Q E hr h=>?_)
 ·obtain⟨x,u,a,b,v,sm,G,I,rfl,_⟩:=h;rfl
 ·obtain⟨x,u,a,b,v,sm,G,I,rfl,hx,ha,hb,rf,rs,so,q⟩:=h;have hu:=hr.units
  refine⟨_,(aE (bP 3 gN.nd (aU d hr (aA (pv 1) (aA aJ (aA (gW T.c_MOST_FIXED rfl) aB)))))
   (aE (bP 4 gN.nd (aU d hr (aA (pv 2) (aA aJ (aA (gW T.c_MOST_SUMS rfl) aB)))))
   (aE (cW (aU p hr (aA (bW bZ (pv 3) (pv 4)) aB)))
   (aE (cW (aU l hr (aA (pv 3) aB)))
   (aE (cW (aU g hr (aA (pv 4) (aA (gZ rfl (bN.by (N:=iI) (names:=(aH cN).names) (N':=["name","many"]) (src:=[none,none]) (by decide +kernel) rfl rfl) (dF K rfl (pv 3)) (λ_ _ _ _=>(cT K rfl (i:=0) (j:=1) rfl (dL ["name","many"]) rfl rfl rfl rfl)) (λ_ _ _ _=>(mI (aR (eF hu) (pv 1) aJ))) (λ_ _ _ _=>(pv 0))) aB))))
   (aE (BK (pv 0) (pv 3) rfl)
   (aE (BK (pv 0) (pv 4) rfl)
   (aE (BK (pv 0) (cB (pQ rfl) rfl T.n_dict rfl (aA (pv 3) aB)) rfl)
   (aG (BK (pv 0) (cB (pQ rfl) rfl T.n_dict rfl (aA (pv 4) aB)) rfl)))))))))),?_⟩
  try dsimp only[cxOf,Cx.nox]
  clear hr F T hu d p l g;simp only[tFor_fn,tComp_fn];have lf:=rf.len;have ls:=rs.len;have f1:=so.f1;have f2:=so.f2;have s2':=so.s2;have ndf:=(List.nodup_append.mp so.nd).1;have nds':=(List.nodup_append.mp so.nd).2.1;refine⟨_,rfl,a,1,12,G,rfl,ha,rf.pairs,dk,dk,dk,λL H1 s1 hl1 h1=>?_⟩;refine⟨_,rfl,b,0,3,I,rfl,s1 _ _ hb,rs.pairs.same s1,dk,dk,dk,λU H2 s2 hl2 h2=>?_⟩;have nxl1:x≠L:=aD hx hl1;have Z:x≠U:=aD (s1 _ _ hx) hl2;refine⟨_,rfl,_,rfl,.inr ⟨.lst (G++I),rL (s2 _ _ h1) h2 (ao (m:=100) dk ad),λl3 hl3=>?_⟩⟩;have s3:=(s1.trans s2).trans (aF.upd (o:=.lst (G++I)) hl3);have h13:=(aF.upd (o:=.lst (G++I)) hl3) _ _ (s2 _ _ h1);have h23:=(aF.upd (o:=.lst (G++I)) hl3) _ _ h2;have h33:upd H2 l3 (.lst (G++I)) l3=some (.lst (G++I)):=ec;generalize upd H2 l3 (.lst (G++I))=H3 at s3 h13 h23 h33⊢;refine⟨l3,v.map (·.1)++sm.map (·.1),G++I,rfl,h33,jT.app (jT.same s3 rf.n) (jT.same s3 rs.n),so.nm,so.nd,by simp;lia,λH4 s4=>?_⟩;refine⟨_,rfl,L,v,G,rfl,s4 _ _ h13,rf.same (bK.of (s3.trans s4)),so.parts,so.bare,dk,λH5 s5=>?_⟩;have h15:=s5 _ _ (s4 _ _ h13);have h25:=s5 _ _ (s4 _ _ h23);have sH5:=(s3.trans s4).trans s5;have rf5:=rf.same (bK.of sH5);have rs5:=rs.same (bK.of sH5);refine⟨_,rfl,_,rfl,L,G,rfl,.inl h15,λJ hJ=>?_⟩;refine dC hJ (X9 v H5) ⟨none,none,rfl,rfl,rfl⟩ (by rintro i acc σ H' _ ⟨_,_,_,rfl,_⟩;rfl) ?_ ?_
  ·rintro i y acc σ H6 hy ⟨o,o',rfl,rfl,rfl⟩;obtain⟨r,t,hn,rfl,ht⟩:=rf5.get hy;have hi:=(cs.mp hn).1;have hk:=FS (v.take i);rw[bv]at hk;have e1:=jG (v.take i) r;rw[←ee hn]at e1;refine⟨t,_,rfl,iF.of ht,rfl,_,_,rfl,_,_,rfl,rfl,_,rfl,?_⟩;dsimp only[tC];rw[rEqD_ii];refine⟨_,rfl,?_⟩;by_cases z:r.2=0
   ·rw[ai (bi z)];rw[ai z]at e1;exact⟨_,rfl,aj (m:=100) (by rw[ae];lia) ad,_,_,rfl,rfl,by rw[e1,az];rfl⟩
   ·rw[ab (by simpa using z)];rw[ab z,bp]at e1;exact⟨_,_,rfl,rfl,by rw[e1]⟩
  ·rintro acc σ H6 ⟨o,o',rfl,rfl,rfl⟩ l6 hl6;rw[lf,bw];have s6:aF H6 (upd H6 l6 (.lst ((zeros v).map V.str))):=aF.upd hl6;have h66:upd H6 l6 (.lst ((zeros v).map V.str)) l6=some (.lst ((zeros v).map V.str)):=ec;generalize upd H6 l6 (.lst ((zeros v).map V.str))=H7 at s6 h66⊢;refine⟨U,l6,sm,I,zeros v,rfl,s6 _ _ h25,rs5.same (bK.of s6),h66,so.nought,so.once,dk,λY s8=>?_⟩;have S:=(sH5.trans s6).trans s8;have h18:=s8 _ _ (s6 _ _ h15);have h28:=s8 _ _ (s6 _ _ h25);have hx8:=S _ _ hx;have rf8:=rf.same (bK.of S);have rs8:=rs.same (bK.of S);refine⟨_,rfl,_,rfl,x,C,u,[],rfl,hx8,co.cls,co.n1,ad,?_⟩;refine⟨_,rfl,_,rfl,x,C,u,_,rfl,ec,co.cls,co.n2,?_,?_⟩
   ·have:=gI ("fixed_rows" : Str) (.ref L) [];simp only[List.length_nil]at this
    lia
   rw[upd_upd];have e9:∀(fs:List (Str×V)),aF (del Y x) (upd Y x (.ins C u fs)):=λfs b o e=>by obtain⟨z1,z2⟩:=dR e;rw[aC z2];exact z1
   have l2f:(putF ("sum_rows" : Str) (.ref U) (putF ("fixed_rows" : Str) (.ref L) [])).length<=2:=by
    have:=gI ("sum_rows" : Str) (.ref U) (putF ("fixed_rows" : Str) (.ref L) []);have:=gI ("fixed_rows" : Str) (.ref L) [];simp only[List.length_nil]at this
    lia
   have k1:(putF ("sum_rows" : Str) (.ref U) (putF ("fixed_rows" : Str) (.ref L) [])).lookup ("many" : Str)=none:=by rw[cP,ab ad,cP,ab ad];rfl
   have k2:(putF ("sum_rows" : Str) (.ref U) (putF ("fixed_rows" : Str) (.ref L) [])).lookup ("nought" : Str)=none:=by rw[cP,ab ad,cP,ab ad];rfl
   generalize putF ("sum_rows" : Str) (.ref U) (putF ("fixed_rows" : Str) (.ref L) [])=fs2 at l2f k1 k2⊢;have t9:bK Y (upd Y x (.ins C u fs2)):=λc xs e=>by rw[aC (λz=>by rw[z,hx8]at e;cases e)];exact e
   have W:upd Y x (.ins C u fs2) x=some (.ins C u fs2):=ec;have b9:bO x H (upd Y x (.ins C u fs2)):=λc o nc e=>by rw[aC nc];exact S _ _ e
   have h19:upd Y x (.ins C u fs2) L=some (.lst G):=by rw[aC nxl1.symm];exact h18
   have h29:upd Y x (.ins C u fs2) U=some (.lst I):=by rw[aC Z.symm];exact h28
   have rf9:=rf8.same t9;have rs9:=rs8.same t9;generalize upd Y x (.ins C u fs2)=H9 at t9 W b9 h19 h29 rf9 rs9⊢;refine⟨_,rfl,L,G,_,rfl,h19,rf9.prs,λB hd3=>?_⟩;rw[OE ndf];have nx3:x≠B:=aD W hd3;refine⟨_,rfl,x,C,u,fs2,rfl,by rw[aC nx3];exact W,co.cls,co.n3,dk,?_⟩;have l3f:=gI ("many_by_name" : Str) (.ref B) fs2;have k3:(putF ("many_by_name" : Str) (.ref B) fs2).lookup ("many" : Str)=none:=by rw[cP,ab ad];exact k1
   have k4:(putF ("many_by_name" : Str) (.ref B) fs2).lookup ("nought" : Str)=none:=by rw[cP,ab ad];exact k2
   have k5:(putF ("many_by_name" : Str) (.ref B) fs2).lookup ("many_by_name" : Str)=some (.ref B):=by rw[cP,ai rfl]
   generalize putF ("many_by_name" : Str) (.ref B) fs2=fs3 at l3f k3 k4 k5⊢;have s10:aF H9 (upd H9 B (.dK (v.map λr=>(.inr r.1,.int r.2)))):=aF.upd hd3;have O:upd (upd H9 B (.dK (v.map λr=>(.inr r.1,.int r.2)))) x (.ins C u fs3) x=some (.ins C u fs3):=ec;have R:upd (upd H9 B (.dK (v.map λr=>(.inr r.1,.int r.2)))) x (.ins C u fs3) B=some (.dK (v.map λr=>(.inr r.1,.int r.2))):=by rw[aC nx3.symm];exact ec
   have X:bO x H9 (upd (upd H9 B (.dK (v.map λr=>(.inr r.1,.int r.2)))) x (.ins C u fs3)):=λc o nc e=>by rw[aC nc];exact s10 _ _ e
   generalize upd (upd H9 B (.dK (v.map λr=>(.inr r.1,.int r.2)))) x (.ins C u fs3)=H11 at O R X⊢;have t11:bK H9 H11:=λc xs e=>X c _ (λz=>by rw[z,W]at e;cases e) e;refine⟨_,rfl,U,I,_,rfl,X _ _ Z.symm h29,(rs9.same t11).prs,λd4 hd4=>?_⟩;rw[EK nds'];have nx4:x≠d4:=aD O hd4;have n34:B≠d4:=aD R hd4;refine⟨_,rfl,x,C,u,fs3,rfl,by rw[aC nx4];exact O,co.cls,co.n4,dk,?_⟩;refine q _ (λc o nc e=>?_) ⟨co.cls,co.n3,co.n4,u,_,B,d4,ec,by rw[cP,ab ad];exact k3,by rw[cP,ab ad];exact k4,by rw[cP,ab ad];exact k5,by rw[cP,ai rfl],by rw[aC nx3.symm,aC n34];exact R,by rw[aC nx4.symm];exact ec⟩;rw[aC nc];exact(aF.upd hd4) _ _ (X c o nc (b9 c o nc e))
end
def TH (x:Str):Prop:=x.cps.size<=20/\(x.cps.toList.all λc=>decide (c<16 ^ 8))=true
def wO (h:jQ x):TH x:=by
 refine⟨by have:=h.2.1;rw[br]at this;lia,List.all_eq_true.mpr λc hc=>bi ?_⟩;have:=(h.2.2 c hc).2
 lia
def FU (h:bR x):TH x:=by
 obtain⟨l,rfl,g,e,d⟩:=h;refine⟨by simp;lia,List.all_eq_true.mpr λc hc=>bi ?_⟩;simp only[cw]at hc;rcases hc with rfl|hc
 ·decide
 ·have:=d c hc;unfold isWd at this
  lia
section
variable {fx:cU}{sm:cC}{os:aV}
def E2 (so:aW fx sm)(h:C9 fx sm n k):TH n:=by
 refine wO (so.nm n ?_);rcases h with⟨_,h⟩|⟨_,h⟩
 ·exact cj _ (cy.mpr ⟨_,h,rfl⟩)
 ·exact bz _ h
mutual
theorem A4 (so:aW fx sm)(ho:∀x∈os,bR x):∀{d:D},aS fx sm os d->Tx d/\(pdOf d).leavesShort 13=true/\(pdOf d).weight+1<=30 * nds d
 | .str x,h=>by
  have e:TH x:=by
   unfold aS at h;rcases h with h|h
   ·exact FU (ho x h)
   ·exact wO (so.nm x (cj _ ((iA fx).subset h)))
  unfold Tx pdOf PyData.leavesShort PyData.weight;refine⟨trivial,e.2,?_⟩;have:=e.1;have:nds (.str x)=1:=by unfold nds;rfl
  lia
 | .tup (.str n::ds),h=>by
  unfold aS at h;obtain⟨a,b,c⟩:=vS so ho h.2;have e:=E2 so h.1;have g:=e.1;refine⟨by unfold Tx Txs;exact⟨by unfold Tx;trivial,a⟩,?_,?_⟩
  ·unfold pdOf pdsOf PyData.leavesShort PyData.leavesShortAll;rw[b,Bool.and_true];unfold pdOf PyData.leavesShort;exact e.2
  ·unfold pdOf pdsOf PyData.weight PyData.weightAll;rw[nds,show(pdOf (.str n)).weight=n.cps.size by unfold pdOf PyData.weight;rfl]
   lia
 | .lst (.str n::ds),h=>by
  unfold aS at h;obtain⟨a,b,c⟩:=vS so ho h.2;have e:=E2 so h.1;have g:=e.1;refine⟨by unfold Tx Txs;exact⟨by unfold Tx;trivial,a⟩,?_,?_⟩
  ·unfold pdOf pdsOf PyData.leavesShort PyData.leavesShortAll;rw[b,Bool.and_true];unfold pdOf PyData.leavesShort;exact e.2
  ·unfold pdOf pdsOf PyData.weight PyData.weightAll;rw[nds,show(pdOf (.str n)).weight=n.cps.size by unfold pdOf PyData.weight;rfl]
   lia
 | .non,h | .bl _,h | .int _,h | .tup [],h | .lst [],h | .tup (.non::_),h | .tup (.bl _::_),h | .tup (.int _::_),h | .tup (.tup _::_),h | .tup (.lst _::_),h | .lst (.non::_),h | .lst (.bl _::_),h | .lst (.int _::_),h | .lst (.tup _::_),h | .lst (.lst _::_),h=>by unfold aS at h;exact absurd h id
theorem vS (so:aW fx sm)(ho:∀x∈os,bR x):∀{ds:List D},IsTms fx sm os ds->Txs ds/\PyData.leavesShortAll 13 (pdsOf ds)=true/\PyData.weightAll (pdsOf ds)<=30 * ndss ds
 | [],_=>by unfold Txs pdsOf PyData.leavesShortAll PyData.weightAll ndss;exact⟨trivial,rfl,ac _⟩
 | d::ds,⟨x,y⟩=>by
  obtain⟨a,b,c⟩:=A4 so ho x;obtain⟨g,e,h⟩:=vS so ho y;unfold Txs pdsOf PyData.leavesShortAll PyData.weightAll;refine⟨⟨a,g⟩,by rw[b,e];rfl,?_⟩;rw[ndss]
  lia
end
end
section
variable {P:dw}{w:dy}{K:dq}{mg:jS}{base:Heap}
section
variable {X:Cx}{body:List Stmt}{tb:TS}{hd:ExceptHandler}{pos:Pos}
def QW (hb:∀pn Ew,FR (X.tr pn Ew) body tb):PS X (.Try body [hd] [] [] pos) tb:=by
 intro c s e H D I h;refine wpAny_Try_except ?_;have key:∀Ew,wpAny (model X.prog X.w) X.A (execs body X.env) (SP (X.tr (X.pn++c) Ew) [] D) Ew s:=λEw=>hb _ Ew [] s e H D (I.tr Ew) h;refine wpAny_mono (key _) (λf i g=>?_) λ_ _ z=>z;have d:=SP.untr I.ok g;cases f with
 | next=>exact wpAny_execs_nil d
 | ret u=>exact d
 | brk=>exact d
 | cont=>exact d
end
def ite_on {a b:Prop}(e:c=true->a)(d:c=false->b):(if c=true then a else b):=by
 cases c
 ·rw[ab Bool.false_ne_true];exact d rfl
 ·rw[ai rfl];exact e rfl
def tComp_fn:tComp src wi g tt te=λc H Q=>wi c H λJ d=>pD J g tt te Q (stC src c) d:=rfl
def tFor_fn:tFor wi g tb=λD c H=>wi c H λJ d=>uU J g tb D c d:=rfl
noncomputable def kd (fs:List (Str×D)):List (cR×D):=fs.map λp=>(Sum.inr p.1,p.2)
structure X2 (fx:cU)(sm:cC)(os:aV)(fs:List (Str×D)):Prop where
 nd:(fs.map (·.1)).Nodup
 ok:∀p∈fs,bR p.1/\W9 fx sm os p.2
 ln:fs.length<=20
def CF {H:Hp}{fs:List (Str×D)}{c:List (cR×V)}{i:Nat}{k:cR}{v:V}(h:cG H (kd fs) c)(e:c[i]?=some (k,v)):∃x d,fs[i]?=some (x,d)/\k=Sum.inr x/\aY H d v:=by unfold cG kd at h;have m:=Paired.length h;rw[ae]at m;have hi:=(cs.mp e).1;obtain⟨q,j,r1,g⟩:=pG h (ay (l:=fs.map λp=>((Sum.inr p.1:cR),p.2)) (i:=i) (by rw[ae];lia));rw[e]at j;cases j;rw[List.getElem_map]at r1 g;exact⟨fs[i].1,fs[i].2,ay dk,r1.symm,g⟩
def pM (h:cG H (kd fs) kvs):kvs.length=fs.length:=by
 have:=Paired.length h;unfold kd at this;rw[ae]at this
 lia
def cG.but (b:bO p H H')(n1:∀xs,H p≠some (.tup xs))(n2:∀xs,H p≠some (.lst xs))(h:cG H ds kvs):cG H' ds kvs:=Paired.mapP h λ_ _ z=>⟨z.1,aY.but b n1 n2 z.2⟩
def SZ (b:bO a H H'):aF (del H a) H':=λc o e=>by obtain⟨g,d⟩:=dR e;exact b c o d g
def oQ (h:bR x)(k:jQ x):False:=by
 obtain⟨l,rfl,_⟩:=h;have:=k.2.2 63 dl
 lia
def OX (h:H a=some (.dK kvs)):isV H (.ref a) (.ty "dict")=some true:=by
 have e:tyN H (.ref a)=some "dict":=by unfold tyN;dsimp only;rw[h]
 unfold isV;rw[e];rfl
def M3 (K:dq)(C:Addr):Sp:=λvs H Q _=>∃(g:Addr) (fx:cU) (sm:cC) (os:aV) (d:D) (v:V),vs=[.ref g,v]/\iG K C fx sm H g/\aY H d v/\W9 fx sm os d/\∀H',aF H H'->Q (.bl true) H'
def RU (F:fV K "is_term" "is_term" oE f fd)(T:Txt mg)(c:dS P w K mg base bU 3 "check_term" (BC K C)):cH P w K mg base bU 4 f fd AU (M3 K C):=by
 refine F.ok F6 (λvs H Q E h=>?_) (λl A outer s H vs Q E e h=>?_)
 ·obtain⟨g,i,sm,os,d,v,rfl,_⟩:=h;rfl
 ·obtain⟨g,i,sm,os,d,v,rfl,sg,rep,t,q⟩:=h;have m:=e.units
  refine⟨_,(aE (QW (λpn Ew=>(aG (cW (aU c e (aA (pv 0) (aA (pv 1) aB)))))))
   (aG (aL oS))),?_⟩
  try dsimp only[cxOf,Cx.nox]
  have:=t.lv;have:=t.dp;exact⟨_,rfl,_,rfl,g,i,sm,os,d,v,rfl,sg,t.so,t.ho,rep,t.tm,dk,dk,t.nd,λH' j=>q H' j⟩
def DR (K:dq)(C:Addr):Sp:=λvs H Q _=>∃(g a:Addr) (fx:cU) (sm:cC) (os:aV) (fs:List (Str×D)) (kvs:List (cR×V)),vs=[.ref g,.ref a]/\iG K C fx sm (del H a) g/\H a=some (.dK kvs)/\cG H (kd fs) kvs/\X2 fx sm os fs /\
 ∀H',aF H H'->Q .non H'
def Y0 (P:dw)(w:dy)(g a:Addr)(o:Obj)(c:List (cR×V))(H:Hp)(_:Nat)(d:St)(H':Hp):Prop:=∃o2 e:Option V,d=[some (.ref g),some (.ref a),o2,e]/\bO a H H'/\H' a=some (wD P w a o c)
def K4 (F:fV K "check_filling" "check_filling" gA f fd)(T:Txt mg)(c:dS P w K mg base bU 1 "is_wish" F0)(l:dS P w K mg base bU 4 "is_term" (M3 K C)):cH P w K mg base bU 5 f fd mY (DR K C):=by
 refine F.ok lM (λvs H Q E h=>?_) (λcdv A outer s H vs Q E G h=>?_)
 ·obtain⟨g,a,W,sm,os,fs,m,rfl,_⟩:=h;rfl
 ·obtain⟨g,a,W,sm,os,fs,m,rfl,sg,r,rep,L,q⟩:=h;have hu:=G.units
  refine⟨_,(aE (bQ (cZ (aT K rfl (aZ aK T.n_isinstance (aA (pv 1) (aA (cF (v:=V.ty "dict") rfl T.n_dict rfl rfl) aB))) (λ_=>rfl))) (aG eK) aO)
   (aG (QX (eT dj rfl (oG (pv 1)) (cT K rfl (i:=2) (j:=3) rfl lM.nd rfl rfl rfl rfl) (aE (bQ (cZ (aT K rfl (aU c G (aA (pv 2) aB)) (λ_=>rfl))) (aG eK) aO)
   (aG (bQ (cZ (aT K rfl (aU l G (aA (pv 0) (aA (pv 3) aB))) (λ_=>rfl))) (aG eK) aO))))))),?_⟩
  try dsimp only[cxOf,Cx.nox]
  clear G F T hu c l;simp only[tFor_fn];refine⟨_,rfl,_,_,true,rfl,OX r,true,rfl,_,rfl,a,m,rfl,r,λo=>?_⟩;have nt:∀xs,H a≠some (.tup xs):=λxs z=>by rw[r]at z;cases z
  have nl:∀xs,H a≠some (.lst xs):=λxs z=>by rw[r]at z;cases z
  refine E4 (P:=P) (w:=w) (Y0 P w g a o m H) ⟨_,_,rfl,bO.upd _ _ _,ec⟩ (λi N H' ⟨_,_,_,_,e⟩=>e) ?_ ?_
  ·rintro i k v t N B hk ⟨o2,Z,rfl,bt,J⟩ hT;obtain⟨x,d,hf,rfl,Y⟩:=CF rep hk;obtain⟨O,X⟩:=L.ok _ (bj hf);have I:aF B (upd B t (.tup [kV (Sum.inr x),v])):=aF.upd hT;have U:upd B t (.tup [kV (Sum.inr x),v]) t=some (.tup [kV (Sum.inr x),v]):=ec;generalize upd B t (.tup [kV (Sum.inr x),v])=H2 at I U⊢;refine⟨t,_,rfl,iF.of U,rfl,_,_,rfl,_,_,rfl,rfl,?_⟩;refine⟨_,rfl,x,rfl,.inl O,λH3 S=>⟨λ_=>⟨true,rfl,?_⟩,λno=>?_⟩⟩
   ·have p:bO a H H3:=bt.trans ((I.trans S).but);refine⟨_,rfl,_,rfl,g,W,sm,os,d,v,rfl,sg.same (SZ p),aY.but p nt nl Y,X,λH4 R=>⟨true,rfl,?_⟩⟩;exact⟨_,_,rfl,p.trans R.but,R _ _ (S _ _ (I _ _ J))⟩
   ·exact(oQ O no).elim
  ·rintro N B ⟨o2,Z,rfl,bt,J⟩;refine⟨_,.inr ⟨a,o,m,J,rfl⟩,q _ λb u e=>?_⟩;by_cases z:b=a
   ·subst z;rw[ec,←r];exact e
   ·rw[aC z];exact bt b u z e
noncomputable def idle (fs:List (Str×D)):List (Str×D):=fs.filter λp=>!eqD p.2 (.str p.1)
def putK_new {c:List (cR×V)}{k:cR}{v:V}(h:∀p∈c,p.1≠k):putK c k v=c++[(k,v)]:=by unfold putK;rw[ab];intro z;obtain⟨p,d,e⟩:=List.any_eq_true.mp z;exact h p d (bu e)
def sV (h:cG H ds kvs)(r:aY H d v):cG H (ds++[(k,d)]) (kvs++[(k,v)]):=Paired.snoc h ⟨rfl,r⟩
def zR (h:cG H ds kvs):kvs.map (·.1)=ds.map (·.1):=by
 induction h with
 | nil=>rfl
 | cons a _ c=>rw[bf,bf,c,a.1]
def CG (a b:List (Str×D)):kd (a++b)=kd a++kd b:=az ..
def CC {H:Hp}{fs o:List (Str×D)}{c:List (cR×V)}{i:Nat}{x:Str}{d:D}(nd:(fs.map (·.1)).Nodup)(A:fs[i]?=some (x,d))(z:∀p∈o,∃q∈fs.take i,q.1=p.1)(r:cG H (kd o) c):∀p∈c,p.1≠Sum.inr x:=by
 intro p w e;have m:p.1∈c.map (·.1):=List.mem_map_of_mem w;rw[zR r,e]at m;obtain⟨q,v,eq⟩:=cy.mp m;obtain⟨t,l,rfl⟩:=cy.mp v;obtain⟨E,h,B⟩:=z t l;obtain⟨j,g⟩:=List.getElem?_of_mem h;rw[List.getElem?_take]at g;split at g
 ·rename_i lt;have s:(fs.map (·.1))[j]?=some x:=by rw[bS,g];exact congrArg some (B.trans (Sum.inr.inj eq))
  have C:(fs.map (·.1))[i]?=some x:=by rw[bS,A];rfl
  have u:=(cs.mp s).1;have:=(List.getElem?_inj u nd).mp (s.trans C.symm)
  lia
 ·cases g
def F3:Sp:=λvs H Q _=>∃(a:Addr) (fs:List (Str×D)) (kvs:List (cR×V)),vs=[.ref a]/\H a=some (.dK kvs)/\cG H (kd fs) kvs/\(fs.map (·.1)).Nodup/\(∀p∈fs,depD p.2<=50)/\fs.length<=40 /\
 ∀(l:Addr) (kvs':List (cR×V)) (H':Hp),aF H H'->H l=none->H' l=some (.dK kvs')->cG H' (kd (idle fs)) kvs'->Q (.ref l) H'
def YN (P:dw)(w:dy)(a:Addr)(o:Obj)(d:List (cR×V))(fs:List (Str×D))(H:Hp)(i:Nat)(c:List (cR×V))(e:St)(H':Hp):Prop:=∃g o1:Option V,e=[g,o1]/\bO a H H'/\H' a=some (wD P w a o d)/\cG H' (kd (idle (fs.take i))) c/\c.length<=i
def LA (c:H a=some (.dK kvs))(bt:bO a H H1):aF H (upd H1 a (.dK kvs)):=λb u e=>by
 by_cases z:b=a
 ·subst z;rw[ec,←c];exact e
 ·rw[aC z];exact bt b u z e
def zZ (fs:List (Str×D))(x:Str)(d:D):idle (fs++[(x,d)])=idle fs++(if eqD d (.str x)=true then []else [(x,d)]):=by
 unfold idle;rw[List.filter_append];congr 1;cases e:eqD d (.str x)with
 | true=>rw[ai rfl,List.filter_cons_of_neg (by simp[e]),List.filter_nil]
 | false=>rw[ab ad,List.filter_cons_of_pos (by simp[e]),List.filter_nil]
def OY:∀p∈idle fs,∃q∈fs,q.1=p.1:=λp c=>⟨p,(db.mp c).1,rfl⟩
def RW (F:fV K "without_idle" "without_idle" eX f fd)(T:Txt mg):cH P w K mg base bU 1 f fd nS F3:=by
 refine F.ok uQ (λvs H Q E h=>?_) (λcdv A outer s H vs Q E W h=>?_)
 ·obtain⟨a,fs,c,rfl,_⟩:=h;rfl
 ·obtain⟨a,fs,c,rfl,R,rep,nd,dp,l20,q⟩:=h;have U:=W.units;refine⟨_,(aG (aL (BS (mK rfl (bN.by (N:=nV) (names:=(aH eX).names) (N':=["wish","term"]) (src:=[none,none]) (by decide +kernel) rfl rfl) (oG (pv 0)) (λ_ _ _ _=>(cT K rfl (i:=0) (j:=1) rfl (dL ["wish","term"]) rfl rfl rfl rfl)) (λ_ _ _ _=>(mI (aR (eZ U) (pv 1) (pv 0)))) (λ_ _ _ _=>(pv 0)) (λ_ _ _ _=>(pv 1)))))),?_⟩
  try dsimp only[cxOf,Cx.nox]
  clear W F T U;refine⟨_,rfl,a,c,rfl,R,λo=>?_⟩;have nt:∀xs,H a≠some (.tup xs):=λxs z=>by rw[R]at z;cases z
  have nl:∀xs,H a≠some (.lst xs):=λxs z=>by rw[R]at z;cases z
  have kl:=pM rep;refine lW (P:=P) (w:=w) (YN P w a o c fs H) ⟨_,_,rfl,bO.upd _ _ _,ec,.nil,aw _⟩ (λi g S H' ⟨_,_,_,_,e,_⟩=>e) ?_ ?_
  ·rintro i k v O g S t hk ⟨o0,o1,rfl,bt,l,ra,la⟩ hT;obtain⟨x,d,L,rfl,Z⟩:=CF rep hk;have il:=(cs.mp L).1;have B:aF t (upd t O (.tup [kV (Sum.inr x),v])):=aF.upd hT;have X:upd t O (.tup [kV (Sum.inr x),v]) O=some (.tup [kV (Sum.inr x),v]):=ec;generalize upd t O (.tup [kV (Sum.inr x),v])=H2 at B X⊢;refine⟨O,_,rfl,iF.of X,rfl,_,_,rfl,_,_,rfl,rfl,?_⟩;have r:bO a H H2:=bt.trans B.but;have C:=aY.but r nt nl Z;refine⟨_,rfl,_,rfl,d,.str x,C,rfl,ao (dp _ (bj L)) ad,_,rfl,ite_on (λk=>?_) λk=>?_⟩
   ·have e:eqD d (.str x)=false:=by simpa using k
    have I:=zZ (fs.take i) x d;rw[←ee L,e,ab ad]at I;have new:=CC nd L OY ra;refine⟨_,rfl,_,rfl,Sum.inr x,rfl,aj (m:=40) dk ad,_,_,rfl,r,B _ _ l,?_,?_⟩
    ·rw[putK_new new,I,CG];exact sV (ra.same B) C
    ·rw[putK_new new,au,cm]
     lia
   ·have e:eqD d (.str x)=true:=by simpa using k
    have I:=zZ (fs.take i) x d;rw[←ee L,e,ai rfl,bp]at I;exact⟨_,_,rfl,r,B _ _ l,by rw[I];exact ra.same B,dk⟩
  ·rintro g S t ⟨o0,o1,rfl,bt,l,ra,la⟩ p J;rw[kl,bw]at ra;have G:a≠p:=aD l J;refine⟨_,.inr ⟨a,o,c,by rw[aC G];exact l,rfl⟩,?_⟩;have Y:aF H (upd (upd t p (.dK g)) a (.dK c)):=LA R (bt.trans (bO.new J));refine q p g _ Y ?_ (by rw[aC G.symm];exact ec) ?_
   ·cases z:H p with
    | none=>rfl
    | some u =>
     by_cases e:p=a
     ·exact absurd e.symm G
     ·rw[bt p u e z]at J;cases J
   ·refine cG.but (p:=a) (H:=upd t p (.dK g)) (bO.upd _ _ _) (λxs z=>?_) (λxs z=>?_) (ra.same (aF.upd J))
    ·rw[aC G,l]at z;cases z
    ·rw[aC G,l]at z;cases z
noncomputable def flatF (sm:cC)(fs:List (Str×D)):List (Str×D):=fs.map λp=>(p.1,flt sm p.2)
noncomputable def look (sm:cC)(fs:List (Str×D)):List (Str×D):=idle (flatF sm fs)
def qD (K:dq)(C Pt:Addr):Sp:=λvs H Q _=>∃(g a:Addr) (fx:cU) (sm:cC) (os:aV) (fs:List (Str×D)) (kvs:List (cR×V)),vs=[.ref g,.ref a]/\iG K C fx sm (del H a) g/\H a=some (.dK kvs)/\cG H (kd fs) kvs/\X2 fx sm os fs/\LT Pt H /\
 ∀(l:Addr) (kvs':List (cR×V)) (H':Hp),bO Pt H H'->LT Pt H'->H l=none->H' l=some (.dK kvs')->cG H' (kd (look sm fs)) kvs'->Q (.ref l) H'
def P5 (a b:Addr)(H H':Hp):Prop:=∀c o,c≠a->c≠b->H c=some o->H' c=some o
structure YI (P:dw)(w:dy)(g a Pt:Addr)(o:Obj)(kvs:List (cR×V))(fs:List (Str×D))(sm:cC)(H:Hp)(i:Nat)(acc:List (cR×V))(σ:St)(H':Hp):Prop where
 st:∃o0 o1:Option V,σ=[o0,o1,some (.ref g)]
 bt:P5 a Pt H H'
 wd:H' a=some (wD P w a o kvs)
 lt:LT Pt H'
 ra:cG H' (kd (flatF sm (fs.take i))) acc
 la:acc.length<=i
def LT.butD (h:LT Pt H)(b:bO a H H')(e:H a=some (.dK kvs)):LT Pt H':=by
 rcases h with h|⟨m,d,c,j,i,g,l⟩
 ·exact .inl (b _ _ (λz=>by rw[z,e]at h;cases h) h)
 ·exact .inr ⟨m,d,c,j,b _ _ (λz=>by rw[z,e]at i;cases i) i,b _ _ (λz=>by rw[z,e]at g;cases g) g,l⟩
def LP (hd:ob.data = .fields vs):∃h:Heap,h.get? a=some ob:=by refine⟨⟨Array.replicate (a+1) ob,{}⟩,?_⟩;obtain⟨c,d,g,e⟩:=ob;cases hd;unfold Heap.get?;simp
def LT.butW (h:LT Pt H)(b:bO a H H')(e:H a=some (wD P w a o kvs)):LT Pt H':=by
 rcases h with h|⟨t,i,d,q,l,c,j,s⟩
 ·exact .inl (b _ _ (λz=>by rw[z,e]at h;cases h) h)
 ·refine .inr ⟨t,i,d,q,b _ _ (λz=>by rw[z,e]at l;cases l) l,b _ _ (λz=>?_) c,j,s⟩;rw[z,e]at c;injection c with c;unfold wD at c;injection c with c;obtain⟨r,g⟩:=LP (a:=a) j;obtain⟨v,_,_,_,_,u,x,A,p,_,m,_⟩:=(congrFun c r).mpr g;rw[g]at p;cases p;rw[j]at m;cases m
def LT.krep (h:LT Pt H)(b:bO Pt H H')(r:cG H ds kvs):cG H' ds kvs:=Paired.mapP r λ_ _ z=>⟨z.1,h.rep b z.2⟩
def BI (t:P5 a b H H')(n1:∀xs,H a≠some (.tup xs)/\H a≠some (.lst xs))(n2:∀xs,H b≠some (.tup xs)/\H b≠some (.lst xs))(r:aY H d v):aY H' d v:=by have g:aY (del H a) d v:=aY.but (p:=a) (H:=H) (λc o n e=>dB e n) (λxs=>(n1 xs).1) (λxs=>(n1 xs).2) r;refine aY.but (p:=b) (H:=del H a) (λc o n e=>?_) (λxs z=>(n2 xs).1 (dR z).1) (λxs z=>(n2 xs).2 (dR z).1) g;obtain⟨i,h⟩:=dR e;exact t c o h n i
def HV (sm:cC)(fs:List (Str×D))(x:Str)(d:D):flatF sm (fs++[(x,d)])=flatF sm fs++[(x,flt sm d)]:=az ..
def LX:∀p∈flatF sm fs,∃q∈fs,q.1=p.1:=λp d=>by obtain⟨q,c,rfl⟩:=cy.mp d;exact⟨q,c,rfl⟩
def pP (sm:cC)(fs:List (Str×D)):(flatF sm fs).map (·.1)=fs.map (·.1):=by unfold flatF;rw[cp];rfl
def K2 (F:fV K "looked_over" "looked_over" fP f fd)(T:Txt mg)(t:dS P w K mg base bU 5 "check_filling" (DR K C))(J:dS P w K mg base bU 9 "put_in" (qA K C Pt))(B:dS P w K mg base bU 1 "without_idle" F3):cH P w K mg base bU 10 f fd oU (qD K C Pt):=by
 refine F.ok wA (λvs H Q E h=>?_) (λcdv A outer s H vs Q E Z h=>?_)
 ·obtain⟨g,a,fx,sm,os,fs,I,rfl,_⟩:=h;rfl
 ·obtain⟨g,a,fx,sm,os,fs,I,rfl,sg,ha,rep,O,lt,q⟩:=h;have hu:=Z.units
  refine⟨_,(aE (cW (aU t Z (aA (pv 0) (aA (pv 1) aB))))
   (aG (aL (aU B Z (aA (BS (mK rfl (bN.by (N:=kX) (names:=(aH fP).names) (N':=["wish","term","signs"]) (src:=[none,none,some 0]) (by decide +kernel) rfl rfl) (oG (pv 1)) (λ_ _ _ _=>(cT K rfl (i:=0) (j:=1) rfl (dL ["wish","term","signs"]) rfl rfl rfl rfl)) (λ_ _ _ _=>dW) (λ_ _ _ _=>(pv 0)) (λ_ _ _ _=>(aU J Z (aA (pv 2) (@qS _ _ _ _ (aA (pv 1) aB))))))) aB))))),?_⟩
  try dsimp only[cxOf,Cx.nox]
  clear Z F T hu t J B;refine⟨_,rfl,_,rfl,g,a,fx,sm,os,fs,I,rfl,sg,ha,rep,O,λH1 s1=>?_⟩;have sg1:=sg.same (lT s1);have L:=s1 _ _ ha;have rep1:=rep.same s1;have W:=lt.same s1;refine⟨_,rfl,a,I,rfl,L,λo=>?_⟩;have nt:∀xs,H1 a≠some (.tup xs)/\H1 a≠some (.lst xs):=λxs=>⟨λz=>(by rw[L]at z;cases z),λz=>(by rw[L]at z;cases z)⟩
  obtain⟨ps,eP⟩:=W.tbl;have nP:∀xs,H1 Pt≠some (.tup xs)/\H1 Pt≠some (.lst xs):=λxs=>⟨λz=>(by rw[eP]at z;cases z),λz=>(by rw[eP]at z;cases z)⟩
  have naP:a≠Pt:=W.ne L λ_=>by simp
  have kl:=pM rep;have l20:=O.ln;refine lW (P:=P) (w:=w) (YI P w g a Pt o I fs sm H1) ⟨⟨_,_,rfl⟩,λc u n _ e=>by rw[aC n];exact e,ec,W.butD (bO.upd _ _ _) L,.nil,aw _⟩ (λi G σ H' h=>h.wd) ?_ ?_
  ·rintro i k v T0 G σ R hk ⟨⟨o0,o1,rfl⟩,bt,h2,U,ra,la⟩ hT;obtain⟨x,d,hf,rfl,rd⟩:=CF rep1 hk;have il:=(cs.mp hf).1;have X:W9 fx sm os d:=(O.ok _ (bj hf)).2;have sT:aF R (upd R T0 (.tup [kV (Sum.inr x),v])):=aF.upd hT;have gT:upd R T0 (.tup [kV (Sum.inr x),v]) T0=some (.tup [kV (Sum.inr x),v]):=ec;generalize upd R T0 (.tup [kV (Sum.inr x),v])=H3 at sT gT⊢;refine⟨T0,_,rfl,iF.of gT,rfl,_,_,rfl,_,_,rfl,rfl,?_⟩;refine⟨_,rfl,_,rfl,λe he=>?_⟩;have S:=sT.trans (aF.upd (o:=.dK []) he);have g4:upd H3 e (.dK []) e=some (.dK []):=ec;generalize upd H3 e (.dK [])=H4 at S g4⊢;have bt4:P5 a Pt H1 H4:=λc u n1 n2 z=>S _ _ (bt c u n1 n2 z);have rd4:aY H4 d v:=BI bt4 nt nP rd;have sg4:iG K C fx sm H4 g:=by refine((W.butD (λc u n z=>dB z n) L).sg (H':=del H4 a) (λc u n z=>?_) sg1).same (g9 _ _);obtain⟨z1,z2⟩:=dR z;exact dB (bt4 c u z2 n z1) z2
   have tmO:=hZ X.so X.ho X.tm;have l50:lvs d<=300:=X.lv;refine⟨_,rfl,e,g,fx,sm,D.str,[],d,v,rfl,g4,ph0,pb0 ad,sg4,rd4,tmO.1,cL X.so,by have:=tmO.2;lia,X.nd,X.dp,U.same S,λv' H5 b5 lt5 r5=>?_⟩;rw[HU X.tm]at r5;have new:=CC O.nd hf LX ra;have hs:=HV sm (fs.take i) x d;rw[←ee hf]at hs;refine⟨Sum.inr x,rfl,aj (m:=20) dk ad,⟨_,_,rfl⟩,λc u n1 n2 z=>b5 c u n2 (bt4 c u n1 n2 z),b5 _ _ naP (S _ _ h2),lt5,?_,?_⟩
   ·rw[putK_new new,hs,CG];exact sV ((U.same S).krep b5 (ra.same S)) r5
   ·rw[putK_new new,au,cm]
    lia
  ·rintro G σ R ⟨⟨o0,o1,rfl⟩,bt,h2,U,ra,la⟩ p hp;rw[kl,bw]at ra;have np:a≠p:=aD h2 hp;refine⟨_,.inr ⟨a,o,I,by rw[aC np];exact h2,rfl⟩,?_⟩;have hpn:upd (upd R p (.dK G)) a (.dK I) p=some (.dK G):=by rw[aC np.symm];exact ec
   have b3:bO Pt H1 (upd (upd R p (.dK G)) a (.dK I)):=λc u n z=>by
    by_cases e:c=a
    ·rw[e,ec,←L,←e];exact z
    ·rw[aC e];exact aF.upd hp _ _ (bt c u e n z)
   have Y:LT Pt (upd (upd R p (.dK G)) a (.dK I)):=by have l2:=U.same (aF.upd (o:=.dK G) hp);exact l2.butW (bO.upd _ _ _) (by rw[aC np];exact h2)
   have ra3:cG (upd (upd R p (.dK G)) a (.dK I)) (kd (flatF sm fs)) G:=by
    refine cG.but (p:=a) (H:=upd R p (.dK G)) (bO.upd _ _ _) (λxs z=>?_) (λxs z=>?_) (ra.same (aF.upd hp))
    ·rw[aC np,h2]at z;cases z
    ·rw[aC np,h2]at z;cases z
   generalize upd (upd R p (.dK G)) a (.dK I)=H3 at hpn b3 Y ra3⊢;refine⟨p,flatF sm fs,G,rfl,hpn,ra3,by rw[pP];exact O.nd,λr Z=>?_,by unfold flatF;rw[ae];lia,λl kvs' H4 S hl gl r4=>?_⟩
   ·obtain⟨r',hr',rfl⟩:=cy.mp Z;have:=rE sm r'.2;have:=(O.ok r' hr').2.dp;show depD (flt sm r'.2)<=50
    lia
   ·refine q l kvs' H4 (λc u n z=>S _ _ (b3 c u n (s1 _ _ z))) (Y.same S) ?_ gl r4;cases z:H l with
    | none=>rfl
    | some u =>
     by_cases e:l=Pt
     ·obtain⟨ps',e'⟩:=Y.tbl;rw[e,e']at hl;cases hl
     ·rw[b3 l u e (s1 _ _ z)]at hl;cases hl
noncomputable def nsm (sm:cC):cC:=sm.filter λr=>decide (r.2≠("" : Str))
def N9 (sm:cC)(r:Str×Str):nsm (sm++[r])=nsm sm++(if r.2=("" : Str)then []else [r]):=by
 unfold nsm;rw[List.filter_append];congr 1;by_cases e:r.2=("" : Str)
 ·rw[ai e,List.filter_cons_of_neg (by simp[e]),List.filter_nil]
 ·rw[ab e,List.filter_cons_of_pos (by simp[e]),List.filter_nil]
def KB (k:(!eqD (.str x) (.str y))=false):x=y:=by
 have e:eqD (.str x) (.str y)=decide (x=y):=by show(x == y)=_;rw[cg];simp
 rw[e]at k
 simpa using k
def R5 (k:eqD (.lst ds) (.lst [])=false):ds≠[]:=λz=>by rw[z,dQ]at k;cases k
def MY:Sp:=λvs H Q _=>∃(p t o:Addr) (fx:cU) (sm:cC) (os:aV) (x:Str),vs=[.ref p,.ref t,.str x]/\nQ p t o fx sm os H/\x∈os /\
 ∀(d:D) (v:V) (H':Hp),bO p H H'->bH H' p->aY (nw H H') d v->aS fx sm os d->lvs d<=7->depD d<=8->Q v H'
def YF (sm:cC)(H:Hp)(i:Nat)(c:List V)(e:St)(d:Hp):Prop:=∃g o1:Option V,e=[g,o1]/\aF H d/\d8 d (nsm (sm.take i)) c/\c.length<=i
def zE:∀{c:cC} {hv:List V},d8 H c hv->Reps H (c.map λr=>D.tup [.str r.1,.str r.2]) hv
 | [],_,e=>e
 | r::_,_,⟨t,us,e,h,q⟩=>⟨.ref t,us,e,⟨t,_,rfl,h,_,_,rfl,rfl,_,_,rfl,rfl,rfl⟩,zE q⟩
def FA:∀c:cC,depDs (c.map λr=>D.tup [.str r.1,.str r.2])<=1
 | []=>aw _
 | r::c=>by
  have d:=FA c;rw[bf,depDs];show max 1 _<=1
  lia
def wK (b:bO p H H')(c:H p≠none->H' p≠none)(e:H' a=none):H a=none:=by
 cases z:H a with
 | none=>rfl
 | some u =>
  by_cases n:a=p
  ·exact absurd (n ▸ e) (c (n ▸ z ▸ by simp))
  ·rw[b a u n z]at e;cases e
def RO (F:fV K "_law_own" "_law_own" jI f fd)(T:Txt mg)(c:dS P w K mg base bU 1 "_law_take" iB):cH P w K mg base bU 2 f fd xX MY:=by
 refine F.ok jX (λvs H Q E h=>?_) (λcdv A outer s H vs Q E C h=>?_)
 ·obtain⟨p,t,o,fx,sm,os,x,rfl,_⟩:=h;rfl
 ·obtain⟨p,t,o,fx,sm,os,x,rfl,hin,hx,q⟩:=h;have R:=C.units
  refine⟨_,(aE (jA (i:=3) jX.nd rfl rfl rfl rfl (bN.by (N:=pT) (names:=(aH jI).names) (N':=["_law_name","_law_nought"]) (src:=[none,none]) (by decide +kernel) rfl rfl) (dF K rfl (cA dM (pv 1) aJ (λ_ _=>rfl))) (λ_ _ _ _=>(cT K rfl (i:=0) (j:=1) rfl (dL ["_law_name","_law_nought"]) rfl rfl rfl rfl)) (λ_ _ _ _=>(mI (aR (eZ R) (pv 1) iE))) (λ_ _ _ _=>(fM (aA (pv 0) (aA (pv 1) aB)))))
   (aE (bP 4 jX.nd (aU c C (aA (pv 0) (aA aJ aB))))
   (aE (bQ (PW.pt (jJ (aR (eF R) (pv 3) (cQ aB)) (iD (aR (eF R) (pv 4) aJ)))) (aG (aL (pv 2))) aO)
   (aE (sI (cA dM (pv 3) (aU c C (aA (pv 0) (aA (aZ bV T.n_len (aA (pv 3) aB)) aB))) (λ_ _=>rfl)) (cT K rfl (i:=5) (j:=6) rfl jX.nd rfl rfl rfl rfl))
   (aE (bQ (aR (eF R) (pv 4) aJ) (aG (aL (fM (aA (pv 5) (aA (pv 6) (aA (pv 2) aB)))))) aO)
   (aG (aL (cQ (aA (pv 5) (aA (pv 2) (aA (cQ (aA (pv 5) (aA (pv 6) (aA (pv 6) aB)))) aB))))))))))),?_⟩
  try dsimp only[cxOf,Cx.nox]
  clear C F T R c;obtain⟨hp,⟨a,b,fv,sv,ht,ha,hb,rf,rs,nap,nbp⟩,ol,so,o1,o2⟩:=hin;have s3:=so.s2;simp only[tComp_fn];refine⟨_,rfl,.ref b,by rw[ixV_t ht];rfl,b,sv,rfl,.inl hb,λJ hJ=>?_⟩;refine dC hJ (YF sm H) ⟨_,_,rfl,aF.refl _,rfl,aw _⟩ (λi d σ H' _ ⟨_,_,_,s',_⟩=>by rw[hb];exact s' _ _ hb) ?_ ?_
  ·rintro i v d σ H1 hv ⟨o0,o1',rfl,W,ra,la⟩;obtain⟨r,tr,C,rfl,X⟩:=d8.get rs hv;have htr1:=W _ _ X;have il:=(cs.mp C).1;have hs:=N9 (sm.take i) r;rw[←ee C]at hs;refine⟨tr,_,rfl,iF.of htr1,rfl,_,_,rfl,_,_,rfl,rfl,?_⟩;refine⟨_,rfl,.str r.2,.str "",rfl,rfl,aw _,_,rfl,ite_on (λk=>?_) λk=>?_⟩
   ·have e:¬r.2=("" : Str):=λz=>by rw[z]at k;exact absurd k (by decide +kernel)
    rw[ab e]at hs;refine⟨_,rfl,_,rfl,show 2<=sizeLine by decide,λn hn=>⟨aj (m:=3) dk ad,_,_,rfl,W.trans (aF.upd hn),?_,by rw[au,cm];lia⟩⟩;rw[hs];exact d8.snoc ec (ra.same (bK.of (aF.upd hn)))
   ·have e:r.2=("" : Str):=KB k;rw[ai e,bp]at hs;exact⟨_,_,rfl,W,by rw[hs];exact ra,dk⟩
  ·rintro d σ H1 ⟨o0,o1',rfl,W,ra,la⟩ l hl;have lsv:=d8.len rs;rw[lsv,bw]at ra;have s2:aF H (upd H1 l (.lst d)):=W.trans (aF.upd hl);have l2:upd H1 l (.lst d) l=some (.lst d):=ec;have r2:=ra.same (bK.of (aF.upd (o:=.lst d) hl));have hlH:H l=none:=W.free hl;have la3:d.length<=3:=by lia
   generalize upd H1 l (.lst d)=H2 at s2 l2 r2⊢;clear ra la W hl;have hp2:bH H2 p:=by obtain⟨O,L,e⟩:=hp;exact⟨O,L,s2 _ _ e⟩
   have nlp:l≠p:=λz=>by obtain⟨O,L,e⟩:=hp;rw[←z,hlH]at e;cases e
   refine⟨_,rfl,p,3,rfl,hp2,ad,ad,λway O L w0 w3=>?_⟩;have b3:bO p H (upd H2 p (.lst [.int O,.int L])):=s2.but.trans (bO.upd _ _ _);have p3:bH (upd H2 p (.lst [.int O,.int L])) p:=⟨_,_,ec⟩
   have l3:upd H2 p (.lst [.int O,.int L]) l=some (.lst d):=by rw[aC nlp];exact l2
   have r3:=r2.same (bK.ofBut (bO.upd p H2 (.lst [.int O,.int L])) hp2);generalize upd H2 p (.lst [.int O,.int L])=H3 at b3 p3 l3 r3⊢;have ret:∀g,aF H3 g->Q (.str x) g:=λg B=>q (.str x) (.str x) g (b3.trans B.but) (by obtain⟨U,S,e⟩:=p3;exact⟨U,S,B _ _ e⟩) rfl (by unfold aS;exact .inl hx) (by rw[lvs] <;> simp) (aw _);refine⟨_,rfl,aw _,λu R=>?_⟩;have B:aF H3 (upd H3 u (.lst [])):=aF.upd R;have u4:upd H3 u (.lst []) u=some (.lst []):=ec;have l4:=B _ _ l3;have r4:=r3.same (bK.of B);have p4:bH (upd H3 u (.lst [])) p:=p3.but (p3.ne R);have b4:=b3.trans (B.but (p:=p));generalize upd H3 u (.lst [])=g at B u4 l4 r4 p4 b4⊢;refine⟨.lst ((nsm sm).map λr=>D.tup [.str r.1,.str r.2]),.lst [],⟨l,d,rfl,l4,zE r4⟩,⟨u,[],rfl,u4,rfl⟩,?_,_,rfl,ite_on (λk=>⟨_,rfl,ret g B⟩) λk=>?_⟩
   ·have:=FA (nsm sm);rw[depD]
    lia
   refine⟨_,rfl,.int way,.int 0,rfl,rfl,aw _,_,rfl,ite_on (λk2=>⟨_,rfl,ret g B⟩) λk2=>?_⟩;have ne0:nsm sm≠[]:=λz=>R5 k (by rw[z];rfl);have lacc:d.length=(nsm sm).length:=d8.len r4;have pos:0<d.length:=by rw[lacc];exact List.length_pos_iff.mpr ne0
   clear r3 l3 p3 b3 B;refine⟨_,rfl,_,rfl,_,rfl,_,_,rfl,by show(Option.map _ ((lenV g (.ref l)).bind _))=_;rw[lenV_l l4];rfl,p,d.length,rfl,p4,dk,dk,λj U S j0 j1=>?_⟩;have hj:j.toNat<d.length:=by lia
   have b5:bO p H (upd g p (.lst [.int U,.int S])):=b4.trans (bO.upd _ _ _);have Z:bH (upd g p (.lst [.int U,.int S])) p:=⟨_,_,ec⟩
   have l5:upd g p (.lst [.int U,.int S]) l=some (.lst d):=by rw[aC nlp];exact l4
   have r5:=r4.same (bK.ofBut (bO.upd p g (.lst [.int U,.int S])) p4);generalize upd g p (.lst [.int U,.int S])=H5 at b5 Z l5 r5⊢;obtain⟨r,tr,C,er,X⟩:=d8.get r5 (ay hj);refine⟨d[j.toNat],by rw[ixV_l l5,kT j0 j1,ay hj],?_⟩;rw[er];refine⟨tr,_,rfl,iF.of X,rfl,_,_,rfl,_,_,rfl,rfl,?_⟩;have rm:=db.mp (bj C);have hz:r.2∈zeros fx:=so.nought r rm.1 (bu rm.2);have hn:r.1∈sm.map (·.1):=List.mem_map_of_mem rm.1;have dn:∀{a:Addr},H5 a=none->H a=none:=λ{a} e=>wK b5 (λ_=>by obtain⟨x3,y3,e3⟩:=Z;rw[e3];simp) e;refine⟨_,rfl,.int way,.int 1,rfl,rfl,aw _,_,rfl,ite_on (λk3=>?_) λk3=>?_⟩
   ·refine⟨_,rfl,_,rfl,_,rfl,show 3<=sizeLine by decide,λn Y=>?_⟩;refine q (.tup [.str r.1,.str r.2,.str x]) (.ref n) _ (b5.trans (bO.new Y)) (Z.but (Z.ne Y)) ⟨n,_,rfl,dJ.mpr ⟨dn Y,ec⟩,_,_,rfl,rfl,_,_,rfl,rfl,_,_,rfl,rfl,rfl⟩ ?_ (by simp[lvs,lvss]) (by simp[depD,depDs]);unfold aS IsTms IsTms IsTms aS;exact⟨.inr ⟨dl,hn⟩,.inr hz,.inl hx,trivial⟩
   ·refine⟨_,rfl,_,rfl,_,rfl,_,rfl,_,rfl,show 3<=sizeLine by decide,λn1 I=>⟨show 3<=sizeLine by decide,λn2 G=>?_⟩⟩;have e1:upd H5 n1 (.lst [.str r.1,.str r.2,.str r.2]) n1=some (.lst [.str r.1,.str r.2,.str r.2]):=ec;have p6:=Z.but (o:=.lst [.str r.1,.str r.2,.str r.2]) (Z.ne I);refine q (.lst [.str r.1,.str x,.lst [.str r.1,.str r.2,.str r.2]]) (.ref n2) _ ((b5.trans (bO.new I)).trans (bO.new G)) (p6.but (p6.ne G)) ⟨n2,_,rfl,dJ.mpr ⟨dn (aF.free (aF.upd I) G),ec⟩,_,_,rfl,rfl,_,_,rfl,rfl,.ref n1,_,rfl,⟨n1,_,rfl,dJ.mpr ⟨dn I,?_⟩,_,_,rfl,rfl,_,_,rfl,rfl,_,_,rfl,rfl,rfl⟩,rfl⟩ ?_ (by simp[lvs,lvss]) (by simp[depD,depDs])
    ·rw[aC (aD e1 G)];exact e1
    ·unfold aS IsTms IsTms IsTms aS IsTms IsTms IsTms aS;exact⟨.inr ⟨dl,hn⟩,.inl hx,⟨.inr ⟨dl,hn⟩,.inr hz,.inr hz,trivial⟩,trivial⟩
noncomputable def putF (fs:List (Str×D))(x:Str)(d:D):List (Str×D):=if fs.any (λp=>decide (p.1=x))then fs.map (λp=>if p.1=x then(p.1,d)else p)else fs++[(x,d)]
def wV (r:aY H d v):∀{fs:List (Str×D)} {g:List (cR×V)},cG H (kd fs) g->cG H (kd (putF fs x d)) (putK g (Sum.inr x) v):=by
 intro fs g h;have o:(g.any λkv=>decide (kv.1=Sum.inr x))=fs.any (λp=>decide (p.1=x)):=by
  unfold cG kd at h;generalize i:(fs.map λp=>((Sum.inr p.1:cR),p.2))=m at h
  induction h generalizing fs with
  | nil =>
   cases fs with
   | nil=>rfl
   | cons a l=>cases i
  | cons a _ j =>
   cases fs with
   | nil=>cases i
   | cons b l =>
    cases i;rw[List.any_cons,List.any_cons,j rfl,←a.1];congr 1;by_cases e:b.1=x
    ·rw[bi e,bi (show(Sum.inr b.1:cR)=Sum.inr x from congrArg Sum.inr e)]
    ·rw[bo e,bo λz=>e (Sum.inr.inj z)]
 unfold putK putF;rw[o];by_cases c:fs.any (λp=>decide (p.1=x))=true
 ·rw[ai c,ai c];clear o c;unfold cG kd at *;generalize i:(fs.map λp=>((Sum.inr p.1:cR),p.2))=m at h
  induction h generalizing fs with
  | nil =>
   cases fs with
   | nil=>exact .nil
   | cons a l=>cases i
  | @cons p q ps qs a _ j =>
   cases fs with
   | nil=>cases i
   | cons b l =>
    cases i;rw[bf,bf,bf];refine .cons ?_ (j rfl);by_cases e:b.1=x
    ·rw[ai e,ai (a.1.symm.trans (congrArg Sum.inr e))];exact⟨a.1,r⟩
    ·rw[ab e,ab (λz=>e (Sum.inr.inj (a.1.trans z)))];exact a
 ·rw[ab c,ab c,CG];exact Paired.snoc h ⟨rfl,r⟩
def lQ (nd:(fs.map (·.1)).Nodup):((putF fs x d).map (·.1)).Nodup/\(putF fs x d).length<=fs.length+1/\∀p∈putF fs x d,p∈fs\/p=(x,d):=by
 unfold putF;by_cases c:fs.any (λp=>decide (p.1=x))=true
 ·rw[ai c];refine⟨?_,by rw[ae];lia,λp i=>?_⟩
  ·rw[cp];have e:((λx:Str×D=>x.1) ∘ λp=>if p.1=x then(p.1,d)else p)=λp:Str×D=>p.1:=by funext p;show(if p.1=x then(p.1,d)else p).1=p.1;split <;> rfl
   rw[e];exact nd
  ·obtain⟨q,g,rfl⟩:=cy.mp i;by_cases e:q.1=x
   ·rw[ai e,e];exact .inr rfl
   ·rw[ab e];exact .inl g
 ·rw[ab c];refine⟨?_,by rw[au];exact ac _,λp i=>?_⟩
  ·rw[az];refine List.nodup_append.mpr ⟨nd,da.mpr ⟨dl,List.nodup_nil⟩,λa j b hb z=>c ?_⟩;rw[List.map_singleton,cu]at hb;obtain⟨q,g,e⟩:=cy.mp j;exact List.any_eq_true.mpr ⟨q,g,bi (by rw[e,z,hb])⟩
  ·exact(cx.mp i).imp id λh=>cu.mp h
def fT (b e:Nat)(c:cU)(sm:cC)(os:aV)(fs:List (Str×D)):Prop:=∀p∈fs,p.1∈os/\aS c sm os p.2/\lvs p.2<=b/\depD p.2<=e
def zA:Sp:=λvs H Q _=>∃(p t o:Addr) (fx:cU) (sm:cC) (os:aV),vs=[.ref p,.ref t,.ref o]/\nQ p t o fx sm os H /\
 ∀(l:Addr) (fs:List (Str×D)) (kvs:List (cR×V)) (H':Hp),bO p H H'->bH H' p->H l=none->H' l=some (.dK kvs)->cG (nwB l H H') (kd fs) kvs->(fs.map (·.1)).Nodup->fs.length<=12->fT 7 8 fx sm os fs->Q (.ref l) H'
def X8 (p t o l:Addr)(e:cU)(sm:cC)(os:aV)(H:Hp)(i:Nat)(d:St)(c:Hp):Prop:=∃(fs:List (Str×D)) (kvs:List (cR×V)) (o5 o6:Option V),d=[some (.ref p),some (.ref t),some (.ref o),some (.ref l),o5,o6]/\bO p H c/\bH c p/\c l=some (.dK kvs)/\cG (nwB l H c) (kd fs) kvs/\(fs.map (·.1)).Nodup/\fs.length<=i/\fT 7 8 e sm os fs
def GN (F:fV K "_law_filling" "_law_filling" gU f fd)(T:Txt mg)(c:dS P w K mg base bU 1 "_law_take" iB)(B:dS P w K mg base bU 2 "_law_own" MY)(g:dS P w K mg base bU 15 "_law_term" (pF 11)):cH P w K mg base bU 16 f fd nU zA:=by
 refine F.ok fY (λvs H Q E h=>?_) (λcdv A outer s H vs Q E J h=>?_)
 ·obtain⟨p,t,o,fx,sm,os,rfl,_⟩:=h;rfl
 ·obtain⟨p,t,o,fx,sm,os,rfl,I,q⟩:=h;have hu:=J.units
  refine⟨_,(aE (bP 3 fY.nd qR)
   (aE (eT dj rfl (fI rfl T.n_range (aA (aU c J (aA (pv 0) (aA aJ aB))) aB)) (h8 4 fY.nd) (aE (bP 5 fY.nd (cA dM (pv 2) (aU c J (aA (pv 0) (aA (aZ bV T.n_len (aA (pv 2) aB)) aB))) (λ_ _=>rfl)))
   (aG (bQ (aR (eF hu) (aU c J (aA (pv 0) (aA aJ aB))) aJ) (aG (BL (aj (ca ad _) hu) (pv 3) (pv 5) (aU B J (aA (pv 0) (aA (pv 1) (aA (pv 5) aB)))) rfl)) (aG (BL (aj (ca ad _) hu) (pv 3) (pv 5) (aU g J (aA (pv 0) (aA (pv 1) (aA (pv 2) (aA (bW bZ aJ (aU c J (aA (pv 0) (aA aJ aB)))) (aA aJ aB)))))) rfl))))))
   (aG (aL (pv 3))))),?_⟩
  try dsimp only[cxOf,Cx.nox]
  clear J F T hu c B g;simp only[tFor_fn];refine λl hl=>?_;have G:l≠p:=λz=>by obtain⟨x1,y1,e⟩:=I.1;rw[←z,hl]at e;cases e
  have Y:H p≠none:=λz=>by obtain⟨x1,y1,e⟩:=I.1;rw[z]at e;cases e
  have b1:bO p H (upd H l (.dK [])):=bO.new hl;have p1:bH (upd H l (.dK [])) p:=I.1.but G.symm;have l1:upd H l (.dK []) l=some (.dK []):=ec;generalize upd H l (.dK [])=H1 at b1 p1 l1⊢;refine⟨_,rfl,p,9,rfl,p1,ad,ad,λmany x1 y1 m0 m1=>?_⟩;have b2:bO p H (upd H1 p (.lst [.int x1,.int y1])):=b1.trans (bO.upd _ _ _);have p2:bH (upd H1 p (.lst [.int x1,.int y1])) p:=⟨_,_,ec⟩
  have l2:upd H1 p (.lst [.int x1,.int y1]) l=some (.dK []):=by rw[aC G];exact l1
  generalize upd H1 p (.lst [.int x1,.int y1])=H2 at b2 p2 l2⊢;clear b1 p1 l1;have c2:many<2 ^ 62:=by lia
  refine⟨many,rfl,dk,c2,?_⟩;refine gF (X8 p t o l fx sm os H) ⟨[],[],_,_,rfl,b2,p2,l2,.nil,List.nodup_nil,aw _,λr J=>nomatch J⟩ ?_ ?_
  ·rintro i σ R hi ⟨fs,C,o5,o6,rfl,b3,p3,l3,rep,nd,ln,W⟩;clear b2 p2 l2;obtain⟨_,tl3,O,so,os1,os2⟩:=I.but b3 p3;have i12:i<9:=by lia
   refine⟨_,rfl,_,rfl,_,rfl,_,_,rfl,by show(Option.map _ ((lenV R (.ref o)).bind _))=_;rw[lenV_l O.1,ae];rfl,p,os.length,rfl,p3,dk,dk,λj x3 y3 j0 j1=>?_⟩;have hj:j.toNat<os.length:=by lia
   have hx:os[j.toNat]∈os:=List.getElem_mem hj;have b4:bO p H (upd R p (.lst [.int x3,.int y3])):=b3.trans (bO.upd _ _ _);have p4:bH (upd R p (.lst [.int x3,.int y3])) p:=⟨_,_,ec⟩
   have l4:upd R p (.lst [.int x3,.int y3]) l=some (.dK C):=by rw[aC G];exact l3
   have o4:upd R p (.lst [.int x3,.int y3]) o=some (.lst (os.map V.str)):=by rw[aC O.2];exact O.1
   have r4:cG (nwB l H (upd R p (.lst [.int x3,.int y3]))) (kd fs) C:=rep.same λa u e=>by obtain⟨⟨L,S⟩,g3⟩:=fJ.mp e;exact fJ.mpr ⟨⟨L,S⟩,by rw[aC (λz=>Y (by rw[←z];exact L))];exact g3⟩
   generalize upd R p (.lst [.int x3,.int y3])=H4 at b4 p4 l4 o4 r4⊢;clear b3 p3 l3 rep tl3 O;refine⟨.str os[j.toNat],by rw[ixV_l o4,kT j0 (by rw[ae];exact j1),bS,ay hj];rfl,?_⟩;generalize os[j.toNat]=x at hx;refine⟨_,rfl,p,6,rfl,p4,ad,ad,λk6 x5 y5 _ _=>?_⟩;have b5:bO p H (upd H4 p (.lst [.int x5,.int y5])):=b4.trans (bO.upd _ _ _);have p5:bH (upd H4 p (.lst [.int x5,.int y5])) p:=⟨_,_,ec⟩
   have l5:upd H4 p (.lst [.int x5,.int y5]) l=some (.dK C):=by rw[aC G];exact l4
   have r5:cG (nwB l H (upd H4 p (.lst [.int x5,.int y5]))) (kd fs) C:=r4.same λa u e=>by obtain⟨⟨L,S⟩,g3⟩:=fJ.mp e;exact fJ.mpr ⟨⟨L,S⟩,by rw[aC (λz=>Y (by rw[←z];exact L))];exact g3⟩
   generalize upd H4 p (.lst [.int x5,.int y5])=H5 at b5 p5 l5 r5⊢;clear b4 p4 l4 o4 r4;have put:∀(H0:Hp) (d:D) (v:V) (N:Hp),bO p H5 H0->bH H0 p->(∀a,H0 a=none->H5 a=none)->bO p H0 N->bH N p->aY (nw H0 N) d v->aS fx sm os d->lvs d<=7->depD d<=8 ->
     X8 p t o l fx sm os H (i+1) [some (.ref p),some (.ref t),some (.ref o),some (.ref l),some (.int (0+i)),some (.str x)] (upd N l (.dK (putK C (Sum.inr x) v)))/\C.length<sizeLine/\N l=some (.dK C):=λH0 d v N b0 p0 f0 b6 p6 r6 U X Z=>by
    have l0:=b0 _ _ G l5;have l6:=b6 _ _ G l0;have hn:∀a,H0 a=none->H a=none:=λa e=>wK b5 (λ_=>by obtain⟨x9,y9,e9⟩:=p5;rw[e9];simp) (f0 a e);have s0:aF (nwB l H H5) (nwB l H (upd N l (.dK (putK C (Sum.inr x) v)))):=λa u e=>by obtain⟨⟨L,S⟩,g3⟩:=fJ.mp e;have nap:a≠p:=λz=>Y (by rw[←z];exact L);exact fJ.mpr ⟨⟨L,S⟩,by rw[aC S];exact b6 a u nap (b0 a u nap g3)⟩
    have rd:aY (nwB l H (upd N l (.dK (putK C (Sum.inr x) v)))) d v:=aY.same (λa u e=>by
     obtain⟨L,S⟩:=dJ.mp e;have nal:a≠l:=λz=>by rw[z,l0]at L;cases L
     exact fJ.mpr ⟨⟨hn a L,nal⟩,by rw[aC nal];exact S⟩) r6
    obtain⟨k1,k2,k3⟩:=lQ (x:=x) (d:=d) nd;have kl:=pM r5;refine⟨⟨putF fs x d,_,_,_,rfl,C3 ((b5.trans b0).trans b6) hl,p6.but G.symm,ec,wV rd (r5.same s0),k1,dk,λr J=>?_⟩,aj (m:=13) dk ad,l6⟩;rcases k3 r J with h|h
    ·exact W r h
    ·rw[h];exact⟨hx,U,X,Z⟩
   refine⟨.int k6,.int 0,rfl,rfl,aw _,_,rfl,ite_on (λk=>?_) λk=>?_⟩
   ·refine⟨_,rfl,_,rfl,_,rfl,p,t,o,fx,sm,os,x,rfl,I.but b5 p5,hx,λd v N b6 p6 r6 U X Z=>?_⟩;obtain⟨z1,z2,z3⟩:=put H5 d v N (bO.refl _ _) p5 (λ_ e=>e) b6 p6 r6 U X Z;exact⟨_,rfl,_,rfl,l,_,rfl,II.k (k:=Sum.inr x) z3 z2,z1⟩
   ·refine⟨_,rfl,_,rfl,_,rfl,_,rfl,p,7,rfl,p5,ad,ad,λm7 x7 y7 m70 m71=>?_⟩;have b7:bO p H5 (upd H5 p (.lst [.int x7,.int y7])):=bO.upd _ _ _;have p7:bH (upd H5 p (.lst [.int x7,.int y7])) p:=⟨_,_,ec⟩
    have f7:∀a,upd H5 p (.lst [.int x7,.int y7]) a=none->H5 a=none:=λa e=>by
     by_cases z:a=p
     ·rw[z,ec]at e;cases e
     ·rw[aC z]at e;exact e
    generalize upd H5 p (.lst [.int x7,.int y7])=H7 at b7 p7 f7⊢;have e7:(1:Int)+m7=((1+m7.toNat:Nat):Int):=by lia
    refine .inl ⟨_,rfl,p,t,o,fx,sm,os,1+m7.toNat,8,by rw[←e7];rfl,I.but (b5.trans b7) p7,dk,dk,dk,λd v H8 b8 p8 r8 tm8 lv8 dp8=>?_⟩;obtain⟨z1,z2,z3⟩:=put H7 d v H8 b7 p7 f7 b8 p8 r8 tm8 dk dp8;exact⟨_,rfl,_,rfl,l,_,rfl,II.k (k:=Sum.inr x) z3 z2,z1⟩
  ·rintro σ R ⟨fs,C,o5,o6,rfl,b3,p3,l3,rep,nd,ln,W⟩;exact⟨_,rfl,q l fs C R b3 p3 hl l3 rep nd dk W⟩
mutual
theorem vU {l:cU}{sm:cC}{os:aV}:∀{d:D},aS l sm os d->nds d<=lvs d * (depD d+1)
 | .str x,_=>by
  have o:lvs (.str x)=1:=by rw[lvs] <;> simp
  have m:nds (.str x)=1:=by unfold nds;rfl
  rw[o,m]
  lia
 | .tup (.str n::ds),h=>by
  have e:=FY h;unfold aS at h;have j:=A1 h.2;rw[lvs]at e;rw[lvs,nds,depD,depDs];show 1+ndss ds<=lvss ds * (max (depD (D.str n)) (depDs ds)+2);have c:depDs ds<=max (depD (D.str n)) (depDs ds):=Nat.le_max_right _ _;have i:=Nat.mul_le_mul_left (lvss ds) (Nat.add_le_add_right c 2);have g:lvss ds * (depDs ds+2)=lvss ds * (depDs ds+1)+lvss ds:=by rw[show depDs ds+2=(depDs ds+1)+1 from rfl,Nat.mul_succ]
  lia
 | .lst (.str n::ds),h=>by
  have e:=FY h;unfold aS at h;have j:=A1 h.2;rw[lvs]at e;rw[lvs,nds,depD,depDs];show 1+ndss ds<=lvss ds * (max (depD (D.str n)) (depDs ds)+2);have c:depDs ds<=max (depD (D.str n)) (depDs ds):=Nat.le_max_right _ _;have i:=Nat.mul_le_mul_left (lvss ds) (Nat.add_le_add_right c 2);have g:lvss ds * (depDs ds+2)=lvss ds * (depDs ds+1)+lvss ds:=by rw[show depDs ds+2=(depDs ds+1)+1 from rfl,Nat.mul_succ]
  lia
theorem A1 {c:cU}{sm:cC}{os:aV}:∀{ds:List D},IsTms c sm os ds->ndss ds<=lvss ds * (depDs ds+1)
 | [],_=>by rw[ndss];lia
 | d::ds,h=>by
  have g:=vU h.1;have e:=A1 h.2;rw[ndss,lvss,depDs,Nat.add_mul];have a1:=Nat.mul_le_mul_left (lvs d) (Nat.add_le_add_right (Nat.le_max_left (depD d) (depDs ds)) 1);have a2:=Nat.mul_le_mul_left (lvss ds) (Nat.add_le_add_right (Nat.le_max_right (depD d) (depDs ds)) 1)
  lia
end
def W2 {c:cU}{sm:cC}{os:aV}{d:D}(tm:aS c sm os d)(l:lvs d<=7)(dp:depD d<=8):nds d<=63:=ao (vU tm) (Nat.mul_le_mul l (Nat.add_le_add_right dp 1))
def OC {c:cU}{sm:cC}{os:aV}{d:D}(tm:aS c sm os d)(l:lvs d<=49)(dp:depD d<=16):nds d<=833:=ao (vU tm) (Nat.mul_le_mul l (Nat.add_le_add_right dp 1))
def fT.up {d:cU}{sm:cC}{os:aV}{fs:List (Str×D)}(s:fT 7 8 d sm os fs):fT 49 16 d sm os fs:=λp c=>⟨(s p c).1,(s p c).2.1,ao (s p c).2.2.1 ad,ao (s p c).2.2.2 ad⟩
def lH {d:cU}{sm:cC}{os:aV}{fs:List (Str×D)}(so:aW d sm)(ho:∀x∈os,bR x)(nd:(fs.map (·.1)).Nodup)(ln:fs.length<=12)(s:fT 49 16 d sm os fs):X2 d sm os fs :=
 ⟨nd,λp c=>⟨ho _ (s p c).1,so,ho,(s p c).2.1,ao (s p c).2.2.1 ad,ao (OC (s p c).2.1 (s p c).2.2.1 (s p c).2.2.2) ad,ao (s p c).2.2.2 ad⟩,dk⟩
def OL:∀p∈look sm fs,∃q∈fs,p=(q.1,flt sm q.2):=λp d=>by obtain⟨q,c,e⟩:=cy.mp (db.mp d).1;exact⟨q,c,e.symm⟩
def wS {b e:Nat}{c:cU}{sm:cC}{os:aV}{fs:List (Str×D)}(so:aW c sm)(ho:∀x∈os,bR x)(s:fT b e c sm os fs):fT b e c sm os (look sm fs):=λp h=>by obtain⟨q,g,rfl⟩:=OL p h;obtain⟨i,d,l,j⟩:=s q g;have tf:=CP so ho d;have:=(hZ so ho tf).2;have:=(hZ so ho d).2;have:=HP sm q.2;have:=rE sm q.2;exact⟨i,tf,by show lvs (flt sm q.2)<=b;lia,by show depD (flt sm q.2)<=e;lia⟩
def zP (nd:(fs.map (·.1)).Nodup)(ln:fs.length<=12):((look sm fs).map (·.1)).Nodup/\(look sm fs).length<=12:=by have c:(look sm fs).Sublist (flatF sm fs):=List.filter_sublist;refine⟨?_,ao c.length_le (by unfold flatF;rw[ae];exact ln)⟩;have:=c.map (·.1);rw[pP]at this;exact nd.sublist this
theorem qF {l:cU}{sm:cC}{os:aV}:∀{fs:List (Str×D)},aW l sm->(∀x∈os,bR x)->fT 7 8 l sm os fs->W8 (kd fs)/\PyData.leavesShortKv 13 (kvPd (kd fs))=true/\PyData.weightKv (kvPd (kd fs))<=2000 * fs.length
 | [],_,_,_=>⟨λp g=>(nomatch g),rfl,aw _⟩
 | (x,d)::fs,so,ho,s=>by
  obtain⟨a,b,c⟩:=qF (fs:=fs) so ho λp g=>s p (ba _ g);obtain⟨r,j,q,i⟩:=s (x,d) ax;have h4':depD d<=8:=i;obtain⟨t1,o,t3⟩:=A4 so ho j;obtain⟨u,h,m⟩:=A4 so ho (d:=.str x) (by unfold aS;exact .inl r);have n1:nds d<=63:=W2 j q i;have n2:nds (.str x)=1:=by unfold nds;rfl
  have t3':(pdOf d).weight+1<=30 * nds d:=t3;have e:kvPd (kd ((x,d)::fs))=(.str x,pdOf d)::kvPd (kd fs):=rfl;have t:pdOf (.str x) = .str x:=by unfold pdOf;rfl
  rw[t]at h m;refine⟨λp g=>?_,?_,?_⟩
  ·rcases cw.mp g with z|z
   ·subst z;exact⟨⟨x,rfl⟩,t1,by show depD d<=50;lia⟩
   ·exact a p z
  ·rw[e,PyData.leavesShortKv,h,b]
   simpa using o
  ·rw[e,PyData.weightKv,aq]
   lia
def zB {e:cU}{sm:cC}{os:aV}{fs:List (Str×D)}(so:aW e sm)(ho:∀x∈os,bR x)(s:fT 7 8 e sm os fs)(ln:fs.length<=12):(cY (kd fs)).length<=sizeLine:=by obtain⟨_,b,c⟩:=qF so ho s;have d:=PyData.shown_le 13 ad (.dict (kvPd (kd fs))) (by rw[PyData.leavesShort];exact b);rw[PyData.shown,PyData.weight]at d;unfold cY;exact ao d (ao (m:=15 * 30000+13) dk ad)
def sR {c d:Type}{f:c->d}:∀{l:List c},(l.map f).Nodup->l.Nodup
 | [],_=>List.nodup_nil
 | a::l,h=>by rw[bf,da]at h;exact da.mpr ⟨λz=>h.1 (List.mem_map_of_mem z),sR h.2⟩
noncomputable def phF:List (Str×D)->Str->D
 | [],x=>.str x
 | p::r,x=>if p.1=x then p.2 else phF r x
def BO:∀{fs:List (Str×D)} {c:List (cR×V)},cG H (kd fs) c->PV H c (phF fs):=by
 intro fs
 induction fs with
 | nil=>intro c h x;cases h;exact rfl
 | cons p r d =>
  intro c h x;unfold cG at h;rw[show kd (p::r)=(Sum.inr p.1,p.2)::kd r from rfl]at h;cases h with
  | cons a t =>
   unfold phF;by_cases e:p.1=x
   ·rw[ai e,k8 (a.1.symm.trans (congrArg Sum.inr e))];exact a.2
   ·rw[ab e,lE λz=>e (Sum.inr.inj (a.1.trans z))];exact d t x
def iM (fs:List (Str×D))(x:Str):(∃p∈fs,p.1=x/\phF fs x=p.2)\/(∀p∈fs,p.1≠x)/\phF fs x = .str x:=by
 induction fs with
 | nil=>exact .inr ⟨λp i=>(nomatch i),rfl⟩
 | cons p r g =>
  unfold phF;by_cases e:p.1=x
  ·exact .inl ⟨p,ax,e,ai e⟩
  ·rw[ab e];exact g.imp (λ⟨q,d,c⟩=>⟨q,ba _ d,c⟩) λ⟨d,c⟩=>⟨λq h=>(cw.mp h).elim (λz=>z ▸ e) (d q),c⟩
def MW (h:eqD d (.str x)=true):d = .str x:=by
 cases d with
 | str y=>rw[show y=x from eq_of_beq h]
 | _=>cases h
def iN (sm:cC)(x:Str):flt sm (.str x) = .str x:=by unfold flt;rfl
structure Fu (χ:Str->D)(fs:List (Str×D)):Prop where
 nd:(fs.map (·.1)).Nodup
 mem:∀p,p∈fs ↔ p.2=χ p.1/\χ p.1≠.str p.1
def Fu.perm {c:Str->D}{fs d:List (Str×D)}(h:Fu c fs)(k:Fu c d):(kd d).Perm (kd fs):=by unfold kd;exact((List.perm_ext_iff_of_nodup (sR k.nd) (sR h.nd)).mpr λp=>(k.mem p).trans (h.mem p).symm).map _
def Fu.ph {d:Str->D}{fs:List (Str×D)}(h:Fu d fs):phF fs=d:=by
 funext x;rcases iM fs x with⟨p,g,e,z⟩|⟨n,z⟩
 ·rw[z,←e];exact((h.mem p).mp g).1
 ·rw[z];by_cases c:d x = .str x
  ·exact c.symm
  ·exact absurd rfl (n (x,d x) ((h.mem (x,d x)).mpr ⟨rfl,c⟩))
def GA (nd:(fs.map (·.1)).Nodup):∀p∈fs,phF fs p.1=p.2:=by
 induction fs with
 | nil=>exact λp c=>nomatch c
 | cons q r d =>
  obtain⟨n1,n2⟩:=da.mp (bf ▸ nd);intro p c;unfold phF;rcases cw.mp c with rfl|c
  ·exact ai rfl
  ·rw[ab λz=>n1 (by rw[z];exact List.mem_map_of_mem (f:=(·.1)) c)];exact d n2 p c
def JU (nd:(fs.map (·.1)).Nodup):Fu (phF fs) (idle fs):=by
 refine⟨nd.sublist ((List.filter_sublist (l:=fs)).map (·.1)),λp=>⟨λj=>?_,λ⟨g,d⟩=>?_⟩⟩
 ·obtain⟨g,d⟩:=db.mp j;have e:=GA nd p g;refine⟨e.symm,λz=>?_⟩;rw[←e,z,dQ]at d;cases d
 ·rcases iM fs p.1 with⟨q,i,e,z⟩|⟨_,z⟩
  ·have h:p=q:=Prod.ext e.symm (g.trans z);refine db.mpr ⟨h ▸ i,?_⟩;cases c:eqD p.2 (.str p.1)with
   | false=>rfl
   | true=>exact absurd (g.symm.trans (MW c)) d
  ·exact absurd z d
def NH (sm:cC)(fs:List (Str×D))(x:Str):phF (flatF sm fs) x=flt sm (phF fs x):=by
 induction fs with
 | nil=>exact(iN sm x).symm
 | cons p r c =>
  show(if p.1=x then flt sm p.2 else phF (flatF sm r) x)=flt sm (if p.1=x then p.2 else phF r x);rw[c];split <;> rfl
def vF (nd:(fs.map (·.1)).Nodup):Fu (λx=>flt sm (phF fs x)) (look sm fs):=by
 have h:=JU (fs:=flatF sm fs) (by rw[pP];exact nd)
 rwa [show phF (flatF sm fs)=λx=>flt sm (phF fs x)from funext (NH sm fs)]at h
structure tM (b e:Nat)(fx:cU)(sm:cC)(os:aV)(χ:Str->D):Prop where
 tm:∀x,aS fx sm os (.str x)->aS fx sm os (χ x)/\Gd sm (χ x)
 bd:∀x,lvs (χ x)<=b/\depD (χ x)<=e
 os:∀x,x∉os->χ x = .str x
section
variable {b e:Nat}{fx:cU}{sm:cC}{os:aV}{fs:List (Str×D)}{χ:Str->D}
def O0 (so:aW fx sm)(ho:∀x∈os,bR x)(h:aS fx sm os (.str x)):Gd sm (.str x):=by have t:=(hZ so ho h).1;have f:=CQ (cL so) t;have n:=HR (cL so) t;rw[iN]at f n;exact⟨f.1,f.2,n⟩
def B4 (x:Str):lvs (.str x)=1:=by rw[lvs] <;> simp
def fT.chi (so:aW fx sm)(ho:∀x∈os,bR x)(b1:1<=b)(s:fT b e fx sm os fs):tM b e fx sm os λx=>flt sm (phF fs x):=by
 have one:∀x,(x∈os/\aS fx sm os (phF fs x)/\lvs (phF fs x)<=b/\depD (phF fs x)<=e)\/phF fs x = .str x:=λx=>by
  rcases iM fs x with⟨p,g,j,d⟩|⟨_,d⟩
  ·rw[d];exact .inl (j ▸ s p g)
  ·exact .inr d
 refine⟨λx h=>?_,λx=>?_,λx h=>?_⟩ <;> rcases one x with⟨i,c,m,l⟩|z
 ·have t:=(hZ so ho c).1;have f:=CQ (cL so) t;exact⟨CP so ho c,f.1,f.2,HR (cL so) t⟩
 ·show aS fx sm os (flt sm (phF fs x))/\Gd sm (flt sm (phF fs x));rw[z,iN];exact⟨h,O0 so ho h⟩
 ·have a1:=(hZ so ho c).2;have a2:=(hZ so ho (CP so ho c)).2;have q:=HP sm (phF fs x);have o:=rE sm (phF fs x);exact⟨dk,dk⟩
 ·show lvs (flt sm (phF fs x))<=b/\depD (flt sm (phF fs x))<=e;rw[z,iN,B4];exact⟨b1,aw _⟩
 ·exact absurd i h
 ·show flt sm (phF fs x) = .str x;rw[z,iN]
def tM.wish (so:aW fx sm)(ho:∀x∈os,bR x)(c:tM b e fx sm os χ):∀r∈sm,χ r.2 = .str r.2:=by
 intro r h;refine c.os _ λd=>?_;obtain⟨l,i,w⟩:=id (ho _ d);by_cases z:r.2=("" : Str)
 ·have g:("" : Str).cps.size=0:=by decide
  rw[←z,i]at g;simp at g
 ·exact oQ (ho _ d) (so.nm r.2 (cj _ ((iA fx).subset (so.nought r h z))))
def tM.pb (so:aW fx sm)(ho:∀x∈os,bR x)(b1:1<=b)(c:tM b e fx sm os χ):WQ b (b * (e+1)) e χ:=by
 have o1:1<=b/\1<=b * (e+1):=⟨b1,Nat.mul_pos b1 (Nat.succ_pos e)⟩
 have one:∀x,x∈os/\aS fx sm os (χ x)/\Gd sm (χ x)\/χ x = .str x:=λx=>by
  by_cases h:x∈os
  ·exact .inl ⟨h,c.tm x (by unfold aS;exact .inl h)⟩
  ·exact .inr (c.os x h)
 refine⟨o1,λx h=>?_,λx=>?_,λx=>?_,λx=>(c.bd x).2⟩ <;> rcases one x with⟨i,g,d⟩|z
 ·exact⟨d.fl,d.nb⟩
 ·rw[z];exact(pb0 (e:=e) o1).fl x h
 ·rw[(hZ so ho g).2];exact(c.bd x).1
 ·rw[z];exact(pb0 (e:=e) o1).sz x
 ·exact ao (vU g) (Nat.mul_le_mul (c.bd x).1 (Nat.add_le_add_right (c.bd x).2 1))
 ·rw[z];exact(pb0 (e:=e) o1).nd x
def Fu.small (f:Fu χ fs)(c:tM b e fx sm os χ):fT b e fx sm os fs:=λp g=>by obtain⟨i,h⟩:=(f.mem p).mp g;have d:p.1∈os:=Classical.byContradiction λz=>h (c.os _ z);have t:=c.tm p.1 (by unfold aS;exact .inl d);rw[i];exact⟨d,t.1,c.bd p.1⟩
def Gd.flt (g:Gd sm d):flt sm d=d:=OB g.nf g.fl
def tM.again (so:aW fx sm)(ho:∀x∈os,bR x)(c:tM b e fx sm os χ):(λx=>Lw.flt sm (χ x))=χ:=by
 funext x;by_cases h:x∈os
 ·exact(c.tm x (by unfold aS;exact .inl h)).2.flt
 ·rw[c.os x h,iN]
def vJ {j l:Nat}{d:Str->D}(so:aW fx sm)(ho:∀x∈os,bR x)(b1:1<=b)(b2:1<=j)(c:tM b e fx sm os χ)(k:tM j l fx sm os d):tM (j * b) (e+l) fx sm os λx=>flf sm d (χ x):=by
 refine⟨λx h=>?_,λx=>?_,λx h=>?_⟩
 ·obtain⟨i,o⟩:=c.tm x h;exact⟨CT so (λy g=>(k.tm y g).2) (λy g=>(k.tm y g).1) i,nO so (λy g=>(k.tm y g).2) i⟩
 ·show lvs (flf sm d (χ x))<=_/\depD (flf sm d (χ x))<=_;by_cases h:x∈os
  ·obtain⟨i,_⟩:=c.tm x (by unfold aS;exact .inl h);have a1:=hZ so ho i;have z:=xE (cL so) (k.pb so ho b2) a1.1;have m:=z.sz;rw[(hZ so ho (CT so (λy g=>(k.tm y g).2) (λy g=>(k.tm y g).1) i)).2,a1.2]at m;exact⟨ao m (Nat.mul_le_mul_left j (c.bd x).1),ao z.dp (Nat.add_le_add_right (c.bd x).2 l)⟩
  ·rw[c.os x h,fK,k.os x h,B4];exact⟨Nat.mul_pos b2 b1,aw _⟩
 ·show flf sm d (χ x) = .str x;rw[c.os x h,fK,k.os x h]
def L5 {o m b2 j:Nat}{g d:Str->D}(so:aW fx sm)(ho:∀x∈os,bR x)(c:tM b e fx sm os χ)(k:tM o m fx sm os g)(l:tM b2 j fx sm os d):(λx=>flf sm d (flf sm g (χ x)))=λx=>flf sm (λy=>flf sm d (g y)) (χ x):=by
 funext x;by_cases h:x∈os
 ·exact CU so (l.wish so ho) (λy i=>⟨(k.tm y i).2,(k.tm y i).1⟩) (λy i=>(l.tm y i).2) (c.tm x (by unfold aS;exact .inl h)).1
 ·rw[c.os x h,fK,fK,k.os x h]
end
def DQ (K:dq)(C Pt:Addr):Sp:=λvs H Q _=>∃(g a:Addr) (fx:cU) (sm:cC) (os:aV) (fs:List (Str×D)) (kvs:List (cR×V)) (d:D) (v:V),vs=[.ref g,.ref a,v]/\iG K C fx sm (del H a) g/\H a=some (.dK kvs)/\cG H (kd fs) kvs/\(fs.map (·.1)).Nodup/\fs.length<=12/\fT 49 16 fx sm os fs/\aY H d v/\W9 fx sm os d/\LT Pt H /\
 ∀(c:V) (H':Hp),bO Pt H H'->LT Pt H'->aY H' (flf sm (λx=>flt sm (phF fs x)) d) c->Q c H'
def K3 (F:fV K "filled" "filled" qM f fd)(T:Txt mg)(c:dS P w K mg base bU 10 "looked_over" (qD K C Pt))(e:dS P w K mg base bU 3 "check_term" (BC K C))(i:dS P w K mg base bU 9 "put_in" (qA K C Pt)):cH P w K mg base bU 11 f fd FK (DQ K C Pt):=by
 refine F.ok zC (λvs H Q E h=>?_) (λY A outer s H vs Q E B h=>?_)
 ·obtain⟨g,a,G,sm,os,fs,t,d,v,rfl,_⟩:=h;rfl
 ·obtain⟨g,a,G,sm,os,fs,t,d,v,rfl,sg,R,rep,nd,ln,j,N,tr,lt,q⟩:=h;have O:=B.units
  refine⟨_,(aE (bP 3 zC.nd (aU c B (aA (pv 0) (aA (pv 1) aB))))
   (aE (cW (aU e B (aA (pv 0) (aA (pv 2) aB))))
   (aG (aL (aU i B (aA (pv 0) (aA (pv 3) (aA (pv 2) aB)))))))),?_⟩
  try dsimp only[cxOf,Cx.nox]
  clear B F T O c e i;refine⟨_,rfl,_,rfl,g,a,G,sm,os,fs,t,rfl,sg,R,rep,lH tr.so tr.ho nd ln j,lt,λl p Z b1 J hl S r1=>?_⟩;have m:iG K C G sm Z g:=lt.sg b1 (sg.same (g9 _ _));have o:=lt.rep b1 N;obtain⟨I,W⟩:=hZ tr.so tr.ho tr.tm;have l1:=tr.lv;have X:=tr.dp;have ch:=j.chi tr.so tr.ho ad;have U:=vF (sm:=sm) nd;refine⟨_,rfl,_,rfl,g,G,sm,os,d,v,rfl,m,tr.so,tr.ho,o,tr.tm,dk,dk,tr.nd,λH2 s2=>?_⟩;exact⟨_,rfl,_,rfl,_,rfl,l,g,G,sm,_,p,d,v,rfl,s2 _ _ S,U.ph ▸ BO (r1.same s2),ch.pb tr.so tr.ho ad,m.same s2,aY.same s2 o,I,cL tr.so,dk,tr.nd,X,J.same s2,λL H' b l r=>q L H' (λx u n z=>b x u n (s2 _ _ (b1 x u n z))) l r⟩
noncomputable def mapF (f:D->D)(fs:List (Str×D)):List (Str×D):=fs.map λp=>(p.1,f p.2)
noncomputable def jL (A B:List (Str×D)):List (Str×D):=B.foldl (λl p=>putF l p.1 p.2) A
def zL (f:D->D)(fs:List (Str×D)):(mapF f fs).map (·.1)=fs.map (·.1):=by unfold mapF;rw[cp];rfl
def JB:(x,d)∈putF fs x d/\∀p∈fs,p.1≠x->p∈putF fs x d:=by
 unfold putF;split
 ·rename_i h;obtain⟨p,c,e⟩:=List.any_eq_true.mp h;have e:=bu e;exact⟨cy.mpr ⟨p,c,by rw[ai e,e]⟩,λp c n=>cy.mpr ⟨p,c,ab n⟩⟩
 ·exact⟨bz _ ax,λp c _=>cj _ c⟩
def Q0 (nd:(fs.map (·.1)).Nodup)(y:Str):phF (putF fs x d) y=if y=x then d else phF fs y:=by
 obtain⟨n1,_,n3⟩:=lQ (x:=x) (d:=d) nd;obtain⟨l,j⟩:=JB (fs:=fs) (x:=x) (d:=d);by_cases e:y=x
 ·rw[ai e,e];exact GA n1 _ l
 ·rw[ab e];rcases iM fs y with⟨p,o,i,g⟩|⟨n,g⟩
  ·rw[g,←i];exact GA n1 p (j p o (i ▸ e))
  ·rcases iM (putF fs x d) y with⟨q,m,c,_⟩|⟨_,c⟩
   ·rcases n3 q m with h|h
    ·exact absurd c (n q h)
    ·exact absurd (c.symm.trans (congrArg (·.1) h)) e
   ·rw[g,c]
def wP:∀{B A:List (Str×D)},(A.map (·.1)).Nodup->((jL A B).map (·.1)).Nodup/\(jL A B).length<=A.length+B.length/\∀p∈jL A B,p∈A\/p∈B:=by
 intro B
 induction B with
 | nil=>exact λh=>⟨h,ac _,λp e=>.inl e⟩
 | cons q B g =>
  intro A h;obtain⟨n1,n2,n3⟩:=lQ (x:=q.1) (d:=q.2) h;obtain⟨a,b,c⟩:=g n1;refine⟨a,?_,λp e=>?_⟩
  ·show(jL (putF A q.1 q.2) B).length<=A.length+(B.length+1)
   lia
  ·rcases c p e with h|h
   ·rcases n3 p h with z|z
    ·exact .inl z
    ·exact .inr (by rw[z];exact ax)
   ·exact .inr (ba _ h)
def KP:∀{B A:List (Str×D)},(A.map (·.1)).Nodup->(B.map (·.1)).Nodup->∀y,phF (jL A B) y=if y∈B.map (·.1)then phF B y else phF A y:=by
 intro B
 induction B with
 | nil=>exact λ_ _ y=>rfl
 | cons q B g =>
  intro A h k y;obtain⟨d,c⟩:=da.mp (bf ▸ k);show phF (jL (putF A q.1 q.2) B) y=_;rw[g (lQ h).1 c y,Q0 h];by_cases e:y=q.1
  ·rw[ab (e ▸ d),ai e,ai (by rw[e];exact ax),phF,ai e.symm]
  ·rw[ab e,phF,ab (Ne.symm e)];by_cases z:y∈B.map (·.1)
   ·rw[ai z,bf,ai (ba _ z)]
   ·rw[ab z,bf,ab λw=>(cw.mp w).elim e z]
def Q1 {f:D->D}:∀{fs:List (Str×D)} {y:Str},y∈fs.map (·.1)->phF (mapF f fs) y=f (phF fs y):=by
 intro fs
 induction fs with
 | nil=>exact λh=>nomatch h
 | cons p r c =>
  intro y h;show(if p.1=y then f p.2 else phF (mapF f r) y)=f (if p.1=y then p.2 else phF r y);by_cases e:p.1=y
  ·rw[ai e,ai e]
  ·rw[ab e,ab e];exact c ((cw.mp h).resolve_left (Ne.symm e))
def G0:∀{B A:List (Str×D)} {kb c:List (cR×V)},cG H (kd A) c->cG H (kd B) kb->cG H (kd (jL A B)) (gE c kb):=by
 intro B
 induction B with
 | nil=>intro A kb c h k;cases k;exact h
 | cons q B e =>
  intro A kb c h k;unfold cG at k;rw[show kd (q::B)=(Sum.inr q.1,q.2)::kd B from rfl]at k;cases k with
  | @cons _ r _ rs a t =>
   obtain⟨a1,a2⟩:=a;obtain⟨r1,d⟩:=r;cases a1;show cG H (kd (jL (putF A q.1 q.2) B)) (gE (putK c (Sum.inr q.1) d) rs);exact e (wV a2 h) t
def O1 {sm:cC}{d c:Str->D}{A B:List (Str×D)}(i:Fu d B)(h:Fu c A):Fu (λx=>flf sm c (d x)) (idle (jL A (mapF (flf sm c) B))):=by
 have j:((mapF (flf sm c) B).map (·.1)).Nodup:=by rw[zL];exact i.nd
 have e:phF (jL A (mapF (flf sm c) B))=λx=>flf sm c (d x):=by
  funext x;rw[KP h.nd j,zL];by_cases z:x∈B.map (·.1)
  ·rw[ai z,Q1 z,i.ph]
  ·rw[ab z,h.ph];rcases iM B x with⟨p,l,g,_⟩|⟨_,g⟩
   ·exact absurd (g ▸ List.mem_map_of_mem (f:=(·.1)) l) z
   ·rw[i.ph]at g;rw[g,fK]
 have:=JU (wP (B:=mapF (flf sm c) B) h.nd).1
 rwa [e]at this
structure Ak (K:dq)(C Pt g c:Addr)(fx:cU)(sm:cC)(fs:List (Str×D))(kvs:List (cR×V))(H:Hp):Prop where
 sg:iG K C fx sm (del H c) g
 hc:H c=some (.dK kvs)
 rep:cG H (kd fs) kvs
 lt:LT Pt H
def Ak.but (h:Ak K C Pt g c fx sm fs kvs H)(b:bO Pt H H')(l:LT Pt H'):Ak K C Pt g c fx sm fs kvs H':=by
 have n:c≠Pt:=h.lt.ne h.hc λ_=>by simp
 refine⟨(h.lt.butD (λx u n z=>dB z n) h.hc).sg (λx u n z=>?_) h.sg,b _ _ n h.hc,h.lt.krep b h.rep,l⟩;obtain⟨e,d⟩:=dR z;exact dB (b x u n e) d
def Ak.same (h:Ak K C Pt g c fx sm fs kvs H)(s:aF H H'):Ak K C Pt g c fx sm fs kvs H':=h.but s.but (h.lt.same s)
def sC (K:dq)(C Pt:Addr):Sp:=λvs H Q _=>∃(g a b:Addr) (fx:cU) (sm:cC) (os:aV) (fs1 fs2:List (Str×D)) (kv1 kv2:List (cR×V)),vs=[.ref g,.ref a,.ref b]/\Ak K C Pt g a fx sm fs1 kv1 H/\Ak K C Pt g b fx sm fs2 kv2 H/\aW fx sm/\(∀x∈os,bR x) /\
 (fs1.map (·.1)).Nodup/\fs1.length<=12/\fT 49 16 fx sm os fs1/\(fs2.map (·.1)).Nodup/\fs2.length<=12/\fT 49 16 fx sm os fs2 /\
 ∀(l:Addr) (gs:List (Str×D)) (kvs':List (cR×V)) (H':Hp),bO Pt H H'->LT Pt H'->H l=none->H' l=some (.dK kvs')->cG H' (kd gs) kvs'->Fu (λx=>flf sm (λy=>flt sm (phF fs2 y)) (flt sm (phF fs1 x))) gs->Q (.ref l) H'
def LB (f:D->D)(fs:List (Str×D))(x:Str)(d:D):mapF f (fs++[(x,d)])=mapF f fs++[(x,f d)]:=by unfold mapF;rw[az];rfl
structure YR (P:dw)(w:dy)(g l1 l2 Pt:Addr)(o:Obj)(kvs:List (cR×V))(ls:List (Str×D))(f:D->D)(H:Hp)(i:Nat)(acc:List (cR×V))(σ:St)(H':Hp):Prop where
 st:∃o0 o1:Option V,σ=[o0,o1,some (.ref g),some (.ref l2)]
 bt:P5 l1 Pt H H'
 wd:H' l1=some (wD P w l1 o kvs)
 lt:LT Pt H'
 ra:cG H' (kd (mapF f (ls.take i))) acc
 la:acc.length<=i
def OJ {f:D->D}:∀p∈mapF f fs,∃q∈fs,q.1=p.1:=λp d=>by obtain⟨q,c,rfl⟩:=cy.mp d;exact⟨q,c,rfl⟩
def GL (F:fV K "further" "further" lP f fd)(T:Txt mg)(t:dS P w K mg base bU 10 "looked_over" (qD K C Pt))(R:dS P w K mg base bU 9 "put_in" (qA K C Pt))(G:dS P w K mg base bU 1 "without_idle" F3):cH P w K mg base bU 11 f fd AW (sC K C Pt):=by
 refine F.ok l8 (λvs H Q E h=>?_) (λcdv A outer s H vs Q E hr h=>?_)
 ·obtain⟨g,a,b,fx,sm,os,S,J,kv1,kv2,rfl,_⟩:=h;rfl
 ·obtain⟨g,a,b,fx,sm,os,S,J,kv1,kv2,rfl,Z,ak2,so,ho,nd1,ln1,sml1,nd2,ln2,sml2,q⟩:=h;have hu:=hr.units
  refine⟨_,(aE (bP 3 l8.nd (aU t hr (aA (pv 0) (aA (pv 1) aB))))
   (aE (mJ (i:=4) l8.nd rfl (Or.inr rfl) (aU t hr (aA (pv 0) (aA (pv 2) aB))))
   (aE (bP 5 l8.nd (cB IE rfl T.n_dict rfl (aA (pv 4) aB)))
   (aE (cW (j8 PySem.F.plainAttrs_dict PySem.F.slot_dict_update PySem.F.type_dict_update R1 (pv 5) (aA (BS (mK rfl (bN.by (N:=tK) (names:=(aH lP).names) (N':=["wish","term","signs","second"]) (src:=[none,none,some 0,some 4]) (by decide +kernel) rfl rfl) (oG (pv 3)) (λ_ _ _ _=>(cT K rfl (i:=0) (j:=1) rfl (dL ["wish","term","signs","second"]) rfl rfl rfl rfl)) (λ_ _ _ _=>dW) (λ_ _ _ _=>(pv 0)) (λ_ _ _ _=>(aU R hr (aA (pv 2) (aA (pv 3) (aA (pv 1) aB))))))) aB)))
   (aG (aL (aU G hr (aA (pv 5) aB)))))))),?_⟩
  try dsimp only[cxOf,Cx.nox]
  clear hr F T hu t R G;refine⟨_,rfl,_,rfl,g,a,fx,sm,os,S,kv1,rfl,Z.sg,Z.hc,Z.rep,lH so ho nd1 ln1 sml1,Z.lt,λO k1 H1 b1 lt1 hl1 gl1 r1=>?_⟩;have X:=ak2.but b1 lt1;refine⟨_,rfl,_,rfl,g,b,fx,sm,os,J,kv2,rfl,X.sg,X.hc,X.rep,lH so ho nd2 ln2 sml2,lt1,λl2 k2 H2 b2 lt2 hl2 gl2 r2=>?_⟩;have sg2:=(X.but b2 lt2).sg.same (g9 _ _);have akL:Ak K C Pt g O fx sm (look sm S) k1 H1:=⟨Z.lt.sg (λx u n z=>dB (b1 x u n z) (aD z hl1)) (Z.sg.same (g9 _ _)),gl1,r1,lt1⟩
  have akM:=akL.but b2 lt2;have gl12:=akM.hc;have n12:O≠l2:=aD gl1 hl2;have hl1':H O=none:=hl1;have b02:bO Pt H H2:=λc u n z=>b2 c u n (b1 c u n z);refine⟨_,rfl,l2,k2,rfl,gl2,λU W=>?_⟩;have s3:aF H2 (upd H2 U (.dK k2)):=aF.upd W;have g3:upd H2 U (.dK k2) U=some (.dK k2):=ec;have n13:O≠U:=aD gl12 W;have n23:l2≠U:=aD gl2 W;generalize upd H2 U (.dK k2)=H3 at s3 g3⊢;have b03:bO Pt H H3:=λc u n z=>s3 _ _ (b02 c u n z);have Y:=lt2.same s3;have X:=akM.same s3;have L:=X.hc;have r13:=X.rep;have gl23:=s3 _ _ gl2;have r23:=r2.same s3;have hl3':H U=none:=by
   cases z:H U with
   | none=>rfl
   | some u =>
    by_cases e:U=Pt
    ·obtain⟨ps',e'⟩:=lt2.tbl;rw[e,e']at W;cases W
    ·rw[b02 U u e z]at W;cases W
  clear s3 W b1 b2 Z ak2 akL akM r1 r2 gl1 gl2 gl12 sg2 lt1 lt2 b02;obtain⟨ln1',ln2'⟩:=aI (zP (sm:=sm) nd1 ln1) (zP (sm:=sm) nd2 ln2);have fu1:=vF (sm:=sm) nd1;have fu2:=vF (sm:=sm) nd2;have ch2:=sml2.chi so ho ad;have sl1:=wS so ho sml1;have sl2:=wS so ho sml2;refine⟨_,rfl,.inr (.inr (.inl ⟨rfl,.inl ⟨k2,g3⟩⟩)),_,rfl,O,k1,rfl,L,λo=>?_⟩;have nt:∀xs,H3 O≠some (.tup xs)/\H3 O≠some (.lst xs):=λxs=>⟨λz=>(by rw[L]at z;cases z),λz=>(by rw[L]at z;cases z)⟩
  obtain⟨ps,eP⟩:=Y.tbl;have nP:∀xs,H3 Pt≠some (.tup xs)/\H3 Pt≠some (.lst xs):=λxs=>⟨λz=>(by rw[eP]at z;cases z),λz=>(by rw[eP]at z;cases z)⟩
  have n1P:O≠Pt:=Y.ne L λ_=>by simp
  have n2P:l2≠Pt:=Y.ne gl23 λ_=>by simp
  have n3P:U≠Pt:=Y.ne g3 λ_=>by simp
  have kl:=pM r13;refine lW (P:=P) (w:=w) (YR P w g O l2 Pt o k1 (look sm S) (flf sm λy=>flt sm (phF J y)) H3) ⟨⟨_,_,rfl⟩,λc u n _ e=>by rw[aC n];exact e,ec,Y.butD (bO.upd _ _ _) L,.nil,aw _⟩ (λi I σ H' h=>h.wd) ?_ ?_
  ·rintro i k v T0 I σ H4 hk ⟨⟨o0,o1,rfl⟩,bt,h4,lt4,ra,la⟩ hT;obtain⟨x,d,hf,rfl,rd⟩:=CF r13 hk;have il:=(cs.mp hf).1;obtain⟨_,td,lv,dp⟩:x∈os/\aS fx sm os d/\lvs d<=49/\depD d<=16:=sl1 _ (bj hf);have sT:aF H4 (upd H4 T0 (.tup [kV (Sum.inr x),v])):=aF.upd hT;have gT:upd H4 T0 (.tup [kV (Sum.inr x),v]) T0=some (.tup [kV (Sum.inr x),v]):=ec;generalize upd H4 T0 (.tup [kV (Sum.inr x),v])=H5 at sT gT⊢;have bt5:P5 O Pt H3 H5:=λc u n1 n2 z=>sT _ _ (bt c u n1 n2 z);have sg5:iG K C fx sm H5 g:=by refine((Y.butD (λc u n z=>dB z n) L).sg (H':=del H5 O) (λc u n z=>?_) X.sg).same (g9 _ _);obtain⟨z1,z2⟩:=dR z;exact dB (bt5 c u z2 n z1) z2
   have rd5:aY H5 d v:=BI bt5 nt nP rd;have r25:cG H5 (kd (look sm J)) k2:=Paired.mapP r23 λ_ _ z=>⟨z.1,BI bt5 nt nP z.2⟩
   obtain⟨tm0,esz⟩:=hZ so ho td;have n833:=OC td lv dp;refine⟨T0,_,rfl,iF.of gT,rfl,_,_,rfl,_,_,rfl,rfl,?_⟩;refine⟨_,rfl,_,rfl,_,rfl,_,rfl,l2,g,fx,sm,_,k2,d,v,rfl,bt5 _ _ n12.symm n2P gl23,fu2.ph ▸ BO r25,ch2.pb so ho ad,sg5,rd5,tm0,cL so,dk,dk,dk,lt4.same sT,λv' H6 b6 lt6 r6=>?_⟩;have new:=CC fu1.nd hf OJ ra;have hs:=LB (flf sm λy=>flt sm (phF J y)) ((look sm S).take i) x d;rw[←ee hf]at hs;refine⟨Sum.inr x,rfl,aj (m:=20) dk ad,⟨_,_,rfl⟩,λc u n1 n2 z=>b6 c u n2 (bt5 c u n1 n2 z),b6 _ _ n1P (sT _ _ h4),lt6,?_,?_⟩
   ·rw[putK_new new,hs,CG];exact sV ((lt4.same sT).krep b6 (ra.same sT)) r6
   ·rw[putK_new new,au,cm]
    lia
  ·rintro I σ H4 ⟨⟨o0,o1,rfl⟩,bt,h4,lt4,ra,la⟩ p hp;rw[kl,bw]at ra;have np:O≠p:=aD h4 hp;have n3p:U≠p:=λz=>by have:=bt U _ n13.symm n3P g3;rw[z,hp]at this;cases this
   refine⟨_,.inr ⟨O,o,k1,by rw[aC np];exact h4,rfl⟩,?_⟩;have hpn:upd (upd H4 p (.dK I)) O (.dK k1) p=some (.dK I):=by rw[aC np.symm];exact ec
   have b35:bO Pt H3 (upd (upd H4 p (.dK I)) O (.dK k1)):=λc u n z=>by
    by_cases e:c=O
    ·rw[e,ec,←L,←e];exact z
    ·rw[aC e];exact aF.upd hp _ _ (bt c u e n z)
   have lt5:LT Pt (upd (upd H4 p (.dK I)) O (.dK k1)):=by have l2:=lt4.same (aF.upd (o:=.dK I) hp);exact l2.butW (bO.upd _ _ _) (by rw[aC np];exact h4)
   have ra5:cG (upd (upd H4 p (.dK I)) O (.dK k1)) (kd (mapF (flf sm λy=>flt sm (phF J y)) (look sm S))) I:=by
    refine cG.but (p:=O) (H:=upd H4 p (.dK I)) (bO.upd _ _ _) (λxs z=>?_) (λxs z=>?_) (ra.same (aF.upd hp))
    ·rw[aC np,h4]at z;cases z
    ·rw[aC np,h4]at z;cases z
   generalize upd (upd H4 p (.dK I)) O (.dK k1)=H5 at hpn b35 lt5 ra5⊢;have g35:=b35 _ _ n3P g3;have r25:cG H5 (kd (look sm J)) k2:=Y.krep b35 r23;have mk:=wP (B:=mapF (flf sm λy=>flt sm (phF J y)) (look sm S)) fu2.nd;have lm:(mapF (flf sm λy=>flt sm (phF J y)) (look sm S)).length<=12:=by unfold mapF;rw[ae];exact ln1'.2
   have la5:=pM ra5;have lk2:=pM r25;refine⟨U,p,k2,I,rfl,rfl,n3p,g35,hpn,ao (m:=24) dk ad,?_⟩;have rm:cG (upd H5 U (.dK (gE k2 I))) (kd (jL (look sm J) (mapF (flf sm λy=>flt sm (phF J y)) (look sm S)))) (gE k2 I) :=
    cG.but (p:=U) (bO.upd _ _ _) (λxs z=>by rw[g35]at z;cases z) (λxs z=>by rw[g35]at z;cases z) (G0 r25 ra5)
   refine⟨_,rfl,U,_,_,rfl,ec,rm,mk.1,λr hr=>?_,ao mk.2.1 dk,λl kvs' H6 s6 hl gl r6=>?_⟩
   ·rcases mk.2.2 r hr with h|h
    ·exact ao (sl2 r h).2.2.2 ad
    ·obtain⟨r',hr',rfl⟩:=cy.mp h;obtain⟨_,td,_,dp⟩:=sl1 r' hr';have z:=(xE (cL so) (ch2.pb so ho ad) (hZ so ho td).1).dp;show depD (flf sm (λy=>flt sm (phF J y)) r'.2)<=50
     lia
   ·refine q l _ kvs' H6 (λc u n z=>s6 _ _ (by rw[aC (aD z hl3')];exact b35 c u n (b03 c u n z))) ((lt5.butD (bO.upd _ _ _) g35).same s6) ?_ gl r6 (O1 fu1 fu2);cases z:H l with
    | none=>rfl
    | some u =>
     have nl:l≠U:=aD z hl3';rw[aC nl]at hl;by_cases e:l=Pt
     ·obtain⟨ps',e'⟩:=lt5.tbl;rw[e,e']at hl;cases hl
     ·rw[b35 l u e (b03 l u e z)]at hl;cases hl
def IX:Sp:=λvs H Q _=>∃p:Addr,vs=[.ref p]/\bH H p/\∀(o:Addr) (os:aV) (H':Hp),bO p H H'->bH H' p->o≠p->H' o=some (.lst (os.map V.str))->1<=os.length->os.length<=12->(∀x∈os,bR x)->Q (.ref o) H'
def UI:bR "?1":=⟨[49],by decide +kernel,ad,ad,λc hc=>by rw[cu.mp hc];exact .inr ⟨ad,ad⟩⟩
def UH:bR "?2":=⟨[50],by decide +kernel,ad,ad,λc hc=>by rw[cu.mp hc];exact .inr ⟨ad,ad⟩⟩
def xN {H:Hp}{a b:Addr}{xs ys:aV}(c:H a=some (.lst (xs.map V.str)))(hb:H b=some (.lst (ys.map V.str)))(h:xs.length+ys.length<=sizeLine):catO H (.ref a) (.ref b)=some (.lst ((xs++ys).map V.str)):=by unfold catO;simp only[c,hb];rw[az];exact ai (by rw[ae,ae];exact h)
def V9 {xs:List V}{n:Nat}(h:n<=xs.length):cutV xs none (some (n:Int))=xs.take n:=by unfold cutV;rw[HT.sIx_nat,HT.sIx_none,Nat.min_eq_left h,Nat.sub_zero,List.drop_zero]
def N3 (F:fV K "_law_more" "_law_more" j5 f fd)(T:Txt mg)(c:dS P w K mg base bU 2 "_law_wishes" IY)(d:dS P w K mg base bU 1 "_law_take" iB):cH P w K mg base bU 3 f fd uH IX:=by
 refine F.ok qH (λvs H Q E h=>?_) (λcdv A outer s H vs Q E r h=>?_)
 ·obtain⟨p,rfl,_⟩:=h;rfl
 ·obtain⟨p,rfl,hp,q⟩:=h;have hu:=r.units
  refine⟨_,(aE (bP 1 qH.nd (bW bZ (aU c r (aA (pv 0) aB)) (aU c r (aA (pv 0) aB))))
   (aG (aL (bW bZ (fS l7 (pv 1) gB (eV (bW bZ aJ (aU d r (aA (pv 0) (aA aJ aB)))))) (cQ (aA iE (aA iE aB))))))),?_⟩
  try dsimp only[cxOf,Cx.nox]
  clear r F T hu d c;refine⟨_,rfl,p,rfl,hp,λo1 xs H1 R b1 p1 h1 l1 w1=>?_⟩;refine⟨_,rfl,p,rfl,p1,λo2 ys H2 no2 b2 B h2 l2 Z=>?_⟩;have h1':=b2 _ _ R h1;refine .inr ⟨_,xN h1' h2 (ao (m:=10) dk ad),λl g=>?_⟩;have b3:=(b1.trans b2).trans (bO.new (p:=p) (o:=.lst ((xs++ys).map V.str)) g);have p3:=B.but (o:=.lst ((xs++ys).map V.str)) (B.ne g);have X:upd H2 l (.lst ((xs++ys).map V.str)) l=some (.lst ((xs++ys).map V.str)):=ec;have O:l≠p:=(B.ne g).symm;have Y:∀x∈xs++ys,bR x:=λx S=>(cx.mp S).elim (w1 x) (Z x);have l3:(xs++ys).length=10:=by rw[au];lia
  generalize upd H2 l (.lst ((xs++ys).map V.str))=H3 at b3 p3 X⊢;generalize xs++ys=zs at X Y l3;clear b1 b2 p1 B h1 h1' h2 w1 Z g;refine⟨_,rfl,_,rfl,p,10,rfl,p3,ad,ad,λk v u k0 k1=>?_⟩;have b4:bO p H (upd H3 p (.lst [.int v,.int u])):=b3.trans (bO.upd _ _ _);have L:bH (upd H3 p (.lst [.int v,.int u])) p:=⟨_,_,ec⟩
  have G:upd H3 p (.lst [.int v,.int u]) l=some (.lst (zs.map V.str)):=by rw[aC O];exact X
  generalize upd H3 p (.lst [.int v,.int u])=H4 at b4 L G⊢;have e4:(1:Int)+k=((1+k.toNat:Nat):Int):=by lia
  refine .inl ⟨_,rfl,_,rfl,l,_,rfl,.inl G,λ⟨ys',z⟩=>(by rw[G]at z;cases z),λC ob t U=>?_⟩;have eb:ob = .lst ((zs.take (1+k.toNat)).map V.str):=by
   rcases U with⟨z,_⟩|⟨_,z⟩
   ·rw[z,e4,V9 (by rw[ae];lia),List.map_take]
   ·rw[G]at z;cases z
  subst eb;have b5:=b4.trans (bO.new (p:=p) (o:=.lst ((zs.take (1+k.toNat)).map V.str)) t);have J:=L.but (o:=.lst ((zs.take (1+k.toNat)).map V.str)) (L.ne t);have h5:upd H4 C (.lst ((zs.take (1+k.toNat)).map V.str)) C=some (.lst ((zs.take (1+k.toNat)).map V.str)):=ec;generalize upd H4 C (.lst ((zs.take (1+k.toNat)).map V.str))=H5 at b5 J h5⊢;refine⟨show 2<=sizeLine by decide,λN j=>?_⟩;have h6:upd H5 N (.lst ([("?1" : Str),"?2"].map V.str)) N=some (.lst ([("?1" : Str),"?2"].map V.str)):=ec;have W:upd H5 N (.lst ([("?1" : Str),"?2"].map V.str)) C=some (.lst ((zs.take (1+k.toNat)).map V.str)):=aF.upd j _ _ h5;have b6:=b5.trans (bO.new (p:=p) (o:=.lst ([("?1" : Str),"?2"].map V.str)) j);have I:=J.but (o:=.lst ([("?1" : Str),"?2"].map V.str)) (J.ne j);have lt:(zs.take (1+k.toNat)).length=1+k.toNat:=by rw[bv];lia
  refine .inr ⟨_,xN W h6 (ao (m:=12) (by rw[lt];show 1+k.toNat+2<=12;lia) ad),λo7 i=>?_⟩;refine q o7 _ _ (b6.trans (bO.new i)) (I.but (I.ne i)) (I.ne i).symm ec (by rw[au];show 1<=_+2;lia) (by rw[au,lt];show 1+k.toNat+2<=12;lia) λx S=>?_;rcases cx.mp S with h|h
  ·exact Y x (List.mem_of_mem_take h)
  ·rcases cw.mp h with e|h
   ·rw[e];exact UI
   ·rw[cu.mp h];exact UH
def jE (ψ:Str->D):∀ds:List D,putDs ψ ds=ds.map (putD ψ)
 | []=>rfl
 | d::ds=>by rw[putDs,jE ψ ds];rfl
def spPut (n:Nat):Sp:=λvs H Q _=>∃(a:Addr) (fx:cU) (sm:cC) (os:aV) (ψ:Str->D) (kvs:List (cR×V)) (d:D) (v:V),vs=[.ref a,v]/\H a=some (.dK kvs)/\PV H kvs ψ/\aY H d v/\aS fx sm os d/\depD d<=n/\lvs d<=64 /\
 ∀(c:V) (H':Hp),aF H H'->aY H' (putD ψ d) c->Q c H'
def YB (a:Addr)(ψ:Str->D)(ds:List D)(H:Hp)(i:Nat)(c:List V)(e:St)(d:Hp):Prop:=∃g:Option V,e=[g,some (.ref a)]/\aF H d/\Reps d (putDs ψ (ds.take i)) c
def VF (n:Nat)(F:fV K "_law_put" "_law_put" gC f fd)(T:Txt mg)(g:dS P w K mg base bU (n+1) "_law_put" (λvs H Q E=>∃m,m<n/\spPut m vs H Q E)):cH P w K mg base bU (n+2) f fd jO (spPut n):=by
 refine F.ok DV (λvs H Q E h=>?_) (λcdv A outer s H vs Q E hr h=>?_)
 ·obtain⟨a,fx,sm,os,ψ,I,d,v,rfl,_⟩:=h;rfl
 ·obtain⟨a,fx,sm,os,ψ,I,d,v,rfl,t,ph,rep,tm,dn,l64,q⟩:=h;have hu:=hr.units
  refine⟨_,(aE (bQ (aT K rfl (aZ aK T.n_isinstance (aA (pv 1) (aA (cF (v:=V.ty "str") rfl T.n_str rfl rfl) aB))) (λ_=>rfl)) (aG (aL (wH (aj (ca ad _) hu) (pv 0) (pv 1) (pv 1) ⟨rfl,rfl,rfl,rfl⟩))) aO)
   (aG (aL (cB fA rfl T.n_tuple rfl (aA (bW bZ (cQ (aA (cA dM (pv 1) aJ (λ_ _=>rfl)) aB)) (gZ rfl (bN.by (N:=pS) (names:=(aH gC).names) (N':=["_law_part","_law_filling_here"]) (src:=[none,some 0]) (by decide +kernel) rfl rfl) (dF K rfl (fS l7 (pv 1) (eV aJ) gB)) (λ_ _ _ _=>(eD (i:=0) (dL ["_law_part","_law_filling_here"]) rfl (Or.inl rfl))) (λ_ _ _ _=>dW) (λ_ _ _ _=>(eE g (hr.mono dk) pass0 rfl (aA (pv 1) (aA (pv 0) aB)))))) aB))))),?_⟩
  try dsimp only[cxOf,Cx.nox]
  clear hr F T hu g;simp only[tComp_fn];rcases FZ tm with⟨x,rfl,hx⟩|⟨nm,ds,hd,hdo,G⟩
  ·cases (show v = .str x from rep);refine⟨_,rfl,.str x,.ty "str",true,rfl,rfl,true,rfl,?_⟩;exact⟨_,rfl,a,rfl,.inl ⟨_,.inl t⟩,_,rfl,_,rfl,_,jW.k (k:=.inr x) t,q _ H (aF.refl _) (by unfold putD;exact ph x)⟩
  ·obtain⟨z,p,rfl,hbb,hseq,res⟩:∃z p,v = .ref z/\isV H (.ref z) (.ty "str")=some false/\fB H z (.str nm::p)/\Reps H ds p:=by
    rcases hd with rfl|rfl
    ·obtain⟨a,vs,rfl,t,_,p,rfl,e1,r⟩:=rep;cases e1;exact⟨a,p,rfl,nN t,.inr t,r⟩
    ·obtain⟨a,vs,rfl,t,_,p,rfl,e1,r⟩:=rep;cases e1;exact⟨a,p,rfl,sY t,.inl t,r⟩
   have ix0:ixV H (.ref z) (.int 0)=some (.str nm):=by
    rcases hseq with e|e
    ·rw[ixV_l e,atI_zero]
    ·rw[ixV_t e,atI_zero]
   have hpt:=uZ (ψ:=ψ) hd;have hlv:lvs d=lvss ds:=by rcases hd with rfl|rfl <;> rw[lvs]
   have hdp:=(wB hd).2.2.1;have lds:ds.length<=64:=ao (oB G) dk;refine⟨_,rfl,.ref z,.ty "str",false,rfl,hbb,false,rfl,?_⟩;refine⟨_,rfl,.str nm,ix0,show 1<=sizeLine by decide,λC R=>⟨_,rfl,(1:Int),rfl,z,_,rfl,hseq.same (aF.upd R),λ_ h=>?_,λu o1 O S=>?_⟩⟩
   ·have:=h.1;simp[HT.sIx]at this
   ·rw[vI]at S;have Z:aF H (upd (upd H C (.lst [.str nm])) u o1):=(aF.upd R).trans (aF.upd O);have g0:upd (upd H C (.lst [.str nm])) u o1 C=some (.lst [.str nm]):=by rw[aC (aD ec O)];exact ec
    have g1:upd (upd H C (.lst [.str nm])) u o1 u=some o1:=ec;have h1:fB (upd (upd H C (.lst [.str nm])) u o1) u p:=by rcases S with⟨rfl,_⟩|⟨rfl,_⟩;exact .inl ec;exact .inr ec
    generalize upd (upd H C (.lst [.str nm])) u o1=H0 at Z g0 g1 h1⊢;refine⟨u,p,rfl,h1,λJ hJ=>?_⟩;refine dC hJ (YB a ψ ds H0) ⟨none,rfl,aF.refl _,rfl⟩ ?_ ?_ ?_
    ·rintro i c σ H' _ ⟨_,_,B,_⟩;rw[g1,B _ _ g1]
    ·rintro i x c σ Y hx ⟨o0,rfl,B,j⟩;obtain⟨e,U,re⟩:=Reps.get res hx;have s2:=Z.trans B;have h1:=iU U;have h2:=B5 U;have h3:=Reps.len j;have hi:=(cs.mp U).1;rw[jE,ae,bv]at h3;refine⟨_,rfl,_,rfl,depD e,dk,a,fx,sm,os,ψ,I,e,x,rfl,s2 _ _ t,λy=>aY.same s2 (ph y),aY.same s2 re,eN G e (bj U),ac _,dk,λv' X s' r'=>⟨aj (m:=64) dk ad,_,rfl,B.trans s',?_⟩⟩;rw[ee U,jE,az,←jE];exact Reps.snoc r' (Reps.same s' j)
    ·rintro c σ Y ⟨o0,rfl,B,j⟩ l hl;have e0:=Reps.len res;rw[e0,bw]at j;have la:=Reps.len j;rw[jE,ae]at la;have s2:aF H0 (upd Y l (.lst c)):=B.trans (aF.upd hl);have l2:upd Y l (.lst c) l=some (.lst c):=ec;have r2:=Reps.same (aF.upd (o:=.lst c) hl) j;have g2:=s2 _ _ g0;generalize upd Y l (.lst c)=X at s2 l2 r2 g2⊢;refine .inr ⟨.lst (.str nm::c),rL g2 l2 (ao (m:=100) (by simp;lia) ad),λW L=>⟨_,.str nm::c,rfl,.inl ec,λl5 H5 hc=>?_⟩⟩;have s4:aF H (upd X W (.lst (.str nm::c))):=(Z.trans s2).trans (aF.upd L);have r4:=Reps.same (aF.upd (o:=.lst (.str nm::c)) L) r2;have g4:upd X W (.lst (.str nm::c)) W=some (.lst (.str nm::c)):=ec;generalize upd X W (.lst (.str nm::c))=H4 at s4 r4 g4 hc⊢;rcases hc with⟨e,_⟩|⟨_,hc,rfl⟩
     ·rw[g4]at e;cases e
     ·exact q _ _ (s4.trans (aF.upd hc)) (by rw[hpt];exact⟨l5,_,rfl,ec,.str nm,c,rfl,rfl,Reps.same (aF.upd hc) r4⟩)
def V5 (F:fV K "_law_put" "_law_put" gC f fd)(T:Txt mg)(i:mg "_law_put" = some (.ref f))(j:PySem.W.keepIn K (.ref f)=true)(hb:eW K fd jO []):∀n,cH P w K mg base bU (n+2) f fd jO (spPut n):=by
 intro n
 induction n using Nat.strongRecOn with
 | ind n d =>
  exact VF n F T ⟨f,fd,_,⟨λvs H Q E ⟨m,c,h⟩=>(d m c).len vs H Q E h,λA outer s H args us vs Q E g l hb e ⟨m,c,h⟩=>((d m c).mono dk).run A outer s H args us vs Q E g l hb e h⟩,i,j,hb⟩
def Q8 (F:fV K "_law_put" "_law_put" gC f fd)(T:Txt mg)(c:mg "_law_put" = some (.ref f))(d:PySem.W.keepIn K (.ref f)=true)(hb:eW K fd jO [])(n:Nat):dS P w K mg base bU (n+2) "_law_put" (spPut n):=⟨f,fd,_,V5 F T c d hb n,c,d,hb⟩
structure Pd (ψ:Str->D)(d:D):Prop where
 tm:Tm (putD ψ d)
 sz:sz (putD ψ d)<=7 * sz d
 dp:depD (putD ψ d)<=depD d+8
def WY {ψ:Str->D}(p:∀x,Tm (.str x)->Tm (ψ x)/\sz (ψ x)<=7/\depD (ψ x)<=8){d:D}(h:Tm d):Pd ψ d:=by
 refine tm0i (P:=λd=>Pd ψ d) (λx o=>?_) (λn ds d hd ne l=>?_) h
 ·have e:putD ψ (.str x)=ψ x:=by unfold putD;rfl
  have q:sz (.str x)=1:=by rw[sz] <;> simp
  obtain⟨a,b,c⟩:=p x o;exact⟨by rw[e];exact a,by rw[e,q];exact b,by rw[e];exact ao c (Nat.le_add_left _ _)⟩
 ·have all:∀g:List D,(∀e∈g,Pd ψ e)->Tms (putDs ψ g)/\szs (putDs ψ g)<=7 * szs g/\depDs (putDs ψ g)<=depDs g+8:=by
   intro g
   induction g with
   | nil=>exact λ_=>⟨trivial,aw _,aw _⟩
   | cons e g i =>
    intro j;obtain⟨a1,a2,r⟩:=j e ax;obtain⟨b1,b2,w⟩:=i λy m=>j y (ba _ m);refine⟨⟨a1,b1⟩,?_,?_⟩
    ·rw[putDs,szs,szs];lia
    ·rw[putDs,depDs,depDs];lia
  obtain⟨a1,a2,r⟩:=all ds l;obtain⟨v,_,u,_⟩:=wB hd;obtain⟨t,_,s,_⟩:=wB (n:=n) (ds:=putDs ψ ds) (d:=putD ψ d) (.inl (uZ hd));refine⟨?_,dk,dk⟩;rw[uZ hd];unfold Tm;exact⟨by rw[jE];exact λz=>ne (List.map_eq_nil_iff.mp z),a1⟩
def SS {i:cU}{sm:cC}{os:aV}{ψ:Str->D}{b e:Nat}(so:aW i sm)(ho:∀x∈os,bR x)(c:tM b e i sm os ψ){d:D}(h:aS i sm os d):flf sm ψ (flt sm d)=flf sm ψ d:=by have z:=CU (φ:=D.str) so (c.wish so ho) (λx g=>⟨O0 so ho g,g⟩) (λx g=>(c.tm x g).2) h;rw[HU h,show(λx=>flf sm ψ (.str x))=ψ from funext λx=>fK]at z;exact z
def SY {g:cU}{sm:cC}{os:aV}{c d:List (Str×D)}(so:aW g sm)(ho:∀x∈os,bR x)(h:fT 7 8 g sm os c)(s2:fT 7 8 g sm os d)(x:Str):flt sm (putD (phF d) (phF c x))=flf sm (λy=>flt sm (phF d y)) (flt sm (phF c x)):=by
 rcases iM c x with⟨p,i,_,e⟩|⟨_,e⟩
 ·rw[e,SQ (h p i).2.1,SS so ho (s2.chi so ho ad) (h p i).2.1]
 ·rw[e,iN,fK];unfold putD;rfl
def wX (h:cG H (kd fs) kvs):(kvs.map λp=>kV p.1)=(fs.map (·.1)).map V.str:=by have e:=congrArg (List.map kV) (zR h);unfold kd at e;rw[cp,cp,cp]at e;rw[cp];exact e
def v8:Sp:=λvs H Q _=>∃(t a b d c:Addr) (fx:cU) (sm:cC) (os:aV) (sv:List V) (fs1 fs2:List (Str×D)) (kv1 kv2:List (cR×V)),vs=[.ref t,.ref a,.ref b]/\H t=some (.tup [.ref d,.ref c])/\H c=some (.lst sv)/\d8 H sm sv/\aW fx sm/\(∀x∈os,bR x) /\
 H a=some (.dK kv1)/\cG H (kd fs1) kv1/\fs1.length<=12/\fT 7 8 fx sm os fs1/\H b=some (.dK kv2)/\cG H (kd fs2) kv2/\fs2.length<=12/\fT 7 8 fx sm os fs2 /\
 ∀(l:Addr) (gs:List (Str×D)) (kvs':List (cR×V)) (H':Hp),aF H H'->H l=none->H' l=some (.dK kvs')->cG H' (kd gs) kvs'->Fu (λx=>flf sm (λy=>flt sm (phF fs2 y)) (flt sm (phF fs1 x))) gs->Q (.ref l) H'
structure XY (t a b l:Addr)(ws:aV)(χ:Str->D)(H:Hp)(i:Nat)(σ:St)(H':Hp):Prop where
 st:∃o4 o5:Option V,σ=[some (.ref t),some (.ref a),some (.ref b),some (.ref l),o4,o5]
 bt:bO l H H'
 re:∃(gs:List (Str×D)) (acc:List (cR×V)),H' l=some (.dK acc)/\cG H' (kd gs) acc/\(gs.map (·.1)).Nodup/\(∀p∈gs,p.2=χ p.1/\χ p.1≠.str p.1)/\(∀w∈ws.take i,χ w≠.str w->(w,χ w)∈gs)/\gs.length<=i
def ED (F:fV K "_law_further" "_law_further" gR f fd)(T:Txt mg)(r:dS P w K mg base bU 19 "_law_flat" (v9 16))(B:dS P w K mg base bU 13 "_law_put" (spPut 11)):cH P w K mg base bU 20 f fd nT v8:=by
 refine F.ok fW (λvs H Q E h=>?_) (λcdv A outer s H vs Q E hr h=>?_)
 ·obtain⟨t,a,b,c1,c2,fx,sm,os,sv,c,g,kv1,kv2,rfl,_⟩:=h;rfl
 ·obtain⟨t,a,b,c1,c2,fx,sm,os,sv,c,g,kv1,kv2,rfl,ht,hc,rs,so,ho,ha,N,ln1,L,hb,W,ln2,C,q⟩:=h;have hu:=hr.units
  refine⟨_,(aE (bP 3 fW.nd qR)
   (aE (eT dj rfl (dF K rfl (bW bZ (cB (xO rfl) rfl T.n_list rfl (aA (pv 1) aB)) (cB (xO rfl) rfl T.n_list rfl (aA (pv 2) aB)))) (h8 4 fW.nd) (aE (bP 5 fW.nd (aU r hr (aA (pv 0) (aA (aU B hr (aA (pv 2) (aA (wH (aj (ca ad _) hu) (pv 1) (pv 4) (pv 4) ⟨rfl,rfl,rfl,rfl⟩) aB))) aB))))
   (aG (bQ (aR (eZ hu) (pv 5) (pv 4)) (aG (BL (aj (ca ad _) hu) (pv 3) (pv 4) (pv 5) rfl)) aO))))
   (aG (aL (pv 3))))),?_⟩
  try dsimp only[cxOf,Cx.nox]
  clear hr F T hu r B;simp only[tFor_fn];refine λl hl=>?_;have s1:aF H (upd H l (.dK [])):=aF.upd hl;have l1:upd H l (.dK []) l=some (.dK []):=ec;generalize upd H l (.dK [])=H1 at s1 l1⊢;refine⟨_,rfl,a,kv1,rfl,s1 _ _ ha,λp1 R=>⟨_,rfl,b,kv2,rfl,aF.upd R _ _ (s1 _ _ hb),λp2 I=>?_⟩⟩;rw[wX N,wX W];rw[wX N]at I;have e1:upd (upd H1 p1 (.lst ((c.map (·.1)).map V.str))) p2 (.lst ((g.map (·.1)).map V.str)) p1=some (.lst ((c.map (·.1)).map V.str)):=aF.upd I _ _ ec;refine .inr ⟨_,xN e1 ec (ao (m:=24) (by rw[ae,ae];lia) ad),λp3 S=>?_⟩;have s2:=s1.trans ((aF.upd R).trans ((aF.upd I).trans (aF.upd (o:=.lst ((c.map (·.1)++g.map (·.1)).map V.str)) S)));have l2:=((aF.upd R).trans ((aF.upd I).trans (aF.upd (o:=.lst ((c.map (·.1)++g.map (·.1)).map V.str)) S))) _ _ l1;have g3:upd (upd (upd H1 p1 (.lst ((c.map (·.1)).map V.str))) p2 (.lst ((g.map (·.1)).map V.str))) p3 (.lst ((c.map (·.1)++g.map (·.1)).map V.str)) p3=some (.lst ((c.map (·.1)++g.map (·.1)).map V.str)):=ec;have nl3:p3≠l:=λz=>by have:=((aF.upd (o:=.lst ((c.map (·.1)).map V.str)) R).trans (aF.upd (o:=.lst ((g.map (·.1)).map V.str)) I)) _ _ l1;rw[←z,S]at this;cases this
  generalize upd (upd (upd H1 p1 (.lst ((c.map (·.1)).map V.str))) p2 (.lst ((g.map (·.1)).map V.str))) p3 (.lst ((c.map (·.1)++g.map (·.1)).map V.str))=H2 at s2 l2 g3⊢;clear s1 l1 R I S e1;have ws12:(c.map (·.1)++g.map (·.1)).length<=24:=by rw[au,ae,ae];lia
  have wos:∀w∈c.map (·.1)++g.map (·.1),w∈os:=λw O=>by
   rcases cx.mp O with h|h
   ·obtain⟨p,G,rfl⟩:=cy.mp h;exact(L p G).1
   ·obtain⟨p,G,rfl⟩:=cy.mp h;exact(C p G).1
  have U:∀w,w∉c.map (·.1)++g.map (·.1)->flf sm (λy=>flt sm (phF g y)) (flt sm (phF c w)) = .str w:=λw O=>by
   have no:∀{fs:List (Str×D)},w∉fs.map (·.1)->phF fs w = .str w:=λ{fs} h=>by
    rcases iM fs w with⟨p,G,e,_⟩|⟨_,e⟩
    ·exact absurd (e ▸ List.mem_map_of_mem (f:=(·.1)) G) h
    ·exact e
   rw[no λz=>O (cj _ z),iN,fK,no λz=>O (bz _ z),iN]
  have ch:=SY so ho L C;generalize c.map (·.1)++g.map (·.1)=ws at g3 ws12 wos U⊢;refine⟨p3,_,rfl,.inl g3,λJ hJ=>?_⟩;refine kL hJ (XY t a b l ws (λx=>flf sm (λy=>flt sm (phF g y)) (flt sm (phF c x))) H2) ⟨⟨_,_,rfl⟩,bO.refl _ _,[],[],l2,.nil,List.nodup_nil,λp G=>(nomatch G),λw O=>(nomatch O),aw _⟩ (by rintro j σ H' _ h;rw[h.bt _ _ nl3 g3,g3]) ?_ ?_
  ·rintro i v σ H3 hv ⟨⟨o4,o5,rfl⟩,bt,gs,acc,l3,ra,nd,m1,m2,lg⟩;rw[bS]at hv;obtain⟨w,O,rfl⟩:=Option.map_eq_some_iff.mp hv;have ty:aS fx sm os (.str w):=by unfold aS;exact .inl (wos w (bj O))
   have il:=(cs.mp O).1;have up:∀{z:Addr} {u:HO},H z=some u->H3 z=some u:=λ{z u} e=>bt z u (aD e hl) (s2 _ _ e);have Y:aF H H3:=λz u e=>up e;have one:aS fx sm os (phF c w)/\lvs (phF c w)<=7/\depD (phF c w)<=8:=by
    rcases iM c w with⟨p,G,_,e⟩|⟨_,e⟩
    ·rw[e];exact(L p G).2
    ·rw[e];exact⟨ty,by rw[B4];decide,aw _⟩
   have t1:=hZ so ho one.1
   have pd:=WY (ψ:=phF g) (λx hx=>by
    rcases iM g x with⟨p,G,_,e⟩|⟨_,e⟩
    ·rw[e];have z:=hZ so ho (C p G).2.1;exact⟨z.1,by rw[z.2];exact(C p G).2.2.1,(C p G).2.2.2⟩
    ·rw[e];exact⟨hx,by rw[sz] <;> simp,aw _⟩) t1.1
   have pz:=pd.sz;have pp:=pd.dp;have on2:=one.2;refine⟨_,rfl,_,rfl,_,rfl,a,rfl,.inl ⟨_,.inl (up ha)⟩,_,rfl,_,rfl,_,jW.k (k:=.inr w) (up ha),b,fx,sm,os,phF g,kv2,phF c w,_,rfl,up hb,BO (W.same Y),BO (N.same Y) w,one.1,dk,dk,λu H4 s4 r4=>?_⟩;refine⟨t,c1,c2,sm,sv,putD (phF g) (phF c w),u,rfl,s4 _ _ (up ht),s4 _ _ (up hc),rs.same (bK.of (Y.trans s4)),(List.nodup_append.mp so.nd).2.1,cL so,so.s2,r4,pd.tm,dk,dk,dk,λv5 H5 s5 r5=>?_⟩;rw[ch w]at r5;have X:=s4.trans s5;have l5:=X _ _ l3;have bt5:bO l H2 H5:=bt.trans X.but;have Z:=ra.same X;have dd:depD (flf sm (λy=>flt sm (phF g y)) (flt sm (phF c w)))<=60:=by
    rw[←ch w];have:=rE sm (putD (phF g) (phF c w))
    lia
   refine⟨_,rfl,_,rfl,_,.str w,r5,rfl,dd,_,rfl,ite_on (λk=>?_) λk=>?_⟩
   ·have ne:flf sm (λy=>flt sm (phF g y)) (flt sm (phF c w))≠.str w:=λz=>by rw[z,dQ]at k;cases k
    obtain⟨k1,k2,k3⟩:=lQ (x:=w) (d:=flf sm (λy=>flt sm (phF g y)) (flt sm (phF c w))) nd;obtain⟨j1,j2⟩:=JB (fs:=gs) (x:=w) (d:=flf sm (λy=>flt sm (phF g y)) (flt sm (phF c w)));have kl:=pM Z;refine⟨_,rfl,_,rfl,_,rfl,l,_,rfl,II.k (k:=Sum.inr w) l5 (aj (m:=24) dk ad),⟨_,_,rfl⟩,λz u n e=>by rw[aC n];exact bt5 z u n e,_,_,ec,cG.but (p:=l) (bO.upd _ _ _) (λxs z=>by rw[l5]at z;cases z) (λxs z=>by rw[l5]at z;cases z) (wV r5 Z),k1,λp G=>?_,λx hx nx=>?_,dk⟩
    ·rcases k3 p G with h|h
     ·exact m1 p h
     ·rw[h];exact⟨rfl,ne⟩
    ·rw[ee O]at hx;rcases cx.mp hx with h|h
     ·by_cases e:x=w
      ·rw[e];exact j1
      ·exact j2 _ (m2 x h nx) e
     ·rw[cu.mp h];exact j1
   ·have e:flf sm (λy=>flt sm (phF g y)) (flt sm (phF c w)) = .str w:=MW (by simpa using k);refine⟨⟨_,_,rfl⟩,bt5,gs,acc,l5,Z,nd,m1,λx hx nx=>?_,dk⟩;rw[ee O]at hx;rcases cx.mp hx with h|h
    ·exact m2 x h nx
    ·rw[cu.mp h]at nx;exact absurd e nx
  ·rintro σ H3 ⟨⟨o4,o5,rfl⟩,bt,gs,acc,l3,ra,nd,m1,m2,lg⟩;rw[ae,bw]at m2;refine⟨_,rfl,q l gs acc H3 (λz u e=>bt z u (aD e hl) (s2 _ _ e)) hl l3 ra ⟨nd,λp=>⟨m1 p,λ⟨h1,h2⟩=>?_⟩⟩⟩;have:=m2 p.1 (Classical.byContradiction λz=>h2 (U p.1 z)) h2;rw[←h1]at this;exact this
def IM {c:cU}{sm:cC}{os:aV}{d:D}(so:aW c sm)(ho:∀x∈os,bR x)(tm:aS c sm os d)(l:lvs d<=280)(dp:depD d<=19):W9 c sm os d :=
 ⟨so,ho,tm,dk,ao (vU tm) (ao (Nat.mul_le_mul l (Nat.add_le_add_right dp 1)) ad),dk⟩
def T2 {p:Prop}(h:d=e)(k:(!eqD d e)=true):p:=by rw[h,dQ]at k;cases k
def Fu.len {c:Str->D}{fs:List (Str×D)}{os:aV}(h:Fu c fs)(k:∀x,x∉os->c x = .str x)(o:os.length<=12):fs.length<=12:=by
 have:=sP h.nd (ys:=os) λx d=>by obtain⟨p,e,rfl⟩:=cy.mp d;exact Classical.byContradiction λz=>((h.mem p).mp e).2 (k _ z)
 rw[ae]at this
 lia
def Fu.dep {b e:Nat}{j:cU}{sm:cC}{os:aV}{g:Str->D}{fs:List (Str×D)}(h:Fu g fs)(c:tM b e j sm os g)(k:e<=50):∀d∈kd fs,depD d.2<=50:=λd hd=>by obtain⟨p,i,rfl⟩:=cy.mp hd;show depD p.2<=50;rw[((h.mem p).mp i).1];exact ao (c.bd _).2 k
structure Sf (fx:cU)(sm:cC)(os:aV)(fs:List (Str×D)):Prop where
 nd:(fs.map (·.1)).Nodup
 ln:fs.length<=12
 sm:fT 7 8 fx sm os fs
noncomputable abbrev fF (sm:cC)(fs:List (Str×D)):Str->D:=λx=>flt sm (phF fs x)
noncomputable abbrev fU (sm:cC)(χ χ':Str->D):Str->D:=λx=>flf sm χ' (χ x)
def spIsU (K:dq)(C Pt:Addr):Sp:=λvs H Q _=>∃(g t a b e c:Addr) (fx:cU) (sm:cC) (os:aV) (sv:List V) (fs1 fs2:List (Str×D)) (kv1 kv2:List (cR×V)) (d:D) (v:V),vs=[.ref g,.ref t,.ref a,.ref b,v]/\Ak K C Pt g a fx sm fs1 kv1 H/\Ak K C Pt g b fx sm fs2 kv2 H /\
 H t=some (.tup [.ref e,.ref c])/\H c=some (.lst sv)/\d8 H sm sv/\aW fx sm/\(∀x∈os,bR x)/\os.length<=12/\Sf fx sm os fs1/\Sf fx sm os fs2/\aY H d v/\aS fx sm os d/\lvs d<=40/\depD d<=11 /\
 ∀H',bO Pt H H'->LT Pt H'->Q (.bl true) H'
def VJ (F:fV K "_law_is_further" "_law_is_further" eU f fd)(T:Txt mg)(i:dS P w K mg base bU 20 "_law_further" v8)(m:dS P w K mg base bU 11 "further" (sC K C Pt))(j:dS P w K mg base bU 11 "filled" (DQ K C Pt)):yB P w K mg base bU 21 f fd kN (spIsU K C Pt):=by
 refine fV.okG F eA (λvs H Q E h=>?_) (λcdv A outer s H vs Q E hG hr h=>?_)
 ·obtain⟨g,t,a,b,c1,c2,G,sm,os,sv,c,e,B,r,d,v,rfl,_⟩:=h;rfl
 ·obtain⟨g,t,a,b,c1,c2,G,sm,os,sv,c,e,B,r,d,v,rfl,ak1,ak2,ht,hc,rs,so,ho,o12,⟨nd1,O,p⟩,⟨nd2,N,o⟩,rd,tm,lv,dp,q⟩:=h;have Z:=hr.units
  refine⟨_,(aE (bP 5 eA.nd (aU i hr (aA (pv 1) (aA (pv 2) (aA (pv 3) aB)))))
   (aE (bP 6 eA.nd (cQ (aA (aZ (mN hG Z) T.n_repr (aA (pv 2) aB)) (aA (aZ (mN hG Z) T.n_repr (aA (pv 3) aB)) aB))))
   (aE (bP 7 eA.nd (aU m hr (aA (pv 0) (aA (pv 2) (aA (pv 3) aB)))))
   (aE (bQ (PW.pt (jJ (cZ (aT K rfl (aZ aK T.n_isinstance (aA (pv 7) (aA (cF (v:=V.ty "dict") rfl T.n_dict rfl rfl) aB))) (λ_=>rfl))) (jJ (aR (u7 Z) (pv 7) (pv 5)) (iD (aR (eZ Z) (cQ (aA (aZ (mN hG Z) T.n_repr (aA (pv 2) aB)) (aA (aZ (mN hG Z) T.n_repr (aA (pv 3) aB)) aB))) (pv 6)))))) (aG (aL oS)) aO)
   (aE (bQ (aR (eZ Z) (aU j hr (aA (pv 0) (aA (pv 7) (aA (pv 4) aB)))) (aU j hr (aA (pv 0) (aA (pv 3) (aA (aU j hr (aA (pv 0) (aA (pv 2) (aA (pv 4) aB)))) aB))))) (aG (aL oS)) aO)
   (aE (cW (BT PySem.F.plainAttrs_dict PySem.F.slot_dict_clear PySem.F.type_dict_clear K9 (pv 7)))
   (aG (aL (dY (JG Z) (aU m hr (aA (pv 0) (aA (pv 2) (aA (pv 3) aB)))) (pv 5)))))))))),?_⟩
  try dsimp only[cxOf,Cx.nox]
  clear hr F T Z i m j hG;obtain⟨tx1,_,_⟩:=qF so ho p;obtain⟨tx2,_,_⟩:=qF so ho o;have sh1:=zB so ho p O;have sh2:=zB so ho o N;have ch1:tM 7 8 G sm os (fF sm c):=p.chi so ho ad;have ch2:tM 7 8 G sm os (fF sm e):=o.chi so ho ad;have chi:tM 49 16 G sm os (fU sm (fF sm c) (fF sm e)):=vJ so ho ad ad ch1 ch2;have tr:=IM so ho tm dk dk;have tm0:=hZ so ho tm;refine⟨_,rfl,_,rfl,_,rfl,t,a,b,c1,c2,G,sm,os,sv,c,e,B,r,rfl,ht,hc,rs,so,ho,ak1.hc,ak1.rep,O,p,ak2.hc,ak2.rep,N,o,λl1 gs1 k1 H1 s1 hl1 gl1 r1 fu1=>?_⟩;have Y:=ak1.same s1;have W:=ak2.same s1;refine⟨_,rfl,a,B,kd c,rfl,Y.hc,Y.rep,tx1,sh1,_,rfl,b,r,kd e,rfl,W.hc,W.rep,tx2,sh2,show 2<=sizeLine by decide,λl hl=>?_⟩;have s2:aF H1 (upd H1 l (.lst [.str (cY (kd c)),.str (cY (kd e))])):=aF.upd hl;have g2:upd H1 l (.lst [.str (cY (kd c)),.str (cY (kd e))]) l=some (.lst [.str (cY (kd c)),.str (cY (kd e))]):=ec;generalize upd H1 l (.lst [.str (cY (kd c)),.str (cY (kd e))])=H2 at s2 g2⊢;have I:=Y.same s2;have ak22:=W.same s2;have L:=I.lt;have gl12:=s2 _ _ gl1;have r12:=r1.same s2;have rd2:=aY.same (s1.trans s2) rd;refine⟨_,rfl,_,rfl,_,rfl,g,a,b,G,sm,os,c,e,B,r,rfl,I,ak22,so,ho,nd1,O,p.up,nd2,N,o.up,λl2 gs2 k2 H3 b3 lt3 hl2 gl2 r2 J=>?_⟩;have all:∀H',bO Pt H2 H'->LT Pt H'->Ak K C Pt g a G sm c B H'/\Ak K C Pt g b G sm e r H'/\aY H' d v/\H' l1=some (.dK k1)/\cG H' (kd gs1) k1:=λH' bt lt'=>⟨I.but bt lt',ak22.but bt lt',L.rep bt rd2,bt _ _ (L.ne gl12 λ_=>by simp) gl12,L.krep bt r12⟩
  obtain⟨ak13,ak23,rd3,gl13,r13⟩:=all H3 b3 lt3;have d50:=J.dep chi ad;have pm:=J.perm fu1;refine⟨_,rfl,_,_,true,rfl,OX gl2,true,rfl,?_⟩;refine⟨_,rfl,_,rfl,l2,l1,k2,k1,_,_,rfl,rfl,gl2,gl13,r2,r13,pm,d50,_,rfl,?_⟩;refine⟨_,rfl,a,B,kd c,rfl,ak13.hc,ak13.rep,tx1,sh1,_,rfl,b,r,kd e,rfl,ak23.hc,ak23.rep,tx2,sh2,show 2<=sizeLine by decide,λl' hl'=>?_⟩;have s4:aF H3 (upd H3 l' (.lst [.str (cY (kd c)),.str (cY (kd e))])):=aF.upd hl';have g4:upd H3 l' (.lst [.str (cY (kd c)),.str (cY (kd e))]) l'=some (.lst [.str (cY (kd c)),.str (cY (kd e))]):=ec;have g24:=s4 _ _ (b3 _ _ (L.ne g2 λ_=>by simp) g2);generalize upd H3 l' (.lst [.str (cY (kd c)),.str (cY (kd e))])=H4 at s4 g4 g24⊢;refine⟨_,rfl,.lst [.str (cY (kd c)),.str (cY (kd e))],.lst [.str (cY (kd c)),.str (cY (kd e))],⟨l',_,rfl,g4,_,_,rfl,rfl,_,_,rfl,rfl,rfl⟩,⟨l,_,rfl,g24,_,_,rfl,rfl,_,_,rfl,rfl,rfl⟩,by simp[depD,depDs],_,rfl,ite_on (λk=>T2 rfl k) λ_=>?_⟩;have b24:bO Pt H2 H4:=λx u n z=>s4 _ _ (b3 x u n z);have lt4:=lt3.same s4;obtain⟨ak14,ak24,rd4,_,_⟩:=all H4 b24 lt4;have S:Ak K C Pt g l2 G sm gs2 k2 H4:=Ak.same ⟨L.sg (λx u n z=>dB (b3 x u n z) (aD z hl2)) (I.sg.same (g9 _ _)),gl2,r2,lt3⟩ s4;have sgs2:=J.small chi;have lgs2:=J.len chi.os o12;refine⟨_,rfl,_,rfl,_,rfl,g,l2,G,sm,os,gs2,k2,d,v,rfl,S.sg,S.hc,S.rep,J.nd,lgs2,sgs2,rd4,tr,lt4,λw5 H5 b5 lt5 r5=>?_⟩;rw[J.ph,chi.again so ho]at r5;have b25:bO Pt H2 H5:=λx u n z=>b5 x u n (b24 x u n z);obtain⟨X,ak25,rd5,_,_⟩:=all H5 b25 lt5;refine⟨_,rfl,_,rfl,_,rfl,_,rfl,_,rfl,g,a,G,sm,os,c,B,d,v,rfl,X.sg,X.hc,X.rep,nd1,O,p.up,rd5,tr,lt5,λw6 H6 b6 lt6 r6=>?_⟩;have b26:bO Pt H2 H6:=λx u n z=>b6 x u n (b25 x u n z);obtain⟨ak16,U,_,_,_⟩:=all H6 b26 lt6;have g1:∀x,aS G sm os (.str x)->Gd sm (fF sm c x)/\aS G sm os (fF sm c x):=λx hx=>(ch1.tm x hx).symm;have tm1:aS G sm os (flf sm (fF sm c) d):=CT so (λx hx=>(g1 x hx).1) (λx hx=>(g1 x hx).2) tm;have z1:=xE (cL so) (ch1.pb so ho ad) tm0.1;have z2:=z1.sz;have z3:=z1.dp;rw[(hZ so ho tm1).2,tm0.2]at z2;refine⟨g,b,G,sm,os,e,r,flf sm (fF sm c) d,w6,rfl,U.sg,U.hc,U.rep,nd2,N,o.up,r6,IM so ho tm1 dk dk,lt6,λw7 H7 b7 lt7 r7=>?_⟩;rw[CU so (ch2.wish so ho) g1 (λx hx=>(ch2.tm x hx).2) tm]at r7;have dX:depD (flf sm (fU sm (fF sm c) (fF sm e)) d)<=60:=by
   have:=(xE (cL so) (chi.pb so ho ad) tm0.1).dp
   lia
  have b67:bO Pt H6 H7:=b7;have b47:bO Pt H4 H7:=λx u n z=>b7 x u n (b6 x u n (b5 x u n z));refine⟨_,_,lt6.rep b7 (lt5.rep b6 r5),r7,dX,_,rfl,ite_on (λk=>T2 rfl k) λ_=>?_⟩;have n2P:=lt4.ne S.hc λ_=>by simp
  have R:=b47 _ _ n2P S.hc;have lt27:LT Pt H7:=lt7;refine⟨_,rfl,.inr (.inr (.inl ⟨rfl,.inl ⟨k2,R⟩⟩)),l2,k2,rfl,rfl,R,?_⟩;have b28:bO Pt H2 (upd H7 l2 (.dK [])):=λx u n z=>by rw[aC (aD z hl2)];exact b47 x u n (b24 x u n z)
  have lt8:LT Pt (upd H7 l2 (.dK [])):=lt7.butD (bO.upd _ _ _) R;generalize upd H7 l2 (.dK [])=H8 at b28 lt8⊢;obtain⟨ak18,ak28,_,_,_⟩:=all H8 b28 lt8;refine⟨_,rfl,_,rfl,_,rfl,g,a,b,G,sm,os,c,e,B,r,rfl,ak18,ak28,so,ho,nd1,O,p.up,nd2,N,o.up,λl9 gs9 k9 H9 b9 lt9 hl9 gl9 r9 fu9=>?_⟩;have b29:bO Pt H2 H9:=λx u n z=>b9 x u n (b28 x u n z);obtain⟨_,_,_,gl19,r19⟩:=all H9 b29 lt9;exact⟨_,rfl,l9,l1,k9,k1,_,_,rfl,rfl,gl9,gl19,r9,r19,fu9.perm fu1,fu9.dep chi ad,q H9 (λx u n z=>b29 x u n (s2 _ _ (s1 _ _ z))) lt9⟩
structure Bs (K:dq)(C g t o:Addr)(fx:cU)(sm:cC)(os:aV)(H:Hp):Prop where
 sg:iG K C fx sm H g
 ex:∃a b fv sv,H t=some (.tup [.ref a,.ref b])/\H a=some (.lst fv)/\H b=some (.lst sv)/\dU H fx fv/\d8 H sm sv
 so:aW fx sm
 ol:H o=some (.lst (os.map V.str))
 o1:1<=os.length
 o2:os.length<=12
 ho:∀x∈os,bR x
def Bs.lt {C g t o Pt:Addr}{d:cU}{sm:cC}{os:aV}{H H':Hp}(h:Bs K C g t o d sm os H)(l:LT Pt H)(b:bO Pt H H'):Bs K C g t o d sm os H':=by
 obtain⟨sg,⟨a,s,m,i,r,q,p,j,rs⟩,so,ol,o1,o2,ho⟩:=h;have ne:∀{c:Addr} {u:HO},H c=some u->(∀ps,u≠.tbl ps)->H' c=some u:=λ{c u} e n=>b c u (l.ne e n) e;have ts:bK H H':=λc xs e=>ne e λ_=>by simp
 exact⟨l.sg b sg,⟨a,s,m,i,ts _ _ r,ne q λ_=>by simp,ne p λ_=>by simp,j.same ts,rs.same ts⟩,so,ne ol λ_=>by simp,o1,o2,ho⟩
theorem Bs.same {C g t o:Addr}{c:cU}{sm:cC}{os:aV}{H H':Hp}(h:Bs K C g t o c sm os H)(s:aF H H'):Bs K C g t o c sm os H':=by obtain⟨sg,⟨a,p,i,d,m,l,j,e,rs⟩,so,ol,o1,o2,ho⟩:=h;exact⟨sg.same s,⟨a,p,i,d,s _ _ m,s _ _ l,s _ _ j,e.same (bK.of s),rs.same (bK.of s)⟩,so,s _ _ ol,o1,o2,ho⟩
def QH (h:fL K H a xs)(b:bO p H H')(n:∀o,H p≠some (.frz o (.lst xs)))(n2:H p≠some (.lst xs)):fL K H' a xs:=by
 rcases h with(h|⟨o,h⟩)|h
 ·exact .inl (.inl (b _ _ (λz=>n2 (z ▸ h)) h))
 ·exact .inl (.inr ⟨o,b _ _ (λz=>n o (z ▸ h)) h⟩)
 ·exact .inr h
def spLaw (K:dq)(Pt:Addr):Sp:=λvs H Q _=>∃(a:Addr) (ns:List Int),vs=[.ref a]/\fL K H a (ns.map V.int)/\(∀xs,H a≠some (.lst xs))/\ns.length<=63/\LT Pt H/\∀H',Q (.bl true) H'
def XU (a g t o Pt:Addr)(Hb:Hp)(_:Nat)(d:St)(H:Hp):Prop:=∃o1 l j i h e c:Option V,d=[some (.ref a),o1,some (.ref t),some (.ref g),some (.ref o),l,j,i,h,e,c]/\bO Pt Hb H/\LT Pt H
def FD (d:cU)(sm:cC)(os:aV)(c H':Hp)(v:V):Prop:=∃(l:Addr) (fs:List (Str×D)) (kvs:List (cR×V)),v = .ref l/\c l=none/\H' l=some (.dK kvs)/\cG (nw c H') (kd fs) kvs/\Sf d sm os fs
def FD.but {o:cU}{sm:cC}{os:aV}{i H' d:Hp}{v:V}{p:Addr}(h:FD o sm os i H' v)(b:bO p H' d)(n:i p≠none):FD o sm os i d v:=by obtain⟨l,fs,j,e,z,g,r,s⟩:=h;have m:∀{c:Addr},i c=none->c≠p:=λe w=>n (w ▸ e);exact⟨l,fs,j,e,z,b _ _ (m z) g,r.same λc u q=>dJ.mpr ⟨(dJ.mp q).1,b c u (m (dJ.mp q).1) (dJ.mp q).2⟩,s⟩
def YT (p t o:Addr)(g:cU)(sm:cC)(os:aV)(H:Hp)(i:Nat)(c:List V)(d:St)(H':Hp):Prop:=∃e:Option V,d=[e,some (.ref p),some (.ref t),some (.ref o)]/\bO p H H'/\bH H' p/\c.length=i/\∀v∈c,FD g sm os H H' v
def HW:fF sm []=D.str:=funext λx=>iN sm x
section
variable {b e:Nat}{fx:cU}{sm:cC}{os:aV}{χ:Str->D}
def V6 (so:aW fx sm)(ho:∀x∈os,bR x)(c:tM b e fx sm os χ):fU sm χ D.str=χ:=by
 funext x;show flf sm D.str (χ x)=χ x;by_cases h:x∈os
 ·have t:=c.tm x (by unfold aS;exact .inl h);rw[HU t.1,t.2.flt]
 ·rw[c.os x h,fK]
def Fu.f {d:List (Str×D)}(h:Fu χ d)(so:aW fx sm)(ho:∀x∈os,bR x)(c:tM b e fx sm os χ):fF sm d=χ:=by show(λx=>flt sm (phF d x))=χ;rw[h.ph];exact c.again so ho
def OA:fU sm D.str χ=χ:=funext λ_=>fK
def VN:Fu D.str []:=⟨List.nodup_nil,λp=>⟨λh=>(nomatch h),λh=>absurd rfl h.2⟩⟩
def B0 (sg:iG K C fx sm H g)(lt:LT Pt H)(c:H l=none):Ak K C Pt g l fx sm [] [] (upd H l (.dK [])):=⟨sg.same (IA c (aF.upd c)),ec,.nil,lt.same (aF.upd c)⟩
end
def VH (F:fV K "law" "law" qK f fd)(T:Txt mg)(S:dS P w K mg base bU 2 "_law_pot" (spPot K))(W:dS P w K mg base bU 3 "_law_signs" IT)(MK_Signs:WG P w K mg base bU 3 "Signs" C (F2 K C))(Z:dS P w K mg base bU 3 "_law_more" IX)
  (O:dS P w K mg base bU 16 "_law_filling" zA) (Y:dS P w K mg base bU 15 "_law_term" (pF 11)) (I:WF P w K mg base bU 21 "_law_is_further" (spIsU K C Pt)) (B:dS P w K mg base bU 11 "further" (sC K C Pt)) (J:dS P w K mg base bU 10 "looked_over" (qD K C Pt)):yB P w K mg base bU 22 f fd T8 (spLaw K Pt):=by
 refine fV.okG F iY (λvs H Q E h=>?_) (λcdv A outer s H vs Q E hG hr h=>?_)
 ·obtain⟨a,ns,rfl,_⟩:=h;rfl
 ·obtain⟨a,ns,rfl,hs,na,n63,lt,q⟩:=h;have hu:=hr.units
  refine⟨_,(aE (mJ (i:=1) iY.nd rfl (Or.inr rfl) (aU S hr (aA (pv 0) (aA aJ aB))))
   (aE (mJ (i:=2) iY.nd rfl (Or.inr rfl) (aU W hr (aA (pv 1) aB)))
   (aE (bP 3 iY.nd (WW MK_Signs (hr.mono ad) pass0 rfl (aA (cA dM (pv 2) aJ (λ_ _=>rfl)) (aA (cA dM (pv 2) aJ (λ_ _=>rfl)) aB))))
   (aE (mJ (i:=4) iY.nd rfl (Or.inr rfl) (aU Z hr (aA (pv 1) aB)))
   (aE (eT dj rfl (fI rfl T.n_range (aA (aZ (L9 rfl) T.n_max (aA aJ (aA (aZ (AK rfl) T.n_min (aA aJ (aA (aZ mO T.n_len (aA (pv 0) aB)) aB))) aB))) aB)) (h8 5 iY.nd) (aE (mJ (i:=1) iY.nd rfl (Or.inr rfl) (aU S hr (aA (pv 0) (aA (pv 5) aB))))
   (aE (sI (gZ rfl (bN.by (N:=UA) (names:=(aH qK).names) (N':=["_law_turn","_law_pot_here","_law_told","_law_some"]) (src:=[none,some 1,some 2,some 4]) (by decide +kernel) rfl rfl) (fI rfl T.n_range (aA aJ aB)) (λ_ _ _ _=>(eD (i:=0) (dL ["_law_turn","_law_pot_here","_law_told","_law_some"]) rfl (Or.inl rfl))) (λ_ _ _ _=>dW) (λ_ _ _ _=>(aU O hr (aA (pv 1) (aA (pv 2) (aA (pv 3) aB)))))) (WU (n:=3) rfl (jK (h8 6 iY.nd) (jK (h8 7 iY.nd) (jK (h8 8 iY.nd) BP)))))
   (aE (bP 9 iY.nd (aU Y hr (aA (pv 1) (aA (pv 2) (aA (pv 4) (aA aJ (aA aJ aB)))))))
   (aE (bQ (PW.pt (jJ (cZ (aT K rfl (JC I hG (hr.mono ad) pass0 rfl (aA (pv 3) (aA (pv 2) (aA (pv 6) (aA (pv 7) (aA (pv 9) aB)))))) (λ_=>rfl))) (iD (cZ (aT K rfl (JC I hG (hr.mono ad) pass0 rfl (aA (pv 3) (aA (pv 2) (aA (pv 7) (aA (pv 8) (aA (pv 9) aB)))))) (λ_=>rfl)))))) (aG (aL oS)) aO)
   (aE (bP 10 iY.nd (aU B hr (aA (pv 3) (aA (aU B hr (aA (pv 3) (aA (pv 6) (aA (pv 7) aB)))) (aA (pv 8) aB)))))
   (aE (bQ (aR (u7 hu) (pv 10) (aU B hr (aA (pv 3) (aA (pv 6) (aA (aU B hr (aA (pv 3) (aA (pv 7) (aA (pv 8) aB)))) aB))))) (aG (aL oS)) aO)
   (aG (bQ (PW.pt (jJ (aR (u7 hu) (aU B hr (aA (pv 3) (aA (pv 6) (@qS _ _ _ _ aB)))) (aU J hr (aA (pv 3) (aA (pv 6) aB)))) (iD (aR (u7 hu) (aU B hr (aA (pv 3) (@qS _ _ _ _ (aA (pv 6) aB)))) (aU J hr (aA (pv 3) (aA (pv 6) aB))))))) (aG (aL oS)) aO)))))))))
   (aG (aL (dY (JG hu) (aU B hr (aA (pv 3) (@qS _ _ _ _ (@qS _ _ _ _ aB)))) qR)))))))),?_⟩
  try dsimp only[cxOf,Cx.nox]
  clear hr F T hu S W MK_Signs Z O Y I B J hG;simp only[tFor_fn,tComp_fn];refine⟨_,rfl,a,0,ns,rfl,hs,dk,dk,λp x y hp=>?_⟩;have s1:aF H (upd H p (.lst [.int x,.int y])):=aF.upd hp;refine⟨_,rfl,p,rfl,⟨x,y,ec⟩,λt a1 a2 X sm fv sv H2 b2 p2 ht ha hb rf rs so na1 nb1=>?_⟩;refine⟨_,rfl,.ref a1,by rw[ixV_t ht];rfl,_,rfl,.ref a2,by rw[ixV_t ht];rfl,λg dx hg hdx ng=>?_⟩;have s2:aF H2 (upd (upd H2 dx (.own g)) g (.ins C dx [])):=(aF.upd hdx).trans (aF.upd (by rw[aC (Ne.symm ng)];exact hg));refine⟨g,dx,a1,a2,X,sm,fv,sv,rfl,ec,s2 _ _ ha,s2 _ _ hb,rf.same (bK.of s2),rs.same (bK.of s2),so,λH3 b3 sg=>⟨rfl,?_⟩⟩;have s3:aF H2 H3:=λc ob e=>b3 c ob (aD e hg) (s2 _ _ e);have p3:bH H3 p:=by obtain⟨x',y',e⟩:=p2;exact⟨x',y',s3 _ _ e⟩
  refine⟨_,rfl,p,rfl,p3,λo os H6 b6 p6 no ho o1 o2 hw=>?_⟩;have s6:aF H H6:=λc ob e=>b6 c ob (aD e hp) (s3 _ _ (b2 c ob (aD e hp) (s1 _ _ e)));have ts:=bK.ofBut b6 p3;have bs:Bs K C g t o X sm os H6:=by
   obtain⟨x',y',ep⟩:=p3;obtain⟨c1,c2,c3,dx',fs,dm,dn,h1,h2,h3,h4,h5,h6,h7⟩:=sg
   exact⟨⟨c1,c2,c3,dx',fs,dm,dn,b6 _ _ (λz=>by rw[z,ep]at h1;cases h1) h1,h2,h3,h4,h5,b6 _ _ (λz=>by rw[z,ep]at h6;cases h6) h6,b6 _ _ (λz=>by rw[z,ep]at h7;cases h7) h7⟩,
    ⟨a1,a2,fv,sv,ts _ _ (s3 _ _ ht),b6 _ _ na1 (s3 _ _ ha),b6 _ _ nb1 (s3 _ _ hb),(rf.same (bK.of s3)).same ts,(rs.same (bK.of s3)).same ts⟩,so,ho,o1,o2,hw⟩
  have lt6:LT Pt H6:=lt.same s6;have sq6:fL K H6 a (ns.map V.int):=aF.seq s6 hs;clear b6 p6 sg ho o1 o2 hw no rf rs so ts ha hb ht na1 nb1 b2 p2 p3 s1 hp s6 hs lt na hg hdx ng s3 s2 b3;obtain⟨ps,hps⟩:=lt6.tbl;have hlen:((ns.map V.int).length:Int)<=63:=by rw[ae];lia
  refine⟨_,rfl,a,_,rfl,.inl sq6,6,_,rfl,3,_,rfl,_,rfl,by split <;> split <;> lia,by split <;> split <;> lia,?_⟩;generalize hm:(if (if ((ns.map V.int).length:Int)<6 then((ns.map V.int).length:Int)else 6) > 3 then(if ((ns.map V.int).length:Int)<6 then((ns.map V.int).length:Int)else 6)else 3)=m;have hm10:m.toNat<=10:=by rw[←hm];split <;> split <;> lia
  clear hm hlen;refine gF (XU a g t o Pt H6) ⟨_,_,_,_,_,_,_,rfl,bO.refl _ _,lt6⟩ ?_ ?_
  ·rintro i σ H7 hi ⟨o1,o5,o6,o7,o8,o9,o10,rfl,b7,lt7⟩;have bs7:=bs.lt lt6 b7;have sq7:fL K H7 a (ns.map V.int):=QH sq6 b7 (λo' z=>by rw[hps]at z;cases z) (λz=>by rw[hps]at z;cases z);refine⟨_,rfl,_,rfl,a,(0+i:Int),ns,rfl,sq7,dk,dk,λp x y hp=>?_⟩;have s8:aF H7 (upd H7 p (.lst [.int x,.int y])):=aF.upd hp;have p8:bH (upd H7 p (.lst [.int x,.int y])) p:=⟨x,y,ec⟩
   generalize upd H7 p (.lst [.int x,.int y])=H8 at s8 p8⊢;obtain⟨ta,tb,fv,sv,f1,f2,f3,f4,f5⟩:=bs7.ex;have ti8:nQ p t o X sm os H8:=⟨p8,⟨ta,tb,fv,sv,s8 _ _ f1,s8 _ _ f2,s8 _ _ f3,f4.same (bK.of s8),f5.same (bK.of s8),aD f2 hp,aD f3 hp⟩,⟨s8 _ _ bs7.ol,aD bs7.ol hp⟩,bs7.so,bs7.o1,bs7.o2⟩
   have hp8:H8 p≠none:=λz=>by obtain⟨_,_,e⟩:=p8;rw[z]at e;cases e
   refine⟨_,rfl,ad,ad,?_⟩;refine tZ (YT p t o X sm os H8) ⟨_,rfl,bO.refl _ _,p8,rfl,λv hv=>(nomatch hv)⟩ ?_ ?_
   ·rintro j acc σ H9 hj ⟨o0,rfl,b9,p9,la,fa⟩;refine⟨_,rfl,_,rfl,_,rfl,p,t,o,X,sm,os,rfl,ti8.but b9 p9,λl fs kvs H10 b10 p10 hl gl repN nd ln sml=>⟨aj (m:=3) dk ad,_,rfl,b9.trans b10,p10,by rw[au,la];rfl,λv hv=>?_⟩⟩;have back:∀{c:Addr},H9 c=none->H8 c=none:=λ{c} e=>wK b9 (λ_=>by obtain⟨_,_,e3⟩:=p9;rw[e3];simp) e;rcases cx.mp hv with h|h
    ·exact(fa v h).but b10 hp8
    ·rw[cu.mp h];exact⟨l,fs,kvs,rfl,back hl,gl,repN.same λc u z=>dJ.mpr ⟨back (fJ.mp z).1.1,(fJ.mp z).2⟩,nd,ln,sml⟩
   rintro acc σ H9 ⟨o0,rfl,b9,p9,la,fa⟩ q3 hq3;obtain⟨v1,v2,v3,rfl⟩:∃v1 v2 v3,acc=[v1,v2,v3]:=by
    have la:acc.length=3:=la
    match acc,la with
    | [v1,v2,v3],_=>exact⟨v1,v2,v3,rfl⟩
   obtain⟨l1,R,kv1,rfl,n1,g1,r1,L⟩:=fa v1 dl;obtain⟨l2,fs2,kv2,rfl,n2,g2,r2,sf2⟩:=fa v2 dl;obtain⟨l3,fs3,kv3,rfl,n3,g3,r3,sf3⟩:=fa v3 dl;refine⟨q3,_,rfl,.inl ec,rfl,_,_,rfl,_,_,rfl,_,_,rfl,rfl,?_⟩;have b9':=b9.trans (bO.new (p:=p) (o:=.lst [.ref l1,.ref l2,.ref l3]) hq3);have sQ:aF H9 (upd H9 q3 (.lst [.ref l1,.ref l2,.ref l3])):=aF.upd hq3;have p9':bH (upd H9 q3 (.lst [.ref l1,.ref l2,.ref l3])) p:=p9.but (p9.ne hq3);generalize upd H9 q3 (.lst [.ref l1,.ref l2,.ref l3])=HQ at b9' sQ p9'⊢;refine⟨_,rfl,_,rfl,_,rfl,p,t,o,X,sm,os,40,11,rfl,ti8.but b9' p9',ad,ad,ad,λd v H10 b10 p10 r10 tm lv dp=>?_⟩;have s710:aF H7 H10:=λc u e=>b10 c u (aD e hp) (b9' c u (aD e hp) (s8 _ _ e));have lt10:=lt7.same s710;have np:∀{c:Addr},H8 c=none->c≠p:=λe z=>hp8 (z ▸ e);have akO:∀{l:Addr} {fs:List (Str×D)} {kvs:List (cR×V)},H8 l=none->H9 l=some (.dK kvs)->cG (nw H8 H9) (kd fs) kvs->Ak K C Pt g l X sm fs kvs H10:=λ{l fs kvs} n gl r =>
    ⟨bs7.sg.same (IA (s8.free n) s710),b10 _ _ (np n) (sQ _ _ gl),r.same λc u z=>b10 c u (np (dJ.mp z).1) (sQ _ _ (dJ.mp z).2),lt10⟩
   have G:=akO n1 g1 r1;have U:=akO n2 g2 r2;have ak3:=akO n3 g3 r3;have rd10:aY H10 d v:=aY.same (λc u e=>(dJ.mp e).2) r10;have so:=bs.so;have ho:=bs.ho;have o12:=bs.o2;have bs10:=bs7.same s710;have b610:bO Pt H6 H10:=λc u n e=>s710 _ _ (b7 c u n e);clear ti8 s8 p8 hp8 b9 p9 fa hq3 b9' sQ p9' b10 p10 r10 s710 np akO n1 n2 n3 g1 g2 g3 r1 r2 r3 f1 f2 f3 f4 f5 sq7 bs7 hp;have all:∀H',bO Pt H10 H'->LT Pt H'->Ak K C Pt g l1 X sm R kv1 H'/\Ak K C Pt g l2 X sm fs2 kv2 H'/\Ak K C Pt g l3 X sm fs3 kv3 H'/\aY H' d v/\Bs K C g t o X sm os H':=λH' bt lt'=>⟨G.but bt lt',U.but bt lt',ak3.but bt lt',lt10.rep bt rd10,bs10.lt lt10 bt⟩
   have c1:tM 7 8 X sm os (fF sm R):=L.sm.chi so ho ad;have c2:tM 7 8 X sm os (fF sm fs2):=sf2.sm.chi so ho ad;have c3:tM 7 8 X sm os (fF sm fs3):=sf3.sm.chi so ho ad;have c12:tM 49 16 X sm os (fU sm (fF sm R) (fF sm fs2)):=vJ so ho ad ad c1 c2;have c23:tM 49 16 X sm os (fU sm (fF sm fs2) (fF sm fs3)):=vJ so ho ad ad c2 c3;have c123:tM 343 24 X sm os (fU sm (fU sm (fF sm R) (fF sm fs2)) (fF sm fs3)):=vJ so ho ad ad c12 c3;obtain⟨ta,tb,fv,sv,f1,_,f3,_,f5⟩:=bs10.ex;refine⟨_,rfl,_,rfl,_,rfl,_,rfl,_,rfl,g,t,l1,l2,ta,tb,X,sm,os,sv,R,fs2,kv1,kv2,d,v,rfl,G,U,f1,f3,f5,so,ho,o12,L,sf2,rd10,tm,lv,dp,λH11 b11 lt11=>⟨true,rfl,?_⟩⟩;obtain⟨G,U,ak3,rd11,bs11⟩:=all H11 b11 lt11;obtain⟨ta,tb,fv,sv,f1,_,f3,_,f5⟩:=bs11.ex;refine⟨_,rfl,_,rfl,_,rfl,_,rfl,_,rfl,g,t,l2,l3,ta,tb,X,sm,os,sv,fs2,fs3,kv2,kv3,d,v,rfl,U,ak3,f1,f3,f5,so,ho,o12,sf2,sf3,rd11,tm,lv,dp,λH12 b12 lt12=>⟨true,rfl,?_⟩⟩;have b0:=b11.trans b12;clear G U ak3 rd11 bs11 b11 b12 f1 f3 f5;obtain⟨G,U,ak3,_,_⟩:=all H12 b0 lt12;refine⟨_,rfl,_,rfl,_,rfl,_,rfl,g,l1,l2,X,sm,os,R,fs2,kv1,kv2,rfl,G,U,so,ho,L.nd,L.ln,L.sm.up,sf2.nd,sf2.ln,sf2.sm.up,λlA gsA kA HA bA ltA hlA glA rA fuA=>?_⟩;have akA:Ak K C Pt g lA X sm gsA kA HA:=⟨lt12.sg (λx u n z=>dB (bA x u n z) (aD z hlA)) (G.sg.same (g9 _ _)),glA,rA,ltA⟩
   replace b0:=b0.trans bA
   clear G U ak3;obtain⟨G,U,ak3,_,_⟩:=all HA b0 ltA;refine⟨_,rfl,g,lA,l3,X,sm,os,gsA,fs3,kA,kv3,rfl,akA,ak3,so,ho,fuA.nd,fuA.len c12.os o12,fuA.small c12,sf3.nd,sf3.ln,sf3.sm.up,λlB gsB kB HB bB ltB hlB glB rB fuB=>?_⟩;have fuB:Fu (fU sm (fF sm gsA) (fF sm fs3)) gsB:=fuB;rw[fuA.f so ho c12]at fuB
   replace b0:=b0.trans bB
   clear G U ak3 akA rA;obtain⟨G,U,ak3,_,_⟩:=all HB b0 ltB;refine⟨_,rfl,_,rfl,_,rfl,_,rfl,_,rfl,_,rfl,g,l2,l3,X,sm,os,fs2,fs3,kv2,kv3,rfl,U,ak3,so,ho,sf2.nd,sf2.ln,sf2.sm.up,sf3.nd,sf3.ln,sf3.sm.up,λlC gsC kC HC bC ltC hlC glC rC fuC=>?_⟩;have akC:Ak K C Pt g lC X sm gsC kC HC:=⟨ltB.sg (λx u n z=>dB (bC x u n z) (aD z hlC)) (G.sg.same (g9 _ _)),glC,rC,ltC⟩
   replace b0:=b0.trans bC
   clear G U ak3;obtain⟨G,_,_,_,_⟩:=all HC b0 ltC;refine⟨g,l1,lC,X,sm,os,R,gsC,kv1,kC,rfl,G,akC,so,ho,L.nd,L.ln,L.sm.up,fuC.nd,fuC.len c23.os o12,fuC.small c23,λlD gsD kD HD bD ltD hlD glD rD fuD=>?_⟩;have fuD:Fu (fU sm (fF sm R) (fF sm gsC)) gsD:=fuD;have z:fU sm (fU sm (fF sm R) (fF sm fs2)) (fF sm fs3)=fU sm (fF sm R) (fU sm (fF sm fs2) (fF sm fs3)):=L5 so ho c1 c2 c3;rw[fuC.f so ho c23,←z]at fuD;have bBD:=bC.trans bD;have nB:=ltB.ne glB λ_=>by simp
   refine⟨lB,lD,kB,kD,_,_,rfl,rfl,bBD _ _ nB glB,glD,ltB.krep bBD rB,rD,fuB.perm fuD,fuB.dep c123 ad,_,rfl,?_⟩
   replace b0:=b0.trans bD
   clear G akC rB rD rC glC glB glA glD bBD;obtain⟨G,_,_,_,bsD⟩:=all HD b0 ltD;refine⟨_,rfl,_,rfl,λe he=>?_⟩;have sE:aF HD (upd HD e (.dK [])):=aF.upd he;have akE:=B0 bsD.sg ltD he;generalize upd HD e (.dK [])=HE at sE akE⊢;refine⟨g,l1,e,X,sm,os,R,[],kv1,[],rfl,G.same sE,akE,so,ho,L.nd,L.ln,L.sm.up,List.nodup_nil,aw _,λp hp=>(nomatch hp),λlF gsF kF HF bF ltF hlF glF rF fuF=>?_⟩;have fuF:Fu (fU sm (fF sm R) (fF sm [])) gsF:=fuF;rw[HW,V6 so ho c1]at fuF
   replace b0:=b0.trans (λc u n z=>bF c u n (sE _ _ z))
   clear G bsD;obtain⟨G,_,_,_,_⟩:=all HF b0 ltF;refine⟨_,rfl,_,rfl,g,l1,X,sm,os,R,kv1,rfl,G.sg,G.hc,G.rep,lH so ho L.nd L.ln L.sm.up,ltF,λlG kG HG bG ltG hlG glG rG=>?_⟩;have fu1:Fu (fF sm R) (look sm R):=vF L.nd;have nF:=ltF.ne glF λ_=>by simp
   refine⟨lF,lG,kF,kG,_,_,rfl,rfl,bG _ _ nF glF,glG,ltF.krep bG rF,rG,fuF.perm fu1,fuF.dep c1 ad,_,rfl,?_⟩
   replace b0:=b0.trans bG
   clear G rF rG glF glG;obtain⟨G,_,_,_,bsG⟩:=all HG b0 ltG;refine⟨_,rfl,λe2 he2=>⟨_,rfl,?_⟩⟩;have sH:aF HG (upd HG e2 (.dK [])):=aF.upd he2;have akH:=B0 bsG.sg ltG he2;generalize upd HG e2 (.dK [])=HH at sH akH⊢;refine⟨g,e2,l1,X,sm,os,[],R,[],kv1,rfl,akH,G.same sH,so,ho,List.nodup_nil,aw _,λp hp=>(nomatch hp),L.nd,L.ln,L.sm.up,λlI gsI kI HI bI ltI hlI glI rI fuI=>?_⟩;have fuI:Fu (fU sm (fF sm []) (fF sm R)) gsI:=fuI;rw[HW,OA]at fuI
   replace b0:=b0.trans (λc u n z=>bI c u n (sH _ _ z))
   clear G bsG;obtain⟨G,_,_,_,_⟩:=all HI b0 ltI;refine⟨_,rfl,_,rfl,g,l1,X,sm,os,R,kv1,rfl,G.sg,G.hc,G.rep,lH so ho L.nd L.ln L.sm.up,ltI,λlJ kJ HJ bJ ltJ hlJ glJ rJ=>?_⟩;have nI:=ltI.ne glI λ_=>by simp
   refine⟨lI,lJ,kI,kJ,_,_,rfl,rfl,bJ _ _ nI glI,glJ,ltI.krep bJ rI,rJ,fuI.perm fu1,fuI.dep c1 ad,_,rfl,?_⟩;exact⟨_,_,_,_,_,_,_,rfl,λc u n e=>bJ c u n (b0 c u n (b610 c u n e)),ltJ⟩
  ·rintro σ H7 ⟨o1,o5,o6,o7,o8,o9,o10,rfl,b7,lt7⟩;have bs7:=bs.lt lt6 b7;refine⟨_,rfl,λe he=>?_⟩;have s8:aF H7 (upd H7 e (.dK [])):=aF.upd he;have G:=B0 bs7.sg lt7 he;generalize upd H7 e (.dK [])=H8 at s8 G⊢;refine λe2 he2=>?_;have s9:aF H8 (upd H8 e2 (.dK [])):=aF.upd he2;have U:=B0 (bs7.sg.same s8) (lt7.same s8) he2;generalize upd H8 e2 (.dK [])=H9 at s9 U⊢;refine⟨g,e,e2,X,sm,os,[],[],[],[],rfl,G.same s9,U,bs.so,bs.ho,List.nodup_nil,aw _,λp hp=>(nomatch hp),List.nodup_nil,aw _,λp hp=>(nomatch hp),λlF gsF kF HF bF ltF hlF glF rF fuF=>λe3 he3=>?_⟩;have fuF:Fu (fU sm (fF sm []) (fF sm [])) gsF:=fuF;rw[HW,OA]at fuF;refine⟨lF,e3,kF,[],_,_,rfl,rfl,aF.upd he3 _ _ glF,ec,rF.same (aF.upd he3),.nil,fuF.perm VN,λd hd=>?_,q _⟩;obtain⟨p,hp,rfl⟩:=cy.mp hd;exact absurd rfl ((fuF.mem p).mp hp).2
end
end Lw
namespace Lw
open PySem PySem.Spec PyProof.Rows PySem.W L2
def IC {K:Frag}{h:Heap}{x:Str}{c Pt:Addr}(X:K.In h)(d:tabIn K x=some (c,Pt))(C:CodeHd h c Pt):∀h',K.In h'->CodeHd h' c Pt:=by
 have g:∃o,K.lookup c=some o:=by
  unfold tabIn at d;split at d
  ·split at d
   ·split at d
    ·split at d
     ·rename_i v _ _ _ _ _ hc;split at d
      ·cases d;exact⟨_,hc⟩
      ·cases d
     ·cases d
    ·cases d
   ·cases d
  ·cases d
 obtain⟨o,g⟩:=g;obtain⟨u,vs,r1,s,q,p,m,l,j,e,r⟩:=C;intro h' t;have i:=X _ _ g;rw[e]at i;cases i;exact⟨_,vs,r1,s,q,p,m,l,j,t _ _ g,r⟩
def LK {P:Program}{w:World}{K:Frag}{mg mb:jS}{k:Nat}{fa a c Pt:Addr}{fd:FuncData}{x:Str}{sp:Sp}{g:Shared}{vs:cX}{ns:List Int}
  (KX:K.In g.heap) (G:g.heap.Ns mainGlobals mg) (hb:g.heap.Ns builtinsNs mb) (T:∀x:Str,x≠"__name__"->mb x=bootBuiltins x) (I:g.heap.NoLimit) (hg:g.gens = #[])
  (C:g.heap.get? a=some {cls:=.type "list",data:=.seq vs.toArray}) (hi:IntsAre vs ns) (Z:ns.length<=sizeLine) (hr:d9 k callerA)
  (hT:CodeHd g.heap c Pt) (B:g.heap.get? Pt=some (tabObj #[])) (U:K.lookup Pt=none) (hB:Bm mg g.heap)
  (F:∀base:Heap,K.In base->base.Ns mainGlobals mg->Bm mg base->yB P w K mg base bU k fa fd [x] sp) (A:∀(s:Shared) (u:Value),BindsTo s fd ⟨[u],[]⟩ [(x,u)])
  (S:∀H:Hp,(∀xs,H a≠some (.lst xs))->H Pt=some (.tbl #[])->fL K H a (ns.map V.int)->sp [.ref a] H (λv _=>v = .bl true) λ_ _ _=>False) :
  codeAny (model P w) callerA (.call (.ref fa) ⟨[.ref a],[]⟩) (λr i=>r = .ok (.ret (.bool true))/\OldK g.heap i.heap/\i.os=g.os/\AllBare i.gens) g:=by
 have Y:=yV hi;have lenV:=hi.length;have t:Pt≠a:=λz=>by rw[z,C]at B;cases B
 have p:∀H:Hp,H Pt=some (.tbl #[])->(∀b,b≠Pt->H b≠none->b=a/\K.lookup a=none/\∃o xs,H a=some (.frz o (.lst xs)))->fL K H a (ns.map V.int)->hV P w H g.heap ->
   codeAny (model P w) callerA (.call (.ref fa) ⟨[.ref a],[]⟩) (λr i=>r = .ok (.ret (.bool true))/\OldK g.heap i.heap/\i.os=g.os/\AllBare i.gens) g:=by
  intro H hH N hS hok;have free:∀{b:Addr} {o:Obj},g.heap.get? b=some o->o≠tabObj #[]->(b=a->K.lookup a=none->False)->H b=none:=λ{b o} e n n2=>by
   cases q:H b with
   | none=>rfl
   | some u =>
    by_cases z:b=Pt
    ·rw[z,B]at e;exact absurd (Option.some.inj e).symm n
    ·obtain⟨R,E,_⟩:=N b z (by rw[q];simp);exact(n2 R E).elim
  have j:∀{b:Addr} {m:jS},g.heap.Ns b m->(hidT g.heap H).Ns b m:=λ{b m} ⟨o,es,ep,e,d,r⟩=>⟨o,es,ep,xA e (free e (λz=>by rw[z]at d;cases d) (λz _=>by rw[z,C]at e;cases e;cases d)),d,r⟩
  have J:K.In (hidT g.heap H):=λb o e=>xA (KX b o e) (by
   cases q:H b with
   | none=>rfl
   | some u =>
    by_cases z:b=Pt
    ·rw[z,U]at e;cases e
    ·obtain⟨R,E,_⟩:=N b z (by rw[q];simp)
     rw[R,E]at e;cases e)
  have hM:Mod K mg (hidT g.heap H):=⟨J,j G,⟨mb,j hb,T⟩,let⟨mc,h1,h2⟩:=I;⟨mc,j h1,h2⟩⟩
  have hB':Bm mg (hidT g.heap H):=by obtain⟨bm,o,Q,X,e3,O,W,e6,e7⟩:=hB;exact⟨bm,o,Q,X,e3,xA O (free O (λz=>by rw[z]at W;cases W) (λz _=>by rw[z,C]at O;cases O;cases e7)),W,e6,e7⟩
  have e0:yP P w K mg (hidT g.heap H) callerA [] g H:=⟨rfl,hM,λb o e=>RZ e,Nat.le_of_eq (LM _ _),trivial,λb hb=>absurd (show b∈([]:List Addr)from hb) dl,hok,.of_eq hg⟩
  have nl:∀xs,H a≠some (.lst xs):=λxs z=>by obtain⟨_,_,o,ys,e⟩:=N a (Ne.symm t) (by rw[z];simp);rw[z]at e;cases e
  refine codeAny_mono ((F _ J (j G) hB').run callerA [] g H ⟨[.ref a],[]⟩ [.ref a] [.ref a] _ _ rfl hr e0 (A g (.ref a)) (.cons rfl .nil) (S H nl hH hS)) λr i h=>?_;cases r with
  | error e=>exact False.elim h
  | ok fl =>
   cases fl with
   | next=>exact False.elim h
   | brk=>exact False.elim h
   | cont=>exact False.elim h
   | ret u =>
    obtain⟨v,H',os,bare,un,l,r',q⟩:=h;have q':v = .bl true:=q;subst q';obtain rfl:u=Value.bool true:=r';have keep:∀b o,b≠Pt->g.heap.get? b=some o->i.heap.get? b=some o:=λb o n e=>by
     cases q:H b with
     | none=>exact un.keep b o e q (by intro z;exact absurd (show b∈([]:List Addr)from z) dl) dl
     | some u =>
      obtain⟨rfl,_,ob,xs,z⟩:=N b n (by rw[q];simp);have E:=un.frzs b ob _ z;obtain⟨Q,_⟩:=hok b _ z;obtain⟨X,_⟩:=l b _ E;rw[e]at Q;cases Q;exact X
    obtain⟨more,hm⟩:=un.tbls Pt #[] hH;have gP:i.heap.get? Pt=some (tabObj (#[]++more)):=l Pt _ hm;refine⟨rfl,⟨λb o e=>?_,λb o e=>?_⟩,os,bare⟩
    ·by_cases z:b=Pt
     ·subst z;rw[B]at e;cases e;exact .inr (.inl ⟨(hT.tab B).isCodeTable,rfl,#[],more,rfl,gP⟩)
     ·exact .inl (keep b o z e)
    ·by_cases z:b=Pt
     ·subst z;exact⟨_,gP⟩
     ·exact⟨o,keep b o z e⟩
 cases hk:K.lookup a with
 | some o =>
  have e:=KX a o hk;rw[C]at e;cases e;refine p (λb=>if b=Pt then some (.tbl #[])else none) (ai rfl) (λb n z=>absurd (ab n) z) (.inr ⟨_,vs.toArray,_,hk,rfl,rfl,rfl,by rw[ag,lenV];exact Z,by simpa using Y⟩) λb u z=>?_;by_cases hb:b=Pt
  ·have z':=(ai hb).symm.trans z;cases z';subst hb;exact B
  ·have z':=(ab hb).symm.trans z;cases z'
 | none =>
  refine p (λb=>if b=Pt then some (.tbl #[])else if b=a then some (.frz {cls:=.type "list",data:=.seq vs.toArray} (.lst (ns.map V.int)))else none) (ai rfl) (λb n z=>?_) (.inl (.inr ⟨{cls:=.type "list",data:=.seq vs.toArray},(ab (Ne.symm t)).trans (ai rfl)⟩)) (λb u z=>?_)
  ·by_cases hb:b=a
   ·exact⟨hb,hk,_,_,(ab (Ne.symm t)).trans (ai rfl)⟩
   ·exact absurd ((ab n).trans (ab hb)) z
  ·by_cases L:b=Pt
   ·have z':=(ai L).symm.trans z;cases z';subst L;exact B
   ·by_cases hb:b=a
    ·have z':=((ab L).trans (ai hb)).symm.trans z;cases z';subst hb;exact⟨C,by rw[ae];exact Z,vs,_,Y,C⟩
    ·have z':=((ab L).trans (ab hb)).symm.trans z;cases z'
def walkT {l:PySem.W.OpenLaw}{q:Program}{loose:aV}{XP:(jS)->Heap->Prop}{YP:World->Heap->Prop}{d dp:DefRec}{K:Params->PySem.W.Frag}(N:l.most=some 63)(r:d.params.defaults=[])
  (Q:∀(w:World) (h:Heap),YP w h->(K w.params).In h) (L:(recsOf q).find? (λe=>e.name == ("put_in" : Str))=some dp)
  (F:∀(w:World) (mg:jS) (fa:Addr) (h:Heap),(K w.params).In h->h.Ns mainGlobals mg->mg d.name=some (.ref fa) ->
   ∃(v:FuncData) (c Pt:Addr),tabIn (K w.params) "put_in" = some (c,Pt)/\(K w.params).lookup Pt=none/\(∀(s:Shared) (u:Value),BindsTo s v ⟨[u],[]⟩ [("_law_script",u)]) /\
    ∀base:Heap,(K w.params).In base->base.Ns mainGlobals mg->Bm mg base->(∀h,(K w.params).In h->CodeHd h c Pt)->yB l.prog w (K w.params) mg base bU 22 fa v ["_law_script"] (spLaw (K w.params) Pt)) :
  PySem.W.WalkO q loose XP YP l.row.toRowW d [] (λf vs=>PySem.call f vs):=by
 refine Att.FG N r λw s0 I mg mb fa o pm cd doc a vs ns G Y ho hd P p m j i O=>?_;have KX:=Q w _ Y;obtain⟨v,c,Pt,A,t,hb,X⟩:=F w mg fa _ KX G.T.g p;obtain⟨B,S⟩:=tab_of G.T KX L A;have Z:Bm mg I.heap:=by obtain⟨bm,J,e1,e2,x,e4,e5,E⟩:=G.T.bmain;refine⟨bm,J,e1,e2,λz=>?_,x,e4,e5,E⟩;obtain⟨o',es,ep,g1,C,_⟩:=G.T.g;rw[z,g1]at x;cases x;rw[E]at C;cases C
 exact LK KX G.T.g G.T.b G.T.builtins G.T.nolimit O m j (ao i ad) ⟨rfl,ad,ad⟩ B S t Z (λbase kb nb bb=>X base kb nb bb (IC KX A B)) hb
  λH nl U R=>⟨a,ns,rfl,R,nl,i,.inl U,λ_=>rfl⟩
def lenS {P:cX->Prop}(h:us.length=n+1)(k:∀a t,t.length=n->P (a::t)):P us:=by
 cases us
 ·cases h
 ·exact k _ _ (Nat.succ.inj h)
def len1 {P:cX->Prop}(h:us.length=1)(k:∀a,P [a]):P us:=lenS h λa t h=>by cases t;exact k a;cases h
def len2 {P:cX->Prop}(h:us.length=2)(k:∀a b,P [a,b]):P us:=lenS h λa _ h=>len1 (P:=λt=>P (a::t)) h (k a)
def len3 {P:cX->Prop}(h:us.length=3)(k:∀a b c,P [a,b,c]):P us:=lenS h λa _ h=>len2 (P:=λt=>P (a::t)) h (k a)
def len4 {P:cX->Prop}(h:us.length=4)(k:∀a b c d,P [a,b,c,d]):P us:=lenS h λa _ h=>len3 (P:=λt=>P (a::t)) h (k a)
def len5 {P:cX->Prop}(h:us.length=5)(k:∀a b c d e,P [a,b,c,d,e]):P us:=lenS h λa _ h=>len4 (P:=λt=>P (a::t)) h (k a)
def bX (K:PySem.W.Frag)(x:Str)(st:Stmt)(f:Addr):Prop:=(nsIn K mainGlobals x=some (some (.ref f))/\keepIn K (.ref f)=true)/\∃e od kV g pm h c ct d,K.lookup f=some ⟨e,od,.func (PySem.W.fnOf x x (dP st) (cS st) (aH st) .none kV g pm h c ct),d⟩/\codeIn K c x=true
def bX.mk {K:PySem.W.Frag}{x:Str}{st:Stmt}{f:Addr}{g kV h pm d ct:Value}{od i:Option Addr}{e:Array (Option Value)}(a:nsIn K mainGlobals x=some (some (.ref f)))(b:keepIn K (.ref f)=true)(l:K.lookup f=some ⟨g,od,.func (PySem.W.fnOf x x (dP st) (cS st) (aH st) .none kV h pm i d ct),e⟩)(c:codeIn K d x=true):bX K x st f:=⟨⟨a,b⟩,_,_,_,_,_,_,_,_,_,l,c⟩
def bX.use {K:PySem.W.Frag}{x:Str}{st:Stmt}{f:Addr}{h:Heap}{mg:jS}{ps:aV}{R:Prop}(a:bX K x st f)(X:K.In h)(G:h.Ns mainGlobals mg)(ok:∀e,fV K x x st f e->mg x=some (.ref f)->keepIn K (.ref f)=true->eW K e ps []->R)(hb:∀(kV d pm:Value) (an:Option Addr) (cdv ct:Value) (us:cX),us.length=ps.length->bindArgs (PySem.W.fnOf x x (dP st) (cS st) (aH st) .none kV d pm an cdv ct) ⟨us,[]⟩=pure (ps.zip us)):R:=by obtain⟨⟨a,k⟩,_,_,_,_,_,_,_,_,_,l,c⟩:=a;exact ok _ (pO l c k) (dc X G a) k ((pO l c k).binds hb)
def bX.own {K:PySem.W.Frag}{x:Str}{st:Stmt}{f:Addr}{h base:Heap}{mg:jS}{ps:aV}{P:Program}{w:World}{CX:DC}{k:Nat}{sp:Sp}(a:bX K x st f)(X:K.In h)(G:h.Ns mainGlobals mg)(ok:∀d,fV K x x st f d->cH P w K mg base CX k f d ps sp)(hb:∀(kV c pm:Value) (an:Option Addr) (cdv ct:Value) (us:cX),us.length=ps.length->bindArgs (PySem.W.fnOf x x (dP st) (cS st) (aH st) .none kV c pm an cdv ct) ⟨us,[]⟩=pure (ps.zip us)):dS P w K mg base CX k x sp:=a.use X G (λ_ F m k b=>⟨_,_,_,ok _ F,m,k,b⟩) hb
def WA {l:PySem.W.OpenLaw}{w:World}{K:PySem.W.Frag}{h:Heap}{mg:jS}{fa C cc Pt f1 f2 f3 f4 f5 f6 f7 f8 f9 f10 f11 f12 f13 f14 f15 f16 f17 f18 f19 f20 f21 f22 f23 f24 f25 f26 f27 f28 f29 f30 f31 f32 f33 f34 f35 f36 f37 f38 f39 f40 f41 f42 f43 f44 f45 f46 f47:Addr}(X:K.In h)(G:h.Ns mainGlobals mg)(hfa:mg "law" = some (.ref fa))
  {od15 an15 od16 an16 od27 an27 od40 an40:Option Addr} {sl15 sl16 sl27 sl40:Array (Option Value)} {oc15 kV15 dc15 pm15 ct15 cd15 oc16 kV16 dc16 pm16 ct16 cd16 oc27 kV27 dc27 pm27 ct27 oc40 kV40 dc40 pm40 ct40 cd40:Value} {tk0 tk1 tk2 tk3 tk4 tk5 tk6 tk7:Tok} {odq:Option Addr} {ocq:Value} {vq:pU} {slq:Array (Option Value)}
  (m0:nsIn K mainGlobals "Signs" = some (some (.ref C)))
  (a1:bX K "_law_cell" j6 f1)
  (a2:bX K "_law_pot" mG f2)
  (a3:bX K "_law_take" jZ f3)
  (a4:bX K "_law_word" jY f4)
  (a5:bX K "_law_names" i9 f5)
  (a6:bX K "_law_signs" fE f6)
  (a7:bX K "_law_wishes" iK f7)
  (a8:bX K "_law_leaf" iQ f8)
  (a9:bX K "_law_heads" fG f9)
  (a10:bX K "_law_term" gG f10)
  (a11:bX K "_law_sort" j4 f11)
  (a12:bX K "_law_ahead" fH f12)
  (a13:bX K "_law_opened" iL f13)
  (a14:bX K "_law_flat" eY f14)
  (a15:findIn K (.ref C) "many" = some (some (.ref f15)))
  (l15:K.lookup f15=some ⟨oc15,od15,.func (PySem.W.fnOf "many" "Signs.many" (dP eC) (cS eC) (aH eC) .none kV15 dc15 pm15 an15 cd15 ct15),sl15⟩)
  (c15:codeIn K cd15 "Signs.many" = true)
  (k15:keepIn K (.ref f15)=true)
  (n15:isFn K (.ref f15)=true)
  (a16:findIn K (.ref C) "nought" = some (some (.ref f16)))
  (l16:K.lookup f16=some ⟨oc16,od16,.func (PySem.W.fnOf "nought" "Signs.nought" (dP dH) (cS dH) (aH dH) .none kV16 dc16 pm16 an16 cd16 ct16),sl16⟩)
  (c16:codeIn K cd16 "Signs.nought" = true)
  (k16:keepIn K (.ref f16)=true)
  (n16:isFn K (.ref f16)=true)
  (a17:bX K "is_wish" lN f17)
  (a18:bX K "is_built" mE f18)
  (a19:bX K "check_term" gQ f19)
  (a20:bX K "walked" qI f20)
  (a21:bX K "order_mark" i8 f21)
  (a22:bX K "order_key" iP f22)
  (a23:bX K "opened" qJ f23)
  (a24:bX K "flat_sum" mF f24)
  (a25:bX K "flat_of_parts" fZ f25)
  (a26:bX K "from_within" fQ f26)
  (a27:nsIn K mainGlobals "put_in" = some (some (.ref f27)))
  (l27:K.lookup f27=some ⟨oc27,od27,.func (PySem.W.fnOf "put_in" "put_in" (dP dA) (cS dA) (aH dA) .none kV27 dc27 pm27 an27 (.ref cc) ct27),sl27⟩)
  (c27:codeIn K (.ref cc) "put_in" = true)
  (k27:keepIn K (.ref f27)=true)
  (t2:K.lookup cc=some ⟨ocq,odq,.fields vq,slq⟩)
  (t3:vq[11]?=some (.ref Pt))
  (t0:tabIn K "put_in" = some (cc,Pt))
  (t1:K.lookup Pt=none)
  (a28:bX K "is_term" oE f28)
  (a29:bX K "check_filling" gA f29)
  (a30:bX K "without_idle" eX f30)
  (a31:bX K "looked_over" fP f31)
  (a32:bX K "filled" qM f32)
  (a33:bX K "further" lP f33)
  (a34:bX K "is_name" lO f34)
  (a35:bX K "is_whole" mC f35)
  (a36:bX K "checked_pairs" eI f36)
  (a37:bX K "check_names" eM f37)
  (a38:bX K "check_parts" fR f38)
  (a39:bX K "check_noughts" eJ f39)
  (a40:findIn K (.ref C) "__init__" = some (some (.ref f40)))
  (l40:K.lookup f40=some ⟨oc40,od40,.func (PySem.W.fnOf "__init__" "Signs.__init__" (dP cN) (cS cN) (aH cN) .none kV40 dc40 pm40 an40 cd40 ct40),sl40⟩)
  (c40:codeIn K cd40 "Signs.__init__" = true)
  (k40:keepIn K (.ref f40)=true)
  (n40:isFn K (.ref f40)=true)
  (a41:bX K "_law_own" jI f41)
  (a42:bX K "_law_filling" gU f42)
  (a43:bX K "_law_more" j5 f43)
  (a44:bX K "_law_put" gC f44)
  (a45:bX K "_law_further" gR f45)
  (a46:bX K "_law_is_further" eU f46)
  (a47:bX K "law" qK f47)
  (g1:plainGet K C Str.empty=true)
  (g2:hasDictIn K C=true)
  (g3:plainOver K C=true)
  (g4:findIn K (.ref C) "__setattr__" = some (some (.builtin "object.__setattr__")))
  (h0:findIn K (.ref C) "fixed_rows" = some none)
  (h1:findIn K (.ref C) "sum_rows" = some none)
  (h2:findIn K (.ref C) "many_by_name" = some none)
  (h3:findIn K (.ref C) "nought_by_name" = some none)
  (g5:makesIn K C=true)
  (g6:keepIn K (.ref C)=true)
  (v0:nsIn K mainGlobals "WISH_SIGNS" = some (some (.str "abcdefghijklmnopqrstuvwxyz0123456789" tk0)))
  (v1:nsIn K mainGlobals "LETTERS" = some (some (.str "abcdefghijklmnopqrstuvwxyz" tk1)))
  (v2:nsIn K mainGlobals "LONGEST_WISH" = some (some (.int 9 tk2)))
  (v3:nsIn K mainGlobals "DEEPEST" = some (some (.int 1000 tk3)))
  (v4:nsIn K mainGlobals "LONGEST_NAME" = some (some (.int 6 tk4)))
  (v5:nsIn K mainGlobals "MOST_FIXED" = some (some (.int 12 tk5)))
  (v6:nsIn K mainGlobals "MOST_SUMS" = some (some (.int 3 tk6)))
  (v7:nsIn K mainGlobals "MOST_PARTS" = some (some (.int 3 tk7)))
  (z0:nsIn K mainGlobals "len" = some none)
  (z1:nsIn K mainGlobals "range" = some none)
  (z2:nsIn K mainGlobals "int" = some none)
  (z3:nsIn K mainGlobals "abs" = some none)
  (z4:nsIn K mainGlobals "min" = some none)
  (z5:nsIn K mainGlobals "max" = some none)
  (z6:nsIn K mainGlobals "tuple" = some none)
  (z7:nsIn K mainGlobals "list" = some none)
  (z8:nsIn K mainGlobals "dict" = some none)
  (z9:nsIn K mainGlobals "set" = some none)
  (z10:nsIn K mainGlobals "isinstance" = some none)
  (z11:nsIn K mainGlobals "str" = some none)
  (z12:nsIn K mainGlobals "bool" = some none)
  (z13:nsIn K mainGlobals "sorted" = some none)
  (z14:nsIn K mainGlobals "reversed" = some none)
  (z15:nsIn K mainGlobals "all" = some none)
  (z16:nsIn K mainGlobals "any" = some none)
  (z17:nsIn K mainGlobals "zip" = some none)
  (z18:nsIn K mainGlobals "repr" = some none)
  : ∃(fd:FuncData) (c Pt:Addr),tabIn K "put_in" = some (c,Pt)/\K.lookup Pt=none/\(∀(s:Shared) (v:Value),BindsTo s fd ⟨[v],[]⟩ [("_law_script",v)]) /\
   ∀base:Heap,K.In base->base.Ns mainGlobals mg->Bm mg base->(∀h,K.In h->CodeHd h c Pt)->yB l.prog w K mg base bU 22 fa fd ["_law_script"] (spLaw K Pt):=by
 obtain⟨⟨a47,k47⟩,_,_,kV47,dc47,pm47,an47,cd47,ct47,_,l47,c47⟩:=a47;have e:=hfa.symm.trans (dc X G a47);cases e;have T:Txt mg:=⟨de X G z0,de X G z1,de X G z2,de X G z3,de X G z4,de X G z5,de X G z6,de X G z7,de X G z8,de X G z9,de X G z10,de X G z11,de X G z12,de X G z13,de X G z14,de X G z15,de X G z16,de X G z17,de X G z18,⟨_,dc X G v0,⟨_,rfl⟩⟩,⟨_,dc X G v1,⟨_,rfl⟩⟩,⟨_,dc X G v2,⟨_,rfl⟩⟩,⟨_,dc X G v3,⟨_,rfl⟩⟩,⟨_,dc X G v4,⟨_,rfl⟩⟩,⟨_,dc X G v5,⟨_,rfl⟩⟩,⟨_,dc X G v6,⟨_,rfl⟩⟩,⟨_,dc X G v7,⟨_,rfl⟩⟩⟩
 have cl:MI K C:=⟨g1,g2,g3,g4⟩
 have co:UE K C:=⟨cl,h0,h1,h2,h3⟩
 have F15:=pO (st:=eC) l15 c15 k15;have b15:=F15.binds (ps:=mP) λ_ _ _ _ _ _ us d=>by apply len2 d;intros;rfl
 have F16:=pO (st:=dH) l16 c16 k16;have b16:=F16.binds (ps:=jP) λ_ _ _ _ _ _ us d=>by apply len2 d;intros;rfl
 have F27:=pO (st:=dA) l27 c27 k27;have b27:=F27.binds (ps:=xS) λ_ _ _ _ _ _ us d=>by apply len3 d;intros;rfl
 have F40:=pO (st:=cN) l40 c40 k40;have b40:=F40.binds (ps:=iH) λ_ _ _ _ _ _ us d=>by apply len3 d;intros;rfl
 have F47:=pO (st:=qK) l47 c47 k47;refine⟨PySem.W.fnOf "law" "law" (dP qK) (cS qK) (aH qK) .none kV47 dc47 pm47 an47 cd47 ct47,cc,Pt,t0,t1,λs v=>.of_eq rfl,λbase _ _ hB hC=>?_⟩;have O__law_cell:=a1.own (base:=base) (P:=l.prog) (w:=w) X G (λ_ F=>RY F T) (λ_ _ _ _ _ _ _ d=>by apply len2 d;intros;rfl);have O__law_pot:=a2.own X G (λ_ F=>VG F T O__law_cell) (λ_ _ _ _ _ _ _ d=>by apply len2 d;intros;rfl);have g:=a3.own (base:=base) (P:=l.prog) (w:=w) X G (λ_ F=>RM F T) (λ_ _ _ _ _ _ _ d=>by apply len2 d;intros;rfl);have O__law_word:=a4.own (base:=base) (P:=l.prog) (w:=w) X G (λ_ F=>RJ F T) (λ_ _ _ _ _ _ _ d=>by apply len2 d;intros;rfl);have Z:=a5.own X G (λ_ F=>N2 F T g O__law_word) (λ_ _ _ _ _ _ _ d=>by apply len2 d;intros;rfl);have Y:=a6.own X G (λ_ F=>NY F T g Z) (λ_ _ _ _ _ _ _ d=>by apply len1 d;intros;rfl);have R:=a7.own X G (λ_ F=>N5 F T g) (λ_ _ _ _ _ _ _ d=>by apply len1 d;intros;rfl);have O__law_leaf:=a8.own X G (λ_ F=>RT F T g) (λ_ _ _ _ _ _ _ d=>by apply len3 d;intros;rfl);have O__law_heads:=a9.own (base:=base) (P:=l.prog) (w:=w) X G (λ_ F=>N4 F T) (λ_ _ _ _ _ _ _ d=>by apply len2 d;intros;rfl);have t:=a10.use X G (λ_ F m k b=>NP F T g O__law_leaf O__law_heads m k b 11) (λ_ _ _ _ _ _ _ d=>by apply len5 d;intros;rfl);have O__law_sort:=a11.own (base:=base) (P:=l.prog) (w:=w) X G (λ_ F=>RN F T) (λ_ _ _ _ _ _ _ d=>by apply len1 d;intros;rfl);have p:=λn=>a12.use X G (λ_ F m k b=>KQ F T O__law_sort m k b n) (λ_ _ _ _ _ _ _ d=>by apply len2 d;intros;rfl);have O__law_ahead:=p 16;have S:=a13.own (base:=base) (P:=l.prog) (w:=w) X G (λ_ F=>KY F T) (λ_ _ _ _ _ _ _ d=>by apply len3 d;intros;rfl);have O__law_flat:=a14.use X G (λ_ F m k b=>NQ F T p S m k b 16) (λ_ _ _ _ _ _ _ d=>by apply len2 d;intros;rfl);have O_Signs_many:MH l.prog w K mg base bU 1 C "many" (F1 K C):=⟨f15,_,_,RS F15 T,⟨a15,n15,k15⟩,b15,cl⟩
 have o:MH l.prog w K mg base bU 1 C "nought" (qC K C):=⟨f16,_,_,KZ F16 T,⟨a16,n16,k16⟩,b16,cl⟩
 have J:=a17.own (base:=base) (P:=l.prog) (w:=w) X G (λ_ F=>RK F T) (λ_ _ _ _ _ _ _ d=>by apply len1 d;intros;rfl);have O_is_built:=a18.own X G (λ_ F=>N7 F T J O_Signs_many o) (λ_ _ _ _ _ _ _ d=>by apply len2 d;intros;rfl);have q:=a19.own X G (λ_ F=>N6 F T O_is_built) (λ_ _ _ _ _ _ _ d=>by apply len2 d;intros;rfl);have O_walked:=a20.own (base:=base) (P:=l.prog) (w:=w) X G (λ_ F=>KW F T) (λ_ _ _ _ _ _ _ d=>by apply len1 d;intros;rfl);have U:=a21.own (base:=base) (P:=l.prog) (w:=w) X G (λ_ F=>RQ F T) (λ_ _ _ _ _ _ _ d=>by apply len1 d;intros;rfl);have O_order_key:=a22.own X G (λ_ F=>VI F T U O_walked) (λ_ _ _ _ _ _ _ d=>by apply len1 d;intros;rfl);have O_opened:=a23.own (base:=base) (P:=l.prog) (w:=w) X G (λ_ F=>GJ F T) (λ_ _ _ _ _ _ _ d=>by apply len2 d;intros;rfl);have O_flat_sum:=a24.own X G (λ_ F=>GM F T O_opened O_order_key) (λ_ _ _ _ _ _ _ d=>by apply len3 d;intros;rfl);have z:=a25.own X G (λ_ F=>GK F T o O_flat_sum) (λ_ _ _ _ _ _ _ d=>by apply len3 d;intros;rfl);have N:=a26.own X G (λ_ F=>W0 F T O_walked z) (λ_ _ _ _ _ _ _ d=>by apply len3 d;intros;rfl);have x:dS l.prog w K mg base bU 9 "put_in" (qA K C Pt):=⟨f27,_,_,NZ l27 c27 hC hB N,dc X G a27,k27,b27⟩
 have O_is_term:=a28.own X G (λ_ F=>RU F T q) (λ_ _ _ _ _ _ _ d=>by apply len2 d;intros;rfl);have E:=a29.own X G (λ_ F=>K4 F T J O_is_term) (λ_ _ _ _ _ _ _ d=>by apply len2 d;intros;rfl);have j:=a30.own (base:=base) (P:=l.prog) (w:=w) X G (λ_ F=>RW F T) (λ_ _ _ _ _ _ _ d=>by apply len1 d;intros;rfl);have i:=a31.own X G (λ_ F=>K2 F T E x j) (λ_ _ _ _ _ _ _ d=>by apply len2 d;intros;rfl);have O_filled:=a32.own X G (λ_ F=>K3 F T i q x) (λ_ _ _ _ _ _ _ d=>by apply len3 d;intros;rfl);have L:=a33.own X G (λ_ F=>GL F T i x j) (λ_ _ _ _ _ _ _ d=>by apply len3 d;intros;rfl);have O_is_name:=a34.own (base:=base) (P:=l.prog) (w:=w) X G (λ_ F=>RP F T) (λ_ _ _ _ _ _ _ d=>by apply len1 d;intros;rfl);have O_is_whole:=a35.own (base:=base) (P:=l.prog) (w:=w) X G (λ_ F=>NX F T) (λ_ _ _ _ _ _ _ d=>by apply len1 d;intros;rfl);have A:=a36.own (base:=base) (P:=l.prog) (w:=w) X G (λ_ F=>N1 F T) (λ_ _ _ _ _ _ _ d=>by apply len3 d;intros;rfl);have Q:=a37.own X G (λ_ F=>K1 F T O_is_name) (λ_ _ _ _ _ _ _ d=>by apply len1 d;intros;rfl);have O:=a38.own X G (λ_ F=>N0 F T O_is_whole) (λ_ _ _ _ _ _ _ d=>by apply len1 d;intros;rfl);have B:=a39.own (base:=base) (P:=l.prog) (w:=w) X G (λ_ F=>EC F T) (λ_ _ _ _ _ _ _ d=>by apply len2 d;intros;rfl);have u:WG l.prog w K mg base bU 3 "Signs" C (F2 K C):=⟨f40,_,_,RV F40 T co A Q O B,dc X G m0,⟨g5,a40,n40,g6⟩,b40⟩
 have O__law_own:=a41.own X G (λ_ F=>RO F T g) (λ_ _ _ _ _ _ _ d=>by apply len3 d;intros;rfl);have I:=a42.own X G (λ_ F=>GN F T g O__law_own t) (λ_ _ _ _ _ _ _ d=>by apply len3 d;intros;rfl);have O__law_more:=a43.own X G (λ_ F=>N3 F T R g) (λ_ _ _ _ _ _ _ d=>by apply len1 d;intros;rfl);have O__law_put:=a44.use X G (λ_ F m k b=>Q8 (base:=base) (P:=l.prog) (w:=w) F T m k b 11) (λ_ _ _ _ _ _ _ d=>by apply len2 d;intros;rfl);have H:=a45.own X G (λ_ F=>ED F T O__law_flat O__law_put) (λ_ _ _ _ _ _ _ d=>by apply len3 d;intros;rfl);have r:WF l.prog w K mg base bU 21 "_law_is_further" (spIsU K C Pt):=a46.use X G (λ_ F m k b=>⟨_,_,_,VJ F T H L O_filled,m,k,b⟩) (λ_ _ _ _ _ _ _ d=>by apply len5 d;intros;rfl);exact VH F47 T O__law_pot Y u O__law_more I t r L i
end Lw
open PySem PySem.W PyProof.Rows
set_option maxRecDepth 100000 in
set_option maxHeartbeats 0 in
theorem PySem.Challenge.cw_likefill_k23_whole_further_holds : PySem.Challenge.rw_likefill_k23_whole_further.Holds := by
 obtain⟨d,hdf,hn,k⟩:=Lw.red;refine k ?_
 k_fill
 refine Lw.walkT (l:=PySem.Challenge.rw_likefill_k23_whole_further) rfl hdf (λw h Y=>Y) rfl ?F
 case F =>
  intro w mg fa h KX G hmg;rw[hn]at hmg
  refine' Lw.WA KX G hmg ?_ ?_ ?_ ?_ ?_ ?_ ?_ ?_ ?_ ?_ ?_ ?_ ?_ ?_ ?_ ?_ ?_ ?_ ?_ ?_ ?_ ?_ ?_ ?_ ?_ ?_ ?_ ?_ ?_ ?_ ?_ ?_ ?_ ?_ ?_ ?_ ?_ ?_ ?_ ?_ ?t3 ?t0 ?t1 ?_ ?_ ?_ ?_ ?_ ?_ ?_ ?_ ?_ ?_ ?_ ?_ ?_ ?_ ?_ ?_ ?_ ?_ ?_ ?_ ?_ ?_ ?_ ?_ ?_ ?_ ?_ ?_ ?_ ?_ ?_ ?_ ?_ ?_ ?_ ?_ ?_ ?_ ?_ ?_ ?_ ?_ ?_ ?_ ?_ ?_ ?_ ?_ ?_ ?_ ?_ ?_ ?_ ?_ ?_ ?_ ?_ ?_ ?_ ?_ ?_
  all_goals try first|(refine' Lw.bX.mk ?_ ?_ ?_ ?_ <;> try k_is)|k_is
  (case t3=>rfl);(case t0=>kernel_rfl);(case t1=>kernel_rfl)
end
