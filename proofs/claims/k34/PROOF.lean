import PyProof.Rows.All
import Wide.All
import OpenK.AllK
import Wide.FinOn
import Lean
import PyProof.EqAt
import PyProof.EqKinds
import PyProof.TupleCall
import PyProof.NeKinds
import KE.LcSums
import PyProof.ZipIter
import PyProof.Rows.SumAny
import PyProof.ExcClass3
import PyProof.ExcBaseAll.ValueError
import OpenK.KOwn
import PyProof.EnumFor
import PyProof.EnumMake
import PyProof.TupleIter
import KE.KIsAll
import PyProof.ExcArgsOwn
import PyProof.NsDelKeeps
import KE.KDictOf
import PyProof.AttrMissHeap
import PyProof.AutoSeq1
import KE.KRevIter
import PyProof.TupleOfSeq
import PyProof.CollectIter
import PyProof.TupleOfStr
import PyProof.SliceStr2
import PyProof.StrWalks
import KE.KSortTup
import PyProof.Rows.SetFrom
import PyProof.SetRoads
import PyProof.Rows.SortStr
import PyProof.Walks
import PyProof.CollectWalk
import PyProof.ReprRoads
import PyProof.CallFns
import PyProof.StrCalls2
import PyProof.StrBlock
import PyProof.DictItemsLoops
import KE.KPairComp
import PyProof.FactsAll.range_2
import PyProof.Rows.Tup
import PyProof.DictWalks
import KE.KDictList
import KE.KEqDict
import PyProof.Rows.DictMethods
import PyProof.AutoListH
import PyProof.Rows.StrKeys3
import PyProof.Rows.CountFlat
import PyProof.Rows.MinMaxN
import KE.KLam
import PySem.Challenge.RW_likefill_k34_whole_walks
set_option Elab.async false
set_option linter.all false
set_option maxRecDepth 100000
set_option compiler.extract_closed false
set_option bootstrap.genMatcherCode false
set_option maxHeartbeats 4000000
abbrev eu:=@PyProof.Rows.wpS_lift
abbrev et:=@PyProof.Rows.wpS_pure
abbrev er:=@PyProof.Rows.wpS_bind
abbrev en:=PySem.Around
abbrev eh:=PySem.World
abbrev eg:=PySem.Program
abbrev ef:=PySem.Value
abbrev ee:=PySem.Shared
abbrev d6:=PySem.W.Frag
open Lean Parser.Term in
local macro_rules
  | `(fun $bs:funBinder* => $b) => do
    let c (x : Syntax) := x.isOfKind ``anonymousCtor
    let some i := bs.findIdx? (c ·.raw) | Macro.throwUnsupported
    let xs := bs[i]!.raw[1].getSepArgs
    let n := xs.size
    if n < 3 || xs.any (fun x => !(x.isIdent || x.isOfKind ``hole || c x) || x.getId == `rfl) then Macro.throwUnsupported
    let mut r := b
    if i + 1 < bs.size then r <- `(fun $(bs.extract (i+1) bs.size)* => $b)
    let mut g : TSyntax ``funBinder := ⟨xs[n-1]!⟩
    for k in [0:n-1] do
      let h := mkIdent (<- Macro.addMacroScope (.mkSimple s!"h{k}"))
      r <- `(($h).elim fun $(⟨xs[n-2-k]!⟩) $g => clear% $h; $r)
      g := ⟨h⟩
    `(fun $(bs.extract 0 i)* $g => $r)
abbrev aa:=@PySem.wpAny_bind
abbrev ab:=@if_neg
abbrev ac:=@Nat.le_refl
abbrev af:=@List.length_map
abbrev ag:=@PySem.Heap.get?_push_of_some
abbrev ai:=@List.size_toArray
abbrev aj:=@if_pos
abbrev ak:=@Nat.lt_of_le_of_lt
abbrev ao:=@PySem.wpAny_pure
abbrev aq:=@Nat.le_trans
abbrev ar:=@List.length_cons
abbrev au:=@List.length_append
abbrev av:=@PySem.Heap.get?_push_size
abbrev aw:=@Nat.zero_le
abbrev ax:=@List.mem_cons_self
abbrev ay:=@List.getElem?_eq_getElem
abbrev az:=@List.map_append
abbrev bc:=@List.mem_cons_of_mem
abbrev bf:=@PySem.Heap.lt_size
abbrev bg:=@List.map_cons
abbrev bh:=@Nat.lt_of_lt_of_le
abbrev bi:=@PySem.wpAny_loadPart'
abbrev bj:=@decide_eq_true
abbrev bn:=@List.mem_of_getElem?
abbrev br:=@decide_eq_false
abbrev bu:=@List.append_nil
abbrev bv:=@Nat.ne_of_lt
abbrev bw:=@Array.length_toList
abbrev bx:=@of_decide_eq_true
abbrev bz:=@List.length_take
abbrev bI:=@List.take_length
abbrev bS:=@List.length_drop
abbrev ca:=@List.mem_append_right
abbrev cf:=@List.getElem?_map
abbrev cg:=@Nat.add_le_add_left
abbrev ci:=@List.lookup_cons
abbrev cj:=@Nat.lt_irrefl
abbrev ck:=@Bool.eq_iff_iff
abbrev cm:=@PySem.wpAny_newObj_type
abbrev cp:=@List.mem_append_left
abbrev cq:=@PySem.wpAny_holding
abbrev cr:=@List.length_singleton
abbrev cs:=@List.map_map
abbrev cu:=@List.append_assoc
abbrev cw:=@Int.toNat_natCast
abbrev cx:=@List.getElem?_eq_some_iff
abbrev cy:=@List.mem_singleton
abbrev cz:=@List.mem_cons
abbrev c4:=@List.mem_append
abbrev da:=@List.mem_map
abbrev db:=@beq_eq_false_iff_ne
abbrev dc:=@List.nodup_cons
abbrev de:=@List.mem_filter
abbrev dg:=@PySem.W.mg_of
abbrev dh:=@PySem.W.mg_none_of
abbrev di:=@PySem.F.plainAttrs_list
abbrev dj:=@PySem.F.type_list_append
abbrev dq:=@PySem.F.slot_list_append
abbrev du:=@PySem.PassesOwn.never
abbrev eN:=List (PySem.Addr×PySem.Obj)
abbrev cE:=PySem.Value->PySem.Shared->Prop
abbrev cV:=List (PySem.Str×Int)
abbrev bL:=List (PySem.Str×PySem.Str)
abbrev dA:=List PySem.Value
abbrev bA:=List PySem.Str
abbrev jD:=PySem.Str->Option PySem.Value
abbrev vE:=List PySem.Expr
abbrev lX:=Array PySem.Value
abbrev O3:=Nat->PySem.Heap->Prop
def dw {p:Prop}(h:p:=by decide):p:=h
def dz {p:Prop}(h:p:=by lia):p:=h
def dV {p:Prop}(h:p:=by simp):p:=h
def aI {a b:Prop}(x:a)(y:b):a/\b:=⟨x,y⟩
namespace L2
open PySem
noncomputable def sJ (s:Stmt)(j:Nat):Stmt:=match s with
 | .ClassDef _ _ _ body _ _ _ _ _ _ _=>body.getD j (.Pass ⟨0,0,0,0⟩)
 | _=>.Pass ⟨0,0,0,0⟩
noncomputable def cP (s:Stmt):Arguments:=match s with
 | .FunctionDef _ a _ _ _ _ _ _ _ _=>a
 | _=>{posonlyargs:=[],args:=[],vararg:=none,kwonlyargs:=[],kw_defaults:=[],kwarg:=none,defaults:=[]}
noncomputable def bZ (s:Stmt):List Stmt:=match s with
 | .FunctionDef _ _ b _ _ _ _ _ _ _=>b
 | _=>[]
noncomputable def aZ (s:Stmt):Scope:=match s with
 | .FunctionDef _ _ _ _ _ _ a _ _ _=>a
 | _=>{kind:=.function,names:=[],isGenerator:=false,isCoroutine:=false}
end L2
namespace Lw
open PySem L2
noncomputable def top (i:Nat):Stmt:=PySem.Challenge.pw_likefill_k34_whole_walks.main.body.getD i (.Pass ⟨0,0,0,0⟩)
noncomputable abbrev iR:Stmt:=top 47
noncomputable abbrev gM:Stmt:=top 48
noncomputable abbrev iS:Stmt:=top 49
noncomputable abbrev dG:Stmt:=top 51
noncomputable abbrev pK:Stmt:=top 66
noncomputable abbrev kP:Stmt:=top 21
noncomputable abbrev jP:Stmt:=top 22
noncomputable abbrev gL:Stmt:=top 23
noncomputable abbrev mJ:Stmt:=top 24
noncomputable abbrev gK:Stmt:=top 25
noncomputable abbrev iQ:Stmt:=top 26
noncomputable abbrev mL:Stmt:=top 27
noncomputable abbrev jR:Stmt:=top 28
noncomputable abbrev eP:Stmt:=top 29
noncomputable abbrev fS:Stmt:=top 30
noncomputable abbrev dI:Stmt:=top 31
noncomputable abbrev tH:Stmt:=top 32
noncomputable abbrev kQ:Stmt:=top 11
noncomputable abbrev jO:Stmt:=top 12
noncomputable abbrev eQ:Stmt:=top 13
noncomputable abbrev fU:Stmt:=top 14
noncomputable abbrev fT:Stmt:=top 15
noncomputable abbrev eT:Stmt:=top 16
noncomputable abbrev bY:Stmt:=sJ (top 10) 0
noncomputable abbrev dE:Stmt:=sJ (top 10) 3
noncomputable abbrev cL:Stmt:=sJ (top 10) 4
noncomputable abbrev iU:Stmt:=top 46
noncomputable abbrev iT:Stmt:=top 50
noncomputable abbrev cJ:Stmt:=top 52
noncomputable abbrev cK:Stmt:=top 53
noncomputable abbrev kR:Stmt:=top 54
noncomputable abbrev fK:Stmt:=top 55
noncomputable abbrev fI:Stmt:=top 56
noncomputable abbrev eL:Stmt:=top 57
noncomputable abbrev gQ:Stmt:=top 58
noncomputable abbrev eE:Stmt:=top 59
noncomputable abbrev c6:Stmt:=top 60
noncomputable abbrev d8:Stmt:=top 61
noncomputable abbrev eM:Stmt:=top 62
noncomputable abbrev gN:Stmt:=top 63
noncomputable abbrev fJ:Stmt:=top 64
noncomputable abbrev gR:Stmt:=top 65
noncomputable abbrev pL:Stmt:=top 34
noncomputable abbrev jS:Stmt:=top 33
noncomputable abbrev jQ:Stmt:=top 36
noncomputable abbrev dJ:Stmt:=top 37
noncomputable abbrev tG:Stmt:=top 40
noncomputable abbrev fR:Stmt:=top 41
noncomputable abbrev mK:Stmt:=top 42
noncomputable abbrev fG:Stmt:=top 43
noncomputable abbrev fH:Stmt:=top 44
noncomputable abbrev dC:Stmt:=sJ (top 10) 2
end Lw
namespace Lw
open PySem PySem.W L2
noncomputable def eO (P:Params)(x:Str)(t:Tok)(v:Value):DictEntry:=⟨PyData.keyHash P x,.str x t,v⟩
noncomputable def eR (P:Params)(x:Str)(t:Tok)(a:Addr):DictEntry:=eO P x t (.ref a)
noncomputable def dO (es:List DictEntry)(n:Nat):Obj:=⟨.type "dict",none,.dict es.toArray n,#[]⟩
noncomputable def fO (x q:Str)(st:Stmt)(m:Str)(t:Tok)(c:Addr):Obj:=⟨.type "function",none,.func (fnOf x q (cP st) (bZ st) (aZ st) .none .none .none (.str m t) none (.ref c) .none),#[]⟩
noncomputable def cO (x q:Str)(t1 a t3:Tok)(l n f:Int)(r1:Addr)(b:Bool)(g:Int)(d:Addr)(u v w:Value)(c:Addr)(e:Int)(t4:Tok):Obj :=
 ⟨.type "code",none,.fields #[.str x t1,.str q a,.str "/claim/cut.py" t3,.int l 0,.int n 0,.int 0 0,.int 0 0,.int f 0,.ref r1,.bool b,.int g 0,.ref d,u,v,w,.ref c,.int e 0,.int l 0,.str "/claim/cut.py" t4],#[]⟩
noncomputable def gO (x:Str)(st:Stmt)(m:Str)(t:Tok)(c:Addr):Obj:=fO x x st m t c
noncomputable def hO (x:Str)(t1 a t3:Tok)(l n f:Int)(r1:Addr)(b:Bool)(g:Int)(d:Addr)(u v w:Value)(c:Addr)(e:Int)(t4:Tok):Obj:=cO x x t1 a t3 l n f r1 b g d u v w c e t4
noncomputable def mO0:Str:="law_likefill_k34_whole_walks"
noncomputable def mO1:Str:="likefill.signs"
noncomputable def mO2:Str:="likefill.terms"
noncomputable def mO3:Str:="likefill.walks"
local macro_rules|`(#[$r,$t,$x,$s,$l,$n,$m,$u,$d]::$F)=>do
 let q:=λ(e:Lean.TSyntax `term) k=>Lean.Syntax.mkNumLit (toString (e.raw.isNatLit?.getD 0+k))
 let c:=d.raw.isNatLit?.getD 0
 if c=3 then `((nat_lit $(q r 3),hO $x $t $(q t 1) $(q t 2) $l $n 3 $r true 181 $(q r 1) .none .none .none $(q r 2) $(q t 3) $(q t 4))::(nat_lit $(q r 4),gO $x $s $m $u $(q r 3))::$F) else `((nat_lit $(q r 5),hO $x $t $(q t 1) $(q t 2) $l $n 3 $r true 181 $(q r 1) .none (.ref $(q r 2)) (.ref $(q r 3)) $(q r 4) $(q t c) $(q t (c+1)))::(nat_lit $(q r 6),gO $x $s $m $u $(q r 5))::$F)
noncomputable def K0 (P:Params):PySem.W.Frag :=
 (nat_lit 3,dO [eO P "__name__" 165 (.str "law_likefill_k34_whole_walks" 539),eO P "__doc__" 166 .none,eO P "__package__" 167 .none,eO P "__loader__" 168 (.builtin "__main__.__loader__#opaque"),eO P "__spec__" 169 .none,eR P "__annotations__" 170 6,eR P "__builtins__" 171 4,eO P "__file__" 173 (.str "/claim/cut.py" 172),eO P "__cached__" 174 .none,eR P "LikeError" 206 24,eR P "NoSigns" 222 37,eR P "NoTerm" 238 49,eO P "LETTERS" 242 (.str "abcdefghijklmnopqrstuvwxyz" 241),eO P "LONGEST_NAME" 244 (.int 6 243),eO P "MOST_FIXED" 246 (.int 12 245),eO P "MOST_SUMS" 248 (.int 3 247),eO P "MOST_PARTS" 250 (.int 3 249),eR P "Signs" 310 94,eR P "is_name" 316 103,eR P "is_whole" 323 110,eR P "checked_pairs" 329 115,eR P "check_names" 335 120,eR P "check_parts" 341 125,eR P "check_noughts" 347 130,eO P "WISH_SIGNS" 351 (.str "abcdefghijklmnopqrstuvwxyz0123456789" 350),eO P "LONGEST_WISH" 353 (.int 9 352),eO P "DEEPEST" 355 (.int 1000 354),eR P "is_wish" 361 135,eR P "is_built" 369 142,eR P "check_term" 375 147,eR P "walked" 385 154,eR P "order_mark" 392 161,eR P "order_key" 398 166,eR P "opened" 406 173,eR P "flat_sum" 417 180,eR P "flat_of_parts" 427 187,eR P "from_within" 433 192,eR P "put_in" 443 199,eR P "flat" 451 206,eR P "flat_key" 459 213,eR P "alike" 468 220,eR P "in_pairs" 481 227,eR P "paired" 490 234,eR P "BACK" 508 235,eR P "walk" 514 240,eR P "led_to_flat" 520 245,eR P "placed" 526 250,eR P "steps_of_sum" 532 255,eR P "steps_inward" 538 260,eR P "_law_from" 548 267,eR P "_law_take" 557 274,eR P "_law_signs" 563 279,eR P "_law_leaf" 572 286,eR P "_law_head" 578 291,eR P "_law_term" 594 298,eR P "_law_paired" 600 303,eR P "_law_listed" 606 308,eR P "_law_is" 614 315,eR P "_law_changed" 627 322,eR P "_law_stepped" 643 329,eR P "_law_parts" 653 336,eR P "_law_mixed" 663 343,eR P "_law_bracketed" 673 350,eR P "_law_shuffled" 679 355,eR P "_law_leaves" 685 360,eR P "_law_depth" 691 365,eR P "_law_other" 701 372,eR P "_law_is_step" 708 379,eR P "_law_leads" 720 386,eR P "law" 726 391] 70)::(nat_lit 23,dO [eO P "__module__" 196 (.str "likefill.errors" 187),eO P "__firstlineno__" 200 (.int 2 199),eR P "__static_attributes__" 201 22,eR P "__weakref__" 203 25,eO P "__doc__" 204 .none] 3)::(nat_lit 24,⟨.type "type",none,.cls ⟨"LikeError",[(.type "ValueError")],[(.ref 24),(.type "ValueError"),(.type "Exception"),(.type "BaseException"),(.type "object")],23,"LikeError",true,[],[(.ref 37),(.ref 49)],false,none,false⟩,#[some (.ref 15),none,some (.str "LikeError" 189),some (.str "LikeError" 197),some (.builtin "ValueError.__new__"),some (.bool true)]⟩)::(nat_lit 36,dO [eO P "__module__" 214 (.str "likefill.errors" 187),eO P "__firstlineno__" 218 (.int 4 217),eR P "__static_attributes__" 219 35,eO P "__doc__" 220 .none] 2)::(nat_lit 37,⟨.type "type",none,.cls ⟨"NoSigns",[(.ref 24)],[(.ref 37),(.ref 24),(.type "ValueError"),(.type "Exception"),(.type "BaseException"),(.type "object")],36,"NoSigns",true,[],[],false,none,false⟩,#[some (.ref 28),none,some (.str "NoSigns" 207),some (.str "NoSigns" 215),some (.builtin "ValueError.__new__"),some (.bool true)]⟩)::(nat_lit 48,dO [eO P "__module__" 230 (.str "likefill.errors" 187),eO P "__firstlineno__" 234 (.int 6 233),eR P "__static_attributes__" 235 47,eO P "__doc__" 236 .none] 2)::(nat_lit 49,⟨.type "type",none,.cls ⟨"NoTerm",[(.ref 24)],[(.ref 49),(.ref 24),(.type "ValueError"),(.type "Exception"),(.type "BaseException"),(.type "object")],48,"NoTerm",true,[],[],false,none,false⟩,#[some (.ref 40),none,some (.str "NoTerm" 223),some (.str "NoTerm" 231),some (.builtin "ValueError.__new__"),some (.bool true)]⟩)::(nat_lit 62,cO "__init__" "Signs.__init__" 263 264 265 16 3 3 59 true 181 60 .none .none .none 61 266 267)::(nat_lit 63,fO "__init__" "Signs.__init__" bY "likefill.signs" 239 62)::(nat_lit 76,cO "sums" "Signs.sums" 276 277 278 30 1 3 71 true 181 72 .none (.ref 73) (.ref 74) 75 280 281)::(nat_lit 77,fO "sums" "Signs.sums" dC "likefill.signs" 239 76)::(nat_lit 83,cO "many" "Signs.many" 283 284 285 33 2 3 78 true 181 79 .none (.ref 80) (.ref 81) 82 288 289)::(nat_lit 84,fO "many" "Signs.many" dE "likefill.signs" 239 83)::(nat_lit 90,cO "nought" "Signs.nought" 291 292 293 36 2 3 85 true 181 86 .none (.ref 87) (.ref 88) 89 296 297)::(nat_lit 91,fO "nought" "Signs.nought" cL "likefill.signs" 239 90)::(nat_lit 93,dO [eO P "__module__" 258 (.str "likefill.signs" 239),eO P "__firstlineno__" 262 (.int 14 261),eR P "__init__" 268 63,eR P "fixed" 275 70,eR P "sums" 282 77,eR P "many" 290 84,eR P "nought" 298 91,eR P "__static_attributes__" 303 92,eR P "__dict__" 305 95,eR P "__weakref__" 307 96,eO P "__doc__" 308 .none] 4)::(nat_lit 94,⟨.type "type",none,.cls ⟨"Signs",[(.type "object")],[(.ref 94),(.type "object")],93,"Signs",true,[],[],false,none,false⟩,#[none,none,some (.str "Signs" 251),some (.str "Signs" 259),some (.builtin "object.__new__"),some (.bool true)]⟩)::#[99,311,"is_name",kQ,38,1,mO1,239,3]::#[104,317,"is_whole",jO,42,1,mO1,239,4]::#[111,324,"checked_pairs",eQ,44,3,mO1,239,3]::#[116,330,"check_names",fU,51,1,mO1,239,3]::#[121,336,"check_parts",fT,57,1,mO1,239,3]::#[126,342,"check_noughts",eT,63,2,mO1,239,3]::#[131,356,"is_wish",kP,74,1,mO2,348,3]::#[136,362,"is_built",jP,78,2,mO2,348,5]::#[143,370,"check_term",gL,86,2,mO2,348,3]::#[148,376,"walked",mJ,94,1,mO2,348,7]::#[155,386,"order_mark",gK,103,1,mO2,348,4]::#[162,393,"order_key",iQ,107,1,mO2,348,3]::#[167,399,"opened",mL,111,2,mO2,348,5]::#[174,407,"flat_sum",jR,115,3,mO2,348,8]::#[181,418,"flat_of_parts",eP,125,3,mO2,348,7]::#[188,428,"from_within",fS,130,3,mO2,348,3]::#[193,434,"put_in",dI,139,3,mO2,348,7]::#[200,444,"flat",tH,141,2,mO2,348,5]::#[207,452,"flat_key",jS,144,2,mO2,348,5]::#[214,460,"alike",pL,146,3,mO2,348,6]::#[221,471,"in_pairs",jQ,149,3,"likefill.steps",469,8]::#[228,482,"paired",dJ,156,2,"likefill.steps",469,6]::(nat_lit 235,dO [eO P "turn" 493 (.str "turn" 494),eO P "left" 495 (.str "right" 496),eO P "right" 497 (.str "left" 498),eO P "drop" 499 (.str "add" 500),eO P "add" 501 (.str "drop" 502)] 5)::#[236,509,"walk",tG,161,3,mO3,491,3]::#[241,515,"led_to_flat",fR,170,2,mO3,491,3]::#[246,521,"placed",mK,183,1,mO3,491,3]::#[251,527,"steps_of_sum",fG,193,4,mO3,491,3]::#[256,533,"steps_inward",fH,206,4,mO3,491,3]::#[261,541,"_law_from",iU,218,1,mO0,539,5]::#[268,549,"_law_take",iR,221,2,mO0,539,6]::#[275,558,"_law_signs",gM,228,1,mO0,539,3]::#[280,564,"_law_leaf",iS,239,2,mO0,539,6]::#[287,573,"_law_head",iT,244,3,mO0,539,3]::#[292,579,"_law_term",dG,250,4,mO0,539,13]::#[299,595,"_law_paired",cJ,263,2,mO0,539,3]::#[304,601,"_law_listed",cK,273,1,mO0,539,3]::#[309,607,"_law_is",kR,277,2,mO0,539,5]::#[316,615,"_law_changed",fK,279,4,mO0,539,10]::#[323,628,"_law_stepped",fI,293,3,mO0,539,13]::#[330,644,"_law_parts",eL,306,2,mO0,539,7]::#[337,654,"_law_mixed",gQ,313,2,mO0,539,7]::#[344,664,"_law_bracketed",eE,319,3,mO0,539,7]::#[351,674,"_law_shuffled",c6,325,4,mO0,539,3]::#[356,680,"_law_leaves",d8,337,1,mO0,539,3]::#[361,686,"_law_depth",eM,341,1,mO0,539,3]::#[366,692,"_law_other",gN,345,3,mO0,539,7]::#[373,702,"_law_is_step",fJ,350,1,mO0,539,4]::#[380,709,"_law_leads",gR,354,4,mO0,539,9]::#[387,721,"law",pK,365,1,mO0,539,3]::[]
noncomputable def as0:List Addr:=[3,23,24,36,37,48,49,62,63,76,77,83,84,90,91,93,94,102,103,109,110,114,115,119,120,124,125,129,130,134,135,141,142,146,147,153,154,160,161,165,166,172,173,179,180,186,187,191,192,198,199,205,206,212,213,219,220,226,227,233,234,235,239,240,244,245,249,250,254,255,259,260,266,267,273,274,278,279,285,286,290,291,297,298,302,303,307,308,314,315,321,322,328,329,335,336,342,343,349,350,354,355,359,360,364,365,371,372,378,379,385,386,390,391]
noncomputable def without (ks:List Nat):Nat->List Stmt->List Stmt
 | _,[]=>[]
 | i,s::r=>if i∈ks then without ks (i+1) r else s::without ks (i+1) r
noncomputable def lo0:bA:=["BACK"]
noncomputable def q0:Program:={PySem.Challenge.pw_likefill_k34_whole_walks with main:={PySem.Challenge.pw_likefill_k34_whole_walks.main with body:=without [0,4,17,35,38,45] 0 PySem.Challenge.pw_likefill_k34_whole_walks.main.body} }
noncomputable def WR:Shared->Bool:=λs=>xlAt q0 [] s && recOk (RowW.records PySem.Challenge.rw_likefill_k34_whole_walks.row.toRowW) s
def cT (l:bA)(h:l.Nodup:=by decide +kernel):l.Nodup:=h
def Q9 {p q:Program}{a:bA}{Xt:Shared->Bool}{c:Type}{Yf:Shared->c}{Ya:World->c}{N:Nat}
  (e:opening p=plainProg p.main.scope.names) (n:Nat.ble 600 N=true) (d:∀s,fenceModules? p s=some s)
  (h:∀w os,(topFrom treeTable p w N ⟨boot_heap w.params,⟨[]⟩,boot_drawn,boot_toks,os⟩).map (λs=>(openSeen q a (importedModules p.main.body) Xt true s,Yf s))=some (openGood q a,Ya w)):LeftO p q a Xt Yf Ya N:=λw=>by
 obtain⟨s,g,f⟩:=Option.map_eq_some_iff.mp (boot_open e n d w);obtain⟨m,l,j,i,os⟩:=s;cases f;unfold openEnds;rw[g];exact h w os
def VA {Q:World->Prop}(h:∀w:World,Q (w.withFollow row false))(k:∀w:World,Q (w.withFollow row true))(w:World):Q w:=by
 have back:=World.withFollow_self w row;cases b:w.params.followText row with
 | false=>rw[b]at back;exact back ▸ h w
 | true=>rw[b]at back;exact back ▸ k w
noncomputable def run0 (w:World)(os:OsState):Option Shared:=topFrom treeTable PySem.Challenge.rw_likefill_k34_whole_walks.row.prog w 5262 ⟨boot_heap w.params,⟨[]⟩,boot_drawn,boot_toks,os⟩
noncomputable def seen0 (s:Shared):=openSeen q0 lo0 (importedModules PySem.Challenge.rw_likefill_k34_whole_walks.row.prog.main.body) WR true s
def KG (w:World)(os:OsState):Prop:=((run0 w os).map λs=>(seen0 s,as0.map s.heap.get?))=some (openGood q0 lo0,(K0 w.params).map λp=>some p.2)
def run1f (w:World)(os:OsState):KG (w.withFollow "special-get-raises" false) os:=by unfold KG run0 seen0 topFrom;rw[PySem.W.Fast.te14082659384304107361,PySem.W.Fast.te4187177175401517315,PySem.W.Fast.te14364793385576792824];kernel_rfl
def run1t (w:World)(os:OsState):KG (w.withFollow "special-get-raises" true) os:=by unfold KG run0 seen0 topFrom;rw[PySem.W.Fast.te14082659384304107361,PySem.W.Fast.te4187177175401517315,PySem.W.Fast.te14364793385576792824];kernel_rfl
def run1 (w:World)(os:OsState):KG w os:=VA (Q:=λw=>KG w os) (λw=>run1f w os) (λw=>run1t w os) w
def left0:LeftO PySem.Challenge.rw_likefill_k34_whole_walks.row.prog q0 lo0 WR (λs=>as0.map s.heap.get?) (λw=>(K0 w.params).map λp=>some p.2) 5262 :=
 Q9 (by kernel_rfl) (by kernel_rfl) (λs=>by kernel_rfl) run1
def keys0:∀P,as0=(K0 P).map (·.1):=λP=>by kernel_rfl
end Lw
namespace Lw
open PySem PySem.W PyProof.Rows
set_option maxRecDepth 100000 in
set_option maxHeartbeats 0 in
def red:∃d:DefRec,d.params.defaults=[]/\d.name=("law" : Str)/\(WalkO q0 lo0 (XL q0 []) (InK K0) PySem.Challenge.rw_likefill_k34_whole_walks.row.toRowW d [] (λf vs=>PySem.call f vs)->PySem.Challenge.rw_likefill_k34_whole_walks.Holds):=by
 refine' ⟨?d,?a,?b,λh=>?c⟩
 case c =>
  w_on
  refine holds_law (by kernel_rfl) λg=>?_;refine holds_open (q:=q0) (loose:=lo0) (Xt:=WR) (XP:=XL q0 []) (YP:=InK K0) left0 (InK.of keys0) InK.keeps (λs e=>xl_of s (Bool.and_eq_true_iff.mp e).1) XL.keeps (by rfl) (by rfl) (by rfl) (λs e=>recFacts_of (Bool.and_eq_true_iff.mp e).2) (by rfl) g (by decide +kernel) ⟨rfl,rfl,rfl,rfl,rfl,by decide +kernel⟩ (by w_witness2) ?_
  k_fill
  exact h
 case a=>rfl
 case b=>rfl
end Lw
namespace L2
open PySem PySem.Spec PyProof.Rows
abbrev jF:=Sum Int Str
noncomputable def keyIs:jF->ef->Bool
 | .inl k,v=>Value.isInt k v
 | .inr x,v=>Value.isStrOf x v
noncomputable def keyH (w:eh):jF->Int
 | .inl k=>hashInt k
 | .inr x=>hashStr w x
def dW:∀{k:jF} {v:ef},keyIs k v=true->(∃i t,k=Sum.inl i/\v=Value.int i t)\/(∃x t,k=Sum.inr x/\v=Value.str x t)
 | .inl i,v,h=>by
  obtain⟨t,e⟩:=Value.isInt_shape (k:=i) (v:=v) h;exact .inl ⟨i,t,rfl,e⟩
 | .inr x,v,h=>by obtain⟨t,e⟩:=Value.isStrOf_shape (x:=x) (v:=v) h;exact .inr ⟨x,t,rfl,e⟩
def JP (i:Int)(t:Tok):keyIs (.inl i) (.int i t)=true:=by simp[keyIs,Value.isInt]
def qU (x:Str)(t:Tok):keyIs (.inr x) (.str x t)=true:=by simp[keyIs,Value.isStrOf]
def UW (a b:Int):decide ((Sum.inl a:jF)=Sum.inl b)=(a == b):=by
 by_cases e:a=b
 ·subst e;simp
 ·have h:¬(Sum.inl a:jF)=Sum.inl b:=λq=>e (Sum.inl.inj q);rw[br h];exact(db.mpr e).symm
def UT (a b:Str):decide ((Sum.inr a:jF)=Sum.inr b)=decide (a=b):=by
 by_cases e:a=b
 ·subst e;simp
 ·have h:¬(Sum.inr a:jF)=Sum.inr b:=λq=>e (Sum.inr.inj q);rw[br h,br e]
def UV (a:Int)(b:Str):decide ((Sum.inl a:jF)=Sum.inr b)=false:=br (λq=>nomatch q)
def UU (a:Str)(b:Int):decide ((Sum.inr a:jF)=Sum.inl b)=false:=br (λq=>nomatch q)
noncomputable def cN (prog:eg)(w:eh):PySem.KeyKind prog w jF where
 is:=keyIs
 hash:=keyH w
 inj:=λv a b l f=>by
  rcases dW l with⟨i,t,rfl,rfl⟩|⟨x,t,rfl,rfl⟩
  ·rcases dW f with⟨j,u,rfl,e⟩|⟨y,u,rfl,e⟩
   ·injection e with c _;rw[c]
   ·exact nomatch e
  ·rcases dW f with⟨j,u,rfl,e⟩|⟨y,u,rfl,e⟩
   ·exact nomatch e
   ·injection e with c _;rw[c]
 byValue:=λk v h=>by rcases dW h with⟨i,t,rfl,rfl⟩|⟨x,t,rfl,rfl⟩ <;> rfl
 pyHash:=λd h=>by
  rcases dW d with⟨i,t,rfl,rfl⟩|⟨x,t,rfl,rfl⟩
  ·exact wpAny_pyHash_int h
  ·exact wpAny_pyHash_str h
 eqBool:=λg d h=>by
  rcases dW g with⟨i,t,rfl,rfl⟩|⟨x,t,rfl,rfl⟩
  ·rcases dW d with⟨j,u,rfl,rfl⟩|⟨y,u,rfl,rfl⟩
   ·rw[UW]at h;exact wpAny_eqBool_int h
   ·rw[UV]at h;exact SeqAt.EqAt.int_str i t y u _ _ _ _ h
  ·rcases dW d with⟨j,u,rfl,rfl⟩|⟨y,u,rfl,rfl⟩
   ·rw[UU]at h;exact SeqAt.EqAt.str_int x t j u _ _ _ _ h
   ·rw[UT]at h;exact wpAny_eqBool_str h
 «strs»:=λk x t v h=>by
  rcases dW h with⟨i,u,rfl,e⟩|⟨y,u,rfl,e⟩
  ·exact nomatch e
  ·injection e with c _;subst c;cases v <;> rfl
def BR (prog:eg)(w:eh)(i:Int)(t:Tok):(cN prog w).is (.inl i) (.int i t)=true:=JP i t
def BQ (prog:eg)(w:eh)(x:Str)(t:Tok):(cN prog w).is (.inr x) (.str x t)=true:=qU x t
inductive V where
 | non|bl (b:Bool)|int (i:Int)|str (x:Str)|byt (b:Array UInt8)|flt (b:UInt64)|ref (a:Addr)|ty (n:String)
 deriving DecidableEq
def aQ:V->ef->Prop
 | .non,u=>u=Value.none
 | .bl b,u=>u=Value.bool b
 | .int i,u=>∃t,u=Value.int i t
 | .str x,u=>∃t,u=Value.str x t
 | .byt b,u=>∃t,u=Value.bytes b t
 | .flt b,u=>∃t,u=Value.float b t
 | .ref a,u=>u=Value.ref a
 | .ty n,u=>u=Value.type n
abbrev aO:List V->dA->Prop:=Paired aQ
def aO.length (r:aO xs us):xs.length=us.length:=Paired.length r
theorem aO.get:∀{xs:List V} {us:dA} {i:Nat} {x:V},aO xs us->xs[i]?=some x->∃u,us[i]?=some u/\aQ x u
 | _,_,_,_,.nil,e=>by simp at e
 | _,_,0,_,.cons r _,e=>by simp at e;subst e;exact⟨_,rfl,r⟩
 | _,_,i+1,x,.cons _ t,e=>by obtain⟨u,c,a⟩:=aO.get (i:=i) (x:=x) t (by simpa using e);exact⟨u,by simpa using c,a⟩
def aO.set (r:aQ x u):∀{xs:List V} {us:dA} (i:Nat),aO xs us->aO (xs.set i x) (us.set i u)
 | _,_,_,.nil=>.nil
 | _,_,0,.cons _ t=>.cons r t
 | _,_,i+1,.cons q t=>.cons q (aO.set r i t)
def aO.append:∀{xs ys:List V} {us ws:dA},aO xs us->aO ys ws->aO (xs++ys) (us++ws)
 | _,_,_,_,.nil,s=>s
 | _,_,_,_,.cons r t,s=>.cons r (aO.append t s)
def aO.take:∀{xs:List V} {us:dA} (n:Nat),aO xs us->aO (xs.take n) (us.take n)
 | _,_,0,_=>.nil
 | _,_,_+1,.nil=>.nil
 | _,_,n+1,.cons r t=>.cons r (aO.take n t)
def aO.drop:∀{xs:List V} {us:dA} (n:Nat),aO xs us->aO (xs.drop n) (us.drop n)
 | _,_,0,r=>r
 | _,_,_+1,.nil=>.nil
 | _,_,n+1,.cons _ t=>aO.drop n t
def kZ:Option V->Option ef->Prop
 | some v,some u=>aQ v u
 | none,none=>True
 | _,_=>False
def KV {κ:Type}:List (κ×V)->List (κ×ef)->Prop:=Paired λ(p:κ×V) (q:κ×ef)=>p.1=q.1/\aQ p.2 q.2
noncomputable def kV:jF->V
 | .inl i=>.int i
 | .inr x=>.str x
inductive HO where
 /-- a list -/
 | lst (xs:List V)
 /-- a tuple (never changes) -/
 | tup (xs:List V)
 /-- a dict whose keys are ints and texts;one whose keys are tuples of ints and texts (the empty one is both) -/
 | dK (kvs:List (jF×V))|dT (kvs:List (List jF×V))
 /-- a set of ints: its members,its size -/
 | set (S:Int->Bool) (n:Nat)
 /-- an instance of the class at C,its dict at dx,its attributes -/
 | ins (C dx:Addr) (fs:List (Str×V))
 /-- the dict of the instance at x -/
 | own (x:Addr)
 /-- the dict of an exception -/
 | xd (fs:List (Str×V))
 /-- a bound method,f of x -/
 | met (f x:Addr)
 /-- a range object lo,lo+1,.. below hi -/
 | rng (lo hi:Int)
 /-- a thing that is known to the object (the script;a dict while a loop walks it): read,never written while it is so -/
 | frz (o:Obj) (u:HO)
 /-- a code object's table -/
 | tbl (ps:lX)
 /-- any other thing,by what is true of its one object (a def of one's own: SetO a S n:=HO.ext λh=>..) -/
 | ext (φ:Heap->Prop)
abbrev Hp:=Addr->Option HO
noncomputable def upd (H:Hp)(a:Addr)(o:HO):Hp:=λb=>if b=a then some o else H b
def upd_same:upd H a o a=some o:=by unfold upd;rw[aj rfl]
abbrev ew:=@upd_same
def bG (h:b≠a):upd H a o b=H b:=by unfold upd;rw[ab h]
def upk {H:Hp}{a b:Addr}{x:HO}{o:Option HO}(h:b≠a)(e:H b=o):upd H a x b=o:=by rw[bG h];exact e
def upd_upd:upd (upd H a o) a u=upd H a u:=by funext b;unfold upd;split <;> rfl
def aC {H:Hp}{a b:Addr}{o:HO}(h:H a=some o)(h':H b=none):a≠b:=by intro e;subst e;rw[h]at h';cases h'
section
variable (P:eg)(w:eh)
def cD (H:Hp)(h:Heap)(a:Addr):HO->Prop
 | .lst xs=>xs.length<=sizeLine/\∃(its:dA) (n:Nat),aO xs its/\h.get? a=some {cls:=.type "list",data:=.seq its.toArray n}
 | .tup xs=>xs.length<=sizeLine/\∃its:dA,aO xs its/\IsTup h a its.toArray
 | .dK c=>c.length<=sizeLine/\(a == sysModules)=false/\∃vs,KV c vs/\h.DictOf (cN P w) a vs
 | .dT c=>c.length<=sizeLine/\(a == sysModules)=false/\∃xs:List (List jF×Addr×ef),
   Paired (λ(p:List jF×V) (q:List jF×Addr×ef)=>p.1=q.1/\H q.2.1=some (.tup (p.1.map kV))/\aQ p.2 q.2.2) c xs /\
   ∃o es r,h.get? a=some o/\o.ExactDict/\o.data = .dict es r/\es.toList=xs.map (entryOfKey (tupleKind (cN P w)))/\(xs.map (·.1)).Nodup
 | .set S n=>h.SetOf (intKind P w) a S n
 | .ins C e fs=>H e=some (.own a)/\fs.length<=1000/\e≠a/\h.get? a=some (PySem.W.instObj C e) /\
   ∃d,h.Ns1 e d/\(∀f,kZ (fs.lookup f) (d f))/\PySem.Within d (fs.map (·.1))
 | .own _=>∃o,h.get? a=some o
 | .xd fs=>∃d,h.Ns1 a d/\∀f,kZ (fs.lookup f) (d f)
 | .rng l m=>∃t u v,h.get? a=some {cls:=.type "range",data:=.fields #[.int l t,.int m u,.int 1 v]}
 | .frz o u=>h.get? a=some o/\cD H h a u
 | .tbl ps=>h.get? a=some {cls:=.none,data:=.fields ps}
 | .met f x=>h.get? a=some (PySem.W.methodObj (.ref f) (.ref x))
 | .ext g=>g h/\(∃o,h.get? a=some o)/\∀j i:Heap,g j->(∀o,j.get? a=some o->i.get? a=some o)->g i
def iC (H:Hp)(h:Heap):Prop:=∀a o,H a=some o->cD P w H h a o
end
theorem cD.lt (x:cD P w H h a o):a<h.objs.size:=by
 cases o with
 | lst xs=>obtain⟨_,_,_,_,e⟩:=x;exact bf e
 | tup xs=>obtain⟨_,_,_,p⟩:=x;exact p.lt
 | dK c=>obtain⟨_,_,_,_,o,_,_,e,_⟩:=x;exact bf e
 | dT c=>obtain⟨_,_,_,_,o,_,_,e,_⟩:=x;exact bf e
 | set S n=>obtain⟨o,_,_,_,e,_⟩:=x;exact bf e
 | ins C j fs=>obtain⟨_,_,_,e,_⟩:=x;exact bf e
 | own y=>obtain⟨_,e⟩:=x;exact bf e
 | xd fs=>obtain⟨_,⟨_,_,_,e,_⟩,_⟩:=x;exact bf e
 | rng g i=>obtain⟨_,_,_,e⟩:=x;exact bf e
 | frz ob u=>obtain⟨e,_⟩:=x;exact bf e
 | tbl ps=>exact bf (show h.get? a=some _ from x)
 | met f y=>exact bf (show h.get? a=some _ from x)
 | ext d=>obtain⟨_,⟨_,e⟩,_⟩:=x;exact bf e
def Paired.mapP {g e:Type}{F G:g->e->Prop}{d:List g}{c:List e}(h:Paired F d c)(f:∀a b,F a b->G a b):Paired G d c:=by
 induction h with
 | nil=>exact .nil
 | cons r t i=>exact .cons (f _ _ r) i
def cD.stay (x:cD P w H h a o)(k:∀b u,(b=a\/H b=some (.own a))->h.get? b=some u->h'.get? b=some u)
  (ho:∀b,H b=some (.own a)->H' b=some (.own a)) (m:∀b xs,H b=some (.tup xs)->H' b=some (.tup xs)):cD P w H' h' a o:=by
 induction o with
 | lst xs=>obtain⟨z,its,n,r,e⟩:=x;exact⟨z,its,n,r,k _ _ (.inl rfl) e⟩
 | tup xs=>obtain⟨z,its,r,ob,e,c⟩:=x;exact⟨z,its,r,ob,k _ _ (.inl rfl) e,c⟩
 | dK j=>obtain⟨z,y,vs,r,ob,es,g,e,c⟩:=x;exact⟨z,y,vs,r,ob,es,g,k _ _ (.inl rfl) e,c⟩
 | dT j =>
  obtain⟨z,y,xs,r,ob,es,g,e,c⟩:=x;exact⟨z,y,xs,Paired.mapP r λp q z=>⟨z.1,m _ _ z.2.1,z.2.2⟩,ob,es,g,k _ _ (.inl rfl) e,c⟩
 | set S n=>obtain⟨ob,es,g,t,e,c⟩:=x;exact⟨ob,es,g,t,k _ _ (.inl rfl) e,c⟩
 | ins C G fs =>
  obtain⟨d,z,ne,e,i,⟨od,es,g,A,c⟩,r⟩:=x;exact⟨ho _ d,z,ne,k _ _ (.inl rfl) e,i,⟨od,es,g,k _ _ (.inr d) A,c⟩,r⟩
 | own y=>obtain⟨ob,e⟩:=x;exact⟨ob,k _ _ (.inl rfl) e⟩
 | xd fs=>obtain⟨i,⟨od,es,g,e,c⟩,r⟩:=x;exact⟨i,⟨od,es,g,k _ _ (.inl rfl) e,c⟩,r⟩
 | rng E F=>obtain⟨t,u,v,e⟩:=x;exact⟨t,u,v,k _ _ (.inl rfl) e⟩
 | frz ob u l=>obtain⟨e,q⟩:=x;exact⟨k _ _ (.inl rfl) e,l q⟩
 | tbl ps =>
  have e:h.get? a=some {cls:=.none,data:=.fields ps}:=x;show h'.get? a=some {cls:=.none,data:=.fields ps};exact k a _ (.inl rfl) e
 | met f y =>
  have e:h.get? a=some (PySem.W.methodObj (.ref f) (.ref y)):=x;show h'.get? a=some (PySem.W.methodObj (.ref f) (.ref y));exact k a _ (.inl rfl) e
 | ext B=>obtain⟨p,⟨o,e⟩,st⟩:=x;exact⟨st _ _ p λo q=>k _ _ (.inl rfl) q,⟨o,k _ _ (.inl rfl) e⟩,st⟩
def iC.lt (x:iC P w H h)(e:H a=some o):a<h.objs.size:=(x a o e).lt
def iC.fresh (x:iC P w H h)(e:h.objs.size<=a):H a=none:=by
 cases q:H a with
 | none=>rfl
 | some u=>exact absurd (bh (x.lt q) e) (cj _)
def iC.kept (x:iC P w H h)(k:∀b u,h.get? b=some u->h'.get? b=some u):iC P w H h':=λa o e =>
 (x a o e).stay (λb u _ q=>k b u q) (λ_ q=>q) λ_ _ q=>q
def iC.laid (x:iC P w H h)(k:∀b u,h.get? b=some u->h'.get? b=some u)(g:h.objs.size<=a)(new:cD P w (upd H a o) h' a o):iC P w (upd H a o) h':=λb u e=>by
 have d:=x.fresh g;by_cases f:b=a
 ·subst f;rw[ew]at e;cases e;exact new
 ·rw[bG f]at e;exact(x b u e).stay (λc v _ q=>k c v q) (λc q=>upk (aC q d) q) λc xs q=>upk (aC q d) q
def Rd (H:Hp)(a:Addr)(u:HO):Prop:=H a=some u\/∃o,H a=some (.frz o u)
def Rd.ok (r:Rd H a u)(x:iC P w H h):cD P w H h a u:=by
 rcases r with r|⟨o,r⟩
 ·exact x a u r
 ·obtain⟨_,q⟩:=x a _ r;exact q
def WN:Option HO->Prop
 | some (.lst _)=>True
 | some (.dK _)=>True
 | some (.dT _)=>True
 | some (.set _ _)=>True
 | some (.ins _ _ _)=>True
 | some (.ext _)=>True
 | _=>False
def iC.write (ok:iC P w H h)(g:WN (H x))(m:e=x\/H e=some (.own x))(k:∀b u,b≠e->h.get? b=some u->h'.get? b=some u)(l:∃u,h'.get? e=some u)
  (new:cD P w (upd H x o') h' x o'):iC P w (upd H x o') h':=λb u q=>by
 have d:∀c y,H c=some (.own y)->c≠x:=λc y r z=>by subst z;rw[r]at g;exact g
 have f:∀c xs,H c=some (.tup xs)->c≠x:=λc xs r z=>by subst z;rw[r]at g;exact g
 by_cases j:b=x
 ·subst j;rw[ew]at q;cases q;exact new
 ·rw[bG j]at q;by_cases a:b=e
  ·have q':H b=some (.own x):=by
    rcases m with z|z
    ·exact absurd (a.trans z) j
    ·rw[a];exact z
   rw[q]at q';cases q';obtain⟨v,o⟩:=l;exact⟨v,a ▸ o⟩
  ·refine(ok b u q).stay (λc v i r=>k c v ?_ r) (λc r=>upk (d c b r) r) λc xs r=>upk (f c xs r) r;rcases i with rfl|i
   ·exact a
   ·rintro rfl;rcases m with z|z
    ·exact d c b i z
    ·rw[i]at z;cases z;exact j rfl
structure Un (fs ex:List Addr)(H H':Hp)(h h':Heap):Prop where
 keep:∀b o,h.get? b=some o->H b=none->b∉fs->b∉ex->h'.get? b=some o
 slot:∀b o,h.get? b=some o->H b=none->b∈fs->b∉ex->∃sl,h'.get? b=some {o with slots:=sl}
 free:∀b o,h.get? b=some o->H b=none->b∉ex->H' b=none
 there:∀b o,h.get? b=some o->b∉ex->∃o',h'.get? b=some o'
 tups:∀b xs,H b=some (.tup xs)->H' b=some (.tup xs)
 frzs:∀b o u,H b=some (.frz o u)->H' b=some (.frz o u)
 tbls:∀b ps,H b=some (.tbl ps)->∃more,H' b=some (.tbl (ps++more))
def Un.any (u:Un fs ex H H1 h h1)(q:h.get? b=some ob)(n:H b=none)(a:b∉ex):∃d,h1.get? b=some {ob with slots:=d}:=by
 by_cases c:b∈fs
 ·exact u.slot b ob q n c a
 ·exact⟨ob.slots,u.keep b ob q n c a⟩
def Un.kept (k:∀b u,h.get? b=some u->h'.get? b=some u):Un fs ex H H h h' :=
 ⟨λb ob q _ _ _=>k b ob q,λb ob q _ _ _=>⟨ob.slots,k b ob q⟩,λ_ _ _ n _=>n,λb ob q _=>⟨ob,k b ob q⟩,λ_ _ q=>q,λ_ _ _ q=>q,λ_ ps q=>⟨#[],by rw[q];simp⟩⟩
def Un.refl:Un fs ex H H h h:=Un.kept λ_ _ q=>q
def Un.laid (k:∀b u,h.get? b=some u->h'.get? b=some u)(d:h.objs.size<=a)(c:H a=none):Un fs ex H (upd H a o) h h' where
 keep:=λb u q _ _ _=>k b u q
 slot:=λb u q _ _ _=>⟨u.slots,k b u q⟩
 free:=λb u q n _=>upk (bv (bh (bf q) d)) n
 there:=λb u q _=>⟨u,k b u q⟩
 tups:=λb xs q=>upk (aC q c) q
 frzs:=λb u xs q=>upk (aC q c) q
 tbls:=λb ps q=>⟨#[],by rw[bG (aC q c),q];simp⟩
def Un.write (c:WN (H x))(i:e=x\/H e=some (.own x))(k:∀b u,b≠e->h.get? b=some u->h'.get? b=some u)(d:∃u,h'.get? e=some u):Un fs ex H (upd H x o) h h':=by
 have f:∀b,H b=none->b≠x:=λb n z=>by subst z;rw[n]at c;exact c
 have g:∀b,H b=none->b≠e:=λb n z=>by
  subst z;rcases i with r|r
  ·exact f b n r
  ·rw[n]at r;cases r
 have hm:∀b u,H b=some u->¬WN (some u)->b≠x:=λb u q nm z=>by subst z;rw[q]at c;exact nm c
 refine⟨λb u q n _ _=>k b u (g b n) q,λb u q n _ _=>⟨u.slots,k b u (g b n) q⟩,λb u q n _=>upk (f b n) n,λb u q _=>?_,
  λb xs q=>upk (hm b _ q λz=>z) q,λb u xs q=>upk (hm b _ q λz=>z) q,λb ps q=>⟨#[],by rw[bG (hm b _ q λz=>z),q];simp⟩⟩
 by_cases a:b=e
 ·subst a;exact d
 ·exact⟨u,k b u a q⟩
noncomputable def trk (h:Heap)(H:Hp):List Addr:=(List.range h.objs.size).filter λa=>(H a).isSome
noncomputable def hidT (h:Heap)(H:Hp):Heap:=PySem.W.hideAll h (trk h H)
def JS (h:Heap)(H:Hp):(hidT h H).objs.size=h.objs.size:=PySem.W.hideAll_size _ _
def uH (e:h.get? b=some o)(n:H b=none):(hidT h H).get? b=some o :=
 PySem.W.hideAll_get _ e λhm=>by have q:(H b).isSome=true:=(de.mp hm).2;rw[n]at q;simp at q
def Q2 (e:(hidT h H).get? b=some o):h.get? b=some o/\H b=none:=by
 have e':h.get? b=some o:=PySem.W.of_hideAll (trk h H) e;refine⟨e',?_⟩;cases q:H b with
 | none=>rfl
 | some x =>
  have hm:b∈trk h H:=de.mpr ⟨List.mem_range.mpr (bf e'),by simp[q]⟩;have z:(hidT h H).get? b=none:=PySem.W.hideAll_none (trk h H) hm;rw[z]at e;cases e
noncomputable def RX (g h:Heap)(L:Addr):eN:=(List.range h.objs.size).filterMap λa=>if a=L\/(g.get? a).isSome=true then none else(h.get? a).map λo=>(a,o)
noncomputable def rest (g h:Heap)(L d:Addr):eN:=(RX g h L).filter λp=>decide (p.1≠d)
structure Mod (K:d6)(mg:jD)(base:Heap):Prop where
 kin:K.In base
 glob:base.Ns mainGlobals mg
 blt:∃mb,base.Ns builtinsNs mb/\∀x:Str,x≠"__name__"->mb x=bootBuiltins x
 nolimit:base.NoLimit
structure Cx where
 prog:eg
 w:eh
 K:d6
 mg:jD
 base:Heap
 A:en
 N:bA
 s₀:ee
 H₀:Hp
 env:Env
 outer:List Env
 stack:List Env
 ex:List Addr
 fn:Str->Bool
 calm:Bool
 pn:eN
 xe:cE
abbrev wX (X:Cx){α:Type}(t:Sem α)(Q:α->ee->Prop)(E:cE)(s:ee):Prop:=wpAny (model X.prog X.w) X.A t Q E s
noncomputable def frs (l:List Env):List Addr:=l.filterMap (·.frame)
noncomputable abbrev Cx.fs (X:Cx):List Addr:=frs X.outer
def WM (a:Scope)(x:Str):Prop:=a.names.lookup x=some .local\/a.names.lookup x=some .cell\/a.names.lookup x=some .free
def VX (a:Scope)(x:Str):Prop:=a.names.lookup x=some .local\/a.names.lookup x=some .cell
def W1 (env:Env)(h:Heap)(m:jD)(x:Str)(u:ef):Prop :=
 (env.kindOf x=some .local/\m x=some u)\/((env.kindOf x=some .cell\/env.kindOf x=some .free)/\∃c,env.cells.lookup x=some c/\h.IsCell c (some u))
structure Cx.Ok (X:Cx):Prop where
 mod:Mod X.K X.mg X.base
 kind:X.env.scope.kind = .function
 glob:X.env.globals=mainGlobals
 blt:X.env.builtins=builtinsNs
 above:X.s₀.heap.objs.size<=X.env.locals
 inj:∀x y c,X.env.cells.lookup x=some c->X.env.cells.lookup y=some c->x=y
 has:∀x,(X.env.kindOf x=some .cell\/X.env.kindOf x=some .free)->∃c,X.env.cells.lookup x=some c
 cab:∀x c,X.fn x=true->X.env.cells.lookup x=some c->X.s₀.heap.objs.size<=c
 hd:X.calm=true->X.A.handled=none
 frames:X.A.frames=some X.stack
 stk:X.stack=X.outer\/(X.stack=X.env::X.outer/\X.env.frame=some X.env.locals)
 exf:∀b∈X.ex,b≠X.env.locals/\∀x c,X.env.cells.lookup x=some c->c≠b
 bs:∀b o,X.base.get? b=some o->X.s₀.heap.get? b=some o/\X.H₀ b=none
 bsz:X.base.objs.size<=X.s₀.heap.objs.size
 noex:∀b o,X.base.get? b=some o->b∉X.ex
 exfs:∀b∈X.ex,b∉X.fs
 funs:X.s₀.heap.FunFrames X.base X.outer
 frf:∀b∈X.fs,X.H₀ b=none
structure aK (X:Cx)(pins:eN)(σ:List (Option V))(H:Hp)(s:ee):Prop where
 ok:X.Ok
 os:s.os=X.s₀.os
 bare:AllBare s.gens
 base:Un X.fs X.ex X.H₀ H X.s₀.heap s.heap
 loc:∃m,s.heap.Ns X.env.locals m/\∀(i:Nat) (x:Str) (v:V),X.N[i]?=some x->σ[i]?=some (some v)->WM X.env.scope x->∃u,aQ v u/\W1 X.env s.heap m x u
 cell:∀x c,X.env.cells.lookup x=some c->∃v,s.heap.IsCell c v
 free:H X.env.locals=none
 freeC:∀x c,X.env.cells.lookup x=some c->H c=none
 pin:∀p∈X.pn++pins,s.heap.get? p.1=some p.2/\H p.1=none/\p.1≠X.env.locals/\p.1∉X.fs/\∀v,p.2.data≠.cell v
 hok:iC X.prog X.w H s.heap
 len:σ.length=X.N.length
section
variable {X:Cx}{pins:eN}{σ:List (Option V)}{H H':Hp}{s:ee}{h':Heap}
def Cx.Ok.nofr (ok:X.Ok)(e:X.base.get? b=some o):b∉X.fs:=λa=>by have:=(ok.funs.mem a).1;rw[e]at this;cases this
theorem aK.bs (I:aK X pins σ H s):∀b o,X.base.get? b=some o->s.heap.get? b=some o/\H b=none:=λb o e =>
 ⟨I.base.keep b o (I.ok.bs b o e).1 (I.ok.bs b o e).2 (I.ok.nofr e) (I.ok.noex b o e),I.base.free b o (I.ok.bs b o e).1 (I.ok.bs b o e).2 (I.ok.noex b o e)⟩
def aK.bk (I:aK X pins σ H s):∀b o,X.base.get? b=some o->s.heap.get? b=some o:=λb o e=>(I.bs b o e).1
def aK.mod (I:aK X pins σ H s):Mod X.K X.mg X.base:=I.ok.mod
def aK.kIn (I:aK X pins σ H s):X.K.In s.heap:=I.ok.mod.kin.keeps I.bk
def aK.lt (I:aK X pins σ H s):X.env.locals<s.heap.objs.size:=let⟨_,hn,_⟩:=I.loc;hn.lt
def aK.sz (I:aK X pins σ H s):X.s₀.heap.objs.size<=s.heap.objs.size:=aq I.ok.above (Nat.le_of_lt I.lt)
def aK.nofs (I:aK X pins σ H s){a:Addr}(h:s.heap.objs.size<=a):a∉X.fs:=λc=>by obtain⟨_,o,ho,_⟩:=I.ok.funs.mem c;exact absurd (bh (bf ho) (aq I.sz h)) (cj _)
def aK.cne (I:aK X pins σ H s):∀x c,X.env.cells.lookup x=some c->c≠X.env.locals:=λx c e z=>by obtain⟨v,o,ho,hd⟩:=I.cell x c e;obtain⟨m,⟨f,es,g,a,d,_⟩,_⟩:=I.loc;rw[z,a]at ho;cases ho;rw[d]at hd;cases hd
theorem aK.funs (I:aK X pins σ H s):s.heap.FunFrames X.base X.outer:=by
 have all:∀(l:List Env),(∀b∈frs l,b∈X.fs)->X.s₀.heap.FunFrames X.base l->s.heap.FunFrames X.base l:=by
  intro l
  induction l with
  | nil=>intro _ _;trivial
  | cons env r g =>
   intro f hl;obtain⟨j,⟨L,o,a,i,ho,hd⟩,h⟩:=hl;have d:L∈X.fs:=f L (by unfold frs;rw[List.filterMap_cons,a];exact ax);obtain⟨m,e⟩:=I.base.slot L o ho (I.ok.frf L d) d λz=>I.ok.exfs L z d;exact⟨j,⟨L,_,a,i,e,hd⟩,g (λb c=>f b (by unfold frs;rw[List.filterMap_cons,a];exact bc _ c)) h⟩
 exact all X.outer (λ_ c=>c) I.ok.funs
theorem aK.stack (I:aK X pins σ H s):s.heap.FunFrames X.base X.stack:=by
 rcases I.ok.stk with e|⟨e,c⟩
 ·rw[e];exact I.funs
 ·rw[e];obtain⟨m,a,_⟩:=I.loc;refine .cons (by rw[I.ok.kind];decide) c a ?_ I.funs;exact Heap.get?_none_of_le (aq I.ok.bsz I.ok.above)
def aK.stkSub (I:aK X pins σ H s):∀b∈frs X.stack,b∈X.env.locals::X.fs:=λb a=>by
 rcases I.ok.stk with e|⟨e,c⟩
 ·rw[e]at a;exact bc _ a
 ·rw[e]at a;unfold frs at a;rw[List.filterMap_cons,c]at a;exact a
def aK.stkFree (I:aK X pins σ H s):∀b∈frs X.stack,H b=none:=λb a=>by
 rcases cz.mp (I.stkSub b a)with e|a
 ·rw[e];exact I.free
 ·obtain⟨_,o,ho,_⟩:=I.ok.funs.mem a;exact I.base.free b o ho (I.ok.frf b a) λz=>I.ok.exfs b z a
def aK.step {g':Array GenState}{t':Nat}{d':Drawn}{ch:List Addr}(I:aK X pins σ H s)
  (g:∀b∈ch,(b∈X.ex\/X.s₀.heap.objs.size<=b)/\b≠X.env.locals/\(∀x c,X.env.cells.lookup x=some c->c≠b)/\∀p∈X.pn++pins,p.1≠b)
  (keep:∀b o,b≠X.env.locals->b∉X.fs->b∉ch->s.heap.get? b=some o->H b=none->h'.get? b=some o)
  (slot:∀b o,b≠X.env.locals->b∈X.fs->b∉ch->s.heap.get? b=some o->H b=none->∃J,h'.get? b=some {o with slots:=J}) (free:∀b o,b∉ch->s.heap.get? b=some o->H b=none->H' b=none)
  (there:∀b o,b∉ch->s.heap.get? b=some o->∃C,h'.get? b=some C)
  (tups:∀b xs,H b=some (.tup xs)->H' b=some (.tup xs)) (frzs:∀b o u,H b=some (.frz o u)->H' b=some (.frz o u)) (tbls:∀b ps,H b=some (.tbl ps)->∃more,H' b=some (.tbl (ps++more)))
  (ns:∀m,s.heap.Ns X.env.locals m->h'.Ns X.env.locals m) (hok:iC X.prog X.w H' h') (R:AllBare g') :
  aK X pins σ H' {s with heap:=h',gens:=g',drawn:=d',toks:=t'}:=by
 have E:∀b o,X.s₀.heap.get? b=some o->b≠X.env.locals:=λb o e=>bv (bh (bf e) I.ok.above);have j:∀b o,X.s₀.heap.get? b=some o->b∉X.ex->b∉ch:=λb o e a B=>by
  rcases(g b B).1 with z|z
  ·exact a z
  ·exact absurd (bh (bf e) z) (cj _)
 have h:∀x c,X.env.cells.lookup x=some c->∀v,s.heap.IsCell c v->h'.IsCell c v:=λx c e v ⟨o,ho,hd⟩=>by
  have f:c∉ch:=λz=>(g c z).2.2.1 x c e rfl;by_cases N:c∈X.fs
  ·obtain⟨J,q⟩:=slot c o (I.cne x c e) N f ho (I.freeC x c e);exact⟨_,q,hd⟩
  ·exact⟨o,keep c o (I.cne x c e) N f ho (I.freeC x c e),hd⟩
 refine⟨I.ok,I.os,R,⟨λb o e n B a=>?_,λb o e n B a=>?_,λb o e n a=>?_,λb o e a=>?_,λb xs e=>tups b xs (I.base.tups b xs e),λb o xs e=>frzs b o xs (I.base.frzs b o xs e),λb ps e=>?_⟩,?_,λx c e=>?_,?_,λx c e=>?_,λp L=>?_,hok,I.len⟩
 ·exact keep b o (E b o e) B (j b o e a) (I.base.keep b o e n B a) (I.base.free b o e n a)
 ·obtain⟨J,A⟩:=I.base.slot b o e n B a;obtain⟨G,F⟩:=slot b _ (E b o e) B (j b o e a) A (I.base.free b o e n a);exact⟨G,F⟩
 ·obtain⟨C,A⟩:=I.base.there b o e a;exact free b C (j b o e a) A (I.base.free b o e n a)
 ·obtain⟨C,A⟩:=I.base.there b o e a;exact there b C (j b o e a) A
 ·obtain⟨P,A⟩:=I.base.tbls b ps e;obtain⟨O,F⟩:=tbls b _ A;exact⟨P++O,by rw[F,Array.append_assoc]⟩
 ·obtain⟨m,Q,hl⟩:=I.loc;refine⟨m,ns m Q,λi x v A F S=>?_⟩;obtain⟨u,r,l⟩:=hl i x v A F S;refine⟨u,r,?_⟩;rcases l with l|⟨k,c,e,z⟩
  ·exact .inl l
  ·exact .inr ⟨k,c,e,h x c e _ z⟩
 ·obtain⟨v,z⟩:=I.cell x c e;exact⟨v,h x c e v z⟩
 ·obtain⟨m,⟨o,_,_,ho,_⟩,_⟩:=I.loc;exact free _ o (λz=>(g _ z).2.1 rfl) ho I.free
 ·obtain⟨v,o,ho,hd⟩:=I.cell x c e;exact free c o (λz=>(g c z).2.2.1 x c e rfl) ho (I.freeC x c e)
 ·obtain⟨e,n,ne,K,d⟩:=I.pin p L;have f:p.1∉ch:=λz=>(g p.1 z).2.2.2 p L rfl;exact⟨keep p.1 p.2 ne K f e n,free p.1 p.2 f e n,ne,K,d⟩
def aK.un {t':Nat}(I:aK X pins σ H s)(u:Un X.fs [] H H' s.heap h')(hok:iC X.prog X.w H' h'):aK X pins σ H' {s with heap:=h',toks:=t'}:=by
 obtain⟨m,⟨o,es,q,ho,r⟩,_⟩:=id I.loc;obtain⟨i,h⟩:=u.any ho I.free dV
 exact I.step (g':=s.gens) (d':=s.drawn) (ch:=[]) (λ_ z=>nomatch z) (λb o _ c _ e n=>u.keep b o e n c dV) (λb o _ c _ e n=>u.slot b o e n c dV) (λb o _ e n=>u.free b o e n dV) (λb o _ e=>u.there b o e dV) u.tups u.frzs u.tbls (λl hm=>by
  obtain⟨j,d,f,a,g⟩:=hm;rw[ho]at a;cases a
  exact⟨_,d,f,h,g⟩) hok I.bare
def aK.call {g':Array GenState}{t':Nat}{d':Drawn}{ch:List Addr}(I:aK X pins σ H s)(u:Un (frs X.stack) ch H H' s.heap h')(hok:iC X.prog X.w H' h')(l:AllBare g')
  (f:∀b∈ch,(b∈X.ex\/X.s₀.heap.objs.size<=b)/\b≠X.env.locals/\(∀x c,X.env.cells.lookup x=some c->c≠b)/\∀p∈X.pn++pins,p.1≠b) :
  aK X pins σ H' {s with heap:=h',gens:=g',drawn:=d',toks:=t'}:=by
 obtain⟨m,⟨o,es,C,ho,r⟩,_⟩:=id I.loc;obtain⟨v,g⟩:=u.any ho I.free λz=>(f _ z).2.1 rfl
 exact I.step (ch:=ch) f (λb o g q a e n=>u.keep b o e n (λz=>(cz.mp (I.stkSub b z)).elim g q) a) (λb o _ _ a e n=>u.any e n a) (λb o a e n=>u.free b o e n a) (λb o a e=>u.there b o e a) u.tups u.frzs u.tbls (λB hm=>by
  obtain⟨A,h,i,d,j⟩:=hm;rw[ho]at d;cases d
  exact⟨_,h,i,g,j⟩) hok l
def aK.turned {t':Nat}{it:Addr}(I:aK X pins σ H s)(k:∀b o,b≠it->s.heap.get? b=some o->h'.get? b=some o)(g:H it=none)(f:it≠X.env.locals)
  (l:it∈X.ex\/X.s₀.heap.objs.size<=it) (j:∀x c,X.env.cells.lookup x=some c->c≠it) (i:∀p∈X.pn++pins,p.1≠it):aK X pins σ H {s with heap:=h',toks:=t'}:=by
 have d:∀b u,H b=some u->b≠it:=λb u e z=>by rw[z,g]at e;cases e
 refine I.step (g':=s.gens) (d':=s.drawn) (ch:=[it]) (λb h=>?_) (λb o _ _ a e _=>k b o (λz=>a (by simp[z])) e) (λb o _ _ a e _=>⟨o.slots,k b o (λz=>a (by simp[z])) e⟩) (λ_ _ _ _ n=>n)
  (λb o a e=>⟨o,k b o (λz=>a (by simp[z])) e⟩) (λ_ _ e=>e) (λ_ _ _ e=>e) (λb ps e=>⟨#[],by rw[e];simp⟩) (λm hm=>?_) (λb u e=>?_) I.bare
 ·have e:b=it:=by simpa using h
  subst e;exact⟨l,f,j,i⟩
 ·obtain⟨o,es,w,ho,r⟩:=hm;exact⟨o,es,w,k _ o (Ne.symm f) ho,r⟩
 ·refine(I.hok b u e).stay (λc v a q=>k c v ?_ q) (λ_ q=>q) λ_ _ q=>q;rcases a with z|z
  ·rw[z];exact d b u e
  ·exact d c _ z
def aK.tok (I:aK X pins σ H s)(t:Nat):aK X pins σ H {s with toks:=t}:=I.un (h':=s.heap) (t':=t) Un.refl I.hok
def aK.kept {t':Nat}(I:aK X pins σ H s)(k:∀b u,s.heap.get? b=some u->h'.get? b=some u):aK X pins σ H {s with heap:=h',toks:=t'}:=I.un (Un.kept k) (I.hok.kept k)
theorem aK.laid {a:Addr}{o:HO}{t':Nat}(I:aK X pins σ H s)(k:∀b u,s.heap.get? b=some u->h'.get? b=some u)(c:s.heap.objs.size<=a)(new:cD X.prog X.w (upd H a o) h' a o) :
  aK X pins σ (upd H a o) {s with heap:=h',toks:=t'}:=I.un (Un.laid k c (I.hok.fresh c)) (I.hok.laid k c new)
theorem aK.write {x e:Addr}{o:HO}{t':Nat}(I:aK X pins σ H s)(c:WN (H x))(d:e=x\/H e=some (.own x))(k:∀b u,b≠e->s.heap.get? b=some u->h'.get? b=some u)(a:∃u,h'.get? e=some u)
  (new:cD X.prog X.w (upd H x o) h' x o):aK X pins σ (upd H x o) {s with heap:=h',toks:=t'}:=I.un (Un.write c d k a) (I.hok.write c d k a new)
def aK.pins_of {a:eN}(I:aK X pins σ H s)(h:∀p∈a,s.heap.get? p.1=some p.2/\H p.1=none/\p.1≠X.env.locals/\p.1∉X.fs/\∀v,p.2.data≠.cell v):aK X a σ H s :=
 ⟨I.ok,I.os,I.bare,I.base,I.loc,I.cell,I.free,I.freeC,λp c=>(c4.mp c).elim (λz=>I.pin p (cp _ z)) (h p),I.hok,I.len⟩
def BM {N:bA}(c:N.Nodup){i j:Nat}{x:Str}(a:N[i]?=some x)(b:N[j]?=some x):i=j:=by obtain⟨g,e⟩:=cx.mp a;obtain⟨f,d⟩:=cx.mp b;exact(List.getElem_inj c).mp (e.trans d.symm)
def wC {M:Model}{A:en}{E:cE}{i:Nat}{x:Str}{v:V}{u:ef}{Q:Unit->ee->Prop}(I:aK X pins σ H s)(hN:X.N.Nodup)(T:X.N[i]?=some x)(C:VX X.env.scope x)(r:aQ v u)
  (h:∀s',aK X pins (σ.set i (some v)) H s'->(∃a,Heap.SameBut a s.heap s'.heap/\(a=X.env.locals\/X.env.cells.lookup x=some a))->Q () s') (hf:X.fn x=true\/X.env.scope.names.lookup x=some .local:=by first|exact .inl rfl|exact .inr rfl|assumption):wpAny M A (storeName X.env x u) Q E s:=by
 obtain⟨m,hn,hl⟩:=id I.loc;have U:(X.env.scope.kind == .class || (X.env.scope.kind == .module && X.env.locals != X.env.globals))=false:=by rw[I.ok.kind];rfl
 have K:i<σ.length:=by rw[I.len];exact(cx.mp T).1
 have cne:=I.cne;have g:∀{a:Addr} {h':Heap},(∃o,s.heap.get? a=some o/\H a=none)->Heap.SameBut a s.heap h'->iC X.prog X.w H h':=λ{a h'} ha f b ob e=>by
  obtain⟨_,_,F⟩:=ha;refine(I.hok b ob e).stay (λc Z B q=>(f.2 c ?_).trans q) (λ_ q=>q) λ_ _ q=>q;rintro rfl;rcases B with rfl|B
  ·rw[F]at e;cases e
  ·rw[F]at B;cases B
 rcases C with J|J
 ·refine wpAny_storeName_local J hn (λh' hn' f=>?_) U;obtain⟨oL,_,_,hoL,_⟩:=id hn;refine h _ ⟨I.ok,I.os,I.bare,⟨λb o e n P C=>?_,λb o e n P C=>?_,I.base.free,λb o e C=>?_,I.base.tups,I.base.frzs,I.base.tbls⟩,⟨_,hn',λj y v' l G e3=>?_⟩,λy c e=>?_,I.free,I.freeC,λp hp=>?_,g ⟨oL,hoL,I.free⟩ f,by simpa using I.len⟩ ⟨_,f,.inl rfl⟩
  ·exact(f.2 b (bv (bh (bf e) I.ok.above))).trans (I.base.keep b o e n P C)
  ·obtain⟨sl,l⟩:=I.base.slot b o e n P C;exact⟨sl,(f.2 b (bv (bh (bf e) I.ok.above))).trans l⟩
  ·obtain⟨o',l⟩:=I.base.there b o e C;exact⟨o',(f.2 b (bv (bh (bf e) I.ok.above))).trans l⟩
  ·by_cases L:j=i
   ·subst L;rw[T]at l;cases l;rw[List.getElem?_set_self K]at G;cases G;exact⟨u,r,.inl ⟨J,dV⟩⟩
   ·rw[List.getElem?_set_ne (Ne.symm L)]at G;obtain⟨u',r',q⟩:=hl j y v' l G e3;refine⟨u',r',?_⟩;rcases q with⟨k,e⟩|⟨k,c,e,z⟩
    ·refine .inl ⟨k,?_⟩;have:y≠x:=λe=>L (BM hN l (e ▸ T));simp[this,e]
    ·exact .inr ⟨k,c,e,z.sameBut f (cne y c e)⟩
  ·obtain⟨Z,z⟩:=I.cell y c e;exact⟨Z,z.sameBut f (cne y c e)⟩
  ·obtain⟨e,n,ne,nf,d⟩:=I.pin p hp;exact⟨(f.2 p.1 ne).trans e,n,ne,nf,d⟩
 ·have O:X.fn x=true:=by
   rcases hf with z|z
   ·exact z
   ·rw[z]at J;cases J
  obtain⟨c,B⟩:=I.ok.has x (.inl J);obtain⟨Z,z⟩:=I.cell x c B;refine wpAny_storeName_cell I.ok.kind J B z (λh' Y f=>?_);obtain⟨oc,S,R⟩:=id z;refine h {s with heap:=h'} ⟨I.ok,I.os,I.bare,⟨λb o e n P C=>?_,λb o e n P C=>?_,I.base.free,λb o e C=>?_,I.base.tups,I.base.frzs,I.base.tbls⟩,⟨m,hn.sameBut f (Ne.symm (cne x c B)),λj y v' l G e3=>?_⟩,λy c' e=>?_,I.free,I.freeC,λp hp=>?_,g ⟨oc,S,I.freeC x c B⟩ f,by simpa using I.len⟩ ⟨c,f,.inr B⟩
  ·exact(f.2 b (bv (bh (bf e) (I.ok.cab x c O B)))).trans (I.base.keep b o e n P C)
  ·obtain⟨sl,l⟩:=I.base.slot b o e n P C;exact⟨sl,(f.2 b (bv (bh (bf e) (I.ok.cab x c O B)))).trans l⟩
  ·obtain⟨o',l⟩:=I.base.there b o e C;exact⟨o',(f.2 b (bv (bh (bf e) (I.ok.cab x c O B)))).trans l⟩
  ·by_cases L:j=i
   ·subst L;rw[T]at l;cases l;rw[List.getElem?_set_self K]at G;cases G;exact⟨u,r,.inr ⟨.inl J,c,B,Y⟩⟩
   ·rw[List.getElem?_set_ne (Ne.symm L)]at G;obtain⟨u',r',q⟩:=hl j y v' l G e3;refine⟨u',r',?_⟩;rcases q with q|⟨k,c',e,z'⟩
    ·exact .inl q
    ·refine .inr ⟨k,c',e,z'.sameBut f ?_⟩;rintro rfl;exact L (BM hN l (I.ok.inj _ _ _ e B ▸ T))
  ·by_cases W:c'=c
   ·subst W;exact⟨_,Y⟩
   ·obtain⟨w2,z2⟩:=I.cell y c' e;exact⟨w2,z2.sameBut f W⟩
  ·obtain⟨e,n,ne,nf,d⟩:=I.pin p hp;refine⟨(f.2 p.1 ?_).trans e,n,ne,nf,d⟩;intro q;rw[q,S]at e;have q':oc=p.2:=Option.some.inj e;exact d Z (by rw[<-q'];exact R)
def AR {M:Model}{A:en}{E:cE}{i:Nat}{x:Str}{v:V}{u:ef}{Q:Unit->ee->Prop}(I:aK X pins σ H s)(f:X.N.Nodup)(d:X.N[i]?=some x)(c:VX X.env.scope x)(r:aQ v u)
  (h:∀a,aK X pins (σ.set i (some v)) H a->Q () a) (e:X.fn x=true\/X.env.scope.names.lookup x=some .local:=by first|exact .inl rfl|exact .inr rfl|assumption):wpAny M A (storeName X.env x u) Q E s :=
 wC I f d c r (λa g _=>h a g) e
def aK.call' {a:ee}{ch:List Addr}(I:aK X pins σ H s)(ho:a.os=s.os)(u:Un (frs X.stack) ch H H' s.heap a.heap)(hok:iC X.prog X.w H' a.heap)(g:AllBare a.gens)
  (d:∀b∈ch,(b∈X.ex\/X.s₀.heap.objs.size<=b)/\b≠X.env.locals/\(∀x c,X.env.cells.lookup x=some c->c≠b)/\∀p∈X.pn++pins,p.1≠b):aK X pins σ H' a:=by
 obtain⟨h',g',d',t',f⟩:=a;have e:f=s.os:=ho;subst e;exact I.call (g':=g') (t':=t') (d':=d') u hok g d
end
abbrev XK:=ef->Option Addr->Hp->Prop
abbrev St:=List (Option V)
abbrev VK:=V->Hp->Prop
abbrev TE:=St->Hp->VK->Prop
abbrev TT:=St->Hp->(Bool->Hp->Prop)->Prop
abbrev TA:=St->Hp->(List V->Hp->Prop)->Prop
structure jA where
 nx:St->Hp->Prop
 rt:VK
 bk:St->Hp->Prop:=λ_ _=>False
 ct:St->Hp->Prop:=λ_ _=>False
abbrev TS:=jA->St->Hp->Prop
def EP (X:Cx)(a:eN)(c:St)(Q:VK)(u:ef)(d:ee):Prop:=∃v H',aK X a c H' d/\aQ v u/\Q v H'
def TP (X:Cx)(a:eN)(c:St)(Q:Bool->Hp->Prop)(b:Bool)(d:ee):Prop:=∃H',aK X a c H' d/\Q b H'
def AP (X:Cx)(a:eN)(c:St)(Q:List V->Hp->Prop)(us:dA)(d:ee):Prop:=∃vs H',aK X a c H' d/\aO vs us/\Q vs H'
def SP (X:Cx)(c:eN)(D:jA)(f:Flow)(d:ee):Prop :=
 match f with
 | .next=>∃a H',aK X c a H' d/\D.nx a H'
 | .brk=>∃a H',aK X c a H' d/\D.bk a H'
 | .cont=>∃a H',aK X c a H' d/\D.ct a H'
 | .ret u=>∃v a H',aK X c a H' d/\aQ v u/\D.rt v H'
def PE (X:Cx)(e:Expr)(t:TE):Prop :=
 ∀(a:eN) (s:ee) (σ:St) (H:Hp) (Q:VK),aK X a σ H s->t σ H Q->wX X (eval e X.env) (EP X a σ Q) X.xe s
def PT (X:Cx)(e:Expr)(t:TT):Prop :=
 ∀(a:eN) (s:ee) (σ:St) (H:Hp) (Q:Bool->Hp->Prop),aK X a σ H s->t σ H Q->wX X (isTrue e X.env (eval e X.env)) (TP X a σ Q) X.xe s
def PW (X:Cx)(e:Expr)(t:TT):Prop :=
 ∀(a:Sem ef) (pins:eN) (s:ee) (σ:St) (H:Hp) (Q:Bool->Hp->Prop),aK X pins σ H s->t σ H Q->wX X (isTrue e X.env a) (TP X pins σ Q) X.xe s
def PW.pt (h:PW X e t):PT X e t:=h _
def PA (X:Cx)(es:vE)(t:TA):Prop :=
 ∀(a:Pos) (pins:eN) (s:ee) (σ:St) (H:Hp) (Q:List V->Hp->Prop),aK X pins σ H s->t σ H Q->wX X (spliced (backTo a (starEach es X.env))) (AP X pins σ Q) X.xe s
def PS (X:Cx)(st:Stmt)(t:TS):Prop :=
 ∀(a:eN) (s:ee) (σ:St) (H:Hp) (D:jA),aK X a σ H s->t D σ H->wX X (exec st X.env) (SP X a D) X.xe s
def uU (X:Cx)(st:List Stmt)(t:TS):Prop :=
 ∀(a:eN) (s:ee) (σ:St) (H:Hp) (D:jA),aK X a σ H s->t D σ H->wX X (execs st X.env) (SP X a D) X.xe s
def thn {c:Type}{t:Sem c}{Q d:c->ee->Prop}{M:Model}{A:en}{E:cE}{s:ee}(h:wpAny M A t Q E s)(e:∀a s,Q a s->d a s):wpAny M A t d E s:=wpAny_mono h e λ_ _ x=>x
section
variable {X:Cx}
def bin {a b:Expr}{m tb:TE}(B:PE X a m)(A:PE X b tb){c:eN}{s:ee}{d:St}{H:Hp}{R:V->V->Hp->Prop}(I:aK X c d H s)(h:m d H λx j=>tb d j λy e=>R x y e)
  {l:Type} {Q:l->ee->Prop} {f:ef->ef->Sem l}
  (z:∀v u s2 x y e,aK X c d e s2->aQ x v->aQ y u->R x y e->wX X (f v u) Q X.xe s2) :
  wX X (eval a X.env) (λv i=>wX X (eval b X.env) (λu g=>wX X (f v u) Q X.xe g) X.xe i) X.xe s:=by
 refine thn (B c s d H _ I h) λv o ⟨x,j,E,r1,w⟩=>?_;refine thn (A c o d j _ E w) λu s2 ⟨y,e,C,q,r⟩=>?_;exact z v u s2 x y e C r1 q r
def tVar (i:Nat):TE:=λa H Q=>∃v,a[i]?=some (some v)/\Q v H
def tC (v:V):TE:=λ_ H Q=>Q v H
def L9 (z:X.N[i]?=some x)(q:WM X.env.scope x)(hd:(x == ("__debug__" : Str))=false:=by decide)(g:(x == ("__classdict__" : Str))=false:=by decide):PE X (.Name x pos) (tVar i):=by
 intro f s o H Q I h;obtain⟨v,e,h⟩:=h;obtain⟨m,w,hl⟩:=I.loc;obtain⟨u,r,l⟩:=hl i x v z e q;have fin:EP X f o Q u s:=⟨v,H,I,r,h⟩
 rcases l with⟨d,hm⟩|⟨d,c,j,a⟩
 ·exact wpAny_Name (wpAny_loadName_local I.ok.kind d w hm fin) hd
 ·rcases d with d|d
  ·exact wpAny_Name (wpAny_loadName_cell I.ok.kind d j a fin) hd
  ·exact wpAny_Name (wpAny_loadName_free I.ok.kind d j a fin g) hd
def aB {i j pos}:PE X (.Constant (.int i) j pos) (tC (.int i)):=λ_ _ _ H _ I h=>wpAny_Constant_int ⟨.int i,H,I.tok _,⟨_,rfl⟩,h⟩
def jY {b j pos}:PE X (.Constant (.bool b) j pos) (tC (.bl b)):=λ_ _ _ H _ I h=>Constant_bool ⟨.bl b,H,I,rfl,h⟩
def eZ {j pos}:PE X (.Constant .none j pos) (tC .non):=λ_ _ _ H _ I h=>Constant_none ⟨.non,H,I,rfl,h⟩
def cI {x j pos}:PE X (.Constant (.str x) j pos) (tC (.str x)):=λ_ _ _ H _ I h=>Calls.Constant_str ⟨.str x,H,I.tok _,⟨_,rfl⟩,h⟩
def Gl (X:Cx)(x:Str):Prop:=X.env.kindOf x=some .globalImplicit
def sI {E:cE}{a:eN}{s:ee}{d:St}{H:Hp}{x:Str}{u:ef}{c:Pos}{Q:cE}(I:aK X a d H s)(e:Gl X x)(hm:X.mg x=some u)(h:Q u s)
  (hd:(x == ("__debug__" : Str))=false:=by decide):wX X (eval (.Name x c) X.env) Q E s :=
 Calls.Name_function_global I.ok.kind e (Calls.loadGlobal_global (by rw[I.ok.glob];exact I.mod.glob.keeps I.bk) hm h) hd
def kG {E:cE}{a:eN}{s:ee}{d:St}{H:Hp}{x:Str}{u:ef}{c:Pos}{Q:cE}(I:aK X a d H s)(g:Gl X x)(hm:X.mg x=none)(e:bootBuiltins x=some u)(h:Q u s)
  (f:x≠"__name__":=by decide) (hd:(x == ("__debug__" : Str))=false:=by decide):wX X (eval (.Name x c) X.env) Q E s:=by
 obtain⟨l,j,i⟩:=I.mod.blt;exact Calls.Name_function_global I.ok.kind g (Calls.loadGlobal_builtin (by rw[I.ok.glob];exact I.mod.glob.keeps I.bk) hm (by rw[I.ok.blt];exact j.keeps I.bk) ((i x f).trans e) h) hd
def P8 (a:Gl X x)(hm:X.mg x=some u)(r:aQ v u)(hd:(x == ("__debug__" : Str))=false:=by decide):PE X (.Name x pos) (tC v) :=
 λ_ _ _ H _ I h=>sI I a hm ⟨v,H,I,r,h⟩ hd
def F5 (d:Gl X x)(hm:X.mg x=none)(a:bootBuiltins x=some u)(r:aQ v u)(c:x≠"__name__":=by decide)(hd:(x == ("__debug__" : Str))=false:=by decide):PE X (.Name x pos) (tC v) :=
 λ_ _ _ H _ I h=>kG I d hm a ⟨v,H,I,r,h⟩ c hd
variable {a b:Expr}{ta tb:TE}{pos:Pos}
variable {tA tB':TT}{rest:vE}
def tAnd (t u:TT):TT:=λa H Q=>t a H λc d=>if c=true then u a d Q else Q false d
def tOr (t u:TT):TT:=λa H Q=>t a H λc d=>if c=true then Q true d else u a d Q
def tNot (t:TT):TT:=λa H Q=>t a H λc d=>Q (!c) d
def lG (g:PT X a tA):PW X (.BoolOp .And [a] pos) tA:=by
 intro i d s f H Q I h;refine isTrue_and (thn (g d s f H Q I h) λc j e=>?_);cases c with
 | true=>exact isTrue_and_nil e
 | false=>exact e
def iI (g:PT X a tA):PW X (.BoolOp .Or [a] pos) tA:=by
 intro i d s f H Q I h;refine isTrue_or (thn (g d s f H Q I h) λc j e=>?_);cases c with
 | false=>exact isTrue_or_nil e
 | true=>exact e
def lH (o:PT X a tA)(m:PW X (.BoolOp .And (b::rest) pos) tB'):PW X (.BoolOp .And (a::b::rest) pos) (tAnd tA tB'):=by
 intro j d s e H Q I h;refine isTrue_and (thn (o d s e H _ I h) λc l ⟨i,g,f⟩=>?_);cases c with
 | true=>exact m j d l e i Q g f
 | false=>exact⟨i,g,f⟩
def j6 (o:PT X a tA)(m:PW X (.BoolOp .Or (b::rest) pos) tB'):PW X (.BoolOp .Or (a::b::rest) pos) (tOr tA tB'):=by
 intro j d s e H Q I h;refine isTrue_or (thn (o d s e H _ I h) λc l ⟨i,g,f⟩=>?_);cases c with
 | true=>exact⟨i,g,f⟩
 | false=>exact m j d l e i Q g f
def cS (f:PT X a tA):PT X (.UnaryOp .Not a pos) (tNot tA):=by intro d s e H Q I h;exact isTrue_not (f d s e H (λc g=>Q (!c) g) I h)
def tAndV (e tb:TE):TE:=λa H Q=>e a H λx d=>∃c,x = .bl c/\if c=true then tb a d Q else Q (.bl false) d
def tOrV (e tb:TE):TE:=λa H Q=>e a H λx d=>∃c,x = .bl c/\if c=true then Q (.bl true) d else tb a d Q
def tNotV (d:TE):TE:=λa H Q=>d a H λx e=>∃c,x = .bl c/\Q (.bl (!c)) e
def tM {op}(h:PE X a t):PE X (.BoolOp op [a] pos) t:=λc s d H Q I e=>BoolOp_one (h c s d H Q I e)
def DU (m:PE X a ta)(l:PE X (.BoolOp .And (b::rest) pos) tb):PE X (.BoolOp .And (a::b::rest) pos) (tAndV ta tb):=by
 intro d s f H Q I h;refine BoolOp_and (thn (m d s f H _ I h) λv j ⟨x,i,g,r1,e⟩=>?_);obtain⟨c,rfl,e⟩:=e;cases r1;refine wpAny_truthy_bool ?_;cases c with
 | true=>exact l d j f i Q g e
 | false=>exact⟨.bl false,i,g,rfl,e⟩
def V4 (m:PE X a ta)(l:PE X (.BoolOp .Or (b::rest) pos) tb):PE X (.BoolOp .Or (a::b::rest) pos) (tOrV ta tb):=by
 intro d s f H Q I h;refine BoolOp_or (thn (m d s f H _ I h) λv j ⟨x,i,g,r1,e⟩=>?_);obtain⟨c,rfl,e⟩:=e;cases r1;refine wpAny_truthy_bool ?_;cases c with
 | false=>exact l d j f i Q g e
 | true=>exact⟨.bl true,i,g,rfl,e⟩
def TV (g:PE X a ta):PE X (.UnaryOp .Not a pos) (tNotV ta):=by intro d s f H Q I h;refine UnaryOp_ (thn (g d s f H _ I h) λv l ⟨x,j,i,r1,e⟩=>?_);obtain⟨c,rfl,e⟩:=e;cases r1;exact not_of (wpAny_truthy_bool ⟨.bl (!c),j,i,rfl,e⟩)
def tIf (t:TT)(e tb:TE):TE:=λa H Q=>t a H λc d=>if c=true then e a d Q else tb a d Q
def jW (m:PT X c tA)(q:PE X a ta)(o:PE X b tb):PE X (.IfExp c a b pos) (tIf tA ta tb):=by
 intro e s f H Q I h;refine wpAny_IfExp (thn (m e s f H _ I h) λd g ⟨l,j,i⟩=>?_);cases d with
 | true=>exact q e g f l Q j i
 | false=>exact o e g f l Q j i
end
abbrev wM (prog:eg)(w:eh)(A:en){α:Type}(t:Sem α)(Q:α->ee->Prop)(E:cE)(s:ee):Prop:=wpAny (model prog w) A t Q E s
def d5 (K:d6)(H:Hp)(a:Addr)(xs:List V):Prop :=
 Rd H a (.lst xs) \/
  ∃(o:Obj) (its:lX) (n:Nat),K.lookup a=some o/\o.cls = .type "list"/\o.dict=none/\o.data = .seq its n/\its.size<=sizeLine/\aO xs its.toList
def hX (K:d6)(H:Hp)(a:Addr)(xs:List V):Prop :=
 Rd H a (.tup xs) \/
  ∃(o:Obj) (its:lX) (n:Nat),K.lookup a=some o/\o.cls = .type "tuple"/\o.data = .seq its n/\its.size<=sizeLine/\aO xs its.toList
noncomputable def absV:ef->Option V
 | .none=>some .non
 | .bool b=>some (.bl b)
 | .int i _=>some (.int i)
 | .str x _=>some (.str x)
 | .bytes b _=>some (.byt b)
 | .float b _=>some (.flt b)
 | .ref a=>some (.ref a)
 | .type n=>some (.ty n)
 | _=>none
def aQ.abs (r:aQ x u):absV u=some x:=by
 cases x with
 | non=>cases r;rfl
 | bl _=>cases r;rfl
 | int _=>obtain⟨t,rfl⟩:=r;rfl
 | str _=>obtain⟨t,rfl⟩:=r;rfl
 | byt _=>obtain⟨t,rfl⟩:=r;rfl
 | flt _=>obtain⟨t,rfl⟩:=r;rfl
 | ref _=>cases r;rfl
 | ty _=>cases r;rfl
def aQ.inj (r:aQ x u)(q:aQ y u):x=y:=Option.some.inj (r.abs.symm.trans q.abs)
def aO.inj (h:aO xs us)(g:aO ys us):xs=ys:=by
 induction h generalizing ys with
 | nil=>cases g;rfl
 | cons r t a=>cases g with|cons r' t'=>rw[r.inj r',a t']
def d5.of {K:d6}(h:H a=some (.lst xs)):d5 K H a xs:=.inl (.inl h)
def hX.of {K:d6}(h:H a=some (.tup xs)):hX K H a xs:=.inl (.inl h)
def aK.list (I:aK X pins σ H s)(h:d5 X.K H a xs):∃its:dA,aO xs its/\PlainL s.heap a its.toArray/\xs.length<=sizeLine:=by
 rcases h with h|⟨o,its,n,d,f,hd,c,hz,r⟩
 ·obtain⟨z,its,n,r,e⟩:=h.ok I.hok;exact⟨its,r,⟨_,n,e,rfl,rfl,rfl⟩,z⟩
 ·refine⟨its.toList,r,⟨o,n,I.kIn a o d,f,hd,by simpa using c⟩,?_⟩;have e:=r.length;simp only[bw]at e
  lia
def aK.tuple (I:aK X pins σ H s)(h:hX X.K H a xs):∃its:dA,aO xs its/\IsTup s.heap a its.toArray/\xs.length<=sizeLine:=by
 rcases h with h|⟨o,its,n,d,f,c,hz,r⟩
 ·obtain⟨z,its,r,p⟩:=h.ok I.hok;exact⟨its,r,p,z⟩
 ·refine⟨its.toList,r,⟨o,I.kIn a o d,f,n,by simpa using c⟩,?_⟩;have e:=r.length;simp only[bw]at e
  lia
def aK.list_inj (I:aK X pins σ H s)(h:d5 X.K H a xs)(h':d5 X.K H a ys):xs=ys:=by
 obtain⟨its,r,⟨o,n,e,_,_,d⟩,_⟩:=I.list h;obtain⟨its',f,⟨i,j,c,_,_,d'⟩,_⟩:=I.list h';rw[e]at c;cases c;rw[d]at d';injection d' with g _;have:its=its':=by simpa using congrArg Array.toList g
 subst this;exact r.inj f
def aK.tuple_inj (I:aK X pins σ H s)(h:hX X.K H a xs)(h':hX X.K H a ys):xs=ys:=by
 obtain⟨its,r,⟨o,e,_,n,d⟩,_⟩:=I.tuple h;obtain⟨its',f,⟨i,c,_,j,d'⟩,_⟩:=I.tuple h';rw[e]at c;cases c;rw[d]at d';injection d' with g _;have:its=its':=by simpa using congrArg Array.toList g
 subst this;exact r.inj f
noncomputable abbrev Cx.wish (X:Cx)(E:cE):Cx:={X with xe:=E}
noncomputable abbrev Cx.nox (X:Cx):Cx:=X.wish λ_ _=>False
def Cx.Ok.wish {X:Cx}(ok:X.Ok)(E:cE):(X.wish E).Ok :=
 ⟨ok.mod,ok.kind,ok.glob,ok.blt,ok.above,ok.inj,ok.has,ok.cab,ok.hd,ok.frames,ok.stk,ok.exf,ok.bs,ok.bsz,ok.noex,ok.exfs,ok.funs,ok.frf⟩
def Cx.Ok.unwish {X:Cx}{E:cE}(ok:(X.wish E).Ok):X.Ok :=
 ⟨ok.mod,ok.kind,ok.glob,ok.blt,ok.above,ok.inj,ok.has,ok.cab,ok.hd,ok.frames,ok.stk,ok.exf,ok.bs,ok.bsz,ok.noex,ok.exfs,ok.funs,ok.frf⟩
def aK.wish (I:aK X pins σ H s)(E:cE):aK (X.wish E) pins σ H s:=⟨I.ok.wish E,I.os,I.bare,I.base,I.loc,I.cell,I.free,I.freeC,I.pin,I.hok,I.len⟩
def aK.unwish (I:aK (X.wish E) pins σ H s):aK X pins σ H s:=⟨I.ok.unwish,I.os,I.bare,I.base,I.loc,I.cell,I.free,I.freeC,I.pin,I.hok,I.len⟩
theorem SP.unwish (h:SP (X.wish E) pins D f s'):SP X pins D f s':=by
 cases f with
 | next=>obtain⟨a,H',I,q⟩:=h;exact⟨a,H',I.unwish,q⟩
 | brk=>obtain⟨a,H',I,q⟩:=h;exact⟨a,H',I.unwish,q⟩
 | cont=>obtain⟨a,H',I,q⟩:=h;exact⟨a,H',I.unwish,q⟩
 | ret u=>obtain⟨v,a,H',I,r,q⟩:=h;exact⟨v,a,H',I.unwish,r,q⟩
def uU.nox {st:List Stmt}{t:TS}(h:uU X.nox st t):uU X st t:=λa s c H D I d =>
 wpAny_mono (h a s c H D (I.wish _) d) (λ_ _ q=>q.unwish) λ_ _ z=>False.elim z
section
variable {X:Cx}{st:Stmt}{rest:List Stmt}{t u:TS}{e:Expr}{te:TE}{pos:Pos}
def tNext:TS:=λD a H=>D.nx a H
def tSeq (t u:TS):TS:=λD a H=>t {D with nx:=u D} a H
def aG:uU X [] tNext:=λ_ _ a H _ I h=>wpAny_execs_nil ⟨a,H,I,h⟩
def cM (i:PS X st t)(g:uU X rest u):uU X (st::rest) (tSeq t u):=by
 intro a s d H D I h;refine wpAny_execs_cons (thn (i a s d H {D with nx:=u D} I h) λf e q=>?_);cases f with
 | next =>
  obtain⟨c,H',j,q⟩:=q;exact g a e c H' D j q
 | ret v=>exact q
 | brk=>exact q
 | cont=>exact q
def aE (d:PS X st t):uU X [st] t:=by
 intro a s c H D I h;refine wpAny_execs_cons (thn (d a s c H D I h) λf e q=>?_);cases f with
 | next=>exact wpAny_execs_nil q
 | ret v=>exact q
 | brk=>exact q
 | cont=>exact q
def aK.quiet {a:eN}{c:St}{H:Hp}{s:ee}(I:aK X a c H s):interactive X.env=false:=by simp[interactive,I.ok.kind]
def tDrop (c:TE):TS:=λD a H=>c a H λ_ d=>D.nx a d
def bX (g:PE X e te)(f:swapsWith e none pos.line X.env=pure false:=by rfl):PS X (.Expr e pos) (tDrop te):=by intro a s c H D I h;exact wpAny_Expr_any (thn (g a s c H _ I h) λv l ⟨x,j,i,r1,d⟩=>⟨c,j,i,d⟩) I.quiet f
def tRet (c:TE):TS:=λD a H=>c a H D.rt
def aF (f:PE X e te):PS X (.Return (some e) pos) (tRet te):=by intro a s c H D I h;exact wpAny_Return_some (thn (f a s c H _ I h) λv j ⟨x,i,g,r1,d⟩=>⟨x,c,i,g,r1,d⟩)
def tIfS (c:TT)(t u:TS):TS:=λD a H=>c a H λb d=>if b=true then t D a d else u D a d
def bC (m:PT X c tc)(q:uU X a t)(o:uU X b u):PS X (.If c a b pos) (tIfS tc t u):=by
 intro e s f H D I h;refine wpAny_If (thn (m e s f H _ I h) λd g ⟨l,j,i⟩=>?_);cases d with
 | true=>exact q e g f l D j i
 | false=>exact o e g f l D j i
def tNever:TS:=λ_ _ _=>False
def gT:PS X st tNever:=λ_ _ _ _ _ _ h=>h.elim
end
abbrev TG:=V->St->Hp->(St->Hp->Prop)->Prop
abbrev VV:=List V->St->Hp->(St->Hp->Prop)->Prop
def PG (X:Cx)(target:Expr)(t:TG):Prop :=
 ∀(a:eN) (s:ee) (σ:St) (H:Hp) (v:V) (u:ef) (Q:St->Hp->Prop),aK X a σ H s->aQ v u->t v σ H Q ->
  wX X (assign target X.env u) (λ_ d=>∃c H',aK X a c H' d/\Q c H') X.xe s
def VW (X:Cx)(d:vE)(t:VV):Prop :=
 ∀(a:eN) (s:ee) (σ:St) (H:Hp) (vs:List V) (us:dA) (Q:St->Hp->Prop),aK X a σ H s->aO vs us->t vs σ H Q ->
  wX X (assignInOrder ((assignEach d X.env).map (·.2)) us) (λ_ e=>∃c H',aK X a c H' e/\Q c H') X.xe s
abbrev WD:=V->V->V->Hp->(Hp->Prop)->Prop
def WJ (X:Cx)(t:WD):Prop :=
 ∀(a:eN) (s:ee) (σ:St) (H:Hp) (o i v:V) (ov iv u:ef) (Q:Hp->Prop),aK X a σ H s->aQ o ov->aQ i iv->aQ v u->t o i v H Q ->
  wX X (setItem ov iv u) (λ_ c=>∃H',aK X a σ H' c/\Q H') X.xe s
def gName (i:Nat):TG:=λv a H Q=>Q (a.set i (some v)) H
def bV (f:X.N.Nodup)(d:X.N[i]?=some x)(c:VX X.env.scope x)(e:X.fn x=true\/X.env.scope.names.lookup x=some .local:=by first|exact .inl rfl|exact .inr rfl|assumption):PG X (.Name x pos) (gName i):=by intro a s j H v u Q I r h;exact wpAny_assign_Name (AR I f d c r (λl g=>⟨_,H,g,h⟩) e)
def gV (i:Nat)(e:X.N.Nodup)(c:X.N[i]?=some x:=by exact rfl)(a:VX X.env.scope x:=by exact Or.inl rfl)(d:X.fn x=true\/X.env.scope.names.lookup x=some .local:=by first|exact .inl rfl|exact .inr rfl|assumption):PG X (.Name x pos) (gName i):=bV e c a d
def gNil:VV:=λvs a H Q=>vs=[]/\Q a H
def gCons (t:TG)(u:VV):VV:=λvs c H Q=>∃v r,vs=v::r/\t v c H λa H'=>u r a H' Q
def nO:VW X [] gNil:=by intro a s c H vs us Q I r h;obtain⟨e,h⟩:=h;subst e;cases r;exact assignInOrder_nil ⟨c,H,I,h⟩
def dU (m:PG X e t)(l:VW X es u)
  (j:(assignEach (e::es) X.env).map (·.2)=assign e X.env::(assignEach es X.env).map (·.2):=by rfl):VW X (e::es) (gCons t u):=by
 intro a s d H vs us Q I r h;obtain⟨v,z,o,h⟩:=h;subst o;cases r with
 | cons r g =>
  rw[j];refine assignInOrder_cons (thn (m a s d H _ _ _ I r h) λ_ f ⟨c,w,q,i⟩=>?_);exact l a f c w _ _ Q q g i
def gTup (K:d6)(n:Nat)(t:VV):TG:=λv c H Q=>∃a xs,v = .ref a/\hX K H a xs/\xs.length=n/\t xs c H Q
def tL (w:X.calm=true)(h:VW X es t)
  (q:(assignEach es X.env).length=n:=by rfl) (f:(assignEach es X.env).findIdx? (·.1)=none:=by rfl):PG X (.Tuple es k pos) (gTup X.K n t):=by
 intro c s g H v u Q I r d;obtain⟨a,xs,z,m,hl,d⟩:=d;subst z;cases r;obtain⟨its,i,l,hz⟩:=I.tuple m;refine assign_Tuple_tuple (I.ok.hd w) l (by simp[q,<-hl,i.length]) f λh' j=>?_;have A:aK X c g H {s with heap:=h'}:=I.kept (t':=s.toks) λb o e=>j b o (bv (bf e)) e;exact h c _ g H xs _ Q A (by simpa using i) d
def gSub (to c:TE)(t:WD):TG:=λv a H Q=>to a H λo f=>c a f λi e=>t o i v e λd=>Q a d
def yR (ho:PE X o to)(w:PE X i ti)(q:WJ X t)
  (z:∀v,assign (.Subscript o i pos) X.env v=(do
   let c <-holding [v] (eval o X.env)
   let d <-holding [v,c] (eval i X.env)
   standAt pos
   holding [v,c,d] (setItem c d v)
   release [v,c,d] []):=by intro _;rfl):PG X (.Subscript o i pos) (gSub to ti t):=by
 intro a s e H v u Q I r h;rw[z];refine aa (cq (thn (ho a s e H _ I h) λc f ⟨x,G,C,r1,m⟩=>?_));refine aa (cq (thn (w a f e G _ C m) λd s2 ⟨y,F,B,g,l⟩=>?_));refine aa (wpAny_standAt (aa (cq (thn (q a s2 e F x y v c d u _ B r1 g r l) λ_ J ⟨E,A,j⟩=>?_))));exact wpAny_release ⟨e,E,A,j⟩
def tAsg (c:TE)(g:TG):TS:=λD a H=>c a H λx d=>g x a d D.nx
def gU (m:PE X e te)(l:PG X tg g)(j:swapsWithSole [tg] e pos.line X.env=pure false:=by rfl)(i:swappedStores [tg] e X.env=pure none:=by rfl)
  (o:(assignEach [tg] X.env).map (·.2)=[assign tg X.env]:=by rfl):PS X (.Assign [tg] e pos) (tAsg te g):=by
 intro a s c H D I h;refine wpAny_Assign_stores (thn (m a s c H _ I h) λv d ⟨x,u,r,r1,f⟩=>?_) j i;rw[o];exact thn (l a d c u x v _ r r1 f) λ_ s2 q=>q
def oM (o:X.N.Nodup)(j:X.N[i]?=some x)(f:VX X.env.scope x)(m:PE X e te)(g:swapsWith e (some (.Name x pos')) pos.line X.env=pure false:=by rfl)(l:X.fn x=true\/X.env.scope.names.lookup x=some .local:=by first|exact .inl rfl|exact .inr rfl|assumption) :
  PS X (.Assign [.Name x pos'] e pos) (tAsg te (gName i)):=by
 intro a s c H D I h;refine wpAny_Assign_Name (thn (m a s c H _ I h) λv w ⟨y,u,r,r1,d⟩=>?_) g;exact AR r o j f r1 (λs2 q=>⟨_,u,q,d⟩) l
def bJ (i:Nat)(h:X.N.Nodup)(g:PE X e te)(d:X.N[i]?=some x:=by exact rfl)(a:VX X.env.scope x:=by exact Or.inl rfl)(c:swapsWith e (some (.Name x pos')) pos.line X.env=pure false:=by rfl)(f:X.fn x=true\/X.env.scope.names.lookup x=some .local:=by first|exact .inl rfl|exact .inr rfl|assumption) :
  PS X (.Assign [.Name x pos'] e pos) (tAsg te (gName i)):=oM h d a g c f
def K1 (c:TT)(tb:TS):TS:=λD a H=>∃W:Nat->St->Hp->Prop,(∃m,W m a H)/\∀m a H,W m a H ->
 c a H λb f=>if b=true then ∃N:St->Hp->Prop,(∀d H',N d H'->∃e,e<m/\W e d H')/\tb {D with nx:=N,ct:=N,bk:=D.nx} a f else D.nx a f
def jU (r:PassesOwn (model X.prog X.w) X.A X.env X.xe)(O:PT X c tc)(P:uU X body tb):PS X (.While c body [] pos) (K1 tc tb):=by
 intro d s E H D I h;obtain⟨W,⟨L,G⟩,turn⟩:=h;refine wpAny_While (codeAny_whileLoop (λn K=>∃g H',aK X d g H' K/\W n g H') ?_ L ⟨E,H,I,G⟩);rintro n J ⟨e,C,Q,F⟩;refine wpAny_passesOwn r (thn (O d J e C _ Q (turn n e C F)) λb s2 ⟨B,z,l⟩=>?_);cases b with
 | true =>
  obtain⟨N,u,l⟩:=l;rw[aj rfl];refine wpAny_passesOwn r (thn (P d s2 e B _ z l) λf R j=>?_);cases f with
  | next =>
   obtain⟨a,i,q,n3⟩:=j;obtain⟨o,hm,m⟩:=u a i n3;exact⟨o,hm,a,i,q,m⟩
  | cont =>
   obtain⟨a,i,q,n3⟩:=j;obtain⟨o,hm,m⟩:=u a i n3;exact⟨o,hm,a,i,q,m⟩
  | brk=>exact j
  | ret v=>exact j
 | false =>
  rw[ab Bool.false_ne_true];exact wpAny_execs_nil ⟨e,B,z,l⟩
structure It where
 go:Nat->Hp->Prop
 yld:Nat->Hp->V->Hp->Prop
 stop:Nat->Hp->Prop
def fZ (X:Cx)(a:eN)(H:Hp)(b:Addr):Prop :=
 H b=none/\b≠X.env.locals/\b∉X.fs/\(b∈X.ex\/X.s₀.heap.objs.size<=b)/\(∀x c,X.env.cells.lookup x=some c->c≠b)/\∀p∈X.pn++a,p.1≠b
def aK.fpOk {X:Cx}{a:eN}{f:St}{H H':Hp}{s:ee}{b:Addr}(I:aK X a f H s)(d:s.heap.objs.size<=b)(h:H' b=none):fZ X a H' b:=by
 refine⟨h,Nat.ne_of_gt (bh I.lt d),I.nofs d,.inr (aq I.sz d),λx c e z=>?_,λp g z=>?_⟩
 ·obtain⟨v,q⟩:=I.cell x c e;exact absurd (bh q.lt (z ▸ d)) (cj _)
 ·exact absurd (bh (bf (I.pin p g).1) (z ▸ d)) (cj _)
structure qC (P:eg)(w:eh)(K:d6)(tg:Expr)(J:It)(fp:List Addr)(it:Addr)(tn:O3):Prop where
 mem:it∈fp
 obj:∀i h,tn i h->∀b∈fp,∃o,h.get? b=some o/\∀v,o.data≠.cell v
 keep:∀i h h',tn i h->(∀b∈fp,∀o,h.get? b=some o->h'.get? b=some o)->tn i h'
 item:∀(X:Cx),X.prog=P->X.w=w->X.K=K->X.calm=true->∀(i:Nat) (pins:eN) (s:ee) (σ:St) (H:Hp) (E:cE),aK X pins σ H s->(∀b∈fp,fZ X pins H b)->tn i s.heap->J.go i H ->
  wpAny (model P w) X.A (pyNext (.ref it)) (λr s1=>∃u,r=some u /\
   wpAny (model P w) X.A (letOwnedTupleGo tg (.ref it) u) (λ_ s2=>∃x H',aK X pins σ H' s2/\aQ x u/\J.yld i H x H'/\tn (i+1) s2.heap/\∀b∈fp,H' b=none) E s1) E s
 done:∀(X:Cx),X.prog=P->X.w=w->X.K=K->X.calm=true->∀(i:Nat) (pins:eN) (s:ee) (σ:St) (H:Hp) (E:cE),aK X pins σ H s->(∀b∈fp,fZ X pins H b)->tn i s.heap->J.stop i H ->
  wpAny (model P w) X.A (pyNext (.ref it)) (λr s1=>r=none/\aK X pins σ H s1) E s
 self:∀(A:en) (i:Nat) (s:ee) (Q:cE) (E:cE),tn i s.heap->Q (.ref it) s->wM P w A (pyIter (.ref it)) Q E s
abbrev TI:=St->Hp->(It->Hp->Prop)->Prop
def W7 (X:Cx)(a:eN)(d:St)(e:Expr)(R:It->Hp->Prop)(c:ef)(s2:ee):Prop :=
 ∃(it:Addr) (fp:List Addr) (tn:O3) (J:It) (H':Hp),c = .ref it/\aK X a d H' s2/\qC X.prog X.w X.K e J fp it tn/\tn 0 s2.heap/\(∀b∈fp,fZ X a H' b)/\R J H'
def PI (X:Cx)(d iter:Expr)(c:TI):Prop :=
 ∀(a:eN) (s:ee) (σ:St) (H:Hp) (R:It->Hp->Prop),aK X a σ H s->c σ H R ->
  wX X (eval iter X.env) (λv e=>wX X (pyIter v) (W7 X a σ d R) X.xe e) X.xe s
def xB {E:cE}{Q:Unit->ee->Prop}(ho:s.heap.get? it=some o)(d:o.cls = .type n)(hd:o.data = .fields vs)
  (c:["enumerate","zip","dict_itemiterator","dict_reverseitemiterator","odict_iterator","itertools.zip_longest","itertools.pairwise"].contains n=false) (a:Q () s):wpAny M A (letOwnedTupleGo tg (.ref it) u) Q E s:=by
 unfold letOwnedTupleGo;cases tg <;> first
  | exact ao a
  | (cases u <;> first
    | exact ao a
    | (refine aa (wpAny_load ho ?_);rw[d,hd];show wpAny M A (if (["enumerate","zip","dict_itemiterator","dict_reverseitemiterator","odict_iterator","itertools.zip_longest","itertools.pairwise"].contains n && vs[0]? == some (rawInt _))=true then _ else _) Q E s;rw[ab (by intro h;rw[c,Bool.false_and]at h;cases h)];exact ao a))
def SR (K:d6)(a:Addr):It :=
 ⟨λi H=>∃xs x,d5 K H a xs/\xs[i]?=some x,λi H x H'=>H'=H/\∀xs,d5 K H a xs->xs[i]?=some x,λi H=>∃xs,d5 K H a xs/\xs.length<=i⟩
def SQ (K:d6)(a:Addr):It :=
 ⟨λi H=>∃xs x,hX K H a xs/\xs[i]?=some x,λi H x H'=>H'=H/\∀xs,hX K H a xs->xs[i]?=some x,λi H=>∃xs,hX K H a xs/\xs.length<=i⟩
def R3 (a:Int)(n:Nat):It:=⟨λi _=>i<n,λi H x H'=>H'=H/\x = .int (a+i),λi _=>n<=i⟩
def ID {P:eg}{w:eh}{K:d6}{N:Expr}(a it:Addr):qC P w K N (SR K a) [it] it (λi h=>h.IsListIter it a i) where
 mem:=by simp
 obj:=λi h st b g=>by
  have e:b=it:=by simpa using g
  subst e;obtain⟨o,e,c,d⟩:=st;exact⟨o,e,λv z=>by rw[d]at z;cases z⟩
 keep:=λi h h' st k=>st.at λo e=>k it dV o e
 item:=by intro X C A F L i f s J H E I m st B;subst C A F;obtain⟨xs,x,l,r⟩:=B;obtain⟨its,q,p,hz⟩:=I.list l;obtain⟨u,S,Q⟩:=q.get r;obtain⟨f0,f1,f2,f3,f4,G⟩:=m it dV;refine wpAny_pyNext_list_item st p.isList (x:=u) (by simpa using S) λh' j O=>?_;have U:aK X f J H {s with heap:=h'}:=I.turned (t':=s.toks) (λb o g e=>(O.2 b g).trans e) f0 f1 f3 f4 G;obtain⟨o,e,c,d⟩:=id j;exact⟨u,rfl,xB (s:={s with heap:=h'}) e c d dw ⟨x,H,U,Q,⟨rfl,λys R=>by rw[I.list_inj R l];exact r⟩,j,λb g=>(m b g).1⟩⟩
 done:=by intro X C A F L i f s J H E I m st B;subst C A F;obtain⟨xs,l,r⟩:=B;obtain⟨its,q,p,hz⟩:=I.list l;obtain⟨f0,f1,f2,f3,f4,G⟩:=m it dV;have hl:=q.length;exact wpAny_pyNext_list_end (I.ok.hd L) st p.isList (by simp;lia) λh' T=>⟨rfl,I.turned (t':=s.toks) (λb o g e=>T b o g e) f0 f1 f3 f4 G⟩
 self:=λ_ _ _ _ _ st h=>wpAny_pyIter_listiter st h
def DA {P:eg}{w:eh}{K:d6}{N:Expr}(a it:Addr):qC P w K N (SQ K a) [it] it (λi h=>h.IsTupleIter it a i) where
 mem:=by simp
 obj:=λi h st b g=>by
  have e:b=it:=by simpa using g
  subst e;obtain⟨o,e,c,d⟩:=st;exact⟨o,e,λv z=>by rw[d]at z;cases z⟩
 keep:=λi h h' st k=>st.at λo e=>k it dV o e
 item:=by intro X C A F L i f s J H E I m st B;subst C A F;obtain⟨xs,x,l,r⟩:=B;obtain⟨its,q,p,hz⟩:=I.tuple l;obtain⟨u,S,Q⟩:=q.get r;obtain⟨f0,f1,f2,f3,f4,G⟩:=m it dV;refine wpAny_pyNext_tuple_item st (show s.heap.IsTuple a its.toArray from p) (x:=u) (by simpa using S) λh' j O=>?_;have U:aK X f J H {s with heap:=h'}:=I.turned (t':=s.toks) (λb o g e=>(O.2 b g).trans e) f0 f1 f3 f4 G;obtain⟨o,e,c,d⟩:=id j;exact⟨u,rfl,xB (s:={s with heap:=h'}) e c d dw ⟨x,H,U,Q,⟨rfl,λys R=>by rw[I.tuple_inj R l];exact r⟩,j,λb g=>(m b g).1⟩⟩
 done:=by intro X C A F L i f s J H E I m st B;subst C A F;obtain⟨xs,l,r⟩:=B;obtain⟨its,q,p,hz⟩:=I.tuple l;obtain⟨f0,f1,f2,f3,f4,G⟩:=m it dV;have hl:=q.length;exact wpAny_pyNext_tuple_end (I.ok.hd L) st (show s.heap.IsTuple a its.toArray from p) (by simp;lia) λh' T=>⟨rfl,I.turned (t':=s.toks) (λb o g e=>T b o g e) f0 f1 f3 f4 G⟩
 self:=λ_ _ _ _ _ st h=>wpAny_pyIter_tupleiter st h
def DB {P:eg}{w:eh}{K:d6}{B:Expr}(it:Addr)(f:Int)(n:Nat):qC P w K B (R3 f n) [it] it (λi h=>IsRangeIter h it (f+(i:Nat) * 1) ((n:Int) - (i:Nat)) 1) where
 mem:=by simp
 obj:=λi h st b c=>by
  have e:b=it:=by simpa using c
  subst e
  exact⟨_,st,λv z=>by
   have z':Data.fields _=Data.cell v:=z
   cases z'⟩
 keep:=λi h h' st k=>k it dV _ st
 item:=by intro X q j r m i a s A H E I g st l;subst q j r;obtain⟨f0,f1,f2,f3,f4,u⟩:=g it dV;have W:=Walks.range (prog:=X.prog) (w:=X.w) (I.ok.hd m) it f 1 n;refine W.item i s _ _ l st λv h' tk F d C=>?_;obtain⟨t,rfl⟩:=F;have J:aK X a A H {s with heap:=h',toks:=tk}:=I.turned (λb o c e=>C b o (by simpa using c) e) f0 f1 f3 f4 u;refine⟨_,rfl,xB (s:={s with heap:=h',toks:=tk}) (n:="range_iterator") d rfl rfl dw ⟨.int (f+i),H,J,⟨t,?_⟩,⟨rfl,rfl⟩,d,λb c=>(g b c).1⟩⟩;rw[Int.mul_one]
 done:=by intro X q j r m i a s A H E I g st l;subst q j r;obtain⟨f0,f1,f2,f3,f4,u⟩:=g it dV;exact wpAny_pyNext_range_end (I.ok.hd m) st (by have:n<=i:=l;lia) λh' G=>⟨rfl,I.turned (t':=s.toks) (λb o c e=>G b o c e) f0 f1 f3 f4 u⟩
 self:=λ_ _ _ _ _ st h=>wpAny_pyIter_rangeiter st h
def LY {d:eN}{f:St}{H:Hp}{s:ee}{R:It->Hp->Prop}{E:cE}{a c:Int}{t u v:Tok}{tk:Nat}(I:aK X d f H s)(m : -(2 ^ 62)<=a)(l:a<2 ^ 62)(j : -(2 ^ 62)<=c)(i:c<2 ^ 62)
  (q:R (R3 a (c - a).toNat) H):wX X (pyIter (.ref s.heap.objs.size)) (W7 X d f tg R) E {s with heap:=s.heap.push {cls:=.type "range",data:=.fields #[.int a t,.int c u,.int 1 v]},toks:=tk}:=by
 refine wpAny_pyIter_range (IsRange.new ..) (small_one m l j i) ?_;have g:aK X d f H {s with heap:=s.heap.push {cls:=.type "range",data:=.fields #[.int a t,.int c u,.int 1 v]},toks:=tk}:=I.kept λb o e=>ag _ e
 refine⟨(s.heap.push {cls:=.type "range",data:=.fields #[.int a t,.int c u,.int 1 v]}).objs.size,[(s.heap.push {cls:=.type "range",data:=.fields #[.int a t,.int c u,.int 1 v]}).objs.size],_,_,H,rfl,
  g.kept (t':=tk) λb o e=>ag _ e,DB _ a (c - a).toNat,?_,λb h=>?_,q⟩
 ·have w:a+((0:Nat):Int) * 1=a:=by simp
  have r:(((c - a).toNat:Nat):Int) - ((0:Nat):Int)=Builtin.Range.rangeSize a c 1:=by rw[rangeSize_one];split <;> lia
  show IsRangeIter _ _ (a+((0:Nat):Int) * 1) ((((c - a).toNat:Nat):Int) - ((0:Nat):Int)) 1;rw[w,r];exact av _ rfl
 ·have e:b=(s.heap.push {cls:=.type "range",data:=.fields #[.int a t,.int c u,.int 1 v]}).objs.size:=by simpa using h
  subst e;exact g.fpOk (ac _) (g.hok.fresh (ac _))
def iRng1 (c:TA):TI:=λa H R=>c a H λvs d=>∃j:Int,vs=[.int j]/\-(2 ^ 62)<=j/\j<2 ^ 62/\R (R3 0 j.toNat) d
def iRng2 (c:TA):TI:=λa H R=>c a H λvs d=>∃i j:Int,vs=[.int i,.int j]/\(-(2 ^ 62)<=i/\i<2 ^ 62/\-(2 ^ 62)<=j/\j<2 ^ 62)/\R (R3 i (j - i).toNat) d
def jH (m:Gl X "range")(hm:X.mg "range" = none)(o:PA X [a] ta)(l:starEach [a] X.env=[(false,eval a X.env)]:=by rfl):PI X tg (.Call (.Name "range" p) [a] [] pos) (iRng1 ta):=by
 intro c s f H R I h;refine Call_ (kG I m hm boot_range (PyProof.Rows.callWith_type1 (thn (o pos c s f H _ I h) λus v ⟨vs,w,u,r1,d⟩=>?_) l rfl));obtain⟨j,e,d,i,q⟩:=d;subst e;cases r1 with
 | cons r g =>
  cases g;obtain⟨t,rfl⟩:=r;exact call_range_1 (LY u dz dz d i (by simpa using q))
def tFor (f:TI)(g:TG)(tb:TS):TS:=λD a H=>f a H λJ j=>∃W:Nat->Nat->St->Hp->Prop,(∃m,W 0 m a j)/\∀i m a H,W i m a H ->
 (J.stop i H/\D.nx a H)\/(J.go i H/\∃N:St->Hp->Prop,(∀c H',N c H'->∃e,e<m/\W (i+1) e c H')/\∀x H',J.yld i H x H'->g x a H' λd h=>tb {D with nx:=N,ct:=N,bk:=D.nx} d h)
noncomputable def tK (a:List Addr)(h:Heap):eN:=a.filterMap λb=>(h.get? b).map λo=>(b,o)
def oT (a:b∈fp)(e:h.get? b=some o):(b,o)∈tK fp h:=List.mem_filterMap.mpr ⟨b,a,by rw[e];rfl⟩
def wP (a:p∈tK fp h):p.1∈fp/\h.get? p.1=some p.2:=by
 obtain⟨b,c,e⟩:=List.mem_filterMap.mp a;cases q:h.get? b with
 | none=>rw[q]at e;cases e
 | some o =>
  rw[q]at e;have e':(b,o)=p:=Option.some.inj e;subst e';exact⟨c,q⟩
def aK.pinned {a:eN}{f:St}{H:Hp}{s:ee}{c:List Addr}(I:aK X a f H s)(j:∀b∈c,fZ X a H b)(ho:∀b∈c,∃o,s.heap.get? b=some o/\∀v,o.data≠.cell v):aK X (a++tK c s.heap) f H s :=
 I.pins_of λp i=>(c4.mp i).elim (λz=>I.pin p (ca _ z)) λz=>by obtain⟨g,e⟩:=wP z;obtain⟨f0,f1,f2,_⟩:=j p.1 g;obtain⟨o,h,d⟩:=ho p.1 g;rw[e]at h;cases h;exact⟨e,f0,f1,f2,d⟩
def aK.unpinned {a pl:eN}{c:St}{H:Hp}{s:ee}(I:aK X (a++pl) c H s):aK X a c H s:=I.pins_of λp d=>I.pin p (ca _ (cp _ d))
def TM (O:PassesOwn (model X.prog X.w) X.A X.env X.xe)(hc:X.calm=true)(hi:PI X tg iter wi)(hg:PG X tg g)(z:uU X body tb)
  (hs:∀x,foldedSetIterable iter X.env x=pure x:=by intro _;rfl):PS X (.For tg iter body [] pos) (tFor wi g tb):=by
 intro c s σ H D I h;refine wpAny_For (thn (hi c s σ H _ I h) λv s1 h1=>thn h1 λitv s2 h2=>?_) hs;obtain⟨it,Q,tn,J,H2,e,I2,T,U,f2,W,⟨m0,w0⟩,turn⟩:=h2;subst e
 -- what stays true of the iterator's objects through the loop
 have q:∀{H':Hp},(∀b∈Q,H' b=none)->∀b∈Q,fZ X c H' b:=λhn b z=>⟨hn b z,(f2 b z).2⟩
 refine codeAny_forLoop_any (λn s'=>∃i l H',aK X c l H' s'/\tn i s'.heap/\(∀b∈Q,H' b=none)/\W i n l H') ?_ m0 ⟨0,σ,H2,I2,U,λb z=>(f2 b z).1,w0⟩;rintro n s3 ⟨i,j,R,I3,K,P,w3⟩;rcases turn i n j R w3 with⟨stop,qn⟩|⟨go,N,hN,step⟩
 ·refine wpAny_passesOwn O (thn (T.done X rfl rfl rfl hc i c s3 j R X.xe I3 (q P) K stop) λr s4 ⟨Z,I4⟩=>?_);subst Z;exact wpAny_execs_nil ⟨j,R,I4,qn⟩
 ·refine wpAny_passesOwn O (thn (T.item X rfl rfl rfl hc i c s3 j R X.xe I3 (q P) K go) λr s4 ⟨u,Z,h4⟩=>?_);subst Z;refine wpAny_passesOwn O (thn h4 λ_ s5 ⟨x,H5,I5,r5,y5,G,fr5⟩=>?_);have I5':=I5.pinned (q fr5) (T.obj _ _ G);refine wpAny_passesOwn O (thn (hg _ s5 j H5 x u _ I5' r5 (step x H5 y5)) λ_ s6 ⟨S,H6,I6,q6⟩=>?_);refine wpAny_passesOwn O (thn (z _ s6 S H6 _ I6 q6) λf Y F=>?_);have B:∀{a:St} {E:Hp},aK X (c++tK Q s5.heap) a E Y->N a E->∃m,m<n/\∃i l H',aK X c l H' Y/\tn i Y.heap/\(∀b∈Q,H' b=none)/\W i m l H':=λ{a E} C L=>by obtain⟨m',hm,w7⟩:=hN a E L;refine⟨m',hm,i+1,a,E,C.unpinned,T.keep _ _ _ G λb z o e=>(C.pin (b,o) (ca _ (ca _ (oT z e)))).1,λb z=>?_,w7⟩;obtain⟨o,e,d⟩:=T.obj _ _ G b z;exact(C.pin (b,o) (ca _ (ca _ (oT z e)))).2.1
  cases f with
  | next=>obtain⟨a,E,C,L⟩:=F;exact B C L
  | cont=>obtain⟨a,E,C,L⟩:=F;exact B C L
  | brk=>obtain⟨a,E,C,F⟩:=F;exact⟨a,E,C.unpinned,F⟩
  | ret v=>obtain⟨x7,a,E,C,r7,F⟩:=F;exact⟨x7,a,E,C.unpinned,r7,F⟩
def NY {K:d6}{a:Addr}{xs:List V}{g:TG}{tb:TS}{D:jA}{c:St}{H:Hp}(Pv:Nat->St->Hp->Prop)(v:Pv 0 c H)(hl:∀i c H,i<=xs.length->Pv i c H->d5 K H a xs)
  (r:∀i x c H,xs[i]?=some x->Pv i c H->g x c H λd j=>tb {D with nx:=Pv (i+1),ct:=Pv (i+1),bk:=D.nx} d j) (hd:∀c H,Pv xs.length c H->D.nx c H) :
  ∃W:Nat->Nat->St->Hp->Prop,(∃m,W 0 m c H)/\∀i m c H,W i m c H ->
   ((SR K a).stop i H/\D.nx c H)\/((SR K a).go i H/\∃N:St->Hp->Prop,(∀f H',N f H'->∃l,l<m/\W (i+1) l f H')/\∀x H',(SR K a).yld i H x H'->g x c H' λd j=>tb {D with nx:=N,ct:=N,bk:=D.nx} d j):=by
 refine⟨λi m c H=>m=xs.length - i/\i<=xs.length/\Pv i c H,⟨xs.length,dV,aw _,v⟩,?_⟩;rintro i m c H ⟨rfl,u,p⟩;have q:=hl i c H u p;by_cases h:i<xs.length
 ·refine .inr ⟨⟨xs,xs[i],q,by simp[h]⟩,Pv (i+1),λf H' o=>⟨xs.length - (i+1),dz,rfl,h,o⟩,λx H' y=>?_⟩;obtain⟨e,y⟩:=y;subst e;exact r i x c _ (y xs q) p
 ·have e:i=xs.length:=by lia
  subst e;exact .inl ⟨⟨xs,q,ac _⟩,hd c H p⟩
def RG {K:d6}{a:Addr}{xs:List V}{g:TG}{tb:TS}{D:jA}{c:St}{H:Hp}(Pv:Nat->St->Hp->Prop)(v:Pv 0 c H)(hl:∀i c H,i<=xs.length->Pv i c H->hX K H a xs)
  (r:∀i x c H,xs[i]?=some x->Pv i c H->g x c H λd j=>tb {D with nx:=Pv (i+1),ct:=Pv (i+1),bk:=D.nx} d j) (hd:∀c H,Pv xs.length c H->D.nx c H) :
  ∃W:Nat->Nat->St->Hp->Prop,(∃m,W 0 m c H)/\∀i m c H,W i m c H ->
   ((SQ K a).stop i H/\D.nx c H)\/((SQ K a).go i H/\∃N:St->Hp->Prop,(∀f H',N f H'->∃l,l<m/\W (i+1) l f H')/\∀x H',(SQ K a).yld i H x H'->g x c H' λd j=>tb {D with nx:=N,ct:=N,bk:=D.nx} d j):=by
 refine⟨λi m c H=>m=xs.length - i/\i<=xs.length/\Pv i c H,⟨xs.length,dV,aw _,v⟩,?_⟩;rintro i m c H ⟨rfl,u,p⟩;have q:=hl i c H u p;by_cases h:i<xs.length
 ·refine .inr ⟨⟨xs,xs[i],q,by simp[h]⟩,Pv (i+1),λf H' o=>⟨xs.length - (i+1),dz,rfl,h,o⟩,λx H' y=>?_⟩;obtain⟨e,y⟩:=y;subst e;exact r i x c _ (y xs q) p
 ·have e:i=xs.length:=by lia
  subst e;exact .inl ⟨⟨xs,q,ac _⟩,hd c H p⟩
def JU {h:Int}{n:Nat}{g:TG}{tb:TS}{D:jA}{a:St}{H:Hp}(Pv:Nat->St->Hp->Prop)(r:Pv 0 a H)
  (q:∀i a H,i<n->Pv i a H->g (.int (h+i)) a H λc j=>tb {D with nx:=Pv (i+1),ct:=Pv (i+1),bk:=D.nx} c j) (hd:∀a H,Pv n a H->D.nx a H) :
  ∃W:Nat->Nat->St->Hp->Prop,(∃m,W 0 m a H)/\∀i m a H,W i m a H ->
   ((R3 h n).stop i H/\D.nx a H)\/((R3 h n).go i H/\∃N:St->Hp->Prop,(∀d H',N d H'->∃l,l<m/\W (i+1) l d H')/\∀x H',(R3 h n).yld i H x H'->g x a H' λc j=>tb {D with nx:=N,ct:=N,bk:=D.nx} c j):=by
 refine⟨λi m a H=>m=n - i/\i<=n/\Pv i a H,⟨n,dV,aw _,r⟩,?_⟩;rintro i m a H ⟨rfl,u,p⟩;by_cases f:i<n
 ·refine .inr ⟨f,Pv (i+1),λd H' o=>⟨n - (i+1),dz,rfl,f,o⟩,λx H' y=>?_⟩;obtain⟨e,y⟩:=y;subst e y;exact q i a _ f p
 ·have e:i=n:=by lia
  subst e;exact .inl ⟨ac _,hd a H p⟩
abbrev R2:=V->V->Hp->VK->Prop
def jE (X:Cx)(f:ef->ef->Sem ef)(r:R2):Prop :=
 ∀(a:eN) (s:ee) (σ:St) (H:Hp) (x y:V) (v u:ef) (Q:VK),aK X a σ H s->aQ x v->aQ y u->r x y H Q ->
  wX X (f v u) (EP X a σ Q) X.xe s
def WT (X:Cx)(f:ef->Sem ef)(r:V->Hp->VK->Prop):Prop :=
 ∀(a:eN) (s:ee) (σ:St) (H:Hp) (x:V) (v:ef) (Q:VK),aK X a σ H s->aQ x v->r x H Q ->
  wX X (f v) (EP X a σ Q) X.xe s
def dZ (X:Cx)(f:ef)(r:List V->Hp->VK->Prop):Prop :=
 ∀(a:eN) (s:ee) (σ:St) (H:Hp) (xs:List V) (us:dA) (Q:VK),aK X a σ H s->aO xs us->r xs H Q ->
  wX X (call f us) (EP X a σ Q) X.xe s
def WU (X:Cx)(r:V->Hp->(Bool->Hp->Prop)->Prop):Prop :=
 ∀(a:eN) (s:ee) (σ:St) (H:Hp) (x:V) (v:ef) (Q:Bool->Hp->Prop),aK X a σ H s->aQ x v->r x H Q ->
  wX X (truthy v) (TP X a σ Q) X.xe s
def tOp (r:R2)(c tb:TE):TE:=λa H Q=>c a H λx e=>tb a e λy d=>r x y d Q
def tUn (r:V->Hp->VK->Prop)(c:TE):TE:=λa H Q=>c a H λx d=>r x d Q
def rI (C:Int->Int->Prop)(g:Int->Int->V):R2:=λx y H Q=>∃i j,x = .int i/\y = .int j/\C i j/\Q (g i j) H
def rI0 (g:Int->Int->V):R2:=λx y H Q=>∃i j,x = .int i/\y = .int j/\Q (g i j) H
def rU (g:Int->V):V->Hp->VK->Prop:=λx H Q=>∃i,x = .int i/\Q (g i) H
def binT (z:PE X a ta)(w:PE X b tb){c:eN}{s:ee}{d:St}{H:Hp}{R:V->V->Hp->Prop}(I:aK X c d H s)
  (h:ta d H λx j=>tb d j λy e=>R x y e) {Q:cE} {f:ef->ef->Sem ef}
  (r:∀v u s2 x y e,aK X c d e s2->aQ x v->aQ y u->R x y e->wX X (f v u) Q X.xe s2) :
  wX X (eval a X.env) (λv i=>wX X (eval b X.env) (λu g=>wX X (f v u) Q X.xe g) X.xe i) X.xe s:=by
 refine thn (z c s d H _ I h) λv l ⟨x,j,B,r1,q⟩=>?_;refine thn (w c l d j _ B q) λu s2 ⟨y,e,A,m,o⟩=>?_;exact r v u s2 x y e A r1 m o
def aX (ho:jE X (binaryOp op) r)(i:PE X a ta)(g:PE X b tb):PE X (.BinOp a op b pos) (tOp r ta tb):=by intro c s d H Q I h;exact wpAny_BinOp (binT i g I h λv u s2 x y l j f e q=>ho c s2 d l x y v u Q j f e q)
def iB {r:V->Hp->VK->Prop}(ho:WT X (unaryOp op) r)(g:PE X a ta):PE X (.UnaryOp op a pos) (tUn r ta):=by intro c s d H Q I h;exact UnaryOp_ (thn (g c s d H _ I h) λv e ⟨x,j,i,r1,f⟩=>ho c e d j x v Q i r1 f)
def opI {f:ef->ef->Sem ef}{C:Int->Int->Prop}{g:Int->Int->Int}
  (a:∀(i j:Int) (t u:Tok) (s:ee) (Q:cE) (E:cE),C i j->Q (.int (g i j) s.toks) {s with toks:=s.toks+1}->wX X (f (.int i t) (.int j u)) Q E s) :
  jE X f (rI C λi j=>.int (g i j)):=by
 intro c s m H x y v u Q I e d h;obtain⟨i,j,rfl,rfl,l,q⟩:=h;obtain⟨t,rfl⟩:=e;obtain⟨t',rfl⟩:=d;exact a i j t t' s _ _ l ⟨.int (g i j),H,I.tok _,⟨_,rfl⟩,q⟩
def opI0 {f:ef->ef->Sem ef}{g:Int->Int->Int}
  (a:∀(i j:Int) (t u:Tok) (s:ee) (Q:cE) (E:cE),Q (.int (g i j) s.toks) {s with toks:=s.toks+1}->wX X (f (.int i t) (.int j u)) Q E s) :
  jE X f (rI0 λi j=>.int (g i j)):=by
 intro c s l H x y v u Q I e d h;obtain⟨i,j,rfl,rfl,q⟩:=h;obtain⟨t,rfl⟩:=e;obtain⟨t',rfl⟩:=d;exact a i j t t' s _ _ ⟨.int (g i j),H,I.tok _,⟨_,rfl⟩,q⟩
def opB0 {f:ef->ef->Sem ef}{g:Int->Int->Bool}
  (a:∀(i j:Int) (t u:Tok) (s:ee) (Q:cE) (E:cE),Q (.bool (g i j)) s->wX X (f (.int i t) (.int j u)) Q E s) :
  jE X f (rI0 λi j=>.bl (g i j)):=by
 intro c s l H x y v u Q I e d h;obtain⟨i,j,rfl,rfl,q⟩:=h;obtain⟨t,rfl⟩:=e;obtain⟨t',rfl⟩:=d;exact a i j t t' s _ _ ⟨.bl (g i j),H,I,rfl,q⟩
def W5 (i j:Int):Prop:=0<j/\j<1073741824
def W4 (i j:Int):Prop:=0<=j/\j<=1000000/\i.natAbs<2 ^ 64
def VU (i j:Int):Prop:=(-(2 ^ 64)<i/\i<2 ^ 64)\/(-(2 ^ 64)<j/\j<2 ^ 64)
def VU.ok (h:VU i j):IntMulOk i j:=by
 rcases h with⟨c,a⟩|⟨c,a⟩
 ·exact .of_left (intBits_le_64 c a)
 ·exact .of_right (intBits_le_64 c a)
def T0:jE X (binaryOp .Add) (rI0 λi j=>.int (i+j)):=opI0 λ_ _ _ _ _ _ _ q=>add_int q
def gC:jE X (binaryOp .Sub) (rI0 λi j=>.int (i - j)):=opI0 λ_ _ _ _ _ _ _ q=>sub_int q
def mQ:jE X (binaryOp .Mult) (rI VU λi j=>.int (i * j)):=opI λ_ _ _ _ _ _ _ a q=>mul_int q a.ok
def GF:jE X (binaryOp .FloorDiv) (rI W5 λi j=>.int (i / j)):=opI λi j _ _ _ _ _ a q=>by have d:(0:Int)<j:=a.1;have c:j<1073741824:=a.2;exact floordiv_int dz (by rw[Int.fdiv_eq_ediv_of_nonneg i dz];exact q) (.inl (PyProof.noPylong_small dz))
def oP:jE X (binaryOp .Mod) (rI (λ_ j=>0<j) λi j=>.int (i % j)):=opI λi j _ _ _ _ _ a q=>by have c:(0:Int)<j:=a;exact mod_int' dz (by rw[Int.fmod_eq_emod_of_nonneg i dz];exact q)
def TY:jE X (binaryOp .Pow) (rI W4 λi j=>.int (i ^ j.toNat)):=opI λ_ _ _ _ _ _ _ a q=>pow_int_small a.1 a.2.1 a.2.2 q
def unI {f:ef->Sem ef}{g:Int->Int}
  (a:∀(i:Int) (t:Tok) (s:ee) (Q:cE) (E:cE),Q (.int (g i) s.toks) {s with toks:=s.toks+1}->wX X (f (.int i t)) Q E s) :
  WT X f (rU λi=>.int (g i)):=by
 intro c s e H x v Q I d h;obtain⟨i,rfl,q⟩:=h;obtain⟨t,rfl⟩:=d;exact a i t s _ _ ⟨.int (g i),H,I.tok _,⟨_,rfl⟩,q⟩
def eY:WT X (unaryOp .USub) (rU λi=>.int (-i)):=unI λ_ _ _ _ _ q=>neg_int q
def zL {a:eN}{c:St}{H:Hp}{s:ee}{Q:VK}{k d:Bool}(I:aK X a c H s)(q:Q (.bl k) H)(e:k=d):EP X a c Q (.bool d) s:=by subst e;exact⟨.bl k,H,I,rfl,q⟩
def V6:jE X (compareOp .Lt) (rI0 λi j=>.bl (decide (i<j))):=opB0 λ_ _ _ _ _ _ _ q=>lt_int q
def mR:jE X (compareOp .LtE) (rI0 λi j=>.bl (decide (i<=j))):=opB0 λ_ _ _ _ _ _ _ q=>le_int q
def wO:jE X (compareOp .Gt) (rI0 λi j=>.bl (decide (j<i))):=opB0 λ_ _ _ _ _ _ _ q=>gt_int q
def SE:jE X (compareOp .GtE) (rI0 λi j=>.bl (decide (j<=i))):=opB0 λ_ _ _ _ _ _ _ q=>ge_int q
def I9:jE X (compareOp .Lt) (λx y H Q=>∃i j,x = .str i/\y = .str j/\Q (.bl (decide (i.cps.toList<j.cps.toList))) H):=by intro a s e H x y v u Q I d c h;obtain⟨i,j,rfl,rfl,q⟩:=h;obtain⟨t,rfl⟩:=d;obtain⟨t',rfl⟩:=c;exact lt_str (zL I q rfl)
def qO:jE X (compareOp .In) (λx y H Q=>∃i j,x = .str i/\y = .str j/\Q (.bl (!(Builtin.Str.occurrences j i 0 j.length 1).isEmpty)) H):=by intro a s e H x y v u Q I d c h;obtain⟨i,j,rfl,rfl,q⟩:=h;obtain⟨t,rfl⟩:=d;obtain⟨t',rfl⟩:=c;exact in_str (zL I q rfl)
def tP:jE X (compareOp .Is) (λx y H Q=>y = .non/\Q (.bl (decide (x = .non))) H):=by
 intro c s e H x y v u Q I a d h;obtain⟨rfl,q⟩:=h;cases d;refine is_none_gen (zL I q ?_);cases x <;> first
  | (cases a;rfl)
  | (obtain⟨t,rfl⟩:=a;rfl)
def yV:jE X (compareOp .IsNot) (λx y H Q=>y = .non/\Q (.bl (!decide (x = .non))) H):=by
 intro c s e H x y v u Q I a d h;obtain⟨rfl,q⟩:=h;cases d;refine isnot_none_gen (zL I q ?_);cases x <;> first
  | (cases a;rfl)
  | (obtain⟨t,rfl⟩:=a;rfl)
def jE.or {f:ef->ef->Sem ef}(h:jE X f r)(h':jE X f r'):jE X f (λx y H Q=>r x y H Q\/r' x y H Q):=by
 intro a s c H x y v u Q I e d q;rcases q with q|q
 ·exact h a s c H x y v u Q I e d q
 ·exact h' a s c H x y v u Q I e d q
def nomark (b:Expr)(h:op≠.In:=by decide)(a:op≠.NotIn:=by decide):behindInMarks op b=false:=by
 have d:(op == CmpOp.In)=false:=by cases op <;> first|rfl|exact absurd rfl h
 have c:(op == CmpOp.NotIn)=false:=by cases op <;> first|rfl|exact absurd rfl a
 cases b <;> simp[behindInMarks,d,c]
def fN (ho:jE X (compareOp op) r)(i:PE X a ta)(g:PE X b tb)(hm:behindInMarks op b=false:=by exact nomark _):PE X (.Compare a [op] [b] pos) (tOp r ta tb):=by intro c s d H Q I h;exact wpAny_Compare1 (binT i g I h λv u s2 x y l j f e q=>ho c s2 d l x y v u Q j f e q) hm
def tTest (t:TE):TT:=λa H Q=>t a H λx H'=>∃k,x = .bl k/\Q k H'
def aJ (ho:jE X (compareOp op) r)(w:PE X a ta)(q:PE X b tb)(hm:behindInMarks op b=false:=by exact nomark _):PT X (.Compare a [op] [b] pos) (tTest (tOp r ta tb)):=by
 intro d s f H Q I h
 refine wpAny_isTrue_Compare1 (thn (w d s f H _ I h) λv g ⟨x,G,C,r1,o⟩=>thn (q d g f G _ C o) λu s2 ⟨y,F,B,j,m⟩ =>
  thn (ho d s2 f F x y v u _ B r1 j m) λc J ⟨z,E,A,i,k,e,l⟩=>?_) hm
 subst e;cases i;exact wpAny_truthy_bool ⟨E,A,l⟩
def tChain (r g:R2)(f tb e:TE):TE:=λa H Q=>f a H λx j=>tb a j λy i=>r x y i λz c=>∃k,z = .bl k /\
 (if k=true then e a c λd h=>g y d h Q else Q (.bl false) c)
def kT (ho:jE X (compareOp op) r)(i:jE X (compareOp op') r')(S:PE X a ta)(R:PE X b tb)(P:PE X c tc)
  (hm:lastMarks [op,op'] [b,c]=false:=by with_unfolding_all rfl):PT X (.Compare a [op,op'] [b,c] pos) (tTest (tChain r r' ta tb tc)):=by
 intro f s g H Q I h
 refine isTrue_chain (thn (S f s g H _ I h) λv C ⟨x,H1,I1,r1,N⟩=>test_link (thn (R f C g H1 _ I1 N) λu s2 ⟨y,H2,Z,j,L⟩ =>
  thn (ho f s2 g H2 x y v u _ Z r1 j L) λd B ⟨z,o,m,G,k,e,l⟩=>?_)) hm
 subst e;cases G;refine wpAny_truthy_bool ?_;cases k with
 | false =>
  obtain⟨k',U,O⟩:=l;cases U;exact ite_ff ⟨o,m,O⟩
 | true =>
  refine ite_tt (test_last (thn (P f B g o _ m l) λw A ⟨q,H4,Y,F,K⟩=>thn (i f A g H4 y q u w _ Y j F K) λd' s5 ⟨z2,H5,W,E,k2,T,J⟩=>?_));subst T;cases E;exact wpAny_truthy_bool ⟨H5,W,J⟩
def ON (K:d6)(x:V)(H:Hp)(k:Bool):Prop :=
 match x with
 | .non=>k=false
 | .bl b=>k=b
 | .int i=>k=(i != 0)
 | .str y=>y.length<=sizeLine/\k=((y.length:Int) != 0)
 | .byt y=>y.size<=sizeLine/\k=((y.size:Int) != 0)
 | .ref p=>(∃xs,d5 K H p xs/\k=!xs.isEmpty)\/(∃xs,hX K H p xs/\k=!xs.isEmpty)\/∃a,H p=some (.dK a)/\k=!a.isEmpty
 | _=>False
def EK {κ:Type}{a:List (κ×V)}{vs:List (κ×ef)}(r:KV a vs):(!vs.isEmpty)=!a.isEmpty:=by cases r <;> rfl
def uD (r:aO xs its):(!its.toArray.isEmpty)=!xs.isEmpty:=by cases r <;> simp
def line63:(sizeLine:Nat)<2 ^ 63:=by rw[sizeLine_eq];decide
def KY:WU X (λx H Q=>∃k,ON X.K x H k/\Q k H):=by
 intro j s l H x v Q I f h;obtain⟨k,e,q⟩:=h;have hl:=line63;have o:sizeLine=16777216:=sizeLine_eq;cases x with
 | non =>
  cases f;have a:k=false:=e;subst a;exact truthy_none ⟨H,I,q⟩
 | bl b =>
  cases f;have a:k=b:=e;subst a;exact wpAny_truthy_bool ⟨H,I,q⟩
 | int i =>
  obtain⟨t,rfl⟩:=f;have a:k=(i != 0):=e;subst a;exact PySem.P.truthy_int ⟨H,I,q⟩
 | str y =>
  obtain⟨t,rfl⟩:=f;obtain⟨hy,a⟩:y.length<=sizeLine/\k=((y.length:Int) != 0):=e;subst a;exact PySem.P.truthy_str dz ⟨H,I.tok _,q⟩
 | byt y =>
  obtain⟨t,rfl⟩:=f;obtain⟨hy,a⟩:y.size<=sizeLine/\k=((y.size:Int) != 0):=e;subst a;exact PySem.W.truthy_bytes dz ⟨H,I.tok _,q⟩
 | ref p =>
  cases f;have a:(∃xs,d5 X.K H p xs/\k=!xs.isEmpty)\/(∃xs,hX X.K H p xs/\k=!xs.isEmpty)\/∃c,H p=some (.dK c)/\k=!c.isEmpty:=e;rcases a with⟨xs,g,a⟩|⟨xs,g,a⟩|⟨c,g,a⟩
  ·subst a;obtain⟨its,r,pl,hz⟩:=I.list g;have d:=r.length;exact wpAny_truthy_list pl.isList (by simp only[ai];lia) ⟨H,I.tok _,by rw[uD r];exact q⟩
  ·subst a;obtain⟨its,r,pl,hz⟩:=I.tuple g;have d:=r.length;exact truthy_tuple pl (by simp only[ai];lia) ⟨H,I.tok _,by rw[uD r];exact q⟩
  ·subst a;obtain⟨hz,hS,vs,r,m⟩:c.length<=sizeLine/\(p == sysModules)=false/\∃vs,KV c vs/\s.heap.DictOf (cN X.prog X.w) p vs:=I.hok p _ g;have d:c.length=vs.length:=Paired.length r;exact wpAny_truthy_dict hS m dz ⟨H,I.tok _,by rw[EK r];exact q⟩
 | _=>exact(show False from e).elim
def LZ (j:PE X a ta)(i:∀c,isTrue a X.env c=(do let v <-c;standAt a.pos;holding [v] (truthy v))) :
  PT X a (λe H Q=>ta e H λx H'=>∃k,ON X.K x H' k/\Q k H'):=by
 intro d s e H Q I h;exact isTrue_plain (thn (j d s e H _ I h) λv f ⟨x,m,l,r1,g⟩=>KY d f e m x v Q l r1 g) (i _)
def DY:jE X (binaryOp .Add) (λx y H Q=>∃i j,x = .str i/\y = .str j/\i.length+j.length<=sizeLine/\Q (.str (i++j)) H):=by intro a s e H x y v u Q I d c h;obtain⟨i,j,rfl,rfl,hz,q⟩:=h;obtain⟨t,rfl⟩:=d;obtain⟨t',rfl⟩:=c;exact add_str (λt' tk=>⟨.str (i++j),H,I.tok _,⟨_,rfl⟩,q⟩) hz
def vals1 (r:aO [x] us):∃u,us=[u]/\aQ x u:=by
 cases r with
 | cons r1 a=>cases a;exact⟨_,rfl,r1⟩
def vals2 (r:aO [x,y] us):∃u a,us=[u,a]/\aQ x u/\aQ y a:=by
 cases r with
 | cons r1 e =>
  cases e with
  | cons d c=>cases c;exact⟨_,_,rfl,r1,d⟩
def KB:dZ X (.type "int") (λxs H Q=>(∃i,xs=[.int i]/\Q (.int i) H)\/∃k,xs=[.bl k]/\Q (.int (if k then 1 else 0)) H):=by
 intro a s c H xs us Q I r h;rcases h with⟨i,rfl,q⟩|⟨k,rfl,q⟩
 ·obtain⟨u,rfl,t,rfl⟩:=vals1 r;exact call_int_int ⟨.int i,H,I,⟨_,rfl⟩,q⟩
 ·obtain⟨u,rfl,r1⟩:=vals1 r;cases r1;exact call_int_bool ⟨.int (if k then 1 else 0),H,I.tok _,⟨_,rfl⟩,q⟩
structure E5 (h:Heap)(x dx C:Addr)(mA:jD):Prop where
 obj:h.get? x=some (PySem.W.instObj C dx)
 ns:h.Ns1 dx mA
 ne:dx≠x
def JM {h:Heap}{f:Addr}{d:jD}(n:h.Ns1 f d):∃od,h.get? f=some od/\∀name,PySem.W.lookIn name od=some (d name):=by
 obtain⟨o,es,j,ho,hd,i,_,hm⟩:=n;refine⟨o,ho,λname=>?_⟩;have e:=hm name;unfold nsFind findBy at e;rw[<-Array.find?_toList]at e;unfold PySem.W.lookIn;rw[hd];dsimp only;split
 ·rename_i y q;rw[q]at e;exact congrArg some e
 ·rename_i q;rw[q]at e;have a:es.toList.any (·.refKey)=false:=by rw[List.any_eq_false];intro y g;obtain⟨z,t,c⟩:=i y (Array.mem_toList_iff.mp g);simp[DictEntry.refKey,c]
  have a':¬es.toList.any (·.refKey)=true:=a ▸ Bool.false_ne_true;rw[ab a'];exact congrArg some e
def E5.look {a:jD}(I:E5 h x dx C a):∃od,PySem.W.InstAt h x (PySem.W.instObj C dx) C (some od)/\∀name,PySem.W.lookIn name od=some (a name) :=
 let⟨od,ho,hl⟩:=JM I.ns
 ⟨od,⟨I.obj,rfl,rfl,ho⟩,hl⟩
section
variable {prog:eg}{w:eh}{A:en}{E:cE}{s:ee}{K:d6}{x dx C f:Addr}{mA:jD}{name:Str}{v:ef}
def RE {Q:cE}(X:K.In s.heap)(I:E5 s.heap x dx C mA)(e:PySem.W.plainGet K C name=true)(d:PySem.W.hasDictIn K C=true)
  (f:PySem.W.findIn K (.ref C) name=some none) (c:mA name=some v) (a:PySem.W.handedIn v=true) (h:Q v {s with toks:=s.toks+1}) :
  wM prog w A (getAttr (.ref x) name expr) Q E s:=by
 obtain⟨od,J,hl⟩:=I.look;exact PySem.W.get_value X J (PySem.W.plainGet_of e).1 (PySem.W.findObj_own d f rfl (by rw[hl,c])) a h
def NW {Q:ef×dA->ee->Prop}(X:K.In s.heap)(I:E5 s.heap x dx C mA)(a:PySem.W.plainGet K C name=true)
  (e:PySem.W.findIn K (.ref C) name=some (some (.ref f))) (d:PySem.W.isFn K (.ref f)=true) (c:mA name=none) (h:Q (.ref f,[.ref x]) s) :
  wM prog w A (getMethod (.ref x) name pl) Q E s:=by
 obtain⟨od,J,hl⟩:=I.look;exact PySem.W.method_fn X J (PySem.W.plainGet_of a).1 (PySem.W.plainGet_of a).2 e (beq_iff_eq.mp d) (by show(PySem.W.lookIn name od).map (·.isSome)=some false;rw[hl,c];rfl) h
def PC {Q:Unit->ee->Prop}(X:K.In s.heap)(I:E5 s.heap x dx C mA)
  (o:PySem.W.findIn K (.ref C) "__setattr__" = some (some (.builtin "object.__setattr__"))) (q:PySem.W.plainOver K C=true) (m:PySem.W.takerIn K C name=some none) (u:PySem.W.hasDictIn K C=true)
  (l:PySem.Within mA ns) (hsz:ns.length<=sizeLine)
  (h:∀h',E5 h' x dx C (λy=>if y=name then some v else mA y)->Heap.SameBut dx s.heap h'->Q () {s with heap:=h',toks:=s.toks+2}) :
  wM prog w A (setAttr (.ref x) name v) Q E s:=by
 obtain⟨od,J,hl⟩:=I.look;refine PySem.W.set_plain X J o (PySem.W.osa_open (s:={s with toks:=s.toks+1}) (r:=none) X J q m λb=>?_);obtain⟨cd,z,g⟩:=PySem.W.any_some u;have j:s.heap.get? x=some ⟨.ref C,some dx,.plain,#[]⟩:=I.obj;refine aa (ao (aa (aa (wpAny_loadPart j (aa (PySem.W.Looks.here (s:={s with toks:=s.toks+1}) (PySem.W.looks_clsIn X z) ?_))))));rw[g];refine ao (a:=some dx) (aa (ao (aa ?_)));refine wpAny_nsSet1 (s:={s with toks:=s.toks+1}) I.ns λh' d c=>?_;obtain⟨G,B,F,e,f,i⟩:=d.count (PySem.Within.cons name v l);refine aa (wpAny_lookBehind e (by rw[f];exact pastItsLine_dict (aq i (by rw[ar];lia))) ?_);exact ao (h _ ⟨(c.2 _ (Ne.symm I.ne)).trans I.obj,d,I.ne⟩ c)
def NH {R:Result->ee->Prop}(X:K.In s.heap)(hm:PySem.W.makesIn K C=true)
  (a:PySem.W.findIn K (.ref C) "__init__" = some (some (.ref f))) (c:PySem.W.typeIn K (.ref f)=some (.type "function"))
  (h:codeAny (model prog w) (A.under (.builtin "type.__call__" ⟨.ref C::vs,kw⟩)) (.call (.ref f) ⟨.ref (s.heap.objs.size+1)::vs,kw⟩) (PySem.W.InitBack (s.heap.objs.size+1) R)
   {s with heap:=(s.heap.push PySem.W.emptyDict).push (PySem.W.instObj C s.heap.objs.size)}) :
  codeAny (model prog w) A (.call (.ref C) ⟨vs,kw⟩) R s:=by
 obtain⟨e,g,d,t,os⟩:=s;exact PySem.W.make_core (PySem.W.makes_of X hm) (PySem.W.looks_findIn X a) (λself=>PySem.W.bind_fn X self c) (.inl rfl) h
end
noncomputable def putF (f:Str)(v:V):List (Str×V)->List (Str×V)
 | []=>[(f,v)]
 | (g,x)::r=>if g=f then(g,v)::r else(g,x)::putF f v r
theorem bE (f g:Str)(v:V):∀fs:List (Str×V),(putF f v fs).lookup g=if g=f then some v else fs.lookup g
 | []=>by
  show List.lookup g [(f,v)]=_;by_cases h:g=f
  ·have a:(g == f)=true:=beq_iff_eq.mpr h;simp only[List.lookup,a,aj h]
  ·have a:(g == f)=false:=db.mpr h;simp only[List.lookup,a,ab h]
 | (k,x)::r=>by
  have d:=bE f g v r;rw[show putF f v ((k,x)::r)=(if k=f then(k,v)::r else(k,x)::putF f v r)from rfl];by_cases c:k=f
  ·rw[aj c];by_cases h:g=k
   ·have a:(g == k)=true:=beq_iff_eq.mpr h;simp only[List.lookup,a,aj (h.trans c)]
   ·have a:(g == k)=false:=db.mpr h;simp only[List.lookup,a,ab (λe:g=f=>h (e.trans c.symm))]
  ·rw[ab c];by_cases h:g=k
   ·have a:(g == k)=true:=beq_iff_eq.mpr h;simp only[List.lookup,a,ab (λe:g=f=>c (h.symm.trans e))]
   ·have a:(g == k)=false:=db.mpr h;simp only[List.lookup,a];exact d
theorem qT (f:Str)(v:V):∀fs:List (Str×V),f∈(putF f v fs).map (·.1)/\∀g,g∈fs.map (·.1)->g∈(putF f v fs).map (·.1)
 | []=>⟨by simp[putF],λg h=>by simp at h⟩
 | (k,x)::r=>by
  obtain⟨d,c⟩:=qT f v r;rw[show putF f v ((k,x)::r)=(if k=f then(k,v)::r else(k,x)::putF f v r)from rfl];by_cases a:k=f
  ·rw[aj a];subst a;exact⟨dV,λg h=>by simpa using h⟩
  ·rw[ab a];refine⟨?_,λg h=>?_⟩
   ·rw[bg];exact bc _ d
   ·rw[bg]at h|-;rcases cz.mp h with e|e
    ·exact cz.mpr (.inl e)
    ·exact bc _ (c g e)
theorem gE (f:Str)(v:V):∀fs:List (Str×V),(putF f v fs).length<=fs.length+1
 | []=>by simp[putF]
 | (k,x)::r=>by
  have c:=gE f v r;rw[show putF f v ((k,x)::r)=(if k=f then(k,v)::r else(k,x)::putF f v r)from rfl];by_cases a:k=f
  ·rw[aj a,ar,ar];lia
  ·rw[ab a,ar,ar];lia
def kZ.some_of (r:kZ (some v) o):∃u,o=some u/\aQ v u:=by
 cases o with
 | none=>exact(show False from r).elim
 | some u=>exact⟨u,rfl,r⟩
def kZ.none_of (r:kZ none o):o=none:=by
 cases o with
 | none=>rfl
 | some u=>exact(show False from r).elim
def JT (r:aQ v u):PySem.W.handedIn u=true:=by
 cases v with
 | non=>cases (show u=Value.none from r);rfl
 | bl b=>cases (show u=Value.bool b from r);rfl
 | int i=>obtain⟨t,e⟩:=(show ∃t,u=Value.int i t from r);cases e;rfl
 | str x=>obtain⟨t,e⟩:=(show ∃t,u=Value.str x t from r);cases e;rfl
 | byt b=>obtain⟨t,e⟩:=(show ∃t,u=Value.bytes b t from r);cases e;rfl
 | flt b=>obtain⟨t,e⟩:=(show ∃t,u=Value.float b t from r);cases e;rfl
 | ref a=>cases (show u=Value.ref a from r);rfl
 | ty n=>cases (show u=Value.type n from r);rfl
def zD (hok:iC P w H h)(e:H a=some (.ins C dx fs)):∃c,E5 h a dx C c/\(∀f,kZ (fs.lookup f) (c f))/\PySem.Within c (fs.map (·.1))/\fs.length<=1000/\H dx=some (.own a):=by
 obtain⟨d,z,ne,ob,c,n,r,q⟩:=(show cD P w H h a (.ins C dx fs)from hok a _ e)
 exact⟨c,⟨ob,n,ne⟩,r,q,z,d⟩
structure FC (K:d6)(C:Addr):Prop where
 pg:PySem.W.plainGet K C Str.empty=true
 hd:PySem.W.hasDictIn K C=true
 po:PySem.W.plainOver K C=true
 sa:PySem.W.findIn K (.ref C) "__setattr__" = some (some (.builtin "object.__setattr__"))
def FC.get {K:d6}{C:Addr}(c:FC K C)(f:Str):PySem.W.plainGet K C f=true:=c.pg
def iL (K:d6)(C:Addr)(f:Str):Prop:=PySem.W.findIn K (.ref C) f=some none
def iL.taker {K:d6}{C:Addr}{f:Str}(n:iL K C f):PySem.W.takerIn K C f=some none:=by unfold PySem.W.takerIn;rw[show PySem.W.findIn K (.ref C) f=some none from n];rfl
structure OX (K:d6)(C:Addr)(m:Str)(f:Addr):Prop where
 at_:PySem.W.findIn K (.ref C) m=some (some (.ref f))
 fn:PySem.W.isFn K (.ref f)=true
 kp:PySem.W.keepIn K (.ref f)=true
def EL {b:Bool}{Q:cE}(I:aK X pins σ H s)(e:H a=some (.ins C dx fs))(c:FC X.K C)(n:iL X.K C f)(l:fs.lookup f=some v)
  (h:∀u d,aK X pins σ H d->aQ v u->Q u d):wpAny (model X.prog X.w) A (getAttr (.ref a) f b) Q E s:=by
 obtain⟨i,O,r,_,_,_⟩:=zD I.hok e;obtain⟨u,j,g⟩:=kZ.some_of (v:=v) (o:=i f) (by rw[<-l];exact r f);exact RE I.kIn O (c.get f) c.hd n j (JT g) (h u _ (I.tok _) g)
def oU {m:Str}{g:Addr}{pl:Sem Bool}{Q:ef×dA->ee->Prop}(I:aK X pins σ H s)(e:H a=some (.ins C dx fs))(c:FC X.K C)(k:OX X.K C m g)(l:fs.lookup m=none)
  (h:Q (.ref g,[.ref a]) s):wpAny (model X.prog X.w) A (getMethod (.ref a) m pl) Q E s:=by
 obtain⟨d,O,r,_,_,_⟩:=zD I.hok e;have f:d m=none:=kZ.none_of (by rw[<-l];exact r m);exact NW I.kIn O (c.get m) k.at_ k.fn f h
def DL {y:V}{u:ef}{Q:Unit->ee->Prop}(I:aK X pins σ H s)(e:H a=some (.ins C dx fs))(c:FC X.K C)(n:iL X.K C f)(hl:fs.length<1000)(v:aQ y u)
  (h:∀j,aK X pins σ (upd H a (.ins C dx (putF f y fs))) j->Q () j):wpAny (model X.prog X.w) A (setAttr (.ref a) f u) Q E s:=by
 obtain⟨l,O,r,i,_,ho⟩:=zD I.hok e;have hz:(fs.map (·.1)).length<=sizeLine:=by rw[af,sizeLine_eq];lia
 refine PC I.kIn O c.sa c.po n.taker c.hd i hz λh' d m=>h _ ?_;have hd:∃o,h'.get? dx=some o:=let⟨o,_,_,e',_⟩:=d.ns;⟨o,e'⟩;refine I.write (x:=a) (e:=dx) (e ▸ True.intro) (.inr ho) (λb q F z=>(m.2 b F).trans z) hd ?_;refine⟨upk O.ne ho,?_,O.ne,d.obj,_,d.ns,λg=>?_,λg B=>?_⟩
 ·have:=gE f y fs;lia
 ·show kZ ((putF f y fs).lookup g) (if g=f then some u else l g);rw[bE];by_cases q:g=f
  ·rw[aj q,aj q];exact v
  ·rw[ab q,ab q];exact r g
 ·by_cases q:g=f
  ·rw[q];exact(qT f y fs).1
  ·refine(qT f y fs).2 g (i g λz=>B ?_);show(if g=f then some u else l g)=none;rw[ab q];exact z
def aK.made (I:aK X pins σ H s):aK X pins σ (upd (upd H s.heap.objs.size (.own (s.heap.objs.size+1))) (s.heap.objs.size+1) (.ins C s.heap.objs.size []))
  {s with heap:=(s.heap.push PySem.W.emptyDict).push (PySem.W.instObj C s.heap.objs.size)}:=by
 have c:(s.heap.push PySem.W.emptyDict).get? s.heap.objs.size=some PySem.W.emptyDict:=av s.heap rfl;have h:((s.heap.push PySem.W.emptyDict).push (PySem.W.instObj C s.heap.objs.size)).get? (s.heap.objs.size+1)=some (PySem.W.instObj C s.heap.objs.size):=by
  have:=av (s.heap.push PySem.W.emptyDict) (o:=PySem.W.instObj C s.heap.objs.size) rfl
  rwa [Heap.size_push]at this
 have g:(s.heap.push PySem.W.emptyDict).Ns s.heap.objs.size (λ_=>none):=⟨PySem.W.emptyDict,#[],_,c,rfl,(λe f=>absurd f dV),λ_=>rfl⟩
 have i:=I.laid (a:=s.heap.objs.size) (o:=.own (s.heap.objs.size+1)) (h':=s.heap.push PySem.W.emptyDict) (t':=s.toks) (λb u q=>ag _ q) (ac _) ⟨_,c⟩;refine i.laid (a:=s.heap.objs.size+1) (o:=.ins C s.heap.objs.size []) (t':=s.toks) (λb u q=>ag _ q) (Nat.le_of_eq (Heap.size_push _ _)) ?_;have ne:s.heap.objs.size≠s.heap.objs.size+1:=bv (Nat.lt_succ_self _);refine⟨by rw[bG ne,ew],aw _,ne,h,λ_=>none,(Heap.Ns1.of_empty g).at λo q=>ag _ q,λ_=>True.intro,λy d=>absurd rfl d⟩
def RU {Q:cE}(c:attributeBase e f env (eval e env)=eval e env)
  (h:wM prog w A (eval e env) (λo a=>wM prog w A (getAttr o f true) Q E a) E s):wM prog w A (eval (.Attribute e f pos) env) Q E s :=
 Attribute_any_ h (by rw[arm_eval_Attribute,c])
def tFld (K:d6)(e:TE)(f:Str):TE:=λd H Q=>e d H λx c=>∃a C g fs v,x = .ref a/\c a=some (.ins C g fs)/\FC K C/\iL K C f/\fs.lookup f=some v/\Q v c
def sFld (K:d6)(h g:TE)(f:Str):TS:=λD c H=>g c H λy i=>h c i λx e=>∃a C d fs,x = .ref a/\e a=some (.ins C d fs)/\FC K C/\iL K C f/\fs.length<1000 /\
 D.nx c (upd e a (.ins C d (putF f y fs)))
def DT (m:PE X e ta)(o:attributeBase e f X.env (eval e X.env)=eval e X.env):PE X (.Attribute e f pos) (tFld X.K ta f):=by intro d s g H Q I h;refine RU o (thn (m d s g H _ I h) λu E ⟨x,A,z,i,a,C,F,fs,v,ex,r,c,n,l,q⟩=>?_);subst ex;obtain rfl:u=Value.ref a:=i;exact EL z r c n l λB s2 w j=>⟨v,A,w,j,q⟩
def yM (z:PE X o ta)(v:PE X value tv)(w:swapsWith value (some (.Attribute o f pos')) pos.line X.env=pure false):PS X (.Assign [.Attribute o f pos'] value pos) (sFld X.K ta tv f):=by intro d s e H D I h;refine plainObj_wpAny_Assign_Attribute (thn (v d s e H _ I h) λu g ⟨y,G,F,i,q⟩=>thn (z d g e G _ F q) λr s2 ⟨x,N,E,j,a,C,L,fs,ex,A,c,n,l,m⟩=>?_) w;subst ex;obtain rfl:r=Value.ref a:=j;exact DL E A c n l i λJ B=>⟨e,_,B,m⟩
def SH {pl:Sem Bool}{m:Str}{i:Pos}{args:vE}{d:eN}{s:ee}{j:St}{H:Hp}{Q:cE}{v:TE}(E:PE X e v)(I:aK X d j H s)
  (h:v j H λx r=>∃a C w fs g,x = .ref a/\r a=some (.ins C w fs)/\FC X.K C/\OX X.K C m g/\fs.lookup m=none /\
   ∀o,aK X d j r o->wX X (callWith pos (.ref g) [.ref a] (backTo pos (starEach args X.env)) (backToKw pos (keywordEach [] X.env))) Q X.xe o)
  (B:eval (.Call (.Attribute e m i) args [] pos) X.env=(do
   let ov <-eval e X.env
   standAt i.atName
   let(f,first) <-holding [ov] (getMethod ov m pl)
   callWith pos f first (backTo pos (starEach args X.env)) (backToKw pos (keywordEach [] X.env)))) :
  wX X (eval (.Call (.Attribute e m i) args [] pos) X.env) Q X.xe s:=by
 refine PySem.W.methodCall_KW (pl:=pl) (thn (E d s j H _ I h) λu o ⟨x,r,z,A,a,C,w,fs,g,ex,F,c,k,l,q⟩=>?_) B;subst ex;obtain rfl:u=Value.ref a:=A;exact oU z F c k l (q o z)
structure eG (k:Nat)(A:en):Prop where
 hd:A.handled=none
 dp:A.depth+3 * k+5<recursionLimit
 un:A.units+16 * k+200<cLine
def eG.mono (r:eG k A)(h:j<=k):eG j A:=⟨r.hd,by have:=r.dp;lia,by have:=r.un;lia⟩
def eG.deeper (r:eG (k+1) A)(env:Env):eG k (A.deeper env) :=
 ⟨r.hd,by have:=r.dp;show A.depth+1+3 * k+5<_;lia,by have:=r.un;show A.units+3+16 * k+200<_;lia⟩
def eG.in1 (r:eG (k+1) A):eG k A.in1 :=
 ⟨r.hd,by have:=r.dp;show A.depth+3 * k+5<_;lia,by have:=r.un;show A.units+1+16 * k+200<_;lia⟩
def ED {A:en}{C:Addr}{us:dA}{a:List (Str×ef)}:(A.under (.builtin "type.__call__" ⟨.ref C::us,a⟩)).depth=A.depth+1:=by
 first|rfl|simp[Around.under,Code.weight,Code.isCreation,Code.isGuard,Code.isCaller,Code.frames,Code.isFrame,guardIds]
def EC {A:en}{C:Addr}{us:dA}{a:List (Str×ef)}:(A.under (.builtin "type.__call__" ⟨.ref C::us,a⟩)).units=A.units+1:=by
 first|rfl|simp[Around.under,Code.cUnits,Code.frames,Code.isFrame]
def eG.make (r:eG (k+1) A)(C:Addr)(us:dA)(a:List (Str×ef)):eG k (A.under (.builtin "type.__call__" ⟨.ref C::us,a⟩)) :=
 ⟨r.hd,by have:=r.dp;rw[ED];lia,by have:=r.un;rw[EC];lia⟩
def eG.depth (r:eG k A):A.depth<recursionLimit:=by have:=r.dp;lia
def eG.units (r:eG k A):A.units+64<cLine:=by have:=r.un;lia
def tNil:TA:=λ_ H Q=>Q [] H
def tCons (c:TE)(tr:TA):TA:=λa H Q=>c a H λx e=>tr a e λxs d=>Q (x::xs) d
def gA:PA X [] tNil:=λ_ _ _ _ H Q I h=>Calls.spliced_nil ⟨[],H,I,.nil,h⟩
def eB (o:PE X e te)(m:PA X es t)(l:starEach (e::es) X.env=(false,eval e X.env)::starEach es X.env:=by rfl):PA X (e::es) (tCons te t):=by intro c a s d H Q I h;rw[l];show wpAny _ _ (spliced ((false,eval e X.env)::backTo c (starEach es X.env))) _ _ s;refine Calls.spliced_cons (thn (o a s d H _ I h) λu f ⟨x,w,r,r1,j⟩=>?_);exact thn (m c a f d w _ r j) λus s2 ⟨xs,v,q,g,i⟩=>⟨x::xs,v,q,.cons r1 g,i⟩
def tTup (t:TA):TE:=λc H Q=>t c H λxs a=>xs.length<=sizeLine/\∀p,a p=none->Q (.ref p) (upd a p (.tup xs))
def tLst (t:TA):TE:=λc H Q=>t c H λxs a=>xs.length<=sizeLine/\∀p,a p=none->Q (.ref p) (upd a p (.lst xs))
def bB {x1}(h:PA X es t):PE X (.Tuple es x1 pos) (tTup t):=by intro a s g H Q I i;refine wpAny_Tuple_spliced (thn (h pos a s g H _ I i) λus c ⟨xs,f,d,r,z,q⟩=>⟨by rw[<-r.length];exact z,?_⟩);have j:f c.heap.objs.size=none:=d.hok.fresh (ac _);refine⟨.ref c.heap.objs.size,upd f c.heap.objs.size (.tup xs),d.laid (t':=c.toks) (λb u e=>ag _ e) (ac _) ?_,rfl,q _ j⟩;exact⟨z,us,r,⟨_,av _ rfl,rfl,_,rfl⟩⟩
def bW (h:PA X es t):PE X (.List es pos) (tLst t):=by intro a s g H Q I i;refine wpAny_List_spliced (thn (h pos a s g H _ I i) λus c ⟨xs,f,d,r,z,q⟩=>⟨by rw[<-r.length];exact z,?_⟩);have j:f c.heap.objs.size=none:=d.hok.fresh (ac _);refine⟨.ref c.heap.objs.size,upd f c.heap.objs.size (.lst xs),d.laid (t':=c.toks) (λb u e=>ag _ e) (ac _) ?_,rfl,q _ j⟩;exact⟨z,us,0,r,av _ rfl⟩
abbrev Sp:=List V->Hp->VK->XK->Prop
abbrev KJ:=List Env->Hp->ee->XK->cE
structure AK (P:eg)(w:eh)(K:d6)(mg:jD)(base:Heap)(A:en)(outer:List Env)(s:ee)(H:Hp):Prop where
 frames:A.frames=some outer
 mod:Mod K mg base
 bs:∀b o,base.get? b=some o->s.heap.get? b=some o/\H b=none
 bsz:base.objs.size<=s.heap.objs.size
 funs:s.heap.FunFrames base outer
 frf:∀b∈frs outer,H b=none
 hok:iC P w H s.heap
 bare:AllBare s.gens
def CE (outer:List Env)(P:eg)(w:eh)(H:Hp)(s:ee)(Q:VK)(u:ef)(a:ee):Prop :=
 ∃v H',a.os=s.os/\AllBare a.gens/\Un (frs outer) [] H H' s.heap a.heap/\iC P w H' a.heap/\aQ v u/\Q v H'
def CR (CX:KJ)(outer:List Env)(P:eg)(w:eh)(H:Hp)(s:ee)(Q:VK)(E:XK)(r:Result)(a:ee):Prop :=
 match r with
 | .ok (.ret u)=>CE outer P w H s Q u a
 | .ok _=>False
 | .error e=>CX outer H s E e a
structure hZ (P:eg)(w:eh)(K:d6)(mg:jD)(base:Heap)(CX:KJ)(k:Nat)(f:Addr)(fd:FuncData)(ps:bA)(sp:Sp):Prop where
 len:∀vs H Q E,sp vs H Q E->vs.length=ps.length
 run:∀(A:en) (outer:List Env) (s:ee) (H:Hp) (args:Args) (us:dA) (vs:List V) (Q:VK) (E:XK),eG k A->AK P w K mg base A outer s H->BindsTo s fd args (ps.zip us)->aO vs us->sp vs H Q E ->
  codeAny (model P w) A (.call (.ref f) args) (CR CX outer P w H s Q E) s
theorem hZ.mono {P:eg}{w:eh}{K:d6}{mg:jD}{base:Heap}{CX:KJ}{j k:Nat}{f:Addr}{fd:FuncData}{ps:bA}{a:Sp}(F:hZ P w K mg base CX j f fd ps a)(h:j<=k) :
  hZ P w K mg base CX k f fd ps a:=⟨F.len,λA outer s H args us vs Q E c=>F.run A outer s H args us vs Q E (c.mono h)⟩
def AK.make {P:eg}{w:eh}{K:d6}{mg:jD}{base:Heap}{A:en}{outer:List Env}{s:ee}{H:Hp}(e:AK P w K mg base A outer s H)(C:Addr)(us:dA)(a:List (Str×ef)) :
  AK P w K mg base (A.under (.builtin "type.__call__" ⟨.ref C::us,a⟩)) outer s H:=⟨by first|exact e.frames|(simpa [Around.under,Code.envs,Code.isFrame,pushEnvs] using e.frames),e.mod,e.bs,e.bsz,e.funs,e.frf,e.hok,e.bare⟩
def aK.env0 (I:aK X pins σ H s):AK X.prog X.w X.K X.mg X.base X.A X.stack s H :=
 ⟨I.ok.frames,I.ok.mod,I.bs,aq I.ok.bsz I.sz,I.stack,I.stkFree,I.hok,I.bare⟩
def aK.after {Q:VK}{u:ef}(I:aK X pins σ H s)(h:CE X.stack X.prog X.w H s Q u s'):EP X pins σ Q u s':=by obtain⟨v,H',os,bare,un,hok,r,q⟩:=h;obtain⟨c,g,d,t,a⟩:=s';obtain rfl:a=s.os:=os;exact⟨v,H',I.call (h':=c) (g':=g) (d':=d) (t':=t) (ch:=[]) un hok bare (λb z=>absurd z dV),r,q⟩
def tCall (d:Sp)(a:List V)(E:XK)(t:TA):TE:=λc H Q=>t c H λvs e=>d (vs++a) e Q E
def tMeth (C:Addr)(m:Str)(g:Sp)(c:List V)(E:XK)(f:TE)(t:TA):TE:=λd H Q=>f d H λx e=>∃a h fs,x = .ref a/\e a=some (.ins C h fs)/\fs.lookup m=none /\
 t d e λvs i=>g (x::(vs++c)) i Q E
def tMake (C:Addr)(f:Sp)(c:List V)(E:XK)(t:TA):TE:=λe H Q=>t e H λvs d=>∀x a,d x=none->d a=none->a≠x ->
 f (.ref x::(vs++c)) (upd (upd d a (.own x)) x (.ins C a [])) (λv g=>v = .non/\Q (.ref x) g) E
def eH (K:d6)(fd:FuncData)(ps:bA)(ds:dA):Prop :=
 ∀(s:ee) (us:dA),K.In s.heap->(us++ds).length=ps.length->BindsTo s fd ⟨us,[]⟩ (ps.zip (us++ds))
def eH.all {K:d6}{fd:FuncData}{ps:bA}(h:∀us:dA,us.length=ps.length->bindArgs fd ⟨us,[]⟩=pure (ps.zip us)):eH K fd ps []:=λs us _ hl=>by rw[bu]at hl|-;exact .of_eq (h us hl)
def j0 (CX:KJ)(X:Cx)(E:XK):Prop:=∀(a:eN) (σ:St) (H:Hp) (s:ee) (e:ef) (s':ee),aK X a σ H s->CX X.stack H s E e s'->X.xe e s'
section
variable {X:Cx}{CX:KJ}{k:Nat}{f C:Addr}{fd:FuncData}{ps:bA}{sp:Sp}{dvs:List V}{ds:dA}{E:XK}{x m:Str}{p pos apos:Pos}{e o:Expr}{es:vE}{ta:TE}{t:TA}
def DO {a:eN}{d:St}{H:Hp}{s:ee}{Q:VK}{us:dA}{vs:List V}(F:hZ X.prog X.w X.K X.mg X.base CX k f fd ps sp)(l:eG k X.A)(m:eH X.K fd ps ds)(hd:aO dvs ds)(j:j0 CX X E)
  (I:aK X a d H s) (r:aO vs us) (h:sp (vs++dvs) H Q E):wX X (call (.ref f) us) (EP X a d Q) X.xe s:=by
 have g:aO (vs++dvs) (us++ds):=r.append hd;have hl:(us++ds).length=ps.length:=by rw[<-g.length];exact F.len _ _ _ _ h
 refine wpAny_call (codeAny_mono (F.run X.A X.stack s H ⟨us,[]⟩ (us++ds) (vs++dvs) Q E l I.env0 (m s us I.kIn hl) g h) λr i c=>?_);cases r with
 | error e=>exact j a d H s e i I c
 | ok fl =>
  cases fl with
  | ret u=>exact I.after c
  | next=>exact False.elim c
  | brk=>exact False.elim c
  | cont=>exact False.elim c
def QA (F:hZ X.prog X.w X.K X.mg X.base CX k f fd ps sp)(l:eG k X.A)(o:Gl X x)(hm:X.mg x=some (.ref f))(m:PySem.W.keepIn X.K (.ref f)=true)(v:eH X.K fd ps ds)(hd:aO dvs ds)(j:j0 CX X E)
  (z:PA X (e::es) t) (d:(x == ("__debug__" : Str))=false:=by decide) (u:starEach (e::es) X.env=(false,eval e X.env)::starEach es X.env:=by rfl) (c:(backTo pos (starEach es X.env)).any (·.1)=false:=by rfl) :
  PE X (.Call (.Name x p) (e::es) [] pos) (tCall sp dvs E t):=by
 intro a s i H Q I h;refine wpAny_Call_Name_kw (sI I o hm ?_ d);refine PySem.W.callWith_K (h₀:=X.base) I.ok.mod.kin m (thn (z pos a s i H _ I h) λus B ⟨vs,C,g,r,q⟩=>⟨g.kIn,?_⟩) u c;exact DO F l v hd j g r q
def P6 (P:PE X o ta)(c:FC X.K C)(hm:OX X.K C m f)(F:hZ X.prog X.w X.K X.mg X.base CX k f fd ps sp)(O:eG k X.A)(R:eH X.K fd ps ds)(hd:aO dvs ds)(L:j0 CX X E)(S:PA X (e::es) t)
  (g:starEach (e::es) X.env=(false,eval e X.env)::starEach es X.env:=by rfl) (i:(backTo pos (starEach es X.env)).any (·.1)=false:=by rfl)
  (N:eval (.Call (.Attribute o m apos) (e::es) [] pos) X.env=(do
   let ov <-eval o X.env
   standAt apos.atName
   let(f,first) <-holding [ov] (getMethod ov m pl)
   callWith pos f first (backTo pos (starEach (e::es) X.env)) (backToKw pos (keywordEach [] X.env))):=by rfl) :
  PE X (.Call (.Attribute o m apos) (e::es) [] pos) (tMeth C m sp dvs E ta t):=by
 intro d s j H Q I h;refine PySem.W.methodCall_KW (pl:=pl) (thn (P d s j H _ I h) λu B ⟨x,U,z,G,a,Y,fs,ex,T,l,q⟩=>?_) N;subst ex;obtain rfl:u=Value.ref a:=G;refine oU z T c hm l ?_;refine PySem.W.callWith_K (first:=[.ref a]) (h₀:=X.base) I.ok.mod.kin hm.kp (thn (S pos d B j U _ z q) λus s2 ⟨vs,Z,v,r,J⟩=>⟨v.kIn,?_⟩) g i;exact DO (us:=.ref a::us) (vs:=.ref a::vs) F O R hd L v (.cons rfl r) J
def MA (z:PE X o ta)(c:FC X.K C)(hm:OX X.K C m f)(F:hZ X.prog X.w X.K X.mg X.base CX k f fd ps sp)(v:eG k X.A)(B:eH X.K fd ps ds)(hd:aO dvs ds)(j:j0 CX X E)
  (r:eval (.Call (.Attribute o m apos) [] [] pos) X.env=(do
   let ov <-eval o X.env
   standAt apos.atName
   let(f,first) <-holding [ov] (getMethod ov m pl)
   callWith pos f first (backTo pos (starEach [] X.env)) (backToKw pos (keywordEach [] X.env))):=by rfl) :
  PE X (.Call (.Attribute o m apos) [] [] pos) (tMeth C m sp dvs E ta tNil):=by
 intro d s g H Q I h;refine PySem.W.methodCall_KW (pl:=pl) (thn (z d s g H _ I h) λu J ⟨x,N,e,i,a,L,fs,ex,G,l,q⟩=>?_) r;subst ex;obtain rfl:u=Value.ref a:=i;refine oU e G c hm l ?_;exact PySem.W.callWith_K0 (first:=[.ref a]) e.kIn hm.kp (DO (us:=[.ref a]) (vs:=[.ref a]) F v B hd j e (.cons rfl .nil) q)
structure Mk (K:d6)(C f:Addr):Prop where
 makes:PySem.W.makesIn K C=true
 init:PySem.W.findIn K (.ref C) "__init__" = some (some (.ref f))
 fn:PySem.W.isFn K (.ref f)=true
 kp:PySem.W.keepIn K (.ref C)=true
def LN {a:eN}{i:St}{H:Hp}{s:ee}{Q:VK}{us:dA}{vs:List V}(M:Mk X.K C f)(F:hZ X.prog X.w X.K X.mg X.base CX k f fd ps sp)(B:eG (k+1) X.A)(G:eH X.K fd ps ds)(hd:aO dvs ds)
  (z:j0 CX X E) (I:aK X a i H s) (r:aO vs us)
  (h:∀x d,H x=none->H d=none->d≠x->sp (.ref x::(vs++dvs)) (upd (upd H d (.own x)) x (.ins C d [])) (λv N=>v = .non/\Q (.ref x) N) E) :
  wX X (call (.ref C) us) (EP X a i Q) X.xe s:=by
 have l:=h (s.heap.objs.size+1) s.heap.objs.size (I.hok.fresh (Nat.le_succ _)) (I.hok.fresh (ac _)) (bv (Nat.lt_succ_self _));have g:=aK.made (C:=C) I;have j:aO (V.ref (s.heap.objs.size+1)::(vs++dvs)) (Value.ref (s.heap.objs.size+1)::(us++ds)):=.cons rfl (r.append hd);have hl:(Value.ref (s.heap.objs.size+1)::us++ds).length=ps.length:=by have e:=j.length;rw[F.len _ _ _ _ l]at e;exact e.symm
 refine wpAny_call (NH (f:=f) I.kIn M.makes M.init (beq_iff_eq.mp M.fn) (codeAny_mono (F.run _ X.stack _ _ ⟨Value.ref (s.heap.objs.size+1)::us,[]⟩ (Value.ref (s.heap.objs.size+1)::(us++ds)) _ _ E (B.make C us [])
  (g.env0.make C us []) (G _ (Value.ref (s.heap.objs.size+1)::us) g.kIn hl) j l) λr m c=>?_))
 cases r with
 | error e=>exact z a i _ _ e m g c
 | ok fl =>
  cases fl with
  | ret u =>
   obtain⟨v,H',L,o,J,q⟩:=g.after c;subst J;exact⟨o,⟨V.ref (s.heap.objs.size+1),H',L,rfl,q⟩⟩
  | next=>exact False.elim c
  | brk=>exact False.elim c
  | cont=>exact False.elim c
def P7 (M:Mk X.K C f)(F:hZ X.prog X.w X.K X.mg X.base CX k f fd ps sp)(l:eG (k+1) X.A)(m:Gl X x)(hm:X.mg x=some (.ref C))(u:eH X.K fd ps ds)(hd:aO dvs ds)(j:j0 CX X E)
  (v:PA X (e::es) t) (d:(x == ("__debug__" : Str))=false:=by decide) (o:starEach (e::es) X.env=(false,eval e X.env)::starEach es X.env:=by rfl) (c:(backTo pos (starEach es X.env)).any (·.1)=false:=by rfl) :
  PE X (.Call (.Name x p) (e::es) [] pos) (tMake C sp dvs E t):=by
 intro a s i H Q I h;refine wpAny_Call_Name_kw (sI I m hm ?_ d);refine PySem.W.callWith_K (h₀:=X.base) I.ok.mod.kin M.kp (thn (v pos a s i H _ I h) λus z ⟨vs,B,g,r,q⟩=>⟨g.kIn,?_⟩) o c;exact LN M F l u hd j g r q
end
def PK (X:Cx)(c:List Keyword)(t:TA):Prop :=
 ∀(a:Pos) (pins:eN) (s:ee) (σ:St) (H:Hp) (Q:List V->Hp->Prop),aK X pins σ H s->t σ H Q->wX X (evalAll ((backToKw a (keywordEach c X.env)).map (·.2))) (AP X pins σ Q) X.xe s
def TN:PK X [] tNil:=λ_ _ _ _ H Q I h=>wpAny_evalAll_nil ⟨[],H,I,.nil,h⟩
def P0 (m:PE X e te)(l:PK X kws t):PK X (⟨nm,e,kpos⟩::kws) (tCons te t):=by intro c a s d H Q I h;show wpAny _ _ (evalAll ((do let v <-eval e X.env;standAt c;pure v)::(backToKw c (keywordEach kws X.env)).map (·.2))) _ _ s;refine wpAny_evalAll_cons (aa (thn (m a s d H _ I h) λu f ⟨x,w,q,r1,j⟩=>aa (wpAny_standAt (ao ?_))));exact thn (l c a f d w _ q j) λus s2 ⟨xs,r,o,g,i⟩=>⟨x::xs,r,o,.cons r1 g,i⟩
structure kC (N P:bA)(sc:Scope):Prop where
 kind:sc.kind = .function
 co:sc.isCoroutine=false
 gen:sc.isGenerator=false
 nd:N.Nodup
 pre:N.take P.length=P
 par:∀x∈P,sc.names.lookup x=some .local\/sc.names.lookup x=some .cell
 nofree:∀y∈sc.names,y.2≠.free
def xP {a:Str->Option NameKind}:∀{binds:List (Str×ef)} {m:jD},(∀v,(x,v)∉binds)->bindL a binds m x=m x
 | [],_,_=>rfl
 | (n,v)::r,m,h=>by
  unfold bindL;rw[xP λw c=>h w (bc _ c)];split
  ·have:x≠n:=by rintro rfl;exact h v ax
   simp[this]
  ·rfl
def xR {a:Str->Option NameKind}:∀{binds:List (Str×ef)} {m:jD},(∀v,(x,v)∉binds)->bindC a binds m x=m x
 | [],_,_=>rfl
 | (n,v)::r,m,h=>by
  unfold bindC;rw[xR λw c=>h w (bc _ c)];split
  ·rfl
  ·have:x≠n:=by rintro rfl;exact h v ax
   simp[this]
theorem xQ {a:Str->Option NameKind}:∀{P:bA} {vs:dA} {i:Nat} {m:jD},P.Nodup->P[i]?=some x->vs[i]?=some v->a x=some .local ->
  bindL a (P.zip vs) m x=some v
 | [],_,_,_,_,h,_,_=>by simp at h
 | _::_,[],_,_,_,_,h,_=>by simp at h
 | p::P,w::vs,0,m,nd,d,c,e=>by
  simp at d c;subst d;subst c;show bindL a ((p,w)::P.zip vs) m p=_;unfold bindL;rw[xP λv f=>(dc.mp nd).1 (List.of_mem_zip f).1,aj e];simp
 | p::P,w::vs,i+1,m,nd,d,c,e=>by show bindL a ((p,w)::P.zip vs) m x=_;unfold bindL;exact xQ (i:=i) (dc.mp nd).2 (by simpa using d) (by simpa using c) e
theorem xS {a:Str->Option NameKind}:∀{P:bA} {vs:dA} {i:Nat} {m:jD},P.Nodup->P[i]?=some x->vs[i]?=some v->a x≠some .local ->
  bindC a (P.zip vs) m x=some v
 | [],_,_,_,_,h,_,_=>by simp at h
 | _::_,[],_,_,_,_,h,_=>by simp at h
 | p::P,w::vs,0,m,nd,d,c,e=>by
  simp at d c;subst d;subst c;show bindC a ((p,w)::P.zip vs) m p=_;unfold bindC;rw[xR λv f=>(dc.mp nd).1 (List.of_mem_zip f).1,ab e];simp
 | p::P,w::vs,i+1,m,nd,d,c,e=>by show bindC a ((p,w)::P.zip vs) m x=_;unfold bindC;exact xS (i:=i) (dc.mp nd).2 (by simpa using d) (by simpa using c) e
noncomputable def start (N:bA)(vs:List V):St:=vs.map some++List.replicate (N.length - vs.length) none
noncomputable def cxOf (CX:KJ)(P:eg)(w:eh)(K:d6)(mg:jD)(base:Heap)(N:bA)(a:Str)(scope:Scope)(f:Addr)(cd:ef)(A:en)(outer:List Env)(s:ee)(H:Hp)(E:XK):Cx where
 prog:=P
 w:=w
 K:=K
 mg:=mg
 base:=base
 A:=A.deeper (envOfC a scope s.heap.objs.size f cd)
 N:=N
 s₀:=s
 H₀:=H
 env:=envOfC a scope s.heap.objs.size f cd
 outer:=outer
 stack:=envOfC a scope s.heap.objs.size f cd::outer
 ex:=[]
 calm:=true
 fn:=λ_=>true
 pn:=[]
 xe:=λe d=>wpAny (model P w) (A.deeper (envOfC a scope s.heap.objs.size f cd)) (leaving (envOfC a scope s.heap.objs.size f cd) e) (λ_ c=>CX outer H s E e c) (λg c=>CX outer H s E g c) d
def CL {a:Scope}{n:Nat}{x:Str}(h:a.names.lookup x=some .cell):∃c,(cellsFrom n a.names []).lookup x=some c:=by have q:=PySem.W.cellsFrom_some a.names n [] (.inl h);exact Option.isSome_iff_exists.mp q
def JR {CX:KJ}{P:eg}{w:eh}{K:d6}{mg:jD}{base:Heap}{N ps:bA}{d:Str}{scope:Scope}{f:Addr}{cd:ef}{A:en}{outer:List Env}{s G:ee}{H:Hp}{E:XK}{us:dA}{vs:List V}
  (S:kC N ps scope) (hd:A.handled=none) (j:AK P w K mg base A outer s H) (hl:vs.length=ps.length) (r:aO vs us)
  (x:InCallC s s.heap.objs.size (bindL (envOfC d scope s.heap.objs.size f cd).kindOf (ps.zip us) λ_=>none) (cellsFrom (s.heap.objs.size+1) scope.names []) (bindC (envOfC d scope s.heap.objs.size f cd).kindOf (ps.zip us) λ_=>none) G) :
  aK (cxOf CX P w K mg base N d scope f cd A outer s H E) [] (start N vs) H G:=by
 have O:ps.length<=N.length:=by have:=congrArg List.length S.pre;rw[bz]at this;lia
 obtain⟨F,tk,rfl,J⟩:=x.done;have l:∀b:Addr,b∉(cxOf CX P w K mg base N d scope f cd A outer s H E).ex:=λb z=>absurd (show b∈([]:List Addr)from z) dV
 refine⟨⟨j.mod,S.kind,rfl,rfl,ac _,λy z c F g=>?_,λy m=>?_,λy c _ h=>?_,λ_=>hd,Around.frames_deeper j.frames,.inr ⟨rfl,rfl⟩,λb z=>absurd z (l b),j.bs,j.bsz,λb _ _=>l b,λb z=>absurd z (l b),j.funs,j.frf⟩,
  rfl,j.bare,Un.kept J,⟨_,x.toInCall.ns,λi y v F g R=>?_⟩,λy c h=>⟨_,x.cell y c h⟩,j.hok.fresh (ac _),λy c h=>?_,λp B=>absurd (show p∈([]:eN)from B) dV,j.hok.kept J,?_⟩
 ·exact name_of_addr x.apart (PySem.mem_of_lookup F) (PySem.mem_of_lookup g)
 ·have m:scope.names.lookup y=some .cell\/scope.names.lookup y=some .free:=m;rcases m with m|m
  ·exact CL m
  ·exact absurd rfl (S.nofree _ (PySem.mem_of_lookup m))
 ·exact Nat.le_of_lt (x.above y c (PySem.mem_of_lookup h))
 ·have C:i<vs.length:=by
   unfold start at g;by_cases C:i<vs.length
   ·exact C
   ·rw[List.getElem?_append_right (by simpa using C)]at g;rw[List.getElem?_replicate]at g;split at g <;> cases g
  have Q:vs[i]?=some v:=by
   unfold start at g;rw[List.getElem?_append_left (by simpa using C),cf]at g;cases e:vs[i]? with
   | none=>rw[e]at g;cases g
   | some a=>rw[e]at g;cases g;rfl
  obtain⟨u,I,L⟩:=r.get Q;have B:ps[i]?=some y:=by rw[<-S.pre,List.getElem?_take_of_lt dz];exact F
  have o:ps.Nodup:=by rw[<-S.pre];exact S.nd.sublist (List.take_sublist _ _)
  refine⟨u,L,?_⟩;rcases S.par y (bn B)with k|k
  ·exact .inl ⟨k,xQ o B I k⟩
  ·obtain⟨c,e⟩:=CL (n:=s.heap.objs.size+1) k;refine .inr ⟨.inl k,c,e,?_⟩;have q:=x.cell y c e;rw[xS o B I (by show scope.names.lookup y≠_;rw[k];decide)]at q;exact q
 ·exact j.hok.fresh (Nat.le_of_lt (x.above y c (PySem.mem_of_lookup h)))
 ·unfold start;show _=N.length;rw[au,af,List.length_replicate]
  lia
def SI {CX:KJ}{P:eg}{w:eh}{K:d6}{mg:jD}{base:Heap}{k:Nat}{f:Addr}{name a:Str}{d:Arguments}{body:List Stmt}{scope:Scope}{U kV z T c ct Y:ef}{X od:Option Addr}
  {osl:Array (Option ef)} {N ps:bA} {B:Sp} (Z:K.lookup f=some ⟨Y,od,.func (PySem.W.fnOf name a d body scope U kV z T X c ct),osl⟩) (O:PySem.W.codeIn K c a=true) (S:kC N ps scope)
  (len:∀vs H Q E,B vs H Q E->vs.length=ps.length)
  (i:∀(A:en) (outer:List Env) (s:ee) (H:Hp) (vs:List V) (Q:VK) (E:XK),eG k (A.deeper (envOfC a scope s.heap.objs.size f c))->B vs H Q E ->
   ∃t,uU (cxOf CX P w K mg base N a scope f c A outer s H E) body t/\t {nx:=λ_ H'=>Q .non H',rt:=Q} (start N vs) H) :
  hZ P w K mg base CX (k+1) f (PySem.W.fnOf name a d body scope U kV z T X c ct) ps B:=by
 refine⟨len,λA outer s H args us vs Q E L m hb r l=>?_⟩;have hl:=len _ _ _ _ l;have KX:K.In s.heap:=m.mod.kin.keeps λb o e=>(m.bs b o e).1;have G:s.heap.NoLimit:=m.mod.nolimit.keeps λb o e=>(m.bs b o e).1;have h:∀y∈ps.zip us,scope.names.lookup y.1=some .local\/(scope.names.lookup y.1=some .cell/\((cellsFrom (s.heap.objs.size+1) scope.names []).lookup y.1).isSome=true):=λ⟨n,v⟩ hy=>by
  rcases S.par n (List.of_mem_zip hy).1 with q|q
  ·exact .inl q
  ·exact .inr ⟨q,PySem.W.cellsFrom_some _ _ _ (.inl q)⟩
 refine codeAny_call_function L.depth (KX _ _ Z) rfl S.co S.gen rfl (PySem.W.codeRec_of KX O) (hb _ _ _ _ ?_);refine wpAny_newFunctionEnv_cells S.kind h λenv he R x=>?_;subst he;refine⟨G.keeps x.toInCall.keep,codeAny_func ?_⟩;obtain⟨t,ht,hq⟩:=i A outer s H vs Q E (L.deeper _) l;have I:aK (cxOf CX P w K mg base N a scope f c A outer s H E) [] (start N vs) H R:=JR S L.hd m hl r x;refine wpAny_mono (ht [] R (start N vs) H _ I hq) (λfl C j=>?_) λe C j=>j;have fin:∀{g:St} {H':Hp} {v:V} {u:ef},aK (cxOf CX P w K mg base N a scope f c A outer s H E) [] g H' C->aQ v u->Q v H'->CE outer P w H s Q u C :=
  λ{g H' v u} J F q=>⟨v,H',J.os,J.bare,J.base,J.hok,F,q⟩
 cases fl with
 | ret u =>
  obtain⟨v,g,H',J,F,q⟩:=j;exact fin J F q
 | next =>
  obtain⟨g,H',J,q⟩:=j;exact fin (v:=V.non) (u:=Value.none) J rfl q
 | brk =>
  obtain⟨_,_,_,q⟩:=j;exact False.elim q
 | cont =>
  obtain⟨_,_,_,q⟩:=j;exact False.elim q
section
variable {X:Cx}{x:Str}{p pos:Pos}{e:Expr}{es:vE}{t:TA}{id T:String}{r:List V->Hp->VK->Prop}
def tCB (r:List V->Hp->VK->Prop)(t:TA):TE:=λa H Q=>t a H λvs c=>r vs c Q
def BI (q:dZ X (.builtin id) r)(m:Gl X x)(hm:X.mg x=none)(j:bootBuiltins x=some (.builtin id))(u:PA X (e::es) t)(l:x≠"__name__":=by decide)(d:(x == ("__debug__" : Str))=false:=by decide)
  (o:starEach (e::es) X.env=(false,eval e X.env)::starEach es X.env:=by rfl) (c:(backTo pos (starEach es X.env)).any (·.1)=false:=by rfl):PE X (.Call (.Name x p) (e::es) [] pos) (tCB r t):=by
 intro a s f H Q I h;refine wpAny_Call_Name_kw (kG I m hm j ?_ l d);exact PyProof.Rows.callWith_builtin1 (thn (u pos a s f H _ I h) λus g ⟨vs,w,v,r1,i⟩=>q a g f w vs us Q v r1 i) o c
def cW (i:dZ X (.builtin id) r)(hm:X.mg x=none)(j:PA X (e::es) t)(g:Gl X x:=by exact rfl)(d:bootBuiltins x=some (.builtin id):=by exact rfl)(f:x≠"__name__":=by decide)(c:(x == ("__debug__" : Str))=false:=by decide)
  (h:starEach (e::es) X.env=(false,eval e X.env)::starEach es X.env:=by rfl) (a:(backTo pos (starEach es X.env)).any (·.1)=false:=by rfl):PE X (.Call (.Name x p) (e::es) [] pos) (tCB r t):=BI i g hm d j f c h a
def bR (q:dZ X (.type T) r)(m:Gl X x)(hm:X.mg x=none)(j:bootBuiltins x=some (.type T))(u:PA X (e::es) t)(l:x≠"__name__":=by decide)(d:(x == ("__debug__" : Str))=false:=by decide)
  (o:starEach (e::es) X.env=(false,eval e X.env)::starEach es X.env:=by rfl) (c:(backTo pos (starEach es X.env)).any (·.1)=false:=by rfl):PE X (.Call (.Name x p) (e::es) [] pos) (tCB r t):=by
 intro a s f H Q I h;refine wpAny_Call_Name_kw (kG I m hm j ?_ l d);exact PyProof.Rows.callWith_type1 (thn (u pos a s f H _ I h) λus g ⟨vs,w,v,r1,i⟩=>q a g f w vs us Q v r1 i) o c
end
end L2
namespace HT
open PySem PyProof.Rows
noncomputable def lexLt:List Int->List Int->Bool
 | [],[]=>false
 | [],_::_=>true
 | _::_,[]=>false
 | x::xs,y::ys=>if x=y then lexLt xs ys else decide (x<y)
def UO (x y:Int)(xs ys:List Int):lexLt (x::xs) (y::ys)=if x=y then lexLt xs ys else decide (x<y):=rfl
def V9 (A:en)(s:ee)(a:Int)(t:Tok)(c:Int)(u:Tok):∃e,SeqAt.EqAt A s (.int a t) (.int c u) e/\(e=true ↔ a=c) :=
 ⟨(a == c),SeqAt.EqAt.int_int a t c u,dV⟩
def rcLt_int (A:en)(s:ee)(a:Int)(t:Tok)(c:Int)(u:Tok)(prog:eg)(w:eh)(E:cE)(Q:cE)(h:Q (.bool (decide (a<c))) s) :
  wpAny (model prog w) A (richCompare .Lt (.int a t) (.int c u)) Q E s :=
 (PyProof.Rows.lt_int h:wpAny (model prog w) A (compareOp .Lt (.int a t) (.int c u)) Q E s)
section
open PySem.SeqAt
open PySem.AutoSeq1 (wpAny_loadPart')
open PySem.MeetsSeq PySem.MeetsSeq2 PySem.MeetsSeq3
end
def cat_tup {Q:cE}(r:IsTup s.heap t vs.toArray)(u:IsTup s.heap b ws.toArray)(l:vs≠[])
  (z:ws=[]->Q (.ref t) s) (v:ws≠[]->Q (.ref s.heap.objs.size) {s with heap:=s.heap.push {cls:=.type "tuple",data:=.seq (vs++ws).toArray} })
  (hsz:vs.length+ws.length<=sizeLine):wpAny (model prog w) A (binaryOp .Add (.ref t) (.ref b)) Q E s:=by
 obtain⟨⟨cls,o,data,j⟩,ho,m,n,hd⟩:=id r;obtain⟨⟨q,g,i,c⟩,a,f,n2,d⟩:=id u;simp only at m hd f d;subst m hd f d;have e:vs.toArray++ws.toArray=(vs++ws).toArray:=by simp
 by_cases h:ws=[]
 ·exact concat_meets ⟨_,ho,rfl⟩ ⟨_,a,rfl⟩ noFill_tuple_add seq_tuple_add PySem.F.slot_tuple_add PySem.F.entry_tuple_add (PySem.F.args_tuple_add_2 _ _)
   (tuple_addW1 t b vs.toArray ws.toArray n n2 o g j c (by simpa using l) (by simp[h])) ⟨ho,a,z h⟩
 ·refine concat_meets ⟨_,ho,rfl⟩ ⟨_,a,rfl⟩ noFill_tuple_add seq_tuple_add PySem.F.slot_tuple_add PySem.F.entry_tuple_add (PySem.F.args_tuple_add_2 _ _)
   (tuple_addW2 t b vs.toArray ws.toArray n n2 o g j c (by simpa using l) (by simpa using h) (by rw[ai,ai];exact hsz)) ⟨ho,a,?_⟩
  rw[e];exact v h
noncomputable def sIx (n d:Nat):Option Int->Nat
 | none=>d
 | some v=>if v<0 then(v+(n:Int)).toNat else min v.toNat n
def sIx_none (n d:Nat):sIx n d none=d:=rfl
def sIx_nat (n d k:Nat):sIx n d (some (k:Int))=min k n:=by show(if (k:Int)<0 then((k:Int)+(n:Int)).toNat else min (k:Int).toNat n)=min k n;rw[ab dz,cw]
def TJ (n d:Nat)(hd:d<=n)(o:Option Int):sIx n d o<=n:=by
 cases o with
 | none=>exact hd
 | some v =>
  show(if v<0 then(v+(n:Int)).toNat else min v.toNat n)<=n;by_cases a:v<0
  ·rw[aj a];lia
  ·rw[ab a];exact Nat.min_le_right _ _
def HL (v:Int)(n d:Nat):(if v<0 then max (v+(n:Int)) 0 else min v (n:Int))=((sIx n d (some v):Nat):Int):=by
 show(if v<0 then max (v+(n:Int)) 0 else min v (n:Int))=(((if v<0 then(v+(n:Int)).toNat else min v.toNat n):Nat):Int);by_cases a:v<0
 ·simp only[aj a];lia
 ·simp only[ab a];lia
def E2 (a c:Option Int)(n:Nat):Builtin.Slice.sliceAdjust a c 1 (n:Int)=(((sIx n 0 a:Nat):Int),((sIx n n c:Nat):Int)):=by
 have d:¬((1:Int)<0):=by lia
 unfold Builtin.Slice.sliceAdjust;simp only[d,if_false];refine Prod.ext ?_ ?_
 ·cases a with
  | none=>rfl
  | some v=>exact HL v n 0
 ·cases c with
  | none=>rfl
  | some v=>exact HL v n n
def DQ (i j:Nat):Builtin.Slice.slicePlaces (i:Int) (j:Int) 1=j - i:=by
 unfold Builtin.Slice.slicePlaces;have a:(1:Int) > 0:=by lia
 simp only[a,if_true,Int.ediv_one];split <;> lia
def slicePart_ {Q:Option Int->ee->Prop}(p:IsPart v o)(h:Q o s):wpAny (model prog w) A (Builtin.Slice.slicePartIndex v) Q E s:=by
 cases p with
 | none=>exact slicePart_none h
 | int i t=>exact slicePart_int h
def qL {i:Addr}{g f:ef}{a d:Option Int}{n:Nat}{Q:Int×Int×Nat->ee->Prop}(l:s.heap.IsSliceOf i g f .none)(pl:IsPart g a)(j:IsPart f d)
  (h:Q (((sIx n 0 a:Nat):Int),1,sIx n n d - sIx n 0 a) s):wpAny (model prog w) A (Builtin.Slice.sliceApplied (.ref i) (pure (n:Int))) Q E s:=by
 obtain⟨os,c,m,e⟩:=id l;unfold Builtin.Slice.sliceApplied Builtin.Slice.sliceFields;refine aa (aa (wpAny_field c e (x:=g) rfl (aa (wpAny_field c e (x:=f) rfl (aa (wpAny_field c e (x:=.none) rfl (ao ?_)))))));refine aa (slicePart_none ?_);show wpAny _ _ (if ((1:Int) == 0)=true then _ else _) _ _ s;rw[ab dw];refine aa (slicePart_ pl (aa (slicePart_ j (aa (ao ?_)))));show wpAny _ _ (match Builtin.Slice.sliceAdjust a d 1 (n:Int)with|(a,d)=>pure (a,(1:Int),Builtin.Slice.slicePlaces a d 1)) _ _ s;rw[E2 a d n];show wpAny _ _ (pure (((sIx n 0 a:Nat):Int),(1:Int),Builtin.Slice.slicePlaces ((sIx n 0 a:Nat):Int) ((sIx n n d:Nat):Int) 1)) _ _ s;rw[DQ];exact ao h
def L5 (xs:lX)(i k:Nat):((List.range k).filterMap λ(m:Nat)=>xs[((i:Int)+(m:Int) * 1).toNat]?).toArray=((xs.toList.drop i).take k).toArray:=by
 have e:(λ(m:Nat)=>xs[((i:Int)+(m:Int) * 1).toNat]?)=λm=>xs[i+m]?:=by
  funext m;have:((i:Int)+(m:Int) * 1).toNat=i+m:=by lia
  rw[this]
 rw[e];have:=pick_run xs i k;rw[List.filterMap_map]at this;have a:((λx=>xs[x]?) ∘ λx=>i+x)=λm=>xs[i+m]?:=rfl;rw[a]at this;rw[this]
def getItem_tuple_cut {t f:Addr}{items:lX}{r o:ef}{c d:Option Int}{Q:cE}(e:IsTup s.heap t items)(u:s.heap.IsSliceOf f r o .none)(pl:IsPart r c)(v:IsPart o d)
  (z:¬(sIx items.size 0 c=0/\sIx items.size items.size d=items.size))
  (h:Q (.ref s.heap.objs.size) {s with heap:=s.heap.push {cls:=.type "tuple",data:=.seq ((items.toList.drop (sIx items.size 0 c)).take (sIx items.size items.size d - sIx items.size 0 c)).toArray} })
  (hsz:items.size<=sizeLine):wpAny (model prog w) A (getItem (.ref t) (.ref f)) Q E s:=by
 have a:sizeOk (.seq ((items.toList.drop (sIx items.size 0 c)).take (sIx items.size items.size d - sIx items.size 0 c)).toArray):=by
  show((items.toList.drop (sIx items.size 0 c)).take (sIx items.size items.size d - sIx items.size 0 c)).toArray.size<=sizeLine;rw[ai,bz,bS,bw]
  lia
 have G:sIx items.size items.size d<=items.size:=TJ _ _ (ac _) d;obtain⟨os,g,j,B⟩:=id u;have l:s.TypeIs (.ref f) "slice":=⟨os,g,j⟩
 unfold getItem
 try with_reducible refine cq ?_
 first|refine aa (ao ?_)|skip
 refine aa (wpAny_sequenceKey e.typeIs dw ?_)
 refine aa (wpAny_callSpecial?_slot (name:=Str.ofString "__getitem__") e.typeIs PyProof.Rows.slot_tuple_getitem
  (wpAny_call_entry PyProof.Rows.slot_tuple_getitem e.typeIs entry_tuple_getitem ?_ (args_tuple_getitem _ _)))
 show wpAny _ _ (Builtin.Tuple.tupleItemsOf (.ref t) >>= _) _ _ s;refine aa (tupleItemsOf_ e ?_);refine aa (wpAny_typeOf l ?_);rw[aj dw];refine aa (qL u pl v ?_);have i:¬((((sIx items.size 0 c:Nat):Int) == 0 && (1:Int) == 1 && (sIx items.size items.size d - sIx items.size 0 c) == items.size)=true):=by intro q;rw[Bool.and_eq_true,Bool.and_eq_true]at q;have F:((sIx items.size 0 c:Nat):Int)=0:=eq_of_beq q.1.1;have C:sIx items.size items.size d - sIx items.size 0 c=items.size:=eq_of_beq q.2;exact z ⟨dz,dz⟩
 show wpAny _ _ (if (((sIx items.size 0 c:Nat):Int) == 0 && (1:Int) == 1 && (sIx items.size items.size d - sIx items.size 0 c) == items.size)=true then _ else _) _ _ s;rw[ab i,L5]
 first
  | exact aa (m:=Builtin.Tuple.tupleExact _) (cm (ao ⟨_,rfl,ao h⟩) a)
  | exact aa (m:=Builtin.Tuple.tupleExact _) (cm (aa (ao (ao ⟨_,rfl,ao h⟩))) a)
  | exact aa (aa (m:=Builtin.Tuple.tupleExact _) (cm (ao (ao ⟨_,rfl,ao h⟩)) a))
  | exact aa (aa (m:=Builtin.Tuple.tupleExact _) (cm (ao ⟨_,rfl,ao h⟩) a))
end HT
namespace L2
open PySem PySem.Spec PyProof.Rows
abbrev TO:=St->Hp->(Option Int->Hp->Prop)->Prop
def PO (X:Cx)(e:Option Expr)(t:TO):Prop :=
 ∀(a:eN) (s:ee) (σ:St) (H:Hp) (Q:Option Int->Hp->Prop),aK X a σ H s->t σ H Q ->
  wX X (evalPart e X.env) (λu c=>∃o H',aK X a σ H' c/\IsPart u o/\Q o H') X.xe s
def tNoPart:TO:=λ_ H Q=>Q none H
def tPart (t:TE):TO:=λa H Q=>t a H λx c=>∃i,x = .int i/\Q (some i) c
def uE:∀{us:dA},aO (ns.map V.int) us->IntsAre us ns:=by
 induction ns with
 | nil=>intro us r;rw[List.map_nil]at r;cases r;exact .nil
 | cons n ns c =>
  intro us r;rw[bg]at r;cases r with
  | cons r1 a =>
   obtain⟨t,e⟩:=r1;subst e;exact .cons n t (c a)
section
variable {X:Cx}{e:Expr}{te:TE}{lo hi:Option Expr}{tl th:TO}{pos p2:Pos}
def cH:PO X none tNoPart:=by intro a s c H Q I h;rw[evalPart_none];exact ao ⟨none,H,I,.none,h⟩
def bU (h:PE X e te):PO X (some e) (tPart te):=by intro a s c H Q I f;rw[evalPart_some];refine thn (h a s c H _ I f) λu l ⟨x,j,g,r1,d⟩=>?_;obtain⟨i,rfl,q⟩:=d;obtain⟨t,rfl⟩:=r1;exact⟨some i,j,g,.int i t,q⟩
def WG (X:Cx)(r:V->Option Int->Option Int->Hp->VK->Prop):Prop :=
 ∀(a:eN) (s:ee) (σ:St) (H:Hp) (x:V) (v vl vu:ef) (lo hi:Option Int) (sl:Addr) (Q:VK),aK X a σ H s->aQ x v->s.heap.IsSliceOf sl vl vu .none->IsPart vl lo->IsPart vu hi->r x lo hi H Q ->
  ∃T id,typeLookup (.type T) "__getitem__" = pure (some (.builtin id))/\s.TypeIs v T/\wX X (getItem v (.ref sl)) (EP X a σ Q) X.xe s
def tSl (r:V->Option Int->Option Int->Hp->VK->Prop)(d:TE)(tl c:TO):TE:=λa H Q=>d a H λx g=>tl a g λl f=>c a f λu e=>r x l u e Q
def dM {r:V->Option Int->Option Int->Hp->VK->Prop}(C:WG X r)(F:PE X e te)(hl:PO X lo tl)(A:PO X hi th):PE X (.Subscript e (.Slice lo hi none p2) pos) (tSl r te tl th):=by intro a s d H Q I h;refine Subscript_ (thn (F a s d H _ I h) λv j ⟨x,P,N,r1,w⟩=>?_);refine wpAny_Slice (thn (hl a j d P _ N w) λg s2 ⟨l,O,L,pl,o⟩=>thn (A a s2 d O _ L o) λf c ⟨u,i,K,z,m⟩=>?_);rw[evalPart_none];refine ao ?_;have J:aK X a d i {c with heap:=c.heap.push {cls:=.type "slice",data:=.fields #[g,f,.none]} }:=K.kept (t':=c.toks) λb ob q=>ag _ q;obtain⟨T,id,G,B,E⟩:=C a {c with heap:=c.heap.push {cls:=.type "slice",data:=.fields #[g,f,.none]} } d i x v g f l u c.heap.objs.size Q J r1 (Heap.IsSliceOf.new ..) pl z m;show wX X (subscriptTail e (.Slice lo hi none p2) v (.ref c.heap.objs.size)) (EP X a d Q) X.xe {c with heap:=c.heap.push {cls:=.type "slice",data:=.fields #[g,f,.none]} };exact tail_any (ops:=[.ref c.heap.objs.size,v]) B G E (by with_unfolding_all rfl)
noncomputable def cutV (xs:List V)(a c:Option Int):List V:=(xs.drop (HT.sIx xs.length 0 a)).take (HT.sIx xs.length xs.length c - HT.sIx xs.length 0 a)
def rJ (xs:List V)(a c:Option Int):(cutV xs a c).length<=xs.length:=by
 unfold cutV;rw[bz,bS]
 lia
def rSlT (K:d6):V->Option Int->Option Int->Hp->VK->Prop:=λx c d H Q=>∃a xs,x = .ref a/\hX K H a xs /\
 ¬(HT.sIx xs.length 0 c=0/\HT.sIx xs.length xs.length d=xs.length)/\∀p,H p=none->Q (.ref p) (upd H p (.tup (cutV xs c d)))
def TD:WG X (rSlT X.K):=by
 intro f s w H x v A z d e B Q I i u pl j h;obtain⟨a,xs,rfl,l,m,q⟩:=h;cases i;obtain⟨its,r,g,hz⟩:=I.tuple l;have c:its.toArray.size=xs.length:=by rw[ai];exact r.length.symm
 refine⟨"tuple",_,PyProof.Rows.slot_tuple_getitem.lookup,g.typeIs,?_⟩;refine HT.getItem_tuple_cut g u pl j (c ▸ m) ?_ (c ▸ hz);rw[c];refine⟨.ref s.heap.objs.size,_,I.laid (t':=s.toks) (o:=.tup (cutV xs d e)) (λb ob q=>ag _ q) (ac _) ?_,rfl,q _ (I.hok.fresh (ac _))⟩;exact⟨aq (rJ xs d e) hz,_,(r.drop (HT.sIx xs.length 0 d)).take (HT.sIx xs.length xs.length e - HT.sIx xs.length 0 d),IsTup.new _ _⟩
def rCatT (K:d6):R2:=λx y H Q=>∃a b xs ys,x = .ref a/\y = .ref b/\hX K H a xs/\hX K H b ys/\xs≠[]/\xs.length+ys.length<=sizeLine /\
 (ys=[]->Q (.ref a) H)/\(ys≠[]->∀p,H p=none->Q (.ref p) (upd H p (.tup (xs++ys))))
def aO.nil_iff (r:aO xs us):us=[] ↔ xs=[]:=by
 cases r with
 | nil=>simp
 | cons _ _=>simp
def GG:jE X (binaryOp .Add) (rCatT X.K):=by intro d s B H x y v u Q I f e h;obtain⟨a,b,xs,ys,rfl,rfl,A,r,m,hz,i,g⟩:=h;cases f;cases e;obtain⟨its,r1,l,_⟩:=I.tuple A;obtain⟨its2,c,j,_⟩:=I.tuple r;refine HT.cat_tup l j (λz=>m (r1.nil_iff.mp z)) (λz=>⟨.ref a,H,I,rfl,i (c.nil_iff.mp z)⟩) (λz=>?_) (by rw[<-r1.length,<-c.length];exact hz);refine⟨.ref s.heap.objs.size,_,I.laid (t':=s.toks) (o:=.tup (xs++ys)) (λb ob q=>ag _ q) (ac _) ?_,rfl,g (λw=>z (c.nil_iff.mpr w)) _ (I.hok.fresh (ac _))⟩;exact⟨by rw[au];exact hz,_,r1.append c,IsTup.new _ _⟩
end
noncomputable def ixN (n:Nat)(i:Int):Option Nat:=if 0<=i then(if i<n then some i.toNat else none)else if -(n:Int)<=i then some (i+n).toNat else none
noncomputable def atI {a:Type}(xs:List a)(i:Int):Option a:=(ixN xs.length i).bind λj=>xs[j]?
def G2 (h:ixN n i=some j):seqIndex? i n=some j/\j<n/\-(n:Int)<=i/\i<n:=by
 unfold ixN at h;by_cases c:0<=i
 ·rw[aj c]at h;by_cases a:i<n
  ·rw[aj a]at h;have e:i.toNat=j:=Option.some.inj h;exact⟨by rw[seqIndex_of c a,e],dz,dz,a⟩
  ·rw[ab a]at h;cases h
 ·rw[ab c]at h;by_cases a : -(n:Int)<=i
  ·rw[aj a]at h;have e:(i+n).toNat=j:=Option.some.inj h;exact⟨by rw[seqIndex_neg dz a,e],dz,a,dz⟩
  ·rw[ab a]at h;cases h
def zV {a:Type}{xs:List a}{i:Int}{v:a}(h:atI xs i=some v):∃j,seqIndex? i xs.length=some j/\xs[j]?=some v/\j<xs.length/\-(xs.length:Int)<=i/\i<xs.length:=by
 unfold atI at h;cases e:ixN xs.length i with
 | none=>rw[e]at h;cases h
 | some j =>
  rw[e]at h;obtain⟨g,f,d,c⟩:=G2 e;exact⟨j,g,h,f,d,c⟩
def lU {a:Type}{xs:List a}{j:Nat}{v:a}(h:xs[j]?=some v):atI xs (j:Int)=some v:=by
 have c:j<xs.length:=(cx.mp h).1;have e:ixN xs.length (j:Int)=some j:=by unfold ixN;rw[aj dz,aj dz];simp
 unfold atI;rw[e];exact h
def OL {a:Type}(xs:List a)(v:a):atI (xs++[v]) (-1)=some v:=by
 have hl:(xs++[v]).length=xs.length+1:=by simp
 have e:ixN (xs++[v]).length (-1)=some xs.length:=by
  unfold ixN;rw[hl,ab dw,aj dz];congr 1
  lia
 unfold atI;rw[e];show(xs++[v])[xs.length]?=some v;simp
def HW (b:Expr):Prop:=∀o i,subscripted b false o i=operate [o,i] (getItem o i)
def O4 (X:Cx)(r:R2):Prop :=
 ∀(c a:Expr) (pins:eN) (s:ee) (σ:St) (H:Hp) (x y:V) (v u:ef) (Q:VK),aK X pins σ H s->aQ x v->aQ y u->r x y H Q ->
  subscripted a false v u=operate [v,u] (getItem v u)->wX X (subscriptTail c a v u) (EP X pins σ Q) X.xe s
def W0 (X:Cx)(id:String)(r:V->List V->Hp->VK->Prop):Prop :=
 ∀(a:eN) (s:ee) (σ:St) (H:Hp) (x:V) (xs:List V) (v:ef) (us:dA) (Q:VK),aK X a σ H s->aQ x v->aO xs us->r x xs H Q ->
  wX X (call (.builtin id) (v::us)) (EP X a σ Q) X.xe s
section
variable {X:Cx}{a b:Expr}{ta tb:TE}{pos:Pos}
def O4.or (h:O4 X r)(h':O4 X r'):O4 X (λx y H Q=>r x y H Q\/r' x y H Q):=by
 intro a c d s e H x y v u Q I g f q i;rcases q with q|q
 ·exact h a c d s e H x y v u Q I g f q i
 ·exact h' a c d s e H x y v u Q I g f q i
def V5 (i:O4 X r)(l:PE X a ta)(j:PE X b tb)(g:HW b):PE X (.Subscript a b pos) (tOp r ta tb):=by intro c s d H Q I h;exact Subscript_ (binT l j I h λv u s2 x y o m f e q=>i a b c s2 d o x y v u Q m f e q (g _ _))
def rIxL (K:d6):R2:=λx y H Q=>∃p xs i v,x = .ref p/\y = .int i/\d5 K H p xs/\atI xs i=some v/\Q v H
def rIxT (K:d6):R2:=λx y H Q=>∃p xs i v,x = .ref p/\y = .int i/\hX K H p xs/\atI xs i=some v/\Q v H
def rIxS:R2:=λx y H Q=>∃z i c,x = .str z/\y = .int i/\z.length<=sizeLine/\atI z.cps.toList i=some c/\Q (.str ⟨#[c]⟩) H
def RD:O4 X (rIxL X.K):=by
 intro d e a s l H x y v u Q I E C h m;obtain⟨p,xs,i,z,rfl,rfl,F,G,q⟩:=h;cases E;obtain⟨t,rfl⟩:=C;obtain⟨its,r,pl,hz⟩:=I.list F;obtain⟨j,c,N,P,L,J⟩:=zV G;obtain⟨w,A,f⟩:=r.get N;have hl:=r.length;have O:=line63;have fin:EP X a l Q w s:=⟨z,H,I,f,q⟩
 by_cases o:0<=i
 ·have g:i.toNat=j:=by rw[seqIndex_of o J]at c;exact Option.some.inj c
  exact item_listR pl.isList o dz (by rw[g];simpa using A) fin m
 ·have g:(i+(its.toArray.size:Int)).toNat=j:=by rw[seqIndex_neg dz L]at c;rw[ai,<-hl];exact Option.some.inj c
  exact subscriptTail_builtinR (x:=w) pl.isList.typeIs slot_list_getitem.lookup
   (wpAny_getItem_list_neg (Q:=λr B=>r=w/\EP X a l Q r B) pl.isList dz (by rw[ai] <;> lia) dz (by rw[g];simpa using A) ⟨rfl,fin⟩) m
def UX:O4 X (rIxT X.K):=by
 intro c d a s f H x y v u Q I m l h o;obtain⟨p,xs,i,z,rfl,rfl,A,B,q⟩:=h;cases m;obtain⟨t,rfl⟩:=l;obtain⟨its,r,pl,hz⟩:=I.tuple A;obtain⟨j,E,C,N,L,J⟩:=zV B;obtain⟨w,F,e⟩:=r.get C;have hl:=r.length;have G:=line63;have fin:EP X a f Q w s:=⟨z,H,I,e,q⟩
 exact subscriptTail_builtinR (x:=w) pl.typeIs slot_tuple_getitem.lookup
  (getItem_tuple (j:=j) (Q:=λr g=>r=w/\EP X a f Q r g) pl dz dz (by rw[ai,<-hl];exact E) (by simpa using F) ⟨rfl,fin⟩) o
def UY:O4 X rIxS:=by
 intro a d e s E H x y v u Q I l g h m;obtain⟨z,i,c,rfl,rfl,hz,o,q⟩:=h;obtain⟨t,rfl⟩:=l;obtain⟨t',rfl⟩:=g;obtain⟨j,f,A,G,w,r⟩:=zV o;have hl:z.cps.toList.length=z.length:=by simp[Str.length]
 rw[hl]at f w r;have F:=line63
 exact tail_any (typeIs_str s z t) slot_str_getitem.lookup (getItem_str (c:=c) (by
  have C:decide (i < -(2 ^ 63:Int))=false:=br dz;have B:decide (i ≥ 2 ^ 63)=false:=br dz
  rw[C,B,Bool.or_false]) (by rw[f];simpa using A) ⟨.str ⟨#[c]⟩,H,I.tok _,⟨_,rfl⟩,q⟩) m
def rIx (K:d6):R2:=λx y H Q=>rIxL K x y H Q\/rIxT K x y H Q\/rIxS x y H Q
def UZ:O4 X (rIx X.K):=RD.or (UX.or UY)
def EB (its:dA)(n j:Nat)(u:ef):Obj.mapSeq (·.setIfInBounds j u) {cls:=.type "list",data:=.seq its.toArray n}={cls:=.type "list",data:=.seq (its.set j u).toArray n}:=by simp[Obj.mapSeq]
theorem aK.lst {a:eN}{c:St}{H:Hp}{s:ee}{p:Addr}{xs:List V}(I:aK X a c H s)(h:H p=some (.lst xs)) :
  ∃(its:dA) (n:Nat),aO xs its/\s.heap.get? p=some {cls:=.type "list",data:=.seq its.toArray n}/\xs.length<=sizeLine:=by
 obtain⟨z,its,n,r,e⟩:=I.hok p _ h;exact⟨its,n,r,e,z⟩
def aK.lstUpd {a:eN}{d:St}{H:Hp}{s:ee}{p:Addr}{xs ys:List V}{its its':dA}{n c:Nat}{f:Obj->Obj}(I:aK X a d H s)(h:H p=some (.lst xs))
  (ho:s.heap.get? p=some {cls:=.type "list",data:=.seq its.toArray n}) (g:f {cls:=.type "list",data:=.seq its.toArray n}={cls:=.type "list",data:=.seq its'.toArray c}) (r:aO ys its') (hz:ys.length<=sizeLine) (t:Nat) :
  aK X a d (upd H p (.lst ys)) {s with heap:=s.heap.update p f,toks:=t}:=by
 have e:(s.heap.update p f).get? p=some {cls:=.type "list",data:=.seq its'.toArray c}:=by rw[Heap.get?_update_self f ho (by rw[g] <;> rfl),g]
 refine I.write (x:=p) (e:=p) (by rw[h];trivial) (.inl rfl) (λb u i q=>(Heap.get?_update_other _ _ (Ne.symm i)).trans q) ⟨_,e⟩ ?_;exact⟨hz,its',c,r,e⟩
def rSetL:V->V->V->Hp->(Hp->Prop)->Prop:=λo i v H Q=>∃p xs k j,o = .ref p/\i = .int k/\H p=some (.lst xs)/\ixN xs.length k=some j/\Q (upd H p (.lst (xs.set j v)))
def pF:WJ X rSetL:=by
 intro a s m H o i v C E u Q I z A w h;obtain⟨p,xs,k,j,rfl,rfl,e,B,q⟩:=h;cases z;obtain⟨t,rfl⟩:=A;obtain⟨its,n,r,ho,hz⟩:=I.lst e;obtain⟨c,G,g,f⟩:=G2 B;have hl:=r.length;have F:=line63;have I':aK X a m (upd H p (.lst (xs.set j v))) {s with heap:=s.heap.update p (Obj.mapSeq (·.setIfInBounds j u))} :=
  I.lstUpd e ho (EB its n j u) (r.set w j) (by rw[List.length_set];exact hz) s.toks
 by_cases l:0<=k
 ·have d:k.toNat=j:=by rw[seqIndex_of l f]at c;exact Option.some.inj c
  exact PySem.W.ki_setAt ho l dz (by rw[ai,<-hl];exact f) (d ▸ ⟨_,I',q⟩)
 ·have d:(k+(its.toArray.size:Int)).toNat=j:=by rw[seqIndex_neg dz g]at c;rw[ai,<-hl];exact Option.some.inj c
  exact PySem.W.ki_setBack ho dz (by rw[ai,<-hl];exact g) dz (d ▸ ⟨_,I',q⟩)
def pE (a c:Option Int)(n:Nat):(sliceBounds a c none n).1=((HT.sIx n 0 a:Nat):Int)/\(sliceBounds a c none n).2.1=((HT.sIx n n c:Nat):Int)/\(sliceBounds a c none n).2.2=1:=by
 refine⟨?_,?_,rfl⟩
 ·cases a with
  | none=>simp[sliceBounds,HT.sIx]
  | some i =>
   simp only[sliceBounds,HT.sIx,Option.getD_none,show(1:Int) > 0 by decide,if_true];by_cases h:i<0
   ·simp only[h,if_true] <;> lia
   ·simp only[h,if_false] <;> lia
 ·cases c with
  | none=>simp[sliceBounds,HT.sIx]
  | some i =>
   simp only[sliceBounds,HT.sIx,Option.getD_none,show(1:Int) > 0 by decide,if_true];by_cases h:i<0
   ·simp only[h,if_true] <;> lia
   ·simp only[h,if_false] <;> lia
def vH (its:dA)(a c:Option Int):slicePick its.toArray a c none=((its.drop (HT.sIx its.length 0 a)).take (HT.sIx its.length its.length c - HT.sIx its.length 0 a)).toArray:=by obtain⟨f,e,d⟩:=pE a c its.toArray.size;unfold slicePick;rw[f,e,d];simp only[sliceRange_one,pick_run,ai] <;> rfl
def rSlL (K:d6):V->Option Int->Option Int->Hp->VK->Prop:=λx c d H Q=>∃a xs,x = .ref a/\d5 K H a xs/\∀p,H p=none->Q (.ref p) (upd H p (.lst (cutV xs c d)))
def FP:WG X (rSlL X.K):=by intro f s u H x v z w d e A Q I i m pl j h;obtain⟨a,xs,rfl,l,q⟩:=h;cases i;obtain⟨its,r,g,hz⟩:=I.list l;have c:=r.length;refine⟨"list",_,slot_list_getitem.lookup,g.isList.typeIs,?_⟩;refine wpAny_getItem_list_slice g.isList m pl j .none dV ?_ (by rw[ai] <;> lia);rw[vH,<-c];refine⟨.ref s.heap.objs.size,_,I.laid (t':=s.toks) (o:=.lst (cutV xs d e)) (λb ob q=>ag _ q) (ac _) ?_,rfl,q _ (I.hok.fresh (ac _))⟩;exact⟨aq (rJ xs d e) hz,_,0,(r.drop (HT.sIx xs.length 0 d)).take (HT.sIx xs.length xs.length e - HT.sIx xs.length 0 d),av _ rfl⟩
def yW:jE X (compareOp .NotIn) (λx y H Q=>∃i j,x = .str i/\y = .str j/\Q (.bl (!(!(Builtin.Str.occurrences j i 0 j.length 1).isEmpty))) H):=by intro a s e H x y v u Q I d c h;obtain⟨i,j,rfl,rfl,q⟩:=h;obtain⟨t,rfl⟩:=d;obtain⟨t',rfl⟩:=c;exact notIn_str ⟨.bl _,H,I,rfl,q⟩
def zU:dZ X (.builtin "len") (λxs H Q=>∃p ys,xs=[.ref p]/\(d5 X.K H p ys\/hX X.K H p ys)/\Q (.int ys.length) H):=by
 intro e s g H xs us Q I r h;obtain⟨p,ys,rfl,c,q⟩:=h;obtain⟨u,rfl,f⟩:=vals1 r;cases f;have i:=line63;rcases c with c|c
 ·obtain⟨its,d,pl,hz⟩:=I.list c;have a:=d.length;exact Calls.call_len_list pl.isList (by simp only[ai] <;> lia) ⟨.int ys.length,H,I.tok _,⟨s.toks+1,by rw[ai,a]⟩,q⟩
 ·obtain⟨its,d,pl,hz⟩:=I.tuple c;have a:=d.length;exact len_tuple pl (by simp only[ai] <;> lia) ⟨.int ys.length,H,I.tok _,⟨s.toks+1,by rw[ai,a]⟩,q⟩
def zT:dZ X (.builtin "len") (λxs H Q=>∃z,xs=[.str z]/\z.length<=sizeLine/\Q (.int z.length) H):=by intro a s c H xs us Q I r h;obtain⟨z,rfl,hz,q⟩:=h;obtain⟨u,rfl,t,rfl⟩:=vals1 r;have d:=line63;exact len_str dz ⟨.int z.length,H,I.tok _,⟨_,rfl⟩,q⟩
def zS:dZ X (.type "list") (λxs H Q=>∃p ys,xs=[.ref p]/\(d5 X.K H p ys\/hX X.K H p ys)/\∀l,H l=none->Q (.ref l) (upd H l (.lst ys))):=by
 intro c s j H xs us Q I r h;obtain⟨p,ys,rfl,d,q⟩:=h;obtain⟨u,rfl,m⟩:=vals1 r;cases m;have fin:∀(its:dA),aO ys its->ys.length<=sizeLine->∀(h':Heap) (c':Nat),(∀b i,s.heap.get? b=some i->h'.get? b=some i) ->
   h'.get? s.heap.objs.size=some {cls:=.type "list",dict:=none,data:=.seq its.toArray c',slots:=#[]}->EP X c j Q (.ref s.heap.objs.size) {s with heap:=h'}:=λits a hz h' c' kp e =>
  ⟨.ref s.heap.objs.size,_,I.laid (t':=s.toks) kp (ac _) (show cD X.prog X.w _ h' _ (.lst ys)from⟨hz,its,c',a,e⟩),rfl,q _ (I.hok.fresh (ac _))⟩
 rcases d with d|d
 ·obtain⟨its,a,pl,hz⟩:=I.list d;have f:=a.length;obtain⟨o,ho,g,n,hd⟩:=pl.isList;exact call_list_seq p (.inl rfl) ho g hd (λh' c' kp e=>fin its a hz h' c' kp e) (by simp only[ai] <;> lia)
 ·obtain⟨its,a,pl,hz⟩:=I.tuple d;have f:=a.length;obtain⟨o,ho,g,n,hd⟩:=pl;exact call_list_seq p (.inr rfl) ho g hd (λh' c' kp e=>fin its a hz h' c' kp e) (by simp only[ai] <;> lia)
def vP:dZ X (.type "tuple") (λxs H Q=>∃p ys,xs=[.ref p]/\((d5 X.K H p ys/\∀l,H l=none->Q (.ref l) (upd H l (.tup ys)))\/(hX X.K H p ys/\Q (.ref p) H))):=by
 intro a s f H xs us Q I r h;obtain⟨p,ys,rfl,h⟩:=h;obtain⟨u,rfl,j⟩:=vals1 r;cases j;rcases h with⟨d,q⟩|⟨d,q⟩
 ·obtain⟨its,c,pl,hz⟩:=I.list d;have g:=c.length;refine call_tuple_list pl.isList (λh' kp=>?_) (by simp only[ai] <;> lia);have i:aK X a f H {s with heap:=h'}:=I.kept (t':=s.toks) kp;have m:aK X a f (upd H h'.objs.size (.tup ys)) {s with heap:=h'.push {cls:=.type "tuple",data:=.seq its.toArray} } :=
   i.laid (t':=s.toks) (λb o e=>ag _ e) (ac _) (show cD X.prog X.w _ _ _ (.tup ys)from⟨hz,its,c,IsTup.new _ _⟩)
  exact⟨.ref h'.objs.size,_,m,rfl,q _ (i.hok.fresh (ac _))⟩
 ·obtain⟨its,c,pl,hz⟩:=I.tuple d;exact call_tuple_same pl ⟨.ref p,H,I,rfl,q⟩
def tyV (K:d6)(T:String)(x:V)(H:Hp):Prop:=match x with
 | .str _=>T="str"
 | .int _=>T="int"
 | .ref p=>(T="list"/\∃xs,d5 K H p xs)\/(T="tuple"/\∃o,K.lookup p=some o/\o.cls = .type "tuple"/\o.dict=none) \/
   (T="dict"/\((∃a,H p=some (.dK a))\/∃a,H p=some (.dT a)))\/(T="set"/\∃S n,H p=some (.set S n))
 | _=>False
def KR {f:eN}{j:St}{H:Hp}{s:ee}{T:String}{x:V}{v:ef}(I:aK X f j H s)(r:aQ x v)(ty:tyV X.K T x H) :
  s.TypeIs v T/\∀a,v = .ref a->∃ob,s.heap.get? a=some ob/\ob.dict=none:=by
 cases x with
 | str z =>
  obtain⟨t,rfl⟩:=r;cases (show T="str" from ty);exact⟨typeIs_str s z t,λ_ e=>nomatch e⟩
 | int i =>
  obtain⟨t,rfl⟩:=r;cases (show T="int" from ty);exact⟨typeIs_int s i t,λ_ e=>nomatch e⟩
 | ref p =>
  cases r;rcases ty with⟨rfl,xs,l⟩|⟨rfl,o,d,m,hd⟩|⟨rfl,d⟩|⟨rfl,S,n,d⟩
  ·obtain⟨its,_,pl,_⟩:=I.list l;refine⟨pl.isList.typeIs,λa e=>?_⟩;cases e;obtain⟨o,n,e,c,hd,_⟩:=pl;exact⟨o,e,hd⟩
  ·refine⟨⟨o,I.kIn p o d,m⟩,λa e=>?_⟩;cases e;exact⟨o,I.kIn _ o d,hd⟩
  ·have z:∃o,s.heap.get? p=some o/\o.ExactDict:=by
    rcases d with⟨g,d⟩|⟨g,d⟩
    ·obtain⟨_,_,_,_,o,_,_,e,ex,_⟩:=I.hok p _ d;exact⟨o,e,ex⟩
    ·obtain⟨_,_,_,_,o,_,_,e,ex,_⟩:=I.hok p _ d;exact⟨o,e,ex⟩
   obtain⟨o,e,ex⟩:=z;refine⟨⟨o,e,ex.1⟩,λa h=>?_⟩;cases h;exact⟨o,e,ex.2.1⟩
  ·obtain⟨o,_,_,_,e,ex,_⟩:=I.hok p _ d;refine⟨⟨o,e,ex.1⟩,λa h=>?_⟩;cases h;exact⟨o,e,ex.2.1⟩
 | _=>exact False.elim ty
def tBM0 (K:d6)(T:String)(r:V->List V->Hp->VK->Prop)(to:TE):TE:=λc H Q=>to c H λx a=>tyV K T x a/\r x [] a Q
def tBM (K:d6)(T:String)(r:V->List V->Hp->VK->Prop)(to:TE)(t:TA):TE:=λa H Q=>to a H λx c=>tyV K T x c/\t a c λxs d=>r x xs d Q
variable {o e:Expr}{es:vE}{to:TE}{t:TA}{name:Str}{apos cpos:Pos}{T id:String}{r:V->List V->Hp->VK->Prop}
def oO (pa:PlainAttrs T)(slot:Slot T name id)(e:typeOf (.builtin id)=pure (.type "method_descriptor"))(hm:W0 X id r)(ho:PE X o to)
  (d:attributeBase o name X.env (eval o X.env)=eval o X.env:=by rfl) (c:(apos.endLine == cpos.line)=true:=by rfl):PE X (.Call (.Attribute o name apos) [] [] cpos) (tBM0 X.K T r to):=by
 intro a s f H Q I h;refine wpAny_Call_method0_late d c (thn (ho a s f H _ I h) λv i ⟨x,q,g,r1,ty,j⟩=>?_);obtain⟨m,l⟩:=KR g r1 ty;exact⟨T,id,pa,slot,e,m,l,Calls.callWith_builtin rfl (PySem.evalArgs_none (hm a i f q x [] v [] Q g r1 .nil j))⟩
def fX (pa:PlainAttrs T)(slot:Slot T name id)(j:typeOf (.builtin id)=pure (.type "method_descriptor"))(hm:W0 X id r)(ho:PE X o to)(B:PA X (e::es) t)
  (f:attributeBase o name X.env (eval o X.env)=eval o X.env:=by rfl)
  (g:((backTo cpos (starEach (e::es) X.env)).all (λx=>!x.1) && (backToKw cpos (keywordEach [] X.env)).all (λx=>x.1.isSome)
   && decide ((e::es).length+([]:List Keyword).length+(if ([]:List Keyword).isEmpty then 0 else 1)<30))=true:=by rfl)
  (d:(apos.endLine == cpos.line)=true:=by rfl) (A:starEach (e::es) X.env=(false,eval e X.env)::starEach es X.env:=by rfl) (c:(backTo cpos (starEach es X.env)).any (·.1)=false:=by rfl) :
  PE X (.Call (.Attribute o name apos) (e::es) [] cpos) (tBM X.K T r to t):=by
 intro a s i H Q I h;refine wpAny_Call_method_late f g d rfl (thn (ho a s i H _ I h) λv q ⟨x,J,m,r1,ty,z⟩=>?_);obtain⟨E,C⟩:=KR m r1 ty;refine⟨T,id,pa,slot,j,E,C,?_⟩;have l:=B cpos a q i J _ m z;rw[A]at l|-;refine Calls.callWith_builtin (by show(false || (backTo cpos (starEach es X.env)).any (·.1))=false;rw[c] <;> rfl) (Calls.evalArgs_plain ?_);exact thn l λus s2 ⟨vs,G,F,u,w⟩=>hm a s2 i G x vs v us Q F r1 u w
end
def VM (X:Cx)(id:String)(r:V->List V->Hp->VK->Prop):Prop :=
 ∀(a:eN) (s:ee) (σ:St) (H:Hp) (x:V) (xs:List V) (v:ef) (us:dA) (Q:VK),aK X a σ H s->aQ x v->aO xs us->r x xs H Q ->
  wX X (call (.builtin id) (v::us)) (EP X a σ Q) X.xe s
def aO.one (h:aO [x] us):∃u,us=[u]/\aQ x u:=by cases h with|cons r t=>cases t;exact⟨_,rfl,r⟩
def aO.two (h:aO [x,y] us):∃u v,us=[u,v]/\aQ x u/\aQ y v:=by cases h with|cons r t=>obtain⟨v,rfl,q⟩:=aO.one t;exact⟨_,_,rfl,r,q⟩
def aO.zero:∀{us:dA},aO [] us->us=[]
 | _,.nil=>rfl
def aO.dropLast (h:aO xs us):aO xs.dropLast us.dropLast:=by
 induction h with
 | nil=>exact .nil
 | cons r t a =>
  cases t with
  | nil=>exact .nil
  | cons q t'=>exact .cons r a
def aO.eraseIdx:∀{xs:List V} {us:dA} (i:Nat),aO xs us->aO (xs.eraseIdx i) (us.eraseIdx i)
 | _,_,_,.nil=>.nil
 | _,_,0,.cons _ t=>t
 | _,_,i+1,.cons r t=>.cons r (aO.eraseIdx i t)
def aO.reverse (h:aO xs us):aO xs.reverse us.reverse:=by
 induction h with
 | nil=>exact .nil
 | cons r t a=>rw[List.reverse_cons,List.reverse_cons];exact aO.append a (.cons r .nil)
def aO.rep (h:aO xs us):∀k:Nat,aO (List.replicate k xs).flatten (List.replicate k us).flatten
 | 0=>.nil
 | k+1=>by rw[List.replicate_succ,List.replicate_succ,List.flatten_cons,List.flatten_cons];exact aO.append h (aO.rep h k)
def EO {c:Type}(l:List c):l.eraseIdx (l.length - 1)=l.dropLast:=by
 induction l with
 | nil=>rfl
 | cons a r d =>
  cases r with
  | nil=>rfl
  | cons b r =>
   have e:(a::b::r).length - 1=((b::r).length - 1)+1:=by
    have g:(a::b::r).length=r.length+2:=rfl;have f:(b::r).length=r.length+1:=rfl
    lia
   rw[e,List.eraseIdx_cons_succ,d]
   all_goals rfl
def wY {a:Type}:∀(l:List a) (i:Nat),(l.eraseIdx i).length<=l.length
 | [],_=>ac _
 | _::_,0=>Nat.le_succ _
 | _::r,i+1=>Nat.succ_le_succ (wY r i)
theorem qW (its:dA):∀(k:Nat) (a:dA),
  List.foldl (λd c=>d++c) a.toArray (List.replicate k its.toArray)=(a++(List.replicate k its).flatten).toArray
 | 0,a=>by simp
 | k+1,a=>by
  have e:a.toArray++its.toArray=(a++its).toArray:=by simp
  have f:(a++its)++(List.replicate k its).flatten=a++(List.replicate (k+1) its).flatten:=by rw[List.replicate_succ,List.flatten_cons,cu]
  rw[<-f,<-qW its k (a++its),<-e,List.replicate_succ,List.foldl_cons]
def aK.lset {its its':dA}{n:Nat}{f:lX->lX}{t':Nat}(I:aK X pins σ H s)(h:H l=some (.lst xs))
  (e:s.heap.get? l=some {cls:=.type "list",data:=.seq its.toArray n}) (d:f its.toArray=its'.toArray) (a:aO ys its') (hz:ys.length<=sizeLine) :
  aK X pins σ (upd H l (.lst ys)) {s with heap:=s.heap.update l (Obj.mapSeq f),toks:=t'}:=by
 have q:=PySem.IsL.update e f;rw[d]at q;refine I.write (x:=l) (e:=l) (h ▸ trivial) (.inl rfl) (λi u g c=>(Heap.get?_update_other s.heap (Obj.mapSeq f) (Ne.symm g)).trans c) ⟨_,q⟩ ?_;exact⟨hz,its',_,a,q⟩
def aK.lnew {its:dA}{t':Nat}(I:aK X pins σ H s)(a:aO ys its)(hz:ys.length<=sizeLine) :
  aK X pins σ (upd H s.heap.objs.size (.lst ys)) {s with heap:=s.heap.push {cls:=.type "list",data:=.seq its.toArray},toks:=t'} :=
 I.laid (λ_ _ q=>ag _ q) (ac _) ⟨hz,its,0,a,av _ rfl⟩
def aK.fresh (I:aK X pins σ H s):H s.heap.objs.size=none:=I.hok.fresh (ac _)
def aK.lstM (I:aK X pins σ H s)(a:H l=some (.lst xs)):xs.length<=sizeLine/\∃(its:dA) (n:Nat),aO xs its/\xs.length=its.length/\s.heap.get? l=some {cls:=.type "list",data:=.seq its.toArray n}:=by obtain⟨z,its,n,r,e⟩:=I.hok l _ a;exact⟨z,its,n,r,r.length,e⟩
def tR (h:n<=sizeLine):Builtin.List.listTooLong n=false:=by unfold Builtin.List.listTooLong;exact br dz
def rAppend:V->List V->Hp->VK->Prop:=λx vs H Q=>∃l xs y,x = .ref l/\vs=[y]/\H l=some (.lst xs)/\xs.length<sizeLine/\Q .non (upd H l (.lst (xs++[y])))
def eU:VM X "list.append" rAppend:=by
 intro a s i H x vs v us Q I d f h;obtain⟨l,xs,y,rfl,rfl,c,hz,q⟩:=h;cases d;obtain⟨u,rfl,g⟩:=f.one;obtain⟨z,its,n,r,hl,e⟩:=I.lstM c;refine call_meets F.slot_list_append ⟨_,e,rfl⟩ F.entry_list_append (F.args_list_append_2 _ _) (PySem.list_append l its.toArray n u (by rw[ai];lia)) ⟨e,?_⟩;refine⟨.non,_,I.lset (its':=its++[u]) c e dV (r.append (.cons g .nil)) ?_,rfl,q⟩;rw[au,cr]
 lia
def rExtend:V->List V->Hp->VK->Prop:=λx vs H Q=>∃l b xs a,x = .ref l/\vs=[.ref b]/\H l=some (.lst xs)/\H b=some (.lst a)/\xs.length+a.length<=sizeLine/\Q .non (upd H l (.lst (xs++a)))
def JK:VM X "list.extend" rExtend:=by
 intro c s A H x vs v us Q I f g h;obtain⟨l,b,xs,B,rfl,rfl,d,o,hz,q⟩:=h;cases f;obtain⟨u,rfl,i⟩:=g.one;cases i;obtain⟨z,its,n,r,hl,e⟩:=I.lstM d;obtain⟨C,its2,n2,j,m,w⟩:=I.lstM o;have hsz:its.toArray.size+its2.toArray.size<=sizeLine:=by rw[ai,ai];lia
 have a:¬(!its.toArray.isEmpty && Builtin.List.listTooLong (its.toArray.size+its2.toArray.size))=true:=by rw[tR hsz,Bool.and_false];exact Bool.false_ne_true
 refine call_meets F.slot_list_extend ⟨_,e,rfl⟩ F.entry_list_extend (F.args_list_extend_2 _ _)
  (AutoSeq1.list_extend_list_list_0 l its.toArray n b its2.toArray n2 a (by rw[ai];lia) dz) ⟨e,w,?_⟩
 refine⟨.non,_,I.lset (its':=its++its2) d e dV (r.append j) ?_,rfl,q⟩;rw[au]
 lia
def rPop:V->List V->Hp->VK->Prop:=λx vs H Q=>∃l xs y,x = .ref l/\vs=[]/\H l=some (.lst xs)/\xs[xs.length - 1]?=some y/\Q y (upd H l (.lst xs.dropLast))
def oR:VM X "list.pop" rPop:=by
 intro c s o H x vs v us Q I f g h;obtain⟨l,xs,y,rfl,rfl,d,j,q⟩:=h;cases f;have a:=g.zero;subst a;obtain⟨z,its,n,r,hl,e⟩:=I.lstM d;obtain⟨u,m,i⟩:=r.get j;have hy':its.toArray[its.toArray.size - 1]?=some u:=by show its.toArray[its.length - 1]?=some u;rw[<-Array.getElem?_toList,<-hl];exact m
 refine call_meets F.slot_list_pop ⟨_,e,rfl⟩ F.entry_list_pop (F.args_list_pop_1 _) (MeetsSeq.list_pop_last l its.toArray n u hy' (by rw[ai];lia)) ⟨e,?_⟩;refine⟨y,_,I.lset (its':=its.dropLast) d e ?_ r.dropLast ?_,i,q⟩
 ·show its.toArray.eraseIdxIfInBounds (its.toArray.size - 1)=its.dropLast.toArray;rw[ai,List.eraseIdxIfInBounds_toArray,EO]
 ·rw[List.length_dropLast]
  lia
def rPopAt:V->List V->Hp->VK->Prop:=λx vs H Q=>∃l xs i k y,x = .ref l/\vs=[.int i]/\H l=some (.lst xs)/\-(2 ^ 63)<=i/\i<2 ^ 63/\seqIndex? i xs.length=some k/\xs[k]?=some y/\Q y (upd H l (.lst (xs.eraseIdx k)))
def NC:VM X "list.pop" rPopAt:=by
 intro c s E H x vs v us Q I f g h;obtain⟨l,xs,i,k,y,rfl,rfl,d,C,B,A,m,q⟩:=h;cases f;obtain⟨u,rfl,j⟩:=g.one;obtain⟨t,rfl⟩:=j;obtain⟨z,its,n,r,hl,e⟩:=I.lstM d;obtain⟨w,o,a⟩:=r.get m;refine call_meets F.slot_list_pop ⟨_,e,rfl⟩ F.entry_list_pop (F.args_list_pop_2 _ _)
  (MeetsSeq.list_pop_at l its.toArray n i t k w (fitsIndex_both C B) (by rw[ai,<-hl];exact A) (by rw[<-Array.getElem?_toList];exact o) (by rw[ai];lia)) ⟨e,?_⟩
 refine⟨y,_,I.lset (its':=its.eraseIdx k) d e ?_ (r.eraseIdx k) ?_,a,q⟩
 ·show its.toArray.eraseIdxIfInBounds k=(its.eraseIdx k).toArray;rw[List.eraseIdxIfInBounds_toArray]
 ·have:=wY xs k
  lia
def TL:V->List V->Hp->VK->Prop:=λx vs H Q=>∃l xs,x = .ref l/\vs=[]/\H l=some (.lst xs)/\Q .non (upd H l (.lst []))
def ND:VM X "list.clear" TL:=by intro c s i H x vs v us Q I f g h;obtain⟨l,xs,rfl,rfl,d,q⟩:=h;cases f;have a:=g.zero;subst a;obtain⟨z,its,n,r,hl,e⟩:=I.lstM d;refine call_meets F.slot_list_clear ⟨_,e,rfl⟩ F.entry_list_clear (F.args_list_clear_1 _) (AutoSeq1.list_clear_list_0 l its.toArray n (by rw[ai];lia)) ⟨e,?_⟩;exact⟨.non,_,I.lset (its':=[]) (ys:=[]) d e rfl .nil (aw _),rfl,q⟩
def rCat:R2:=λx y H Q=>∃l b xs a,x = .ref l/\y = .ref b/\H l=some (.lst xs)/\H b=some (.lst a)/\xs.length+a.length<=sizeLine/\∀p,H p=none->Q (.ref p) (upd H p (.lst (xs++a)))
def TZ:jE X (binaryOp .Add) rCat:=by
 intro a s w H x y v u Q I d c h;obtain⟨l,b,xs,A,rfl,rfl,i,j,hz,q⟩:=h;cases d;cases c;obtain⟨z,its,n,r,hl,e⟩:=I.lstM i;obtain⟨B,its2,n2,f,g,o⟩:=I.lstM j;refine PySem.P.add_list e o ?_ (by rw[ai,ai];lia);have m:its.toArray++its2.toArray=(its++its2).toArray:=by simp
 rw[m];exact⟨.ref _,_,I.lnew (t':=s.toks) (r.append f) (by rw[au];lia),rfl,q _ I.fresh⟩
def rRep:R2:=λx y H Q=>∃l k xs,x = .ref l/\y = .int k/\H l=some (.lst xs)/\-(2 ^ 63)<=k/\k<2 ^ 63/\xs.length * k.toNat<=sizeLine /\
 ∀p,H p=none->Q (.ref p) (upd H p (.lst (List.replicate k.toNat xs).flatten))
def GR {a:Type}(xs:List a)(k:Nat):(List.replicate k xs).flatten.length=k * xs.length:=by
 induction k with
 | zero=>simp
 | succ k c=>rw[List.replicate_succ,List.flatten_cons,au,c,Nat.succ_mul,Nat.add_comm]
def tO:jE X (binaryOp .Mult) rRep:=by
 intro w s K H x y v u Q I C B h;obtain⟨l,k,xs,rfl,rfl,E,J,G,hz,q⟩:=h;cases C;obtain⟨t,rfl⟩:=B;obtain⟨z,its,n,r,hl,e⟩:=I.lstM E;have f:its.toArray.size * k.toNat<=sizeLine:=by rw[ai,<-hl];exact hz
 have i:¬its.toArray.size * k.toNat > (2 ^ 63 - 1) / 8:=by
  have:(sizeLine:Nat)<=(2 ^ 63 - 1) / 8:=by decide
  lia
 have g:¬(!Builtin.List.listFitsIndex k)=true:=by rw[fitsIndex_both J G];exact Bool.false_ne_true
 have c:¬Builtin.List.listTooLong (its.toArray.size * k.toNat)=true:=by rw[tR f];exact Bool.false_ne_true
 have d:List.foldl (λo j=>o++j) #[] (List.replicate (if its.toArray.isEmpty=true then 0 else k.toNat) its.toArray)=(List.replicate k.toNat its).flatten.toArray:=by
  have f0:∀m:Nat,List.foldl (λo j=>o++j) #[] (List.replicate m its.toArray)=(List.replicate m its).flatten.toArray:=λm=>by have:=qW its m [];rw[List.nil_append]at this;exact this
  rw[f0];cases its with
  | nil=>simp
  | cons a L=>rw[ab dV]
 refine wpAny_binaryOp_repeat_ref (T:="list") (U:="int") dw ⟨_,e,rfl⟩ (λA=>typeIs_int A k t) noFill_list_mul F.fills_int_mul F.slot_int_rmul repeat_list F.slot_int_index.lookup
  (call_meets F.slot_int_rmul (typeIs_int s k t) F.entry_int_rmul (F.args_int_rmul_2 _ _) (int___rmul___int_list k t l its.toArray n)
   ⟨e,rfl,⟨_,e,rfl⟩,call_meets F.slot_list_mul ⟨_,e,rfl⟩ F.entry_list_mul (F.args_list_mul_2 _ _) (AutoListH.list___mul___list_int_3 l its.toArray n k t g i c) ⟨e,?_⟩⟩)
 rw[d];exact⟨.ref _,_,I.lnew (t':=s.toks) (r.rep k.toNat) (by rw[GR,Nat.mul_comm];exact hz),rfl,q _ I.fresh⟩
end L2
namespace Att
open PySem PySem.W PySem.Calls PyProof.Rows
def rQ:∀(ns:List Int) (vs:dA),WellAll P h vs (ns.map WData.int)->IntsAre vs ns:=by
 intro ns
 induction ns with
 | nil =>
  intro vs w;rw[List.map_nil]at w;cases w;exact .nil
 | cons n ns c =>
  intro vs w;rw[bg]at w;cases w with
  | cons a b =>
   cases a;exact .cons _ _ (c _ b)
def IL {l:OpenLaw}{n:Nat}(z:l.most=some n){P:Params}{h:Heap}{args:List WData}{c:dA}
  (e:l.row.toRowW.claim.pre args=true) (m:WellAll P h c args) :
  ∃a vs ns,c=[Value.ref a]/\args=[WData.list (ns.map WData.int)]/\h.get? a=some {cls:=.type "list",data:=.seq vs.toArray}/\IntsAre vs ns/\ns.length<=n:=by
 have o:WShape.hasAll [] args [.list .int]=true:=(pre_splitW e).1;have u:l.pre.holds [] {args:=args}=true:=(pre_splitW e).2;obtain⟨d,r,rfl,C,B⟩:=hasAllW_cons o;obtain rfl:=hasAllW_nil B;obtain⟨xs,rfl,A⟩:=hasW_list C;obtain⟨ns,rfl⟩:=items_int A;have f:ns.length<=n:=by
  unfold OpenLaw.pre at u;have j:(WTm.not (.lt (.lit (.int (n:Int))) (.len (.arg 0)))).holds [] {args:=[.list (ns.map .int)]}=true:=by have j:=(holds_andW u).1;rw[z]at j;exact j
  have i:=condW_of j (w_not (w_lt w_lit (w_len_list (w_arg rfl))));rw[af]at i;refine Nat.le_of_not_lt λq=>?_;have q':(n:Int)<((ns.length:Nat):Int):=by lia
  first
   | (rw[bj q']at i;exact absurd i dw)
   | (simp at i;lia)
 cases m with
 | cons w v =>
  cases v;cases w with
  | list ho g=>exact⟨_,_,ns,rfl,rfl,ho,rQ ns _ g,f⟩
def IU (l:OpenLaw)(args:List WData):l.row.toRowW.claim.post args (.bool true) args=true :=
 postW_of (r:=l.row.toRowW) (X:=(true == true))
  (show WShape.has [] (.bool true) .bool=true by first|rfl|decide|simp[WShape.has,WShape.arms,WShape.armsAll])
  (show(WTm.eq .res (.lit (.bool true))).value [] {args:=args,res:=some (.bool true),after:=args}=some (.bool (true == true))from w_eq_bool (w_res rfl) w_lit) rfl
def CO {l:OpenLaw}{n:Nat}{q:eg}{loose:bA}{XP:(jD)->Heap->Prop}{YP:eh->Heap->Prop}{d:DefRec}
  (L:l.most=some n) (C:d.params.defaults=[])
  (call:∀(w:eh) (s₀ c:ee) (mg z:jD) (m:Addr) (o:Obj) (v cd g:ef) (a:Addr) (vs:dA) (ns:List Int),
   Ground q loose [] XP w s₀ mg z c.heap->YP w c.heap ->
   c.heap.get? m=some o->o.data = .func (docDef d.name d.params d.body d.scope v cd g)->c.heap.CodeRec cd d.name->mg d.name=some (.ref m) ->
   c.heap.get? a=some {cls:=.type "list",data:=.seq vs.toArray}->IntsAre vs ns->ns.length<=n->c.gens = #[] ->
   codeAny (model l.prog w) callerA (.call (.ref m) ⟨[.ref a],[]⟩) (λr u=>r = .ok (.ret (.bool true))/\OldK c.heap u.heap/\u.os=c.os/\AllBare u.gens) c) :
  WalkO q loose XP YP l.row.toRowW d [] (λf vs=>PySem.call f vs):=by
 intro w s₀ c mg z G Y m o v cd g S kV ho hd E I B O args F as h H J A N;obtain rfl:S = .none:=Dflts.none I C;obtain rfl:kV = .none:=Dflts.noKw I;obtain⟨a,vs,ns,rfl,rfl,i,e,j⟩:=IL L h A;refine enter_call (codeAny_mono (call w s₀ c mg z m o v cd g a vs ns G Y ho (fd_plain hd) E B i e j O) λr u K=>?_);obtain⟨rfl,R,Q,P⟩:=K;exact⟨.inl ⟨.bool true,.bool true,[],rfl,λ_=>rfl,.bool true,IU l _,λ_=>⟨List.Pairwise.nil,λ_ hm=>(nomatch hm)⟩⟩,R,Q,P⟩
end Att
namespace L2
open PySem PySem.Spec PyProof.Rows
def v9:∀{vs:dA} {ns:List Int},IntsAre vs ns->aO (ns.map V.int) vs
 | _,_,.nil=>.nil
 | _,_,.cons n t h=>.cons ⟨t,rfl⟩ (v9 h)
abbrev lY:KJ:=λ_ _ _ _ _ _=>False
abbrev E0:XK:=λ_ _ _=>False
def pass0:j0 lY X E0:=λ_ _ _ _ _ _ _ h=>h.elim
structure HX (K:d6)(x qual:Str)(st:Stmt)(f:Addr)(fd:FuncData):Prop where
 ex:∃(oc:ef) (od:Option Addr) (kV doc pm:ef) (an:Option Addr) (cdv ct:ef) (osl:Array (Option ef)),
  fd=PySem.W.fnOf x qual (cP st) (bZ st) (aZ st) .none kV doc pm an cdv ct/\K.lookup f=some ⟨oc,od,.func fd,osl⟩/\PySem.W.codeIn K cdv qual=true
 kp:PySem.W.keepIn K (.ref f)=true
section
variable {P:eg}{w:eh}{K:d6}{mg:jD}{base:Heap}
def HX.ok {x a:Str}{st:Stmt}{f:Addr}{fd:FuncData}{N ps:bA}{k:Nat}{e:Sp}(F:HX K x a st f fd)(S:kC N ps (aZ st))(len:∀vs H Q E,e vs H Q E->vs.length=ps.length)
  (d:∀(c:ef) (A:en) (outer:List Env) (s:ee) (H:Hp) (vs:List V) (Q:VK) (E:XK),eG k (A.deeper (envOfC a (aZ st) s.heap.objs.size f c))->e vs H Q E ->
   ∃t,uU (cxOf lY P w K mg base N a (aZ st) f c A outer s H E).nox (bZ st) t/\t {nx:=λ_ H'=>Q .non H',rt:=Q} (start N vs) H):hZ P w K mg base lY (k+1) f fd ps e:=by
 obtain⟨r,od,kV,m,o,u,c,ct,osl,rfl,j,i⟩:=F.ex;refine SI j i S len λA outer s H vs Q E l g=>?_;obtain⟨t,h,q⟩:=d c A outer s H vs Q E l g;exact⟨t,h.nox,q⟩
def HX.okL {x a:Str}{st:Stmt}{f:Addr}{fd:FuncData}{N ps:bA}{k:Nat}{e:Sp}(F:HX K x a st f fd)(S:kC N ps (aZ st))(d:∀(c:ef) (A:en) (outer:List Env) (s:ee) (H:Hp) (vs:List V) (Q:VK) (E:XK),eG k (A.deeper (envOfC a (aZ st) s.heap.objs.size f c))->(A.deeper (envOfC a (aZ st) s.heap.objs.size f c)).units+64<cLine->e vs H Q E ->
   ∃t,uU (cxOf lY P w K mg base N a (aZ st) f c A outer s H E).nox (bZ st) t/\t {nx:=λ_ H'=>Q .non H',rt:=Q} (start N vs) H)(len:∀vs H Q E,e vs H Q E->vs.length=ps.length:=by
  intro _ _ _ _ h
  repeat (first|(obtain⟨rfl,_⟩:=h;rfl)|obtain⟨_,h⟩:=h)):hZ P w K mg base lY (k+1) f fd ps e :=
 F.ok S len λc A outer s H vs Q E g h=>d c A outer s H vs Q E g g.units h
noncomputable abbrev prmS (st:Stmt):bA:=(cP st).args.map (·.arg)
abbrev iY (N:bA)(st:Stmt):Prop:=kC N (prmS st) (aZ st)
abbrev iX (P:eg)(w:eh)(K:d6)(mg:jD)(base:Heap)(k:Nat)(f:Addr)(fd:FuncData)(st:Stmt)(sp:Sp):Prop:=hZ P w K mg base lY k f fd (prmS st) sp
abbrev iE (K:d6)(x:Str)(st:Stmt)(f:Addr)(fd:FuncData):Prop:=HX K x x st f fd
def HX.binds {x a:Str}{st:Stmt}{f:Addr}{fd:FuncData}{ps:bA}(F:HX K x a st f fd)
  (h:∀(kV c e:ef) (g:Option Addr) (d ct:ef) (us:dA),us.length=ps.length->bindArgs (PySem.W.fnOf x a (cP st) (bZ st) (aZ st) .none kV c e g d ct) ⟨us,[]⟩=pure (ps.zip us)):eH K fd ps []:=by
 obtain⟨j,od,kV,c,e,g,d,ct,osl,rfl,l,i⟩:=F.ex;exact .all (h kV c e g d ct)
def lP {x a:Str}{st:Stmt}{f:Addr}{i:ef}{od h:Option Addr}{osl:Array (Option ef)}{kV e g d ct:ef}(l:K.lookup f=some ⟨i,od,.func (PySem.W.fnOf x a (cP st) (bZ st) (aZ st) .none kV e g h d ct),osl⟩)
  (c:PySem.W.codeIn K d a=true) (k:PySem.W.keepIn K (.ref f)=true):HX K x a st f (PySem.W.fnOf x a (cP st) (bZ st) (aZ st) .none kV e g h d ct):=⟨⟨i,od,kV,e,g,h,d,ct,osl,rfl,l,c⟩,k⟩
end
def pv (i:Nat)(d:X.N[i]?=some x:=by rfl)(c:WM X.env.scope x:=by first|exact Or.inl rfl|exact Or.inr (Or.inl rfl)|exact Or.inr (Or.inr rfl))(hd:(x == ("__debug__" : Str))=false:=by decide)
  (a:(x == ("__classdict__" : Str))=false:=by decide):PE X (.Name x pos) (tVar i):=L9 d c hd a
def ite2 {c A B:Prop}[Decidable c](d:c->A)(a:¬c->B):if c then A else B:=by
 by_cases h:c
 ·rw[aj h];exact d h
 ·rw[ab h];exact a h
def aA (H H':Hp):Prop:=∀b o,H b=some o->H' b=some o
def aA.refl (H:Hp):aA H H:=λ_ _ h=>h
def aA.trans (a:aA H H1)(b:aA H1 H2):aA H H2:=λc o h=>b c o (a c o h)
def aA.free (e:aA H H')(h:H' l=Option.none):H l=Option.none:=by
 cases q:H l with
 | none=>rfl
 | some o =>
  rw[e l o q]at h;cases h
section
variable {κ:Type}[DecidableEq κ]
noncomputable def valV (a:List (κ×V))(k:κ):Option V:=(a.find? λc=>decide (c.1=k)).map (·.2)
noncomputable def putK (a:List (κ×V))(k:κ)(v:V):List (κ×V) :=
 if (a.any λc=>decide (c.1=k))=true then a.map (λc=>if c.1=k then(c.1,v)else c)else a++[(k,v)]
def oY {p:κ×V}{r:List (κ×V)}{k:κ}(e:p.1=k):valV (p::r) k=some p.2:=by simp[valV,List.find?_cons,e]
def oZ {p:κ×V}{r:List (κ×V)}{k:κ}(e:¬p.1=k):valV (p::r) k=valV r k:=by simp[valV,List.find?_cons,e]
def BT (a:List (κ×V))(k:κ)(v:V):(putK a k v).length<=a.length+1:=by
 unfold putK;split
 ·rw[af];lia
 ·rw[au,ar,List.length_nil];lia
def kZ.isSome_eq (r:kZ o u):o.isSome=u.isSome:=by
 cases o with
 | none=>cases u with
  | none=>rfl
  | some _=>exact(show False from r).elim
 | some _=>cases u with
  | none=>exact(show False from r).elim
  | some _=>rfl
def kZ.getD (r:kZ o u)(rd:aQ d d'):aQ (o.getD d) (u.getD d'):=by
 cases o with
 | none=>cases u with
  | none=>exact rd
  | some _=>exact(show False from r).elim
 | some _=>cases u with
  | none=>exact(show False from r).elim
  | some _=>exact r
def KV.val {a:List (κ×V)}{vs:List (κ×ef)}(r:KV a vs)(k:κ):kZ (valV a k) (valueAt vs k):=by
 unfold KV at r
 induction r with
 | nil=>exact True.intro
 | @cons p q ps c h t f =>
  obtain⟨d,g⟩:=h;by_cases e:p.1=k
  ·have e':q.1=k:=d.symm.trans e;have b:valueAt (q::c) k=some q.2:=by simp[valueAt,List.find?_cons,e']
   rw[oY e,b];exact g
  ·have e':¬q.1=k:=λz=>e (d.trans z);have b:valueAt (q::c) k=valueAt c k:=by simp[valueAt,List.find?_cons,e']
   rw[oZ e,b];exact f
def KV.any {a:List (κ×V)}{vs:List (κ×ef)}(r:KV a vs)(k:κ):(a.any λc=>decide (c.1=k))=vs.any λc=>decide (c.1=k):=by
 unfold KV at r
 induction r with
 | nil=>rfl
 | cons h t d=>rw[List.any_cons,List.any_cons,d,h.1]
def KV.repl {c:List (κ×V)}{vs:List (κ×ef)}(r:KV c vs)(k:κ){y:V}{u:ef}(f:aQ y u) :
  KV (c.map λa=>if a.1=k then(a.1,y)else a) (vs.map λa=>if a.1=k then(a.1,u)else a):=by
 unfold KV at r|-
 induction r with
 | nil=>exact .nil
 | @cons p q ps j h t g =>
  rw[bg,bg];refine .cons ?_ g;obtain⟨d,i⟩:=h;by_cases e:p.1=k
  ·rw[aj e,aj (d.symm.trans e)];exact⟨d,f⟩
  ·rw[ab e,ab (λz=>e (d.trans z))];exact⟨d,i⟩
def KV.put {a:List (κ×V)}{vs:List (κ×ef)}(r:KV a vs)(k:κ){y:V}{u:ef}(c:aQ y u):KV (putK a k y) (stored vs k u):=by
 unfold putK stored;rw[r.any k];by_cases e:(vs.any λd=>decide (d.1=k))=true
 ·rw[aj e,aj e];exact r.repl k c
 ·rw[ab e,ab e];exact Paired.snoc r ⟨rfl,c⟩
def KV.length {a:List (κ×V)}{vs:List (κ×ef)}(r:KV a vs):a.length=vs.length:=Paired.length r
end
def pX (r:aQ (kV k) u):(cN P w).is k u=true:=by
 cases k with
 | inl i=>obtain⟨t,e⟩:=(show ∃t,u=Value.int i t from r);subst e;exact BR P w i t
 | inr x=>obtain⟨t,e⟩:=(show ∃t,u=Value.str x t from r);subst e;exact BQ P w x t
def w6:∀{ks:List jF} {us:dA},aO (ks.map kV) us->ItemsAre (cN P w) ks us
 | [],_,r=>by rw[List.map_nil]at r;cases r;exact .nil
 | k::ks,_,r=>by
  rw[bg]at r;cases r with
  | cons h t=>exact .cons (pX h) (w6 t)
abbrev KT (H:Hp):List (List jF×V)->List (List jF×Addr×ef)->Prop:=Paired λp q=>p.1=q.1/\H q.2.1=some (.tup (p.1.map kV))/\aQ p.2 q.2.2
def KT.val (r:KT H kvs xs)(k:List jF):kZ (valV kvs k) ((atKey xs k).map (·.2)):=by
 induction r with
 | nil=>exact True.intro
 | @cons p q ps a h t d =>
  obtain⟨c,_,f⟩:=h;by_cases e:p.1=k
  ·have e':q.1=k:=c.symm.trans e;have b:atKey (q::a) k=some q.2:=by simp[atKey,List.find?_cons,e']
   rw[oY e,b];exact f
  ·have e':¬q.1=k:=λz=>e (c.trans z);have b:atKey (q::a) k=atKey a k:=by simp[atKey,List.find?_cons,e']
   rw[oZ e,b];exact d
def R8 (ok:iC P w H h)(e:Rd H a u):cD P w H h a u:=e.ok ok
def uJ (ok:iC P w H h)(e:Rd H a (.dK kvs)):kvs.length<=sizeLine/\(a == sysModules)=false/\∃vs,KV kvs vs/\h.DictOf (cN P w) a vs :=
 show cD P w H h a (.dK kvs)from R8 ok e
def uA (ok:iC P w H h)(e:H a=some (.tup (ks.map kV))):(tupleKind (cN P w)).is h ks a:=by
 obtain⟨_,its,r,o,f,d,n,c⟩:=(show cD P w H h a (.tup (ks.map kV))from ok a _ e)
 exact⟨o,its.toArray,n,f,d,c,by simpa using w6 r⟩
def xG (ok:iC P w H h)(e:Rd H a (.dT kvs)):kvs.length<=sizeLine/\(a == sysModules)=false /\
  ∃xs,KT H kvs xs/\h.DictOfH (tupleKind (cN P w)) a xs:=by
 obtain⟨z,y,xs,r,o,es,A,v,u,j,i,g⟩:=(show cD P w H h a (.dT kvs)from R8 ok e)
 refine⟨z,y,xs,r,o,es,A,v,u,j,i,λx c=>?_,g⟩;have all:∀{l:List (List jF×V)} {m:List (List jF×Addr×ef)},KT H l m->∀x∈m,(tupleKind (cN P w)).is h x.1 x.2.1:=by
  intro l m q
  induction q with
  | nil=>intro x c;exact nomatch c
  | @cons p q ps B d t f =>
   intro x c;rcases cz.mp c with e|c
   ·subst e;exact uA ok (by rw[<-d.1];exact d.2.1)
   ·exact f x c
 exact all r x c
def lC (H:Hp)(a:Addr)(y:V)(r:Option V):Prop :=
 (∃c k,Rd H a (.dK c)/\y=kV k/\r=valV c k)\/∃c k b,Rd H a (.dT c)/\y = .ref b/\H b=some (.tup (k.map kV))/\r=valV c k
def lC.k {H:Hp}{a:Addr}{c:List (jF×V)}{k:jF}(e:H a=some (.dK c)):lC H a (kV k) (valV c k):=.inl ⟨c,k,.inl e,rfl,rfl⟩
def aK.big (I:aK X pins σ H s):sysModules<s.heap.objs.size:=by have h:mainGlobals<s.heap.objs.size:=(I.mod.glob.keeps I.bk).lt;exact Nat.lt_trans dw h
def J3 {Q:cE}(F:A.units+1<cLine)(I:aK X pins σ H s)(g:lC H a y (some v))(C:aQ y u)(h:∀f B,aK X pins σ H B->aQ v f->Q f B) :
  wpAny (model X.prog X.w) A (getItem (.ref a) u) Q E s:=by
 rcases g with⟨i,k,e,q,l⟩|⟨i,k,b,e,q,J,l⟩
 ·subst q;obtain⟨z,hd,vs,d,r⟩:=uJ I.hok e;obtain⟨f,j,c⟩:=kZ.some_of (v:=v) (o:=valueAt vs k) (l ▸ d.val k);exact wpAny_getItem_of (pX C) r.mapOf j (h f _ (I.tok _) c)
 ·subst q;cases (show u=Value.ref b from C);obtain⟨z,hd,xs,d,r⟩:=xG I.hok e;obtain⟨f,j,c⟩:=kZ.some_of (v:=v) (o:=(atKey xs k).map (·.2)) (l ▸ d.val k);obtain⟨p,G,m⟩:=Option.map_eq_some_iff.mp j;refine wpAny_getItem_heap (tupleKind_room_in1 F) (uA I.hok J) r G ?_;rw[m];exact h f _ (I.tok _) c
def RP {Q:cE}(r:A.units+1<cLine)(I:aK X pins σ H s)(g:lC H a y o)(m:aQ y u)(h:∀j,aK X pins σ H j->Q (.bool (!o.isSome)) j) :
  wpAny (model X.prog X.w) A (compareOp .NotIn u (.ref a)) Q E s:=by
 rcases g with⟨d,k,e,f,l⟩|⟨d,k,b,e,f,v,l⟩
 ·subst f;obtain⟨z,hd,vs,c,i⟩:=uJ I.hok e;refine wpAny_notIn_of (pX m) hd i.mapOf ?_;rw[<-(c.val k).isSome_eq,<-l];exact h _ (I.tok _)
 ·subst f;cases (show u=Value.ref b from m);obtain⟨z,hd,xs,c,i⟩:=xG I.hok e;refine wpAny_notIn_heap (tupleKind_room_in1 r) (uA I.hok v) hd i ?_;have q:=(c.val k).isSome_eq;rw[Option.isSome_map]at q;rw[<-q,<-l];exact h _ (I.tok _)
def U5 (z:kvs.length<=sizeLine)(hd:(a == sysModules)=false)(c:KV kvs vs)(d:h'.DictOf (cN P w) a vs) :
  cD P w H' h' a (.dK kvs):=⟨z,hd,vs,c,d⟩
def WA {Q:cE}(I:aK X pins σ H s)(e:Rd H a (.dK kvs))(h:∀t d,aK X pins σ H d->Q (.int kvs.length t) d):wpAny (model X.prog X.w) A (call (.builtin "len") [.ref a]) Q E s:=by obtain⟨z,hd,vs,c,f⟩:=uJ I.hok e;refine call_len_dict hd f (by rw[<-c.length];rw[sizeLine_eq]at z;lia) ?_;rw[<-c.length];exact h _ _ (I.tok _)
def OR (i:Expr):Prop:=∀a c,subscripted i false a c=operate [a,c] (getItem a c)
def yA {prog:eg}{w:eh}{A:en}{E:cE}{s:ee}{env:Env}{c a:Expr}{m:Pos}{T id:String}{Q:cE}
  (hl:typeLookup (.type T) "__getitem__" = pure (some (.builtin id))) (u:OR a)
  (h:wM prog w A (eval c env) (λo g=>wM prog w A (eval a env) (λi d=>d.TypeIs o T/\wM prog w A (getItem o i) Q E d) E g) E s) :
  wM prog w A (eval (.Subscript c a m) env) Q E s:=by
 refine Subscript_ (wpAny_mono h (λo g l=>wpAny_mono l (λi d e=>?_) λ_ _ x=>x) λ_ _ x=>x);obtain⟨q,e⟩:=e;unfold subscriptTail;refine aa ?_;rw[getitemInPython_of_ne q.not_modules];refine aa (wpAny_specialOf q hl ?_);have fin:wM prog w A (subscripted a false o i) (λr f=>wM prog w A (letTemporaryGo c o r >>= λ_=>pure r) Q E f) E d:=by rw[u o i];exact wpAny_operating (wpAny_mono e (λr f j=>aa (wpAny_letTemporaryGo (ao j))) λ_ _ x=>x)
 first
  | exact ao (aa fin)
  | exact aa (ao (aa fin))
  | exact aa fin
def CC {X:Cx}{c:eN}{h:St}{H:Hp}{s:ee}{a:Addr}{y:V}{o:Option V}(I:aK X c h H s)(g:lC H a y o):s.TypeIs (.ref a) "dict":=by
 rcases g with⟨d,k,e,_,_⟩|⟨d,k,b,e,_,_,_⟩
 ·obtain⟨_,_,vs,_,f⟩:=uJ I.hok e;exact f.typeIs
 ·obtain⟨_,_,xs,_,f⟩:=xG I.hok e;exact f.typeIs
def tDGet (e ty:TE):TE:=λc H Q=>e c H λx f=>ty c f λy d=>∃a v,x = .ref a/\lC d a y (some v)/\Q v d
def F3 (w:X.A.units+1<cLine)(ho:PE X o td)(B:PE X i ty)(z:OR i):PE X (.Subscript o i pos) (tDGet td ty):=by intro c s e H Q I h;refine yA PySem.F.slot_dict_getitem.lookup z (thn (ho c s e H _ I h) λu j ⟨x,J,E,m,r⟩=>thn (B c j e J _ E r) λN s2 ⟨y,G,f,l,a,v,ex,g,q⟩=>?_);subst ex;obtain rfl:u=Value.ref a:=m;exact⟨CC f g,J3 w f g l λK L C d=>⟨v,G,C,d,q⟩⟩
def N8 (h:Heap)(a:sysModules<h.objs.size):cD P w H (h.push {cls:=.type "dict",data:=.dict #[]}) h.objs.size (.dK []) :=
 ⟨aw _,db.mpr (Ne.symm (bv a)),[],.nil,Heap.DictOf.new h⟩
def K3:TE:=λ_ H Q=>∀p,H p=none->Q (.ref p) (upd H p (.dK []))
def MB:PE X (.Dict [] [] pos) K3:=λc s d H Q I h =>
 wpAny_Dict_empty ⟨.ref s.heap.objs.size,_,I.laid (a:=s.heap.objs.size) (o:=.dK []) (t':=s.toks) (λ_ _ q=>ag _ q) (ac _) (N8 s.heap I.big),rfl,h _ (I.hok.fresh (ac _))⟩
noncomputable def kF (a more:List (jF×V)):List (jF×V):=more.foldl (λc d=>putK c d.1 d.2) a
def KV.merge:∀{more:List (jF×V)} {c:List (jF×ef)} {a:List (jF×V)} {vs:List (jF×ef)},KV more c->KV a vs->KV (kF a more) (merged vs c):=by
 intro more c a vs r;unfold KV at r
 induction r generalizing a vs with
 | nil=>intro q;exact q
 | @cons p q ps g h t f =>
  intro d;have e:KV (putK a p.1 p.2) (stored vs q.1 q.2):=by have:=d.put p.1 h.2;rw[<-h.1];exact this
  exact f e
def oE:∀(more a:List (jF×V)),(kF a more).length<=a.length+more.length
 | [],a=>by show a.length<=a.length+0;lia
 | p::r,a=>by have d:=oE r (putK a p.1 p.2);have c:=BT a p.1 p.2;show(kF (putK a p.1 p.2) r).length<=_;rw[ar];lia
structure M1 (X:Cx)(o:Expr)(m:Str)(apos:Pos)(e:Expr)(cpos:Pos):Prop where
 base:attributeBase o m X.env (eval o X.env)=eval o X.env
 few:((backTo cpos (starEach [e] X.env)).all (λx=>!x.1) && (backToKw cpos (keywordEach [] X.env)).all (λx=>x.1.isSome)
  && decide (([e]:vE).length+([]:List Keyword).length+(if ([]:List Keyword).isEmpty then 0 else 1)<30))=true
 line:(apos.endLine == cpos.line)=true
 trees:backTo cpos (starEach [e] X.env)=[(false,eval e X.env)]
structure M2 (X:Cx)(o:Expr)(m:Str)(apos:Pos)(e f:Expr)(cpos:Pos):Prop where
 base:attributeBase o m X.env (eval o X.env)=eval o X.env
 few:((backTo cpos (starEach [e,f] X.env)).all (λx=>!x.1) && (backToKw cpos (keywordEach [] X.env)).all (λx=>x.1.isSome)
  && decide (([e,f]:vE).length+([]:List Keyword).length+(if ([]:List Keyword).isEmpty then 0 else 1)<30))=true
 line:(apos.endLine == cpos.line)=true
 trees:backTo cpos (starEach [e,f] X.env)=[(false,eval e X.env),(false,eval f X.env)]
def W3 (H:Hp)(a:Addr):Prop:=(∃c,Rd H a (.dK c))\/∃c,Rd H a (.dT c)
def NS {X:Cx}{c:eN}{j:St}{H:Hp}{s:ee}{a:Addr}(I:aK X c j H s)(d:W3 H a) :
  s.TypeIs (.ref a) "dict"/\(∀b,Value.ref a = .ref b->∃ob,s.heap.get? b=some ob/\ob.dict=none)/\(a == sysModules)=false:=by
 rcases d with⟨g,e⟩|⟨g,e⟩
 ·obtain⟨_,hd,vs,_,f⟩:=uJ I.hok e;refine⟨f.typeIs,λb q=>?_,hd⟩;cases q;obtain⟨ob,_,_,i,h,_⟩:=f;exact⟨ob,i,h.2.1⟩
 ·obtain⟨_,hd,xs,_,f⟩:=xG I.hok e;refine⟨f.typeIs,λb q=>?_,hd⟩;cases q;obtain⟨ob,_,_,i,h,_⟩:=f;exact⟨ob,i,h.2.1⟩
def U8 {Q:cE}(r:A.units+1<cLine)(I:aK X pins σ H s)(g:lC H a y o)(q:aQ y u)(h:∀j m,aK X pins σ H m->aQ (o.getD .non) j->Q j m) :
  wpAny (model X.prog X.w) A (call (.builtin "dict.get") [.ref a,u]) Q E s:=by
 rcases g with⟨f,k,e,i,l⟩|⟨f,k,b,e,i,v,l⟩
 ·subst i;obtain⟨z,hd,vs,c,d⟩:=uJ I.hok e;refine call_meetsIn PySem.F.slot_dict_get d.typeIs PySem.F.entry_dict_get (PySem.F.args_dict_get_2 _ _) (meets_dict_get (cN X.prog X.w) a (pX q) hd) ⟨_,d.mapOf,h _ _ (I.tok _) ?_⟩;rw[l];exact(c.val k).getD rfl
 ·subst i;cases (show u=Value.ref b from q);obtain⟨z,hd,xs,c,d⟩:=xG I.hok e;refine call_meetsIn PySem.F.slot_dict_get d.typeIs PySem.F.entry_dict_get (PySem.F.args_dict_get_2 _ _) (meetsH_dict_get (tupleKind (cN X.prog X.w)) a b hd) ⟨tupleKind_room_in1 r,k,xs,uA I.hok v,d,h _ _ (I.tok _) ?_⟩;rw[l];exact(c.val k).getD rfl
def U7 {Q:cE}(B:A.units+1<cLine)(I:aK X pins σ H s)(g:lC H a y o)(v:aQ y u)(rd:aQ d r)(h:∀m q,aK X pins σ H q->aQ (o.getD d) m->Q m q) :
  wpAny (model X.prog X.w) A (call (.builtin "dict.get") [.ref a,u,r]) Q E s:=by
 rcases g with⟨i,k,e,j,l⟩|⟨i,k,b,e,j,C,l⟩
 ·subst j;obtain⟨z,hd,vs,c,f⟩:=uJ I.hok e;refine call_meetsIn PySem.F.slot_dict_get f.typeIs PySem.F.entry_dict_get (PySem.F.args_dict_get_3 _ _ _) (meets_dict_get_default (cN X.prog X.w) a (pX v) hd r) ⟨_,f.mapOf,h _ _ (I.tok _) ?_⟩;rw[l];exact(c.val k).getD rd
 ·subst j;cases (show u=Value.ref b from v);obtain⟨z,hd,xs,c,f⟩:=xG I.hok e;refine call_meetsIn PySem.F.slot_dict_get f.typeIs PySem.F.entry_dict_get (PySem.F.args_dict_get_3 _ _ _) (meetsH_dict_get_default (tupleKind (cN X.prog X.w)) a b hd r) ⟨tupleKind_room_in1 B,k,xs,uA I.hok C,f,h _ _ (I.tok _) ?_⟩;rw[l];exact(c.val k).getD rd
def S8 (f ty:TE):TE:=λc H Q=>f c H λx e=>∃a,x = .ref a/\W3 e a/\ty c e λy d=>∃o,lC d a y o/\Q (o.getD .non) d
def S7 (g ty f:TE):TE:=λc H Q=>g c H λx e=>∃a,x = .ref a/\W3 e a/\ty c e λy h=>f c h λz d=>∃o,lC d a y o/\Q (o.getD z) d
def BH (B:X.A.units+1<cLine)(ho:PE X o td)(C:PE X e ty)(m:M1 X o "get" apos e cpos):PE X (.Call (.Attribute o "get" apos) [e] [] cpos) (S8 td ty):=by intro c s i H Q I h;refine wpAny_Call_method m.base m.few m.line PySem.F.plainAttrs_dict PySem.F.slot_dict_get PySem.F.type_dict_get (thn (ho c s i H _ I h) λu q ⟨x,K,j,v,a,ex,d,z⟩=>?_);subst ex;obtain rfl:u=Value.ref a:=v;obtain⟨t1,l,_⟩:=NS j d;refine⟨t1,l,?_⟩;rw[m.trees];refine Calls.callWith_builtin rfl (Calls.evalArgs_plain (Calls.spliced_cons (thn (C c q i K _ j z) λP s2 ⟨y,J,G,r,O,g,w⟩=>Calls.spliced_nil ?_)));exact U8 B G g r λL N E f=>⟨_,J,E,f,w⟩
def ME (J:X.A.units+1<cLine)(ho:PE X o td)(L:PE X e ty)(K:PE X f tx)(m:M2 X o "get" apos e f cpos):PE X (.Call (.Attribute o "get" apos) [e,f] [] cpos) (S7 td ty tx):=by
 intro c s i H Q I h;refine wpAny_Call_method m.base m.few m.line PySem.F.plainAttrs_dict PySem.F.slot_dict_get PySem.F.type_dict_get (thn (ho c s i H _ I h) λu r ⟨x,T,l,B,a,ex,d,G⟩=>?_);subst ex;obtain rfl:u=Value.ref a:=B;obtain⟨t1,q,_⟩:=NS l d;refine⟨t1,q,?_⟩;rw[m.trees]
 refine Calls.callWith_builtin rfl (Calls.evalArgs_plain (Calls.spliced_cons (thn (L c r i T _ l G) λiv s2 ⟨y,S,P,w,E⟩ =>
  Calls.spliced_cons (thn (K c s2 i S _ P E) λfv Y ⟨z,R,O,v,Z,g,C⟩=>Calls.spliced_nil ?_))))
 exact U7 J O g w v λU W N j=>⟨_,R,N,j,C⟩
def J9:dZ X (.builtin "len") (λxs H Q=>∃a c,xs=[V.ref a]/\H a=some (.dK c)/\Q (.int c.length) H):=by intro d s i H xs us Q I r h;obtain⟨a,c,rfl,f,q⟩:=h;obtain⟨u,rfl,e⟩:=vals1 r;cases e;exact WA I (.inl f) λt j g=>⟨.int c.length,H,g,⟨t,rfl⟩,q⟩
noncomputable def closL (cells:List (Str×Addr)):List (Str×NameKind)->List (Str×Addr)->List (Str×Addr)
 | [],a=>a
 | (n,k)::r,a=>closL cells r (if k = .free then(n,(cells.lookup n).getD 0)::a else a)
def vO (h:∀x∈scope.names,x.2 = .free->∃c,env.cells.lookup x.1=some c):closureFor scope env=pure (closL env.cells scope.names []):=by
 have go:∀(l:List (Str×NameKind)) (d:List (Str×Addr)),(∀x∈l,x.2 = .free->∃c,env.cells.lookup x.1=some c) ->
   (forIn l d λ(x:Str×NameKind) (r:List (Str×Addr))=>match x with|(name,kind)=>if (kind == NameKind.free)=true then do let a <-cellOf env name;pure (ForInStep.yield ((name,a)::r))else pure (ForInStep.yield r):Sem (List (Str×Addr)))=pure (closL env.cells l d):=by
  intro l
  induction l with
  | nil=>intro d _;rfl
  | cons x r f =>
   intro d g;obtain⟨n,k⟩:=x;have i:=λy j=>g y (bc _ j);rw[List.forIn_cons];by_cases e:k = .free
   ·subst e;obtain⟨c,o⟩:=g (n,.free) ax rfl;have hc':List.lookup n env.cells=some c:=o;have u:cellOf env n=pure c:=by unfold cellOf;rw[hc']
    simp only[beq_self_eq_true,if_true,u,pure_bind];rw[f _ i];show _=pure (closL env.cells r (if NameKind.free = .free then(n,(env.cells.lookup n).getD 0)::d else d));rw[aj rfl,hc'];rfl
   ·have q:(k == NameKind.free)=false:=by simpa using e
    simp only[q,Bool.false_eq_true,if_false,pure_bind];rw[f _ i];show _=pure (closL env.cells r (if k = .free then(n,(env.cells.lookup n).getD 0)::d else d));rw[ab e]
 exact(congrArg (λ(m:Sem (List (Str×Addr)))=>m >>= λs=>pure s) (go scope.names [] h)).trans rfl
theorem xL:∀(l:List (Str×NameKind)) (d:List (Str×Addr)),(closL cells l d).lookup x=some c->d.lookup x=some c\/(x,NameKind.free)∈l/\c=(cells.lookup x).getD 0
 | [],_,h=>.inl h
 | (n,k)::r,d,h=>by
  unfold closL at h;rcases xL r _ h with q|⟨q,e⟩
  ·by_cases a:k = .free
   ·rw[aj a]at q;rw[ci]at q;by_cases f:x=n
    ·subst f;rw[beq_self_eq_true]at q;subst a;exact .inr ⟨ax,(Option.some.inj q).symm⟩
    ·have g:(x == n)=false:=by simpa using f
     rw[g]at q;exact .inl q
   ·rw[ab a]at q;exact .inl q
  ·exact .inr ⟨bc _ q,e⟩
theorem xM:∀(l:List (Str×NameKind)) (a:List (Str×Addr)),((x,NameKind.free)∈l\/(a.lookup x).isSome)->((closL cells l a).lookup x).isSome
 | [],a,h=>by
  rcases h with h|h
  ·cases h
  ·exact h
 | (n,k)::r,a,h=>by
  unfold closL;refine xM r _ ?_;by_cases d:k = .free
  ·rw[aj d,ci];by_cases c:x=n
   ·subst c;rw[beq_self_eq_true];exact .inr rfl
   ·have f:(x == n)=false:=by simpa using c
    rw[f];rcases h with h|h
    ·rcases cz.mp h with e|e
     ·cases e;exact absurd rfl c
     ·exact .inl e
    ·exact .inr h
  ·rw[ab d];rcases h with h|h
   ·rcases cz.mp h with e|e
    ·cases e;exact absurd rfl d
    ·exact .inl e
   ·exact .inr h
theorem mW {a c:Type}[BEq a][LawfulBEq a]{x:a}{v:c}:∀{l:List (a×c)},l.lookup x=some v->(x,v)∈l
 | [],h=>by simp at h
 | (n,k)::r,h=>by
  rw[ci]at h;by_cases e:x=n
  ·subst e;rw[beq_self_eq_true]at h;cases h;exact ax
  ·have d:(x == n)=false:=by simpa using e
   rw[d]at h;exact bc _ (mW h)
theorem lF {env:Env}{x:Str}:∀{names:List (Str×NameKind)} {a:NameKind},(∀y∈names,y.2≠.cell) ->
  (names.map λ(n,k)=>if (k == NameKind.free && env.scope.kind == .function && env.kindOf n == some .cell)then(n,NameKind.cell)else(n,k)).lookup x=some a->(a = .cell\/a = .free)->names.lookup x=some .free
 | [],_,_,h,_=>by simp at h
 | (n,k)::r,a,i,h,c=>by
  have f:=@lF env x r a (λy j=>i y (bc _ j));have l:=i (n,k) ax;have h:List.lookup x ((if (k == NameKind.free && env.scope.kind == .function && env.kindOf n == some .cell)=true then(n,NameKind.cell)else(n,k))::_)=some a:=h;by_cases g:x=n
  ·subst g;rw[ci,beq_self_eq_true];by_cases q:(k == NameKind.free && env.scope.kind == .function && env.kindOf x == some .cell)=true
   ·simp only[Bool.and_eq_true,beq_iff_eq]at q;show some k=some .free;rw[q.1.1]
   ·rw[ab q,ci,beq_self_eq_true]at h;have h:some k=some a:=h;cases h;rcases c with e|e
    ·exact absurd e l
    ·show some k=some .free;rw[e]
  ·have d:(x == n)=false:=by simpa using g
   rw[ci,d];by_cases q:(k == NameKind.free && env.scope.kind == .function && env.kindOf n == some .cell)=true
   ·rw[aj q,ci,d]at h;exact f h c
   ·rw[ab q,ci,d]at h;exact f h c
theorem lW {env:Env}{x:Str}:∀{names:List (Str×NameKind)},names.lookup x=some .free ->
  (names.map λ(n,k)=>if (k == NameKind.free && env.scope.kind == .function && env.kindOf n == some .cell)then(n,NameKind.cell)else(n,k)).lookup x=some .cell \/
  (names.map λ(n,k)=>if (k == NameKind.free && env.scope.kind == .function && env.kindOf n == some .cell)then(n,NameKind.cell)else(n,k)).lookup x=some .free
 | [],h=>by simp at h
 | (n,k)::r,h=>by
  have c:=@lW env x r;show List.lookup x ((if (k == NameKind.free && env.scope.kind == .function && env.kindOf n == some .cell)=true then(n,NameKind.cell)else(n,k))::_)=_\/List.lookup x ((if (k == NameKind.free && env.scope.kind == .function && env.kindOf n == some .cell)=true then(n,NameKind.cell)else(n,k))::_)=_;by_cases d:x=n
  ·subst d;rw[ci,beq_self_eq_true]at h;have h:some k=some .free:=h;cases h;by_cases q:(NameKind.free == NameKind.free && env.scope.kind == .function && env.kindOf x == some .cell)=true
   ·rw[aj q,ci,beq_self_eq_true];exact .inl rfl
   ·rw[ab q,ci,beq_self_eq_true];exact .inr rfl
  ·have a:(x == n)=false:=by simpa using d
   rw[ci,a]at h;by_cases q:(k == NameKind.free && env.scope.kind == .function && env.kindOf n == some .cell)=true
   ·rw[aj q,ci,a];exact c h
   ·rw[ab q,ci,a];exact c h
noncomputable def srcOk (N:bA)(names:List (Str×NameKind)):List (Option Nat)->bA->Bool
 | [],[]=>true
 | none::r,_::n=>srcOk N names r n
 | some i::r,x::n=>N[i]? == some x && names.lookup x == some .free && srcOk N names r n
 | _,_=>false
theorem qI:∀{src:List (Option Nat)} {n:bA},srcOk N names src n=true->src.length=n.length
 | [],[],_=>rfl
 | none::r,_::n,h=>by simp[qI (src:=r) (n:=n) h]
 | some i::r,x::n,h=>by
  simp only[srcOk,Bool.and_eq_true]at h;simp[qI (src:=r) (n:=n) h.2]
 | [],_::_,h=>by simp[srcOk]at h
 | none::_,[],h=>by simp[srcOk]at h
 | some _::_,[],h=>by simp[srcOk]at h
theorem qJ:∀{src:List (Option Nat)} {n:bA} {j i:Nat} {x:Str},srcOk N names src n=true->src[j]?=some (some i)->n[j]?=some x->N[i]?=some x/\names.lookup x=some .free
 | [],_,_,_,_,_,h,_=>by simp at h
 | _::_,[],_,_,_,_,_,h=>by simp at h
 | none::r,_::n,0,_,_,_,h,_=>by simp at h
 | none::r,_::n,j+1,_,_,h,c,a=>qJ (src:=r) (n:=n) (j:=j) h (by simpa using c) (by simpa using a)
 | some k::r,y::n,0,i,x,h,c,a=>by
  simp at c a;subst c a;simp only[srcOk,Bool.and_eq_true,beq_iff_eq]at h;exact h.1
 | some _::r,_::n,j+1,_,_,h,c,a=>by simp only[srcOk,Bool.and_eq_true]at h;exact qJ (src:=r) (n:=n) (j:=j) h.2 (by simpa using c) (by simpa using a)
structure bD (X:Cx)(scope:Scope)(N':bA)(src:List (Option Nat)):Prop where
 kind:scope.kind = .function
 cell:∀y∈scope.names,y.2≠.cell
 names:∀y∈scope.names,y.2 = .local->scope.names.lookup y.1=some .local
 free:∀y∈scope.names,y.2 = .free->(X.env.scope.names.lookup y.1=some .cell\/X.env.scope.names.lookup y.1=some .free)
 nd:N'.Nodup
 map:srcOk X.N scope.names src N'=true
noncomputable def stC (src:List (Option Nat))(a:St):St:=src.map λo=>o.bind λi=>(a[i]?).join
noncomputable def blk (X:Cx)(scope:Scope)(d:bA)(C:Addr)(a:ee)(H₂:Hp)(c:List Addr):Cx :=
 {X with N:=d,s₀:=a,H₀:=H₂,env:=compEnvC scope (closL X.env.cells scope.names []) C X.env,outer:=X.stack,stack:=X.stack,ex:=c,fn:=λ_=>false,pn:=[],xe:=λ_ _=>False}
def bD.cells (S:bD X scope N' src)(I:aK X pins σ H s):∀x∈scope.names,x.2 = .free->∃c,X.env.cells.lookup x.1=some c:=λx a d=>I.ok.has x.1 (S.free x a d)
def bD.cl (S:bD X scope N' src)(I:aK X pins σ H s){x:Str}{c:Addr}(h:(closL X.env.cells scope.names []).lookup x=some c):X.env.cells.lookup x=some c:=by
 rcases xL _ _ h with q|⟨q,e⟩
 ·simp at q
 ·obtain⟨d,hd⟩:=S.cells I (x,.free) q rfl;have hd:X.env.cells.lookup x=some d:=hd;rw[hd]at e;rw[hd,e];rfl
def bD.clHas (S:bD X scope N' src)(I:aK X pins σ H s){x:Str}(h:scope.names.lookup x=some .free):∃c,(closL X.env.cells scope.names []).lookup x=some c/\X.env.cells.lookup x=some c:=by have q:=xM (cells:=X.env.cells) (x:=x) scope.names [] (.inl (mW h));obtain⟨c,a⟩:=Option.isSome_iff_exists.mp q;exact⟨c,a,S.cl I a⟩
theorem bD.ok (S:bD X scope N' src)(I:aK X pins σ H s){g:List Addr}{C:Addr}(d:∀b∈g,fZ X pins H b)(f:∀b∈g,b<s.heap.objs.size)(i:s.heap.objs.size<=C):(blk X scope N' C s H g).Ok where
 mod:=I.mod
 kind:=S.kind
 glob:=I.ok.glob
 blt:=I.ok.blt
 above:=i
 inj:=λx y c r m=>I.ok.inj x y c (S.cl I r) (S.cl I m)
 has:=λx j=>by
  have q:scope.names.lookup x=some .free:=by
   rcases j with h|h
   ·exact lF S.cell h (.inl rfl)
   ·exact lF S.cell h (.inr rfl)
  obtain⟨c,l,_⟩:=S.clHas I q;exact⟨c,l⟩
 cab:=λx c h _=>by cases h
 hd:=I.ok.hd
 frames:=I.ok.frames
 stk:=.inl rfl
 exf:=λb a=>⟨bv (bh (f b a) i),λx c e=>(d b a).2.2.2.2.1 x c (S.cl I e)⟩
 bs:=I.bs
 bsz:=aq I.ok.bsz I.sz
 noex:=λb o e a=>by
  rcases(d b a).2.2.2.1 with z|z
  ·exact I.ok.noex b o e z
  ·exact absurd (bh (bf e) (aq I.ok.bsz z)) (cj _)
 exfs:=λb a z=>by
  rcases cz.mp (I.stkSub b z)with e|e
  ·exact(d b a).2.1 e
  ·exact(d b a).2.2.1 e
 funs:=I.stack
 frf:=I.stkFree
def bD.start (S:bD X scope N' src)(I:aK X pins σ H s){K:List Addr}{C:Addr}{h':Heap}{tk:Nat}{m:jD}{pl:eN}(R:∀b∈K,fZ X pins H b)(F:∀b∈K,b<s.heap.objs.size)(N:s.heap.objs.size<=C)
  (old:∀b o,s.heap.get? b=some o->h'.get? b=some o) (E:h'.Ns C m)
  (B:∀p∈pl,h'.get? p.1=some p.2/\s.heap.objs.size<=p.1/\p.1≠C/\∀v,p.2.data≠.cell v) :
  aK (blk X scope N' C s H K) pl (stC src σ) H {s with heap:=h',toks:=tk} where
 ok:=S.ok I R F N
 os:=rfl
 bare:=I.bare
 base:=Un.kept old
 loc:=by
  obtain⟨Y,Q,G⟩:=I.loc;refine⟨m,E,λj x v U f Z=>?_⟩;have f:(src.map λo=>o.bind λi=>(σ[i]?).join)[j]?=some (some v):=f;rw[cf]at f;cases e:src[j]? with
  | none=>rw[e]at f;cases f
  | some o =>
   rw[e]at f;cases o with
   | none=>cases f
   | some i =>
    have f:some ((σ[i]?).join)=some (some v):=f;obtain⟨W,L⟩:=qJ S.map e U;have O:σ[i]?=some (some v):=by
     cases q:σ[i]? with
     | none=>rw[q]at f;cases f
     | some w=>rw[q]at f;cases w with
      | none=>cases f
      | some w=>cases f;rfl
    have g:=S.free (x,.free) (mW L) rfl;obtain⟨u,r,l⟩:=G i x v W O (.inr g);refine⟨u,r,.inr ⟨lW L,?_⟩⟩;obtain⟨c,T,J⟩:=S.clHas I L;refine⟨c,T,?_⟩;rcases l with⟨k,_⟩|⟨_,c',A,h⟩
    ·have k:X.env.scope.names.lookup x=some .local:=k;have g:X.env.scope.names.lookup x=some .cell\/X.env.scope.names.lookup x=some .free:=g;rw[k]at g;rcases g with z|z <;> cases z
    ·rw[J]at A;cases A;obtain⟨o,ho,hd⟩:=h;exact⟨o,old _ _ ho,hd⟩
 cell:=λx c e=>by obtain⟨v,o,ho,hd⟩:=I.cell x c (S.cl I e);exact⟨v,o,old _ _ ho,hd⟩
 free:=I.hok.fresh N
 freeC:=λx c e=>I.freeC x c (S.cl I e)
 pin:=λp P=>by
  obtain⟨a,b,c,d⟩:=B p (by simpa [blk] using P);refine⟨a,I.hok.fresh b,c,λz=>?_,d⟩;rcases cz.mp (I.stkSub _ z)with e|e
  ·exact absurd (bh I.lt (by rw[<-e];exact b)) (cj _)
  ·exact I.nofs b e
 hok:=I.hok.kept old
 len:=by show(src.map _).length=N'.length;rw[af];exact qI S.map
noncomputable def x4 (ifs:vE)(env:Env):Sem Bool:=forIn ifs true λc (b:Bool)=>if b=true then isTrue c env (eval c env) >>= λb=>pure (.yield b)else pure (.yield b)
section
variable (M:Model)(A:en)(env:Env)(E:cE)
def Drawn (it:ef)(a:Expr)(stop go:ee->Prop)(s:ee):Prop :=
 wpAny M A (pyNext it) (λr t=>r.elim (stop t) λv=>wpAny M A (letOwnedTupleGo a it v) (λ_ t=>wpAny M A (assign a env v) (λ_=>go) E t) E t) E s
def FB (ifs:vE)(lay:Sem Unit)(a:ee->Prop)(s:ee):Prop :=
 wpAny M A (x4 ifs env) (λok t=>if ok=true then wpAny M A lay (λ_=>a) E t else a t) E s
end
noncomputable def sU (p:Pos)(it:ef)(a:Expr)(env:Env)(k:Sem PySem.Fin):Sem PySem.Fin:=standAt p >>= λ_=>pyNext it >>= λr=>match r with
 | none=>pure (.done .next)
 | some v=>letOwnedTupleGo a it v >>= λ_=>assign a env v >>= λ_=>k
noncomputable def layOn (ifs:vE)(lay:Sem Unit)(env:Env)(c:Code):Sem PySem.Fin:=x4 ifs env >>= λok=>if ok=true then lay >>= λ_=>again c else again c
noncomputable def y6 (a:Expr)(c:ef)(env:Env):Sem Unit:=eval a env >>= λx=>call (.builtin "list.append") [c,x] >>= λ_=>pure ()
def Drawn.mono {stop go a c:ee->Prop}(h:Drawn M A env E it tg stop go s)(e:∀t,stop t->a t)(d:∀t,go t->c t):Drawn M A env E it tg a c s :=
 thn h λr t q=>by
  cases r
  ·exact e t q
  ·exact thn q λ_ _ q=>thn q λ_ t q=>d t q
def Drawn.run {Q:PySem.Fin->ee->Prop}(h:Drawn M A env E it tg (Q (.done .next)) (λt=>wpAny M A k Q E t) s):wpAny M A (sU p it tg env k) Q E s:=by
 unfold sU;refine aa (wpAny_standAt (aa (thn h λr t q=>?_)));cases r
 ·exact ao q
 ·exact aa (thn q λ_ _ q=>aa q)
def FB.run {Q:PySem.Fin->ee->Prop}(h:FB M A env E ifs lay (Q (.again c)) s):wpAny M A (layOn ifs lay env c) Q E s:=by
 unfold layOn;refine aa (thn h λok t q=>?_);cases ok
 ·exact ao q
 ·exact aa (thn q λ_ _ q=>ao q)
def AM (a e iter:Expr)(ifs:vE)(scope:Scope)(d:Pos)(it c:ef)(env:Env) :
  compTurn (.ListComp a [⟨e,iter,ifs,0⟩] scope d) 0 it c env=sU iter.pos it e env (layOn ifs (y6 a c env) env (.compLoop (.ListComp a [⟨e,iter,ifs,0⟩] scope d) 0 it c env)):=rfl
section
variable {prog:eg}{w:eh}{A:en}{R:Result->ee->Prop}{s:ee}{tg ce:Expr}{d:Nat}{it acc:ef}{env:Env}{p:Pos}{k:Sem PySem.Fin}
abbrev XN (prog:eg)(w:eh)(A:en)(env:Env)(R:Result->ee->Prop):cE:=notedBy (model prog w) A env λx t=>R (.error x) t
inductive R6:Expr->Prop
 | lst (e gs sc p):R6 (.ListComp e gs sc p)
 | set (e gs sc p):R6 (.SetComp e gs sc p)
 | dct (k e gs sc p):R6 (.DictComp k e gs sc p)
def N9 (a:R6 ce){Q:PySem.Fin->ee->Prop}{E:cE}(h:wM prog w A (Sem.onRaise (compTurn ce d it acc env) λx=>noteFrame x env >>= λ_=>theTreesLotGoes x) Q E s):wpAny (model prog w) (A.under (.compLoop ce d it acc env)) ((model prog w).den (.compLoop ce d it acc env)) Q E s:=by cases a <;> exact h
def J1 (a:R6 ce){Q:PySem.Fin->ee->Prop}{E:cE}(h:wM prog w A (compStart ce d it acc env) Q (notedBy (model prog w) A env E) s):wpAny (model prog w) (A.under (.compStart ce d it acc env)) ((model prog w).den (.compStart ce d it acc env)) Q E s:=by cases a <;> exact wpAny_notedAt h
def EE (a:R6 ce)(e:compTurn ce d it acc env=sU p it tg env k)(I:Nat->ee->Prop)
  (turn:∀n s,I n s->Drawn (model prog w) A env (XN prog w A env R) it tg (R (.ok .next)) (λt=>wM prog w A k (λf t=>f = .again (.compLoop ce d it acc env)/\∃m,m<n/\I m t) (XN prog w A env R) t) s)
  (n:Nat) (h:I n s):codeAny (model prog w) A (.compLoop ce d it acc env) R s:=by
 apply codeAny_loop rfl I _ n h;intro n s i;have q:=turn n s i;apply N9 a;rw[e];apply wpAny_noted;apply Drawn.run;exact q.mono (λ_ z=>z) λt z=>thn z λf t ⟨c,m⟩=>by subst c;exact⟨rfl,m⟩
end
def SO (X:Cx)(ifs:vE)(t:TT):Prop :=
 ∀(a:eN) (s:ee) (σ:St) (H:Hp) (Q:Bool->Hp->Prop),aK X a σ H s->t σ H Q->wX X (x4 ifs X.env) (TP X a σ Q) X.xe s
def tYes:TT:=λ_ H Q=>Q true H
def cU:SO X [] tYes:=λ_ _ _ H _ I h=>wpAny_tests_nil ⟨H,I,h⟩
def sC (h:PT X c t):SO X [c] t:=λa s d H Q I q=>wpAny_tests_one (h a s d H Q I q)
abbrev V0 (β:Type):=Nat->Nat->β->St->Hp->Prop
abbrev CW:=V0 (List V)
structure CU (Y:Cx)(tg:Expr)(J:It)(fp:List Addr)(it:Addr)(tn:O3):Prop where
 obj:∀i h,tn i h->∀b∈fp,∃o,h.get? b=some o/\∀v,o.data≠.cell v
 keep:∀i h h',tn i h->(∀b∈fp,∀o,h.get? b=some o->h'.get? b=some o)->tn i h'
 item:∀(i:Nat) (pins:eN) (s:ee) (σ:St) (H:Hp) (E:cE),aK Y pins σ H s->(∀b∈fp,fZ Y pins H b)->tn i s.heap->J.go i H ->
  wX Y (pyNext (.ref it)) (λr s1=>∃u,r=some u /\
   wX Y (letOwnedTupleGo tg (.ref it) u) (λ_ s2=>∃x H',aK Y pins σ H' s2/\aQ x u/\J.yld i H x H'/\tn (i+1) s2.heap/\∀b∈fp,H' b=none) E s1) E s
 done:∀(i:Nat) (pins:eN) (s:ee) (σ:St) (H:Hp) (E:cE),aK Y pins σ H s->(∀b∈fp,fZ Y pins H b)->tn i s.heap->J.stop i H ->
  wX Y (pyNext (.ref it)) (λr s1=>r=none/\aK Y pins σ H s1) E s
 self:∀(A:en) (i:Nat) (s:ee) (Q:cE) (E:cE),tn i s.heap->Q (.ref it) s->wpAny (model Y.prog Y.w) A (pyIter (.ref it)) Q E s
def qC.y {a:O3}(T:qC Y.prog Y.w Y.K tg J fp it a)(c:Y.calm=true):CU Y tg J fp it a :=
 ⟨T.obj,T.keep,T.item Y rfl rfl rfl c,T.done Y rfl rfl rfl c,T.self⟩
def VN {c:Type}(F:Heap->Addr->c->Prop):Prop:=∀h a x,F h a x->∃o,h.get? a=some o/\(∀v,o.data≠.cell v)/\∀h':Heap,h'.get? a=some o->F h' a x
def R1 (h:Heap)(a:Addr)(c:List V):Prop:=c.length<=sizeLine/\∃items,h.PlainList a items/\aO c items.toList
def wW:VN R1:=λ_ _ _ ⟨l,it,⟨n,e⟩,r⟩=>⟨_,e,(λ_ z=>nomatch z),λ_ a=>⟨l,it,⟨n,a⟩,r⟩⟩
section
variable {β:Type}{F:Heap->Addr->β->Prop}{Y:Cx}{pins:eN}{D it:Addr}{fp:List Addr}{tn:O3}{J:It}{W:V0 β}{Fin:β->St->Hp->Prop}{R:Result->ee->Prop}{tg:Expr}{g:TG}{Nx:Nat->Nat->β->St->Hp->Prop}
def KK (F:Heap->Addr->β->Prop)(Y:Cx)(a:eN)(D:Addr)(f:List Addr)(e:O3)(W:V0 β)(n:Nat)(s:ee):Prop :=
 ∃i d H c,aK Y a d H s/\e i s.heap/\(∀b∈f,H b=none)/\H D=none/\F s.heap D c/\W i n c d H
structure W9 (F:Heap->Addr->β->Prop)(Y:Cx)(D:Addr)(fp:List Addr)(tn:O3)(i:Nat)(acc:β)(more:eN)(o:Obj):Prop where
 fill:∀h:Heap,h.get? D=some o->F h D acc
 own:∀p∈more,p.1∈fp
 back:∀{pl:eN} {σ:St} {H:Hp} {s:ee},(∀p∈more,p∈pl)->aK Y pl σ H s->tn i s.heap/\∀b∈fp,H b=none
structure rM (Y:Cx)(pins:eN)(D:Addr)(fp:List Addr):Prop where
 off:D∉fp
 list:∀H:Hp,H D=none->fZ Y pins H D
 iter:∀H:Hp,(∀b∈fp,H b=none)->∀b∈fp,fZ Y pins H b
def TQ:a∈pn++(pins++a::more):=by simp
theorem rM.pin {c:St}{H:Hp}{s:ee}{o:Obj}(P:rM Y pins D fp)(I:aK Y pins c H s)(e:H D=none)(ho:s.heap.get? D=some o)(d:∀v,o.data≠.cell v):aK Y (pins++[(D,o)]) c H s:=by
 refine I.pins_of λp a=>?_;simp only[c4,cy]at a;rcases a with a|rfl
 ·exact I.pin p (ca _ a)
 ·have f:=P.list H e;exact⟨ho,f.1,f.2.1,f.2.2.1,d⟩
def rM.more (P:rM Y pins D fp)(H:Hp)(d:∀b∈fp,H b=none)(b:Addr)(c:b∈fp):fZ Y (pins++[(D,o)]) H b:=by
 have f:=P.iter H d b c;refine⟨f.1,f.2.1,f.2.2.1,f.2.2.2.1,f.2.2.2.2.1,λp a z=>?_⟩;rw[<-cu,c4,cy]at a;rcases a with a|rfl
 ·exact f.2.2.2.2.2 p a z
 ·exact P.off (show D∈fp from(show D=b from z) ▸ c)
def EA {more:eN}{o:Obj}{a:St}{H:Hp}{s:ee}(I:aK Y (pins++(D,o)::more) a H s):H D=none/\s.heap.get? D=some o/\aK Y pins a H s:=by have q:=I.pin (D,o) TQ;exact⟨q.2.1,q.1,I.pins_of λp c=>I.pin p (by simp[c])⟩
def J0 (hF:VN F)(hx:∀e s,¬Y.xe e s)(T:CU Y tg J fp it tn)(P:rM Y pins D fp)(hg:PG Y tg g)
  (turn:∀i m a c H,W i m a c H->(J.stop i H/\Fin a c H)\/(J.go i H/\∀x H',J.yld i H x H'->g x c H' (Nx i m a)))
  (hR:∀s c H a,aK Y pins c H s->H D=none->F s.heap D a->Fin a c H->R (.ok .next) s)
  (n:Nat) (s:ee) (B:KK F Y pins D fp tn W n s) {E:cE} :
  Drawn (model Y.prog Y.w) Y.A Y.env E (.ref it) tg (R (.ok .next))
   (λt=>∃i a o more c H,W9 F Y D fp tn (i+1) a more o/\aK Y (pins++(D,o)::more) c H t/\Nx i n a c H) s:=by
 obtain⟨i,c,H,a,I,st,fr,fD,Q,w⟩:=B;obtain⟨o,ho,G,h⟩:=hF _ _ _ Q;have Ip:=P.pin I fD ho G;rcases turn i n a c H w with⟨stop,fin⟩|⟨go,step⟩
 ·refine thn (T.done i _ s c H _ Ip (P.more H fr) st stop) λr t ⟨C,It⟩=>?_;subst C;obtain⟨l1,Z,X⟩:=EA It;exact hR t c H a X l1 (h _ Z) fin
 ·refine thn (T.item i _ s c H _ Ip (P.more H fr) st go) λr t ⟨u,C,q⟩=>?_;subst C;refine thn q λ_ t1 ⟨x,L,I1,r1,O,d,K⟩=>?_;have I1p:=I1.pinned (P.more L K) (T.obj _ _ d);rw[cu]at I1p;refine wpAny_mono (hg _ t1 c L x u _ I1p r1 (step x L O)) (λ_ t2 ⟨l,H2,I2,U⟩=>?_) λe t z=>(hx e t z).elim;refine⟨i,a,o,tK fp t1.heap,l,H2,⟨h,λp hp=>(wP hp).1,λ{pl N H3 S} v I3=>?_⟩,I2,U⟩;have j:∀b∈fp,∀o,t1.heap.get? b=some o->S.heap.get? b=some o/\H3 b=none:=λb f o e=>by have z:=I3.pin (b,o) (ca _ (v _ (oT f e)));exact⟨z.1,z.2.1⟩
  refine⟨T.keep _ _ _ d λb f o e=>(j b f o e).1,λb f=>?_⟩;obtain⟨o,e,_⟩:=T.obj _ _ d b f;exact(j b f o e).2
def VP (F:Heap->Addr->β->Prop)(Y:Cx)(D:Addr)(lay:Sem Unit)(q:St->Hp->(β->Hp->Prop)->Prop)(e:β):Prop :=
 ∀(E:cE) (pl:eN) (o:Obj) (σ:St) (H:Hp) (t:ee) (N:β->Hp->Prop),aK Y pl σ H t->(D,o)∈pl->(∀h:Heap,h.get? D=some o->F h D e)->q σ H N ->
  wX Y lay (λ_ t3=>∃c d tk f a,t3={c with heap:=d,toks:=tk}/\aK Y pl σ f c/\Heap.SameBut D c.heap d/\F d D a/\N a f) E t
def NL {ifs:vE}{lay:Sem Unit}{L:TT}{tl:St->Hp->(β->Hp->Prop)->Prop}{i n:Nat}{d:β}{more:eN}{o:Obj}{c:St}{H:Hp}{t:ee}{E:cE}(Z:∀e s,¬Y.xe e s)(P:rM Y pins D fp)(T:CU Y tg J fp it tn)(ht:SO Y ifs L)(hl:VP F Y D lay tl d)
  (B:W9 F Y D fp tn (i+1) d more o) (I:aK Y (pins++(D,o)::more) c H t)
  (q:L c H λb Q=>if b=true then tl c Q λa H4=>∃g,g<n/\W (i+1) g a c H4 else ∃g,g<n/\W (i+1) g d c Q) :
  FB (model Y.prog Y.w) Y.A Y.env E ifs lay (λt=>∃m,m<n/\KK F Y pins D fp tn W m t) t:=by
 refine wpAny_mono (ht _ t c H _ I q) (λok t1 ⟨S,K,j⟩=>?_) λe t z=>(Z e t z).elim;cases ok
 ·rw[ab Bool.false_ne_true]at j|-;obtain⟨m,hm,w⟩:=j;obtain⟨G,C⟩:=B.back (λp u=>by simp[u]) K;obtain⟨l,N,r⟩:=EA K;exact⟨m,hm,i+1,c,S,d,r,G,C,l,B.fill _ N,w⟩
 ·rw[aj rfl]at j|-;refine thn (hl _ _ o c S t1 _ K dV B.fill j) λ_ t3 ⟨U,h3,tk,R,h,e3,O,X,f3,m,hm,w⟩=>?_;subst e3;obtain⟨G,C⟩:=B.back (λp u=>by simp[u]) O;obtain⟨l,N,r⟩:=EA O;have f:=P.list R l;have far:∀b o,b≠D->U.heap.get? b=some o->h3.get? b=some o:=λb o v e=>X.extBut b o v e;exact⟨m,hm,i+1,c,R,h,r.turned (t':=tk) far f.1 f.2.1 f.2.2.2.1 f.2.2.2.2.1 f.2.2.2.2.2,T.keep _ _ _ G λb v o e=>far b o (λz=>P.off (z ▸ v)) e,C,l,f3,w⟩
def FB.go {E:cE}(h:FB (model Y.prog Y.w) Y.A Y.env E ifs lay (λt=>∃m,m<n/\KK F Y pins D fp tn W m t) t) :
  wX Y (layOn ifs lay Y.env c) (λf t=>f = .again c/\∃m,m<n/\KK F Y pins D fp tn W m t) E t :=
 FB.run (thn h λok t q=>by
  cases ok
  ·exact⟨rfl,q⟩
  ·exact thn q λ_ _ q=>⟨rfl,q⟩)
end
def tlLst (d:TE)(a:List V):St->Hp->(List V->Hp->Prop)->Prop:=λc H N=>d c H λy e=>a.length<sizeLine/\N (a++[y]) e
def BV (r:∀e s,¬Y.xe e s)(v:PE Y elt te):VP R1 Y D (y6 elt (.ref D) Y.env) (tlLst te acc) acc:=by
 intro E pl o g H t N I hm u q;refine aa (wpAny_mono (v _ t g H _ I q) (λy c ⟨h,B,f,j,hl,w⟩=>?_) λe t z=>(r e t z).elim);obtain⟨hz,items,m,d⟩:=u _ (f.pin (D,o) (ca _ hm)).1;have a:items.size<=sizeLine:=by rw[<-bw,<-d.length];exact hz
 refine aa (wpAny_list_append_plain (hsz:=a) m λA l i=>ao ⟨c,A,c.toks,B,acc++[h],rfl,f,i,⟨?_,items.push y,l,?_⟩,w⟩)
 ·rw[au];exact hl
 ·rw[Array.toList_push];exact d.append (.cons j .nil)
def SV (J:It)(g:TG)(h:TT)(j:TE)(Fin:List V->Hp->Prop)(W:CW):Prop:=∀i m a e H,W i m a e H ->
 (J.stop i H/\Fin a H) \/
 (J.go i H/\∀x H',J.yld i H x H'->g x e H' λc o=>h c o λb f =>
  if b=true then j c f λy l=>a.length<sizeLine/\∃d,d<m/\W (i+1) d (a++[y]) c l else ∃d,d<m/\W (i+1) d a c f)
def tComp (src:List (Option Nat))(d:TI)(g:TG)(e:TT)(f:TE):TE:=λc H Q=>d c H λJ h=>∃W:CW,(∃m,W 0 m [] (stC src c) h)/\SV J g e f (λa H=>∀p,H p=none->Q (.ref p) (upd H p (.lst a))) W
section
variable {prog:eg}{w:eh}{A:en}{ce:Expr}{c:Comprehension}{rest:List Comprehension}
def CG (f:R6 ce)(d:clausesOf ce=c::rest)(g:c.is_async=0){R:Result->ee->Prop}(i:codeAny (model prog w) A (.compLoop ce 0 it acc env) R s)
  (h:wM prog w A (pyIter it) (λa e=>codeAny (model prog w) A (.compLoop ce 0 a acc env) R e) (XN prog w A env R) s) :
  codeAny (model prog w) A (.compStart ce 0 it acc env) R s:=by
 apply codeAny_of_tree;apply J1 f;obtain⟨j,iter,ifs,_⟩:=c;cases g;unfold compStart;rw[d];change wpAny _ _ (ask >>= _) _ _ s;apply aa;apply wpAny_askSetting;by_cases b:(⟨(model prog w).prog,(model prog w).w.params⟩:Setting).params.followText "comprehension-iter-twice" = true
 ·rw[aj b];exact ao ⟨rfl,i⟩
 ·rw[ab b];refine aa (wpAny_rule ?_);change wpAny _ _ (standAt iter.pos >>= _) _ _ s;exact aa (wpAny_standAt (aa (thn h λa e z=>ao ⟨rfl,z⟩)))
def OY {a:Type}(F:Heap->Addr->a->Prop)(c:a)(prog:eg)(w:eh)(A:en)(mk:Sem ef):Prop :=
 ∀(Q:cE) (E:cE) (s:ee),(∀o:Obj,o.isFreed=false->(∀h:Heap,h.get? s.heap.objs.size=some o->F h s.heap.objs.size c)->Q (.ref s.heap.objs.size) {s with heap:=s.heap.push o})->wM prog w A mk Q E s
def wU:OY R1 [] prog w A (newList []):=λ_ _ _ q=>cm (q _ rfl λ_ e=>⟨aw _,#[],⟨_,e⟩,.nil⟩)
end
section
variable {β:Type}{F:Heap->Addr->β->Prop}{e0:β}{mk:Sem ef}{ce:Expr}{cls:List Comprehension}{ob:HO}
variable {X:Cx}{scope:Scope}{N':bA}{src:List (Option Nat)}{pins:eN}{σ:St}{H₂:Hp}{s₂:ee}{fp:List Addr}{it:Addr}{tn:O3}{J:It}{tg iter:Expr}{ifs:vE}
def RS {pl:eN}{g:St}{H':Hp}{h:ee}{C D:Addr}(A:aK X pins σ H₂ s₂)(m:∀b∈fp,fZ X pins H₂ b)
  (f:aK (blk X scope N' C s₂ H₂ fp) pl g H' h) (r:s₂.heap.objs.size<=D) (j:H' D=none) (ok:cD X.prog X.w (upd H' D ob) h.heap D ob):aK X pins σ (upd H' D ob) h:=by
 have u:=f.base;have i:∀b o,s₂.heap.get? b=some o->b≠D:=λb o e=>bv (bh (bf e) r);have a:∀b o,H' b=some o->b≠D:=λb o e z=>by rw[z,j]at e;cases e
 refine A.call' (ch:=fp) f.os ⟨u.keep,u.slot,λb o e n l=>?_,u.there,λb xs e=>?_,λb o xs e=>?_,λb ps e=>?_⟩ (λb o e=>?_) f.bare λb d=>?_
 ·rw[bG (i b o e)];exact u.free b o e n l
 ·have q:=u.tups b xs e;rw[bG (a b _ q)];exact q
 ·have q:=u.frzs b o xs e;rw[bG (a b _ q)];exact q
 ·obtain⟨more,q⟩:=u.tbls b ps e;exact⟨more,upk (a b _ q) q⟩
 ·by_cases d:b=D
  ·subst d;rw[ew]at e;cases e;exact ok
  ·rw[bG d]at e;exact(f.hok b o e).stay (λ_ _ _ q=>q) (λc q=>upk (a c _ q) q) λc xs q=>upk (a c _ q) q
 ·obtain⟨f0,f1,f2,f3,f4,v⟩:=m b d;exact⟨f3,f1,f4,v⟩
def GO:R1 h a acc->cD P w H h a (.lst acc):=λ⟨hz,items,⟨n,ho⟩,r⟩=>⟨hz,items.toList,n,r,by simpa using ho⟩
structure HY (F:Heap->Addr->β->Prop)(e0:β)(X:Cx)(scope:Scope)(N':bA)(src:List (Option Nat))(s₂:ee)(H₂:Hp)(σ:St)(fp:List Addr)(tn:O3)(D C:Addr)(t:ee):Prop where
 at_:s₂.heap.objs.size=D
 le:s₂.heap.objs.size<=C
 ne:D≠C
 place:rM (blk X scope N' C s₂ H₂ fp) [] D fp
 betw:∀W:V0 β,(∃m,W 0 m e0 (stC src σ) H₂)->∃m,KK F (blk X scope N' C s₂ H₂ fp) [] D fp tn W m t
def KS {h h':Heap}{o a:Obj}(ho:o.isFreed=false)(c:Heap.SameBut (h.push o).objs.size ((h.push o).push a) h'):(∀b x,h.get? b=some x->h'.get? b=some x)/\h'.get? h.objs.size=some o:=by have key:∀b x,(h.push o).get? b=some x->h'.get? b=some x:=λb x e=>c.extBut b x (bv (bf e)) (ag a e);exact⟨λb x e=>key b x (ag o e),key _ _ (av h ho)⟩
def CN {RR:ef->Addr->Result->ee->Prop}{E:cE}(v:OY F e0 X.prog X.w X.A mk)(N:R6 ce)(G:clausesOf ce=⟨tg,iter,ifs,0⟩::cls)(S:bD X scope N' src)(h:aK X pins σ H₂ s₂)(T:∀C,CU (blk X scope N' C s₂ H₂ fp) tg J fp it tn)(l:tn 0 s₂.heap)(B:∀b∈fp,fZ X pins H₂ b)
  (k:∀D C t,HY F e0 X scope N' src s₂ H₂ σ fp tn D C t->codeAny (model X.prog X.w) X.A (.compLoop ce 0 (.ref it) (.ref D) (blk X scope N' C s₂ H₂ fp).env) (RR (.ref D) C) t) :
  wX X mk (λr j=>wX X (newFunctionEnv scope X.env.globals (closL X.env.cells scope.names []) [] X.env.qual none .none (some X.env)) (λg i =>
   codeAny (model X.prog X.w) X.A (.compStart ce 0 (.ref it) r {g with scope:=relabel scope X.env}) (RR r g.locals) i) E j) E s₂:=by
 refine v _ _ _ λo of L=>?_;refine wpAny_newFunctionEnv S.cell (λ_ z=>nomatch z) (λd ns K=>?_) S.kind;obtain⟨old,new⟩:=KS of K;have sz:(s₂.heap.push o).objs.size=s₂.heap.objs.size+1:=Heap.size_push ..;dsimp only at ns old new|-;rw[sz]at ns|-;have lt:∀b∈fp,b<s₂.heap.objs.size:=λb a=>let⟨_,e,_⟩:=(T 0).obj 0 _ l b a;bf e;have q:tn 0 d:=(T 0).keep _ _ _ l λb _ o e=>old b o e;have off:s₂.heap.objs.size∉fp:=λz=>cj _ (lt _ z);have I:=S.start (tk:=s₂.toks+([]:List (Str×ef)).length) (pl:=[]) h B lt (Nat.le_succ _) old ns (λ_ z=>nomatch z);have pl:rM (blk X scope N' (s₂.heap.objs.size+1) s₂ H₂ fp) [] s₂.heap.objs.size fp:=by
  refine⟨off,λH u=>?_,λH u b a=>?_⟩
  ·have f:=h.fpOk (ac _) u;refine⟨u,bv (Nat.lt_succ_self _),λz=>?_,.inr (ac _),λx c e=>f.2.2.2.2.1 x c (S.cl h e),λ_ z=>nomatch z⟩;exact(cz.mp (h.stkSub _ z)).elim f.2.1 f.2.2.1
  ·exact⟨u b a,bv (Nat.lt_succ_of_lt (lt b a)),I.ok.exfs b a,.inl a,λx c e=>(B b a).2.2.2.2.1 x c (S.cl h e),λ_ z=>nomatch z⟩
 have O:HY F e0 X scope N' src s₂ H₂ σ fp tn s₂.heap.objs.size (s₂.heap.objs.size+1) {s₂ with heap:=d,toks:=s₂.toks+([]:List (Str×ef)).length} :=
  ⟨rfl,Nat.le_succ _,bv (Nat.lt_succ_self _),pl,λW ⟨m,w⟩=>⟨m,0,_,H₂,e0,I,q,λb a=>(B b a).1,h.hok.fresh (ac _),L _ new,w⟩⟩
 have go:=k _ _ _ O;exact CG N G rfl go ((T 0).self _ 0 _ _ _ q go)
def HY.out {D C:Addr}{t s:ee}{H':Hp}{a:St}(B:HY F e0 X scope N' src s₂ H₂ σ fp tn D C t)(e:aK X pins σ H₂ s₂)(c:∀b∈fp,fZ X pins H₂ b)(I:aK (blk X scope N' C s₂ H₂ fp) [] a H' s)(d:H' D=none)(ok:cD X.prog X.w (upd H' D ob) s.heap D ob) :
  H' C=none/\(∃m,s.heap.Ns C m)/\aK X pins σ (upd H' D ob) s :=
 ⟨I.free,⟨_,I.loc.choose_spec.1⟩,RS e c I (Nat.le_of_eq B.at_) d ok⟩
variable {elt:Expr}{pos:Pos}{g:TG}{tt:TT}{te:TE}{tl:β->St->Hp->(β->Hp->Prop)->Prop}
def VT (J:It)(g:TG)(j:TT)(tl:β->St->Hp->(β->Hp->Prop)->Prop)(Fin:β->Hp->Prop)(W:V0 β):Prop:=∀i m d f H,W i m d f H ->
 (J.stop i H/\Fin d H) \/
 (J.go i H/\∀x H',J.yld i H x H'->g x f H' λc o=>j c o λb h =>
  if b=true then tl d c h λa l=>∃e,e<m/\W (i+1) e a c l else ∃e,e<m/\W (i+1) e d c h)
def uL {W:V0 β}{Fin:β->Hp->Prop}{RR:ef->Addr->Result->ee->Prop}{E:cE}{lay:ef->Env->Sem Unit}{obj:Addr->β->HO}{ps:Pos}(hF:VN F)(q:OY F e0 X.prog X.w X.A mk)(v:R6 ce)(r:clausesOf ce=⟨tg,iter,ifs,0⟩::cls)(hb:∀it a env,compTurn ce 0 it a env=sU ps it tg env (layOn ifs (lay a env) env (.compLoop ce 0 it a env)))(hok:∀H h D a,F h D a->cD X.prog X.w H h D (obj D a))
  (S:bD X scope N' src) (L:aK X pins σ H₂ s₂) (T:∀C,CU (blk X scope N' C s₂ H₂ fp) tg J fp it tn) (f:tn 0 s₂.heap) (G:∀b∈fp,fZ X pins H₂ b)
  (hg:∀C,PG (blk X scope N' C s₂ H₂ fp) tg g) (ht:∀C,SO (blk X scope N' C s₂ H₂ fp) ifs tt) (hl:∀C D a,VP F (blk X scope N' C s₂ H₂ fp) D (lay (.ref D) (blk X scope N' C s₂ H₂ fp).env) (tl a) a)
  (P:∃m,W 0 m e0 (stC src σ) H₂) (turn:VT J g tt tl Fin W)
  (u:∀D C j H' a,s₂.heap.objs.size<=C->H' C=none->D≠C->(∃m,j.heap.Ns C m)->aK X pins σ (upd H' D (obj D a)) j->H' D=none->Fin a H'->RR (.ref D) C (.ok .next) j) :
  wX X mk (λa e=>wX X (newFunctionEnv scope X.env.globals (closL X.env.cells scope.names []) [] X.env.qual none .none (some X.env)) (λc d =>
   codeAny (model X.prog X.w) X.A (.compStart ce 0 (.ref it) a {c with scope:=relabel scope X.env}) (RR a c.locals) d) E e) E s₂:=by
 refine CN q v r S L T f G λD C t B=>?_;obtain⟨m,b⟩:=B.betw W P;refine EE v (hb ..) (KK F (blk X scope N' C s₂ H₂ fp) [] D fp tn W) (λn s b=>?_) m b;refine(J0 (Y:=blk X scope N' C s₂ H₂ fp) hF (λ_ _ z=>z) (T C) B.place (hg C) turn (λs N H a I K hp fin=>?_) n s b).mono (λ_ z=>z) ?_
 ·obtain⟨Z,U,R⟩:=B.out L G I K (hok _ _ _ _ hp);exact u D C s H a B.le Z B.ne U R K fin
 ·rintro t ⟨i,a,o,more,O,H3,l,I3,Q⟩;exact FB.go (NL (W:=W) (λ_ _ z=>z) B.place (T C) (ht C) (hl C D a) l I3 Q)
def N4 {Q:VK}{D C:Addr}{a:ee}{H':Hp}(r:aK X pins σ H₂ s₂)(l:s₂.heap.objs.size<=C)(h:H' C=none)(g:D≠C)(d:∃m,a.heap.Ns C m)(u:aK X pins σ (upd H' D ob) a)(q:Q (.ref D) (upd H' D ob)) :
  compPost (model X.prog X.w) X.A X.xe none (EP X pins σ Q) (.ref D) C (.ok .next) a:=by
 obtain⟨m,i⟩:=d;have f:=r.fpOk (H':=upd H' D ob) l (upk (Ne.symm g) h);exact⟨m,i,λh' c=>⟨.ref D,_,u.turned (t':=a.toks) (λb o j e=>c.extBut b o j e) f.1 f.2.1 f.2.2.2.1 f.2.2.2.2.1 f.2.2.2.2.2,rfl,q⟩⟩
def N5 {u:jA}{D C:Addr}{c:ee}{H':Hp}{i:Nat}{y:Str}{E:Pos}(I:X.N.Nodup)(h:X.N[i]?=some y)(r:X.env.scope.names.lookup y=some .local)(K:aK X pins σ H₂ s₂)(J:s₂.heap.objs.size<=C)(l:H' C=none)(j:D≠C)(g:∃m,c.heap.Ns C m)(L:aK X pins σ (upd H' D ob) c)(q:u.nx (σ.set i (some (.ref D))) (upd H' D ob)) :
  compPost (model X.prog X.w) X.A X.xe (some (assign (.Name y E) X.env)) (λ_ c=>SP X pins u .next c) (.ref D) C (.ok .next) c:=by
 obtain⟨m,F⟩:=g;have f:=K.fpOk (H':=upd H' D ob) J (upk (Ne.symm j) l);refine wpAny_assign_Name (wC L I h (.inl r) (v:=.ref D) rfl (λt It ⟨a,B,H⟩=>?_) (.inr r));have ne:C≠a:=H.elim (λe=>e ▸ f.2.1) λe z=>f.2.2.2.2.1 y a e z.symm;exact⟨m,F.sameBut B ne,λh' d=>⟨_,_,It.turned (t':=t.toks) (λb o G e=>d.extBut b o G e) f.1 f.2.1 f.2.2.2.1 f.2.2.2.2.1 f.2.2.2.2.2,q⟩⟩
def IB {Q:Flow->ee->Prop}(a:swapsWith (.ListComp elt gens scope pos) (some (.Name y py)) spos.line X.env=pure true)
  (h:wX X (comprehension (.ListComp elt gens scope pos) scope X.env (firstIterPos gens pos) (newList []) (firstAsync gens) (firstIter gens X.env) (some (assign (.Name y py) X.env))) (λ_=>Q .next) X.xe s) :
  wX X (exec (.Assign [.Name y py] (.ListComp elt gens scope pos) spos) X.env) Q X.xe s:=by
 have u:wX X (evalThenUse (.ListComp elt gens scope pos) X.env (assign (.Name y py) X.env)) (λ_=>Q .next) X.xe s:=aa (thn h λ_ _ q=>ao q);exact(exec_Assign_Name_used y py _ spos a) ▸ aa (wpAny_standAt (aa (thn u λ_ _ q=>ao q)))
def xJ {m:TI}{use:Option (ef->Sem Unit)}{Q:cE}{s:ee}{H:Hp}{K:It->Hp->Prop}{ps:Pos}(l:clausesOf ce=⟨tg,iter,ifs,0⟩::cls)(S:bD X scope N' src)(r:PI X tg iter m)(o:∀x,foldedSetIterable iter X.env x=pure x)(I:aK X pins σ H s)(h:m σ H K)
  (k:∀a H₂ it j i J,aK X pins σ H₂ a->qC X.prog X.w X.K tg J j it i->i 0 a.heap->(∀b∈j,fZ X pins H₂ b)->K J H₂ ->
   wX X mk (λg e=>wX X (newFunctionEnv scope X.env.globals (closL X.env.cells scope.names []) [] X.env.qual none .none (some X.env)) (λc d =>
    codeAny (model X.prog X.w) X.A (.compStart ce 0 (.ref it) g {c with scope:=relabel scope X.env}) (compPost (model X.prog X.w) X.A X.xe use Q g c.locals) d) X.xe e) X.xe a) :
  wX X (comprehension ce scope X.env ps mk false (eval iter X.env) use) Q X.xe s:=by
 refine wpAny_comprehension_free l o (vO (S.cells I)) S.kind S.names (thn (r pins s σ H K I h) λ_ _ q=>thn q ?_);rintro _ a ⟨it,j,i,J,H₂,rfl,u,T,st,f,q⟩;exact k a H₂ it j i J u T st f q
def P9 (u:X.calm=true)(S:bD X scope N' src)(o:PI X tg iter wi)(q:∀C s H c,PG (blk X scope N' C s H c) tg g)(l:∀C s H c,SO (blk X scope N' C s H c) ifs tt)(r:∀C s H c,PE (blk X scope N' C s H c) elt te)
  (m:∀x,foldedSetIterable iter X.env x=pure x:=by intro _;rfl):PE X (.ListComp elt [⟨tg,iter,ifs,0⟩] scope pos) (tComp src wi g tt te):=by
 intro e s G H Q I h;rw[eval_ListComp];refine xJ rfl S o m I h λa H₂ it c K J i T st f ⟨W,j,turn⟩=>?_;exact uL (lay:=y6 elt) (tl:=tlLst te) (obj:=λ_=>.lst) wW wU (.lst ..) rfl (AM elt tg iter ifs scope pos) (λ_ _ _ _=>GO) S i (λC=>qC.y (Y:=blk X scope N' C a H₂ c) T u) st f (λC=>q C a H₂ c) (λC=>l C a H₂ c) (λC D d=>BV (λ_ _ z=>z) (r C a H₂ c)) j turn λD C L H' d F E B A w v fin=>N4 i F E B A w (fin D v)
def PX (E:X.N.Nodup)(e:X.N[i]?=some y)(q:X.env.scope.names.lookup y=some .local)(d:swapsWith (.ListComp elt [⟨tg,iter,ifs,0⟩] scope pos) (some (.Name y py)) spos.line X.env=pure true)
  (B:X.calm=true) (S:bD X scope N' src) (v:PI X tg iter wi) (w:∀C s H c,PG (blk X scope N' C s H c) tg g) (r:∀C s H c,SO (blk X scope N' C s H c) ifs tt) (A:∀C s H c,PE (blk X scope N' C s H c) elt te)
  (u:∀x,foldedSetIterable iter X.env x=pure x:=by intro _;rfl):PS X (.Assign [.Name y py] (.ListComp elt [⟨tg,iter,ifs,0⟩] scope pos) spos) (tAsg (tComp src wi g tt te) (gName i)):=by
 intro l s Q H D I h;refine IB d ?_;refine xJ rfl S v u I h λa H₂ it c R J m T st f ⟨W,o,turn⟩=>?_;exact uL (lay:=y6 elt) (tl:=tlLst te) (obj:=λ_=>.lst) wW wU (.lst ..) rfl (AM elt tg iter ifs scope pos) (λ_ _ _ _=>GO) S m (λC=>qC.y (Y:=blk X scope N' C a H₂ c) T B) st f (λC=>w C a H₂ c) (λC=>r C a H₂ c) (λC D j=>BV (λ_ _ z=>z) (A C a H₂ c)) o turn λD C U H' j P O L K G F fin=>N5 E e q m P O L K G (fin D F)
end
noncomputable def yX:bA->Bool
 | []=>true
 | x::r=>!r.contains x && yX r
def wR:∀{l:bA},yX l=true->l.Nodup
 | [],_=>List.nodup_nil
 | x::r,h=>by simp only[yX,Bool.and_eq_true,Bool.not_eq_true',List.contains_eq_mem,decide_eq_false_iff_not]at h;exact dc.mpr ⟨h.1,wR h.2⟩
noncomputable def compB (N:bA)(names:List (Str×NameKind))(scope:Scope)(a:bA)(src:List (Option Nat)):Bool :=
 decide (scope.kind = .function) && scope.names.all (λy=>decide (y.2≠.cell)) && scope.names.all (λy=>decide (y.2≠.local) || decide (scope.names.lookup y.1=some .local)) &&
 scope.names.all (λy=>decide (y.2≠.free) || (decide (names.lookup y.1=some .cell) || decide (names.lookup y.1=some .free))) && yX a && srcOk N scope.names src a
theorem bD.by {X:Cx}{N:bA}{names:List (Str×NameKind)}{scope:Scope}{d:bA}{src:List (Option Nat)}(h:compB N names scope d src=true)(e:X.N=N)(f:X.env.scope.names=names):bD X scope d src:=by subst e f;simp only[compB,Bool.and_eq_true,List.all_eq_true,Bool.or_eq_true,decide_eq_true_eq]at h;obtain⟨⟨⟨⟨⟨o,m⟩,l⟩,j⟩,i⟩,g⟩:=h;exact⟨o,m,λy a c=>(l y a).resolve_left λz=>z c,λy a c=>(j y a).resolve_left λz=>z c,wR i,g⟩
def RZ (P:eg)(w:eh)(K:d6)(mg:jD)(base:Heap)(CX:KJ)(k:Nat)(x:Str)(a:Sp):Prop :=
 ∃f fd ps,hZ P w K mg base CX k f fd ps a/\mg x=some (.ref f)/\PySem.W.keepIn K (.ref f)=true/\eH K fd ps []
abbrev Ow (P:eg)(w:eh)(K:d6)(mg:jD)(base:Heap)(k:Nat)(x:Str)(sp:Sp):Prop:=RZ P w K mg base lY k x sp
def d9 (O:RZ X.prog X.w X.K X.mg X.base CX k x sp)(g:eG k X.A)(d:j0 CX X E)(i:Gl X x)(m:PA X (e::es) t)(c:(x == ("__debug__" : Str))=false:=by decide)
  (j:starEach (e::es) X.env=(false,eval e X.env)::starEach es X.env:=by rfl) (a:(backTo pos (starEach es X.env)).any (·.1)=false:=by rfl):PE X (.Call (.Name x p) (e::es) [] pos) (tCall sp [] E t):=by
 obtain⟨f,fd,ps,F,hm,h,l⟩:=O;exact QA F g i hm h l .nil d m c j a
def aS (O:RZ X.prog X.w X.K X.mg X.base lY k x sp)(d:eG m X.A)(i:PA X (e::es) t)(f:k<=m:=by decide)(g:Gl X x:=by exact rfl)(c:(x == ("__debug__" : Str))=false:=by decide)
  (h:starEach (e::es) X.env=(false,eval e X.env)::starEach es X.env:=by rfl) (a:(backTo pos (starEach es X.env)).any (·.1)=false:=by rfl):PE X (.Call (.Name x p) (e::es) [] pos) (tCall sp [] E0 t):=d9 O (d.mono f) pass0 g i c h a
def fW (hm:∃u,X.mg x=some u/\aQ v u)(a:Gl X x)(hd:(x == ("__debug__" : Str))=false:=by decide):PE X (.Name x pos) (tC v):=by obtain⟨u,h,r⟩:=hm;exact P8 a h r hd
def uV (P:eg)(w:eh)(K:d6)(mg:jD)(base:Heap)(CX:KJ)(k:Nat)(C:Addr)(m:Str)(a:Sp):Prop :=
 ∃f fd ps,hZ P w K mg base CX k f fd ps a/\OX K C m f/\eH K fd ps []/\FC K C
noncomputable def ixV (H:Hp):V->V->Option V
 | .ref p,.int i=>match H p with
  | some (.lst xs)=>atI xs i
  | some (.tup xs)=>atI xs i
  | some (.frz _ (.lst xs))=>atI xs i
  | _=>none
 | .str z,.int i=>if z.length<=sizeLine then(atI z.cps.toList i).map λc=>.str ⟨#[c]⟩else none
 | _,_=>none
def WQ:O4 X (λx y H Q=>∃v,ixV H x y=some v/\Q v H):=by
 intro a d f s j H x y v u Q I m l h r;obtain⟨z,e,q⟩:=h;refine UZ a d f s j H x y v u Q I m l ?_ r;cases x with
 | ref p =>
  cases y with
  | int i =>
   unfold ixV at e;dsimp only at e;split at e
   ·rename_i xs g;exact .inl ⟨p,xs,i,z,rfl,rfl,d5.of g,e,q⟩
   ·rename_i xs g;exact .inr (.inl ⟨p,xs,i,z,rfl,rfl,hX.of g,e,q⟩)
   ·rename_i o xs g;exact .inl ⟨p,xs,i,z,rfl,rfl,.inl (.inr ⟨o,g⟩),e,q⟩
   ·cases e
  | _=>cases e
 | str t =>
  cases y with
  | int i =>
   unfold ixV at e;dsimp only at e;split at e
   ·rename_i hz;cases ea:atI t.cps.toList i with
    | none=>rw[ea]at e;cases e
    | some c =>
     rw[ea]at e;cases e;exact .inr (.inr ⟨t,i,c,rfl,rfl,hz,ea,q⟩)
   ·cases e
  | _=>cases e
 | _=>cases e
noncomputable def lenV (H:Hp):V->Option Nat
 | .ref p=>match H p with
  | some (.lst xs)=>some xs.length
  | some (.tup xs)=>some xs.length
  | some (.frz _ (.lst xs))=>some xs.length
  | some (.dK a)=>some a.length
  | _=>none
 | .str z=>if z.length<=sizeLine then some z.length else none
 | _=>none
def dZ.or' {r e:List V->Hp->VK->Prop}(h:dZ X f r)(h':dZ X f e):dZ X f (λxs H Q=>r xs H Q\/e xs H Q):=by
 intro a s c H xs us Q I d q;rcases q with q|q
 ·exact h a s c H xs us Q I d q
 ·exact h' a s c H xs us Q I d q
def dZ.imp {r c:List V->Hp->VK->Prop}(h:dZ X f r)(i:∀xs H Q,c xs H Q->r xs H Q):dZ X f c:=λa s d H xs us Q I e q=>h a s d H xs us Q I e (i _ _ _ q)
def jE.imp {f:ef->ef->Sem ef}(h:jE X f r)(i:∀x y H Q,r' x y H Q->r x y H Q):jE X f r':=λa s c H x y v u Q I e d q=>h a s c H x y v u Q I e d (i _ _ _ _ q)
def r1 (f:Hp->V->Option V):List V->Hp->VK->Prop:=λxs H Q=>∃x v,xs=[x]/\f H x=some v/\Q v H
def bK:dZ X (.builtin "len") (r1 λH x=>(lenV H x).map λn=>.int n):=by
 refine((zU.or' zT).or' J9).imp λxs H Q h=>?_;obtain⟨x,v,rfl,e,q⟩:=h;cases x with
 | ref p =>
  unfold lenV at e;dsimp only at e;split at e
  ·rename_i xs a;cases e;exact .inl (.inl ⟨p,xs,rfl,.inl (d5.of a),q⟩)
  ·rename_i xs a;cases e;exact .inl (.inl ⟨p,xs,rfl,.inr (hX.of a),q⟩)
  ·rename_i o xs a;cases e;exact .inl (.inl ⟨p,xs,rfl,.inl (.inl (.inr ⟨o,a⟩)),q⟩)
  ·rename_i c a;cases e;exact .inr ⟨p,c,rfl,a,q⟩
  ·cases e
 | str z =>
  unfold lenV at e;dsimp only at e;split at e
  ·rename_i hz;cases e;exact .inl (.inr ⟨z,rfl,hz,q⟩)
  ·cases e
 | _=>cases e
noncomputable def intV:V->Option V
 | .int i=>some (.int i)
 | .bl k=>some (.int (if k then 1 else 0))
 | _=>none
def KA:dZ X (.type "int") (r1 λ_ x=>intV x):=by
 refine KB.imp λxs H Q h=>?_;obtain⟨x,v,rfl,e,q⟩:=h;cases x with
 | int i=>cases e;exact .inl ⟨i,rfl,q⟩
 | bl k=>cases e;exact .inr ⟨k,rfl,q⟩
 | _=>cases e
noncomputable def addV:V->V->Option V
 | .int i,.int j=>some (.int (i+j))
 | .str i,.str j=>if i.length+j.length<=sizeLine then some (.str (i++j))else none
 | _,_=>none
noncomputable def catO (H:Hp):V->V->Option HO
 | .ref a,.ref b=>match H a,H b with
  | some (.lst xs),some (.lst ys)=>if xs.length+ys.length<=sizeLine then some (.lst (xs++ys))else none
  | some (.tup xs),some (.tup ys)=>if xs.length+ys.length<=sizeLine/\xs≠[]/\ys≠[]then some (.tup (xs++ys))else none
  | _,_=>none
 | _,_=>none
def rAddF:R2:=λx y H Q=>(∃v,addV x y=some v/\Q v H)\/(∃o,catO H x y=some o/\∀p,H p=none->Q (.ref p) (upd H p o))
def bF:jE X (binaryOp .Add) rAddF:=by
 refine((T0.or DY).or (TZ.or GG)).imp λx y H Q h=>?_;rcases h with⟨v,e,q⟩|⟨o,e,q⟩
 ·cases x with
  | int i=>cases y with
   | int j=>cases e;exact .inl (.inl ⟨i,j,rfl,rfl,q⟩)
   | _=>cases e
  | str i=>cases y with
   | str j =>
    unfold addV at e;dsimp only at e;split at e
    ·rename_i hz;cases e;exact .inl (.inr ⟨i,j,rfl,rfl,hz,q⟩)
    ·cases e
   | _=>cases e
  | _=>cases e
 ·cases x with
  | ref a=>cases y with
   | ref b =>
    unfold catO at e;dsimp only at e;split at e
    ·rename_i xs ys d c;split at e
     ·rename_i hz;cases e;exact .inr (.inl ⟨a,b,xs,ys,rfl,rfl,d,c,hz,q⟩)
     ·cases e
    ·rename_i xs ys d c;split at e
     ·rename_i hz;cases e;exact .inr (.inr ⟨a,b,xs,ys,rfl,rfl,hX.of d,hX.of c,hz.2.1,hz.1,λw=>absurd w hz.2.2,λ_=>q⟩)
     ·cases e
    ·cases e
   | _=>cases e
  | _=>cases e
inductive D where
 | non|bl (b:Bool)|int (i:Int)|str (x:Str)|tup (xs:List D)|lst (xs:List D)
mutual
def aH (H:Hp):D->V->Prop
 | .non,v=>v = .non
 | .bl b,v=>v = .bl b
 | .int i,v=>v = .int i
 | .str x,v=>v = .str x
 | .tup ds,v=>∃a vs,v = .ref a/\H a=some (.tup vs)/\Reps H ds vs
 | .lst ds,v=>∃a vs,v = .ref a/\H a=some (.lst vs)/\Reps H ds vs
def Reps (H:Hp):List D->List V->Prop
 | [],vs=>vs=[]
 | d::ds,vs=>∃v r,vs=v::r/\aH H d v/\Reps H ds r
end
mutual
theorem aH.same (s:aA H H'):∀{d:D} {v:V},aH H d v->aH H' d v
 | .non,_,h=>h
 | .bl _,_,h=>h
 | .int _,_,h=>h
 | .str _,_,h=>h
 | .tup _,_,⟨a,vs,e,h,r⟩=>⟨a,vs,e,s _ _ h,Reps.same s r⟩
 | .lst _,_,⟨a,vs,e,h,r⟩=>⟨a,vs,e,s _ _ h,Reps.same s r⟩
theorem Reps.same (s:aA H H'):∀{ds:List D} {vs:List V},Reps H ds vs->Reps H' ds vs
 | [],_,h=>h
 | _::_,_,⟨v,r,e,h,q⟩=>⟨v,r,e,aH.same s h,Reps.same s q⟩
end
def Reps.length:∀{ds:List D} {vs:List V},Reps H ds vs->vs.length=ds.length
 | [],_,h=>by cases h;rfl
 | _::_,_,⟨v,r,e,_,q⟩=>by subst e;simp[Reps.length q]
def Reps.append:∀{ds es:List D} {vs ws:List V},Reps H ds vs->Reps H es ws->Reps H (ds++es) (vs++ws)
 | [],_,_,_,h,k=>by cases h;exact k
 | _::_,_,_,_,⟨v,r,e,h,q⟩,k=>by subst e;exact⟨v,r++_,rfl,h,Reps.append q k⟩
theorem Reps.get:∀{ds:List D} {vs:List V} {i:Nat} {v:V},Reps H ds vs->vs[i]?=some v->∃d,ds[i]?=some d/\aH H d v
 | [],_,_,_,h,e=>by cases h;simp at e
 | d::_,_,0,_,⟨v,r,e,h,q⟩,k=>by subst e;simp at k;subst k;exact⟨d,rfl,h⟩
 | _::_,_,i+1,_,⟨v,r,e,h,q⟩,k=>by subst e;simp at k;obtain⟨d,c,a⟩:=Reps.get q k;exact⟨d,by simpa using c,a⟩
theorem Reps.get':∀{ds:List D} {vs:List V} {i:Nat} {d:D},Reps H ds vs->ds[i]?=some d->∃v,vs[i]?=some v/\aH H d v
 | [],_,_,_,_,e=>by simp at e
 | d::_,_,0,_,⟨v,r,e,h,q⟩,k=>by subst e;simp at k;subst k;exact⟨v,rfl,h⟩
 | _::_,_,i+1,_,⟨v,r,e,h,q⟩,k=>by subst e;simp at k;obtain⟨w,c,a⟩:=Reps.get' q k;exact⟨w,by simpa using c,a⟩
mutual
noncomputable def eqD:D->D->Bool
 | .non,.non=>true
 | .bl a,.bl b=>a == b
 | .bl a,.int b=>(if a then 1 else 0) == b
 | .int a,.bl b=>a == (if b then 1 else 0)
 | .int a,.int b=>a == b
 | .str a,.str b=>a == b
 | .tup xs,.tup ys=>eqDs xs ys
 | .lst xs,.lst ys=>eqDs xs ys
 | _,_=>false
noncomputable def eqDs:List D->List D->Bool
 | [],[]=>true
 | x::xs,y::ys=>eqD x y && eqDs xs ys
 | _,_=>false
end
mutual
noncomputable def depD:D->Nat
 | .tup xs=>depDs xs+1
 | .lst xs=>depDs xs+1
 | _=>0
noncomputable def depDs:List D->Nat
 | []=>0
 | x::xs=>max (depD x) (depDs xs)
end
end L2
namespace L2
open PySem PySem.Spec PyProof.Rows PySem.SeqAt
mutual
theorem aH.inj:∀{d e:D} {v:V},aH H d v->aH H e v->d=e
 | .non,e,v,h,k=>by cases h;cases e <;> first|rfl|(exact absurd k (by simp[aH]))|(obtain⟨_,_,z,_⟩:=k;cases z)
 | .bl b,e,v,h,k=>by cases h;cases e <;> first|(cases k;rfl)|(exact absurd k (by simp[aH]))|(obtain⟨_,_,z,_⟩:=k;cases z)
 | .int b,e,v,h,k=>by cases h;cases e <;> first|(cases k;rfl)|(exact absurd k (by simp[aH]))|(obtain⟨_,_,z,_⟩:=k;cases z)
 | .str b,e,v,h,k=>by cases h;cases e <;> first|(cases k;rfl)|(exact absurd k (by simp[aH]))|(obtain⟨_,_,z,_⟩:=k;cases z)
 | .tup ds,e,v,⟨a,vs,j,g,i⟩,k=>by
  subst j;cases e with
  | tup es =>
   obtain⟨b,ws,c,k2,f⟩:=k;cases c;rw[g]at k2;cases k2;rw[Reps.inj i f]
  | lst es =>
   obtain⟨b,ws,c,k2,f⟩:=k;cases c;rw[g]at k2;cases k2
  | _=>exact absurd k (by simp[aH])
 | .lst ds,e,v,⟨a,vs,j,g,i⟩,k=>by
  subst j;cases e with
  | lst es =>
   obtain⟨b,ws,c,k2,f⟩:=k;cases c;rw[g]at k2;cases k2;rw[Reps.inj i f]
  | tup es =>
   obtain⟨b,ws,c,k2,f⟩:=k;cases c;rw[g]at k2;cases k2
  | _=>exact absurd k (by simp[aH])
theorem Reps.inj:∀{ds es:List D} {vs:List V},Reps H ds vs->Reps H es vs->ds=es
 | [],[],_,_,_=>rfl
 | [],e::es,_,h,k=>by cases h;obtain⟨_,_,z,_⟩:=k;cases z
 | d::ds,[],_,h,k=>by cases k;obtain⟨_,_,z,_⟩:=h;cases z
 | d::ds,e::es,_,⟨v,r,i,g,f⟩,⟨w,q,c,k2,a⟩=>by subst i;cases c;rw[aH.inj g k2,Reps.inj f a]
end
mutual
theorem eF:∀d:D,eqD d d=true
 | .non=>rfl
 | .bl b=>by simp[eqD]
 | .int b=>by simp[eqD]
 | .str b=>by simp[eqD]
 | .tup xs=>by rw[eqD];exact qX xs
 | .lst xs=>by rw[eqD];exact qX xs
theorem qX:∀ds:List D,eqDs ds ds=true
 | []=>rfl
 | d::ds=>by rw[eqDs,eF d,qX ds];rfl
end
def uT (n:Nat)(f:Nat->Bool):(List.range (n+1)).all f=(f 0 && (List.range n).all λj=>f (j+1)):=by have e:=List.range_succ_eq_map (n:=n);rw[e,List.all_cons,List.all_map];rfl
theorem iW:∀ds es:List D,eqDs ds es=((List.range (min ds.length es.length)).all (λj=>eqD (ds.getD j .non) (es.getD j .non)) && ds.length == es.length)
 | [],[]=>rfl
 | [],e::es=>by simp[eqDs]
 | d::ds,[]=>by simp[eqDs]
 | d::ds,e::es=>by
  rw[eqDs,iW ds es];have a:min (d::ds).length (e::es).length=min ds.length es.length+1:=by simp only[ar];lia
  rw[a,uT];simp only[List.getD_cons_zero,List.getD_cons_succ,ar];rw[Bool.and_assoc];congr 2;rw[ck];simp
section
variable {P:eg}{w:eh}{H:Hp}{s:ee}
def gY (ok:iC P w H s.heap)(h:H a=some (.lst vs)):∃its:dA,aO vs its/\s.heap.IsList a its.toArray:=by obtain⟨_,its,n,r,e⟩:=ok a _ h;exact⟨its,r,⟨_,e,rfl,n,rfl⟩⟩
def kB (ok:iC P w H s.heap)(h:H a=some (.tup vs)):∃its:dA,aO vs its/\s.heap.IsTuple a its.toArray:=by obtain⟨_,its,r,e⟩:=ok a _ h;exact⟨its,r,e⟩
def eW (A:en):A.in1.units=A.units+1:=rfl
def WW (u:ef):Prop:=u = .none\/(∃b,u = .bool b)\/(∃i t,u = .int i t)\/(∃x t,u = .str x t)\/∃a,u = .ref a
def LH (h:aH H d v)(r:aQ v u):WW u:=by
 cases d with
 | non=>cases h;exact .inl r
 | bl b=>cases h;exact .inr (.inl ⟨b,r⟩)
 | int i=>cases h;obtain⟨t,e⟩:=r;exact .inr (.inr (.inl ⟨i,t,e⟩))
 | str x=>cases h;obtain⟨t,e⟩:=r;exact .inr (.inr (.inr (.inl ⟨x,t,e⟩)))
 | tup ds=>obtain⟨a,vs,e,_⟩:=h;subst e;exact .inr (.inr (.inr (.inr ⟨a,r⟩)))
 | lst ds=>obtain⟨a,vs,e,_⟩:=h;subst e;exact .inr (.inr (.inr (.inr ⟨a,r⟩)))
def RL (e:WW u)(a:WW u')(f:u≠u')(q:RcAt A s u u' b):EqAt A s u u' b:=by intro prog w E Q g;unfold eqBool;refine cq ?_;refine wpAny_ite_split (λc=>absurd (eq_of_beq c) f) (λ_=>?_);have q':=q prog w E (λv d=>wM prog w A (truthOfDropped v) Q E d) (wpAny_truthy_bool g);rcases e with rfl|⟨_,rfl⟩|⟨_,_,rfl⟩|⟨_,_,rfl⟩|⟨_,rfl⟩ <;> rcases a with rfl|⟨_,rfl⟩|⟨_,_,rfl⟩|⟨_,_,rfl⟩|⟨_,rfl⟩ <;> exact aa q'
def HG (h:aH H d v)(k:aH H e v')(r:aQ v u)(a:aQ v' u')(q:RcAt A s u u' (eqD d e)):EqAt A s u u' (eqD d e):=by
 by_cases c:u=u'
 ·subst c;have g:v=v':=r.inj a;subst g;have f:=aH.inj h k;subst f;rw[eF];exact EqAt.same u
 ·exact RL (LH h r) (LH k a) c q
def sQ (s:ee)(H:Hp)(n:Nat):Prop:=∀(d e:D) (A:en) (v v':V) (u u':ef),depD d<n->aH H d v->aH H e v'->aQ v u->aQ v' u'->A.units+depD d<cLine->RcAt A s u u' (eqD d e)
def zM (F:sQ s H n):∀{ds es:List D} {A:en} {vs ws:List V} {us a:dA},depDs ds<n->Reps H ds vs->Reps H es ws->aO vs us->aO ws a->A.units+depDs ds<cLine ->
  ∀j (f:j<us.length) (m:j<a.length),EqAt A s us[j] a[j] (eqD (ds.getD j .non) (es.getD j .non)):=by
 intro ds
 induction ds with
 | nil=>intro es A vs ws us a _ h _ r _ _ j f;cases h;cases r;exact absurd f (Nat.not_lt_zero _)
 | cons d ds G =>
  intro es A vs ws us a l h k r o i j f m;cases es with
  | nil=>cases k;cases o;exact absurd m (Nat.not_lt_zero _)
  | cons e es =>
   obtain⟨v,J,B,q,z⟩:=h;obtain⟨y,I,E,u,C⟩:=k;subst B E;rw[depDs]at i l;cases r with
   | cons r1 w =>
    cases o with
    | cons c g =>
     cases j with
     | zero=>exact HG q u r1 c (F d e A v y _ _ (ak (Nat.le_max_left _ _) l) q u r1 c (ak (cg (Nat.le_max_left _ _) _) i))
     | succ j=>exact G (ak (Nat.le_max_right _ _) l) z C w g (ak (cg (Nat.le_max_right _ _) _) i) j (Nat.lt_of_succ_lt_succ f) (Nat.lt_of_succ_lt_succ m)
def PQ (ok:iC P w H s.heap)(B:sQ s H n)(C:depDs ds<n)(h:aH H (.tup ds) v)(k:aH H (.tup es) v')(r:aQ v u)(o:aQ v' u')(G:A.units+depDs ds+1<cLine):RcAt A s u u' (eqD (.tup ds) (.tup es)):=by
 obtain⟨a,vs,g,f,m⟩:=h;obtain⟨b,ws,z,k2,l⟩:=k;subst g z;cases r;cases o;obtain⟨its,i,hl⟩:=kB ok f;obtain⟨its2,c,d⟩:=kB ok k2;have q:=RcAt.tuples (A:=A) hl d dz (e:=λj=>eqD (ds.getD j .non) (es.getD j .non)) λj g f=>zM B C m l i c (A:=A.in1) (by rw[eW];lia) j g f;have F:its.toArray.size=ds.length:=by rw[ai,<-i.length,m.length]
 have E:its2.toArray.size=es.length:=by rw[ai,<-c.length,l.length]
 rw[F,E,<-iW]at q;exact q
def PR (ok:iC P w H s.heap)(G:sQ s H n)(I:depDs ds<n)(h:aH H (.lst ds) v)(k:aH H (.lst es) v')(r:aQ v u)(E:aQ v' u')(J:A.units+depDs ds+1<cLine):RcAt A s u u' (eqD (.lst ds) (.lst es)):=by
 obtain⟨a,vs,g,f,z⟩:=h;obtain⟨b,ws,F,k2,o⟩:=k;subst g F;cases r;cases E;obtain⟨its,m,hl⟩:=gY ok f;obtain⟨its2,c,d⟩:=gY ok k2;have l:its.toArray.size=ds.length:=by rw[ai,<-m.length,z.length]
 have C:its2.toArray.size=es.length:=by rw[ai,<-c.length,o.length]
 by_cases hz:its.toArray.size=its2.toArray.size
 ·have q:=RcAt.lists (A:=A) hl d hz dz (e:=λj=>eqD (ds.getD j .non) (es.getD j .non)) λj g f=>zM G I z o m c (A:=A.in1) (by rw[eW];lia) j g f;have B:ds.length=es.length:=by rw[<-l,<-C];exact hz
  have i:eqD (.lst ds) (.lst es)=(List.range its.toArray.size).all λj=>eqD (ds.getD j .non) (es.getD j .non):=by rw[eqD,iW,B,Nat.min_self,l,B,beq_self_eq_true,Bool.and_true]
  rw[i];exact q
 ·have q:=RcAt.lists_lengths (A:=A) hl d (bne_iff_ne.mpr hz) dz;have i:eqD (.lst ds) (.lst es)=false:=by rw[eqD,iW];have:(ds.length == es.length)=false:=db.mpr (by rw[<-l,<-C];exact hz);rw[this,Bool.and_false]
  rw[i];exact q
inductive Kd (s:ee):D->ef->Prop
 | non:Kd s .non .none
 | bl (b:Bool):Kd s (.bl b) (.bool b)
 | int (i:Int) (t:Tok):Kd s (.int i) (.int i t)
 | str (x:Str) (t:Tok):Kd s (.str x) (.str x t)
 | tup {ds:List D} {a:Addr} {its:dA}:s.heap.IsTuple a its.toArray->Kd s (.tup ds) (.ref a)
 | lst {ds:List D} {a:Addr} {its:dA}:s.heap.IsList a its.toArray->Kd s (.lst ds) (.ref a)
def G0 (ok:iC P w H s.heap):∀{d:D} {v:V} {u:ef},aH H d v->aQ v u->Kd s d u
 | .non,_,_,h,r=>by cases h;cases r;exact .non
 | .bl b,_,_,h,r=>by cases h;cases r;exact .bl b
 | .int i,_,_,h,r=>by cases h;obtain⟨t,rfl⟩:=r;exact .int i t
 | .str x,_,_,h,r=>by cases h;obtain⟨t,rfl⟩:=r;exact .str x t
 | .tup _,_,_,⟨_,_,e,h,_⟩,r=>by subst e;cases r;obtain⟨_,_,hl⟩:=kB ok h;exact .tup hl
 | .lst _,_,_,⟨_,_,e,h,_⟩,r=>by subst e;cases r;obtain⟨_,_,hl⟩:=gY ok h;exact .lst hl
def PU (a:A.units<cLine)(h:Kd s d u)(k:Kd s e u')(n1:∀xs ys,d = .tup xs->e≠.tup ys)(n2:∀xs ys,d = .lst xs->e≠.lst ys):RcAt A s u u' (eqD d e):=by
 cases h with
 | non=>cases k with
  | non=>exact RcAt.none_none
  | bl c=>exact RcAt.none_bool c
  | int c t=>exact RcAt.none_int c t
  | str c t=>exact RcAt.none_str c t
  | tup l=>exact RcAt.none_tuple l a
  | lst l=>exact RcAt.none_list l a
 | bl x=>cases k with
  | non=>exact RcAt.bool_none x
  | bl c=>exact RcAt.bool_bool x c
  | int c t=>exact RcAt.bool_int x c t
  | str c t=>exact RcAt.bool_str x c t
  | tup l=>exact RcAt.bool_tuple x l a
  | lst l=>exact RcAt.bool_list x l a
 | int x f=>cases k with
  | non=>exact RcAt.int_none x f
  | bl c=>exact RcAt.int_bool x f c
  | int c t=>exact RcAt.int_int x f c t
  | str c t=>exact RcAt.int_str x f c t
  | tup l=>exact RcAt.int_tuple x f l a
  | lst l=>exact RcAt.int_list x f l a
 | str x f=>cases k with
  | non=>exact RcAt.str_none x f
  | bl c=>exact RcAt.str_bool x f c
  | int c t=>exact RcAt.str_int x f c t
  | str c t=>exact RcAt.str_str x f c t
  | tup l=>exact RcAt.str_tuple x f l a
  | lst l=>exact RcAt.str_list x f l a
 | tup m=>cases k with
  | non=>exact RcAt.tuple_none m a
  | bl c=>exact RcAt.tuple_bool c m a
  | int c t=>exact RcAt.tuple_int c t m a
  | str c t=>exact RcAt.tuple_str c t m a
  | tup l=>exact absurd rfl (n1 _ _ rfl)
  | lst l=>exact RcAt.tuple_list m l a
 | lst m=>cases k with
  | non=>exact RcAt.list_none m a
  | bl c=>exact RcAt.list_bool c m a
  | int c t=>exact RcAt.list_int c t m a
  | str c t=>exact RcAt.list_str c t m a
  | tup l=>exact RcAt.list_tuple m l a
  | lst l=>exact absurd rfl (n2 _ _ rfl)
theorem pM (ok:iC P w H s.heap):∀n,sQ s H n
 | 0=>λ_ _ _ _ _ _ _ h=>absurd h (Nat.not_lt_zero _)
 | n+1=>λd e A v o u q c h k r f a=>by
  have m:A.units<cLine:=ak (Nat.le_add_right _ _) a;by_cases l:∃xs ys,d = .tup xs/\e = .tup ys
  ·obtain⟨xs,ys,rfl,rfl⟩:=l;rw[depD]at a c;exact PQ ok (pM ok n) (Nat.lt_of_succ_lt_succ c) h k r f a
  ·by_cases j:∃xs ys,d = .lst xs/\e = .lst ys
   ·obtain⟨xs,ys,rfl,rfl⟩:=j;rw[depD]at a c;exact PR ok (pM ok n) (Nat.lt_of_succ_lt_succ c) h k r f a
   ·exact PU m (G0 ok h r) (G0 ok k f) (λxs ys i g=>l ⟨xs,ys,i,g⟩) (λxs ys i g=>j ⟨xs,ys,i,g⟩)
def rcAtD (ok:iC P w H s.heap)(d e:D)(A:en)(v a:V)(u c:ef)(h:aH H d v)(k:aH H e a)(r:aQ v u)(f:aQ a c)(g:A.units+depD d<cLine):RcAt A s u c (eqD d e):=pM ok _ d e A v a u c (Nat.lt_succ_self _) h k r f g
def eqAtD (ok:iC P w H s.heap)(d e:D)(A:en)(v a:V)(u c:ef)(h:aH H d v)(k:aH H e a)(r:aQ v u)(f:aQ a c)(g:A.units+depD d<cLine):EqAt A s u c (eqD d e):=HG h k r f (rcAtD ok d e A v a u c h k r f g)
end
def rEqD:R2:=λx y H Q=>∃d e,aH H d x/\aH H e y/\depD d<=60/\Q (.bl (eqD d e)) H
def rNeD:R2:=λx y H Q=>∃d e,aH H d x/\aH H e y/\depD d<=60/\Q (.bl (!eqD d e)) H
def eA (j:X.A.units+64<cLine):jE X (compareOp .Eq) rEqD:=by intro a s i H x y v u Q I f c h;obtain⟨d,e,hd,g,hz,q⟩:=h;exact rcAtD I.hok d e X.A x y v u hd g f c dz X.prog X.w X.xe _ ⟨.bl _,H,I,rfl,q⟩
def PJ (ok:iC P w H s.heap)(h:aH H (.tup ds) v)(k:aH H (.tup es) v')(r:aQ v u)(o:aQ v' u')(E:A.units+depDs ds+1<cLine):RcNeAt A s u u' (!eqD (.tup ds) (.tup es)):=by
 obtain⟨a,vs,g,f,m⟩:=h;obtain⟨b,ws,z,k2,l⟩:=k;subst g z;cases r;cases o;obtain⟨its,i,hl⟩:=kB ok f;obtain⟨its2,c,d⟩:=kB ok k2;have q:=RcNeAt.tuples (A:=A) hl d dz (e:=λj=>eqD (ds.getD j .non) (es.getD j .non)) λj g f=>zM (pM ok _) (Nat.lt_succ_self _) m l i c (A:=A.in1) (by rw[eW];lia) j g f;have C:its.toArray.size=ds.length:=by rw[ai,<-i.length,m.length]
 have B:its2.toArray.size=es.length:=by rw[ai,<-c.length,l.length]
 rw[C,B,<-iW]at q;exact q
def PM (ok:iC P w H s.heap)(h:aH H (.lst ds) v)(k:aH H (.lst es) v')(r:aQ v u)(E:aQ v' u')(G:A.units+depDs ds+1<cLine):RcNeAt A s u u' (!eqD (.lst ds) (.lst es)):=by
 obtain⟨a,vs,g,f,z⟩:=h;obtain⟨b,ws,F,k2,o⟩:=k;subst g F;cases r;cases E;obtain⟨its,m,hl⟩:=gY ok f;obtain⟨its2,c,d⟩:=gY ok k2;have l:its.toArray.size=ds.length:=by rw[ai,<-m.length,z.length]
 have C:its2.toArray.size=es.length:=by rw[ai,<-c.length,o.length]
 by_cases hz:its.toArray.size=its2.toArray.size
 ·have q:=RcNeAt.lists (A:=A) hl d hz dz (e:=λj=>eqD (ds.getD j .non) (es.getD j .non)) λj g f=>zM (pM ok _) (Nat.lt_succ_self _) z o m c (A:=A.in1) (by rw[eW];lia) j g f;have B:ds.length=es.length:=by rw[<-l,<-C];exact hz
  have i:eqD (.lst ds) (.lst es)=(List.range its.toArray.size).all λj=>eqD (ds.getD j .non) (es.getD j .non):=by rw[eqD,iW,B,Nat.min_self,l,B,beq_self_eq_true,Bool.and_true]
  rw[i];exact q
 ·have q:=RcNeAt.lists_lengths (A:=A) hl d (bne_iff_ne.mpr hz) dz;have i:eqD (.lst ds) (.lst es)=false:=by rw[eqD,iW];have:(ds.length == es.length)=false:=db.mpr (by rw[<-l,<-C];exact hz);rw[this,Bool.and_false]
  rw[i];exact q
def PN (a:A.units<cLine)(h:Kd s d u)(k:Kd s e u')(n1:∀xs ys,d = .tup xs->e≠.tup ys)(n2:∀xs ys,d = .lst xs->e≠.lst ys):RcNeAt A s u u' (!eqD d e):=by
 cases h with
 | non=>cases k with
  | non=>exact RcNeAt.none_none
  | bl c=>exact RcNeAt.none_bool c
  | int c t=>exact RcNeAt.none_int c t
  | str c t=>exact RcNeAt.none_str c t
  | tup l=>exact RcNeAt.none_tuple l a
  | lst l=>exact RcNeAt.none_list l a
 | bl x=>cases k with
  | non=>exact RcNeAt.bool_none x
  | bl c=>exact RcNeAt.bool_bool x c
  | int c t=>exact RcNeAt.bool_int x c t
  | str c t=>exact RcNeAt.bool_str x c t
  | tup l=>exact RcNeAt.bool_tuple x l a
  | lst l=>exact RcNeAt.bool_list x l a
 | int x f=>cases k with
  | non=>exact RcNeAt.int_none x f
  | bl c=>exact RcNeAt.int_bool x f c
  | int c t=>exact RcNeAt.int_int x f c t
  | str c t=>exact RcNeAt.int_str x f c t
  | tup l=>exact RcNeAt.int_tuple x f l a
  | lst l=>exact RcNeAt.int_list x f l a
 | str x f=>cases k with
  | non=>exact RcNeAt.str_none x f
  | bl c=>exact RcNeAt.str_bool x f c
  | int c t=>exact RcNeAt.str_int x f c t
  | str c t=>exact RcNeAt.str_str x f c t
  | tup l=>exact RcNeAt.str_tuple x f l a
  | lst l=>exact RcNeAt.str_list x f l a
 | tup m=>cases k with
  | non=>exact RcNeAt.tuple_none m a
  | bl c=>exact RcNeAt.tuple_bool c m a
  | int c t=>exact RcNeAt.tuple_int c t m a
  | str c t=>exact RcNeAt.tuple_str c t m a
  | tup l=>exact absurd rfl (n1 _ _ rfl)
  | lst l=>exact RcNeAt.tuple_list m l a
 | lst m=>cases k with
  | non=>exact RcNeAt.list_none m a
  | bl c=>exact RcNeAt.list_bool c m a
  | int c t=>exact RcNeAt.list_int c t m a
  | str c t=>exact RcNeAt.list_str c t m a
  | tup l=>exact RcNeAt.list_tuple m l a
  | lst l=>exact absurd rfl (n2 _ _ rfl)
def FT (ok:iC P w H s.heap)(d e:D)(A:en)(v i:V)(u j:ef)(h:aH H d v)(k:aH H e i)(r:aQ v u)(c:aQ i j)(a:A.units+depD d<cLine):RcNeAt A s u j (!eqD d e):=by
 have o:A.units<cLine:=ak (Nat.le_add_right _ _) a;by_cases m:∃xs ys,d = .tup xs/\e = .tup ys
 ·obtain⟨xs,ys,rfl,rfl⟩:=m;rw[depD]at a;exact PJ ok h k r c a
 ·by_cases l:∃xs ys,d = .lst xs/\e = .lst ys
  ·obtain⟨xs,ys,rfl,rfl⟩:=l;rw[depD]at a;exact PM ok h k r c a
  ·exact PN o (G0 ok h r) (G0 ok k c) (λxs ys g f=>m ⟨xs,ys,g,f⟩) (λxs ys g f=>l ⟨xs,ys,g,f⟩)
section
def lN (j:X.A.units+64<cLine):jE X (compareOp .NotEq) rNeD:=by intro a s i H x y v u Q I f c h;obtain⟨d,e,hd,g,hz,q⟩:=h;exact FT I.hok d e X.A x y v u hd g f c dz X.prog X.w X.xe _ ⟨.bl _,H,I,rfl,q⟩
noncomputable def inD (d:D)(ds:List D):Bool:=ds.any λe=>eqD e d
def rInD (a:Bool):R2:=λx y H Q=>∃d ds,aH H d x/\(aH H (.lst ds) y\/aH H (.tup ds) y)/\depDs ds<=60/\Q (.bl (if a then !inD d ds else inD d ds)) H
open Classical in
noncomputable def datOf (H:Hp)(y:ef):D:=if h:∃d v,absV y=some v/\aH H d v then h.choose else .non
def OC (r:aQ v y)(h:aH H d v):datOf H y=d:=by
 have e:∃d v,absV y=some v/\aH H d v:=⟨d,v,r.abs,h⟩
 unfold datOf;rw[dif_pos e];obtain⟨f,a,c⟩:=e.choose_spec;rw[r.abs]at a;cases a;exact aH.inj c h
theorem uG (ok:iC P w H s.heap)(h:aH H d v)(r:aQ v u):∀(ds:List D) (vs:List V) (us:dA),Reps H ds vs->aO vs us->A.units+depDs ds<cLine ->
  (∀y∈us,EqAt A s y u (eqD (datOf H y) d))/\us.any (λy=>eqD (datOf H y) d)=inD d ds
 | [],vs,us,a,r1,_=>by cases a;cases r1;exact⟨dV,rfl⟩
 | e::ds,vs,us,a,r1,C=>by
  obtain⟨i,g,q,c,o⟩:=a;subst q;rw[depDs]at C;cases r1 with
  | @cons _ l _ j r1 m =>
   obtain⟨F,E⟩:=uG ok (A:=A) h r ds g j o m dz;have hd:=eqAtD ok e d A i v l u c h r1 r dz;have f:=OC r1 c;refine⟨λy B=>?_,?_⟩
   ·rcases cz.mp B with z|z
    ·subst z;rw[f];exact hd
    ·exact F y z
   ·rw[List.any_cons,f,E];rfl
def T4 (C:X.A.units+64<cLine):jE X (compareOp .In) (λx y H Q=>rInD false x y H Q\/∃i j,x = .str i/\y = .str j/\Q (.bl (!(Builtin.Str.occurrences j i 0 j.length 1).isEmpty)) H):=by
 refine jE.or ?_ qO;intro z s B H x y v u Q I w r h;obtain⟨d,ds,hd,c,hz,q⟩:=h;have q:Q (.bl (inD d ds)) H:=q;rcases c with⟨a,vs,e,l,g⟩|⟨a,vs,e,l,g⟩
 ·subst e;cases r;obtain⟨its,f,hl⟩:=gY I.hok l;obtain⟨o,m⟩:=uG I.hok (A:=X.A.in1) hd w ds vs its g f (by rw[eW];lia);refine in_listAt (λy=>eqD (datOf H y) d) hl (λy c=>o y (by simpa using c)) ?_;refine⟨.bl (inD d ds),H,I,?_,q⟩;show _=Value.bool _;rw[<-m];simp
 ·subst e;cases r;obtain⟨its,f,hl⟩:=kB I.hok l;obtain⟨o,m⟩:=uG I.hok (A:=X.A.in1) hd w ds vs its g f (by rw[eW];lia);refine in_tupleAt (λy=>eqD (datOf H y) d) hl (λy c=>o y (by simpa using c)) ?_;refine⟨.bl (inD d ds),H,I,?_,q⟩;show _=Value.bool _;rw[<-m];simp
def JA (C:X.A.units+64<cLine):jE X (compareOp .NotIn) (λx y H Q=>rInD true x y H Q\/∃i j,x = .str i/\y = .str j/\Q (.bl (!(!(Builtin.Str.occurrences j i 0 j.length 1).isEmpty))) H):=by
 refine jE.or ?_ yW;intro z s B H x y v u Q I w r h;obtain⟨d,ds,hd,c,hz,q⟩:=h;have q:Q (.bl (!inD d ds)) H:=q;rcases c with⟨a,vs,e,l,g⟩|⟨a,vs,e,l,g⟩
 ·subst e;cases r;obtain⟨its,f,hl⟩:=gY I.hok l;obtain⟨o,m⟩:=uG I.hok (A:=X.A.in1) hd w ds vs its g f (by rw[eW];lia);refine notIn_listAt (λy=>eqD (datOf H y) d) hl (λy c=>o y (by simpa using c)) ?_;refine⟨.bl (!inD d ds),H,I,?_,q⟩;show _=Value.bool _;rw[<-m];simp
 ·subst e;cases r;obtain⟨its,f,hl⟩:=kB I.hok l;obtain⟨o,m⟩:=uG I.hok (A:=X.A.in1) hd w ds vs its g f (by rw[eW];lia);refine notIn_tupleAt (λy=>eqD (datOf H y) d) hl (λy c=>o y (by simpa using c)) ?_;refine⟨.bl (!inD d ds),H,I,?_,q⟩;show _=Value.bool _;rw[<-m];simp
end
end L2
namespace L2
open PySem PySem.Spec PyProof.Rows
noncomputable def tyN (H:Hp):V->Option String
 | .non=>some "NoneType"
 | .bl _=>some "bool"
 | .int _=>some "int"
 | .str _=>some "str"
 | .ref p=>match H p with
  | some (.lst _)=>some "list"
  | some (.tup _)=>some "tuple"
  | some (.dK _)=>some "dict"
  | _=>none
 | _=>none
noncomputable def okT (c:String):Bool:=c == "str" || c == "int" || c == "bool" || c == "list" || c == "tuple" || c == "dict"
noncomputable def subT (t c:String):Bool:=t == c || (t == "bool" && c == "int")
noncomputable def tysV:List V->Option (List String)
 | []=>some []
 | .ty n::r=>(tysV r).map (n :: ·)
 | _::_=>none
noncomputable def clsV (H:Hp):V->Option (List String)
 | .ty n=>some [n]
 | .ref p=>match H p with
  | some (.tup vs)=>tysV vs
  | _=>none
 | _=>none
noncomputable def isV (H:Hp)(x c:V):Option Bool:=match tyN H x,clsV H c with
 | some t,some a=>if a.all okT then some (a.any (subT t))else none
 | _,_=>none
def V8 {x:V}{u:ef}{t:String}(I:aK X pins σ H s)(a:aQ x u)(e:tyN H x=some t) :
  ∃HH:Heap->Prop,PySem.W.KitX X.K u (.type t) HH/\HH s.heap/\u≠.builtin "__main__.__loader__#opaque":=by
 cases x with
 | non=>cases e;cases a;exact⟨_,PySem.W.kitx_none,True.intro,λz=>nomatch z⟩
 | bl b=>cases e;cases a;exact⟨_,PySem.W.kitx_bool,True.intro,λz=>nomatch z⟩
 | int i=>cases e;obtain⟨t,rfl⟩:=a;exact⟨_,PySem.W.kitx_int,True.intro,λz=>nomatch z⟩
 | str i=>cases e;obtain⟨t,rfl⟩:=a;exact⟨_,PySem.W.kitx_str,True.intro,λz=>nomatch z⟩
 | ref p =>
  cases a;unfold tyN at e;dsimp only at e;split at e
  ·rename_i xs c;cases e;obtain⟨_,_,n,_,d⟩:=(show cD X.prog X.w H s.heap p (.lst xs)from I.hok p _ c)
   exact⟨_,PySem.W.kitx_list,⟨_,d,rfl⟩,λz=>nomatch z⟩
  ·rename_i xs c;cases e;obtain⟨_,_,_,o,d,g,_⟩:=(show cD X.prog X.w H s.heap p (.tup xs)from I.hok p _ c)
   exact⟨_,PySem.W.kitx_tuple,⟨o,d,g⟩,λz=>nomatch z⟩
  ·rename_i f c;cases e;obtain⟨_,_,vs,_,o,es,h,d,g,_⟩:=(show cD X.prog X.w H s.heap p (.dK f)from I.hok p _ c)
   exact⟨_,PySem.W.kitx_dict,⟨o,d,g.1⟩,λz=>nomatch z⟩
  ·cases e
 | _=>cases e
def SZ (e:tyN H x=some t):t="NoneType"\/t="bool"\/t="int"\/t="str"\/t="list"\/t="tuple"\/t="dict":=by
 cases x with
 | non=>cases e;simp
 | bl b=>cases e;simp
 | int i=>cases e;simp
 | str i=>cases e;simp
 | ref p =>
  unfold tyN at e;dsimp only at e;split at e <;> cases e <;> simp
 | _=>cases e
def UM (e:okT c=true):c="str"\/c="int"\/c="bool"\/c="list"\/c="tuple"\/c="dict":=by simp only[okT,Bool.or_eq_true,beq_iff_eq]at e;rcases e with((((e|e)|e)|e)|e)|e <;> simp[e]
def GX {K:d6}{x:V}{t c:String}(e:tyN H x=some t)(a:okT c=true):PySem.W.kitOne K (.type t) (.type c)=some (subT t c):=by rcases SZ e with rfl|rfl|rfl|rfl|rfl|rfl|rfl <;> rcases UM a with rfl|rfl|rfl|rfl|rfl|rfl <;> with_unfolding_all rfl
theorem GY {K:d6}{x:V}{t:String}(e:tyN H x=some t):∀{a:List String},a.all okT=true->PySem.W.kitAny K (.type t) (a.map Value.type)=some (a.any (subT t))
 | [],_=>rfl
 | c::r,h=>by
  replace h:=Bool.and_eq_true_iff.mp (List.all_cons ▸ h)
  rw[bg];unfold PySem.W.kitAny;rw[GX e h.1];cases q:subT t c with
  | true=>simp[q]
  | false=>simp only[List.any_cons,q,Bool.false_or];exact GY e h.2
theorem wA:∀{vs:List V} {a:List String} {us:dA},tysV vs=some a->aO vs us->us=a.map Value.type
 | [],a,us,h,r=>by cases h;cases r;rfl
 | .ty n::vs,a,us,h,r=>by
  unfold tysV at h;cases e:tysV vs with
  | none=>rw[e]at h;cases h
  | some d =>
   rw[e]at h;cases h;cases r with
   | cons r1 c =>
    cases r1;rw[bg,wA e c]
 | .non::_,_,_,h,_=>by cases h
 | .bl _::_,_,_,h,_=>by cases h
 | .int _::_,_,_,h,_=>by cases h
 | .str _::_,_,_,h,_=>by cases h
 | .byt _::_,_,_,h,_=>by cases h
 | .flt _::_,_,_,h,_=>by cases h
 | .ref _::_,_,_,h,_=>by cases h
def rIs:List V->Hp->VK->Prop:=λxs H Q=>∃x c b,xs=[x,c]/\isV H x c=some b/\Q (.bl b) H
def cY:dZ X (.builtin "isinstance") rIs:=by
 intro d s u H xs us Q I r h;obtain⟨x,c,b,rfl,e,q⟩:=h;cases r with
 | cons v B =>
  cases B with
  | cons l A =>
   cases A;unfold isV at e;split at e
   ·rename_i t J j a;split at e
    ·rename_i g;cases e;obtain⟨HH,Z,m,f⟩:=V8 I v j;have fin:∀tk,EP X d u Q (.bool (J.any (subT t))) {s with toks:=tk}:=λtk=>⟨.bl _,H,I.tok tk,rfl,q⟩
     cases c with
     | ty n =>
      cases l;cases a;have i:okT n=true:=by simpa using g
      refine PySem.W.kia_one Z I.kIn m (GX j i) f ?_;intro tk;have:=fin tk
      simpa using this
     | ref p =>
      cases l;unfold clsV at a;dsimp only at a;split at a
      ·rename_i vs C;obtain⟨_,its,z,o,i,F,n,E⟩:=(show cD X.prog X.w H s.heap p (.tup vs)from I.hok p _ C)
       obtain⟨cl,N,L,K⟩:=o;cases F;cases E;have G:=wA a z;subst G;exact PySem.W.kia_tup Z I.kIn m i (GY j g) f fin
      ·cases a
     | _=>cases a
    ·cases e
   ·cases e
noncomputable def seqV (H:Hp):V->Option (List V)
 | .ref p=>match H p with
  | some (.lst xs)=>some xs
  | some (.tup xs)=>some xs
  | _=>none
 | _=>none
def jZ:dZ X (.type "list") (λxs H Q=>∃x ys,xs=[x]/\seqV H x=some ys/\∀l,H l=none->Q (.ref l) (upd H l (.lst ys))):=by
 refine zS.imp λxs H Q h=>?_;obtain⟨x,ys,rfl,e,q⟩:=h;cases x with
 | ref p =>
  unfold seqV at e;dsimp only at e;split at e
  ·rename_i c a;cases e;exact⟨p,_,rfl,.inl (d5.of a),q⟩
  ·rename_i c a;cases e;exact⟨p,_,rfl,.inr (hX.of a),q⟩
  ·cases e
 | _=>cases e
def rSlF:V->Option Int->Option Int->Hp->VK->Prop:=λx c d H Q=>∃a,x = .ref a /\
 ((∃xs,H a=some (.lst xs)/\∀p,H p=none->Q (.ref p) (upd H p (.lst (cutV xs c d)))) \/
  (∃xs,H a=some (.tup xs)/\¬(HT.sIx xs.length 0 c=0/\HT.sIx xs.length xs.length d=xs.length)/\∀p,H p=none->Q (.ref p) (upd H p (.tup (cutV xs c d)))))
def rD (J:It)(g:TG)(tb:TS)(D:jA)(c:St)(h:Hp):Prop:=∃W:Nat->Nat->St->Hp->Prop,(∃m,W 0 m c h)/\∀i m c H,W i m c H ->
 (J.stop i H/\D.nx c H)\/(J.go i H/\∃N:St->Hp->Prop,(∀a H',N a H'->∃e,e<m/\W (i+1) e a H')/\∀x H',J.yld i H x H'->g x c H' λd f=>tb {D with nx:=N,ct:=N,bk:=D.nx} d f)
def tFor_eq {c:TI}{g:TG}{tb:TS}{D:jA}{a:St}{H:Hp}:tFor c g tb D a H=c a H λJ d=>rD J g tb D a d:=rfl
def oH (J:It)(g:TG)(d:TT)(e:TE)(Q:VK)(c:St)(f:Hp):Prop:=∃W:CW,(∃m,W 0 m [] c f)/\SV J g d e (λa H=>∀p,H p=none->Q (.ref p) (upd H p (.lst a))) W
def tComp_eq {src:List (Option Nat)}{c:TI}{g:TG}{d:TT}{e:TE}{a:St}{H:Hp}{Q:VK}:tComp src c g d e a H Q=c a H λJ f=>oH J g d e Q (stC src a) f:=rfl
def iAny (K:d6)(tl:TE):TI:=λd H R=>tl d H λx c=>∃a,x = .ref a/\((∃xs,c a=some (.lst xs)/\R (SR K a) c)\/(∃xs,c a=some (.tup xs)/\R (SQ K a) c))
section
variable {g:TG}{tb:TS}{D:jA}{σ:St}{H:Hp}{tt:TT}{te:TE}{Q:VK}{K:d6}
def oV {d:Int}{n:Nat}(Pv:Nat->St->Hp->Prop)(f:Pv 0 a H)
  (e:∀i a H,i<n->Pv i a H->g (.int (d+i)) a H λc h=>tb {D with nx:=Pv (i+1),ct:=Pv (i+1),bk:=D.nx} c h) (hd:∀a H,Pv n a H->D.nx a H):rD (R3 d n) g tb D a H:=JU Pv f e hd
def JW {a:Addr}(xs:List V)(Pv:Nat->St->Hp->Prop)(h:Pv 0 c H)(hl:∀i c H,i<=xs.length->Pv i c H->H a=some (.lst xs))
  (e:∀i x c H,xs[i]?=some x->Pv i c H->g x c H λd j=>tb {D with nx:=Pv (i+1),ct:=Pv (i+1),bk:=D.nx} d j) (hd:∀c H,Pv xs.length c H->D.nx c H):rD (SR K a) g tb D c H :=
 NY Pv h (λi c H f p=>d5.of (hl i c H f p)) e hd
def NZ {a:Addr}(xs:List V)(Pv:Nat->St->Hp->Prop)(h:Pv 0 c H)(hl:∀i c H,i<=xs.length->Pv i c H->H a=some (.tup xs))
  (e:∀i x c H,xs[i]?=some x->Pv i c H->g x c H λd j=>tb {D with nx:=Pv (i+1),ct:=Pv (i+1),bk:=D.nx} d j) (hd:∀c H,Pv xs.length c H->D.nx c H):rD (SQ K a) g tb D c H :=
 RG Pv h (λi c H f p=>hX.of (hl i c H f p)) e hd
def CStep (g:TG)(f:TT)(h:TE)(x:V)(c:List V)(e:St)(H:Hp)(N:List V->St->Hp->Prop):Prop :=
 g x e H λa j=>f a j λb d=>if b=true then h a d λy i=>c.length<sizeLine/\N (c++[y]) a i else N c a d
def kY {J:It}{n:Nat}(Pv:Nat->List V->St->Hp->Prop)(l:Pv 0 [] d H)
  (j:∀i c d H,i<n->Pv i c d H->J.go i H/\∀x H',J.yld i H x H'->CStep g tt te x c d H' (Pv (i+1)))
  (hd:∀c d H,Pv n c d H->J.stop n H/\∀p,H p=none->Q (.ref p) (upd H p (.lst c))):oH J g tt te Q d H:=by
 refine⟨λi m c d H=>m=n - i/\i<=n/\Pv i c d H,⟨n,dV,aw _,l⟩,?_⟩;rintro i m c d H ⟨rfl,o,p⟩;by_cases f:i<n
 ·obtain⟨go,step⟩:=j i c d H f p;refine .inr ⟨go,λx H' y=>?_⟩;have e:∀c d H,(∃h,h<n - i/\h=n - (i+1)/\i+1<=n/\Pv (i+1) c d H)=Pv (i+1) c d H:=λc d H=>propext ⟨λ⟨_,_,_,_,q⟩=>q,λq=>⟨n - (i+1),dz,rfl,f,q⟩⟩;simp only[e];exact step x H' y
 ·have e:i=n:=by lia
  subst e;obtain⟨a,b⟩:=hd c d H p;exact .inl ⟨a,b⟩
def nG {d:Int}{n:Nat}(Pv:Nat->List V->St->Hp->Prop)(h:Pv 0 [] c H)(f:∀i a c H,i<n->Pv i a c H->CStep g tt te (.int (d+i)) a c H (Pv (i+1)))
  (hd:∀a c H,Pv n a c H->∀p,H p=none->Q (.ref p) (upd H p (.lst a))):oH (R3 d n) g tt te Q c H :=
 kY Pv h (λi a c H e p=>⟨e,λx H' y=>by obtain⟨rfl,rfl⟩:=y;exact f i a c _ e p⟩) λa c H p=>⟨ac _,hd a c H p⟩
def EW {a:Addr}(xs:List V)(Pv:Nat->List V->St->Hp->Prop)(h:Pv 0 [] d H)(hl:∀i c d H,i<=xs.length->Pv i c d H->H a=some (.lst xs))
  (f:∀i x c d H,xs[i]?=some x->Pv i c d H->CStep g tt te x c d H (Pv (i+1))) (hd:∀c d H,Pv xs.length c d H->∀p,H p=none->Q (.ref p) (upd H p (.lst c))):oH (SR K a) g tt te Q d H :=
 kY (n:=xs.length) Pv h (λi c d H e p=>⟨⟨xs,xs[i],d5.of (hl i c d H (Nat.le_of_lt e) p),by simp[e]⟩,λx H' y=>by obtain⟨rfl,y⟩:=y;exact f i x c d _ (y xs (d5.of (hl i c d _ (Nat.le_of_lt e) p))) p⟩)
  λc d H p=>⟨⟨xs,d5.of (hl _ c d H (ac _) p),ac _⟩,hd c d H p⟩
def J4 {a:Addr}(xs:List V)(Pv:Nat->List V->St->Hp->Prop)(h:Pv 0 [] d H)(hl:∀i c d H,i<=xs.length->Pv i c d H->H a=some (.tup xs))
  (f:∀i x c d H,xs[i]?=some x->Pv i c d H->CStep g tt te x c d H (Pv (i+1))) (hd:∀c d H,Pv xs.length c d H->∀p,H p=none->Q (.ref p) (upd H p (.lst c))):oH (SQ K a) g tt te Q d H :=
 kY (n:=xs.length) Pv h (λi c d H e p=>⟨⟨xs,xs[i],hX.of (hl i c d H (Nat.le_of_lt e) p),by simp[e]⟩,λx H' y=>by obtain⟨rfl,y⟩:=y;exact f i x c d _ (y xs (hX.of (hl i c d _ (Nat.le_of_lt e) p))) p⟩)
  λc d H p=>⟨⟨xs,hX.of (hl _ c d H (ac _) p),ac _⟩,hd c d H p⟩
def zB {n:Nat}{i:Int}(c:0<=i)(a:i<n):ixN n i=some i.toNat:=by unfold ixN;rw[aj c,aj a]
def uP {a:Type}{xs:List a}{i:Int}(d:0<=i)(c:i<xs.length):atI xs i=xs[i.toNat]?:=by unfold atI;rw[zB d c];rfl
def atI_zero {c:Type}{a:c}{xs:List c}:atI (a::xs) 0=some a:=by rw[uP dw (by simp only[ar];lia)];rfl
def atI_one {c:Type}{a b:c}{xs:List c}:atI (a::b::xs) 1=some b:=by rw[uP dw (by simp only[ar];lia)];rfl
def ixN_zero:ixN (n+1) 0=some 0:=by rw[zB dw dz];rfl
def ixN_one:ixN (n+1+1) 1=some 1:=by rw[zB dw dz];rfl
def CP {c:Type}{xs:List c}{a:c}:atI (xs++[a]) (-1)=some a:=OL xs a
end
def aA.upd (h:H a=none):aA H (upd H a o):=λb u e=>upk (aC e h) e
def cZ (p:Addr)(H H':Hp):Prop:=∀b o,b≠p->H b=some o->H' b=some o
def nwH {H:Hp}{p:Addr}(o:HO)(h:H p=none):∃a,upd H p o=a/\aA H a/\a p=some o:=⟨_,rfl,aA.upd h,ew⟩
def szl (k:Nat)(h:k<=sizeLine:=by decide):k<=sizeLine:=h
def cZ.refl (p:Addr)(H:Hp):cZ p H H:=λ_ _ _ h=>h
def cZ.trans (a:cZ p H H1)(b:cZ p H1 H2):cZ p H H2:=λc o n h=>b c o n (a c o n h)
def cZ.upd (p:Addr)(H:Hp)(o:HO):cZ p H (upd H p o):=λc u n h=>upk n h
def cZ.new (h:H a=none):cZ p H (L2.upd H a o):=λc u n e=>upk (aC e h) e
def aA.but (s:aA H H'):cZ p H H':=λb o _ h=>s b o h
end L2
namespace L2
open PySem PySem.Spec PyProof.Rows PyProof.Rows.LSm
def rK:∀{bs:List Bool} {us:dA},aO (bs.map V.bl) us->BoolsAre us bs
 | [],_,r=>by cases r;exact .nil
 | b::bs,_,r=>by
  cases r with
  | cons r1 a=>cases r1;exact .cons b (rK a)
def EJ {E:cE}(d:Bool){K:Bool->ee->Prop}{a:Nat->(Nat->Bool)->Bool}(m:A.handled=none)(at_:s.heap.IsList p its.toArray)(f:BoolsAre its bs)
  (k:∀h' tk,(∀b x,s.heap.get? b=some x->h'.get? b=some x)->K (a bs.length λi=>(bs[i]?).getD d) {s with heap:=h',toks:=tk}) :
  wM prog w A (pyIter (.ref p)) (λit t=>∃I o h n P St tr,it = .ref I/\Walks prog w A I o h n P St/\St 0 t.heap/\TruthOf prog w A P tr /\
   ∀h' tk,(∀b x,b∉h->t.heap.get? b=some x->h'.get? b=some x)->K (a n tr) {t with heap:=h',toks:=tk}) E s:=by
 have ne:p≠s.heap.objs.size:=let⟨_,e,_⟩:=id at_;bv (bf e);have c:TruthOf prog w A (λi v=>its.toArray[i]?=some v) λi=>(bs[i]?).getD d:=by intro i v t Q X j g;obtain⟨b,is,rfl⟩:=LSm.BoolsAre.get f i v (by simpa using j);have g:Q ((bs[i]?).getD d) t:=g;rw[is]at g;exact wpAny_truthy_bool g
 have len:its.toArray.size=bs.length:=(ai ..).trans (LSm.BoolsAre.length f);refine wpAny_pyIter_list at_ ⟨_,_,_,_,_,_,_,rfl,Walks.list m s.heap.objs.size p ne its.toArray,?_,c,λh' tk l=>?_⟩
 ·exact aI ⟨_,av _ rfl,rfl,rfl⟩ (at_.push _)
 ·rw[len];exact k h' tk (LSm.kept_iter l)
def rAll:List V->Hp->VK->Prop:=λxs H Q=>∃(p:Addr) (bs:List Bool),xs=[.ref p]/\H p=some (.lst (bs.map V.bl))/\Q (.bl (bs.all id)) H
def rAny:List V->Hp->VK->Prop:=λxs H Q=>∃(p:Addr) (bs:List Bool),xs=[.ref p]/\H p=some (.lst (bs.map V.bl))/\Q (.bl (bs.any id)) H
def rSum:List V->Hp->VK->Prop:=λxs H Q=>∃(p:Addr) (ns:List Int),xs=[.ref p]/\H p=some (.lst (ns.map V.int))/\Q (.int ns.sum) H
def uO (o:X.calm=true){c:Nat->(Nat->Bool)->Bool}{a:List Bool->Bool}(d:Bool)(is:∀bs:List Bool,c bs.length (λi=>(bs[i]?).getD d)=a bs)
  (ask:∀{s:ee} {x:ef} {Q E:cE},wpAny (model X.prog X.w) X.A.in1 (pyIter x) (λit t=>∃I v g n P St tr,it = .ref I/\Walks X.prog X.w X.A.in1 I v g n P St/\St 0 t.heap/\TruthOf X.prog X.w X.A.in1 P tr /\
   ∀h' tk,(∀b x,b∉g->t.heap.get? b=some x->h'.get? b=some x)->Q (.bool (c n tr)) {t with heap:=h',toks:=tk}) E s->wX X (call (.builtin nm) [x]) Q E s) :
  dZ X (.builtin nm) λxs H Q=>∃(p:Addr) (bs:List Bool),xs=[.ref p]/\H p=some (.lst (bs.map V.bl))/\Q (.bl (a bs)) H:=by
 rintro f s h H _ us Q I r ⟨p,bs,rfl,l,q⟩;obtain⟨u,rfl,e⟩:=vals1 r;cases e;obtain⟨its,j,pl,_⟩:=I.list (d5.of l);refine ask (EJ (K:=λb t=>EP X f h Q (.bool b) t) d (show X.A.in1.handled=none from I.ok.hd o) pl.isList (rK j) λh' tk m=>?_);rw[is bs];exact⟨.bl (a bs),H,I.kept (t':=tk) m,rfl,q⟩
def qY (a:X.calm=true):dZ X (.builtin "all") rAll:=uO a true LSm.range_all call_all_walk
def KC (a:X.calm=true):dZ X (.builtin "any") rAny:=uO a false LSm.range_any call_any_walk
def J6 (j:X.calm=true):dZ X (.builtin "sum") rSum:=by
 intro a s o H xs us Q I r h;obtain⟨p,ns,rfl,g,q⟩:=h;obtain⟨u,rfl,e⟩:=vals1 r;cases e;obtain⟨its,f,pl,hz⟩:=I.list (d5.of g);have d:IntsAre its ns:=uE f;obtain⟨ys,c⟩:=d.allInts.items;have hl':s.heap.IsList p (intItems ys):=c ▸ pl.isList;refine sum_intListG (I.ok.hd j) hl' λh' tk t' i=>?_;have m:ns=ys.toList.map (·.1):=by rw[<-nums_intItems,<-c];exact(show numsOf its.toArray.toList=ns from d.numsOf).symm
 have l:preSum (numAt ys) ys.size=ns.sum:=by have all:(ys.toList.map (·.1)).take ys.size=ys.toList.map (·.1):=List.take_of_length_le dV;rw[m,<-all,<-preSum_eq]
 rw[l];exact⟨.int ns.sum,H,I.kept (t':=tk) i,⟨t',rfl⟩,q⟩
end L2
namespace L2
open PySem PySem.Spec PyProof.Rows
def aK.turnedL {t':Nat}{ch:List Addr}(I:aK X pins σ H s)(k:∀b o,b∉ch->s.heap.get? b=some o->h'.get? b=some o)(f:∀b∈ch,fZ X pins H b):aK X pins σ H {s with heap:=h',toks:=t'}:=by
 have d:∀b u,H b=some u->b∉ch:=λb u e z=>by rw[(f b z).1]at e;cases e
 have h:X.env.locals∉ch:=λz=>(f _ z).2.1 rfl;refine I.step (g':=s.gens) (d':=s.drawn) (ch:=ch) (λb g=>?_) (λb o _ _ a e _=>k b o a e) (λb o _ _ a e _=>⟨o.slots,k b o a e⟩) (λ_ _ _ _ n=>n)
  (λb o a e=>⟨o,k b o a e⟩) (λ_ _ e=>e) (λ_ _ _ e=>e) (λb ps e=>⟨#[],by rw[e];simp⟩) (λm hm=>?_) (λb u e=>?_) I.bare
 ·obtain⟨f0,f1,f2,f3,f4,i⟩:=f b g;exact⟨f3,f1,f4,i⟩
 ·obtain⟨o,es,j,ho,r⟩:=hm;exact⟨o,es,j,k _ o h ho,r⟩
 ·refine(I.hok b u e).stay (λc v a q=>k c v ?_ q) (λ_ q=>q) λ_ _ q=>q;rcases a with z|z
  ·rw[z];exact d b u e
  ·exact d c _ z
def aK.turnedLaid {t':Nat}{ch:List Addr}{T:Addr}{o:HO}(I:aK X pins σ H s)(k:∀b o,b∉ch->s.heap.get? b=some o->h'.get? b=some o)(h:∀b∈ch,fZ X pins H b)
  (i:s.heap.objs.size<=T) (new:cD X.prog X.w (upd H T o) h' T o):aK X pins σ (upd H T o) {s with heap:=h',toks:=t'}:=by
 have f:H T=none:=I.hok.fresh i;have d:∀b u,H b=some u->b∉ch:=λb u e z=>by rw[(h b z).1]at e;cases e
 have j:X.env.locals∉ch:=λz=>(h _ z).2.1 rfl;have lt:∀b ob,s.heap.get? b=some ob->b≠T:=λb ob e=>bv (bh (bf e) i);refine I.step (g':=s.gens) (d':=s.drawn) (ch:=ch) (λb g=>?_) (λb o _ _ a e _=>k b o a e) (λb o _ _ a e _=>⟨o.slots,k b o a e⟩) (λb ob _ e n=>upk (lt b ob e) n)
  (λb o a e=>⟨o,k b o a e⟩) (λb xs e=>upk (aC e f) e) (λb _ _ e=>upk (aC e f) e) (λb ps e=>⟨#[],by rw[bG (aC e f),e];simp⟩) (λm hm=>?_) (λb u e=>?_) I.bare
 ·obtain⟨f0,f1,f2,f3,f4,l⟩:=h b g;exact⟨f3,f1,f4,l⟩
 ·obtain⟨o,es,A,ho,r⟩:=hm;exact⟨o,es,A,k _ o j ho,r⟩
 ·by_cases g:b=T
  ·subst g;rw[ew]at e;cases e;exact new
  ·rw[bG g]at e;refine(I.hok b u e).stay (λc v a q=>k c v ?_ q) (λc q=>upk (aC q f) q) λc xs q=>upk (aC q f) q;rcases a with z|z
   ·rw[z];exact d b u e
   ·exact d c _ z
def YB (K:d6)(a b:Addr):It :=
 ⟨λi H=>∃xs ys x y,d5 K H a xs/\d5 K H b ys/\xs[i]?=some x/\ys[i]?=some y,
  λi H z H'=>∃T x y,z = .ref T/\H T=none/\H'=upd H T (.tup [x,y])/\∀xs ys,d5 K H a xs->d5 K H b ys->xs[i]?=some x/\ys[i]?=some y,
  λi H=>∃xs ys,d5 K H a xs/\d5 K H b ys/\(xs.length<=i\/ys.length<=i)⟩
structure ZipAt (z TI TO i1 i2:Addr):Prop where
 TIz:TI≠z
 TOz:TO≠z
 i1z:i1≠z
 i2z:i2≠z
 TITO:TI≠TO
 TIi1:TI≠i1
 TIi2:TI≠i2
 TOi1:TO≠i1
 TOi2:TO≠i2
 i12:i1≠i2
def iZip (K:d6)(e:TA):TI:=λd H R=>e d H λvs c=>∃a b,vs=[.ref a,.ref b]/\(∃xs,d5 K c a xs)/\(∃ys,d5 K c b ys)/\R (YB K a b) c
def VS (J:It)(g:TG)(h:TT)(j:TE)(Fin:List V->St->Hp->Prop)(W:CW):Prop:=∀i m a e H,W i m a e H ->
 (J.stop i H/\Fin a e H) \/
 (J.go i H/\∀x H',J.yld i H x H'->g x e H' λc o=>h c o λb f =>
  if b=true then j c f λy l=>a.length<sizeLine/\∃d,d<m/\W (i+1) d (a++[y]) c l else ∃d,d<m/\W (i+1) d a c f)
def YG (J:It)(g:TG)(d:TT)(e:TE)(Fin:List V->St->Hp->Prop)(a:List V)(c:St)(H:Hp):Prop:=∃W:CW,(∃m,W 0 m a c H)/\VS J g d e Fin W
def O2 (J:It)(q:TG)(g:TI)(o:TG)(j:TT)(l:TE)(Q:VK)(e:St)(z:Hp):Prop:=∃W:CW,(∃m,W 0 m [] e z)/\∀i m a e H,W i m a e H ->
 (J.stop i H/\∀p,H p=none->Q (.ref p) (upd H p (.lst a))) \/
 (J.go i H/\∀x H',J.yld i H x H'->q x e H' λc w=>g c w λr v=>YG r o j l (λd f u=>∃h,h<m/\W (i+1) h d f u) a c v)
def TB (src:List (Option Nat))(d:TI)(h:TG)(a:TI)(g:TG)(e:TT)(f:TE):TE:=λc H Q=>d c H λJ i=>O2 J h a g e f Q (stC src c) i
end L2
namespace L2
open PySem PySem.Spec PyProof.Rows
open PySem.AutoSeq1 (wpAny_loadPart')
open PySem.MeetsSeq PySem.MeetsSeq2 PySem.MeetsSeq3
noncomputable abbrev ltAsk (l b:Addr)(i:Nat):Args:=⟨[.ref l,.ref b,rawInt i,rawInt 0],[]⟩
end L2
namespace L2
open PySem PySem.Spec PyProof.Rows
def P4 (g:X.calm=true)(d:X.N.Nodup)(f:X.N[i]?=some x)(e:X.N[j]?=some y)(c:X.env.scope.names.lookup x=some .local)(a:X.env.scope.names.lookup y=some .local) :
  PG X (.Tuple [.Name x px,.Name y py] k pos) (gTup X.K 2 (gCons (gName i) (gCons (gName j) gNil))) :=
 tL g (dU (bV d f (.inl c) (.inr c)) (dU (bV d e (.inl a) (.inr a)) nO))
def tComp2_eq {src:List (Option Nat)}{c:TI}{a:St}{H:Hp}{Q:VK}:TB src c g1 wi2 g2 tt te a H Q=c a H λJ d=>O2 J g1 wi2 g2 tt te Q (stC src a) d:=rfl
def rN0:Prop:=False
def rNo:R2:=λx y _ _=>∃a b,x = .ref a/\y = .ref b/\rN0
def qP (f:X.A.units+64<cLine):jE X (compareOp .Lt) (λx y H Q=>(rI0 (λi j=>.bl (decide (i<j))) x y H Q\/(∃i j,x = .str i/\y = .str j/\Q (.bl (decide (i.cps.toList<j.cps.toList))) H))\/rNo x y H Q) :=
 λa s c H x y v u Q I e d h=>(V6.or I9) a s c H x y v u Q I e d (h.elim id λ⟨_,_,_,_,z⟩=>(show False from z).elim)
section
variable {H:Hp}{a p:Addr}{xs:List V}{Q:VK}{K:d6}
def rIs_eq:rIs [x,c] H Q = ∃b,isV H x c=some b/\Q (.bl b) H:=propext ⟨λ⟨a,c',b,e,h,q⟩=>by cases e;exact⟨b,h,q⟩,λ⟨b,h,q⟩=>⟨x,c,b,rfl,h,q⟩⟩
def truV_bl:ON K (.bl b) H k=(k=b):=rfl
def isV_ii:isV H (.int n) (.ty "int")=some true:=rfl
def isV_ib:isV H (.int n) (.ty "bool")=some false:=rfl
def isV_bb:isV H (.bl n) (.ty "bool")=some true:=rfl
def isV_ll (h:H a=some (.lst xs)):isV H (.ref a) (.ty "list")=some true:=by unfold isV tyN;simp only[h];rfl
def NR (h:H a=some (.lst xs))(c:H p=some (.tup [.ty "list",.ty "tuple"])):isV H (.ref a) (.ref p)=some true:=by unfold isV tyN clsV;simp only[h,c];rfl
def NQ (h:H a=some (.tup xs))(c:H p=some (.tup [.ty "list",.ty "tuple"])):isV H (.ref a) (.ref p)=some true:=by unfold isV tyN clsV;simp only[h,c];rfl
def lenV_l (h:H a=some (.lst xs)):lenV H (.ref a)=some xs.length:=by unfold lenV;simp only[h]
def lenV_t (h:H a=some (.tup xs)):lenV H (.ref a)=some xs.length:=by unfold lenV;simp only[h]
def seqV_l (h:H a=some (.lst xs)):seqV H (.ref a)=some xs:=by unfold seqV;simp only[h]
def seqV_t (h:H a=some (.tup xs)):seqV H (.ref a)=some xs:=by unfold seqV;simp only[h]
def ixV_l (h:H a=some (.lst xs)):ixV H (.ref a) (.int i)=atI xs i:=by unfold ixV;simp only[h]
def ixV_t (h:H a=some (.tup xs)):ixV H (.ref a) (.int i)=atI xs i:=by unfold ixV;simp only[h]
end
def eI (H:Hp)(a:Addr)(xs:List V):Prop:=H a=some (.lst xs)\/H a=some (.tup xs)
def eI.same (h:eI H a xs)(s:aA H H'):eI H' a xs:=h.elim (λe=>.inl (s _ _ e)) λe=>.inr (s _ _ e)
def dL (K:d6)(h:X.K=K)(f:X.calm=true)(g:X.N.Nodup)(e:X.N[i]?=some x)(d:X.N[j]?=some y)(c:X.env.scope.names.lookup x=some .local)(a:X.env.scope.names.lookup y=some .local) :
  PG X (.Tuple [.Name x px,.Name y py] k pos) (gTup K 2 (gCons (gName i) (gCons (gName j) gNil))):=by subst h;exact P4 f g e d c a
def tTruth (K:d6)(d:TE):TT:=λc H Q=>d c H λx a=>∃k,ON K x a k/\Q k a
def wN (K:d6)(f:X.K=K)(e:PE X a ta)(d:∀c,isTrue a X.env c=(do let v <-c;standAt a.pos;holding [v] (truthy v))):PT X a (tTruth K ta):=by subst f;exact LZ e d
def R5 (K:d6)(a:Addr)(xs:List V)(J:It)(H:Hp):Prop:=(J=SR K a/\H a=some (.lst xs))\/(J=SQ K a/\H a=some (.tup xs))
def iSq (K:d6)(tl:TE):TI:=λd H R=>tl d H λx c=>∃a xs,x = .ref a/\eI c a xs/\∀J,R5 K a xs J c->R J c
def TR (K:d6)(z:X.K=K)(hl:PE X l tl):PI X tg l (iSq K tl):=by
 subst z;intro f s m H R I h;refine thn (hl f s m H _ I h) λv c ⟨x,j,d,r1,u⟩=>?_;obtain⟨a,xs,e,w,q⟩:=u;subst e;cases r1;rcases w with g|g
 ·obtain⟨its,r,p,hz⟩:=d.list (d5.of g);refine wpAny_pyIter_list p.isList ?_;refine⟨c.heap.objs.size,[c.heap.objs.size],_,_,j,rfl,d.kept (t':=c.toks) λb o e=>ag _ e,ID a _,⟨_,av _ rfl,rfl,rfl⟩,λb i=>?_,q _ (.inl ⟨rfl,g⟩)⟩;have e:b=c.heap.objs.size:=by simpa using i
  subst e;exact d.fpOk (ac _) (d.hok.fresh (ac _))
 ·obtain⟨its,r,p,hz⟩:=d.tuple (hX.of g);refine wpAny_pyIter_tuple (show c.heap.IsTuple a its.toArray from p) ?_;refine⟨c.heap.objs.size,[c.heap.objs.size],_,_,j,rfl,d.kept (t':=c.toks) λb o e=>ag _ e,DA a _,⟨_,av _ rfl,rfl,rfl⟩,λb i=>?_,q _ (.inr ⟨rfl,g⟩)⟩;have e:b=c.heap.objs.size:=by simpa using i
  subst e;exact d.fpOk (ac _) (d.hok.fresh (ac _))
section
variable {g g1 g2:TG}{tb:TS}{D:jA}{σ:St}{H:Hp}{tt:TT}{te:TE}{Q:VK}{K:d6}{wi2:TI}{J:It}{a:Addr}{xs:List V}
def gZ (l:R5 K a xs J H)(Pv:Nat->St->Hp->Prop)(j:Pv 0 c H)(hl:∀i c H',i<=xs.length->Pv i c H'->H' a=H a)
  (h:∀i x c H,xs[i]?=some x->Pv i c H->g x c H λd m=>tb {D with nx:=Pv (i+1),ct:=Pv (i+1),bk:=D.nx} d m) (hd:∀c H,Pv xs.length c H->D.nx c H):rD J g tb D c H:=by
 rcases l with⟨rfl,e⟩|⟨rfl,e⟩
 ·exact JW xs Pv j (λi c H' f p=>(hl i c H' f p).trans e) h hd
 ·exact NZ xs Pv j (λi c H' f p=>(hl i c H' f p).trans e) h hd
def cQ (l:R5 K a xs J H)(Pv:Nat->List V->St->Hp->Prop)(j:Pv 0 [] d H)(hl:∀i c d H',i<=xs.length->Pv i c d H'->H' a=H a)
  (h:∀i x c d H,xs[i]?=some x->Pv i c d H->CStep g tt te x c d H (Pv (i+1))) (hd:∀c d H,Pv xs.length c d H->∀p,H p=none->Q (.ref p) (upd H p (.lst c))):oH J g tt te Q d H:=by
 rcases l with⟨rfl,e⟩|⟨rfl,e⟩
 ·exact EW xs Pv j (λi c d H' f p=>(hl i c d H' f p).trans e) h hd
 ·exact J4 xs Pv j (λi c d H' f p=>(hl i c d H' f p).trans e) h hd
end
def rSlU:V->Option Int->Option Int->Hp->VK->Prop:=λx c d H Q=>∃a xs,x = .ref a/\eI H a xs/\((∃ys,H a=some (.tup ys))->¬(HT.sIx xs.length 0 c=0/\HT.sIx xs.length xs.length d=xs.length)) /\
 ∀p o,H p=none->(o = .lst (cutV xs c d)/\H a=some (.lst xs)\/o = .tup (cutV xs c d)/\H a=some (.tup xs))->Q (.ref p) (upd H p o)
def iF:WG X rSlU:=by
 intro c s f H x v i g o u j Q I l r pl m h;obtain⟨a,xs,rfl,d|d,w,q⟩:=h
 ·exact FP c s f H _ v i g o u j Q I l r pl m ⟨a,xs,rfl,d5.of d,λp e=>q p _ e (.inl ⟨rfl,d⟩)⟩
 ·exact TD c s f H _ v i g o u j Q I l r pl m ⟨a,xs,rfl,hX.of d,w ⟨_,d⟩,λp e=>q p _ e (.inr ⟨rfl,d⟩)⟩
def rEqD_ii:rEqD (.int i) (.int j) H Q=Q (.bl (decide (i=j))) H:=by
 have e:eqD (.int i) (.int j)=decide (i=j):=by show(i == j)=_;rw[ck];simp
 refine propext ⟨λ⟨d,f,c,a,_,q⟩=>?_,λq=>⟨.int i,.int j,rfl,rfl,aw _,e ▸ q⟩⟩;have h:d = .int i:=aH.inj c (show aH H (.int i) (.int i)from rfl);have g:f = .int j:=aH.inj a (show aH H (.int j) (.int j)from rfl);rw[h,g,e]at q;exact q
def rNeD_ii:rNeD (.int i) (.int j) H Q=Q (.bl (!decide (i=j))) H:=by
 have e:eqD (.int i) (.int j)=decide (i=j):=by show(i == j)=_;rw[ck];simp
 refine propext ⟨λ⟨d,f,c,a,_,q⟩=>?_,λq=>⟨.int i,.int j,rfl,rfl,aw _,e ▸ q⟩⟩;have h:d = .int i:=aH.inj c (show aH H (.int i) (.int i)from rfl);have g:f = .int j:=aH.inj a (show aH H (.int j) (.int j)from rfl);rw[h,g,e]at q;exact q
def rEqD_ss:rEqD (.str i) (.str j) H Q=Q (.bl (decide (i=j))) H:=by
 have e:eqD (.str i) (.str j)=decide (i=j):=by show(i == j)=_;rw[ck];simp
 refine propext ⟨λ⟨d,f,c,a,_,q⟩=>?_,λq=>⟨.str i,.str j,rfl,rfl,aw _,e ▸ q⟩⟩;have h:d = .str i:=aH.inj c (show aH H (.str i) (.str i)from rfl);have g:f = .str j:=aH.inj a (show aH H (.str j) (.str j)from rfl);rw[h,g,e]at q;exact q
def rNeD_ss:rNeD (.str i) (.str j) H Q=Q (.bl (!decide (i=j))) H:=by
 have e:eqD (.str i) (.str j)=decide (i=j):=by show(i == j)=_;rw[ck];simp
 refine propext ⟨λ⟨d,f,c,a,_,q⟩=>?_,λq=>⟨.str i,.str j,rfl,rfl,aw _,e ▸ q⟩⟩;have h:d = .str i:=aH.inj c (show aH H (.str i) (.str i)from rfl);have g:f = .str j:=aH.inj a (show aH H (.str j) (.str j)from rfl);rw[h,g,e]at q;exact q
def n5 (d:H a=some (.lst xs))(c:H b=some (.lst ys))(hz:xs.length+ys.length<=sizeLine):catO H (.ref a) (.ref b)=some (.lst (xs++ys)):=by unfold catO;simp only[d,c];rw[aj hz]
def catO_i:catO H (.int i) y=none:=by cases y <;> rfl
def catO_s:catO H (.str i) y=none:=by cases y <;> rfl
def rTupU:List V->Hp->VK->Prop:=λxs H Q=>∃p ys,xs=[.ref p]/\eI H p ys/\∀l H',(H p=some (.tup ys)/\l=p/\H'=H\/H p=some (.lst ys)/\H l=none/\H'=upd H l (.tup ys))->Q (.ref l) H'
def dY:dZ X (.type "tuple") rTupU:=by
 refine vP.imp λxs H Q h=>?_;obtain⟨p,ys,rfl,a|a,q⟩:=h
 ·exact⟨p,ys,rfl,.inl ⟨d5.of a,λl hl=>q l _ (.inr ⟨a,hl,rfl⟩)⟩⟩
 ·exact⟨p,ys,rfl,.inr ⟨hX.of a,q p _ (.inl ⟨a,rfl,rfl⟩)⟩⟩
def aL:tComp src wi g tt te=λa H Q=>wi a H λJ c=>oH J g tt te Q (stC src a) c:=rfl
def aT:tFor wi g tb=λD a H=>wi a H λJ c=>rD J g tb D a c:=rfl
def aW {a b:Prop}(e:c=true->a)(d:c=false->b):(if c=true then a else b):=by
 cases c with
 | true=>rw[aj rfl];exact e rfl
 | false=>rw[ab dw];exact d rfl
def aD {t1 c:TS}{D:jA}{f:St}{H:Hp}(h:let r:=c;let e:=D;∀d:jA,(∀{a H'},r e a H'->d.nx a H')->d.rt=e.rt->let s:=f;t1 d s H):tSeq t1 c D f H:=h {D with nx:=λa H'=>c D a H'} (λz=>z) rfl
def dP {t:TS}{D:jA}{c:St}{H:Hp}(h:let r:=t;let e:=D;∀a:jA,(∀{σ' H'},e.nx σ' H'->a.nx σ' H')->a.rt=e.rt->let s:=c;r a s H):t D c H:=h D (λz=>z) rfl
def ltSz {n:Nat}(h:n<=16000000:=by first|lia|(simp;lia)):n<sizeLine:=ak h dw
def leSz {n:Nat}(h:n<=16000000:=by first|lia|(simp;lia)):n<=sizeLine:=aq h dw
def els {b:Prop}(h:b):if false=true then True else b:=by rw[ab dw];exact h
def h9 {D a:jA}(e:a.rt=D.rt){v:V}{H:Hp}(h:D.rt v H):a.rt v H:=e ▸ h
def eqIC {i j:Int}{a:St}{H:Hp}{Q:VK}(q:Q (.bl (decide (i=j))) H):tC (.int j) a H λy c=>rEqD (.int i) y c Q:=(Eq.mpr rEqD_ii q:rEqD (.int i) (.int j) H Q)
def tRaise (C:Addr)(E:XK)(c:TA):TS:=λ_ a H=>c a H λvs d=>vs.length<=1000/\E (.ref C) none d
def tTry (tb:TS)(EX:XK)(e:TS):TS:=λD c H=>tb D c H/\∀cls d a H',EX cls d H'->e D a H'
def YC (K:d6)(a:Addr):It :=
 ⟨λi H=>∃xs x,d5 K H a xs/\xs[i]?=some x,λi H z H'=>∃T x,z = .ref T/\H T=none/\H'=upd H T (.tup [.int i,x])/\∀xs,d5 K H a xs->xs[i]?=some x,λi H=>∃xs,d5 K H a xs/\xs.length<=i⟩
def iEnum (K:d6)(e:TA):TI:=λd H R=>e d H λvs c=>∃a,vs=[.ref a]/\(∃xs,d5 K c a xs)/\R (YC K a) c
def kH (h:Heap)(i a:Addr)(k:Nat):Prop:=h.IsListIter i a k\/h.IsTupleIter i a k
def q9 (h:Heap)(a:Addr)(xs:lX):Prop:=∃o n,h.get? a=some o/\o.data = .seq xs n
def kH.at (x:kH h i a k)(e:∀o,h.get? i=some o->h'.get? i=some o):kH h' i a k:=x.elim (λy=>.inl (y.at e)) λy=>.inr (y.at e)
def q9.at (x:q9 h a xs)(e:∀o,h.get? a=some o->h'.get? a=some o):q9 h' a xs:=by obtain⟨o,n,ho,hd⟩:=x;exact⟨o,n,e o ho,hd⟩
def kH.obj (x:kH h i a k):∃o,h.get? i=some o/\o.data = .fields #[.ref a,.int k 0]:=by
 rcases x with⟨o,e,_,d⟩|⟨o,e,_,d⟩
 ·exact⟨o,e,d⟩
 ·exact⟨o,e,d⟩
section
variable {prog:eg}{w:eh}{A:en}{E:cE}{s:ee}{it l:Addr}{i:Nat}{items:lX}
def nQ {T id:String}{b:Builtin}{Q:cE}(kind:s.TypeIs (.ref it) T)(slot:Slot T "__next__" id)(a:entryFor table id=some b)(args:argsOk id ⟨[.ref it],[]⟩)
  (h:wpAny (model prog w) A.in1 (b ⟨[.ref it],[]⟩) (λf t=>∃v,f = .done (.ret v)/\Q v t) E s):wpAny (model prog w) A (Builtin.SmallTypes.nextOf (.ref it)) Q E s:=by
 have asked:wpAny (model prog w) A (callSpecial? (.ref it) "__next__") (λr t=>∃v,r=some v/\Q v t) E s :=
  wpAny_callSpecial?_slot kind slot (wpAny_call_entry slot kind a (thn h λf t ⟨v,e,q⟩=>⟨v,e,v,rfl,q⟩) args)
 refine aa (thn asked ?_);rintro _ t ⟨v,rfl,q⟩;exact ao q
structure nI (prog:eg)(w:eh)(A:en)(E:cE)(s:ee)(it l:Addr)(i:Nat)(items:lX):Prop where
 seq:∀(Q:cE),Q (.ref l) s->wpAny (model prog w) A (field (.ref it) 0) Q E s
 place:∀(Q:cE),Q (.int i 0) s->wpAny (model prog w) A (field (.ref it) 1) Q E s
 items:∀(Q:Option (lX)->ee->Prop),Q (some items) s->wpAny (model prog w) A (seqItems? (.ref l)) Q E s
 set:∀(k:Nat) (v:ef) (Q:Unit->ee->Prop),k<2->Q () {s with heap:=s.heap.update it (Obj.mapFields (·.setIfInBounds k v))}->wpAny (model prog w) A (setField (.ref it) k v) Q E s
def nI.of (ho:s.heap.get? it=some o)(hd:o.data = .fields #[.ref l,.int i 0])(hl:q9 s.heap l items):nI prog w A E s it l i items:=by obtain⟨e,nl,a,c⟩:=hl;exact⟨λ_ h=>wpAny_field ho hd rfl h,λ_ h=>wpAny_field ho hd rfl h,λ_ h=>wpAny_seqItems a c h,λk v _ d h=>wpAny_setField ho hd d h⟩
abbrev B1 (b:Builtin):Prop:=b=Builtin.«list_iterator.__next__»\/b=Builtin.«tuple_iterator.__next__»
def rE {Q:cE}(g:B1 b)(R:nI prog w A E s it l i items)(e:items[i]?=some x)
  (j:Q x {s with heap:=s.heap.update it (Obj.mapFields (·.setIfInBounds 1 (rawInt (i+1))))}):wpAny (model prog w) A (b ⟨[.ref it],[]⟩) (λf t=>∃v,f = .done (.ret v)/\Q v t) E s:=by
 have d:=R.seq;have r1:=R.place;have c:=R.items;have a:=λQ h=>R.set 1 (rawInt (i+1)) Q dw h;rcases g with rfl|rfl
 all_goals
  wp_walk using d,r1,c,a
  rw[cw,e]
  wp_walk using d,r1,c,a
  exact⟨x,rfl,j⟩
def tI {Q:PySem.Fin->ee->Prop}(g:A.handled=none)(j:B1 b)(R:nI prog w A E s it l i items)(f:items[i]?=none)
  (m:∀h' e,Heap.ExtBut it s.heap h'->(∃o,h'.get? e=some o/\o.cls = .type "StopIteration")->E (.ref e) {s with heap:=h'}):wpAny (model prog w) A (b ⟨[.ref it],[]⟩) Q E s:=by
 have d:=R.seq;have r1:=R.place;have c:=R.items;have a:=λQ h=>R.set 0 .none Q dw h;rcases j with rfl|rfl
 all_goals
  wp_walk using d,r1,c,a
  rw[cw,f]
  wp_walk using d,r1,c,a
  exact wpAny_raiseNew_none g (m _ _ (((Heap.SameBut.update ..).extBut.push _).push _) ⟨_,av _ rfl,rfl⟩)
def Q6 {Q:cE}(c:kH s.heap it l i)(hl:q9 s.heap l items)(g:items[i]?=some x)(h:∀h',kH h' it l (i+1)->Heap.SameBut it s.heap h'->Q x {s with heap:=h'}):wM prog w A (Builtin.SmallTypes.nextOf (.ref it)) Q E s:=by
 obtain⟨o,ho,hd⟩:=c.obj;have new:(s.heap.update it (Obj.mapFields (·.setIfInBounds 1 (rawInt (i+1))))).get? it=some (o.mapFields (·.setIfInBounds 1 (rawInt (i+1)))):=Heap.get?_update_self _ ho (Obj.isFreed_of_fields (Obj.data_mapFields hd _));have data:(o.mapFields (·.setIfInBounds 1 (rawInt (i+1)))).data = .fields #[.ref l,.int (i+1:Nat) 0]:=by rw[Obj.data_mapFields hd];simp[rawInt]
 have cls:(o.mapFields (·.setIfInBounds 1 (rawInt (i+1)))).cls=o.cls:=Obj.cls_mapFields ..;have same:Heap.SameBut it s.heap (s.heap.update it (Obj.mapFields (·.setIfInBounds 1 (rawInt (i+1))))):=Heap.SameBut.update ..;rcases c with f|e
 ·obtain⟨j,a,d,_⟩:=id f;rw[ho]at a;cases a;exact nQ f.typeIs slot_listiter_next entry_listiter_next (args_listiter_next _) (rE (.inl rfl) (nI.of ho hd hl) g (h _ (.inl ⟨_,new,cls.trans d,data⟩) same))
 ·obtain⟨j,a,d,_⟩:=id e;rw[ho]at a;cases a;exact nQ e.typeIs PySem.F.slot_tuple_iterator_next PySem.F.entry_tuple_iterator_next (PySem.F.args_tuple_iterator_next_1 _) (rE (.inr rfl) (nI.of ho hd hl) g (h _ (.inr ⟨_,new,cls.trans d,data⟩) same))
def UN {Q:cE}(j:A.handled=none)(a:kH s.heap it l i)(hl:q9 s.heap l items)(d:items[i]?=none)
  (f:∀h' e,Heap.ExtBut it s.heap h'->(∃o,h'.get? e=some o/\o.cls = .type "StopIteration")->E (.ref e) {s with heap:=h'}):wM prog w A (Builtin.SmallTypes.nextOf (.ref it)) Q E s:=by
 obtain⟨o,ho,hd⟩:=a.obj;have c:A.in1.handled=none:=j;rcases a with h|g
 ·exact nQ h.typeIs slot_listiter_next entry_listiter_next (args_listiter_next _) (tI c (.inl rfl) (nI.of ho hd hl) d f)
 ·exact nQ g.typeIs PySem.F.slot_tuple_iterator_next PySem.F.entry_tuple_iterator_next (PySem.F.args_tuple_iterator_next_1 _) (tI c (.inr rfl) (nI.of ho hd hl) d f)
end
structure VG (z TI TO i1 i2 l1 l2:Addr):Prop extends ZipAt z TI TO i1 i2 where
 n1:l1∉[z,TO,i1,i2]
 n2:l2∉[z,TO,i1,i2]
structure ZS (h0:Heap)(z TI TO i1 i2 l1 l2:Addr)(xs ys:lX)(h:Heap)(f a b:ef)(k1 k2:Nat):Prop where
 ap:VG z TI TO i1 i2 l1 l2
 zip:IsZip h z TI TO f
 tin:IsPair h TI (.ref i1) (.ref i2)
 tout:IsPair h TO a b
 one:kH h i1 l1 k1
 two:kH h i2 l2 k2
 src1:q9 h l1 xs
 src2:q9 h l2 ys
 far:∀c o,c∉[z,TO,i1,i2]->h0.get? c=some o->h.get? c=some o
section
variable {prog:eg}{w:eh}{A:en}{E:cE}{s:ee}{z TI TO i1 i2 l1 l2:Addr}{k1 k2:Nat}{xs ys:lX}{f a b:ef}{h0 h h':Heap}
def off4 (a:c∉[z,TO,i1,i2]):c≠z/\c≠TO/\c≠i1/\c≠i2:=by simpa using a
def ZS.self (Z:ZS h0 z TI TO i1 i2 l1 l2 xs ys h f a b k1 k2)(e:Heap.ExtBut z h h')(hz:IsZip h' z TI TO f'):ZS h0 z TI TO i1 i2 l1 l2 xs ys h' f' a b k1 k2 :=
 ⟨Z.ap,hz,e _ _ Z.ap.TIz Z.tin,e _ _ Z.ap.TOz Z.tout,Z.one.at λo=>e _ o Z.ap.i1z,Z.two.at λo=>e _ o Z.ap.i2z,Z.src1.at λo=>e _ o (off4 Z.ap.n1).1,Z.src2.at λo=>e _ o (off4 Z.ap.n2).1,λc o d q=>e c o (off4 d).1 (Z.far c o d q)⟩
def ZS.out (Z:ZS h0 z TI TO i1 i2 l1 l2 xs ys h f a b k1 k2)(e:Heap.ExtBut TO h h')(g:IsPair h' TO a' b'):ZS h0 z TI TO i1 i2 l1 l2 xs ys h' f a' b' k1 k2 :=
 ⟨Z.ap,e _ _ Z.ap.TOz.symm Z.zip,e _ _ Z.ap.TITO Z.tin,g,Z.one.at λo=>e _ o Z.ap.TOi1.symm,Z.two.at λo=>e _ o Z.ap.TOi2.symm,Z.src1.at λo=>e _ o (off4 Z.ap.n1).2.1,Z.src2.at λo=>e _ o (off4 Z.ap.n2).2.1,λc o d q=>e c o (off4 d).2.1 (Z.far c o d q)⟩
def ZS.on1 (Z:ZS h0 z TI TO i1 i2 l1 l2 xs ys h f a b k1 k2)(e:Heap.ExtBut i1 h h')(g:kH h' i1 l1 k):ZS h0 z TI TO i1 i2 l1 l2 xs ys h' f a b k k2 :=
 ⟨Z.ap,e _ _ Z.ap.i1z.symm Z.zip,e _ _ Z.ap.TIi1 Z.tin,e _ _ Z.ap.TOi1 Z.tout,g,Z.two.at λo=>e _ o Z.ap.i12.symm,Z.src1.at λo=>e _ o (off4 Z.ap.n1).2.2.1,Z.src2.at λo=>e _ o (off4 Z.ap.n2).2.2.1,λc o d q=>e c o (off4 d).2.2.1 (Z.far c o d q)⟩
def ZS.on2 (Z:ZS h0 z TI TO i1 i2 l1 l2 xs ys h f a b k1 k2)(e:Heap.ExtBut i2 h h')(g:kH h' i2 l2 k):ZS h0 z TI TO i1 i2 l1 l2 xs ys h' f a b k1 k :=
 ⟨Z.ap,e _ _ Z.ap.i2z.symm Z.zip,e _ _ Z.ap.TIi2 Z.tin,e _ _ Z.ap.TOi2 Z.tout,Z.one.at λo=>e _ o Z.ap.i12,g,Z.src1.at λo=>e _ o (off4 Z.ap.n1).2.2.2,Z.src2.at λo=>e _ o (off4 Z.ap.n2).2.2.2,λc o d q=>e c o (off4 d).2.2.2 (Z.far c o d q)⟩
theorem ZS.push (Z:ZS h0 z TI TO i1 i2 l1 l2 xs ys h f a b k1 k2)(o:Obj):ZS h0 z TI TO i1 i2 l1 l2 xs ys (h.push o) f a b k1 k2:=by have e:∀c x,h.get? c=some x->(h.push o).get? c=some x:=λc x q=>ag o q;exact⟨Z.ap,e _ _ Z.zip,e _ _ Z.tin,e _ _ Z.tout,Z.one.at (e _),Z.two.at (e _),Z.src1.at (e _),Z.src2.at (e _),λc x d q=>e c x (Z.far c x d q)⟩
structure ZF (prog:eg)(w:eh)(A:en)(E:cE)(s:ee)(z TI TO i1 i2:Addr)(f a b:ef):Prop where
 f0:∀(Q:cE),Q f s->wpAny (model prog w) A (field (.ref z) 0) Q E s
 f2:∀(Q:cE),Q (.bool false) s->wpAny (model prog w) A (field (.ref z) 2) Q E s
 f3:∀(Q:cE),Q (.ref TI) s->wpAny (model prog w) A (field (.ref z) 3) Q E s
 f4:∀(Q:cE),Q (.ref TO) s->wpAny (model prog w) A (field (.ref z) 4) Q E s
 ins:∀(Q:Option (lX)->ee->Prop),Q (some #[.ref i1,.ref i2]) s->wpAny (model prog w) A (seqItems? (.ref TI)) Q E s
 outs:∀(Q:Option (lX)->ee->Prop),Q (some #[a,b]) s->wpAny (model prog w) A (seqItems? (.ref TO)) Q E s
 set:∀(v:ef) (Q:Unit->ee->Prop),(∀h',IsZip h' z TI TO v->Heap.SameBut z s.heap h'->Q () {s with heap:=h'})->wpAny (model prog w) A (setField (.ref z) 0 v) Q E s
 put:∀(k:Nat) (v:ef) (Q:Unit->ee->Prop),(∀h',IsPair h' TO (if k=0 then v else a) (if k=1 then v else b)->Heap.SameBut TO s.heap h'->Q () {s with heap:=h'})->k<2->wpAny (model prog w) A (updateSeq TO (·.setIfInBounds k v)) Q E s
def ZS.asked (Z:ZS h0 z TI TO i1 i2 l1 l2 xs ys s.heap f a b k1 k2):ZF prog w A E s z TI TO i1 i2 f a b:=by
 refine⟨λ_ q=>wpAny_field Z.zip rfl rfl q,λ_ q=>wpAny_field Z.zip rfl rfl q,λ_ q=>wpAny_field Z.zip rfl rfl q,λ_ q=>wpAny_field Z.zip rfl rfl q,λ_ q=>wpAny_seqItems Z.tin rfl q,λ_ q=>wpAny_seqItems Z.tout rfl q,λv _ q=>?_,λk v _ q d=>?_⟩
 ·exact wpAny_setField_rec Z.zip dV λh' e c=>q h' e c
 ·refine wpAny_updateSeq_pair Z.tout λh' e c=>q h' ?_ c
  match k,d with
  | 0,_=>exact e
  | 1,_=>exact e
abbrev WC (h0:Heap)(z TI TO i1 i2 l1 l2:Addr)(xs ys:lX)(a b:ef)(k1 k2:Nat)(h:Heap):List (ef×Nat)->Prop
 | []=>∃x y,xs[k1]?=some x/\ys[k2]?=some y/\ZS h0 z TI TO i1 i2 l1 l2 xs ys h .ellipsis x y (k1+1) (k2+1)
 | [p]=>p=(.ref i2,1)/\∃x,xs[k1]?=some x/\ZS h0 z TI TO i1 i2 l1 l2 xs ys h .ellipsis x b (k1+1) k2
 | [p,q]=>p=(.ref i1,0)/\q=(.ref i2,1)/\ZS h0 z TI TO i1 i2 l1 l2 xs ys h .ellipsis a b k1 k2
 | _=>False
abbrev AJ (h:Heap)(e:Addr):Prop:=∃o,h.get? e=some o/\o.cls = .type "StopIteration"
def vY {a:Sem (Option ef)}{i l:Addr}{k:Nat}{items:lX}{Q:Option ef->ee->Prop}(hd:a=(Builtin.SmallTypes.nextOf (.ref i) >>= λv=>pure (some v)))(h:A.handled=none)(it:kH s.heap i l k)(src:q9 s.heap l items)(hz:IsZip s.heap z TI TO .ellipsis)(g:i≠z)
  (item:∀v h',items[k]?=some v->kH h' i l (k+1)->Heap.SameBut i s.heap h'->Q (some v) {s with heap:=h'})
  (stop:items[k]?=none->∀h' c e,Heap.ExtBut i s.heap h'->Heap.SameBut z h' c->AJ c e->E (.ref e) {s with heap:=c}) :
  wpAny (model prog w) A (a.onRaise λ_=>setField (.ref z) 0 .none) Q E s:=by
 subst hd;refine wpAny_onRaise (aa ?_);cases e:items[k]? with
 | some v=>exact Q6 it src e λh' m j=>ao (item v h' e m j)
 | none =>
  refine UN h it src e λh' x ext ⟨o,ho,f⟩=>?_;have zip:=ext z _ g.symm hz;have ne:x≠z:=λq=>by rw[q,zip]at ho;cases ho;exact absurd (show Value.type "zip" = .type "StopIteration" from f) dw
  exact wpAny_setField_rec zip dV λc _ d=>stop e h' c x ext d ⟨o,d.extBut x o ne ho,f⟩
def HZ {Q:cE}(Y:A.handled=none)(Z:ZS s.heap z TI TO i1 i2 l1 l2 xs ys s.heap .none a b k1 k2)
  (item:∀x y h',xs[k1]?=some x->ys[k2]?=some y->ZS s.heap z TI TO i1 i2 l1 l2 xs ys h' (rawInt s.heap.objs.size) x y (k1+1) (k2+1)->IsPair h' s.heap.objs.size x y->h'.objs.size=s.heap.objs.size+1->Q (.ref s.heap.objs.size) {s with heap:=h'})
  (stop:(xs[k1]?=none\/ys[k2]?=none)->∀h' e,(∀c o,c∉[z,TO,i1,i2]->s.heap.get? c=some o->h'.get? c=some o)->AJ h' e->E (.ref e) {s with heap:=h'}) :
  wpAny (model prog w) A (Builtin.«zip.__next__» ⟨[.ref z],[]⟩) (λf t=>∃v,f = .done (.ret v)/\Q v t) E s:=by
 have F:=Z.asked (prog:=prog) (w:=w) (A:=A) (E:=E);have g0:=F.f0;have g2:=F.f2;have g3:=F.f3;have g4:=F.f4;have gi:=F.ins;have gs:=F.set .ellipsis;obtain⟨h,g,d,tk,os⟩:=s;dsimp only at Z item stop
 wp_walk using g0,g2,g3,g4,gi,gs
 intro h1 R K;have Z1:=Z.self K.extBut R;have H:h1.objs.size=h.objs.size:=K.1;clear F g0 g2 g3 g4 gi gs
 wp_walk using wpAny_forIn_list _ (λrest r t=>r=((none:Option PySem.Fin),())/\∃h',t=⟨h',g,d,tk,os⟩/\h'.objs.size=h.objs.size/\WC h z TI TO i1 i2 l1 l2 xs ys a b k1 k2 h' rest) _
 case turn =>
  rintro p rest r t ⟨rfl,L,rfl,j,zr⟩
  match rest,zr with
  | [],⟨e,x,S,l⟩ =>
   subst e;refine aa (vY rfl Y l.two l.src2 l.zip l.ap.i2z (λv W T P m=>?_) λO W C e ext i st=>?_)
   ·have u:=l.on2 m.extBut P;refine aa (wpAny_seqItems u.tout rfl (aa (wpAny_updateSeq_pair u.tout λC N i=>aa (wpAny_letGo (ao ?_)))));exact⟨rfl,C,rfl,by rw[i.1,m.1];exact j,x,v,S,T,u.out i.extBut N⟩
   ·exact stop (.inr O) C e (λc o J q=>i.extBut c o (off4 J).1 (ext c o (off4 J).2.2.2 (l.far c o J q))) st
  | [q],⟨e1,e2,l⟩ =>
   subst e1 e2;refine aa (vY rfl Y l.one l.src1 l.zip l.ap.i1z (λv W T P m=>?_) λO W C e ext i st=>?_)
   ·have u:=l.on1 m.extBut P;refine aa (wpAny_seqItems u.tout rfl (aa (wpAny_updateSeq_pair u.tout λC N i=>aa (wpAny_letGo (ao ?_)))));exact⟨rfl,C,rfl,by rw[i.1,m.1];exact j,rfl,v,T,u.out i.extBut N⟩
   ·exact stop (.inl O) C e (λc o J q=>i.extBut c o (off4 J).1 (ext c o (off4 J).2.2.1 (l.far c o J q))) st
  | _::_::_,zr=>exact zr.elim
 case fin =>
  rintro r t ⟨rfl,L,rfl,j,x,y,S,hy,l⟩;refine aa (wpAny_seqItems l.tout rfl (aa (wpAny_newTuple ?_)));have u:=l.push {cls:=.type "tuple",data:=.seq #[x,y]};refine aa (aa (wpAny_setField_rec u.zip dV λC X i=>wpAny_setField_rec X dV λU z5 I=>ao ⟨_,rfl,?_⟩));have G:U.objs.size=h.objs.size+1:=by rw[I.1,i.1,Heap.size_push,j]
  have new:z≠L.objs.size:=bv (bf l.zip);have B:IsPair U L.objs.size x y:=I.extBut _ _ new.symm (i.extBut _ _ new.symm (av _ rfl));have Z5:=(u.self i.extBut (f':=rawInt L.objs.size) X).self I.extBut (f':=rawInt L.objs.size) z5;rw[j]at B Z5|-;exact item x y U S hy Z5 B G
 case h=>exact⟨rfl,h1,rfl,H,rfl,rfl,Z1⟩
def IR {it:Addr}{T id:String}{b:Builtin}{Q:Option ef->ee->Prop}(kind:s.TypeIs (.ref it) T)(slot:Slot T "__next__" id)(a:entryFor table id=some b)(args:argsOk id ⟨[.ref it],[]⟩)
  (h:wpAny (model prog w) A.in1 (b ⟨[.ref it],[]⟩) (λf t=>∃v,f = .done (.ret v)/\Q (some v) t) (λx t=>∃e,x = .ref e/\AJ t.heap e/\Q none t) s):wpAny (model prog w) A (pyNext (.ref it)) Q E s:=by
 have asked:wpAny (model prog w) A (callSpecial? (.ref it) "__next__") (λr t=>∃v,r=some v/\Q (some v) t) (λx t=>∃e,x = .ref e/\AJ t.heap e/\Q none t) s :=
  wpAny_callSpecial?_slot kind slot (wpAny_call_entry slot kind a (thn h λf t ⟨v,e,q⟩=>⟨v,e,v,rfl,q⟩) args)
 refine aa (wpAny_attempt (wpAny_mono asked ?_ ?_))
 ·rintro _ t ⟨v,rfl,q⟩;exact ao q
 ·rintro _ t ⟨e,rfl,⟨o,ho,c⟩,q⟩;exact aa (wpAny_isInstance ⟨o,ho,c⟩ isSubtype_stop (ao q))
def wT {Q:Option ef->ee->Prop}(f:A.handled=none)(Z:ZS s.heap z TI TO i1 i2 l1 l2 xs ys s.heap .none a b k1 k2)
  (item:∀x y h',xs[k1]?=some x->ys[k2]?=some y->ZS s.heap z TI TO i1 i2 l1 l2 xs ys h' (rawInt s.heap.objs.size) x y (k1+1) (k2+1)->IsPair h' s.heap.objs.size x y->h'.objs.size=s.heap.objs.size+1->Q (some (.ref s.heap.objs.size)) {s with heap:=h'})
  (stop:(xs[k1]?=none\/ys[k2]?=none)->∀h',(∀c o,c∉[z,TO,i1,i2]->s.heap.get? c=some o->h'.get? c=some o)->Q none {s with heap:=h'}):wpAny (model prog w) A (pyNext (.ref z)) Q E s :=
 IR (b:=Builtin.«zip.__next__») ⟨_,Z.zip,rfl⟩ PySem.F.slot_zip_next PySem.F.entry_zip_next (PySem.F.args_zip_next_1 _) (HZ (Q:=λv t=>Q (some v) t) f Z item λd h' e far st=>⟨e,rfl,st,stop d h' far⟩)
end
def OP (h:Heap)(l:Addr)(nm:String):Prop:=(∃xs,h.IsList l xs/\nm="list_iterator")\/(∃xs,h.IsTuple l xs/\nm="tuple_iterator")
def OP.push (x:OP h l nm):OP (h.push o) l nm:=by
 rcases x with⟨xs,y,e⟩|⟨xs,y,e⟩
 ·exact .inl ⟨xs,y.push _,e⟩
 ·exact .inr ⟨xs,y.push _,e⟩
def NP {E:cE}{Q:cE}(x:OP s.heap l nm)
  (h:Q (.ref s.heap.objs.size) {s with heap:=s.heap.push {cls:=.type nm,data:=.fields #[.ref l,.int 0 0]} }):wpAny (model prog w) A (pyIter (.ref l)) Q E s:=by
 rcases x with⟨xs,y,rfl⟩|⟨xs,y,rfl⟩
 ·exact wpAny_pyIter_list y h
 ·exact wpAny_pyIter_tuple y h
def J5 {E:cE}{Q:cE}(W:OP s.heap l1 n1)(U:OP s.heap l2 n2)
  (k:∀h' z TI TO j f,ZipAt z TI TO j f->(∀c∈[z,TI,TO,j,f],s.heap.objs.size<=c)->IsZip h' z TI TO .none->IsPair h' TI (.ref j) (.ref f)->IsPair h' TO .none .none->kH h' j l1 0->kH h' f l2 0->(∀c o,s.heap.get? c=some o->h'.get? c=some o)->Q (.ref z) {s with heap:=h'}):wpAny (model prog w) A (call (.type "zip") [.ref l1,.ref l2]) Q E s:=by
 have made:Meets (Builtin.«zip.__new__» ⟨[.type "zip",.ref l1,.ref l2],[]⟩) (λ_ R t=>OP t.heap l1 n1/\OP t.heap l2 n2/\∀j f TI TO z C B v r,j=t.heap.objs.size->C=t.heap.push {cls:=.type n1,data:=.fields #[.ref l1,.int 0 0]} ->
   f=C.objs.size->B=C.push {cls:=.type n2,data:=.fields #[.ref l2,.int 0 0]}->TI=B.objs.size->v=B.push {cls:=.type "tuple",data:=.seq #[.ref j,.ref f]}->TO=v.objs.size->r=v.push {cls:=.type "tuple",data:=.seq #[.none,.none]}->z=r.objs.size ->
   R (.ok (.ret (.ref z))) {t with heap:=r.push {cls:=.type "zip",data:=.fields #[.none,.bool false,.bool false,.ref TI,.ref TO]} }):=by
  refine .of_wp λprog w A R t ⟨b1,b2,q⟩=>?_;have K:=sub_zip;obtain⟨h,g,d,tk,os⟩:=t;have r1:=λ(Q:cE) q=>NP (prog:=prog) (w:=w) (A:=A.in1) (E:=λe J=>R (.error e) J) (Q:=Q) b1 q;have Z:=λ(Q:cE) q=>NP (prog:=prog) (w:=w) (A:=A.in1) (E:=λe J=>R (.error e) J) (Q:=Q) (s:=⟨h.push {cls:=.type n1,data:=.fields #[.ref l1,.int 0 0]},g,d,tk,os⟩) (OP.push b2) q
  wp_walk using r1,Z
  exact⟨_,rfl,q _ _ _ _ _ _ _ _ _ rfl rfl rfl rfl rfl rfl rfl rfl rfl⟩
 refine callType_new PySem.F.called_zip dw (PySem.F.typeCall_zip_2 _ _) (PySem.F.newCall_zip_2 _ _) (λobj=>PySem.F.args_object_init_3 obj _ _) PySem.F.entry_zip_new made ⟨W,U,?_⟩;intro j f TI TO z C B v r e1 P e2 O e3 N e4 L e5;have Y:C.objs.size=s.heap.objs.size+1:=by rw[P,Heap.size_push]
 have s2:B.objs.size=s.heap.objs.size+2:=by rw[O,Heap.size_push,Y]
 have X:v.objs.size=s.heap.objs.size+3:=by rw[N,Heap.size_push,s2]
 have s4:r.objs.size=s.heap.objs.size+4:=by rw[L,Heap.size_push,X]
 have I:∀c o,s.heap.get? c=some o->C.get? c=some o:=λc o q=>P ▸ ag _ q;have H:∀c o,C.get? c=some o->B.get? c=some o:=λc o q=>O ▸ ag _ q;have G:∀c o,B.get? c=some o->v.get? c=some o:=λc o q=>N ▸ ag _ q;have u:∀c o,v.get? c=some o->r.get? c=some o:=λc o q=>L ▸ ag _ q;have p1:C.get? j=some {cls:=.type n1,data:=.fields #[.ref l1,.int 0 0]}:=by rw[e1,P];exact av _ rfl
 have p2:B.get? f=some {cls:=.type n2,data:=.fields #[.ref l2,.int 0 0]}:=by rw[e2,O];exact av _ rfl
 have p3:v.get? TI=some {cls:=.type "tuple",data:=.seq #[.ref j,.ref f]}:=by rw[e3,N];exact av _ rfl
 have p4:r.get? TO=some {cls:=.type "tuple",data:=.seq #[.none,.none]}:=by rw[e4,L];exact av _ rfl
 have m:∀c o,r.get? c=some o->(r.push {cls:=.type "zip",data:=.fields #[.none,.bool false,.bool false,.ref TI,.ref TO]}).get? c=some o:=λc o q=>ag _ q;have S:IsZip (r.push {cls:=.type "zip",data:=.fields #[.none,.bool false,.bool false,.ref TI,.ref TO]}) z TI TO .none:=e5 ▸ av _ rfl;have sq:∀{l i:Addr} {nm:String} {h:Heap},OP s.heap l nm->h.get? i=some {cls:=.type nm,data:=.fields #[.ref l,.int 0 0]}->kH h i l 0:=λa e=>by
  rcases a with⟨_,_,rfl⟩|⟨_,_,rfl⟩
  ·exact .inl ⟨_,e,rfl,rfl⟩
  ·exact .inr ⟨_,e,rfl,rfl⟩
 have D:ZipAt z TI TO j f:=by constructor <;> (intro q;have q:(_:Nat)=_:=q;lia)
 refine⟨⟨_,S,rfl⟩,k _ z TI TO j f D (λc T=>?_) S (m _ _ (u _ _ p3)) (m _ _ p4) (sq W (m _ _ (u _ _ (G _ _ (H _ _ p1))))) (sq U (m _ _ (u _ _ (G _ _ p2)))) λc o q=>m _ _ (u _ _ (G _ _ (H _ _ (I _ _ q))))⟩;simp only[cz,List.not_mem_nil,or_false]at T;rcases T with q|q|q|q|q <;> (rw[q];show(_:Nat)<=_;lia)
def VQ (a b:Addr):It :=
 ⟨λi H=>∃xs ys x y,eI H a xs/\eI H b ys/\xs[i]?=some x/\ys[i]?=some y,
  λi H z H'=>∃T x y,z = .ref T/\H T=none/\H'=upd H T (.tup [x,y])/\∀xs ys,eI H a xs->eI H b ys->xs[i]?=some x/\ys[i]?=some y,
  λi H=>∃xs ys,eI H a xs/\eI H b ys/\(xs.length<=i\/ys.length<=i)⟩
def eI.inj (h:eI H a xs)(k:eI H a ys):xs=ys:=by rcases h with h|h <;> rcases k with k|k <;> rw[h]at k <;> cases k <;> rfl
def aK.sq {X:Cx}{f:eN}{i:St}{H:Hp}{s:ee}{a:Addr}{xs:List V}(I:aK X f i H s)(h:eI H a xs):∃its:dA,aO xs its/\q9 s.heap a its.toArray/\∃nm,OP s.heap a nm:=by
 rcases h with h|h
 ·obtain⟨its,g,p,_⟩:=I.list (d5.of h);obtain⟨o,e,c,n,d⟩:=p.isList;exact⟨its,g,⟨o,n,e,d⟩,_,.inl ⟨_,p.isList,rfl⟩⟩
 ·obtain⟨its,g,p,_⟩:=I.tuple (hX.of h);have p':s.heap.IsTuple a its.toArray:=p;obtain⟨o,e,c,n,d⟩:=id p';exact⟨its,g,⟨o,n,e,d⟩,_,.inr ⟨_,p',rfl⟩⟩
def eI.some (h:eI H a xs):∃o,H a=some o:=h.elim (λe=>⟨_,e⟩) λe=>⟨_,e⟩
def R7 {X:Cx}{d:eN}{C:St}{H:Hp}{s:ee}{a b z TI TO g f:Addr}{i:Nat}{xs ys:List V}(I:aK X d C H s)(J:∀c∈[z,TI,TO,g,f],fZ X d H c)(D:ZipAt z TI TO g f)
  (st:IsZip s.heap z TI TO .none/\IsPair s.heap TI (.ref g) (.ref f)/\(∃u v,IsPair s.heap TO u v)/\kH s.heap g a i/\kH s.heap f b i) (j:eI H a xs) (h:eI H b ys) :
  ∃its:dA,aO xs its/\q9 s.heap a its.toArray/\(∃its2:dA,aO ys its2/\q9 s.heap b its2.toArray)/\∀its2:dA,(aO ys its2/\q9 s.heap b its2.toArray)->∃u v,ZS s.heap z TI TO g f a b its.toArray its2.toArray s.heap .none u v i i:=by
 obtain⟨its,E,p,_⟩:=I.sq j;obtain⟨its2,l,G,_⟩:=I.sq h;obtain⟨hz,w,⟨u,v,m⟩,L,K⟩:=st;have off:∀{c:Addr} {A:List V},eI H c A->c∉[z,TO,g,f]:=λ{c A} q hm=>by obtain⟨o,e⟩:=q.some;rw[(J c (by simp at hm|-;rcases hm with r|r|r|r <;> simp[r])).1]at e;cases e
 exact⟨its,E,p,⟨its2,l,G⟩,λB F=>⟨u,v,{toZipAt:=D,n1:=off j,n2:=off h},hz,w,m,L,K,p,F.2,λ_ _ _ e=>e⟩⟩
def IC {P:eg}{w:eh}{K:d6}{U:vE}{tk0}{O:Pos}(a b z TI TO A m:Addr)(D:ZipAt z TI TO A m) :
  qC P w K (.Tuple U tk0 O) (VQ a b) [z,TI,TO,A,m] z (λi h=>IsZip h z TI TO .none/\IsPair h TI (.ref A) (.ref m)/\(∃u v,IsPair h TO u v)/\kH h A a i/\kH h m b i) where
 mem:=by simp
 obj:=λi h st c d=>by
  obtain⟨hz,G,⟨u,v,F⟩,h1,J⟩:=st;obtain⟨o1,e1,d1⟩:=h1.obj;obtain⟨o2,e2,d2⟩:=J.obj;simp only[cz,List.not_mem_nil,or_false]at d;rcases d with rfl|rfl|rfl|rfl|rfl
  ·exact⟨_,hz,λv z=>by cases z⟩
  ·exact⟨_,G,λv z=>by cases z⟩
  ·exact⟨_,F,λv z=>by cases z⟩
  ·exact⟨_,e1,λv z=>by rw[d1]at z;cases z⟩
  ·exact⟨_,e2,λv z=>by rw[d2]at z;cases z⟩
 keep:=λi h h' st k=>by obtain⟨hz,G,⟨u,v,F⟩,h1,J⟩:=st;exact⟨k z dV _ hz,k TI dV _ G,⟨u,v,k TO dV _ F⟩,h1.at λo e=>k A dV o e,J.at λo e=>k m dV o e⟩
 item:=by
  rintro X hP hw hK d i l s σ H E I L st ⟨xs,ys,x,y,j,g,hx,hy⟩;subst hP hw hK;obtain⟨its,Y,p,p',Z⟩:=R7 I L D st j g;obtain⟨its2,f⟩:=p';obtain⟨u0,v0,Z⟩:=Z its2 f;refine wT (I.ok.hd d) Z (λu v h' T S Z' pr size=>?_) λno=>?_
  ·obtain⟨u',C,ru⟩:=Y.get hx;obtain⟨v',B,rw'⟩:=f.1.get hy;rw[show its.toArray[i]?=its[i]? from by simp]at T;rw[show its2.toArray[i]?=its2[i]? from by simp]at S;rw[C]at T;rw[B]at S;cases T;cases S;refine⟨_,rfl,wpAny_letOwnedTupleGo_zip (s:={s with heap:=h'}) Z'.zip λJ hz2 Q=>?_⟩;have N:=Z'.self Q.extBut hz2;have new:z≠s.heap.objs.size:=bv (bf Z.zip);have pr2:IsPair J s.heap.objs.size u v:=Q.extBut _ _ new.symm pr;have far:∀c o,c∉[z,TI,TO,A,m]->s.heap.get? c=some o->J.get? c=some o:=λc o d e=>N.far c o (λq=>d (by simp at q|-;rcases q with r|r|r|r <;> simp[r])) e;have I2:aK X l σ (upd H s.heap.objs.size (.tup [x,y])) {s with heap:=J}:=I.turnedLaid (t':=s.toks) (ch:=[z,TI,TO,A,m]) far L (ac _) ⟨by show 2<=sizeLine;decide,[u,v],.cons ru (.cons rw' .nil),⟨_,pr2,rfl,_,rfl⟩⟩;refine⟨.ref s.heap.objs.size,_,I2,rfl,⟨s.heap.objs.size,x,y,rfl,I.hok.fresh (ac _),rfl,λxs' ys' q1 q2=>?_⟩,⟨N.zip,N.tin,⟨u,v,N.tout⟩,N.one,N.two⟩,λc d=>?_⟩
   ·rw[q1.inj j,q2.inj g];exact⟨hx,hy⟩
   ·have R:∃o,s.heap.get? c=some o:=by
     simp only[cz,List.not_mem_nil,or_false]at d;rcases d with rfl|rfl|rfl|rfl|rfl
     ·exact⟨_,Z.zip⟩
     ·exact⟨_,Z.tin⟩
     ·exact⟨_,Z.tout⟩
     ·obtain⟨o,e,_⟩:=Z.one.obj;exact⟨o,e⟩
     ·obtain⟨o,e,_⟩:=Z.two.obj;exact⟨o,e⟩
    obtain⟨o,e⟩:=R;rw[bG (bv (bf e))];exact(L c d).1
  ·obtain⟨u',C,_⟩:=Y.get hx;obtain⟨v',B,_⟩:=f.1.get hy;rcases no with q|q
   ·rw[show its.toArray[i]?=its[i]? from by simp,C]at q;cases q
   ·rw[show its2.toArray[i]?=its2[i]? from by simp,B]at q;cases q
 done:=by
  rintro X hP hw hK d i l s σ H E I L st ⟨xs,ys,j,g,hd⟩;subst hP hw hK;obtain⟨its,Y,p,p',Z⟩:=R7 I L D st j g;obtain⟨its2,f⟩:=p';obtain⟨u0,v0,Z⟩:=Z its2 f;have e1:=Y.length;have e2:=f.1.length;refine wT (I.ok.hd d) Z (λu v h' T S _ _ _=>?_) λ_ h' far=>⟨rfl,?_⟩
  ·obtain⟨q1,_⟩:=Array.getElem?_eq_some_iff.mp T;obtain⟨q2,_⟩:=Array.getElem?_eq_some_iff.mp S;rw[ai]at q1 q2
   lia
  ·exact I.turnedL (t':=s.toks) (ch:=[z,TI,TO,A,m]) (λc o d e=>far c o (λq=>d (by simp at q|-;rcases q with r|r|r|r <;> simp[r])) e) L
 self:=λ_ _ _ _ _ st h=>wpAny_pyIter_zip st.1 h
def iZip2 (e:TA):TI:=λd H R=>e d H λvs c=>∃a b xs ys,vs=[.ref a,.ref b]/\eI c a xs/\eI c b ys/\R (VQ a b) c
def P1 (L:Gl X "zip")(hm:X.mg "zip" = none)(N:PA X [a,b] ta)(J:starEach [a,b] X.env=[(false,eval a X.env),(false,eval b X.env)]:=by rfl)(f:starEach [b] X.env=[(false,eval b X.env)]:=by rfl) :
  PI X (.Tuple elts tk0 tpos) (.Call (.Name "zip" p) [a,b] [] pos) (iZip2 ta):=by
 intro d s r H R I h;refine Call_ (kG I L hm boot_zip (PyProof.Rows.callWith_type1 (thn (N pos d s r H _ I h) λus i ⟨vs,W,g,r1,v⟩=>?_) (by rw[J,f]) (by rw[f];rfl)));obtain⟨C,B,xs,ys,e,G,F,q⟩:=v;subst e;obtain⟨Z,Y,rfl,P,O⟩:=vals2 r1;cases P;cases O;obtain⟨its,rv,p1,A,E⟩:=g.sq G;obtain⟨its2,u,p2,w,k2⟩:=g.sq F;refine J5 E k2 λh' z TI TO l j D new o U T S Q K=>?_;refine wpAny_pyIter_zip (s:={i with heap:=h'}) o ?_;exact⟨z,[z,TI,TO,l,j],_,_,W,rfl,g.kept (t':=i.toks) K,IC C B z TI TO l j D,⟨o,U,⟨_,_,T⟩,S,Q⟩,λc m=>g.fpOk (new c m) (g.hok.fresh (new c m)),q⟩
def rNeD_bb:rNeD (.bl i) (.bl j) H Q=Q (.bl (!decide (i=j))) H:=by
 have e:eqD (.bl i) (.bl j)=decide (i=j):=by cases i <;> cases j <;> rfl
 refine propext ⟨λ⟨d,f,c,a,_,q⟩=>?_,λq=>⟨.bl i,.bl j,rfl,rfl,aw _,e ▸ q⟩⟩;have h:d = .bl i:=aH.inj c (show aH H (.bl i) (.bl i)from rfl);have g:f = .bl j:=aH.inj a (show aH H (.bl j) (.bl j)from rfl);rw[h,g,e]at q;exact q
def rEqD_bb:rEqD (.bl i) (.bl j) H Q=Q (.bl (decide (i=j))) H:=by
 have e:eqD (.bl i) (.bl j)=decide (i=j):=by cases i <;> cases j <;> rfl
 refine propext ⟨λ⟨d,f,c,a,_,q⟩=>?_,λq=>⟨.bl i,.bl j,rfl,rfl,aw _,e ▸ q⟩⟩;have h:d = .bl i:=aH.inj c (show aH H (.bl i) (.bl i)from rfl);have g:f = .bl j:=aH.inj a (show aH H (.bl j) (.bl j)from rfl);rw[h,g,e]at q;exact q
def IH:starEach (.Dict ks vs p::es) env=(false,eval (.Dict ks vs p) env)::starEach es env:=by rw[starEach];exact λ_ _ z=>nomatch z
def GB {X:Cx}{es:vE}{p:Pos}{t:TA}(h:PA X es t):PA X (.Dict [] [] p::es) (tCons K3 t):=eB MB h IH
def yY:typeLookup (.type "list") "keys" = pure none:=am_miss_of_fast (by decide +kernel)
def y8 {E:cE}{Q:Option ef->ee->Prop}
  (c:s.heap.get? a=some {cls:=.type "list",dict:=none,data:=.seq xs k,slots:=sl}) (calm:A.handled=none)
  (q:∀h' tk,(∀b ob,s.heap.get? b=some ob->h'.get? b=some ob)->Q none {s with heap:=h',toks:=tk}) :
  wpAny (model P w) A (getAttr? (.ref a) "keys") Q E s:=by
 rcases s with⟨f,gs,g,tk,os⟩;have ty:∀t,(⟨f,gs,g,t,os⟩:ee).TypeIs (.ref a) "list":=λ_=>⟨_,c,rfl⟩
 have r:=F.slot_list_getattribute.lookup;have o:=F.slot_list_getattribute.bind (.ref a);have m:=am_list_getattr_none;have l:=sub_AttributeError;rw[getAttr?];unfold getAttrBy? getAttrBy
 repeat (any_goals (first|assumption|exact ty _|((with_reducible show wpAny _ _ (call (Value.builtin "list.__getattribute__") _ _) _ _ _);refine call_meets F.slot_list_getattribute (ty _) am_entry_list_getattribute (F.args_list_getattribute_2 _ _) (meets_getattribute_miss_list a xs k sl "keys" _ yY dw dw) ⟨c,calm,λh' d e n=>?_⟩)|wp_step))
 obtain⟨j,i,h⟩:=n.there;dsimp only[wants];unfold getattributeRaised
 wp_walk
 exact q _ _ n.keeps
section
variable {P:eg}{w:eh}{K:Type}[DecidableEq K]{knd:KeyKind P w K}
def zY (knd:KeyKind P w K)(h:Heap)(d it:Addr)(x:ef)(a:K×ef):Prop :=
 ∃(q:Addr) (o:Obj) (key:ef) (n:Nat),x = .ref q/\q≠d/\q≠it/\h.get? q=some o/\(o.cls = .type "list"\/o.cls = .type "tuple")/\o.data = .seq #[key,a.2] n/\knd.is a.1 key=true
def zY.mono (p:zY knd h d it x kv)(k:∀b o,b≠d->b≠it->h.get? b=some o->h'.get? b=some o):zY knd h' d it x kv:=by obtain⟨q,o,key,n,g,c,a,f,e⟩:=p;exact⟨q,o,key,n,g,c,a,k q o c a f,e⟩
inductive SN (knd:KeyKind P w K)(h:Heap)(d it:Addr):dA->List (K×ef)->Prop
 | nil:SN knd h d it [] []
 | cons {x:ef} {xs:dA} {kv:K×ef} {more:List (K×ef)}:zY knd h d it x kv->SN knd h d it xs more->SN knd h d it (x::xs) (kv::more)
def SN.mono (k:∀b o,b≠d->b≠it->h.get? b=some o->h'.get? b=some o)(r:SN knd h d it xs more):SN knd h' d it xs more:=by
 induction r with
 | nil=>exact .nil
 | cons p r a=>exact .cons (p.mono k) a
def nN:plainId "dict.update.loop" = true:=by decide +kernel
def xF:entryFor table "dict.update.loop" = some Builtin.«dict.update.loop»:=entryFor_of_fast (by kernel_rfl)
def vM {E:cE}{Q:dA->ee->Prop}(e:s.heap.get? q=some o)(c:o.cls = .type "list"\/o.cls = .type "tuple")(d:o.data = .seq #[a,b] n)(h:Q [a,b] s) :
  wM P w A (Builtin.Dict.pairItems (.ref q)) Q E s:=by
 unfold Builtin.Dict.pairItems;rcases c with c|c
 ·refine aa (wpAny_typeOf (T:="list") ⟨o,e,c⟩ ?_);rw[aj dw];exact aa (wpAny_seqItems e d (ao h))
 ·refine aa (wpAny_typeOf (T:="tuple") ⟨o,e,c⟩ ?_);rw[aj dw];exact aa (wpAny_seqItems e d (ao h))
def KQ (g:it≠d)(C:l≠d)(B:l≠it):∀(m i:Nat),items.size - i=m->∀(A:en) (R:Result->ee->Prop) (s:ee) (a more:List (K×ef)) (tk:Tok),
  A.handled=none->s.heap.IsListIter it l i->s.heap.IsList l items->s.heap.DictOf knd d a->SN knd s.heap d it (items.toList.drop i) more->a.length+more.length<=sizeLine ->
  (∀h' c,h'.DictOf knd d (merged a more)->(∀b o,b≠d->b≠it->s.heap.get? b=some o->h'.get? b=some o)->R (.ok (.ret .none)) {s with heap:=h',toks:=c}) ->
  codeAny (model P w) A (.builtin "dict.update.loop" ⟨[.ref d,.ref it,.int i tk,.none],[]⟩) R s:=by
 intro m
 induction m with
 | zero =>
  intro i hm A R s a more tk G st hl hd al hz k;refine codeAny_builtin xF ?_;rw[Around.under_plainId nN];have E:items[i]?=none:=by simp;lia
  have U:more=[]:=by
   have:items.toList.drop i=[]:=by simp;lia
   rw[this]at al;cases al;rfl
  subst U;unfold Builtin.«dict.update.loop»;dsimp only;refine aa (wpAny_pyNext_list_end G st hl E λh' H=>?_);dsimp only;refine aa (m:=Builtin.Dict.addKeywords d []) (ao (ao ?_));exact k h' s.toks (hd.extBut H g.symm) λb o _ O e=>H b o O e
 | succ m N =>
  intro i hm A R s a more tk G st hl hd al hz k;refine codeAny_builtin xF ?_;rw[Around.under_plainId nN];have j:i<items.size:=by lia
  have E:items[i]?=some items[i]:=by simp[j]
  have W:items.toList.drop i=items[i]::items.toList.drop (i+1):=by simp[List.drop_eq_getElem_cons,j]
  rw[W]at al;cases al with
  | cons p rest =>
   rename_i u more;unfold Builtin.«dict.update.loop»;dsimp only;refine aa (wpAny_pyNext_list_item st hl E λS v f=>?_);dsimp only;obtain⟨q,o,key,n,eq,J,z,T,Z,Y,L⟩:=p;rw[eq];refine aa (cq (aa (wpAny_tryCatch (vM (s:={s with heap:=S}) ((f.2 q z).trans T) Z Y ?_))));refine cq (wpAny_dictSet_pairs L (hd.sameBut f g.symm) (λQ F h=>?_) (by simp at hz;lia));have kept:∀b o,b≠d->b≠it->s.heap.get? b=some o->Q.get? b=some o:=λb o nb r e=>(h.2 b nb).trans ((f.2 b r).trans e);refine ao ⟨plainId_quiet nN _,?_⟩;have X:((i:Int)+1)=((i+1:Nat):Int):=by push_cast;rfl
   rw[X];refine N (i+1) dz A R _ (stored a u.1 u.2) more 0 G (v.at λo e=>(h.2 it g).trans e) (hl.at λo e=>kept l o C B e) F (rest.mono kept) ?_ λh' c r1 I=>?_
   ·have:=stored_length_le a u.1 u.2;simp at hz;lia
   ·exact k h' c r1 λb o nb r e=>I b o nb r (kept b o nb r e)
def VI (knd:KeyKind P w K)(h:Heap)(x:ef)(a:K×ef):Prop :=
 ∃(q:Addr) (o:Obj) (key:ef) (n:Nat),x = .ref q/\h.get? q=some o/\(o.cls = .type "list"\/o.cls = .type "tuple")/\o.data = .seq #[key,a.2] n/\knd.is a.1 key=true
inductive rL (knd:KeyKind P w K)(h:Heap):dA->List (K×ef)->Prop
 | nil:rL knd h [] []
 | cons {x:ef} {xs:dA} {kv:K×ef} {more:List (K×ef)}:VI knd h x kv->rL knd h xs more->rL knd h (x::xs) (kv::more)
theorem rL.at (g:h.get? d=none)(f:h.get? it=none)(k:∀b o,h.get? b=some o->h'.get? b=some o)(r:rL knd h xs more):SN knd h' d it xs more:=by
 induction r with
 | nil=>exact .nil
 | cons p r c =>
  obtain⟨q,o,key,n,j,a,i⟩:=p;exact .cons ⟨q,o,key,n,j,λe=>(by rw[e,g]at a;cases a),λe=>(by rw[e,f]at a;cases a),k q o a,i⟩ c
def rR {E:cE}{Q:cE}
  (a:s.heap.get? l=some {cls:=.type "list",dict:=none,data:=.seq items n,slots:=sl}) (calm:A.handled=none) (al:rL knd s.heap items.toList more) (hz:more.length<=sizeLine)
  (q:∀h' tk,h'.DictOf knd s.heap.objs.size (merged [] more)->(∀b o,s.heap.get? b=some o->h'.get? b=some o)->Q (.ref s.heap.objs.size) {s with heap:=h',toks:=tk}) :
  wM P w A (call (.type "dict") [.ref l]) Q E s:=by
 refine callType_codes (Q₁:=λv j=>v = .ref s.heap.objs.size/\j={s with heap:=s.heap.push {cls:=.type "dict",data:=.dict #[]} }) F.kt_called_dict (F.kt_typeCall_dict_1 _) F.entry_dict_init (kt_code_dict_new _ ⟨rfl,rfl⟩) ?_;rintro v j ⟨rfl,rfl⟩;have i:(s.heap.push {cls:=.type "dict",data:=.dict #[]}).DictOf knd s.heap.objs.size []:=Heap.DictOf.new s.heap;have f:=ag {cls:=.type "dict",data:=.dict #[]} a;have lt:=bf a;refine⟨i.typeIs,F.args_dict_init_2 _ _,?_⟩;unfold Builtin.«dict.__init__» Builtin.Dict.selfAndRest;refine aa (aa (wpAny_notOrdered_dict i.typeIs (ao ?_)));unfold Builtin.Dict.updateCommon Builtin.Dict.updateFrom;dsimp only;refine aa (wpAny_typeOf (T:="list") ⟨_,f,rfl⟩ ?_);rw[aj dw];refine aa (y8 f calm λh t1 g=>?_);rw[aj (by rfl)];have u:=g _ _ f;refine aa (wpAny_rule (aa (wpAny_pyIter_list (items:=items) ⟨_,u,rfl,_,rfl⟩ (ao ⟨plainId_quiet nN _,?_⟩))));have m:=i.keep g;have c:s.heap.objs.size<h.objs.size:=by obtain⟨o,e,_⟩:=Heap.dictOf_iff.mp m;exact bf e
 have k2:∀b o,s.heap.get? b=some o->(h.push {cls:=.type "list_iterator",data:=.fields #[.ref l,.int 0 0]}).get? b=some o:=λb o e=>ag _ (g b o (ag _ e));refine KQ (it:=h.objs.size) (l:=l) (items:=items) (Nat.ne_of_gt c) (bv lt) (bv (Nat.lt_trans lt c)) _ 0 rfl A.in1 _ _ [] more 0 calm ⟨_,av _ rfl,rfl,rfl⟩ ⟨_,k2 _ _ a,rfl,_,rfl⟩ (m.push _)
  (rL.at (Heap.get?_none_of_le (ac _)) (Heap.get?_none_of_le (Nat.le_of_lt c)) k2 al) (by simpa using hz) λh' d r1 r=>?_
 exact⟨rfl,q h' d r1 λb o e=>r b o (bv (bf e)) (bv (Nat.lt_trans (bf e) c)) (k2 b o e)⟩
end
noncomputable def prV (H:Hp):V->Option (V×V)
 | .ref p=>match H p with
  | some (.lst [a,b])=>some (a,b)
  | some (.tup [a,b])=>some (a,b)
  | _=>none
 | _=>none
theorem BC {X:Cx}{h:eN}{B:St}{H:Hp}{s:ee}(I:aK X h B H s):∀{ys:List V} {us:dA} {d:List (jF×V)},aO ys us->ys.map (prV H)=d.map (λi=>some (kV i.1,i.2)) ->
  ∃g:List (jF×ef),rL (cN X.prog X.w) s.heap us g/\KV d g
 | [],_,[],r,_=>by cases r;exact⟨[],.nil,.nil⟩
 | [],_,_::_,_,e=>by cases e
 | _::_,_,[],_,e=>by cases e
 | y::ys,_,i::d,r,e=>by
  cases r with
  | @cons _ u _ us C r =>
   rw[bg,bg]at e;injection e with f G;obtain⟨g,c,q⟩:=BC I r G;cases y with
   | ref p =>
    cases C;unfold prV at f;dsimp only at f;split at f
    ·rename_i a b z;cases f;obtain⟨_,its,n,m,A⟩:=(show cD X.prog X.w H s.heap p (.lst [_,_])from I.hok p _ z)
     obtain⟨l,j,rfl,r1,v⟩:=vals2 m;exact⟨(i.1,j)::g,.cons ⟨p,_,l,n,rfl,A,.inl rfl,rfl,pX r1⟩ c,.cons ⟨rfl,v⟩ q⟩
    ·rename_i a b z;cases f;obtain⟨_,its,m,o,A,F,n,E⟩:=(show cD X.prog X.w H s.heap p (.tup [_,_])from I.hok p _ z)
     obtain⟨l,j,rfl,r1,v⟩:=vals2 m;exact⟨(i.1,j)::g,.cons ⟨p,o,l,n,rfl,A,.inr F,E,pX r1⟩ c,.cons ⟨rfl,v⟩ q⟩
    ·cases f
   | _=>cases f
def TK:List V->Hp->VK->Prop:=λxs H Q=>∃p ys a,xs=[.ref p]/\H p=some (.lst ys)/\ys.map (prV H)=a.map (λc=>some (kV c.1,c.2))/\∀d,H d=none->Q (.ref d) (upd H d (.dK (kF [] a)))
def lT (l:X.calm=true):dZ X (.type "dict") TK:=by
 intro e s v H xs us Q I r h;obtain⟨p,ys,a,rfl,j,al,q⟩:=h;obtain⟨u,rfl,f⟩:=vals1 r;cases f;obtain⟨z,its,n,g,m⟩:=(show cD X.prog X.w H s.heap p (.lst ys)from I.hok p _ j)
 obtain⟨i,c,d⟩:=BC I g al;have B:a.length=ys.length:=by have:=congrArg List.length al;simpa using this.symm
 have A:a.length=i.length:=d.length;refine rR m (I.ok.hd l) (by simpa using c) dz λh' tk o kp=>⟨.ref s.heap.objs.size,_,?_,rfl,q _ (I.hok.fresh (ac _))⟩
 have hz:(kF [] a).length<=sizeLine:=by have:=oE a [];rw[List.length_nil]at this;lia
 exact I.laid (t':=tk) kp (ac _) (U5 hz (db.mpr (Ne.symm (bv I.big))) (d.merge .nil) o)
def rDIn (c:Bool):R2:=λx y H Q=>∃a o,y = .ref a/\lC H a x o/\Q (.bl (if c then !o.isSome else o.isSome)) H
def oQ (f:X.A.units+64<cLine):jE X (compareOp .NotIn) (rDIn true):=by intro c s j H x y v u Q I e d h;obtain⟨a,o,rfl,g,q⟩:=h;cases d;exact RP (ak (cg dw _) f) I g e λl i=>⟨.bl _,H,i,rfl,q⟩
def PV:V->List V->Hp->VK->Prop:=λx vs H Q=>∃(l:Addr) (xs:List V) (i:Nat) (y:V),x = .ref l/\vs=[.int i,y]/\H l=some (.lst xs)/\i<=xs.length/\xs.length<1000/\Q .non (upd H l (.lst (xs.take i++y::xs.drop i)))
theorem qF:∀{xs:List V} {us:dA} (i:Nat),aO xs us->aO (xs.take i) (us.take i)/\aO (xs.drop i) (us.drop i)
 | _,_,i,.nil=>by rw[List.take_nil,List.take_nil,List.drop_nil,List.drop_nil];exact⟨.nil,.nil⟩
 | _,_,0,.cons r t=>⟨.nil,.cons r t⟩
 | _,_,i+1,.cons r t=>⟨.cons r (qF i t).1,(qF i t).2⟩
def JJ:VM X "list.insert" PV:=by
 intro d s B H x vs v us Q I g j h;obtain⟨l,xs,i,y,rfl,rfl,f,E,hz,q⟩:=h;cases g;obtain⟨C,c,rfl,r1,m⟩:=vals2 j;obtain⟨t,rfl⟩:=r1;obtain⟨z,its,n,r,hl,e⟩:=I.lstM f;obtain⟨k,hk⟩:∃k:Int,k=(i:Int):=⟨_,rfl⟩
 rw[<-hk];have a:¬(!Builtin.List.listFitsIndex k)=true:=by rw[fitsIndex_both dz dz];exact Bool.false_ne_true
 have hsz:its.toArray.size<=sizeLine:=by rw[ai,<-hl];exact z
 refine call_meets F.slot_list_insert ⟨_,e,rfl⟩ F.entry_list_insert (F.args_list_insert_3 _ _ _) (PySem.AutoSeq1.list_insert_list_int_val_1 l its.toArray n k t c a hsz) ⟨e,?_⟩
 ·obtain⟨A,w⟩:=qF i r;refine⟨.non,_,I.lset (its':=its.take i++c::its.drop i) f e ?_ (A.append (.cons m w)) ?_,rfl,q⟩
  ·have u:¬(k<0):=by lia
   have o:min k.toNat its.toArray.size=i:=by rw[ai,hk,cw];lia
   dsimp only;rw[ab u,o];apply Array.ext';simp;exact List.take_of_length_le (by rw[bS];exact ac _)
  ·rw[au,ar,bz,bS];exact leSz
def WP (K:d6)(a:Addr)(xs:List V):It :=
 ⟨λi H=>d5 K H a xs/\i<xs.length,λi H x H'=>H'=H/\xs[xs.length - 1 - i]?=some x,λi H=>d5 K H a xs/\i=xs.length⟩
def KW {P:eg}{w:eh}{K:d6}{N:Expr}(a it:Addr)(xs:List V):qC P w K N (WP K a xs) [it] it (λi h=>h.IsRevIter it a ((xs.length:Int) - 1 - (i:Int))) where
 mem:=by simp
 obj:=λi h st b g=>by
  obtain rfl:b=it:=by simpa using g
  obtain⟨o,e,c,d⟩:=st;exact⟨o,e,λv z=>by rw[d]at z;cases z⟩
 keep:=λi h h' st k=>st.at λo e=>k it dV o e
 item:=by
  intro X r m A L i f s F H E I l st q;subst r m A;obtain⟨J,T⟩:=q;obtain⟨its,Q,p,hz⟩:=I.list J;have G:xs[xs.length - 1 - i]?=some xs[xs.length - 1 - i]:=ay dz;obtain⟨u,S,R⟩:=Q.get G;obtain⟨f0,f1,f2,f3,f4,B⟩:=l it dV;have C:(xs.length:Int) - 1 - (i:Int)=((xs.length - 1 - i:Nat):Int):=by lia
  rw[C]at st;refine wpAny_pyNext_rev_item st p.isList (x:=u) (by simpa using S) λh' j O=>?_;have Z:aK X f F H {s with heap:=h'}:=I.turned (t':=s.toks) (λb o g e=>(O.2 b g).trans e) f0 f1 f3 f4 B;obtain⟨o,e,c,d⟩:=id j;refine⟨u,rfl,xB (s:={s with heap:=h'}) e c d dw ⟨_,H,Z,R,⟨rfl,G⟩,?_,λb g=>(l b g).1⟩⟩;have Y:(xs.length:Int) - 1 - ((i+1:Nat):Int)=((xs.length - 1 - i:Nat):Int) - 1:=by lia
  rw[Y];exact j
 done:=by
  intro X r m A L i f s F H E I l st q;subst r m A;obtain⟨J,T⟩:=q;obtain⟨f0,f1,f2,f3,f4,B⟩:=l it dV;have C:(xs.length:Int) - 1 - (i:Int) = -1:=by lia
  rw[C]at st;exact wpAny_pyNext_rev_end (I.ok.hd L) st λh' U=>⟨rfl,I.turned (t':=s.toks) (λb o g e=>U b o g e) f0 f1 f3 f4 B⟩
 self:=λ_ _ _ _ _ st h=>wpAny_pyIter_revIter st h
def iRev (K:d6)(e:TA):TI:=λd H R=>e d H λvs c=>∃a xs,vs=[.ref a]/\c a=some (.lst xs)/\R (WP K a xs) c
def lJ (K:d6)(B:X.K=K)(w:Gl X "reversed")(hm:X.mg "reversed" = none)(A:PA X [a] ta)(v:starEach [a] X.env=[(false,eval a X.env)]:=by rfl) :
  PI X tg (.Call (.Name "reversed" p) [a] [] pos) (iRev K ta):=by
 subst B;intro d s i H R I h;refine Call_ (kG I w hm boot_reversed (PyProof.Rows.callWith_type1 (thn (A pos d s i H _ I h) λus c ⟨vs,E,g,r1,l⟩=>?_) v rfl));obtain⟨f,xs,e,u,q⟩:=l;subst e;obtain⟨F,rfl,C⟩:=vals1 r1;cases C;obtain⟨its,j,m,r⟩:=g.list (d5.of u);refine call_reversed_list m.isList ?_
 have st:(c.heap.push (revObj f ((its.toArray.size:Int) - 1))).IsRevIter c.heap.objs.size f ((xs.length:Int) - 1 - ((0:Nat):Int)):=⟨_,av _ rfl,rfl,by
  have e:=j.length;rw[ai,<-e]
  simp[revObj]⟩
 refine wpAny_pyIter_revIter (s:={c with heap:=c.heap.push (revObj f ((its.toArray.size:Int) - 1))}) st ?_;refine⟨c.heap.objs.size,[c.heap.objs.size],_,_,E,rfl,g.kept (t':=c.toks) λb o e=>ag _ e,KW f _ xs,st,λb z=>?_,q⟩;obtain rfl:b=c.heap.objs.size:=by simpa using z
 exact g.fpOk (ac _) (g.hok.fresh (ac _))
section
variable {g:TG}{tb:TS}{D:jA}{σ:St}{H:Hp}{K:d6}
def B4 {a:Addr}(xs:List V)(Pv:Nat->St->Hp->Prop)(r:Pv 0 c H)(hl:∀i c H,i<=xs.length->Pv i c H->H a=some (.lst xs))
  (l:∀i x c H,i<xs.length->xs[xs.length - 1 - i]?=some x->Pv i c H->g x c H λf u=>tb {D with nx:=Pv (i+1),ct:=Pv (i+1),bk:=D.nx} f u) (hd:∀c H,Pv xs.length c H->D.nx c H):rD (WP K a xs) g tb D c H:=by
 refine⟨λi m c H=>m=xs.length - i/\i<=xs.length/\Pv i c H,⟨xs.length,dV,aw _,r⟩,?_⟩;rintro i m c H ⟨rfl,o,p⟩;have h:=d5.of (K:=K) (hl i c H o p);by_cases d:i<xs.length
 ·refine .inr ⟨⟨h,d⟩,Pv (i+1),λj H' q=>⟨xs.length - (i+1),dz,rfl,d,q⟩,λz H' y=>?_⟩;obtain⟨rfl,q⟩:=y;exact l i z c _ d q p
 ·have e:i=xs.length:=by lia
  subst e;exact .inl ⟨⟨h,rfl⟩,hd c H p⟩
end
noncomputable def revT {a:Type}(xs:List a):List a:=(xs.drop 1).reverse
def wK {a:Type}(x:a)(xs:List a):revT (x::xs)=xs.reverse:=rfl
def OK (k:Nat):(List.range k).map (λm=>k - m)=((List.range k).map (λm=>1+m)).reverse:=by
 apply List.ext_getElem
 ·simp
 ·intro i c a;simp at c a|-
  lia
def xT (its:dA)(k:Nat)(h:its.length=k+1):(List.range k).filterMap (λm=>its.toArray[k - m]?)=(its.drop 1).reverse:=by
 have e:(List.range k).filterMap (λm=>its.toArray[k - m]?)=((List.range k).map (λm=>k - m)).filterMap (λj=>its.toArray[j]?):=by rw[List.filterMap_map];rfl
 rw[e,OK,List.filterMap_reverse];have:=pick_run its.toArray 1 k;rw[this];congr 1;rw[List.take_of_length_le];rw[bS];simp
 lia
def IX (its:dA)(h:its≠[]):slicePick its.toArray none (some 0) (some (-1))=(revT its).toArray:=by
 obtain⟨k,hk⟩:∃k,its.length=k+1:=⟨its.length - 1,by have:=List.length_pos_iff.mpr h;lia⟩
 unfold slicePick;rw[ai,hk];have e:sliceBounds none (some 0) (some (-1)) (k+1)=((k:Int),0,-1):=by
  simp only[sliceBounds,Option.getD_some];refine Prod.ext ?_ (Prod.ext ?_ rfl)
  ·simp
  ·simp <;> lia
 rw[e];have a:sliceRange (k:Int) 0 (-1)=(List.range k).map λm=>k - m:=by
  unfold sliceRange;have c:(if (-1:Int) > 0 then(if (k:Int)<0 then(0 - (k:Int) + -1 - 1) / -1 else 0)else(if (k:Int) > 0 then((k:Int) - 0 - -1 - 1) / (- -1)else 0)).toNat=k:=by
   rw[ab dw];split
   ·have:((k:Int) - 0 - -1 - 1) / (- -1)=k:=by rw[show(- -1:Int)=1 from rfl,Int.ediv_one];lia
    rw[this];lia
   ·lia
  dsimp only;rw[c];refine List.map_congr_left λm hm=>?_;have:=List.mem_range.mp hm
  lia
 dsimp only;rw[a,List.filterMap_map];have:=xT its k hk;unfold revT;rw[<-this];rfl
def zW {prog:eg}{w:eh}{A:en}{E:cE}{s:ee}{g:Addr}{f d e:ef}{n:Nat}{Q:Int×Int×Nat->ee->Prop}(j:s.heap.IsSliceOf g f d e)(pl:IsPart f none)(i:IsPart d (some 0))(pt:IsPart e (some (-1)))(q:1<=n)
  (h:Q ((n:Int) - 1,-1,n - 1) s):wM prog w A (Builtin.Slice.sliceApplied (.ref g) (pure (n:Int))) Q E s:=by
 obtain⟨os,a,l,c⟩:=id j;unfold Builtin.Slice.sliceApplied Builtin.Slice.sliceFields;refine aa (aa (wpAny_field a c (x:=f) rfl (aa (wpAny_field a c (x:=d) rfl (aa (wpAny_field a c (x:=e) rfl (ao ?_)))))));refine aa (HT.slicePart_ pt ?_);show wpAny _ _ (if ((-1:Int) == 0)=true then _ else _) _ _ s;rw[ab dw];refine aa (HT.slicePart_ pl (aa (HT.slicePart_ i (aa (ao ?_)))));have o:Builtin.Slice.sliceAdjust none (some 0) (-1) (n:Int)=((n:Int) - 1,0):=by
  unfold Builtin.Slice.sliceAdjust;refine Prod.ext ?_ ?_
  ·simp
  ·simp
   lia
 have m:Builtin.Slice.slicePlaces ((n:Int) - 1) 0 (-1)=n - 1:=by
  unfold Builtin.Slice.slicePlaces;rw[ab dw];split
  ·rw[show(- -1:Int)=1 from rfl,Int.ediv_one];lia
  ·lia
 show wpAny _ _ (match Builtin.Slice.sliceAdjust none (some 0) (-1) (n:Int)with|(lo,hi)=>pure (lo,(-1:Int),Builtin.Slice.slicePlaces lo hi (-1))) _ _ s;rw[o];show wpAny _ _ (pure ((n:Int) - 1,(-1:Int),Builtin.Slice.slicePlaces ((n:Int) - 1) 0 (-1))) _ _ s;rw[m];exact ao h
def DD {E:cE}{Q:cE}(a:IsTup s.heap t its.toArray)(g:s.heap.IsSliceOf sl vl vu vt)(pl:IsPart vl none)(i:IsPart vu (some 0))(pt:IsPart vt (some (-1)))(j:its≠[])(hz:its.length<=sizeLine)
  (h:Q (.ref s.heap.objs.size) {s with heap:=s.heap.push {cls:=.type "tuple",data:=.seq (revT its).toArray} }):wM prog w A (getItem (.ref t) (.ref sl)) Q E s:=by
 obtain⟨k,hk⟩:∃k,its.length=k+1:=⟨its.length - 1,by have:=List.length_pos_iff.mpr j;lia⟩
 obtain⟨os,c,d,l⟩:=id g;have f:s.TypeIs (.ref sl) "slice":=⟨os,c,d⟩
 unfold getItem
 try with_reducible refine cq ?_
 first|refine aa (ao ?_)|skip
 refine aa (wpAny_sequenceKey a.typeIs dw ?_)
 refine aa (wpAny_callSpecial?_slot (name:=Str.ofString "__getitem__") a.typeIs PyProof.Rows.slot_tuple_getitem
  (wpAny_call_entry PyProof.Rows.slot_tuple_getitem a.typeIs entry_tuple_getitem ?_ (args_tuple_getitem _ _)))
 show wpAny _ _ (Builtin.Tuple.tupleItemsOf (.ref t) >>= _) _ _ s;refine aa (tupleItemsOf_ a ?_);refine aa (wpAny_typeOf f ?_);rw[aj dw];refine aa (zW (n:=its.toArray.size) g pl i pt (by rw[ai];lia) ?_);dsimp only;rw[ab (by intro q;rw[Bool.and_eq_true,Bool.and_eq_true]at q;exact absurd q.1.2 dw)];have e:((List.range (its.toArray.size - 1)).filterMap λ(m:Nat)=>its.toArray[(((its.toArray.size:Nat):Int) - 1+(m:Int) * -1).toNat]?).toArray=(revT its).toArray:=by
  rw[ai,hk];have q:=xT its k hk;unfold revT;rw[<-q];congr 2;funext m;congr 1
  lia
 rw[e];have hsz:sizeOk (.seq (revT its).toArray):=by
  show(revT its).toArray.size<=sizeLine;rw[ai];unfold revT;rw[List.length_reverse,bS]
  lia
 first
  | exact aa (m:=Builtin.Tuple.tupleExact _) (cm (ao ⟨_,rfl,ao h⟩) hsz)
  | exact aa (m:=Builtin.Tuple.tupleExact _) (cm (aa (ao (ao ⟨_,rfl,ao h⟩))) hsz)
  | exact aa (aa (m:=Builtin.Tuple.tupleExact _) (cm (ao (ao ⟨_,rfl,ao h⟩)) hsz))
  | exact aa (aa (m:=Builtin.Tuple.tupleExact _) (cm (ao ⟨_,rfl,ao h⟩) hsz))
def OQ (X:Cx)(r:V->Option Int->Option Int->Option Int->Hp->VK->Prop):Prop :=
 ∀(a:eN) (s:ee) (σ:St) (H:Hp) (x:V) (v vl vu vt:ef) (lo hi st:Option Int) (sl:Addr) (Q:VK),aK X a σ H s->aQ x v->s.heap.IsSliceOf sl vl vu vt->IsPart vl lo->IsPart vu hi->IsPart vt st->r x lo hi st H Q ->
  ∃T id,typeLookup (.type T) "__getitem__" = pure (some (.builtin id))/\s.TypeIs v T/\wX X (getItem v (.ref sl)) (EP X a σ Q) X.xe s
def tSl3 (r:V->Option Int->Option Int->Option Int->Hp->VK->Prop)(e:TE)(tl d c:TO):TE:=λa H Q=>e a H λx i=>tl a i λl h=>d a h λu g=>c a g λt f=>r x l u t f Q
def iJ {X:Cx}{e:Expr}{w:TE}{z A:Option Expr}{st:Expr}{tl o m:TO}{f N:Pos}{r:V->Option Int->Option Int->Option Int->Hp->VK->Prop}(S:OQ X r)(W:PE X e w)(hl:PO X z tl)(P:PO X A o)(R:PO X (some st) m):PE X (.Subscript e (.Slice z A (some st) N) f) (tSl3 r w tl o m):=by intro a s c H Q I h;refine Subscript_ (thn (W a s c H _ I h) λv E ⟨x,H1,I1,r1,K⟩=>?_);refine wpAny_Slice (thn (hl a E c H1 _ I1 K) λj s2 ⟨l,H2,I2,pl,J⟩=>thn (P a s2 c H2 _ I2 J) λg C ⟨u,H3,I3,L,G⟩=>thn (R a C c H3 _ I3 G) λi d ⟨t,B,I4,pt,F⟩=>?_);have Z:aK X a c B {d with heap:=d.heap.push {cls:=.type "slice",data:=.fields #[j,g,i]} }:=I4.kept (t':=d.toks) λb ob q=>ag _ q;obtain⟨T,id,Y,O,U⟩:=S a _ c B x v j g i l u t d.heap.objs.size Q Z r1 (Heap.IsSliceOf.new ..) pl L pt F;exact tail_any (ops:=[v,.ref d.heap.objs.size]) O Y U (by with_unfolding_all rfl)
def rBack:V->Option Int->Option Int->Option Int->Hp->VK->Prop:=λx c d st H Q=>c=none/\d=some 0/\st=some (-1)/\∃a xs,x = .ref a/\eI H a xs/\xs≠[] /\
 ∀p o,H p=none->(o = .lst (revT xs)/\H a=some (.lst xs)\/o = .tup (revT xs)/\H a=some (.tup xs))->Q (.ref p) (upd H p o)
def aO.revT (h:aO xs us):aO (revT xs) (L2.revT us):=(h.drop 1).reverse
def A6 {a:Type}(xs:List a):(revT xs).length<=xs.length:=by unfold revT;rw[List.length_reverse,bS];lia
def xW (h:aO xs us)(n:xs≠[]):us≠[]:=λz=>by have:=h.length;rw[z]at this;exact n (List.length_eq_zero_iff.mp this)
def FQ:OQ X rBack:=by
 intro g s l H x v w m u A B st z Q I e i pl f pt h;obtain⟨rfl,rfl,rfl,a,xs,rfl,d|d,j,q⟩:=h
 ·cases e;obtain⟨its,r,hl,hz⟩:=I.list (d5.of d);refine⟨"list",_,slot_list_getitem.lookup,hl.isList.typeIs,?_⟩;have c:=r.length;refine wpAny_getItem_list_slice hl.isList i pl f pt dw ?_ (by rw[ai] <;> lia);rw[IX its (xW r j)];refine⟨.ref s.heap.objs.size,_,I.laid (t':=s.toks) (o:=.lst (revT xs)) (λb ob q=>ag _ q) (ac _) ?_,rfl,q _ _ (I.hok.fresh (ac _)) (.inl ⟨rfl,d⟩)⟩;exact⟨aq (A6 xs) hz,_,0,r.revT,av _ rfl⟩
 ·cases e;obtain⟨its,r,hl,hz⟩:=I.tuple (hX.of d);refine⟨"tuple",_,PyProof.Rows.slot_tuple_getitem.lookup,hl.typeIs,?_⟩;have c:=r.length;refine DD hl i pl f pt (xW r j) dz ?_;refine⟨.ref s.heap.objs.size,_,I.laid (t':=s.toks) (o:=.tup (revT xs)) (λb ob q=>ag _ q) (ac _) ?_,rfl,q _ _ (I.hok.fresh (ac _)) (.inr ⟨rfl,d⟩)⟩;exact⟨aq (A6 xs) hz,_,r.revT,⟨_,av _ rfl,rfl,_,rfl⟩⟩
def rExtU:V->List V->Hp->VK->Prop:=λx vs H Q=>∃l b xs a,x = .ref l/\vs=[.ref b]/\H l=some (.lst xs)/\eI H b a/\xs.length+a.length<=sizeLine/\Q .non (upd H l (.lst (xs++a)))
def RK (a:(!its.isEmpty && Builtin.List.listTooLong (its.size+its2.size))=false)(j:its.size<=sizeLine)(i:its.size+its2.size<=sizeLine+1) :
  Meets (Builtin.«list.extend» ⟨[.ref l,.ref b],[]⟩) (λ_ R s=>s.heap.get? l=some {cls:=.type "list",data:=.seq its n}/\s.heap.get? b=some ⟨.type "tuple",od,.seq its2 n2,osl⟩ /\
   R (.ok (.ret .none)) {s with heap:=s.heap.update l (Obj.mapSeq λx=>x++its2)}):=by
 refine .of_wp λprog w A R c h=>?_;obtain⟨m,g,d,tk,os⟩:=c;obtain⟨hl,e,h⟩:=h;have a:¬(!its.isEmpty && Builtin.List.listTooLong (its.size+its2.size))=true:=by rw[a];decide
 have f1:=AutoSeq1.idx_int;have f4:=AutoSeq1.sub_tuple_list;have o:=AutoSeq1.sub_list_tuple;have f:(its++its2).size<=sizeLine+1:=by rw[Array.size_append];exact i
 wp_walk using (wpAny_updateSeq hl rfl (hz:=j) (_hz':=f)),
  bi hl,bi e
 exact⟨_,rfl,h⟩
def jC:VM X "list.extend" rExtU:=by
 intro a s w H x vs v us Q I f g h;obtain⟨l,b,xs,A,j,o,c,d|d,hz,q⟩:=h
 ·exact JK a s w H x vs v us Q I f g ⟨l,b,xs,A,j,o,c,d,hz,q⟩
 subst j o;cases f;obtain⟨u,rfl,B⟩:=g.one;cases B;obtain⟨z,its,n,r,hl,e⟩:=I.lstM c;obtain⟨its2,i,⟨⟨N,od,C,osl⟩,G,K,n2,J⟩,L⟩:=I.tuple (hX.of d);cases K;cases J;have E:=i.length;have hsz:its.toArray.size+its2.toArray.size<=sizeLine:=by rw[ai,ai];lia
 have m:=RK (l:=l) (b:=b) (its:=its.toArray) (its2:=its2.toArray) (n:=n) (n2:=n2) (od:=od) (osl:=osl) (by rw[tR hsz,Bool.and_false]) (by rw[ai];lia) dz;refine call_meets F.slot_list_extend ⟨_,e,rfl⟩ F.entry_list_extend (F.args_list_extend_2 _ _) m ⟨e,G,?_⟩;refine⟨.non,_,I.lset (its':=its++its2) c e dV (r.append i) ?_,rfl,q⟩;rw[au]
 lia
noncomputable def tl1 (z:Str):Str:=⟨(z.cps.toList.drop 1).toArray⟩
def rSlTx:V->Option Int->Option Int->Hp->VK->Prop:=λx a c H Q=>∃z,x = .str z/\a=some 1/\c=none/\1<=z.length/\z.length<=sizeLine/\Q (.str (tl1 z)) H
def IV (z:Str)(h:1<=z.length)(u:Tok):slicePicked z (some (1,u)) none none=(List.range (z.length - 1)).map λm=>1+m:=by
 show Builtin.Str.strSliceIndices (some 1) none 1 z.length=_;unfold Builtin.Str.strSliceIndices;dsimp only;rw[ab (show ¬(1:Int)<0 by decide),aj (show(1:Int) > 0 by decide),aj (show(1:Int) > 0 by decide)];have e:max 0 (min 1 (z.length:Int))=1:=by lia
 rw[e];unfold sliceRange;dsimp only;rw[aj dw];have c:(if (1:Int)<(z.length:Int)then((z.length:Int) - 1+1 - 1) / 1 else 0).toNat=z.length - 1:=by
  split
  ·rw[Int.ediv_one];lia
  ·lia
 rw[c];refine List.map_congr_left λm _=>?_
 lia
def TC:WG X rSlTx:=by
 intro a s j H x v r o B C A Q I c f pl d h;obtain⟨z,rfl,rfl,rfl,i,hz,q⟩:=h;obtain⟨t,rfl⟩:=c;cases pl;rename_i tk;cases d;refine⟨"str",_,F.slot_str_getitem.lookup,typeIs_str _ _ _,?_⟩;refine wpAny_getItem_str_slice (l:=some (1,tk)) (u:=none) (st:=none) f rfl ?_;have g:=IV z i tk;unfold sliceMade;rw[g,ab (by intro w;rw[Bool.and_eq_true]at w;have:=eq_of_beq w.2;simp at this;lia)];have e:(((List.range (z.length - 1)).map λm=>1+m).filterMap (z.cps[·]?)).toArray=(z.cps.toList.drop 1).toArray:=by have:=pick_run z.cps 1 (z.length - 1);rw[this];congr 1;rw[List.take_of_length_le];rw[bS,bw];exact ac _
 rw[e];refine⟨?_,.str (tl1 z),H,I.tok _,⟨_,rfl⟩,q⟩;show(z.cps.toList.drop 1).toArray.size<=sizeLine;have hd:(z.cps.toList.drop 1).length=z.cps.size - 1:=by simp
 rw[ai,hd];exact aq (Nat.sub_le _ _) hz
def W2 (z:Str):It:=⟨λi _=>i<z.cps.size,λi H x H'=>H'=H/\∃c,z.cps[i]?=some c/\x = .str ⟨#[c]⟩,λi _=>i=z.cps.size⟩
def KU {P:eg}{w:eh}{K:d6}{L:Expr}(it:Addr)(z:Str)(t:Tok):qC P w K L (W2 z) [it] it (λi h=>h.IsStrIter it "str_ascii_iterator" z t i) where
 mem:=by simp
 obj:=λi h st b f=>by
  obtain rfl:b=it:=by simpa using f
  obtain⟨o,e,c,d⟩:=st;exact⟨o,e,λv q=>by rw[d]at q;cases q⟩
 keep:=λi h h' st k=>by obtain⟨o,e,r⟩:=st;exact⟨o,k it dV o e,r⟩
 item:=by intro X C m F B i a s J H E I l st j;subst C m F;obtain⟨f0,f1,f2,f3,f4,G⟩:=l it dV;have W:=Walks.strAscii (prog:=X.prog) (w:=X.w) (I.ok.hd B) it z t;refine W.item i s _ _ j st λv h' tk O g N=>?_;obtain⟨c,u,A,rfl⟩:=O;have S:aK X a J H {s with heap:=h',toks:=tk}:=I.turned (λb o f e=>N b o (by simpa using f) e) f0 f1 f3 f4 G;obtain⟨o,e,R,d⟩:=id g;exact⟨_,rfl,xB (s:={s with heap:=h',toks:=tk}) e R d dw ⟨.str ⟨#[c]⟩,H,S,⟨u,rfl⟩,⟨rfl,c,A,rfl⟩,g,λb f=>(l b f).1⟩⟩
 done:=by intro X C m F B i a s J H E I l st j;subst C m F;obtain⟨f0,f1,f2,f3,f4,G⟩:=l it dV;have j:i=z.cps.size:=j;subst j;exact wpAny_pyNext_ascii_end (I.ok.hd B) st dV λh' Q=>⟨rfl,I.turned (t':=s.toks) (λb o f e=>Q b o f e) f0 f1 f3 f4 G⟩
 self:=λ_ _ _ _ _ st h=>wpAny_pyIter_striter_ascii st h
def iTxt (c:TE):TI:=λa H R=>c a H λx d=>∃z:Str,x = .str z/\z.cps.all (. < 128)=true/\R (W2 z) d
def L6 (i:PE X e te):PI X tg e (iTxt te):=by
 intro a s f H R I h;refine thn (i a s f H _ I h) λv c ⟨x,m,d,r1,g⟩=>?_;obtain⟨z,rfl,l,q⟩:=g;obtain⟨t,rfl⟩:=r1;refine wpAny_pyIter_ascii l ?_;refine⟨c.heap.objs.size,[c.heap.objs.size],_,_,m,rfl,d.kept (t':=c.toks) λb o e=>ag _ e,KU _ z t,⟨_,av _ rfl,rfl,rfl⟩,λb j=>?_,q⟩;obtain rfl:b=c.heap.objs.size:=by simpa using j
 exact d.fpOk (ac _) (d.hok.fresh (ac _))
def oN (O:uV X.prog X.w X.K X.mg X.base CX k C m sp)(i:eG k X.A)(g:j0 CX X E)(j:PE X o ta)(q:PA X (e::es) t)
  (a:starEach (e::es) X.env=(false,eval e X.env)::starEach es X.env:=by rfl) (d:(backTo pos (starEach es X.env)).any (·.1)=false:=by rfl)
  (h:eval (.Call (.Attribute o m apos) (e::es) [] pos) X.env=(do
   let ov <-eval o X.env
   standAt apos.atName
   let(f,first) <-holding [ov] (getMethod ov m pl)
   callWith pos f first (backTo pos (starEach (e::es) X.env)) (backToKw pos (keywordEach [] X.env))):=by rfl):PE X (.Call (.Attribute o m apos) (e::es) [] pos) (tMeth C m sp [] E ta t):=by
 obtain⟨f,fd,ps,F,M,l,c⟩:=O;exact P6 j c M F i l .nil g q a d h
def VJ (P:eg)(w:eh)(K:d6)(mg:jD)(base:Heap)(CX:KJ)(k:Nat)(x:Str)(C:Addr)(a:Sp):Prop :=
 ∃f fd ps,hZ P w K mg base CX k f fd ps a/\mg x=some (.ref C)/\Mk K C f/\eH K fd ps []
def SC (O:VJ X.prog X.w X.K X.mg X.base CX k x C sp)(g:eG (k+1) X.A)(d:j0 CX X E)(h:Gl X x)(l:PA X (e::es) t)(c:(x == ("__debug__" : Str))=false:=by decide)
  (i:starEach (e::es) X.env=(false,eval e X.env)::starEach es X.env:=by rfl) (a:(backTo pos (starEach es X.env)).any (·.1)=false:=by rfl):PE X (.Call (.Name x p) (e::es) [] pos) (tMake C sp [] E t):=by
 obtain⟨f,fd,ps,F,hm,M,j⟩:=O;exact P7 M F g h hm j .nil d l c i a
def xK {z:Str}(Pv:Nat->List V->St->Hp->Prop)(j:Pv 0 [] d H)(e:∀i c a d H,z.cps[i]?=some c->Pv i a d H->CStep g tt te (.str ⟨#[c]⟩) a d H (Pv (i+1)))
  (hd:∀a d H,Pv z.cps.size a d H->∀p,H p=none->Q (.ref p) (upd H p (.lst a))):oH (W2 z) g tt te Q d H :=
 kY (n:=z.cps.size) Pv j (λi a d H f p=>⟨f,λx H' y=>by obtain⟨rfl,c,h,rfl⟩:=y;exact e i c a d _ h p⟩) λa d H p=>⟨rfl,hd a d H p⟩
noncomputable def inTx (z:Str)(c:Nat):Bool:=!(Builtin.Str.occurrences z ⟨#[c]⟩ 0 z.length 1).isEmpty
end L2
namespace L2
open PySem PySem.Spec PyProof.Rows PySem.W
def jG (n:Nat)(lt:Nat->Nat->Bool){c:Type}:KasT c->(c->Prop)->Prop
 | .ret a,Q=>Q a
 | .ask i j k,Q=>i<n/\j<n/\jG n lt (k (lt i j)) Q
def jG.bind {n:Nat}{lt:Nat->Nat->Bool}{c d:Type}{f:c->KasT d}{Q:d->Prop}{R:c->Prop}(e:∀a,R a->jG n lt (f a) Q):∀{t:KasT c},jG n lt t R->jG n lt (t.bind f) Q
 | .ret a,h=>e a h
 | .ask i j k,h=>⟨h.1,h.2.1,jG.bind e h.2.2⟩
def jG.mono {n:Nat}{lt:Nat->Nat->Bool}{c:Type}{Q R:c->Prop}(d:∀a,R a->Q a):∀{t:KasT c},jG n lt t R->jG n lt t Q
 | .ret a,h=>d a h
 | .ask i j k,h=>⟨h.1,h.2.1,jG.mono d h.2.2⟩
structure WK (n:Nat)(lt:Nat->Nat->Bool):Prop where
 irr:∀i,lt i i=false
 asym:∀i j,lt i j=true->lt j i=false
 tr:∀i j k,lt j i=false->lt k j=false->lt k i=false
section
variable {n:Nat}{lt:Nat->Nat->Bool}
def le (lt:Nat->Nat->Bool)(i j:Nat):Prop:=lt j i=false
noncomputable abbrev pa (p:Array Nat)(i:Nat):Nat:=p.getD i 0
def Up (lt:Nat->Nat->Bool)(p:Array Nat)(k:Nat):Prop:=∀i j,i<=j->j<k->le lt (pa p i) (pa p j)
def Dn (lt:Nat->Nat->Bool)(p:Array Nat)(k:Nat):Prop:=∀i j,i<=j->j<k->le lt (pa p j) (pa p i)
def Gd (n:Nat)(p:Array Nat):Prop:=p.Perm (List.range n).toArray
def Gd.size (h:Gd n p):p.size=n:=by have:=h.size_eq;simpa using this
def Gd.inn (h:Gd n p)(c:1<=n)(i:Nat):pa p i<n:=by
 by_cases a:i<p.size
 ·have e:pa p i=p[i]:=by simp[pa,Array.getD,a]
  rw[e];have hm:p[i]∈p.toList:=by simp
  have:=(Array.perm_iff_toList_perm.mp h).mem_iff.mp hm
  simpa using this
 ·have e:pa p i=0:=by simp[pa,Array.getD,a]
  rw[e];exact c
def BJ (h:p[i]?=q[j]?):pa p i=pa q j:=by unfold pa;rw[Array.getD_eq_getD_getElem?,Array.getD_eq_getD_getElem?,h]
def lM (a:j<=p.size)(k:Nat):pa (kas_rev p i j) k=if i<=k/\k<j then pa p (i+j - 1 - k)else pa p k:=by
 have e:=getElem?_mirror_all (xs:=p) (i:=i) a k;unfold kas_rev;by_cases h:i<=k/\k<j
 ·rw[aj h]at e|-;exact BJ e
 ·rw[ab h]at e|-;exact BJ e
def TW (f:src<p.size)(hd:d<=src)(k:Nat):pa (bubble p src d) k=if k=src - d then pa p src else if src - d<k/\k<=src then pa p (k - 1)else pa p k:=by
 have e:=getElem?_bubble (xs:=p) f d hd k;by_cases c:k=src - d
 ·rw[aj c]at e|-;exact BJ e
 ·rw[ab c]at e|-;by_cases a:src - d<k/\k<=src
  ·rw[aj a]at e|-;exact BJ e
  ·rw[ab a]at e|-;exact BJ e
def Gd.rev (h:Gd n p)(i j:Nat):Gd n (kas_rev p i j):=(mirror_perm p i j _).trans h
def Gd.bub (h:Gd n p)(i j:Nat):Gd n (bubble p i j):=(bubble_perm p i j).trans h
variable (O:WK n lt)
include O
theorem WK.le_refl (i:Nat):le lt i i:=O.irr i
theorem WK.le_trans (a:le lt i j)(b:le lt j k):le lt i k:=O.tr i j k a b
theorem WK.le_of (h:lt i j=true):le lt i j:=O.asym i j h
theorem Up.snoc (h:Up lt p k)(f:1<=k)(e:le lt (pa p (k - 1)) (pa p k)):Up lt p (k+1):=by
 intro i j c g;by_cases a:j<k
 ·exact h i j c a
 ·have:j=k:=by lia
  subst this;by_cases d:i=j
  ·subst d;exact O.le_refl _
  ·exact O.le_trans (h i (j - 1) dz dz) e
theorem Dn.snoc (h:Dn lt p k)(f:1<=k)(e:le lt (pa p k) (pa p (k - 1))):Dn lt p (k+1):=by
 intro i j c g;by_cases a:j<k
 ·exact h i j c a
 ·have:j=k:=by lia
  subst this;by_cases d:i=j
  ·subst d;exact O.le_refl _
  ·exact O.le_trans e (h i (j - 1) dz dz)
theorem uS (g:Gd n p)(i:1<=n):∀(f k:Nat),1<=k->Up lt p k->jG n lt (kas_asc p f k) λm=>k<=m/\m<=k+f/\Up lt p m/\(m<k+f->lt (pa p m) (pa p (m - 1))=true)
 | 0,k,j,h=>⟨ac _,ac _,h,λz=>absurd z (cj _)⟩
 | f+1,k,j,h=>by
  refine⟨g.inn i _,g.inn i _,?_⟩;cases c:lt (p.getD k 0) (p.getD (k - 1) 0)with
  | true =>
   dsimp only;rw[aj rfl];exact⟨ac _,dz,h,λ_=>c⟩
  | false =>
   dsimp only;rw[ab dw];exact(uS g i f (k+1) dz (Up.snoc O h j c)).mono λm ⟨a,b,d,e⟩=>⟨dz,dz,d,λz=>e dz⟩
theorem oW (g:Gd n p)(h:1<=n)(e:Up lt p k):∀(f l r:Nat),r - l<=f->l<=r->r<=k->(∀i,i<l->le lt (pa p i) (pa p k))->(∀i,r<=i->i<k->le lt (pa p k) (pa p i)) ->
  jG n lt (kas_place p k f l r) λm=>m<=k/\(∀i,i<m->le lt (pa p i) (pa p k))/\(∀i,m<=i->i<k->le lt (pa p k) (pa p i))
 | 0,l,r,w,q,a,o,j=>by
  have:l=r:=by lia
  subst this;exact⟨a,o,j⟩
 | f+1,l,r,w,q,a,o,j=>by
  unfold kas_place;by_cases d:l ≥ r
  ·rw[aj d];have:l=r:=by lia
   subst this;exact⟨a,o,j⟩
  ·rw[ab d];refine⟨g.inn h _,g.inn h _,?_⟩;cases c:lt (p.getD k 0) (p.getD ((l+r) / 2) 0)with
   | true =>
    dsimp only;rw[aj rfl];refine oW g h e f l ((l+r) / 2) dz dz dz o λi u v=>?_;exact O.le_trans (O.le_of c) (e _ _ u v)
   | false =>
    dsimp only;rw[ab dw];refine oW g h e f ((l+r) / 2+1) r dz dz a (λi u=>?_) j;exact O.le_trans (e i ((l+r) / 2) dz dz) c
theorem SY (m:k<p.size)(c:Up lt p k)(hl:l<=k)(q:∀i,i<l->le lt (pa p i) (pa p k))(o:∀i,l<=i->i<k->le lt (pa p k) (pa p i)):Up lt (bubble p k (k - l)) (k+1):=by
 have e:=TW (p:=p) m (Nat.sub_le k l);have r:k - (k - l)=l:=by lia
 rw[r]at e;intro i j d u;rw[e i,e j];by_cases h:i=l
 ·rw[aj h];by_cases a:j=l
  ·rw[aj a];exact O.le_refl _
  ·rw[ab a,aj dz];exact o _ dz dz
 ·rw[ab h];by_cases g:l<i/\i<=k
  ·rw[aj g,ab dz,aj dz];exact c _ _ dz dz
  ·rw[ab g];by_cases a:j=l
   ·rw[aj a];exact q _ dz
   ·rw[ab a];by_cases f:l<j/\j<=k
    ·rw[aj f];exact c _ _ dz dz
    ·rw[ab f];exact c _ _ d dz
theorem CQ (d:1<=n):∀(f:Nat) (p:Array Nat) (k:Nat),Gd n p->k+f<=n->Up lt p k->jG n lt (kas_bin f p k) λq=>Gd n q/\Up lt q (k+f)
 | 0,p,k,g,e,a=>⟨g,a⟩
 | f+1,p,k,g,e,a=>by
  unfold kas_bin;refine jG.bind (R:=λm=>m<=k/\(∀i,i<m->le lt (pa p i) (pa p k))/\(∀i,m<=i->i<k->le lt (pa p k) (pa p i))) (λm hm=>?_) (oW O g d a k 0 k dz dz (ac _) (λi c=>absurd c (Nat.not_lt_zero _)) λi c e=>absurd c dz);refine(CQ d f (bubble p k (k - m)) (k+1) (g.bub _ _) dz (SY O (by rw[g.size];lia) a hm.1 hm.2.1 hm.2.2)).mono λq h=>⟨h.1,?_⟩
  rw[show k+(f+1)=k+1+f by lia];exact h.2
def VZ (lt:Nat->Nat->Bool)(p:Array Nat)(n q:Nat):Prop:=∀i j,n - (q+1)<=i->i<n->n - (q+1)<=j->j<n->le lt (pa p i) (pa p j)
theorem N7 (c:k<=p.size)(dn:Dn lt p k)(eq:VZ lt p k q):Dn lt (kas_rev p (k - (q+1)) k) k:=by
 intro i j a f;rw[lM c,lM c];by_cases e:k - (q+1)<=i/\i<k
 ·rw[aj e,aj dz];exact eq _ _ dz dz dz dz
 ·rw[ab e];by_cases d:k - (q+1)<=j/\j<k
  ·rw[aj d];exact dn _ _ dz dz
  ·rw[ab d];exact dn _ _ a f
theorem tN (a:j<=p.size)(h:j<=k):pa (kas_rev p i j) k=pa p k:=by rw[lM a,ab dz]
theorem n6 (e:1<=n):∀(f:Nat) (p:Array Nat) (k q:Nat),Gd n p->1<=k->k+f<=n->q+1<=k->Dn lt p k->VZ lt p k q->jG n lt (kas_desc f p k q) λr=>Gd n r.1/\k<=r.2.1/\r.2.1<=k+f/\r.2.2+1<=r.2.1/\Dn lt r.1 r.2.1/\VZ lt r.1 r.2.1 r.2.2
 | 0,p,k,q,g,h,z,m,dn,eq=>⟨g,ac _,ac _,m,dn,eq⟩
 | f+1,p,k,q,g,h,z,m,dn,eq=>by
  refine⟨g.inn e _,g.inn e _,?_⟩;have one:∀o:Array Nat,VZ lt o (k+1) 0:=λo i j a b c d=>by
   have:i=k:=by lia
   have:j=k:=by lia
   subst_vars
   exact O.le_refl _
  have more:∀r:Array Nat×Nat×Nat,(Gd n r.1/\k+1<=r.2.1/\r.2.1<=k+1+f/\r.2.2+1<=r.2.1/\Dn lt r.1 r.2.1/\VZ lt r.1 r.2.1 r.2.2)->(Gd n r.1/\k<=r.2.1/\r.2.1<=k+(f+1)/\r.2.2+1<=r.2.1/\Dn lt r.1 r.2.1/\VZ lt r.1 r.2.1 r.2.2):=λr ⟨a,b,c,d⟩=>⟨a,dz,dz,d⟩
  have hz:k<=p.size:=by rw[g.size];lia
  cases c:lt (p.getD k 0) (p.getD (k - 1) 0)with
  | true =>
   dsimp only;rw[aj rfl];have u:=O.le_of c;by_cases w:q > 0
   ·rw[aj w];have F:=N7 O hz dn eq;have E:pa (kas_rev p (k - (q+1)) k) k=pa p k:=tN O hz (ac _);have C:le lt (pa p k) (pa (kas_rev p (k - (q+1)) k) (k - 1)):=by rw[lM hz,aj dz];exact O.le_trans u (eq _ _ dz dz dz dz)
    exact(n6 e f _ (k+1) 0 (g.rev _ _) dz dz dz (Dn.snoc O F h (E ▸ C)) (one _)).mono more
   ·rw[ab w];exact(n6 e f p (k+1) 0 g dz dz dz (Dn.snoc O dn h u) (one _)).mono more
  | false =>
   dsimp only;rw[ab dw];refine⟨g.inn e _,g.inn e _,?_⟩;cases c2:lt (p.getD (k - 1) 0) (p.getD k 0)with
   | true =>
    dsimp only;rw[aj rfl];exact⟨g,ac _,by show k<=k+(f+1);lia,m,dn,eq⟩
   | false =>
    dsimp only;rw[ab dw];refine(n6 e f p (k+1) (q+1) g dz dz dz (Dn.snoc O dn h c2) ?_).mono more;have H:le lt (pa p (k - 1)) (pa p k):=c;have G:le lt (pa p k) (pa p (k - 1)):=c2;intro i j J B I A;by_cases v:i=k
    ·by_cases l:j=k
     ·subst v;subst l;exact O.le_refl _
     ·subst v;exact O.le_trans G (eq _ _ dz dz dz dz)
    ·by_cases l:j=k
     ·subst l;exact O.le_trans (eq _ _ dz dz dz dz) H
     ·exact eq _ _ dz dz dz dz
theorem O8 (a:k<=p.size)(dn:Dn lt p k):Up lt (kas_rev p 0 k) k:=by intro i j c d;rw[lM a,lM a,aj dz,aj dz];exact dn _ _ dz dz
theorem uR (c:1<=n)(g:Gd n p)(d:1<=k)(e:k<=m)(hm:m<=n)(dn:Dn lt p k):jG n lt (kas_tail3 k m p) λr=>Gd n r.2/\1<=r.1/\r.1<=m/\Up lt r.2 r.1:=by
 have hz:k<=p.size:=by rw[g.size];lia
 unfold kas_tail3;refine jG.bind (λa h=>?_) (uS O (g.rev 0 k) c (m - k) k d (O8 O hz dn));exact⟨g.rev 0 k,by have:=h.1;show 1<=a;lia,by have:=h.2.1;show a<=m;lia,h.2.2.1⟩
theorem oF (l:1<=n)(g:Gd n p)(u:1<=k)(q:k+1<=m)(hm:m<=n)(dn:Dn lt p (k+1)):jG n lt (kas_descPart k m p) λr=>Gd n r.2/\1<=r.1/\r.1<=m/\Up lt r.2 r.1:=by
 unfold kas_descPart
 refine jG.bind (λr h=>?_) (n6 O l (m - (k+1)) p (k+1) 0 g dz dz dz dn λi j a b c d=>by
  have:i=k:=by lia
  have:j=k:=by lia
  subst_vars
  exact O.le_refl _)
 obtain⟨a,b,c,d,e,f⟩:=h;by_cases o:r.2.2 > 0
 ·rw[aj o];exact uR O l (a.rev _ _) dz dz hm (N7 O (by rw[a.size];lia) e f)
 ·rw[ab o];exact uR O l a dz dz hm e
theorem E1 (d:1<=n)(g:Gd n p):jG n lt (kas_count n p) λr=>Gd n r.2/\1<=r.1/\r.1<=n/\Up lt r.2 r.1:=by
 unfold kas_count
 refine jG.bind (λm h=>?_) (uS O g d (n - 1) 1 (ac _) λi j a b=>by
  have:i=0:=by lia
  have:j=0:=by lia
  subst_vars
  exact O.le_refl _)
 obtain⟨l,A,f,u⟩:=h;by_cases e:m=n
 ·rw[aj (by simpa using e)];exact⟨g,l,by show m<=n;lia,f⟩
 ·rw[ab (by simpa using e)];have w:=u dz;by_cases v:m > 1
  ·rw[aj v];refine⟨g.inn d _,g.inn d _,?_⟩;cases c:lt (p.getD 0 0) (p.getD (m - 1) 0)with
   | true =>
    dsimp only;rw[aj rfl];exact⟨g,l,by show m<=n;lia,f⟩
   | false =>
    dsimp only;rw[ab dw];have hz:m<=p.size:=by rw[g.size];lia
    have all:∀i j,i<m->j<m->le lt (pa p i) (pa p j):=λi j z o=>O.le_trans (O.le_trans (f i (m - 1) dz dz) c) (f 0 j dz o);refine oF O d (g.rev 0 m) l dz (ac _) (Dn.snoc O (λi j q o=>?_) l ?_)
    ·rw[lM hz,lM hz,aj dz,aj dz];exact all _ _ dz dz
    ·rw[tN O hz (ac _),lM hz,aj dz];exact O.le_trans (O.le_of w) (all _ _ dz dz)
  ·rw[ab v];have:m=1:=by lia
   subst this;refine oF O d g (ac _) dz (ac _) (Dn.snoc O (λi j q o=>?_) (ac _) (O.le_of w));have:i=0:=by lia
   have:j=0:=by lia
   subst_vars
   exact O.le_refl _
theorem KD (d:1<=n):jG n lt (kas_sort n) λq=>Gd n q/\Up lt q n:=by
 unfold kas_sort;refine jG.bind (λr h=>?_) (E1 O d (Array.Perm.refl _));obtain⟨g,f,e,a⟩:=h;by_cases h:r.1<n
 ·rw[aj h,show max r.1 1=r.1 by lia];refine(CQ O d (n - r.1) r.2 r.1 g dz a).mono λq c=>⟨c.1,?_⟩
  rw[<-show r.1+(n - r.1)=n by lia];exact c.2
 ·rw[ab h];have:r.1=n:=by lia
  rw[this]at a;exact⟨g,a⟩
end
theorem HU {n:Nat}{lt:Nat->Nat->Bool}{e:Type}{c:Nat->Nat->(Bool->ee->Prop)->ee->Prop}(J:ee->Prop)(l:∀i j C s,i<n->j<n->J s->(∀d,J d->C (lt i j) d)->c i j C s){Q:e->Prop}{R:e->ee->Prop}(m:∀a s,J s->Q a->R a s) :
  ∀{t:KasT e},jG n lt t Q->∀s,J s->t.kasWp c R s
 | .ret a,h,s,g=>m a s g h
 | .ask i j k,h,s,g=>l i j _ s h.1 h.2.1 g λd f=>HU J l m h.2.2 d f
end L2
namespace L2
open PySem PySem.Spec PyProof.Rows PySem.SeqAt
open PySem.AutoSeq1 (wpAny_loadPart')
open PySem.MeetsSeq PySem.MeetsSeq2 PySem.MeetsSeq3
def OZ (A:en)(s:ee)(y x:ef)(b:Bool):Prop:=∀(prog:eg) (w:eh) (E:cE) (Q:cE),Q (.bool b) s->wpAny (model prog w) A (richCompare .Lt y x) Q E s
inductive vX (A:en)(s:ee):dA->dA->Bool->Prop
 | nn:vX A s [] [] false
 | nc {v:ef} {vs:dA}:vX A s [] (v::vs) true
 | cn {u:ef} {us:dA}:vX A s (u::us) [] false
 | eq {u v:ef} {us vs:dA} {b:Bool}:EqAt A s u v true->vX A s us vs b->vX A s (u::us) (v::vs) b
 | ne {u v:ef} {us vs:dA} {b:Bool}:EqAt A s u v false->OZ A s u v b->vX A s (u::us) (v::vs) b
def VO (us:lX)(i:Nat)(xs:dA):Prop:=i<=us.size/\us.toList.drop i=xs
def VO.end_ (h:VO us i []):us.size=i/\us[i]?=none:=by have e:=congrArg List.length h.2;rw[bS,bw,List.length_nil]at e;have:=h.1;exact⟨dz,Array.getElem?_eq_none dz⟩
def VO.next (h:VO us i (x::xs)):i<us.size/\us[i]?=some x/\VO us (i+1) xs:=by
 have e:=congrArg List.length h.2;rw[bS,bw,ar]at e;have lt:i<us.toList.length:=by rw[bw];lia
 have a:=h.2;rw[List.drop_eq_getElem_cons lt]at a;injection a with d c;rw[bw]at lt;refine⟨lt,?_,lt,c⟩;rw[Array.getElem?_eq_getElem lt,<-d];rfl
abbrev vD (l b:Addr)(ol ob:Obj)(xs ys:dA):PySem.Spec:=λA R s=>s.heap.get? l=some ol/\s.heap.get? b=some ob/\∃r,vX A.in1 s xs ys r/\R (.ok (.ret (.bool r))) s
def sW {R:Result->ee->Prop}(m:Meets (Builtin.«list.__eq__.loop» (ltAsk l b i)) (vD l b ol ob xs ys))(h:vD l b ol ob xs ys A R s) :
  (Code.builtin "list.__eq__.loop" (ltAsk l b i)).quiet=true/\codeAny (model prog w) A (.builtin "list.__eq__.loop" (ltAsk l b i)) R s:=by
 refine⟨plainId_quiet plain_eq_loop (ltAsk l b i),codeAny_builtin entry_eq_loop ?_⟩;have u:=A.under_plainId plain_eq_loop (ltAsk l b i);rw[u];exact m prog w A R s h
theorem wB (l b:Addr)(us vs:lX)(n k:Nat)(E C:Option Addr)(v u:Array (Option ef)):∀(xs ys:dA) (i:Nat),VO us i xs->VO vs i ys ->
  Meets (Builtin.«list.__eq__.loop» (ltAsk l b i)) (vD l b {cls:=.type "list",dict:=E,data:=.seq us n,slots:=v} {cls:=.type "list",dict:=C,data:=.seq vs k,slots:=u} xs ys)
 | [],ys,i,f,g=>by
  rintro prog w A R ⟨B,ge,d,tk,os⟩ ⟨a,c,r,o,h⟩;obtain⟨z,q⟩:=f.end_;have e:r=decide (us.size<vs.size):=by
   cases o with
   | nn=>exact(br (by rw[z,(g.end_).1];exact cj _)).symm
   | nc=>exact(bj (z ▸ (g.next).1)).symm
  rw[e]at h
  wp_walk using bi a,bi c
  rw[show((i:Nat):Int).toNat=i from rfl,q];cases vs[i]? <;> wp_walk using bi a,bi c <;> exact h
 | x::xs,[],i,f,g=>by
  rintro prog w A R ⟨B,ge,d,tk,os⟩ ⟨a,c,r,o,h⟩;obtain⟨z,q⟩:=g.end_;obtain⟨lt,is,_⟩:=f.next
  cases o;have e:false=decide (us.size<vs.size):=(br dz).symm;rw[e]at h
  wp_walk using bi a,bi c
  rw[show((i:Nat):Int).toNat=i from rfl,q,is]
  wp_walk using bi a,bi c
  exact h
 | x::xs,y::ys,i,f,g=>by
  have go:=wB l b us vs n k E C v u xs ys (i+1) (f.next).2.2 (g.next).2.2;rintro prog w A R ⟨B,ge,d,tk,os⟩ ⟨a,c,r,o,h⟩;obtain⟨_,m,_⟩:=f.next
  obtain⟨_,isV,_⟩:=g.next
  wp_walk using bi a,bi c
  rw[show((i:Nat):Int).toNat=i from rfl,m,isV];cases o with
  | eq asked rest =>
   refine aa (asked prog w _ _ ?_)
   wp_walk
   exact sW go ⟨a,c,r,rest,h⟩
  | ne asked j =>
   refine aa (asked prog w _ _ ?_);have j:=j prog w
   wp_walk using bi a,bi c
   rw[m,isV]
   wp_walk using j
   exact h
def y4 (l b:Addr)(us vs:lX)(n k:Nat)(i g:Option Addr)(f e:Array (Option ef)) :
  Meets (Builtin.«list.__lt__» ⟨[.ref l,.ref b],[]⟩) (vD l b {cls:=.type "list",dict:=i,data:=.seq us n,slots:=f} {cls:=.type "list",dict:=g,data:=.seq vs k,slots:=e} us.toList vs.toList):=by
 have go:=wB l b us vs n k i g f e us.toList vs.toList 0 ⟨aw _,rfl⟩ ⟨aw _,rfl⟩;rintro prog w A R ⟨j,ge,d,tk,os⟩ ⟨a,c,h⟩;have kind:=AutoSeq1.sub_list_list
 wp_walk using bi a,bi c
 exact sW go ⟨a,c,h⟩
def vG (l b:Addr)(us vs:lX)(n k:Nat)(H G:Option Addr)(z v:Array (Option ef)) :
  Meets (Builtin.«tuple.__lt__» ⟨[.ref l,.ref b],[]⟩) (vD l b {cls:=.type "tuple",dict:=H,data:=.seq us n,slots:=z} {cls:=.type "tuple",dict:=G,data:=.seq vs k,slots:=v} us.toList vs.toList):=by
 refine .of_wp λprog w A R B h=>?_;obtain⟨u,g,d,tk,os⟩:=B;obtain⟨hl,F,r,E,h⟩:=h;have f2:=AutoSeq1.sub_tuple_tuple
 wp_walk using bi hl,bi F,wpAny_forIn_list _ (λrest b m=>b.1=none/\m=⟨u,g,d,tk,os⟩/\∃(xs ys:dA),rest=xs.zip ys/\vX A.in1 ⟨u,g,d,tk,os⟩ xs ys r/\xs.length+vs.size=ys.length+us.size) _
 case turn =>
  rintro⟨y,x⟩ rest b m ⟨j,rfl,xs,ys,hz,i,a⟩;cases i with
  | nn=>cases hz
  | nc=>cases hz
  | cn=>cases hz
  | eq asked more =>
   rw[List.zip_cons_cons]at hz;injection hz with f e;injection f with o q;subst o q;simp only[ar]at a;refine aa (asked prog w _ _ ?_)
   wp_walk
   exact⟨rfl,rfl,_,_,e,more,dz⟩
  | ne asked c =>
   rw[List.zip_cons_cons]at hz;injection hz with f e;injection f with o q;subst o q;refine aa (asked prog w _ _ ?_);have c:=c prog w
   wp_walk using c
   refine⟨_,rfl,?_⟩
   simpa using h
 case fin =>
  rintro⟨J,I⟩ m ⟨j,rfl,xs,ys,hz,i,a⟩;simp only at j;subst j;have C:r=decide (us.size<vs.size):=by
   cases i with
   | nn =>
    simp only[List.length_nil]at a;exact(br dz).symm
   | nc =>
    simp only[List.length_nil,ar]at a;exact(bj dz).symm
   | cn =>
    simp only[List.length_nil,ar]at a;exact(br dz).symm
   | eq _ _=>rw[List.zip_cons_cons]at hz;cases hz
   | ne _ _=>rw[List.zip_cons_cons]at hz;cases hz
  rw[C]at h
  wp_walk
  exact⟨_,rfl,by simpa [Builtin.Tuple.tupleCompareSizes] using h⟩
 case h =>
  exact⟨rfl,rfl,us.toList,vs.toList,rfl,E,by simp[Nat.add_comm]⟩
end L2
namespace L2
open PySem PySem.Spec PyProof.Rows
def aK.adopt {X:Cx}{d:eN}{g:St}{H:Hp}{s:ee}{a:Addr}{o:HO}(I:aK X d g H s)(f:fZ X d H a)(new:cD X.prog X.w (upd H a o) s.heap a o):aK X d g (upd H a o) s:=by
 obtain⟨f0,f1,f2,f3,f4,B⟩:=f;have keep:∀b u,H b=some u->upd H a o b=some u:=λb u e=>upk (aC e f0) e;refine {ok:=I.ok,os:=I.os,bare:=I.bare,base:=?_,loc:=I.loc,cell:=I.cell,free:=?_,freeC:=?_,pin:=?_,hok:=?_,len:=I.len}
 ·have u:=I.base
  exact {
   keep:=u.keep,slot:=u.slot,there:=u.there,tups:=λb xs e=>keep _ _ (u.tups b xs e),frzs:=λb q r e=>keep _ _ (u.frzs b q r e),
   tbls:=λb ps e=>by obtain⟨more,h⟩:=u.tbls b ps e;exact⟨more,keep _ _ h⟩,
   free:=λb q e n i=>by
    have ne:b≠a:=λz=>by
     rcases f3 with h|h
     ·exact i (z ▸ h)
     ·exact cj _ (bh (bf e) (z ▸ h))
    rw[bG ne]
    exact u.free b q e n i}
 ·rw[bG (Ne.symm f1)];exact I.free
 ·intro x c e;rw[bG (f4 x c e)];exact I.freeC x c e
 ·intro p j;obtain⟨A,v,m⟩:=I.pin p j;exact⟨A,upk (B p j) v,m⟩
 ·intro b u e;by_cases l:b=a
  ·subst l;rw[ew]at e;cases e;exact new
  ·rw[bG l]at e;exact(I.hok b u e).stay (λ_ _ _ q=>q) (λc q=>keep _ _ q) (λc xs q=>keep _ _ q)
def fZ.at (f:fZ X pins H b)(h:H' b=none):fZ X pins H' b:=⟨h,f.2⟩
def AI (vs:dA)(ks:List jF):Prop:=ks.length=vs.length/\∀(i:Nat) (k:jF) (v:ef),ks[i]?=some k->vs[i]?=some v->keyIs k v=true/\v.scannable=true
def O1 (P:eg)(w:eh)(h:Heap)(S:Addr)(ks:List jF)(i:Nat):Prop:=h.SetOf (cN P w) S (λk=>(ks.take i).any λx=>decide (x=k)) i
def O1.at (x:O1 P w h S ks i)(k:∀o,h.get? S=some o->h'.get? S=some o):O1 P w h' S ks i:=by obtain⟨o,es,a,t,e,r⟩:=x;exact⟨o,es,a,t,k _ e,r⟩
local macro_rules | `(tactic| walk_at "sd_on")=>`(tactic| (repeat (any_goals (first | assumption | wp_step))))
def GP {R:Result->ee->Prop}(h:wpAny (model P w) A.in1 (Builtin.«set.update.loop» ⟨[.ref S,.ref I],[]⟩) (λy a=>match y with | .done f=>R (.ok f) a | .again c=>c.quiet=true/\codeAny (model P w) A c R a) (λe a=>R (.error e) a) s):codeAny (model P w) A (.builtin "set.update.loop" ⟨[.ref S,.ref I],[]⟩) R s :=
 codeAny_builtin F.entry_set_update_loop (by rw[Around.under_plainId F.plain_set_update_loop _];exact h)
def LI (X:A.handled=none)(H:AI items ks)(nd:ks.Nodup)(hb:items.length+1<scanBound)(n1:S≠I)(n2:l≠I)(n3:l≠S){R:Result->ee->Prop} :
  ∀(j i:Nat) (s:ee),i+j=items.length->s.heap.IsListIter I l i->s.heap.IsList l items.toArray->O1 P w s.heap S ks i ->
   (∀h' tk,O1 P w h' S ks items.length->(∀b o,b≠S->b≠I->s.heap.get? b=some o->h'.get? b=some o)->R (.ok (.ret .none)) {s with heap:=h',toks:=tk}) ->
   codeAny (model P w) A (.builtin "set.update.loop" ⟨[.ref S,.ref I],[]⟩) R s:=by
 intro j
 induction j with
 | zero =>
  intro i s e it hl B C;rw[Nat.add_zero]at e;subst e;refine GP ?_;refine aa (wpAny_pyNext_list_end (A:=A.in1) X it hl dV λh' N=>?_);exact ao (C h' s.toks (B.at λo z=>N _ _ n1 z) λb o _ Y z=>N b o Y z)
 | succ j U =>
  intro i s e it hl B C;have q:i<items.length:=by lia
  have K:i<ks.length:=by rw[H.1];exact q
  obtain⟨is,T⟩:=H.2 i ks[i] items[i] (ay K) (ay q);refine GP ?_;refine aa (wpAny_pyNext_list_item (A:=A.in1) (x:=items[i]) it hl (by simp[q]) λE h c=>?_);have u:O1 P w E S ks i:=B.at λo z=>(c.2 S n1).trans z;show wpAny _ A.in1 (holding [items[i]] (setAdd S items[i]) >>= _) _ _ {s with heap:=E};refine aa (cq (show wpAny _ _ (setAdd S items[i]) _ _ _ from ?_));unfold setAdd;refine cq (aa ((cN P w).pyHash (k:=ks[i]) is ?_));refine wpAny_setAddHashed_of (knd:=cN P w) (s:={s with heap:=E,toks:=s.toks+1}) is T u dz λL a d=>?_;have new:((ks.take i).any λx=>decide (x=ks[i]))=false:=by
   rw[List.any_eq_false];intro x W z;have z:=bx z;obtain⟨m,hm,G⟩:=List.mem_iff_getElem.mp W;rw[z]at G;rw[bz]at hm;rw[List.getElem_take]at G;have:=(List.getElem_inj nd).mp G
   lia
  rw[new]at d;have Z:(λJ=>((ks.take i).any λx=>decide (x=J)) || decide (J=ks[i]))=λk=>(ks.take (i+1)).any λx=>decide (x=k):=by funext k;rw[List.take_succ_eq_append_getElem K,List.any_append,List.any_cons,List.any_nil,Bool.or_false];congr 1;exact decide_eq_decide.mpr eq_comm
  rw[Z]at d;have r:O1 P w L S ks (i+1):=d;refine ao ⟨plainId_quiet F.plain_set_update_loop _,U (i+1) {s with heap:=L,toks:=s.toks+1} dz ?_ ?_ r λh' tk v kp=>?_⟩
  ·obtain⟨o,g,f⟩:=h;exact⟨o,(a.2 I n1.symm).trans g,f⟩
  ·obtain⟨o,g,f⟩:=hl;exact⟨o,(a.2 l n3).trans ((c.2 l n2).trans g),f⟩
  ·exact C h' tk v λb o O Q z=>kp b o O Q ((a.2 b O).trans ((c.2 b Q).trans z))
def J7 {E:cE}{Q:cE}(I:A.handled=none)(hl:s.heap.IsList l items.toArray)(H:AI items ks)(nd:ks.Nodup)(K:items.length+1<scanBound)
  (h:∀(h':Heap) (tk:Nat),O1 P w h' s.heap.objs.size ks items.length->(∀b o,s.heap.get? b=some o->h'.get? b=some o)->Q (.ref s.heap.objs.size) {s with heap:=h',toks:=tk}) :
  wpAny (model P w) A (call (.type "set") [.ref l]) Q E s:=by
 obtain⟨c,tl,W⟩:=F.called_set.mro;have U:=F.called_set.made;have T:=F.called_set.sub;refine wpAny_call (codeAny_of_tree (ao ⟨Code.quiet_builtin _ (by decide +kernel),codeAny_builtin F.entry_type_call ?_⟩));have z:=weight_type_call_type "set" [.ref l] [];rw[Around.under_plain z rfl];have S:=F.called_set.notType;have O:=F.called_set.canCreate;have N:=F.typeCall_set_1 (.ref l)
 walk_at "sd_on"
 refine codeAny_mono (code_set_new_1 (.ref l) (E:=E) (Q₁:=λobj u=>∃led:Bool,obj = .ref s.heap.objs.size/\u={s with heap:=s.heap.push {cls:=.type "set",dict:=none,data:=.set #[] 0 (.fresh 0 0 led)} }) λled=>⟨led,rfl,rfl⟩) λr u f=>?_;cases r with
 | error e=>exact f
 | ok fl =>
  cases fl with
  | next=>exact f.elim
  | brk=>exact f.elim
  | cont=>exact f.elim
  | ret obj =>
   obtain⟨led,rfl,rfl⟩:=f;have v:(s.heap.push {cls:=.type "set",dict:=none,data:=.set #[] 0 (.fresh 0 0 led)}).get? s.heap.objs.size=some {cls:=.type "set",dict:=none,data:=.set #[] 0 (.fresh 0 0 led)}:=av _ rfl;have B:Shared.TypeIs {s with heap:=s.heap.push {cls:=.type "set",dict:=none,data:=.set #[] 0 (.fresh 0 0 led)} } (.ref s.heap.objs.size) "set":=⟨_,v,rfl⟩
   have i1:=F.called_set.init.lookup;have i2:=F.called_set.init.bind (.ref s.heap.objs.size)
   walk_at "sd_on"
   refine codeAny_mono (codeAny_call_builtin (R:=wants (λr s2=>r = .none/\∃h' tk,s2={s with heap:=h',toks:=tk}/\O1 P w h' s.heap.objs.size ks items.length/\∀b o,s.heap.get? b=some o->h'.get? b=some o) E) F.called_set.init.plain F.entry_set_init (check_set_init_1 B ?_)) λG s2 a=>?_
   ·obtain⟨⟨c1,d1,t1,C⟩,ho,i,n1,g⟩:=id hl;simp only at i g;subst i g;have ho':=ag {cls:=.type "set",dict:=none,data:=.set #[] 0 (.fresh 0 0 led)} ho;have Z:=F.sub_list_set;have Y:=F.sub_list_frozenset;have X:(Value.type "list" == Value.type "dict")=false:=by decide
    have hl':(s.heap.push {cls:=.type "set",dict:=none,data:=.set #[] 0 (.fresh 0 0 led)}).IsList l items.toArray:=⟨_,ho',rfl,n1,rfl⟩
    unfold Builtin.«set.__init__» Builtin.Frozenset.updateFrom noKeywords;generalize q:pyIter=PI
    wp_walk
    subst q;refine wpAny_pyIter_list hl' (aa (wpAny_runValue ?_));have lt:=bf ho;have j:(s.heap.push {cls:=.type "set",dict:=none,data:=.set #[] 0 (.fresh 0 0 led)}).objs.size=s.heap.objs.size+1:=Heap.size_push _ _;refine LI (P:=P) (w:=w) (items:=items) (ks:=ks) (l:=l) (by simp[I]) H nd K (j ▸ bv (Nat.lt_succ_self _)) (j ▸ bv (Nat.lt_succ_of_lt lt)) (bv lt) items.length 0 _ (Nat.zero_add _) ⟨_,av _ rfl,rfl,rfl⟩ (hl'.push _) ?_ λh' tk d kp=>?_
    ·have L:=ag {cls:=.type "list_iterator",data:=.fields #[.ref l,.int 0 0]} v;refine⟨_,#[],0,.fresh 0 0 led,L,⟨rfl,rfl,rfl⟩,rfl,(λe J=>absurd J dV),λk=>?_,(by show 0<scanBound;lia),(by cases led <;> decide),rfl⟩;simp
    ·refine ao (ao ⟨rfl,h',tk,rfl,d,λb o e=>kp b o (bv (bf e)) (j ▸ bv (Nat.lt_succ_of_lt (bf e))) (ag _ (ag _ e))⟩)
   ·cases G with
    | error e=>exact a
    | ok f2 =>
     cases f2 with
     | next=>exact a.elim
     | brk=>exact a.elim
     | cont=>exact a.elim
     | ret r =>
      obtain⟨rfl,h',tk,rfl,d,m⟩:=a
      walk_at "sd_on"
      exact h _ _ d m
noncomputable abbrev E4 (P:eg)(w:eh)(a:Addr)(n:Nat):HO:=.ext λh=>∃ks,O1 P w h a ks n
def PD (x:O1 P w h a ks n):cD P w H h a (E4 P w a n):=by refine⟨⟨ks,x⟩,?_,λf d ⟨c,y⟩ k=>⟨c,y.at λo e=>k o e⟩⟩;obtain⟨o,_,_,_,e,_⟩:=x;exact⟨o,e⟩
def EI:∀{c:bA} {us:dA},aO (c.map V.str) us->AI us (c.map Sum.inr):=by
 intro c us h;refine⟨by rw[af,<-h.length,af],λi k v a f=>?_⟩;rw[cf]at a;cases hs:c[i]? with
 | none=>rw[hs]at a;cases a
 | some x =>
  rw[hs]at a;cases a;obtain⟨u,d,e⟩:=h.get (i:=i) (x:=.str x) (by rw[cf,hs];rfl);rw[f]at d;cases d;obtain⟨t,rfl⟩:=e;exact⟨qU x t,rfl⟩
def rSetT (P:eg)(w:eh):List V->Hp->VK->Prop:=λxs H Q=>∃(l:Addr) (ss:bA),xs=[.ref l]/\H l=some (.lst (ss.map V.str))/\ss.Nodup/\ss.length<=100/\∀p,H p=none->Q (.ref p) (upd H p (E4 P w p ss.length))
def xN (j:X.calm=true):dZ X (.type "set") (rSetT X.prog X.w):=by
 intro c s m H xs us Q I f h;obtain⟨l,a,rfl,hl,nd,le,q⟩:=h;obtain⟨u,rfl,g⟩:=aO.one f;cases g;obtain⟨its,r,pl,hz⟩:=I.list (d5.of hl);have len:its.length=a.length:=by rw[<-r.length,af]
 refine J7 (P:=X.prog) (w:=X.w) (I.ok.hd j) pl.isList (EI r) ((List.pairwise_map.mpr (nd.imp λh e=>h (Sum.inr.inj e)))) (by rw[len];exact ak (Nat.succ_le_succ le) dw) λh' tk d kp=>?_;have i:H s.heap.objs.size=none:=I.hok.fresh (ac _);rw[len]at d;exact⟨.ref s.heap.objs.size,_,I.laid (t':=tk) (o:=E4 X.prog X.w s.heap.objs.size a.length) kp (ac _) (PD d),rfl,q _ i⟩
def rLenS (P:eg)(w:eh):List V->Hp->VK->Prop:=λxs H Q=>∃(a:Addr) (n:Nat),xs=[.ref a]/\H a=some (E4 P w a n)/\Q (.int n) H
def xO:dZ X (.builtin "len") (rLenS X.prog X.w):=by intro d s m H xs us Q I e h;obtain⟨a,n,rfl,l,q⟩:=h;obtain⟨u,rfl,f⟩:=aO.one e;cases f;obtain⟨⟨ks,o,es,r,t,ho,c,hd,_,_,j,i,g⟩,_⟩:=I.hok a _ l;have v:es.size<4096:=j;refine call_len_set ho c hd i dz ?_;rw[g];exact⟨.int n,H,I.tok _,⟨_,rfl⟩,q⟩
def perm_erase {a:Type}:∀(l:List a) (i:Nat) (h:i<l.length),(l[i]::l.eraseIdx i).Perm l
 | x::l,0,_=>.rfl
 | x::l,i+1,h=>(List.Perm.swap ..).trans ((perm_erase l i (Nat.lt_of_succ_lt_succ h)).cons x)
def rRevL:V->Option Int->Option Int->Option Int->Hp->VK->Prop:=λx c d st H Q=>c=none/\d=none/\st=some (-1)/\∃a xs,x = .ref a/\H a=some (.lst xs)/\∀p,H p=none->Q (.ref p) (upd H p (.lst xs.reverse))
def tJ (its:dA):(List.range its.length).filterMap (λm=>its.toArray[its.length - 1 - m]?)=its.reverse:=by
 have e:(List.range its.length).filterMap (λm=>its.toArray[its.length - 1 - m]?)=((List.range its.length).map (its.length - 1 - ·)).filterMap (λj=>its.toArray[j]?):=by rw[List.filterMap_map];rfl
 have a:(List.range its.length).map (its.length - 1 - ·)=(List.range its.length).reverse:=by
  apply List.ext_getElem
  ·simp
  ·intro i d c;simp
 rw[e,a,List.filterMap_reverse];have r:=pick_run its.toArray 0 its.length;simp only[Nat.zero_add,List.drop_zero,List.map_id']at r;rw[r];simp
def L4 (its:dA):slicePick its.toArray none none (some (-1))=its.reverse.toArray:=by
 unfold slicePick;rw[ai];have e:sliceBounds none none (some (-1)) its.length=((its.length:Int) - 1,-1,-1):=by
  simp only[sliceBounds,Option.getD_some];refine Prod.ext ?_ (Prod.ext ?_ rfl)
  ·simp
  ·simp
 rw[e];have a:sliceRange ((its.length:Int) - 1) (-1) (-1)=(List.range its.length).map λm=>its.length - 1 - m:=by
  unfold sliceRange;have c:(if (-1:Int) > 0 then(if (its.length:Int) - 1 < -1 then(-1 - ((its.length:Int) - 1) + -1 - 1) / -1 else 0)else(if (its.length:Int) - 1 > -1 then((its.length:Int) - 1 - -1 - -1 - 1) / (- -1)else 0)).toNat=its.length:=by
   rw[ab dw];split
   ·rw[show(- -1:Int)=1 from rfl,Int.ediv_one];lia
   ·lia
  dsimp only;rw[c];refine List.map_congr_left λm hm=>?_;have:=List.mem_range.mp hm
  lia
 dsimp only;rw[a,List.filterMap_map];exact congrArg List.toArray (tJ its)
def TF:OQ X rRevL:=by intro c s j H x v u l m z A st w Q I e g pl f pt h;obtain⟨rfl,rfl,rfl,a,xs,rfl,i,q⟩:=h;cases e;obtain⟨its,r,hl,hz⟩:=I.list (d5.of i);refine⟨"list",_,slot_list_getitem.lookup,hl.isList.typeIs,?_⟩;have d:=r.length;refine wpAny_getItem_list_slice hl.isList g pl f pt dw ?_ (by rw[ai] <;> lia);rw[L4];refine⟨.ref s.heap.objs.size,_,I.laid (t':=s.toks) (o:=.lst xs.reverse) (λb ob q=>ag _ q) (ac _) ?_,rfl,q _ (I.hok.fresh (ac _))⟩;exact⟨by rw[List.length_reverse];exact hz,_,0,r.reverse,av _ rfl⟩
def rRevI:V->Option Int->Option Int->Option Int->Hp->VK->Prop:=λx c d st H Q=>c=some (-2)/\d=none/\st=some (-1)/\∃a xs,x = .ref a/\H a=some (.lst xs)/\xs≠[]/\∀p,H p=none->Q (.ref p) (upd H p (.lst xs.dropLast.reverse))
def B5 {c d:Type}{f g:c->Option d}:∀{l:List c},(∀x∈l,f x=g x)->l.filterMap f=l.filterMap g:=by
 intro l
 induction l with
 | nil=>intro _;rfl
 | cons a l e=>intro h;rw[List.filterMap_cons,List.filterMap_cons,h a ax,e λx i=>h x (bc _ i)]
def IW (its:dA)(h:its≠[]):slicePick its.toArray (some (-2)) none (some (-1))=its.dropLast.reverse.toArray:=by
 obtain⟨k,hk⟩:∃k,its.length=k+1:=⟨its.length - 1,by have:=List.length_pos_iff.mpr h;lia⟩
 unfold slicePick;rw[ai,hk];have e:sliceBounds (some (-2)) none (some (-1)) (k+1)=((k:Int) - 1,-1,-1):=by
  simp only[sliceBounds,Option.getD_some];refine Prod.ext ?_ (Prod.ext ?_ rfl)
  ·simp <;> lia
  ·simp
 rw[e];have d:sliceRange ((k:Int) - 1) (-1) (-1)=(List.range k).map λm=>k - 1 - m:=by
  unfold sliceRange;have c:(if (-1:Int) > 0 then(if (k:Int) - 1 < -1 then(-1 - ((k:Int) - 1) + -1 - 1) / -1 else 0)else(if (k:Int) - 1 > -1 then((k:Int) - 1 - -1 - -1 - 1) / (- -1)else 0)).toNat=k:=by
   rw[ab dw];split
   ·rw[show(- -1:Int)=1 from rfl,Int.ediv_one];lia
   ·lia
  dsimp only;rw[c];refine List.map_congr_left λm hm=>?_;have:=List.mem_range.mp hm
  lia
 dsimp only;rw[d,List.filterMap_map];have a:its.dropLast.length=k:=by rw[List.length_dropLast,hk];rfl
 have r:=tJ its.dropLast;rw[a]at r;rw[<-r];refine congrArg List.toArray (B5 λm hm=>?_);have:=List.mem_range.mp hm;show its.toArray[k - 1 - m]?=its.dropLast.toArray[k - 1 - m]?;rw[List.getElem?_toArray,List.getElem?_toArray,List.getElem?_dropLast,aj dz]
def yK:OQ X rRevI:=by intro c s j H x v u l m z A st w Q I e g pl f pt h;obtain⟨rfl,rfl,rfl,a,xs,rfl,i,ne,q⟩:=h;cases e;obtain⟨its,r,hl,hz⟩:=I.list (d5.of i);refine⟨"list",_,slot_list_getitem.lookup,hl.isList.typeIs,?_⟩;have d:=r.length;refine wpAny_getItem_list_slice hl.isList g pl f pt dw ?_ (by rw[ai] <;> lia);rw[IW its (xW r ne)];refine⟨.ref s.heap.objs.size,_,I.laid (t':=s.toks) (o:=.lst xs.dropLast.reverse) (λb ob q=>ag _ q) (ac _) ?_,rfl,q _ (I.hok.fresh (ac _))⟩;exact⟨by rw[List.length_reverse,List.length_dropLast];lia,_,0,r.dropLast.reverse,av _ rfl⟩
def tOrT (K:d6)(e tb:TE):TE:=λd H Q=>e d H λx a=>∃c,ON K x a c/\if c=true then Q x a else tb d a Q
def TU {X:Cx}{a b:Expr}{rest:vE}{e:Pos}{g tb:TE}(u:PE X a g)(r:PE X (.BoolOp .Or (b::rest) e) tb):PE X (.BoolOp .Or (a::b::rest) e) (tOrT X.K g tb):=by
 intro d s f H Q I h;refine BoolOp_or (thn (u d s f H _ I h) λv q ⟨x,m,A,r1,c,o,i⟩=>?_);refine thn (KY d q f m x v (λk H'=>k=c/\H'=m) A r1 ⟨c,o,rfl,rfl⟩) λk s2 ⟨l,j,z,w⟩=>?_;subst z w;cases k with
 | true=>exact⟨x,l,j,r1,i⟩
 | false=>exact r d s2 f l Q j i
section
variable {β:Type}{F:Heap->Addr->β->Prop}{e0:β}{mk:Sem ef}{ce:Expr}{cls:List Comprehension}
variable {X:Cx}{scope:Scope}{N':bA}{src:List (Option Nat)}{pins:eN}{σ:St}{H₂:Hp}{s₂:ee}{fp:List Addr}{it:Addr}{tn:O3}{J:It}{tg iter:Expr}{ifs:vE}{g:TG}{tt:TT}{tl:β->St->Hp->(β->Hp->Prop)->Prop}
end
def DE:fillsNumberSlot (.type "tuple") "mul" = pure false:=PySem.fillsNumberSlot_seq (id:="tuple.__mul__") (r:=some (.builtin "tuple.__rmul__")) F.slot_tuple_mul.lookup (by decide +kernel) F.slot_tuple_rmul.lookup (by decide +kernel)
def AN:seqRepeat? (.type "tuple")=pure (some (.builtin "tuple.__mul__")):=by have a:=PySem.seqSlot_of (T:="tuple") (name:="__mul__") (id:="tuple.__mul__") F.slot_tuple_mul.lookup (by decide +kernel);have b:=PySem.seqSlot_of (T:="tuple") (name:="__rmul__") (id:="tuple.__rmul__") F.slot_tuple_rmul.lookup (by decide +kernel);unfold seqRepeat?;rw[a,b];rfl
def xX :
  Meets (Builtin.«int.__rmul__» ⟨[.int a t,.ref l],[]⟩) (λ_ R s=>s.heap.get? l=some {cls:=.type "tuple",dict:=dd,data:=.seq its n,slots:=sl}/\R (.ok (.ret Value.notImplemented)) s) :=
 .of_wp λprog w A R s ⟨hl,h⟩=>by
  obtain⟨c,d,e,tk,os⟩:=s
  wp_walk
  exact⟨_,rfl,h⟩
def xC:∀(k:Nat) (a:lX),((List.replicate k its).foldl (λd c=>d++c) a).size=a.size+k * its.size
 | 0,a=>by simp
 | k+1,a=>by rw[List.replicate_succ,List.foldl_cons,xC k,Array.size_append,Nat.succ_mul];lia
def CM {Q:cE}(hl:IsTup s.heap l its)(q:its.size≠0)(B:k<1000)(hz:its.size * k<=sizeLine)
  (m:k=1->Q (.ref l) s) (i:k≠1->Q (.ref s.heap.objs.size) {s with heap:=s.heap.push {cls:=.type "tuple",data:=.seq ((List.replicate k its).foldl (. ++ ·) #[])} }):wM P w A (call (.builtin "tuple.__mul__") [.ref l,.int k t]) Q E s:=by
 have⟨o,ho,hc,n,hd⟩:=id hl;refine wpAny_call_entry F.slot_tuple_mul ⟨o,ho,hc⟩ F.entry_tuple_mul (show wpAny _ _ (Builtin.«tuple.__mul__» _) _ _ _ from ?_) (F.args_tuple_mul_2 _ _);unfold Builtin.«tuple.__mul__»;have items:∀{d:lX->ee->Prop} {E':cE},d its s->wpAny (model P w) A.in1 (Builtin.Tuple.tupleItemsOf (.ref l)) d E' s:=λh=>aa (wpAny_seqItems ho hd (ao h));have c:∀{d:Bool->ee->Prop} {E':cE},d true s->wpAny (model P w) A.in1 (Builtin.Tuple.tupleIsExact (.ref l)) d E' s:=λh=>aa (wpAny_typeOf (T:="tuple") ⟨o,ho,hc⟩ (ao h));refine aa (wpAny_of_eq (rfl:asIndex (.int k t)=pure (k:Int)) ?_);dsimp only;rw[ab (by simp;lia)];refine aa (items ?_);have ne:its.isEmpty=false:=by
  cases z:its.isEmpty with
  | false=>rfl
  | true=>exact absurd (by simpa using z) q
 by_cases e:k=1
 ·rw[aj (by simp[e])];refine aa (c ?_);rw[aj rfl];exact aa (wpAny_rule (ao ⟨_,rfl,m e⟩))
 ·rw[ab (by rw[ne];simp;lia)];have mk:∀{xs:lX},xs.size<=sizeLine->Q (.ref s.heap.objs.size) {s with heap:=s.heap.push {cls:=.type "tuple",data:=.seq xs} }->wpAny (model P w) A.in1 (Builtin.Tuple.tupleExact xs >>= λa=>ret a) (λfin j=>∃v,fin=PySem.Fin.done (.ret v)/\Q v j) E s:=λf h=>aa (cm (ao ⟨_,rfl,h⟩) f);by_cases r:k=0
  ·subst r;rw[aj dV];exact mk (aw _) (i e)
  ·rw[ab (by rw[ne];simp;lia)];have g:((its.size * k:Nat):Int)<=((sizeLine:Nat):Int):=Int.ofNat_le.mpr hz;rw[Int.natCast_mul]at g;have u:((sizeLine:Nat):Int)<=(2 ^ 63 - 1) / 8:=by decide
   rw[ab dz,ab (by unfold Builtin.Tuple.tupleTooMany;simp;exact g),cw];refine mk ?_ (i e);rw[xC,Array.size_empty,Nat.zero_add,Nat.mul_comm];exact hz
def rRepT:R2:=λx y H Q=>∃(l:Addr) (k:Nat) (xs:List V),x = .ref l/\y = .int k/\H l=some (.tup xs)/\xs≠[]/\k<1000/\xs.length * k<=sizeLine/\(k=1->Q (.ref l) H)/\(k≠1->∀p,H p=none->Q (.ref p) (upd H p (.tup (List.replicate k xs).flatten)))
def QK:jE X (binaryOp .Mult) rRepT:=by
 intro e s J H x y v u Q I m j h;obtain⟨l,k,xs,rfl,rfl,E,ne,G,hz,B,A⟩:=h;cases m;obtain⟨t,rfl⟩:=j;obtain⟨K,its,r,tp⟩:=(show cD X.prog X.w H s.heap l (.tup xs)from I.hok l _ E)
 obtain⟨⟨cls,N,data,L⟩,ho,f,n,hd⟩:=id tp;dsimp only at f hd;subst f hd
 have C:its.toArray.size≠0:=λz=>ne (by
  rw[ai]at z
  exact List.length_eq_zero_iff.mp (r.length.trans z))
 refine wpAny_binaryOp_repeat_ref (T:="tuple") (U:="int") dw ⟨_,ho,rfl⟩ (λi=>typeIs_int i k t) DE F.fills_int_mul F.slot_int_rmul AN F.slot_int_index.lookup
  (call_meets F.slot_int_rmul (typeIs_int s k t) F.entry_int_rmul (F.args_int_rmul_2 _ _) xX ⟨ho,rfl,⟨_,ho,rfl⟩,CM tp C G (by rw[ai,<-r.length];exact hz) (λz=>⟨.ref l,H,I,rfl,B z⟩) (λz=>?_)⟩)
 ·refine⟨.ref s.heap.objs.size,_,I.laid (t':=s.toks) (o:=.tup (List.replicate k xs).flatten) (λb ob q=>ag _ q) (ac _) ?_,rfl,A z _ (I.hok.fresh (ac _))⟩;have fl:=qW its k [];rw[List.nil_append]at fl;refine⟨by rw[GR,Nat.mul_comm];exact hz,_,r.rep k,?_⟩;have g:(s.heap.push {cls:=.type "tuple",data:=.seq ((List.replicate k its.toArray).foldl (λd c=>d++c) #[])}).get? s.heap.objs.size=some {cls:=.type "tuple",data:=.seq ((List.replicate k its.toArray).foldl (λd c=>d++c) #[])}:=av _ rfl;exact⟨_,g,rfl,_,congrArg (λa=>Data.seq a) fl⟩
def rRepS:R2:=λx y H Q=>∃(l:Addr) (k:Nat) (xs:List V),x = .ref l/\y = .int k/\H l=some (.tup xs)/\xs≠[]/\k<1000/\xs.length * k<=sizeLine/\∀p H',aA H H'->H' p=some (.tup (List.replicate k xs).flatten)->Q (.ref p) H'
def yU:jE X (binaryOp .Mult) rRepS:=by intro a s d H x y v u Q I f e h;obtain⟨l,k,xs,m,j,c,ne,i,hz,q⟩:=h;refine QK a s d H x y v u Q I f e ⟨l,k,xs,m,j,c,ne,i,hz,λz=>q l H (aA.refl _) ?_,λ_ p g=>q p _ (aA.upd g) ew⟩;rw[z,c];simp
def rCatS:R2:=λx y H Q=>∃(a b:Addr) (xs ys:List V),x = .ref a/\y = .ref b/\H a=some (.tup xs)/\H b=some (.tup ys)/\xs.length+ys.length<=sizeLine/\∀p H',aA H H'->H' p=some (.tup (xs++ys))->Q (.ref p) H'
def gW:jE X (binaryOp .Add) rCatS:=by
 intro c s B H x y v u Q I g f h;obtain⟨a,b,xs,ys,A,r,e,d,hz,q⟩:=h;by_cases ne:xs=[]
 ·subst ne A r;cases g;cases f;obtain⟨_,its,r1,E⟩:=(show cD X.prog X.w H s.heap a (.tup [])from I.hok a _ e)
  obtain⟨_,its2,P,C⟩:=(show cD X.prog X.w H s.heap b (.tup ys)from I.hok b _ d)
  cases r1;obtain⟨⟨S,N,t1,J⟩,j,o,n1,m⟩:=E;obtain⟨⟨R,L,O,G⟩,i,k2,n2,l⟩:=C;dsimp only at o m k2 l;subst o m k2 l;exact concat_meets ⟨_,j,rfl⟩ ⟨_,i,rfl⟩ noFill_tuple_add seq_tuple_add PySem.F.slot_tuple_add PySem.F.entry_tuple_add (PySem.F.args_tuple_add_2 _ _) (tuple_addW0 a b #[] its2.toArray n1 n2 N L J G rfl) ⟨j,i,.ref b,H,I,rfl,q b H (aA.refl _) d⟩
 ·exact GG c s B H x y v u Q I g f ⟨a,b,xs,ys,A,r,hX.of e,hX.of d,ne,hz,λz=>q a H (aA.refl _) (by rw[z,bu];exact e),λ_ p K=>q p _ (aA.upd K) ew⟩
section
variable {β:Type}{J:It}{g:TG}{tt:TT}{te:TE}{tb:TS}{D:jA}{tl:β->St->Hp->(β->Hp->Prop)->Prop}{Fin:β->Hp->Prop}{σ:St}{H:Hp}{e0:β}
def G7 {n:Nat}(Pv:Nat->St->Hp->Prop)(f:Pv 0 a H)(e:∀i a H,i<n->Pv i a H->J.go i H/\∀x H',J.yld i H x H'->g x a H' λc h=>tb {D with nx:=Pv (i+1),ct:=Pv (i+1),bk:=D.nx} c h)
  (hd:∀a H,Pv n a H->J.stop n H/\D.nx a H):rD J g tb D a H:=by
 refine⟨λi m a H=>m=n - i/\i<=n/\Pv i a H,⟨n,dV,aw _,f⟩,?_⟩;rintro i m a H ⟨rfl,j,p⟩;by_cases lt:i<n
 ·obtain⟨go,step⟩:=e i a H lt p;exact .inr ⟨go,Pv (i+1),λd H' q=>⟨n - (i+1),dz,rfl,lt,q⟩,step⟩
 ·obtain rfl:i=n:=by lia
  exact .inl (hd a H p)
end
def LW {v:ef}{T id:String}{Q:cE}(d:s.TypeIs v T)(c:Slot T "__reversed__" id)(k:∀A:en,wM prog w A (call (.builtin id) [v]) Q E s)(ne:(Value.builtin id == Value.none)=false:=by rfl) :
  codeAny (model prog w) A (.call (.builtin "reversed.__new__") ⟨[.type "reversed",v],[]⟩) (wants Q E) s:=by
 refine codeAny_of_tree (show wpAny _ A.in1 (checkBuiltinCall "reversed.__new__" ⟨[.type "reversed",v],[]⟩ >>= λ_=>again (.builtin "reversed.__new__" ⟨[.type "reversed",v],[]⟩)) _ _ s from aa (wpAny_of_eq (F.newCall_reversed_1 v) (ao ⟨plainId_quiet F.plain_reversed_new _,codeAny_builtin F.entry_reversed_new ?_⟩)));rw[Around.under_plainId F.plain_reversed_new,Builtin.«reversed.__new__»];refine aa (wpAny_of_eq (newClass_reversed v) (aa (wpAny_of_eq (a:=()) (by first|rfl|kernel_rfl) (aa (wpAny_of_eq (a:=()) (by first|rfl|kernel_rfl) (aa (wpAny_specialOf d c.lookup ?_)))))));refine aa (wpAny_of_eq (c.bind v) ?_);dsimp only;rw[ab (by rw[ne];exact Bool.false_ne_true)];refine aa (wpAny_rule (aa (show wpAny _ _ (call (.builtin id) [v]) _ _ _ from wpAny_mono (k _) (λu t z=>?_) λ_ _ z=>z)))
 first|exact ao ⟨u,rfl,z⟩|exact ao z|exact aa (ao (ao z))
noncomputable abbrev rvObj (n:Nat):Obj:={cls:=.type "range_iterator",data:=.fields #[rawInt ((n:Int) - 1),rawInt n,rawInt (-1)]}
def IQ {r:Addr}{n:Nat}{t u v:Tok}{Q:cE}(f:IsRange s.heap r 0 n 1 t u v)(g:n<=1000000)(h:Q (.ref s.heap.objs.size) {s with heap:=s.heap.push (rvObj n)}):wM prog w A (call (.builtin "range.__reversed__") [.ref r]) Q E s:=by
 refine wpAny_call_entry F.slot_range_reversed ⟨_,f,rfl⟩ F.entry_range_reversed ?_ (F.args_range_reversed_1 _);have d:∀{A:en} {R:Int×Int×Int->ee->Prop} {E':cE},R (0,(n:Int),1) s->wM prog w A (Builtin.Range.rangeFields (.ref r)) R E' s:=λz=>by rw[Builtin.Range.rangeFields];refine aa (wpAny_field f rfl (x:=.int 0 t) rfl (aa (wpAny_of_eq (a:=some 0) rfl (aa (wpAny_field f rfl (x:=.int n u) rfl (aa (wpAny_of_eq (a:=some (n:Int)) rfl (aa (wpAny_field f rfl (x:=.int 1 v) rfl (aa (wpAny_of_eq (a:=some 1) rfl (ao z))))))))))))
 have size:Builtin.Range.rangeSize 0 n 1=(n:Int):=by rw[rangeSize_one];split <;> lia
 have c:∀i:Int,-2000000<=i->i<=2000000->Builtin.Range.rangeFitsLong i=true:=λi l j=>by unfold Builtin.Range.rangeFitsLong;refine Bool.and_eq_true_iff.mpr ⟨bj ?_,bj ?_⟩ <;> lia
 rw[Builtin.«range.__reversed__»];refine aa (wpAny_of_eq (a:=Value.ref r) rfl (aa (d ?_)));dsimp only;rw[size,c 0 dz dz,c n dz dz,c 1 dz dz,c (-1) dz dz,c (0 - 1) dz dz];simp only[Bool.and_self,Bool.not_true,Bool.false_eq_true,if_false,if_true];refine aa (cm (ao ⟨_,rfl,?_⟩));have e:(0:Int)+((n:Int) - 1) * 1=(n:Int) - 1:=by lia
 rw[e];exact h
def AQ:isSubtype (.type "range_iterator") (.type "reversed")=pure false:=by rw[isSubtype_type];kernel_rfl
def vQ {r:Addr}{n:Nat}{t u v:Tok}{Q:cE}(c:IsRange s.heap r 0 n 1 t u v)(d:n<=1000000)(h:Q (.ref s.heap.objs.size) {s with heap:=s.heap.push (rvObj n)}):wM prog w A (call (.type "reversed") [.ref r]) Q E s :=
 callType_other (U:="range_iterator") (Q₁:=λo a=>o = .ref s.heap.objs.size/\a={s with heap:=s.heap.push (rvObj n)}) (by decide +kernel) F.create_reversed ⟨_,_,F.mro_reversed⟩ F.made_reversed AQ (F.typeCall_reversed_1 _) (LW ⟨_,c,rfl⟩ F.slot_range_reversed λ_=>IQ c d ⟨rfl,rfl⟩)
  λo a z=>by obtain⟨rfl,rfl⟩:=z;exact⟨⟨_,av _ rfl,rfl⟩,h⟩
def VR (n:Nat):It:=⟨λi _=>i<n,λi H x H'=>H'=H/\x = .int ((n - 1 - i:Nat):Int),λi _=>n<=i⟩
def IE {P:eg}{w:eh}{K:d6}{B:Expr}(it:Addr)(n:Nat):qC P w K B (VR n) [it] it (λi h=>IsRangeIter h it (((n:Int) - 1)+(i:Nat) * (-1)) ((n:Int) - (i:Nat)) (-1)) where
 mem:=by simp
 obj:=λi h st b c=>by
  obtain rfl:b=it:=by simpa using c
  exact⟨_,st,λv z=>nomatch (show Data.fields _=Data.cell v from z)⟩
 keep:=λi h h' st k=>k it dV _ st
 item:=by intro X m g q l i a s u H E I f st j;subst m g q;have A:i<n:=j;obtain⟨f0,f1,f2,f3,f4,r⟩:=f it dV;refine(Walks.range (prog:=X.prog) (w:=X.w) (I.ok.hd l) it ((n:Int) - 1) (-1) n).item i s _ _ A st λv h' tk F d C=>?_;obtain⟨t,rfl⟩:=F;have J:aK X a u H {s with heap:=h',toks:=tk}:=I.turned (λb o c e=>C b o (by simpa using c) e) f0 f1 f3 f4 r;exact⟨_,rfl,xB (s:={s with heap:=h',toks:=tk}) (n:="range_iterator") d rfl rfl dw ⟨.int ((n - 1 - i:Nat):Int),H,J,⟨t,by rw[show((n:Int) - 1)+(i:Int) * (-1)=((n - 1 - i:Nat):Int)by lia]⟩,⟨rfl,rfl⟩,d,λb c=>(f b c).1⟩⟩
 done:=by intro X m g q l i a s u H E I f st j;subst m g q;have A:n<=i:=j;obtain⟨f0,f1,f2,f3,f4,r⟩:=f it dV;exact wpAny_pyNext_range_end (I.ok.hd l) st dz λh' G=>⟨rfl,I.turned (t':=s.toks) (λb o c e=>G b o c e) f0 f1 f3 f4 r⟩
 self:=λ_ _ _ _ _ st h=>wpAny_pyIter_rangeiter st h
def iDown (c:TA):TI:=λa H R=>c a H λvs d=>∃n:Nat,vs=[.int (n:Int)]/\n<=1000000/\R (VR n) d
def P2 (u:Gl X "reversed")(hm:X.mg "reversed" = none)(g:Gl X "range")(f:X.mg "range" = none)(w:PA X [e] ta)(m:starEach [e] X.env=[(false,eval e X.env)]:=by rfl)(d:starEach [.Call (.Name "range" q) [e] [] pos2] X.env=[(false,eval (.Call (.Name "range" q) [e] [] pos2) X.env)]:=by rfl) :
  PI X tg (.Call (.Name "reversed" p) [.Call (.Name "range" q) [e] [] pos2] [] pos) (iDown ta):=by
 intro c s i H R I h;refine Call_ (kG I u hm boot_reversed (PyProof.Rows.callWith_type1 ?_ d rfl));rw[d];refine Calls.spliced_cons (Call_ (kG I g f boot_range (PyProof.Rows.callWith_type1 (thn (w pos2 c s i H _ I h) λus a ⟨vs,j,z,r1,l⟩=>?_) m rfl)));obtain⟨n,rfl,r,q⟩:=l;obtain⟨A,rfl,t,rfl⟩:=vals1 r1;refine call_range_1 (Calls.spliced_nil (vQ (IsRange.new ..) r ?_));have J:aK X c i j {a with heap:=a.heap.push {cls:=.type "range",data:=.fields #[.int 0 a.toks,.int n t,.int 1 (a.toks+1)]},toks:=a.toks+1+1}:=z.kept λb o e=>ag _ e;generalize ({a with heap:=a.heap.push {cls:=.type "range",data:=.fields #[.int 0 a.toks,.int n t,.int 1 (a.toks+1)]},toks:=a.toks+1+1}:ee)=s2 at J|-;have st:IsRangeIter (s2.heap.push (rvObj n)) s2.heap.objs.size (((n:Int) - 1)+((0:Nat):Int) * (-1)) ((n:Int) - ((0:Nat):Int)) (-1):=by rw[show((n:Int) - 1)+((0:Nat):Int) * (-1)=(n:Int) - 1 by lia,show(n:Int) - ((0:Nat):Int)=(n:Int)by lia];exact av _ rfl
 refine wpAny_pyIter_rangeiter (s:={s2 with heap:=s2.heap.push (rvObj n)}) st ?_;refine⟨s2.heap.objs.size,[s2.heap.objs.size],_,_,j,rfl,J.kept (t':=s2.toks) λb o e=>ag _ e,IE _ n,st,λb v=>?_,q⟩;obtain rfl:b=s2.heap.objs.size:=by simpa using v
 exact J.fpOk (ac _) (J.hok.fresh (ac _))
section
variable {g:TG}{tb:TS}{D:jA}{σ:St}{H:Hp}
def JX {n:Nat}(Pv:Nat->St->Hp->Prop)(f:Pv 0 a H)(e:∀i a H,i<n->Pv i a H->g (.int ((n - 1 - i:Nat):Int)) a H λc h=>tb {D with nx:=Pv (i+1),ct:=Pv (i+1),bk:=D.nx} c h)(hd:∀a H,Pv n a H->D.nx a H):rD (VR n) g tb D a H :=
 G7 (n:=n) Pv f (λi a H d p=>⟨d,λx H' y=>by obtain⟨rfl,rfl⟩:=y;exact e i a _ d p⟩) λa H p=>⟨ac _,hd a H p⟩
def EV {f:TT}{h:TE}{Q:VK}{K:d6}{a:Addr}(xs:List V)(Pv:Nat->List V->St->Hp->Prop)(l:Pv 0 [] d H)(hl:∀i c d H,i<=xs.length->Pv i c d H->H a=some (.lst xs))
  (j:∀i x c d H,i<xs.length->xs[xs.length - 1 - i]?=some x->Pv i c d H->CStep g f h x c d H (Pv (i+1))) (hd:∀c d H,Pv xs.length c d H->∀p,H p=none->Q (.ref p) (upd H p (.lst c))):oH (WP K a xs) g f h Q d H :=
 kY (n:=xs.length) Pv l (λi c d H e p=>⟨⟨d5.of (hl i c d H (Nat.le_of_lt e) p),e⟩,λx H' y=>by obtain⟨rfl,y⟩:=y;exact j i x c d _ e y p⟩) λc d H p=>⟨⟨d5.of (hl _ c d H (ac _) p),rfl⟩,hd c d H p⟩
end
def WO (P:eg)(w:eh)(K:d6)(a:Addr)(c:List (jF×V)):Prop:=(a == sysModules)=false/\∀h:Heap,K.In h->∃vs,KV c vs/\h.DictOf (cN P w) a vs
def K4 (a:Addr)(c:List (jF×V))(e ty:TE):TE:=λd H Q=>e d H λx g=>ty d g λy f=>∃k v,x = .ref a/\y=kV k/\valV c k=some v/\Q v f
def MD (G:WO X.prog X.w X.K a kvs)(ho:PE X o td)(E:PE X i ty)(C:OR i):PE X (.Subscript o i pos) (K4 a kvs td ty):=by intro c s g H Q I h;refine yA PySem.F.slot_dict_getitem.lookup C (thn (ho c s g H _ I h) λu m ⟨x,O,L,r,A⟩=>thn (E c m g O _ L A) λR s2 ⟨y,N,l,q,k,v,ex,J,e,z⟩=>?_);subst ex J;obtain rfl:u=Value.ref a:=r;obtain⟨vs,f,j⟩:=G.2 _ l.kIn;obtain⟨P,B,d⟩:=kZ.some_of (v:=v) (o:=valueAt vs k) (by rw[<-e];exact f.val k);exact⟨j.typeIs,wpAny_getItem_of (pX q) j.mapOf B ⟨v,N,l.tok _,d,z⟩⟩
def rEqW:R2:=λx y H Q=>∃d e,aH H d x/\aH H e y/\depD d<=150/\Q (.bl (eqD d e)) H
def tQ (j:X.A.units+160<cLine):jE X (compareOp .Eq) rEqW:=by intro a s i H x y v u Q I f c h;obtain⟨d,e,hd,g,hz,q⟩:=h;exact rcAtD I.hok d e X.A x y v u hd g f c dz X.prog X.w X.xe _ ⟨.bl _,H,I,rfl,q⟩
section
variable {β:Type}{F:Heap->Addr->β->Prop}{e0:β}{mk:Sem ef}{ce:Expr}{cls:List Comprehension}{ob:HO}
variable {g:TG}{tt:TT}{tl:β->St->Hp->(β->Hp->Prop)->Prop}
end
def P3 (K:d6)(e:X.K=K)(d:X.calm=true)(h:VW X es t)
  (c:(assignEach es X.env).length=n:=by rfl) (a:(assignEach es X.env).findIdx? (·.1)=none:=by rfl):PG X (.Tuple es k pos) (gTup K n t):=by subst e;exact tL d h c a
noncomputable def splV (xs:List V)(a c:Option Int)(ys:List V):List V:=xs.take (HT.sIx xs.length 0 a)++ys++xs.drop (max (HT.sIx xs.length 0 a) (HT.sIx xs.length xs.length c))
def gSpl (to:TE)(tl d:TO):TG:=λv a H Q=>to a H λo h=>tl a h λe g=>d a g λf c=>∃p xs q ys,o = .ref p/\v = .ref q/\p≠q/\c p=some (.lst xs)/\c q=some (.lst ys)/\xs.length+ys.length<=sizeLine/\Q a (upd c p (.lst (splV xs e f ys)))
def qM {M:Model}{A:en}{E:cE}{s:ee}{c:Addr}{o:Obj}{u v w y:ef}{k:Option Int}{i:Nat}{a:Type}{f:ef->Sem a}{Q:a->ee->Prop}(g:s.heap.get? c=some o)(d:o.data = .fields #[u,v,w])(e : #[u,v,w][i]?=some y)(p:IsPart y k)(h:wpAny M A (f (rawPart k)) Q E s):wpAny M A (do let z <-field (.ref c) i;let z <-listPart z;f z) Q E s :=
 aa (wpAny_field g d e (aa (wpAny_listPart p h)))
def MG {M:Model}{A:en}{E:cE}{s:ee}{e:Addr}{c a:ef}{f i:Option Int}{Q:ef×ef×ef->ee->Prop}(l:s.heap.IsSliceOf e c a .none)(pl:IsPart c f)(j:IsPart a i)(h:Q (rawPart f,rawPart i,.none) s):wpAny M A (Builtin.List.listSliceParts (.ref e)) Q E s:=by obtain⟨o,g,_,d⟩:=l;rw[listSliceParts_eq];refine qM g d (y:=.none) (k:=none) rfl .none ?_;rw[ab (show ¬(rawPart none == rawInt 0)=true from Bool.false_ne_true)];exact qM g d rfl pl (qM g d rfl j (ao h))
def EU {c:Type}(xs ys:List c)(a b:Nat):(xs.take a++ys++xs.drop (max a b)).length<=xs.length+ys.length:=by
 simp only[au,bz,bS]
 lia
def OE {c:Type}(xs ys:List c)(a b:Nat):(xs.take a++ys++xs.drop b).toArray=xs.toArray.extract 0 a++ys.toArray++xs.toArray.extract b:=by apply Array.toList_inj.mp;simp[List.take_of_length_le]
def DM {i:eN}{s:ee}{G:St}{H:Hp}{p q j:Addr}{xs ys:List V}{K J:ef}{c d:Option Int}{Q:Unit->ee->Prop}{E:cE}(I:aK X i G H s)(P:H p=some (.lst xs))(Y:H q=some (.lst ys))(o:p≠q)(hz:xs.length+ys.length<=sizeLine)
  (O:s.heap.IsSliceOf j K J .none) (pl:IsPart K c) (W:IsPart J d) (h:∀L,aK X i G (upd H p (.lst (splV xs c d ys))) L->Q () L):wX X (setItem (.ref p) (.ref j) (.ref q)) Q E s:=by
 obtain⟨its,n,r,ho,_⟩:=I.lst P;obtain⟨e,m,N,S,_⟩:=I.lst Y;have hl:s.heap.IsList p its.toArray:=PySem.IsL.isList (n:=n) ho;have v:s.heap.IsList q e.toArray:=PySem.IsL.isList (n:=m) S;obtain⟨os,u,B,Z⟩:=id O;have l:s.TypeIs (.ref j) "slice":=⟨os,u,B⟩
 have T:=r.length;have e2:=N.length;unfold setItem
 try with_reducible refine cq ?_
 first|refine aa (ao ?_)|skip
 refine aa (wpAny_sequenceKey hl.typeIs dw ?_);refine aa (wpAny_callSpecial?_slot (name:=Str.ofString "__setitem__") hl.typeIs PySem.F.slot_list_setitem (wpAny_call_entry PySem.F.slot_list_setitem hl.typeIs entry_list_setitem ?_ (args_list_setitem _ _ _)));have items:∀{A:en} {a:Addr} {us:dA} {k:Nat} {R:lX->ee->Prop} {E':cE},s.heap.get? a=some {cls:=.type "list",data:=.seq us.toArray k}->R us.toArray s->wpAny (model X.prog X.w) A (Builtin.List.listItems (.ref a)) R E' s:=λg z=>aa (wpAny_seqItems g rfl (ao z));have none_of:∀{A:en} {R:Option Int->ee->Prop} {E':cE},R none s->wpAny (model X.prog X.w) A (Builtin.List.listSubscript? (.ref j)) R E' s:=λz=>aa (wpAny_specialOf l slice_no_index (ao z));have same:Builtin.List.listSameRef (.ref p) (.ref q)=false:=by
  show(p == q)=false
  simpa using o
 have C:Builtin.List.listTooLong (its.toArray.size+e.toArray.size)=false:=by unfold Builtin.List.listTooLong;simp only[ai,<-T,<-e2];exact br dz
 unfold Builtin.«list.__setitem__»;refine aa (wpAny_of_eq (a:=(Value.ref p,[Value.ref j,Value.ref q])) rfl (aa (none_of (aa (wpAny_typeOf l ?_)))));rw[ab (show ¬((Value.type "slice" != .type "slice")=true)by decide)];refine aa (MG O pl W ?_);dsimp only;rw[same,ab Bool.false_ne_true];refine aa (aa (wpAny_typeOf v.typeIs ?_));rw[aj (show(Value.type "list" == .type "list" || Value.type "list" == .type "tuple")=true from rfl)];have f:=pE c d its.toArray.size;refine items S (aa (items ho (aa (wpAny_of_eq (sliceIndices_raw c d none its.toArray.size dV) ?_))));have len:=EU its e (HT.sIx its.length 0 c) (HT.sIx its.length its.length d);simp only[ai]at f;rw[C,ab Bool.false_ne_true,aj (show((sliceBounds c d none its.toArray.size).2.2 == 1)=true by rw[ai,f.2.2];rfl)];simp only[ai,f.1,f.2.1];have em:(max (HT.sIx its.length 0 c:Int) (HT.sIx its.length its.length d:Int)).toNat=max (HT.sIx its.length 0 c) (HT.sIx its.length its.length d):=by lia
 rw[em,cw];refine aa (wpAny_rule (aa (wpAny_updateSeq ho rfl (aa (wpAny_letGo (ao ⟨_,rfl,ao (h _ ?_)⟩))) ?_ ?_)))
 ·refine I.lstUpd P ho (its':=its.take (HT.sIx its.length 0 c)++e++its.drop (max (HT.sIx its.length 0 c) (HT.sIx its.length its.length d))) (by rw[OE];rfl) ?_ ?_ s.toks
  ·have r1:=r.take (HT.sIx its.length 0 c);have U:=r.drop (max (HT.sIx its.length 0 c) (HT.sIx its.length its.length d));unfold splV;rw[T];exact(r1.append N).append U
  ·have:=EU xs ys (HT.sIx xs.length 0 c) (HT.sIx xs.length xs.length d);unfold splV
   lia
 ·have:=line63;rw[ai]
  lia
 ·have:=EU its e (HT.sIx its.length 0 c) (HT.sIx its.length its.length d);rw[<-OE,ai]
  lia
def IY {o:Expr}{f g:Option Expr}{to:TE}{tl A:TO}{c w:Pos}(ho:PE X o to)(hl:PO X f tl)(K:PO X g A)
  (O:∀v,assign (.Subscript o (.Slice f g none w) c) X.env v=(do
   let e <-holding [v] (eval o X.env)
   let iv <-holding [v,e] (eval (.Slice f g none w) X.env)
   standAt c
   holding [v,e,iv] (setItem e iv v)
   release [iv,v,e] []):=by intro _;rfl):PG X (.Subscript o (.Slice f g none w) c) (gSpl to tl A):=by
 intro a s d H v u Q I r h;rw[O];refine aa (cq (thn (ho a s d H _ I h) λe E ⟨x,Z,U,r1,G⟩=>aa (cq (wpAny_Slice (thn (hl a E d Z _ U G) λC s2 ⟨l,Y,T,pl,F⟩=>thn (K a s2 d Y _ T F) λB j ⟨i,W,S,J,m⟩=>?_)))));obtain⟨p,xs,q,ys,rfl,rfl,z,N,L,hz,m⟩:=m;cases r1;cases r;rw[evalPart_none];have R:aK X a d W {j with heap:=j.heap.push {cls:=.type "slice",data:=.fields #[C,B,.none]} }:=S.kept (t':=j.toks) λb ob q=>ag _ q;exact ao (aa (wpAny_standAt (aa (cq (DM R N L z hz (Heap.IsSliceOf.new ..) pl J λs5 P=>wpAny_release ⟨d,_,P,m⟩)))))
def IZ (P:eg)(w:eh)(f:X.prog=P)(c:X.w=w)(K:d6)(g:X.K=K)(h:WO P w K a kvs)(ho:PE X o td)(e:PE X i ty)(d:OR i):PE X (.Subscript o i pos) (K4 a kvs td ty):=by subst f c g;exact MD h ho e d
section
variable {prog:eg}{w:eh}{A:en}{E:cE}
structure SS (h h':Heap)(e it:Addr)(i:Nat)(x:ef)(tk:Tok)(I:Heap->Prop):Prop where
 out:IsEnumOut h' e it ((i:Int)+1) x h.objs.size
 inn:I h'
 tup:h'.get? h.objs.size=some {cls:=.type "tuple",data:=.seq #[.int i tk,x]}
 siz:h'.objs.size=h.objs.size+1
 old:∀b o,b≠e->b≠it->h.get? b=some o->h'.get? b=some o
def WX (prog:eg)(w:eh)(A:en)(m:Sem PySem.Fin)(Q:cE)(E:cE)(s:ee):Prop:=wM prog w A m (λr t=>∃v,r = .done (.ret v)/\Q v t) E s
def N3 {e it:Addr}{i:Nat}{x old:ef}{s:ee}{I:Heap->Prop}{Q:cE}(B:IsEnum s.heap e it i old)(v:e≠it)
  (N:∀h h':Heap,(∀b o,b≠e->h.get? b=some o->h'.get? b=some o)->I h->I h')
  (nx:∀R:cE,(∀f,Heap.SameBut it s.heap f->I f->R x {s with heap:=f})->wM prog w A (Builtin.SmallTypes.nextOf (.ref it)) R E s)
  (q:∀h',SS s.heap h' e it i x s.toks I->Q (.ref s.heap.objs.size) {s with heap:=h',toks:=s.toks+1}) :
  WX prog w A (Builtin.«enumerate.__next__» ⟨[.ref e],[]⟩) Q E s:=by
 obtain⟨j,g,d,a,os⟩:=s;change wpAny _ _ (field (.ref e) 2 >>= _) _ _ _;refine aa (wpAny_field B rfl (x:=.ref it) rfl (aa (nx _ λf K Z=>?_)));have J:IsEnum f e it i old:=(K.2 e v).trans B;refine aa (wpAny_field J rfl (x:=rawInt i) rfl (aa (wpAny_field J rfl (x:=.none) rfl ?_)));change wpAny _ _ (mkInt i >>= _) _ _ ⟨f,g,d,a,os⟩;refine aa (wpAny_mkInt (aa (wpAny_setField_rec J dV λh2 H X=>?_)))
 replace H:IsEnum h2 e it ((i:Int)+1) old:=H
 refine aa (wpAny_setField_rec H dV λc G W=>aa (wpAny_newTuple ?_))
 replace G:IsEnum c e it ((i:Int)+1) old:=G
 have m:c.objs.size=j.objs.size:=W.1.trans (X.1.trans K.1);have l:IsEnum (c.push {cls:=.type "tuple",data:=.seq #[.int i a,x]}) e it ((i:Int)+1) old:=ag _ G;have t4:(c.push {cls:=.type "tuple",data:=.seq #[.int i a,x]}).get? j.objs.size=some {cls:=.type "tuple",data:=.seq #[.int i a,x]}:=m ▸ av _ rfl;have L:(c.push {cls:=.type "tuple",data:=.seq #[.int i a,x]}).objs.size=j.objs.size+1:=(Heap.size_push ..).trans (congrArg (. + 1) m);have u:∀b o,b≠e->f.get? b=some o->(c.push {cls:=.type "tuple",data:=.seq #[.int i a,x]}).get? b=some o:=λb o n z=>ag _ (W.extBut b o n (X.extBut b o n z));change wpAny _ _ (Builtin.SmallTypes.ownedTupleIsFree (.ref e) >>= _) _ _ ⟨c.push {cls:=.type "tuple",data:=.seq #[.int i a,x]},g,d,a+1,os⟩;rw[m];generalize c.push {cls:=.type "tuple",data:=.seq #[.int i a,x]}=h4 at l t4 L u|-;have Y:=N _ _ u Z;have lt:e<j.objs.size:=bf B;refine aa ?_;rw[Builtin.SmallTypes.ownedTupleIsFree];refine aa (wpAny_field l rfl (x:=.none) rfl (ao ?_));simp only[if_true];refine aa (wpAny_rule (aa (wpAny_field l rfl (x:=old) rfl (aa (wpAny_setField_rec l dV λP F U=>?_)))))
 replace F:IsEnum P e it ((i:Int)+1) x:=F
 refine aa ?_;change wpAny _ _ (Builtin.SmallTypes.ownedTupleHandOut (.ref e) (.ref j.objs.size)) _ _ ⟨P,g,d,a+1,os⟩;rw[Builtin.SmallTypes.ownedTupleHandOut];refine aa (wpAny_setField_rec F dV λh6 C T=>?_)
 replace C:IsEnumOut h6 e it ((i:Int)+1) x j.objs.size:=C
 refine wpAny_setField_rec C dV λO e7 S=>aa (wpAny_letGo (ao ⟨_,rfl,q O ?_⟩));have r:∀b o,b≠e->h4.get? b=some o->O.get? b=some o:=λb o n z=>S.extBut b o n (T.extBut b o n (U.extBut b o n z));exact⟨e7,N _ _ r Y,r _ _ (Nat.ne_of_gt lt) t4,S.1.trans (T.1.trans (U.1.trans L)),λb o n1 n2 z=>r b o n1 (u b o n1 (K.extBut b o n2 z))⟩
def D7 {R:cE}(a:s.heap.IsTupleIter it t i)(f:s.heap.IsTuple t items)(d:items[i]?=some x)
  (q:∀c,Heap.SameBut it s.heap c->c.IsTupleIter it t (i+1)->R x {s with heap:=c}):wpAny (model prog w) A (Builtin.SmallTypes.nextOf (.ref it)) R E s:=by
 rw[Builtin.SmallTypes.nextOf];refine aa (wpAny_callSpecial?_slot (name:=Str.ofString "__next__") a.typeIs F.slot_tuple_iterator_next (wpAny_call_entry F.slot_tuple_iterator_next a.typeIs F.entry_tuple_iterator_next ?_ (F.args_tuple_iterator_next_1 _)));obtain⟨o,ho,g,hd⟩:=a;obtain⟨u,e,_,m,hm⟩:=f;refine(show wpAny _ _ (field (.ref it) 0 >>= _) _ _ _ from aa (wpAny_field ho hd (x:=.ref t) rfl ?_));refine(show wpAny _ _ (if (Value.ref t == Value.none)=true then _ else _) _ _ _ from ?_);rw[ab (λz:(Value.ref t == Value.none)=true=>Bool.false_ne_true z)];refine(show wpAny _ _ (field (.ref it) 1 >>= _) _ _ _ from aa (wpAny_field ho hd (x:=.int i 0) rfl ?_));refine(show wpAny _ _ (seqItems? (.ref t) >>= _) _ _ _ from aa (wpAny_seqItems e hm ?_));simp only[d,cw];refine aa (wpAny_setField ho hd dV (ao ⟨x,rfl,ao (q _ (Heap.SameBut.update ..) ?_)⟩));exact⟨_,Heap.get?_update_self _ ho (Obj.isFreed_of_fields (Obj.data_mapFields hd _)),(Obj.cls_mapFields ..).trans g,by rw[Obj.data_mapFields hd];simp[rawInt]⟩
def BN {R:cE}(j:A.handled=none)(c:s.heap.IsTupleIter it t i)(h:s.heap.IsTuple t items)(f:items[i]?=none)
  (q:∀d e,Heap.ExtBut it s.heap d->(∃o,d.get? e=some o/\o.cls = .type "StopIteration")->E (.ref e) {s with heap:=d}):wpAny (model prog w) A (Builtin.SmallTypes.nextOf (.ref it)) R E s:=by
 rw[Builtin.SmallTypes.nextOf];refine aa (wpAny_callSpecial?_slot (name:=Str.ofString "__next__") c.typeIs F.slot_tuple_iterator_next (wpAny_call_entry F.slot_tuple_iterator_next c.typeIs F.entry_tuple_iterator_next ?_ (F.args_tuple_iterator_next_1 _)));obtain⟨o,ho,l,hd⟩:=c;obtain⟨u,g,_,m,hm⟩:=h;refine(show wpAny _ _ (field (.ref it) 0 >>= _) _ _ _ from aa (wpAny_field ho hd (x:=.ref t) rfl ?_));refine(show wpAny _ _ (if (Value.ref t == Value.none)=true then _ else _) _ _ _ from ?_);rw[ab (λz:(Value.ref t == Value.none)=true=>Bool.false_ne_true z)];refine(show wpAny _ _ (field (.ref it) 1 >>= _) _ _ _ from aa (wpAny_field ho hd (x:=.int i 0) rfl ?_));refine(show wpAny _ _ (seqItems? (.ref t) >>= _) _ _ _ from aa (wpAny_seqItems g hm ?_));simp only[f,cw];refine aa (wpAny_rule (aa (wpAny_setField ho hd dV (show wpAny _ _ (newExc (.type "StopIteration") [] >>= _) _ _ _ from ?_))));simp only[newExc,newTuple];refine aa (aa (cm (aa (m:=firstArgMember _ _) (wpAny_of_eq (a:=Value.none) (by first|rfl|(simp only[firstArgMember];rfl)) (cm ?_ (by size_fits)))) (by size_fits)));simp only[raiseNew];exact aa (wpAny_handled (by rw[show A.in1.handled=none from j];exact aa (ao (wpAny_throw (q _ _ (((Heap.SameBut.update ..).extBut.push _).push _) ⟨_,av _ rfl,rfl⟩)))))
def EQ {e it t:Addr}{i:Nat}{items:lX}{x old:ef}{s:ee}{Q:Option ef->ee->Prop}(d:IsEnum s.heap e it i old)(c:s.heap.IsTupleIter it t i)(g:s.heap.IsTuple t items)(f:items[i]?=some x)(a:e≠it)
  (q:∀h',SS s.heap h' e it i x s.toks (λh=>h.IsTupleIter it t (i+1))->Q (some (.ref s.heap.objs.size)) {s with heap:=h',toks:=s.toks+1}):wpAny (model prog w) A (pyNext (.ref e)) Q E s:=by
 have ty:s.TypeIs (.ref e) "enumerate":=⟨_,d,rfl⟩
 refine aa (wpAny_attempt (wpAny_callSpecial?_slot (name:=Str.ofString "__next__") ty F.slot_enumerate_next (wpAny_call_entry F.slot_enumerate_next ty F.entry_enumerate_next ?_ (F.args_enumerate_next_1 _))));exact N3 d a (λh h' k ⟨o,ho,r⟩=>⟨o,k _ _ a.symm ho,r⟩) (λR h=>D7 c g f h) λh' z=>ao (q h' z)
def JZ {e it t:Addr}{i:Nat}{items:lX}{old:ef}{s:ee}{Q:Option ef->ee->Prop}(g:A.handled=none)(c:IsEnum s.heap e it i old)(a:s.heap.IsTupleIter it t i)(f:s.heap.IsTuple t items)(d:items[i]?=none)
  (q:∀h',Heap.ExtBut it s.heap h'->Q none {s with heap:=h'}):wpAny (model prog w) A (pyNext (.ref e)) Q E s:=by
 have ty:s.TypeIs (.ref e) "enumerate":=⟨_,c,rfl⟩
 refine aa (wpAny_attempt (wpAny_callSpecial?_slot (name:=Str.ofString "__next__") ty F.slot_enumerate_next (wpAny_call_entry F.slot_enumerate_next ty F.entry_enumerate_next ?_ (F.args_enumerate_next_1 _))));change wpAny _ _ (field (.ref e) 2 >>= _) _ _ _;refine aa (wpAny_field c rfl (x:=.ref it) rfl (aa (BN g a f d λl y j ⟨o,ho,h⟩=>?_)));exact aa (wpAny_isInstance (T:="StopIteration") (b:=true) ⟨o,ho,h⟩ isSubtype_stop (ao (q _ j)))
noncomputable def N6 (h:Heap)(t:Addr):Heap:=(h.push {cls:=.type "tuple_iterator",data:=.fields #[.ref t,.int 0 0]}).push {cls:=.type "enumerate",data:=.fields #[.none,.bool false,.ref h.objs.size,rawInt 0,.none,.none]}
def RM (t:Addr)(items:lX)(n:Nat)(dct:Option Addr)(i:Array (Option ef)) :
  Meets (Builtin.«enumerate.__new__» ⟨[.type "enumerate",.ref t],[]⟩) (λ_ R s=>s.heap.get? t=some {cls:=.type "tuple",dict:=dct,data:=.seq items n,slots:=i} /\
   R (.ok (.ret (.ref (s.heap.push {cls:=.type "tuple_iterator",data:=.fields #[.ref t,.int 0 0]}).objs.size))) {s with heap:=N6 s.heap t}) :=
 .of_wp λprog w A R s ⟨a,h⟩=>by
  obtain⟨l,g,d,j,os⟩:=s;have e:=sub_enumerate;have f:Heap.IsTuple (Shared.heap ⟨l,g,d,j,os⟩) t items:=⟨_,a,rfl,n,rfl⟩
  wp_walk using bi a
  refine wpAny_stack_any λ_=>ao ?_;split
  ·rename_i c _ _ _ _ _;cases (c == Value.type "enumerate") <;> (wp_walk using bi a,wpAny_pyIter_tuple f;exact⟨_,rfl,h⟩)
  ·wp_walk using bi a,wpAny_pyIter_tuple f
   exact⟨_,rfl,h⟩
def OI {Q:cE}(g:s.heap.IsTuple t items)
  (q:∀h',IsEnum h' (s.heap.objs.size+1) s.heap.objs.size 0 .none->h'.IsTupleIter s.heap.objs.size t 0->(∀b o,s.heap.get? b=some o->h'.get? b=some o)->Q (.ref (s.heap.objs.size+1)) {s with heap:=h'}) :
  wM prog w A (call (.type "enumerate") [.ref t]) Q E s:=by
 obtain⟨⟨c,dct,h,d⟩,e,f,n,hd⟩:=g;obtain rfl:c = .type "tuple":=f;obtain rfl:h = .seq items n:=hd;have hz:(s.heap.push {cls:=.type "tuple_iterator",data:=.fields #[.ref t,.int 0 0]}).objs.size=s.heap.objs.size+1:=Heap.size_push ..;have a:IsEnum (N6 s.heap t) (s.heap.objs.size+1) s.heap.objs.size 0 .none:=hz ▸ av _ rfl;refine callType_new F.called_enumerate dw (F.typeCall_enumerate_1 _) (F.newCall_enumerate_1 _) (λobj=>F.args_object_init_2 obj _) F.entry_enumerate_new (RM t items n dct d) ⟨e,?_⟩;change _/\_;rw[hz];exact⟨⟨_,a,rfl⟩,q _ a ⟨_,ag _ (av _ rfl),rfl,rfl⟩ λb o x=>ag _ (ag _ x)⟩
end
def y3 (h:c∈[e,it]):c=e\/c=it:=by simpa using h
def R4 (a:Addr)(xs:List V):It :=
 ⟨λi H=>H a=some (.tup xs)/\i<xs.length,λi H z H'=>∃T x,z = .ref T/\xs[i]?=some x/\H T=none/\H'=upd H T (.tup [.int i,x]),λi H=>H a=some (.tup xs)/\xs.length<=i⟩
def DC {P:eg}{w:eh}{K:d6}{m:vE}{tk0}{l:Pos}{xs:List V}(a e it:Addr)(D:e≠it) :
  qC P w K (.Tuple m tk0 l) (R4 a xs) [e,it] e (λi h=>(∃old,IsEnum h e it i old)/\h.IsTupleIter it a i) where
 mem:=by simp
 obj:=λi h ⟨⟨old,f⟩,⟨o,R,_,d1⟩⟩ c d=>by
  rcases y3 d with rfl|rfl
  ·exact⟨_,f,λv z=>by cases z⟩
  ·exact⟨_,R,λv z=>by rw[d1]at z;cases z⟩
 keep:=λi h h' ⟨⟨old,f⟩,⟨o,R,r⟩⟩ k=>⟨⟨old,k e dV _ f⟩,⟨o,k it dV _ R,r⟩⟩
 item:=by
  intro X O G Q d i g s S H E I A st J;subst O G Q;obtain⟨N,hi⟩:=J;obtain⟨its,C,p,F⟩:=I.tuple (hX.of N);have T:xs[i]?=some xs[i]:=by simp[hi]
  obtain⟨u,Z,U⟩:=C.get T;obtain⟨⟨old,f⟩,B⟩:=st;refine EQ f B p (x:=u) (by simpa using Z) D λh' z=>?_;refine⟨_,rfl,wpAny_letOwnedTupleGo_enum (s:={s with heap:=h',toks:=s.toks+1}) z.out λh2 L j=>?_⟩;have lt:∀{c:Addr} {o:Obj},s.heap.get? c=some o->s.heap.objs.size≠c:=λe z=>cj _ (z ▸ bf e);have Y:∀c∈[e,it],c≠s.heap.objs.size:=λc d=>by
   rcases y3 d with rfl|rfl
   ·exact(lt f).symm
   ·obtain⟨_,z,_⟩:=B;exact(lt z).symm
  have I1:aK X g S (upd H s.heap.objs.size (.tup [.int i,xs[i]])) {s with heap:=h2,toks:=s.toks+1}:=I.turnedLaid (t':=s.toks+1) (ch:=[e,it]) (λc o d y=>j.extBut _ _ (λq=>d (by simp[q])) (z.old c o (λq=>d (by simp[q])) (λq=>d (by simp[q])) y)) A (ac _)
   ⟨by show 2<=sizeLine;decide,[_,u],.cons ⟨_,rfl⟩ (.cons U .nil),⟨_,j.extBut _ _ (lt f) z.tup,rfl,_,rfl⟩⟩
  refine⟨.ref s.heap.objs.size,_,I1,rfl,⟨s.heap.objs.size,xs[i],rfl,T,I.hok.fresh (ac _),rfl⟩,⟨⟨u,?_⟩,z.inn.extBut j.extBut D.symm⟩,λc d=>?_⟩
  ·have e2:((i+1:Nat):Int)=(i:Int)+1:=by lia
   rw[e2];exact L
  ·rw[bG (Y c d)];exact(A c d).1
 done:=by
  intro X O G Q d i g s S H E I A st J;subst O G Q;obtain⟨N,hd⟩:=J;obtain⟨its,C,p,F⟩:=I.tuple (hX.of N);obtain⟨⟨old,f⟩,B⟩:=st;have l1:=C.length;refine JZ (I.ok.hd d) f B p (by simp;lia) λh' hk=>⟨rfl,?_⟩
  exact I.turnedL (t':=s.toks) (ch:=[e,it]) (λc o d z=>hk c o (λq=>d (by simp[q])) z) A
 self:=λ_ _ _ _ _ st h=>wpAny_pyIter_enum st.1.choose_spec h
def U0 (e:TA):TI:=λd H R=>e d H λvs c=>∃a xs,vs=[.ref a]/\c a=some (.tup xs)/\R (R4 a xs) c
def vL (u:Gl X "enumerate")(hm:X.mg "enumerate" = none)(w:PA X [a] ta)(o:starEach [a] X.env=[(false,eval a X.env)]:=by rfl) :
  PI X (.Tuple elts tk0 tpos) (.Call (.Name "enumerate" p) [a] [] pos) (U0 ta):=by
 intro d s i H R I h;refine Call_ (kG I u hm boot_enumerate (PyProof.Rows.callWith_type1 (thn (w pos d s i H _ I h) λus f ⟨vs,E,e,r1,t1,xs,A,m,q⟩=>?_) o rfl));subst A;obtain⟨F,rfl,B⟩:=vals1 r1;cases B;obtain⟨its,G,j,l⟩:=e.tuple (hX.of m);refine OI j λh' g C r=>wpAny_pyIter_enum (s:={f with heap:=h'}) g ?_;refine⟨_,[_,_],_,_,E,rfl,e.kept (t':=f.toks) r,DC t1 _ _ (by intro z;have z:(_:Nat)=_:=z;lia),⟨⟨_,g⟩,C⟩,λc v=>?_,q⟩;have le:f.heap.objs.size<=c:=by
  rcases y3 v with rfl|rfl
  ·exact Nat.le_add_right _ _
  ·exact ac _
 exact e.fpOk le (e.hok.fresh le)
def U2 {g:TG}{tb:TS}{D:jA}{c:St}{H:Hp}{a:Addr}{xs:List V}(Pv:Nat->St->Hp->Prop)(l:Pv 0 c H)(hl:∀i c H,Pv i c H->H a=some (.tup xs))
  (h:∀i x T c H,xs[i]?=some x->Pv i c H->H T=none->g (.ref T) c (upd H T (.tup [.int i,x])) λd o=>tb {D with nx:=Pv (i+1),ct:=Pv (i+1),bk:=D.nx} d o) (hd:∀c H,Pv xs.length c H->D.nx c H):rD (R4 a xs) g tb D c H :=
 G7 (n:=xs.length) Pv l (λi c H lt p=>⟨⟨hl i c H p,lt⟩,λx H' ⟨T,y,e,f,j,m⟩=>by
  subst e m
  exact h i y T c H f p j⟩) λc H p=>⟨⟨hl _ c H p,ac _⟩,hd c H p⟩
def CH {g:TG}{f:TT}{h:TE}{Q:VK}{d:St}{H:Hp}{a:Addr}{xs:List V}(Pv:Nat->List V->St->Hp->Prop)(o:Pv 0 [] d H)(hl:∀i c d H,Pv i c d H->H a=some (.tup xs))
  (l:∀i x T c d H,xs[i]?=some x->Pv i c d H->H T=none->CStep g f h (.ref T) c d (upd H T (.tup [.int i,x])) (Pv (i+1))) (hd:∀c d H,Pv xs.length c d H->∀p,H p=none->Q (.ref p) (upd H p (.lst c))):oH (R4 a xs) g f h Q d H :=
 kY (n:=xs.length) Pv o (λi c d H lt p=>⟨⟨hl i c d H p,lt⟩,λx H' ⟨T,y,e,j,m,q⟩=>by
  subst e q
  exact l i y T c d H j p m⟩) λc d H p=>⟨⟨hl _ c d H p,ac _⟩,hd c d H p⟩
noncomputable def wD (P:eg)(w:eh)(a:Addr)(o:Obj)(c:List (jF×V)):HO:=.ext λh=>h.get? a=some o/\cD P w (λ_=>none) h a (.dK c)
def V2 (ok:iC P w H h)(e:H a=some (wD P w a o kvs)):h.get? a=some o/\cD P w H h a (.dK kvs):=(ok a _ e).1
end L2
namespace L2
open PySem
def rNeW:R2:=λx y H Q=>∃d e,aH H d x/\aH H e y/\depD d<=150/\Q (.bl (!eqD d e)) H
def DZ (j:X.A.units+160<cLine):jE X (compareOp .NotEq) rNeW:=by intro a s i H x y v u Q I f c h;obtain⟨d,e,hd,g,hz,q⟩:=h;exact FT I.hok d e X.A x y v u hd g f c dz X.prog X.w X.xe _ ⟨.bl _,H,I,rfl,q⟩
end L2
namespace L2
open PySem PySem.Spec PyProof.Rows PySem.SeqAt
end L2
namespace L2
open PySem PySem.Spec PyProof.Rows
def ER {it l:Addr}{items:dA}(ne:l≠it):∀(j i:Nat) (s:ee) (Q:dA->ee->Prop),i+j=items.length->s.heap.IsListIter it l i->s.heap.IsList l items.toArray ->
  (∀h',h'.IsListIter it l items.length->h'.IsList l items.toArray->(∀b o,b≠it->s.heap.get? b=some o->h'.get? b=some o)->Q (items.drop i) {s with heap:=h'})->wM P w A (draw (.ref it) j) Q E s:=by
 intro j
 induction j with
 | zero =>
  intro i s Q e h hl q;rw[Nat.add_zero]at e;subst e;have:=q s.heap h hl λ_ _ _ z=>z;rw[List.drop_length]at this;exact ao this
 | succ j u =>
  intro i s Q e h hl q;have lt:i<items.length:=by lia
  refine aa (wpAny_pyNext_list_item (x:=items[i]) h hl (by simp[lt]) λr g m=>?_);have d:r.IsList l items.toArray:=by obtain⟨o,a,b⟩:=hl;exact⟨o,(m.2 l ne).trans a,b⟩
  refine aa (cq (u (i+1) {s with heap:=r} _ dz g d λv f c kp=>ao ?_));rw[<-List.drop_eq_getElem_cons lt];exact q v f c λb o n z=>kp b o n ((m.2 b n).trans z)
def heldB {d c:Type}{M:Model}{B:en}{E:cE}{s:ee}{vs:dA}{m:Sem d}{f:d->Sem c}{Q:c->ee->Prop}(h:wpAny M B m (λa t=>wpAny M B (f a) Q E t) E s):wpAny M B (holding vs m >>= f) Q E s:=aa (cq h)
def vF {c:List (Bool×(ef->Sem Unit))}{Q:Unit->ee->Prop}(j:A.handled=none)(hl:s.heap.IsList l items.toArray)(i:c.length=items.length)(d:c.findIdx? (·.1)=none)
  (h:∀h',(∀b o,s.heap.get? b=some o->h'.get? b=some o)->wM P w A (assignInOrder (c.map (·.2)) items) Q E {s with heap:=h'}):wM P w A (unpack (.ref l) c) Q E s:=by
 have lt:l<s.heap.objs.size:=by obtain⟨o,a,_⟩:=hl;exact bf a
 unfold unpack;rw[i,d];refine heldB ?_;unfold unpackItems notIterableAtAll;refine aa (aa (wpAny_specialOf hl.typeIs slot_list_iter.lookup (ao ?_)));show wpAny _ _ (if false=true then _ else _) _ _ _;rw[ab dw];refine heldB (wpAny_pyIter_list hl ?_);refine heldB (ER (l:=l) (items:=items) (bv lt) items.length 0 _ _ (Nat.zero_add _) ⟨_,av _ rfl,rfl,rfl⟩ (hl.push _) λr g e f=>?_);rw[List.drop_zero,ab (cj _)];refine heldB (wpAny_pyNext_list_end j g e dV λm q=>?_);rw[ab dw];exact ao (h m λb o z=>q b o (bv (bf z)) (f b o (bv (bf z)) (ag _ z)))
def gSq (n:Nat)(t:VV):TG:=λv c H Q=>∃a xs,v = .ref a/\eI H a xs/\xs.length=n/\t xs c H Q
def SB (j:X.calm=true)(h:VW X es t)(i:(assignEach es X.env).length=n:=by rfl)(d:(assignEach es X.env).findIdx? (·.1)=none:=by rfl):PG X (.Tuple es k pos) (gSq n t):=by
 rintro c s f H v u Q I r ⟨a,xs,rfl,e|e,hl,q⟩
 ·cases r;obtain⟨its,g,l⟩:=gY I.hok e;rw[assign_Tuple];refine aa (wpAny_standAt (vF (I.ok.hd j) l (by rw[i,<-hl,g.length]) d λh' k=>?_));exact h c _ f H xs its Q (I.kept (t':=s.toks) k) g q
 ·exact tL j h i d c s f H (.ref a) u Q I r ⟨a,xs,rfl,hX.of e,hl,q⟩
def L7 (g:X.calm=true)(d:X.N.Nodup)(f:X.N[i]?=some x)(e:X.N[j]?=some y)(c:X.env.scope.names.lookup x=some .local)(a:X.env.scope.names.lookup y=some .local) :
  PG X (.Tuple [.Name x px,.Name y py] k pos) (gSq 2 (gCons (gName i) (gCons (gName j) gNil))) :=
 SB g (dU (bV d f (.inl c) (.inr c)) (dU (bV d e (.inl a) (.inr a)) nO))
def CS {prog:eg}{w:eh}{A:en}{E:cE}{s:ee}{g:Addr}{f d e:ef}{n:Nat}{Q:Int×Int×Nat->ee->Prop}(j:s.heap.IsSliceOf g f d e)(pl:IsPart f none)(i:IsPart d none)(pt:IsPart e (some (-1)))
  (h:Q ((n:Int) - 1,-1,n) s):wM prog w A (Builtin.Slice.sliceApplied (.ref g) (pure (n:Int))) Q E s:=by
 obtain⟨os,a,l,c⟩:=id j;unfold Builtin.Slice.sliceApplied Builtin.Slice.sliceFields;refine aa (aa (wpAny_field a c (x:=f) rfl (aa (wpAny_field a c (x:=d) rfl (aa (wpAny_field a c (x:=e) rfl (ao ?_)))))));refine aa (HT.slicePart_ pt ?_);show wpAny _ _ (if ((-1:Int) == 0)=true then _ else _) _ _ s;rw[ab dw];refine aa (HT.slicePart_ pl (aa (HT.slicePart_ i (aa (ao ?_)))));have o:Builtin.Slice.sliceAdjust none none (-1) (n:Int)=((n:Int) - 1,-1):=by
  unfold Builtin.Slice.sliceAdjust;refine Prod.ext ?_ ?_
  ·simp
  ·simp
 have m:Builtin.Slice.slicePlaces ((n:Int) - 1) (-1) (-1)=n:=by
  unfold Builtin.Slice.slicePlaces;rw[ab dw];split
  ·rw[show(- -1:Int)=1 from rfl,Int.ediv_one];lia
  ·lia
 show wpAny _ _ (match Builtin.Slice.sliceAdjust none none (-1) (n:Int)with|(lo,hi)=>pure (lo,(-1:Int),Builtin.Slice.slicePlaces lo hi (-1))) _ _ s;rw[o];show wpAny _ _ (pure ((n:Int) - 1,(-1:Int),Builtin.Slice.slicePlaces ((n:Int) - 1) (-1) (-1))) _ _ s;rw[m];exact ao h
def IF {prog:eg}{w:eh}{A:en}{E:cE}{s:ee}{t c:Addr}{its:dA}{l i j:ef}{Q:cE}(a:IsTup s.heap t its.toArray)(o:s.heap.IsSliceOf c l i j)(pl:IsPart l none)(r:IsPart i none)(pt:IsPart j (some (-1)))(hz:its.length<=sizeLine)
  (h:Q (.ref s.heap.objs.size) {s with heap:=s.heap.push {cls:=.type "tuple",data:=.seq its.reverse.toArray} }):wM prog w A (getItem (.ref t) (.ref c)) Q E s:=by
 obtain⟨os,d,f,u⟩:=id o;have g:s.TypeIs (.ref c) "slice":=⟨os,d,f⟩
 unfold getItem
 try with_reducible refine cq ?_
 first|refine aa (ao ?_)|skip
 refine aa (wpAny_sequenceKey a.typeIs dw ?_)
 refine aa (wpAny_callSpecial?_slot (name:=Str.ofString "__getitem__") a.typeIs PyProof.Rows.slot_tuple_getitem
  (wpAny_call_entry PyProof.Rows.slot_tuple_getitem a.typeIs entry_tuple_getitem ?_ (args_tuple_getitem _ _)))
 show wpAny _ _ (Builtin.Tuple.tupleItemsOf (.ref t) >>= _) _ _ s;refine aa (tupleItemsOf_ a ?_);refine aa (wpAny_typeOf g ?_);rw[aj dw];refine aa (CS (n:=its.toArray.size) o pl r pt ?_);dsimp only;rw[ab (by intro q;rw[Bool.and_eq_true,Bool.and_eq_true]at q;exact absurd q.1.2 dw)];have e:((List.range its.toArray.size).filterMap λ(m:Nat)=>its.toArray[(((its.toArray.size:Nat):Int) - 1+(m:Int) * -1).toNat]?).toArray=its.reverse.toArray:=by
  rw[ai,<-tJ its];refine congrArg List.toArray (B5 λm hm=>?_);have:=List.mem_range.mp hm;have q:((its.length:Int) - 1+(m:Int) * -1).toNat=its.length - 1 - m:=by lia
  rw[q]
 rw[e];have hsz:sizeOk (.seq its.reverse.toArray):=by show its.reverse.toArray.size<=sizeLine;rw[ai];rw[List.length_reverse];exact hz
 first
  | exact aa (m:=Builtin.Tuple.tupleExact _) (cm (ao ⟨_,rfl,ao h⟩) hsz)
  | exact aa (m:=Builtin.Tuple.tupleExact _) (cm (aa (ao (ao ⟨_,rfl,ao h⟩))) hsz)
  | exact aa (aa (m:=Builtin.Tuple.tupleExact _) (cm (ao (ao ⟨_,rfl,ao h⟩)) hsz))
  | exact aa (aa (m:=Builtin.Tuple.tupleExact _) (cm (ao ⟨_,rfl,ao h⟩) hsz))
def rRevU:V->Option Int->Option Int->Option Int->Hp->VK->Prop:=λx c d st H Q=>c=none/\d=none/\st=some (-1)/\∃a xs,x = .ref a/\eI H a xs/\∀p o,H p=none->((o = .lst xs.reverse/\H a=some (.lst xs))\/(o = .tup xs.reverse/\H a=some (.tup xs)))->Q (.ref p) (upd H p o)
def FO:OQ X rRevU:=by
 intro c s j H x v u l m A B st w Q I e g pl f pt h;obtain⟨rfl,rfl,rfl,a,xs,rfl,d|d,q⟩:=h
 ·exact TF c s j H _ v u l m none none (some (-1)) w Q I e g pl f pt ⟨rfl,rfl,rfl,a,xs,rfl,d,λp z=>q p _ z (.inl ⟨rfl,d⟩)⟩
 ·cases e;obtain⟨its,r,hl,hz⟩:=I.tuple (hX.of d);refine⟨"tuple",_,PyProof.Rows.slot_tuple_getitem.lookup,hl.typeIs,?_⟩;have i:=r.length;refine IF hl g pl f pt dz ?_;refine⟨.ref s.heap.objs.size,_,I.laid (t':=s.toks) (o:=.tup xs.reverse) (λb ob q=>ag _ q) (ac _) ?_,rfl,q _ _ (I.hok.fresh (ac _)) (.inr ⟨rfl,d⟩)⟩;exact⟨by rw[List.length_reverse];exact hz,_,r.reverse,⟨_,av _ rfl,rfl,_,rfl⟩⟩
end L2
namespace L2
open PySem PySem.Spec PyProof.Rows PyProof.Rows.LSm
def rMaxL:List V->Hp->VK->Prop:=λxs H Q=>∃(p:Addr) (ns:List Int),xs=[.ref p]/\H p=some (.lst (ns.map V.int))/\ns≠[]/\∀M,M∈ns->(∀a∈ns,a<=M)->Q (.int M) H
def J8 (A:X.calm=true):dZ X (.builtin "max") rMaxL:=by
 rintro g s C H _ us Q I r ⟨p,ns,rfl,o,ne,q⟩;obtain⟨u,rfl,e⟩:=vals1 r;cases e;obtain⟨its,l,pl,hz⟩:=I.list (d5.of o);have f:IntsAre its ns:=uE l;obtain⟨ys,h⟩:=f.allInts.items;have d:s.heap.IsList p (intItems ys):=h ▸ pl.isList;have is:ns=ys.toList.map (·.1):=by rw[<-nums_intItems,<-h];exact(show numsOf its.toArray.toList=ns from f.numsOf).symm
 have c:0<ys.size:=by
  have:=List.length_pos_iff.mpr ne;rw[is,af]at this
  simpa using this
 refine max_intList (I.ok.hd A) d c λv h' tk m w=>?_;obtain⟨tok,rfl⟩:=intItems_at m;have top:=argBest_gt (numAt ys) (ys.size - 1);have at_:∀j,j<ys.size->numAt ys j=(ns[j]?).getD 0:=λj _=>by rw[is];unfold numAt;rw[cf,Array.getElem?_toList]
 have len:ns.length=ys.size:=by rw[is];simp
 refine⟨.int _,H,I.kept (t':=tk) w,⟨tok,rfl⟩,q _ ?_ λa B=>?_⟩
 ·rw[at_ _ dz];have lt:argBest (λi j=>decide (numAt ys i > numAt ys j)) (ys.size - 1)<ns.length:=by lia
  rw[ay lt];exact List.getElem_mem lt
 ·obtain⟨j,z,rfl⟩:=List.getElem_of_mem B;have:=top.2 j dz;rw[at_ j dz,ay z]at this;exact this
end L2
namespace L2
open PySem PySem.Spec PyProof.Rows
def VH (P:eg)(w:eh)(H:Hp)(a:Addr)(c:List (jF×V)):Prop:=H a=some (.dK c)\/∃o,H a=some (wD P w a o c)
def VH.same (h:VH P w H a kvs)(s:aA H H'):VH P w H' a kvs:=h.elim (λe=>.inl (s _ _ e)) λ⟨o,e⟩=>.inr ⟨o,s _ _ e⟩
def VH.dict (d:VH P w H a kvs)(ok:iC P w H h):∃vs,KV kvs vs/\h.DictOf (cN P w) a vs:=by obtain⟨_,_,vs,r,dd⟩:cD P w H h a (.dK kvs):=d.elim (λe=>ok a _ e) λ⟨o,e⟩=>(V2 ok e).2;exact⟨vs,r,dd⟩
def S6 (P:eg)(w:eh)(f ty:TE):TE:=λd H Q=>f d H λx g=>ty d g λy e=>∃a c k v,x = .ref a/\VH P w e a c/\y=kV k/\valV c k=some v/\Q v e
def MC (ho:PE X o td)(J:PE X i ty)(G:OR i):PE X (.Subscript o i pos) (S6 X.prog X.w td ty):=by intro c s f H Q I h;refine yA PySem.F.slot_dict_getitem.lookup G (thn (ho c s f H _ I h) λu q ⟨x,O,L,z,B⟩=>thn (J c q f O _ L B) λR s2 ⟨y,N,m,r,a,C,k,v,ex,g,K,l,A⟩=>?_);subst ex K;obtain rfl:u=Value.ref a:=z;obtain⟨vs,e,j⟩:=g.dict m.hok;obtain⟨P,E,d⟩:=kZ.some_of (v:=v) (o:=valueAt vs k) (l ▸ e.val k);exact⟨j.typeIs,wpAny_getItem_of (pX r) j.mapOf E ⟨v,N,m.tok _,d,A⟩⟩
end L2
namespace L2
open PySem
def bN (a:sc.kind = .function:=by exact rfl)(b:sc.isCoroutine=false:=by exact rfl)(c:sc.isGenerator=false:=by exact rfl)(d:N.take P.length=P:=by exact rfl)(e:N.Nodup/\(∀x∈P,sc.names.lookup x=some .local\/sc.names.lookup x=some .cell)/\∀y∈sc.names,y.2≠.free:=by decide +kernel):kC N P sc:=⟨a,b,c,e.1,d,e.2.1,e.2.2⟩
noncomputable def abc:Str:="abcdefghijklmnopqrstuvwxyz"
def VF (j:Nat)(h:j<26):abc.cps.toList[j]?=some (97+j):=by
 have:∀j:Fin 26,abc.cps.toList[j.1]?=some (97+j.1):=by decide +kernel
 exact this ⟨j,h⟩
def RY:abc.cps.toList.length=26:=by decide +kernel
def NO (d:0<=i)(a:i<26):ixV H (.str abc) (.int i)=some (.str ⟨#[97+i.toNat]⟩):=by show(if abc.length<=sizeLine then(atI abc.cps.toList i).map λc=>V.str ⟨#[c]⟩else none)=_;rw[aj (by decide +kernel),uP d (by rw[RY];exact a),VF _ dz];rfl
def tyL (h:H p=some (.lst xs)):tyV K "list" (.ref p) H:=.inl ⟨rfl,xs,d5.of h⟩
def lV (x:Str):Prop:=1<=x.cps.toList.length/\x.cps.toList.length<=6/\∀c∈x.cps.toList,97<=c/\c<=122
def wL:∀(ws:bA),Reps H (ws.map D.str) (ws.map V.str)
 | []=>rfl
 | x::r=>⟨.str x,r.map V.str,rfl,rfl,wL r⟩
def CD:∀ws:bA,depDs (ws.map D.str)=0
 | []=>rfl
 | x::r=>by rw[bg,depDs,CD r];rfl
theorem B3:∀ws:bA,inD (.str x) (ws.map D.str)=decide (x∈ws)
 | []=>by simp[inD]
 | y::r=>by
  have a:=B3 (x:=x) r;unfold inD at a|-;rw[bg,List.any_cons,a];have e:eqD (.str y) (.str x)=decide (y=x):=by show(y == x)=_;rw[ck];simp
  rw[e,ck];simp only[Bool.or_eq_true,decide_eq_true_eq,cz];constructor
  ·rintro(h|h)
   ·exact .inl h.symm
   ·exact .inr h
  ·rintro(h|h)
   ·exact .inl h.symm
   ·exact .inr h
noncomputable def del (H:Hp)(p:Addr):Hp:=λb=>if b=p then none else H b
def nF (h:H b=some o)(n:b≠p):del H p b=some o:=by unfold del;rw[ab n];exact h
def iO (h:del H p b=some o):H b=some o/\b≠p:=by
 unfold del at h;by_cases e:b=p
 ·rw[aj e]at h;cases h
 ·rw[ab e]at h;exact⟨h,e⟩
def OA (H:Hp)(p:Addr):aA (del H p) H:=λb o h=>(iO h).1
end L2
local macro_rules|`(tactic|ac_nf)=>`(tactic|try dsimp only[L2.cxOf,L2.Cx.nox,L2.aT,L2.aL])
local macro_rules|`(tactic|exists $b:ident)=>`(tactic|(refine L2.aD ?_;intro _ _ _ $b _ _))|`(tactic|exists $a:ident,$b:ident)=>`(tactic|(refine $a (L2.aD ?_);intro _ _ _ $b _ _))|`(tactic|exists $a:ident,$b:ident,$e:ident)=>`(tactic|(refine $a (L2.aD ?_);intro _ _ _ $b $e _))|`(tactic|exists 0,$b:ident)=>`(tactic|(refine L2.dP ?_;intro _ _ _ $b _ _))|`(tactic|exists 0,$a:ident,$b:ident)=>`(tactic|(refine $a (L2.dP ?_);intro _ _ _ $b _ _))|`(tactic|exists 0,$a:ident,$b:ident,$e:ident)=>`(tactic|(refine $a (L2.dP ?_);intro _ _ _ $b $e _))
section
local macro_rules | `(tactic| walk_at "rd")=>do
 let xs:Array (Lean.TSyntax [`Lean.Parser.Tactic.simpStar,`Lean.Parser.Tactic.simpErase,`Lean.Parser.Tactic.simpLemma]):=("L2.start List.map_cons List.map_nil List.length_cons List.length_nil Nat.reduceAdd Nat.reduceSub Nat.zero_add List.replicate_succ List.replicate_zero List.cons_append List.nil_append List.set_cons_zero List.set_cons_succ L2.tSeq L2.tIfS L2.tTest L2.tOp L2.tVar L2.tC L2.rI0 L2.tAsg L2.gName L2.gSub L2.rI L2.tRet L2.tNext L2.rSetL L2.rAddF L2.rRep L2.tCB L2.r1 L2.tCons L2.tNil L2.tDrop L2.tAnd L2.tOr L2.tNot L2.tIf L2.tLst L2.tTup L2.tCall L2.tFor_eq L2.tComp_eq L2.tComp2_eq L2.iRng1 L2.iRng2 L2.iAny L2.iSq L2.iZip L2.iZip2 L2.iEnum L2.tRaise L2.tTry L2.rNo L2.rAll L2.rAny L2.rSum L2.tUn L2.rU L2.gTup L2.gCons L2.gNil L2.tBM L2.tBM0 L2.rAppend L2.rPop L2.rPopAt L2.rExtend L2.tSl L2.tNoPart L2.tPart L2.rSlF L2.rSlU L2.rTupU L2.CStep L2.tYes L2.stC Option.bind_some Option.bind_none Option.join_some L2.tAndV L2.tOrV L2.tNotV L2.tNever not_true_eq_false not_false_eq_true L2.tChain L2.tTruth L2.rIs_eq L2.truV_bl L2.isV_ii L2.isV_ib L2.isV_ll L2.lenV_l L2.lenV_t L2.seqV_l L2.seqV_t L2.ixV_l L2.ixV_t if_true if_false Bool.not_true Bool.not_false Bool.false_eq_true Option.bind_eq_bind Option.pure_def L2.rEqD_ii L2.rNeD_ii L2.rEqD_bb L2.rNeD_bb L2.isV_bb L2.rEqD_ss L2.rNeD_ss Int.zero_add L2.catO_i L2.catO_s L2.addV L2.intV L2.atI_zero L2.atI_one L2.ixN_zero L2.ixN_one L2.upd_same L2.upd_upd Option.map_some Option.map_none List.getElem?_cons_zero List.getElem?_cons_succ Option.some.injEq L2.V.int.injEq L2.V.ref.injEq L2.V.bl.injEq L2.V.str.injEq L2.HO.lst.injEq List.cons.injEq and_true true_and exists_eq_left exists_eq_left' exists_eq_right exists_eq_right' exists_and_left exists_and_right exists_const reduceCtorEq false_and and_false exists_false or_false false_or decide_eq_true_eq ite_eq_left_iff Bool.not_eq_true Bool.not_eq_eq_eq_not decide_eq_false_iff_not decide_true decide_false".splitOn " ").toArray.map λs=>⟨Lean.mkNode `Lean.Parser.Tactic.simpLemma #[Lean.mkNullNode,Lean.mkNullNode,Lean.mkIdent s.toName]⟩
 let xs:=xs.push ⟨Lean.mkNode `Lean.Parser.Tactic.simpStar #[Lean.mkAtom "*"]⟩
 `(tactic| simp only [$xs,*])
namespace Lw
open PySem L2
/-! rules,told shorter -/
def aV {X:Cx}{a b:Expr}{d tb:TE}{c:Pos}(g:PE X a d)(f:PE X b tb)(e:HW b:=by exact λ_ _=>rfl):PE X (.Subscript a b c) (tOp (λx y H Q=>∃v,ixV H x y=some v/\Q v H) d tb):=V5 WQ g f e
def pP {X:Cx}{x:Str}{t:String}{a:Pos}(hm:X.mg x=none)(e:Gl X x:=by exact rfl)(c:bootBuiltins x=some (.type t):=by exact rfl)(d:x≠"__name__":=by decide)(hd:(x == ("__debug__" : Str))=false:=by decide):PE X (.Name x a) (tC (.ty t)):=F5 e hm c rfl d hd
def fV {X:Cx}{a:Expr}{d:TE}(K:d6)(f:PE X a d)(g:X.K=K:=by exact rfl)(e:∀c,isTrue a X.env c=(do let v <-c;standAt a.pos;holding [v] (truthy v)):=by exact λ_=>rfl):PT X a (tTruth K d):=wN K g f e
def fE {X:Cx}{a:Expr}{x:Str}{e:TE}{t:String}{p q c:Pos}(K:d6)(i:X.mg "isinstance" = none)(l:PE X a e)(hm:X.mg x=none)(m:X.K=K:=by exact rfl)(d:Gl X "isinstance":=by exact rfl)(j:Gl X x:=by exact rfl)(g:bootBuiltins x=some (.type t):=by exact rfl)(h:x≠"__name__":=by decide)(hd:(x == ("__debug__" : Str))=false:=by decide)(f:starEach (a::[Expr.Name x q]) X.env=(false,eval a X.env)::starEach [Expr.Name x q] X.env:=by rfl):PT X (.Call (.Name "isinstance" p) [a,.Name x q] [] c) (tTruth K (tCB rIs (tCons e (tCons (tC (.ty t)) tNil)))) :=
 wN K m (BI cY d i rfl (eB l (eB (F5 j hm g rfl h hd) gA) f) dw dw f) λ_=>rfl
def pa1 {X:Cx}{a:Expr}{c:TE}(d:PE X a c)(e:starEach (a::[]) X.env=(false,eval a X.env)::starEach [] X.env:=by rfl):PA X [a] (tCons c tNil):=eB d gA e
def pa2 {X:Cx}{a b:Expr}{c tb:TE}(e:PE X a c)(d:PE X b tb)(g:starEach (a::[b]) X.env=(false,eval a X.env)::starEach [b] X.env:=by rfl)(f:starEach (b::[]) X.env=(false,eval b X.env)::starEach [] X.env:=by rfl):PA X [a,b] (tCons c (tCons tb tNil)):=eB e (pa1 d f) g
def pa3 {X:Cx}{a b c:Expr}{e tb d:TE}(h:PE X a e)(g:PE X b tb)(f:PE X c d)(l:starEach (a::[b,c]) X.env=(false,eval a X.env)::starEach [b,c] X.env:=by rfl)(j:starEach (b::[c]) X.env=(false,eval b X.env)::starEach [c] X.env:=by rfl)(i:starEach (c::[]) X.env=(false,eval c X.env)::starEach [] X.env:=by rfl):PA X [a,b,c] (tCons e (tCons tb (tCons d tNil))):=eB h (pa2 g f j i) l
def pa4 {X:Cx}{a b c d:Expr}{g tb f e:TE}(j:PE X a g)(i:PE X b tb)(h:PE X c f)(hd:PE X d e)(q:starEach (a::[b,c,d]) X.env=(false,eval a X.env)::starEach [b,c,d] X.env:=by rfl)(o:starEach (b::[c,d]) X.env=(false,eval b X.env)::starEach [c,d] X.env:=by rfl)(m:starEach (c::[d]) X.env=(false,eval c X.env)::starEach [d] X.env:=by rfl)(l:starEach (d::[]) X.env=(false,eval d X.env)::starEach [] X.env:=by rfl):PA X [a,b,c,d] (tCons g (tCons tb (tCons f (tCons e tNil)))):=eB j (pa3 i h hd o m l) q
def bD.of {X:Cx}{N ps:bA}{a scope:Scope}(S:kC N ps a)(c:bA)(src:List (Option Nat))(h:compB N a.names scope c src=true:=by decide +kernel)(d:X.N=N:=by exact rfl)(e:X.env.scope.names=a.names:=by exact rfl):bD X scope c src:=.by h d e
def jX {X:Cx}{scope:Scope}{c:bA}{src:List (Option Nat)}{d iter:Expr}{ifs:vE}{a:Expr}{e:Pos}{g:TG}{h:TT}{i:TE}{f:TI}(l:bD X scope c src)(m:PI X d iter f)(o:∀{C s H fp},PG (blk X scope c C s H fp) d g)(j:∀{C s H fp},SO (blk X scope c C s H fp) ifs h)(r:∀{C s H fp},PE (blk X scope c C s H fp) a i)(u:X.calm=true:=by exact rfl)(q:∀x,foldedSetIterable iter X.env x=pure x:=by intro _;rfl):PE X (.ListComp a [{target:=d,iter:=iter,ifs:=ifs,is_async:=0}] scope e) (tComp src f g h i):=P9 u l m (λ_ _ _ _=>o) (λ_ _ _ _=>j) (λ_ _ _ _=>r) q
def mN {X:Cx}{scope:Scope}{f:bA}{src:List (Option Nat)}{e iter:Expr}{ifs:vE}{c:Expr}{d:Pos}{g:TG}{j:TT}{l:TE}{h:TI}{y:Str}{m a:Pos}(i:Nat)(A:X.N.Nodup)(q:bD X scope f src)(r:PI X e iter h)(u:∀{C s H fp},PG (blk X scope f C s H fp) e g)(o:∀{C s H fp},SO (blk X scope f C s H fp) ifs j)(w:∀{C s H fp},PE (blk X scope f C s H fp) c l)(F:X.N[i]?=some y:=by exact rfl)(E:X.env.scope.names.lookup y=some .local:=by exact rfl)(B:swapsWith (.ListComp c [{target:=e,iter:=iter,ifs:=ifs,is_async:=0}] scope d) (some (.Name y m)) a.line X.env=pure true:=by exact rfl)(z:X.calm=true:=by exact rfl)(v:∀x,foldedSetIterable iter X.env x=pure x:=by intro _;rfl):PS X (.Assign [.Name y m] (.ListComp c [{target:=e,iter:=iter,ifs:=ifs,is_async:=0}] scope d) a) (tAsg (tComp src h g j l) (gName i)):=PX A F E B z q r (λ_ _ _ _=>u) (λ_ _ _ _=>o) (λ_ _ _ _=>w) v
def iA {X:Cx}{a iter:Expr}{body:List Stmt}{d:TI}{g:TG}{tb:TS}{c:Pos}(f:PI X a iter d)(h:PG X a g)(l:uU X body tb)(e:PassesOwn (model X.prog X.w) X.A X.env X.xe:=by exact du)(j:X.calm=true:=by exact rfl)(i:∀x,foldedSetIterable iter X.env x=pure x:=by intro _;rfl):PS X (.For a iter body [] c) (tFor d g tb):=TM e j f h l i
def gF {X:Cx}{a l:Expr}{tl:TE}(K:d6)(hl:PE X l tl)(c:X.K=K:=by exact rfl):PI X a l (iSq K tl):=TR K c hl
def pss2 {X:Cx}{c s2:Stmt}{t1 a:TS}(e:PS X c t1)(d:PS X s2 a):uU X [c,s2] (tSeq t1 a):=cM e (aE d)
def pss3 {X:Cx}{d s2 c:Stmt}{t1 a t3:TS}(g:PS X d t1)(f:PS X s2 a)(e:PS X c t3):uU X [d,s2,c] (tSeq t1 (tSeq a t3)):=cM g (pss2 f e)
def pss4 {X:Cx}{e s2 d c:Stmt}{t1 a t3 t4:TS}(i:PS X e t1)(h:PS X s2 a)(g:PS X d t3)(f:PS X c t4):uU X [e,s2,d,c] (tSeq t1 (tSeq a (tSeq t3 t4))):=cM i (pss3 h g f)
def pss5 {X:Cx}{f s2 e d c:Stmt}{t1 a t3 t4 t5:TS}(l:PS X f t1)(j:PS X s2 a)(i:PS X e t3)(h:PS X d t4)(g:PS X c t5):uU X [f,s2,e,d,c] (tSeq t1 (tSeq a (tSeq t3 (tSeq t4 t5)))):=cM l (pss4 j i h g)
def pss6 {X:Cx}{h s2 g f e d:Stmt}{t1 c t3 t4 t5 a:TS}(q:PS X h t1)(o:PS X s2 c)(m:PS X g t3)(l:PS X f t4)(j:PS X e t5)(i:PS X d a):uU X [h,s2,g,f,e,d] (tSeq t1 (tSeq c (tSeq t3 (tSeq t4 (tSeq t5 a))))):=cM q (pss5 o m l j i)
def pss7 {X:Cx}{i s2 h g f e d:Stmt}{t1 c t3 t4 t5 a t7:TS}(u:PS X i t1)(r:PS X s2 c)(q:PS X h t3)(o:PS X g t4)(m:PS X f t5)(l:PS X e a)(j:PS X d t7):uU X [i,s2,h,g,f,e,d] (tSeq t1 (tSeq c (tSeq t3 (tSeq t4 (tSeq t5 (tSeq a t7)))))):=cM u (pss6 r q o m l j)
def pss8 {X:Cx}{j s2 i h g f e d:Stmt}{t1 c t3 t4 t5 a t7 t8:TS}(w:PS X j t1)(v:PS X s2 c)(u:PS X i t3)(r:PS X h t4)(q:PS X g t5)(o:PS X f a)(m:PS X e t7)(l:PS X d t8):uU X [j,s2,i,h,g,f,e,d] (tSeq t1 (tSeq c (tSeq t3 (tSeq t4 (tSeq t5 (tSeq a (tSeq t7 t8))))))):=cM w (pss7 v u r q o m l)
noncomputable def C0:bA:=["_law_state","_law_many","_law_found"]
def pH:iY C0 iR:=bN
noncomputable def AA:bA:=["_law_state","_law_letters","_law_shift","_law_names","_law_j","_law_k","_law_fixed","_law_sums"]
def cA:iY AA gM:=bN
noncomputable def C1:bA:=["_law_state","_law_fixed","_law_k"]
def pI:iY C1 iS:=bN
noncomputable def CZ:bA:=["_law_state","_law_signs_here","_law_budget","_law_deep","_law_name","_law_many","_law_found","_law_left","_law_k","_law_share"]
def dS:iY CZ dG:=bN
noncomputable def WL:bA:=["_law_script","_law_cell","_law_state","_law_given","_law_noughts","_law_signs_here","_law_one","_law_other_here","_law_told","_law_same","_law_lists","_law_bare","_law_found"]
def gH:iY WL pK:=bN
noncomputable def KH:bA:=["thing"]
def tE:iY KH kP:=bN
noncomputable def E6:bA:=["signs","thing"]
def AZ:iY E6 jP:=bN
noncomputable def zZ:bA:=["signs","thing","todo","at","depth"]
def fQ:iY zZ gL:=bN
noncomputable def OS:bA:=["term","found","todo","at"]
def nL:iY OS mJ:=bN
noncomputable def qD:bA:=["term"]
def vI:iY qD gK:=bN
noncomputable def rN:bA:=["term"]
def pG:iY rN iQ:=bN
noncomputable def CY:bA:=["name","term"]
def IP:iY CY mL:=bN
noncomputable def E8:bA:=["name","nought","parts","left","part"]
def mG:iY E8 jR:=bN
noncomputable def rT:bA:=["signs","name","parts","nought"]
def kO:iY rT eP:=bN
noncomputable def vS:bA:=["term","filling","whole","made","at","parts"]
def fF:iY vS fS:=bN
noncomputable def OT:bA:=["signs","filling","term"]
def IM:iY OT dI:=bN
noncomputable def OW:bA:=["signs","term"]
def PF:iY OW tH:=bN
noncomputable def xU:bA:=["thing"]
def tF:iY xU kQ:=bN
noncomputable def uY:bA:=["thing"]
def AY:iY uY jO:=bN
noncomputable def rV:bA:=["thing","least","most","pair"]
def iH:iY rV eQ:=bN
noncomputable def oG:bA:=["pairs","names"]
def gI:iY oG fU:=bN
noncomputable def vT:bA:=["fixed_rows","name","many"]
def jN:iY vT fT:=bN
noncomputable def rW:bA:=["sum_rows","bare_names","name","nought","noughts"]
def fM:iY rW eT:=bN
noncomputable def q8:bA:=["self","fixed","sums","fixed_rows","sum_rows"]
def fC:iY q8 bY:=bN
noncomputable def AH:bA:=["self","name"]
def vK:iY AH dE:=bN
noncomputable def vC:bA:=["self","name"]
def rP:iY vC cL:=bN
noncomputable def C3:bA:=["_law_cell","_law_mixed_here"]
def pJ:iY C3 iU:=bN
noncomputable def C2:bA:=["_law_state","_law_signs_here","_law_budget","_law_fixed","_law_sums","_law_some"]
def jB:iY C2 iT:=bN
noncomputable def vU:bA:=["_law_noughts","_law_term_here","_law_parts_here","_law_found","_law_part"]
def eD:iY vU cJ:=bN
noncomputable def vV:bA:=["_law_term_here"]
def mH:iY vV cK:=bN
noncomputable def KI:bA:=["_law_name","_law_here"]
def DN:iY KI kR:=bN
noncomputable def vB:bA:=["_law_noughts","_law_kind","_law_name","_law_here","_law_nought","_law_one","_law_other_here"]
def iZ:iY vB fK:=bN
noncomputable def uZ:bA:=["_law_noughts","_law_term_here","_law_step","_law_kind","_law_place","_law_name","_law_way","_law_k","_law_found","_law_here"]
def cC:iY uZ fI:=bN
noncomputable def AB:bA:=["_law_name","_law_term_here","_law_found","_law_part"]
def kD:iY AB eL:=bN
noncomputable def AD:bA:=["_law_state","_law_row","_law_left","_law_found"]
def kE:iY AD gQ:=bN
noncomputable def qZ:bA:=["_law_state","_law_name","_law_row","_law_at"]
def gJ:iY qZ eE:=bN
noncomputable def rX:bA:=["_law_state","_law_noughts","_law_term_here","_law_more","_law_parts_here","_law_name","_law_row"]
def eC:iY rX c6:=bN
noncomputable def vW:bA:=["_law_term_here"]
def mI:iY vW d8:=bN
noncomputable def AF:bA:=["_law_term_here"]
def oC:iY AF eM:=bN
noncomputable def AC:bA:=["_law_state","_law_noughts","_law_term_here","_law_found"]
def oB:iY AC gN:=bN
noncomputable def vA:bA:=["_law_step"]
def rO:iY vA fJ:=bN
noncomputable def AE:bA:=["_law_noughts","_law_one","_law_other_here","_law_told","_law_here","_law_step"]
def iM:iY AE gR:=bN
noncomputable def R0:bA:=["signs","one","other"]
def LJ:iY R0 pL:=bN
noncomputable def E9:bA:=["signs","term"]
def A0:iY E9 jS:=bN
noncomputable def E7:bA:=["signs","name","parts","whole","part"]
def j5:iY E7 jQ:=bN
noncomputable def OV:bA:=["signs","term"]
def IN:iY OV dJ:=bN
noncomputable def VL:bA:=["signs","one","other","there","one_flat","back","other_flat"]
def rZ:iY VL tG:=bN
noncomputable def vR:bA:=["signs","term","steps","made","place","at","name","parts"]
def dH:iY vR fR:=bN
noncomputable def OU:bA:=["term","found","todo","place","at","within"]
def iG:iY OU mK:=bN
noncomputable def uW:bA:=["name","nought","place","parts","one","other","front","behind","steps","number"]
def cR:iY uW fG:=bN
noncomputable def uX:bA:=["name","place","moved","behind","steps","key","many","number","at"]
def c5:iY uX fH:=bN
noncomputable def AG:bA:=["self"]
def vJ:iY AG dC:=bN
structure Txt (mg:jD):Prop where
 n_len:mg "len" = none
 n_range:mg "range" = none
 n_int:mg "int" = none
 n_abs:mg "abs" = none
 n_min:mg "min" = none
 n_max:mg "max" = none
 n_tuple:mg "tuple" = none
 n_list:mg "list" = none
 n_dict:mg "dict" = none
 n_set:mg "set" = none
 n_isinstance:mg "isinstance" = none
 n_str:mg "str" = none
 n_bool:mg "bool" = none
 n_sorted:mg "sorted" = none
 n_reversed:mg "reversed" = none
 n_all:mg "all" = none
 n_any:mg "any" = none
 n_zip:mg "zip" = none
 n_repr:mg "repr" = none
 n_sum:mg "sum" = none
 n_enumerate:mg "enumerate" = none
 c_WISH_SIGNS:∃u,mg "WISH_SIGNS" = some u/\aQ (.str "abcdefghijklmnopqrstuvwxyz0123456789") u
 c_LETTERS:∃u,mg "LETTERS" = some u/\aQ (.str "abcdefghijklmnopqrstuvwxyz") u
 c_LONGEST_WISH:∃u,mg "LONGEST_WISH" = some u/\aQ (.int 9) u
 c_DEEPEST:∃u,mg "DEEPEST" = some u/\aQ (.int 1000) u
 c_LONGEST_NAME:∃u,mg "LONGEST_NAME" = some u/\aQ (.int 6) u
 c_MOST_FIXED:∃u,mg "MOST_FIXED" = some u/\aQ (.int 12) u
 c_MOST_SUMS:∃u,mg "MOST_SUMS" = some u/\aQ (.int 3) u
 c_MOST_PARTS:∃u,mg "MOST_PARTS" = some u/\aQ (.int 3) u
def aU (H:Hp)(p:Addr):Prop:=∃a b:Int,H p=some (.lst [.int a,.int b])
def aU.but (h:aU H p)(n:p≠l):aU (upd H l o) p:=by obtain⟨x,y,e⟩:=h;exact⟨x,y,upk n e⟩
def aU.ne (h:aU H p)(n:H l=none):p≠l:=by obtain⟨x,y,e⟩:=h;exact aC e n
def gG:Sp:=λvs H Q _=>∃p n,vs=[.ref p,.int n]/\aU H p/\0<n/\n<1073741824/\∀d a b,0<=d->d<n->Q (.int d) (upd H p (.lst [.int a,.int b]))
def QQ (F:iE K "_law_take" iR f fd)(T:Txt mg):iX P w K mg base 1 f fd iR gG:=by
 refine F.okL pH λ_ _ _ _ H _ _ _ _ _ h=>?_;obtain⟨p,n,rfl,⟨a,b,d⟩,c,g,k⟩:=h;refine⟨_,(pss3 (bC (aJ wO (aV (pv 0) aB) aB) (pss3 (bJ 2 pH.nd (aX oP (aV (pv 0) aB) (pv 1))) (gU (aX GF (aV (pv 0) aB) (pv 1)) (yR (pv 0) aB pF)) (aF (pv 2))) aG) (gU (aX oP (aX bF (aX (mQ.or tO) (aV (pv 0) aB) aB) aB) aB) (yR (pv 0) aB pF)) (aF (aX oP (aX GF (aX oP (aX (mQ.or tO) (aV (pv 0) aB) (aV (pv 0) aB)) aB) aB) (pv 1)))),?_⟩
 ac_nf
 have e:ixV H (.ref p) (.int 0)=some (.int a):=by rw[ixV_l d];rfl
 have i:ixV H (.ref p) (.int 1)=some (.int b):=by rw[ixV_l d];rfl
 refine⟨_,rfl,_,e,_,_,rfl,rfl,_,rfl,ite2 (λ_=>?_) λ_=>?_⟩
 ·exact⟨_,rfl,_,e,_,rfl,_,_,rfl,rfl,c,_,rfl,_,e,_,rfl,_,_,rfl,rfl,⟨c,g⟩,_,rfl,p,_,0,0,rfl,rfl,d,rfl,_,rfl,k _ _ _ (Int.emod_nonneg _ dz) (Int.emod_lt_of_pos _ c)⟩
 ·have l:=Int.emod_nonneg (b * 39373+7919) (b:=2147483629) dw;have j:=Int.emod_lt_of_pos (b * 39373+7919) (b:=2147483629) dw;refine⟨_,rfl,_,i,.inl ⟨_,_,rfl,rfl,.inr dw,.inl ⟨_,rfl,_,_,rfl,rfl,(by decide:(0:Int)<2147483629),_,rfl,p,_,1,1,rfl,rfl,d,rfl,_,rfl,_,by rw[ixV_l ew];rfl,_,rfl,_,by rw[ixV_l ew];rfl,.inl ⟨_,_,rfl,rfl,.inl ⟨dz,dz⟩,_,_,rfl,rfl,(by decide:(0:Int)<2147483563),_,_,rfl,rfl,⟨dw,dw⟩,_,rfl,_,_,rfl,rfl,c,k _ _ _ (Int.emod_nonneg _ dz) (Int.emod_lt_of_pos _ c)⟩⟩⟩⟩
def LD:Sp:=λvs H Q _=>∃n:Int,vs=[.int n]/\∀p x y,H p=none->Q (.ref p) (upd H p (.lst [.int x,.int y]))
def Q0 (F:iE K "_law_from" iU f fd)(T:Txt mg):iX P w K mg base 1 f fd iU LD:=by
 refine F.okL pJ λ_ _ _ _ _ _ _ _ _ _ h=>?_;obtain⟨n,rfl,q⟩:=h;refine⟨_,(pss2 (bJ 1 pJ.nd (aX oP (aX bF (aX (mQ.or tO) (aX oP (pv 0) aB) aB) aB) aB)) (aF (bW (pa2 (aX (mQ.or tO) (pv 0) (bR KA rfl T.n_int rfl (pa1 (fN SE (pv 0) (aX TY aB aB))))) (pv 1))))),?_⟩
 ac_nf
 refine⟨_,rfl,_,_,rfl,rfl,(by decide:(0:Int)<2147483629),.inl ⟨_,_,rfl,rfl,.inr dw,.inl ⟨_,rfl,_,_,rfl,rfl,(by decide:(0:Int)<2147483647),?_⟩⟩⟩;refine⟨_,rfl,_,rfl,_,_,rfl,rfl,⟨dw,dw,dw⟩,_,_,rfl,rfl,_,_,rfl,rfl,.inl ⟨_,_,rfl,rfl,.inr ?_,_,rfl,szl 2,λp a=>q p _ _ a⟩⟩;split <;> decide
section
variable {P:eg}{w:eh}{K:d6}{mg:jD}{base:Heap}
def aN (H H':Hp):Prop:=∀b xs,H b=some (.tup xs)->H' b=some (.tup xs)
def aN.trans (a:aN H H1)(b:aN H1 H2):aN H H2:=λc xs h=>b c xs (a c xs h)
def aN.of (s:aA H H'):aN H H':=λb xs h=>s b _ h
def aN.lst (h:H a=some (.lst ys)):aN H (upd H a o):=λb xs e=>upk (λz=>by rw[z,h]at e;cases e) e
def EZ (h:cZ p H H')(n:H a=none):cZ p H (upd H' a o):=λc u nc e=>upk (aC e n) (h c u nc e)
def aN.pot (h:aU H p):aN H (upd H p o):=by obtain⟨x,y,e⟩:=h;exact aN.lst e
def dF (H:Hp):cV->List V->Prop
 | [],vs=>vs=[]
 | r::l,vs=>∃t us,vs = .ref t::us/\H t=some (.tup [.str r.1,.int r.2])/\dF H l us
def fP (H:Hp):bL->List V->Prop
 | [],vs=>vs=[]
 | r::l,vs=>∃t us,vs = .ref t::us/\H t=some (.tup [.str r.1,.str r.2])/\fP H l us
def dF.same (s:aN H H'):∀{l:cV} {vs:List V},dF H l vs->dF H' l vs
 | [],_,h=>h
 | _::_,_,⟨t,us,e,h,q⟩=>⟨t,us,e,s _ _ h,dF.same s q⟩
def fP.same (s:aN H H'):∀{l:bL} {vs:List V},fP H l vs->fP H' l vs
 | [],_,h=>h
 | _::_,_,⟨t,us,e,h,q⟩=>⟨t,us,e,s _ _ h,fP.same s q⟩
def dF.snoc (a:H t=some (.tup [.str n,.int k])):∀{l:cV} {vs:List V},dF H l vs->dF H (l++[(n,k)]) (vs++[.ref t])
 | [],_,h=>by cases h;exact⟨t,[],rfl,a,rfl⟩
 | _::_,_,⟨u,us,e,h,q⟩=>by subst e;exact⟨u,us++[.ref t],rfl,h,dF.snoc a q⟩
def fP.snoc (a:H t=some (.tup [.str n,.str k])):∀{l:bL} {vs:List V},fP H l vs->fP H (l++[(n,k)]) (vs++[.ref t])
 | [],_,h=>by cases h;exact⟨t,[],rfl,a,rfl⟩
 | _::_,_,⟨u,us,e,h,q⟩=>by subst e;exact⟨u,us++[.ref t],rfl,h,fP.snoc a q⟩
def dF.len:∀{l:cV} {vs:List V},dF H l vs->vs.length=l.length
 | [],_,h=>by cases h;rfl
 | _::_,_,⟨t,us,e,h,q⟩=>by subst e;simp[dF.len q]
theorem dF.get:∀{l:cV} {vs:List V} {i:Nat} {v:V},dF H l vs->vs[i]?=some v->∃r t,l[i]?=some r/\v = .ref t/\H t=some (.tup [.str r.1,.int r.2])
 | [],_,_,_,h,e=>by cases h;simp at e
 | r::_,_,0,_,⟨t,us,e,h,q⟩,k=>by subst e;simp at k;exact⟨r,t,rfl,k.symm,h⟩
 | _::_,_,i+1,_,⟨t,us,e,h,q⟩,k=>by subst e;simp at k;obtain⟨r,t,d,c,a⟩:=dF.get q k;exact⟨r,t,by simpa using d,c,a⟩
noncomputable def zeros (a:cV):bA:=(a.filter λr=>decide (r.2=0)).map (·.1)
structure aP (fx:cV)(sm:bL):Prop where
 f1:1<=fx.length
 f2:fx.length<=12
 s2:sm.length<=3
 nm:∀x∈fx.map (·.1)++sm.map (·.1),lV x
 nd:(fx.map (·.1)++sm.map (·.1)).Nodup
 parts:∀r∈fx,0<=r.2/\r.2<=3
 bare:∃r∈fx,r.2=0
 nought:∀r∈sm,r.2≠("" : Str)->r.2∈zeros fx
 once:((sm.map (·.2)).filter λ(x:Str)=>decide (x≠("" : Str))).Nodup
def C6 (a:cV)(r:Str×Int):zeros (a++[r])=zeros a++(if r.2=0 then [r.1]else []):=by unfold zeros;rw[List.filter_append,az];congr 1;by_cases z:r.2=0 <;> simp[z]
def IA (a:cV):(zeros a).Sublist (a.map (·.1)):=List.Sublist.map _ List.filter_sublist
def aR {a:Type}{xs:List a}{i:Nat}{x:a}(h:xs[i]?=some x):xs.take (i+1)=xs.take i++[x]:=by rw[List.take_succ,h];rfl
def OD (xs:List V)(n:Nat):cutV xs (some (n:Int)) none=xs.drop n:=by
 unfold cutV;rw[HT.sIx_nat,HT.sIx_none,<-bS];rcases Nat.le_total n xs.length with h|h
 ·rw[Nat.min_eq_left h,bI]
 ·rw[Nat.min_eq_right h,List.drop_eq_nil_of_le h,List.drop_eq_nil_of_le (ac _)];rfl
end
def isWd (c:Nat):Prop:=(97<=c/\c<=122)\/(48<=c/\c<=57)
def cB (x:Str):Prop:=∃l:List Nat,x=⟨(63::l).toArray⟩/\1<=l.length/\l.length<=8/\∀c∈l,isWd c
noncomputable def wds:Str:=PySem.Str.ofString "abcdefghijklmnopqrstuvwxyz0123456789"
def OO (p t:Addr)(c:cV)(sm:bL)(H:Hp):Prop:=∃(a b:Addr) (fv sv:List V),H t=some (.tup [.ref a,.ref b])/\H a=some (.lst fv)/\H b=some (.lst sv)/\dF H c fv/\fP H sm sv/\a≠p/\b≠p
def aN.ofBut (h:cZ p H H')(a:aU H p):aN H H':=λb xs e=>h b _ (λz=>by obtain⟨x,y,q⟩:=a;rw[z,q]at e;cases e) e
def OO.but (h:OO p t fx sm H)(c:cZ p H H')(d:aU H p):OO p t fx sm H':=by obtain⟨a,b,q,g,o,m,l,j,i,f,e⟩:=h;exact⟨a,b,q,g,aN.ofBut c d _ _ o,c _ _ f m,c _ _ e l,j.same (aN.ofBut c d),i.same (aN.ofBut c d),f,e⟩
theorem fP.get:∀{l:bL} {vs:List V} {i:Nat} {v:V},fP H l vs->vs[i]?=some v->∃r t,l[i]?=some r/\v = .ref t/\H t=some (.tup [.str r.1,.str r.2])
 | [],_,_,_,h,e=>by cases h;simp at e
 | r::_,_,0,_,⟨t,us,e,h,q⟩,k=>by subst e;simp at k;exact⟨r,t,rfl,k.symm,h⟩
 | _::_,_,i+1,_,⟨t,us,e,h,q⟩,k=>by subst e;simp at k;obtain⟨r,t,d,c,a⟩:=fP.get q k;exact⟨r,t,by simpa using d,c,a⟩
def fP.len:∀{l:bL} {vs:List V},fP H l vs->vs.length=l.length
 | [],_,h=>by cases h;rfl
 | _::_,_,⟨t,us,e,h,q⟩=>by subst e;simp[fP.len q]
def dF.app:∀{l m:cV} {vs us:List V},dF H l vs->dF H m us->dF H (l++m) (vs++us)
 | [],_,_,_,h,k=>by cases h;exact k
 | _::_,_,_,_,⟨t,us,e,h,q⟩,k=>by subst e;exact⟨t,_,rfl,h,dF.app q k⟩
def nJ (a:cV)(sm:bL)(n:Str)(k:Nat):Prop:=(0<k/\(n,(k:Int))∈a)\/(2<=k/\n∈sm.map (·.1))
mutual
def aM (a:cV)(sm:bL)(os:bA):D->Prop
 | .str x=>x∈os\/x∈zeros a
 | .tup (.str n::ds)=>nJ a sm n ds.length/\IsTms a sm os ds
 | .lst (.str n::ds)=>nJ a sm n ds.length/\IsTms a sm os ds
 | _=>False
def IsTms (a:cV)(sm:bL)(os:bA):List D->Prop
 | []=>True
 | d::ds=>aM a sm os d/\IsTms a sm os ds
end
mutual
noncomputable def lvs:D->Nat
 | .tup (_::ds)=>lvss ds
 | .lst (_::ds)=>lvss ds
 | _=>1
noncomputable def lvss:List D->Nat
 | []=>0
 | d::ds=>lvs d+lvss ds
end
def IsTms.snoc {c:cV}{sm:bL}{os:bA}{d:D}(h:aM c sm os d):∀{ds:List D},IsTms c sm os ds->IsTms c sm os (ds++[d])
 | [],_=>⟨h,trivial⟩
 | _::_,⟨a,b⟩=>⟨a,IsTms.snoc h b⟩
def nR (d:D):∀ds:List D,lvss (ds++[d])=lvss ds+lvs d
 | []=>by simp[lvss]
 | e::ds=>by rw[List.cons_append,lvss,nR d ds,lvss];lia
def uK (d:D):∀ds:List D,depDs (ds++[d])=max (depDs ds) (depD d)
 | []=>Nat.max_comm _ _
 | e::ds=>by rw[List.cons_append,depDs,uK d ds,depDs,Nat.max_assoc]
def Reps.snoc (h:aH H d v):∀{ds:List D} {vs:List V},Reps H ds vs->Reps H (ds++[d]) (vs++[v])
 | [],_,e=>by cases e;exact⟨v,[],rfl,h,rfl⟩
 | _::_,_,⟨x,r,e,a,b⟩=>by subst e;exact⟨x,r++[v],rfl,a,Reps.snoc h b⟩
def Reps.len:∀{ds:List D} {vs:List V},Reps H ds vs->vs.length=ds.length
 | [],_,e=>by cases e;rfl
 | _::_,_,⟨x,r,e,a,b⟩=>by subst e;simp[Reps.len b]
noncomputable def nw (H H':Hp):Hp:=λa=>if H a=none then H' a else none
noncomputable def nwB (r:Addr)(H H':Hp):Hp:=λa=>if H a=none/\a≠r then H' a else none
def lO:nw H H' a=some o ↔ H a=none/\H' a=some o:=by
 unfold nw;by_cases h:H a=none
 ·rw[aj h];exact⟨λe=>⟨h,e⟩,λe=>e.2⟩
 ·rw[ab h];exact⟨λe=>(by cases e),λe=>absurd e.1 h⟩
def TI (p t o l rw:Addr)(a c parts:Nat)(nm:Str)(f:cV)(sm:bL)(os:bA)(H:Hp)(i:Nat)(e:St)(d:Hp):Prop :=
 ∃(left:Nat) (ds:List D) (vs:List V) (o10 o11:Option V),e=[some (.ref p),some (.ref t),some (.ref o),some (.int a),some (.int c),some (.ref l),some (.str nm),some (.int parts),some (.int left),some (.ref rw),o10,o11] /\
  cZ p H d/\aU d p/\d rw=some (.lst (.str nm::vs))/\Reps (nwB rw H d) ds vs/\ds.length=i/\IsTms f sm os ds/\lvss ds+left+(parts - i)<=a/\depDs ds+1<=c
noncomputable def c31 (a j:Nat):Nat:=97+(7 * j+a) % 26
def E3 (a:Nat)(b:Nat->Nat)(ws:bA):Prop:=ws.length=12/\∀j x,ws[j]?=some x->∃l,x.cps.toList=c31 a j::l/\l.length<=b j/\∀c∈l,97<=c/\c<=122
def E3.mono {b a:Nat->Nat}(h:E3 sh b ws)(k:∀j,b j<=a j):E3 sh a ws :=
 ⟨h.1,λj x e=>by obtain⟨l,f,d,c⟩:=h.2 j x e;exact⟨l,f,aq d (k j),c⟩⟩
theorem E3.set {b:Nat->Nat}(h:E3 sh b ws)(e:ws[j]?=some x)(r:97<=c)(q:c<=122):E3 sh (λi=>if i=j then b j+1 else b i) (ws.set j (x++⟨#[c]⟩)):=by
 refine⟨by rw[List.length_set];exact h.1,λi y a=>?_⟩;by_cases z:i=j
 ·subst z;obtain⟨l,o,m,f⟩:=h.2 i x e;rw[List.getElem?_set_self (cx.mp e).1]at a;cases a;refine⟨l++[c],?_,by dsimp only;rw[aj rfl,au];exact Nat.succ_le_succ m,λd hd=>?_⟩
  ·show(x.cps ++ #[c]).toList=_;rw[Array.toList_append,o];rfl
  ·obtain g|g:=c4.mp hd
   ·exact f d g
   ·rw[cy.mp g];exact⟨r,q⟩
 ·rw[List.getElem?_set_ne (λw=>z w.symm)]at a;dsimp only;rw[ab z];exact h.2 i y a
def E3.name {a:Nat}{b:Nat->Nat}{ws:bA}(h:E3 a b ws)(k:∀j,b j<=5){j:Nat}{x:Str}(e:ws[j]?=some x):lV x:=by
 obtain⟨l,i,o,f⟩:=h.2 j x e;have m:=k j;unfold lV;rw[i];refine⟨by rw[ar];lia,by rw[ar];lia,λc d=>?_⟩;obtain g|g:=cz.mp d
 ·have:=Nat.mod_lt (7 * j+a) (show 0<26 by decide);unfold c31 at g
  lia
 ·exact f c g
def E3.nd {b:Nat->Nat}(h:E3 sh b ws):ws.Nodup:=by
 rw[List.nodup_iff_pairwise_ne,List.pairwise_iff_getElem];intro i j o d f e;obtain⟨l,a,_⟩:=h.2 i _ (ay o);obtain⟨m,c,_⟩:=h.2 j _ (ay d);rw[e,c]at a;injection a with g _;have hl:=h.1;unfold c31 at g
 lia
noncomputable def bO (i j:Nat):Nat:=if j∈([0,5,9]:List Nat).take i then 5 else 0
def XW (p l u:Addr)(a:Nat)(H:Hp)(i:Nat)(c:St)(H':Hp):Prop:=∃(ws:bA) (o4 o5:Option V),c=[some (.ref p),some (.str abc),some (.int a),some (.ref l),o4,o5,none,none]/\cZ p H H'/\aU H' p/\H' l=some (.lst (ws.map V.str))/\H' u=some (.lst [.int 0,.int 5,.int 9])/\E3 a (bO i) ws
def YH (p l u:Addr)(a:Nat)(H:Hp)(b:Nat->Nat)(j:Nat)(t:Nat)(c:St)(H':Hp):Prop:=∃(ws:bA) (o5:Option V),c=[some (.ref p),some (.str abc),some (.int a),some (.ref l),some (.int j),o5,none,none]/\cZ p H H'/\aU H' p/\H' l=some (.lst (ws.map V.str))/\H' u=some (.lst [.int 0,.int 5,.int 9])/\E3 a (λi=>if i=j then t else b i) ws
def D9 {K0:d6}{p l u:Addr}{A:Nat}{J:It}{g:bA}{H d:Hp}{D:jA}(hJ:R5 K0 u [.int 0,.int 5,.int 9] J d)(hl:H l=none)(b1:cZ p H d)(p1:aU d p)(l1:d l=some (.lst (g.map V.str)))(u1:d u=some (.lst [.int 0,.int 5,.int 9]))(X:u≠l)(F:u≠p)(o:l≠p)(w0:E3 A (bO 0) g)
  (fin:∀ws I E H',cZ p H H'->aU H' p->H' l=some (.lst (ws.map V.str))->E3 A (bO 3) ws->D.nx [some (.ref p),some (.str abc),some (.int A),some (.ref l),I,E,none,none] H') :
  rD J (gName 4) (λD f H=>iRng1 (tCons (tCall gG [] E0 (tCons (tVar 0) (tCons (tC (V.int 6)) tNil))) tNil) f H λJ d=>rD J (gName 5) (tAsg (tOp rAddF (tOp (λx y H Q=>∃v,ixV H x y=some v/\Q v H) (tVar 3) (tVar 4)) (tOp (λx y H Q=>∃v,ixV H x y=some v/\Q v H) (tVar 1) (tCall gG [] E0 (tCons (tVar 0) (tCons (tC (V.int 26)) tNil))))) (gSub (tVar 3) (tVar 4) rSetL)) D f d) D [some (.ref p),some (.str abc),some (.int A),some (.ref l),none,none,none,none] d:=by
 refine gZ hJ (XW p l u A H) ⟨g,none,none,rfl,b1,p1,l1,u1,w0⟩ (λi f H' _ ⟨_,_,_,_,_,_,_,h,_⟩=>by rw[h,u1]) ?_ ?_
 ·rintro i x f q c ⟨ws,I,E,rfl,b2,T,Z,u2,P⟩;obtain⟨j,rfl,hj,hb0,hb1⟩:∃j:Nat,x = .int j/\j<12/\bO i j=0/\∀k,(if k=j then 5 else bO i k)<=bO (i+1) k:=by
   match i,c with
   | 0,c=>cases c;exact⟨0,rfl,dw,dw,λk=>by by_cases z:k=0 <;> simp[bO,z]⟩
   | 1,c=>cases c;exact⟨5,rfl,dw,dw,λk=>by by_cases z:k=5 <;> simp[bO,z]⟩
   | 2,c=>cases c;exact⟨9,rfl,dw,dw,λk=>by by_cases z:k=9 <;> simp[bO,z]⟩
   | i+3,c=>simp at c
  refine⟨_,rfl,p,6,rfl,T,dw,dw,λr C B r0 r1=>⟨r,rfl,dz,dz,?_⟩⟩;have b3:=b2.trans (cZ.upd p q (.lst [.int C,.int B]));have p3:aU (upd q p (.lst [.int C,.int B])) p:=⟨_,_,ew⟩
  have l3:upd q p (.lst [.int C,.int B]) l=some (.lst (ws.map V.str)):=upk o Z;have u3:upd q p (.lst [.int C,.int B]) u=some (.lst [.int 0,.int 5,.int 9]):=upk F u2;generalize upd q p (.lst [.int C,.int B])=H3 at b3 p3 l3 u3|-;refine oV (YH p l u A H (bO i) j) ⟨ws,E,rfl,b3,p3,l3,u3,P.mono λk=>?_⟩ ?_ ?_
  ·by_cases z:k=j
   ·rw[z,hb0];exact aw _
   ·rw[ab z];exact ac _
  ·rintro t f L ht ⟨a,U,rfl,b4,S,K,R,w⟩;obtain⟨y,hy⟩:∃y,a[j]?=some y:=⟨_,ay (by rw[w.1];exact hj)⟩
   obtain⟨ly,Y,G,_⟩:=w.2 j y hy;dsimp only at G;rw[aj rfl]at G;refine⟨_,rfl,_,rfl,.str y,by rw[ixV_l K];exact lU (by rw[cf,hy];rfl),_,rfl,_,rfl,p,26,rfl,S,dw,dw,λe O N e0 e1=>⟨_,NO e0 e1,.inl ⟨_,aj (aq (m:=100) ?_ dw),_,rfl,_,rfl,l,_,j,j,rfl,rfl,upk o K,?_,?_⟩⟩⟩
   ·show y.cps.size+1<=100;rw[<-bw,Y,ar]
    lia
   ·rw[zB dz (by rw[af,w.1];lia)];rfl
   ·have b5:=b4.trans (cZ.upd p L (.lst [.int O,.int N]));have p5:aU (upd L p (.lst [.int O,.int N])) p:=⟨_,_,ew⟩
    have u5:upd L p (.lst [.int O,.int N]) u=some (.lst [.int 0,.int 5,.int 9]):=upk F R;refine⟨a.set j (y++⟨#[97+e.toNat]⟩),_,rfl,EZ b5 hl,p5.but o.symm,by rw[ew,List.map_set],upk X u5,(w.set hy dz dz).mono λk=>?_⟩;by_cases z:k=j
    ·rw[aj z,aj z,aj rfl];exact ac _
    ·rw[ab z,ab z,ab z];exact ac _
  ·rintro f L ⟨a,U,rfl,b4,S,K,R,w⟩;refine⟨a,_,_,rfl,b4,S,K,R,w.mono λk=>aq ?_ (hb1 k)⟩;by_cases z:k=j
   ·rw[aj z,aj z];lia
   ·rw[ab z,ab z];exact ac _
 ·rintro f q ⟨ws,I,E,rfl,b2,T,Z,u2,P⟩;exact fin ws I E q b2 T Z P
def list12 {ws:bA}(h:ws.length=12):∃v u r q o m l j g f c a,ws=[v,u,r,q,o,m,l,j,g,f,c,a]:=by
 have e:ws=(List.range 12).map λi=>ws.getD i "":=by rw[<-h];exact List.ext_getElem dV λi d w=>by simp[d]
 exact⟨_,_,_,_,_,_,_,_,_,_,_,_,e⟩
def YL (ns:bA)(H:Hp)(i:Nat)(a:List V)(c:St)(H':Hp):Prop:=aA H H'/\dF H' ((ns.take i).map λx=>(x,(0:Int))) a/\∃o:Option V,c=[o]
def W6 (p l fl:Addr)(nm:List V)(d:List V)(f:cV)(c ns:bA)(H:Hp)(i:Nat)(a:List V)(e:St)(H':Hp):Prop :=
 ∃(sm:bL) (o:Option V),e=[o,some (.ref p),some (.ref l)]/\cZ p H H'/\aU H' p/\H' l=some (.lst nm)/\H' fl=some (.lst d)/\dF H' f d/\fP H' sm a/\sm.map (·.1)=ns.take i/\(∀r∈sm,r.2≠("" : Str)->r.2∈c)/\((sm.map (·.2)).filter λ(x:Str)=>decide (x≠("" : Str))).Sublist (c.take i)
def BO (w:E3 sh (bO 3) [a0,a1,a2,a3,a4,a5,a6,a7,a8,a9,a10,a11])(e:sm.map (·.1)=[a9,a10,a11].take k)(z:∀r∈sm,r.2≠("" : Str)->r.2∈[a0,a1,a2])(o:((sm.map (·.2)).filter λ(x:Str)=>decide (x≠("" : Str))).Sublist ([a0,a1,a2].take k)) :
  aP [(a0,0),(a1,0),(a2,0),(a3,0),(a4,0),(a5,1),(a6,1),(a7,2),(a8,3)] sm:=by
 have nd:=w.nd;have a:([a0,a1,a2,a3,a4,a5,a6,a7,a8]++sm.map (·.1)).Sublist [a0,a1,a2,a3,a4,a5,a6,a7,a8,a9,a10,a11]:=by rw[e];exact List.Sublist.append (List.Sublist.refl _) (List.take_sublist _ _)
 have le:sm.length<=3:=by
  have:=congrArg List.length e;rw[af,bz]at this;simp only[ar,List.length_nil]at this
  lia
 have nm:∀x∈([a0,a1,a2,a3,a4,a5,a6,a7,a8]++sm.map (·.1)),lV x:=λx d=>by obtain⟨j,f⟩:=List.getElem?_of_mem (a.subset d);exact w.name (λj=>by unfold bO;split <;> decide) f
 refine⟨by show 1<=9;decide,by show 9<=12;decide,le,nm,nd.sublist a,?_,⟨_,ax,rfl⟩,λr c ne=>?_,(nd.sublist ?_).sublist o⟩
 ·intro r c;simp only[cz,List.not_mem_nil,or_false]at c;rcases c with rfl|rfl|rfl|rfl|rfl|rfl|rfl|rfl|rfl <;> (constructor <;> dsimp only <;> decide)
 ·have:=z r c ne;show r.2∈[a0,a1,a2,a3,a4];simp only[cz,List.not_mem_nil,or_false]at this|-;rcases this with h|h|h <;> simp[h]
 ·exact(List.take_sublist _ _).trans (List.sublist_append_left [a0,a1,a2] [a3,a4,a5,a6,a7,a8,a9,a10,a11])
noncomputable def wi31:bA:=["?x","?1","?0z9","?zzzzzzzz"]
def XZ (c:Nat)(e:Hp)(i:Nat)(a:List V)(d:St)(H':Hp):Prop:=H'=e/\∃(ws:bA) (o:Option V),a=ws.map V.str/\ws.length=i/\d=[o,some (.str abc),some (.int c)]/\∀(j:Nat) (x:Str),ws[j]?=some x->x=⟨#[c31 c j]⟩
def WI (a:cV)(sm:bL):Prop:=(∀j,j<5->∃x,a[j]?=some (x,0))/\(∃r∈a,r.2=1)/\1<=sm.length
def wH:Sp:=λvs H Q _=>∃p:Addr,vs=[.ref p]/\aU H p/\∀(t a b:Addr) (fx:cV) (sm:bL) (fv sv:List V) (H':Hp),cZ p H H'->aU H' p->H' t=some (.tup [.ref a,.ref b])->H' a=some (.lst fv)->H' b=some (.lst sv)->dF H' fx fv->fP H' sm sv->aP fx sm->a≠p->b≠p->WI fx sm->Q (.ref t) H'
def MX (F:iE K "_law_signs" gM f fd)(T:Txt mg)(c:Ow P w K mg base 1 "_law_take" gG):iX P w K mg base 2 f fd gM wH:=by
 refine F.okL cA λ_ _ _ s H vs _ _ hr hu h=>?_;obtain⟨p,rfl,hp,q⟩:=h;refine⟨_,(pss8 (oM (i:=1) cA.nd rfl (Or.inr rfl) cI) (oM (i:=2) cA.nd rfl (Or.inr rfl) (aS c hr (pa2 (pv 0) aB))) (oM (i:=3) cA.nd rfl (Or.inr rfl) (jX (bD.of cA ["_law_j","_law_letters","_law_shift"] [none,some 1,some 2]) (jH rfl T.n_range (pa1 aB)) (bV (i:=0) (cT ["_law_j","_law_letters","_law_shift"]) rfl (Or.inl rfl)) cU (aV (pv 1) (aX oP (aX bF (aX (mQ.or tO) aB (pv 0)) (pv 2)) aB)))) (iA (gF K (bW (pa3 aB aB aB))) (gV 4 cA.nd) (aE (iA (jH rfl T.n_range (pa1 (aS c hr (pa2 (pv 0) aB)))) (gV 5 cA.nd) (aE (gU (aX bF (aV (pv 3) (pv 4)) (aV (pv 1) (aS c hr (pa2 (pv 0) aB)))) (yR (pv 3) (pv 4) pF)))))) (mN 6 cA.nd (bD.of cA ["_law_name"] [none]) (gF K (dM iF (pv 3) cH (bU aB))) (bV (i:=0) (cT ["_law_name"]) rfl (Or.inl rfl)) cU (bB (pa2 (pv 0) aB))) (bX (fX di PySem.F.slot_list_extend PySem.F.type_list_extend jC (pv 6) (pa1 (bW (pa4 (bB (pa2 (aV (pv 3) aB) aB)) (bB (pa2 (aV (pv 3) aB) aB)) (bB (pa2 (aV (pv 3) aB) aB)) (bB (pa2 (aV (pv 3) aB) aB))))))) (mN 7 cA.nd (bD.of cA ["_law_j","_law_state","_law_names"] [none,some 0,some 3]) (jH rfl T.n_range (pa1 (aX bF aB (aS c hr (pa2 (pv 0) aB))))) (bV (i:=0) (cT ["_law_j","_law_state","_law_names"]) rfl (Or.inl rfl)) cU (bB (pa2 (aV (pv 2) (aX bF aB (pv 0))) (aV (bW (pa2 (aV (pv 2) (pv 0)) cI)) (aS c hr (pa2 (pv 1) aB)))))) (aF (bB (pa2 (pv 6) (pv 7))))),?_⟩
 ac_nf
 exists k1;exists k1,k2;refine⟨_,rfl,p,26,rfl,hp,dw,dw,λd x0 y0 d0 d1=>?_⟩;obtain⟨sh,rfl,hsh⟩:∃k:Nat,d=(k:Int)/\k<26:=⟨d.toNat,dz,dz⟩
 have p1:aU (upd H p (.lst [.int x0,.int y0])) p:=⟨_,_,ew⟩
 have b1:cZ p H (upd H p (.lst [.int x0,.int y0])):=cZ.upd p H _;generalize upd H p (.lst [.int x0,.int y0])=H1 at p1 b1|-;exists k2,k3;refine⟨12,rfl,dw,dw,?_⟩;refine nG (XZ sh H1) ⟨rfl,[],none,rfl,rfl,rfl,dV⟩ ?_ ?_
 ·rintro i g σ H' hi ⟨rfl,ws,o,rfl,hl,rfl,hw⟩;have hm:=Nat.mod_lt (7 * i+sh) (show 0<26 by decide);have ei:(7 * (0+(i:Int))+(sh:Int)) % 26=((7 * i+sh) % 26:Nat):=by lia
  refine⟨_,rfl,_,rfl,.inl ⟨_,_,rfl,rfl,.inl dw,_,rfl,.inl ⟨_,rfl,_,_,rfl,rfl,(by decide:(0:Int)<26),_,(by dsimp only;rw[ei];exact NO dz dz),ak (m:=12) (by rw[af];lia) dw,rfl,ws++[⟨#[c31 sh i]⟩],_,by rw[az];rfl,by rw[au,hl];rfl,rfl,λj x e=>?_⟩⟩⟩;by_cases z:j<ws.length
  ·rw[List.getElem?_append_left z]at e;exact hw j x e
  ·rw[List.getElem?_append_right dz,hl]at e;obtain⟨g1,g2⟩:=cx.mp e;have g3:j=i:=by simp at g1;lia
   subst g3
   simpa using g2.symm
 ·rintro g σ H' ⟨rfl,ws,o,rfl,hl,rfl,hw⟩ l hl0;have nlp:l≠p:=(p1.ne hl0).symm;have old:∀a,a≠p->H' a=none->H a=none:=λa na ha=>by
   cases e:H a with
   | none=>rfl
   | some u=>have:=b1 a u na e;rw[ha]at this;cases this
  have hlH:=old l nlp hl0;have b2:=b1.trans (cZ.new (p:=p) (o:=.lst (ws.map V.str)) hl0);have p2:=p1.but (o:=.lst (ws.map V.str)) (p1.ne hl0);have l2:upd H' l (.lst (ws.map V.str)) l=some (.lst (ws.map V.str)):=ew;generalize upd H' l (.lst (ws.map V.str))=H2 at b2 p2 l2|-;exists k3,k4;refine⟨szl 3,λu hu=>⟨u,_,rfl,.inl ew,λJ hJ=>D9 hJ hlH (b2.trans (cZ.new hu)) (p2.but (p2.ne hu)) (upk (aC l2 hu) l2) ew (aC l2 hu).symm (p2.ne hu).symm nlp ⟨hl,λj x e=>⟨[],by rw[hw j x e],aw _,dV⟩⟩ λws3 o4 o5 H3 b3 p3 l3 w3=>?_⟩⟩;obtain⟨B,A,v,N,I,Q,W,U,S,a9,G,E,rfl⟩:=list12 w3.1;exists k4,k5;refine⟨_,rfl,5,rfl,l,_,rfl,.inl l3,(λ⟨ys,hy⟩=>by rw[l3]at hy;cases hy),λsl os hsl ho=>?_⟩;have eo:os = .lst [.str B,.str A,.str v,.str N,.str I]:=by
   rcases ho with⟨e,_⟩|⟨_,e⟩
   ·rw[e];rfl
   ·rw[l3]at e;cases e
  subst eo;have s4:aA H3 (upd H3 sl (.lst [.str B,.str A,.str v,.str N,.str I])):=aA.upd hsl;have l4:upd H3 sl (.lst [.str B,.str A,.str v,.str N,.str I]) sl=some (.lst ([B,A,v,N,I].map V.str)):=ew;generalize upd H3 sl (.lst [.str B,.str A,.str v,.str N,.str I])=H4 at s4 l4|-;refine⟨sl,_,rfl,.inl l4,λJ hJ=>cQ hJ (YL [B,A,v,N,I] H4) ⟨aA.refl _,rfl,none,rfl⟩ (λi g σ H' _ h=>by rw[h.1 _ _ l4,l4]) ?_ ?_⟩
  ·rintro i x g σ H5 hx ⟨s5,r5,o6,rfl⟩;obtain⟨y,hy,rfl⟩:∃y,[B,A,v,N,I][i]?=some y/\x = .str y:=by
    rw[cf]at hx;cases e:[B,A,v,N,I][i]? with
    | none=>rw[e]at hx;cases hx
    | some n=>rw[e]at hx;exact⟨n,rfl,by cases hx;rfl⟩
   refine⟨_,rfl,szl 2,λt O=>⟨ak (m:=20) ?_ dw,s5.trans (aA.upd O),?_,_,rfl⟩⟩
   ·rw[r5.len,af,bz];simp;lia
   ·rw[aR hy,az];exact(r5.same (aN.of (aA.upd O))).snoc ew
  ·rintro g σ H5 ⟨s5,r5,o6,rfl⟩ fl hfl;have r5':dF H5 [(B,0),(A,0),(v,0),(N,0),(I,0)] g:=r5;have s6:=(s4.trans s5).trans (aA.upd (o:=.lst g) hfl);have f6:upd H5 fl (.lst g) fl=some (.lst g):=ew;have r6:=r5'.same (aN.of (aA.upd (o:=.lst g) hfl));have nfl:H3 fl=none:=by
    cases e:H3 fl with
    | none=>rfl
    | some u=>have:=(s4.trans s5) _ _ e;rw[hfl]at this;cases this
   have nfp:fl≠p:=(p3.ne nfl).symm;have nfH:H fl=none:=by
    cases e:H fl with
    | none=>rfl
    | some u=>have:=b3 fl u nfp e;rw[nfl]at this;cases this
   have la:=r5'.len;generalize upd H5 fl (.lst g)=H6 at s6 f6 r6|-;have L:∀{H7:Hp},aA H6 H7->H7 l=some (.lst ([B,A,v,N,I,Q,W,U,S,a9,G,E].map V.str)):=λs=>s _ _ (s6 _ _ l3);exists k5,k6;refine⟨_,rfl,.inl ⟨rfl,_,d5.of f6⟩,_,rfl,.str Q,by rw[ixV_l (L (aA.refl _))];rfl,szl 2,λt1 h1=>?_⟩;have s7:=aA.upd (o:=.tup [.str Q,.int 1]) h1;have g1:upd H6 t1 (.tup [.str Q,.int 1]) t1=some (.tup [.str Q,.int 1]):=ew;generalize upd H6 t1 (.tup [.str Q,.int 1])=H7 at s7 g1|-;refine⟨_,rfl,.str W,by rw[ixV_l (L s7)];rfl,szl 2,λR h2=>?_⟩;have s8:=s7.trans (aA.upd (o:=.tup [.str W,.int 1]) h2);have g2:=dF.snoc (ew (H:=H7) (a:=R) (o:=.tup [.str W,.int 1])) (dF.snoc (l:=[]) (vs:=[]) (aA.upd (o:=.tup [.str W,.int 1]) h2 _ _ g1) rfl);generalize upd H7 R (.tup [.str W,.int 1])=H8 at s8 g2|-;refine⟨_,rfl,.str U,by rw[ixV_l (L s8)];rfl,szl 2,λt3 h3=>?_⟩;have s9:=s8.trans (aA.upd (o:=.tup [.str U,.int 2]) h3);have g3:=dF.snoc (ew (H:=H8) (a:=t3) (o:=.tup [.str U,.int 2])) (g2.same (aN.of (aA.upd (o:=.tup [.str U,.int 2]) h3)));generalize upd H8 t3 (.tup [.str U,.int 2])=H9 at s9 g3|-;refine⟨_,rfl,.str S,by rw[ixV_l (L s9)];rfl,szl 2,λt4 h4=>?_⟩;have s10:=s9.trans (aA.upd (o:=.tup [.str S,.int 3]) h4);have g4:=dF.snoc (ew (H:=H9) (a:=t4) (o:=.tup [.str S,.int 3])) (g3.same (aN.of (aA.upd (o:=.tup [.str S,.int 3]) h4)));generalize upd H9 t4 (.tup [.str S,.int 3])=H10 at s10 g4|-;refine⟨szl 4,λb hb=>⟨fl,b,g,_,rfl,rfl,aA.upd hb _ _ (s10 _ _ f6),.inl ew,aq (m:=20) (by rw[la];show 9<=20;decide) dw,?_⟩⟩;have Y:=s10.trans (aA.upd (o:=.lst [.ref t1,.ref R,.ref t3,.ref t4]) hb);have g5:=g4.same (aN.of (aA.upd (o:=.lst [.ref t1,.ref R,.ref t3,.ref t4]) hb));generalize upd H10 b (.lst [.ref t1,.ref R,.ref t3,.ref t4])=H11 at Y g5|-;have l11:=L Y;have f11:=Y _ _ f6;have nlf:l≠fl:=λz=>by rw[z,nfl]at l3;cases l3
   have b12:=EZ (o:=.lst (g++[.ref t1,.ref R,.ref t3,.ref t4])) (b3.trans (s6.trans Y).but) nfH;have p11:aU H11 p:=by obtain⟨x,y,e⟩:=p3;exact⟨x,y,(s6.trans Y) _ _ e⟩
   have p12:=p11.but (o:=.lst (g++[.ref t1,.ref R,.ref t3,.ref t4])) nfp.symm;have l12:upd H11 fl (.lst (g++[.ref t1,.ref R,.ref t3,.ref t4])) l=some (.lst ([B,A,v,N,I,Q,W,U,S,a9,G,E].map V.str)):=upk nlf l11;have f12:upd H11 fl (.lst (g++[.ref t1,.ref R,.ref t3,.ref t4])) fl=some (.lst (g++[.ref t1,.ref R,.ref t3,.ref t4])):=ew;have r12:dF (upd H11 fl (.lst (g++[.ref t1,.ref R,.ref t3,.ref t4]))) [(B,0),(A,0),(v,0),(N,0),(I,0),(Q,1),(W,1),(U,2),(S,3)] (g++[.ref t1,.ref R,.ref t3,.ref t4]) :=
    dF.app (l:=[(B,0),(A,0),(v,0),(N,0),(I,0)]) (m:=[(Q,1),(W,1),(U,2),(S,3)]) (us:=[.ref t1,.ref R,.ref t3,.ref t4]) (r6.same ((aN.of Y).trans (aN.lst f11))) (dF.same (aN.lst f11) g5)
   generalize upd H11 fl (.lst (g++[.ref t1,.ref R,.ref t3,.ref t4]))=H12 at b12 p12 l12 f12 r12|-;generalize g++[.ref t1,.ref R,.ref t3,.ref t4]=fv at f12 r12;exists k6,k7;refine⟨_,rfl,p,3,rfl,p12,dw,dw,λk x1 y1 k0 k1=>.inl ⟨_,rfl,1+k,rfl,dz,dz,?_⟩⟩;have b13:=b12.trans (cZ.upd p H12 (.lst [.int x1,.int y1]));have p13:aU (upd H12 p (.lst [.int x1,.int y1])) p:=⟨_,_,ew⟩
   have l13:upd H12 p (.lst [.int x1,.int y1]) l=some (.lst ([B,A,v,N,I,Q,W,U,S,a9,G,E].map V.str)):=upk nlp l12;have f13:upd H12 p (.lst [.int x1,.int y1]) fl=some (.lst fv):=upk nfp f12;have r13:=r12.same (aN.pot (o:=.lst [.int x1,.int y1]) p12);generalize upd H12 p (.lst [.int x1,.int y1])=H13 at b13 p13 l13 f13 r13|-;refine nG (W6 p l fl _ fv [(B,0),(A,0),(v,0),(N,0),(I,0),(Q,1),(W,1),(U,2),(S,3)] [B,A,v] [a9,G,E] H) ⟨[],none,rfl,b13,p13,l13,f13,r13,rfl,rfl,dV,dV⟩ ?_ ?_
   ·rintro i g σ H14 hi ⟨sm,o6,rfl,b14,Z,l14,f14,r14,rs,e1,e2,e3⟩;have hi3:i<3:=by lia
    obtain⟨x9,X,g9,gj,i9,ij⟩:∃x9 X,[a9,G,E][i]?=some x9/\[B,A,v][i]?=some X/\atI ([B,A,v,N,I,Q,W,U,S,a9,G,E].map V.str) (9+(0+(i:Int)))=some (.str x9)/\atI ([B,A,v,N,I,Q,W,U,S,a9,G,E].map V.str) (0+(i:Int))=some (.str X):=by
     match i,hi3 with
     | 0,_=>exact⟨_,_,rfl,rfl,rfl,rfl⟩
     | 1,_=>exact⟨_,_,rfl,rfl,rfl,rfl⟩
     | 2,_=>exact⟨_,_,rfl,rfl,rfl,rfl⟩
    refine⟨_,rfl,_,rfl,.inl ⟨_,rfl,.str x9,by rw[ixV_l l14];exact i9,_,rfl,_,rfl,.str X,by rw[ixV_l l14];exact ij,szl 2,λr hr=>?_⟩⟩;have C:=aA.upd (o:=.lst [.str X,.str ""]) hr;have q15:upd H14 r (.lst [.str X,.str ""]) r=some (.lst [.str X,.str ""]):=ew;have nrp:=(Z.ne hr).symm;have p15:=Z.but (o:=.lst [.str X,.str ""]) (Z.ne hr);generalize upd H14 r (.lst [.str X,.str ""])=H15 at C q15 p15|-;refine⟨_,rfl,p,2,rfl,p15,dw,dw,λd x2 y2 d0 d1=>?_⟩;have p16:aU (upd H15 p (.lst [.int x2,.int y2])) p:=⟨_,_,ew⟩
    have b16:=(b14.trans C.but).trans (cZ.upd p H15 (.lst [.int x2,.int y2]));have l16:upd H15 p (.lst [.int x2,.int y2]) l=_:=(bG nlp).trans (C _ _ l14);have f16:upd H15 p (.lst [.int x2,.int y2]) fl=_:=(bG nfp).trans (C _ _ f14);have q16:upd H15 p (.lst [.int x2,.int y2]) r=_:=(bG nrp).trans q15;have tt:=(aN.of C).trans (aN.pot (o:=.lst [.int x2,.int y2]) p15);generalize upd H15 p (.lst [.int x2,.int y2])=H16 at p16 b16 l16 f16 q16 tt|-;have la:g.length<=20:=by
     have h1:=congrArg List.length e1;rw[af,bz]at h1;have h2:=rs.len;simp only[List.length_nil,ar]at h1
     lia
    have go:∀z:Str,(z=("" : Str)\/z=X)->∀t,H16 t=none->∃(sm:bL),sm.map (·.1)=[a9,G,E].take (i+1)/\(∀r∈sm,r.2≠("" : Str)->r.2∈[B,A,v])/\((sm.map (·.2)).filter λ(x:Str)=>decide (x≠("" : Str))).Sublist ([B,A,v].take (i+1))/\fP (upd H16 t (.tup [.str x9,.str z])) sm (g++[.ref t]):=λz hz t O=>by
     refine⟨sm++[(x9,z)],by rw[az,e1,aR g9];rfl,λr hr ne=>?_,?_,((rs.same tt).same (aN.of (aA.upd O))).snoc ew⟩
     ·obtain m|m:=c4.mp hr
      ·exact e2 r m ne
      ·rw[cy.mp m]at ne|-;rw[hz.resolve_left ne];exact bn gj
     ·rw[az,List.filter_append,aR gj];refine List.Sublist.append e3 ?_;rcases hz with rfl|rfl
      ·simp
      ·exact List.filter_sublist
    have fin:∀z:Str,(z=("" : Str)\/z=X)->∀t,H16 t=none->W6 p l fl ([B,A,v,N,I,Q,W,U,S,a9,G,E].map V.str) fv [(B,0),(A,0),(v,0),(N,0),(I,0),(Q,1),(W,1),(U,2),(S,3)] [B,A,v] [a9,G,E] H (i+1) (g++[.ref t]) [some (.int (0+i)),some (.ref p),some (.ref l)] (upd H16 t (.tup [.str x9,.str z])):=λz hz t O=>by obtain⟨sm',h1,h2,h3,h4⟩:=go z hz t O;exact⟨sm',_,rfl,b16.trans (cZ.new O),p16.but (p16.ne O),aA.upd O _ _ l16,aA.upd O _ _ f16,(r14.same tt).same (aN.of (aA.upd O)),h4,h1,h2,h3⟩
    have:d=0\/d=1:=by lia
    rcases this with rfl|rfl
    ·exact⟨.str X,by rw[ixV_l q16];rfl,szl 2,λt O=>⟨ak la dw,fin X (.inr rfl) t O⟩⟩
    ·exact⟨.str "",by rw[ixV_l q16];rfl,szl 2,λt O=>⟨ak la dw,fin _ (.inl rfl) t O⟩⟩
   ·rintro g σ H14 ⟨sm,o6,rfl,b14,Z,l14,f14,r14,rs,e1,e2,e3⟩ sl hsl;refine k7 ⟨_,rfl,_,rfl,szl 2,λt O=>?_⟩;have C:=(aA.upd (o:=.lst g) hsl).trans (aA.upd (o:=.tup [.ref fl,.ref sl]) O);refine q t fl sl _ sm fv g _ (b14.trans C.but) (by obtain⟨x,y,e⟩:=Z;exact⟨x,y,C _ _ e⟩) ew (C _ _ f14) (aA.upd O _ _ ew) (r14.same (aN.of C)) (rs.same (aN.of C)) (BO w3 e1 e2 e3) nfp (Z.ne hsl).symm ⟨λj hj=>?_,⟨(Q,1),dV,rfl⟩,?_⟩
    ·match j,hj with
     | 0,_=>exact⟨_,rfl⟩
     | 1,_=>exact⟨_,rfl⟩
     | 2,_=>exact⟨_,rfl⟩
     | 3,_=>exact⟨_,rfl⟩
     | 4,_=>exact⟨_,rfl⟩
    ·have:=congrArg List.length e1;rw[af,bz]at this;simp only[ar,List.length_nil]at this
     lia
abbrev M:=Nat×Str×Nat
noncomputable def sL (x y:Str):Bool:=decide (x.cps.toList<y.cps.toList)
def PB {x y:Str}(h:x.cps.toList=y.cps.toList):x=y:=by cases x;cases y;simp only[Str.mk.injEq];exact Array.toList_inj.mp h
def TH (x:Str):sL x x=false:=br (List.lt_irrefl _)
def PH (h:sL x y=true):sL y x=false:=br λk=>absurd (List.lt_trans (bx h) k) (List.lt_irrefl _)
def LK (n:x≠y):sL x y=true\/sL y x=true:=by
 by_cases h:x.cps.toList<y.cps.toList
 ·exact .inl (bj h)
 ·by_cases k:y.cps.toList<x.cps.toList
  ·exact .inr (bj k)
  ·exact absurd (PB (List.le_antisymm (List.not_lt.mp k) (List.not_lt.mp h))) n
noncomputable def ltM (a b:M):Bool:=if a.1=b.1 then(if a.2.1=b.2.1 then decide (a.2.2<b.2.2)else sL a.2.1 b.2.1)else decide (a.1<b.1)
def tV (h:ltM a b=true):ltM b a=false:=by
 obtain⟨i,g,l⟩:=a;obtain⟨f,e,j⟩:=b;unfold ltM at h|-;dsimp only at h|-;by_cases d:i=f
 ·subst d;rw[aj rfl]at h|-;by_cases c:g=e
  ·subst c;rw[aj rfl]at h|-;exact br (by have:=bx h;lia)
  ·rw[ab c]at h;rw[ab (Ne.symm c)];exact PH h
 ·rw[ab d]at h;rw[ab (Ne.symm d)];exact br (by have:=bx h;lia)
def qR (n:a≠b):ltM a b=true\/ltM b a=true:=by
 obtain⟨l,j,i⟩:=a;obtain⟨g,f,e⟩:=b;unfold ltM;dsimp only;by_cases d:l=g
 ·subst d;rw[aj rfl,aj rfl];by_cases c:j=f
  ·subst c;rw[aj rfl,aj rfl];have:i≠e:=λz=>n (by rw[z]);rcases Nat.lt_or_gt_of_ne this with h|h
   ·exact .inl (bj h)
   ·exact .inr (bj h)
  ·rw[ab c,ab (Ne.symm c)];exact LK c
 ·rw[ab d,ab (Ne.symm d)];rcases Nat.lt_or_gt_of_ne d with h|h
  ·exact .inl (bj h)
  ·exact .inr (bj h)
noncomputable def lexK:List M->List M->Bool
 | [],[]=>false
 | [],_::_=>true
 | _::_,[]=>false
 | a::s,b::t=>if a=b then lexK s t else ltM a b
def pV:∀s:List M,lexK s s=false
 | []=>rfl
 | a::s=>by rw[lexK,aj rfl,pV s]
theorem nU:∀{s t:List M},lexK s t=true->lexK t s=false
 | [],[],h=>by cases h
 | [],_::_,_=>rfl
 | _::_,[],h=>by cases h
 | a::s,b::t,h=>by
  rw[lexK]at h|-;by_cases e:a=b
  ·rw[aj e]at h;rw[aj e.symm];exact nU h
  ·rw[ab e]at h;rw[ab (Ne.symm e)];exact tV h
theorem tX:∀{s t:List M},s≠t->lexK s t=true\/lexK t s=true
 | [],[],n=>absurd rfl n
 | [],_::_,_=>.inl rfl
 | _::_,[],_=>.inr rfl
 | a::s,b::t,n=>by
  rw[lexK,lexK];by_cases e:a=b
  ·rw[aj e,aj e.symm];exact tX λz=>n (by rw[e,z])
  ·rw[ab e,ab (Ne.symm e)];exact qR e
noncomputable def sortS (x:Str):Nat:=if x.cps.toList[0]?=some 63 then 0 else 1
mutual
noncomputable def key:D->List M
 | .str x=>[(sortS x,x,0)]
 | .tup (.str n::ds)=>(2,n,ds.length+1)::keys ds
 | _=>[]
noncomputable def keys:List D->List M
 | []=>[]
 | d::ds=>key d++keys ds
end
mutual
/-- texts and tuples whose first is a text -/
def Fl:D->Prop
 | .str x=>1<=x.cps.toList.length/\x.cps.toList.length<=20
 | .tup (.str _::ds)=>Fls ds
 | _=>False
def Fls:List D->Prop
 | []=>True
 | d::ds=>Fl d/\Fls ds
end
noncomputable def sortD:D->Nat
 | .str x=>sortS x
 | _=>2
mutual
/-- part by part -/
noncomputable def ah:D->D->Bool
 | .str x,.str y=>if sortS x=sortS y then sL x y else decide (sortS x<sortS y)
 | .tup (.str n::ds),.tup (.str m::es)=>if n=m then(if ds.length=es.length then ahs ds es else decide (ds.length<es.length))else sL n m
 | d,e=>decide (sortD d<sortD e)
noncomputable def ahs:List D->List D->Bool
 | d::ds,e::es=>if eqD d e=true then ahs ds es else ah d e
 | _,_=>false
end
def AW (x:Str):sortS x<2:=by unfold sortS;split <;> lia
mutual
theorem y9:∀(d e:D) (s t:List M),Fl d->Fl e->lexK (key d++s) (key e++t)=if eqD d e=true then lexK s t else ah d e
 | .str x,.str y,s,t,_,_=>by
  have a:eqD (.str x) (.str y)=(x == y):=rfl;show(if ((sortS x,x,0):M)=(sortS y,y,0)then lexK s t else ltM (sortS x,x,0) (sortS y,y,0))=_;rw[a];by_cases e:x=y
  ·subst e;rw[aj rfl,aj dV]
  ·rw[ab (λz=>e (by simp at z;exact z.2)),ab (by simpa using e),ah];unfold ltM;dsimp only;by_cases h:sortS x=sortS y
   ·rw[aj h,ab e,aj h]
   ·rw[ab h,ab h]
 | .str x,.tup (.str m::es),s,t,_,_=>by
  have a:eqD (.str x) (.tup (.str m::es))=false:=rfl;have:=AW x;show(if ((sortS x,x,0):M)=(2,m,es.length+1)then _ else ltM (sortS x,x,0) (2,m,es.length+1))=_;rw[a,ab (λz=>by simp at z),ab dw,ah]
  ·unfold ltM;rw[ab (by dsimp only;lia)];rfl
  all_goals (intros;simp_all)
 | .tup (.str n::ds),.str y,s,t,_,_=>by
  have a:eqD (.tup (.str n::ds)) (.str y)=false:=rfl;have:=AW y;show(if ((2,n,ds.length+1):M)=(sortS y,y,0)then _ else ltM (2,n,ds.length+1) (sortS y,y,0))=_;rw[a,ab (λz=>by simp at z),ab dw,ah]
  ·unfold ltM;rw[ab (by dsimp only;lia)];rfl
  all_goals (intros;simp_all)
 | .tup (.str n::ds),.tup (.str m::es),s,t,fd,f=>by
  have a:eqD (.tup (.str n::ds)) (.tup (.str m::es))=((n == m) && eqDs ds es):=rfl;show(if ((2,n,ds.length+1):M)=(2,m,es.length+1)then lexK (keys ds++s) (keys es++t)else ltM (2,n,ds.length+1) (2,m,es.length+1))=_;rw[a,ah];by_cases c:n=m
  ·subst c;by_cases hl:ds.length=es.length
   ·rw[aj (by rw[hl]),aj rfl,aj hl,BZ ds es s t hl fd f];simp
   ·rw[ab (λz=>hl (by simp at z;lia)),aj rfl,ab hl];have:eqDs ds es=false:=by
     cases h:eqDs ds es with
     | false=>rfl
     | true=>rw[iW]at h;simp at h;exact absurd h.2 hl
    rw[this,ab dV];unfold ltM;dsimp only;rw[aj rfl,aj rfl];simp
  ·rw[ab (λz=>c (by simp at z;exact z.1)),ab (by simp[c]),ab c];unfold ltM;dsimp only;rw[aj rfl,ab c]
theorem BZ:∀(ds es:List D) (s t:List M),ds.length=es.length->Fls ds->Fls es->lexK (keys ds++s) (keys es++t)=if eqDs ds es=true then lexK s t else ahs ds es
 | [],[],s,t,_,_,_=>by rw[eqDs,aj rfl];rfl
 | d::ds,e::es,s,t,hl,⟨f1,f2⟩,⟨c,a⟩=>by
  rw[keys,keys,cu,cu,y9 d e _ _ f1 c,BZ ds es s t (by simpa using hl) f2 a,eqDs,ahs];by_cases h:eqD d e=true
  ·rw[aj h,aj h,h,Bool.true_and]
  ·have h':eqD d e=false:=by simpa using h
   rw[ab h,ab h,h',Bool.false_and,ab dw]
 | [],_::_,_,_,h,_,_=>by simp at h
 | _::_,[],_,_,h,_,_=>by simp at h
end
def tY (fd:Fl d)(a:Fl e):lexK (key d) (key e)=(!eqD d e && ah d e):=by have:=y9 d e [] [] fd a;rw[bu,bu]at this;rw[this];cases h:eqD d e <;> simp[lexK]
def RC (fd:Fl d)(c:Fl e)(h:key d=key e):eqD d e=true:=by
 have a:=tY fd c;have b:=y9 d e [] [(0,default,0)] fd c;rw[bu,h]at b;cases q:eqD d e with
 | true=>rfl
 | false =>
  rw[q,ab dw]at b;rw[q,h,pV,<-b]at a;have:∀(s:List M) (m:M),lexK s (s++[m])=true:=by
   intro s m
   induction s with
   | nil=>rfl
   | cons a s f=>rw[List.cons_append,lexK,aj rfl,f]
  rw[this]at a;cases a
def uC (h:H a=some (.tup xs)):isV H (.ref a) (.ty "tuple")=some true:=by unfold isV tyN;simp only[h];rfl
def JV {g:TG}{tb:TS}{D:jA}{c:St}{H:Hp}{a b:Addr}(xs ys:List V)(Pv:Nat->St->Hp->Prop)(C:Pv 0 c H)(hl:∀i c H,i<=min xs.length ys.length->Pv i c H->eI H a xs/\eI H b ys)
  (w:∀i x y T c H,xs[i]?=some x->ys[i]?=some y->Pv i c H->H T=none->g (.ref T) c (upd H T (.tup [x,y])) λf E=>tb {D with nx:=Pv (i+1),ct:=Pv (i+1),bk:=D.nx} f E)
  (hd:∀c H,Pv (min xs.length ys.length) c H->D.nx c H):rD (VQ a b) g tb D c H:=by
 refine⟨λi m c H=>m=min xs.length ys.length - i/\i<=min xs.length ys.length/\Pv i c H,⟨min xs.length ys.length,dV,aw _,C⟩,?_⟩;rintro i m c H ⟨rfl,A,p⟩;obtain⟨j,h⟩:=hl i c H A p;by_cases d:i<min xs.length ys.length
 ·have v:i<xs.length:=bh d (Nat.min_le_left _ _);have u:i<ys.length:=bh d (Nat.min_le_right _ _);refine .inr ⟨⟨xs,ys,xs[i],ys[i],j,h,by simp[v],by simp[u]⟩,Pv (i+1),λl H' q=>⟨min xs.length ys.length - (i+1),dz,rfl,d,q⟩,λz H' y=>?_⟩;obtain⟨T,x,y,rfl,B,rfl,q⟩:=y;obtain⟨r,o⟩:=q xs ys j h;exact w i x y T c H r o p B
 ·have e:i=min xs.length ys.length:=by lia
  subst e;exact .inl ⟨⟨xs,ys,j,h,dz⟩,hd c H p⟩
theorem Reps.get:∀{ds:List D} {vs:List V} {i:Nat} {v:V},Reps H ds vs->vs[i]?=some v->∃d,ds[i]?=some d/\aH H d v
 | [],_,_,_,e,h=>by cases e;simp at h
 | d::_,_,0,_,⟨x,r,e,a,b⟩,h=>by subst e;simp at h;subst h;exact⟨d,rfl,a⟩
 | _::_,_,i+1,_,⟨x,r,e,a,b⟩,h=>by subst e;simp at h;obtain⟨d,f,c⟩:=Reps.get b h;exact⟨d,by simpa using f,c⟩
def Fls.get:∀{ds:List D} {i:Nat} {d:D},Fls ds->ds[i]?=some d->Fl d
 | [],_,_,_,z=>by simp at z
 | _::_,0,_,⟨a,_⟩,h=>by simp at h;subst h;exact a
 | _::_,i+1,_,⟨_,b⟩,h=>Fls.get b (by simpa using h)
def fL:∀{ds:List D} {i:Nat} {d:D},ds[i]?=some d->depD d<=depDs ds
 | [],_,_,h=>by simp at h
 | e::ds,0,_,h=>by simp at h;subst h;rw[depDs];lia
 | e::ds,i+1,_,h=>by have:=fL (ds:=ds) (i:=i) (by simpa using h);rw[depDs];lia
def nE (h:Fl d):(∃x,d = .str x/\1<=x.cps.toList.length/\x.cps.toList.length<=20)\/∃n ds,d = .tup (.str n::ds)/\Fls ds:=by
 unfold Fl at h;split at h
 ·exact .inl ⟨_,rfl,h⟩
 ·exact .inr ⟨_,_,rfl,h⟩
 ·exact absurd h id
noncomputable def opn1 (n z:Str)(d:D):List D:=match d with
 | .tup (.str m::es)=>if m=n then es else [d]
 | d=>if eqD d (.str z)=true then []else [d]
noncomputable def opn (n z:Str)(ds:List D):List D:=ds.flatMap (opn1 n z)
def pQ (n z:Str)(ds:List D)(d:D):opn n z (ds++[d])=opn n z ds++opn1 n z d:=by simp[opn]
def IsTms.get {c:cV}{sm:bL}{os:bA}:∀{ds:List D} {i:Nat} {d:D},IsTms c sm os ds->ds[i]?=some d->aM c sm os d
 | [],_,_,_,z=>by simp at z
 | _::_,0,_,⟨a,_⟩,h=>by simp at h;subst h;exact a
 | _::_,i+1,_,⟨_,b⟩,h=>IsTms.get b (by simpa using h)
def KZ {a:cV}{sm:bL}{os:bA}{d:D}(h:aM a sm os d):(∃x,d = .str x/\(x∈os\/x∈zeros a))\/∃n ds,(d = .tup (.str n::ds)\/d = .lst (.str n::ds))/\nJ a sm n ds.length/\IsTms a sm os ds:=by
 unfold aM at h;split at h
 ·exact .inl ⟨_,rfl,h⟩
 ·exact .inr ⟨_,_,.inl rfl,h⟩
 ·exact .inr ⟨_,_,.inr rfl,h⟩
 ·exact absurd h id
def i8 (h:nJ fx sm n k):1<=k:=by rcases h with⟨h,_⟩|⟨h,_⟩ <;> lia
def gX (h:H a=some (.tup xs)):isV H (.ref a) (.ty "str")=some false:=by unfold isV tyN;simp only[h];rfl
def qV (h:H a=some (.lst xs)):isV H (.ref a) (.ty "str")=some false:=by unfold isV tyN;simp only[h];rfl
def pU:∀{ds:List D} {i:Nat} {d:D},ds[i]?=some d->lvs d<=lvss ds
 | [],_,_,h=>by simp at h
 | e::ds,0,_,h=>by simp at h;subst h;rw[lvss];lia
 | e::ds,i+1,_,h=>by have:=pU (ds:=ds) (i:=i) (by simpa using h);rw[lvss];lia
mutual
theorem oJ {a:cV}{sm:bL}{os:bA}:∀{d:D},aM a sm os d->1<=lvs d
 | .str x,_=>by rw[lvs] <;> simp
 | .tup (.str n::ds),h=>by
  unfold aM at h;have:=dQ h.2;have:=i8 h.1;rw[lvs];lia
 | .lst (.str n::ds),h=>by
  unfold aM at h;have:=dQ h.2;have:=i8 h.1;rw[lvs];lia
 | .non,h=>by unfold aM at h;exact absurd h id
 | .bl _,h=>by unfold aM at h;exact absurd h id
 | .int _,h=>by unfold aM at h;exact absurd h id
 | .tup [],h=>by unfold aM at h;exact absurd h id
 | .lst [],h=>by unfold aM at h;exact absurd h id
 | .tup (.non::_),h=>by unfold aM at h;exact absurd h id
 | .tup (.bl _::_),h=>by unfold aM at h;exact absurd h id
 | .tup (.int _::_),h=>by unfold aM at h;exact absurd h id
 | .tup (.tup _::_),h=>by unfold aM at h;exact absurd h id
 | .tup (.lst _::_),h=>by unfold aM at h;exact absurd h id
 | .lst (.non::_),h=>by unfold aM at h;exact absurd h id
 | .lst (.bl _::_),h=>by unfold aM at h;exact absurd h id
 | .lst (.int _::_),h=>by unfold aM at h;exact absurd h id
 | .lst (.tup _::_),h=>by unfold aM at h;exact absurd h id
 | .lst (.lst _::_),h=>by unfold aM at h;exact absurd h id
theorem dQ {c:cV}{sm:bL}{os:bA}:∀{ds:List D},IsTms c sm os ds->ds.length<=lvss ds
 | [],_=>aw _
 | d::ds,⟨a,b⟩=>by have f:=oJ a;have e:=dQ b;rw[lvss,ar];lia
end
mutual
theorem HD:∀{d e:D},Fl d->Fl e->eqD d e=true->d=e
 | .str x,.str y,_,_,h=>by
  have h:(x == y)=true:=h;rw[eq_of_beq h]
 | .tup (.str n::ds),.tup (.str m::es),fd,a,h=>by
  have h:((n == m) && eqDs ds es)=true:=h;rw[Bool.and_eq_true]at h;unfold Fl at fd a;rw[eq_of_beq h.1,N2 fd a h.2]
 | .str _,.tup (.str _::_),_,_,h=>by cases (show false=true from h)
 | .tup (.str _::_),.str _,_,_,h=>by cases (show false=true from h)
theorem N2:∀{ds es:List D},Fls ds->Fls es->eqDs ds es=true->ds=es
 | [],[],_,_,_=>rfl
 | d::ds,e::es,⟨a,b⟩,⟨f,c⟩,h=>by
  rw[eqDs,Bool.and_eq_true]at h;rw[HD a f h.1,N2 b c h.2]
 | [],_::_,_,_,h=>by cases (show false=true from h)
 | _::_,[],_,_,h=>by cases (show false=true from h)
end
def NM (fd:Fl d)(a:Fl e)(h:key d=key e):d=e:=HD fd a (RC fd a h)
def leK (d e:D):Prop:=lexK (key e) (key d)=false
def NK (fd:Fl d)(f:Fl e)(c:leK d e)(a:leK e d):d=e:=by
 by_cases k:key d=key e
 ·exact NM fd f k
 ·rcases tX k with h|h
  ·rw[a]at h;cases h
  ·rw[c]at h;cases h
def tW:∀{a b c:List M},lexK a b=false->lexK b c=false->lexK a c=false:=by
 have d:∀{a b c:M},ltM a b=true->ltM b c=true->ltM a c=true:=by
  rintro⟨v,j,C⟩ ⟨u,r,B⟩ ⟨q,i,A⟩ h k;unfold ltM at h k|-;dsimp only at h k|-;by_cases f:v=u
  ·subst f;rw[aj rfl]at h;by_cases e:v=q
   ·subst e;rw[aj rfl]at k|-;by_cases f1:j=r
    ·subst f1;rw[aj rfl]at h;by_cases f2:j=i
     ·subst f2;rw[aj rfl]at k|-;have:=bx h;have:=bx k;exact bj (p:=_) dz
     ·rw[ab f2]at k|-;exact k
    ·rw[ab f1]at h;by_cases f2:r=i
     ·subst f2;rw[ab f1];exact h
     ·rw[ab f2]at k;have t:sL j i=true:=bj (List.lt_trans (bx h) (bx k));by_cases f3:j=i
      ·subst f3;rw[TH]at t;cases t
      ·rw[ab f3];exact t
   ·rw[ab e]at k|-;exact k
  ·rw[ab f]at h;have h:=bx h;by_cases e:u=q
   ·subst e;rw[ab f];exact bj h
   ·rw[ab e]at k;have k:=bx k;rw[ab dz];exact bj (p:=_) dz
 intro a
 induction a with
 | nil =>
  intro b c h k;cases b with
  | nil=>exact k
  | cons y b=>cases h
 | cons x a w =>
  intro b c h k;cases c with
  | nil=>rfl
  | cons z c =>
   cases b with
   | nil=>cases k
   | cons y b =>
    rw[lexK]at h k|-;by_cases f:x=y
    ·subst f;rw[aj rfl]at h;by_cases e:x=z
     ·rw[aj e]at k|-;exact w h k
     ·rw[ab e]at k|-;exact k
    ·rw[ab f]at h;have m:ltM y x=true:=(qR f).resolve_left (by rw[h];decide);by_cases e:y=z
     ·subst e;rw[ab f];exact h
     ·rw[ab e]at k;have l:ltM z y=true:=(qR e).resolve_left (by rw[k];decide);have g:=d l m;by_cases o:x=z
      ·subst o;have:=tV g;rw[g]at this;cases this
      ·rw[ab o];exact tV g
def qS (h:leK a b)(k:leK b c):leK a c:=tW k h
theorem jM:∀{l m:List D},(∀d∈l,Fl d)->l.Perm m->l.Pairwise leK->m.Pairwise leK->l=m
 | [],m,_,p,_,_=>(List.nil_perm.mp p).symm
 | a::l,[],_,p,_,_=>absurd (List.perm_nil.mp p) dV
 | a::l,b::m,f,p,s,t=>by
  have o:∀d∈b::m,Fl d:=λd hd=>f d (p.mem_iff.mpr hd);obtain⟨g,s2⟩:=List.pairwise_cons.mp s;obtain⟨t1,c⟩:=List.pairwise_cons.mp t;have e:a=b:=by
   have j:a∈b::m:=p.mem_iff.mp ax;have i:b∈a::l:=p.mem_iff.mpr ax;obtain h|h:=cz.mp j
   ·exact h
   ·obtain k|k:=cz.mp i
    ·exact k.symm
    ·exact NK (f a ax) (o b ax) (g b k) (t1 a h)
  subst e;rw[jM (λd hd=>f d (bc _ hd)) (List.perm_cons a |>.mp p) s2 c]
noncomputable def insA (d:D):List D->List D
 | []=>[d]
 | e::l=>if ah d e=true then d::e::l else e::insA d l
def nW (d:D):∀l:List D,(insA d l).Perm (d::l)
 | []=>.refl _
 | e::l=>by
  unfold insA;by_cases h:ah d e=true
  ·rw[aj h]
  ·rw[ab h];exact((nW d l).cons e).trans (.swap d e l)
def VE (fd:Fl d)(a:Fl e):ah d e=true->lexK (key d) (key e)=true\/d=e:=λh=>by
 rw[tY fd a,h];cases q:eqD d e with
 | false=>exact .inl rfl
 | true=>exact .inr (HD fd a q)
theorem rH (fd:Fl d):∀{l:List D},(∀e∈l,Fl e)->l.Pairwise leK->(insA d l).Pairwise leK
 | [],_,_=>List.pairwise_singleton _ _
 | e::l,f,s=>by
  obtain⟨c,s2⟩:=List.pairwise_cons.mp s;have g:=f e ax;unfold insA;by_cases h:ah d e=true
  ·rw[aj h];have i:leK d e:=by
    rcases VE fd g h with q|q
    ·exact nU q
    ·subst q;exact pV _
   refine List.pairwise_cons.mpr ⟨λx a=>?_,s⟩;obtain k|k:=cz.mp a
   ·subst k;exact i
   ·exact qS i (c x k)
  ·rw[ab h];have m:leK e d:=by
    have:lexK (key d) (key e)=false:=by rw[tY fd g];simp[h]
    exact this
   refine List.pairwise_cons.mpr ⟨λx a=>?_,rH fd (λy j=>f y (bc _ j)) s2⟩;rcases cz.mp ((nW d l).mem_iff.mp a)with k|k
   ·subst k;exact m
   ·exact c x k
noncomputable def fA (ds:List D):List D:=ds.foldl (λl d=>insA d l) []
noncomputable def zr (sm:bL)(n:Str):Option Str:=(sm.find? λr=>decide (r.1=n)).map (·.2)
noncomputable def one (n z:Str)(l:List D):D:=match l with
 | []=>.str z
 | [d]=>d
 | l=>.tup (.str n::l)
noncomputable def knot (sm:bL)(n:Str)(ps:List D):D:=match zr sm n with
 | none=>.tup (.str n::ps)
 | some z=>one n z (fA (opn n z ps))
mutual
noncomputable def flt (sm:bL):D->D
 | .tup (.str n::ds)=>knot sm n (flts sm ds)
 | .lst (.str n::ds)=>knot sm n (flts sm ds)
 | d=>d
noncomputable def flts (sm:bL):List D->List D
 | []=>[]
 | d::ds=>flt sm d::flts sm ds
end
def cF (sm:bL):∀ds:List D,flts sm ds=ds.map (flt sm)
 | []=>rfl
 | d::ds=>by rw[flts,cF sm ds];rfl
def xA:∀(ds l:List D),(ds.foldl (λl d=>insA d l) l).Perm (ds++l)
 | [],l=>.refl _
 | d::ds,l=>(xA ds (insA d l)).trans (((nW d l).append_left ds).trans (List.perm_middle))
def bH (ds:List D):(fA ds).Perm ds:=by have:=xA ds [];simpa [fA] using this
mutual
noncomputable def sz:D->Nat
 | .tup (_::ds)=>max 1 (szs ds)
 | .lst (_::ds)=>max 1 (szs ds)
 | _=>1
noncomputable def szs:List D->Nat
 | []=>0
 | d::ds=>sz d+szs ds
end
def DF:∀d:D,1<=sz d:=by intro d;unfold sz;split <;> lia
def rY:∀ds:List D,ds.length<=szs ds
 | []=>ac _
 | d::ds=>by rw[szs,ar];have:=DF d;have:=rY ds;lia
def x8:∀ds es:List D,szs (ds++es)=szs ds+szs es
 | [],es=>by simp[szs]
 | d::ds,es=>by rw[List.cons_append,szs,x8 ds es,szs];lia
def K6 (p:l.Perm m):szs l=szs m:=by
 induction p with
 | nil=>rfl
 | cons x _ c=>rw[szs,szs,c]
 | swap x y l=>rw[szs,szs,szs,szs];lia
 | trans _ _ a b=>exact a.trans b
def xH:∀ds es:List D,depDs (ds++es)=max (depDs ds) (depDs es)
 | [],es=>by simp[depDs]
 | d::ds,es=>by rw[List.cons_append,depDs,xH ds es,depDs,Nat.max_assoc]
def ET (p:l.Perm m):depDs l=depDs m:=by
 induction p with
 | nil=>rfl
 | cons x _ c=>rw[depDs,depDs,c]
 | swap x y l=>rw[depDs,depDs,depDs,depDs,Nat.max_left_comm]
 | trans _ _ a b=>exact a.trans b
def QF (n z:Str)(d:D):szs (opn1 n z d)<=sz d:=by
 unfold opn1;split
 ·split
  ·rw[sz];lia
  ·rw[szs,szs];lia
 ·split
  ·rw[szs];lia
  ·rw[szs,szs];lia
def aY (n z:Str)(d:D)(ds:List D):opn n z (d::ds)=opn1 n z d++opn n z ds:=by simp[opn]
def DX (n z:Str):∀ds:List D,szs (opn n z ds)<=szs ds
 | []=>ac _
 | d::ds=>by rw[aY,x8,szs];have:=QF n z d;have:=DX n z ds;lia
def MP (n z:Str)(d:D):depDs (opn1 n z d)<=depD d:=by
 unfold opn1;split
 ·split
  ·rw[depD,depDs];lia
  ·rw[depDs,depDs];lia
 ·split
  ·rw[depDs];lia
  ·rw[depDs,depDs];lia
def GC (n z:Str):∀ds:List D,depDs (opn n z ds)<=depDs ds
 | []=>ac _
 | d::ds=>by rw[aY,xH,depDs];have:=MP n z d;have:=GC n z ds;lia
def T7 (n z:Str)(l:List D):sz (one n z l)<=max 1 (szs l):=by
 unfold one;split
 ·show sz (.str z)<=_;unfold sz;lia
 ·rw[szs,szs];lia
 ·rw[sz];lia
def GU (sm:bL)(n:Str)(ps:List D):sz (knot sm n ps)<=max 1 (szs ps):=by
 unfold knot;split
 ·rw[sz];lia
 ·rename_i z _;have a:=T7 n z (fA (opn n z ps));rw[K6 (bH _)]at a;have c:=DX n z ps
  lia
def QM (n z:Str)(l:List D):depD (one n z l)<=depDs l+1:=by
 unfold one;split
 ·show(0:Nat)<=_;lia
 ·rw[depDs,depDs];lia
 ·rw[depD,depDs,show depD (.str n)=0 from rfl];lia
def BX (sm:bL)(n:Str)(ps:List D):depD (knot sm n ps)<=depDs ps+1:=by
 unfold knot;split
 ·rw[depD,depDs,show depD (.str n)=0 from rfl];lia
 ·rename_i z _;have a:=QM n z (fA (opn n z ps));rw[ET (bH _)]at a;have c:=GC n z ps
  lia
mutual
theorem U4 (sm:bL):∀d:D,sz (flt sm d)<=sz d
 | .tup (.str n::ds)=>by rw[flt,sz];have:=GU sm n (flts sm ds);have:=p0 sm ds;lia
 | .lst (.str n::ds)=>by rw[flt,sz];have:=GU sm n (flts sm ds);have:=p0 sm ds;lia
 | .non | .bl _ | .int _ | .str _ | .tup [] | .lst [] | .tup (.non::_) | .tup (.bl _::_) | .tup (.int _::_) | .tup (.tup _::_) | .tup (.lst _::_) | .lst (.non::_) | .lst (.bl _::_) | .lst (.int _::_) | .lst (.tup _::_) | .lst (.lst _::_)=>by unfold flt;exact ac _
theorem p0 (sm:bL):∀ds:List D,szs (flts sm ds)<=szs ds
 | []=>ac _
 | d::ds=>by rw[flts,szs,szs];have:=U4 sm d;have:=p0 sm ds;lia
end
mutual
theorem G9 (sm:bL):∀d:D,depD (flt sm d)<=depD d
 | .tup (.str n::ds)=>by rw[flt,depD,depDs,show depD (.str n)=0 from rfl];have:=BX sm n (flts sm ds);have:=nA sm ds;lia
 | .lst (.str n::ds)=>by rw[flt,depD,depDs,show depD (.str n)=0 from rfl];have:=BX sm n (flts sm ds);have:=nA sm ds;lia
 | .non | .bl _ | .int _ | .str _ | .tup [] | .lst [] | .tup (.non::_) | .tup (.bl _::_) | .tup (.int _::_) | .tup (.tup _::_) | .tup (.lst _::_) | .lst (.non::_) | .lst (.bl _::_) | .lst (.int _::_) | .lst (.tup _::_) | .lst (.lst _::_)=>by unfold flt;exact ac _
theorem nA (sm:bL):∀ds:List D,depDs (flts sm ds)<=depDs ds
 | []=>ac _
 | d::ds=>by rw[flts,depDs,depDs];have:=G9 sm d;have:=nA sm ds;lia
end
def bQ:∀{ds:List D},Fls ds->∀d∈ds,Fl d
 | _::_,⟨a,b⟩,d,h=>by
  obtain rfl|h:=cz.mp h
  ·exact a
  ·exact bQ b d h
def fB:∀{ds:List D},(∀d∈ds,Fl d)->Fls ds
 | [],_=>trivial
 | d::ds,h=>⟨h d ax,fB λe k=>h e (bc _ k)⟩
def QJ (h:Fl d):Fls (opn1 n z d):=by
 unfold opn1;split
 ·rename_i m es;have k:Fls es:=by unfold Fl at h;exact h
  split
  ·exact k
  ·exact⟨h,trivial⟩
 ·split
  ·exact trivial
  ·exact⟨h,trivial⟩
def qN (h:Fls ds):Fls (opn n z ds):=fB λd k=>by obtain⟨e,c,a⟩:=List.mem_flatMap.mp k;exact bQ (QJ (bQ h e c)) d a
mutual
def Nb:D->Prop
 | .tup (_::ds)=>ds≠[]/\Nbs ds
 | _=>True
def Nbs:List D->Prop
 | []=>True
 | d::ds=>Nb d/\Nbs ds
end
def sF:∀{ds:List D},Nbs ds->∀d∈ds,Nb d
 | _::_,⟨a,b⟩,d,h=>by
  obtain rfl|h:=cz.mp h
  ·exact a
  ·exact sF b d h
def D8:∀{ds:List D},(∀d∈ds,Nb d)->Nbs ds
 | [],_=>trivial
 | d::ds,h=>⟨h d ax,D8 λe k=>h e (bc _ k)⟩
def QI (h:Nb d):Nbs (opn1 n z d):=by
 unfold opn1;split
 ·rename_i m es;have k:Nbs es:=by unfold Nb at h;exact h.2
  split
  ·exact k
  ·exact⟨h,trivial⟩
 ·split
  ·exact trivial
  ·exact⟨h,trivial⟩
def TX (h:Nbs ds):Nbs (opn n z ds):=D8 λd k=>by obtain⟨e,c,a⟩:=List.mem_flatMap.mp k;exact sF (QI (sF h e c)) d a
def UA (h:∀d∈l,Nb d):Nb (one n z l):=by
 unfold one;split
 ·unfold Nb;exact trivial
 ·exact h _ ax
 ·rename_i l a c;unfold Nb;exact⟨a,D8 h⟩
def GW (h:Nbs ps)(ne:ps≠[]):Nb (knot sm n ps):=by
 unfold knot;split
 ·unfold Nb;exact⟨ne,h⟩
 ·exact UA λd k=>sF (TX h) d ((bH _).mem_iff.mp k)
def QH (f:Fl d)(b:Nb d):opn1 n ("" : Str) d≠[]:=by
 unfold opn1;split
 ·split
  ·unfold Nb at b;exact b.1
  ·exact λz=>nomatch z
 ·split
  ·rename_i e;exfalso;cases d with
   | str x =>
    have e:(x == ("" : Str))=true:=e;have e:=eq_of_beq e;subst e;unfold Fl at f;exact absurd f.1 dw
   | tup xs=>cases e
   | _=>unfold Fl at f;exact f
  ·exact λz=>nomatch z
def MN:∀{ps:List D},Fls ps->Nbs ps->ps≠[]->opn n ("" : Str) ps≠[]
 | [],_,_,h=>absurd rfl h
 | d::ps,⟨f,_⟩,⟨b,_⟩,_=>by rw[aY];exact λz=>QH f b (List.append_eq_nil_iff.mp z).1
def y7 (hz:∀r∈sm,r.2=("" : Str)\/Fl (.str r.2))(h:Fls ps)(b:Nbs ps)(ne:ps≠[]):Fl (knot sm n ps):=by
 unfold knot;split
 ·unfold Fl;exact h
 ·rename_i z e;have a:z=("" : Str)\/Fl (.str z):=by unfold zr at e;obtain⟨r,c,rfl⟩:=Option.map_eq_some_iff.mp e;exact hz r (List.mem_of_find?_eq_some c)
  have f1:∀d∈fA (opn n z ps),Fl d:=λd k=>bQ (qN h) d ((bH _).mem_iff.mp k);unfold one;split
  ·rename_i f;rcases a with rfl|a
   ·exfalso;have:=(bH (opn n ("" : Str) ps)).length_eq;rw[f]at this;exact MN h b ne (List.length_eq_zero_iff.mp this.symm)
   ·exact a
  ·rename_i e;exact f1 _ (e ▸ ax)
  ·unfold Fl;exact fB f1
mutual
/-- a term: leaves that can be told,names with parts -/
def Tm:D->Prop
 | .str x=>1<=x.cps.toList.length/\x.cps.toList.length<=20
 | .tup (.str _::ds)=>ds≠[]/\Tms ds
 | .lst (.str _::ds)=>ds≠[]/\Tms ds
 | _=>False
def Tms:List D->Prop
 | []=>True
 | d::ds=>Tm d/\Tms ds
end
def O9 (h:Tm d):(∃x,d = .str x/\1<=x.cps.toList.length/\x.cps.toList.length<=20)\/∃n ds,(d = .tup (.str n::ds)\/d = .lst (.str n::ds))/\ds≠[]/\Tms ds:=by
 unfold Tm at h;split at h
 ·exact .inl ⟨_,rfl,h⟩
 ·exact .inr ⟨_,_,.inl rfl,h⟩
 ·exact .inr ⟨_,_,.inr rfl,h⟩
 ·exact absurd h id
def sM (h:ds≠[]):flts sm ds≠[]:=by rw[cF];exact λz=>h (List.map_eq_nil_iff.mp z)
mutual
theorem nB (hz:∀r∈sm,r.2=("" : Str)\/Fl (.str r.2)):∀{d:D},Tm d->Fl (flt sm d)/\Nb (flt sm d)
 | .tup (.str n::ds),h=>by
  unfold Tm at h;obtain⟨a,b⟩:=g8 hz h.2;rw[flt];exact⟨y7 hz a b (sM h.1),GW b (sM h.1)⟩
 | .lst (.str n::ds),h=>by
  unfold Tm at h;obtain⟨a,b⟩:=g8 hz h.2;rw[flt];exact⟨y7 hz a b (sM h.1),GW b (sM h.1)⟩
 | .str x,h=>by unfold flt;unfold Tm at h;unfold Fl Nb;exact⟨h,trivial⟩
 | .non,h | .bl _,h | .int _,h | .tup [],h | .lst [],h | .tup (.non::_),h | .tup (.bl _::_),h | .tup (.int _::_),h | .tup (.tup _::_),h | .tup (.lst _::_),h | .lst (.non::_),h | .lst (.bl _::_),h | .lst (.int _::_),h | .lst (.tup _::_),h | .lst (.lst _::_),h=>by unfold Tm at h;exact absurd h id
theorem g8 (hz:∀r∈sm,r.2=("" : Str)\/Fl (.str r.2)):∀{ds:List D},Tms ds->Fls (flts sm ds)/\Nbs (flts sm ds)
 | [],_=>by rw[flts];exact⟨trivial,trivial⟩
 | d::ds,⟨a,b⟩=>by rw[flts];exact⟨⟨(nB hz a).1,(g8 hz b).1⟩,⟨(nB hz a).2,(g8 hz b).2⟩⟩
end
def zH (hz:∀r∈sm,r.2=("" : Str)\/Fl (.str r.2))(h:Tms ds):Fls (flts sm ds):=(g8 hz h).1
def vZ (so:aP fx sm)(h:x∈zeros fx):1<=x.cps.toList.length/\x.cps.toList.length<=20:=by unfold zeros at h;obtain⟨r,a,rfl⟩:=da.mp h;have:=so.nm r.1 (cp _ (List.mem_map_of_mem ((de.mp a).1)));exact⟨this.1,aq this.2.1 dw⟩
def cX (so:aP fx sm):∀r∈sm,r.2=("" : Str)\/Fl (.str r.2):=λr a=>by
 by_cases e:r.2=("" : Str)
 ·exact .inl e
 ·refine .inr ?_;unfold Fl;exact vZ so (so.nought r a e)
mutual
theorem kJ {f:cV}{sm:bL}{os:bA}(so:aP f sm)(ho:∀x∈os,cB x):∀{d:D},aM f sm os d->Tm d/\sz d=lvs d
 | .str x,h=>by
  unfold aM at h;refine⟨?_,by unfold sz lvs;rfl⟩;unfold Tm;rcases h with h|h
  ·obtain⟨l,rfl,c,e,_⟩:=ho x h;exact⟨dV,by simp;lia⟩
  ·exact vZ so h
 | .tup (.str n::ds),h=>by
  unfold aM at h;obtain⟨a,b⟩:=lZ so ho h.2;have c:=i8 h.1;have e:=dQ h.2;refine⟨?_,by rw[sz,lvs,b];lia⟩;unfold Tm;exact⟨λz=>by rw[z]at c;simp at c,a⟩
 | .lst (.str n::ds),h=>by
  unfold aM at h;obtain⟨a,b⟩:=lZ so ho h.2;have c:=i8 h.1;have e:=dQ h.2;refine⟨?_,by rw[sz,lvs,b];lia⟩;unfold Tm;exact⟨λz=>by rw[z]at c;simp at c,a⟩
 | .non,h | .bl _,h | .int _,h | .tup [],h | .lst [],h | .tup (.non::_),h | .tup (.bl _::_),h | .tup (.int _::_),h | .tup (.tup _::_),h | .tup (.lst _::_),h | .lst (.non::_),h | .lst (.bl _::_),h | .lst (.int _::_),h | .lst (.tup _::_),h | .lst (.lst _::_),h=>by unfold aM at h;exact absurd h id
theorem lZ {c:cV}{sm:bL}{os:bA}(so:aP c sm)(ho:∀x∈os,cB x):∀{ds:List D},IsTms c sm os ds->Tms ds/\szs ds=lvss ds
 | [],_=>⟨trivial,rfl⟩
 | d::ds,⟨a,b⟩=>by obtain⟨h,g⟩:=kJ so ho a;obtain⟨f,e⟩:=lZ so ho b;exact⟨⟨h,f⟩,by rw[szs,lvss,g,e]⟩
end
def iP (x:V)(xs:List V):cutV (x::xs) (some 1) none=xs:=by unfold cutV HT.sIx;simp
def fP.prs:∀{sm:bL} {sv:List V},fP H sm sv->sv.map (prV H)=(sm.map λr=>((.inr r.1,V.str r.2):jF×V)).map (λa=>some (kV a.1,a.2))
 | [],_,e=>by cases e;rfl
 | r::l,_,⟨t,us,e,h,q⟩=>by subst e;rw[bg,fP.prs q];unfold prV;simp only[h];rfl
theorem oS:∀(more a:List (jF×V)),((a++more).map (·.1)).Nodup->kF a more=a++more
 | [],a,_=>by simp[kF]
 | p::r,a,h=>by
  have e:putK a p.1 p.2=a++[p]:=by unfold putK;rw[ab];intro z;obtain⟨y,d,c⟩:=List.any_eq_true.mp z;rw[az,bg]at h;exact(List.nodup_append.mp h).2.2 y.1 (List.mem_map_of_mem d) p.1 ax (by simpa using c)
  show kF (putK a p.1 p.2) r=_;rw[e,oS r (a++[p]) (by simpa using h)];simp
def tT {sm:bL}(nd:(sm.map (·.1)).Nodup):kF [] (sm.map λr=>((.inr r.1,V.str r.2):jF×V))=sm.map λr=>(.inr r.1,V.str r.2):=by
 rw[oS]
 ·rfl
 ·rw[List.nil_append,cs];exact List.pairwise_map.mpr ((List.pairwise_map.mp nd).imp λh e=>h (Sum.inr.inj e))
def qG (n:Str):∀sm:bL,valV (sm.map λr=>((.inr r.1,V.str r.2):jF×V)) (.inr n)=(zr sm n).map V.str
 | []=>rfl
 | r::l=>by
  by_cases e:r.1=n
  ·rw[bg,oY (by rw[e])];simp[zr,e]
  ·rw[bg,oZ (λz=>e (by cases z;rfl)),qG n l];simp[zr,e]
mutual
theorem aH.tups (s:aN H H'):∀{d:D} {v:V},Fl d->aH H d v->aH H' d v
 | .str x,v,_,h=>h
 | .tup (.str n::ds),v,f,⟨a,vs,e,i,x,r,j,c,g⟩=>⟨a,vs,e,s _ _ i,x,r,j,c,Reps.tups s (by unfold Fl at f;exact f) g⟩
 | .non,_,f,_ | .bl _,_,f,_ | .int _,_,f,_ | .lst _,_,f,_ | .tup [],_,f,_ | .tup (.non::_),_,f,_ | .tup (.bl _::_),_,f,_ | .tup (.int _::_),_,f,_ | .tup (.tup _::_),_,f,_ | .tup (.lst _::_),_,f,_=>by unfold Fl at f;exact absurd f id
theorem Reps.tups (s:aN H H'):∀{ds:List D} {vs:List V},Fls ds->Reps H ds vs->Reps H' ds vs
 | [],_,_,h=>h
 | _::_,_,⟨a,b⟩,⟨x,r,e,d,c⟩=>⟨x,r,e,aH.tups s a d,Reps.tups s b c⟩
end
def K5 (i:Nat)(l:List D):szs (l.take i)<=szs l:=by
 have:=x8 (l.take i) (l.drop i);rw[List.take_append_drop]at this
 lia
def MV:∀{l:List D},1<l.length->one n z l = .tup (.str n::l)
 | [],h=>by simp at h
 | [_],h=>by simp at h
 | _::_::_,_=>rfl
def Reps.rev:∀{ds:List D} {vs:List V},Reps H ds vs->Reps H ds.reverse vs.reverse
 | [],_,e=>by cases e;rfl
 | d::ds,_,⟨x,r,e,a,b⟩=>by subst e;rw[List.reverse_cons,List.reverse_cons];exact Reps.snoc a (Reps.rev b)
section
variable {P:eg}{w:eh}{K:d6}{mg:jD}{base:Heap}
noncomputable def mulO (a:cV)(n:Str):Option Int:=(a.find? λr=>decide (r.1=n)).map (·.2)
noncomputable def mulV (a:cV)(n:Str):V:=((mulO a n).map V.int).getD .non
noncomputable def nulV (sm:bL)(n:Str):V:=((zr sm n).map V.str).getD .non
def KP (n:Str):∀a:cV,valV (a.map λr=>((.inr r.1,V.int r.2):jF×V)) (.inr n)=(mulO a n).map V.int
 | []=>rfl
 | r::l=>by
  by_cases e:r.1=n
  ·rw[bg,oY (by rw[e])];simp[mulO,e]
  ·rw[bg,oZ (λz=>e (by cases z;rfl)),KP n l];simp[mulO,e]
structure iK (K:d6)(C:Addr)(fx:cV)(sm:bL)(H:Hp)(g:Addr):Prop where
 cls:FC K C
 n1:iL K C "many_by_name"
 n2:iL K C "nought_by_name"
 ex:∃dx fs dm dn,H g=some (.ins C dx fs)/\fs.lookup ("many" : Str)=none/\fs.lookup ("nought" : Str)=none/\fs.lookup ("many_by_name" : Str)=some (.ref dm)/\fs.lookup ("nought_by_name" : Str)=some (.ref dn) /\
  H dm=some (.dK (fx.map λr=>(.inr r.1,.int r.2)))/\H dn=some (.dK (sm.map λr=>(.inr r.1,.str r.2)))
def iK.same (h:iK K C fx sm H g)(s:aA H H'):iK K C fx sm H' g:=by obtain⟨a,b,c,o,fs,q,dn,m,l,j,i,f,e,d⟩:=h;exact⟨a,b,c,o,fs,q,dn,s _ _ m,l,j,i,f,s _ _ e,s _ _ d⟩
def DJ (K:d6)(C:Addr):Sp:=λvs H Q _=>∃(g:Addr) (n:Str) (fx:cV) (sm:bL),vs=[.ref g,.str n]/\iK K C fx sm H g/\Q (mulV fx n) H
def QW (F:HX K "many" "Signs.many" dE f fd)(T:Txt mg):iX P w K mg base 1 f fd dE (DJ K C):=by
 refine F.okL vK λ_ _ _ _ _ _ _ _ _ e h=>?_;obtain⟨g,n,B,sm,rfl,⟨r,o,E,l,fs,m,dn,j,A,z,i,v,a,u⟩,q⟩:=h;refine⟨_,(aE (aF (jW (fE K T.n_isinstance (pv 1) T.n_str) (BH (ak (cg dw _) e) (DT (pv 0) rfl) (pv 1) ⟨rfl,rfl,rfl,rfl⟩) eZ))),?_⟩
 ac_nf
 have d:=lC.k (k:=.inr n) a;rw[KP]at d;exact⟨_,rfl,_,_,true,rfl,rfl,_,rfl,aW (λ_=>⟨_,rfl,g,C,l,fs,_,rfl,j,r,o,i,m,rfl,.inl ⟨_,.inl a⟩,_,rfl,_,d,q⟩) λc=>nomatch c⟩
def kM (K:d6)(C:Addr):Sp:=λvs H Q _=>∃(g:Addr) (n:Str) (fx:cV) (sm:bL),vs=[.ref g,.str n]/\iK K C fx sm H g/\Q (nulV sm n) H
def JE (F:HX K "nought" "Signs.nought" cL f fd)(T:Txt mg):iX P w K mg base 1 f fd cL (kM K C):=by
 refine F.okL rP λ_ _ _ _ _ _ _ _ _ e h=>?_;obtain⟨g,n,A,sm,rfl,⟨o,E,m,l,fs,B,dn,j,z,v,u,i,r,a⟩,q⟩:=h;refine⟨_,(aE (aF (jW (fE K T.n_isinstance (pv 1) T.n_str) (BH (ak (cg dw _) e) (DT (pv 0) rfl) (pv 1) ⟨rfl,rfl,rfl,rfl⟩) eZ))),?_⟩
 ac_nf
 have d:=lC.k (k:=.inr n) a;rw[qG]at d;exact⟨_,rfl,_,_,true,rfl,rfl,_,rfl,aW (λ_=>⟨_,rfl,g,C,l,fs,_,rfl,j,o,m,i,dn,rfl,.inl ⟨_,.inl a⟩,_,rfl,_,d,q⟩) λc=>nomatch c⟩
def V1 (h:isWd c):inTx "abcdefghijklmnopqrstuvwxyz0123456789" c=true:=by
 have a:∀j:Fin 26,inTx "abcdefghijklmnopqrstuvwxyz0123456789" (97+j.1)=true:=by decide +kernel
 have b:∀j:Fin 10,inTx "abcdefghijklmnopqrstuvwxyz0123456789" (48+j.1)=true:=by decide +kernel
 unfold isWd at h;rcases h with h|h
 ·have:=a ⟨c - 97,dz⟩;rw[show 97+(c - 97)=c by lia]at this;exact this
 ·have:=b ⟨c - 48,dz⟩;rw[show 48+(c - 48)=c by lia]at this;exact this
def BU (h:z.length<=sizeLine):lenV H (.str z)=some z.length:=aj h
def zA (h:z.length<=sizeLine):ixV H (.str z) (.int i)=(atI z.cps.toList i).map λc=>.str ⟨#[c]⟩:=aj h
def LA:Sp:=λvs H Q _=>∃x:Str,vs=[.str x]/\(cB x\/lV x)/\∀H',aA H H'->(cB x->Q (.bl true) H')/\(lV x->Q (.bl false) H')
def eqSC {i j:Str}{a:St}{H:Hp}{Q:VK}(q:Q (.bl (decide (i=j))) H):tC (.str j) a H λy c=>rEqD (.str i) y c Q:=(Eq.mpr rEqD_ss q:rEqD (.str i) (.str j) H Q)
def QN (F:iE K "is_wish" kP f fd)(T:Txt mg):iX P w K mg base 1 f fd kP LA:=by
 refine F.okL tE λ_ _ _ _ H _ _ _ _ N h=>?_;obtain⟨x,rfl,m,q⟩:=h;refine⟨_,(pss2 (bC (PW.pt (j6 (cS (fE K T.n_isinstance (pv 0) T.n_str)) (iI (cS (kT mR mR aB (cW bK T.n_len (pa1 (pv 0))) (fW T.c_LONGEST_WISH rfl)))))) (aE (aF jY)) aG) (aF (DU (fN (eA N) (aV (pv 0) aB) cI) (tM (cW (qY rfl) T.n_all (pa1 (jX (bD.of tE ["sign"] [none]) (L6 (dM TC (pv 0) (bU aB) cH)) (bV (i:=0) (cT ["sign"]) rfl (Or.inl rfl)) cU (fN qO (pv 0) (fW T.c_WISH_SIGNS rfl) (by with_unfolding_all rfl))))))))),?_⟩
 ac_nf
 have hl:x.length<=9:=by
  rcases m with⟨l,rfl,_,S,_⟩|h
  ·show(63::l).toArray.size<=9;rw[ai,ar];lia
  ·have:=h.2.1;rw[bw]at this;exact aq this dw
 have hz:x.length<=sizeLine:=aq hl dw;refine⟨_,rfl,_,_,true,rfl,rfl,_,rfl,aW (λz=>Bool.noConfusion z) λ_=>⟨_,rfl,_,.int x.length,rfl,by dsimp only;rw[BU hz];rfl,_,_,rfl,rfl,_,rfl,aW (λA=>⟨_,_,rfl,rfl,_,rfl,aW (λG=>?_) λG=>?_⟩) λA=>⟨_,rfl,aW (λ_=>?_) λz=>Bool.noConfusion z⟩⟩⟩
 ·simp at G;lia
 ·rcases m with B|g
  ·obtain⟨l,rfl,U,S,C⟩:=id B;have u:(Str.mk (63::l).toArray).length=l.length+1:=by show(63::l).toArray.size=_;rw[ai,ar]
   have J:=λH' I=>(q H' I).1 B;have L:ixV H (.str ⟨(63::l).toArray⟩) (.int 0)=some (.str ⟨#[63]⟩):=by rw[zA hz];show(atI (63::l).toArray.toList 0).map _=_;rw[List.toList_toArray,atI_zero];rfl
   have v:decide ((⟨#[63]⟩:Str)=Str.ofString "?")=true:=by decide +kernel
   have E:tl1 ⟨(63::l).toArray⟩=⟨l.toArray⟩:=by unfold tl1;simp
   refine⟨_,rfl,_,L,eqSC ⟨_,rfl,aW (λ_=>⟨_,rfl,1,rfl,⟨(63::l).toArray⟩,rfl,rfl,rfl,by rw[u];lia,hz,tl1 ⟨(63::l).toArray⟩,rfl,?_,?_⟩) λz=>absurd v (by rw[z];decide)⟩⟩
   ·rw[E];simp only[List.all_toArray,List.all_eq_true,decide_eq_true_eq];intro c a;have:=C c a;unfold isWd at this
    lia
   ·rw[E];refine xK (λi d j H'=>H'=H/\d=(List.replicate i true).map V.bl/\i<=8/\∃o:Option V,j=[o]) ⟨rfl,rfl,dw,none,rfl⟩ ?_ ?_
    ·rintro i c d j H' a ⟨rfl,rfl,Q,o,rfl⟩;have hc':l[i]?=some c:=by simpa using a
     have hm:c∈l:=bn hc';have hi':i<l.length:=(cx.mp hc').1;have e:=V1 (C c hm);unfold inTx at e;refine⟨_,rfl,_,_,rfl,rfl,ltSz,rfl,?_,dz,_,rfl⟩;rw[e,List.replicate_succ',az];rfl
    ·rintro d j H' ⟨rfl,rfl,Q,o,rfl⟩ p O;refine⟨p,List.replicate _ true,rfl,ew,?_⟩;rw[show(List.replicate (Str.mk l.toArray).cps.size true).all id=true by simp];exact J _ (aA.upd O)
  ·cases a:x.cps.toList with
   | nil=>have:=g.1;rw[a]at this;simp at this
   | cons c r =>
    have R:=g.2.2 c (a ▸ ax);refine⟨_,rfl,.str ⟨#[c]⟩,by rw[zA hz,a,atI_zero];rfl,eqSC ⟨_,rfl,aW (λw=>?_) λ_=>(q _ (aA.refl _)).2 g⟩⟩;have e:(⟨#[c]⟩:Str).cps=(Str.ofString "?").cps:=by rw[bx w]
    rw[show(Str.ofString "?").cps = #[63]by decide +kernel]at e;have:c=63:=by simpa using e
    lia
 ·rcases m with⟨l,rfl,U,_⟩|g
  ·have u:(Str.mk (63::l).toArray).length=l.length+1:=by show(63::l).toArray.size=_;rw[ai,ar]
   rw[u]at A;simp at A;lia
  ·exact(q _ (aA.refl _)).2 g
def BP (so:aP fx sm)(h:(n,k)∈fx):mulO fx n=some k:=by
 have nd:=(List.nodup_append.mp so.nd).1;unfold mulO;clear so
 induction fx with
 | nil=>cases h
 | cons r l a =>
  rw[bg,dc]at nd;obtain rfl|h:=cz.mp h
  ·simp
  ·have ne:r.1≠n:=λe=>nd.1 (e ▸ List.mem_map_of_mem (f:=(·.1)) h);rw[List.find?_cons,br ne];exact a h nd.2
def O6 (h:n∉sm.map (·.1)):zr sm n=none:=by
 unfold zr;rw[List.find?_eq_none.mpr]
 ·rfl
 ·intro r a e;exact h (da.mpr ⟨r,a,bx e⟩)
def O5 (h:n∈sm.map (·.1)):∃z,zr sm n=some z:=by
 obtain⟨r,a,e⟩:=da.mp h;cases q:sm.find? (λr=>decide (r.1=n))with
 | none=>exact absurd (bj e) (List.find?_eq_none.mp q r a)
 | some z=>exact⟨z.2,by unfold zr;rw[q];rfl⟩
def FN (K:d6)(C:Addr):Sp:=λvs H Q _=>∃(g:Addr) (fx:cV) (sm:bL) (os:bA) (d:D) (v:V),vs=[.ref g,v]/\iK K C fx sm H g/\aP fx sm/\(∀x∈os,cB x)/\aH H d v/\aM fx sm os d/\lvs d<=100/\∀H',aA H H'->Q (.bl true) H'
def SM {p:Prop}[Decidable p]{Q:VK}{H:Hp}(q:Q (.bl true) H)(h:p):Q (.bl (decide p)) H:=(bj h).symm ▸ q
def M8 (F:iE K "is_built" jP f fd)(T:Txt mg)(i:Ow P w K mg base 1 "is_wish" LA)(j:uV P w K mg base lY 1 C "many" (DJ K C))(m:uV P w K mg base lY 1 C "nought" (kM K C)):iX P w K mg base 2 f fd jP (FN K C):=by
 refine F.okL AZ λ_ _ _ _ H vs _ _ A X h=>?_;obtain⟨g,G,sm,os,d,v,rfl,sg,so,ho,rep,tm,l100,q⟩:=h;refine⟨_,(pss4 (bC (fE K T.n_isinstance (pv 1) T.n_str) (aE (aF (V4 (aS i A (pa1 (pv 1))) (tM (fN (eA X) (oN j (A.mono dw) pass0 (pv 0) (pa1 (pv 1))) aB))))) aG) (bC (PW.pt (j6 (cS (fV K (cW cY T.n_isinstance (pa2 (pv 1) (bB (pa2 (pP T.n_list) (pP T.n_tuple))))))) (iI (aJ (qP X) (cW bK T.n_len (pa1 (pv 1))) aB)))) (aE (aF jY)) aG) (bC (aJ yV (oN m (A.mono dw) pass0 (pv 0) (pa1 (aV (pv 1) aB))) eZ) (aE (aF (fN SE (cW bK T.n_len (pa1 (pv 1))) aB))) aG) (aF (fN (eA X) (oN j (A.mono dw) pass0 (pv 0) (pa1 (aV (pv 1) aB))) (aX gC (cW bK T.n_len (pa1 (pv 1))) aB)))),?_⟩
 ac_nf
 obtain⟨dx,fs,_,_,Q,U,Y,_⟩:=sg.ex;rcases KZ tm with⟨x,rfl,E⟩|⟨n,ds,hd,hh,tms⟩
 ·cases (show v = .str x from rep);refine⟨_,rfl,_,_,true,rfl,rfl,_,rfl,aW (λ_=>?_) λz=>Bool.noConfusion z⟩;rcases E with E|E
  ·have R:=ho x E;refine⟨_,rfl,x,rfl,.inl R,λH' I=>⟨λ_=>⟨true,rfl,aW (λ_=>q _ I) λz=>Bool.noConfusion z⟩,λS=>?_⟩⟩;obtain⟨l,rfl,_⟩:=R;have:=S.2.2 63 dV
   lia
  ·obtain⟨r,A,e⟩:∃r∈G,r.1=x/\r.2=0:=by unfold zeros at E;obtain⟨r,Q,rfl⟩:=da.mp E;obtain⟨U,Y⟩:=de.mp Q;exact⟨r,U,rfl,by simpa using Y⟩
   have S:lV x:=so.nm x (cp _ (da.mpr ⟨r,A,e.1⟩));have hm:mulO G x=some 0:=BP so (by rw[<-e.1,<-e.2];exact A);refine⟨_,rfl,x,rfl,.inr S,λH' I=>⟨λR=>?_,λ_=>⟨false,rfl,aW (λz=>Bool.noConfusion z) λ_=>⟨_,rfl,g,dx,fs,rfl,I _ _ Q,U,_,rfl,g,x,G,sm,rfl,sg.same I,?_⟩⟩⟩⟩
   ·obtain⟨l,rfl,_⟩:=R;have:=S.2.2 63 dV
    lia
   ·unfold mulV;rw[hm];exact eqIC (q _ I)
 ·obtain⟨B,c,rfl,hbb,hseq,res⟩:∃B c,v = .ref B/\isV H (.ref B) (.ty "str")=some false/\eI H B (.str n::c)/\Reps H ds c:=by
   rcases hd with rfl|rfl
   ·obtain⟨a,vs,rfl,O,_,c,rfl,Z,r⟩:=rep;cases Z;exact⟨a,c,rfl,gX O,.inr O,r⟩
   ·obtain⟨a,vs,rfl,O,_,c,rfl,Z,r⟩:=rep;cases Z;exact⟨a,c,rfl,qV O,.inl O,r⟩
  have hlen:=Reps.len res;refine⟨_,rfl,_,_,false,rfl,hbb,_,rfl,aW (λz=>Bool.noConfusion z) λ_=>⟨_,rfl,dw,λp hp=>?_⟩⟩;obtain⟨H1,zN,o,L⟩:=nwH (.tup [.ty "list",.ty "tuple"]) hp;rw[zN];have u:=hseq.same o;have J:ixV H1 (.ref B) (.int 0)=some (.str n):=by
   rcases u with e|e
   ·rw[ixV_l e,atI_zero]
   ·rw[ixV_t e,atI_zero]
  have ln:((lenV H1 (.ref B)).map λn=>V.int n)=some (.int (c.length+1:Nat)):=by
   rcases u with e|e
   ·rw[lenV_l e];rfl
   ·rw[lenV_t e];rfl
  have N:=i8 hh;refine⟨_,_,true,rfl,by rcases u with e|e;exact NR e L;exact NQ e L,_,rfl,aW (λz=>Bool.noConfusion z) λ_=>⟨_,rfl,_,_,rfl,ln,.inl (.inl ⟨_,_,rfl,rfl,_,rfl,aW (λz=>absurd (bx z) dz) λ_=>⟨_,rfl,g,dx,fs,rfl,o _ _ Q,Y,_,rfl,.str n,J,g,n,G,sm,rfl,sg.same o,?_⟩⟩)⟩⟩;rcases hh with⟨k0,N⟩|⟨k2,N⟩
  ·have W:n∉sm.map (·.1):=λz=>(List.nodup_append.mp so.nd).2.2 n (List.mem_map_of_mem (f:=(·.1)) N) n z rfl;have e0:nulV sm n = .non:=by unfold nulV;rw[O6 W];rfl
   have em:mulV G n = .int (ds.length:Int):=by unfold mulV;rw[BP so N];rfl
   rw[e0];refine⟨rfl,_,rfl,aW (λz=>Bool.noConfusion z) λ_=>⟨_,rfl,g,dx,fs,rfl,o _ _ Q,U,_,rfl,.str n,J,g,n,G,sm,rfl,sg.same o,?_⟩⟩;rw[em];exact⟨_,rfl,_,_,rfl,ln,_,_,rfl,rfl,Eq.mpr rEqD_ii (SM (q _ o) dz)⟩
  ·obtain⟨z,hz⟩:=O5 N;have e0:nulV sm n = .str z:=by unfold nulV;rw[hz];rfl
   rw[e0];exact⟨rfl,_,rfl,aW (λ_=>⟨_,rfl,_,_,rfl,ln,_,_,rfl,rfl,SM (q _ o) dz⟩) λz=>Bool.noConfusion z⟩
mutual
noncomputable def nds:D->Nat
 | .tup (_::ds)=>1+ndss ds
 | .lst (_::ds)=>1+ndss ds
 | _=>1
noncomputable def ndss:List D->Nat
 | []=>0
 | d::ds=>nds d+ndss ds
end
def sE (d:D):1<=nds d:=by unfold nds;split <;> lia
def fY:∀ds:List D,ds.length<=ndss ds
 | []=>ac _
 | d::ds=>by rw[ndss,ar];have:=sE d;have:=fY ds;lia
def dN:∀ds es:List D,ndss (ds++es)=ndss ds+ndss es
 | [],es=>by simp[ndss]
 | d::ds,es=>by rw[List.cons_append,ndss,dN ds es,ndss];lia
def mT:∀ds:List D,ndss ds.reverse=ndss ds
 | []=>rfl
 | d::ds=>by rw[List.reverse_cons,dN,mT ds,ndss,ndss,ndss];lia
def oI {c:TT}{tb:TS}{D:jA}{d:St}{H:Hp}(Pv:Nat->St->Hp->Prop)(n:Nat)(g:Pv n d H)
  (f:∀n d H,Pv n d H->∀R:Bool->Hp->Prop,(∀H',tb {D with nx:=λa e=>∃m,m<n/\Pv m a e,ct:=λa e=>∃m,m<n/\Pv m a e,bk:=D.nx} d H'->R true H')->(∀H',D.nx d H'->R false H')->c d H R):K1 c tb D d H:=by
 refine⟨Pv,⟨n,g⟩,?_⟩;intro m d H p;refine f m d H p _ (λH' h=>?_) (λH' h=>?_)
 ·rw[aj rfl];exact⟨_,λa e z=>z,h⟩
 ·rw[ab dw];exact h
def zO:del (upd H p o) p=del H p:=by
 funext b;unfold del upd;by_cases e:b=p
 ·rw[aj e,aj e]
 ·rw[ab e,ab e,ab e]
def HK (h:H p=none):aA (del H t) (del (upd H p o) t):=λb u e=>by obtain⟨a,c⟩:=iO e;exact nF (upk (aC a h) a) c
def nY (s:aA H H'):aA (del H t) (del H' t):=λb u e=>by obtain⟨c,a⟩:=iO e;exact nF (s _ _ c) a
theorem eJ:∀{ds:List D} {vs:List V},Reps H (ds++[d]) vs->∃us v,vs=us++[v]/\Reps H ds us/\aH H d v
 | [],vs,⟨v,r,e,h,h'⟩=>by
  cases (show r=[]from h');exact⟨[],v,e,rfl,h⟩
 | c::ds,vs,⟨v,r,e,h,h'⟩=>by obtain⟨us,u,g,f,a⟩:=eJ (ds:=ds) h';exact⟨v::us,u,by rw[e,g];rfl,⟨v,us,rfl,h,f⟩,a⟩
noncomputable def tp (r:D×Nat):D:=.tup [r.1,.int r.2]
def YR (g t:Addr)(v:V)(d:cV)(sm:bL)(os:bA)(H:Hp)(n:Nat)(c:St)(a:Hp):Prop:=∃(ps:List (D×Nat)) (vs:List V) (o3 o4:Option V),c=[some (.ref g),some v,some (.ref t),o3,o4]/\a t=some (.lst vs)/\aA H (del a t) /\
 Reps (del a t) (ps.map tp) vs/\(∀r∈ps,aM d sm os r.1/\lvs r.1<=100/\r.2+depD r.1<=100)/\ndss (ps.map (·.1))=n/\n<=1000
def YS (t:Addr)(ds:List D)(k:Nat)(g:Hp)(i:Nat)(a:List V)(e:St)(c:Hp):Prop:=∃f:Option V,e=[f,some (.int k)]/\aA g c/\Reps (del c t) ((ds.reverse.take i).map λd=>tp (d,k+1)) a
def U6 (h:H t=none)(s:aA H H2):aA H (del H2 t):=λb u e=>nF (s _ _ e) (aC e h)
def HJ (s:aA H (del H2 t)):aA H H2:=λb u e=>(iO (s _ _ e)).1
def yJ (K:d6)(C:Addr):Sp:=λvs H Q _=>∃(g:Addr) (fx:cV) (sm:bL) (os:bA) (d:D) (v:V),vs=[.ref g,v]/\iK K C fx sm H g/\aP fx sm/\(∀x∈os,cB x)/\aH H d v/\aM fx sm os d/\lvs d<=100/\depD d<=100/\nds d<=1000/\∀H',aA H H'->Q .non H'
def M7 (F:iE K "check_term" gL f fd)(T:Txt mg)(E:Ow P w K mg base 2 "is_built" (FN K C)):iX P w K mg base 3 f fd gL (yJ K C):=by
 refine F.okL fQ λ_ _ _ _ H vs _ _ hr _ h=>?_;obtain⟨g,fx,sm,os,d,v,rfl,sg,so,ho,rep,tm,l100,d100,X,q⟩:=h;refine⟨_,(pss2 (bJ 2 fQ.nd (bW (pa1 (bB (pa2 (pv 1) aB))))) (jU du (fV K (pv 2)) (pss3 (gU (oO di PySem.F.slot_list_pop PySem.F.type_list_pop oR (pv 2)) (tL rfl (dU (gV 3 fQ.nd) (dU (bV (i:=4) fQ.nd rfl (Or.inr rfl)) nO)))) (bC (PW.pt (j6 (aJ wO (pv 4) (fW T.c_DEEPEST rfl)) (iI (cS (fV K (aS E hr (pa2 (pv 0) (pv 3)))))))) (aE gT) aG) (bC (cS (fE K T.n_isinstance (pv 3) T.n_str)) (aE (bX (fX di PySem.F.slot_list_extend PySem.F.type_list_extend jC (pv 2) (pa1 (jX (bD.of fQ ["part","depth"] [none,some 4]) (gF K (iJ FQ (pv 3) cH (bU aB) (bU (iB eY aB)))) (bV (i:=0) (cT ["part","depth"]) rfl (Or.inl rfl)) cU (bB (pa2 (pv 0) (aX bF (pv 1) aB)))))))) aG)))),?_⟩
 ac_nf
 exists k1;refine⟨_,rfl,szl 2,λp hp=>⟨szl 1,λt ht=>k1 ?_⟩⟩;exists 0,k2;have s1:aA H (upd H p (.tup [v,.int 0])):=aA.upd hp;have B:upd H p (.tup [v,.int 0]) p=some (.tup [v,.int 0]):=ew;generalize upd H p (.tup [v,.int 0])=H1 at s1 B ht|-;have ht0:H t=none:=s1.free ht;have e1:del (upd H1 t (.lst [.ref p])) t=del H1 t:=zO;have sd:aA H (del H1 t):=U6 ht0 s1;refine oI (YR g t v fx sm os H) (nds d) ⟨[(d,0)],[.ref p],none,none,rfl,ew,e1 ▸ sd,?_,?_,by simp[ndss],X⟩ ?_
 ·rw[e1];exact⟨.ref p,[],rfl,⟨p,_,rfl,nF B (aC B ht),v,_,rfl,aH.same sd rep,.int 0,[],rfl,rfl,rfl⟩,rfl⟩
 ·intro r hr;rw[cy.mp hr];exact⟨tm,l100,by simpa using d100⟩
 ·rintro n σ H2 ⟨ps,vs,o3,o4,rfl,h2,sH,reps,ok,rfl,I⟩ R hT hF;rcases List.eq_nil_or_concat ps with rfl|⟨N,r,rfl⟩
  ·have:vs=[]:=reps;subst this;exact⟨_,rfl,false,.inl ⟨[],d5.of h2,rfl⟩,hF H2 (k2 (q _ (HJ sH)))⟩
  ·rw[List.concat_eq_append]at reps ok I hT;rw[az,bg,List.map_nil]at reps I hT;obtain⟨us,u,rfl,W,ru⟩:=eJ reps;obtain⟨a,_,rfl,ha,x,_,rfl,rx,_,_,rfl,e2,e3⟩:=ru;cases e2;cases (show _=[]from e3);obtain⟨tmr,lr,dr⟩:=ok r dV;have hat:H2 a=some (.tup [x,.int r.2])/\a≠t:=iO ha;refine⟨_,rfl,true,.inl ⟨_,d5.of h2,dV⟩,hT H2 ?_⟩;exists k3;refine⟨_,rfl,tyL h2,t,_,.ref a,rfl,rfl,h2,dV,a,[x,.int r.2],rfl,hX.of (upk hat.2 hat.1),rfl,x,_,rfl,_,_,rfl,rfl,k3 ?_⟩;exists k4;refine⟨_,rfl,_,_,rfl,rfl,_,rfl,aW (λz=>absurd (bx z) dz) λ_=>?_⟩;clear hT hF;rw[List.dropLast_concat];have reps:=W;have e3:del (upd H2 t (.lst us)) t=del H2 t:=zO;have h3:upd H2 t (.lst us) t=some (.lst us):=ew;rw[<-e3]at sH reps rx;generalize upd H2 t (.lst us)=H3 at e3 h3 sH reps rx|-;have nl:us.length<=1000:=by
    have:=Reps.len reps;rw[af]at this;have h1:=fY (N.map (·.1));rw[af]at h1;rw[dN]at I
    lia
   refine⟨_,rfl,_,rfl,g,fx,sm,os,r.1,x,rfl,sg.same (HJ sH),so,ho,aH.same (OA _ _) rx,tmr,lr,λQ s4=>⟨true,rfl,k4 ?_⟩⟩;exists 0,k6;have h4:=s4 _ _ h3;have U:=nY (t:=t) s4;have sH4:=sH.trans U;have L:=Reps.same U reps;have G:=aH.same U rx;have rest:∀S∈N,aM fx sm os S.1/\lvs S.1<=100/\S.2+depD S.1<=100:=λS Y=>ok S (cp _ Y);rw[dN]at I;rcases KZ tmr with⟨y,ey,hy⟩|⟨n,ds,hd,hh,tms⟩
   ·rw[ey]at G;cases (show x = .str y from G);refine⟨_,rfl,.str y,.ty "str",true,rfl,rfl,true,rfl,?_⟩;exact k6 ⟨_,by rw[dN,ndss,ndss];have:=sE r.1;lia,N,us,_,_,rfl,h4,sH4,L,rest,rfl,dz⟩
   ·obtain⟨va,A,rfl,hbb,hseq,res⟩:∃va A,x = .ref va/\isV Q (.ref va) (.ty "str")=some false/\eI Q va (.str n::A)/\Reps (del Q t) ds A:=by
     rcases hd with e|e
     ·rw[e]at G;obtain⟨a,vs,rfl,ha,_,A,rfl,e1,r⟩:=G;cases e1;exact⟨a,A,rfl,gX (iO ha).1,.inr (iO ha).1,r⟩
     ·rw[e]at G;obtain⟨a,vs,rfl,ha,_,A,rfl,e1,r⟩:=G;cases e1;exact⟨a,A,rfl,qV (iO ha).1,.inl (iO ha).1,r⟩
    have hnd:nds r.1=1+ndss ds:=by rcases hd with e|e <;> rw[e,nds]
    have hdp:depD r.1=depDs ds+1:=by
     rcases hd with e|e
     ·rw[e,depD,depDs,show depD (.str n)=0 from rfl];lia
     ·rw[e,depD,depDs,show depD (.str n)=0 from rfl];lia
    have hlv:lvs r.1=lvss ds:=by rcases hd with e|e <;> rw[e,lvs]
    refine⟨_,rfl,.ref va,.ty "str",false,rfl,hbb,false,rfl,?_⟩;refine⟨_,rfl,tyL h4,_,rfl,0,rfl,1,rfl,-1,rfl,rfl,rfl,rfl,va,_,rfl,hseq,dV,λb o hb ho=>?_⟩;rw[wK]at ho;refine⟨b,A.reverse,rfl,by rcases ho with⟨rfl,_⟩|⟨rfl,_⟩;exact .inl ew;exact .inr ew,λJ hJ=>?_⟩;have s5:aA Q (upd Q b o):=aA.upd hb;have Z:upd Q b o b=some o:=ew;have nbt:b≠t:=(aC h4 hb).symm;generalize upd Q b o=H5 at s5 Z hJ|-;refine cQ hJ (YS t ds r.2 H5) ⟨none,rfl,aA.refl _,rfl⟩ ?_ ?_ ?_
    ·rintro i j σ H' _ ⟨_,_,O,_⟩;rw[Z,O _ _ Z]
    ·rintro i y j σ H6 hy ⟨o0,rfl,O,c⟩;obtain⟨e,he,re⟩:=Reps.get (Reps.rev res) hy;have la:=Reps.len c;have h1:=fY ds;refine⟨_,rfl,_,rfl,.inl ⟨_,rfl,(by decide:2<=sizeLine),λp1 B=>⟨ak (m:=1000) ?_ dw,_,rfl,O.trans (aA.upd B),?_⟩⟩⟩
     ·rw[af,bz,List.length_reverse]at la;rw[ndss,ndss]at I
      lia
     ·have np:p1≠t:=(aC (O _ _ (s5 _ _ h4)) B).symm;have sm5:aA (del Q t) (del (upd H6 p1 (.tup [y,.int (r.2+1)])) t):=nY ((s5.trans O).trans (aA.upd B));rw[aR he,az];have rp:aH (del (upd H6 p1 (.tup [y,.int (r.2+1)])) t) (tp (e,r.2+1)) (.ref p1):=⟨p1,_,rfl,nF ew np,y,_,rfl,aH.same sm5 re,_,[],rfl,rfl,rfl⟩
      exact Reps.snoc rp (Reps.same (HK B) c)
    ·rintro j σ H6 ⟨o0,rfl,O,c⟩ l hl;have la:=Reps.len c;have lr':=Reps.len res;have h1:=fY ds;have h6:upd H6 l (.lst j) t=some (.lst us):=by rw[bG (aC (O _ _ (s5 _ _ h4)) hl)];exact O _ _ (s5 _ _ h4)
     rw[List.length_reverse,lr',<-List.length_reverse (as:=ds),bI]at c;rw[af,bz,List.length_reverse]at la;rw[ndss,ndss]at I;have s7:aA Q (upd H6 l (.lst j)):=(s5.trans O).trans (aA.upd hl);have e7:del (upd (upd H6 l (.lst j)) t (.lst (us++j))) t=del (upd H6 l (.lst j)) t:=zO;refine⟨t,l,us,j,rfl,rfl,h6,.inl ew,leSz,k6 ⟨ndss (N.map (·.1))+ndss ds,by rw[dN,ndss,ndss];lia,N++ds.reverse.map (λd=>(d,r.2+1)),us++j,_,_,rfl,ew,?_,?_,?_,?_,dz⟩⟩
     ·rw[e7];exact sH4.trans (nY s7)
     ·rw[e7,az,cs];exact Reps.append (Reps.same (nY s7) L) (Reps.same (HK hl) c)
     ·intro S Y;rcases c4.mp Y with h|h
      ·exact rest S h
      ·obtain⟨e,he,rfl⟩:=da.mp h;have he:=List.mem_reverse.mp he;obtain⟨i,hi⟩:=List.getElem?_of_mem he;have h2:=pU hi;have h3:=fL hi;exact⟨tms.get hi,by show lvs e<=100;lia,by show r.2+1+depD e<=100;lia⟩
     ·rw[az,cs,dN];congr 1;rw[show((λx:D×Nat=>x.1) ∘ λd=>(d,r.2+1))=id from rfl,List.map_id,mT]
end
mutual
def Wk:D->Prop
 | .str _=>True
 | .tup (.str _::ds)=>Wks ds
 | .lst (.str _::ds)=>Wks ds
 | _=>False
def Wks:List D->Prop
 | []=>True
 | d::ds=>Wk d/\Wks ds
end
mutual
noncomputable def wlk:D->List D
 | .tup (.str n::ds)=>.tup (.str n::ds)::wlks ds
 | .lst (.str n::ds)=>.lst (.str n::ds)::wlks ds
 | d=>[d]
noncomputable def wlks:List D->List D
 | []=>[]
 | d::ds=>wlk d++wlks ds
end
def v8:∀ds:List D,wlks ds=ds.flatMap wlk
 | []=>rfl
 | d::ds=>by rw[wlks,v8 ds];rfl
def KN (h:Wk d):(∃x,d = .str x)\/∃n ds,(d = .tup (.str n::ds)\/d = .lst (.str n::ds))/\Wks ds:=by
 unfold Wk at h;split at h
 ·exact .inl ⟨_,rfl⟩
 ·exact .inr ⟨_,_,.inl rfl,h⟩
 ·exact .inr ⟨_,_,.inr rfl,h⟩
 ·exact absurd h id
mutual
theorem SJ:∀{d:D},Fl d->Wk d
 | .str x,h=>trivial
 | .tup (.str n::ds),h=>by unfold Wk;unfold Fl at h;exact HC h
 | .non,h | .bl _,h | .int _,h | .lst _,h | .tup [],h | .tup (.non::_),h | .tup (.bl _::_),h | .tup (.int _::_),h | .tup (.tup _::_),h | .tup (.lst _::_),h=>by unfold Fl at h;exact absurd h id
theorem HC:∀{ds:List D},Fls ds->Wks ds
 | [],_=>trivial
 | _::_,⟨a,b⟩=>⟨SJ a,HC b⟩
end
def Wks.app:∀{ds es:List D},Wks ds->Wks es->Wks (ds++es)
 | [],_,_,h=>h
 | _::_,_,⟨a,b⟩,h=>⟨a,Wks.app b h⟩
def Wks.rev:∀{ds:List D},Wks ds->Wks ds.reverse
 | [],h=>h
 | d::ds,⟨a,b⟩=>by rw[List.reverse_cons];exact Wks.app (Wks.rev b) ⟨a,trivial⟩
def Wks.unsnoc:∀{ds:List D} {d:D},Wks (ds++[d])->Wks ds/\Wk d
 | [],_,h=>⟨trivial,h.1⟩
 | _::_,_,⟨a,b⟩=>⟨⟨a,(Wks.unsnoc b).1⟩,(Wks.unsnoc b).2⟩
mutual
theorem oX:∀d:D,(wlk d).length<=nds d
 | .tup (.str n::ds)=>by rw[wlk,nds,ar];have:=sS ds;lia
 | .lst (.str n::ds)=>by rw[wlk,nds,ar];have:=sS ds;lia
 | .non | .bl _ | .int _ | .str _ | .tup [] | .lst [] | .tup (.non::_) | .tup (.bl _::_) | .tup (.int _::_) | .tup (.tup _::_) | .tup (.lst _::_) | .lst (.non::_) | .lst (.bl _::_) | .lst (.int _::_) | .lst (.tup _::_) | .lst (.lst _::_)=>by unfold wlk;rw[cr];exact sE _
theorem sS:∀ds:List D,(wlks ds).length<=ndss ds
 | []=>ac _
 | d::ds=>by rw[wlks,ndss,au];have:=oX d;have:=sS ds;lia
end
def sY:Sp:=λvs H Q _=>∃(d:D) (v:V) (G:Hp),vs=[v]/\aA G H/\aH G d v/\Wk d/\nds d<=1000/\∀(l:Addr) (ws:List V) (H':Hp),aA H H'->H l=none->H' l=some (.lst ws)->Reps G (wlk d) ws->Q (.ref l) H'
def XD (v:V)(e t:Addr)(d:D)(H G:Hp)(n:Nat)(f:St)(c:Hp):Prop:=∃(fs a:List D) (ws us:List V) (o:Option V),f=[some v,some (.ref e),some (.ref t),o]/\c e=some (.lst ws)/\c t=some (.lst us)/\aA H c/\Reps G fs ws/\Reps G a us/\Wks a /\
 fs++a.reverse.flatMap wlk=wlk d/\ndss a=n/\n<=1000
def JB (F:iE K "walked" mJ f fd)(T:Txt mg):iX P w K mg base 1 f fd mJ sY:=by
 refine F.okL nL λ_ _ _ _ H vs _ _ _ _ h=>?_;obtain⟨d,v,G,rfl,sG,rep,wk,I,q⟩:=h;refine⟨_,(pss4 (bJ 1 nL.nd (bW gA)) (bJ 2 nL.nd (bW (pa1 (pv 0)))) (jU du (fV K (pv 2)) (pss3 (bJ 3 nL.nd (oO di PySem.F.slot_list_pop PySem.F.type_list_pop oR (pv 2))) (bX (fX di dq dj eU (pv 1) (pa1 (pv 3)))) (bC (cS (fE K T.n_isinstance (pv 3) T.n_str)) (aE (bX (fX di PySem.F.slot_list_extend PySem.F.type_list_extend jC (pv 2) (pa1 (iJ FQ (pv 3) cH (bU aB) (bU (iB eY aB))))))) aG))) (aF (pv 1))),?_⟩
 ac_nf
 exists k1;refine⟨szl 0,λm B=>k1 ?_⟩;exists k2;refine⟨_,rfl,szl 1,λt ht=>k2 ?_⟩;exists k3;have A:m≠t:=aC ew ht;have O:H t=none:=(aA.upd B).free ht;refine oI (XD v m t d H G) (nds d) ⟨[],[d],[],[v],none,rfl,upk A ew,ew,(aA.upd B).trans (aA.upd ht),rfl,⟨v,[],rfl,rep,rfl⟩,⟨wk,trivial⟩,dV,by simp[ndss],I⟩ ?_;rintro n σ J ⟨fs,ts,ws,us,o,rfl,h1,Y,sH,X,rt,L,e,rfl,N⟩ R hT hF;rcases List.eq_nil_or_concat ts with rfl|⟨i,r,rfl⟩
 ·cases (show us=[]from rt);refine⟨_,rfl,false,.inl ⟨[],d5.of Y,rfl⟩,hF J (k3 ⟨_,rfl,?_⟩)⟩;have e:fs=wlk d:=by simpa using e
  rw[e]at X;exact q m ws J sH B h1 X
 ·rw[List.concat_eq_append]at rt L e N hT;obtain⟨c,u,rfl,rt',W⟩:=eJ rt;obtain⟨Z,wr⟩:=L.unsnoc;refine⟨_,rfl,true,.inl ⟨_,d5.of Y,dV⟩,hT J ?_⟩;exists k4;refine⟨_,rfl,tyL Y,t,_,u,rfl,rfl,Y,dV,?_⟩;clear rt L hT hF;have rt:=rt';have L:=Z;rw[List.dropLast_concat];rw[List.reverse_append,List.reverse_cons,List.reverse_nil,List.nil_append,List.singleton_append,List.flatMap_cons]at e;have h3:upd J t (.lst c) t=some (.lst c):=ew;have f3:upd J t (.lst c) m=some (.lst ws):=upk A h1;have s3:aA H (upd J t (.lst c)):=λb o j=>upk (aC j O) (sH _ _ j);generalize upd J t (.lst c)=H3 at h3 f3 s3|-;have S:upd H3 m (.lst (ws++[u])) t=some (.lst c):=upk A.symm h3;have f4:upd H3 m (.lst (ws++[u])) m=some (.lst (ws++[u])):=ew;have U:aA H (upd H3 m (.lst (ws++[u]))):=λb o j=>upk (aC j B) (s3 _ _ j);have lf:=Reps.len X;have lw:=congrArg List.length e;rw[au]at lw;have lt':=Reps.len rt;have hn:=fY i;have hnr:nds r+ndss i<=1000:=by rw[dN,ndss,ndss]at N;lia
  have C:Reps G (fs++[r]) (ws++[u]):=Reps.snoc W X;exists k4,k5;refine⟨_,rfl,tyL f3,_,rfl,m,ws,u,rfl,rfl,f3,ltSz (by have:=oX d;lia),k5 ?_⟩;exists 0,k6;generalize upd H3 m (.lst (ws++[u]))=H4 at S f4 U|-;have z:=sG.trans U;rcases KN wr with⟨x,rfl⟩|⟨nm,ds,hd,wds⟩
  ·cases (show u = .str x from W);refine⟨_,rfl,.str x,.ty "str",true,rfl,rfl,true,rfl,?_⟩;refine k6 ⟨ndss i,by rw[dN,ndss,ndss];have:=sE (.str x);lia,fs++[.str x],i,_,c,_,rfl,f4,S,U,C,rt,L,?_,rfl,dz⟩;rw[<-e];show _=fs++([.str x]++_);rw[cu]
  ·obtain⟨E,g,rfl,hbb,l⟩:∃E g,u = .ref E/\isV H4 (.ref E) (.ty "str")=some false/\eI H4 E (.str nm::g)/\Reps G ds g:=by
    rcases hd with rfl|rfl
    ·obtain⟨a,vs,rfl,Q,_,g,rfl,e1,r⟩:=W;cases e1;exact⟨a,g,rfl,gX (z _ _ Q),.inr (z _ _ Q),r⟩
    ·obtain⟨a,vs,rfl,Q,_,g,rfl,e1,r⟩:=W;cases e1;exact⟨a,g,rfl,qV (z _ _ Q),.inl (z _ _ Q),r⟩
   obtain⟨l,res⟩:=l;have hnd:nds r=1+ndss ds:=by rcases hd with rfl|rfl <;> rw[nds]
   have hwl:wlk r=r::wlks ds:=by rcases hd with rfl|rfl <;> rw[wlk]
   have h1:=fY ds;have lr:=Reps.len res;refine⟨_,rfl,.ref E,.ty "str",false,rfl,hbb,false,rfl,?_⟩;refine⟨_,rfl,tyL S,_,rfl,0,rfl,1,rfl,-1,rfl,rfl,rfl,rfl,E,_,rfl,l,dV,λb o j ho=>?_⟩;rw[wK]at ho;have h5:upd H4 b o t=some (.lst c):=upk (aC S j) S;have f5:upd H4 b o m=some (.lst (ws++[.ref E])):=upk (aC f4 j) f4;have s5:aA H (upd H4 b o):=U.trans (aA.upd j);refine⟨t,b,c,g.reverse,rfl,rfl,h5,by rcases ho with⟨rfl,_⟩|⟨rfl,_⟩;exact .inl ew;exact .inr ew,leSz,k6 ⟨ndss i+ndss ds,by rw[dN,ndss,ndss];lia,fs++[r],i++ds.reverse,_,_,_,rfl,upk A f5,ew,?_,C,Reps.append rt (Reps.rev res),L.app wds.rev,?_,by rw[dN,mT],dz⟩⟩
   ·exact λb o j=>upk (aC j O) (s5 _ _ j)
   ·rw[<-e,hwl,List.reverse_append,List.reverse_reverse,List.flatMap_append,<-v8];simp
noncomputable def mrk:D->M
 | .str x=>(sortS x,x,0)
 | .tup (.str n::ds)=>(2,n,ds.length+1)
 | _=>(0,"",0)
mutual
theorem GZ:∀{d:D},Fl d->key d=(wlk d).map mrk
 | .str x,_=>by unfold key wlk;rfl
 | .tup (.str n::ds),h=>by unfold Fl at h;rw[key,wlk,BY h];rfl
 | .non,h | .bl _,h | .int _,h | .lst _,h | .tup [],h | .tup (.non::_),h | .tup (.bl _::_),h | .tup (.int _::_),h | .tup (.tup _::_),h | .tup (.lst _::_),h=>by unfold Fl at h;exact absurd h id
theorem BY:∀{ds:List D},Fls ds->keys ds=(wlks ds).map mrk
 | [],_=>rfl
 | d::ds,⟨a,b⟩=>by rw[keys,wlks,GZ a,BY b,az]
end
mutual
theorem EN:∀{d:D},Fl d->∀e∈wlk d,Fl e
 | .str x,h=>by unfold wlk;intro e a;rw[cy.mp a];exact h
 | .tup (.str n::ds),h=>by
  rw[wlk];intro e a;obtain rfl|a:=cz.mp a
  ·exact h
  ·exact HB (by unfold Fl at h;exact h) e a
 | .non,h | .bl _,h | .int _,h | .lst _,h | .tup [],h | .tup (.non::_),h | .tup (.bl _::_),h | .tup (.int _::_),h | .tup (.tup _::_),h | .tup (.lst _::_),h=>by unfold Fl at h;exact absurd h id
theorem HB:∀{ds:List D},Fls ds->∀e∈wlks ds,Fl e
 | [],_=>λe c=>by cases c
 | d::ds,⟨a,b⟩=>λe c=>by
  rw[wlks]at c;obtain c|c:=c4.mp c
  ·exact EN a e c
  ·exact HB b e c
end
noncomputable def mV (m:M):List V:=[.int m.1,.str m.2.1,.int m.2.2]
noncomputable def mD (m:M):D:=.tup [.int m.1,.str m.2.1,.int m.2.2]
def LC:Sp:=λvs H Q _=>∃(d:D) (v:V),vs=[v]/\aH H d v/\Fl d/\∀p,H p=none->Q (.ref p) (upd H p (.tup (mV (mrk d))))
def QV (F:iE K "order_mark" gK f fd)(T:Txt mg):iX P w K mg base 1 f fd gK LC:=by
 refine F.okL vI λ_ _ _ _ H vs Q _ z i h=>?_;obtain⟨d,v,rfl,rep,fl,q⟩:=h;refine⟨_,(pss2 (bC (fE K T.n_isinstance (pv 0) T.n_str) (aE (aF (bB (pa3 (jW (aJ (eA i) (aV (pv 0) aB) cI) aB aB) (pv 0) aB)))) aG) (aF (bB (pa3 aB (aV (pv 0) aB) (cW bK T.n_len (pa1 (pv 0))))))),?_⟩
 try dsimp only[cxOf,Cx.nox]
 simp only[qD];clear z F T i;have keep:=aI q (aI rep fl);clear q rep fl
 walk_at "rd"
 obtain⟨q,rep,fl⟩:=keep;rcases nE fl with⟨x,rfl,l,j⟩|⟨nm,ds,rfl,A⟩
 ·cases (show v = .str x from rep);refine⟨true,rfl,?_⟩;rw[aj rfl];have hz:x.length<=sizeLine:=aq (m:=20) (by rw[bw]at j;exact j) dw;cases hc:x.cps.toList with
  | nil=>rw[hc]at l;simp at l
  | cons c r =>
   refine⟨.str ⟨#[c]⟩,by rw[zA hz,hc,atI_zero];rfl,?_⟩;rw[rEqD_ss];refine⟨_,rfl,?_⟩;have B:decide ((⟨#[c]⟩:Str)=Str.ofString "?")=decide (c=63):=by
    have C:Str.ofString "?" = ⟨#[63]⟩:=by decide +kernel
    rw[C,ck];simp
   have es:sortS x=if c=63 then 0 else 1:=by unfold sortS;rw[hc];simp
   rw[B];by_cases h:c=63
   ·rw[aj (bj h)];refine⟨dw,λp e=>?_⟩;have:Q (.ref p) (upd H p (.tup [.int (sortS x),.str x,.int 0])):=q p e;rw[es,aj h]at this;exact this
   ·rw[ab (by simpa using h)];refine⟨dw,λp e=>?_⟩;have:Q (.ref p) (upd H p (.tup [.int (sortS x),.str x,.int 0])):=q p e;rw[es,ab h]at this;exact this
 ·obtain⟨a,vs,rfl,g,_,o,rfl,E,r⟩:=rep;cases E;have u:=Reps.len r;refine⟨false,gX g,?_⟩;rw[ab dw];refine⟨.str nm,by rw[ixV_t g,atI_zero],.int (ds.length+1),by rw[lenV_t g,ar,u];rfl,dw,λp e=>?_⟩;exact q p e
def spKey:Sp:=λvs H Q _=>∃(d:D) (v:V),vs=[v]/\aH H d v/\Fl d/\nds d<=1000/\∀(l:Addr) (H':Hp),aA H H'->H l=none->aH (nw H H') (.lst ((key d).map mD)) (.ref l)->Q (.ref l) H'
def YA (ds:List D)(H f:Hp)(i:Nat)(a:List V)(d:St)(c:Hp):Prop:=∃e:Option V,d=[e]/\aA f c/\Reps (nw H c) (((ds.take i).map mrk).map mD) a
def A8 (h:H p=some (.tup (mV m))):aH H (mD m) (.ref p):=⟨p,_,rfl,h,.int _,_,rfl,rfl,.str _,_,rfl,rfl,.int _,[],rfl,rfl,rfl⟩
def GK (s:aA H1 H2):aA (nw H H1) (nw H H2):=λa o e=>by obtain⟨d,c⟩:=lO.mp e;exact lO.mpr ⟨d,s _ _ c⟩
def UI (F:iE K "order_key" iQ f fd)(T:Txt mg)(c:Ow P w K mg base 1 "order_mark" LC)(g:Ow P w K mg base 1 "walked" sY):iX P w K mg base 2 f fd iQ spKey:=by
 refine F.okL pG λ_ _ _ _ H vs _ _ B R h=>?_;obtain⟨d,v,rfl,rep,fl,j,q⟩:=h;refine⟨_,(pss2 (bC (fE K T.n_isinstance (pv 0) T.n_str) (aE (aF (bW (pa1 (aS c B (pa1 (pv 0))))))) aG) (aF (jX (bD.of pG ["at"] [none]) (gF K (aS g B (pa1 (pv 0)))) (bV (i:=0) (cT ["at"]) rfl (Or.inl rfl)) cU (aS c B (pa1 (pv 0)))))),?_⟩
 try dsimp only[cxOf,Cx.nox]
 simp only[rN];clear B F T R c g;have keep:=aI q (aI rep (aI fl j));clear q rep fl j
 walk_at "rd"
 obtain⟨q,rep,fl,j⟩:=keep;rcases nE fl with⟨x,rfl,C,h2⟩|⟨nm,ds,rfl,Y⟩
 ·cases (show v = .str x from rep);refine⟨true,rfl,?_⟩;rw[aj rfl];refine⟨_,_,rfl,rep,fl,λp r=>⟨dw,λl hl=>q l _ ((aA.upd r).trans (aA.upd hl)) ((aA.upd r).free hl) ?_⟩⟩;have U:key (.str x)=[mrk (.str x)]:=by unfold key;rfl
  rw[U];exact⟨l,[.ref p],rfl,lO.mpr ⟨(aA.upd r).free hl,ew⟩,.ref p,[],rfl,A8 (lO.mpr ⟨r,upk (aC ew hl) ew⟩),rfl⟩
 ·obtain⟨b,hb⟩:∃b,isV H v (.ty "str")=some b/\b=false:=by obtain⟨a,vs,rfl,W,_⟩:=rep;exact⟨false,gX W,rfl⟩
  refine⟨b,hb.1,?_⟩;rw[ab (by rw[hb.2];decide)];refine⟨_,v,H,rfl,aA.refl _,rep,SJ fl,j,λO ws H1 z S C A=>⟨O,rfl,ws,.inl C,λJ X=>?_⟩⟩;have L:=Reps.len A;have lk:=oX (.tup (.str nm::ds));refine cQ X (YA (wlk (.tup (.str nm::ds))) H H1) ⟨none,rfl,aA.refl _,rfl⟩ (λi u E H' _ ⟨_,_,s2,_⟩=>by rw[C,s2 _ _ C]) ?_ ?_
  ·rintro i x u E Z Q ⟨I,rfl,s2,o⟩;obtain⟨e,G,re⟩:=Reps.get A Q;have N:=Reps.len o;refine⟨_,rfl,e,x,rfl,aH.same (z.trans s2) re,EN fl e (bn G),λp r=>⟨ak (m:=1000) ?_ dw,_,rfl,s2.trans (aA.upd r),?_⟩⟩
   ·rw[af,af,bz]at N
    lia
   ·rw[aR G,az,az];exact Reps.snoc (A8 (lO.mpr ⟨(z.trans s2).free r,ew⟩)) (Reps.same (GK (aA.upd r)) o)
  ·rintro u E Z ⟨I,rfl,s2,o⟩ l hl;rw[L,bI]at o;refine q l _ ((z.trans s2).trans (aA.upd hl)) ((z.trans s2).free hl) ?_;rw[GZ fl];exact⟨l,u,rfl,lO.mpr ⟨(z.trans s2).free hl,ew⟩,Reps.same (GK (aA.upd hl)) o⟩
noncomputable def opP (n:Str)(d:D):List D:=match d with
 | .tup (.str m::es)=>if m=n then es else [d]
 | d=>[d]
def qK:Sp:=λvs H Q _=>∃(n:Str) (d:D) (v:V),vs=[.str n,v]/\aH H d v/\Fl d/\∀(l:Addr) (ws:List V) (H':Hp),aA H H'->H l=none->H' l=some (.lst ws)->Reps H (opP n d) ws->Q (.ref l) H'
def D2 (F:iE K "opened" mL f fd)(T:Txt mg):iX P w K mg base 1 f fd mL qK:=by
 refine F.okL IP λ_ _ _ _ H vs Q _ u m h=>?_;obtain⟨n,d,v,rfl,rep,fl,q⟩:=h;refine⟨_,(pss2 (bC (PW.pt (lH (fE K T.n_isinstance (pv 1) T.n_tuple) (lG (aJ (eA m) (aV (pv 1) aB) (pv 0))))) (aE (aF (bR jZ rfl T.n_list rfl (pa1 (dM iF (pv 1) (bU aB) cH))))) aG) (aF (bW (pa1 (pv 1))))),?_⟩
 try dsimp only[cxOf,Cx.nox]
 simp only[CY];clear u F T m;have keep:=aI q (aI rep fl);clear q rep fl
 walk_at "rd"
 obtain⟨q,rep,fl⟩:=keep;have c:opP n d=[d]->1<=sizeLine/\∀(p:Addr),H p=none->Q (V.ref p) (upd H p (HO.lst [v])):=λe=>⟨dw,λp i=>q p [v] _ (aA.upd i) i ew (e ▸ ⟨v,[],rfl,rep,rfl⟩)⟩
 rcases nE fl with⟨x,rfl,C,B⟩|⟨nm,ds,rfl,z⟩
 ·cases (show v = .str x from rep);exact⟨false,rfl,by rw[ab dw];exact c rfl⟩
 ·obtain⟨a,vs,rfl,j,_,g,rfl,A,r⟩:=id rep;cases A;refine⟨true,uC j,?_⟩;rw[aj rfl];refine⟨.str nm,by rw[ixV_t j,atI_zero],?_⟩;rw[rEqD_ss];refine⟨_,rfl,?_⟩;by_cases e:nm=n
  ·rw[aj (bj e)];refine⟨a,rfl,_,.inr j,λ_ h=>?_,λp o i ho=>?_⟩
   ·have:=h.1;simp[HT.sIx]at this
   ·rw[iP]at ho;refine⟨g,by rcases ho with⟨rfl,_⟩|⟨rfl,_⟩;rw[seqV_l ew];rw[seqV_t ew],λl hl=>q l g _ ((aA.upd i).trans (aA.upd hl)) ((aA.upd i).free hl) ew ?_⟩;show Reps H (if nm=n then ds else [.tup (.str nm::ds)]) g;rw[aj e];exact r
  ·rw[ab (by simpa using e)];exact c (by show(if nm=n then ds else [.tup (.str nm::ds)])=_;rw[ab e])
end Lw
namespace Lw
open PySem PySem.Spec PyProof.Rows PySem.SeqAt L2
def CA (m d:M):eqD (mD m) (mD d)=decide (m=d):=by obtain⟨a,x,c⟩:=m;obtain⟨i,h,c'⟩:=d;rw[ck];simp[mD,eqD,eqDs];exact⟨λ⟨g,e,f⟩=>⟨dz,e,dz⟩,λ⟨g,e,f⟩=>⟨dz,e,dz⟩⟩
def IG (A:en)(s:ee)(x y:Str)(t u:Tok):OZ A s (.str x t) (.str y u) (sL x y):=λprog w E Q h=>(lt_str h:wM prog w A (compareOp .Lt (.str x t) (.str y u)) Q E s)
def w8 (A:en)(s:ee)(x y:Int)(t u:Tok):OZ A s (.int x t) (.int y u) (decide (x<y)):=λprog w E Q h=>HT.rcLt_int A s x t y u prog w E Q h
section
variable {P:eg}{w:eh}{H:Hp}{s:ee}
def vals3 (h:aO [a,b,c] us):∃u v x,us=[u,v,x]/\aQ a u/\aQ b v/\aQ c x:=by
 cases h with
 | cons r1 h =>
  obtain⟨v,x,rfl,e,d⟩:=aO.two h;exact⟨_,v,x,rfl,r1,e,d⟩
def BS (ok:iC P w H s.heap)(h:aH H (mD m) v)(r:aQ v u):∃p t1 a t3,u = .ref p/\s.heap.IsTuple p #[.int m.1 t1,.str m.2.1 a,.int m.2.2 t3]:=by obtain⟨p,vs,rfl,f,z,r1,rfl,l,q,E,rfl,j,o,d,rfl,i,g⟩:=h;cases l;cases j;cases i;cases (show d=[]from g);cases r;obtain⟨its,c,e⟩:=kB ok f;obtain⟨C,B,A,rfl,⟨t1,rfl⟩,⟨a,rfl⟩,⟨t3,rfl⟩⟩:=vals3 c;exact⟨p,t1,a,t3,rfl,e⟩
def Q8 (ok:iC P w H s.heap)(A:en)(hu:A.units+8<cLine)(h:aH H (mD m) v)(h':aH H (mD m') v')(r:aQ v u)(W:aQ v' u')(ne:m≠m'):OZ A s u u' (ltM m m'):=by
 obtain⟨p,t1,O,t3,rfl,⟨⟨c,dd,dt,U⟩,ho,R,n,hd⟩⟩:=BS ok h r;obtain⟨X,l,j,i,rfl,⟨⟨c',N,dt',J⟩,o,C,Y,B⟩⟩:=BS ok h' W;simp only at R hd C B;subst R hd C B;obtain⟨a,x,b⟩:=m;obtain⟨f,g,d⟩:=m';have q:vX A.in1 s [.int a t1,.str x O,.int b t3] [.int f l,.str g j,.int d i] (ltM (a,x,b) (f,g,d)):=by
  have K:A.in1.units+0<cLine:=by rw[eW];lia
  have I:=eqAtD ok (.int a) (.int f) A.in1 (.int a) (.int f) (.int a t1) (.int f l) rfl rfl ⟨_,rfl⟩ ⟨_,rfl⟩ K;have G:=eqAtD ok (.str x) (.str g) A.in1 (.str x) (.str g) (.str x O) (.str g j) rfl rfl ⟨_,rfl⟩ ⟨_,rfl⟩ K;have T:=eqAtD ok (.int b) (.int d) A.in1 (.int b) (.int d) (.int b t3) (.int d i) rfl rfl ⟨_,rfl⟩ ⟨_,rfl⟩ K;unfold ltM;dsimp only;by_cases S:a=f
  ·subst S;rw[aj rfl];refine .eq (by rw[eF]at I;exact I) ?_;by_cases L:x=g
   ·subst L;rw[aj rfl];refine .eq (by rw[eF]at G;exact G) ?_;have h3:b≠d:=λz=>ne (by rw[z]);have e:eqD (.int (b:Int)) (.int (d:Int))=false:=by show((b:Int) == (d:Int))=false;simp;lia
    rw[e]at T;have:decide (b<d)=decide ((b:Int)<(d:Int)):=by rw[ck];simp
    rw[this];exact .ne T (w8 _ _ _ _ _ _)
   ·rw[ab L];have e:eqD (.str x) (.str g)=false:=by
     show(x == g)=false
     simpa using L
    rw[e]at G;exact .ne G (IG _ _ _ _ _ _)
  ·rw[ab S];have e:eqD (.int (a:Int)) (.int (f:Int))=false:=by show((a:Int) == (f:Int))=false;simp;lia
   rw[e]at I;have:decide (a<f)=decide ((a:Int)<(f:Int)):=by rw[ck];simp
   rw[this];exact .ne I (w8 _ _ _ _ _ _)
 intro prog w' E Q Z;exact richCompare_meets_room (op:=.Lt) ⟨_,ho,rfl⟩ ⟨_,o,rfl⟩ PySem.F.slot_tuple_lt PySem.F.entry_tuple_lt (PySem.F.args_tuple_lt_2 _ _) (vG p X _ _ n Y dd N U J)
  ⟨ho,o,_,q,show Value.bool _≠Value.notImplemented/\Q _ s from⟨(λx=>nomatch x),Z⟩⟩ dz
theorem wZ (ok:iC P w H s.heap)(A:en)(v:A.units+8<cLine):∀(ks d:List M) (vs a:List V) (us c:dA),Reps H (ks.map mD) vs->Reps H (d.map mD) a->aO vs us->aO a c->vX A s us c (lexK ks d)
 | [],[],vs,a,us,c,h,h',r,f=>by
  cases (show vs=[]from h);cases (show a=[]from h');cases r.zero;cases f.zero;exact .nn
 | [],l::d,vs,a,us,c,h,⟨B,E,u,_,_⟩,r,f=>by
  cases (show vs=[]from h);subst u;cases r.zero;cases f;exact .nc
 | m::ks,[],vs,a,us,c,⟨x,q,e,_,_⟩,h',r,f=>by
  cases (show a=[]from h');subst e;cases f.zero;cases r;exact .cn
 | m::ks,l::d,vs,a,us,c,⟨x,q,e,z,F⟩,⟨B,E,u,i,o⟩,r,f=>by
  subst e u;cases r with
  | cons r1 C =>
   cases f with
   | cons g j =>
    have e:=eqAtD ok (mD m) (mD l) A _ _ _ _ z i r1 g (by
     have:depD (mD m)=1:=rfl
     lia)
    rw[CA]at e;rw[lexK];by_cases ne:m=l
    ·rw[aj ne];rw[bj ne]at e;exact .eq e (wZ ok A v ks d _ _ _ _ F o C j)
    ·rw[ab ne];rw[br ne]at e;exact .ne e (Q8 ok A v z i r1 g ne)
def uB (ok:iC P w H s.heap){ks:List M}{v:V}{u:ef}(h:aH H (.lst (ks.map mD)) v)(r:aQ v u):∃l vs us,u = .ref l/\Reps H (ks.map mD) vs/\aO vs us/\s.heap.IsList l us.toArray:=by obtain⟨l,vs,rfl,hl,d⟩:=h;cases r;obtain⟨us,c,a⟩:=gY ok hl;exact⟨l,vs,us,rfl,d,c,a⟩
def rF (ok:iC P w H s.heap)(A:en)(R:A.units+16<cLine)(h:aH H (.lst (ks.map mD)) v)(h':aH H (.lst (ks'.map mD)) v')(r:aQ v u)(G:aQ v' u') :
  s.TypeIs u "list"/\s.TypeIs u' "list"/\∀(prog:eg) (w:eh) (E:cE) (Q:cE),Q (.bool (lexK ks ks')) s->wM prog w A (call (.builtin "list.__lt__") [u,u']) Q E s:=by
 obtain⟨l,vs,us,rfl,K,C,hl⟩:=uB ok h r;obtain⟨J,f,g,rfl,m,j,o⟩:=uB ok h' G;obtain⟨⟨c,O,S,B⟩,ho,z,n,hd⟩:=id hl;obtain⟨⟨c',q,N,i⟩,a,e,I,d⟩:=id o;simp only at z hd e d;subst z hd e d;refine⟨⟨_,ho,rfl⟩,⟨_,a,rfl⟩,λprog w E Q L=>?_⟩;exact call_meets PySem.F.slot_list_lt ⟨_,ho,rfl⟩ PySem.F.entry_list_lt (PySem.F.args_list_lt_2 _ _) (y4 l J _ _ n I O q B i) ⟨ho,a,_,wZ ok A.in1 (by rw[eW];lia) ks ks' vs f us g K m C j,L⟩
def JO (ok:iC P w H s.heap)(A:en)(c:A.units+16<cLine)(h:aH H (.lst (ks.map mD)) v)(h':aH H (.lst (ks'.map mD)) v')(r:aQ v u)(a:aQ v' u'):OZ A s u u' (lexK ks ks'):=by obtain⟨g,f,e⟩:=rF ok A c h h' r a;intro prog w E Q d;exact wpAny_richCompare_same_room g f PySem.F.slot_list_lt (e prog w _ _ ⟨(λx=>nomatch x),d⟩) dz
end
def rLtK:R2:=λx y H Q=>∃ks a:List M,aH H (.lst (ks.map mD)) x/\aH H (.lst (a.map mD)) y/\Q (.bl (lexK ks a)) H
def T3 (j:X.A.units+64<cLine):jE X (compareOp .Lt) rLtK:=by intro a s d H x y v u Q I f e h;obtain⟨ks,c,i,g,q⟩:=h;have:=JO I.hok X.A dz i g f e X.prog X.w X.xe (EP X a d Q) ⟨.bl (lexK ks c),H,I,rfl,q⟩;exact this
end Lw
namespace Lw
open PySem PySem.Spec PyProof.Rows PySem.SeqAt PySem.W L2
noncomputable def kyD (d:D):D:=.lst ((key d).map mD)
def RV (ok:iC P w H s.heap)(A:en)(f:A.units+32<cLine)(h:aH H (kyD d) v)(h':aH H (kyD e) v')(r:aQ v u)(a:aQ v' u'){E:cE}{Q:Bool->ee->Prop}
  (q:Q (lexK (key d) (key e)) s):wpAny (model prog w') A (keyLt' oneType' u u') Q E s:=by
 obtain⟨t1,c,t3⟩:=rF ok A dz h h' r a;rw[keyLt'_oneType,oneLt'_eq,aj rfl];refine aa (wpAny_cRoomFor dz (aa (wpAny_callSpecialIfBound?_slot t1 F.slot_list_lt (t3 prog w' _ _ ?_))));exact wpAny_truthy_bool q
def EF {M:Model}{h:Heap}{l:Addr}{us:lX}(hl:h.IsList l us):Looks M h (typeOf (.ref l)) (.type "list"):=λA Q E s k q=>by obtain⟨o,ho,a,_⟩:=hl;exact wpAny_typeOf ⟨o,k _ _ ho,a⟩ q
noncomputable def ltI (ds:List D)(i j:Nat):Bool:=lexK (key (ds.getD i .non)) (key (ds.getD j .non))
def MJ (n:Nat)(ds:List D):WK n (ltI ds):=⟨λi=>pV _,λi j h=>nU h,λi j k c a=>tW a c⟩
def zC {ks is:dA}{i:Nat}(h:ks.length=is.length)(a:i<is.length):kas_item (ks.toArray.zip is.toArray) i=(ks.getD i .none,is.getD i .none):=by
 unfold kas_item;have d:i<(ks.toArray.zip is.toArray).size:=by simp;lia
 rw[Array.getD_eq_getD_getElem?,Array.getElem?_eq_getElem d];have c:i<ks.length:=by lia
 simp[a,c]
def pZ (h:Reps H ds vs)(a:i<ds.length):aH H (ds.getD i .non) (vs.getD i .non):=by
 obtain⟨v,c,r⟩:=Reps.get' h (ay a);have e:ds.getD i .non=ds[i]:=by simp[a]
 have d:vs.getD i .non=v:=by rw[List.getD_eq_getElem?_getD,c];rfl
 rw[e,d];exact r
def pY (h:aO vs us)(a:i<vs.length):aQ (vs.getD i .non) (us.getD i .none):=by
 obtain⟨u,c,r⟩:=h.get (ay a);have e:vs.getD i .non=vs[i]:=by simp[a]
 have d:us.getD i .none=u:=by rw[List.getD_eq_getElem?_getD,c];rfl
 rw[e,d];exact r
def A7 (h:Reps H ds vs):∀(l:List Nat),(∀i∈l,i<ds.length)->Reps H (l.map λi=>ds.getD i .non) (l.map λi=>vs.getD i .non)
 | [],_=>rfl
 | i::l,hl=>⟨_,_,rfl,pZ h (hl i ax),A7 h l λj a=>hl j (bc _ a)⟩
def AL (h:aO vs us):∀(l:List Nat),(∀i∈l,i<vs.length)->aO (l.map λi=>vs.getD i .non) (l.map λi=>us.getD i .none)
 | [],_=>.nil
 | i::l,hl=>.cons (pY h (hl i ax)) (AL h l λj a=>hl j (bc _ a))
def NG (ds:List D):(List.range ds.length).map (λi=>ds.getD i .non)=ds:=by
 apply List.ext_getElem
 ·simp
 ·intro i c a;simp[a]
def LG (hu:A.units+64<cLine)(I:aK X pins σ Hj s)(sH:aA H Hj)(r:fZ X pins Hj a)(F:fZ X pins Hj kS)(ne:kS≠a)(ha:s.heap.get? a=some (seqObj "list" #[] U))(hk:s.heap.get? kS=some (seqObj "list" kus.toArray e))
  (K:aO kvs kus) (J:Reps Hj (ds.map kyD) kvs) (Y:aO xs its) (rd:Reps H ds xs) (h2:2<=ds.length) (S:ds.length<64) {Pf:PySem.Fin->ee->Prop}
  (h:∀c ys es,aK X pins σ (upd Hj a (.lst ys)) c->es.Perm ds->es.Pairwise leK->Reps H es ys->Pf (.done (.ret .none)) c) :
  wpAny (model X.prog X.w) A (ksk_end a false its.toArray U (.ref kS) kus.toArray) Pf E s:=by
 have l1:=Reps.len J;rw[af]at l1;have l2:=K.length;have l3:=Reps.len rd;have l4:=Y.length;have O:kus.length=its.length:=by lia
 have n2:¬its.toArray.size<2:=by rw[ai];lia
 unfold ksk_end;dsimp only;rw[ab n2,ab n2,ab Bool.false_ne_true];have look:∀v∈kus,Looks (model X.prog X.w) s.heap (typeOf v) (.type "list"):=λv hv=>by
  obtain⟨i,d⟩:=List.getElem?_of_mem hv;have hi':=(cx.mp d).1;have r1:=pZ J (i:=i) (by rw[af];lia);have Z:=pY K (i:=i) dz;have ek:kus.getD i .none=v:=by rw[List.getD_eq_getElem?_getD,d];rfl
  rw[ek]at Z;have L:(ds.map kyD).getD i .non=kyD (ds.getD i .non):=by
   have:i<ds.length:=by lia
   simp[this]
  rw[L]at r1;obtain⟨l,_,us,rfl,_,_,hl⟩:=uB I.hok r1 Z;exact EF hl
 refine aa (kas_kind (vs:=kus) dz look dw dw ?_);have T:SortSt.mk' oneType' (kus.toArray.zip its.toArray) #[] 7 none=kas_st oneType' (kus.toArray.zip its.toArray) (List.toArray (List.range ds.length)):=by
  have e:=kas_range (kus.toArray.zip its.toArray);have z:(kus.toArray.zip its.toArray).size=ds.length:=by simp;lia
  rw[z]at e;unfold kas_st;rw[e]
 have run:=kas_runs (prog:=X.prog) (w:=X.w) (A:=A) (E:=E) (κ:=oneType') (it:=kus.toArray.zip its.toArray) (n:=ds.length) (s:=s)
  (Q:=λ_ f c=>c=s/\∃p:Array Nat,Gd ds.length p/\Up (ltI ds) p ds.length/\arrOf f=p.map (kas_item (kus.toArray.zip its.toArray))/\failedOf f=none)
  (G:=λp c=>c=s/\Gd ds.length p/\Up (ltI ds) p ds.length) h2 S (λp' f c _ a2 a3 W=>⟨W.1,p',W.2.1,W.2.2,a2,a3⟩) ?ask
 case ask =>
  refine HU (n:=ds.length) (lt:=ltI ds) (λc=>c=s) ?_ (λp c U e2=>⟨U,e2⟩) (KD (MJ ds.length ds) dz) s rfl;intro i j C c d hj es hC;subst es;unfold kas_cmp;rw[zC O dz,zC O dz];have g1:=pZ J (i:=i) (by rw[af];lia);have g2:=pZ J (i:=j) (by rw[af];lia);have L:∀i,i<ds.length->(ds.map kyD).getD i .non=kyD (ds.getD i .non):=λi d=>by simp[d]
  rw[L i d]at g1;rw[L j hj]at g2;exact RV I.hok A dz g1 g2 (pY K dz) (pY K dz) (hC _ rfl)
 rw[<-T]at run;refine aa (wpAny_mono run ?_ λ_ _ z=>z);rintro⟨⟨⟩,f⟩ c ⟨rfl,p,q,up,R,hf⟩;have ho:(arrOf f).map (·.2)=(p.toList.map λi=>its.getD i .none).toArray:=by
  rw[R];apply Array.toList_inj.mp;rw[Array.map_map,Array.toList_map];refine List.map_congr_left λi d=>?_;have:i<ds.length:=by
   have:=(Array.perm_iff_toList_perm.mp q).mem_iff.mp d
   simpa using this
  show(kas_item (kus.toArray.zip its.toArray) i).2=_;rw[zC O dz]
 have inn:∀i∈p.toList,i<ds.length:=λi d=>by
  have:=(Array.perm_iff_toList_perm.mp q).mem_iff.mp d
  simpa using this
 have pl:p.toList.length=ds.length:=by rw[bw,q.size]
 unfold ksk_tail;dsimp only;rw[ho];refine aa (listUpdate_at hk rfl ?_ (aq (m:=64) (by rw[ai];lia) dw) (aw _));refine aa (wpAny_letGo ?_);have B:=Heap.SameBut.update c.heap kS (Obj.mapSeq λ_=>(#[]:lX));have g:=(B.2 a ne.symm).trans ha;have I1:=I.turned (t':=c.toks) (λb o P z=>(B.2 b P).trans z) F.1 F.2.1 F.2.2.2.1 F.2.2.2.2.1 F.2.2.2.2.2;refine aa (seqEpoch_at g rfl ?_);refine aa (listUpdate_at g rfl ?_ (aw _) (aq (m:=64) (by simp only[Bool.false_eq_true,if_false];rw[ai,af];lia) dw));rw[hf];simp only[bne_self_eq_false,if_false,Bool.false_eq_true];have N:=Heap.SameBut.update (c.heap.update kS (Obj.mapSeq λ_=>(#[]:lX))) a (Obj.mapSeq λ_=>(p.toList.map λi=>its.getD i .none).toArray);have I2:=I1.turned (t':=c.toks) (λb o P z=>(N.2 b P).trans z) r.1 r.2.1 r.2.2.2.1 r.2.2.2.2.1 r.2.2.2.2.2;have ga:=get?_update_seq g λ_=>(p.toList.map λi=>its.getD i .none).toArray;have I3:=I2.adopt (o:=.lst (p.toList.map λi=>xs.getD i .non)) r ⟨aq (m:=64) (by rw[af];lia) dw,_,_,AL Y p.toList (λi d=>by have:=inn i d;lia),ga⟩;refine ao (h _ _ (p.toList.map λi=>ds.getD i .non) I3 ?_ ?_ (A7 rd p.toList inn))
 ·have:=(Array.perm_iff_toList_perm.mp q).map (λi=>ds.getD i .non);rw[List.toList_toArray,NG]at this;exact this
 ·rw[List.pairwise_map,List.pairwise_iff_getElem];intro i j d hj hij;have u:=up i j dz dz;have ei:pa p i=p.toList[i]:=by
   have:i<p.size:=by rw[q.size];lia
   simp[pa,Array.getD,this]
  have ej:pa p j=p.toList[j]:=by
   have:j<p.size:=by rw[q.size];lia
   simp[pa,Array.getD,this]
  rw[ei,ej]at u;exact u
def NN {k:Nat}{f:Addr}{fd:FuncData}{ps:bA}(F:hZ X.prog X.w X.K X.mg X.base lY k f fd ps spKey)(T:eH X.K fd ps [])(R:eG k A)(S:A.frames=some X.stack)(I:aK X pins σ Hj s)(C:fZ X pins Hj a)(B:fZ X pins Hj kS){j ok:Obj}(L:s.heap.get? a=some j)(J:s.heap.get? kS=some ok){d:D}{v:V}{u:ef}(O:aH Hj d v)(fl:Fl d)(nd:nds d<=1000)(r:aQ v u)
  {Q:cE} {E:cE} (h:∀g m H' c,aK X pins σ H' c->aA Hj H'->H' a=none->H' kS=none->c.heap.get? a=some j->c.heap.get? kS=some ok->aH H' (kyD d) g->aQ g m->Q m c) :
  wpAny (model X.prog X.w) A (call (.ref f) [u]) Q E s:=by
 have e:=I.env0;have G:spKey [v] Hj (λg H'=>aA Hj H'/\aH H' (kyD d) g) E0:=⟨d,v,rfl,O,fl,nd,λl H' c hl rep=>⟨c,aH.same (λb o z=>(lO.mp z).2) rep⟩⟩
 have hl:[u].length=ps.length:=F.len _ _ _ _ G;have H:∀b,fZ X pins Hj b->b∉frs X.stack:=λb N z=>(cz.mp (I.stkSub b z)).elim N.2.1 N.2.2.1;refine wpAny_call (codeAny_mono (F.run A X.stack s Hj ⟨[u],[]⟩ [u] [v] _ E0 R ⟨S,e.mod,e.bs,e.bsz,e.funs,e.frf,e.hok,e.bare⟩ (by have:=T s [u] I.kIn (by simpa using hl);simpa using this) (.cons r .nil) G) λres c i=>?_);cases res with
 | error x=>exact i.elim
 | ok q =>
  cases q with
  | ret m =>
   obtain⟨g,H',os,bare,un,hok,P,sm,rep⟩:=i;have I':=I.call' (ch:=[]) os un hok bare (λb z=>absurd z dV);exact h g m H' c I' sm (un.free a j L C.1 dV) (un.free kS ok J B.1 dV) (un.keep a j L C.1 (H a C) dV) (un.keep kS ok J B.1 (H kS B) dV) rep P
  | next=>exact i.elim
  | brk=>exact i.elim
  | cont=>exact i.elim
def IK {k:Nat}{f:Addr}{fd:FuncData}{ps:bA}(F:hZ X.prog X.w X.K X.mg X.base lY k f fd ps spKey)(W:eH X.K fd ps [])(hr:eG k A)(he:A.frames=some X.stack)(I:aK X pins σ H s)(fa:fZ X pins H a)(P:fZ X pins H kS)(ne:kS≠a)
  (ha:s.heap.get? a=some (seqObj "list" #[] e1)) (hk:s.heap.get? kS=some (seqObj "list" #[] 0)) (Q:aO xs its) (rd:Reps H ds xs) (fl:∀d∈ds,Fl d/\nds d<=1000) (h2:2<=ds.length) (Z:ds.length<64) {Pf:PySem.Fin->ee->Prop}
  (h:∀q H' ys es,aK X pins σ (upd H' a (.lst ys)) q->aA H H'->H' a=none->es.Perm ds->es.Pairwise leK->Reps H es ys->Pf (.done (.ret .none)) q) :
  wpAny (model X.prog X.w) A (ksk_rest a (.ref f) false its.toArray e1 (.ref kS)) Pf E s:=by
 have hu:=hr.units;have l3:=Reps.len rd;have l4:=Q.length;unfold ksk_rest;refine aa (wpAny_rule ?_);rw[List.forIn_toArray]
 refine aa (ksk_fold (λj q=>∃(Hj:Hp) (c:List V) (g:dA) (e:Nat),aK X pins σ Hj q/\aA H Hj/\Hj a=none/\Hj kS=none/\q.heap.get? a=some (seqObj "list" #[] e1)/\q.heap.get? kS=some (seqObj "list" g.toArray e)/\aO c g/\Reps Hj ((ds.take j).map kyD) c) its 0 s
  ⟨H,[],[],0,I,aA.refl _,fa.1,P.1,ha,hk,.nil,rfl⟩ ?step ?done)
 case step =>
  rintro j x q hx ⟨Hj,c,g,e,I',sm,O,S,r,l,N,B⟩;rw[Nat.zero_add]at B|-;have hj:j<its.length:=(cx.mp hx).1;have hd:ds[j]?=some ds[j]:=ay dz;obtain⟨v,hv,rv⟩:=Reps.get' rd hd;obtain⟨u,J,ru⟩:=Q.get hv;rw[hx]at J;cases J;have lr:=Reps.len B;rw[af,bz]at lr;have lk:=N.length;have hf:=fl ds[j] (bn hd);refine aa (wpAny_attempt (NN F W hr he I' (fa.at O) (P.at S) r l (aH.same sm rv) hf.1 hf.2 ru λkv U H' s2 I2 C T G Y L rep R=>?_));have sb:=Heap.SameBut.update s2.heap kS (Obj.mapSeq (·.push U));have gk:=get?_update_seq L (·.push U);refine aa (listUpdate_at L rfl ?_ (aq (m:=64) (by rw[ai];lia) dw) (aq (m:=65) (by rw[Array.size_push,ai];lia) dw));have i:=P.at G;refine ao ⟨rfl,H',c++[kv],g++[U],_,I2.turned (t':=s2.toks) (λb o W z=>(sb.2 b W).trans z) i.1 i.2.1 i.2.2.2.1 i.2.2.2.2.1 i.2.2.2.2.2,sm.trans C,T,G,(sb.2 a ne.symm).trans Y,by rw[gk,List.push_toArray],N.append (.cons R .nil),?_⟩;rw[aR hd,az];exact Reps.snoc rep (Reps.same C B)
 case done =>
  rintro q ⟨Hj,c,g,e,I',sm,O,S,r,l,N,B⟩;rw[Nat.zero_add,<-l4,l3,bI]at B;exact aa (listItems_at l rfl (LG dz I' sm (fa.at O) (P.at S) ne r l N B Q rd h2 Z λs2 ys es I2 a1 a2 a3=>h s2 Hj ys es I2 sm O a1 a2 a3))
def EY {k:Nat}{f l:Addr}{fd:FuncData}{ps:bA}(F:hZ X.prog X.w X.K X.mg X.base lY k f fd ps spKey)(j:eH X.K fd ps [])(L:eG (k+2) X.A)(I:aK X pins σ H s)(hl:H l=some (.lst xs))(rd:Reps H ds xs)(fl:∀d∈ds,Fl d/\nds d<=1000)(N:2<=ds.length)(q:ds.length<64){Q:VK}
  (h:∀i ys es H',aA H H'->H i=none->H' i=some (.lst ys)->es.Perm ds->es.Pairwise leK->Reps H es ys->Q (.ref i) H') :
  wX X (call (.builtin "sorted") [.ref l] [(Str.ofString "key",.ref f)]) (EP X pins σ Q) E s:=by
 obtain⟨its,v,pl,hz⟩:=I.list (d5.of hl);have l3:=Reps.len rd;have l4:=v.length;refine call_function_entry_kw kind_sorted plain_sorted entry_sorted (ksk_s1 _ _) ?_;unfold Builtin.«sorted»;refine aa (m:=checkCount "sorted" 1 1 _) (ao (aa (collect_list pl.isList ?_ dz)));refine aa (wpAny_newList ?_ dz);have C:∀b o,s.heap.get? b=some o->((s.heap.push (seqObj "list" #[] 0)).update s.heap.objs.size (Obj.mapSeq λx=>x++its.toArray)).get? b=some o:=λb o e=>by have lt:=bf e;rw[Heap.get?_update_ne _ _ _ _ (bv lt)];exact ag _ e
 have g:s.heap.objs.size<=((s.heap.push (seqObj "list" #[] 0)).update s.heap.objs.size (Obj.mapSeq λx=>x++its.toArray)).objs.size:=by
  rw[Heap.size_update,Heap.size_push]
  lia
 dsimp only;generalize (s.heap.push (seqObj "list" #[] 0)).update s.heap.objs.size (Obj.mapSeq λx=>x++its.toArray)=h1 at C g|-;have Y:aK X pins σ H {s with heap:=h1.push (seqObj "list" its.toArray 0)}:=I.kept (t':=s.toks) λb o e=>ag _ (C b o e);have B:=I.hok.fresh g;have a:=I.fpOk g B;have c:(h1.push (seqObj "list" its.toArray 0)).get? h1.objs.size=some (seqObj "list" its.toArray 0):=av _ rfl;refine aa (cq (wpAny_call_entry_kw slot_list_sort ⟨_,c,rfl⟩ entry_list_sort ?body (ksk_l1 _ _)));show wpAny (model X.prog X.w) X.A.in1.in1 (ksk_tree h1.objs.size (.ref f) false) _ _ _;unfold ksk_tree;refine aa (listItems_at c rfl ?_);refine aa (listUpdate_at c rfl ?_ (by rw[ai];lia) (aw _));have G:=Heap.SameBut.update (h1.push (seqObj "list" its.toArray 0)) h1.objs.size (Obj.mapSeq λ_=>(#[]:lX));have r:=get?_update_seq c λ_=>(#[]:lX)
 have W:=Y.turned (t':=s.toks) (λb o j z=>(G.2 b j).trans z) a.1 a.2.1 a.2.2.2.1 a.2.2.2.2.1 a.2.2.2.2.2;refine aa (seqEpoch_at r rfl ?_);refine aa (wpAny_newTuple ?_ (by show its.length<=_;lia));refine aa (wpAny_newList (cq ?_) (aw _));have u:=W.kept (t':=s.toks) λb o e=>ag {cls:=.type "tuple",data:=.seq its.toArray} e;have U:=u.kept (t':=s.toks) λb o e=>ag {cls:=.type "list",data:=.seq #[]} e;have P:=u.fpOk (ac _) (u.hok.fresh (ac _));have O:=ag {cls:=.type "list",data:=.seq #[]} (ag {cls:=.type "tuple",data:=.seq its.toArray} r);refine IK F j L.in1.in1 (I.ok.frames) U a P (λz=>?_) O (av _ rfl) v rd fl N q λs' H' ys es Z sm J T S R=>⟨_,rfl,ao ⟨_,rfl,.ref h1.objs.size,_,Z,rfl,h _ ys es _ (sm.trans (aA.upd J)) B ew T S R⟩⟩
 have lt:=bf (ag {cls:=.type "tuple",data:=.seq its.toArray} r);exact Nat.ne_of_gt lt z
def S1 (f:TA):TE:=λe H Q=>f e H λvs a=>∃l xs ds,vs=[.ref l]/\a l=some (.lst xs)/\Reps a ds xs/\(∀d∈ds,Fl d/\nds d<=1000)/\2<=ds.length/\ds.length<64 /\
 ∀c ys es H',aA a H'->a c=none->H' c=some (.lst ys)->es.Perm ds->es.Pairwise leK->Reps a es ys->Q (.ref c) H'
def DR (O:RZ X.prog X.w X.K X.mg X.base lY k "order_key" spKey)(J:eG (k+2) X.A)(L:Gl X "sorted")(hm:X.mg "sorted" = none)(g:Gl X "order_key")(S:PA X [e] ta)
  (P:backTo pos (starEach [e] X.env)=(false,eval e X.env)::backTo pos (starEach [] X.env):=by rfl) (d:(backTo pos (starEach [e] X.env)).any (·.1)=false:=by rfl):PE X (.Call (.Name "sorted" p) [e] [⟨some "key",.Name "order_key" p3,kpos⟩] pos) (S1 ta):=by
 obtain⟨f,fd,ps,F,N,hk,R⟩:=O;intro a s j H Q I h;refine wpAny_Call_Name_kw (kG I L hm (u:=.builtin "sorted") rfl ?_);refine callWith_kw (thn (S pos a s j H _ I h) λus r ⟨vs,o,Z,r1,B⟩=>?_) P d;have C:PK X [⟨some "key",.Name "order_key" p3,kpos⟩] (tCons (tC (.ref f)) tNil):=P0 (fW ⟨_,N,rfl⟩ g) TN;refine thn (C pos a r j o (λvs m=>vs=[.ref f]/\m=o) Z ⟨rfl,rfl⟩) λG s2 ⟨E,m,Y,z,W,U⟩=>?_;subst W U;obtain⟨ku,rfl,c⟩:=aO.one z;cases c;obtain⟨l,xs,ds,rfl,hl,rd,fl,T,i,q⟩:=B;obtain⟨u,rfl,v⟩:=aO.one r1;cases v;exact EY F R J Y hl rd fl T i q
end Lw
namespace Lw
open PySem PySem.Spec PyProof.Rows L2
noncomputable def UR (e:Expr):Arguments:=match e with
 | .Lambda a _ _ _=>a
 | _=>default
noncomputable def US (e:Expr):Expr:=match e with
 | .Lambda _ b _ _=>b
 | e=>e
noncomputable def lamSc (e:Expr):Scope:=match e with
 | .Lambda _ _ s _=>s
 | _=>default
noncomputable def UQ (e:Expr):Pos:=match e with
 | .Lambda _ _ _ p=>p
 | _=>⟨0,0,0,0⟩
structure Lk where
 e:Expr
 q:Str
 f:Str
 g:bL->Str->List D->D
 h:bL->D->D
 ok:List D->Prop
 cd:bL->D->Prop
noncomputable abbrev Lk.p (L:Lk):Arguments:=UR L.e
noncomputable abbrev Lk.b (L:Lk):Expr:=US L.e
noncomputable abbrev Lk.s (L:Lk):Scope:=lamSc L.e
noncomputable abbrev Lk.x (L:Lk):Pos:=UQ L.e
def spL (L:Lk)(K:d6)(C:Addr):Sp:=λvs H Q _=>∃(g:Addr) (fx:cV) (sm:bL) (n:Str) (a:Addr) (ds:List D) (ws:List V),vs=[.ref g,.str n,.ref a]/\iK K C fx sm H g/\H a=some (.lst ws)/\Reps H ds ws/\L.ok ds /\
 ∀(c:V) (H':Hp),aA H H'->aH H' (L.g sm n ds) c->Q c H'
noncomputable def lkT:Lk where
 e:=match bZ dI with
  | [.Return (some (.Call _ [_,_,e] _ _)) _]=>e
  | _=>.Name "" ⟨0,0,0,0⟩
 q:="put_in.<locals>.<lambda>"
 f:="flat_of_parts"
 g:=knot
 h:=flt
 ok:=λds=>Fls ds/\szs ds<=60/\ndss ds<=1000/\depDs ds<=50
 cd:=λsm d=>(∀r∈sm,r.2=("" : Str)\/Fl (.str r.2))/\sz d<=60/\nds d<=1000/\depD d<=50
end Lw
namespace Lw
open PySem L2
def MQ (n z:Str)(d:D)(fd:Fl d):opn1 n z d=if eqD d (.str z)=true then []else opP n d:=by
 rcases nE fd with⟨x,rfl,_⟩|⟨m,es,rfl,_⟩
 ·rfl
 ·have e:eqD (.tup (.str m::es)) (.str z)=false:=rfl;rw[e,ab dw];rfl
theorem rG:∀(ds l:List D),(∀d∈ds,Fl d)->(∀d∈l,Fl d)->l.Pairwise leK->(ds.foldl (λl d=>insA d l) l).Pairwise leK
 | [],l,_,_,h=>h
 | d::ds,l,hd,hl,h=>by
  refine rG ds (insA d l) (λe a=>hd e (bc _ a)) (λe a=>?_) (rH (hd d ax) hl h);rcases cz.mp ((nW d l).mem_iff.mp a)with rfl|a
  ·exact hd _ ax
  ·exact hl e a
def eV (h:∀d∈ds,Fl d):(fA ds).Pairwise leK:=rG ds [] h (λ_ h=>by cases h) .nil
def IJ (h:∀d∈ds,Fl d)(p:es.Perm ds)(s:es.Pairwise leK):es=fA ds :=
 jM (λd hd=>h d (p.mem_iff.mp hd)) (p.trans (bH ds).symm) s (eV h)
def pR:∀{ds:List D} {d:D},d∈ds->nds d<=ndss ds
 | e::ds,d,h=>by
  rw[ndss];obtain rfl|h:=cz.mp h
  ·lia
  ·have:=pR h;lia
def MO (n z:Str)(d:D):ndss (opn1 n z d)<=nds d:=by
 unfold opn1;split
 ·split
  ·rw[nds];lia
  ·rw[ndss,ndss];lia
 ·split
  ·rw[ndss];lia
  ·rw[ndss,ndss];lia
def yT (n z:Str):∀ds:List D,ndss (opn n z ds)<=ndss ds
 | []=>ac _
 | d::ds=>by rw[aY,dN,ndss];have:=MO n z d;have:=yT n z ds;lia
def wJ:Sp:=λvs H Q _=>∃(n z:Str) (a:Addr) (ds:List D) (ws:List V),vs=[.str n,.str z,.ref a]/\H a=some (.lst ws)/\Reps H ds ws/\Fls ds/\szs ds<=60/\ndss ds<=1000/\depDs ds<=50 /\
 ∀(c:V) (H':Hp),aA H H'->aH H' (one n z (fA (opn n z ds))) c->Q c H'
def YK (a l:Addr)(n z:Str)(ds:List D)(H:Hp)(i:Nat)(d:St)(c:Hp):Prop:=∃(us:List V) (o:Option V),d=[some (.str n),some (.str z),some (.ref a),some (.ref l),o]/\c l=some (.lst us)/\aA H c/\Reps c (opn n z (ds.take i)) us
def D6 (F:iE K "flat_sum" jR f fd)(T:Txt mg)(j:Ow P w K mg base 1 "opened" qK)(g:Ow P w K mg base 2 "order_key" spKey):iX P w K mg base 5 f fd jR wJ:=by
 refine F.okL mG λ_ _ _ _ H _ _ _ hr hu h=>?_;obtain⟨n,z,a,ds,ws,rfl,R,rd,E,s60,X,d50,q⟩:=h;refine⟨_,(pss5 (bJ 3 mG.nd (bW gA)) (iA (gF K (pv 2)) (gV 4 mG.nd) (aE (bC (aJ (lN hu) (pv 4) (pv 1)) (aE (bX (fX di PySem.F.slot_list_extend PySem.F.type_list_extend jC (pv 3) (pa1 (aS j hr (pa2 (pv 0) (pv 4))))))) aG))) (bC (cS (fV K (pv 3))) (aE (aF (pv 1))) aG) (bC (aJ (eA hu) (cW bK T.n_len (pa1 (pv 3))) aB) (aE (aF (aV (pv 3) aB))) aG) (aF (bR dY rfl T.n_tuple rfl (pa1 (aX bF (bW (pa1 (pv 0))) (DR g (hr.mono dw) rfl T.n_sorted rfl (pa1 (pv 3)))))))),?_⟩
 ac_nf
 exists k1;refine⟨dw,λl hl=>k1 ?_⟩;exists k2;refine⟨_,rfl,a,ws,rfl,.inl (upk (aC R hl) R),λJ hJ=>?_⟩;have W:aA H (upd H l (.lst [])):=aA.upd hl;have h1:upd H l (.lst []) l=some (.lst []):=ew;generalize upd H l (.lst [])=H1 at W h1 hJ|-;have v:∀i,(opn n z (ds.take i)).length<=60:=λi=>by
  have h1:=rY (opn n z (ds.take i));have A:=DX n z (ds.take i);have h3:=K5 i ds
  lia
 have lw:=Reps.len rd;refine gZ hJ (YK a l n z ds H) ⟨[],none,rfl,h1,W,rfl⟩ (by rintro i σ H' _ ⟨_,_,_,_,s2,_⟩;rw[s2 _ _ R,W _ _ R]) ?_ ?_
 ·rintro i x σ H2 hx ⟨us,o,rfl,A,s2,m⟩;obtain⟨d,hd,rx⟩:=Reps.get rd hx;have fd:=E.get hd;have dd:=fL hd;have C:=Reps.len m;have I:=MQ n z d fd;refine⟨_,rfl,_,rfl,d,.str z,aH.same s2 rx,rfl,dz,_,rfl,aW (λr=>?_) (λr=>?_)⟩
  rotate_left
  ·have r:eqD d (.str z)=true:=by cases c:eqD d (.str z)with|true=>rfl|false=>rw[c]at r;cases r
   rw[r,aj rfl]at I;exact⟨us,_,rfl,A,s2,by rw[aR hd,pQ,I,bu];exact m⟩
  ·rw[ab (λc=>by rw[c]at r;cases r)]at I;refine⟨_,rfl,tyL A,_,rfl,_,rfl,n,d,x,rfl,aH.same s2 rx,fd,λO L H3 N hl2 h3 r3=>?_⟩;have l3:=N _ _ A;have lv:=Reps.len r3;have sm:=v (i+1);rw[aR hd,pQ,au,I]at sm;have f2:Fls (opn n z (ds.take i)++opP n d):=by rw[<-I,<-pQ,<-aR hd];exact qN (fB λe r=>bQ E e (List.mem_of_mem_take r))
   refine⟨l,O,us,L,rfl,rfl,l3,.inl h3,leSz,us++L,_,rfl,ew,λb o hb=>upk (aC hb hl) (N _ _ (s2 _ _ hb)),?_⟩;rw[aR hd,pQ,I];exact Reps.tups (aN.lst l3) f2 (Reps.append (Reps.same N m) (Reps.same N r3))
 ·rintro σ H2 ⟨us,o,rfl,A,s2,m⟩;rw[lw,bI]at m;have G:=qN (n:=n) (z:=z) E;have C:=Reps.len m;have sm:=v ds.length;rw[bI]at sm;have nn:=yT n z ds;refine k2 ⟨_,rfl,!us.isEmpty,.inl ⟨us,d5.of A,rfl⟩,?_⟩;generalize hos:opn n z ds=os at G C sm nn m q
  match os,G,C,sm,nn,m,q with
  | [],G,C,sm,nn,m,q =>
   cases (show us=[]from m);exact aW (λ_=>⟨_,rfl,q _ _ s2 rfl⟩) λc=>nomatch c
  | [d],G,C,sm,nn,⟨u,_,e,h,e'⟩,q =>
   subst e;cases (show _=[]from e');exact aW (λc=>nomatch c) λ_=>⟨_,rfl,_,.int ([u].length:Int),rfl,by dsimp only;rw[lenV_l A];rfl,eqIC ⟨_,rfl,aW (λ_=>⟨_,rfl,u,by rw[ixV_l A];exact atI_zero,q _ _ s2 h⟩) λc=>nomatch c⟩⟩
  | d::d2::B,G,C,sm,nn,m,q =>
   have O:us.length=B.length+2:=by rw[C];rfl
   have ne:us≠[]:=λz=>by rw[z]at O;simp at O
   refine aW (λc=>by cases us with|nil=>exact absurd rfl ne|cons a b=>cases c) λ_=>⟨_,rfl,_,.int (us.length:Int),rfl,by dsimp only;rw[lenV_l A];rfl,eqIC ⟨_,rfl,aW (λc=>absurd (bx c) dz) λ_=>⟨_,rfl,szl 1,λp hp=>?_⟩⟩⟩
   obtain⟨H3,zN,S,Y⟩:=nwH (.lst [.str n]) hp;rw[zN];have all:∀e∈d::d2::B,Fl e:=bQ G;refine⟨_,rfl,l,us,d::d2::B,rfl,S _ _ A,Reps.same S m,λe r=>⟨all e r,by have:=pR r;lia⟩,dV,by simp only[ar]at sm|-;lia,λl' ys es H4 U hl' h4 pm so re=>?_⟩;have ees:=IJ all pm so;have ly:=Reps.len re;have le:=pm.length_eq;refine .inr ⟨.lst (.str n::ys),n5 (U _ _ Y) h4 (leSz (by simp only[ar,List.length_nil]at sm le|-;lia)),λp5 Z=>⟨_,.str n::ys,rfl,.inl ew,λl6 H6 Q=>?_⟩⟩;rcases Q with⟨Q,_⟩|⟨_,hl6,rfl⟩
   ·rw[ew]at Q;cases Q
   ·have s6:aA H4 (upd (upd H4 p5 (.lst (.str n::ys))) l6 (.tup (.str n::ys))):=(aA.upd Z).trans (aA.upd hl6);refine q _ _ ((s2.trans (S.trans U)).trans s6) ?_;rw[MV (by rw[(bH _).length_eq];simp),<-ees];exact⟨l6,_,rfl,ew,.str n,ys,rfl,rfl,Reps.same (U.trans s6) re⟩
abbrev wI (K:d6)(C:Addr):Sp:=spL lkT K C
def D3 (F:iE K "flat_of_parts" eP f fd)(T:Txt mg)(e:uV P w K mg base lY 1 C "nought" (kM K C))(d:Ow P w K mg base 5 "flat_sum" wJ):iX P w K mg base 6 f fd eP (wI K C):=by
 refine F.okL kO λ_ _ _ _ H _ _ _ G _ h=>?_;obtain⟨g,O,sm,n,a,ds,ws,rfl,sg,r,rd,⟨u,l,i,A⟩,q⟩:=h;refine⟨_,(pss3 (bJ 3 kO.nd (oN e (G.mono dw) pass0 (pv 0) (pa1 (pv 1)))) (bC (aJ tP (pv 3) eZ) (aE (aF (bR dY rfl T.n_tuple rfl (pa1 (aX bF (bW (pa1 (pv 1))) (pv 2)))))) aG) (aF (aS d G (pa3 (pv 1) (pv 3) (pv 2))))),?_⟩
 ac_nf
 obtain⟨Q,fs,_,_,N,_,L,_⟩:=sg.ex;refine⟨_,rfl,g,Q,fs,rfl,N,L,_,rfl,g,n,O,sm,rfl,sg,?_⟩;dsimp only[lkT]at q;unfold knot at q;cases hz:zr sm n with
 | none =>
  have v:nulV sm n = .non:=by unfold nulV;rw[hz];rfl
  rw[hz]at q;rw[v];refine⟨_,rfl,rfl,_,rfl,aW (λ_=>?_) (λc=>nomatch c)⟩;have R:=Reps.len rd;have:=rY ds;refine⟨_,rfl,szl 1,λp I=>⟨_,rfl,.inr ⟨.lst (.str n::ws),n5 ew (upk (aC r I) r) (leSz),λJ m=>⟨_,.str n::ws,rfl,.inl ew,λE S j=>?_⟩⟩⟩⟩;rcases j with⟨j,_⟩|⟨_,o,rfl⟩
  ·rw[ew]at j;cases j
  ·have B:aA H (upd (upd (upd H p (.lst [.str n])) J (.lst (.str n::ws))) E (.tup (.str n::ws))):=((aA.upd I).trans (aA.upd m)).trans (aA.upd o);exact q _ _ B ⟨E,_,rfl,ew,.str n,ws,rfl,rfl,Reps.same B rd⟩
 | some z =>
  have v:nulV sm n = .str z:=by unfold nulV;rw[hz];rfl
  rw[hz]at q;rw[v];exact⟨_,rfl,rfl,_,rfl,aW (λc=>nomatch c) λ_=>⟨_,rfl,_,rfl,_,rfl,n,z,a,ds,ws,rfl,r,rd,u,l,i,A,q⟩⟩
end Lw
namespace L2
open PySem PySem.Spec PyProof.Rows
def F4 {X:Cx}(K:d6)(g:X.K=K){o:Expr}{to:TE}{name:Str}{c a:Pos}{T id:String}{r:V->List V->Hp->VK->Prop}(pa:PlainAttrs T)(slot:Slot T name id)(f:typeOf (.builtin id)=pure (.type "method_descriptor"))(hm:W0 X id r)(ho:PE X o to)
  (e:attributeBase o name X.env (eval o X.env)=eval o X.env:=by rfl) (d:(c.endLine == a.line)=true:=by rfl):PE X (.Call (.Attribute o name c) [] [] a) (tBM0 K T r to):=by
 subst g;exact oO pa slot f hm ho e d
noncomputable abbrev pinO (a:Addr)(o:Obj):HO:=.ext λh=>h.get? a=some o
def yQ (e:h.get? a=some o):cD P w H h a (pinO a o):=⟨e,⟨o,e⟩,λd c q k=>k o q⟩
def pO (ok:iC P w H h)(e:H a=some (pinO a o)):h.get? a=some o:=(ok a _ e).1
noncomputable def del1 (H:Hp)(p:Addr):Hp:=λb=>if b=p then none else H b
def OB (h:del1 H p b=some o):H b=some o/\b≠p:=by
 unfold del1 at h;by_cases e:b=p
 ·rw[aj e]at h;cases h
 ·rw[ab e]at h;exact⟨h,e⟩
def jI (h:H b=none):del1 H p b=none:=by
 unfold del1;split
 ·rfl
 ·exact h
def dX (h:b≠p):del1 H p b=H b:=by unfold del1;rw[ab h]
def nZ:del1 H p p=none:=by unfold del1;rw[aj rfl]
def iC.del {P:eg}{w:eh}{H:Hp}{h:Heap}{c:Addr}{d:Heap->Prop}(ok:iC P w H h)(e:H c=some (.ext d)):iC P w (del1 H c) h:=λa o q=>by obtain⟨f,g⟩:=OB q;exact(ok a o f).stay (λ_ _ _ z=>z) (λb z=>by rw[dX (λw=>by rw[w,e]at z;cases z)];exact z) (λb xs z=>by rw[dX (λw=>by rw[w,e]at z;cases z)];exact z)
def iC.back (ok:iC P w H h)(n:H c=none)(e:h.get? c=some o):iC P w (upd H c (pinO c o)) h:=λa u q=>by
 by_cases z:a=c
 ·subst z;rw[ew]at q;cases q;exact yQ e
 ·rw[bG z]at q;exact(ok a u q).stay (λ_ _ _ z=>z) (λb z=>upk (aC z n) z) (λb xs z=>upk (aC z n) z)
end L2
namespace Lw
open PySem PySem.Spec PyProof.Rows L2
noncomputable abbrev oL (L:Lk)(c0 c':Addr)(pm ctv:ef):Obj:=PySem.W.kla_obj "<lambda>" L.q L.p L.b L.s [("signs",c0)] pm c' ctv
noncomputable abbrev envL (L:Lk)(l fl c0 c':Addr):Env:=newEnv L.s l mainGlobals [("signs",c0)] (L.q++".<locals>.") (some fl) (.ref c') none builtinsNs
noncomputable def cxL (L:Lk)(P:eg)(w:eh)(K:d6)(mg:jD)(base:Heap)(A:en)(outer:List Env)(s:ee)(H:Hp)(fl c0 c':Addr):Cx where
 prog:=P
 w:=w
 K:=K
 mg:=mg
 base:=base
 A:=A.deeper (envL L s.heap.objs.size fl c0 c')
 N:=["name","parts","signs"]
 s₀:=s
 H₀:=H
 env:=envL L s.heap.objs.size fl c0 c'
 outer:=outer
 stack:=envL L s.heap.objs.size fl c0 c'::outer
 ex:=[]
 fn:=λ_=>false
 calm:=true
 pn:=[]
 xe:=λ_ _=>False
structure FA (L:Lk):Prop where
 fr:∀y∈L.s.names,(y.2 = .cell\/y.2 = .free)->y.1=("signs" : Str)
 nc:∀x∈L.s.names,x.2≠.cell
 nl:L.s.names.lookup ("name" : Str)=some .local/\L.s.names.lookup ("parts" : Str)=some .local/\L.s.names.lookup ("signs" : Str)=some .free
 ki:L.s.kind = .function
 co:L.s.isCoroutine=false
 ge:L.s.isGenerator=false
 df:∀env,defaultsOf L.p env=([],[])
 bd:∀(c0:Addr) (pm cv ct u1 u2:ef),bindArgs (PySem.W.kla_fn "<lambda>" L.q L.p L.b L.s [("signs",c0)] pm cv ct) ⟨[u1,u2],[]⟩=pure [(("name" : Str),u1),(("parts" : Str),u2)]
 bo:∀{P:eg} {w:eh} {K:d6} {mg:jD} {base:Heap} {A:en} {outer:List Env} {s:ee} {H:Hp} {fl c0 c':Addr} {k:Nat} {sp:Sp},Ow P w K mg base k L.f sp->eG k (cxL L P w K mg base A outer s H fl c0 c').A->PE (cxL L P w K mg base A outer s H fl c0 c') L.b (tCall sp [] E0 (tCons (tVar 2) (tCons (tVar 0) (tCons (tVar 1) tNil))))
 st:∀sm x,L.h sm (.str x) = .str x
 pt:∀sm {n:Str} {ds:List D} {x:D},(x = .tup (.str n::ds)\/x = .lst (.str n::ds))->L.h sm x=L.g sm n (ds.map (L.h sm))
 fl:∀{sm:bL} {d x:D},L.cd sm d->Tm x->Fl (L.h sm x)
 nd:∀{sm:bL} {d:D},L.cd sm d->nds d<=1000
 op:∀{sm:bL} {d e:D} {n:Str} {ds:List D},L.cd sm d->sz e<=sz d->nds e<=nds d->depD e<=depD d->(e = .tup (.str n::ds)\/e = .lst (.str n::ds))->ds≠[]->Tms ds->L.ok (ds.map (L.h sm))
def EM (a:FA L)(h:L.s.names.lookup x=some .cell\/L.s.names.lookup x=some .free):x="signs":=by
 rcases h with h|h
 ·exact a.fr _ (PySem.mem_of_lookup h) (.inl rfl)
 ·exact a.fr _ (PySem.mem_of_lookup h) (.inr rfl)
section
variable {P:eg}{w:eh}{K:d6}{mg:jD}{base:Heap}
def RB (l:FA L)(Y:eG (k+1) A)(d:AK P w K mg base A outer s H)
  (hfl:H fl=some (pinO fl (oL L c0 c' pm ctv))) (m:H c0=some (pinO c0 oc0)) (N:oc0.data = .cell (some (.ref g))) (hc':H c'=some (pinO c' oc')) (hcd:oc'.data = .fields vsc) (hq:vsc[1]?=some (.str L.q tq))
  (O:Ow P w K mg base k L.f (spL L K C)) (r1:aQ (.str n) u1) (r2:aQ (.ref a) u2) (sp:spL L K C [.ref g,.str n,.ref a] (del1 H c0) (λv H'=>H' c0=none->Q v (upd H' c0 (pinO c0 oc0))) E0) :
  codeAny (model P w) A (.call (.ref fl) ⟨[u1,u2],[]⟩) (CR lY outer P w H s Q E0) s:=by
 have gfl:=pO d.hok hfl;have T:=pO d.hok m;have g':=pO d.hok hc';have X:s.heap.NoLimit:=d.mod.nolimit.keeps λb o e=>(d.bs b o e).1;refine PySem.W.kla_callFunE Y.depth gfl rfl l.co l.ge rfl ⟨c',oc',vsc,tq,rfl,g',hcd,hq⟩ ?_;rw[l.bd];have nl:∀x∈[(("name" : Str),u1),(("parts" : Str),u2)],L.s.names.lookup x.1=some .local:=by
  intro x j;obtain rfl|j:=cz.mp j
  ·exact l.nl.1
  ·rw[cy.mp j];exact l.nl.2.1
 refine ao (wpAny_newFunctionEnv l.nc nl (λh' Z G=>⟨X.fresh _ G,?_⟩) l.ki);have S:∀b o,s.heap.get? b=some o->h'.get? b=some o:=λb o e=>G.extBut b o (bv (bf e)) (ag _ e);have F:=d.hok.del m;have U:c0∉frs outer:=λz=>by have:=d.frf c0 z;rw[m]at this;cases this
 have I:aK (cxL L P w K mg base A outer s (del1 H c0) fl c0 c') [] [some (.str n),some (.ref a),some (.ref g)] (del1 H c0) {s with heap:=h',toks:=s.toks+2}:=by
  have E:∀b:Addr,b∉(cxL L P w K mg base A outer s (del1 H c0) fl c0 c').ex:=λb z=>absurd (show b∈([]:List Addr)from z) dV;have one:∀x c,(cxL L P w K mg base A outer s (del1 H c0) fl c0 c').env.cells.lookup x=some c->x=("signs" : Str)/\c=c0:=λx c e=>by have e':[(("signs" : Str),c0)].lookup x=some c:=e;have:=PySem.mem_of_lookup e';rw[cy]at this;cases this;exact⟨rfl,rfl⟩
  refine⟨⟨d.mod,l.ki,rfl,rfl,ac _,λx y c r B=>?_,λx j=>?_,λx c h=>absurd h (by simp[cxL]),λ_=>Y.hd,Around.frames_deeper d.frames,.inr ⟨rfl,rfl⟩,λb z=>absurd z (E b),λb o e=>⟨(d.bs b o e).1,jI (d.bs b o e).2⟩,d.bsz,λb _ _=>E b,λb z=>absurd z (E b),d.funs,λb z=>jI (d.frf b z)⟩,
   rfl,d.bare,Un.kept S,⟨_,Z,λi x v r B h3=>?_⟩,λx c h=>?_,F.fresh (ac _),λx c h=>?_,λp hp=>absurd (show p∈([]:eN)from hp) dV,F.kept S,rfl⟩
  ·rw[(one x c r).1,(one y c B).1]
  ·rw[EM l j];exact⟨c0,rfl⟩
  ·match i,r,B with
   | 0,r,B=>cases r;cases B;exact⟨u1,r1,.inl ⟨l.nl.1,rfl⟩⟩
   | 1,r,B=>cases r;cases B;exact⟨u2,r2,.inl ⟨l.nl.2.1,rfl⟩⟩
   | 2,r,B=>cases r;cases B;exact⟨.ref g,rfl,.inr ⟨.inr l.nl.2.2,c0,rfl,oc0,S _ _ T,N⟩⟩
   | i+3,r,B=>cases r
  ·rw[(one x c h).2];exact⟨_,oc0,S _ _ T,N⟩
  ·rw[(one x c h).2];exact nZ
 have pb:=l.bo (A:=A) (outer:=outer) (s:=s) (H:=del1 H c0) (fl:=fl) (c0:=c0) (c':=c') O (Y.deeper _);refine PySem.W.kla_codeExpr (wpAny_mono (pb [] _ _ _ (λv H'=>H' c0=none->Q v (upd H' c0 (pinO c0 oc0))) I ⟨_,rfl,_,rfl,_,rfl,sp⟩) (λu s' ⟨v,H',J,rv,q⟩=>?_) λ_ _ z=>z.elim);have un:Un (frs outer) [] (del1 H c0) H' s.heap s'.heap:=J.base;have gs:=un.keep c0 oc0 T nZ U dV;have nn:=un.free c0 oc0 T nZ dV;refine⟨v,upd H' c0 (pinO c0 oc0),J.os,J.bare,?_,J.hok.back nn gs,rv,q nn⟩;have ne:∀b u,H b=some u->(∀R,u≠.ext R)->b≠c0:=λb u e z w=>by rw[w,m]at e;cases e;exact z _ rfl
 refine⟨λb o e z hb j=>un.keep b o e (jI z) hb j,λb o e z hb j=>un.slot b o e (jI z) hb j,λb o e z j=>?_,λb o e j=>un.there b o e j,λb xs e=>?_,λb o u' e=>?_,λb ps e=>?_⟩
 ·rw[bG (λw=>by rw[w,m]at z;cases z)];exact un.free b o e (jI z) j
 ·have nb:=ne b _ e (λR=>by simp);rw[bG nb];exact un.tups b xs (by rw[dX nb];exact e)
 ·have nb:=ne b _ e (λR=>by simp);rw[bG nb];exact un.frzs b o u' (by rw[dX nb];exact e)
 ·have nb:=ne b _ e (λR=>by simp);rw[bG nb];exact un.tbls b ps (by rw[dX nb];exact e)
end
def C5 (L:Lk)(H:Hp)(fl c0 g:Addr):Prop:=∃(c':Addr) (pm ctv:ef) (oc0 oc':Obj) (vsc:lX) (tq:Tok),H fl=some (pinO fl (oL L c0 c' pm ctv))/\H c0=some (pinO c0 oc0)/\oc0.data = .cell (some (.ref g))/\H c'=some (pinO c' oc')/\oc'.data = .fields vsc/\vsc[1]?=some (.str L.q tq)
def C5.same (h:C5 L H fl c0 g)(s:aA H H'):C5 L H' fl c0 g:=by obtain⟨c',i,e,c,d,a,f,q,o,m,l,j⟩:=h;exact⟨c',i,e,c,d,a,f,s _ _ q,s _ _ o,m,s _ _ l,j⟩
mutual
theorem aH.del1 {H:Hp}{c:Addr}{j:Heap->Prop}(e:H c=some (.ext j)):∀{d:D} {v:V},aH H d v->aH (L2.del1 H c) d v
 | .non,v,h | .bl _,v,h | .int _,v,h | .str _,v,h=>h
 | .tup ds,v,⟨a,vs,i,f,g⟩=>⟨a,vs,i,by rw[dX (λz=>by rw[z,e]at f;cases f)];exact f,Reps.del1 e g⟩
 | .lst ds,v,⟨a,vs,i,f,g⟩=>⟨a,vs,i,by rw[dX (λz=>by rw[z,e]at f;cases f)];exact f,Reps.del1 e g⟩
theorem Reps.del1 {H:Hp}{c:Addr}{a:Heap->Prop}(e:H c=some (.ext a)):∀{ds:List D} {vs:List V},Reps H ds vs->Reps (L2.del1 H c) ds vs
 | [],vs,h=>h
 | d::ds,vs,⟨v,r,i,g,f⟩=>⟨v,r,i,aH.del1 e g,Reps.del1 e f⟩
end
theorem iK.del1 {K:d6}{C:Addr}{j:cV}{sm:bL}{H:Hp}{g c:Addr}{l:Heap->Prop}(e:H c=some (.ext l))(h:iK K C j sm H g):iK K C j sm (L2.del1 H c) g:=by obtain⟨a,b,n,u,fs,v,dn,i,r,q,o,m,f,d⟩:=h;exact⟨a,b,n,u,fs,v,dn,by rw[dX (λz=>by rw[z,e]at i;cases i)];exact i,r,q,o,m,by rw[dX (λz=>by rw[z,e]at f;cases f)];exact f,by rw[dX (λz=>by rw[z,e]at d;cases d)];exact d⟩
def tLam (L:Lk)(K:d6)(C:Addr)(i:Nat)(t:TA):TE:=λd H Q=>∃fl,d[i]?=some (some (.ref fl))/\t d H λvs c=>∃(c0 g:Addr) (fx:cV) (sm:bL) (n:Str) (a:Addr) (ds:List D) (ws:List V),vs=[.str n,.ref a]/\C5 L c fl c0 g /\
 iK K C fx sm c g/\c a=some (.lst ws)/\Reps c ds ws/\L.ok ds/\∀(e:V) (H':Hp),aA c H'->aH H' (L.g sm n ds) e->Q e H'
def DS (hL:FA L)(hN:X.N[i]?=some ("whole" : Str))(hv:WM X.env.scope "whole")(O:RZ X.prog X.w X.K X.mg X.base lY k L.f (spL L X.K C))(hr:eG (k+1) X.A)(ha:PA X [e1,e2] t)
  (he:starEach [e1,e2] X.env=(false,eval e1 X.env)::starEach [e2] X.env:=by rfl) (v:(backTo pos (starEach [e2] X.env)).any (·.1)=false:=by rfl):PE X (.Call (.Name "whole" p) [e1,e2] [] pos) (tLam L X.K C i t):=by
 intro d s J H Q I h;obtain⟨fl,B,h⟩:=h;have pw:PE X (.Name "whole" p) (tVar i):=L9 hN hv;refine wpAny_Call_Name_kw (thn (pw d s J H (λx H'=>x = .ref fl/\H'=H) I ⟨_,B,rfl,rfl⟩) λf Z ⟨x,H0,I0,rx,e3,e4⟩=>?_);subst e3 e4;cases rx;have c:=ha pos d Z J H0 _ I0 h;rw[he]at c|-;refine PySem.W.callWith_of (P:=λh=>∃o fd,h.get? fl=some o/\o.data = .func fd) (by show((false || (backTo pos (starEach [e2] X.env)).any (·.1)) || false)=false;rw[v];rfl) (λh ⟨o,fd,T,S⟩=>⟨.frame,.inl rfl,?_⟩) (Calls.evalArgs_plain (thn c λus s1 ⟨vs,H1,G,rv,q⟩=>?_))
 ·intro A' Q' E' s' kp q;unfold keeperOf;refine aa (wpAny_load (kp _ _ T) ?_);rw[S];exact ao q
 ·obtain⟨c0,g,fx,sm,n,a,ds,ws,rfl,la,sg,E,rd,lk,q⟩:=q;obtain⟨c',pm,ctv,oc0,oc',U,tq,R,j,l3,l4,l5,l6⟩:=la;obtain⟨u1,u2,rfl,r1,r2⟩:=aO.two rv;refine⟨⟨_,_,pO G.hok R,rfl⟩,?_⟩;refine wpAny_call (codeAny_mono (RB (Q:=Q) hL hr G.env0 R j l3 l4 l5 l6 O r1 r2 ⟨g,fx,sm,n,a,ds,ws,rfl,sg.del1 j,by rw[dX (λz=>by rw[z,j]at E;cases E)];exact E,Reps.del1 j rd,lk,λY H' m rp nn=>q Y _ (λb o e=>?_) (aH.same (aA.upd nn) rp)⟩) λr s' l=>?_)
  ·by_cases z:b=c0
   ·subst z;rw[j]at e;cases e;exact ew
   ·rw[bG z];exact m b o (by rw[dX z];exact e)
  ·cases r with
   | error e=>exact l.elim
   | ok F =>
    cases F with
    | ret u=>exact G.after l
    | next=>exact l.elim
    | brk=>exact l.elim
    | cont=>exact l.elim
end Lw
namespace Lw
open PySem L2
section
variable {P:eg}{w:eh}{K:d6}{mg:jD}{base:Heap}
noncomputable def pts:D->List D
 | .tup (.str _::ds)=>ds
 | .lst (.str _::ds)=>ds
 | _=>[]
noncomputable def stk:List D->List D
 | []=>[]
 | x::S=>x::(stk S).drop (pts x).length
mutual
theorem yB:∀{d:D},Wk d->∀S:List D,stk (wlk d++S)=d::stk S
 | .str x,_,S=>by unfold wlk;show stk (.str x::S)=_;rw[stk];rfl
 | .tup (.str n::ds),h,S=>by
  unfold Wk at h;rw[wlk,List.cons_append,stk,mC h S];show _::(ds++stk S).drop ds.length=_;rw[List.drop_left]
 | .lst (.str n::ds),h,S=>by
  unfold Wk at h;rw[wlk,List.cons_append,stk,mC h S];show _::(ds++stk S).drop ds.length=_;rw[List.drop_left]
 | .non,h,_ | .bl _,h,_ | .int _,h,_ | .tup [],h,_ | .lst [],h,_ | .tup (.non::_),h,_ | .tup (.bl _::_),h,_ | .tup (.int _::_),h,_ | .tup (.tup _::_),h,_ | .tup (.lst _::_),h,_ | .lst (.non::_),h,_ | .lst (.bl _::_),h,_ | .lst (.int _::_),h,_ | .lst (.tup _::_),h,_ | .lst (.lst _::_),h,_=>by unfold Wk at h;exact absurd h id
theorem mC:∀{ds:List D},Wks ds->∀S:List D,stk (wlks ds++S)=ds++stk S
 | [],_,S=>rfl
 | d::ds,⟨a,b⟩,S=>by rw[wlks,cu,yB a,mC b];rfl
end
mutual
theorem qE:∀{d:D},Wk d->∀{pre S:List D} {x:D},wlk d=pre++x::S->∃rest,S=wlks (pts x)++rest
 | .str y,_,pre,S,x,e=>by
  unfold wlk at e;cases pre with
  | nil=>cases e;exact⟨[],rfl⟩
  | cons p pre=>have:=congrArg List.length e;simp at this
 | .tup (.str n::ds),h,pre,S,x,e=>by
  unfold Wk at h;rw[wlk]at e;cases pre with
  | nil=>cases e;exact⟨[],by simp[pts]⟩
  | cons p pre=>injection e with _ e;exact lD h e
 | .lst (.str n::ds),h,pre,S,x,e=>by
  unfold Wk at h;rw[wlk]at e;cases pre with
  | nil=>cases e;exact⟨[],by simp[pts]⟩
  | cons p pre=>injection e with _ e;exact lD h e
 | .non,h,_,_,_,_ | .bl _,h,_,_,_,_ | .int _,h,_,_,_,_ | .tup [],h,_,_,_,_ | .lst [],h,_,_,_,_ | .tup (.non::_),h,_,_,_,_ | .tup (.bl _::_),h,_,_,_,_ | .tup (.int _::_),h,_,_,_,_ | .tup (.tup _::_),h,_,_,_,_ | .tup (.lst _::_),h,_,_,_,_ | .lst (.non::_),h,_,_,_,_ | .lst (.bl _::_),h,_,_,_,_ | .lst (.int _::_),h,_,_,_,_ | .lst (.tup _::_),h,_,_,_,_ | .lst (.lst _::_),h,_,_,_,_=>by unfold Wk at h;exact absurd h id
theorem lD:∀{ds:List D},Wks ds->∀{pre S:List D} {x:D},wlks ds=pre++x::S->∃rest,S=wlks (pts x)++rest
 | [],_,pre,S,x,e=>by have:=congrArg List.length e;simp[wlks]at this
 | d::ds,⟨a,b⟩,pre,S,x,e=>by
  rw[wlks]at e;rcases List.append_eq_append_iff.mp e with⟨m,f,c⟩|⟨m,f,c⟩
  ·exact lD b c
  ·cases m with
   | nil=>exact lD b (pre:=[]) (by simpa using c.symm)
   | cons y m =>
    injection c with i h;subst i;obtain⟨rest,g⟩:=qE a f;exact⟨rest++wlks ds,by rw[h,g];show(wlks (pts x)++rest)++wlks ds=_;rw[cu]⟩
end
def yC:∀{S:List D} {y:D},y∈stk S->y∈S
 | x::S,y,h=>by
  rw[stk]at h;obtain rfl|h:=cz.mp h
  ·exact ax
  ·exact bc _ (yC (List.mem_of_mem_drop h))
def yD:∀S:List D,(stk S).length<=S.length
 | []=>ac _
 | x::S=>by rw[stk,ar,ar,bS];have:=yD S;lia
def lQ (h:Fls l):Fls l.reverse:=fB λd hd=>bQ h d (List.mem_reverse.mp hd)
def qB (h:Fls l)(k:Nat):Fls (l.drop k):=fB λd hd=>bQ h d (List.mem_of_mem_drop hd)
def B7 (h:Fls l)(k:Nat):Fls (l.take k):=fB λd hd=>bQ h d (List.mem_of_mem_take hd)
def xD (sm:bL)(l:List D)(k:Nat):flts sm (l.drop k)=(flts sm l).drop k:=by rw[cF,cF,List.map_drop]
structure Sub (d x:D):Prop where
 tm:Tm x
 sz:sz x<=sz d
 nd:nds x<=nds d
 dp:depD x<=depD d
mutual
theorem pA:∀{d:D},Tm d->∀x∈wlk d,Sub d x
 | .str y,h,x,f=>by unfold wlk at f;rw[cy.mp f];exact⟨h,ac _,ac _,ac _⟩
 | .tup (.str n::ds),h,x,f=>by
  rw[wlk]at f;obtain rfl|f:=cz.mp f
  ·exact⟨h,ac _,ac _,ac _⟩
  ·unfold Tm at h;obtain⟨a,b,c,e⟩:=sX h.2 x f;exact⟨a,by rw[sz];lia,by rw[nds];lia,by rw[depD,depDs];lia⟩
 | .lst (.str n::ds),h,x,f=>by
  rw[wlk]at f;obtain rfl|f:=cz.mp f
  ·exact⟨h,ac _,ac _,ac _⟩
  ·unfold Tm at h;obtain⟨a,b,c,e⟩:=sX h.2 x f;exact⟨a,by rw[sz];lia,by rw[nds];lia,by rw[depD,depDs];lia⟩
 | .non,h,_,_ | .bl _,h,_,_ | .int _,h,_,_ | .tup [],h,_,_ | .lst [],h,_,_ | .tup (.non::_),h,_,_ | .tup (.bl _::_),h,_,_ | .tup (.int _::_),h,_,_ | .tup (.tup _::_),h,_,_ | .tup (.lst _::_),h,_,_ | .lst (.non::_),h,_,_ | .lst (.bl _::_),h,_,_ | .lst (.int _::_),h,_,_ | .lst (.tup _::_),h,_,_ | .lst (.lst _::_),h,_,_=>by unfold Tm at h;exact absurd h id
theorem sX:∀{ds:List D},Tms ds->∀x∈wlks ds,Tm x/\sz x<=szs ds/\nds x<=ndss ds/\depD x<=depDs ds
 | d::ds,⟨a,b⟩,x,c=>by
  rw[wlks]at c;obtain c|c:=c4.mp c
  ·obtain⟨e,h,g,f⟩:=pA a x c;exact⟨e,by rw[szs];lia,by rw[ndss];lia,by rw[depDs];lia⟩
  ·obtain⟨e,h,g,f⟩:=sX b x c;exact⟨e,by rw[szs];lia,by rw[ndss];lia,by rw[depDs];lia⟩
end
mutual
theorem qH:∀{d:D},Tm d->Wk d
 | .str x,h=>trivial
 | .tup (.str n::ds),h=>by unfold Wk;unfold Tm at h;exact mB h.2
 | .lst (.str n::ds),h=>by unfold Wk;unfold Tm at h;exact mB h.2
 | .non,h | .bl _,h | .int _,h | .tup [],h | .lst [],h | .tup (.non::_),h | .tup (.bl _::_),h | .tup (.int _::_),h | .tup (.tup _::_),h | .tup (.lst _::_),h | .lst (.non::_),h | .lst (.bl _::_),h | .lst (.int _::_),h | .lst (.tup _::_),h | .lst (.lst _::_),h=>by unfold Tm at h;exact absurd h id
theorem mB:∀{ds:List D},Tms ds->Wks ds
 | [],_=>trivial
 | _::_,⟨a,b⟩=>⟨qH a,mB b⟩
end
def QL (n z:Str)(l:List D):nds (one n z l)<=1+ndss l:=by
 unfold one;split
 ·show nds (.str z)<=_;unfold nds;lia
 ·rw[ndss,ndss];lia
 ·rw[nds];lia
def JI (p:l.Perm m):ndss l=ndss m:=by
 induction p with
 | nil=>rfl
 | cons x _ c=>rw[ndss,ndss,c]
 | swap x y l=>rw[ndss,ndss,ndss,ndss];lia
 | trans _ _ a b=>exact a.trans b
def BW (sm:bL)(n:Str)(ps:List D):nds (knot sm n ps)<=1+ndss ps:=by
 unfold knot;split
 ·rw[nds];lia
 ·rename_i z _;have a:=QL n z (fA (opn n z ps));rw[JI (bH _)]at a;have c:=yT n z ps
  lia
mutual
theorem G8 (sm:bL):∀d:D,nds (flt sm d)<=nds d
 | .tup (.str n::ds)=>by rw[flt,nds];have:=BW sm n (flts sm ds);have:=mZ sm ds;lia
 | .lst (.str n::ds)=>by rw[flt,nds];have:=BW sm n (flts sm ds);have:=mZ sm ds;lia
 | .non | .bl _ | .int _ | .str _ | .tup [] | .lst [] | .tup (.non::_) | .tup (.bl _::_) | .tup (.int _::_) | .tup (.tup _::_) | .tup (.lst _::_) | .lst (.non::_) | .lst (.bl _::_) | .lst (.int _::_) | .lst (.tup _::_) | .lst (.lst _::_)=>by unfold flt;exact ac _
theorem mZ (sm:bL):∀ds:List D,ndss (flts sm ds)<=ndss ds
 | []=>ac _
 | d::ds=>by rw[flts,ndss,ndss];have:=G8 sm d;have:=mZ sm ds;lia
end
def RI (sm:bL)(h:x = .tup (.str n::ds)\/x = .lst (.str n::ds)):flt sm x=knot sm n (flts sm ds)/\pts x=ds:=by rcases h with rfl|rfl <;> exact⟨by rw[flt],rfl⟩
def spFW (L:Lk)(K:d6)(C:Addr):Sp:=λvs H Q _=>∃(c fl c0 g:Addr) (fx:cV) (sm:bL) (d:D) (v:V),vs=[v,.ref c,.ref fl]/\H c=some (.dK [])/\C5 L H fl c0 g/\iK K C fx sm H g/\aH H d v/\Tm d/\L.cd sm d /\
 ∀(a:V) (H':Hp),aA H H'->aH H' (L.h sm d) a->Q a H'
def YI (L:Lk)(v:V)(d fl m l:Addr)(sm:bL)(W:List D)(ws:List V)(H:Hp)(i:Nat)(c:St)(a:Hp):Prop:=∃(us:List V) (o4 o5:Option V),c=[some v,some (.ref d),some (.ref fl),some (.ref m),o4,o5]/\a m=some (.lst us)/\aA H a/\a l=some (.lst ws)/\Reps a ((stk (W.drop (W.length - i))).map (L.h sm)).reverse us
def YJ (m l p:Addr)(ws:List V)(o:HO)(fs:List D)(H:Hp)(j:Nat)(c:List V)(d:St)(a:Hp):Prop:=∃(us:List V) (o0:Option V),d=[o0,some (.ref m)]/\a m=some (.lst us)/\aA H a/\a l=some (.lst ws)/\a p=some o/\Reps a (fs.drop j).reverse us/\Reps a (fs.take j) c
def SF (hL:FA L)(F:iE K "from_within" fS f fd)(T:Txt mg)(N:Ow P w K mg base 1 "walked" sY)(O_lam:Ow P w K mg base 6 L.f (spL L K C)):iX P w K mg base 8 f fd fS (spFW L K C):=by
 refine F.okL fF λ_ _ _ _ H vs _ _ hr hu h=>?_;obtain⟨fi,fl,c0,g,fx,sm,d,v,rfl,hfi,la,sg,rep,tm,hz,q⟩:=h;refine⟨_,(pss3 (oM (i:=3) fF.nd rfl (Or.inr rfl) (bW gA)) (iA (lJ K rfl rfl T.n_reversed (pa1 (aS N hr (pa1 (pv 0))))) (gV 4 fF.nd) (aE (bC (fE K T.n_isinstance (pv 4) T.n_str) (aE (bX (fX di dq dj eU (pv 3) (pa1 (ME (ak (cg dw _) hu) (pv 1) (pv 4) (pv 4) ⟨rfl,rfl,rfl,rfl⟩))))) (pss2 (mN 5 fF.nd (bD.of fF ["part","made"] [none,some 3]) (gF K (dM iF (pv 4) (bU aB) cH)) (bV (i:=0) (cT ["part","made"]) rfl (Or.inl rfl)) cU (F4 K rfl di PySem.F.slot_list_pop PySem.F.type_list_pop oR (pv 1))) (bX (fX di dq dj eU (pv 3) (pa1 (DS hL (i:=2) rfl (Or.inl rfl) O_lam (hr.mono dw) (pa2 (aV (pv 4) aB) (pv 5)))))))))) (aF (aV (pv 3) aB))),?_⟩
 ac_nf
 have n1000:=hL.nd hz;exists k1;refine⟨szl 0,λm hm=>k1 ?_⟩;exists k2;obtain⟨H1,zN,s1,hm1⟩:=nwH (.lst []) hm;rw[zN];refine⟨_,rfl,d,v,H,rfl,s1,rep,qH tm,n1000,λl ws H2 s2 hl h2 rws=>⟨l,ws,rfl,h2,?_⟩⟩;have lw:=Reps.len rws;have lk:=oX d;have hml:m≠l:=λz=>by rw[z,hl]at hm1;cases hm1
 refine B4 ws (YI L v fi fl m l sm (wlk d) ws H) ⟨[],none,none,rfl,s2 _ _ hm1,s1.trans s2,h2,by rw[Nat.sub_zero,List.drop_length];rfl⟩ (λi σ H3 _ ⟨_,_,_,_,_,_,h,_⟩=>h) ?_ ?_
 ·rintro i x σ H3 hi hx ⟨us,o4,o5,rfl,h3,W,X,Y⟩;obtain⟨e,he,rx⟩:=Reps.get rws hx;rw[lw]at hi he;have hlt:(wlk d).length - 1 - i<(wlk d).length:=by lia
  have A:(wlk d).drop ((wlk d).length - (i+1))=e::(wlk d).drop ((wlk d).length - i):=by have e1:(wlk d)[(wlk d).length - 1 - i]=e:=(cx.mp he).2;rw[show(wlk d).length - (i+1)=(wlk d).length - 1 - i by lia,List.drop_eq_getElem_cons hlt,e1,show(wlk d).length - 1 - i+1=(wlk d).length - i by lia]
  have I:wlk d=(wlk d).take ((wlk d).length - (i+1))++e::(wlk d).drop ((wlk d).length - i):=by rw[<-A,List.take_append_drop]
  obtain⟨rest,E⟩:=qE (qH tm) I;have O:=pA tm e (bn he);have inS:∀y∈(wlk d).drop ((wlk d).length - i),y∈wlk d:=λy hy=>List.mem_of_mem_drop hy;have lS:((wlk d).drop ((wlk d).length - i)).length<=1000:=by rw[bS];lia
  generalize (wlk d).drop ((wlk d).length - i)=S at A I E inS lS Y;have Q:Fls ((stk S).map (L.h sm)):=fB λy hy=>by obtain⟨z,hz1,rfl⟩:=da.mp hy;exact hL.fl hz (pA tm z (inS z (yC hz1))).tm
  have lu:=Reps.len Y;rw[List.length_reverse,af]at lu;have ls:(stk S).length<=1000:=aq (yD S) lS;rcases O9 O.tm with⟨y,rfl,_⟩|⟨n,ds,hd,dne,tms⟩
  ·cases (show x = .str y from rx);refine⟨_,rfl,.str y,.ty "str",true,rfl,rfl,true,rfl,?_⟩;refine⟨_,rfl,tyL h3,_,rfl,fi,rfl,.inl ⟨_,.inl (W _ _ hfi)⟩,_,rfl,_,rfl,_,lC.k (k:=.inr y) (W _ _ hfi),m,us,.str y,rfl,rfl,h3,ltSz,us++[.str y],_,_,rfl,ew,λb o Z=>upk (aC Z hm) (W _ _ Z),upk hml.symm X,?_⟩;rw[A,stk];show Reps _ ((.str y::(stk S).drop 0).map (L.h sm)).reverse _;rw[List.drop_zero,bg,List.reverse_cons];exact Reps.snoc (by rw[hL.st];rfl) (Reps.tups (aN.lst h3) (lQ Q) Y)
  ·obtain⟨va,c,rfl,hbb,hseq,lv⟩:∃va c,x = .ref va/\isV H3 (.ref va) (.ty "str")=some false/\eI H va (.str n::c)/\c.length=ds.length:=by
    rcases hd with rfl|rfl
    ·obtain⟨a,vs,rfl,ha,_,c,rfl,e1,r⟩:=rx;cases e1;exact⟨a,c,rfl,gX (W _ _ ha),.inr ha,Reps.len r⟩
    ·obtain⟨a,vs,rfl,ha,_,c,rfl,e1,r⟩:=rx;cases e1;exact⟨a,c,rfl,qV (W _ _ ha),.inl ha,Reps.len r⟩
   have hfe:=hL.pt sm hd;have hpe:pts e=ds:=by rcases hd with rfl|rfl <;> rfl
   rw[hpe]at E;have wds:Wks ds:=mB tms;have hst:stk S=ds++stk rest:=by rw[E,mC wds]
   have hfs:(stk S).map (L.h sm)=ds.map (L.h sm)++(stk rest).map (L.h sm):=by rw[hst,az]
   have lds:(ds.map (L.h sm)).length=ds.length:=af _;have lfs:((stk S).map (L.h sm)).length<=1000:=by rw[af];exact ls
   refine⟨_,rfl,.ref va,.ty "str",false,rfl,hbb,false,rfl,els ?_⟩;exists k4;refine⟨_,rfl,(1:Int),rfl,va,_,rfl,hseq.same W,λ_ h=>by have:=h.1;simp[HT.sIx]at this,λp o hp ho=>?_⟩;rw[iP]at ho;refine⟨p,c,rfl,by rcases ho with⟨rfl,_⟩|⟨rfl,_⟩;exact .inl ew;exact .inr ew,λJ hJ=>?_⟩;have sp:aA H3 (upd H3 p o):=aA.upd hp;have hpo:upd H3 p o p=some o:=ew;have hmp:m≠p:=aC h3 hp;have hlp:l≠p:=aC X hp;generalize upd H3 p o=H4 at sp hpo hJ|-;refine cQ hJ (YJ m l p ws o ((stk S).map (L.h sm)) H) ⟨us,none,rfl,sp _ _ h3,W.trans sp,sp _ _ X,hpo,by rw[List.drop_zero];exact Reps.same sp Y,rfl⟩ (λj G σ H' _ ⟨_,_,_,_,_,_,h,_⟩=>by rw[h,hpo]) ?_ ?_
   ·rintro j y G σ H5 hy ⟨R,o0,rfl,h5,s5,hl5,hp5,r5,B⟩;have hj:j<ds.length:=by have:=(cx.mp hy).1;lia
    have hj2:j<((stk S).map (L.h sm)).length:=by rw[hfs,au];lia
    rw[List.drop_eq_getElem_cons hj2,List.reverse_cons]at r5;obtain⟨us6,u,rfl,r6,ru6⟩:=eJ r5;have la':=Reps.len B;rw[bz]at la';have fu:Fl ((stk S).map (L.h sm))[j]:=bQ Q _ (List.getElem_mem hj2);refine⟨_,rfl,tyL h5,m,_,u,rfl,rfl,h5,dV,ltSz,?_⟩;rw[List.dropLast_concat];have tt:aN H5 (upd H5 m (.lst us6)):=aN.lst h5;refine⟨us6,_,rfl,ew,λb o Z=>upk (aC Z hm) (s5 _ _ Z),upk hml.symm hl5,upk hmp.symm hp5,Reps.tups tt (lQ (qB Q (j+1))) r6,?_⟩;rw[aR (ay hj2)];exact Reps.snoc (aH.tups tt fu ru6) (Reps.tups tt (B7 Q j) B)
   ·rintro G σ H5 ⟨R,o0,rfl,h5,s5,hl5,hp5,r5,B⟩ p6 hp6;have e1:((stk S).map (L.h sm)).take c.length=(ds.map (L.h sm)):=by rw[hfs,lv,<-lds,List.take_left]
    rw[e1]at B;have s6:aA H5 (upd H5 p6 (.lst G)):=aA.upd hp6;have h66:upd H5 p6 (.lst G) p6=some (.lst G):=ew;have hmp6:m≠p6:=aC h5 hp6;generalize upd H5 p6 (.lst G)=H6 at s6 h66|-;have U:=s5.trans s6;have ix0:ixV H6 (.ref va) (.int 0)=some (.str n):=by
     rcases hseq.same U with e|e
     ·rw[ixV_l e,atI_zero]
     ·rw[ixV_t e,atI_zero]
    exists 0,k4,k5;refine⟨_,rfl,tyL (s6 _ _ h5),fl,rfl,_,rfl,.str n,ix0,_,rfl,c0,g,fx,sm,n,p6,(ds.map (L.h sm)),G,rfl,la.same U,sg.same U,h66,Reps.same s6 B,hL.op hz O.sz O.nd O.dp hd dne tms,λv' H7 s7 r7=>?_⟩;have h7:=s7 _ _ (s6 _ _ h5);have l5:=Reps.len r5;rw[List.length_reverse,bS]at l5;refine⟨m,R,v',rfl,rfl,h7,ltSz,k5 ⟨R++[v'],_,_,rfl,ew,λb o Z=>upk (aC Z hm) (s7 _ _ (U _ _ Z)),upk hml.symm (s7 _ _ (s6 _ _ hl5)),?_⟩⟩;have tt:aN H7 (upd H7 m (.lst (R++[v']))):=aN.lst h7;rw[A,stk,bg,List.reverse_cons,hpe,List.map_drop,hfe];rw[lv]at r5;have fe:=hL.fl hz O.tm;rw[hfe]at fe;exact Reps.snoc (aH.tups tt fe r7) (Reps.tups tt (lQ (qB Q ds.length)) (Reps.same (s6.trans s7) r5))
 ·rintro σ H3 ⟨us,o4,o5,rfl,h3,W,X,Y⟩;rw[lw,Nat.sub_self,List.drop_zero]at Y;have e:=yB (qH tm) [];rw[bu]at e;rw[e]at Y;obtain⟨u,r,rfl,r1,r2⟩:=Y;cases (show r=[]from r2);exact k2 ⟨_,rfl,u,by rw[ixV_l h3,atI_zero],q u H3 W r1⟩
end
end Lw
namespace L2
open PySem PySem.Spec PyProof.Rows PySem.W
def aK.grow {X:Cx}{a:eN}{j:L2.St}{H:Hp}{s:ee}{P:Addr}{ps more:lX}{h':Heap}{t':Nat}(I:aK X a j H s)(i:H P=some (.tbl ps))(f:Heap.ExtBut P s.heap h')(m:h'.get? P=some (tabObj (ps++more))):aK X a j (upd H P (.tbl (ps++more))) {s with heap:=h',toks:=t'}:=by
 have g:∀b,H b=none->b≠P:=λb e z=>by rw[z,i]at e;cases e
 have d:∀b u,H b=some u->(∀l,u≠.tbl l)->b≠P:=λb u e z w=>by rw[w,i]at e;cases e;exact z _ rfl
 refine I.un ⟨λb o e n _ _=>f b o (g b n) e,λb o e n _ _=>⟨o.slots,f b o (g b n) e⟩,λb o e n _=>upk (g b n) n,λb o e _=>?_,λb xs e=>?_,λb o u e=>?_,λb l e=>?_⟩ (λb u e=>?_)
 ·by_cases z:b=P
  ·subst z;exact⟨_,m⟩
  ·exact⟨o,f b o z e⟩
 ·rw[bG (d b _ e λ_=>by simp)];exact e
 ·rw[bG (d b _ e λ_=>by simp)];exact e
 ·by_cases z:b=P
  ·subst z;rw[i]at e;cases e;exact⟨more,ew⟩
  ·exact⟨#[],by rw[bG z,e];simp⟩
 ·by_cases z:b=P
  ·subst z;rw[ew]at e;cases e;exact m
  ·rw[bG z]at e;refine(I.hok b u e).stay (λc o h q=>f c o ?_ q) (λc q=>upk (d c _ q λ_=>by simp) q) (λc xs q=>upk (d c _ q λ_=>by simp) q);rcases h with rfl|h
   ·exact z
   ·exact d c _ h λ_=>by simp
end L2
namespace Lw
open PySem PySem.Spec PyProof.Rows PySem.W L2
def LT (L:Lk)(P:Addr)(H:Hp):Prop:=H P=some (.tbl #[])\/∃(c':Addr) (oc':Obj) (vsc:lX) (tq:Tok),H P=some (.tbl #[rawInt L.x.line,rawInt L.x.col,.ref c'])/\H c'=some (pinO c' oc')/\oc'.data = .fields vsc/\vsc[1]?=some (.str L.q tq)
def LT.same (h:LT L P H)(s:aA H H'):LT L P H':=by
 rcases h with h|⟨c',c,a,d,g,f,e⟩
 ·exact .inl (s _ _ h)
 ·exact .inr ⟨c',c,a,d,s _ _ g,s _ _ f,e⟩
def Bm (mg:jD)(base:Heap):Prop:=∃a o,mg "__builtins__" = some (.ref a)/\a≠builtinsNs/\a≠mainGlobals/\base.get? a=some o/\o.cls = .type "module"/\o.dict=some builtinsNs/\o.data = .plain
def S2 (L:Lk)(P c0:Addr):TE:=λa H Q=>LT L P H/\∀(fl c':Addr) (pm ctv:ef) (oc':Obj) (vsc:lX) (tq:Tok) (H':Hp),cZ P H H'->LT L P H'->H' fl=some (pinO fl (oL L c0 c' pm ctv))->H' c'=some (pinO c' oc')->oc'.data = .fields vsc->vsc[1]?=some (.str L.q tq)->H c0=none->H' c0=none->Q (.ref fl) H'
def BG (hL:FA L)(A:closureFor L.s X.env=pure [(("signs" : Str),c0)])(f:X.env.cells.lookup ("signs" : Str)=some c0)(i:X.env.code = .ref c)(hq:X.env.qual++"<lambda>" = L.q)(hC:∀h,X.K.In h->CodeHd h c P)(hB:Bm X.mg X.base):PE X (.Lambda L.p L.b L.s L.x) (S2 L P c0):=by
 intro l s Y H Q I h;obtain⟨lt,q⟩:=h;have hg:s.heap.Ns mainGlobals X.mg:=I.mod.glob.keeps I.bk;have O:∃ps,H P=some (.tbl ps):=by
  rcases lt with h|⟨_,_,_,_,h,_⟩
  ·exact⟨_,h⟩
  ·exact⟨_,h⟩
 obtain⟨ps,r⟩:=O;have C:s.heap.get? P=some (tabObj ps):=I.hok P _ r;have nb:∀b o,X.base.get? b=some o->b≠P:=λb o e z=>by have:=(I.bs b o e).2;rw[z,r]at this;cases this
 have N:mainGlobals≠P:=by obtain⟨o,es,ep,e,_⟩:=I.mod.glob;exact nb _ _ e
 have hb:s.heap.BuiltinsAt X.mg P:=by obtain⟨bm,o,b1,b2,b3,b4,b5,b6,b7⟩:=hB;exact⟨bm,o,b1,b2,b3,nb _ _ b4,I.bk _ _ b4,b5,b6,b7⟩
 have n0:=I.freeC _ _ f;refine kla_eval (hL.df _) ?_;rw[hq];rcases lt with lt|⟨c',d,g,u,lt,l2,l3,l4⟩
 ·rw[r]at lt;cases lt;refine kla_makeFunction A I.ok.glob hg i (hC _ I.kIn) C trivial rfl N hb λc' a h' tk hx j w v G=>?_;obtain⟨c2,d,g,u,e2,J,hd,hv⟩:=v;cases e2;have I1:aK X l Y (upd H P (.tbl (#[] ++ #[rawInt L.x.line,rawInt L.x.col,.ref c']))) {s with heap:=h',toks:=tk}:=I.grow r hx G;have nP:P≠c':=λz=>by have:=bf C;rw[z]at this;exact cj _ (bh this j)
  have nc':H c'=none:=I.hok.fresh j;have fc:=I.fpOk (H':=upd H P (.tbl (#[] ++ #[rawInt L.x.line,rawInt L.x.col,.ref c']))) j (upk nP.symm nc');have W:=I1.adopt (o:=pinO c' d) fc (yQ J);have Z:s.heap.objs.size<=h'.objs.size:=aq j (Nat.le_of_lt w);have U:=W.kept (t':=tk) λb o e=>ag (oL L c0 c' ((X.mg "__name__").getD .none) a) e;have T:=W.fpOk (ac h'.objs.size) (W.hok.fresh (ac _));have S:(h'.push (oL L c0 c' ((X.mg "__name__").getD .none) a)).get? h'.objs.size=some (oL L c0 c' ((X.mg "__name__").getD .none) a):=av _ rfl;have B:=U.adopt (o:=pinO h'.objs.size (oL L c0 c' ((X.mg "__name__").getD .none) a)) T (yQ S);have E:c'≠h'.objs.size:=bv w;have F:P≠h'.objs.size:=λz=>by have:=bf C;rw[z]at this;exact cj _ (bh this Z)
  have m:upd (upd (upd H P (.tbl (#[] ++ #[rawInt L.x.line,rawInt L.x.col,.ref c']))) c' (pinO c' d)) h'.objs.size (pinO h'.objs.size (oL L c0 c' ((X.mg "__name__").getD .none) a)) c'=some (pinO c' d):=upk E ew;have R:upd (upd (upd H P (.tbl (#[] ++ #[rawInt L.x.line,rawInt L.x.col,.ref c']))) c' (pinO c' d)) h'.objs.size (pinO h'.objs.size (oL L c0 c' ((X.mg "__name__").getD .none) a)) P=some (.tbl #[rawInt L.x.line,rawInt L.x.col,.ref c']):=by rw[bG F,bG nP,ew];rfl
  refine⟨.ref h'.objs.size,_,B,rfl,q _ c' _ a d g u _ (λb o nb e=>?_) (.inr ⟨c',d,g,u,R,m,hd,hv⟩) ew m hd hv n0 (B.freeC _ _ f)⟩;have lb:=I.hok.lt e;rw[bG (λz=>by rw[z]at lb;exact cj _ (bh lb Z)),bG (aC e nc'),bG nb];exact e
 ·rw[r]at lt;cases lt;have am:codeAmong L.x [rawInt L.x.line,rawInt L.x.col,.ref c']=some (.ref c'):=by simp[codeAmong,rawInt]
  refine kla_makeFunctionHit (cv:=.ref c') A I.ok.glob hg i (hC _ I.kIn) C trivial am hb λa h' tk hk hsz=>?_;have U:aK X l Y H {s with heap:=h'.push (oL L c0 c' ((X.mg "__name__").getD .none) a),toks:=tk}:=I.kept λb o e=>ag _ (hk b o e);have nf:=I.hok.fresh hsz;have T:=I.fpOk hsz nf;have S:(h'.push (oL L c0 c' ((X.mg "__name__").getD .none) a)).get? h'.objs.size=some (oL L c0 c' ((X.mg "__name__").getD .none) a):=av _ rfl;have B:=U.adopt (o:=pinO h'.objs.size (oL L c0 c' ((X.mg "__name__").getD .none) a)) T (yQ S);have sm:aA H (upd H h'.objs.size (pinO h'.objs.size (oL L c0 c' ((X.mg "__name__").getD .none) a))):=aA.upd nf;exact⟨.ref h'.objs.size,_,B,rfl,q _ c' _ a d g u _ (λb o _ e=>sm b o e) (.inr ⟨c',d,g,u,sm _ _ r,sm _ _ l2,l3,l4⟩) ew (sm _ _ l2) l3 l4 n0 (B.freeC _ _ f)⟩
def tFWc (L:Lk)(K:d6)(C c0:Addr)(t:TA):TE:=λc H Q=>t c H λvs d=>∃g,c[0]?=some (some (.ref g))/\∀a:Obj,a.data = .cell (some (.ref g))->d c0=none->spFW L K C vs (upd d c0 (pinO c0 a)) (λv H'=>H' c0=some (pinO c0 a)/\Q v (del1 H' c0)) E0
def SD (O:RZ X.prog X.w X.K X.mg X.base lY k "from_within" (spFW L X.K C))(hr:eG k X.A)(hg:Gl X "from_within")(hN:X.N[0]?=some ("signs" : Str))(j:X.env.scope.names.lookup ("signs" : Str)=some .cell)(d:X.env.cells.lookup ("signs" : Str)=some c0)(hfn:X.fn "signs" = true)(ha:PA X (e::es) t)
  (he:starEach (e::es) X.env=(false,eval e X.env)::starEach es X.env:=by rfl) (hpl:(backTo pos (starEach es X.env)).any (·.1)=false:=by rfl):PE X (.Call (.Name "from_within" p) (e::es) [] pos) (tFWc L X.K C c0 t):=by
 obtain⟨f,fd,ps,F,hm,hk,hb⟩:=O;intro J s σ H Q I h;refine wpAny_Call_Name_kw (sI I hg hm ?_ dw);refine PySem.W.callWith_K (h₀:=X.base) I.ok.mod.kin hk (thn (ha pos J s σ H _ I h) λus G ⟨vs,H1,l,r,q⟩=>⟨l.kIn,?_⟩) he hpl;obtain⟨g,hσ,q⟩:=q;have Z:=l.freeC _ _ d;have i:=l.ok.cab _ _ hfn d;obtain⟨a,ho,hd⟩:∃a,G.heap.get? c0=some a/\a.data = .cell (some (.ref g)):=by
  obtain⟨m,hns,hl⟩:=l.loc;obtain⟨u,ru,look⟩:=hl 0 _ _ hN hσ (.inr (.inl j));cases ru;rcases look with⟨z,_⟩|⟨_,c,hc,a,ho,hd⟩
  ·have z':X.env.scope.names.lookup ("signs" : Str)=some .local:=z;rw[j]at z';cases z'
  ·rw[d]at hc;cases hc;exact⟨a,ho,hd⟩
 have sp:=q a hd Z;have B:=l.env0;have nl:c0≠X.env.locals:=λz=>by obtain⟨m,⟨o,es',ep,U,e2,_⟩,_⟩:=l.loc;rw[<-z,ho]at U;cases U;rw[hd]at e2;cases e2
 have P:∀b∈frs X.stack,b≠c0:=λb hb z=>by
  rcases cz.mp (l.stkSub b hb)with w|w
  ·exact nl (z ▸ w)
  ·obtain⟨_,o,U,_⟩:=l.ok.funs.mem w;exact cj _ (bh (bf U) (z ▸ i))
 have hl:(us++[]).length=ps.length:=by have:=F.len _ _ _ _ sp;rw[bu,<-r.length];exact this
 have ne:∀b o,X.base.get? b=some o->b≠c0:=λb o e z=>cj _ (bh (bf (l.ok.bs b o e).1) (z ▸ i));have env:AK X.prog X.w X.K X.mg X.base X.A X.stack G (upd H1 c0 (pinO c0 a)):=⟨B.frames,B.mod,λb o e=>⟨(B.bs b o e).1,upk (ne b o e) ((B.bs b o e).2)⟩,B.bsz,B.funs,λb z=>upk (P b z) (B.frf b z),B.hok.back Z ho,B.bare⟩
 refine wpAny_call (codeAny_mono (F.run X.A X.stack G _ ⟨us,[]⟩ us vs _ E0 hr env (by have:=hb G us l.kIn hl;rw[bu]at this;exact this) r sp) λres s' R=>?_);cases res with
 | error x=>exact R.elim
 | ok fl' =>
  cases fl' with
  | ret u =>
   obtain⟨v,H',os,bare,un,hok,rv,S,qq⟩:=R;have g0:=pO hok S;have nb:∀b u,H1 b=some u->b≠c0:=λb u e=>aC e Z;have Y:Un (frs X.stack) [] H1 (del1 H' c0) G.heap s'.heap:=by
    refine⟨λb o e n T E=>?_,λb o e n T E=>?_,λb o e n E=>?_,λb o e E=>un.there b o e E,λb xs e=>?_,λb o u' e=>?_,λb qs e=>?_⟩
    ·by_cases z:b=c0
     ·subst z;rw[ho]at e;cases e;exact g0
     ·exact un.keep b o e (upk z n) T E
    ·exact un.slot b o e (upk (P b T) n) T E
    ·by_cases z:b=c0
     ·subst z;exact nZ
     ·exact jI (un.free b o e (upk z n) E)
    ·rw[dX (nb b _ e)];exact un.tups b xs (upk (nb b _ e) e)
    ·rw[dX (nb b _ e)];exact un.frzs b o u' (upk (nb b _ e) e)
    ·rw[dX (nb b _ e)];exact un.tbls b qs (upk (nb b _ e) e)
   exact⟨v,_,l.call' (ch:=[]) os Y (hok.del S) bare (λb z=>absurd z dV),rv,qq⟩
  | next=>exact R.elim
  | brk=>exact R.elim
  | cont=>exact R.elim
end Lw
namespace Lw
open PySem L2
def G6 {x a:Str}{st:Stmt}{f:Addr}{o:ef}{od m:Option Addr}{osl:Array (Option ef)}{kV e l c ct:ef}{N ps:bA}{k:Nat}{g:Sp}(r:K.lookup f=some ⟨o,od,.func (PySem.W.fnOf x a (cP st) (bZ st) (aZ st) .none kV e l m c ct),osl⟩)(j:PySem.W.codeIn K c a=true)(S:kC N ps (aZ st))(len:∀vs H Q E,g vs H Q E->vs.length=ps.length)
  (d:∀(A:en) (outer:List Env) (s:ee) (H:Hp) (vs:List V) (Q:VK) (E:XK),eG k (A.deeper (PyProof.Rows.envOfC a (aZ st) s.heap.objs.size f c))->g vs H Q E ->
   ∃t,uU (cxOf lY P w K mg base N a (aZ st) f c A outer s H E).nox (bZ st) t/\t {nx:=λ_ H'=>Q .non H',rt:=Q} (start N vs) H):hZ P w K mg base lY (k+1) f (PySem.W.fnOf x a (cP st) (bZ st) (aZ st) .none kV e l m c ct) ps g:=by
 refine SI r j S len λA outer s H vs Q E u i=>?_;obtain⟨t,h,q⟩:=d A outer s H vs Q E u i;exact⟨t,h.nox,q⟩
mutual
theorem aH.but (b:cZ p H H')(n1:∀xs,H p≠some (.tup xs))(n2:∀xs,H p≠some (.lst xs)):∀{d:D} {v:V},aH H d v->aH H' d v
 | .non,v,h | .bl _,v,h | .int _,v,h | .str _,v,h=>h
 | .tup ds,v,⟨a,vs,f,c,e⟩=>⟨a,vs,f,b a _ (λz=>n1 vs (z ▸ c)) c,Reps.but b n1 n2 e⟩
 | .lst ds,v,⟨a,vs,f,c,e⟩=>⟨a,vs,f,b a _ (λz=>n2 vs (z ▸ c)) c,Reps.but b n1 n2 e⟩
theorem Reps.but (b:cZ p H H')(n1:∀xs,H p≠some (.tup xs))(n2:∀xs,H p≠some (.lst xs)):∀{ds:List D} {vs:List V},Reps H ds vs->Reps H' ds vs
 | [],vs,h=>h
 | d::ds,vs,⟨v,r,e,c,a⟩=>⟨v,r,e,aH.but b n1 n2 c,Reps.but b n1 n2 a⟩
end
def LT.tbl (h:LT L Pt H):∃ps,H Pt=some (.tbl ps):=by
 rcases h with h|⟨_,_,_,_,h,_⟩
 ·exact⟨_,h⟩
 ·exact⟨_,h⟩
def LT.rep (h:LT L Pt H)(b:cZ Pt H H')(r:aH H d v):aH H' d v:=by obtain⟨ps,e⟩:=h.tbl;exact aH.but b (λxs z=>by rw[e]at z;cases z) (λxs z=>by rw[e]at z;cases z) r
def LT.ne (h:LT L Pt H)(e:H a=some o)(n:∀ps,o≠.tbl ps):a≠Pt:=λz=>by obtain⟨ps,c⟩:=h.tbl;rw[z,c]at e;cases e;exact n _ rfl
def LT.sg (h:LT L Pt H)(b:cZ Pt H H')(s:iK K C fx sm H g):iK K C fx sm H' g:=by obtain⟨r,q,o,l,fs,m,dn,d,j,i,f,e,c,a⟩:=s;exact⟨r,q,o,l,fs,m,dn,b _ _ (h.ne d λ_=>by simp) d,j,i,f,e,b _ _ (h.ne c λ_=>by simp) c,b _ _ (h.ne a λ_=>by simp) a⟩
def NI:FA lkT where
 fr:=by decide +kernel
 nc:=by decide +kernel
 nl:=⟨rfl,rfl,rfl⟩
 ki:=rfl
 co:=rfl
 ge:=rfl
 df:=λ_=>rfl
 bd:=λ_ _ _ _ _ _=>rfl
 bo:=λO g=>d9 O g pass0 rfl (eB (pv 2) (eB (pv 0) (eB (pv 1) gA)))
 st:=λsm x=>by show flt sm (.str x)=_;unfold flt;rfl
 pt:=λsm _ _ _ h=>by show flt sm _=knot sm _ (List.map (flt sm) _);rw[<-cF];exact(RI sm h).1
 fl:=λhz tm=>(nB hz.1 tm).1
 nd:=λh=>h.2.2.1
 op:=λ{sm d e n ds} hz q o m hd _ a=>by
  show Fls (ds.map (flt sm))/\szs (ds.map (flt sm))<=60/\ndss (ds.map (flt sm))<=1000/\depDs (ds.map (flt sm))<=50;obtain⟨hz,f,c,l⟩:=hz;rw[<-cF];have hsz:sz e=max 1 (szs ds):=by rcases hd with rfl|rfl <;> rw[sz]
  have i:nds e=1+ndss ds:=by rcases hd with rfl|rfl <;> rw[nds]
  have j:depD e=depDs ds+1:=by
   rcases hd with rfl|rfl
   ·rw[depD,depDs,show depD (.str n)=0 from rfl];lia
   ·rw[depD,depDs,show depD (.str n)=0 from rfl];lia
  have v:=p0 sm ds;have u:=mZ sm ds;have r:=nA sm ds;exact⟨zH hz a,dz,dz,dz⟩
def yG (K:d6)(C Pt:Addr):Sp:=λvs H Q _=>∃(c g:Addr) (fx:cV) (sm:bL) (d:D) (v:V),vs=[.ref g,.ref c,v]/\H c=some (.dK [])/\iK K C fx sm H g/\aH H d v/\Tm d/\(∀r∈sm,r.2=("" : Str)\/Fl (.str r.2))/\sz d<=60/\nds d<=1000/\depD d<=50/\LT lkT Pt H /\
 ∀(a:V) (H':Hp),cZ Pt H H'->LT lkT Pt H'->aH H' (flt sm d) a->Q a H'
def MY {f C c Pt:Addr}{oc:ef}{od Y:Option Addr}{osl:Array (Option ef)}{kV z B ct:ef}(lk:K.lookup f=some ⟨oc,od,.func (PySem.W.fnOf "put_in" "put_in" (cP dI) (bZ dI) (aZ dI) .none kV z B Y (.ref c) ct),osl⟩)(j:PySem.W.codeIn K (.ref c) "put_in" = true)
  (hC:∀h,K.In h->PySem.W.CodeHd h c Pt) (hB:Bm mg base) (a:Ow P w K mg base 8 "from_within" (spFW lkT K C)):hZ P w K mg base lY 9 f (PySem.W.fnOf "put_in" "put_in" (cP dI) (bZ dI) (aZ dI) .none kV z B Y (.ref c) ct) (prmS dI) (yG K C Pt):=by
 refine G6 lk j IM (λvs H Q E h=>?_) (λA outer s H vs Q E hr h=>?_)
 ·obtain⟨X,g,U,sm,d,v,rfl,_⟩:=h;rfl
 ·obtain⟨X,g,U,sm,d,v,rfl,u,sg,rep,tm,hz,G,i,R,lt,q⟩:=h;refine⟨_,(aE (aF (SD a (hr.mono dw) rfl rfl rfl rfl rfl (pa3 (pv 2) (pv 1) (BG NI rfl rfl rfl rfl hC hB))))),?_⟩
  try dsimp only[cxOf,Cx.nox]
  refine⟨_,rfl,_,rfl,lt,λfl c' B S I F tq H' bt J L O j hv n0 r=>⟨g,rfl,λm N _=>?_⟩⟩;have l:aA H' (upd H' (s.heap.objs.size+1) (pinO (s.heap.objs.size+1) m)):=aA.upd r;refine⟨X,fl,s.heap.objs.size+1,g,U,sm,d,v,rfl,l _ _ (bt _ _ (lt.ne u λ_=>by simp) u),⟨c',B,S,m,I,F,tq,l _ _ L,ew,N,l _ _ O,j,hv⟩,(lt.sg bt sg).same l,aH.same l (lt.rep bt rep),tm,⟨hz,G,i,R⟩,λZ H2 s2 r2=>⟨s2 _ _ ew,?_⟩⟩;have T:aA H' (del1 H2 (s.heap.objs.size+1)):=λb o e=>by rw[dX (aC e r)];exact s2 _ _ (l _ _ e)
  exact q Z _ (λb o nb e=>T _ _ (bt b o nb e)) (J.same T) (aH.del1 (s2 _ _ ew) r2)
section
variable {P:eg}{w:eh}{K:d6}{mg:jD}{base:Heap}
structure zX (fx:cV)(sm:bL)(os:bA)(d:D):Prop where
 so:aP fx sm
 ho:∀x∈os,cB x
 tm:aM fx sm os d
 lv:lvs d<=50
 nd:nds d<=1000
 dp:depD d<=50
def FM (K:d6)(C Pt:Addr):Sp:=λvs H Q _=>∃(g:Addr) (fx:cV) (sm:bL) (os:bA) (d:D) (v:V),vs=[.ref g,v]/\iK K C fx sm H g/\aH H d v/\zX fx sm os d/\LT lkT Pt H /\
 ∀(a:V) (H':Hp),cZ Pt H H'->LT lkT Pt H'->aH H' (flt sm d) a->Q a H'
def M6 (F:iE K "flat" tH f fd)(T:Txt mg)(c:Ow P w K mg base 3 "check_term" (yJ K C))(i:Ow P w K mg base 9 "put_in" (yG K C Pt)):iX P w K mg base 10 f fd tH (FM K C Pt):=by
 refine F.okL PF λ_ _ _ _ _ _ _ _ m G h=>?_;obtain⟨g,z,sm,os,d,v,rfl,sg,rep,tr,lt,q⟩:=h;refine⟨_,(pss2 (bX (aS c m (pa2 (pv 0) (pv 1)))) (aF (aS i m (eB (pv 0) (@GB _ _ _ _ (pa1 (pv 1))))))),?_⟩
 try dsimp only[cxOf,Cx.nox]
 simp only[OW];clear m F T G c i;have keep:=aI q (aI sg (aI rep (aI tr lt)))
 walk_at "rd"
 obtain⟨q,sg,rep,tr,lt⟩:=keep;obtain⟨j,I⟩:=kJ tr.so tr.ho tr.tm;have L:=tr.lv;have J:=tr.dp;refine⟨g,z,sm,os,d,v,rfl,sg,tr.so,tr.ho,rep,tr.tm,dz,dz,tr.nd,λN B H u=>?_⟩;have s2:=B.trans (aA.upd (o:=.dK []) u);exact⟨H,g,z,sm,d,v,rfl,ew,sg.same s2,aH.same s2 rep,j,cX tr.so,dz,tr.nd,J,lt.same s2,λA H' b l r=>q A H' (λa o E e=>b a o E (s2 _ _ e)) l r⟩
def LF (K:d6)(C Pt:Addr):Sp:=λvs H Q _=>∃(g:Addr) (fx:cV) (sm:bL) (os:bA) (d:D) (v:V),vs=[.ref g,v]/\iK K C fx sm H g/\aH H d v/\zX fx sm os d/\LT lkT Pt H /\
 ∀(a:V) (H':Hp),cZ Pt H H'->LT lkT Pt H'->aH H' (kyD (flt sm d)) a->Q a H'
def sV {a:cV}{sm:bL}{os:bA}{d:D}(t:zX a sm os d):Fl (flt sm d):=(nB (cX t.so) (kJ t.so t.ho t.tm).1).1
def Q1 (F:iE K "flat_key" jS f fd)(T:Txt mg)(c:Ow P w K mg base 10 "flat" (FM K C Pt))(a:Ow P w K mg base 2 "order_key" spKey):iX P w K mg base 11 f fd jS (LF K C Pt):=by
 refine F.okL A0 λ_ _ _ _ _ _ _ _ i _ h=>?_;obtain⟨g,u,sm,os,d,v,rfl,sg,rep,tr,lt,q⟩:=h;refine⟨_,(aE (aF (aS a i (pa1 (aS c i (pa2 (pv 0) (pv 1))))))),?_⟩
 ac_nf
 refine⟨_,rfl,_,rfl,g,u,sm,os,d,v,rfl,sg,rep,tr,lt,λj E A r r1=>?_⟩;refine⟨flt sm d,j,rfl,r1,sV tr,aq (G8 sm d) tr.nd,λl B s2 hl m=>?_⟩;exact q _ B (λb o nb e=>s2 _ _ (A b o nb e)) (r.same s2) (aH.same (λb o z=>(lO.mp z).2) m)
def spTwo (K:d6)(C Pt:Addr)(R:bL->D->D->Bool):Sp:=λvs H Q _=>∃(g:Addr) (fx:cV) (sm:bL) (os:bA) (d e:D) (v u:V),vs=[.ref g,v,u]/\iK K C fx sm H g/\aH H d v/\aH H e u/\zX fx sm os d/\zX fx sm os e/\LT lkT Pt H /\
 ∀(H':Hp),cZ Pt H H'->LT lkT Pt H'->Q (.bl (R sm d e)) H'
noncomputable def oK (sm:bL)(d e:D):Bool:=decide (key (flt sm d)=key (flt sm e))
def CB:∀ks a:List M,eqDs (ks.map mD) (a.map mD)=decide (ks=a)
 | [],[]=>by simp[eqDs]
 | [],_::_=>by simp[eqDs]
 | _::_,[]=>by simp[eqDs]
 | m::ks,c::a=>by rw[bg,bg,eqDs,CA,CB ks a,ck];simp
def RN (ks:List M):depDs (ks.map mD)<=1:=by
 induction ks with
 | nil=>exact aw _
 | cons m ks a =>
  rw[bg,depDs];have:depD (mD m)=1:=rfl
  lia
def M9 (F:iE K "alike" pL f fd)(T:Txt mg)(a:Ow P w K mg base 11 "flat_key" (LF K C Pt)):iX P w K mg base 12 f fd pL (spTwo K C Pt oK):=by
 refine F.okL LJ λ_ _ _ _ _ _ _ _ j B h=>?_;obtain⟨g,l,sm,os,d,e,v,u,rfl,sg,rd,re,r,o,lt,q⟩:=h;refine⟨_,(aE (aF (fN (eA B) (aS a j (pa2 (pv 0) (pv 1))) (aS a j (pa2 (pv 0) (pv 2)))))),?_⟩
 ac_nf
 refine⟨_,rfl,_,rfl,g,l,sm,os,d,v,rfl,sg,rd,r,lt,λI J c i r1=>?_⟩;refine⟨_,rfl,_,rfl,g,l,sm,os,e,u,rfl,lt.sg c sg,lt.rep c re,o,i,λH G m A z=>?_⟩;refine⟨kyD (flt sm d),kyD (flt sm e),i.rep m r1,z,?_,?_⟩
 ·unfold kyD;rw[depD];have:=RN (key (flt sm d))
  lia
 ·have E:eqD (kyD (flt sm d)) (kyD (flt sm e))=oK sm d e:=by unfold kyD oK;rw[eqD,CB]
  rw[E];exact q G (c.trans m) A
end
def mF:Sp:=λvs H Q _=>∃(p a:Addr) (fx:cV) (fv:List V),vs=[.ref p,.ref a]/\aU H p/\H a=some (.lst fv)/\dF H fx fv/\a≠p/\(∀j,j<5->∃x,fx[j]?=some (x,0))/\∀(x:Str) (H':Hp),cZ p H H'->aU H' p->(x∈wi31\/x∈zeros fx)->Q (.str x) H'
theorem dF.at_:∀{l:cV} {vs:List V} {i:Nat} {r:Str×Int},dF H l vs->l[i]?=some r->∃t,vs[i]?=some (.ref t)/\H t=some (.tup [.str r.1,.int r.2])
 | [],_,_,_,_,e=>by simp at e
 | r::_,_,0,_,⟨t,us,e,h,q⟩,k=>by subst e;simp at k;subst k;exact⟨t,rfl,h⟩
 | _::_,_,i+1,_,⟨t,us,e,h,q⟩,k=>by subst e;simp at k;obtain⟨t,c,a⟩:=dF.at_ q k;exact⟨t,by simpa using c,a⟩
def QX (F:iE K "_law_leaf" iS f fd)(T:Txt mg)(e:Ow P w K mg base 1 "_law_take" gG):iX P w K mg base 2 f fd iS mF:=by
 refine F.okL pI λ_ _ _ _ H _ _ _ g E h=>?_;obtain⟨p,a,J,I,rfl,A,G,i,l,B,q⟩:=h;refine⟨_,(pss3 (bJ 2 pI.nd (aS e g (pa2 (pv 0) aB))) (bC (aJ (qP E) (pv 2) aB) (aE (aF (aV (bW (pa4 cI cI cI cI)) (pv 2)))) aG) (aF (aV (aV (pv 1) (aX gC (pv 2) aB)) aB))),?_⟩
 ac_nf
 refine⟨_,rfl,p,9,rfl,A,dw,dw,λd x y N L=>⟨_,rfl,.inl (.inl ⟨_,_,rfl,rfl,_,rfl,ite2 (λc=>?_) (λc=>?_)⟩)⟩⟩
 ·have c:d<4:=by simpa using c
  refine⟨szl 4,λr g=>⟨_,rfl,?_⟩⟩;have q':=λx C=>q x _ ((cZ.upd p H (.lst [.int _,.int _])).trans (cZ.new (p:=p) (o:=.lst [.str "?x",.str "?1",.str "?0z9",.str "?zzzzzzzz"]) g)) (aU.but ⟨_,_,ew⟩ (aU.ne ⟨_,_,ew⟩ g)) (.inl C);have:d=0\/d=1\/d=2\/d=3:=by lia
  rcases this with rfl|rfl|rfl|rfl
  ·exact⟨.str "?x",by rw[ixV_l ew];rfl,q' _ dw⟩
  ·exact⟨.str "?1",by rw[ixV_l ew];rfl,q' _ dw⟩
  ·exact⟨.str "?0z9",by rw[ixV_l ew];rfl,q' _ dw⟩
  ·exact⟨.str "?zzzzzzzz",by rw[ixV_l ew];rfl,q' _ dw⟩
 ·have c:¬d<4:=by simpa using c
  obtain⟨j,hj,h5⟩:∃j:Nat,d - 4=(j:Int)/\j<5:=⟨(d - 4).toNat,dz,dz⟩
  obtain⟨z,hz⟩:=B j h5;have v:=aN.pot (o:=.lst [.int x,.int y]) A;obtain⟨t,u,m⟩:=(i.same v).at_ hz;refine⟨_,rfl,_,rfl,_,_,rfl,rfl,.ref t,?_,.str z,by rw[ixV_t m];rfl,q z _ (cZ.upd _ _ _) ⟨_,_,ew⟩ (.inr ?_)⟩
  ·dsimp only;rw[hj,ixV_l (xs:=I) (upk l G)];exact lU u
  ·exact da.mpr ⟨(z,0),de.mpr ⟨bn hz,rfl⟩,rfl⟩
def WF (p t:Addr)(a:cV)(sm:bL)(H:Hp):Prop:=aU H p/\OO p t a sm H/\aP a sm/\WI a sm
def WF.but (h:WF p t fx sm H)(c:cZ p H H')(a:aU H' p):WF p t fx sm H':=⟨a,h.2.1.but c h.1,h.2.2⟩
def pD:Sp:=λvs H Q _=>∃(p t:Addr) (fx:cV) (sm:bL) (b:Nat),vs=[.ref p,.ref t,.int b]/\WF p t fx sm H/\2<=b/\b<=40/\∀(u:Addr) (n:Str) (k:Nat) (H':Hp),cZ p H H'->aU H' p->H' u=some (.tup [.str n,.int k])->nJ fx sm n k->k<=b->Q (.ref u) H'
def W8 (d:cV)(b:Nat)(H:Hp)(i:Nat)(a:List V)(c:St)(H':Hp):Prop:=H'=H/\(∃o:Option V,c=[o,some (.int b)])/\dF H ((d.take i).filter λr=>decide (1<=r.2) && decide (r.2<=(b:Int))) a
def QZ (F:iE K "_law_head" iT f fd)(T:Txt mg)(g:Ow P w K mg base 1 "_law_take" gG):iX P w K mg base 2 f fd iT pD:=by
 refine F.okL jB λ_ _ _ _ H _ _ _ E hu h=>?_;obtain⟨p,t,fx,sm,b,rfl,h0,b2,b40,q⟩:=h;refine⟨_,(pss4 (gU (pv 1) (dL K rfl (i:=3) (j:=4) rfl jB.nd rfl rfl rfl rfl)) (bC (aJ (eA hu) (aS g E (pa2 (pv 0) aB)) aB) (aE (aF (bB (pa2 (aV (aV (pv 4) (aS g E (pa2 (pv 0) (cW bK T.n_len (pa1 (pv 4)))))) aB) (aX bF aB (aS g E (pa2 (pv 0) (aX gC (pv 2) aB)))))))) aG) (mN 5 jB.nd (bD.of jB ["_law_pair","_law_budget"] [none,some 2]) (gF K (pv 3)) (bV (i:=0) (cT ["_law_pair","_law_budget"]) rfl (Or.inl rfl)) (sC (kT mR mR aB (aV (pv 0) aB) (pv 1))) (pv 0)) (aF (aV (pv 5) (aS g E (pa2 (pv 0) (cW bK T.n_len (pa1 (pv 5)))))))),?_⟩
 ac_nf
 obtain⟨hp,⟨fa,sa,fv,X,t1,t2,t3,t4,t5,nfp,Y⟩,so,sg⟩:=id h0;refine⟨_,rfl,t,_,rfl,hX.of t1,rfl,_,_,rfl,_,_,rfl,rfl,?_⟩;refine⟨_,rfl,p,2,rfl,hp,dw,dw,λd x y d0 d1=>?_⟩;have O:aU (upd H p (.lst [.int x,.int y])) p:=⟨_,_,ew⟩
 have I:cZ p H (upd H p (.lst [.int x,.int y])):=cZ.upd p H _;have Z:=h0.but I O;have f1:upd H p (.lst [.int x,.int y]) fa=some (.lst fv):=upk nfp t2;have s1:upd H p (.lst [.int x,.int y]) sa=some (.lst X):=upk Y t3;have r1:=t4.same (aN.pot (o:=.lst [.int x,.int y]) hp);have N:=t5.same (aN.pot (o:=.lst [.int x,.int y]) hp);generalize upd H p (.lst [.int x,.int y])=H1 at O I Z f1 s1 r1 N|-;have ls:=N.len;have len1:∀{l:Addr} {xs:List V} {H':Hp},H' l=some (.lst xs)->(Option.map (λn=>V.int n) do let a <-lenV H' (.ref l);pure (a:Int))=some (.int xs.length):=λh=>by rw[lenV_l h];rfl
 refine⟨.int d,.int 0,rfl,rfl,aw _,_,rfl,aW (λc=>?_) (λc=>?_)⟩
 ·refine⟨_,rfl,_,rfl,_,rfl,_,_,rfl,len1 s1,p,X.length,rfl,O,by have:=sg.2.2;lia,by have:=so.s2;lia,λe S R e0 e1=>?_⟩;obtain⟨r,C,E,htt,W⟩:∃r C,sm[e.toNat]?=some r/\X[e.toNat]?=some (.ref C)/\H1 C=some (.tup [.str r.1,.str r.2]):=by
   obtain⟨v,Q⟩:∃v,X[e.toNat]?=some v:=⟨_,ay dz⟩
   obtain⟨r,C,Z,rfl,h3⟩:=N.get Q;exact⟨r,C,Z,Q,h3⟩
  have U:aU (upd H1 p (.lst [.int S,.int R])) p:=⟨_,_,ew⟩
  have G:=I.trans (cZ.upd p H1 (.lst [.int S,.int R]));have s2:upd H1 p (.lst [.int S,.int R]) sa=some (.lst X):=upk Y s1;have t2':=aN.pot (o:=.lst [.int S,.int R]) O _ _ W;generalize upd H1 p (.lst [.int S,.int R])=H2 at U G s2 t2'|-;refine⟨.ref C,by rw[ixV_l s2,uP e0 e1];exact htt,.str r.1,by rw[ixV_t t2'];rfl,_,rfl,_,rfl,_,_,rfl,rfl,p,_,rfl,U,dz,dz,λk x2 y2 k0 k1=>.inl ⟨_,rfl,szl 2,λu hu=>?_⟩⟩;obtain⟨kk,hk⟩:∃kk:Nat,2+k=(kk:Int):=⟨(2+k).toNat,dz⟩
  rw[hk];have p3:aU (upd H2 p (.lst [.int x2,.int y2])) p:=⟨_,_,ew⟩
  exact q u r.1 kk _ ((G.trans (cZ.upd p H2 _)).trans (cZ.new hu)) (p3.but (p3.ne hu)) ew (.inr ⟨dz,da.mpr ⟨r,bn E,rfl⟩⟩) dz
 ·refine⟨_,rfl,fa,fv,rfl,.inl f1,λJ hJ=>cQ hJ (W8 fx b H1) ⟨rfl,⟨none,rfl⟩,rfl⟩ (λi A σ H' _ h=>by rw[h.1]) ?_ ?_⟩
  ·rintro i v A σ H' Q ⟨rfl,⟨o,rfl⟩,B⟩;obtain⟨r,C,E,rfl,W⟩:=r1.get Q;have la:A.length<sizeLine:=ak (m:=12) (by rw[B.len];exact aq (List.length_filter_le _ _) (by rw[bz];have:=so.f2;lia)) dw;have no:(decide (1<=r.2) && decide (r.2<=(b:Int)))=false->W8 fx b H' (i+1) A [some (.ref C),some (.int b)] H':=λz=>⟨rfl,⟨_,rfl⟩,by rw[aR E,List.filter_append,List.filter_cons_of_neg (by rw[z];decide),List.filter_nil,bu];exact B⟩
   refine⟨_,rfl,.int r.2,by rw[ixV_t W];rfl,_,_,rfl,rfl,_,rfl,aW (λI=>⟨_,rfl,_,_,rfl,rfl,_,rfl,aW (λG=>?_) (λG=>?_)⟩) (λI=>⟨_,rfl,?_⟩)⟩
   ·refine⟨_,rfl,la,rfl,⟨_,rfl⟩,?_⟩;rw[aR E,List.filter_append,List.filter_cons_of_pos (by rw[I,G];rfl),List.filter_nil];exact B.snoc W
   ·exact no (by rw[G,Bool.and_false])
   ·exact no (by rw[I,Bool.false_and])
  ·rintro A σ H' ⟨rfl,⟨o,rfl⟩,B⟩ l hl;rw[r1.len,bI]at B;have U:=O.but (o:=.lst A) (O.ne hl);have G:=I.trans (cZ.new (p:=p) (o:=.lst A) hl);have l2:upd H' l (.lst A) l=some (.lst A):=ew;have L:=B.same (aN.of (aA.upd (o:=.lst A) hl));have nlp:=(O.ne hl).symm;generalize upd H' l (.lst A)=H2 at U G l2 L|-;have la:=L.len;have mem:∀r,r∈fx.filter (λr=>decide (1<=r.2) && decide (r.2<=(b:Int))) ↔ r∈fx/\1<=r.2/\r.2<=(b:Int):=λr=>by rw[de,Bool.and_eq_true,decide_eq_true_iff,decide_eq_true_iff]
   have pos:1<=A.length:=by obtain⟨r,Z,h2⟩:=sg.2.1;rw[la];exact List.length_pos_of_mem ((mem r).mpr ⟨Z,dz,dz⟩)
   have le12:A.length<=12:=la ▸ aq (List.length_filter_le _ _) so.f2;refine⟨_,rfl,_,rfl,_,rfl,_,_,rfl,len1 l2,p,A.length,rfl,U,dz,dz,λe S R e0 e1=>?_⟩;obtain⟨v,Q⟩:∃v,A[e.toNat]?=some v:=⟨_,ay dz⟩
   obtain⟨r,C,E,rfl,W⟩:=L.get Q;obtain⟨g1,g2,g3⟩:=(mem r).mp (bn E);refine⟨.ref C,by rw[ixV_l (xs:=A) (upk nlp l2),uP e0 e1];exact Q,?_⟩;obtain⟨k,hk⟩:∃k:Nat,r.2=(k:Int):=⟨r.2.toNat,dz⟩
   exact q C r.1 k _ (G.trans (cZ.upd p H2 _)) ⟨_,_,ew⟩ (by rw[<-hk];exact aN.pot U _ _ W) (.inl ⟨dz,by rw[<-hk];exact g1⟩) dz
def kL (n:Nat):Sp:=λvs H Q _=>∃(p t:Addr) (fx:cV) (sm:bL) (room deep:Nat),vs=[.ref p,.ref t,.int room,.int deep]/\WF p t fx sm H/\1<=room/\room<=40/\deep<=n /\
 ∀(d:D) (v:V) (H':Hp),cZ p H H'->aU H' p->aH H' d v->aM fx sm wi31 d->Fl d->lvs d<=room->depD d<=deep->Q v H'
def WE (p t rw u:Addr)(a d c:Nat)(nm:Str)(g:cV)(sm:bL)(H:Hp)(i:Nat)(f:St)(e:Hp):Prop :=
 ∃(left:Nat) (ds:List D) (vs:List V) (o8 o9:Option V),f=[some (.ref p),some (.ref t),some (.int a),some (.int d),some (.str nm),some (.int c),some (.ref rw),some (.int left),o8,o9] /\
  cZ p H e/\aU e p/\e rw=some (.lst (.str nm::vs))/\Reps e ds vs/\ds.length=i/\IsTms g sm wi31 ds/\Fls ds/\lvss ds+left<=a/\c<=left+i/\depDs ds+1<=d
def QP (n:Nat)(F:iE K "_law_term" dG f fd)(T:Txt mg)(C:Ow P w K mg base 1 "_law_take" gG)(G:Ow P w K mg base 2 "_law_leaf" mF)(I:Ow P w K mg base 2 "_law_head" pD)
  (B:Ow P w K mg base (n+3) "_law_term" (λvs H Q E=>∃m,m<n/\kL m vs H Q E)):iX P w K mg base (n+4) f fd dG (kL n):=by
 refine F.okL dS λ_ _ _ _ H vs Q E hr hu h=>?_;obtain⟨p,t,U,sm,A,r,rfl,J,r1,r2,dn,q⟩:=h;refine⟨_,(pss6 (bC (PW.pt (j6 (aJ (eA hu) (pv 2) aB) (iI (aJ (eA hu) (pv 3) aB)))) (aE (aF (d9 G (hr.mono dz) pass0 rfl (pa2 (pv 0) (aV (pv 1) aB))))) aG) (gU (d9 I (hr.mono dz) pass0 rfl (pa3 (pv 0) (pv 1) (pv 2))) (dL K rfl (i:=4) (j:=5) rfl dS.nd rfl rfl rfl rfl)) (bJ 6 dS.nd (bW (pa1 (pv 4)))) (bJ 7 dS.nd (pv 2)) (iA (jH rfl T.n_range (pa1 (pv 5))) (gV 8 dS.nd) (pss4 (bJ 9 dS.nd (pv 7)) (bC (aJ (qP hu) (pv 8) (aX gC (pv 5) aB)) (aE (bJ 9 dS.nd (aX bF aB (d9 C (hr.mono dz) pass0 rfl (pa2 (pv 0) (aX gC (pv 7) (aX gC (aX gC (pv 5) aB) (pv 8)))))))) aG) (bX (fX di dq dj eU (pv 6) (pa1 (d9 B (hr.mono dz) pass0 rfl (pa4 (pv 0) (pv 1) (pv 9) (aX gC (pv 3) aB)))))) (bJ 7 dS.nd (aX gC (pv 7) (pv 9))))) (aF (bR dY rfl T.n_tuple rfl (pa1 (pv 6))))),?_⟩
 ac_nf
 have leaf:∀W,cZ p H W->aU W p->∀a Y,W a=some (.lst Y)->dF W U Y->a≠p->mF [.ref p,.ref a] W Q E0:=λW b1 p1 a Y ha row na=>by
  refine⟨p,a,U,Y,rfl,p1,ha,row,na,J.2.2.2.1,λx H' Z R X=>q (.str x) (.str x) H' (b1.trans Z) R rfl (by unfold aM;exact X) ?_ r1 (aw _)⟩;unfold Fl;rcases X with X|X
  ·have:∀y∈wi31,1<=y.cps.toList.length/\y.cps.toList.length<=20:=by decide +kernel
   exact this x X
  ·have:=J.2.2.1.nm x (cp _ ((IA U).subset X));exact⟨this.1,aq this.2.1 dw⟩
 obtain⟨hp,⟨fa,sa,Y,sv,t1,t2,t3,t4,t5,nfp,nsp⟩,so,sg⟩:=id J;have lf:=leaf H (cZ.refl _ _) hp fa Y t2 t4 nfp;refine aD ?_;intro _ _ D1 k1 e1 _;refine⟨_,rfl,.int A,.int 1,rfl,rfl,aw _,_,rfl,aW (λc=>?_) (λc1=>⟨_,rfl,.int r,.int 0,rfl,rfl,aw _,_,rfl,aW (λc=>?_) (λc2=>k1 (aD ?_))⟩)⟩
 ·exact⟨_,rfl,_,rfl,.ref fa,by rw[ixV_t t1];rfl,(show D1.rt=Q from e1) ▸ lf⟩
 ·exact⟨_,rfl,_,rfl,.ref fa,by rw[ixV_t t1];rfl,(show D1.rt=Q from e1) ▸ lf⟩
 have n1:(A:Int)≠1:=λz=>by rw[z]at c1;exact absurd c1 dw
 have n2:(r:Int)≠0:=λz=>by rw[z]at c2;exact absurd c2 dw
 intro _ _ _ k1 _ _;refine⟨_,rfl,_,rfl,_,rfl,p,t,U,sm,A,rfl,J,dz,r2,λu nm o W b1 p1 u1 hh hk=>⟨u,_,rfl,hX.of u1,rfl,_,_,rfl,_,_,rfl,rfl,k1 ?_⟩⟩;exists k2;refine⟨_,rfl,szl 1,λrw O=>k2 ?_⟩;exists k3;refine⟨_,rfl,k3 ?_⟩;exists k4;refine⟨_,rfl,o,rfl,dz,dz,?_⟩;have N:=(p1.ne O).symm;have nrH:H rw=none:=by
  cases e:H rw with
  | none=>rfl
  | some w=>have:=b1 rw w N e;rw[O]at this;cases this
 refine oV (n:=o) (WE p t rw u A r o nm U sm H) ⟨A,[],[],none,none,rfl,b1.trans (cZ.new O),p1.but (p1.ne O),ew,rfl,rfl,trivial,trivial,by show 0+A<=A;lia,dz,by show 0+1<=r;lia⟩ ?_ ?_
 ·rintro i σ H2 hi ⟨left,ds,vs,o8,o9,rfl,Z,R,w2,rp,hl,S,L,lv,mi,dp⟩;have hh2:=Reps.len rp;have step:∀(l:Nat) (H3:Hp) (b3:cZ p H2 H3) (p3:aU H3 p) (s1:1<=l) (s2:l<=left) (s3:o<=left - l+(i+1)) (D:jA) (hD:∀σ H',WE p t rw u A r o nm U sm H (i+1) σ H'->D.nx σ H'),
    tSeq (tDrop (tBM K "list" rAppend (tVar 6) (tCons (tCall (λvs H Q E=>∃m,m<n/\kL m vs H Q E) [] E0 (tCons (tVar 0) (tCons (tVar 1) (tCons (tVar 9) (tCons (tOp (rI0 λi j=>V.int (i - j)) (tVar 3) (tC (V.int 1))) tNil))))) tNil))) (tAsg (tOp (rI0 λi j=>V.int (i - j)) (tVar 7) (tVar 9)) (gName 7)) D
     [some (.ref p),some (.ref t),some (.int A),some (.int r),some (.str nm),some (.int o),some (.ref rw),some (.int left),some (.int (0+i)),some (.int l)] H3:=λl H3 b3 p3 s1 s2 s3 D hD=>by
   have w3:=b3 _ _ N w2;have e2:(r:Int) - 1=((r - 1:Nat):Int):=by lia
   refine⟨_,rfl,.inl ⟨rfl,_,d5.of w3⟩,_,rfl,_,rfl,_,rfl,_,rfl,_,_,rfl,rfl,r - 1,dz,p,t,U,sm,l,r - 1,(by rw[<-e2];rfl),J.but (Z.trans b3) p3,s1,dz,ac _,λd v H4 b4 p4 rep tm fl lv4 dp4=>?_⟩;have w4:=b4 _ _ N w3;refine⟨rw,_,v,rfl,rfl,w4,ltSz (by simp only[ar];lia),_,rfl,_,rfl,_,_,rfl,rfl,hD _ _ ?_⟩;have tt:aN H2 H4:=(aN.ofBut b3 R).trans (aN.ofBut b4 p3);refine⟨left - l,ds++[d],vs++[v],some (.int (0+i)),some (.int l),?_,EZ ((Z.trans b3).trans b4) nrH,p4.but N.symm,by rw[ew];rfl,?_,by rw[au,hl];rfl,S.snoc tm,?_,?_,s3,?_⟩
   ·rw[Int.ofNat_sub s2];rfl
   ·have t5:aN H4 (upd H4 rw (.lst (.str nm::vs++[v]))):=aN.lst w4;exact Reps.snoc (aH.tups t5 fl rep) (Reps.tups t5 L (Reps.tups tt L rp))
   ·exact fB λe he=>(c4.mp he).elim (λh=>bQ L e h) λh=>by rw[cy.mp h];exact fl
   ·rw[nR];lia
   ·rw[uK];lia
  refine⟨_,rfl,_,rfl,_,rfl,_,_,rfl,rfl,.inl (.inl ⟨_,_,rfl,rfl,_,rfl,ite2 (λc=>?_) (λc=>?_)⟩)⟩
  ·have c:(0:Int)+i<o - 1:=by simpa using c
   obtain⟨m,hm⟩:∃m:Nat,(left:Int) - (o - 1 - (0+i))=(m:Int):=⟨left - (o - 1 - i),dz⟩
   refine⟨_,rfl,_,rfl,_,rfl,_,_,rfl,rfl,_,rfl,_,_,rfl,rfl,_,_,rfl,rfl,p,m,(by dsimp only;rw[hm];rfl),R,dz,dz,λg x y g0 g1=>.inl ⟨_,rfl,?_⟩⟩;obtain⟨k,hk⟩:∃k:Nat,1+g=(k:Int):=⟨(1+g).toNat,dz⟩
   rw[hk];exact step k _ (cZ.upd p H2 _) ⟨_,_,ew⟩ dz dz dz _ λ_ _ h=>h
  ·have c:¬(0:Int)+i<o - 1:=by simpa using c
   exact step left H2 (cZ.refl _ _) R dz (ac _) dz _ λ_ _ h=>h
 ·rintro σ H2 ⟨left,ds,vs,o8,o9,rfl,Z,R,w2,rp,hl,S,L,lv,mi,dp⟩;refine k4 ⟨_,rfl,rw,_,rfl,.inl w2,λtp H3 hc=>?_⟩;rcases hc with⟨z,_⟩|⟨_,ht,rfl⟩
  ·rw[w2]at z;cases z
  refine q (.tup (.str nm::ds)) _ _ (Z.trans (cZ.new ht)) (R.but (R.ne ht)) ⟨tp,_,rfl,ew,_,_,rfl,rfl,Reps.same (aA.upd ht) rp⟩ ?_ ?_ ?_ ?_
  ·unfold aM;exact⟨hl ▸ hh,S⟩
  ·unfold Fl;exact L
  ·rw[lvs];lia
  ·rw[depD,depDs,show depD (.str nm)=0 from rfl];lia
def RH (F:iE K "_law_term" dG f fd)(T:Txt mg)(a:Ow P w K mg base 1 "_law_take" gG)(c:Ow P w K mg base 2 "_law_leaf" mF)(d:Ow P w K mg base 2 "_law_head" pD)
  (hm:mg "_law_term" = some (.ref f)) (o:PySem.W.keepIn K (.ref f)=true) (e:eH K fd (prmS dG) []):∀n,iX P w K mg base (n+4) f fd dG (kL n):=by
 intro n
 induction n using Nat.strongRecOn with
 | ind n i =>
  exact QP n F T a c d ⟨f,fd,_,⟨λvs H Q E ⟨m,g,h⟩=>(i m g).len vs H Q E h,λA outer s H args us vs Q E l q e j ⟨m,g,h⟩=>((i m g).mono dz).run A outer s H args us vs Q E l q e j h⟩,hm,o,e⟩
def MH (F:iE K "_law_term" dG f fd)(T:Txt mg)(a:Ow P w K mg base 1 "_law_take" gG)(c:Ow P w K mg base 2 "_law_leaf" mF)(d:Ow P w K mg base 2 "_law_head" pD)
  (hm:mg "_law_term" = some (.ref f)) (e:PySem.W.keepIn K (.ref f)=true) (g:eH K fd (prmS dG) []) (n:Nat):Ow P w K mg base (n+4) "_law_term" (kL n):=⟨f,fd,_,RH F T a c d hm e g n,hm,e,g⟩
def JN (h:97<=c/\c<=122):inTx "abcdefghijklmnopqrstuvwxyz" c=true:=by
 have a:∀j:Fin 26,inTx "abcdefghijklmnopqrstuvwxyz" (97+j.1)=true:=by decide +kernel
 have:=a ⟨c - 97,dz⟩;rw[show 97+(c - 97)=c by lia]at this;exact this
def LB:Sp:=λvs H Q _=>∃x:Str,vs=[.str x]/\lV x/\∀H',aA H H'->Q (.bl true) H'
def QU (F:iE K "is_name" kQ f fd)(T:Txt mg):iX P w K mg base 1 f fd kQ LB:=by
 refine F.okL tF λ_ _ _ _ H _ _ _ v u h=>?_;obtain⟨x,rfl,r,q⟩:=h;refine⟨_,(pss2 (bC (PW.pt (j6 (cS (fE K T.n_isinstance (pv 0) T.n_str)) (iI (cS (kT mR mR aB (cW bK T.n_len (pa1 (pv 0))) (fW T.c_LONGEST_NAME rfl)))))) (aE (aF jY)) aG) (aF (cW (qY rfl) T.n_all (pa1 (jX (bD.of tF ["sign"] [none]) (L6 (pv 0)) (bV (i:=0) (cT ["sign"]) rfl (Or.inl rfl)) cU (fN qO (pv 0) (fW T.c_LETTERS rfl) (by with_unfolding_all rfl))))))),?_⟩
 try dsimp only[cxOf,Cx.nox]
 simp only[xU];clear v F T u;have keep:=aI q r
 walk_at "rd"
 obtain⟨q,B,j,l⟩:=keep;have hz:x.length<=sizeLine:=aq (m:=6) (by rw[bw]at j;exact j) dw;have C:x.cps.toList.length=x.length:=by rw[bw];rfl
 refine⟨true,rfl,?_⟩;rw[ab dw];refine⟨.int x.length,by rw[BU hz];rfl,_,rfl,?_⟩;rw[aj dz];refine⟨_,rfl,?_⟩;rw[ab dz];refine⟨_,rfl,x,rfl,?_,?_⟩
 ·rw[Array.all_eq_true_iff_forall_mem];intro c d;have:=l c (by simpa using d);simp only[decide_eq_true_eq]
  lia
 ·refine xK (λi a g H'=>H'=H/\a=(List.replicate i true).map V.bl/\i<=6/\∃o:Option V,g=[o]) ⟨rfl,rfl,dw,none,rfl⟩ ?_ ?_
  ·rintro i c a g H' d ⟨rfl,rfl,A,o,rfl⟩;have hm:c∈x.cps.toList:=by
    have:x.cps.toList[i]?=some c:=by rw[Array.getElem?_toList];exact d
    exact bn this
   have hi':i<x.cps.size:=(Array.getElem?_eq_some_iff.mp d).1;refine⟨_,rfl,_,rfl,_,rfl,?_⟩;have e:=JN (l c hm);unfold inTx at e;dsimp only;refine⟨ltSz,rfl,?_,by rw[bw]at j;lia,_,rfl⟩;rw[e,List.replicate_succ',az];rfl
  ·rintro a g H' ⟨rfl,rfl,A,o,rfl⟩ p z;refine⟨p,rfl,List.replicate _ true,ew,?_⟩;have:(List.replicate x.cps.size true).all id=true:=by simp
   rw[this];exact q _ (aA.upd z)
def FH:Sp:=λvs H Q _=>∃i:Int,vs=[.int i]/\Q (.bl true) H
def MW (F:iE K "is_whole" jO f fd)(T:Txt mg):iX P w K mg base 1 f fd jO FH:=by
 refine F.okL AY λ_ _ _ _ _ _ _ _ a _ h=>?_;obtain⟨i,rfl,q⟩:=h;refine⟨_,(aE (aF (DU (cW cY T.n_isinstance (pa2 (pv 0) (pP T.n_int))) (tM (TV (cW cY T.n_isinstance (pa2 (pv 0) (pP T.n_bool)))))))),?_⟩
 try dsimp only[cxOf,Cx.nox]
 simp only[uY];clear a F T
 walk_at "rd"
def oA (H:Hp)(ws:List V):Prop:=∀v∈ws,∃t x y,v = .ref t/\H t=some (.tup [x,y])
def oA.same (h:oA H ws)(s:aA H H'):oA H' ws:=λv a=>by obtain⟨t,x,y,e,h⟩:=h v a;exact⟨t,x,y,e,s _ _ h⟩
def FJ:Sp:=λvs H Q _=>∃(a:Addr) (lo hi:Int) (ws:List V),vs=[.ref a,.int lo,.int hi]/\H a=some (.lst ws)/\oA H ws/\lo<=ws.length/\(ws.length:Int)<=hi/\ws.length<=100/\∀l H',aA H H'->H l=none->H' l=some (.lst ws)->Q (.ref l) H'
def YM (a:Addr)(d e:Int)(H:Hp)(i:Nat)(c:St)(f:Hp):Prop:=∃o:Option V,c=[some (.ref a),some (.int d),some (.int e),o]/\aA H f
def YN (ws:List V)(H:Hp)(i:Nat)(a:List V)(c:St)(d:Hp):Prop:=∃o:Option V,c=[o]/\aA H d/\a=ws.take i
def M0 (F:iE K "checked_pairs" eQ f fd)(T:Txt mg):iX P w K mg base 1 f fd eQ FJ:=by
 refine F.okL iH λ_ _ _ _ H _ _ _ _ X h=>?_;obtain⟨a,W,Z,ws,rfl,ha,pr,h1,h2,h3,q⟩:=h;refine⟨_,(pss3 (bC (PW.pt (j6 (cS (fV K (cW cY T.n_isinstance (pa2 (pv 0) (bB (pa2 (pP T.n_list) (pP T.n_tuple))))))) (iI (cS (kT mR mR (pv 1) (cW bK T.n_len (pa1 (pv 0))) (pv 2)))))) (aE gT) aG) (iA (gF K (pv 0)) (gV 3 iH.nd) (aE (bC (PW.pt (j6 (cS (fV K (cW cY T.n_isinstance (pa2 (pv 3) (bB (pa2 (pP T.n_list) (pP T.n_tuple))))))) (iI (aJ (lN X) (cW bK T.n_len (pa1 (pv 3))) aB)))) (aE gT) aG))) (aF (jX (bD.of iH ["pair"] [none]) (gF K (pv 0)) (bV (i:=0) (cT ["pair"]) rfl (Or.inl rfl)) cU (bR dY rfl T.n_tuple rfl (pa1 (pv 0)))))),?_⟩
 ac_nf
 refine⟨_,rfl,szl 2,λp Y=>?_⟩;obtain⟨H1,C,B,L⟩:=nwH (.tup [.ty "list",.ty "tuple"]) Y;rw[C];have d:=B _ _ ha;refine⟨.ref a,.ref p,true,rfl,NR d L,true,rfl,?_⟩;refine⟨_,rfl,_,rfl,_,.int ws.length,rfl,by dsimp only;rw[lenV_l d];rfl,_,_,rfl,rfl,_,rfl,aW (λ_=>⟨_,rfl,_,_,rfl,rfl,_,rfl,?_⟩) λc=>absurd h1 (of_decide_eq_false c)⟩;rw[bj h2];refine⟨_,rfl,a,ws,rfl,.inl d,λJ hJ=>?_⟩;refine gZ hJ (YM a W Z H1) ⟨none,rfl,aA.refl _⟩ (by rintro i m H' _ ⟨_,_,s2⟩;rw[d,s2 _ _ d]) ?_ ?_
 ·rintro i x m R r ⟨o,rfl,s2⟩;obtain⟨t,y,z,rfl,G⟩:=pr x (bn r);have E:=s2 _ _ (B _ _ G);refine⟨_,rfl,szl 2,λS I=>?_⟩;obtain⟨Q,C,g,u⟩:=nwH (.tup [.ty "list",.ty "tuple"]) I;rw[C];have e:=g _ _ E;refine⟨.ref t,.ref S,true,rfl,NQ e u,true,rfl,_,rfl,_,.int 2,rfl,by dsimp only;rw[lenV_t e];rfl,.int 2,.int 2,rfl,rfl,aw _,_,rfl,?_⟩;rw[eF];exact⟨_,rfl,s2.trans g⟩
 ·rintro m R ⟨o,rfl,s2⟩;have j:=s2 _ _ d;refine⟨_,rfl,a,ws,rfl,.inl j,λJ2 N=>?_⟩;refine cQ N (YN ws R) ⟨none,rfl,aA.refl _,rfl⟩ (by rintro i A m H' _ ⟨_,_,g,_⟩;rw[j,g _ _ j]) ?_ ?_
  ·rintro i x A m Q r ⟨U,rfl,g,rfl⟩;obtain⟨t,y,z,rfl,G⟩:=pr x (bn r);have e:=g _ _ (s2 _ _ (B _ _ G));have hi':=(cx.mp r).1;refine⟨_,rfl,t,[y,z],rfl,.inr e,λl H4 v=>?_⟩;rcases v with⟨v,rfl,rfl⟩|⟨v,_⟩
   ·exact⟨ltSz (by rw[bz];lia),_,rfl,g,by rw[aR r]⟩
   ·rw[e]at v;cases v
  ·rintro A m Q ⟨U,rfl,g,rfl⟩ l hl;rw[bI];have O:=(B.trans s2).trans g;exact q l _ (O.trans (aA.upd hl)) (O.free hl) ew
def j4 (H:Hp):bA->List V->Prop
 | [],vs=>vs=[]
 | n::ns,vs=>∃t y us,vs = .ref t::us/\H t=some (.tup [.str n,y])/\j4 H ns us
def j4.same (s:aA H H'):∀{ns:bA} {vs:List V},j4 H ns vs->j4 H' ns vs
 | [],_,h=>h
 | _::_,_,⟨t,y,us,e,h,q⟩=>⟨t,y,us,e,s _ _ h,j4.same s q⟩
def j4.len:∀{ns:bA} {vs:List V},j4 H ns vs->vs.length=ns.length
 | [],_,h=>by cases h;rfl
 | _::_,_,⟨t,y,us,e,h,q⟩=>by subst e;simp[j4.len q]
theorem j4.get:∀{ns:bA} {vs:List V} {i:Nat} {v:V},j4 H ns vs->vs[i]?=some v->∃n t y,ns[i]?=some n/\v = .ref t/\H t=some (.tup [.str n,y])
 | [],_,_,_,h,k=>by cases h;simp at k
 | _::_,_,0,_,⟨t,y,us,e,h,q⟩,k=>by subst e;simp at k;exact⟨_,t,y,rfl,k.symm,h⟩
 | _::_,_,i+1,_,⟨t,y,us,e,h,q⟩,k=>by subst e;simp at k;obtain⟨r,t,y,d,c,a⟩:=j4.get q k;exact⟨r,t,y,by simpa using d,c,a⟩
def j4.app:∀{ns ms:bA} {vs us:List V},j4 H ns vs->j4 H ms us->j4 H (ns++ms) (vs++us)
 | [],_,_,_,h,k=>by cases h;exact k
 | _::_,_,_,_,⟨t,y,us,e,h,q⟩,k=>by subst e;exact⟨t,y,_,rfl,h,j4.app q k⟩
def dF.n:∀{l:cV} {vs:List V},dF H l vs->j4 H (l.map (·.1)) vs
 | [],_,h=>h
 | _::_,_,⟨t,us,e,h,q⟩=>⟨t,_,us,e,h,dF.n q⟩
def fP.n:∀{l:bL} {vs:List V},fP H l vs->j4 H (l.map (·.1)) vs
 | [],_,h=>h
 | _::_,_,⟨t,us,e,h,q⟩=>⟨t,_,us,e,h,fP.n q⟩
def AV:Sp:=λvs H Q _=>∃(a:Addr) (ns:bA) (ws:List V),vs=[.ref a]/\H a=some (.lst ws)/\j4 H ns ws/\(∀x∈ns,lV x)/\ns.Nodup/\ns.length<=50/\∀H',aA H H'->Q .non H'
def YQ (ns:bA)(H:Hp)(i:Nat)(a:List V)(c:St)(e:Hp):Prop:=∃o d:Option V,c=[o,d]/\aA H e/\a=(ns.take i).map V.str
def YO (H:Hp)(i:Nat)(a:List V)(c:St)(d:Hp):Prop:=∃o:Option V,c=[o]/\aA H d/\a=(List.replicate i true).map V.bl
def JF (F:iE K "check_names" fU f fd)(T:Txt mg)(c:Ow P w K mg base 1 "is_name" LB):iX P w K mg base 2 f fd fU AV:=by
 refine F.okL gI λ_ _ _ _ H _ _ _ N L h=>?_;obtain⟨a,ns,ws,rfl,z,rn,ok,nd,u,q⟩:=h;refine⟨_,(pss3 (mN 1 gI.nd (bD.of gI ["name","told"] [none,none]) (gF K (pv 0)) (dL K rfl (i:=0) (j:=1) rfl (cT ["name","told"]) rfl rfl rfl rfl) cU (pv 0)) (bC (cS (fV K (cW (qY rfl) T.n_all (pa1 (jX (bD.of gI ["name"] [none]) (gF K (pv 1)) (bV (i:=0) (cT ["name"]) rfl (Or.inl rfl)) cU (aS c N (pa1 (pv 0)))))))) (aE gT) aG) (bC (aJ (qP L) (cW xO T.n_len (pa1 (bR (xN rfl) rfl T.n_set rfl (pa1 (pv 1))))) (cW bK T.n_len (pa1 (pv 1)))) (aE gT) aG)),?_⟩
 try dsimp only[cxOf,Cx.nox]
 simp only[oG];clear N F T L c;have keep:=aI q (aI z (aI rn (aI ok (aI nd u))))
 walk_at "rd"
 obtain⟨q,z,rn,ok,nd,u⟩:=keep;have U:=rn.len;refine⟨ws,.inl z,λJ Y=>?_⟩;refine cQ Y (YQ ns H) ⟨none,none,rfl,aA.refl _,rfl⟩ (by rintro i e m H' _ ⟨_,_,_,s2,_⟩;rw[z,s2 _ _ z]) ?_ ?_
 ·rintro i x e m E A ⟨o,S,rfl,s2,rfl⟩;obtain⟨n,t,y,v,rfl,W⟩:=rn.get A;have X:=(cx.mp v).1;refine⟨t,_,rfl,hX.of (s2 _ _ W),rfl,_,_,rfl,_,_,rfl,rfl,_,rfl,ltSz,_,_,rfl,s2,?_⟩;rw[aR v,az];rfl
 ·rintro e m E ⟨o,S,rfl,s2,rfl⟩ l hl;rw[U,bI];have d:upd E l (.lst (ns.map V.str)) l=some (.lst (ns.map V.str)):=ew;have G:=s2.trans (aA.upd (o:=.lst (ns.map V.str)) hl);generalize upd E l (.lst (ns.map V.str))=H3 at d G|-;refine⟨l,rfl,_,.inl d,λZ C=>?_⟩;refine cQ C (YO H3) ⟨none,rfl,aA.refl _,rfl⟩ (by rintro i e m H' _ ⟨_,_,r,_⟩;rw[d,r _ _ d]) ?_ ?_
  ·rintro i x e m R A ⟨o,rfl,r,rfl⟩;rw[cf]at A;obtain⟨n,v,rfl⟩:=Option.map_eq_some_iff.mp A;have X:=(cx.mp v).1;refine⟨_,rfl,n,rfl,ok n (bn v),λQ g=>⟨ltSz,_,rfl,r.trans g,?_⟩⟩;rw[List.replicate_succ',az];rfl
  ·rintro e m R ⟨o,rfl,r,rfl⟩ I B;refine⟨I,rfl,_,ew,?_⟩;rw[ab dV];have g:=r.trans (aA.upd (o:=.lst ((List.replicate (ns.map V.str).length true).map V.bl)) B);generalize upd R I (.lst ((List.replicate (ns.map V.str).length true).map V.bl))=Q at g|-;refine⟨l,ns,rfl,g _ _ d,nd,dz,λp O=>⟨p,ns.length,rfl,ew,.int ns.length,?_,.inl (.inl ⟨_,rfl,_,rfl,?_⟩)⟩⟩
   ·have:=(aA.upd (o:=E4 P w p ns.length) O) _ _ (g _ _ d);show Option.map _ ((lenV (upd Q p (E4 P w p ns.length)) (.ref l)).bind _)=_;rw[lenV_l this,af];rfl
   ·rw[ab dz];exact q _ ((G.trans g).trans (aA.upd O))
def FI:Sp:=λvs H Q _=>∃(a:Addr) (fx:cV) (fv:List V),vs=[.ref a]/\H a=some (.lst fv)/\dF H fx fv/\(∀r∈fx,0<=r.2/\r.2<=3)/\(∃r∈fx,r.2=0)/\fx.length<=50/\∀H',aA H H'->Q .non H'
def XU (a:Addr)(H:Hp)(i:Nat)(c:St)(e:Hp):Prop:=∃o d:Option V,c=[some (.ref a),o,d]/\e=H
def XV (e:cV)(H:Hp)(i:Nat)(a:List V)(c:St)(f:Hp):Prop:=∃o d:Option V,c=[o,d]/\f=H/\a=((e.take i).map λr=>decide (r.2=0)).map V.bl
def MZ (F:iE K "check_parts" fT f fd)(T:Txt mg)(d:Ow P w K mg base 1 "is_whole" FH):iX P w K mg base 2 f fd fT FI:=by
 refine F.okL jN λ_ _ _ _ H _ _ _ B W h=>?_;obtain⟨a,I,L,rfl,G,rn,ok,bare,Q,q⟩:=h;refine⟨_,(pss2 (iA (gF K (pv 0)) (dL K rfl (i:=1) (j:=2) rfl jN.nd rfl rfl rfl rfl) (aE (bC (PW.pt (j6 (cS (fV K (aS d B (pa1 (pv 2))))) (iI (cS (kT mR mR aB (pv 2) (fW T.c_MOST_PARTS rfl)))))) (aE gT) aG))) (bC (cS (fV K (cW (KC rfl) T.n_any (pa1 (jX (bD.of jN ["name","many"] [none,none]) (gF K (pv 0)) (dL K rfl (i:=0) (j:=1) rfl (cT ["name","many"]) rfl rfl rfl rfl) cU (fN (eA W) (pv 1) aB)))))) (aE gT) aG)),?_⟩
 ac_nf
 have O:=rn.len;refine⟨_,rfl,a,L,rfl,.inl G,λJ X=>?_⟩;refine gZ X (XU a H) ⟨none,none,rfl,rfl⟩ (by rintro i g H' _ ⟨_,_,_,rfl⟩;rfl) ?_ ?_
 ·rintro i x g N z ⟨o,v,rfl,rfl⟩;obtain⟨r,t,u,rfl,A⟩:=rn.get z;obtain⟨U,S⟩:=ok r (bn u);refine⟨t,_,rfl,hX.of A,rfl,_,_,rfl,_,_,rfl,rfl,?_⟩;refine⟨_,rfl,r.2,rfl,true,rfl,_,rfl,_,_,rfl,rfl,_,rfl,aW (λ_=>⟨_,_,rfl,rfl,_,rfl,?_⟩) λc=>absurd U (of_decide_eq_false c)⟩;rw[bj S];exact⟨_,_,rfl,rfl⟩
 ·rintro g N ⟨o,v,rfl,rfl⟩;refine⟨_,rfl,a,L,rfl,.inl G,λJ2 E=>?_⟩;refine cQ E (XV I N) ⟨none,none,rfl,rfl,rfl⟩ (by rintro i m g H' _ ⟨_,_,_,rfl,_⟩;rfl) ?_ ?_
  ·rintro i x m g Y z ⟨o,v,rfl,rfl,rfl⟩;obtain⟨r,t,u,rfl,A⟩:=rn.get z;have Z:=(cx.mp u).1;refine⟨t,_,rfl,hX.of A,rfl,_,_,rfl,_,_,rfl,rfl,_,rfl,?_⟩;dsimp only[tC];rw[rEqD_ii];refine⟨ltSz,_,_,rfl,rfl,?_⟩;rw[aR u,az,az];rfl
  ·rintro m g Y ⟨o,v,rfl,rfl,rfl⟩ R C;rw[O,bI];refine⟨R,_,rfl,ew,?_⟩;have l:((I.map λr=>decide (r.2=0)).any id)=true:=by obtain⟨r,B,e⟩:=bare;rw[List.any_eq_true];exact⟨true,da.mpr ⟨r,B,bj e⟩,rfl⟩
   rw[l];exact⟨true,rfl,q _ (aA.upd C)⟩
noncomputable def nots (sm:bL):bA:=(sm.map (·.2)).filter λ(x:Str)=>decide (x≠("" : Str))
def tB:Sp:=λvs H Q _=>∃(a b:Addr) (sm:bL) (sv:List V) (zs:bA),vs=[.ref a,.ref b]/\H a=some (.lst sv)/\fP H sm sv/\H b=some (.lst (zs.map V.str))/\(∀r∈sm,r.2≠("" : Str)->r.2∈zs)/\(nots sm).Nodup/\sm.length<=50/\∀H',aA H H'->Q .non H'
def XX (a b:Addr)(H:Hp)(i:Nat)(d:St)(f:Hp):Prop:=∃o e c:Option V,d=[some (.ref a),some (.ref b),o,e,c]/\f=H
def XY (sm:bL)(H:Hp)(i:Nat)(a:List V)(c:St)(e:Hp):Prop:=∃o d:Option V,c=[o,d]/\e=H/\a=(nots (sm.take i)).map V.str
def JH (sm:bL)(r:Str×Str):nots (sm++[r])=nots sm++(if r.2=("" : Str)then []else [r.2]):=by unfold nots;rw[az,List.filter_append];congr 1;by_cases z:r.2=("" : Str) <;> simp[z]
def BL (sm:bL):(nots sm).length<=sm.length:=by unfold nots;exact aq (List.length_filter_le _ _) (by rw[af];exact ac _)
def BK (F:iE K "check_noughts" eT f fd)(T:Txt mg):iX P w K mg base 1 f fd eT tB:=by
 refine F.okL fM λ_ _ _ _ H _ _ _ _ v h=>?_;obtain⟨a,b,sm,O,N,rfl,U,rn,Z,ok,nd,Y,q⟩:=h;refine⟨_,(pss3 (iA (gF K (pv 0)) (dL K rfl (i:=2) (j:=3) rfl fM.nd rfl rfl rfl rfl) (aE (bC (PW.pt (j6 (cS (fE K T.n_isinstance (pv 3) T.n_str)) (iI (PW.pt (lH (aJ (lN v) (pv 3) cI) (lG (aJ (JA v) (pv 3) (pv 1) (by with_unfolding_all rfl)))))))) (aE gT) aG))) (mN 4 fM.nd (bD.of fM ["name","nought"] [none,none]) (gF K (pv 0)) (dL K rfl (i:=0) (j:=1) rfl (cT ["name","nought"]) rfl rfl rfl rfl) (sC (aJ (lN v) (pv 1) cI)) (pv 1)) (bC (aJ (qP v) (cW xO T.n_len (pa1 (bR (xN rfl) rfl T.n_set rfl (pa1 (pv 4))))) (cW bK T.n_len (pa1 (pv 4)))) (aE gT) aG)),?_⟩
 ac_nf
 have X:=rn.len;refine⟨_,rfl,a,O,rfl,.inl U,λJ hJ=>?_⟩;refine gZ hJ (XX a b H) ⟨none,none,none,rfl,rfl⟩ (by rintro i e H' _ ⟨_,_,_,_,rfl⟩;rfl) ?_ ?_
 ·rintro i x e W G ⟨o,E,C,rfl,rfl⟩;obtain⟨r,t,A,rfl,I⟩:=rn.get G;have B:=ok r (bn A);refine⟨t,_,rfl,hX.of I,rfl,_,_,rfl,_,_,rfl,rfl,?_⟩;refine⟨_,rfl,.str r.2,.ty "str",true,rfl,rfl,true,rfl,_,rfl,.str r.2,.str (PySem.Str.ofString ""),rfl,rfl,aw _,_,rfl,aW (λz=>?_) (λz=>?_)⟩
  ·have z:r.2≠("" : Str):=λc=>by rw[c]at z;exact absurd z (by rw[show(PySem.Str.ofString "")=("" : Str)from rfl,eF];decide)
   refine⟨_,rfl,_,rfl,.inl ⟨.str r.2,N.map D.str,rfl,.inl ⟨b,_,rfl,Z,wL N⟩,by rw[CD];decide,_,rfl,?_⟩⟩;rw[B3,bj (B z)];exact⟨_,_,_,rfl,rfl⟩
  ·exact⟨_,_,_,rfl,rfl⟩
 ·rintro e W ⟨o,E,C,rfl,rfl⟩;refine⟨_,rfl,a,O,rfl,.inl U,λJ2 L=>?_⟩;refine cQ L (XY sm W) ⟨none,none,rfl,rfl,rfl⟩ (by rintro i m e H' _ ⟨_,_,_,rfl,_⟩;rfl) ?_ ?_
  ·rintro i x m e u G ⟨o,E,rfl,rfl,rfl⟩;obtain⟨r,t,A,rfl,I⟩:=rn.get G;have hi:=(cx.mp A).1;have S:=BL (sm.take i);rw[bz]at S;have g:=JH (sm.take i) r;rw[<-aR A]at g;refine⟨t,_,rfl,hX.of I,rfl,_,_,rfl,_,_,rfl,rfl,_,rfl,?_⟩;dsimp only[tC];rw[rNeD_ss];refine⟨_,rfl,?_⟩;by_cases z:r.2=("" : Str)
   ·rw[ab (by simp[z])];rw[aj z,bu]at g;exact⟨_,_,rfl,rfl,by rw[g]⟩
   ·rw[aj (by simp[z])];rw[ab z]at g;exact⟨_,rfl,ltSz,_,_,rfl,rfl,by rw[g,az];rfl⟩
  ·rintro m e u ⟨o,E,rfl,rfl,rfl⟩ l hl;rw[X,bI];have d:upd u l (.lst ((nots sm).map V.str)) l=some (.lst ((nots sm).map V.str)):=ew;have Q:aA u (upd u l (.lst ((nots sm).map V.str))):=aA.upd hl;generalize upd u l (.lst ((nots sm).map V.str))=H4 at d Q|-;have S:=BL sm;refine⟨_,rfl,l,nots sm,rfl,d,nd,dz,λp R=>⟨p,(nots sm).length,rfl,ew,_,rfl,_,.int (nots sm).length,rfl,?_,.inl (.inl ⟨_,_,rfl,rfl,_,rfl,aW (λc=>absurd (bx c) dz) λ_=>q _ (Q.trans (aA.upd R))⟩)⟩⟩;have:=(aA.upd (o:=E4 P w p (nots sm).length) R) _ _ d;dsimp only;rw[lenV_l this,af];rfl
section
variable {P:eg}{w:eh}{K:d6}{mg:jD}{base:Heap}
structure SU (K:d6)(C:Addr):Prop where
 cls:FC K C
 n1:iL K C "fixed_rows"
 n2:iL K C "sum_rows"
 n3:iL K C "many_by_name"
 n4:iL K C "nought_by_name"
def dF.pairs (h:dF H fx fv):oA H fv:=λv a=>by obtain⟨i,d⟩:=List.getElem?_of_mem a;obtain⟨r,t,_,e,c⟩:=h.get d;exact⟨t,_,_,e,c⟩
def fP.pairs (h:fP H sm sv):oA H sv:=λv a=>by obtain⟨i,d⟩:=List.getElem?_of_mem a;obtain⟨r,t,_,e,c⟩:=h.get d;exact⟨t,_,_,e,c⟩
def dF.prs:∀{c:cV} {fv:List V},dF H c fv->fv.map (prV H)=(c.map λr=>((.inr r.1,V.int r.2):jF×V)).map (λa=>some (kV a.1,a.2))
 | [],_,e=>by cases e;rfl
 | r::l,_,⟨t,us,e,h,q⟩=>by subst e;rw[bg,dF.prs q];unfold prV;simp only[h];rfl
def NE {a:cV}(nd:(a.map (·.1)).Nodup):kF [] (a.map λr=>((.inr r.1,V.int r.2):jF×V))=a.map λr=>(.inr r.1,V.int r.2):=by
 rw[oS]
 ·rfl
 ·rw[List.nil_append,cs];exact List.pairwise_map.mpr ((List.pairwise_map.mp nd).imp λh e=>h (Sum.inr.inj e))
def WH (K:d6)(C:Addr)(sm:bL)(H:Hp)(g:Addr):Prop:=FC K C/\iL K C "sum_rows"/\∃(a:Addr) (fs:List (Str×V)) (l:Addr) (sv:List V),H g=some (.ins C a fs)/\fs.lookup ("sums" : Str)=none/\fs.lookup ("sum_rows" : Str)=some (.ref l)/\H l=some (.lst sv)/\fP H sm sv
def DK (K:d6)(C:Addr):Sp:=λvs H Q _=>∃(x c a b:Addr) (fx:cV) (sm:bL) (fv sv:List V),vs=[.ref x,.ref a,.ref b]/\H x=some (.ins C c [])/\H a=some (.lst fv)/\H b=some (.lst sv)/\dF H fx fv/\fP H sm sv/\aP fx sm /\
 ∀H',cZ x H H'->iK K C fx sm H' x->WH K C sm H' x->Q .non H'
def XB (e:cV)(H:Hp)(i:Nat)(a:List V)(c:St)(f:Hp):Prop:=∃o d:Option V,c=[o,d]/\f=H/\a=(zeros (e.take i)).map V.str
def C7 (a:cV):(zeros a).length<=a.length:=by unfold zeros;rw[af];exact List.length_filter_le _ _
def QY (F:HX K "__init__" "Signs.__init__" bY f fd)(T:Txt mg)(co:SU K C)(d:Ow P w K mg base 1 "checked_pairs" FJ)(m:Ow P w K mg base 2 "check_names" AV)(l:Ow P w K mg base 2 "check_parts" FI)(g:Ow P w K mg base 1 "check_noughts" tB):iX P w K mg base 3 f fd bY (DK K C):=by
 refine F.okL fC λ_ _ _ _ H _ _ _ hr hu h=>?_;obtain⟨x,u,a,b,L,sm,N,I,rfl,hx,ha,hb,rf,rs,so,q⟩:=h;refine⟨_,(cM (bJ 3 fC.nd (aS d hr (pa3 (pv 1) aB (fW T.c_MOST_FIXED rfl)))) (pss8 (bJ 4 fC.nd (aS d hr (pa3 (pv 2) aB (fW T.c_MOST_SUMS rfl)))) (bX (aS m hr (pa1 (aX bF (pv 3) (pv 4))))) (bX (aS l hr (pa1 (pv 3)))) (bX (aS g hr (pa2 (pv 4) (jX (bD.of fC ["name","many"] [none,none]) (gF K (pv 3)) (dL K rfl (i:=0) (j:=1) rfl (cT ["name","many"]) rfl rfl rfl rfl) (sC (aJ (eA hu) (pv 1) aB)) (pv 0))))) (yM (pv 0) (pv 3) rfl) (yM (pv 0) (pv 4) rfl) (yM (pv 0) (bR (lT rfl) rfl T.n_dict rfl (pa1 (pv 3))) rfl) (yM (pv 0) (bR (lT rfl) rfl T.n_dict rfl (pa1 (pv 4))) rfl))),?_⟩
 ac_nf
 have lf:=rf.len;have ls:=rs.len;have f1:=so.f1;have f2:=so.f2;have s2':=so.s2;have ndf:=(List.nodup_append.mp so.nd).1;have nds':=(List.nodup_append.mp so.nd).2.1;refine⟨_,rfl,a,1,12,N,rfl,ha,rf.pairs,dz,dz,dz,λE H1 s1 hl1 h1=>?_⟩;refine⟨_,rfl,b,0,3,I,rfl,s1 _ _ hb,rs.pairs.same s1,dz,dz,dz,λB H2 s2 hl2 h2=>?_⟩;have nxl1:x≠E:=aC hx hl1;have A:x≠B:=aC (s1 _ _ hx) hl2;refine⟨_,rfl,_,rfl,.inr ⟨.lst (N++I),n5 (s2 _ _ h1) h2 (leSz),λl3 hl3=>?_⟩⟩;have s3:=(s1.trans s2).trans (aA.upd (o:=.lst (N++I)) hl3);have h13:=(aA.upd (o:=.lst (N++I)) hl3) _ _ (s2 _ _ h1);have h23:=(aA.upd (o:=.lst (N++I)) hl3) _ _ h2;have h33:upd H2 l3 (.lst (N++I)) l3=some (.lst (N++I)):=ew;generalize upd H2 l3 (.lst (N++I))=H3 at s3 h13 h23 h33|-;refine⟨l3,L.map (·.1)++sm.map (·.1),N++I,rfl,h33,j4.app (j4.same s3 rf.n) (j4.same s3 rs.n),so.nm,so.nd,by simp;lia,λH4 s4=>?_⟩;refine⟨_,rfl,E,L,N,rfl,s4 _ _ h13,rf.same (aN.of (s3.trans s4)),so.parts,so.bare,dz,λH5 s5=>?_⟩;have h15:=s5 _ _ (s4 _ _ h13);have h25:=s5 _ _ (s4 _ _ h23);have X:=(s3.trans s4).trans s5;have rf5:=rf.same (aN.of X);have rs5:=rs.same (aN.of X);refine⟨_,rfl,_,rfl,E,N,rfl,.inl h15,λJ hJ=>?_⟩;refine cQ hJ (XB L H5) ⟨none,none,rfl,rfl,rfl⟩ (by rintro i acc σ H' _ ⟨_,_,_,rfl,_⟩;rfl) ?_ ?_
 ·rintro i y acc σ H6 hy ⟨o,o',rfl,rfl,rfl⟩;obtain⟨r,t,hn,rfl,ht⟩:=rf5.get hy;have hi:=(cx.mp hn).1;have hk:=C7 (L.take i);rw[bz]at hk;have e1:=C6 (L.take i) r;rw[<-aR hn]at e1;refine⟨t,_,rfl,hX.of ht,rfl,_,_,rfl,_,_,rfl,rfl,_,rfl,?_⟩;dsimp only[tC];rw[rEqD_ii];refine⟨_,rfl,?_⟩;by_cases z:r.2=0
  ·rw[aj (bj z)];rw[aj z]at e1;exact⟨_,rfl,ltSz,_,_,rfl,rfl,by rw[e1,az];rfl⟩
  ·rw[ab (by simpa using z)];rw[ab z,bu]at e1;exact⟨_,_,rfl,rfl,by rw[e1]⟩
 ·rintro acc σ H6 ⟨o,o',rfl,rfl,rfl⟩ l6 hl6;rw[lf,bI];obtain⟨H7,zN,s6,h66⟩:=nwH (.lst ((zeros L).map V.str)) hl6;rw[zN];refine⟨B,l6,sm,I,zeros L,rfl,s6 _ _ h25,rs5.same (aN.of s6),h66,so.nought,so.once,dz,λW s8=>?_⟩;have S:=(X.trans s6).trans s8;have h18:=s8 _ _ (s6 _ _ h15);have h28:=s8 _ _ (s6 _ _ h25);have hx8:=S _ _ hx;have rf8:=rf.same (aN.of S);have rs8:=rs.same (aN.of S);refine⟨_,rfl,_,rfl,x,C,u,[],rfl,hx8,co.cls,co.n1,dw,?_⟩;refine⟨_,rfl,_,rfl,x,C,u,_,rfl,ew,co.cls,co.n2,?_,?_⟩
  ·have:=gE ("fixed_rows" : Str) (.ref E) [];simp only[List.length_nil]at this
   lia
  rw[upd_upd];have e9:∀(fs:List (Str×V)),aA (del W x) (upd W x (.ins C u fs)):=λfs b o e=>by obtain⟨z1,z2⟩:=iO e;rw[bG z2];exact z1
  have l2f:(putF ("sum_rows" : Str) (.ref B) (putF ("fixed_rows" : Str) (.ref E) [])).length<=2:=by
   have:=gE ("sum_rows" : Str) (.ref B) (putF ("fixed_rows" : Str) (.ref E) []);have:=gE ("fixed_rows" : Str) (.ref E) [];simp only[List.length_nil]at this
   lia
  have k1:(putF ("sum_rows" : Str) (.ref B) (putF ("fixed_rows" : Str) (.ref E) [])).lookup ("many" : Str)=none:=by rw[bE,ab dw,bE,ab dw];rfl
  have k2:(putF ("sum_rows" : Str) (.ref B) (putF ("fixed_rows" : Str) (.ref E) [])).lookup ("nought" : Str)=none:=by rw[bE,ab dw,bE,ab dw];rfl
  have ks:(putF ("sum_rows" : Str) (.ref B) (putF ("fixed_rows" : Str) (.ref E) [])).lookup ("sums" : Str)=none:=by rw[bE,ab dw,bE,ab dw];rfl
  have kr:(putF ("sum_rows" : Str) (.ref B) (putF ("fixed_rows" : Str) (.ref E) [])).lookup ("sum_rows" : Str)=some (.ref B):=by rw[bE,aj rfl]
  generalize putF ("sum_rows" : Str) (.ref B) (putF ("fixed_rows" : Str) (.ref E) [])=fs2 at l2f k1 k2 ks kr|-;have t9:aN W (upd W x (.ins C u fs2)):=λc xs e=>upk (λz=>by rw[z,hx8]at e;cases e) e;have U:upd W x (.ins C u fs2) x=some (.ins C u fs2):=ew;have b9:cZ x H (upd W x (.ins C u fs2)):=λc o nc e=>upk nc (S _ _ e);have h19:upd W x (.ins C u fs2) E=some (.lst N):=upk nxl1.symm h18;have h29:upd W x (.ins C u fs2) B=some (.lst I):=upk A.symm h28;have rf9:=rf8.same t9;have Y:=rs8.same t9;generalize upd W x (.ins C u fs2)=H9 at t9 U b9 h19 h29 rf9 Y|-;refine⟨_,rfl,E,N,_,rfl,h19,rf9.prs,λv hd3=>?_⟩;rw[NE ndf];have Z:x≠v:=aC U hd3;refine⟨_,rfl,x,C,u,fs2,rfl,upk Z U,co.cls,co.n3,dz,?_⟩;have l3f:=gE ("many_by_name" : Str) (.ref v) fs2;have k3:(putF ("many_by_name" : Str) (.ref v) fs2).lookup ("many" : Str)=none:=by rw[bE,ab dw];exact k1
  have k4:(putF ("many_by_name" : Str) (.ref v) fs2).lookup ("nought" : Str)=none:=by rw[bE,ab dw];exact k2
  have k5:(putF ("many_by_name" : Str) (.ref v) fs2).lookup ("many_by_name" : Str)=some (.ref v):=by rw[bE,aj rfl]
  have ks3:(putF ("many_by_name" : Str) (.ref v) fs2).lookup ("sums" : Str)=none:=by rw[bE,ab dw];exact ks
  have kr3:(putF ("many_by_name" : Str) (.ref v) fs2).lookup ("sum_rows" : Str)=some (.ref B):=by rw[bE,ab dw];exact kr
  generalize putF ("many_by_name" : Str) (.ref v) fs2=fs3 at l3f k3 k4 k5 ks3 kr3|-;have s10:aA H9 (upd H9 v (.dK (L.map λr=>(.inr r.1,.int r.2)))):=aA.upd hd3;have G:upd (upd H9 v (.dK (L.map λr=>(.inr r.1,.int r.2)))) x (.ins C u fs3) x=some (.ins C u fs3):=ew;have Q:upd (upd H9 v (.dK (L.map λr=>(.inr r.1,.int r.2)))) x (.ins C u fs3) v=some (.dK (L.map λr=>(.inr r.1,.int r.2))):=upk Z.symm ew;have R:cZ x H9 (upd (upd H9 v (.dK (L.map λr=>(.inr r.1,.int r.2)))) x (.ins C u fs3)):=λc o nc e=>upk nc (s10 _ _ e);generalize upd (upd H9 v (.dK (L.map λr=>(.inr r.1,.int r.2)))) x (.ins C u fs3)=H11 at G Q R|-;have t11:aN H9 H11:=λc xs e=>R c _ (λz=>by rw[z,U]at e;cases e) e;refine⟨_,rfl,B,I,_,rfl,R _ _ A.symm h29,(Y.same t11).prs,λd4 O=>?_⟩;rw[tT nds'];have nx4:x≠d4:=aC G O;have n34:v≠d4:=aC Q O;refine⟨_,rfl,x,C,u,fs3,rfl,upk nx4 G,co.cls,co.n4,dz,?_⟩;refine q _ (λc o nc e=>?_) ⟨co.cls,co.n3,co.n4,u,_,v,d4,ew,by rw[bE,ab dw];exact k3,by rw[bE,ab dw];exact k4,by rw[bE,ab dw];exact k5,by rw[bE,aj rfl],by rw[bG Z.symm,bG n34];exact Q,upk nx4.symm ew⟩ ⟨co.cls,co.n2,u,_,B,I,ew,by rw[bE,ab dw];exact ks3,by rw[bE,ab dw];exact kr3,upk A.symm ((aA.upd O) _ _ (R _ _ A.symm h29)),(Y.same t11).same λc xs e=>upk (λz=>by rw[z,G]at e;cases e) ((aA.upd O) _ _ e)⟩;rw[bG nc];exact(aA.upd O) _ _ (R c o nc (b9 c o nc e))
def DI (K:d6)(C:Addr):Sp:=λvs H Q _=>∃(g:Addr) (sm:bL),vs=[.ref g]/\WH K C sm H g/\∀(l:Addr) (sv:List V) (H':Hp),aA H H'->H l=none->H' l=some (.lst sv)->fP H' sm sv->Q (.ref l) H'
def QR (F:HX K "sums" "Signs.sums" dC f fd)(T:Txt mg):iX P w K mg base 1 f fd dC (DI K C):=by
 refine F.okL vJ λ_ _ _ _ _ _ _ _ _ _ h=>?_;obtain⟨g,sm,rfl,⟨c,n2,o,fs,e,a,m,r,j,i,d⟩,q⟩:=h;refine⟨_,(aE (aF (bR jZ rfl T.n_list rfl (pa1 (DT (pv 0) rfl))))),?_⟩
 ac_nf
 exact⟨_,rfl,g,C,o,fs,_,rfl,m,c,n2,j,.ref e,a,rfl,seqV_l i,λl hl=>q l a _ (aA.upd hl) hl ew (d.same (aN.of (aA.upd hl)))⟩
end
mutual
def NF (sm:bL):D->Prop
 | .tup (.str n::ds)=>NFs sm ds/\∀z,zr sm n=some z->2<=ds.length/\ds.Pairwise leK/\∀e∈ds,opn1 n z e=[e]
 | _=>True
def NFs (sm:bL):List D->Prop
 | []=>True
 | d::ds=>NF sm d/\NFs sm ds
end
def yZ:∀{ds:List D},NFs sm ds->∀d∈ds,NF sm d
 | _::_,⟨a,b⟩,d,h=>by
  obtain rfl|h:=cz.mp h
  ·exact a
  ·exact yZ b d h
def NB:∀{ds:List D},(∀d∈ds,NF sm d)->NFs sm ds
 | [],_=>trivial
 | d::ds,h=>⟨h d ax,NB λe k=>h e (bc _ k)⟩
def QG (hz:zr sm n=some z)(h:NF sm d):∀e∈opn1 n z d,NF sm e/\opn1 n z e=[e]:=by
 intro e a;have rest:∀d':D,(∀m es,d'≠.tup (.str m::es))->opn1 n z d'=if eqD d' (.str z)=true then []else [d']:=λd' hd=>by
  unfold opn1;split
  ·rename_i m es;exact absurd rfl (hd m es)
  ·rfl
 by_cases c:∃m es,d = .tup (.str m::es)
 ·obtain⟨m,es,rfl⟩:=c;by_cases hm:m=n
  ·subst hm;have f:opn1 m z (.tup (.str m::es))=es:=by rw[opn1,aj rfl]
   rw[f]at a;unfold NF at h;exact⟨yZ h.1 e a,(h.2 z hz).2.2 e a⟩
  ·have f:opn1 n z (.tup (.str m::es))=[.tup (.str m::es)]:=by rw[opn1,ab hm]
   rw[f]at a;cases cy.mp a;exact⟨h,f⟩
 ·have f:=rest d λm es z=>c ⟨m,es,z⟩;by_cases q:eqD d (.str z)=true
  ·rw[f,aj q]at a;cases a
  ·rw[ab q]at f;rw[f]at a;cases cy.mp a;exact⟨h,f⟩
def MM (hz:zr sm n=some z)(h:NFs sm ds):∀e∈opn n z ds,NF sm e/\opn1 n z e=[e]:=λe a=>by obtain⟨d,f,c⟩:=List.mem_flatMap.mp a;exact QG hz (yZ h d f) e c
def GV (f:Fls ps)(h:NFs sm ps):NF sm (knot sm n ps):=by
 unfold knot;cases hz:zr sm n with
 | none =>
  dsimp only;unfold NF;exact⟨h,λz e=>by rw[hz]at e;cases e⟩
 | some z =>
  dsimp only;have g:=bH (opn n z ps);have so:=eV (bQ (qN (n:=n) (z:=z) f));have al:∀e∈fA (opn n z ps),NF sm e/\opn1 n z e=[e]:=λe i=>MM hz h e (g.mem_iff.mp i);generalize fA (opn n z ps)=l at so al
  match l,so,al with
  | [],_,_=>unfold one NF;trivial
  | [d],_,al=>exact(al d (cy.mpr rfl)).1
  | d::e::l,so,al =>
   show NF sm (.tup (.str n::d::e::l));unfold NF;refine⟨NB λx c=>(al x c).1,λj a=>?_⟩;rw[hz]at a;cases a;exact⟨dV,so,λx c=>(al x c).2⟩
mutual
theorem zI (hz:∀r∈sm,r.2=("" : Str)\/Fl (.str r.2)):∀{d:D},Tm d->NF sm (flt sm d)
 | .str x,_=>by
  have:flt sm (.str x) = .str x:=by unfold flt;rfl
  rw[this];unfold NF;trivial
 | .tup (.str n::ds),h=>by
  unfold Tm at h;rw[flt];exact GV (g8 hz h.2).1 (qA hz h.2)
 | .lst (.str n::ds),h=>by unfold Tm at h;rw[flt];exact GV (g8 hz h.2).1 (qA hz h.2)
theorem qA (hz:∀r∈sm,r.2=("" : Str)\/Fl (.str r.2)):∀{ds:List D},Tms ds->NFs sm (flts sm ds)
 | [],_=>trivial
 | d::ds,⟨a,b⟩=>by rw[flts];exact⟨zI hz a,qA hz b⟩
end
def nV (hz:zr sm n=some z)(f:Fls ps)(p:(opn n z ps).Perm (opn n z qs)):knot sm n ps=knot sm n qs:=by unfold knot;rw[hz];dsimp only;have f1:=bQ (qN (n:=n) (z:=z) f);have f2:∀d∈opn n z qs,Fl d:=λd hd=>f1 d (p.mem_iff.mpr hd);rw[jM (λd hd=>f1 d ((bH _).mem_iff.mp hd)) ((bH _).trans (p.trans (bH _).symm)) (eV f1) (eV f2)]
def kU (hz:zr sm n=some z)(h:NFs sm gs):(opn1 n z (knot sm n gs)).Perm (opn n z gs):=by
 unfold knot;rw[hz];dsimp only;have a:=bH (opn n z gs);have al:∀e∈fA (opn n z gs),opn1 n z e=[e]:=λe c=>(MM hz h e (a.mem_iff.mp c)).2;refine List.Perm.trans ?_ a;generalize fA (opn n z gs)=l at al
 match l,al with
 | [],_ =>
  show(opn1 n z (.str z)).Perm [];have:opn1 n z (.str z)=[]:=by unfold opn1;dsimp only;rw[aj (by simp[eqD])]
  rw[this]
 | [d],al=>rw[show one n z [d]=d from rfl,al d (cy.mpr rfl)]
 | d::e::l,al =>
  show(opn1 n z (.tup (.str n::d::e::l))).Perm _;rw[opn1,aj rfl]
def kA (hz:zr sm n=some z)(f:Fl d)(h:NF sm d)(o:ps=[d,.str z]\/ps=[.str z,d]):knot sm n ps=d:=by
 have i:opn1 n z (.str z)=[]:=by unfold opn1;dsimp only;rw[aj (by simp[eqD])]
 have u:opn n z ps=opn1 n z d:=by
  rcases o with rfl|rfl
  ·rw[aY,aY,i];simp[opn]
  ·rw[aY,aY,i];simp[opn]
 unfold knot;rw[hz];dsimp only;rw[u];by_cases c:∃es,d = .tup (.str n::es)
 ·obtain⟨es,rfl⟩:=c;unfold NF at h;obtain⟨j,so,_⟩:=h.2 z hz;have g:∀e∈es,Fl e:=by unfold Fl at f;exact bQ f
  rw[opn1,aj rfl,jM (λx l=>g x ((bH _).mem_iff.mp l)) (bH es) (eV g) so]
  match es,j with
  | _::_::_,_=>rfl
 ·have a:opn1 n z d=[d]\/(opn1 n z d=[]/\d = .str z):=by
   unfold opn1;split
   ·rename_i m es;refine .inl (ab λe=>c ⟨es,by rw[e]⟩)
   ·by_cases q:eqD d (.str z)=true
    ·rw[aj q];refine .inr ⟨rfl,?_⟩;cases d with
     | str x=>unfold eqD at q;rw[bx q]
     | _=>unfold eqD at q;simp at q
    ·rw[ab q];exact .inl rfl
  rcases a with a|⟨a,r⟩
  ·rw[a];rfl
  ·rw[a,r];rfl
def JL (p:l.Perm m):lvss l=lvss m:=by
 induction p with
 | nil=>rfl
 | cons _ _ a=>rw[lvss,lvss,a]
 | swap _ _ _=>rw[lvss,lvss,lvss,lvss];lia
 | trans _ _ d c=>exact d.trans c
def dR {c:cV}{sm:bL}{os:bA}:∀{ds:List D},IsTms c sm os ds->∀d∈ds,aM c sm os d
 | _::_,⟨a,b⟩,d,h=>by
  obtain rfl|h:=cz.mp h
  ·exact a
  ·exact dR b d h
def kW {a:cV}{sm:bL}{os:bA}:∀{ds:List D},(∀d∈ds,aM a sm os d)->IsTms a sm os ds
 | [],_=>trivial
 | d::ds,h=>⟨h d ax,kW λe k=>h e (bc _ k)⟩
def mU:∀(ds es:List D),lvss (ds++es)=lvss ds+lvss es
 | [],es=>by simp[lvss]
 | d::ds,es=>by rw[List.cons_append,lvss,mU ds es,lvss];lia
def ML (p:l.Perm m):(opn n z l).Perm (opn n z m):=by unfold opn;exact p.flatMap_right _
def QE {c:cV}{sm:bL}{os:bA}{n z:Str}{d:D}(h:aM c sm os d):∀e∈opn1 n z d,aM c sm os e:=by
 intro e a;unfold opn1 at a;split at a
 ·rename_i m es;split at a
  ·unfold aM at h;exact dR h.2 e a
  ·cases cy.mp a;exact h
 ·split at a
  ·cases a
  ·cases cy.mp a;exact h
def FD (h:zr sm n=some z):∃r∈sm,r.1=n/\r.2=z:=by unfold zr at h;obtain⟨r,a,d⟩:=Option.map_eq_some_iff.mp h;have c:=List.find?_some a;exact⟨r,List.mem_of_find?_eq_some a,bx c,d⟩
def GS {a:cV}{sm:bL}{os:bA}{n:Str}{ps:List D}(so:aP a sm)(f:Fls ps)(b:Nbs ps)(h:IsTms a sm os ps)(hd:nJ a sm n ps.length):aM a sm os (knot sm n ps):=by
 unfold knot;cases hz:zr sm n with
 | none=>dsimp only;unfold aM;exact⟨hd,h⟩
 | some z =>
  dsimp only;obtain⟨r,j,rn,i⟩:=FD hz;have c:=bH (opn n z ps);have al:∀e∈fA (opn n z ps),aM a sm os e:=λe m=>by obtain⟨d,g,o⟩:=List.mem_flatMap.mp (c.mem_iff.mp m);exact QE (dR h d g) e o
  have ne:z=("" : Str)->fA (opn n z ps)≠[]:=λe q=>by subst e;have g:=MN (n:=n) f b (λe=>by rw[e]at hd;have:=i8 hd;simp at this);rw[q]at c;exact g (List.Perm.eq_nil c.symm)
  generalize fA (opn n z ps)=l at al ne
  match l,al,ne with
  | [],_,ne =>
   show aM a sm os (.str z);unfold aM;refine .inr ?_;rw[<-i];exact so.nought r j λe=>ne (by rw[<-i];exact e) rfl
  | [d],al,_=>exact al d (cy.mpr rfl)
  | d::e::l,al,_ =>
   show aM a sm os (.tup (.str n::d::e::l));unfold aM;exact⟨.inr ⟨dV,by rw[<-rn];exact da.mpr ⟨r,j,rfl⟩⟩,kW al⟩
mutual
theorem U3 {a:cV}{sm:bL}{os:bA}(so:aP a sm)(ho:∀x∈os,cB x):∀{d:D},aM a sm os d->aM a sm os (flt sm d)
 | .str x,h=>by
  have:flt sm (.str x) = .str x:=by unfold flt;rfl
  rw[this];exact h
 | .tup (.str n::ds),h=>by
  unfold aM at h;have t:=(lZ so ho h.2).1;have g:=g8 (cX so) t;rw[flt];exact GS so g.1 g.2 (zG so ho h.2) (by rw[cF,af];exact h.1)
 | .lst (.str n::ds),h=>by
  unfold aM at h;have t:=(lZ so ho h.2).1;have g:=g8 (cX so) t;rw[flt];exact GS so g.1 g.2 (zG so ho h.2) (by rw[cF,af];exact h.1)
 | .non,h | .bl _,h | .int _,h | .tup [],h | .lst [],h | .tup (.non::_),h | .tup (.bl _::_),h | .tup (.int _::_),h | .tup (.tup _::_),h | .tup (.lst _::_),h | .lst (.non::_),h | .lst (.bl _::_),h | .lst (.int _::_),h | .lst (.tup _::_),h | .lst (.lst _::_),h=>by unfold aM at h;exact absurd h id
theorem zG {c:cV}{sm:bL}{os:bA}(so:aP c sm)(ho:∀x∈os,cB x):∀{ds:List D},IsTms c sm os ds->IsTms c sm os (flts sm ds)
 | [],_=>trivial
 | d::ds,⟨a,b⟩=>by rw[flts];exact⟨U3 so ho a,zG so ho b⟩
end
mutual
noncomputable def asD (b:Bool):D->D
 | .tup (.str n::ds)=>if b=true then .lst (.str n::asDs b ds)else .tup (.str n::asDs b ds)
 | .lst (.str n::ds)=>if b=true then .lst (.str n::asDs b ds)else .tup (.str n::asDs b ds)
 | d=>d
noncomputable def asDs (b:Bool):List D->List D
 | []=>[]
 | d::ds=>asD b d::asDs b ds
end
def nH (b:Bool):∀ds:List D,asDs b ds=ds.map (asD b)
 | []=>rfl
 | d::ds=>by rw[asDs,nH b ds];rfl
mutual
theorem sP {g:cV}{sm:bL}{os:bA}(b:Bool):∀{d:D},aM g sm os d->flt sm (asD b d)=flt sm d/\aM g sm os (asD b d)/\lvs (asD b d)=lvs d/\depD (asD b d)=depD d
 | .str x,h=>by
  have:asD b (.str x) = .str x:=by unfold asD;rfl
  rw[this];exact⟨rfl,h,rfl,rfl⟩
 | .tup (.str n::ds),h=>by
  unfold aM at h;obtain⟨f,e,c,a⟩:=uQ b h.2;have hl:(asDs b ds).length=ds.length:=by rw[nH,af]
  rw[asD];cases b with
  | true =>
   rw[aj rfl];refine⟨by rw[flt,flt,f],by unfold aM;rw[hl];exact⟨h.1,e⟩,by rw[lvs,lvs,c],by rw[depD,depD,depDs,depDs,a]⟩
  | false =>
   rw[ab dw];refine⟨by rw[flt,flt,f],by unfold aM;rw[hl];exact⟨h.1,e⟩,by rw[lvs,lvs,c],by rw[depD,depD,depDs,depDs,a]⟩
 | .lst (.str n::ds),h=>by
  unfold aM at h;obtain⟨f,e,c,a⟩:=uQ b h.2;have hl:(asDs b ds).length=ds.length:=by rw[nH,af]
  rw[asD];cases b with
  | true =>
   rw[aj rfl];refine⟨by rw[flt,flt,f],by unfold aM;rw[hl];exact⟨h.1,e⟩,by rw[lvs,lvs,c],by rw[depD,depD,depDs,depDs,a]⟩
  | false =>
   rw[ab dw];refine⟨by rw[flt,flt,f],by unfold aM;rw[hl];exact⟨h.1,e⟩,by rw[lvs,lvs,c],by rw[depD,depD,depDs,depDs,a]⟩
 | .non,h | .bl _,h | .int _,h | .tup [],h | .lst [],h | .tup (.non::_),h | .tup (.bl _::_),h | .tup (.int _::_),h | .tup (.tup _::_),h | .tup (.lst _::_),h | .lst (.non::_),h | .lst (.bl _::_),h | .lst (.int _::_),h | .lst (.tup _::_),h | .lst (.lst _::_),h=>by unfold aM at h;exact absurd h id
theorem uQ {a:cV}{sm:bL}{os:bA}(b:Bool):∀{ds:List D},IsTms a sm os ds->flts sm (asDs b ds)=flts sm ds/\IsTms a sm os (asDs b ds)/\lvss (asDs b ds)=lvss ds/\depDs (asDs b ds)=depDs ds
 | [],_=>⟨rfl,trivial,rfl,rfl⟩
 | d::ds,⟨x,y⟩=>by obtain⟨l,j,i,h⟩:=sP b x;obtain⟨g,f,e,c⟩:=uQ b y;rw[asDs];exact⟨by rw[flts,flts,l,g],⟨j,f⟩,by rw[lvss,lvss,i,e],by rw[depDs,depDs,h,c]⟩
end
mutual
noncomputable def lfs:D->bA
 | .str x=>[x]
 | .tup (.str _::ds)=>lfss ds
 | .lst (.str _::ds)=>lfss ds
 | _=>[]
noncomputable def lfss:List D->bA
 | []=>[]
 | d::ds=>lfs d++lfss ds
end
noncomputable def txD:D->Option Str
 | .str x=>some x
 | _=>none
mutual
theorem KM:∀{d:D},Wk d->∀e∈wlk d,Wk e
 | .str x,h=>λe a=>by
  have:wlk (.str x)=[.str x]:=by rw[wlk] <;> simp
  rw[this,cy]at a;rw[a];exact h
 | .tup (.str n::ds),h=>λe a=>by
  rw[wlk,cz]at a;rcases a with z|z
  ·rw[z];exact h
  ·unfold Wk at h;exact xV h e z
 | .lst (.str n::ds),h=>λe a=>by
  rw[wlk,cz]at a;rcases a with z|z
  ·rw[z];exact h
  ·unfold Wk at h;exact xV h e z
 | .non,h | .bl _,h | .int _,h | .tup [],h | .lst [],h | .tup (.non::_),h | .tup (.bl _::_),h | .tup (.int _::_),h | .tup (.tup _::_),h | .tup (.lst _::_),h | .lst (.non::_),h | .lst (.bl _::_),h | .lst (.int _::_),h | .lst (.tup _::_),h | .lst (.lst _::_),h=>by unfold Wk at h;exact absurd h id
theorem xV:∀{ds:List D},Wks ds->∀e∈wlks ds,Wk e
 | [],_=>λe c=>by rw[wlks]at c;cases c
 | d::ds,⟨a,b⟩=>λe c=>by
  rw[wlks,c4]at c;rcases c with z|z
  ·exact KM a e z
  ·exact xV b e z
end
def met (f:Wk d)(g:e∈wlk d)(re:aH G e v)(s:aA G H):(∃y,e = .str y/\v = .str y)\/(txD e=none/\∃a xs,v = .ref a/\eI H a xs/\isV H (.ref a) (.ty "str")=some false):=by
 rcases KN (KM f e g)with⟨y,rfl⟩|⟨n,ds,rfl|rfl,_⟩
 ·exact .inl ⟨y,rfl,re⟩
 ·obtain⟨a,vs,rfl,c,_⟩:=re;exact .inr ⟨rfl,a,vs,rfl,.inr (s _ _ c),gX (s _ _ c)⟩
 ·obtain⟨a,vs,rfl,c,_⟩:=re;exact .inr ⟨rfl,a,vs,rfl,.inl (s _ _ c),qV (s _ _ c)⟩
noncomputable def chn (n:Str):List D->D
 | []=>.str n
 | [d]=>d
 | d::e::r=>.tup [.str n,d,chn n (e::r)]
noncomputable def pr (sm:bL)(n:Str)(ds:List D):D:=match zr sm n with
 | none=>.tup (.str n::ds)
 | some _=>chn n ds
mutual
noncomputable def prD (sm:bL):D->D
 | .tup (.str n::ds)=>pr sm n (prDs sm ds)
 | .lst (.str n::ds)=>pr sm n (prDs sm ds)
 | d=>d
noncomputable def prDs (sm:bL):List D->List D
 | []=>[]
 | d::ds=>prD sm d::prDs sm ds
end
section
variable {fx:cV}{sm:bL}{os:bA}
def bT (sm:bL):∀ds:List D,prDs sm ds=ds.map (prD sm)
 | []=>rfl
 | d::ds=>by rw[prDs,bT sm ds];rfl
def nM (sm:bL)(h:x = .tup (.str n::ds)\/x = .lst (.str n::ds)):prD sm x=pr sm n (prDs sm ds)/\pts x=ds:=by rcases h with rfl|rfl <;> exact⟨by rw[prD],rfl⟩
def iN (sm:bL)(x:Str):prD sm (.str x) = .str x:=by unfold prD;rfl
def sN {P:D->Prop}(two:∀d e,P d->P e->P (.tup [.str n,d,e])):∀{ds:List D},ds≠[]->(∀d∈ds,P d)->P (chn n ds)
 | [],h,_=>absurd rfl h
 | [d],_,h=>h d ax
 | d::e::r,_,h=>two d _ (h d ax) (sN two dV λx a=>h x (bc _ a))
def SA (h:Fls ds)(ne:ds≠[]):Fl (pr sm n ds):=by
 unfold pr;split
 ·unfold Fl;exact h
 ·exact sN (λd e a b=>by unfold Fl;exact⟨a,b,trivial⟩) ne (bQ h)
mutual
theorem DP:∀{d:D},Tm d->Fl (prD sm d)
 | .str x,h=>by rw[iN];unfold Tm at h;unfold Fl;exact h
 | .tup (.str n::ds),h=>by
  unfold Tm at h;rw[prD];exact SA (yP h.2) (by rw[bT];simpa using h.1)
 | .lst (.str n::ds),h=>by
  unfold Tm at h;rw[prD];exact SA (yP h.2) (by rw[bT];simpa using h.1)
 | .non,h | .bl _,h | .int _,h | .tup [],h | .lst [],h | .tup (.non::_),h | .tup (.bl _::_),h | .tup (.int _::_),h | .tup (.tup _::_),h | .tup (.lst _::_),h | .lst (.non::_),h | .lst (.bl _::_),h | .lst (.int _::_),h | .lst (.tup _::_),h | .lst (.lst _::_),h=>by unfold Tm at h;exact absurd h id
theorem yP:∀{ds:List D},Tms ds->Fls (prDs sm ds)
 | [],_=>trivial
 | d::ds,⟨a,b⟩=>by rw[prDs];exact⟨DP a,yP b⟩
end
def sR (h:n∈sm.map (·.1)):∃z,zr sm n=some z:=by
 obtain⟨r,a,rfl⟩:=da.mp h;unfold zr;cases e:sm.find? λq=>decide (q.1=r.1)with
 | none=>exact absurd (bj rfl) (List.find?_eq_none.mp e r a)
 | some q=>exact⟨q.2,rfl⟩
def SW (so:aP fx sm)(h:(n,k)∈fx):zr sm n=none:=by
 cases e:zr sm n with
 | none=>rfl
 | some z =>
  obtain⟨r,a,c,_⟩:=FD e;exact absurd rfl ((List.nodup_append.mp so.nd).2.2 n (List.mem_map_of_mem (f:=(·.1)) h) n (c ▸ List.mem_map_of_mem (f:=(·.1)) a))
def mY (so:aP fx sm)(h:nJ fx sm n k):(zr sm n=none/\(n,(k:Int))∈fx/\0<k)\/∃z,zr sm n=some z/\n∈sm.map (·.1)/\2<=k:=by
 rcases h with⟨c,a⟩|⟨c,a⟩
 ·exact .inl ⟨SW so a,a,c⟩
 ·obtain⟨z,hz⟩:=sR a;exact .inr ⟨z,hz,a,c⟩
def HN:∀{ds:List D},ds≠[]->lvs (chn n ds)=lvss ds
 | [],h=>absurd rfl h
 | [d],_=>by show lvs d=_;rw[lvss,lvss];lia
 | d::e::r,_=>by
  have:=HN (n:=n) (ds:=e::r) dV;show lvs (.tup [.str n,d,chn n (e::r)])=_;simp only[lvs,lvss]at this|-
  lia
theorem HM:∀{ds:List D},ds≠[]->nds (chn n ds)+1=ndss ds+ds.length
 | [],h=>absurd rfl h
 | [d],_=>by show nds d+1=_;rw[ndss,ndss];rfl
 | d::e::r,_=>by
  have:=HM (n:=n) (ds:=e::r) dV;show nds (.tup [.str n,d,chn n (e::r)])+1=_;simp only[nds,ndss,ar]at this|-
  lia
theorem HP:∀{ds:List D},ds≠[]->depD (chn n ds)+1<=depDs ds+ds.length
 | [],h=>absurd rfl h
 | [d],_=>by show depD d+1<=_;rw[depDs,depDs];simp
 | d::e::r,_=>by
  have:=HP (n:=n) (ds:=e::r) dV;show depD (.tup [.str n,d,chn n (e::r)])+1<=_;simp only[depD,depDs,ar]at this|-
  lia
def S0 (h:aM fx sm os d):1<=lvs d:=oJ h
def lE:∀{ds:List D},IsTms fx sm os ds ↔ ∀e∈ds,aM fx sm os e
 | []=>⟨λ_ _ h=>(nomatch h),λ_=>trivial⟩
 | d::ds=>by unfold IsTms;rw[lE,List.forall_mem_cons]
mutual
theorem jL {P:D->Prop}(s:∀x,aM fx sm os (.str x)->P (.str x))(t:∀n ds d,(d = .tup (.str n::ds)\/d = .lst (.str n::ds))->nJ fx sm n ds.length->IsTms fx sm os ds->(∀e∈ds,P e)->P d):∀{d:D},aM fx sm os d->P d
 | .str x,h=>s x h
 | .tup (.str n::ds),h=>by unfold aM at h;exact t n ds _ (.inl rfl) h.1 h.2 (xY s t h.2)
 | .lst (.str n::ds),h=>by unfold aM at h;exact t n ds _ (.inr rfl) h.1 h.2 (xY s t h.2)
 | .non,h | .bl _,h | .int _,h | .tup [],h | .lst [],h | .tup (.non::_),h | .tup (.bl _::_),h | .tup (.int _::_),h | .tup (.tup _::_),h | .tup (.lst _::_),h | .lst (.non::_),h | .lst (.bl _::_),h | .lst (.int _::_),h | .lst (.tup _::_),h | .lst (.lst _::_),h=>by unfold aM at h;exact absurd h id
theorem xY {P:D->Prop}(s:∀x,aM fx sm os (.str x)->P (.str x))(t:∀n ds d,(d = .tup (.str n::ds)\/d = .lst (.str n::ds))->nJ fx sm n ds.length->IsTms fx sm os ds->(∀e∈ds,P e)->P d):∀{ds:List D},IsTms fx sm os ds->∀e∈ds,P e
 | [],_=>λe h=>(nomatch h)
 | d::ds,⟨a,b⟩=>List.forall_mem_cons.mpr ⟨jL s t a,xY s t b⟩
end
def cG (h:d = .tup (.str n::ds)\/d = .lst (.str n::ds)):lvs d=lvss ds/\nds d=1+ndss ds/\depD d=depDs ds+1/\flt sm d=knot sm n (flts sm ds)/\lfs d=lfss ds:=by
 rcases h with rfl|rfl
 ·exact⟨by rw[lvs],by rw[nds],by rw[depD,depDs,show depD (.str n)=0 from rfl];lia,by rw[flt],by rw[lfs]⟩
 ·exact⟨by rw[lvs],by rw[nds],by rw[depD,depDs,show depD (.str n)=0 from rfl];lia,by rw[flt],by rw[lfs]⟩
theorem HA (so:aP fx sm)(ho:∀x∈os,cB x)(hz:zr sm n=some z):∀{es:List D},IsTms fx sm os es->2<=es.length->flt sm (chn n es)=knot sm n (flts sm es)
 | [],_,h=>by simp at h
 | [_],_,h=>by simp at h
 | [d,e],_,_=>by show flt sm (.tup [.str n,d,e])=_;rw[flt]
 | d::e::g::r,⟨j,i⟩,_=>by
  have f:=HA so ho hz (es:=e::g::r) i dV;have a:=cX so;show flt sm (.tup [.str n,d,chn n (e::g::r)])=_;have f1:=(nB a (kJ so ho j).1).1;have c:=(lZ so ho i).1;have f2:Fl (flt sm (chn n (e::g::r))):=by rw[f];exact y7 a (g8 a c).1 (g8 a c).2 (by rw[flts];simp)
  rw[flt];show knot sm n [flt sm d,flt sm (chn n (e::g::r))]=knot sm n (flt sm d::flts sm (e::g::r));refine nV hz ⟨f1,f2,trivial⟩ ?_;rw[aY,aY,aY,f];refine List.Perm.append_left (opn1 n z (flt sm d)) ?_;have:=kU hz (qA a c)
  simpa [opn] using this
def GQ:∀{ds:List D},ds≠[]->lfs (chn n ds)=lfss ds
 | [],h=>absurd rfl h
 | [d],_=>by show lfs d=_;simp only[lfss,bu]
 | d::e::r,_=>by have:=GQ (n:=n) (ds:=e::r) dV;show lfs (.tup [.str n,d,chn n (e::r)])=_;simp only[lfs,lfss,bu]at this|-;rw[this]
theorem FY (hz:zr sm n=some z):∀{ds:List D},ds≠[]->(∀e∈ds,prD sm e=e)->prD sm (chn n ds)=chn n ds
 | [],h,_=>absurd rfl h
 | [d],_,h=>h d ax
 | d::e::r,_,h=>by have:=FY hz (ds:=e::r) dV λx a=>h x (bc _ a);show prD sm (.tup [.str n,d,chn n (e::r)]) = .tup [.str n,d,chn n (e::r)];rw[prD,prDs,prDs,prDs,h d ax,this];unfold pr;rw[hz];rfl
structure WZ (fx:cV)(sm:bL)(os:bA)(d e:D):Prop where
 tm:aM fx sm os e
 lv:lvs e=lvs d
 nd:nds e+1<=nds d+lvs d
 dp:depD e+1<=lvs d+depD d
 fl:flt sm e=flt sm d
 lf:lfs e=lfs d
 id:prD sm e=e
structure WY (fx:cV)(sm:bL)(os:bA)(ds es:List D):Prop where
 tm:IsTms fx sm os es
 ln:es.length=ds.length
 lv:lvss es=lvss ds
 nd:ndss es+ds.length<=ndss ds+lvss ds
 dp:depDs es+ds.length<=lvss ds+depDs ds
 fl:flts sm es=flts sm ds
 lf:lfss es=lfss ds
 id:∀e∈es,prD sm e=e
theorem FX:∀{ds:List D},IsTms fx sm os ds->(∀e∈ds,WZ fx sm os e (prD sm e))->WY fx sm os ds (prDs sm ds)
 | [],_,_=>⟨trivial,rfl,rfl,ac _,ac _,rfl,rfl,λ_ h=>nomatch h⟩
 | d::ds,⟨t1,f⟩,h=>by
  have a:=h d ax;have b:=FX f λe c=>h e (bc _ c);have i:=S0 t1;have g:=dQ f;have o:=a.nd;have m:=a.dp;have l:=b.nd;have j:=b.dp;rw[prDs];refine⟨⟨a.tm,b.tm⟩,by rw[ar,ar,b.ln],by rw[lvss,lvss,a.lv,b.lv],?_,?_,by rw[flts,flts,a.fl,b.fl],by rw[lfss,lfss,a.lf,b.lf],λe c=>?_⟩
  ·rw[ndss,ndss,lvss,ar];lia
  ·rw[depDs,depDs,lvss,ar];lia
  ·obtain rfl|c:=cz.mp c
   ·exact a.id
   ·exact b.id e c
def yO (so:aP fx sm)(ho:∀x∈os,cB x)(h:aM fx sm os d):WZ fx sm os d (prD sm d):=by
 refine jL (P:=λd=>WZ fx sm os d (prD sm d)) (λx u=>?_) (λn ds d hd j i r=>?_) h
 ·rw[iN];exact⟨u,rfl,by unfold nds lvs;exact ac _,by unfold lvs;show 0+1<=1+0;lia,rfl,rfl,iN _ _⟩
 ·have b:=FX i r;obtain⟨c,q,o,m,l⟩:=cG (sm:=sm) hd;have N:=b.nd;have L:=b.dp;rw[(nM sm hd).1];rcases mY so j with⟨hz,G,F⟩|⟨z,hz,v,H⟩
  ·have f:pr sm n (prDs sm ds) = .tup (.str n::prDs sm ds):=by unfold pr;rw[hz]
   obtain⟨E,C,B,A,w⟩:=cG (sm:=sm) (d:=.tup (.str n::prDs sm ds)) (.inl rfl);rw[f];refine⟨by unfold aM;rw[b.ln];exact⟨j,b.tm⟩,by rw[E,c,b.lv],by rw[C,q,c];lia,by rw[B,c,o];lia,by rw[A,m,b.fl],by rw[w,l,b.lf],?_⟩;rw[prD,bT,List.map_congr_left (g:=id) b.id,List.map_id];exact f
  ·have f:pr sm n (prDs sm ds)=chn n (prDs sm ds):=by unfold pr;rw[hz]
   have ne:prDs sm ds≠[]:=λz=>by have:=b.ln;rw[z]at this;simp only[List.length_nil]at this;lia
   have K:=HM (n:=n) ne;have J:=HP (n:=n) ne;have I:=b.ln;rw[f];refine⟨sN (λd e a b=>by unfold aM;exact⟨.inr ⟨dV,v⟩,a,b,trivial⟩) ne (lE.mp b.tm),by rw[HN ne,c,b.lv],by rw[q,c];lia,by rw[c,o];lia,by rw[HA so ho hz b.tm dz,m,b.fl],by rw[GQ ne,l,b.lf],FY hz ne b.id⟩
def L3 (b:Bool)(h:aM fx sm os d):prD sm (asD b d)=prD sm d:=by
 refine jL (P:=λd=>prD sm (asD b d)=prD sm d) (λx _=>by unfold asD;rfl) (λn ds d hd _ a c=>?_) h;have e:prDs sm (asDs b ds)=prDs sm ds:=by rw[bT,bT,nH,cs];exact List.map_congr_left c
 rw[(nM sm hd).1];rcases hd with rfl|rfl <;> (rw[asD];split <;> rw[prD,e])
end
noncomputable def lkP:Lk where
 e:=match bZ dJ with
  | [_,.Return (some (.Call _ [_,_,e] _ _)) _]=>e
  | _=>.Name "" ⟨0,0,0,0⟩
 q:="paired.<locals>.<lambda>"
 f:="in_pairs"
 g:=pr
 h:=prD
 ok:=λds=>ds≠[]/\ds.length<=1000
 cd:=λ_ d=>nds d<=1000
abbrev spInP (K:d6)(C:Addr):Sp:=spL lkP K C
def YE (g a p:Addr)(n:Str)(ds:List D)(H:Hp)(i:Nat)(d:St)(c:Hp):Prop:=∃(w:V) (o4:Option V),d=[some (.ref g),some (.str n),some (.ref a),some w,o4]/\aA H c/\aH c (chn n (ds.drop (ds.length - 1 - i))) w
def CJ {n:Str}{ds:List D}{j:Nat}{d:D}(h:ds[j]?=some d)(l:j+1<ds.length):chn n (ds.drop j) = .tup [.str n,d,chn n (ds.drop (j+1))]:=by obtain⟨a,rfl⟩:=cx.mp h;rw[List.drop_eq_getElem_cons a,List.drop_eq_getElem_cons l];rfl
def D5 (F:iE K "in_pairs" jQ f fd)(T:Txt mg)(d:uV P w K mg base lY 1 C "nought" (kM K C)):iX P w K mg base 6 f fd jQ (spInP K C):=by
 refine F.okL j5 λ_ _ _ s H _ _ _ hr r h=>?_;obtain⟨g,fx,sm,n,a,ds,ws,rfl,sg,B,rd,⟨ne,Q⟩,q⟩:=h;dsimp only[lkP]at q;refine⟨_,(pss4 (bC (aJ tP (oN d (hr.mono dw) pass0 (pv 0) (pa1 (pv 1))) eZ) (aE (aF (bR dY rfl T.n_tuple rfl (pa1 (aX bF (bW (pa1 (pv 1))) (pv 2)))))) aG) (bJ 3 j5.nd (aV (pv 2) (iB eY aB))) (iA (gF K (iJ yK (pv 2) (bU (iB eY aB)) cH (bU (iB eY aB)))) (gV 4 j5.nd) (aE (bJ 3 j5.nd (bB (pa3 (pv 1) (pv 4) (pv 3)))))) (aF (pv 3))),?_⟩
 ac_nf
 obtain⟨dx,fs,_,_,h1,_,h3,_⟩:=sg.ex;have o:=Reps.len rd;refine⟨_,rfl,g,dx,fs,rfl,h1,h3,_,rfl,g,n,fx,sm,rfl,sg,?_⟩;refine⟨rfl,_,rfl,aW (λc=>?_) (λc=>?_)⟩
 ·have hz:zr sm n=none:=by
   have c:=bx c;unfold nulV at c;cases e:zr sm n with
   | none=>rfl
   | some z=>rw[e]at c;cases c
  have O:pr sm n ds = .tup (.str n::ds):=by unfold pr;rw[hz]
  rw[O]at q;refine⟨_,rfl,szl 1,λp v=>⟨_,rfl,.inr ⟨.lst (.str n::ws),n5 ew (upk (aC B v) B) (leSz),λU I=>⟨U,.str n::ws,rfl,.inl ew,λW H6 A=>?_⟩⟩⟩⟩;rcases A with⟨A,_⟩|⟨_,L,rfl⟩
  ·rw[ew]at A;cases A
  ·have S:aA H (upd (upd (upd H p (.lst [.str n])) U (.lst (.str n::ws))) W (.tup (.str n::ws))):=((aA.upd v).trans (aA.upd I)).trans (aA.upd L);exact q _ _ S ⟨W,_,rfl,ew,.str n,ws,rfl,rfl,Reps.same S rd⟩
 ·obtain⟨z,hz⟩:∃z,zr sm n=some z:=by
   have c:=of_decide_eq_false c;unfold nulV at c;cases e:zr sm n with
   | none=>rw[e]at c;exact absurd rfl c
   | some z=>exact⟨z,rfl⟩
  have O:pr sm n ds=chn n ds:=by unfold pr;rw[hz]
  rw[O]at q;have l1:1<=ds.length:=List.length_pos_iff.mpr ne;obtain⟨l,hw0⟩:∃l,ws[ds.length - 1]?=some l:=⟨_,ay dz⟩
  obtain⟨d0,N,r0⟩:=Reps.get rd hw0;have e0:ds.drop (ds.length - 1)=[d0]:=by obtain⟨g1,rfl⟩:=cx.mp N;rw[List.drop_eq_getElem_cons g1,List.drop_eq_nil_of_le dz]
  refine⟨_,rfl,1,rfl,l,?_,_,rfl,2,rfl,-2,rfl,1,rfl,-1,rfl,rfl,rfl,rfl,a,ws,rfl,B,λz=>by rw[z]at o;simp at o;lia,λp v=>⟨p,_,rfl,.inl ew,λJ Y=>?_⟩⟩
  ·rw[ixV_l B,<-o]at *;show atI ws (-1)=_;unfold atI ixN;rw[ab dw,aj dz];have:(-1+(ws.length:Int)).toNat=ws.length - 1:=by lia
   rw[this];exact hw0
  ·have m:aA H (upd H p (.lst ws.dropLast.reverse)):=aA.upd v;have E:upd H p (.lst ws.dropLast.reverse) p=some (.lst ws.dropLast.reverse):=ew;generalize upd H p (.lst ws.dropLast.reverse)=H1 at m E Y|-;refine gZ Y (YE g a p n ds H1) ⟨l,none,rfl,aA.refl _,by rw[Nat.sub_zero,e0];exact aH.same m r0⟩ (λi R H' _ ⟨_,_,_,s,_⟩=>by rw[s _ _ E,E]) ?_ ?_
   ·rintro i x R Z G ⟨w,o4,rfl,s2,j⟩;have X:=(cx.mp G).1;rw[List.length_reverse,List.length_dropLast]at X;have hx':ws[ds.length - 2 - i]?=some x:=by rw[List.getElem?_reverse (by rw[List.length_dropLast];exact X),List.length_dropLast,List.getElem?_dropLast,aj dz]at G;rw[show ds.length - 2 - i=ws.length - 1 - 1 - i by lia];exact G
    obtain⟨e,he,re⟩:=Reps.get rd hx';refine⟨_,rfl,_,rfl,_,rfl,szl 3,λu r=>⟨.ref u,some x,rfl,s2.trans (aA.upd r),?_⟩⟩;rw[show ds.length - 1 - (i+1)=ds.length - 2 - i by lia,CJ he dz,show ds.length - 2 - i+1=ds.length - 1 - i by lia];exact⟨u,_,rfl,ew,_,_,rfl,rfl,_,_,rfl,aH.same ((m.trans s2).trans (aA.upd r)) re,_,_,rfl,aH.same (aA.upd r) j,rfl⟩
   ·rintro R Z ⟨w,o4,rfl,s2,j⟩;rw[List.length_reverse,List.length_dropLast,o,Nat.sub_self,List.drop_zero]at j;exact⟨_,rfl,q w Z (m.trans s2) j⟩
def NJ:FA lkP where
 fr:=by decide +kernel
 nc:=by decide +kernel
 nl:=⟨rfl,rfl,rfl⟩
 ki:=rfl
 co:=rfl
 ge:=rfl
 df:=λ_=>rfl
 bd:=λ_ _ _ _ _ _=>rfl
 bo:=λO a=>d9 O a pass0 rfl (eB (pv 2) (eB (pv 0) (eB (pv 1) gA)))
 st:=iN
 pt:=λsm _ _ _ h=>by show prD sm _=pr sm _ (List.map (prD sm) _);rw[<-bT];exact(nM sm h).1
 fl:=λ_ tm=>DP tm
 nd:=λh=>h
 op:=λ{sm d e n ds} hz _ c _ hd ne _=>by
  have hz:nds d<=1000:=hz;have f:nds e=1+ndss ds:=by rcases hd with rfl|rfl <;> rw[nds]
  have:=fY ds;exact⟨by simpa using ne,by rw[af];lia⟩
abbrev O0:=LT lkP
def sZ (K:d6)(C Pp:Addr):Sp:=λvs H Q _=>∃(g:Addr) (fx:cV) (sm:bL) (os:bA) (d:D) (v:V),vs=[.ref g,v]/\iK K C fx sm H g/\aH H d v/\zX fx sm os d/\O0 Pp H /\
 ∀(a:V) (H':Hp),cZ Pp H H'->O0 Pp H'->aH H' (prD sm d) a->Q a H'
def JD {f C c Pp:Addr}{oc:ef}{od an:Option Addr}{osl:Array (Option ef)}{kV B F ct:ef}(lk:K.lookup f=some ⟨oc,od,.func (PySem.W.fnOf "paired" "paired" (cP dJ) (bZ dJ) (aZ dJ) .none kV B F an (.ref c) ct),osl⟩)(l:PySem.W.codeIn K (.ref c) "paired" = true)
  (hC:∀h,K.In h->PySem.W.CodeHd h c Pp) (hB:Bm mg base) (i:Ow P w K mg base 3 "check_term" (yJ K C)) (a:Ow P w K mg base 8 "from_within" (spFW lkP K C)):hZ P w K mg base lY 9 f (PySem.W.fnOf "paired" "paired" (cP dJ) (bZ dJ) (aZ dJ) .none kV B F an (.ref c) ct) (prmS dJ) (sZ K C Pp):=by
 refine G6 lk l IN (λvs H Q E h=>?_) (λA outer s H vs Q E Z h=>?_)
 ·obtain⟨g,T,sm,os,d,v,rfl,_⟩:=h;rfl
 ·obtain⟨g,T,sm,os,d,v,rfl,sg,rep,tm,lt,q⟩:=h;refine⟨_,(pss2 (bX (aS i Z (pa2 (pv 0) (pv 1)))) (aF (SD a (Z.mono dw) rfl rfl rfl rfl rfl (eB (pv 1) (@GB _ _ _ _ (pa1 (BG NJ rfl rfl rfl rfl hC hB))))))),?_⟩
  try dsimp only[cxOf,Cx.nox]
  refine⟨_,rfl,_,rfl,g,T,sm,os,d,v,rfl,sg,tm.so,tm.ho,rep,tm.tm,aq tm.lv dw,aq tm.dp dw,tm.nd,λX s1=>?_⟩;refine⟨_,rfl,λz O=>?_⟩;have s2:aA H (upd X z (.dK [])):=s1.trans (aA.upd O);have f2:upd X z (.dK []) z=some (.dK []):=ew;generalize upd X z (.dK [])=H2 at s2 f2|-;have j:=lt.same s2;refine⟨j,λfl c' F U J G tq H' bt L N S l hv n0 u=>⟨g,rfl,λr R _=>?_⟩⟩;have m:aA H' (upd H' (s.heap.objs.size+1) (pinO (s.heap.objs.size+1) r)):=aA.upd u;refine⟨z,fl,s.heap.objs.size+1,g,T,sm,d,v,rfl,m _ _ (bt _ _ (j.ne f2 λ_=>by simp) f2),⟨c',F,U,r,J,G,tq,m _ _ N,ew,R,m _ _ S,l,hv⟩,(j.sg bt (sg.same s2)).same m,aH.same m (j.rep bt (aH.same s2 rep)),(kJ tm.so tm.ho tm.tm).1,tm.nd,λv' H3 I r3=>⟨I _ _ ew,?_⟩⟩;have Y:aA H' (del1 H3 (s.heap.objs.size+1)):=λb o e=>by rw[dX (aC e u)];exact I _ _ (m _ _ e)
  exact q v' _ (λb o nb e=>Y _ _ (bt b o nb (s2 _ _ e))) (L.same Y) (aH.del1 (I _ _ ew) r3)
mutual
/-- texts and tuples,each sum of two parts -/
def Pd (sm:bL):D->Prop
 | .str _=>True
 | .tup (.str n::ds)=>(zr sm n≠none->ds.length=2)/\Pds sm ds
 | _=>False
def Pds (sm:bL):List D->Prop
 | []=>True
 | d::ds=>Pd sm d/\Pds sm ds
end
section
variable {fx:cV}{sm:bL}{os:bA}
def lK:∀{ds:List D},Pds sm ds ↔ ∀e∈ds,Pd sm e
 | []=>⟨λ_ _ h=>(nomatch h),λ_=>trivial⟩
 | d::ds=>by unfold Pds;rw[lK,List.forall_mem_cons]
def R9 (so:aP fx sm)(h:aM fx sm os d):Pd sm (prD sm d):=by
 refine jL (P:=λd=>Pd sm (prD sm d)) (λx _=>by rw[iN];unfold Pd;trivial) (λn ds d hd i _ f=>?_) h;have all:∀e∈prDs sm ds,Pd sm e:=λe c=>by rw[bT]at c;obtain⟨x,g,rfl⟩:=da.mp c;exact f x g
 rw[(nM sm hd).1];unfold pr;cases e:zr sm n with
 | none =>
  dsimp only;unfold Pd;exact⟨λz=>absurd e z,lK.mpr all⟩
 | some z =>
  have ne:prDs sm ds≠[]:=λz=>by have:=i8 i;rw[bT,List.map_eq_nil_iff]at z;rw[z]at this;simp at this
  exact sN (λd e a b=>by unfold Pd;exact⟨λ_=>rfl,a,b,trivial⟩) ne all
noncomputable def chD (sm:bL)(k n:Str)(d:D):Option D :=
 if k="add" then(match zr sm n with
  | some z=>if z=("" : Str)then none else some (.tup [.str n,d,.str z])
  | none=>none)
 else match d with
 | .tup [.str m,a,b]=>if m=n then
   (if k="turn" then some (.tup [.str n,b,a])
    else if k="drop" then(match zr sm n with
     | some z=>if eqD b (.str z)=true then some a else none
     | none=>none)
    else if k="left" then(match b with
     | .tup [.str c,f,e]=>if c=n then some (.tup [.str n,.tup [.str n,a,f],e])else none
     | _=>none)
    else(match a with
     | .tup [.str c,h,g]=>if c=n then some (.tup [.str n,h,.tup [.str n,g,b]])else none
     | _=>none))else none
 | _=>none
noncomputable def backK (k:Str):Str:=if k="left" then "right" else if k="right" then "left" else if k="drop" then "add" else if k="add" then "drop" else k
noncomputable def kinds:bA:=["turn","left","right","drop","add"]
structure WV (fx:cV)(sm:bL)(os:bA)(d e:D):Prop where
 tm:aM fx sm os e
 pd:Pd sm e
 lv:lvs e<=lvs d+1
 nd:nds e<=nds d+2
 dp:depD e<=depD d+1
 fl:flt sm e=flt sm d
def jK:aM fx sm os (.tup [.str n,a,b]) ↔ nJ fx sm n 2/\aM fx sm os a/\aM fx sm os b:=by
 constructor
 ·intro h;unfold aM at h;exact⟨h.1,h.2.1,h.2.2.1⟩
 ·intro h;unfold aM;exact⟨h.1,h.2.1,h.2.2,trivial⟩
def lL:Pd sm (.tup [.str n,a,b]) ↔ Pd sm a/\Pd sm b:=by
 constructor
 ·intro h;unfold Pd at h;exact⟨h.2.1,h.2.2.1⟩
 ·intro h;unfold Pd;exact⟨λ_=>rfl,h.1,h.2,trivial⟩
def eK (n:Str)(a b:D):lvs (.tup [.str n,a,b])=lvs a+lvs b/\nds (.tup [.str n,a,b])=1+(nds a+nds b)/\depD (.tup [.str n,a,b])=max (depD a) (depD b)+1/\flt sm (.tup [.str n,a,b])=knot sm n [flt sm a,flt sm b]:=by obtain⟨g,f,e,c,_⟩:=cG (sm:=sm) (d:=.tup [.str n,a,b]) (.inl rfl);refine⟨by rw[g];simp only[lvss];lia,by rw[f];simp only[ndss];lia,by rw[e];simp only[depDs];lia,by rw[c];rfl⟩
def eX (so:aP fx sm)(ho:∀x∈os,cB x)(h:aM fx sm os d):Fl (flt sm d)/\NF sm (flt sm d):=⟨(nB (cX so) (kJ so ho h).1).1,zI (cX so) (kJ so ho h).1⟩
def knot3 (hz:zr sm n=some z)(e:Fl x/\NF sm x)(d:Fl y/\NF sm y)(f:Fl w/\NF sm w)(g:Fl (knot sm n [y,w]))(h:Fl (knot sm n [x,y])):knot sm n [x,knot sm n [y,w]]=knot sm n [knot sm n [x,y],w]:=by have c:=kU (gs:=[y,w]) hz ⟨d.2,f.2,trivial⟩;have a:=kU (gs:=[x,y]) hz ⟨e.2,d.2,trivial⟩;refine nV hz ⟨e.1,g,trivial⟩ ?_;rw[aY,aY,aY,aY,show opn n z []=[]from rfl,bu,bu];rw[aY,aY,show opn n z []=[]from rfl,bu]at c a;refine(List.Perm.append_left (opn1 n z x) c).trans ?_;rw[<-cu];exact(a.symm).append_right _
def uI (h:eqD b (.str z)=true):b = .str z:=by
 cases b with
 | str x=>unfold eqD at h;rw[bx h]
 | _=>unfold eqD at h;simp at h
def wQ (so:aP fx sm)(hz:zr sm n=some z)(ne:z≠("" : Str)):aM fx sm os (.str z):=by obtain⟨r,a,_,rfl⟩:=FD hz;unfold aM;exact .inr (so.nought r a ne)
def RA (so:aP fx sm)(ho:∀x∈os,cB x)(h:aM fx sm os (.str z)):z≠("" : Str):=λe=>by have:=(kJ so ho h).1;unfold Tm at this;rw[e]at this;exact absurd this.1 dw
def lR {k n:Str}{a b:D}(h:k≠"add"):chD sm k n (.tup [.str n,a,b])=(if k="turn" then some (.tup [.str n,b,a])
    else if k="drop" then(match zr sm n with
     | some z=>if eqD b (.str z)=true then some a else none
     | none=>none)
    else if k="left" then(match b with
     | .tup [.str c,e,d]=>if c=n then some (.tup [.str n,.tup [.str n,a,e],d])else none
     | _=>none)
    else(match a with
     | .tup [.str c,g,f]=>if c=n then some (.tup [.str n,g,.tup [.str n,f,b]])else none
     | _=>none)):=by
 unfold chD;rw[ab h];dsimp only;rw[aj rfl]
def zQ (hz:zr sm n=some z):chD sm "drop" n (.tup [.str n,a,.str z])=some a:=by rw[lR dw,ab dw,aj rfl,hz];dsimp only;rw[eF,aj rfl]
def OH (hz:zr sm n=some z)(ne:z≠("" : Str)):chD sm "add" n a=some (.tup [.str n,a,.str z]):=by unfold chD;rw[aj rfl,hz];dsimp only;rw[ab ne]
def HQ:chD sm "left" n (.tup [.str n,a,.tup [.str n,b,c]])=some (.tup [.str n,.tup [.str n,a,b],c]):=by rw[lR dw,ab dw,ab dw,aj rfl];dsimp only;rw[aj rfl]
def uN:chD sm "right" n (.tup [.str n,.tup [.str n,a,b],c])=some (.tup [.str n,a,.tup [.str n,b,c]]):=by rw[lR dw,ab dw,ab dw,ab dw];dsimp only;rw[aj rfl]
def OG (so:aP fx sm)(ho:∀x∈os,cB x)(hk:k∈kinds)(hn:n∈sm.map (·.1))(tm:aM fx sm os d)(pd:Pd sm d)(h:chD sm k n d=some e):WV fx sm os d e/\chD sm (backK k) n e=some d:=by
 obtain⟨z,hz⟩:=sR hn;have i:nJ fx sm n 2:=.inr ⟨ac _,hn⟩;have nz:=cX so;have zs:flt sm (.str z) = .str z:=by unfold flt;rfl
 have I:∀{x y:D},aM fx sm os x->aM fx sm os y->Fl (knot sm n [flt sm x,flt sm y]):=λ{x y} hx hy=>by have:=(eX so ho (jK.mpr ⟨i,hx,hy⟩)).1;rw[(eK (sm:=sm) n x y).2.2.2]at this;exact this
 unfold chD at h;by_cases C:k="add"
 ·subst C;rw[aj rfl,hz]at h;by_cases J:z=("" : Str)
  ·dsimp only at h;rw[aj J]at h;cases h
  ·dsimp only at h;rw[ab J]at h;cases h;have tz:aM fx sm os (.str z):=wQ so hz J;obtain⟨w,v,u,r⟩:=eK (sm:=sm) n d (.str z);obtain⟨f1,f2⟩:=eX so ho tm;refine⟨⟨jK.mpr ⟨i,tm,tz⟩,lL.mpr ⟨pd,by unfold Pd;trivial⟩,by rw[w];show _+1<=_;lia,by rw[v];show 1+(_+1)<=_;lia,by rw[u];show max _ 0+1<=_;lia,by rw[r,zs];exact kA hz f1 f2 (.inl rfl)⟩,?_⟩;exact zQ hz
 ·rw[ab C]at h;have c:∃a b,d = .tup [.str n,a,b]:=by
   split at h
   ·rename_i m a b;by_cases g:m=n
    ·exact⟨a,b,by rw[g]⟩
    ·rw[ab g]at h;cases h
   ·cases h
  obtain⟨a,b,rfl⟩:=c
  replace h:chD sm k n (.tup [.str n,a,b])=some e:=by unfold chD;rw[ab C];exact h
  rw[lR C]at h;obtain⟨_,o,tb⟩:=jK.mp tm;obtain⟨pa,K⟩:=lL.mp pd;obtain⟨w,v,u,r⟩:=eK (sm:=sm) n a b;obtain⟨W,na⟩:=eX so ho o;obtain⟨fb,nb⟩:=eX so ho tb;by_cases O:k="turn"
  ·subst O;rw[aj rfl]at h;cases h;obtain⟨H,G,F,E⟩:=eK (sm:=sm) n b a;refine⟨⟨jK.mpr ⟨i,tb,o⟩,lL.mpr ⟨K,pa⟩,by rw[H,w];lia,by rw[G,v];lia,by rw[F,u];lia,?_⟩,?_⟩
   ·rw[E,r];refine nV hz ⟨fb,W,trivial⟩ ?_;rw[aY,aY,aY,aY,show opn n z []=[]from rfl,bu,bu];exact List.perm_append_comm
   ·show chD sm "turn" n _=_;rw[lR dw,aj rfl]
  rw[ab O]at h;by_cases Q:k="drop"
  ·subst Q;rw[aj rfl,hz]at h;dsimp only at h;by_cases q:eqD b (.str z)=true
   ·rw[aj q]at h;cases h;have:=uI q;subst this;refine⟨⟨o,pa,by rw[w];lia,by rw[v];lia,by rw[u];lia,by rw[r,zs];exact(kA hz W na (.inl rfl)).symm⟩,?_⟩;exact OH hz (RA so ho tb)
   ·rw[ab q]at h;cases h
  rw[ab Q]at h;by_cases P:k="left"
  ·subst P;rw[aj rfl]at h;have c:∃j A,b = .tup [.str n,j,A]:=by
    split at h
    ·rename_i m j A;by_cases g:m=n
     ·exact⟨j,A,by rw[g]⟩
     ·rw[ab g]at h;cases h
    ·cases h
   obtain⟨j,A,rfl⟩:=c;dsimp only at h;rw[aj rfl]at h;cases h;obtain⟨_,t1,f⟩:=jK.mp tb;obtain⟨N,L⟩:=lL.mp K;obtain⟨c1,Z,Y,X⟩:=eK (sm:=sm) n j A;obtain⟨H,G,F,E⟩:=eK (sm:=sm) n a j;obtain⟨U,T,S,R⟩:=eK (sm:=sm) n (.tup [.str n,a,j]) A;refine⟨⟨jK.mpr ⟨i,jK.mpr ⟨i,o,t1⟩,f⟩,lL.mpr ⟨lL.mpr ⟨pa,N⟩,L⟩,by rw[U,H,w,c1];lia,by rw[T,G,v,Z];lia,by rw[S,F,u,Y];lia,?_⟩,uN⟩;rw[R,E,r,X];exact(knot3 hz ⟨W,na⟩ (eX so ho t1) (eX so ho f) (I t1 f) (I o t1)).symm
  rw[ab P]at h;have kr:k="right":=by
   simp only[kinds,cz,List.not_mem_nil,or_false]at hk;rcases hk with h|h|h|h|h
   ·exact absurd h O
   ·exact absurd h P
   ·exact h
   ·exact absurd h Q
   ·exact absurd h C
  subst kr;have c:∃B l,a = .tup [.str n,B,l]:=by
   split at h
   ·rename_i m B l;by_cases g:m=n
    ·exact⟨B,l,by rw[g]⟩
    ·rw[ab g]at h;cases h
   ·cases h
  obtain⟨B,l,rfl⟩:=c;dsimp only at h;rw[aj rfl]at h;cases h;obtain⟨_,t1,f⟩:=jK.mp o;obtain⟨N,L⟩:=lL.mp pa;obtain⟨c1,Z,Y,X⟩:=eK (sm:=sm) n B l;obtain⟨H,G,F,E⟩:=eK (sm:=sm) n l b;obtain⟨U,T,S,R⟩:=eK (sm:=sm) n B (.tup [.str n,l,b]);refine⟨⟨jK.mpr ⟨i,t1,jK.mpr ⟨i,f,tb⟩⟩,lL.mpr ⟨N,lL.mpr ⟨L,K⟩⟩,by rw[U,H,w,c1];lia,by rw[T,G,v,Z];lia,by rw[S,F,u,Y];lia,?_⟩,HQ⟩;rw[R,E,r,X];exact knot3 hz (eX so ho t1) (eX so ho f) ⟨fb,nb⟩ (I f tb) (I t1 f)
noncomputable def bP (sm:bL)(k n:Str):List Nat->D->Option D
 | [],d=>chD sm k n d
 | i::pl,.tup (.str m::ds)=>(ds[i]?).bind λe=>(bP sm k n pl e).map λa=>.tup (.str m::ds.set i a)
 | _::_,_=>none
theorem tD:∀{ds:List D} {i:Nat},ds[i]?=some x->lvss (ds.set i y)+lvs x=lvss ds+lvs y/\ndss (ds.set i y)+nds x=ndss ds+nds y/\depDs (ds.set i y)<=max (depDs ds) (depD y)/\(flt sm y=flt sm x->flts sm (ds.set i y)=flts sm ds)
 | [],_,h=>by simp at h
 | e::ds,0,h=>by
  simp at h;subst h;rw[List.set_cons_zero,lvss,lvss,ndss,ndss,depDs,depDs,flts,flts];exact⟨dz,dz,dz,λz=>by rw[z]⟩
 | e::ds,i+1,h=>by obtain⟨f,d,c,a⟩:=tD (ds:=ds) (i:=i) (x:=x) (y:=y) (by simpa using h);rw[List.set_cons_succ,lvss,lvss,ndss,ndss,depDs,depDs,flts,flts];exact⟨dz,dz,dz,λz=>by rw[a z]⟩
def GA (h:Pd sm d):(∃x,d = .str x)\/∃m ds,d = .tup (.str m::ds):=by
 unfold Pd at h;split at h
 ·exact .inl ⟨_,rfl⟩
 ·exact .inr ⟨_,_,rfl⟩
 ·exact absurd h id
theorem kK (so:aP fx sm)(ho:∀x∈os,cB x)(g:k∈kinds)(f:n∈sm.map (·.1)):∀{pl:List Nat} {d e:D},aM fx sm os d->Pd sm d->bP sm k n pl d=some e->WV fx sm os d e/\bP sm (backK k) n pl e=some d
 | [],d,e,tm,pd,h=>OG so ho g f tm pd h
 | i::pl,d,e,tm,pd,h=>by
  rcases GA pd with⟨x,rfl⟩|⟨m,ds,rfl⟩
  ·simp[bP]at h
  ·rw[bP]at h;obtain⟨x,a,o⟩:=Option.bind_eq_some_iff.mp h;obtain⟨y,l,rfl⟩:=Option.map_eq_some_iff.mp o;unfold aM at tm;unfold Pd at pd;have c:=bn a;have j:=(cx.mp a).1;obtain⟨s,back⟩:=kK so ho g f (lE.mp tm.2 x c) (lK.mp pd.2 x c) l;obtain⟨F,E,C,B,_⟩:=cG (sm:=sm) (d:=.tup (.str m::ds)) (.inl rfl);obtain⟨A,z,w,v,_⟩:=cG (sm:=sm) (d:=.tup (.str m::ds.set i y)) (.inl rfl);obtain⟨N,L,K,G⟩:=tD (sm:=sm) (y:=y) a;have I:=s.lv;have s2:=s.nd;have H:=s.dp;have J:=fL a;have all:∀{P:D->Prop},(∀e∈ds,P e)->P y->∀e∈ds.set i y,P e:=λu r e q=>by
    rcases List.mem_or_eq_of_mem_set q with h|rfl
    ·exact u e h
    ·exact r
   refine⟨⟨?_,?_,by rw[A,F];lia,by rw[z,E];lia,by rw[w,C];lia,by rw[v,B,G s.fl]⟩,?_⟩
   ·unfold aM;rw[List.length_set];exact⟨tm.1,lE.mpr (all (lE.mp tm.2) s.tm)⟩
   ·unfold Pd;rw[List.length_set];exact⟨pd.1,lK.mpr (all (lK.mp pd.2) s.pd)⟩
   ·rw[bP,List.getElem?_set_self j,Option.bind_some,back,Option.map_some,List.set_set];congr;rw[<-(cx.mp a).2,List.set_getElem_self]
end
inductive CT (d:D):List Nat->List D->D->Prop
 | nil:CT d [] [d] d
 | snoc {pl:List Nat} {ws:List D} {m:Str} {ds:List D} {i:Nat} {e:D} (h:CT d pl ws (.tup (.str m::ds))) (hi:ds[i]?=some e):CT d (pl++[i]) (ws++[e]) e
def CT.len (h:CT d pl ws e):ws.length=pl.length+1:=by
 induction h with
 | nil=>rfl
 | snoc _ _ a=>rw[au,au,a];rfl
def CT.last (h:CT d pl ws e):ws[pl.length]?=some e:=by
 cases h with
 | nil=>rfl
 | snoc h a=>rw[au,List.getElem?_append_right (by rw[h.len];simp),h.len];simp
def CT.first (h:CT d pl ws e):∃r,ws=d::r:=by
 induction h with
 | nil=>exact⟨[],rfl⟩
 | snoc _ _ a=>obtain⟨r,rfl⟩:=a;exact⟨r++[_],rfl⟩
def CT.upto (h:CT d pl ws e):∀i,i<=pl.length->∃c,CT d (pl.take i) (ws.take (i+1)) c/\∀j,pl[i]?=some j->∃m ds x,c = .tup (.str m::ds)/\ds[j]?=some x/\ws[i+1]?=some x:=by
 induction h with
 | nil =>
  intro i g;cases Nat.le_zero.mp g;exact⟨_,.nil,λj f=>by simp at f⟩
 | snoc h g w =>
  rename_i pl ws m ds i e;intro j f;rw[au]at f;have hl:=h.len;by_cases z:j=pl.length+1
  ·subst z;rw[List.take_of_length_le (by rw[au];exact ac _),List.take_of_length_le (by rw[au,hl];exact ac _)];exact⟨_,.snoc h g,λt a=>by rw[List.getElem?_eq_none (by rw[au];exact ac _)]at a;cases a⟩
  ·have o:j<=pl.length:=by simp only[ar,List.length_nil]at f;lia
   obtain⟨c,q,nx⟩:=w j o;rw[List.take_append_of_le_length o,List.take_append_of_le_length dz];refine⟨c,q,λt a=>?_⟩;by_cases y:j<pl.length
   ·rw[List.getElem?_append_left y]at a;obtain⟨v,l,x,C,B,A⟩:=nx t a;exact⟨v,l,x,C,B,by rw[List.getElem?_append_left dz];exact A⟩
   ·have:j=pl.length:=by lia
    subst this;rw[List.getElem?_append_right (ac _),Nat.sub_self]at a;cases a;have u:=q.last;rw[bI,List.getElem?_take_of_lt dz]at u;have r:=h.last;rw[u]at r;cases r;exact⟨m,ds,e,rfl,g,by rw[List.getElem?_append_right dz,hl];simp⟩
def KO (d:ds[i]?=some x)(h:CT x pl ws e):CT (.tup (.str m::ds)) (i::pl) (.tup (.str m::ds)::ws) e:=by
 induction h with
 | nil=>exact .snoc (pl:=[]) (ws:=[_]) .nil d
 | snoc h c a=>exact .snoc (pl:=i::_) (ws:=_::_) a c
theorem AS:∀{pl:List Nat} {d r:D},bP sm k n pl d=some r->∃ws e c,CT d pl ws e/\chD sm k n e=some c
 | [],d,r,h=>⟨[d],d,r,.nil,h⟩
 | i::pl,d,r,h=>by
  unfold bP at h;split at h
  ·rename_i q;cases q
  ·rename_i q;cases q;obtain⟨x,f,h⟩:=Option.bind_eq_some_iff.mp h;obtain⟨y,a,rfl⟩:=Option.map_eq_some_iff.mp h;obtain⟨ws,e,c,j,g⟩:=AS a;exact⟨_,e,c,KO f j,g⟩
  ·cases h
mutual
def Nl:D->Prop
 | .tup ds=>Nls ds
 | .lst _=>False
 | _=>True
def Nls:List D->Prop
 | []=>True
 | d::ds=>Nl d/\Nls ds
end
mutual
theorem aH.nl (s:aN H H'):∀{d:D} {v:V},Nl d->aH H d v->aH H' d v
 | .non,_,_,h | .bl _,_,_,h | .int _,_,_,h | .str _,_,_,h=>h
 | .tup _,_,n,⟨a,vs,e,h,r⟩=>⟨a,vs,e,s _ _ h,Reps.nl s (by unfold Nl at n;exact n) r⟩
 | .lst _,_,n,_=>by unfold Nl at n;exact n.elim
theorem Reps.nl (s:aN H H'):∀{ds:List D} {vs:List V},Nls ds->Reps H ds vs->Reps H' ds vs
 | [],_,_,h=>h
 | _::_,_,⟨a,b⟩,⟨v,r,e,h,q⟩=>⟨v,r,e,aH.nl s a h,Reps.nl s b q⟩
end
def qQ:∀{ds:List D},(∀d∈ds,Nl d)->Nls ds
 | [],_=>trivial
 | d::ds,h=>⟨h d ax,qQ λe k=>h e (bc _ k)⟩
mutual
theorem SK:∀{d:D},Fl d->Nl d
 | .str _,_=>trivial
 | .tup (.str n::ds),h=>by unfold Fl at h;unfold Nl;exact⟨trivial,N1 h⟩
 | .non,h | .bl _,h | .int _,h | .lst _,h | .tup [],h | .tup (.non::_),h | .tup (.bl _::_),h | .tup (.int _::_),h | .tup (.tup _::_),h | .tup (.lst _::_),h=>by unfold Fl at h;exact h.elim
theorem N1:∀{ds:List D},Fls ds->Nls ds
 | [],_=>trivial
 | _::_,⟨a,b⟩=>⟨SK a,N1 b⟩
end
abbrev S3:=Str×List Nat×Str
noncomputable def iD (p:List Nat):D:=.tup (p.map λ(i:Nat)=>D.int (i:Int))
noncomputable def stD (s:S3):D:=.tup [.str s.1,iD s.2.1,.str s.2.2]
noncomputable def rwD (r:List Nat×D):D:=.tup [iD r.1,r.2]
def GM:∀p:List Nat,Nls (p.map λ(i:Nat)=>D.int (i:Int))
 | []=>trivial
 | _::p=>⟨trivial,GM p⟩
def SG (p:List Nat):Nl (iD p):=by unfold iD Nl;exact GM p
def V7 (s:S3):Nl (stD s):=by unfold stD Nl;exact⟨trivial,SG _,trivial,trivial⟩
def GL (h:Fl r.2):Nl (rwD r):=by unfold rwD Nl;exact⟨SG _,SK h,trivial⟩
def i5 (l:List S3):Nls (l.map stD):=qQ λd hd=>by obtain⟨s,_,rfl⟩:=da.mp hd;exact V7 s
noncomputable def iV (p:List Nat):List V:=p.map λ(i:Nat)=>V.int (i:Int)
def LX {H:Hp}{pa:Addr}{p:List Nat}(h:H pa=some (.tup (iV p))):aH H (iD p) (.ref pa):=by
 unfold iD;refine⟨pa,_,rfl,h,?_⟩;clear h
 induction p with
 | nil=>rfl
 | cons i p a=>exact⟨_,_,rfl,rfl,a⟩
def NV (h:aH H (iD p) v):∃pa,v = .ref pa/\H pa=some (.tup (iV p)):=by
 unfold iD at h;obtain⟨a,vs,rfl,h,r⟩:=h;refine⟨a,rfl,h.trans ?_⟩;congr 2;clear h
 induction p generalizing vs with
 | nil=>cases (show vs=[]from r);rfl
 | cons i p c =>
  obtain⟨v,r,rfl,rfl,q⟩:=r;rw[c _ q];rfl
def pB {H:Hp}{T pa:Addr}{k n:Str}{p:List Nat}(h:H T=some (.tup [.str k,.ref pa,.str n]))(a:H pa=some (.tup (iV p))):aH H (stD (k,p,n)) (.ref T) :=
 ⟨T,_,rfl,h,_,_,rfl,rfl,_,_,rfl,LX a,_,_,rfl,rfl,rfl⟩
def DH (h:aH H (stD s) v):∃T pa,v = .ref T/\H T=some (.tup [.str s.1,.ref pa,.str s.2.2])/\H pa=some (.tup (iV s.2.1)):=by obtain⟨T,vs,rfl,h,_,r,rfl,rfl,v,f,rfl,a,_,d,rfl,rfl,e⟩:=h;cases e;obtain⟨pa,rfl,c⟩:=NV a;exact⟨T,pa,rfl,h,c⟩
def LM {H:Hp}{T pa:Addr}{p:List Nat}{d:D}{v:V}(h:H T=some (.tup [.ref pa,v]))(a:H pa=some (.tup (iV p)))(r:aH H d v):aH H (rwD (p,d)) (.ref T) :=
 ⟨T,_,rfl,h,_,_,rfl,LX a,_,_,rfl,r,rfl⟩
def LL (h:aH H (rwD r) v):∃T pa u,v = .ref T/\H T=some (.tup [.ref pa,u])/\H pa=some (.tup (iV r.1))/\aH H r.2 u:=by obtain⟨T,vs,rfl,h,v,r,rfl,c,u,f,rfl,a,e⟩:=h;cases e;obtain⟨pa,rfl,d⟩:=NV c;exact⟨T,pa,u,rfl,h,d,a⟩
mutual
noncomputable def plw (p:List Nat):D->List (List Nat×D)
 | .tup (.str n::ds)=>(p,.tup (.str n::ds))::plws p 0 ds
 | d=>[(p,d)]
noncomputable def plws (p:List Nat)(k:Nat):List D->List (List Nat×D)
 | []=>[]
 | d::ds=>plw (p++[k]) d++plws p (k+1) ds
end
noncomputable def chR (p:List Nat)(k:Nat):List D->List (List Nat×D)
 | []=>[]
 | d::ds=>(p++[k],d)::chR p (k+1) ds
def FZ (p:List Nat):∀(ds:List D) (k:Nat),plws p k ds=(chR p k ds).flatMap λr=>plw r.1 r.2
 | [],_=>rfl
 | d::ds,k=>by rw[plws,chR,List.flatMap_cons,FZ p ds]
def CK (p:List Nat)(e:D):∀(ds:List D) (k:Nat),chR p k (ds++[e])=chR p k ds++[(p++[k+ds.length],e)]
 | [],k=>rfl
 | d::ds,k=>by rw[List.cons_append,chR,CK p e ds,chR,List.cons_append,ar,Nat.add_assoc,Nat.add_comm 1]
def zR (p:List Nat):∀(ds:List D) (k:Nat),(chR p k ds).length=ds.length
 | [],_=>rfl
 | d::ds,k=>by rw[chR,ar,zR p ds,ar]
def HR:∀{ds:List D} {k:Nat},r∈chR p k ds->r.2∈ds/\r.1.length=p.length+1
 | d::ds,k,h=>by
  rw[chR]at h;obtain rfl|h:=cz.mp h
  ·exact⟨ax,dV⟩
  ·obtain⟨a,b⟩:=HR h;exact⟨bc _ a,b⟩
mutual
theorem F0:∀{d:D},Fl d->∀p,(plw p d).map (·.2)=wlk d
 | .str x,_,p=>by unfold plw wlk;rfl
 | .tup (.str n::ds),h,p=>by unfold Fl at h;rw[plw,wlk,bg,BD h]
 | .non,h,_ | .bl _,h,_ | .int _,h,_ | .lst _,h,_ | .tup [],h,_ | .tup (.non::_),h,_ | .tup (.bl _::_),h,_ | .tup (.int _::_),h,_ | .tup (.tup _::_),h,_ | .tup (.lst _::_),h,_=>by unfold Fl at h;exact h.elim
theorem BD:∀{ds:List D},Fls ds->∀p k,(plws p k ds).map (·.2)=wlks ds
 | [],_,_,_=>rfl
 | d::ds,⟨a,b⟩,p,k=>by rw[plws,az,F0 a,BD b,wlks]
end
mutual
theorem F2:∀(d:D) (p:List Nat),∀r∈plw p d,r.1.length+depD r.2<=p.length+depD d
 | .tup (.str n::ds),p,r,h=>by
  rw[plw]at h;obtain rfl|h:=cz.mp h
  ·exact ac _
  ·have:=BF ds p 0 r h;rw[depD,depDs]
   lia
 | .non,p,r,h | .bl _,p,r,h | .int _,p,r,h | .str _,p,r,h | .lst _,p,r,h | .tup [],p,r,h | .tup (.non::_),p,r,h | .tup (.bl _::_),p,r,h | .tup (.int _::_),p,r,h | .tup (.tup _::_),p,r,h | .tup (.lst _::_),p,r,h=>by unfold plw at h;rw[cy.mp h];exact ac _
theorem BF:∀(ds:List D) (p:List Nat) (k:Nat),∀r∈plws p k ds,r.1.length+depD r.2<=p.length+1+depDs ds
 | d::ds,p,k,r,h=>by
  rw[plws]at h;rw[depDs];rcases c4.mp h with m|m
  ·have:=F2 d (p++[k]) r m;rw[au,cr]at this
   lia
  ·have:=BF ds p (k+1) r m
   lia
end
noncomputable def ones (k:Nat):List Nat:=List.replicate k 1
noncomputable def cntB (m:D)(bs:List D):Nat:=(bs.filter λb=>lexK (key b) (key m)).length
noncomputable def inw1 (n:Str)(p:List Nat)(a i:Nat):List S3:=if i+1=a then [("turn",p++ones i,n)]else [("left",p++ones i,n),("turn",(p++ones i)++[0],n),("right",p++ones i,n)]
noncomputable def inw (n:Str)(p:List Nat)(m:D)(bs:List D):List S3:=(List.range (cntB m bs)).flatMap (inw1 n p bs.length)
noncomputable def sdn (n:Str)(p:List Nat)(fr:List D):Nat->List D->List S3
 | 0,_=>[]
 | k+1,bs=>match fr[k]? with
  | some m=>inw n (p++ones k) m bs++sdn n p fr k (bs++[m])
  | none=>[]
noncomputable def rgt (n:Str)(p:List Nat)(k:Nat):List S3:=(List.range k).map λi=>("right",p++ones i,n)
noncomputable def ssum (n z:Str)(p:List Nat)(x y:D):List S3 :=
 if eqD y (.str z)=true then [("drop",p,n)]
 else if eqD x (.str z)=true then [("turn",p,n),("drop",p,n)]
 else rgt n p ((opP n x).length - 1)++sdn n p (opP n x) (opP n x).length (opP n y)
noncomputable def nodeS (sm:bL)(r:List Nat×D):List S3:=match r.2 with
 | .tup [.str n,x,y]=>(match zr sm n with
  | some z=>ssum n z r.1 (flt sm x) (flt sm y)
  | none=>[])
 | _=>[]
noncomputable def ledS (sm:bL)(d:D):List S3:=(plw [] d).reverse.flatMap (nodeS sm)
def zP (m:D)(bs:List D):cntB m bs<=bs.length:=List.length_filter_le _ _
def nC {d e:Type}(f:d->List e)(c:Nat):∀(l:List d),(∀a∈l,(f a).length<=c)->(l.flatMap f).length<=l.length * c
 | [],_=>aw _
 | a::l,h=>by
  have j:=h a ax;have i:=nC f c l λb g=>h b (bc _ g);rw[List.flatMap_cons,au,ar,Nat.add_mul]
  lia
def G4 (n:Str)(p:List Nat)(m:D)(bs:List D):(inw n p m bs).length<=bs.length * 3:=by
 have a:=nC (inw1 n p bs.length) 3 (List.range (cntB m bs)) λi _=>by unfold inw1;split <;> simp
 rw[List.length_range]at a;exact aq a (Nat.mul_le_mul_right 3 (zP m bs))
theorem yL:∀(k:Nat) (bs:List D),bs.length+k<=c->(sdn n p fr k bs).length<=k * (c * 3)
 | 0,_,_=>aw _
 | k+1,bs,h=>by
  rw[sdn];split
  ·rename_i m _;have d:=G4 n (p++ones k) m bs;have a:=yL (fr:=fr) (n:=n) (p:=p) (c:=c) k (bs++[m]) (by rw[au,cr];lia);rw[au,Nat.add_mul]
   lia
  ·exact aw _
def K9 (h:(opP n x).length+(opP n y).length<=60):(ssum n z p x y).length<=12000:=by
 unfold ssum;split
 ·simp
 ·split
  ·simp
  ·have d:=yL (n:=n) (p:=p) (fr:=opP n x) (c:=60) (opP n x).length (opP n y) dz;rw[au,rgt,af,List.length_range];have a:(opP n x).length * (60 * 3)<=60 * (60 * 3):=Nat.mul_le_mul_right _ dz
   lia
section
variable {P:eg}{w:eh}{K:d6}{mg:jD}{base:Heap}
def AU:Sp:=λvs H Q _=>∃(d:D) (v:V),vs=[v]/\aH H d v/\Fl d/\nds d<=1000/\depD d<=1000/\∀(l:Addr) (ws:List V) (H':Hp),aA H H'->H l=none->H' l=some (.lst ws)->Reps H' ((plw [] d).map rwD) ws->Q (.ref l) H'
structure Pq (v:V)(fo t:Addr)(d:D)(H:Hp)(n:Nat)(fs ts:List (List Nat×D))(H2:Hp):Prop where
 sa:aA H H2
 ex:∃ws us,H2 fo=some (.lst ws)/\H2 t=some (.lst us)/\Reps H2 (fs.map rwD) ws/\Reps H2 (ts.map rwD) us
 flf:∀r∈fs,Fl r.2
 flt:∀r∈ts,Fl r.2/\r.1.length+depD r.2<=depD d
 eq:fs++ts.reverse.flatMap (λr=>plw r.1 r.2)=plw [] d
 ms:ndss (ts.map (·.2))=n
 le:fs.length+n<=nds d
def XS (v:V)(a t:Addr)(d:D)(H:Hp)(n:Nat)(c:St)(f:Hp):Prop:=∃(fs e:List (List Nat×D)) (o3 o4 o5:Option V),c=[some v,some (.ref a),some (.ref t),o3,o4,o5]/\Pq v a t d H n fs e f
def XT (pa:Addr)(p:List Nat)(q0:Addr)(a:List V)(ds:List D)(H:Hp)(i:Nat)(c:List V)(e:St)(d:Hp):Prop:=∃(g f:Option V),e=[g,f,some (.ref pa)]/\aA H d/\Reps d ((chR p 0 (ds.take i)).map rwD) c/\d q0=some (.tup a)
def JC (F:iE K "placed" mK f fd)(T:Txt mg):iX P w K mg base 1 f fd mK AU:=by
 have hE:=T.n_enumerate;refine F.okL iG λ_ _ _ _ H vs _ _ _ _ h=>?_;obtain⟨d,v,rfl,rep,fl,n1000,d1000,q⟩:=h;refine⟨_,(pss4 (bJ 1 iG.nd (bW gA)) (bJ 2 iG.nd (bW (pa1 (bB (pa2 (bB gA) (pv 0)))))) (jU du (fV K (pv 2)) (pss3 (gU (oO di PySem.F.slot_list_pop PySem.F.type_list_pop oR (pv 2)) (tL rfl (dU (bV (i:=3) iG.nd rfl (Or.inr rfl)) (dU (gV 4 iG.nd) nO)))) (bX (fX di dq dj eU (pv 1) (pa1 (bB (pa2 (pv 3) (pv 4)))))) (bC (cS (fE K T.n_isinstance (pv 4) T.n_str)) (pss2 (mN 5 iG.nd (bD.of iG ["number","part","place"] [none,none,some 3]) (vL rfl hE (pa1 (dM iF (pv 4) (bU aB) cH))) (dL K rfl (i:=0) (j:=1) rfl (cT ["number","part","place"]) rfl rfl rfl rfl) cU (bB (pa2 (aX (bF.or gW) (pv 2) (bB (pa1 (pv 0)))) (pv 1)))) (bX (fX di PySem.F.slot_list_extend PySem.F.type_list_extend jC (pv 2) (pa1 (iJ FO (pv 5) cH cH (bU (iB eY aB))))))) aG))) (aF (pv 1))),?_⟩
 ac_nf
 exists k1;refine⟨szl 0,λL hfo=>k1 ?_⟩;exists k2;obtain⟨H0,l,s0,r0⟩:=nwH (.lst []) hfo;rw[l];refine⟨szl 0,λp1 hp1=>⟨_,rfl,szl 2,λT1 hT1=>⟨szl 1,λt ht=>k2 ?_⟩⟩⟩;exists k3;have s1:aA H0 (upd H0 p1 (.tup [])):=aA.upd hp1;have r1:upd H0 p1 (.tup []) p1=some (.tup (iV [])):=ew;generalize upd H0 p1 (.tup [])=H1 at s1 r1 hT1 ht|-;have s2:aA H1 (upd H1 T1 (.tup [.ref p1,v])):=aA.upd hT1;have r2:upd H1 T1 (.tup [.ref p1,v]) T1=some (.tup [.ref p1,v]):=ew;generalize upd H1 T1 (.tup [.ref p1,v])=H2 at s2 r2 ht|-;obtain⟨H3,l,s3,r3⟩:=nwH (.lst [.ref T1]) ht;rw[l];have O:=(s1.trans s2).trans s3;have sA:=s0.trans O;have htN:H t=none:=by cases e:H t with|none=>rfl|some o=>rw[s2 _ _ (s1 _ _ (s0 _ _ e))]at ht;cases ht
 have nft:L≠t:=λz=>by rw[<-z,s2 _ _ (s1 _ _ r0)]at ht;cases ht
 refine oI (XS v L t d H) (nds d) ⟨[],[([],d)],none,none,none,rfl,⟨sA,⟨[],[.ref T1],O _ _ r0,r3,rfl,⟨_,[],rfl,LM (s3 _ _ r2) (s3 _ _ (s2 _ _ r1)) (aH.same sA rep),rfl⟩⟩,(λ_ h=>nomatch h),(λr h=>by cases cy.mp h;exact⟨fl,by show 0+depD d<=depD d;lia⟩),dV,by simp[ndss],dV⟩⟩ ?_;rintro n σ X ⟨fs,ts,o3,o4,o5,rfl,N⟩ R hT hF;obtain⟨ws,us,h1,h2,rf,rt⟩:=N.ex;have le:=N.le;have lf:=Reps.len rf;rw[af]at lf;rcases List.eq_nil_or_concat ts with rfl|⟨A,r,rfl⟩
 ·cases (show us=[]from rt);refine⟨_,rfl,false,.inl ⟨[],d5.of h2,rfl⟩,hF X (k3 ⟨_,rfl,q L ws X N.sa hfo h1 ?_⟩)⟩;have e:=N.eq;rw[List.reverse_nil,List.flatMap_nil,bu]at e;rw[<-e];exact rf
 ·rw[List.concat_eq_append]at rt N;have e4:=N.eq;have m4:=N.ms;rw[az]at rt m4;obtain⟨c,u,rfl,rt',ru⟩:=eJ rt;obtain⟨T,pa,x,rfl,hTT,hpa,rx⟩:=LL ru;obtain⟨fr,dr⟩:=N.flt r dV;have ft':∀y∈A,Fl y.2/\y.1.length+depD y.2<=depD d:=λy B=>N.flt y (by simp[B]);refine⟨_,rfl,true,.inl ⟨_,d5.of h2,dV⟩,hT X ?_⟩;exists k4;refine⟨_,rfl,tyL h2,t,_,.ref T,rfl,rfl,h2,dV,?_⟩;rw[List.dropLast_concat];have t5:aN X (upd X t (.lst c)):=aN.lst h2;have r5:upd X t (.lst c) t=some (.lst c):=ew;have f5:upd X t (.lst c) L=some (.lst ws):=upk nft h1;have a5:aA H (upd X t (.lst c)):=λb o hb=>upk (aC hb htN) (N.sa _ _ hb);generalize upd X t (.lst c)=H5 at t5 r5 f5 a5|-;refine⟨T,_,rfl,hX.of (t5 _ _ hTT),rfl,_,_,rfl,_,_,rfl,rfl,k4 ?_⟩;exists k5;refine⟨_,rfl,.inl ⟨rfl,_,d5.of f5⟩,_,rfl,_,rfl,szl 2,λU hT6=>?_⟩;obtain⟨H6,l,s6,r6⟩:=nwH (.tup [.ref pa,x]) hT6;rw[l];refine⟨L,ws,.ref U,rfl,rfl,s6 _ _ f5,ltSz,k5 ?_⟩;exists 0,k6;have t7:aN H5 (upd H6 L (.lst (ws++[.ref U]))):=(aN.of s6).trans (aN.lst (s6 _ _ f5));have r7:upd H6 L (.lst (ws++[.ref U])) L=some (.lst (ws++[.ref U])):=ew;have q7:upd H6 L (.lst (ws++[.ref U])) t=some (.lst c):=upk nft.symm (s6 _ _ r5);have a7:aA H (upd H6 L (.lst (ws++[.ref U]))):=λb o hb=>upk (aC hb hfo) (s6 _ _ (a5 _ _ hb));have e7:upd H6 L (.lst (ws++[.ref U])) U=some (.tup [.ref pa,x]):=upk (λz=>by rw[z,s6 _ _ f5]at r6;cases r6) r6;generalize upd H6 L (.lst (ws++[.ref U]))=H7 at t7 r7 q7 a7 e7|-;have I:=t5.trans t7;have ffs:Nls (fs.map rwD):=qQ λy B=>by obtain⟨z,hz,rfl⟩:=da.mp B;exact GL (N.flf z hz)
  have fts:Nls (A.map rwD):=qQ λy B=>by obtain⟨z,hz,rfl⟩:=da.mp B;exact GL (ft' z hz).1
  have rf7:Reps H7 ((fs++[r]).map rwD) (ws++[.ref U]):=by rw[az];exact Reps.snoc (LM e7 (I _ _ hpa) (aH.tups I fr rx)) (Reps.nl I ffs rf)
  have rt7:=Reps.nl I fts rt';have rx7:=aH.tups I fr rx;have pa7:=I _ _ hpa;have S:∀y∈fs++[r],Fl y.2:=λy B=>by
   rcases c4.mp B with m|m
   ·exact N.flf y m
   ·cases cy.mp m;exact fr
  have m5:ndss (A.map (·.2))+nds r.2=n:=by rw[<-m4,dN];simp[ndss]
  rw[List.reverse_append,List.reverse_cons,List.reverse_nil,List.nil_append,List.singleton_append,List.flatMap_cons]at e4;have lfs:(fs++[r]).length=fs.length+1:=by simp
  obtain⟨p,e⟩:=r;dsimp only at fr dr m5 e4 rx7 pa7;rcases nE fr with⟨y,rfl,_⟩|⟨nm,ds,rfl,fds⟩
  ·cases (show x = .str y from rx7);have n1:nds (.str y)=1:=by unfold nds;rfl
   refine⟨_,rfl,.str y,.ty "str",true,rfl,rfl,true,rfl,?_⟩;refine k6 ⟨ndss (A.map (·.2)),dz,fs++[(p,.str y)],A,_,_,_,rfl,a7,⟨_,c,r7,q7,rf7,rt7⟩,S,ft',?_,rfl,dz⟩;rw[<-e4,show plw p (.str y)=[(p,.str y)]by unfold plw;rfl,cu]
  ·obtain⟨va,vs,rfl,hva,_,vs',rfl,e1,rds⟩:=rx7;cases e1;have lr:=Reps.len rds;have nd:nds (.tup (.str nm::ds))=1+ndss ds:=by rw[nds]
   have dd:depD (.tup (.str nm::ds))=depDs ds+1:=by rw[depD,depDs,show depD (.str nm)=0 from rfl];lia
   have lds:=fY ds;refine⟨_,rfl,.ref va,.ty "str",false,rfl,gX hva,false,rfl,els ?_⟩;exists k7;refine⟨_,rfl,(1:Int),rfl,va,_,rfl,.inr hva,λ_ z=>by have:=z.1;simp[HT.sIx]at this,λq0 oq hq0 hoq=>?_⟩;obtain⟨rfl,_⟩:=hoq.resolve_left λz=>by rw[hva]at z;exact nomatch z.2
   rw[iP];obtain⟨H8,l,s8,r8⟩:=nwH (.tup vs') hq0;rw[l];refine⟨q0,vs',rfl,r8,CH (XT pa p q0 vs' ds H8) ⟨_,_,rfl,aA.refl _,rfl,r8⟩ (λi C σ H' ⟨_,_,_,_,_,z⟩=>z) ?_ ?_⟩
   ·rintro i xv Tn C σ H9 hxv ⟨o0,o1,rfl,s9,g,hq9⟩ hTn;have li:=(cx.mp hxv).1;obtain⟨y,B,ry⟩:=Reps.get rds hxv;have la:=Reps.len g;rw[af,zR,bz]at la;obtain⟨H10,l,Q,W⟩:=nwH (.tup [.int (i:Int),xv]) hTn;rw[l];refine⟨Tn,_,rfl,hX.of W,rfl,_,_,rfl,_,_,rfl,rfl,?_⟩;refine⟨_,rfl,_,rfl,szl 1,λp2 hp2=>?_⟩;obtain⟨Y,l,J,r11⟩:=nwH (.tup [.int (i:Int)]) hp2;rw[l];have s811:=(s9.trans Q).trans J;refine .inr ⟨pa,p2,_,_,rfl,rfl,s811 _ _ (s8 _ _ pa7),r11,leSz (by unfold iV;rw[af];simp;lia),λp3 H12 s12 r12=>?_⟩;refine⟨_,rfl,szl 2,λT13 hT13=>⟨ltSz,?_⟩⟩;obtain⟨H13,l,O,r13⟩:=nwH (.tup [.ref p3,xv]) hT13;rw[l];have E:=((Q.trans J).trans s12).trans O;refine⟨_,_,rfl,s9.trans E,?_,E _ _ hq9⟩;rw[aR B,CK,az];refine Reps.snoc (LM r13 ?_ (aH.same ((s8.trans s9).trans E) ry)) (Reps.same E g);rw[O _ _ r12,bz,Nat.min_eq_left dz,Nat.zero_add];unfold iV;rw[az];rfl
   ·rintro C σ H9 ⟨o0,o1,rfl,s9,g,_⟩ w hw;rw[lr,bI]at g;have la:=Reps.len g;rw[af,zR]at la;obtain⟨H10,l,Q,W⟩:=nwH (.lst C) hw;rw[l];have Z:=(s8.trans s9).trans Q;have q10:=Z _ _ q7;refine k7 ⟨_,rfl,.inl ⟨rfl,_,d5.of q10⟩,_,rfl,1,rfl,-1,rfl,rfl,rfl,rfl,w,C,rfl,.inl W,λw2 o2 hw2 ho2=>?_⟩;obtain⟨rfl,_⟩:=ho2.resolve_right λz=>by rw[W]at z;exact nomatch z.2
    obtain⟨Y,l,J,r11⟩:=nwH (.lst C.reverse) hw2;rw[l];have q11:=J _ _ q10;have lt':=Reps.len rt7;rw[af]at lt';have ltn:=fY (A.map (·.2));rw[af]at ltn;have G:=Z.trans J;refine⟨t,w2,c,C.reverse,rfl,rfl,q11,.inl r11,leSz,?_⟩;have t12:aN Y (upd Y t (.lst (c++C.reverse))):=aN.lst q11;have chfl:∀y∈chR p 0 ds,Fl y.2/\y.1.length+depD y.2<=depD d:=λy B=>by obtain⟨c1,c2⟩:=HR B;obtain⟨j,hj⟩:=List.getElem?_of_mem c1;have:=fL hj;exact⟨bQ fds _ c1,dz⟩
    have nch:Nls ((chR p 0 ds).reverse.map rwD):=qQ λy B=>by obtain⟨z,hz,rfl⟩:=da.mp B;exact GL (chfl z (List.mem_reverse.mp hz)).1
    have rch:Reps Y ((chR p 0 ds).reverse.map rwD) C.reverse:=by rw[List.map_reverse];exact Reps.rev (Reps.same (Q.trans J) g)
    have ch2:(chR p 0 ds).map (·.2)=ds:=by
     have:∀(ds:List D) (k:Nat),(chR p k ds).map (·.2)=ds:=λds=>by
      induction ds with
      | nil=>intro _;rfl
      | cons a ds ih=>intro k;rw[chR,bg,ih]
     exact this ds 0
    refine k6 ⟨ndss ((A++(chR p 0 ds).reverse).map (·.2)),?_,fs++[(p,.tup (.str nm::ds))],A++(chR p 0 ds).reverse,_,_,_,rfl,⟨λb o hb=>upk (aC hb htN) (G _ _ (a7 _ _ hb)),⟨_,_,upk nft (G _ _ r7),ew,Reps.nl t12 ?_ (Reps.same G rf7),?_⟩,S,?_,?_,rfl,?_⟩⟩
    ·rw[az,dN,List.map_reverse,ch2,mT];lia
    ·exact qQ λy B=>by obtain⟨z,hz,rfl⟩:=da.mp B;exact GL (S z hz)
    ·rw[az];exact Reps.append (Reps.nl t12 fts (Reps.same G rt7)) (Reps.nl t12 nch rch)
    ·intro y B;rcases c4.mp B with m|m
     ·exact ft' y m
     ·exact chfl y (List.mem_reverse.mp m)
    ·rw[<-e4,List.reverse_append,List.reverse_reverse,List.flatMap_append,show plw p (.tup (.str nm::ds))=(p,.tup (.str nm::ds))::plws p 0 ds by rw[plw],FZ,cu];rfl
    ·rw[az,dN,List.map_reverse,ch2,mT];lia
end
def zE (p q:List Nat):iV (p++q)=iV p++iV q:=az
def mX (p:List Nat):(iV p).length=p.length:=af _
def jT:∀k:Nat,(List.replicate k [V.int 1]).flatten=iV (ones k)
 | 0=>rfl
 | k+1=>by rw[List.replicate_succ,List.flatten_cons,jT k];rfl
def mS (k:Nat):(ones k).length=k:=List.length_replicate
def GJ (H H':Hp):aA (nw H H') H':=λ_ _ e=>(lO.mp e).2
def spInw:Sp:=λvs H Q _=>∃(n:Str) (p:List Nat) (pa b:Addr) (m:D) (mv:V) (bs:List D) (ws:List V),vs=[.str n,.ref pa,mv,.ref b]/\H pa=some (.tup (iV p))/\aH H m mv/\Fl m/\nds m<=1000/\H b=some (.lst ws)/\Reps H bs ws/\(∀e∈bs,Fl e/\nds e<=1000)/\bs.length<=200/\p.length<=1000 /\
 ∀(l:Addr) (us:List V) (H':Hp),aA H H'->H l=none->H' l=some (.lst us)->Reps H' ((inw n p m bs).map stD) us->Q (.ref l) H'
def YF (k:Addr)(m:D)(bs:List D)(H:Hp)(i:Nat)(a:List V)(c:St)(H':Hp):Prop:=∃o:Option V,c=[o,some (.ref k)]/\aA H H'/\a.length=cntB m (bs.take i)
def YD (n:Str)(p:List Nat)(pa b l k:Addr)(d:V)(c e:Nat)(H:Hp)(i:Nat)(a:St)(H':Hp):Prop:=∃(us:List V) (o7 o8:Option V),a=[some (.str n),some (.ref pa),some d,some (.ref b),some (.ref l),some (.ref k),some (.int (c:Int)),o7,o8]/\aA H H'/\H' l=some (.lst us)/\Reps H' (((List.range i).flatMap (inw1 n p e)).map stD) us
def CI (m e:D)(bs:List D):cntB m (bs++[e])=cntB m bs+if lexK (key e) (key m)=true then 1 else 0:=by unfold cntB;rw[List.filter_append,au,List.filter_cons,List.filter_nil];split <;> rfl
def UJ (F:iE K "steps_inward" fH f fd)(T:Txt mg)(d:Ow P w K mg base 2 "order_key" spKey):iX P w K mg base 3 f fd fH spInw:=by
 refine F.okL c5 λ_ _ _ s H _ _ _ hr hu h=>?_;obtain⟨n,p,pa,b,m,mv,bs,ws,rfl,hpa,rm,fm,nm,hb,rbs,all,b200,p1000,q⟩:=h;refine⟨_,(pss5 (bJ 4 c5.nd (bW gA)) (oM (i:=5) c5.nd rfl (Or.inr rfl) (aS d hr (pa1 (pv 2)))) (bJ 6 c5.nd (cW bK T.n_len (pa1 (jX (bD.of c5 ["part","key"] [none,some 5]) (gF K (pv 3)) (bV (i:=0) (cT ["part","key"]) rfl (Or.inl rfl)) (sC (aJ (T3 hu) (aS d hr (pa1 (pv 0))) (pv 1))) (pv 0))))) (iA (jH rfl T.n_range (pa1 (pv 6))) (gV 7 c5.nd) (pss2 (bJ 8 c5.nd (aX (bF.or gW) (pv 1) (aX (mQ.or yU) (bB (pa1 aB)) (pv 7)))) (bC (aJ (eA hu) (pv 7) (aX gC (cW bK T.n_len (pa1 (pv 3))) aB)) (aE (bX (fX di dq dj eU (pv 4) (pa1 (bB (pa3 cI (pv 8) (pv 0))))))) (aE (bX (fX di PySem.F.slot_list_extend PySem.F.type_list_extend jC (pv 4) (pa1 (bW (pa3 (bB (pa3 cI (pv 8) (pv 0))) (bB (pa3 cI (aX (bF.or gW) (pv 8) (bB (pa1 aB))) (pv 0))) (bB (pa3 cI (pv 8) (pv 0)))))))))))) (aF (pv 4))),?_⟩
 ac_nf
 have lw:=Reps.len rbs;exists k1;refine⟨szl 0,λl hl=>k1 ?_⟩;exists k2;obtain⟨H1,g,s1,r1⟩:=nwH (.lst []) hl;rw[g];refine⟨_,rfl,m,mv,rfl,aH.same s1 rm,fm,nm,λk H2 s2 hk rk=>k2 ?_⟩;exists k3;have rk:=aH.same (GJ _ _) rk;have r:=s1.trans s2;refine⟨_,rfl,b,ws,rfl,.inl (r _ _ hb),λJ hJ=>?_⟩;refine cQ hJ (YF k m bs H2) ⟨none,rfl,aA.refl _,rfl⟩ (λi O σ H' _ ⟨_,_,s,_⟩=>by rw[s _ _ (r _ _ hb),r _ _ hb]) ?_ ?_
 ·rintro i x O σ H3 hx ⟨o,rfl,R,S⟩;obtain⟨e,he,re⟩:=Reps.get rbs hx;obtain⟨fe,ne⟩:=all e (bn he);have li:=zP m (bs.take i);rw[bz]at li;refine⟨_,rfl,e,x,rfl,aH.same (r.trans R) re,fe,ne,λk2 H4 W hk2 rk2=>?_⟩;refine⟨_,rfl,key e,key m,aH.same (GJ _ _) rk2,aH.same (R.trans W) rk,_,rfl,aW (λc=>⟨_,rfl,ltSz,?_⟩) (λc=>?_)⟩
  ·exact⟨_,rfl,R.trans W,by rw[aR he,CI,c,aj rfl,au,S];rfl⟩
  ·exact⟨_,rfl,R.trans W,by rw[aR he,CI,c,ab dw,S];rfl⟩
 rintro O σ H3 ⟨o,rfl,R,S⟩ a ha;rw[lw,bI]at S;obtain⟨H4,g,W,r4⟩:=nwH (.lst O) ha;rw[g];have X:=R.trans W;have sA:=r.trans X;have cb:=zP m bs;refine⟨_,_,rfl,(by dsimp only;rw[lenV_l r4,S];rfl),k3 ?_⟩;have hI:inw n p m bs=(List.range (cntB m bs)).flatMap (inw1 n p bs.length):=rfl;generalize cntB m bs=c at cb hI S|-;exists k4;refine⟨_,rfl,(c:Int),rfl,dz,dz,?_⟩;rw[cw];refine oV (YD n p pa b l k mv c bs.length H) ⟨[],none,none,rfl,sA,X _ _ (s2 _ _ r1),rfl⟩ ?_ ?_
 ·rintro i σ H5 hi ⟨us,o7,o8,rfl,s5,l5,ru⟩;rw[Int.zero_add];have lu:=Reps.len ru;have lI:=nC (inw1 n p bs.length) 3 (List.range i) λj _=>by unfold inw1;split <;> simp
  rw[af]at lu;rw[List.length_range]at lI;have snoc:((List.range (i+1)).flatMap (inw1 n p bs.length)).map stD=((List.range i).flatMap (inw1 n p bs.length)).map stD++(inw1 n p bs.length i).map stD:=by rw[List.range_succ,List.flatMap_append,az];simp
  exists k5;refine⟨_,rfl,szl 1,λt1 ht1=>?_⟩;obtain⟨H6,g,s6,r6⟩:=nwH (.tup [.int 1]) ht1;rw[g];refine⟨_,rfl,.inr ⟨t1,i,[.int 1],rfl,rfl,r6,dV,dz,leSz,λt2 H7 s7 r7=>.inr ⟨pa,t2,iV p,_,rfl,rfl,s7 _ _ (s6 _ _ (s5 _ _ hpa)),r7,?_,λt3 H8 s8 r8=>?_⟩⟩⟩
  ·rw[jT,mX,mX,mS];exact leSz
  rw[jT,<-zE]at r8;have L:=(s6.trans s7).trans s8;have U:=L _ _ l5;have G:=s5.trans L;have nl8:l≠t3:=λz=>by rw[z,r8]at U;cases U
  have Z:=Reps.same L ru;exists 0,k5,k6;refine⟨_,rfl,_,rfl,_,_,rfl,(by dsimp only;rw[lenV_l (G _ _ hb),lw];rfl),_,_,rfl,rfl,.int i,.int ((bs.length:Int) - 1),rfl,rfl,aw _,_,rfl,aW (λe=>?_) (λe=>?_)⟩
  ·have e2:i+1=bs.length:=by
    have e:((i:Int) == (bs.length:Int) - 1)=true:=e;have:=eq_of_beq e
    lia
   refine⟨_,rfl,.inl ⟨rfl,_,d5.of U⟩,_,rfl,_,rfl,szl 3,λT9 hT9=>?_⟩;obtain⟨Q,g,I,r9⟩:=nwH (.tup [.str "turn",.ref t3,.str n]) hT9;rw[g];have l9:=I _ _ U;have E:aN Q (upd Q l (.lst (us++[.ref T9]))):=aN.lst l9;refine⟨l,us,.ref T9,rfl,rfl,l9,ltSz,?_⟩;refine k6 ⟨_,_,_,rfl,λz o ez=>upk (aC ez hl) (I _ _ (G _ _ ez)),ew,?_⟩;rw[snoc,show inw1 n p bs.length i=[(("turn" : Str),p++ones i,n)]by unfold inw1;rw[aj e2]];exact Reps.append (Reps.nl E (i5 _) (Reps.same I Z)) ⟨_,[],rfl,pB (E _ _ r9) (E _ _ (I _ _ r8)),rfl⟩
  ·have e2:¬i+1=bs.length:=λz=>by
    have e:((i:Int) == (bs.length:Int) - 1)=false:=e;have:=ne_of_beq_false e
    lia
   refine⟨_,rfl,.inl ⟨rfl,_,d5.of U⟩,_,rfl,_,rfl,szl 3,λA1 hA1=>?_⟩;obtain⟨Q,g,I,rA⟩:=nwH (.tup [.str "left",.ref t3,.str n]) hA1;rw[g];refine⟨_,rfl,szl 1,λt4 ht4=>?_⟩;have N:aA Q (upd Q t4 (.tup [.int 0])):=aA.upd ht4;have r10:upd Q t4 (.tup [.int 0]) t4=some (.tup (iV [0])):=ew;generalize upd Q t4 (.tup [.int 0])=H10 at N r10|-;refine .inr ⟨t3,t4,_,_,rfl,rfl,N _ _ (I _ _ r8),r10,?_,λt5 H11 s11 r11=>?_⟩
   ·rw[mX,mX,au,mS];exact leSz
   rw[<-zE]at r11;refine⟨_,rfl,szl 3,λA2 hA2=>?_⟩;obtain⟨H12,g,r,rB⟩:=nwH (.tup [.str "turn",.ref t5,.str n]) hA2;rw[g];refine⟨_,rfl,_,rfl,szl 3,λA3 hA3=>?_⟩;obtain⟨H13,g,s13,rC⟩:=nwH (.tup [.str "right",.ref t3,.str n]) hA3;rw[g];refine⟨szl 3,λb2 hb2=>?_⟩;obtain⟨H14,g,Y,r14⟩:=nwH (.lst [.ref A1,.ref A2,.ref A3]) hb2;rw[g];have A:=s13.trans Y;have B:=r.trans A;have C:=(N.trans s11).trans B;have u:=I.trans C;have l14:=u _ _ U;have v:aN H14 (upd H14 l (.lst (us++[.ref A1,.ref A2,.ref A3]))):=aN.lst l14;refine⟨l,b2,us,_,rfl,rfl,l14,.inl r14,leSz,?_⟩;refine k6 ⟨_,_,_,rfl,λz o ez=>upk (aC ez hl) (u _ _ (G _ _ ez)),ew,?_⟩;rw[snoc,show inw1 n p bs.length i=[(("left" : Str),p++ones i,n),(("turn" : Str),(p++ones i)++[0],n),(("right" : Str),p++ones i,n)]by unfold inw1;rw[ab e2]];have h3:=v _ _ (u _ _ r8);exact Reps.append (Reps.nl v (i5 _) (Reps.same u Z)) ⟨_,_,rfl,pB (v _ _ (C _ _ rA)) h3,_,_,rfl,pB (v _ _ (A _ _ rB)) (v _ _ (B _ _ r11)),_,_,rfl,pB (v _ _ (Y _ _ rC)) h3,rfl⟩
 ·rintro σ H5 ⟨us,o7,o8,rfl,s5,l5,ru⟩;refine k4 ⟨_,rfl,q l us H5 s5 hl l5 ?_⟩;rw[hI];exact ru
section
variable {P:eg}{w:eh}{K:d6}{mg:jD}{base:Heap}
def spSum:Sp:=λvs H Q _=>∃(n z:Str) (p:List Nat) (pa a:Addr) (x y:D) (ws:List V),vs=[.str n,.str z,.ref pa,.ref a]/\H pa=some (.tup (iV p))/\H a=some (.lst ws)/\Reps H [x,y] ws/\Fl x/\Fl y/\nds x<=1000/\nds y<=1000/\depD x<=60/\depD y<=60/\(opP n x).length+(opP n y).length<=60/\p.length<=500 /\
 ∀(l:Addr) (us:List V) (H':Hp),aA H H'->H l=none->H' l=some (.lst us)->Reps H' ((ssum n z p x y).map stD) us->Q (.ref l) H'
def GI:ndss (opP n d)<=nds d:=by
 unfold opP;split
 ·split
  ·rw[nds];lia
  ·rw[ndss,ndss];lia
 ·rw[ndss,ndss];lia
def MT (h:Fl d):Fls (opP n d):=by
 unfold opP;split
 ·split
  ·unfold Fl at h;exact h
  ·exact⟨h,trivial⟩
 ·exact⟨h,trivial⟩
def XQ (n:Str)(p:List Nat)(pa:Addr)(H:Hp)(i:Nat)(a:List V)(c:St)(H':Hp):Prop:=∃o:Option V,c=[o,some (.str n),some (.ref pa)]/\aA H H'/\Reps H' ((rgt n p i).map stD) a
structure XM (n:Str)(p:List Nat)(fa st ba:Addr)(fr bs:List D)(tot:List S3)(Hs:Hp)(i:Nat)(H':Hp):Prop where
 bt:cZ st Hs H'
 ex:∃us bws dn,H' st=some (.lst us)/\H' ba=some (.lst bws)/\Reps H' bs bws/\Reps H' (dn.map stD) us/\dn++sdn n p fr (fr.length - i) bs=tot
 nb:ba≠st
 al:∀e∈bs,Fl e/\nds e<=1000
 ln:bs.length<=60
def XO (n z:Str)(p:List Nat)(pa a:Addr)(h g:V)(d st:Addr)(fr ys:List D)(c:List S3)(Hs:Hp)(i:Nat)(f:St)(H':Hp):Prop:=∃(e:Addr) (bs:List D) (o9:Option V),f=[some (.str n),some (.str z),some (.ref pa),some (.ref a),some h,some g,some (.ref d),some (.ref e),some (.ref st),o9]/\XM n p d st e fr bs c Hs i H'/\bs.length=ys.length+i
def LV (n:Str)(p:List Nat)(i:Nat):rgt n p (i+1)=rgt n p i++[(("right" : Str),p++ones i,n)]:=by unfold rgt;rw[List.range_succ,az];rfl
def QS (F:iE K "steps_of_sum" fG f fd)(T:Txt mg)(r:Ow P w K mg base 1 "opened" qK)(d:Ow P w K mg base 3 "steps_inward" spInw):iX P w K mg base 4 f fd fG spSum:=by
 refine F.okL cR λ_ _ _ _ H _ _ _ hr hu h=>?_;obtain⟨n,z,p,pa,a,x,y,ws,rfl,Y,ha,⟨v1,r1,e1,rx,v2,r2,e2,ry,e3⟩,fx,fy,nx,ny,dx,dy,l60,p500,q⟩:=h;subst e1 e2;cases (show r2=[]from e3);refine⟨_,(pss8 (gU (pv 3) (L7 (i:=4) (j:=5) rfl cR.nd rfl rfl rfl rfl)) (bC (aJ (eA hu) (pv 5) (pv 1)) (aE (aF (bW (pa1 (bB (pa3 cI (pv 2) (pv 0))))))) aG) (bC (aJ (eA hu) (pv 4) (pv 1)) (aE (aF (bW (pa2 (bB (pa3 cI (pv 2) (pv 0))) (bB (pa3 cI (pv 2) (pv 0))))))) aG) (bJ 6 cR.nd (aS r hr (pa2 (pv 0) (pv 4)))) (bJ 7 cR.nd (aS r hr (pa2 (pv 0) (pv 5)))) (mN 8 cR.nd (bD.of cR ["number","name","place"] [none,some 0,some 2]) (jH rfl T.n_range (pa1 (aX gC (cW bK T.n_len (pa1 (pv 6))) aB))) (bV (i:=0) (cT ["number","name","place"]) rfl (Or.inl rfl)) cU (bB (pa3 cI (aX (bF.or gW) (pv 2) (aX (mQ.or yU) (bB (pa1 aB)) (pv 0))) (pv 1)))) (iA (P2 rfl T.n_reversed rfl T.n_range (pa1 (cW bK T.n_len (pa1 (pv 6))))) (gV 9 cR.nd) (pss2 (bX (fX di PySem.F.slot_list_extend PySem.F.type_list_extend jC (pv 8) (pa1 (aS d hr (pa4 (pv 0) (aX (bF.or gW) (pv 2) (aX (mQ.or yU) (bB (pa1 aB)) (pv 9))) (aV (pv 6) (pv 9)) (pv 7)))))) (bJ 7 cR.nd (aX (bF.or gW) (pv 7) (bW (pa1 (aV (pv 6) (pv 9)))))))) (aF (pv 8))),?_⟩
 ac_nf
 exists k1;refine⟨_,rfl,a,_,rfl,.inl ha,rfl,_,_,rfl,_,_,rfl,rfl,k1 (aD ?_)⟩;intro _ _ _ k2 e2 _;refine⟨_,rfl,_,rfl,y,.str z,ry,rfl,dy,_,rfl,aW (λc=>?_) (λc=>k2 (aD ?_))⟩
 ·refine⟨_,rfl,_,rfl,szl 3,λT1 hT1=>⟨szl 1,λl hl=>?_⟩⟩;have Q:aA H (upd H T1 (.tup [.str "drop",.ref pa,.str n])):=aA.upd hT1;have r1:upd H T1 (.tup [.str "drop",.ref pa,.str n]) T1=some (.tup [.str "drop",.ref pa,.str n]):=ew;generalize upd H T1 (.tup [.str "drop",.ref pa,.str n])=H1 at Q r1 hl|-;have s2:aA H1 (upd H1 l (.lst [.ref T1])):=aA.upd hl;refine h9 e2 (q l _ _ (Q.trans s2) (by cases e:H l with|none=>rfl|some o=>rw[Q _ _ e]at hl;cases hl) ew ?_);rw[show ssum n z p x y=[(("drop" : Str),p,n)]by unfold ssum;rw[aj c]];exact⟨_,_,rfl,pB (s2 _ _ r1) (s2 _ _ (Q _ _ Y)),rfl⟩
 intro _ _ _ k3 e3 _;refine⟨_,rfl,_,rfl,x,.str z,rx,rfl,dx,_,rfl,aW (λc2=>?_) (λc2=>k3 ?_)⟩
 ·refine⟨_,rfl,_,rfl,szl 3,λT1 hT1=>?_⟩;obtain⟨H1,J,Q,r1⟩:=nwH (.tup [.str "turn",.ref pa,.str n]) hT1;rw[J];refine⟨_,rfl,_,rfl,szl 3,λT2 hT2=>⟨szl 2,λl hl=>?_⟩⟩;have s2:aA H1 (upd H1 T2 (.tup [.str "drop",.ref pa,.str n])):=aA.upd hT2;have r2:upd H1 T2 (.tup [.str "drop",.ref pa,.str n]) T2=some (.tup [.str "drop",.ref pa,.str n]):=ew;generalize upd H1 T2 (.tup [.str "drop",.ref pa,.str n])=H2 at s2 r2 hl|-;have I:aA H2 (upd H2 l (.lst [.ref T1,.ref T2])):=aA.upd hl;have O:=Q.trans s2;refine h9 e3 (q l _ _ (O.trans I) (by cases e:H l with|none=>rfl|some o=>rw[O _ _ e]at hl;cases hl) ew ?_);rw[show ssum n z p x y=[(("turn" : Str),p,n),(("drop" : Str),p,n)]by unfold ssum;rw[c,ab dw,aj c2]];have hp3:=I _ _ (O _ _ Y);exact⟨_,_,rfl,pB (I _ _ (s2 _ _ r1)) hp3,_,_,rfl,pB (I _ _ r2) hp3,rfl⟩
 have eS:ssum n z p x y=rgt n p ((opP n x).length - 1)++sdn n p (opP n x) (opP n x).length (opP n y):=by unfold ssum;rw[c,ab dw,c2,ab dw]
 rw[eS]at q;have ffr:Fls (opP n x):=MT fx;have fys:Fls (opP n y):=MT fy;have nfr:∀e∈opP n x,nds e<=1000:=λe R=>aq (pR R) (aq GI nx);have nys:∀e∈opP n y,nds e<=1000:=λe R=>aq (pR R) (aq GI ny);exists k4;refine⟨_,rfl,_,rfl,n,x,v1,rfl,rx,fx,λfa fws H1 Q hfa h1 U=>k4 ?_⟩;exists k5;refine⟨_,rfl,_,rfl,n,y,v2,rfl,aH.same Q ry,fy,λba A H2 s2 hba h2 S=>k5 ?_⟩;exists k6;have h1':=s2 _ _ h1;have U:=Reps.same (Q.trans s2) U;have S:=Reps.same s2 S;have lf:=Reps.len U;have lb:=Reps.len S;have nfb:fa≠ba:=λe=>by rw[e,hba]at h1;cases h1
 have sA:=Q.trans s2;generalize opP n x=fr at *;generalize opP n y=ys at *;refine⟨_,rfl,_,_,rfl,(by dsimp only;rw[lenV_l h1',lf];rfl),_,_,rfl,rfl,((fr.length:Int) - 1),rfl,dz,dz,?_⟩;rw[show((fr.length:Int) - 1).toNat=fr.length - 1 by lia];refine nG (XQ n p pa H2) ⟨none,rfl,aA.refl _,rfl⟩ ?_ ?_
 ·rintro i acc σ H3 hi ⟨o,rfl,I,u⟩;have la:=Reps.len u;rw[af,rgt,af,List.length_range]at la;rw[Int.zero_add];refine⟨_,rfl,szl 1,λt1 ht1=>?_⟩;obtain⟨H6,J,s6,r6⟩:=nwH (.tup [.int 1]) ht1;rw[J];refine⟨_,rfl,.inr ⟨t1,i,[.int 1],rfl,rfl,r6,dV,dz,leSz,λt2 H7 s7 r7=>.inr ⟨pa,t2,iV p,_,rfl,rfl,s7 _ _ (s6 _ _ (I _ _ (sA _ _ Y))),r7,?_,λt3 H8 s8 r8=>?_⟩⟩⟩
  ·rw[jT,mX,mX,mS];exact leSz
  rw[jT,<-zE]at r8;refine⟨_,rfl,szl 3,λT9 hT9=>⟨ltSz,?_⟩⟩;obtain⟨H9,J,s9,r9⟩:=nwH (.tup [.str "right",.ref t3,.str n]) hT9;rw[J];have s39:=((s6.trans s7).trans s8).trans s9;refine⟨_,rfl,I.trans s39,?_⟩;rw[LV,az];exact Reps.append (Reps.same s39 u) ⟨_,[],rfl,pB r9 (s9 _ _ r8),rfl⟩
 rintro acc σ H3 ⟨o,rfl,I,u⟩ st B;have la:=Reps.len u;rw[af,rgt,af,List.length_range]at la;obtain⟨H4,J,s4,r4⟩:=nwH (.lst acc) B;rw[J];have E:=I.trans s4;have hfr4:=E _ _ h1';have hstH:H st=none:=by cases e:H st with|none=>rfl|some o=>rw[I _ _ (sA _ _ e)]at B;cases B
 have nfs:fa≠st:=λe=>by rw[<-e,I _ _ h1']at B;cases B
 have nbs:ba≠st:=λe=>by rw[<-e,I _ _ h2]at B;cases B
 have rfr4:=Reps.same E U;exists k6,k7;refine⟨_,rfl,_,_,rfl,(by dsimp only;rw[lenV_l hfr4,lf];rfl),fr.length,rfl,dz,?_⟩;refine JX (XO n z p pa a v1 v2 fa st fr ys (rgt n p (fr.length - 1)++sdn n p fr fr.length ys) H4) ⟨ba,ys,none,rfl,⟨cZ.refl _ _,⟨acc,A,_,r4,E _ _ h2,Reps.same E S,Reps.same s4 u,rfl⟩,nbs,λe R=>⟨bQ fys e R,nys e R⟩,dz⟩,rfl⟩ ?_ ?_
 ·rintro i σ H5 hi ⟨ba,bs,o9,rfl,G,lbs⟩;obtain⟨us,A,dn,C,hb5,X,W,eq⟩:=G.ex;have lu:=Reps.len W;rw[af]at lu;have hfr5:=G.bt _ _ nfs hfr4;have t45:aN H4 H5:=λb xs e=>G.bt b _ (λw=>by rw[w,r4]at e;cases e) e;have rfr5:=Reps.tups t45 ffr rfr4;have hk:fr.length - 1 - i<fr.length:=by lia
  obtain⟨mv,hmv⟩:∃v,fws[fr.length - 1 - i]?=some v:=⟨_,ay dz⟩
  obtain⟨m,hm,rm⟩:=Reps.get rfr5 hmv;have fm:=bQ ffr m (bn hm);have nm:=nfr m (bn hm);rw[show fr.length - i=(fr.length - 1 - i)+1 by lia,sdn,hm]at eq;dsimp only at eq;have e1:fr.length - (i+1)=fr.length - 1 - i:=by lia
  generalize fr.length - 1 - i=k at hk hmv hm eq e1|-;have p5:=t45 _ _ ((sA.trans E) _ _ Y);exists k8;refine⟨_,rfl,.inl ⟨rfl,_,d5.of C⟩,_,rfl,_,rfl,szl 1,λt1 ht1=>?_⟩;obtain⟨H6,J,s6,r6⟩:=nwH (.tup [.int 1]) ht1;rw[J];refine⟨_,rfl,.inr ⟨t1,k,[.int 1],rfl,rfl,r6,dV,dz,leSz,λt2 H7 s7 r7=>.inr ⟨pa,t2,iV p,_,rfl,rfl,s7 _ _ (s6 _ _ p5),r7,?_,λt3 H8 s8 r8=>?_⟩⟩⟩
  ·rw[jT,mX,mX,mS];exact leSz
  rw[jT,<-zE]at r8;have N:=(s6.trans s7).trans s8;have hfr8:=N _ _ hfr5;refine⟨_,rfl,_,rfl,mv,by rw[ixV_l hfr8];exact lU hmv,_,rfl,n,p++ones k,t3,ba,m,mv,bs,A,rfl,r8,aH.same N rm,fm,nm,N _ _ hb5,Reps.same N X,G.al,by have:=G.ln;lia,by rw[au,mS];lia,λl zs H9 s9 hl r9 rz=>?_⟩;have s59:=N.trans s9;have lz:=Reps.len rz;have li:=G4 n (p++ones k) m bs;rw[af]at lz;have q5:=G.ln;have st9:=s59 _ _ C;have lus:us.length<=11000:=by
   have h1:dn.length<=(rgt n p (fr.length - 1)++sdn n p fr fr.length ys).length:=by rw[<-eq,au];lia
   have h2:=yL (n:=n) (p:=p) (fr:=fr) (c:=60) fr.length ys dz;have h3:fr.length * (60 * 3)<=60 * (60 * 3):=Nat.mul_le_mul_right _ dz;rw[au,rgt,af,List.length_range]at h1
   lia
  refine⟨st,l,us,zs,rfl,rfl,st9,.inl r9,leSz,?_⟩;have t10:aN H9 (upd H9 st (.lst (us++zs))):=aN.lst st9;have Z:cZ st H5 (upd H9 st (.lst (us++zs))):=λb o nb e=>upk nb (s59 _ _ e);have r10:upd H9 st (.lst (us++zs)) st=some (.lst (us++zs)):=ew;generalize upd H9 st (.lst (us++zs))=H10 at t10 Z r10|-;have L:aN H5 H10:=λb xs e=>t10 _ _ (s59 _ _ e);have hb10:=Z _ _ G.nb hb5;have rbs10:=Reps.tups L (fB λe R=>(G.al e R).1) X;have rst10:Reps H10 ((dn++inw n (p++ones k) m bs).map stD) (us++zs):=by rw[az];exact Reps.append (Reps.nl L (i5 _) W) (Reps.nl t10 (i5 _) rz)
  have rm10:=aH.tups L fm rm;exists 0,k8,k9;refine⟨_,rfl,_,rfl,_,rfl,mv,by rw[ixV_l (Z _ _ nfs hfr5)];exact lU hmv,szl 1,λl2 hl2=>?_⟩;obtain⟨H11,J,s11,r11⟩:=nwH (.lst [mv]) hl2;rw[J];have lbw:=Reps.len X;refine .inl (.inr ⟨_,n5 (s11 _ _ hb10) r11 (leSz),λb2 hb2=>?_⟩);have O:aA H11 (upd H11 b2 (.lst (A++[mv]))):=aA.upd hb2;have r12:upd H11 b2 (.lst (A++[mv])) b2=some (.lst (A++[mv])):=ew;have g:=s11.trans O;refine k9 ⟨b2,bs++[m],_,rfl,⟨G.bt.trans (Z.trans g.but),⟨us++zs,A++[mv],_,g _ _ r10,r12,Reps.snoc (aH.same g rm10) (Reps.same g rbs10),Reps.same g rst10,?_⟩,(λe=>by rw[e,s11 _ _ r10]at hb2;cases hb2),λe R=>?_,by rw[au,cr];lia⟩,by rw[au,lbs];rfl⟩
  ·rw[e1,cu];exact eq
  ·rcases c4.mp R with w|w
   ·exact G.al e w
   ·cases cy.mp w;exact⟨fm,nm⟩
 ·rintro σ H5 ⟨ba,bs,o9,rfl,G,_⟩;obtain⟨us,A,dn,C,hb5,X,W,eq⟩:=G.ex;rw[Nat.sub_self,sdn,bu]at eq;refine k7 ⟨_,rfl,q st us H5 (λb o e=>G.bt _ _ (aC e hstH) ((sA.trans E) _ _ e)) hstH C ?_⟩;rw[<-eq];exact W
mutual
theorem MF:∀{d:D},Pd sm d->∀x∈wlk d,Pd sm x
 | .str y,h,x,a=>by unfold wlk at a;rw[cy.mp a];exact h
 | .tup (.str n::ds),h,x,a=>by
  rw[wlk]at a;obtain rfl|a:=cz.mp a
  ·exact h
  ·unfold Pd at h;exact F6 h.2 x a
 | .non,h,_,_ | .bl _,h,_,_ | .int _,h,_,_ | .lst _,h,_,_ | .tup [],h,_,_ | .tup (.non::_),h,_,_ | .tup (.bl _::_),h,_,_ | .tup (.int _::_),h,_,_ | .tup (.tup _::_),h,_,_ | .tup (.lst _::_),h,_,_=>by unfold Pd at h;exact h.elim
theorem F6:∀{ds:List D},Pds sm ds->∀x∈wlks ds,Pd sm x
 | d::ds,⟨a,b⟩,x,c=>by
  rw[wlks]at c;rcases c4.mp c with m|m
  ·exact MF a x m
  ·exact F6 b x m
end
def MR:(opP n d).length<=sz d:=by
 unfold opP;split
 ·rename_i m es;split
  ·have:=rY es;rw[sz];lia
  ·exact DF _
 ·exact DF _
def wS (h:zr sm n=none)(p:List Nat)(ds:List D):nodeS sm (p,.tup (.str n::ds))=[]:=by
 unfold nodeS;split
 ·rename_i m x y e;cases e;rw[h]
 ·rfl
def K2 (a b:Addr)(H H':Hp):Prop:=∀c o,c≠a->c≠b->H c=some o->H' c=some o
def K2.trans (h:K2 a b H H1)(k:K2 a b H1 H2):K2 a b H H2:=λc o n1 n2 e=>k c o n1 n2 (h c o n1 n2 e)
def K2.tups (h:K2 a b H H')(f:H a=some (.lst xs))(d:H b=some (.lst ys)):aN H H':=λc g e=>h c _ (λz=>by rw[z,f]at e;cases e) (λz=>by rw[z,d]at e;cases e) e
def K2.lt (h:K2 a b H H')(m:H a=some (.lst xs))(j:H b=some (.lst ys))(l:O0 Pp H):O0 Pp H':=by
 have k:∀c o,(∀g,o≠.lst g)->H c=some o->H' c=some o:=λc o n e=>h c o (λz=>by rw[z,m]at e;cases e;exact n _ rfl) (λz=>by rw[z,j]at e;cases e;exact n _ rfl) e;rcases l with l|⟨c',f,d,i,u,r,q⟩
 ·exact .inl (k _ _ (λ_ z=>nomatch z) l)
 ·exact .inr ⟨c',f,d,i,k _ _ (λ_ z=>nomatch z) u,k _ _ (λ_ z=>nomatch z) r,q⟩
def spLed (K:d6)(C Pp:Addr):Sp:=λvs H Q _=>∃(g:Addr) (fx:cV) (sm:bL) (os:bA) (d:D) (v:V),vs=[.ref g,v]/\iK K C fx sm H g/\aH H d v/\zX fx sm os d/\lvs d+depD d<=51/\nds d+lvs d<=600/\O0 Pp H /\
 ∀(T l:Addr) (us:List V) (u:V) (H':Hp),cZ Pp H H'->O0 Pp H'->H l=none->H' T=some (.tup [.ref l,u])->H' l=some (.lst us)->us.length<=7200000->Reps H' ((ledS sm (prD sm d)).map stD) us->aH H' (flt sm d) u->Q (.ref T) H'
structure X5 (sm:bL)(st md l Pp:Addr)(W:List (List Nat×D))(ws:List V)(H Hs:Hp)(i:Nat)(H3:Hp):Prop where
 k2:K2 st md Hs H3
 bp:cZ Pp H H3
 hl:H3 l=some (.lst ws)
 ex:∃us mus,H3 st=some (.lst us)/\H3 md=some (.lst mus)/\us.length<=i * 12000/\Reps H3 (((W.drop (W.length - i)).reverse.flatMap (nodeS sm)).map stD) us/\Reps H3 (flts sm (stk ((W.drop (W.length - i)).map (·.2)))).reverse mus
def X7 (g:Addr)(v:V)(sm:bL)(st a l Pp:Addr)(W:List (List Nat×D))(ws:List V)(H Hs:Hp)(i:Nat)(c:St)(j:Hp):Prop:=∃(h f e d:Option V),c=[some (.ref g),some v,some (.ref st),some (.ref a),h,f,e,d]/\X5 sm st a l Pp W ws H Hs i j
def X8 (d p st l:Addr)(o:HO)(us ws:List V)(fs:List D)(Hs:Hp)(j:Nat)(e:List V)(f:St)(c:Hp):Prop:=∃(a:List V) (o0:Option V),f=[o0,some (.ref d)]/\c d=some (.lst a)/\K2 d d Hs c/\c p=some o/\Reps c (fs.drop j).reverse a/\Reps c (fs.take j) e
def UF (F:iE K "led_to_flat" fR f fd)(T:Txt mg)(N:uV P w K mg base lY 1 C "nought" (kM K C))(O_paired:Ow P w K mg base 9 "paired" (sZ K C Pp))(O_placed:Ow P w K mg base 1 "placed" AU)(B:Ow P w K mg base 6 "flat_of_parts" (wI K C))(G:Ow P w K mg base 4 "steps_of_sum" spSum):iX P w K mg base 10 f fd fR (spLed K C Pp):=by
 refine F.okL dH λ_ _ _ _ H vs _ _ hr _ h=>?_;obtain⟨g,fx,sm,os,d,v,rfl,sg,rep,tr,b51,n600,lt,q⟩:=h;refine⟨_,(pss4 (bJ 2 dH.nd (bW gA)) (oM (i:=3) dH.nd rfl (Or.inr rfl) (bW gA)) (iA (lJ K rfl rfl T.n_reversed (pa1 (aS O_placed hr (pa1 (aS O_paired hr (pa2 (pv 0) (pv 1))))))) (dL K rfl (i:=4) (j:=5) rfl dH.nd rfl rfl rfl rfl) (aE (bC (fE K T.n_isinstance (pv 5) T.n_str) (aE (bX (fX di dq dj eU (pv 3) (pa1 (pv 5))))) (pss4 (bJ 6 dH.nd (aV (pv 5) aB)) (mN 7 dH.nd (bD.of dH ["part","made"] [none,some 3]) (gF K (dM iF (pv 5) (bU aB) cH)) (bV (i:=0) (cT ["part","made"]) rfl (Or.inl rfl)) cU (F4 K rfl di PySem.F.slot_list_pop PySem.F.type_list_pop oR (pv 1))) (bX (fX di dq dj eU (pv 3) (pa1 (aS B hr (pa3 (pv 0) (pv 6) (pv 7)))))) (bC (aJ yV (oN N (hr.mono dw) pass0 (pv 0) (pa1 (pv 6))) eZ) (aE (bX (fX di PySem.F.slot_list_extend PySem.F.type_list_extend jC (pv 2) (pa1 (aS G hr (pa4 (pv 6) (oN N (hr.mono dw) pass0 (pv 0) (pa1 (pv 6))) (pv 4) (pv 7))))))) aG))))) (aF (bB (pa2 (pv 2) (aV (pv 3) aB))))),?_⟩
 ac_nf
 have pq:=yO tr.so tr.ho tr.tm;have pd:=R9 tr.so tr.tm;obtain⟨tm0,esz⟩:=kJ tr.so tr.ho pq.tm;have hz:=cX tr.so;have fl0:Fl (prD sm d):=DP (kJ tr.so tr.ho tr.tm).1;have q1:=pq.lv;have q2:=pq.nd;have q3:=pq.dp;have q4:=pq.fl;have lv50:=tr.lv;exists k1;refine⟨szl 0,λst hst=>k1 ?_⟩;exists k2;refine⟨szl 0,λE hmd=>k2 ?_⟩;exists k3;have hst0:=hst;have s1:aA H (upd H st (.lst [])):=aA.upd hst;have r1:upd H st (.lst []) st=some (.lst []):=ew;generalize upd H st (.lst [])=H1 at s1 r1 hmd|-;obtain⟨H2,zN,s2,r2⟩:=nwH (.lst []) hmd;rw[zN];have s12:=s1.trans s2;have mdH:H E=none:=by cases e:H E with|none=>rfl|some o=>rw[s1 _ _ e]at hmd;cases hmd
 have nsm:st≠E:=λz=>by rw[<-z,r1]at hmd;cases hmd
 have lt2:=lt.same s12;refine⟨_,rfl,_,rfl,g,fx,sm,os,d,v,rfl,sg.same s12,aH.same s12 rep,tr,lt2,λpv H3 b3 lt3 rp=>?_⟩;have r3:=b3 _ _ (lt2.ne (s2 _ _ r1) λ_=>by simp) (s2 _ _ r1);have r3':=b3 _ _ (lt2.ne r2 λ_=>by simp) r2;have bH3:cZ Pp H H3:=s12.but.trans b3;generalize prD sm d=e0 at *;refine⟨e0,pv,rfl,rp,fl0,dz,dz,λl ws H4 s4 hl r4 rws=>⟨l,ws,rfl,r4,?_⟩⟩;have bH4:cZ Pp H H4:=bH3.trans s4.but;have lt4:=lt3.same s4;have st4:=s4 _ _ r3;have md4:=s4 _ _ r3';have hW:(plw [] e0).map (·.2)=wlk e0:=F0 fl0 [];have wdep:∀r∈plw [] e0,r.1.length+depD r.2<=depD e0:=λr hr=>by have:=F2 e0 [] r hr;rw[List.length_nil]at this;lia
 have hL:ledS sm e0=(plw [] e0).reverse.flatMap (nodeS sm):=rfl;rw[hL]at q;clear hL;generalize plw [] e0=W at hW wdep rws q;have lw:=Reps.len rws;rw[af]at lw;have lk:=oX e0;rw[<-hW,af]at lk;have nlst:l≠st:=λz=>by rw[z,r3]at hl;cases hl
 have nlmd:l≠E:=λz=>by rw[z,r3']at hl;cases hl
 refine B4 ws (X7 g v sm st E l Pp W ws H H4) ⟨_,_,_,_,rfl,⟨λ_ _ _ _ e=>e,bH4,r4,⟨[],[],st4,md4,aw _,by rw[Nat.sub_zero,List.drop_length];rfl,by rw[Nat.sub_zero,List.drop_length];rfl⟩⟩⟩ (λi σ H' _ ⟨_,_,_,_,_,Q3⟩=>Q3.hl) ?_ ?_
 ·rintro i x σ H5 hi hx ⟨o4,o5,o6,o7,rfl,Q5⟩;obtain⟨us,mus,hst5,L,lus,rus,A⟩:=Q5.ex;have t45:=Q5.k2.tups st4 md4;obtain⟨rd,hrd,rx⟩:=Reps.get rws hx;rw[cf]at hrd;obtain⟨r,hr,rfl⟩:=Option.map_eq_some_iff.mp hrd;rw[lw]at hi hr;have hrW:=bn hr;have hin:r.2∈wlk e0:=by rw[<-hW];exact da.mpr ⟨r,hrW,rfl⟩
  have sub:=pA tm0 r.2 hin;have pdr:=MF pd r.2 hin;have dpr:=wdep r hrW;have Q:W.drop (W.length - (i+1))=r::W.drop (W.length - i):=by have e1:W[W.length - 1 - i]' dz=r:=(cx.mp hr).2;rw[show W.length - (i+1)=W.length - 1 - i by lia,List.drop_eq_getElem_cons dz,e1,show W.length - 1 - i+1=W.length - i by lia]
  have hsplit:wlk e0=(W.take (W.length - (i+1))).map (·.2)++r.2::(W.drop (W.length - i)).map (·.2):=by rw[<-hW,<-bg,<-Q,<-az,List.take_append_drop]
  obtain⟨rest,O⟩:=qE (qH tm0) hsplit;have inS:∀y∈(W.drop (W.length - i)).map (·.2),y∈wlk e0:=λy hy=>by obtain⟨z,hz1,rfl⟩:=da.mp hy;rw[<-hW];exact da.mpr ⟨z,List.mem_of_mem_drop hz1,rfl⟩
  have lS:((W.drop (W.length - i)).map (·.2)).length<=1000:=by rw[af,bS];lia
  have hS:((W.drop (W.length - (i+1))).map (·.2))=r.2::(W.drop (W.length - i)).map (·.2):=by rw[Q,bg]
  have hN:(W.drop (W.length - (i+1))).reverse.flatMap (nodeS sm)=(W.drop (W.length - i)).reverse.flatMap (nodeS sm)++nodeS sm r:=by rw[Q,List.reverse_cons,List.flatMap_append];simp
  generalize (W.drop (W.length - i)).reverse.flatMap (nodeS sm)=don at rus hN;generalize (W.drop (W.length - i)).map (·.2)=S at O inS lS hS A;clear Q hsplit hrd;have flS:Fls (flts sm (stk S)):=fB λy hy=>by rw[cF]at hy;obtain⟨z,hz1,rfl⟩:=da.mp hy;exact(nB hz (pA tm0 z (inS z (yC hz1))).tm).1
  have lu:=Reps.len A;rw[List.length_reverse,cF,af]at lu;have ls:(stk S).length<=1000:=aq (yD S) lS;obtain⟨T1,pa,u,rfl,hT1,hpa,ru⟩:=LL rx;have fr:=EN fl0 r.2 hin;refine⟨T1,_,rfl,hX.of (t45 _ _ hT1),rfl,_,_,rfl,_,_,rfl,rfl,?_⟩;have ru5:=aH.tups t45 fr ru;have pa5:=t45 _ _ hpa;obtain⟨p,e⟩:=r;dsimp only at sub pdr dpr fr ru5 pa5 hS O;rcases nE fr with⟨y,rfl,_⟩|⟨n,ds,rfl,fds⟩
  ·cases (show u = .str y from ru5);refine⟨_,rfl,.str y,.ty "str",true,rfl,rfl,true,rfl,?_⟩;refine⟨_,rfl,.inl ⟨rfl,_,d5.of L⟩,_,rfl,E,mus,.str y,rfl,rfl,L,ltSz,?_⟩;have tt:aN H5 (upd H5 E (.lst (mus++[.str y]))):=aN.lst L;refine⟨_,_,_,_,rfl,⟨λb o n1 n2 m=>upk n2 (Q5.k2 b o n1 n2 m),λb o nb m=>upk (aC m mdH) (Q5.bp b o nb m),upk nlmd Q5.hl,us,_,upk nsm hst5,ew,dz,?_,?_⟩⟩
   ·rw[hN,show nodeS sm (p,.str y)=[]from rfl,bu];exact Reps.nl tt (i5 _) rus
   ·rw[hS,stk,show(pts (.str y)).length=0 from rfl,List.drop_zero,flts,List.reverse_cons];exact Reps.snoc (by unfold flt;rfl) (Reps.tups tt (lQ flS) A)
  ·obtain⟨va,vs,rfl,hva,_,U,rfl,e1,rds⟩:=ru5;cases e1;have lv:=Reps.len rds;have hfe:flt sm (.tup (.str n::ds))=knot sm n (flts sm ds):=by rw[flt]
   have hsz:sz (.tup (.str n::ds))=max 1 (szs ds):=by rw[sz]
   have hnd:nds (.tup (.str n::ds))=1+ndss ds:=by rw[nds]
   have hdp:depD (.tup (.str n::ds))=depDs ds+1:=by rw[depD,depDs,show depD (.str n)=0 from rfl];lia
   have c1:=sub.sz;have c2:=sub.nd;have c3:=sub.dp;have tms:Tms ds:=by have:=sub.tm;unfold Tm at this;exact this.2
   have b1:=p0 sm ds;have b2:=mZ sm ds;have b3:=nA sm ds;have fld:Fls (flts sm ds):=zH hz tms;rw[show pts (.tup (.str n::ds))=ds from rfl]at O;have hst:stk S=ds++stk rest:=by rw[O,mC (mB tms)]
   have hfs:flts sm (stk S)=flts sm ds++flts sm (stk rest):=by rw[hst,cF,az,<-cF,<-cF]
   have lds:(flts sm ds).length=ds.length:=by rw[cF,af]
   have lfs:(flts sm (stk S)).length<=1000:=by rw[cF,af];exact ls
   refine⟨_,rfl,.ref va,.ty "str",false,rfl,gX hva,false,rfl,els ?_⟩;exists k4;refine⟨_,rfl,.str n,by rw[ixV_t hva,atI_zero],k4 ?_⟩;exists k5;refine⟨_,rfl,(1:Int),rfl,va,_,rfl,.inr hva,λ_ z=>by have:=z.1;simp[HT.sIx]at this,λp5 o hp5 ho=>?_⟩;obtain⟨rfl,_⟩:=ho.resolve_left λz=>by rw[hva]at z;exact nomatch z.2
   rw[iP];refine⟨p5,U,rfl,.inr ew,λJ hJ=>?_⟩;have R:aA H5 (upd H5 p5 (.tup U)):=aA.upd hp5;have r6:upd H5 p5 (.tup U) p5=some (.tup U):=ew;generalize upd H5 p5 (.tup U)=H6 at R r6 hJ|-;have md6:=R _ _ L;have nmp:E≠p5:=λz=>by rw[<-z,md6]at r6;cases r6
   refine cQ hJ (X8 E p5 st l (.tup U) us ws (flts sm (stk S)) H6) ⟨mus,none,rfl,md6,λ_ _ _ _ e=>e,r6,by rw[List.drop_zero];exact Reps.same R A,rfl⟩ (λj acc σ H' _ ⟨_,_,_,_,_,h,_⟩=>by rw[h,r6]) ?_ ?_
   ·rintro j y acc σ H7 hy ⟨mu,o0,rfl,h7,k7,hp7,r7,I⟩;have hj:j<ds.length:=by have:=(cx.mp hy).1;lia
    have hj2:j<(flts sm (stk S)).length:=by rw[hfs,au];lia
    rw[List.drop_eq_getElem_cons hj2,List.reverse_cons]at r7;obtain⟨mu6,um,rfl,r6',ru6⟩:=eJ r7;have la':=Reps.len I;rw[bz]at la';have fu:Fl (flts sm (stk S))[j]:=bQ flS _ (List.getElem_mem hj2);refine⟨_,rfl,tyL h7,E,_,um,rfl,rfl,h7,dV,ltSz,?_⟩;rw[List.dropLast_concat];have tt:aN H7 (upd H7 E (.lst mu6)):=aN.lst h7;refine⟨mu6,_,rfl,ew,λb o n1 n2 m=>upk n1 (k7 b o n1 n2 m),upk nmp.symm hp7,Reps.tups tt (lQ (qB flS (j+1))) r6',?_⟩;rw[aR (ay hj2)];exact Reps.snoc (aH.tups tt fu ru6) (Reps.tups tt (B7 flS j) I)
   rintro acc σ H7 ⟨mu,o0,rfl,h7,k7,hp7,r7,I⟩ p6 hp6;have e1:(flts sm (stk S)).take U.length=flts sm ds:=by rw[hfs,lv,<-lds,List.take_left]
   rw[e1]at I;rw[lv]at r7;obtain⟨H8,zN,s8,r8⟩:=nwH (.lst acc) hp6;rw[zN];have k58:K2 st E H5 H8:=λb o n1 n2 m=>s8 _ _ (k7 _ _ n2 n2 (R _ _ m));have t68:aN H6 H8:=λb xs m=>s8 _ _ (k7 b _ (λz=>by rw[z,md6]at m;cases m) (λz=>by rw[z,md6]at m;cases m) m);have st8:H8 st=some (.lst us):=s8 _ _ (k7 _ _ nsm nsm (R _ _ hst5));have l8:H8 l=some (.lst ws):=s8 _ _ (k7 _ _ nlmd nlmd (R _ _ Q5.hl));have md8:=s8 _ _ h7;have b8:cZ Pp H H8:=λb o nb m=>s8 _ _ (k7 _ _ (aC m mdH) (aC m mdH) (R _ _ (Q5.bp b o nb m)));have sg8:=lt.sg b8 sg;have racc8:=Reps.same s8 I;have r78:=Reps.same s8 r7;have pa8:=t68 _ _ (R _ _ pa5);have rus8:Reps H8 (don.map stD) us:=Reps.nl t68 (i5 _) (Reps.same R rus);have np6:p6≠E:=λz=>by rw[z,h7]at hp6;cases hp6
   clear k7 s8 r7 I R r6 hp5 hp7 h7 md6 t68 hJ;obtain⟨dx,fs,_,_,g1,_,g3,_⟩:=sg8.ex;have l5:=Reps.len r78;rw[List.length_reverse,bS]at l5;exists k5,k6;refine⟨_,rfl,.inl ⟨rfl,_,d5.of md8⟩,_,rfl,_,rfl,_,rfl,g,fx,sm,n,p6,flts sm ds,acc,rfl,sg8,r8,racc8,⟨fld,dz,dz,dz⟩,λv' H9 s9 r9=>?_⟩;have md9:=s9 _ _ md8;refine⟨E,mu,v',rfl,rfl,md9,ltSz,?_⟩;have t10:aN H9 (upd H9 E (.lst (mu++[v']))):=aN.lst md9;have k810:K2 st E H8 (upd H9 E (.lst (mu++[v']))):=λb o n1 n2 m=>upk n2 (s9 _ _ m);have st10:upd H9 E (.lst (mu++[v'])) st=some (.lst us):=upk nsm (s9 _ _ st8);have l10:upd H9 E (.lst (mu++[v'])) l=some (.lst ws):=upk nlmd (s9 _ _ l8);have p10:upd H9 E (.lst (mu++[v'])) p6=some (.lst acc):=upk np6 (s9 _ _ r8);have md10:upd H9 E (.lst (mu++[v'])) E=some (.lst (mu++[v'])):=ew;have b10:cZ Pp H (upd H9 E (.lst (mu++[v']))):=λb o nb m=>upk (aC m mdH) (s9 _ _ (b8 b o nb m));have fe:=(nB hz sub.tm).1;rw[hfe]at fe;have Z:Reps (upd H9 E (.lst (mu++[v']))) (flts sm (stk ((W.drop (W.length - (i+1))).map (·.2)))).reverse (mu++[v']):=by rw[hS,stk,flts,List.reverse_cons,show pts (.tup (.str n::ds))=ds from rfl,xD,hfe];exact Reps.snoc (aH.tups t10 fe r9) (Reps.tups t10 (lQ (qB flS ds.length)) (Reps.same s9 r78))
   have Y:=Reps.nl t10 (i5 _) (Reps.same s9 rus8);have racc10:=Reps.tups t10 fld (Reps.same s9 racc8);have pa10:=t10 _ _ (s9 _ _ pa8);have k10:=Q5.k2.trans (k58.trans k810);generalize upd H9 E (.lst (mu++[v']))=H10 at st10 l10 p10 md10 b10 Z Y racc10 pa10 k10|-;clear t10 k810 md9 s9 r9 st8 l8 md8 b8 sg8 r8 racc8 r78 pa8 rus8 k58 hp6 np6;have sg10:=lt.sg b10 sg;obtain⟨dx,fs,_,_,g1,_,g3,_⟩:=sg10.ex;refine k6 ⟨_,rfl,g,dx,fs,rfl,g1,g3,_,rfl,g,n,fx,sm,rfl,sg10,rfl,_,rfl,aW (λc=>?_) (λc=>?_)⟩
   ·obtain⟨z,hzn⟩:∃z,zr sm n=some z:=by
     cases ez:zr sm n with
     | some z=>exact⟨z,rfl⟩
     | none =>
      have:nulV sm n = .non:=by unfold nulV;rw[ez];rfl
      rw[this]at c;cases c
    have hnul:nulV sm n = .str z:=by unfold nulV;rw[hzn];rfl
    have two:ds.length=2:=by unfold Pd at pdr;exact pdr.1 (by rw[hzn];simp)
    obtain⟨a,b,rfl⟩:∃a b,ds=[a,b]:=by
     match ds,two with
     | [a,b],_=>exact⟨a,b,rfl⟩
    have hno:nodeS sm (p,.tup (.str n::[a,b]))=ssum n z p (flt sm a) (flt sm b):=by unfold nodeS;dsimp only;rw[hzn]
    simp only[flts,szs,ndss,depDs]at b1 b2 b3 hsz hnd hdp;have o1:=MR (n:=n) (d:=flt sm a);have o2:=MR (n:=n) (d:=flt sm b);have l60:(opP n (flt sm a)).length+(opP n (flt sm b)).length<=60:=by lia
    have len:=K9 (n:=n) (z:=z) (p:=p) l60;refine⟨_,rfl,.inl ⟨rfl,_,d5.of st10⟩,_,rfl,_,rfl,g,dx,fs,rfl,g1,g3,_,rfl,g,n,fx,sm,rfl,sg10,?_⟩;rw[hnul];refine⟨_,rfl,_,rfl,n,z,p,pa,p6,flt sm a,flt sm b,acc,rfl,pa10,p10,racc10,fld.1,fld.2.1,dz,dz,dz,dz,l60,dz,λlz zs H11 X hlz r11 rz=>?_⟩;have lz2:=Reps.len rz;rw[af]at lz2;have st11:=X _ _ st10;refine⟨st,lz,us,zs,rfl,rfl,st11,.inl r11,leSz,?_⟩;have t12:aN H11 (upd H11 st (.lst (us++zs))):=aN.lst st11;refine⟨_,_,_,_,rfl,⟨λb o n1 n2 m=>upk n1 (X _ _ (k10 b o n1 n2 m)),λb o nb m=>upk (aC m hst0) (X _ _ (b10 b o nb m)),upk nlst (X _ _ l10),_,_,ew,upk nsm.symm (X _ _ md10),?_,?_,?_⟩⟩
    ·rw[au];lia
    ·rw[hN,az,hno];exact Reps.append (Reps.nl t12 (i5 _) (Reps.same X Y)) (Reps.nl t12 (i5 _) rz)
    ·refine Reps.tups t12 (lQ (fB λy hy=>?_)) (Reps.same X Z);rw[hS,stk,flts]at hy;obtain rfl|hy:=cz.mp hy
     ·rw[hfe];exact fe
     ·rw[xD]at hy;exact bQ flS y (List.mem_of_mem_drop hy)
   ·have hzn:zr sm n=none:=by
     cases ez:zr sm n with
     | none=>rfl
     | some z =>
      have:nulV sm n = .str z:=by unfold nulV;rw[ez];rfl
      rw[this]at c;cases c
    refine⟨_,_,_,_,rfl,⟨k10,b10,l10,us,_,st10,md10,dz,?_,Z⟩⟩;rw[hN,wS hzn,bu];exact Y
 ·rintro σ H5 ⟨o4,o5,o6,o7,rfl,Q5⟩;obtain⟨us,mus,hst5,L,lus,rus,A⟩:=Q5.ex;rw[lw,Nat.sub_self,List.drop_zero]at rus A;rw[hW]at A;have e1:=yB (qH tm0) [];rw[bu]at e1;rw[e1]at A;obtain⟨u,r,rfl,ru,e2⟩:=A;cases (show r=[]from e2);refine k3 ⟨_,rfl,_,rfl,u,by rw[ixV_l L,atI_zero],szl 2,λT hT=>?_⟩;have R:aA H5 (upd H5 T (.tup [.ref st,u])):=aA.upd hT;refine q T st us u _ (λb o nb m=>R _ _ (Q5.bp b o nb m)) ((Q5.k2.lt st4 md4 lt4).same R) hst0 ew (R _ _ hst5) dz (Reps.same R rus) ?_;rw[<-q4];exact aH.same R ru
end
mutual
noncomputable def prt (n:Str):D->List D
 | .tup (.str m::ds)=>if m=n then prts n ds else [.tup (.str m::ds)]
 | d=>[d]
noncomputable def prts (n:Str):List D->List D
 | []=>[]
 | d::ds=>prt n d++prts n ds
end
def BB (n:Str):∀ds es:List D,prts n (ds++es)=prts n ds++prts n es
 | [],_=>rfl
 | d::ds,es=>by rw[List.cons_append,prts,BB n ds es,prts,cu]
theorem jV:∀{ds:List D},e∈prts n ds ↔ ∃d∈ds,e∈prt n d
 | []=>by simp[prts]
 | d::ds=>by
  rw[prts,c4,jV];constructor
  ·rintro(h|⟨x,a,c⟩)
   ·exact⟨d,ax,h⟩
   ·exact⟨x,bc _ a,c⟩
  ·rintro⟨x,a,c⟩;obtain rfl|a:=cz.mp a
   ·exact .inl c
   ·exact .inr ⟨x,a,c⟩
def mO (h:m≠n)(ds:List D):prt n (.tup (.str m::ds))=[.tup (.str m::ds)]:=by rw[prt,ab h]
def mP (n:Str)(ds:List D):prt n (.tup (.str n::ds))=prts n ds:=by rw[prt,aj rfl]
def j7 (n x:Str):prt n (.str x)=[.str x]:=by unfold prt;rfl
section
variable {fx:cV}{sm:bL}{os:bA}{n z:Str}
def zK {P:D->Prop}(s:∀x,Fl (.str x)->P (.str x))(t:∀m ds,Fls ds->(∀e∈ds,P e)->P (.tup (.str m::ds))):∀{d:D},Fl d->P d:=by
 have go:∀(k:Nat) (d:D),sizeOf d<=k->Fl d->P d:=by
  intro k
  induction k with
  | zero=>intro d h;cases d <;> simp at h
  | succ k c =>
   intro d h f;rcases nE f with⟨x,rfl,_⟩|⟨m,ds,rfl,fd⟩
   ·exact s x f
   ·refine t m ds fd λe a=>c e ?_ (bQ fd e a);have:=List.sizeOf_lt_of_mem a;simp at h
    lia
 exact λ{d} f=>go _ d (ac _) f
def yN (f:Fl d):(∀e∈prt n d,Fl e/\prt n e=[e]/\depD e<=depD d):=by
 refine zK (P:=λd=>∀e∈prt n d,Fl e/\prt n e=[e]/\depD e<=depD d) (λx j e g=>?_) (λm ds fd o e g=>?_) f
 ·rw[j7]at g;cases cy.mp g;exact⟨j,j7 _ _,ac _⟩
 ·by_cases h:m=n
  ·subst h;rw[mP]at g;obtain⟨x,j,l⟩:=jV.mp g;obtain⟨a,b,c⟩:=o x j e l;obtain⟨i,q⟩:=List.getElem?_of_mem j;have:=fL q;exact⟨a,b,by rw[depD,depDs];lia⟩
  ·rw[mO h]at g;cases cy.mp g;exact⟨by unfold Fl;exact fd,mO h ds,ac _⟩
def FV (f:Fls ds):Fls (prts n ds):=fB λe a=>by obtain⟨d,hd,h⟩:=jV.mp a;exact(yN (bQ f d hd) e h).1
def tU (f:Fl d):lvss (prt n d)=lvs d:=by
 have go:∀{ds:List D},(∀e∈ds,lvss (prt n e)=lvs e)->lvss (prts n ds)=lvss ds:=by
  intro ds h
  induction ds with
  | nil=>rfl
  | cons d ds a=>rw[prts,mU,lvss,h d ax,a λe c=>h e (bc _ c)]
 refine zK (P:=λd=>lvss (prt n d)=lvs d) (λx _=>by rw[j7,lvss,lvss];rfl) (λm ds fd a=>?_) f;by_cases h:m=n
 ·subst h;rw[mP,go a,lvs]
 ·rw[mO h,lvss,lvss];rfl
def wV (f:Fls ds):lvss (prts n ds)=lvss ds:=by
 induction ds with
 | nil=>rfl
 | cons d ds a=>rw[prts,mU,lvss,tU f.1,a f.2]
def L1 (f:Fl d):aM fx sm os d->IsTms fx sm os (prt n d):=by
 refine zK (P:=λd=>aM fx sm os d->IsTms fx sm os (prt n d)) (λx _ h=>by rw[j7];exact⟨h,trivial⟩) (λm ds fd g h=>?_) f;by_cases e:m=n
 ·subst e;rw[mP];unfold aM at h;refine kW λx i=>?_;obtain⟨y,c,a⟩:=jV.mp i;exact dR (g y c (dR h.2 y c)) x a
 ·rw[mO e];exact⟨h,trivial⟩
def FU (f:Fls ds)(h:IsTms fx sm os ds):IsTms fx sm os (prts n ds):=kW λx d=>by obtain⟨y,c,a⟩:=jV.mp d;exact dR (L1 (bQ f y c) (dR h y c)) x a
def GD (ds es:List D):opn n z (ds++es)=opn n z ds++opn n z es:=by unfold opn;rw[List.flatMap_append]
def B6 (ds es:List D):flts sm (ds++es)=flts sm ds++flts sm es:=by rw[cF,cF,cF,az]
def PY (so:aP fx sm)(ho:∀x∈os,cB x)(hz:zr sm n=some z)(f:Fl d):aM fx sm os d->(opn n z (flts sm (prt n d))).Perm (opn1 n z (flt sm d)):=by
 have go:∀{ds:List D},(∀e∈ds,(opn n z (flts sm (prt n e))).Perm (opn1 n z (flt sm e)))->(opn n z (flts sm (prts n ds))).Perm (opn n z (flts sm ds)):=by
  intro ds h
  induction ds with
  | nil=>exact .refl _
  | cons d ds c=>rw[prts,B6,GD,flts,aY];exact(h d ax).append (c λe a=>h e (bc _ a))
 refine zK (P:=λd=>aM fx sm os d->(opn n z (flts sm (prt n d))).Perm (opn1 n z (flt sm d))) (λx _ _=>?_) (λm ds fd c h=>?_) f
 ·rw[j7,flts,flts,aY,show opn n z []=[]from rfl,bu]
 ·by_cases e:m=n
  ·subst e;unfold aM at h;rw[mP,flt];exact(go λe a=>c e a (dR h.2 e a)).trans (kU hz (qA (cX so) (lZ so ho h.2).1)).symm
  ·rw[mO e,flts,flts,aY,show opn n z []=[]from rfl,bu]
def L0 (so:aP fx sm)(ho:∀x∈os,cB x)(hz:zr sm n=some z)(f:Fls ds)(h:IsTms fx sm os ds):(opn n z (flts sm (prts n ds))).Perm (opn n z (flts sm ds)):=by
 induction ds with
 | nil=>exact .refl _
 | cons d ds a=>rw[prts,B6,GD,flts,aY];exact(PY so ho hz f.1 h.1).append (a f.2 h.2)
structure Bq (fx:cV)(sm:bL)(os:bA)(n z:Str)(m L:Nat)(X us:List D):Prop where
 tm:IsTms fx sm os us
 fl:Fls us
 lv:lvss us=L
 op:(opn n z (flts sm us)).Perm X
 dp:∀x∈us,depD x+1<=m+lvs x/\∀e∈prt n x,depD e+1<=m+lvs e
def vN (p:us.Perm vs):(opn n z (flts sm us)).Perm (opn n z (flts sm vs)):=by rw[cF,cF];exact ML (p.map _)
def Bq.perm (h:Bq fx sm os n z m L X us)(p:vs.Perm us):Bq fx sm os n z m L X vs :=
 ⟨kW λd hd=>dR h.tm d (p.mem_iff.mp hd),fB λd hd=>bQ h.fl d (p.mem_iff.mp hd),by rw[JL p];exact h.lv,(vN p).trans h.op,λx a=>h.dp x (p.mem_iff.mp a)⟩
def nS (x:Str):lvs (.str x)=1:=by unfold lvs;rfl
def Bq.nought (h:Bq fx sm os n z m L X us)(so:aP fx sm)(ho:∀x∈os,cB x)(c:aM fx sm os (.str z)):Bq fx sm os n z m (L+1) X (.str z::us):=by
 refine⟨⟨c,h.tm⟩,⟨?_,h.fl⟩,by rw[lvss,h.lv,nS];lia,?_,λx a=>?_⟩
 ·have:=(kJ so ho c).1;unfold Tm at this;unfold Fl;exact this
 ·rw[flts,aY,show opn1 n z (flt sm (.str z))=[]by unfold flt opn1;simp[eqD]];exact h.op
 ·obtain rfl|a:=cz.mp a
  ·refine⟨by rw[nS];show 0+1<=_;lia,λe d=>?_⟩;rw[j7]at d;cases cy.mp d;rw[nS];show 0+1<=_;lia
  ·exact h.dp x a
def Bq.brk (h:Bq fx sm os n z m L X (l++a::b::r))(so:aP fx sm)(ho:∀x∈os,cB x)(hz:zr sm n=some z)(o:n∈sm.map (·.1)):Bq fx sm os n z m L X (l ++ .tup [.str n,a,b]::r):=by
 have j:(l++a::b::r).Perm (a::b::(l++r)):=(List.perm_middle).trans ((List.perm_middle).cons a);have h:=h.perm j.symm;have c:=h.tm.1;have tb:=h.tm.2.1;have u:=h.fl.1;have q:=h.fl.2.1;have A:=oJ c;have v:=oJ tb;refine Bq.perm (us:=.tup [.str n,a,b]::(l++r)) ?_ List.perm_middle;refine⟨⟨jK.mpr ⟨.inr ⟨ac _,o⟩,c,tb⟩,h.tm.2.2⟩,⟨by unfold Fl;exact⟨u,q,trivial⟩,h.fl.2.2⟩,?_,?_,λx d=>?_⟩
 ·have:=h.lv;rw[lvss,lvss]at this;rw[lvss,(eK (sm:=sm) n a b).1]
  lia
 ·refine List.Perm.trans ?_ h.op;rw[flts,aY,(eK (sm:=sm) n a b).2.2.2,flts,flts,aY,aY,<-cu];refine List.Perm.append_right _ ((kU (gs:=[flt sm a,flt sm b]) hz ⟨zI (cX so) (kJ so ho c).1,zI (cX so) (kJ so ho tb).1,trivial⟩).trans ?_);rw[aY,aY,show opn n z []=[]from rfl,bu]
 ·have i:=h.dp a ax;have g:=h.dp b (bc _ ax);obtain rfl|d:=cz.mp d
  ·refine⟨by rw[(eK (sm:=sm) n a b).1,(eK (sm:=sm) n a b).2.2.1];have:=i.1;have:=g.1;lia,λe f=>?_⟩;rw[mP,prts,prts,prts,bu]at f;rcases c4.mp f with w|w
   ·exact i.2 e w
   ·exact g.2 e w
  ·exact h.dp x (bc _ (bc _ d))
structure KL (fx:cV)(sm:bL)(os:bA)(d e:D):Prop where
 tm:aM fx sm os e
 fl:Fl e
 ft:flt sm e=flt sm d
 dp:depD e+1<=depD d+lvs e
 pp:∀n∈sm.map (·.1),∀x∈prt n e,depD x+1<=depD d+lvs x
def pT:∀{ds:List D} {d:D},d∈ds->lvs d<=lvss ds:=λh=>by obtain⟨i,a⟩:=List.getElem?_of_mem h;exact pU a
def nX (h:d∈ds):depD d<=depDs ds:=by obtain⟨i,a⟩:=List.getElem?_of_mem h;exact fL a
def hU:∀{ds:List D},(∀d∈ds,depD d<=k)->depDs ds<=k
 | [],_=>aw _
 | d::ds,h=>by have:=h d ax;have:=hU λe a=>h e (bc _ a);rw[depDs];lia
def FE:∀{us:List D},IsTms fx sm os us->2<=us.length->∀x∈us,lvs x+1<=lvss us
 | a::b::us,⟨d,tb,e⟩,_,x,c=>by
  have g:=oJ d;have f:=oJ tb;rw[lvss,lvss];obtain rfl|c:=cz.mp c
  ·lia
  ·obtain rfl|c:=cz.mp c
   ·lia
   ·have:=pT c;lia
 | [_],_,h,_,_=>by simp at h
 | [],_,h,_,_=>by simp at h
def KL.leaf (t:aM fx sm os (.str x))(f:Fl (.str x)):KL fx sm os (.str x) (.str x):=by refine⟨t,f,rfl,by rw[nS];exact ac _,λn _ e a=>?_⟩;rw[j7]at a;cases cy.mp a;rw[nS];exact ac _
inductive rS (fx:cV)(sm:bL)(os:bA):List D->List D->Prop where
 | nil:rS fx sm os [] []
 | cons {d e:D} {ds es:List D}:KL fx sm os d e->rS fx sm os ds es->rS fx sm os (d::ds) (e::es)
def rS.snoc (h:KL fx sm os d e):∀{ds es:List D},rS fx sm os ds es->rS fx sm os (ds++[d]) (es++[e])
 | _,_,.nil=>.cons h .nil
 | _,_,.cons a b=>.cons a (rS.snoc h b)
theorem rS.facts:∀{ds es:List D},rS fx sm os ds es->IsTms fx sm os es/\Fls es/\flts sm es=flts sm ds/\es.length=ds.length/\∀x∈es,∃d∈ds,KL fx sm os d x
 | _,_,.nil=>⟨trivial,trivial,rfl,rfl,λ_ h=>nomatch h⟩
 | _,_,.cons a b=>by
  obtain⟨j,i,g,f,e⟩:=b.facts;refine⟨⟨a.tm,j⟩,⟨a.fl,i⟩,by rw[flts,flts,a.ft,g],by rw[ar,ar,f],λx c=>?_⟩;obtain rfl|c:=cz.mp c
  ·exact⟨_,ax,a⟩
  ·obtain⟨d,hd,h⟩:=e x c;exact⟨d,bc _ hd,h⟩
def KL.fixed (so:aP fx sm)(q:zr sm f=none)(g:nJ fx sm f ds.length)(a:rS fx sm os ds es):KL fx sm os (.tup (.str f::ds)) (.tup (.str f::es)):=by
 obtain⟨i,w,v,u,r⟩:=a.facts;have l:depD (.tup (.str f::ds))=depDs ds+1:=(cG (sm:=sm) (.inl rfl)).2.2.1;have j:depD (.tup (.str f::es))=depDs es+1:=(cG (sm:=sm) (.inl rfl)).2.2.1;have le:lvs (.tup (.str f::es))=lvss es:=(cG (sm:=sm) (.inl rfl)).1;have A:=dQ i;have B:=i8 g;have key:depDs es+1<=depDs ds+lvss es:=by
  have:depDs es<=depDs ds+lvss es - 1:=hU λx c=>by
   obtain⟨d,hd,h⟩:=r x c;have:=h.dp;have:=nX hd;have:=pT c
   lia
  lia
 refine⟨by unfold aM;rw[u];exact⟨g,i⟩,by unfold Fl;exact w,by rw[flt,flt,v],by rw[l,j,le];lia,λn o x c=>?_⟩;have m:f≠n:=λz=>by obtain⟨y,e⟩:=sR o;rw[<-z,q]at e;cases e
 rw[mO m]at c;cases cy.mp c;rw[l,j,le];lia
def Bq.of (so:aP fx sm)(ho:∀x∈os,cB x)(hz:zr sm n=some z)(m:n∈sm.map (·.1))(a:rS fx sm os ds es):Bq fx sm os n z (depDs ds) (lvss es) (opn n z (flts sm ds)) (prts n es):=by
 obtain⟨i,f,q,v,o⟩:=a.facts;refine⟨FU f i,FV f,wV f,by rw[<-q];exact L0 so ho hz f i,λx l=>?_⟩;obtain⟨y,j,c⟩:=jV.mp l;obtain⟨d,hd,h⟩:=o y j;have u:=h.pp n m x c;have r:=nX hd;refine⟨dz,λe g=>?_⟩;rw[(yN h.fl x c).2.1]at g;cases cy.mp g
 lia
def KL.sum (so:aP fx sm)(ho:∀x∈os,cB x)(hz:zr sm n=some z)(i:n∈sm.map (·.1))(j:IsTms fx sm os ds)(b:Bq fx sm os n z (depDs ds) L (opn n z (flts sm ds)) us)(f:2<=us.length):KL fx sm os (.tup (.str n::ds)) (.tup (.str n::us))/\lvs (.tup (.str n::us))=L:=by
 have d:depD (.tup (.str n::ds))=depDs ds+1:=(cG (sm:=sm) (.inl rfl)).2.2.1;have g:depD (.tup (.str n::us))=depDs us+1:=(cG (sm:=sm) (.inl rfl)).2.2.1;have le:lvs (.tup (.str n::us))=lvss us:=(cG (sm:=sm) (.inl rfl)).1;have key:depDs us+2<=depDs ds+lvss us:=by
  have l:=dQ b.tm;have:depDs us<=depDs ds+lvss us - 2:=hU λx a=>by
   have:=(b.dp x a).1;have:=FE b.tm f x a
   lia
  lia
 refine⟨⟨by unfold aM;exact⟨.inr ⟨f,i⟩,b.tm⟩,by unfold Fl;exact b.fl,?_,by rw[d,g,le];lia,λm hm x a=>?_⟩,by rw[le];exact b.lv⟩
 ·rw[flt,flt];exact nV hz (zH (cX so) (lZ so ho b.tm).1) b.op
 ·by_cases e:n=m
  ·subst e;rw[mP]at a;obtain⟨y,h,c⟩:=jV.mp a;have:=(b.dp y h).2 x c;rw[d];lia
  ·rw[mO e]at a;cases cy.mp a;rw[d,g,le];lia
end
end Lw
namespace Lw
open PySem L2
variable {fx:cV}{sm:bL}{os:bA}
noncomputable def rn (sm:bL):List S3->D->Option D
 | [],d=>some d
 | s::l,d=>(bP sm s.1 s.2.2 s.2.1 d).bind (rn sm l)
def mM:∀(l m:List S3) (d:D),rn sm (l++m) d=(rn sm l d).bind (rn sm m)
 | [],m,d=>rfl
 | s::l,m,d=>by
  rw[List.cons_append,rn,rn];cases bP sm s.1 s.2.2 s.2.1 d with
  | none=>rfl
  | some e=>exact mM l m e
noncomputable def pre (q:List Nat)(s:S3):S3:=(s.1,q++s.2.1,s.2.2)
def PZ (l:List S3):l.map (pre [])=l:=(List.map_congr_left (g:=id) λ_ _=>rfl).trans (List.map_id l)
def FW (q r:List Nat)(l:List S3):(l.map (pre r)).map (pre q)=l.map (pre (q++r)):=by rw[cs];exact List.map_congr_left λs _=>by simp[pre]
theorem A5:∀{l:List S3} {ds:List D} {x y:D},ds[i]?=some x->rn sm l x=some y->rn sm (l.map (pre [i])) (.tup (.str m::ds))=some (.tup (.str m::ds.set i y))
 | [],ds,x,y,a,h=>by
  cases h;obtain⟨c,e⟩:=cx.mp a;rw[<-e,List.set_getElem_self];rfl
 | s::l,ds,x,y,a,h=>by obtain⟨e,d,h⟩:=Option.bind_eq_some_iff.mp h;have c:=(cx.mp a).1;rw[bg,rn,show(pre [i] s).2.1=i::s.2.1 from rfl,bP,a,Option.bind_some,show(pre [i] s).1=s.1 from rfl,show(pre [i] s).2.2=s.2.2 from rfl,d,Option.map_some,Option.bind_some,A5 (l:=l) (List.getElem?_set_self c) h,List.set_set]
def hV:∀{B:List D},B≠[]->chn n (a::B) = .tup [.str n,a,chn n B]
 | [],h=>absurd rfl h
 | _::_,_=>rfl
theorem FS (d:B≠[])(c:B'≠[])(h:rn sm l (chn n B)=some (chn n B')):∀A:List D,rn sm (l.map (pre (ones A.length))) (chn n (A++B))=some (chn n (A++B'))
 | []=>by rw[show ones ([]:List D).length=[]from rfl,PZ];exact h
 | a::A=>by have e:=FS d c h A;rw[List.cons_append,List.cons_append,hV (by simp[d]),hV (by simp[c]),show ones (a::A).length=[1]++ones A.length from rfl,<-FW];exact A5 (i:=1) rfl e
def PP (n:Str)(q:List Nat)(k:Nat):rgt n q k=(rgt n [] k).map (pre q):=by unfold rgt;rw[cs];rfl
def LU (n:Str)(k:Nat):rgt n [] (k+1)=(("right" : Str),([]:List Nat),n)::(rgt n [] k).map (pre [1]):=by unfold rgt;rw[List.range_succ_eq_map,bg,cs,cs];rfl
theorem LP:∀{A B:List D},A≠[]->B≠[]->rn sm (rgt n [] (A.length - 1)) (.tup [.str n,chn n A,chn n B])=some (chn n (A++B))
 | [],_,h,_=>absurd rfl h
 | [a],b::B,_,_=>rfl
 | [a],[],_,h=>absurd rfl h
 | a::c::A,B,_,e=>by have d:=LP (n:=n) (A:=c::A) (B:=B) dV e;rw[show(a::c::A).length - 1=((c::A).length - 1)+1 by simp,LU,rn,hV (a:=a) (B:=c::A) dV,bP,uN,Option.bind_some,List.cons_append,hV (B:=c::A++B) dV];exact A5 (i:=1) rfl d
def NU (n:Str)(q p:List Nat)(a i:Nat):inw1 n (q++p) a i=(inw1 n p a i).map (pre q):=by unfold inw1;split <;> simp[pre]
def G3 (n:Str)(q p:List Nat)(m:D)(bs:List D):inw n (q++p) m bs=(inw n p m bs).map (pre q):=by unfold inw;rw[List.map_flatMap];congr 1;funext i;exact NU n q p _ i
def FR (n:Str)(q p:List Nat)(fr:List D):∀(k:Nat) (bs:List D),sdn n (q++p) fr k bs=(sdn n p fr k bs).map (pre q)
 | 0,_=>rfl
 | k+1,bs=>by
  rw[sdn,sdn];split
  ·rw[az,<-FR n q p fr k,cu,G3]
  ·rfl
def AT (n z:Str)(q:List Nat)(x y:D):ssum n z q x y=(ssum n z [] x y).map (pre q):=by
 unfold ssum;split
 ·simp[pre]
 ·split
  ·simp[pre]
  ·have h:=FR n q [] (opP n x) (opP n x).length (opP n y);rw[bu]at h;rw[az,<-PP,h]
def JQ (n:Str)(a i:Nat):inw1 n [] (a+1) (i+1)=(inw1 n [] a i).map (pre [1]):=by unfold inw1;simp only[Nat.add_right_cancel_iff];split <;> rfl
theorem LR:∀(c:Nat) (T:List D),c<=T.length->rn sm ((List.range c).flatMap (inw1 n [] T.length)) (chn n (m::T))=some (chn n (T.take c++m::T.drop c))
 | 0,_,_=>rfl
 | c+1,[],h=>by simp at h
 | c+1,t::T,h=>by
  have d:=LR (n:=n) (m:=m) c T (by simpa using h);have first:rn sm (inw1 n [] (t::T).length 0) (chn n (m::t::T))=some (chn n (t::m::T)):=by
   unfold inw1
   match T with
   | [] =>
    rw[aj dV];show(bP sm "turn" n [] (.tup [.str n,m,t])).bind (rn sm [])=_;rw[bP,lR dw,aj rfl];rfl
   | u::U =>
    rw[ab dV,hV (a:=m) (B:=t::u::U) dV,hV (a:=t) (B:=u::U) dV,rn,show([]:List Nat)++ones 0=[]from rfl,bP,HQ,Option.bind_some,rn];show(bP sm "turn" n [0] _).bind _=_;rw[bP];show(Option.map _ (bP sm "turn" n [] (.tup [.str n,m,t]))).bind _=_;rw[bP,lR dw,aj rfl,Option.map_some,Option.bind_some,rn];show(bP sm "right" n [] (.tup [.str n,.tup [.str n,t,m],chn n (u::U)])).bind _=_;rw[bP,uN,Option.bind_some];rfl
  have rest:((List.range c).map (. + 1)).flatMap (inw1 n [] (t::T).length)=((List.range c).flatMap (inw1 n [] T.length)).map (pre [1]):=by rw[List.flatMap_map,List.map_flatMap];congr 1;funext i;exact JQ n T.length i
  rw[List.range_succ_eq_map,List.flatMap_cons,mM,first,Option.bind_some,show(List.map Nat.succ (List.range c))=(List.range c).map (. + 1)from rfl,rest,hV (a:=t) (B:=m::T) dV,List.take_succ_cons,List.drop_succ_cons,List.cons_append,hV (a:=t) (B:=T.take c++m::T.drop c) dV];exact A5 (i:=1) rfl d
def OF (m b:D)(S:List D):cntB m (b::S)=(if lexK (key b) (key m)=true then 1 else 0)+cntB m S:=by unfold cntB;rw[List.filter_cons];split <;> simp[Nat.add_comm]
theorem uF:∀{S:List D},S.Pairwise leK->(S.take (cntB m S)++m::S.drop (cntB m S)).Pairwise leK
 | [],_=>List.pairwise_singleton _ _
 | b::S,h=>by
  have⟨h1,h2⟩:=List.pairwise_cons.mp h;rw[OF];by_cases c:lexK (key b) (key m)=true
  ·rw[aj c,Nat.add_comm,List.take_succ_cons,List.drop_succ_cons,List.cons_append];refine List.pairwise_cons.mpr ⟨λx a=>?_,uF h2⟩;rcases c4.mp a with k|k
   ·exact h1 x (List.mem_of_mem_take k)
   ·rcases cz.mp k with rfl|k
    ·exact nU c
    ·exact h1 x (List.mem_of_mem_drop k)
  ·have d:leK m b:=by simpa [leK] using c
   have z:cntB m S=0:=by unfold cntB;rw[List.length_eq_zero_iff,List.filter_eq_nil_iff];intro x a k;rw[show lexK (key x) (key m)=false from qS d (h1 x a)]at k;cases k
   rw[ab c,z];refine List.pairwise_cons.mpr ⟨λx a=>?_,h⟩;rcases cz.mp a with rfl|k
   ·exact d
   ·exact qS d (h1 x k)
def pN (ds es:List D):prDs sm (ds++es)=prDs sm ds++prDs sm es:=by rw[bT,bT,bT,az]
theorem LO (fr:List D):∀(k:Nat) (bs S:List D),k<=fr.length->S≠[]->S.Pairwise leK->S.Perm bs->∃c,c.Pairwise leK/\c.Perm (fr.take k++bs)/\rn sm (sdn n [] fr k bs) (chn n (prDs sm (fr.take k++S)))=some (chn n (prDs sm c))
 | 0,bs,S,_,_,so,a=>⟨S,so,by simpa using a,rfl⟩
 | k+1,bs,S,u,ne,so,a=>by
  have hm:fr[k]?=some fr[k]:=ay dz;generalize l:fr[k]=m at hm;have f:cntB m bs=cntB m S:=by unfold cntB;exact((a.filter _).length_eq).symm
  have i:(S.take (cntB m S)++m::S.drop (cntB m S)).Perm (bs++[m]):=by refine(List.perm_middle).trans ?_;rw[List.take_append_drop];exact((a.cons m).trans (List.perm_append_singleton m bs).symm)
  obtain⟨c,h,s2,g⟩:=LO (n:=n) fr k (bs++[m]) (S.take (cntB m S)++m::S.drop (cntB m S)) dz dV (uF so) i;have e:fr.take (k+1)=fr.take k++[m]:=aR hm;refine⟨c,h,s2.trans ?_,?_⟩
  ·rw[e,cu];exact List.Perm.append_left _ List.perm_append_comm
  ·have d:(prDs sm S).length=bs.length:=by rw[bT,af,a.length_eq]
   have j:(prDs sm (fr.take k)).length=k:=by rw[bT,af,bz];lia
   have one:=LR (sm:=sm) (n:=n) (m:=prD sm m) (cntB m S) (prDs sm S) (by rw[d,<-f];exact zP m bs);have at_:=FS (A:=prDs sm (fr.take k)) (n:=n) dV dV one;rw[sdn,hm];dsimp only;have r:inw n ([]++ones k) m bs=((List.range (cntB m S)).flatMap (inw1 n [] (prDs sm S).length)).map (pre (ones k)):=by rw[List.nil_append];have:=G3 n (ones k) [] m bs;rw[bu]at this;rw[this,inw,f,d]
   have q:prDs sm (fr.take (k+1)++S)=prDs sm (fr.take k)++prD sm m::prDs sm S:=by rw[e,cu,pN];rfl
   have o:prDs sm (fr.take k++(S.take (cntB m S)++m::S.drop (cntB m S)))=prDs sm (fr.take k)++((prDs sm S).take (cntB m S)++prD sm m::(prDs sm S).drop (cntB m S)):=by rw[pN,pN,prDs];simp only[bT,List.map_take,List.map_drop]
   rw[j]at at_;rw[mM,r,q,at_,Option.bind_some,<-o];exact g
def MU (f:Fl x)(ne:eqD x (.str z)≠true):opn1 n z x=opP n x:=by rw[MQ n z x f,ab ne]
def GH (hz:zr sm n=some z)(x:D):prD sm x=chn n (prDs sm (opP n x)):=by
 unfold opP;split
 ·rename_i m es;by_cases e:m=n
  ·rw[aj e,e,prD];unfold pr;rw[hz]
  ·rw[ab e];rfl
 ·rfl
def MS (hz:zr sm n=some z)(h:NF sm x):opP n x≠[]/\(opP n x).Pairwise leK:=by
 unfold opP;split
 ·rename_i m es;by_cases e:m=n
  ·subst e;unfold NF at h;have:=h.2 z hz;rw[aj rfl];exact⟨λq=>by rw[q]at this;simp at this,this.2.1⟩
  ·rw[ab e];exact⟨dV,List.pairwise_singleton _ _⟩
 ·exact⟨dV,List.pairwise_singleton _ _⟩
def PL (hz:zr sm n=some z)(g:Fl x/\NF sm x)(f:Fl y/\NF sm y):rn sm (ssum n z [] x y) (.tup [.str n,prD sm x,prD sm y])=some (prD sm (knot sm n [x,y])):=by
 unfold ssum;by_cases c:eqD y (.str z)=true
 ·rw[aj c];cases uI c;rw[kA hz g.1 g.2 (.inl rfl),iN];show(bP sm "drop" n [] _).bind _=_;rw[bP,zQ hz];rfl
 rw[ab c];by_cases i:eqD x (.str z)=true
 ·rw[aj i];cases uI i;rw[kA hz f.1 f.2 (.inr rfl),iN];show(bP sm "turn" n [] _).bind _=_;rw[bP,lR dw,aj rfl,Option.bind_some];show(bP sm "drop" n [] _).bind _=_;rw[bP,zQ hz];rfl
 rw[ab i];obtain⟨nx,_⟩:=MS hz g.2;obtain⟨j,v⟩:=MS hz f.2;have q:∀{l:List D},l≠[]->prDs sm l≠[]:=λh=>by rw[bT];simpa using h
 obtain⟨m,w,s2,o⟩:=LO (sm:=sm) (n:=n) (opP n x) (opP n x).length (opP n y) (opP n y) (ac _) j v (List.Perm.refl _);rw[bI]at s2 o;have r:=LP (sm:=sm) (n:=n) (q nx) (q j);rw[<-GH hz,<-GH hz,<-pN,show(prDs sm (opP n x)).length=(opP n x).length by rw[bT,af]]at r;rw[mM,r,Option.bind_some,o];have B:opn n z [x,y]=opP n x++opP n y:=by rw[aY,aY,MU g.1 i,MU f.1 c];simp[opn]
 have u:=bQ (qN (n:=n) (z:=z) (ds:=[x,y]) ⟨g.1,f.1,trivial⟩);have e:fA (opn n z [x,y])=m:=jM (λd hd=>u d ((bH _).mem_iff.mp hd)) ((bH _).trans (B ▸ s2.symm)) (eV u) w;unfold knot;rw[hz];dsimp only;rw[e];have A:2<=m.length:=by
  rw[s2.length_eq,au];have:=List.length_pos_iff.mpr nx;have:=List.length_pos_iff.mpr j
  lia
 match m,A with
 | a::b::l,_ =>
  show _=some (prD sm (.tup (.str n::a::b::l)));rw[prD];unfold pr;rw[hz]
mutual
theorem F1:∀(d:D) (q p:List Nat),plw (q++p) d=(plw p d).map λr=>(q++r.1,r.2)
 | .tup (.str n::ds),q,p=>by rw[plw,plw,bg,BE ds q p 0]
 | .non,q,p | .bl _,q,p | .int _,q,p | .str _,q,p | .lst _,q,p | .tup [],q,p | .tup (.non::_),q,p | .tup (.bl _::_),q,p | .tup (.int _::_),q,p | .tup (.tup _::_),q,p | .tup (.lst _::_),q,p=>by unfold plw;rfl
theorem BE:∀(ds:List D) (q p:List Nat) (k:Nat),plws (q++p) k ds=(plws p k ds).map λr=>(q++r.1,r.2)
 | [],_,_,_=>rfl
 | d::ds,q,p,k=>by rw[plws,plws,az,cu,F1 d q,BE ds q]
end
def NA (q p:List Nat)(x:D):nodeS sm (q++p,x)=(nodeS sm (p,x)).map (pre q):=by
 unfold nodeS;dsimp only;split
 ·split
  ·rw[AT,<-FW,<-AT]
  ·rfl
 ·rfl
def UP (i:Nat)(d:D):(plw [i] d).reverse.flatMap (nodeS sm)=(ledS sm d).map (pre [i]):=by rw[show [i]=[i]++[]from rfl,F1,<-List.map_reverse,List.flatMap_map,ledS,List.map_flatMap];congr 1;funext r;exact NA [i] r.1 r.2
theorem A4:∀(ds A:List D),(∀e∈ds,rn sm (ledS sm e) e=some (prD sm (flt sm e)))->rn sm ((plws [] A.length ds).reverse.flatMap (nodeS sm)) (.tup (.str m::(A++ds)))=some (.tup (.str m::(A++prDs sm (flts sm ds))))
 | [],A,_=>rfl
 | d::ds,A,h=>by
  have a:=A4 (m:=m) ds (A++[d]) λe c=>h e (bc _ c);rw[au,cr,cu,cu,List.singleton_append,List.singleton_append]at a;have hd:(A++d::prDs sm (flts sm ds))[A.length]?=some d:=by simp
  rw[plws,List.reverse_append,List.flatMap_append,mM,a,Option.bind_some,List.nil_append,UP,A5 hd (h d ax),flts,prDs];simp
def LQ (so:aP fx sm)(ho:∀x∈os,cB x)(h:aM fx sm os d):Pd sm d->rn sm (ledS sm d) d=some (prD sm (flt sm d)):=by
 refine jL (P:=λd=>Pd sm d->rn sm (ledS sm d) d=some (prD sm (flt sm d))) (λx _ _=>?_) (λn ds d hd i a g pd=>?_) h
 ·unfold ledS plw;rw[show flt sm (.str x) = .str x by unfold flt;rfl,iN];rfl
 ·rcases hd with rfl|rfl
  ·unfold Pd at pd;have pr:=A4 (m:=n) ds [] λe c=>g e c (lK.mp pd.2 e c);rw[List.nil_append,List.nil_append]at pr;have l:ledS sm (.tup (.str n::ds))=(plws [] 0 ds).reverse.flatMap (nodeS sm)++nodeS sm ([],.tup (.str n::ds)):=by rw[ledS,plw,List.reverse_cons,List.flatMap_append,List.flatMap_cons,List.flatMap_nil,bu]
   rw[l,mM,show 0=([]:List D).length from rfl,pr,Option.bind_some,flt];rcases mY so i with⟨hz,_,_⟩|⟨z,hz,_,_⟩
   ·rw[wS hz];unfold knot;rw[hz];dsimp only;rw[prD];unfold Lw.pr;rw[hz];rfl
   ·have f:=pd.1 (by rw[hz];simp)
    match ds,f,a with
    | [x,y],_,a =>
     have j:nodeS sm ([],.tup [.str n,x,y])=ssum n z [] (flt sm x) (flt sm y):=by unfold nodeS;dsimp only;rw[hz]
     rw[j];exact PL hz (eX so ho a.1) (eX so ho a.2.1)
  ·unfold Pd at pd;exact pd.elim
noncomputable def kN:bA:=["turn","left","right","drop"]
def kn0:("turn" : Str)∈kN:=by decide
def kn1:("left" : Str)∈kN:=by decide
def kn2:("right" : Str)∈kN:=by decide
def kn3:("drop" : Str)∈kN:=by decide
mutual
noncomputable def fxd (sm:bL):D->Nat
 | .tup (.str n::ds)=>(if zr sm n=none then 1 else 0)+fxds sm ds
 | .lst (.str n::ds)=>(if zr sm n=none then 1 else 0)+fxds sm ds
 | _=>0
noncomputable def fxds (sm:bL):List D->Nat
 | []=>0
 | d::ds=>max (fxd sm d) (fxds sm ds)
end
def zF (h:d = .tup (.str n::ds)\/d = .lst (.str n::ds)):fxd sm d=(if zr sm n=none then 1 else 0)+fxds sm ds:=by rcases h with rfl|rfl <;> rw[fxd]
def sK:∀{ds:List D},(∀d∈ds,fxd sm d<=k)->fxds sm ds<=k
 | [],_=>aw _
 | d::ds,h=>by rw[fxds];exact Nat.max_le.mpr ⟨h d ax,sK λe a=>h e (bc _ a)⟩
def kX:∀{ds:List D},d∈ds->fxd sm d<=fxds sm ds
 | e::ds,h=>by rw[fxds];exact(cz.mp h).elim (λz=>z ▸ Nat.le_max_left _ _) λz=>aq (kX z) (Nat.le_max_right _ _)
def RF (h:aM fx sm os d):fxd sm d<=depD d:=by refine jL (P:=λd=>fxd sm d<=depD d) (λx _=>by unfold fxd;exact aw _) (λn ds d hd _ _ c=>?_) h;have e:=(cG (sm:=sm) hd).2.2.1;have:fxds sm ds<=depDs ds:=sK λx a=>aq (c x a) (nX a);rw[zF hd,e];split <;> lia
def RO (so:aP fx sm)(h:aM fx sm os d):depD d+1<=lvs d+fxd sm d:=by
 refine jL (P:=λd=>depD d+1<=lvs d+fxd sm d) (λx _=>by unfold lvs;show 0+1<=_;lia) (λn ds d hd g c f=>?_) h;obtain⟨m,_,l,_⟩:=cG (sm:=sm) hd;have o:=dQ c;rw[zF hd,m,l];rcases mY so g with⟨hz,_,q⟩|⟨z,hz,_,e⟩
 ·rw[aj hz];have:depDs ds<=lvss ds+fxds sm ds - 1:=hU λx a=>by
   have j:=f x a;have e:=pT a;have i:=kX (sm:=sm) a
   lia
  lia
 ·rw[ab (by rw[hz];simp)];have:depDs ds<=lvss ds+fxds sm ds - 2:=hU λx a=>by
   have j:=f x a;have e:=FE c e x a;have i:=kX (sm:=sm) a
   lia
  lia
def G5 (hz:zr sm n≠none):∀{ds:List D},ds≠[]->fxd sm (chn n ds)<=fxds sm ds
 | [],h=>absurd rfl h
 | [d],_=>by rw[fxds];exact Nat.le_max_left _ _
 | d::e::r,_=>by
  have:=G5 hz (ds:=e::r) dV;rw[hV dV,fxd,ab hz,fxds,fxds,fxds,fxds]
  lia
def U1 (so:aP fx sm)(h:aM fx sm os d):fxd sm (prD sm d)<=fxd sm d:=by
 refine jL (P:=λd=>fxd sm (prD sm d)<=fxd sm d) (λx _=>by rw[iN];exact ac _) (λn ds d hd f _ c=>?_) h;have l:fxds sm (prDs sm ds)<=fxds sm ds:=sK λx a=>by rw[bT]at a;have⟨y,hy,e⟩:=da.mp a;exact e ▸ aq (c y hy) (kX hy)
 rw[(nM sm hd).1,zF hd];unfold pr;cases e:zr sm n with
 | none =>
  dsimp only;rw[fxd,e]
  lia
 | some z =>
  have ne:prDs sm ds≠[]:=λq=>by have:=i8 f;rw[bT,List.map_eq_nil_iff]at q;rw[q]at this;simp at this
  have:=G5 (sm:=sm) (n:=n) (by rw[e];simp) ne;dsimp only
  lia
def RQ (h:k∈kN)(f:n∈sm.map (·.1))(c:chD sm k n d=some e):nds e<=nds d/\lvs e<=lvs d/\fxd sm e<=fxd sm d:=by
 have a:k≠("add" : Str):=λz=>by rw[z]at h;exact absurd h dw
 have hz:zr sm n≠none:=by obtain⟨z,e⟩:=sR f;rw[e];simp
 unfold chD at c;rw[ab a]at c
 repeat' split at c
 all_goals first
  | (cases c;subst_vars;simp only[nds,ndss,lvs,lvss,fxd,fxds,ab hz];lia)
  | cases c
def NX (a:ds[i]?=some x)(h:fxd sm y<=fxd sm x):fxds sm (ds.set i y)<=fxds sm ds:=sK λu c=>by
 rcases List.mem_or_eq_of_mem_set c with q|rfl
 ·exact kX q
 ·exact aq h (kX (bn a))
theorem wE (l:k∈kN)(j:n∈sm.map (·.1)):∀{pl:List Nat} {d e:D},bP sm k n pl d=some e->nds e<=nds d/\lvs e<=lvs d/\fxd sm e<=fxd sm d
 | [],d,e,h=>RQ l j h
 | i::pl,d,e,h=>by
  unfold bP at h;split at h
  ·rename_i q;cases q
  ·rename_i q;cases q;obtain⟨x,g,h⟩:=Option.bind_eq_some_iff.mp h;obtain⟨y,m,rfl⟩:=Option.map_eq_some_iff.mp h;obtain⟨u,r,o⟩:=wE l j m;obtain⟨a,c,_⟩:=tD (sm:=sm) (y:=y) g;have f:=NX (sm:=sm) g o;rw[nds,nds,lvs,lvs,fxd,fxd]
   lia
  ·cases h
theorem wF:∀{pl:List Nat} {d e:D},bP sm k n pl d=some e->pl.length<=depD d
 | [],_,_,_=>aw _
 | i::pl,d,e,h=>by
  unfold bP at h;split at h
  ·rename_i q;cases q
  ·rename_i q;cases q;obtain⟨x,c,h⟩:=Option.bind_eq_some_iff.mp h;obtain⟨y,a,rfl⟩:=Option.map_eq_some_iff.mp h;have g:=wF a;have f:=fL c;rw[depD,depDs,ar]
   lia
  ·cases h
def B0 (h:k∈kN):k∈kinds:=by simp only[kN,cz,List.not_mem_nil,or_false]at h;rcases h with rfl|rfl|rfl|rfl <;> decide
def WB (h:k∈kinds):backK k∈kinds:=by simp only[kinds,cz,List.not_mem_nil,or_false]at h;rcases h with rfl|rfl|rfl|rfl|rfl <;> decide
structure Bd (fx:cV)(sm:bL)(os:bA)(N:Nat)(d:D):Prop where
 tm:aM fx sm os d
 pd:Pd sm d
 nd:nds d<=N
 lv:lvs d<=40
 fd:fxd sm d<=11
def Bd.dp (so:aP fx sm)(b:Bd fx sm os N d):depD d<=50:=by
 have:=RO so b.tm;have:=b.lv;have:=b.fd
 lia
def Bd.step {N:Nat}{d e:D}{s:S3}(b:Bd fx sm os N d)(i:s.1∈kN)(h:s.2.2∈sm.map (·.1))(c:bP sm s.1 s.2.2 s.2.1 d=some e)(st:WV fx sm os d e):Bd fx sm os N e:=by obtain⟨g,f,a⟩:=wE i h c;exact⟨st.tm,st.pd,aq g b.nd,aq f b.lv,aq a b.fd⟩
def C4 (a:cV)(sm:bL)(os:bA)(N:Nat):List S3->D->D->Prop
 | [],d,e=>d=e
 | s::l,d,e=>s.1∈kinds/\s.2.2∈sm.map (·.1)/\Bd a sm os N d/\∃c,bP sm s.1 s.2.2 s.2.1 d=some c/\C4 a sm os N l c e
def C4.at0:∀{l:List S3} {d e:D},C4 fx sm os N l d e->Bd fx sm os N e->Bd fx sm os N d
 | [],_,_,h,b=>(show _=_ from h) ▸ b
 | _::_,_,_,h,_=>h.2.2.1
def C4.app:∀{l m:List S3} {d c e:D},C4 fx sm os N l d c->C4 fx sm os N m c e->C4 fx sm os N (l++m) d e
 | [],_,_,_,_,h,k=>(show _=_ from h) ▸ k
 | _::_,_,_,_,_,⟨j,i,g,c,f,a⟩,k=>⟨j,i,g,c,f,C4.app a k⟩
theorem EG (so:aP fx sm)(ho:∀x∈os,cB x):∀{l:List S3} {d e:D},(∀s∈l,s.1∈kN/\s.2.2∈sm.map (·.1))->Bd fx sm os N d->rn sm l d=some e->C4 fx sm os N l d e/\Bd fx sm os N e
 | [],d,e,_,b,h=>by cases h;exact⟨rfl,b⟩
 | s::l,d,e,k,b,h=>by obtain⟨c,f,h⟩:=Option.bind_eq_some_iff.mp h;obtain⟨a,k2⟩:=k s ax;have st:=(kK so ho (B0 a) k2 b.tm b.pd f).1;obtain⟨j,i⟩:=EG so ho (l:=l) (λt g=>k t (bc _ g)) (b.step a k2 f st) h;exact⟨⟨B0 a,k2,b,c,f,j⟩,i⟩
noncomputable def bkS (s:S3):S3:=(backK s.1,s.2.1,s.2.2)
theorem C4.back (so:aP fx sm)(ho:∀x∈os,cB x):∀{l:List S3} {d e:D},C4 fx sm os N l d e->Bd fx sm os N e->C4 fx sm os N (l.reverse.map bkS) e d
 | [],_,_,h,_=>(show _=_ from h).symm
 | s::l,d,e,⟨i,g,f,c,j,a⟩,b=>by have m:=a.at0 b;rw[List.reverse_cons,az];exact(C4.back so ho a b).app ⟨WB i,g,m,d,(kK so ho i g f.tm f.pd j).2,rfl⟩
theorem LS (so:aP fx sm)(ho:∀x∈os,cB x):∀{l:List S3} {d d' e:D},(∀s∈l,s.1∈kN/\s.2.2∈sm.map (·.1))->Bd fx sm os N d->Bd fx sm os N d'->rn sm l d=some e->rn sm l d'=some e->d=d'
 | [],d,d',e,_,_,_,h,h'=>by cases h;cases h';rfl
 | s::l,d,d',e,k,b,g,h,h'=>by obtain⟨c,j,h⟩:=Option.bind_eq_some_iff.mp h;obtain⟨c',a,h'⟩:=Option.bind_eq_some_iff.mp h';obtain⟨f,k2⟩:=k s ax;obtain⟨m,s2⟩:=kK so ho (B0 f) k2 b.tm b.pd j;obtain⟨t1,i⟩:=kK so ho (B0 f) k2 g.tm g.pd a;have:=LS so ho (l:=l) (λt o=>k t (bc _ o)) (b.step f k2 j m) (g.step f k2 a t1) h h';subst this;rw[s2]at i;cases i;rfl
def NT:∀s∈inw n p m bs,s.1∈kN/\s.2.2=n:=λs c=>by
 obtain⟨i,_,a⟩:=List.mem_flatMap.mp c;unfold inw1 at a;split at a
 ·cases cy.mp a;exact⟨kn0,rfl⟩
 ·simp only[cz,List.not_mem_nil,or_false]at a;rcases a with rfl|rfl|rfl
  ·exact⟨kn1,rfl⟩
  ·exact⟨kn0,rfl⟩
  ·exact⟨kn2,rfl⟩
def AX:∀{k:Nat} {bs:List D},∀s∈sdn n p fr k bs,s.1∈kN/\s.2.2=n
 | k+1,bs,s,a=>by
  rw[sdn]at a;split at a
  ·rcases c4.mp a with w|w
   ·exact NT s w
   ·exact AX s w
  ·cases a
def II:∀s∈ssum n z p x y,s.1∈kN/\s.2.2=n:=λs a=>by
 unfold ssum at a;split at a
 ·cases cy.mp a;exact⟨kn3,rfl⟩
 ·split at a
  ·simp only[cz,List.not_mem_nil,or_false]at a;rcases a with rfl|rfl
   ·exact⟨kn0,rfl⟩
   ·exact⟨kn3,rfl⟩
  ·rcases c4.mp a with w|w
   ·obtain⟨i,_,rfl⟩:=da.mp w;exact⟨kn2,rfl⟩
   ·exact AX s w
def tZ:∀s∈ledS sm d,s.1∈kN/\s.2.2∈sm.map (·.1):=λs f=>by
 obtain⟨r,_,c⟩:=List.mem_flatMap.mp f;unfold nodeS at c;split at c
 ·split at c
  ·rename_i hz;obtain⟨a,b⟩:=II s c;obtain⟨q,g,e,_⟩:=FD hz;exact⟨a,by rw[b,<-e];exact List.mem_map_of_mem g⟩
  ·cases c
 ·cases c
def C9 (so:aP fx sm)(ho:∀x∈os,cB x)(bd:Bd fx sm os N d)(h:Bd fx sm os N e)(v:flt sm d=flt sm e)(l:ledS sm d=A++X)(j:ledS sm e=B++X):C4 fx sm os N (A++B.reverse.map bkS) d e:=by have r1:=LQ so ho bd.tm bd.pd;have i:=LQ so ho h.tm h.pd;have f:=tZ (sm:=sm) (d:=d);have k2:=tZ (sm:=sm) (d:=e);rw[l,mM]at r1;rw[j,mM,<-v]at i;rw[l]at f;rw[j]at k2;obtain⟨c,w,q⟩:=Option.bind_eq_some_iff.mp r1;obtain⟨c',g,o⟩:=Option.bind_eq_some_iff.mp i;obtain⟨u,z⟩:=EG so ho (λs a=>f s (cp _ a)) bd w;obtain⟨r,m⟩:=EG so ho (λs a=>k2 s (cp _ a)) h g;have:=LS so ho (λs a=>f s (ca _ a)) z m q o;subst this;exact u.app (r.back so ho m)
def VY (A B:List S3):Prop:=∀a b s t,A=a++[s]->B=b++[t]->s≠t
def HE (h:VY A B)(f:A++X=a++X')(d:B++X=B'++X'):X'.length<=X.length:=by
 apply Decidable.byContradiction;intro c;have c:X.length<X'.length:=by lia
 have key:∀{A a:List S3},A++X=a++X'->A=a++X'.take (X'.length - X.length):=λ{A a} e=>by have:=congrArg (List.take A.length) e;rw[List.take_left,List.take_append]at this;have l:=congrArg List.length e;rw[au,au]at l;rw[List.take_of_length_le dz,show A.length - a.length=X'.length - X.length by lia]at this;exact this
 have ne:X'.take (X'.length - X.length)≠[]:=λz=>by
  have:=congrArg List.length z;rw[bz]at this;simp at this
  lia
 obtain⟨y,s,hy⟩:∃y s,X'.take (X'.length - X.length)=y++[s]:=⟨_,_,(List.dropLast_concat_getLast ne).symm⟩
 refine h (a++y) (B'++y) s s ?_ ?_ rfl
 ·rw[key f,hy,cu]
 ·rw[key d,hy,cu]
def RJ (h:VY A B)(h':VY A' B')(c:A++X=A'++X')(a:B++X=B'++X'):A=A'/\B=B':=by
 have e:=HE h c a;have d:=HE h' c.symm a.symm;have:X.length=X'.length:=by lia
 have q:=(List.append_inj' c this)
 exact⟨q.1,(List.append_inj' a this).1⟩
end Lw
namespace Lw
open PySem L2
section
variable {P:eg}{w:eh}{K:d6}{mg:jD}{base:Heap}
theorem HF:∀{p q:List Nat},eqDs (p.map λ(i:Nat)=>D.int (i:Int)) (q.map λ(i:Nat)=>D.int (i:Int))=true->p=q
 | [],[],_=>rfl
 | [],_::_,h=>by cases (show false=true from h)
 | _::_,[],h=>by cases (show false=true from h)
 | i::p,j::q,h=>by have h:((i:Int) == (j:Int) && eqDs (p.map λ(i:Nat)=>D.int (i:Int)) (q.map λ(i:Nat)=>D.int (i:Int)))=true:=h;rw[Bool.and_eq_true]at h;have:=eq_of_beq h.1;rw[HF h.2,show i=j by lia]
def V3 (h:eqD (stD s) (stD t)=true):s=t:=by obtain⟨k,p,n⟩:=s;obtain⟨k2,a,n2⟩:=t;have h:((k == k2) && (eqDs (p.map λ(i:Nat)=>D.int (i:Int)) (a.map λ(i:Nat)=>D.int (i:Int)) && ((n == n2) && true)))=true:=h;simp only[Bool.and_eq_true,Bool.and_true]at h;rw[eq_of_beq h.1,HF h.2.1,eq_of_beq h.2.2]
def K8 (s:S3):depD (stD s)<=60:=by
 have:∀p:List Nat,depDs (p.map λ(i:Nat)=>D.int (i:Int))=0:=λp=>by
  induction p with
  | nil=>rfl
  | cons i p a=>rw[bg,depDs,a];rfl
 unfold stD iD;rw[depD,depDs,depDs,depDs,depDs,depD,this,show depD (.str s.1)=0 from rfl,show depD (.str s.2.2)=0 from rfl];decide
noncomputable def bkV:List (jF×V):=[(.inr "turn",.str "turn"),(.inr "left",.str "right"),(.inr "right",.str "left"),(.inr "drop",.str "add"),(.inr "add",.str "drop")]
def VB (h:k∈kinds):valV bkV (.inr k)=some (.str (backK k)):=by simp only[kinds,cz,List.not_mem_nil,or_false]at h;rcases h with rfl|rfl|rfl|rfl|rfl <;> rfl
def yE (K:d6)(C Pp:Addr):Sp:=λvs H Q _=>∃(g:Addr) (fx:cV) (sm:bL) (os:bA) (d e:D) (v u:V),vs=[.ref g,v,u]/\iK K C fx sm H g/\aH H d v/\aH H e u/\zX fx sm os d/\zX fx sm os e/\(lvs d+depD d<=51/\nds d+lvs d<=600)/\(lvs e+depD e<=51/\nds e+lvs e<=600)/\O0 Pp H /\
 (flt sm d≠flt sm e->∀H',cZ Pp H H'->O0 Pp H'->Q .non H') /\
 (flt sm d=flt sm e->∀(l:Addr) (us:List V) (A B X:List S3) (H':Hp),cZ Pp H H'->O0 Pp H'->H l=none->H' l=some (.lst us)->ledS sm (prD sm d)=A++X->ledS sm (prD sm e)=B++X->VY A B->us.length<=14400000->Reps H' ((A++B.reverse.map bkS).map stD) us->Q (.ref l) H')
structure XC (Pp l1 l2:Addr)(sa sb:List S3)(H Hs:Hp)(n:Nat)(H3:Hp):Prop where
 k2:K2 l1 l2 Hs H3
 ex:∃us zs A B X,H3 l1=some (.lst us)/\H3 l2=some (.lst zs)/\Reps H3 (A.map stD) us/\Reps H3 (B.map stD) zs/\sa=A++X/\sb=B++X/\A.length=n
def WS (g:Addr)(v u f1 f2:V)(Pp c a:Addr)(sa e:List S3)(H Hs:Hp)(n:Nat)(d:St)(f:Hp):Prop:=d=[some (.ref g),some v,some u,some (.ref c),some f1,some (.ref a),some f2]/\XC Pp c a sa e H Hs n f
def XE (B:List S3)(H:Hp)(i:Nat)(a:List V)(c:St)(H':Hp):Prop:=∃f e d:Option V,c=[f,e,d]/\aA H H'/\Reps H' (((B.drop (B.length - i)).reverse.map bkS).map stD) a
def QO (F:iE K "walk" tG f fd)(T:Txt mg)(G_BACK:∃u,mg "BACK" = some u/\aQ (.ref dB) u)(KD_BACK:WO P w K dB bkV)(l:Ow P w K mg base 10 "led_to_flat" (spLed K C Pp)):iX P w K mg base 11 f fd tG (yE K C Pp):=by
 refine F.okL rZ λ_ A _ s H _ _ _ hr hu h=>?_;obtain⟨g,fx,sm,os,d,e,v,u,rfl,sg,rd,re,td,te,⟨d1,d2⟩,⟨e1,e2⟩,lt,q0,q1⟩:=h;refine⟨_,(pss5 (gU (aS l hr (pa2 (pv 0) (pv 1))) (dL K rfl (i:=3) (j:=4) rfl rZ.nd rfl rfl rfl rfl)) (gU (aS l hr (pa2 (pv 0) (pv 2))) (dL K rfl (i:=5) (j:=6) rfl rZ.nd rfl rfl rfl rfl)) (bC (aJ (lN hu) (pv 4) (pv 6)) (aE (aF eZ)) aG) (jU du (PW.pt (lH (fV K (pv 3)) (lH (fV K (pv 5)) (lG (aJ (eA hu) (aV (pv 3) (iB eY aB)) (aV (pv 5) (iB eY aB))))))) (pss2 (bX (oO di PySem.F.slot_list_pop PySem.F.type_list_pop oR (pv 3))) (bX (oO di PySem.F.slot_list_pop PySem.F.type_list_pop oR (pv 5))))) (aF (aX bF (pv 3) (jX (bD.of rZ ["kind","place","name"] [none,none,none]) (lJ K rfl rfl T.n_reversed (pa1 (pv 5))) (P3 K rfl (n:=3) rfl (dU (bV (i:=0) (cT ["kind","place","name"]) rfl (Or.inl rfl)) (dU (bV (i:=1) (cT ["kind","place","name"]) rfl (Or.inl rfl)) (dU (bV (i:=2) (cT ["kind","place","name"]) rfl (Or.inl rfl)) nO)))) cU (bB (pa3 (IZ P w rfl rfl K rfl KD_BACK (fW G_BACK rfl) (pv 0) (λ_ _=>rfl)) (pv 1) (pv 2))))))),?_⟩
 ac_nf
 have fld:=sV td;have fle:=sV te;have dpd:=G9 sm d;exists k1;refine⟨_,rfl,_,rfl,g,fx,sm,os,d,v,rfl,sg,rd,td,d1,d2,lt,λT1 E us f1 H1 b1 O hl1 hT1 r1 len1 ru rf1=>⟨T1,_,rfl,hX.of hT1,rfl,_,_,rfl,_,_,rfl,rfl,k1 ?_⟩⟩;exists k2;refine⟨_,rfl,_,rfl,g,fx,sm,os,e,u,rfl,lt.sg b1 sg,lt.rep b1 re,te,e1,e2,O,λT2 r zs f2 H2 b2 N hl2 hT2 r2 len2 rz rf2=>⟨T2,_,rfl,hX.of hT2,rfl,_,_,rfl,_,_,rfl,rfl,k2 (aD ?_)⟩⟩;intro _ _ _ k3 e3 _;have b12:=b1.trans b2;have r1':=b2 _ _ (O.ne r1 λ_=>by simp) r1;obtain⟨ps,hps⟩:=O.tbl;have ru2:=Reps.but b2 (λxs z=>by rw[hps]at z;cases z) (λxs z=>by rw[hps]at z;cases z) ru;have n12:E≠r:=λz=>by rw[z,hl2]at r1;cases r1
 refine⟨_,rfl,_,rfl,flt sm d,flt sm e,O.rep b2 rf1,rf2,dz,_,rfl,aW (λc=>?_) (λc=>k3 (aD ?_))⟩
 ·exact h9 e3 (q0 (λz=>by rw[z,eF]at c;cases c) H2 b12 N)
 intro _ _ _ k4 _ _;have hfe:flt sm d=flt sm e:=HD fld fle (by cases h:eqD (flt sm d) (flt sm e)with|true=>rfl|false=>rw[h]at c;cases c);have q1:=q1 hfe;have ks1:∀s∈ledS sm (prD sm e),s.1∈kinds:=λs hs=>B0 (tZ s hs).1;have U:H r=none:=by cases h:H r with|none=>rfl|some o=>exact absurd hl2 (by rw[b1 _ _ (λz=>by obtain⟨ps,e3⟩:=N.tbl;rw[<-z,r2]at e3;cases e3) h];simp)
 generalize ledS sm (prD sm d)=sa at *;generalize ledS sm (prD sm e)=sb at *;have lsa:=Reps.len ru2;have lsb:=Reps.len rz;rw[af]at lsa lsb;refine oI (WS g v u f1 f2 Pp E r sa sb H H2) sa.length ⟨rfl,λ_ _ _ _ e=>e,us,zs,sa,sb,[],r1',r2,ru2,rz,dV,dV,rfl⟩ ?_;rintro n σ I ⟨rfl,k3,us,zs,A,B,X,W,h2,Z,rb,ea,eb,rfl⟩ R hT hF;have fin:VY A B->R false I:=λfar=>by
  refine hF _ (k4 (dP ?_));intro _ _ _ k5 e5 _;have lA:=Reps.len Z;have lB:=Reps.len rb;rw[af]at lA lB;have lA2:A.length<=7200000:=by have:=congrArg List.length ea;rw[au]at this;lia
  have lB2:B.length<=7200000:=by have:=congrArg List.length eb;rw[au]at this;lia
  refine⟨_,rfl,_,rfl,r,zs,rfl,h2,EV zs (XE B I) ⟨none,none,none,rfl,aA.refl _,by rw[Nat.sub_zero,List.drop_length];rfl⟩ (λi G σ H' _ ⟨_,_,_,_,s,_⟩=>s _ _ h2) ?_ ?_⟩
  ·rintro i x G σ H4 hi hx ⟨o0,o1,o2,rfl,s4,m⟩;obtain⟨sd,hsd,rx⟩:=Reps.get rb hx;rw[cf]at hsd;obtain⟨s,hs,rfl⟩:=Option.map_eq_some_iff.mp hsd;rw[lB]at hi hs;have la:=Reps.len m;rw[af,af,List.length_reverse,bS]at la;have ks:s.1∈kinds:=ks1 s (eb ▸ cp _ (bn hs));obtain⟨T,pa,rfl,hT,hpa⟩:=DH (aH.same s4 rx);refine⟨T,_,rfl,hX.of hT,rfl,_,_,rfl,_,_,rfl,_,_,rfl,rfl,?_⟩;refine⟨_,rfl,.inr s.1,.str (backK s.1),rfl,rfl,VB ks,_,rfl,_,rfl,szl 3,λT5 hT5=>⟨ltSz,?_⟩⟩;obtain⟨H5,zN,s5,r5⟩:=nwH (.tup [.str (backK s.1),.ref pa,.str s.2.2]) hT5;rw[zN];refine⟨_,_,_,rfl,s4.trans s5,?_⟩;have e1:B[B.length - 1 - i]' dz=s:=(cx.mp hs).2;rw[show B.length - (i+1)=B.length - 1 - i by lia,List.drop_eq_getElem_cons dz,e1,show B.length - 1 - i+1=B.length - i by lia,List.reverse_cons,az,az];exact Reps.append (Reps.same s5 m) ⟨_,[],rfl,pB r5 (s5 _ _ hpa),rfl⟩
  ·rintro G σ H4 ⟨o0,o1,o2,rfl,s4,m⟩ p hp;rw[lB,Nat.sub_self,List.drop_zero]at m;have la:=Reps.len m;rw[af,af,List.length_reverse]at la;obtain⟨H5,zN,s5,r5⟩:=nwH (.lst G) hp;rw[zN];have L:=s4.trans s5;refine .inr ⟨_,n5 (L _ _ W) r5 (leSz),λp6 Q=>?_⟩;have s6:aA H5 (upd H5 p6 (.lst (us++G))):=aA.upd Q;have Y:=L.trans s6;have bp:cZ Pp H (upd H5 p6 (.lst (us++G))):=λb o nb e=>Y _ _ (k3 _ _ (aC e hl1) (aC e U) (b12 b o nb e));have p6N:H p6=none:=by
    cases h:H p6 with
    | none=>rfl
    | some o=>exact absurd Q (by rw[L _ _ (k3 _ _ (aC h hl1) (aC h U) (b12 _ _ (λz=>by obtain⟨ps,e3⟩:=(k3.lt r1' r2 N).tbl;rw[<-z]at e3;rw[L _ _ e3]at Q;cases Q) h))];simp)
   refine h9 e5 (q1 p6 _ A B X _ bp (((k3.lt r1' r2 N).same Y)) p6N ew ea eb far (by rw[au];lia) ?_);rw[az];exact Reps.append (Reps.same Y Z) (Reps.same (s5.trans s6) m)
 rcases List.eq_nil_or_concat A with rfl|⟨A',a,rfl⟩
 ·cases (show us=[]from Z);exact⟨_,rfl,false,.inl ⟨[],d5.of W,rfl⟩,fin λa _ _ _ h=>by cases a <;> cases h⟩
 rcases List.eq_nil_or_concat B with rfl|⟨B',b,rfl⟩
 ·cases (show zs=[]from rb);refine⟨_,rfl,true,.inl ⟨us,d5.of W,?_⟩,_,rfl,false,.inl ⟨[],d5.of h2,rfl⟩,fin λ_ b _ _ _ h=>by cases b <;> cases h⟩;have:=Reps.len Z;rw[af,List.concat_eq_append,au]at this;cases us with
  | nil=>simp at this
  | cons _ _=>simp
 rw[List.concat_eq_append]at Z rb ea eb fin;rw[List.concat_eq_append]at fin;rw[az]at Z rb;obtain⟨q,u1,rfl,ra',ru1⟩:=eJ Z;obtain⟨J,z1,rfl,rb',rz1⟩:=eJ rb;refine⟨_,rfl,true,.inl ⟨_,d5.of W,dV⟩,_,rfl,true,.inl ⟨_,d5.of h2,dV⟩,?_⟩;refine⟨_,rfl,1,rfl,u1,by rw[ixV_l W];exact CP,_,rfl,1,rfl,z1,by rw[ixV_l h2];exact CP,stD a,stD b,ru1,rz1,K8 a,_,rfl,?_⟩;cases hab:eqD (stD a) (stD b)with
 | false =>
  refine fin λx y s t h k z=>?_;rw[(List.append_inj' h rfl).2 |> List.singleton_inj.mp,z,<-(List.append_inj' k rfl).2 |> List.singleton_inj.mp,eF]at hab;cases hab
 | true =>
  cases V3 hab;refine hT I ?_;exists k6;refine⟨_,rfl,tyL W,E,_,u1,rfl,rfl,W,dV,?_⟩;rw[List.dropLast_concat];have t4:aN I (upd I E (.lst q)):=aN.lst W;have r4:upd I E (.lst q) E=some (.lst q):=ew;have S:upd I E (.lst q) r=some (.lst (J++[z1])):=upk n12.symm h2;have k4:K2 E r I (upd I E (.lst q)):=λb o m1 _ e=>upk m1 e;generalize upd I E (.lst q)=H4 at t4 r4 S k4|-;refine k6 ⟨_,rfl,tyL S,r,_,z1,rfl,rfl,S,dV,?_⟩;rw[List.dropLast_concat];have t5:aN H4 (upd H4 r (.lst J)):=aN.lst S;have t35:=t4.trans t5;have k5:K2 E r H4 (upd H4 r (.lst J)):=λb o _ m2 e=>upk m2 e;refine⟨A'.length,dV,rfl,k3.trans (k4.trans k5),q,J,A',B',a::X,upk n12 r4,ew,Reps.nl t35 (i5 _) ra',Reps.nl t35 (i5 _) rb',by rw[ea,cu];rfl,by rw[eb,cu];rfl,rfl⟩
def sB {a:Nat->Sp}(hm:mg x=some (.ref f))(i:PySem.W.keepIn K (.ref f)=true)(d:eH K fd ps [])(ok:∀n,Ow P w K mg base (n+c) x (λvs H Q E=>∃m,m<n/\a m vs H Q E)->hZ P w K mg base lY (n+c+1) f fd ps (a n))(n:Nat):Ow P w K mg base (n+c+1) x (a n):=by
 have all:∀n,hZ P w K mg base lY (n+c+1) f fd ps (a n):=by
  intro n
  induction n using Nat.strongRecOn with
  | ind n g =>
   exact ok n ⟨f,fd,_,⟨λvs H Q E ⟨m,e,h⟩=>(g m e).len vs H Q E h,λA outer s H args us vs Q E l o d j ⟨m,e,h⟩=>((g m e).mono dz).run A outer s H args us vs Q E l o d j h⟩,hm,i,d⟩
 exact⟨f,fd,ps,all n,hm,i,d⟩
def zJ (f:Fl d)(r:aH H d v):(∃x,d = .str x/\v = .str x)\/∃nm ds c a,d = .tup (.str nm::ds)/\v = .ref c/\H c=some (.tup (.str nm::a))/\Reps H ds a/\Fls ds:=by
 rcases nE f with⟨x,rfl,_⟩|⟨nm,ds,rfl,fd⟩
 ·exact .inl ⟨x,rfl,r⟩
 ·obtain⟨c,vs,rfl,h,_,a,rfl,e,g⟩:=r;cases e;exact .inr ⟨nm,ds,c,a,rfl,rfl,h,g,fd⟩
def xZ {a:cV}{sm:bL}{os:bA}{n:Str}{ds:List D}(h:aM a sm os (.tup (.str n::ds))):nJ a sm n ds.length/\IsTms a sm os ds/\ds.length<=lvss ds/\1<=ds.length/\lvs (.tup (.str n::ds))=lvss ds/\depD (.tup (.str n::ds))=depDs ds+1:=by have h':=h;unfold aM at h';exact⟨h'.1,h'.2,dQ h'.2,i8 h'.1,(cG (sm:=sm) (.inl rfl)).1,(cG (sm:=sm) (.inl rfl)).2.2.1⟩
def sD {c:cV}{sm:bL}{os:bA}{ds:List D}{i:Nat}{e:D}(f:Fls ds)(h:IsTms c sm os ds)(a:ds[i]?=some e):Fl e/\aM c sm os e/\lvs e<=lvss ds/\depD e<=depDs ds:=⟨bQ f e (bn a),dR h e (bn a),pU a,fL a⟩
structure Tq (fx:cV)(sm:bL)(os:bA)(n:Nat)(d:D)(v:V)(H:Hp):Prop where
 re:aH H d v
 fl:Fl d
 tm:aM fx sm os d
 lv:lvs d<=100
 dp:depD d<=n
def spLvs (n:Nat):Sp:=λvs H Q _=>∃(a:cV) (sm:bL) (os:bA) (d:D) (v:V),vs=[v]/\Tq a sm os n d v H/\∀H',aA H H'->Q (.int (lvs d:Int)) H'
def XA (f:D->Nat)(ds:List D)(H:Hp)(i:Nat)(a:List V)(c:St)(g:Hp):Prop:=∃e:Option V,c=[e]/\aA H g/\a=((ds.take i).map λd=>((f d:Nat):Int)).map V.int
def FG:∀ds:List D,(ds.map λd=>((lvs d:Nat):Int)).sum=(lvss ds:Int)
 | []=>rfl
 | d::ds=>by rw[bg,List.sum_cons,FG ds,lvss];lia
def UD (n:Nat)(F:iE K "_law_leaves" d8 f fd)(T:Txt mg)(a:Ow P w K mg base (n+1) "_law_leaves" (λvs H Q E=>∃m,m<n/\spLvs m vs H Q E)):iX P w K mg base (n+1+1) f fd d8 (spLvs n):=by
 refine F.okL mI λ_ _ _ s H _ _ _ W _ h=>?_;obtain⟨Y,sm,os,d,v,rfl,t,q⟩:=h;refine⟨_,(pss2 (bC (fE K T.n_isinstance (pv 0) T.n_str) (aE (aF aB)) aG) (aF (cW (J6 rfl) T.n_sum (pa1 (jX (bD.of mI ["_law_part"] [none]) (gF K (dM iF (pv 0) (bU aB) cH)) (bV (i:=0) (cT ["_law_part"]) rfl (Or.inl rfl)) cU (d9 a (W.mono dz) pass0 rfl (pa1 (pv 0)))))))),?_⟩
 ac_nf
 obtain⟨rep,fl,tm,lv,dp⟩:=t;rcases zJ fl rep with⟨x,rfl,rfl⟩|⟨nm,ds,L,c,rfl,rfl,g,j,G⟩
 ·have q:=q H (aA.refl _);rw[nS]at q;exact⟨_,rfl,.str x,.ty "str",true,rfl,rfl,_,rfl,q⟩
 obtain⟨hh,A,l1,l2,Z,ed⟩:=xZ tm;have S:=Reps.len j;refine⟨_,rfl,.ref L,.ty "str",false,rfl,gX g,_,rfl,?_⟩;refine⟨_,rfl,(1:Int),rfl,L,_,rfl,.inr g,λ_ z=>by have:=z.1;simp[HT.sIx]at this,λp o X ho=>?_⟩;obtain⟨rfl,_⟩:=ho.resolve_left λz=>by rw[g]at z;exact nomatch z.2
 rw[iP];refine⟨p,c,rfl,.inr ew,λJ O=>?_⟩;have B:aA H (upd H p (.tup c)):=aA.upd X;have C:upd H p (.tup c) p=some (.tup c):=ew;generalize upd H p (.tup c)=H0 at B C O|-;refine cQ O (XA lvs ds H0) ⟨none,rfl,aA.refl _,rfl⟩ (λi r I H' _ ⟨_,_,s,_⟩=>by rw[s _ _ C,C]) ?_ ?_
 ·rintro i x r I H1 U ⟨R,rfl,u,rfl⟩;obtain⟨e,N,re⟩:=Reps.get j U;obtain⟨f1,f2,f3,f4⟩:=sD G A N;refine⟨_,rfl,depD e,dz,Y,sm,os,e,x,rfl,⟨aH.same (B.trans u) re,f1,f2,dz,ac _⟩,λH2 s2=>⟨ltSz (by rw[af,af,bz];lia),_,rfl,u.trans s2,?_⟩⟩;rw[aR N,az,az];rfl
 ·rintro r I H1 ⟨R,rfl,u,rfl⟩ l hl;rw[S,bI];refine⟨l,_,rfl,ew,?_⟩;rw[FG,<-Z];exact q _ ((B.trans u).trans (aA.upd hl))
def QC (F:iE K "_law_leaves" d8 f fd)(T:Txt mg)(hm:mg "_law_leaves" = some (.ref f))(a:PySem.W.keepIn K (.ref f)=true)(c:eH K fd (prmS d8) [])(n:Nat):Ow P w K mg base (n+2) "_law_leaves" (spLvs n):=sB hm a c (λn O=>UD n F T O) n
def spDep (n:Nat):Sp:=λvs H Q _=>∃(a:cV) (sm:bL) (os:bA) (d:D) (v:V),vs=[v]/\Tq a sm os n d v H/\∀H',aA H H'->Q (.int (depD d:Int)) H'
def HI:∀{ds:List D},ds≠[]->∃d∈ds,depD d=depDs ds
 | [d],_=>⟨d,ax,by rw[depDs,depDs];lia⟩
 | d::e::ds,_=>by
  obtain⟨x,a,h⟩:=HI (ds:=e::ds) dV;rw[depDs];by_cases c:depDs (e::ds)<=depD d
  ·exact⟨d,ax,dz⟩
  ·exact⟨x,bc _ a,dz⟩
def UK (n:Nat)(F:iE K "_law_depth" eM f fd)(T:Txt mg)(a:Ow P w K mg base (n+1) "_law_depth" (λvs H Q E=>∃m,m<n/\spDep m vs H Q E)):iX P w K mg base (n+1+1) f fd eM (spDep n):=by
 refine F.okL oC λ_ _ _ s H _ _ _ Z _ h=>?_;obtain⟨fx,sm,os,d,v,rfl,t,q⟩:=h;refine⟨_,(pss2 (bC (fE K T.n_isinstance (pv 0) T.n_str) (aE (aF aB)) aG) (aF (aX bF aB (cW (J8 rfl) T.n_max (pa1 (jX (bD.of oC ["_law_part"] [none]) (gF K (dM iF (pv 0) (bU aB) cH)) (bV (i:=0) (cT ["_law_part"]) rfl (Or.inl rfl)) cU (d9 a (Z.mono dz) pass0 rfl (pa1 (pv 0))))))))),?_⟩
 ac_nf
 obtain⟨rep,fl,tm,lv,dp⟩:=t;rcases zJ fl rep with⟨x,rfl,rfl⟩|⟨nm,ds,O,c,rfl,rfl,g,j,L⟩
 ·exact⟨_,rfl,.str x,.ty "str",true,rfl,rfl,_,rfl,q H (aA.refl _)⟩
 obtain⟨hh,A,l1,R,el,ed⟩:=xZ tm;have X:=Reps.len j;refine⟨_,rfl,.ref O,.ty "str",false,rfl,gX g,_,rfl,?_⟩;refine⟨_,rfl,(1:Int),rfl,O,_,rfl,.inr g,λ_ z=>by have:=z.1;simp[HT.sIx]at this,λp o hp ho=>?_⟩;obtain⟨rfl,_⟩:=ho.resolve_left λz=>by rw[g]at z;exact nomatch z.2
 rw[iP];refine⟨p,c,rfl,.inr ew,λJ U=>?_⟩;have B:aA H (upd H p (.tup c)):=aA.upd hp;have C:upd H p (.tup c) p=some (.tup c):=ew;generalize upd H p (.tup c)=H0 at B C U|-;refine cQ U (XA depD ds H0) ⟨none,rfl,aA.refl _,rfl⟩ (λi r N H' _ ⟨_,_,s,_⟩=>by rw[s _ _ C,C]) ?_ ?_
 ·rintro i x r N H1 Y ⟨W,rfl,u,rfl⟩;obtain⟨e,S,re⟩:=Reps.get j Y;obtain⟨f1,f2,f3,f4⟩:=sD L A S;refine⟨_,rfl,depD e,dz,fx,sm,os,e,x,rfl,⟨aH.same (B.trans u) re,f1,f2,dz,ac _⟩,λH2 s2=>⟨ltSz (by rw[af,af,bz];lia),_,rfl,u.trans s2,?_⟩⟩;rw[aR S,az,az];rfl
 ·rintro r N H1 ⟨W,rfl,u,rfl⟩ l hl;rw[X,bI];have ne:ds≠[]:=λz=>by rw[z]at R;simp at R
  refine⟨l,_,rfl,ew,by simpa using ne,λM hM all=>.inl ⟨_,rfl,?_⟩⟩;obtain⟨d0,I,e0⟩:=HI ne;obtain⟨d1,G,rfl⟩:=da.mp hM;have h1:=all _ (da.mpr ⟨d0,I,rfl⟩);have h2:=nX G;have q:=q _ ((B.trans u).trans (aA.upd (o:=.lst ((ds.map λd=>((depD d:Nat):Int)).map V.int)) hl));rw[ed]at q;rw[show(1:Int)+((depD d1:Nat):Int)=((depDs ds+1:Nat):Int)by lia];exact q
def QD (F:iE K "_law_depth" eM f fd)(T:Txt mg)(hm:mg "_law_depth" = some (.ref f))(a:PySem.W.keepIn K (.ref f)=true)(c:eH K fd (prmS eM) [])(n:Nat):Ow P w K mg base (n+2) "_law_depth" (spDep n):=sB hm a c (λn O=>UK n F T O) n
def HS (e:H a=some (.tup xs))(d:H b=some (.tup ys))(hz:xs.length+ys.length<=sizeLine)(nx:xs≠[])(c:ys≠[]):catO H (.ref a) (.ref b)=some (.tup (xs++ys)):=by unfold catO;simp only[e,d];rw[aj ⟨hz,nx,c⟩]
def spPrt (n:Nat):Sp:=λvs H Q _=>∃(a:cV) (sm:bL) (os:bA) (nm:Str) (d:D) (v:V),vs=[.str nm,v]/\Tq a sm os n d v H/\∀(l:Addr) (us:List V) (H':Hp),aA H H'->H l=none->H' l=some (.lst us)->Reps H' (prt nm d) us->Q (.ref l) H'
def XR (nm:Str)(v:V)(l:Addr)(ds:List D)(H:Hp)(i:Nat)(c:St)(a:Hp):Prop:=∃(us:List V) (o3:Option V),c=[some (.str nm),some v,some (.ref l),o3]/\aA H a/\a l=some (.lst us)/\Reps a (prts nm (ds.take i)) us
def BA {n:Str}{a:cV}{sm:bL}{os:bA}{ds:List D}(f:Fls ds)(h:IsTms a sm os ds):(prts n ds).length<=lvss ds:=by have:=dQ (FU (n:=n) f h);rw[wV f]at this;exact this
def xE (h:Fls ds)(k:Nat):Fls (ds.take k):=fB λd hd=>bQ h d (List.mem_of_mem_take hd)
def UB (n:Nat)(F:iE K "_law_parts" eL f fd)(T:Txt mg)(a:Ow P w K mg base (n+1) "_law_parts" (λvs H Q E=>∃m,m<n/\spPrt m vs H Q E)):iX P w K mg base (n+1+1) f fd eL (spPrt n):=by
 refine F.okL kD λ_ _ _ _ H _ Q _ hr hu h=>?_;obtain⟨fx,sm,os,nm,d,v,rfl,t,q⟩:=h;refine⟨_,(pss2 (bC (PW.pt (lH (fE K T.n_isinstance (pv 1) T.n_tuple) (lG (aJ (eA hu) (aV (pv 1) aB) (pv 0))))) (pss3 (bJ 2 kD.nd (bW gA)) (iA (gF K (dM iF (pv 1) (bU aB) cH)) (gV 3 kD.nd) (aE (bX (fX di PySem.F.slot_list_extend PySem.F.type_list_extend jC (pv 2) (pa1 (d9 a (hr.mono dz) pass0 rfl (pa2 (pv 0) (pv 3)))))))) (aF (pv 2))) aG) (aF (bW (pa1 (pv 1))))),?_⟩
 ac_nf
 obtain⟨rep,fl,tm,lv,dp⟩:=t;have one:prt nm d=[d]->tSeq tNext (tRet (tLst (tCons (tVar 1) tNil))) {nx:=λ_ H'=>Q .non H',rt:=Q} [some (.str nm),some v,none,none] H:=λe=>by refine⟨_,rfl,szl 1,λl hl=>q l [v] _ (aA.upd hl) hl ew ?_⟩;rw[e];exact⟨v,[],rfl,aH.same (aA.upd hl) rep,rfl⟩
 rcases zJ fl rep with⟨x,rfl,rfl⟩|⟨m,ds,W,g,rfl,rfl,r,C,u⟩
 ·exact⟨_,rfl,.str x,.ty "tuple",false,rfl,rfl,false,rfl,one (j7 _ _)⟩
 obtain⟨hh,A,l1,l2,el,ed⟩:=xZ tm;have lr:=Reps.len C;refine⟨_,rfl,.ref W,.ty "tuple",true,rfl,uC r,true,rfl,?_⟩;refine⟨_,rfl,.str m,by rw[ixV_t r,atI_zero],_,rfl,.str m,.str nm,rfl,rfl,aw _,_,rfl,aW (λc=>?_) (λc=>?_)⟩
 rotate_left
 ·have c:(m == nm)=false:=c;exact one (mO (ne_of_beq_false c) ds)
 have c:(m == nm)=true:=c;obtain rfl:=eq_of_beq c;rw[mP]at q;exists k1;refine⟨szl 0,λl hl=>k1 ?_⟩;exists k2;obtain⟨U,zN,Z,r1⟩:=nwH (.lst []) hl;rw[zN];have j:=Z _ _ r;refine⟨_,rfl,(1:Int),rfl,W,_,rfl,.inr j,λ_ z=>by have:=z.1;simp[HT.sIx]at this,λp o hp ho=>?_⟩;obtain⟨rfl,_⟩:=ho.resolve_left λz=>by rw[j]at z;exact nomatch z.2
 rw[iP];refine⟨p,g,rfl,.inr ew,λJ hJ=>?_⟩;have s2:aA U (upd U p (.tup g)):=aA.upd hp;have X:upd U p (.tup g) p=some (.tup g):=ew;generalize upd U p (.tup g)=H2 at s2 X hJ|-;refine gZ hJ (λi N L=>XR m (.ref W) l ds H i N L/\L p=some (.tup g)) ⟨⟨[],none,rfl,Z.trans s2,s2 _ _ r1,rfl⟩,X⟩ (λi N H' _ h=>by rw[h.2,X]) ?_ ?_
 ·rintro i x N L hx ⟨⟨us,o3,rfl,R,S,B⟩,G⟩;obtain⟨e,he,re⟩:=Reps.get C hx;obtain⟨f1,f2,f3,f4⟩:=sD u A he;have lu:=Reps.len B;have lt1:=BA (n:=m) (xE u i) (kW λd hd=>dR A d (List.mem_of_mem_take hd));have lt2:lvss (ds.take i)<=lvss ds:=by
   have:=mU (ds.take i) (ds.drop i);rw[List.take_append_drop]at this
   lia
  refine⟨_,rfl,.inl ⟨rfl,_,d5.of S⟩,_,rfl,_,rfl,depD e,dz,fx,sm,os,m,e,x,rfl,⟨aH.same R re,f1,f2,dz,ac _⟩,λl2 Y H4 O hl2 h4 rz=>?_⟩;have lz:=Reps.len rz;have lp:=dQ (L1 (n:=m) f1 f2);rw[tU f1]at lp;have I:=O _ _ S;refine⟨l,l2,us,Y,rfl,rfl,I,.inl h4,leSz,?_⟩;have t5:aN H4 (upd H4 l (.lst (us++Y))):=aN.lst I;refine⟨⟨_,_,rfl,λb o eb=>upk (aC eb hl) (O _ _ (R _ _ eb)),ew,?_⟩,t5 _ _ (O _ _ G)⟩;rw[aR he,BB,show prts m [e]=prt m e by rw[prts,prts,bu]];exact Reps.append (Reps.tups t5 (FV (xE u i)) (Reps.same O B)) (Reps.tups t5 (fB λy hy=>(yN f1 y hy).1) rz)
 ·rintro N L ⟨⟨us,o3,rfl,R,S,B⟩,G⟩;rw[lr,bI]at B;exact k2 ⟨_,rfl,q l us L R hl S B⟩
def QB (F:iE K "_law_parts" eL f fd)(T:Txt mg)(hm:mg "_law_parts" = some (.ref f))(a:PySem.W.keepIn K (.ref f)=true)(c:eH K fd (prmS eL) [])(n:Nat):Ow P w K mg base (n+2) "_law_parts" (spPrt n):=sB hm a c (λn O=>UB n F T O) n
def spMix:Sp:=λvs H Q _=>∃(p b:Addr) (es:List D) (xs:List V),vs=[.ref p,.ref b]/\aU H p/\H b=some (.lst xs)/\Reps H es xs/\Fls es/\depDs es<=59/\es.length<=100 /\
 ∀(l:Addr) (ys:List V) (fs:List D) (H':Hp),cZ p H H'->aU H' p->H l=none->H' l=some (.lst ys)->Reps H' fs ys->fs.Perm es->Q (.ref l) H'
structure X0 (p la lf:Addr)(es:List D)(H:Hp)(n:Nat)(H1:Hp):Prop where
 bt:cZ p H H1
 pt:aU H1 p
 ex:∃us ws ls fs,H1 la=some (.lst us)/\H1 lf=some (.lst ws)/\Reps H1 ls us/\Reps H1 fs ws/\Fls ls/\Fls fs/\(fs++ls).Perm es/\ls.length=n
def X1 (p b a lf:Addr)(es:List D)(H:Hp)(n:Nat)(c:St)(d:Hp):Prop:=c=[some (.ref p),some (.ref b),some (.ref a),some (.ref lf)]/\X0 p a lf es H n d
theorem Reps.erase:∀{ds:List D} {vs:List V} (i:Nat),Reps H ds vs->Reps H (ds.eraseIdx i) (vs.eraseIdx i)
 | [],_,_,h=>by cases (show _=[]from h);exact rfl
 | _::_,_,0,⟨_,_,e,_,b⟩=>by subst e;exact b
 | _::_,_,i+1,⟨v,_,e,a,b⟩=>by subst e;exact⟨v,_,rfl,a,Reps.erase i b⟩
theorem perm_erase {c:Type}:∀{l:List c} {i:Nat} {x:c},l[i]?=some x->(x::l.eraseIdx i).Perm l
 | _::_,0,_,h=>by cases h;exact .refl _
 | a::l,i+1,x,h=>by have:=perm_erase (l:=l) (i:=i) (x:=x) (by simpa using h);exact(List.Perm.swap a x _).trans (this.cons a)
def UC (F:iE K "_law_mixed" gQ f fd)(T:Txt mg)(a:Ow P w K mg base 1 "_law_take" gG):iX P w K mg base 2 f fd gQ spMix:=by
 refine F.okL kE λ_ _ _ _ H _ _ _ hr hu h=>?_;obtain⟨p,b,es,xs,rfl,pt,hb,res,fes,d59,e100,q⟩:=h;refine⟨_,(pss4 (bJ 2 kE.nd (bR jZ rfl T.n_list rfl (pa1 (pv 1)))) (bJ 3 kE.nd (bW gA)) (jU du (aJ (lN hu) (pv 2) (bW gA)) (aE (bX (fX di dq dj eU (pv 3) (pa1 (fX di PySem.F.slot_list_pop PySem.F.type_list_pop NC (pv 2) (pa1 (aS a hr (pa2 (pv 0) (cW bK T.n_len (pa1 (pv 2)))))))))))) (aF (pv 3))),?_⟩
 ac_nf
 exists k1;refine⟨_,rfl,_,xs,rfl,seqV_l hb,λg A=>k1 ?_⟩;exists k2;have s1:aA H (upd H g (.lst xs)):=aA.upd A;have r1:upd H g (.lst xs) g=some (.lst xs):=ew;have p1:aU (upd H g (.lst xs)) p:=pt.but (pt.ne A);generalize upd H g (.lst xs)=H1 at s1 r1 p1|-;refine⟨szl 0,λlf j=>k2 ?_⟩;exists k3;have s2:aA H1 (upd H1 lf (.lst [])):=aA.upd j;have r2:upd H1 lf (.lst []) lf=some (.lst []):=ew;have p2:aU (upd H1 lf (.lst [])) p:=p1.but (p1.ne j);generalize upd H1 lf (.lst [])=H2 at s2 r2 p2|-;have S:H lf=none:=by cases e:H lf with|none=>rfl|some o=>rw[s1 _ _ e]at j;cases j
 have O:p≠g:=pt.ne A;have N:p≠lf:=p1.ne j;have Q:g≠lf:=λz=>by rw[<-z,r1]at j;cases j
 have J:=s1.trans s2;refine oI (X1 p b g lf es H) es.length ⟨rfl,J.but,p2,xs,[],es,[],s2 _ _ r1,r2,Reps.same J res,rfl,fes,trivial,.refl _,rfl⟩ ?_;rintro n σ H3 ⟨rfl,b3,p3,us,ws,l,fs,h1,h2,v,C,X,Y,L,rfl⟩ R hT hF;have lu:=Reps.len v;have lw:=Reps.len C;have lp:=L.length_eq;rw[au]at lp;have dls:depDs l<=59:=hU λd hd=>aq (nX (L.mem_iff.mp (ca _ hd))) d59;refine⟨_,rfl,szl 0,λz hz=>⟨.lst l,.lst [],⟨g,us,rfl,upk (aC h1 hz) h1,Reps.same (aA.upd hz) v⟩,⟨z,[],rfl,ew,rfl⟩,by rw[depD];lia,_,rfl,?_⟩⟩;have r:aA H3 (upd H3 z (.lst [])):=aA.upd hz;have p4:aU (upd H3 z (.lst [])) p:=p3.but (p3.ne hz);generalize upd H3 z (.lst [])=H4 at r p4|-;cases l with
 | nil =>
  rw[bu]at L;exact hF _ (k3 ⟨_,rfl,q lf ws fs H4 (λc o nc I=>r _ _ (b3 c o nc I)) p4 S (r _ _ h2) (Reps.same r C) L⟩)
 | cons e0 ls0 =>
  generalize he:e0::ls0=l at *;have l0:0<l.length:=by rw[<-he];simp
  have e4:(!eqD (.lst l) (.lst []))=true:=by rw[<-he];rfl
  rw[e4];refine hT _ ?_;exists 0,k4;have G:=r _ _ h1;refine⟨_,rfl,.inl ⟨rfl,_,d5.of (r _ _ h2)⟩,_,rfl,.inl ⟨rfl,_,d5.of G⟩,_,rfl,_,rfl,_,_,rfl,(by dsimp only;rw[lenV_l G,lu];rfl),p,l.length,rfl,p4,dz,dz,λi x y i0 i1=>?_⟩;obtain⟨i,rfl⟩:∃k:Nat,i=(k:Int):=⟨i.toNat,dz⟩
  have li:i<l.length:=by lia
  have b5:cZ p H4 (upd H4 p (.lst [.int x,.int y])):=cZ.upd _ _ _;have p5:aU (upd H4 p (.lst [.int x,.int y])) p:=⟨_,_,ew⟩
  have t5:=aN.ofBut b5 p4;generalize upd H4 p (.lst [.int x,.int y])=H5 at b5 p5 t5|-;have W:=b5 _ _ O.symm G;have h25:=b5 _ _ N.symm (r _ _ h2);obtain⟨u,hu⟩:∃u,us[i]?=some u:=⟨_,ay dz⟩
  obtain⟨e,U,re⟩:=Reps.get v hu;have fe:=bQ X e (bn U);refine⟨g,us,(i:Int),i,u,rfl,rfl,W,dz,dz,by rw[seqIndex_of dz dz,cw],hu,?_⟩;have t6:aN H5 (upd H5 g (.lst (us.eraseIdx i))):=aN.lst W;have r6:upd H5 g (.lst (us.eraseIdx i)) g=some (.lst (us.eraseIdx i)):=ew;have E:upd H5 g (.lst (us.eraseIdx i)) lf=some (.lst ws):=upk Q.symm h25;have p6:aU (upd H5 g (.lst (us.eraseIdx i))) p:=by obtain⟨c,d,ep⟩:=p5;exact⟨c,d,upk O ep⟩
  have b6:cZ p H (upd H5 g (.lst (us.eraseIdx i))):=λc o nc I=>upk (aC I A) (b5 _ _ nc (r _ _ (b3 c o nc I)));generalize upd H5 g (.lst (us.eraseIdx i))=H6 at t6 r6 E p6 b6|-;refine⟨lf,ws,u,rfl,rfl,E,ltSz,?_⟩;have t7:aN H6 (upd H6 lf (.lst (ws++[u]))):=aN.lst E;have B:=(aN.of r).trans (t5.trans (t6.trans t7));have Z:Fls (l.eraseIdx i):=fB λd hd=>bQ X d (List.mem_of_mem_eraseIdx hd);refine k4 ⟨(l.eraseIdx i).length,by rw[List.length_eraseIdx_of_lt li];lia,rfl,λc o nc I=>upk (aC I S) (b6 c o nc I),by obtain⟨c,d,ep⟩:=p6;exact⟨c,d,upk N ep⟩,us.eraseIdx i,ws++[u],l.eraseIdx i,fs++[e],upk Q r6,ew,Reps.tups B Z (Reps.erase i v),Reps.snoc (aH.tups B fe re) (Reps.tups B Y C),Z,fB λd hd=>?_,?_,rfl⟩
  ·rcases c4.mp hd with m|m
   ·exact bQ Y d m
   ·cases cy.mp m;exact fe
  ·rw[cu,List.singleton_append];exact((perm_erase U).append_left fs).trans L
def spBrk:Sp:=λvs H Q _=>∃(p b:Addr) (fx:cV) (sm:bL) (os:bA) (nm z:Str) (m L:Nat) (X es:List D) (xs:List V),vs=[.ref p,.str nm,.ref b]/\aU H p/\H b=some (.lst xs)/\Reps H es xs/\aP fx sm/\(∀x∈os,cB x)/\zr sm nm=some z/\nm∈sm.map (·.1)/\Bq fx sm os nm z m L X es/\2<=es.length/\es.length<=100 /\
 ∀(v:V) (us:List D) (H':Hp),cZ p H H'->aU H' p->aH H' (.tup (.str nm::us)) v->Bq fx sm os nm z m L X us->2<=us.length->Q v H'
structure YT (fx:cV)(sm:bL)(os:bA)(nm z:Str)(m L:Nat)(X:List D)(p la:Addr)(H:Hp)(n:Nat)(H1:Hp):Prop where
 bt:cZ p H H1
 pt:aU H1 p
 ex:∃us ls,H1 la=some (.lst us)/\Reps H1 ls us/\Bq fx sm os nm z m L X ls/\2<=ls.length/\ls.length=n/\n<=100
def YU (e:cV)(sm:bL)(os:bA)(nm z:Str)(m L:Nat)(X:List D)(p a:Addr)(H:Hp)(n:Nat)(c:St)(f:Hp):Prop:=(∃d:Option V,c=[some (.ref p),some (.str nm),some (.ref a),d])/\YT e sm os nm z m L X p a H n f
def split2 {c:Type}{l:List c}{i:Nat}(h:i+1<l.length):∃a b,l[i]?=some a/\l[i+1]?=some b/\l=l.take i++a::b::l.drop (i+2):=by refine⟨l[i],l[i+1],ay _,ay _,?_⟩;rw[<-List.drop_eq_getElem_cons h,<-List.drop_eq_getElem_cons dz,List.take_append_drop]
def Reps.take:∀{ds:List D} {vs:List V} (i:Nat),Reps H ds vs->Reps H (ds.take i) (vs.take i)
 | [],_,i,h=>by cases (show _=[]from h);simp;rfl
 | _::_,_,0,_=>by simp;rfl
 | _::_,_,i+1,⟨v,_,e,a,b⟩=>by subst e;exact⟨v,_,rfl,a,Reps.take i b⟩
def Reps.drop:∀{ds:List D} {vs:List V} (i:Nat),Reps H ds vs->Reps H (ds.drop i) (vs.drop i)
 | [],_,i,h=>by cases (show _=[]from h);simp;rfl
 | _::_,_,0,h=>h
 | _::_,_,i+1,⟨v,_,e,a,b⟩=>by subst e;exact Reps.drop i b
def UL (F:iE K "_law_bracketed" eE f fd)(T:Txt mg)(g:Ow P w K mg base 1 "_law_take" gG):iX P w K mg base 2 f fd eE spBrk:=by
 refine F.okL gJ λ_ _ _ _ H _ _ _ hr _ h=>?_;obtain⟨p,b,fx,sm,os,nm,z,m,L,X,es,xs,rfl,pt,hb,res,so,ho,hz,hn,bq,l2,e100,q⟩:=h;refine⟨_,(pss3 (bJ 2 gJ.nd (bR jZ rfl T.n_list rfl (pa1 (pv 2)))) (jU du (PW.pt (lH (aJ wO (cW bK T.n_len (pa1 (pv 2))) aB) (lG (aJ wO (aS g hr (pa2 (pv 0) aB)) aB)))) (pss2 (bJ 3 gJ.nd (aS g hr (pa2 (pv 0) (aX gC (cW bK T.n_len (pa1 (pv 2))) aB)))) (gU (bW (pa1 (bB (pa3 (pv 1) (aV (pv 2) (pv 3)) (aV (pv 2) (aX bF (pv 3) aB)))))) (IY (pv 2) (bU (pv 3)) (bU (aX bF (pv 3) aB)))))) (aF (aX bF (bB (pa1 (pv 1))) (bR dY rfl T.n_tuple rfl (pa1 (pv 2)))))),?_⟩
 ac_nf
 exists k1;refine⟨_,rfl,_,xs,rfl,seqV_l hb,λu E=>k1 ?_⟩;exists k2;have s1:aA H (upd H u (.lst xs)):=aA.upd E;have r1:upd H u (.lst xs) u=some (.lst xs):=ew;have p1:aU (upd H u (.lst xs)) p:=pt.but (pt.ne E);generalize upd H u (.lst xs)=H1 at s1 r1 p1|-;have A:p≠u:=pt.ne E;refine oI (YU fx sm os nm z m L X p u H) es.length ⟨⟨none,rfl⟩,s1.but,p1,xs,es,r1,Reps.same s1 res,bq,l2,rfl,e100⟩ ?_;rintro n σ H3 ⟨⟨o3,rfl⟩,b3,p3,us,v,h3,S,G,l23,rfl,n100⟩ R hT hF;have lu:=Reps.len S;have fin:∀r,cZ p H3 r->aU r p->R false r:=λr I p4=>by
  have h4:=I _ _ A.symm h3;have r4:=Reps.tups (aN.ofBut I p3) G.fl S;refine hF _ (k2 (dP ?_));intro _ _ _ k3 e3 _;refine⟨_,rfl,szl 1,λt1 B=>⟨_,rfl,u,us,rfl,.inl (upk (aC h4 B) h4),λt2 O Y=>?_⟩⟩;have s5:aA r (upd r t1 (.tup [.str nm])):=aA.upd B;have U:upd r t1 (.tup [.str nm]) t1=some (.tup [.str nm]):=ew;have N:=s5 _ _ h4;generalize upd r t1 (.tup [.str nm])=H4' at s5 U N Y;rcases Y with⟨Y,_⟩|⟨_,ht2,rfl⟩
  ·rw[N]at Y;cases Y
  have J:aA H4' (upd H4' t2 (.tup us)):=aA.upd ht2;have r6:upd H4' t2 (.tup us) t2=some (.tup us):=ew;have une:us≠[]:=λz=>by rw[z]at lu;simp at lu;lia
  refine .inr ⟨_,HS (J _ _ U) r6 (leSz) dV une,λt3 ht3=>?_⟩;generalize upd H4' t2 (.tup us)=O at J r6 ht3|-;have s7:aA O (upd O t3 (.tup ([.str nm]++us))):=aA.upd ht3;have Q:=(s5.trans J).trans s7;refine h9 e3 (q _ v _ ((b3.trans I).trans Q.but) ?_ ⟨t3,_,rfl,ew,.str nm,us,rfl,rfl,Reps.same Q r4⟩ G l23);obtain⟨c,d,ep⟩:=p4;exact⟨c,d,Q _ _ ep⟩
 refine⟨_,rfl,_,_,rfl,(by dsimp only;rw[lenV_l h3,lu];rfl),_,_,rfl,rfl,_,rfl,aW (λc=>?_) (λ_=>fin H3 (cZ.refl _ _) p3)⟩;have l3:2<v.length:=by have:=bx c;lia
 refine⟨_,rfl,p,3,rfl,p3,dw,dw,λi0 x0 y0 _ _=>?_⟩;have I:cZ p H3 (upd H3 p (.lst [.int x0,.int y0])):=cZ.upd _ _ _;have p4:aU (upd H3 p (.lst [.int x0,.int y0])) p:=⟨_,_,ew⟩
 generalize upd H3 p (.lst [.int x0,.int y0])=r at I p4|-;refine⟨_,_,rfl,rfl,_,rfl,?_⟩;cases hd:decide (i0 > 0)with
 | false=>exact fin r I p4
 | true =>
  refine hT _ ?_;exists k3;have h4:=I _ _ A.symm h3;have t4:=aN.ofBut I p3;refine⟨_,rfl,_,rfl,_,_,rfl,(by dsimp only;rw[lenV_l h4,lu];rfl),_,_,rfl,rfl,p,((v.length:Int) - 1),rfl,p4,dz,dz,λi x y i0 i1=>?_⟩;obtain⟨i,rfl⟩:∃k:Nat,i=(k:Int):=⟨i.toNat,dz⟩
  have b5:cZ p r (upd r p (.lst [.int x,.int y])):=cZ.upd _ _ _;have p5:aU (upd r p (.lst [.int x,.int y])) p:=⟨_,_,ew⟩
  have t5:=aN.ofBut b5 p4;generalize upd r p (.lst [.int x,.int y])=O at b5 p5 t5|-;have N:=b5 _ _ A.symm h4;have U:=Reps.tups (t4.trans t5) G.fl S;obtain⟨a,c,ha,Y,hs⟩:=split2 (l:=v) (i:=i) dz;obtain⟨ua,hua,ra⟩:=Reps.get' U ha;obtain⟨Z,huc,rc⟩:=Reps.get' U Y;exists 0,k3,k4;refine⟨_,rfl,_,rfl,_,rfl,ua,by rw[ixV_l N];exact lU hua,_,rfl,_,rfl,.inl ⟨_,rfl,Z,by rw[ixV_l N];exact lU huc,szl 3,λt1 B=>⟨szl 1,λW C=>?_⟩⟩⟩;have J:aA O (upd O t1 (.tup [.str nm,ua,Z])):=aA.upd B;have r6:upd O t1 (.tup [.str nm,ua,Z]) t1=some (.tup [.str nm,ua,Z]):=ew;generalize upd O t1 (.tup [.str nm,ua,Z])=H6 at J r6 C|-;have s7:aA H6 (upd H6 W (.lst [.ref t1])):=aA.upd C;have r7:upd H6 W (.lst [.ref t1]) W=some (.lst [.ref t1]):=ew;have nq:u≠W:=λe=>by rw[<-e,J _ _ N]at C;cases C
  have p7:aU (upd H6 W (.lst [.ref t1])) p:=by obtain⟨c,d,ep⟩:=p5;exact⟨c,d,s7 _ _ (J _ _ ep)⟩
  generalize upd H6 W (.lst [.ref t1])=H7 at s7 r7 p7|-;have j:=J.trans s7;refine⟨_,rfl,_,rfl,(i:Int),rfl,_,rfl,.inl ⟨_,rfl,(i:Int)+2,rfl,u,us,W,[.ref t1],rfl,rfl,nq,j _ _ N,r7,leSz,?_⟩⟩;have hsp:splV us (some (i:Int)) (some ((i:Int)+2)) [.ref t1]=us.take i ++ .ref t1::us.drop (i+2):=by unfold splV;rw[show(i:Int)+2=((i+2:Nat):Int)by lia,HT.sIx_nat,HT.sIx_nat,Nat.min_eq_left dz,Nat.min_eq_left dz,Nat.max_eq_right dz,cu];rfl
  rw[hsp];have t8:aN H7 (upd H7 u (.lst (us.take i ++ .ref t1::us.drop (i+2)))):=aN.lst (j _ _ N);have bq4:=G;rw[hs]at bq4;have bq5:=bq4.brk so ho hz hn;have ll:(v.take i ++ .tup [.str nm,a,c]::v.drop (i+2)).length=v.length - 1:=by rw[au,ar,bz,bS];lia
  refine k4 ⟨v.length - 1,dz,⟨_,rfl⟩,λc o nc ec=>upk (aC ec E) (j _ _ (b5 _ _ nc (I _ _ nc (b3 c o nc ec)))),by obtain⟨c,d,ep⟩:=p7;exact⟨c,d,upk A ep⟩,_,v.take i ++ .tup [.str nm,a,c]::v.drop (i+2),ew,?_,bq5,dz,ll,dz⟩;refine Reps.tups t8 bq5.fl (Reps.append (Reps.take i (Reps.same j U)) ⟨_,_,rfl,⟨t1,_,rfl,s7 _ _ r6,_,_,rfl,rfl,ua,_,rfl,aH.same j ra,Z,[],rfl,aH.same j rc,rfl⟩,Reps.drop (i+2) (Reps.same j U)⟩)
end
def GN:∀{ds:List D} {i:Nat} {d:D},ds[i]?=some d->nds d<=ndss ds
 | [],_,_,h=>by simp at h
 | e::ds,0,d,h=>by
  simp at h;subst h;rw[ndss]
  lia
 | e::ds,i+1,d,h=>by
  have:=GN (ds:=ds) (i:=i) (d:=d) (by simpa using h);rw[ndss]
  lia
def AO {c:cV}{sm:bL}{os:bA}{d e:D}{n:Str}{ds:List D}(t:zX c sm os d)(hd:d = .tup (.str n::ds)\/d = .lst (.str n::ds))(f:e∈ds):zX c sm os e/\depD e<depD d:=by
 obtain⟨i,a⟩:=List.getElem?_of_mem f;have o:=fL a;have m:=pU a;have l:=GN a;have j:depD d=depDs ds+1:=by
  rcases hd with rfl|rfl
  ·rw[depD,depDs,show depD (.str n)=0 from rfl];lia
  ·rw[depD,depDs,show depD (.str n)=0 from rfl];lia
 have h:lvs d=lvss ds:=by rcases hd with rfl|rfl <;> rw[lvs]
 have g:nds d=1+ndss ds:=by rcases hd with rfl|rfl <;> rw[nds]
 have tm:IsTms c sm os ds:=by have:=t.tm;rcases hd with rfl|rfl <;> (unfold aM at this;exact this.2)
 have u:=t.lv;have r:=t.nd;have q:=t.dp;exact⟨⟨t.so,t.ho,dR tm e f,dz,dz,dz⟩,dz⟩
noncomputable def dK31 (sm:bL):HO:=.dK (sm.map λr=>(.inr r.1,V.str r.2))
def pC (n:Nat):Sp:=λvs H Q _=>∃(dn:Addr) (fx:cV) (sm:bL) (os:bA) (d:D) (v:V),vs=[.ref dn,v]/\H dn=some (dK31 sm)/\aH H d v/\zX fx sm os d/\depD d<=n/\∀(a:V) (H':Hp),aA H H'->aH H' (prD sm d) a->Q a H'
def X4 (dn:Addr)(sm:bL)(ds:List D)(H:Hp)(i:Nat)(a:List V)(d:St)(c:Hp):Prop:=∃e:Option V,d=[e,some (.ref dn)]/\aA H c/\Reps c (prDs sm (ds.take i)) a
def X3 (dn d l:Addr)(n:Str)(ds:List D)(H:Hp)(i:Nat)(c:St)(a:Hp):Prop:=∃(w:V) (o4:Option V),c=[some (.ref dn),some (.ref d),some (.ref l),some w,o4]/\aA H a/\aH a (chn n (ds.drop (ds.length - 1 - i))) w
def IT (sm:bL)(ds:List D)(d:D):prDs sm (ds++[d])=prDs sm ds++[prD sm d]:=by rw[bT,bT,az];rfl
def FF {h:cV}{sm:bL}{os:bA}{d:D}{v:V}{H:Hp}(t:zX h sm os d)(rep:aH H d v):(∃x,d = .str x/\v = .str x)\/∃nm ds e c,(d = .tup (.str nm::ds)\/d = .lst (.str nm::ds))/\nJ h sm nm ds.length/\IsTms h sm os ds/\v = .ref e/\isV H (.ref e) (.ty "str")=some false/\eI H e (.str nm::c)/\Reps H ds c:=by
 refine jL (P:=λd=>aH H d v->(∃x,d = .str x/\v = .str x)\/∃nm ds e c,(d = .tup (.str nm::ds)\/d = .lst (.str nm::ds))/\nJ h sm nm ds.length/\IsTms h sm os ds/\v = .ref e/\isV H (.ref e) (.ty "str")=some false/\eI H e (.str nm::c)/\Reps H ds c) (λx _ r=>.inl ⟨x,rfl,r⟩) (λn ds d hd j f _ r=>.inr ?_) t.tm rep;rcases hd with rfl|rfl
 ·obtain⟨a,vs,rfl,g,_,c,rfl,i,r⟩:=r;cases i;exact⟨n,ds,a,c,.inl rfl,j,f,rfl,gX g,.inr g,r⟩
 ·obtain⟨a,vs,rfl,g,_,c,rfl,i,r⟩:=r;cases i;exact⟨n,ds,a,c,.inr rfl,j,f,rfl,qV g,.inl g,r⟩
def M4 (n:Nat)(F:iE K "_law_paired" cJ f fd)(T:Txt mg)(c:Ow P w K mg base (n+1) "_law_paired" (λvs H Q E=>∃m,m<n/\pC m vs H Q E)):iX P w K mg base (n+2) f fd cJ (pC n):=by
 refine F.okL eD λ_ _ _ s H _ _ _ hr Y h=>?_;obtain⟨dn,fx,sm,os,d,v,rfl,hdn,rep,tm,dp,q⟩:=h;refine⟨_,(pss6 (bC (fE K T.n_isinstance (pv 1) T.n_str) (aE (aF (pv 1))) aG) (mN 2 eD.nd (bD.of eD ["_law_part","_law_noughts"] [none,some 0]) (gF K (dM iF (pv 1) (bU aB) cH)) (bV (i:=0) (cT ["_law_part","_law_noughts"]) rfl (Or.inl rfl)) cU (d9 c (hr.mono dz) pass0 rfl (pa2 (pv 1) (pv 0)))) (bC (aJ (oQ Y) (aV (pv 1) aB) (pv 0) (by with_unfolding_all rfl)) (aE (aF (aX bF (bB (pa1 (aV (pv 1) aB))) (bR dY rfl T.n_tuple rfl (pa1 (pv 2)))))) aG) (bJ 3 eD.nd (aV (pv 2) (iB eY aB))) (iA (gF K (iJ yK (pv 2) (bU (iB eY aB)) cH (bU (iB eY aB)))) (gV 4 eD.nd) (aE (bJ 3 eD.nd (bB (pa3 (aV (pv 1) aB) (pv 4) (pv 3)))))) (aF (pv 3))),?_⟩
 ac_nf
 rcases FF tm rep with⟨x,rfl,rfl⟩|⟨nm,ds,va,vs',hd,hh,tms,rfl,hbb,G,res⟩
 ·exact⟨_,rfl,.str x,.ty "str",true,rfl,rfl,_,rfl,_,rfl,q _ _ (aA.refl _) (by rw[iN];rfl)⟩
 have I:∀H',aA H H'->ixV H' (.ref va) (.int 0)=some (.str nm):=λH' s'=>by
  rcases G.same s' with e|e
  ·rw[ixV_l e,atI_zero]
  ·rw[ixV_t e,atI_zero]
 exists k1;refine⟨_,rfl,.ref va,.ty "str",false,rfl,hbb,_,rfl,k1 ?_⟩;exists k2;have R:=(nM sm hd).1;have hl:=Reps.len res;have hn50:ds.length<=50:=by
  have h1:=dQ tms;have h2:=tm.lv;rw[(cG (sm:=sm) hd).1]at h2
  lia
 have dne:ds≠[]:=λz=>by have:=i8 hh;rw[z]at this;simp at this
 refine⟨_,rfl,1,rfl,va,_,rfl,G,λ_ h=>by have:=h.1;simp[HT.sIx]at this,λp o hp ho=>?_⟩;rw[iP]at ho;have s0:aA H (upd H p o):=aA.upd hp;have h0:upd H p o p=some o:=ew;refine⟨p,vs',rfl,by rcases ho with⟨rfl,_⟩|⟨rfl,_⟩;exact .inl ew;exact .inr ew,λJ hJ=>?_⟩;generalize upd H p o=H0 at s0 h0 hJ|-;refine cQ hJ (X4 dn sm ds H0) ⟨none,rfl,aA.refl _,rfl⟩ (λi a S H' _ ⟨_,_,s,_⟩=>by rw[s _ _ h0,h0]) ?_ ?_
 ·rintro i x a S H1 X ⟨o0,rfl,s1,g⟩;obtain⟨e,he,re⟩:=Reps.get res X;have te:=AO tm hd (bn he);have s2:=s0.trans s1;have h3:=Reps.len g;rw[bT,af,bz]at h3;refine⟨_,rfl,_,rfl,depD e,by have:=te.2;lia,dn,fx,sm,os,e,x,rfl,s2 _ _ hdn,aH.same s2 re,te.1,ac _,λv' A s' r'=>⟨ak (m:=64) dz dw,_,rfl,s1.trans s',?_⟩⟩;rw[aR he,IT];exact Reps.snoc r' (Reps.same s' g)
 ·rintro a S H1 ⟨o0,rfl,s1,g⟩ l hl1;rw[hl,bI]at g;have la:=Reps.len g;rw[bT,af]at la;have s2:=(s0.trans s1).trans (aA.upd (o:=.lst a) hl1);have O:upd H1 l (.lst a) l=some (.lst a):=ew;have N:=Reps.same (aA.upd (o:=.lst a) hl1) g;generalize upd H1 l (.lst a)=A at s2 O N|-;have g2:lC A dn (.str nm) ((zr sm nm).map V.str):=by have:=lC.k (k:=.inr nm) (s2 _ _ hdn);rw[qG]at this;exact this
  have W:prDs sm ds≠[]:=λz=>dne (by rw[bT]at z;exact List.map_eq_nil_iff.mp z);exists k2,k3,e3;refine⟨_,rfl,.str nm,I _ s2,_,rfl,dn,_,rfl,g2,_,rfl,?_⟩;unfold pr at R;cases hz:zr sm nm with
  | none =>
   rw[hz]at R;refine⟨_,rfl,.str nm,I _ s2,szl 1,λr j=>⟨_,rfl,l,a,rfl,.inl (aA.upd j _ _ O),λl3 H3 L=>?_⟩⟩;rcases L with⟨L,_⟩|⟨_,L,rfl⟩
   ·rw[bG (aC O j),O]at L;cases L
   ·have C:aA A (upd (upd A r (.tup [.str nm])) l3 (.tup a)):=(aA.upd j).trans (aA.upd L);refine .inr ⟨.tup (.str nm::a),?_,λp4 Z=>?_⟩
    ·have e1:upd (upd A r (.tup [.str nm])) l3 (.tup a) r=some (.tup [.str nm]):=upk (aC ew L) ew;have e2:upd (upd A r (.tup [.str nm])) l3 (.tup a) l3=some (.tup a):=ew;unfold catO;simp only[e1,e2];refine aj ⟨leSz,dV,λz=>dne (List.length_eq_zero_iff.mp (by rw[<-la,z];rfl))⟩
    ·refine h9 e3 (q _ _ (s2.trans (C.trans (aA.upd Z))) ?_);rw[R];exact⟨p4,_,rfl,ew,.str nm,a,rfl,rfl,Reps.same (C.trans (aA.upd Z)) N⟩
  | some z =>
   rw[hz]at R;obtain⟨ws,hws⟩:∃ws,ws=prDs sm ds:=⟨_,rfl⟩
   rw[<-hws]at R N W;have lw:=Reps.len N;have l1:1<=ws.length:=List.length_pos_iff.mpr W;obtain⟨w0,hw0⟩:∃w0,a[ws.length - 1]?=some w0:=⟨_,ay dz⟩
   obtain⟨d0,hd0,r0⟩:=Reps.get N hw0;have e0:ws.drop (ws.length - 1)=[d0]:=by obtain⟨g1,rfl⟩:=cx.mp hd0;rw[List.drop_eq_getElem_cons g1,List.drop_eq_nil_of_le dz]
   exists k3,k4;refine⟨_,rfl,1,rfl,w0,?_,k4 (aD ?_)⟩
   rotate_left
   intro _ _ _ k5 _ _;refine⟨_,rfl,2,rfl,-2,rfl,1,rfl,-1,rfl,rfl,rfl,rfl,l,a,rfl,O,λz=>by rw[z]at lw;simp at lw;lia,λr j=>⟨r,_,rfl,.inl ew,λJ hJ=>?_⟩⟩
   rotate_left
   ·rw[ixV_l O];show atI a (-1)=_;unfold atI ixN;rw[ab dw,aj dz];have:(-1+(a.length:Int)).toNat=ws.length - 1:=by lia
    rw[this];exact hw0
   ·have U:aA A (upd A r (.lst a.dropLast.reverse)):=aA.upd j;have p3:upd A r (.lst a.dropLast.reverse) r=some (.lst a.dropLast.reverse):=ew;generalize upd A r (.lst a.dropLast.reverse)=H3 at U p3 hJ|-;refine gZ hJ (X3 dn va l nm ws H3) ⟨w0,none,rfl,aA.refl _,by rw[Nat.sub_zero,e0];exact aH.same U r0⟩ (λi S H' _ ⟨_,_,_,s,_⟩=>by rw[s _ _ p3,p3]) ?_ ?_
    ·rintro i x S H4 X ⟨w,o4,rfl,C,B⟩;have hi:=(cx.mp X).1;rw[List.length_reverse,List.length_dropLast]at hi;have hx':a[ws.length - 2 - i]?=some x:=by rw[List.getElem?_reverse (by rw[List.length_dropLast];exact hi),List.length_dropLast,List.getElem?_dropLast,aj dz]at X;rw[show ws.length - 2 - i=a.length - 1 - 1 - i by lia];exact X
     obtain⟨e,he,re⟩:=Reps.get N hx';refine⟨_,rfl,.str nm,I _ (s2.trans (U.trans C)),_,rfl,_,rfl,szl 3,λu Y=>⟨.ref u,some x,rfl,C.trans (aA.upd Y),?_⟩⟩;rw[show ws.length - 1 - (i+1)=ws.length - 2 - i by lia,CJ he dz,show ws.length - 2 - i+1=ws.length - 1 - i by lia];exact⟨u,_,rfl,ew,_,_,rfl,rfl,_,_,rfl,aH.same ((U.trans C).trans (aA.upd Y)) re,_,_,rfl,aH.same (aA.upd Y) B,rfl⟩
    ·rintro S H4 ⟨w,o4,rfl,C,B⟩;rw[List.length_reverse,List.length_dropLast,lw,Nat.sub_self,List.drop_zero]at B;exact k5 ⟨_,rfl,q w H4 (s2.trans (U.trans C)) (R ▸ B)⟩
def N0 (F:iE K "_law_paired" cJ f fd)(T:Txt mg)(hm:mg "_law_paired" = some (.ref f))(i:PySem.W.keepIn K (.ref f)=true)(a:eH K fd (prmS cJ) []):∀n,iX P w K mg base (n+2) f fd cJ (pC n):=by
 intro n
 induction n using Nat.strongRecOn with
 | ind n d =>
  exact M4 n F T ⟨f,fd,_,⟨λvs H Q E ⟨m,c,h⟩=>(d m c).len vs H Q E h,λA outer s H args us vs Q E g j a e ⟨m,c,h⟩=>((d m c).mono dz).run A outer s H args us vs Q E g j a e h⟩,hm,i,a⟩
def I8 (F:iE K "_law_paired" cJ f fd)(T:Txt mg)(hm:mg "_law_paired" = some (.ref f))(a:PySem.W.keepIn K (.ref f)=true)(c:eH K fd (prmS cJ) [])(n:Nat):Ow P w K mg base (n+2) "_law_paired" (pC n):=⟨f,fd,_,N0 F T hm a c n,hm,a,c⟩
section
variable {P:eg}{w:eh}{K:d6}{mg:jD}{base:Heap}
def ES (h:H dn=some (dK31 sm))(hz:zr sm n=some z):lC H dn (.str n) (some (.str z)):=by have:=lC.k (k:=.inr n) h;rw[qG,hz]at this;exact this
def yF (n:Nat):Sp:=λvs H Q _=>∃(p dn a:Addr) (fx:cV) (sm:bL) (os:bA) (d:D) (v:V) (k:Nat),vs=[.ref p,.ref dn,v,.ref a]/\aU H p/\H dn=some (dK31 sm)/\H a=some (.lst [.int (k:Int)])/\p≠a/\aP fx sm/\(∀x∈os,cB x)/\Tq fx sm os n d v H/\depD d<=11/\lvs d+k<=40 /\
 ∀(e:D) (v':V) (k':Nat) (H':Hp),K2 p a H H'->aU H' p->H' a=some (.lst [.int (k':Int)])->k'<=k->aH H' e v'->KL fx sm os d e->lvs e+k'=lvs d+k->Q v' H'
def K2.dk (h:K2 a b H H')(d:H a=some (.lst xs))(c:H b=some (.lst ys))(hd:H dn=some (dK31 sm)):H' dn=some (dK31 sm):=h dn _ (λz=>by rw[z,d]at hd;cases hd) (λz=>by rw[z,c]at hd;cases hd) hd
def XJ (p dn d:Addr)(h:cV)(sm:bL)(os:bA)(ds:List D)(k:Nat)(q0:Addr)(c:List V)(H:Hp)(i:Nat)(e:List V)(f:St)(a:Hp):Prop:=∃(g:Option V) (es:List D) (k1:Nat),f=[g,some (.ref p),some (.ref dn),some (.ref d)]/\K2 p d H a/\aU a p/\a d=some (.lst [.int (k1:Int)])/\k1<=k/\Reps a es e/\rS h sm os (ds.take i) es/\lvss es+k1=lvss (ds.take i)+k/\a q0=some (.tup c)
structure XH (p dn mo lr:Addr)(fx:cV)(sm:bL)(os:bA)(nm z:Str)(m tot k:Nat)(X:List D)(H:Hp)(n:Nat)(H1:Hp):Prop where
 k2:K2 p mo H H1
 pt:aU H1 p
 hm:H1 mo=some (.lst [.int (n:Int)])
 le:n<=k
 ex:∃us rs L,H1 lr=some (.lst us)/\Reps H1 rs us/\Bq fx sm os nm z m L X rs/\L+n=tot/\2<=rs.length
def XI (p dn c d:Addr)(v pv:V)(f:cV)(sm:bL)(os:bA)(nm z:Str)(m a k:Nat)(X:List D)(H:Hp)(n:Nat)(e:St)(g:Hp):Prop:=e=[some (.ref p),some (.ref dn),some v,some (.ref c),some pv,some (.str nm),some (.ref d)]/\XH p dn c d f sm os nm z m a k X H n g
theorem A9 {n:Str}{h:cV}{sm:bL}{os:bA}:∀{ds:List D},Fls ds->IsTms h sm os ds->ds.length<=(prts n ds).length
 | [],_,_=>ac _
 | d::ds,⟨f,g⟩,⟨a,b⟩=>by
  have l:=A9 (n:=n) g b;have c:=tU (n:=n) f;have j:=oJ a;have i:1<=(prt n d).length:=by
   cases e:prt n d with
   | nil=>rw[e,lvss]at c;lia
   | cons _ _=>simp
  rw[prts,au,ar]
  lia
def QT (n:Nat)(F:iE K "_law_shuffled" c6 f fd)(T:Txt mg)(g:Ow P w K mg base 1 "_law_take" gG)(A:Ow P w K mg base 53 "_law_parts" (spPrt 51))(B:Ow P w K mg base 2 "_law_mixed" spMix)(j:Ow P w K mg base 2 "_law_bracketed" spBrk)(r:Ow P w K mg base (n+53) "_law_shuffled" (λvs H Q E=>∃m,m<n/\yF m vs H Q E)):iX P w K mg base (n+53+1) f fd c6 (yF n):=by
 refine F.okL eC λ_ _ _ _ H vs _ _ hr hu h=>?_;obtain⟨p,dn,G,fx,sm,os,d,v,k,rfl,pt,hdn,hmo,C,so,ho,t,d11,l40,q⟩:=h;refine⟨_,(pss7 (bC (fE K T.n_isinstance (pv 2) T.n_str) (aE (aF (pv 2))) aG) (mN 4 eC.nd (bD.of eC ["_law_part","_law_state","_law_noughts","_law_more"] [none,some 0,some 1,some 3]) (gF K (dM iF (pv 2) (bU aB) cH)) (bV (i:=0) (cT ["_law_part","_law_state","_law_noughts","_law_more"]) rfl (Or.inl rfl)) cU (d9 r (hr.mono dz) pass0 rfl (pa4 (pv 1) (pv 2) (pv 0) (pv 3)))) (bJ 5 eC.nd (aV (pv 2) aB)) (bC (aJ (oQ hu) (pv 5) (pv 1) (by with_unfolding_all rfl)) (aE (aF (aX bF (bB (pa1 (pv 5))) (bR dY rfl T.n_tuple rfl (pa1 (pv 4)))))) aG) (bJ 6 eC.nd (d9 B (hr.mono dz) pass0 rfl (pa2 (pv 0) (d9 A (hr.mono dz) pass0 rfl (pa2 (pv 5) (aX bF (bB (pa1 (pv 5))) (bR dY rfl T.n_tuple rfl (pa1 (pv 4))))))))) (jU du (PW.pt (lH (aJ (lN hu) (F3 (ak (cg dw _) hu) (pv 1) (pv 5) (λ_ _=>rfl)) cI) (lH (aJ wO (aV (pv 3) aB) aB) (lG (aJ (eA hu) (d9 g (hr.mono dz) pass0 rfl (pa2 (pv 0) aB)) aB))))) (pss2 (gU (aX gC (aV (pv 3) aB) aB) (yR (pv 3) aB pF)) (bX (fX di PySem.F.slot_list_insert PySem.F.type_list_insert JJ (pv 6) (pa2 (d9 g (hr.mono dz) pass0 rfl (pa2 (pv 0) (aX bF (cW bK T.n_len (pa1 (pv 6))) aB))) (F3 (ak (cg dw _) hu) (pv 1) (pv 5) (λ_ _=>rfl))))))) (aF (d9 j (hr.mono dz) pass0 rfl (pa3 (pv 0) (pv 5) (pv 6))))),?_⟩
 ac_nf
 obtain⟨rep,fl,tm,lv,dp⟩:=t;rcases zJ fl rep with⟨x,rfl,rfl⟩|⟨nm,ds,va,I,rfl,rfl,hva,rds,fds⟩
 ·exact⟨_,rfl,.str x,.ty "str",true,rfl,rfl,true,rfl,_,rfl,q (.str x) _ k H (λ_ _ _ _ e=>e) pt hmo (ac _) rfl (.leaf tm fl) rfl⟩
 obtain⟨hh,tms,l1,l2,el,ed⟩:=xZ tm;have lr:=Reps.len rds;rw[el]at l40;rw[ed]at d11 dp;exists kk1;refine⟨_,rfl,.ref va,.ty "str",false,rfl,gX hva,false,rfl,kk1 ?_⟩;exists kk2;refine⟨_,rfl,(1:Int),rfl,va,_,rfl,.inr hva,λ_ z=>by have:=z.1;simp[HT.sIx]at this,λq0 o hq0 ho0=>?_⟩;obtain⟨rfl,_⟩:=ho0.resolve_left λz=>by rw[hva]at z;exact nomatch z.2
 rw[iP];refine⟨q0,I,rfl,.inr ew,λJ hJ=>?_⟩;have s0:aA H (upd H q0 (.tup I)):=aA.upd hq0;have r0:upd H q0 (.tup I) q0=some (.tup I):=ew;generalize upd H q0 (.tup I)=H0 at s0 r0 hJ|-;have pt0:aU H0 p:=by obtain⟨a,b,e⟩:=pt;exact⟨a,b,s0 _ _ e⟩
 have mo0:=s0 _ _ hmo;have dn0:=s0 _ _ hdn;refine cQ hJ (XJ p dn G fx sm os ds k q0 I H0) ⟨none,[],k,rfl,λ_ _ _ _ e=>e,pt0,mo0,ac _,rfl,.nil,rfl,r0⟩ (λi u σ H' _ ⟨_,_,_,_,_,_,_,_,_,_,_,h⟩=>by rw[h,r0]) ?_ ?_
 ·rintro i x u σ H1 hx ⟨o0,es,k1,rfl,k2,p1,m1,kk,res,sa,bal,hq1⟩;obtain⟨e,he,re⟩:=Reps.get rds hx;obtain⟨f1,f2,f3,f4⟩:=sD fds tms he;obtain⟨a0,b0,ep0⟩:=pt0;have t01:=k2.tups ep0 mo0;have fes:=sa.facts;have lac:=Reps.len res;have l3:=dQ fes.1;have take1:lvss (ds.take (i+1))=lvss (ds.take i)+lvs e:=by rw[aR he,nR]
  have take2:lvss (ds.take (i+1))<=lvss ds:=by
   have:=mU (ds.take (i+1)) (ds.drop (i+1));rw[List.take_append_drop]at this
   lia
  refine⟨_,rfl,_,rfl,_,rfl,_,rfl,depD e,dz,p,dn,G,fx,sm,os,e,x,k1,rfl,p1,k2.dk ep0 mo0 dn0,m1,C,so,ho,⟨aH.tups t01 f1 (aH.same s0 re),f1,f2,dz,ac _⟩,dz,dz,λe' v' k' H2 k22 p2 m2 kk2 re' sq bal2=>⟨ltSz,?_⟩⟩;obtain⟨a1,b1,ep1⟩:=p1;have t12:=k22.tups ep1 m1;refine⟨_,es++[e'],k',rfl,k2.trans k22,p2,m2,dz,Reps.snoc re' (Reps.tups t12 fes.2.1 res),by rw[aR he];exact sa.snoc sq,by rw[nR,take1];lia,t12 _ _ hq1⟩
 ·rintro u σ H1 ⟨o0,es,k1,rfl,k2,p1,m1,kk,res,sa,bal,hq1⟩ w hw;rw[lr,bI]at sa bal;obtain⟨te,fe,fte,le,_⟩:=sa.facts;obtain⟨a0,b0,ep0⟩:=pt0;have t01:=k2.tups ep0 mo0;have dn1:=k2.dk ep0 mo0 dn0;have hva1:=t01 _ _ (s0 _ _ hva);have lac:=Reps.len res;have l3:=dQ te;obtain⟨H2,zN,s2,r2⟩:=nwH (.lst u) hw;rw[zN];exists kk2,kk3;have res2:=Reps.same s2 res;have k02:K2 p G H H2:=λc o n1 n2 e=>s2 _ _ (k2 c o n1 n2 (s0 _ _ e));have p2:aU H2 p:=by obtain⟨a,b,e⟩:=p1;exact⟨a,b,s2 _ _ e⟩
  have m2:=s2 _ _ m1;have dn2:=s2 _ _ dn1;refine⟨_,rfl,.str nm,by rw[ixV_t (s2 _ _ hva1),atI_zero],kk3 (aD ?_)⟩;intro _ _ _ kk4 e4 _;have g2:lC H2 dn (.str nm) ((zr sm nm).map V.str):=by have:=lC.k (k:=.inr nm) dn2;rw[qG]at this;exact this
  refine⟨_,rfl,_,rfl,dn,_,rfl,g2,_,rfl,?_⟩;have Y:∀(R:V->Hp->Prop),(∀t3 H5,aA H2 H5->H5 t3=some (.tup (.str nm::u))->R (.ref t3) H5)->∀σ:St,σ[5]?=some (some (.str nm))->σ[4]?=some (some (.ref w))->tOp rAddF (tTup (tCons (tVar 5) tNil)) (tCB rTupU (tCons (tVar 4) tNil)) σ H2 R:=λR hR σ e5 e4=>by
   refine⟨_,e5,szl 1,λt1 ht1=>⟨_,e4,w,u,rfl,.inl (upk (aC r2 ht1) r2),λt2 H4 hc=>?_⟩⟩;have s3:aA H2 (upd H2 t1 (.tup [.str nm])):=aA.upd ht1;have r3:upd H2 t1 (.tup [.str nm]) t1=some (.tup [.str nm]):=ew;have r23:=s3 _ _ r2;generalize upd H2 t1 (.tup [.str nm])=H3 at s3 r3 r23 hc;rcases hc with⟨hc,_⟩|⟨_,ht2,rfl⟩
   ·rw[r23]at hc;cases hc
   have s4:aA H3 (upd H3 t2 (.tup u)):=aA.upd ht2;have r4:upd H3 t2 (.tup u) t2=some (.tup u):=ew;have ane:u≠[]:=λz=>by rw[z]at lac;simp at lac;lia
   refine .inr ⟨_,HS (s4 _ _ r3) r4 (leSz) dV ane,λt3 ht3=>?_⟩;exact hR t3 _ ((s3.trans s4).trans (aA.upd ht3)) ew
  cases hz:zr sm nm with
  | none =>
   refine Y _ (λt3 H5 s5 h5=>?_) _ rfl rfl;have sq:=KL.fixed so hz hh sa;refine h9 e4 (q (.tup (.str nm::es)) _ k1 H5 (λc o n1 n2 e=>s5 _ _ (k02 c o n1 n2 e)) (by obtain⟨a,b,e⟩:=p2;exact⟨a,b,s5 _ _ e⟩) (s5 _ _ m2) kk ⟨t3,_,rfl,h5,.str nm,u,rfl,rfl,Reps.same s5 res2⟩ sq ?_);rw[el,show lvs (.tup (.str nm::es))=lvss es from(cG (sm:=sm) (.inl rfl)).1];exact bal
  | some z =>
   have hn:nm∈sm.map (·.1):=by
    rcases mY so hh with⟨hz2,_⟩|⟨_,_,hn,_⟩
    ·rw[hz]at hz2;cases hz2
    ·exact hn
   have hl2:2<=ds.length:=by
    rcases mY so hh with⟨hz2,_⟩|⟨_,_,_,h⟩
    ·rw[hz]at hz2;cases hz2
    ·exact h
   have bq:=Bq.of so ho hz hn sa;have len2:=A9 (n:=nm) fe te;have eles:lvs (.tup (.str nm::es))=lvss es:=(cG (sm:=sm) (.inl rfl)).1;have edes:depD (.tup (.str nm::es))=depDs es+1:=(cG (sm:=sm) (.inl rfl)).2.2.1;have tes:aM fx sm os (.tup (.str nm::es)):=by unfold aM;exact⟨.inr ⟨dz,hn⟩,te⟩
   have fes:Fl (.tup (.str nm::es)):=by unfold Fl;exact fe
   have des:depDs es<=50:=hU λx hx=>by
    obtain⟨d0,hd0,sq⟩:=sa.facts.2.2.2.2 x hx;have:=sq.dp;have:=nX hd0;have:=pT hx
    lia
   have dpr:depDs (prts nm es)<=59:=hU λx hx=>by
    have:=(bq.dp x hx).1;have:=pT hx;rw[bq.lv]at this
    lia
   exists kk4,kk5;refine⟨_,rfl,_,rfl,Y _ (λt3 H5 s5 h5=>?_) _ rfl rfl⟩;refine⟨fx,sm,os,nm,.tup (.str nm::es),.ref t3,rfl,⟨⟨t3,_,rfl,h5,.str nm,u,rfl,rfl,Reps.same s5 res2⟩,fes,tes,dz,dz⟩,λl us H6 s6 hl6 h6 rus=>?_⟩;rw[mP]at rus;have L:=s5.trans s6;have p6:aU H6 p:=by obtain⟨a,b,e⟩:=p2;exact⟨a,b,L _ _ e⟩
   have lpr:=BA (n:=nm) fe te;refine⟨p,l,_,us,rfl,p6,h6,rus,bq.fl,dpr,dz,λrl ys rs H7 b7 p7 hrl h7 rrs pm=>?_⟩;have bq7:=bq.perm pm;have m6:=L _ _ m2;have m7:=b7 _ _ C.symm m6;have dn7:H7 dn=some (dK31 sm):=b7 _ _ (λz=>by obtain⟨a,b,e⟩:=p6;rw[<-z,L _ _ dn2]at e;cases e) (L _ _ dn2);have k07:K2 p G H H7:=λc o n1 n2 e=>b7 _ _ n1 (L _ _ (k02 c o n1 n2 e));have lpm:=pm.length_eq;have nrp:rl≠p:=λz=>by obtain⟨a,b,e⟩:=p6;rw[z,e]at hrl;cases hrl
   have nrm:rl≠G:=λz=>by rw[z,m6]at hrl;cases hrl
   have rlH:H rl=none:=by
    cases e:H rl with
    | none=>rfl
    | some o=>have:=L _ _ (k02 _ _ nrp nrm e);rw[hrl]at this;cases this
   obtain⟨a7,b7',ep7⟩:=p7;exists kk5,kk6;refine oI (XI p dn G rl (.ref va) (.ref w) fx sm os nm z (depDs ds) (lvss ds+k) k (opn nm z (flts sm ds)) H) k1 ⟨rfl,k07,⟨a7,b7',ep7⟩,m7,kk,ys,rs,lvss es,h7,rrs,bq7,bal,dz⟩ ?_;rintro n1 σ H8 ⟨rfl,k8,p8,m8,kk8,X,N,L8,h8,r8,O,tot8,len8⟩ R hT hF;have lr8:=Reps.len r8;have lb8:=dQ O.tm;rw[O.lv]at lb8;have dn8:H8 dn=some (dK31 sm):=by obtain⟨a,b,e⟩:=pt;exact k8.dk e hmo hdn
   have fin:∀U,cZ p H8 U->aU U p->R false U:=λU b9 p9=>by refine hF _ (kk6 (dP ?_));intro _ _ _ kk7 e7 _;have t9:=aN.ofBut b9 p8;refine⟨_,rfl,_,rfl,_,rfl,p,rl,fx,sm,os,nm,z,depDs ds,L8,_,N,X,rfl,p9,b9 _ _ nrp h8,Reps.tups t9 O.fl r8,so,ho,hz,hn,O,len8,dz,λv' us9 W b10 Z r10 bq10 l10=>?_⟩;obtain⟨sq,lq⟩:=KL.sum so ho hz hn tms bq10 l10;refine h9 e7 (q _ v' n1 W (λc o m1 m2 e=>b10 _ _ m1 (b9 _ _ m1 (k8 c o m1 m2 e))) Z (b10 _ _ C.symm (b9 _ _ C.symm m8)) kk8 r10 sq ?_);rw[lq,el];exact tot8
   have b88:cZ p H8 H8:=cZ.refl _ _;refine⟨_,rfl,_,rfl,dn,.str z,rfl,ES dn8 hz,.str z,.str "",rfl,rfl,aw _,_,rfl,aW (λc1=>?_) (λ_=>fin H8 b88 p8)⟩;have zne:z≠("" : Str):=λe=>by rw[e]at c1;cases c1
   have tz:=wQ (os:=os) so hz zne;refine⟨_,rfl,.int (n1:Int),by rw[ixV_l m8,atI_zero],_,_,rfl,rfl,_,rfl,aW (λc2=>?_) (λ_=>fin H8 b88 p8)⟩;have n1p:0<n1:=by have:=bx c2;lia
   refine⟨_,rfl,p,3,rfl,p8,dw,dw,λi0 x0 y0 _ _=>?_⟩;have b9:cZ p H8 (upd H8 p (.lst [.int x0,.int y0])):=cZ.upd _ _ _;have p9:aU (upd H8 p (.lst [.int x0,.int y0])) p:=⟨_,_,ew⟩
   generalize upd H8 p (.lst [.int x0,.int y0])=U at b9 p9|-;refine⟨.int i0,.int 0,rfl,rfl,aw _,_,rfl,?_⟩;cases hi:eqD (.int i0) (.int 0)with
   | false=>exact fin U b9 p9
   | true =>
    refine hT _ ?_;exists j8;have t9:=aN.ofBut b9 p8;have m9:=b9 _ _ C.symm m8;refine⟨_,rfl,.int (n1:Int),by rw[ixV_l m9,atI_zero],_,_,rfl,rfl,_,rfl,G,_,0,0,rfl,rfl,m9,rfl,?_⟩;have t10:aN U (upd U G (.lst ([V.int (n1:Int)].set 0 (.int ((n1:Int) - 1))))):=aN.lst m9;have m10:upd U G (.lst ([V.int (n1:Int)].set 0 (.int ((n1:Int) - 1)))) G=some (.lst [.int ((n1 - 1:Nat):Int)]):=by rw[ew,show((n1 - 1:Nat):Int)=(n1:Int) - 1 by lia];rfl
    have h10:upd U G (.lst ([V.int (n1:Int)].set 0 (.int ((n1:Int) - 1)))) rl=some (.lst X):=upk nrm (b9 _ _ nrp h8);have Z:aU (upd U G (.lst ([V.int (n1:Int)].set 0 (.int ((n1:Int) - 1))))) p:=by obtain⟨a,b,e⟩:=p9;exact⟨a,b,upk C e⟩
    have k10:K2 p G H (upd U G (.lst ([V.int (n1:Int)].set 0 (.int ((n1:Int) - 1))))):=λc o e1 e2 e=>upk e2 (b9 _ _ e1 (k8 c o e1 e2 e));generalize upd U G (.lst ([V.int (n1:Int)].set 0 (.int ((n1:Int) - 1))))=W at t10 m10 h10 Z k10|-;exists 0,j8,j9;refine⟨_,rfl,.inl ⟨rfl,_,d5.of h10⟩,_,rfl,_,rfl,_,_,rfl,(by dsimp only;rw[lenV_l h10,lr8];rfl),.inl ⟨_,rfl,p,(N.length:Int)+1,rfl,Z,dz,dz,λi x y i0 i1=>?_⟩⟩;obtain⟨i,rfl⟩:∃c:Nat,i=(c:Int):=⟨i.toNat,dz⟩
    have S:cZ p W (upd W p (.lst [.int x,.int y])):=cZ.upd _ _ _;have p11:aU (upd W p (.lst [.int x,.int y])) p:=⟨_,_,ew⟩
    have t11:=aN.ofBut S Z;generalize upd W p (.lst [.int x,.int y])=H11 at S p11 t11|-;have h11:=S _ _ nrp h10;have dn11:H11 dn=some (dK31 sm):=by obtain⟨a,b,e⟩:=pt;exact S _ _ (λz=>by rw[z,e]at hdn;cases hdn) (k10.dk e hmo hdn)
    refine⟨_,rfl,_,rfl,dn,.str z,rfl,ES dn11 hz,rl,X,i,.str z,rfl,rfl,h11,dz,dz,?_⟩;have t12:aN H11 (upd H11 rl (.lst (X.take i ++ .str z::X.drop i))):=aN.lst h11;have t812:=t9.trans (t10.trans (t11.trans t12))
    have bqn:=(O.nought so ho tz).perm (vs:=N.take i ++ .str z::N.drop i) (by
     refine List.perm_middle.trans ?_
     rw[List.take_append_drop])
    have r8':=Reps.tups t812 O.fl r8;refine j9 ⟨n1 - 1,dz,rfl,λc o e1 e2 e=>upk (aC e rlH) (S _ _ e1 (k10 c o e1 e2 e)),by obtain⟨a,b,e⟩:=p11;exact⟨a,b,upk nrp.symm e⟩,upk nrm.symm (S _ _ C.symm m10),dz,_,N.take i ++ .str z::N.drop i,L8+1,ew,Reps.append (Reps.take i r8') ⟨_,_,rfl,rfl,Reps.drop i r8'⟩,bqn,dz,by rw[au,ar,bz,bS];lia⟩
def MI (F:iE K "_law_shuffled" c6 f fd)(T:Txt mg)(e:Ow P w K mg base 1 "_law_take" gG)(c:Ow P w K mg base 53 "_law_parts" (spPrt 51))(d:Ow P w K mg base 2 "_law_mixed" spMix)(a:Ow P w K mg base 2 "_law_bracketed" spBrk)(hm:mg "_law_shuffled" = some (.ref f))(g:PySem.W.keepIn K (.ref f)=true)(h:eH K fd (prmS c6) [])(n:Nat):Ow P w K mg base (n+54) "_law_shuffled" (yF n):=sB hm g h (λn O=>QT n F T e c d a O) n
end
def Tq.bp {a:cV}{sm:bL}{os:bA}{n:Nat}{d:D}{v:V}{H H':Hp}{p:Addr}(t:Tq a sm os n d v H)(b:cZ p H H')(pt:aU H p):Tq a sm os n d v H':=⟨aH.tups (aN.ofBut b pt) t.fl t.re,t.fl,t.tm,t.lv,t.dp⟩
def Tq.same {a:cV}{sm:bL}{os:bA}{n:Nat}{d:D}{v:V}{H H':Hp}(t:Tq a sm os n d v H)(s:aA H H'):Tq a sm os n d v H':=⟨aH.same s t.re,t.fl,t.tm,t.lv,t.dp⟩
def FK:Sp:=λvs H Q _=>∃(p dn:Addr) (fx:cV) (sm:bL) (os:bA) (d:D) (v:V),vs=[.ref p,.ref dn,v]/\aU H p/\H dn=some (dK31 sm)/\aP fx sm/\(∀x∈os,cB x)/\Tq fx sm os 11 d v H/\lvs d<=40 /\
 ∀(e:D) (v':V) (H':Hp),cZ p H H'->aU H' p->Tq fx sm os 11 e v' H'->flt sm e=flt sm d->lvs e<=40->Q v' H'
def M3 (F:iE K "_law_other" gN f fd)(T:Txt mg)(g:Ow P w K mg base 13 "_law_leaves" (spLvs 11))(a:Ow P w K mg base 65 "_law_shuffled" (yF 11))(i:Ow P w K mg base 53 "_law_depth" (spDep 51)):iX P w K mg base 66 f fd gN FK:=by
 refine F.okL oB λ_ _ _ _ H _ _ _ E _ h=>?_;obtain⟨p,dn,I,sm,os,d,v,rfl,pt,G,so,ho,t,B,q⟩:=h;refine⟨_,(pss3 (bJ 3 oB.nd (d9 a (E.mono dz) pass0 rfl (pa4 (pv 0) (pv 1) (pv 2) (bW (pa1 (aX gC aB (d9 g (E.mono dz) pass0 rfl (pa1 (pv 2))))))))) (bC (aJ wO (d9 i (E.mono dz) pass0 rfl (pa1 (pv 3))) aB) (aE (aF (pv 2))) aG) (aF (pv 3))),?_⟩
 ac_nf
 refine⟨_,rfl,_,rfl,_,rfl,_,rfl,I,sm,os,d,v,rfl,t,λu N=>⟨_,_,rfl,rfl,szl 1,λl m=>?_⟩⟩;have s2:aA u (upd u l (.lst [.int (40 - (lvs d:Int))])):=aA.upd m;have R:upd u l (.lst [.int (40 - (lvs d:Int))]) l=some (.lst [.int ((40 - lvs d:Nat):Int)]):=by rw[ew,show((40 - lvs d:Nat):Int)=40 - (lvs d:Int)by lia]
 have n2:∀b o,H b=some o->b≠l:=λb o e=>aC (N _ _ e) m;generalize upd u l (.lst [.int (40 - (lvs d:Int))])=H2 at s2 R|-;have j:=N.trans s2;have U:aU H2 p:=by obtain⟨x,y,e⟩:=pt;exact⟨x,y,j _ _ e⟩
 have A:p≠l:=by obtain⟨x,y,e⟩:=pt;exact n2 _ _ e
 refine⟨p,dn,l,I,sm,os,d,v,40 - lvs d,rfl,U,j _ _ G,R,A,so,ho,t.same j,t.dp,dz,λe L k' H3 C S m3 kk O sq Y=>?_⟩;have Z:cZ p H H3:=λb o nb e=>C _ _ nb (n2 _ _ e) (j _ _ e);have l40':lvs e<=40:=by lia
 have X:=t.dp;have W:=sq.dp;refine⟨_,rfl,I,sm,os,e,L,rfl,⟨O,sq.fl,sq.tm,dz,dz⟩,λr z=>⟨_,_,rfl,rfl,_,rfl,?_⟩⟩;have J:cZ p H r:=λb o nb e=>z _ _ (Z b o nb e);have Q:aU r p:=by obtain⟨x,y,e⟩:=S;exact⟨x,y,z _ _ e⟩
 refine aW (λc=>?_) (λc=>?_)
 ·exact⟨_,rfl,q d v r J Q (t.bp J pt) rfl B⟩
 ·have c:=of_decide_eq_false c;exact⟨_,rfl,q e L r J Q ⟨aH.same z O,sq.fl,sq.tm,dz,dz⟩ sq.ft l40'⟩
noncomputable def isS (n:Str):D->Bool
 | .tup (.str m::_)=>decide (m=n)
 | _=>false
def FL:Sp:=λvs H Q _=>∃(sm:bL) (n:Str) (d:D) (v:V),vs=[.str n,v]/\Pd sm d/\aH H d v/\Q (.bl (isS n d)) H
def yS (h:Pd sm d)(r:aH H d v):(∃x,d = .str x/\v = .str x)\/∃m ds e c,d = .tup (.str m::ds)/\v = .ref e/\H e=some (.tup (.str m::c))/\Reps H ds c:=by
 rcases GA h with⟨x,rfl⟩|⟨m,ds,rfl⟩
 ·exact .inl ⟨x,rfl,r⟩
 ·obtain⟨a,vs,rfl,f,_,c,rfl,g,r⟩:=r;cases g;exact .inr ⟨m,ds,a,c,rfl,rfl,f,r⟩
def DV (hz:zr sm n=some z)(h:Pd sm d)(r:aH H d v):(isS n d=false/\∀k:Str,k≠("add" : Str)->chD sm k n d=none)\/∃a b c x y,d = .tup [.str n,a,b]/\isS n d=true/\v = .ref c/\H c=some (.tup [.str n,x,y])/\aH H a x/\aH H b y/\Pd sm a/\Pd sm b:=by
 rcases yS h r with⟨x,rfl,rfl⟩|⟨m,ds,c,g,rfl,rfl,l,res⟩
 ·exact .inl ⟨rfl,λk f=>by unfold chD;rw[ab f]⟩
 ·by_cases e:m=n
  ·subst e;unfold Pd at h;have j:=h.1 (by rw[hz];simp)
   match ds,j,h,res with
   | [a,b],_,h,res =>
    obtain⟨x,_,rfl,r1,y,_,rfl,i,o⟩:=res;cases (show _=[]from o);exact .inr ⟨a,b,c,x,y,rfl,bj rfl,rfl,l,r1,i,h.2.1,h.2.2.1⟩
  ·refine .inl ⟨br e,λk f=>?_⟩;unfold chD;rw[ab f];split
   ·rename_i u a b q;cases q;rw[ab e]
   ·rfl
def ix2 (h:H va=some (.tup [n,x,y])):ixV H (.ref va) (.int 1)=some x/\ixV H (.ref va) (.int 2)=some y:=by rw[ixV_t h,ixV_t h];exact⟨rfl,rfl⟩
def UE (F:iE K "_law_is" kR f fd)(T:Txt mg):iX P w K mg base 1 f fd kR FL:=by
 refine F.okL DN λ_ _ _ _ _ _ _ _ _ i h=>?_;obtain⟨sm,n,d,v,rfl,pd,rep,q⟩:=h;refine⟨_,(aE (aF (DU (cW cY T.n_isinstance (pa2 (pv 1) (pP T.n_tuple))) (tM (fN (eA i) (aV (pv 1) aB) (pv 0)))))),?_⟩
 ac_nf
 rcases yS pd rep with⟨x,rfl,rfl⟩|⟨m,ds,g,c,rfl,rfl,a,res⟩
 ·exact⟨_,rfl,.str x,.ty "tuple",false,rfl,rfl,false,rfl,q⟩
 ·refine⟨_,rfl,.ref g,.ty "tuple",true,rfl,uC a,true,rfl,_,rfl,.str m,by rw[ixV_t a,atI_zero],_,rfl,.str m,.str n,rfl,rfl,aw _,?_⟩;have e:eqD (.str m) (.str n)=isS n (.tup (.str m::ds)):=by show(m == n)=decide (m=n);rw[ck];simp
  rw[e];exact q
def spLCh (P:eg)(w:eh):Sp:=λvs H Q _=>∃(dn:Addr) (fx:cV) (sm:bL) (os:bA) (k n z:Str) (d:D) (v:V),vs=[.ref dn,.str k,.str n,v]/\VH P w H dn (sm.map λr=>(.inr r.1,V.str r.2))/\k∈kinds/\zr sm n=some z/\aM fx sm os d/\Pd sm d/\aH H d v/\depD d<=100 /\
 (∀e a H',chD sm k n d=some e->aA H H'->aH H' e a->Q a H')/\(∀H',chD sm k n d=none->aA H H'->Q .non H')
def B8 (x y:Str):eqD (.str x) (.str y)=decide (x=y):=by show(x == y)=_;rw[ck];simp
def U9 (x y z:V):cutV [x,y,z] (some 1) none=[y,z]:=iP x [y,z]
def UG (F:iE K "_law_changed" fK f fd)(T:Txt mg)(g:Ow P w K mg base 1 "_law_is" FL):iX P w K mg base 2 f fd fK (spLCh P w):=by
 refine F.okL iZ λ_ _ _ _ H _ _ _ Y Q h=>?_;obtain⟨dn,fx,sm,os,k,n,z,d,v,rfl,hdn,hk,hz,tm,pd,rep,d100,A,r⟩:=h;have B:_+160<cLine:=ak (cg (show 160<=16 * 1+200 by decide) _) (by rw[<-Nat.add_assoc];exact Y.un);refine⟨_,(pss8 (bJ 4 iZ.nd (MC (pv 0) (pv 2) (λ_ _=>rfl))) (bC (aJ (tQ B) (pv 1) cI) (aE (aF (jW (aJ (lN Q) (pv 4) cI) (bB (pa3 (pv 2) (pv 3) (pv 4))) eZ))) aG) (bC (cS (fV K (aS g Y (pa2 (pv 2) (pv 3))))) (aE (aF eZ)) aG) (gU (dM iF (pv 3) (bU aB) cH) (dL K rfl (i:=5) (j:=6) rfl iZ.nd rfl rfl rfl rfl)) (bC (aJ (tQ B) (pv 1) cI) (aE (aF (bB (pa3 (pv 2) (pv 6) (pv 5))))) aG) (bC (aJ (tQ B) (pv 1) cI) (aE (aF (jW (aJ (tQ B) (pv 6) (pv 4)) (pv 5) eZ))) aG) (bC (aJ (tQ B) (pv 1) cI) (aE (aF (jW (fV K (aS g Y (pa2 (pv 2) (pv 6)))) (bB (pa3 (pv 2) (bB (pa3 (pv 2) (pv 5) (aV (pv 6) aB))) (aV (pv 6) aB))) eZ))) aG) (aF (jW (fV K (aS g Y (pa2 (pv 2) (pv 5)))) (bB (pa3 (pv 2) (aV (pv 5) aB) (bB (pa3 (pv 2) (aV (pv 5) aB) (pv 6))))) eZ))),?_⟩
 ac_nf
 exists k1;refine⟨_,rfl,_,rfl,dn,_,.inr n,.str z,rfl,hdn,rfl,by rw[qG,hz];rfl,k1 (aD ?_)⟩;intro _ _ _ k2 l _;refine⟨_,rfl,.str k,.str (PySem.Str.ofString "add"),rfl,rfl,aw _,_,rfl,?_⟩;rw[B8];refine ite2 (λI=>?_) (λI=>?_)
 ·have I:k="add":=bx (by simpa using I);subst I;refine⟨_,rfl,.str z,.str (PySem.Str.ofString ""),rfl,rfl,aw _,_,rfl,?_⟩;rw[B8];by_cases X:z=("" : Str)
  ·rw[bj X];refine h9 l (r H ?_ (aA.refl _));unfold chD;rw[aj rfl,hz];dsimp only;rw[aj X]
  ·rw[br X];exact⟨_,rfl,_,rfl,_,rfl,szl 3,λt C=>h9 l (A (.tup [.str n,d,.str z]) (.ref t) _ (OH hz X) (aA.upd C) ⟨t,_,rfl,ew,_,_,rfl,rfl,_,_,rfl,aH.same (aA.upd C) rep,_,_,rfl,rfl,rfl⟩)⟩
 have I:k≠"add":=λe=>by rw[e]at I;exact I dV
 exists k2,k3,e3;refine⟨_,rfl,_,rfl,sm,n,d,v,rfl,pd,rep,_,rfl,?_⟩;rcases DV hz pd rep with⟨e,none⟩|⟨a,b,va,x,y,rfl,e,rfl,ha,ra,rb,pa,pb⟩
 ·rw[e];exact h9 e3 (r H (none k I) (aA.refl _))
 rw[e];have dp:=(eK (sm:=sm) n a b).2.2.1;exists k3,k4;refine⟨_,rfl,1,rfl,va,_,rfl,.inr ha,λ_ h=>by have:=h.1;simp[HT.sIx]at this,λp o hp ho=>?_⟩;have eo:o = .tup [x,y]:=by
  rcases ho with⟨_,e⟩|⟨e,_⟩
  ·rw[ha]at e;cases e
  ·rw[e,U9]
 subst eo;obtain⟨Z,zN,G,p1⟩:=nwH (.tup [x,y]) hp;rw[zN];have q:=aH.same G ra;have m:=aH.same G rb;refine⟨p,_,rfl,hX.of p1,rfl,_,_,rfl,_,_,rfl,rfl,k4 (aD ?_)⟩;intro _ _ _ k5 e5 _;rw[lR I]at A r;refine⟨_,rfl,.str k,.str (PySem.Str.ofString "turn"),rfl,rfl,aw _,_,rfl,?_⟩;rw[B8];refine ite2 (λJ=>?_) (λJ=>?_)
 ·have J:k="turn":=bx (by simpa using J);exact⟨_,rfl,_,rfl,_,rfl,szl 3,λt C=>h9 e5 (A (.tup [.str n,b,a]) (.ref t) _ (aj J) (G.trans (aA.upd C)) ⟨t,_,rfl,ew,_,_,rfl,rfl,_,_,rfl,aH.same (aA.upd C) m,_,_,rfl,aH.same (aA.upd C) q,rfl⟩)⟩
 have J:k≠"turn":=λe=>by rw[e]at J;exact J dV
 rw[ab J]at A r;exists k5,k6,e6;refine⟨_,rfl,.str k,.str (PySem.Str.ofString "drop"),rfl,rfl,aw _,_,rfl,?_⟩;rw[B8];refine ite2 (λN=>?_) (λN=>?_)
 ·have N:k="drop":=bx (by simpa using N);rw[aj N,hz]at A r;refine⟨_,rfl,_,rfl,b,.str z,m,rfl,dz,_,rfl,aW (λc=>?_) (λc=>?_)⟩
  ·exact⟨_,rfl,h9 e6 (A a x Z (aj c) G q)⟩
  ·exact h9 e6 (r Z (ab (by rw[c];decide)) G)
 have N:k≠"drop":=λe=>by rw[e]at N;exact N dV
 rw[ab N]at A r;exists k6,k7,e7;refine⟨_,rfl,.str k,.str (PySem.Str.ofString "left"),rfl,rfl,aw _,_,rfl,?_⟩;rw[B8];refine ite2 (λL=>?_) (λL=>?_)
 ·have L:k="left":=bx (by simpa using L);rw[aj L]at A r;refine⟨_,rfl,_,rfl,sm,n,b,y,rfl,pb,m,_,rfl,?_⟩;rcases DV hz pb m with⟨l,O⟩|⟨b1,b2,vb,y1,y2,rfl,l,rfl,hb,S,R,pb1,pb2⟩
  ·rw[l];refine h9 e7 (r Z ?_ G);split
   ·exact ab (of_decide_eq_false l)
   ·rfl
  ·rw[l];refine⟨_,rfl,_,rfl,_,rfl,_,rfl,y1,(ix2 hb).1,szl 3,λt C=>?_⟩;have s2:=aA.upd (o:=.tup [.str n,x,y1]) C;refine⟨_,rfl,y2,(ix2 (s2 _ _ hb)).2,szl 3,λu Q=>?_⟩;have E:=s2.trans (aA.upd (o:=.tup [.str n,.ref t,y2]) Q);refine h9 e7 (A (.tup [.str n,.tup [.str n,a,b1],b2]) (.ref u) _ (aj rfl) (G.trans E) ⟨u,_,rfl,ew,_,_,rfl,rfl,_,_,rfl,⟨t,_,rfl,aA.upd Q _ _ ew,_,_,rfl,rfl,_,_,rfl,aH.same E q,_,_,rfl,aH.same E S,rfl⟩,_,_,rfl,aH.same E R,rfl⟩)
 have L:k≠"left":=λe=>by rw[e]at L;exact L dV
 rw[ab L]at A r;exists 0,k7,k8,e8;refine⟨_,rfl,_,rfl,sm,n,a,x,rfl,pa,q,_,rfl,?_⟩;rcases DV hz pa q with⟨l,O⟩|⟨a1,a2,wa,x1,x2,rfl,l,rfl,hw,W,U,pa1,pa2⟩
 ·rw[l];refine h9 e8 (r Z ?_ G);split
  ·exact ab (of_decide_eq_false l)
  ·rfl
 ·rw[l];refine⟨_,rfl,_,rfl,x1,(ix2 hw).1,_,rfl,_,rfl,x2,(ix2 hw).2,_,rfl,szl 3,λt C=>?_⟩;have s2:=aA.upd (o:=.tup [.str n,x2,y]) C;refine⟨szl 3,λu Q=>?_⟩;have E:=s2.trans (aA.upd (o:=.tup [.str n,x1,.ref t]) Q);refine h9 e8 (A (.tup [.str n,a1,.tup [.str n,a2,b]]) (.ref u) _ (aj rfl) (G.trans E) ⟨u,_,rfl,ew,_,_,rfl,rfl,_,_,rfl,aH.same E W,_,_,rfl,⟨t,_,rfl,aA.upd Q _ _ ew,_,_,rfl,rfl,_,_,rfl,aH.same E U,_,_,rfl,aH.same E m,rfl⟩,rfl⟩)
def CF (xs:List V)(n:Nat):cutV xs none (some (n:Int))=xs.take n:=by
 unfold cutV;rw[HT.sIx_nat,HT.sIx_none];rcases Nat.le_total n xs.length with h|h
 ·rw[Nat.min_eq_left h];simp
 ·rw[Nat.min_eq_right h];simp[List.take_of_length_le h]
def G1 (h:H l=some (.lst us))(e:us[n]?=some u)(hl:us.length=n+1):ixV H (.ref l) (.int (-1))=some u:=by
 rw[ixV_l h];unfold atI ixN;rw[ab dw,aj dz];have:(-1+(us.length:Int)).toNat=n:=by lia
 show us[(-1+(us.length:Int)).toNat]?=_;rw[this];exact e
def K7 (h:CT d pl ws e)(a:pl[i]?=some j):∃m ds x,ws[i]?=some (.tup (.str m::ds))/\ds[j]?=some x/\ws[i+1]?=some x/\∀y,bP sm k n (pl.drop (i+1)) x=some y->bP sm k n (pl.drop i) (.tup (.str m::ds))=some (.tup (.str m::ds.set j y)):=by
 have f:=(cx.mp a).1;obtain⟨c,q,nx⟩:=h.upto i dz;obtain⟨m,ds,x,rfl,g,o⟩:=nx j a;have hl:=q.last;rw[bz,Nat.min_eq_left dz,List.getElem?_take_of_lt dz]at hl;refine⟨m,ds,x,hl,g,o,λy l=>?_⟩;have e:pl.drop i=j::pl.drop (i+1):=by rw[List.drop_eq_getElem_cons f];rw[ay f]at a;cases a;rfl
 rw[e,bP,g,Option.bind_some,l];rfl
theorem Reps.put (r:aH H e u):∀{ds:List D} {vs:List V} (i:Nat),Reps H ds vs->Reps H (ds.set i e) (vs.set i u)
 | [],vs,i,h=>by cases (show vs=[]from h);exact h
 | d::ds,vs,0,h=>by
  obtain⟨v,a,rfl,f,c⟩:=h;exact⟨u,a,rfl,r,c⟩
 | d::ds,vs,i+1,h=>by obtain⟨v,a,rfl,f,c⟩:=h;exact⟨v,_,rfl,f,Reps.put r i c⟩
def O7 {j:cV}{sm:bL}{os:bA}{d:D}{pl:List Nat}{ws:List D}{e:D}(h:CT d pl ws e)(tm:aM j sm os d)(pd:Pd sm d):∀x∈ws,aM j sm os x/\Pd sm x/\depD x<=depD d/\nds x<=nds d:=by
 induction h with
 | nil=>intro x c;cases cy.mp c;exact⟨tm,pd,ac _,ac _⟩
 | snoc h i g =>
  intro x c;rcases c4.mp c with m|m
  ·exact g x m
  ·cases cy.mp m;obtain⟨t1,f,t3,t4⟩:=g _ (bn h.last);obtain⟨_,o,l,_⟩:=cG (sm:=sm) (d:=.tup (.str _::_)) (.inl rfl);rw[o]at t4;rw[l]at t3;have r:=fL i;have a:=bn i;have q:=pR a;unfold aM at t1;unfold Pd at f;exact⟨lE.mp t1.2 _ a,lK.mp f.2 _ a,dz,dz⟩
def IS (a:i<vs.length):(m::vs).take (i+1)++[x]++(m::vs).drop (i+2)=m::vs.set i x:=by rw[List.take_succ_cons,List.drop_succ_cons,List.set_eq_take_append_cons_drop,aj a];simp
def XF (dn sa pa l:Addr)(v:V)(k n:Str)(ws:List D)(H:Hp)(i:Nat)(c:St)(a:Hp):Prop:=∃(us:List V) (o7 o8 o9:Option V),c=[some (.ref dn),some v,some (.ref sa),some (.str k),some (.ref pa),some (.str n),some (.ref l),o7,o8,o9]/\aA H a/\a l=some (.lst us)/\Reps H (ws.take (i+1)) us
def XG (dn sa pa l:Addr)(v:V)(sm:bL)(k n:Str)(pl:List Nat)(ws:List D)(H:Hp)(i:Nat)(c:St)(a:Hp):Prop:=∃(u:V) (y x:D) (o1 o2:Option V),c=[some (.ref dn),some v,some (.ref sa),some (.str k),some (.ref pa),some (.str n),some (.ref l),o1,some u,o2]/\aA H a/\aH a y u/\ws[pl.length - i]?=some x/\bP sm k n (pl.drop (pl.length - i)) x=some y
def wG:Sp:=λvs H Q _=>∃(dn sa pa:Addr) (fx:cV) (sm:bL) (os:bA) (k n z:Str) (pl:List Nat) (d e:D) (v:V),vs=[.ref dn,v,.ref sa]/\H dn=some (dK31 sm)/\aP fx sm/\(∀x∈os,cB x)/\aH H d v/\aM fx sm os d/\Pd sm d/\depD d<=100/\nds d<=1100/\eI H sa [.str k,.ref pa,.str n]/\eI H pa (iV pl)/\k∈kinds/\zr sm n=some z/\n∈sm.map (·.1)/\pl.length<=200/\bP sm k n pl d=some e /\
 ∀(a:V) (H':Hp),aA H H'->aH H' e a->Q a H'
def D0 (F:iE K "_law_stepped" fI f fd)(T:Txt mg)(a:Ow P w K mg base 2 "_law_changed" (spLCh P w)):iX P w K mg base 3 f fd fI wG:=by
 refine F.okL cC λ_ _ _ s H vs _ _ hr hu h=>?_;obtain⟨dn,sa,pa,fx,sm,os,k,n,z,pl,d,e,v,rfl,hdn,so,ho,rep,tm,pd,dp,nd,hsa,hpa,hkk,hz,hn,l200,st,q⟩:=h;refine⟨_,(pss7 (gU (pv 2) (SB (n:=3) rfl (dU (gV 3 cC.nd) (dU (gV 4 cC.nd) (dU (gV 5 cC.nd) nO))))) (bJ 6 cC.nd (bW (pa1 (pv 1)))) (iA (gF K (pv 4)) (gV 7 cC.nd) (pss2 (bC (PW.pt (j6 (fE K T.n_isinstance (aV (pv 6) (iB eY aB)) T.n_str) (iI (cS (kT mR (qP hu) aB (pv 7) (aX gC (cW bK T.n_len (pa1 (aV (pv 6) (iB eY aB)))) aB)))))) (aE (aF eZ)) aG) (bX (fX di dq dj eU (pv 6) (pa1 (aV (aV (pv 6) (iB eY aB)) (aX (bF.or gW) aB (pv 7)))))))) (bJ 8 cC.nd (aS a hr (pa4 (pv 0) (pv 3) (pv 5) (aV (pv 6) (iB eY aB))))) (bC (aJ tP (pv 8) eZ) (aE (aF eZ)) aG) (iA (P1 rfl T.n_zip (pa2 (iJ yK (pv 6) (bU (iB eY aB)) cH (bU (iB eY aB))) (iJ FO (pv 4) cH cH (bU (iB eY aB))))) (dL K rfl (i:=9) (j:=7) rfl cC.nd rfl rfl rfl rfl) (aE (bJ 8 cC.nd (aX (bF.or gW) (aX (bF.or gW) (dM iF (pv 9) cH (bU (aX (bF.or gW) aB (pv 7)))) (bB (pa1 (pv 8)))) (dM iF (pv 9) (bU (aX (bF.or gW) aB (pv 7))) cH))))) (aF (pv 8))),?_⟩
 ac_nf
 exists k1;refine⟨_,rfl,sa,_,rfl,hsa,rfl,_,_,rfl,_,_,rfl,_,_,rfl,rfl,k1 ?_⟩;exists k2;refine⟨_,rfl,szl 1,λl hl=>?_⟩;obtain⟨H1,R,s1,l1⟩:=nwH (.lst [v]) hl;rw[R];exists k2,k3;obtain⟨ws,e0,c,g,hc⟩:=AS st;have wl:=g.len;refine⟨_,rfl,pa,_,rfl,hpa.same s1,λJ hJ=>?_⟩;have t1:ws.take 1=[d]:=by obtain⟨r,rfl⟩:=g.first;rfl
 refine gZ hJ (XF dn sa pa l v k n ws H) ⟨[v],none,none,none,rfl,s1,l1,t1 ▸ ⟨v,[],rfl,rep,rfl⟩⟩ (λi σ H' _ ⟨_,_,_,_,_,s,_⟩=>by rcases hpa with e|e <;> rw[s _ _ e,s1 _ _ e]) ?_ ?_
 ·rintro i x σ H2 A ⟨us,o7,o8,o9,rfl,s2,l2,ru⟩;obtain⟨j,hj,rfl⟩:∃j,pl[i]?=some j/\x = .int (j:Int):=by
   unfold iV at A;rw[cf]at A;cases e:pl[i]? with
   | none=>rw[e]at A;cases A
   | some y=>rw[e]at A;cases A;exact⟨y,rfl,rfl⟩
  have li:=(cx.mp hj).1;obtain⟨c',hc',nx⟩:=g.upto i dz;obtain⟨m,ds,y,rfl,Q,hw⟩:=nx j hj;have O:=hc'.last;rw[bz,Nat.min_eq_left dz]at O;have lu:=Reps.len ru;rw[bz]at lu;obtain⟨u,hu⟩:∃u,us[i]?=some u:=⟨_,ay dz⟩
  obtain⟨c2,hc2,rc⟩:=Reps.get ru hu;rw[O]at hc2;cases hc2;obtain⟨X,vs,rfl,Z,_,C,rfl,e1,G⟩:=rc;cases e1;have lj:=(cx.mp Q).1;have lv:=Reps.len G;obtain⟨yv,hyv⟩:∃yv,C[j]?=some yv:=⟨_,ay dz⟩
  obtain⟨y',U,ry⟩:=Reps.get G hyv;rw[Q]at U;cases U;have h2:=s2 _ _ Z;have ix:=G1 l2 hu dz;exists k4;refine⟨_,rfl,1,rfl,.ref X,ix,.ref X,.ty "str",false,rfl,gX h2,?_⟩;refine⟨_,rfl,_,rfl,_,_,rfl,rfl,_,rfl,aW (λ_=>?_) (λc=>absurd (Int.natCast_nonneg j) (of_decide_eq_false c))⟩;refine⟨_,rfl,1,rfl,.ref X,ix,_,_,rfl,(by dsimp only;rw[lenV_t h2];rfl),_,_,rfl,rfl,.inl (.inl ⟨_,_,rfl,rfl,_,rfl,?_⟩)⟩;have lt:decide ((j:Int)<((V.str m::C).length:Int) - 1)=true:=bj (by rw[ar];lia);dsimp only;rw[lt];refine k4 ⟨_,rfl,.inl ⟨rfl,_,d5.of l2⟩,_,rfl,1,rfl,.ref X,ix,_,rfl,.inl (.inl ⟨_,rfl,yv,?_,l,us,yv,rfl,rfl,l2,ltSz,?_⟩)⟩
  ·rw[ixV_t h2];have e1:1+(j:Int)=((j+1:Nat):Int):=by lia
   rw[e1];exact lU (by simpa using hyv)
  ·refine⟨us++[yv],_,_,_,rfl,λb o hb=>upk (aC hb hl) (s2 _ _ hb),ew,?_⟩;rw[aR hw];exact Reps.snoc ry ru
 ·rintro σ H3 ⟨us,o7,o8,o9,rfl,s3,l3,S⟩;have e1:ws.take ((iV pl).length+1)=ws:=by unfold iV;rw[af,<-wl,bI]
  rw[e1]at S;have lu:=Reps.len S;obtain⟨u0,hu0⟩:∃u,us[pl.length]?=some u:=⟨_,ay dz⟩
  obtain⟨e0',he0,ru0⟩:=Reps.get S hu0;rw[g.last]at he0;cases he0;have sub:=O7 g tm pd;obtain⟨t1,t2,t3,t4⟩:=sub e0 (bn g.last);exists k3,k4;refine⟨_,rfl,_,rfl,_,rfl,_,rfl,1,rfl,u0,G1 l3 hu0 dz,dn,fx,sm,os,k,n,z,e0,u0,rfl,.inl (s3 _ _ hdn),hkk,hz,t1,t2,aH.same s3 ru0,dz,λe' u1 H4 he s4 r4=>?_,λH4 he _=>by rw[hc]at he;cases he⟩;rw[hc]at he;cases he;have pdc:=(OG so ho hkk hn t1 t2 hc).1.pd;exists k4,k5;refine⟨_,rfl,rfl,_,rfl,aW (λz=>?_) (λ_=>?_)⟩
  ·have z:=bx z;rcases yS pdc r4 with⟨x,_,w⟩|⟨m,ds,va,C,_,w,_⟩ <;> (rw[w]at z;cases z)
  have pa4:=hpa.same (s3.trans s4);exists k5,k6;refine⟨_,rfl,2,rfl,-2,rfl,1,rfl,-1,rfl,rfl,rfl,rfl,l,us,rfl,s4 _ _ l3,λz=>by rw[z]at lu;simp at lu;lia,λp5 hp5=>?_⟩;obtain⟨H5,R,s5,q5⟩:=nwH (.lst us.dropLast.reverse) hp5;rw[R];refine⟨_,rfl,1,rfl,-1,rfl,rfl,rfl,rfl,pa,_,rfl,pa4.same s5,λp6 o6 hp6 ho6=>?_⟩;have s6:aA H5 (upd H5 p6 o6):=aA.upd hp6;have q6:eI (upd H5 p6 o6) p6 (iV pl).reverse:=by
   rcases ho6 with⟨rfl,_⟩|⟨rfl,_⟩
   ·exact .inl ew
   ·exact .inr ew
  generalize upd H5 p6 o6=H6 at s6 q6|-;refine⟨p5,p6,_,_,rfl,.inl (s6 _ _ q5),q6,?_⟩;have lz:min us.dropLast.reverse.length (iV pl).reverse.length=pl.length:=by
   unfold iV;rw[List.length_reverse,List.length_reverse,List.length_dropLast,af]
   lia
  have s46:=s5.trans s6;have s36:=s3.trans (s4.trans s46);have rus6:=Reps.same s36 S;refine JV us.dropLast.reverse (iV pl).reverse (XG dn sa pa l v sm k n pl ws H6) ⟨u1,c,e0,_,_,rfl,aA.refl _,aH.same s46 r4,by rw[Nat.sub_zero];exact g.last,by rw[Nat.sub_zero,List.drop_length];exact hc⟩ (λi σ H' _ ⟨_,_,_,_,_,_,s,_⟩=>⟨.inl (s _ _ (s6 _ _ q5)),q6.same s⟩) ?_ ?_
  ·rintro i y x T σ H7 Q A ⟨u,yd,xd,o1,o2,rfl,s7,ry,W,N⟩ hT;have li:=(cx.mp A).1;have li2:=(cx.mp Q).1;rw[List.getElem?_reverse (by simpa using li)]at A;rw[List.getElem?_reverse (by simpa using li2)]at Q;have l1:(iV pl).length=pl.length:=by unfold iV;rw[af]
   have l2:us.dropLast.length=pl.length:=by rw[List.length_dropLast];lia
   rw[List.length_reverse,l1]at li;rw[l1]at A;rw[l2]at Q;obtain⟨j,hj,rfl⟩:∃j,pl[pl.length - 1 - i]?=some j/\x = .int (j:Int):=by
    unfold iV at A;rw[cf]at A;cases e:pl[pl.length - 1 - i]? with
    | none=>rw[e]at A;cases A
    | some y=>rw[e]at A;cases A;exact⟨y,rfl,rfl⟩
   have U:us[pl.length - 1 - i]?=some y:=by
    rw[List.getElem?_dropLast]at Q;split at Q
    ·exact Q
    ·cases Q
   obtain⟨m,ds,xx,hw,hdx,B,fin⟩:=K7 (sm:=sm) (k:=k) (n:=n) g hj;rw[show pl.length - 1 - i+1=pl.length - i by lia]at B fin;rw[W]at B;cases B;obtain⟨dd,hdd,rdd⟩:=Reps.get rus6 U;rw[hw]at hdd;cases hdd;obtain⟨_,_,_,tn⟩:=sub _ (bn hw);obtain⟨_,n2,_⟩:=cG (sm:=sm) (d:=.tup (.str m::ds)) (.inl rfl);have nl:=fY ds;obtain⟨X,vs,rfl,Z,_,C,rfl,e1,G⟩:=rdd;cases e1;have lv:=Reps.len G;have lj:=(cx.mp hdx).1;obtain⟨H8,R,s8,T8⟩:=nwH (.tup [.ref X,.int (j:Int)]) hT;rw[R];have I:=s8 _ _ (s7 _ _ Z);have c1:1+(j:Int)=((j+1:Nat):Int):=by lia
   have c2:2+(j:Int)=((j+2:Nat):Int):=by lia
   refine⟨T,_,rfl,hX.of T8,rfl,_,_,rfl,_,_,rfl,rfl,dP ?_⟩;intro _ _ _ k7 _ _;refine⟨_,rfl,_,rfl,.inl (.inl ⟨_,rfl,1+(j:Int),rfl,X,_,rfl,.inr I,λ_ z=>?_,λq1 w1 hq1 B=>?_⟩)⟩
   ·have z:=z.2;rw[c1,HT.sIx_nat,ar]at z
    lia
   rw[c1,CF]at B;obtain⟨rfl,_⟩:=B.resolve_left λz=>by rw[I]at z;exact nomatch z.2
   obtain⟨H9,R,s9,r9⟩:=nwH (.tup ((.str m::C).take (j+1))) hq1;rw[R];refine⟨_,rfl,szl 1,λq2 hq2=>?_⟩;obtain⟨H10,R,Y,r10⟩:=nwH (.tup [u]) hq2;rw[R];refine .inr ⟨q1,q2,_,_,rfl,rfl,Y _ _ r9,r10,leSz,λq3 H11 s11 r11=>?_⟩;have L:=s11 _ _ (Y _ _ (s9 _ _ I));refine⟨_,rfl,_,rfl,.inl (.inl ⟨_,rfl,2+(j:Int),rfl,X,_,rfl,.inr L,λ_ z=>?_,λq4 w4 hq4 hw4=>?_⟩)⟩
   ·have z:=z.1;rw[c2,HT.sIx_nat,ar]at z
    lia
   rw[c2,OD]at hw4;obtain⟨rfl,_⟩:=hw4.resolve_left λz=>by rw[L]at z;exact nomatch z.2
   refine .inr ⟨q3,q4,_,_,rfl,rfl,aA.upd hq4 _ _ r11,ew,leSz,λq5 H12 s12 r12=>?_⟩;rw[IS dz]at r12;have E:aA H7 H12:=((s8.trans s9).trans (Y.trans s11)).trans ((aA.upd hq4).trans s12);refine k7 ⟨.ref q5,.tup (.str m::ds.set j yd),.tup (.str m::ds),_,_,rfl,s7.trans E,⟨q5,_,rfl,r12,.str m,_,rfl,rfl,Reps.put (aH.same E ry) j (Reps.same (s7.trans E) G)⟩,?_,?_⟩
   ·rw[show pl.length - (i+1)=pl.length - 1 - i by lia];exact hw
   ·rw[show pl.length - (i+1)=pl.length - 1 - i by lia];exact fin yd N
  ·rintro σ H7 ⟨u,yd,xd,o1,o2,rfl,s7,ry,W,N⟩;rw[lz,Nat.sub_self]at W N;obtain⟨r,rfl⟩:=g.first
   cases W;rw[List.drop_zero,st]at N;cases N;exact k6 ⟨_,rfl,q _ _ (s36.trans s7) ry⟩
def spLIs:Sp:=λvs H Q _=>∃(s:S3) (v:V),vs=[v]/\aH H (stD s) v/\s.1∈kinds/\∀H',aA H H'->Q (.bl true) H'
def D4 (F:iE K "_law_is_step" fJ f fd)(T:Txt mg):iX P w K mg base 1 f fd fJ spLIs:=by
 refine F.okL rO λ_ _ _ s _ _ _ _ _ d h=>?_;obtain⟨s,v,rfl,g,i,q⟩:=h;refine⟨_,(pss2 (bC (PW.pt (j6 (cS (fE K T.n_isinstance (pv 0) T.n_tuple)) (j6 (aJ (lN d) (cW bK T.n_len (pa1 (pv 0))) aB) (iI (cS (fE K T.n_isinstance (aV (pv 0) aB) T.n_tuple)))))) (aE (aF jY)) aG) (aF (fN (T4 d) (aV (pv 0) aB) (bW (eB cI (pa4 cI cI cI cI))) (by with_unfolding_all rfl)))),?_⟩
 ac_nf
 obtain⟨T,pa,rfl,a,c⟩:=DH g;refine⟨_,rfl,.ref T,.ty "tuple",true,rfl,uC a,true,rfl,_,rfl,_,.int 3,rfl,by dsimp only;rw[lenV_t a];rfl,.int 3,.int 3,rfl,rfl,aw _,_,rfl,?_⟩;rw[eF];refine⟨_,rfl,.ref pa,by rw[ixV_t a];rfl,.ref pa,.ty "tuple",true,rfl,uC c,true,rfl,?_⟩;refine⟨_,rfl,.str s.1,by rw[ixV_t a];rfl,szl 5,λl hl=>.inl ⟨.str s.1,kinds.map D.str,rfl,.inl ⟨l,_,rfl,ew,_,_,rfl,rfl,_,_,rfl,rfl,_,_,rfl,rfl,_,_,rfl,rfl,_,_,rfl,rfl,rfl⟩,dw,?_⟩⟩;have e:inD (.str s.1) (kinds.map D.str)=true:=by unfold inD;rw[List.any_map,List.any_eq_true];exact⟨s.1,i,eF _⟩
 rw[ab dw,e];exact q _ (aA.upd hl)
def yH (P:eg)(w:eh):Sp:=λvs H Q _=>∃(dn l:Addr) (fx:cV) (sm:bL) (os:bA) (d e:D) (v u:V) (S:List S3) (us:List V),vs=[.ref dn,v,u,.ref l]/\H dn=some (dK31 sm)/\aP fx sm/\(∀x∈os,cB x)/\aH H d v/\aH H e u/\zX fx sm os d/\zX fx sm os e/\depD d<=11/\depD e<=11/\H l=some (.lst us)/\Reps H (S.map stD) us/\C4 fx sm os 600 S (prD sm d) (prD sm e)/\Bd fx sm os 600 (prD sm e)/\∀H',aA H H'->Q (.bl true) H'
def X6 (dn l:Addr)(f:cV)(sm:bL)(os:bA)(v u:V)(S:List S3)(e:D)(H:Hp)(i:Nat)(d:St)(a:Hp):Prop:=∃(c:D) (cv:V) (o5:Option V),d=[some (.ref dn),some v,some u,some (.ref l),some cv,o5]/\aA H a/\aH a c cv/\C4 f sm os 600 (S.drop i) c (prD sm e)
def M5 (F:iE K "_law_leads" gR f fd)(T:Txt mg)(a:Ow P w K mg base 13 "_law_paired" (pC 11))(j:Ow P w K mg base 1 "_law_is_step" spLIs)(g:Ow P w K mg base 3 "_law_stepped" wG):iX P w K mg base 14 f fd gR (yH P w):=by
 refine F.okL iM λ_ _ _ s _ _ _ _ N hu h=>?_;obtain⟨dn,l,O,sm,os,d,e,v,u,S,us,rfl,A,so,ho,rd,re,td,te,Z,Y,hl,ru,led,be,q⟩:=h;refine⟨_,(pss4 (bJ 4 iM.nd (aS a N (pa2 (pv 0) (pv 1)))) (bC (cS (fE K T.n_isinstance (pv 3) T.n_list)) (aE (aF jY)) aG) (iA (gF K (pv 3)) (gV 5 iM.nd) (pss3 (bC (PW.pt (j6 (cS (fV K (aS j N (pa1 (pv 5))))) (iI (aJ (oQ hu) (aV (pv 5) aB) (pv 0) (by with_unfolding_all rfl))))) (aE (aF jY)) aG) (bJ 4 iM.nd (aS g N (pa3 (pv 0) (pv 4) (pv 5)))) (bC (aJ tP (pv 4) eZ) (aE (aF jY)) aG))) (aF (fN (eA hu) (pv 4) (aS a N (pa2 (pv 0) (pv 2)))))),?_⟩
 ac_nf
 exists k1;refine⟨_,rfl,_,rfl,dn,O,sm,os,d,v,rfl,A,rd,td,Z,λcv H1 B G=>k1 ?_⟩;exists k2;refine⟨_,rfl,.ref l,.ty "list",true,rfl,isV_ll (B _ _ hl),true,rfl,k2 ?_⟩;exists k3;refine⟨_,rfl,l,us,rfl,.inl (B _ _ hl),λJ hJ=>?_⟩;have lu:=Reps.len ru;rw[af]at lu;refine gZ hJ (X6 dn l O sm os v u S e H1) ⟨prD sm d,cv,none,rfl,aA.refl _,G,led⟩ (λi σ H' _ ⟨_,_,_,_,s,_⟩=>by rw[s _ _ (B _ _ hl),B _ _ hl]) ?_ ?_
 ·rintro i x σ H2 hx ⟨c,cv,o5,rfl,s2,G,led⟩;obtain⟨sd,I,rx⟩:=Reps.get ru hx;rw[cf]at I;obtain⟨s,hs,rfl⟩:=Option.map_eq_some_iff.mp I;have li:=(cx.mp hs).1;have es:S.drop i=s::S.drop (i+1):=by rw[List.drop_eq_getElem_cons li,(cx.mp hs).2]
  rw[es]at led;obtain⟨W,U,C,c',X,H⟩:=led;have o:=B.trans s2;have E:=aH.same o rx;obtain⟨T,pa,rfl,hT,Q⟩:=DH E;obtain⟨z,hz⟩:=sR U;have deep:=wF X;have dp:=C.dp so;have nd:=C.nd;exists k4;refine⟨_,rfl,s,.ref T,rfl,E,W,λH3 r=>⟨true,rfl,?_⟩⟩;have L:=r _ _ hT;have R:=r _ _ Q;have d3:=(o.trans r) _ _ A;refine⟨_,rfl,.str s.2.2,by rw[ixV_t L];rfl,_,rfl,dn,some (.str z),rfl,ES d3 hz,_,rfl,?_⟩;exists k4,k5;refine⟨_,rfl,_,rfl,_,rfl,dn,T,pa,O,sm,os,s.1,s.2.2,z,s.2.1,c,c',cv,rfl,d3,so,ho,aH.same r G,C.tm,C.pd,dz,dz,.inr L,.inr R,W,hz,U,dz,X,λcv' H4 s4 r4=>?_⟩;refine k5 ⟨_,rfl,rfl,_,rfl,aW (λw=>?_) (λ_=>?_)⟩
  ·have w:=bx w;rcases yS (kK so ho W U C.tm C.pd X).1.pd r4 with⟨x,_,k⟩|⟨m,ds,va,vs',_,k,_⟩ <;> (rw[k]at w;cases w)
  ·exact⟨c',cv',_,rfl,(s2.trans r).trans s4,r4,H⟩
 ·rintro σ H2 ⟨c,cv,o5,rfl,s2,G,led⟩;rw[lu,List.drop_length]at led;cases (show c=prD sm e from led);have o:=B.trans s2;refine k3 ⟨_,rfl,_,rfl,_,rfl,dn,O,sm,os,e,u,rfl,o _ _ A,aH.same o re,te,Y,λev H3 r r3=>?_⟩;refine⟨prD sm e,prD sm e,aH.same r G,r3,aq (be.dp so) dw,?_⟩;rw[eF];exact q H3 (o.trans r)
def mE (n:Nat):Sp:=λvs H Q _=>∃(c:cV) (sm:bL) (os:bA) (d:D) (v:V),vs=[v]/\aH H d v/\(zX c sm os d\/∃x,d = .str x)/\depD d<=n/\∀(a:V) (H':Hp),aA H H'->aH H' (asD true d) a->Q a H'
def X2 (es:List D)(H:Hp)(i:Nat)(a:List V)(d:St)(c:Hp):Prop:=∃e:Option V,d=[e]/\aA H c/\Reps c ((es.take i).map (asD true)) a
def HV (b:Bool)(x:Str):asD b (.str x) = .str x:=by unfold asD;rfl
def RW (h:d = .tup (.str n::ds)\/d = .lst (.str n::ds)):asD true d = .lst (.str n::asDs true ds):=by rcases h with rfl|rfl <;> (rw[asD,aj rfl])
def JG (n:Nat)(F:iE K "_law_listed" cK f fd)(T:Txt mg)(a:Ow P w K mg base (n+1) "_law_listed" (λvs H Q E=>∃m,m<n/\mE m vs H Q E)):iX P w K mg base (n+2) f fd cK (mE n):=by
 refine F.okL mH λ_ _ _ s H _ _ _ hr _ h=>?_;obtain⟨A,sm,os,d,v,rfl,rep,tm,dp,q⟩:=h;refine⟨_,(pss2 (bC (fE K T.n_isinstance (pv 0) T.n_str) (aE (aF (pv 0))) aG) (aF (jX (bD.of mH ["_law_part"] [none]) (gF K (pv 0)) (bV (i:=0) (cT ["_law_part"]) rfl (Or.inl rfl)) cU (d9 a (hr.mono dz) pass0 rfl (pa1 (pv 0)))))),?_⟩
 ac_nf
 have two:(∃x,d = .str x/\v = .str x)\/∃nm ds j g,zX A sm os d/\(d = .tup (.str nm::ds)\/d = .lst (.str nm::ds))/\IsTms A sm os ds/\v = .ref j/\isV H (.ref j) (.ty "str")=some false/\eI H j (.str nm::g)/\Reps H ds g:=by
  rcases tm with tm|⟨x,rfl⟩
  ·rcases FF tm rep with h|⟨nm,ds,j,g,W,U,I,h4,h5,h6,h7⟩
   ·exact .inl h
   ·exact .inr ⟨nm,ds,j,g,tm,W,I,h4,h5,h6,h7⟩
  ·exact .inl ⟨x,rfl,rep⟩
 rcases two with⟨x,rfl,rfl⟩|⟨nm,ds,j,g,tm,hd,B,rfl,G,o,res⟩
 ·exact⟨_,rfl,.str x,.ty "str",true,rfl,rfl,_,rfl,_,rfl,q _ _ (aA.refl _) (by rw[HV];rfl)⟩
 have R:ds.length<=50:=by
  have W:=dQ B;have U:=tm.lv;rw[(cG (sm:=sm) hd).1]at U
  lia
 have C:=(cG (sm:=sm) hd).2.2.1;have hl:=Reps.len res;have res':Reps H (.str nm::ds) (.str nm::g):=⟨_,_,rfl,rfl,res⟩
 refine⟨_,rfl,.ref j,.ty "str",false,rfl,G,_,rfl,_,rfl,j,_,rfl,o,λJ hJ=>?_⟩;refine cQ hJ (X2 (.str nm::ds) H) ⟨none,rfl,aA.refl _,rfl⟩ (λi r L H' _ ⟨_,_,s,_⟩=>by rcases o with e|e <;> rw[s _ _ e,e]) ?_ ?_
 ·rintro i x r L H1 Z ⟨Y,rfl,z,c⟩;obtain⟨e,S,re⟩:=Reps.get res' Z;have I:=Reps.len c;rw[af,bz,ar]at I;have N:(zX A sm os e\/∃x,e = .str x)/\depD e<depD d:=by
   obtain rfl|h:=cz.mp (bn S)
   ·exact⟨.inr ⟨nm,rfl⟩,by rw[C];show 0<_;lia⟩
   ·have:=AO tm hd h;exact⟨.inl this.1,this.2⟩
  refine⟨_,rfl,depD e,by have:=N.2;lia,A,sm,os,e,x,rfl,aH.same z re,N.1,ac _,λv' H2 O X=>⟨ak (m:=64) dz dw,_,rfl,z.trans O,?_⟩⟩;rw[aR S,az];exact Reps.snoc X (Reps.same O c)
 ·rintro r L H1 ⟨Y,rfl,z,c⟩ l u;refine q _ _ (z.trans (aA.upd u)) ?_;rw[ar,hl,show ds.length+1=(D.str nm::ds).length from rfl,bI,bg,HV,<-nH]at c;rw[RW hd];exact⟨l,r,rfl,ew,Reps.same (aA.upd u) c⟩
def JY (F:iE K "_law_listed" cK f fd)(T:Txt mg)(hm:mg "_law_listed" = some (.ref f))(i:PySem.W.keepIn K (.ref f)=true)(a:eH K fd (prmS cK) []):∀n,iX P w K mg base (n+2) f fd cK (mE n):=by
 intro n
 induction n using Nat.strongRecOn with
 | ind n d =>
  exact JG n F T ⟨f,fd,_,⟨λvs H Q E ⟨m,c,h⟩=>(d m c).len vs H Q E h,λA outer s H args us vs Q E g j a e ⟨m,c,h⟩=>((d m c).mono dz).run A outer s H args us vs Q E g j a e h⟩,hm,i,a⟩
def DW (F:iE K "_law_listed" cK f fd)(T:Txt mg)(hm:mg "_law_listed" = some (.ref f))(a:PySem.W.keepIn K (.ref f)=true)(c:eH K fd (prmS cK) [])(n:Nat):Ow P w K mg base (n+2) "_law_listed" (mE n):=⟨f,fd,_,JY F T hm a c n,hm,a,c⟩
section
variable {P:eg}{w:eh}{K:d6}{mg:jD}{base:Heap}
def P5 (O:uV X.prog X.w X.K X.mg X.base CX k C m sp)(e:eG k X.A)(a:j0 CX X E)(g:PE X o ta)
  (d:eval (.Call (.Attribute o m apos) [] [] pos) X.env=(do
   let ov <-eval o X.env
   standAt apos.atName
   let(f,first) <-holding [ov] (getMethod ov m pl)
   callWith pos f first (backTo pos (starEach [] X.env)) (backToKw pos (keywordEach [] X.env))):=by rfl):PE X (.Call (.Attribute o m apos) [] [] pos) (tMeth C m sp [] E ta tNil):=by
 obtain⟨f,fd,ps,F,M,h,c⟩:=O;exact MA g c M F e h .nil a d
structure Tb (Pt Pp:Addr)(H:Hp):Prop where
 lt:LT lkT Pt H
 lp:O0 Pp H
 ne:Pt≠Pp
def B2 (Pt Pp:Addr)(H H':Hp):Prop:=∀c o,c≠Pt->c≠Pp->H c=some o->H' c=some o
def B2.trans (a:B2 Pt Pp H H1)(b:B2 Pt Pp H1 H2):B2 Pt Pp H H2:=λc o f d e=>b c o f d (a c o f d e)
def B2.of (s:aA H H'):B2 Pt Pp H H':=λc o _ _ e=>s c o e
def B2.t (s:cZ Pt H H'):B2 Pt Pp H H':=λc o h _ e=>s c o h e
def B2.p (s:cZ Pp H H'):B2 Pt Pp H H':=λc o _ h e=>s c o h e
def Tb.same (h:Tb Pt Pp H)(s:aA H H'):Tb Pt Pp H':=⟨h.lt.same s,h.lp.same s,h.ne⟩
def Tb.t (h:Tb Pt Pp H)(b:cZ Pt H H')(l:LT lkT Pt H'):Tb Pt Pp H':=by
 refine⟨l,?_,h.ne⟩;rcases h.lp with e|⟨c',c,a,f,i,d,g⟩
 ·exact .inl (b _ _ h.ne.symm e)
 ·exact .inr ⟨c',c,a,f,b _ _ h.ne.symm i,b _ _ (h.lt.ne d λ_=>by simp) d,g⟩
def Tb.p (h:Tb Pt Pp H)(b:cZ Pp H H')(l:O0 Pp H'):Tb Pt Pp H':=by
 refine⟨?_,l,h.ne⟩;rcases h.lt with e|⟨c',c,a,f,i,d,g⟩
 ·exact .inl (b _ _ h.ne e)
 ·exact .inr ⟨c',c,a,f,b _ _ h.ne i,b _ _ (h.lp.ne d λ_=>by simp) d,g⟩
def Tb.get (h:Tb Pt Pp H)(b:B2 Pt Pp H H')(e:H a=some o)(n:∀ps,o≠.tbl ps):H' a=some o:=b _ _ (h.lt.ne e n) (h.lp.ne e n) e
mutual
theorem Tb.rep (h:Tb Pt Pp H)(b:B2 Pt Pp H H'):∀{d:D} {v:V},aH H d v->aH H' d v
 | .non,v,k | .bl _,v,k | .int _,v,k | .str _,v,k=>k
 | .tup ds,v,⟨a,vs,f,e,c⟩=>⟨a,vs,f,h.get b e λ_=>by simp,Tb.reps h b c⟩
 | .lst ds,v,⟨a,vs,f,e,c⟩=>⟨a,vs,f,h.get b e λ_=>by simp,Tb.reps h b c⟩
theorem Tb.reps (h:Tb Pt Pp H)(b:B2 Pt Pp H H'):∀{ds:List D} {vs:List V},Reps H ds vs->Reps H' ds vs
 | [],vs,k=>k
 | d::ds,vs,⟨v,r,e,c,a⟩=>⟨v,r,e,Tb.rep h b c,Tb.reps h b a⟩
end
def Tb.sg (h:Tb Pt Pp H)(b:B2 Pt Pp H H')(s:iK K C fx sm H g):iK K C fx sm H' g:=by obtain⟨r,q,o,l,fs,m,dn,j,i,f,e,d,c,a⟩:=s;exact⟨r,q,o,l,fs,m,dn,h.get b j λ_=>by simp,i,f,e,d,h.get b c λ_=>by simp,h.get b a λ_=>by simp⟩
def Q7 {j:cV}{sm:bL}{os:bA}{d:D}(h:aM j sm os d):nds d<=lvs d * (depD d+1):=by
 refine jL (P:=λd=>nds d<=lvs d * (depD d+1)) (λx _=>by unfold nds lvs;exact ac _) (λn ds d hd i a c=>?_) h;obtain⟨o,m,l,_⟩:=cG (sm:=sm) hd;have r:=i8 i;have q:=dQ a;have go:∀{es:List D},(∀e∈es,nds e<=lvs e * (depD e+1))->ndss es<=lvss es * (depDs es+1):=λ{es}=>by
  induction es with
  | nil=>intro _;exact aw _
  | cons e es c =>
   intro h;have v:=h e ax;have u:=c λx f=>h x (bc _ f);rw[ndss,lvss,depDs,Nat.add_mul];have z:=Nat.mul_le_mul_left (lvs e) (Nat.add_le_add_right (Nat.le_max_left (depD e) (depDs es)) 1);have w:=Nat.mul_le_mul_left (lvss es) (Nat.add_le_add_right (Nat.le_max_right (depD e) (depDs es)) 1)
   lia
 have g:=go c;rw[o,m,l,Nat.mul_succ]
 lia
def MK {a:Addr}{ns:List Int}{c:St}{H:Hp}{Q:VK}(f:c[0]?=some (some (.ref a)))(d:d5 K H a (ns.map V.int))(q:∀b H1 (ms:List Int),aA H H1->d5 K H1 b (ms.map V.int)->Q (.ref b) H1):tOrT K (tVar 0) (tLst (tCons (tC (V.int 7)) tNil)) c H Q :=
 ⟨_,f,_,.inl ⟨_,d,rfl⟩,aW (λ_=>q a H ns (aA.refl _) d) (λ_=>⟨szl 1,λp e=>q p _ [7] (aA.upd e) (d5.of ew)⟩)⟩
def xI (ms:List Int):cutV (ms.map V.int) none (some 3)=(ms.take 3).map V.int:=by have:=CF (ms.map V.int) 3;rw[List.map_take];exact this
def sT:∀x∈wi31,cB x:=by
 intro x d;simp only[wi31,cz,List.not_mem_nil,or_false]at d;have a:∀{l:List Nat},(l.all λc=>decide ((97<=c/\c<=122)\/(48<=c/\c<=57)))=true->∀c∈l,isWd c:=λh c e=>by
  have:=List.all_eq_true.mp h c e;have:(97<=c/\c<=122)\/(48<=c/\c<=57):=bx this;unfold isWd
  lia
 rcases d with rfl|rfl|rfl|rfl
 ·exact⟨[120],rfl,dw,dw,a dw⟩
 ·exact⟨[49],rfl,dw,dw,a dw⟩
 ·exact⟨[48,122,57],rfl,dw,dw,a dw⟩
 ·exact⟨[122,122,122,122,122,122,122,122],rfl,dw,dw,a dw⟩
def Tb.tups (h:Tb Pt Pp H)(b:B2 Pt Pp H H'):aN H H':=λa xs e=>h.get b e λ_=>by simp
def Tb.bp {Pt Pp p:Addr}(h:Tb Pt Pp H)(k:∀{c:Addr} {o:HO},H c=some o->(∀xs,o≠.lst xs)->H' c=some o):Tb Pt Pp H':=by
 refine⟨?_,?_,h.ne⟩
 ·rcases h.lt with h|⟨c',d,a,e,i,g,f⟩
  ·exact .inl (k h λ_ z=>by cases z)
  ·exact .inr ⟨c',d,a,e,k i λ_ z=>(by cases z),k g λ_ z=>(by cases z),f⟩
 ·rcases h.lp with h|⟨c',d,a,e,i,g,f⟩
  ·exact .inl (k h λ_ z=>by cases z)
  ·exact .inr ⟨c',d,a,e,k i λ_ z=>(by cases z),k g λ_ z=>(by cases z),f⟩
def Wl (sm:bL)(d e:D)(S:List S3):Prop:=∃A B X,ledS sm (prD sm d)=A++X/\ledS sm (prD sm e)=B++X/\VY A B/\S=A++B.reverse.map bkS
def C8 (h:Wl sm d e S)(k:Wl sm d e T):S=T:=by obtain⟨A,B,X,j,i,g,rfl⟩:=h;obtain⟨o,m,l,f,c,a,rfl⟩:=k;obtain⟨rfl,rfl⟩:=RJ g a (j.symm.trans f) (i.symm.trans c);rfl
structure CV (fx:cV)(sm:bL)(d:D):Prop where
 tr:zX fx sm wi31 d
 l:lvs d<=40
 dp:depD d<=11
 b:lvs d+depD d<=51/\nds d+lvs d<=600
def x6 (so:aP fx sm)(tm:aM fx sm wi31 d)(l:lvs d<=40)(dp:depD d<=11):CV fx sm d:=by have c:=Q7 tm;have a:lvs d * (depD d+1)<=40 * 12:=Nat.mul_le_mul l dz;exact⟨⟨so,sT,tm,dz,dz,dz⟩,l,dp,dz,dz⟩
def CV.as (t:CV fx sm d):CV fx sm (asD true d):=by have h:=sP (b:=true) t.tr.tm;exact x6 t.tr.so h.2.1 (by rw[h.2.2.1];exact t.l) (by rw[h.2.2.2];exact t.dp)
def CV.bd (t:CV fx sm d):Bd fx sm wi31 600 (prD sm d):=by have so:=t.tr.so;have p:=yO so sT t.tr.tm;have c:=p.nd;have a:=t.b.2;exact⟨p.tm,R9 so t.tr.tm,dz,by rw[p.lv];exact t.l,aq (U1 so t.tr.tm) (aq (RF t.tr.tm) t.dp)⟩
def Wl.led (a:CV fx sm d)(c:CV fx sm e)(f:flt sm d=flt sm e)(h:Wl sm d e S):C4 fx sm wi31 600 S (prD sm d) (prD sm e):=by obtain⟨A,B,X,i,g,_,rfl⟩:=h;have so:=a.tr.so;exact C9 so sT a.bd c.bd (by rw[(yO so sT a.tr.tm).fl,(yO so sT c.tr.tm).fl];exact f) i g
noncomputable def bar (sm:bL):bL:=sm.map λr=>(r.1,("" : Str))
def sO (sm:bL):(bar sm).map (·.1)=sm.map (·.1):=by unfold bar;rw[cs];exact List.map_congr_left λ_ _=>rfl
def OJ (so:aP fx sm):aP fx (bar sm):=by
 have c:∀r∈bar sm,r.2=("" : Str):=λr a=>by obtain⟨q,_,rfl⟩:=da.mp a;rfl
 refine⟨so.f1,so.f2,by unfold bar;rw[af];exact so.s2,by rw[sO];exact so.nm,by rw[sO];exact so.nd,so.parts,so.bare,λr a n=>absurd (c r a) n,?_⟩;have e:(((bar sm).map (·.2)).filter λ(x:Str)=>decide (x≠("" : Str)))=[]:=by rw[List.filter_eq_nil_iff];intro x d;obtain⟨r,a,rfl⟩:=da.mp d;rw[c r a];decide
 rw[e];exact List.nodup_nil
def VC {c:cV}{sm:bL}{os:bA}{d:D}(h:aM c sm os d):aM c (bar sm) os d:=by
 refine jL (P:=λd=>aM c (bar sm) os d) (λx e=>by unfold aM at e|-;exact e) (λn ds d hd a _ f=>?_) h;have a:nJ c (bar sm) n ds.length:=by unfold nJ at a|-;rw[sO];exact a
 rcases hd with rfl|rfl <;> (unfold aM;exact⟨a,lE.mpr f⟩)
def CV.bar (t:CV fx sm d):CV fx (bar sm) d:=x6 (OJ t.tr.so) (VC t.tr.tm) t.l t.dp
structure Bs (K:d6)(C Pt Pp g t dn:Addr)(fx:cV)(sm:bL)(d e:D)(v u:V)(H0 H:Hp):Prop where
 ob:B2 Pt Pp H0 H
 tb:Tb Pt Pp H
 sg:iK K C fx sm H g
 dn:H dn=some (dK31 sm)
 rd:aH H d v
 re:aH H e u
 gv:∃a1 a2 fv sv,H t=some (.tup [.ref a1,.ref a2])/\H a1=some (.lst fv)/\H a2=some (.lst sv)/\dF H fx fv/\fP H sm sv
def Bs.to {C Pt Pp g t dn:Addr}{f:cV}{sm:bL}{d e:D}{v u:V}{i H H':Hp}(h:Bs K C Pt Pp g t dn f sm d e v u i H)(c:B2 Pt Pp H H')(tb:Tb Pt Pp H'):Bs K C Pt Pp g t dn f sm d e v u i H':=by obtain⟨B,A,w,j,r,q,o,m,l⟩:=h.gv;have a:=h.tb.tups c;exact⟨h.ob.trans c,tb,h.tb.sg c h.sg,h.tb.get c h.dn λ_ z=>(by cases z),h.tb.rep c h.rd,h.tb.rep c h.re,B,A,w,j,a _ _ r,h.tb.get c q λ_ z=>(by cases z),h.tb.get c o λ_ z=>(by cases z),m.same a,l.same a⟩
def DG (S:List S3):depD (.lst (S.map stD))<=150:=by
 have:depDs (S.map stD)<=60:=hU λx a=>by obtain⟨s,_,rfl⟩:=da.mp a;exact K8 s
 rw[depD]
 lia
def WH.to (h:WH K C sm H g)(t:Tb Pt Pp H)(c:B2 Pt Pp H H'):WH K C sm H' g:=by obtain⟨o,n2,m,fs,l,a,j,i,f,e,d⟩:=h;exact⟨o,n2,m,fs,l,a,t.get c j λ_ z=>(by cases z),i,f,t.get c e λ_ z=>(by cases z),d.same (t.tups c)⟩
def SL (a b:Bool):eqD (.bl a) (.bl b)=(a == b):=by unfold eqD;cases a <;> cases b <;> rfl
def KF (h:flt sm d=flt sm e):oK sm d e=true:=by unfold oK;rw[h];exact bj rfl
def OM (c:CV fx sm d)(a:CV fx sm e)(h:flt sm d≠flt sm e):oK sm d e=false:=br λk=>h (NM (sV c.tr) (sV a.tr) k)
def jJ (b:Tb Pt Pp H)(sg:iK K C fx sm H g)(rd:aH H d v)(re:aH H e u)(h:CV fx sm d)(f:CV fx sm e)(j:flt sm d≠flt sm e->∀H',B2 Pt Pp H H'->Tb Pt Pp H'->Y .non H')
  (c:flt sm d=flt sm e->∀(l:Addr) (us:List V) (S:List S3) (H':Hp),B2 Pt Pp H H'->Tb Pt Pp H'->H l=none->H' l=some (.lst us)->Reps H' (S.map stD) us->Wl sm d e S->Y (.ref l) H'):yE K C Pp [.ref g,v,u] H Y E :=
 ⟨g,fx,sm,wi31,d,e,v,u,rfl,sg,rd,re,h.tr,f.tr,h.b,f.b,b.lp,λz H' a l=>j z H' (.p a) (b.p a l),λz l us A B X H' a m hl r q o far _ i=>c z l us _ H' (.p a) (b.p a m) hl r i ⟨A,B,X,q,o,far,rfl⟩⟩
def pW (hd:H dn=some (dK31 sm))(rd:aH H d v)(re:aH H e u)(c:CV fx sm d)(a:CV fx sm e)(i:flt sm d=flt sm e)(r:H l=some (.lst us))(h:Reps H (S.map stD) us)(g:Wl sm d e S)
  (f:∀H',aA H H'->Y (.bl true) H'):yH P w [.ref dn,v,u,.ref l] H Y E :=
 ⟨dn,l,fx,sm,wi31,d,e,v,u,S,us,rfl,hd,c.tr.so,sT,rd,re,c.tr,a.tr,c.dp,a.dp,r,h,g.led c a i,a.bd,f⟩
end
def yI (K:d6)(Pt Pp:Addr):Sp:=λvs H Q _=>∃(a:Addr) (ns:List Int),vs=[.ref a]/\d5 K H a (ns.map V.int)/\ns.length<=63/\Tb Pt Pp H/\∀H',Q (.bl true) H'
def X9 (a Pt Pp:Addr)(H:Hp)(i:Nat)(d:St)(c:Hp):Prop:=∃u r q o m l j h g f ob e:Option V,d=[some (.ref a),u,r,q,o,m,l,j,h,g,f,ob,e]/\B2 Pt Pp H c/\Tb Pt Pp c
def YV (sm:bL)(H:Hp)(i:Nat)(a:List V)(d:St)(c:Hp):Prop:=∃f e:Option V,d=[f,e]/\aA H c/\fP c (bar (sm.take i)) a
def UH (F:iE K "law" pK f fd)(T:Txt mg)(O__law_from:Ow P w K mg base 1 "_law_from" LD)(O__law_take:Ow P w K mg base 1 "_law_take" gG)(U:Ow P w K mg base 2 "_law_signs" wH)(Y:VJ P w K mg base lY 3 "Signs" C (DK K C))(M_sums:uV P w K mg base lY 1 C "sums" (DI K C))(O__law_term:Ow P w K mg base 15 "_law_term" (kL 11))
  (A:Ow P w K mg base 13 "_law_listed" (mE 11)) (W:Ow P w K mg base 66 "_law_other" FK) (E:Ow P w K mg base 14 "_law_leads" (yH P w)) (G:Ow P w K mg base 11 "walk" (yE K C Pp)) (O_alike:Ow P w K mg base 12 "alike" (spTwo K C Pt oK)):iX P w K mg base 67 f fd pK (yI K Pt Pp):=by
 refine F.okL gH λ_ _ _ s H _ _ _ L hu h=>?_;obtain⟨a,ns,rfl,hs,n63,tb,q⟩:=h;have hu2:_+160<cLine:=ak (cg (show 160<=16 * 66+200 by decide) _) (by rw[<-Nat.add_assoc];exact L.un);refine⟨_,(pss2 (iA (gF K (dM FP (TU (pv 0) (tM (bW (pa1 aB)))) cH (bU aB))) (gV 1 gH.nd) (cM (bJ 2 gH.nd (aS O__law_from L (pa1 (pv 1)))) (cM (bJ 3 gH.nd (aS U L (pa1 (pv 2)))) (cM (bJ 4 gH.nd (bR (lT rfl) rfl T.n_dict rfl (pa1 (aV (pv 3) aB)))) (cM (bJ 5 gH.nd (SC Y (L.mono dw) pass0 rfl (pa2 (aV (pv 3) aB) (aV (pv 3) aB)))) (cM (bJ 6 gH.nd (aS O__law_term L (pa4 (pv 2) (pv 3) (aX bF aB (aS O__law_take L (pa2 (pv 2) aB))) aB))) (cM (bJ 7 gH.nd (aS W L (pa3 (pv 2) (pv 4) (pv 6)))) (cM (bJ 8 gH.nd (aS G L (pa3 (pv 5) (pv 6) (pv 7)))) (cM (bC (cS (fV K (aS E L (pa4 (pv 4) (pv 6) (pv 7) (pv 8))))) (aE (aF jY)) aG) (cM (bJ 9 gH.nd (bR jZ rfl T.n_list rfl (pa1 (pv 8)))) (cM (bX (oO di PySem.F.slot_list_clear PySem.F.type_list_clear ND (pv 8))) (cM (bC (aJ (DZ hu2) (aS G L (pa3 (pv 5) (pv 6) (pv 7))) (pv 9)) (aE (aF jY)) aG) (pss8 (bC (cS (fV K (aS E L (pa4 (pv 4) (pv 7) (pv 6) (aS G L (pa3 (pv 5) (pv 7) (pv 6))))))) (aE (aF jY)) aG) (bJ 10 gH.nd (bW (pa2 (aS A L (pa1 (pv 6))) (aS A L (pa1 (pv 7)))))) (bC (cS (fV K (aS E L (pa4 (pv 4) (pv 6) (pv 7) (aS G L (pa3 (pv 5) (aV (pv 10) aB) (aV (pv 10) aB))))))) (aE (aF jY)) aG) (bC (aJ (DZ hu2) (pv 10) (bW (pa2 (aS A L (pa1 (pv 6))) (aS A L (pa1 (pv 7)))))) (aE (aF jY)) aG) (bJ 11 gH.nd (SC Y (L.mono dw) pass0 rfl (pa2 (aV (pv 3) aB) (jX (bD.of gH ["_law_name","_law_nought"] [none,none]) (gF K (aV (pv 3) aB)) (dL K rfl (i:=0) (j:=1) rfl (cT ["_law_name","_law_nought"]) rfl rfl rfl rfl) cU (bB (pa2 (pv 0) cI)))))) (bJ 12 gH.nd (aS G L (pa3 (pv 11) (pv 6) (pv 7)))) (bC (PW.pt (j6 (aJ (eA hu) (fN tP (pv 12) eZ) (aS O_alike L (pa3 (pv 11) (pv 6) (pv 7)))) (iI (aJ (DZ hu2) (aS G L (pa3 (pv 5) (pv 6) (pv 7))) (pv 9))))) (aE (aF jY)) aG) (bC (PW.pt (lH (aJ yV (pv 12) eZ) (lG (cS (fV K (aS E L (pa4 (bR (lT rfl) rfl T.n_dict rfl (pa1 (P5 M_sums (L.mono dw) pass0 (pv 11)))) (pv 6) (pv 7) (pv 12)))))))) (aE (aF jY)) aG)))))))))))))) (aF jY)),?_⟩
 ac_nf
 refine MK rfl hs λb0 Hs ms0 ss hb0=>⟨3,rfl,b0,_,rfl,hb0,λsl hsl=>⟨sl,_,rfl,.inl ew,λJ hJ=>?_⟩⟩
 rw[xI]at hJ;have s0:=ss.trans (aA.upd (o:=.lst ((ms0.take 3).map V.int)) hsl);have sl0:upd Hs sl (.lst ((ms0.take 3).map V.int)) sl=some (.lst ((ms0.take 3).map V.int)):=ew;rw[xI];generalize upd Hs sl (.lst ((ms0.take 3).map V.int))=H0 at s0 sl0 hJ|-;have tb0:=tb.same s0;generalize ms0.take 3=ms at sl0 hJ;refine gZ hJ (X9 a Pt Pp H0) ⟨none,none,none,none,none,none,none,none,none,none,none,none,rfl,.of (aA.refl _),tb0⟩ (λi σ H' _ ⟨_,_,_,_,_,_,_,_,_,_,_,_,_,b,_⟩=>by rw[tb0.get b sl0 λ_=>by simp,sl0]) ?_ ?_
 ·rintro i x σ H1 hx ⟨o1,o2,o3,o4,o5,o6,o7,o8,o9,oa,ob,oc,rfl,b1,tb1⟩;obtain⟨m,hm,rfl⟩:∃m,ms[i]?=some m/\x = .int m:=by
   rw[cf]at hx;cases e:ms[i]? with
   | none=>rw[e]at hx;cases hx
   | some y=>rw[e]at hx;cases hx;exact⟨y,rfl,rfl⟩
  refine⟨_,rfl,m,rfl,λp x y hp=>?_⟩;have s2:aA H1 (upd H1 p (.lst [.int x,.int y])):=aA.upd hp;have p2:aU (upd H1 p (.lst [.int x,.int y])) p:=⟨_,_,ew⟩
  generalize upd H1 p (.lst [.int x,.int y])=H2 at s2 p2|-;refine⟨_,rfl,p,rfl,p2,λt a1 a2 fx sm fv sv H3 b3 p3 ht ha hb rf rs so na1 nb1 sg31=>?_⟩;have s3:aA H1 H3:=λc ob e=>b3 c ob (aC e hp) (s2 _ _ e);refine⟨_,rfl,.ref a2,by rw[ixV_t ht];rfl,a2,sv,_,rfl,hb,rs.prs,λdn hdn=>?_⟩;have ndm:(sm.map (·.1)).Nodup:=(List.nodup_append.mp so.nd).2.1;rw[tT ndm];have s7:=aA.upd (o:=dK31 sm) hdn;have d7:upd H3 dn (dK31 sm) dn=some (dK31 sm):=ew;change tSeq _ _ _ _ (upd H3 dn (dK31 sm));generalize upd H3 dn (dK31 sm)=H7 at s7 d7|-;exists k1;exists k1,k1;have ht7:=s7 _ _ ht;refine⟨_,rfl,.ref a1,by rw[ixV_t ht7];rfl,_,rfl,.ref a2,by rw[ixV_t ht7];rfl,λg dx hg hdx ng=>?_⟩;have s4':aA H7 (upd (upd H7 dx (.own g)) g (.ins C dx [])):=(aA.upd hdx).trans (aA.upd (upk (Ne.symm ng) hg));have s34':=s7.trans s4';refine⟨g,dx,a1,a2,fx,sm,fv,sv,rfl,ew,s34' _ _ ha,s34' _ _ hb,rf.same (aN.of s34'),rs.same (aN.of s34'),so,λH4 b4 sg _=>⟨rfl,?_⟩⟩;have s74:aA H7 H4:=λc ob e=>b4 c ob (aC e hg) (s4' _ _ e);have s34:aA H3 H4:=s7.trans s74;have p4:aU H4 p:=by obtain⟨x',y',e⟩:=p3;exact⟨x',y',s34 _ _ e⟩
  have s14:=s3.trans s34;have told4:OO p t fx sm H4:=⟨a1,a2,fv,sv,s34 _ _ ht,s34 _ _ ha,s34 _ _ hb,rf.same (aN.of s34),rs.same (aN.of s34),na1,nb1⟩
  have dn4:=s74 _ _ d7;have tb4:=tb1.same s14;exists k1,k2;refine⟨_,rfl,_,rfl,_,rfl,p,40,rfl,p4,dw,dw,λk x5 y5 k0 k1=>.inl ⟨_,rfl,?_⟩⟩;obtain⟨room,hroom⟩:∃room:Nat,1+k=(room:Int):=⟨(1+k).toNat,dz⟩
  rw[hroom];have b5:cZ p H4 (upd H4 p (.lst [.int x5,.int y5])):=cZ.upd p H4 _;have p5:aU (upd H4 p (.lst [.int x5,.int y5])) p:=⟨_,_,ew⟩
  generalize upd H4 p (.lst [.int x5,.int y5])=H5 at b5 p5|-;refine⟨p,t,fx,sm,room,11,rfl,⟨p5,told4.but b5 p4,so,sg31⟩,dz,dz,ac _,λd v H6 b6 p6 rep tm fl lv dp=>?_⟩;exists k2,k3;have dn6:H6 dn=some (dK31 sm):=by refine(b5.trans b6) _ _ (λz=>?_) dn4;obtain⟨_,_,e⟩:=p4;rw[z,e]at dn4;cases dn4
  refine⟨_,rfl,_,rfl,_,rfl,p,dn,fx,sm,wi31,d,v,rfl,p6,dn6,so,sT,⟨rep,fl,tm,dz,dp⟩,dz,λe u H8 b8 p8 te fe le=>?_⟩;exists k3,k4;have R:=x6 so tm dz dp;have te':=x6 so te.tm le te.dp;have b48:=(b5.trans b6).trans b8;have k8:∀{c:Addr} {o:HO},H4 c=some o->(∀xs,o≠.lst xs)->H8 c=some o:=λ{c o} h n=>b48 c o (λz=>by obtain⟨_,_,e⟩:=p4;rw[z,e]at h;cases h;exact n _ rfl) h;have c18:B2 Pt Pp H1 H8:=λc o _ _ h=>b48 c o (aC h hp) (s14 _ _ h);have B:Bs K C Pt Pp g t dn fx sm d e v u H0 H8:=by obtain⟨c1,c2,c3,dx',fs,dm,dn',g1,g2,g3,g4,g5,g6,g7⟩:=sg;obtain⟨a1,a2,fv,sv,q1,q2,q3,q4,q5,q6,q7⟩:=told4;have ts:=aN.ofBut b48 p4;refine⟨b1.trans c18,tb4.bp (p:=p) k8,⟨c1,c2,c3,dx',fs,dm,dn',k8 g1 λ_ z=>(by cases z),g2,g3,g4,g5,k8 g6 λ_ z=>(by cases z),k8 g7 λ_ z=>(by cases z)⟩,k8 dn4 λ_ z=>(by cases z),?_,te.re,a1,a2,fv,sv,ts _ _ q1,b48 _ _ q6 q2,b48 _ _ q7 q3,q4.same ts,q5.same ts⟩;exact aH.tups (aN.ofBut b8 p6) fl rep
  have hf:flt sm d=flt sm e:=fe.symm;have no:∀e1:D,(!eqD e1 e1)=false:=λe=>by rw[eF];rfl
  refine⟨_,rfl,_,rfl,_,rfl,?_⟩;dsimp only[tNil,List.cons_append,List.nil_append];refine jJ B.tb B.sg B.rd B.re R te' (λz=>absurd hf z) λ_ l1 us S H9 b9 t9 hl1 r1 ru w1=>?_;have B9:=B.to b9 t9;exists k4,k5;refine⟨_,rfl,_,rfl,_,rfl,_,rfl,?_⟩;dsimp only[tNil,List.cons_append,List.nil_append];refine pW B9.dn B9.rd B9.re R te' hf r1 ru w1 λH10 s10=>⟨true,rfl,?_⟩
  exists k5,k6;refine⟨_,rfl,.ref l1,us,rfl,seqV_l (s10 _ _ r1),λl2 hl2=>k6 ?_⟩;exists k7;have n12:l1≠l2:=aC (s10 _ _ r1) hl2;obtain⟨H11,zN,s11,r2⟩:=nwH (.lst us) hl2;rw[zN];have s911:=s10.trans s11;have r11:=s911 _ _ r1;refine⟨_,rfl,tyL r11,l1,us,rfl,rfl,r11,?_⟩;have B12:Bs K C Pt Pp g t dn fx sm d e v u H0 (upd H11 l1 (.lst [])):=B.to (λc o n1 n2 h=>upk (aC h hl1) (s911 _ _ (b9 c o n1 n2 h))) ((B9.tb.same s911).bp (p:=l1) λh n=>upk (λz=>by rw[z,r11]at h;cases h;exact n _ rfl) h);have same:aH (upd H11 l1 (.lst [])) (.lst (S.map stD)) (.ref l2):=⟨l2,us,rfl,upk n12.symm r2,Reps.nl (aN.lst r11) (i5 S) (Reps.same s911 ru)⟩
  generalize upd H11 l1 (.lst [])=H12 at B12 same|-;exists k7,k8;refine⟨_,rfl,_,rfl,_,rfl,?_⟩;dsimp only[tNil,List.cons_append,List.nil_append];refine jJ B12.tb B12.sg B12.rd B12.re R te' (λz=>absurd hf z) λ_ l3 us3 S3 H13 b13 t13 _ r13 ru3 w3=>?_;rw[C8 w3 w1]at ru3;have O:=B12.to b13 t13
  replace same:=B12.tb.rep b13 same
  refine⟨_,rfl,.lst (S.map stD),.lst (S.map stD),⟨l3,us3,rfl,r13,ru3⟩,same,DG S,_,rfl,?_⟩;rw[no];exists k8,k9;refine⟨_,rfl,_,rfl,_,rfl,_,rfl,_,rfl,_,rfl,?_⟩;dsimp only[tNil,List.cons_append,List.nil_append];refine jJ O.tb O.sg O.re O.rd te' R (λz=>absurd hf.symm z) λ_ l4 us4 S4 H14 b14 t14 _ r14 ru4 w4=>?_;have B14:=O.to b14 t14
  replace same:=O.tb.rep b14 same
  refine pW B14.dn B14.re B14.rd te' R hf.symm r14 ru4 w4 λH15 s15=>⟨true,rfl,?_⟩
  have B15:=B14.to (.of s15) (B14.tb.same s15)
  replace same:=aH.same s15 same
  exists k9,k10;refine⟨_,rfl,fx,sm,wi31,d,v,rfl,B15.rd,.inl R.tr,R.dp,λdv H16 s16 rdl=>⟨_,rfl,fx,sm,wi31,e,u,rfl,aH.same s16 B15.re,.inl te'.tr,te'.dp,λev H17 s17 rel=>⟨szl 2,λl5 hl5=>?_⟩⟩⟩;have s18:aA H17 (upd H17 l5 (.lst [dv,ev])):=aA.upd hl5;have r5:upd H17 l5 (.lst [dv,ev]) l5=some (.lst [dv,ev]):=ew;exists k10,k11;generalize upd H17 l5 (.lst [dv,ev])=H18 at s18 r5|-;have s1518:=(s16.trans s17).trans s18;have B18:=B15.to (.of s1518) (B15.tb.same s1518)
  replace same:=aH.same s1518 same
  have rd18:=aH.same (s17.trans s18) rdl;have re18:=aH.same s18 rel;have ad:=sP (b:=true) R.tr.tm;have ae:=sP (b:=true) te'.tr.tm;have li:∀{H:Hp} {l:Addr} {x y:V},H l=some (.lst [x,y])->aH H (asD true d) x->aH H (asD true e) y->aH H (.lst [asD true d,asD true e]) (.ref l):=λh1 h2 h3=>⟨_,_,rfl,h1,_,_,rfl,h2,_,[],rfl,h3,rfl⟩
  have Q:=li r5 rd18 re18;refine⟨_,rfl,_,rfl,_,rfl,_,rfl,_,rfl,dv,by rw[ixV_l r5];rfl,_,rfl,ev,by rw[ixV_l r5];rfl,?_⟩;dsimp only[tNil,List.cons_append,List.nil_append];refine jJ B18.tb B18.sg rd18 re18 R.as te'.as (λz=>absurd (by rw[ad.1,ae.1];exact hf) z) λ_ l6 us6 S5 H19 b19 t19 _ r19 ru5 w5=>?_;have w5:Wl sm d e S5:=by unfold Wl at w5|-;rw[L3 true R.tr.tm,L3 true te'.tr.tm]at w5;exact w5
  have B19:=B18.to b19 t19
  replace same:=B18.tb.rep b19 same
  replace Q:=B18.tb.rep b19 Q
  refine pW B19.dn B19.rd B19.re R te' hf r19 ru5 w5 λH20 s20=>⟨true,rfl,?_⟩
  have B20:=B19.to (.of s20) (B19.tb.same s20)
  replace same:=aH.same s20 same
  replace Q:=aH.same s20 Q
  exists k11,k12;refine⟨_,rfl,_,rfl,fx,sm,wi31,d,v,rfl,B20.rd,.inl R.tr,R.dp,λdv2 H21 s21 rdl=>⟨_,rfl,fx,sm,wi31,e,u,rfl,aH.same s21 B20.re,.inl te'.tr,te'.dp,λev2 H22 s22 rel=>⟨szl 2,λl7 hl7=>?_⟩⟩⟩;change rNeW _ _ (upd H22 l7 (.lst [dv2,ev2])) _;obtain⟨H23,zN,s23,r7⟩:=nwH (.lst [dv2,ev2]) hl7;rw[zN];have Z:=(s21.trans s22).trans s23;have B23:=B20.to (.of Z) (B20.tb.same Z)
  replace same:=aH.same Z same
  refine⟨_,_,aH.same Z Q,li r7 (aH.same (s22.trans s23) rdl) (aH.same s23 rel),?_,_,rfl,?_⟩
  ·have h1:=R.dp;have h2:=te'.dp;rw[depD,depDs,depDs,depDs,ad.2.2.2,ae.2.2.2]
   lia
  rw[no];exists k12,k13;obtain⟨a1,a2,fv,sv,g1,g2,g3,g4,g5⟩:=B23.gv;refine⟨_,rfl,.ref a1,by rw[ixV_t g1];rfl,_,rfl,.ref a2,by rw[ixV_t g1];rfl,a2,sv,rfl,.inl g3,λJ2 hJ2=>?_⟩;refine cQ hJ2 (YV sm H23) ⟨none,none,rfl,aA.refl _,rfl⟩ (by rintro i acc σ H' _ ⟨_,_,_,s,_⟩;rw[s _ _ g3,g3]) ?_ ?_
  ·rintro i x acc σ H24 hx ⟨o1,o2,rfl,s24,row⟩;obtain⟨r,t',L,rfl,ht⟩:=(g5.same (aN.of s24)).get hx;refine⟨t',_,rfl,hX.of ht,rfl,_,_,rfl,_,_,rfl,rfl,?_⟩;have lr:=row.len;have hs2:=so.s2;have li:=(cx.mp L).1;have la:acc.length<=12:=by rw[lr];unfold bar;rw[af,bz];lia
   refine⟨_,rfl,szl 2,λq hq=>⟨ak la dw,?_⟩⟩;refine⟨_,_,rfl,s24.trans (aA.upd hq),?_⟩;rw[aR L,show bar (sm.take i++[r])=bar (sm.take i)++[(r.1,("" : Str))]from az];exact(row.same (aN.of (aA.upd hq))).snoc ew
  rintro acc σ H24 ⟨o1,o2,rfl,s24,row⟩ l8 hl8 gB dxB hgB hdxB ngB;rw[g5.len,bI]at row;have sL:aA (upd H24 l8 (.lst acc)) (upd (upd (upd H24 l8 (.lst acc)) dxB (.own gB)) gB (.ins C dxB [])):=(aA.upd hdxB).trans (aA.upd (upk (Ne.symm ngB) hgB));have s8:aA H23 (upd H24 l8 (.lst acc)):=s24.trans (aA.upd hl8);have sA:=s8.trans sL;refine⟨gB,dxB,a1,l8,fx,bar sm,fv,acc,rfl,ew,sA _ _ g2,sL _ _ ew,g4.same (aN.of sA),row.same (aN.of ((aA.upd hl8).trans sL)),OJ so,λH26 b26 sgB ssB=>⟨rfl,?_⟩⟩;have s26:aA H23 H26:=λc ob e=>b26 c ob (aC (s8 _ _ e) hgB) (sA _ _ e);have X:=B23.to (.of s26) (B23.tb.same s26)
  replace same:=aH.same s26 same
  exists k13,k14;refine⟨_,rfl,_,rfl,_,rfl,?_⟩;dsimp only[tNil,List.cons_append,List.nil_append];refine jJ X.tb sgB X.rd X.re R.bar te'.bar (λnb H27 b27 t27=>?_) λyb l9 us9 S9 H27 b27 t27 _ r27 ru9 w9=>?_
  ·have I:=X.to b27 t27
   replace same:=X.tb.rep b27 same
   exists k14,k15;refine⟨_,rfl,rfl,_,rfl,_,rfl,_,rfl,gB,fx,bar sm,wi31,d,e,v,u,rfl,X.tb.sg b27 sgB,I.rd,I.re,R.bar.tr,te'.bar.tr,I.tb.lt,λH28 b28 lt28=>?_⟩;have N:=I.to (.t b28) (I.tb.t b28 lt28)
   replace same:=I.tb.rep (.t b28) same
   rw[OM R.bar te'.bar nb];refine⟨.bl _,.bl false,rfl,rfl,aw _,_,rfl,?_⟩;rw[SL,show(decide ((V.non:V) = .non) == false)=false by decide];refine⟨_,rfl,_,rfl,_,rfl,?_⟩;dsimp only[tNil,List.cons_append,List.nil_append];refine jJ N.tb N.sg N.rd N.re R te' (λz=>absurd hf z) λ_ l3 us3 S3 H13 b13 t13 _ r13 ru3 w3=>?_;rw[C8 w3 w1]at ru3;have O:=N.to b13 t13;refine⟨_,rfl,.lst (S.map stD),.lst (S.map stD),⟨l3,us3,rfl,r13,ru3⟩,N.tb.rep b13 same,DG S,_,rfl,?_⟩;rw[no];refine k15 ?_;exact⟨_,rfl,rfl,_,rfl,_,_,_,_,_,_,_,_,_,_,_,_,rfl,O.ob,O.tb⟩
  ·have I:=X.to b27 t27
   replace same:=X.tb.rep b27 same
   exists k14,k15;refine⟨_,rfl,rfl,_,rfl,_,rfl,_,rfl,gB,fx,bar sm,wi31,d,e,v,u,rfl,X.tb.sg b27 sgB,I.rd,I.re,R.bar.tr,te'.bar.tr,I.tb.lt,λH28 b28 lt28=>?_⟩;have N:=I.to (.t b28) (I.tb.t b28 lt28)
   replace same:=I.tb.rep (.t b28) same
   rw[KF yb];refine⟨.bl _,.bl true,rfl,rfl,aw _,_,rfl,?_⟩;rw[SL,show(decide (V.ref l9 = .non) == true)=false from rfl];refine⟨_,rfl,_,rfl,_,rfl,?_⟩;dsimp only[tNil,List.cons_append,List.nil_append];refine jJ N.tb N.sg N.rd N.re R te' (λz=>absurd hf z) λ_ l3 us3 S3 H13 b13 t13 _ r13 ru3 w3=>?_;rw[C8 w3 w1]at ru3;have O:=N.to b13 t13;have c13:B2 Pt Pp H27 H13:=(B2.t b28).trans b13;refine⟨_,rfl,.lst (S.map stD),.lst (S.map stD),⟨l3,us3,rfl,r13,ru3⟩,N.tb.rep b13 same,DG S,_,rfl,?_⟩;rw[no];refine k15 ?_;have ss:=ssB.to X.tb (b27.trans c13);obtain⟨_,_,dx9,fs9,_,_,x1,x2,_⟩:=id ss;refine⟨_,rfl,rfl,_,rfl,_,rfl,gB,dx9,fs9,rfl,x1,x2,gB,bar sm,rfl,ss,λl sv2 H30 s30 hl30 r30 rw30=>⟨l,sv2,_,rfl,r30,rw30.prs,λdn2 hdn2=>?_⟩⟩;have ndB:((bar sm).map (·.1)).Nodup:=by rw[sO];exact ndm
   rw[tT ndB];have s31:aA H13 (upd H30 dn2 (dK31 (bar sm))):=s30.trans (aA.upd hdn2);have d31:upd H30 dn2 (dK31 (bar sm)) dn2=some (dK31 (bar sm)):=ew;change tCons _ _ _ (upd H30 dn2 (dK31 (bar sm))) _;generalize upd H30 dn2 (dK31 (bar sm))=H31 at s31 d31|-;have B31:=O.to (.of s31) (O.tb.same s31);refine⟨_,rfl,_,rfl,_,rfl,?_⟩;dsimp only[tNil,List.cons_append,List.nil_append];exact pW d31 B31.rd B31.re R.bar te'.bar yb (s31 _ _ (I.tb.get c13 r27 λ_ z=>by cases z)) (Reps.same s31 (I.tb.reps c13 ru9)) w9 λH32 s32=>⟨true,rfl,_,_,_,_,_,_,_,_,_,_,_,_,rfl,B31.ob.trans (.of s32),B31.tb.same s32⟩
 ·exact λσ H1 _=>q H1
noncomputable def bEs (p:Params)(t1 g t3 t4 t5 f e d c a:Tok):Array DictEntry:=#[⟨PyData.keyHash p "turn",.str "turn" t1,.str "turn" f⟩,⟨PyData.keyHash p "left",.str "left" g,.str "right" e⟩,⟨PyData.keyHash p "right",.str "right" t3,.str "left" d⟩,⟨PyData.keyHash p "drop",.str "drop" t4,.str "add" c⟩,⟨PyData.keyHash p "add",.str "add" t5,.str "drop" a⟩]
def RT (ns:(dD == sysModules)=false)(l:K.lookup dD=some ⟨.type "dict",none,.dict (bEs w.params t1 t2 t3 t4 t5 v1 v2 v3 v4 v5) ep,#[]⟩):WO P w K dD bkV:=by
 refine⟨ns,λh X=>⟨[(.inr "turn",.str "turn" v1),(.inr "left",.str "right" v2),(.inr "right",.str "left" v3),(.inr "drop",.str "add" v4),(.inr "add",.str "drop" v5)],?_,?_⟩⟩
 ·exact .cons ⟨rfl,⟨_,rfl⟩⟩ (.cons ⟨rfl,⟨_,rfl⟩⟩ (.cons ⟨rfl,⟨_,rfl⟩⟩ (.cons ⟨rfl,⟨_,rfl⟩⟩ (.cons ⟨rfl,⟨_,rfl⟩⟩ .nil))))
 ·have ks:∀(x:Str) (t:Tok),(cN P w).is (.inr x) (.str x t)=true:=λx t=>qU x t;refine⟨_,_,_,X _ _ l,⟨rfl,rfl,rfl⟩,rfl,?_,.cons (ks _ _) rfl (.cons (ks _ _) rfl (.cons (ks _ _) rfl (.cons (ks _ _) rfl (.cons (ks _ _) rfl .nil)))),?_⟩
  ·intro e a;have a:e∈(bEs w.params t1 t2 t3 t4 t5 v1 v2 v3 v4 v5).toList:=Array.mem_toList_iff.mpr a;simp only[bEs,cz,List.not_mem_nil,or_false]at a;rcases a with rfl|rfl|rfl|rfl|rfl <;> exact⟨_,ks _ _,rfl⟩
  ·show([.inr "turn",.inr "left",.inr "right",.inr "drop",.inr "add"]:List jF).Nodup;decide +kernel
end Lw
namespace Lw
open PySem PySem.Spec PyProof.Rows PySem.W L2
def uM {K:Frag}{h:Heap}{x:Str}{c Pt:Addr}(X:K.In h)(a:tabIn K x=some (c,Pt))(C:CodeHd h c Pt):∀h',K.In h'->CodeHd h' c Pt:=by
 have d:∃o,K.lookup c=some o:=by
  unfold tabIn at a;split at a
  ·split at a
   ·split at a
    ·split at a
     ·rename_i z _ _ _ _ _ u;split at a
      ·cases a;exact⟨_,u⟩
      ·cases a
     ·cases a
    ·cases a
   ·cases a
  ·cases a
 obtain⟨o,d⟩:=d;obtain⟨w,vs,r1,q,m,l,j,i,g,e,r⟩:=C;intro h' v;have f:=X _ _ d;rw[e]at f;cases f;exact⟨_,vs,r1,q,m,l,j,i,g,v _ _ d,r⟩
def EH {P:Program}{w:World}{K:Frag}{mg W:jD}{k:Nat}{fa a c Pt c2 Pp:Addr}{fd:FuncData}{x:Str}{sp:Sp}{f:Shared}{vs:dA}{ns:List Int}
  (KX:K.In f.heap) (N:f.heap.Ns mainGlobals mg) (g:f.heap.Ns builtinsNs W) (Y:∀x:Str,x≠"__name__"->W x=bootBuiltins x) (O:f.heap.NoLimit) (hg:f.gens = #[])
  (G:f.heap.get? a=some {cls:=.type "list",data:=.seq vs.toArray}) (hi:IntsAre vs ns) (hl:ns.length<=sizeLine) (hr:eG k callerA)
  (hT:CodeHd f.heap c Pt) (hP:f.heap.get? Pt=some (tabObj #[])) (hKP:K.lookup Pt=none) (Z:CodeHd f.heap c2 Pp) (hP2:f.heap.get? Pp=some (tabObj #[])) (hKP2:K.lookup Pp=none) (hB:Bm mg f.heap)
  (F:∀base:Heap,K.In base->base.Ns mainGlobals mg->Bm mg base->hZ P w K mg base lY k fa fd [x] sp) (E:∀(s:Shared) (u:Value),BindsTo s fd ⟨[u],[]⟩ [(x,u)])
  (X:∀H:Hp,H Pt=some (.tbl #[])->H Pp=some (.tbl #[])->d5 K H a (ns.map V.int)->sp [.ref a] H (λv _=>v = .bl true) λ_ _ _=>False) :
  codeAny (model P w) callerA (.call (.ref fa) ⟨[.ref a],[]⟩) (λr l=>r = .ok (.ret (.bool true))/\OldK f.heap l.heap/\l.os=f.os/\AllBare l.gens) f:=by
 have rv:=v9 hi;have lenV:=hi.length;have i:∀b,(b=Pt\/b=Pp)->f.heap.get? b=some (tabObj #[]):=λb h=>by rcases h with rfl|rfl <;> assumption
 have L:∀b,(b=Pt\/b=Pp)->K.lookup b=none:=λb h=>by rcases h with rfl|rfl <;> assumption
 have J:¬(a=Pt\/a=Pp):=λz=>by have:=i a z;rw[G]at this;cases this
 have C:∀H:Hp,(∀b,(b=Pt\/b=Pp)->H b=some (.tbl #[]))->(∀b,¬(b=Pt\/b=Pp)->H b≠none->b=a/\K.lookup a=none/\∃o xs,H a=some (.frz o (.lst xs)))->d5 K H a (ns.map V.int)->iC P w H f.heap ->
   codeAny (model P w) callerA (.call (.ref fa) ⟨[.ref a],[]⟩) (λr l=>r = .ok (.ret (.bool true))/\OldK f.heap l.heap/\l.os=f.os/\AllBare l.gens) f:=by
  intro H hH hA hS hok;have free:∀{b:Addr} {o:Obj},f.heap.get? b=some o->o≠tabObj #[]->(b=a->K.lookup a=none->False)->H b=none:=λ{b o} e n n2=>by
   cases q:H b with
   | none=>rfl
   | some u =>
    by_cases z:b=Pt\/b=Pp
    ·rw[i b z]at e;exact absurd (Option.some.inj e).symm n
    ·obtain⟨U,I,_⟩:=hA b z (by rw[q];simp);exact(n2 U I).elim
  have A:∀{b:Addr} {m:jD},f.heap.Ns b m->(hidT f.heap H).Ns b m:=λ{b m} ⟨o,es,ep,e,d,r⟩=>⟨o,es,ep,uH e (free e (λz=>by rw[z]at d;cases d) (λz _=>by rw[z,G]at e;cases e;cases d)),d,r⟩
  have Q:K.In (hidT f.heap H):=λb o e=>uH (KX b o e) (by
   cases q:H b with
   | none=>rfl
   | some u =>
    by_cases z:b=Pt\/b=Pp
    ·rw[L b z]at e;cases e
    ·obtain⟨U,I,_⟩:=hA b z (by rw[q];simp)
     rw[U,I]at e;cases e)
  have hM:Mod K mg (hidT f.heap H):=⟨Q,A N,⟨W,A g,Y⟩,let⟨mc,h1,h2⟩:=O;⟨mc,A h1,h2⟩⟩
  have hB':Bm mg (hidT f.heap H):=by obtain⟨bm,o,T,e2,e3,S,e5,e6,e7⟩:=hB;exact⟨bm,o,T,e2,e3,uH S (free S (λz=>by rw[z]at e5;cases e5) (λz _=>by rw[z,G]at S;cases S;cases e7)),e5,e6,e7⟩
  have e0:AK P w K mg (hidT f.heap H) callerA [] f H:=⟨rfl,hM,λb o e=>Q2 e,Nat.le_of_eq (JS _ _),trivial,λb g=>absurd (show b∈([]:List Addr)from g) dV,hok,.of_eq hg⟩
  refine codeAny_mono ((F _ Q (A N) hB').run callerA [] f H ⟨[.ref a],[]⟩ [.ref a] [.ref a] _ _ hr e0 (E f (.ref a)) (.cons rfl .nil) (X H (hH Pt (.inl rfl)) (hH Pp (.inr rfl)) hS)) λr l h=>?_;cases r with
  | error e=>exact False.elim h
  | ok fl =>
   cases fl with
   | next=>exact False.elim h
   | brk=>exact False.elim h
   | cont=>exact False.elim h
   | ret u =>
    obtain⟨v,H',os,bare,un,B,r',q⟩:=h;have q':v = .bl true:=q;subst q';obtain rfl:u=Value.bool true:=r';have keep:∀b o,¬(b=Pt\/b=Pp)->f.heap.get? b=some o->l.heap.get? b=some o:=λb o n e=>by
     cases q:H b with
     | none=>exact un.keep b o e q (by intro z;exact absurd (show b∈([]:List Addr)from z) dV) dV
     | some u =>
      obtain⟨rfl,_,ob,xs,z⟩:=hA b n (by rw[q];simp);have I:=un.frzs b ob _ z;obtain⟨T,_⟩:=hok b _ z;obtain⟨e2,_⟩:=B b _ I;rw[e]at T;cases T;exact e2
    have j:∀b,(b=Pt\/b=Pp)->∃more,l.heap.get? b=some (tabObj (#[]++more)):=λb z=>by obtain⟨more,hm⟩:=un.tbls b #[] (hH b z);exact⟨more,B b _ hm⟩
    refine⟨rfl,⟨λb o e=>?_,λb o e=>?_⟩,os,bare⟩
    ·by_cases z:b=Pt\/b=Pp
     ·obtain⟨more,gP⟩:=j b z;rw[i b z]at e;cases e;refine .inr (.inl ⟨?_,rfl,#[],more,rfl,gP⟩);rcases z with rfl|rfl
      ·exact(hT.tab hP).isCodeTable
      ·exact(Z.tab hP2).isCodeTable
     ·exact .inl (keep b o z e)
    ·by_cases z:b=Pt\/b=Pp
     ·obtain⟨more,gP⟩:=j b z;exact⟨_,gP⟩
     ·exact⟨o,keep b o z e⟩
 cases hk:K.lookup a with
 | some o =>
  have e:=KX a o hk;rw[G]at e;cases e;refine C (λb=>if b=Pt\/b=Pp then some (.tbl #[])else none) (λb z=>aj z) (λb n z=>absurd (ab n) z) (.inr ⟨_,vs.toArray,_,hk,rfl,rfl,rfl,by rw[ai,lenV];exact hl,by simpa using rv⟩) λb u z=>?_;by_cases g:b=Pt\/b=Pp
  ·have z':=(aj g).symm.trans z;cases z';exact i b g
  ·have z':=(ab g).symm.trans z;cases z'
 | none =>
  refine C (λb=>if b=Pt\/b=Pp then some (.tbl #[])else if b=a then some (.frz {cls:=.type "list",data:=.seq vs.toArray} (.lst (ns.map V.int)))else none) (λb z=>aj z) (λb n z=>?_) (.inl (.inr ⟨{cls:=.type "list",data:=.seq vs.toArray},(ab J).trans (aj rfl)⟩)) (λb u z=>?_)
  ·by_cases g:b=a
   ·exact⟨g,hk,_,_,(ab J).trans (aj rfl)⟩
   ·exact absurd ((ab n).trans (ab g)) z
  ·by_cases R:b=Pt\/b=Pp
   ·have z':=(aj R).symm.trans z;cases z';exact i b R
   ·by_cases g:b=a
    ·have z':=((ab R).trans (aj g)).symm.trans z;cases z';subst g;exact⟨G,by rw[af];exact hl,vs,_,rv,G⟩
    ·have z':=((ab R).trans (ab g)).symm.trans z;cases z'
def SX {l:PySem.W.OpenLaw}{q:Program}{loose:bA}{XP:(jD)->Heap->Prop}{YP:World->Heap->Prop}{d dp Q:DefRec}{K:Params->PySem.W.Frag}(hn:l.most=some 63)(J:d.params.defaults=[])
  (hY:∀(w:World) (h:Heap),YP w h->(K w.params).In h) (hq:(recsOf q).find? (λe=>e.name == ("put_in" : Str))=some dp) (C:(recsOf q).find? (λe=>e.name == ("paired" : Str))=some Q)
  (F:∀(w:World) (mg:jD) (B:Addr) (h:Heap),(K w.params).In h->h.Ns mainGlobals mg->mg d.name=some (.ref B) ->
   ∃(fd:FuncData) (c Pt R Pp:Addr),tabIn (K w.params) "put_in" = some (c,Pt)/\(K w.params).lookup Pt=none/\tabIn (K w.params) "paired" = some (R,Pp)/\(K w.params).lookup Pp=none/\Pt≠Pp/\(∀(s:Shared) (u:Value),BindsTo s fd ⟨[u],[]⟩ [("_law_script",u)]) /\
    ∀base:Heap,(K w.params).In base->base.Ns mainGlobals mg->Bm mg base->(∀h,(K w.params).In h->CodeHd h c Pt)->(∀h,(K w.params).In h->CodeHd h R Pp)->hZ l.prog w (K w.params) mg base lY 67 B fd ["_law_script"] (yI (K w.params) Pt Pp)) :
  PySem.W.WalkO q loose XP YP l.row.toRowW d [] (λf vs=>PySem.call f vs):=by
 refine Att.CO hn J λw s0 s1 mg mb B o pm cd doc a vs ns G Y ho hd hcd I r j i hg=>?_;have KX:=hY w _ Y;obtain⟨fd,c,Pt,R,Pp,S,N,m,v,E,hb,hF⟩:=F w mg B _ KX G.T.g I;obtain⟨U,hP⟩:=tab_of G.T KX hq S;obtain⟨A,L⟩:=tab_of G.T KX C m;have hB:Bm mg s1.heap:=by obtain⟨bm,ob,e1,e2,P,e4,e5,Z⟩:=G.T.bmain;refine⟨bm,ob,e1,e2,λz=>?_,P,e4,e5,Z⟩;obtain⟨o',es,ep,g1,X,_⟩:=G.T.g;rw[z,g1]at P;cases P;rw[Z]at X;cases X
 exact EH KX G.T.g G.T.b G.T.builtins G.T.nolimit hg r j (aq i dw) ⟨rfl,dw,dw⟩ U hP N A L v hB (λbase kb nb bb=>hF base kb nb bb (uM KX S U) (uM KX m A)) hb
  λH hH O hS=>⟨a,ns,rfl,hS,i,⟨.inl hH,.inl O,E⟩,λ_=>rfl⟩
def lenS {P:dA->Prop}(h:us.length=n+1)(k:∀a t,t.length=n->P (a::t)):P us:=by
 cases us
 ·cases h
 ·exact k _ _ (Nat.succ.inj h)
def len1 {P:dA->Prop}(h:us.length=1)(k:∀a,P [a]):P us:=lenS h λa t h=>by cases t;exact k a;cases h
def len2 {P:dA->Prop}(h:us.length=2)(k:∀a b,P [a,b]):P us:=lenS h λa _ h=>len1 (P:=λt=>P (a::t)) h (k a)
def len3 {P:dA->Prop}(h:us.length=3)(k:∀a b c,P [a,b,c]):P us:=lenS h λa _ h=>len2 (P:=λt=>P (a::t)) h (k a)
def len4 {P:dA->Prop}(h:us.length=4)(k:∀a b c d,P [a,b,c,d]):P us:=lenS h λa _ h=>len3 (P:=λt=>P (a::t)) h (k a)
def bM (K:PySem.W.Frag)(x:Str)(st:Stmt)(f:Addr):Prop:=(nsIn K mainGlobals x=some (some (.ref f))/\keepIn K (.ref f)=true)/\∃d od kV e c g cd ct a,K.lookup f=some ⟨d,od,.func (PySem.W.fnOf x x (cP st) (bZ st) (aZ st) .none kV e c g cd ct),a⟩/\codeIn K cd x=true
def bM.mk {K:PySem.W.Frag}{x:Str}{st:Stmt}{f:Addr}{g kV h e cd ct:Value}{od i:Option Addr}{d:Array (Option Value)}(a:nsIn K mainGlobals x=some (some (.ref f)))(b:keepIn K (.ref f)=true)(l:K.lookup f=some ⟨g,od,.func (PySem.W.fnOf x x (cP st) (bZ st) (aZ st) .none kV h e i cd ct),d⟩)(c:codeIn K cd x=true):bM K x st f:=⟨⟨a,b⟩,_,_,_,_,_,_,_,_,_,l,c⟩
def bM.use {K:PySem.W.Frag}{x:Str}{st:Stmt}{f:Addr}{h:Heap}{mg:jD}{ps:bA}{R:Prop}(a:bM K x st f)(X:K.In h)(G:h.Ns mainGlobals mg)(ok:∀fd,HX K x x st f fd->mg x=some (.ref f)->keepIn K (.ref f)=true->eH K fd ps []->R)(g:∀(kV d e:Value) (an:Option Addr) (cdv ct:Value) (us:dA),us.length=ps.length->bindArgs (PySem.W.fnOf x x (cP st) (bZ st) (aZ st) .none kV d e an cdv ct) ⟨us,[]⟩=pure (ps.zip us):=by intro _ _ _ _ _ _ _ hl;first|(apply len1 hl;intros;rfl)|(apply len2 hl;intros;rfl)|(apply len3 hl;intros;rfl)|(apply len4 hl;intros;rfl)):R:=by obtain⟨⟨a,k⟩,_,_,_,_,_,_,_,_,_,l,c⟩:=a;exact ok _ (lP l c k) (dg X G a) k ((lP l c k).binds g)
def bM.own {K:PySem.W.Frag}{x:Str}{st:Stmt}{f:Addr}{h base:Heap}{mg:jD}{ps:bA}{P:Program}{w:World}{CX:KJ}{k:Nat}{d:Sp}(a:bM K x st f)(X:K.In h)(G:h.Ns mainGlobals mg)(ok:∀fd,HX K x x st f fd->hZ P w K mg base CX k f fd ps d)(g:∀(kV c e:Value) (an:Option Addr) (cdv ct:Value) (us:dA),us.length=ps.length->bindArgs (PySem.W.fnOf x x (cP st) (bZ st) (aZ st) .none kV c e an cdv ct) ⟨us,[]⟩=pure (ps.zip us):=by intro _ _ _ _ _ _ _ hl;first|(apply len1 hl;intros;rfl)|(apply len2 hl;intros;rfl)|(apply len3 hl;intros;rfl)|(apply len4 hl;intros;rfl)):RZ P w K mg base CX k x d:=a.use X G (λ_ F m k b=>⟨_,_,_,ok _ F,m,k,b⟩) g
def VD {l:PySem.W.OpenLaw}{w:World}{K:PySem.W.Frag}{h:Heap}{mg:jD}{fa C cc Pt cc2 Pp f1 f2 f3 f4 f5 f6 f7 f8 f9 f10 f11 f12 f13 f14 f15 f16 f17 f18 f19 f20 f21 f22 f23 f24 f25 f26 f27 f28 f29 f30 f31 f32 f33 f34 f35 f36 f37 f38 f39 f40 f41 f42 f43 f44 f45 f46 f47 f48 f49 f50 f51 f52:Addr}(X:K.In h)(G:h.Ns mainGlobals mg)(hfa:mg "law" = some (.ref fa))
  {od7 an7 od8 an8 od9 an9 od20 an20 od30 an30 od32 an32:Option Addr} {sl7 sl8 sl9 sl20 sl30 sl32:Array (Option Value)} {oc7 kV7 dc7 pm7 ct7 cd7 oc8 kV8 dc8 pm8 ct8 cd8 oc9 kV9 dc9 pm9 ct9 cd9 oc20 kV20 dc20 pm20 ct20 oc30 kV30 dc30 pm30 ct30 cd30 oc32 kV32 dc32 pm32 ct32:Value} {tk0 tk1 tk2 tk3 tk4 tk5 tk6 tk7:Tok} {odq odr:Option Addr} {ocq ocr:Value} {vq vr:lX} {slq slr:Array (Option Value)}
  {dD:Addr} {u1 u2 u3 u4 u5 u6 u7 u8 u9 u0:Tok} {epD:Nat}
  (m0:nsIn K mainGlobals "Signs" = some (some (.ref C)))
  (a1:bM K "_law_from" iU f1)
  (a2:bM K "_law_take" iR f2)
  (a3:bM K "_law_signs" gM f3)
  (a4:bM K "_law_leaf" iS f4)
  (a5:bM K "_law_head" iT f5)
  (a6:bM K "_law_term" dG f6)
  (a7:findIn K (.ref C) "many" = some (some (.ref f7)))
  (l7:K.lookup f7=some ⟨oc7,od7,.func (PySem.W.fnOf "many" "Signs.many" (cP dE) (bZ dE) (aZ dE) .none kV7 dc7 pm7 an7 cd7 ct7),sl7⟩)
  (c7:codeIn K cd7 "Signs.many" = true)
  (k7:keepIn K (.ref f7)=true)
  (n7:isFn K (.ref f7)=true)
  (a8:findIn K (.ref C) "nought" = some (some (.ref f8)))
  (l8:K.lookup f8=some ⟨oc8,od8,.func (PySem.W.fnOf "nought" "Signs.nought" (cP cL) (bZ cL) (aZ cL) .none kV8 dc8 pm8 an8 cd8 ct8),sl8⟩)
  (c8:codeIn K cd8 "Signs.nought" = true)
  (k8:keepIn K (.ref f8)=true)
  (n8:isFn K (.ref f8)=true)
  (a9:findIn K (.ref C) "sums" = some (some (.ref f9)))
  (l9:K.lookup f9=some ⟨oc9,od9,.func (PySem.W.fnOf "sums" "Signs.sums" (cP dC) (bZ dC) (aZ dC) .none kV9 dc9 pm9 an9 cd9 ct9),sl9⟩)
  (c9:codeIn K cd9 "Signs.sums" = true)
  (k9:keepIn K (.ref f9)=true)
  (n9:isFn K (.ref f9)=true)
  (a10:bM K "is_wish" kP f10)
  (a11:bM K "is_built" jP f11)
  (a12:bM K "check_term" gL f12)
  (a13:bM K "walked" mJ f13)
  (a14:bM K "order_mark" gK f14)
  (a15:bM K "order_key" iQ f15)
  (a16:bM K "opened" mL f16)
  (a17:bM K "flat_sum" jR f17)
  (a18:bM K "flat_of_parts" eP f18)
  (a19:bM K "from_within" fS f19)
  (a20:nsIn K mainGlobals "put_in" = some (some (.ref f20)))
  (l20:K.lookup f20=some ⟨oc20,od20,.func (PySem.W.fnOf "put_in" "put_in" (cP dI) (bZ dI) (aZ dI) .none kV20 dc20 pm20 an20 (.ref cc) ct20),sl20⟩)
  (c20:codeIn K (.ref cc) "put_in" = true)
  (k20:keepIn K (.ref f20)=true)
  (t2:K.lookup cc=some ⟨ocq,odq,.fields vq,slq⟩)
  (t3:vq[11]?=some (.ref Pt))
  (t0:tabIn K "put_in" = some (cc,Pt))
  (t1:K.lookup Pt=none)
  (a21:bM K "flat" tH f21)
  (a22:bM K "flat_key" jS f22)
  (a23:bM K "alike" pL f23)
  (a24:bM K "is_name" kQ f24)
  (a25:bM K "is_whole" jO f25)
  (a26:bM K "checked_pairs" eQ f26)
  (a27:bM K "check_names" fU f27)
  (a28:bM K "check_parts" fT f28)
  (a29:bM K "check_noughts" eT f29)
  (a30:findIn K (.ref C) "__init__" = some (some (.ref f30)))
  (l30:K.lookup f30=some ⟨oc30,od30,.func (PySem.W.fnOf "__init__" "Signs.__init__" (cP bY) (bZ bY) (aZ bY) .none kV30 dc30 pm30 an30 cd30 ct30),sl30⟩)
  (c30:codeIn K cd30 "Signs.__init__" = true)
  (k30:keepIn K (.ref f30)=true)
  (n30:isFn K (.ref f30)=true)
  (a31:bM K "in_pairs" jQ f31)
  (a32:nsIn K mainGlobals "paired" = some (some (.ref f32)))
  (l32:K.lookup f32=some ⟨oc32,od32,.func (PySem.W.fnOf "paired" "paired" (cP dJ) (bZ dJ) (aZ dJ) .none kV32 dc32 pm32 an32 (.ref cc2) ct32),sl32⟩)
  (c32:codeIn K (.ref cc2) "paired" = true)
  (k32:keepIn K (.ref f32)=true)
  (t6:K.lookup cc2=some ⟨ocr,odr,.fields vr,slr⟩)
  (t7:vr[11]?=some (.ref Pp))
  (t4:tabIn K "paired" = some (cc2,Pp))
  (t5:K.lookup Pp=none)
  (t8:(Pt == Pp)=false)
  (a33:bM K "placed" mK f33)
  (a34:bM K "steps_inward" fH f34)
  (a35:bM K "steps_of_sum" fG f35)
  (a36:bM K "led_to_flat" fR f36)
  (a37:bM K "walk" tG f37)
  (a38:bM K "_law_paired" cJ f38)
  (a39:bM K "_law_listed" cK f39)
  (a40:bM K "_law_leaves" d8 f40)
  (a41:bM K "_law_depth" eM f41)
  (a42:bM K "_law_parts" eL f42)
  (a43:bM K "_law_mixed" gQ f43)
  (a44:bM K "_law_bracketed" eE f44)
  (a45:bM K "_law_shuffled" c6 f45)
  (a46:bM K "_law_other" gN f46)
  (a47:bM K "_law_is" kR f47)
  (a48:bM K "_law_changed" fK f48)
  (a49:bM K "_law_stepped" fI f49)
  (a50:bM K "_law_is_step" fJ f50)
  (a51:bM K "_law_leads" gR f51)
  (a52:bM K "law" pK f52)
  (g1:plainGet K C Str.empty=true)
  (g2:hasDictIn K C=true)
  (g3:plainOver K C=true)
  (g4:findIn K (.ref C) "__setattr__" = some (some (.builtin "object.__setattr__")))
  (h0:findIn K (.ref C) "fixed_rows" = some none)
  (h1:findIn K (.ref C) "sum_rows" = some none)
  (h2:findIn K (.ref C) "many_by_name" = some none)
  (h3:findIn K (.ref C) "nought_by_name" = some none)
  (g5:makesIn K C=true)
  (g6:keepIn K (.ref C)=true)
  (v0:nsIn K mainGlobals "WISH_SIGNS" = some (some (.str "abcdefghijklmnopqrstuvwxyz0123456789" tk0)))
  (v1:nsIn K mainGlobals "LETTERS" = some (some (.str "abcdefghijklmnopqrstuvwxyz" tk1)))
  (v2:nsIn K mainGlobals "LONGEST_WISH" = some (some (.int 9 tk2)))
  (v3:nsIn K mainGlobals "DEEPEST" = some (some (.int 1000 tk3)))
  (v4:nsIn K mainGlobals "LONGEST_NAME" = some (some (.int 6 tk4)))
  (v5:nsIn K mainGlobals "MOST_FIXED" = some (some (.int 12 tk5)))
  (v6:nsIn K mainGlobals "MOST_SUMS" = some (some (.int 3 tk6)))
  (v7:nsIn K mainGlobals "MOST_PARTS" = some (some (.int 3 tk7)))
  (y0:(dD == sysModules)=false)
  (w0:nsIn K mainGlobals "BACK" = some (some (.ref dD)))
  (w1:K.lookup dD=some ⟨.type "dict",none,.dict (bEs w.params u1 u2 u3 u4 u5 u6 u7 u8 u9 u0) epD,#[]⟩)
  (z0:nsIn K mainGlobals "len" = some none)
  (z1:nsIn K mainGlobals "range" = some none)
  (z2:nsIn K mainGlobals "int" = some none)
  (z3:nsIn K mainGlobals "abs" = some none)
  (z4:nsIn K mainGlobals "min" = some none)
  (z5:nsIn K mainGlobals "max" = some none)
  (z6:nsIn K mainGlobals "tuple" = some none)
  (z7:nsIn K mainGlobals "list" = some none)
  (z8:nsIn K mainGlobals "dict" = some none)
  (z9:nsIn K mainGlobals "set" = some none)
  (z10:nsIn K mainGlobals "isinstance" = some none)
  (z11:nsIn K mainGlobals "str" = some none)
  (z12:nsIn K mainGlobals "bool" = some none)
  (z13:nsIn K mainGlobals "sorted" = some none)
  (z14:nsIn K mainGlobals "reversed" = some none)
  (z15:nsIn K mainGlobals "all" = some none)
  (z16:nsIn K mainGlobals "any" = some none)
  (z17:nsIn K mainGlobals "zip" = some none)
  (z18:nsIn K mainGlobals "repr" = some none)
  (z19:nsIn K mainGlobals "sum" = some none)
  (z20:nsIn K mainGlobals "enumerate" = some none)
  : ∃(fd:FuncData) (c Pt c2 Pp:Addr),tabIn K "put_in" = some (c,Pt)/\K.lookup Pt=none/\tabIn K "paired" = some (c2,Pp)/\K.lookup Pp=none/\Pt≠Pp/\(∀(s:Shared) (v:Value),BindsTo s fd ⟨[v],[]⟩ [("_law_script",v)]) /\
   ∀base:Heap,K.In base->base.Ns mainGlobals mg->Bm mg base->(∀h,K.In h->CodeHd h c Pt)->(∀h,K.In h->CodeHd h c2 Pp)->hZ l.prog w K mg base lY 67 fa fd ["_law_script"] (yI K Pt Pp):=by
 obtain⟨⟨a52,k52⟩,_,_,kV52,dc52,pm52,an52,cd52,ct52,_,l52,c52⟩:=a52;have e:=hfa.symm.trans (dg X G a52);cases e;have T:Txt mg:=⟨dh X G z0,dh X G z1,dh X G z2,dh X G z3,dh X G z4,dh X G z5,dh X G z6,dh X G z7,dh X G z8,dh X G z9,dh X G z10,dh X G z11,dh X G z12,dh X G z13,dh X G z14,dh X G z15,dh X G z16,dh X G z17,dh X G z18,dh X G z19,dh X G z20,⟨_,dg X G v0,⟨_,rfl⟩⟩,⟨_,dg X G v1,⟨_,rfl⟩⟩,⟨_,dg X G v2,⟨_,rfl⟩⟩,⟨_,dg X G v3,⟨_,rfl⟩⟩,⟨_,dg X G v4,⟨_,rfl⟩⟩,⟨_,dg X G v5,⟨_,rfl⟩⟩,⟨_,dg X G v6,⟨_,rfl⟩⟩,⟨_,dg X G v7,⟨_,rfl⟩⟩⟩
 have hns:=y0;have hG:∃u,mg "BACK" = some u/\aQ (.ref dD) u:=⟨_,dg X G w0,rfl⟩
 have hKD:=RT (P:=l.prog) (w:=w) hns w1;have cl:FC K C:=⟨g1,g2,g3,g4⟩
 have co:SU K C:=⟨cl,h0,h1,h2,h3⟩
 have F7:=lP (st:=dE) l7 c7 k7;have b7:=F7.binds (ps:=(prmS dE)) λ_ _ _ _ _ _ us hl=>by apply len2 hl;intros;rfl
 have F8:=lP (st:=cL) l8 c8 k8;have b8:=F8.binds (ps:=(prmS cL)) λ_ _ _ _ _ _ us hl=>by apply len2 hl;intros;rfl
 have F9:=lP (st:=dC) l9 c9 k9;have b9:=F9.binds (ps:=(prmS dC)) λ_ _ _ _ _ _ us hl=>by apply len1 hl;intros;rfl
 have F20:=lP (st:=dI) l20 c20 k20;have b20:=F20.binds (ps:=(prmS dI)) λ_ _ _ _ _ _ us hl=>by apply len3 hl;intros;rfl
 have F30:=lP (st:=bY) l30 c30 k30;have b30:=F30.binds (ps:=(prmS bY)) λ_ _ _ _ _ _ us hl=>by apply len3 hl;intros;rfl
 have F32:=lP (st:=dJ) l32 c32 k32;have b32:=F32.binds (ps:=(prmS dJ)) λ_ _ _ _ _ _ us hl=>by apply len2 hl;intros;rfl
 have F52:=lP (st:=pK) l52 c52 k52;refine⟨PySem.W.fnOf "law" "law" (cP pK) (bZ pK) (aZ pK) .none kV52 dc52 pm52 an52 cd52 ct52,cc,Pt,cc2,Pp,t0,t1,t4,t5,(λz=>by rw[z]at t8;simp at t8),λs v=>.of_eq rfl,λbase _ _ hB hC hC2=>?_⟩;have O__law_from:=a1.own (base:=base) (P:=l.prog) (w:=w) X G (λ_ F=>Q0 F T);have a:=a2.own (base:=base) (P:=l.prog) (w:=w) X G (λ_ F=>QQ F T);have O__law_signs:=a3.own X G (λ_ F=>MX F T a);have O__law_leaf:=a4.own X G (λ_ F=>QX F T a);have O__law_head:=a5.own X G (λ_ F=>QZ F T a);have O__law_term:=a6.use X G (λ_ F m k b=>MH F T a O__law_leaf O__law_head m k b 11);have O_Signs_many:uV l.prog w K mg base lY 1 C "many" (DJ K C):=⟨f7,_,_,QW F7 T,⟨a7,n7,k7⟩,b7,cl⟩
 have d:uV l.prog w K mg base lY 1 C "nought" (kM K C):=⟨f8,_,_,JE F8 T,⟨a8,n8,k8⟩,b8,cl⟩
 have O_Signs_sums:uV l.prog w K mg base lY 1 C "sums" (DI K C):=⟨f9,_,_,QR F9 T,⟨a9,n9,k9⟩,b9,cl⟩
 have O_is_wish:=a10.own (base:=base) (P:=l.prog) (w:=w) X G (λ_ F=>QN F T);have O_is_built:=a11.own X G (λ_ F=>M8 F T O_is_wish O_Signs_many d);have i:=a12.own X G (λ_ F=>M7 F T O_is_built);have q:=a13.own (base:=base) (P:=l.prog) (w:=w) X G (λ_ F=>JB F T);have O_order_mark:=a14.own (base:=base) (P:=l.prog) (w:=w) X G (λ_ F=>QV F T);have g:=a15.own X G (λ_ F=>UI F T O_order_mark q);have O_opened:=a16.own (base:=base) (P:=l.prog) (w:=w) X G (λ_ F=>D2 F T);have O_flat_sum:=a17.own X G (λ_ F=>D6 F T O_opened g);have f:=a18.own X G (λ_ F=>D3 F T d O_flat_sum);have Q:=a19.own X G (λ_ F=>(SF NI) F T q f);have O_put_in:RZ l.prog w K mg base lY 9 "put_in" (yG K C Pt):=⟨f20,_,_,MY l20 c20 hC hB Q,dg X G a20,k20,b20⟩
 have O_flat:=a21.own X G (λ_ F=>M6 F T i O_put_in);have O_flat_key:=a22.own X G (λ_ F=>Q1 F T O_flat g);have O_alike:=a23.own X G (λ_ F=>M9 F T O_flat_key);have O_is_name:=a24.own (base:=base) (P:=l.prog) (w:=w) X G (λ_ F=>QU F T);have O_is_whole:=a25.own (base:=base) (P:=l.prog) (w:=w) X G (λ_ F=>MW F T);have r:=a26.own (base:=base) (P:=l.prog) (w:=w) X G (λ_ F=>M0 F T);have S:=a27.own X G (λ_ F=>JF F T O_is_name);have R:=a28.own X G (λ_ F=>MZ F T O_is_whole);have A:=a29.own (base:=base) (P:=l.prog) (w:=w) X G (λ_ F=>BK F T);have o:VJ l.prog w K mg base lY 3 "Signs" C (DK K C):=⟨f30,_,_,QY F30 T co r S R A,dg X G m0,⟨g5,a30,n30,g6⟩,b30⟩
 have O_in_pairs:=a31.own X G (λ_ F=>D5 F T d);have I:=a19.own X G (λ_ F=>(SF NJ) F T q O_in_pairs);have O_paired:RZ l.prog w K mg base lY 9 "paired" (sZ K C Pp):=⟨f32,_,_,JD l32 c32 hC2 hB i I,dg X G a32,k32,b32⟩
 have O_placed:=a33.own (base:=base) (P:=l.prog) (w:=w) X G (λ_ F=>JC F T);have H:=a34.own X G (λ_ F=>UJ F T g);have E:=a35.own X G (λ_ F=>QS F T O_opened H);have O:=a36.own X G (λ_ F=>UF F T d O_paired O_placed f E);have O_walk:=a37.own X G (λ_ F=>QO F T hG hKD O);have U:=a38.use X G (λ_ F m k b=>I8 (base:=base) (P:=l.prog) (w:=w) F T m k b 11);have Y:=a39.use X G (λ_ F m k b=>DW (base:=base) (P:=l.prog) (w:=w) F T m k b 11);have Z:=a40.use X G (λ_ F m k b=>QC (base:=base) (P:=l.prog) (w:=w) F T m k b 11);have O__law_depth:=a41.use X G (λ_ F m k b=>QD (base:=base) (P:=l.prog) (w:=w) F T m k b 51);have O__law_parts:=a42.use X G (λ_ F m k b=>QB (base:=base) (P:=l.prog) (w:=w) F T m k b 51);have O__law_mixed:=a43.own X G (λ_ F=>UC F T a);have j:=a44.own X G (λ_ F=>UL F T a);have B:=a45.use X G (λ_ F m k b=>MI F T a O__law_parts O__law_mixed j m k b 11);have O__law_other:=a46.own X G (λ_ F=>M3 F T Z B O__law_depth);have O__law_is:=a47.own (base:=base) (P:=l.prog) (w:=w) X G (λ_ F=>UE F T);have N:=a48.own X G (λ_ F=>UG F T O__law_is);have J:=a49.own X G (λ_ F=>D0 F T N);have L:=a50.own (base:=base) (P:=l.prog) (w:=w) X G (λ_ F=>D4 F T);have O__law_leads:=a51.own X G (λ_ F=>M5 F T U L J);exact UH F52 T O__law_from a O__law_signs o O_Signs_sums O__law_term Y O__law_other O__law_leads O_walk O_alike
end Lw
open PySem PySem.W PyProof.Rows
set_option maxRecDepth 100000 in
set_option maxHeartbeats 0 in
theorem PySem.Challenge.cw_likefill_k34_whole_walks_holds : PySem.Challenge.rw_likefill_k34_whole_walks.Holds := by
 obtain⟨d,hdf,hn,k⟩:=Lw.red;refine k ?_
 k_fill
 refine Lw.SX (l:=PySem.Challenge.rw_likefill_k34_whole_walks) rfl hdf (λw h Y=>Y) rfl rfl ?F
 case F =>
  intro w mg fa h KX G hmg;rw[hn]at hmg
  refine' Lw.VD KX G hmg _ _ _ _ _ _ _ _ _ _ _ _ _ _ _ _ _ _ _ _ _ _ _ _ _ _ _ _ _ _ _ _ _ _ _ _ _ ?t3 ?t0 ?t1 _ _ _ _ _ _ _ _ _ _ _ _ _ _ _ _ _ _ _ _ ?t7 ?t4 ?t5 ?t8 _ _ _ _ _ _ _ _ _ _ _ _ _ _ _ _ _ _ _ _ _ _ _ _ _ _ _ _ _ _ _ _ _ _ _ _ _ _ ?y0 ..
  all_goals try first|(refine' Lw.bM.mk ?_ ?_ ?_ ?_ <;> try k_is)|k_is
  (case t3=>rfl);(case t7=>rfl);(case t4=>kernel_rfl);(case t5=>kernel_rfl);(case t8=>kernel_rfl);(case t0=>kernel_rfl);(case t1=>kernel_rfl);all_goals kernel_rfl
end
