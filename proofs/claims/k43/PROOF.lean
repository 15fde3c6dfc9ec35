import PyProof.Rows.All
import Wide.All
import OpenK.AllK
import Wide.FinOn
import Lean
import PyProof.EqAt
import PyProof.EqKinds
import PyProof.TupleCall
import PyProof.NeKinds
import KE.LcSums
import PyProof.ZipIter
import PyProof.Rows.SumAny
import PyProof.ExcClass3
import PyProof.ExcBaseAll.ValueError
import OpenK.KOwn
import PyProof.EnumFor
import PyProof.EnumMake
import PyProof.TupleIter
import PyProof.AutoSeq1
import KE.KRevIter
import PyProof.DictItemsLoops
import KE.KPairComp
import KE.KIsAll
import PyProof.ExcArgsOwn
import PyProof.NsDelKeeps
import KE.KDictOf
import PyProof.AttrMissHeap
import PyProof.TupleOfSeq
import PyProof.CollectIter
import PyProof.TupleOfStr
import PyProof.SliceStr2
import PyProof.StrWalks
import KE.KSortTup
import PyProof.Rows.SortRuns
import PyProof.Rows.MinMaxN
import KE.KLam
import PySem.Challenge.RW_likefill_k43_whole_all_least_rows
set_option Elab.async false
set_option linter.all false
set_option maxRecDepth 100000
set_option maxHeartbeats 4000000
noncomputable abbrev bK:=List (PySem.Addr×PySem.Obj)
noncomputable abbrev bA:=PySem.Value->PySem.Shared->Prop
noncomputable abbrev bJ:=List PySem.Value
noncomputable abbrev bE:=List PySem.Str
noncomputable abbrev eV:=PySem.Str->Option PySem.Value
noncomputable abbrev g9:=List PySem.Expr
noncomputable abbrev d8:=Array PySem.Value
noncomputable abbrev w4:=Nat->PySem.Heap->Prop
theorem aI {a b:Prop}(x:a)(y:b):a/\b:=⟨x,y⟩
namespace L2
open PySem
noncomputable def aS (s:Stmt):Arguments:=match s with
 | .FunctionDef _ a _ _ _ _ _ _ _ _=>a
 | _=>{ posonlyargs:=[],args:=[],vararg:=none,kwonlyargs:=[],kw_defaults:=[],kwarg:=none,defaults:=[] }
noncomputable def aR (s:Stmt):List Stmt:=match s with
 | .FunctionDef _ _ b _ _ _ _ _ _ _=>b
 | _=>[]
noncomputable def aB (s:Stmt):Scope:=match s with
 | .FunctionDef _ _ _ _ _ _ sc _ _ _=>sc
 | _=>{ kind:=.function,names:=[],isGenerator:=false,isCoroutine:=false }
end L2
namespace Lw
open PySem L2
noncomputable def top (i:Nat):Stmt:=PySem.Challenge.pw_likefill_k43_whole_all_least_rows.main.body.getD i (.Pass ⟨0,0,0,0⟩)
noncomputable abbrev cP:Stmt:=top 4
noncomputable abbrev bS:Stmt:=top 8
noncomputable abbrev bC:Stmt:=top 9
noncomputable abbrev dH:Stmt:=top 10
noncomputable abbrev dG:Stmt:=top 11
noncomputable abbrev cI:Stmt:=top 12
noncomputable abbrev bD:Stmt:=top 13
noncomputable abbrev aX:Stmt:=top 14
noncomputable abbrev iB:Stmt:=top 15
noncomputable abbrev cN:Stmt:=top 16
noncomputable abbrev c0:Stmt:=top 18
noncomputable abbrev cQ:Stmt:=top 19
noncomputable abbrev cJ:Stmt:=top 20
noncomputable abbrev aY:Stmt:=top 21
noncomputable abbrev bT:Stmt:=top 22
noncomputable abbrev bM:Stmt:=top 23
noncomputable abbrev aN:Stmt:=top 24
noncomputable abbrev fN:Stmt:=top 25
end Lw
namespace Lw
open PySem PySem.W L2
noncomputable def eO (P:Params)(x:Str)(t:Tok)(v:Value):DictEntry:=⟨PyData.keyHash P x,.str x t,v⟩
noncomputable def eR (P:Params)(x:Str)(t:Tok)(a:Addr):DictEntry:=eO P x t (.ref a)
noncomputable def dO (es:List DictEntry)(n:Nat):Obj:=⟨.type "dict",none,.dict es.toArray n,#[]⟩
noncomputable def fO (x q:Str)(st:Stmt)(m:Str)(t:Tok)(c:Addr):Obj:=⟨.type "function",none,.func (fnOf x q (aS st) (aR st) (aB st) .none .none .none (.str m t) none (.ref c) .none),#[]⟩
noncomputable def cO (x q:Str)(t1 t2 t3:Tok)(l n f:Int)(r1:Addr)(b:Bool)(i6:Int)(r2:Addr)(u v w:Value)(r3:Addr)(i7:Int)(t4:Tok):Obj :=
 ⟨.type "code",none,.fields #[.str x t1,.str q t2,.str "/claim/cut.py" t3,.int l 0,.int n 0,.int 0 0,.int 0 0,.int f 0,.ref r1,.bool b,.int i6 0,.ref r2,u,v,w,.ref r3,.int i7 0,.int l 0,.str "/claim/cut.py" t4],#[]⟩
noncomputable def K0 (P:Params):PySem.W.Frag :=
 (nat_lit 3,dO [eO P "__name__" 165 (.str "law_likefill_k43_whole_all_least_rows" 298),eO P "__doc__" 166 .none,eO P "__package__" 167 .none,eO P "__loader__" 168 (.builtin "__main__.__loader__#opaque"),eO P "__spec__" 169 .none,eR P "__annotations__" 170 6,eR P "__builtins__" 171 4,eO P "__file__" 173 (.str "/claim/cut.py" 172),eO P "__cached__" 174 .none,eR P "LikeError" 206 24,eR P "NoCounts" 222 37,eR P "is_whole" 231 46,eO P "MOST_COUNTS" 235 (.int 4 234),eO P "GREATEST_COUNT" 237 (.int 4 236),eR P "is_counts" 243 51,eR P "check_equation" 251 58,eR P "signed" 257 63,eR P "weight" 263 68,eR P "is_under" 269 73,eR P "least_rows" 275 78,eR P "grown_rows" 281 83,eR P "unit" 289 90,eR P "one_more" 297 97,eR P "_law_at" 307 104,eR P "_law_pot" 314 111,eR P "_law_take" 323 118,eR P "_law_equation" 329 123,eR P "_law_rows" 335 128,eR P "_law_under" 341 133,eR P "_law_least" 347 138,eR P "law" 353 143] 31) ::
 (nat_lit 6,dO [] 0) ::
 (nat_lit 23,dO [eO P "__module__" 196 (.str "likefill.errors" 187),eO P "__firstlineno__" 200 (.int 2 199),eR P "__static_attributes__" 201 22,eR P "__weakref__" 203 25,eO P "__doc__" 204 .none] 3) ::
 (nat_lit 24,⟨.type "type",none,.cls ⟨"LikeError",[(.type "ValueError")],[(.ref 24),(.type "ValueError"),(.type "Exception"),(.type "BaseException"),(.type "object")],23,"LikeError",true,[],[(.ref 37)],false,none,false⟩,#[some (.ref 15),none,some (.str "LikeError" 189),some (.str "LikeError" 197),some (.builtin "ValueError.__new__"),some (.bool true)]⟩) ::
 (nat_lit 36,dO [eO P "__module__" 214 (.str "likefill.errors" 187),eO P "__firstlineno__" 218 (.int 4 217),eR P "__static_attributes__" 219 35,eO P "__doc__" 220 .none] 2) ::
 (nat_lit 37,⟨.type "type",none,.cls ⟨"NoCounts",[(.ref 24)],[(.ref 37),(.ref 24),(.type "ValueError"),(.type "Exception"),(.type "BaseException"),(.type "object")],36,"NoCounts",true,[],[],false,none,false⟩,#[some (.ref 28),none,some (.str "NoCounts" 207),some (.str "NoCounts" 215),some (.builtin "ValueError.__new__"),some (.bool true)]⟩) ::
 (nat_lit 45,cO "is_whole" "is_whole" 225 226 227 7 1 3 40 true 181 41 .none (.ref 42) (.ref 43) 44 229 230) ::
 (nat_lit 46,fO "is_whole" "is_whole" cP "likefill.signs" 223 45) ::
 (nat_lit 50,cO "is_counts" "is_counts" 238 239 240 12 2 3 47 true 181 48 .none .none .none 49 241 242) ::
 (nat_lit 51,fO "is_counts" "is_counts" bS "likefill.rows" 232 50) ::
 (nat_lit 57,cO "check_equation" "check_equation" 244 245 246 16 2 3 52 true 181 53 .none (.ref 54) (.ref 55) 56 249 250) ::
 (nat_lit 58,fO "check_equation" "check_equation" bC "likefill.rows" 232 57) ::
 (nat_lit 62,cO "signed" "signed" 252 253 254 19 2 3 59 true 181 60 .none .none .none 61 255 256) ::
 (nat_lit 63,fO "signed" "signed" dH "likefill.rows" 232 62) ::
 (nat_lit 67,cO "weight" "weight" 258 259 260 21 2 3 64 true 181 65 .none .none .none 66 261 262) ::
 (nat_lit 68,fO "weight" "weight" dG "likefill.rows" 232 67) ::
 (nat_lit 72,cO "is_under" "is_under" 264 265 266 23 2 3 69 true 181 70 .none .none .none 71 267 268) ::
 (nat_lit 73,fO "is_under" "is_under" cI "likefill.rows" 232 72) ::
 (nat_lit 77,cO "least_rows" "least_rows" 270 271 272 25 2 3 74 true 181 75 .none .none .none 76 273 274) ::
 (nat_lit 78,fO "least_rows" "least_rows" bD "likefill.rows" 232 77) ::
 (nat_lit 82,cO "grown_rows" "grown_rows" 276 277 278 29 2 3 79 true 181 80 .none .none .none 81 279 280) ::
 (nat_lit 83,fO "grown_rows" "grown_rows" aX "likefill.rows" 232 82) ::
 (nat_lit 89,cO "unit" "unit" 282 283 284 41 2 3 84 true 181 85 .none (.ref 86) (.ref 87) 88 287 288) ::
 (nat_lit 90,fO "unit" "unit" iB "likefill.rows" 232 89) ::
 (nat_lit 96,cO "one_more" "one_more" 290 291 292 43 2 3 91 true 181 92 .none (.ref 93) (.ref 94) 95 295 296) ::
 (nat_lit 97,fO "one_more" "one_more" cN "likefill.rows" 232 96) ::
 (nat_lit 103,cO "_law_at" "_law_at" 300 301 302 46 2 3 98 true 181 99 .none (.ref 100) (.ref 101) 102 305 306) ::
 (nat_lit 104,fO "_law_at" "_law_at" c0 "law_likefill_k43_whole_all_least_rows" 298 103) ::
 (nat_lit 110,cO "_law_pot" "_law_pot" 308 309 310 50 1 3 105 true 181 106 .none (.ref 107) (.ref 108) 109 312 313) ::
 (nat_lit 111,fO "_law_pot" "_law_pot" cQ "law_likefill_k43_whole_all_least_rows" 298 110) ::
 (nat_lit 117,cO "_law_take" "_law_take" 315 316 317 52 2 3 112 true 181 113 .none (.ref 114) (.ref 115) 116 321 322) ::
 (nat_lit 118,fO "_law_take" "_law_take" cJ "law_likefill_k43_whole_all_least_rows" 298 117) ::
 (nat_lit 122,cO "_law_equation" "_law_equation" 324 325 326 59 1 3 119 true 181 120 .none .none .none 121 327 328) ::
 (nat_lit 123,fO "_law_equation" "_law_equation" aY "law_likefill_k43_whole_all_least_rows" 298 122) ::
 (nat_lit 127,cO "_law_rows" "_law_rows" 330 331 332 67 2 3 124 true 181 125 .none .none .none 126 333 334) ::
 (nat_lit 128,fO "_law_rows" "_law_rows" bT "law_likefill_k43_whole_all_least_rows" 298 127) ::
 (nat_lit 132,cO "_law_under" "_law_under" 336 337 338 75 2 3 129 true 181 130 .none .none .none 131 339 340) ::
 (nat_lit 133,fO "_law_under" "_law_under" bM "law_likefill_k43_whole_all_least_rows" 298 132) ::
 (nat_lit 137,cO "_law_least" "_law_least" 342 343 344 77 1 3 134 true 181 135 .none .none .none 136 345 346) ::
 (nat_lit 138,fO "_law_least" "_law_least" aN "law_likefill_k43_whole_all_least_rows" 298 137) ::
 (nat_lit 142,cO "law" "law" 348 349 350 83 1 3 139 true 181 140 .none .none .none 141 351 352) ::
 (nat_lit 143,fO "law" "law" fN "law_likefill_k43_whole_all_least_rows" 298 142) :: []
noncomputable def as0:List Addr:=[3,6,23,24,36,37,45,46,50,51,57,58,62,63,67,68,72,73,77,78,82,83,89,90,96,97,103,104,110,111,117,118,122,123,127,128,132,133,137,138,142,143]
noncomputable def without (ks:List Nat):Nat->List Stmt->List Stmt
 | _,[]=>[]
 | i,s :: r=>if i ∈ ks then without ks (i + 1) r else s :: without ks (i + 1) r
noncomputable def q0:Program:={ PySem.Challenge.pw_likefill_k43_whole_all_least_rows with main:={ PySem.Challenge.pw_likefill_k43_whole_all_least_rows.main with body:=without [0,3,5,17] 0 PySem.Challenge.pw_likefill_k43_whole_all_least_rows.main.body } }
noncomputable def EY:Shared->Bool:=fun s=>xlAt q0 [] s && recOk (RowW.records PySem.Challenge.rw_likefill_k43_whole_all_least_rows.row.toRowW) s
theorem AY {p q:Program}{Xt:Shared->Bool}{α:Type}{Yf:Shared->α}{Ya:World->α}{N:Nat}
  (e:opening p=plainProg p.main.scope.names) (n:Nat.ble 600 N=true) (fm:∀ s,fenceModules? p s=some s)
  (h:∀ w os,(topFrom treeTable p w N ⟨boot_heap w.params,⟨[]⟩,boot_drawn,boot_toks,os⟩).map (fun s=>(openSeen q [] (importedModules p.main.body) Xt true s,Yf s))=some (openGood q [],Ya w)):LeftO p q [] Xt Yf Ya N:=fun w=>by
 obtain ⟨s,e1,e2⟩:=Option.map_eq_some_iff.mp (boot_open e n fm w)
 obtain ⟨h1,h2,h3,h4,os⟩:=s
 cases e2
 unfold openEnds
 rw [e1]
 exact h w os
theorem left0:LeftO PySem.Challenge.rw_likefill_k43_whole_all_least_rows.row.prog q0 [] EY (fun s=>as0.map s.heap.get?) (fun w=>(K0 w.params).map fun p=>some p.2) 2022 :=
 AY (by kernel_rfl) (by kernel_rfl) (fun s=>by kernel_rfl) (fun w os=>by unfold topFrom;rw [PySem.W.Fast.te14082659384304107361,PySem.W.Fast.te4187177175401517315,PySem.W.Fast.te14364793385576792824];kernel_rfl)
theorem keys0:∀ P,as0=(K0 P).map (·.1):=fun P=>by kernel_rfl
end Lw
namespace L2
open PySem PySem.Spec PyProof.Rows
noncomputable abbrev cF:=Sum Int Str
noncomputable def keyIs:cF->Value->Bool
 | .inl k,v=>Value.isInt k v
 | .inr x,v=>Value.isStrOf x v
noncomputable def keyH (w:World):cF->Int
 | .inl k=>hashInt k
 | .inr x=>hashStr w x
theorem bN:∀ {k:cF} {v:Value},keyIs k v=true->(∃ i t,k=Sum.inl i/\v=Value.int i t)∨(∃ x t,k=Sum.inr x/\v=Value.str x t)
 | .inl i,v,h=>by
  obtain ⟨t,e⟩:=Value.isInt_shape (k:=i) (v:=v) h
  exact .inl ⟨i,t,rfl,e⟩
 | .inr x,v,h=>by
  obtain ⟨t,e⟩:=Value.isStrOf_shape (x:=x) (v:=v) h
  exact .inr ⟨x,t,rfl,e⟩
theorem wD (i:Int)(t:Tok):keyIs (.inl i) (.int i t)=true:=by simp [keyIs,Value.isInt]
theorem wC (x:Str)(t:Tok):keyIs (.inr x) (.str x t)=true:=by simp [keyIs,Value.isStrOf]
theorem C7 (a b:Int):decide ((Sum.inl a:cF)=Sum.inl b)=(a == b):=by
 by_cases e:a=b
 ·subst e;simp
 ·have h:¬ (Sum.inl a:cF)=Sum.inl b:=fun q=>e (Sum.inl.inj q)
  rw [decide_eq_false h]
  exact (beq_eq_false_iff_ne.mpr e).symm
theorem C3 (a b:Str):decide ((Sum.inr a:cF)=Sum.inr b)=decide (a=b):=by
 by_cases e:a=b
 ·subst e;simp
 ·have h:¬ (Sum.inr a:cF)=Sum.inr b:=fun q=>e (Sum.inr.inj q)
  rw [decide_eq_false h,decide_eq_false e]
theorem C6 (a:Int)(b:Str):decide ((Sum.inl a:cF)=Sum.inr b)=false:=decide_eq_false (fun q=>nomatch q)
theorem C4 (a:Str)(b:Int):decide ((Sum.inr a:cF)=Sum.inl b)=false:=decide_eq_false (fun q=>nomatch q)
noncomputable def bG (prog:Program)(w:World):PySem.KeyKind prog w cF where
 is:=keyIs
 hash:=keyH w
 inj:=fun v a b ha hb=>by
  rcases bN ha with ⟨i,t,rfl,rfl⟩ | ⟨x,t,rfl,rfl⟩
  ·rcases bN hb with ⟨j,u,rfl,e⟩ | ⟨y,u,rfl,e⟩
   ·injection e with e1 _;rw [e1]
   ·exact nomatch e
  ·rcases bN hb with ⟨j,u,rfl,e⟩ | ⟨y,u,rfl,e⟩
   ·exact nomatch e
   ·injection e with e1 _;rw [e1]
 byValue:=fun k v h=>by
  rcases bN h with ⟨i,t,rfl,rfl⟩ | ⟨x,t,rfl,rfl⟩ <;> rfl
 pyHash:=fun hv h=>by
  rcases bN hv with ⟨i,t,rfl,rfl⟩ | ⟨x,t,rfl,rfl⟩
  ·exact wpAny_pyHash_int h
  ·exact wpAny_pyHash_str h
 eqBool:=fun hu hv h=>by
  rcases bN hu with ⟨i,t,rfl,rfl⟩ | ⟨x,t,rfl,rfl⟩
  ·rcases bN hv with ⟨j,u,rfl,rfl⟩ | ⟨y,u,rfl,rfl⟩
   ·rw [C7] at h;exact wpAny_eqBool_int h
   ·rw [C6] at h;exact SeqAt.EqAt.int_str i t y u _ _ _ _ h
  ·rcases bN hv with ⟨j,u,rfl,rfl⟩ | ⟨y,u,rfl,rfl⟩
   ·rw [C4] at h;exact SeqAt.EqAt.str_int x t j u _ _ _ _ h
   ·rw [C3] at h;exact wpAny_eqBool_str h
 «strs»:=fun k x t v h=>by
  rcases bN h with ⟨i,u,rfl,e⟩ | ⟨y,u,rfl,e⟩
  ·exact nomatch e
  ·injection e with e1 _
   subst e1
   cases v <;> rfl
theorem q9 (prog:Program)(w:World)(i:Int)(t:Tok):(bG prog w).is (.inl i) (.int i t)=true:=wD i t
theorem q8 (prog:Program)(w:World)(x:Str)(t:Tok):(bG prog w).is (.inr x) (.str x t)=true:=wC x t
inductive V where
 | non | bl (b:Bool) | int (i:Int) | str (x:Str) | byt (b:Array UInt8) | flt (b:UInt64) | ref (a:Addr) | ty (n:String)
 deriving DecidableEq
noncomputable def aL:V->Value->Prop
 | .non,u=>u=Value.none
 | .bl b,u=>u=Value.bool b
 | .int i,u=>∃ t,u=Value.int i t
 | .str x,u=>∃ t,u=Value.str x t
 | .byt b,u=>∃ t,u=Value.bytes b t
 | .flt b,u=>∃ t,u=Value.float b t
 | .ref a,u=>u=Value.ref a
 | .ty n,u=>u=Value.type n
noncomputable abbrev aK:List V->bJ->Prop:=Paired aL
theorem aK.length {xs:List V}{us:bJ}(r:aK xs us):xs.length=us.length:=Paired.length r
theorem aK.get:∀ {xs:List V} {us:bJ} {i:Nat} {x:V},aK xs us->xs[i]?=some x->∃ u,us[i]?=some u/\aL x u
 | _,_,_,_,.nil,e=>by simp at e
 | _,_,0,_,.cons r _,e=>by simp at e;subst e;exact ⟨_,rfl,r⟩
 | _,_,i + 1,x,.cons _ t,e=>by
  obtain ⟨u,h1,h2⟩:=aK.get (i:=i) (x:=x) t (by simpa using e)
  exact ⟨u,by simpa using h1,h2⟩
theorem aK.set {x:V}{u:Value}(r:aL x u):∀ {xs:List V} {us:bJ} (i:Nat),aK xs us->aK (xs.set i x) (us.set i u)
 | _,_,_,.nil=>.nil
 | _,_,0,.cons _ t=>.cons r t
 | _,_,i + 1,.cons q t=>.cons q (aK.set r i t)
theorem aK.append:∀ {xs ys:List V} {us ws:bJ},aK xs us->aK ys ws->aK (xs ++ ys) (us ++ ws)
 | _,_,_,_,.nil,s=>s
 | _,_,_,_,.cons r t,s=>.cons r (aK.append t s)
theorem aK.take:∀ {xs:List V} {us:bJ} (n:Nat),aK xs us->aK (xs.take n) (us.take n)
 | _,_,0,_=>.nil
 | _,_,_ + 1,.nil=>.nil
 | _,_,n + 1,.cons r t=>.cons r (aK.take n t)
theorem aK.drop:∀ {xs:List V} {us:bJ} (n:Nat),aK xs us->aK (xs.drop n) (us.drop n)
 | _,_,0,r=>r
 | _,_,_ + 1,.nil=>.nil
 | _,_,n + 1,.cons _ t=>aK.drop n t
noncomputable def sG:Option V->Option Value->Prop
 | some v,some u=>aL v u
 | none,none=>True
 | _,_=>False
noncomputable def KV {κ:Type}:List (κ×V)->List (κ×Value)->Prop:=Paired fun (p:κ×V) (q:κ×Value)=>p.1=q.1/\aL p.2 q.2
noncomputable def kV:cF->V
 | .inl i=>.int i
 | .inr x=>.str x
inductive HO where
 /-- a list -/
 | lst (xs:List V)
 /-- a tuple (never changes) -/
 | tup (xs:List V)
 /-- a dict whose keys are ints and texts;one whose keys are tuples of ints and texts (the empty one is both) -/
 | dK (kvs:List (cF×V)) | dT (kvs:List (List cF×V))
 /-- a set of ints: its members,its size -/
 | set (S:Int->Bool) (n:Nat)
 /-- an instance of the class at C,its dict at dx,its attributes -/
 | ins (C dx:Addr) (fs:List (Str×V))
 /-- the dict of the instance at x -/
 | own (x:Addr)
 /-- the dict of an exception -/
 | xd (fs:List (Str×V))
 /-- a bound method,f of x -/
 | met (f x:Addr)
 /-- a range object lo,lo + 1,.. below hi -/
 | rng (lo hi:Int)
 /-- a thing that is known to the object (the script;a dict while a loop walks it): read,never written while it is so -/
 | frz (o:Obj) (u:HO)
 /-- a code object's table -/
 | tbl (ps:d8)
 /-- any other thing,by what is true of its one object (a def of one's own: SetO a S n:=HO.ext fun h=>..) -/
 | ext (φ:Heap->Prop)
noncomputable abbrev Hp:=Addr->Option HO
noncomputable def upd (H:Hp)(a:Addr)(o:HO):Hp:=fun b=>if b=a then some o else H b
theorem upd_same {H:Hp}{a:Addr}{o:HO}:upd H a o a=some o:=by unfold upd;rw [if_pos rfl]
theorem aE {H:Hp}{a b:Addr}{o:HO}(h:b≠a):upd H a o b=H b:=by unfold upd;rw [if_neg h]
theorem upd_upd {H:Hp}{a:Addr}{o u:HO}:upd (upd H a o) a u=upd H a u:=by
 funext b;unfold upd;split <;> rfl
theorem DV {H:Hp}{a b:Addr}{o u:HO}(h:H a=some o)(h':H b=some u)(d:o≠u):a≠b:=by
 intro e;subst e;rw [h] at h';exact d (Option.some.inj h')
theorem aG {H:Hp}{a b:Addr}{o:HO}(h:H a=some o)(h':H b=none):a≠b:=by
 intro e;subst e;rw [h] at h';cases h'
section
variable (P:Program)(w:World)
noncomputable def aU (H:Hp)(h:Heap)(a:Addr):HO->Prop
 | .lst xs=>xs.length<=sizeLine/\∃ (its:bJ) (n:Nat),aK xs its/\h.get? a=some { cls:=.type "list",data:=.seq its.toArray n }
 | .tup xs=>xs.length<=sizeLine/\∃ its:bJ,aK xs its/\IsTup h a its.toArray
 | .dK kvs=>kvs.length<=sizeLine/\(a == sysModules)=false/\∃ vs,KV kvs vs/\h.DictOf (bG P w) a vs
 | .dT kvs=>kvs.length<=sizeLine/\(a == sysModules)=false/\∃ xs:List (List cF×Addr×Value),
   Paired (fun (p:List cF×V) (q:List cF×Addr×Value)=>p.1=q.1/\H q.2.1=some (.tup (p.1.map kV))/\aL p.2 q.2.2) kvs xs /\
   ∃ o es ep,h.get? a=some o/\o.ExactDict/\o.data = .dict es ep/\es.toList=xs.map (entryOfKey (tupleKind (bG P w)))/\(xs.map (·.1)).Nodup
 | .set S n=>h.SetOf (intKind P w) a S n
 | .ins C dx fs=>H dx=some (.own a)/\fs.length<=1000/\dx≠a/\h.get? a=some (PySem.W.instObj C dx) /\
   ∃ mA,h.Ns1 dx mA/\(∀ f,sG (fs.lookup f) (mA f))/\PySem.Within mA (fs.map (·.1))
 | .own _=>∃ o,h.get? a=some o
 | .xd fs=>∃ mA,h.Ns1 a mA/\∀ f,sG (fs.lookup f) (mA f)
 | .rng lo hi=>∃ t u v,h.get? a=some { cls:=.type "range",data:=.fields #[.int lo t,.int hi u,.int 1 v] }
 | .frz o u=>h.get? a=some o/\aU H h a u
 | .tbl ps=>h.get? a=some { cls:=.none,data:=.fields ps }
 | .met f x=>h.get? a=some (PySem.W.methodObj (.ref f) (.ref x))
 | .ext φ=>φ h/\(∃ o,h.get? a=some o)/\∀ h1 h2:Heap,φ h1->(∀ o,h1.get? a=some o->h2.get? a=some o)->φ h2
noncomputable def eD (H:Hp)(h:Heap):Prop:=∀ a o,H a=some o->aU P w H h a o
end
section
variable {P:Program}{w:World}{H H':Hp}{h h':Heap}{a:Addr}{o:HO}
theorem aU.lt (x:aU P w H h a o):a < h.objs.size:=by
 cases o with
 | lst xs=>obtain ⟨_,_,_,_,e⟩:=x;exact Heap.lt_size e
 | tup xs=>obtain ⟨_,_,_,p⟩:=x;exact p.lt
 | dK kvs=>obtain ⟨_,_,_,_,o,_,_,e,_⟩:=x;exact Heap.lt_size e
 | dT kvs=>obtain ⟨_,_,_,_,o,_,_,e,_⟩:=x;exact Heap.lt_size e
 | set S n=>obtain ⟨o,_,_,_,e,_⟩:=x;exact Heap.lt_size e
 | ins C dx fs=>obtain ⟨_,_,_,e,_⟩:=x;exact Heap.lt_size e
 | own y=>obtain ⟨_,e⟩:=x;exact Heap.lt_size e
 | xd fs=>obtain ⟨_,⟨_,_,_,e,_⟩,_⟩:=x;exact Heap.lt_size e
 | rng lo hi=>obtain ⟨_,_,_,e⟩:=x;exact Heap.lt_size e
 | frz ob u=>obtain ⟨e,_⟩:=x;exact Heap.lt_size e
 | tbl ps=>exact Heap.lt_size (show h.get? a=some _ from x)
 | met f y=>exact Heap.lt_size (show h.get? a=some _ from x)
 | ext φ=>obtain ⟨_,⟨_,e⟩,_⟩:=x;exact Heap.lt_size e
theorem Paired.mapP {α β:Type}{F G:α->β->Prop}:∀ {l₁:List α} {l₂:List β},Paired F l₁ l₂->(∀ a b,F a b->G a b)->Paired G l₁ l₂
 | _,_,.nil,_=>.nil
 | _,_,.cons r t,f=>.cons (f _ _ r) (Paired.mapP t f)
theorem aU.stay (x:aU P w H h a o)(k:∀ b u,(b=a∨H b=some (.own a))->h.get? b=some u->h'.get? b=some u)
  (ho:∀ b,H b=some (.own a)->H' b=some (.own a)) (ht:∀ b xs,H b=some (.tup xs)->H' b=some (.tup xs)):aU P w H' h' a o:=by
 induction o with
 | lst xs=>obtain ⟨z,its,n,r,e⟩:=x;exact ⟨z,its,n,r,k _ _ (.inl rfl) e⟩
 | tup xs=>obtain ⟨z,its,r,ob,e,c⟩:=x;exact ⟨z,its,r,ob,k _ _ (.inl rfl) e,c⟩
 | dK kvs=>obtain ⟨z,y,vs,r,ob,es,ep,e,c⟩:=x;exact ⟨z,y,vs,r,ob,es,ep,k _ _ (.inl rfl) e,c⟩
 | dT kvs =>
  obtain ⟨z,y,xs,r,ob,es,ep,e,c⟩:=x
  exact ⟨z,y,xs,Paired.mapP r fun p q z=>⟨z.1,ht _ _ z.2.1,z.2.2⟩,ob,es,ep,k _ _ (.inl rfl) e,c⟩
 | set S n=>obtain ⟨ob,es,ep,t,e,c⟩:=x;exact ⟨ob,es,ep,t,k _ _ (.inl rfl) e,c⟩
 | ins C dx fs =>
  obtain ⟨d,z,ne,e,mA,⟨od,es,ep,e2,c⟩,r⟩:=x
  exact ⟨ho _ d,z,ne,k _ _ (.inl rfl) e,mA,⟨od,es,ep,k _ _ (.inr d) e2,c⟩,r⟩
 | own y=>obtain ⟨ob,e⟩:=x;exact ⟨ob,k _ _ (.inl rfl) e⟩
 | xd fs=>obtain ⟨mA,⟨od,es,ep,e,c⟩,r⟩:=x;exact ⟨mA,⟨od,es,ep,k _ _ (.inl rfl) e,c⟩,r⟩
 | rng lo hi=>obtain ⟨t,u,v,e⟩:=x;exact ⟨t,u,v,k _ _ (.inl rfl) e⟩
 | frz ob u ih=>obtain ⟨e,q⟩:=x;exact ⟨k _ _ (.inl rfl) e,ih q⟩
 | tbl ps =>
  have e:h.get? a=some { cls:=.none,data:=.fields ps }:=x
  show h'.get? a=some { cls:=.none,data:=.fields ps }
  exact k a _ (.inl rfl) e
 | met f y =>
  have e:h.get? a=some (PySem.W.methodObj (.ref f) (.ref y)):=x
  show h'.get? a=some (PySem.W.methodObj (.ref f) (.ref y))
  exact k a _ (.inl rfl) e
 | ext φ=>obtain ⟨p,⟨o,e⟩,st⟩:=x;exact ⟨st _ _ p fun o q=>k _ _ (.inl rfl) q,⟨o,k _ _ (.inl rfl) e⟩,st⟩
theorem eD.lt (x:eD P w H h)(e:H a=some o):a < h.objs.size:=(x a o e).lt
theorem eD.fresh (x:eD P w H h)(e:h.objs.size<=a):H a=none:=by
 cases q:H a with
 | none=>rfl
 | some u=>exact absurd (Nat.lt_of_lt_of_le (x.lt q) e) (Nat.lt_irrefl _)
theorem eD.kept (x:eD P w H h)(k:∀ b u,h.get? b=some u->h'.get? b=some u):eD P w H h':=fun a o e =>
 (x a o e).stay (fun b u _ q=>k b u q) (fun _ q=>q) fun _ _ q=>q
theorem eD.laid (x:eD P w H h)(k:∀ b u,h.get? b=some u->h'.get? b=some u)(hp:h.objs.size<=a)(new:aU P w (upd H a o) h' a o):eD P w (upd H a o) h':=fun b u e=>by
 have hn:=x.fresh hp
 by_cases hb:b=a
 ·subst hb;rw [upd_same] at e;cases e;exact new
 ·rw [aE hb] at e
  exact (x b u e).stay (fun c v _ q=>k c v q) (fun c q=>by rw [aE (aG q hn)];exact q) fun c xs q=>by rw [aE (aG q hn)];exact q
end
noncomputable def Rd (H:Hp)(a:Addr)(u:HO):Prop:=H a=some u∨∃ o,H a=some (.frz o u)
theorem Rd.of {H:Hp}{a:Addr}{u:HO}(h:H a=some u):Rd H a u:=.inl h
theorem Rd.ok {P:Program}{w:World}{H:Hp}{h:Heap}{a:Addr}{u:HO}(r:Rd H a u)(x:eD P w H h):aU P w H h a u:=by
 rcases r with r | ⟨o,r⟩
 ·exact x a u r
 ·obtain ⟨_,q⟩:=x a _ r
  exact q
noncomputable def EC:Option HO->Prop
 | some (.lst _)=>True
 | some (.dK _)=>True
 | some (.dT _)=>True
 | some (.set _ _)=>True
 | some (.ins _ _ _)=>True
 | some (.ext _)=>True
 | _=>False
section
variable {P:Program}{w:World}{H:Hp}{h h':Heap}{x e:Addr}{o':HO}
theorem eD.write (ok:eD P w H h)(mu:EC (H x))(he:e=x∨H e=some (.own x))(k:∀ b u,b≠e->h.get? b=some u->h'.get? b=some u)(heo:∃ u,h'.get? e=some u)
  (new:aU P w (upd H x o') h' x o'):eD P w (upd H x o') h':=fun b u q=>by
 have nown:∀ c y,H c=some (.own y)->c≠x:=fun c y r z=>by subst z;rw [r] at mu;exact mu
 have ntup:∀ c xs,H c=some (.tup xs)->c≠x:=fun c xs r z=>by subst z;rw [r] at mu;exact mu
 by_cases hb:b=x
 ·subst hb;rw [upd_same] at q;cases q;exact new
 ·rw [aE hb] at q
  by_cases hbe:b=e
  ·have q':H b=some (.own x):=by
    rcases he with z | z
    ·exact absurd (hbe.trans z) hb
    ·rw [hbe];exact z
   rw [q] at q';cases q'
   obtain ⟨v,hv⟩:=heo
   exact ⟨v,by rw [hbe];exact hv⟩
  ·refine (ok b u q).stay (fun c v hc r=>k c v ?_ r) (fun c r=>by rw [aE (nown c b r)];exact r) fun c xs r=>by rw [aE (ntup c xs r)];exact r
   rcases hc with rfl | hc
   ·exact hbe
   ·rintro rfl
    rcases he with z | z
    ·exact nown c b hc z
    ·rw [hc] at z;cases z;exact hb rfl
end
structure Un (fs ex:List Addr)(H H':Hp)(h h':Heap):Prop where
 keep:∀ b o,h.get? b=some o->H b=none->b ∉ fs->b ∉ ex->h'.get? b=some o
 slot:∀ b o,h.get? b=some o->H b=none->b ∈ fs->b ∉ ex->∃ sl,h'.get? b=some { o with slots:=sl }
 free:∀ b o,h.get? b=some o->H b=none->b ∉ ex->H' b=none
 there:∀ b o,h.get? b=some o->b ∉ ex->∃ o',h'.get? b=some o'
 tups:∀ b xs,H b=some (.tup xs)->H' b=some (.tup xs)
 frzs:∀ b o u,H b=some (.frz o u)->H' b=some (.frz o u)
 tbls:∀ b ps,H b=some (.tbl ps)->∃ more,H' b=some (.tbl (ps ++ more))
section
variable {fs fs' ex ex':List Addr}{H H1 H2:Hp}{h h1 h2 h':Heap}{a x e:Addr}{o:HO}
theorem Un.any (u:Un fs ex H H1 h h1){b:Addr}{ob:Obj}(q:h.get? b=some ob)(n:H b=none)(hx:b ∉ ex):∃ sl,h1.get? b=some { ob with slots:=sl }:=by
 by_cases hb:b ∈ fs
 ·exact u.slot b ob q n hb hx
 ·exact ⟨ob.slots,u.keep b ob q n hb hx⟩
theorem Un.kept (k:∀ b u,h.get? b=some u->h'.get? b=some u):Un fs ex H H h h' :=
 ⟨fun b ob q _ _ _=>k b ob q,fun b ob q _ _ _=>⟨ob.slots,k b ob q⟩,fun _ _ _ n _=>n,fun b ob q _=>⟨ob,k b ob q⟩,fun _ _ q=>q,fun _ _ _ q=>q,fun _ ps q=>⟨#[],by rw [q];simp⟩⟩
theorem Un.refl:Un fs ex H H h h:=Un.kept fun _ _ q=>q
theorem Un.laid (k:∀ b u,h.get? b=some u->h'.get? b=some u)(hp:h.objs.size<=a)(hn:H a=none):Un fs ex H (upd H a o) h h' where
 keep:=fun b u q _ _ _=>k b u q
 slot:=fun b u q _ _ _=>⟨u.slots,k b u q⟩
 free:=fun b u q n _=>by rw [aE (Nat.ne_of_lt (Nat.lt_of_lt_of_le (Heap.lt_size q) hp))];exact n
 there:=fun b u q _=>⟨u,k b u q⟩
 tups:=fun b xs q=>by rw [aE (aG q hn)];exact q
 frzs:=fun b u xs q=>by rw [aE (aG q hn)];exact q
 tbls:=fun b ps q=>⟨#[],by rw [aE (aG q hn),q];simp⟩
theorem Un.write (mu:EC (H x))(he:e=x∨H e=some (.own x))(k:∀ b u,b≠e->h.get? b=some u->h'.get? b=some u)(heo:∃ u,h'.get? e=some u):Un fs ex H (upd H x o) h h':=by
 have hx:∀ b,H b=none->b≠x:=fun b n z=>by subst z;rw [n] at mu;exact mu
 have hb:∀ b,H b=none->b≠e:=fun b n z=>by
  subst z
  rcases he with r | r
  ·exact hx b n r
  ·rw [n] at r;cases r
 have hm:∀ b u,H b=some u->¬ EC (some u)->b≠x:=fun b u q nm z=>by subst z;rw [q] at mu;exact nm mu
 refine ⟨fun b u q n _ _=>k b u (hb b n) q,fun b u q n _ _=>⟨u.slots,k b u (hb b n) q⟩,fun b u q n _=>by rw [aE (hx b n)];exact n,fun b u q _=>?_,
  fun b xs q=>by rw [aE (hm b _ q fun z=>z)];exact q,fun b u xs q=>by rw [aE (hm b _ q fun z=>z)];exact q,fun b ps q=>⟨#[],by rw [aE (hm b _ q fun z=>z),q];simp⟩⟩
 by_cases hbe:b=e
 ·subst hbe;exact heo
 ·exact ⟨u,k b u hbe q⟩
end
noncomputable def trk (h:Heap)(H:Hp):List Addr:=(List.range h.objs.size).filter fun a=>(H a).isSome
noncomputable def hidT (h:Heap)(H:Hp):Heap:=PySem.W.hideAll h (trk h H)
theorem wF (h:Heap)(H:Hp):(hidT h H).objs.size=h.objs.size:=PySem.W.hideAll_size _ _
theorem lZ {h:Heap}{H:Hp}{b:Addr}{o:Obj}(e:h.get? b=some o)(n:H b=none):(hidT h H).get? b=some o :=
 PySem.W.hideAll_get _ e fun hm=>by
  have q:(H b).isSome=true:=(List.mem_filter.mp hm).2
  rw [n] at q;simp at q
theorem AS {h:Heap}{H:Hp}{b:Addr}{o:Obj}(e:(hidT h H).get? b=some o):h.get? b=some o/\H b=none:=by
 have e':h.get? b=some o:=PySem.W.of_hideAll (trk h H) e
 refine ⟨e',?_⟩
 cases q:H b with
 | none=>rfl
 | some x =>
  have hm:b ∈ trk h H:=List.mem_filter.mpr ⟨List.mem_range.mpr (Heap.lt_size e'),by simp [q]⟩
  have z:(hidT h H).get? b=none:=PySem.W.hideAll_none (trk h H) hm
  rw [z] at e;cases e
noncomputable def BE (g h:Heap)(L:Addr):bK:=(List.range h.objs.size).filterMap fun a=>if a=L∨(g.get? a).isSome=true then none else (h.get? a).map fun o=>(a,o)
noncomputable def rest (g h:Heap)(L d:Addr):bK:=(BE g h L).filter fun p=>decide (p.1≠d)
structure Mod (K:PySem.W.Frag)(mg:eV)(base:Heap):Prop where
 kin:K.In base
 glob:base.Ns mainGlobals mg
 blt:∃ mb,base.Ns builtinsNs mb/\∀ x:Str,x≠"__name__"->mb x=bootBuiltins x
 nolimit:base.NoLimit
structure Cx where
 prog:Program
 w:World
 K:PySem.W.Frag
 mg:eV
 base:Heap
 A:Around
 N:bE
 s₀:Shared
 H₀:Hp
 env:Env
 outer:List Env
 stack:List Env
 ex:List Addr
 fn:Str->Bool
 calm:Bool
 pn:bK
 xe:bA
noncomputable def frs (l:List Env):List Addr:=l.filterMap (·.frame)
noncomputable abbrev Cx.fs (X:Cx):List Addr:=frs X.outer
noncomputable def EM (sc:Scope)(x:Str):Prop:=sc.names.lookup x=some .local∨sc.names.lookup x=some .cell∨sc.names.lookup x=some .free
noncomputable def EH (sc:Scope)(x:Str):Prop:=sc.names.lookup x=some .local∨sc.names.lookup x=some .cell
noncomputable def EU (env:Env)(h:Heap)(m:eV)(x:Str)(u:Value):Prop :=
 (env.kindOf x=some .local/\m x=some u)∨((env.kindOf x=some .cell∨env.kindOf x=some .free)/\∃ c,env.cells.lookup x=some c/\h.IsCell c (some u))
structure Cx.Ok (X:Cx):Prop where
 mod:Mod X.K X.mg X.base
 kind:X.env.scope.kind = .function
 glob:X.env.globals=mainGlobals
 blt:X.env.builtins=builtinsNs
 above:X.s₀.heap.objs.size<=X.env.locals
 inj:∀ x y c,X.env.cells.lookup x=some c->X.env.cells.lookup y=some c->x=y
 has:∀ x,(X.env.kindOf x=some .cell∨X.env.kindOf x=some .free)->∃ c,X.env.cells.lookup x=some c
 cab:∀ x c,X.fn x=true->X.env.cells.lookup x=some c->X.s₀.heap.objs.size<=c
 hd:X.calm=true->X.A.handled=none
 frames:X.A.frames=some X.stack
 stk:X.stack=X.outer∨(X.stack=X.env :: X.outer/\X.env.frame=some X.env.locals)
 exf:∀ b ∈ X.ex,b≠X.env.locals/\∀ x c,X.env.cells.lookup x=some c->c≠b
 bs:∀ b o,X.base.get? b=some o->X.s₀.heap.get? b=some o/\X.H₀ b=none
 bsz:X.base.objs.size<=X.s₀.heap.objs.size
 noex:∀ b o,X.base.get? b=some o->b ∉ X.ex
 exfs:∀ b ∈ X.ex,b ∉ X.fs
 funs:X.s₀.heap.FunFrames X.base X.outer
 frf:∀ b ∈ X.fs,X.H₀ b=none
structure aF (X:Cx)(pins:bK)(σ:List (Option V))(H:Hp)(s:Shared):Prop where
 ok:X.Ok
 os:s.os=X.s₀.os
 bare:AllBare s.gens
 base:Un X.fs X.ex X.H₀ H X.s₀.heap s.heap
 loc:∃ m,s.heap.Ns X.env.locals m/\∀ (i:Nat) (x:Str) (v:V),X.N[i]?=some x->σ[i]?=some (some v)->EM X.env.scope x->∃ u,aL v u/\EU X.env s.heap m x u
 cell:∀ x c,X.env.cells.lookup x=some c->∃ v,s.heap.IsCell c v
 free:H X.env.locals=none
 freeC:∀ x c,X.env.cells.lookup x=some c->H c=none
 pin:∀ p ∈ X.pn ++ pins,s.heap.get? p.1=some p.2/\H p.1=none/\p.1≠X.env.locals/\p.1 ∉ X.fs/\∀ v,p.2.data≠.cell v
 hok:eD X.prog X.w H s.heap
 len:σ.length=X.N.length
section
variable {X:Cx}{pins:bK}{σ:List (Option V)}{H H':Hp}{s:Shared}{h':Heap}
theorem Cx.Ok.nofr (ok:X.Ok){b:Addr}{o:Obj}(e:X.base.get? b=some o):b ∉ X.fs:=fun hb=>by
 have:=(ok.funs.mem hb).1
 rw [e] at this;cases this
theorem aF.bs (I:aF X pins σ H s):∀ b o,X.base.get? b=some o->s.heap.get? b=some o/\H b=none:=fun b o e =>
 ⟨I.base.keep b o (I.ok.bs b o e).1 (I.ok.bs b o e).2 (I.ok.nofr e) (I.ok.noex b o e),I.base.free b o (I.ok.bs b o e).1 (I.ok.bs b o e).2 (I.ok.noex b o e)⟩
theorem aF.bk (I:aF X pins σ H s):∀ b o,X.base.get? b=some o->s.heap.get? b=some o:=fun b o e=>(I.bs b o e).1
theorem aF.mod (I:aF X pins σ H s):Mod X.K X.mg X.base:=I.ok.mod
theorem aF.kIn (I:aF X pins σ H s):X.K.In s.heap:=I.ok.mod.kin.keeps I.bk
theorem aF.lt (I:aF X pins σ H s):X.env.locals < s.heap.objs.size:=let ⟨_,hn,_⟩:=I.loc;hn.lt
theorem aF.sz (I:aF X pins σ H s):X.s₀.heap.objs.size<=s.heap.objs.size:=Nat.le_trans I.ok.above (Nat.le_of_lt I.lt)
theorem aF.nofs (I:aF X pins σ H s){a:Addr}(h:s.heap.objs.size<=a):a ∉ X.fs:=fun hb=>by
 obtain ⟨_,o,ho,_⟩:=I.ok.funs.mem hb
 exact absurd (Nat.lt_of_lt_of_le (Heap.lt_size ho) (Nat.le_trans I.sz h)) (Nat.lt_irrefl _)
theorem aF.cne (I:aF X pins σ H s):∀ x c,X.env.cells.lookup x=some c->c≠X.env.locals:=fun x c e z=>by
 obtain ⟨v,o,ho,hd⟩:=I.cell x c e
 obtain ⟨m,⟨o',es,ep,ho',hd',_⟩,_⟩:=I.loc
 rw [z,ho'] at ho;cases ho;rw [hd'] at hd;cases hd
theorem aF.funs (I:aF X pins σ H s):s.heap.FunFrames X.base X.outer:=by
 have all:∀ (l:List Env),(∀ b ∈ frs l,b ∈ X.fs)->X.s₀.heap.FunFrames X.base l->s.heap.FunFrames X.base l:=by
  intro l
  induction l with
  | nil=>intro _ _;trivial
  | cons env r ih =>
   intro hs hl
   obtain ⟨hk,⟨L,o,hf,hn,ho,hd⟩,hr⟩:=hl
   have hL:L ∈ X.fs:=hs L (by unfold frs;rw [List.filterMap_cons,hf];exact List.mem_cons_self)
   obtain ⟨sl,e⟩:=I.base.slot L o ho (I.ok.frf L hL) hL fun z=>I.ok.exfs L z hL
   exact ⟨hk,⟨L,_,hf,hn,e,hd⟩,ih (fun b hb=>hs b (by unfold frs;rw [List.filterMap_cons,hf];exact List.mem_cons_of_mem _ hb)) hr⟩
 exact all X.outer (fun _ hb=>hb) I.ok.funs
theorem aF.stack (I:aF X pins σ H s):s.heap.FunFrames X.base X.stack:=by
 rcases I.ok.stk with e | ⟨e,hf⟩
 ·rw [e];exact I.funs
 ·rw [e]
  obtain ⟨m,hn,_⟩:=I.loc
  refine .cons (by rw [I.ok.kind];decide) hf hn ?_ I.funs
  exact Heap.get?_none_of_le (Nat.le_trans I.ok.bsz I.ok.above)
theorem aF.stkSub (I:aF X pins σ H s):∀ b ∈ frs X.stack,b ∈ X.env.locals :: X.fs:=fun b hb=>by
 rcases I.ok.stk with e | ⟨e,hf⟩
 ·rw [e] at hb;exact List.mem_cons_of_mem _ hb
 ·rw [e] at hb
  unfold frs at hb
  rw [List.filterMap_cons,hf] at hb
  exact hb
theorem aF.stkFree (I:aF X pins σ H s):∀ b ∈ frs X.stack,H b=none:=fun b hb=>by
 rcases List.mem_cons.mp (I.stkSub b hb) with e | hb
 ·rw [e];exact I.free
 ·obtain ⟨_,o,ho,_⟩:=I.ok.funs.mem hb
  exact I.base.free b o ho (I.ok.frf b hb) fun z=>I.ok.exfs b z hb
theorem aF.step {g':Array GenState}{t':Nat}{d':Drawn}{ch:List Addr}(I:aF X pins σ H s)
  (hch:∀ b ∈ ch,(b ∈ X.ex∨X.s₀.heap.objs.size<=b)/\b≠X.env.locals/\(∀ x c,X.env.cells.lookup x=some c->c≠b)/\∀ p ∈ X.pn ++ pins,p.1≠b)
  (keep:∀ b o,b≠X.env.locals->b ∉ X.fs->b ∉ ch->s.heap.get? b=some o->H b=none->h'.get? b=some o)
  (slot:∀ b o,b≠X.env.locals->b ∈ X.fs->b ∉ ch->s.heap.get? b=some o->H b=none->∃ sl,h'.get? b=some { o with slots:=sl }) (free:∀ b o,b ∉ ch->s.heap.get? b=some o->H b=none->H' b=none)
  (there:∀ b o,b ∉ ch->s.heap.get? b=some o->∃ o',h'.get? b=some o')
  (tups:∀ b xs,H b=some (.tup xs)->H' b=some (.tup xs)) (frzs:∀ b o u,H b=some (.frz o u)->H' b=some (.frz o u)) (tbls:∀ b ps,H b=some (.tbl ps)->∃ more,H' b=some (.tbl (ps ++ more)))
  (ns:∀ m,s.heap.Ns X.env.locals m->h'.Ns X.env.locals m) (hok:eD X.prog X.w H' h') (hg:AllBare g') :
  aF X pins σ H' { s with heap:=h',gens:=g',drawn:=d',toks:=t' }:=by
 have neL:∀ b o,X.s₀.heap.get? b=some o->b≠X.env.locals:=fun b o e=>Nat.ne_of_lt (Nat.lt_of_lt_of_le (Heap.lt_size e) I.ok.above)
 have neC:∀ b o,X.s₀.heap.get? b=some o->b ∉ X.ex->b ∉ ch:=fun b o e hx hb=>by
  rcases (hch b hb).1 with z | z
  ·exact hx z
  ·exact absurd (Nat.lt_of_lt_of_le (Heap.lt_size e) z) (Nat.lt_irrefl _)
 have cellK:∀ x c,X.env.cells.lookup x=some c->∀ v,s.heap.IsCell c v->h'.IsCell c v:=fun x c e v ⟨o,ho,hd⟩=>by
  have nch:c ∉ ch:=fun z=>(hch c z).2.2.1 x c e rfl
  by_cases hc:c ∈ X.fs
  ·obtain ⟨sl,q⟩:=slot c o (I.cne x c e) hc nch ho (I.freeC x c e)
   exact ⟨_,q,hd⟩
  ·exact ⟨o,keep c o (I.cne x c e) hc nch ho (I.freeC x c e),hd⟩
 refine ⟨I.ok,I.os,hg,⟨fun b o e n hb hx=>?_,fun b o e n hb hx=>?_,fun b o e n hx=>?_,fun b o e hx=>?_,fun b xs e=>tups b xs (I.base.tups b xs e),fun b o xs e=>frzs b o xs (I.base.frzs b o xs e),fun b ps e=>?_⟩,?_,fun x c e=>?_,?_,fun x c e=>?_,fun p hp=>?_,hok,I.len⟩
 ·exact keep b o (neL b o e) hb (neC b o e hx) (I.base.keep b o e n hb hx) (I.base.free b o e n hx)
 ·obtain ⟨sl,e1⟩:=I.base.slot b o e n hb hx
  obtain ⟨sl',e2⟩:=slot b _ (neL b o e) hb (neC b o e hx) e1 (I.base.free b o e n hx)
  exact ⟨sl',e2⟩
 ·obtain ⟨o',e1⟩:=I.base.there b o e hx
  exact free b o' (neC b o e hx) e1 (I.base.free b o e n hx)
 ·obtain ⟨o',e1⟩:=I.base.there b o e hx
  exact there b o' (neC b o e hx) e1
 ·obtain ⟨m1,e1⟩:=I.base.tbls b ps e
  obtain ⟨m2,e2⟩:=tbls b _ e1
  exact ⟨m1 ++ m2,by rw [e2,Array.append_assoc]⟩
 ·obtain ⟨m,hn,hl⟩:=I.loc
  refine ⟨m,ns m hn,fun i x v e1 e2 e3=>?_⟩
  obtain ⟨u,r,l⟩:=hl i x v e1 e2 e3
  refine ⟨u,r,?_⟩
  rcases l with l | ⟨k,c,e,z⟩
  ·exact .inl l
  ·exact .inr ⟨k,c,e,cellK x c e _ z⟩
 ·obtain ⟨v,z⟩:=I.cell x c e
  exact ⟨v,cellK x c e v z⟩
 ·obtain ⟨m,⟨o,_,_,ho,_⟩,_⟩:=I.loc
  exact free _ o (fun z=>(hch _ z).2.1 rfl) ho I.free
 ·obtain ⟨v,o,ho,hd⟩:=I.cell x c e
  exact free c o (fun z=>(hch c z).2.2.1 x c e rfl) ho (I.freeC x c e)
 ·obtain ⟨e,n,ne,nf,d⟩:=I.pin p hp
  have nch:p.1 ∉ ch:=fun z=>(hch p.1 z).2.2.2 p hp rfl
  exact ⟨keep p.1 p.2 ne nf nch e n,free p.1 p.2 nch e n,ne,nf,d⟩
theorem aF.un {t':Nat}(I:aF X pins σ H s)(u:Un X.fs [] H H' s.heap h')(hok:eD X.prog X.w H' h'):aF X pins σ H' { s with heap:=h',toks:=t' }:=by
 obtain ⟨m,⟨o,es,ep,ho,r⟩,_⟩:=id I.loc
 obtain ⟨sl,hL⟩:=u.any ho I.free (by simp)
 exact I.step (g':=s.gens) (d':=s.drawn) (ch:=[]) (fun _ z=>nomatch z) (fun b o _ hb _ e n=>u.keep b o e n hb (by simp)) (fun b o _ hb _ e n=>u.slot b o e n hb (by simp)) (fun b o _ e n=>u.free b o e n (by simp)) (fun b o _ e=>u.there b o e (by simp)) u.tups u.frzs u.tbls (fun m' hm=>by
  obtain ⟨o',es',ep',ho',r'⟩:=hm
  rw [ho] at ho';cases ho'
  exact ⟨_,es',ep',hL,r'⟩) hok I.bare
theorem aF.call {g':Array GenState}{t':Nat}{d':Drawn}{ch:List Addr}(I:aF X pins σ H s)(u:Un (frs X.stack) ch H H' s.heap h')(hok:eD X.prog X.w H' h')(hg:AllBare g')
  (hch:∀ b ∈ ch,(b ∈ X.ex∨X.s₀.heap.objs.size<=b)/\b≠X.env.locals/\(∀ x c,X.env.cells.lookup x=some c->c≠b)/\∀ p ∈ X.pn ++ pins,p.1≠b) :
  aF X pins σ H' { s with heap:=h',gens:=g',drawn:=d',toks:=t' }:=by
 obtain ⟨m,⟨o,es,ep,ho,r⟩,_⟩:=id I.loc
 obtain ⟨sl,hL⟩:=u.any ho I.free fun z=>(hch _ z).2.1 rfl
 exact I.step (ch:=ch) hch (fun b o hL hb hc e n=>u.keep b o e n (fun z=>(List.mem_cons.mp (I.stkSub b z)).elim hL hb) hc) (fun b o _ _ hc e n=>u.any e n hc) (fun b o hc e n=>u.free b o e n hc) (fun b o hc e=>u.there b o e hc) u.tups u.frzs u.tbls (fun m' hm=>by
  obtain ⟨o',es',ep',ho',r'⟩:=hm
  rw [ho] at ho';cases ho'
  exact ⟨_,es',ep',hL,r'⟩) hok hg
theorem aF.turned {t':Nat}{it:Addr}(I:aF X pins σ H s)(k:∀ b o,b≠it->s.heap.get? b=some o->h'.get? b=some o)(hn:H it=none)(hL:it≠X.env.locals)
  (h1:it ∈ X.ex∨X.s₀.heap.objs.size<=it) (h2:∀ x c,X.env.cells.lookup x=some c->c≠it) (h3:∀ p ∈ X.pn ++ pins,p.1≠it):aF X pins σ H { s with heap:=h',toks:=t' }:=by
 have nit:∀ b u,H b=some u->b≠it:=fun b u e z=>by rw [z,hn] at e;cases e
 refine I.step (g':=s.gens) (d':=s.drawn) (ch:=[it]) (fun b hb=>?_) (fun b o _ _ hc e _=>k b o (fun z=>hc (by simp [z])) e) (fun b o _ _ hc e _=>⟨o.slots,k b o (fun z=>hc (by simp [z])) e⟩) (fun _ _ _ _ n=>n)
  (fun b o hc e=>⟨o,k b o (fun z=>hc (by simp [z])) e⟩) (fun _ _ e=>e) (fun _ _ _ e=>e) (fun b ps e=>⟨#[],by rw [e];simp⟩) (fun m hm=>?_) (fun b u e=>?_) I.bare
 ·have e:b=it:=by simpa using hb
  subst e
  exact ⟨h1,hL,h2,h3⟩
 ·obtain ⟨o,es,ep,ho,r⟩:=hm
  exact ⟨o,es,ep,k _ o (Ne.symm hL) ho,r⟩
 ·refine (I.hok b u e).stay (fun c v hc q=>k c v ?_ q) (fun _ q=>q) fun _ _ q=>q
  rcases hc with z | z
  ·rw [z];exact nit b u e
  ·exact nit c _ z
theorem aF.tok (I:aF X pins σ H s)(t:Nat):aF X pins σ H { s with toks:=t }:=I.un (h':=s.heap) (t':=t) Un.refl I.hok
theorem aF.kept {t':Nat}(I:aF X pins σ H s)(k:∀ b u,s.heap.get? b=some u->h'.get? b=some u):aF X pins σ H { s with heap:=h',toks:=t' }:=I.un (Un.kept k) (I.hok.kept k)
theorem aF.laid {a:Addr}{o:HO}{t':Nat}(I:aF X pins σ H s)(k:∀ b u,s.heap.get? b=some u->h'.get? b=some u)(hp:s.heap.objs.size<=a)(new:aU X.prog X.w (upd H a o) h' a o) :
  aF X pins σ (upd H a o) { s with heap:=h',toks:=t' }:=I.un (Un.laid k hp (I.hok.fresh hp)) (I.hok.laid k hp new)
theorem aF.write {x e:Addr}{o:HO}{t':Nat}(I:aF X pins σ H s)(mu:EC (H x))(he:e=x∨H e=some (.own x))(k:∀ b u,b≠e->s.heap.get? b=some u->h'.get? b=some u)(heo:∃ u,h'.get? e=some u)
  (new:aU X.prog X.w (upd H x o) h' x o):aF X pins σ (upd H x o) { s with heap:=h',toks:=t' }:=I.un (Un.write mu he k heo) (I.hok.write mu he k heo new)
theorem aF.pins_of {pins':bK}(I:aF X pins σ H s)(h:∀ p ∈ pins',s.heap.get? p.1=some p.2/\H p.1=none/\p.1≠X.env.locals/\p.1 ∉ X.fs/\∀ v,p.2.data≠.cell v):aF X pins' σ H s :=
 ⟨I.ok,I.os,I.bare,I.base,I.loc,I.cell,I.free,I.freeC,fun p hp=>(List.mem_append.mp hp).elim (fun z=>I.pin p (List.mem_append_left _ z)) (h p),I.hok,I.len⟩
theorem qX {N:bE}(hN:N.Nodup){i j:Nat}{x:Str}(a:N[i]?=some x)(b:N[j]?=some x):i=j:=by
 obtain ⟨h1,e1⟩:=List.getElem?_eq_some_iff.mp a
 obtain ⟨h2,e2⟩:=List.getElem?_eq_some_iff.mp b
 exact (List.getElem_inj hN).mp (e1.trans e2.symm)
theorem nJ {M:Model}{A:Around}{E:bA}{i:Nat}{x:Str}{v:V}{u:Value}{Q:Unit->Shared->Prop}(I:aF X pins σ H s)(hN:X.N.Nodup)(hi:X.N[i]?=some x)(hx:EH X.env.scope x)(r:aL v u)
  (h:∀ s',aF X pins (σ.set i (some v)) H s'->(∃ a,Heap.SameBut a s.heap s'.heap/\(a=X.env.locals∨X.env.cells.lookup x=some a))->Q () s') (hf:X.fn x=true∨X.env.scope.names.lookup x=some .local:=by first | exact .inl rfl | exact .inr rfl | assumption):wpAny M A (storeName X.env x u) Q E s:=by
 obtain ⟨m,hn,hl⟩:=id I.loc
 have hcls:(X.env.scope.kind == .class || (X.env.scope.kind == .module && X.env.locals != X.env.globals))=false:=by rw [I.ok.kind];rfl
 have hiσ:i < σ.length:=by rw [I.len];exact (List.getElem?_eq_some_iff.mp hi).1
 have cne:=I.cne
 have tracked:∀ {a:Addr} {h':Heap},(∃ o,s.heap.get? a=some o/\H a=none)->Heap.SameBut a s.heap h'->eD X.prog X.w H h':=fun {a h'} ha hs b ob e=>by
  obtain ⟨_,_,hfree⟩:=ha
  refine (I.hok b ob e).stay (fun c w' hc q=>(hs.2 c ?_).trans q) (fun _ q=>q) fun _ _ q=>q
  rintro rfl
  rcases hc with rfl | hc
  ·rw [hfree] at e;cases e
  ·rw [hfree] at hc;cases hc
 rcases hx with hk | hk
 ·refine wpAny_storeName_local hk hn (fun h' hn' hs=>?_) hcls
  obtain ⟨oL,_,_,hoL,_⟩:=id hn
  refine h _ ⟨I.ok,I.os,I.bare,⟨fun b o e n hb hx=>?_,fun b o e n hb hx=>?_,I.base.free,fun b o e hx=>?_,I.base.tups,I.base.frzs,I.base.tbls⟩,⟨_,hn',fun j y v' e1 e2 e3=>?_⟩,fun y c e=>?_,I.free,I.freeC,fun p hp=>?_,tracked ⟨oL,hoL,I.free⟩ hs,by simpa using I.len⟩ ⟨_,hs,.inl rfl⟩
  ·exact (hs.2 b (Nat.ne_of_lt (Nat.lt_of_lt_of_le (Heap.lt_size e) I.ok.above))).trans (I.base.keep b o e n hb hx)
  ·obtain ⟨sl,e1⟩:=I.base.slot b o e n hb hx
   exact ⟨sl,(hs.2 b (Nat.ne_of_lt (Nat.lt_of_lt_of_le (Heap.lt_size e) I.ok.above))).trans e1⟩
  ·obtain ⟨o',e1⟩:=I.base.there b o e hx
   exact ⟨o',(hs.2 b (Nat.ne_of_lt (Nat.lt_of_lt_of_le (Heap.lt_size e) I.ok.above))).trans e1⟩
  ·by_cases hj:j=i
   ·subst hj
    rw [hi] at e1;cases e1
    rw [List.getElem?_set_self hiσ] at e2
    cases e2
    exact ⟨u,r,.inl ⟨hk,by simp⟩⟩
   ·rw [List.getElem?_set_ne (Ne.symm hj)] at e2
    obtain ⟨u',r',q⟩:=hl j y v' e1 e2 e3
    refine ⟨u',r',?_⟩
    rcases q with ⟨k,e⟩ | ⟨k,c,e,z⟩
    ·refine .inl ⟨k,?_⟩
     have:y≠x:=fun e=>hj (qX hN e1 (e ▸ hi))
     simp [this,e]
    ·exact .inr ⟨k,c,e,z.sameBut hs (cne y c e)⟩
  ·obtain ⟨w',z⟩:=I.cell y c e
   exact ⟨w',z.sameBut hs (cne y c e)⟩
  ·obtain ⟨e,n,ne,nf,d⟩:=I.pin p hp
   exact ⟨(hs.2 p.1 ne).trans e,n,ne,nf,d⟩
 ·have hfn:X.fn x=true:=by
   rcases hf with z | z
   ·exact z
   ·rw [z] at hk;cases hk
  obtain ⟨c,hc⟩:=I.ok.has x (.inl hk)
  obtain ⟨w',z⟩:=I.cell x c hc
  refine wpAny_storeName_cell I.ok.kind hk hc z (fun h' hc' hs=>?_)
  obtain ⟨oc,hoc,hocd⟩:=id z
  refine h { s with heap:=h' } ⟨I.ok,I.os,I.bare,⟨fun b o e n hb hx=>?_,fun b o e n hb hx=>?_,I.base.free,fun b o e hx=>?_,I.base.tups,I.base.frzs,I.base.tbls⟩,⟨m,hn.sameBut hs (Ne.symm (cne x c hc)),fun j y v' e1 e2 e3=>?_⟩,fun y c' e=>?_,I.free,I.freeC,fun p hp=>?_,tracked ⟨oc,hoc,I.freeC x c hc⟩ hs,by simpa using I.len⟩ ⟨c,hs,.inr hc⟩
  ·exact (hs.2 b (Nat.ne_of_lt (Nat.lt_of_lt_of_le (Heap.lt_size e) (I.ok.cab x c hfn hc)))).trans (I.base.keep b o e n hb hx)
  ·obtain ⟨sl,e1⟩:=I.base.slot b o e n hb hx
   exact ⟨sl,(hs.2 b (Nat.ne_of_lt (Nat.lt_of_lt_of_le (Heap.lt_size e) (I.ok.cab x c hfn hc)))).trans e1⟩
  ·obtain ⟨o',e1⟩:=I.base.there b o e hx
   exact ⟨o',(hs.2 b (Nat.ne_of_lt (Nat.lt_of_lt_of_le (Heap.lt_size e) (I.ok.cab x c hfn hc)))).trans e1⟩
  ·by_cases hj:j=i
   ·subst hj
    rw [hi] at e1;cases e1
    rw [List.getElem?_set_self hiσ] at e2
    cases e2
    exact ⟨u,r,.inr ⟨.inl hk,c,hc,hc'⟩⟩
   ·rw [List.getElem?_set_ne (Ne.symm hj)] at e2
    obtain ⟨u',r',q⟩:=hl j y v' e1 e2 e3
    refine ⟨u',r',?_⟩
    rcases q with q | ⟨k,c',e,z'⟩
    ·exact .inl q
    ·refine .inr ⟨k,c',e,z'.sameBut hs ?_⟩
     rintro rfl
     exact hj (qX hN e1 (I.ok.inj _ _ _ e hc ▸ hi))
  ·by_cases hcc:c'=c
   ·subst hcc;exact ⟨_,hc'⟩
   ·obtain ⟨w2,z2⟩:=I.cell y c' e
    exact ⟨w2,z2.sameBut hs hcc⟩
  ·obtain ⟨e,n,ne,nf,d⟩:=I.pin p hp
   refine ⟨(hs.2 p.1 ?_).trans e,n,ne,nf,d⟩
   intro q
   rw [q,hoc] at e
   have q':oc=p.2:=Option.some.inj e
   exact d w' (by rw [← q'];exact hocd)
theorem qG {M:Model}{A:Around}{E:bA}{i:Nat}{x:Str}{v:V}{u:Value}{Q:Unit->Shared->Prop}(I:aF X pins σ H s)(hN:X.N.Nodup)(hi:X.N[i]?=some x)(hx:EH X.env.scope x)(r:aL v u)
  (h:∀ s',aF X pins (σ.set i (some v)) H s'->Q () s') (hf:X.fn x=true∨X.env.scope.names.lookup x=some .local:=by first | exact .inl rfl | exact .inr rfl | assumption):wpAny M A (storeName X.env x u) Q E s :=
 nJ I hN hi hx r (fun s' I' _=>h s' I') hf
theorem aF.call' {s':Shared}{ch:List Addr}(I:aF X pins σ H s)(ho:s'.os=s.os)(u:Un (frs X.stack) ch H H' s.heap s'.heap)(hok:eD X.prog X.w H' s'.heap)(hg:AllBare s'.gens)
  (hch:∀ b ∈ ch,(b ∈ X.ex∨X.s₀.heap.objs.size<=b)/\b≠X.env.locals/\(∀ x c,X.env.cells.lookup x=some c->c≠b)/\∀ p ∈ X.pn ++ pins,p.1≠b):aF X pins σ H' s':=by
 obtain ⟨h',g',d',t',o'⟩:=s'
 have e:o'=s.os:=ho
 subst e
 exact I.call (g':=g') (t':=t') (d':=d') u hok hg hch
end
noncomputable abbrev XK:=Value->Option Addr->Hp->Prop
noncomputable abbrev St:=List (Option V)
noncomputable abbrev VK:=V->Hp->Prop
noncomputable abbrev TE:=St->Hp->VK->Prop
noncomputable abbrev TT:=St->Hp->(Bool->Hp->Prop)->Prop
noncomputable abbrev TA:=St->Hp->(List V->Hp->Prop)->Prop
structure hI where
 nx:St->Hp->Prop
 rt:VK
 bk:St->Hp->Prop:=fun _ _=>False
 ct:St->Hp->Prop:=fun _ _=>False
noncomputable abbrev TS:=hI->St->Hp->Prop
noncomputable def EP (X:Cx)(pins:bK)(σ:St)(Q:VK)(u:Value)(s':Shared):Prop:=∃ v H',aF X pins σ H' s'/\aL v u/\Q v H'
noncomputable def TP (X:Cx)(pins:bK)(σ:St)(Q:Bool->Hp->Prop)(b:Bool)(s':Shared):Prop:=∃ H',aF X pins σ H' s'/\Q b H'
noncomputable def AP (X:Cx)(pins:bK)(σ:St)(Q:List V->Hp->Prop)(us:bJ)(s':Shared):Prop:=∃ vs H',aF X pins σ H' s'/\aK vs us/\Q vs H'
noncomputable def SP (X:Cx)(pins:bK)(D:hI)(f:Flow)(s':Shared):Prop :=
 match f with
 | .next=>∃ σ' H',aF X pins σ' H' s'/\D.nx σ' H'
 | .brk=>∃ σ' H',aF X pins σ' H' s'/\D.bk σ' H'
 | .cont=>∃ σ' H',aF X pins σ' H' s'/\D.ct σ' H'
 | .ret u=>∃ v σ' H',aF X pins σ' H' s'/\aL v u/\D.rt v H'
noncomputable def PE (X:Cx)(e:Expr)(t:TE):Prop :=
 ∀ (pins:bK) (s:Shared) (σ:St) (H:Hp) (Q:VK),aF X pins σ H s->t σ H Q->wpAny (model X.prog X.w) X.A (eval e X.env) (EP X pins σ Q) X.xe s
noncomputable def PT (X:Cx)(e:Expr)(t:TT):Prop :=
 ∀ (pins:bK) (s:Shared) (σ:St) (H:Hp) (Q:Bool->Hp->Prop),aF X pins σ H s->t σ H Q->wpAny (model X.prog X.w) X.A (isTrue e X.env (eval e X.env)) (TP X pins σ Q) X.xe s
noncomputable def PW (X:Cx)(e:Expr)(t:TT):Prop :=
 ∀ (whole:Sem Value) (pins:bK) (s:Shared) (σ:St) (H:Hp) (Q:Bool->Hp->Prop),aF X pins σ H s->t σ H Q->wpAny (model X.prog X.w) X.A (isTrue e X.env whole) (TP X pins σ Q) X.xe s
theorem PW.pt {X:Cx}{e:Expr}{t:TT}(h:PW X e t):PT X e t:=h _
noncomputable def PA (X:Cx)(es:g9)(t:TA):Prop :=
 ∀ (pos:Pos) (pins:bK) (s:Shared) (σ:St) (H:Hp) (Q:List V->Hp->Prop),aF X pins σ H s->t σ H Q->wpAny (model X.prog X.w) X.A (spliced (backTo pos (starEach es X.env))) (AP X pins σ Q) X.xe s
noncomputable def PS (X:Cx)(st:Stmt)(t:TS):Prop :=
 ∀ (pins:bK) (s:Shared) (σ:St) (H:Hp) (D:hI),aF X pins σ H s->t D σ H->wpAny (model X.prog X.w) X.A (exec st X.env) (SP X pins D) X.xe s
noncomputable def vG (X:Cx)(st:List Stmt)(t:TS):Prop :=
 ∀ (pins:bK) (s:Shared) (σ:St) (H:Hp) (D:hI),aF X pins σ H s->t D σ H->wpAny (model X.prog X.w) X.A (execs st X.env) (SP X pins D) X.xe s
theorem thn {α:Type}{t:Sem α}{Q Q':α->Shared->Prop}{M:Model}{A:Around}{E:bA}{s:Shared}(h:wpAny M A t Q E s)(hQ:∀ a s,Q a s->Q' a s):wpAny M A t Q' E s:=wpAny_mono h hQ fun _ _ x=>x
section
variable {X:Cx}
theorem bin {a b:Expr}{ta tb:TE}(ha:PE X a ta)(hb:PE X b tb){pins:bK}{s:Shared}{σ:St}{H:Hp}{R:V->V->Hp->Prop}(I:aF X pins σ H s)(h:ta σ H fun x H1=>tb σ H1 fun y H2=>R x y H2)
  {α:Type} {Q:α->Shared->Prop} {f:Value->Value->Sem α}
  (hf:∀ v u s2 x y H2,aF X pins σ H2 s2->aL x v->aL y u->R x y H2->wpAny (model X.prog X.w) X.A (f v u) Q X.xe s2) :
  wpAny (model X.prog X.w) X.A (eval a X.env) (fun v s₁=>wpAny (model X.prog X.w) X.A (eval b X.env) (fun u s₂=>wpAny (model X.prog X.w) X.A (f v u) Q X.xe s₂) X.xe s₁) X.xe s:=by
 refine thn (ha pins s σ H _ I h) fun v s1 ⟨x,H1,I1,r1,q1⟩=>?_
 refine thn (hb pins s1 σ H1 _ I1 q1) fun u s2 ⟨y,H2,I2,r2,q2⟩=>?_
 exact hf v u s2 x y H2 I2 r1 r2 q2
noncomputable def tVar (i:Nat):TE:=fun σ H Q=>∃ v,σ[i]?=some (some v)/\Q v H
noncomputable def tC (v:V):TE:=fun _ H Q=>Q v H
theorem CJ {i:Nat}{x:Str}{pos:Pos}(hN:X.N[i]?=some x)(hv:EM X.env.scope x)(hd:(x == ("__debug__" : Str))=false:=by decide)(hcd:(x == ("__classdict__" : Str))=false:=by decide):PE X (.Name x pos) (tVar i):=by
 intro pins s σ H Q I h
 obtain ⟨v,e,h⟩:=h
 obtain ⟨m,hn,hl⟩:=I.loc
 obtain ⟨u,r,l⟩:=hl i x v hN e hv
 have fin:EP X pins σ Q u s:=⟨v,H,I,r,h⟩
 rcases l with ⟨hk,hm⟩ | ⟨hk,c,hc,hcell⟩
 ·exact wpAny_Name (wpAny_loadName_local I.ok.kind hk hn hm fin) hd
 ·rcases hk with hk | hk
  ·exact wpAny_Name (wpAny_loadName_cell I.ok.kind hk hc hcell fin) hd
  ·exact wpAny_Name (wpAny_loadName_free I.ok.kind hk hc hcell fin hcd) hd
theorem aH {i j pos}:PE X (.Constant (.int i) j pos) (tC (.int i)):=fun _ _ _ H _ I h=>wpAny_Constant_int ⟨.int i,H,I.tok _,⟨_,rfl⟩,h⟩
theorem DS {b j pos}:PE X (.Constant (.bool b) j pos) (tC (.bl b)):=fun _ _ _ H _ I h=>Constant_bool ⟨.bl b,H,I,rfl,h⟩
noncomputable def Gl (X:Cx)(x:Str):Prop:=X.env.kindOf x=some .globalImplicit
theorem u3 {E:bA}{pins:bK}{s:Shared}{σ:St}{H:Hp}{x:Str}{u:Value}{pos:Pos}{Q:bA}(I:aF X pins σ H s)(hg:Gl X x)(hm:X.mg x=some u)(h:Q u s)
  (hd:(x == ("__debug__" : Str))=false:=by decide):wpAny (model X.prog X.w) X.A (eval (.Name x pos) X.env) Q E s :=
 Calls.Name_function_global I.ok.kind hg (Calls.loadGlobal_global (by rw [I.ok.glob];exact I.mod.glob.keeps I.bk) hm h) hd
theorem iG {E:bA}{pins:bK}{s:Shared}{σ:St}{H:Hp}{x:Str}{u:Value}{pos:Pos}{Q:bA}(I:aF X pins σ H s)(hg:Gl X x)(hm:X.mg x=none)(hv:bootBuiltins x=some u)(h:Q u s)
  (hn:x≠"__name__":=by decide) (hd:(x == ("__debug__" : Str))=false:=by decide):wpAny (model X.prog X.w) X.A (eval (.Name x pos) X.env) Q E s:=by
 obtain ⟨mb,h1,h2⟩:=I.mod.blt
 exact Calls.Name_function_global I.ok.kind hg (Calls.loadGlobal_builtin (by rw [I.ok.glob];exact I.mod.glob.keeps I.bk) hm (by rw [I.ok.blt];exact h1.keeps I.bk) ((h2 x hn).trans hv) h) hd
theorem AL {x:Str}{v:V}{u:Value}{pos:Pos}(hg:Gl X x)(hm:X.mg x=some u)(r:aL v u)(hd:(x == ("__debug__" : Str))=false:=by decide):PE X (.Name x pos) (tC v) :=
 fun _ _ _ H _ I h=>u3 I hg hm ⟨v,H,I,r,h⟩ hd
theorem kU {x:Str}{v:V}{u:Value}{pos:Pos}(hg:Gl X x)(hm:X.mg x=none)(hv:bootBuiltins x=some u)(r:aL v u)(hn:x≠"__name__":=by decide)(hd:(x == ("__debug__" : Str))=false:=by decide):PE X (.Name x pos) (tC v) :=
 fun _ _ _ H _ I h=>iG I hg hm hv ⟨v,H,I,r,h⟩ hn hd
variable {a b:Expr}{ta tb:TE}{pos:Pos}
variable {tA tB':TT}{rest:g9}
noncomputable def tAnd (t u:TT):TT:=fun σ H Q=>t σ H fun c H1=>if c=true then u σ H1 Q else Q false H1
noncomputable def tOr (t u:TT):TT:=fun σ H Q=>t σ H fun c H1=>if c=true then Q true H1 else u σ H1 Q
noncomputable def tNot (t:TT):TT:=fun σ H Q=>t σ H fun c H1=>Q (!c) H1
theorem AF (ha:PT X a tA):PW X (.BoolOp .And [a] pos) tA:=by
 intro wh pins s σ H Q I h
 refine isTrue_and (thn (ha pins s σ H Q I h) fun c s1 e=>?_)
 cases c with
 | true=>exact isTrue_and_nil e
 | false=>exact e
theorem xI (ha:PT X a tA):PW X (.BoolOp .Or [a] pos) tA:=by
 intro wh pins s σ H Q I h
 refine isTrue_or (thn (ha pins s σ H Q I h) fun c s1 e=>?_)
 cases c with
 | false=>exact isTrue_or_nil e
 | true=>exact e
theorem CD (ha:PT X a tA)(hb:PW X (.BoolOp .And (b :: rest) pos) tB'):PW X (.BoolOp .And (a :: b :: rest) pos) (tAnd tA tB'):=by
 intro wh pins s σ H Q I h
 refine isTrue_and (thn (ha pins s σ H _ I h) fun c s1 ⟨H1,I1,q1⟩=>?_)
 cases c with
 | true=>exact hb wh pins s1 σ H1 Q I1 q1
 | false=>exact ⟨H1,I1,q1⟩
theorem xJ (ha:PT X a tA)(hb:PW X (.BoolOp .Or (b :: rest) pos) tB'):PW X (.BoolOp .Or (a :: b :: rest) pos) (tOr tA tB'):=by
 intro wh pins s σ H Q I h
 refine isTrue_or (thn (ha pins s σ H _ I h) fun c s1 ⟨H1,I1,q1⟩=>?_)
 cases c with
 | true=>exact ⟨H1,I1,q1⟩
 | false=>exact hb wh pins s1 σ H1 Q I1 q1
theorem fP (ha:PT X a tA):PT X (.UnaryOp .Not a pos) (tNot tA):=by
 intro pins s σ H Q I h
 exact isTrue_not (ha pins s σ H (fun c H1=>Q (!c) H1) I h)
noncomputable def tAndV (ta tb:TE):TE:=fun σ H Q=>ta σ H fun x H1=>∃ c,x = .bl c/\if c=true then tb σ H1 Q else Q (.bl false) H1
noncomputable def tOrV (ta tb:TE):TE:=fun σ H Q=>ta σ H fun x H1=>∃ c,x = .bl c/\if c=true then Q (.bl true) H1 else tb σ H1 Q
noncomputable def tNotV (ta:TE):TE:=fun σ H Q=>ta σ H fun x H1=>∃ c,x = .bl c/\Q (.bl (!c)) H1
theorem xR {op}{t:TE}(h:PE X a t):PE X (.BoolOp op [a] pos) t:=fun pins s σ H Q I hw=>BoolOp_one (h pins s σ H Q I hw)
theorem xW (ha:PE X a ta)(hb:PE X (.BoolOp .And (b :: rest) pos) tb):PE X (.BoolOp .And (a :: b :: rest) pos) (tAndV ta tb):=by
 intro pins s σ H Q I h
 refine BoolOp_and (thn (ha pins s σ H _ I h) fun v s1 ⟨x,H1,I1,r1,q1⟩=>?_)
 obtain ⟨c,rfl,q1⟩:=q1
 cases r1
 refine wpAny_truthy_bool ?_
 cases c with
 | true=>exact hb pins s1 σ H1 Q I1 q1
 | false=>exact ⟨.bl false,H1,I1,rfl,q1⟩
theorem CK (ha:PE X a ta):PE X (.UnaryOp .Not a pos) (tNotV ta):=by
 intro pins s σ H Q I h
 refine UnaryOp_ (thn (ha pins s σ H _ I h) fun v s1 ⟨x,H1,I1,r1,q1⟩=>?_)
 obtain ⟨c,rfl,q1⟩:=q1
 cases r1
 exact not_of (wpAny_truthy_bool ⟨.bl (!c),H1,I1,rfl,q1⟩)
noncomputable def tIf (t:TT)(ta tb:TE):TE:=fun σ H Q=>t σ H fun c H1=>if c=true then ta σ H1 Q else tb σ H1 Q
end
noncomputable def cY (K:PySem.W.Frag)(H:Hp)(a:Addr)(xs:List V):Prop :=
 Rd H a (.lst xs) ∨
  ∃ (o:Obj) (its:d8) (n:Nat),K.lookup a=some o/\o.cls = .type "list"/\o.dict=none/\o.data = .seq its n/\its.size<=sizeLine/\aK xs its.toList
noncomputable def d7 (K:PySem.W.Frag)(H:Hp)(a:Addr)(xs:List V):Prop :=
 Rd H a (.tup xs) ∨
  ∃ (o:Obj) (its:d8) (n:Nat),K.lookup a=some o/\o.cls = .type "tuple"/\o.data = .seq its n/\its.size<=sizeLine/\aK xs its.toList
noncomputable def absV:Value->Option V
 | .none=>some .non
 | .bool b=>some (.bl b)
 | .int i _=>some (.int i)
 | .str x _=>some (.str x)
 | .bytes b _=>some (.byt b)
 | .float b _=>some (.flt b)
 | .ref a=>some (.ref a)
 | .type n=>some (.ty n)
 | _=>none
theorem aL.abs {x:V}{u:Value}(r:aL x u):absV u=some x:=by
 cases x with
 | non=>cases r;rfl
 | bl _=>cases r;rfl
 | int _=>obtain ⟨t,rfl⟩:=r;rfl
 | str _=>obtain ⟨t,rfl⟩:=r;rfl
 | byt _=>obtain ⟨t,rfl⟩:=r;rfl
 | flt _=>obtain ⟨t,rfl⟩:=r;rfl
 | ref _=>cases r;rfl
 | ty _=>cases r;rfl
theorem aL.inj {x y:V}{u:Value}(r:aL x u)(q:aL y u):x=y:=Option.some.inj (r.abs.symm.trans q.abs)
theorem aK.inj:∀ {xs ys:List V} {us:bJ},aK xs us->aK ys us->xs=ys
 | _,_,_,.nil,.nil=>rfl
 | _,_,_,.cons r t,.cons r' t'=>by rw [r.inj r',aK.inj t t']
section
variable {X:Cx}{pins:bK}{σ:St}{H:Hp}{s:Shared}{a:Addr}{xs ys:List V}
theorem cY.of {K:PySem.W.Frag}(h:H a=some (.lst xs)):cY K H a xs:=.inl (.inl h)
theorem d7.of {K:PySem.W.Frag}(h:H a=some (.tup xs)):d7 K H a xs:=.inl (.inl h)
theorem aF.list (I:aF X pins σ H s)(h:cY X.K H a xs):∃ its:bJ,aK xs its/\PlainL s.heap a its.toArray/\xs.length<=sizeLine:=by
 rcases h with h | ⟨o,its,n,hk,hc,hd,hs,hz,r⟩
 ·obtain ⟨z,its,n,r,e⟩:=h.ok I.hok
  exact ⟨its,r,⟨_,n,e,rfl,rfl,rfl⟩,z⟩
 ·refine ⟨its.toList,r,⟨o,n,I.kIn a o hk,hc,hd,by simpa using hs⟩,?_⟩
  have e:=r.length
  simp only [Array.length_toList] at e
  omega
theorem aF.tuple (I:aF X pins σ H s)(h:d7 X.K H a xs):∃ its:bJ,aK xs its/\IsTup s.heap a its.toArray/\xs.length<=sizeLine:=by
 rcases h with h | ⟨o,its,n,hk,hc,hs,hz,r⟩
 ·obtain ⟨z,its,r,p⟩:=h.ok I.hok
  exact ⟨its,r,p,z⟩
 ·refine ⟨its.toList,r,⟨o,I.kIn a o hk,hc,n,by simpa using hs⟩,?_⟩
  have e:=r.length
  simp only [Array.length_toList] at e
  omega
theorem aF.list_inj (I:aF X pins σ H s)(h:cY X.K H a xs)(h':cY X.K H a ys):xs=ys:=by
 obtain ⟨its,r,⟨o,n,e,_,_,d⟩,_⟩:=I.list h
 obtain ⟨its',r',⟨o',n',e',_,_,d'⟩,_⟩:=I.list h'
 rw [e] at e';cases e'
 rw [d] at d'
 injection d' with d1 _
 have:its=its':=by simpa using congrArg Array.toList d1
 subst this
 exact r.inj r'
theorem aF.tuple_inj (I:aF X pins σ H s)(h:d7 X.K H a xs)(h':d7 X.K H a ys):xs=ys:=by
 obtain ⟨its,r,⟨o,e,_,n,d⟩,_⟩:=I.tuple h
 obtain ⟨its',r',⟨o',e',_,n',d'⟩,_⟩:=I.tuple h'
 rw [e] at e';cases e'
 rw [d] at d'
 injection d' with d1 _
 have:its=its':=by simpa using congrArg Array.toList d1
 subst this
 exact r.inj r'
end
noncomputable abbrev Cx.wish (X:Cx)(E:bA):Cx:={ X with xe:=E }
noncomputable abbrev Cx.nox (X:Cx):Cx:=X.wish fun _ _=>False
theorem Cx.Ok.wish {X:Cx}(ok:X.Ok)(E:bA):(X.wish E).Ok :=
 ⟨ok.mod,ok.kind,ok.glob,ok.blt,ok.above,ok.inj,ok.has,ok.cab,ok.hd,ok.frames,ok.stk,ok.exf,ok.bs,ok.bsz,ok.noex,ok.exfs,ok.funs,ok.frf⟩
theorem Cx.Ok.unwish {X:Cx}{E:bA}(ok:(X.wish E).Ok):X.Ok :=
 ⟨ok.mod,ok.kind,ok.glob,ok.blt,ok.above,ok.inj,ok.has,ok.cab,ok.hd,ok.frames,ok.stk,ok.exf,ok.bs,ok.bsz,ok.noex,ok.exfs,ok.funs,ok.frf⟩
section
variable {X:Cx}{pins:bK}{σ:St}{H:Hp}{s:Shared}{E:bA}
theorem aF.wish (I:aF X pins σ H s)(E:bA):aF (X.wish E) pins σ H s:=⟨I.ok.wish E,I.os,I.bare,I.base,I.loc,I.cell,I.free,I.freeC,I.pin,I.hok,I.len⟩
theorem aF.unwish (I:aF (X.wish E) pins σ H s):aF X pins σ H s:=⟨I.ok.unwish,I.os,I.bare,I.base,I.loc,I.cell,I.free,I.freeC,I.pin,I.hok,I.len⟩
theorem SP.unwish {D:hI}{f:Flow}{s':Shared}(h:SP (X.wish E) pins D f s'):SP X pins D f s':=by
 cases f with
 | next=>obtain ⟨σ',H',I,q⟩:=h;exact ⟨σ',H',I.unwish,q⟩
 | brk=>obtain ⟨σ',H',I,q⟩:=h;exact ⟨σ',H',I.unwish,q⟩
 | cont=>obtain ⟨σ',H',I,q⟩:=h;exact ⟨σ',H',I.unwish,q⟩
 | ret u=>obtain ⟨v,σ',H',I,r,q⟩:=h;exact ⟨v,σ',H',I.unwish,r,q⟩
theorem vG.nox {st:List Stmt}{t:TS}(h:vG X.nox st t):vG X st t:=fun pins s σ H D I hw =>
 wpAny_mono (h pins s σ H D (I.wish _) hw) (fun _ _ q=>q.unwish) fun _ _ z=>False.elim z
end
section
variable {X:Cx}{st:Stmt}{rest:List Stmt}{t u:TS}{e:Expr}{te:TE}{pos:Pos}
noncomputable def tNext:TS:=fun D σ H=>D.nx σ H
noncomputable def tSeq (t u:TS):TS:=fun D σ H=>t { D with nx:=u D } σ H
theorem gN:vG X [] tNext:=fun _ _ σ H _ I h=>wpAny_execs_nil ⟨σ,H,I,h⟩
theorem aP (h1:PS X st t)(h2:vG X rest u):vG X (st :: rest) (tSeq t u):=by
 intro pins s σ H D I h
 refine wpAny_execs_cons (thn (h1 pins s σ H { D with nx:=u D } I h) fun f s1 q=>?_)
 cases f with
 | next =>
  obtain ⟨σ',H',I',q⟩:=q
  exact h2 pins s1 σ' H' D I' q
 | ret v=>exact q
 | brk=>exact q
 | cont=>exact q
theorem aO (h1:PS X st t):vG X [st] t:=by
 intro pins s σ H D I h
 refine wpAny_execs_cons (thn (h1 pins s σ H D I h) fun f s1 q=>?_)
 cases f with
 | next=>exact wpAny_execs_nil q
 | ret v=>exact q
 | brk=>exact q
 | cont=>exact q
theorem aF.quiet {pins:bK}{σ:St}{H:Hp}{s:Shared}(I:aF X pins σ H s):interactive X.env=false:=by simp [interactive,I.ok.kind]
noncomputable def tDrop (te:TE):TS:=fun D σ H=>te σ H fun _ H1=>D.nx σ H1
theorem iW (he:PE X e te)(hs:swapsWith e none pos.line X.env=pure false:=by rfl):PS X (.Expr e pos) (tDrop te):=by
 intro pins s σ H D I h
 exact wpAny_Expr_any (thn (he pins s σ H _ I h) fun v s1 ⟨x,H1,I1,r1,q1⟩=>⟨σ,H1,I1,q1⟩) I.quiet hs
noncomputable def tRet (te:TE):TS:=fun D σ H=>te σ H D.rt
theorem bR (he:PE X e te):PS X (.Return (some e) pos) (tRet te):=by
 intro pins s σ H D I h
 exact wpAny_Return_some (thn (he pins s σ H _ I h) fun v s1 ⟨x,H1,I1,r1,q1⟩=>⟨x,σ,H1,I1,r1,q1⟩)
noncomputable def tIfS (c:TT)(t u:TS):TS:=fun D σ H=>c σ H fun b H1=>if b=true then t D σ H1 else u D σ H1
theorem lG {c:Expr}{a b:List Stmt}{tc:TT}(hc:PT X c tc)(ha:vG X a t)(hb:vG X b u):PS X (.If c a b pos) (tIfS tc t u):=by
 intro pins s σ H D I h
 refine wpAny_If (thn (hc pins s σ H _ I h) fun d s1 ⟨H1,I1,q1⟩=>?_)
 cases d with
 | true=>exact ha pins s1 σ H1 D I1 q1
 | false=>exact hb pins s1 σ H1 D I1 q1
noncomputable def tNever:TS:=fun _ _ _=>False
theorem xO:PS X st tNever:=fun _ _ _ _ _ _ h=>h.elim
end
noncomputable abbrev TG:=V->St->Hp->(St->Hp->Prop)->Prop
noncomputable abbrev BQ:=List V->St->Hp->(St->Hp->Prop)->Prop
noncomputable def PG (X:Cx)(target:Expr)(t:TG):Prop :=
 ∀ (pins:bK) (s:Shared) (σ:St) (H:Hp) (v:V) (u:Value) (Q:St->Hp->Prop),aF X pins σ H s->aL v u->t v σ H Q ->
  wpAny (model X.prog X.w) X.A (assign target X.env u) (fun _ s'=>∃ σ' H',aF X pins σ' H' s'/\Q σ' H') X.xe s
noncomputable def EB (X:Cx)(ts:g9)(t:BQ):Prop :=
 ∀ (pins:bK) (s:Shared) (σ:St) (H:Hp) (vs:List V) (us:bJ) (Q:St->Hp->Prop),aF X pins σ H s->aK vs us->t vs σ H Q ->
  wpAny (model X.prog X.w) X.A (assignInOrder ((assignEach ts X.env).map (·.2)) us) (fun _ s'=>∃ σ' H',aF X pins σ' H' s'/\Q σ' H') X.xe s
noncomputable abbrev DJ:=V->V->V->Hp->(Hp->Prop)->Prop
noncomputable def EA (X:Cx)(t:DJ):Prop :=
 ∀ (pins:bK) (s:Shared) (σ:St) (H:Hp) (o i v:V) (ov iv u:Value) (Q:Hp->Prop),aF X pins σ H s->aL o ov->aL i iv->aL v u->t o i v H Q ->
  wpAny (model X.prog X.w) X.A (setItem ov iv u) (fun _ s'=>∃ H',aF X pins σ H' s'/\Q H') X.xe s
section
variable {X:Cx}{pos:Pos}
noncomputable def gName (i:Nat):TG:=fun v σ H Q=>Q (σ.set i (some v)) H
theorem aW {i:Nat}{x:Str}(hN:X.N.Nodup)(hi:X.N[i]?=some x)(hx:EH X.env.scope x)(hf:X.fn x=true∨X.env.scope.names.lookup x=some .local:=by first | exact .inl rfl | exact .inr rfl | assumption):PG X (.Name x pos) (gName i):=by
 intro pins s σ H v u Q I r h
 exact wpAny_assign_Name (qG I hN hi hx r (fun s' I'=>⟨_,H,I',h⟩) hf)
noncomputable def gNil:BQ:=fun vs σ H Q=>vs=[]/\Q σ H
noncomputable def gCons (t:TG)(u:BQ):BQ:=fun vs σ H Q=>∃ v r,vs=v :: r/\t v σ H fun σ' H'=>u r σ' H' Q
theorem gO:EB X [] gNil:=by
 intro pins s σ H vs us Q I r h
 obtain ⟨e,h⟩:=h
 subst e
 cases r
 exact assignInOrder_nil ⟨σ,H,I,h⟩
theorem bX {e:Expr}{es:g9}{t:TG}{u:BQ}(h1:PG X e t)(h2:EB X es u)
  (hs:(assignEach (e :: es) X.env).map (·.2)=assign e X.env :: (assignEach es X.env).map (·.2):=by rfl):EB X (e :: es) (gCons t u):=by
 intro pins s σ H vs us Q I r h
 obtain ⟨v,vr,e1,h⟩:=h
 subst e1
 cases r with
 | cons r rr =>
  rw [hs]
  refine assignInOrder_cons (thn (h1 pins s σ H _ _ _ I r h) fun _ s1 ⟨σ1,H1,I1,q1⟩=>?_)
  exact h2 pins s1 σ1 H1 _ _ Q I1 rr q1
noncomputable def gTup (K:PySem.W.Frag)(n:Nat)(t:BQ):TG:=fun v σ H Q=>∃ a xs,v = .ref a/\d7 K H a xs/\xs.length=n/\t xs σ H Q
theorem jL {es:g9}{k:Nat}{t:BQ}{n:Nat}(hc:X.calm=true)(h:EB X es t)
  (hn:(assignEach es X.env).length=n:=by rfl) (hst:(assignEach es X.env).findIdx? (·.1)=none:=by rfl):PG X (.Tuple es k pos) (gTup X.K n t):=by
 intro pins s σ H v u Q I r hw
 obtain ⟨a,xs,e1,hq,hl,hw⟩:=hw
 subst e1
 cases r
 obtain ⟨its,rv,ht,hz⟩:=I.tuple hq
 refine assign_Tuple_tuple (I.ok.hd hc) ht (by simp [hn,← hl,rv.length]) hst fun h' hx=>?_
 have I1:aF X pins σ H { s with heap:=h' }:=I.kept (t':=s.toks) fun b o e=>hx b o (Nat.ne_of_lt (Heap.lt_size e)) e
 exact h pins _ σ H xs _ Q I1 (by simpa using rv) hw
noncomputable def gSub (to ti:TE)(t:DJ):TG:=fun v σ H Q=>to σ H fun o H1=>ti σ H1 fun i H2=>t o i v H2 fun H3=>Q σ H3
theorem xQ {o i:Expr}{to ti:TE}{t:DJ}(ho:PE X o to)(hi:PE X i ti)(hs:EA X t)
  (ha:∀ v,assign (.Subscript o i pos) X.env v=(do
   let ov ← holding [v] (eval o X.env)
   let iv ← holding [v,ov] (eval i X.env)
   standAt pos
   holding [v,ov,iv] (setItem ov iv v)
   release [v,ov,iv] []):=by intro _;rfl):PG X (.Subscript o i pos) (gSub to ti t):=by
 intro pins s σ H v u Q I r h
 rw [ha]
 refine wpAny_bind (wpAny_holding (thn (ho pins s σ H _ I h) fun ov s1 ⟨x,H1,I1,r1,q1⟩=>?_))
 refine wpAny_bind (wpAny_holding (thn (hi pins s1 σ H1 _ I1 q1) fun iv s2 ⟨y,H2,I2,r2,q2⟩=>?_))
 refine wpAny_bind (wpAny_standAt (wpAny_bind (wpAny_holding (thn (hs pins s2 σ H2 x y v ov iv u _ I2 r1 r2 r q2) fun _ s3 ⟨H3,I3,q3⟩=>?_))))
 exact wpAny_release ⟨σ,H3,I3,q3⟩
noncomputable def tAsg (te:TE)(g:TG):TS:=fun D σ H=>te σ H fun x H1=>g x σ H1 D.nx
theorem tB {tg e:Expr}{te:TE}{g:TG}(he:PE X e te)(hg:PG X tg g)(hs:swapsWithSole [tg] e pos.line X.env=pure false:=by rfl)(hw:swappedStores [tg] e X.env=pure none:=by rfl)
  (h1:(assignEach [tg] X.env).map (·.2)=[assign tg X.env]:=by rfl):PS X (.Assign [tg] e pos) (tAsg te g):=by
 intro pins s σ H D I h
 refine wpAny_Assign_stores (thn (he pins s σ H _ I h) fun v s1 ⟨x,H1,I1,r1,q1⟩=>?_) hs hw
 rw [h1]
 exact thn (hg pins s1 σ H1 x v _ I1 r1 q1) fun _ s2 q=>q
theorem eA {i:Nat}{x:Str}{e:Expr}{te:TE}{pos':Pos}(hN:X.N.Nodup)(hi:X.N[i]?=some x)(hx:EH X.env.scope x)(he:PE X e te)(hs:swapsWith e (some (.Name x pos')) pos.line X.env=pure false:=by rfl)(hf:X.fn x=true∨X.env.scope.names.lookup x=some .local:=by first | exact .inl rfl | exact .inr rfl | assumption) :
  PS X (.Assign [.Name x pos'] e pos) (tAsg te (gName i)):=by
 intro pins s σ H D I h
 refine wpAny_Assign_Name (thn (he pins s σ H _ I h) fun v s1 ⟨y,H1,I1,r1,q1⟩=>?_) hs
 exact qG I1 hN hi hx r1 (fun s2 I2=>⟨_,H1,I2,q1⟩) hf
noncomputable def B4 (c:TT)(tb:TS):TS:=fun D σ H=>∃ W:Nat->St->Hp->Prop,(∃ m,W m σ H)/\∀ m σ H,W m σ H ->
 c σ H fun b H1=>if b=true then ∃ N:St->Hp->Prop,(∀ σ' H',N σ' H'->∃ m',m' < m/\W m' σ' H')/\tb { D with nx:=N,ct:=N,bk:=D.nx } σ H1 else D.nx σ H1
theorem xN {c:Expr}{body:List Stmt}{tc:TT}{tb:TS}(hp:PassesOwn (model X.prog X.w) X.A X.env X.xe)(hc:PT X c tc)(hb:vG X body tb):PS X (.While c body [] pos) (B4 tc tb):=by
 intro pins s σ H D I h
 obtain ⟨W,⟨m0,w0⟩,turn⟩:=h
 refine wpAny_While (codeAny_whileLoop (fun n s'=>∃ σ' H',aF X pins σ' H' s'/\W n σ' H') ?_ m0 ⟨σ,H,I,w0⟩)
 rintro n s1 ⟨σ1,H1,I1,w1⟩
 refine wpAny_passesOwn hp (thn (hc pins s1 σ1 H1 _ I1 (turn n σ1 H1 w1)) fun b s2 ⟨H2,I2,q2⟩=>?_)
 cases b with
 | true =>
  obtain ⟨N,hN,q2⟩:=q2
  rw [if_pos rfl]
  refine wpAny_passesOwn hp (thn (hb pins s2 σ1 H2 _ I2 q2) fun f s3 q3=>?_)
  cases f with
  | next =>
   obtain ⟨σ3,H3,I3,n3⟩:=q3
   obtain ⟨m',hm,w3⟩:=hN σ3 H3 n3
   exact ⟨m',hm,σ3,H3,I3,w3⟩
  | cont =>
   obtain ⟨σ3,H3,I3,n3⟩:=q3
   obtain ⟨m',hm,w3⟩:=hN σ3 H3 n3
   exact ⟨m',hm,σ3,H3,I3,w3⟩
  | brk=>exact q3
  | ret v=>exact q3
 | false =>
  rw [if_neg Bool.false_ne_true]
  exact wpAny_execs_nil ⟨σ1,H2,I2,q2⟩
end
structure It where
 go:Nat->Hp->Prop
 yld:Nat->Hp->V->Hp->Prop
 stop:Nat->Hp->Prop
noncomputable def cA (X:Cx)(pins:bK)(H:Hp)(b:Addr):Prop :=
 H b=none/\b≠X.env.locals/\b ∉ X.fs/\(b ∈ X.ex∨X.s₀.heap.objs.size<=b)/\(∀ x c,X.env.cells.lookup x=some c->c≠b)/\∀ p ∈ X.pn ++ pins,p.1≠b
theorem aF.fpOk {X:Cx}{pins:bK}{σ:St}{H H':Hp}{s:Shared}{b:Addr}(I:aF X pins σ H s)(hb:s.heap.objs.size<=b)(hn:H' b=none):cA X pins H' b:=by
 refine ⟨hn,Nat.ne_of_gt (Nat.lt_of_lt_of_le I.lt hb),I.nofs hb,.inr (Nat.le_trans I.sz hb),fun x c e z=>?_,fun p hp z=>?_⟩
 ·obtain ⟨v,q⟩:=I.cell x c e
  exact absurd (Nat.lt_of_lt_of_le q.lt (by rw [z];exact hb)) (Nat.lt_irrefl _)
 ·exact absurd (Nat.lt_of_lt_of_le (Heap.lt_size (I.pin p hp).1) (by rw [z];exact hb)) (Nat.lt_irrefl _)
structure j3 (P:Program)(w:World)(K:PySem.W.Frag)(tg:Expr)(J:It)(fp:List Addr)(it:Addr)(tn:w4):Prop where
 mem:it ∈ fp
 obj:∀ i h,tn i h->∀ b ∈ fp,∃ o,h.get? b=some o/\∀ v,o.data≠.cell v
 keep:∀ i h h',tn i h->(∀ b ∈ fp,∀ o,h.get? b=some o->h'.get? b=some o)->tn i h'
 item:∀ (X:Cx),X.prog=P->X.w=w->X.K=K->X.calm=true->∀ (i:Nat) (pins:bK) (s:Shared) (σ:St) (H:Hp) (E:bA),aF X pins σ H s->(∀ b ∈ fp,cA X pins H b)->tn i s.heap->J.go i H ->
  wpAny (model P w) X.A (pyNext (.ref it)) (fun r s1=>∃ u,r=some u /\
   wpAny (model P w) X.A (letOwnedTupleGo tg (.ref it) u) (fun _ s2=>∃ x H',aF X pins σ H' s2/\aL x u/\J.yld i H x H'/\tn (i + 1) s2.heap/\∀ b ∈ fp,H' b=none) E s1) E s
 done:∀ (X:Cx),X.prog=P->X.w=w->X.K=K->X.calm=true->∀ (i:Nat) (pins:bK) (s:Shared) (σ:St) (H:Hp) (E:bA),aF X pins σ H s->(∀ b ∈ fp,cA X pins H b)->tn i s.heap->J.stop i H ->
  wpAny (model P w) X.A (pyNext (.ref it)) (fun r s1=>r=none/\aF X pins σ H s1) E s
 self:∀ (A:Around) (i:Nat) (s:Shared) (Q:bA) (E:bA),tn i s.heap->Q (.ref it) s->wpAny (model P w) A (pyIter (.ref it)) Q E s
noncomputable abbrev TI:=St->Hp->(It->Hp->Prop)->Prop
noncomputable def EZ (X:Cx)(pins:bK)(σ:St)(tg:Expr)(R:It->Hp->Prop)(itv:Value)(s2:Shared):Prop :=
 ∃ (it:Addr) (fp:List Addr) (tn:w4) (J:It) (H':Hp),itv = .ref it/\aF X pins σ H' s2/\j3 X.prog X.w X.K tg J fp it tn/\tn 0 s2.heap/\(∀ b ∈ fp,cA X pins H' b)/\R J H'
noncomputable def PI (X:Cx)(tg iter:Expr)(wi:TI):Prop :=
 ∀ (pins:bK) (s:Shared) (σ:St) (H:Hp) (R:It->Hp->Prop),aF X pins σ H s->wi σ H R ->
  wpAny (model X.prog X.w) X.A (eval iter X.env) (fun v s1=>wpAny (model X.prog X.w) X.A (pyIter v) (EZ X pins σ tg R) X.xe s1) X.xe s
theorem yS {M:Model}{A:Around}{E:bA}{s:Shared}{tg:Expr}{it:Addr}{u:Value}{o:Obj}{n:String}{vs:d8}{Q:Unit->Shared->Prop}(ho:s.heap.get? it=some o)(hc:o.cls = .type n)(hd:o.data = .fields vs)
  (hn:["enumerate","zip","dict_itemiterator","dict_reverseitemiterator","odict_iterator","itertools.zip_longest","itertools.pairwise"].contains n=false) (hQ:Q () s):wpAny M A (letOwnedTupleGo tg (.ref it) u) Q E s:=by
 unfold letOwnedTupleGo
 cases tg <;> first
  | exact wpAny_pure hQ
  | (cases u <;> first
    | exact wpAny_pure hQ
    | (refine wpAny_bind (wpAny_load ho ?_);rw [hc,hd];show wpAny M A (if (["enumerate","zip","dict_itemiterator","dict_reverseitemiterator","odict_iterator","itertools.zip_longest","itertools.pairwise"].contains n && vs[0]? == some (rawInt _))=true then _ else _) Q E s;rw [if_neg (by intro h;rw [hn,Bool.false_and] at h;cases h)];exact wpAny_pure hQ))
noncomputable def BV (K:PySem.W.Frag)(a:Addr):It :=
 ⟨fun i H=>∃ xs x,cY K H a xs/\xs[i]?=some x,fun i H x H'=>H'=H/\∀ xs,cY K H a xs->xs[i]?=some x,fun i H=>∃ xs,cY K H a xs/\xs.length<=i⟩
noncomputable def BU (K:PySem.W.Frag)(a:Addr):It :=
 ⟨fun i H=>∃ xs x,d7 K H a xs/\xs[i]?=some x,fun i H x H'=>H'=H/\∀ xs,d7 K H a xs->xs[i]?=some x,fun i H=>∃ xs,d7 K H a xs/\xs.length<=i⟩
noncomputable def ED (lo:Int)(n:Nat):It:=⟨fun i _=>i < n,fun i H x H'=>H'=H/\x = .int (lo + i),fun i _=>n<=i⟩
theorem vN {P:Program}{w:World}{K:PySem.W.Frag}{tg:Expr}(a it:Addr):j3 P w K tg (BV K a) [it] it (fun i h=>h.IsListIter it a i) where
 mem:=by simp
 obj:=fun i h st b hb=>by
  have e:b=it:=by simpa using hb
  subst e
  obtain ⟨o,e,c,d⟩:=st
  exact ⟨o,e,fun v z=>by rw [d] at z;cases z⟩
 keep:=fun i h h' st k=>st.at fun o e=>k it (by simp) o e
 item:=by
  intro X hP hw hK hc i pins s σ H E I hf st hg
  subst hP hw hK
  obtain ⟨xs,x,hq,hx⟩:=hg
  obtain ⟨its,rv,p,hz⟩:=I.list hq
  obtain ⟨u,hu,ru⟩:=rv.get hx
  obtain ⟨f0,f1,f2,f3,f4,f5⟩:=hf it (by simp)
  refine wpAny_pyNext_list_item st p.isList (x:=u) (by simpa using hu) fun h' st' sb=>?_
  have I1:aF X pins σ H { s with heap:=h' }:=I.turned (t':=s.toks) (fun b o hb e=>(sb.2 b hb).trans e) f0 f1 f3 f4 f5
  obtain ⟨o,e,c,d⟩:=id st'
  exact ⟨u,rfl,yS (s:={ s with heap:=h' }) e c d (by decide) ⟨x,H,I1,ru,⟨rfl,fun ys hy=>by rw [I.list_inj hy hq];exact hx⟩,st',fun b hb=>(hf b hb).1⟩⟩
 done:=by
  intro X hP hw hK hc i pins s σ H E I hf st hg
  subst hP hw hK
  obtain ⟨xs,hq,hx⟩:=hg
  obtain ⟨its,rv,p,hz⟩:=I.list hq
  obtain ⟨f0,f1,f2,f3,f4,f5⟩:=hf it (by simp)
  have hl:=rv.length
  exact wpAny_pyNext_list_end (I.ok.hd hc) st p.isList (by simp;omega) fun h' eb=>⟨rfl,I.turned (t':=s.toks) (fun b o hb e=>eb b o hb e) f0 f1 f3 f4 f5⟩
 self:=fun _ _ _ _ _ st h=>wpAny_pyIter_listiter st h
theorem sM {P:Program}{w:World}{K:PySem.W.Frag}{tg:Expr}(a it:Addr):j3 P w K tg (BU K a) [it] it (fun i h=>h.IsTupleIter it a i) where
 mem:=by simp
 obj:=fun i h st b hb=>by
  have e:b=it:=by simpa using hb
  subst e
  obtain ⟨o,e,c,d⟩:=st
  exact ⟨o,e,fun v z=>by rw [d] at z;cases z⟩
 keep:=fun i h h' st k=>st.at fun o e=>k it (by simp) o e
 item:=by
  intro X hP hw hK hc i pins s σ H E I hf st hg
  subst hP hw hK
  obtain ⟨xs,x,hq,hx⟩:=hg
  obtain ⟨its,rv,p,hz⟩:=I.tuple hq
  obtain ⟨u,hu,ru⟩:=rv.get hx
  obtain ⟨f0,f1,f2,f3,f4,f5⟩:=hf it (by simp)
  refine wpAny_pyNext_tuple_item st (show s.heap.IsTuple a its.toArray from p) (x:=u) (by simpa using hu) fun h' st' sb=>?_
  have I1:aF X pins σ H { s with heap:=h' }:=I.turned (t':=s.toks) (fun b o hb e=>(sb.2 b hb).trans e) f0 f1 f3 f4 f5
  obtain ⟨o,e,c,d⟩:=id st'
  exact ⟨u,rfl,yS (s:={ s with heap:=h' }) e c d (by decide) ⟨x,H,I1,ru,⟨rfl,fun ys hy=>by rw [I.tuple_inj hy hq];exact hx⟩,st',fun b hb=>(hf b hb).1⟩⟩
 done:=by
  intro X hP hw hK hc i pins s σ H E I hf st hg
  subst hP hw hK
  obtain ⟨xs,hq,hx⟩:=hg
  obtain ⟨its,rv,p,hz⟩:=I.tuple hq
  obtain ⟨f0,f1,f2,f3,f4,f5⟩:=hf it (by simp)
  have hl:=rv.length
  exact wpAny_pyNext_tuple_end (I.ok.hd hc) st (show s.heap.IsTuple a its.toArray from p) (by simp;omega) fun h' eb=>⟨rfl,I.turned (t':=s.toks) (fun b o hb e=>eb b o hb e) f0 f1 f3 f4 f5⟩
 self:=fun _ _ _ _ _ st h=>wpAny_pyIter_tupleiter st h
theorem sN {P:Program}{w:World}{K:PySem.W.Frag}{tg:Expr}(it:Addr)(lo:Int)(n:Nat):j3 P w K tg (ED lo n) [it] it (fun i h=>IsRangeIter h it (lo + (i:Nat) * 1) ((n:Int) - (i:Nat)) 1) where
 mem:=by simp
 obj:=fun i h st b hb=>by
  have e:b=it:=by simpa using hb
  subst e
  exact ⟨_,st,fun v z=>by
   have z':Data.fields _=Data.cell v:=z
   cases z'⟩
 keep:=fun i h h' st k=>k it (by simp) _ st
 item:=by
  intro X hP hw hK hc i pins s σ H E I hf st hg
  subst hP hw hK
  obtain ⟨f0,f1,f2,f3,f4,f5⟩:=hf it (by simp)
  have W:=Walks.range (prog:=X.prog) (w:=X.w) (I.ok.hd hc) it lo 1 n
  refine W.item i s _ _ hg st fun v h' tk hv st' kk=>?_
  obtain ⟨t,rfl⟩:=hv
  have I1:aF X pins σ H { s with heap:=h',toks:=tk }:=I.turned (fun b o hb e=>kk b o (by simpa using hb) e) f0 f1 f3 f4 f5
  refine ⟨_,rfl,yS (s:={ s with heap:=h',toks:=tk }) (n:="range_iterator") st' rfl rfl (by decide) ⟨.int (lo + i),H,I1,⟨t,?_⟩,⟨rfl,rfl⟩,st',fun b hb=>(hf b hb).1⟩⟩
  rw [Int.mul_one]
 done:=by
  intro X hP hw hK hc i pins s σ H E I hf st hg
  subst hP hw hK
  obtain ⟨f0,f1,f2,f3,f4,f5⟩:=hf it (by simp)
  exact wpAny_pyNext_range_end (I.ok.hd hc) st (by have:n<=i:=hg;omega) fun h' eb=>⟨rfl,I.turned (t':=s.toks) (fun b o hb e=>eb b o hb e) f0 f1 f3 f4 f5⟩
 self:=fun _ _ _ _ _ st h=>wpAny_pyIter_rangeiter st h
section
variable {X:Cx}{tg:Expr}
theorem xH {pins:bK}{σ:St}{H:Hp}{s:Shared}{R:It->Hp->Prop}{E:bA}{lo hi:Int}{t u v:Tok}{tk:Nat}(I:aF X pins σ H s)(h1 : -(2 ^ 62)<=lo)(h2:lo < 2 ^ 62)(h3 : -(2 ^ 62)<=hi)(h4:hi < 2 ^ 62)
  (q:R (ED lo (hi - lo).toNat) H):wpAny (model X.prog X.w) X.A (pyIter (.ref s.heap.objs.size)) (EZ X pins σ tg R) E { s with heap:=s.heap.push { cls:=.type "range",data:=.fields #[.int lo t,.int hi u,.int 1 v] },toks:=tk }:=by
 refine wpAny_pyIter_range (IsRange.new ..) (small_one h1 h2 h3 h4) ?_
 have I1:aF X pins σ H { s with heap:=s.heap.push { cls:=.type "range",data:=.fields #[.int lo t,.int hi u,.int 1 v] },toks:=tk }:=I.kept fun b o e=>Heap.get?_push_of_some _ e
 refine ⟨(s.heap.push { cls:=.type "range",data:=.fields #[.int lo t,.int hi u,.int 1 v] }).objs.size,[(s.heap.push { cls:=.type "range",data:=.fields #[.int lo t,.int hi u,.int 1 v] }).objs.size],_,_,H,rfl,
  I1.kept (t':=tk) fun b o e=>Heap.get?_push_of_some _ e,sN _ lo (hi - lo).toNat,?_,fun b hb=>?_,q⟩
 ·have e1:lo + ((0:Nat):Int) * 1=lo:=by simp
  have e2:(((hi - lo).toNat:Nat):Int) - ((0:Nat):Int)=Builtin.Range.rangeSize lo hi 1:=by rw [rangeSize_one];split <;> omega
  show IsRangeIter _ _ (lo + ((0:Nat):Int) * 1) ((((hi - lo).toNat:Nat):Int) - ((0:Nat):Int)) 1
  rw [e1,e2]
  exact Heap.get?_push_size _ rfl
 ·have e:b=(s.heap.push { cls:=.type "range",data:=.fields #[.int lo t,.int hi u,.int 1 v] }).objs.size:=by simpa using hb
  subst e
  exact I1.fpOk (Nat.le_refl _) (I1.hok.fresh (Nat.le_refl _))
noncomputable def iRng1 (ta:TA):TI:=fun σ H R=>ta σ H fun vs H1=>∃ j:Int,vs=[.int j]/\-(2 ^ 62)<=j/\j < 2 ^ 62/\R (ED 0 j.toNat) H1
noncomputable def iRng2 (ta:TA):TI:=fun σ H R=>ta σ H fun vs H1=>∃ i j:Int,vs=[.int i,.int j]/\(-(2 ^ 62)<=i/\i < 2 ^ 62/\-(2 ^ 62)<=j/\j < 2 ^ 62)/\R (ED i (j - i).toNat) H1
theorem jK {a:Expr}{ta:TA}{p pos:Pos}(hg:Gl X "range")(hm:X.mg "range" = none)(ha:PA X [a] ta)(hs:starEach [a] X.env=[(false,eval a X.env)]:=by rfl):PI X tg (.Call (.Name "range" p) [a] [] pos) (iRng1 ta):=by
 intro pins s σ H R I h
 refine Call_ (iG I hg hm boot_range (PyProof.Rows.callWith_type1 (thn (ha pos pins s σ H _ I h) fun us s1 ⟨vs,H1,I1,r1,q1⟩=>?_) hs rfl))
 obtain ⟨j,e,q1,q2,q⟩:=q1
 subst e
 cases r1 with
 | cons r rr =>
  cases rr
  obtain ⟨t,rfl⟩:=r
  exact call_range_1 (xH I1 (by omega) (by omega) q1 q2 (by simpa using q))
noncomputable def tFor (wi:TI)(g:TG)(tb:TS):TS:=fun D σ H=>wi σ H fun J H1=>∃ W:Nat->Nat->St->Hp->Prop,(∃ m,W 0 m σ H1)/\∀ i m σ H,W i m σ H ->
 (J.stop i H/\D.nx σ H)∨(J.go i H/\∃ N:St->Hp->Prop,(∀ σ' H',N σ' H'->∃ m',m' < m/\W (i + 1) m' σ' H')/\∀ x H',J.yld i H x H'->g x σ H' fun σ2 H2=>tb { D with nx:=N,ct:=N,bk:=D.nx } σ2 H2)
noncomputable def lI (fp:List Addr)(h:Heap):bK:=fp.filterMap fun b=>(h.get? b).map fun o=>(b,o)
theorem iF {fp:List Addr}{h:Heap}{b:Addr}{o:Obj}(hb:b ∈ fp)(e:h.get? b=some o):(b,o) ∈ lI fp h:=List.mem_filterMap.mpr ⟨b,hb,by rw [e];rfl⟩
theorem nN {fp:List Addr}{h:Heap}{p:Addr×Obj}(hp:p ∈ lI fp h):p.1 ∈ fp/\h.get? p.1=some p.2:=by
 obtain ⟨b,hb,e⟩:=List.mem_filterMap.mp hp
 cases q:h.get? b with
 | none=>rw [q] at e;cases e
 | some o =>
  rw [q] at e
  have e':(b,o)=p:=Option.some.inj e
  subst e'
  exact ⟨hb,q⟩
theorem aF.pinned {pins:bK}{σ:St}{H:Hp}{s:Shared}{fp:List Addr}(I:aF X pins σ H s)(hf:∀ b ∈ fp,cA X pins H b)(ho:∀ b ∈ fp,∃ o,s.heap.get? b=some o/\∀ v,o.data≠.cell v):aF X (pins ++ lI fp s.heap) σ H s :=
 I.pins_of fun p hp=>(List.mem_append.mp hp).elim (fun z=>I.pin p (List.mem_append_right _ z)) fun z=>by
  obtain ⟨hb,e⟩:=nN z
  obtain ⟨f0,f1,f2,_⟩:=hf p.1 hb
  obtain ⟨o,e',d⟩:=ho p.1 hb
  rw [e] at e';cases e'
  exact ⟨e,f0,f1,f2,d⟩
theorem aF.unpinned {pins pl:bK}{σ:St}{H:Hp}{s:Shared}(I:aF X (pins ++ pl) σ H s):aF X pins σ H s:=I.pins_of fun p hp=>I.pin p (List.mem_append_right _ (List.mem_append_left _ hp))
theorem iC {iter:Expr}{body:List Stmt}{wi:TI}{g:TG}{tb:TS}{pos:Pos}(hp:PassesOwn (model X.prog X.w) X.A X.env X.xe)(hc:X.calm=true)(hi:PI X tg iter wi)(hg:PG X tg g)(hb:vG X body tb)
  (hs:∀ x,foldedSetIterable iter X.env x=pure x:=by intro _;rfl):PS X (.For tg iter body [] pos) (tFor wi g tb):=by
 intro pins s σ H D I h
 refine wpAny_For (thn (hi pins s σ H _ I h) fun v s1 h1=>thn h1 fun itv s2 h2=>?_) hs
 obtain ⟨it,fp,tn,J,H2,e,I2,T,st2,f2,W,⟨m0,w0⟩,turn⟩:=h2
 subst e
 -- what stays true of the iterator's objects through the loop
 have stat:∀ {H':Hp},(∀ b ∈ fp,H' b=none)->∀ b ∈ fp,cA X pins H' b:=fun hn b hb=>⟨hn b hb,(f2 b hb).2⟩
 refine codeAny_forLoop_any (fun n s'=>∃ i σ' H',aF X pins σ' H' s'/\tn i s'.heap/\(∀ b ∈ fp,H' b=none)/\W i n σ' H') ?_ m0 ⟨0,σ,H2,I2,st2,fun b hb=>(f2 b hb).1,w0⟩
 rintro n s3 ⟨i,σ3,H3,I3,st3,fr3,w3⟩
 rcases turn i n σ3 H3 w3 with ⟨stop,qn⟩ | ⟨go,N,hN,step⟩
 ·refine wpAny_passesOwn hp (thn (T.done X rfl rfl rfl hc i pins s3 σ3 H3 X.xe I3 (stat fr3) st3 stop) fun r s4 ⟨hr,I4⟩=>?_)
  subst hr
  exact wpAny_execs_nil ⟨σ3,H3,I4,qn⟩
 ·refine wpAny_passesOwn hp (thn (T.item X rfl rfl rfl hc i pins s3 σ3 H3 X.xe I3 (stat fr3) st3 go) fun r s4 ⟨u,hr,h4⟩=>?_)
  subst hr
  refine wpAny_passesOwn hp (thn h4 fun _ s5 ⟨x,H5,I5,r5,y5,st5,fr5⟩=>?_)
  have I5':=I5.pinned (stat fr5) (T.obj _ _ st5)
  refine wpAny_passesOwn hp (thn (hg _ s5 σ3 H5 x u _ I5' r5 (step x H5 y5)) fun _ s6 ⟨σ6,H6,I6,q6⟩=>?_)
  refine wpAny_passesOwn hp (thn (hb _ s6 σ6 H6 _ I6 q6) fun f s7 q7=>?_)
  have again:∀ {σ7:St} {H7:Hp},aF X (pins ++ lI fp s5.heap) σ7 H7 s7->N σ7 H7->∃ m,m < n/\∃ i σ' H',aF X pins σ' H' s7/\tn i s7.heap/\(∀ b ∈ fp,H' b=none)/\W i m σ' H':=fun {σ7 H7} I7 n7=>by
   obtain ⟨m',hm,w7⟩:=hN σ7 H7 n7
   refine ⟨m',hm,i + 1,σ7,H7,I7.unpinned,T.keep _ _ _ st5 fun b hb o e=>(I7.pin (b,o) (List.mem_append_right _ (List.mem_append_right _ (iF hb e)))).1,fun b hb=>?_,w7⟩
   obtain ⟨o,e,d⟩:=T.obj _ _ st5 b hb
   exact (I7.pin (b,o) (List.mem_append_right _ (List.mem_append_right _ (iF hb e)))).2.1
  cases f with
  | next=>obtain ⟨σ7,H7,I7,n7⟩:=q7;exact again I7 n7
  | cont=>obtain ⟨σ7,H7,I7,n7⟩:=q7;exact again I7 n7
  | brk=>obtain ⟨σ7,H7,I7,q7⟩:=q7;exact ⟨σ7,H7,I7.unpinned,q7⟩
  | ret v=>obtain ⟨x7,σ7,H7,I7,r7,q7⟩:=q7;exact ⟨x7,σ7,H7,I7.unpinned,r7,q7⟩
end
theorem yU {K:PySem.W.Frag}{a:Addr}{xs:List V}{g:TG}{tb:TS}{D:hI}{σ:St}{H:Hp}(Pv:Nat->St->Hp->Prop)(h0:Pv 0 σ H)(hl:∀ i σ H,i<=xs.length->Pv i σ H->cY K H a xs)
  (hs:∀ i x σ H,xs[i]?=some x->Pv i σ H->g x σ H fun σ2 H2=>tb { D with nx:=Pv (i + 1),ct:=Pv (i + 1),bk:=D.nx } σ2 H2) (hd:∀ σ H,Pv xs.length σ H->D.nx σ H) :
  ∃ W:Nat->Nat->St->Hp->Prop,(∃ m,W 0 m σ H)/\∀ i m σ H,W i m σ H ->
   ((BV K a).stop i H/\D.nx σ H)∨((BV K a).go i H/\∃ N:St->Hp->Prop,(∀ σ' H',N σ' H'->∃ m',m' < m/\W (i + 1) m' σ' H')/\∀ x H',(BV K a).yld i H x H'->g x σ H' fun σ2 H2=>tb { D with nx:=N,ct:=N,bk:=D.nx } σ2 H2):=by
 refine ⟨fun i m σ H=>m=xs.length - i/\i<=xs.length/\Pv i σ H,⟨xs.length,by simp,Nat.zero_le _,h0⟩,?_⟩
 rintro i m σ H ⟨rfl,hi,p⟩
 have q:=hl i σ H hi p
 by_cases hlt:i < xs.length
 ·refine .inr ⟨⟨xs,xs[i],q,by simp [hlt]⟩,Pv (i + 1),fun σ' H' p'=>⟨xs.length - (i + 1),by omega,rfl,hlt,p'⟩,fun x H' y=>?_⟩
  obtain ⟨e,y⟩:=y
  subst e
  exact hs i x σ _ (y xs q) p
 ·have e:i=xs.length:=by omega
  subst e
  exact .inl ⟨⟨xs,q,Nat.le_refl _⟩,hd σ H p⟩
theorem A7 {K:PySem.W.Frag}{a:Addr}{xs:List V}{g:TG}{tb:TS}{D:hI}{σ:St}{H:Hp}(Pv:Nat->St->Hp->Prop)(h0:Pv 0 σ H)(hl:∀ i σ H,i<=xs.length->Pv i σ H->d7 K H a xs)
  (hs:∀ i x σ H,xs[i]?=some x->Pv i σ H->g x σ H fun σ2 H2=>tb { D with nx:=Pv (i + 1),ct:=Pv (i + 1),bk:=D.nx } σ2 H2) (hd:∀ σ H,Pv xs.length σ H->D.nx σ H) :
  ∃ W:Nat->Nat->St->Hp->Prop,(∃ m,W 0 m σ H)/\∀ i m σ H,W i m σ H ->
   ((BU K a).stop i H/\D.nx σ H)∨((BU K a).go i H/\∃ N:St->Hp->Prop,(∀ σ' H',N σ' H'->∃ m',m' < m/\W (i + 1) m' σ' H')/\∀ x H',(BU K a).yld i H x H'->g x σ H' fun σ2 H2=>tb { D with nx:=N,ct:=N,bk:=D.nx } σ2 H2):=by
 refine ⟨fun i m σ H=>m=xs.length - i/\i<=xs.length/\Pv i σ H,⟨xs.length,by simp,Nat.zero_le _,h0⟩,?_⟩
 rintro i m σ H ⟨rfl,hi,p⟩
 have q:=hl i σ H hi p
 by_cases hlt:i < xs.length
 ·refine .inr ⟨⟨xs,xs[i],q,by simp [hlt]⟩,Pv (i + 1),fun σ' H' p'=>⟨xs.length - (i + 1),by omega,rfl,hlt,p'⟩,fun x H' y=>?_⟩
  obtain ⟨e,y⟩:=y
  subst e
  exact hs i x σ _ (y xs q) p
 ·have e:i=xs.length:=by omega
  subst e
  exact .inl ⟨⟨xs,q,Nat.le_refl _⟩,hd σ H p⟩
noncomputable abbrev R2:=V->V->Hp->VK->Prop
noncomputable def fJ (X:Cx)(f:Value->Value->Sem Value)(r:R2):Prop :=
 ∀ (pins:bK) (s:Shared) (σ:St) (H:Hp) (x y:V) (v u:Value) (Q:VK),aF X pins σ H s->aL x v->aL y u->r x y H Q ->
  wpAny (model X.prog X.w) X.A (f v u) (EP X pins σ Q) X.xe s
noncomputable def EN (X:Cx)(f:Value->Sem Value)(r:V->Hp->VK->Prop):Prop :=
 ∀ (pins:bK) (s:Shared) (σ:St) (H:Hp) (x:V) (v:Value) (Q:VK),aF X pins σ H s->aL x v->r x H Q ->
  wpAny (model X.prog X.w) X.A (f v) (EP X pins σ Q) X.xe s
noncomputable def bI (X:Cx)(f:Value)(r:List V->Hp->VK->Prop):Prop :=
 ∀ (pins:bK) (s:Shared) (σ:St) (H:Hp) (xs:List V) (us:bJ) (Q:VK),aF X pins σ H s->aK xs us->r xs H Q ->
  wpAny (model X.prog X.w) X.A (call f us) (EP X pins σ Q) X.xe s
noncomputable def EO (X:Cx)(r:V->Hp->(Bool->Hp->Prop)->Prop):Prop :=
 ∀ (pins:bK) (s:Shared) (σ:St) (H:Hp) (x:V) (v:Value) (Q:Bool->Hp->Prop),aF X pins σ H s->aL x v->r x H Q ->
  wpAny (model X.prog X.w) X.A (truthy v) (TP X pins σ Q) X.xe s
noncomputable def tOp (r:R2)(ta tb:TE):TE:=fun σ H Q=>ta σ H fun x H1=>tb σ H1 fun y H2=>r x y H2 Q
noncomputable def tUn (r:V->Hp->VK->Prop)(ta:TE):TE:=fun σ H Q=>ta σ H fun x H1=>r x H1 Q
noncomputable def rI (C:Int->Int->Prop)(g:Int->Int->V):R2:=fun x y H Q=>∃ i j,x = .int i/\y = .int j/\C i j/\Q (g i j) H
noncomputable def rI0 (g:Int->Int->V):R2:=fun x y H Q=>∃ i j,x = .int i/\y = .int j/\Q (g i j) H
noncomputable def rU (g:Int->V):V->Hp->VK->Prop:=fun x H Q=>∃ i,x = .int i/\Q (g i) H
section
variable {X:Cx}{a b c:Expr}{ta tb tc:TE}{pos:Pos}
theorem binT (ha:PE X a ta)(hb:PE X b tb){pins:bK}{s:Shared}{σ:St}{H:Hp}{R:V->V->Hp->Prop}(I:aF X pins σ H s)
  (h:ta σ H fun x H1=>tb σ H1 fun y H2=>R x y H2) {Q:bA} {f:Value->Value->Sem Value}
  (hf:∀ v u s2 x y H2,aF X pins σ H2 s2->aL x v->aL y u->R x y H2->wpAny (model X.prog X.w) X.A (f v u) Q X.xe s2) :
  wpAny (model X.prog X.w) X.A (eval a X.env) (fun v s₁=>wpAny (model X.prog X.w) X.A (eval b X.env) (fun u s₂=>wpAny (model X.prog X.w) X.A (f v u) Q X.xe s₂) X.xe s₁) X.xe s:=by
 refine thn (ha pins s σ H _ I h) fun v s1 ⟨x,H1,I1,r1,q1⟩=>?_
 refine thn (hb pins s1 σ H1 _ I1 q1) fun u s2 ⟨y,H2,I2,r2,q2⟩=>?_
 exact hf v u s2 x y H2 I2 r1 r2 q2
theorem aT {op:Operator}{r:R2}(ho:fJ X (binaryOp op) r)(ha:PE X a ta)(hb:PE X b tb):PE X (.BinOp a op b pos) (tOp r ta tb):=by
 intro pins s σ H Q I h
 exact wpAny_BinOp (binT ha hb I h fun v u s2 x y H2 I2 rx ry q=>ho pins s2 σ H2 x y v u Q I2 rx ry q)
theorem DR {op:UnaryOp}{r:V->Hp->VK->Prop}(ho:EN X (unaryOp op) r)(ha:PE X a ta):PE X (.UnaryOp op a pos) (tUn r ta):=by
 intro pins s σ H Q I h
 exact UnaryOp_ (thn (ha pins s σ H _ I h) fun v s1 ⟨x,H1,I1,r1,q1⟩=>ho pins s1 σ H1 x v Q I1 r1 q1)
theorem opI {f:Value->Value->Sem Value}{C:Int->Int->Prop}{g:Int->Int->Int}
  (rule:∀ (i j:Int) (t u:Tok) (s:Shared) (Q:bA) (E:bA),C i j->Q (.int (g i j) s.toks) { s with toks:=s.toks + 1 }->wpAny (model X.prog X.w) X.A (f (.int i t) (.int j u)) Q E s) :
  fJ X f (rI C fun i j=>.int (g i j)):=by
 intro pins s σ H x y v u Q I rx ry h
 obtain ⟨i,j,rfl,rfl,hc,q⟩:=h
 obtain ⟨t,rfl⟩:=rx
 obtain ⟨t',rfl⟩:=ry
 exact rule i j t t' s _ _ hc ⟨.int (g i j),H,I.tok _,⟨_,rfl⟩,q⟩
theorem opI0 {f:Value->Value->Sem Value}{g:Int->Int->Int}
  (rule:∀ (i j:Int) (t u:Tok) (s:Shared) (Q:bA) (E:bA),Q (.int (g i j) s.toks) { s with toks:=s.toks + 1 }->wpAny (model X.prog X.w) X.A (f (.int i t) (.int j u)) Q E s) :
  fJ X f (rI0 fun i j=>.int (g i j)):=by
 intro pins s σ H x y v u Q I rx ry h
 obtain ⟨i,j,rfl,rfl,q⟩:=h
 obtain ⟨t,rfl⟩:=rx
 obtain ⟨t',rfl⟩:=ry
 exact rule i j t t' s _ _ ⟨.int (g i j),H,I.tok _,⟨_,rfl⟩,q⟩
theorem opB0 {f:Value->Value->Sem Value}{g:Int->Int->Bool}
  (rule:∀ (i j:Int) (t u:Tok) (s:Shared) (Q:bA) (E:bA),Q (.bool (g i j)) s->wpAny (model X.prog X.w) X.A (f (.int i t) (.int j u)) Q E s) :
  fJ X f (rI0 fun i j=>.bl (g i j)):=by
 intro pins s σ H x y v u Q I rx ry h
 obtain ⟨i,j,rfl,rfl,q⟩:=h
 obtain ⟨t,rfl⟩:=rx
 obtain ⟨t',rfl⟩:=ry
 exact rule i j t t' s _ _ ⟨.bl (g i j),H,I,rfl,q⟩
noncomputable def EW (i j:Int):Prop:=0 < j/\j < 1073741824
noncomputable def EF (i j:Int):Prop:=0<=j/\j<=1000000/\i.natAbs < 2 ^ 64
noncomputable def wZ (i j:Int):Prop:=(-(2 ^ 64) < i/\i < 2 ^ 64)∨(-(2 ^ 64) < j/\j < 2 ^ 64)
theorem wZ.ok {i j:Int}(h:wZ i j):IntMulOk i j:=by
 rcases h with ⟨h1,h2⟩ | ⟨h1,h2⟩
 ·exact .of_left (intBits_le_64 h1 h2)
 ·exact .of_right (intBits_le_64 h1 h2)
theorem CO:fJ X (binaryOp .Add) (rI0 fun i j=>.int (i + j)):=opI0 fun _ _ _ _ _ _ _ q=>add_int q
theorem lK:fJ X (binaryOp .Sub) (rI0 fun i j=>.int (i - j)):=opI0 fun _ _ _ _ _ _ _ q=>sub_int q
theorem iE:fJ X (binaryOp .Mult) (rI wZ fun i j=>.int (i * j)):=opI fun _ _ _ _ _ _ _ hc q=>mul_int q hc.ok
theorem uJ:fJ X (binaryOp .FloorDiv) (rI EW fun i j=>.int (i / j)):=opI fun i j _ _ _ _ _ hc q=>by
 have h1:(0:Int) < j:=hc.1
 have h2:j < 1073741824:=hc.2
 exact floordiv_int (by omega) (by rw [Int.fdiv_eq_ediv_of_nonneg i (by omega)];exact q) (.inl (PyProof.noPylong_small (by omega)))
theorem jN:fJ X (binaryOp .Mod) (rI (fun _ j=>0 < j) fun i j=>.int (i % j)):=opI fun i j _ _ _ _ _ hc q=>by
 have h1:(0:Int) < j:=hc
 exact mod_int' (by omega) (by rw [Int.fmod_eq_emod_of_nonneg i (by omega)];exact q)
theorem CL:fJ X (binaryOp .Pow) (rI EF fun i j=>.int (i ^ j.toNat)):=opI fun _ _ _ _ _ _ _ hc q=>pow_int_small hc.1 hc.2.1 hc.2.2 q
theorem unI {f:Value->Sem Value}{g:Int->Int}
  (rule:∀ (i:Int) (t:Tok) (s:Shared) (Q:bA) (E:bA),Q (.int (g i) s.toks) { s with toks:=s.toks + 1 }->wpAny (model X.prog X.w) X.A (f (.int i t)) Q E s) :
  EN X f (rU fun i=>.int (g i)):=by
 intro pins s σ H x v Q I rx h
 obtain ⟨i,rfl,q⟩:=h
 obtain ⟨t,rfl⟩:=rx
 exact rule i t s _ _ ⟨.int (g i),H,I.tok _,⟨_,rfl⟩,q⟩
theorem BX:EN X (unaryOp .USub) (rU fun i=>.int (-i)):=unI fun _ _ _ _ _ q=>neg_int q
theorem DD {pins:bK}{σ:St}{H:Hp}{s:Shared}{Q:VK}{k k':Bool}(I:aF X pins σ H s)(q:Q (.bl k) H)(e:k=k'):EP X pins σ Q (.bool k') s:=by
 subst e
 exact ⟨.bl k,H,I,rfl,q⟩
theorem DT:fJ X (compareOp .Lt) (rI0 fun i j=>.bl (decide (i < j))):=opB0 fun _ _ _ _ _ _ _ q=>lt_int q
theorem nM:fJ X (compareOp .LtE) (rI0 fun i j=>.bl (decide (i<=j))):=opB0 fun _ _ _ _ _ _ _ q=>le_int q
theorem xX:fJ X (compareOp .Gt) (rI0 fun i j=>.bl (decide (j < i))):=opB0 fun _ _ _ _ _ _ _ q=>gt_int q
theorem vX:fJ X (compareOp .Lt) (fun x y H Q=>∃ i j,x = .str i/\y = .str j/\Q (.bl (decide (i.cps.toList < j.cps.toList))) H):=by
 intro pins s σ H x y v u Q I rx ry h
 obtain ⟨i,j,rfl,rfl,q⟩:=h
 obtain ⟨t,rfl⟩:=rx
 obtain ⟨t',rfl⟩:=ry
 exact lt_str (DD I q rfl)
theorem fJ.or {f:Value->Value->Sem Value}{r r':R2}(h:fJ X f r)(h':fJ X f r'):fJ X f (fun x y H Q=>r x y H Q∨r' x y H Q):=by
 intro pins s σ H x y v u Q I rx ry q
 rcases q with q | q
 ·exact h pins s σ H x y v u Q I rx ry q
 ·exact h' pins s σ H x y v u Q I rx ry q
theorem nomark (b:Expr){op:CmpOp}(h:op≠.In:=by decide)(h2:op≠.NotIn:=by decide):behindInMarks op b=false:=by
 have e1:(op == CmpOp.In)=false:=by cases op <;> first | rfl | exact absurd rfl h
 have e2:(op == CmpOp.NotIn)=false:=by cases op <;> first | rfl | exact absurd rfl h2
 cases b <;> simp [behindInMarks,e1,e2]
theorem kT {op:CmpOp}{r:R2}(ho:fJ X (compareOp op) r)(ha:PE X a ta)(hb:PE X b tb)(hm:behindInMarks op b=false):PE X (.Compare a [op] [b] pos) (tOp r ta tb):=by
 intro pins s σ H Q I h
 exact wpAny_Compare1 (binT ha hb I h fun v u s2 x y H2 I2 rx ry q=>ho pins s2 σ H2 x y v u Q I2 rx ry q) hm
noncomputable def tTest (t:TE):TT:=fun σ H Q=>t σ H fun x H'=>∃ k,x = .bl k/\Q k H'
theorem gM {op:CmpOp}{r:R2}(ho:fJ X (compareOp op) r)(ha:PE X a ta)(hb:PE X b tb)(hm:behindInMarks op b=false):PT X (.Compare a [op] [b] pos) (tTest (tOp r ta tb)):=by
 intro pins s σ H Q I h
 refine wpAny_isTrue_Compare1 (thn (ha pins s σ H _ I h) fun v s1 ⟨x,H1,I1,r1,q1⟩=>thn (hb pins s1 σ H1 _ I1 q1) fun u s2 ⟨y,H2,I2,r2,q2⟩ =>
  thn (ho pins s2 σ H2 x y v u _ I2 r1 r2 q2) fun c s3 ⟨z,H3,I3,r3,k,e,q3⟩=>?_) hm
 subst e
 cases r3
 exact wpAny_truthy_bool ⟨H3,I3,q3⟩
noncomputable def tChain (r r':R2)(ta tb tc:TE):TE:=fun σ H Q=>ta σ H fun x H1=>tb σ H1 fun y H2=>r x y H2 fun z H3=>∃ k,z = .bl k /\
 (if k=true then tc σ H3 fun w' H4=>r' y w' H4 Q else Q (.bl false) H3)
theorem xV {op op':CmpOp}{r r':R2}(ho:fJ X (compareOp op) r)(ho':fJ X (compareOp op') r')(ha:PE X a ta)(hb:PE X b tb)(hc:PE X c tc)
  (hm:lastMarks [op,op'] [b,c]=false:=by with_unfolding_all rfl):PE X (.Compare a [op,op'] [b,c] pos) (tChain r r' ta tb tc):=by
 intro pins s σ H Q I h
 refine Compare_chain (thn (ha pins s σ H _ I h) fun v s1 ⟨x,H1,I1,r1,q1⟩=>chain_link (thn (hb pins s1 σ H1 _ I1 q1) fun u s2 ⟨y,H2,I2,r2,q2⟩ =>
  thn (ho pins s2 σ H2 x y v u _ I2 r1 r2 q2) fun d s3 ⟨z,H3,I3,r3,k,e,q3⟩=>?_)) hm
 subst e
 cases r3
 refine wpAny_truthy_bool ?_
 cases k with
 | false=>exact ite_ff ⟨.bl false,H3,I3,rfl,q3⟩
 | true=>exact ite_tt (chain_last (thn (hc pins s3 σ H3 _ I3 q3) fun w' s4 ⟨z',H4,I4,r4,q4⟩=>ho' pins s4 σ H4 y z' u w' Q I4 r2 r4 q4))
theorem xM {op op':CmpOp}{r r':R2}(ho:fJ X (compareOp op) r)(ho':fJ X (compareOp op') r')(ha:PE X a ta)(hb:PE X b tb)(hc:PE X c tc)
  (hm:lastMarks [op,op'] [b,c]=false:=by with_unfolding_all rfl):PT X (.Compare a [op,op'] [b,c] pos) (tTest (tChain r r' ta tb tc)):=by
 intro pins s σ H Q I h
 refine isTrue_chain (thn (ha pins s σ H _ I h) fun v s1 ⟨x,H1,I1,r1,q1⟩=>test_link (thn (hb pins s1 σ H1 _ I1 q1) fun u s2 ⟨y,H2,I2,r2,q2⟩ =>
  thn (ho pins s2 σ H2 x y v u _ I2 r1 r2 q2) fun d s3 ⟨z,H3,I3,r3,k,e,q3⟩=>?_)) hm
 subst e
 cases r3
 refine wpAny_truthy_bool ?_
 cases k with
 | false =>
  obtain ⟨k',e',q'⟩:=q3
  cases e'
  exact ite_ff ⟨H3,I3,q'⟩
 | true =>
  refine ite_tt (test_last (thn (hc pins s3 σ H3 _ I3 q3) fun w' s4 ⟨z',H4,I4,r4,q4⟩=>thn (ho' pins s4 σ H4 y z' u w' _ I4 r2 r4 q4) fun d' s5 ⟨z2,H5,I5,r5,k2,e2,q5⟩=>?_))
  subst e2
  cases r5
  exact wpAny_truthy_bool ⟨H5,I5,q5⟩
noncomputable def BG (K:PySem.W.Frag)(x:V)(H:Hp)(k:Bool):Prop :=
 match x with
 | .non=>k=false
 | .bl b=>k=b
 | .int i=>k=(i != 0)
 | .str y=>y.length<=sizeLine/\k=((y.length:Int) != 0)
 | .byt y=>y.size<=sizeLine/\k=((y.size:Int) != 0)
 | .ref p=>(∃ xs,cY K H p xs/\k = !xs.isEmpty)∨(∃ xs,d7 K H p xs/\k = !xs.isEmpty)∨∃ kvs,H p=some (.dK kvs)/\k = !kvs.isEmpty
 | _=>False
theorem tU {κ:Type}{kvs:List (κ×V)}{vs:List (κ×Value)}(r:KV kvs vs):(!vs.isEmpty) = !kvs.isEmpty:=by
 cases r <;> rfl
theorem lV {xs:List V}{its:bJ}(r:aK xs its):(!its.toArray.isEmpty) = !xs.isEmpty:=by
 cases r <;> simp
theorem line63:(sizeLine:Nat) < 2 ^ 63:=by rw [sizeLine_eq];decide
theorem B3:EO X (fun x H Q=>∃ k,BG X.K x H k/\Q k H):=by
 intro pins s σ H x v Q I rx h
 obtain ⟨k,e,q⟩:=h
 have hl:=line63
 have hs:sizeLine=16777216:=sizeLine_eq
 cases x with
 | non =>
  cases rx
  have e':k=false:=e
  subst e'
  exact truthy_none ⟨H,I,q⟩
 | bl b =>
  cases rx
  have e':k=b:=e
  subst e'
  exact wpAny_truthy_bool ⟨H,I,q⟩
 | int i =>
  obtain ⟨t,rfl⟩:=rx
  have e':k=(i != 0):=e
  subst e'
  exact PySem.P.truthy_int ⟨H,I,q⟩
 | str y =>
  obtain ⟨t,rfl⟩:=rx
  obtain ⟨hy,e'⟩:y.length<=sizeLine/\k=((y.length:Int) != 0):=e
  subst e'
  exact PySem.P.truthy_str (by omega) ⟨H,I.tok _,q⟩
 | byt y =>
  obtain ⟨t,rfl⟩:=rx
  obtain ⟨hy,e'⟩:y.size<=sizeLine/\k=((y.size:Int) != 0):=e
  subst e'
  exact PySem.W.truthy_bytes (by omega) ⟨H,I.tok _,q⟩
 | ref p =>
  cases rx
  have e':(∃ xs,cY X.K H p xs/\k = !xs.isEmpty)∨(∃ xs,d7 X.K H p xs/\k = !xs.isEmpty)∨∃ kvs,H p=some (.dK kvs)/\k = !kvs.isEmpty:=e
  rcases e' with ⟨xs,hx,e'⟩ | ⟨xs,hx,e'⟩ | ⟨kvs,hx,e'⟩
  ·subst e'
   obtain ⟨its,r,pl,hz⟩:=I.list hx
   have hlen:=r.length
   exact wpAny_truthy_list pl.isList (by simp only [List.size_toArray];omega) ⟨H,I.tok _,by rw [lV r];exact q⟩
  ·subst e'
   obtain ⟨its,r,pl,hz⟩:=I.tuple hx
   have hlen:=r.length
   exact truthy_tuple pl (by simp only [List.size_toArray];omega) ⟨H,I.tok _,by rw [lV r];exact q⟩
  ·subst e'
   obtain ⟨hz,hS,vs,r,m⟩:kvs.length<=sizeLine/\(p == sysModules)=false/\∃ vs,KV kvs vs/\s.heap.DictOf (bG X.prog X.w) p vs:=I.hok p _ hx
   have hlen:kvs.length=vs.length:=Paired.length r
   exact wpAny_truthy_dict hS m (by omega) ⟨H,I.tok _,by rw [tU r];exact q⟩
 | _=>exact (show False from e).elim
theorem xK (ha:PE X a ta)(he:∀ whole,isTrue a X.env whole=(do let v ← whole;standAt a.pos;holding [v] (truthy v))) :
  PT X a (fun σ H Q=>ta σ H fun x H'=>∃ k,BG X.K x H' k/\Q k H'):=by
 intro pins s σ H Q I h
 exact isTrue_plain (thn (ha pins s σ H _ I h) fun v s1 ⟨x,H1,I1,r1,q1⟩=>B3 pins s1 σ H1 x v Q I1 r1 q1) (he _)
theorem tF:fJ X (binaryOp .Add) (fun x y H Q=>∃ i j,x = .str i/\y = .str j/\i.length + j.length<=sizeLine/\Q (.str (i ++ j)) H):=by
 intro pins s σ H x y v u Q I rx ry h
 obtain ⟨i,j,rfl,rfl,hz,q⟩:=h
 obtain ⟨t,rfl⟩:=rx
 obtain ⟨t',rfl⟩:=ry
 exact add_str (fun t' tk=>⟨.str (i ++ j),H,I.tok _,⟨_,rfl⟩,q⟩) hz
theorem vals1 {x:V}{us:bJ}(r:aK [x] us):∃ u,us=[u]/\aL x u:=by
 cases r with
 | cons r1 r2=>cases r2;exact ⟨_,rfl,r1⟩
theorem vals2 {x y:V}{us:bJ}(r:aK [x,y] us):∃ u w',us=[u,w']/\aL x u/\aL y w':=by
 cases r with
 | cons r1 r2 =>
  cases r2 with
  | cons r3 r4=>cases r4;exact ⟨_,_,rfl,r1,r3⟩
theorem wS (hc:X.calm=true):bI X (.builtin "max") (fun xs H Q=>∃ i j,xs=[.int i,.int j]/\Q (.int (if j > i then j else i)) H):=by
 intro pins s σ H xs us Q I r h
 obtain ⟨i,j,rfl,q⟩:=h
 obtain ⟨u,w',rfl,⟨t,rfl⟩,⟨t',rfl⟩⟩:=vals2 r
 refine max_two_ints (I.ok.hd hc) fun h' tk k=>⟨_,H,I.kept k,?_,q⟩
 by_cases hj:j > i
 ·rw [if_pos hj,if_pos hj];exact ⟨_,rfl⟩
 ·rw [if_neg hj,if_neg hj];exact ⟨_,rfl⟩
theorem wR (hc:X.calm=true):bI X (.builtin "min") (fun xs H Q=>∃ i j,xs=[.int i,.int j]/\Q (.int (if j < i then j else i)) H):=by
 intro pins s σ H xs us Q I r h
 obtain ⟨i,j,rfl,q⟩:=h
 obtain ⟨u,w',rfl,⟨t,rfl⟩,⟨t',rfl⟩⟩:=vals2 r
 refine min_two_ints (I.ok.hd hc) fun h' tk k=>⟨_,H,I.kept k,?_,q⟩
 by_cases hj:j < i
 ·rw [if_pos hj,if_pos hj];exact ⟨_,rfl⟩
 ·rw [if_neg hj,if_neg hj];exact ⟨_,rfl⟩
end
structure dX (k:Nat)(A:Around):Prop where
 hd:A.handled=none
 dp:A.depth + 3 * k + 5 < recursionLimit
 un:A.units + 16 * k + 200 < cLine
theorem dX.mono {j k:Nat}{A:Around}(r:dX k A)(h:j<=k):dX j A:=⟨r.hd,by have:=r.dp;omega,by have:=r.un;omega⟩
theorem dX.deeper {k:Nat}{A:Around}(r:dX (k + 1) A)(env:Env):dX k (A.deeper env) :=
 ⟨r.hd,by have:=r.dp;show A.depth + 1 + 3 * k + 5 < _;omega,by have:=r.un;show A.units + 3 + 16 * k + 200 < _;omega⟩
theorem dX.in1 {k:Nat}{A:Around}(r:dX (k + 1) A):dX k A.in1 :=
 ⟨r.hd,by have:=r.dp;show A.depth + 3 * k + 5 < _;omega,by have:=r.un;show A.units + 1 + 16 * k + 200 < _;omega⟩
theorem dX.depth {k:Nat}{A:Around}(r:dX k A):A.depth < recursionLimit:=by have:=r.dp;omega
theorem dX.units {k:Nat}{A:Around}(r:dX k A):A.units + 64 < cLine:=by have:=r.un;omega
noncomputable def tNil:TA:=fun _ H Q=>Q [] H
noncomputable def tCons (ta:TE)(tr:TA):TA:=fun σ H Q=>ta σ H fun x H1=>tr σ H1 fun xs H2=>Q (x :: xs) H2
section
variable {X:Cx}{e:Expr}{es:g9}{te:TE}{t:TA}{pos:Pos}
theorem aD:PA X [] tNil:=fun _ _ _ _ H Q I h=>Calls.spliced_nil ⟨[],H,I,.nil,h⟩
theorem aA (ha:PE X e te)(hr:PA X es t)(hs:starEach (e :: es) X.env=(false,eval e X.env) :: starEach es X.env:=by rfl):PA X (e :: es) (tCons te t):=by
 intro pos pins s σ H Q I h
 rw [hs]
 show wpAny _ _ (spliced ((false,eval e X.env) :: backTo pos (starEach es X.env))) _ _ s
 refine Calls.spliced_cons (thn (ha pins s σ H _ I h) fun u s1 ⟨x,H1,I1,r1,q1⟩=>?_)
 exact thn (hr pos pins s1 σ H1 _ I1 q1) fun us s2 ⟨xs,H2,I2,r2,q2⟩=>⟨x :: xs,H2,I2,.cons r1 r2,q2⟩
noncomputable def tTup (t:TA):TE:=fun σ H Q=>t σ H fun xs H1=>xs.length<=sizeLine/\∀ p,H1 p=none->Q (.ref p) (upd H1 p (.tup xs))
noncomputable def tLst (t:TA):TE:=fun σ H Q=>t σ H fun xs H1=>xs.length<=sizeLine/\∀ p,H1 p=none->Q (.ref p) (upd H1 p (.lst xs))
theorem eK {x1}(h:PA X es t):PE X (.Tuple es x1 pos) (tTup t):=by
 intro pins s σ H Q I hq
 refine wpAny_Tuple_spliced (thn (h pos pins s σ H _ I hq) fun us s1 ⟨xs,H1,I1,r,z,q⟩=>⟨by rw [← r.length];exact z,?_⟩)
 have hf:H1 s1.heap.objs.size=none:=I1.hok.fresh (Nat.le_refl _)
 refine ⟨.ref s1.heap.objs.size,upd H1 s1.heap.objs.size (.tup xs),I1.laid (t':=s1.toks) (fun b u e=>Heap.get?_push_of_some _ e) (Nat.le_refl _) ?_,rfl,q _ hf⟩
 exact ⟨z,us,r,⟨_,Heap.get?_push_size _ rfl,rfl,_,rfl⟩⟩
theorem cW (h:PA X es t):PE X (.List es pos) (tLst t):=by
 intro pins s σ H Q I hq
 refine wpAny_List_spliced (thn (h pos pins s σ H _ I hq) fun us s1 ⟨xs,H1,I1,r,z,q⟩=>⟨by rw [← r.length];exact z,?_⟩)
 have hf:H1 s1.heap.objs.size=none:=I1.hok.fresh (Nat.le_refl _)
 refine ⟨.ref s1.heap.objs.size,upd H1 s1.heap.objs.size (.lst xs),I1.laid (t':=s1.toks) (fun b u e=>Heap.get?_push_of_some _ e) (Nat.le_refl _) ?_,rfl,q _ hf⟩
 exact ⟨z,us,0,r,Heap.get?_push_size _ rfl⟩
end
noncomputable abbrev Sp:=List V->Hp->VK->XK->Prop
noncomputable abbrev zL:=List Env->Hp->Shared->XK->bA
structure zI (P:Program)(w:World)(K:PySem.W.Frag)(mg:eV)(base:Heap)(A:Around)(outer:List Env)(s:Shared)(H:Hp):Prop where
 frames:A.frames=some outer
 mod:Mod K mg base
 bs:∀ b o,base.get? b=some o->s.heap.get? b=some o/\H b=none
 bsz:base.objs.size<=s.heap.objs.size
 funs:s.heap.FunFrames base outer
 frf:∀ b ∈ frs outer,H b=none
 hok:eD P w H s.heap
 bare:AllBare s.gens
noncomputable def CE (outer:List Env)(P:Program)(w:World)(H:Hp)(s:Shared)(Q:VK)(u:Value)(s':Shared):Prop :=
 ∃ v H',s'.os=s.os/\AllBare s'.gens/\Un (frs outer) [] H H' s.heap s'.heap/\eD P w H' s'.heap/\aL v u/\Q v H'
noncomputable def CR (CX:zL)(outer:List Env)(P:Program)(w:World)(H:Hp)(s:Shared)(Q:VK)(E:XK)(r:Result)(s':Shared):Prop :=
 match r with
 | .ok (.ret u)=>CE outer P w H s Q u s'
 | .ok _=>False
 | .error e=>CX outer H s E e s'
structure dE (P:Program)(w:World)(K:PySem.W.Frag)(mg:eV)(base:Heap)(CX:zL)(k:Nat)(f:Addr)(fd:FuncData)(ps:bE)(sp:Sp):Prop where
 len:∀ vs H Q E,sp vs H Q E->vs.length=ps.length
 run:∀ (A:Around) (outer:List Env) (s:Shared) (H:Hp) (args:Args) (us:bJ) (vs:List V) (Q:VK) (E:XK),dX k A->zI P w K mg base A outer s H->BindsTo s fd args (ps.zip us)->aK vs us->sp vs H Q E ->
  codeAny (model P w) A (.call (.ref f) args) (CR CX outer P w H s Q E) s
section
variable {X:Cx}{pins:bK}{σ:St}{H:Hp}{s s':Shared}
theorem aF.env0 (I:aF X pins σ H s):zI X.prog X.w X.K X.mg X.base X.A X.stack s H :=
 ⟨I.ok.frames,I.ok.mod,I.bs,Nat.le_trans I.ok.bsz I.sz,I.stack,I.stkFree,I.hok,I.bare⟩
theorem aF.after {Q:VK}{u:Value}(I:aF X pins σ H s)(h:CE X.stack X.prog X.w H s Q u s'):EP X pins σ Q u s':=by
 obtain ⟨v,H',os,bare,un,hok,r,q⟩:=h
 obtain ⟨hh,g,d,t,os'⟩:=s'
 obtain rfl:os'=s.os:=os
 exact ⟨v,H',I.call (h':=hh) (g':=g) (d':=d) (t':=t) (ch:=[]) un hok bare (fun b z=>absurd z (by simp)),r,q⟩
end
noncomputable def tCall (sp:Sp)(dvs:List V)(E:XK)(t:TA):TE:=fun σ H Q=>t σ H fun vs H1=>sp (vs ++ dvs) H1 Q E
noncomputable def oJ (K:PySem.W.Frag)(fd:FuncData)(ps:bE)(ds:bJ):Prop :=
 ∀ (s:Shared) (us:bJ),K.In s.heap->(us ++ ds).length=ps.length->BindsTo s fd ⟨us,[]⟩ (ps.zip (us ++ ds))
theorem oJ.all {K:PySem.W.Frag}{fd:FuncData}{ps:bE}(h:∀ us:bJ,us.length=ps.length->bindArgs fd ⟨us,[]⟩=pure (ps.zip us)):oJ K fd ps []:=fun s us _ hl=>by
 rw [List.append_nil] at hl ⊢
 exact .of_eq (h us hl)
noncomputable def pT (CX:zL)(X:Cx)(E:XK):Prop:=∀ (pins:bK) (σ:St) (H:Hp) (s:Shared) (e:Value) (s':Shared),aF X pins σ H s->CX X.stack H s E e s'->X.xe e s'
section
variable {X:Cx}{CX:zL}{k:Nat}{f C:Addr}{fd:FuncData}{ps:bE}{sp:Sp}{dvs:List V}{ds:bJ}{E:XK}{x m:Str}{p pos apos:Pos}{e o:Expr}{es:g9}{ta:TE}{t:TA}
theorem CC {pins:bK}{σ:St}{H:Hp}{s:Shared}{Q:VK}{us:bJ}{vs:List V}(F:dE X.prog X.w X.K X.mg X.base CX k f fd ps sp)(hr:dX k X.A)(hb:oJ X.K fd ps ds)(hd:aK dvs ds)(hx:pT CX X E)
  (I:aF X pins σ H s) (r:aK vs us) (h:sp (vs ++ dvs) H Q E):wpAny (model X.prog X.w) X.A (call (.ref f) us) (EP X pins σ Q) X.xe s:=by
 have r2:aK (vs ++ dvs) (us ++ ds):=r.append hd
 have hl:(us ++ ds).length=ps.length:=by rw [← r2.length];exact F.len _ _ _ _ h
 refine wpAny_call (codeAny_mono (F.run X.A X.stack s H ⟨us,[]⟩ (us ++ ds) (vs ++ dvs) Q E hr I.env0 (hb s us I.kIn hl) r2 h) fun r s' hq=>?_)
 cases r with
 | error e=>exact hx pins σ H s e s' I hq
 | ok fl =>
  cases fl with
  | ret u=>exact I.after hq
  | next=>exact False.elim hq
  | brk=>exact False.elim hq
  | cont=>exact False.elim hq
theorem AM (F:dE X.prog X.w X.K X.mg X.base CX k f fd ps sp)(hr:dX k X.A)(hg:Gl X x)(hm:X.mg x=some (.ref f))(hk:PySem.W.keepIn X.K (.ref f)=true)(hb:oJ X.K fd ps ds)(hd:aK dvs ds)(hx:pT CX X E)
  (ha:PA X (e :: es) t) (hdb:(x == ("__debug__" : Str))=false:=by decide) (he:starEach (e :: es) X.env=(false,eval e X.env) :: starEach es X.env:=by rfl) (hpl:(backTo pos (starEach es X.env)).any (·.1)=false:=by rfl) :
  PE X (.Call (.Name x p) (e :: es) [] pos) (tCall sp dvs E t):=by
 intro pins s σ H Q I h
 refine wpAny_Call_Name_kw (u3 I hg hm ?_ hdb)
 refine PySem.W.callWith_K (h₀:=X.base) I.ok.mod.kin hk (thn (ha pos pins s σ H _ I h) fun us s1 ⟨vs,H1,I1,r,q⟩=>⟨I1.kIn,?_⟩) he hpl
 exact CC F hr hb hd hx I1 r q
end
noncomputable def PK (X:Cx)(kws:List Keyword)(t:TA):Prop :=
 ∀ (pos:Pos) (pins:bK) (s:Shared) (σ:St) (H:Hp) (Q:List V->Hp->Prop),aF X pins σ H s->t σ H Q->wpAny (model X.prog X.w) X.A (evalAll ((backToKw pos (keywordEach kws X.env)).map (·.2))) (AP X pins σ Q) X.xe s
section
variable {X:Cx}{CX:zL}{k:Nat}{f C:Addr}{fd:FuncData}{ps ks:bE}{sp:Sp}{E:XK}{x m:Str}{p pos apos kpos:Pos}{e o:Expr}{es:g9}{kws:List Keyword}{te ta:TE}{t tk:TA}{nm:Option Str}
theorem CG:PK X [] tNil:=fun _ _ _ _ H Q I h=>wpAny_evalAll_nil ⟨[],H,I,.nil,h⟩
theorem AI (ha:PE X e te)(hr:PK X kws t):PK X (⟨nm,e,kpos⟩ :: kws) (tCons te t):=by
 intro pos pins s σ H Q I h
 show wpAny _ _ (evalAll ((do let v ← eval e X.env;standAt pos;pure v) :: (backToKw pos (keywordEach kws X.env)).map (·.2))) _ _ s
 refine wpAny_evalAll_cons (wpAny_bind (thn (ha pins s σ H _ I h) fun u s1 ⟨x,H1,I1,r1,q1⟩=>wpAny_bind (wpAny_standAt (wpAny_pure ?_))))
 exact thn (hr pos pins s1 σ H1 _ I1 q1) fun us s2 ⟨xs,H2,I2,r2,q2⟩=>⟨x :: xs,H2,I2,.cons r1 r2,q2⟩
variable {g:bJ->bJ->bJ}{gV:List V->List V->List V}
end
structure bB (N P:bE)(sc:Scope):Prop where
 kind:sc.kind = .function
 co:sc.isCoroutine=false
 gen:sc.isGenerator=false
 nd:N.Nodup
 pre:N.take P.length=P
 par:∀ x ∈ P,sc.names.lookup x=some .local∨sc.names.lookup x=some .cell
 nofree:∀ y ∈ sc.names,y.2≠.free
theorem oD {kindOf:Str->Option NameKind}{x:Str}:∀ {binds:List (Str×Value)} {m:eV},(∀ v,(x,v) ∉ binds)->bindL kindOf binds m x=m x
 | [],_,_=>rfl
 | (n,v) :: r,m,h=>by
  unfold bindL
  rw [oD fun w hw=>h w (List.mem_cons_of_mem _ hw)]
  split
  ·have:x≠n:=by rintro rfl;exact h v List.mem_cons_self
   simp [this]
  ·rfl
theorem oF {kindOf:Str->Option NameKind}{x:Str}:∀ {binds:List (Str×Value)} {m:eV},(∀ v,(x,v) ∉ binds)->bindC kindOf binds m x=m x
 | [],_,_=>rfl
 | (n,v) :: r,m,h=>by
  unfold bindC
  rw [oF fun w hw=>h w (List.mem_cons_of_mem _ hw)]
  split
  ·rfl
  ·have:x≠n:=by rintro rfl;exact h v List.mem_cons_self
   simp [this]
theorem oE {kindOf:Str->Option NameKind}{x:Str}{v:Value}:∀ {P:bE} {vs:bJ} {i:Nat} {m:eV},P.Nodup->P[i]?=some x->vs[i]?=some v->kindOf x=some .local ->
  bindL kindOf (P.zip vs) m x=some v
 | [],_,_,_,_,h,_,_=>by simp at h
 | _ :: _,[],_,_,_,_,h,_=>by simp at h
 | p :: P,w :: vs,0,m,nd,h1,h2,hk=>by
  simp at h1 h2;subst h1;subst h2
  show bindL kindOf ((p,w) :: P.zip vs) m p=_
  unfold bindL
  rw [oD fun v hv=>(List.nodup_cons.mp nd).1 (List.of_mem_zip hv).1,if_pos hk]
  simp
 | p :: P,w :: vs,i + 1,m,nd,h1,h2,hk=>by
  show bindL kindOf ((p,w) :: P.zip vs) m x=_
  unfold bindL
  exact oE (i:=i) (List.nodup_cons.mp nd).2 (by simpa using h1) (by simpa using h2) hk
theorem oG {kindOf:Str->Option NameKind}{x:Str}{v:Value}:∀ {P:bE} {vs:bJ} {i:Nat} {m:eV},P.Nodup->P[i]?=some x->vs[i]?=some v->kindOf x≠some .local ->
  bindC kindOf (P.zip vs) m x=some v
 | [],_,_,_,_,h,_,_=>by simp at h
 | _ :: _,[],_,_,_,_,h,_=>by simp at h
 | p :: P,w :: vs,0,m,nd,h1,h2,hk=>by
  simp at h1 h2;subst h1;subst h2
  show bindC kindOf ((p,w) :: P.zip vs) m p=_
  unfold bindC
  rw [oF fun v hv=>(List.nodup_cons.mp nd).1 (List.of_mem_zip hv).1,if_neg hk]
  simp
 | p :: P,w :: vs,i + 1,m,nd,h1,h2,hk=>by
  show bindC kindOf ((p,w) :: P.zip vs) m x=_
  unfold bindC
  exact oG (i:=i) (List.nodup_cons.mp nd).2 (by simpa using h1) (by simpa using h2) hk
noncomputable def start (N:bE)(vs:List V):St:=vs.map some ++ List.replicate (N.length - vs.length) none
noncomputable def cxOf (CX:zL)(P:Program)(w:World)(K:PySem.W.Frag)(mg:eV)(base:Heap)(N:bE)(qual:Str)(scope:Scope)(f:Addr)(cd:Value)(A:Around)(outer:List Env)(s:Shared)(H:Hp)(E:XK):Cx where
 prog:=P
 w:=w
 K:=K
 mg:=mg
 base:=base
 A:=A.deeper (envOfC qual scope s.heap.objs.size f cd)
 N:=N
 s₀:=s
 H₀:=H
 env:=envOfC qual scope s.heap.objs.size f cd
 outer:=outer
 stack:=envOfC qual scope s.heap.objs.size f cd :: outer
 ex:=[]
 calm:=true
 fn:=fun _=>true
 pn:=[]
 xe:=fun e s'=>wpAny (model P w) (A.deeper (envOfC qual scope s.heap.objs.size f cd)) (leaving (envOfC qual scope s.heap.objs.size f cd) e) (fun _ s''=>CX outer H s E e s'') (fun e' s''=>CX outer H s E e' s'') s'
theorem rR {sc:Scope}{n:Nat}{x:Str}(h:sc.names.lookup x=some .cell):∃ c,(cellsFrom n sc.names []).lookup x=some c:=by
 have q:=PySem.W.cellsFrom_some sc.names n [] (.inl h)
 exact Option.isSome_iff_exists.mp q
theorem wE {CX:zL}{P:Program}{w:World}{K:PySem.W.Frag}{mg:eV}{base:Heap}{N ps:bE}{qual:Str}{scope:Scope}{f:Addr}{cd:Value}{A:Around}{outer:List Env}{s s1:Shared}{H:Hp}{E:XK}{us:bJ}{vs:List V}
  (S:bB N ps scope) (hd:A.handled=none) (e0:zI P w K mg base A outer s H) (hl:vs.length=ps.length) (r:aK vs us)
  (x:InCallC s s.heap.objs.size (bindL (envOfC qual scope s.heap.objs.size f cd).kindOf (ps.zip us) fun _=>none) (cellsFrom (s.heap.objs.size + 1) scope.names []) (bindC (envOfC qual scope s.heap.objs.size f cd).kindOf (ps.zip us) fun _=>none) s1) :
  aF (cxOf CX P w K mg base N qual scope f cd A outer s H E) [] (start N vs) H s1:=by
 have hpl:ps.length<=N.length:=by have:=congrArg List.length S.pre;rw [List.length_take] at this;omega
 obtain ⟨h1,tk,rfl,hk⟩:=x.done
 have noA:∀ b:Addr,b ∉ (cxOf CX P w K mg base N qual scope f cd A outer s H E).ex:=fun b z=>absurd (show b ∈ ([]:List Addr) from z) (by simp)
 refine ⟨⟨e0.mod,S.kind,rfl,rfl,Nat.le_refl _,fun y z c h1 h2=>?_,fun y hy=>?_,fun y c _ h=>?_,fun _=>hd,Around.frames_deeper e0.frames,.inr ⟨rfl,rfl⟩,fun b z=>absurd z (noA b),e0.bs,e0.bsz,fun b _ _=>noA b,fun b z=>absurd z (noA b),e0.funs,e0.frf⟩,
  rfl,e0.bare,Un.kept hk,⟨_,x.toInCall.ns,fun i y v h1 h2 h3=>?_⟩,fun y c h=>⟨_,x.cell y c h⟩,e0.hok.fresh (Nat.le_refl _),fun y c h=>?_,fun p hp=>absurd (show p ∈ ([]:bK) from hp) (by simp),e0.hok.kept hk,?_⟩
 ·exact name_of_addr x.apart (PySem.mem_of_lookup h1) (PySem.mem_of_lookup h2)
 ·have hy:scope.names.lookup y=some .cell∨scope.names.lookup y=some .free:=hy
  rcases hy with hy | hy
  ·exact rR hy
  ·exact absurd rfl (S.nofree _ (PySem.mem_of_lookup hy))
 ·exact Nat.le_of_lt (x.above y c (PySem.mem_of_lookup h))
 ·have hi:i < vs.length:=by
   unfold start at h2
   by_cases hi:i < vs.length
   ·exact hi
   ·rw [List.getElem?_append_right (by simpa using hi)] at h2
    rw [List.getElem?_replicate] at h2
    split at h2 <;> cases h2
  have ha:vs[i]?=some v:=by
   unfold start at h2
   rw [List.getElem?_append_left (by simpa using hi),List.getElem?_map] at h2
   cases e:vs[i]? with
   | none=>rw [e] at h2;cases h2
   | some a=>rw [e] at h2;cases h2;rfl
  obtain ⟨u,hu,rv⟩:=r.get ha
  have hp:ps[i]?=some y:=by
   rw [← S.pre,List.getElem?_take_of_lt (by omega)];exact h1
  have ndP:ps.Nodup:=by rw [← S.pre];exact S.nd.sublist (List.take_sublist _ _)
  refine ⟨u,rv,?_⟩
  rcases S.par y (List.mem_of_getElem? hp) with k | k
  ·exact .inl ⟨k,oE ndP hp hu k⟩
  ·obtain ⟨c,e⟩:=rR (n:=s.heap.objs.size + 1) k
   refine .inr ⟨.inl k,c,e,?_⟩
   have q:=x.cell y c e
   rw [oG ndP hp hu (by show scope.names.lookup y≠_;rw [k];decide)] at q
   exact q
 ·exact e0.hok.fresh (Nat.le_of_lt (x.above y c (PySem.mem_of_lookup h)))
 ·unfold start
  show _=N.length
  rw [List.length_append,List.length_map,List.length_replicate]
  omega
theorem BP {CX:zL}{P:Program}{w:World}{K:PySem.W.Frag}{mg:eV}{base:Heap}{k:Nat}{f:Addr}{name qual:Str}{params:Arguments}{body:List Stmt}{scope:Scope}{dV kV doc pm cdv ct oc:Value}{an od:Option Addr}
  {osl:Array (Option Value)} {N ps:bE} {sp:Sp} (lk:K.lookup f=some ⟨oc,od,.func (PySem.W.fnOf name qual params body scope dV kV doc pm an cdv ct),osl⟩) (hcd:PySem.W.codeIn K cdv qual=true) (S:bB N ps scope)
  (len:∀ vs H Q E,sp vs H Q E->vs.length=ps.length)
  (hbody:∀ (A:Around) (outer:List Env) (s:Shared) (H:Hp) (vs:List V) (Q:VK) (E:XK),dX k (A.deeper (envOfC qual scope s.heap.objs.size f cdv))->sp vs H Q E ->
   ∃ t,vG (cxOf CX P w K mg base N qual scope f cdv A outer s H E) body t/\t { nx:=fun _ H'=>Q .non H',rt:=Q } (start N vs) H) :
  dE P w K mg base CX (k + 1) f (PySem.W.fnOf name qual params body scope dV kV doc pm an cdv ct) ps sp:=by
 refine ⟨len,fun A outer s H args us vs Q E hr e0 hb r hsp=>?_⟩
 have hl:=len _ _ _ _ hsp
 have KX:K.In s.heap:=e0.mod.kin.keeps fun b o e=>(e0.bs b o e).1
 have lim:s.heap.NoLimit:=e0.mod.nolimit.keeps fun b o e=>(e0.bs b o e).1
 have hkind:∀ y ∈ ps.zip us,scope.names.lookup y.1=some .local∨(scope.names.lookup y.1=some .cell/\((cellsFrom (s.heap.objs.size + 1) scope.names []).lookup y.1).isSome=true):=fun ⟨n,v⟩ hy=>by
  rcases S.par n (List.of_mem_zip hy).1 with q | q
  ·exact .inl q
  ·exact .inr ⟨q,PySem.W.cellsFrom_some _ _ _ (.inl q)⟩
 refine codeAny_call_function hr.depth (KX _ _ lk) rfl S.co S.gen rfl (PySem.W.codeRec_of KX hcd) (hb _ _ _ _ ?_)
 refine wpAny_newFunctionEnv_cells S.kind hkind fun env he s1 x=>?_
 subst he
 refine ⟨lim.keeps x.toInCall.keep,codeAny_func ?_⟩
 obtain ⟨t,ht,hq⟩:=hbody A outer s H vs Q E (hr.deeper _) hsp
 have I:aF (cxOf CX P w K mg base N qual scope f cdv A outer s H E) [] (start N vs) H s1:=wE S hr.hd e0 hl r x
 refine wpAny_mono (ht [] s1 (start N vs) H _ I hq) (fun fl s' hs=>?_) fun e s' hs=>hs
 have fin:∀ {σ':St} {H':Hp} {v:V} {u:Value},aF (cxOf CX P w K mg base N qual scope f cdv A outer s H E) [] σ' H' s'->aL v u->Q v H'->CE outer P w H s Q u s' :=
  fun {σ' H' v u} J rv q=>⟨v,H',J.os,J.bare,J.base,J.hok,rv,q⟩
 cases fl with
 | ret u =>
  obtain ⟨v,σ',H',J,rv,q⟩:=hs
  exact fin J rv q
 | next =>
  obtain ⟨σ',H',J,q⟩:=hs
  exact fin (v:=V.non) (u:=Value.none) J rfl q
 | brk =>
  obtain ⟨_,_,_,q⟩:=hs
  exact False.elim q
 | cont =>
  obtain ⟨_,_,_,q⟩:=hs
  exact False.elim q
section
variable {X:Cx}{x:Str}{p pos:Pos}{e:Expr}{es:g9}{t:TA}{id T:String}{r:List V->Hp->VK->Prop}
noncomputable def tCB (r:List V->Hp->VK->Prop)(t:TA):TE:=fun σ H Q=>t σ H fun vs H1=>r vs H1 Q
theorem aQ (hc:bI X (.builtin id) r)(hg:Gl X x)(hm:X.mg x=none)(hv:bootBuiltins x=some (.builtin id))(ha:PA X (e :: es) t)(hn:x≠"__name__":=by decide)(hdb:(x == ("__debug__" : Str))=false:=by decide)
  (he:starEach (e :: es) X.env=(false,eval e X.env) :: starEach es X.env:=by rfl) (hpl:(backTo pos (starEach es X.env)).any (·.1)=false:=by rfl):PE X (.Call (.Name x p) (e :: es) [] pos) (tCB r t):=by
 intro pins s σ H Q I h
 refine wpAny_Call_Name_kw (iG I hg hm hv ?_ hn hdb)
 exact PyProof.Rows.callWith_builtin1 (thn (ha pos pins s σ H _ I h) fun us s1 ⟨vs,H1,I1,r1,q1⟩=>hc pins s1 σ H1 vs us Q I1 r1 q1) he hpl
theorem jM (hc:bI X (.type T) r)(hg:Gl X x)(hm:X.mg x=none)(hv:bootBuiltins x=some (.type T))(ha:PA X (e :: es) t)(hn:x≠"__name__":=by decide)(hdb:(x == ("__debug__" : Str))=false:=by decide)
  (he:starEach (e :: es) X.env=(false,eval e X.env) :: starEach es X.env:=by rfl) (hpl:(backTo pos (starEach es X.env)).any (·.1)=false:=by rfl):PE X (.Call (.Name x p) (e :: es) [] pos) (tCB r t):=by
 intro pins s σ H Q I h
 refine wpAny_Call_Name_kw (iG I hg hm hv ?_ hn hdb)
 exact PyProof.Rows.callWith_type1 (thn (ha pos pins s σ H _ I h) fun us s1 ⟨vs,H1,I1,r1,q1⟩=>hc pins s1 σ H1 vs us Q I1 r1 q1) he hpl
end
end L2
namespace HT
open PySem PyProof.Rows
noncomputable def lexLt:List Int->List Int->Bool
 | [],[]=>false
 | [],_ :: _=>true
 | _ :: _,[]=>false
 | x :: xs,y :: ys=>if x=y then lexLt xs ys else decide (x < y)
theorem lexLt_cons (x y:Int)(xs ys:List Int):lexLt (x :: xs) (y :: ys)=if x=y then lexLt xs ys else decide (x < y):=rfl
theorem eqAt_int (A:Around)(s:Shared)(a:Int)(t:Tok)(c:Int)(u:Tok):∃ e,SeqAt.EqAt A s (.int a t) (.int c u) e/\(e=true ↔ a=c) :=
 ⟨(a == c),SeqAt.EqAt.int_int a t c u,by simp⟩
theorem rcLt_int (A:Around)(s:Shared)(a:Int)(t:Tok)(c:Int)(u:Tok)(prog:Program)(w:World)(E:bA)(Q:bA)(h:Q (.bool (decide (a < c))) s) :
  wpAny (model prog w) A (richCompare .Lt (.int a t) (.int c u)) Q E s :=
 (PyProof.Rows.lt_int h:wpAny (model prog w) A (compareOp .Lt (.int a t) (.int c u)) Q E s)
section
open PySem.SeqAt
open PySem.AutoSeq1 (wpAny_loadPart')
open PySem.MeetsSeq PySem.MeetsSeq2 PySem.MeetsSeq3
end
section
variable {prog:Program}{w:World}{A:Around}{E:bA}{s:Shared}
theorem cat_tup {t b:Addr}{vs ws:bJ}{Q:bA}(ht:IsTup s.heap t vs.toArray)(hb:IsTup s.heap b ws.toArray)(hv:vs≠[])
  (h1:ws=[]->Q (.ref t) s) (h2:ws≠[]->Q (.ref s.heap.objs.size) { s with heap:=s.heap.push { cls:=.type "tuple",data:=.seq (vs ++ ws).toArray } })
  (hsz:vs.length + ws.length<=sizeLine):wpAny (model prog w) A (binaryOp .Add (.ref t) (.ref b)) Q E s:=by
 obtain ⟨⟨cls,dd,data,sl⟩,ho,hc,n,hd⟩:=id ht
 obtain ⟨⟨cls2,dd2,data2,sl2⟩,ho2,hc2,n2,hd2⟩:=id hb
 simp only at hc hd hc2 hd2
 subst hc hd hc2 hd2
 have e:vs.toArray ++ ws.toArray=(vs ++ ws).toArray:=by simp
 by_cases hw:ws=[]
 ·exact concat_meets ⟨_,ho,rfl⟩ ⟨_,ho2,rfl⟩ noFill_tuple_add seq_tuple_add PySem.F.slot_tuple_add PySem.F.entry_tuple_add (PySem.F.args_tuple_add_2 _ _)
   (tuple_addW1 t b vs.toArray ws.toArray n n2 dd dd2 sl sl2 (by simpa using hv) (by simp [hw])) ⟨ho,ho2,h1 hw⟩
 ·refine concat_meets ⟨_,ho,rfl⟩ ⟨_,ho2,rfl⟩ noFill_tuple_add seq_tuple_add PySem.F.slot_tuple_add PySem.F.entry_tuple_add (PySem.F.args_tuple_add_2 _ _)
   (tuple_addW2 t b vs.toArray ws.toArray n n2 dd dd2 sl sl2 (by simpa using hv) (by simpa using hw) (by rw [List.size_toArray,List.size_toArray];exact hsz)) ⟨ho,ho2,?_⟩
  rw [e]
  exact h2 hw
noncomputable def sIx (n d:Nat):Option Int->Nat
 | none=>d
 | some v=>if v < 0 then (v + (n:Int)).toNat else min v.toNat n
theorem sIx_none (n d:Nat):sIx n d none=d:=rfl
theorem sIx_nat (n d k:Nat):sIx n d (some (k:Int))=min k n:=by
 show (if (k:Int) < 0 then ((k:Int) + (n:Int)).toNat else min (k:Int).toNat n)=min k n
 rw [if_neg (by omega),Int.toNat_natCast]
theorem CB (n d:Nat)(hd:d<=n)(o:Option Int):sIx n d o<=n:=by
 cases o with
 | none=>exact hd
 | some v =>
  show (if v < 0 then (v + (n:Int)).toNat else min v.toNat n)<=n
  by_cases hv:v < 0
  ·rw [if_pos hv];omega
  ·rw [if_neg hv];exact Nat.min_le_right _ _
theorem vE (v:Int)(n d:Nat):(if v < 0 then max (v + (n:Int)) 0 else min v (n:Int))=((sIx n d (some v):Nat):Int):=by
 show (if v < 0 then max (v + (n:Int)) 0 else min v (n:Int))=(((if v < 0 then (v + (n:Int)).toNat else min v.toNat n):Nat):Int)
 by_cases hv:v < 0
 ·simp only [if_pos hv];omega
 ·simp only [if_neg hv];omega
theorem tZ (lo hi:Option Int)(n:Nat):Builtin.Slice.sliceAdjust lo hi 1 (n:Int)=(((sIx n 0 lo:Nat):Int),((sIx n n hi:Nat):Int)):=by
 have h1:¬ ((1:Int) < 0):=by omega
 unfold Builtin.Slice.sliceAdjust
 simp only [h1,if_false]
 refine Prod.ext ?_ ?_
 ·cases lo with
  | none=>rfl
  | some v=>exact vE v n 0
 ·cases hi with
  | none=>rfl
  | some v=>exact vE v n n
theorem tD (i j:Nat):Builtin.Slice.slicePlaces (i:Int) (j:Int) 1=j - i:=by
 unfold Builtin.Slice.slicePlaces
 have h1:(1:Int) > 0:=by omega
 simp only [h1,if_true,Int.ediv_one]
 split <;> omega
theorem lD {v:Value}{o:Option Int}{Q:Option Int->Shared->Prop}(p:IsPart v o)(h:Q o s):wpAny (model prog w) A (Builtin.Slice.slicePartIndex v) Q E s:=by
 cases p with
 | none=>exact slicePart_none h
 | int i t=>exact slicePart_int h
theorem jI {sl:Addr}{vl vu:Value}{lo hi:Option Int}{n:Nat}{Q:Int×Int×Nat->Shared->Prop}(hs:s.heap.IsSliceOf sl vl vu .none)(pl:IsPart vl lo)(pu:IsPart vu hi)
  (h:Q (((sIx n 0 lo:Nat):Int),1,sIx n n hi - sIx n 0 lo) s):wpAny (model prog w) A (Builtin.Slice.sliceApplied (.ref sl) (pure (n:Int))) Q E s:=by
 obtain ⟨os,hos,hcs,hds⟩:=id hs
 unfold Builtin.Slice.sliceApplied Builtin.Slice.sliceFields
 refine wpAny_bind (wpAny_bind (wpAny_field hos hds (x:=vl) rfl (wpAny_bind (wpAny_field hos hds (x:=vu) rfl (wpAny_bind (wpAny_field hos hds (x:=.none) rfl (wpAny_pure ?_)))))))
 refine wpAny_bind (slicePart_none ?_)
 show wpAny _ _ (if ((1:Int) == 0)=true then _ else _) _ _ s
 rw [if_neg (by decide)]
 refine wpAny_bind (lD pl (wpAny_bind (lD pu (wpAny_bind (wpAny_pure ?_)))))
 show wpAny _ _ (match Builtin.Slice.sliceAdjust lo hi 1 (n:Int) with | (lo,hi)=>pure (lo,(1:Int),Builtin.Slice.slicePlaces lo hi 1)) _ _ s
 rw [tZ lo hi n]
 show wpAny _ _ (pure (((sIx n 0 lo:Nat):Int),(1:Int),Builtin.Slice.slicePlaces ((sIx n 0 lo:Nat):Int) ((sIx n n hi:Nat):Int) 1)) _ _ s
 rw [tD]
 exact wpAny_pure h
theorem xP (xs:d8)(i k:Nat):((List.range k).filterMap fun (m:Nat)=>xs[((i:Int) + (m:Int) * 1).toNat]?).toArray=((xs.toList.drop i).take k).toArray:=by
 have e:(fun (m:Nat)=>xs[((i:Int) + (m:Int) * 1).toNat]?)=fun m=>xs[i + m]?:=by
  funext m
  have:((i:Int) + (m:Int) * 1).toNat=i + m:=by omega
  rw [this]
 rw [e]
 have:=pick_run xs i k
 rw [List.filterMap_map] at this
 have e2:((fun x=>xs[x]?) ∘ fun x=>i + x)=fun m=>xs[i + m]?:=rfl
 rw [e2] at this
 rw [this]
theorem getItem_tuple_cut {t sl:Addr}{items:d8}{vl vu:Value}{lo hi:Option Int}{Q:bA}(ht:IsTup s.heap t items)(hs:s.heap.IsSliceOf sl vl vu .none)(pl:IsPart vl lo)(pu:IsPart vu hi)
  (hw:¬ (sIx items.size 0 lo=0/\sIx items.size items.size hi=items.size))
  (h:Q (.ref s.heap.objs.size) { s with heap:=s.heap.push { cls:=.type "tuple",data:=.seq ((items.toList.drop (sIx items.size 0 lo)).take (sIx items.size items.size hi - sIx items.size 0 lo)).toArray } })
  (hsz:items.size<=sizeLine):wpAny (model prog w) A (getItem (.ref t) (.ref sl)) Q E s:=by
 have htake:sizeOk (.seq ((items.toList.drop (sIx items.size 0 lo)).take (sIx items.size items.size hi - sIx items.size 0 lo)).toArray):=by
  show ((items.toList.drop (sIx items.size 0 lo)).take (sIx items.size items.size hi - sIx items.size 0 lo)).toArray.size<=sizeLine
  rw [List.size_toArray,List.length_take,List.length_drop,Array.length_toList]
  omega
 have hj:sIx items.size items.size hi<=items.size:=CB _ _ (Nat.le_refl _) hi
 obtain ⟨os,hos,hcs,hds⟩:=id hs
 have hTs:s.TypeIs (.ref sl) "slice":=⟨os,hos,hcs⟩
 unfold getItem
 try with_reducible refine wpAny_holding ?_
 first | refine wpAny_bind (wpAny_pure ?_) | skip
 refine wpAny_bind (wpAny_sequenceKey ht.typeIs (by decide) ?_)
 refine wpAny_bind (wpAny_callSpecial?_slot (name:=Str.ofString "__getitem__") ht.typeIs PyProof.Rows.slot_tuple_getitem
  (wpAny_call_entry PyProof.Rows.slot_tuple_getitem ht.typeIs entry_tuple_getitem ?_ (args_tuple_getitem _ _)))
 show wpAny _ _ (Builtin.Tuple.tupleItemsOf (.ref t) >>= _) _ _ s
 refine wpAny_bind (tupleItemsOf_ ht ?_)
 refine wpAny_bind (wpAny_typeOf hTs ?_)
 rw [if_pos (by decide)]
 refine wpAny_bind (jI hs pl pu ?_)
 have hno:¬ ((((sIx items.size 0 lo:Nat):Int) == 0 && (1:Int) == 1 && (sIx items.size items.size hi - sIx items.size 0 lo) == items.size)=true):=by
  intro q
  rw [Bool.and_eq_true,Bool.and_eq_true] at q
  have q1:((sIx items.size 0 lo:Nat):Int)=0:=eq_of_beq q.1.1
  have q2:sIx items.size items.size hi - sIx items.size 0 lo=items.size:=eq_of_beq q.2
  exact hw ⟨by omega,by omega⟩
 show wpAny _ _ (if (((sIx items.size 0 lo:Nat):Int) == 0 && (1:Int) == 1 && (sIx items.size items.size hi - sIx items.size 0 lo) == items.size)=true then _ else _) _ _ s
 rw [if_neg hno,xP]
 first
  | exact wpAny_bind (m:=Builtin.Tuple.tupleExact _) (wpAny_newObj_type (wpAny_pure ⟨_,rfl,wpAny_pure h⟩) htake)
  | exact wpAny_bind (m:=Builtin.Tuple.tupleExact _) (wpAny_newObj_type (wpAny_bind (wpAny_pure (wpAny_pure ⟨_,rfl,wpAny_pure h⟩))) htake)
  | exact wpAny_bind (wpAny_bind (m:=Builtin.Tuple.tupleExact _) (wpAny_newObj_type (wpAny_pure (wpAny_pure ⟨_,rfl,wpAny_pure h⟩)) htake))
  | exact wpAny_bind (wpAny_bind (m:=Builtin.Tuple.tupleExact _) (wpAny_newObj_type (wpAny_pure ⟨_,rfl,wpAny_pure h⟩) htake))
end
end HT
namespace L2
open PySem PySem.Spec PyProof.Rows
noncomputable abbrev TO:=St->Hp->(Option Int->Hp->Prop)->Prop
noncomputable def PO (X:Cx)(e:Option Expr)(t:TO):Prop :=
 ∀ (pins:bK) (s:Shared) (σ:St) (H:Hp) (Q:Option Int->Hp->Prop),aF X pins σ H s->t σ H Q ->
  wpAny (model X.prog X.w) X.A (evalPart e X.env) (fun u s'=>∃ o H',aF X pins σ H' s'/\IsPart u o/\Q o H') X.xe s
noncomputable def tNoPart:TO:=fun _ H Q=>Q none H
noncomputable def tPart (t:TE):TO:=fun σ H Q=>t σ H fun x H1=>∃ i,x = .int i/\Q (some i) H1
theorem e9 {ns:List Int}:∀ {us:bJ},aK (ns.map V.int) us->IntsAre us ns:=by
 induction ns with
 | nil=>intro us r;rw [List.map_nil] at r;cases r;exact .nil
 | cons n ns ih =>
  intro us r
  rw [List.map_cons] at r
  cases r with
  | cons r1 r2 =>
   obtain ⟨t,e⟩:=r1
   subst e
   exact .cons n t (ih r2)
section
variable {X:Cx}{e:Expr}{te:TE}{lo hi:Option Expr}{tl th:TO}{pos p2:Pos}
theorem kQ:PO X none tNoPart:=by
 intro pins s σ H Q I h
 rw [evalPart_none]
 exact wpAny_pure ⟨none,H,I,.none,h⟩
theorem kP (h:PE X e te):PO X (some e) (tPart te):=by
 intro pins s σ H Q I hw
 rw [evalPart_some]
 refine thn (h pins s σ H _ I hw) fun u s1 ⟨x,H1,I1,r1,q1⟩=>?_
 obtain ⟨i,rfl,q⟩:=q1
 obtain ⟨t,rfl⟩:=r1
 exact ⟨some i,H1,I1,.int i t,q⟩
noncomputable def EG (X:Cx)(r:V->Option Int->Option Int->Hp->VK->Prop):Prop :=
 ∀ (pins:bK) (s:Shared) (σ:St) (H:Hp) (x:V) (v vl vu:Value) (lo hi:Option Int) (sl:Addr) (Q:VK),aF X pins σ H s->aL x v->s.heap.IsSliceOf sl vl vu .none->IsPart vl lo->IsPart vu hi->r x lo hi H Q ->
  ∃ T id,typeLookup (.type T) "__getitem__" = pure (some (.builtin id))/\s.TypeIs v T/\wpAny (model X.prog X.w) X.A (getItem v (.ref sl)) (EP X pins σ Q) X.xe s
noncomputable def tSl (r:V->Option Int->Option Int->Hp->VK->Prop)(te:TE)(tl th:TO):TE:=fun σ H Q=>te σ H fun x H1=>tl σ H1 fun l H2=>th σ H2 fun u H3=>r x l u H3 Q
theorem iX {r:V->Option Int->Option Int->Hp->VK->Prop}(hr:EG X r)(he:PE X e te)(hl:PO X lo tl)(hu:PO X hi th):PE X (.Subscript e (.Slice lo hi none p2) pos) (tSl r te tl th):=by
 intro pins s σ H Q I h
 refine Subscript_ (thn (he pins s σ H _ I h) fun v s1 ⟨x,H1,I1,r1,q1⟩=>?_)
 refine wpAny_Slice (thn (hl pins s1 σ H1 _ I1 q1) fun vl s2 ⟨l,H2,I2,pl,q2⟩=>thn (hu pins s2 σ H2 _ I2 q2) fun vu s3 ⟨u,H3,I3,pu,q3⟩=>?_)
 rw [evalPart_none]
 refine wpAny_pure ?_
 have I4:aF X pins σ H3 { s3 with heap:=s3.heap.push { cls:=.type "slice",data:=.fields #[vl,vu,.none] } }:=I3.kept (t':=s3.toks) fun b ob q=>Heap.get?_push_of_some _ q
 obtain ⟨T,id,hT,ht,hg⟩:=hr pins { s3 with heap:=s3.heap.push { cls:=.type "slice",data:=.fields #[vl,vu,.none] } } σ H3 x v vl vu l u s3.heap.objs.size Q I4 r1 (Heap.IsSliceOf.new ..) pl pu q3
 show wpAny (model X.prog X.w) X.A (subscriptTail e (.Slice lo hi none p2) v (.ref s3.heap.objs.size)) (EP X pins σ Q) X.xe { s3 with heap:=s3.heap.push { cls:=.type "slice",data:=.fields #[vl,vu,.none] } }
 exact tail_any (ops:=[.ref s3.heap.objs.size,v]) ht hT hg (by with_unfolding_all rfl)
noncomputable def cutV (xs:List V)(lo hi:Option Int):List V:=(xs.drop (HT.sIx xs.length 0 lo)).take (HT.sIx xs.length xs.length hi - HT.sIx xs.length 0 lo)
theorem kD (xs:List V)(lo hi:Option Int):(cutV xs lo hi).length<=xs.length:=by
 unfold cutV
 rw [List.length_take,List.length_drop]
 omega
noncomputable def rSlT (K:PySem.W.Frag):V->Option Int->Option Int->Hp->VK->Prop:=fun x lo hi H Q=>∃ a xs,x = .ref a/\d7 K H a xs /\
 ¬ (HT.sIx xs.length 0 lo=0/\HT.sIx xs.length xs.length hi=xs.length)/\∀ p,H p=none->Q (.ref p) (upd H p (.tup (cutV xs lo hi)))
theorem CA:EG X (rSlT X.K):=by
 intro pins s σ H x v vl vu lo hi sl Q I rx hs pl pu h
 obtain ⟨a,xs,rfl,hx,hw,q⟩:=h
 cases rx
 obtain ⟨its,r,ht,hz⟩:=I.tuple hx
 have hlen:its.toArray.size=xs.length:=by rw [List.size_toArray];exact r.length.symm
 refine ⟨"tuple",_,PyProof.Rows.slot_tuple_getitem.lookup,ht.typeIs,?_⟩
 refine HT.getItem_tuple_cut ht hs pl pu (by rw [hlen];exact hw) ?_ (by rw [hlen];exact hz)
 rw [hlen]
 refine ⟨.ref s.heap.objs.size,_,I.laid (t':=s.toks) (o:=.tup (cutV xs lo hi)) (fun b ob q=>Heap.get?_push_of_some _ q) (Nat.le_refl _) ?_,rfl,q _ (I.hok.fresh (Nat.le_refl _))⟩
 exact ⟨Nat.le_trans (kD xs lo hi) hz,_,(r.drop (HT.sIx xs.length 0 lo)).take (HT.sIx xs.length xs.length hi - HT.sIx xs.length 0 lo),IsTup.new _ _⟩
noncomputable def rCatT (K:PySem.W.Frag):R2:=fun x y H Q=>∃ a b xs ys,x = .ref a/\y = .ref b/\d7 K H a xs/\d7 K H b ys/\xs≠[]/\xs.length + ys.length<=sizeLine /\
 (ys=[]->Q (.ref a) H)/\(ys≠[]->∀ p,H p=none->Q (.ref p) (upd H p (.tup (xs ++ ys))))
theorem aK.nil_iff {xs:List V}{us:bJ}(r:aK xs us):us=[] ↔ xs=[]:=by
 cases r with
 | nil=>simp
 | cons _ _=>simp
theorem uK:fJ X (binaryOp .Add) (rCatT X.K):=by
 intro pins s σ H x y v u Q I rx ry h
 obtain ⟨a,b,xs,ys,rfl,rfl,ha,hb,hx,hz,q1,q2⟩:=h
 cases rx
 cases ry
 obtain ⟨its,r1,p1,_⟩:=I.tuple ha
 obtain ⟨its2,r2,p2,_⟩:=I.tuple hb
 refine HT.cat_tup p1 p2 (fun z=>hx (r1.nil_iff.mp z)) (fun z=>⟨.ref a,H,I,rfl,q1 (r2.nil_iff.mp z)⟩) (fun z=>?_) (by rw [← r1.length,← r2.length];exact hz)
 refine ⟨.ref s.heap.objs.size,_,I.laid (t':=s.toks) (o:=.tup (xs ++ ys)) (fun b ob q=>Heap.get?_push_of_some _ q) (Nat.le_refl _) ?_,rfl,q2 (fun w=>z (r2.nil_iff.mpr w)) _ (I.hok.fresh (Nat.le_refl _))⟩
 exact ⟨by rw [List.length_append];exact hz,_,r1.append r2,IsTup.new _ _⟩
end
noncomputable def ixN (n:Nat)(i:Int):Option Nat:=if 0<=i then (if i < n then some i.toNat else none) else if -(n:Int)<=i then some (i + n).toNat else none
noncomputable def atI {α:Type}(xs:List α)(i:Int):Option α:=(ixN xs.length i).bind fun j=>xs[j]?
theorem u7 {n:Nat}{i:Int}{j:Nat}(h:ixN n i=some j):seqIndex? i n=some j/\j < n/\-(n:Int)<=i/\i < n:=by
 unfold ixN at h
 by_cases h0:0<=i
 ·rw [if_pos h0] at h
  by_cases h1:i < n
  ·rw [if_pos h1] at h
   have e:i.toNat=j:=Option.some.inj h
   exact ⟨by rw [seqIndex_of h0 h1,e],by omega,by omega,h1⟩
  ·rw [if_neg h1] at h;cases h
 ·rw [if_neg h0] at h
  by_cases h1 : -(n:Int)<=i
  ·rw [if_pos h1] at h
   have e:(i + n).toNat=j:=Option.some.inj h
   exact ⟨by rw [seqIndex_neg (by omega) h1,e],by omega,h1,by omega⟩
  ·rw [if_neg h1] at h;cases h
theorem pS {α:Type}{xs:List α}{i:Int}{v:α}(h:atI xs i=some v):∃ j,seqIndex? i xs.length=some j/\xs[j]?=some v/\j < xs.length/\-(xs.length:Int)<=i/\i < xs.length:=by
 unfold atI at h
 cases e:ixN xs.length i with
 | none=>rw [e] at h;cases h
 | some j =>
  rw [e] at h
  obtain ⟨h1,h2,h3,h4⟩:=u7 e
  exact ⟨j,h1,h,h2,h3,h4⟩
noncomputable def BH (b:Expr):Prop:=∀ o i,subscripted b false o i=operate [o,i] (getItem o i)
noncomputable def zP (X:Cx)(r:R2):Prop :=
 ∀ (value slice:Expr) (pins:bK) (s:Shared) (σ:St) (H:Hp) (x y:V) (v u:Value) (Q:VK),aF X pins σ H s->aL x v->aL y u->r x y H Q ->
  subscripted slice false v u=operate [v,u] (getItem v u)->wpAny (model X.prog X.w) X.A (subscriptTail value slice v u) (EP X pins σ Q) X.xe s
noncomputable def E7 (X:Cx)(id:String)(r:V->List V->Hp->VK->Prop):Prop :=
 ∀ (pins:bK) (s:Shared) (σ:St) (H:Hp) (x:V) (xs:List V) (v:Value) (us:bJ) (Q:VK),aF X pins σ H s->aL x v->aK xs us->r x xs H Q ->
  wpAny (model X.prog X.w) X.A (call (.builtin id) (v :: us)) (EP X pins σ Q) X.xe s
section
variable {X:Cx}{a b:Expr}{ta tb:TE}{pos:Pos}
theorem zP.or {r r':R2}(h:zP X r)(h':zP X r'):zP X (fun x y H Q=>r x y H Q∨r' x y H Q):=by
 intro value slice pins s σ H x y v u Q I rx ry q hs
 rcases q with q | q
 ·exact h value slice pins s σ H x y v u Q I rx ry q hs
 ·exact h' value slice pins s σ H x y v u Q I rx ry q hs
theorem hW {r:R2}(hr:zP X r)(ha:PE X a ta)(hb:PE X b tb)(hs:BH b):PE X (.Subscript a b pos) (tOp r ta tb):=by
 intro pins s σ H Q I h
 exact Subscript_ (binT ha hb I h fun v u s2 x y H2 I2 rx ry q=>hr a b pins s2 σ H2 x y v u Q I2 rx ry q (hs _ _))
noncomputable def rIxL (K:PySem.W.Frag):R2:=fun x y H Q=>∃ p xs i v,x = .ref p/\y = .int i/\cY K H p xs/\atI xs i=some v/\Q v H
noncomputable def rIxT (K:PySem.W.Frag):R2:=fun x y H Q=>∃ p xs i v,x = .ref p/\y = .int i/\d7 K H p xs/\atI xs i=some v/\Q v H
noncomputable def rIxS:R2:=fun x y H Q=>∃ z i c,x = .str z/\y = .int i/\z.length<=sizeLine/\atI z.cps.toList i=some c/\Q (.str ⟨#[c]⟩) H
theorem A1:zP X (rIxL X.K):=by
 intro value slice pins s σ H x y v u Q I rx ry h hs
 obtain ⟨p,xs,i,z,rfl,rfl,hq,he,q⟩:=h
 cases rx
 obtain ⟨t,rfl⟩:=ry
 obtain ⟨its,r,pl,hz⟩:=I.list hq
 obtain ⟨j,h1,h2,h3,h4,h5⟩:=pS he
 obtain ⟨w,ew,rw'⟩:=r.get h2
 have hl:=r.length
 have hn:=line63
 have fin:EP X pins σ Q w s:=⟨z,H,I,rw',q⟩
 by_cases h0:0<=i
 ·have hj:i.toNat=j:=by
   rw [seqIndex_of h0 h5] at h1
   exact Option.some.inj h1
  exact item_listR pl.isList h0 (by omega) (by rw [hj];simpa using ew) fin hs
 ·have hj:(i + (its.toArray.size:Int)).toNat=j:=by
   rw [seqIndex_neg (by omega) h4] at h1
   rw [List.size_toArray,← hl]
   exact Option.some.inj h1
  exact subscriptTail_builtinR (x:=w) pl.isList.typeIs slot_list_getitem.lookup
   (wpAny_getItem_list_neg (Q:=fun r s'=>r=w/\EP X pins σ Q r s') pl.isList (by omega) (by rw [List.size_toArray] <;> omega) (by omega) (by rw [hj];simpa using ew) ⟨rfl,fin⟩) hs
theorem C8:zP X (rIxT X.K):=by
 intro value slice pins s σ H x y v u Q I rx ry h hs
 obtain ⟨p,xs,i,z,rfl,rfl,hq,he,q⟩:=h
 cases rx
 obtain ⟨t,rfl⟩:=ry
 obtain ⟨its,r,pl,hz⟩:=I.tuple hq
 obtain ⟨j,h1,h2,h3,h4,h5⟩:=pS he
 obtain ⟨w,ew,rw'⟩:=r.get h2
 have hl:=r.length
 have hn:=line63
 have fin:EP X pins σ Q w s:=⟨z,H,I,rw',q⟩
 exact subscriptTail_builtinR (x:=w) pl.typeIs slot_tuple_getitem.lookup
  (getItem_tuple (j:=j) (Q:=fun r s'=>r=w/\EP X pins σ Q r s') pl (by omega) (by omega) (by rw [List.size_toArray,← hl];exact h1) (by simpa using ew) ⟨rfl,fin⟩) hs
theorem C9:zP X rIxS:=by
 intro value slice pins s σ H x y v u Q I rx ry h hs
 obtain ⟨z,i,c,rfl,rfl,hz,he,q⟩:=h
 obtain ⟨t,rfl⟩:=rx
 obtain ⟨t',rfl⟩:=ry
 obtain ⟨j,h1,h2,h3,h4,h5⟩:=pS he
 have hl:z.cps.toList.length=z.length:=by simp [Str.length]
 rw [hl] at h1 h4 h5
 have hn:=line63
 exact tail_any (typeIs_str s z t) slot_str_getitem.lookup (getItem_str (c:=c) (by
  have e1:decide (i < -(2 ^ 63:Int))=false:=decide_eq_false (by omega)
  have e2:decide (i ≥ 2 ^ 63)=false:=decide_eq_false (by omega)
  rw [e1,e2,Bool.or_false]) (by rw [h1];simpa using h2) ⟨.str ⟨#[c]⟩,H,I.tok _,⟨_,rfl⟩,q⟩) hs
noncomputable def rIx (K:PySem.W.Frag):R2:=fun x y H Q=>rIxL K x y H Q∨rIxT K x y H Q∨rIxS x y H Q
theorem yO:zP X (rIx X.K):=A1.or (C8.or C9)
theorem tI (its:bJ)(n j:Nat)(u:Value):Obj.mapSeq (·.setIfInBounds j u) { cls:=.type "list",data:=.seq its.toArray n }={ cls:=.type "list",data:=.seq (its.set j u).toArray n }:=by
 simp [Obj.mapSeq]
theorem aF.lst {pins:bK}{σ:St}{H:Hp}{s:Shared}{p:Addr}{xs:List V}(I:aF X pins σ H s)(h:H p=some (.lst xs)) :
  ∃ (its:bJ) (n:Nat),aK xs its/\s.heap.get? p=some { cls:=.type "list",data:=.seq its.toArray n }/\xs.length<=sizeLine:=by
 obtain ⟨z,its,n,r,e⟩:=I.hok p _ h
 exact ⟨its,n,r,e,z⟩
theorem aF.lstUpd {pins:bK}{σ:St}{H:Hp}{s:Shared}{p:Addr}{xs ys:List V}{its its':bJ}{n n':Nat}{f:Obj->Obj}(I:aF X pins σ H s)(h:H p=some (.lst xs))
  (ho:s.heap.get? p=some { cls:=.type "list",data:=.seq its.toArray n }) (hf:f { cls:=.type "list",data:=.seq its.toArray n }={ cls:=.type "list",data:=.seq its'.toArray n' }) (r:aK ys its') (hz:ys.length<=sizeLine) (t:Nat) :
  aF X pins σ (upd H p (.lst ys)) { s with heap:=s.heap.update p f,toks:=t }:=by
 have e:(s.heap.update p f).get? p=some { cls:=.type "list",data:=.seq its'.toArray n' }:=by
  rw [Heap.get?_update_self f ho (by rw [hf] <;> rfl),hf]
 refine I.write (x:=p) (e:=p) (by rw [h];trivial) (.inl rfl) (fun b u hb q=>(Heap.get?_update_other _ _ (Ne.symm hb)).trans q) ⟨_,e⟩ ?_
 exact ⟨hz,its',n',r,e⟩
noncomputable def rSetL:V->V->V->Hp->(Hp->Prop)->Prop:=fun o i v H Q=>∃ p xs k j,o = .ref p/\i = .int k/\H p=some (.lst xs)/\ixN xs.length k=some j/\Q (upd H p (.lst (xs.set j v)))
theorem qI:EA X rSetL:=by
 intro pins s σ H o i v ov iv u Q I ro ri rv h
 obtain ⟨p,xs,k,j,rfl,rfl,hp,hj,q⟩:=h
 cases ro
 obtain ⟨t,rfl⟩:=ri
 obtain ⟨its,n,r,ho,hz⟩:=I.lst hp
 obtain ⟨h1,h2,h3,h4⟩:=u7 hj
 have hl:=r.length
 have hn:=line63
 have I':aF X pins σ (upd H p (.lst (xs.set j v))) { s with heap:=s.heap.update p (Obj.mapSeq (·.setIfInBounds j u)) } :=
  I.lstUpd hp ho (tI its n j u) (r.set rv j) (by rw [List.length_set];exact hz) s.toks
 by_cases h0:0<=k
 ·have hk:k.toNat=j:=by
   rw [seqIndex_of h0 h4] at h1
   exact Option.some.inj h1
  exact PySem.W.ki_setAt ho h0 (by omega) (by rw [List.size_toArray,← hl];exact h4) (by rw [hk];exact ⟨_,I',q⟩)
 ·have hk:(k + (its.toArray.size:Int)).toNat=j:=by
   rw [seqIndex_neg (by omega) h3] at h1
   rw [List.size_toArray,← hl]
   exact Option.some.inj h1
  exact PySem.W.ki_setBack ho (by omega) (by rw [List.size_toArray,← hl];exact h3) (by omega) (by rw [hk];exact ⟨_,I',q⟩)
theorem oT (lo hi:Option Int)(n:Nat):(sliceBounds lo hi none n).1=((HT.sIx n 0 lo:Nat):Int)/\(sliceBounds lo hi none n).2.1=((HT.sIx n n hi:Nat):Int)/\(sliceBounds lo hi none n).2.2=1:=by
 refine ⟨?_,?_,rfl⟩
 ·cases lo with
  | none=>simp [sliceBounds,HT.sIx]
  | some i =>
   simp only [sliceBounds,HT.sIx,Option.getD_none,show (1:Int) > 0 by decide,if_true]
   by_cases h:i < 0
   ·simp only [h,if_true] <;> omega
   ·simp only [h,if_false] <;> omega
 ·cases hi with
  | none=>simp [sliceBounds,HT.sIx]
  | some i =>
   simp only [sliceBounds,HT.sIx,Option.getD_none,show (1:Int) > 0 by decide,if_true]
   by_cases h:i < 0
   ·simp only [h,if_true] <;> omega
   ·simp only [h,if_false] <;> omega
theorem mZ (its:bJ)(lo hi:Option Int):slicePick its.toArray lo hi none=((its.drop (HT.sIx its.length 0 lo)).take (HT.sIx its.length its.length hi - HT.sIx its.length 0 lo)).toArray:=by
 obtain ⟨h1,h2,h3⟩:=oT lo hi its.toArray.size
 unfold slicePick
 rw [h1,h2,h3]
 simp only [sliceRange_one,pick_run,List.size_toArray] <;> rfl
noncomputable def rSlL (K:PySem.W.Frag):V->Option Int->Option Int->Hp->VK->Prop:=fun x lo hi H Q=>∃ a xs,x = .ref a/\cY K H a xs/\∀ p,H p=none->Q (.ref p) (upd H p (.lst (cutV xs lo hi)))
theorem zV:EG X (rSlL X.K):=by
 intro pins s σ H x v vl vu lo hi sl Q I rx hs pl pu h
 obtain ⟨a,xs,rfl,hx,q⟩:=h
 cases rx
 obtain ⟨its,r,ht,hz⟩:=I.list hx
 have hlen:=r.length
 refine ⟨"list",_,slot_list_getitem.lookup,ht.isList.typeIs,?_⟩
 refine wpAny_getItem_list_slice ht.isList hs pl pu .none (by simp) ?_ (by rw [List.size_toArray] <;> omega)
 rw [mZ,← hlen]
 refine ⟨.ref s.heap.objs.size,_,I.laid (t':=s.toks) (o:=.lst (cutV xs lo hi)) (fun b ob q=>Heap.get?_push_of_some _ q) (Nat.le_refl _) ?_,rfl,q _ (I.hok.fresh (Nat.le_refl _))⟩
 exact ⟨Nat.le_trans (kD xs lo hi) hz,_,0,(r.drop (HT.sIx xs.length 0 lo)).take (HT.sIx xs.length xs.length hi - HT.sIx xs.length 0 lo),Heap.get?_push_size _ rfl⟩
theorem jE:bI X (.builtin "len") (fun xs H Q=>∃ p ys,xs=[.ref p]/\(cY X.K H p ys∨d7 X.K H p ys)/\Q (.int ys.length) H):=by
 intro pins s σ H xs us Q I r h
 obtain ⟨p,ys,rfl,hq,q⟩:=h
 obtain ⟨u,rfl,rx⟩:=vals1 r
 cases rx
 have hn:=line63
 rcases hq with hq | hq
 ·obtain ⟨its,r',pl,hz⟩:=I.list hq
  have hlen:=r'.length
  exact Calls.call_len_list pl.isList (by simp only [List.size_toArray] <;> omega) ⟨.int ys.length,H,I.tok _,⟨s.toks + 1,by rw [List.size_toArray,hlen]⟩,q⟩
 ·obtain ⟨its,r',pl,hz⟩:=I.tuple hq
  have hlen:=r'.length
  exact len_tuple pl (by simp only [List.size_toArray] <;> omega) ⟨.int ys.length,H,I.tok _,⟨s.toks + 1,by rw [List.size_toArray,hlen]⟩,q⟩
theorem pQ:bI X (.builtin "len") (fun xs H Q=>∃ z,xs=[.str z]/\z.length<=sizeLine/\Q (.int z.length) H):=by
 intro pins s σ H xs us Q I r h
 obtain ⟨z,rfl,hz,q⟩:=h
 obtain ⟨u,rfl,t,rfl⟩:=vals1 r
 have hn:=line63
 exact len_str (by omega) ⟨.int z.length,H,I.tok _,⟨_,rfl⟩,q⟩
theorem pP:bI X (.type "list") (fun xs H Q=>∃ p ys,xs=[.ref p]/\(cY X.K H p ys∨d7 X.K H p ys)/\∀ l,H l=none->Q (.ref l) (upd H l (.lst ys))):=by
 intro pins s σ H xs us Q I r h
 obtain ⟨p,ys,rfl,hq,q⟩:=h
 obtain ⟨u,rfl,rx⟩:=vals1 r
 cases rx
 have fin:∀ (its:bJ),aK ys its->ys.length<=sizeLine->∀ (h':Heap) (c':Nat),(∀ b o',s.heap.get? b=some o'->h'.get? b=some o') ->
   h'.get? s.heap.objs.size=some { cls:=.type "list",dict:=none,data:=.seq its.toArray c',slots:=#[] }->EP X pins σ Q (.ref s.heap.objs.size) { s with heap:=h' }:=fun its r' hz h' c' kp e =>
  ⟨.ref s.heap.objs.size,_,I.laid (t':=s.toks) kp (Nat.le_refl _) (show aU X.prog X.w _ h' _ (.lst ys) from ⟨hz,its,c',r',e⟩),rfl,q _ (I.hok.fresh (Nat.le_refl _))⟩
 rcases hq with hq | hq
 ·obtain ⟨its,r',pl,hz⟩:=I.list hq
  have hlen:=r'.length
  obtain ⟨o,ho,hc,n,hd⟩:=pl.isList
  exact call_list_seq p (.inl rfl) ho hc hd (fun h' c' kp e=>fin its r' hz h' c' kp e) (by simp only [List.size_toArray] <;> omega)
 ·obtain ⟨its,r',pl,hz⟩:=I.tuple hq
  have hlen:=r'.length
  obtain ⟨o,ho,hc,n,hd⟩:=pl
  exact call_list_seq p (.inr rfl) ho hc hd (fun h' c' kp e=>fin its r' hz h' c' kp e) (by simp only [List.size_toArray] <;> omega)
theorem m6:bI X (.type "tuple") (fun xs H Q=>∃ p ys,xs=[.ref p]/\((cY X.K H p ys/\∀ l,H l=none->Q (.ref l) (upd H l (.tup ys)))∨(d7 X.K H p ys/\Q (.ref p) H))):=by
 intro pins s σ H xs us Q I r h
 obtain ⟨p,ys,rfl,h⟩:=h
 obtain ⟨u,rfl,rx⟩:=vals1 r
 cases rx
 rcases h with ⟨hq,q⟩ | ⟨hq,q⟩
 ·obtain ⟨its,r',pl,hz⟩:=I.list hq
  have hlen:=r'.length
  refine call_tuple_list pl.isList (fun h' kp=>?_) (by simp only [List.size_toArray] <;> omega)
  have I1:aF X pins σ H { s with heap:=h' }:=I.kept (t':=s.toks) kp
  have I2:aF X pins σ (upd H h'.objs.size (.tup ys)) { s with heap:=h'.push { cls:=.type "tuple",data:=.seq its.toArray } } :=
   I1.laid (t':=s.toks) (fun b o e=>Heap.get?_push_of_some _ e) (Nat.le_refl _) (show aU X.prog X.w _ _ _ (.tup ys) from ⟨hz,its,r',IsTup.new _ _⟩)
  exact ⟨.ref h'.objs.size,_,I2,rfl,q _ (I1.hok.fresh (Nat.le_refl _))⟩
 ·obtain ⟨its,r',pl,hz⟩:=I.tuple hq
  exact call_tuple_same pl ⟨.ref p,H,I,rfl,q⟩
noncomputable def tyV (K:PySem.W.Frag)(T:String)(x:V)(H:Hp):Prop:=match x with
 | .str _=>T="str"
 | .int _=>T="int"
 | .ref p=>(T="list"/\∃ xs,cY K H p xs)∨(T="tuple"/\∃ o,K.lookup p=some o/\o.cls = .type "tuple"/\o.dict=none) ∨
   (T="dict"/\((∃ kvs,H p=some (.dK kvs))∨∃ kvs,H p=some (.dT kvs)))∨(T="set"/\∃ S n,H p=some (.set S n))
 | _=>False
theorem BY {pins:bK}{σ:St}{H:Hp}{s:Shared}{T:String}{x:V}{v:Value}(I:aF X pins σ H s)(r:aL x v)(ty:tyV X.K T x H) :
  s.TypeIs v T/\∀ a,v = .ref a->∃ ob,s.heap.get? a=some ob/\ob.dict=none:=by
 cases x with
 | str z =>
  obtain ⟨t,rfl⟩:=r
  cases (show T="str" from ty)
  exact ⟨typeIs_str s z t,fun _ e=>nomatch e⟩
 | int i =>
  obtain ⟨t,rfl⟩:=r
  cases (show T="int" from ty)
  exact ⟨typeIs_int s i t,fun _ e=>nomatch e⟩
 | ref p =>
  cases r
  rcases ty with ⟨rfl,xs,hq⟩ | ⟨rfl,o,hk,hc,hd⟩ | ⟨rfl,hk⟩ | ⟨rfl,S,n,hk⟩
  ·obtain ⟨its,_,pl,_⟩:=I.list hq
   refine ⟨pl.isList.typeIs,fun a e=>?_⟩
   cases e
   obtain ⟨o,n,e,c,hd,_⟩:=pl
   exact ⟨o,e,hd⟩
  ·refine ⟨⟨o,I.kIn p o hk,hc⟩,fun a e=>?_⟩
   cases e
   exact ⟨o,I.kIn _ o hk,hd⟩
  ·have z:∃ o,s.heap.get? p=some o/\o.ExactDict:=by
    rcases hk with ⟨kvs,hk⟩ | ⟨kvs,hk⟩
    ·obtain ⟨_,_,_,_,o,_,_,e,ex,_⟩:=I.hok p _ hk
     exact ⟨o,e,ex⟩
    ·obtain ⟨_,_,_,_,o,_,_,e,ex,_⟩:=I.hok p _ hk
     exact ⟨o,e,ex⟩
   obtain ⟨o,e,ex⟩:=z
   refine ⟨⟨o,e,ex.1⟩,fun a e2=>?_⟩
   cases e2
   exact ⟨o,e,ex.2.1⟩
  ·obtain ⟨o,_,_,_,e,ex,_⟩:=I.hok p _ hk
   refine ⟨⟨o,e,ex.1⟩,fun a e2=>?_⟩
   cases e2
   exact ⟨o,e,ex.2.1⟩
 | _=>exact False.elim ty
noncomputable def tBM0 (K:PySem.W.Frag)(T:String)(r:V->List V->Hp->VK->Prop)(to:TE):TE:=fun σ H Q=>to σ H fun x H1=>tyV K T x H1/\r x [] H1 Q
noncomputable def tBM (K:PySem.W.Frag)(T:String)(r:V->List V->Hp->VK->Prop)(to:TE)(t:TA):TE:=fun σ H Q=>to σ H fun x H1=>tyV K T x H1/\t σ H1 fun xs H2=>r x xs H2 Q
variable {o e:Expr}{es:g9}{to:TE}{t:TA}{name:Str}{apos cpos:Pos}{T id:String}{r:V->List V->Hp->VK->Prop}
theorem uH (pa:PlainAttrs T)(slot:Slot T name id)(hty:typeOf (.builtin id)=pure (.type "method_descriptor"))(hm:E7 X id r)(ho:PE X o to)(ha:PA X (e :: es) t)
  (hbase:attributeBase o name X.env (eval o X.env)=eval o X.env:=by rfl)
  (hfew:((backTo cpos (starEach (e :: es) X.env)).all (fun x=>!x.1) && (backToKw cpos (keywordEach [] X.env)).all (fun x=>x.1.isSome)
   && decide ((e :: es).length + ([]:List Keyword).length + (if ([]:List Keyword).isEmpty then 0 else 1) < 30))=true:=by rfl)
  (hline:(apos.endLine == cpos.line)=true:=by rfl) (hs:starEach (e :: es) X.env=(false,eval e X.env) :: starEach es X.env:=by rfl) (hplain:(backTo cpos (starEach es X.env)).any (·.1)=false:=by rfl) :
  PE X (.Call (.Attribute o name apos) (e :: es) [] cpos) (tBM X.K T r to t):=by
 intro pins s σ H Q I h
 refine wpAny_Call_method_late hbase hfew hline rfl (thn (ho pins s σ H _ I h) fun v s1 ⟨x,H1,I1,r1,ty,q1⟩=>?_)
 obtain ⟨h1,h2⟩:=BY I1 r1 ty
 refine ⟨T,id,pa,slot,hty,h1,h2,?_⟩
 have hA:=ha cpos pins s1 σ H1 _ I1 q1
 rw [hs] at hA ⊢
 refine Calls.callWith_builtin (by show (false || (backTo cpos (starEach es X.env)).any (·.1))=false;rw [hplain] <;> rfl) (Calls.evalArgs_plain ?_)
 exact thn hA fun us s2 ⟨vs,H2,I2,r2,q2⟩=>hm pins s2 σ H2 x vs v us Q I2 r1 r2 q2
end
noncomputable def E1 (X:Cx)(id:String)(r:V->List V->Hp->VK->Prop):Prop :=
 ∀ (pins:bK) (s:Shared) (σ:St) (H:Hp) (x:V) (xs:List V) (v:Value) (us:bJ) (Q:VK),aF X pins σ H s->aL x v->aK xs us->r x xs H Q ->
  wpAny (model X.prog X.w) X.A (call (.builtin id) (v :: us)) (EP X pins σ Q) X.xe s
theorem aK.one:∀ {x:V} {us:bJ},aK [x] us->∃ u,us=[u]/\aL x u
 | _,_,.cons r .nil=>⟨_,rfl,r⟩
theorem aK.rep {xs:List V}{us:bJ}(h:aK xs us):∀ k:Nat,aK (List.replicate k xs).flatten (List.replicate k us).flatten
 | 0=>.nil
 | k + 1=>by
  rw [List.replicate_succ,List.replicate_succ,List.flatten_cons,List.flatten_cons]
  exact aK.append h (aK.rep h k)
theorem jT (its:bJ):∀ (k:Nat) (acc:bJ),
  List.foldl (fun x1 x2=>x1 ++ x2) acc.toArray (List.replicate k its.toArray)=(acc ++ (List.replicate k its).flatten).toArray
 | 0,acc=>by simp
 | k + 1,acc=>by
  have e:acc.toArray ++ its.toArray=(acc ++ its).toArray:=by simp
  have e2:(acc ++ its) ++ (List.replicate k its).flatten=acc ++ (List.replicate (k + 1) its).flatten:=by
   rw [List.replicate_succ,List.flatten_cons,List.append_assoc]
  rw [← e2,← jT its k (acc ++ its),← e,List.replicate_succ,List.foldl_cons]
section
variable {X:Cx}{pins:bK}{σ:St}{H:Hp}{s:Shared}{l b:Addr}{xs ys zs:List V}
theorem aF.lset {its its':bJ}{n:Nat}{f:d8->d8}{t':Nat}(I:aF X pins σ H s)(hH:H l=some (.lst xs))
  (e:s.heap.get? l=some { cls:=.type "list",data:=.seq its.toArray n }) (hf:f its.toArray=its'.toArray) (hv:aK ys its') (hz:ys.length<=sizeLine) :
  aF X pins σ (upd H l (.lst ys)) { s with heap:=s.heap.update l (Obj.mapSeq f),toks:=t' }:=by
 have q:=PySem.IsL.update e f
 rw [hf] at q
 refine I.write (x:=l) (e:=l) (by rw [hH];exact trivial) (.inl rfl) (fun b' u hb hu=>(Heap.get?_update_other s.heap (Obj.mapSeq f) (Ne.symm hb)).trans hu) ⟨_,q⟩ ?_
 exact ⟨hz,its',_,hv,q⟩
theorem aF.lnew {its:bJ}{t':Nat}(I:aF X pins σ H s)(hv:aK ys its)(hz:ys.length<=sizeLine) :
  aF X pins σ (upd H s.heap.objs.size (.lst ys)) { s with heap:=s.heap.push { cls:=.type "list",data:=.seq its.toArray },toks:=t' } :=
 I.laid (fun _ _ q=>Heap.get?_push_of_some _ q) (Nat.le_refl _) ⟨hz,its,0,hv,Heap.get?_push_size _ rfl⟩
theorem aF.fresh (I:aF X pins σ H s):H s.heap.objs.size=none:=I.hok.fresh (Nat.le_refl _)
theorem aF.lstM (I:aF X pins σ H s)(hH:H l=some (.lst xs)):xs.length<=sizeLine/\∃ (its:bJ) (n:Nat),aK xs its/\xs.length=its.length/\s.heap.get? l=some { cls:=.type "list",data:=.seq its.toArray n }:=by
 obtain ⟨z,its,n,r,e⟩:=I.hok l _ hH
 exact ⟨z,its,n,r,r.length,e⟩
theorem qW {n:Nat}(h:n<=sizeLine):Builtin.List.listTooLong n=false:=by
 unfold Builtin.List.listTooLong
 exact decide_eq_false (by omega)
end
section
variable {X:Cx}
noncomputable def rAppend:V->List V->Hp->VK->Prop:=fun x vs H Q=>∃ l xs y,x = .ref l/\vs=[y]/\H l=some (.lst xs)/\xs.length < sizeLine/\Q .non (upd H l (.lst (xs ++ [y])))
theorem v5:E1 X "list.append" rAppend:=by
 intro pins s σ H x vs v us Q I rx rv h
 obtain ⟨l,xs,y,rfl,rfl,hH,hz,q⟩:=h
 cases rx
 obtain ⟨u,rfl,ru⟩:=rv.one
 obtain ⟨z,its,n,r,hl,e⟩:=I.lstM hH
 refine call_meets F.slot_list_append ⟨_,e,rfl⟩ F.entry_list_append (F.args_list_append_2 _ _) (PySem.list_append l its.toArray n u (by rw [List.size_toArray];omega)) ⟨e,?_⟩
 refine ⟨.non,_,I.lset (its':=its ++ [u]) hH e (by simp) (r.append (.cons ru .nil)) ?_,rfl,q⟩
 rw [List.length_append,List.length_singleton]
 omega
noncomputable def rExtend:V->List V->Hp->VK->Prop:=fun x vs H Q=>∃ l b xs zs,x = .ref l/\vs=[.ref b]/\H l=some (.lst xs)/\H b=some (.lst zs)/\xs.length + zs.length<=sizeLine/\Q .non (upd H l (.lst (xs ++ zs)))
theorem jQ:E1 X "list.extend" rExtend:=by
 intro pins s σ H x vs v us Q I rx rv h
 obtain ⟨l,b,xs,zs,rfl,rfl,hH,hB,hz,q⟩:=h
 cases rx
 obtain ⟨u,rfl,ru⟩:=rv.one
 cases ru
 obtain ⟨z,its,n,r,hl,e⟩:=I.lstM hH
 obtain ⟨z2,its2,n2,r2,hl2,e2⟩:=I.lstM hB
 have hsz:its.toArray.size + its2.toArray.size<=sizeLine:=by rw [List.size_toArray,List.size_toArray];omega
 have hlong:¬ (!its.toArray.isEmpty && Builtin.List.listTooLong (its.toArray.size + its2.toArray.size))=true:=by
  rw [qW hsz,Bool.and_false]
  exact Bool.false_ne_true
 refine call_meets F.slot_list_extend ⟨_,e,rfl⟩ F.entry_list_extend (F.args_list_extend_2 _ _)
  (AutoSeq1.list_extend_list_list_0 l its.toArray n b its2.toArray n2 hlong (by rw [List.size_toArray];omega) (by omega)) ⟨e,e2,?_⟩
 refine ⟨.non,_,I.lset (its':=its ++ its2) hH e (by simp) (r.append r2) ?_,rfl,q⟩
 rw [List.length_append]
 omega
noncomputable def rPop:V->List V->Hp->VK->Prop:=fun x vs H Q=>∃ l xs y,x = .ref l/\vs=[]/\H l=some (.lst xs)/\xs[xs.length - 1]?=some y/\Q y (upd H l (.lst xs.dropLast))
noncomputable def rPopAt:V->List V->Hp->VK->Prop:=fun x vs H Q=>∃ l xs i k y,x = .ref l/\vs=[.int i]/\H l=some (.lst xs)/\-(2 ^ 63)<=i/\i < 2 ^ 63/\seqIndex? i xs.length=some k/\xs[k]?=some y/\Q y (upd H l (.lst (xs.eraseIdx k)))
noncomputable def rCat:R2:=fun x y H Q=>∃ l b xs zs,x = .ref l/\y = .ref b/\H l=some (.lst xs)/\H b=some (.lst zs)/\xs.length + zs.length<=sizeLine/\∀ p,H p=none->Q (.ref p) (upd H p (.lst (xs ++ zs)))
theorem CN:fJ X (binaryOp .Add) rCat:=by
 intro pins s σ H x y v u Q I rx ry h
 obtain ⟨l,b,xs,zs,rfl,rfl,hH,hB,hz,q⟩:=h
 cases rx
 cases ry
 obtain ⟨z,its,n,r,hl,e⟩:=I.lstM hH
 obtain ⟨z2,its2,n2,r2,hl2,e2⟩:=I.lstM hB
 refine PySem.P.add_list e e2 ?_ (by rw [List.size_toArray,List.size_toArray];omega)
 have ea:its.toArray ++ its2.toArray=(its ++ its2).toArray:=by simp
 rw [ea]
 exact ⟨.ref _,_,I.lnew (t':=s.toks) (r.append r2) (by rw [List.length_append];omega),rfl,q _ I.fresh⟩
noncomputable def rRep:R2:=fun x y H Q=>∃ l k xs,x = .ref l/\y = .int k/\H l=some (.lst xs)/\-(2 ^ 63)<=k/\k < 2 ^ 63/\xs.length * k.toNat<=sizeLine /\
 ∀ p,H p=none->Q (.ref p) (upd H p (.lst (List.replicate k.toNat xs).flatten))
theorem uZ {α:Type}(xs:List α)(k:Nat):(List.replicate k xs).flatten.length=k * xs.length:=by
 induction k with
 | zero=>simp
 | succ k ih=>rw [List.replicate_succ,List.flatten_cons,List.length_append,ih,Nat.succ_mul,Nat.add_comm]
theorem lM:fJ X (binaryOp .Mult) rRep:=by
 intro pins s σ H x y v u Q I rx ry h
 obtain ⟨l,k,xs,rfl,rfl,hH,h1,h2,hz,q⟩:=h
 cases rx
 obtain ⟨t,rfl⟩:=ry
 obtain ⟨z,its,n,r,hl,e⟩:=I.lstM hH
 have hlen:its.toArray.size * k.toNat<=sizeLine:=by rw [List.size_toArray,← hl];exact hz
 have hcap:¬ its.toArray.size * k.toNat > (2 ^ 63 - 1) / 8:=by
  have:(sizeLine:Nat)<=(2 ^ 63 - 1) / 8:=by decide
  omega
 have hfit:¬ (!Builtin.List.listFitsIndex k)=true:=by
  rw [fitsIndex_both h1 h2]
  exact Bool.false_ne_true
 have hlong:¬ Builtin.List.listTooLong (its.toArray.size * k.toNat)=true:=by
  rw [qW hlen]
  exact Bool.false_ne_true
 have hnew:List.foldl (fun x1 x2=>x1 ++ x2) #[] (List.replicate (if its.toArray.isEmpty=true then 0 else k.toNat) its.toArray)=(List.replicate k.toNat its).flatten.toArray:=by
  have f0:∀ m:Nat,List.foldl (fun x1 x2=>x1 ++ x2) #[] (List.replicate m its.toArray)=(List.replicate m its).flatten.toArray:=fun m=>by
   have:=jT its m []
   rw [List.nil_append] at this
   exact this
  rw [f0]
  cases its with
  | nil=>simp
  | cons a r'=>rw [if_neg (by simp)]
 refine wpAny_binaryOp_repeat_ref (T:="list") (U:="int") (by decide) ⟨_,e,rfl⟩ (fun s'=>typeIs_int s' k t) noFill_list_mul F.fills_int_mul F.slot_int_rmul repeat_list F.slot_int_index.lookup
  (call_meets F.slot_int_rmul (typeIs_int s k t) F.entry_int_rmul (F.args_int_rmul_2 _ _) (int___rmul___int_list k t l its.toArray n)
   ⟨e,rfl,⟨_,e,rfl⟩,call_meets F.slot_list_mul ⟨_,e,rfl⟩ F.entry_list_mul (F.args_list_mul_2 _ _) (AutoListH.list___mul___list_int_3 l its.toArray n k t hfit hcap hlong) ⟨e,?_⟩⟩)
 rw [hnew]
 exact ⟨.ref _,_,I.lnew (t':=s.toks) (r.rep k.toNat) (by rw [uZ,Nat.mul_comm];exact hz),rfl,q _ I.fresh⟩
end
end L2
namespace Att
open PySem PySem.W PySem.Calls PyProof.Rows
theorem kK {P:Params}{h:Heap}:∀ (ns:List Int) (vs:bJ),WellAll P h vs (ns.map WData.int)->IntsAre vs ns:=by
 intro ns
 induction ns with
 | nil =>
  intro vs w
  rw [List.map_nil] at w
  cases w
  exact .nil
 | cons n ns ih =>
  intro vs w
  rw [List.map_cons] at w
  cases w with
  | cons a b =>
   cases a
   exact .cons _ _ (ih _ b)
theorem vQ {l:OpenLaw}{n:Nat}(hn:l.most=some n){P:Params}{h:Heap}{args:List WData}{vals:bJ}
  (hpre:l.row.toRowW.claim.pre args=true) (hwl:WellAll P h vals args) :
  ∃ a vs ns,vals=[Value.ref a]/\args=[WData.list (ns.map WData.int)]/\h.get? a=some { cls:=.type "list",data:=.seq vs.toArray }/\IntsAre vs ns/\ns.length<=n:=by
 have hsh:WShape.hasAll [] args [.list .int]=true:=(pre_splitW hpre).1
 have hc:l.pre.holds [] { args:=args }=true:=(pre_splitW hpre).2
 obtain ⟨d,r,rfl,h1,h2⟩:=hasAllW_cons hsh
 obtain rfl:=hasAllW_nil h2
 obtain ⟨xs,rfl,h3⟩:=hasW_list h1
 obtain ⟨ns,rfl⟩:=items_int h3
 have hlen:ns.length<=n:=by
  unfold OpenLaw.pre at hc
  have h4:(WTm.not (.lt (.lit (.int (n:Int))) (.len (.arg 0)))).holds [] { args:=[.list (ns.map .int)] }=true:=by
   have h4:=(holds_andW hc).1
   rw [hn] at h4
   exact h4
  have h5:=condW_of h4 (w_not (w_lt w_lit (w_len_list (w_arg rfl))))
  rw [List.length_map] at h5
  refine Nat.le_of_not_lt fun q=>?_
  have q':(n:Int) < ((ns.length:Nat):Int):=by omega
  first
   | (rw [decide_eq_true q'] at h5;exact absurd h5 (by decide))
   | (simp at h5;omega)
 cases hwl with
 | cons w1 w2 =>
  cases w2
  cases w1 with
  | list ho hall=>exact ⟨_,_,ns,rfl,rfl,ho,kK ns _ hall,hlen⟩
theorem vW (l:OpenLaw)(args:List WData):l.row.toRowW.claim.post args (.bool true) args=true :=
 postW_of (r:=l.row.toRowW) (X:=(true == true))
  (show WShape.has [] (.bool true) .bool=true by first | rfl | decide | simp [WShape.has,WShape.arms,WShape.armsAll])
  (show (WTm.eq .res (.lit (.bool true))).value [] { args:=args,res:=some (.bool true),after:=args }=some (.bool (true == true)) from w_eq_bool (w_res rfl) w_lit) rfl
theorem rZ {l:OpenLaw}{n:Nat}{q:Program}{loose:bE}{XP:(eV)->Heap->Prop}{YP:World->Heap->Prop}{d:DefRec}
  (hn:l.most=some n) (hdf:d.params.defaults=[])
  (call:∀ (w:World) (s₀ s₁:Shared) (mg mb:eV) (fa:Addr) (o:Obj) (pm cd doc:Value) (a:Addr) (vs:bJ) (ns:List Int),
   Ground q loose [] XP w s₀ mg mb s₁.heap->YP w s₁.heap ->
   s₁.heap.get? fa=some o->o.data = .func (docDef d.name d.params d.body d.scope pm cd doc)->s₁.heap.CodeRec cd d.name->mg d.name=some (.ref fa) ->
   s₁.heap.get? a=some { cls:=.type "list",data:=.seq vs.toArray }->IntsAre vs ns->ns.length<=n->s₁.gens = #[] ->
   codeAny (model l.prog w) callerA (.call (.ref fa) ⟨[.ref a],[]⟩) (fun r s'=>r = .ok (.ret (.bool true))/\OldK s₁.heap s'.heap/\s'.os=s₁.os/\AllBare s'.gens) s₁) :
  WalkO q loose XP YP l.row.toRowW d [] (fun f vs=>PySem.call f vs):=by
 intro w s₀ s₁ mg mb G Y fa o pm cd doc dV kV ho hd hcd hD hmg hg args vals as hpre hlay hrd hwl hlo
 obtain rfl:dV = .none:=Dflts.none hD hdf
 obtain rfl:kV = .none:=Dflts.noKw hD
 obtain ⟨a,vs,ns,rfl,rfl,hobj,hints,hlen⟩:=vQ hn hpre hwl
 refine enter_call (codeAny_mono (call w s₀ s₁ mg mb fa o pm cd doc a vs ns G Y ho (fd_plain hd) hcd hmg hobj hints hlen hg) fun r s' hq=>?_)
 obtain ⟨rfl,h2,h3,h4⟩:=hq
 exact ⟨.inl ⟨.bool true,.bool true,[],rfl,fun _=>rfl,.bool true,vW l _,fun _=>⟨List.Pairwise.nil,fun _ hm=>(nomatch hm)⟩⟩,h2,h3,h4⟩
end Att
namespace L2
open PySem PySem.Spec PyProof.Rows
theorem nC:∀ {vs:bJ} {ns:List Int},IntsAre vs ns->aK (ns.map V.int) vs
 | _,_,.nil=>.nil
 | _,_,.cons n t h=>.cons ⟨t,rfl⟩ (nC h)
noncomputable abbrev cT:zL:=fun _ _ _ _ _ _=>False
noncomputable abbrev E0:XK:=fun _ _ _=>False
theorem pass0 {X:Cx}:pT cT X E0:=fun _ _ _ _ _ _ _ h=>h.elim
structure mW (K:PySem.W.Frag)(x qual:Str)(st:Stmt)(f:Addr)(fd:FuncData):Prop where
 ex:∃ (oc:Value) (od:Option Addr) (kV doc pm:Value) (an:Option Addr) (cdv ct:Value) (osl:Array (Option Value)),
  fd=PySem.W.fnOf x qual (aS st) (aR st) (aB st) .none kV doc pm an cdv ct/\K.lookup f=some ⟨oc,od,.func fd,osl⟩/\PySem.W.codeIn K cdv qual=true
 kp:PySem.W.keepIn K (.ref f)=true
section
variable {P:Program}{w:World}{K:PySem.W.Frag}{mg:eV}{base:Heap}
theorem mW.ok {x qual:Str}{st:Stmt}{f:Addr}{fd:FuncData}{N ps:bE}{k:Nat}{sp:Sp}(F:mW K x qual st f fd)(S:bB N ps (aB st))(len:∀ vs H Q E,sp vs H Q E->vs.length=ps.length)
  (hbody:∀ (cdv:Value) (A:Around) (outer:List Env) (s:Shared) (H:Hp) (vs:List V) (Q:VK) (E:XK),dX k (A.deeper (envOfC qual (aB st) s.heap.objs.size f cdv))->sp vs H Q E ->
   ∃ t,vG (cxOf cT P w K mg base N qual (aB st) f cdv A outer s H E).nox (aR st) t/\t { nx:=fun _ H'=>Q .non H',rt:=Q } (start N vs) H):dE P w K mg base cT (k + 1) f fd ps sp:=by
 obtain ⟨oc,od,kV,doc,pm,an,cdv,ct,osl,rfl,lk,hcd⟩:=F.ex
 refine BP lk hcd S len fun A outer s H vs Q E hr hsp=>?_
 obtain ⟨t,h,q⟩:=hbody cdv A outer s H vs Q E hr hsp
 exact ⟨t,h.nox,q⟩
theorem mW.binds {x qual:Str}{st:Stmt}{f:Addr}{fd:FuncData}{ps:bE}(F:mW K x qual st f fd)
  (h:∀ (kV doc pm:Value) (an:Option Addr) (cdv ct:Value) (us:bJ),us.length=ps.length->bindArgs (PySem.W.fnOf x qual (aS st) (aR st) (aB st) .none kV doc pm an cdv ct) ⟨us,[]⟩=pure (ps.zip us)):oJ K fd ps []:=by
 obtain ⟨oc,od,kV,doc,pm,an,cdv,ct,osl,rfl,lk,hcd⟩:=F.ex
 exact .all (h kV doc pm an cdv ct)
theorem cC {x qual:Str}{st:Stmt}{f:Addr}{oc:Value}{od an:Option Addr}{osl:Array (Option Value)}{kV doc pm cdv ct:Value}(l:K.lookup f=some ⟨oc,od,.func (PySem.W.fnOf x qual (aS st) (aR st) (aB st) .none kV doc pm an cdv ct),osl⟩)
  (c:PySem.W.codeIn K cdv qual=true) (k:PySem.W.keepIn K (.ref f)=true):mW K x qual st f (PySem.W.fnOf x qual (aS st) (aR st) (aB st) .none kV doc pm an cdv ct):=⟨⟨oc,od,kV,doc,pm,an,cdv,ct,osl,rfl,l,c⟩,k⟩
end
section
variable {X:Cx}
theorem pv (i:Nat){x:Str}{pos:Pos}(hN:X.N[i]?=some x:=by rfl)(hv:EM X.env.scope x:=by first | exact Or.inl rfl | exact Or.inr (Or.inl rfl) | exact Or.inr (Or.inr rfl))(hd:(x == ("__debug__" : Str))=false:=by decide)
  (hcd:(x == ("__classdict__" : Str))=false:=by decide):PE X (.Name x pos) (tVar i):=CJ hN hv hd hcd
end
theorem ite2 {c A B:Prop}[Decidable c](h1:c->A)(h2:¬ c->B):if c then A else B:=by
 by_cases h:c
 ·rw [if_pos h]
  exact h1 h
 ·rw [if_neg h]
  exact h2 h
noncomputable def aC (H H':Hp):Prop:=∀ b o,H b=some o->H' b=some o
theorem aC.refl (H:Hp):aC H H:=fun _ _ h=>h
theorem aC.trans {H H1 H2:Hp}(a:aC H H1)(b:aC H1 H2):aC H H2:=fun c o h=>b c o (a c o h)
section
variable {κ:Type}[DecidableEq κ]
noncomputable def valV (kvs:List (κ×V))(k:κ):Option V:=(kvs.find? fun kv=>decide (kv.1=k)).map (·.2)
noncomputable def putK (kvs:List (κ×V))(k:κ)(v:V):List (κ×V) :=
 if (kvs.any fun kv=>decide (kv.1=k))=true then kvs.map (fun kv=>if kv.1=k then (kv.1,v) else kv) else kvs ++ [(k,v)]
theorem cG {p:κ×V}{r:List (κ×V)}{k:κ}(e:p.1=k):valV (p :: r) k=some p.2:=by simp [valV,List.find?_cons,e]
theorem cH {p:κ×V}{r:List (κ×V)}{k:κ}(e:¬ p.1=k):valV (p :: r) k=valV r k:=by simp [valV,List.find?_cons,e]
theorem iR (k:κ):∀ kvs:List (κ×V),(kvs.any fun kv=>decide (kv.1=k))=(valV kvs k).isSome
 | []=>rfl
 | p :: r=>by
  rw [List.any_cons]
  by_cases e:p.1=k
  ·simp only [cG e,decide_eq_true e,Bool.true_or,Option.isSome_some]
  ·rw [cH e,decide_eq_false e,Bool.false_or];exact iR k r
theorem qC (k j:κ)(y:V):∀ kvs:List (κ×V),valV (kvs.map fun kv=>if kv.1=k then (kv.1,y) else kv) j=(valV kvs j).map fun x=>if j=k then y else x
 | []=>rfl
 | p :: r=>by
  have ih:=qC k j y r
  rw [List.map_cons]
  by_cases h:p.1=k
  ·rw [if_pos h]
   by_cases e:p.1=j
   ·rw [cG (p:=(p.1,y)) e,cG e,Option.map_some,if_pos (e.symm.trans h)]
   ·rw [cH (p:=(p.1,y)) e,cH e,ih]
  ·rw [if_neg h]
   by_cases e:p.1=j
   ·rw [cG (p:=p) e,cG e,Option.map_some,if_neg (fun z=>h (e.trans z))]
   ·rw [cH (p:=p) e,cH e,ih]
theorem nE (k j:κ)(y:V):∀ kvs:List (κ×V),valV kvs k=none->valV (kvs ++ [(k,y)]) j=if j=k then some y else valV kvs j
 | [],_=>by
  by_cases e:k=j
  ·rw [if_pos e.symm];exact cG (p:=(k,y)) e
  ·rw [if_neg (fun z=>e z.symm)];exact cH (p:=(k,y)) e
 | p :: r,hn=>by
  rw [List.cons_append]
  have hk:¬ p.1=k:=fun z=>by rw [cG z] at hn;cases hn
  rw [cH hk] at hn
  have ih:=nE k j y r hn
  by_cases e:p.1=j
  ·rw [cG e,cG e,if_neg (fun z=>hk (e.trans z))]
  ·rw [cH e,cH e,ih]
theorem xA (kvs:List (κ×V))(k j:κ)(y:V):valV (putK kvs k y) j=if j=k then some y else valV kvs j:=by
 unfold putK
 by_cases a:(kvs.any fun kv=>decide (kv.1=k))=true
 ·rw [if_pos a,qC]
  rw [iR] at a
  by_cases e:j=k
  ·obtain ⟨x,hx⟩:=Option.isSome_iff_exists.mp a
   rw [if_pos e,e,hx,Option.map_some,if_pos rfl]
  ·rw [if_neg e]
   cases valV kvs j with
   | none=>rfl
   | some x=>rw [Option.map_some,if_neg e]
 ·rw [if_neg a]
  refine nE k j y kvs ?_
  rw [iR] at a
  cases q:valV kvs k with
  | none=>rfl
  | some x=>rw [q] at a;exact (a rfl).elim
theorem fR (kvs:List (κ×V))(k:κ)(v:V):(putK kvs k v).length<=kvs.length + 1:=by
 unfold putK
 split
 ·rw [List.length_map];omega
 ·rw [List.length_append,List.length_cons,List.length_nil];omega
theorem sG.isSome_eq {o:Option V}{u:Option Value}(r:sG o u):o.isSome=u.isSome:=by
 cases o with
 | none=>cases u with
  | none=>rfl
  | some _=>exact (show False from r).elim
 | some _=>cases u with
  | none=>exact (show False from r).elim
  | some _=>rfl
theorem sG.getD {o:Option V}{u:Option Value}{d:V}{d':Value}(r:sG o u)(rd:aL d d'):aL (o.getD d) (u.getD d'):=by
 cases o with
 | none=>cases u with
  | none=>exact rd
  | some _=>exact (show False from r).elim
 | some _=>cases u with
  | none=>exact (show False from r).elim
  | some _=>exact r
theorem KV.val {kvs:List (κ×V)}{vs:List (κ×Value)}(r:KV kvs vs)(k:κ):sG (valV kvs k) (valueAt vs k):=by
 unfold KV at r
 induction r with
 | nil=>exact True.intro
 | @cons p q ps qs h t ih =>
  obtain ⟨h1,h2⟩:=h
  by_cases e:p.1=k
  ·have e':q.1=k:=h1.symm.trans e
   have b:valueAt (q :: qs) k=some q.2:=by simp [valueAt,List.find?_cons,e']
   rw [cG e,b];exact h2
  ·have e':¬ q.1=k:=fun z=>e (h1.trans z)
   have b:valueAt (q :: qs) k=valueAt qs k:=by simp [valueAt,List.find?_cons,e']
   rw [cH e,b];exact ih
theorem KV.any {kvs:List (κ×V)}{vs:List (κ×Value)}(r:KV kvs vs)(k:κ):(kvs.any fun kv=>decide (kv.1=k))=vs.any fun kv=>decide (kv.1=k):=by
 unfold KV at r
 induction r with
 | nil=>rfl
 | cons h t ih=>rw [List.any_cons,List.any_cons,ih,h.1]
theorem KV.repl {kvs:List (κ×V)}{vs:List (κ×Value)}(r:KV kvs vs)(k:κ){y:V}{u:Value}(ry:aL y u) :
  KV (kvs.map fun kv=>if kv.1=k then (kv.1,y) else kv) (vs.map fun kv=>if kv.1=k then (kv.1,u) else kv):=by
 unfold KV at r ⊢
 induction r with
 | nil=>exact .nil
 | @cons p q ps qs h t ih =>
  rw [List.map_cons,List.map_cons]
  refine .cons ?_ ih
  obtain ⟨h1,h2⟩:=h
  by_cases e:p.1=k
  ·rw [if_pos e,if_pos (h1.symm.trans e)];exact ⟨h1,ry⟩
  ·rw [if_neg e,if_neg (fun z=>e (h1.trans z))];exact ⟨h1,h2⟩
theorem KV.put {kvs:List (κ×V)}{vs:List (κ×Value)}(r:KV kvs vs)(k:κ){y:V}{u:Value}(ry:aL y u):KV (putK kvs k y) (stored vs k u):=by
 unfold putK stored
 rw [r.any k]
 by_cases e:(vs.any fun kv=>decide (kv.1=k))=true
 ·rw [if_pos e,if_pos e];exact r.repl k ry
 ·rw [if_neg e,if_neg e];exact Paired.snoc r ⟨rfl,ry⟩
theorem KV.length {kvs:List (κ×V)}{vs:List (κ×Value)}(r:KV kvs vs):kvs.length=vs.length:=Paired.length r
end
theorem yN {P:Program}{w:World}{k:cF}{u:Value}(r:aL (kV k) u):(bG P w).is k u=true:=by
 cases k with
 | inl i=>obtain ⟨t,e⟩:=(show ∃ t,u=Value.int i t from r);subst e;exact q9 P w i t
 | inr x=>obtain ⟨t,e⟩:=(show ∃ t,u=Value.str x t from r);subst e;exact q8 P w x t
theorem nY {P:Program}{w:World}:∀ {ks:List cF} {us:bJ},aK (ks.map kV) us->ItemsAre (bG P w) ks us
 | [],_,r=>by rw [List.map_nil] at r;cases r;exact .nil
 | k :: ks,_,r=>by
  rw [List.map_cons] at r
  cases r with
  | cons h t=>exact .cons (yN h) (nY t)
noncomputable abbrev KT (H:Hp):List (List cF×V)->List (List cF×Addr×Value)->Prop:=Paired fun p q=>p.1=q.1/\H q.2.1=some (.tup (p.1.map kV))/\aL p.2 q.2.2
theorem KT.val {H:Hp}{kvs:List (List cF×V)}{xs:List (List cF×Addr×Value)}(r:KT H kvs xs)(k:List cF):sG (valV kvs k) ((atKey xs k).map (·.2)):=by
 induction r with
 | nil=>exact True.intro
 | @cons p q ps qs h t ih =>
  obtain ⟨h1,_,h2⟩:=h
  by_cases e:p.1=k
  ·have e':q.1=k:=h1.symm.trans e
   have b:atKey (q :: qs) k=some q.2:=by simp [atKey,List.find?_cons,e']
   rw [cG e,b];exact h2
  ·have e':¬ q.1=k:=fun z=>e (h1.trans z)
   have b:atKey (q :: qs) k=atKey qs k:=by simp [atKey,List.find?_cons,e']
   rw [cH e,b];exact ih
theorem KT.repl {H:Hp}{kvs:List (List cF×V)}{xs:List (List cF×Addr×Value)}(r:KT H kvs xs)(k:List cF){y:V}{u:Value}(ry:aL y u) :
  KT H (kvs.map fun kv=>if kv.1=k then (kv.1,y) else kv) (xs.map (putAt k u)):=by
 induction r with
 | nil=>exact .nil
 | @cons p q ps qs h t ih =>
  rw [List.map_cons,List.map_cons]
  refine .cons ?_ ih
  obtain ⟨h1,h2,h3⟩:=h
  unfold putAt
  by_cases e:p.1=k
  ·rw [if_pos e,if_pos (h1.symm.trans e)];exact ⟨h1,h2,ry⟩
  ·rw [if_neg e,if_neg (fun z=>e (h1.trans z))];exact ⟨h1,h2,h3⟩
theorem KT.put {H:Hp}{kvs:List (List cF×V)}{xs:List (List cF×Addr×Value)}(r:KT H kvs xs)(k:List cF){b:Addr}{y:V}{u:Value}(hb:H b=some (.tup (k.map kV)))(ry:aL y u) :
  KT H (putK kvs k y) (storedH xs k b u):=by
 have e:(kvs.any fun kv=>decide (kv.1=k))=(atKey xs k).isSome:=by
  rw [iR,(r.val k).isSome_eq,Option.isSome_map]
 unfold putK storedH
 rw [e]
 by_cases q:(atKey xs k).isSome=true
 ·rw [if_pos q,if_pos q];exact r.repl k ry
 ·rw [if_neg q,if_neg q];exact Paired.snoc r ⟨rfl,hb,ry⟩
theorem KT.keeps {H H':Hp}{kvs:List (List cF×V)}{xs:List (List cF×Addr×Value)}(r:KT H kvs xs)(ht:∀ b ys,H b=some (.tup ys)->H' b=some (.tup ys)):KT H' kvs xs :=
 Paired.mapP r fun _ _ z=>⟨z.1,ht _ _ z.2.1,z.2.2⟩
section
variable {P:Program}{w:World}{H:Hp}{h:Heap}{a:Addr}
theorem xG {u:HO}(ok:eD P w H h)(e:Rd H a u):aU P w H h a u:=e.ok ok
theorem vD {kvs:List (cF×V)}(ok:eD P w H h)(e:Rd H a (.dK kvs)):kvs.length<=sizeLine/\(a == sysModules)=false/\∃ vs,KV kvs vs/\h.DictOf (bG P w) a vs :=
 show aU P w H h a (.dK kvs) from xG ok e
theorem DZ {kvs:List (cF×V)}(ok:eD P w H h)(e:H a=some (.dK kvs)):kvs.length<=sizeLine/\(a == sysModules)=false/\∃ vs,KV kvs vs/\h.DictOf (bG P w) a vs:=vD ok (.inl e)
theorem lU {ks:List cF}(ok:eD P w H h)(e:H a=some (.tup (ks.map kV))):(tupleKind (bG P w)).is h ks a:=by
 obtain ⟨_,its,r,o,h1,h2,n,h3⟩:=(show aU P w H h a (.tup (ks.map kV)) from ok a _ e)
 exact ⟨o,its.toArray,n,h1,h2,h3,by simpa using nY r⟩
theorem y7 {kvs:List (List cF×V)}(ok:eD P w H h)(e:Rd H a (.dT kvs)):kvs.length<=sizeLine/\(a == sysModules)=false /\
  ∃ xs,KT H kvs xs/\h.DictOfH (tupleKind (bG P w)) a xs:=by
 obtain ⟨z,y,xs,r,o,es,ep,h1,h2,h3,h4,h5⟩:=(show aU P w H h a (.dT kvs) from xG ok e)
 refine ⟨z,y,xs,r,o,es,ep,h1,h2,h3,h4,fun x hx=>?_,h5⟩
 have all:∀ {l:List (List cF×V)} {m:List (List cF×Addr×Value)},KT H l m->∀ x ∈ m,(tupleKind (bG P w)).is h x.1 x.2.1:=by
  intro l m q
  induction q with
  | nil=>intro x hx;exact nomatch hx
  | @cons p q ps qs hq t ih =>
   intro x hx
   rcases List.mem_cons.mp hx with e | hx
   ·subst e
    exact lU ok (by rw [← hq.1];exact hq.2.1)
   ·exact ih x hx
 exact all r x hx
theorem DY {kvs:List (List cF×V)}(ok:eD P w H h)(e:H a=some (.dT kvs)):kvs.length<=sizeLine/\(a == sysModules)=false /\
  ∃ xs,KT H kvs xs/\h.DictOfH (tupleKind (bG P w)) a xs:=y7 ok (.inl e)
end
noncomputable def EE (H:Hp)(a:Addr)(y:V)(r:Option V):Prop :=
 (∃ kvs k,Rd H a (.dK kvs)/\y=kV k/\r=valV kvs k)∨∃ kvs k b,Rd H a (.dT kvs)/\y = .ref b/\H b=some (.tup (k.map kV))/\r=valV kvs k
noncomputable def sK (H:Hp)(a:Addr)(y v:V)(H':Hp):Prop :=
 (∃ kvs k,H a=some (.dK kvs)/\y=kV k/\kvs.length < sizeLine/\H'=upd H a (.dK (putK kvs k v))) ∨
 ∃ kvs k b,H a=some (.dT kvs)/\y = .ref b/\H b=some (.tup (k.map kV))/\kvs.length < sizeLine/\H'=upd H a (.dT (putK kvs k v))
theorem sK.k {H:Hp}{a:Addr}{kvs:List (cF×V)}{k:cF}{v:V}(e:H a=some (.dK kvs))(hl:kvs.length < sizeLine):sK H a (kV k) v (upd H a (.dK (putK kvs k v))):=.inl ⟨kvs,k,e,rfl,hl,rfl⟩
theorem sK.t {H:Hp}{a b:Addr}{kvs:List (List cF×V)}{k:List cF}{v:V}(e:H a=some (.dT kvs))(eb:H b=some (.tup (k.map kV)))(hl:kvs.length < sizeLine) :
  sK H a (.ref b) v (upd H a (.dT (putK kvs k v))):=.inr ⟨kvs,k,b,e,rfl,eb,hl,rfl⟩
section
variable {X:Cx}{pins:bK}{σ:St}{H:Hp}{s:Shared}{a:Addr}{y v:V}{u r:Value}{o:Option V}{A:Around}{E:bA}
theorem aF.big (I:aF X pins σ H s):sysModules < s.heap.objs.size:=by
 have h:mainGlobals < s.heap.objs.size:=(I.mod.glob.keeps I.bk).lt
 exact Nat.lt_trans (by decide) h
theorem pO {h':Heap}{t':Nat}{ob:HO}(I:aF X pins σ H s)(mu:EC (H a))(hs:Heap.SameBut a s.heap h')(he:∃ q,h'.get? a=some q)(new:aU X.prog X.w (upd H a ob) h' a ob) :
  aF X pins σ (upd H a ob) { s with heap:=h',toks:=t' } :=
 I.write (x:=a) (e:=a) mu (.inl rfl) (fun b q hb z=>(hs.2 b hb).trans z) he new
theorem DF {P:Program}{w:World}{H':Hp}{h':Heap}{kvs:List (cF×V)}{vs:List (cF×Value)}(z:kvs.length<=sizeLine)(hd:(a == sysModules)=false)(rel:KV kvs vs)(dd:h'.DictOf (bG P w) a vs) :
  aU P w H' h' a (.dK kvs):=⟨z,hd,vs,rel,dd⟩
theorem wN {H':Hp}{Q:Unit->Shared->Prop}(hu:A.units + 1 < cLine)(I:aF X pins σ H s)(g:sK H a y v H')(ry:aL y u)(rv:aL v r)(h:∀ s',aF X pins σ H' s'->Q () s') :
  wpAny (model X.prog X.w) A (setItem (.ref a) u r) Q E s:=by
 rcases g with ⟨kvs,k,e,ey,l,eH⟩ | ⟨kvs,k,b,e,ey,eb,l,eH⟩
 ·subst ey eH
  obtain ⟨z,hd,vs,rel,dd⟩:=DZ I.hok e
  have hz:vs.length<=sizeLine:=by rw [← rel.length];exact z
  have hl:(putK kvs k v).length<=sizeLine:=by have:=fR kvs k v;omega
  refine wpAny_setItem_pairs (hsz:=hz) (yN ry) dd fun h' dd' hs=>h _ ?_
  have he:∃ q,h'.get? a=some q:=let ⟨q,_,_,hq,_⟩:=dd';⟨q,hq⟩
  exact pO I (by rw [e];exact True.intro) hs he (DF hl hd (rel.put k rv) dd')
 ·subst ey eH
  cases (show u=Value.ref b from ry)
  obtain ⟨z,hd,xs,rel,dd⟩:=DY I.hok e
  have hz:xs.length<=sizeLine:=by rw [← Paired.length rel];exact z
  have hl:(putK kvs k v).length<=sizeLine:=by have:=fR kvs k v;omega
  refine wpAny_setItem_heap (hsz:=hz) (tupleKind_room_in1 hu) (lU I.hok eb) dd fun h' dd' hs=>h _ ?_
  obtain ⟨q,es,ep,hq,h2,h3,h4,_,h5⟩:=dd'
  refine pO I (by rw [e];exact True.intro) hs ⟨q,hq⟩ ⟨hl,hd,_,(rel.put k eb rv).keeps fun c ys ec=>?_,q,es,ep,hq,h2,h3,h4,h5⟩
  rw [aE (DV ec e (fun z=>nomatch z))]
  exact ec
end
section
variable {X:Cx}{pins:bK}{σ:St}{H:Hp}{s:Shared}{a:Addr}{kvs:List (cF×V)}{k:cF}{u:Value}{A:Around}{E:bA}
theorem D0 {Q:bA}(I:aF X pins σ H s)(e:Rd H a (.dK kvs))(h:∀ t s',aF X pins σ H s'->Q (.int kvs.length t) s'):wpAny (model X.prog X.w) A (call (.builtin "len") [.ref a]) Q E s:=by
 obtain ⟨z,hd,vs,rel,dd⟩:=vD I.hok e
 refine call_len_dict hd dd (by rw [← rel.length];rw [sizeLine_eq] at z;omega) ?_
 rw [← rel.length]
 exact h _ _ (I.tok _)
end
noncomputable def sDPut (td ty tv:TE):TS:=fun D σ H=>tv σ H fun v H1=>td σ H1 fun x H2=>ty σ H2 fun y H3=>∃ a H4,x = .ref a/\sK H3 a y v H4/\D.nx σ H4
section
variable {X:Cx}{o i e value:Expr}{pos pos' tpos:Pos}{td ty tv:TE}
theorem uF (hu:X.A.units + 1 < cLine)(ho:PE X o td)(hi:PE X i ty)(hv:PE X value tv)(hs:swapsWith value (some (.Subscript o i pos')) pos.line X.env=pure false) :
  PS X (.Assign [.Subscript o i pos'] value pos) (sDPut td ty tv):=by
 intro pins s σ H D I h
 refine wpAny_Assign_Subscript (thn (hv pins s σ H _ I h) fun r s1 ⟨v,H1,I1,rv,q1⟩=>thn (ho pins s1 σ H1 _ I1 q1) fun u s2 ⟨x,H2,I2,rx,q2⟩=>thn (hi pins s2 σ H2 _ I2 q2) fun iv s3 ⟨y,H3,I3,ry,a,H4,ex,g,q3⟩=>?_) hs
 subst ex
 obtain rfl:u=Value.ref a:=rx
 exact wN hu I3 g ry rv fun s4 I4=>⟨σ,H4,I4,q3⟩
end
theorem y9 {P:Program}{w:World}{H:Hp}(h:Heap)(hb:sysModules < h.objs.size):aU P w H (h.push { cls:=.type "dict",data:=.dict #[] }) h.objs.size (.dK []) :=
 ⟨Nat.zero_le _,beq_eq_false_iff_ne.mpr (Ne.symm (Nat.ne_of_lt hb)),[],.nil,Heap.DictOf.new h⟩
theorem y8 {P:Program}{w:World}{H:Hp}(h:Heap)(hb:sysModules < h.objs.size):aU P w H (h.push { cls:=.type "dict",data:=.dict #[] }) h.objs.size (.dT []) :=
 ⟨Nat.zero_le _,beq_eq_false_iff_ne.mpr (Ne.symm (Nat.ne_of_lt hb)),[],.nil,_,#[],0,Heap.get?_push_size _ rfl,⟨rfl,rfl,rfl⟩,rfl,rfl,List.nodup_nil⟩
noncomputable def B6:TE:=fun _ H Q=>∀ p,H p=none->Q (.ref p) (upd H p (.dK []))
noncomputable def B5:TE:=fun _ H Q=>∀ p,H p=none->Q (.ref p) (upd H p (.dT []))
section
variable {X:Cx}{pos:Pos}
theorem xU:PE X (.Dict [] [] pos) B6:=fun pins s σ H Q I h =>
 wpAny_Dict_empty ⟨.ref s.heap.objs.size,_,I.laid (a:=s.heap.objs.size) (o:=.dK []) (t':=s.toks) (fun _ _ q=>Heap.get?_push_of_some _ q) (Nat.le_refl _) (y9 s.heap I.big),rfl,h _ (I.hok.fresh (Nat.le_refl _))⟩
theorem xT:PE X (.Dict [] [] pos) B5:=fun pins s σ H Q I h =>
 wpAny_Dict_empty ⟨.ref s.heap.objs.size,_,I.laid (a:=s.heap.objs.size) (o:=.dT []) (t':=s.toks) (fun _ _ q=>Heap.get?_push_of_some _ q) (Nat.le_refl _) (y8 s.heap I.big),rfl,h _ (I.hok.fresh (Nat.le_refl _))⟩
end
structure M1 (X:Cx)(o:Expr)(m:Str)(apos:Pos)(e:Expr)(cpos:Pos):Prop where
 base:attributeBase o m X.env (eval o X.env)=eval o X.env
 few:((backTo cpos (starEach [e] X.env)).all (fun x=>!x.1) && (backToKw cpos (keywordEach [] X.env)).all (fun x=>x.1.isSome)
  && decide (([e]:g9).length + ([]:List Keyword).length + (if ([]:List Keyword).isEmpty then 0 else 1) < 30))=true
 line:(apos.endLine == cpos.line)=true
 trees:backTo cpos (starEach [e] X.env)=[(false,eval e X.env)]
structure M2 (X:Cx)(o:Expr)(m:Str)(apos:Pos)(e f:Expr)(cpos:Pos):Prop where
 base:attributeBase o m X.env (eval o X.env)=eval o X.env
 few:((backTo cpos (starEach [e,f] X.env)).all (fun x=>!x.1) && (backToKw cpos (keywordEach [] X.env)).all (fun x=>x.1.isSome)
  && decide (([e,f]:g9).length + ([]:List Keyword).length + (if ([]:List Keyword).isEmpty then 0 else 1) < 30))=true
 line:(apos.endLine == cpos.line)=true
 trees:backTo cpos (starEach [e,f] X.env)=[(false,eval e X.env),(false,eval f X.env)]
noncomputable def E3 (H:Hp)(a:Addr):Prop:=(∃ kvs,Rd H a (.dK kvs))∨∃ kvs,Rd H a (.dT kvs)
theorem yQ {X:Cx}{pins:bK}{σ:St}{H:Hp}{s:Shared}{a:Addr}(I:aF X pins σ H s)(d:E3 H a) :
  s.TypeIs (.ref a) "dict"/\(∀ b,Value.ref a = .ref b->∃ ob,s.heap.get? b=some ob/\ob.dict=none)/\(a == sysModules)=false:=by
 rcases d with ⟨kvs,e⟩ | ⟨kvs,e⟩
 ·obtain ⟨_,hd,vs,_,dd⟩:=vD I.hok e
  refine ⟨dd.typeIs,fun b q=>?_,hd⟩
  cases q
  obtain ⟨ob,_,_,h1,h2,_⟩:=dd
  exact ⟨ob,h1,h2.2.1⟩
 ·obtain ⟨_,hd,xs,_,dd⟩:=y7 I.hok e
  refine ⟨dd.typeIs,fun b q=>?_,hd⟩
  cases q
  obtain ⟨ob,_,_,h1,h2,_⟩:=dd
  exact ⟨ob,h1,h2.2.1⟩
section
variable {X:Cx}{pins:bK}{σ:St}{H:Hp}{s:Shared}{a:Addr}{y d:V}{u r:Value}{o:Option V}{A:Around}{E:bA}
theorem DG {Q:bA}(hu:A.units + 1 < cLine)(I:aF X pins σ H s)(g:EE H a y o)(ry:aL y u)(rd:aL d r)(h:∀ w' s',aF X pins σ H s'->aL (o.getD d) w'->Q w' s') :
  wpAny (model X.prog X.w) A (call (.builtin "dict.get") [.ref a,u,r]) Q E s:=by
 rcases g with ⟨kvs,k,e,ey,l⟩ | ⟨kvs,k,b,e,ey,eb,l⟩
 ·subst ey
  obtain ⟨z,hd,vs,rel,dd⟩:=vD I.hok e
  refine call_meetsIn PySem.F.slot_dict_get dd.typeIs PySem.F.entry_dict_get (PySem.F.args_dict_get_3 _ _ _) (meets_dict_get_default (bG X.prog X.w) a (yN ry) hd r) ⟨_,dd.mapOf,h _ _ (I.tok _) ?_⟩
  rw [l]
  exact (rel.val k).getD rd
 ·subst ey
  cases (show u=Value.ref b from ry)
  obtain ⟨z,hd,xs,rel,dd⟩:=y7 I.hok e
  refine call_meetsIn PySem.F.slot_dict_get dd.typeIs PySem.F.entry_dict_get (PySem.F.args_dict_get_3 _ _ _) (meetsH_dict_get_default (tupleKind (bG X.prog X.w)) a b hd r) ⟨tupleKind_room_in1 hu,k,xs,lU I.hok eb,dd,h _ _ (I.tok _) ?_⟩
  rw [l]
  exact (rel.val k).getD rd
end
noncomputable def B7 (td ty tx:TE):TE:=fun σ H Q=>td σ H fun x H1=>∃ a,x = .ref a/\E3 H1 a/\ty σ H1 fun y H2=>tx σ H2 fun z H3=>∃ o,EE H3 a y o/\Q (o.getD z) H3
section
variable {X:Cx}{o e f:Expr}{apos cpos:Pos}{td ty tx:TE}
theorem qU (hu:X.A.units + 1 < cLine)(ho:PE X o td)(he:PE X e ty)(hf:PE X f tx)(m:M2 X o "get" apos e f cpos):PE X (.Call (.Attribute o "get" apos) [e,f] [] cpos) (B7 td ty tx):=by
 intro pins s σ H Q I h
 refine wpAny_Call_method m.base m.few m.line PySem.F.plainAttrs_dict PySem.F.slot_dict_get PySem.F.type_dict_get (thn (ho pins s σ H _ I h) fun u s1 ⟨x,H1,I1,rx,a,ex,d,q1⟩=>?_)
 subst ex
 obtain rfl:u=Value.ref a:=rx
 obtain ⟨t1,t2,_⟩:=yQ I1 d
 refine ⟨t1,t2,?_⟩
 rw [m.trees]
 refine Calls.callWith_builtin rfl (Calls.evalArgs_plain (Calls.spliced_cons (thn (he pins s1 σ H1 _ I1 q1) fun iv s2 ⟨y,H2,I2,ry,q2⟩ =>
  Calls.spliced_cons (thn (hf pins s2 σ H2 _ I2 q2) fun fv s3 ⟨z,H3,I3,rz,ov,g,q3⟩=>Calls.spliced_nil ?_))))
 exact DG hu I3 g ry rz fun w' s4 I4 rw'=>⟨_,H3,I4,rw',q3⟩
end
section
variable {X:Cx}
theorem wT:bI X (.builtin "len") (fun xs H Q=>∃ a kvs,xs=[V.ref a]/\H a=some (.dK kvs)/\Q (.int kvs.length) H):=by
 intro pins s σ H xs us Q I r h
 obtain ⟨a,kvs,rfl,ha,q⟩:=h
 obtain ⟨u,rfl,ru⟩:=vals1 r
 cases ru
 exact D0 I (.inl ha) fun t s' I'=>⟨.int kvs.length,H,I',⟨t,rfl⟩,q⟩
end
noncomputable def closL (cells:List (Str×Addr)):List (Str×NameKind)->List (Str×Addr)->List (Str×Addr)
 | [],cs=>cs
 | (n,k) :: r,cs=>closL cells r (if k = .free then (n,(cells.lookup n).getD 0) :: cs else cs)
theorem h7 {scope:Scope}{env:Env}(h:∀ x ∈ scope.names,x.2 = .free->∃ c,env.cells.lookup x.1=some c):closureFor scope env=pure (closL env.cells scope.names []):=by
 have go:∀ (l:List (Str×NameKind)) (cs:List (Str×Addr)),(∀ x ∈ l,x.2 = .free->∃ c,env.cells.lookup x.1=some c) ->
   (forIn l cs fun (x:Str×NameKind) (r:List (Str×Addr))=>match x with | (name,kind)=>if (kind == NameKind.free)=true then do let a ← cellOf env name;pure (ForInStep.yield ((name,a) :: r)) else pure (ForInStep.yield r):Sem (List (Str×Addr)))=pure (closL env.cells l cs):=by
  intro l
  induction l with
  | nil=>intro cs _;rfl
  | cons x r ih =>
   intro cs hx
   obtain ⟨n,k⟩:=x
   have hr:=fun y hy=>hx y (List.mem_cons_of_mem _ hy)
   rw [List.forIn_cons]
   by_cases hk:k = .free
   ·subst hk
    obtain ⟨c,hc⟩:=hx (n,.free) List.mem_cons_self rfl
    have hc':List.lookup n env.cells=some c:=hc
    have e1:cellOf env n=pure c:=by unfold cellOf;rw [hc']
    simp only [beq_self_eq_true,if_true,e1,pure_bind]
    rw [ih _ hr]
    show _=pure (closL env.cells r (if NameKind.free = .free then (n,(env.cells.lookup n).getD 0) :: cs else cs))
    rw [if_pos rfl,hc']
    rfl
   ·have hb:(k == NameKind.free)=false:=by simpa using hk
    simp only [hb,Bool.false_eq_true,if_false,pure_bind]
    rw [ih _ hr]
    show _=pure (closL env.cells r (if k = .free then (n,(env.cells.lookup n).getD 0) :: cs else cs))
    rw [if_neg hk]
 exact (congrArg (fun (m:Sem (List (Str×Addr)))=>m >>= fun s=>pure s) (go scope.names [] h)).trans rfl
theorem jX {cells:List (Str×Addr)}{x:Str}{c:Addr}:∀ (l:List (Str×NameKind)) (cs:List (Str×Addr)),(closL cells l cs).lookup x=some c->cs.lookup x=some c∨(x,NameKind.free) ∈ l/\c=(cells.lookup x).getD 0
 | [],_,h=>.inl h
 | (n,k) :: r,cs,h=>by
  unfold closL at h
  rcases jX r _ h with q | ⟨q,e⟩
  ·by_cases hk:k = .free
   ·rw [if_pos hk] at q
    rw [List.lookup_cons] at q
    by_cases hx:x=n
    ·subst hx
     rw [beq_self_eq_true] at q
     subst hk
     exact .inr ⟨List.mem_cons_self,(Option.some.inj q).symm⟩
    ·have hb:(x == n)=false:=by simpa using hx
     rw [hb] at q
     exact .inl q
   ·rw [if_neg hk] at q
    exact .inl q
  ·exact .inr ⟨List.mem_cons_of_mem _ q,e⟩
theorem jY {cells:List (Str×Addr)}{x:Str}:∀ (l:List (Str×NameKind)) (cs:List (Str×Addr)),((x,NameKind.free) ∈ l∨(cs.lookup x).isSome)->((closL cells l cs).lookup x).isSome
 | [],cs,h=>by
  rcases h with h | h
  ·cases h
  ·exact h
 | (n,k) :: r,cs,h=>by
  unfold closL
  refine jY r _ ?_
  by_cases hk:k = .free
  ·rw [if_pos hk,List.lookup_cons]
   by_cases hx:x=n
   ·subst hx
    rw [beq_self_eq_true]
    exact .inr rfl
   ·have hb:(x == n)=false:=by simpa using hx
    rw [hb]
    rcases h with h | h
    ·rcases List.mem_cons.mp h with e | e
     ·cases e;exact absurd rfl hx
     ·exact .inl e
    ·exact .inr h
  ·rw [if_neg hk]
   rcases h with h | h
   ·rcases List.mem_cons.mp h with e | e
    ·cases e;exact absurd rfl hk
    ·exact .inl e
   ·exact .inr h
theorem cR {α β:Type}[BEq α][LawfulBEq α]{x:α}{v:β}:∀ {l:List (α×β)},l.lookup x=some v->(x,v) ∈ l
 | [],h=>by simp at h
 | (n,k) :: r,h=>by
  rw [List.lookup_cons] at h
  by_cases e:x=n
  ·subst e;rw [beq_self_eq_true] at h;cases h;exact List.mem_cons_self
  ·have hb:(x == n)=false:=by simpa using e
   rw [hb] at h
   exact List.mem_cons_of_mem _ (cR h)
theorem eY {env:Env}{x:Str}:∀ {names:List (Str×NameKind)} {k':NameKind},(∀ y ∈ names,y.2≠.cell) ->
  (names.map fun (n,k)=>if (k == NameKind.free && env.scope.kind == .function && env.kindOf n == some .cell) then (n,NameKind.cell) else (n,k)).lookup x=some k'->(k' = .cell∨k' = .free)->names.lookup x=some .free
 | [],_,_,h,_=>by simp at h
 | (n,k) :: r,k',hc,h,hk'=>by
  have ih:=@eY env x r k' (fun y hy=>hc y (List.mem_cons_of_mem _ hy))
  have hk:=hc (n,k) List.mem_cons_self
  have h:List.lookup x ((if (k == NameKind.free && env.scope.kind == .function && env.kindOf n == some .cell)=true then (n,NameKind.cell) else (n,k)) :: _)=some k':=h
  by_cases hx:x=n
  ·subst hx
   rw [List.lookup_cons,beq_self_eq_true]
   by_cases q:(k == NameKind.free && env.scope.kind == .function && env.kindOf x == some .cell)=true
   ·simp only [Bool.and_eq_true,beq_iff_eq] at q
    show some k=some .free
    rw [q.1.1]
   ·rw [if_neg q,List.lookup_cons,beq_self_eq_true] at h
    have h:some k=some k':=h
    cases h
    rcases hk' with e | e
    ·exact absurd e hk
    ·show some k=some .free
     rw [e]
  ·have hb:(x == n)=false:=by simpa using hx
   rw [List.lookup_cons,hb]
   by_cases q:(k == NameKind.free && env.scope.kind == .function && env.kindOf n == some .cell)=true
   ·rw [if_pos q,List.lookup_cons,hb] at h
    exact ih h hk'
   ·rw [if_neg q,List.lookup_cons,hb] at h
    exact ih h hk'
theorem dN {env:Env}{x:Str}:∀ {names:List (Str×NameKind)},names.lookup x=some .free ->
  (names.map fun (n,k)=>if (k == NameKind.free && env.scope.kind == .function && env.kindOf n == some .cell) then (n,NameKind.cell) else (n,k)).lookup x=some .cell ∨
  (names.map fun (n,k)=>if (k == NameKind.free && env.scope.kind == .function && env.kindOf n == some .cell) then (n,NameKind.cell) else (n,k)).lookup x=some .free
 | [],h=>by simp at h
 | (n,k) :: r,h=>by
  have ih:=@dN env x r
  show List.lookup x ((if (k == NameKind.free && env.scope.kind == .function && env.kindOf n == some .cell)=true then (n,NameKind.cell) else (n,k)) :: _)=_∨List.lookup x ((if (k == NameKind.free && env.scope.kind == .function && env.kindOf n == some .cell)=true then (n,NameKind.cell) else (n,k)) :: _)=_
  by_cases hx:x=n
  ·subst hx
   rw [List.lookup_cons,beq_self_eq_true] at h
   have h:some k=some .free:=h
   cases h
   by_cases q:(NameKind.free == NameKind.free && env.scope.kind == .function && env.kindOf x == some .cell)=true
   ·rw [if_pos q,List.lookup_cons,beq_self_eq_true];exact .inl rfl
   ·rw [if_neg q,List.lookup_cons,beq_self_eq_true];exact .inr rfl
  ·have hb:(x == n)=false:=by simpa using hx
   rw [List.lookup_cons,hb] at h
   by_cases q:(k == NameKind.free && env.scope.kind == .function && env.kindOf n == some .cell)=true
   ·rw [if_pos q,List.lookup_cons,hb];exact ih h
   ·rw [if_neg q,List.lookup_cons,hb];exact ih h
noncomputable def srcOk (N:bE)(names:List (Str×NameKind)):List (Option Nat)->bE->Bool
 | [],[]=>true
 | none :: r,_ :: n=>srcOk N names r n
 | some i :: r,x :: n=>N[i]? == some x && names.lookup x == some .free && srcOk N names r n
 | _,_=>false
theorem gH {N:bE}{names:List (Str×NameKind)}:∀ {src:List (Option Nat)} {n:bE},srcOk N names src n=true->src.length=n.length
 | [],[],_=>rfl
 | none :: r,_ :: n,h=>by simp [gH (src:=r) (n:=n) h]
 | some i :: r,x :: n,h=>by
  simp only [srcOk,Bool.and_eq_true] at h
  simp [gH (src:=r) (n:=n) h.2]
 | [],_ :: _,h=>by simp [srcOk] at h
 | none :: _,[],h=>by simp [srcOk] at h
 | some _ :: _,[],h=>by simp [srcOk] at h
theorem gI {N:bE}{names:List (Str×NameKind)}:∀ {src:List (Option Nat)} {n:bE} {j i:Nat} {x:Str},srcOk N names src n=true->src[j]?=some (some i)->n[j]?=some x->N[i]?=some x/\names.lookup x=some .free
 | [],_,_,_,_,_,h,_=>by simp at h
 | _ :: _,[],_,_,_,_,_,h=>by simp at h
 | none :: r,_ :: n,0,_,_,_,h,_=>by simp at h
 | none :: r,_ :: n,j + 1,_,_,h,h1,h2=>gI (src:=r) (n:=n) (j:=j) h (by simpa using h1) (by simpa using h2)
 | some k :: r,y :: n,0,i,x,h,h1,h2=>by
  simp at h1 h2
  subst h1 h2
  simp only [srcOk,Bool.and_eq_true,beq_iff_eq] at h
  exact h.1
 | some _ :: r,_ :: n,j + 1,_,_,h,h1,h2=>by
  simp only [srcOk,Bool.and_eq_true] at h
  exact gI (src:=r) (n:=n) (j:=j) h.2 (by simpa using h1) (by simpa using h2)
structure aV (X:Cx)(scope:Scope)(N':bE)(src:List (Option Nat)):Prop where
 kind:scope.kind = .function
 cell:∀ y ∈ scope.names,y.2≠.cell
 names:∀ y ∈ scope.names,y.2 = .local->scope.names.lookup y.1=some .local
 free:∀ y ∈ scope.names,y.2 = .free->(X.env.scope.names.lookup y.1=some .cell∨X.env.scope.names.lookup y.1=some .free)
 nd:N'.Nodup
 map:srcOk X.N scope.names src N'=true
noncomputable def stC (src:List (Option Nat))(σ:St):St:=src.map fun o=>o.bind fun i=>(σ[i]?).join
noncomputable def blk (X:Cx)(scope:Scope)(N':bE)(C:Addr)(s₂:Shared)(H₂:Hp)(fp:List Addr):Cx :=
 { X with N:=N',s₀:=s₂,H₀:=H₂,env:=compEnvC scope (closL X.env.cells scope.names []) C X.env,outer:=X.stack,stack:=X.stack,ex:=fp,fn:=fun _=>false,pn:=[],xe:=fun _ _=>False }
section
variable {X:Cx}{pins:bK}{σ:St}{H:Hp}{s:Shared}{scope:Scope}{N':bE}{src:List (Option Nat)}
theorem aV.cells (S:aV X scope N' src)(I:aF X pins σ H s):∀ x ∈ scope.names,x.2 = .free->∃ c,X.env.cells.lookup x.1=some c:=fun x hx hk=>I.ok.has x.1 (S.free x hx hk)
theorem aV.cl (S:aV X scope N' src)(I:aF X pins σ H s){x:Str}{c:Addr}(h:(closL X.env.cells scope.names []).lookup x=some c):X.env.cells.lookup x=some c:=by
 rcases jX _ _ h with q | ⟨q,e⟩
 ·simp at q
 ·obtain ⟨d,hd⟩:=S.cells I (x,.free) q rfl
  have hd:X.env.cells.lookup x=some d:=hd
  rw [hd] at e
  rw [hd,e];rfl
theorem aV.clHas (S:aV X scope N' src)(I:aF X pins σ H s){x:Str}(h:scope.names.lookup x=some .free):∃ c,(closL X.env.cells scope.names []).lookup x=some c/\X.env.cells.lookup x=some c:=by
 have q:=jY (cells:=X.env.cells) (x:=x) scope.names [] (.inl (cR h))
 obtain ⟨c,hc⟩:=Option.isSome_iff_exists.mp q
 exact ⟨c,hc,S.cl I hc⟩
theorem aV.ok (S:aV X scope N' src)(I:aF X pins σ H s){fp:List Addr}{C:Addr}(hf:∀ b ∈ fp,cA X pins H b)(hlt:∀ b ∈ fp,b < s.heap.objs.size)(hC:s.heap.objs.size<=C):(blk X scope N' C s H fp).Ok where
 mod:=I.mod
 kind:=S.kind
 glob:=I.ok.glob
 blt:=I.ok.blt
 above:=hC
 inj:=fun x y c h1 h2=>I.ok.inj x y c (S.cl I h1) (S.cl I h2)
 has:=fun x hx=>by
  have q:scope.names.lookup x=some .free:=by
   rcases hx with h | h
   ·exact eY S.cell h (.inl rfl)
   ·exact eY S.cell h (.inr rfl)
  obtain ⟨c,hc,_⟩:=S.clHas I q
  exact ⟨c,hc⟩
 cab:=fun x c h _=>by cases h
 hd:=I.ok.hd
 frames:=I.ok.frames
 stk:=.inl rfl
 exf:=fun b hb=>⟨Nat.ne_of_lt (Nat.lt_of_lt_of_le (hlt b hb) hC),fun x c e=>(hf b hb).2.2.2.2.1 x c (S.cl I e)⟩
 bs:=I.bs
 bsz:=Nat.le_trans I.ok.bsz I.sz
 noex:=fun b o e hb=>by
  rcases (hf b hb).2.2.2.1 with z | z
  ·exact I.ok.noex b o e z
  ·exact absurd (Nat.lt_of_lt_of_le (Heap.lt_size e) (Nat.le_trans I.ok.bsz z)) (Nat.lt_irrefl _)
 exfs:=fun b hb z=>by
  rcases List.mem_cons.mp (I.stkSub b z) with e | e
  ·exact (hf b hb).2.1 e
  ·exact (hf b hb).2.2.1 e
 funs:=I.stack
 frf:=I.stkFree
theorem aV.start (S:aV X scope N' src)(I:aF X pins σ H s){fp:List Addr}{C:Addr}{h':Heap}{tk:Nat}{m:eV}{pl:bK}(hf:∀ b ∈ fp,cA X pins H b)(hlt:∀ b ∈ fp,b < s.heap.objs.size)(hC:s.heap.objs.size<=C)
  (old:∀ b o,s.heap.get? b=some o->h'.get? b=some o) (hns:h'.Ns C m)
  (hpl:∀ p ∈ pl,h'.get? p.1=some p.2/\s.heap.objs.size<=p.1/\p.1≠C/\∀ v,p.2.data≠.cell v) :
  aF (blk X scope N' C s H fp) pl (stC src σ) H { s with heap:=h',toks:=tk } where
 ok:=S.ok I hf hlt hC
 os:=rfl
 bare:=I.bare
 base:=Un.kept old
 loc:=by
  obtain ⟨m0,hn0,hl0⟩:=I.loc
  refine ⟨m,hns,fun j x v h1 h2 h3=>?_⟩
  have h2:(src.map fun o=>o.bind fun i=>(σ[i]?).join)[j]?=some (some v):=h2
  rw [List.getElem?_map] at h2
  cases e:src[j]? with
  | none=>rw [e] at h2;cases h2
  | some o =>
   rw [e] at h2
   cases o with
   | none=>cases h2
   | some i =>
    have h2:some ((σ[i]?).join)=some (some v):=h2
    obtain ⟨e1,e2⟩:=gI S.map e h1
    have hv:σ[i]?=some (some v):=by
     cases q:σ[i]? with
     | none=>rw [q] at h2;cases h2
     | some w=>rw [q] at h2;cases w with
      | none=>cases h2
      | some w=>cases h2;rfl
    have hfr:=S.free (x,.free) (cR e2) rfl
    obtain ⟨u,r,l⟩:=hl0 i x v e1 hv (.inr hfr)
    refine ⟨u,r,.inr ⟨dN e2,?_⟩⟩
    obtain ⟨c,hc,hc'⟩:=S.clHas I e2
    refine ⟨c,hc,?_⟩
    rcases l with ⟨k,_⟩ | ⟨_,c',hc2,hcell⟩
    ·have k:X.env.scope.names.lookup x=some .local:=k
     have hfr:X.env.scope.names.lookup x=some .cell∨X.env.scope.names.lookup x=some .free:=hfr
     rw [k] at hfr
     rcases hfr with z | z <;> cases z
    ·rw [hc'] at hc2;cases hc2
     obtain ⟨o,ho,hd⟩:=hcell
     exact ⟨o,old _ _ ho,hd⟩
 cell:=fun x c e=>by
  obtain ⟨v,o,ho,hd⟩:=I.cell x c (S.cl I e)
  exact ⟨v,o,old _ _ ho,hd⟩
 free:=I.hok.fresh hC
 freeC:=fun x c e=>I.freeC x c (S.cl I e)
 pin:=fun p hp=>by
  obtain ⟨a,b,c,d⟩:=hpl p (by simpa [blk] using hp)
  refine ⟨a,I.hok.fresh b,c,fun z=>?_,d⟩
  rcases List.mem_cons.mp (I.stkSub _ z) with e | e
  ·exact absurd (Nat.lt_of_lt_of_le I.lt (by rw [← e];exact b)) (Nat.lt_irrefl _)
  ·exact I.nofs b e
 hok:=I.hok.kept old
 len:=by
  show (src.map _).length=N'.length
  rw [List.length_map]
  exact gH S.map
end
noncomputable def oO (ifs:g9)(env:Env):Sem Bool:=forIn ifs true fun c (b:Bool)=>if b=true then isTrue c env (eval c env) >>= fun b=>pure (.yield b) else pure (.yield b)
section
variable (M:Model)(A:Around)(env:Env)(E:bA)
noncomputable def Drawn (it:Value)(tg:Expr)(stop go:Shared->Prop)(s:Shared):Prop :=
 wpAny M A (pyNext it) (fun r t=>r.elim (stop t) fun v=>wpAny M A (letOwnedTupleGo tg it v) (fun _ t=>wpAny M A (assign tg env v) (fun _=>go) E t) E t) E s
noncomputable def sI (ifs:g9)(lay:Sem Unit)(nxt:Shared->Prop)(s:Shared):Prop :=
 wpAny M A (oO ifs env) (fun ok t=>if ok=true then wpAny M A lay (fun _=>nxt) E t else nxt t) E s
end
noncomputable def iA (p:Pos)(it:Value)(tg:Expr)(env:Env)(k:Sem PySem.Fin):Sem PySem.Fin:=standAt p >>= fun _=>pyNext it >>= fun r=>match r with
 | none=>pure (.done .next)
 | some v=>letOwnedTupleGo tg it v >>= fun _=>assign tg env v >>= fun _=>k
noncomputable def layOn (ifs:g9)(lay:Sem Unit)(env:Env)(c:Code):Sem PySem.Fin:=oO ifs env >>= fun ok=>if ok=true then lay >>= fun _=>again c else again c
noncomputable def pH (elt:Expr)(acc:Value)(env:Env):Sem Unit:=eval elt env >>= fun x=>call (.builtin "list.append") [acc,x] >>= fun _=>pure ()
section
variable {M:Model}{A:Around}{env:Env}{E:bA}{it:Value}{tg:Expr}{s:Shared}
theorem Drawn.mono {stop go stop' go':Shared->Prop}(h:Drawn M A env E it tg stop go s)(h1:∀ t,stop t->stop' t)(h2:∀ t,go t->go' t):Drawn M A env E it tg stop' go' s :=
 thn h fun r t q=>by
  cases r
  ·exact h1 t q
  ·exact thn q fun _ _ q=>thn q fun _ t q=>h2 t q
theorem Drawn.run {p:Pos}{k:Sem PySem.Fin}{Q:PySem.Fin->Shared->Prop}(h:Drawn M A env E it tg (Q (.done .next)) (fun t=>wpAny M A k Q E t) s):wpAny M A (iA p it tg env k) Q E s:=by
 unfold iA
 refine wpAny_bind (wpAny_standAt (wpAny_bind (thn h fun r t q=>?_)))
 cases r
 ·exact wpAny_pure q
 ·exact wpAny_bind (thn q fun _ _ q=>wpAny_bind q)
theorem sI.run {ifs:g9}{lay:Sem Unit}{c:Code}{Q:PySem.Fin->Shared->Prop}(h:sI M A env E ifs lay (Q (.again c)) s):wpAny M A (layOn ifs lay env c) Q E s:=by
 unfold layOn
 refine wpAny_bind (thn h fun ok t q=>?_)
 cases ok
 ·exact wpAny_pure q
 ·exact wpAny_bind (thn q fun _ _ q=>wpAny_pure q)
end
theorem qD (elt tg iter:Expr)(ifs:g9)(scope:Scope)(pos:Pos)(it acc:Value)(env:Env) :
  compTurn (.ListComp elt [⟨tg,iter,ifs,0⟩] scope pos) 0 it acc env=iA iter.pos it tg env (layOn ifs (pH elt acc env) env (.compLoop (.ListComp elt [⟨tg,iter,ifs,0⟩] scope pos) 0 it acc env)):=rfl
section
variable {prog:Program}{w:World}{A:Around}{R:Result->Shared->Prop}{s:Shared}{tg ce:Expr}{d:Nat}{it acc:Value}{env:Env}{p:Pos}{k:Sem PySem.Fin}
noncomputable abbrev XN (prog:Program)(w:World)(A:Around)(env:Env)(R:Result->Shared->Prop):bA:=notedBy (model prog w) A env fun x t=>R (.error x) t
inductive zM:Expr->Prop
 | lst (e gs sc p):zM (.ListComp e gs sc p)
 | set (e gs sc p):zM (.SetComp e gs sc p)
 | dct (k e gs sc p):zM (.DictComp k e gs sc p)
theorem zA (hk:zM ce){Q:PySem.Fin->Shared->Prop}{E:bA}(h:wpAny (model prog w) A (Sem.onRaise (compTurn ce d it acc env) fun x=>noteFrame x env >>= fun _=>theTreesLotGoes x) Q E s):wpAny (model prog w) (A.under (.compLoop ce d it acc env)) ((model prog w).den (.compLoop ce d it acc env)) Q E s:=by
 cases hk <;> exact h
theorem wL (hk:zM ce){Q:PySem.Fin->Shared->Prop}{E:bA}(h:wpAny (model prog w) A (compStart ce d it acc env) Q (notedBy (model prog w) A env E) s):wpAny (model prog w) (A.under (.compStart ce d it acc env)) ((model prog w).den (.compStart ce d it acc env)) Q E s:=by
 cases hk <;> exact wpAny_notedAt h
theorem lQ (hk:zM ce)(hb:compTurn ce d it acc env=iA p it tg env k)(I:Nat->Shared->Prop)
  (turn:∀ n s,I n s->Drawn (model prog w) A env (XN prog w A env R) it tg (R (.ok .next)) (fun t=>wpAny (model prog w) A k (fun f t=>f = .again (.compLoop ce d it acc env)/\∃ m,m < n/\I m t) (XN prog w A env R) t) s)
  (n:Nat) (h:I n s):codeAny (model prog w) A (.compLoop ce d it acc env) R s:=by
 apply codeAny_loop rfl I _ n h
 intro n s i
 have q:=turn n s i
 apply zA hk
 rw [hb]
 apply wpAny_noted
 apply Drawn.run
 exact q.mono (fun _ z=>z) fun t z=>thn z fun f t ⟨hf,m⟩=>by subst hf;exact ⟨rfl,m⟩
end
noncomputable def BS (X:Cx)(ifs:g9)(t:TT):Prop :=
 ∀ (pins:bK) (s:Shared) (σ:St) (H:Hp) (Q:Bool->Hp->Prop),aF X pins σ H s->t σ H Q->wpAny (model X.prog X.w) X.A (oO ifs X.env) (TP X pins σ Q) X.xe s
noncomputable def tYes:TT:=fun _ H Q=>Q true H
theorem bP {X:Cx}:BS X [] tYes:=fun _ _ _ H _ I h=>wpAny_tests_nil ⟨H,I,h⟩
theorem o9 {X:Cx}{c:Expr}{t:TT}(h:PT X c t):BS X [c] t:=fun pins s σ H Q I q=>wpAny_tests_one (h pins s σ H Q I q)
noncomputable abbrev wY (β:Type):=Nat->Nat->β->St->Hp->Prop
noncomputable abbrev CW:=wY (List V)
structure mK (Y:Cx)(tg:Expr)(J:It)(fp:List Addr)(it:Addr)(tn:w4):Prop where
 obj:∀ i h,tn i h->∀ b ∈ fp,∃ o,h.get? b=some o/\∀ v,o.data≠.cell v
 keep:∀ i h h',tn i h->(∀ b ∈ fp,∀ o,h.get? b=some o->h'.get? b=some o)->tn i h'
 item:∀ (i:Nat) (pins:bK) (s:Shared) (σ:St) (H:Hp) (E:bA),aF Y pins σ H s->(∀ b ∈ fp,cA Y pins H b)->tn i s.heap->J.go i H ->
  wpAny (model Y.prog Y.w) Y.A (pyNext (.ref it)) (fun r s1=>∃ u,r=some u /\
   wpAny (model Y.prog Y.w) Y.A (letOwnedTupleGo tg (.ref it) u) (fun _ s2=>∃ x H',aF Y pins σ H' s2/\aL x u/\J.yld i H x H'/\tn (i + 1) s2.heap/\∀ b ∈ fp,H' b=none) E s1) E s
 done:∀ (i:Nat) (pins:bK) (s:Shared) (σ:St) (H:Hp) (E:bA),aF Y pins σ H s->(∀ b ∈ fp,cA Y pins H b)->tn i s.heap->J.stop i H ->
  wpAny (model Y.prog Y.w) Y.A (pyNext (.ref it)) (fun r s1=>r=none/\aF Y pins σ H s1) E s
 self:∀ (A:Around) (i:Nat) (s:Shared) (Q:bA) (E:bA),tn i s.heap->Q (.ref it) s->wpAny (model Y.prog Y.w) A (pyIter (.ref it)) Q E s
theorem j3.y {Y:Cx}{tg:Expr}{J:It}{fp:List Addr}{it:Addr}{tn:w4}(T:j3 Y.prog Y.w Y.K tg J fp it tn)(hc:Y.calm=true):mK Y tg J fp it tn :=
 ⟨T.obj,T.keep,T.item Y rfl rfl rfl hc,T.done Y rfl rfl rfl hc,T.self⟩
noncomputable def zF {β:Type}(F:Heap->Addr->β->Prop):Prop:=∀ h a x,F h a x->∃ o,h.get? a=some o/\(∀ v,o.data≠.cell v)/\∀ h':Heap,h'.get? a=some o->F h' a x
noncomputable def BI (h:Heap)(a:Addr)(acc:List V):Prop:=acc.length<=sizeLine/\∃ items,h.PlainList a items/\aK acc items.toList
theorem nV:zF BI:=fun _ _ _ ⟨l,it,⟨n,e⟩,r⟩=>⟨_,e,(fun _ z=>nomatch z),fun _ e'=>⟨l,it,⟨n,e'⟩,r⟩⟩
section
variable {β:Type}{F:Heap->Addr->β->Prop}{Y:Cx}{pins:bK}{D it:Addr}{fp:List Addr}{tn:w4}{J:It}{W:wY β}{Fin:β->St->Hp->Prop}{R:Result->Shared->Prop}{tg:Expr}{g:TG}{Nx:Nat->Nat->β->St->Hp->Prop}
noncomputable def sL (F:Heap->Addr->β->Prop)(Y:Cx)(pins:bK)(D:Addr)(fp:List Addr)(tn:w4)(W:wY β)(n:Nat)(s:Shared):Prop :=
 ∃ i σ H acc,aF Y pins σ H s/\tn i s.heap/\(∀ b ∈ fp,H b=none)/\H D=none/\F s.heap D acc/\W i n acc σ H
structure E2 (F:Heap->Addr->β->Prop)(Y:Cx)(D:Addr)(fp:List Addr)(tn:w4)(i:Nat)(acc:β)(more:bK)(o:Obj):Prop where
 fill:∀ h:Heap,h.get? D=some o->F h D acc
 own:∀ p ∈ more,p.1 ∈ fp
 back:∀ {pl:bK} {σ:St} {H:Hp} {s:Shared},(∀ p ∈ more,p ∈ pl)->aF Y pl σ H s->tn i s.heap/\∀ b ∈ fp,H b=none
structure h8 (Y:Cx)(pins:bK)(D:Addr)(fp:List Addr):Prop where
 off:D ∉ fp
 list:∀ H:Hp,H D=none->cA Y pins H D
 iter:∀ H:Hp,(∀ b ∈ fp,H b=none)->∀ b ∈ fp,cA Y pins H b
theorem CH {a:Addr×Obj}{pn pins more:bK}:a ∈ pn ++ (pins ++ a :: more):=by simp
theorem h8.pin {σ:St}{H:Hp}{s:Shared}{o:Obj}(P:h8 Y pins D fp)(I:aF Y pins σ H s)(hD:H D=none)(ho:s.heap.get? D=some o)(hc:∀ v,o.data≠.cell v):aF Y (pins ++ [(D,o)]) σ H s:=by
 refine I.pins_of fun p hp=>?_
 simp only [List.mem_append,List.mem_singleton] at hp
 rcases hp with hp | rfl
 ·exact I.pin p (List.mem_append_right _ hp)
 ·have f:=P.list H hD
  exact ⟨ho,f.1,f.2.1,f.2.2.1,hc⟩
theorem h8.more {o:Obj}(P:h8 Y pins D fp)(H:Hp)(hn:∀ b ∈ fp,H b=none)(b:Addr)(hb:b ∈ fp):cA Y (pins ++ [(D,o)]) H b:=by
 have f:=P.iter H hn b hb
 refine ⟨f.1,f.2.1,f.2.2.1,f.2.2.2.1,f.2.2.2.2.1,fun p hp z=>?_⟩
 rw [← List.append_assoc,List.mem_append,List.mem_singleton] at hp
 rcases hp with hp | rfl
 ·exact f.2.2.2.2.2 p hp z
 ·exact P.off (show D ∈ fp from (show D=b from z) ▸ hb)
theorem tH {more:bK}{o:Obj}{σ:St}{H:Hp}{s:Shared}(I:aF Y (pins ++ (D,o) :: more) σ H s):H D=none/\s.heap.get? D=some o/\aF Y pins σ H s:=by
 have q:=I.pin (D,o) CH
 exact ⟨q.2.1,q.1,I.pins_of fun p hp=>I.pin p (by simp [hp])⟩
theorem n6 (hF:zF F)(hx:∀ e s,¬ Y.xe e s)(T:mK Y tg J fp it tn)(P:h8 Y pins D fp)(hg:PG Y tg g)
  (turn:∀ i m acc σ H,W i m acc σ H->(J.stop i H/\Fin acc σ H)∨(J.go i H/\∀ x H',J.yld i H x H'->g x σ H' (Nx i m acc)))
  (hR:∀ s σ H acc,aF Y pins σ H s->H D=none->F s.heap D acc->Fin acc σ H->R (.ok .next) s)
  (n:Nat) (s:Shared) (B:sL F Y pins D fp tn W n s) {E:bA} :
  Drawn (model Y.prog Y.w) Y.A Y.env E (.ref it) tg (R (.ok .next))
   (fun t=>∃ i acc o more σ H,E2 F Y D fp tn (i + 1) acc more o/\aF Y (pins ++ (D,o) :: more) σ H t/\Nx i n acc σ H) s:=by
 obtain ⟨i,σ,H,acc,I,st,fr,fD,sx,w⟩:=B
 obtain ⟨o,ho,hcl,sx2⟩:=hF _ _ _ sx
 have Ip:=P.pin I fD ho hcl
 rcases turn i n acc σ H w with ⟨stop,fin⟩ | ⟨go,step⟩
 ·refine thn (T.done i _ s σ H _ Ip (P.more H fr) st stop) fun r t ⟨hr,It⟩=>?_
  subst hr
  obtain ⟨l1,l2,l3⟩:=tH It
  exact hR t σ H acc l3 l1 (sx2 _ l2) fin
 ·refine thn (T.item i _ s σ H _ Ip (P.more H fr) st go) fun r t ⟨u,hr,q⟩=>?_
  subst hr
  refine thn q fun _ t1 ⟨x,H1,I1,r1,y1,st1,fr1⟩=>?_
  have I1p:=I1.pinned (P.more H1 fr1) (T.obj _ _ st1)
  rw [List.append_assoc] at I1p
  refine wpAny_mono (hg _ t1 σ H1 x u _ I1p r1 (step x H1 y1)) (fun _ t2 ⟨σ2,H2,I2,q2⟩=>?_) fun e t z=>(hx e t z).elim
  refine ⟨i,acc,o,lI fp t1.heap,σ2,H2,⟨sx2,fun p hp=>(nN hp).1,fun {pl σ3 H3 s3} sub I3=>?_⟩,I2,q2⟩
  have at3:∀ b ∈ fp,∀ o,t1.heap.get? b=some o->s3.heap.get? b=some o/\H3 b=none:=fun b hb o e=>by
   have z:=I3.pin (b,o) (List.mem_append_right _ (sub _ (iF hb e)))
   exact ⟨z.1,z.2.1⟩
  refine ⟨T.keep _ _ _ st1 fun b hb o e=>(at3 b hb o e).1,fun b hb=>?_⟩
  obtain ⟨o,e,_⟩:=T.obj _ _ st1 b hb
  exact (at3 b hb o e).2
noncomputable def zH (F:Heap->Addr->β->Prop)(Y:Cx)(D:Addr)(lay:Sem Unit)(q:St->Hp->(β->Hp->Prop)->Prop)(acc:β):Prop :=
 ∀ (E:bA) (pl:bK) (o:Obj) (σ:St) (H:Hp) (t:Shared) (N:β->Hp->Prop),aF Y pl σ H t->(D,o) ∈ pl->(∀ h:Heap,h.get? D=some o->F h D acc)->q σ H N ->
  wpAny (model Y.prog Y.w) Y.A lay (fun _ t3=>∃ t2 h3 tk H2 acc',t3={ t2 with heap:=h3,toks:=tk }/\aF Y pl σ H2 t2/\Heap.SameBut D t2.heap h3/\F h3 D acc'/\N acc' H2) E t
theorem rE {ifs:g9}{lay:Sem Unit}{tt:TT}{tl:St->Hp->(β->Hp->Prop)->Prop}{i n:Nat}{acc:β}{more:bK}{o:Obj}{σ:St}{H:Hp}{t:Shared}{E:bA}(hx:∀ e s,¬ Y.xe e s)(P:h8 Y pins D fp)(T:mK Y tg J fp it tn)(ht:BS Y ifs tt)(hl:zH F Y D lay tl acc)
  (B:E2 F Y D fp tn (i + 1) acc more o) (I:aF Y (pins ++ (D,o) :: more) σ H t)
  (q:tt σ H fun b H3=>if b=true then tl σ H3 fun a H4=>∃ m',m' < n/\W (i + 1) m' a σ H4 else ∃ m',m' < n/\W (i + 1) m' acc σ H3) :
  sI (model Y.prog Y.w) Y.A Y.env E ifs lay (fun t=>∃ m,m < n/\sL F Y pins D fp tn W m t) t:=by
 refine wpAny_mono (ht _ t σ H _ I q) (fun ok t1 ⟨H1,I1,q1⟩=>?_) fun e t z=>(hx e t z).elim
 cases ok
 ·rw [if_neg Bool.false_ne_true] at q1 ⊢
  obtain ⟨m,hm,w⟩:=q1
  obtain ⟨b1,b2⟩:=B.back (fun p hp=>by simp [hp]) I1
  obtain ⟨l1,l2,l3⟩:=tH I1
  exact ⟨m,hm,i + 1,σ,H1,acc,l3,b1,b2,l1,B.fill _ l2,w⟩
 ·rw [if_pos rfl] at q1 ⊢
  refine thn (hl _ _ o σ H1 t1 _ I1 (by simp) B.fill q1) fun _ t3 ⟨t2,h3,tk,H2,acc',e3,I2,s3,f3,m,hm,w⟩=>?_
  subst e3
  obtain ⟨b1,b2⟩:=B.back (fun p hp=>by simp [hp]) I2
  obtain ⟨l1,l2,l3⟩:=tH I2
  have f:=P.list H2 l1
  have far:∀ b o,b≠D->t2.heap.get? b=some o->h3.get? b=some o:=fun b o hb e=>s3.extBut b o hb e
  exact ⟨m,hm,i + 1,σ,H2,acc',l3.turned (t':=tk) far f.1 f.2.1 f.2.2.2.1 f.2.2.2.2.1 f.2.2.2.2.2,T.keep _ _ _ b1 fun b hb o e=>far b o (fun z=>P.off (z ▸ hb)) e,b2,l1,f3,w⟩
theorem sI.go {ifs:g9}{lay:Sem Unit}{c:Code}{n:Nat}{t:Shared}{E:bA}(h:sI (model Y.prog Y.w) Y.A Y.env E ifs lay (fun t=>∃ m,m < n/\sL F Y pins D fp tn W m t) t) :
  wpAny (model Y.prog Y.w) Y.A (layOn ifs lay Y.env c) (fun f t=>f = .again c/\∃ m,m < n/\sL F Y pins D fp tn W m t) E t :=
 sI.run (thn h fun ok t q=>by
  cases ok
  ·exact ⟨rfl,q⟩
  ·exact thn q fun _ _ q=>⟨rfl,q⟩)
end
noncomputable def tlLst (te:TE)(acc:List V):St->Hp->(List V->Hp->Prop)->Prop:=fun σ H N=>te σ H fun y H4=>acc.length < sizeLine/\N (acc ++ [y]) H4
theorem rD {Y:Cx}{D:Addr}{elt:Expr}{te:TE}{acc:List V}(hx:∀ e s,¬ Y.xe e s)(he:PE Y elt te):zH BI Y D (pH elt (.ref D) Y.env) (tlLst te acc) acc:=by
 intro E pl o σ H t N I hm hf q
 refine wpAny_bind (wpAny_mono (he _ t σ H _ I q) (fun y t2 ⟨yv,H2,I2,r2,hl,w⟩=>?_) fun e t z=>(hx e t z).elim)
 obtain ⟨hz,items,p2,rv⟩:=hf _ (I2.pin (D,o) (List.mem_append_right _ hm)).1
 have small:items.size<=sizeLine:=by rw [← Array.length_toList,← rv.length];exact hz
 refine wpAny_bind (wpAny_list_append_plain (hsz:=small) p2 fun h3 p3 s3=>wpAny_pure ⟨t2,h3,t2.toks,H2,acc ++ [yv],rfl,I2,s3,⟨?_,items.push y,p3,?_⟩,w⟩)
 ·rw [List.length_append]
  exact hl
 ·rw [Array.toList_push]
  exact rv.append (.cons r2 .nil)
noncomputable def BW (J:It)(g:TG)(tt:TT)(te:TE)(Fin:List V->Hp->Prop)(W:CW):Prop:=∀ i m acc σ H,W i m acc σ H ->
 (J.stop i H/\Fin acc H) ∨
 (J.go i H/\∀ x H',J.yld i H x H'->g x σ H' fun σ2 H2=>tt σ2 H2 fun b H3 =>
  if b=true then te σ2 H3 fun y H4=>acc.length < sizeLine/\∃ m',m' < m/\W (i + 1) m' (acc ++ [y]) σ2 H4 else ∃ m',m' < m/\W (i + 1) m' acc σ2 H3)
noncomputable def tComp (src:List (Option Nat))(wi:TI)(g:TG)(tt:TT)(te:TE):TE:=fun σ H Q=>wi σ H fun J H1=>∃ W:CW,(∃ m,W 0 m [] (stC src σ) H1)/\BW J g tt te (fun acc H=>∀ p,H p=none->Q (.ref p) (upd H p (.lst acc))) W
section
variable {prog:Program}{w:World}{A:Around}{ce:Expr}{c:Comprehension}{rest:List Comprehension}
theorem kE (hk:zM ce)(hcl:clausesOf ce=c :: rest)(ha:c.is_async=0){it acc:Value}{env:Env}{R:Result->Shared->Prop}{s:Shared}(h0:codeAny (model prog w) A (.compLoop ce 0 it acc env) R s)
  (h:wpAny (model prog w) A (pyIter it) (fun it' s'=>codeAny (model prog w) A (.compLoop ce 0 it' acc env) R s') (XN prog w A env R) s) :
  codeAny (model prog w) A (.compStart ce 0 it acc env) R s:=by
 apply codeAny_of_tree
 apply wL hk
 obtain ⟨tg,iter,ifs,_⟩:=c
 cases ha
 unfold compStart
 rw [hcl]
 change wpAny _ _ (ask >>= _) _ _ s
 apply wpAny_bind
 apply wpAny_askSetting
 by_cases b:(⟨(model prog w).prog,(model prog w).w.params⟩:Setting).params.followText "comprehension-iter-twice" = true
 ·rw [if_pos b]
  exact wpAny_pure ⟨rfl,h0⟩
 ·rw [if_neg b]
  refine wpAny_bind (wpAny_rule ?_)
  change wpAny _ _ (standAt iter.pos >>= _) _ _ s
  exact wpAny_bind (wpAny_standAt (wpAny_bind (thn h fun it' s' z=>wpAny_pure ⟨rfl,z⟩)))
noncomputable def oH {β:Type}(F:Heap->Addr->β->Prop)(e0:β)(prog:Program)(w:World)(A:Around)(mk:Sem Value):Prop :=
 ∀ (Q:bA) (E:bA) (s:Shared),(∀ o:Obj,o.isFreed=false->(∀ h:Heap,h.get? s.heap.objs.size=some o->F h s.heap.objs.size e0)->Q (.ref s.heap.objs.size) { s with heap:=s.heap.push o })->wpAny (model prog w) A mk Q E s
theorem nU:oH BI [] prog w A (newList []):=fun _ _ _ q=>wpAny_newObj_type (q _ rfl fun _ e=>⟨Nat.zero_le _,#[],⟨_,e⟩,.nil⟩)
end
section
variable {β:Type}{F:Heap->Addr->β->Prop}{e0:β}{mk:Sem Value}{ce:Expr}{cls:List Comprehension}{ob:HO}
variable {X:Cx}{scope:Scope}{N':bE}{src:List (Option Nat)}{pins:bK}{σ:St}{H₂:Hp}{s₂:Shared}{fp:List Addr}{it:Addr}{tn:w4}{J:It}{tg iter:Expr}{ifs:g9}
theorem BD {pl:bK}{σc:St}{H':Hp}{s':Shared}{C D:Addr}(I2:aF X pins σ H₂ s₂)(hf:∀ b ∈ fp,cA X pins H₂ b)
  (I':aF (blk X scope N' C s₂ H₂ fp) pl σc H' s') (hD:s₂.heap.objs.size<=D) (hDn:H' D=none) (ok:aU X.prog X.w (upd H' D ob) s'.heap D ob):aF X pins σ (upd H' D ob) s':=by
 have u:=I'.base
 have neD:∀ b o,s₂.heap.get? b=some o->b≠D:=fun b o e=>Nat.ne_of_lt (Nat.lt_of_lt_of_le (Heap.lt_size e) hD)
 have neT:∀ b o,H' b=some o->b≠D:=fun b o e z=>by rw [z,hDn] at e;cases e
 refine I2.call' (ch:=fp) I'.os ⟨u.keep,u.slot,fun b o e n hx=>?_,u.there,fun b xs e=>?_,fun b o xs e=>?_,fun b ps e=>?_⟩ (fun b o e=>?_) I'.bare fun b hb=>?_
 ·rw [aE (neD b o e)];exact u.free b o e n hx
 ·have q:=u.tups b xs e
  rw [aE (neT b _ q)];exact q
 ·have q:=u.frzs b o xs e
  rw [aE (neT b _ q)];exact q
 ·obtain ⟨more,q⟩:=u.tbls b ps e
  exact ⟨more,by rw [aE (neT b _ q)];exact q⟩
 ·by_cases hb:b=D
  ·subst hb
   rw [upd_same] at e
   cases e
   exact ok
  ·rw [aE hb] at e
   exact (I'.hok b o e).stay (fun _ _ _ q=>q) (fun c q=>by rw [aE (neT c _ q)];exact q) fun c xs q=>by rw [aE (neT c _ q)];exact q
 ·obtain ⟨f0,f1,f2,f3,f4,f5⟩:=hf b hb
  exact ⟨f3,f1,f4,f5⟩
theorem uU {P:Program}{w:World}{H:Hp}{h:Heap}{a:Addr}{acc:List V}:BI h a acc->aU P w H h a (.lst acc):=fun ⟨hz,items,⟨n,ho⟩,r⟩=>⟨hz,items.toList,n,r,by simpa using ho⟩
structure vH (F:Heap->Addr->β->Prop)(e0:β)(X:Cx)(scope:Scope)(N':bE)(src:List (Option Nat))(s₂:Shared)(H₂:Hp)(σ:St)(fp:List Addr)(tn:w4)(D C:Addr)(t:Shared):Prop where
 at_:s₂.heap.objs.size=D
 le:s₂.heap.objs.size<=C
 ne:D≠C
 place:h8 (blk X scope N' C s₂ H₂ fp) [] D fp
 betw:∀ W:wY β,(∃ m,W 0 m e0 (stC src σ) H₂)->∃ m,sL F (blk X scope N' C s₂ H₂ fp) [] D fp tn W m t
theorem xC {h h':Heap}{o o':Obj}(ho:o.isFreed=false)(hs:Heap.SameBut (h.push o).objs.size ((h.push o).push o') h'):(∀ b x,h.get? b=some x->h'.get? b=some x)/\h'.get? h.objs.size=some o:=by
 have key:∀ b x,(h.push o).get? b=some x->h'.get? b=some x:=fun b x e=>hs.extBut b x (Nat.ne_of_lt (Heap.lt_size e)) (Heap.get?_push_of_some o' e)
 exact ⟨fun b x e=>key b x (Heap.get?_push_of_some o e),key _ _ (Heap.get?_push_size h ho)⟩
theorem rY {RR:Value->Addr->Result->Shared->Prop}{E:bA}(hmk:oH F e0 X.prog X.w X.A mk)(hk:zM ce)(hcl:clausesOf ce=⟨tg,iter,ifs,0⟩ :: cls)(S:aV X scope N' src)(I2:aF X pins σ H₂ s₂)(T:∀ C,mK (blk X scope N' C s₂ H₂ fp) tg J fp it tn)(st2:tn 0 s₂.heap)(hf:∀ b ∈ fp,cA X pins H₂ b)
  (k:∀ D C t,vH F e0 X scope N' src s₂ H₂ σ fp tn D C t->codeAny (model X.prog X.w) X.A (.compLoop ce 0 (.ref it) (.ref D) (blk X scope N' C s₂ H₂ fp).env) (RR (.ref D) C) t) :
  wpAny (model X.prog X.w) X.A mk (fun acc s₃=>wpAny (model X.prog X.w) X.A (newFunctionEnv scope X.env.globals (closL X.env.cells scope.names []) [] X.env.qual none .none (some X.env)) (fun cenv s₄ =>
   codeAny (model X.prog X.w) X.A (.compStart ce 0 (.ref it) acc { cenv with scope:=relabel scope X.env }) (RR acc cenv.locals) s₄) E s₃) E s₂:=by
 refine hmk _ _ _ fun o of ox=>?_
 refine wpAny_newFunctionEnv S.cell (fun _ z=>nomatch z) (fun h₁ ns sb=>?_) S.kind
 obtain ⟨old,new⟩:=xC of sb
 have sz:(s₂.heap.push o).objs.size=s₂.heap.objs.size + 1:=Heap.size_push ..
 dsimp only at ns old new ⊢
 rw [sz] at ns ⊢
 have lt:∀ b ∈ fp,b < s₂.heap.objs.size:=fun b hb=>let ⟨_,e,_⟩:=(T 0).obj 0 _ st2 b hb;Heap.lt_size e
 have st1:tn 0 h₁:=(T 0).keep _ _ _ st2 fun b _ o e=>old b o e
 have off:s₂.heap.objs.size ∉ fp:=fun z=>Nat.lt_irrefl _ (lt _ z)
 have I1:=S.start (tk:=s₂.toks + ([]:List (Str×Value)).length) (pl:=[]) I2 hf lt (Nat.le_succ _) old ns (fun _ z=>nomatch z)
 have pl:h8 (blk X scope N' (s₂.heap.objs.size + 1) s₂ H₂ fp) [] s₂.heap.objs.size fp:=by
  refine ⟨off,fun H hn=>?_,fun H hn b hb=>?_⟩
  ·have f:=I2.fpOk (Nat.le_refl _) hn
   refine ⟨hn,Nat.ne_of_lt (Nat.lt_succ_self _),fun z=>?_,.inr (Nat.le_refl _),fun x c e=>f.2.2.2.2.1 x c (S.cl I2 e),fun _ z=>nomatch z⟩
   exact (List.mem_cons.mp (I2.stkSub _ z)).elim f.2.1 f.2.2.1
  ·exact ⟨hn b hb,Nat.ne_of_lt (Nat.lt_succ_of_lt (lt b hb)),I1.ok.exfs b hb,.inl hb,fun x c e=>(hf b hb).2.2.2.2.1 x c (S.cl I2 e),fun _ z=>nomatch z⟩
 have bg:vH F e0 X scope N' src s₂ H₂ σ fp tn s₂.heap.objs.size (s₂.heap.objs.size + 1) { s₂ with heap:=h₁,toks:=s₂.toks + ([]:List (Str×Value)).length } :=
  ⟨rfl,Nat.le_succ _,Nat.ne_of_lt (Nat.lt_succ_self _),pl,fun W ⟨m,w⟩=>⟨m,0,_,H₂,e0,I1,st1,fun b hb=>(hf b hb).1,I2.hok.fresh (Nat.le_refl _),ox _ new,w⟩⟩
 have go:=k _ _ _ bg
 exact kE hk hcl rfl go ((T 0).self _ 0 _ _ _ st1 go)
theorem vH.out {D C:Addr}{t s:Shared}{H':Hp}{σc:St}(B:vH F e0 X scope N' src s₂ H₂ σ fp tn D C t)(I2:aF X pins σ H₂ s₂)(hf:∀ b ∈ fp,cA X pins H₂ b)(I:aF (blk X scope N' C s₂ H₂ fp) [] σc H' s)(hD:H' D=none)(ok:aU X.prog X.w (upd H' D ob) s.heap D ob) :
  H' C=none/\(∃ m,s.heap.Ns C m)/\aF X pins σ (upd H' D ob) s :=
 ⟨I.free,⟨_,I.loc.choose_spec.1⟩,BD I2 hf I (Nat.le_of_eq B.at_) hD ok⟩
variable {elt:Expr}{pos:Pos}{g:TG}{tt:TT}{te:TE}{tl:β->St->Hp->(β->Hp->Prop)->Prop}
noncomputable def iQ (J:It)(g:TG)(tt:TT)(tl:β->St->Hp->(β->Hp->Prop)->Prop)(Fin:β->Hp->Prop)(W:wY β):Prop:=∀ i m acc σ H,W i m acc σ H ->
 (J.stop i H/\Fin acc H) ∨
 (J.go i H/\∀ x H',J.yld i H x H'->g x σ H' fun σ2 H2=>tt σ2 H2 fun b H3 =>
  if b=true then tl acc σ2 H3 fun a H4=>∃ m',m' < m/\W (i + 1) m' a σ2 H4 else ∃ m',m' < m/\W (i + 1) m' acc σ2 H3)
theorem mE {W:wY β}{Fin:β->Hp->Prop}{RR:Value->Addr->Result->Shared->Prop}{E:bA}{lay:Value->Env->Sem Unit}{obj:Addr->β->HO}{ps:Pos}(hF:zF F)(hmk:oH F e0 X.prog X.w X.A mk)(hk:zM ce)(hcl:clausesOf ce=⟨tg,iter,ifs,0⟩ :: cls)(hb:∀ it acc env,compTurn ce 0 it acc env=iA ps it tg env (layOn ifs (lay acc env) env (.compLoop ce 0 it acc env)))(hok:∀ H h D acc,F h D acc->aU X.prog X.w H h D (obj D acc))
  (S:aV X scope N' src) (I2:aF X pins σ H₂ s₂) (T:∀ C,mK (blk X scope N' C s₂ H₂ fp) tg J fp it tn) (st2:tn 0 s₂.heap) (hf:∀ b ∈ fp,cA X pins H₂ b)
  (hg:∀ C,PG (blk X scope N' C s₂ H₂ fp) tg g) (ht:∀ C,BS (blk X scope N' C s₂ H₂ fp) ifs tt) (hl:∀ C D acc,zH F (blk X scope N' C s₂ H₂ fp) D (lay (.ref D) (blk X scope N' C s₂ H₂ fp).env) (tl acc) acc)
  (w0:∃ m,W 0 m e0 (stC src σ) H₂) (turn:iQ J g tt tl Fin W)
  (hRR:∀ D C s' H' acc,s₂.heap.objs.size<=C->H' C=none->D≠C->(∃ m,s'.heap.Ns C m)->aF X pins σ (upd H' D (obj D acc)) s'->H' D=none->Fin acc H'->RR (.ref D) C (.ok .next) s') :
  wpAny (model X.prog X.w) X.A mk (fun acc s₃=>wpAny (model X.prog X.w) X.A (newFunctionEnv scope X.env.globals (closL X.env.cells scope.names []) [] X.env.qual none .none (some X.env)) (fun cenv s₄ =>
   codeAny (model X.prog X.w) X.A (.compStart ce 0 (.ref it) acc { cenv with scope:=relabel scope X.env }) (RR acc cenv.locals) s₄) E s₃) E s₂:=by
 refine rY hmk hk hcl S I2 T st2 hf fun D C t B=>?_
 obtain ⟨m,b⟩:=B.betw W w0
 refine lQ hk (hb ..) (sL F (blk X scope N' C s₂ H₂ fp) [] D fp tn W) (fun n s b=>?_) m b
 refine (n6 (Y:=blk X scope N' C s₂ H₂ fp) hF (fun _ _ z=>z) (T C) B.place (hg C) turn (fun s σc H acc I hD hp fin=>?_) n s b).mono (fun _ z=>z) ?_
 ·obtain ⟨o1,o2,o3⟩:=B.out I2 hf I hD (hok _ _ _ _ hp)
  exact hRR D C s H acc B.le o1 B.ne o2 o3 hD fin
 ·rintro t ⟨i,acc,o,more,σ3,H3,mid,I3,q3⟩
  exact sI.go (rE (W:=W) (fun _ _ z=>z) B.place (T C) (ht C) (hl C D acc) mid I3 q3)
theorem y3 {Q:VK}{D C:Addr}{s':Shared}{H':Hp}(I2:aF X pins σ H₂ s₂)(hC:s₂.heap.objs.size<=C)(hCn:H' C=none)(hDC:D≠C)(hns:∃ m,s'.heap.Ns C m)(I':aF X pins σ (upd H' D ob) s')(q:Q (.ref D) (upd H' D ob)) :
  compPost (model X.prog X.w) X.A X.xe none (EP X pins σ Q) (.ref D) C (.ok .next) s':=by
 obtain ⟨m,hn⟩:=hns
 have f:=I2.fpOk (H':=upd H' D ob) hC (by rw [aE (Ne.symm hDC)];exact hCn)
 exact ⟨m,hn,fun h' hs'=>⟨.ref D,_,I'.turned (t':=s'.toks) (fun b o hb e=>hs'.extBut b o hb e) f.1 f.2.1 f.2.2.2.1 f.2.2.2.2.1 f.2.2.2.2.2,rfl,q⟩⟩
theorem rK {D':hI}{D C:Addr}{s':Shared}{H':Hp}{i:Nat}{y:Str}{py:Pos}(hN:X.N.Nodup)(hiy:X.N[i]?=some y)(hy:X.env.scope.names.lookup y=some .local)(I2:aF X pins σ H₂ s₂)(hC:s₂.heap.objs.size<=C)(hCn:H' C=none)(hDC:D≠C)(hns:∃ m,s'.heap.Ns C m)(I':aF X pins σ (upd H' D ob) s')(q:D'.nx (σ.set i (some (.ref D))) (upd H' D ob)) :
  compPost (model X.prog X.w) X.A X.xe (some (assign (.Name y py) X.env)) (fun _ s'=>SP X pins D' .next s') (.ref D) C (.ok .next) s':=by
 obtain ⟨m,hn⟩:=hns
 have f:=I2.fpOk (H':=upd H' D ob) hC (by rw [aE (Ne.symm hDC)];exact hCn)
 refine wpAny_assign_Name (nJ I' hN hiy (.inl hy) (v:=.ref D) rfl (fun t It ⟨a,sb,ha⟩=>?_) (.inr hy))
 have ne:C≠a:=ha.elim (fun e=>e ▸ f.2.1) fun e z=>f.2.2.2.2.1 y a e z.symm
 exact ⟨m,hn.sameBut sb ne,fun h' hs'=>⟨_,_,It.turned (t':=t.toks) (fun b o hb e=>hs'.extBut b o hb e) f.1 f.2.1 f.2.2.2.1 f.2.2.2.2.1 f.2.2.2.2.2,q⟩⟩
theorem vJ {gens:List Comprehension}{y:Str}{py spos:Pos}{Q:Flow->Shared->Prop}{s:Shared}(hsw:swapsWith (.ListComp elt gens scope pos) (some (.Name y py)) spos.line X.env=pure true)
  (h:wpAny (model X.prog X.w) X.A (comprehension (.ListComp elt gens scope pos) scope X.env (firstIterPos gens pos) (newList []) (firstAsync gens) (firstIter gens X.env) (some (assign (.Name y py) X.env))) (fun _=>Q .next) X.xe s) :
  wpAny (model X.prog X.w) X.A (exec (.Assign [.Name y py] (.ListComp elt gens scope pos) spos) X.env) Q X.xe s:=by
 have u:wpAny (model X.prog X.w) X.A (evalThenUse (.ListComp elt gens scope pos) X.env (assign (.Name y py) X.env)) (fun _=>Q .next) X.xe s:=wpAny_bind (thn h fun _ _ q=>wpAny_pure q)
 exact (exec_Assign_Name_used y py _ spos hsw) ▸ wpAny_bind (wpAny_standAt (wpAny_bind (thn u fun _ _ q=>wpAny_pure q)))
theorem oA {wi:TI}{use:Option (Value->Sem Unit)}{Q:bA}{s:Shared}{H:Hp}{K:It->Hp->Prop}{ps:Pos}(hcl:clausesOf ce=⟨tg,iter,ifs,0⟩ :: cls)(S:aV X scope N' src)(hi:PI X tg iter wi)(hs:∀ x,foldedSetIterable iter X.env x=pure x)(I:aF X pins σ H s)(h:wi σ H K)
  (k:∀ s₂ H₂ it fp tn J,aF X pins σ H₂ s₂->j3 X.prog X.w X.K tg J fp it tn->tn 0 s₂.heap->(∀ b ∈ fp,cA X pins H₂ b)->K J H₂ ->
   wpAny (model X.prog X.w) X.A mk (fun acc s₃=>wpAny (model X.prog X.w) X.A (newFunctionEnv scope X.env.globals (closL X.env.cells scope.names []) [] X.env.qual none .none (some X.env)) (fun cenv s₄ =>
    codeAny (model X.prog X.w) X.A (.compStart ce 0 (.ref it) acc { cenv with scope:=relabel scope X.env }) (compPost (model X.prog X.w) X.A X.xe use Q acc cenv.locals) s₄) X.xe s₃) X.xe s₂) :
  wpAny (model X.prog X.w) X.A (comprehension ce scope X.env ps mk false (eval iter X.env) use) Q X.xe s:=by
 refine wpAny_comprehension_free hcl hs (h7 (S.cells I)) S.kind S.names (thn (hi pins s σ H K I h) fun _ _ q=>thn q ?_)
 rintro _ s₂ ⟨it,fp,tn,J,H₂,rfl,I2,T,st,f,q⟩
 exact k s₂ H₂ it fp tn J I2 T st f q
theorem cE {wi:TI}(hc:X.calm=true)(S:aV X scope N' src)(hi:PI X tg iter wi)(hg:∀ C s H fp,PG (blk X scope N' C s H fp) tg g)(ht:∀ C s H fp,BS (blk X scope N' C s H fp) ifs tt)(he:∀ C s H fp,PE (blk X scope N' C s H fp) elt te)
  (hs:∀ x,foldedSetIterable iter X.env x=pure x:=by intro _;rfl):PE X (.ListComp elt [⟨tg,iter,ifs,0⟩] scope pos) (tComp src wi g tt te):=by
 intro pins s σ H Q I h
 rw [eval_ListComp]
 refine oA rfl S hi hs I h fun s₂ H₂ it fp tn J I2 T st f ⟨W,w0,turn⟩=>?_
 exact mE (lay:=pH elt) (tl:=tlLst te) (obj:=fun _=>.lst) nV nU (.lst ..) rfl (qD elt tg iter ifs scope pos) (fun _ _ _ _=>uU) S I2 (fun C=>j3.y (Y:=blk X scope N' C s₂ H₂ fp) T hc) st f (fun C=>hg C s₂ H₂ fp) (fun C=>ht C s₂ H₂ fp) (fun C D acc=>rD (fun _ _ z=>z) (he C s₂ H₂ fp)) w0 turn fun D C s' H' acc a1 a2 a3 a4 a5 a6 fin=>y3 I2 a1 a2 a3 a4 a5 (fin D a6)
theorem pA {wi:TI}{i:Nat}{y:Str}{py spos:Pos}(hN:X.N.Nodup)(hiy:X.N[i]?=some y)(hy:X.env.scope.names.lookup y=some .local)(hsw:swapsWith (.ListComp elt [⟨tg,iter,ifs,0⟩] scope pos) (some (.Name y py)) spos.line X.env=pure true)
  (hc:X.calm=true) (S:aV X scope N' src) (hi:PI X tg iter wi) (hg:∀ C s H fp,PG (blk X scope N' C s H fp) tg g) (ht:∀ C s H fp,BS (blk X scope N' C s H fp) ifs tt) (he:∀ C s H fp,PE (blk X scope N' C s H fp) elt te)
  (hs:∀ x,foldedSetIterable iter X.env x=pure x:=by intro _;rfl):PS X (.Assign [.Name y py] (.ListComp elt [⟨tg,iter,ifs,0⟩] scope pos) spos) (tAsg (tComp src wi g tt te) (gName i)):=by
 intro pins s σ H D I h
 refine vJ hsw ?_
 refine oA rfl S hi hs I h fun s₂ H₂ it fp tn J I2 T st f ⟨W,w0,turn⟩=>?_
 exact mE (lay:=pH elt) (tl:=tlLst te) (obj:=fun _=>.lst) nV nU (.lst ..) rfl (qD elt tg iter ifs scope pos) (fun _ _ _ _=>uU) S I2 (fun C=>j3.y (Y:=blk X scope N' C s₂ H₂ fp) T hc) st f (fun C=>hg C s₂ H₂ fp) (fun C=>ht C s₂ H₂ fp) (fun C D acc=>rD (fun _ _ z=>z) (he C s₂ H₂ fp)) w0 turn fun D C s' H' acc a1 a2 a3 a4 a5 a6 fin=>rK hN hiy hy I2 a1 a2 a3 a4 a5 (fin D a6)
end
noncomputable def lO:bE->Bool
 | []=>true
 | x :: r=>!r.contains x && lO r
theorem jO:∀ {l:bE},lO l=true->l.Nodup
 | [],_=>List.nodup_nil
 | x :: r,h=>by
  simp only [lO,Bool.and_eq_true,Bool.not_eq_true',List.contains_eq_mem,decide_eq_false_iff_not] at h
  exact List.nodup_cons.mpr ⟨h.1,jO h.2⟩
noncomputable def compB (N:bE)(names:List (Str×NameKind))(scope:Scope)(N':bE)(src:List (Option Nat)):Bool :=
 decide (scope.kind = .function) && scope.names.all (fun y=>decide (y.2≠.cell)) && scope.names.all (fun y=>decide (y.2≠.local) || decide (scope.names.lookup y.1=some .local)) &&
 scope.names.all (fun y=>decide (y.2≠.free) || (decide (names.lookup y.1=some .cell) || decide (names.lookup y.1=some .free))) && lO N' && srcOk N scope.names src N'
theorem aV.by {X:Cx}{N:bE}{names:List (Str×NameKind)}{scope:Scope}{N':bE}{src:List (Option Nat)}(h:compB N names scope N' src=true)(hN:X.N=N)(hE:X.env.scope.names=names):aV X scope N' src:=by
 subst hN hE
 simp only [compB,Bool.and_eq_true,List.all_eq_true,Bool.or_eq_true,decide_eq_true_eq] at h
 obtain ⟨⟨⟨⟨⟨h1,h2⟩,h3⟩,h4⟩,h5⟩,h6⟩:=h
 exact ⟨h1,h2,fun y hy hk=>(h3 y hy).resolve_left fun z=>z hk,fun y hy hk=>(h4 y hy).resolve_left fun z=>z hk,jO h5,h6⟩
noncomputable def gB (P:Program)(w:World)(K:PySem.W.Frag)(mg:eV)(base:Heap)(CX:zL)(k:Nat)(x:Str)(sp:Sp):Prop :=
 ∃ f fd ps,dE P w K mg base CX k f fd ps sp/\mg x=some (.ref f)/\PySem.W.keepIn K (.ref f)=true/\oJ K fd ps []
section
variable {X:Cx}{CX:zL}{k:Nat}{sp:Sp}{E:XK}{x:Str}{p pos:Pos}{e:Expr}{es:g9}{t:TA}
theorem bF (O:gB X.prog X.w X.K X.mg X.base CX k x sp)(hr:dX k X.A)(hx:pT CX X E)(hg:Gl X x)(ha:PA X (e :: es) t)(hdb:(x == ("__debug__" : Str))=false:=by decide)
  (he:starEach (e :: es) X.env=(false,eval e X.env) :: starEach es X.env:=by rfl) (hpl:(backTo pos (starEach es X.env)).any (·.1)=false:=by rfl):PE X (.Call (.Name x p) (e :: es) [] pos) (tCall sp [] E t):=by
 obtain ⟨f,fd,ps,F,hm,hk,hb⟩:=O
 exact AM F hr hg hm hk hb .nil hx ha hdb he hpl
theorem qT {v:V}(hm:∃ u,X.mg x=some u/\aL v u)(hg:Gl X x)(hd:(x == ("__debug__" : Str))=false:=by decide):PE X (.Name x pos) (tC v):=by
 obtain ⟨u,h,r⟩:=hm
 exact AL hg h r hd
end
section
variable {X:Cx}
noncomputable def ixV (H:Hp):V->V->Option V
 | .ref p,.int i=>match H p with
  | some (.lst xs)=>atI xs i
  | some (.tup xs)=>atI xs i
  | some (.frz _ (.lst xs))=>atI xs i
  | _=>none
 | .str z,.int i=>if z.length<=sizeLine then (atI z.cps.toList i).map fun c=>.str ⟨#[c]⟩ else none
 | _,_=>none
theorem pI:zP X (fun x y H Q=>∃ v,ixV H x y=some v/\Q v H):=by
 intro value slice pins s σ H x y v u Q I rx ry h hs
 obtain ⟨z,e,q⟩:=h
 refine yO value slice pins s σ H x y v u Q I rx ry ?_ hs
 cases x with
 | ref p =>
  cases y with
  | int i =>
   unfold ixV at e
   dsimp only at e
   split at e
   ·rename_i xs hp;exact .inl ⟨p,xs,i,z,rfl,rfl,cY.of hp,e,q⟩
   ·rename_i xs hp;exact .inr (.inl ⟨p,xs,i,z,rfl,rfl,d7.of hp,e,q⟩)
   ·rename_i o xs hp;exact .inl ⟨p,xs,i,z,rfl,rfl,.inl (.inr ⟨o,hp⟩),e,q⟩
   ·cases e
  | _=>cases e
 | str t =>
  cases y with
  | int i =>
   unfold ixV at e
   dsimp only at e
   split at e
   ·rename_i hz
    cases ea:atI t.cps.toList i with
    | none=>rw [ea] at e;cases e
    | some c =>
     rw [ea] at e
     cases e
     exact .inr (.inr ⟨t,i,c,rfl,rfl,hz,ea,q⟩)
   ·cases e
  | _=>cases e
 | _=>cases e
noncomputable def lenV (H:Hp):V->Option Nat
 | .ref p=>match H p with
  | some (.lst xs)=>some xs.length
  | some (.tup xs)=>some xs.length
  | some (.frz _ (.lst xs))=>some xs.length
  | some (.dK kvs)=>some kvs.length
  | _=>none
 | .str z=>if z.length<=sizeLine then some z.length else none
 | _=>none
theorem bI.or' {f:Value}{r r':List V->Hp->VK->Prop}(h:bI X f r)(h':bI X f r'):bI X f (fun xs H Q=>r xs H Q∨r' xs H Q):=by
 intro pins s σ H xs us Q I rs q
 rcases q with q | q
 ·exact h pins s σ H xs us Q I rs q
 ·exact h' pins s σ H xs us Q I rs q
theorem bI.imp {f:Value}{r r':List V->Hp->VK->Prop}(h:bI X f r)(i:∀ xs H Q,r' xs H Q->r xs H Q):bI X f r':=fun pins s σ H xs us Q I rs q=>h pins s σ H xs us Q I rs (i _ _ _ q)
theorem fJ.imp {f:Value->Value->Sem Value}{r r':R2}(h:fJ X f r)(i:∀ x y H Q,r' x y H Q->r x y H Q):fJ X f r':=fun pins s σ H x y v u Q I rx ry q=>h pins s σ H x y v u Q I rx ry (i _ _ _ _ q)
noncomputable def r1 (f:Hp->V->Option V):List V->Hp->VK->Prop:=fun xs H Q=>∃ x v,xs=[x]/\f H x=some v/\Q v H
theorem d6:bI X (.builtin "len") (r1 fun H x=>(lenV H x).map fun n=>.int n):=by
 refine ((jE.or' pQ).or' wT).imp fun xs H Q h=>?_
 obtain ⟨x,v,rfl,e,q⟩:=h
 cases x with
 | ref p =>
  unfold lenV at e
  dsimp only at e
  split at e
  ·rename_i xs hp;cases e;exact .inl (.inl ⟨p,xs,rfl,.inl (cY.of hp),q⟩)
  ·rename_i xs hp;cases e;exact .inl (.inl ⟨p,xs,rfl,.inr (d7.of hp),q⟩)
  ·rename_i o xs hp;cases e;exact .inl (.inl ⟨p,xs,rfl,.inl (.inl (.inr ⟨o,hp⟩)),q⟩)
  ·rename_i kvs hp;cases e;exact .inr ⟨p,kvs,rfl,hp,q⟩
  ·cases e
 | str z =>
  unfold lenV at e
  dsimp only at e
  split at e
  ·rename_i hz;cases e;exact .inl (.inr ⟨z,rfl,hz,q⟩)
  ·cases e
 | _=>cases e
noncomputable def intV:V->Option V
 | .int i=>some (.int i)
 | .bl k=>some (.int (if k then 1 else 0))
 | _=>none
noncomputable def addV:V->V->Option V
 | .int i,.int j=>some (.int (i + j))
 | .str i,.str j=>if i.length + j.length<=sizeLine then some (.str (i ++ j)) else none
 | _,_=>none
noncomputable def catO (H:Hp):V->V->Option HO
 | .ref a,.ref b=>match H a,H b with
  | some (.lst xs),some (.lst ys)=>if xs.length + ys.length<=sizeLine then some (.lst (xs ++ ys)) else none
  | some (.tup xs),some (.tup ys)=>if xs.length + ys.length<=sizeLine/\xs≠[]/\ys≠[] then some (.tup (xs ++ ys)) else none
  | _,_=>none
 | _,_=>none
noncomputable def rAddF:R2:=fun x y H Q=>(∃ v,addV x y=some v/\Q v H)∨(∃ o,catO H x y=some o/\∀ p,H p=none->Q (.ref p) (upd H p o))
theorem aZ:fJ X (binaryOp .Add) rAddF:=by
 refine ((CO.or tF).or (CN.or uK)).imp fun x y H Q h=>?_
 rcases h with ⟨v,e,q⟩ | ⟨o,e,q⟩
 ·cases x with
  | int i=>cases y with
   | int j=>cases e;exact .inl (.inl ⟨i,j,rfl,rfl,q⟩)
   | _=>cases e
  | str i=>cases y with
   | str j =>
    unfold addV at e
    dsimp only at e
    split at e
    ·rename_i hz;cases e;exact .inl (.inr ⟨i,j,rfl,rfl,hz,q⟩)
    ·cases e
   | _=>cases e
  | _=>cases e
 ·cases x with
  | ref a=>cases y with
   | ref b =>
    unfold catO at e
    dsimp only at e
    split at e
    ·rename_i xs ys ha hb
     split at e
     ·rename_i hz;cases e;exact .inr (.inl ⟨a,b,xs,ys,rfl,rfl,ha,hb,hz,q⟩)
     ·cases e
    ·rename_i xs ys ha hb
     split at e
     ·rename_i hz;cases e;exact .inr (.inr ⟨a,b,xs,ys,rfl,rfl,d7.of ha,d7.of hb,hz.2.1,hz.1,fun w=>absurd w hz.2.2,fun _=>q⟩)
     ·cases e
    ·cases e
   | _=>cases e
  | _=>cases e
end
inductive D where
 | non | bl (b:Bool) | int (i:Int) | str (x:Str) | tup (xs:List D) | lst (xs:List D)
mutual
noncomputable def cZ (H:Hp):D->V->Prop
 | .non,v=>v = .non
 | .bl b,v=>v = .bl b
 | .int i,v=>v = .int i
 | .str x,v=>v = .str x
 | .tup ds,v=>∃ a vs,v = .ref a/\H a=some (.tup vs)/\Reps H ds vs
 | .lst ds,v=>∃ a vs,v = .ref a/\H a=some (.lst vs)/\Reps H ds vs
noncomputable def Reps (H:Hp):List D->List V->Prop
 | [],vs=>vs=[]
 | d :: ds,vs=>∃ v r,vs=v :: r/\cZ H d v/\Reps H ds r
end
mutual
theorem cZ.same {H H':Hp}(s:aC H H'):∀ {d:D} {v:V},cZ H d v->cZ H' d v
 | .non,_,h=>h
 | .bl _,_,h=>h
 | .int _,_,h=>h
 | .str _,_,h=>h
 | .tup _,_,⟨a,vs,e,h,r⟩=>⟨a,vs,e,s _ _ h,Reps.same s r⟩
 | .lst _,_,⟨a,vs,e,h,r⟩=>⟨a,vs,e,s _ _ h,Reps.same s r⟩
theorem Reps.same {H H':Hp}(s:aC H H'):∀ {ds:List D} {vs:List V},Reps H ds vs->Reps H' ds vs
 | [],_,h=>h
 | _ :: _,_,⟨v,r,e,h,q⟩=>⟨v,r,e,cZ.same s h,Reps.same s q⟩
end
theorem Reps.length {H:Hp}:∀ {ds:List D} {vs:List V},Reps H ds vs->vs.length=ds.length
 | [],_,h=>by cases h;rfl
 | _ :: _,_,⟨v,r,e,_,q⟩=>by subst e;simp [Reps.length q]
mutual
noncomputable def eqD:D->D->Bool
 | .non,.non=>true
 | .bl a,.bl b=>a == b
 | .bl a,.int b=>(if a then 1 else 0) == b
 | .int a,.bl b=>a == (if b then 1 else 0)
 | .int a,.int b=>a == b
 | .str a,.str b=>a == b
 | .tup xs,.tup ys=>eqDs xs ys
 | .lst xs,.lst ys=>eqDs xs ys
 | _,_=>false
noncomputable def eqDs:List D->List D->Bool
 | [],[]=>true
 | x :: xs,y :: ys=>eqD x y && eqDs xs ys
 | _,_=>false
end
mutual
noncomputable def depD:D->Nat
 | .tup xs=>depDs xs + 1
 | .lst xs=>depDs xs + 1
 | _=>0
noncomputable def depDs:List D->Nat
 | []=>0
 | x :: xs=>max (depD x) (depDs xs)
end
end L2
namespace L2
open PySem PySem.Spec PyProof.Rows PySem.SeqAt
mutual
theorem cZ.inj {H:Hp}:∀ {d e:D} {v:V},cZ H d v->cZ H e v->d=e
 | .non,e,v,h,k=>by cases h;cases e <;> first | rfl | (exact absurd k (by simp [cZ])) | (obtain ⟨_,_,z,_⟩:=k;cases z)
 | .bl b,e,v,h,k=>by cases h;cases e <;> first | (cases k;rfl) | (exact absurd k (by simp [cZ])) | (obtain ⟨_,_,z,_⟩:=k;cases z)
 | .int b,e,v,h,k=>by cases h;cases e <;> first | (cases k;rfl) | (exact absurd k (by simp [cZ])) | (obtain ⟨_,_,z,_⟩:=k;cases z)
 | .str b,e,v,h,k=>by cases h;cases e <;> first | (cases k;rfl) | (exact absurd k (by simp [cZ])) | (obtain ⟨_,_,z,_⟩:=k;cases z)
 | .tup ds,e,v,⟨a,vs,h1,h2,h3⟩,k=>by
  subst h1
  cases e with
  | tup es =>
   obtain ⟨b,ws,k1,k2,k3⟩:=k
   cases k1
   rw [h2] at k2
   cases k2
   rw [Reps.inj h3 k3]
  | lst es =>
   obtain ⟨b,ws,k1,k2,k3⟩:=k
   cases k1
   rw [h2] at k2
   cases k2
  | _=>exact absurd k (by simp [cZ])
 | .lst ds,e,v,⟨a,vs,h1,h2,h3⟩,k=>by
  subst h1
  cases e with
  | lst es =>
   obtain ⟨b,ws,k1,k2,k3⟩:=k
   cases k1
   rw [h2] at k2
   cases k2
   rw [Reps.inj h3 k3]
  | tup es =>
   obtain ⟨b,ws,k1,k2,k3⟩:=k
   cases k1
   rw [h2] at k2
   cases k2
  | _=>exact absurd k (by simp [cZ])
theorem Reps.inj {H:Hp}:∀ {ds es:List D} {vs:List V},Reps H ds vs->Reps H es vs->ds=es
 | [],[],_,_,_=>rfl
 | [],e :: es,_,h,k=>by cases h;obtain ⟨_,_,z,_⟩:=k;cases z
 | d :: ds,[],_,h,k=>by cases k;obtain ⟨_,_,z,_⟩:=h;cases z
 | d :: ds,e :: es,_,⟨v,r,h1,h2,h3⟩,⟨w,q,k1,k2,k3⟩=>by
  subst h1
  cases k1
  rw [cZ.inj h2 k2,Reps.inj h3 k3]
end
mutual
theorem mC:∀ d:D,eqD d d=true
 | .non=>rfl
 | .bl b=>by simp [eqD]
 | .int b=>by simp [eqD]
 | .str b=>by simp [eqD]
 | .tup xs=>by rw [eqD];exact jW xs
 | .lst xs=>by rw [eqD];exact jW xs
theorem jW:∀ ds:List D,eqDs ds ds=true
 | []=>rfl
 | d :: ds=>by rw [eqDs,mC d,jW ds];rfl
end
theorem mI (n:Nat)(f:Nat->Bool):(List.range (n + 1)).all f=(f 0 && (List.range n).all fun j=>f (j + 1)):=by
 have e:=List.range_succ_eq_map (n:=n);rw [e,List.all_cons,List.all_map]
 rfl
theorem jC:∀ ds es:List D,eqDs ds es=((List.range (min ds.length es.length)).all (fun j=>eqD (ds.getD j .non) (es.getD j .non)) && ds.length == es.length)
 | [],[]=>rfl
 | [],e :: es=>by simp [eqDs]
 | d :: ds,[]=>by simp [eqDs]
 | d :: ds,e :: es=>by
  rw [eqDs,jC ds es]
  have e1:min (d :: ds).length (e :: es).length=min ds.length es.length + 1:=by simp only [List.length_cons];omega
  rw [e1,mI]
  simp only [List.getD_cons_zero,List.getD_cons_succ,List.length_cons]
  rw [Bool.and_assoc]
  congr 2
  rw [Bool.eq_iff_iff];simp
section
variable {P:Program}{w:World}{H:Hp}{s:Shared}
theorem lX (ok:eD P w H s.heap){a:Addr}{vs:List V}(h:H a=some (.lst vs)):∃ its:bJ,aK vs its/\s.heap.IsList a its.toArray:=by
 obtain ⟨_,its,n,r,e⟩:=ok a _ h
 exact ⟨its,r,⟨_,e,rfl,n,rfl⟩⟩
theorem pM (ok:eD P w H s.heap){a:Addr}{vs:List V}(h:H a=some (.tup vs)):∃ its:bJ,aK vs its/\s.heap.IsTuple a its.toArray:=by
 obtain ⟨_,its,r,e⟩:=ok a _ h
 exact ⟨its,r,e⟩
theorem d5 (A:Around):A.in1.units=A.units + 1:=rfl
noncomputable def EQ (u:Value):Prop:=u = .none∨(∃ b,u = .bool b)∨(∃ i t,u = .int i t)∨(∃ x t,u = .str x t)∨∃ a,u = .ref a
theorem xE {H:Hp}{d:D}{v:V}{u:Value}(h:cZ H d v)(r:aL v u):EQ u:=by
 cases d with
 | non=>cases h;exact .inl r
 | bl b=>cases h;exact .inr (.inl ⟨b,r⟩)
 | int i=>cases h;obtain ⟨t,e⟩:=r;exact .inr (.inr (.inl ⟨i,t,e⟩))
 | str x=>cases h;obtain ⟨t,e⟩:=r;exact .inr (.inr (.inr (.inl ⟨x,t,e⟩)))
 | tup ds=>obtain ⟨a,vs,e,_⟩:=h;subst e;exact .inr (.inr (.inr (.inr ⟨a,r⟩)))
 | lst ds=>obtain ⟨a,vs,e,_⟩:=h;subst e;exact .inr (.inr (.inr (.inr ⟨a,r⟩)))
theorem A9 {A:Around}{s:Shared}{u u':Value}{b:Bool}(hu:EQ u)(hu':EQ u')(hs:u≠u')(q:RcAt A s u u' b):EqAt A s u u' b:=by
 intro prog w E Q hq
 unfold eqBool
 refine wpAny_holding ?_
 refine wpAny_ite_split (fun hab=>absurd (eq_of_beq hab) hs) (fun _=>?_)
 have q':=q prog w E (fun v s'=>wpAny (model prog w) A (truthOfDropped v) Q E s') (wpAny_truthy_bool hq)
 rcases hu with rfl | ⟨_,rfl⟩ | ⟨_,_,rfl⟩ | ⟨_,_,rfl⟩ | ⟨_,rfl⟩ <;> rcases hu' with rfl | ⟨_,rfl⟩ | ⟨_,_,rfl⟩ | ⟨_,_,rfl⟩ | ⟨_,rfl⟩ <;> exact wpAny_bind q'
theorem u9 {A:Around}{d e:D}{v v':V}{u u':Value}(h:cZ H d v)(k:cZ H e v')(r:aL v u)(r':aL v' u')(q:RcAt A s u u' (eqD d e)):EqAt A s u u' (eqD d e):=by
 by_cases hs:u=u'
 ·subst hs
  have e1:v=v':=r.inj r'
  subst e1
  have e2:=cZ.inj h k
  subst e2
  rw [mC]
  exact EqAt.same u
 ·exact A9 (xE h r) (xE k r') hs q
noncomputable def kX (s:Shared)(H:Hp)(n:Nat):Prop:=∀ (d e:D) (A:Around) (v v':V) (u u':Value),depD d < n->cZ H d v->cZ H e v'->aL v u->aL v' u'->A.units + depD d < cLine->RcAt A s u u' (eqD d e)
theorem yZ {n:Nat}(ih:kX s H n):∀ {ds es:List D} {A:Around} {vs ws:List V} {us us':bJ},depDs ds < n->Reps H ds vs->Reps H es ws->aK vs us->aK ws us'->A.units + depDs ds < cLine ->
  ∀ j (h1:j < us.length) (h2:j < us'.length),EqAt A s us[j] us'[j] (eqD (ds.getD j .non) (es.getD j .non)):=by
 intro ds
 induction ds with
 | nil=>intro es A vs ws us us' _ h _ r _ _ j h1;cases h;cases r;exact absurd h1 (Nat.not_lt_zero _)
 | cons d ds hs =>
  intro es A vs ws us us' hn h k r r' hu j h1 h2
  cases es with
  | nil=>cases k;cases r';exact absurd h2 (Nat.not_lt_zero _)
  | cons e es =>
   obtain ⟨v,vr,q1,q2,q3⟩:=h
   obtain ⟨y,wr,p1,p2,p3⟩:=k
   subst q1 p1
   rw [depDs] at hu hn
   cases r with
   | cons r1 r2 =>
    cases r' with
    | cons r1' r2' =>
     cases j with
     | zero=>exact u9 q2 p2 r1 r1' (ih d e A v y _ _ (Nat.lt_of_le_of_lt (Nat.le_max_left _ _) hn) q2 p2 r1 r1' (Nat.lt_of_le_of_lt (Nat.add_le_add_left (Nat.le_max_left _ _) _) hu))
     | succ j=>exact hs (Nat.lt_of_le_of_lt (Nat.le_max_right _ _) hn) q3 p3 r2 r2' (Nat.lt_of_le_of_lt (Nat.add_le_add_left (Nat.le_max_right _ _) _) hu) j (Nat.lt_of_succ_lt_succ h1) (Nat.lt_of_succ_lt_succ h2)
theorem AA (ok:eD P w H s.heap){n:Nat}(ih:kX s H n){ds es:List D}{A:Around}{v v':V}{u u':Value}(hn:depDs ds < n)(h:cZ H (.tup ds) v)(k:cZ H (.tup es) v')(r:aL v u)(r':aL v' u')(hu:A.units + depDs ds + 1 < cLine):RcAt A s u u' (eqD (.tup ds) (.tup es)):=by
 obtain ⟨a,vs,h1,h2,h3⟩:=h
 obtain ⟨b,ws,k1,k2,k3⟩:=k
 subst h1 k1;cases r;cases r'
 obtain ⟨its,rv,hl⟩:=pM ok h2
 obtain ⟨its2,rv2,hl2⟩:=pM ok k2
 have q:=RcAt.tuples (A:=A) hl hl2 (by omega) (e:=fun j=>eqD (ds.getD j .non) (es.getD j .non)) fun j h1 h2=>yZ ih hn h3 k3 rv rv2 (A:=A.in1) (by rw [d5];omega) j h1 h2
 have e1:its.toArray.size=ds.length:=by rw [List.size_toArray,← rv.length,h3.length]
 have e2:its2.toArray.size=es.length:=by rw [List.size_toArray,← rv2.length,k3.length]
 rw [e1,e2,← jC] at q
 exact q
theorem AB (ok:eD P w H s.heap){n:Nat}(ih:kX s H n){ds es:List D}{A:Around}{v v':V}{u u':Value}(hn:depDs ds < n)(h:cZ H (.lst ds) v)(k:cZ H (.lst es) v')(r:aL v u)(r':aL v' u')(hu:A.units + depDs ds + 1 < cLine):RcAt A s u u' (eqD (.lst ds) (.lst es)):=by
 obtain ⟨a,vs,h1,h2,h3⟩:=h
 obtain ⟨b,ws,k1,k2,k3⟩:=k
 subst h1 k1;cases r;cases r'
 obtain ⟨its,rv,hl⟩:=lX ok h2
 obtain ⟨its2,rv2,hl2⟩:=lX ok k2
 have e1:its.toArray.size=ds.length:=by rw [List.size_toArray,← rv.length,h3.length]
 have e2:its2.toArray.size=es.length:=by rw [List.size_toArray,← rv2.length,k3.length]
 by_cases hz:its.toArray.size=its2.toArray.size
 ·have q:=RcAt.lists (A:=A) hl hl2 hz (by omega) (e:=fun j=>eqD (ds.getD j .non) (es.getD j .non)) fun j h1 h2=>yZ ih hn h3 k3 rv rv2 (A:=A.in1) (by rw [d5];omega) j h1 h2
  have e3:ds.length=es.length:=by rw [← e1,← e2];exact hz
  have e4:eqD (.lst ds) (.lst es)=(List.range its.toArray.size).all fun j=>eqD (ds.getD j .non) (es.getD j .non):=by
   rw [eqD,jC,e3,Nat.min_self,e1,e3,beq_self_eq_true,Bool.and_true]
  rw [e4]
  exact q
 ·have q:=RcAt.lists_lengths (A:=A) hl hl2 (bne_iff_ne.mpr hz) (by omega)
  have e4:eqD (.lst ds) (.lst es)=false:=by
   rw [eqD,jC]
   have:(ds.length == es.length)=false:=beq_eq_false_iff_ne.mpr (by rw [← e1,← e2];exact hz)
   rw [this,Bool.and_false]
  rw [e4]
  exact q
inductive Kd (s:Shared):D->Value->Prop
 | non:Kd s .non .none
 | bl (b:Bool):Kd s (.bl b) (.bool b)
 | int (i:Int) (t:Tok):Kd s (.int i) (.int i t)
 | str (x:Str) (t:Tok):Kd s (.str x) (.str x t)
 | tup {ds:List D} {a:Addr} {its:bJ}:s.heap.IsTuple a its.toArray->Kd s (.tup ds) (.ref a)
 | lst {ds:List D} {a:Addr} {its:bJ}:s.heap.IsList a its.toArray->Kd s (.lst ds) (.ref a)
theorem BO (ok:eD P w H s.heap):∀ {d:D} {v:V} {u:Value},cZ H d v->aL v u->Kd s d u
 | .non,_,_,h,r=>by cases h;cases r;exact .non
 | .bl b,_,_,h,r=>by cases h;cases r;exact .bl b
 | .int i,_,_,h,r=>by cases h;obtain ⟨t,rfl⟩:=r;exact .int i t
 | .str x,_,_,h,r=>by cases h;obtain ⟨t,rfl⟩:=r;exact .str x t
 | .tup _,_,_,⟨_,_,e,h,_⟩,r=>by subst e;cases r;obtain ⟨_,_,hl⟩:=pM ok h;exact .tup hl
 | .lst _,_,_,⟨_,_,e,h,_⟩,r=>by subst e;cases r;obtain ⟨_,_,hl⟩:=lX ok h;exact .lst hl
theorem AC {A:Around}{d e:D}{u u':Value}(hA:A.units < cLine)(h:Kd s d u)(k:Kd s e u')(n1:∀ xs ys,d = .tup xs->e≠.tup ys)(n2:∀ xs ys,d = .lst xs->e≠.lst ys):RcAt A s u u' (eqD d e):=by
 cases h with
 | non=>cases k with
  | non=>exact RcAt.none_none
  | bl c=>exact RcAt.none_bool c
  | int c t=>exact RcAt.none_int c t
  | str c t=>exact RcAt.none_str c t
  | tup l=>exact RcAt.none_tuple l hA
  | lst l=>exact RcAt.none_list l hA
 | bl x=>cases k with
  | non=>exact RcAt.bool_none x
  | bl c=>exact RcAt.bool_bool x c
  | int c t=>exact RcAt.bool_int x c t
  | str c t=>exact RcAt.bool_str x c t
  | tup l=>exact RcAt.bool_tuple x l hA
  | lst l=>exact RcAt.bool_list x l hA
 | int x tx=>cases k with
  | non=>exact RcAt.int_none x tx
  | bl c=>exact RcAt.int_bool x tx c
  | int c t=>exact RcAt.int_int x tx c t
  | str c t=>exact RcAt.int_str x tx c t
  | tup l=>exact RcAt.int_tuple x tx l hA
  | lst l=>exact RcAt.int_list x tx l hA
 | str x tx=>cases k with
  | non=>exact RcAt.str_none x tx
  | bl c=>exact RcAt.str_bool x tx c
  | int c t=>exact RcAt.str_int x tx c t
  | str c t=>exact RcAt.str_str x tx c t
  | tup l=>exact RcAt.str_tuple x tx l hA
  | lst l=>exact RcAt.str_list x tx l hA
 | tup m=>cases k with
  | non=>exact RcAt.tuple_none m hA
  | bl c=>exact RcAt.tuple_bool c m hA
  | int c t=>exact RcAt.tuple_int c t m hA
  | str c t=>exact RcAt.tuple_str c t m hA
  | tup l=>exact absurd rfl (n1 _ _ rfl)
  | lst l=>exact RcAt.tuple_list m l hA
 | lst m=>cases k with
  | non=>exact RcAt.list_none m hA
  | bl c=>exact RcAt.list_bool c m hA
  | int c t=>exact RcAt.list_int c t m hA
  | str c t=>exact RcAt.list_str c t m hA
  | tup l=>exact RcAt.list_tuple m l hA
  | lst l=>exact absurd rfl (n2 _ _ rfl)
theorem oY (ok:eD P w H s.heap):∀ n,kX s H n
 | 0=>fun _ _ _ _ _ _ _ h=>absurd h (Nat.not_lt_zero _)
 | n + 1=>fun d e A v v' u u' hn h k r r' hu=>by
  have hA:A.units < cLine:=Nat.lt_of_le_of_lt (Nat.le_add_right _ _) hu
  by_cases c1:∃ xs ys,d = .tup xs/\e = .tup ys
  ·obtain ⟨xs,ys,rfl,rfl⟩:=c1
   rw [depD] at hu hn
   exact AA ok (oY ok n) (Nat.lt_of_succ_lt_succ hn) h k r r' hu
  ·by_cases c2:∃ xs ys,d = .lst xs/\e = .lst ys
   ·obtain ⟨xs,ys,rfl,rfl⟩:=c2
    rw [depD] at hu hn
    exact AB ok (oY ok n) (Nat.lt_of_succ_lt_succ hn) h k r r' hu
   ·exact AC hA (BO ok h r) (BO ok k r') (fun xs ys e1 e2=>c1 ⟨xs,ys,e1,e2⟩) (fun xs ys e1 e2=>c2 ⟨xs,ys,e1,e2⟩)
theorem rcAtD (ok:eD P w H s.heap)(d e:D)(A:Around)(v v':V)(u u':Value)(h:cZ H d v)(k:cZ H e v')(r:aL v u)(r':aL v' u')(hu:A.units + depD d < cLine):RcAt A s u u' (eqD d e):=oY ok _ d e A v v' u u' (Nat.lt_succ_self _) h k r r' hu
theorem eqAtD (ok:eD P w H s.heap)(d e:D)(A:Around)(v v':V)(u u':Value)(h:cZ H d v)(k:cZ H e v')(r:aL v u)(r':aL v' u')(hu:A.units + depD d < cLine):EqAt A s u u' (eqD d e):=u9 h k r r' (rcAtD ok d e A v v' u u' h k r r' hu)
end
section
variable {X:Cx}
noncomputable def rEqD:R2:=fun x y H Q=>∃ d e,cZ H d x/\cZ H e y/\depD d<=60/\Q (.bl (eqD d e)) H
noncomputable def rNeD:R2:=fun x y H Q=>∃ d e,cZ H d x/\cZ H e y/\depD d<=60/\Q (.bl (!eqD d e)) H
theorem tG (hu:X.A.units + 64 < cLine):fJ X (compareOp .Eq) rEqD:=by
 intro pins s σ H x y v u Q I rx ry h
 obtain ⟨d,e,hd,he,hz,q⟩:=h
 exact rcAtD I.hok d e X.A x y v u hd he rx ry (by omega) X.prog X.w X.xe _ ⟨.bl _,H,I,rfl,q⟩
end
end L2
namespace L2
open PySem PySem.Spec PyProof.Rows
section
variable {X:Cx}{pins:bK}{σ:St}{H:Hp}{s:Shared}
noncomputable def tyN (H:Hp):V->Option String
 | .non=>some "NoneType"
 | .bl _=>some "bool"
 | .int _=>some "int"
 | .str _=>some "str"
 | .ref p=>match H p with
  | some (.lst _)=>some "list"
  | some (.tup _)=>some "tuple"
  | some (.dK _)=>some "dict"
  | _=>none
 | _=>none
noncomputable def okT (c:String):Bool:=c == "str" || c == "int" || c == "bool" || c == "list" || c == "tuple" || c == "dict"
noncomputable def subT (t c:String):Bool:=t == c || (t == "bool" && c == "int")
noncomputable def tysV:List V->Option (List String)
 | []=>some []
 | .ty n :: r=>(tysV r).map (n :: ·)
 | _ :: _=>none
noncomputable def clsV (H:Hp):V->Option (List String)
 | .ty n=>some [n]
 | .ref p=>match H p with
  | some (.tup vs)=>tysV vs
  | _=>none
 | _=>none
noncomputable def isV (H:Hp)(x c:V):Option Bool:=match tyN H x,clsV H c with
 | some t,some cs=>if cs.all okT then some (cs.any (subT t)) else none
 | _,_=>none
theorem DW {x:V}{u:Value}{t:String}(I:aF X pins σ H s)(rx:aL x u)(e:tyN H x=some t) :
  ∃ HH:Heap->Prop,PySem.W.KitX X.K u (.type t) HH/\HH s.heap/\u≠.builtin "__main__.__loader__#opaque":=by
 cases x with
 | non=>cases e;cases rx;exact ⟨_,PySem.W.kitx_none,True.intro,fun z=>nomatch z⟩
 | bl b=>cases e;cases rx;exact ⟨_,PySem.W.kitx_bool,True.intro,fun z=>nomatch z⟩
 | int i=>cases e;obtain ⟨t,rfl⟩:=rx;exact ⟨_,PySem.W.kitx_int,True.intro,fun z=>nomatch z⟩
 | str i=>cases e;obtain ⟨t,rfl⟩:=rx;exact ⟨_,PySem.W.kitx_str,True.intro,fun z=>nomatch z⟩
 | ref p =>
  cases rx
  unfold tyN at e
  dsimp only at e
  split at e
  ·rename_i xs hp;cases e
   obtain ⟨_,_,n,_,h1⟩:=(show aU X.prog X.w H s.heap p (.lst xs) from I.hok p _ hp)
   exact ⟨_,PySem.W.kitx_list,⟨_,h1,rfl⟩,fun z=>nomatch z⟩
  ·rename_i xs hp;cases e
   obtain ⟨_,_,_,o,h1,h2,_⟩:=(show aU X.prog X.w H s.heap p (.tup xs) from I.hok p _ hp)
   exact ⟨_,PySem.W.kitx_tuple,⟨o,h1,h2⟩,fun z=>nomatch z⟩
  ·rename_i kvs hp;cases e
   obtain ⟨_,_,vs,_,o,es,ep,h1,h2,_⟩:=(show aU X.prog X.w H s.heap p (.dK kvs) from I.hok p _ hp)
   exact ⟨_,PySem.W.kitx_dict,⟨o,h1,h2.1⟩,fun z=>nomatch z⟩
  ·cases e
 | _=>cases e
theorem BZ {x:V}{t:String}(e:tyN H x=some t):t="NoneType"∨t="bool"∨t="int"∨t="str"∨t="list"∨t="tuple"∨t="dict":=by
 cases x with
 | non=>cases e;simp
 | bl b=>cases e;simp
 | int i=>cases e;simp
 | str i=>cases e;simp
 | ref p =>
  unfold tyN at e
  dsimp only at e
  split at e <;> cases e <;> simp
 | _=>cases e
theorem CU {c:String}(e:okT c=true):c="str"∨c="int"∨c="bool"∨c="list"∨c="tuple"∨c="dict":=by
 simp only [okT,Bool.or_eq_true,beq_iff_eq] at e
 rcases e with ((((e | e) | e) | e) | e) | e <;> simp [e]
theorem u5 {K:PySem.W.Frag}{x:V}{t c:String}(e:tyN H x=some t)(hc:okT c=true):PySem.W.kitOne K (.type t) (.type c)=some (subT t c):=by
 rcases BZ e with rfl | rfl | rfl | rfl | rfl | rfl | rfl <;> rcases CU hc with rfl | rfl | rfl | rfl | rfl | rfl <;> with_unfolding_all rfl
theorem u6 {K:PySem.W.Frag}{x:V}{t:String}(e:tyN H x=some t):∀ {cs:List String},cs.all okT=true->PySem.W.kitAny K (.type t) (cs.map Value.type)=some (cs.any (subT t))
 | [],_=>rfl
 | c :: r,h=>by
  replace h:=Bool.and_eq_true_iff.mp (List.all_cons ▸ h)
  rw [List.map_cons]
  unfold PySem.W.kitAny
  rw [u5 e h.1]
  cases q:subT t c with
  | true=>simp [q]
  | false=>simp only [List.any_cons,q,Bool.false_or];exact u6 e h.2
theorem nF:∀ {vs:List V} {cs:List String} {us:bJ},tysV vs=some cs->aK vs us->us=cs.map Value.type
 | [],cs,us,h,r=>by cases h;cases r;rfl
 | .ty n :: vs,cs,us,h,r=>by
  unfold tysV at h
  cases e:tysV vs with
  | none=>rw [e] at h;cases h
  | some c2 =>
   rw [e] at h
   cases h
   cases r with
   | cons r1 r2 =>
    cases r1
    rw [List.map_cons,nF e r2]
 | .non :: _,_,_,h,_=>by cases h
 | .bl _ :: _,_,_,h,_=>by cases h
 | .int _ :: _,_,_,h,_=>by cases h
 | .str _ :: _,_,_,h,_=>by cases h
 | .byt _ :: _,_,_,h,_=>by cases h
 | .flt _ :: _,_,_,h,_=>by cases h
 | .ref _ :: _,_,_,h,_=>by cases h
noncomputable def rIs:List V->Hp->VK->Prop:=fun xs H Q=>∃ x c b,xs=[x,c]/\isV H x c=some b/\Q (.bl b) H
theorem dB:bI X (.builtin "isinstance") rIs:=by
 intro pins s σ H xs us Q I r h
 obtain ⟨x,c,b,rfl,e,q⟩:=h
 cases r with
 | cons rx r2 =>
  cases r2 with
  | cons rc r3 =>
   cases r3
   unfold isV at e
   split at e
   ·rename_i t cs et ec
    split at e
    ·rename_i hcs
     cases e
     obtain ⟨HH,Z,hh,hne⟩:=DW I rx et
     have fin:∀ tk,EP X pins σ Q (.bool (cs.any (subT t))) { s with toks:=tk }:=fun tk=>⟨.bl _,H,I.tok tk,rfl,q⟩
     cases c with
     | ty n =>
      cases rc
      cases ec
      have h1:okT n=true:=by simpa using hcs
      refine PySem.W.kia_one Z I.kIn hh (u5 et h1) hne ?_
      intro tk
      have:=fin tk
      simpa using this
     | ref p =>
      cases rc
      unfold clsV at ec
      dsimp only at ec
      split at ec
      ·rename_i vs hp
       obtain ⟨_,its,rv,o,h1,h2,n,h3⟩:=(show aU X.prog X.w H s.heap p (.tup vs) from I.hok p _ hp)
       obtain ⟨cl,dd,dt,sl⟩:=o
       cases h2
       cases h3
       have e1:=nF ec rv
       subst e1
       exact PySem.W.kia_tup Z I.kIn hh h1 (u6 et hcs) hne fin
      ·cases ec
     | _=>cases ec
    ·cases e
   ·cases e
noncomputable def seqV (H:Hp):V->Option (List V)
 | .ref p=>match H p with
  | some (.lst xs)=>some xs
  | some (.tup xs)=>some xs
  | _=>none
 | _=>none
theorem mF:bI X (.type "list") (fun xs H Q=>∃ x ys,xs=[x]/\seqV H x=some ys/\∀ l,H l=none->Q (.ref l) (upd H l (.lst ys))):=by
 refine pP.imp fun xs H Q h=>?_
 obtain ⟨x,ys,rfl,e,q⟩:=h
 cases x with
 | ref p =>
  unfold seqV at e
  dsimp only at e
  split at e
  ·rename_i zs hp;cases e;exact ⟨p,_,rfl,.inl (cY.of hp),q⟩
  ·rename_i zs hp;cases e;exact ⟨p,_,rfl,.inr (d7.of hp),q⟩
  ·cases e
 | _=>cases e
noncomputable def rSlF:V->Option Int->Option Int->Hp->VK->Prop:=fun x lo hi H Q=>∃ a,x = .ref a /\
 ((∃ xs,H a=some (.lst xs)/\∀ p,H p=none->Q (.ref p) (upd H p (.lst (cutV xs lo hi)))) ∨
  (∃ xs,H a=some (.tup xs)/\¬ (HT.sIx xs.length 0 lo=0/\HT.sIx xs.length xs.length hi=xs.length)/\∀ p,H p=none->Q (.ref p) (upd H p (.tup (cutV xs lo hi)))))
end
noncomputable def sJ (J:It)(g:TG)(tb:TS)(D:hI)(σ:St)(H1:Hp):Prop:=∃ W:Nat->Nat->St->Hp->Prop,(∃ m,W 0 m σ H1)/\∀ i m σ H,W i m σ H ->
 (J.stop i H/\D.nx σ H)∨(J.go i H/\∃ N:St->Hp->Prop,(∀ σ' H',N σ' H'->∃ m',m' < m/\W (i + 1) m' σ' H')/\∀ x H',J.yld i H x H'->g x σ H' fun σ2 H2=>tb { D with nx:=N,ct:=N,bk:=D.nx } σ2 H2)
theorem tFor_eq {wi:TI}{g:TG}{tb:TS}{D:hI}{σ:St}{H:Hp}:tFor wi g tb D σ H=wi σ H fun J H1=>sJ J g tb D σ H1:=rfl
noncomputable def jG (J:It)(g:TG)(tt:TT)(te:TE)(Q:VK)(σ:St)(H1:Hp):Prop:=∃ W:CW,(∃ m,W 0 m [] σ H1)/\BW J g tt te (fun acc H=>∀ p,H p=none->Q (.ref p) (upd H p (.lst acc))) W
theorem tComp_eq {src:List (Option Nat)}{wi:TI}{g:TG}{tt:TT}{te:TE}{σ:St}{H:Hp}{Q:VK}:tComp src wi g tt te σ H Q=wi σ H fun J H1=>jG J g tt te Q (stC src σ) H1:=rfl
section
variable {X:Cx}{tg:Expr}
noncomputable def iAny (K:PySem.W.Frag)(tl:TE):TI:=fun σ H R=>tl σ H fun x H1=>∃ a,x = .ref a/\((∃ xs,H1 a=some (.lst xs)/\R (BV K a) H1)∨(∃ xs,H1 a=some (.tup xs)/\R (BU K a) H1))
end
section
variable {g:TG}{tb:TS}{D:hI}{σ:St}{H:Hp}{tt:TT}{te:TE}{Q:VK}{K:PySem.W.Frag}
theorem wH {a:Addr}(xs:List V)(Pv:Nat->St->Hp->Prop)(h0:Pv 0 σ H)(hl:∀ i σ H,i<=xs.length->Pv i σ H->H a=some (.lst xs))
  (hs:∀ i x σ H,xs[i]?=some x->Pv i σ H->g x σ H fun σ2 H2=>tb { D with nx:=Pv (i + 1),ct:=Pv (i + 1),bk:=D.nx } σ2 H2) (hd:∀ σ H,Pv xs.length σ H->D.nx σ H):sJ (BV K a) g tb D σ H :=
 yU Pv h0 (fun i σ H hi p=>cY.of (hl i σ H hi p)) hs hd
theorem yV {a:Addr}(xs:List V)(Pv:Nat->St->Hp->Prop)(h0:Pv 0 σ H)(hl:∀ i σ H,i<=xs.length->Pv i σ H->H a=some (.tup xs))
  (hs:∀ i x σ H,xs[i]?=some x->Pv i σ H->g x σ H fun σ2 H2=>tb { D with nx:=Pv (i + 1),ct:=Pv (i + 1),bk:=D.nx } σ2 H2) (hd:∀ σ H,Pv xs.length σ H->D.nx σ H):sJ (BU K a) g tb D σ H :=
 A7 Pv h0 (fun i σ H hi p=>d7.of (hl i σ H hi p)) hs hd
noncomputable def CStep (g:TG)(tt:TT)(te:TE)(x:V)(acc:List V)(σ:St)(H:Hp)(N:List V->St->Hp->Prop):Prop :=
 g x σ H fun σ2 H2=>tt σ2 H2 fun b H3=>if b=true then te σ2 H3 fun y H4=>acc.length < sizeLine/\N (acc ++ [y]) σ2 H4 else N acc σ2 H3
theorem jD {J:It}{n:Nat}(Pv:Nat->List V->St->Hp->Prop)(h0:Pv 0 [] σ H)
  (hs:∀ i acc σ H,i < n->Pv i acc σ H->J.go i H/\∀ x H',J.yld i H x H'->CStep g tt te x acc σ H' (Pv (i + 1)))
  (hd:∀ acc σ H,Pv n acc σ H->J.stop n H/\∀ p,H p=none->Q (.ref p) (upd H p (.lst acc))):jG J g tt te Q σ H:=by
 refine ⟨fun i m acc σ H=>m=n - i/\i<=n/\Pv i acc σ H,⟨n,by simp,Nat.zero_le _,h0⟩,?_⟩
 rintro i m acc σ H ⟨rfl,hi,p⟩
 by_cases hlt:i < n
 ·obtain ⟨go,step⟩:=hs i acc σ H hlt p
  refine .inr ⟨go,fun x H' y=>?_⟩
  have e:∀ acc σ H,(∃ m',m' < n - i/\m'=n - (i + 1)/\i + 1<=n/\Pv (i + 1) acc σ H)=Pv (i + 1) acc σ H:=fun acc σ H=>propext ⟨fun ⟨_,_,_,_,q⟩=>q,fun q=>⟨n - (i + 1),by omega,rfl,hlt,q⟩⟩
  simp only [e]
  exact step x H' y
 ·have e:i=n:=by omega
  subst e
  obtain ⟨a,b⟩:=hd acc σ H p
  exact .inl ⟨a,b⟩
theorem fU {lo:Int}{n:Nat}(Pv:Nat->List V->St->Hp->Prop)(h0:Pv 0 [] σ H)(hs:∀ i acc σ H,i < n->Pv i acc σ H->CStep g tt te (.int (lo + i)) acc σ H (Pv (i + 1)))
  (hd:∀ acc σ H,Pv n acc σ H->∀ p,H p=none->Q (.ref p) (upd H p (.lst acc))):jG (ED lo n) g tt te Q σ H :=
 jD Pv h0 (fun i acc σ H hi p=>⟨hi,fun x H' y=>by obtain ⟨rfl,rfl⟩:=y;exact hs i acc σ _ hi p⟩) fun acc σ H p=>⟨Nat.le_refl _,hd acc σ H p⟩
theorem tX {a:Addr}(xs:List V)(Pv:Nat->List V->St->Hp->Prop)(h0:Pv 0 [] σ H)(hl:∀ i acc σ H,i<=xs.length->Pv i acc σ H->H a=some (.lst xs))
  (hs:∀ i x acc σ H,xs[i]?=some x->Pv i acc σ H->CStep g tt te x acc σ H (Pv (i + 1))) (hd:∀ acc σ H,Pv xs.length acc σ H->∀ p,H p=none->Q (.ref p) (upd H p (.lst acc))):jG (BV K a) g tt te Q σ H :=
 jD (n:=xs.length) Pv h0 (fun i acc σ H hi p=>⟨⟨xs,xs[i],cY.of (hl i acc σ H (Nat.le_of_lt hi) p),by simp [hi]⟩,fun x H' y=>by obtain ⟨rfl,y⟩:=y;exact hs i x acc σ _ (y xs (cY.of (hl i acc σ _ (Nat.le_of_lt hi) p))) p⟩)
  fun acc σ H p=>⟨⟨xs,cY.of (hl _ acc σ H (Nat.le_refl _) p),Nat.le_refl _⟩,hd acc σ H p⟩
theorem wO {a:Addr}(xs:List V)(Pv:Nat->List V->St->Hp->Prop)(h0:Pv 0 [] σ H)(hl:∀ i acc σ H,i<=xs.length->Pv i acc σ H->H a=some (.tup xs))
  (hs:∀ i x acc σ H,xs[i]?=some x->Pv i acc σ H->CStep g tt te x acc σ H (Pv (i + 1))) (hd:∀ acc σ H,Pv xs.length acc σ H->∀ p,H p=none->Q (.ref p) (upd H p (.lst acc))):jG (BU K a) g tt te Q σ H :=
 jD (n:=xs.length) Pv h0 (fun i acc σ H hi p=>⟨⟨xs,xs[i],d7.of (hl i acc σ H (Nat.le_of_lt hi) p),by simp [hi]⟩,fun x H' y=>by obtain ⟨rfl,y⟩:=y;exact hs i x acc σ _ (y xs (d7.of (hl i acc σ _ (Nat.le_of_lt hi) p))) p⟩)
  fun acc σ H p=>⟨⟨xs,d7.of (hl _ acc σ H (Nat.le_refl _) p),Nat.le_refl _⟩,hd acc σ H p⟩
theorem tN {n:Nat}{i:Int}(h0:0<=i)(h1:i < n):ixN n i=some i.toNat:=by unfold ixN;rw [if_pos h0,if_pos h1]
theorem mH {α:Type}{xs:List α}{i:Int}(h0:0<=i)(h1:i < xs.length):atI xs i=xs[i.toNat]?:=by unfold atI;rw [tN h0 h1];rfl
theorem atI_zero {α:Type}{a:α}{xs:List α}:atI (a :: xs) 0=some a:=by rw [mH (by decide) (by simp only [List.length_cons];omega)];rfl
theorem atI_one {α:Type}{a b:α}{xs:List α}:atI (a :: b :: xs) 1=some b:=by rw [mH (by decide) (by simp only [List.length_cons];omega)];rfl
theorem ixN_zero {n:Nat}:ixN (n + 1) 0=some 0:=by rw [tN (by decide) (by omega)];rfl
theorem ixN_one {n:Nat}:ixN (n + 1 + 1) 1=some 1:=by rw [tN (by decide) (by omega)];rfl
end
theorem aC.upd {H:Hp}{a:Addr}{o:HO}(h:H a=none):aC H (upd H a o):=fun b u e=>by rw [aE (aG e h)];exact e
noncomputable def dZ (p:Addr)(H H':Hp):Prop:=∀ b o,b≠p->H b=some o->H' b=some o
theorem dZ.refl (p:Addr)(H:Hp):dZ p H H:=fun _ _ _ h=>h
theorem dZ.trans {p:Addr}{H H1 H2:Hp}(a:dZ p H H1)(b:dZ p H1 H2):dZ p H H2:=fun c o n h=>b c o n (a c o n h)
theorem dZ.upd (p:Addr)(H:Hp)(o:HO):dZ p H (upd H p o):=fun c u n h=>by rw [aE n];exact h
theorem dZ.new {p a:Addr}{H:Hp}{o:HO}(h:H a=none):dZ p H (L2.upd H a o):=fun c u n e=>by rw [aE (aG e h)];exact e
theorem aC.but {p:Addr}{H H':Hp}(s:aC H H'):dZ p H H':=fun b o _ h=>s b o h
end L2
namespace L2
open PySem PySem.Spec PyProof.Rows PyProof.Rows.LSm
section
variable {X:Cx}
theorem kF:∀ {bs:List Bool} {us:bJ},aK (bs.map V.bl) us->BoolsAre us bs
 | [],_,r=>by cases r;exact .nil
 | b :: bs,_,r=>by
  cases r with
  | cons r1 r2=>cases r1;exact .cons b (kF r2)
theorem tP {prog:Program}{w:World}{A:Around}{E:bA}{s:Shared}{p:Addr}{its:bJ}{bs:List Bool}(d:Bool){K:Bool->Shared->Prop}{fold:Nat->(Nat->Bool)->Bool}(hh:A.handled=none)(at_:s.heap.IsList p its.toArray)(are:BoolsAre its bs)
  (k:∀ h' tk,(∀ b x,s.heap.get? b=some x->h'.get? b=some x)->K (fold bs.length fun i=>(bs[i]?).getD d) { s with heap:=h',toks:=tk }) :
  wpAny (model prog w) A (pyIter (.ref p)) (fun it t=>∃ I fp wr n P St tr,it = .ref I/\Walks prog w A I fp wr n P St/\St 0 t.heap/\TruthOf prog w A P tr /\
   ∀ h' tk,(∀ b x,b ∉ wr->t.heap.get? b=some x->h'.get? b=some x)->K (fold n tr) { t with heap:=h',toks:=tk }) E s:=by
 have ne:p≠s.heap.objs.size:=let ⟨_,e,_⟩:=id at_;Nat.ne_of_lt (Heap.lt_size e)
 have truth:TruthOf prog w A (fun i v=>its.toArray[i]?=some v) fun i=>(bs[i]?).getD d:=by
  intro i v t Q X hv hQ
  obtain ⟨b,is,rfl⟩:=LSm.BoolsAre.get are i v (by simpa using hv)
  have hQ:Q ((bs[i]?).getD d) t:=hQ
  rw [is] at hQ
  exact wpAny_truthy_bool hQ
 have len:its.toArray.size=bs.length:=(List.size_toArray ..).trans (LSm.BoolsAre.length are)
 refine wpAny_pyIter_list at_ ⟨_,_,_,_,_,_,_,rfl,Walks.list hh s.heap.objs.size p ne its.toArray,?_,truth,fun h' tk hk=>?_⟩
 ·exact aI ⟨_,Heap.get?_push_size _ rfl,rfl,rfl⟩ (at_.push _)
 ·rw [len]
  exact k h' tk (LSm.kept_iter hk)
noncomputable def rAll:List V->Hp->VK->Prop:=fun xs H Q=>∃ (p:Addr) (bs:List Bool),xs=[.ref p]/\H p=some (.lst (bs.map V.bl))/\Q (.bl (bs.all id)) H
noncomputable def rAny:List V->Hp->VK->Prop:=fun xs H Q=>∃ (p:Addr) (bs:List Bool),xs=[.ref p]/\H p=some (.lst (bs.map V.bl))/\Q (.bl (bs.any id)) H
noncomputable def rSum:List V->Hp->VK->Prop:=fun xs H Q=>∃ (p:Addr) (ns:List Int),xs=[.ref p]/\H p=some (.lst (ns.map V.int))/\Q (.int ns.sum) H
theorem mG (hc:X.calm=true){nm:String}{fold:Nat->(Nat->Bool)->Bool}{says:List Bool->Bool}(d:Bool)(is:∀ bs:List Bool,fold bs.length (fun i=>(bs[i]?).getD d)=says bs)
  (ask:∀ {s:Shared} {x:Value} {Q E:bA},wpAny (model X.prog X.w) X.A.in1 (pyIter x) (fun it t=>∃ I fp wr n P St tr,it = .ref I/\Walks X.prog X.w X.A.in1 I fp wr n P St/\St 0 t.heap/\TruthOf X.prog X.w X.A.in1 P tr /\
   ∀ h' tk,(∀ b x,b ∉ wr->t.heap.get? b=some x->h'.get? b=some x)->Q (.bool (fold n tr)) { t with heap:=h',toks:=tk }) E s->wpAny (model X.prog X.w) X.A (call (.builtin nm) [x]) Q E s) :
  bI X (.builtin nm) fun xs H Q=>∃ (p:Addr) (bs:List Bool),xs=[.ref p]/\H p=some (.lst (bs.map V.bl))/\Q (.bl (says bs)) H:=by
 rintro pins s σ H _ us Q I r ⟨p,bs,rfl,hp,q⟩
 obtain ⟨u,rfl,e⟩:=vals1 r
 cases e
 obtain ⟨its,rv,pl,_⟩:=I.list (cY.of hp)
 refine ask (tP (K:=fun b t=>EP X pins σ Q (.bool b) t) d (show X.A.in1.handled=none from I.ok.hd hc) pl.isList (kF rv) fun h' tk hk=>?_)
 rw [is bs]
 exact ⟨.bl (says bs),H,I.kept (t':=tk) hk,rfl,q⟩
theorem j0 (hc:X.calm=true):bI X (.builtin "all") rAll:=mG hc true LSm.range_all call_all_walk
theorem jZ (hc:X.calm=true):bI X (.builtin "any") rAny:=mG hc false LSm.range_any call_any_walk
theorem g8 (hc:X.calm=true):bI X (.builtin "sum") rSum:=by
 intro pins s σ H xs us Q I r h
 obtain ⟨p,ns,rfl,hp,q⟩:=h
 obtain ⟨u,rfl,e⟩:=vals1 r
 cases e
 obtain ⟨its,rv,pl,hz⟩:=I.list (cY.of hp)
 have hi:IntsAre its ns:=e9 rv
 obtain ⟨ys,hx⟩:=hi.allInts.items
 have hl':s.heap.IsList p (intItems ys):=hx ▸ pl.isList
 refine sum_intListG (I.ok.hd hc) hl' fun h' tk t' hk=>?_
 have e1:ns=ys.toList.map (·.1):=by
  rw [← nums_intItems,← hx]
  exact (show numsOf its.toArray.toList=ns from hi.numsOf).symm
 have e2:preSum (numAt ys) ys.size=ns.sum:=by
  have all:(ys.toList.map (·.1)).take ys.size=ys.toList.map (·.1):=List.take_of_length_le (by simp)
  rw [e1,← all,← preSum_eq]
 rw [e2]
 exact ⟨.int ns.sum,H,I.kept (t':=tk) hk,⟨t',rfl⟩,q⟩
theorem oC (hc:X.calm=true):bI X (.builtin "max") (fun xs H Q=>∃ i j,xs=[.int i,.int j]/\Q (.int (if j > i then j else i)) H):=wS hc
theorem wQ (hc:X.calm=true):bI X (.builtin "min") (fun xs H Q=>∃ i j,xs=[.int i,.int j]/\Q (.int (if j < i then j else i)) H):=wR hc
end
end L2
namespace L2
open PySem PySem.Spec PyProof.Rows
section
variable {X:Cx}{pins:bK}{σ:St}{H:Hp}{s:Shared}{h':Heap}
theorem aF.turnedL {t':Nat}{ch:List Addr}(I:aF X pins σ H s)(k:∀ b o,b ∉ ch->s.heap.get? b=some o->h'.get? b=some o)(hf:∀ b ∈ ch,cA X pins H b):aF X pins σ H { s with heap:=h',toks:=t' }:=by
 have nit:∀ b u,H b=some u->b ∉ ch:=fun b u e z=>by rw [(hf b z).1] at e;cases e
 have hL:X.env.locals ∉ ch:=fun z=>(hf _ z).2.1 rfl
 refine I.step (g':=s.gens) (d':=s.drawn) (ch:=ch) (fun b hb=>?_) (fun b o _ _ hc e _=>k b o hc e) (fun b o _ _ hc e _=>⟨o.slots,k b o hc e⟩) (fun _ _ _ _ n=>n)
  (fun b o hc e=>⟨o,k b o hc e⟩) (fun _ _ e=>e) (fun _ _ _ e=>e) (fun b ps e=>⟨#[],by rw [e];simp⟩) (fun m hm=>?_) (fun b u e=>?_) I.bare
 ·obtain ⟨f0,f1,f2,f3,f4,f5⟩:=hf b hb
  exact ⟨f3,f1,f4,f5⟩
 ·obtain ⟨o,es,ep,ho,r⟩:=hm
  exact ⟨o,es,ep,k _ o hL ho,r⟩
 ·refine (I.hok b u e).stay (fun c v hc q=>k c v ?_ q) (fun _ q=>q) fun _ _ q=>q
  rcases hc with z | z
  ·rw [z];exact nit b u e
  ·exact nit c _ z
theorem aF.turnedLaid {t':Nat}{ch:List Addr}{T:Addr}{o:HO}(I:aF X pins σ H s)(k:∀ b o,b ∉ ch->s.heap.get? b=some o->h'.get? b=some o)(hf:∀ b ∈ ch,cA X pins H b)
  (hp:s.heap.objs.size<=T) (new:aU X.prog X.w (upd H T o) h' T o):aF X pins σ (upd H T o) { s with heap:=h',toks:=t' }:=by
 have hn:H T=none:=I.hok.fresh hp
 have nit:∀ b u,H b=some u->b ∉ ch:=fun b u e z=>by rw [(hf b z).1] at e;cases e
 have hL:X.env.locals ∉ ch:=fun z=>(hf _ z).2.1 rfl
 have lt:∀ b ob,s.heap.get? b=some ob->b≠T:=fun b ob e=>Nat.ne_of_lt (Nat.lt_of_lt_of_le (Heap.lt_size e) hp)
 refine I.step (g':=s.gens) (d':=s.drawn) (ch:=ch) (fun b hb=>?_) (fun b o _ _ hc e _=>k b o hc e) (fun b o _ _ hc e _=>⟨o.slots,k b o hc e⟩) (fun b ob _ e n=>by rw [aE (lt b ob e)];exact n)
  (fun b o hc e=>⟨o,k b o hc e⟩) (fun b xs e=>by rw [aE (aG e hn)];exact e) (fun b _ _ e=>by rw [aE (aG e hn)];exact e) (fun b ps e=>⟨#[],by rw [aE (aG e hn),e];simp⟩) (fun m hm=>?_) (fun b u e=>?_) I.bare
 ·obtain ⟨f0,f1,f2,f3,f4,f5⟩:=hf b hb
  exact ⟨f3,f1,f4,f5⟩
 ·obtain ⟨o,es,ep,ho,r⟩:=hm
  exact ⟨o,es,ep,k _ o hL ho,r⟩
 ·by_cases hb:b=T
  ·subst hb
   rw [upd_same] at e
   cases e
   exact new
  ·rw [aE hb] at e
   refine (I.hok b u e).stay (fun c v hc q=>k c v ?_ q) (fun c q=>by rw [aE (aG q hn)];exact q) fun c xs q=>by rw [aE (aG q hn)];exact q
   rcases hc with z | z
   ·rw [z];exact nit b u e
   ·exact nit c _ z
end
noncomputable def FA (K:PySem.W.Frag)(a b:Addr):It :=
 ⟨fun i H=>∃ xs ys x y,cY K H a xs/\cY K H b ys/\xs[i]?=some x/\ys[i]?=some y,
  fun i H z H'=>∃ T x y,z = .ref T/\H T=none/\H'=upd H T (.tup [x,y])/\∀ xs ys,cY K H a xs->cY K H b ys->xs[i]?=some x/\ys[i]?=some y,
  fun i H=>∃ xs ys,cY K H a xs/\cY K H b ys/\(xs.length<=i∨ys.length<=i)⟩
structure ZipAt (z TI TO i1 i2:Addr):Prop where
 TIz:TI≠z
 TOz:TO≠z
 i1z:i1≠z
 i2z:i2≠z
 TITO:TI≠TO
 TIi1:TI≠i1
 TIi2:TI≠i2
 TOi1:TO≠i1
 TOi2:TO≠i2
 i12:i1≠i2
section
variable {X:Cx}{elts:g9}{tk0:_}{tpos:Pos}
noncomputable def iZip (K:PySem.W.Frag)(ta:TA):TI:=fun σ H R=>ta σ H fun vs H1=>∃ a b,vs=[.ref a,.ref b]/\(∃ xs,cY K H1 a xs)/\(∃ ys,cY K H1 b ys)/\R (FA K a b) H1
end
noncomputable def DQ (J:It)(g:TG)(tt:TT)(te:TE)(Fin:List V->St->Hp->Prop)(W:CW):Prop:=∀ i m acc σ H,W i m acc σ H ->
 (J.stop i H/\Fin acc σ H) ∨
 (J.go i H/\∀ x H',J.yld i H x H'->g x σ H' fun σ2 H2=>tt σ2 H2 fun b H3 =>
  if b=true then te σ2 H3 fun y H4=>acc.length < sizeLine/\∃ m',m' < m/\W (i + 1) m' (acc ++ [y]) σ2 H4 else ∃ m',m' < m/\W (i + 1) m' acc σ2 H3)
noncomputable def FB (J:It)(g:TG)(tt:TT)(te:TE)(Fin:List V->St->Hp->Prop)(acc:List V)(σ:St)(H:Hp):Prop:=∃ W:CW,(∃ m,W 0 m acc σ H)/\DQ J g tt te Fin W
noncomputable def zK (J:It)(g1:TG)(wi2:TI)(g2:TG)(tt:TT)(te:TE)(Q:VK)(σ:St)(H1:Hp):Prop:=∃ W:CW,(∃ m,W 0 m [] σ H1)/\∀ i m acc σ H,W i m acc σ H ->
 (J.stop i H/\∀ p,H p=none->Q (.ref p) (upd H p (.lst acc))) ∨
 (J.go i H/\∀ x H',J.yld i H x H'->g1 x σ H' fun σ2 H2=>wi2 σ2 H2 fun J2 H3=>FB J2 g2 tt te (fun acc' σ' H4=>∃ m',m' < m/\W (i + 1) m' acc' σ' H4) acc σ2 H3)
noncomputable def B9 (src:List (Option Nat))(wi:TI)(g1:TG)(wi2:TI)(g2:TG)(tt:TT)(te:TE):TE:=fun σ H Q=>wi σ H fun J H1=>zK J g1 wi2 g2 tt te Q (stC src σ) H1
end L2
namespace L2
open PySem PySem.Spec PyProof.Rows
open PySem.AutoSeq1 (wpAny_loadPart')
open PySem.MeetsSeq PySem.MeetsSeq2 PySem.MeetsSeq3
noncomputable def t7 (items:d8)(i:Nat)(ns:List Int):Prop:=i<=items.size/\IntsAre (items.toList.drop i) ns
theorem t7.end_ {items:d8}{i:Nat}(h:t7 items i []):items.size=i/\items[i]?=none:=by
 obtain ⟨h1,h2⟩:=h
 have e:=h2.length
 rw [List.length_drop,Array.length_toList,List.length_nil] at e
 exact ⟨by omega,Array.getElem?_eq_none (by omega)⟩
theorem t7.next {items:d8}{i:Nat}{a:Int}{ns:List Int}(h:t7 items i (a :: ns)):i < items.size/\(∃ t,items[i]?=some (.int a t))/\t7 items (i + 1) ns:=by
 obtain ⟨h1,h2⟩:=h
 generalize e:items.toList.drop i=us at h2
 cases h2 with
 | cons _ t r =>
  have lt:i < items.toList.length:=by
   have z:=congrArg List.length e
   rw [List.length_drop,List.length_cons] at z
   omega
  rw [List.drop_eq_getElem_cons lt] at e
  injection e with e1 e2
  rw [Array.length_toList] at lt
  refine ⟨lt,⟨t,?_⟩,lt,e2 ▸ r⟩
  rw [Array.getElem?_eq_getElem lt,← e1]
  rfl
noncomputable abbrev pU (l b:Addr)(ol ob:Obj)(xs ys:List Int):PySem.Spec:=fun _ R s=>s.heap.get? l=some ol/\s.heap.get? b=some ob/\R (.ok (.ret (.bool (HT.lexLt xs ys)))) s
noncomputable abbrev ltAsk (l b:Addr)(i:Nat):Args:=⟨[.ref l,.ref b,rawInt i,rawInt 0],[]⟩
theorem rA {l b:Addr}{ol ob:Obj}{xs ys:List Int}{i:Nat}{prog:Program}{w:World}{A:Around}{R:Result->Shared->Prop}{s:Shared}(m:Meets (Builtin.«list.__eq__.loop» (ltAsk l b i)) (pU l b ol ob xs ys))(h:pU l b ol ob xs ys A R s) :
  (Code.builtin "list.__eq__.loop" (ltAsk l b i)).quiet=true/\codeAny (model prog w) A (.builtin "list.__eq__.loop" (ltAsk l b i)) R s:=by
 refine ⟨plainId_quiet plain_eq_loop (ltAsk l b i),codeAny_builtin entry_eq_loop ?_⟩
 have u:=A.under_plainId plain_eq_loop (ltAsk l b i)
 rw [u]
 exact m prog w A R s h
theorem uT (l b:Addr)(us vs:d8)(n k:Nat)(du dv:Option Addr)(su sv:Array (Option Value)):∀ (xs ys:List Int) (i:Nat),t7 us i xs->t7 vs i ys ->
  Meets (Builtin.«list.__eq__.loop» (ltAsk l b i)) (pU l b { cls:=.type "list",dict:=du,data:=.seq us n,slots:=su } { cls:=.type "list",dict:=dv,data:=.seq vs k,slots:=sv } xs ys)
 | [],ys,i,f,g=>by
  rintro prog w A R ⟨hp,ge,d,tk,os⟩ ⟨atL,atB,h⟩
  obtain ⟨z,no⟩:=f.end_
  have says:HT.lexLt [] ys=decide (us.size < vs.size):=by
   cases ys with
   | nil=>exact (decide_eq_false (by rw [z,(g.end_).1];exact Nat.lt_irrefl _)).symm
   | cons y r=>exact (decide_eq_true (by rw [z];exact (g.next).1)).symm
  rw [says] at h
  wp_walk using wpAny_loadPart' atL,wpAny_loadPart' atB
  rw [show ((i:Nat):Int).toNat=i from rfl,no]
  cases vs[i]? <;> wp_walk using wpAny_loadPart' atL,wpAny_loadPart' atB <;> exact h
 | x :: xs,[],i,f,g=>by
  rintro prog w A R ⟨hp,ge,d,tk,os⟩ ⟨atL,atB,h⟩
  obtain ⟨z,no⟩:=g.end_
  obtain ⟨lt,⟨t,is⟩,_⟩:=f.next
  have says:HT.lexLt (x :: xs) []=decide (us.size < vs.size):=(decide_eq_false (by omega)).symm
  rw [says] at h
  wp_walk using wpAny_loadPart' atL,wpAny_loadPart' atB
  rw [show ((i:Nat):Int).toNat=i from rfl,no,is]
  wp_walk using wpAny_loadPart' atL,wpAny_loadPart' atB
  exact h
 | x :: xs,y :: ys,i,f,g=>by
  have go:=uT l b us vs n k du dv su sv xs ys (i + 1) (f.next).2.2 (g.next).2.2
  rintro prog w A R ⟨hp,ge,d,tk,os⟩ ⟨atL,atB,h⟩
  obtain ⟨_,⟨t,isU⟩,_⟩:=f.next
  obtain ⟨_,⟨t',isV⟩,_⟩:=g.next
  wp_walk using wpAny_loadPart' atL,wpAny_loadPart' atB
  rw [show ((i:Nat):Int).toNat=i from rfl,isU,isV]
  obtain ⟨e,asked,iff⟩:=HT.eqAt_int A.in1 ⟨hp,ge,d,tk,os⟩ x t y t'
  refine wpAny_bind (asked prog w _ _ ?_)
  by_cases xy:x=y
  ·rw [HT.lexLt_cons,if_pos xy] at h
   rw [iff.mpr xy]
   wp_walk
   exact rA go ⟨atL,atB,h⟩
  ·rw [HT.lexLt_cons,if_neg xy] at h
   have e0:e=false:=by cases e with | false=>rfl | true=>exact absurd (iff.mp rfl) xy
   subst e0
   have less:=HT.rcLt_int A.in1 ⟨hp,ge,d,tk,os⟩ x t y t' prog w
   wp_walk using wpAny_loadPart' atL,wpAny_loadPart' atB
   rw [isU,isV]
   wp_walk using less
   exact h
theorem i5 (l b:Addr)(us vs:d8)(n k:Nat)(du dv:Option Addr)(su sv:Array (Option Value))(xs ys:List Int)(hi:IntsAre us.toList xs)(hj:IntsAre vs.toList ys) :
  Meets (Builtin.«list.__lt__» ⟨[.ref l,.ref b],[]⟩) (pU l b { cls:=.type "list",dict:=du,data:=.seq us n,slots:=su } { cls:=.type "list",dict:=dv,data:=.seq vs k,slots:=sv } xs ys):=by
 have go:=uT l b us vs n k du dv su sv xs ys 0 ⟨Nat.zero_le _,hi⟩ ⟨Nat.zero_le _,hj⟩
 rintro prog w A R ⟨hp,ge,d,tk,os⟩ ⟨atL,atB,h⟩
 have kind:=AutoSeq1.sub_list_list
 wp_walk using wpAny_loadPart' atL,wpAny_loadPart' atB
 exact rA go ⟨atL,atB,h⟩
section
variable {prog:Program}{w:World}{A:Around}{E:bA}{s:Shared}
theorem kC {l b:Addr}{items items2:d8}{ns ms:List Int}{Q:bA}(hl:s.heap.IsList l items)(hb:s.heap.IsList b items2)(hi:IntsAre items.toList ns)(hj:IntsAre items2.toList ms)
  (hu:A.units < cLine) (h:Q (.bool (HT.lexLt ns ms)) s):wpAny (model prog w) A (compareOp .Lt (.ref l) (.ref b)) Q E s:=by
 obtain ⟨⟨cls,dd,data,sl⟩,ho,hc,n,hd⟩:=id hl
 obtain ⟨⟨cls2,dd2,data2,sl2⟩,ho2,hc2,n2,hd2⟩:=id hb
 simp only at hc hd hc2 hd2
 subst hc hd hc2 hd2
 exact richCompare_meets_room (op:=.Lt) ⟨_,ho,rfl⟩ ⟨_,ho2,rfl⟩ PySem.F.slot_list_lt PySem.F.entry_list_lt (PySem.F.args_list_lt_2 _ _) (i5 l b items items2 n n2 dd dd2 sl sl2 ns ms hi hj)
  ⟨ho,ho2,show Value.bool (HT.lexLt ns ms)≠Value.notImplemented/\Q (.bool (HT.lexLt ns ms)) s from ⟨(fun x=>nomatch x),h⟩⟩ hu
end
section
variable {X:Cx}
noncomputable def rLtL:R2:=fun x y H Q=>∃ a b ns ms,x = .ref a/\y = .ref b/\H a=some (.lst (ns.map V.int))/\H b=some (.lst (ms.map V.int))/\Q (.bl (HT.lexLt ns ms)) H
theorem CM (hu:X.A.units < cLine):fJ X (compareOp .Lt) rLtL:=by
 intro pins s σ H x y v u Q I rx ry h
 obtain ⟨a,b,ns,ms,rfl,rfl,ha,hb,q⟩:=h
 cases rx
 cases ry
 obtain ⟨its,r1,p1,_⟩:=I.list (cY.of ha)
 obtain ⟨its2,r2,p2,_⟩:=I.list (cY.of hb)
 have i1:IntsAre its.toArray.toList ns:=e9 r1
 have i2:IntsAre its2.toArray.toList ms:=e9 r2
 exact kC p1.isList p2.isList i1 i2 hu ⟨.bl (HT.lexLt ns ms),H,I,rfl,q⟩
end
end L2
namespace L2
open PySem PySem.Spec PyProof.Rows
section
variable {X:Cx}{pos:Pos}
theorem AK {i j:Nat}{x y:Str}{px py:Pos}{k:_}(hc:X.calm=true)(hN:X.N.Nodup)(hi:X.N[i]?=some x)(hj:X.N[j]?=some y)(hx:X.env.scope.names.lookup x=some .local)(hy:X.env.scope.names.lookup y=some .local) :
  PG X (.Tuple [.Name x px,.Name y py] k pos) (gTup X.K 2 (gCons (gName i) (gCons (gName j) gNil))) :=
 jL hc (bX (aW hN hi (.inl hx) (.inr hx)) (bX (aW hN hj (.inl hy) (.inr hy)) gO))
end
section
variable {g g1 g2:TG}{tb:TS}{D:hI}{σ:St}{H:Hp}{tt:TT}{te:TE}{Q:VK}{K:PySem.W.Frag}{wi2:TI}{acc:List V}{Fin:List V->St->Hp->Prop}
theorem tComp2_eq {src:List (Option Nat)}{wi:TI}{σ:St}{H:Hp}{Q:VK}:B9 src wi g1 wi2 g2 tt te σ H Q=wi σ H fun J H1=>zK J g1 wi2 g2 tt te Q (stC src σ) H1:=rfl
end
section
variable {X:Cx}
theorem xY (hu:X.A.units + 64 < cLine):fJ X (compareOp .Lt) (fun x y H Q=>(rI0 (fun i j=>.bl (decide (i < j))) x y H Q∨(∃ i j,x = .str i/\y = .str j/\Q (.bl (decide (i.cps.toList < j.cps.toList))) H))∨rLtL x y H Q) :=
 (DT.or vX).or (CM (by omega))
end
section
variable {H:Hp}{a p:Addr}{xs:List V}{Q:VK}{K:PySem.W.Frag}
theorem rIs_eq {x c:V}:rIs [x,c] H Q = ∃ b,isV H x c=some b/\Q (.bl b) H:=propext ⟨fun ⟨x',c',b,e,h,q⟩=>by cases e;exact ⟨b,h,q⟩,fun ⟨b,h,q⟩=>⟨x,c,b,rfl,h,q⟩⟩
theorem truV_bl {b k:Bool}:BG K (.bl b) H k=(k=b):=rfl
theorem isV_ii {n:Int}:isV H (.int n) (.ty "int")=some true:=rfl
theorem isV_ib {n:Int}:isV H (.int n) (.ty "bool")=some false:=rfl
theorem isV_bb {n:Bool}:isV H (.bl n) (.ty "bool")=some true:=rfl
theorem isV_ll (h:H a=some (.lst xs)):isV H (.ref a) (.ty "list")=some true:=by unfold isV tyN;simp only [h];rfl
theorem DB (h:H a=some (.lst xs))(h2:H p=some (.tup [.ty "list",.ty "tuple"])):isV H (.ref a) (.ref p)=some true:=by unfold isV tyN clsV;simp only [h,h2];rfl
theorem DA (h:H a=some (.tup xs))(h2:H p=some (.tup [.ty "list",.ty "tuple"])):isV H (.ref a) (.ref p)=some true:=by unfold isV tyN clsV;simp only [h,h2];rfl
theorem lenV_l (h:H a=some (.lst xs)):lenV H (.ref a)=some xs.length:=by unfold lenV;simp only [h]
theorem lenV_t (h:H a=some (.tup xs)):lenV H (.ref a)=some xs.length:=by unfold lenV;simp only [h]
theorem seqV_l (h:H a=some (.lst xs)):seqV H (.ref a)=some xs:=by unfold seqV;simp only [h]
theorem seqV_t (h:H a=some (.tup xs)):seqV H (.ref a)=some xs:=by unfold seqV;simp only [h]
theorem ixV_l {i:Int}(h:H a=some (.lst xs)):ixV H (.ref a) (.int i)=atI xs i:=by unfold ixV;simp only [h]
theorem ixV_t {i:Int}(h:H a=some (.tup xs)):ixV H (.ref a) (.int i)=atI xs i:=by unfold ixV;simp only [h]
end
section
noncomputable def cM (H:Hp)(a:Addr)(xs:List V):Prop:=H a=some (.lst xs)∨H a=some (.tup xs)
theorem cM.same {H H':Hp}{a:Addr}{xs:List V}(h:cM H a xs)(s:aC H H'):cM H' a xs:=h.elim (fun e=>.inl (s _ _ e)) fun e=>.inr (s _ _ e)
variable {g:TG}{tt:TT}{te:TE}{Q:VK}{K:PySem.W.Frag}{σ:St}{H:Hp}
variable {tb:TS}{D:hI}
end
section
variable {X:Cx}{pos:Pos}{tg:Expr}
theorem dI (K:PySem.W.Frag)(hK:X.K=K){i j:Nat}{x y:Str}{px py:Pos}{k:_}(hc:X.calm=true)(hN:X.N.Nodup)(hi:X.N[i]?=some x)(hj:X.N[j]?=some y)(hx:X.env.scope.names.lookup x=some .local)(hy:X.env.scope.names.lookup y=some .local) :
  PG X (.Tuple [.Name x px,.Name y py] k pos) (gTup K 2 (gCons (gName i) (gCons (gName j) gNil))):=by subst hK;exact AK hc hN hi hj hx hy
noncomputable def tTruth (K:PySem.W.Frag)(ta:TE):TT:=fun σ H Q=>ta σ H fun x H1=>∃ k,BG K x H1 k/\Q k H1
theorem dA (K:PySem.W.Frag)(hK:X.K=K){a:Expr}{ta:TE}(ha:PE X a ta)(he:∀ whole,isTrue a X.env whole=(do let v ← whole;standAt a.pos;holding [v] (truthy v))):PT X a (tTruth K ta):=by subst hK;exact xK ha he
end
noncomputable def DP (K:PySem.W.Frag)(a:Addr)(xs:List V)(J:It)(H:Hp):Prop:=(J=BV K a/\H a=some (.lst xs))∨(J=BU K a/\H a=some (.tup xs))
noncomputable def iSq (K:PySem.W.Frag)(tl:TE):TI:=fun σ H R=>tl σ H fun x H1=>∃ a xs,x = .ref a/\cM H1 a xs/\∀ J,DP K a xs J H1->R J H1
section
variable {X:Cx}{tg:Expr}
theorem cV (K:PySem.W.Frag)(hK:X.K=K){l:Expr}{tl:TE}(hl:PE X l tl):PI X tg l (iSq K tl):=by
 subst hK
 intro pins s σ H R I h
 refine thn (hl pins s σ H _ I h) fun v s1 ⟨x,H1,I1,r1,q1⟩=>?_
 obtain ⟨a,xs,e,hs,q⟩:=q1
 subst e
 cases r1
 rcases hs with hq | hq
 ·obtain ⟨its,rv,p,hz⟩:=I1.list (cY.of hq)
  refine wpAny_pyIter_list p.isList ?_
  refine ⟨s1.heap.objs.size,[s1.heap.objs.size],_,_,H1,rfl,I1.kept (t':=s1.toks) fun b o e=>Heap.get?_push_of_some _ e,vN a _,⟨_,Heap.get?_push_size _ rfl,rfl,rfl⟩,fun b hb=>?_,q _ (.inl ⟨rfl,hq⟩)⟩
  have e:b=s1.heap.objs.size:=by simpa using hb
  subst e
  exact I1.fpOk (Nat.le_refl _) (I1.hok.fresh (Nat.le_refl _))
 ·obtain ⟨its,rv,p,hz⟩:=I1.tuple (d7.of hq)
  refine wpAny_pyIter_tuple (show s1.heap.IsTuple a its.toArray from p) ?_
  refine ⟨s1.heap.objs.size,[s1.heap.objs.size],_,_,H1,rfl,I1.kept (t':=s1.toks) fun b o e=>Heap.get?_push_of_some _ e,sM a _,⟨_,Heap.get?_push_size _ rfl,rfl,rfl⟩,fun b hb=>?_,q _ (.inr ⟨rfl,hq⟩)⟩
  have e:b=s1.heap.objs.size:=by simpa using hb
  subst e
  exact I1.fpOk (Nat.le_refl _) (I1.hok.fresh (Nat.le_refl _))
end
section
variable {g g1 g2:TG}{tb:TS}{D:hI}{σ:St}{H:Hp}{tt:TT}{te:TE}{Q:VK}{K:PySem.W.Frag}{wi2:TI}{J:It}{a:Addr}{xs:List V}
theorem jB (hJ:DP K a xs J H)(Pv:Nat->St->Hp->Prop)(h0:Pv 0 σ H)(hl:∀ i σ H',i<=xs.length->Pv i σ H'->H' a=H a)
  (hs:∀ i x σ H,xs[i]?=some x->Pv i σ H->g x σ H fun σ2 H2=>tb { D with nx:=Pv (i + 1),ct:=Pv (i + 1),bk:=D.nx } σ2 H2) (hd:∀ σ H,Pv xs.length σ H->D.nx σ H):sJ J g tb D σ H:=by
 rcases hJ with ⟨rfl,e⟩ | ⟨rfl,e⟩
 ·exact wH xs Pv h0 (fun i σ H' hi p=>(hl i σ H' hi p).trans e) hs hd
 ·exact yV xs Pv h0 (fun i σ H' hi p=>(hl i σ H' hi p).trans e) hs hd
theorem cX (hJ:DP K a xs J H)(Pv:Nat->List V->St->Hp->Prop)(h0:Pv 0 [] σ H)(hl:∀ i acc σ H',i<=xs.length->Pv i acc σ H'->H' a=H a)
  (hs:∀ i x acc σ H,xs[i]?=some x->Pv i acc σ H->CStep g tt te x acc σ H (Pv (i + 1))) (hd:∀ acc σ H,Pv xs.length acc σ H->∀ p,H p=none->Q (.ref p) (upd H p (.lst acc))):jG J g tt te Q σ H:=by
 rcases hJ with ⟨rfl,e⟩ | ⟨rfl,e⟩
 ·exact tX xs Pv h0 (fun i acc σ H' hi p=>(hl i acc σ H' hi p).trans e) hs hd
 ·exact wO xs Pv h0 (fun i acc σ H' hi p=>(hl i acc σ H' hi p).trans e) hs hd
end
noncomputable def rSlU:V->Option Int->Option Int->Hp->VK->Prop:=fun x lo hi H Q=>∃ a xs,x = .ref a/\cM H a xs/\((∃ ys,H a=some (.tup ys))->¬ (HT.sIx xs.length 0 lo=0/\HT.sIx xs.length xs.length hi=xs.length)) /\
 ∀ p o,H p=none->(o = .lst (cutV xs lo hi)/\H a=some (.lst xs)∨o = .tup (cutV xs lo hi)/\H a=some (.tup xs))->Q (.ref p) (upd H p o)
theorem oU {X:Cx}:EG X rSlU:=by
 intro pins s σ H x v vl vu lo hi sl Q I rx hs pl pu h
 obtain ⟨a,xs,rfl,ha | ha,hw,q⟩:=h
 ·exact zV pins s σ H _ v vl vu lo hi sl Q I rx hs pl pu ⟨a,xs,rfl,cY.of ha,fun p hp=>q p _ hp (.inl ⟨rfl,ha⟩)⟩
 ·exact CA pins s σ H _ v vl vu lo hi sl Q I rx hs pl pu ⟨a,xs,rfl,d7.of ha,hw ⟨_,ha⟩,fun p hp=>q p _ hp (.inr ⟨rfl,ha⟩)⟩
section
variable {H:Hp}{Q:VK}
theorem rEqD_ii {i j:Int}:rEqD (.int i) (.int j) H Q=Q (.bl (decide (i=j))) H:=by
 have e:eqD (.int i) (.int j)=decide (i=j):=by show (i == j)=_;rw [Bool.eq_iff_iff];simp
 refine propext ⟨fun ⟨d,e',h1,h2,_,q⟩=>?_,fun q=>⟨.int i,.int j,rfl,rfl,Nat.zero_le _,by rw [e];exact q⟩⟩
 have d1:d = .int i:=cZ.inj h1 (show cZ H (.int i) (.int i) from rfl)
 have d2:e' = .int j:=cZ.inj h2 (show cZ H (.int j) (.int j) from rfl)
 rw [d1,d2,e] at q
 exact q
theorem rNeD_ii {i j:Int}:rNeD (.int i) (.int j) H Q=Q (.bl (!decide (i=j))) H:=by
 have e:eqD (.int i) (.int j)=decide (i=j):=by show (i == j)=_;rw [Bool.eq_iff_iff];simp
 refine propext ⟨fun ⟨d,e',h1,h2,_,q⟩=>?_,fun q=>⟨.int i,.int j,rfl,rfl,Nat.zero_le _,by rw [e];exact q⟩⟩
 have d1:d = .int i:=cZ.inj h1 (show cZ H (.int i) (.int i) from rfl)
 have d2:e' = .int j:=cZ.inj h2 (show cZ H (.int j) (.int j) from rfl)
 rw [d1,d2,e] at q
 exact q
theorem rEqD_ss {i j:Str}:rEqD (.str i) (.str j) H Q=Q (.bl (decide (i=j))) H:=by
 have e:eqD (.str i) (.str j)=decide (i=j):=by show (i == j)=_;rw [Bool.eq_iff_iff];simp
 refine propext ⟨fun ⟨d,e',h1,h2,_,q⟩=>?_,fun q=>⟨.str i,.str j,rfl,rfl,Nat.zero_le _,by rw [e];exact q⟩⟩
 have d1:d = .str i:=cZ.inj h1 (show cZ H (.str i) (.str i) from rfl)
 have d2:e' = .str j:=cZ.inj h2 (show cZ H (.str j) (.str j) from rfl)
 rw [d1,d2,e] at q
 exact q
theorem rNeD_ss {i j:Str}:rNeD (.str i) (.str j) H Q=Q (.bl (!decide (i=j))) H:=by
 have e:eqD (.str i) (.str j)=decide (i=j):=by show (i == j)=_;rw [Bool.eq_iff_iff];simp
 refine propext ⟨fun ⟨d,e',h1,h2,_,q⟩=>?_,fun q=>⟨.str i,.str j,rfl,rfl,Nat.zero_le _,by rw [e];exact q⟩⟩
 have d1:d = .str i:=cZ.inj h1 (show cZ H (.str i) (.str i) from rfl)
 have d2:e' = .str j:=cZ.inj h2 (show cZ H (.str j) (.str j) from rfl)
 rw [d1,d2,e] at q
 exact q
theorem gZ {a b:Addr}{xs ys:List V}(ha:H a=some (.lst xs))(hb:H b=some (.lst ys))(hz:xs.length + ys.length<=sizeLine):catO H (.ref a) (.ref b)=some (.lst (xs ++ ys)):=by
 unfold catO
 simp only [ha,hb]
 rw [if_pos hz]
theorem catO_i {i:Int}{y:V}:catO H (.int i) y=none:=by cases y <;> rfl
theorem catO_s {i:Str}{y:V}:catO H (.str i) y=none:=by cases y <;> rfl
end
noncomputable def rTupU:List V->Hp->VK->Prop:=fun xs H Q=>∃ p ys,xs=[.ref p]/\cM H p ys/\∀ l H',(H p=some (.tup ys)/\l=p/\H'=H∨H p=some (.lst ys)/\H l=none/\H'=upd H l (.tup ys))->Q (.ref l) H'
theorem rS {X:Cx}:bI X (.type "tuple") rTupU:=by
 refine m6.imp fun xs H Q h=>?_
 obtain ⟨p,ys,rfl,hp | hp,q⟩:=h
 ·exact ⟨p,ys,rfl,.inl ⟨cY.of hp,fun l hl=>q l _ (.inr ⟨hp,hl,rfl⟩)⟩⟩
 ·exact ⟨p,ys,rfl,.inr ⟨d7.of hp,q p _ (.inl ⟨hp,rfl,rfl⟩)⟩⟩
section
variable {X:Cx}{x:Str}{C:Addr}{np cpos pos:Pos}{e:Expr}{ta:TA}{E:XK}
noncomputable def tRaise (C:Addr)(E:XK)(ta:TA):TS:=fun _ σ H=>ta σ H fun vs H1=>vs.length<=1000/\E (.ref C) none H1
end
section
variable {X:Cx}{x:Str}{C:Addr}{np hp pos:Pos}{EX:XK}{b0:Stmt}{suite body:List Stmt}{tb th:TS}
noncomputable def tTry (tb:TS)(EX:XK)(th:TS):TS:=fun D σ H=>tb D σ H/\∀ cls d σ' H',EX cls d H'->th D σ' H'
end
noncomputable def EJ (K:PySem.W.Frag)(a:Addr):It :=
 ⟨fun i H=>∃ xs x,cY K H a xs/\xs[i]?=some x,fun i H z H'=>∃ T x,z = .ref T/\H T=none/\H'=upd H T (.tup [.int i,x])/\∀ xs,cY K H a xs->xs[i]?=some x,fun i H=>∃ xs,cY K H a xs/\xs.length<=i⟩
theorem vO {P:Program}{w:World}{K:PySem.W.Frag}{elts:g9}{tk0}{tpos:Pos}(a e it:Addr)(D:e≠it) :
  j3 P w K (.Tuple elts tk0 tpos) (EJ K a) [e,it] e (fun i h=>(∃ old,IsEnum h e it i old)/\h.IsListIter it a i) where
 mem:=by simp
 obj:=fun i h st c hc=>by
  obtain ⟨⟨old,he⟩,⟨o1,e1,c1,d1⟩⟩:=st
  simp only [List.mem_cons,List.not_mem_nil,or_false] at hc
  rcases hc with rfl | rfl
  ·exact ⟨_,he,fun v z=>by cases z⟩
  ·exact ⟨_,e1,fun v z=>by rw [d1] at z;cases z⟩
 keep:=fun i h h' st k=>by
  obtain ⟨⟨old,he⟩,h1⟩:=st
  exact ⟨⟨old,k e (by simp) _ he⟩,h1.at fun o z=>k it (by simp) o z⟩
 item:=by
  intro X hP hw hK hc i pins s σ H E I hf st hg
  subst hP hw hK
  obtain ⟨xs,x,hxs,hx⟩:=hg
  obtain ⟨its,rv,p,hz1⟩:=I.list hxs
  obtain ⟨u,hu,ru⟩:=rv.get hx
  obtain ⟨⟨old,he⟩,h1⟩:=st
  refine wpAny_pyNext_enum_item he h1 p.isList (x:=u) (by simpa using hu) D fun h' a1 a2 a3 a4 hk=>?_
  refine ⟨_,rfl,wpAny_letOwnedTupleGo_enum (s:={ s with heap:=h',toks:=s.toks + 1 }) a1 fun h2' hz' hs'=>?_⟩
  have lt:∀ {c:Addr} {o:Obj},s.heap.get? c=some o->s.heap.objs.size≠c:=fun e z=>Nat.lt_irrefl _ (z ▸ Heap.lt_size e)
  have pr:=hs'.extBut _ _ (lt he) a3
  have nT:∀ c ∈ [e,it],c≠s.heap.objs.size:=fun c hc=>by
   simp only [List.mem_cons,List.not_mem_nil,or_false] at hc
   rcases hc with rfl | rfl
   ·exact (lt he).symm
   ·obtain ⟨_,z,_⟩:=h1;exact (lt z).symm
  have I1:aF X pins σ (upd H s.heap.objs.size (.tup [.int i,x])) { s with heap:=h2',toks:=s.toks + 1 }:=I.turnedLaid (t':=s.toks + 1) (ch:=[e,it]) (fun c o hc z=>hs'.extBut _ _ (fun q=>hc (by simp [q])) (hk c o (fun q=>hc (by simp [q])) (fun q=>hc (by simp [q])) z)) hf (Nat.le_refl _)
   ⟨by show 2<=sizeLine;decide,[_,u],.cons ⟨_,rfl⟩ (.cons ru .nil),⟨_,pr,rfl,_,rfl⟩⟩
  refine ⟨.ref s.heap.objs.size,_,I1,rfl,⟨s.heap.objs.size,x,rfl,I.hok.fresh (Nat.le_refl _),rfl,fun xs' q1=>?_⟩,⟨⟨u,?_⟩,a2.extBut hs'.extBut D.symm⟩,fun c hc=>?_⟩
  ·rw [I.list_inj q1 hxs];exact hx
  ·have e2:((i + 1:Nat):Int)=(i:Int) + 1:=by omega
   rw [e2];exact hz'
  ·rw [aE (nT c hc)];exact (hf c hc).1
 done:=by
  intro X hP hw hK hc i pins s σ H E I hf st hg
  subst hP hw hK
  obtain ⟨xs,hxs,hd⟩:=hg
  obtain ⟨its,rv,p,hz1⟩:=I.list hxs
  obtain ⟨⟨old,he⟩,h1⟩:=st
  have l1:=rv.length
  refine wpAny_pyNext_enum_end (I.ok.hd hc) he h1 p.isList (by simp;omega) fun h' hk=>⟨rfl,?_⟩
  exact I.turnedL (t':=s.toks) (ch:=[e,it]) (fun c o hc z=>hk c o (fun q=>hc (by simp [q])) z) hf
 self:=fun _ _ _ _ _ st h=>wpAny_pyIter_enum st.1.choose_spec h
noncomputable def iEnum (K:PySem.W.Frag)(ta:TA):TI:=fun σ H R=>ta σ H fun vs H1=>∃ a,vs=[.ref a]/\(∃ xs,cY K H1 a xs)/\R (EJ K a) H1
section
variable {X:Cx}{elts:g9}{tk0:_}{tpos:Pos}
theorem pB {a:Expr}{ta:TA}{p pos:Pos}(hg:Gl X "enumerate")(hm:X.mg "enumerate" = none)(ha:PA X [a] ta)(hs:starEach [a] X.env=[(false,eval a X.env)]:=by rfl) :
  PI X (.Tuple elts tk0 tpos) (.Call (.Name "enumerate" p) [a] [] pos) (iEnum X.K ta):=by
 intro pins s σ H R I h
 refine Call_ (iG I hg hm boot_enumerate (PyProof.Rows.callWith_type1 (thn (ha pos pins s σ H _ I h) fun us s1 ⟨vs,H1,I1,r1,q1⟩=>?_) hs rfl))
 obtain ⟨l1,e,⟨xs,hx⟩,q⟩:=q1
 subst e
 obtain ⟨u1,rfl,e1⟩:=vals1 r1
 cases e1
 obtain ⟨its,rv,p1,hz1⟩:=I1.list hx
 refine call_enumerate_list p1.isList fun h' a1 a2 a3 hk=>?_
 refine wpAny_pyIter_enum (s:={ s1 with heap:=h' }) a1 ?_
 have lt:∀ c,s1.heap.objs.size<=c->cA X pins H1 c:=fun c hc=>I1.fpOk hc (I1.hok.fresh hc)
 refine ⟨_,[_,_],_,_,H1,rfl,I1.kept (t':=s1.toks) hk,vO l1 _ _ (by intro z;have z:(_:Nat)=_:=z;omega),⟨⟨_,a1⟩,a2⟩,fun c hc=>?_,q⟩
 simp only [List.mem_cons,List.not_mem_nil,or_false] at hc
 refine lt c ?_
 rcases hc with rfl | rfl
 ·exact Nat.le_add_right _ _
 ·exact Nat.le_refl _
theorem hV (K:PySem.W.Frag)(hK:X.K=K){a:Expr}{ta:TA}{p pos:Pos}(hg:Gl X "enumerate")(hm:X.mg "enumerate" = none)(ha:PA X [a] ta)(hs:starEach [a] X.env=[(false,eval a X.env)]:=by rfl) :
  PI X (.Tuple elts tk0 tpos) (.Call (.Name "enumerate" p) [a] [] pos) (iEnum K ta):=by subst hK;exact pB hg hm ha hs
end
section
variable {g:TG}{tb:TS}{D:hI}{σ:St}{H:Hp}{tt:TT}{te:TE}{Q:VK}{K:PySem.W.Frag}
theorem wI {a:Addr}(xs:List V)(Pv:Nat->St->Hp->Prop)(h0:Pv 0 σ H)(hl:∀ i σ H,i<=xs.length->Pv i σ H->H a=some (.lst xs))
  (hs:∀ i x T σ H,xs[i]?=some x->Pv i σ H->H T=none->g (.ref T) σ (upd H T (.tup [.int i,x])) fun σ2 H2=>tb { D with nx:=Pv (i + 1),ct:=Pv (i + 1),bk:=D.nx } σ2 H2) (hd:∀ σ H,Pv xs.length σ H->D.nx σ H):sJ (EJ K a) g tb D σ H:=by
 refine ⟨fun i m σ H=>m=xs.length - i/\i<=xs.length/\Pv i σ H,⟨xs.length,by simp,Nat.zero_le _,h0⟩,?_⟩
 rintro i m σ H ⟨rfl,hi,p⟩
 have el:=cY.of (K:=K) (hl i σ H hi p)
 by_cases hlt:i < xs.length
 ·refine .inr ⟨⟨xs,xs[i],el,by simp [hlt]⟩,Pv (i + 1),fun σ' H' q=>⟨xs.length - (i + 1),by omega,rfl,hlt,q⟩,fun z H' y=>?_⟩
  obtain ⟨T,x,rfl,hT,rfl,q⟩:=y
  exact hs i x T σ H (q xs el) p hT
 ·have e:i=xs.length:=by omega
  subst e
  exact .inl ⟨⟨xs,el,Nat.le_refl _⟩,hd σ H p⟩
end
noncomputable def eM (h:Heap)(i a:Addr)(k:Nat):Prop:=h.IsListIter i a k∨h.IsTupleIter i a k
noncomputable def j6 (h:Heap)(a:Addr)(xs:d8):Prop:=∃ o n,h.get? a=some o/\o.data = .seq xs n
theorem eM.at {h h':Heap}{i a:Addr}{k:Nat}(x:eM h i a k)(e:∀ o,h.get? i=some o->h'.get? i=some o):eM h' i a k:=x.elim (fun y=>.inl (y.at e)) fun y=>.inr (y.at e)
theorem j6.at {h h':Heap}{a:Addr}{xs:d8}(x:j6 h a xs)(e:∀ o,h.get? a=some o->h'.get? a=some o):j6 h' a xs:=by obtain ⟨o,n,ho,hd⟩:=x;exact ⟨o,n,e o ho,hd⟩
theorem eM.obj {h:Heap}{i a:Addr}{k:Nat}(x:eM h i a k):∃ o,h.get? i=some o/\o.data = .fields #[.ref a,.int k 0]:=by
 rcases x with ⟨o,e,_,d⟩ | ⟨o,e,_,d⟩
 ·exact ⟨o,e,d⟩
 ·exact ⟨o,e,d⟩
section
variable {prog:Program}{w:World}{A:Around}{E:bA}{s:Shared}{it l:Addr}{i:Nat}{items:d8}
theorem gT {T id:String}{b:Builtin}{Q:bA}(kind:s.TypeIs (.ref it) T)(slot:Slot T "__next__" id)(entry:entryFor table id=some b)(args:argsOk id ⟨[.ref it],[]⟩)
  (h:wpAny (model prog w) A.in1 (b ⟨[.ref it],[]⟩) (fun f t=>∃ v,f = .done (.ret v)/\Q v t) E s):wpAny (model prog w) A (Builtin.SmallTypes.nextOf (.ref it)) Q E s:=by
 have asked:wpAny (model prog w) A (callSpecial? (.ref it) "__next__") (fun r t=>∃ v,r=some v/\Q v t) E s :=
  wpAny_callSpecial?_slot kind slot (wpAny_call_entry slot kind entry (thn h fun f t ⟨v,e,q⟩=>⟨v,e,v,rfl,q⟩) args)
 refine wpAny_bind (thn asked ?_)
 rintro _ t ⟨v,rfl,q⟩
 exact wpAny_pure q
structure fW (prog:Program)(w:World)(A:Around)(E:bA)(s:Shared)(it l:Addr)(i:Nat)(items:d8):Prop where
 seq:∀ (Q:bA),Q (.ref l) s->wpAny (model prog w) A (field (.ref it) 0) Q E s
 place:∀ (Q:bA),Q (.int i 0) s->wpAny (model prog w) A (field (.ref it) 1) Q E s
 items:∀ (Q:Option (d8)->Shared->Prop),Q (some items) s->wpAny (model prog w) A (seqItems? (.ref l)) Q E s
 set:∀ (k:Nat) (v:Value) (Q:Unit->Shared->Prop),k < 2->Q () { s with heap:=s.heap.update it (Obj.mapFields (·.setIfInBounds k v)) }->wpAny (model prog w) A (setField (.ref it) k v) Q E s
theorem fW.of {o:Obj}(ho:s.heap.get? it=some o)(hd:o.data = .fields #[.ref l,.int i 0])(hl:j6 s.heap l items):fW prog w A E s it l i items:=by
 obtain ⟨ol,nl,hol,hdl⟩:=hl
 exact ⟨fun _ h=>wpAny_field ho hd rfl h,fun _ h=>wpAny_field ho hd rfl h,fun _ h=>wpAny_seqItems hol hdl h,fun k v _ hk h=>wpAny_setField ho hd hk h⟩
noncomputable abbrev rH (b:Builtin):Prop:=b=Builtin.«list_iterator.__next__»∨b=Builtin.«tuple_iterator.__next__»
theorem j9 {b:Builtin}{x:Value}{Q:bA}(hb:rH b)(R:fW prog w A E s it l i items)(hx:items[i]?=some x)
  (hQ:Q x { s with heap:=s.heap.update it (Obj.mapFields (·.setIfInBounds 1 (rawInt (i + 1)))) }):wpAny (model prog w) A (b ⟨[.ref it],[]⟩) (fun f t=>∃ v,f = .done (.ret v)/\Q v t) E s:=by
 have r0:=R.seq
 have r1:=R.place
 have r2:=R.items
 have r3:=fun Q h=>R.set 1 (rawInt (i + 1)) Q (by decide) h
 rcases hb with rfl | rfl
 all_goals
  wp_walk using r0,r1,r2,r3
  rw [Int.toNat_natCast,hx]
  wp_walk using r0,r1,r2,r3
  exact ⟨x,rfl,hQ⟩
theorem lF {b:Builtin}{Q:PySem.Fin->Shared->Prop}(hh:A.handled=none)(hb:rH b)(R:fW prog w A E s it l i items)(hx:items[i]?=none)
  (hE:∀ h' e,Heap.ExtBut it s.heap h'->(∃ o,h'.get? e=some o/\o.cls = .type "StopIteration")->E (.ref e) { s with heap:=h' }):wpAny (model prog w) A (b ⟨[.ref it],[]⟩) Q E s:=by
 have r0:=R.seq
 have r1:=R.place
 have r2:=R.items
 have r3:=fun Q h=>R.set 0 .none Q (by decide) h
 rcases hb with rfl | rfl
 all_goals
  wp_walk using r0,r1,r2,r3
  rw [Int.toNat_natCast,hx]
  wp_walk using r0,r1,r2,r3
  exact wpAny_raiseNew_none hh (hE _ _ (((Heap.SameBut.update ..).extBut.push _).push _) ⟨_,Heap.get?_push_size _ rfl,rfl⟩)
theorem AT {x:Value}{Q:bA}(hit:eM s.heap it l i)(hl:j6 s.heap l items)(hx:items[i]?=some x)(hQ:∀ h',eM h' it l (i + 1)->Heap.SameBut it s.heap h'->Q x { s with heap:=h' }):wpAny (model prog w) A (Builtin.SmallTypes.nextOf (.ref it)) Q E s:=by
 obtain ⟨o,ho,hd⟩:=hit.obj
 have new:(s.heap.update it (Obj.mapFields (·.setIfInBounds 1 (rawInt (i + 1))))).get? it=some (o.mapFields (·.setIfInBounds 1 (rawInt (i + 1)))):=Heap.get?_update_self _ ho (Obj.isFreed_of_fields (Obj.data_mapFields hd _))
 have data:(o.mapFields (·.setIfInBounds 1 (rawInt (i + 1)))).data = .fields #[.ref l,.int (i + 1:Nat) 0]:=by rw [Obj.data_mapFields hd];simp [rawInt]
 have cls:(o.mapFields (·.setIfInBounds 1 (rawInt (i + 1)))).cls=o.cls:=Obj.cls_mapFields ..
 have same:Heap.SameBut it s.heap (s.heap.update it (Obj.mapFields (·.setIfInBounds 1 (rawInt (i + 1))))):=Heap.SameBut.update ..
 rcases hit with li | tu
 ·obtain ⟨o',ho',hc,_⟩:=id li
  rw [ho] at ho';cases ho'
  exact gT li.typeIs slot_listiter_next entry_listiter_next (args_listiter_next _) (j9 (.inl rfl) (fW.of ho hd hl) hx (hQ _ (.inl ⟨_,new,cls.trans hc,data⟩) same))
 ·obtain ⟨o',ho',hc,_⟩:=id tu
  rw [ho] at ho';cases ho'
  exact gT tu.typeIs PySem.F.slot_tuple_iterator_next PySem.F.entry_tuple_iterator_next (PySem.F.args_tuple_iterator_next_1 _) (j9 (.inr rfl) (fW.of ho hd hl) hx (hQ _ (.inr ⟨_,new,cls.trans hc,data⟩) same))
theorem CV {Q:bA}(hh:A.handled=none)(hit:eM s.heap it l i)(hl:j6 s.heap l items)(hx:items[i]?=none)
  (hE:∀ h' e,Heap.ExtBut it s.heap h'->(∃ o,h'.get? e=some o/\o.cls = .type "StopIteration")->E (.ref e) { s with heap:=h' }):wpAny (model prog w) A (Builtin.SmallTypes.nextOf (.ref it)) Q E s:=by
 obtain ⟨o,ho,hd⟩:=hit.obj
 have no:A.in1.handled=none:=hh
 rcases hit with li | tu
 ·exact gT li.typeIs slot_listiter_next entry_listiter_next (args_listiter_next _) (lF no (.inl rfl) (fW.of ho hd hl) hx hE)
 ·exact gT tu.typeIs PySem.F.slot_tuple_iterator_next PySem.F.entry_tuple_iterator_next (PySem.F.args_tuple_iterator_next_1 _) (lF no (.inr rfl) (fW.of ho hd hl) hx hE)
end
structure DI (z TI TO i1 i2 l1 l2:Addr):Prop extends ZipAt z TI TO i1 i2 where
 n1:l1 ∉ [z,TO,i1,i2]
 n2:l2 ∉ [z,TO,i1,i2]
structure ZS (h0:Heap)(z TI TO i1 i2 l1 l2:Addr)(xs ys:d8)(h:Heap)(f a b:Value)(k1 k2:Nat):Prop where
 ap:DI z TI TO i1 i2 l1 l2
 zip:IsZip h z TI TO f
 tin:IsPair h TI (.ref i1) (.ref i2)
 tout:IsPair h TO a b
 one:eM h i1 l1 k1
 two:eM h i2 l2 k2
 src1:j6 h l1 xs
 src2:j6 h l2 ys
 far:∀ c o,c ∉ [z,TO,i1,i2]->h0.get? c=some o->h.get? c=some o
section
variable {prog:Program}{w:World}{A:Around}{E:bA}{s:Shared}{z TI TO i1 i2 l1 l2:Addr}{k1 k2:Nat}{xs ys:d8}{f a b:Value}{h0 h h':Heap}
theorem off4 {c:Addr}(hc:c ∉ [z,TO,i1,i2]):c≠z/\c≠TO/\c≠i1/\c≠i2:=by simpa using hc
theorem ZS.self (Z:ZS h0 z TI TO i1 i2 l1 l2 xs ys h f a b k1 k2)(e:Heap.ExtBut z h h'){f':Value}(hz:IsZip h' z TI TO f'):ZS h0 z TI TO i1 i2 l1 l2 xs ys h' f' a b k1 k2 :=
 ⟨Z.ap,hz,e _ _ Z.ap.TIz Z.tin,e _ _ Z.ap.TOz Z.tout,Z.one.at fun o=>e _ o Z.ap.i1z,Z.two.at fun o=>e _ o Z.ap.i2z,Z.src1.at fun o=>e _ o (off4 Z.ap.n1).1,Z.src2.at fun o=>e _ o (off4 Z.ap.n2).1,fun c o hc q=>e c o (off4 hc).1 (Z.far c o hc q)⟩
theorem ZS.out (Z:ZS h0 z TI TO i1 i2 l1 l2 xs ys h f a b k1 k2)(e:Heap.ExtBut TO h h'){a' b':Value}(ht:IsPair h' TO a' b'):ZS h0 z TI TO i1 i2 l1 l2 xs ys h' f a' b' k1 k2 :=
 ⟨Z.ap,e _ _ Z.ap.TOz.symm Z.zip,e _ _ Z.ap.TITO Z.tin,ht,Z.one.at fun o=>e _ o Z.ap.TOi1.symm,Z.two.at fun o=>e _ o Z.ap.TOi2.symm,Z.src1.at fun o=>e _ o (off4 Z.ap.n1).2.1,Z.src2.at fun o=>e _ o (off4 Z.ap.n2).2.1,fun c o hc q=>e c o (off4 hc).2.1 (Z.far c o hc q)⟩
theorem ZS.on1 (Z:ZS h0 z TI TO i1 i2 l1 l2 xs ys h f a b k1 k2)(e:Heap.ExtBut i1 h h'){k:Nat}(hi:eM h' i1 l1 k):ZS h0 z TI TO i1 i2 l1 l2 xs ys h' f a b k k2 :=
 ⟨Z.ap,e _ _ Z.ap.i1z.symm Z.zip,e _ _ Z.ap.TIi1 Z.tin,e _ _ Z.ap.TOi1 Z.tout,hi,Z.two.at fun o=>e _ o Z.ap.i12.symm,Z.src1.at fun o=>e _ o (off4 Z.ap.n1).2.2.1,Z.src2.at fun o=>e _ o (off4 Z.ap.n2).2.2.1,fun c o hc q=>e c o (off4 hc).2.2.1 (Z.far c o hc q)⟩
theorem ZS.on2 (Z:ZS h0 z TI TO i1 i2 l1 l2 xs ys h f a b k1 k2)(e:Heap.ExtBut i2 h h'){k:Nat}(hi:eM h' i2 l2 k):ZS h0 z TI TO i1 i2 l1 l2 xs ys h' f a b k1 k :=
 ⟨Z.ap,e _ _ Z.ap.i2z.symm Z.zip,e _ _ Z.ap.TIi2 Z.tin,e _ _ Z.ap.TOi2 Z.tout,Z.one.at fun o=>e _ o Z.ap.i12,hi,Z.src1.at fun o=>e _ o (off4 Z.ap.n1).2.2.2,Z.src2.at fun o=>e _ o (off4 Z.ap.n2).2.2.2,fun c o hc q=>e c o (off4 hc).2.2.2 (Z.far c o hc q)⟩
theorem ZS.push (Z:ZS h0 z TI TO i1 i2 l1 l2 xs ys h f a b k1 k2)(o:Obj):ZS h0 z TI TO i1 i2 l1 l2 xs ys (h.push o) f a b k1 k2:=by
 have e:∀ c x,h.get? c=some x->(h.push o).get? c=some x:=fun c x q=>Heap.get?_push_of_some o q
 exact ⟨Z.ap,e _ _ Z.zip,e _ _ Z.tin,e _ _ Z.tout,Z.one.at (e _),Z.two.at (e _),Z.src1.at (e _),Z.src2.at (e _),fun c x hc q=>e c x (Z.far c x hc q)⟩
structure ZF (prog:Program)(w:World)(A:Around)(E:bA)(s:Shared)(z TI TO i1 i2:Addr)(f a b:Value):Prop where
 f0:∀ (Q:bA),Q f s->wpAny (model prog w) A (field (.ref z) 0) Q E s
 f2:∀ (Q:bA),Q (.bool false) s->wpAny (model prog w) A (field (.ref z) 2) Q E s
 f3:∀ (Q:bA),Q (.ref TI) s->wpAny (model prog w) A (field (.ref z) 3) Q E s
 f4:∀ (Q:bA),Q (.ref TO) s->wpAny (model prog w) A (field (.ref z) 4) Q E s
 ins:∀ (Q:Option (d8)->Shared->Prop),Q (some #[.ref i1,.ref i2]) s->wpAny (model prog w) A (seqItems? (.ref TI)) Q E s
 outs:∀ (Q:Option (d8)->Shared->Prop),Q (some #[a,b]) s->wpAny (model prog w) A (seqItems? (.ref TO)) Q E s
 set:∀ (v:Value) (Q:Unit->Shared->Prop),(∀ h',IsZip h' z TI TO v->Heap.SameBut z s.heap h'->Q () { s with heap:=h' })->wpAny (model prog w) A (setField (.ref z) 0 v) Q E s
 put:∀ (k:Nat) (v:Value) (Q:Unit->Shared->Prop),(∀ h',IsPair h' TO (if k=0 then v else a) (if k=1 then v else b)->Heap.SameBut TO s.heap h'->Q () { s with heap:=h' })->k < 2->wpAny (model prog w) A (updateSeq TO (·.setIfInBounds k v)) Q E s
theorem ZS.asked (Z:ZS h0 z TI TO i1 i2 l1 l2 xs ys s.heap f a b k1 k2):ZF prog w A E s z TI TO i1 i2 f a b:=by
 refine ⟨fun _ q=>wpAny_field Z.zip rfl rfl q,fun _ q=>wpAny_field Z.zip rfl rfl q,fun _ q=>wpAny_field Z.zip rfl rfl q,fun _ q=>wpAny_field Z.zip rfl rfl q,fun _ q=>wpAny_seqItems Z.tin rfl q,fun _ q=>wpAny_seqItems Z.tout rfl q,fun v _ q=>?_,fun k v _ q hk=>?_⟩
 ·exact wpAny_setField_rec Z.zip (by simp) fun h' e sb=>q h' e sb
 ·refine wpAny_updateSeq_pair Z.tout fun h' e sb=>q h' ?_ sb
  match k,hk with
  | 0,_=>exact e
  | 1,_=>exact e
noncomputable abbrev D1 (h0:Heap)(z TI TO i1 i2 l1 l2:Addr)(xs ys:d8)(a b:Value)(k1 k2:Nat)(h:Heap):List (Value×Nat)->Prop
 | []=>∃ x y,xs[k1]?=some x/\ys[k2]?=some y/\ZS h0 z TI TO i1 i2 l1 l2 xs ys h .ellipsis x y (k1 + 1) (k2 + 1)
 | [p]=>p=(.ref i2,1)/\∃ x,xs[k1]?=some x/\ZS h0 z TI TO i1 i2 l1 l2 xs ys h .ellipsis x b (k1 + 1) k2
 | [p,q]=>p=(.ref i1,0)/\q=(.ref i2,1)/\ZS h0 z TI TO i1 i2 l1 l2 xs ys h .ellipsis a b k1 k2
 | _=>False
noncomputable abbrev pV (h:Heap)(e:Addr):Prop:=∃ o,h.get? e=some o/\o.cls = .type "StopIteration"
theorem nB {draw:Sem (Option Value)}{i l:Addr}{k:Nat}{items:d8}{Q:Option Value->Shared->Prop}(hd:draw=(Builtin.SmallTypes.nextOf (.ref i) >>= fun v=>pure (some v)))(hh:A.handled=none)(it:eM s.heap i l k)(src:j6 s.heap l items)(hz:IsZip s.heap z TI TO .ellipsis)(iz:i≠z)
  (item:∀ v h',items[k]?=some v->eM h' i l (k + 1)->Heap.SameBut i s.heap h'->Q (some v) { s with heap:=h' })
  (stop:items[k]?=none->∀ h' h2 e,Heap.ExtBut i s.heap h'->Heap.SameBut z h' h2->pV h2 e->E (.ref e) { s with heap:=h2 }) :
  wpAny (model prog w) A (draw.onRaise fun _=>setField (.ref z) 0 .none) Q E s:=by
 subst hd
 refine wpAny_onRaise (wpAny_bind ?_)
 cases e:items[k]? with
 | some v=>exact AT it src e fun h' a1 a2=>wpAny_pure (item v h' e a1 a2)
 | none =>
  refine CV hh it src e fun h' x ext ⟨o,ho,hc⟩=>?_
  have zip:=ext z _ iz.symm hz
  have ne:x≠z:=fun q=>by
   rw [q,zip] at ho
   cases ho
   exact absurd (show Value.type "zip" = .type "StopIteration" from hc) (by decide)
  exact wpAny_setField_rec zip (by simp) fun h2 _ sb=>stop e h' h2 x ext sb ⟨o,sb.extBut x o ne ho,hc⟩
theorem vI {Q:bA}(hh:A.handled=none)(Z:ZS s.heap z TI TO i1 i2 l1 l2 xs ys s.heap .none a b k1 k2)
  (item:∀ x y h',xs[k1]?=some x->ys[k2]?=some y->ZS s.heap z TI TO i1 i2 l1 l2 xs ys h' (rawInt s.heap.objs.size) x y (k1 + 1) (k2 + 1)->IsPair h' s.heap.objs.size x y->h'.objs.size=s.heap.objs.size + 1->Q (.ref s.heap.objs.size) { s with heap:=h' })
  (stop:(xs[k1]?=none∨ys[k2]?=none)->∀ h' e,(∀ c o,c ∉ [z,TO,i1,i2]->s.heap.get? c=some o->h'.get? c=some o)->pV h' e->E (.ref e) { s with heap:=h' }) :
  wpAny (model prog w) A (Builtin.«zip.__next__» ⟨[.ref z],[]⟩) (fun f t=>∃ v,f = .done (.ret v)/\Q v t) E s:=by
 have F:=Z.asked (prog:=prog) (w:=w) (A:=A) (E:=E)
 have g0:=F.f0;have g2:=F.f2;have g3:=F.f3;have g4:=F.f4;have gi:=F.ins
 have gs:=F.set .ellipsis
 obtain ⟨h,g,d,tk,os⟩:=s
 dsimp only at Z item stop
 wp_walk using g0,g2,g3,g4,gi,gs
 intro h1 hz1 sb1
 have Z1:=Z.self sb1.extBut hz1
 have size1:h1.objs.size=h.objs.size:=sb1.1
 clear F g0 g2 g3 g4 gi gs
 wp_walk using wpAny_forIn_list _ (fun rest r t=>r=((none:Option PySem.Fin),())/\∃ h',t=⟨h',g,d,tk,os⟩/\h'.objs.size=h.objs.size/\D1 h z TI TO i1 i2 l1 l2 xs ys a b k1 k2 h' rest) _
 case turn =>
  rintro p rest r t ⟨rfl,h2,rfl,size2,zr⟩
  match rest,zr with
  | [],⟨e,x,hx,Z2⟩ =>
   subst e
   refine wpAny_bind (nB rfl hh Z2.two Z2.src2 Z2.zip Z2.ap.i2z (fun v h3 hv i3 sb3=>?_) fun no h3 h4 e ext sb4 st=>?_)
   ·have Z3:=Z2.on2 sb3.extBut i3
    refine wpAny_bind (wpAny_seqItems Z3.tout rfl (wpAny_bind (wpAny_updateSeq_pair Z3.tout fun h4 p4 sb4=>wpAny_bind (wpAny_letGo (wpAny_pure ?_)))))
    exact ⟨rfl,h4,rfl,by rw [sb4.1,sb3.1];exact size2,x,v,hx,hv,Z3.out sb4.extBut p4⟩
   ·exact stop (.inr no) h4 e (fun c o hc q=>sb4.extBut c o (off4 hc).1 (ext c o (off4 hc).2.2.2 (Z2.far c o hc q))) st
  | [q],⟨e1,e2,Z2⟩ =>
   subst e1 e2
   refine wpAny_bind (nB rfl hh Z2.one Z2.src1 Z2.zip Z2.ap.i1z (fun v h3 hv i3 sb3=>?_) fun no h3 h4 e ext sb4 st=>?_)
   ·have Z3:=Z2.on1 sb3.extBut i3
    refine wpAny_bind (wpAny_seqItems Z3.tout rfl (wpAny_bind (wpAny_updateSeq_pair Z3.tout fun h4 p4 sb4=>wpAny_bind (wpAny_letGo (wpAny_pure ?_)))))
    exact ⟨rfl,h4,rfl,by rw [sb4.1,sb3.1];exact size2,rfl,v,hv,Z3.out sb4.extBut p4⟩
   ·exact stop (.inl no) h4 e (fun c o hc q=>sb4.extBut c o (off4 hc).1 (ext c o (off4 hc).2.2.1 (Z2.far c o hc q))) st
  | _ :: _ :: _,zr=>exact zr.elim
 case fin =>
  rintro r t ⟨rfl,h2,rfl,size2,x,y,hx,hy,Z2⟩
  refine wpAny_bind (wpAny_seqItems Z2.tout rfl (wpAny_bind (wpAny_newTuple ?_)))
  have Z3:=Z2.push { cls:=.type "tuple",data:=.seq #[x,y] }
  refine wpAny_bind (wpAny_bind (wpAny_setField_rec Z3.zip (by simp) fun h4 z4 sb4=>wpAny_setField_rec z4 (by simp) fun h5 z5 sb5=>wpAny_pure ⟨_,rfl,?_⟩))
  have size5:h5.objs.size=h.objs.size + 1:=by rw [sb5.1,sb4.1,Heap.size_push,size2]
  have new:z≠h2.objs.size:=Nat.ne_of_lt (Heap.lt_size Z2.zip)
  have pair:IsPair h5 h2.objs.size x y:=sb5.extBut _ _ new.symm (sb4.extBut _ _ new.symm (Heap.get?_push_size _ rfl))
  have Z5:=(Z3.self sb4.extBut (f':=rawInt h2.objs.size) z4).self sb5.extBut (f':=rawInt h2.objs.size) z5
  rw [size2] at pair Z5 ⊢
  exact item x y h5 hx hy Z5 pair size5
 case h=>exact ⟨rfl,h1,rfl,size1,rfl,rfl,Z1⟩
theorem vV {it:Addr}{T id:String}{b:Builtin}{Q:Option Value->Shared->Prop}(kind:s.TypeIs (.ref it) T)(slot:Slot T "__next__" id)(entry:entryFor table id=some b)(args:argsOk id ⟨[.ref it],[]⟩)
  (h:wpAny (model prog w) A.in1 (b ⟨[.ref it],[]⟩) (fun f t=>∃ v,f = .done (.ret v)/\Q (some v) t) (fun x t=>∃ e,x = .ref e/\pV t.heap e/\Q none t) s):wpAny (model prog w) A (pyNext (.ref it)) Q E s:=by
 have asked:wpAny (model prog w) A (callSpecial? (.ref it) "__next__") (fun r t=>∃ v,r=some v/\Q (some v) t) (fun x t=>∃ e,x = .ref e/\pV t.heap e/\Q none t) s :=
  wpAny_callSpecial?_slot kind slot (wpAny_call_entry slot kind entry (thn h fun f t ⟨v,e,q⟩=>⟨v,e,v,rfl,q⟩) args)
 refine wpAny_bind (wpAny_attempt (wpAny_mono asked ?_ ?_))
 ·rintro _ t ⟨v,rfl,q⟩
  exact wpAny_pure q
 ·rintro _ t ⟨e,rfl,⟨o,ho,hc⟩,q⟩
  exact wpAny_bind (wpAny_isInstance ⟨o,ho,hc⟩ isSubtype_stop (wpAny_pure q))
theorem nO {Q:Option Value->Shared->Prop}(hh:A.handled=none)(Z:ZS s.heap z TI TO i1 i2 l1 l2 xs ys s.heap .none a b k1 k2)
  (item:∀ x y h',xs[k1]?=some x->ys[k2]?=some y->ZS s.heap z TI TO i1 i2 l1 l2 xs ys h' (rawInt s.heap.objs.size) x y (k1 + 1) (k2 + 1)->IsPair h' s.heap.objs.size x y->h'.objs.size=s.heap.objs.size + 1->Q (some (.ref s.heap.objs.size)) { s with heap:=h' })
  (stop:(xs[k1]?=none∨ys[k2]?=none)->∀ h',(∀ c o,c ∉ [z,TO,i1,i2]->s.heap.get? c=some o->h'.get? c=some o)->Q none { s with heap:=h' }):wpAny (model prog w) A (pyNext (.ref z)) Q E s :=
 vV (b:=Builtin.«zip.__next__») ⟨_,Z.zip,rfl⟩ PySem.F.slot_zip_next PySem.F.entry_zip_next (PySem.F.args_zip_next_1 _) (vI (Q:=fun v t=>Q (some v) t) hh Z item fun no h' e far st=>⟨e,rfl,st,stop no h' far⟩)
end
noncomputable def zE (h:Heap)(l:Addr)(nm:String):Prop:=(∃ xs,h.IsList l xs/\nm="list_iterator")∨(∃ xs,h.IsTuple l xs/\nm="tuple_iterator")
theorem zE.push {h:Heap}{l:Addr}{nm:String}{o:Obj}(x:zE h l nm):zE (h.push o) l nm:=by
 rcases x with ⟨xs,y,e⟩ | ⟨xs,y,e⟩
 ·exact .inl ⟨xs,y.push _,e⟩
 ·exact .inr ⟨xs,y.push _,e⟩
theorem yP {prog:Program}{w:World}{A:Around}{E:bA}{s:Shared}{l:Addr}{nm:String}{Q:bA}(x:zE s.heap l nm)
  (h:Q (.ref s.heap.objs.size) { s with heap:=s.heap.push { cls:=.type nm,data:=.fields #[.ref l,.int 0 0] } }):wpAny (model prog w) A (pyIter (.ref l)) Q E s:=by
 rcases x with ⟨xs,y,rfl⟩ | ⟨xs,y,rfl⟩
 ·exact wpAny_pyIter_list y h
 ·exact wpAny_pyIter_tuple y h
theorem wP {prog:Program}{w:World}{A:Around}{E:bA}{s:Shared}{l1 l2:Addr}{n1 n2:String}{Q:bA}(a1:zE s.heap l1 n1)(a2:zE s.heap l2 n2)
  (k:∀ h' z TI TO i1 i2,ZipAt z TI TO i1 i2->(∀ c ∈ [z,TI,TO,i1,i2],s.heap.objs.size<=c)->IsZip h' z TI TO .none->IsPair h' TI (.ref i1) (.ref i2)->IsPair h' TO .none .none->eM h' i1 l1 0->eM h' i2 l2 0->(∀ c o,s.heap.get? c=some o->h'.get? c=some o)->Q (.ref z) { s with heap:=h' }):wpAny (model prog w) A (call (.type "zip") [.ref l1,.ref l2]) Q E s:=by
 have made:Meets (Builtin.«zip.__new__» ⟨[.type "zip",.ref l1,.ref l2],[]⟩) (fun _ R t=>zE t.heap l1 n1/\zE t.heap l2 n2/\∀ i1 i2 TI TO z h1 h2 h3 h4,i1=t.heap.objs.size->h1=t.heap.push { cls:=.type n1,data:=.fields #[.ref l1,.int 0 0] } ->
   i2=h1.objs.size->h2=h1.push { cls:=.type n2,data:=.fields #[.ref l2,.int 0 0] }->TI=h2.objs.size->h3=h2.push { cls:=.type "tuple",data:=.seq #[.ref i1,.ref i2] }->TO=h3.objs.size->h4=h3.push { cls:=.type "tuple",data:=.seq #[.none,.none] }->z=h4.objs.size ->
   R (.ok (.ret (.ref z))) { t with heap:=h4.push { cls:=.type "zip",data:=.fields #[.none,.bool false,.bool false,.ref TI,.ref TO] } }):=by
  refine .of_wp fun prog w A R t ⟨b1,b2,q⟩=>?_
  have isZip:=sub_zip
  obtain ⟨h,g,d,tk,os⟩:=t
  have r1:=fun (Q:bA) q=>yP (prog:=prog) (w:=w) (A:=A.in1) (E:=fun e s'=>R (.error e) s') (Q:=Q) b1 q
  have r2:=fun (Q:bA) q=>yP (prog:=prog) (w:=w) (A:=A.in1) (E:=fun e s'=>R (.error e) s') (Q:=Q) (s:=⟨h.push { cls:=.type n1,data:=.fields #[.ref l1,.int 0 0] },g,d,tk,os⟩) (zE.push b2) q
  wp_walk using r1,r2
  exact ⟨_,rfl,q _ _ _ _ _ _ _ _ _ rfl rfl rfl rfl rfl rfl rfl rfl rfl⟩
 refine callType_new PySem.F.called_zip (by decide) (PySem.F.typeCall_zip_2 _ _) (PySem.F.newCall_zip_2 _ _) (fun obj=>PySem.F.args_object_init_3 obj _ _) PySem.F.entry_zip_new made ⟨a1,a2,?_⟩
 intro i1 i2 TI TO z h1 h2 h3 h4 e1 d1 e2 d2 e3 d3 e4 d4 e5
 have s1:h1.objs.size=s.heap.objs.size + 1:=by rw [d1,Heap.size_push]
 have s2:h2.objs.size=s.heap.objs.size + 2:=by rw [d2,Heap.size_push,s1]
 have s3:h3.objs.size=s.heap.objs.size + 3:=by rw [d3,Heap.size_push,s2]
 have s4:h4.objs.size=s.heap.objs.size + 4:=by rw [d4,Heap.size_push,s3]
 have up1:∀ c o,s.heap.get? c=some o->h1.get? c=some o:=fun c o q=>by rw [d1];exact Heap.get?_push_of_some _ q
 have up2:∀ c o,h1.get? c=some o->h2.get? c=some o:=fun c o q=>by rw [d2];exact Heap.get?_push_of_some _ q
 have up3:∀ c o,h2.get? c=some o->h3.get? c=some o:=fun c o q=>by rw [d3];exact Heap.get?_push_of_some _ q
 have up4:∀ c o,h3.get? c=some o->h4.get? c=some o:=fun c o q=>by rw [d4];exact Heap.get?_push_of_some _ q
 have p1:h1.get? i1=some { cls:=.type n1,data:=.fields #[.ref l1,.int 0 0] }:=by rw [e1,d1];exact Heap.get?_push_size _ rfl
 have p2:h2.get? i2=some { cls:=.type n2,data:=.fields #[.ref l2,.int 0 0] }:=by rw [e2,d2];exact Heap.get?_push_size _ rfl
 have p3:h3.get? TI=some { cls:=.type "tuple",data:=.seq #[.ref i1,.ref i2] }:=by rw [e3,d3];exact Heap.get?_push_size _ rfl
 have p4:h4.get? TO=some { cls:=.type "tuple",data:=.seq #[.none,.none] }:=by rw [e4,d4];exact Heap.get?_push_size _ rfl
 have at5:∀ c o,h4.get? c=some o->(h4.push { cls:=.type "zip",data:=.fields #[.none,.bool false,.bool false,.ref TI,.ref TO] }).get? c=some o:=fun c o q=>Heap.get?_push_of_some _ q
 have p5:IsZip (h4.push { cls:=.type "zip",data:=.fields #[.none,.bool false,.bool false,.ref TI,.ref TO] }) z TI TO .none:=by rw [e5];exact Heap.get?_push_size _ rfl
 have sq:∀ {l i:Addr} {nm:String} {h:Heap},zE s.heap l nm->h.get? i=some { cls:=.type nm,data:=.fields #[.ref l,.int 0 0] }->eM h i l 0:=fun a e=>by
  rcases a with ⟨_,_,rfl⟩ | ⟨_,_,rfl⟩
  ·exact .inl ⟨_,e,rfl,rfl⟩
  ·exact .inr ⟨_,e,rfl,rfl⟩
 have D:ZipAt z TI TO i1 i2:=by constructor <;> (intro q;have q:(_:Nat)=_:=q;omega)
 refine ⟨⟨_,p5,rfl⟩,k _ z TI TO i1 i2 D (fun c hc=>?_) p5 (at5 _ _ (up4 _ _ p3)) (at5 _ _ p4) (sq a1 (at5 _ _ (up4 _ _ (up3 _ _ (up2 _ _ p1))))) (sq a2 (at5 _ _ (up4 _ _ (up3 _ _ p2)))) fun c o q=>at5 _ _ (up4 _ _ (up3 _ _ (up2 _ _ (up1 _ _ q))))⟩
 simp only [List.mem_cons,List.not_mem_nil,or_false] at hc
 rcases hc with q | q | q | q | q <;> (rw [q];show (_:Nat)<=_;omega)
noncomputable def DN (a b:Addr):It :=
 ⟨fun i H=>∃ xs ys x y,cM H a xs/\cM H b ys/\xs[i]?=some x/\ys[i]?=some y,
  fun i H z H'=>∃ T x y,z = .ref T/\H T=none/\H'=upd H T (.tup [x,y])/\∀ xs ys,cM H a xs->cM H b ys->xs[i]?=some x/\ys[i]?=some y,
  fun i H=>∃ xs ys,cM H a xs/\cM H b ys/\(xs.length<=i∨ys.length<=i)⟩
theorem cM.inj {H:Hp}{a:Addr}{xs ys:List V}(h:cM H a xs)(k:cM H a ys):xs=ys:=by
 rcases h with h | h <;> rcases k with k | k <;> rw [h] at k <;> cases k <;> rfl
theorem aF.sq {X:Cx}{pins:bK}{σ:St}{H:Hp}{s:Shared}{a:Addr}{xs:List V}(I:aF X pins σ H s)(h:cM H a xs):∃ its:bJ,aK xs its/\j6 s.heap a its.toArray/\∃ nm,zE s.heap a nm:=by
 rcases h with h | h
 ·obtain ⟨its,rv,p,_⟩:=I.list (cY.of h)
  obtain ⟨o,e,c,n,d⟩:=p.isList
  exact ⟨its,rv,⟨o,n,e,d⟩,_,.inl ⟨_,p.isList,rfl⟩⟩
 ·obtain ⟨its,rv,p,_⟩:=I.tuple (d7.of h)
  have p':s.heap.IsTuple a its.toArray:=p
  obtain ⟨o,e,c,n,d⟩:=id p'
  exact ⟨its,rv,⟨o,n,e,d⟩,_,.inr ⟨_,p',rfl⟩⟩
theorem cM.some {H:Hp}{a:Addr}{xs:List V}(h:cM H a xs):∃ o,H a=some o:=h.elim (fun e=>⟨_,e⟩) fun e=>⟨_,e⟩
theorem BM {X:Cx}{pins:bK}{σ:St}{H:Hp}{s:Shared}{a b z TI TO i1 i2:Addr}{i:Nat}{xs ys:List V}(I:aF X pins σ H s)(hf:∀ c ∈ [z,TI,TO,i1,i2],cA X pins H c)(D:ZipAt z TI TO i1 i2)
  (st:IsZip s.heap z TI TO .none/\IsPair s.heap TI (.ref i1) (.ref i2)/\(∃ u v,IsPair s.heap TO u v)/\eM s.heap i1 a i/\eM s.heap i2 b i) (hxs:cM H a xs) (hys:cM H b ys) :
  ∃ its:bJ,aK xs its/\j6 s.heap a its.toArray/\(∃ its2:bJ,aK ys its2/\j6 s.heap b its2.toArray)/\∀ its2:bJ,(aK ys its2/\j6 s.heap b its2.toArray)->∃ u v,ZS s.heap z TI TO i1 i2 a b its.toArray its2.toArray s.heap .none u v i i:=by
 obtain ⟨its,rv,p,_⟩:=I.sq hxs
 obtain ⟨its2,rv2,p2,_⟩:=I.sq hys
 obtain ⟨hz,hTI,⟨u,v,hTO⟩,h1,h2⟩:=st
 have off:∀ {c:Addr} {zs:List V},cM H c zs->c ∉ [z,TO,i1,i2]:=fun {c zs} q hm=>by
  obtain ⟨o,e⟩:=q.some
  rw [(hf c (by simp at hm ⊢;rcases hm with r | r | r | r <;> simp [r])).1] at e
  cases e
 exact ⟨its,rv,p,⟨its2,rv2,p2⟩,fun its3 q3=>⟨u,v,{ toZipAt:=D,n1:=off hxs,n2:=off hys },hz,hTI,hTO,h1,h2,p,q3.2,fun _ _ _ e=>e⟩⟩
theorem vK {P:Program}{w:World}{K:PySem.W.Frag}{elts:g9}{tk0}{tpos:Pos}(a b z TI TO i1 i2:Addr)(D:ZipAt z TI TO i1 i2) :
  j3 P w K (.Tuple elts tk0 tpos) (DN a b) [z,TI,TO,i1,i2] z (fun i h=>IsZip h z TI TO .none/\IsPair h TI (.ref i1) (.ref i2)/\(∃ u v,IsPair h TO u v)/\eM h i1 a i/\eM h i2 b i) where
 mem:=by simp
 obj:=fun i h st c hc=>by
  obtain ⟨hz,hTI,⟨u,v,hTO⟩,h1,h2⟩:=st
  obtain ⟨o1,e1,d1⟩:=h1.obj
  obtain ⟨o2,e2,d2⟩:=h2.obj
  simp only [List.mem_cons,List.not_mem_nil,or_false] at hc
  rcases hc with rfl | rfl | rfl | rfl | rfl
  ·exact ⟨_,hz,fun v z=>by cases z⟩
  ·exact ⟨_,hTI,fun v z=>by cases z⟩
  ·exact ⟨_,hTO,fun v z=>by cases z⟩
  ·exact ⟨_,e1,fun v z=>by rw [d1] at z;cases z⟩
  ·exact ⟨_,e2,fun v z=>by rw [d2] at z;cases z⟩
 keep:=fun i h h' st k=>by
  obtain ⟨hz,hTI,⟨u,v,hTO⟩,h1,h2⟩:=st
  exact ⟨k z (by simp) _ hz,k TI (by simp) _ hTI,⟨u,v,k TO (by simp) _ hTO⟩,h1.at fun o e=>k i1 (by simp) o e,h2.at fun o e=>k i2 (by simp) o e⟩
 item:=by
  intro X hP hw hK hc i pins s σ H E I hf st ⟨xs,ys,x,y,hxs,hys,hx,hy⟩
  subst hP hw hK
  obtain ⟨its,rv,p,p',Z⟩:=BM I hf D st hxs hys
  obtain ⟨its2,rv2⟩:=p'
  obtain ⟨u0,v0,Z⟩:=Z its2 rv2
  refine nO (I.ok.hd hc) Z (fun u v h' hu hv Z' pr size=>?_) fun no=>?_
  ·obtain ⟨u',hu',ru⟩:=rv.get hx
   obtain ⟨v',hv',rw'⟩:=rv2.1.get hy
   rw [show its.toArray[i]?=its[i]? from by simp] at hu
   rw [show its2.toArray[i]?=its2[i]? from by simp] at hv
   rw [hu'] at hu
   rw [hv'] at hv
   cases hu
   cases hv
   refine ⟨_,rfl,wpAny_letOwnedTupleGo_zip (s:={ s with heap:=h' }) Z'.zip fun h2 hz2 sb2=>?_⟩
   have Z2:=Z'.self sb2.extBut hz2
   have new:z≠s.heap.objs.size:=Nat.ne_of_lt (Heap.lt_size Z.zip)
   have pr2:IsPair h2 s.heap.objs.size u v:=sb2.extBut _ _ new.symm pr
   have far:∀ c o,c ∉ [z,TI,TO,i1,i2]->s.heap.get? c=some o->h2.get? c=some o:=fun c o hc e=>Z2.far c o (fun q=>hc (by simp at q ⊢;rcases q with r | r | r | r <;> simp [r])) e
   have I2:aF X pins σ (upd H s.heap.objs.size (.tup [x,y])) { s with heap:=h2 }:=I.turnedLaid (t':=s.toks) (ch:=[z,TI,TO,i1,i2]) far hf (Nat.le_refl _) ⟨by show 2<=sizeLine;decide,[u,v],.cons ru (.cons rw' .nil),⟨_,pr2,rfl,_,rfl⟩⟩
   refine ⟨.ref s.heap.objs.size,_,I2,rfl,⟨s.heap.objs.size,x,y,rfl,I.hok.fresh (Nat.le_refl _),rfl,fun xs' ys' q1 q2=>?_⟩,⟨Z2.zip,Z2.tin,⟨u,v,Z2.tout⟩,Z2.one,Z2.two⟩,fun c hc=>?_⟩
   ·rw [q1.inj hxs,q2.inj hys];exact ⟨hx,hy⟩
   ·have live:∃ o,s.heap.get? c=some o:=by
     simp only [List.mem_cons,List.not_mem_nil,or_false] at hc
     rcases hc with rfl | rfl | rfl | rfl | rfl
     ·exact ⟨_,Z.zip⟩
     ·exact ⟨_,Z.tin⟩
     ·exact ⟨_,Z.tout⟩
     ·obtain ⟨o,e,_⟩:=Z.one.obj;exact ⟨o,e⟩
     ·obtain ⟨o,e,_⟩:=Z.two.obj;exact ⟨o,e⟩
    obtain ⟨o,e⟩:=live
    rw [aE (Nat.ne_of_lt (Heap.lt_size e))];exact (hf c hc).1
  ·obtain ⟨u',hu',_⟩:=rv.get hx
   obtain ⟨v',hv',_⟩:=rv2.1.get hy
   rcases no with q | q
   ·rw [show its.toArray[i]?=its[i]? from by simp,hu'] at q;cases q
   ·rw [show its2.toArray[i]?=its2[i]? from by simp,hv'] at q;cases q
 done:=by
  intro X hP hw hK hc i pins s σ H E I hf st ⟨xs,ys,hxs,hys,hd⟩
  subst hP hw hK
  obtain ⟨its,rv,p,p',Z⟩:=BM I hf D st hxs hys
  obtain ⟨its2,rv2⟩:=p'
  obtain ⟨u0,v0,Z⟩:=Z its2 rv2
  have e1:=rv.length
  have e2:=rv2.1.length
  refine nO (I.ok.hd hc) Z (fun u v h' hu hv _ _ _=>?_) fun _ h' far=>⟨rfl,?_⟩
  ·obtain ⟨q1,_⟩:=Array.getElem?_eq_some_iff.mp hu
   obtain ⟨q2,_⟩:=Array.getElem?_eq_some_iff.mp hv
   rw [List.size_toArray] at q1 q2
   omega
  ·exact I.turnedL (t':=s.toks) (ch:=[z,TI,TO,i1,i2]) (fun c o hc e=>far c o (fun q=>hc (by simp at q ⊢;rcases q with r | r | r | r <;> simp [r])) e) hf
 self:=fun _ _ _ _ _ st h=>wpAny_pyIter_zip st.1 h
noncomputable def iZip2 (ta:TA):TI:=fun σ H R=>ta σ H fun vs H1=>∃ a b xs ys,vs=[.ref a,.ref b]/\cM H1 a xs/\cM H1 b ys/\R (DN a b) H1
theorem kR {X:Cx}{elts:g9}{tk0:_}{tpos:Pos}{a b:Expr}{ta:TA}{p pos:Pos}(hg:Gl X "zip")(hm:X.mg "zip" = none)(ha:PA X [a,b] ta)(hs:starEach [a,b] X.env=[(false,eval a X.env),(false,eval b X.env)]:=by rfl)(hs2:starEach [b] X.env=[(false,eval b X.env)]:=by rfl) :
  PI X (.Tuple elts tk0 tpos) (.Call (.Name "zip" p) [a,b] [] pos) (iZip2 ta):=by
 intro pins s σ H R I h
 refine Call_ (iG I hg hm boot_zip (PyProof.Rows.callWith_type1 (thn (ha pos pins s σ H _ I h) fun us s1 ⟨vs,H1,I1,r1,q1⟩=>?_) (by rw [hs,hs2]) (by rw [hs2];rfl)))
 obtain ⟨l1,l2,xs,ys,e,hx,hy,q⟩:=q1
 subst e
 obtain ⟨u1,u2,rfl,e1,e2⟩:=vals2 r1
 cases e1
 cases e2
 obtain ⟨its,rv,p1,nm1,k1⟩:=I1.sq hx
 obtain ⟨its2,rv2,p2,nm2,k2⟩:=I1.sq hy
 refine wP k1 k2 fun h' z TI TO i1 i2 D new a1 a2 a3 a4 a5 hk=>?_
 refine wpAny_pyIter_zip (s:={ s1 with heap:=h' }) a1 ?_
 exact ⟨z,[z,TI,TO,i1,i2],_,_,H1,rfl,I1.kept (t':=s1.toks) hk,vK l1 l2 z TI TO i1 i2 D,⟨a1,a2,⟨_,_,a3⟩,a4,a5⟩,fun c hc=>I1.fpOk (new c hc) (I1.hok.fresh (new c hc)),q⟩
theorem fC {g:TG}{tt:TT}{te:TE}{Q:VK}{σ:St}{H:Hp}{a b:Addr}(xs ys:List V)(Pv:Nat->List V->St->Hp->Prop)(h0:Pv 0 [] σ H)(hl:∀ i acc σ H,i<=min xs.length ys.length->Pv i acc σ H->cM H a xs/\cM H b ys)
  (hs:∀ i x y T acc σ H,xs[i]?=some x->ys[i]?=some y->Pv i acc σ H->H T=none->CStep g tt te (.ref T) acc σ (upd H T (.tup [x,y])) (Pv (i + 1)))
  (hd:∀ acc σ H,Pv (min xs.length ys.length) acc σ H->∀ p,H p=none->Q (.ref p) (upd H p (.lst acc))):jG (DN a b) g tt te Q σ H:=by
 refine jD (n:=min xs.length ys.length) Pv h0 (fun i acc σ H hi p=>?_) fun acc σ H p=>?_
 ·obtain ⟨e1,e2⟩:=hl i acc σ H (Nat.le_of_lt hi) p
  have l1:i < xs.length:=Nat.lt_of_lt_of_le hi (Nat.min_le_left _ _)
  have l2:i < ys.length:=Nat.lt_of_lt_of_le hi (Nat.min_le_right _ _)
  refine ⟨⟨xs,ys,xs[i],ys[i],e1,e2,by simp [l1],by simp [l2]⟩,fun z H' y=>?_⟩
  obtain ⟨T,x,y,rfl,hT,rfl,q⟩:=y
  obtain ⟨q1,q2⟩:=q xs ys e1 e2
  exact hs i x y T acc σ H q1 q2 p hT
 ·obtain ⟨e1,e2⟩:=hl _ acc σ H (Nat.le_refl _) p
  exact ⟨⟨xs,ys,e1,e2,by omega⟩,hd acc σ H p⟩
theorem rNeD_bb {H:Hp}{Q:VK}{i j:Bool}:rNeD (.bl i) (.bl j) H Q=Q (.bl (!decide (i=j))) H:=by
 have e:eqD (.bl i) (.bl j)=decide (i=j):=by cases i <;> cases j <;> rfl
 refine propext ⟨fun ⟨d,e',h1,h2,_,q⟩=>?_,fun q=>⟨.bl i,.bl j,rfl,rfl,Nat.zero_le _,by rw [e];exact q⟩⟩
 have d1:d = .bl i:=cZ.inj h1 (show cZ H (.bl i) (.bl i) from rfl)
 have d2:e' = .bl j:=cZ.inj h2 (show cZ H (.bl j) (.bl j) from rfl)
 rw [d1,d2,e] at q
 exact q
theorem rEqD_bb {H:Hp}{Q:VK}{i j:Bool}:rEqD (.bl i) (.bl j) H Q=Q (.bl (decide (i=j))) H:=by
 have e:eqD (.bl i) (.bl j)=decide (i=j):=by cases i <;> cases j <;> rfl
 refine propext ⟨fun ⟨d,e',h1,h2,_,q⟩=>?_,fun q=>⟨.bl i,.bl j,rfl,rfl,Nat.zero_le _,by rw [e];exact q⟩⟩
 have d1:d = .bl i:=cZ.inj h1 (show cZ H (.bl i) (.bl i) from rfl)
 have d2:e' = .bl j:=cZ.inj h2 (show cZ H (.bl j) (.bl j) from rfl)
 rw [d1,d2,e] at q
 exact q
structure iO (P:Program)(w:World):Prop where
 view:∀ {A:Around} {E:bA} {s:Shared} {d:Addr} {Q:bA},s.TypeIs (.ref d) "dict"->(d == sysModules)=false ->
  (∀ h',h'.objs.size=s.heap.objs.size + 1->(∀ b ob,s.heap.get? b=some ob->h'.get? b=some ob)->h'.IsItemsView s.heap.objs.size d->Q (.ref s.heap.objs.size) { s with heap:=h' })->wpAny (model P w) A (call (.builtin "dict.items") [.ref d]) Q E s
 iter:∀ {A:Around} {E:bA} {s:Shared} {v d:Addr} {o:Obj} {es:Array DictEntry} {ep:Nat} {Q:bA},s.heap.IsItemsView v d->s.heap.get? d=some o->o.data = .dict es ep ->
  (∀ h',h'.objs.size=s.heap.objs.size + 1->(∀ b ob,s.heap.get? b=some ob->h'.get? b=some ob)->IsItemIter h' s.heap.objs.size d 0 es.size ep .none .none->Q (.ref s.heap.objs.size) { s with heap:=h' })->wpAny (model P w) A (pyIter (.ref v)) Q E s
 next:∀ {A:Around} {E:bA} {s:Shared} {it d:Addr} {o:Obj} {es:Array DictEntry} {i ep:Nat} {e:DictEntry} {ok ov:Value} {Q:Option Value->Shared->Prop},IsItemIter s.heap it d i es.size ep ok ov->s.heap.get? d=some o->o.data = .dict es ep->es[i]?=some e ->
  (∀ h',IsItemIterOut h' it d (i + 1) es.size ep e.key e.val s.heap.objs.size->h'.get? s.heap.objs.size=some { cls:=.type "tuple",data:=.seq #[e.key,e.val] }->h'.objs.size=s.heap.objs.size + 1 ->
   (∀ b ob,b≠it->s.heap.get? b=some ob->h'.get? b=some ob)->Q (some (.ref s.heap.objs.size)) { s with heap:=h' })->wpAny (model P w) A (pyNext (.ref it)) Q E s
 stop:∀ {A:Around} {E:bA} {s:Shared} {it d:Addr} {o:Obj} {es:Array DictEntry} {i ep:Nat} {ok ov:Value} {Q:Option Value->Shared->Prop},A.handled=none->IsItemIter s.heap it d i es.size ep ok ov->s.heap.get? d=some o->o.data = .dict es ep->es.size<=i ->
  (∀ h',Heap.ExtBut it s.heap h'->Q none { s with heap:=h' })->wpAny (model P w) A (pyNext (.ref it)) Q E s
noncomputable def DO (a:Addr)(o:Obj)(kvs:List (List cF×V)):It :=
 ⟨fun i H=>H a=some (.frz o (.dT kvs))/\i < kvs.length,fun i H x H'=>∃ T b k v,kvs[i]?=some (k,v)/\H b=some (.tup (k.map kV))/\x = .ref T/\H T=none/\H'=upd H T (.tup [.ref b,v]),
  fun i H=>H a=some (.frz o (.dT kvs))/\kvs.length<=i⟩
theorem iD {α β:Type}{F:α->β->Prop}:∀ {l:List α} {m:List β} {i:Nat} {x:α},Paired F l m->l[i]?=some x->∃ y,m[i]?=some y/\F x y
 | _,_,_,_,.nil,h=>by simp at h
 | _,_,0,_,.cons r _,h=>by simp at h;subst h;exact ⟨_,rfl,r⟩
 | _,_,i + 1,_,.cons _ t,h=>by
  obtain ⟨y,h1,h2⟩:=iD t (by simpa using h)
  exact ⟨y,by simpa using h1,h2⟩
theorem yT {P:Program}{w:World}{H:Hp}{h:Heap}{a:Addr}{o:Obj}{kvs:List (List cF×V)}{es:Array DictEntry}{ep:Nat}(ok:eD P w H h)(e:H a=some (.frz o (.dT kvs)))(hd:o.data = .dict es ep) :
  h.get? a=some o/\es.size=kvs.length/\∀ (i:Nat) (k:List cF) (v:V),kvs[i]?=some (k,v)->∃ (b:Addr) (u:Value) (y:DictEntry),es[i]?=some y/\y.key=Value.ref b/\y.val=u/\H b=some (.tup (k.map kV))/\aL v u:=by
 obtain ⟨e1,z,sm,xs,r,o',es',ep',h1,h2,h3,h4,h5⟩:=(show aU P w H h a (.frz o (.dT kvs)) from ok a _ e)
 rw [e1] at h1
 cases h1
 rw [hd] at h3
 cases h3
 refine ⟨e1,?_,fun i k v hk=>?_⟩
 ·rw [← Array.length_toList,h4,List.length_map];exact (Paired.length r).symm
 ·obtain ⟨x,hx,q1,q2,q3⟩:=iD r hk
  refine ⟨x.2.1,x.2.2,entryOfKey (tupleKind (bG P w)) x,?_,rfl,rfl,q2,q3⟩
  rw [← Array.getElem?_toList,h4,List.getElem?_map,hx];rfl
theorem sO {P:Program}{w:World}{K:PySem.W.Frag}{elts:g9}{tk0}{tpos:Pos}(a it:Addr)(o:Obj)(es:Array DictEntry)(ep:Nat)(kvs:List (List cF×V))(hd:o.data = .dict es ep)(R0:iO P w) :
  j3 P w K (.Tuple elts tk0 tpos) (DO a o kvs) [it] it (fun i h=>∃ ok ov,IsItemIter h it a i es.size ep ok ov) where
 mem:=by simp
 obj:=fun i h ⟨ok,ov,st⟩ b hb=>by
  obtain rfl:b=it:=by simpa using hb
  exact ⟨_,st,fun v z=>by cases z⟩
 keep:=fun i h h' ⟨ok,ov,st⟩ k=>⟨ok,ov,k it (by simp) _ st⟩
 item:=by
  intro X hP hw hK hc i pins s σ H E I hf st hg
  subst hP hw hK
  obtain ⟨ha,hi⟩:=hg
  obtain ⟨ok,ov,st⟩:=st
  obtain ⟨e1,e2,e3⟩:=yT I.hok ha hd
  obtain ⟨b,u,y,hy,yk,yv,hb,ru⟩:=e3 i kvs[i].1 kvs[i].2 (List.getElem?_eq_getElem hi)
  obtain ⟨f0,f1,f2,f3,f4,f5⟩:=hf it (by simp)
  refine R0.next st e1 hd hy fun h' a1 a2 a3 a4=>⟨_,rfl,wpAny_letOwnedTupleGo_items (s:={ s with heap:=h' }) a1 fun h2 c1 c2=>?_⟩
  have lt:s.heap.objs.size≠it:=Nat.ne_of_gt (Heap.lt_size st)
  have pr:=c2.extBut _ _ lt a2
  rw [yk,yv] at pr
  have I1:aF X pins σ (upd H s.heap.objs.size (.tup [.ref b,kvs[i].2])) { s with heap:=h2 }:=I.turnedLaid (t':=s.toks) (ch:=[it]) (fun c ob hc z=>c2.extBut _ _ (fun q=>hc (by simp [q])) (a4 c ob (fun q=>hc (by simp [q])) z)) hf (Nat.le_refl _)
   ⟨by show 2<=sizeLine;decide,[_,u],.cons rfl (.cons ru .nil),⟨_,pr,rfl,_,rfl⟩⟩
  refine ⟨.ref s.heap.objs.size,_,I1,rfl,⟨s.heap.objs.size,b,kvs[i].1,kvs[i].2,List.getElem?_eq_getElem hi,hb,rfl,I.hok.fresh (Nat.le_refl _),rfl⟩,⟨_,_,c1⟩,fun c hc=>?_⟩
  obtain rfl:c=it:=by simpa using hc
  rw [aE lt.symm];exact f0
 done:=by
  intro X hP hw hK hc i pins s σ H E I hf st hg
  subst hP hw hK
  obtain ⟨ha,hi⟩:=hg
  obtain ⟨ok,ov,st⟩:=st
  obtain ⟨e1,e2,e3⟩:=yT I.hok ha hd
  exact R0.stop (I.ok.hd hc) st e1 hd (by omega) fun h' hk=>⟨rfl,I.turnedL (t':=s.toks) (ch:=[it]) (fun c o hc z=>hk c o (fun q=>hc (by simp [q])) z) hf⟩
 self:=fun A i s Q E st h=>by
  obtain ⟨ok,ov,st⟩:=st
  exact PySem.W.kcp_self st h
noncomputable def DC (to:TE):TI:=fun σ H R=>to σ H fun x H1=>∃ a kvs,x = .ref a/\((H1 a=some (.dT kvs)/\∀ o,R (DO a o kvs) (upd H1 a (.frz o (.dT kvs))))∨∃ o,H1 a=some (.frz o (.dT kvs))/\R (DO a o kvs) H1)
theorem aF.freeze {X:Cx}{pins:bK}{σ:St}{H:Hp}{s:Shared}{a:Addr}{kvs:List (List cF×V)}(I:aF X pins σ H s)(e:H a=some (.dT kvs)):∃ o,aF X pins σ (upd H a (.frz o (.dT kvs))) s:=by
 have q:=(show aU X.prog X.w H s.heap a (.dT kvs) from I.hok a _ e)
 obtain ⟨z,sm,xs,r,o,es,ep,h1,h2⟩:=q
 refine ⟨o,pO (t':=s.toks) I (by rw [e];trivial) ⟨rfl,fun _ _=>rfl⟩ ⟨o,h1⟩ ⟨h1,z,sm,xs,Paired.mapP r fun p q t=>⟨t.1,?_,t.2.2⟩,o,es,ep,h1,h2⟩⟩
 rw [aE (fun w=>by rw [w,e] at t;cases t.2.1)]
 exact t.2.1
section
variable {X:Cx}{elts:g9}{tk0:_}{tpos apos cpos:Pos}{o:Expr}{to:TE}
theorem lJ (R0:iO X.prog X.w)(ho:PE X o to)(hbase:attributeBase o "items" X.env (eval o X.env)=eval o X.env:=by rfl)(hline:(apos.endLine == cpos.line)=true:=by rfl) :
  PI X (.Tuple elts tk0 tpos) (.Call (.Attribute o "items" apos) [] [] cpos) (DC to):=by
 intro pins s σ H R I h
 refine wpAny_Call_method (T:="dict") (id:="dict.items") hbase rfl hline F.plainAttrs_dict F.slot_dict_items F.type_dict_items (thn (ho pins s σ H _ I h) fun u s1 ⟨x,H1,I1,rx,a,kvs,ex,q⟩=>?_)
 subst ex
 obtain rfl:u=Value.ref a:=rx
 have key:∃ ob H2,aF X pins σ H2 s1/\H2 a=some (.frz ob (.dT kvs))/\R (DO a ob kvs) H2:=by
  rcases q with ⟨e,q⟩ | ⟨ob,e,q⟩
  ·obtain ⟨ob,I2⟩:=I1.freeze e
   exact ⟨ob,_,I2,upd_same,q ob⟩
  ·exact ⟨ob,H1,I1,e,q⟩
 obtain ⟨ob,H2,I2,e2,q2⟩:=key
 obtain ⟨t1,t2,t3⟩:=yQ I2 (.inr ⟨kvs,.inr ⟨ob,e2⟩⟩)
 refine ⟨t1,t2,?_⟩
 show wpAny _ _ (callWith cpos (.builtin "dict.items") [.ref a] [] []) _ _ s1
 refine Calls.callWith_builtin rfl (PySem.evalArgs_none (R0.view t1 t3 fun h1 y1 k0 iv=>?_))
 obtain ⟨e1,z,sm,xs,r,o',es,ep,g1,g2,g3,g4⟩:=(show aU X.prog X.w H2 s1.heap a (.frz ob (.dT kvs)) from I2.hok a _ e2)
 rw [e1] at g1
 cases g1
 refine R0.iter (s:={ s1 with heap:=h1 }) iv (k0 _ _ e1) g3 fun h' z1 k1 st=>?_
 have le:s1.heap.objs.size<=h1.objs.size:=by rw [y1];exact Nat.le_succ _
 refine ⟨_,[_],_,_,H2,rfl,I2.kept (t':=s1.toks) fun b u e=>k1 b u (k0 b u e),sO a _ ob es ep kvs g3 R0,⟨_,_,st⟩,fun c hc=>?_,q2⟩
 have hc:c=h1.objs.size:=List.mem_singleton.mp hc
 rw [hc]
 exact I2.fpOk le (I2.hok.fresh le)
end
section
variable {P:Program}{w:World}{A:Around}{E:bA}{s:Shared}{it v d:Addr}{o:Obj}{es:Array DictEntry}{i ep:Nat}{ok ov:Value}
theorem tQ {Q:bA}(t:s.TypeIs (.ref d) "dict")(ns:(d == sysModules)=false)
  (q:∀ h',h'.objs.size=s.heap.objs.size + 1->(∀ b ob,s.heap.get? b=some ob->h'.get? b=some ob)->h'.IsItemsView s.heap.objs.size d->Q (.ref s.heap.objs.size) { s with heap:=h' }):wpAny (model P w) A (call (.builtin "dict.items") [.ref d]) Q E s:=by
 refine wpAny_call_entry F.slot_dict_items t F.entry_dict_items ?_ (F.args_dict_items_1 _)
 unfold Builtin.«dict.items» Builtin.Dict.noArgs
 refine wpAny_bind (wpAny_bind (wpAny_notOrdered_dict t (show wpAny _ _ (pure d) _ _ _ from wpAny_pure ?_)))
 have no:Builtin.Dict.showsAll d=pure ():=if_neg (by rw [ns];decide)
 rw [no]
 exact wpAny_bind (wpAny_pure (wpAny_bind (wpAny_newObj_type (wpAny_pure ⟨_,rfl,q _ (Heap.size_push _ _) (fun b ob e=>Heap.get?_push_of_some _ e) ⟨_,Heap.get?_push_size _ rfl,rfl,rfl⟩⟩))))
theorem tT {Q:bA}(hv:s.heap.IsItemsView v d)(ho:s.heap.get? d=some o)(hd:o.data = .dict es ep)
  (q:∀ h',h'.objs.size=s.heap.objs.size + 1->(∀ b ob,s.heap.get? b=some ob->h'.get? b=some ob)->IsItemIter h' s.heap.objs.size d 0 es.size ep .none .none->Q (.ref s.heap.objs.size) { s with heap:=h' }):wpAny (model P w) A (pyIter (.ref v)) Q E s:=by
 obtain ⟨vo,g1,g2,g3⟩:=id hv
 refine wpAny_pyIter_slot hv.typeIs F.slot_dict_items_iter (wpAny_call_entry F.slot_dict_items_iter hv.typeIs F.entry_dict_items_iter (show wpAny _ _ (Builtin.«dict_items.__iter__» _) _ _ _ from ?_) (F.args_dict_items_iter_1 _))
 unfold Builtin.«dict_items.__iter__» Builtin.Dict_items.dictOf Builtin.Dict_items.newIterator
 refine wpAny_bind (wpAny_pure (wpAny_bind (wpAny_bind (wpAny_field g1 g3 (x:=.ref d) rfl (wpAny_pure (wpAny_bind (wpAny_bind (wpAny_dictEntries ho hd (wpAny_bind (wpAny_dictEpoch ho hd ?_))))))))))
 have tp:Builtin.Dict_items.ownsTuple "dict_itemiterator" = true:=by decide
 simp only [tp,if_true,Bool.false_eq_true,if_false]
 refine wpAny_newObj_type (wpAny_pure ⟨_,rfl,"dict_itemiterator",_,⟨_,Heap.get?_push_size _ rfl,rfl⟩,F.slot_dict_itemiterator_next.lookup,q _ (Heap.size_push _ _) (fun b ob e=>Heap.get?_push_of_some _ e) ?_⟩) ?_
 ·exact (Heap.get?_push_size _ (by rfl))
 ·simp only [sizeOk,Builtin.Dict_items.ownedTupleFields,List.size_toArray,List.length_append,List.length_cons,List.length_nil,sizeLine_eq]
  decide
theorem tS {e:DictEntry}{Q:Option Value->Shared->Prop}(hit:IsItemIter s.heap it d i es.size ep ok ov)(ho:s.heap.get? d=some o)(hd:o.data = .dict es ep)(he:es[i]?=some e)
  (q:∀ h',IsItemIterOut h' it d (i + 1) es.size ep e.key e.val s.heap.objs.size->h'.get? s.heap.objs.size=some { cls:=.type "tuple",data:=.seq #[e.key,e.val] }->h'.objs.size=s.heap.objs.size + 1 ->
   (∀ b ob,b≠it->s.heap.get? b=some ob->h'.get? b=some ob)->Q (some (.ref s.heap.objs.size)) { s with heap:=h' }):wpAny (model P w) A (pyNext (.ref it)) Q E s:=by
 have t:s.TypeIs (.ref it) "dict_itemiterator":=⟨_,hit,rfl⟩
 have lit:it < s.heap.objs.size:=Heap.lt_size hit
 have tp:Builtin.Dict_items.ownsTuple "dict_itemiterator" = true:=by decide
 unfold pyNext
 refine wpAny_bind (wpAny_attempt (wpAny_callSpecial?_slot (name:=Str.ofString "__next__") t F.slot_dict_itemiterator_next (wpAny_call_entry F.slot_dict_itemiterator_next t F.entry_dict_itemiterator_next ?_ (F.args_dict_itemiterator_next_1 _))))
 refine wpAny_bind (wpAny_pure (wpAny_bind (wpAny_bind (wpAny_bind (wpAny_typeNameOfWhole_itemiter t (wpAny_pure (wpAny_bind (wpAny_fieldsOf hit rfl ?_))))))))
 simp only [tp,if_true]
 dsimp only [List.take,List.drop]
 rw [if_neg (show ¬ (Value.ref d == Value.none)=true from fun z=>nomatch z)]
 refine wpAny_bind (wpAny_pure (wpAny_bind (wpAny_dictEntries ho hd ?_)))
 rw [if_neg (show ¬ ((es.size:Int) != (es.size:Int))=true by simp)]
 refine wpAny_bind (wpAny_pure (wpAny_bind (wpAny_dictEpoch ho hd ?_)))
 rw [if_neg (show ¬ ((ep:Int) != (ep:Int))=true by simp)]
 refine wpAny_pure ?_
 dsimp only
 rw [if_neg (show ¬ (i:Int) < 0 by omega),Int.toNat_natCast,he]
 dsimp only
 refine wpAny_bind (wpAny_bind (wpAny_typeNameOfWhole_itemiter t (wpAny_pure (wpAny_bind (wpAny_isOneOf_itemiter t (wpAny_bind (wpAny_setField_rec hit (show _ < 8 by rw [tp];decide) fun h1 e1 s1=>?_)))))))
 have s1':Heap.SameBut it s.heap h1:=s1
 have e1':IsItemIter h1 it d (i + 1) es.size ep ok ov:=by
  unfold IsItemIter
  rw [show ((i + 1:Nat):Int)=(i:Int) + 1 from rfl]
  exact e1
 have t1:Shared.TypeIs { s with heap:=h1 } (.ref it) "dict_itemiterator":=⟨_,e1',rfl⟩
 refine wpAny_bind (wpAny_holding (wpAny_bind (wpAny_isOneOf_itemiter t1 (wpAny_bind (wpAny_isOneOf_itemiter t1 ?_)))))
 rw [if_neg (by decide)]
 unfold Builtin.Dict_items.pairFromOwner Builtin.Dict_items.ownedTupleIsFree
 refine wpAny_bind (wpAny_newTuple (show wpAny _ _ _ _ _ { s with heap:=h1.push { cls:=.type "tuple",data:=.seq #[e.key,e.val] } } from ?_))
 have z1:h1.objs.size=s.heap.objs.size:=s1'.1
 rw [z1]
 have e2:IsItemIter (h1.push { cls:=.type "tuple",data:=.seq #[e.key,e.val] }) it d (i + 1) es.size ep ok ov:=Heap.get?_push_of_some _ e1'
 have g2:(h1.push { cls:=.type "tuple",data:=.seq #[e.key,e.val] }).get? s.heap.objs.size=some { cls:=.type "tuple",data:=.seq #[e.key,e.val] }:=z1 ▸ Heap.get?_push_size _ rfl
 have z2:(h1.push { cls:=.type "tuple",data:=.seq #[e.key,e.val] }).objs.size=s.heap.objs.size + 1:=by rw [Heap.size_push,z1]
 have k2:∀ b ob,b≠it->s.heap.get? b=some ob->(h1.push { cls:=.type "tuple",data:=.seq #[e.key,e.val] }).get? b=some ob:=fun b ob nb z=>Heap.get?_push_of_some _ (s1'.extBut b ob nb z)
 generalize h1.push { cls:=.type "tuple",data:=.seq #[e.key,e.val] }=h2 at e2 g2 z2 k2 ⊢
 refine wpAny_bind (wpAny_bind (wpAny_field e2 rfl (x:=.none) rfl (wpAny_pure ?_)))
 dsimp only
 rw [if_pos rfl]
 refine wpAny_bind (wpAny_field e2 rfl (x:=ok) rfl (wpAny_bind (wpAny_field e2 rfl (x:=ov) rfl (wpAny_bind (wpAny_setField_rec e2 (by simp) fun h3 e3 s3=>?_)))))
 refine wpAny_bind (wpAny_setField_rec e3 (by simp) fun h4 e4 s4=>wpAny_bind (wpAny_setField_rec e4 (by simp) fun h5 e5 s5=>wpAny_bind (wpAny_setField_rec e5 (by simp) fun h6 e6 s6=>?_)))
 have far:∀ b ob,b≠it->h2.get? b=some ob->h6.get? b=some ob:=fun b ob nb z=>s6.extBut b ob nb (s5.extBut b ob nb (s4.extBut b ob nb (s3.extBut b ob nb z)))
 have z6:h6.objs.size=s.heap.objs.size + 1:=s6.1.trans (s5.1.trans (s4.1.trans (s3.1.trans z2)))
 exact wpAny_bind (wpAny_letGo (wpAny_pure (wpAny_pure ⟨_,rfl,wpAny_pure (q h6 e6 (far _ _ (Nat.ne_of_gt lit) g2) z6 fun b ob nb z=>far b ob nb (k2 b ob nb z))⟩)))
theorem tR {Q:Option Value->Shared->Prop}(hh:A.handled=none)(hit:IsItemIter s.heap it d i es.size ep ok ov)(ho:s.heap.get? d=some o)(hd:o.data = .dict es ep)(hi:es.size<=i)
  (q:∀ h',Heap.ExtBut it s.heap h'->Q none { s with heap:=h' }):wpAny (model P w) A (pyNext (.ref it)) Q E s:=by
 have t:s.TypeIs (.ref it) "dict_itemiterator":=⟨_,hit,rfl⟩
 have tp:Builtin.Dict_items.ownsTuple "dict_itemiterator" = true:=by decide
 unfold pyNext
 refine wpAny_bind (wpAny_attempt (wpAny_callSpecial?_slot (name:=Str.ofString "__next__") t F.slot_dict_itemiterator_next (wpAny_call_entry F.slot_dict_itemiterator_next t F.entry_dict_itemiterator_next ?_ (F.args_dict_itemiterator_next_1 _))))
 refine wpAny_bind (wpAny_pure (wpAny_bind (wpAny_bind (wpAny_bind (wpAny_typeNameOfWhole_itemiter t (wpAny_pure (wpAny_bind (wpAny_fieldsOf hit rfl ?_))))))))
 simp only [tp,if_true]
 dsimp only [List.take,List.drop]
 rw [if_neg (show ¬ (Value.ref d == Value.none)=true from fun z=>nomatch z)]
 refine wpAny_bind (wpAny_pure (wpAny_bind (wpAny_dictEntries ho hd ?_)))
 rw [if_neg (show ¬ ((es.size:Int) != (es.size:Int))=true by simp)]
 refine wpAny_bind (wpAny_pure (wpAny_bind (wpAny_dictEpoch ho hd ?_)))
 rw [if_neg (show ¬ ((ep:Int) != (ep:Int))=true by simp)]
 refine wpAny_pure ?_
 dsimp only
 rw [if_neg (show ¬ (i:Int) < 0 by omega),Int.toNat_natCast,Array.getElem?_eq_none hi]
 dsimp only
 refine wpAny_bind (wpAny_bind (wpAny_typeNameOfWhole_itemiter t (wpAny_pure (wpAny_bind (wpAny_setField_rec hit (show _ < 8 by rw [tp];decide) fun h1 e1 s1=>?_)))))
 wp_walk
 refine wpAny_raiseNew_none hh (wpAny_bind (wpAny_isInstance (b:=true) ⟨_,Heap.get?_push_size _ rfl,rfl⟩ isSubtype_stop (wpAny_pure (q _ ?_))))
 exact (s1.extBut.push _).push _
end
theorem fS (P:Program)(w:World):iO P w:=⟨fun t ns q=>tQ t ns q,fun hv ho hd q=>tT hv ho hd q,fun a b c d q=>tS a b c d q,fun a b c d e q=>tR a b c d e q⟩
noncomputable abbrev KB:=List cF×Addr×V
noncomputable def zJ (P:Program)(w:World)(h:Heap)(a:Addr)(acc:List KB):Prop:=acc.length<=sizeLine/\∃ xs:List (List cF×Addr×Value),
 Paired (fun (p:KB) (q:List cF×Addr×Value)=>p.1=q.1/\p.2.1=q.2.1/\aL p.2.2 q.2.2) acc xs/\∃ o es ep,h.get? a=some o/\o.ExactDict/\o.data = .dict es ep/\es.toList=xs.map (entryOfKey (tupleKind (bG P w)))/\(xs.map (·.1)).Nodup
noncomputable def BK (H:Hp)(acc:List KB):Prop:=∀ x ∈ acc,H x.2.1=some (.tup (x.1.map kV))
noncomputable def eE (acc:List KB):List (List cF×V):=acc.map fun x=>(x.1,x.2.2)
theorem wM {P:Program}{w:World}:zF (zJ P w):=by
 rintro h a acc ⟨z,xs,r,o,es,ep,e,x,d,q⟩
 exact ⟨o,e,fun v k=>(by rw [d] at k;cases k),fun h' e'=>⟨z,xs,r,o,es,ep,e',x,d,q⟩⟩
theorem BB {P:Program}{w:World}{H:Hp}{h:Heap}{a:Addr}{acc:List KB}(y:(a == sysModules)=false)(f:zJ P w h a acc)(t:BK H acc):aU P w H h a (.dT (eE acc)):=by
 obtain ⟨z,xs,r,q⟩:=f
 refine ⟨by rw [eE,List.length_map];exact z,y,xs,?_,q⟩
 clear q z
 induction r with
 | nil=>exact .nil
 | @cons p q ps qs hq _ ih =>
  refine .cons ⟨hq.1,?_,hq.2.2⟩ (ih fun x hx=>t x (List.mem_cons_of_mem _ hx))
  rw [← hq.2.1]
  exact t p List.mem_cons_self
theorem v7 {P:Program}{w:World}{A:Around}:oH (zJ P w) [] P w A newDict:=fun _ _ _ q=>wpAny_newObj_type (q _ rfl fun _ e=>⟨Nat.zero_le _,[],.nil,_,_,_,e,⟨rfl,rfl,rfl⟩,rfl,rfl,List.nodup_nil⟩)
noncomputable def layKV (kx vx:Expr)(acc:Value)(env:Env):Sem Unit:=eval kx env >>= fun a=>holding [a] (eval vx env) >>= fun b=>match acc with
 | .ref d=>standAt { kx.pos with endLine:=vx.pos.endLine,endCol:=vx.pos.endCol } >>= fun _=>holding [a,b] (dictSet d a b)
 | _=>unsupported "internal:dictcomp"
theorem vM (kx vx tg iter:Expr)(ifs:g9)(scope:Scope)(pos:Pos)(it acc:Value)(env:Env) :
  compTurn (.DictComp kx vx [⟨tg,iter,ifs,0⟩] scope pos) 0 it acc env=iA iter.pos it tg env (layOn ifs (layKV kx vx acc env) env (.compLoop (.DictComp kx vx [⟨tg,iter,ifs,0⟩] scope pos) 0 it acc env)):=rfl
noncomputable def tlDct (tk tv:TE)(acc:List KB):St->Hp->(List KB->Hp->Prop)->Prop:=fun σ H N=>tk σ H fun y H1=>tv σ H1 fun v H2=>∃ b k,y = .ref b/\H2 b=some (.tup (k.map kV))/\BK H2 acc/\(∀ x ∈ acc,x.1≠k)/\acc.length < sizeLine/\N (acc ++ [(k,b,v)]) H2
theorem BC {P:Program}{w:World}{H:Hp}{h:Heap}{a:Addr}{acc:List KB}(ok:eD P w H h)(f:zJ P w h a acc)(t:BK H acc):∃ xs,Paired (fun (p:KB) (q:List cF×Addr×Value)=>p.1=q.1/\p.2.1=q.2.1/\aL p.2.2 q.2.2) acc xs/\h.DictOfH (tupleKind (bG P w)) a xs:=by
 obtain ⟨z,xs,r,o,es,ep,e,x,d,q,nd⟩:=f
 refine ⟨xs,r,o,es,ep,e,x,d,q,?_,nd⟩
 clear nd q z
 induction r with
 | nil=>exact fun x hx=>nomatch hx
 | @cons p q ps qs hq _ ih =>
  intro x hx
  rcases List.mem_cons.mp hx with z | z
  ·subst z
   rw [← hq.1,← hq.2.1]
   exact lU ok (t p List.mem_cons_self)
  ·exact ih (fun x hx=>t x (List.mem_cons_of_mem _ hx)) x z
theorem wB {acc:List KB}{xs:List (List cF×Addr×Value)}(r:Paired (fun (p:KB) (q:List cF×Addr×Value)=>p.1=q.1/\p.2.1=q.2.1/\aL p.2.2 q.2.2) acc xs):xs.map (·.1)=acc.map (·.1):=by
 induction r with
 | nil=>rfl
 | cons hq _ ih=>rw [List.map_cons,List.map_cons,ih,hq.1]
theorem yK {Y:Cx}{D:Addr}{kx vx:Expr}{tk tv:TE}{acc:List KB}(hu:Y.A.units + 1 < cLine)(hx:∀ e s,¬ Y.xe e s)(hk:PE Y kx tk)(hv:PE Y vx tv):zH (zJ Y.prog Y.w) Y D (layKV kx vx (.ref D) Y.env) (tlDct tk tv acc) acc:=by
 intro E pl o σ H t N I hm hf q
 refine wpAny_bind (wpAny_mono (hk _ t σ H _ I q) (fun y t1 ⟨yv,H1,I1,r1,q1⟩=>?_) fun e t z=>(hx e t z).elim)
 refine wpAny_bind (wpAny_holding (wpAny_mono (hv _ t1 σ H1 _ I1 q1) (fun v t2 ⟨vv,H2,I2,r2,b,k,hy,hb,tr,fr,sm,w⟩=>?_) fun e t z=>(hx e t z).elim))
 subst hy
 cases r1
 have f2:=hf _ (I2.pin (D,o) (List.mem_append_right _ hm)).1
 obtain ⟨xs,r,dd⟩:=BC I2.hok f2 tr
 have lx:xs.length=acc.length:=r.length.symm
 have no:atKey xs k=none:=by
  cases z:atKey xs k with
  | none=>rfl
  | some p =>
   exfalso
   have:k ∈ xs.map (·.1):=by
    obtain ⟨x,fx,_⟩:=Option.map_eq_some_iff.mp z
    exact List.mem_map.mpr ⟨x,List.mem_of_find?_eq_some fx,by have:=List.find?_some fx;exact of_decide_eq_true this⟩
   rw [wB r] at this
   obtain ⟨x,hx1,hx2⟩:=List.mem_map.mp this
   exact fr x hx1 hx2
 refine wpAny_bind (wpAny_standAt (wpAny_holding (wpAny_dictSet_heap (A:=Y.A) (show Y.A.units < cLine by omega) (lU I2.hok hb) dd (fun h3 dd3 s3=>?_) (by rw [lx];exact Nat.le_of_lt sm))))
 rw [storedH_new no] at dd3
 obtain ⟨o3,es3,ep3,e3,x3,d3,q3,_,nd3⟩:=dd3
 exact ⟨t2,h3,_,H2,_,rfl,I2,s3,⟨by rw [List.length_append];exact sm,_,Paired.snoc r ⟨rfl,rfl,r2⟩,o3,es3,ep3,e3,x3,d3,q3,nd3⟩,w⟩
section
variable {β:Type}{F:Heap->Addr->β->Prop}{e0:β}{mk:Sem Value}{ce:Expr}{cls:List Comprehension}
variable {X:Cx}{scope:Scope}{N':bE}{src:List (Option Nat)}{pins:bK}{σ:St}{H₂:Hp}{s₂:Shared}{fp:List Addr}{it:Addr}{tn:w4}{J:It}{tg iter:Expr}{ifs:g9}{g:TG}{tt:TT}{tl:β->St->Hp->(β->Hp->Prop)->Prop}
end
theorem BK.upd {H:Hp}{acc:List KB}{D:Addr}{o:HO}(t:BK H acc)(hD:H D=none):BK (upd H D o) acc:=fun x hx=>(aC.upd hD) _ _ (t x hx)
noncomputable def B8 (src:List (Option Nat))(wi:TI)(g:TG)(tt:TT)(tk tv:TE):TE:=fun σ H Q=>wi σ H fun J H1=>∃ W:wY (List KB),(∃ m,W 0 m [] (stC src σ) H1)/\iQ J g tt (tlDct tk tv) (fun acc H=>BK H acc/\∀ p,H p=none->Q (.ref p) (upd H p (.dT (eE acc)))) W
theorem sQ:fillsNumberSlot (.type "tuple") "mul" = pure false:=PySem.fillsNumberSlot_seq (id:="tuple.__mul__") (r:=some (.builtin "tuple.__rmul__")) F.slot_tuple_mul.lookup (by decide +kernel) F.slot_tuple_rmul.lookup (by decide +kernel)
theorem qF:seqRepeat? (.type "tuple")=pure (some (.builtin "tuple.__mul__")):=by
 have a:=PySem.seqSlot_of (T:="tuple") (name:="__mul__") (id:="tuple.__mul__") F.slot_tuple_mul.lookup (by decide +kernel)
 have b:=PySem.seqSlot_of (T:="tuple") (name:="__rmul__") (id:="tuple.__rmul__") F.slot_tuple_rmul.lookup (by decide +kernel)
 unfold seqRepeat?
 rw [a,b]
 rfl
theorem oN {a:Int}{t:Tok}{l:Addr}{its:d8}{n:Nat}{dd:Option Addr}{sl:Array (Option Value)} :
  Meets (Builtin.«int.__rmul__» ⟨[.int a t,.ref l],[]⟩) (fun _ R s=>s.heap.get? l=some { cls:=.type "tuple",dict:=dd,data:=.seq its n,slots:=sl }/\R (.ok (.ret Value.notImplemented)) s) :=
 .of_wp fun prog w A R s ⟨hl,h⟩=>by
  obtain ⟨hp,gg,dw,tk,os⟩:=s
  wp_walk
  exact ⟨_,rfl,h⟩
theorem lW:∀ {r:List Int} {us:bJ},aK (r.map V.int) us->IntsAre us r
 | [],us,h=>by cases h;exact .nil
 | i :: r,us,h=>by
  cases h with
  | cons a t =>
   obtain ⟨tk,rfl⟩:=a
   exact .cons i tk (lW t)
theorem u8:∀ {us:bJ} {r:List Int} {i:Nat} {v:Value},IntsAre us r->us[i]?=some v->∃ n tk,r[i]?=some n/\v = .int n tk
 | _,_,_,_,.nil,h=>by simp at h
 | _,_,0,_,.cons n t h,e=>by simp at e;exact ⟨n,t,rfl,e.symm⟩
 | _,_,i + 1,_,.cons n t h,e=>by
  obtain ⟨m,tk,e1,e2⟩:=u8 h (by simpa using e)
  exact ⟨m,tk,by simpa using e1,e2⟩
theorem n4 {its:d8}:∀ (k:Nat) (acc:d8),((List.replicate k its).foldl (fun x1 x2=>x1 ++ x2) acc).size=acc.size + k * its.size
 | 0,acc=>by simp
 | k + 1,acc=>by rw [List.replicate_succ,List.foldl_cons,n4 k,Array.size_append,Nat.succ_mul];omega
section
variable {P:Program}{w:World}{A:Around}{E:bA}{s:Shared}
theorem rT {l:Addr}{its:d8}{k:Nat}{t:Tok}{Q:bA}(hl:IsTup s.heap l its)(n0:its.size≠0)(h1:k < 1000)(hz:its.size * k<=sizeLine)
  (q1:k=1->Q (.ref l) s) (q2:k≠1->Q (.ref s.heap.objs.size) { s with heap:=s.heap.push { cls:=.type "tuple",data:=.seq ((List.replicate k its).foldl (· ++ ·) #[]) } }):wpAny (model P w) A (call (.builtin "tuple.__mul__") [.ref l,.int k t]) Q E s:=by
 have ⟨o,ho,hc,n,hd⟩:=id hl
 refine wpAny_call_entry F.slot_tuple_mul ⟨o,ho,hc⟩ F.entry_tuple_mul (show wpAny _ _ (Builtin.«tuple.__mul__» _) _ _ _ from ?_) (F.args_tuple_mul_2 _ _)
 unfold Builtin.«tuple.__mul__»
 have items:∀ {Q':d8->Shared->Prop} {E':bA},Q' its s->wpAny (model P w) A.in1 (Builtin.Tuple.tupleItemsOf (.ref l)) Q' E' s:=fun h=>wpAny_bind (wpAny_seqItems ho hd (wpAny_pure h))
 have exact_:∀ {Q':Bool->Shared->Prop} {E':bA},Q' true s->wpAny (model P w) A.in1 (Builtin.Tuple.tupleIsExact (.ref l)) Q' E' s:=fun h=>wpAny_bind (wpAny_typeOf (T:="tuple") ⟨o,ho,hc⟩ (wpAny_pure h))
 refine wpAny_bind (wpAny_of_eq (rfl:asIndex (.int k t)=pure (k:Int)) ?_)
 dsimp only
 rw [if_neg (by simp;omega)]
 refine wpAny_bind (items ?_)
 have ne:its.isEmpty=false:=by
  cases z:its.isEmpty with
  | false=>rfl
  | true=>exact absurd (by simpa using z) n0
 by_cases k1:k=1
 ·rw [if_pos (by simp [k1])]
  refine wpAny_bind (exact_ ?_)
  rw [if_pos rfl]
  exact wpAny_bind (wpAny_rule (wpAny_pure ⟨_,rfl,q1 k1⟩))
 ·rw [if_neg (by rw [ne];simp;omega)]
  have mk:∀ {xs:d8},xs.size<=sizeLine->Q (.ref s.heap.objs.size) { s with heap:=s.heap.push { cls:=.type "tuple",data:=.seq xs } }->wpAny (model P w) A.in1 (Builtin.Tuple.tupleExact xs >>= fun a=>ret a) (fun fin s'=>∃ v,fin=PySem.Fin.done (.ret v)/\Q v s') E s:=fun hz' h=>wpAny_bind (wpAny_newObj_type (wpAny_pure ⟨_,rfl,h⟩) hz')
  by_cases k0:k=0
  ·subst k0
   rw [if_pos (by simp)]
   exact mk (Nat.zero_le _) (q2 k1)
  ·rw [if_neg (by rw [ne];simp;omega)]
   have z1:((its.size * k:Nat):Int)<=((sizeLine:Nat):Int):=Int.ofNat_le.mpr hz
   rw [Int.natCast_mul] at z1
   have z2:((sizeLine:Nat):Int)<=(2 ^ 63 - 1) / 8:=by decide
   rw [if_neg (by omega),if_neg (by unfold Builtin.Tuple.tupleTooMany;simp;exact z1),Int.toNat_natCast]
   refine mk ?_ (q2 k1)
   rw [n4,Array.size_empty,Nat.zero_add,Nat.mul_comm]
   exact hz
end
section
variable {X:Cx}
noncomputable def rRepT:R2:=fun x y H Q=>∃ (l:Addr) (k:Nat) (xs:List V),x = .ref l/\y = .int k/\H l=some (.tup xs)/\xs≠[]/\k < 1000/\xs.length * k<=sizeLine/\(k=1->Q (.ref l) H)/\(k≠1->∀ p,H p=none->Q (.ref p) (upd H p (.tup (List.replicate k xs).flatten)))
theorem AN:fJ X (binaryOp .Mult) rRepT:=by
 intro pins s σ H x y v u Q I rx ry h
 obtain ⟨l,k,xs,rfl,rfl,hH,ne,h1,hz,q1,q2⟩:=h
 cases rx
 obtain ⟨t,rfl⟩:=ry
 obtain ⟨zl,its,r,tp⟩:=(show aU X.prog X.w H s.heap l (.tup xs) from I.hok l _ hH)
 obtain ⟨⟨cls,dd,data,sl⟩,ho,hc,n,hd⟩:=id tp
 dsimp only at hc hd
 subst hc hd
 have n0:its.toArray.size≠0:=fun z=>ne (by
  rw [List.size_toArray] at z
  exact List.length_eq_zero_iff.mp (r.length.trans z))
 refine wpAny_binaryOp_repeat_ref (T:="tuple") (U:="int") (by decide) ⟨_,ho,rfl⟩ (fun s'=>typeIs_int s' k t) sQ F.fills_int_mul F.slot_int_rmul qF F.slot_int_index.lookup
  (call_meets F.slot_int_rmul (typeIs_int s k t) F.entry_int_rmul (F.args_int_rmul_2 _ _) oN ⟨ho,rfl,⟨_,ho,rfl⟩,rT tp n0 h1 (by rw [List.size_toArray,← r.length];exact hz) (fun z=>⟨.ref l,H,I,rfl,q1 z⟩) (fun z=>?_)⟩)
 ·refine ⟨.ref s.heap.objs.size,_,I.laid (t':=s.toks) (o:=.tup (List.replicate k xs).flatten) (fun b ob q=>Heap.get?_push_of_some _ q) (Nat.le_refl _) ?_,rfl,q2 z _ (I.hok.fresh (Nat.le_refl _))⟩
  have fl:=jT its k []
  rw [List.nil_append] at fl
  refine ⟨by rw [uZ,Nat.mul_comm];exact hz,_,r.rep k,?_⟩
  have g:(s.heap.push { cls:=.type "tuple",data:=.seq ((List.replicate k its.toArray).foldl (fun x1 x2=>x1 ++ x2) #[]) }).get? s.heap.objs.size=some { cls:=.type "tuple",data:=.seq ((List.replicate k its.toArray).foldl (fun x1 x2=>x1 ++ x2) #[]) }:=Heap.get?_push_size _ rfl
  exact ⟨_,g,rfl,_,congrArg (fun a=>Data.seq a) fl⟩
noncomputable def rRepS:R2:=fun x y H Q=>∃ (l:Addr) (k:Nat) (xs:List V),x = .ref l/\y = .int k/\H l=some (.tup xs)/\xs≠[]/\k < 1000/\xs.length * k<=sizeLine/\∀ p H',aC H H'->H' p=some (.tup (List.replicate k xs).flatten)->Q (.ref p) H'
theorem uI:fJ X (binaryOp .Mult) rRepS:=by
 intro pins s σ H x y v u Q I rx ry h
 obtain ⟨l,k,xs,e1,e2,hH,ne,h1,hz,q⟩:=h
 refine AN pins s σ H x y v u Q I rx ry ⟨l,k,xs,e1,e2,hH,ne,h1,hz,fun z=>q l H (aC.refl _) ?_,fun _ p hp=>q p _ (aC.upd hp) upd_same⟩
 rw [z,hH]
 simp
noncomputable def rCatS:R2:=fun x y H Q=>∃ (a b:Addr) (xs ys:List V),x = .ref a/\y = .ref b/\H a=some (.tup xs)/\H b=some (.tup ys)/\xs.length + ys.length<=sizeLine/\∀ p H',aC H H'->H' p=some (.tup (xs ++ ys))->Q (.ref p) H'
theorem gR:fJ X (binaryOp .Add) rCatS:=by
 intro pins s σ H x y v u Q I rx ry h
 obtain ⟨a,b,xs,ys,e1,e2,ha,hb,hz,q⟩:=h
 by_cases ne:xs=[]
 ·subst ne e1 e2
  cases rx
  cases ry
  obtain ⟨_,its,r1,p1⟩:=(show aU X.prog X.w H s.heap a (.tup []) from I.hok a _ ha)
  obtain ⟨_,its2,r2,p2⟩:=(show aU X.prog X.w H s.heap b (.tup ys) from I.hok b _ hb)
  cases r1
  obtain ⟨⟨c1,d1,t1,l1⟩,o1,k1,n1,m1⟩:=p1
  obtain ⟨⟨c2,d2,t2,l2⟩,o2,k2,n2,m2⟩:=p2
  dsimp only at k1 m1 k2 m2
  subst k1 m1 k2 m2
  exact concat_meets ⟨_,o1,rfl⟩ ⟨_,o2,rfl⟩ noFill_tuple_add seq_tuple_add PySem.F.slot_tuple_add PySem.F.entry_tuple_add (PySem.F.args_tuple_add_2 _ _) (tuple_addW0 a b #[] its2.toArray n1 n2 d1 d2 l1 l2 rfl) ⟨o1,o2,.ref b,H,I,rfl,q b H (aC.refl _) hb⟩
 ·exact uK pins s σ H x y v u Q I rx ry ⟨a,b,xs,ys,e1,e2,d7.of ha,d7.of hb,ne,hz,fun z=>q a H (aC.refl _) (by rw [z,List.append_nil];exact ha),fun _ p hp=>q p _ (aC.upd hp) upd_same⟩
noncomputable def rAnyT:List V->Hp->VK->Prop:=fun xs H Q=>∃ (p:Addr) (ns:List Int),xs=[.ref p]/\H p=some (.tup (ns.map V.int))/\Q (.bl (ns.any fun n=>n != 0)) H
theorem wU (hc:X.calm=true):bI X (.builtin "any") rAnyT:=by
 rintro pins s σ H _ us Q I r ⟨p,ns,rfl,hp,q⟩
 obtain ⟨u,rfl,e⟩:=vals1 r
 cases e
 obtain ⟨its,rv,pl,_⟩:=I.tuple (d7.of hp)
 have hh:X.A.in1.handled=none:=I.ok.hd hc
 have are:=lW rv
 have tp:s.heap.IsTuple p its.toArray:=by
  obtain ⟨o,ho,hc',n,hd⟩:=pl
  exact ⟨o,ho,hc',n,hd⟩
 have ne:p≠s.heap.objs.size:=let ⟨_,e,_⟩:=id tp;Nat.ne_of_lt (Heap.lt_size e)
 have truth:TruthOf X.prog X.w X.A.in1 (fun i v=>its.toArray[i]?=some v) fun i=>((ns.map fun n=>n != 0)[i]?).getD false:=by
  intro i v t Q E hv hQ
  have hv':its[i]?=some v:=by simpa using hv
  obtain ⟨n,tk,en,rfl⟩:∃ n tk,ns[i]?=some n/\v = .int n tk:=by
   exact u8 are hv'
  dsimp only at hQ
  rw [List.getElem?_map,en] at hQ
  exact truthy_int hQ
 refine call_any_walk (wpAny_pyIter_tuple tp ⟨_,_,_,_,_,_,_,rfl,Walks.tuple hh s.heap.objs.size p ne its.toArray,?_,truth,fun h' tk hk=>?_⟩)
 ·exact aI ⟨_,Heap.get?_push_size _ rfl,rfl,rfl⟩ (tp.push _)
 ·rw [show its.toArray.size=(ns.map fun n=>n != 0).length by rw [List.size_toArray,← rv.length,List.length_map,List.length_map],LSm.range_any,List.any_map]
  exact ⟨.bl _,H,I.kept (t':=tk) (LSm.kept_iter hk),rfl,q⟩
end
section
variable {P:Program}{w:World}{A:Around}{E:bA}{s:Shared}{d:Addr}{o:Obj}{es:Array DictEntry}{ep:Nat}
theorem r9 {Q:bA}(ns:(d == sysModules)=false)(ho:s.heap.get? d=some o)(hx:o.ExactDict)(hd:o.data = .dict es ep)(q:Q (.int es.size s.toks) { s with toks:=s.toks + 1 }) :
  wpAny (model P w) A (call (.builtin "dict.__len__") [.ref d]) Q E s:=by
 have t:s.TypeIs (.ref d) "dict":=⟨o,ho,hx.1⟩
 refine wpAny_call_entry F.slot_dict_len t F.entry_dict_len (show wpAny _ _ (Builtin.«dict.__len__» _) _ _ _ from ?_) (F.args_dict_len_1 _)
 refine (show wpAny _ _ (dictSize d >>= fun n=>Builtin.Dict.pendingCount d >>= fun k=>retInt ((n:Int) + (k:Int))) _ _ _ from ?_)
 unfold dictSize
 refine wpAny_bind (wpAny_bind (wpAny_dictEntries ho hd (wpAny_pure (wpAny_bind (wpAny_pendingCount_other ns (wpAny_ret_mkInt q))))))
theorem m7 {Q:Bool->Shared->Prop}(ns:(d == sysModules)=false)(ho:s.heap.get? d=some o)(hx:o.ExactDict)(hd:o.data = .dict es ep)(hz:es.size<=sizeLine)(q:∀ k,Q (es.size != 0) { s with toks:=k }) :
  wpAny (model P w) A (truthy (.ref d)) Q E s:=by
 have t:s.TypeIs (.ref d) "dict":=⟨o,ho,hx.1⟩
 have fit:(es.size:Int) < 2 ^ 63:=by rw [sizeLine_eq] at hz;omega
 have ne:((es.size:Int) != 0)=(es.size != 0):=by cases z:es.size <;> simp <;> omega
 have ask:wpAny (model P w) A (runValue (.builtin "len" ⟨[.ref d],[]⟩)) (fun r s'=>∃ k tk,r = .int es.size tk/\s'={ s with toks:=k }) E s:=by
  apply wpAny_runValue
  apply codeAny_builtin entry_len
  rw [Around.under_plainId plain_len]
  unfold Builtin.«len»
  refine wpAny_bind (m:=oneArg "len" _) (wpAny_pure (wpAny_bind (m:=callSpecial? (.ref d) (Str.ofString "__len__")) (wpAny_callSpecial?_slot (name:=Str.ofString "__len__") t F.slot_dict_len (r9 ns ho hx hd ?_))))
  dsimp only
  refine wpAny_bind (wpAny_holding (wpAny_pure (wpAny_bind (wpAny_letGo ?_))))
  rw [if_neg (show ¬ (es.size:Int) < 0 by omega),if_neg (show ¬ (es.size:Int) ≥ 2 ^ 63 by omega)]
  exact wpAny_bind (wpAny_mkInt (wpAny_pure ⟨_,_,rfl,rfl⟩))
 unfold truthy
 refine wpAny_bind (wpAny_callSpecial?_none (name:=Str.ofString "__bool__") t noBool_dict (wpAny_bind (wpAny_specialOf (name:=Str.ofString "__len__") t F.slot_dict_len.lookup (wpAny_bind (wpAny_mono ask (fun r s' z=>?_) fun _ _ e=>e)))))
 obtain ⟨k,tk,rfl,rfl⟩:=z
 refine wpAny_pure ?_
 show Q ((es.size:Int) != 0) _
 rw [ne]
 exact q k
end
section
variable {X:Cx}
noncomputable def tTruT (ta:TE):TT:=fun σ H Q=>ta σ H fun x H'=>∃ p kvs,x = .ref p/\Rd H' p (.dT kvs)/\Q (!kvs.isEmpty) H'
theorem AH {a:Expr}{ta:TE}(ha:PE X a ta)(he:∀ whole,isTrue a X.env whole=(do let v ← whole;standAt a.pos;holding [v] (truthy v)):=by intro _;rfl):PT X a (tTruT ta):=by
 intro pins s σ H Q I h
 refine isTrue_plain (thn (ha pins s σ H _ I h) fun v s1 ⟨x,H1,I1,r1,p,kvs,e,rd,q1⟩=>?_) (he _)
 subst e
 cases r1
 obtain ⟨z,ns,xs,r,o,es,ep,ho,hx,hd,e2,_⟩:=(show aU X.prog X.w H1 s1.heap p (.dT kvs) from xG I1.hok rd)
 have sz:es.size=kvs.length:=by rw [← Array.length_toList,e2,List.length_map];exact (Paired.length r).symm
 refine m7 ns ho hx hd (by omega) fun k=>⟨H1,I1.tok _,?_⟩
 have:(es.size != 0) = !kvs.isEmpty:=by rw [sz];cases kvs <;> simp
 rw [this]
 exact q1
end
end L2
namespace L2
open PySem PySem.Spec PyProof.Rows PySem.W
structure E6 (n:Nat)(lt:Nat->Nat->Bool):Prop where
 irr:∀ i,lt i i=false
 asym:∀ i j,lt i j=true->lt j i=false
 tr:∀ i j k,lt j i=false->lt k j=false->lt k i=false
section
variable {n:Nat}{lt:Nat->Nat->Bool}
noncomputable def le (lt:Nat->Nat->Bool)(i j:Nat):Prop:=lt j i=false
noncomputable abbrev pa (p:Array Nat)(i:Nat):Nat:=p.getD i 0
noncomputable def Up (lt:Nat->Nat->Bool)(p:Array Nat)(k:Nat):Prop:=∀ i j,i<=j->j < k->le lt (pa p i) (pa p j)
variable (O:E6 n lt)
include O
end
end L2
namespace L2
open PySem PyProof.Rows
noncomputable def gallop':Bool->Keyed->Array Keyed->Nat->Nat->Nat->StateT SortSt Sem (Option Nat):=sortPriv% PySem.Builtin.gallop
noncomputable def yE:Array Keyed->Array Keyed->StateT SortSt Sem (Array Keyed):=sortPriv% PySem.Builtin.mergeLo
noncomputable def yF:Array Keyed->Array Keyed->StateT SortSt Sem (Array Keyed):=sortPriv% PySem.Builtin.mergeHi
section
variable {M:Model}{E:bA}{A:Around}{s:Shared}
noncomputable def jH (M:Model)(A:Around)(E:bA)(s:Shared)(kf:Keyed->Nat)(κ:SortKind)(a0:Array Keyed):Prop :=
 ∀ x y,x ∈ a0.toList->y ∈ a0.toList->∀ (st:SortSt) (Q:Option Bool->SortSt->Prop),kindOf st=κ->Q (some (decide (kf x < kf y))) st->wpS M A E s (lt' x y) Q st
variable {kf:Keyed->Nat}{κ:SortKind}{a0:Array Keyed}
theorem d9 {α:Type}{n:String}{k:PUnit->StateT SortSt Sem α}{Q:α->SortSt->Prop}{st:SortSt}(h:wpS M A E s (k ⟨⟩) Q st):wpS M A E s (liftM (rule n) >>= k) Q st:=wpS_bind (wpS_lift (wpAny_rule ⟨rfl,h⟩))
theorem aJ {arr:Array Keyed}{i:Nat}{x:Keyed}{st:SortSt}{Q:Keyed->SortSt->Prop}(e:arr[i]?=some x)(h:Q x st):wpS M A E s (elem' arr i) Q st:=by
 rw [elem'_eq,e]
 exact wpS_pure h
noncomputable def beyond' (left:Bool)(key:Keyed)(arr:Array Keyed)(base i:Nat):StateT SortSt Sem (Option Bool) :=
 elem' arr (base + i) >>= fun x=>if left=true then lt' x key else lt' key x >>= fun b=>pure (b.map fun c=>!c)
structure EK (kf:Keyed->Nat)(a0:Array Keyed)(left:Bool)(key:Keyed)(arr:Array Keyed)(base n:Nat)(f:Nat->Bool):Prop where
 kin:key ∈ a0.toList
 at_:∀ i,i < n->∃ x,arr[base + i]?=some x/\x ∈ a0.toList/\f i=if left=true then decide (kf x < kf key) else !decide (kf key < kf x)
 mono:∀ i j,i<=j->j < n->f j=true->f i=true
theorem eW {left:Bool}{key:Keyed}{arr:Array Keyed}{base n i:Nat}{f:Nat->Bool}{st:SortSt}{Q:Option Bool->SortSt->Prop}(ask:jH M A E s kf κ a0)(hk:kindOf st=κ)(F:EK kf a0 left key arr base n f)(hi:i < n)(h:Q (some (f i)) st):wpS M A E s (beyond' left key arr base i) Q st:=by
 obtain ⟨x,e,hx,hf⟩:=F.at_ i hi
 refine wpS_bind (aJ e ?_)
 cases left with
 | true=>exact ask _ _ hx F.kin st Q hk (by rw [hf] at h;exact h)
 | false=>exact wpS_bind (ask _ _ F.kin hx st _ hk (wpS_pure (by rw [hf] at h;exact h)))
theorem kY {left:Bool}{key:Keyed}{arr:Array Keyed}{base n hint:Nat}{f:Nat->Bool}{st:SortSt}{Q:Option Nat->SortSt->Prop}(ask:jH M A E s kf κ a0)(hk:kindOf st=κ)(F:EK kf a0 left key arr base n f)(hh:hint < n)
  (h:∀ r,r<=n->(∀ i,i < r->f i=true)->(∀ i,r<=i->i < n->f i=false)->Q (some r) st):wpS M A E s (gallop' left key arr base n hint) Q st:=by
 have no:∀ i j,i<=j->j < n->f i=false->f j=false:=fun i j ij jn e=>by
  cases z:f j with
  | false=>rfl
  | true=>rw [F.mono i j ij jn z] at e;cases e
 refine wpS_bind (eW ask hk F hh ?_)
 dsimp only
 have last:∀ lo hi,lo<=hi->hi<=n->(∀ i,i < lo->f i=true)->(∀ i,hi<=i->i < n->f i=false)->∀ (P:(Option (Option Nat)×Nat×Nat)->SortSt->Prop),(∀ r,r<=n->(∀ i,i < r->f i=true)->(∀ i,r<=i->i < n->f i=false)->P (none,r,r) st) ->
   wpS M A E s (forIn [0:n] ((none,lo,hi):Option (Option Nat)×Nat×Nat) fun _ c=>if c.2.1 ≥ c.2.2 then pure (.done (none,c.2.1,c.2.2)) else beyond' left key arr base (c.2.1 + (c.2.2 - c.2.1) / 2) >>= fun z =>
    match z with
    | some more=>if more=true then pure (.yield (none,c.2.1 + (c.2.2 - c.2.1) / 2 + 1,c.2.2)) else pure (.yield (none,c.2.1,c.2.1 + (c.2.2 - c.2.1) / 2))
    | _=>pure (.done (some none,c.2.1,c.2.2))) P st:=by
  intro lo hi lh hn h1 h2 P hP
  refine wpS_forRange (I:=fun x c st'=>st'=st/\∃ lo hi,c=(none,lo,hi)/\lo<=hi/\hi<=n/\hi - lo<=n - x/\(∀ i,i < lo->f i=true)/\(∀ i,hi<=i->i < n->f i=false)) ?_ ?_ ⟨rfl,lo,hi,rfl,lh,hn,by omega,h1,h2⟩
  ·rintro x c st' _ xn ⟨rfl,lo,hi,rfl,lh,hn,hm,h1,h2⟩
   dsimp only
   by_cases g:lo ≥ hi
   ·rw [if_pos g]
    have e:lo=hi:=by omega
    subst e
    exact wpS_pure (hP lo hn h1 h2)
   ·rw [if_neg g]
    refine wpS_bind (eW ask hk F (by omega) ?_)
    dsimp only
    cases z:f (lo + (hi - lo) / 2) with
    | true =>
     rw [if_pos rfl]
     exact wpS_pure ⟨rfl,_,_,rfl,by omega,hn,by omega,fun i hi'=>F.mono i _ (by omega) (by omega) z,h2⟩
    | false =>
     rw [if_neg (by decide)]
     exact wpS_pure ⟨rfl,_,_,rfl,by omega,by omega,by omega,h1,fun i hi' hin=>no _ i hi' hin z⟩
  ·rintro c st' ⟨rfl,lo,hi,rfl,lh,hn,hm,h1,h2⟩
   have e:lo=hi:=by omega
   subst e
   exact hP lo hn h1 h2
 cases z:f hint with
 | true =>
  rw [if_pos rfl]
  refine wpS_bind (wpS_mono (wpS_forRange (I:=fun x c st'=>st'=st/\∃ l o,c=(none,l,o)/\l < o/\x + 1<=o/\hint + l < n/\f (hint + l)=true)
   (Q:=fun c st'=>st'=st/\∃ l o,c=(none,l,o)/\l < o/\hint + l < n/\f (hint + l)=true/\(n - hint<=o∨hint + o < n/\f (hint + o)=false)) ?_ ?_ ⟨rfl,0,1,rfl,by omega,by omega,by omega,z⟩) ?_)
  ·rintro x c st' _ xn ⟨rfl,l,o,rfl,lo,xo,ln,fl⟩
   dsimp only
   by_cases g:o ≥ n - hint
   ·rw [if_pos g]
    exact wpS_pure ⟨rfl,l,o,rfl,lo,ln,fl,.inl g⟩
   ·rw [if_neg g]
    refine wpS_bind (eW ask hk F (by omega) ?_)
    dsimp only
    cases zo:f (hint + o) with
    | true =>
     rw [if_neg (by decide)]
     exact wpS_pure ⟨rfl,o,2 * o + 1,rfl,by omega,by omega,by omega,zo⟩
    | false =>
     rw [if_pos (by decide)]
     exact wpS_pure ⟨rfl,l,o,rfl,lo,ln,fl,.inr ⟨by omega,zo⟩⟩
  ·rintro c st' ⟨rfl,l,o,rfl,lo,xo,ln,fl⟩
   exact ⟨rfl,l,o,rfl,lo,ln,fl,.inl (by omega)⟩
  ·rintro c st' ⟨rfl,l,o,rfl,lo,ln,fl,hend⟩
   dsimp only
   refine wpS_bind (last _ _ ?_ ?_ ?_ ?_ _ fun r rn r1 r2=>wpS_pure (h r rn r1 r2))
   ·omega
   ·omega
   ·exact fun i hi=>F.mono i (hint + l) (by omega) ln fl
   ·rintro i hi hin
    rcases hend with g | ⟨g,fo⟩
    ·omega
    ·exact no (hint + o) i (by omega) hin fo
 | false =>
  rw [if_neg (by decide)]
  refine wpS_bind (wpS_mono (wpS_forRange (I:=fun x c st'=>st'=st/\∃ l o,c=(none,l,o)/\l < o/\x + 1<=o/\l<=hint/\f (hint - l)=false)
   (Q:=fun c st'=>st'=st/\∃ l o,c=(none,l,o)/\l < o/\l<=hint/\f (hint - l)=false/\(hint + 1<=o∨o<=hint/\f (hint - o)=true)) ?_ ?_ ⟨rfl,0,1,rfl,by omega,by omega,by omega,z⟩) ?_)
  ·rintro x c st' _ xn ⟨rfl,l,o,rfl,lo,xo,ln,fl⟩
   dsimp only
   by_cases g:o ≥ hint + 1
   ·rw [if_pos g]
    exact wpS_pure ⟨rfl,l,o,rfl,lo,ln,fl,.inl g⟩
   ·rw [if_neg g]
    refine wpS_bind (eW ask hk F (by omega) ?_)
    dsimp only
    cases zo:f (hint - o) with
    | false =>
     rw [if_neg (by decide)]
     exact wpS_pure ⟨rfl,o,2 * o + 1,rfl,by omega,by omega,by omega,zo⟩
    | true =>
     rw [if_pos rfl]
     exact wpS_pure ⟨rfl,l,o,rfl,lo,ln,fl,.inr ⟨by omega,zo⟩⟩
  ·rintro c st' ⟨rfl,l,o,rfl,lo,xo,ln,fl⟩
   exact ⟨rfl,l,o,rfl,lo,ln,fl,.inl (by omega)⟩
  ·rintro c st' ⟨rfl,l,o,rfl,lo,ln,fl,hend⟩
   dsimp only
   refine wpS_bind (last _ _ ?_ ?_ ?_ ?_ _ fun r rn r1 r2=>wpS_pure (h r rn r1 r2))
   ·omega
   ·omega
   ·rintro i hi
    rcases hend with g | ⟨g,fo⟩
    ·omega
    ·exact F.mono i (hint - o) (by omega) (by omega) fo
   ·exact fun i hi hin=>no (hint - l) i hi hin fl
end
noncomputable def kI (kf:Keyed->Nat)(x y:Keyed):Prop:=kf x<=kf y
structure iP (kf:Keyed->Nat)(all out ra rb:List Keyed):Prop where
 pa:(out ++ ra).Pairwise (kI kf)
 pb:(out ++ rb).Pairwise (kI kf)
 pm:(out ++ (ra ++ rb)).Perm all
noncomputable def dM (kf:Keyed->Nat)(all l:List Keyed):Prop:=l.Perm all/\l.Pairwise (kI kf)
section
variable {kf:Keyed->Nat}{all out ra rb p:List Keyed}
theorem iP.a (h:iP kf all out (p ++ ra) rb)(hp:∀ x ∈ p,∀ y ∈ rb,kf x<=kf y):iP kf all (out ++ p) ra rb:=by
 obtain ⟨h1,h2,h3⟩:=h
 rw [← List.append_assoc] at h1
 refine ⟨h1,?_,by rw [List.append_assoc,← List.append_assoc p];exact h3⟩
 have c:=List.pairwise_append.mp h2
 refine List.pairwise_append.mpr ⟨(List.pairwise_append.mp h1).1,c.2.1,fun x hx y hy=>?_⟩
 rcases List.mem_append.mp hx with z | z
 ·exact c.2.2 x z y hy
 ·exact hp x z y hy
theorem iP.swap (h:iP kf all out ra rb):iP kf all out rb ra:=⟨h.pb,h.pa,((List.perm_append_comm).append_left out).trans h.pm⟩
theorem iP.b (h:iP kf all out ra (p ++ rb))(hp:∀ x ∈ p,∀ y ∈ ra,kf x<=kf y):iP kf all (out ++ p) ra rb:=(h.swap.a hp).swap
theorem iP.finA (h:iP kf all out ra []):dM kf all (out ++ ra):=⟨by have:=h.pm;rwa [List.append_nil] at this,h.pa⟩
theorem iP.finB (h:iP kf all out [] rb):dM kf all (out ++ rb):=h.swap.finA
theorem iP.finL {x:Keyed}(h:iP kf all out [x] rb)(hx:∀ y ∈ rb,kf y<=kf x):dM kf all (out ++ rb ++ [x]):=by
 have g:iP kf all out [x] (rb ++ []):=by rw [List.append_nil];exact h
 exact (g.b fun y hy z hz=>by rw [List.mem_singleton.mp hz];exact hx y hy).finA
theorem gW {a:Array Keyed}{i:Nat}{x:Keyed}(h:a[i]?=some x):a.toList.drop i=x :: a.toList.drop (i + 1):=by
 have hi:i < a.toList.length:=by rw [Array.length_toList];exact (Array.getElem?_eq_some_iff.mp h).1
 rw [List.drop_eq_getElem_cons hi]
 congr 1
 have e:a.toList[i]?=some x:=by rw [Array.getElem?_toList];exact h
 rw [List.getElem?_eq_getElem hi] at e
 exact Option.some.inj e
theorem jU {a:Array Keyed}{i:Nat}:(a.extract i).toList=a.toList.drop i:=by
 rw [Array.toList_extract,List.extract]
 exact List.take_of_length_le (by rw [List.length_drop,Array.length_toList];omega)
theorem pN {a:Array Keyed}{i k:Nat}:(a.extract i (i + k)).toList=(a.toList.drop i).take k:=by
 rw [Array.toList_extract,List.extract,Nat.add_sub_cancel_left]
theorem kO {a:Array Keyed}{x:Keyed}:(a.push x).toList=a.toList ++ [x]:=Array.toList_push
theorem cB {a:Array Keyed}(h:a.toList.Pairwise (kI kf)){i j:Nat}{x y:Keyed}(hx:a[i]?=some x)(hy:a[j]?=some y)(ij:i<=j):kf x<=kf y:=by
 rcases Nat.eq_or_lt_of_le ij with rfl | lt
 ·rw [hx] at hy;cases hy;exact Nat.le_refl _
 ·obtain ⟨hi,ei⟩:=Array.getElem?_eq_some_iff.mp hx
  obtain ⟨hj,ej⟩:=Array.getElem?_eq_some_iff.mp hy
  have:=List.pairwise_iff_getElem.mp h i j (by simpa using hi) (by simpa using hj) lt
  rw [Array.getElem_toList,Array.getElem_toList,ei,ej] at this
  exact this
theorem eG {a:Array Keyed}{i:Nat}{y:Keyed}(h:y ∈ a.toList.drop i):∃ j,i<=j/\a[j]?=some y:=by
 obtain ⟨k,hk⟩:=List.getElem?_of_mem h
 rw [List.getElem?_drop,Array.getElem?_toList] at hk
 exact ⟨i + k,Nat.le_add_right _ _,hk⟩
theorem eF {a:Array Keyed}{i k:Nat}{y:Keyed}(h:y ∈ (a.toList.drop i).take k):∃ j,j < k/\a[i + j]?=some y:=by
 obtain ⟨n,hn⟩:=List.getElem?_of_mem h
 rw [List.getElem?_take] at hn
 by_cases z:n < k
 ·rw [if_pos z,List.getElem?_drop,Array.getElem?_toList] at hn
  exact ⟨n,z,hn⟩
 ·rw [if_neg z] at hn;cases hn
end
structure BF (kf:Keyed->Nat)(a0 a b:Array Keyed):Prop where
 sa:a.toList.Pairwise (kI kf)
 sb:b.toList.Pairwise (kI kf)
 ma:∀ x ∈ a.toList,x ∈ a0.toList
 mb:∀ x ∈ b.toList,x ∈ a0.toList
 na:0 < a.size
 nb:0 < b.size
 fst:∀ x y,b[0]?=some y->x ∈ a.toList->kf y < kf x
 lst:∀ x y,a[a.size - 1]?=some x->y ∈ b.toList->kf y < kf x
theorem bZ {a:Array Keyed}{i:Nat}(h:i < a.size):∃ x,a[i]?=some x/\x ∈ a.toList:=⟨a[i],Array.getElem?_eq_getElem h,by simp⟩
structure Kp (st st':SortSt):Prop where
 kd:kindOf st'=kindOf st
 ar:arrOf st'=arrOf st
 pe:pendingOf st'=pendingOf st
 fa:failedOf st'=failedOf st
theorem Kp.refl (st:SortSt):Kp st st:=⟨rfl,rfl,rfl,rfl⟩
noncomputable def wV (kf:Keyed->Nat)(a:Array Keyed)(lo n:Nat):Prop:=∀ i j x y,i<=j->j < n->a[lo + i]?=some x->a[lo + j]?=some y->kf x<=kf y
theorem jJ {kf:Keyed->Nat}{a:Array Keyed}{lo n:Nat}(h:a.toList.Pairwise (kI kf)):wV kf a lo n:=fun i j x y ij _ ex ey=>cB h ex ey (by omega)
theorem wJ {kf:Keyed->Nat}{a0 a:Array Keyed}{key:Keyed}{ia n:Nat}(sa:wV kf a ia n)(ma:∀ x ∈ a.toList,x ∈ a0.toList)(hk:key ∈ a0.toList)(h:ia + n<=a.size) :
  EK kf a0 false key a ia n (fun i=>match a[ia + i]? with | some x=>!decide (kf key < kf x) | none=>false):=by
 refine ⟨hk,fun i hi=>?_,fun i j ij jn=>?_⟩
 ·obtain ⟨x,e,m⟩:=bZ (a:=a) (i:=ia + i) (by omega)
  exact ⟨x,e,ma _ m,by rw [e];rfl⟩
 ·obtain ⟨x,e,m⟩:=bZ (a:=a) (i:=ia + i) (by omega)
  obtain ⟨y,e',m'⟩:=bZ (a:=a) (i:=ia + j) (by omega)
  have:=sa i j x y ij jn e e'
  rw [e,e']
  dsimp only
  intro z
  have z':¬ kf key < kf y:=fun w=>by rw [decide_eq_true w] at z;cases z
  rw [decide_eq_false (show ¬ kf key < kf x by omega)]
  rfl
theorem yX {kf:Keyed->Nat}{a0 a:Array Keyed}{key:Keyed}{ia n:Nat}(sa:wV kf a ia n)(ma:∀ x ∈ a.toList,x ∈ a0.toList)(hk:key ∈ a0.toList)(h:ia + n<=a.size) :
  EK kf a0 true key a ia n (fun i=>match a[ia + i]? with | some x=>decide (kf x < kf key) | none=>false):=by
 refine ⟨hk,fun i hi=>?_,fun i j ij jn=>?_⟩
 ·obtain ⟨x,e,m⟩:=bZ (a:=a) (i:=ia + i) (by omega)
  exact ⟨x,e,ma _ m,by rw [e];rfl⟩
 ·obtain ⟨x,e,m⟩:=bZ (a:=a) (i:=ia + i) (by omega)
  obtain ⟨y,e',m'⟩:=bZ (a:=a) (i:=ia + j) (by omega)
  have:=sa i j x y ij jn e e'
  rw [e,e']
  dsimp only
  intro z
  have z':kf y < kf key:=of_decide_eq_true z
  exact decide_eq_true (show kf x < kf key by omega)
section
variable {M:Model}{A:Around}{E:bA}{s:Shared}{kf:Keyed->Nat}{κ:SortKind}{a0:Array Keyed}
theorem fL {key:Keyed}{a:Array Keyed}{ia n hint:Nat}{st:SortSt}{Q:Option Nat->SortSt->Prop}(ask:jH M A E s kf κ a0)(hk:kindOf st=κ)(sa:wV kf a ia n)(ma:∀ x ∈ a.toList,x ∈ a0.toList)(hm:key ∈ a0.toList)(hn:ia + n<=a.size)(hh:hint < n)
  (h:∀ r,r<=n->(∀ i x,i < r->a[ia + i]?=some x->kf x<=kf key)->(∀ i x,r<=i->i < n->a[ia + i]?=some x->kf key < kf x)->Q (some r) st):wpS M A E s (gallop' false key a ia n hint) Q st:=by
 refine kY ask hk (wJ sa ma hm hn) hh fun r rn h1 h2=>h r rn (fun i x hi e=>?_) (fun i x hr hi e=>?_)
 ·have:=h1 i hi
  rw [e] at this
  dsimp only at this
  have:¬ kf key < kf x:=fun w=>by rw [decide_eq_true w] at this;cases this
  omega
 ·have:=h2 i hr hi
  rw [e] at this
  dsimp only at this
  have:¬ ¬ kf key < kf x:=fun w=>by rw [decide_eq_false w] at this;cases this
  omega
theorem dF {key:Keyed}{a:Array Keyed}{ia n hint:Nat}{st:SortSt}{Q:Option Nat->SortSt->Prop}(ask:jH M A E s kf κ a0)(hk:kindOf st=κ)(sa:wV kf a ia n)(ma:∀ x ∈ a.toList,x ∈ a0.toList)(hm:key ∈ a0.toList)(hn:ia + n<=a.size)(hh:hint < n)
  (h:∀ r,r<=n->(∀ i x,i < r->a[ia + i]?=some x->kf x < kf key)->(∀ i x,r<=i->i < n->a[ia + i]?=some x->kf key<=kf x)->Q (some r) st):wpS M A E s (gallop' true key a ia n hint) Q st:=by
 refine kY ask hk (yX sa ma hm hn) hh fun r rn h1 h2=>h r rn (fun i x hi e=>?_) (fun i x hr hi e=>?_)
 ·have:=h1 i hi
  rw [e] at this
  exact of_decide_eq_true this
 ·have:=h2 i hr hi
  rw [e] at this
  have:=of_decide_eq_false this
  omega
end
section
variable {M:Model}{A:Around}{E:bA}{s:Shared}{kf:Keyed->Nat}{κ:SortKind}{a0:Array Keyed}
structure w5 (kf:Keyed->Nat)(a b out:Array Keyed)(ia ib:Nat):Prop where
 hi:ia + 1 < a.size
 hb:ib < b.size
 g:iP kf (a.toList ++ b.toList) out.toList (a.toList.drop ia) (b.toList.drop ib)
theorem gU {a b out:Array Keyed}{ia ib:Nat}(e:ib=b.size)(g:iP kf (a.toList ++ b.toList) out.toList (a.toList.drop ia) (b.toList.drop ib)):dM kf (a.toList ++ b.toList) (out ++ a.extract ia ++ b.extract ib).toList:=by
 rw [Array.toList_append,Array.toList_append,jU,jU]
 have z:b.toList.drop ib=[]:=List.drop_of_length_le (by rw [Array.length_toList];omega)
 rw [z] at g ⊢
 rw [List.append_nil]
 exact g.finA
theorem CY {a b out:Array Keyed}{ia ib:Nat}(e:ia=a.size)(g:iP kf (a.toList ++ b.toList) out.toList (a.toList.drop ia) (b.toList.drop ib)):dM kf (a.toList ++ b.toList) (out ++ a.extract ia ++ b.extract ib).toList:=by
 rw [Array.toList_append,Array.toList_append,jU,jU]
 have z:a.toList.drop ia=[]:=List.drop_of_length_le (by rw [Array.length_toList];omega)
 rw [z] at g ⊢
 rw [List.append_nil]
 exact g.finB
theorem eZ {a b out:Array Keyed}{ia ib:Nat}(T:BF kf a0 a b)(e:ia + 1=a.size)(g:iP kf (a.toList ++ b.toList) out.toList (a.toList.drop ia) (b.toList.drop ib)):dM kf (a.toList ++ b.toList) (out ++ b.extract ib ++ a.extract ia).toList:=by
 rw [Array.toList_append,Array.toList_append,jU,jU]
 obtain ⟨x,ex,mx⟩:=bZ (a:=a) (i:=ia) (by omega)
 have z:a.toList.drop ia=[x]:=by rw [gW ex,List.drop_of_length_le (by rw [Array.length_toList];omega)]
 rw [z] at g ⊢
 exact g.finL fun y hy=>Nat.le_of_lt (T.lst x y (by rw [← e,Nat.add_sub_cancel];exact ex) (List.mem_of_mem_drop hy))
theorem lS {a b out:Array Keyed}{ia ib:Nat}{x y:Keyed}(T:BF kf a0 a b)(ex:a[ia]?=some x)(ey:b[ib]?=some y)(l:kf y<=kf x)(g:iP kf (a.toList ++ b.toList) out.toList (a.toList.drop ia) (b.toList.drop ib)):iP kf (a.toList ++ b.toList) (out.push y).toList (a.toList.drop ia) (b.toList.drop (ib + 1)):=by
 rw [kO]
 rw [gW ey] at g
 refine iP.b (p:=[y]) g fun z hz w hw=>?_
 rw [List.mem_singleton.mp hz]
 obtain ⟨j,ij,ej⟩:=eG hw
 exact Nat.le_trans l (cB T.sa ex ej ij)
theorem fQ {a b out:Array Keyed}{ia ib:Nat}{x y:Keyed}(T:BF kf a0 a b)(ex:a[ia]?=some x)(ey:b[ib]?=some y)(l:kf x<=kf y)(g:iP kf (a.toList ++ b.toList) out.toList (a.toList.drop ia) (b.toList.drop ib)):iP kf (a.toList ++ b.toList) (out.push x).toList (a.toList.drop (ia + 1)) (b.toList.drop ib):=by
 rw [kO]
 rw [gW ex] at g
 refine iP.a (p:=[x]) g fun z hz w hw=>?_
 rw [List.mem_singleton.mp hz]
 obtain ⟨j,ij,ej⟩:=eG hw
 exact Nat.le_trans l (cB T.sb ey ej ij)
theorem n5 {a:Array Keyed}{i k:Nat}:a.toList.drop i=(a.toList.drop i).take k ++ a.toList.drop (i + k):=by rw [← List.drop_drop,List.take_append_drop]
theorem v8 {a b out:Array Keyed}{ia ib k:Nat}{y:Keyed}(T:BF kf a0 a b)(ey:b[ib]?=some y)(l:∀ i x,i < k->a[ia + i]?=some x->kf x<=kf y)(g:iP kf (a.toList ++ b.toList) out.toList (a.toList.drop ia) (b.toList.drop ib)):iP kf (a.toList ++ b.toList) (out ++ a.extract ia (ia + k)).toList (a.toList.drop (ia + k)) (b.toList.drop ib):=by
 rw [Array.toList_append,pN]
 rw [n5 (k:=k)] at g
 refine g.a fun z hz w hw=>?_
 obtain ⟨i,hi,ei⟩:=eF hz
 obtain ⟨j,ij,ej⟩:=eG hw
 exact Nat.le_trans (l i z hi ei) (cB T.sb ey ej ij)
theorem nW {a b out:Array Keyed}{ia ib k:Nat}{x:Keyed}(T:BF kf a0 a b)(ex:a[ia]?=some x)(l:∀ i y,i < k->b[ib + i]?=some y->kf y<=kf x)(g:iP kf (a.toList ++ b.toList) out.toList (a.toList.drop ia) (b.toList.drop ib)):iP kf (a.toList ++ b.toList) (out ++ b.extract ib (ib + k)).toList (a.toList.drop ia) (b.toList.drop (ib + k)):=by
 rw [Array.toList_append,pN]
 rw [n5 (a:=b) (k:=k)] at g
 refine g.b fun z hz w hw=>?_
 obtain ⟨i,hi,ei⟩:=eF hz
 obtain ⟨j,ij,ej⟩:=eG hw
 exact Nat.le_trans (l i z hi ei) (cB T.sa ex ej ij)
theorem p8 {a b:Array Keyed}{st:SortSt}{Q:Array Keyed->SortSt->Prop}(ask:jH M A E s kf κ a0)(hk:kindOf st=κ)(T:BF kf a0 a b)(h:∀ r st',Kp st st'->dM kf (a.toList ++ b.toList) r.toList->Q r st'):wpS M A E s (yE a b) Q st:=by
 obtain ⟨b0,eb0,mb0⟩:=bZ T.nb
 refine d9 ?_
 refine wpS_bind (aJ eb0 ?_)
 dsimp only
 have g0:iP kf (a.toList ++ b.toList) (#[b0]:Array Keyed).toList (a.toList.drop 0) (b.toList.drop 1):=by
  have d:=gW eb0
  rw [List.drop_zero] at d
  have c:∀ x ∈ a.toList,kf b0<=kf x:=fun x hx=>Nat.le_of_lt (T.fst x b0 eb0 hx)
  refine ⟨List.pairwise_append.mpr ⟨List.pairwise_singleton _ _,by rw [List.drop_zero];exact T.sa,fun x hx y hy=>?_⟩,?_,?_⟩
  ·rw [List.mem_singleton.mp hx]
   exact c y (List.mem_of_mem_drop hy)
  ·have:=T.sb
   rw [d] at this
   exact this
  ·rw [List.drop_zero,d]
   exact (List.perm_middle (a:=b0) (l₁:=a.toList) (l₂:=b.toList.drop 1)).symm
 by_cases c1:1=b.size
 ·rw [if_pos (by simpa using c1)]
  exact wpS_pure (h _ _ (Kp.refl _) (gU c1 g0))
 rw [if_neg (by simpa using c1)]
 by_cases c2:0 + 1=a.size
 ·rw [if_pos (by simpa using c2)]
  exact wpS_pure (h _ _ (Kp.refl _) (eZ T c2 g0))
 rw [if_neg (by simpa using c2)]
 have na:=T.na
 have nb:=T.nb
 have m0:w5 kf a b #[b0] 0 1:=⟨by omega,by omega,g0⟩
 refine wpS_bind (wpS_get ?_)
 refine wpS_bind (wpS_mono (wpS_forRange (I:=fun x c st'=>Kp st st'/\∃ out ia ib mg,c=(none,out,ia,ib,mg)/\w5 kf a b out ia ib/\x + 1<=ia + ib)
  (Q:=fun c st'=>Kp st st'/\∃ r,c.1=some r/\dM kf (a.toList ++ b.toList) r.toList) ?_ ?_ ⟨Kp.refl _,_,_,_,_,rfl,m0,by omega⟩) ?_)
 ·rintro x c st1 _ xt ⟨k1,out,ia,ib,mg,rfl,m1,x1⟩
  dsimp only
  refine wpS_bind (wpS_mono (wpS_forRange (I:=fun y c st'=>st'=st1/\∃ out' ia' ib' ac bc,c=(none,out',ia',ib',ac,bc)/\w5 kf a b out' ia' ib'/\ia + ib + y<=ia' + ib')
   (Q:=fun c st'=>st'=st1/\((∃ r,c.1=some r/\dM kf (a.toList ++ b.toList) r.toList)∨∃ out' ia' ib' ac bc,c=(none,out',ia',ib',ac,bc)/\w5 kf a b out' ia' ib'/\ia + ib + 1<=ia' + ib')) ?_ ?_ ⟨rfl,_,_,_,_,_,rfl,m1,by omega⟩) ?_)
  ·rintro y c st2 _ yt ⟨rfl,out,ia,ib,ac,bc,rfl,m2,x2⟩
   dsimp only
   obtain ⟨eb,e1,me⟩:=bZ m2.hb
   obtain ⟨ea,e2,mf⟩:=bZ (show ia < a.size by have:=m2.hi;omega)
   refine wpS_bind (aJ e1 (wpS_bind (aJ e2 (wpS_bind (ask _ _ (T.mb _ me) (T.ma _ mf) _ _ (k1.kd.trans hk) ?_)))))
   dsimp only
   by_cases w:kf eb < kf ea
   ·rw [decide_eq_true w,if_pos rfl]
    refine wpS_bind (aJ e1 ?_)
    have g:=lS T e2 e1 (by omega) m2.g
    by_cases c3:ib + 1=b.size
    ·rw [if_pos (by simpa using c3)]
     exact wpS_pure ⟨rfl,.inl ⟨_,rfl,gU c3 g⟩⟩
    ·rw [if_neg (by simpa using c3)]
     have m3:w5 kf a b (out.push eb) ia (ib + 1):=⟨m2.hi,by have:=m2.hb;omega,g⟩
     split
     ·exact wpS_pure ⟨rfl,.inr ⟨_,_,_,_,_,rfl,m3,by omega⟩⟩
     ·exact wpS_pure ⟨rfl,_,_,_,_,_,rfl,m3,by omega⟩
   ·rw [decide_eq_false w,if_neg (by decide)]
    refine wpS_bind (aJ e2 ?_)
    have g:=fQ T e2 e1 (by omega) m2.g
    by_cases c3:ia + 1 + 1=a.size
    ·rw [if_pos (by simpa using c3)]
     exact wpS_pure ⟨rfl,.inl ⟨_,rfl,eZ T c3 g⟩⟩
    ·rw [if_neg (by simpa using c3)]
     have m3:w5 kf a b (out.push ea) (ia + 1) ib:=⟨by have:=m2.hi;omega,m2.hb,g⟩
     split
     ·exact wpS_pure ⟨rfl,.inr ⟨_,_,_,_,_,rfl,m3,by omega⟩⟩
     ·exact wpS_pure ⟨rfl,_,_,_,_,_,rfl,m3,by omega⟩
  ·rintro c st2 ⟨rfl,out,ia,ib,ac,bc,rfl,m2,x2⟩
   have:=m2.hi
   have:=m2.hb
   omega
  ·rintro c st2 ⟨rfl,⟨r,e,hr⟩ | ⟨out2,ia2,ib2,ac,bc,rfl,m2,x2⟩⟩
   ·obtain ⟨c1',c2'⟩:=c
    cases e
    exact wpS_pure ⟨k1,_,rfl,hr⟩
   ·dsimp only
    refine d9 ?_
    refine wpS_bind (wpS_mono (wpS_forRange (I:=fun y c st'=>Kp st st'/\∃ out' ia' ib' mg' ac bc,c=(none,out',ia',ib',mg',ac,bc)/\w5 kf a b out' ia' ib'/\ia2 + ib2 + y<=ia' + ib')
     (Q:=fun c st'=>Kp st st'/\((∃ r,c.1=some r/\dM kf (a.toList ++ b.toList) r.toList)∨∃ out' ia' ib' mg' ac bc,c=(none,out',ia',ib',mg',ac,bc)/\w5 kf a b out' ia' ib'/\ia2 + ib2<=ia' + ib')) ?_ ?_ ⟨k1,_,_,_,_,_,_,rfl,m2,by omega⟩) ?_)
    ·rintro y c st3 _ yt ⟨k3,out,ia,ib,mg',ac,bc,rfl,m3,x3⟩
     dsimp only
     obtain ⟨eb,e1,me⟩:=bZ m3.hb
     have hi3:=m3.hi
     have hb3:=m3.hb
     by_cases mgc:mg' > 1
     rw [if_pos mgc]
     rotate_left
     rw [if_neg mgc]
     all_goals
      refine wpS_bind (wpS_modify ?_)
      refine wpS_bind (aJ e1 (wpS_bind (fL ask (k3.kd.trans hk) (jJ T.sa) T.ma (T.mb _ me) (by omega) (by omega) fun k kn f1 f2=>?_)))
      dsimp only
      have gX:=v8 T e1 f1 m3.g
      by_cases k0:k > 0
      ·rw [if_pos k0]
       by_cases c4:ia + k + 1=a.size
       ·rw [if_pos (by simpa using c4)]
        exact wpS_pure ⟨⟨k3.kd,k3.ar,k3.pe,k3.fa⟩,.inl ⟨_,rfl,eZ T c4 gX⟩⟩
       rw [if_neg (by simpa using c4)]
       by_cases c5:ia + k=a.size
       ·rw [if_pos (by simpa using c5)]
        exact wpS_pure ⟨⟨k3.kd,k3.ar,k3.pe,k3.fa⟩,.inl ⟨_,rfl,CY c5 gX⟩⟩
       rw [if_neg (by simpa using c5)]
       have hX:ia + k + 1 < a.size:=by omega
       have fX:∀ x,a[ia + k]?=some x->kf eb < kf x:=fun x e=>f2 k x (Nat.le_refl _) (by omega) e
       have pX:ia2 + ib2 + y<=ia + k + ib:=by omega
       generalize out ++ a.extract ia (ia + k)=outX at gX ⊢
       generalize ia + k=iaX at gX hX fX pX ⊢
       obtain ⟨xa,ea,mxa⟩:=bZ (a:=a) (i:=iaX) (by omega)
       refine wpS_bind (aJ e1 ?_)
       have g1:=lS T ea e1 (Nat.le_of_lt (fX xa ea)) gX
       by_cases c6:ib + 1=b.size
       ·rw [if_pos (by simpa using c6)]
        exact wpS_pure ⟨⟨k3.kd,k3.ar,k3.pe,k3.fa⟩,.inl ⟨_,rfl,gU c6 g1⟩⟩
       rw [if_neg (by simpa using c6)]
       refine wpS_bind (aJ ea (wpS_bind (dF ask (k3.kd.trans hk) (jJ T.sb) T.mb (T.ma _ mxa) (by omega) (by omega) fun k2 kn2 q1 q2=>?_)))
       dsimp only
       have gY:=nW T ea (fun i y hi e=>Nat.le_of_lt (q1 i y hi e)) g1
       by_cases k20:k2 > 0
       ·rw [if_pos k20]
        by_cases c7:ib + 1 + k2=b.size
        ·rw [if_pos (by simpa using c7)]
         exact wpS_pure ⟨⟨k3.kd,k3.ar,k3.pe,k3.fa⟩,.inl ⟨_,rfl,gU c7 gY⟩⟩
        rw [if_neg (by simpa using c7)]
        have bY:ib + 1 + k2 < b.size:=by omega
        have lY:∀ y,b[ib + 1 + k2]?=some y->kf xa<=kf y:=fun y e=>q2 k2 y (Nat.le_refl _) (by omega) e
        have pY:ib + 1<=ib + 1 + k2:=by omega
        generalize outX.push eb ++ b.extract (ib + 1) (ib + 1 + k2)=outY at gY ⊢
        generalize ib + 1 + k2=ibX at gY bY lY pY ⊢
        have mY:iaX + 1 + 1=a.size∨¬ iaX + 1 + 1=a.size:=by omega
        obtain ⟨yb,eyb,myb⟩:=bZ (a:=b) (i:=ibX) (by omega)
        refine wpS_bind (aJ ea ?_)
        have g3:=fQ T ea eyb (lY yb eyb) gY
        rcases mY with c8 | c8
        ·rw [if_pos (by simpa using c8)]
         exact wpS_pure ⟨⟨k3.kd,k3.ar,k3.pe,k3.fa⟩,.inl ⟨_,rfl,eZ T c8 g3⟩⟩
        rw [if_neg (by simpa using c8)]
        have m9:w5 kf a b (outY.push xa) (iaX + 1) ibX:=⟨by omega,bY,g3⟩
        split
        ·exact wpS_pure ⟨⟨k3.kd,k3.ar,k3.pe,k3.fa⟩,.inr ⟨_,_,_,_,_,_,rfl,m9,by omega⟩⟩
        ·exact wpS_pure ⟨⟨k3.kd,k3.ar,k3.pe,k3.fa⟩,_,_,_,_,_,_,rfl,m9,by omega⟩
       ·rw [if_neg k20]
        have bY:ib + 1 < b.size:=by omega
        have lY:∀ y,b[ib + 1]?=some y->kf xa<=kf y:=fun y e=>q2 0 y (by omega) (by omega) e
        have pY:ib + 1<=ib + 1:=Nat.le_refl _
        have gY:=g1
        generalize outX.push eb=outY at gY ⊢
        generalize hz:ib + 1=ibX at gY bY lY pY ⊢
        have mY:iaX + 1 + 1=a.size∨¬ iaX + 1 + 1=a.size:=by omega
        obtain ⟨yb,eyb,myb⟩:=bZ (a:=b) (i:=ibX) (by omega)
        refine wpS_bind (aJ ea ?_)
        have g3:=fQ T ea eyb (lY yb eyb) gY
        rcases mY with c8 | c8
        ·rw [if_pos (by simpa using c8)]
         exact wpS_pure ⟨⟨k3.kd,k3.ar,k3.pe,k3.fa⟩,.inl ⟨_,rfl,eZ T c8 g3⟩⟩
        rw [if_neg (by simpa using c8)]
        have m9:w5 kf a b (outY.push xa) (iaX + 1) ibX:=⟨by omega,bY,g3⟩
        split
        ·exact wpS_pure ⟨⟨k3.kd,k3.ar,k3.pe,k3.fa⟩,.inr ⟨_,_,_,_,_,_,rfl,m9,by omega⟩⟩
        ·exact wpS_pure ⟨⟨k3.kd,k3.ar,k3.pe,k3.fa⟩,_,_,_,_,_,_,rfl,m9,by omega⟩
      ·rw [if_neg k0]
       have hX:ia + 1 < a.size:=hi3
       have fX:∀ x,a[ia]?=some x->kf eb < kf x:=fun x e=>f2 0 x (by omega) (by omega) e
       have pX:ia2 + ib2 + y<=ia + ib:=x3
       have gX:=m3.g
       generalize out=outX at gX ⊢
       generalize ia=iaX at gX hX fX pX ⊢
       obtain ⟨xa,ea,mxa⟩:=bZ (a:=a) (i:=iaX) (by omega)
       refine wpS_bind (aJ e1 ?_)
       have g1:=lS T ea e1 (Nat.le_of_lt (fX xa ea)) gX
       by_cases c6:ib + 1=b.size
       ·rw [if_pos (by simpa using c6)]
        exact wpS_pure ⟨⟨k3.kd,k3.ar,k3.pe,k3.fa⟩,.inl ⟨_,rfl,gU c6 g1⟩⟩
       rw [if_neg (by simpa using c6)]
       refine wpS_bind (aJ ea (wpS_bind (dF ask (k3.kd.trans hk) (jJ T.sb) T.mb (T.ma _ mxa) (by omega) (by omega) fun k2 kn2 q1 q2=>?_)))
       dsimp only
       have gY:=nW T ea (fun i y hi e=>Nat.le_of_lt (q1 i y hi e)) g1
       by_cases k20:k2 > 0
       ·rw [if_pos k20]
        by_cases c7:ib + 1 + k2=b.size
        ·rw [if_pos (by simpa using c7)]
         exact wpS_pure ⟨⟨k3.kd,k3.ar,k3.pe,k3.fa⟩,.inl ⟨_,rfl,gU c7 gY⟩⟩
        rw [if_neg (by simpa using c7)]
        have bY:ib + 1 + k2 < b.size:=by omega
        have lY:∀ y,b[ib + 1 + k2]?=some y->kf xa<=kf y:=fun y e=>q2 k2 y (Nat.le_refl _) (by omega) e
        have pY:ib + 1<=ib + 1 + k2:=by omega
        generalize outX.push eb ++ b.extract (ib + 1) (ib + 1 + k2)=outY at gY ⊢
        generalize ib + 1 + k2=ibX at gY bY lY pY ⊢
        have mY:iaX + 1 + 1=a.size∨¬ iaX + 1 + 1=a.size:=by omega
        obtain ⟨yb,eyb,myb⟩:=bZ (a:=b) (i:=ibX) (by omega)
        refine wpS_bind (aJ ea ?_)
        have g3:=fQ T ea eyb (lY yb eyb) gY
        rcases mY with c8 | c8
        ·rw [if_pos (by simpa using c8)]
         exact wpS_pure ⟨⟨k3.kd,k3.ar,k3.pe,k3.fa⟩,.inl ⟨_,rfl,eZ T c8 g3⟩⟩
        rw [if_neg (by simpa using c8)]
        have m9:w5 kf a b (outY.push xa) (iaX + 1) ibX:=⟨by omega,bY,g3⟩
        split
        ·exact wpS_pure ⟨⟨k3.kd,k3.ar,k3.pe,k3.fa⟩,.inr ⟨_,_,_,_,_,_,rfl,m9,by omega⟩⟩
        ·exact wpS_pure ⟨⟨k3.kd,k3.ar,k3.pe,k3.fa⟩,_,_,_,_,_,_,rfl,m9,by omega⟩
       ·rw [if_neg k20]
        have bY:ib + 1 < b.size:=by omega
        have lY:∀ y,b[ib + 1]?=some y->kf xa<=kf y:=fun y e=>q2 0 y (by omega) (by omega) e
        have pY:ib + 1<=ib + 1:=Nat.le_refl _
        have gY:=g1
        generalize outX.push eb=outY at gY ⊢
        generalize hz:ib + 1=ibX at gY bY lY pY ⊢
        have mY:iaX + 1 + 1=a.size∨¬ iaX + 1 + 1=a.size:=by omega
        obtain ⟨yb,eyb,myb⟩:=bZ (a:=b) (i:=ibX) (by omega)
        refine wpS_bind (aJ ea ?_)
        have g3:=fQ T ea eyb (lY yb eyb) gY
        rcases mY with c8 | c8
        ·rw [if_pos (by simpa using c8)]
         exact wpS_pure ⟨⟨k3.kd,k3.ar,k3.pe,k3.fa⟩,.inl ⟨_,rfl,eZ T c8 g3⟩⟩
        rw [if_neg (by simpa using c8)]
        have m9:w5 kf a b (outY.push xa) (iaX + 1) ibX:=⟨by omega,bY,g3⟩
        split
        ·exact wpS_pure ⟨⟨k3.kd,k3.ar,k3.pe,k3.fa⟩,.inr ⟨_,_,_,_,_,_,rfl,m9,by omega⟩⟩
        ·exact wpS_pure ⟨⟨k3.kd,k3.ar,k3.pe,k3.fa⟩,_,_,_,_,_,_,rfl,m9,by omega⟩
    ·rintro c st3 ⟨k3,out,ia,ib,mg',ac,bc,rfl,m3,x3⟩
     have:=m3.hi
     have:=m3.hb
     omega
    ·rintro c st3 ⟨k3,⟨r,e,hr⟩ | ⟨out3,ia3,ib3,mg3,ac,bc,rfl,m3,x3⟩⟩
     ·obtain ⟨c1',c2'⟩:=c
      cases e
      exact wpS_pure ⟨k3,_,rfl,hr⟩
     ·dsimp only
      exact wpS_bind (wpS_modify (wpS_pure ⟨⟨k3.kd,k3.ar,k3.pe,k3.fa⟩,_,_,_,_,rfl,m3,by omega⟩))
 ·rintro c st' ⟨k,out,ia,ib,mg,rfl,m,x1⟩
  have:=m.hi
  have:=m.hb
  omega
 ·rintro c st' ⟨k,r,e,hr⟩
  rw [e]
  exact wpS_pure (h _ _ k hr)
end
structure pW (kf:Keyed->Nat)(all out ra rb:List Keyed):Prop where
 pa:(ra ++ out).Pairwise (kI kf)
 pb:(rb ++ out).Pairwise (kI kf)
 pm:((ra ++ rb) ++ out).Perm all
section
variable {kf:Keyed->Nat}{all out ra rb p:List Keyed}
theorem pW.a (h:pW kf all out (ra ++ p) rb)(hp:∀ x ∈ p,∀ y ∈ rb,kf y<=kf x):pW kf all (p ++ out) ra rb:=by
 obtain ⟨h1,h2,h3⟩:=h
 rw [List.append_assoc] at h1
 refine ⟨h1,?_,?_⟩
 ·have c:=List.pairwise_append.mp h2
  refine List.pairwise_append.mpr ⟨c.1,(List.pairwise_append.mp h1).2.1,fun y hy x hx=>?_⟩
  rcases List.mem_append.mp hx with z | z
  ·exact hp x z y hy
  ·exact c.2.2 y hy x z
 ·refine List.Perm.trans ?_ h3
  rw [← List.append_assoc,List.append_assoc ra rb p,List.append_assoc ra p rb]
  exact (List.perm_append_comm.append_left ra).append_right out
theorem pW.swap (h:pW kf all out ra rb):pW kf all out rb ra:=⟨h.pb,h.pa,((List.perm_append_comm).append_right out).trans h.pm⟩
theorem pW.b (h:pW kf all out ra (rb ++ p))(hp:∀ x ∈ p,∀ y ∈ ra,kf y<=kf x):pW kf all (p ++ out) ra rb:=(h.swap.a hp).swap
theorem pW.finA (h:pW kf all out ra []):dM kf all (ra ++ out):=⟨by have:=h.pm;rwa [List.append_nil] at this,h.pa⟩
theorem pW.finB (h:pW kf all out [] rb):dM kf all (rb ++ out):=h.swap.finA
theorem pW.finF {y:Keyed}(h:pW kf all out ra [y])(hy:∀ x ∈ ra,kf y<=kf x):dM kf all ([y] ++ (ra ++ out)):=by
 have g:pW kf all out ([] ++ ra) [y]:=h
 exact (g.a fun x hx z hz=>by rw [List.mem_singleton.mp hz];exact hy x hx).finB
theorem gG {a:Array Keyed}{n:Nat}{x:Keyed}(h:a[n]?=some x):a.toList.take (n + 1)=a.toList.take n ++ [x]:=by
 rw [List.take_add_one,Array.getElem?_toList,h]
 rfl
theorem jV {a:Array Keyed}{n:Nat}:(a.extract 0 n).toList=a.toList.take n:=by
 rw [Array.toList_extract,List.extract,List.drop_zero,Nat.sub_zero]
theorem i0 {a:Array Keyed}{n:Nat}{y:Keyed}(h:y ∈ a.toList.take n):∃ j,j < n/\a[j]?=some y:=by
 obtain ⟨j,lt,e⟩:=eF (a:=a) (i:=0) (k:=n) (by rw [List.drop_zero];exact h)
 rw [Nat.zero_add] at e
 exact ⟨j,lt,e⟩
theorem nH {a:Array Keyed}{i n:Nat}(h:i<=n):a.toList.take n=a.toList.take i ++ (a.extract i n).toList:=by
 have e:n=i + (n - i):=by omega
 conv=>lhs;rw [e,List.take_add]
 rw [Array.toList_extract]
theorem uR {a:Array Keyed}{i n:Nat}{y:Keyed}(h:y ∈ (a.extract i n).toList):∃ j,i<=j/\j < n/\a[j]?=some y:=by
 rw [Array.toList_extract,List.extract] at h
 obtain ⟨j,lt,e⟩:=eF h
 exact ⟨i + j,by omega,by omega,e⟩
end
section
variable {M:Model}{A:Around}{E:bA}{s:Shared}{kf:Keyed->Nat}{κ:SortKind}{a0:Array Keyed}
noncomputable abbrev kL (kf:Keyed->Nat)(a b out:Array Keyed)(na nb:Nat):Prop:=pW kf (a.toList ++ b.toList) out.toList.reverse (a.toList.take na) (b.toList.take nb)
structure w6 (kf:Keyed->Nat)(a b out:Array Keyed)(na nb:Nat):Prop where
 a1:1<=na
 a2:na<=a.size
 b1:2<=nb
 b2:nb<=b.size
 g:kL kf a b out na nb
theorem fA {a b out:Array Keyed}{na nb:Nat}(e:na=0)(g:kL kf a b out na nb):dM kf (a.toList ++ b.toList) (a.extract 0 na ++ b.extract 0 nb ++ out.reverse).toList:=by
 subst e
 rw [Array.toList_append,Array.toList_append,jV,jV,Array.toList_reverse]
 exact g.finB
theorem yR {a b out:Array Keyed}{na nb:Nat}(e:nb=0)(g:kL kf a b out na nb):dM kf (a.toList ++ b.toList) (a.extract 0 na ++ b.extract 0 nb ++ out.reverse).toList:=by
 subst e
 rw [Array.toList_append,Array.toList_append,jV,jV,Array.toList_reverse,List.take_zero,List.append_nil]
 exact g.finA
theorem eT {a b out:Array Keyed}{na nb:Nat}(T:BF kf a0 a b)(e:nb=1)(g:kL kf a b out na nb):dM kf (a.toList ++ b.toList) (b.extract 0 nb ++ a.extract 0 na ++ out.reverse).toList:=by
 subst e
 obtain ⟨y,ey,my⟩:=bZ T.nb
 have z:b.toList.take 1=[y]:=by rw [show 1=0 + 1 from rfl,gG ey,List.take_zero];rfl
 unfold kL at g
 rw [z] at g
 rw [Array.toList_append,Array.toList_append,jV,jV,Array.toList_reverse,z,List.append_assoc]
 exact g.finF fun x hx=>Nat.le_of_lt (T.fst x y ey (List.mem_of_mem_take hx))
theorem fT {a b out:Array Keyed}{na nb:Nat}{x:Keyed}(ex:a[na]?=some x)(l:∀ j y,j < nb->b[j]?=some y->kf y<=kf x)(g:kL kf a b out (na + 1) nb):kL kf a b (out.push x) na nb:=by
 unfold kL at g ⊢
 rw [kO,List.reverse_append]
 rw [gG ex] at g
 refine pW.a (p:=[x]) g fun z hz w hw=>?_
 rw [List.mem_singleton.mp hz]
 obtain ⟨j,lt,ej⟩:=i0 hw
 exact l j w lt ej
theorem l0 {a b out:Array Keyed}{na nb:Nat}{y:Keyed}(ey:b[nb]?=some y)(l:∀ j x,j < na->a[j]?=some x->kf x<=kf y)(g:kL kf a b out na (nb + 1)):kL kf a b (out.push y) na nb:=by
 unfold kL at g ⊢
 rw [kO,List.reverse_append]
 rw [gG ey] at g
 refine pW.b (p:=[y]) g fun z hz w hw=>?_
 rw [List.mem_singleton.mp hz]
 obtain ⟨j,lt,ej⟩:=i0 hw
 exact l j w lt ej
theorem wG {a b out:Array Keyed}{i na nb:Nat}(hi:i<=na)(l:∀ k x,i<=k->k < na->a[k]?=some x->∀ j y,j < nb->b[j]?=some y->kf y<=kf x)(g:kL kf a b out na nb):kL kf a b (out ++ (a.extract i na).reverse) i nb:=by
 unfold kL at g ⊢
 rw [Array.toList_append,List.reverse_append,Array.toList_reverse,List.reverse_reverse]
 rw [nH hi] at g
 refine g.a fun z hz w hw=>?_
 obtain ⟨k,ik,kn,ek⟩:=uR hz
 obtain ⟨j,lt,ej⟩:=i0 hw
 exact l k z ik kn ek j w lt ej
theorem nZ {a b out:Array Keyed}{i na nb:Nat}(hi:i<=nb)(l:∀ k y,i<=k->k < nb->b[k]?=some y->∀ j x,j < na->a[j]?=some x->kf x<=kf y)(g:kL kf a b out na nb):kL kf a b (out ++ (b.extract i nb).reverse) na i:=by
 unfold kL at g ⊢
 rw [Array.toList_append,List.reverse_append,Array.toList_reverse,List.reverse_reverse]
 rw [nH hi] at g
 refine g.b fun z hz w hw=>?_
 obtain ⟨k,ik,kn,ek⟩:=uR hz
 obtain ⟨j,lt,ej⟩:=i0 hw
 exact l k z ik kn ek j w lt ej
theorem qA {a b:Array Keyed}{st:SortSt}{Q:Array Keyed->SortSt->Prop}(ask:jH M A E s kf κ a0)(hk:kindOf st=κ)(T:BF kf a0 a b)(h:∀ r st',Kp st st'->dM kf (a.toList ++ b.toList) r.toList->Q r st'):wpS M A E s (yF a b) Q st:=by
 have na0:=T.na
 have nb0:=T.nb
 obtain ⟨al,eal,mal⟩:=bZ (a:=a) (i:=a.size - 1) (by omega)
 refine d9 ?_
 refine wpS_bind (aJ eal ?_)
 have g0:kL kf a b #[al] (a.size - 1) b.size:=by
  have ta:a.toList.take (a.size - 1) ++ [al]=a.toList:=by rw [← gG eal];exact List.take_of_length_le (by rw [Array.length_toList];omega)
  have tb:b.toList.take b.size=b.toList:=List.take_of_length_le (by rw [Array.length_toList];omega)
  refine ⟨?_,?_,?_⟩
  ·show (a.toList.take (a.size - 1) ++ [al]).Pairwise _
   rw [ta]
   exact T.sa
  ·rw [tb]
   refine List.pairwise_append.mpr ⟨T.sb,List.pairwise_singleton _ _,fun y hy x hx=>?_⟩
   rw [List.mem_singleton.mp hx]
   exact Nat.le_of_lt (T.lst al y eal hy)
  ·rw [tb]
   show ((a.toList.take (a.size - 1) ++ b.toList) ++ [al]).Perm _
   conv=>rhs;rw [← ta]
   rw [List.append_assoc,List.append_assoc]
   exact List.perm_append_comm.append_left _
 by_cases c1:a.size - 1=0
 ·rw [if_pos (by simpa using c1)]
  exact wpS_pure (h _ _ (Kp.refl _) (fA c1 g0))
 rw [if_neg (by simpa using c1)]
 by_cases c2:b.size=1
 ·rw [if_pos (by simpa using c2)]
  exact wpS_pure (h _ _ (Kp.refl _) (eT T c2 g0))
 rw [if_neg (by simpa using c2)]
 have m0:w6 kf a b #[al] (a.size - 1) b.size:=⟨by omega,by omega,by omega,by omega,g0⟩
 refine wpS_bind (wpS_get ?_)
 refine wpS_bind (wpS_mono (wpS_forRange (I:=fun x c st'=>Kp st st'/\∃ na nb out mg,c=(none,na,nb,out,mg)/\w6 kf a b out na nb/\na + nb + x + 1<=a.size + b.size)
  (Q:=fun c st'=>Kp st st'/\∃ r,c.1=some r/\dM kf (a.toList ++ b.toList) r.toList) ?_ ?_ ⟨Kp.refl _,_,_,_,_,rfl,m0,by omega⟩) ?_)
 ·rintro x c st1 _ xt ⟨k1,na,nb,out,mg,rfl,m1,x1⟩
  dsimp only
  refine wpS_bind (wpS_mono (wpS_forRange (I:=fun y c st'=>st'=st1/\∃ na' nb' out' ac bc,c=(none,na',nb',out',ac,bc)/\w6 kf a b out' na' nb'/\na' + nb' + y<=na + nb)
   (Q:=fun c st'=>st'=st1/\((∃ r,c.1=some r/\dM kf (a.toList ++ b.toList) r.toList)∨∃ na' nb' out' ac bc,c=(none,na',nb',out',ac,bc)/\w6 kf a b out' na' nb'/\na' + nb' + 1<=na + nb)) ?_ ?_ ⟨rfl,_,_,_,_,_,rfl,m1,by omega⟩) ?_)
  ·rintro y c st2 _ yt ⟨rfl,na,nb,out,ac,bc,rfl,m2,x2⟩
   dsimp only
   obtain ⟨i1,i2,i3,i4,ig⟩:=m2
   obtain ⟨eb,e1,me⟩:=bZ (a:=b) (i:=nb - 1) (by omega)
   obtain ⟨ea,e2,mf⟩:=bZ (a:=a) (i:=na - 1) (by omega)
   refine wpS_bind (aJ e1 (wpS_bind (aJ e2 (wpS_bind (ask _ _ (T.mb _ me) (T.ma _ mf) _ _ (k1.kd.trans hk) ?_)))))
   dsimp only
   have ig':kL kf a b out (na - 1 + 1) (nb - 1 + 1):=by rw [Nat.sub_add_cancel i1,Nat.sub_add_cancel (show 1<=nb by omega)];exact ig
   by_cases w:kf eb < kf ea
   ·rw [decide_eq_true w,if_pos rfl]
    refine wpS_bind (aJ e2 ?_)
    have g:=fT e2 (fun j y jl ej=>Nat.le_trans (cB T.sb ej e1 (by omega)) (by omega)) ig'
    rw [Nat.sub_add_cancel (show 1<=nb by omega)] at g
    by_cases c3:na - 1=0
    ·rw [if_pos (by simpa using c3)]
     exact wpS_pure ⟨rfl,.inl ⟨_,rfl,fA c3 g⟩⟩
    ·rw [if_neg (by simpa using c3)]
     have m3:w6 kf a b (out.push ea) (na - 1) nb:=⟨by omega,by omega,i3,i4,g⟩
     split
     ·exact wpS_pure ⟨rfl,.inr ⟨_,_,_,_,_,rfl,m3,by omega⟩⟩
     ·exact wpS_pure ⟨rfl,_,_,_,_,_,rfl,m3,by omega⟩
   ·rw [decide_eq_false w,if_neg (by decide)]
    refine wpS_bind (aJ e1 ?_)
    have g:=l0 e1 (fun j x jl ej=>Nat.le_trans (cB T.sa ej e2 (by omega)) (by omega)) ig'
    rw [Nat.sub_add_cancel i1] at g
    by_cases c3:nb - 1=1
    ·rw [if_pos (by simpa using c3)]
     exact wpS_pure ⟨rfl,.inl ⟨_,rfl,eT T c3 g⟩⟩
    ·rw [if_neg (by simpa using c3)]
     have m3:w6 kf a b (out.push eb) na (nb - 1):=⟨i1,i2,by omega,by omega,g⟩
     split
     ·exact wpS_pure ⟨rfl,.inr ⟨_,_,_,_,_,rfl,m3,by omega⟩⟩
     ·exact wpS_pure ⟨rfl,_,_,_,_,_,rfl,m3,by omega⟩
  ·rintro c st2 ⟨rfl,na',nb',out',ac,bc,rfl,m2,x2⟩
   have:=m2.a1
   omega
  ·rintro c st2 ⟨rfl,⟨r,e,hr⟩ | ⟨na2,nb2,out2,ac,bc,rfl,m2,x2⟩⟩
   ·obtain ⟨c1',c2'⟩:=c
    cases e
    exact wpS_pure ⟨k1,_,rfl,hr⟩
   ·dsimp only
    refine d9 ?_
    refine wpS_bind (wpS_mono (wpS_forRange (I:=fun y c st'=>Kp st st'/\∃ na' nb' out' mg' ac bc,c=(none,na',nb',out',mg',ac,bc)/\w6 kf a b out' na' nb'/\na' + nb' + y<=na2 + nb2)
     (Q:=fun c st'=>Kp st st'/\((∃ r,c.1=some r/\dM kf (a.toList ++ b.toList) r.toList)∨∃ na' nb' out' mg' ac bc,c=(none,na',nb',out',mg',ac,bc)/\w6 kf a b out' na' nb'/\na' + nb'<=na2 + nb2)) ?_ ?_ ⟨k1,_,_,_,_,_,_,rfl,m2,by omega⟩) ?_)
    ·rintro y c st3 _ yt ⟨k3,na,nb,out,mg',ac,bc,rfl,m3,x3⟩
     dsimp only
     obtain ⟨i1,i2,i3,i4,ig⟩:=m3
     obtain ⟨eb,e1,me⟩:=bZ (a:=b) (i:=nb - 1) (by omega)
     have kp:∀ g,Kp st (SortSt.mk' (kindOf st3) (arrOf st3) (pendingOf st3) g (failedOf st3)):=fun g=>⟨k3.kd,k3.ar,k3.pe,k3.fa⟩
     by_cases mgc:mg' > 1
     rw [if_pos mgc]
     rotate_left
     rw [if_neg mgc]
     all_goals
      refine wpS_bind (wpS_modify ?_)
      refine wpS_bind (aJ e1 (wpS_bind (fL ask (k3.kd.trans hk) (jJ T.sa) T.ma (T.mb _ me) (by omega) (by omega) fun at_ an f1 f2=>?_)))
      dsimp only
      simp only [Nat.zero_add] at f1 f2
      have gX:=wG an (fun k x ik kn ek j y jl ej=>Nat.le_trans (cB T.sb ej e1 (by omega)) (Nat.le_of_lt (f2 k x ik kn ek))) ig
      by_cases k0:na - at_ > 0
      ·rw [if_pos k0]
       by_cases c4:at_=0
       ·rw [if_pos (by simpa using c4)]
        exact wpS_pure ⟨kp _,.inl ⟨_,rfl,fA c4 gX⟩⟩
       rw [if_neg (by simpa using c4)]
       have hX:1<=at_:=by omega
       have hX2:at_<=a.size:=by omega
       have fX:∀ j x,j < at_->a[j]?=some x->kf x<=kf eb:=f1
       have pX:at_ + nb + y<=na2 + nb2:=by omega
       generalize out ++ (a.extract at_ na).reverse=outX at gX ⊢
       generalize at_=naX at gX hX hX2 fX pX ⊢
       refine wpS_bind (aJ e1 ?_)
       have gX':kL kf a b outX naX (nb - 1 + 1):=by rw [Nat.sub_add_cancel (show 1<=nb by omega)];exact gX
       have g1:=l0 e1 fX gX'
       by_cases c6:nb - 1=1
       ·rw [if_pos (by simpa using c6)]
        exact wpS_pure ⟨kp _,.inl ⟨_,rfl,eT T c6 g1⟩⟩
       rw [if_neg (by simpa using c6)]
       obtain ⟨xa,ea,mxa⟩:=bZ (a:=a) (i:=naX - 1) (by omega)
       refine wpS_bind (aJ ea (wpS_bind (dF ask (k3.kd.trans hk) (jJ T.sb) T.mb (T.ma _ mxa) (by omega) (by omega) fun bt bn q1 q2=>?_)))
       dsimp only
       simp only [Nat.zero_add] at q1 q2
       have gY:=nZ bn (fun k y ik kn ek j x jl ej=>Nat.le_trans (cB T.sa ej ea (by omega)) (q2 k y ik kn ek)) g1
       by_cases k20:nb - 1 - bt > 0
       ·rw [if_pos k20]
        by_cases c7:bt=1
        ·rw [if_pos (by simpa using c7)]
         exact wpS_pure ⟨kp _,.inl ⟨_,rfl,eT T c7 gY⟩⟩
        rw [if_neg (by simpa using c7)]
        by_cases c9:bt=0
        ·rw [if_pos (by simpa using c9)]
         exact wpS_pure ⟨kp _,.inl ⟨_,rfl,yR c9 gY⟩⟩
        rw [if_neg (by simpa using c9)]
        have bY:2<=bt:=by omega
        have bY2:bt + 1<=nb:=by omega
        have lY:∀ j y,j < bt->b[j]?=some y->kf y<=kf xa:=fun j y jl e=>Nat.le_of_lt (q1 j y jl e)
        generalize outX.push eb ++ (b.extract bt (nb - 1)).reverse=outY at gY ⊢
        generalize bt=nbX at gY bY bY2 lY ⊢
        refine wpS_bind (aJ ea ?_)
        have gY':kL kf a b outY (naX - 1 + 1) nbX:=by rw [Nat.sub_add_cancel hX];exact gY
        have g3:=fT ea lY gY'
        by_cases c8:naX - 1=0
        ·rw [if_pos (by simpa using c8)]
         exact wpS_pure ⟨kp _,.inl ⟨_,rfl,fA c8 g3⟩⟩
        rw [if_neg (by simpa using c8)]
        have m9:w6 kf a b (outY.push xa) (naX - 1) nbX:=⟨by omega,by omega,bY,by omega,g3⟩
        split
        ·exact wpS_pure ⟨kp _,.inr ⟨_,_,_,_,_,_,rfl,m9,by omega⟩⟩
        ·exact wpS_pure ⟨kp _,_,_,_,_,_,_,rfl,m9,by omega⟩
       ·rw [if_neg k20]
        have e0:bt=nb - 1:=by omega
        subst e0
        have bY:2<=nb - 1:=by omega
        have bY2:nb - 1 + 1<=nb:=by omega
        have lY:∀ j y,j < nb - 1->b[j]?=some y->kf y<=kf xa:=fun j y jl e=>Nat.le_of_lt (q1 j y jl e)
        have gY:=g1
        generalize outX.push eb=outY at gY ⊢
        generalize hz:nb - 1=nbX at gY bY bY2 lY ⊢
        refine wpS_bind (aJ ea ?_)
        have gY':kL kf a b outY (naX - 1 + 1) nbX:=by rw [Nat.sub_add_cancel hX];exact gY
        have g3:=fT ea lY gY'
        by_cases c8:naX - 1=0
        ·rw [if_pos (by simpa using c8)]
         exact wpS_pure ⟨kp _,.inl ⟨_,rfl,fA c8 g3⟩⟩
        rw [if_neg (by simpa using c8)]
        have m9:w6 kf a b (outY.push xa) (naX - 1) nbX:=⟨by omega,by omega,bY,by omega,g3⟩
        split
        ·exact wpS_pure ⟨kp _,.inr ⟨_,_,_,_,_,_,rfl,m9,by omega⟩⟩
        ·exact wpS_pure ⟨kp _,_,_,_,_,_,_,rfl,m9,by omega⟩
      ·rw [if_neg k0]
       have e0:at_=na:=by omega
       subst e0
       have hX:1<=at_:=i1
       have hX2:at_<=a.size:=i2
       have fX:∀ j x,j < at_->a[j]?=some x->kf x<=kf eb:=f1
       have pX:at_ + nb + y<=na2 + nb2:=x3
       have gX:=ig
       generalize out=outX at gX ⊢
       generalize at_=naX at gX hX hX2 fX pX ⊢
       refine wpS_bind (aJ e1 ?_)
       have gX':kL kf a b outX naX (nb - 1 + 1):=by rw [Nat.sub_add_cancel (show 1<=nb by omega)];exact gX
       have g1:=l0 e1 fX gX'
       by_cases c6:nb - 1=1
       ·rw [if_pos (by simpa using c6)]
        exact wpS_pure ⟨kp _,.inl ⟨_,rfl,eT T c6 g1⟩⟩
       rw [if_neg (by simpa using c6)]
       obtain ⟨xa,ea,mxa⟩:=bZ (a:=a) (i:=naX - 1) (by omega)
       refine wpS_bind (aJ ea (wpS_bind (dF ask (k3.kd.trans hk) (jJ T.sb) T.mb (T.ma _ mxa) (by omega) (by omega) fun bt bn q1 q2=>?_)))
       dsimp only
       simp only [Nat.zero_add] at q1 q2
       have gY:=nZ bn (fun k y ik kn ek j x jl ej=>Nat.le_trans (cB T.sa ej ea (by omega)) (q2 k y ik kn ek)) g1
       by_cases k20:nb - 1 - bt > 0
       ·rw [if_pos k20]
        by_cases c7:bt=1
        ·rw [if_pos (by simpa using c7)]
         exact wpS_pure ⟨kp _,.inl ⟨_,rfl,eT T c7 gY⟩⟩
        rw [if_neg (by simpa using c7)]
        by_cases c9:bt=0
        ·rw [if_pos (by simpa using c9)]
         exact wpS_pure ⟨kp _,.inl ⟨_,rfl,yR c9 gY⟩⟩
        rw [if_neg (by simpa using c9)]
        have bY:2<=bt:=by omega
        have bY2:bt + 1<=nb:=by omega
        have lY:∀ j y,j < bt->b[j]?=some y->kf y<=kf xa:=fun j y jl e=>Nat.le_of_lt (q1 j y jl e)
        generalize outX.push eb ++ (b.extract bt (nb - 1)).reverse=outY at gY ⊢
        generalize bt=nbX at gY bY bY2 lY ⊢
        refine wpS_bind (aJ ea ?_)
        have gY':kL kf a b outY (naX - 1 + 1) nbX:=by rw [Nat.sub_add_cancel hX];exact gY
        have g3:=fT ea lY gY'
        by_cases c8:naX - 1=0
        ·rw [if_pos (by simpa using c8)]
         exact wpS_pure ⟨kp _,.inl ⟨_,rfl,fA c8 g3⟩⟩
        rw [if_neg (by simpa using c8)]
        have m9:w6 kf a b (outY.push xa) (naX - 1) nbX:=⟨by omega,by omega,bY,by omega,g3⟩
        split
        ·exact wpS_pure ⟨kp _,.inr ⟨_,_,_,_,_,_,rfl,m9,by omega⟩⟩
        ·exact wpS_pure ⟨kp _,_,_,_,_,_,_,rfl,m9,by omega⟩
       ·rw [if_neg k20]
        have e0:bt=nb - 1:=by omega
        subst e0
        have bY:2<=nb - 1:=by omega
        have bY2:nb - 1 + 1<=nb:=by omega
        have lY:∀ j y,j < nb - 1->b[j]?=some y->kf y<=kf xa:=fun j y jl e=>Nat.le_of_lt (q1 j y jl e)
        have gY:=g1
        generalize outX.push eb=outY at gY ⊢
        generalize hz:nb - 1=nbX at gY bY bY2 lY ⊢
        refine wpS_bind (aJ ea ?_)
        have gY':kL kf a b outY (naX - 1 + 1) nbX:=by rw [Nat.sub_add_cancel hX];exact gY
        have g3:=fT ea lY gY'
        by_cases c8:naX - 1=0
        ·rw [if_pos (by simpa using c8)]
         exact wpS_pure ⟨kp _,.inl ⟨_,rfl,fA c8 g3⟩⟩
        rw [if_neg (by simpa using c8)]
        have m9:w6 kf a b (outY.push xa) (naX - 1) nbX:=⟨by omega,by omega,bY,by omega,g3⟩
        split
        ·exact wpS_pure ⟨kp _,.inr ⟨_,_,_,_,_,_,rfl,m9,by omega⟩⟩
        ·exact wpS_pure ⟨kp _,_,_,_,_,_,_,rfl,m9,by omega⟩
    ·rintro c st3 ⟨k3,na,nb,out,mg',ac,bc,rfl,m3,x3⟩
     have:=m3.a1
     have:=m2.a2
     have:=m2.b2
     omega
    ·rintro c st3 ⟨k3,⟨r,e,hr⟩ | ⟨na3,nb3,out3,mg3,ac,bc,rfl,m3,x3⟩⟩
     ·obtain ⟨c1',c2'⟩:=c
      cases e
      exact wpS_pure ⟨k3,_,rfl,hr⟩
     ·dsimp only
      exact wpS_bind (wpS_modify (wpS_pure ⟨⟨k3.kd,k3.ar,k3.pe,k3.fa⟩,_,_,_,_,rfl,m3,by omega⟩))
 ·rintro c st' ⟨k,na,nb,out,mg,rfl,m,x1⟩
  have:=m.a1
  omega
 ·rintro c st' ⟨k,r,e,hr⟩
  rw [e]
  exact wpS_pure (h _ _ k hr)
end
noncomputable def kv (kf:Keyed->Nat)(xs:Array Keyed)(i:Nat):Nat:=match xs[i]? with
 | some p=>kf p
 | none=>0
theorem rF {kf:Keyed->Nat}{xs ys:Array Keyed}{i j:Nat}(h:xs[i]?=ys[j]?):kv kf xs i=kv kf ys j:=by unfold kv;rw [h]
theorem u4 {kf:Keyed->Nat}{xs:Array Keyed}{i:Nat}{x:Keyed}(h:xs[i]?=some x):kv kf xs i=kf x:=by unfold kv;rw [h]
theorem yM {kf:Keyed->Nat}{xs:Array Keyed}{src d:Nat}(hs:src < xs.size)(hd:d<=src)(k:Nat):kv kf (bubble xs src d) k=if k=src - d then kv kf xs src else if src - d < k/\k<=src then kv kf xs (k - 1) else kv kf xs k:=by
 have e:=getElem?_bubble (xs:=xs) hs d hd k
 split <;> rename_i c1
 ·rw [if_pos c1] at e
  exact rF e
 ·rw [if_neg c1] at e
  split <;> rename_i c2
  ·rw [if_pos c2] at e
   exact rF e
  ·rw [if_neg c2] at e
   exact rF e
theorem tM {kf:Keyed->Nat}{xs:Array Keyed}{i j:Nat}(hj:j<=xs.size)(k:Nat):kv kf (mirror xs i j ((j - i) / 2)) k=if i<=k/\k < j then kv kf xs (i + j - 1 - k) else kv kf xs k:=by
 have e:=getElem?_mirror_all (xs:=xs) (i:=i) hj k
 split <;> rename_i c1
 ·rw [if_pos c1] at e
  exact rF e
 ·rw [if_neg c1] at e
  exact rF e
theorem i8 {kf:Keyed->Nat}{xs:Array Keyed}{i j:Nat}(hj:j<=xs.size)(heq:∀ k,i<=k->k < j->kv kf xs k=kv kf xs (j - 1))(k:Nat):kv kf (mirror xs i j ((j - i) / 2)) k=kv kf xs k:=by
 rw [tM hj]
 split
 ·rw [heq k (by omega) (by omega)]
  exact heq _ (by omega) (by omega)
 ·rfl
structure SR (κ:SortKind)(a0 a1:Array Keyed)(lo:Nat)(st0 st:SortSt):Prop where
 pm:(arrOf st).Perm a0
 kd:kindOf st=κ
 fa:failedOf st=none
 pe:pendingOf st=pendingOf st0
 pre:∀ j,j < lo->(arrOf st)[j]?=a1[j]?
section
variable {M:Model}{A:Around}{E:bA}{s:Shared}{kf:Keyed->Nat}{κ:SortKind}{a0 a1:Array Keyed}{lo:Nat}{st0:SortSt}
theorem SR.size {st:SortSt}(h:SR κ a0 a1 lo st0 st):(arrOf st).size=a0.size:=h.pm.size_eq
theorem SR.mem {st:SortSt}(h:SR κ a0 a1 lo st0 st){i:Nat}(hi:i < a0.size):∃ x,(arrOf st)[i]?=some x/\x ∈ a0.toList:=by
 obtain ⟨x,e,m⟩:=bZ (a:=arrOf st) (i:=i) (by rw [h.size];exact hi)
 exact ⟨x,e,(Array.perm_iff_toList_perm.mp h.pm).mem_iff.mp m⟩
theorem cU {st:SortSt}{i j:Nat}{Q:Option Bool->SortSt->Prop}(ask:jH M A E s kf κ a0)(h:SR κ a0 a1 lo st0 st)(hi:i < a0.size)(hj:j < a0.size)(q:Q (some (decide (kv kf (arrOf st) i < kv kf (arrOf st) j))) st):wpS M A E s (ltAt' i j) Q st:=by
 obtain ⟨x,ex,mx⟩:=h.mem hi
 obtain ⟨y,ey,my⟩:=h.mem hj
 rw [u4 ex,u4 ey] at q
 refine wpS_bind (wpS_get ?_)
 exact wpS_bind (aJ ex (wpS_bind (aJ ey (ask _ _ mx my st Q h.kd q))))
theorem SR.mirror {st:SortSt}(h:SR κ a0 a1 lo st0 st){i j d:Nat}(hj:j<=a0.size)(hi:lo<=i):SR κ a0 a1 lo st0 (setArr st (PyProof.Rows.mirror (arrOf st) i j ((j - i) / 2))):=by
 refine ⟨(mirror_perm _ _ _ _).trans h.pm,h.kd,h.fa,h.pe,fun k hk=>?_⟩
 show (PyProof.Rows.mirror (arrOf st) i j ((j - i) / 2))[k]?=_
 rw [getElem?_mirror_all (by rw [h.size];exact hj),if_neg (by omega)]
 exact h.pre k hk
noncomputable def dS (kf:Keyed->Nat)(xs:Array Keyed)(lo n:Nat):Prop:=∀ i j,i<=j->j < n->kv kf xs (lo + i)<=kv kf xs (lo + j)
noncomputable def j7 (kf:Keyed->Nat)(xs:Array Keyed)(lo n:Nat):Prop:=∀ i j,i<=j->j < n->kv kf xs (lo + j)<=kv kf xs (lo + i)
theorem dS.snoc {xs:Array Keyed}{n:Nat}(h:dS kf xs lo n)(h1:1<=n)(e:¬ kv kf xs (lo + n) < kv kf xs (lo + n - 1)):dS kf xs lo (n + 1):=by
 intro i j ij jn
 by_cases z:j < n
 ·exact h i j ij z
 ·have:j=n:=by omega
  subst this
  by_cases y:i=j
  ·subst y;exact Nat.le_refl _
  ·have:=h i (j - 1) (by omega) (by omega)
   rw [show lo + (j - 1)=lo + j - 1 by omega] at this
   omega
theorem j7.snoc {xs:Array Keyed}{n:Nat}(h:j7 kf xs lo n)(h1:1<=n)(e:¬ kv kf xs (lo + n - 1) < kv kf xs (lo + n)):j7 kf xs lo (n + 1):=by
 intro i j ij jn
 by_cases z:j < n
 ·exact h i j ij z
 ·have:j=n:=by omega
  subst this
  by_cases y:i=j
  ·subst y;exact Nat.le_refl _
  ·have:=h i (j - 1) (by omega) (by omega)
   rw [show lo + (j - 1)=lo + j - 1 by omega] at this
   omega
theorem j7.turned {xs:Array Keyed}{n:Nat}(h:j7 kf xs lo n)(hz:lo + n<=xs.size):dS kf (PyProof.Rows.mirror xs lo (lo + n) ((lo + n - lo) / 2)) lo n:=by
 intro i j ij jn
 rw [tM hz,tM hz,if_pos (by omega),if_pos (by omega)]
 have:=h (n - 1 - j) (n - 1 - i) (by omega) (by omega)
 rw [show lo + (lo + n) - 1 - (lo + i)=lo + (n - 1 - i) by omega,show lo + (lo + n) - 1 - (lo + j)=lo + (n - 1 - j) by omega]
 exact this
theorem dU {st:SortSt}{i j:Nat}{Q:Unit->SortSt->Prop}(h:Q () (setArr st (PyProof.Rows.mirror (arrOf st) i j ((j - i) / 2)))):wpS M A E s (reverseSlice' i j) Q st:=by
 rw [reverseSlice'_eq]
 exact wpS_modify h
theorem mX {nrem:Nat}{st:SortSt}{Q:Option Nat->SortSt->Prop}(ask:jH M A E s kf κ a0)(h:SR κ a0 a1 lo st0 st)(h1:1<=nrem)(hz:lo + nrem<=a0.size)
  (q:∀ n st',SR κ a0 a1 lo st0 st'->1<=n->n<=nrem->dS kf (arrOf st') lo n->Q (some n) st'):wpS M A E s (countRun' lo nrem) Q st:=by
 refine wpS_bind (wpS_mono (wpS_forRange (I:=fun x c st'=>st'=st/\c=(none,x)/\dS kf (arrOf st) lo x)
  (Q:=fun c st'=>st'=st/\∃ n,c=(none,n)/\1<=n/\n<=nrem/\dS kf (arrOf st) lo n/\(n=nrem∨kv kf (arrOf st) (lo + n) < kv kf (arrOf st) (lo + n - 1))) ?_ ?_ ⟨rfl,rfl,fun i j ij jn=>?_⟩) ?_)
 ·rintro x c st' x1 xn ⟨rfl,rfl,up⟩
  dsimp only
  refine wpS_bind (cU ask h (by omega) (by omega) ?_)
  dsimp only
  by_cases w:kv kf (arrOf st') (lo + x) < kv kf (arrOf st') (lo + x - 1)
  ·rw [decide_eq_true w,if_pos rfl]
   exact wpS_pure ⟨rfl,x,rfl,x1,by omega,up,.inr w⟩
  ·rw [decide_eq_false w,if_neg (by decide)]
   exact wpS_pure ⟨rfl,rfl,up.snoc x1 w⟩
 ·rintro c st' ⟨rfl,rfl,up⟩
  rw [show max 1 nrem=nrem by omega] at up ⊢
  exact ⟨rfl,nrem,rfl,h1,Nat.le_refl _,up,.inl rfl⟩
 ·rw [show i=0 by omega,show j=0 by omega]
  exact Nat.le_refl _
 ·rintro c st' ⟨rfl,n,rfl,n1,nn,up,out⟩
  dsimp only
  by_cases c1:n=nrem
  ·rw [if_pos (by simpa using c1)]
   exact wpS_pure (q n st' h n1 nn up)
  rw [if_neg (by simpa using c1)]
  have dn:kv kf (arrOf st') (lo + n) < kv kf (arrOf st') (lo + n - 1):=out.resolve_left c1
  by_cases c2:n > 1
  ·rw [if_pos c2]
   refine wpS_bind (cU ask h (by omega) (by omega) ?_)
   dsimp only
   by_cases rose:kv kf (arrOf st') lo < kv kf (arrOf st') (lo + n - 1)
   ·rw [decide_eq_true rose,if_pos rfl]
    exact wpS_pure (q n st' h n1 nn up)
   ·rw [decide_eq_false rose,if_neg (by decide)]
    have same:∀ k,k < n->kv kf (arrOf st') (lo + k)=kv kf (arrOf st') (lo + n - 1):=fun k kn=>by
     have a1:=up 0 k (by omega) kn
     have a2:=up k (n - 1) (by omega) (by omega)
     rw [show lo + (n - 1)=lo + n - 1 by omega] at a2
     rw [Nat.add_zero] at a1
     omega
    have fl:=i8 (kf:=kf) (xs:=arrOf st') (i:=lo) (j:=lo + n) (by rw [h.size];omega) (fun k k1 k2=>by have:=same (k - lo) (by omega);rw [show lo + (k - lo)=k by omega] at this;exact this)
    refine wpS_bind (dU ?_)
    have S2:=h.mirror (i:=lo) (j:=lo + n) (d:=0) (by omega) (Nat.le_refl _)
    have D2:j7 kf (arrOf (setArr st' (PyProof.Rows.mirror (arrOf st') lo (lo + n) ((lo + n - lo) / 2)))) lo n:=fun i j ij jn=>by
     show kv kf (PyProof.Rows.mirror _ _ _ _) _<=kv kf (PyProof.Rows.mirror _ _ _ _) _
     rw [fl,fl,same i (by omega),same j (by omega)]
     exact Nat.le_refl _
    have dn2:kv kf (arrOf (setArr st' (PyProof.Rows.mirror (arrOf st') lo (lo + n) ((lo + n - lo) / 2)))) (lo + n) < kv kf (arrOf (setArr st' (PyProof.Rows.mirror (arrOf st') lo (lo + n) ((lo + n - lo) / 2)))) (lo + n - 1):=by
     show kv kf (PyProof.Rows.mirror _ _ _ _) _ < kv kf (PyProof.Rows.mirror _ _ _ _) _
     rw [fl,fl]
     exact dn
    generalize setArr st' (PyProof.Rows.mirror (arrOf st') lo (lo + n) ((lo + n - lo) / 2))=st2 at S2 D2 dn2 ⊢
    refine d9 ?_
    refine wpS_bind (wpS_mono (wpS_forRange (I:=fun x c st'=>SR κ a0 a1 lo st0 st'/\∃ e,c=(none,x,e)/\j7 kf (arrOf st') lo x/\e + 1<=x/\∀ k,x - (e + 1)<=k->k < x->kv kf (arrOf st') (lo + k)=kv kf (arrOf st') (lo + x - 1))
     (Q:=fun c st'=>SR κ a0 a1 lo st0 st'/\∃ m e,c=(none,m,e)/\1<=m/\m<=nrem/\j7 kf (arrOf st') lo m/\e + 1<=m/\∀ k,m - (e + 1)<=k->k < m->kv kf (arrOf st') (lo + k)=kv kf (arrOf st') (lo + m - 1)) ?_ ?_ ⟨S2,0,rfl,D2.snoc n1 (by omega),by omega,fun k k1 k2=>by rw [show k=n by omega,show lo + (n + 1) - 1=lo + n by omega]⟩) ?_)
    ·rintro x c st3 xn xr ⟨S3,e,rfl,D3,e3,q3⟩
     dsimp only
     refine wpS_bind (cU ask S3 (by omega) (by omega) ?_)
     dsimp only
     by_cases w:kv kf (arrOf st3) (lo + x) < kv kf (arrOf st3) (lo + x - 1)
     ·rw [decide_eq_true w,if_pos rfl]
      have D4:=D3.snoc (by omega) (by omega)
      by_cases e0:e > 0
      ·rw [if_pos e0]
       have fl:=i8 (kf:=kf) (xs:=arrOf st3) (i:=lo + x - (e + 1)) (j:=lo + x) (by rw [S3.size];omega) (fun k k1 k2=>by have:=q3 (k - lo) (by omega) (by omega);rw [show lo + (k - lo)=k by omega] at this;exact this)
       refine wpS_bind (dU (wpS_pure ⟨S3.mirror (d:=0) (by omega) (by omega),0,rfl,fun i j ij jn=>?_,by omega,fun k k1 k2=>by rw [show k=x by omega,show lo + (x + 1) - 1=lo + x by omega]⟩))
       show kv kf (PyProof.Rows.mirror _ _ _ _) _<=kv kf (PyProof.Rows.mirror _ _ _ _) _
       rw [fl,fl]
       exact D4 i j ij jn
      ·rw [if_neg e0]
       exact wpS_pure ⟨S3,0,rfl,D4,by omega,fun k k1 k2=>by rw [show k=x by omega,show lo + (x + 1) - 1=lo + x by omega]⟩
     ·rw [decide_eq_false w,if_neg (by decide)]
      refine wpS_bind (cU ask S3 (by omega) (by omega) ?_)
      dsimp only
      by_cases v:kv kf (arrOf st3) (lo + x - 1) < kv kf (arrOf st3) (lo + x)
      ·rw [decide_eq_true v,if_pos rfl]
       exact wpS_pure ⟨S3,x,e,rfl,by omega,by omega,D3,e3,q3⟩
      ·rw [decide_eq_false v,if_neg (by decide)]
       refine wpS_pure ⟨S3,e + 1,rfl,D3.snoc (by omega) v,by omega,fun k k1 k2=>?_⟩
       rw [show lo + (x + 1) - 1=lo + x by omega]
       by_cases y:k=x
       ·rw [y]
       ·rw [q3 k (by omega) (by omega)]
        omega
    ·rintro c st3 ⟨S3,e,rfl,D3,e3,q3⟩
     rw [show max (n + 1) nrem=nrem by omega] at D3 e3 q3 ⊢
     exact ⟨S3,nrem,e,rfl,h1,Nat.le_refl _,D3,e3,q3⟩
    ·rintro c st3 ⟨S3,m,e,rfl,m1,mr,D3,e3,q3⟩
     dsimp only
     by_cases e0:e > 0
     ·rw [if_pos e0]
      have fl:=i8 (kf:=kf) (xs:=arrOf st3) (i:=lo + m - (e + 1)) (j:=lo + m) (by rw [S3.size];omega) (fun k k1 k2=>by have:=q3 (k - lo) (by omega) (by omega);rw [show lo + (k - lo)=k by omega] at this;exact this)
      refine wpS_bind (dU ?_)
      have S4:=S3.mirror (i:=lo + m - (e + 1)) (j:=lo + m) (d:=0) (by omega) (by omega)
      have D4:j7 kf (arrOf (setArr st3 (PyProof.Rows.mirror (arrOf st3) (lo + m - (e + 1)) (lo + m) ((lo + m - (lo + m - (e + 1))) / 2)))) lo m:=fun i j ij jn=>by
       show kv kf (PyProof.Rows.mirror _ _ _ _) _<=kv kf (PyProof.Rows.mirror _ _ _ _) _
       rw [fl,fl]
       exact D3 i j ij jn
      generalize setArr st3 (PyProof.Rows.mirror (arrOf st3) (lo + m - (e + 1)) (lo + m) ((lo + m - (lo + m - (e + 1))) / 2))=st4 at S4 D4 ⊢
      refine wpS_bind (dU ?_)
      have S5:=S4.mirror (i:=lo) (j:=lo + m) (d:=0) (by omega) (Nat.le_refl _)
      have A5:dS kf (arrOf (setArr st4 (PyProof.Rows.mirror (arrOf st4) lo (lo + m) ((lo + m - lo) / 2)))) lo m:=D4.turned (by rw [S4.size];omega)
      generalize setArr st4 (PyProof.Rows.mirror (arrOf st4) lo (lo + m) ((lo + m - lo) / 2))=st5 at S5 A5 ⊢
      refine wpS_bind (wpS_mono (wpS_forRange (I:=fun x c st'=>st'=st5/\c=(none,x)/\dS kf (arrOf st5) lo x)
       (Q:=fun c st'=>st'=st5/\∃ n,c=(none,n)/\1<=n/\n<=nrem/\dS kf (arrOf st5) lo n) ?_ ?_ ⟨rfl,rfl,A5⟩) ?_)
      ·rintro x c st' x1 xn ⟨rfl,rfl,up⟩
       dsimp only
       refine wpS_bind (cU ask S5 (by omega) (by omega) ?_)
       dsimp only
       by_cases w:kv kf (arrOf st') (lo + x) < kv kf (arrOf st') (lo + x - 1)
       ·rw [decide_eq_true w,if_pos rfl]
        exact wpS_pure ⟨rfl,x,rfl,by omega,by omega,up⟩
       ·rw [decide_eq_false w,if_neg (by decide)]
        exact wpS_pure ⟨rfl,rfl,up.snoc (by omega) w⟩
      ·rintro c st' ⟨rfl,rfl,up⟩
       rw [show max m nrem=nrem by omega] at up ⊢
       exact ⟨rfl,nrem,rfl,h1,Nat.le_refl _,up⟩
      ·rintro c st' ⟨rfl,n',rfl,n1',nn',up'⟩
       exact wpS_pure (q n' st' S5 n1' nn' up')
     ·rw [if_neg e0]
      have S4:=S3
      have D4:=D3
      generalize st3=st4 at S4 D4 ⊢
      refine wpS_bind (dU ?_)
      have S5:=S4.mirror (i:=lo) (j:=lo + m) (d:=0) (by omega) (Nat.le_refl _)
      have A5:dS kf (arrOf (setArr st4 (PyProof.Rows.mirror (arrOf st4) lo (lo + m) ((lo + m - lo) / 2)))) lo m:=D4.turned (by rw [S4.size];omega)
      generalize setArr st4 (PyProof.Rows.mirror (arrOf st4) lo (lo + m) ((lo + m - lo) / 2))=st5 at S5 A5 ⊢
      refine wpS_bind (wpS_mono (wpS_forRange (I:=fun x c st'=>st'=st5/\c=(none,x)/\dS kf (arrOf st5) lo x)
       (Q:=fun c st'=>st'=st5/\∃ n,c=(none,n)/\1<=n/\n<=nrem/\dS kf (arrOf st5) lo n) ?_ ?_ ⟨rfl,rfl,A5⟩) ?_)
      ·rintro x c st' x1 xn ⟨rfl,rfl,up⟩
       dsimp only
       refine wpS_bind (cU ask S5 (by omega) (by omega) ?_)
       dsimp only
       by_cases w:kv kf (arrOf st') (lo + x) < kv kf (arrOf st') (lo + x - 1)
       ·rw [decide_eq_true w,if_pos rfl]
        exact wpS_pure ⟨rfl,x,rfl,by omega,by omega,up⟩
       ·rw [decide_eq_false w,if_neg (by decide)]
        exact wpS_pure ⟨rfl,rfl,up.snoc (by omega) w⟩
      ·rintro c st' ⟨rfl,rfl,up⟩
       rw [show max m nrem=nrem by omega] at up ⊢
       exact ⟨rfl,nrem,rfl,h1,Nat.le_refl _,up⟩
      ·rintro c st' ⟨rfl,n',rfl,n1',nn',up'⟩
       exact wpS_pure (q n' st' S5 n1' nn' up')
  ·rw [if_neg c2]
   have S2:=h
   have D2:j7 kf (arrOf st') lo n:=fun i j ij jn=>by
    rw [show i=0 by omega,show j=0 by omega]
    exact Nat.le_refl _
   have dn2:=dn
   generalize st'=st2 at S2 D2 dn2 ⊢
   refine d9 ?_
   refine wpS_bind (wpS_mono (wpS_forRange (I:=fun x c st'=>SR κ a0 a1 lo st0 st'/\∃ e,c=(none,x,e)/\j7 kf (arrOf st') lo x/\e + 1<=x/\∀ k,x - (e + 1)<=k->k < x->kv kf (arrOf st') (lo + k)=kv kf (arrOf st') (lo + x - 1))
    (Q:=fun c st'=>SR κ a0 a1 lo st0 st'/\∃ m e,c=(none,m,e)/\1<=m/\m<=nrem/\j7 kf (arrOf st') lo m/\e + 1<=m/\∀ k,m - (e + 1)<=k->k < m->kv kf (arrOf st') (lo + k)=kv kf (arrOf st') (lo + m - 1)) ?_ ?_ ⟨S2,0,rfl,D2.snoc n1 (by omega),by omega,fun k k1 k2=>by rw [show k=n by omega,show lo + (n + 1) - 1=lo + n by omega]⟩) ?_)
   ·rintro x c st3 xn xr ⟨S3,e,rfl,D3,e3,q3⟩
    dsimp only
    refine wpS_bind (cU ask S3 (by omega) (by omega) ?_)
    dsimp only
    by_cases w:kv kf (arrOf st3) (lo + x) < kv kf (arrOf st3) (lo + x - 1)
    ·rw [decide_eq_true w,if_pos rfl]
     have D4:=D3.snoc (by omega) (by omega)
     by_cases e0:e > 0
     ·rw [if_pos e0]
      have fl:=i8 (kf:=kf) (xs:=arrOf st3) (i:=lo + x - (e + 1)) (j:=lo + x) (by rw [S3.size];omega) (fun k k1 k2=>by have:=q3 (k - lo) (by omega) (by omega);rw [show lo + (k - lo)=k by omega] at this;exact this)
      refine wpS_bind (dU (wpS_pure ⟨S3.mirror (d:=0) (by omega) (by omega),0,rfl,fun i j ij jn=>?_,by omega,fun k k1 k2=>by rw [show k=x by omega,show lo + (x + 1) - 1=lo + x by omega]⟩))
      show kv kf (PyProof.Rows.mirror _ _ _ _) _<=kv kf (PyProof.Rows.mirror _ _ _ _) _
      rw [fl,fl]
      exact D4 i j ij jn
     ·rw [if_neg e0]
      exact wpS_pure ⟨S3,0,rfl,D4,by omega,fun k k1 k2=>by rw [show k=x by omega,show lo + (x + 1) - 1=lo + x by omega]⟩
    ·rw [decide_eq_false w,if_neg (by decide)]
     refine wpS_bind (cU ask S3 (by omega) (by omega) ?_)
     dsimp only
     by_cases v:kv kf (arrOf st3) (lo + x - 1) < kv kf (arrOf st3) (lo + x)
     ·rw [decide_eq_true v,if_pos rfl]
      exact wpS_pure ⟨S3,x,e,rfl,by omega,by omega,D3,e3,q3⟩
     ·rw [decide_eq_false v,if_neg (by decide)]
      refine wpS_pure ⟨S3,e + 1,rfl,D3.snoc (by omega) v,by omega,fun k k1 k2=>?_⟩
      rw [show lo + (x + 1) - 1=lo + x by omega]
      by_cases y:k=x
      ·rw [y]
      ·rw [q3 k (by omega) (by omega)]
       omega
   ·rintro c st3 ⟨S3,e,rfl,D3,e3,q3⟩
    rw [show max (n + 1) nrem=nrem by omega] at D3 e3 q3 ⊢
    exact ⟨S3,nrem,e,rfl,h1,Nat.le_refl _,D3,e3,q3⟩
   ·rintro c st3 ⟨S3,m,e,rfl,m1,mr,D3,e3,q3⟩
    dsimp only
    by_cases e0:e > 0
    ·rw [if_pos e0]
     have fl:=i8 (kf:=kf) (xs:=arrOf st3) (i:=lo + m - (e + 1)) (j:=lo + m) (by rw [S3.size];omega) (fun k k1 k2=>by have:=q3 (k - lo) (by omega) (by omega);rw [show lo + (k - lo)=k by omega] at this;exact this)
     refine wpS_bind (dU ?_)
     have S4:=S3.mirror (i:=lo + m - (e + 1)) (j:=lo + m) (d:=0) (by omega) (by omega)
     have D4:j7 kf (arrOf (setArr st3 (PyProof.Rows.mirror (arrOf st3) (lo + m - (e + 1)) (lo + m) ((lo + m - (lo + m - (e + 1))) / 2)))) lo m:=fun i j ij jn=>by
      show kv kf (PyProof.Rows.mirror _ _ _ _) _<=kv kf (PyProof.Rows.mirror _ _ _ _) _
      rw [fl,fl]
      exact D3 i j ij jn
     generalize setArr st3 (PyProof.Rows.mirror (arrOf st3) (lo + m - (e + 1)) (lo + m) ((lo + m - (lo + m - (e + 1))) / 2))=st4 at S4 D4 ⊢
     refine wpS_bind (dU ?_)
     have S5:=S4.mirror (i:=lo) (j:=lo + m) (d:=0) (by omega) (Nat.le_refl _)
     have A5:dS kf (arrOf (setArr st4 (PyProof.Rows.mirror (arrOf st4) lo (lo + m) ((lo + m - lo) / 2)))) lo m:=D4.turned (by rw [S4.size];omega)
     generalize setArr st4 (PyProof.Rows.mirror (arrOf st4) lo (lo + m) ((lo + m - lo) / 2))=st5 at S5 A5 ⊢
     refine wpS_bind (wpS_mono (wpS_forRange (I:=fun x c st'=>st'=st5/\c=(none,x)/\dS kf (arrOf st5) lo x)
      (Q:=fun c st'=>st'=st5/\∃ n,c=(none,n)/\1<=n/\n<=nrem/\dS kf (arrOf st5) lo n) ?_ ?_ ⟨rfl,rfl,A5⟩) ?_)
     ·rintro x c st' x1 xn ⟨rfl,rfl,up⟩
      dsimp only
      refine wpS_bind (cU ask S5 (by omega) (by omega) ?_)
      dsimp only
      by_cases w:kv kf (arrOf st') (lo + x) < kv kf (arrOf st') (lo + x - 1)
      ·rw [decide_eq_true w,if_pos rfl]
       exact wpS_pure ⟨rfl,x,rfl,by omega,by omega,up⟩
      ·rw [decide_eq_false w,if_neg (by decide)]
       exact wpS_pure ⟨rfl,rfl,up.snoc (by omega) w⟩
     ·rintro c st' ⟨rfl,rfl,up⟩
      rw [show max m nrem=nrem by omega] at up ⊢
      exact ⟨rfl,nrem,rfl,h1,Nat.le_refl _,up⟩
     ·rintro c st' ⟨rfl,n',rfl,n1',nn',up'⟩
      exact wpS_pure (q n' st' S5 n1' nn' up')
    ·rw [if_neg e0]
     have S4:=S3
     have D4:=D3
     generalize st3=st4 at S4 D4 ⊢
     refine wpS_bind (dU ?_)
     have S5:=S4.mirror (i:=lo) (j:=lo + m) (d:=0) (by omega) (Nat.le_refl _)
     have A5:dS kf (arrOf (setArr st4 (PyProof.Rows.mirror (arrOf st4) lo (lo + m) ((lo + m - lo) / 2)))) lo m:=D4.turned (by rw [S4.size];omega)
     generalize setArr st4 (PyProof.Rows.mirror (arrOf st4) lo (lo + m) ((lo + m - lo) / 2))=st5 at S5 A5 ⊢
     refine wpS_bind (wpS_mono (wpS_forRange (I:=fun x c st'=>st'=st5/\c=(none,x)/\dS kf (arrOf st5) lo x)
      (Q:=fun c st'=>st'=st5/\∃ n,c=(none,n)/\1<=n/\n<=nrem/\dS kf (arrOf st5) lo n) ?_ ?_ ⟨rfl,rfl,A5⟩) ?_)
     ·rintro x c st' x1 xn ⟨rfl,rfl,up⟩
      dsimp only
      refine wpS_bind (cU ask S5 (by omega) (by omega) ?_)
      dsimp only
      by_cases w:kv kf (arrOf st') (lo + x) < kv kf (arrOf st') (lo + x - 1)
      ·rw [decide_eq_true w,if_pos rfl]
       exact wpS_pure ⟨rfl,x,rfl,by omega,by omega,up⟩
      ·rw [decide_eq_false w,if_neg (by decide)]
       exact wpS_pure ⟨rfl,rfl,up.snoc (by omega) w⟩
     ·rintro c st' ⟨rfl,rfl,up⟩
      rw [show max m nrem=nrem by omega] at up ⊢
      exact ⟨rfl,nrem,rfl,h1,Nat.le_refl _,up⟩
     ·rintro c st' ⟨rfl,n',rfl,n1',nn',up'⟩
      exact wpS_pure (q n' st' S5 n1' nn' up')
end
section
variable {M:Model}{A:Around}{E:bA}{s:Shared}{kf:Keyed->Nat}{κ:SortKind}{a0 a1:Array Keyed}{lo:Nat}{st0:SortSt}
theorem zS {st:SortSt}{i j:Nat}{Q:Unit->SortSt->Prop}(h:Q () (setArr st (bubble (arrOf st) i (i - j)))):wpS M A E s (moveDown' i j) Q st:=by
 rw [moveDown'_eq]
 exact wpS_modify h
theorem SR.bub {st:SortSt}(h:SR κ a0 a1 lo st0 st){k l:Nat}(hk:lo + k < a0.size)(hl:l<=k):SR κ a0 a1 lo st0 (setArr st (bubble (arrOf st) (lo + k) (lo + k - (lo + l)))):=by
 refine ⟨(bubble_perm _ _ _).trans h.pm,h.kd,h.fa,h.pe,fun j hj=>?_⟩
 show (bubble (arrOf st) (lo + k) (lo + k - (lo + l)))[j]?=_
 rw [getElem?_bubble (by rw [h.size];exact hk) _ (by omega),if_neg (by omega),if_neg (by omega)]
 exact h.pre j hj
theorem qB {n ok:Nat}{st:SortSt}{Q:Bool->SortSt->Prop}(ask:jH M A E s kf κ a0)(h:SR κ a0 a1 lo st0 st)(hz:lo + n<=a0.size)(hok:ok<=n)(up:dS kf (arrOf st) lo ok)
  (q:∀ st',SR κ a0 a1 lo st0 st'->dS kf (arrOf st') lo n->Q true st'):wpS M A E s (binarySort' lo n ok) Q st:=by
 refine wpS_bind (wpS_mono (wpS_forRange (I:=fun k c st'=>c=(none,())/\SR κ a0 a1 lo st0 st'/\dS kf (arrOf st') lo (min k n))
  (Q:=fun c st'=>c=(none,())/\SR κ a0 a1 lo st0 st'/\dS kf (arrOf st') lo n) ?_ ?_ ⟨rfl,h,fun i j ij jn=>?_⟩) ?_)
 ·rintro k c st1 k1 kn ⟨rfl,S1,up1⟩
  rw [Nat.min_eq_left (Nat.le_of_lt kn)] at up1
  refine wpS_bind (wpS_mono (wpS_forRange (I:=fun x c st'=>st'=st1/\∃ l r,c=(none,l,r)/\l<=r/\r<=k/\r - l<=k - x/\(∀ i,i < l->kv kf (arrOf st1) (lo + i)<=kv kf (arrOf st1) (lo + k))/\∀ i,r<=i->i < k->kv kf (arrOf st1) (lo + k) < kv kf (arrOf st1) (lo + i))
   (Q:=fun c st'=>st'=st1/\∃ l,c=(none,l,l)/\l<=k/\(∀ i,i < l->kv kf (arrOf st1) (lo + i)<=kv kf (arrOf st1) (lo + k))/\∀ i,l<=i->i < k->kv kf (arrOf st1) (lo + k) < kv kf (arrOf st1) (lo + i)) ?_ ?_ ⟨rfl,0,k,rfl,by omega,by omega,by omega,fun i hi=>by omega,fun i h1 h2=>by omega⟩) ?_)
  ·rintro x c st2 _ xk ⟨rfl,l,r,rfl,lr,rk,hm,b1,b2⟩
   dsimp only
   by_cases g:l ≥ r
   ·rw [if_pos g]
    have e:l=r:=by omega
    subst e
    exact wpS_pure ⟨rfl,l,rfl,rk,b1,b2⟩
   rw [if_neg g]
   refine wpS_bind (cU ask S1 (by omega) (by omega) ?_)
   dsimp only
   by_cases w:kv kf (arrOf st2) (lo + k) < kv kf (arrOf st2) (lo + (l + r) / 2)
   ·rw [decide_eq_true w,if_pos rfl]
    exact wpS_pure ⟨rfl,l,(l + r) / 2,rfl,by omega,by omega,by omega,b1,fun i i1 i2=>Nat.lt_of_lt_of_le w (up1 _ _ i1 i2)⟩
   ·rw [decide_eq_false w,if_neg (by decide)]
    exact wpS_pure ⟨rfl,(l + r) / 2 + 1,r,rfl,by omega,rk,by omega,fun i i1=>Nat.le_trans (up1 i ((l + r) / 2) (by omega) (by omega)) (by omega),b2⟩
  ·rintro c st2 ⟨rfl,l,r,rfl,lr,rk,hm,b1,b2⟩
   have e:l=r:=by omega
   subst e
   exact ⟨rfl,l,rfl,rk,b1,b2⟩
  ·rintro c st2 ⟨rfl,l,rfl,lk,b1,b2⟩
   dsimp only
   refine wpS_bind (zS (wpS_pure ⟨rfl,S1.bub (by omega) lk,fun i j ij jn=>?_⟩))
   rw [Nat.min_eq_left (show k + 1<=n from kn)] at jn
   have hs:lo + k < (arrOf st2).size:=by rw [S1.size];omega
   show kv kf (bubble _ _ _) _<=kv kf (bubble _ _ _) _
   rw [yM hs (by omega),yM hs (by omega),show lo + k - (lo + k - (lo + l))=lo + l by omega]
   have low:∀ i,i < l->kv kf (arrOf st2) (lo + i)<=kv kf (arrOf st2) (lo + k):=b1
   by_cases j1:j=l
   ·subst j1
    by_cases i1:i=j
    ·subst i1
     exact Nat.le_refl _
    ·rw [if_pos (show lo + j=lo + j from rfl),if_neg (by omega),if_neg (by omega)]
     exact b1 i (by omega)
   ·by_cases j2:j < l
    ·rw [if_neg (show ¬ lo + j=lo + l by omega),if_neg (show ¬ (lo + l < lo + j/\lo + j<=lo + k) by omega),if_neg (by omega),if_neg (by omega)]
     exact up1 i j ij (by omega)
    ·rw [if_neg (show ¬ lo + j=lo + l by omega),if_pos (show lo + l < lo + j/\lo + j<=lo + k by omega),show lo + j - 1=lo + (j - 1) by omega]
     by_cases i1:i=l
     ·rw [if_pos (by omega)]
      exact Nat.le_of_lt (b2 (j - 1) (by omega) (by omega))
     ·by_cases i2:i < l
      ·rw [if_neg (by omega),if_neg (by omega)]
       exact up1 i (j - 1) (by omega) (by omega)
      ·rw [if_neg (by omega),if_pos (by omega),show lo + i - 1=lo + (i - 1) by omega]
       exact up1 (i - 1) (j - 1) (by omega) (by omega)
 ·rintro c st1 ⟨rfl,S1,up1⟩
  rw [show min (max (max ok 1) n) n=n by omega] at up1
  exact ⟨rfl,S1,up1⟩
 ·by_cases z:ok=0
  ·rw [show i=0 by omega,show j=0 by omega]
   exact Nat.le_refl _
  ·exact up i j ij (by omega)
 ·rintro c st1 ⟨rfl,S1,up1⟩
  exact wpS_pure (q st1 S1 up1)
end
section
variable {kf:Keyed->Nat}{arr:Array Keyed}{L ra rb R X:List Keyed}
theorem fB (e:arr.toList=L ++ (ra ++ R)){i:Nat}(hi:i < ra.length):arr[L.length + i]?=ra[i]?:=by
 rw [← Array.getElem?_toList,e,List.getElem?_append_right (Nat.le_add_right _ _),Nat.add_sub_cancel_left,List.getElem?_append_left hi]
theorem kA {l:List Keyed}(p:l.Pairwise (kI kf)){i j:Nat}{x y:Keyed}(ij:i<=j)(ex:l[i]?=some x)(ey:l[j]?=some y):kf x<=kf y:=by
 rcases Nat.eq_or_lt_of_le ij with rfl | lt
 ·rw [ex] at ey;cases ey;exact Nat.le_refl _
 ·obtain ⟨hi,e1⟩:=List.getElem?_eq_some_iff.mp ex
  obtain ⟨hj,e2⟩:=List.getElem?_eq_some_iff.mp ey
  have:=List.pairwise_iff_getElem.mp p i j hi hj lt
  rw [e1,e2] at this
  exact this
theorem uC (e:arr.toList=L ++ (ra ++ R))(p:ra.Pairwise (kI kf)):wV kf arr L.length ra.length:=fun i j x y ij jn ex ey =>
 kA p ij (by rw [← fB e (by omega)];exact ex) (by rw [← fB e jn];exact ey)
theorem yY (e:arr.toList=L ++ (X ++ R)):(arr.extract L.length (L.length + X.length)).toList=X:=by
 rw [pN,e,List.drop_left,List.take_left]
theorem yJ (e:arr.toList=L ++ (X ++ R)):L.length + X.length<=arr.size:=by
 have:=congrArg List.length e
 rw [Array.length_toList,List.length_append,List.length_append] at this
 omega
theorem qP:∀ (m:List Keyed) {arr:Array Keyed} {L Z R:List Keyed} {k b:Nat},arr.toList=L ++ (Z ++ R)->Z.length=m.length->L.length=b + k->((m.zipIdx k).foldl (fun a x=>match x with | (p,j)=>a.setIfInBounds (b + j) p) arr).toList=L ++ (m ++ R)
 | [],arr,L,Z,R,k,b,e,z,l=>by
  rw [List.length_eq_zero_iff.mp z] at e
  exact e
 | x :: m,arr,L,[],R,k,b,e,z,l=>by cases z
 | x :: m,arr,L,c :: Z,R,k,b,e,z,l=>by
  rw [List.zipIdx_cons,List.foldl_cons]
  have e':(arr.setIfInBounds (b + k) x).toList=(L ++ [x]) ++ (Z ++ R):=by
   rw [Array.toList_setIfInBounds,e,← l,List.set_append_right _ _ (Nat.le_refl _),Nat.sub_self]
   show L ++ (x :: (Z ++ R))=_
   rw [List.append_assoc]
   rfl
  have:=qP m (k:=k + 1) (b:=b) e' (by simpa using z) (by rw [List.length_append,l];rfl)
  rw [this,List.append_assoc]
  rfl
theorem xF {l:List Keyed}(h:l.Pairwise (kI kf)):dM kf l l:=⟨List.Perm.refl _,h⟩
theorem sZ (sa:ra.Pairwise (kI kf))(sb:rb.Pairwise (kI kf))(h:∀ x ∈ ra,∀ y ∈ rb,kf x<=kf y):(ra ++ rb).Pairwise (kI kf):=List.pairwise_append.mpr ⟨sa,sb,h⟩
theorem zY {k m:Nat}{r:List Keyed}{b0 al:Keyed}(sa:ra.Pairwise (kI kf))(sb:rb.Pairwise (kI kf))(eb:rb[0]?=some b0)(ea:ra[ra.length - 1]?=some al)(f1:∀ i x,i < k->ra[i]?=some x->kf x<=kf b0)(q2:∀ i y,m<=i->rb[i]?=some y->kf al<=kf y)
  (h:dM kf (ra.drop k ++ rb.take m) r):dM kf (ra ++ rb) (ra.take k ++ (r ++ rb.drop m)):=by
 have inr:∀ x ∈ r,(∃ i,k<=i/\ra[i]?=some x)∨∃ i,i < m/\rb[i]?=some x:=fun x hx=>by
  rcases List.mem_append.mp (h.1.mem_iff.mp hx) with z | z
  ·obtain ⟨i,ei⟩:=List.getElem?_of_mem z
   rw [List.getElem?_drop] at ei
   exact .inl ⟨k + i,Nat.le_add_right _ _,ei⟩
  ·obtain ⟨i,ei⟩:=List.getElem?_of_mem z
   rw [List.getElem?_take] at ei
   by_cases w:i < m
   ·rw [if_pos w] at ei
    exact .inr ⟨i,w,ei⟩
   ·rw [if_neg w] at ei;cases ei
 have inl:∀ x ∈ ra.take k,∃ i,i < k/\ra[i]?=some x:=fun x hx=>by
  obtain ⟨i,ei⟩:=List.getElem?_of_mem hx
  rw [List.getElem?_take] at ei
  by_cases w:i < k
  ·rw [if_pos w] at ei
   exact ⟨i,w,ei⟩
  ·rw [if_neg w] at ei;cases ei
 have ind:∀ x ∈ rb.drop m,∃ i,m<=i/\rb[i]?=some x:=fun x hx=>by
  obtain ⟨i,ei⟩:=List.getElem?_of_mem hx
  rw [List.getElem?_drop] at ei
  exact ⟨m + i,Nat.le_add_right _ _,ei⟩
 refine ⟨?_,sZ (sa.sublist (List.take_sublist _ _)) (sZ h.2 (sb.sublist (List.drop_sublist _ _)) fun x hx y hy=>?_) fun x hx y hy=>?_⟩
 ·conv=>rhs;rw [← List.take_append_drop k ra,← List.take_append_drop m rb,List.append_assoc,← List.append_assoc (ra.drop k)]
  exact (h.1.append_right _).append_left _
 ·obtain ⟨j,mj,ej⟩:=ind y hy
  rcases inr x hx with ⟨i,ik,ei⟩ | ⟨i,im,ei⟩
  ·have lt:=(List.getElem?_eq_some_iff.mp ei).1
   exact Nat.le_trans (kA sa (by omega) ei ea) (q2 j y mj ej)
  ·exact kA sb (by omega) ei ej
 ·obtain ⟨i,ik,ei⟩:=inl x hx
  rcases List.mem_append.mp hy with z | z
  ·rcases inr y z with ⟨j,kj,ej⟩ | ⟨j,jm,ej⟩
   ·exact kA sa (by omega) ei ej
   ·exact Nat.le_trans (f1 i x ik ei) (kA sb (Nat.zero_le _) eb ej)
  ·obtain ⟨j,mj,ej⟩:=ind y z
   exact Nat.le_trans (f1 i x ik ei) (kA sb (Nat.zero_le _) eb ej)
end
section
variable {M:Model}{A:Around}{E:bA}{s:Shared}{kf:Keyed->Nat}{κ:SortKind}{a0:Array Keyed}
theorem zR {σ:Type}{st st':σ}{Q:PUnit->σ->Prop}(h:Q ⟨⟩ st'):wpS M A E s (set st':StateT σ Sem PUnit) Q st:=by
 unfold wpS
 rw [StateT.run_set]
 exact wpAny_pure ⟨rfl,h⟩
theorem oK {i pw pw':Nat}{L ra rb R:List Keyed}{st:SortSt}{Q:Bool->SortSt->Prop}(ask:jH M A E s kf κ a0)(hk:kindOf st=κ)(hf:failedOf st=none)(mem:∀ x ∈ (arrOf st).toList,x ∈ a0.toList)(e:(arrOf st).toList=L ++ (ra ++ (rb ++ R)))
  (p1:(pendingOf st)[i]?=some (L.length,ra.length,pw)) (p2:(pendingOf st)[i + 1]?=some (L.length + ra.length,rb.length,pw')) (sa:ra.Pairwise (kI kf)) (sb:rb.Pairwise (kI kf)) (na:ra≠[]) (nb:rb≠[])
  (q:∀ st' rm,kindOf st'=κ->failedOf st'=none->pendingOf st'=((pendingOf st).setIfInBounds i (L.length,ra.length + rb.length,pw)).eraseIdxIfInBounds (i + 1)->(arrOf st').toList=L ++ (rm ++ R)->dM kf (ra ++ rb) rm->Q true st'):wpS M A E s (mergeAt' i) Q st:=by
 have la:1<=ra.length:=List.length_pos_iff.mpr na
 have lb:1<=rb.length:=List.length_pos_iff.mpr nb
 have e2:(arrOf st).toList=(L ++ ra) ++ (rb ++ R):=by rw [e,List.append_assoc]
 have lla:(L ++ ra).length=L.length + ra.length:=List.length_append
 have l1:=yJ e
 have l2:=yJ e2
 rw [lla] at l2
 obtain ⟨b0,eb0⟩:∃ b0,rb[0]?=some b0:=⟨rb[0],List.getElem?_eq_getElem lb⟩
 obtain ⟨al,eal⟩:∃ al,ra[ra.length - 1]?=some al:=⟨ra[ra.length - 1],List.getElem?_eq_getElem (by omega)⟩
 have hb0:(arrOf st)[L.length + ra.length]?=some b0:=by
  have:=fB e2 lb
  rw [lla,Nat.add_zero] at this
  rw [this]
  exact eb0
 have hal:(arrOf st)[L.length + (ra.length - 1)]?=some al:=by rw [fB e (by omega)];exact eal
 have mb0:b0 ∈ a0.toList:=mem _ (by rw [e];exact List.mem_append_right _ (List.mem_append_right _ (List.mem_append_left _ (List.mem_of_getElem? eb0))))
 have mal:al ∈ a0.toList:=mem _ (by rw [e];exact List.mem_append_right _ (List.mem_append_left _ (List.mem_of_getElem? eal)))
 have both:(∀ x ∈ ra,∀ y ∈ rb,kf x<=kf y)->dM kf (ra ++ rb) (ra ++ rb):=fun h=>xF (sZ sa sb h)
 have e0:(arrOf st).toList=L ++ ((ra ++ rb) ++ R):=by rw [e,List.append_assoc]
 refine wpS_bind (wpS_get ?_)
 rw [p1,p2]
 dsimp only
 refine wpS_bind (zR ?_)
 refine wpS_bind (aJ hb0 (wpS_bind (fL ask hk (uC e sa) mem mb0 l1 (by omega) fun k kn f1 f2=>?_)))
 dsimp only
 have f1':∀ i x,i < k->ra[i]?=some x->kf x<=kf b0:=fun i x ik ex=>f1 i x ik (by rw [fB e (by omega)];exact ex)
 have f2':∀ i x,k<=i->ra[i]?=some x->kf b0 < kf x:=fun i x ik ex=>by
  have lt:=(List.getElem?_eq_some_iff.mp ex).1
  exact f2 i x ik lt (by rw [fB e lt];exact ex)
 by_cases c1:ra.length - k=0
 ·rw [if_pos (by simpa using c1)]
  refine wpS_pure (q _ _ hk hf rfl e0 (both fun x hx y hy=>?_))
  obtain ⟨i,ei⟩:=List.getElem?_of_mem hx
  obtain ⟨j,ej⟩:=List.getElem?_of_mem hy
  have lt:=(List.getElem?_eq_some_iff.mp ei).1
  exact Nat.le_trans (f1' i x (by omega) ei) (kA sb (Nat.zero_le _) eb0 ej)
 rw [if_neg (by simpa using c1)]
 have hal':(arrOf st)[L.length + k + (ra.length - k) - 1]?=some al:=by
  rw [show L.length + k + (ra.length - k) - 1=L.length + (ra.length - 1) by omega]
  exact hal
 have sg:=uC e2 sb
 rw [lla] at sg
 refine wpS_bind (aJ hal' (wpS_bind (dF ask hk sg mem mal (by omega) (by omega) fun m mn q1 q2=>?_)))
 dsimp only
 have at2:∀ i,i < rb.length->(arrOf st)[L.length + ra.length + i]?=rb[i]?:=fun i hi=>by
  have:=fB e2 hi
  rw [lla] at this
  exact this
 have q1':∀ i y,i < m->rb[i]?=some y->kf y < kf al:=fun i y im ey=>q1 i y im (by rw [at2 i (by omega)];exact ey)
 have q2':∀ i y,m<=i->rb[i]?=some y->kf al<=kf y:=fun i y im ey=>by
  have lt:=(List.getElem?_eq_some_iff.mp ey).1
  exact q2 i y im lt (by rw [at2 i lt];exact ey)
 by_cases c2:m=0
 ·rw [if_pos (by simpa using c2)]
  refine wpS_pure (q _ _ hk hf rfl e0 (both fun x hx y hy=>?_))
  obtain ⟨i,ei⟩:=List.getElem?_of_mem hx
  obtain ⟨j,ej⟩:=List.getElem?_of_mem hy
  have lt:=(List.getElem?_eq_some_iff.mp ei).1
  exact Nat.le_trans (kA sa (by omega) ei eal) (q2' j y (by omega) ej)
 rw [if_neg (by simpa using c2)]
 have sx:((arrOf st).extract (L.length + k) (L.length + ra.length)).toList=ra.drop k:=by
  have e3:(arrOf st).toList=(L ++ ra.take k) ++ (ra.drop k ++ (rb ++ R)):=by rw [e,List.append_assoc,← List.append_assoc (ra.take k),List.take_append_drop]
  have:=yY e3
  rw [List.length_append,List.length_take,List.length_drop,Nat.min_eq_left kn,show L.length + k + (ra.length - k)=L.length + ra.length by omega] at this
  exact this
 have sy:((arrOf st).extract (L.length + ra.length) (L.length + ra.length + m)).toList=rb.take m:=by
  have e3:(arrOf st).toList=(L ++ ra) ++ (rb.take m ++ (rb.drop m ++ R)):=by rw [e2,← List.append_assoc (rb.take m),List.take_append_drop]
  have:=yY e3
  rw [lla,List.length_take,Nat.min_eq_left mn] at this
  exact this
 have T:BF kf a0 ((arrOf st).extract (L.length + k) (L.length + ra.length)) ((arrOf st).extract (L.length + ra.length) (L.length + ra.length + m)):=by
  have zx:((arrOf st).extract (L.length + k) (L.length + ra.length)).size=ra.length - k:=by rw [← Array.length_toList,sx,List.length_drop]
  have zy:((arrOf st).extract (L.length + ra.length) (L.length + ra.length + m)).size=m:=by rw [← Array.length_toList,sy,List.length_take,Nat.min_eq_left mn]
  refine ⟨by rw [sx];exact sa.sublist (List.drop_sublist _ _),by rw [sy];exact sb.sublist (List.take_sublist _ _),fun x hx=>?_,fun x hx=>?_,by omega,by omega,fun x y ey hx=>?_,fun x y ex hy=>?_⟩
  ·rw [sx] at hx
   exact mem x (by rw [e];exact List.mem_append_right _ (List.mem_append_left _ (List.mem_of_mem_drop hx)))
  ·rw [sy] at hx
   exact mem x (by rw [e];exact List.mem_append_right _ (List.mem_append_right _ (List.mem_append_left _ (List.mem_of_mem_take hx))))
  ·rw [← Array.getElem?_toList,sy,List.getElem?_take,if_pos (by omega),eb0] at ey
   cases ey
   rw [sx] at hx
   obtain ⟨j,ej⟩:=List.getElem?_of_mem hx
   rw [List.getElem?_drop] at ej
   exact f2' _ x (Nat.le_add_right _ _) ej
  ·rw [← Array.getElem?_toList,zx,sx,List.getElem?_drop,show k + (ra.length - k - 1)=ra.length - 1 by omega,eal] at ex
   cases ex
   rw [sy] at hy
   obtain ⟨j,ej⟩:=List.getElem?_of_mem hy
   rw [List.getElem?_take] at ej
   by_cases w:j < m
   ·rw [if_pos w] at ej
    exact q1' j y w ej
   ·rw [if_neg w] at ej;cases ej
 have fin:∀ (r:Array Keyed) (st1 st':SortSt),kindOf st1=κ->failedOf st1=none->arrOf st1=arrOf st->pendingOf st1=((pendingOf st).setIfInBounds i (L.length,ra.length + rb.length,pw)).eraseIdxIfInBounds (i + 1)->Kp st1 st'->dM kf (ra.drop k ++ rb.take m) r.toList ->
   wpS M A E s (do modify (fun s=>setArr s ((r.toList.zipIdx).foldl (fun a x=>match x with | (p,j)=>a.setIfInBounds (L.length + k + j) p) (arrOf s)));let t ← get;pure (failedOf t).isNone) Q st':=by
  intro r st1 st' k1 k2 k3 k4 kp hr
  refine wpS_bind (wpS_modify ?_)
  refine wpS_bind (wpS_get ?_)
  have e4:(arrOf st').toList=(L ++ ra.take k) ++ ((ra.drop k ++ rb.take m) ++ (rb.drop m ++ R)):=by
   rw [kp.ar,k3,e,List.append_assoc,List.append_assoc,← List.append_assoc (rb.take m),List.take_append_drop,← List.append_assoc (ra.take k),List.take_append_drop]
  have e5:=qP r.toList (k:=0) (b:=L.length + k) e4 hr.1.length_eq.symm (by rw [List.length_append,List.length_take,Nat.min_eq_left kn];rfl)
  rw [show (failedOf (setArr st' _)).isNone=true by show (failedOf st').isNone=true;rw [kp.fa,k2];rfl]
  refine wpS_pure (q _ (ra.take k ++ (r.toList ++ rb.drop m)) (kp.kd.trans k1) (kp.fa.trans k2) (kp.pe.trans k4) ?_ (zY sa sb eb0 eal f1' q2' hr))
  refine e5.trans ?_
  rw [List.append_assoc,List.append_assoc,List.append_assoc]
 by_cases c3:ra.length - k<=m
 ·rw [if_pos c3]
  exact wpS_bind (p8 ask hk T fun r st' kp hr=>fin r (SortSt.mk' (kindOf st) (arrOf st) (((pendingOf st).setIfInBounds i (L.length,ra.length + rb.length,pw)).eraseIdxIfInBounds (i + 1)) (gallopOf st) (failedOf st)) st' hk hf rfl rfl kp (by rw [sx,sy] at hr;exact hr))
 ·rw [if_neg c3]
  exact wpS_bind (qA ask hk T fun r st' kp hr=>fin r (SortSt.mk' (kindOf st) (arrOf st) (((pendingOf st).setIfInBounds i (L.length,ra.length + rb.length,pw)).eraseIdxIfInBounds (i + 1)) (gallopOf st) (failedOf st)) st' hk hf rfl rfl kp (by rw [sx,sy] at hr;exact hr))
end
noncomputable def offs:Nat->List (List Keyed)->List (Nat×Nat)
 | _,[]=>[]
 | a,r :: rs=>(a,r.length) :: offs (a + r.length) rs
theorem iY:∀ (a:Nat) (rs ts:List (List Keyed)),offs a (rs ++ ts)=offs a rs ++ offs (a + rs.flatten.length) ts
 | a,[],ts=>by simp [offs]
 | a,r :: rs,ts=>by
  show (a,r.length) :: offs (a + r.length) (rs ++ ts)=(a,r.length) :: (offs (a + r.length) rs ++ _)
  rw [iY (a + r.length) rs ts,List.flatten_cons,List.length_append,Nat.add_assoc]
theorem lN:∀ (a:Nat) (rs:List (List Keyed)),(offs a rs).length=rs.length
 | _,[]=>rfl
 | a,r :: rs=>by
  show (offs (a + r.length) rs).length + 1=rs.length + 1
  rw [lN]
theorem nS {α β:Type}(f:α->β):∀ (l:List α) (k:Nat),(l.eraseIdx k).map f=(l.map f).eraseIdx k
 | [],_=>rfl
 | _ :: _,0=>rfl
 | x :: l,k + 1=>congrArg (f x :: ·) (nS f l k)
noncomputable abbrev two3 (p:Nat×Nat×Nat):Nat×Nat:=(p.1,p.2.1)
structure SI (kf:Keyed->Nat)(κ:SortKind)(a0:Array Keyed)(rs:List (List Keyed))(rest:List Keyed)(st:SortSt):Prop where
 ar:(arrOf st).toList=rs.flatten ++ rest
 pe:(pendingOf st).toList.map two3=offs 0 rs
 so:∀ r ∈ rs,r≠[]/\r.Pairwise (kI kf)
 kd:kindOf st=κ
 fa:failedOf st=none
 pm:(arrOf st).Perm a0
section
variable {M:Model}{A:Around}{E:bA}{s:Shared}{kf:Keyed->Nat}{κ:SortKind}{a0:Array Keyed}{rs:List (List Keyed)}{rest:List Keyed}
theorem SI.many {st:SortSt}(h:SI kf κ a0 rs rest st):(pendingOf st).size=rs.length:=by
 have:=congrArg List.length h.pe
 rw [List.length_map,Array.length_toList,lN] at this
 exact this
theorem B0 {i:Nat}(h:i + 1 < rs.length):∃ r1 ra rb r2,rs=r1 ++ ra :: rb :: r2/\r1.length=i:=by
 refine ⟨rs.take i,rs[i],rs[i + 1],rs.drop (i + 1 + 1),?_,by rw [List.length_take];omega⟩
 rw [← List.drop_eq_getElem_cons h,← List.drop_eq_getElem_cons (show i < rs.length by omega),List.take_append_drop]
theorem fK {i:Nat}{st:SortSt}{Q:Bool->SortSt->Prop}(ask:jH M A E s kf κ a0)(h:SI kf κ a0 rs rest st)(hi:i + 1 < rs.length)
  (q:∀ st' rs',SI kf κ a0 rs' rest st'->rs'.length + 1=rs.length->rs'.flatten.length=rs.flatten.length->Q true st'):wpS M A E s (mergeAt' i) Q st:=by
 obtain ⟨r1,ra,rb,r2,rfl,li⟩:=B0 hi
 have of1:offs 0 (r1 ++ ra :: rb :: r2)=offs 0 r1 ++ (r1.flatten.length,ra.length) :: (r1.flatten.length + ra.length,rb.length) :: offs (r1.flatten.length + ra.length + rb.length) r2:=by
  rw [iY,Nat.zero_add]
  rfl
 have lo1:(offs 0 r1).length=i:=by rw [lN,li]
 have at1:((pendingOf st).toList.map two3)[i]?=some (r1.flatten.length,ra.length):=by
  rw [h.pe,of1,List.getElem?_append_right (by omega),lo1,Nat.sub_self]
  rfl
 have at2:((pendingOf st).toList.map two3)[i + 1]?=some (r1.flatten.length + ra.length,rb.length):=by
  rw [h.pe,of1,List.getElem?_append_right (by omega),lo1,Nat.add_sub_cancel_left]
  rfl
 rw [List.getElem?_map,Array.getElem?_toList] at at1 at2
 obtain ⟨⟨x1,x2,pw⟩,p1,z1⟩:=Option.map_eq_some_iff.mp at1
 obtain ⟨⟨y1,y2,pw'⟩,p2,z2⟩:=Option.map_eq_some_iff.mp at2
 cases z1
 cases z2
 have ea:(arrOf st).toList=r1.flatten ++ (ra ++ (rb ++ (r2.flatten ++ rest))):=by
  rw [h.ar,List.flatten_append,List.flatten_cons,List.flatten_cons]
  simp only [List.append_assoc]
 have mem:∀ x ∈ (arrOf st).toList,x ∈ a0.toList:=fun x hx=>(Array.perm_iff_toList_perm.mp h.pm).mem_iff.mp hx
 have sa:=h.so ra (by simp)
 have sb:=h.so rb (by simp)
 refine oK ask h.kd h.fa mem ea p1 p2 sa.2 sb.2 sa.1 sb.1 fun st' rm k1 k2 k3 k4 k5=>?_
 have lm:rm.length=ra.length + rb.length:=by rw [k5.1.length_eq,List.length_append]
 refine q st' (r1 ++ rm :: r2) ⟨?_,?_,fun r hr=>?_,k1,k2,?_⟩ ?_ ?_
 ·rw [k4,List.flatten_append,List.flatten_cons]
  simp only [List.append_assoc]
 ·rw [k3,Array.toList_eraseIdxIfInBounds,Array.toList_setIfInBounds,nS,List.map_set,h.pe,of1,iY,Nat.zero_add]
  show ((offs 0 r1 ++ _).set i (r1.flatten.length,ra.length + rb.length)).eraseIdx (i + 1)=offs 0 r1 ++ (r1.flatten.length,rm.length) :: offs (r1.flatten.length + rm.length) r2
  rw [List.set_append_right _ _ (by omega),lo1,Nat.sub_self,List.eraseIdx_append_of_length_le (by omega),lo1,Nat.add_sub_cancel_left,lm,Nat.add_assoc]
  rfl
 ·rcases List.mem_append.mp hr with z | z
  ·exact h.so r (List.mem_append_left _ z)
  ·rcases List.mem_cons.mp z with rfl | z
   ·exact ⟨fun w=>sa.1 (List.length_eq_zero_iff.mp (by rw [w] at lm;simp at lm;omega)),k5.2⟩
   ·exact h.so r (List.mem_append_right _ (List.mem_cons_of_mem _ (List.mem_cons_of_mem _ z)))
 ·refine Array.Perm.trans (Array.perm_iff_toList_perm.mpr ?_) h.pm
  rw [k4,ea,← List.append_assoc ra]
  exact ((k5.1.append_right _).append_left _)
 ·simp only [List.length_append,List.length_cons]
  omega
 ·rw [List.flatten_append,List.flatten_append,List.flatten_cons,List.flatten_cons,List.flatten_cons]
  simp only [List.length_append]
  omega
theorem vF {arr:Array Keyed}{lo n:Nat}(h:dS kf arr lo n):((arr.toList.drop lo).take n).Pairwise (kI kf):=by
 refine List.pairwise_iff_getElem.mpr fun i j hi hj ij=>?_
 have jn:j < n:=by rw [List.length_take] at hj;omega
 have g:∀ k (hk:k < ((arr.toList.drop lo).take n).length),arr[lo + k]?=some (((arr.toList.drop lo).take n)[k]):=fun k hk=>by
  have e:=List.getElem?_eq_getElem hk
  rw [← e,List.getElem?_take,if_pos (by rw [List.length_take] at hk;omega),List.getElem?_drop,Array.getElem?_toList]
 have:=h i j (Nat.le_of_lt ij) jn
 rw [u4 (g i hi),u4 (g j hj)] at this
 exact this
theorem SI.found {st st':SortSt}(h:SI kf κ a0 rs rest st)(r:SR κ a0 (arrOf st) rs.flatten.length st st'):SI kf κ a0 rs ((arrOf st').toList.drop rs.flatten.length) st':=by
 refine ⟨?_,by rw [r.pe];exact h.pe,h.so,r.kd,r.fa,r.pm⟩
 have t:(arrOf st').toList.take rs.flatten.length=rs.flatten:=by
  refine List.ext_getElem? fun j=>?_
  rw [List.getElem?_take]
  by_cases z:j < rs.flatten.length
  ·rw [if_pos z,Array.getElem?_toList,r.pre j z,← Array.getElem?_toList,h.ar,List.getElem?_append_left z]
  ·rw [if_neg z,List.getElem?_eq_none (by omega)]
 conv=>lhs;rw [← List.take_append_drop rs.flatten.length (arrOf st').toList,t]
theorem oM {σ α:Type}{c:Prop}[Decidable c]{x y:StateT σ Sem α}{Q:α->σ->Prop}{st:σ}(h1:c->wpS M A E s x Q st)(h2:¬ c->wpS M A E s y Q st):wpS M A E s (if c then x else y) Q st:=by
 by_cases z:c
 ·rw [if_pos z];exact h1 z
 ·rw [if_neg z];exact h2 z
theorem pD {α β:Type}(g:α->β)(f:α->α)(e:∀ x,g (f x)=g x):∀ (l:List α) (k:Nat),(l.modify k f).map g=l.map g
 | [],k=>by simp
 | x :: l,0=>by simp [e]
 | x :: l,k + 1=>by simp [pD g f e l k]
theorem cS {rs:List (List Keyed)}{rest:List Keyed}{n:Nat}(h:n<=rest.length):(rs ++ [rest.take n]).flatten.length=rs.flatten.length + n:=by
 rw [List.flatten_append,List.length_append,List.flatten_cons,List.flatten_nil,List.append_nil,List.length_take,Nat.min_eq_left h]
theorem SI.run {st st':SortSt}{n:Nat}(h:SI kf κ a0 rs rest st)(hn:n<=rest.length)(n1:1<=n)(ru:(rest.take n).Pairwise (kI kf))(ar:arrOf st'=arrOf st)(kd:kindOf st'=kindOf st)(fa:failedOf st'=failedOf st)
  (pe:(pendingOf st').toList.map two3=(pendingOf st).toList.map two3 ++ [(rs.flatten.length,n)]):SI kf κ a0 (rs ++ [rest.take n]) (rest.drop n) st':=by
 refine ⟨?_,?_,fun r hr=>?_,kd.trans h.kd,fa.trans h.fa,by rw [ar];exact h.pm⟩
 ·rw [ar,h.ar,List.flatten_append,List.flatten_cons,List.flatten_nil,List.append_nil,List.append_assoc,List.take_append_drop]
 ·rw [pe,h.pe,iY,Nat.zero_add]
  show _=offs 0 rs ++ [(rs.flatten.length,(rest.take n).length)]
  rw [List.length_take,Nat.min_eq_left hn]
 ·rcases List.mem_append.mp hr with z | z
  ·exact h.so r z
  ·rw [List.mem_singleton.mp z]
   refine ⟨fun w=>?_,ru⟩
   have:=congrArg List.length w
   rw [List.length_take,Nat.min_eq_left hn,List.length_nil] at this
   omega
theorem A4 {c:Prop}[Decidable c]{k n:Nat}(h:k + 1 < n):(if c then k - 1 else k) + 1 < n:=by split <;> omega
theorem uD:∀ {rs:List (List Keyed)},(∀ r ∈ rs,r≠[])->rs.length<=rs.flatten.length
 | [],_=>Nat.le_refl _
 | r :: rs,h=>by
  have h1:=uD (rs:=rs) fun x hx=>h x (List.mem_cons_of_mem _ hx)
  have h2:=List.length_pos_iff.mpr (h r List.mem_cons_self)
  rw [List.flatten_cons,List.length_append,List.length_cons]
  omega
theorem hO {st:SortSt}{Q:Unit->SortSt->Prop}(ask:jH M A E s kf κ a0)(h0:SI kf κ a0 [] a0.toList st)
  (q:∀ st',(arrOf st').Perm a0->failedOf st'=none->(arrOf st').toList.Pairwise (kI kf)->Q () st'):wpS M A E s sortRuns' Q st:=by
 refine wpS_bind (wpS_get ?_)
 have z0:(arrOf st).size=a0.size:=h0.pm.size_eq
 dsimp only
 rw [z0]
 refine wpS_bind (wpS_mono (wpS_forRange (I:=fun x c st'=>∃ rs rest,SI kf κ a0 rs rest st'/\c=(none,rs.flatten.length)/\(x<=rs.flatten.length∨rest=[]))
  (Q:=fun c st'=>∃ rs,SI kf κ a0 rs [] st'/\c.1=none) ?_ ?_ ⟨[],_,h0,rfl,.inl (Nat.le_refl _)⟩) ?_)
 ·rintro x c st1 _ xn ⟨rs,rest,S1,rfl,x1⟩
  dsimp only
  have sz:rs.flatten.length + rest.length=a0.size:=by
   have:=S1.pm.size_eq
   rw [← Array.length_toList,S1.ar,List.length_append] at this
   exact this
  by_cases c1:rs.flatten.length ≥ a0.size
  ·rw [if_pos c1]
   have e:rest=[]:=List.length_eq_zero_iff.mp (by omega)
   subst e
   exact wpS_pure ⟨rs,S1,rfl⟩
  rw [if_neg c1]
  have x1':x<=rs.flatten.length:=x1.elim id fun z=>by rw [z,List.length_nil] at sz;omega
  refine wpS_bind (mX (a1:=arrOf st1) (st0:=st1) ask ⟨S1.pm,S1.kd,S1.fa,rfl,fun _ _=>rfl⟩ (by omega) (by omega) fun n st2 R2 n1 nn A2=>?_)
  dsimp only
  refine oM (fun c2=>?_) fun c2=>?_
  ·refine d9 ?_
   refine wpS_bind (qB ask R2 (by omega) (by omega) A2 fun st3 R3 A3=>?_)
   rw [if_neg (by decide)]
   have nX1:1<=min (a0.size - rs.flatten.length) (minRun' a0.size a0.size 0):=by
    have c2':n < minRun' a0.size a0.size 0:=c2
    omega
   have nX2:min (a0.size - rs.flatten.length) (minRun' a0.size a0.size 0)<=a0.size - rs.flatten.length:=Nat.min_le_left _ _
   change dS kf (arrOf st3) rs.flatten.length (min (a0.size - rs.flatten.length) (minRun' a0.size a0.size 0)) at A3
   obtain ⟨nX,hX⟩:∃ nX,nX=min (a0.size - rs.flatten.length) (minRun' a0.size a0.size 0):=⟨_,rfl⟩
   rw [← hX] at nX1 nX2 A3
   have hX':=hX
   unfold minRun' at hX'
   rw [← hX']
   refine wpS_bind (wpS_get ?_)
   have S3:=S1.found R3
   have lr:((arrOf st3).toList.drop rs.flatten.length).length=a0.size - rs.flatten.length:=by rw [List.length_drop,Array.length_toList,R3.size]
   have ru:=vF A3
   generalize (arrOf st3).toList.drop rs.flatten.length=rest3 at S3 lr ru ⊢
   cases hb:(pendingOf st3).back? with
   | none =>
    dsimp only
    exact wpS_bind (wpS_modify (wpS_pure ⟨rs ++ [rest3.take nX],rest3.drop nX,S3.run (by omega) nX1 ru rfl rfl rfl (by rw [Array.toList_push,List.map_append];rfl),by rw [cS (by omega)],.inl (by rw [cS (by omega)];omega)⟩))
   | some p =>
    obtain ⟨s1,n1',o1⟩:=p
    dsimp only
    refine wpS_bind (wpS_mono (wpS_forRange (I:=fun _ c st'=>c=(none,())/\∃ rs',SI kf κ a0 rs' rest3 st'/\rs'.flatten.length=rs.flatten.length)
     (Q:=fun c st'=>c=(none,())/\∃ rs',SI kf κ a0 rs' rest3 st'/\rs'.flatten.length=rs.flatten.length) ?_ (fun _ _ h=>h) ⟨rfl,rs,S3,rfl⟩) ?_)
    ·rintro y c st4 _ _ ⟨rfl,rs4,S4,l4⟩
     refine wpS_bind (wpS_get ?_)
     have m4:=S4.many
     by_cases c5:(pendingOf st4).size > 1
     ·rw [if_pos c5]
      obtain ⟨pp,ep⟩:∃ pp,(pendingOf st4)[(pendingOf st4).size - 2]?=some pp:=⟨_,Array.getElem?_eq_getElem (by omega)⟩
      rw [ep]
      obtain ⟨o2,o3,o4⟩:=pp
      dsimp only
      refine oM (fun _=>wpS_pure ⟨rfl,rs4,S4,l4⟩) fun _=>?_
      refine wpS_bind (fK ask S4 (by rw [m4] at c5 ⊢;omega) fun st5 rs5 S5 l5 f5=>?_)
      rw [if_neg (by decide)]
      exact wpS_pure ⟨rfl,rs5,S5,by omega⟩
     ·rw [if_neg c5]
      exact wpS_pure ⟨rfl,rs4,S4,l4⟩
    ·rintro c st4 ⟨rfl,rs4,S4,l4⟩
     dsimp only
     refine wpS_bind (wpS_modify (wpS_bind (wpS_modify (wpS_pure ⟨rs4 ++ [rest3.take nX],rest3.drop nX,S4.run (by omega) nX1 ru rfl rfl rfl ?_,by rw [cS (by omega),l4],.inl (by rw [cS (by omega)];omega)⟩))))
     rw [Array.toList_push,List.map_append,Array.toList_modify,pD,l4]
     ·rfl
     ·exact fun _=>rfl
  ·have R3:=R2
   have A3:=A2
   have nX1:=n1
   have nX2:=nn
   generalize n=nX at A3 nX1 nX2 ⊢
   generalize st2=st3 at R3 A3 ⊢
   refine wpS_bind (wpS_get ?_)
   have S3:=S1.found R3
   have lr:((arrOf st3).toList.drop rs.flatten.length).length=a0.size - rs.flatten.length:=by rw [List.length_drop,Array.length_toList,R3.size]
   have ru:=vF A3
   generalize (arrOf st3).toList.drop rs.flatten.length=rest3 at S3 lr ru ⊢
   cases hb:(pendingOf st3).back? with
   | none =>
    dsimp only
    exact wpS_bind (wpS_modify (wpS_pure ⟨rs ++ [rest3.take nX],rest3.drop nX,S3.run (by omega) nX1 ru rfl rfl rfl (by rw [Array.toList_push,List.map_append];rfl),by rw [cS (by omega)],.inl (by rw [cS (by omega)];omega)⟩))
   | some p =>
    obtain ⟨s1,n1',o1⟩:=p
    dsimp only
    refine wpS_bind (wpS_mono (wpS_forRange (I:=fun _ c st'=>c=(none,())/\∃ rs',SI kf κ a0 rs' rest3 st'/\rs'.flatten.length=rs.flatten.length)
     (Q:=fun c st'=>c=(none,())/\∃ rs',SI kf κ a0 rs' rest3 st'/\rs'.flatten.length=rs.flatten.length) ?_ (fun _ _ h=>h) ⟨rfl,rs,S3,rfl⟩) ?_)
    ·rintro y c st4 _ _ ⟨rfl,rs4,S4,l4⟩
     refine wpS_bind (wpS_get ?_)
     have m4:=S4.many
     by_cases c5:(pendingOf st4).size > 1
     ·rw [if_pos c5]
      obtain ⟨pp,ep⟩:∃ pp,(pendingOf st4)[(pendingOf st4).size - 2]?=some pp:=⟨_,Array.getElem?_eq_getElem (by omega)⟩
      rw [ep]
      obtain ⟨o2,o3,o4⟩:=pp
      dsimp only
      refine oM (fun _=>wpS_pure ⟨rfl,rs4,S4,l4⟩) fun _=>?_
      refine wpS_bind (fK ask S4 (by rw [m4] at c5 ⊢;omega) fun st5 rs5 S5 l5 f5=>?_)
      rw [if_neg (by decide)]
      exact wpS_pure ⟨rfl,rs5,S5,by omega⟩
     ·rw [if_neg c5]
      exact wpS_pure ⟨rfl,rs4,S4,l4⟩
    ·rintro c st4 ⟨rfl,rs4,S4,l4⟩
     dsimp only
     refine wpS_bind (wpS_modify (wpS_bind (wpS_modify (wpS_pure ⟨rs4 ++ [rest3.take nX],rest3.drop nX,S4.run (by omega) nX1 ru rfl rfl rfl ?_,by rw [cS (by omega),l4],.inl (by rw [cS (by omega)];omega)⟩))))
     rw [Array.toList_push,List.map_append,Array.toList_modify,pD,l4]
     ·rfl
     ·exact fun _=>rfl
 ·rintro c st1 ⟨rs,rest,S1,rfl,x1⟩
  have sz:rs.flatten.length + rest.length=a0.size:=by
   have:=S1.pm.size_eq
   rw [← Array.length_toList,S1.ar,List.length_append] at this
   exact this
  rw [show max 0 a0.size=a0.size by omega] at x1
  have e:rest=[]:=x1.elim (fun z=>List.length_eq_zero_iff.mp (by omega)) id
  subst e
  exact ⟨rs,S1,rfl⟩
 ·rintro ⟨c1,c2⟩ st1 ⟨rs,S1,e⟩
  cases e
  dsimp only
  have rl:rs.length<=a0.size:=by
   have:=uD fun r hr=>(S1.so r hr).1
   have z:=S1.pm.size_eq
   rw [← Array.length_toList,S1.ar,List.append_nil] at z
   omega
  refine wpS_bind (wpS_mono (wpS_forRange (I:=fun x c st'=>c=(none,())/\∃ rs',SI kf κ a0 rs' [] st'/\(rs'.length + x<=a0.size∨rs'.length<=1))
   (Q:=fun c st'=>c=(none,())/\∃ rs',SI kf κ a0 rs' [] st'/\rs'.length<=1) ?_ ?_ ⟨rfl,rs,S1,.inl (by omega)⟩) ?_)
  ·rintro y c st2 _ _ ⟨rfl,rs2,S2,l2⟩
   refine wpS_bind (wpS_get ?_)
   have m2:=S2.many
   by_cases c3:(pendingOf st2).size<=1
   ·rw [if_pos c3]
    exact wpS_pure ⟨rfl,rs2,S2,by omega⟩
   ·rw [if_neg c3]
    refine wpS_bind (fK ask S2 (by rw [m2] at c3 ⊢;exact A4 (by omega)) fun st3 rs3 S3 l3 _=>?_)
    rw [if_neg (by decide)]
    exact wpS_pure ⟨rfl,rs3,S3,by omega⟩
  ·rintro c st2 ⟨rfl,rs2,S2,l2⟩
   exact ⟨rfl,rs2,S2,by omega⟩
  ·rintro c st2 ⟨rfl,rs2,S2,l2⟩
   refine wpS_pure (q st2 S2.pm S2.fa ?_)
   rw [S2.ar,List.append_nil]
   match rs2,l2,S2.so with
   | [],_,_=>exact List.Pairwise.nil
   | [r],_,so =>
    rw [List.flatten_cons,List.flatten_nil,List.append_nil]
    exact (so r List.mem_cons_self).2
   | _ :: _ :: _,l,_=>exact absurd l (by simp)
end
structure DK {α:Type}(lt:α->α->Bool):Prop where
 irr:∀ x,lt x x=false
 tr:∀ x y z,lt x y=true->lt y z=true->lt x z=true
 one:∀ x y,lt x y=false->lt y x=false->∀ z,lt z x=lt z y
noncomputable def rank {α β:Type}(lt:β->β->Bool)(iv:α->β)(l:List α)(x:α):Nat:=l.countP fun z=>lt (iv z) (iv x)
section
variable {α β:Type}{lt:β->β->Bool}{iv:α->β}
theorem oZ (O:DK lt):∀ (l:List α) {x y:α},lt (iv x) (iv y)=true->rank lt iv l x<=rank lt iv l y/\(x ∈ l->rank lt iv l x < rank lt iv l y)
 | [],x,y,h=>⟨Nat.le_refl _,fun m=>nomatch m⟩
 | z :: l,x,y,h=>by
  obtain ⟨h1,h2⟩:=oZ O l h
  unfold rank at h1 h2 ⊢
  rw [List.countP_cons,List.countP_cons]
  have step:(if lt (iv z) (iv x)=true then 1 else 0)<=(if lt (iv z) (iv y)=true then 1 else 0):=by
   by_cases c:lt (iv z) (iv x)=true
   ·rw [if_pos c,if_pos (O.tr _ _ _ c h)]
    exact Nat.le_refl _
   ·rw [if_neg c]
    exact Nat.zero_le _
  refine ⟨Nat.add_le_add h1 step,fun m=>?_⟩
  rcases List.mem_cons.mp m with e | m
  ·subst e
   rw [O.irr,h]
   simp only [Bool.false_eq_true,if_false,if_true]
   omega
  ·exact Nat.add_lt_add_of_lt_of_le (h2 m) step
theorem eQ (O:DK lt){l:List α}{x y:α}(hx:x ∈ l)(hy:y ∈ l):decide (rank lt iv l x < rank lt iv l y)=lt (iv x) (iv y):=by
 cases c:lt (iv x) (iv y) with
 | true=>exact decide_eq_true ((oZ O l c).2 hx)
 | false =>
  refine decide_eq_false fun z=>?_
  cases d:lt (iv y) (iv x) with
  | true =>
   have:=(oZ O l d).2 hy
   omega
  | false =>
   have e:rank lt iv l x=rank lt iv l y:=by
    unfold rank
    congr 1
    funext w
    exact O.one _ _ c d _
   omega
end
section
variable {prog:Program}{w:World}{A:Around}{E:bA}{s:Shared}{kf:Keyed->Nat}{κ:SortKind}
theorem hZ {a:Addr}{vs:bJ}{n:Nat}{P:PySem.Fin->Shared->Prop}(ho:s.heap.get? a=some (seqObj "list" vs.toArray n))(hz:vs.length<=sizeLine)
  (kind:∀ h',(∀ b o,b≠a->s.heap.get? b=some o->h'.get? b=some o)->2<=vs.length->∀ Q:SortKind->Shared->Prop,Q κ { s with heap:=h' }->wpAny (model prog w) A (keyKind' vs.toArray) Q E { s with heap:=h' })
  (ask:∀ h',(∀ b o,b≠a->s.heap.get? b=some o->h'.get? b=some o)->jH (model prog w) A E { s with heap:=h' } kf κ (pairsOf vs))
  (q:∀ (out:d8) (ps:List Keyed),ps.Perm (pairsOf vs).toList->ps.Pairwise (kI kf)->out.toList=ps.map (·.2)->P (.done (.ret .none)) { s with heap:=sortedHeap s.heap a vs out }) :
  wpAny (model prog w) A (Builtin.«list.sort» { pos:=[.ref a],kw:=[] }) P E s:=by
 have la:a < s.heap.objs.size:=Heap.lt_size ho
 have zs:vs.toArray.size<=sizeLine:=by rw [List.size_toArray];exact hz
 obtain ⟨e1,at1⟩:∃ e1,(s.heap.update a (Obj.mapSeq fun _=>(#[]:d8))).get? a=some (seqObj "list" #[] e1):=⟨_,get?_update_seq ho fun _=>#[]⟩
 rw [list_sort_plain]
 refine wpAny_bind (listItems_at ho rfl (wpAny_bind (listUpdate_at ho rfl (wpAny_bind (seqEpoch_at at1 rfl (wpAny_bind (wpAny_newTuple (wpAny_bind (wpAny_newList (wpAny_holding ?_) (Nat.zero_le _))) hz)))) zs (Nat.zero_le _))))
 have at2:(((s.heap.update a (Obj.mapSeq fun _=>(#[]:d8))).push (seqObj "tuple" vs.toArray 0)).push (seqObj "list" #[] 0)).get? a=some (seqObj "list" #[] e1):=Heap.get?_push_of_some _ (Heap.get?_push_of_some _ at1)
 have kp:∀ b o,b≠a->s.heap.get? b=some o->(((s.heap.update a (Obj.mapSeq fun _=>(#[]:d8))).push (seqObj "tuple" vs.toArray 0)).push (seqObj "list" #[] 0)).get? b=some o:=fun b o nb e =>
  Heap.get?_push_of_some _ (Heap.get?_push_of_some _ (by rw [Heap.get?_update_ne _ _ _ _ nb];exact e))
 change wpAny (model prog w) A _ P E { s with heap:=((s.heap.update a (Obj.mapSeq fun _=>(#[]:d8))).push (seqObj "tuple" vs.toArray 0)).push (seqObj "list" #[] 0) }
 dsimp only
 have zo:∀ st:SortSt,(arrOf st).toList.Perm (pairsOf vs).toList->((arrOf st).map (·.2)).size<=sizeLine + 1:=fun st pm=>by
  have:=pm.length_eq
  rw [Array.length_toList,Array.length_toList,pairsOf_size] at this
  rw [Array.size_map,this]
  exact Nat.le_succ_of_le hz
 by_cases c:vs.toArray.size < 2
 ·rw [if_pos c,if_pos c]
  refine wpAny_bind (wpAny_pure ?_)
  rw [StateT.run_pure]
  refine wpAny_bind (wpAny_pure ?_)
  have one:(pairsOf vs).toList.length < 2:=by rw [Array.length_toList,pairsOf_size,← List.size_toArray];exact c
  refine wpAny_bind (seqEpoch_at at2 rfl (wpAny_bind (listUpdate_at at2 rfl ?_ (Nat.zero_le _) (zo (SortSt.mk' general' (vs.toArray.zip vs.toArray) #[] 7 none) (List.Perm.refl _)))))
  simp only [Bool.false_eq_true,bne_self_eq_false,if_false]
  refine wpAny_pure (q _ _ (List.Perm.refl _) ?_ Array.toList_map)
  match (pairsOf vs).toList,one with
  | [],_=>exact .nil
  | [x],_=>exact List.pairwise_singleton _ _
  | _ :: _ :: _,z=>exact absurd z (by simp)
 ·rw [if_neg c,if_neg c]
  rw [List.size_toArray] at c
  refine wpAny_bind (kind _ kp (by omega) _ ?_)
  have st0:SI kf κ (pairsOf vs) [] (pairsOf vs).toList (SortSt.mk' κ (vs.toArray.zip vs.toArray) #[] 7 none):=⟨rfl,rfl,fun r hr=>(nomatch hr),rfl,rfl,Array.Perm.refl _⟩
  have run:=hO (Q:=fun _ st'=>(arrOf st').toList.Perm (pairsOf vs).toList/\failedOf st'=none/\(arrOf st').toList.Pairwise (kI kf)) (ask _ kp) st0 fun st' b1 b2 b3=>⟨Array.perm_iff_toList_perm.mp b1,b2,b3⟩
  refine wpAny_bind (wpAny_mono run ?_ fun _ _ x=>x)
  rintro ⟨⟨⟩,st'⟩ s' ⟨rfl,b1,b2,b3⟩
  refine wpAny_bind (seqEpoch_at at2 rfl (wpAny_bind (listUpdate_at at2 rfl ?_ (Nat.zero_le _) (zo st' b1))))
  dsimp only
  rw [b2]
  simp only [Bool.false_eq_true,bne_self_eq_false,if_false]
  exact wpAny_pure (q _ _ b1 b3 Array.toList_map)
end
noncomputable def ltI:List Int->List Int->Bool
 | [],[]=>false
 | [],_ :: _=>true
 | _ :: _,[]=>false
 | x :: xs,y :: ys=>if x=y then ltI xs ys else decide (x < y)
theorem pF:∀ x,ltI x x=false
 | []=>rfl
 | x :: xs=>by rw [ltI,if_pos rfl];exact pF xs
theorem yH:∀ x y z,ltI x y=true->ltI y z=true->ltI x z=true
 | [],[],_,h,_=>nomatch h
 | [],_ :: _,[],_,k=>nomatch k
 | [],y :: ys,z :: zs,_,_=>by rw [ltI]
 | _ :: _,[],_,h,_=>nomatch h
 | _ :: _,_ :: _,[],_,k=>nomatch k
 | x :: xs,y :: ys,z :: zs,h,k=>by
  rw [ltI] at h k ⊢
  by_cases e:x=y
  ·subst e
   rw [if_pos rfl] at h
   by_cases f:x=z
   ·subst f
    rw [if_pos rfl] at k ⊢
    exact yH xs ys zs h k
   ·rw [if_neg f] at k ⊢
    exact k
  ·rw [if_neg e] at h
   have h':=of_decide_eq_true h
   by_cases f:y=z
   ·subst f
    rw [if_neg e]
    exact h
   ·rw [if_neg f] at k
    have k':=of_decide_eq_true k
    rw [if_neg (by omega)]
    exact decide_eq_true (show x < z by omega)
theorem pE:∀ x y,ltI x y=false->ltI y x=false->x=y
 | [],[],_,_=>rfl
 | [],y :: ys,h,_=>nomatch h
 | _ :: _,[],_,k=>nomatch k
 | x :: xs,y :: ys,h,k=>by
  rw [ltI] at h k
  by_cases e:x=y
  ·subst e
   rw [if_pos rfl] at h k
   rw [pE xs ys h k]
  ·rw [if_neg e] at h
   rw [if_neg (Ne.symm e)] at k
   have h':=of_decide_eq_false h
   have k':=of_decide_eq_false k
   omega
theorem gQ:DK ltI:=⟨pF,yH,fun x y h k z=>by rw [pE x y h k]⟩
noncomputable def zO (h:Heap)(v:Value)(r:List Int):Prop:=∃ a o xs n,v = .ref a/\h.get? a=some o/\o.cls = .type "tuple"/\o.data = .seq xs n/\IntsAre xs.toList r/\r≠[]
theorem zO.same {h h':Heap}{v:Value}{r:List Int}(t:zO h v r)(k:∀ b o,o.cls = .type "tuple"->h.get? b=some o->h'.get? b=some o):zO h' v r:=by
 obtain ⟨a,o,xs,n,e,ho,hc,hd⟩:=t
 exact ⟨a,o,xs,n,e,k a o hc ho,hc,hd⟩
noncomputable def ivH (h:Heap)(v:Value):List Int:=match v with
 | .ref b=>match h.get? b with
  | some o=>match o.data with
   | .seq xs _=>xs.toList.map numOf
   | _=>[]
  | none=>[]
 | _=>[]
theorem tO {h:Heap}{v:Value}{r:List Int}(t:zO h v r):ivH h v=r:=by
 obtain ⟨a,o,xs,n,rfl,ho,hc,hd,hi,_⟩:=t
 unfold ivH
 dsimp only
 rw [ho]
 dsimp only
 rw [hd]
 exact hi.nums
section
variable {prog:Program}{w:World}{A:Around}{E:bA}{s:Shared}
theorem qV {b:Bool}{x y:Int}{t u:Tok}{Q:Bool->Shared->Prop}(h:Q (decide (x < y)) s):wpAny (model prog w) A (oneLt' b (.int x t) (.int y u)) Q E s:=by
 cases b with
 | true=>exact oneLt_int h
 | false=>exact PySem.W.kat_one _ _ (lt_int h)
theorem rC {b fin:Bool}{Q:Bool->Shared->Prop}:∀ {xs ys:bJ} {r t:List Int} (i:Nat),IntsAre xs r->IntsAre ys t->fin=decide (i + r.length < i + t.length)->Q (ltI r t) s->PySem.W.KatLex prog w A b fin Q (xs.zip ys) i s
 | _,_,_,_,i,.nil,.nil,hf,h=>by
  have:fin=false:=by rw [hf];simp
  subst this
  exact PySem.W.kat_nil h
 | _,_,_,_,i,.nil,.cons n t' hy,hf,h=>by
  have:fin=true:=by rw [hf];simp
  subst this
  exact PySem.W.kat_nil h
 | _,_,_,_,i,.cons n t' hx,.nil,hf,h=>by
  have:fin=false:=by rw [hf];simp
  subst this
  exact PySem.W.kat_nil h
 | _,_,_,_,i,.cons (vs:=xs) (ns:=r) n t' hx,.cons (vs:=ys) (ns:=t) m u hy,hf,h=>by
  rw [ltI] at h
  refine PySem.W.kat_cons (SeqAt.EqAt.int_int n t' m u prog w _ _ ?_)
  by_cases e:n=m
  ·subst e
   rw [if_pos rfl] at h
   rw [beq_self_eq_true]
   refine PySem.W.kat_yes (rC (i + 1) hx hy ?_ h)
   rw [hf]
   simp only [List.length_cons]
   congr 1
   simp
  ·rw [if_neg e] at h
   rw [show (n == m)=false by simpa using e]
   exact PySem.W.kat_no (qV h)
theorem AV {x y:Keyed}{r t:List Int}{b:Bool}{st:SortSt}{Q:Option Bool->SortSt->Prop}(hx:zO s.heap x.1 r)(hy:zO s.heap y.1 t)(hk:kindOf st=tuples' b)(h:Q (some (ltI r t)) st):wpS (model prog w) A E s (lt' x y) Q st:=by
 obtain ⟨a,o,xs,n,e1,ho,hc,hd,hi,_⟩:=hx
 obtain ⟨a',o',xs',n',e1',ho',hc',hd',hi',_⟩:=hy
 rw [lt'_eq]
 refine wpS_bind (wpS_get ?_)
 rw [hk,e1,e1']
 refine wpS_bind (wpS_lift (wpAny_attempt (PySem.W.kat_lt ho hd ho' hd' (rC 0 hi hi' ?_ ⟨rfl,?_⟩))))
 ·rw [Nat.zero_add,Nat.zero_add,← hi.length,← hi'.length,Array.length_toList,Array.length_toList]
 ·exact wpS_pure h
theorem qH {l:Addr}{vs:bJ}{Q:bA}(hl:s.heap.IsList l vs.toArray)(hz:vs.length<=sizeLine)(hT:∀ v ∈ vs,∃ r,zO s.heap v r)
  (q:∀ out:d8,out.toList.Perm vs->out.toList.Pairwise (fun x y=>ltI (ivH s.heap y) (ivH s.heap x)=false)->Q (.ref (s.heap.objs.size + 1)) { s with heap:=sortedAll s.heap vs out }) :
  wpAny (model prog w) A (call (.builtin "sorted") (.ref l :: [])) Q E s:=by
 have tup:∀ {h':Heap},(∀ b o,b≠s.heap.objs.size + 1->(((s.heap.push (seqObj "list" #[] 0)).update s.heap.objs.size (Obj.mapSeq (· ++ vs.toArray))).push (seqObj "list" vs.toArray 0)).get? b=some o->h'.get? b=some o)->∀ {v r},zO s.heap v r->zO h' v r:=fun {h'} k {v r} t=>by
  refine t.same fun b o hc e=>?_
  have lt:b < s.heap.objs.size:=Heap.lt_size e
  refine k b o (Nat.ne_of_lt (Nat.lt_succ_of_lt lt)) (Heap.get?_push_of_some _ ?_)
  rw [Heap.get?_update_ne _ _ _ _ (Nat.ne_of_lt lt)]
  exact Heap.get?_push_of_some _ e
 refine Calls.call_function_entry kind_sorted plain_sorted entry_sorted (args_sorted1 _) (show wpAny _ _ (Builtin.«sorted» _) _ _ _ from ?_)
 unfold Builtin.«sorted»
 have sz:((s.heap.push (seqObj "list" #[] 0)).update s.heap.objs.size (Obj.mapSeq (· ++ vs.toArray))).objs.size=s.heap.objs.size + 1:=(Heap.size_update _ _ _).trans (size_push' _ _)
 refine wpAny_bind (m:=checkCount "sorted" 1 1 _) (wpAny_pure (wpAny_bind (collect_list hl (wpAny_bind (wpAny_newList ?_ hz)) hz)))
 have at1:(((s.heap.push (seqObj "list" #[] 0)).update s.heap.objs.size (Obj.mapSeq (· ++ vs.toArray))).push (seqObj "list" vs.toArray 0)).get? (s.heap.objs.size + 1)=some (seqObj "list" vs.toArray 0):=sz ▸ Heap.get?_push_size _ rfl
 change wpAny _ _ _ _ _ { s with heap:=((s.heap.push (seqObj "list" #[] 0)).update s.heap.objs.size (Obj.mapSeq (· ++ vs.toArray))).push (seqObj "list" vs.toArray 0) }
 rw [sz]
 refine wpAny_bind (wpAny_holding (wpAny_call_entry slot_list_sort ⟨_,at1,rfl⟩ entry_list_sort (hZ (kf:=rank ltI (fun p:Keyed=>ivH s.heap p.1) (pairsOf vs).toList) (κ:=tuples' true) at1 hz ?_ ?_ fun out ps pm so eo=>⟨_,rfl,wpAny_pure ⟨_,rfl,q out ?_ ?_⟩⟩) (args_list_sort _)))
 ·intro h' k h2 Q' hQ
  have kt:∀ vs':bJ,(∀ v ∈ vs',v ∈ vs)->∃ fs:bJ,PySem.W.KatTups h' vs' fs/\fs.length=vs'.length/\∀ f ∈ fs,∃ n t,f = .int n t:=by
   intro vs'
   induction vs' with
   | nil=>exact fun _=>⟨[],PySem.W.KatTups.nil,rfl,fun f hf=>nomatch hf⟩
   | cons v vs' ih =>
    intro hm
    obtain ⟨fs,f1,f2,f3⟩:=ih fun x hx=>hm x (List.mem_cons_of_mem _ hx)
    obtain ⟨r,t⟩:=hT v (hm v List.mem_cons_self)
    obtain ⟨a,o,xs,n,rfl,ho,hc,hd,hi,hr⟩:=tup k t
    obtain ⟨xl⟩:=xs
    cases hi with
    | nil=>exact absurd rfl hr
    | cons m tk hi' =>
     refine ⟨.int m tk :: fs,PySem.W.KatTups.cons ho hc hd rfl f1,by rw [List.length_cons,f2,List.length_cons],fun f hf=>?_⟩
     exact (List.mem_cons.mp hf).elim (fun z=>⟨m,tk,z⟩) (f3 f)
  obtain ⟨fs,f1,f2,f3⟩:=kt vs fun _ h=>h
  refine PySem.W.kat_kind (T:=.type "int") f1 (by omega) (fun f hf=>?_) rfl hQ
  obtain ⟨m,tk,rfl⟩:=f3 f hf
  exact PySem.W.Looks.now
 ·intro h' k x y hx hy st Q' hk hQ
  have inx:∀ z:Keyed,z ∈ (pairsOf vs).toList->z.1 ∈ vs:=fun z hz'=>by rw [pairsOf_toList] at hz';exact (mem_zip_self hz').2
  obtain ⟨r,tr⟩:=hT _ (inx x hx)
  obtain ⟨t,tt⟩:=hT _ (inx y hy)
  refine AV (tup k tr) (tup k tt) hk ?_
  rw [eQ gQ hx hy,tO tr,tO tt] at hQ
  exact hQ
 ·rw [eo]
  have:=pm.map (·.2)
  rw [pairsOf_toList,List.map_snd_zip (Nat.le_refl _)] at this
  exact this
 ·rw [eo]
  refine List.pairwise_map.mpr ?_
  refine so.imp_of_mem fun {x y} hx hy le=>?_
  have e:∀ z ∈ ps,z.1=z.2:=fun z hz'=>by
   have:=pm.mem_iff.mp hz'
   rw [pairsOf_toList] at this
   exact (mem_zip_self this).1
  have:=eQ gQ (iv:=fun p:Keyed=>ivH s.heap p.1) (pm.mem_iff.mp hy) (pm.mem_iff.mp hx)
  rw [e x hx,e y hy] at this
  rw [← this]
  exact decide_eq_false (Nat.not_lt.mpr le)
end
end L2
namespace L2
open PySem PySem.Spec PyProof.Rows
noncomputable def sE (H:Hp)(v:V)(r:List Int):Prop:=∃ p,v = .ref p/\H p=some (.tup (r.map V.int))/\r≠[]
noncomputable def intV0:V->Int
 | .int i=>i
 | _=>0
noncomputable def rowV (H:Hp)(v:V):List Int:=match v with
 | .ref p=>match H p with
  | some (.tup us)=>us.map intV0
  | _=>[]
 | _=>[]
theorem zX {H:Hp}{v:V}{r:List Int}(h:sE H v r):rowV H v=r:=by
 obtain ⟨p,rfl,e,_⟩:=h
 unfold rowV
 dsimp only
 rw [e]
 show (r.map V.int).map intV0=r
 rw [List.map_map]
 exact List.map_id' _
theorem jR:∀ {r:List Int} {us:bJ},aK (r.map V.int) us->IntsAre us r
 | [],us,h=>by cases h;exact .nil
 | i :: r,us,h=>by
  cases h with
  | cons a t =>
   obtain ⟨tk,rfl⟩:=a
   exact .cons i tk (jR t)
theorem uE {P:Program}{w:World}{H:Hp}{h:Heap}{v:V}{u:Value}{r:List Int}(ok:eD P w H h)(hr:sE H v r)(ru:aL v u):zO h u r:=by
 obtain ⟨p,rfl,e,ne⟩:=hr
 cases ru
 obtain ⟨_,us,rv,o,h1,h2,n,h3⟩:=(show aU P w H h p (.tup (r.map V.int)) from ok p _ e)
 exact ⟨p,o,_,n,rfl,h1,h2,h3,by rw [List.toList_toArray];exact jR rv,ne⟩
noncomputable def refV:Value->V
 | .ref p=>.ref p
 | _=>.non
noncomputable def AD:List V->Hp->VK->Prop:=fun xs H Q=>∃ (a:Addr) (vs:List V),xs=[.ref a]/\H a=some (.lst vs)/\(∀ v ∈ vs,∃ r,sE H v r) /\
 ∀ vs':List V,vs'.Perm vs->vs'.Pairwise (fun x y=>ltI (rowV H y) (rowV H x)=false)->∀ p,H p=none->Q (.ref p) (upd H p (.lst vs'))
section
variable {X:Cx}
theorem rV:bI X (.builtin "sorted") AD:=by
 intro pins s σ H xs us Q I rv h
 obtain ⟨a,vs,rfl,ha,hr,q⟩:=h
 obtain ⟨u,rfl,ru⟩:=aK.one rv
 cases ru
 obtain ⟨its,r,pl,hz⟩:=I.list (cY.of ha)
 have mem:∀ u ∈ its,∃ v ∈ vs,aL v u/\u=(match v with | .ref p=>Value.ref p | _=>.none)/\v=refV u:=by
  intro u hu
  have:∀ {vs:List V} {its:bJ},aK vs its->(∀ v ∈ vs,∃ r,sE H v r)->u ∈ its->∃ v ∈ vs,aL v u/\u=(match v with | .ref p=>Value.ref p | _=>.none)/\v=refV u:=by
   intro vs its hv
   induction hv with
   | nil=>exact fun _ z=>nomatch z
   | @cons v u' vs its a t ih =>
    intro hr hu
    rcases List.mem_cons.mp hu with rfl | hu
    ·obtain ⟨_,p,rfl,_⟩:=hr v List.mem_cons_self
     cases a
     exact ⟨_,List.mem_cons_self,rfl,rfl,rfl⟩
    ·obtain ⟨v',m,z⟩:=ih (fun v hv=>hr v (List.mem_cons_of_mem _ hv)) hu
     exact ⟨v',List.mem_cons_of_mem _ m,z⟩
  exact this r hr hu
 have eq:∀ {vs:List V} {its:bJ},aK vs its->(∀ v ∈ vs,∃ r,sE H v r)->its.map refV=vs:=by
  intro vs its hv
  induction hv with
  | nil=>exact fun _=>rfl
  | @cons v u' vs its a t ih =>
   intro hr
   obtain ⟨_,p,rfl,_⟩:=hr v List.mem_cons_self
   cases a
   rw [List.map_cons,ih fun v hv=>hr v (List.mem_cons_of_mem _ hv)]
   rfl
 have row:∀ u ∈ its,ivH s.heap u=rowV H (refV u):=fun u hu=>by
  obtain ⟨v,m,rel,_,e⟩:=mem u hu
  obtain ⟨rw_,hrw⟩:=hr v m
  rw [tO (uE I.hok hrw rel),← e,zX hrw]
 have valsR:∀ l:bJ,(∀ u ∈ l,u ∈ its)->aK (l.map refV) l:=by
  intro l
  induction l with
  | nil=>exact fun _=>.nil
  | cons u l ih =>
   intro hm
   refine .cons ?_ (ih fun x hx=>hm x (List.mem_cons_of_mem _ hx))
   obtain ⟨v,_,rel,_,e⟩:=mem u (hm u List.mem_cons_self)
   rw [← e]
   exact rel
 refine qH (vs:=its) pl.isList (by rw [← r.length];exact hz) (fun u hu=>?_) fun out pm so=>?_
 ·obtain ⟨v,m,rel,_⟩:=mem u hu
  obtain ⟨rw_,hrw⟩:=hr v m
  exact ⟨rw_,uE I.hok hrw rel⟩
 ·obtain ⟨e,g⟩:=sortedAll_at s.heap its out
  have inn:∀ u ∈ out.toList,u ∈ its:=fun u hu=>pm.mem_iff.mp hu
  refine ⟨.ref (s.heap.objs.size + 1),_,I.laid (t':=s.toks) (o:=.lst (out.toList.map refV)) (fun b o z=>sortedAll_old z) (Nat.le_succ _) ⟨?_,_,_,valsR _ inn,by simpa [seqObj] using g⟩,rfl,q _ ?_ ?_ _ (I.hok.fresh (Nat.le_succ _))⟩
  ·rw [List.length_map,pm.length_eq,← r.length]
   exact hz
  ·have:=pm.map refV
   rw [eq r hr] at this
   exact this
  ·refine List.pairwise_map.mpr (so.imp_of_mem fun {x y} hx hy z=>?_)
   rw [← row x (inn x hx),← row y (inn y hy)]
   exact z
end
end L2
namespace K42
noncomputable def dot:List Int->List Nat->Int
 | s :: ss,x :: xs=>s * (x:Int) + dot ss xs
 | _,_=>0
noncomputable def tot:List Nat->Nat
 | []=>0
 | x :: xs=>x + tot xs
noncomputable def inc:List Nat->Nat->List Nat
 | [],_=>[]
 | x :: r,0=>(x + 1) :: r
 | x :: r,i + 1=>x :: inc r i
noncomputable def zro (n:Nat):List Nat:=List.replicate n 0
noncomputable def lew:List Nat->List Nat->Prop
 | [],[]=>True
 | x :: xs,y :: ys=>x<=y/\lew xs ys
 | _,_=>False
noncomputable def mns:List Nat->List Nat->List Nat
 | x :: xs,y :: ys=>(x - y) :: mns xs ys
 | _,_=>[]
theorem len_inc:∀ (r:List Nat) (i:Nat),(inc r i).length=r.length
 | [],_=>rfl
 | _ :: _,0=>rfl
 | _ :: r,i + 1=>by simp [inc,len_inc r i]
theorem tot_inc:∀ (r:List Nat) (i:Nat),i < r.length->tot (inc r i)=tot r + 1
 | [],_,h=>by simp at h
 | x :: r,0,_=>by simp [inc,tot];omega
 | x :: r,i + 1,h=>by simp [inc,tot,tot_inc r i (by simpa using h)];omega
theorem dot_inc:∀ (ss:List Int) (r:List Nat) (i:Nat) (s:Int),ss.length=r.length->ss[i]?=some s->dot ss (inc r i)=dot ss r + s
 | [],_,_,_,_,is=>by simp at is
 | _ :: _,[],_,_,e,_=>by simp at e
 | z :: ss,x :: r,0,s,_,h=>by
  simp at h;subst h
  simp only [inc,dot]
  rw [Int.natCast_add,Int.mul_add];simp;omega
 | z :: ss,x :: r,i + 1,s,e,h=>by
  simp only [inc,dot]
  rw [dot_inc ss r i s (by simpa using e) (by simpa using h)];omega
theorem lew_refl:∀ r:List Nat,lew r r
 | []=>trivial
 | _ :: r=>⟨Nat.le_refl _,lew_refl r⟩
theorem lew_trans:∀ {a b c:List Nat},lew a b->lew b c->lew a c
 | [],[],[],_,_=>trivial
 | _ :: _,_ :: _,_ :: _,h,k=>⟨Nat.le_trans h.1 k.1,lew_trans h.2 k.2⟩
 | [],_ :: _,_,h,_=>h.elim
 | _ :: _,[],_,h,_=>h.elim
 | [],[],_ :: _,_,k=>k.elim
 | _ :: _,_ :: _,[],_,k=>k.elim
theorem uW:∀ {a b:List Nat},lew a b->a.length=b.length
 | [],[],_=>rfl
 | _ :: _,_ :: _,h=>by simp [uW h.2]
 | [],_ :: _,h=>h.elim
 | _ :: _,[],h=>h.elim
theorem lew_tot:∀ {a b:List Nat},lew a b->tot a<=tot b
 | [],[],_=>Nat.le_refl _
 | x :: _,y :: _,h=>by have:=lew_tot h.2;have:=h.1;simp only [tot];omega
 | [],_ :: _,h=>h.elim
 | _ :: _,[],h=>h.elim
theorem lew_eq:∀ {a b:List Nat},lew a b->tot b<=tot a->a=b
 | [],[],_,_=>rfl
 | x :: a,y :: b,h,e=>by
  have h1:=lew_tot h.2
  have h2:=h.1
  simp only [tot] at e
  have e1:x=y:=by omega
  rw [e1,lew_eq h.2 (by omega)]
 | [],_ :: _,h,_=>h.elim
 | _ :: _,[],h,_=>h.elim
theorem uX:∀ (r:List Nat) (i:Nat),lew r (inc r i)
 | [],_=>trivial
 | x :: r,0=>⟨Nat.le_succ _,lew_refl r⟩
 | x :: r,i + 1=>⟨Nat.le_refl _,uX r i⟩
theorem uV:∀ (r:List Nat),lew (zro r.length) r
 | []=>trivial
 | _ :: r=>⟨Nat.zero_le _,uV r⟩
theorem kM:∀ n:Nat,tot (zro n)=0
 | 0=>rfl
 | n + 1=>by show 0 + tot (zro n)=0;rw [kM n]
theorem dot_zro:∀ (ss:List Int) (n:Nat),dot ss (zro n)=0
 | [],n=>by cases n <;> rfl
 | _ :: _,0=>rfl
 | s :: ss,n + 1=>by show s * ((0:Nat):Int) + dot ss (zro n)=0;rw [dot_zro ss n];simp
theorem w9:∀ {r:List Nat},tot r=0->r=zro r.length
 | [],_=>rfl
 | x :: r,h=>by
  simp only [tot] at h
  have e:x=0:=by omega
  have:=w9 (r:=r) (by omega)
  show x :: r=0 :: zro r.length
  rw [e,← this]
theorem pC:∀ {a b:List Nat},lew a b->lew (mns b a) b
 | [],[],_=>trivial
 | x :: _,y :: _,h=>⟨Nat.sub_le _ _,pC h.2⟩
 | [],_ :: _,h=>h.elim
 | _ :: _,[],h=>h.elim
theorem uP:∀ {a b:List Nat},lew a b->tot (mns b a) + tot a=tot b
 | [],[],_=>rfl
 | x :: _,y :: _,h=>by have:=uP h.2;have:=h.1;simp only [tot,mns];omega
 | [],_ :: _,h=>h.elim
 | _ :: _,[],h=>h.elim
theorem uQ:∀ (ss:List Int) {a b:List Nat},lew a b->dot ss (mns b a)=dot ss b - dot ss a
 | [],[],[],_=>rfl
 | [],_ :: _,_ :: _,_=>rfl
 | _ :: _,[],[],_=>rfl
 | s :: ss,x :: _,y :: _,h=>by
  have h1:=uQ ss h.2
  simp only [dot,mns]
  rw [h1,Int.ofNat_sub h.1,Int.mul_sub];omega
 | _,[],_ :: _,h=>h.elim
 | _,_ :: _,[],h=>h.elim
theorem pick (c:Int):∀ (ss:List Int) {r s:List Nat},ss.length=r.length->lew r s->c * (dot ss s - dot ss r) < 0->∃ i z,ss[i]?=some z/\c * z < 0/\lew (inc r i) s
 | [],[],[],_,_,h=>by simp [dot] at h
 | [],_ :: _,_,e,_,_=>by simp at e
 | _ :: _,[],_,e,_,_=>by simp at e
 | z :: ss,x :: r,y :: s,e,l,h=>by
  by_cases q:c * z < 0/\x < y
  ·exact ⟨0,z,rfl,q.1,q.2,l.2⟩
  ·have h2:c * (dot ss s - dot ss r) < 0:=by
    simp only [dot] at h
    have e1:c * (z * (y:Int) + dot ss s - (z * (x:Int) + dot ss r))=(c * z) * ((y:Int) - (x:Int)) + c * (dot ss s - dot ss r):=by
     rw [show z * (y:Int) + dot ss s - (z * (x:Int) + dot ss r)=z * ((y:Int) - (x:Int)) + (dot ss s - dot ss r) by rw [Int.mul_sub];omega,Int.mul_add,Int.mul_assoc]
    rw [e1] at h
    have l1:=l.1
    have:0<=(c * z) * ((y:Int) - (x:Int)):=by
     by_cases q1:c * z < 0
     ·have:¬ x < y:=fun t=>q ⟨q1,t⟩
      have e2:(y:Int) - (x:Int)=0:=by omega
      rw [e2];simp
     ·exact Int.mul_nonneg (by omega) (by omega)
    omega
   obtain ⟨i,w,h3,h4,h5⟩:=pick c ss (by simpa using e) l.2 h2
   exact ⟨i + 1,w,by simpa using h3,h4,l.1,h5⟩
 | _ :: _,_ :: _,[],_,l,_=>l.elim
 | [],[],_ :: _,_,l,_=>l.elim
noncomputable def Sol (ss:List Int)(r:List Nat):Prop:=r.length=ss.length/\dot ss r=0/\0 < tot r
noncomputable def Min (ss:List Int)(r:List Nat):Prop:=Sol ss r/\∀ s,Sol ss s->lew s r->s=r
noncomputable def nA (ss:List Int)(r:List Nat):Prop:=∀ s,Sol ss s->lew s r->s=r
inductive Gr (ss:List Int):List Nat->Prop
 | unit (i:Nat) (z:Int) (h:ss[i]?=some z):Gr ss (inc (zro ss.length) i)
 | more (r:List Nat) (i:Nat) (z:Int) (h:ss[i]?=some z) (g:Gr ss r) (k:nA ss r) (n:dot ss r * z < 0):Gr ss (inc r i)
theorem Gr.len {ss:List Int}{r:List Nat}(g:Gr ss r):r.length=ss.length:=by
 induction g with
 | unit i z h=>rw [len_inc];simp [zro]
 | more r i z h g k n ih=>rw [len_inc,ih]
theorem lt_of {α:Type}{l:List α}{i:Nat}{x:α}(h:l[i]?=some x):i < l.length:=(List.getElem?_eq_some_iff.mp h).1
theorem Gr.pos {ss:List Int}{r:List Nat}(g:Gr ss r):0 < tot r:=by
 cases g with
 | unit i z h=>rw [tot_inc _ _ (by simp [zro];exact lt_of h)];omega
 | more r i z h g k n=>rw [tot_inc _ _ (by rw [g.len];exact lt_of h)];omega
theorem nR (ss:List Int):∀ (m:Nat) (s:List Nat),tot s<=m->Sol ss s->∃ t,Min ss t/\lew t s
 | 0,s,h,q=>by have:=q.2.2;omega
 | m + 1,s,h,q=>by
  by_cases z:∀ t,Sol ss t->lew t s->t=s
  ·exact ⟨s,⟨q,z⟩,lew_refl s⟩
  ·obtain ⟨t,z⟩:=Classical.not_forall.mp z
   obtain ⟨z1,z⟩:=Classical.not_imp.mp z
   obtain ⟨z2,z3⟩:=Classical.not_imp.mp z
   have:tot t < tot s:=by
    rcases Nat.lt_or_ge (tot t) (tot s) with h | h
    ·exact h
    ·exact absurd (lew_eq z2 h) z3
   obtain ⟨u,h1,h2⟩:=nR ss m t (by omega) z1
   exact ⟨u,h1,lew_trans h2 z2⟩
theorem rG {ss:List Int}{x:List Nat}:nA ss x ↔ ∀ s,Min ss s->tot s < tot x->¬ lew s x:=by
 refine ⟨fun h s m l q=>?_,fun h s q l=>?_⟩
 ·have:=h s m.1 q;subst this;omega
 ·rcases Nat.lt_or_ge (tot s) (tot x) with e | e
  ·obtain ⟨t,m,l2⟩:=nR ss _ s (Nat.le_refl _) q
   exact absurd (lew_trans l2 l) (h t m (by have:=lew_tot l2;omega))
  ·exact lew_eq l e
theorem complete {ss:List Int}{s:List Nat}(m:Min ss s):Gr ss s:=by
 have go:∀ (n:Nat) (r:List Nat),tot s - tot r=n->Gr ss r->lew r s->Gr ss s:=by
  intro n
  induction n with
  | zero =>
   intro r e g l
   rw [← lew_eq l (by omega)];exact g
  | succ n ih =>
   intro r e g l
   have ne:r≠s:=fun z=>by subst z;omega
   have d:dot ss r≠0:=fun z=>ne (m.2 r ⟨g.len,z,g.pos⟩ l)
   have k:nA ss r:=fun t q lt=>absurd (lew_eq l (by have e1:=m.2 t q (lew_trans lt l);subst e1;exact lew_tot lt)) ne
   obtain ⟨i,z,h1,h2,h3⟩:=pick (dot ss r) ss (by rw [g.len]) l (by
    rw [m.1.2.1]
    rcases Int.lt_or_gt_of_ne d with h | h
    ·rw [show dot ss r * (0 - dot ss r) = -(dot ss r * dot ss r) by rw [Int.mul_sub];simp]
     have:=Int.mul_pos_of_neg_of_neg h h;omega
    ·rw [show dot ss r * (0 - dot ss r) = -(dot ss r * dot ss r) by rw [Int.mul_sub];simp]
     have:=Int.mul_pos h h;omega)
   exact ih _ (by rw [tot_inc _ _ (by rw [g.len];exact lt_of h1)];omega) (.more r i z h1 g k h2) h3
 have p:=m.1.2.2
 obtain ⟨i,h1,h2⟩:∃ i,i < s.length/\lew (inc (zro s.length) i) s:=by
  have:∀ s:List Nat,0 < tot s->∃ i,i < s.length/\lew (inc (zro s.length) i) s:=by
   intro s
   induction s with
   | nil=>intro h;simp [tot] at h
   | cons x s ih =>
    intro h
    by_cases q:0 < x
    ·exact ⟨0,by simp,q,uV s⟩
    ·simp only [tot] at h
     obtain ⟨i,h1,h2⟩:=ih (by omega)
     exact ⟨i + 1,by simpa using h1,Nat.zero_le _,h2⟩
  exact this s p
 rw [m.1.1] at h1 h2
 exact go _ _ rfl (.unit i ss[i] (List.getElem?_eq_getElem h1)) h2
theorem v9 {ss:List Int}{x:List Nat}:(tot x=1/\Gr ss x/\nA ss x) ↔ ∃ i z,ss[i]?=some z/\x=inc (zro ss.length) i:=by
 constructor
 ·rintro ⟨h,g,_⟩
  cases g with
  | unit i z h2=>exact ⟨i,z,h2,rfl⟩
  | more r i z h2 g k n =>
   rw [tot_inc _ _ (by rw [g.len];exact lt_of h2)] at h
   have:=g.pos
   omega
 ·rintro ⟨i,z,h,rfl⟩
  have t:tot (inc (zro ss.length) i)=1:=by rw [tot_inc _ _ (by simp [zro];exact lt_of h),kM]
  exact ⟨t,.unit i z h,fun s q l=>lew_eq l (by have:=q.2.2;omega)⟩
theorem tL {ss:List Int}{x:List Nat}{k:Nat}(hk:1<=k):(tot x=k + 1/\Gr ss x/\nA ss x) ↔
  (∃ r i z,(tot r=k/\Gr ss r/\nA ss r)/\ss[i]?=some z/\dot ss r * z < 0/\x=inc r i)/\∀ s,Min ss s->tot s < k + 1->¬ lew s x:=by
 constructor
 ·rintro ⟨h,g,q⟩
  refine ⟨?_,fun s m l=>(rG.mp q) s m (by omega)⟩
  cases g with
  | unit i z h2 =>
   rw [tot_inc _ _ (by simp [zro];exact lt_of h2),kM] at h
   omega
  | more r i z h2 g q' n =>
   rw [tot_inc _ _ (by rw [g.len];exact lt_of h2)] at h
   exact ⟨r,i,z,⟨by omega,g,q'⟩,h2,n,rfl⟩
 ·rintro ⟨⟨r,i,z,⟨h1,h2,h3⟩,h4,h5,rfl⟩,h6⟩
  have t:tot (inc r i)=k + 1:=by rw [tot_inc _ _ (by rw [h2.len];exact lt_of h4),h1]
  exact ⟨t,.more r i z h4 h2 h3 h5,rG.mpr fun s m l=>h6 s m (by omega)⟩
theorem tV {ss:List Int}{x:List Nat}{k:Nat}:(Min ss x/\tot x=k) ↔ ((tot x=k/\Gr ss x/\nA ss x)/\dot ss x=0) :=
 ⟨fun ⟨m,h⟩=>⟨⟨h,complete m,m.2⟩,m.1.2.1⟩,fun ⟨⟨h,g,q⟩,d⟩=>⟨⟨⟨g.len,d,g.pos⟩,q⟩,h⟩⟩
theorem down {ss:List Int}{x:List Nat}(g:Gr ss x):∀ k,1<=k->k<=tot x->nA ss x->∃ y,tot y=k/\Gr ss y/\nA ss y:=by
 induction g with
 | unit i z h =>
  intro k h1 h2 q
  have t:tot (inc (zro ss.length) i)=1:=by rw [tot_inc _ _ (by simp [zro];exact lt_of h),kM]
  exact ⟨_,by omega,.unit i z h,q⟩
 | more r i z h g q n ih =>
  intro k h1 h2 q2
  have t:=tot_inc r i (by rw [g.len];exact lt_of h)
  rcases Nat.lt_or_ge k (tot (inc r i)) with e | e
  ·exact ih k h1 (by omega) q
  ·exact ⟨_,by omega,.more r i z h g q n,q2⟩
noncomputable def posT:List Int->List Nat->Nat
 | s :: ss,x :: xs=>(if 0 < s then x else 0) + posT ss xs
 | _,_=>0
noncomputable def negT:List Int->List Nat->Nat
 | s :: ss,x :: xs=>(if s < 0 then x else 0) + negT ss xs
 | _,_=>0
theorem lH:∀ (ss:List Int) (r:List Nat) (i:Nat) (z:Int),ss.length=r.length->ss[i]?=some z->posT ss (inc r i)=posT ss r + (if 0 < z then 1 else 0)
 | [],_,_,_,_,is=>by simp at is
 | _ :: _,[],_,_,e,_=>by simp at e
 | z :: ss,x :: r,0,s,_,h=>by
  simp at h;subst h
  simp only [inc,posT]
  split <;> omega
 | z :: ss,x :: r,i + 1,s,e,h=>by
  simp only [inc,posT]
  rw [lH ss r i s (by simpa using e) (by simpa using h)];omega
theorem lP:∀ (ss:List Int) (r:List Nat) (i:Nat) (z:Int),ss.length=r.length->ss[i]?=some z->negT ss (inc r i)=negT ss r + (if z < 0 then 1 else 0)
 | [],_,_,_,_,is=>by simp at is
 | _ :: _,[],_,_,e,_=>by simp at e
 | z :: ss,x :: r,0,s,_,h=>by
  simp at h;subst h
  simp only [inc,negT]
  split <;> omega
 | z :: ss,x :: r,i + 1,s,e,h=>by
  simp only [inc,negT]
  rw [lP ss r i s (by simpa using e) (by simpa using h)];omega
theorem qR:∀ (ss:List Int) (n:Nat),posT ss (zro n)=0
 | [],n=>by cases n <;> rfl
 | _ :: _,0=>rfl
 | s :: ss,n + 1=>by show (if 0 < s then 0 else 0) + posT ss (zro n)=0;rw [qR ss n];simp
theorem qZ:∀ (ss:List Int) (n:Nat),negT ss (zro n)=0
 | [],n=>by cases n <;> rfl
 | _ :: _,0=>rfl
 | s :: ss,n + 1=>by show (if s < 0 then 0 else 0) + negT ss (zro n)=0;rw [qZ ss n];simp
theorem few (lo:Int):∀ (n:Nat) (l:List Int),l.Nodup->(∀ v ∈ l,lo<=v/\v < lo + (n:Int))->l.length<=n
 | 0,[],_,_=>Nat.le_refl _
 | 0,v :: l,_,h=>by have:=h v List.mem_cons_self;omega
 | n + 1,l,d,h=>by
  have h1:(l.filter fun v=>decide (v≠lo + (n:Int))).length<=n:=few lo n _ (d.sublist List.filter_sublist) fun v hv=>by
   obtain ⟨m,e⟩:=List.mem_filter.mp hv
   have:=h v m
   have e:v≠lo + (n:Int):=by simpa using e
   omega
  have h2:∀ (l:List Int) (w:Int),l.Nodup->l.length<=(l.filter fun v=>decide (v≠w)).length + 1:=by
   intro l w
   induction l with
   | nil=>intro _;simp
   | cons v l ih =>
    intro d
    obtain ⟨d1,d2⟩:=List.nodup_cons.mp d
    by_cases e:v=w
    ·subst e
     have:(l.filter fun u=>decide (u≠v))=l:=List.filter_eq_self.mpr fun u hu=>by
      have:u≠v:=fun z=>d1 (z ▸ hu)
      simpa using this
     simp only [List.filter_cons,ne_eq,not_true_eq_false,decide_false,Bool.false_eq_true,if_false,List.length_cons]
     simp only [ne_eq] at this
     rw [this];exact Nat.le_refl _
    ·have:=ih d2
     simp only [List.filter_cons,ne_eq,e,not_false_eq_true,decide_true,if_true,List.length_cons]
     simp only [ne_eq] at this
     omega
  have:=h2 l (lo + (n:Int)) d
  omega
noncomputable def D5 (ss:List Int)(A B c:Int)(x:List Nat):Prop:=∃ L R:List Int,L.Nodup/\R.Nodup/\posT ss x=L.length/\negT ss x=R.length /\
 (∀ v ∈ L,(∃ r,lew r x/\r≠x/\dot ss r=v)/\1 - B - c<=v/\v<=-c)/\(∀ v ∈ R,(∃ r,lew r x/\r≠x/\dot ss r=v)/\1 - c<=v/\v<=A - c)/\1 - B - c<=dot ss x/\dot ss x<=A - c
theorem way {ss:List Int}{A B:Int}(h1:1<=A)(h2:1<=B)(hs:∀ z ∈ ss,z≠0/\-B<=z/\z<=A){x:List Nat}(g:Gr ss x):D5 ss A B 0 x∨D5 ss A B 1 x:=by
 have bef:∀ {r:List Nat} {i:Nat},i < r.length->∀ {q:List Nat},lew q r->lew q (inc r i)/\q≠inc r i:=fun {r i} hi {q} l=>⟨lew_trans l (uX r i),fun e=>by
  have:=lew_tot l;rw [e,tot_inc r i hi] at this;omega⟩
 induction g with
 | unit i z h =>
  have hz:=hs z (List.mem_of_getElem? h)
  have hl:ss.length=(zro ss.length).length:=by simp [zro]
  have hi:i < (zro ss.length).length:=by rw [← hl];exact lt_of h
  have e1:=lH ss (zro ss.length) i z hl h
  have e2:=lP ss (zro ss.length) i z hl h
  have e3:=dot_inc ss (zro ss.length) i z hl h
  rw [qR] at e1
  rw [qZ] at e2
  rw [dot_zro] at e3
  have old:∃ r,lew r (inc (zro ss.length) i)/\r≠inc (zro ss.length) i/\dot ss r=0:=⟨zro ss.length,(bef hi (lew_refl _)).1,(bef hi (lew_refl _)).2,dot_zro _ _⟩
  rcases Int.lt_or_gt_of_ne hz.1 with p | p
  ·refine .inr ⟨[],[0],by simp,by simp,by rw [e1,if_neg (by omega)];rfl,by rw [e2,if_pos p];rfl,by simp,fun v hv=>?_,by omega,by omega⟩
   rw [List.mem_singleton.mp hv]
   exact ⟨old,by omega,by omega⟩
  ·refine .inl ⟨[0],[],by simp,by simp,by rw [e1,if_pos p];rfl,by rw [e2,if_neg (by omega)];rfl,fun v hv=>?_,by simp,by omega,by omega⟩
   rw [List.mem_singleton.mp hv]
   exact ⟨old,by omega,by omega⟩
 | more r i z h g k n ih =>
  have hz:=hs z (List.mem_of_getElem? h)
  have hl:ss.length=r.length:=g.len.symm
  have hi:i < r.length:=by rw [← hl];exact lt_of h
  have e1:=lH ss r i z hl h
  have e2:=lP ss r i z hl h
  have e3:=dot_inc ss r i z hl h
  have here:∃ q,lew q (inc r i)/\q≠inc r i/\dot ss q=dot ss r:=⟨r,(bef hi (lew_refl _)).1,(bef hi (lew_refl _)).2,rfl⟩
  have up:∀ {v:Int},(∃ q,lew q r/\q≠r/\dot ss q=v)->∃ q,lew q (inc r i)/\q≠inc r i/\dot ss q=v:=fun ⟨q,a,_,b⟩=>⟨q,(bef hi a).1,(bef hi a).2,b⟩
  have new:∀ {v:Int},(∃ q,lew q r/\q≠r/\dot ss q=v)->v≠dot ss r:=fun ⟨q,a,ne,b⟩ e=>by
   have t:=uP a
   have lt:tot q < tot r:=by
    rcases Nat.lt_or_ge (tot q) (tot r) with h | h
    ·exact h
    ·exact absurd (lew_eq a h) ne
   have:=k (mns r q) ⟨by rw [uW (pC a),g.len],by rw [uQ ss a,b,e];omega,by omega⟩ (pC a)
   rw [this] at t
   have z0:tot q=0:=by omega
   have z1:=w9 z0
   have d0:dot ss r=0:=by rw [← e,← b,z1];exact dot_zro _ _
   rw [d0] at n;simp at n
  have step:∀ c:Int,(c=0∨c=1)->D5 ss A B c r->D5 ss A B c (inc r i):=by
   rintro c hc ⟨L,R,dL,dR,lL,lR,vL,vR,lo,hi'⟩
   rcases Int.lt_or_gt_of_ne hz.1 with p | p
   ·have pd:0 < dot ss r:=by
     by_cases q:0 < dot ss r
     ·exact q
     ·have:=Int.mul_nonneg_of_nonpos_of_nonpos (Int.not_lt.mp q) (Int.le_of_lt p);omega
    refine ⟨L,dot ss r :: R,dL,List.nodup_cons.mpr ⟨fun m=>new (vR _ m).1 rfl,dR⟩,by rw [e1,if_neg (by omega),lL];rfl,by rw [e2,if_pos p,lR];rfl,fun v m=>⟨up (vL v m).1,(vL v m).2⟩,fun v m=>?_,by omega,by omega⟩
    rcases List.mem_cons.mp m with new_ | old
    ·subst new_;exact ⟨here,by omega,by omega⟩
    ·exact ⟨up (vR v old).1,(vR v old).2⟩
   ·have pd:dot ss r < 0:=by
     by_cases q:dot ss r < 0
     ·exact q
     ·have:=Int.mul_nonneg (Int.not_lt.mp q) (Int.le_of_lt p);omega
    refine ⟨dot ss r :: L,R,List.nodup_cons.mpr ⟨fun m=>new (vL _ m).1 rfl,dL⟩,dR,by rw [e1,if_pos p,lL];rfl,by rw [e2,if_neg (by omega),lR];rfl,fun v m=>?_,fun v m=>⟨up (vR v m).1,(vR v m).2⟩,by omega,by omega⟩
    rcases List.mem_cons.mp m with new_ | old
    ·subst new_;exact ⟨here,by omega,by omega⟩
    ·exact ⟨up (vL v old).1,(vL v old).2⟩
  exact ih.imp (step 0 (.inl rfl)) (step 1 (.inr rfl))
theorem bounds {ss:List Int}{A B:Nat}(h1:1<=A)(h2:1<=B)(hs:∀ z ∈ ss,z≠0/\-(B:Int)<=z/\z<=(A:Int)){x:List Nat}(g:Gr ss x):posT ss x<=B/\negT ss x<=A:=by
 have go:∀ c:Int,D5 ss A B c x->posT ss x<=B/\negT ss x<=A:=by
  rintro c ⟨L,R,dL,dR,lL,lR,vL,vR,_⟩
  exact ⟨by rw [lL];exact few (1 - B - c) B L dL fun v m=>by have:=(vL v m).2;omega,by rw [lR];exact few (1 - c) A R dR fun v m=>by have:=(vR v m).2;omega⟩
 exact (way (by omega) (by omega) hs g).elim (go 0) (go 1)
theorem nG:∀ (ss:List Int) (r:List Nat),ss.length=r.length->(∀ z ∈ ss,z≠0)->tot r=posT ss r + negT ss r
 | [],[],_,_=>rfl
 | [],_ :: _,e,_=>by simp at e
 | _ :: _,[],e,_=>by simp at e
 | z :: ss,x :: r,e,h=>by
  have:=nG ss r (by simpa using e) fun z hz=>h z (List.mem_cons_of_mem _ hz)
  have:=h z List.mem_cons_self
  simp only [tot,posT,negT]
  split <;> split <;> omega
theorem few_levels {ss:List Int}(hs:∀ z ∈ ss,z≠0/\-4<=z/\z<=4){x:List Nat}(g:Gr ss x):tot x<=8:=by
 have:=bounds (A:=4) (B:=4) (by decide) (by decide) hs g
 rw [nG ss x g.len.symm fun z hz=>(hs z hz).1]
 omega
end K42
section
local macro_rules | `(tactic| walk_at "rd")=>do
 let xs:Array (Lean.TSyntax [`Lean.Parser.Tactic.simpStar,`Lean.Parser.Tactic.simpErase,`Lean.Parser.Tactic.simpLemma]):=("L2.start List.map_cons List.map_nil List.length_cons List.length_nil Nat.reduceAdd Nat.reduceSub Nat.zero_add List.replicate_succ List.replicate_zero List.cons_append List.nil_append List.set_cons_zero List.set_cons_succ L2.tSeq L2.tIfS L2.tTest L2.tOp L2.tVar L2.tC L2.rI0 L2.tAsg L2.gName L2.gSub L2.rI L2.tRet L2.tNext L2.rSetL L2.rAddF L2.rRep L2.tCB L2.r1 L2.tCons L2.tNil L2.tDrop L2.tAnd L2.tOr L2.tNot L2.tIf L2.tLst L2.tTup L2.tCall L2.tFor_eq L2.tComp_eq L2.tComp2_eq L2.iRng1 L2.iRng2 L2.iAny L2.iSq L2.iZip L2.iZip2 L2.iEnum L2.tRaise L2.tTry L2.rLtL L2.rAll L2.rAny L2.rSum L2.tUn L2.rU L2.gTup L2.gCons L2.gNil L2.tBM L2.tBM0 L2.rAppend L2.rPop L2.rPopAt L2.rExtend L2.tSl L2.tNoPart L2.tPart L2.rSlF L2.rSlU L2.rTupU L2.CStep L2.tYes L2.stC Option.bind_some Option.bind_none Option.join_some L2.tAndV L2.tOrV L2.tNotV L2.tNever not_true_eq_false not_false_eq_true L2.tChain L2.tTruth L2.rIs_eq L2.truV_bl L2.isV_ii L2.isV_ib L2.isV_ll L2.lenV_l L2.lenV_t L2.seqV_l L2.seqV_t L2.ixV_l L2.ixV_t if_true if_false Bool.not_true Bool.not_false Bool.false_eq_true Option.bind_eq_bind Option.pure_def L2.rEqD_ii L2.rNeD_ii L2.rEqD_bb L2.rNeD_bb L2.isV_bb L2.rEqD_ss L2.rNeD_ss Int.zero_add L2.catO_i L2.catO_s L2.addV L2.intV L2.atI_zero L2.atI_one L2.ixN_zero L2.ixN_one L2.upd_same L2.upd_upd Option.map_some Option.map_none List.getElem?_cons_zero List.getElem?_cons_succ Option.some.injEq L2.V.int.injEq L2.V.ref.injEq L2.V.bl.injEq L2.V.str.injEq L2.HO.lst.injEq List.cons.injEq and_true true_and exists_eq_left exists_eq_left' exists_eq_right exists_eq_right' exists_and_left exists_and_right exists_const reduceCtorEq false_and and_false exists_false or_false false_or decide_eq_true_eq ite_eq_left_iff Bool.not_eq_true Bool.not_eq_eq_eq_not decide_eq_false_iff_not decide_true decide_false".splitOn " ").toArray.map fun s=>⟨Lean.mkNode `Lean.Parser.Tactic.simpLemma #[Lean.mkNullNode,Lean.mkNullNode,Lean.mkIdent s.toName]⟩
 let xs:=xs.push ⟨Lean.mkNode `Lean.Parser.Tactic.simpStar #[Lean.mkAtom "*"]⟩
 `(tactic| simp only [$xs,*])
namespace Lw
open PySem L2
noncomputable def mS:bE:=["thing"]
noncomputable def iK:bE:=["thing"]
theorem qK:bB mS iK (aB cP):=⟨rfl,rfl,rfl,by decide +kernel,rfl,by decide +kernel,by decide +kernel⟩
noncomputable def gC:bE:=["thing","least"]
noncomputable def fY:bE:=["thing","least"]
theorem oW:bB gC fY (aB bS):=⟨rfl,rfl,rfl,by decide +kernel,rfl,by decide +kernel,by decide +kernel⟩
noncomputable def eU:bE:=["left","right"]
noncomputable def dC:bE:=["left","right"]
theorem iT:bB eU dC (aB bC):=⟨rfl,rfl,rfl,by decide +kernel,rfl,by decide +kernel,by decide +kernel⟩
noncomputable def mQ:bE:=["left","right"]
noncomputable def mO:bE:=["left","right"]
theorem vT:bB mQ mO (aB dH):=⟨rfl,rfl,rfl,by decide +kernel,rfl,by decide +kernel,by decide +kernel⟩
noncomputable def mP:bE:=["sizes","row"]
noncomputable def mN:bE:=["sizes","row"]
theorem vS:bB mP mN (aB dG):=⟨rfl,rfl,rfl,by decide +kernel,rfl,by decide +kernel,by decide +kernel⟩
noncomputable def iN:bE:=["row","other"]
noncomputable def iL:bE:=["row","other"]
theorem qM:bB iN iL (aB cI):=⟨rfl,rfl,rfl,by decide +kernel,rfl,by decide +kernel,by decide +kernel⟩
noncomputable def dY:bE:=["left","right","sizes"]
noncomputable def fE:bE:=["left","right"]
theorem hU:bB dY fE (aB bD):=⟨rfl,rfl,rfl,by decide +kernel,rfl,by decide +kernel,by decide +kernel⟩
noncomputable def cL:bE:=["sizes","foes","found","level","grown","row","over","place","size"]
noncomputable def fF:bE:=["sizes","foes"]
theorem bH:bB cL fF (aB aX):=⟨rfl,rfl,rfl,by decide +kernel,rfl,by decide +kernel,by decide +kernel⟩
noncomputable def DL:bE:=["place","many"]
noncomputable def t5:bE:=["place","many"]
theorem zW:bB DL t5 (aB iB):=⟨rfl,rfl,rfl,by decide +kernel,rfl,by decide +kernel,by decide +kernel⟩
noncomputable def t6:bE:=["row","place"]
noncomputable def iJ:bE:=["row","place"]
theorem qJ:bB t6 iJ (aB cN):=⟨rfl,rfl,rfl,by decide +kernel,rfl,by decide +kernel,by decide +kernel⟩
noncomputable def wX:bE:=["_law_script","_law_k"]
noncomputable def j4:bE:=["_law_script","_law_k"]
theorem sX:bB wX j4 (aB c0):=⟨rfl,rfl,rfl,by decide +kernel,rfl,by decide +kernel,by decide +kernel⟩
noncomputable def mT:bE:=["_law_cell"]
noncomputable def iM:bE:=["_law_cell"]
theorem qN:bB mT iM (aB cQ):=⟨rfl,rfl,rfl,by decide +kernel,rfl,by decide +kernel,by decide +kernel⟩
noncomputable def kG:bE:=["_law_pot_here","_law_many","_law_digit"]
noncomputable def fZ:bE:=["_law_pot_here","_law_many"]
theorem iU:bB kG fZ (aB cJ):=⟨rfl,rfl,rfl,by decide +kernel,rfl,by decide +kernel,by decide +kernel⟩
noncomputable def dQ:bE:=["_law_pot_here","_law_some","_law_least_here","_law_many"]
noncomputable def dP:bE:=["_law_pot_here"]
theorem bQ:bB dQ dP (aB aY):=⟨rfl,rfl,rfl,by decide +kernel,rfl,by decide +kernel,by decide +kernel⟩
noncomputable def kH:bE:=["_law_counts","_law_most","_law_found","_law_count","_law_longer","_law_row","_law_come"]
noncomputable def gA:bE:=["_law_counts","_law_most"]
theorem bU:bB kH gA (aB bT):=⟨rfl,rfl,rfl,by decide +kernel,rfl,by decide +kernel,by decide +kernel⟩
noncomputable def fI:bE:=["_law_one","_law_other"]
noncomputable def fG:bE:=["_law_one","_law_other"]
theorem m5:bB fI fG (aB bM):=⟨rfl,rfl,rfl,by decide +kernel,rfl,by decide +kernel,by decide +kernel⟩
noncomputable def jF:bE:=["_law_rows_here","_law_found","_law_row"]
noncomputable def fH:bE:=["_law_rows_here"]
theorem eJ:bB jF fH (aB aN):=⟨rfl,rfl,rfl,by decide +kernel,rfl,by decide +kernel,by decide +kernel⟩
noncomputable def BT:bE:=["_law_script","_law_left","_law_right","_law_by_total","_law_row","_law_come","_law_rows_here"]
noncomputable def BR:bE:=["_law_script"]
theorem fM:bB BT BR (aB fN):=⟨rfl,rfl,rfl,by decide +kernel,rfl,by decide +kernel,by decide +kernel⟩
structure Txt (mg:eV):Prop where
 n_len:mg "len" = none
 n_range:mg "range" = none
 n_int:mg "int" = none
 n_bool:mg "bool" = none
 n_list:mg "list" = none
 n_tuple:mg "tuple" = none
 n_isinstance:mg "isinstance" = none
 n_all:mg "all" = none
 n_any:mg "any" = none
 n_sum:mg "sum" = none
 n_max:mg "max" = none
 n_min:mg "min" = none
 n_zip:mg "zip" = none
 n_enumerate:mg "enumerate" = none
 n_sorted:mg "sorted" = none
 c_MOST_COUNTS:∃ u,mg "MOST_COUNTS" = some u/\aL (.int 4) u
 c_GREATEST_COUNT:∃ u,mg "GREATEST_COUNT" = some u/\aL (.int 4) u
section
variable {P:Program}{w:World}{K:PySem.W.Frag}{mg:eV}{base:Heap}
noncomputable def spAt (K:PySem.W.Frag):Sp:=fun vs H Q _=>∃ (a:Addr) (k:Int) (ns:List Int),vs=[.ref a,.int k]/\cY K H a (ns.map V.int)/\0<=k/\k<=1000/\∀ n,Q (.int n) H
theorem DU {f:Addr}{fd:FuncData}(F:mW K "_law_at" "_law_at" c0 f fd)(T:Txt mg):dE P w K mg base cT 1 f fd j4 (spAt K):=by
 refine F.ok sX (fun vs H Q E h=>?_) (fun cdv A outer s H vs Q E hr h=>?_)
 ·obtain ⟨a,k,ns,rfl,_⟩:=h
  rfl
 ·obtain ⟨a,k,ns,rfl,ha,h0,h1,q⟩:=h
  have hu:=hr.units
  refine ⟨_,(aP (lG (gM (xY hu) (pv 1) (aQ jE rfl T.n_len rfl (aA (pv 0) aD)) (nomark _)) (aO (bR (hW yO (pv 0) (pv 1) (fun _ _=>rfl)))) gN)
   (aO (bR aH))),?_⟩
  refine ⟨_,rfl,_,rfl,a,_,rfl,.inl ha,.inl (.inl ⟨_,_,rfl,rfl,_,rfl,?_⟩)⟩
  refine ite2 (fun c=>?_) (fun c=>?_)
  ·have c:k < ((ns.map V.int).length:Int):=by simpa using c
   have hl:k.toNat < ns.length:=by rw [List.length_map] at c;omega
   refine ⟨_,rfl,_,rfl,.inl ⟨a,_,k,.int (ns[k.toNat]),rfl,rfl,ha,?_,q _⟩⟩
   rw [mH h0 c]
   simp [hl]
  ·exact q 0
noncomputable def spPot:Sp:=fun vs H Q _=>∃ n:Int,vs=[.int n]/\∀ p x y,H p=none->Q (.ref p) (upd H p (.lst [.int x,.int y]))
theorem CP {f:Addr}{fd:FuncData}(F:mW K "_law_pot" "_law_pot" cQ f fd)(T:Txt mg):dE P w K mg base cT 1 f fd iM spPot:=by
 refine F.ok qN (fun vs H Q E h=>?_) (fun cdv A outer s H vs Q E hr h=>?_)
 ·obtain ⟨n,rfl,_⟩:=h
  rfl
 ·obtain ⟨n,rfl,q⟩:=h
  refine ⟨_,(aO (bR (cW (aA (aQ (oC rfl) rfl T.n_max rfl (aA aH (aA (aT lK (pv 0) (aT CL aH aH)) aD))) (aA (aT jN (aT aZ (aT (iE.or lM) (aT jN (pv 0) aH) aH) aH) aH) aD))))),?_⟩
  simp only [mT]
  clear F T hr
  walk_at "rd"
  have e1:EF 10 18:=⟨by decide,by decide,by decide⟩
  have e3:∀ i:Int,wZ i 48271:=fun i=>.inr (by decide)
  exact ⟨e1,_,_,⟨rfl,rfl⟩,by decide,e3 _,by decide,by decide,fun p hp=>q p _ _ hp⟩
noncomputable def eI (H:Hp)(p:Addr):Prop:=∃ a b:Int,H p=some (.lst [.int a,.int b])
noncomputable def sS:Sp:=fun vs H Q _=>∃ p n,vs=[.ref p,.int n]/\eI H p/\0 < n/\n < 1073741824/\∀ d a b,0<=d->d < n->Q (.int d) (upd H p (.lst [.int a,.int b]))
theorem AQ {f:Addr}{fd:FuncData}(F:mW K "_law_take" "_law_take" cJ f fd)(T:Txt mg):dE P w K mg base cT 1 f fd fZ sS:=by
 refine F.ok iU (fun vs H Q E h=>?_) (fun cdv A outer s H vs Q E hr h=>?_)
 ·obtain ⟨p,n,rfl,_⟩:=h
  rfl
 ·obtain ⟨p,n,rfl,⟨a,b,hp⟩,h0,h1,k⟩:=h
  refine ⟨_,(aP (lG (gM xX (hW pI (pv 0) aH (fun _ _=>rfl)) aH (nomark _)) (aP (eA (i:=2) iU.nd rfl (Or.inl rfl) (aT jN (hW pI (pv 0) aH (fun _ _=>rfl)) (pv 1)))
   (aP (tB (aT uJ (hW pI (pv 0) aH (fun _ _=>rfl)) (pv 1)) (xQ (pv 0) aH qI))
   (aO (bR (pv 2))))) gN)
   (aP (tB (aT jN (aT aZ (aT (iE.or lM) (hW pI (pv 0) aH (fun _ _=>rfl)) aH) aH) aH) (xQ (pv 0) aH qI))
   (aO (bR (aT jN (aT uJ (aT jN (aT (iE.or lM) (hW pI (pv 0) aH (fun _ _=>rfl)) (hW pI (pv 0) aH (fun _ _=>rfl))) aH) aH) (pv 1)))))),?_⟩
  simp only [kG]
  clear hr F T
  walk_at "rd"
  split
  ·exact ⟨⟨h0,h1⟩,k _ _ _ (Int.emod_nonneg _ (by omega)) (Int.emod_lt_of_pos _ h0)⟩
  ·have e3:∀ i:Int,wZ i 39373:=fun i=>.inr (by decide)
   have b1:=Int.emod_nonneg (b * 39373 + 7919) (b:=2147483629) (by decide)
   have b2:=Int.emod_lt_of_pos (b * 39373 + 7919) (b:=2147483629) (by decide)
   have e4:wZ ((b * 39373 + 7919) % 2147483629) ((b * 39373 + 7919) % 2147483629):=.inl ⟨by omega,by omega⟩
   exact ⟨e3 _,by decide,e4,by decide,⟨by decide,by decide⟩,k _ _ _ (Int.emod_nonneg _ (by omega)) (Int.emod_lt_of_pos _ h0)⟩
noncomputable def oP:Sp:=fun vs H Q _=>∃ i:Int,vs=[.int i]/\Q (.bl true) H
theorem xZ {f:Addr}{fd:FuncData}(F:mW K "is_whole" "is_whole" cP f fd)(T:Txt mg):dE P w K mg base cT 1 f fd iK oP:=by
 refine F.ok qK (fun vs H Q E h=>?_) (fun cdv A outer s H vs Q E hr h=>?_)
 ·obtain ⟨n,rfl,_⟩:=h
  rfl
 ·obtain ⟨n,rfl,q⟩:=h
  refine ⟨_,(aO (bR (xW (aQ dB rfl T.n_isinstance rfl (aA (pv 0) (aA (kU (v:=V.ty "int") rfl T.n_int rfl rfl) aD))) (xR (CK (aQ dB rfl T.n_isinstance rfl (aA (pv 0) (aA (kU (v:=V.ty "bool") rfl T.n_bool rfl rfl) aD)))))))),?_⟩
  simp only [mS]
  clear hr F T
  walk_at "rd"
noncomputable def hG (H:Hp)(a:Addr)(ns:List Int):Prop:=H a=some (.lst (ns.map V.int))∨H a=some (.tup (ns.map V.int))
noncomputable def bV (ns:List Int):Prop:=ns.length<=4/\∀ n ∈ ns,1<=n/\n<=4
noncomputable def lC:Sp:=fun vs H Q _=>∃ (a:Addr) (ns:List Int) (k:Int),vs=[.ref a,.int k]/\hG H a ns/\bV ns/\k<=ns.length/\∀ H',aC H H'->Q (.bl true) H'
theorem v4 {f:Addr}{fd:FuncData}(F:mW K "is_counts" "is_counts" bS f fd)(T:Txt mg)(O_is_whole:gB P w K mg base cT 1 "is_whole" oP):dE P w K mg base cT 2 f fd fY lC:=by
 refine F.ok oW (fun vs H Q E h=>?_) (fun cdv A outer s H vs Q E hr h=>?_)
 ·obtain ⟨a,ns,k,rfl,_⟩:=h
  rfl
 ·obtain ⟨a,ns,k,rfl,ha,hc,hk,q⟩:=h
  refine ⟨_,(aP (lG (PW.pt (xJ (fP (dA K rfl (aQ dB rfl T.n_isinstance rfl (aA (pv 0) (aA (eK (aA (kU (v:=V.ty "list") rfl T.n_list rfl rfl) (aA (kU (v:=V.ty "tuple") rfl T.n_tuple rfl rfl) aD))) aD))) (fun _=>rfl))) (xI (fP (xM nM nM (pv 1) (aQ d6 rfl T.n_len rfl (aA (pv 0) aD)) (qT T.c_MOST_COUNTS rfl)))))) (aO (bR DS)) gN)
   (aO (bR (aQ (j0 rfl) rfl T.n_all rfl (aA (cE rfl (aV.by (N:=gC) (names:=(aB bS).names) (N':=["count"]) (src:=[none]) (by decide +kernel) rfl rfl) (cV K rfl (pv 0)) (fun _ _ _ _=>(aW (i:=0) (show List.Nodup (["count"]:bE) by decide +kernel) rfl (Or.inl rfl))) (fun _ _ _ _=>bP) (fun _ _ _ _=>(xW (bF O_is_whole (hr.mono (by decide)) pass0 rfl (aA (pv 0) aD)) (xR (xV nM nM aH (pv 0) (qT T.c_GREATEST_COUNT rfl)))))) aD))))),?_⟩
  simp only [gC]
  clear hr F T O_is_whole
  have hln:(ns.length:Int)<=4:=by have:=hc.1;omega
  walk_at "rd"
  refine ⟨by decide,fun p hp=>?_⟩
  have sm:aC H (upd H p (.tup [.ty "list",.ty "tuple"])):=aC.upd hp
  have hsq:cM (upd H p (.tup [.ty "list",.ty "tuple"])) a (ns.map V.int):=cM.same ha sm
  have isv:isV (upd H p (.tup [.ty "list",.ty "tuple"])) (.ref a) (.ref p)=some true:=by
   rcases hsq with e | e
   ·exact DB e upd_same
   ·exact DA e upd_same
  generalize upd H p (.tup [.ty "list",.ty "tuple"])=H1 at sm hsq isv ⊢
  have hlen:lenV H1 (.ref a)=some ns.length:=by
   rcases hsq with e | e
   ·rw [lenV_l e,List.length_map]
   ·rw [lenV_t e,List.length_map]
  clear ha
  walk_at "rd"
  refine ⟨_,hsq,fun J hJ=>?_⟩
  refine cX hJ (fun i acc σ H'=>H'=H1/\acc=(List.replicate i true).map V.bl/\∃ o,σ=[o]) ⟨rfl,rfl,_,rfl⟩ (fun i acc σ H' _ h=>by rw [h.1]) ?_ ?_
  ·rintro i x acc σ H' hx ⟨rfl,rfl,o,rfl⟩
   rw [List.getElem?_map] at hx
   obtain ⟨n,hn,rfl⟩:=Option.map_eq_some_iff.mp hx
   obtain ⟨n0,n1⟩:=hc.2 n (List.mem_of_getElem? hn)
   have hi:i < ns.length:=(List.getElem?_eq_some_iff.mp hn).1
   clear hsq isv hlen q sm hJ
   walk_at "rd"
   refine ⟨n,rfl,true,rfl,?_⟩
   refine ⟨Nat.lt_of_le_of_lt (m:=4) ?_ (by decide),rfl,?_,_,rfl⟩
   ·simp only [List.length_map,List.length_replicate];omega
   ·rw [← List.map_cons,← List.replicate_succ,List.replicate_succ',List.map_append];rfl
  ·rintro acc σ H' ⟨rfl,rfl,o,rfl⟩ p hp
   clear hsq isv hlen hJ
   walk_at "rd"
   refine ⟨_,rfl,?_⟩
   have e:(List.replicate (List.map V.int ns).length true).all id=true:=by simp
   rw [e]
   exact q _ (sm.trans (aC.upd hp))
noncomputable def dotZ (xs ys:List Int):Int:=((xs.zip ys).map fun r=>r.1 * r.2).sum
noncomputable def spEqn:Sp:=fun vs H Q _=>∃ (a b:Addr) (ls rs:List Int),vs=[.ref a,.ref b]/\hG H a ls/\hG H b rs/\bV ls/\bV rs/\0 < ls.length + rs.length/\∀ H',aC H H'->Q .non H'
theorem hG.len {H:Hp}{a:Addr}{ns:List Int}(h:hG H a ns):lenV H (.ref a)=some ns.length:=by
 rcases h with e | e
 ·rw [lenV_l e,List.length_map]
 ·rw [lenV_t e,List.length_map]
theorem hG.same {H H':Hp}{a:Addr}{ns:List Int}(h:hG H a ns)(s:aC H H'):hG H' a ns:=h.elim (fun e=>.inl (s _ _ e)) fun e=>.inr (s _ _ e)
theorem CS {f:Addr}{fd:FuncData}(F:mW K "check_equation" "check_equation" bC f fd)(T:Txt mg)(O_is_counts:gB P w K mg base cT 2 "is_counts" lC):dE P w K mg base cT 3 f fd dC spEqn:=by
 refine F.ok iT (fun vs H Q E h=>?_) (fun cdv A outer s H vs Q E hr h=>?_)
 ·obtain ⟨a,b,ls,rs,rfl,_⟩:=h
  rfl
 ·obtain ⟨a,b,ls,rs,rfl,ha,hb,hl,hr',hn,q⟩:=h
  have hu:=hr.units
  refine ⟨_,(aO (lG (PW.pt (xJ (fP (dA K rfl (bF O_is_counts (hr.mono (by decide)) pass0 rfl (aA (pv 0) (aA aH aD))) (fun _=>rfl))) (xJ (fP (dA K rfl (bF O_is_counts (hr.mono (by decide)) pass0 rfl (aA (pv 1) (aA aH aD))) (fun _=>rfl))) (xI (gM (tG hu) (aT aZ (aQ d6 rfl T.n_len rfl (aA (pv 0) aD)) (aQ d6 rfl T.n_len rfl (aA (pv 1) aD))) aH (nomark _)))))) (aO xO) gN)),?_⟩
  simp only [eU]
  clear hr F T hu O_is_counts
  have hq:=q
  clear q
  walk_at "rd"
  refine ⟨a,ls,0,rfl,ha,hl,by omega,fun H1 s1=>?_⟩
  walk_at "rd"
  refine ⟨b,rs,0,rfl,hb.same s1,hr',by omega,fun H2 s2=>?_⟩
  have e1:=(ha.same (s1.trans s2)).len
  have e2:=(hb.same (s1.trans s2)).len
  have e3:¬ ((ls.length:Int) + rs.length=0):=by omega
  have hs:=s1.trans s2
  clear s1 s2 ha hb
  walk_at "rd"
noncomputable def lA:Sp:=fun vs H Q _=>∃ (a b:Addr) (ls rs:List Int),vs=[.ref a,.ref b]/\hG H a ls/\hG H b rs/\ls.length<=4/\rs.length<=4/\∀ (p:Addr) (H':Hp),aC H H'->H' p=some (.lst ((ls ++ rs.map fun x=>-x).map V.int))->Q (.ref p) H'
noncomputable def ES (rs:List Int)(H1:Hp)(i:Nat)(acc:List V)(σ:St)(H':Hp):Prop:=H'=H1/\acc=((rs.take i).map fun x=>-x).map V.int/\∃ o,σ=[o]
theorem v2 {f:Addr}{fd:FuncData}(F:mW K "signed" "signed" dH f fd)(T:Txt mg):dE P w K mg base cT 1 f fd mO lA:=by
 refine F.ok vT (fun vs H Q E h=>?_) (fun cdv A outer s H vs Q E hr h=>?_)
 ·obtain ⟨a,b,ls,rs,rfl,_⟩:=h
  rfl
 ·obtain ⟨a,b,ls,rs,rfl,ha,hb,hl,hl2,q⟩:=h
  refine ⟨_,(aO (bR (aT aZ (jM mF rfl T.n_list rfl (aA (pv 0) aD)) (cE rfl (aV.by (N:=mQ) (names:=(aB dH).names) (N':=["count"]) (src:=[none]) (by decide +kernel) rfl rfl) (cV K rfl (pv 1)) (fun _ _ _ _=>(aW (i:=0) (show List.Nodup (["count"]:bE) by decide +kernel) rfl (Or.inl rfl))) (fun _ _ _ _=>bP) (fun _ _ _ _=>(DR BX (pv 0))))))),?_⟩
  simp only [mQ]
  clear hr F T
  have hq:=q
  clear q
  have sv:seqV H (.ref a)=some (ls.map V.int):=by
   rcases ha with e | e
   ·exact seqV_l e
   ·exact seqV_t e
  walk_at "rd"
  intro p hp
  have sm:aC H (upd H p (.lst (ls.map V.int))):=aC.upd hp
  have hp1:upd H p (.lst (ls.map V.int)) p=some (.lst (ls.map V.int)):=upd_same
  generalize upd H p (.lst (ls.map V.int))=H1 at sm hp1 ⊢
  refine ⟨_,hb.same sm,fun J hJ=>?_⟩
  refine cX hJ (ES rs H1) ⟨rfl,rfl,_,rfl⟩ (fun i acc σ H' _ h=>by rw [h.1]) ?_ ?_
  ·rintro i x acc σ H' hx ⟨rfl,rfl,o,rfl⟩
   rw [List.getElem?_map] at hx
   obtain ⟨n,hn,rfl⟩:=Option.map_eq_some_iff.mp hx
   have hi:i < rs.length:=(List.getElem?_eq_some_iff.mp hn).1
   clear hJ hq sm hp1 sv
   walk_at "rd"
   refine ⟨Nat.lt_of_le_of_lt (m:=4) ?_ (by decide),rfl,?_,_,rfl⟩
   ·simp only [List.length_map,List.length_take];omega
   ·rw [List.take_succ,hn];simp
  ·rintro acc σ H' ⟨rfl,rfl,o,rfl⟩ p2 hp2
   have np:p≠p2:=aG hp1 hp2
   refine ⟨_,gZ (by rw [aE np];exact hp1) upd_same (Nat.le_trans (m:=8) (by simp;omega) (by decide)),fun p3 hp3=>?_⟩
   refine hq p3 _ ((sm.trans (aC.upd hp2)).trans (aC.upd hp3)) ?_
   rw [upd_same,List.length_map,List.take_of_length_le (Nat.le_refl _),List.map_append]
noncomputable def kZ:Sp:=fun vs H Q _=>∃ (a b:Addr) (xs ys:List Int),vs=[.ref a,.ref b]/\hG H a xs/\hG H b ys/\xs.length<=8/\(∀ x ∈ xs,-100<=x/\x<=100)/\∀ H',aC H H'->Q (.int (dotZ xs ys)) H'
noncomputable def ET (ns row:List Int)(H1:Hp)(i:Nat)(acc:List V)(σ:St)(H':Hp):Prop:=aC H1 H'/\acc=(((ns.zip row).take i).map fun r=>r.1 * r.2).map V.int/\∃ o o',σ=[o,o']
theorem vY {f:Addr}{fd:FuncData}(F:mW K "weight" "weight" dG f fd)(T:Txt mg):dE P w K mg base cT 1 f fd mN kZ:=by
 refine F.ok vS (fun vs H Q E h=>?_) (fun cdv A outer s H vs Q E hr h=>?_)
 ·obtain ⟨a,b,xs,ys,rfl,_⟩:=h
  rfl
 ·obtain ⟨a,b,xs,ys,rfl,ha,hb,hl,hsm,q⟩:=h
  refine ⟨_,(aO (bR (aQ (g8 rfl) rfl T.n_sum rfl (aA (cE rfl (aV.by (N:=mP) (names:=(aB dG).names) (N':=["size","number"]) (src:=[none,none]) (by decide +kernel) rfl rfl) (kR rfl T.n_zip (aA (pv 0) (aA (pv 1) aD))) (fun _ _ _ _=>(dI K rfl (i:=0) (j:=1) rfl (show List.Nodup (["size","number"]:bE) by decide +kernel) rfl rfl rfl rfl)) (fun _ _ _ _=>bP) (fun _ _ _ _=>(aT (iE.or lM) (pv 0) (pv 1)))) aD)))),?_⟩
  simp only [mP]
  clear hr F T
  have hq:=q
  clear q
  walk_at "rd"
  refine ⟨a,b,⟨rfl,rfl⟩,⟨_,ha⟩,⟨_,hb⟩,?_⟩
  refine fC (xs.map V.int) (ys.map V.int) (ET xs ys H) ⟨aC.refl _,rfl,_,_,rfl⟩ (fun i acc σ H2 _ h=>⟨cM.same ha h.1,cM.same hb h.1⟩) ?_ ?_
  ·rintro i x y T acc σ H2 hx hy ⟨hs,rfl,o,o',rfl⟩ hT
   rw [List.getElem?_map] at hx hy
   obtain ⟨n,hn,rfl⟩:=Option.map_eq_some_iff.mp hx
   obtain ⟨m,hm,rfl⟩:=Option.map_eq_some_iff.mp hy
   have n0:=hsm n (List.mem_of_getElem? hn)
   have hi:i < xs.length:=(List.getElem?_eq_some_iff.mp hn).1
   have hz:(xs.zip ys)[i]?=some (n,m):=by rw [List.getElem?_zip_eq_some];exact ⟨hn,hm⟩
   have hs':=hs
   clear hq hsm ha hb hs hx hy
   refine ⟨T,_,rfl,d7.of upd_same,rfl,_,_,rfl,_,_,rfl,rfl,?_⟩
   walk_at "rd"
   refine ⟨.inl ⟨by omega,by omega⟩,Nat.lt_of_le_of_lt (m:=8) ?_ (by decide),hs'.trans (aC.upd hT),?_,_,_,rfl⟩
   ·simp only [List.length_map,List.length_take];omega
   ·rw [List.take_succ,hz]
    simp
  ·rintro acc σ H2 ⟨hs,rfl,o,o',rfl⟩ p2 hp2
   refine ⟨p2,rfl,_,upd_same,?_⟩
   have ez:(xs.zip ys).take (min (List.map V.int xs).length (List.map V.int ys).length)=xs.zip ys:=List.take_of_length_le (by simp)
   rw [ez]
   exact hq _ (hs.trans (aC.upd hp2))
theorem rM:∀ ns:List Int,depDs (ns.map D.int)=0
 | []=>rfl
 | n :: ns=>by rw [List.map_cons,depDs,rM ns];rfl
theorem jS {H:Hp}:∀ (ns:List Int),Reps H (ns.map D.int) (ns.map V.int)
 | []=>rfl
 | n :: ns=>⟨.int n,ns.map V.int,rfl,rfl,jS ns⟩
theorem rN (xs:List V)(n:Nat):cutV xs none (some (n:Int))=xs.take n:=by
 unfold cutV
 rw [HT.sIx_none,HT.sIx_nat,List.drop_zero,Nat.sub_zero]
 exact List.take_eq_take_min.symm
theorem rO (xs:List V)(n:Nat):cutV xs (some (n:Int)) none=xs.drop n:=by
 unfold cutV
 rw [HT.sIx_none,HT.sIx_nat]
 rcases Nat.le_total n xs.length with small | big
 ·have all:((xs.drop n).take (xs.length - n))=xs.drop n:=by rw [← List.length_drop];exact List.take_length
  rw [Nat.min_eq_left small]
  exact all
 ·simp [Nat.min_eq_right big,List.drop_eq_nil_of_le big]
theorem eI.but {p l:Addr}{H:Hp}{o:HO}(h:eI H p)(n:p≠l):eI (upd H l o) p:=by obtain ⟨x,y,e⟩:=h;exact ⟨x,y,by rw [aE n];exact e⟩
theorem eI.ne {p l:Addr}{H:Hp}(h:eI H p)(n:H l=none):p≠l:=by obtain ⟨x,y,e⟩:=h;exact aG e n
end
section
variable {P:Program}{w:World}{K:PySem.W.Frag}{mg:eV}{base:Heap}
noncomputable def undZ (xs ys:List Int):Bool:=(xs.zip ys).all fun r=>decide (r.1<=r.2)
noncomputable def gJ:Sp:=fun vs H Q _=>∃ (a b:Addr) (xs ys:List Int),vs=[.ref a,.ref b]/\hG H a xs/\hG H b ys/\xs.length<=100/\∀ H',aC H H'->Q (.bl (undZ xs ys)) H'
noncomputable def D6 (xs ys:List Int)(H1:Hp)(i:Nat)(acc:List V)(σ:St)(H':Hp):Prop:=aC H1 H'/\acc=(((xs.zip ys).take i).map fun r=>decide (r.1<=r.2)).map V.bl/\∃ o o',σ=[o,o']
theorem x5 {f:Addr}{fd:FuncData}(F:mW K "is_under" "is_under" cI f fd)(T:Txt mg):dE P w K mg base cT 1 f fd iL gJ:=by
 refine F.ok qM (fun vs H Q E h=>?_) (fun cdv A outer s H vs Q E hr h=>?_)
 ·obtain ⟨a,b,xs,ys,rfl,_⟩:=h
  rfl
 ·obtain ⟨a,b,xs,ys,rfl,ha,hb,hl,q⟩:=h
  refine ⟨_,(aO (bR (aQ (j0 rfl) rfl T.n_all rfl (aA (cE rfl (aV.by (N:=iN) (names:=(aB cI).names) (N':=["number","above"]) (src:=[none,none]) (by decide +kernel) rfl rfl) (kR rfl T.n_zip (aA (pv 0) (aA (pv 1) aD))) (fun _ _ _ _=>(dI K rfl (i:=0) (j:=1) rfl (show List.Nodup (["number","above"]:bE) by decide +kernel) rfl rfl rfl rfl)) (fun _ _ _ _=>bP) (fun _ _ _ _=>(kT nM (pv 0) (pv 1) (nomark _)))) aD)))),?_⟩
  simp only [iN]
  clear hr F T
  have hq:=q
  clear q
  walk_at "rd"
  refine ⟨a,b,⟨rfl,rfl⟩,⟨_,ha⟩,⟨_,hb⟩,?_⟩
  refine fC (xs.map V.int) (ys.map V.int) (D6 xs ys H) ⟨aC.refl _,rfl,_,_,rfl⟩ (fun i acc σ H2 _ h=>⟨cM.same ha h.1,cM.same hb h.1⟩) ?_ ?_
  ·rintro i x y T acc σ H2 hx hy ⟨hs,rfl,o,o',rfl⟩ hT
   rw [List.getElem?_map] at hx hy
   obtain ⟨n,hn,rfl⟩:=Option.map_eq_some_iff.mp hx
   obtain ⟨m,hm,rfl⟩:=Option.map_eq_some_iff.mp hy
   have hi:i < xs.length:=(List.getElem?_eq_some_iff.mp hn).1
   have hz:(xs.zip ys)[i]?=some (n,m):=by rw [List.getElem?_zip_eq_some];exact ⟨hn,hm⟩
   have hs':=hs
   clear hq ha hb hs hx hy
   refine ⟨T,_,rfl,d7.of upd_same,rfl,_,_,rfl,_,_,rfl,rfl,?_⟩
   walk_at "rd"
   refine ⟨Nat.lt_of_le_of_lt (m:=100) ?_ (by decide),hs'.trans (aC.upd hT),?_,_,_,rfl⟩
   ·simp only [List.length_map,List.length_take];omega
   ·rw [List.take_succ,hz]
    simp
  ·rintro acc σ H2 ⟨hs,rfl,o,o',rfl⟩ p2 hp2
   refine ⟨p2,rfl,_,upd_same,?_⟩
   have ez:(xs.zip ys).take (min (List.map V.int xs).length (List.map V.int ys).length)=xs.zip ys:=List.take_of_length_le (by simp)
   rw [ez]
   have e:((xs.zip ys).map fun r=>decide (r.1<=r.2)).all id=undZ xs ys:=by rw [List.all_map];rfl
   rw [e]
   exact hq _ (hs.trans (aC.upd hp2))
noncomputable def nI (r:List Nat):List Int:=r.map fun (x:Nat)=>(x:Int)
theorem eB (r:List Nat):(nI r).length=r.length:=by unfold nI;exact List.length_map _
noncomputable abbrev m8 (H:Hp)(p:Addr)(r:List Nat):Prop:=H p=some (.tup ((nI r).map V.int))
open K42 in
theorem zT (k n:Nat)(h:k < n):nI (inc (zro n) k)=List.replicate k 0 ++ ([1] ++ List.replicate (n - k - 1) 0):=by
 induction k generalizing n with
 | zero =>
  obtain ⟨m,rfl⟩:∃ m,n=m + 1:=⟨n - 1,by omega⟩
  simp [zro,List.replicate_succ,inc,nI]
 | succ k ih =>
  obtain ⟨m,rfl⟩:∃ m,n=m + 1:=⟨n - 1,by omega⟩
  have:=ih m (by omega)
  simp only [zro,List.replicate_succ,inc,nI,List.map_cons,List.cons_append] at this ⊢
  rw [this]
  simp
open K42 in
theorem uO:∀ (r:List Nat) (k:Nat) (x:Nat),r[k]?=some x->nI (inc r k)=(nI r).take k ++ ([(x:Int) + 1] ++ (nI r).drop (k + 1))
 | [],k,x,h=>by simp at h
 | y :: r,0,x,h=>by
  simp at h
  subst h
  simp [inc,nI]
 | y :: r,k + 1,x,h=>by
  have:=uO r k x (by simpa using h)
  simp only [inc,nI,List.map_cons,List.take_succ_cons,List.drop_succ_cons,List.cons_append] at this ⊢
  rw [this]
theorem mB {α:Type}(x:α):∀ k:Nat,(List.replicate k [x]).flatten=List.replicate k x
 | 0=>rfl
 | k + 1=>by rw [List.replicate_succ,List.flatten_cons,mB x k,List.replicate_succ];rfl
noncomputable def sR:Sp:=fun vs H Q _=>∃ (k n:Nat),vs=[.int k,.int n]/\k < n/\n<=8/\∀ p H',aC H H'->m8 H' p (K42.inc (K42.zro n) k)->Q (.ref p) H'
theorem AO {f:Addr}{fd:FuncData}(F:mW K "unit" "unit" iB f fd)(T:Txt mg):dE P w K mg base cT 1 f fd t5 sR:=by
 refine F.ok zW (fun vs H Q E h=>?_) (fun cdv A outer s H vs Q E hr h=>?_)
 ·obtain ⟨k,n,rfl,_⟩:=h
  rfl
 ·obtain ⟨k,n,rfl,kn,n8,q⟩:=h
  refine ⟨_,(aO (bR (aT (aZ.or gR) (aT (aZ.or gR) (aT (iE.or uI) (eK (aA aH aD)) (pv 0)) (eK (aA aH aD))) (aT (iE.or uI) (eK (aA aH aD)) (aT lK (aT lK (pv 1) (pv 0)) aH))))),?_⟩
  clear hr F T
  have z8:(100:Nat)<=sizeLine:=by decide
  refine ⟨show 1<=sizeLine by decide,fun p1 hp1=>?_⟩
  have s1:aC H (upd H p1 (.tup [.int 0])):=aC.upd hp1
  have g1:upd H p1 (.tup [.int 0]) p1=some (.tup [.int 0]):=upd_same
  generalize upd H p1 (.tup [.int 0])=H1 at s1 g1 ⊢
  refine ⟨_,rfl,Or.inr ⟨p1,k,[.int 0],rfl,rfl,g1,List.cons_ne_nil _ _,by omega,by simp;omega,fun p2 H2 s2 g2=>?_⟩⟩
  refine ⟨show 1<=sizeLine by decide,fun p3 hp3=>?_⟩
  have s3:aC H2 (upd H2 p3 (.tup [.int 1])):=aC.upd hp3
  have g3:upd H2 p3 (.tup [.int 1]) p3=some (.tup [.int 1]):=upd_same
  generalize upd H2 p3 (.tup [.int 1])=H3 at s3 g3 ⊢
  refine Or.inr ⟨p2,p3,_,_,rfl,rfl,s3 _ _ g2,g3,by simp;omega,fun p4 H4 s4 g4=>?_⟩
  refine ⟨show 1<=sizeLine by decide,fun p5 hp5=>?_⟩
  have s5:aC H4 (upd H4 p5 (.tup [.int 0])):=aC.upd hp5
  have g5:upd H4 p5 (.tup [.int 0]) p5=some (.tup [.int 0]):=upd_same
  generalize upd H4 p5 (.tup [.int 0])=H5 at s5 g5 ⊢
  refine ⟨_,rfl,_,rfl,_,_,rfl,rfl,_,_,rfl,rfl,Or.inr ⟨p5,n - k - 1,[.int 0],rfl,?_,g5,List.cons_ne_nil _ _,by omega,by simp;omega,fun p6 H6 s6 g6=>?_⟩⟩
  ·show V.int ((n:Int) - k - 1)=V.int ((n - k - 1:Nat):Int)
   congr 1
   omega
  ·refine Or.inr ⟨p4,p6,_,_,rfl,rfl,s6 _ _ (s5 _ _ g4),g6,by simp;omega,fun p7 H7 s7 g7=>q p7 H7 (s1.trans (s2.trans (s3.trans (s4.trans (s5.trans (s6.trans s7)))))) ?_⟩
   rw [mB,mB] at g7
   show _=some (HO.tup _)
   rw [g7,zT k n kn]
   simp [List.map_append,List.map_replicate]
noncomputable def sU:Sp:=fun vs H Q _=>∃ (a:Addr) (r:List Nat) (k:Nat),vs=[.ref a,.int k]/\m8 H a r/\k < r.length/\r.length<=8/\∀ p H',aC H H'->m8 H' p (K42.inc r k)->Q (.ref p) H'
theorem AR {f:Addr}{fd:FuncData}(F:mW K "one_more" "one_more" cN f fd)(T:Txt mg):dE P w K mg base cT 1 f fd iJ sU:=by
 refine F.ok qJ (fun vs H Q E h=>?_) (fun cdv A outer s H vs Q E hr h=>?_)
 ·obtain ⟨a,r,k,rfl,_⟩:=h
  rfl
 ·obtain ⟨a,r,k,rfl,ha,kr,r8,q⟩:=h
  refine ⟨_,(aO (bR (aT (aZ.or gR) (aT (aZ.or gR) (iX oU (pv 0) kQ (kP (pv 1))) (eK (aA (aT (aZ.or gR) (hW pI (pv 0) (pv 1) (fun _ _=>rfl)) aH) aD))) (iX oU (pv 0) (kP (aT (aZ.or gR) (pv 1) aH)) kQ)))),?_⟩
  clear hr F T
  have z8:(100:Nat)<=sizeLine:=by decide
  have ln:((nI r).map V.int).length=r.length:=by rw [List.length_map,eB]
  obtain ⟨x,hx⟩:∃ x,r[k]?=some x:=⟨_,List.getElem?_eq_getElem kr⟩
  refine ⟨_,rfl,_,rfl,_,rfl,a,_,rfl,.inr ha,fun _ z=>?_,fun p1 o1 hp1 ho1=>?_⟩
  ·have:=z.2
   rw [ln,HT.sIx_nat] at this
   omega
  obtain rfl:o1 = .tup (((nI r).take k).map V.int):=by
   rcases ho1 with ⟨_,z⟩ | ⟨rfl,_⟩
   ·rw [ha] at z;cases z
   ·rw [rN,List.map_take]
  have s1:aC H (upd H p1 (.tup (((nI r).take k).map V.int))):=aC.upd hp1
  have g1:upd H p1 (.tup (((nI r).take k).map V.int)) p1=some (.tup (((nI r).take k).map V.int)):=upd_same
  generalize upd H p1 (.tup (((nI r).take k).map V.int))=H1 at s1 g1 ⊢
  have ax:atI ((nI r).map V.int) (k:Int)=some (.int x):=by
   rw [mH (by omega) (by rw [ln];omega),Int.toNat_natCast,List.getElem?_map]
   unfold nI
   rw [List.getElem?_map,hx]
   rfl
  refine ⟨_,rfl,_,rfl,.int x,by rw [ixV_t (s1 _ _ ha)];exact ax,Or.inl (Or.inl ⟨.int ((x:Int) + 1),rfl,show 1<=sizeLine by decide,fun p2 hp2=>?_⟩)⟩
  have s2:aC H1 (upd H1 p2 (.tup [.int ((x:Int) + 1)])):=aC.upd hp2
  have g2:upd H1 p2 (.tup [.int ((x:Int) + 1)]) p2=some (.tup [.int ((x:Int) + 1)]):=upd_same
  generalize upd H1 p2 (.tup [.int ((x:Int) + 1)])=H2 at s2 g2 ⊢
  refine Or.inr ⟨p1,p2,_,_,rfl,rfl,s2 _ _ g1,g2,by simp only [List.length_map,List.length_take,List.length_cons,List.length_nil];omega,fun p3 H3 s3 g3=>?_⟩
  have sA:=s1.trans (s2.trans s3)
  refine ⟨_,rfl,_,rfl,Or.inl (Or.inl ⟨.int ((k:Int) + 1),rfl,_,rfl,a,_,rfl,.inr (sA _ _ ha),fun _ z=>?_,fun p4 o4 hp4 ho4=>?_⟩)⟩
  ·have:=z.1
   rw [ln,show ((k:Int) + 1)=((k + 1:Nat):Int) from rfl,HT.sIx_nat] at this
   omega
  obtain rfl:o4 = .tup (((nI r).drop (k + 1)).map V.int):=by
   rcases ho4 with ⟨_,z⟩ | ⟨rfl,_⟩
   ·rw [sA _ _ ha] at z;cases z
   ·rw [show ((k:Int) + 1)=((k + 1:Nat):Int) from rfl,rO,List.map_drop]
  have s4:aC H3 (upd H3 p4 (.tup (((nI r).drop (k + 1)).map V.int))):=aC.upd hp4
  refine Or.inr ⟨p3,p4,_,_,rfl,rfl,s4 _ _ g3,upd_same,by simp only [List.length_map,List.length_take,List.length_drop,List.length_append,List.length_cons,List.length_nil,eB];omega,fun p5 H5 s5 g5=>q p5 H5 (sA.trans (s4.trans s5)) ?_⟩
  show _=some (HO.tup _)
  rw [g5,uO r k x hx]
  simp only [List.map_append,List.append_assoc,List.map_cons,List.map_nil]
end
end Lw
namespace L2
open PySem PySem.Spec PyProof.Rows
section
variable {β:Type}{J:It}{g:TG}{tt:TT}{te:TE}{tb:TS}{D:hI}{tl:β->St->Hp->(β->Hp->Prop)->Prop}{Fin:β->Hp->Prop}{σ:St}{H:Hp}{e0:β}
theorem A8 {n:Nat}(Pv:Nat->St->Hp->Prop)(h0:Pv 0 σ H)(hs:∀ i σ H,i < n->Pv i σ H->J.go i H/\∀ x H',J.yld i H x H'->g x σ H' fun σ2 H2=>tb { D with nx:=Pv (i + 1),ct:=Pv (i + 1),bk:=D.nx } σ2 H2)
  (hd:∀ σ H,Pv n σ H->J.stop n H/\D.nx σ H):sJ J g tb D σ H:=by
 refine ⟨fun i m σ H=>m=n - i/\i<=n/\Pv i σ H,⟨n,by simp,Nat.zero_le _,h0⟩,?_⟩
 rintro i m σ H ⟨rfl,hi,p⟩
 by_cases lt:i < n
 ·obtain ⟨go,step⟩:=hs i σ H lt p
  exact .inr ⟨go,Pv (i + 1),fun σ' H' q=>⟨n - (i + 1),by omega,rfl,lt,q⟩,step⟩
 ·obtain rfl:i=n:=by omega
  exact .inl (hd σ H p)
theorem qE {n:Nat}(Pv:Nat->β->St->Hp->Prop)(h0:Pv 0 e0 σ H)
  (hs:∀ i acc σ H,i < n->Pv i acc σ H->J.go i H/\∀ x H',J.yld i H x H'->g x σ H' fun σ2 H2=>tt σ2 H2 fun b H3=>if b=true then tl acc σ2 H3 fun a H4=>Pv (i + 1) a σ2 H4 else Pv (i + 1) acc σ2 H3)
  (hd:∀ acc σ H,Pv n acc σ H->J.stop n H/\Fin acc H):∃ W:wY β,(∃ m,W 0 m e0 σ H)/\iQ J g tt tl Fin W:=by
 refine ⟨fun i m acc σ H=>m=n - i/\i<=n/\Pv i acc σ H,⟨n,by simp,Nat.zero_le _,h0⟩,?_⟩
 rintro i m acc σ H ⟨rfl,hi,p⟩
 by_cases lt:i < n
 ·obtain ⟨go,step⟩:=hs i acc σ H lt p
  refine .inr ⟨go,fun x H' y=>?_⟩
  have e:∀ acc σ H,(∃ m',m' < n - i/\m'=n - (i + 1)/\i + 1<=n/\Pv (i + 1) acc σ H)=Pv (i + 1) acc σ H:=fun acc σ H=>propext ⟨fun z=>z.choose_spec.2.2.2,fun q=>⟨n - (i + 1),by omega,rfl,lt,q⟩⟩
  simp only [e]
  exact step x H' y
 ·obtain rfl:i=n:=by omega
  exact .inl (hd acc σ H p)
theorem tW {a:Addr}{o:Obj}{kvs:List (List cF×V)}(Pv:Nat->St->Hp->Prop)(h0:Pv 0 σ H)(hl:∀ i σ H,Pv i σ H->H a=some (.frz o (.dT kvs)))
  (hs:∀ i k v T b σ H,kvs[i]?=some (k,v)->Pv i σ H->H b=some (.tup (k.map kV))->H T=none->g (.ref T) σ (upd H T (.tup [.ref b,v])) fun σ2 H2=>tb { D with nx:=Pv (i + 1),ct:=Pv (i + 1),bk:=D.nx } σ2 H2)
  (hd:∀ σ H,Pv kvs.length σ H->D.nx σ H):sJ (DO a o kvs) g tb D σ H :=
 A8 (n:=kvs.length) Pv h0 (fun i σ H lt p=>⟨⟨hl i σ H p,lt⟩,fun x H' y=>by
  obtain ⟨T,b,k,v,e,hb,rfl,hT,rfl⟩:=y
  exact hs i k v T b σ H e p hb hT⟩) fun σ H p=>⟨⟨hl _ σ H p,Nat.le_refl _⟩,hd σ H p⟩
theorem j8 {a:Addr}{o:Obj}{kvs:List (List cF×V)}(Pv:Nat->β->St->Hp->Prop)(h0:Pv 0 e0 σ H)(hl:∀ i acc σ H,Pv i acc σ H->H a=some (.frz o (.dT kvs)))
  (hs:∀ i k v T b acc σ H,kvs[i]?=some (k,v)->Pv i acc σ H->H b=some (.tup (k.map kV))->H T=none->g (.ref T) σ (upd H T (.tup [.ref b,v])) fun σ2 H2=>tt σ2 H2 fun b H3=>if b=true then tl acc σ2 H3 fun a H4=>Pv (i + 1) a σ2 H4 else Pv (i + 1) acc σ2 H3)
  (hd:∀ acc σ H,Pv kvs.length acc σ H->Fin acc H):∃ W:wY β,(∃ m,W 0 m e0 σ H)/\iQ (DO a o kvs) g tt tl Fin W :=
 qE (n:=kvs.length) Pv h0 (fun i acc σ H lt p=>⟨⟨hl i acc σ H p,lt⟩,fun x H' y=>by
  obtain ⟨T,b,k,v,e,hb,rfl,hT,rfl⟩:=y
  exact hs i k v T b acc σ H e p hb hT⟩) fun acc σ H p=>⟨⟨hl _ acc σ H p,Nat.le_refl _⟩,hd acc σ H p⟩
end
section
variable {g:TG}{tt:TT}{te:TE}{Q:VK}{σ:St}{H:Hp}
theorem rQ {a:Addr}{o:Obj}{kvs:List (List cF×V)}(Pv:Nat->List V->St->Hp->Prop)(h0:Pv 0 [] σ H)(hl:∀ i acc σ H,Pv i acc σ H->H a=some (.frz o (.dT kvs)))
  (hs:∀ i k v T b acc σ H,kvs[i]?=some (k,v)->Pv i acc σ H->H b=some (.tup (k.map kV))->H T=none->CStep g tt te (.ref T) acc σ (upd H T (.tup [.ref b,v])) (Pv (i + 1)))
  (hd:∀ acc σ H,Pv kvs.length acc σ H->∀ p,H p=none->Q (.ref p) (upd H p (.lst acc))):jG (DO a o kvs) g tt te Q σ H:=by
 obtain ⟨W,w0,t⟩:=j8 (tl:=tlLst te) (Fin:=fun acc H=>∀ p,H p=none->Q (.ref p) (upd H p (.lst acc))) (a:=a) (o:=o) (kvs:=kvs) Pv h0 hl hs hd
 exact ⟨W,w0,t⟩
theorem sP {β:Type}{tl:β->St->Hp->(β->Hp->Prop)->Prop}{Fin:β->Hp->Prop}{e0:β}{K:PySem.W.Frag}{a:Addr}(xs:List V)(Pv:Nat->β->St->Hp->Prop)(h0:Pv 0 e0 σ H)(hl:∀ i acc σ H,Pv i acc σ H->H a=some (.lst xs))
  (hs:∀ i x T acc σ H,xs[i]?=some x->Pv i acc σ H->H T=none->g (.ref T) σ (upd H T (.tup [.int i,x])) fun σ2 H2=>tt σ2 H2 fun b H3=>if b=true then tl acc σ2 H3 fun a H4=>Pv (i + 1) a σ2 H4 else Pv (i + 1) acc σ2 H3)
  (hd:∀ acc σ H,Pv xs.length acc σ H->Fin acc H):∃ W:wY β,(∃ m,W 0 m e0 σ H)/\iQ (EJ K a) g tt tl Fin W:=by
 refine qE (n:=xs.length) Pv h0 (fun i acc σ H lt p=>?_) fun acc σ H p=>?_
 ·have el:=cY.of (K:=K) (hl i acc σ H p)
  exact ⟨⟨xs,xs[i],el,by simp [lt]⟩,fun z H' y=>by
   obtain ⟨T,x,rfl,hT,rfl,q⟩:=y
   exact hs i x T acc σ H (q xs el) p hT⟩
 ·exact ⟨⟨xs,cY.of (hl _ acc σ H p),Nat.le_refl _⟩,hd acc σ H p⟩
end
end L2
namespace Lw
open PySem L2
section
variable {P:Program}{w:World}{K:PySem.W.Frag}{mg:eV}{base:Heap}
noncomputable def enc:List Nat->Nat
 | []=>1
 | x :: r=>2 ^ x * (2 * enc r + 1)
theorem BA:∀ r:List Nat,1<=enc r
 | []=>Nat.le_refl _
 | x :: r=>by
  have h1:=Nat.two_pow_pos x
  show 1<=2 ^ x * (2 * enc r + 1)
  exact Nat.mul_pos h1 (by omega)
theorem y6:∀ r:List Nat,enc r<=3 ^ r.length * 2 ^ K42.tot r
 | []=>Nat.le_refl _
 | x :: r=>by
  have ih:=y6 r
  have p:=BA r
  show 2 ^ x * (2 * enc r + 1)<=3 ^ (r.length + 1) * 2 ^ (x + K42.tot r)
  rw [Nat.pow_succ,Nat.pow_add]
  have h1:2 * enc r + 1<=3 * (3 ^ r.length * 2 ^ K42.tot r):=by omega
  have h2:=Nat.mul_le_mul_left (2 ^ x) h1
  have e:2 ^ x * (3 * (3 ^ r.length * 2 ^ K42.tot r))=3 ^ r.length * 3 * (2 ^ x * 2 ^ K42.tot r):=by
   simp only [Nat.mul_comm,Nat.mul_left_comm,Nat.mul_assoc]
  omega
theorem uA:∀ {x y a b:Nat},2 ^ x * (2 * a + 1)=2 ^ y * (2 * b + 1)->x=y/\a=b
 | 0,0,a,b,h=>by simp at h;exact ⟨rfl,by omega⟩
 | 0,y + 1,a,b,h=>by
  rw [Nat.pow_succ,Nat.mul_comm (2 ^ y) 2,Nat.mul_assoc] at h
  omega
 | x + 1,0,a,b,h=>by
  rw [Nat.pow_succ,Nat.mul_comm (2 ^ x) 2,Nat.mul_assoc] at h
  omega
 | x + 1,y + 1,a,b,h=>by
  rw [Nat.pow_succ,Nat.mul_comm (2 ^ x) 2,Nat.mul_assoc,Nat.pow_succ,Nat.mul_comm (2 ^ y) 2,Nat.mul_assoc] at h
  obtain ⟨h1,h2⟩:=uA (x:=x) (y:=y) (a:=a) (b:=b) (by omega)
  exact ⟨by omega,h2⟩
theorem vA:∀ {r t:List Nat},r.length=t.length->enc r=enc t->r=t
 | [],[],_,_=>rfl
 | [],_ :: _,len,_=>nomatch len
 | _ :: _,[],len,_=>nomatch len
 | x :: r,y :: t,h,e=>by
  obtain ⟨h1,h2⟩:=uA (show 2 ^ x * (2 * enc r + 1)=2 ^ y * (2 * enc t + 1) from e)
  rw [h1,vA (by simpa using h) h2]
theorem iV {n:Nat}(n8:n<=8){l:List (List Nat)}(nd:l.Nodup)(h:∀ r ∈ l,r.length=n/\K42.tot r<=9):l.length<=4000000:=by
 have key:(l.map fun r=>(enc r:Int)).Nodup:=by
  refine List.nodup_iff_pairwise_ne.mpr (List.pairwise_map.mpr ?_)
  refine (List.nodup_iff_pairwise_ne.mp nd).imp_of_mem fun {a b} ha hb ne z=>ne (vA ((h a ha).1.trans (h b hb).1.symm) (by exact_mod_cast z))
 have:=K42.few 0 4000000 _ key fun v hv=>by
  obtain ⟨r,hr,rfl⟩:=List.mem_map.mp hv
  obtain ⟨h1,h2⟩:=h r hr
  have b1:=y6 r
  have b2:3 ^ r.length<=3 ^ 8:=Nat.pow_le_pow_right (by decide) (by omega)
  have b3:2 ^ K42.tot r<=2 ^ 9:=Nat.pow_le_pow_right (by decide) h2
  have b4:=Nat.mul_le_mul b2 b3
  have b5:3 ^ 8 * 2 ^ 9 < 4000000:=by decide
  omega
 rw [List.length_map] at this
 exact this
theorem qO:2 * 4000000 + 10<=sizeLine:=by decide
noncomputable def keyR (r:List Nat):List cF:=r.map fun (x:Nat)=>Sum.inl (x:Int)
theorem e8 (r:List Nat):(keyR r).map kV=(nI r).map V.int:=by
 unfold keyR nI
 simp only [List.map_map]
 rfl
theorem i9:∀ {r t:List Nat},keyR r=keyR t->r=t
 | [],[],_=>rfl
 | [],_ :: _,h=>nomatch h
 | _ :: _,[],h=>nomatch h
 | x :: r,y :: t,h=>by
  have h':Sum.inl (x:Int) :: keyR r=(Sum.inl (y:Int):cF) :: keyR t:=h
  injection h' with h1 h2
  have h3:(x:Int)=(y:Int):=Sum.inl.inj h1
  rw [i9 h2,show x=y by omega]
open K42 in
theorem jA:∀ (r:List Nat) (i j:Nat),(inc r i)[j]?=if i=j then (r[j]?).map (· + 1) else r[j]?
 | [],i,j=>by simp [inc]
 | x :: r,0,0=>by simp [inc]
 | x :: r,0,j + 1=>by simp [inc]
 | x :: r,i + 1,0=>by simp [inc]
 | x :: r,i + 1,j + 1=>by
  have:=jA r i j
  simp only [inc,List.getElem?_cons_succ,Nat.add_right_cancel_iff]
  exact this
noncomputable def EV (ss:List Int)(H:Hp)(p:List cF×V)(r:List Nat):Prop:=p.1=keyR r/\∃ o,p.2 = .ref o/\H o=some (.tup [.int (K42.dot ss r)])
noncomputable abbrev zG (ss:List Int)(H:Hp):List (List cF×V)->List (List Nat)->Prop:=Paired (EV ss H)
noncomputable def E4 (H:Hp)(v:V)(r:List Nat):Prop:=∃ p,v = .ref p/\m8 H p r
noncomputable abbrev zQ (H:Hp):List V->List (List Nat)->Prop:=Paired (E4 H)
theorem zG.same {ss:List Int}{H H':Hp}{kvs:List (List cF×V)}{lv:List (List Nat)}(h:zG ss H kvs lv)(s:∀ b xs,H b=some (.tup xs)->H' b=some (.tup xs)):zG ss H' kvs lv:=Paired.mapP h fun _ _ ⟨e,o,eo,ho⟩=>⟨e,o,eo,s _ _ ho⟩
theorem zQ.same {H H':Hp}{fvs:List V}{fd:List (List Nat)}(h:zQ H fvs fd)(s:∀ b xs,H b=some (.tup xs)->H' b=some (.tup xs)):zQ H' fvs fd:=Paired.mapP h fun _ _ ⟨p,e,t⟩=>⟨p,e,s _ _ t⟩
noncomputable def zD (ss:List Int)(H:Hp)(S:Addr):Prop:=∃ svs,H S=some (.lst svs)/\Paired (fun (v:V) (z:Int)=>∃ q,v = .ref q/\H q=some (.tup [.int z])) svs ss
noncomputable def BL (n:Nat)(H:Hp)(F:Addr):Prop:=∃ fvs,H F=some (.lst fvs)/\fvs.length=n/\∀ v ∈ fvs,∃ e,v = .ref e/\H e=some (.lst [])
theorem zD.same {ss:List Int}{H H':Hp}{S:Addr}(h:zD ss H S)(s:aC H H'):zD ss H' S:=by
 obtain ⟨svs,h1,h2⟩:=h
 exact ⟨svs,s _ _ h1,Paired.mapP h2 fun _ _ ⟨q,e,t⟩=>⟨q,e,s _ _ t⟩⟩
theorem BL.same {n:Nat}{H H':Hp}{F:Addr}(h:BL n H F)(s:aC H H'):BL n H' F:=by
 obtain ⟨fvs,h1,h2,h3⟩:=h
 exact ⟨fvs,s _ _ h1,h2,fun v hv=>let ⟨e,a,b⟩:=h3 v hv;⟨e,a,s _ _ b⟩⟩
open K42 in
structure Lv (ss:List Int)(k:Nat)(lv fd:List (List Nat)):Prop where
 nd:lv.Nodup
 is:∀ x,x ∈ lv ↔ tot x=k/\Gr ss x/\nA ss x
 fn:fd.Nodup
 fi:∀ x,x ∈ fd ↔ Min ss x/\tot x < k
open K42 in
theorem Lv.first {ss:List Int}:Lv ss 1 ((List.range ss.length).map fun i=>inc (zro ss.length) i) []:=by
 refine ⟨?_,fun x=>?_,List.nodup_nil,fun x=>⟨fun z=>(nomatch z),fun ⟨m,t⟩=>?_⟩⟩
 ·refine List.nodup_iff_pairwise_ne.mpr (List.pairwise_map.mpr ((List.nodup_iff_pairwise_ne.mp List.nodup_range).imp_of_mem fun {a b} ha hb ne z=>?_))
  have h1:=jA (zro ss.length) a a
  have h2:=jA (zro ss.length) b a
  rw [z,h2,if_neg (Ne.symm ne),if_pos rfl] at h1
  have e:(zro ss.length)[a]?=some 0:=by unfold zro;rw [List.getElem?_replicate,if_pos (List.mem_range.mp ha)]
  rw [e] at h1
  cases h1
 ·rw [v9,List.mem_map]
  constructor
  ·rintro ⟨i,hi,rfl⟩
   exact ⟨i,_,List.getElem?_eq_getElem (List.mem_range.mp hi),rfl⟩
  ·rintro ⟨i,z,hz,rfl⟩
   exact ⟨i,List.mem_range.mpr (lt_of hz),rfl⟩
 ·have:=m.1.2.2
  omega
open K42 in
theorem Lv.next {ss:List Int}{k:Nat}{lv fd gr:List (List Nat)}(h:Lv ss k lv fd)(k1:1<=k)(gn:gr.Nodup)(gi:∀ x,x ∈ gr ↔ ∃ r ∈ lv,∃ i z,ss[i]?=some z/\dot ss r * z < 0/\x=inc r i)(P:List Nat->Bool)(hP:∀ x ∈ gr,P x=true ↔ ∀ s ∈ fd ++ lv.filter (fun r=>dot ss r == 0),¬ lew s x) :
  Lv ss (k + 1) (gr.filter P) (fd ++ lv.filter fun r=>dot ss r == 0):=by
 have fi':∀ x,x ∈ fd ++ lv.filter (fun r=>dot ss r == 0) ↔ Min ss x/\tot x < k + 1:=fun x=>by
  rw [List.mem_append,h.fi,List.mem_filter,h.is]
  have fh:=tV (ss:=ss) (x:=x) (k:=k)
  constructor
  ·rintro (⟨m,t⟩ | ⟨l,z⟩)
   ·exact ⟨m,by omega⟩
   ·obtain ⟨m,t⟩:=fh.mpr ⟨l,by simpa using z⟩
    exact ⟨m,by omega⟩
  ·rintro ⟨m,t⟩
   by_cases e:tot x=k
   ·obtain ⟨l,z⟩:=fh.mp ⟨m,e⟩
    exact .inr ⟨l,by simpa using z⟩
   ·exact .inl ⟨m,by omega⟩
 refine ⟨gn.filter _,fun x=>?_,List.nodup_append.mpr ⟨h.fn,h.nd.filter _,fun a ha b hb z=>?_⟩,fi'⟩
 ·rw [List.mem_filter,tL k1]
  constructor
  ·rintro ⟨g,p⟩
   obtain ⟨r,hr,i,z,h1,h2,h3⟩:=(gi x).mp g
   exact ⟨⟨r,i,z,(h.is r).mp hr,h1,h2,h3⟩,fun s m t=>(hP x g).mp p s ((fi' s).mpr ⟨m,t⟩)⟩
  ·rintro ⟨⟨r,i,z,l,h1,h2,h3⟩,q⟩
   have g:=(gi x).mpr ⟨r,(h.is r).mpr l,i,z,h1,h2,h3⟩
   exact ⟨g,(hP x g).mpr fun s hs=>let ⟨m,t⟩:=(fi' s).mp hs;q s m t⟩
 ·subst z
  have:=((h.fi a).mp ha).2
  have:=((h.is a).mp (List.mem_filter.mp hb).1).1
  omega
open K42 in
theorem Lv.done {ss:List Int}{k:Nat}{fd:List (List Nat)}(h:Lv ss k [] fd)(k1:1<=k):∀ x,x ∈ fd ↔ Min ss x:=fun x=>by
 rw [h.fi]
 refine ⟨fun z=>z.1,fun m=>⟨m,?_⟩⟩
 rcases Nat.lt_or_ge (tot x) k with lt | ge
 ·exact lt
 ·obtain ⟨y,h1,h2,h3⟩:=down (complete m) k k1 ge m.2
  exact absurd ((h.is y).mpr ⟨h1,h2,h3⟩) List.not_mem_nil
end
end Lw
namespace L2
open PySem PySem.Spec PyProof.Rows
theorem bO:∀ (names:List (Str×NameKind)) (n:Nat) (acc:List (Str×Addr)),cellsFrom n names acc=cellsFrom n names [] ++ acc
 | [],_,_=>rfl
 | (x,k) :: r,n,acc=>by
  unfold cellsFrom
  split
  ·rw [bO r _ ((x,n) :: acc),bO r _ [(x,n)],List.append_assoc];rfl
  ·exact bO r n acc
theorem eC:∀ {names:List (Str×NameKind)} {n:Nat} {x:Str} {c:Addr},(x,c) ∈ cellsFrom n names []->(x,NameKind.cell) ∈ names
 | [],_,_,_,h=>nomatch h
 | (y,k) :: r,n,x,c,h=>by
  unfold cellsFrom at h
  split at h
  ·rename_i hk
   rw [bO,List.mem_append,List.mem_singleton] at h
   rcases h with h | h
   ·exact List.mem_cons_of_mem _ (eC h)
   ·cases h
    rw [beq_iff_eq.mp hk]
    exact List.mem_cons_self
  ·exact List.mem_cons_of_mem _ (eC h)
theorem rB {α:Type}{x:Str}:∀ {l:List (Str×α)},(∃ v,(x,v) ∈ l)->∃ v,l.lookup x=some v
 | [],⟨_,h⟩=>nomatch h
 | (y,w) :: r,⟨v,h⟩=>by
  rw [List.lookup_cons]
  by_cases e:x=y
  ·subst e;rw [beq_self_eq_true];exact ⟨w,rfl⟩
  ·have hb:(x == y)=false:=by simpa using e
   rw [hb]
   rcases List.mem_cons.mp h with z | z
   ·cases z;exact absurd rfl e
   ·exact rB ⟨v,z⟩
theorem eL:∀ {names:List (Str×NameKind)} {n:Nat} {x:Str},(x,NameKind.cell) ∈ names->∃ c,(x,c) ∈ cellsFrom n names []
 | [],_,_,h=>nomatch h
 | (y,k) :: r,n,x,h=>by
  unfold cellsFrom
  rcases List.mem_cons.mp h with z | z
  ·cases z
   rw [if_pos (show (NameKind.cell == NameKind.cell)=true from rfl),bO]
   exact ⟨n,List.mem_append_right _ List.mem_cons_self⟩
  ·split
   ·obtain ⟨c,hc⟩:=eL (n:=n + 1) z
    rw [bO]
    exact ⟨c,List.mem_append_left _ hc⟩
   ·exact eL z
theorem eX {env:Env}{x:Str}:∀ {names:List (Str×NameKind)} {k':NameKind},
  (names.map fun (n,k)=>if (k == NameKind.free && env.scope.kind == .function && env.kindOf n == some .cell) then (n,NameKind.cell) else (n,k)).lookup x=some k'->(k' = .cell∨k' = .free)->names.lookup x=some .free∨names.lookup x=some .cell
 | [],_,h,_=>by simp at h
 | (n,k) :: r,k',h,hk'=>by
  have ih:=@eX env x r k'
  have h:List.lookup x ((if (k == NameKind.free && env.scope.kind == .function && env.kindOf n == some .cell)=true then (n,NameKind.cell) else (n,k)) :: _)=some k':=h
  by_cases hx:x=n
  ·subst hx
   rw [List.lookup_cons,beq_self_eq_true]
   by_cases q:(k == NameKind.free && env.scope.kind == .function && env.kindOf x == some .cell)=true
   ·simp only [Bool.and_eq_true,beq_iff_eq] at q
    exact .inl (congrArg some q.1.1)
   ·rw [if_neg q,List.lookup_cons,beq_self_eq_true] at h
    have h:some k=some k':=h
    cases h
    rcases hk' with e | e
    ·exact .inr (congrArg some e)
    ·exact .inl (congrArg some e)
  ·have hb:(x == n)=false:=by simpa using hx
   rw [List.lookup_cons,hb]
   by_cases q:(k == NameKind.free && env.scope.kind == .function && env.kindOf n == some .cell)=true
   ·rw [if_pos q,List.lookup_cons,hb] at h
    exact ih h hk'
   ·rw [if_neg q,List.lookup_cons,hb] at h
    exact ih h hk'
structure bW (X:Cx)(scope:Scope)(N':bE)(src:List (Option Nat)):Prop where
 kind:scope.kind = .function
 names:∀ y ∈ scope.names,scope.names.lookup y.1=some y.2
 free:∀ y ∈ scope.names,y.2 = .free->(X.env.scope.names.lookup y.1=some .cell∨X.env.scope.names.lookup y.1=some .free)
 nd:N'.Nodup
 map:srcOk X.N scope.names src N'=true
noncomputable def zB (N:bE)(names:List (Str×NameKind))(scope:Scope)(N':bE)(src:List (Option Nat)):Bool :=
 decide (scope.kind = .function) && scope.names.all (fun y=>decide (scope.names.lookup y.1=some y.2)) &&
 scope.names.all (fun y=>decide (y.2≠.free) || (decide (names.lookup y.1=some .cell) || decide (names.lookup y.1=some .free))) && lO N' && srcOk N scope.names src N'
theorem bW.by {X:Cx}{N:bE}{names:List (Str×NameKind)}{scope:Scope}{N':bE}{src:List (Option Nat)}(h:zB N names scope N' src=true)(hN:X.N=N)(hE:X.env.scope.names=names):bW X scope N' src:=by
 subst hN hE
 simp only [zB,Bool.and_eq_true,List.all_eq_true,Bool.or_eq_true,decide_eq_true_eq] at h
 obtain ⟨⟨⟨⟨h1,h2⟩,h4⟩,h5⟩,h6⟩:=h
 exact ⟨h1,h2,fun y hy hk=>(h4 y hy).resolve_left fun z=>z hk,jO h5,h6⟩
noncomputable def fV (X:Cx)(scope:Scope)(C:Addr):List (Str×Addr):=cellsFrom (C + 1) scope.names (closL X.env.cells scope.names [])
noncomputable def blkC (X:Cx)(scope:Scope)(N':bE)(C:Addr)(s₂:Shared)(H₂:Hp)(fp:List Addr):Cx :=
 { X with N:=N',s₀:=s₂,H₀:=H₂,env:=compEnvC scope (fV X scope C) C X.env,outer:=X.stack,stack:=X.stack,ex:=fp,fn:=fun x=>match scope.names.lookup x with | some .cell=>true | _=>false,pn:=[],xe:=fun _ _=>False }
structure pZ (X:Cx)(scope:Scope)(C:Addr)(s:Shared)(h':Heap):Prop where
 of:∀ x c,(fV X scope C).lookup x=some c->(X.env.cells.lookup x=some c/\scope.names.lookup x=some .free)∨(scope.names.lookup x=some .cell/\C < c/\h'.IsCell c none)
 inj:∀ x y c,(fV X scope C).lookup x=some c->(fV X scope C).lookup y=some c->x=y
 has:∀ x,scope.names.lookup x=some .free∨scope.names.lookup x=some .cell->∃ c,(fV X scope C).lookup x=some c
section
variable {X:Cx}{pins:bK}{σ:St}{H:Hp}{s:Shared}{scope:Scope}{N':bE}{src:List (Option Nat)}
theorem bW.cells (S:bW X scope N' src)(I:aF X pins σ H s):∀ x ∈ scope.names,x.2 = .free->∃ c,X.env.cells.lookup x.1=some c:=fun x hx hk=>I.ok.has x.1 (S.free x hx hk)
theorem bW.at_ (S:bW X scope N' src)(I:aF X pins σ H s){h:Heap}{C:Addr}(hC:s.heap.objs.size<=C)(hz:h.objs.size=C + 1):pZ X scope C s (pushCells h scope.names):=by
 have ok:=cellsFrom_ok scope.names h (C + 1) [] ⟨fun _ _ hm=>(nomatch hm),List.Pairwise.nil⟩ (Nat.le_of_eq hz.symm)
 rw [hz] at ok
 have eq:∀ x,(fV X scope C).lookup x=((cellsFrom (C + 1) scope.names []).lookup x).or ((closL X.env.cells scope.names []).lookup x):=fun x=>by
  unfold fV
  rw [bO,List.lookup_append]
 have two:∀ x c,(fV X scope C).lookup x=some c->(x,c) ∈ cellsFrom (C + 1) scope.names []∨(X.env.cells.lookup x=some c/\scope.names.lookup x=some .free):=fun x c h=>by
  rw [eq] at h
  cases q:(cellsFrom (C + 1) scope.names []).lookup x with
  | some d =>
   rw [q] at h
   cases h
   exact .inl (mem_of_lookup q)
  | none =>
   rw [q] at h
   have h:(closL X.env.cells scope.names []).lookup x=some c:=h
   rcases jX _ _ h with z | ⟨z,e⟩
   ·simp at z
   ·obtain ⟨d,hd⟩:=S.cells I (x,.free) z rfl
    have hd:X.env.cells.lookup x=some d:=hd
    rw [hd] at e
    exact .inr ⟨by rw [hd,e];rfl,S.names _ z⟩
 have old:∀ x c,X.env.cells.lookup x=some c->c < C + 1:=fun x c h=>by
  obtain ⟨v,q⟩:=I.cell x c h
  exact Nat.lt_succ_of_lt (Nat.lt_of_lt_of_le q.lt hC)
 refine ⟨fun x c h=>?_,fun x y c h1 h2=>?_,fun x hx=>?_⟩
 ·rcases two x c h with m | m
  ·exact .inr ⟨S.names _ (eC m),(ok.empty x c m).2,(ok.empty x c m).1⟩
  ·exact .inl m
 ·rcases two x c h1 with m | ⟨m,_⟩ <;> rcases two y c h2 with n | ⟨n,_⟩
  ·exact name_of_addr ok.apart m n
  ·exact absurd (old y c n) (Nat.not_lt_of_le (ok.empty x c m).2)
  ·exact absurd (old x c m) (Nat.not_lt_of_le (ok.empty y c n).2)
  ·exact I.ok.inj x y c m n
 ·rw [eq]
  rcases hx with e | e
  ·cases q:(cellsFrom (C + 1) scope.names []).lookup x with
   | some d=>exact ⟨d,rfl⟩
   | none =>
    obtain ⟨c,hc⟩:=Option.isSome_iff_exists.mp (jY (cells:=X.env.cells) (x:=x) scope.names [] (.inl (cR e)))
    exact ⟨c,hc⟩
  ·obtain ⟨c,hc⟩:=rB (eL (n:=C + 1) (cR e))
   rw [hc]
   exact ⟨c,rfl⟩
theorem bW.ok (S:bW X scope N' src)(I:aF X pins σ H s){fp:List Addr}{C:Addr}{h':Heap}(cs:pZ X scope C s h')(hf:∀ b ∈ fp,cA X pins H b)(hlt:∀ b ∈ fp,b < s.heap.objs.size)(hC:s.heap.objs.size<=C):(blkC X scope N' C s H fp).Ok where
 mod:=I.mod
 kind:=S.kind
 glob:=I.ok.glob
 blt:=I.ok.blt
 above:=hC
 inj:=cs.inj
 has:=fun x hx=>by
  rcases hx with h | h
  ·exact cs.has x (eX h (.inl rfl))
  ·exact cs.has x (eX h (.inr rfl))
 cab:=fun x c h e=>by
  rcases cs.of x c e with ⟨_,z⟩ | ⟨_,z,_⟩
  ·have h:(match scope.names.lookup x with | some .cell=>true | _=>false)=true:=h
   rw [z] at h
   cases h
  ·exact Nat.le_trans hC (Nat.le_of_lt z)
 hd:=I.ok.hd
 frames:=I.ok.frames
 stk:=.inl rfl
 exf:=fun b hb=>⟨Nat.ne_of_lt (Nat.lt_of_lt_of_le (hlt b hb) hC),fun x c e=>by
  rcases cs.of x c e with ⟨z,_⟩ | ⟨_,z,_⟩
  ·exact (hf b hb).2.2.2.2.1 x c z
  ·exact Nat.ne_of_gt (Nat.lt_trans (Nat.lt_of_lt_of_le (hlt b hb) hC) z)⟩
 bs:=I.bs
 bsz:=Nat.le_trans I.ok.bsz I.sz
 noex:=fun b o e hb=>by
  rcases (hf b hb).2.2.2.1 with z | z
  ·exact I.ok.noex b o e z
  ·exact absurd (Nat.lt_of_lt_of_le (Heap.lt_size e) (Nat.le_trans I.ok.bsz z)) (Nat.lt_irrefl _)
 exfs:=fun b hb z=>by
  rcases List.mem_cons.mp (I.stkSub b z) with e | e
  ·exact (hf b hb).2.1 e
  ·exact (hf b hb).2.2.1 e
 funs:=I.stack
 frf:=I.stkFree
theorem bW.start (S:bW X scope N' src)(I:aF X pins σ H s){fp:List Addr}{C:Addr}{h':Heap}{tk:Nat}{m:eV}(cs:pZ X scope C s h')(hf:∀ b ∈ fp,cA X pins H b)(hlt:∀ b ∈ fp,b < s.heap.objs.size)(hC:s.heap.objs.size<=C)
  (old:∀ b o,s.heap.get? b=some o->h'.get? b=some o) (hns:h'.Ns C m):aF (blkC X scope N' C s H fp) [] (stC src σ) H { s with heap:=h',toks:=tk } where
 ok:=S.ok I cs hf hlt hC
 os:=rfl
 bare:=I.bare
 base:=Un.kept old
 loc:=by
  obtain ⟨m0,hn0,hl0⟩:=I.loc
  refine ⟨m,hns,fun j x v h1 h2 h3=>?_⟩
  have h2:(src.map fun o=>o.bind fun i=>(σ[i]?).join)[j]?=some (some v):=h2
  rw [List.getElem?_map] at h2
  cases e:src[j]? with
  | none=>rw [e] at h2;cases h2
  | some o =>
   rw [e] at h2
   cases o with
   | none=>cases h2
   | some i =>
    have h2:some ((σ[i]?).join)=some (some v):=h2
    obtain ⟨e1,e2⟩:=gI S.map e h1
    have hv:σ[i]?=some (some v):=by
     cases q:σ[i]? with
     | none=>rw [q] at h2;cases h2
     | some w=>rw [q] at h2;cases w with
      | none=>cases h2
      | some w=>cases h2;rfl
    have hfr:=S.free (x,.free) (cR e2) rfl
    obtain ⟨u,r,l⟩:=hl0 i x v e1 hv (.inr hfr)
    refine ⟨u,r,.inr ⟨dN e2,?_⟩⟩
    obtain ⟨c,hc⟩:=cs.has x (.inl e2)
    refine ⟨c,hc,?_⟩
    have hc':X.env.cells.lookup x=some c:=by
     rcases cs.of x c hc with z | ⟨z,_⟩
     ·exact z.1
     ·rw [e2] at z;cases z
    rcases l with ⟨k,_⟩ | ⟨_,c',hc2,hcell⟩
    ·have k:X.env.scope.names.lookup x=some .local:=k
     have hfr:X.env.scope.names.lookup x=some .cell∨X.env.scope.names.lookup x=some .free:=hfr
     rw [k] at hfr
     rcases hfr with z | z <;> cases z
    ·rw [hc'] at hc2;cases hc2
     obtain ⟨o,ho,hd⟩:=hcell
     exact ⟨o,old _ _ ho,hd⟩
 cell:=fun x c e=>by
  rcases cs.of x c e with ⟨z,_⟩ | ⟨_,_,z⟩
  ·obtain ⟨v,o,ho,hd⟩:=I.cell x c z
   exact ⟨v,o,old _ _ ho,hd⟩
  ·exact ⟨none,z⟩
 free:=I.hok.fresh hC
 freeC:=fun x c e=>by
  rcases cs.of x c e with ⟨z,_⟩ | ⟨_,z,_⟩
  ·exact I.freeC x c z
  ·exact I.hok.fresh (Nat.le_trans hC (Nat.le_of_lt z))
 pin:=fun p hp=>nomatch hp
 hok:=I.hok.kept old
 len:=by
  show (src.map _).length=N'.length
  rw [List.length_map]
  exact gH S.map
end
section
variable {β:Type}{F:Heap->Addr->β->Prop}{e0:β}{mk:Sem Value}{ce:Expr}{cls:List Comprehension}{ob:HO}
variable {X:Cx}{scope:Scope}{N':bE}{src:List (Option Nat)}{pins:bK}{σ:St}{H₂:Hp}{s₂:Shared}{fp:List Addr}{it:Addr}{tn:w4}{J:It}{tg iter:Expr}{ifs:g9}
theorem zC {pl:bK}{σc:St}{H':Hp}{s':Shared}{C D:Addr}(I2:aF X pins σ H₂ s₂)(hf:∀ b ∈ fp,cA X pins H₂ b)
  (I':aF (blkC X scope N' C s₂ H₂ fp) pl σc H' s') (hD:s₂.heap.objs.size<=D) (hDn:H' D=none) (ok:aU X.prog X.w (upd H' D ob) s'.heap D ob):aF X pins σ (upd H' D ob) s':=by
 have u:=I'.base
 have neD:∀ b o,s₂.heap.get? b=some o->b≠D:=fun b o e=>Nat.ne_of_lt (Nat.lt_of_lt_of_le (Heap.lt_size e) hD)
 have neT:∀ b o,H' b=some o->b≠D:=fun b o e z=>by rw [z,hDn] at e;cases e
 refine I2.call' (ch:=fp) I'.os ⟨u.keep,u.slot,fun b o e n hx=>?_,u.there,fun b xs e=>?_,fun b o xs e=>?_,fun b ps e=>?_⟩ (fun b o e=>?_) I'.bare fun b hb=>?_
 ·rw [aE (neD b o e)];exact u.free b o e n hx
 ·have q:=u.tups b xs e
  rw [aE (neT b _ q)];exact q
 ·have q:=u.frzs b o xs e
  rw [aE (neT b _ q)];exact q
 ·obtain ⟨more,q⟩:=u.tbls b ps e
  exact ⟨more,by rw [aE (neT b _ q)];exact q⟩
 ·by_cases hb:b=D
  ·subst hb
   rw [upd_same] at e
   cases e
   exact ok
  ·rw [aE hb] at e
   exact (I'.hok b o e).stay (fun _ _ _ q=>q) (fun c q=>by rw [aE (neT c _ q)];exact q) fun c xs q=>by rw [aE (neT c _ q)];exact q
 ·obtain ⟨f0,f1,f2,f3,f4,f5⟩:=hf b hb
  exact ⟨f3,f1,f4,f5⟩
theorem AU {scope:Scope}{env:Env}{cl:List (Str×Addr)}{M:Model}{A:Around}{E:bA}{Q:Env->Shared->Prop}{s:Shared}
  (h:Q { scope:=scope,locals:=s.heap.objs.size,globals:=env.globals,cells:=cellsFrom (s.heap.objs.size + 1) scope.names cl,qual:=env.qual,func:=none,code:=env.code,frame:=env.frame,builtins:=env.builtins } { s with heap:=pushCells (s.heap.push { cls:=.type "dict",data:=.dict #[] }) scope.names }) :
  wpAny M A (newFunctionEnv scope env.globals cl [] env.qual none .none (some env)) Q E s:=by
 have size:(s.heap.push { cls:=.type "dict",data:=.dict #[] }).objs.size=s.heap.objs.size + 1:=Heap.size_push ..
 unfold newFunctionEnv
 apply wpAny_bind
 apply wpAny_alloc
 apply wpAny_bind
 apply wpAny_layCells
 ·intro x k cs
  by_cases is:(k == NameKind.cell)=true
  ·simp only [is,if_true,bind_assoc,pure_bind]
  ·simp only [is,if_false,Bool.false_eq_true,pure_bind]
 ·rw [← size] at h
  apply wpAny_bind
  apply wpAny_pure
  apply wpAny_pure
  exact h
structure zN (F:Heap->Addr->β->Prop)(e0:β)(X:Cx)(scope:Scope)(N':bE)(src:List (Option Nat))(s₂:Shared)(H₂:Hp)(σ:St)(fp:List Addr)(tn:w4)(D C:Addr)(t:Shared):Prop where
 at_:s₂.heap.objs.size=D
 le:s₂.heap.objs.size<=C
 ne:D≠C
 place:h8 (blkC X scope N' C s₂ H₂ fp) [] D fp
 betw:∀ W:wY β,(∃ m,W 0 m e0 (stC src σ) H₂)->∃ m,sL F (blkC X scope N' C s₂ H₂ fp) [] D fp tn W m t
theorem pR {RR:Value->Addr->Result->Shared->Prop}{E:bA}(hmk:oH F e0 X.prog X.w X.A mk)(hk:zM ce)(hcl:clausesOf ce=⟨tg,iter,ifs,0⟩ :: cls)(S:bW X scope N' src)(I2:aF X pins σ H₂ s₂)(T:∀ C,mK (blkC X scope N' C s₂ H₂ fp) tg J fp it tn)(st2:tn 0 s₂.heap)(hf:∀ b ∈ fp,cA X pins H₂ b)
  (k:∀ D C t,zN F e0 X scope N' src s₂ H₂ σ fp tn D C t->codeAny (model X.prog X.w) X.A (.compLoop ce 0 (.ref it) (.ref D) (blkC X scope N' C s₂ H₂ fp).env) (RR (.ref D) C) t) :
  wpAny (model X.prog X.w) X.A mk (fun acc s₃=>wpAny (model X.prog X.w) X.A (newFunctionEnv scope X.env.globals (closL X.env.cells scope.names []) [] X.env.qual none .none (some X.env)) (fun cenv s₄ =>
   codeAny (model X.prog X.w) X.A (.compStart ce 0 (.ref it) acc { cenv with scope:=relabel scope X.env }) (RR acc cenv.locals) s₄) E s₃) E s₂:=by
 refine hmk _ _ _ fun o of ox=>?_
 refine AU ?_
 have sz:(s₂.heap.push o).objs.size=s₂.heap.objs.size + 1:=Heap.size_push ..
 dsimp only
 rw [sz]
 have hz:((s₂.heap.push o).push { cls:=.type "dict",data:=.dict #[] }).objs.size=(s₂.heap.objs.size + 1) + 1:=by rw [Heap.size_push,sz]
 have cs:=S.at_ I2 (C:=s₂.heap.objs.size + 1) (Nat.le_succ _) hz
 have kp:=pushCells_keeps scope.names ((s₂.heap.push o).push { cls:=.type "dict",data:=.dict #[] })
 have ns0:=(Heap.Ns.new (s₂.heap.push o) (.type "dict")).keeps kp
 rw [sz] at ns0
 have key:∀ b x,(s₂.heap.push o).get? b=some x->(pushCells ((s₂.heap.push o).push { cls:=.type "dict",data:=.dict #[] }) scope.names).get? b=some x:=fun b x e=>kp b x (Heap.get?_push_of_some _ e)
 have old:∀ b x,s₂.heap.get? b=some x->(pushCells ((s₂.heap.push o).push { cls:=.type "dict",data:=.dict #[] }) scope.names).get? b=some x:=fun b x e=>key b x (Heap.get?_push_of_some o e)
 have new:=key _ _ (Heap.get?_push_size s₂.heap of)
 generalize pushCells ((s₂.heap.push o).push { cls:=.type "dict",data:=.dict #[] }) scope.names=h₁ at cs kp ns0 key old new ⊢
 have lt:∀ b ∈ fp,b < s₂.heap.objs.size:=fun b hb=>let ⟨_,e,_⟩:=(T 0).obj 0 _ st2 b hb;Heap.lt_size e
 have st1:tn 0 h₁:=(T 0).keep _ _ _ st2 fun b _ o e=>old b o e
 have off:s₂.heap.objs.size ∉ fp:=fun z=>Nat.lt_irrefl _ (lt _ z)
 have I1:=S.start (tk:=s₂.toks) I2 cs hf lt (Nat.le_succ _) old ns0
 have pl:h8 (blkC X scope N' (s₂.heap.objs.size + 1) s₂ H₂ fp) [] s₂.heap.objs.size fp:=by
  refine ⟨off,fun H hn=>?_,fun H hn b hb=>?_⟩
  ·have f:=I2.fpOk (Nat.le_refl _) hn
   refine ⟨hn,Nat.ne_of_lt (Nat.lt_succ_self _),fun z=>?_,.inr (Nat.le_refl _),fun x c e=>?_,fun _ z=>nomatch z⟩
   ·exact (List.mem_cons.mp (I2.stkSub _ z)).elim f.2.1 f.2.2.1
   ·rcases cs.of x c e with ⟨z,_⟩ | ⟨_,z,_⟩
    ·exact f.2.2.2.2.1 x c z
    ·exact Nat.ne_of_gt (Nat.lt_trans (Nat.lt_succ_self _) z)
  ·exact ⟨hn b hb,Nat.ne_of_lt (Nat.lt_succ_of_lt (lt b hb)),I1.ok.exfs b hb,.inl hb,(I1.ok.exf b hb).2,fun _ z=>nomatch z⟩
 have bg:zN F e0 X scope N' src s₂ H₂ σ fp tn s₂.heap.objs.size (s₂.heap.objs.size + 1) { s₂ with heap:=h₁ } :=
  ⟨rfl,Nat.le_succ _,Nat.ne_of_lt (Nat.lt_succ_self _),pl,fun W ⟨m,w⟩=>⟨m,0,_,H₂,e0,I1,st1,fun b hb=>(hf b hb).1,I2.hok.fresh (Nat.le_refl _),ox _ new,w⟩⟩
 have go:=k _ _ _ bg
 exact kE hk hcl rfl go ((T 0).self _ 0 _ _ _ st1 go)
variable {g:TG}{tt:TT}{tl:β->St->Hp->(β->Hp->Prop)->Prop}
theorem rP {W:wY β}{Fin:β->Hp->Prop}{RR:Value->Addr->Result->Shared->Prop}{E:bA}{lay:Value->Env->Sem Unit}{obj:Addr->β->HO}{ps:Pos}(hF:zF F)(hmk:oH F e0 X.prog X.w X.A mk)(hk:zM ce)(hcl:clausesOf ce=⟨tg,iter,ifs,0⟩ :: cls)(hb:∀ it acc env,compTurn ce 0 it acc env=iA ps it tg env (layOn ifs (lay acc env) env (.compLoop ce 0 it acc env)))
  (hok:∀ H h D acc,(D == sysModules)=false->H D=none->F h D acc->Fin acc H->aU X.prog X.w (upd H D (obj D acc)) h D (obj D acc))
  (S:bW X scope N' src) (I2:aF X pins σ H₂ s₂) (T:∀ C,mK (blkC X scope N' C s₂ H₂ fp) tg J fp it tn) (st2:tn 0 s₂.heap) (hf:∀ b ∈ fp,cA X pins H₂ b)
  (hg:∀ C,PG (blkC X scope N' C s₂ H₂ fp) tg g) (ht:∀ C,BS (blkC X scope N' C s₂ H₂ fp) ifs tt) (hl:∀ C D acc,zH F (blkC X scope N' C s₂ H₂ fp) D (lay (.ref D) (blkC X scope N' C s₂ H₂ fp).env) (tl acc) acc)
  (w0:∃ m,W 0 m e0 (stC src σ) H₂) (turn:iQ J g tt tl Fin W)
  (hRR:∀ D C s' H' acc,s₂.heap.objs.size<=C->H' C=none->D≠C->(∃ m,s'.heap.Ns C m)->aF X pins σ (upd H' D (obj D acc)) s'->H' D=none->Fin acc H'->RR (.ref D) C (.ok .next) s') :
  wpAny (model X.prog X.w) X.A mk (fun acc s₃=>wpAny (model X.prog X.w) X.A (newFunctionEnv scope X.env.globals (closL X.env.cells scope.names []) [] X.env.qual none .none (some X.env)) (fun cenv s₄ =>
   codeAny (model X.prog X.w) X.A (.compStart ce 0 (.ref it) acc { cenv with scope:=relabel scope X.env }) (RR acc cenv.locals) s₄) E s₃) E s₂:=by
 refine pR hmk hk hcl S I2 T st2 hf fun D C t B=>?_
 obtain ⟨m,b⟩:=B.betw W w0
 have nD:(D == sysModules)=false:=by
  have:=I2.big
  rw [B.at_] at this
  exact beq_eq_false_iff_ne.mpr (Nat.ne_of_gt this)
 refine lQ hk (hb ..) (sL F (blkC X scope N' C s₂ H₂ fp) [] D fp tn W) (fun n s b=>?_) m b
 refine (n6 (Y:=blkC X scope N' C s₂ H₂ fp) hF (fun _ _ z=>z) (T C) B.place (hg C) turn (fun s σc H acc I hD hp fin=>?_) n s b).mono (fun _ z=>z) ?_
 ·exact hRR D C s H acc B.le I.free B.ne ⟨_,I.loc.choose_spec.1⟩ (zC I2 hf I (Nat.le_of_eq B.at_) hD (hok _ _ _ _ nD hD hp fin)) hD fin
 ·rintro t ⟨i,acc,o,more,σ3,H3,mid,I3,q3⟩
  exact sI.go (rE (W:=W) (fun _ _ z=>z) B.place (T C) (ht C) (hl C D acc) mid I3 q3)
end
theorem AJ (K:PySem.W.Frag){X:Cx}(hK:X.K=K){es:g9}{k:Nat}{t:BQ}{n:Nat}{pos:Pos}(hc:X.calm=true)(h:EB X es t)
  (hn:(assignEach es X.env).length=n:=by rfl) (hst:(assignEach es X.env).findIdx? (·.1)=none:=by rfl):PG X (.Tuple es k pos) (gTup K n t):=by subst hK;exact jL hc h hn hst
theorem kB {X:Cx}{scope:Scope}{N':bE}{src:List (Option Nat)}{tg kx vx iter:Expr}{ifs:g9}{pos:Pos}{g:TG}{tt:TT}{tk tv:TE}{wi:TI}{i:Nat}{y:Str}{py spos:Pos}(hN:X.N.Nodup)(hiy:X.N[i]?=some y)(hy:X.env.scope.names.lookup y=some .local)
  (hsw:swapsWith (.DictComp kx vx [⟨tg,iter,ifs,0⟩] scope pos) (some (.Name y py)) spos.line X.env=pure true) (hu:X.A.units + 1 < cLine) (hc:X.calm=true) (S:bW X scope N' src) (hi:PI X tg iter wi) (hg:∀ C s H fp,PG (blkC X scope N' C s H fp) tg g) (ht:∀ C s H fp,BS (blkC X scope N' C s H fp) ifs tt) (hk:∀ C s H fp,PE (blkC X scope N' C s H fp) kx tk) (hv:∀ C s H fp,PE (blkC X scope N' C s H fp) vx tv)
  (hs:∀ x,foldedSetIterable iter X.env x=pure x:=by intro _;rfl):PS X (.Assign [.Name y py] (.DictComp kx vx [⟨tg,iter,ifs,0⟩] scope pos) spos) (tAsg (B8 src wi g tt tk tv) (gName i)):=by
 intro pins s σ H D I h
 have h:wi σ H fun J H1=>∃ W:wY (List KB),(∃ m,W 0 m [] (stC src σ) H1)/\iQ J g tt (tlDct tk tv) (fun acc H=>BK H acc/\∀ p,H p=none->D.nx (σ.set i (some (.ref p))) (upd H p (.dT (eE acc)))) W:=h
 have main:wpAny (model X.prog X.w) X.A (comprehension (.DictComp kx vx [⟨tg,iter,ifs,0⟩] scope pos) scope X.env iter.pos newDict false (eval iter X.env) (some (assign (.Name y py) X.env))) (fun _ s'=>SP X pins D .next s') X.xe s:=by
  refine wpAny_comprehension_free rfl hs (h7 (S.cells I)) S.kind (fun y hy hk=>by rw [S.names y hy,hk]) (thn (hi pins s σ H _ I h) fun _ _ q=>thn q ?_)
  rintro _ s₂ ⟨it,fp,tn,J,H₂,rfl,I2,T,st,f,W,w0,turn⟩
  exact rP (lay:=layKV kx vx) (tl:=tlDct tk tv) (obj:=fun _ acc=>.dT (eE acc)) wM v7 (.dct ..) rfl (vM kx vx tg iter ifs scope pos) (fun _ _ _ _ nD hD f fin=>BB nD f (fin.1.upd hD)) S I2 (fun C=>j3.y (Y:=blkC X scope N' C s₂ H₂ fp) T hc) st f (fun C=>hg C s₂ H₂ fp) (fun C=>ht C s₂ H₂ fp) (fun C D acc=>yK hu (fun _ _ z=>z) (hk C s₂ H₂ fp) (hv C s₂ H₂ fp)) w0 turn fun D C s' H' acc a1 a2 a3 a4 a5 a6 fin=>rK hN hiy hy I2 a1 a2 a3 a4 a5 (fin.2 D a6)
 have u:wpAny (model X.prog X.w) X.A (evalThenUse (.DictComp kx vx [⟨tg,iter,ifs,0⟩] scope pos) X.env (assign (.Name y py) X.env)) (fun _=>SP X pins D .next) X.xe s:=wpAny_bind (thn main fun _ _ q=>wpAny_pure q)
 exact (exec_Assign_Name_used y py _ spos hsw) ▸ wpAny_bind (wpAny_standAt (wpAny_bind (thn u fun _ _ q=>wpAny_pure q)))
end L2
namespace Lw
open PySem L2
section
variable {P:Program}{w:World}{K:PySem.W.Frag}{mg:eV}{base:Heap}
noncomputable abbrev kJ:List (Str×NameKind):=[(".0",.local),("row",.cell),("over",.local),("any",.globalImplicit),("found",.cell)]
noncomputable def E8 (ss:List Int)(H:Hp)(x:KB)(r:List Nat):Prop:=x.1=keyR r/\m8 H x.2.1 r/\∃ o,x.2.2 = .ref o/\H o=some (.tup [.int (K42.dot ss r)])
noncomputable abbrev mV (ss:List Int)(H:Hp):List KB->List (List Nat)->Prop:=Paired (E8 ss H)
theorem mV.same {ss:List Int}{H H':Hp}{acc:List KB}{lv:List (List Nat)}(h:mV ss H acc lv)(s:aC H H'):mV ss H' acc lv:=Paired.mapP h fun _ _ ⟨a,b,o,c,d⟩=>⟨a,s _ _ b,o,c,s _ _ d⟩
theorem mV.ktr {ss:List Int}{H:Hp}{acc:List KB}{lv:List (List Nat)}(h:mV ss H acc lv):BK H acc:=by
 induction h with
 | nil=>exact fun x hx=>nomatch hx
 | cons a _ ih =>
  intro x hx
  rcases List.mem_cons.mp hx with z | z
  ·subst z
   rw [a.1,e8]
   exact a.2.1
  ·exact ih x z
theorem mV.keys {ss:List Int}{H:Hp}{acc:List KB}{lv:List (List Nat)}(h:mV ss H acc lv){r:List Nat}(n:r ∉ lv):∀ x ∈ acc,x.1≠keyR r:=by
 induction h with
 | nil=>exact fun x hx=>nomatch hx
 | cons a _ ih =>
  intro x hx e
  rcases List.mem_cons.mp hx with z | z
  ·subst z
   rw [a.1] at e
   exact n (i9 e ▸ List.mem_cons_self)
  ·exact ih (fun m=>n (List.mem_cons_of_mem _ m)) x z e
theorem mV.lev {ss:List Int}{H:Hp}{acc:List KB}{lv:List (List Nat)}(h:mV ss H acc lv):zG ss H (eE acc) lv:=by
 induction h with
 | nil=>exact .nil
 | cons a _ ih=>exact .cons ⟨a.1,a.2.2⟩ ih
theorem pget' {α β:Type}{F:α->β->Prop}{l:List α}{m:List β}(h:Paired F l m){i:Nat}{x:α}(e:l[i]?=some x):∃ y,m[i]?=some y/\F x y:=iD h e
theorem plen {α β:Type}{F:α->β->Prop}{l:List α}{m:List β}(h:Paired F l m):l.length=m.length:=Paired.length h
theorem iH {c:Bool}{a b:Prop}(h1:c=true->a)(h2:c=false->b):(if c=true then a else b):=by
 cases c
 ·rw [if_neg Bool.false_ne_true];exact h2 rfl
 ·rw [if_pos rfl];exact h1 rfl
theorem eP {src:List (Option Nat)}{wi:TI}{g:TG}{tt:TT}{te:TE}:tComp src wi g tt te=fun σ H Q=>wi σ H fun J H1=>jG J g tt te Q (stC src σ) H1:=rfl
theorem kN {wi:TI}{g:TG}{tb:TS}:tFor wi g tb=fun D σ H=>wi σ H fun J H1=>sJ J g tb D σ H1:=rfl
theorem tyL {K:PySem.W.Frag}{H:Hp}{p:Addr}{xs:List V}(h:H p=some (.lst xs)):tyV K "list" (.ref p) H:=.inl ⟨rfl,xs,cY.of h⟩
theorem dW {H H':Hp}{p:Addr}(s:aC H H')(h:H' p=none):H p=none:=by
 cases e:H p with
 | none=>rfl
 | some o=>rw [s _ _ e] at h;cases h
theorem gL {H H':Hp}{p:Addr}{o:HO}(s:aC H H')(h:H p=none):aC H (upd H' p o):=fun b u e=>by rw [aE (fun z=>by rw [z,h] at e;cases e)];exact s b u e
theorem iS:∀ {s x:List Nat},s.length=x.length->(undZ (nI s) (nI x)=true ↔ K42.lew s x)
 | [],[],_=>by simp [undZ,nI,K42.lew]
 | [],_ :: _,h=>nomatch h
 | _ :: _,[],h=>nomatch h
 | a :: s,b :: x,h=>by
  have ih:=iS (s:=s) (x:=x) (by simpa using h)
  simp only [undZ,nI,List.map_cons,List.zip_cons_cons,List.all_cons,Bool.and_eq_true,decide_eq_true_eq,K42.lew] at ih ⊢
  rw [ih]
  exact and_congr_left fun _=>by omega
theorem DE {ss:List Int}(hz:∀ z ∈ ss,z≠0/\-4<=z/\z<=4):∀ r:List Nat,-(4 * (K42.tot r:Int))<=K42.dot ss r/\K42.dot ss r<=4 * (K42.tot r:Int):=by
 intro r
 induction ss generalizing r with
 | nil=>cases r <;> simp [K42.dot] <;> omega
 | cons z ss ih =>
  cases r with
  | nil=>simp [K42.dot,K42.tot]
  | cons x r =>
   have h:=ih (fun z hz'=>hz z (List.mem_cons_of_mem _ hz')) r
   obtain ⟨_,z1,z2⟩:=hz z List.mem_cons_self
   have h1 : -(4 * (x:Int))<=z * x:=by
    have:=Int.mul_le_mul_of_nonneg_right z1 (Int.natCast_nonneg x)
    omega
   have h2:z * x<=4 * (x:Int):=Int.mul_le_mul_of_nonneg_right z2 (Int.natCast_nonneg x)
   simp only [K42.dot,K42.tot]
   push_cast
   omega
theorem uY {ss:List Int}{H:Hp}{gvs:List (List cF×V)}{gr:List (List Nat)}{x:List Nat}(h:zG ss H gvs gr):(gvs.any fun kv=>decide (kv.1=keyR x))=true ↔ x ∈ gr:=by
 induction h with
 | nil=>simp
 | cons a _ ih =>
  rw [List.any_cons,Bool.or_eq_true,ih,List.mem_cons,a.1,decide_eq_true_eq]
  exact or_congr ⟨fun e=>(i9 e).symm,fun e=>by rw [e]⟩ Iff.rfl
theorem AX {ss:List Int}{H:Hp}{gvs:List (List cF×V)}{gr:List (List Nat)}{x:List Nat}{o:Addr}(h:zG ss H gvs gr)(nd:gr.Nodup)(ho:H o=some (.tup [.int (K42.dot ss x)])):∃ gr',zG ss H (putK gvs (keyR x) (.ref o)) gr'/\gr'.Nodup/\∀ y,y ∈ gr' ↔ y ∈ gr∨y=x:=by
 by_cases m:x ∈ gr
 ·refine ⟨gr,?_,nd,fun y=>⟨.inl,fun z=>z.elim id fun e=>e ▸ m⟩⟩
  unfold putK
  rw [if_pos ((uY h).mpr m)]
  clear nd m
  induction h with
  | nil=>exact .nil
  | @cons p r _ _ a _ ih =>
   refine .cons ?_ ih
   dsimp only
   by_cases e:p.1=keyR x
   ·rw [if_pos e]
    have:=i9 (a.1.symm.trans e)
    subst this
    exact ⟨a.1,o,rfl,ho⟩
   ·rw [if_neg e];exact a
 ·refine ⟨gr ++ [x],?_,List.nodup_append.mpr ⟨nd,List.nodup_cons.mpr ⟨List.not_mem_nil,List.nodup_nil⟩,fun a ha b hb z=>?_⟩,fun y=>by rw [List.mem_append,List.mem_singleton]⟩
  ·unfold putK
   rw [if_neg (fun z=>m ((uY h).mp z))]
   exact Paired.snoc h ⟨rfl,o,rfl,ho⟩
  ·rw [List.mem_singleton] at hb
   subst z hb
   exact m ha
theorem aM {α:Type}{l:List α}{i:Nat}{x:α}(h:l[i]?=some x):l.take (i + 1)=l.take i ++ [x]:=by rw [List.take_succ,h];rfl
noncomputable def oS:Sp:=fun vs H Q _=>∃ (S F:Addr) (ss:List Int),vs=[.ref S,.ref F]/\zD ss H S/\BL ss.length H F/\1<=ss.length/\ss.length<=8/\(∀ z ∈ ss,z≠0/\-4<=z/\z<=4) /\
 ∀ (l:Addr) (vs':List V) (fd:List (List Nat)) (H':Hp),aC H H'->H' l=some (.lst vs')->zQ H' vs' fd->fd.Nodup->(∀ x,x ∈ fd ↔ K42.Min ss x)->fd.Pairwise (fun x y=>ltI (nI y) (nI x)=false)->Q (.ref l) H'
noncomputable def ER (ss:List Int)(S:Addr)(H1:Hp)(i:Nat)(acc:List KB)(σ:St)(H:Hp):Prop:=∃ o0 o1:Option V,σ=[o0,o1,some (.ref S)]/\aC H1 H/\i<=ss.length/\mV ss H acc ((List.range i).map fun i=>K42.inc (K42.zro ss.length) i)
noncomputable def GI (ss:List Int)(S Fo fo:Addr)(H:Hp)(m:Nat)(σ:St)(Hc:Hp):Prop:=∃ (k:Nat) (lv fd:List (List Nat)) (la:Addr) (kvs:List (List cF×V)) (fvs:List V) (o4 o5 o6 o7 o8:Option V),σ=[some (.ref S),some (.ref Fo),some (.ref fo),some (.ref la),o4,o5,o6,o7,o8]/\m=10 - k/\1<=k/\k<=9/\aC H Hc/\Hc fo=some (.lst fvs)/\zQ Hc fvs fd/\H la=none/\Hc la=some (.dT kvs)/\zG ss Hc kvs lv/\Lv ss k lv fd
noncomputable def XI (ss:List Int)(lv:List (List Nat))(Ha:Hp)(i:Nat)(acc:List V)(σ:St)(H':Hp):Prop:=∃ o0 o1:Option V,σ=[o0,o1]/\aC Ha H'/\zQ H' acc ((lv.take i).filter fun r=>K42.dot ss r == 0)
noncomputable def Up (ss:List Int)(r:List Nat)(j:Nat)(x:List Nat):Prop:=∃ j' z,j' < j/\ss[j']?=some z/\K42.dot ss r * z < 0/\x=K42.inc r j'
noncomputable def RJ (ss:List Int)(lv:List (List Nat))(S Fo fo la ga:Addr)(Hg:Hp)(i:Nat)(r:List Nat)(b:Option V)(v:Option V)(j:Nat)(σ:St)(H':Hp):Prop:=∃ (gvs:List (List cF×V)) (gr:List (List Nat)) (o7 o8:Option V),σ=[some (.ref S),some (.ref Fo),some (.ref fo),some (.ref la),some (.ref ga),b,v,o7,o8]/\dZ ga Hg H'/\H' ga=some (.dT gvs)/\zG ss H' gvs gr/\gr.Nodup/\∀ x,x ∈ gr ↔ (∃ r ∈ lv.take i,Up ss r ss.length x)∨Up ss r j x
noncomputable def RI (ss:List Int)(lv:List (List Nat))(S Fo fo la ga:Addr)(Hg:Hp)(i:Nat)(σ:St)(H':Hp):Prop:=∃ b v,RJ ss lv S Fo fo la ga Hg i [] b v 0 σ H'
noncomputable def NI (ss:List Int)(gr:List (List Nat))(p:List Nat->Bool)(fo:Addr)(Hf:Hp)(i:Nat)(acc:List KB)(σ:St)(H':Hp):Prop:=∃ o0 o1:Option V,σ=[o0,o1,some (.ref fo)]/\aC Hf H'/\mV ss H' acc ((gr.take i).filter p)
noncomputable def LI (fd:List (List Nat))(x:List Nat)(b:Addr)(Hx:Hp)(i:Nat)(acc:List V)(σ:St)(H':Hp):Prop:=∃ o0:Option V,σ=[o0,some (.ref b)]/\aC Hx H'/\acc=((fd.take i).map fun s=>undZ (nI s) (nI x)).map V.bl
theorem xB {n a b:Nat}(ha:a < n)(h:K42.inc (K42.zro n) a=K42.inc (K42.zro n) b):a=b:=by
 by_cases ne:a=b
 ·exact ne
 ·have h1:=jA (K42.zro n) a a
  have h2:=jA (K42.zro n) b a
  rw [h,h2,if_neg (Ne.symm ne),if_pos rfl] at h1
  have e:(K42.zro n)[a]?=some 0:=by unfold K42.zro;rw [List.getElem?_replicate,if_pos ha]
  rw [e] at h1
  cases h1
theorem gE {ss:List Int}{r x:List Nat}:¬ Up ss r 0 x:=fun ⟨_,_,lt,_⟩=>absurd lt (Nat.not_lt_zero _)
theorem t8 {ss:List Int}{r x:List Nat}{j:Nat}{z:Int}(h:ss[j]?=some z):Up ss r (j + 1) x ↔ Up ss r j x∨(K42.dot ss r * z < 0/\x=K42.inc r j):=by
 constructor
 ·rintro ⟨j',z',lt,h1,h2,h3⟩
  by_cases e:j'=j
  ·subst e
   rw [h] at h1
   cases h1
   exact .inr ⟨h2,h3⟩
  ·exact .inl ⟨j',z',by omega,h1,h2,h3⟩
 ·rintro (⟨j',z',lt,h1,h2,h3⟩ | ⟨h2,h3⟩)
  ·exact ⟨j',z',by omega,h1,h2,h3⟩
  ·exact ⟨j,z,Nat.lt_succ_self _,h,h2,h3⟩
theorem uN {α:Type}:∀ {l:List α} {i:Nat} {x:α},l.Nodup->l[i]?=some x->x ∉ l.take i
 | [],_,_,_,is=>by simp at is
 | y :: l,0,x,_,_=>by simp
 | y :: l,i + 1,x,nd,h=>by
  have h:l[i]?=some x:=by simpa using h
  rw [List.nodup_cons] at nd
  rw [List.take_succ_cons,List.mem_cons]
  rintro (e | m)
  ·subst e;exact nd.1 (List.mem_of_getElem? h)
  ·exact uN nd.2 h m
theorem papp {α β:Type}{F:α->β->Prop}{l l':List α}{m m':List β}(h:Paired F l m)(h':Paired F l' m'):Paired F (l ++ l') (m ++ m'):=by
 induction h with
 | nil=>exact h'
 | cons a _ ih=>exact .cons a ih
theorem Lv.row {ss:List Int}{k:Nat}{lv fd:List (List Nat)}(L:Lv ss k lv fd){r:List Nat}(h:r ∈ lv):r.length=ss.length/\K42.tot r=k:=let ⟨a,b,_⟩:=(L.is r).mp h;⟨b.len,a⟩
theorem Lv.got {ss:List Int}{k:Nat}{lv fd:List (List Nat)}(L:Lv ss k lv fd){r:List Nat}(h:r ∈ fd):r.length=ss.length/\K42.tot r < k:=let ⟨a,b⟩:=(L.fi r).mp h;⟨a.1.1,b⟩
theorem yW {H:Hp}{fvs:List V}{fd:List (List Nat)}(h:zQ H fvs fd):fvs.map (fun v=>(rowV H v).map Int.toNat)=fd/\∀ v ∈ fvs,E4 H v ((rowV H v).map Int.toNat)/\nI ((rowV H v).map Int.toNat)=rowV H v/\(rowV H v).map Int.toNat ∈ fd:=by
 induction h with
 | nil=>exact ⟨rfl,fun v hv=>nomatch hv⟩
 | @cons v r _ _ a _ ih =>
  have e:rowV H v=nI r:=by
   obtain ⟨p,rfl,tp⟩:=a
   unfold rowV
   dsimp only
   rw [show H p=_ from tp]
   simp only [List.map_map]
   rw [show intV0 ∘ V.int=id from rfl,List.map_id]
  have e2:(rowV H v).map Int.toNat=r:=by
   rw [e]
   unfold nI
   rw [List.map_map]
   refine (List.map_congr_left fun x _=>?_).trans (List.map_id r)
   exact Int.toNat_natCast x
  refine ⟨by rw [List.map_cons,ih.1,e2],fun w hw=>?_⟩
  rcases List.mem_cons.mp hw with z | z
  ·subst z
   rw [e2]
   exact ⟨a,e.symm,List.mem_cons_self⟩
  ·obtain ⟨h1,h2,h3⟩:=ih.2 w z
   exact ⟨h1,h2,List.mem_cons_of_mem _ h3⟩
theorem x9 {f:Addr}{fd:FuncData}(F:mW K "grown_rows" "grown_rows" aX f fd)(T:Txt mg)(O_unit:gB P w K mg base cT 1 "unit" sR)(O_one_more:gB P w K mg base cT 1 "one_more" sU)(O_weight:gB P w K mg base cT 1 "weight" kZ)(O_is_under:gB P w K mg base cT 1 "is_under" gJ):dE P w K mg base cT 2 f fd fF oS:=by
 refine F.ok bH (fun vs H Q E h=>?_) (fun cdv A outer s H vs Q E hr h=>?_)
 ·obtain ⟨S,F,ss,rfl,_⟩:=h
  rfl
 ·obtain ⟨S,Fo,ss,rfl,hS,hF,n1,n8,hz,q⟩:=h
  have hu:=hr.units
  refine ⟨_,(aP (eA (i:=2) bH.nd rfl (Or.inr rfl) (cW aD))
   (aP (kB (i:=3) bH.nd rfl rfl rfl (Nat.lt_of_le_of_lt (Nat.add_le_add_left (by decide) _) hu) rfl (bW.by (N:=cL) (names:=(aB aX).names) (N':=["place","size","sizes"]) (src:=[none,none,some 0]) (by decide +kernel) rfl rfl) (hV K rfl rfl T.n_enumerate (aA (pv 0) aD)) (fun _ _ _ _=>(dI K rfl (i:=0) (j:=1) rfl (show List.Nodup (["place","size","sizes"]:bE) by decide +kernel) rfl rfl rfl rfl)) (fun _ _ _ _=>bP) (fun _ _ _ _=>(bF O_unit (hr.mono (by decide)) pass0 rfl (aA (pv 0) (aA (aQ d6 rfl T.n_len rfl (aA (pv 2) aD)) aD)))) (fun _ _ _ _=>(pv 1)))
   (aP (xN PassesOwn.never (AH (pv 3)) (aP (iW (uH PySem.F.plainAttrs_list PySem.F.slot_list_extend PySem.F.type_list_extend jQ (pv 2) (aA (cE rfl (aV.by (N:=cL) (names:=(aB aX).names) (N':=["row","over"]) (src:=[none,none]) (by decide +kernel) rfl rfl) (lJ (fS _ _) (pv 3)) (fun _ _ _ _=>(dI K rfl (i:=0) (j:=1) rfl (show List.Nodup (["row","over"]:bE) by decide +kernel) rfl rfl rfl rfl)) (fun _ _ _ _=>(o9 (fP (dA K rfl (aQ (wU rfl) rfl T.n_any rfl (aA (pv 1) aD)) (fun _=>rfl))))) (fun _ _ _ _=>(pv 0))) aD)))
   (aP (eA (i:=4) bH.nd rfl (Or.inl rfl) xT)
   (aP (iC PassesOwn.never rfl (lJ (fS _ _) (pv 3)) (jL rfl (bX (aW (i:=5) bH.nd rfl (Or.inr rfl)) (bX (aW (i:=6) bH.nd rfl (Or.inl rfl)) gO))) (aO (iC PassesOwn.never rfl (hV K rfl rfl T.n_enumerate (aA (pv 0) aD)) (dI K rfl (i:=7) (j:=8) rfl bH.nd rfl rfl rfl rfl) (aO (lG (PW.pt (CD (gM (xY hu) (bF O_weight (hr.mono (by decide)) pass0 rfl (aA (pv 6) (aA (pv 8) aD))) aH (nomark _)) (AF (fP (dA K rfl (aQ (jZ rfl) rfl T.n_any rfl (aA (cE rfl (aV.by (N:=cL) (names:=(aB aX).names) (N':=["foe","row"]) (src:=[none,some 5]) (by decide +kernel) rfl rfl) (cV K rfl (hW pI (pv 1) (pv 7) (fun _ _=>rfl))) (fun _ _ _ _=>(aW (i:=0) (show List.Nodup (["foe","row"]:bE) by decide +kernel) rfl (Or.inl rfl))) (fun _ _ _ _=>bP) (fun _ _ _ _=>(kT xX (hW pI (pv 1) (pv 0) (fun _ _=>rfl)) aH (nomark _)))) aD)) (fun _=>rfl)))))) (aO (uF (Nat.lt_of_le_of_lt (Nat.add_le_add_left (by decide) _) hu) (pv 4) (bF O_one_more (hr.mono (by decide)) pass0 rfl (aA (pv 5) (aA (pv 7) aD))) (jM rS rfl T.n_tuple rfl (aA (cE rfl (aV.by (N:=cL) (names:=(aB aX).names) (N':=["one","other"]) (src:=[none,none]) (by decide +kernel) rfl rfl) (kR rfl T.n_zip (aA (pv 6) (aA (pv 8) aD))) (fun _ _ _ _=>(dI K rfl (i:=0) (j:=1) rfl (show List.Nodup (["one","other"]:bE) by decide +kernel) rfl rfl rfl rfl)) (fun _ _ _ _=>bP) (fun _ _ _ _=>(aT aZ (pv 0) (pv 1)))) aD)) rfl)) gN)))))
   (aO (kB (i:=3) bH.nd rfl rfl rfl (Nat.lt_of_le_of_lt (Nat.add_le_add_left (by decide) _) hu) rfl (bW.by (N:=cL) (names:=(aB aX).names) (N':=["row","over","found"]) (src:=[none,none,some 2]) (by decide +kernel) rfl rfl) (lJ (fS _ _) (pv 4)) (fun _ _ _ _=>(AJ K rfl (n:=2) rfl (bX (aW (i:=0) (show List.Nodup (["row","over","found"]:bE) by decide +kernel) rfl (Or.inr rfl)) (bX (aW (i:=1) (show List.Nodup (["row","over","found"]:bE) by decide +kernel) rfl (Or.inl rfl)) gO)))) (fun _ _ _ _=>(o9 (fP (dA K rfl (aQ (jZ rfl) rfl T.n_any rfl (aA (cE rfl (aV.by (N:=["row","over","found"]) (names:=kJ) (N':=["least","row"]) (src:=[none,some 0]) (by decide +kernel) rfl rfl) (cV K rfl (pv 2)) (fun _ _ _ _=>(aW (i:=0) (show List.Nodup (["least","row"]:bE) by decide +kernel) rfl (Or.inl rfl))) (fun _ _ _ _=>bP) (fun _ _ _ _=>(bF O_is_under (hr.mono (by decide)) pass0 rfl (aA (pv 0) (aA (pv 1) aD))))) aD)) (fun _=>rfl))))) (fun _ _ _ _=>(pv 0)) (fun _ _ _ _=>(pv 1))))))))
   (aO (bR (aQ rV rfl T.n_sorted rfl (aA (pv 2) aD))))))),?_⟩
  clear hr F T hu O_unit O_one_more O_weight O_is_under
  simp only [eP,kN]
  refine ⟨Nat.zero_le _,fun fo hfo=>?_⟩
  have s1:aC H (upd H fo (.lst [])):=aC.upd hfo
  have g1:upd H fo (.lst []) fo=some (.lst []):=upd_same
  generalize upd H fo (.lst [])=H1 at s1 g1 ⊢
  obtain ⟨svs,hsv,psv⟩:=id (hS.same s1)
  refine ⟨_,rfl,S,rfl,⟨svs,cY.of hsv⟩,?_⟩
  refine sP svs (ER ss S H1) ⟨none,none,rfl,aC.refl _,Nat.zero_le _,.nil⟩ (fun i acc σ H ⟨_,_,_,s,_⟩=>s _ _ hsv) ?_ ?_
  ·rintro i x T acc σ H2 hx ⟨o0,o1,rfl,s2,il,kb⟩ hT
   obtain ⟨z,hz',q0,rfl,hq0⟩:=pget' psv hx
   have ilt:=K42.lt_of hz'
   refine ⟨T,_,rfl,d7.of upd_same,rfl,_,_,rfl,_,_,rfl,rfl,?_⟩
   have s3:aC H2 (upd H2 T (.tup [.int i,.ref q0])):=aC.upd hT
   generalize upd H2 T (.tup [.int i,.ref q0])=H3 at s3 ⊢
   refine ⟨_,rfl,_,rfl,_,V.int ss.length,rfl,?_,i,ss.length,rfl,ilt,n8,fun p H4 s4 tp=>?_⟩
   ·show Option.map (fun (n:Int)=>V.int n) ((lenV H3 (.ref S)).bind fun a=>some (a:Int))=_
    rw [lenV_l (s3 _ _ (s2 _ _ hsv)),plen psv]
    rfl
   refine ⟨_,rfl,p,keyR (K42.inc (K42.zro ss.length) i),rfl,by rw [e8];exact tp,(kb.same (s3.trans s4)).ktr,(kb.same (s3.trans s4)).keys ?_,?_,?_⟩
   ·intro m
    obtain ⟨j,hj,e⟩:=List.mem_map.mp m
    have:=xB (Nat.lt_trans (List.mem_range.mp hj) ilt) e
    have:=List.mem_range.mp hj
    omega
   ·have:=plen kb
    rw [List.length_map,List.length_range] at this
    rw [this]
    exact Nat.lt_of_le_of_lt (Nat.le_trans il n8) (by decide)
   ·refine ⟨_,_,rfl,s2.trans (s3.trans s4),ilt,?_⟩
    rw [List.range_succ,List.map_append]
    refine Paired.snoc (kb.same (s3.trans s4)) ⟨rfl,tp,q0,rfl,?_⟩
    dsimp only
    rw [K42.dot_inc ss (K42.zro ss.length) i z (by simp [K42.zro]) hz',K42.dot_zro,Int.zero_add]
    exact s4 _ _ (s3 _ _ (s2 _ _ hq0))
  ·rintro acc σ H2 ⟨o0,o1,rfl,s2,il,kb⟩
   refine ⟨kb.ktr,fun la hla=>?_⟩
   have sA:aC H H2:=s1.trans s2
   have ls:svs.length=ss.length:=plen psv
   rw [ls] at kb
   refine ⟨GI ss S Fo fo H,⟨9,1,_,[],la,eE acc,[],none,none,none,none,none,rfl,rfl,Nat.le_refl _,by decide,gL sA (dW sA hla),?_,.nil,dW sA hla,upd_same,(kb.same (aC.upd hla)).lev,Lv.first⟩,?_⟩
   ·rw [aE (aG (s2 _ _ g1) hla)]
    exact s2 _ _ g1
   clear hla kb s2 il psv hsv ls sA g1 s1 acc H2 la svs o0 o1
   rintro m σ Hc ⟨k,lv,fnd,la,kvs,fvs,o4,o5,o6,o7,o8,rfl,rfl,k1,k9,sH,hfo',hfd,hla,hlv,lev,L⟩
   refine ⟨_,rfl,la,kvs,rfl,Rd.of hlv,iH (fun e=>?_) fun e=>?_⟩
   case _ =>
    have k8:k<=8:=by
     cases lev with
     | nil=>cases e
     | @cons _ r _ lv' _ _ =>
      obtain ⟨a,b,_⟩:=(L.is r).mp List.mem_cons_self
      rw [← a]
      exact K42.few_levels hz b
    have lvn:lv.length<=4000000:=iV n8 L.nd fun r hr=>⟨(L.row hr).1,by have:=(L.row hr).2;omega⟩
    have fdn:fnd.length<=4000000:=iV n8 L.fn fun r hr=>⟨(L.got hr).1,by have:=(L.got hr).2;omega⟩
    have fit:=qO
    refine ⟨GI ss S Fo fo H (10 - (k + 1)),fun σ' H' h=>⟨_,by omega,h⟩,?_⟩
    refine ⟨_,rfl,tyL hfo',_,rfl,la,kvs,rfl,.inl ⟨hlv,fun o=>?_⟩⟩
    have sa:aC H (upd Hc la (.frz o (.dT kvs))):=gL sH hla
    have ga:upd Hc la (.frz o (.dT kvs)) la=some (.frz o (.dT kvs)):=upd_same
    have nla:fo≠la:=fun z=>by rw [z,hlv] at hfo';cases hfo'
    have tA:∀ b xs,Hc b=some (.tup xs)->upd Hc la (.frz o (.dT kvs)) b=some (.tup xs):=fun b xs e=>by rw [aE (fun z=>by rw [z,hlv] at e;cases e)];exact e
    have lev':=lev.same tA
    have hfd':=hfd.same tA
    have hfo2:upd Hc la (.frz o (.dT kvs)) fo=some (.lst fvs):=by rw [aE nla];exact hfo'
    clear hfo' hfd hlv lev sH tA
    generalize upd Hc la (.frz o (.dT kvs))=Ha at sa ga lev' hfd' hfo2 ⊢
    clear Hc
    refine rQ (XI ss lv Ha) ⟨none,none,rfl,aC.refl _,.nil⟩ (fun i acc σ H ⟨_,_,_,s,_⟩=>s _ _ ga) ?_ ?_
    ·rintro i k' v T b acc σ H2 hkv ⟨o0,o1,rfl,s2,fa⟩ hb hT
     obtain ⟨r,hr,ek,q0,rfl,hq0⟩:=pget' lev' hkv
     dsimp only at ek
     subst ek
     rw [e8] at hb
     have s3:aC H2 (upd H2 T (.tup [.ref b,.ref q0])):=aC.upd hT
     refine ⟨T,_,rfl,d7.of upd_same,rfl,_,_,rfl,_,_,rfl,rfl,?_⟩
     generalize upd H2 T (.tup [.ref b,.ref q0])=H3 at s3 ⊢
     refine ⟨_,rfl,q0,[K42.dot ss r],rfl,s3 _ _ (s2 _ _ hq0),_,rfl,iH (fun e=>?_) fun e=>?_⟩
     ·refine ⟨_,rfl,?_,_,_,rfl,s2.trans s3,?_⟩
      ·have:=plen fa
       have:=List.length_filter_le (fun r=>K42.dot ss r == 0) (lv.take i)
       have:=List.length_take_le' i lv
       omega
      ·have e':(K42.dot ss r == 0)=true:=by simpa using e
       rw [aM hr,List.filter_append,List.filter_cons_of_pos (p:=fun r=>K42.dot ss r == 0) e',List.filter_nil]
       exact Paired.snoc (fa.same fun b xs e=>s3 _ _ e) ⟨b,rfl,s3 _ _ hb⟩
     ·refine ⟨_,_,rfl,s2.trans s3,?_⟩
      have e':¬ (K42.dot ss r == 0)=true:=by simpa using e
      rw [aM hr,List.filter_append,List.filter_cons_of_neg (p:=fun r=>K42.dot ss r == 0) e',List.filter_nil,List.append_nil]
      exact fa.same fun b xs e=>s3 _ _ e
    ·rintro acc σ H2 ⟨o0,o1,rfl,s2,fa⟩ p hp
     have fl:lv.take kvs.length=lv:=by rw [plen lev'];exact List.take_length
     rw [fl] at fa
     refine ⟨fo,p,fvs,acc,rfl,rfl,?_,upd_same,?_,?_⟩
     ·rw [aE (aG (s2 _ _ hfo2) hp)]
      exact s2 _ _ hfo2
     ·have:=plen fa
      have:=plen hfd'
      have:=List.length_filter_le (fun r=>K42.dot ss r == 0) lv
      omega
     have sb:aC H (upd (upd H2 p (.lst acc)) fo (.lst (fvs ++ acc))):=gL ((sa.trans s2).trans (aC.upd hp)) hfo
     have hfo3:upd (upd H2 p (.lst acc)) fo (.lst (fvs ++ acc)) fo=some (.lst (fvs ++ acc)):=upd_same
     have hla3:upd (upd H2 p (.lst acc)) fo (.lst (fvs ++ acc)) la=some (.frz o (.dT kvs)):=by
      rw [aE (Ne.symm nla),aE (aG (s2 _ _ ga) hp)]
      exact s2 _ _ ga
     have lev3:zG ss (upd (upd H2 p (.lst acc)) fo (.lst (fvs ++ acc))) kvs lv:=lev'.same fun b xs e=>by
      have e2:=s2 _ _ e
      rw [aE (fun z=>by rw [z,s2 _ _ hfo2] at e2;cases e2),aE (aG e2 hp)]
      exact e2
     have hfd3:zQ (upd (upd H2 p (.lst acc)) fo (.lst (fvs ++ acc))) (fvs ++ acc) (fnd ++ lv.filter fun r=>K42.dot ss r == 0):=by
      have tp:∀ b xs,H2 b=some (.tup xs)->upd (upd H2 p (.lst acc)) fo (.lst (fvs ++ acc)) b=some (.tup xs):=fun b xs e2=>by
       rw [aE (fun z=>by rw [z,s2 _ _ hfo2] at e2;cases e2),aE (aG e2 hp)]
       exact e2
      exact papp (hfd'.same fun b xs e=>tp b xs (s2 _ _ e)) (fa.same tp)
     generalize upd (upd H2 p (.lst acc)) fo (.lst (fvs ++ acc))=Hb at sb hfo3 hla3 lev3 hfd3 ⊢
     clear fa fl hp s2 lev' hfd' hfo2 sa ga
     intro gad hga
     have sg:aC Hb (upd Hb gad (.dT [])):=aC.upd hga
     have hgd:upd Hb gad (.dT []) gad=some (.dT []):=upd_same
     generalize upd Hb gad (.dT [])=Hg at sg hgd ⊢
     refine ⟨_,rfl,la,kvs,rfl,.inr ⟨o,sg _ _ hla3,?_⟩⟩
     obtain ⟨svs,hsv,psv⟩:=id (hS.same (sb.trans sg))
     obtain ⟨fovs,hfv,lfv,efv⟩:=id (hF.same (sb.trans sg))
     have neG:∀ {a:Addr} {u:HO},Hg a=some u->(∀ kvs,u≠.dT kvs)->a≠gad:=fun {a u} e ne z=>by
      rw [z,hgd] at e
      cases e
      exact ne _ rfl
     have hla4:Hg la=some (.frz o (.dT kvs)):=sg _ _ hla3
     have hfo4:Hg fo=some (.lst (fvs ++ acc)):=sg _ _ hfo3
     have hfd4:=hfd3.same (fun b xs e=>sg _ _ e)
     have lev4:=lev3.same (fun b xs e=>sg _ _ e)
     have sg4:aC H Hg:=sb.trans sg
     have hgn:H gad=none:=dW sb hga
     clear lev3 hfd3 hfo3 hla3 sb sg hga
     have up9:∀ r ∈ lv,∀ j x,Up ss r j x->x.length=ss.length/\K42.tot x<=9:=by
      rintro r hr j x ⟨j',z,lt,hz',_,rfl⟩
      have a:=L.row hr
      have:=K42.lt_of hz'
      rw [K42.len_inc,K42.tot_inc r j' (by omega)]
      exact ⟨a.1,by omega⟩
     have grn:∀ (gr:List (List Nat)) (i:Nat) (r:List Nat) (j:Nat),gr.Nodup->(∀ x,x ∈ gr->(∃ r ∈ lv.take i,Up ss r ss.length x)∨Up ss r j x)->(r ∈ lv∨j=0)->gr.length<=4000000:=fun gr i r j nd ig hr=>iV n8 nd fun x hx=>by
      rcases ig x hx with ⟨r',hr',u⟩ | u
      ·exact up9 r' (List.mem_of_mem_take hr') _ x u
      ·rcases hr with hr | rfl
       ·exact up9 r hr _ x u
       ·exact absurd u gE
     refine tW (RI ss lv S Fo fo la gad Hg) ⟨_,_,[],[],_,_,rfl,dZ.refl _ _,hgd,.nil,List.nodup_nil,fun x=>⟨fun z=>(nomatch z),fun z=>z.elim (fun ⟨r,hr,_⟩=>by simp at hr) fun ⟨j,z,lt,_⟩=>absurd lt (Nat.not_lt_zero _)⟩⟩ (fun i σ H' ⟨_,_,_,_,_,_,_,bt,_⟩=>bt _ _ (neG hla4 fun _ z=>nomatch z) hla4) ?_ ?_
     ·rintro i k' v T b σ H4 hkv ⟨b0,v0,gvs,gr,o7',o8',rfl,bt,hg,lg,ndg,ig⟩ hb hT
      obtain ⟨r,hr,ek,q0,rfl,hq0⟩:=pget' lev4 hkv
      dsimp only at ek
      subst ek
      rw [e8] at hb
      refine ⟨T,_,rfl,d7.of upd_same,rfl,_,_,rfl,_,_,rfl,rfl,?_⟩
      have s5:aC H4 (upd H4 T (.tup [.ref b,.ref q0])):=aC.upd hT
      generalize upd H4 T (.tup [.ref b,.ref q0])=H5 at s5 ⊢
      have bt5:dZ gad Hg H5:=bt.trans s5.but
      have hb5:m8 H5 b r:=s5 _ _ hb
      refine ⟨_,rfl,S,rfl,⟨svs,cY.of (bt5 _ _ (neG hsv fun _ z=>nomatch z) hsv)⟩,?_⟩
      refine wI svs (fun j σ H'=>RJ ss lv S Fo fo la gad Hg i r (some (.ref b)) (some (.ref q0)) j σ H'/\m8 H' b r) ⟨⟨gvs,gr,_,_,rfl,bt5,s5 _ _ hg,lg.same (fun b xs e=>s5 _ _ e),ndg,fun x=>?_⟩,hb5⟩ (fun j σ H' _ ⟨⟨_,_,_,_,_,bt,_⟩,_⟩=>bt _ _ (neG hsv fun _ z=>nomatch z) hsv) ?_ ?_
      ·rw [ig x]
       exact or_congr Iff.rfl ⟨fun u=>absurd u gE,fun u=>absurd u gE⟩
      ·clear ig ndg lg hg hb5 bt5 s5 bt hT hb gvs gr H4 H5 o7' o8' b0 v0
       rintro j x T2 σ H4 hx ⟨⟨gvs,gr,o7',o8',rfl,bt,hg,lg,ndg,ig⟩,hb⟩ hT
       obtain ⟨z,hz',q1,rfl,hq1⟩:=pget' psv hx
       have jlt:=K42.lt_of hz'
       refine ⟨T2,_,rfl,d7.of upd_same,rfl,_,_,rfl,_,_,rfl,rfl,?_⟩
       have s5:aC H4 (upd H4 T2 (.tup [.int j,.ref q1])):=aC.upd hT
       generalize upd H4 T2 (.tup [.int j,.ref q1])=H5 at s5 ⊢
       have q05:H5 q0=some (.tup [.int (K42.dot ss r)]):=s5 _ _ (bt _ _ (neG hq0 fun _ z=>nomatch z) hq0)
       have q15:H5 q1=some (.tup [.int z]):=s5 _ _ (bt _ _ (neG hq1 fun _ z=>nomatch z) hq1)
       refine ⟨_,rfl,_,rfl,q0,q1,[K42.dot ss r],[z],rfl,.inr q05,.inr q15,Nat.le_of_ble_eq_true rfl,?_,fun H6 s6=>?_⟩
       ·intro x hx
        rw [List.mem_singleton] at hx
        subst hx
        have:=DE hz r
        have:=(L.row (List.mem_of_getElem? hr)).2
        omega
       have dz:dotZ [K42.dot ss r] [z]=K42.dot ss r * z:=by simp [dotZ]
       rw [dz]
       have bt6:dZ gad Hg H6:=bt.trans (s5.trans s6).but
       have hb6:m8 H6 b r:=s6 _ _ (s5 _ _ hb)
       have lg6:=lg.same (fun b xs e=>s6 _ _ (s5 _ _ e))
       have hg6:=s6 _ _ (s5 _ _ hg)
       have q06:=s6 _ _ q05
       have q16:=s6 _ _ q15
       clear lg hg hb q05 q15 bt hT s5 s6 dz
       clear H4 H5
       refine .inl (.inl ⟨_,_,rfl,rfl,_,rfl,iH (fun e=>?_) fun e=>?_⟩)
       ·have hfv6:=bt6 _ _ (neG hfv fun _ z=>nomatch z) hfv
        obtain ⟨ev,hev⟩:∃ ev,fovs[j]?=some ev:=⟨_,List.getElem?_eq_getElem (by omega)⟩
        obtain ⟨ea,rfl,hea⟩:=efv ev (List.mem_of_getElem? hev)
        have hea6:=bt6 _ _ (neG hea fun _ z=>nomatch z) hea
        have ax:atI fovs (j:Int)=some (.ref ea):=by
         rw [mH (by omega) (by omega),Int.toNat_natCast]
         exact hev
        refine ⟨_,rfl,_,rfl,.ref ea,by rw [ixV_l hfv6];exact ax,ea,[],rfl,.inl hea6,fun J hJ=>?_⟩
        refine cX hJ (fun _ acc σ H'=>acc=[]/\H'=H6) ⟨rfl,rfl⟩ (fun i acc σ H' _ h=>by rw [h.2]) (fun i x acc σ H hx=>nomatch hx) ?_
        rintro acc' σ H' ⟨rfl,rfl⟩ p7 hp7
        refine ⟨p7,[],rfl,upd_same,_,rfl,?_⟩
        have s7:aC H' (upd H' p7 (.lst [])):=aC.upd hp7
        generalize upd H' p7 (.lst [])=H7 at s7 ⊢
        have hb7:m8 H7 b r:=s7 _ _ hb6
        refine ⟨_,rfl,_,rfl,q0,q1,[.int (K42.dot ss r)],[.int z],rfl,.inr (s7 _ _ q06),.inr (s7 _ _ q16),?_⟩
        refine fC [.int (K42.dot ss r)] [.int z] (fun i acc σ H8=>(∃ o0 o1:Option V,σ=[o0,o1])/\aC H7 H8/\(i=0->acc=[])/\(i=1->acc=[.int (K42.dot ss r + z)])) ⟨⟨_,_,rfl⟩,aC.refl _,fun _=>rfl,fun z=>nomatch z⟩ (fun i acc σ H8 _ h=>⟨.inr (h.2.1 _ _ (s7 _ _ q06)),.inr (h.2.1 _ _ (s7 _ _ q16))⟩) ?_ ?_
        ·rintro i x y T3 acc σ H8 hx hy ⟨⟨o0,o1,rfl⟩,s8,e0,e1⟩ hT3
         obtain rfl:i=0:=by
          have:=K42.lt_of hx
          simp at this
          exact this
         cases hx
         cases hy
         rw [e0 rfl]
         refine ⟨T3,_,rfl,d7.of upd_same,rfl,_,_,rfl,_,_,rfl,rfl,?_⟩
         refine ⟨_,rfl,_,rfl,.inl ⟨_,rfl,by decide,⟨_,_,rfl⟩,s8.trans (aC.upd hT3),fun z=>(nomatch z),fun _=>rfl⟩⟩
        ·rintro acc σ H8 ⟨⟨o0,o1,rfl⟩,s8,e0,e1⟩ p9 hp9
         rw [e1 rfl]
         refine ⟨p9,_,rfl,.inl upd_same,fun l9 H' h=>?_⟩
         rcases h with ⟨h,_⟩ | ⟨_,h9,rfl⟩
         ·rw [upd_same] at h;cases h
         have s9:aC H7 (upd (upd H8 p9 (.lst [.int (K42.dot ss r + z)])) l9 (.tup [.int (K42.dot ss r + z)])):=s8.trans ((aC.upd hp9).trans (aC.upd h9))
         have t9:upd (upd H8 p9 (.lst [.int (K42.dot ss r + z)])) l9 (.tup [.int (K42.dot ss r + z)]) l9=some (.tup [.int (K42.dot ss r + z)]):=upd_same
         generalize upd (upd H8 p9 (.lst [.int (K42.dot ss r + z)])) l9 (.tup [.int (K42.dot ss r + z)])=H9 at s9 t9 ⊢
         have rl:r.length=ss.length:=(L.row (List.mem_of_getElem? hr)).1
         refine ⟨_,rfl,_,rfl,_,rfl,b,r,j,rfl,s9 _ _ hb7,by omega,by omega,fun p10 H10 s10 tp=>?_⟩
         have sF:=s7.trans (s9.trans s10)
         refine ⟨gad,_,rfl,sK.t (k:=keyR (K42.inc r j)) (sF _ _ hg6) (by rw [e8];exact tp) ?_,?_⟩
         ·have:=grn gr i r j ndg (fun x hx=>(ig x).mp hx) (.inl (List.mem_of_getElem? hr))
          have:=plen lg6
          omega
         ·obtain ⟨gr',lg',nd',ig'⟩:=AX (x:=K42.inc r j) (o:=l9) (lg6.same fun b xs e=>sF _ _ e) ndg (by rw [K42.dot_inc ss r j z rl.symm hz'];exact s10 _ _ t9)
          have gF:=sF _ _ hg6
          have tp':∀ b xs,H10 b=some (.tup xs)->upd H10 gad (.dT (putK gvs (keyR (K42.inc r j)) (.ref l9))) b=some (.tup xs):=fun b xs e=>by
           rw [aE (fun z=>by rw [z,gF] at e;cases e)]
           exact e
          refine ⟨⟨_,gr',_,_,rfl,(bt6.trans sF.but).trans (dZ.upd _ _ _),upd_same,lg'.same tp',nd',fun x=>?_⟩,tp' _ _ (sF _ _ hb6)⟩
          rw [ig' x,ig x,t8 hz',or_assoc]
          have e':K42.dot ss r * z < 0:=of_decide_eq_true e
          exact or_congr Iff.rfl (or_congr Iff.rfl ⟨fun h=>⟨e',h⟩,fun h=>h.2⟩)
       ·show RJ ss lv S Fo fo la gad Hg i r (some (.ref b)) (some (.ref q0)) (j + 1) _ H6/\m8 H6 b r
        refine ⟨⟨gvs,gr,_,_,rfl,bt6,hg6,lg6,ndg,fun x=>?_⟩,hb6⟩
        rw [ig x,t8 hz']
        have e':¬ K42.dot ss r * z < 0:=of_decide_eq_false e
        exact or_congr Iff.rfl ⟨.inl,fun h=>h.elim id fun h=>absurd h.1 e'⟩
      ·rintro σ H6 ⟨⟨gvs,gr,o7',o8',rfl,bt,hg,lg,ndg,ig⟩,hb⟩
       refine ⟨_,_,gvs,gr,_,_,rfl,bt,hg,lg,ndg,fun x=>?_⟩
       rw [ig x,aM hr,plen psv]
       constructor
       ·rintro (⟨r',hr',u⟩ | u)
        ·exact .inl ⟨r',List.mem_append_left _ hr',u⟩
        ·exact .inl ⟨r,List.mem_append_right _ List.mem_cons_self,u⟩
       ·rintro (⟨r',hr',u⟩ | u)
        ·rcases List.mem_append.mp hr' with m | m
         ·exact .inl ⟨r',m,u⟩
         ·rw [List.mem_singleton] at m
          subst m
          exact .inr u
        ·exact absurd u gE
     ·rintro σ H4 ⟨b0,v0,gvs,gr,o7',o8',rfl,bt,hg,lg,ndg,ig⟩
      have fl:lv.take kvs.length=lv:=by rw [plen lev4];exact List.take_length
      rw [fl] at ig
      clear fl
      refine ⟨_,rfl,gad,gvs,rfl,.inl ⟨hg,fun o'=>?_⟩⟩
      have hgg:upd H4 gad (.frz o' (.dT gvs)) gad=some (.frz o' (.dT gvs)):=upd_same
      have fo5:upd H4 gad (.frz o' (.dT gvs)) fo=some (.lst (fvs ++ acc)):=by
       have n:=neG hfo4 fun _ z=>nomatch z
       rw [aE n]
       exact bt _ _ n hfo4
      have hfd5:zQ (upd H4 gad (.frz o' (.dT gvs))) (fvs ++ acc) (fnd ++ lv.filter fun r=>K42.dot ss r == 0):=hfd4.same fun b xs e=>by
       have n:=neG e fun _ z=>nomatch z
       rw [aE n]
       exact bt _ _ n e
      have lg5:zG ss (upd H4 gad (.frz o' (.dT gvs))) gvs gr:=lg.same fun b xs e=>by
       rw [aE (fun z=>by rw [z,hg] at e;cases e)]
       exact e
      have s5:aC H (upd H4 gad (.frz o' (.dT gvs))):=fun b u e=>by
       have n:b≠gad:=fun z=>by rw [z,hgn] at e;cases e
       rw [aE n]
       exact bt _ _ n (sg4 _ _ e)
      have gn:=grn gr lv.length [] 0 ndg (fun x hx=>by rw [List.take_length];exact (ig x).mp hx) (.inr rfl)
      have far:∀ s ∈ fnd ++ lv.filter (fun r=>K42.dot ss r == 0),s.length=ss.length:=fun s hs=>by
       rcases List.mem_append.mp hs with m | m
       ·exact (L.got m).1
       ·exact (L.row (List.mem_filter.mp m).1).1
      have fan:(fnd ++ lv.filter (fun r=>K42.dot ss r == 0)).length<=8000000:=by
       have:=List.length_filter_le (fun r=>K42.dot ss r == 0) lv
       rw [List.length_append]
       omega
      generalize upd H4 gad (.frz o' (.dT gvs))=H5 at hgg fo5 hfd5 lg5 s5 ⊢
      generalize hfa:fnd ++ lv.filter (fun r=>K42.dot ss r == 0)=fa at hfd5 far fan
      refine j8 (NI ss gr (fun x=>!(fa.map fun s=>undZ (nI s) (nI x)).any id) fo H5) ⟨_,_,rfl,aC.refl _,.nil⟩ (fun i acc σ H' ⟨_,_,_,s,_⟩=>s _ _ hgg) ?_ ?_
      ·rintro i k' v T b acc' σ H6 hkv ⟨o0,o1,rfl,s6,kb⟩ hb hT
       obtain ⟨r,hr,ek,q0,rfl,hq0⟩:=pget' lg5 hkv
       dsimp only at ek
       subst ek
       rw [e8] at hb
       refine ⟨T,_,rfl,d7.of upd_same,rfl,_,_,rfl,_,_,rfl,rfl,?_⟩
       have s7:aC H6 (upd H6 T (.tup [.ref b,.ref q0])):=aC.upd hT
       generalize upd H6 T (.tup [.ref b,.ref q0])=H7 at s7 ⊢
       have fo7:=s7 _ _ (s6 _ _ fo5)
       refine ⟨_,rfl,fo,_,rfl,.inl fo7,fun J hJ=>?_⟩
       refine cX hJ (LI fa r b H7) ⟨_,rfl,aC.refl _,rfl⟩ (fun i acc σ H' _ ⟨_,_,s,_⟩=>by rw [fo7];exact s _ _ fo7) ?_ ?_
       ·rintro j x acc'' σ H8 hx ⟨o0',rfl,s8,rfl⟩
        obtain ⟨s,hs,p,rfl,tp⟩:=pget' hfd5 hx
        refine ⟨_,rfl,_,rfl,p,b,nI s,nI r,rfl,.inr (s8 _ _ (s7 _ _ (s6 _ _ tp))),.inr (s8 _ _ (s7 _ _ hb)),?_,fun H9 s9=>⟨?_,_,rfl,s8.trans s9,?_⟩⟩
        ·rw [eB,far s (List.mem_of_getElem? hs)]
         omega
        ·have:=List.length_take_le' j fa
         simp only [List.length_map]
         omega
        ·rw [aM hs,List.map_append,List.map_append]
         rfl
       ·rintro acc'' σ H8 ⟨o0',rfl,s8,rfl⟩ p9 hp9
        have fl:fa.take (fvs ++ acc).length=fa:=by rw [plen hfd5];exact List.take_length
        rw [fl]
        have s9:aC H6 (upd H8 p9 (.lst ((fa.map fun s=>undZ (nI s) (nI r)).map V.bl))):=s7.trans (s8.trans (aC.upd hp9))
        refine ⟨p9,_,rfl,upd_same,_,rfl,?_⟩
        generalize upd H8 p9 (.lst ((fa.map fun s=>undZ (nI s) (nI r)).map V.bl))=H9 at s9 ⊢
        refine iH (fun e=>?_) fun e=>?_
        ·refine ⟨_,rfl,_,rfl,b,keyR r,rfl,by rw [e8];exact s9 _ _ hb,(kb.same s9).ktr,(kb.same s9).keys ?_,?_,_,_,rfl,s6.trans s9,?_⟩
         ·exact fun m=>uN ndg hr (List.mem_filter.mp m).1
         ·have:=plen kb
          have:=List.length_filter_le (fun x=>!(fa.map fun s=>undZ (nI s) (nI x)).any id) (gr.take i)
          have:=List.length_take_le' i gr
          omega
         ·rw [aM hr,List.filter_append,List.filter_cons_of_pos (p:=fun x=>!(fa.map fun s=>undZ (nI s) (nI x)).any id) e,List.filter_nil]
          exact Paired.snoc (kb.same s9) ⟨rfl,s9 _ _ hb,q0,rfl,s9 _ _ (s6 _ _ hq0)⟩
        ·refine ⟨_,_,rfl,s6.trans s9,?_⟩
         rw [aM hr,List.filter_append,List.filter_cons_of_neg (p:=fun x=>!(fa.map fun s=>undZ (nI s) (nI x)).any id) (fun z=>Bool.false_ne_true (e.symm.trans z)),List.filter_nil,List.append_nil]
         exact kb.same s9
      ·rintro acc' σ H6 ⟨o0,o1,rfl,s6,kb⟩
       refine ⟨kb.ktr,fun p hp=>?_⟩
       have fl:gr.take gvs.length=gr:=by rw [plen lg5];exact List.take_length
       rw [fl] at kb
       refine ⟨k + 1,_,fa,p,eE acc',fvs ++ acc,_,_,_,_,_,rfl,rfl,by omega,by omega,gL (s5.trans s6) (dW (s5.trans s6) hp),?_,?_,dW (s5.trans s6) hp,upd_same,(kb.same (aC.upd hp)).lev,?_⟩
       ·rw [aE (aG (s6 _ _ fo5) hp)]
        exact s6 _ _ fo5
       ·exact hfd5.same fun b xs e=>aC.upd hp _ _ (s6 _ _ e)
       ·subst hfa
        refine L.next k1 ndg (fun x=>?_) _ fun x hx=>?_
        ·rw [ig x]
         constructor
         ·rintro (⟨r,hr,j,z,_,h1,h2,h3⟩ | u)
          ·exact ⟨r,hr,j,z,h1,h2,h3⟩
          ·exact absurd u gE
         ·rintro ⟨r,hr,j,z,h1,h2,h3⟩
          exact .inl ⟨r,hr,j,z,K42.lt_of h1,h1,h2,h3⟩
        ·have xl:x.length=ss.length:=by
          rcases (ig x).mp hx with ⟨r,hr,u⟩ | u
          ·exact (up9 r hr _ x u).1
          ·exact absurd u gE
         rw [Bool.not_eq_true',← Bool.not_eq_true,List.any_map,List.any_eq_true]
         constructor
         ·intro h s hs l
          exact h ⟨s,hs,(iS ((far s hs).trans xl.symm)).mpr l⟩
         ·rintro h ⟨s,hs,u⟩
          exact h s hs ((iS ((far s hs).trans xl.symm)).mp u)
   case _ =>
    have lv0:lv=[]:=by
     cases lev with
     | nil=>rfl
     | cons _ _=>cases e
    subst lv0
    obtain ⟨e1,e2⟩:=yW hfd
    refine ⟨_,rfl,fo,fvs,rfl,hfo',fun v hv=>?_,fun vs' pm pw p hp=>?_⟩
    ·obtain ⟨⟨a,rfl,tp⟩,h2,h3⟩:=e2 v hv
     refine ⟨_,a,rfl,tp,fun z=>?_⟩
     have:=eB ((rowV Hc (.ref a)).map Int.toNat)
     rw [z,(L.got h3).1] at this
     simp at this
     omega
    ·have mem:∀ v ∈ vs',v ∈ fvs:=fun v hv=>pm.mem_iff.mp hv
     have pmm:(vs'.map fun v=>(rowV Hc v).map Int.toNat).Perm fnd:=by
      rw [← e1]
      exact pm.map _
     have fn2:zQ Hc vs' (vs'.map fun v=>(rowV Hc v).map Int.toNat):=by
      clear pw pm pmm
      induction vs' with
      | nil=>exact .nil
      | cons v r ih=>exact .cons (e2 v (mem v List.mem_cons_self)).1 (ih fun w hw=>mem w (List.mem_cons_of_mem _ hw))
     refine q p vs' _ _ (sH.trans (aC.upd hp)) upd_same (fn2.same fun b xs e=>aC.upd hp _ _ e) (pmm.nodup_iff.mpr L.fn) (fun x=>by rw [pmm.mem_iff];exact L.done k1 x) ?_
     rw [List.pairwise_map]
     refine pw.imp_of_mem fun {a b} ha hb h=>?_
     rw [(e2 a (mem a ha)).2.1,(e2 b (mem b hb)).2.1]
     exact h
end
end Lw
namespace L2
open PySem PySem.Spec PyProof.Rows PyProof.Rows.LSm
noncomputable def rMaxL:List V->Hp->VK->Prop:=fun xs H Q=>∃ (p:Addr) (ns:List Int),xs=[.ref p]/\H p=some (.lst (ns.map V.int))/\ns≠[]/\∀ M,M ∈ ns->(∀ a ∈ ns,a<=M)->Q (.int M) H
theorem oB {X:Cx}(hc:X.calm=true):bI X (.builtin "max") rMaxL:=by
 rintro pins s σ H _ us Q I r ⟨p,ns,rfl,hp,ne,q⟩
 obtain ⟨u,rfl,e⟩:=vals1 r
 cases e
 obtain ⟨its,rv,pl,hz⟩:=I.list (cY.of hp)
 have are:IntsAre its ns:=e9 rv
 obtain ⟨ys,hx⟩:=are.allInts.items
 have here:s.heap.IsList p (intItems ys):=hx ▸ pl.isList
 have is:ns=ys.toList.map (·.1):=by
  rw [← nums_intItems,← hx]
  exact (show numsOf its.toArray.toList=ns from are.numsOf).symm
 have some_:0 < ys.size:=by
  have:=List.length_pos_iff.mpr ne
  rw [is,List.length_map] at this
  simpa using this
 refine max_intList (I.ok.hd hc) here some_ fun v h' tk hv hk=>?_
 obtain ⟨tok,rfl⟩:=intItems_at hv
 have top:=argBest_gt (numAt ys) (ys.size - 1)
 have at_:∀ j,j < ys.size->numAt ys j=(ns[j]?).getD 0:=fun j _=>by
  rw [is]
  unfold numAt
  rw [List.getElem?_map,Array.getElem?_toList]
 have len:ns.length=ys.size:=by rw [is];simp
 refine ⟨.int _,H,I.kept (t':=tk) hk,⟨tok,rfl⟩,q _ ?_ fun a ha=>?_⟩
 ·rw [at_ _ (by omega)]
  have lt:argBest (fun i j=>decide (numAt ys i > numAt ys j)) (ys.size - 1) < ns.length:=by omega
  rw [List.getElem?_eq_getElem lt]
  exact List.getElem_mem lt
 ·obtain ⟨j,hj,rfl⟩:=List.getElem_of_mem ha
  have:=top.2 j (by omega)
  rw [at_ j (by omega),List.getElem?_eq_getElem hj] at this
  exact this
end L2
namespace Lw
open PySem L2
section
variable {P:Program}{w:World}{K:PySem.W.Frag}{mg:eV}{base:Heap}
noncomputable def sgn (ls rs:List Int):List Int:=ls ++ rs.map fun x=>-x
noncomputable def wW (H0 H:Hp)(qs:List V)(fd:List (List Nat)):Prop:=Paired (fun (v:V) (r:List Nat)=>∃ q,v = .ref q/\H0 q=none/\H q=some (.lst ((nI r).map V.int))) qs fd
structure Rows (ss:List Int)(fd:List (List Nat)):Prop where
 nd:fd.Nodup
 is:∀ x,x ∈ fd ↔ K42.Min ss x
 up:fd.Pairwise fun x y=>ltI (nI y) (nI x)=false
noncomputable def oR:Sp:=fun vs H Q _=>∃ (a b:Addr) (ls rs:List Int),vs=[.ref a,.ref b]/\hG H a ls/\hG H b rs/\bV ls/\bV rs/\0 < ls.length + rs.length /\
 ∀ (l:Addr) (qs:List V) (fd:List (List Nat)) (H':Hp),aC H H'->H l=none->H' l=some (.lst qs)->wW H H' qs fd->Rows (sgn ls rs) fd->Q (.ref l) H'
theorem gK (ls rs:List Int):(sgn ls rs).length=ls.length + rs.length:=by unfold sgn;rw [List.length_append,List.length_map]
theorem lE {ls rs:List Int}(h1:bV ls)(h2:bV rs):∀ z ∈ sgn ls rs,z≠0/\-4<=z/\z<=4:=fun z hz=>by
 unfold sgn at hz
 rcases List.mem_append.mp hz with m | m
 ·have:=h1.2 z m;omega
 ·obtain ⟨x,hx,rfl⟩:=List.mem_map.mp m
  have:=h2.2 x hx;omega
theorem Rows.row {ss:List Int}{fd:List (List Nat)}(R:Rows ss fd){x:List Nat}(h:x ∈ fd):x.length=ss.length:=((R.is x).mp h).1.1
theorem Rows.tot {ss:List Int}{fd:List (List Nat)}(R:Rows ss fd)(hz:∀ z ∈ ss,z≠0/\-4<=z/\z<=4){x:List Nat}(h:x ∈ fd):K42.tot x<=8:=K42.few_levels hz (K42.complete ((R.is x).mp h))
theorem Rows.few {ss:List Int}{fd:List (List Nat)}(R:Rows ss fd)(hz:∀ z ∈ ss,z≠0/\-4<=z/\z<=4)(n8:ss.length<=8):fd.length<=4000000 :=
 iV n8 R.nd fun r hr=>⟨R.row hr,Nat.le_trans (R.tot hz hr) (by decide)⟩
noncomputable def SI (ss:List Int)(H1:Hp)(i:Nat)(acc:List V)(σ:St)(H':Hp):Prop:=∃ o:Option V,σ=[o]/\aC H1 H'/\Paired (fun (v:V) (z:Int)=>∃ q,v = .ref q/\H' q=some (.tup [.int z])) acc (ss.take i)
noncomputable def EI (H1:Hp)(i:Nat)(acc:List V)(σ:St)(H':Hp):Prop:=∃ o:Option V,σ=[o]/\aC H1 H'/\acc.length=i/\∀ v ∈ acc,∃ e,v = .ref e/\H' e=some (.lst [])
noncomputable def CI (H0:Hp)(fd:List (List Nat))(H1:Hp)(i:Nat)(acc:List V)(σ:St)(H':Hp):Prop:=∃ o:Option V,σ=[o]/\aC H1 H'/\wW H0 H' acc (fd.take i)
theorem wW.same {H0 H H':Hp}{qs:List V}{fd:List (List Nat)}(h:wW H0 H qs fd)(s:aC H H'):wW H0 H' qs fd:=Paired.mapP h fun _ _ ⟨q,a,b,c⟩=>⟨q,a,b,s _ _ c⟩
theorem x8 {f:Addr}{fd:FuncData}(F:mW K "least_rows" "least_rows" bD f fd)(T:Txt mg)(O_check_equation:gB P w K mg base cT 3 "check_equation" spEqn)(O_signed:gB P w K mg base cT 1 "signed" lA)(O_grown_rows:gB P w K mg base cT 2 "grown_rows" oS):dE P w K mg base cT 4 f fd fE oR:=by
 refine F.ok hU (fun vs H Q E h=>?_) (fun cdv A outer s H vs Q E hr h=>?_)
 ·obtain ⟨a,b,ls,rs,rfl,_⟩:=h
  rfl
 ·obtain ⟨a,b,ls,rs,rfl,ha,hb,hl,hr',pos,q⟩:=h
  refine ⟨_,(aP (iW (bF O_check_equation (hr.mono (by decide)) pass0 rfl (aA (pv 0) (aA (pv 1) aD))))
   (aP (pA (i:=2) hU.nd rfl rfl rfl rfl (aV.by (N:=dY) (names:=(aB bD).names) (N':=["size"]) (src:=[none]) (by decide +kernel) rfl rfl) (cV K rfl (bF O_signed (hr.mono (by decide)) pass0 rfl (aA (pv 0) (aA (pv 1) aD)))) (fun _ _ _ _=>(aW (i:=0) (show List.Nodup (["size"]:bE) by decide +kernel) rfl (Or.inl rfl))) (fun _ _ _ _=>bP) (fun _ _ _ _=>(eK (aA (pv 0) aD))))
   (aO (bR (cE rfl (aV.by (N:=dY) (names:=(aB bD).names) (N':=["row"]) (src:=[none]) (by decide +kernel) rfl rfl) (cV K rfl (bF O_grown_rows (hr.mono (by decide)) pass0 rfl (aA (pv 2) (aA (cE rfl (aV.by (N:=dY) (names:=(aB bD).names) (N':=["size"]) (src:=[none]) (by decide +kernel) rfl rfl) (cV K rfl (pv 2)) (fun _ _ _ _=>(aW (i:=0) (show List.Nodup (["size"]:bE) by decide +kernel) rfl (Or.inl rfl))) (fun _ _ _ _=>bP) (fun _ _ _ _=>(cW aD))) aD)))) (fun _ _ _ _=>(aW (i:=0) (show List.Nodup (["row"]:bE) by decide +kernel) rfl (Or.inl rfl))) (fun _ _ _ _=>bP) (fun _ _ _ _=>(jM mF rfl T.n_list rfl (aA (pv 0) aD)))))))),?_⟩
  clear hr F T O_check_equation O_signed O_grown_rows
  simp only [eP]
  have n8:(sgn ls rs).length<=8:=by rw [gK];have:=hl.1;have:=hr'.1;omega
  have n1:1<=(sgn ls rs).length:=by rw [gK];omega
  have hz:=lE hl hr'
  refine ⟨_,rfl,_,rfl,a,b,ls,rs,rfl,ha,hb,hl,hr',pos,fun H1 s1=>?_⟩
  refine ⟨_,rfl,_,rfl,a,b,ls,rs,rfl,ha.same s1,hb.same s1,hl.1,hr'.1,fun p H2 s2 hp=>?_⟩
  have hp:H2 p=some (.lst ((sgn ls rs).map V.int)):=hp
  generalize sgn ls rs=ss at n8 n1 hz hp q
  refine ⟨p,_,rfl,.inl hp,fun J hJ=>?_⟩
  have s12:=s1.trans s2
  clear s1 s2 hl hr' pos ha hb
  refine cX hJ (SI ss H2) ⟨_,rfl,aC.refl _,.nil⟩ (fun i acc σ H' _ ⟨_,_,s,_⟩=>by rw [hp];exact s _ _ hp) ?_ ?_
  ·rintro i x acc σ H3 hx ⟨o,rfl,s3,pr⟩
   rw [List.getElem?_map] at hx
   obtain ⟨z,hz',rfl⟩:=Option.map_eq_some_iff.mp hx
   refine ⟨_,rfl,show 1<=sizeLine by decide,fun t ht=>⟨?_,_,rfl,s3.trans (aC.upd ht),?_⟩⟩
   ·have:=plen pr
    have:=List.length_take_le' i ss
    exact Nat.lt_of_le_of_lt (m:=8) (by omega) (by decide)
   ·rw [aM hz']
    exact Paired.snoc (Paired.mapP pr fun _ _ ⟨q,a,b⟩=>⟨q,a,aC.upd ht _ _ b⟩) ⟨t,rfl,upd_same⟩
  ·rintro acc σ H3 ⟨o,rfl,s3,pr⟩ S hS
   rw [List.length_map,List.take_length] at pr
   have sz:zD ss (upd H3 S (.lst acc)) S:=⟨acc,upd_same,Paired.mapP pr fun _ _ ⟨q,a,b⟩=>⟨q,a,aC.upd hS _ _ b⟩⟩
   have sA:=s12.trans (s3.trans (aC.upd (o:=.lst acc) hS))
   have gS:upd H3 S (.lst acc) S=some (.lst acc):=upd_same
   have la:=plen pr
   generalize upd H3 S (.lst acc)=H4 at sz sA gS ⊢
   clear hJ s3 hS pr s12
   refine ⟨_,rfl,_,rfl,S,acc,rfl,.inl gS,fun J hJ=>?_⟩
   refine cX hJ (EI H4) ⟨_,rfl,aC.refl _,rfl,fun v hv=>nomatch hv⟩ (fun i acc σ H' _ ⟨_,_,s,_⟩=>by rw [gS];exact s _ _ gS) ?_ ?_
   ·rintro i x acc' σ H5 hx ⟨o,rfl,s5,le,em⟩
    have:=K42.lt_of hx
    refine ⟨Nat.zero_le _,fun e he=>⟨?_,_,rfl,s5.trans (aC.upd he),by rw [List.length_append,le];rfl,fun v hv=>?_⟩⟩
    ·exact Nat.lt_of_le_of_lt (m:=8) (by omega) (by decide)
    ·rcases List.mem_append.mp hv with m | m
     ·obtain ⟨e',a,b⟩:=em v m
      exact ⟨e',a,aC.upd he _ _ b⟩
     ·rw [List.mem_singleton] at m
      exact ⟨e,m,upd_same⟩
   ·rintro acc' σ H5 ⟨o,rfl,s5,le,em⟩ Fo hFo
    have sB:=s5.trans (aC.upd (o:=.lst acc') hFo)
    refine ⟨S,Fo,ss,rfl,sz.same sB,⟨acc',upd_same,by omega,fun v hv=>?_⟩,n1,n8,hz,fun l vs' fnd H6 s6 hl fn nd is up=>?_⟩
    ·obtain ⟨e',a,b⟩:=em v hv
     exact ⟨e',a,aC.upd hFo _ _ b⟩
    have R:Rows ss fnd:=⟨nd,is,up⟩
    have fw:=R.few hz n8
    have fit:=qO
    have sC:=sA.trans (sB.trans s6)
    clear hJ s6 sB em le s5 hFo sz sA gS
    refine ⟨l,vs',rfl,.inl hl,fun J hJ=>?_⟩
    refine cX hJ (CI H fnd H6) ⟨_,rfl,aC.refl _,.nil⟩ (fun i acc σ H' _ ⟨_,_,s,_⟩=>by rw [hl];exact s _ _ hl) ?_ ?_
    ·rintro i x acc'' σ H7 hx ⟨o,rfl,s7,rl⟩
     obtain ⟨r,hr,p,rfl,tp⟩:=pget' fn hx
     refine ⟨_,rfl,_,_,rfl,seqV_t (s7 _ _ tp),fun l2 hl2=>⟨?_,_,rfl,s7.trans (aC.upd hl2),?_⟩⟩
     ·have:=plen rl
      have:=List.length_take_le' i fnd
      omega
     ·rw [aM hr]
      exact Paired.snoc (rl.same (aC.upd hl2)) ⟨l2,rfl,dW (sC.trans s7) hl2,upd_same⟩
    ·rintro acc'' σ H7 ⟨o,rfl,s7,rl⟩ l2 hl2
     rw [plen fn,List.take_length] at rl
     exact q l2 acc'' fnd _ ((sC.trans s7).trans (aC.upd hl2)) (dW (sC.trans s7) hl2) upd_same (rl.same (aC.upd hl2)) R
end
end Lw
namespace L2
open PySem PyProof.Rows
section
variable {prog:Program}{w:World}{A:Around}{E:bA}{s:Shared}{κ:SortKind}{iv:Value->List Int}
theorem sV {l:Addr}{vs:bJ}{Q:bA}(hl:s.heap.IsList l vs.toArray)(hz:vs.length<=sizeLine)
  (kind:∀ (A':Around) (E':bA) (h':Heap),(∀ b o,s.heap.get? b=some o->h'.get? b=some o)->2<=vs.length->∀ R:SortKind->Shared->Prop,R κ { s with heap:=h' }->wpAny (model prog w) A' (keyKind' vs.toArray) R E' { s with heap:=h' })
  (ask:∀ (A':Around) (E':bA) (h':Heap),(∀ b o,s.heap.get? b=some o->h'.get? b=some o)->A'.units<=A.units + 2->∀ x y:Keyed,x.1 ∈ vs->y.1 ∈ vs->∀ (st:SortSt) (R:Option Bool->SortSt->Prop),kindOf st=κ->R (some (ltI (iv x.1) (iv y.1))) st->wpS (model prog w) A' E' { s with heap:=h' } (lt' x y) R st)
  (q:∀ out:d8,out.toList.Perm vs->out.toList.Pairwise (fun x y=>ltI (iv y) (iv x)=false)->Q (.ref (s.heap.objs.size + 1)) { s with heap:=sortedAll s.heap vs out }) :
  wpAny (model prog w) A (call (.builtin "sorted") (.ref l :: [])) Q E s:=by
 have old:∀ {h':Heap},(∀ b o,b≠s.heap.objs.size + 1->(((s.heap.push (seqObj "list" #[] 0)).update s.heap.objs.size (Obj.mapSeq (· ++ vs.toArray))).push (seqObj "list" vs.toArray 0)).get? b=some o->h'.get? b=some o)->∀ b o,s.heap.get? b=some o->h'.get? b=some o:=fun {h'} k b o e=>by
  have lt:b < s.heap.objs.size:=Heap.lt_size e
  refine k b o (Nat.ne_of_lt (Nat.lt_succ_of_lt lt)) (Heap.get?_push_of_some _ ?_)
  rw [Heap.get?_update_ne _ _ _ _ (Nat.ne_of_lt lt)]
  exact Heap.get?_push_of_some _ e
 refine Calls.call_function_entry kind_sorted plain_sorted entry_sorted (args_sorted1 _) (show wpAny _ _ (Builtin.«sorted» _) _ _ _ from ?_)
 unfold Builtin.«sorted»
 have sz:((s.heap.push (seqObj "list" #[] 0)).update s.heap.objs.size (Obj.mapSeq (· ++ vs.toArray))).objs.size=s.heap.objs.size + 1:=(Heap.size_update _ _ _).trans (size_push' _ _)
 refine wpAny_bind (m:=checkCount "sorted" 1 1 _) (wpAny_pure (wpAny_bind (collect_list hl (wpAny_bind (wpAny_newList ?_ hz)) hz)))
 have at1:(((s.heap.push (seqObj "list" #[] 0)).update s.heap.objs.size (Obj.mapSeq (· ++ vs.toArray))).push (seqObj "list" vs.toArray 0)).get? (s.heap.objs.size + 1)=some (seqObj "list" vs.toArray 0):=sz ▸ Heap.get?_push_size _ rfl
 change wpAny _ _ _ _ _ { s with heap:=((s.heap.push (seqObj "list" #[] 0)).update s.heap.objs.size (Obj.mapSeq (· ++ vs.toArray))).push (seqObj "list" vs.toArray 0) }
 rw [sz]
 refine wpAny_bind (wpAny_holding (wpAny_call_entry slot_list_sort ⟨_,at1,rfl⟩ entry_list_sort (hZ (kf:=rank ltI (fun p:Keyed=>iv p.1) (pairsOf vs).toList) (κ:=κ) at1 hz ?_ ?_ fun out ps pm so eo=>⟨_,rfl,wpAny_pure ⟨_,rfl,q out ?_ ?_⟩⟩) (args_list_sort _)))
 ·intro h' k h2 Q' hQ
  exact kind _ _ h' (old k) h2 Q' hQ
 ·intro h' k x y hx hy st Q' hk hQ
  have inx:∀ z:Keyed,z ∈ (pairsOf vs).toList->z.1 ∈ vs:=fun z hz'=>by rw [pairsOf_toList] at hz';exact (mem_zip_self hz').2
  refine ask _ _ h' (old k) ?_ x y (inx x hx) (inx y hy) st Q' hk ?_
  ·show A.in1.in1.units<=_
   rw [d5,d5]
   exact Nat.le_refl _
  ·rw [eQ gQ hx hy] at hQ
   exact hQ
 ·rw [eo]
  have:=pm.map (·.2)
  rw [pairsOf_toList,List.map_snd_zip (Nat.le_refl _)] at this
  exact this
 ·rw [eo]
  refine List.pairwise_map.mpr ?_
  refine so.imp_of_mem fun {x y} hx hy le=>?_
  have e:∀ z ∈ ps,z.1=z.2:=fun z hz'=>by
   have:=pm.mem_iff.mp hz'
   rw [pairsOf_toList] at this
   exact (mem_zip_self this).1
  have:=eQ gQ (iv:=fun p:Keyed=>iv p.1) (pm.mem_iff.mp hy) (pm.mem_iff.mp hx)
  rw [e x hx,e y hy] at this
  rw [← this]
  exact decide_eq_false (Nat.not_lt.mpr le)
end
theorem lexI:∀ x y:List Int,HT.lexLt x y=ltI x y
 | [],[]=>rfl
 | [],_ :: _=>rfl
 | _ :: _,[]=>rfl
 | x :: xs,y :: ys=>by rw [HT.lexLt_cons,ltI,lexI xs ys]
noncomputable def BJ (h:Heap)(v:Value)(r:List Int):Prop:=∃ a us,v = .ref a/\h.IsList a us/\IntsAre us.toList r
theorem BJ.same {h h':Heap}{v:Value}{r:List Int}(t:BJ h v r)(k:∀ b o,h.get? b=some o->h'.get? b=some o):BJ h' v r:=by
 obtain ⟨a,us,e,⟨o,ho,z⟩,i⟩:=t
 exact ⟨a,us,e,⟨o,k a o ho,z⟩,i⟩
theorem pJ {h:Heap}{v:Value}{r:List Int}(t:BJ h v r):ivH h v=r:=by
 obtain ⟨a,us,rfl,⟨o,ho,hc,n,hd⟩,hi⟩:=t
 unfold ivH
 dsimp only
 rw [ho]
 dsimp only
 rw [hd]
 exact hi.nums
theorem tK {M:Model}{h:Heap}{l:Addr}{us:d8}(is:h.IsList l us):PySem.W.Looks M h (typeOf (.ref l)) (.type "list"):=fun A Q E s k q=>by
 obtain ⟨o,ho,hc,_⟩:=is
 exact wpAny_typeOf ⟨o,k _ _ ho,hc⟩ q
section
variable {prog:Program}{w:World}{A:Around}{E:bA}{s:Shared}
theorem yG {x y:Keyed}{r t:List Int}{st:SortSt}{Q:Option Bool->SortSt->Prop}(hu:A.units + 16 < cLine)(hx:BJ s.heap x.1 r)(hy:BJ s.heap y.1 t)(hk:kindOf st=oneType')(h:Q (some (ltI r t)) st):wpS (model prog w) A E s (lt' x y) Q st:=by
 obtain ⟨a,us,e1,is,hi⟩:=hx
 obtain ⟨b,vs,e2,is',hj⟩:=hy
 obtain ⟨⟨c,dd,dt,sl⟩,ho,hc,n,hd⟩:=id is
 obtain ⟨⟨c',dd',dt',sl'⟩,ho',hc',n',hd'⟩:=id is'
 simp only at hc hd hc' hd'
 subst hc hd hc' hd'
 rw [lt'_eq]
 refine wpS_bind (wpS_get ?_)
 rw [hk,e1,e2]
 refine wpS_bind (wpS_lift (wpAny_attempt ?_))
 rw [keyLt'_oneType,oneLt'_eq,if_pos rfl]
 refine wpAny_bind (wpAny_cRoomFor (by omega) (wpAny_bind (wpAny_callSpecialIfBound?_slot (T:="list") ⟨_,ho,rfl⟩ PySem.F.slot_list_lt ?_)))
 refine call_meets PySem.F.slot_list_lt ⟨_,ho,rfl⟩ PySem.F.entry_list_lt (PySem.F.args_list_lt_2 _ _) (i5 a b us vs n n' dd dd' sl sl' r t hi hj) ⟨ho,ho',?_⟩
 rw [lexI]
 exact wpAny_truthy_bool ⟨rfl,wpS_pure h⟩
end
noncomputable def dD (H:Hp)(v:V)(r:List Int):Prop:=∃ p,v = .ref p/\H p=some (.lst (r.map V.int))
noncomputable def lrowV (H:Hp)(v:V):List Int:=match v with
 | .ref p=>match H p with
  | some (.lst us)=>us.map intV0
  | _=>[]
 | _=>[]
theorem dJ {H:Hp}{v:V}{r:List Int}(h:dD H v r):lrowV H v=r:=by
 obtain ⟨p,rfl,e⟩:=h
 unfold lrowV
 dsimp only
 rw [e]
 show (r.map V.int).map intV0=r
 rw [List.map_map]
 exact List.map_id' _
theorem oX {P:Program}{w:World}{H:Hp}{h:Heap}{v:V}{u:Value}{r:List Int}(ok:eD P w H h)(hr:dD H v r)(ru:aL v u):BJ h u r:=by
 obtain ⟨p,rfl,e⟩:=hr
 cases ru
 obtain ⟨_,us,n,rv,ho⟩:=(show aU P w H h p (.lst (r.map V.int)) from ok p _ e)
 exact ⟨p,_,rfl,⟨_,ho,rfl,n,rfl⟩,by rw [List.toList_toArray];exact jR rv⟩
noncomputable def AE:List V->Hp->VK->Prop:=fun xs H Q=>∃ (a:Addr) (vs:List V),xs=[.ref a]/\H a=some (.lst vs)/\(∀ v ∈ vs,∃ r,dD H v r) /\
 ∀ vs':List V,vs'.Perm vs->vs'.Pairwise (fun x y=>ltI (lrowV H y) (lrowV H x)=false)->∀ p,H p=none->Q (.ref p) (upd H p (.lst vs'))
section
variable {X:Cx}
theorem rW (hu:X.A.units + 64 < cLine):bI X (.builtin "sorted") AE:=by
 intro pins s σ H xs us Q I rv h
 obtain ⟨a,vs,rfl,ha,hr,q⟩:=h
 obtain ⟨u,rfl,ru⟩:=aK.one rv
 cases ru
 obtain ⟨its,r,pl,hz⟩:=I.list (cY.of ha)
 have mem:∀ u ∈ its,∃ v ∈ vs,aL v u/\u=(match v with | .ref p=>Value.ref p | _=>.none)/\v=refV u:=by
  intro u hu
  have:∀ {vs:List V} {its:bJ},aK vs its->(∀ v ∈ vs,∃ r,dD H v r)->u ∈ its->∃ v ∈ vs,aL v u/\u=(match v with | .ref p=>Value.ref p | _=>.none)/\v=refV u:=by
   intro vs its hv
   induction hv with
   | nil=>exact fun _ z=>nomatch z
   | @cons v u' vs its a t ih =>
    intro hr hu
    rcases List.mem_cons.mp hu with rfl | hu
    ·obtain ⟨_,p,rfl,_⟩:=hr v List.mem_cons_self
     cases a
     exact ⟨_,List.mem_cons_self,rfl,rfl,rfl⟩
    ·obtain ⟨v',m,z⟩:=ih (fun v hv=>hr v (List.mem_cons_of_mem _ hv)) hu
     exact ⟨v',List.mem_cons_of_mem _ m,z⟩
  exact this r hr hu
 have eq:∀ {vs:List V} {its:bJ},aK vs its->(∀ v ∈ vs,∃ r,dD H v r)->its.map refV=vs:=by
  intro vs its hv
  induction hv with
  | nil=>exact fun _=>rfl
  | @cons v u' vs its a t ih =>
   intro hr
   obtain ⟨_,p,rfl,_⟩:=hr v List.mem_cons_self
   cases a
   rw [List.map_cons,ih fun v hv=>hr v (List.mem_cons_of_mem _ hv)]
   rfl
 have row:∀ u ∈ its,ivH s.heap u=lrowV H (refV u):=fun u hu=>by
  obtain ⟨v,m,rel,_,e⟩:=mem u hu
  obtain ⟨rw_,hrw⟩:=hr v m
  rw [pJ (oX I.hok hrw rel),← e,dJ hrw]
 have valsR:∀ l:bJ,(∀ u ∈ l,u ∈ its)->aK (l.map refV) l:=by
  intro l
  induction l with
  | nil=>exact fun _=>.nil
  | cons u l ih =>
   intro hm
   refine .cons ?_ (ih fun x hx=>hm x (List.mem_cons_of_mem _ hx))
   obtain ⟨v,_,rel,_,e⟩:=mem u (hm u List.mem_cons_self)
   rw [← e]
   exact rel
 have lsi:∀ u ∈ its,∃ r,BJ s.heap u r:=fun u hu=>by
  obtain ⟨v,m,rel,_⟩:=mem u hu
  obtain ⟨rw_,hrw⟩:=hr v m
  exact ⟨rw_,oX I.hok hrw rel⟩
 refine sV (vs:=its) (κ:=oneType') (iv:=ivH s.heap) pl.isList (by rw [← r.length];exact hz) ?_ ?_ fun out pm so=>?_
 ·intro A' E' h' k h2 R hR
  refine PySem.W.kas_kind (T:=.type "list") h2 (fun v hv=>?_) (by decide) (by decide) hR
  obtain ⟨r',l'⟩:=lsi v hv
  obtain ⟨a',us,rfl,is,_⟩:=l'.same k
  exact tK (h:=h') is
 ·intro A' E' h' k un x y hx hy st R hk hR
  obtain ⟨r1,l1⟩:=lsi _ hx
  obtain ⟨r2,l2⟩:=lsi _ hy
  rw [pJ l1,pJ l2] at hR
  exact yG (by omega) (l1.same k) (l2.same k) hk hR
 ·obtain ⟨e,g⟩:=sortedAll_at s.heap its out
  have inn:∀ u ∈ out.toList,u ∈ its:=fun u hu=>pm.mem_iff.mp hu
  refine ⟨.ref (s.heap.objs.size + 1),_,I.laid (t':=s.toks) (o:=.lst (out.toList.map refV)) (fun b o z=>sortedAll_old z) (Nat.le_succ _) ⟨?_,_,_,valsR _ inn,by simpa [seqObj] using g⟩,rfl,q _ ?_ ?_ _ (I.hok.fresh (Nat.le_succ _))⟩
  ·rw [List.length_map,pm.length_eq,← r.length]
   exact hz
  ·have:=pm.map refV
   rw [eq r hr] at this
   exact this
  ·refine List.pairwise_map.mpr (so.imp_of_mem fun {x y} hx hy z=>?_)
   rw [← row x (inn x hx),← row y (inn y hy)]
   exact z
end
end L2
namespace L2
open PySem PySem.Spec PyProof.Rows PySem.SeqAt
open PySem.AutoSeq1 (wpAny_loadPart')
open PySem.MeetsSeq PySem.MeetsSeq2 PySem.MeetsSeq3
end L2
namespace L2
open PySem PySem.Spec PyProof.Rows
theorem aF.adopt {X:Cx}{pins:bK}{σ:St}{H:Hp}{s:Shared}{a:Addr}{o:HO}(I:aF X pins σ H s)(f:cA X pins H a)(new:aU X.prog X.w (upd H a o) s.heap a o):aF X pins σ (upd H a o) s:=by
 obtain ⟨f0,f1,f2,f3,f4,f5⟩:=f
 have keep:∀ b u,H b=some u->upd H a o b=some u:=fun b u e=>by rw [aE (aG e f0)];exact e
 refine { ok:=I.ok,os:=I.os,bare:=I.bare,base:=?_,loc:=I.loc,cell:=I.cell,free:=?_,freeC:=?_,pin:=?_,hok:=?_,len:=I.len }
 ·have u:=I.base
  exact {
   keep:=u.keep,slot:=u.slot,there:=u.there,tups:=fun b xs e=>keep _ _ (u.tups b xs e),frzs:=fun b q r e=>keep _ _ (u.frzs b q r e),
   tbls:=fun b ps e=>by obtain ⟨more,h⟩:=u.tbls b ps e;exact ⟨more,keep _ _ h⟩,
   free:=fun b q e n hx=>by
    have ne:b≠a:=fun z=>by
     rcases f3 with h | h
     ·exact hx (z ▸ h)
     ·exact Nat.lt_irrefl _ (Nat.lt_of_lt_of_le (Heap.lt_size e) (z ▸ h))
    rw [aE ne]
    exact u.free b q e n hx }
 ·rw [aE (Ne.symm f1)]
  exact I.free
 ·intro x c e
  rw [aE (f4 x c e)]
  exact I.freeC x c e
 ·intro p hp
  obtain ⟨h1,h2,h3⟩:=I.pin p hp
  exact ⟨h1,by rw [aE (f5 p hp)];exact h2,h3⟩
 ·intro b u e
  by_cases hb:b=a
  ·subst hb
   rw [upd_same] at e
   cases e
   exact new
  ·rw [aE hb] at e
   exact (I.hok b u e).stay (fun _ _ _ q=>q) (fun c q=>keep _ _ q) (fun c xs q=>keep _ _ q)
theorem cA.at {X:Cx}{pins:bK}{H H':Hp}{b:Addr}(f:cA X pins H b)(h:H' b=none):cA X pins H' b:=⟨h,f.2⟩
end L2
namespace L2
open PySem PySem.Spec PyProof.Rows PySem.SeqAt PySem.W
theorem rJ:∀ xs ys:List Int,eqDs (xs.map D.int) (ys.map D.int)=decide (xs=ys)
 | [],[]=>rfl
 | [],_ :: _=>rfl
 | _ :: _,[]=>rfl
 | x :: xs,y :: ys=>by
  rw [List.map_cons,List.map_cons,eqDs,rJ xs ys,Bool.eq_iff_iff]
  have e:eqD (.int x) (.int y)=decide (x=y):=by show (x == y)=_;rw [Bool.eq_iff_iff];simp
  rw [e]
  simp
theorem n9:∀ ns:List Int,depDs (ns.map D.int)=0
 | []=>rfl
 | n :: ns=>by rw [List.map_cons,depDs,n9 ns];rfl
theorem iI {H:Hp}:∀ (ns:List Int),Reps H (ns.map D.int) (ns.map V.int)
 | []=>rfl
 | n :: ns=>⟨.int n,ns.map V.int,rfl,rfl,iI ns⟩
noncomputable def j5 (H:Hp)(kv v:V)(r:List Int):Prop:=∃ t q,kv = .ref t/\v = .ref q/\H t=some (.tup [.int r.sum,.ref q])/\H q=some (.lst (r.map V.int))
noncomputable def keyI (r:List Int):List Int:=r.sum :: r
theorem j5.same {H H':Hp}{kv v:V}{r:List Int}(h:j5 H kv v r)(s:aC H H'):j5 H' kv v r:=by
 obtain ⟨t,q,a,b,c,d⟩:=h
 exact ⟨t,q,a,b,s _ _ c,s _ _ d⟩
theorem j5.at_ {P:Program}{w:World}{H:Hp}{h:Heap}{kv v:V}{r:List Int}{u:Value}(ok:eD P w H h)(ky:j5 H kv v r)(ru:aL kv u):∃ t q o n tk,u = .ref t/\h.get? t=some o/\o.cls = .type "tuple"/\o.data = .seq #[.int r.sum tk,.ref q] n/\H q=some (.lst (r.map V.int))/\BJ h (.ref q) r:=by
 obtain ⟨t,q,rfl,rfl,ht,hq⟩:=ky
 cases ru
 obtain ⟨_,us,rv,o,h1,h2,n,h3⟩:=(show aU P w H h t (.tup [.int r.sum,.ref q]) from ok t _ ht)
 obtain ⟨u1,us,rfl,e1,rv⟩:∃ u1 us',us=u1 :: us'/\aL (.int r.sum) u1/\aK [.ref q] us':=by cases rv with | cons a b=>exact ⟨_,_,rfl,a,b⟩
 obtain ⟨u2,rfl,e2⟩:=aK.one rv
 obtain ⟨tk,rfl⟩:=e1
 cases e2
 exact ⟨t,q,o,n,tk,rfl,h1,h2,h3,hq,oX ok ⟨q,rfl,hq⟩ rfl⟩
section
variable {prog:Program}{w:World}{A:Around}{E:bA}{s:Shared}{P:Program}{w':World}{H:Hp}
theorem AW {x y:Keyed}{kv kv' v v':V}{r t:List Int}{st:SortSt}{Q:Option Bool->SortSt->Prop}(hu:A.units + 16 < cLine)(ok:eD P w' H s.heap)(hx:j5 H kv v r)(hy:j5 H kv' v' t)(rx:aL kv x.1)(ry:aL kv' y.1)(hk:kindOf st=tuples' true)(h:Q (some (ltI (keyI r) (keyI t))) st) :
  wpS (model prog w) A E s (lt' x y) Q st:=by
 obtain ⟨a,q,o,n,tk,e1,ho,hc,hd,hq,l1⟩:=hx.at_ ok rx
 obtain ⟨a',q',o',n',tk',e2,ho',hc',hd',hq',l2⟩:=hy.at_ ok ry
 rw [lt'_eq]
 refine wpS_bind (wpS_get ?_)
 rw [hk,e1,e2]
 refine wpS_bind (wpS_lift (wpAny_attempt (kat_lt ho hd ho' hd' ?_)))
 refine kat_cons (SeqAt.EqAt.int_int r.sum tk t.sum tk' prog w _ _ ?_)
 unfold keyI at h
 rw [ltI] at h
 by_cases e:r.sum=t.sum
 ·rw [if_pos e] at h
  rw [show (r.sum == t.sum)=true by simpa using e]
  have eqs:=eqAtD ok (.lst (r.map D.int)) (.lst (t.map D.int)) A (.ref q) (.ref q') (.ref q) (.ref q') ⟨q,_,rfl,hq,iI r⟩ ⟨q',_,rfl,hq',iI t⟩ rfl rfl (by rw [depD,n9];omega)
  rw [show eqD (.lst (r.map D.int)) (.lst (t.map D.int))=decide (r=t) from rJ r t] at eqs
  refine kat_yes (kat_cons (eqs prog w _ _ ?_))
  by_cases f:r=t
  ·rw [decide_eq_true f]
   refine kat_yes (kat_nil ⟨rfl,?_⟩)
   rw [f,pF] at h
   exact wpS_pure h
  ·rw [decide_eq_false f]
   refine kat_no (kat_one _ _ ?_)
   obtain ⟨b1,us,z1,is,hi⟩:=l1
   obtain ⟨b2,vs,z2,is',hj⟩:=l2
   cases z1
   cases z2
   refine kC is is' hi hj (by omega) ⟨rfl,?_⟩
   rw [lexI]
   exact wpS_pure h
 ·rw [if_neg e] at h
  rw [show (r.sum == t.sum)=false by simpa using e]
  exact kat_no (qV ⟨rfl,wpS_pure h⟩)
end
inductive p0 (H:Hp):List V->List V->List (List Int)->Prop
 | nil:p0 H [] [] []
 | cons {kv v r kvs vs rs}:j5 H kv v r->p0 H kvs vs rs->p0 H (kv :: kvs) (v :: vs) (r :: rs)
theorem p0.same {H H':Hp}{kvs vs:List V}{rs:List (List Int)}(h:p0 H kvs vs rs)(s:aC H H'):p0 H' kvs vs rs:=by
 induction h with
 | nil=>exact .nil
 | cons a _ ih=>exact .cons (a.same s) ih
theorem p0.snoc {H:Hp}{kvs vs:List V}{rs:List (List Int)}(h:p0 H kvs vs rs){kv v:V}{r:List Int}(k:j5 H kv v r):p0 H (kvs ++ [kv]) (vs ++ [v]) (rs ++ [r]):=by
 induction h with
 | nil=>exact .cons k .nil
 | cons a _ ih=>exact .cons a ih
theorem p0.len {H:Hp}{kvs vs:List V}{rs:List (List Int)}(h:p0 H kvs vs rs):kvs.length=vs.length/\rs.length=vs.length:=by
 induction h with
 | nil=>exact ⟨rfl,rfl⟩
 | cons _ _ ih=>simp [ih.1,ih.2]
noncomputable def ivK (h:Heap)(v:Value):List Int:=match v with
 | .ref b=>match h.get? b with
  | some o=>match o.data with
   | .seq xs _=>numOf (xs.getD 0 .none) :: ivH h (xs.getD 1 .none)
   | _=>[]
  | none=>[]
 | _=>[]
theorem pK {P:Program}{w:World}{H:Hp}{h:Heap}{kv v:V}{r:List Int}{u:Value}(ok:eD P w H h)(ky:j5 H kv v r)(ru:aL kv u):ivK h u=keyI r:=by
 obtain ⟨t,q,o,n,tk,rfl,ho,_,hd,_,ls⟩:=ky.at_ ok ru
 unfold ivK
 dsimp only
 rw [ho]
 dsimp only
 rw [hd]
 show numOf (.int r.sum tk) :: ivH h (.ref q)=_
 rw [pJ ls]
 rfl
theorem p0.pair {P:Program}{w:World}{H:Hp}{h:Heap}{kvs vs:List V}{rs:List (List Int)}{kus us:bJ}(ok:eD P w H h)(k:p0 H kvs vs rs)(rk:aK kvs kus)(rv:aK vs us) :
  ∀ p ∈ kus.zip us,∃ kv v r,j5 H kv v r/\aL kv p.1/\aL v p.2/\v ∈ vs/\v=refV p.2:=by
 induction k generalizing kus us with
 | nil=>cases rk;exact fun p hp=>nomatch hp
 | @cons kv v r kvs vs rs a _ ih =>
  cases rk with
  | cons r1 rk =>
   cases rv with
   | cons r2 rv =>
    intro p hp
    rw [List.zip_cons_cons] at hp
    rcases List.mem_cons.mp hp with e | m
    ·subst e
     refine ⟨kv,v,r,a,r1,r2,List.mem_cons_self,?_⟩
     obtain ⟨t,q,_,rfl,_⟩:=a
     cases r2
     rfl
    ·obtain ⟨kv',v',r',b1,b2,b3,b4,b5⟩:=ih rk rv p m
     exact ⟨kv',v',r',b1,b2,b3,List.mem_cons_of_mem _ b4,b5⟩
theorem p0.tups {P:Program}{w:World}{H:Hp}{h:Heap}{kvs vs:List V}{rs:List (List Int)}{kus:bJ}(ok:eD P w H h)(k:p0 H kvs vs rs)(rk:aK kvs kus):∃ fs:bJ,KatTups h kus fs/\fs.length=kus.length/\∀ f ∈ fs,∃ n t,f = .int n t:=by
 induction k generalizing kus with
 | nil=>cases rk;exact ⟨[],KatTups.nil,rfl,fun f hf=>nomatch hf⟩
 | @cons kv v r kvs vs rs a _ ih =>
  cases rk with
  | cons r1 rk =>
   obtain ⟨fs,f1,f2,f3⟩:=ih rk
   obtain ⟨t,q,o,n,tk,rfl,ho,hc,hd,_⟩:=a.at_ ok r1
   refine ⟨.int r.sum tk :: fs,KatTups.cons ho hc hd rfl f1,by rw [List.length_cons,f2,List.length_cons],fun f hf=>?_⟩
   exact (List.mem_cons.mp hf).elim (fun z=>⟨r.sum,tk,z⟩) (f3 f)
theorem zZ {H:Hp}{kvs vs:List V}{rs:List (List Int)}{us:bJ}(k:p0 H kvs vs rs)(rv:aK vs us):us.map refV=vs:=by
 induction k generalizing us with
 | nil=>cases rv;rfl
 | cons a _ ih =>
  cases rv with
  | cons r rv =>
   obtain ⟨t,q,_,rfl,_⟩:=a
   cases r
   rw [List.map_cons,ih rv]
   rfl
section
variable {X:Cx}{pins:bK}{σ:L2.St}{H Hj:Hp}{s:Shared}{a kS:Addr}{e1 e:Nat}{kvs xs:List V}{kus its:bJ}{rs:List (List Int)}{A:Around}{E:bA}
theorem vP (hu:A.units + 32 < cLine)(I:aF X pins σ Hj s)(fa:cA X pins Hj a)(fk:cA X pins Hj kS)(ne:kS≠a)(ha:s.heap.get? a=some (seqObj "list" #[] e1))(hk:s.heap.get? kS=some (seqObj "list" kus.toArray e))
  (rk:aK kvs kus) (ky:p0 Hj kvs xs rs) (rx:aK xs its) (hz:xs.length<=sizeLine) {Pf:PySem.Fin->Shared->Prop}
  (h:∀ s' ys,aF X pins σ (upd Hj a (.lst ys)) s'->ys.Perm xs->ys.Pairwise (fun x y=>ltI (keyI (lrowV Hj y)) (keyI (lrowV Hj x))=false)->Pf (.done (.ret .none)) s') :
  wpAny (model X.prog X.w) A (ksk_end a false its.toArray e1 (.ref kS) kus.toArray) Pf E s:=by
 have lk:=ky.len.1
 have l2:=rk.length
 have l4:=rx.length
 have pz:(kus.toArray.zip its.toArray).toList=kus.zip its:=by simp
 -- what stands behind the sort
 have tail:∀ st':SortSt,(arrOf st').toList.Perm (kus.zip its)->failedOf st'=none->(arrOf st').toList.Pairwise (fun p q=>ltI (ivK s.heap q.1) (ivK s.heap p.1)=false)->wpAny (model X.prog X.w) A (ksk_tail a false e1 (.ref kS) st') Pf E s:=by
  intro st' pm hf so
  have len:(arrOf st').toList.length=its.length:=by rw [pm.length_eq,List.length_zip];omega
  have mem:∀ p ∈ (arrOf st').toList,∃ kv v r,j5 Hj kv v r/\aL kv p.1/\aL v p.2/\v ∈ xs/\v=refV p.2:=fun p hp=>ky.pair I.hok rk rx p (pm.mem_iff.mp hp)
  unfold ksk_tail
  dsimp only
  refine wpAny_bind (listUpdate_at hk rfl ?_ (by rw [List.size_toArray];omega) (Nat.zero_le _))
  refine wpAny_bind (wpAny_letGo ?_)
  have sb1:=Heap.SameBut.update s.heap kS (Obj.mapSeq fun _=>(#[]:d8))
  have ha1:=(sb1.2 a ne.symm).trans ha
  have I1:=I.turned (t':=s.toks) (fun b o hb z=>(sb1.2 b hb).trans z) fk.1 fk.2.1 fk.2.2.2.1 fk.2.2.2.2.1 fk.2.2.2.2.2
  refine wpAny_bind (seqEpoch_at ha1 rfl ?_)
  refine wpAny_bind (listUpdate_at ha1 rfl ?_ (Nat.zero_le _) (by simp only [Bool.false_eq_true,if_false];rw [Array.size_map,← Array.length_toList,len];omega))
  rw [hf]
  simp only [bne_self_eq_false,if_false,Bool.false_eq_true]
  have sb2:=Heap.SameBut.update (s.heap.update kS (Obj.mapSeq fun _=>(#[]:d8))) a (Obj.mapSeq fun _=>(arrOf st').map (·.2))
  have I2:=I1.turned (t':=s.toks) (fun b o hb z=>(sb2.2 b hb).trans z) fa.1 fa.2.1 fa.2.2.2.1 fa.2.2.2.2.1 fa.2.2.2.2.2
  have ga:=get?_update_seq ha1 fun _=>(arrOf st').map (·.2)
  have vals:∀ l:List Keyed,(∀ p ∈ l,p ∈ (arrOf st').toList)->aK (l.map fun p=>refV p.2) (l.map (·.2)):=by
   intro l
   induction l with
   | nil=>exact fun _=>.nil
   | cons p l ih =>
    intro hm
    refine .cons ?_ (ih fun q hq=>hm q (List.mem_cons_of_mem _ hq))
    obtain ⟨_,v,_,_,_,rv,_,e⟩:=mem p (hm p List.mem_cons_self)
    show aL (refV p.2) p.2
    rw [← e]
    exact rv
  have I3:=I2.adopt (o:=.lst ((arrOf st').toList.map fun p=>refV p.2)) fa ⟨by rw [List.length_map,len];omega,_,_,vals _ (fun _ z=>z),by rw [show ((arrOf st').toList.map (·.2)).toArray=(arrOf st').map (·.2) by rw [← Array.toList_map,Array.toArray_toList]];exact ga⟩
  refine wpAny_pure (h _ _ I3 ?_ ?_)
  ·have whole:(kus.zip its).map (fun p=>refV p.2)=xs:=by
    have two:((kus.zip its).map (fun p:Value×Value=>p.2)).map refV=its.map refV:=by rw [List.map_snd_zip (by omega)]
    rw [List.map_map,zZ ky rx] at two
    exact two
   have:=pm.map (fun p:Keyed=>refV p.2)
   rw [show (kus.zip its).map (fun p:Keyed=>refV p.2)=xs from whole] at this
   exact this
  ·refine List.pairwise_map.mpr (so.imp_of_mem fun {x y} hx hy z=>?_)
   obtain ⟨kv,v,r,b1,b2,b3,_,b5⟩:=mem x hx
   obtain ⟨kv',v',r',c1,c2,c3,_,c5⟩:=mem y hy
   rw [pK I.hok b1 b2,pK I.hok c1 c2] at z
   rw [← b5,← c5]
   obtain ⟨_,q,_,rfl,_,hq⟩:=b1
   obtain ⟨_,q',_,rfl,_,hq'⟩:=c1
   rw [dJ ⟨q,rfl,hq⟩,dJ ⟨q',rfl,hq'⟩]
   exact z
 unfold ksk_end
 dsimp only
 rw [if_neg Bool.false_ne_true]
 by_cases c:its.toArray.size < 2
 ·rw [if_pos c,if_pos c]
  refine wpAny_bind (wpAny_pure ?_)
  rw [StateT.run_pure]
  refine wpAny_bind (wpAny_pure (tail _ ?_ rfl ?_))
  ·rw [if_neg Bool.false_ne_true]
   show (kus.toArray.zip its.toArray).toList.Perm _
   rw [pz]
  ·rw [if_neg Bool.false_ne_true]
   show (kus.toArray.zip its.toArray).toList.Pairwise _
   rw [pz]
   have one:(kus.zip its).length < 2:=by rw [List.length_zip];rw [List.size_toArray] at c;omega
   match kus.zip its,one with
   | [],_=>exact .nil
   | [x],_=>exact List.pairwise_singleton _ _
   | _ :: _ :: _,z=>exact absurd z (by simp)
 ·rw [if_neg c,if_neg c]
  rw [List.size_toArray] at c
  obtain ⟨fs,f1,f2,f3⟩:=ky.tups I.hok rk
  refine wpAny_bind (kat_kind (T:=.type "int") f1 (by omega) (fun f hf=>?_) rfl ?_)
  ·obtain ⟨m,tk,rfl⟩:=f3 f hf
   exact Looks.now
  rw [if_neg Bool.false_ne_true]
  have ask:jH (model X.prog X.w) A E s (rank ltI (fun p:Keyed=>ivK s.heap p.1) (kus.toArray.zip its.toArray).toList) (tuples' true) (kus.toArray.zip its.toArray):=by
   intro x y hx hy st Q' hk' hQ
   rw [eQ gQ hx hy] at hQ
   rw [pz] at hx hy
   obtain ⟨kv,v,r,b1,b2,_⟩:=ky.pair I.hok rk rx x hx
   obtain ⟨kv',v',r',c1,c2,_⟩:=ky.pair I.hok rk rx y hy
   rw [pK I.hok b1 b2,pK I.hok c1 c2] at hQ
   exact AW (by omega) I.hok b1 c1 b2 c2 hk' hQ
  have st0:SI (rank ltI (fun p:Keyed=>ivK s.heap p.1) (kus.toArray.zip its.toArray).toList) (tuples' true) (kus.toArray.zip its.toArray) [] (kus.toArray.zip its.toArray).toList (SortSt.mk' (tuples' true) (kus.toArray.zip its.toArray) #[] 7 none):=⟨rfl,rfl,fun r hr=>(nomatch hr),rfl,rfl,Array.Perm.refl _⟩
  have run:=hO (Q:=fun _ st'=>(arrOf st').toList.Perm (kus.toArray.zip its.toArray).toList/\failedOf st'=none/\(arrOf st').toList.Pairwise (kI (rank ltI (fun p:Keyed=>ivK s.heap p.1) (kus.toArray.zip its.toArray).toList))) ask st0 fun st' b1 b2 b3=>⟨Array.perm_iff_toList_perm.mp b1,b2,b3⟩
  refine wpAny_bind (wpAny_mono run ?_ fun _ _ x=>x)
  rintro ⟨⟨⟩,st'⟩ s' ⟨rfl,b1,b2,b3⟩
  refine tail st' (by rw [← pz];exact b1) b2 (b3.imp_of_mem fun {x y} hx hy le=>?_)
  rw [← eQ gQ (iv:=fun p:Keyed=>ivK s'.heap p.1) (b1.mem_iff.mp hy) (b1.mem_iff.mp hx)]
  exact decide_eq_false (Nat.not_lt.mpr le)
noncomputable def DM (X:Cx)(pins:bK)(σ:L2.St)(A:Around)(Hb:Hp)(f:Addr):Prop :=
 ∀ (Hj:Hp) (s:Shared) (a kS:Addr) (oa ok:Obj),aF X pins σ Hj s->aC Hb Hj->cA X pins Hj a->cA X pins Hj kS->s.heap.get? a=some oa->s.heap.get? kS=some ok->∀ (v:V) (u:Value) (r:List Int),dD Hj v r->aL v u ->
  ∀ (Q:bA) (E:bA),(∀ kv ku H' s',aF X pins σ H' s'->aC Hj H'->H' a=none->H' kS=none->s'.heap.get? a=some oa->s'.heap.get? kS=some ok->j5 H' kv v r->aL kv ku->Q ku s') ->
   wpAny (model X.prog X.w) A (call (.ref f) [u]) Q E s
theorem sW {f:Addr}(kc:DM X pins σ A H f)(hu:A.units + 32 < cLine)(I:aF X pins σ H s)(fa:cA X pins H a)(fk:cA X pins H kS)(ne:kS≠a)
  (ha:s.heap.get? a=some (seqObj "list" #[] e1)) (hk:s.heap.get? kS=some (seqObj "list" #[] 0)) (rx:aK xs its) (hr:∀ v ∈ xs,∃ r,dD H v r) (hz:xs.length<=sizeLine) {Pf:PySem.Fin->Shared->Prop}
  (h:∀ s' H' ys,aF X pins σ (upd H' a (.lst ys)) s'->aC H H'->H' a=none->ys.Perm xs->ys.Pairwise (fun x y=>ltI (keyI (lrowV H y)) (keyI (lrowV H x))=false)->Pf (.done (.ret .none)) s') :
  wpAny (model X.prog X.w) A (ksk_rest a (.ref f) false its.toArray e1 (.ref kS)) Pf E s:=by
 have l4:=rx.length
 unfold ksk_rest
 refine wpAny_bind (wpAny_rule ?_)
 rw [List.forIn_toArray]
 refine wpAny_bind (ksk_fold (fun j s'=>∃ (Hj:Hp) (kvs:List V) (kus:bJ) (rs:List (List Int)) (e:Nat),aF X pins σ Hj s'/\aC H Hj/\Hj a=none/\Hj kS=none/\s'.heap.get? a=some (seqObj "list" #[] e1)/\s'.heap.get? kS=some (seqObj "list" kus.toArray e)/\aK kvs kus/\p0 Hj kvs (xs.take j) rs) its 0 s
  ⟨H,[],[],[],0,I,aC.refl _,fa.1,fk.1,ha,hk,.nil,.nil⟩ ?step ?done)
 case step =>
  rintro j x s' hx ⟨Hj,kvs,kus,rs,e,I',sm,na,nk,ha',hk',rk,ky⟩
  rw [Nat.zero_add] at ky ⊢
  have hj:j < its.length:=(List.getElem?_eq_some_iff.mp hx).1
  obtain ⟨v,hv⟩:∃ v,xs[j]?=some v:=⟨_,List.getElem?_eq_getElem (by omega)⟩
  obtain ⟨u,hu',ru⟩:=rx.get hv
  rw [hx] at hu'
  cases hu'
  obtain ⟨r,hrr⟩:=hr v (List.mem_of_getElem? hv)
  have lk:=rk.length
  have ll:=ky.len.1
  have lt:=List.length_take_le' j xs
  have hrj:dD Hj v r:=by obtain ⟨q,e1,e2⟩:=hrr;exact ⟨q,e1,sm _ _ e2⟩
  refine wpAny_bind (wpAny_attempt (kc Hj s' a kS _ _ I' sm (fa.at na) (fk.at nk) ha' hk' v x r hrj ru _ _ fun kv ku H' s2 I2 sm2 na2 nk2 ha2 hk2 kya rku=>?_))
  have sb:=Heap.SameBut.update s2.heap kS (Obj.mapSeq (·.push ku))
  have gk:=get?_update_seq hk2 (·.push ku)
  refine wpAny_bind (listUpdate_at hk2 rfl ?_ (by rw [List.size_toArray];omega) (by rw [Array.size_push,List.size_toArray];omega))
  have fk2:=fk.at nk2
  refine wpAny_pure ⟨rfl,H',kvs ++ [kv],kus ++ [ku],rs ++ [r],_,I2.turned (t':=s2.toks) (fun b o hb z=>(sb.2 b hb).trans z) fk2.1 fk2.2.1 fk2.2.2.2.1 fk2.2.2.2.2.1 fk2.2.2.2.2.2,sm.trans sm2,na2,nk2,(sb.2 a ne.symm).trans ha2,by rw [gk,List.push_toArray],rk.append (.cons rku .nil),?_⟩
  rw [List.take_succ,hv]
  exact (ky.same sm2).snoc kya
 case done =>
  rintro s' ⟨Hj,kvs,kus,rs,e,I',sm,na,nk,ha',hk',rk,ky⟩
  rw [Nat.zero_add,← l4,List.take_length] at ky
  refine wpAny_bind (listItems_at hk' rfl (vP hu I' (fa.at na) (fk.at nk) ne ha' hk' rk ky rx hz fun s2 ys I2 a1 a2=>h s2 Hj ys I2 sm na a1 (a2.imp_of_mem fun {x y} hx hy z=>?_)))
  have same:∀ v ∈ ys,lrowV Hj v=lrowV H v:=fun v hv=>by
   obtain ⟨r,q,e1,e2⟩:=hr v (a1.mem_iff.mp hv)
   rw [dJ ⟨q,e1,e2⟩,dJ ⟨q,e1,sm _ _ e2⟩]
  rw [same x hx,same y hy] at z
  exact z
theorem rX {f l:Addr}(kc:∀ Hb,aC H Hb->DM X pins σ X.A.in1.in1 Hb f)(hu:X.A.units + 64 < cLine)(I:aF X pins σ H s)(hl:H l=some (.lst xs))(hr:∀ v ∈ xs,∃ r,dD H v r){Q:VK}
  (h:∀ l' ys H',aC H H'->H l'=none->H' l'=some (.lst ys)->ys.Perm xs->ys.Pairwise (fun x y=>ltI (keyI (lrowV H y)) (keyI (lrowV H x))=false)->Q (.ref l') H') :
  wpAny (model X.prog X.w) X.A (call (.builtin "sorted") [.ref l] [(Str.ofString "key",.ref f)]) (EP X pins σ Q) E s:=by
 obtain ⟨its,rx,pl,hz⟩:=I.list (cY.of hl)
 have l4:=rx.length
 refine call_function_entry_kw kind_sorted plain_sorted entry_sorted (ksk_s1 _ _) ?_
 unfold Builtin.«sorted»
 refine wpAny_bind (m:=checkCount "sorted" 1 1 _) (wpAny_pure (wpAny_bind (collect_list pl.isList ?_ (by omega))))
 refine wpAny_bind (wpAny_newList ?_ (by omega))
 have k1:∀ b o,s.heap.get? b=some o->((s.heap.push (seqObj "list" #[] 0)).update s.heap.objs.size (Obj.mapSeq fun x=>x ++ its.toArray)).get? b=some o:=fun b o e=>by
  have lt:=Heap.lt_size e
  rw [Heap.get?_update_ne _ _ _ _ (Nat.ne_of_lt lt)]
  exact Heap.get?_push_of_some _ e
 have z1:s.heap.objs.size<=((s.heap.push (seqObj "list" #[] 0)).update s.heap.objs.size (Obj.mapSeq fun x=>x ++ its.toArray)).objs.size:=by
  rw [Heap.size_update,Heap.size_push]
  omega
 dsimp only
 generalize (s.heap.push (seqObj "list" #[] 0)).update s.heap.objs.size (Obj.mapSeq fun x=>x ++ its.toArray)=h1 at k1 z1 ⊢
 have I2:aF X pins σ H { s with heap:=h1.push (seqObj "list" its.toArray 0) }:=I.kept (t':=s.toks) fun b o e=>Heap.get?_push_of_some _ (k1 b o e)
 have nD:=I.hok.fresh z1
 have fD:=I.fpOk z1 nD
 have gD:(h1.push (seqObj "list" its.toArray 0)).get? h1.objs.size=some (seqObj "list" its.toArray 0):=Heap.get?_push_size _ rfl
 refine wpAny_bind (wpAny_holding (wpAny_call_entry_kw slot_list_sort ⟨_,gD,rfl⟩ entry_list_sort ?body (ksk_l1 _ _)))
 show wpAny (model X.prog X.w) X.A.in1.in1 (ksk_tree h1.objs.size (.ref f) false) _ _ _
 unfold ksk_tree
 refine wpAny_bind (listItems_at gD rfl ?_)
 refine wpAny_bind (listUpdate_at gD rfl ?_ (by rw [List.size_toArray];omega) (Nat.zero_le _))
 have sb:=Heap.SameBut.update (h1.push (seqObj "list" its.toArray 0)) h1.objs.size (Obj.mapSeq fun _=>(#[]:d8))
 have g3:=get?_update_seq gD fun _=>(#[]:d8)
 have I3:=I2.turned (t':=s.toks) (fun b o hb z=>(sb.2 b hb).trans z) fD.1 fD.2.1 fD.2.2.2.1 fD.2.2.2.2.1 fD.2.2.2.2.2
 refine wpAny_bind (seqEpoch_at g3 rfl ?_)
 refine wpAny_bind (wpAny_newTuple ?_ (by show its.length<=_;omega))
 refine wpAny_bind (wpAny_newList (wpAny_holding ?_) (Nat.zero_le _))
 have I4:=I3.kept (t':=s.toks) fun b o e=>Heap.get?_push_of_some { cls:=.type "tuple",data:=.seq its.toArray } e
 have I5:=I4.kept (t':=s.toks) fun b o e=>Heap.get?_push_of_some { cls:=.type "list",data:=.seq #[] } e
 have fk:=I4.fpOk (Nat.le_refl _) (I4.hok.fresh (Nat.le_refl _))
 have gk:=Heap.get?_push_of_some { cls:=.type "list",data:=.seq #[] } (Heap.get?_push_of_some { cls:=.type "tuple",data:=.seq its.toArray } g3)
 refine sW (kc H (aC.refl _)) (by rw [d5,d5];omega) I5 fD fk (fun z=>?_) gk (Heap.get?_push_size _ rfl) rx hr hz fun s' H' ys I' sm na a1 a2=>⟨_,rfl,wpAny_pure ⟨_,rfl,.ref h1.objs.size,_,I',rfl,h _ ys _ (sm.trans (aC.upd na)) nD upd_same a1 a2⟩⟩
 have lt:=Heap.lt_size (Heap.get?_push_of_some { cls:=.type "tuple",data:=.seq its.toArray } g3)
 exact Nat.ne_of_gt lt z
end
end L2
namespace L2
open PySem PySem.Spec PyProof.Rows PySem.W
noncomputable abbrev pinO (a:Addr)(o:Obj):HO:=.ext fun h=>h.get? a=some o
theorem tE {P:Program}{w:World}{H:Hp}{h:Heap}{a:Addr}{o:Obj}(e:h.get? a=some o):aU P w H h a (pinO a o):=⟨e,⟨o,e⟩,fun h1 h2 q k=>k o q⟩
theorem uG {P:Program}{w:World}{H:Hp}{h:Heap}{a:Addr}{o:Obj}(ok:eD P w H h)(e:H a=some (pinO a o)):h.get? a=some o:=(ok a _ e).1
theorem aF.grow {X:Cx}{pins:bK}{σ:L2.St}{H:Hp}{s:Shared}{P:Addr}{ps more:d8}{h':Heap}{t':Nat}(I:aF X pins σ H s)(hP:H P=some (.tbl ps))(hx:Heap.ExtBut P s.heap h')(ht:h'.get? P=some (tabObj (ps ++ more))):aF X pins σ (upd H P (.tbl (ps ++ more))) { s with heap:=h',toks:=t' }:=by
 have nP:∀ b,H b=none->b≠P:=fun b e z=>by rw [z,hP] at e;cases e
 have nK:∀ b u,H b=some u->(∀ qs,u≠.tbl qs)->b≠P:=fun b u e z w=>by rw [w,hP] at e;cases e;exact z _ rfl
 refine I.un ⟨fun b o e n _ _=>hx b o (nP b n) e,fun b o e n _ _=>⟨o.slots,hx b o (nP b n) e⟩,fun b o e n _=>by rw [aE (nP b n)];exact n,fun b o e _=>?_,fun b xs e=>?_,fun b o u e=>?_,fun b qs e=>?_⟩ (fun b u e=>?_)
 ·by_cases z:b=P
  ·subst z;exact ⟨_,ht⟩
  ·exact ⟨o,hx b o z e⟩
 ·rw [aE (nK b _ e fun _=>by simp)];exact e
 ·rw [aE (nK b _ e fun _=>by simp)];exact e
 ·by_cases z:b=P
  ·subst z
   rw [hP] at e
   cases e
   exact ⟨more,upd_same⟩
  ·exact ⟨#[],by rw [aE z,e];simp⟩
 ·by_cases z:b=P
  ·subst z
   rw [upd_same] at e
   cases e
   exact ht
  ·rw [aE z] at e
   refine (I.hok b u e).stay (fun c o hc q=>hx c o ?_ q) (fun c q=>by rw [aE (nK c _ q fun _=>by simp)];exact q) (fun c xs q=>by rw [aE (nK c _ q fun _=>by simp)];exact q)
   rcases hc with rfl | hc
   ·exact z
   ·exact nK c _ hc fun _=>by simp
end L2
namespace Lw
open PySem L2
section
variable {P:Program}{w:World}{K:PySem.W.Frag}{mg:eV}{base:Heap}
noncomputable def lamOf (s:Stmt):Expr:=match aR s with
 | [_,.For _ (.Call _ _ [k] _) _ _ _,_]=>k.value
 | _=>.Name "" ⟨0,0,0,0⟩
noncomputable def C0 (e:Expr):Arguments:=match e with
 | .Lambda a _ _ _=>a
 | _=>default
noncomputable def C1 (e:Expr):Expr:=match e with
 | .Lambda _ b _ _=>b
 | e=>e
noncomputable def lamSc (e:Expr):Scope:=match e with
 | .Lambda _ _ s _=>s
 | _=>default
noncomputable def CZ (e:Expr):Pos:=match e with
 | .Lambda _ _ _ p=>p
 | _=>⟨0,0,0,0⟩
noncomputable abbrev pL:Arguments:=C0 (lamOf aN)
noncomputable abbrev bL:Expr:=C1 (lamOf aN)
noncomputable abbrev scL:Scope:=lamSc (lamOf aN)
noncomputable abbrev xL:Pos:=CZ (lamOf aN)
noncomputable def qL:Str:="_law_least.<locals>.<lambda>"
noncomputable abbrev oL (c':Addr)(pm ctv:Value):Obj:=PySem.W.kla_obj "<lambda>" qL pL bL scL [] pm c' ctv
noncomputable abbrev envL (L fl c':Addr):Env:=newEnv scL L mainGlobals [] (qL ++ ".<locals>.") (some fl) (.ref c') none builtinsNs
noncomputable def cxL (P:Program)(w:World)(K:PySem.W.Frag)(mg:eV)(base:Heap)(A:Around)(outer:List Env)(s:Shared)(H:Hp)(fl c':Addr):Cx where
 prog:=P
 w:=w
 K:=K
 mg:=mg
 base:=base
 A:=A.deeper (envL s.heap.objs.size fl c')
 N:=["_law_one"]
 s₀:=s
 H₀:=H
 env:=envL s.heap.objs.size fl c'
 outer:=outer
 stack:=envL s.heap.objs.size fl c' :: outer
 ex:=[]
 fn:=fun _=>false
 calm:=true
 pn:=[]
 xe:=fun _ _=>False
theorem yL {x:Str}(h:scL.names.lookup x=some .cell∨scL.names.lookup x=some .free):False:=by
 have all:∀ y ∈ scL.names,¬ (y.2 = .cell∨y.2 = .free):=by decide +kernel
 rcases h with h | h
 ·exact all _ (PySem.mem_of_lookup h) (.inl rfl)
 ·exact all _ (PySem.mem_of_lookup h) (.inr rfl)
theorem AZ {A:Around}{outer:List Env}{s:Shared}{H:Hp}{fl c' q:Addr}{pm ctv u:Value}{oc':Obj}{vsc:d8}{tq:Tok}{r:List Int}{k:Nat}{Q:VK}(hr:dX (k + 1) A)(e0:zI P w K mg base A outer s H)(T:Txt mg)
  (hfl:H fl=some (pinO fl (oL c' pm ctv))) (hc':H c'=some (pinO c' oc')) (hcd:oc'.data = .fields vsc) (hq:vsc[1]?=some (.str qL tq))
  (ru:aL (.ref q) u) (hrow:H q=some (.lst (r.map V.int))) (q0:∀ t,H t=none->Q (.ref t) (upd H t (.tup [.int r.sum,.ref q]))) :
  codeAny (model P w) A (.call (.ref fl) ⟨[u],[]⟩) (CR cT outer P w H s Q E0) s:=by
 have gfl:=uG e0.hok hfl
 have g':=uG e0.hok hc'
 have lim:s.heap.NoLimit:=e0.mod.nolimit.keeps fun b o e=>(e0.bs b o e).1
 refine PySem.W.kla_callFunE hr.depth gfl rfl rfl rfl rfl ⟨c',oc',vsc,tq,rfl,g',hcd,hq⟩ ?_
 rw [show bindArgs (PySem.W.kla_fn "<lambda>" qL pL bL scL [] pm (.ref c') ctv) ⟨[u],[]⟩=pure [(("_law_one" : Str),u)] from rfl]
 have nc:∀ x ∈ scL.names,x.2≠.cell:=by decide +kernel
 have nl:∀ x ∈ [(("_law_one" : Str),u)],scL.names.lookup x.1=some .local:=by
  intro x hx
  rw [List.mem_singleton.mp hx];rfl
 refine wpAny_pure (wpAny_newFunctionEnv nc nl (fun h' hns hsb=>⟨lim.fresh _ hsb,?_⟩) rfl)
 have hk:∀ b o,s.heap.get? b=some o->h'.get? b=some o:=fun b o e=>hsb.extBut b o (Nat.ne_of_lt (Heap.lt_size e)) (Heap.get?_push_of_some _ e)
 have I:aF (cxL P w K mg base A outer s H fl c') [] [some (.ref q)] H { s with heap:=h',toks:=s.toks + 1 }:=by
  have noA:∀ b:Addr,b ∉ (cxL P w K mg base A outer s H fl c').ex:=fun b z=>absurd (show b ∈ ([]:List Addr) from z) (by simp)
  have none_:∀ x c,(cxL P w K mg base A outer s H fl c').env.cells.lookup x=some c->False:=fun x c e=>by
   have e':([]:List (Str×Addr)).lookup x=some c:=e
   cases e'
  refine ⟨⟨e0.mod,rfl,rfl,rfl,Nat.le_refl _,fun x y c h1 _=>(none_ x c h1).elim,fun x hx=>(yL hx).elim,fun x c h=>absurd h (by simp [cxL]),fun _=>hr.hd,Around.frames_deeper e0.frames,.inr ⟨rfl,rfl⟩,fun b z=>absurd z (noA b),e0.bs,e0.bsz,fun b _ _=>noA b,fun b z=>absurd z (noA b),e0.funs,e0.frf⟩,
   rfl,e0.bare,Un.kept hk,⟨_,hns,fun i x v h1 h2 h3=>?_⟩,fun x c h=>(none_ x c h).elim,e0.hok.fresh (Nat.le_refl _),fun x c h=>(none_ x c h).elim,fun p hp=>absurd (show p ∈ ([]:bK) from hp) (by simp),e0.hok.kept hk,rfl⟩
  match i,h1,h2 with
  | 0,h1,h2=>cases h1;cases h2;exact ⟨u,ru,.inl ⟨rfl,rfl⟩⟩
  | i + 1,h1,h2=>cases h1
 have pb:PE (cxL P w K mg base A outer s H fl c') bL (tTup (tCons (tCB rSum (tCons (tVar 0) tNil)) (tCons (tVar 0) tNil))):=eK (aA (aQ (g8 rfl) rfl T.n_sum rfl (aA (pv 0) aD)) (aA (pv 0) aD))
 refine PySem.W.kla_codeExpr (wpAny_mono (pb [] _ _ _ Q I ⟨_,rfl,q,r,rfl,hrow,_,rfl,show 2<=sizeLine by decide,fun t ht=>q0 t ht⟩) (fun u s' ⟨v,H',J,rv,qq⟩=>?_) fun _ _ z=>z.elim)
 exact ⟨v,H',J.os,J.bare,J.base,J.hok,rv,qq⟩
noncomputable def oI (H:Hp)(fl:Addr):Prop:=∃ (c':Addr) (pm ctv:Value) (oc':Obj) (vsc:d8) (tq:Tok),H fl=some (pinO fl (oL c' pm ctv))/\H c'=some (pinO c' oc')/\oc'.data = .fields vsc/\vsc[1]?=some (.str qL tq)
theorem oI.same {H H':Hp}{fl:Addr}(h:oI H fl)(s:aC H H'):oI H' fl:=by
 obtain ⟨c',pm,ctv,oc',vsc,tq,h1,h2,h3⟩:=h
 exact ⟨c',pm,ctv,oc',vsc,tq,s _ _ h1,s _ _ h2,h3⟩
end
section
variable {P:Program}{w:World}{K:PySem.W.Frag}{mg:eV}{base:Heap}
theorem A0 {X:Cx}{pins:bK}{σ:L2.St}{A:Around}{Hb:Hp}{fl:Addr}(la:oI Hb fl)(T:Txt X.mg)(hr:dX 1 A)(he:A.frames=some X.stack):DM X pins σ A Hb fl:=by
 intro Hj s a kS oa ok I sm fa fk ha hk v u r hrow ru Q E h
 obtain ⟨q,rfl,hq⟩:=hrow
 obtain ⟨c',pm,ctv,oc',vsc,tq,l1,l2,l3,l4⟩:=la.same sm
 have e0:=I.env0
 have nf:∀ b,cA X pins Hj b->b ∉ frs X.stack:=fun b fb z=>(List.mem_cons.mp (I.stkSub b z)).elim fb.2.1 fb.2.2.1
 refine wpAny_call (codeAny_mono (AZ (k:=0) (Q:=fun kv H'=>∃ t,Hj t=none/\kv = .ref t/\H'=upd Hj t (.tup [.int r.sum,.ref q])) hr ⟨he,e0.mod,e0.bs,e0.bsz,e0.funs,e0.frf,e0.hok,e0.bare⟩ T l1 l2 l3 l4 ru hq fun t ht=>⟨t,ht,rfl,rfl⟩) fun res s' hq'=>?_)
 cases res with
 | error x=>exact hq'.elim
 | ok fl' =>
  cases fl' with
  | ret ku =>
   obtain ⟨kv,H',os,bare,un,hok,rk,t,ht,rfl,rfl⟩:=hq'
   have I':=I.call' (ch:=[]) os un hok bare (fun b z=>absurd z (by simp))
   exact h _ ku _ s' I' (aC.upd ht) (un.free a oa ha fa.1 (by simp)) (un.free kS ok hk fk.1 (by simp)) (un.keep a oa ha fa.1 (nf a fa) (by simp)) (un.keep kS ok hk fk.1 (nf kS fk) (by simp)) ⟨t,q,rfl,rfl,upd_same,aC.upd ht _ _ hq⟩ rk
  | next=>exact hq'.elim
  | brk=>exact hq'.elim
  | cont=>exact hq'.elim
noncomputable def LT (P:Addr)(H:Hp):Prop:=H P=some (.tbl #[])∨∃ (c':Addr) (oc':Obj) (vsc:d8) (tq:Tok),H P=some (.tbl #[rawInt xL.line,rawInt xL.col,.ref c'])/\H c'=some (pinO c' oc')/\oc'.data = .fields vsc/\vsc[1]?=some (.str qL tq)
theorem LT.same {P:Addr}{H H':Hp}(h:LT P H)(s:aC H H'):LT P H':=by
 rcases h with h | ⟨c',oc',vsc,tq,h1,h2,h3⟩
 ·exact .inl (s _ _ h)
 ·exact .inr ⟨c',oc',vsc,tq,s _ _ h1,s _ _ h2,h3⟩
theorem LT.tbl {Pt:Addr}{H:Hp}(h:LT Pt H):∃ ps,H Pt=some (.tbl ps):=by
 rcases h with h | ⟨_,_,_,_,h,_⟩
 ·exact ⟨_,h⟩
 ·exact ⟨_,h⟩
theorem LT.ne {Pt:Addr}{H:Hp}(h:LT Pt H){a:Addr}{o:HO}(e:H a=some o)(n:∀ ps,o≠.tbl ps):a≠Pt:=fun z=>by
 obtain ⟨ps,e2⟩:=h.tbl
 rw [z,e2] at e
 cases e
 exact n _ rfl
noncomputable def Bm (mg:eV)(base:Heap):Prop:=∃ bm o,mg "__builtins__" = some (.ref bm)/\bm≠builtinsNs/\bm≠mainGlobals/\base.get? bm=some o/\o.cls = .type "module"/\o.dict=some builtinsNs/\o.data = .plain
noncomputable def xD (P:Addr):TE:=fun σ H Q=>LT P H/\∀ (fl:Addr) (H':Hp),dZ P H H'->LT P H'->oI H' fl->Q (.ref fl) H'
theorem xS {X:Cx}{c P:Addr}(hcl:closureFor scL X.env=pure [])(hcode:X.env.code = .ref c)(hq:X.env.qual ++ "<lambda>" = qL)(hC:∀ h,X.K.In h->PySem.W.CodeHd h c P)(hB:Bm X.mg X.base):PE X (.Lambda pL bL scL xL) (xD P):=by
 intro pins s σ H Q I h
 obtain ⟨lt,q⟩:=h
 have hg:s.heap.Ns mainGlobals X.mg:=I.mod.glob.keeps I.bk
 obtain ⟨ps,hP⟩:=lt.tbl
 have gP:s.heap.get? P=some (PySem.W.tabObj ps):=I.hok P _ hP
 have nb:∀ b o,X.base.get? b=some o->b≠P:=fun b o e z=>by have:=(I.bs b o e).2;rw [z,hP] at this;cases this
 have hgP:mainGlobals≠P:=by
  obtain ⟨o,es,ep,e,_⟩:=I.mod.glob
  exact nb _ _ e
 have hb:s.heap.BuiltinsAt X.mg P:=by
  obtain ⟨bm,o,b1,b2,b3,b4,b5,b6,b7⟩:=hB
  exact ⟨bm,o,b1,b2,b3,nb _ _ b4,I.bk _ _ b4,b5,b6,b7⟩
 refine PySem.W.kla_eval rfl ?_
 rw [hq]
 rcases lt with lt | ⟨c',oc',vsc,tq,lt,l2,l3,l4⟩
 ·rw [hP] at lt
  cases lt
  refine PySem.W.kla_makeFunction hcl I.ok.glob hg hcode (hC _ I.kIn) gP trivial rfl hgP hb fun c' ctv h' tk hx hge hlt hrec htb=>?_
  obtain ⟨c2,oc',vsc,tq,e2,hoc,hd,hv⟩:=hrec
  cases e2
  have I1:aF X pins σ (upd H P (.tbl (#[] ++ #[rawInt xL.line,rawInt xL.col,.ref c']))) { s with heap:=h',toks:=tk }:=I.grow hP hx htb
  have nP:P≠c':=fun z=>by
   have:=Heap.lt_size gP
   rw [z] at this
   exact Nat.lt_irrefl _ (Nat.lt_of_lt_of_le this hge)
  have nc':H c'=none:=I.hok.fresh hge
  have fc:=I.fpOk (H':=upd H P (.tbl (#[] ++ #[rawInt xL.line,rawInt xL.col,.ref c']))) hge (by rw [aE nP.symm];exact nc')
  have I2:=I1.adopt (o:=pinO c' oc') fc (tE hoc)
  have zf:s.heap.objs.size<=h'.objs.size:=Nat.le_trans hge (Nat.le_of_lt hlt)
  have I3:=I2.kept (t':=tk) fun b o e=>Heap.get?_push_of_some (oL c' ((X.mg "__name__").getD .none) ctv) e
  have ff:=I2.fpOk (Nat.le_refl h'.objs.size) (I2.hok.fresh (Nat.le_refl _))
  have gf:(h'.push (oL c' ((X.mg "__name__").getD .none) ctv)).get? h'.objs.size=some (oL c' ((X.mg "__name__").getD .none) ctv):=Heap.get?_push_size _ rfl
  have I4:=I3.adopt (o:=pinO h'.objs.size (oL c' ((X.mg "__name__").getD .none) ctv)) ff (tE gf)
  have nfc:c'≠h'.objs.size:=Nat.ne_of_lt hlt
  have nPf:P≠h'.objs.size:=fun z=>by
   have:=Heap.lt_size gP
   rw [z] at this
   exact Nat.lt_irrefl _ (Nat.lt_of_lt_of_le this zf)
  have hc'4:upd (upd (upd H P (.tbl (#[] ++ #[rawInt xL.line,rawInt xL.col,.ref c']))) c' (pinO c' oc')) h'.objs.size (pinO h'.objs.size (oL c' ((X.mg "__name__").getD .none) ctv)) c'=some (pinO c' oc'):=by rw [aE nfc];exact upd_same
  have hP4:upd (upd (upd H P (.tbl (#[] ++ #[rawInt xL.line,rawInt xL.col,.ref c']))) c' (pinO c' oc')) h'.objs.size (pinO h'.objs.size (oL c' ((X.mg "__name__").getD .none) ctv)) P=some (.tbl #[rawInt xL.line,rawInt xL.col,.ref c']):=by rw [aE nPf,aE nP,upd_same];rfl
  refine ⟨.ref h'.objs.size,_,I4,rfl,q _ _ (fun b o nb e=>?_) (.inr ⟨c',oc',vsc,tq,hP4,hc'4,hd,hv⟩) ⟨c',_,ctv,oc',vsc,tq,upd_same,hc'4,hd,hv⟩⟩
  have lb:=I.hok.lt e
  rw [aE (fun z=>by rw [z] at lb;exact Nat.lt_irrefl _ (Nat.lt_of_lt_of_le lb zf)),aE (aG e nc'),aE nb]
  exact e
 ·rw [hP] at lt
  cases lt
  have am:codeAmong xL [rawInt xL.line,rawInt xL.col,.ref c']=some (.ref c'):=by simp [codeAmong,rawInt]
  refine PySem.W.kla_makeFunctionHit (cv:=.ref c') hcl I.ok.glob hg hcode (hC _ I.kIn) gP trivial am hb fun ctv h' tk hk hsz=>?_
  have I3:aF X pins σ H { s with heap:=h'.push (oL c' ((X.mg "__name__").getD .none) ctv),toks:=tk }:=I.kept fun b o e=>Heap.get?_push_of_some _ (hk b o e)
  have nf:=I.hok.fresh hsz
  have ff:=I.fpOk hsz nf
  have gf:(h'.push (oL c' ((X.mg "__name__").getD .none) ctv)).get? h'.objs.size=some (oL c' ((X.mg "__name__").getD .none) ctv):=Heap.get?_push_size _ rfl
  have I4:=I3.adopt (o:=pinO h'.objs.size (oL c' ((X.mg "__name__").getD .none) ctv)) ff (tE gf)
  have sm:aC H (upd H h'.objs.size (pinO h'.objs.size (oL c' ((X.mg "__name__").getD .none) ctv))):=aC.upd nf
  exact ⟨.ref h'.objs.size,_,I4,rfl,q _ _ (fun b o _ e=>sm b o e) (.inr ⟨c',oc',vsc,tq,sm _ _ hP,sm _ _ l2,l3,l4⟩) ⟨c',_,ctv,oc',vsc,tq,upd_same,sm _ _ l2,l3,l4⟩⟩
noncomputable def zU (P:Addr)(ta:TA):TE:=fun σ H Q=>ta σ H fun vs H1=>∃ l xs,vs=[.ref l]/\H1 l=some (.lst xs)/\LT P H1/\(∀ v ∈ xs,∃ r,dD H1 v r) /\
 ∀ l' ys H',dZ P H1 H'->LT P H'->H1 l'=none->H' l'=some (.lst ys)->ys.Perm xs->ys.Pairwise (fun x y=>ltI (keyI (lrowV H1 y)) (keyI (lrowV H1 x))=false)->Q (.ref l') H'
theorem qS {X:Cx}{c P:Addr}{e:Expr}{ta:TA}{p kpos pos:Pos}(hg:Gl X "sorted")(hm:X.mg "sorted" = none)(T:Txt X.mg)(hcl:closureFor scL X.env=pure [])(hcode:X.env.code = .ref c)(hq:X.env.qual ++ "<lambda>" = qL)(hC:∀ h,X.K.In h->PySem.W.CodeHd h c P)(hB:Bm X.mg X.base)(hu:X.A.units + 64 < cLine)(hr:dX 3 X.A)(ha:PA X [e] ta)
  (he:backTo pos (starEach [e] X.env)=(false,eval e X.env) :: backTo pos (starEach [] X.env):=by rfl) (hpl:(backTo pos (starEach [e] X.env)).any (·.1)=false:=by rfl):PE X (.Call (.Name "sorted" p) [e] [⟨some "key",.Lambda pL bL scL xL,kpos⟩] pos) (zU P ta):=by
 intro pins s σ H Q I h
 refine wpAny_Call_Name_kw (iG I hg hm (u:=.builtin "sorted") rfl ?_)
 refine PyProof.Rows.callWith_kw (thn (ha pos pins s σ H _ I h) fun us s1 ⟨vs,H1,I1,r1,q1⟩=>?_) he hpl
 obtain ⟨l,xs,rfl,hl,lt,hrs,q⟩:=q1
 obtain ⟨u,rfl,ru⟩:=aK.one r1
 cases ru
 have pk:PK X [⟨some "key",.Lambda pL bL scL xL,kpos⟩] (tCons (xD P) tNil):=AI (xS hcl hcode hq hC hB) CG
 refine thn (pk pos pins s1 σ H1 (fun vs H2=>∃ fl,vs=[.ref fl]/\dZ P H1 H2/\LT P H2/\oI H2 fl) I1 ⟨lt,fun fl H' b l' la=>⟨fl,rfl,b,l',la⟩⟩) fun kus s2 ⟨kvs,H2,I2,r2,fl,e1,b2,lt2,la⟩=>?_
 subst e1
 obtain ⟨ku,rfl,rku⟩:=aK.one r2
 cases rku
 have keep:∀ v r,dD H1 v r->dD H2 v r:=fun v r ⟨q0,e1,e2⟩=>⟨q0,e1,b2 _ _ (lt.ne e2 fun _=>by simp) e2⟩
 have same:∀ v ∈ xs,lrowV H2 v=lrowV H1 v:=fun v hv=>by
  obtain ⟨r,hr'⟩:=hrs v hv
  rw [dJ hr',dJ (keep v r hr')]
 refine rX (fun Hb sb=>A0 (la.same sb) T hr.in1.in1 I2.ok.frames) hu I2 (b2 _ _ (lt.ne hl fun _=>by simp) hl) (fun v hv=>let ⟨r,hr'⟩:=hrs v hv;⟨r,keep v r hr'⟩) fun l' ys H' sm nl hl' pm pw=>?_
 have nl1:H1 l'=none:=by
  cases e:H1 l' with
  | none=>rfl
  | some o =>
   exfalso
   by_cases z:l'=P
   ·subst z
    obtain ⟨ps,e2⟩:=lt2.tbl
    rw [e2] at nl;cases nl
   ·rw [b2 _ _ z e] at nl;cases nl
 refine q l' ys H' (fun b o nb e=>sm _ _ (b2 b o nb e)) (lt2.same sm) nl1 hl' pm (pw.imp_of_mem fun {x y} hx hy z=>?_)
 rw [same x (pm.mem_iff.mp hx),same y (pm.mem_iff.mp hy)] at z
 exact z
end
section
variable {P:Program}{w:World}{K:PySem.W.Frag}{mg:eV}{base:Heap}
noncomputable def tCutS (t:TS):TS:=fun D σ H=>∃ P:St->Hp->Prop,(∀ σ' H',P σ' H'->D.nx σ' H')/\t { D with nx:=P } σ H
theorem CF {X:Cx}{st:Stmt}{t:TS}(h:PS X st t):PS X st (tCutS t):=fun pins s σ H D I ⟨P,k,q⟩ =>
 thn (h pins s σ H _ I q) fun f s' z=>by
  cases f with
  | next =>
   obtain ⟨σ',H',I',p⟩:=z
   exact ⟨σ',H',I',k _ _ p⟩
  | _=>exact z
noncomputable def spEq3:Sp:=fun vs H Q _=>∃ p:Addr,vs=[.ref p]/\eI H p/\∀ (t a b:Addr) (ls rs:List Int) (H':Hp),dZ p H H'->eI H' p->H' t=some (.tup [.ref a,.ref b])->H' a=some (.lst (ls.map V.int))->H' b=some (.lst (rs.map V.int))->bV ls->bV rs->0 < ls.length + rs.length->a≠p->b≠p->Q (.ref t) H'
noncomputable def E5 (p:Addr)(H:Hp)(i:Nat)(acc:List V)(σ:St)(H':Hp):Prop:=∃ (ns:List Int) (o:Option V),acc=ns.map V.int/\ns.length=i/\(∀ n ∈ ns,1<=n/\n<=4)/\dZ p H H'/\eI H' p/\σ=[o,some (.ref p)]
theorem yI {H:Hp}{a:Addr}{xs:List V}{n:Nat}(h:H a=some (.lst xs))(e:xs.length=n):(Option.map (fun (n:Int)=>V.int n) do
  let a ← lenV H (.ref a)
  pure (a:Int))=some (V.int (n:Int)):=by rw [lenV_l h,e];rfl
theorem DX {H:Hp}{Q:VK}{i j:Int}(q:Q (.bl (decide (i=j))) H):rEqD (.int i) (.int j) H Q:=by rw [rEqD_ii];exact q
theorem CT {f:Addr}{fd:FuncData}(F:mW K "_law_equation" "_law_equation" aY f fd)(T:Txt mg)(O__law_take:gB P w K mg base cT 1 "_law_take" sS):dE P w K mg base cT 2 f fd dP spEq3:=by
 refine F.ok bQ (fun vs H Q E h=>?_) (fun cdv A outer s H vs Q E hr h=>?_)
 ·obtain ⟨p,rfl,_⟩:=h
  rfl
 ·obtain ⟨p,rfl,hp,q⟩:=h
  have hu:=hr.units
  refine ⟨_,(aP (CF (lG (gM (tG hu) (bF O__law_take (hr.mono (by decide)) pass0 rfl (aA (pv 0) (aA aH aD))) aH (nomark _)) (aO (pA (i:=1) bQ.nd rfl rfl rfl rfl (aV.by (N:=dQ) (names:=(aB aY).names) (N':=["_law_k","_law_pot_here"]) (src:=[none,some 0]) (by decide +kernel) rfl rfl) (jK rfl T.n_range (aA (aT aZ aH (bF O__law_take (hr.mono (by decide)) pass0 rfl (aA (pv 0) (aA aH aD)))) aD)) (fun _ _ _ _=>(aW (i:=0) (show List.Nodup (["_law_k","_law_pot_here"]:bE) by decide +kernel) rfl (Or.inl rfl))) (fun _ _ _ _=>bP) (fun _ _ _ _=>(aT aZ aH (bF O__law_take (hr.mono (by decide)) pass0 rfl (aA (pv 1) (aA aH aD))))))) (aO (pA (i:=1) bQ.nd rfl rfl rfl rfl (aV.by (N:=dQ) (names:=(aB aY).names) (N':=["_law_k","_law_pot_here"]) (src:=[none,some 0]) (by decide +kernel) rfl rfl) (jK rfl T.n_range (aA (aT aZ aH (bF O__law_take (hr.mono (by decide)) pass0 rfl (aA (pv 0) (aA aH aD)))) aD)) (fun _ _ _ _=>(aW (i:=0) (show List.Nodup (["_law_k","_law_pot_here"]:bE) by decide +kernel) rfl (Or.inl rfl))) (fun _ _ _ _=>bP) (fun _ _ _ _=>(aT aZ aH (bF O__law_take (hr.mono (by decide)) pass0 rfl (aA (pv 1) (aA aH aD)))))))))
   (aP (eA (i:=2) bQ.nd rfl (Or.inl rfl) (aQ (oC rfl) rfl T.n_max rfl (aA aH (aA (aT lK (aQ d6 rfl T.n_len rfl (aA (pv 1) aD)) aH) aD))))
   (aP (eA (i:=3) bQ.nd rfl (Or.inl rfl) (aT aZ (pv 2) (bF O__law_take (hr.mono (by decide)) pass0 rfl (aA (pv 0) (aA (aT aZ (aT lK (aQ (wQ rfl) rfl T.n_min rfl (aA aH (aA (aQ d6 rfl T.n_len rfl (aA (pv 1) aD)) aD))) (pv 2)) aH) aD)))))
   (aO (bR (eK (aA (iX oU (pv 1) kQ (kP (pv 3))) (aA (iX oU (pv 1) (kP (pv 3)) kQ) aD)))))))),?_⟩
  clear hr F T O__law_take hu
  simp only [eP]
  refine ⟨fun σ H'=>∃ (l:Addr) (ns:List Int) (o2 o3:Option V),σ=[some (.ref p),some (.ref l),o2,o3]/\dZ p H H'/\eI H' p/\H' l=some (.lst (ns.map V.int))/\l≠p/\1<=ns.length/\ns.length<=8/\∀ n ∈ ns,1<=n/\n<=4,?_,?_⟩
  rotate_left
  ·refine ⟨_,rfl,p,4,rfl,hp,by decide,by decide,fun d x1 y1 d0 d1=>?_⟩
   have b1:=dZ.upd p H (.lst [.int x1,.int y1])
   have p1:eI (upd H p (.lst [.int x1,.int y1])) p:=⟨_,_,upd_same⟩
   generalize upd H p (.lst [.int x1,.int y1])=H1 at b1 p1 ⊢
   dsimp only [tC]
   refine DX ⟨_,rfl,iH (fun e=>?_) fun e=>?_⟩
   ·refine ⟨_,rfl,p,2,rfl,p1,by decide,by decide,fun d2 x2 y2 d20 d21=>.inl ⟨_,rfl,_,rfl,by omega,by omega,?_⟩⟩
    have b2:=b1.trans (dZ.upd p H1 (.lst [.int x2,.int y2]))
    have p2:eI (upd H1 p (.lst [.int x2,.int y2])) p:=⟨_,_,upd_same⟩
    generalize upd H1 p (.lst [.int x2,.int y2])=H2 at b2 p2 ⊢
    refine fU (E5 p H) ⟨[],none,rfl,rfl,by simp,b2,p2,rfl⟩ ?_ ?_
    ·rintro i acc σ H3 hi ⟨ns,o,rfl,hl,hn,b3,p3,rfl⟩
     refine ⟨_,rfl,p,2,rfl,p3,by decide,by decide,fun d3 x4 y4 d30 d31=>.inl ⟨_,rfl,?_,ns ++ [1 + d3],_,by simp,by simp [hl],fun m hm=>?_,b3.trans (dZ.upd p H3 _),⟨_,_,upd_same⟩,rfl⟩⟩
     ·exact Nat.lt_of_le_of_lt (m:=10) (by rw [List.length_map];omega) (by decide)
     ·rcases List.mem_append.mp hm with h | h
      ·exact hn m h
      ·rw [List.mem_singleton.mp h];omega
    ·rintro acc σ H3 ⟨ns,o,rfl,hl,hn,b3,p3,rfl⟩ c hc
     exact ⟨c,ns,_,_,rfl,b3.trans (dZ.new hc),p3.but (p3.ne hc),upd_same,(p3.ne hc).symm,by omega,by omega,hn⟩
   ·refine ⟨_,rfl,p,6,rfl,p1,by decide,by decide,fun d2 x2 y2 d20 d21=>.inl ⟨_,rfl,_,rfl,by omega,by omega,?_⟩⟩
    have b2:=b1.trans (dZ.upd p H1 (.lst [.int x2,.int y2]))
    have p2:eI (upd H1 p (.lst [.int x2,.int y2])) p:=⟨_,_,upd_same⟩
    generalize upd H1 p (.lst [.int x2,.int y2])=H2 at b2 p2 ⊢
    refine fU (E5 p H) ⟨[],none,rfl,rfl,by simp,b2,p2,rfl⟩ ?_ ?_
    ·rintro i acc σ H3 hi ⟨ns,o,rfl,hl,hn,b3,p3,rfl⟩
     refine ⟨_,rfl,p,4,rfl,p3,by decide,by decide,fun d3 x4 y4 d30 d31=>.inl ⟨_,rfl,?_,ns ++ [1 + d3],_,by simp,by simp [hl],fun m hm=>?_,b3.trans (dZ.upd p H3 _),⟨_,_,upd_same⟩,rfl⟩⟩
     ·exact Nat.lt_of_le_of_lt (m:=10) (by rw [List.length_map];omega) (by decide)
     ·rcases List.mem_append.mp hm with h | h
      ·exact hn m h
      ·rw [List.mem_singleton.mp h];omega
    ·rintro acc σ H3 ⟨ns,o,rfl,hl,hn,b3,p3,rfl⟩ c hc
     exact ⟨c,ns,_,_,rfl,b3.trans (dZ.new hc),p3.but (p3.ne hc),upd_same,(p3.ne hc).symm,by omega,by omega,hn⟩
  ·rintro σ H1 ⟨l,ns,o2,o3,rfl,b1,p1,hl,nlp,n1,n8,hn⟩
   have ln:(ns.map V.int).length=ns.length:=List.length_map _
   refine ⟨_,rfl,_,_,rfl,yI hl ln,_,_,rfl,rfl,_,_,rfl,?_⟩
   obtain ⟨k0,e0,k1,k2⟩:∃ k0:Nat,(if (ns.length:Int) - 4 > 0 then (ns.length:Int) - 4 else 0)=(k0:Int)/\ns.length<=k0 + 4/\(k0=0∨k0 + 4=ns.length):=by
    by_cases z:(ns.length:Int) - 4 > 0
    ·exact ⟨ns.length - 4,by rw [if_pos z];omega,by omega,by omega⟩
    ·exact ⟨0,by rw [if_neg z];rfl,by omega,.inl rfl⟩
   rw [e0]
   obtain ⟨m0,f0,m1,m2⟩:∃ m0:Nat,(if (ns.length:Int) < 4 then (ns.length:Int) else 4)=(m0:Int)/\m0<=4/\(m0=4∨m0=ns.length)/\m0<=ns.length:=by
    by_cases z:(ns.length:Int) < 4
    ·exact ⟨ns.length,by rw [if_pos z],by omega,.inr rfl,Nat.le_refl _⟩
    ·exact ⟨4,by rw [if_neg z];rfl,by decide,.inl rfl,by omega⟩
   refine ⟨_,rfl,_,rfl,_,rfl,_,_,rfl,yI hl ln,_,_,rfl,?_⟩
   rw [f0]
   refine ⟨_,rfl,_,_,rfl,rfl,.inl ⟨_,rfl,p,(m0:Int) - k0 + 1,rfl,p1,by omega,by omega,fun d x2 y2 d0 d1=>.inl ⟨_,rfl,?_⟩⟩⟩
   have b2:=b1.trans (dZ.upd p H1 (.lst [.int x2,.int y2]))
   have p2:eI (upd H1 p (.lst [.int x2,.int y2])) p:=⟨_,_,upd_same⟩
   have hl2:upd H1 p (.lst [.int x2,.int y2]) l=some (.lst (ns.map V.int)):=by rw [aE nlp];exact hl
   generalize upd H1 p (.lst [.int x2,.int y2])=H2 at b2 p2 hl2 ⊢
   obtain ⟨k,ek⟩:∃ k:Nat,(k0:Int) + d=k:=⟨k0 + d.toNat,by omega⟩
   rw [ek]
   refine ⟨_,rfl,_,rfl,_,rfl,l,_,rfl,.inl hl2,fun ⟨ys,z⟩=>(by rw [hl2] at z;cases z),fun p3 o3 hp3 ho3=>?_⟩
   obtain rfl:o3 = .lst ((ns.take k).map V.int):=by
    rcases ho3 with ⟨rfl,_⟩ | ⟨_,z⟩
    ·rw [rN,List.map_take]
    ·rw [hl2] at z;cases z
   have b3:=b2.trans (dZ.new (o:=.lst ((ns.take k).map V.int)) hp3)
   have g3:upd H2 p3 (.lst ((ns.take k).map V.int)) p3=some (.lst ((ns.take k).map V.int)):=upd_same
   have np3:=p2.ne hp3
   have p3':=p2.but (o:=.lst ((ns.take k).map V.int)) np3
   have hl3:=aC.upd (o:=.lst ((ns.take k).map V.int)) hp3 _ _ hl2
   generalize upd H2 p3 (.lst ((ns.take k).map V.int))=H3 at b3 g3 p3' hl3 ⊢
   refine ⟨_,rfl,_,rfl,_,rfl,l,_,rfl,.inl hl3,fun ⟨ys,z⟩=>(by rw [hl3] at z;cases z),fun p4 o4 hp4 ho4=>?_⟩
   obtain rfl:o4 = .lst ((ns.drop k).map V.int):=by
    rcases ho4 with ⟨rfl,_⟩ | ⟨_,z⟩
    ·rw [rO,List.map_drop]
    ·rw [hl3] at z;cases z
   have b4:=b3.trans (dZ.new (o:=.lst ((ns.drop k).map V.int)) hp4)
   have g4:upd H3 p4 (.lst ((ns.drop k).map V.int)) p4=some (.lst ((ns.drop k).map V.int)):=upd_same
   have np4:=p3'.ne hp4
   have p4':=p3'.but (o:=.lst ((ns.drop k).map V.int)) np4
   have g34:=aC.upd (o:=.lst ((ns.drop k).map V.int)) hp4 _ _ g3
   generalize upd H3 p4 (.lst ((ns.drop k).map V.int))=H4 at b4 g4 p4' g34 ⊢
   refine ⟨show 2<=sizeLine by decide,fun t ht=>?_⟩
   have st:=aC.upd (o:=.tup [.ref p3,.ref p4]) ht
   refine q t p3 p4 (ns.take k) (ns.drop k) _ (b4.trans (dZ.new ht)) (p4'.but (p4'.ne ht)) upd_same (st _ _ g34) (st _ _ g4) ⟨by rw [List.length_take];omega,fun n h=>hn n (List.mem_of_mem_take h)⟩ ⟨by rw [List.length_drop];omega,fun n h=>hn n (List.mem_of_mem_drop h)⟩ (by rw [List.length_take,List.length_drop];omega) np3.symm np4.symm
end
section
variable {P:Program}{w:World}{K:PySem.W.Frag}{mg:eV}{base:Heap}
noncomputable def nxt (m:Nat)(ps:List (List Nat)):List (List Nat):=ps.flatMap fun x=>(List.range (m + 1)).map fun k=>x ++ [k]
noncomputable def allR (m:Nat):Nat->List (List Nat)
 | 0=>[[]]
 | n + 1=>nxt m (allR m n)
theorem uL (m:Nat)(ps:List (List Nat)):(nxt m ps).length=ps.length * (m + 1):=by
 unfold nxt
 induction ps with
 | nil=>simp
 | cons x ps ih=>rw [List.flatMap_cons,List.length_append,ih,List.length_map,List.length_range,List.length_cons,Nat.succ_mul,Nat.add_comm]
theorem sD {m:Nat}(h:m<=4):∀ n,n<=4->(allR m n).length<=5 ^ n
 | 0,_=>by simp [allR]
 | n + 1,k=>by
  have ih:=sD h n (by omega)
  rw [allR,uL,Nat.pow_succ]
  exact Nat.mul_le_mul ih (by omega)
theorem mJ {m n:Nat}(h:m<=4)(k:n<=4):(allR m n).length<=625:=Nat.le_trans (sD h n k) (Nat.pow_le_pow_right (n:=5) (by decide) k)
theorem cK {m:Nat}:∀ {n:Nat} {x:List Nat},x ∈ allR m n ↔ x.length=n/\∀ v ∈ x,v<=m
 | 0,x=>by
  simp only [allR,List.mem_singleton]
  constructor
  ·rintro rfl
   exact ⟨rfl,fun v h=>nomatch h⟩
  ·rintro ⟨h,_⟩
   exact List.length_eq_zero_iff.mp h
 | n + 1,x=>by
  simp only [allR,nxt,List.mem_flatMap,List.mem_map,List.mem_range]
  constructor
  ·rintro ⟨y,hy,k,hk,rfl⟩
   obtain ⟨h1,h2⟩:=cK.mp hy
   refine ⟨by simp [h1],fun v hv=>?_⟩
   rcases List.mem_append.mp hv with a | a
   ·exact h2 v a
   ·rw [List.mem_singleton.mp a];omega
  ·rintro ⟨h1,h2⟩
   have ne:x≠[]:=fun z=>by rw [z] at h1;simp at h1
   refine ⟨x.dropLast,cK.mpr ⟨by rw [List.length_dropLast];omega,fun v hv=>h2 v (List.dropLast_subset _ hv)⟩,x.getLast ne,by have:=h2 _ (List.getLast_mem ne);omega,List.dropLast_concat_getLast ne⟩
noncomputable def D8 (H0:Hp)(ns:List Int)(H:Hp)(v:V)(x:List Nat):Prop:=∃ t r,v = .ref t/\H t=some (.tup [.ref r,.int (dotZ ns (nI x))])/\H r=some (.lst ((nI x).map V.int))/\H0 r=none
noncomputable abbrev mM (H0:Hp)(ns:List Int)(H:Hp):List V->List (List Nat)->Prop:=Paired (D8 H0 ns H)
theorem mM.same {H0:Hp}{ns:List Int}{H H':Hp}{qs:List V}{ps:List (List Nat)}(h:mM H0 ns H qs ps)(s:aC H H'):mM H0 ns H' qs ps:=Paired.mapP h fun _ _ ⟨t,r,a,b,c,d⟩=>⟨t,r,a,s _ _ b,s _ _ c,d⟩
noncomputable def D9 (H0:Hp)(g:Addr)(ns:List Int)(H:Hp)(v:V)(x:List Nat):Prop:=∃ t r,v = .ref t/\H t=some (.tup [.ref r,.int (dotZ ns (nI x))])/\H r=some (.lst ((nI x).map V.int))/\r≠g/\H0 r=none
noncomputable abbrev eN (H0:Hp)(g:Addr)(ns:List Int)(H:Hp):List V->List (List Nat)->Prop:=Paired (D9 H0 g ns H)
theorem eN.same {H0:Hp}{g:Addr}{ns:List Int}{H H':Hp}{qs:List V}{ps:List (List Nat)}(h:eN H0 g ns H qs ps)(s:aC H H'):eN H0 g ns H' qs ps:=Paired.mapP h fun _ _ ⟨t,r,a,b,c,d,f⟩=>⟨t,r,a,s _ _ b,s _ _ c,d,f⟩
theorem eN.put {H0:Hp}{g:Addr}{ns:List Int}{H:Hp}{o:HO}{gs:List V}(hg:H g=some (.lst gs)){qs:List V}{ps:List (List Nat)}(h:eN H0 g ns H qs ps):eN H0 g ns (upd H g o) qs ps:=Paired.mapP h fun _ _ ⟨t,r,a,b,c,d,f⟩=>⟨t,r,a,by rw [aE (fun z=>by rw [z,hg] at b;cases b)];exact b,by rw [aE d];exact c,d,f⟩
theorem eN.out {H0:Hp}{g:Addr}{ns:List Int}{H:Hp}{qs:List V}{ps:List (List Nat)}(h:eN H0 g ns H qs ps):mM H0 ns H qs ps:=Paired.mapP h fun _ _ ⟨t,r,a,b,c,_,d⟩=>⟨t,r,a,b,c,d⟩
noncomputable def oQ:Sp:=fun vs H Q _=>∃ (c:Addr) (ns:List Int) (m:Nat),vs=[.ref c,.int m]/\H c=some (.lst (ns.map V.int))/\bV ns/\m<=4/\∀ (l:Addr) (qs:List V) (H':Hp),aC H H'->H l=none->H' l=some (.lst qs)->mM H ns H' qs (allR m ns.length)->Q (.ref l) H'
noncomputable def OI (c:Addr)(m:Nat)(ns:List Int)(H:Hp)(i:Nat)(σ:St)(H':Hp):Prop:=∃ (f:Addr) (qs:List V) (o3 o4 o5 o6:Option V),σ=[some (.ref c),some (.int m),some (.ref f),o3,o4,o5,o6]/\aC H H'/\H f=none/\H' f=some (.lst qs)/\mM H (ns.take i) H' qs (allR m i)
noncomputable def II (H0:Hp)(c:Addr)(m:Nat)(ns':List Int)(n:Int)(f g:Addr)(ps:List (List Nat))(H:Hp)(j:Nat)(σ:St)(H':Hp):Prop:=∃ (gs:List V) (o5 o6:Option V),σ=[some (.ref c),some (.int m),some (.ref f),some (.int n),some (.ref g),o5,o6]/\dZ g H H'/\H' g=some (.lst gs)/\eN H0 g ns' H' gs (nxt m (ps.take j))
noncomputable def E9 (H0:Hp)(g:Addr)(ns':List Int)(n come:Int)(r:Addr)(x:List Nat)(H:Hp)(i:Nat)(acc:List V)(σ:St)(H':Hp):Prop:=∃ o:Option V,σ=[o,some (.int n),some (.ref r),some (.int come)]/\aC H H'/\eN H0 g ns' H' acc ((List.range i).map fun k=>x ++ [k])
theorem wK {as bs:List Int}{a b:Int}(h:as.length=bs.length):dotZ (as ++ [a]) (bs ++ [b])=dotZ as bs + a * b:=by
 unfold dotZ
 rw [List.zip_append h,List.map_append,List.sum_append]
 simp
theorem yA (m:Nat)(ps:List (List Nat))(x:List Nat):nxt m (ps ++ [x])=nxt m ps ++ (List.range (m + 1)).map fun k=>x ++ [k]:=by
 unfold nxt
 rw [List.flatMap_append]
 simp
theorem x6 {f:Addr}{fd:FuncData}(F:mW K "_law_rows" "_law_rows" bT f fd)(T:Txt mg):dE P w K mg base cT 1 f fd gA oQ:=by
 refine F.ok bU (fun vs H Q E h=>?_) (fun cdv A outer s H vs Q E hr h=>?_)
 ·obtain ⟨c,ns,m,rfl,_⟩:=h
  rfl
 ·obtain ⟨c,ns,m,rfl,hc,cn,m4,q⟩:=h
  refine ⟨_,(aP (eA (i:=2) bU.nd rfl (Or.inl rfl) (cW (aA (eK (aA (cW aD) (aA aH aD))) aD)))
   (aP (iC PassesOwn.never rfl (cV K rfl (pv 0)) (aW (i:=3) bU.nd rfl (Or.inr rfl)) (aP (eA (i:=4) bU.nd rfl (Or.inl rfl) (cW aD))
   (aP (iC PassesOwn.never rfl (cV K rfl (pv 2)) (jL rfl (bX (aW (i:=5) bU.nd rfl (Or.inr rfl)) (bX (aW (i:=6) bU.nd rfl (Or.inr rfl)) gO))) (aO (iW (uH PySem.F.plainAttrs_list PySem.F.slot_list_extend PySem.F.type_list_extend jQ (pv 4) (aA (cE rfl (aV.by (N:=kH) (names:=(aB bT).names) (N':=["_law_k","_law_count","_law_row","_law_come"]) (src:=[none,some 3,some 5,some 6]) (by decide +kernel) rfl rfl) (jK rfl T.n_range (aA (aT aZ (pv 1) aH) aD)) (fun _ _ _ _=>(aW (i:=0) (show List.Nodup (["_law_k","_law_count","_law_row","_law_come"]:bE) by decide +kernel) rfl (Or.inl rfl))) (fun _ _ _ _=>bP) (fun _ _ _ _=>(eK (aA (aT aZ (pv 2) (cW (aA (pv 0) aD))) (aA (aT aZ (pv 3) (aT (iE.or lM) (pv 0) (pv 1))) aD))))) aD)))))
   (aO (eA (i:=2) bU.nd rfl (Or.inl rfl) (pv 4))))))
   (aO (bR (pv 2))))),?_⟩
  clear hr F T
  simp only [eP,kN]
  have big:(10000:Nat)<=sizeLine:=by decide
  refine ⟨Nat.zero_le _,fun r0 hr0=>⟨show 2<=sizeLine by decide,fun t0 ht0=>⟨show 1<=sizeLine by decide,fun f0 hf0=>?_⟩⟩⟩
  have s1:aC H (upd (upd (upd H r0 (.lst [])) t0 (.tup [.ref r0,.int 0])) f0 (.lst [.ref t0])):=(aC.upd hr0).trans ((aC.upd ht0).trans (aC.upd hf0))
  have nf:H f0=none:=dW ((aC.upd hr0).trans (aC.upd ht0)) hf0
  have pr:mM H (ns.take 0) (upd (upd (upd H r0 (.lst [])) t0 (.tup [.ref r0,.int 0])) f0 (.lst [.ref t0])) [.ref t0] (allR m 0):=.cons ⟨t0,r0,rfl,aC.upd hf0 _ _ upd_same,aC.upd hf0 _ _ (aC.upd ht0 _ _ upd_same),hr0⟩ .nil
  have g1:upd (upd (upd H r0 (.lst [])) t0 (.tup [.ref r0,.int 0])) f0 (.lst [.ref t0]) f0=some (.lst [.ref t0]):=upd_same
  generalize upd (upd (upd H r0 (.lst [])) t0 (.tup [.ref r0,.int 0])) f0 (.lst [.ref t0])=H1 at s1 pr g1 ⊢
  refine ⟨_,rfl,c,_,rfl,.inl (s1 _ _ hc),fun J hJ=>?_⟩
  refine jB hJ (OI c m ns H) ⟨f0,_,_,_,_,_,rfl,s1,nf,g1,pr⟩ (fun i σ H' _ ⟨_,_,_,_,_,_,_,s,_⟩=>by rw [s1 _ _ hc];exact s _ _ hc) ?_ ?_
  ·rintro i v σ H2 hv ⟨f,qs,o3,o4,o5,o6,rfl,s2,nf2,hf2,ps2⟩
   rw [List.getElem?_map] at hv
   obtain ⟨n,hn,rfl⟩:=Option.map_eq_some_iff.mp hv
   have il:=K42.lt_of hn
   have c4:=cn.1
   have nb:=cn.2 n (List.mem_of_getElem? hn)
   refine ⟨Nat.zero_le _,fun g hg=>?_⟩
   have s3:aC H2 (upd H2 g (.lst [])):=aC.upd hg
   have gg:upd H2 g (.lst []) g=some (.lst []):=upd_same
   have ng:H g=none:=dW s2 hg
   have nfg:f≠g:=aG hf2 hg
   generalize upd H2 g (.lst [])=H3 at s3 gg ⊢
   have hf3:=s3 _ _ hf2
   have ps3:=ps2.same s3
   have neG:∀ {d:Addr} {o:HO},H2 d=some o->d≠g:=fun {d o} e=>aG e hg
   refine ⟨_,rfl,f,qs,rfl,.inl hf3,fun J' hJ'=>?_⟩
   refine jB hJ' (II H c m (ns.take (i + 1)) n f g (allR m i) H3) ⟨[],_,_,rfl,dZ.refl _ _,gg,.nil⟩ (fun j σ H' _ ⟨_,_,_,_,bt,_⟩=>by rw [hf3];exact bt _ _ nfg hf3) ?_ ?_
   ·rintro j v σ H4 hv ⟨gs,o5,o6,rfl,bt,hg4,gp⟩
    obtain ⟨x,hx,t,r,rfl,ht2,hr2,_⟩:=pget' ps2 hv
    obtain ⟨xl,_⟩:=cK.mp (List.mem_of_getElem? hx)
    have ht4:=bt _ _ (neG ht2) (s3 _ _ ht2)
    have hr4:=bt _ _ (neG hr2) (s3 _ _ hr2)
    refine ⟨t,_,rfl,d7.of ht4,rfl,_,_,rfl,_,_,rfl,rfl,?_⟩
    refine ⟨_,rfl,tyL hg4,_,rfl,.inl ⟨_,rfl,_,rfl,by omega,by omega,?_⟩⟩
    have r4:=mJ m4 (show i<=4 by omega)
    have tk:ns.take (i + 1)=ns.take i ++ [n]:=aM hn
    have lt:(ns.take i).length=(nI x).length:=by rw [List.length_take,eB,xl];omega
    refine fU (E9 H g (ns.take (i + 1)) n (dotZ (ns.take i) (nI x)) r x H4) ⟨none,rfl,aC.refl _,.nil⟩ ?_ ?_
    ·rintro k acc σ H5 hk ⟨o,rfl,s5,pa⟩
     have kl:k < m + 1:=by omega
     rw [Int.zero_add]
     refine ⟨_,rfl,_,rfl,show 1<=sizeLine by decide,fun a ha=>?_⟩
     have s6:aC H5 (upd H5 a (.lst [.int k])):=aC.upd ha
     have g6:upd H5 a (.lst [.int k]) a=some (.lst [.int k]):=upd_same
     generalize upd H5 a (.lst [.int k])=H6 at s6 g6 ⊢
     refine .inr ⟨_,gZ (s6 _ _ (s5 _ _ hr4)) g6 (by simp only [List.length_map,List.length_cons,List.length_nil,eB];omega),fun b hb=>?_⟩
     have s7:=s6.trans (aC.upd (o:=.lst ((nI x).map V.int ++ [.int k])) hb)
     have g7:upd H6 b (.lst ((nI x).map V.int ++ [.int k])) b=some (.lst ((nI (x ++ [k])).map V.int)):=by rw [upd_same];unfold nI;simp
     generalize upd H6 b (.lst ((nI x).map V.int ++ [.int k]))=H7 at s7 g7 ⊢
     refine ⟨_,rfl,_,rfl,_,rfl,.inl ⟨_,_,rfl,rfl,.inr ⟨by omega,by omega⟩,.inl ⟨_,rfl,show 2<=sizeLine by decide,fun t' ht'=>?_⟩⟩⟩
     have sT:=s7.trans (aC.upd (o:=.tup [.ref b,.int (dotZ (ns.take i) (nI x) + (k:Int) * n)]) ht')
     have lp:=plen pa
     rw [List.length_map,List.length_range] at lp
     refine ⟨by omega,_,rfl,s5.trans sT,?_⟩
     have fresh:H b=none:=by
      cases e:H b with
      | none=>rfl
      | some o =>
       rw [s6 _ _ (s5 _ _ (bt _ _ (fun z=>by rw [z,ng] at e;cases e) (s3 _ _ (s2 _ _ e))))] at hb
       cases hb
     rw [List.range_succ,List.map_append]
     refine Paired.snoc (pa.same sT) ⟨t',b,rfl,?_,aC.upd ht' _ _ g7,(fun z=>by rw [z,s6 _ _ (s5 _ _ hg4)] at hb;cases hb),fresh⟩
     have e:dotZ (ns.take (i + 1)) (nI (x ++ [k]))=dotZ (ns.take i) (nI x) + (k:Int) * n:=by
      rw [tk,show nI (x ++ [k])=nI x ++ [(k:Int)] by unfold nI;simp,wK lt,Int.mul_comm]
     dsimp only
     rw [e]
     exact upd_same
    ·rintro acc σ H5 ⟨o,rfl,s5,pa⟩ p6 hp6
     have pm:((m:Int) + 1).toNat=m + 1:=by omega
     rw [pm] at pa
     have lp:=plen pa
     rw [List.length_map,List.length_range] at lp
     have lg:=plen gp
     rw [uL] at lg
     have lj:=List.length_take_le' j (allR m i)
     have s6:=s5.trans (aC.upd (o:=.lst acc) hp6)
     have big2:gs.length<=625 * 5:=by rw [lg];exact Nat.mul_le_mul (by omega) (by omega)
     refine ⟨g,p6,gs,acc,rfl,rfl,s6 _ _ hg4,upd_same,by omega,?_⟩
     have gF:=s6 _ _ hg4
     refine ⟨_,_,_,rfl,(bt.trans s6.but).trans (dZ.upd _ _ _),upd_same,?_⟩
     rw [aM hx,yA]
     exact papp ((gp.same s6).put gF) ((pa.same (aC.upd hp6)).put gF)
   ·rintro σ H4 ⟨gs,o5,o6,rfl,bt,hg4,gp⟩
    rw [plen ps2,List.take_length] at gp
    refine ⟨_,rfl,g,gs,_,_,_,_,rfl,fun d o e=>?_,ng,hg4,gp.out⟩
    exact bt _ _ (fun z=>by rw [z,ng] at e;cases e) (s3 _ _ (s2 _ _ e))
  ·rintro σ H2 ⟨f,qs,o3,o4,o5,o6,rfl,s2,nf2,hf2,ps2⟩
   rw [List.length_map,List.take_length] at ps2
   exact ⟨_,rfl,q f qs H2 s2 nf2 hf2 ps2⟩
end
section
variable {P:Program}{w:World}{K:PySem.W.Frag}{mg:eV}{base:Heap}
noncomputable def mU (ps:List (List Nat))(x:List Nat):Prop:=x ∈ ps/\∀ y ∈ ps,K42.lew y x->y=x
theorem yD (ps:List (List Nat)):∀ (k:Nat) (x:List Nat),K42.tot x<=k->x ∈ ps->∃ t,mU ps t/\K42.lew t x
 | 0,x,h,m=>by
  refine ⟨x,⟨m,fun y hy l=>?_⟩,K42.lew_refl x⟩
  exact K42.lew_eq l (by have:=K42.lew_tot l;omega)
 | k + 1,x,h,m=>by
  by_cases q:∃ y ∈ ps,K42.lew y x/\y≠x
  ·obtain ⟨y,hy,l,ne⟩:=q
   have lt:K42.tot y < K42.tot x:=by
    have:=K42.lew_tot l
    rcases Nat.lt_or_ge (K42.tot y) (K42.tot x) with a | a
    ·exact a
    ·exact absurd (K42.lew_eq l a) ne
   obtain ⟨t,mt,lt'⟩:=yD ps k y (by omega) hy
   exact ⟨t,mt,K42.lew_trans lt' l⟩
  ·exact ⟨x,⟨m,fun y hy l=>Classical.byContradiction fun ne=>q ⟨y,hy,l,ne⟩⟩,K42.lew_refl x⟩
theorem C5 {x y:List Nat}(h:K42.tot x < K42.tot y):ltI (keyI (nI x)) (keyI (nI y))=true:=by
 have s:∀ z:List Nat,(nI z).sum=(K42.tot z:Int):=fun z=>by
  induction z with
  | nil=>rfl
  | cons v z ih =>
   simp only [nI,List.map_cons,List.sum_cons,K42.tot] at ih ⊢
   omega
 unfold keyI
 rw [ltI,s,s,if_neg (by omega)]
 refine decide_eq_true ?_
 omega
structure w8 (zs:List (List Nat))(i:Nat)(fd:List (List Nat)):Prop where
 nd:fd.Nodup
 is:∀ x,x ∈ fd ↔ x ∈ zs.take i/\mU zs x
theorem w8.nil (zs:List (List Nat)):w8 zs 0 []:=⟨List.nodup_nil,fun x=>by simp⟩
theorem w8.drop {zs fd:List (List Nat)}{i:Nat}{x:List Nat}(g:w8 zs i fd)(hx:zs[i]?=some x)(h:∃ y ∈ fd,K42.lew y x):w8 zs (i + 1) fd:=by
 refine ⟨g.nd,fun z=>?_⟩
 rw [g.is,aM hx,List.mem_append,List.mem_singleton]
 constructor
 ·exact fun ⟨a,b⟩=>⟨.inl a,b⟩
 ·rintro ⟨a | rfl,b⟩
  ·exact ⟨a,b⟩
  ·obtain ⟨y,hy,l⟩:=h
   have e:=b.2 y ((g.is y).mp hy).2.1 l
   subst e
   exact (g.is y).mp hy
theorem w8.take {zs fd:List (List Nat)}{i:Nat}{x:List Nat}(g:w8 zs i fd)(so:zs.Pairwise fun a b=>ltI (keyI (nI b)) (keyI (nI a))=false)(hx:zs[i]?=some x)(h:∀ y ∈ fd,¬ K42.lew y x):w8 zs (i + 1) (fd ++ [x]):=by
 have xm:x ∈ zs:=List.mem_of_getElem? hx
 have before:∀ t ∈ zs,K42.tot t < K42.tot x->t ∈ zs.take i:=fun t ht lt=>by
  obtain ⟨k,hk⟩:=List.getElem?_of_mem ht
  by_cases ki:k < i
  ·exact List.mem_of_getElem? (i:=k) (by rw [List.getElem?_take,if_pos ki];exact hk)
  ·exfalso
   by_cases e:k=i
   ·subst e
    rw [hx] at hk
    cases hk
    omega
   ·obtain ⟨l1,e1⟩:=List.getElem?_eq_some_iff.mp hx
    obtain ⟨l2,e2⟩:=List.getElem?_eq_some_iff.mp hk
    have:=List.pairwise_iff_getElem.mp so i k l1 l2 (by omega)
    rw [e1,e2,C5 lt] at this
    cases this
 have mn:mU zs x:=by
  refine ⟨xm,fun y hy l=>Classical.byContradiction fun ne=>?_⟩
  have lt:K42.tot y < K42.tot x:=by
   have:=K42.lew_tot l
   rcases Nat.lt_or_ge (K42.tot y) (K42.tot x) with a | a
   ·exact a
   ·exact absurd (K42.lew_eq l a) ne
  obtain ⟨t,mt,lt'⟩:=yD zs (K42.tot y) y (Nat.le_refl _) hy
  have tt:=K42.lew_tot lt'
  exact h t ((g.is t).mpr ⟨before t mt.1 (by omega),mt⟩) (K42.lew_trans lt' l)
 refine ⟨List.nodup_append.mpr ⟨g.nd,List.nodup_cons.mpr ⟨List.not_mem_nil,List.nodup_nil⟩,fun a ha b hb z=>?_⟩,fun z=>?_⟩
 ·rw [List.mem_singleton] at hb
  subst z hb
  exact h a ha (K42.lew_refl a)
 ·rw [List.mem_append,List.mem_singleton,g.is,aM hx,List.mem_append,List.mem_singleton]
  constructor
  ·rintro (⟨a,b⟩ | rfl)
   ·exact ⟨.inl a,b⟩
   ·exact ⟨.inr rfl,mn⟩
  ·rintro ⟨a | rfl,b⟩
   ·exact .inl ⟨a,b⟩
   ·exact .inr rfl
theorem w8.done {zs fd:List (List Nat)}(g:w8 zs zs.length fd):∀ x,x ∈ fd ↔ mU zs x:=fun x=>by
 rw [g.is,List.take_length]
 exact ⟨fun h=>h.2,fun h=>⟨h.1,h⟩⟩
end
section
variable {P:Program}{w:World}{K:PySem.W.Frag}{mg:eV}{base:Heap}
theorem A6 {x qual:Str}{st:Stmt}{f:Addr}{oc:Value}{od an:Option Addr}{osl:Array (Option Value)}{kV doc pm cdv ct:Value}{N ps:bE}{k:Nat}{sp:Sp}(lk:K.lookup f=some ⟨oc,od,.func (PySem.W.fnOf x qual (aS st) (aR st) (aB st) .none kV doc pm an cdv ct),osl⟩)(hcd:PySem.W.codeIn K cdv qual=true)(S:bB N ps (aB st))(len:∀ vs H Q E,sp vs H Q E->vs.length=ps.length)
  (hbody:∀ (A:Around) (outer:List Env) (s:Shared) (H:Hp) (vs:List V) (Q:VK) (E:XK),dX k (A.deeper (PyProof.Rows.envOfC qual (aB st) s.heap.objs.size f cdv))->sp vs H Q E ->
   ∃ t,vG (cxOf cT P w K mg base N qual (aB st) f cdv A outer s H E).nox (aR st) t/\t { nx:=fun _ H'=>Q .non H',rt:=Q } (start N vs) H):dE P w K mg base cT (k + 1) f (PySem.W.fnOf x qual (aS st) (aR st) (aB st) .none kV doc pm an cdv ct) ps sp:=by
 refine BP lk hcd S len fun A outer s H vs Q E hr hsp=>?_
 obtain ⟨t,h,q⟩:=hbody A outer s H vs Q E hr hsp
 exact ⟨t,h.nox,q⟩
theorem vZ {f:Addr}{fd:FuncData}(F:mW K "_law_under" "_law_under" bM f fd)(T:Txt mg):dE P w K mg base cT 1 f fd fG gJ:=by
 refine F.ok m5 (fun vs H Q E h=>?_) (fun cdv A outer s H vs Q E hr h=>?_)
 ·obtain ⟨a,b,xs,ys,rfl,_⟩:=h
  rfl
 ·obtain ⟨a,b,xs,ys,rfl,ha,hb,hl,q⟩:=h
  refine ⟨_,(aO (bR (aQ (j0 rfl) rfl T.n_all rfl (aA (cE rfl (aV.by (N:=fI) (names:=(aB bM).names) (N':=["_law_a","_law_b"]) (src:=[none,none]) (by decide +kernel) rfl rfl) (kR rfl T.n_zip (aA (pv 0) (aA (pv 1) aD))) (fun _ _ _ _=>(dI K rfl (i:=0) (j:=1) rfl (show List.Nodup (["_law_a","_law_b"]:bE) by decide +kernel) rfl rfl rfl rfl)) (fun _ _ _ _=>bP) (fun _ _ _ _=>(kT nM (pv 0) (pv 1) (nomark _)))) aD)))),?_⟩
  simp only [fI]
  clear hr F T
  have hq:=q
  clear q
  walk_at "rd"
  refine ⟨a,b,⟨rfl,rfl⟩,⟨_,ha⟩,⟨_,hb⟩,?_⟩
  refine fC (xs.map V.int) (ys.map V.int) (D6 xs ys H) ⟨aC.refl _,rfl,_,_,rfl⟩ (fun i acc σ H2 _ h=>⟨cM.same ha h.1,cM.same hb h.1⟩) ?_ ?_
  ·rintro i x y T acc σ H2 hx hy ⟨hs,rfl,o,o',rfl⟩ hT
   rw [List.getElem?_map] at hx hy
   obtain ⟨n,hn,rfl⟩:=Option.map_eq_some_iff.mp hx
   obtain ⟨m,hm,rfl⟩:=Option.map_eq_some_iff.mp hy
   have hi:i < xs.length:=(List.getElem?_eq_some_iff.mp hn).1
   have hz:(xs.zip ys)[i]?=some (n,m):=by rw [List.getElem?_zip_eq_some];exact ⟨hn,hm⟩
   have hs':=hs
   clear hq ha hb hs hx hy
   refine ⟨T,_,rfl,d7.of upd_same,rfl,_,_,rfl,_,_,rfl,rfl,?_⟩
   walk_at "rd"
   refine ⟨Nat.lt_of_le_of_lt (m:=100) ?_ (by decide),hs'.trans (aC.upd hT),?_,_,_,rfl⟩
   ·simp only [List.length_map,List.length_take];omega
   ·rw [List.take_succ,hz]
    simp
  ·rintro acc σ H2 ⟨hs,rfl,o,o',rfl⟩ p2 hp2
   refine ⟨p2,rfl,_,upd_same,?_⟩
   have ez:(xs.zip ys).take (min (List.map V.int xs).length (List.map V.int ys).length)=xs.zip ys:=List.take_of_length_le (by simp)
   rw [ez]
   have e:((xs.zip ys).map fun r=>decide (r.1<=r.2)).all id=undZ xs ys:=by rw [List.all_map];rfl
   rw [e]
   exact hq _ (hs.trans (aC.upd hp2))
noncomputable def cD (H:Hp)(qs:List V)(ps:List (List Nat)):Prop:=Paired (fun (v:V) (x:List Nat)=>∃ q,v = .ref q/\H q=some (.lst ((nI x).map V.int))) qs ps
noncomputable def lB (Pt:Addr):Sp:=fun vs H Q _=>∃ (l:Addr) (xs:List V) (ps:List (List Nat)) (n:Nat),vs=[.ref l]/\H l=some (.lst xs)/\LT Pt H/\cD H xs ps/\xs.length<=1000000/\n<=8/\(∀ x ∈ ps,x.length=n) /\
 ∀ (l':Addr) (ys:List V) (fd:List (List Nat)) (H':Hp),dZ Pt H H'->LT Pt H'->H' l'=some (.lst ys)->cD H' ys fd->fd.Nodup->(∀ x,x ∈ fd ↔ mU ps x)->fd.Pairwise (fun x y=>ltI (nI y) (nI x)=false)->Q (.ref l') H'
theorem cD.same {H H':Hp}{qs:List V}{ps:List (List Nat)}(h:cD H qs ps)(s:aC H H'):cD H' qs ps:=Paired.mapP h fun _ _ ⟨q,a,b⟩=>⟨q,a,s _ _ b⟩
theorem lT {H:Hp}{xs ys:List V}{ps:List (List Nat)}(h:cD H xs ps)(pm:ys.Perm xs):∃ zs:List (List Nat),zs.Perm ps/\cD H ys zs:=by
 induction pm generalizing ps with
 | nil=>cases h;exact ⟨[],.nil,.nil⟩
 | cons v _ ih =>
  cases h with
  | cons a r =>
   obtain ⟨zs,p,q⟩:=ih r
   exact ⟨_ :: zs,p.cons _,.cons a q⟩
 | swap v w l =>
  cases h with
  | cons a r =>
   cases r with
   | cons b r=>exact ⟨_ :: _ :: _,.swap _ _ _,.cons b (.cons a r)⟩
 | trans _ _ ih1 ih2 =>
  obtain ⟨zs,p,q⟩:=ih2 h
  obtain ⟨ws,p',q'⟩:=ih1 q
  exact ⟨ws,p'.trans p,q'⟩
theorem eS {H:Hp}{qs:List V}{ps:List (List Nat)}(h:cD H qs ps):qs.map (lrowV H)=ps.map nI/\∀ v ∈ qs,∃ r,dD H v r:=by
 induction h with
 | nil=>exact ⟨rfl,fun v hv=>nomatch hv⟩
 | cons a _ ih =>
  obtain ⟨q,rfl,hq⟩:=a
  refine ⟨by rw [List.map_cons,List.map_cons,ih.1,dJ ⟨q,rfl,hq⟩],fun v hv=>?_⟩
  rcases List.mem_cons.mp hv with e | m
  ·exact ⟨_,q,e,hq⟩
  ·exact ih.2 v m
noncomputable def FC (l g:Addr)(xs':List V)(zs:List (List Nat))(H:Hp)(i:Nat)(σ:St)(H':Hp):Prop:=∃ (gs:List V) (fd:List (List Nat)) (o2:Option V),σ=[some (.ref l),some (.ref g),o2]/\dZ g H H'/\H' g=some (.lst gs)/\cD H' gs fd/\(∀ v ∈ gs,v≠.ref g)/\gs.length<=i/\w8 zs i fd
noncomputable def FD (fd:List (List Nat))(x:List Nat)(b:Addr)(Hx:Hp)(i:Nat)(acc:List V)(σ:St)(H':Hp):Prop:=∃ o0:Option V,σ=[o0,some (.ref b)]/\aC Hx H'/\acc=((fd.take i).map fun s=>undZ (nI s) (nI x)).map V.bl
theorem pboth3 {α β:Type}{F:α->β->Prop}{G:α->Prop}{l:List α}{m:List β}(h:Paired F l m):(∀ a ∈ l,G a)->Paired (fun a b=>F a b/\G a) l m:=by
 induction h with
 | nil=>exact fun _=>.nil
 | cons a _ ih=>exact fun k=>.cons ⟨a,k _ List.mem_cons_self⟩ (ih fun x hx=>k x (List.mem_cons_of_mem _ hx))
theorem v3 {f c Pt:Addr}{oc:Value}{od an:Option Addr}{osl:Array (Option Value)}{kV doc pm ct:Value}(lk:K.lookup f=some ⟨oc,od,.func (PySem.W.fnOf "_law_least" "_law_least" (aS aN) (aR aN) (aB aN) .none kV doc pm an (.ref c) ct),osl⟩)(hcd:PySem.W.codeIn K (.ref c) "_law_least" = true)
  (hC:∀ h,K.In h->PySem.W.CodeHd h c Pt) (hB:Bm mg base) (T:Txt mg) (O__law_under:gB P w K mg base cT 1 "_law_under" gJ):dE P w K mg base cT 4 f (PySem.W.fnOf "_law_least" "_law_least" (aS aN) (aR aN) (aB aN) .none kV doc pm an (.ref c) ct) fH (lB Pt):=by
 refine A6 lk hcd eJ (fun vs H Q E h=>?_) (fun A outer s H vs Q E hr h=>?_)
 ·obtain ⟨l,xs,ps,n,rfl,_⟩:=h
  rfl
 ·obtain ⟨l,xs,ps,n,rfl,hl,lt,lp,lx,n8,hn,q⟩:=h
  have hu:=hr.units
  refine ⟨_,(aP (eA (i:=1) eJ.nd rfl (Or.inl rfl) (cW aD))
   (aP (iC PassesOwn.never rfl (cV K rfl (qS rfl T.n_sorted T rfl rfl rfl hC hB hu (hr.mono (by decide)) (aA (pv 0) aD))) (aW (i:=2) eJ.nd rfl (Or.inr rfl)) (aO (lG (fP (dA K rfl (aQ (jZ rfl) rfl T.n_any rfl (aA (cE rfl (aV.by (N:=jF) (names:=(aB aN).names) (N':=["_law_one","_law_row"]) (src:=[none,some 2]) (by decide +kernel) rfl rfl) (cV K rfl (pv 1)) (fun _ _ _ _=>(aW (i:=0) (show List.Nodup (["_law_one","_law_row"]:bE) by decide +kernel) rfl (Or.inl rfl))) (fun _ _ _ _=>bP) (fun _ _ _ _=>(bF O__law_under (hr.mono (by decide)) pass0 rfl (aA (pv 0) (aA (pv 1) aD))))) aD)) (fun _=>rfl))) (aO (iW (uH PySem.F.plainAttrs_list PySem.F.slot_list_append PySem.F.type_list_append v5 (pv 1) (aA (pv 2) aD)))) gN)))
   (aO (bR (aQ (rW hu) rfl T.n_sorted rfl (aA (pv 1) aD)))))),?_⟩
  clear hr T hu O__law_under hC hB lk hcd
  simp only [eP,kN]
  refine ⟨Nat.zero_le _,fun g hg=>?_⟩
  have s1:aC H (upd H g (.lst [])):=aC.upd hg
  have g1:upd H g (.lst []) g=some (.lst []):=upd_same
  generalize upd H g (.lst [])=H1 at s1 g1 ⊢
  have lt1:=lt.same s1
  have lp1:=lp.same s1
  obtain ⟨lr1,lr2⟩:=eS lp1
  refine ⟨_,rfl,l,xs,rfl,s1 _ _ hl,lt1,lr2,fun l2 ys H2 b2 lt2 nl2 hl2 pm pw=>?_⟩
  have fit:(2000000:Nat)<=sizeLine:=by decide
  obtain ⟨zs,zp,zl⟩:=lT lp1 pm
  have so:zs.Pairwise fun a b=>ltI (keyI (nI b)) (keyI (nI a))=false:=by
   have h1:(ys.map (lrowV H1)).Pairwise fun a b=>ltI (keyI b) (keyI a)=false:=List.pairwise_map.mpr pw
   rw [(eS zl).1] at h1
   exact List.pairwise_map.mp h1
  have ly:ys.length<=1000000:=by rw [pm.length_eq];exact lx
  have zl2:cD H2 ys zs:=Paired.mapP zl fun _ _ ⟨q0,a,b⟩=>⟨q0,a,b2 _ _ (lt1.ne b fun _=>by simp) b⟩
  have g2:H2 g=some (.lst []):=b2 _ _ (lt1.ne g1 fun _=>by simp) g1
  have nlg:l2≠g:=fun z=>by rw [z,g1] at nl2;cases nl2
  have yg:∀ v ∈ ys,v≠.ref g:=fun v hv z=>by
   obtain ⟨r,q0,e1,e2⟩:=(eS lp).2 v (pm.mem_iff.mp hv)
   rw [e1] at z
   cases z
   rw [hg] at e2;cases e2
  have ptg:Pt≠g:=fun z=>by
   obtain ⟨ps',e⟩:=lt.tbl
   rw [z,hg] at e;cases e
  have ltg:∀ H',dZ g H2 H'->LT Pt H':=fun H' bt=>by
   rcases lt2 with h | ⟨c',oc',vsc,tq,h1,h2,h3⟩
   ·exact .inl (bt _ _ ptg h)
   ·exact .inr ⟨c',oc',vsc,tq,bt _ _ ptg h1,bt _ _ (fun z=>by rw [z,g2] at h2;cases h2) h2,h3⟩
  have back:∀ H',dZ g H2 H'->dZ Pt H H':=fun H' bt d o nd e=>bt _ _ (fun z=>by rw [z,hg] at e;cases e) (b2 _ _ nd (s1 _ _ e))
  have zn:∀ x ∈ zs,x.length=n:=fun x hx=>hn x (zp.mem_iff.mp hx)
  refine ⟨l2,ys,rfl,.inl hl2,fun J hJ=>?_⟩
  refine jB hJ (FC l g ys zs H2) ⟨[],[],_,rfl,dZ.refl _ _,g2,.nil,(fun v hv=>nomatch hv),Nat.zero_le _,w8.nil zs⟩ (fun i σ H' _ ⟨_,_,_,_,bt,_⟩=>by rw [hl2];exact bt _ _ nlg hl2) ?_ ?_
  ·rintro i v σ H3 hv ⟨gs,fd',o2,rfl,bt,hg3,gl,gn,gi,G⟩
   obtain ⟨x,hx,q0,rfl,hq⟩:=pget' zl2 hv
   have nqg:q0≠g:=fun z=>yg _ (List.mem_of_getElem? hv) (by rw [z])
   have hq3:=bt _ _ nqg hq
   have il:=K42.lt_of hv
   have fdn:∀ s ∈ fd',s.length=n:=fun s hs=>zn s ((G.is s).mp hs).2.1
   have xn:=zn x (List.mem_of_getElem? hx)
   refine ⟨_,rfl,g,gs,rfl,.inl hg3,fun J' hJ'=>?_⟩
   refine cX hJ' (FD fd' x q0 H3) ⟨_,rfl,aC.refl _,rfl⟩ (fun i acc σ H' _ ⟨_,_,s,_⟩=>by rw [hg3];exact s _ _ hg3) ?_ ?_
   ·rintro j w acc σ H4 hw ⟨o0,rfl,s4,rfl⟩
    obtain ⟨s,hs,p,rfl,tp⟩:=pget' gl hw
    refine ⟨_,rfl,_,rfl,p,q0,nI s,nI x,rfl,.inl (s4 _ _ tp),.inl (s4 _ _ hq3),?_,fun H5 s5=>⟨?_,_,rfl,s4.trans s5,?_⟩⟩
    ·rw [eB,fdn s (List.mem_of_getElem? hs)];omega
    ·have:=List.length_take_le' j fd'
     have:=plen gl
     simp only [List.length_map]
     omega
    ·rw [aM hs,List.map_append,List.map_append]
     rfl
   ·rintro acc σ H4 ⟨o0,rfl,s4,rfl⟩ p5 hp5
    have fl:fd'.take gs.length=fd':=by rw [plen gl];exact List.take_length
    rw [fl]
    have s5:aC H3 (upd H4 p5 (.lst ((fd'.map fun s=>undZ (nI s) (nI x)).map V.bl))):=s4.trans (aC.upd hp5)
    refine ⟨p5,_,rfl,upd_same,_,rfl,?_⟩
    generalize upd H4 p5 (.lst ((fd'.map fun s=>undZ (nI s) (nI x)).map V.bl))=H5 at s5 ⊢
    have hg5:=s5 _ _ hg3
    refine iH (fun e=>?_) fun e=>?_
    ·have no:∀ y ∈ fd',¬ K42.lew y x:=fun y hy l=>by
      rw [Bool.not_eq_true',← Bool.not_eq_true,List.any_map,List.any_eq_true] at e
      exact e ⟨y,hy,(iS ((fdn y hy).trans xn.symm)).mpr l⟩
     refine ⟨_,rfl,tyL hg5,_,rfl,g,gs,_,rfl,rfl,hg5,by omega,gs ++ [.ref q0],fd' ++ [x],_,rfl,(bt.trans s5.but).trans (dZ.upd _ _ _),upd_same,?_,fun v hv=>?_,by rw [List.length_append,List.length_singleton];omega,G.take so hx no⟩
     ·refine Paired.snoc (Paired.mapP (pboth3 gl gn) fun v x ⟨⟨q1,a,b⟩,c⟩=>⟨q1,a,?_⟩) ⟨q0,rfl,by rw [aE nqg];exact s5 _ _ hq3⟩
      rw [aE (fun z=>c (by rw [a,z]))]
      exact s5 _ _ b
     ·rcases List.mem_append.mp hv with m | m
      ·exact gn v m
      ·rw [List.mem_singleton.mp m]
       exact fun z=>nqg (by cases z;rfl)
    ·have yes:∃ y ∈ fd',K42.lew y x:=by
      have e':(fd'.map fun s=>undZ (nI s) (nI x)).any id=true:=by
       cases h:(fd'.map fun s=>undZ (nI s) (nI x)).any id with
       | true=>rfl
       | false=>rw [h] at e;cases e
      rw [List.any_map,List.any_eq_true] at e'
      obtain ⟨y,hy,u⟩:=e'
      exact ⟨y,hy,(iS ((fdn y hy).trans xn.symm)).mp u⟩
     exact ⟨gs,fd',_,rfl,bt.trans s5.but,hg5,gl.same s5,gn,by omega,G.drop hx yes⟩
  ·rintro σ H3 ⟨gs,fd',o2,rfl,bt,hg3,gl,gn,gi,G⟩
   rw [plen zl2] at G
   obtain ⟨r1,r2⟩:=eS gl
   refine ⟨_,rfl,g,gs,rfl,hg3,r2,fun vs' pm' pw' p hp=>?_⟩
   obtain ⟨fd2,fp,fl⟩:=lT gl pm'
   have sp:=aC.upd (o:=.lst vs') hp
   refine q p vs' fd2 _ (fun d o nd e=>sp _ _ (back H3 bt d o nd e)) ((ltg H3 bt).same sp) upd_same (fl.same sp) (fp.nodup_iff.mpr G.nd) (fun x=>?_) ?_
   ·rw [fp.mem_iff,G.done]
    unfold mU
    rw [zp.mem_iff]
    exact and_congr Iff.rfl ⟨fun h y hy=>h y (zp.mem_iff.mpr hy),fun h y hy=>h y (zp.mem_iff.mp hy)⟩
   ·have h1:(vs'.map (lrowV H3)).Pairwise fun a b=>ltI b a=false:=List.pairwise_map.mpr pw'
    rw [(eS fl).1] at h1
    exact List.pairwise_map.mp h1
end
section
variable {P:Program}{w:World}{K:PySem.W.Frag}{mg:eV}{base:Heap}
theorem yB:∀ {x y:List Nat},nI x=nI y->x=y
 | [],[],_=>rfl
 | [],_ :: _,h=>nomatch h
 | _ :: _,[],h=>nomatch h
 | a :: x,b :: y,h=>by
  simp only [nI,List.map_cons,List.cons.injEq] at h
  rw [yB h.2,show a=b by omega]
theorem nL:∀ {l k:List (List Nat)},l.Pairwise (fun x y=>ltI (nI y) (nI x)=false)->k.Pairwise (fun x y=>ltI (nI y) (nI x)=false)->l.Nodup->k.Nodup->(∀ x,x ∈ l ↔ x ∈ k)->l=k
 | [],[],_,_,_,_,_=>rfl
 | [],y :: k,_,_,_,_,h=>nomatch (h y).mpr List.mem_cons_self
 | x :: l,[],_,_,_,_,h=>nomatch (h x).mp List.mem_cons_self
 | x :: l,y :: k,p,q,n,m,h=>by
  rw [List.pairwise_cons] at p q
  rw [List.nodup_cons] at n m
  have e:x=y:=by
   have h1:=(h x).mp List.mem_cons_self
   have h2:=(h y).mpr List.mem_cons_self
   rcases List.mem_cons.mp h1 with e | a
   ·exact e
   ·rcases List.mem_cons.mp h2 with e | b
    ·exact e.symm
    ·exact yB (pE _ _ (q.1 x a) (p.1 y b))
  subst e
  rw [nL p.2 q.2 n.2 m.2 fun z=>?_]
  have:=h z
  rw [List.mem_cons,List.mem_cons] at this
  constructor
  ·intro hz
   rcases this.mp (.inr hz) with e | a
   ·subst e;exact absurd hz n.1
   ·exact a
  ·intro hz
   rcases this.mpr (.inr hz) with e | a
   ·subst e;exact absurd hz m.1
   ·exact a
theorem Rows.eq {ss:List Int}{fd fd':List (List Nat)}(R:Rows ss fd)(R':Rows ss fd'):fd=fd':=nL R.up R'.up R.nd R'.nd fun x=>(R.is x).trans (R'.is x).symm
noncomputable def rowD (r:List Nat):D:=.lst ((nI r).map D.int)
theorem vU {H0 H:Hp}{qs:List V}{fd:List (List Nat)}(h:wW H0 H qs fd):Reps H (fd.map rowD) qs:=by
 induction h with
 | nil=>rfl
 | cons a _ ih =>
  obtain ⟨q,rfl,_,hq⟩:=a
  exact ⟨_,_,rfl,⟨q,_,rfl,hq,jS _⟩,ih⟩
theorem rL:∀ fd:List (List Nat),depDs (fd.map rowD)<=1
 | []=>by simp [depDs]
 | r :: fd=>by
  have ih:=rL fd
  have e:depD (rowD r)<=1:=by unfold rowD;rw [depD,rM];decide
  rw [List.map_cons,depDs]
  omega
end
section
variable {P:Program}{w:World}{K:PySem.W.Frag}{mg:eV}{base:Heap}
theorem vC:∀ (ls ms:List Int) (x:List Nat),ls.length<=x.length->K42.dot (ls ++ ms) x=dotZ ls ((nI x).take ls.length) + K42.dot ms (x.drop ls.length)
 | [],ms,x,_=>by simp [dotZ]
 | a :: ls,ms,[],h=>by simp at h
 | a :: ls,ms,v :: x,h=>by
  have ih:=vC ls ms x (by simpa using h)
  simp only [List.cons_append,K42.dot,ih,nI,List.map_cons,List.length_cons,List.take_succ_cons,List.drop_succ_cons,dotZ,List.zip_cons_cons,List.sum_cons]
  omega
theorem vB:∀ (rs:List Int) (x:List Nat),rs.length=x.length->K42.dot (rs.map fun z=>-z) x = - dotZ rs (nI x)
 | [],[],_=>by simp [dotZ,K42.dot]
 | [],_ :: _,h=>nomatch h
 | _ :: _,[],h=>nomatch h
 | a :: rs,v :: x,h=>by
  have ih:=vB rs x (by simpa using h)
  simp only [List.map_cons,K42.dot,ih,nI,dotZ,List.zip_cons_cons,List.sum_cons,Int.neg_mul]
  omega
theorem iZ (x:List Nat)(n:Nat):nI (x.drop n)=(nI x).drop n:=by unfold nI;rw [List.map_drop]
theorem kW (x:List Nat)(n:Nat):nI (x.take n)=(nI x).take n:=by unfold nI;rw [List.map_take]
theorem oV {ls rs:List Int}{x:List Nat}(h:x.length=ls.length + rs.length):K42.dot (sgn ls rs) x=dotZ ls ((nI x).take ls.length) - dotZ rs ((nI x).drop ls.length):=by
 unfold sgn
 rw [vC ls _ x (by omega),vB rs (x.drop ls.length) (by rw [List.length_drop];omega),iZ]
 omega
theorem qQ:∀ (ls ms:List Int) (x:List Nat),(∀ z ∈ ls,0 < z)->∀ v ∈ x.take ls.length,v<=K42.posT (ls ++ ms) x
 | [],_,_,_,v,h=>by simp at h
 | a :: ls,ms,[],_,v,h=>by simp at h
 | a :: ls,ms,y :: x,hz,v,h=>by
  have ih:=qQ ls ms x (fun z m=>hz z (List.mem_cons_of_mem _ m)) v
  have a0:=hz a List.mem_cons_self
  simp only [List.length_cons,List.take_succ_cons,List.mem_cons,List.cons_append,K42.posT,if_pos a0] at h ⊢
  rcases h with e | m
  ·omega
  ·have:=ih m;omega
theorem uM:∀ (ms:List Int) (x:List Nat),x.length<=ms.length->(∀ z ∈ ms,z < 0)->∀ v ∈ x,v<=K42.negT ms x
 | _,[],_,_,v,h=>by simp at h
 | [],_ :: _,h,_,_,_=>by simp at h
 | a :: ms,y :: x,hl,hz,v,h=>by
  have ih:=uM ms x (by simpa using hl) (fun z m=>hz z (List.mem_cons_of_mem _ m)) v
  have a0:=hz a List.mem_cons_self
  simp only [List.mem_cons,K42.negT,if_pos a0] at h ⊢
  rcases h with e | m
  ·omega
  ·have:=ih m;omega
theorem qY:∀ (ls ms:List Int) (x:List Nat),x.length<=ls.length + ms.length->(∀ z ∈ ms,z < 0)->∀ v ∈ x.drop ls.length,v<=K42.negT (ls ++ ms) x
 | [],ms,x,hl,hz,v,h=>uM ms x (by simpa using hl) hz v (by simpa using h)
 | a :: ls,ms,[],_,_,v,h=>by simp at h
 | a :: ls,ms,y :: x,hl,hz,v,h=>by
  have ih:=qY ls ms x (by simp at hl;omega) hz v (by simpa using h)
  simp only [List.cons_append,K42.negT]
  omega
theorem mD:∀ (ls ys:List Int),(∀ z ∈ ls,1<=z)->(∀ y ∈ ys,0<=y)->ys.length<=ls.length->ys.sum<=dotZ ls ys
 | _,[],_,_,_=>by simp [dotZ]
 | [],_ :: _,_,_,h=>by simp at h
 | a :: ls,y :: ys,h1,h2,h=>by
  have ih:=mD ls ys (fun z m=>h1 z (List.mem_cons_of_mem _ m)) (fun z m=>h2 z (List.mem_cons_of_mem _ m)) (by simpa using h)
  have a1:=h1 a List.mem_cons_self
  have y0:=h2 y List.mem_cons_self
  have:=Int.mul_le_mul_of_nonneg_right a1 y0
  simp only [dotZ,List.zip_cons_cons,List.map_cons,List.sum_cons] at ih ⊢
  omega
theorem jP:∀ x:List Nat,(nI x).sum=(K42.tot x:Int)
 | []=>rfl
 | v :: x=>by
  have:=jP x
  simp only [nI,List.map_cons,List.sum_cons,K42.tot] at this ⊢
  omega
theorem BN (x:List Nat):∀ y ∈ nI x,0<=y:=fun y hy=>by
 unfold nI at hy
 obtain ⟨v,_,rfl⟩:=List.mem_map.mp hy
 omega
theorem nQ {ls rs:List Int}(hl:bV ls)(hr:bV rs){x:List Nat}(m:K42.Min (sgn ls rs) x):ls≠[]/\rs≠[]:=by
 obtain ⟨⟨len,dot,pos⟩,_⟩:=m
 rw [gK] at len
 rw [oV len] at dot
 have t:=jP x
 constructor
 ·rintro rfl
  have:=mD rs (nI x) (fun z h=>(hr.2 z h).1) (BN x) (by rw [eB];simp at len;omega)
  simp [dotZ] at dot this
  omega
 ·rintro rfl
  have:=mD ls (nI x) (fun z h=>(hl.2 z h).1) (BN x) (by rw [eB];simp at len;omega)
  have e1:(nI x).take ls.length=nI x:=List.take_of_length_le (by rw [eB];simp at len;omega)
  rw [e1] at dot
  simp [dotZ] at dot this
  omega
theorem yC {ls rs:List Int}(hl:bV ls)(hr:bV rs){x:List Nat}(m:K42.Min (sgn ls rs) x){M:Int}(hM:∀ z ∈ rs,z<=M):∀ v ∈ (nI x).take ls.length,v<=M:=by
 obtain ⟨_,ne⟩:=nQ hl hr m
 have M1:1<=M:=by
  obtain ⟨z,hz⟩:=List.exists_mem_of_ne_nil rs ne
  have:=hM z hz;have:=hr.2 z hz;omega
 have b:=(K42.bounds (ss:=sgn ls rs) (A:=4) (B:=M.toNat) (by decide) (by omega) (fun z hz=>⟨(lE hl hr z hz).1,?_,(lE hl hr z hz).2.2⟩) (K42.complete m)).1
 ·intro v hv
  rw [← kW] at hv
  obtain ⟨u,hu,rfl⟩:=List.mem_map.mp hv
  have:=qQ ls (rs.map fun z=>-z) x (fun z h=>by have:=hl.2 z h;omega) u hu
  have:u<=K42.posT (sgn ls rs) x:=this
  omega
 ·rcases List.mem_append.mp hz with h | h
  ·have:=hl.2 z h;omega
  ·obtain ⟨count,among,rfl⟩:=List.mem_map.mp h
   have:=hM count among;omega
theorem v6 {ls rs:List Int}(hl:bV ls)(hr:bV rs){x:List Nat}(m:K42.Min (sgn ls rs) x){M:Int}(hM:∀ z ∈ ls,z<=M):∀ v ∈ (nI x).drop ls.length,v<=M:=by
 obtain ⟨ne,_⟩:=nQ hl hr m
 have M1:1<=M:=by
  obtain ⟨z,hz⟩:=List.exists_mem_of_ne_nil ls ne
  have:=hM z hz;have:=hl.2 z hz;omega
 have b:=(K42.bounds (ss:=sgn ls rs) (A:=M.toNat) (B:=4) (by omega) (by decide) (fun z hz=>⟨(lE hl hr z hz).1,(lE hl hr z hz).2.1,?_⟩) (K42.complete m)).2
 ·intro v hv
  rw [← iZ] at hv
  obtain ⟨u,hu,rfl⟩:=List.mem_map.mp hv
  have len:=m.1.1
  rw [gK] at len
  have:=qY ls (rs.map fun z=>-z) x (by rw [List.length_map];omega) (fun z h=>by obtain ⟨y,hy,rfl⟩:=List.mem_map.mp h;have:=hr.2 y hy;omega) u hu
  have:u<=K42.negT (sgn ls rs) x:=this
  omega
 ·rcases List.mem_append.mp hz with h | h
  ·have:=hM z h;omega
  ·obtain ⟨count,among,rfl⟩:=List.mem_map.mp h
   have:=hr.2 count among;omega
noncomputable def D7 (ls rs:List Int)(mL mR:Nat)(ps:List (List Nat)):Prop:=∀ z,z ∈ ps ↔ ∃ x y,z=x ++ y/\x ∈ allR mR ls.length/\y ∈ allR mL rs.length/\dotZ ls (nI x)=dotZ rs (nI y)/\0 < K42.tot x + K42.tot y
theorem uB (x y:List Nat):K42.tot (x ++ y)=K42.tot x + K42.tot y:=by
 induction x with
 | nil=>simp [K42.tot]
 | cons a x ih=>simp only [List.cons_append,K42.tot,ih];omega
theorem pG:∀ {a b:List Nat},K42.lew a b->∀ (i v:Nat),a[i]?=some v->∃ u,b[i]?=some u/\v<=u
 | [],[],_,i,v,h=>by simp at h
 | [],_ :: _,h,_,_,_=>h.elim
 | _ :: _,[],h,_,_,_=>h.elim
 | x :: a,y :: b,h,0,v,k=>by simp at k;subst k;exact ⟨y,rfl,h.1⟩
 | x :: a,y :: b,h,i + 1,v,k=>pG h.2 i v (by simpa using k)
theorem AG {ls rs:List Int}(hl:bV ls)(hr:bV rs){mL mR:Nat}(hL:∀ z ∈ ls,z<=(mL:Int))(hR:∀ z ∈ rs,z<=(mR:Int)){ps:List (List Nat)}(h:D7 ls rs mL mR ps)(z:List Nat):mU ps z ↔ K42.Min (sgn ls rs) z:=by
 have sol:∀ z,z ∈ ps ↔ K42.Sol (sgn ls rs) z/\(∀ v ∈ z.take ls.length,v<=mR)/\(∀ v ∈ z.drop ls.length,v<=mL):=fun z=>by
  rw [h z]
  constructor
  ·rintro ⟨x,y,rfl,hx,hy,e,t⟩
   obtain ⟨x1,x2⟩:=cK.mp hx
   obtain ⟨y1,y2⟩:=cK.mp hy
   have len:(x ++ y).length=ls.length + rs.length:=by rw [List.length_append,x1,y1]
   have tk:(x ++ y).take ls.length=x:=by rw [← x1];exact List.take_left
   have dk:(x ++ y).drop ls.length=y:=by rw [← x1];exact List.drop_left
   refine ⟨⟨by rw [gK];exact len,?_,by rw [uB];exact t⟩,by rw [tk];exact x2,by rw [dk];exact y2⟩
   rw [oV len,← kW,← iZ,tk,dk,e]
   omega
  ·rintro ⟨⟨len,d,t⟩,a,b⟩
   rw [gK] at len
   refine ⟨z.take ls.length,z.drop ls.length,(List.take_append_drop _ _).symm,cK.mpr ⟨by rw [List.length_take];omega,a⟩,cK.mpr ⟨by rw [List.length_drop];omega,b⟩,?_,?_⟩
   ·rw [oV len] at d
    rw [kW,iZ]
    omega
   ·rw [← uB,List.take_append_drop]
    exact t
 have down:∀ s z:List Nat,K42.lew s z->((∀ v ∈ z.take ls.length,v<=mR)->∀ v ∈ s.take ls.length,v<=mR)/\((∀ v ∈ z.drop ls.length,v<=mL)->∀ v ∈ s.drop ls.length,v<=mL):=fun s z l=>by
  refine ⟨fun k v hv=>?_,fun k v hv=>?_⟩
  ·obtain ⟨i,hi⟩:=List.getElem?_of_mem hv
   rw [List.getElem?_take] at hi
   split at hi
   ·rename_i il
    obtain ⟨u,hu,le⟩:=pG l i v hi
    exact Nat.le_trans le (k u (List.mem_of_getElem? (i:=i) (by rw [List.getElem?_take,if_pos il];exact hu)))
   ·cases hi
  ·obtain ⟨i,hi⟩:=List.getElem?_of_mem hv
   rw [List.getElem?_drop] at hi
   obtain ⟨u,hu,le⟩:=pG l _ v hi
   exact Nat.le_trans le (k u (List.mem_of_getElem? (i:=i) (by rw [List.getElem?_drop];exact hu)))
 constructor
 ·rintro ⟨m,k⟩
  obtain ⟨s,a,b⟩:=(sol z).mp m
  exact ⟨s,fun t st l=>k t ((sol t).mpr ⟨st,(down t z l).1 a,(down t z l).2 b⟩) l⟩
 ·intro m
  have ml:=yC hl hr m hR
  have mr:=v6 hl hr m hL
  refine ⟨(sol z).mpr ⟨m.1,fun v hv=>?_,fun v hv=>?_⟩,fun y hy l=>m.2 y ((sol y).mp hy).1 l⟩
  ·have:=ml (v:Int) (by rw [← kW];exact List.mem_map.mpr ⟨v,hv,rfl⟩)
   omega
  ·have:=mr (v:Int) (by rw [← iZ];exact List.mem_map.mpr ⟨v,hv,rfl⟩)
   omega
end
section
variable {P:Program}{w:World}{K:PySem.W.Frag}{mg:eV}{base:Heap}
noncomputable def spLaw (K:PySem.W.Frag)(Pt:Addr):Sp:=fun vs H Q _=>∃ (a:Addr) (ns:List Int),vs=[.ref a]/\cY K H a (ns.map V.int)/\(∀ xs,H a≠some (.lst xs))/\ns.length<=63/\H Pt=some (.tbl #[])/\∀ H',Q (.bl true) H'
noncomputable def same3 (rs:List Int)(T:Int)(pre:List (List Nat)):List (List Nat):=pre.filter fun y=>decide (dotZ rs (nI y)=T)
noncomputable def EL (rs:List Int)(H:Hp)(kvs:List (cF×V))(pre:List (List Nat)):Prop:=∀ T:Int,(valV kvs (Sum.inl T)=none/\same3 rs T pre=[])∨∃ q vs,valV kvs (Sum.inl T)=some (.ref q)/\H q=some (.lst vs)/\cD H vs (same3 rs T pre)
theorem EL.same {rs:List Int}{H H':Hp}{kvs:List (cF×V)}{pre:List (List Nat)}(h:EL rs H kvs pre)(s:∀ b xs,H b=some (.lst xs)->H' b=some (.lst xs)):EL rs H' kvs pre:=fun T=>(h T).imp id fun ⟨q,vs,a,b,c⟩=>⟨q,vs,a,s _ _ b,Paired.mapP c fun _ _ ⟨q',d,e⟩=>⟨q',d,s _ _ e⟩⟩
noncomputable def B1 (sc a b d:Addr)(rs:List Int)(ps:List (List Nat))(Hs:Hp)(i:Nat)(σ:St)(H':Hp):Prop:=∃ (kvs:List (cF×V)) (o4 o5 o6:Option V),σ=[some (.ref sc),some (.ref a),some (.ref b),some (.ref d),o4,o5,o6]/\dZ d Hs H'/\H' d=some (.dK kvs)/\kvs.length<=i/\EL rs H' kvs (ps.take i)
theorem uS {M:Int}{ns:List Int}(c:bV ns)(m:M ∈ [0] ++ ns)(h:∀ v ∈ [0] ++ ns,v<=M):∃ k:Nat,M=k/\k<=4/\∀ z ∈ ns,z<=(k:Int):=by
 have h0:=h 0 (by simp)
 have h4:M<=4:=by
  rcases List.mem_append.mp m with e | e
  ·rw [List.mem_singleton.mp e];decide
  ·exact (c.2 M e).2
 exact ⟨M.toNat,by omega,by omega,fun z hz=>by have:=h z (List.mem_append_right _ hz);omega⟩
theorem sY {rs:List Int}{T:Int}{pre:List (List Nat)}{y:List Nat}:same3 rs T (pre ++ [y])=same3 rs T pre ++ (if dotZ rs (nI y)=T then [y] else []):=by
 unfold same3
 rw [List.filter_append]
 congr 1
 by_cases e:dotZ rs (nI y)=T
 ·rw [if_pos e,List.filter_cons_of_pos (by simpa using e),List.filter_nil]
 ·rw [if_neg e,List.filter_cons_of_neg (by simpa using e),List.filter_nil]
noncomputable def B2 (sc a b d g:Addr)(ls rs:List Int)(ps qs:List (List Nat))(Hs:Hp)(i:Nat)(σ:St)(H':Hp):Prop:=∃ (gs:List V) (rw_:List (List Nat)) (o4 o5:Option V),σ=[some (.ref sc),some (.ref a),some (.ref b),some (.ref d),o4,o5,some (.ref g)]/\dZ g Hs H'/\H' g=some (.lst gs)/\gs.length<=i * 625 /\
 Paired (fun (v:V) (x:List Nat)=>∃ q,v = .ref q/\q≠g/\H' q=some (.lst ((nI x).map V.int))) gs rw_/\∀ z,z ∈ rw_ ↔ ∃ x ∈ ps.take i,∃ y ∈ qs,z=x ++ y/\dotZ ls (nI x)=dotZ rs (nI y)/\0 < K42.tot x + K42.tot y
noncomputable def C2 (g r:Addr)(x:List Nat)(ys:List (List Nat))(Hs:Hp)(i:Nat)(acc:List V)(σ:St)(H':Hp):Prop:=∃ (o:Option V) (zs:List (List Nat)),σ=[o,some (.ref r)]/\aC Hs H'/\acc.length<=i/\Paired (fun (v:V) (x:List Nat)=>∃ q,v = .ref q/\q≠g/\H' q=some (.lst ((nI x).map V.int))) acc zs/\∀ z,z ∈ zs ↔ ∃ y ∈ ys.take i,z=x ++ y/\0 < K42.tot x + K42.tot y
theorem tJ {H:Hp}{qs:List V}{fd:List (List Nat)}(h:cD H qs fd):Reps H (fd.map rowD) qs:=by
 induction h with
 | nil=>rfl
 | cons a _ ih =>
  obtain ⟨q,rfl,hq⟩:=a
  exact ⟨_,_,rfl,⟨q,_,rfl,hq,jS _⟩,ih⟩
theorem CQ {f Pt:Addr}{fd:FuncData}(F:mW K "law" "law" fN f fd)(T:Txt mg)(O__law_at:gB P w K mg base cT 1 "_law_at" (spAt K))(O__law_pot:gB P w K mg base cT 1 "_law_pot" spPot)(O__law_equation:gB P w K mg base cT 2 "_law_equation" spEq3)
  (O_least_rows:gB P w K mg base cT 4 "least_rows" oR) (O__law_rows:gB P w K mg base cT 1 "_law_rows" oQ) (O__law_least:gB P w K mg base cT 4 "_law_least" (lB Pt)):dE P w K mg base cT 5 f fd BR (spLaw K Pt):=by
 refine F.ok fM (fun vs H Q E h=>?_) (fun cdv A outer s H vs Q E hr h=>?_)
 ·obtain ⟨a,ns,rfl,_⟩:=h
  rfl
 ·obtain ⟨sc,script,rfl,ha,nl,_,hPt,q⟩:=h
  have hu:=hr.units
  refine ⟨_,(aP (tB (bF O__law_equation (hr.mono (by decide)) pass0 rfl (aA (bF O__law_pot (hr.mono (by decide)) pass0 rfl (aA (bF O__law_at (hr.mono (by decide)) pass0 rfl (aA (pv 0) (aA aH aD))) aD)) aD)) (dI K rfl (i:=1) (j:=2) rfl fM.nd rfl rfl rfl rfl))
   (aP (eA (i:=3) fM.nd rfl (Or.inl rfl) xU)
   (aP (iC PassesOwn.never rfl (cV K rfl (bF O__law_rows (hr.mono (by decide)) pass0 rfl (aA (pv 2) (aA (aQ (oB rfl) rfl T.n_max rfl (aA (aT aZ (cW (aA aH aD)) (pv 1)) aD)) aD)))) (jL rfl (bX (aW (i:=4) fM.nd rfl (Or.inr rfl)) (bX (aW (i:=5) fM.nd rfl (Or.inl rfl)) gO))) (aO (uF (Nat.lt_of_le_of_lt (Nat.add_le_add_left (by decide) _) hu) (pv 3) (pv 5) (aT aZ (qU (Nat.lt_of_le_of_lt (Nat.add_le_add_left (by decide) _) hu) (pv 3) (pv 5) (cW aD) ⟨rfl,rfl,rfl,rfl⟩) (cW (aA (pv 4) aD))) rfl)))
   (aP (eA (i:=6) fM.nd rfl (Or.inl rfl) (cW aD))
   (aP (iC PassesOwn.never rfl (cV K rfl (bF O__law_rows (hr.mono (by decide)) pass0 rfl (aA (pv 1) (aA (aQ (oB rfl) rfl T.n_max rfl (aA (aT aZ (cW (aA aH aD)) (pv 2)) aD)) aD)))) (jL rfl (bX (aW (i:=4) fM.nd rfl (Or.inr rfl)) (bX (aW (i:=5) fM.nd rfl (Or.inl rfl)) gO))) (aO (iW (uH PySem.F.plainAttrs_list PySem.F.slot_list_extend PySem.F.type_list_extend jQ (pv 6) (aA (cE rfl (aV.by (N:=BT) (names:=(aB fN).names) (N':=["_law_other","_law_row"]) (src:=[none,some 4]) (by decide +kernel) rfl rfl) (cV K rfl (qU (Nat.lt_of_le_of_lt (Nat.add_le_add_left (by decide) _) hu) (pv 3) (pv 5) (cW aD) ⟨rfl,rfl,rfl,rfl⟩)) (fun _ _ _ _=>(aW (i:=0) (show List.Nodup (["_law_other","_law_row"]:bE) by decide +kernel) rfl (Or.inl rfl))) (fun _ _ _ _=>(o9 (gM xX (aT aZ (aQ (g8 rfl) rfl T.n_sum rfl (aA (pv 1) aD)) (aQ (g8 rfl) rfl T.n_sum rfl (aA (pv 0) aD))) aH (nomark _)))) (fun _ _ _ _=>(aT aZ (pv 1) (pv 0)))) aD)))))
   (aO (bR (kT (tG hu) (bF O_least_rows (hr.mono (by decide)) pass0 rfl (aA (pv 1) (aA (pv 2) aD))) (bF O__law_least (hr.mono (by decide)) pass0 rfl (aA (pv 6) aD)) (nomark _))))))))),?_⟩
  clear hr F T hu O__law_at O__law_pot O__law_equation O_least_rows O__law_rows O__law_least
  simp only [eP,kN]
  refine ⟨_,rfl,sc,0,script,rfl,ha,by decide,by decide,fun n=>⟨n,rfl,fun p x0 y0 hp=>⟨p,rfl,⟨_,_,upd_same⟩,fun t a b ls rs H1 b1 p1 ht ha1 hb1 cl cr pos nap nbp=>?_⟩⟩⟩
  refine ⟨t,_,rfl,d7.of ht,rfl,_,_,rfl,_,_,rfl,rfl,?_⟩
  have hP1:H1 Pt=some (.tbl #[]):=b1 _ _ (fun z=>by rw [z,hp] at hPt;cases hPt) (aC.upd hp _ _ hPt)
  clear p1 ht b1 hp hPt ha nl nap nbp
  intro d hd
  have s2:aC H1 (upd H1 d (.dK [])):=aC.upd hd
  have gd:upd H1 d (.dK []) d=some (.dK []):=upd_same
  generalize upd H1 d (.dK [])=H2 at s2 gd ⊢
  have c4:=cl.1
  have r4:=cr.1
  have big:(1000000:Nat)<=sizeLine:=by decide
  refine ⟨_,rfl,show 1<=sizeLine by decide,fun z3 hz3=>?_⟩
  have s3:aC H2 (upd H2 z3 (.lst [.int 0])):=aC.upd hz3
  have g3:upd H2 z3 (.lst [.int 0]) z3=some (.lst ([(0:Int)].map V.int)):=upd_same
  generalize upd H2 z3 (.lst [.int 0])=H3 at s3 g3 ⊢
  refine ⟨_,rfl,.inr ⟨_,gZ g3 (s3 _ _ (s2 _ _ ha1)) (by simp only [List.length_map,List.length_cons,List.length_nil];omega),fun p4 hp4=>⟨p4,[0] ++ ls,rfl,by rw [upd_same,List.map_append],List.cons_ne_nil _ _,fun M m1 a1=>?_⟩⟩⟩
  have s4:=s3.trans (aC.upd (o:=.lst ([(0:Int)].map V.int ++ ls.map V.int)) hp4)
  generalize upd H3 p4 (.lst ([(0:Int)].map V.int ++ ls.map V.int))=H4 at s4 ⊢
  obtain ⟨mL,rfl,mL4,hL⟩:=uS cl m1 a1
  refine ⟨b,rs,mL,rfl,s4 _ _ (s2 _ _ hb1),cr,mL4,fun l5 qs5 H5 s5 nl5 hl5 pr5=>?_⟩
  have sA:=s2.trans (s4.trans s5)
  have gd5:=s5 _ _ (s4 _ _ gd)
  have nld:l5≠d:=fun z=>by rw [z,s4 _ _ gd] at nl5;cases nl5
  have len5:=mJ mL4 r4
  refine ⟨l5,qs5,rfl,.inl hl5,fun J hJ=>?_⟩
  refine jB hJ (B1 sc a b d rs (allR mL rs.length) H5) ⟨[],_,_,_,rfl,dZ.refl _ _,gd5,Nat.zero_le _,fun T=>.inl ⟨rfl,rfl⟩⟩ (fun i σ H' _ ⟨_,_,_,_,_,bt,_⟩=>by rw [hl5];exact bt _ _ nld hl5) ?_ ?_
  ·rintro i v σ H6 hv ⟨kvs,o4,o5,o6,rfl,bt,hd6,kl,da⟩
   obtain ⟨y,hy,t,r,rfl,ht5,hr5,_⟩:=pget' pr5 hv
   have ntd:t≠d:=fun z=>by rw [z,gd5] at ht5;cases ht5
   have nrd:r≠d:=fun z=>by rw [z,gd5] at hr5;cases hr5
   have ht6:=bt _ _ ntd ht5
   have hr6:=bt _ _ nrd hr5
   have il:=K42.lt_of hy
   refine ⟨t,_,rfl,d7.of ht6,rfl,_,_,rfl,_,_,rfl,rfl,?_⟩
   refine ⟨_,rfl,d,rfl,.inl ⟨kvs,Rd.of hd6⟩,_,rfl,Nat.zero_le _,fun e he=>?_⟩
   have s7:aC H6 (upd H6 e (.lst [])):=aC.upd he
   have ge:upd H6 e (.lst []) e=some (.lst []):=upd_same
   generalize upd H6 e (.lst [])=H7 at s7 ge ⊢
   refine ⟨_,.inl ⟨kvs,Sum.inl (dotZ rs (nI y)),Rd.of (s7 _ _ hd6),rfl,rfl⟩,_,rfl,show 1<=sizeLine by decide,fun e2 he2=>?_⟩
   have s8:=s7.trans (aC.upd (o:=.lst [.ref r]) he2)
   have ge2:upd H7 e2 (.lst [.ref r]) e2=some (.lst [.ref r]):=upd_same
   have ge8:=aC.upd (o:=.lst [.ref r]) he2 _ _ ge
   generalize upd H7 e2 (.lst [.ref r])=H8 at s8 ge2 ge8 ⊢
   obtain ⟨q0,vs0,e0,hq0,lp0⟩:∃ q0 vs0,(valV kvs (Sum.inl (dotZ rs (nI y)))).getD (.ref e) = .ref q0/\H8 q0=some (.lst vs0)/\cD H8 vs0 (same3 rs (dotZ rs (nI y)) ((allR mL rs.length).take i)):=by
    rcases da (dotZ rs (nI y)) with ⟨z1,z2⟩ | ⟨q,vs,z1,z2,z3⟩
    ·exact ⟨e,[],by rw [z1];rfl,ge8,by rw [z2];exact .nil⟩
    ·exact ⟨q,vs,by rw [z1];rfl,s8 _ _ z2,cD.same z3 s8⟩
   have lv:vs0.length<=625:=by
    have:=plen lp0
    have:=List.length_filter_le (fun y'=>decide (dotZ rs (nI y')=dotZ rs (nI y))) ((allR mL rs.length).take i)
    have:=List.length_take_le' i (allR mL rs.length)
    unfold same3 at *
    omega
   rw [e0]
   refine .inr ⟨_,gZ hq0 ge2 (by simp only [List.length_cons,List.length_nil];omega),fun n hn=>?_⟩
   have s9:=s8.trans (aC.upd (o:=.lst (vs0 ++ [.ref r])) hn)
   have gn:upd H8 n (.lst (vs0 ++ [.ref r])) n=some (.lst (vs0 ++ [.ref r])):=upd_same
   have lp9:cD (upd H8 n (.lst (vs0 ++ [.ref r]))) (vs0 ++ [.ref r]) (same3 rs (dotZ rs (nI y)) ((allR mL rs.length).take i) ++ [y]):=Paired.snoc (cD.same lp0 (aC.upd hn)) ⟨r,rfl,s9 _ _ hr6⟩
   generalize upd H8 n (.lst (vs0 ++ [.ref r]))=H9 at s9 gn lp9 ⊢
   have hd9:=s9 _ _ hd6
   have nl9:∀ b' xs',H9 b'=some (.lst xs')->upd H9 d (.dK (putK kvs (Sum.inl (dotZ rs (nI y))) (.ref n))) b'=some (.lst xs'):=fun b' xs' h=>by rw [aE (fun z=>by rw [z,hd9] at h;cases h)];exact h
   refine ⟨_,rfl,_,rfl,d,_,rfl,sK.k (k:=Sum.inl (dotZ rs (nI y))) hd9 (by omega),_,_,_,_,rfl,(bt.trans s9.but).trans (dZ.upd _ _ _),upd_same,by have:=fR kvs (Sum.inl (dotZ rs (nI y))) (.ref n);omega,fun T=>?_⟩
   rw [aM hy,sY,xA]
   by_cases e:T=dotZ rs (nI y)
   ·subst e
    rw [if_pos rfl,if_pos rfl]
    exact .inr ⟨n,_,rfl,nl9 _ _ gn,Paired.mapP lp9 fun _ _ ⟨q',a',b'⟩=>⟨q',a',nl9 _ _ b'⟩⟩
   ·rw [if_neg (fun z=>e (Sum.inl.inj z)),if_neg (Ne.symm e),List.append_nil]
    exact (da.same (fun b' xs' h=>nl9 _ _ (s9 _ _ h))) T
  rintro σ H6 ⟨kvs,o4,o5,o6,rfl,bt6,hd6,kl,da⟩
  rw [plen pr5,List.take_length] at da
  have keep6:∀ {c:Addr} {o:HO},H1 c=some o->H6 c=some o:=fun {c o} h=>bt6 _ _ (aG h hd) (sA _ _ h)
  have ha6:=keep6 ha1
  have hb6:=keep6 hb1
  have hP6:=keep6 hP1
  clear hJ pr5 hl5 nl5 s5 s4 s3 g3 hp4 hz3 bt6 sA gd5 nld gd s2
  refine ⟨Nat.zero_le _,fun g hg=>?_⟩
  have s7:aC H6 (upd H6 g (.lst [])):=aC.upd hg
  have gg:upd H6 g (.lst []) g=some (.lst []):=upd_same
  generalize upd H6 g (.lst [])=H7 at s7 gg ⊢
  refine ⟨_,rfl,show 1<=sizeLine by decide,fun z3 hz3=>?_⟩
  have s3:aC H7 (upd H7 z3 (.lst [.int 0])):=aC.upd hz3
  have g3:upd H7 z3 (.lst [.int 0]) z3=some (.lst ([(0:Int)].map V.int)):=upd_same
  generalize upd H7 z3 (.lst [.int 0])=H8 at s3 g3 ⊢
  refine ⟨_,rfl,.inr ⟨_,gZ g3 (s3 _ _ (s7 _ _ hb6)) (by simp only [List.length_map,List.length_cons,List.length_nil];omega),fun p4 hp4=>⟨p4,[0] ++ rs,rfl,by rw [upd_same,List.map_append],List.cons_ne_nil _ _,fun M m2 a2=>?_⟩⟩⟩
  have s4:=s3.trans (aC.upd (o:=.lst ([(0:Int)].map V.int ++ rs.map V.int)) hp4)
  generalize upd H8 p4 (.lst ([(0:Int)].map V.int ++ rs.map V.int))=H9 at s4 ⊢
  obtain ⟨mR,rfl,mR4,hR⟩:=uS cr m2 a2
  refine ⟨a,ls,mR,rfl,s4 _ _ (s7 _ _ ha6),cl,mR4,fun l5 qs5 H10 s5 nl5 hl5 pr5=>?_⟩
  have sB:=s7.trans (s4.trans s5)
  have gg10:=s5 _ _ (s4 _ _ gg)
  have nlg:l5≠g:=fun z=>by rw [z,s4 _ _ gg] at nl5;cases nl5
  have lenR:=mJ mR4 c4
  have hd10:=sB _ _ hd6
  have da10:=da.same (fun b' xs' h=>sB _ _ h)
  refine ⟨l5,qs5,rfl,.inl hl5,fun J hJ=>?_⟩
  have ndg:d≠g:=fun z=>by rw [z,gg10] at hd10;cases hd10
  refine jB hJ (B2 sc a b d g ls rs (allR mR ls.length) (allR mL rs.length) H10) ⟨[],[],_,_,rfl,dZ.refl _ _,gg10,Nat.zero_le _,.nil,fun z=>by simp⟩ (fun i σ H' _ ⟨_,_,_,_,_,bt,_⟩=>by rw [hl5];exact bt _ _ nlg hl5) ?_ ?_
  ·rintro i v σ H11 hv ⟨gs,rw_,o4,o5,rfl,bt,hg11,gl,gp,gi⟩
   obtain ⟨x,hx,t,r,rfl,ht10,hr10,nr9⟩:=pget' pr5 hv
   have ntg:t≠g:=fun z=>by rw [z,gg10] at ht10;cases ht10
   have nrg:r≠g:=fun z=>by rw [z,s4 _ _ gg] at nr9;cases nr9
   have ht11:=bt _ _ ntg ht10
   have hr11:=bt _ _ nrg hr10
   have hd11:=bt _ _ ndg hd10
   have il:=K42.lt_of hx
   have xl:=(cK.mp (List.mem_of_getElem? hx)).1
   refine ⟨t,_,rfl,d7.of ht11,rfl,_,_,rfl,_,_,rfl,rfl,?_⟩
   refine ⟨_,rfl,tyL hg11,_,rfl,d,rfl,.inl ⟨kvs,Rd.of hd11⟩,_,rfl,Nat.zero_le _,fun e he=>?_⟩
   have s12:aC H11 (upd H11 e (.lst [])):=aC.upd he
   have ge:upd H11 e (.lst []) e=some (.lst []):=upd_same
   generalize upd H11 e (.lst [])=H12 at s12 ge ⊢
   refine ⟨_,.inl ⟨kvs,Sum.inl (dotZ ls (nI x)),Rd.of (s12 _ _ hd11),rfl,rfl⟩,?_⟩
   obtain ⟨q0,vs0,e0,hq0,lp0⟩:∃ q0 vs0,(valV kvs (Sum.inl (dotZ ls (nI x)))).getD (.ref e) = .ref q0/\H12 q0=some (.lst vs0)/\cD H12 vs0 (same3 rs (dotZ ls (nI x)) (allR mL rs.length)):=by
    rcases da (dotZ ls (nI x)) with ⟨z1,z2⟩ | ⟨q',vs,z1,z2,z3⟩
    ·exact ⟨e,[],by rw [z1];rfl,ge,by rw [z2];exact .nil⟩
    ·have up:∀ {c:Addr} {o:HO},H6 c=some o->H12 c=some o:=fun {c o} h=>s12 _ _ (bt _ _ (aG h hg) (sB _ _ h))
     exact ⟨q',vs,by rw [z1];rfl,up z2,Paired.mapP z3 fun _ _ ⟨q1,h1,h2⟩=>⟨q1,h1,up h2⟩⟩
   rw [e0]
   have lv:vs0.length<=625:=by
    have:=plen lp0
    have:=List.length_filter_le (fun y'=>decide (dotZ rs (nI y')=dotZ ls (nI x))) (allR mL rs.length)
    unfold same3 at *
    omega
   refine ⟨q0,vs0,rfl,.inl hq0,fun J' hJ'=>?_⟩
   refine cX hJ' (C2 g r x (same3 rs (dotZ ls (nI x)) (allR mL rs.length)) H12) ⟨_,[],rfl,aC.refl _,Nat.zero_le _,.nil,fun z=>by simp⟩ (fun i acc σ H' _ ⟨_,_,_,s,_⟩=>by rw [hq0];exact s _ _ hq0) ?_ ?_
   ·rintro j w acc σ H13 hw ⟨o,zs,rfl,s13,la,pa,hz⟩
    obtain ⟨y,hy,q1,rfl,hq1⟩:=pget' lp0 hw
    have jl:=K42.lt_of hw
    have yl:=(cK.mp (List.mem_filter.mp (List.mem_of_getElem? hy)).1).1
    have hr13:=s13 _ _ (s12 _ _ hr11)
    have hy13:=s13 _ _ hq1
    refine ⟨_,rfl,r,nI x,rfl,hr13,_,rfl,q1,nI y,rfl,hy13,.inl ⟨_,rfl,_,_,rfl,rfl,_,rfl,iH (fun k=>?_) fun k=>?_⟩⟩
    ·have tp:0 < K42.tot x + K42.tot y:=by
      have:=of_decide_eq_true k
      rw [jP,jP] at this
      omega
     refine ⟨_,rfl,_,rfl,.inr ⟨_,gZ hr13 hy13 (by simp only [List.length_map,eB];omega),fun n hn=>⟨by omega,_,zs ++ [x ++ y],rfl,s13.trans (aC.upd hn),by rw [List.length_append,List.length_singleton];omega,?_,fun z=>?_⟩⟩⟩
     ·refine Paired.snoc (Paired.mapP pa fun _ _ ⟨q2,h1,h2,h3⟩=>⟨q2,h1,h2,aC.upd hn _ _ h3⟩) ⟨n,rfl,fun z=>?_,?_⟩
      ·rw [z,s13 _ _ (s12 _ _ hg11)] at hn;cases hn
      ·rw [upd_same];unfold nI;simp
     ·rw [List.mem_append,List.mem_singleton,hz z,aM hy]
      constructor
      ·rintro (⟨y',hy',h1⟩ | rfl)
       ·exact ⟨y',List.mem_append_left _ hy',h1⟩
       ·exact ⟨y,List.mem_append_right _ List.mem_cons_self,rfl,tp⟩
      ·rintro ⟨y',hy',h1,h2⟩
       rcases List.mem_append.mp hy' with m | m
       ·exact .inl ⟨y',m,h1,h2⟩
       ·rw [List.mem_singleton.mp m] at h1
        exact .inr h1
    ·have tp:¬ 0 < K42.tot x + K42.tot y:=by
      have:=of_decide_eq_false k
      rw [jP,jP] at this
      omega
     refine ⟨_,zs,rfl,s13,by omega,pa,fun z=>?_⟩
     rw [hz z,aM hy]
     constructor
     ·rintro ⟨y',hy',h1⟩
      exact ⟨y',List.mem_append_left _ hy',h1⟩
     ·rintro ⟨y',hy',h1,h2⟩
      rcases List.mem_append.mp hy' with m | m
      ·exact ⟨y',m,h1,h2⟩
      ·rw [List.mem_singleton.mp m] at h2
       exact absurd h2 tp
   ·rintro acc σ H13 ⟨o,zs,rfl,s13,la,pa,hz⟩ p14 hp14
    have s14:=s12.trans (s13.trans (aC.upd (o:=.lst acc) hp14))
    have hg14:=s14 _ _ hg11
    refine ⟨g,p14,gs,acc,rfl,rfl,hg14,upd_same,by have:=Nat.mul_le_mul_right 625 (show i<=625 by omega);omega,gs ++ acc,rw_ ++ zs,_,_,rfl,(bt.trans s14.but).trans (dZ.upd _ _ _),upd_same,by rw [List.length_append,Nat.succ_mul];omega,?_,fun z=>?_⟩
    ·refine papp (Paired.mapP gp fun _ _ ⟨q2,h1,h2,h3⟩=>⟨q2,h1,h2,?_⟩) (Paired.mapP pa fun _ _ ⟨q2,h1,h2,h3⟩=>⟨q2,h1,h2,?_⟩)
     ·rw [aE h2];exact s14 _ _ h3
     ·rw [aE h2];exact aC.upd hp14 _ _ h3
    ·rw [List.mem_append,gi z,hz z,aM hx,plen lp0,List.take_length]
     constructor
     ·rintro (⟨x',hx',h1⟩ | ⟨y,hy,h1,h2⟩)
      ·exact ⟨x',List.mem_append_left _ hx',h1⟩
      ·obtain ⟨m1',m2'⟩:=List.mem_filter.mp hy
       exact ⟨x,List.mem_append_right _ List.mem_cons_self,y,m1',h1,(of_decide_eq_true m2').symm,h2⟩
     ·rintro ⟨x',hx',y,hy,h1,h2,h3⟩
      rcases List.mem_append.mp hx' with m | m
      ·exact .inl ⟨x',m,y,hy,h1,h2,h3⟩
      ·rw [List.mem_singleton.mp m] at h1 h2 h3
       exact .inr ⟨y,List.mem_filter.mpr ⟨hy,decide_eq_true h2.symm⟩,h1,h3⟩
  rintro σ H11 ⟨gs,rw_,o4,o5,rfl,bt,hg11,gl,gp,gi⟩
  rw [plen pr5] at gl gi
  rw [List.take_length] at gi
  have keep11:∀ {c:Addr} {o:HO},H6 c=some o->H11 c=some o:=fun {c o} h=>bt _ _ (aG h hg) (sB _ _ h)
  refine ⟨_,rfl,_,rfl,a,b,ls,rs,rfl,.inl (keep11 ha6),.inl (keep11 hb6),cl,cr,pos,fun l2 qs2 fd2 H12 s12 _ hl2 rl2 R2=>?_⟩
  have gp12:cD H12 gs rw_:=Paired.mapP gp fun _ _ ⟨q',h1,_,h3⟩=>⟨q',h1,s12 _ _ h3⟩
  have put:D7 ls rs mL mR rw_:=fun z=>by
   rw [gi z]
   constructor
   ·rintro ⟨x,hx,y,hy,e1,e2,e3⟩
    exact ⟨x,y,e1,hx,hy,e2,e3⟩
   ·rintro ⟨x,y,e1,hx,hy,e2,e3⟩
    exact ⟨x,hx,y,hy,e1,e2,e3⟩
  have lt12:LT Pt H12:=.inl (s12 _ _ (keep11 hP6))
  have rn:∀ z ∈ rw_,z.length=ls.length + rs.length:=fun z hz=>by
   obtain ⟨x,y,rfl,hx,hy,_⟩:=(put z).mp hz
   rw [List.length_append,(cK.mp hx).1,(cK.mp hy).1]
  refine ⟨_,rfl,g,gs,rw_,ls.length + rs.length,rfl,s12 _ _ hg11,lt12,gp12,?_,by omega,rn,fun l3 ys fd3 H13 b13 _ hl3 lp3 nd3 is3 up3=>?_⟩
  ·exact Nat.le_trans gl (Nat.le_trans (Nat.mul_le_mul_right 625 lenR) (by decide))
  have R3:Rows (sgn ls rs) fd3:=⟨nd3,fun x=>(is3 x).trans (AG cl cr hL hR put x),up3⟩
  have e:=R2.eq R3
  subst e
  have ne:∀ {c:Addr} {o:HO},H12 c=some o->(∀ ps,o≠.tbl ps)->c≠Pt:=fun h k=>lt12.ne h k
  refine ⟨.lst (fd2.map rowD),.lst (fd2.map rowD),⟨l2,qs2,rfl,b13 _ _ (ne hl2 fun _=>by simp) hl2,?_⟩,⟨l3,ys,rfl,hl3,?_⟩,?_,?_⟩
  ·exact vU (H0:=H11) (Paired.mapP rl2 fun _ _ ⟨q',h1,h2,h3⟩=>⟨q',h1,h2,b13 _ _ (ne h3 fun _=>by simp) h3⟩)
  ·exact tJ lp3
  ·have:=rL fd2
   rw [depD]
   omega
  ·rw [mC]
   exact q _
end
end Lw
namespace Lw
open PySem PySem.Spec PyProof.Rows PySem.W L2
theorem tY {K:Frag}{h:Heap}{x:Str}{c Pt:Addr}(X:K.In h)(ht:tabIn K x=some (c,Pt))(C:CodeHd h c Pt):∀ h',K.In h'->CodeHd h' c Pt:=by
 have lk:∃ o,K.lookup c=some o:=by
  unfold tabIn at ht
  split at ht
  ·split at ht
   ·split at ht
    ·split at ht
     ·rename_i c2 _ _ _ _ _ hc
      split at ht
      ·cases ht;exact ⟨_,hc⟩
      ·cases ht
     ·cases ht
    ·cases ht
   ·cases ht
  ·cases ht
 obtain ⟨o,lk⟩:=lk
 obtain ⟨o',vs,r1,r2,r3,r4,r5,r6,r7,e,r⟩:=C
 intro h' X'
 have e1:=X _ _ lk
 rw [e] at e1
 cases e1
 exact ⟨_,vs,r1,r2,r3,r4,r5,r6,r7,X' _ _ lk,r⟩
theorem wA {P:Program}{w:World}{K:Frag}{mg mb:eV}{k:Nat}{fa a c Pt:Addr}{fd:FuncData}{x:Str}{sp:Sp}{s1:Shared}{vs:bJ}{ns:List Int}
  (KX:K.In s1.heap) (hns:s1.heap.Ns mainGlobals mg) (hb:s1.heap.Ns builtinsNs mb) (hbb:∀ x:Str,x≠"__name__"->mb x=bootBuiltins x) (hlim:s1.heap.NoLimit) (hg:s1.gens = #[])
  (ha:s1.heap.get? a=some { cls:=.type "list",data:=.seq vs.toArray }) (hi:IntsAre vs ns) (hl:ns.length<=sizeLine) (hr:dX k callerA)
  (hT:CodeHd s1.heap c Pt) (hP:s1.heap.get? Pt=some (tabObj #[])) (hKP:K.lookup Pt=none) (hB:Bm mg s1.heap)
  (F:∀ base:Heap,K.In base->base.Ns mainGlobals mg->Bm mg base->dE P w K mg base cT k fa fd [x] sp) (hbind:∀ (s:Shared) (u:Value),BindsTo s fd ⟨[u],[]⟩ [(x,u)])
  (hsp:∀ H:Hp,(∀ xs,H a≠some (.lst xs))->H Pt=some (.tbl #[])->cY K H a (ns.map V.int)->sp [.ref a] H (fun v _=>v = .bl true) fun _ _ _=>False) :
  codeAny (model P w) callerA (.call (.ref fa) ⟨[.ref a],[]⟩) (fun r s'=>r = .ok (.ret (.bool true))/\OldK s1.heap s'.heap/\s'.os=s1.os/\AllBare s'.gens) s1:=by
 have rv:=nC hi
 have lenV:=hi.length
 have nPa:Pt≠a:=fun z=>by rw [z,ha] at hP;cases hP
 have core:∀ H:Hp,H Pt=some (.tbl #[])->(∀ b,b≠Pt->H b≠none->b=a/\K.lookup a=none/\∃ o xs,H a=some (.frz o (.lst xs)))->cY K H a (ns.map V.int)->eD P w H s1.heap ->
   codeAny (model P w) callerA (.call (.ref fa) ⟨[.ref a],[]⟩) (fun r s'=>r = .ok (.ret (.bool true))/\OldK s1.heap s'.heap/\s'.os=s1.os/\AllBare s'.gens) s1:=by
  intro H hH hA hS hok
  have free:∀ {b:Addr} {o:Obj},s1.heap.get? b=some o->o≠tabObj #[]->(b=a->K.lookup a=none->False)->H b=none:=fun {b o} e n n2=>by
   cases q:H b with
   | none=>rfl
   | some u =>
    by_cases z:b=Pt
    ·rw [z,hP] at e;exact absurd (Option.some.inj e).symm n
    ·obtain ⟨z1,z2,_⟩:=hA b z (by rw [q];simp)
     exact (n2 z1 z2).elim
  have nsK:∀ {b:Addr} {m:eV},s1.heap.Ns b m->(hidT s1.heap H).Ns b m:=fun {b m} ⟨o,es,ep,e,d,r⟩=>⟨o,es,ep,lZ e (free e (fun z=>by rw [z] at d;cases d) (fun z _=>by rw [z,ha] at e;cases e;cases d)),d,r⟩
  have hKb:K.In (hidT s1.heap H):=fun b o e=>lZ (KX b o e) (by
   cases q:H b with
   | none=>rfl
   | some u =>
    by_cases z:b=Pt
    ·rw [z,hKP] at e;cases e
    ·obtain ⟨z1,z2,_⟩:=hA b z (by rw [q];simp)
     rw [z1,z2] at e;cases e)
  have hM:Mod K mg (hidT s1.heap H):=⟨hKb,nsK hns,⟨mb,nsK hb,hbb⟩,let ⟨mc,h1,h2⟩:=hlim;⟨mc,nsK h1,h2⟩⟩
  have hB':Bm mg (hidT s1.heap H):=by
   obtain ⟨bm,o,e1,e2,e3,e4,e5,e6,e7⟩:=hB
   exact ⟨bm,o,e1,e2,e3,lZ e4 (free e4 (fun z=>by rw [z] at e5;cases e5) (fun z _=>by rw [z,ha] at e4;cases e4;cases e7)),e5,e6,e7⟩
  have e0:zI P w K mg (hidT s1.heap H) callerA [] s1 H:=⟨rfl,hM,fun b o e=>AS e,Nat.le_of_eq (wF _ _),trivial,fun b hb=>absurd (show b ∈ ([]:List Addr) from hb) (by simp),hok,.of_eq hg⟩
  have nl:∀ xs,H a≠some (.lst xs):=fun xs z=>by
   obtain ⟨_,_,o,ys,e⟩:=hA a (Ne.symm nPa) (by rw [z];simp)
   rw [z] at e;cases e
  refine codeAny_mono ((F _ hKb (nsK hns) hB').run callerA [] s1 H ⟨[.ref a],[]⟩ [.ref a] [.ref a] _ _ hr e0 (hbind s1 (.ref a)) (.cons rfl .nil) (hsp H nl hH hS)) fun r s' h=>?_
  cases r with
  | error e=>exact False.elim h
  | ok fl =>
   cases fl with
   | next=>exact False.elim h
   | brk=>exact False.elim h
   | cont=>exact False.elim h
   | ret u =>
    obtain ⟨v,H',os,bare,un,hok',r',q⟩:=h
    have q':v = .bl true:=q
    subst q'
    obtain rfl:u=Value.bool true:=r'
    have keep:∀ b o,b≠Pt->s1.heap.get? b=some o->s'.heap.get? b=some o:=fun b o n e=>by
     cases q:H b with
     | none=>exact un.keep b o e q (by intro z;exact absurd (show b ∈ ([]:List Addr) from z) (by simp)) (by simp)
     | some u =>
      obtain ⟨rfl,_,ob,xs,z⟩:=hA b n (by rw [q];simp)
      have z2:=un.frzs b ob _ z
      obtain ⟨e1,_⟩:=hok b _ z
      obtain ⟨e2,_⟩:=hok' b _ z2
      rw [e] at e1;cases e1
      exact e2
    obtain ⟨more,hm⟩:=un.tbls Pt #[] hH
    have gP:s'.heap.get? Pt=some (tabObj (#[] ++ more)):=hok' Pt _ hm
    refine ⟨rfl,⟨fun b o e=>?_,fun b o e=>?_⟩,os,bare⟩
    ·by_cases z:b=Pt
     ·subst z
      rw [hP] at e;cases e
      exact .inr (.inl ⟨(hT.tab hP).isCodeTable,rfl,#[],more,rfl,gP⟩)
     ·exact .inl (keep b o z e)
    ·by_cases z:b=Pt
     ·subst z;exact ⟨_,gP⟩
     ·exact ⟨o,keep b o z e⟩
 cases hk:K.lookup a with
 | some o =>
  have e:=KX a o hk
  rw [ha] at e
  cases e
  refine core (fun b=>if b=Pt then some (.tbl #[]) else none) (if_pos rfl) (fun b n z=>absurd (if_neg n) z) (.inr ⟨_,vs.toArray,_,hk,rfl,rfl,rfl,by rw [List.size_toArray,lenV];exact hl,by simpa using rv⟩) fun b u z=>?_
  by_cases hb:b=Pt
  ·have z':=(if_pos hb).symm.trans z
   cases z'
   subst hb
   exact hP
  ·have z':=(if_neg hb).symm.trans z
   cases z'
 | none =>
  refine core (fun b=>if b=Pt then some (.tbl #[]) else if b=a then some (.frz { cls:=.type "list",data:=.seq vs.toArray } (.lst (ns.map V.int))) else none) (if_pos rfl) (fun b n z=>?_) (.inl (.inr ⟨{ cls:=.type "list",data:=.seq vs.toArray },(if_neg (Ne.symm nPa)).trans (if_pos rfl)⟩)) (fun b u z=>?_)
  ·by_cases hb:b=a
   ·exact ⟨hb,hk,_,_,(if_neg (Ne.symm nPa)).trans (if_pos rfl)⟩
   ·exact absurd ((if_neg n).trans (if_neg hb)) z
  ·by_cases hp:b=Pt
   ·have z':=(if_pos hp).symm.trans z
    cases z'
    subst hp
    exact hP
   ·by_cases hb:b=a
    ·have z':=((if_neg hp).trans (if_pos hb)).symm.trans z
     cases z'
     subst hb
     exact ⟨ha,by rw [List.length_map];exact hl,vs,_,rv,ha⟩
    ·have z':=((if_neg hp).trans (if_neg hb)).symm.trans z
     cases z'
theorem walkT {l:PySem.W.OpenLaw}{q:Program}{loose:bE}{XP:(eV)->Heap->Prop}{YP:World->Heap->Prop}{d dp:DefRec}{K:Params->PySem.W.Frag}(hn:l.most=some 63)(hdf:d.params.defaults=[])
  (hY:∀ (w:World) (h:Heap),YP w h->(K w.params).In h) (hq:(recsOf q).find? (fun e=>e.name == ("_law_least" : Str))=some dp)
  (F:∀ (w:World) (mg:eV) (fa:Addr) (h:Heap),(K w.params).In h->h.Ns mainGlobals mg->mg d.name=some (.ref fa) ->
   ∃ (fd:FuncData) (c Pt:Addr),tabIn (K w.params) "_law_least" = some (c,Pt)/\(K w.params).lookup Pt=none/\(∀ (s:Shared) (u:Value),BindsTo s fd ⟨[u],[]⟩ [("_law_script",u)]) /\
    ∀ base:Heap,(K w.params).In base->base.Ns mainGlobals mg->Bm mg base->(∀ h,(K w.params).In h->CodeHd h c Pt)->dE l.prog w (K w.params) mg base cT 5 fa fd ["_law_script"] (spLaw (K w.params) Pt)) :
  PySem.W.WalkO q loose XP YP l.row.toRowW d [] (fun f vs=>PySem.call f vs):=by
 refine Att.rZ hn hdf fun w s0 s1 mg mb fa o pm cd doc a vs ns G Y ho hd hcd hmg hobj hints hlen hg=>?_
 have KX:=hY w _ Y
 obtain ⟨fd,c,Pt,ht,hKP,hb,hF⟩:=F w mg fa _ KX G.T.g hmg
 obtain ⟨hC,hP⟩:=tab_of G.T KX hq ht
 have hB:Bm mg s1.heap:=by
  obtain ⟨bm,ob,e1,e2,e3,e4,e5,e6⟩:=G.T.bmain
  refine ⟨bm,ob,e1,e2,fun z=>?_,e3,e4,e5,e6⟩
  obtain ⟨o',es,ep,g1,g2,_⟩:=G.T.g
  rw [z,g1] at e3
  cases e3
  rw [e6] at g2
  cases g2
 exact wA KX G.T.g G.T.b G.T.builtins G.T.nolimit hg hobj hints (Nat.le_trans hlen (by decide)) ⟨rfl,by decide,by decide⟩ hC hP hKP hB (fun base kb nb bb=>hF base kb nb bb (tY KX ht hC)) hb
  fun H nl hH hS=>⟨a,ns,rfl,hS,nl,hlen,hH,fun _=>rfl⟩
theorem len1 {us:bJ}{P:bJ->Prop}(h:us.length=1)(k:∀ a,P [a]):P us:=match us,h with | [a],_=>k a
theorem len2 {us:bJ}{P:bJ->Prop}(h:us.length=2)(k:∀ a b,P [a,b]):P us:=match us,h with | [a,b],_=>k a b
theorem DH {l:PySem.W.OpenLaw}{w:World}{K:PySem.W.Frag}{h:Heap}{mg:eV}{fa cc Pt f1 f2 f3 f4 f5 f6 f7 f8 f9 f10 f11 f12 f13 f14 f15 f16 f17 f18:Addr}(X:K.In h)(G:h.Ns mainGlobals mg)(hfa:mg "law" = some (.ref fa))
  {od1 an1 od2 an2 od3 an3 od4 an4 od5 an5 od6 an6 od7 an7 od8 an8 od9 an9 od10 an10 od11 an11 od12 an12 od13 an13 od14 an14 od15 an15 od16 an16 od17 an17 od18 an18:Option Addr} {sl1 sl2 sl3 sl4 sl5 sl6 sl7 sl8 sl9 sl10 sl11 sl12 sl13 sl14 sl15 sl16 sl17 sl18:Array (Option Value)} {oc1 kV1 dc1 pm1 ct1 cd1 oc2 kV2 dc2 pm2 ct2 cd2 oc3 kV3 dc3 pm3 ct3 cd3 oc4 kV4 dc4 pm4 ct4 cd4 oc5 kV5 dc5 pm5 ct5 cd5 oc6 kV6 dc6 pm6 ct6 cd6 oc7 kV7 dc7 pm7 ct7 cd7 oc8 kV8 dc8 pm8 ct8 cd8 oc9 kV9 dc9 pm9 ct9 cd9 oc10 kV10 dc10 pm10 ct10 cd10 oc11 kV11 dc11 pm11 ct11 cd11 oc12 kV12 dc12 pm12 ct12 cd12 oc13 kV13 dc13 pm13 ct13 cd13 oc14 kV14 dc14 pm14 ct14 cd14 oc15 kV15 dc15 pm15 ct15 cd15 oc16 kV16 dc16 pm16 ct16 cd16 oc17 kV17 dc17 pm17 ct17 oc18 kV18 dc18 pm18 ct18 cd18:Value} {tk0 tk1:Tok} {odq:Option Addr} {ocq:Value} {vq:d8} {slq:Array (Option Value)}
  (a1:nsIn K mainGlobals "is_whole" = some (some (.ref f1)))
  (l1:K.lookup f1=some ⟨oc1,od1,.func (PySem.W.fnOf "is_whole" "is_whole" (aS cP) (aR cP) (aB cP) .none kV1 dc1 pm1 an1 cd1 ct1),sl1⟩)
  (c1:codeIn K cd1 "is_whole" = true)
  (k1:keepIn K (.ref f1)=true)
  (a2:nsIn K mainGlobals "is_counts" = some (some (.ref f2)))
  (l2:K.lookup f2=some ⟨oc2,od2,.func (PySem.W.fnOf "is_counts" "is_counts" (aS bS) (aR bS) (aB bS) .none kV2 dc2 pm2 an2 cd2 ct2),sl2⟩)
  (c2:codeIn K cd2 "is_counts" = true)
  (k2:keepIn K (.ref f2)=true)
  (a3:nsIn K mainGlobals "check_equation" = some (some (.ref f3)))
  (l3:K.lookup f3=some ⟨oc3,od3,.func (PySem.W.fnOf "check_equation" "check_equation" (aS bC) (aR bC) (aB bC) .none kV3 dc3 pm3 an3 cd3 ct3),sl3⟩)
  (c3:codeIn K cd3 "check_equation" = true)
  (k3:keepIn K (.ref f3)=true)
  (a4:nsIn K mainGlobals "signed" = some (some (.ref f4)))
  (l4:K.lookup f4=some ⟨oc4,od4,.func (PySem.W.fnOf "signed" "signed" (aS dH) (aR dH) (aB dH) .none kV4 dc4 pm4 an4 cd4 ct4),sl4⟩)
  (c4:codeIn K cd4 "signed" = true)
  (k4:keepIn K (.ref f4)=true)
  (a5:nsIn K mainGlobals "weight" = some (some (.ref f5)))
  (l5:K.lookup f5=some ⟨oc5,od5,.func (PySem.W.fnOf "weight" "weight" (aS dG) (aR dG) (aB dG) .none kV5 dc5 pm5 an5 cd5 ct5),sl5⟩)
  (c5:codeIn K cd5 "weight" = true)
  (k5:keepIn K (.ref f5)=true)
  (a6:nsIn K mainGlobals "is_under" = some (some (.ref f6)))
  (l6:K.lookup f6=some ⟨oc6,od6,.func (PySem.W.fnOf "is_under" "is_under" (aS cI) (aR cI) (aB cI) .none kV6 dc6 pm6 an6 cd6 ct6),sl6⟩)
  (c6:codeIn K cd6 "is_under" = true)
  (k6:keepIn K (.ref f6)=true)
  (a7:nsIn K mainGlobals "unit" = some (some (.ref f7)))
  (l7:K.lookup f7=some ⟨oc7,od7,.func (PySem.W.fnOf "unit" "unit" (aS iB) (aR iB) (aB iB) .none kV7 dc7 pm7 an7 cd7 ct7),sl7⟩)
  (c7:codeIn K cd7 "unit" = true)
  (k7:keepIn K (.ref f7)=true)
  (a8:nsIn K mainGlobals "one_more" = some (some (.ref f8)))
  (l8:K.lookup f8=some ⟨oc8,od8,.func (PySem.W.fnOf "one_more" "one_more" (aS cN) (aR cN) (aB cN) .none kV8 dc8 pm8 an8 cd8 ct8),sl8⟩)
  (c8:codeIn K cd8 "one_more" = true)
  (k8:keepIn K (.ref f8)=true)
  (a9:nsIn K mainGlobals "grown_rows" = some (some (.ref f9)))
  (l9:K.lookup f9=some ⟨oc9,od9,.func (PySem.W.fnOf "grown_rows" "grown_rows" (aS aX) (aR aX) (aB aX) .none kV9 dc9 pm9 an9 cd9 ct9),sl9⟩)
  (c9:codeIn K cd9 "grown_rows" = true)
  (k9:keepIn K (.ref f9)=true)
  (a10:nsIn K mainGlobals "least_rows" = some (some (.ref f10)))
  (l10:K.lookup f10=some ⟨oc10,od10,.func (PySem.W.fnOf "least_rows" "least_rows" (aS bD) (aR bD) (aB bD) .none kV10 dc10 pm10 an10 cd10 ct10),sl10⟩)
  (c10:codeIn K cd10 "least_rows" = true)
  (k10:keepIn K (.ref f10)=true)
  (a11:nsIn K mainGlobals "_law_at" = some (some (.ref f11)))
  (l11:K.lookup f11=some ⟨oc11,od11,.func (PySem.W.fnOf "_law_at" "_law_at" (aS c0) (aR c0) (aB c0) .none kV11 dc11 pm11 an11 cd11 ct11),sl11⟩)
  (c11:codeIn K cd11 "_law_at" = true)
  (k11:keepIn K (.ref f11)=true)
  (a12:nsIn K mainGlobals "_law_pot" = some (some (.ref f12)))
  (l12:K.lookup f12=some ⟨oc12,od12,.func (PySem.W.fnOf "_law_pot" "_law_pot" (aS cQ) (aR cQ) (aB cQ) .none kV12 dc12 pm12 an12 cd12 ct12),sl12⟩)
  (c12:codeIn K cd12 "_law_pot" = true)
  (k12:keepIn K (.ref f12)=true)
  (a13:nsIn K mainGlobals "_law_take" = some (some (.ref f13)))
  (l13:K.lookup f13=some ⟨oc13,od13,.func (PySem.W.fnOf "_law_take" "_law_take" (aS cJ) (aR cJ) (aB cJ) .none kV13 dc13 pm13 an13 cd13 ct13),sl13⟩)
  (c13:codeIn K cd13 "_law_take" = true)
  (k13:keepIn K (.ref f13)=true)
  (a14:nsIn K mainGlobals "_law_equation" = some (some (.ref f14)))
  (l14:K.lookup f14=some ⟨oc14,od14,.func (PySem.W.fnOf "_law_equation" "_law_equation" (aS aY) (aR aY) (aB aY) .none kV14 dc14 pm14 an14 cd14 ct14),sl14⟩)
  (c14:codeIn K cd14 "_law_equation" = true)
  (k14:keepIn K (.ref f14)=true)
  (a15:nsIn K mainGlobals "_law_rows" = some (some (.ref f15)))
  (l15:K.lookup f15=some ⟨oc15,od15,.func (PySem.W.fnOf "_law_rows" "_law_rows" (aS bT) (aR bT) (aB bT) .none kV15 dc15 pm15 an15 cd15 ct15),sl15⟩)
  (c15:codeIn K cd15 "_law_rows" = true)
  (k15:keepIn K (.ref f15)=true)
  (a16:nsIn K mainGlobals "_law_under" = some (some (.ref f16)))
  (l16:K.lookup f16=some ⟨oc16,od16,.func (PySem.W.fnOf "_law_under" "_law_under" (aS bM) (aR bM) (aB bM) .none kV16 dc16 pm16 an16 cd16 ct16),sl16⟩)
  (c16:codeIn K cd16 "_law_under" = true)
  (k16:keepIn K (.ref f16)=true)
  (a17:nsIn K mainGlobals "_law_least" = some (some (.ref f17)))
  (l17:K.lookup f17=some ⟨oc17,od17,.func (PySem.W.fnOf "_law_least" "_law_least" (aS aN) (aR aN) (aB aN) .none kV17 dc17 pm17 an17 (.ref cc) ct17),sl17⟩)
  (c17:codeIn K (.ref cc) "_law_least" = true)
  (k17:keepIn K (.ref f17)=true)
  (t2:K.lookup cc=some ⟨ocq,odq,.fields vq,slq⟩)
  (t3:vq[11]?=some (.ref Pt))
  (t0:tabIn K "_law_least" = some (cc,Pt))
  (t1:K.lookup Pt=none)
  (a18:nsIn K mainGlobals "law" = some (some (.ref f18)))
  (l18:K.lookup f18=some ⟨oc18,od18,.func (PySem.W.fnOf "law" "law" (aS fN) (aR fN) (aB fN) .none kV18 dc18 pm18 an18 cd18 ct18),sl18⟩)
  (c18:codeIn K cd18 "law" = true)
  (k18:keepIn K (.ref f18)=true)
  (v0:nsIn K mainGlobals "MOST_COUNTS" = some (some (.int 4 tk0)))
  (v1:nsIn K mainGlobals "GREATEST_COUNT" = some (some (.int 4 tk1)))
  (z0:nsIn K mainGlobals "len" = some none)
  (z1:nsIn K mainGlobals "range" = some none)
  (z2:nsIn K mainGlobals "int" = some none)
  (z3:nsIn K mainGlobals "bool" = some none)
  (z4:nsIn K mainGlobals "list" = some none)
  (z5:nsIn K mainGlobals "tuple" = some none)
  (z6:nsIn K mainGlobals "isinstance" = some none)
  (z7:nsIn K mainGlobals "all" = some none)
  (z8:nsIn K mainGlobals "any" = some none)
  (z9:nsIn K mainGlobals "sum" = some none)
  (z10:nsIn K mainGlobals "max" = some none)
  (z11:nsIn K mainGlobals "min" = some none)
  (z12:nsIn K mainGlobals "zip" = some none)
  (z13:nsIn K mainGlobals "enumerate" = some none)
  (z14:nsIn K mainGlobals "sorted" = some none)
  : ∃ (fd:FuncData) (c Pt:Addr),tabIn K "_law_least" = some (c,Pt)/\K.lookup Pt=none/\(∀ (s:Shared) (v:Value),BindsTo s fd ⟨[v],[]⟩ [("_law_script",v)]) /\
   ∀ base:Heap,K.In base->base.Ns mainGlobals mg->Bm mg base->(∀ h,K.In h->CodeHd h c Pt)->dE l.prog w K mg base cT 5 fa fd ["_law_script"] (spLaw K Pt):=by
 have e:=hfa.symm.trans (PySem.W.mg_of X G a18)
 cases e
 have T:Txt mg:=⟨PySem.W.mg_none_of X G z0,PySem.W.mg_none_of X G z1,PySem.W.mg_none_of X G z2,PySem.W.mg_none_of X G z3,PySem.W.mg_none_of X G z4,PySem.W.mg_none_of X G z5,PySem.W.mg_none_of X G z6,PySem.W.mg_none_of X G z7,PySem.W.mg_none_of X G z8,PySem.W.mg_none_of X G z9,PySem.W.mg_none_of X G z10,PySem.W.mg_none_of X G z11,PySem.W.mg_none_of X G z12,PySem.W.mg_none_of X G z13,PySem.W.mg_none_of X G z14,⟨_,PySem.W.mg_of X G v0,⟨_,rfl⟩⟩,⟨_,PySem.W.mg_of X G v1,⟨_,rfl⟩⟩⟩
 have F1:=cC (st:=cP) l1 c1 k1
 have b1:=F1.binds (ps:=iK) fun _ _ _ _ _ _ us hl=>by apply len1 hl;intros;rfl
 have F2:=cC (st:=bS) l2 c2 k2
 have b2:=F2.binds (ps:=fY) fun _ _ _ _ _ _ us hl=>by apply len2 hl;intros;rfl
 have F3:=cC (st:=bC) l3 c3 k3
 have b3:=F3.binds (ps:=dC) fun _ _ _ _ _ _ us hl=>by apply len2 hl;intros;rfl
 have F4:=cC (st:=dH) l4 c4 k4
 have b4:=F4.binds (ps:=mO) fun _ _ _ _ _ _ us hl=>by apply len2 hl;intros;rfl
 have F5:=cC (st:=dG) l5 c5 k5
 have b5:=F5.binds (ps:=mN) fun _ _ _ _ _ _ us hl=>by apply len2 hl;intros;rfl
 have F6:=cC (st:=cI) l6 c6 k6
 have b6:=F6.binds (ps:=iL) fun _ _ _ _ _ _ us hl=>by apply len2 hl;intros;rfl
 have F7:=cC (st:=iB) l7 c7 k7
 have b7:=F7.binds (ps:=t5) fun _ _ _ _ _ _ us hl=>by apply len2 hl;intros;rfl
 have F8:=cC (st:=cN) l8 c8 k8
 have b8:=F8.binds (ps:=iJ) fun _ _ _ _ _ _ us hl=>by apply len2 hl;intros;rfl
 have F9:=cC (st:=aX) l9 c9 k9
 have b9:=F9.binds (ps:=fF) fun _ _ _ _ _ _ us hl=>by apply len2 hl;intros;rfl
 have F10:=cC (st:=bD) l10 c10 k10
 have b10:=F10.binds (ps:=fE) fun _ _ _ _ _ _ us hl=>by apply len2 hl;intros;rfl
 have F11:=cC (st:=c0) l11 c11 k11
 have b11:=F11.binds (ps:=j4) fun _ _ _ _ _ _ us hl=>by apply len2 hl;intros;rfl
 have F12:=cC (st:=cQ) l12 c12 k12
 have b12:=F12.binds (ps:=iM) fun _ _ _ _ _ _ us hl=>by apply len1 hl;intros;rfl
 have F13:=cC (st:=cJ) l13 c13 k13
 have b13:=F13.binds (ps:=fZ) fun _ _ _ _ _ _ us hl=>by apply len2 hl;intros;rfl
 have F14:=cC (st:=aY) l14 c14 k14
 have b14:=F14.binds (ps:=dP) fun _ _ _ _ _ _ us hl=>by apply len1 hl;intros;rfl
 have F15:=cC (st:=bT) l15 c15 k15
 have b15:=F15.binds (ps:=gA) fun _ _ _ _ _ _ us hl=>by apply len2 hl;intros;rfl
 have F16:=cC (st:=bM) l16 c16 k16
 have b16:=F16.binds (ps:=fG) fun _ _ _ _ _ _ us hl=>by apply len2 hl;intros;rfl
 have F17:=cC (st:=aN) l17 c17 k17
 have b17:=F17.binds (ps:=fH) fun _ _ _ _ _ _ us hl=>by apply len1 hl;intros;rfl
 have F18:=cC (st:=fN) l18 c18 k18
 refine ⟨PySem.W.fnOf "law" "law" (aS fN) (aR fN) (aB fN) .none kV18 dc18 pm18 an18 cd18 ct18,cc,Pt,t0,t1,fun s v=>.of_eq rfl,fun base _ _ hB hC=>?_⟩
 have O_is_whole:gB l.prog w K mg base cT 1 "is_whole" oP:=⟨f1,_,_,xZ F1 T,PySem.W.mg_of X G a1,k1,b1⟩
 have O_is_counts:gB l.prog w K mg base cT 2 "is_counts" lC:=⟨f2,_,_,v4 F2 T O_is_whole,PySem.W.mg_of X G a2,k2,b2⟩
 have O_check_equation:gB l.prog w K mg base cT 3 "check_equation" spEqn:=⟨f3,_,_,CS F3 T O_is_counts,PySem.W.mg_of X G a3,k3,b3⟩
 have O_signed:gB l.prog w K mg base cT 1 "signed" lA:=⟨f4,_,_,v2 F4 T,PySem.W.mg_of X G a4,k4,b4⟩
 have O_weight:gB l.prog w K mg base cT 1 "weight" kZ:=⟨f5,_,_,vY F5 T,PySem.W.mg_of X G a5,k5,b5⟩
 have O_is_under:gB l.prog w K mg base cT 1 "is_under" gJ:=⟨f6,_,_,x5 F6 T,PySem.W.mg_of X G a6,k6,b6⟩
 have O_unit:gB l.prog w K mg base cT 1 "unit" sR:=⟨f7,_,_,AO F7 T,PySem.W.mg_of X G a7,k7,b7⟩
 have O_one_more:gB l.prog w K mg base cT 1 "one_more" sU:=⟨f8,_,_,AR F8 T,PySem.W.mg_of X G a8,k8,b8⟩
 have O_grown_rows:gB l.prog w K mg base cT 2 "grown_rows" oS:=⟨f9,_,_,x9 F9 T O_unit O_one_more O_weight O_is_under,PySem.W.mg_of X G a9,k9,b9⟩
 have O_least_rows:gB l.prog w K mg base cT 4 "least_rows" oR:=⟨f10,_,_,x8 F10 T O_check_equation O_signed O_grown_rows,PySem.W.mg_of X G a10,k10,b10⟩
 have O__law_at:gB l.prog w K mg base cT 1 "_law_at" (spAt K):=⟨f11,_,_,DU F11 T,PySem.W.mg_of X G a11,k11,b11⟩
 have O__law_pot:gB l.prog w K mg base cT 1 "_law_pot" spPot:=⟨f12,_,_,CP F12 T,PySem.W.mg_of X G a12,k12,b12⟩
 have O__law_take:gB l.prog w K mg base cT 1 "_law_take" sS:=⟨f13,_,_,AQ F13 T,PySem.W.mg_of X G a13,k13,b13⟩
 have O__law_equation:gB l.prog w K mg base cT 2 "_law_equation" spEq3:=⟨f14,_,_,CT F14 T O__law_take,PySem.W.mg_of X G a14,k14,b14⟩
 have O__law_rows:gB l.prog w K mg base cT 1 "_law_rows" oQ:=⟨f15,_,_,x6 F15 T,PySem.W.mg_of X G a15,k15,b15⟩
 have O__law_under:gB l.prog w K mg base cT 1 "_law_under" gJ:=⟨f16,_,_,vZ F16 T,PySem.W.mg_of X G a16,k16,b16⟩
 have O__law_least:gB l.prog w K mg base cT 4 "_law_least" (lB Pt):=⟨f17,_,_,v3 l17 c17 hC hB T O__law_under,PySem.W.mg_of X G a17,k17,b17⟩
 exact CQ F18 T O__law_at O__law_pot O__law_equation O_least_rows O__law_rows O__law_least
end Lw
open PySem PySem.W PyProof.Rows
set_option maxRecDepth 100000 in
set_option maxHeartbeats 0 in
theorem PySem.Challenge.cw_likefill_k43_whole_all_least_rows_holds : PySem.Challenge.rw_likefill_k43_whole_all_least_rows.Holds := by
 w_on
 refine holds_law (by kernel_rfl) fun said=>?_
 refine holds_open (q:=Lw.q0) (loose:=[]) (Xt:=Lw.EY) (XP:=XL Lw.q0 []) (YP:=InK Lw.K0) Lw.left0 (InK.of Lw.keys0) InK.keeps (fun s e=>xl_of s (Bool.and_eq_true_iff.mp e).1) XL.keeps (by rfl) (by rfl) (by rfl) (fun s e=>recFacts_of (Bool.and_eq_true_iff.mp e).2) (by rfl) said (by decide +kernel) ⟨rfl,rfl,rfl,rfl,rfl,by decide +kernel⟩ (by w_witness2) ?_
 k_fill
 refine Lw.walkT (l:=PySem.Challenge.rw_likefill_k43_whole_all_least_rows) rfl rfl (fun w h Y=>Y) rfl ?F
 case F =>
  intro w mg fa h KX G hmg
  refine' Lw.DH KX G hmg ?_ ?_ ?_ ?_ ?_ ?_ ?_ ?_ ?_ ?_ ?_ ?_ ?_ ?_ ?_ ?_ ?_ ?_ ?_ ?_ ?_ ?_ ?_ ?_ ?_ ?_ ?_ ?_ ?_ ?_ ?_ ?_ ?_ ?_ ?_ ?_ ?_ ?_ ?_ ?_ ?_ ?_ ?_ ?_ ?_ ?_ ?_ ?_ ?_ ?_ ?_ ?_ ?_ ?_ ?_ ?_ ?_ ?_ ?_ ?_ ?_ ?_ ?_ ?_ ?_ ?_ ?_ ?_ ?_ ?t3 ?t0 ?t1 ?_ ?_ ?_ ?_ ?_ ?_ ?_ ?_ ?_ ?_ ?_ ?_ ?_ ?_ ?_ ?_ ?_ ?_ ?_ ?_ ?_
  all_goals try k_is
  (case t3=>rfl);(case t0=>kernel_rfl);(case t1=>kernel_rfl)
end
