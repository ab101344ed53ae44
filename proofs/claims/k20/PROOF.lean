import PyProof.Rows.All
import Wide.All
import OpenK.AllK
import Wide.FinOn
import Lean
import PyProof.EqAt
import PyProof.EqKinds
import PyProof.TupleCall
import PyProof.NeKinds
import KE.KTab
import KE.KTops
import PyProof.FString5
import PyProof.ListRange
import KE.KRevIter
import PyProof.Rows.SumAny
import PyProof.Rows.SetFrom
import KE.KRevSl
import KE.KTryMore
import PyProof.ExcAttrAll.ValueError
import PyProof.Rows.CountFlat
import PyProof.ExcInit
import PyProof.InstStoreFacts
import PyProof.Draws
import PyProof.EnumMake
import PyProof.ZipIter
import PyProof.WalkInts
import PyProof.Rows.MinMaxN
import KE.KUnpack
import PyProof.StationsW
import PySem.Challenge.RW_piecelay_k20_whole_best_part
set_option Elab.async false
set_option linter.all false
set_option maxRecDepth 100000
set_option maxHeartbeats 4000000
section
namespace LT
open PySem PySem.W PyProof.Rows
noncomputable def ran (p:Program) (w:World) (n₀:Nat) (ann:Option Value):Nat->SharedT->Thread->Option SharedT
 | 0,_,_=>none
 | k+1,s,t=>bif through t then some s else bif Fast.tw6613529449190102663 n₀ ann t then
   (Fast.tw10156331382660048174 (Fast.tw11892475500146522536 Fast.tw14364793385576792824) p w s t).bind λx=>ran p w n₀ ann k x.1 x.2
  else none
variable {p:Program}
theorem Af {w:World} {n₀:Nat} {ann:Option Value} (k:Nat):∀ {s s':SharedT} {t:Thread},ran p w n₀ ann k s t=some s'->topRun treeTable p w n₀ ann k s.abs t=some s'.abs:=by
 induction k with
 | zero=>intro s s' t h;cases h
 | succ k ih =>
  intro s s' t h
  unfold ran at h
  rw [← Fast.te6613529449190102663,← Fast.te10156331382660048174,← Fast.te11892475500146522536,← Fast.te14364793385576792824] at h
  unfold topRun
  cases c1:through t
  ·cases c2:stepOk n₀ ann t
   ·rw [c1,c2] at h;cases h
   ·rw [c1,c2] at h
    obtain ⟨x,hx,hr⟩:=Option.bind_eq_some_iff.mp (show (stepT (denote treeTable) p w s t).bind _=some s' from h)
    rw [stepT_spec (s':=x.1) (t':=x.2) hx]
    exact ih hr
  ·rw [c1] at h
   cases h
   rfl
noncomputable def wV (P:Params):BT:=((boot_heap P).objs.toList.foldl (λ(x:BT × Nat) o=>(x.1.ins x.2 o,x.2+1)) (BT.nil,0)).1
theorem wW:∀ P,absHeap (wV P) 11 {}=boot_heap P:=λP=>by kernel_rfl
noncomputable abbrev boot (P:Params) (os:OsState):SharedT:=⟨wV P,11,{},#[],boot_drawn,boot_toks,os⟩
theorem wX (P:Params) (os:OsState):(boot P os).abs=⟨boot_heap P,#[],boot_drawn,boot_toks,os⟩:=by
 show (⟨absHeap (wV P) 11 {},#[],boot_drawn,boot_toks,os⟩:Shared)=_
 rw [wW]
noncomputable def AX (p q:Program) (loose:List Str) (Xt:Shared->Bool) (P:Params) (s:Shared) :=
 (staticsOk (Fast.tw5923862056798008813 p.main.body) (boot_heap P) s.heap && namesBound p s.heap && gensDone s && laidKept (boot_heap P) s.heap,Fast.tw4187177175401517315 q loose (Fast.tw5923862056798008813 p.main.body) Xt true s)
theorem Aw:∀ P:Params,((boot_heap P).isNs mainGlobals && (#[]:Array GenState).size == 0,(boot_heap P).objs.size,(boot_heap P).nsMap mainGlobals "__annotations__")=(true,11,some (.ref 6)):=λP=>by kernel_rfl
theorem left {q:Program} {loose:List Str} {Xt:Shared->Bool} {α:Type} {Yf:Shared->α} {Ya:World->α} {N:Nat} (e:opening p=plainProg p.main.scope.names) (hN:Nat.ble 600 N=true) (f:∀ s,fenceModules? p s=some s)
  (h:∀ (w:World) (os:OsState),(ran p w 11 (some (.ref 6)) N (boot w.params os) (topStub p)).map (λs=>(AX p q loose Xt w.params s.abs,Yf s.abs))=some ((true,openGood q loose),Ya w)):LeftO p q loose Xt Yf Ya N:=λw=>by
 obtain ⟨⟨h0,gs,d,k,os⟩,e,e'⟩:=Option.map_eq_some_iff.mp (boot_open e hN f w)
 obtain ⟨rfl,rfl,rfl,rfl⟩:h0=boot_heap w.params/\gs=Array.mk []/\d=boot_drawn/\k=boot_toks:=by simpa using e'
 obtain ⟨s1,hr,hs⟩:=Option.map_eq_some_iff.mp (h w os)
 have r:=Af N hr
 rw [wX] at r
 obtain ⟨hs,hy⟩:=Prod.mk.inj hs
 unfold AX at hs
 rw [← Fast.te4187177175401517315,← Fast.te5923862056798008813] at hs
 obtain ⟨hl,hg⟩:=Prod.mk.inj (show (staticsOk (importedModules p.main.body) (boot_heap w.params) s1.abs.heap && namesBound p s1.abs.heap && gensDone s1.abs && laidKept (boot_heap w.params) s1.abs.heap,openSeen q loose (importedModules p.main.body) Xt true s1.abs)=(true,openGood q loose) from hs)
 obtain ⟨z1,z2,z3⟩:_/\_/\_:=by simpa only [Prod.mk.injEq] using Aw w.params
 have t:topFrom treeTable p w N ⟨boot_heap w.params,Array.mk [],boot_drawn,boot_toks,os⟩=some s1.abs:=by
  unfold topFrom
  dsimp only
  rw [z1,z2,z3,r]
  show (match staticsOk (importedModules p.main.body) (boot_heap w.params) s1.abs.heap && namesBound p s1.abs.heap && gensDone s1.abs && laidKept (boot_heap w.params) s1.abs.heap with | true=>_ | false=>_)=_
  rw [hl]
 unfold openEnds
 rw [e]
 show (topFrom treeTable p w N _).map _=_
 rw [t]
 exact congrArg some (Prod.ext hg hy)
end LT
namespace LT
section
universe u1 u2 u3 u4 u5 u6 u7 u8 u9
variable {S:Type u1} {A:Type u2} {B:Type u3} {C:Type u4} {D:Type u5} {E:Type u6} {F:Type u7} {R:Type u8} {V:Type u9}
def lot1 (x:A × B × C × D × E × F × R):A × B × C:=match x with | (a,b,c,_)=>(a,b,c)
def lot2 (x:A × B × C × D × E × F × R):D × E × R:=match x with | (_,_,_,d,e,_,r)=>(d,e,r)
def lot3 (x:A × B × C × D × E × F × R):F:=match x with | (_,_,_,_,_,f,_)=>f
theorem lots {o:Option S} {f:S->A × B × C × D × E × F × R} {y:A × B × C × D × E × F × R} {st:S->Bool} {ob:S->V} {v:V} (h1:o.map (λs=>lot1 (f s))=some (y.1,y.2.1,y.2.2.1)) (h2:o.map (λs=>lot2 (f s))=some (y.2.2.2.1,y.2.2.2.2.1,y.2.2.2.2.2.2))
  (h3:o.map (λs=>lot3 (f s))=some y.2.2.2.2.2.1) (h4:o.map (λs=>(st s,ob s))=some (true,v)):o.map (λs=>((st s,f s),ob s))=some ((true,y),v):=by
 cases o with
 | none=>cases h1
 | some s =>
  have k1:lot1 (f s)=_:=Option.some.inj h1
  have k2:lot2 (f s)=_:=Option.some.inj h2
  have k3:lot3 (f s)=_:=Option.some.inj h3
  have k4:(st s,ob s)=_:=Option.some.inj h4
  show some ((st s,f s),ob s)=_
  generalize f s=x at k1 k2 k3 ⊢
  obtain ⟨a,b,c,d,e,g,r⟩:=x
  obtain ⟨a',b',c',d',e',g',r'⟩:=y
  have k1:(a,b,c)=(a',b',c'):=k1
  have k2:(d,e,r)=(d',e',r'):=k2
  have k3:g=g':=k3
  injection k4 with k4 k5
  cases k1
  cases k2
  cases k3
  rw [k4,k5]
end
end LT
namespace My
open PySem
def top (i:Nat):Stmt:=PySem.Challenge.pw_piecelay_k20_whole_best_part.main.body.getD i (.Pass ⟨0,0,0,0⟩)
end My
end
section
open PySem PySem.W PyProof.Rows
section
local macro_rules | `(tactic| o_head $H:term)=>`(tactic| (have _hook:=$H;assumption))
theorem My.k0 (h:PySem.Challenge.rw_piecelay_k20_whole_best_part.row.Holds):PySem.Challenge.rw_piecelay_k20_whole_best_part.row.Holds:=by
 k_head
end
namespace My
def view:Program:={ PySem.Challenge.pw_piecelay_k20_whole_best_part with main:={ PySem.Challenge.pw_piecelay_k20_whole_best_part.main with body:=[top 1,top 2,top 3,top 4,top 5,top 6,top 8,top 9,top 10,top 11,top 13,top 14,top 15,top 16,top 17,top 18,top 19,top 20,top 21,top 23,top 24,top 25,top 27,top 28,top 29,top 30,top 31,top 32,top 33,top 34,top 35,top 36,top 37,top 38,top 39,top 40,top 41,top 42,top 43,top 44,top 45,top 46,top 47,top 48,top 49,top 51,top 52,top 53,top 54,top 55,top 56,top 57,top 58,top 59,top 60,top 62,top 63,top 64,top 65,top 66,top 67,top 69,top 70,top 71,top 72,top 73,top 74,top 75,top 76,top 77,top 79,top 80,top 81,top 82,top 83,top 84,top 85,top 86,top 87,top 88,top 89] } }
abbrev PRG:Program:=PySem.Challenge.pw_piecelay_k20_whole_best_part
abbrev loose:List Str:=["MOST_IN_LEAF","TREES_IN_BRANCH","MARK_LENGTHS","FILLED_FROM","BASIC"]
abbrev xt (s:Shared):Bool:=xlAt view [] s && recOk (RowW.records (OpenRow.toRowW (OpenLaw.row PySem.Challenge.rw_piecelay_k20_whole_best_part))) s
abbrev kas:List Addr:=[2,3,15,22,23,24,25,28,35,36,37,40,47,48,49,52,59,60,61,64,71,72,73,76,83,85,86,88,89,90,91,92,95,97,98,100,101,102,104,105,107,108,109,112,113,114,115,116,118,119,121,122,123,125,126,128,129,130,133,134,135,137,138,140,141,142,144,145,147,148,149,150,151,152,153,154,155,156,157,158,159,160,161,162,163,164,165,166,167,169,170,172,173,174,175,176,177,178,179,180,181,182,183,184,185,186,187,188,189,190,191,192,193,194,195,196,197,198,199,200,201,202,203,204,205,206,207,208,209,210,211,212,213,214,215,216,217,219,220,222,223,224,227,228,229,231,232,234,235,236,239,240,241,244,245,246,248,249,251,252,253,255,256,258,259,260,263,264,265,267,268,270,271,272,275,276,277,279,280,282,283,284,286,287,289,290,291,293,294,296,297,298,300,301,303,304,305,307,308,310,311,312,313,314,316,317,319,320,321,323,324,326,327,328,330,331,333,334,335,337,338,340,341,342,345,346,347,349,350,352,353,354,357,358,359,362,363,364,366,367,369,370,371,373,374,376,377,378,381,382,383,385,386,388,389,390,392,393,395,396,397,400,401,402,405,406,407,409,410,412,413,414,416,417,419,420,421,423,424,426,427,428,430,431,433,434,435,438,439,452,454,455,457,458,459,461,462,464,465,466,469,470,471,474,475,476,478,479,481,482,483,486,487]
theorem kas_ok:∀ P,kas=(My.k0.heap_1 P).map (·.1):=λ_=>by kernel_rfl
noncomputable abbrev hk:Hook:=kHook My.k0.heap_1 kas kas_ok
abbrev NN:Nat:=9000
noncomputable abbrev zC (w:World) (os:OsState):=LT.ran PRG w 11 (some (.ref 6)) NN (LT.boot w.params os) (topStub PRG)
noncomputable abbrev qt (P:Params) (s:SharedT):Bool:=staticsOk (Fast.tw5923862056798008813 PRG.main.body) (boot_heap P) s.abs.heap && namesBound PRG s.abs.heap && gensDone s.abs && laidKept (boot_heap P) s.abs.heap
noncomputable abbrev Cb (s:SharedT):=Fast.tw4187177175401517315 view loose (Fast.tw5923862056798008813 PRG.main.body) xt true s.abs
noncomputable abbrev sO:=openGood view loose
abbrev yr (w:World) (os:OsState):Prop:=(zC w os).map (λs=>LT.lot1 (Cb s))=some (sO.1,sO.2.1,sO.2.2.1)
abbrev yt (w:World) (os:OsState):Prop:=(zC w os).map (λs=>LT.lot2 (Cb s))=some (sO.2.2.2.1,sO.2.2.2.2.1,sO.2.2.2.2.2.2)
abbrev yu (w:World) (os:OsState):Prop:=(zC w os).map (λs=>LT.lot3 (Cb s))=some sO.2.2.2.2.2.1
abbrev yv (w:World) (os:OsState):Prop:=(zC w os).map (λs=>(qt w.params s,Hook.obs hk s.abs))=some (true,Hook.val hk w)
set_option maxHeartbeats 0 in
theorem ra1:∀ (w:World) (os:OsState),yr (w.withFollow "special-get-raises" false) os:=λw os=>by unfold yr;kernel_rfl
set_option maxHeartbeats 0 in
theorem rb1:∀ (w:World) (os:OsState),yr (w.withFollow "special-get-raises" true) os:=λw os=>by unfold yr;kernel_rfl
set_option maxHeartbeats 0 in
theorem ra2:∀ (w:World) (os:OsState),yt (w.withFollow "special-get-raises" false) os:=λw os=>by unfold yt;kernel_rfl
set_option maxHeartbeats 0 in
theorem rb2:∀ (w:World) (os:OsState),yt (w.withFollow "special-get-raises" true) os:=λw os=>by unfold yt;kernel_rfl
set_option maxHeartbeats 0 in
theorem ra3:∀ (w:World) (os:OsState),yu (w.withFollow "special-get-raises" false) os:=λw os=>by unfold yu;kernel_rfl
set_option maxHeartbeats 0 in
theorem rb3:∀ (w:World) (os:OsState),yu (w.withFollow "special-get-raises" true) os:=λw os=>by unfold yu;kernel_rfl
set_option maxHeartbeats 0 in
theorem ra4:∀ (w:World) (os:OsState),yv (w.withFollow "special-get-raises" false) os:=λw os=>by unfold yv;kernel_rfl
set_option maxHeartbeats 0 in
theorem rb4:∀ (w:World) (os:OsState),yv (w.withFollow "special-get-raises" true) os:=λw os=>by unfold yv;kernel_rfl
theorem left:LeftO PRG view loose xt (Hook.obs hk) (Hook.val hk) NN :=
 LT.left (by rfl) (by decide) (λs=>by rfl) λw os=>LT.lots (byRow2 "special-get-raises" (P:=λw=>yr w os) (λw=>ra1 w os) (λw=>rb1 w os) w) (byRow2 "special-get-raises" (P:=λw=>yt w os) (λw=>ra2 w os) (λw=>rb2 w os) w) (byRow2 "special-get-raises" (P:=λw=>yu w os) (λw=>ra3 w os) (λw=>rb3 w os) w) (byRow2 "special-get-raises" (P:=λw=>yv w os) (λw=>ra4 w os) (λw=>rb4 w os) w)
end My
end
section
namespace L2
open PySem PySem.Spec PyProof.Rows
abbrev Key:=Sum Int Str
def oo:Key->Value->Bool
 | .inl k,v=>Value.isInt k v
 | .inr x,v=>Value.isStrOf x v
def Du (w:World):Key->Int
 | .inl k=>hashInt k
 | .inr x=>hashStr w x
theorem cG:∀ {k:Key} {v:Value},oo k v=true->(∃ i t,k=Sum.inl i/\v=Value.int i t)\/(∃ x t,k=Sum.inr x/\v=Value.str x t)
 | .inl i,v,h=>by
  obtain ⟨t,e⟩:=Value.isInt_shape (k:=i) (v:=v) h
  exact .inl ⟨i,t,rfl,e⟩
 | .inr x,v,h=>by
  obtain ⟨t,e⟩:=Value.isStrOf_shape (x:=x) (v:=v) h
  exact .inr ⟨x,t,rfl,e⟩
theorem vq (i:Int) (t:Tok):oo (.inl i) (.int i t)=true:=by simp [oo,Value.isInt]
theorem vt (x:Str) (t:Tok):oo (.inr x) (.str x t)=true:=by simp [oo,Value.isStrOf]
theorem Bz (a b:Int):decide ((Sum.inl a:Key)=Sum.inl b)=(a == b):=by
 by_cases e:a=b
 ·subst e;simp
 ·have h:¬ (Sum.inl a:Key)=Sum.inl b:=λq=>e (Sum.inl.inj q)
  rw [decide_eq_false h]
  exact (beq_eq_false_iff_ne.mpr e).symm
theorem BC (a b:Str):decide ((Sum.inr a:Key)=Sum.inr b)=decide (a=b):=by
 by_cases e:a=b
 ·subst e;simp
 ·have h:¬ (Sum.inr a:Key)=Sum.inr b:=λq=>e (Sum.inr.inj q)
  rw [decide_eq_false h,decide_eq_false e]
theorem BA (a:Int) (b:Str):decide ((Sum.inl a:Key)=Sum.inr b)=false:=decide_eq_false (λq=>nomatch q)
theorem BB (a:Str) (b:Int):decide ((Sum.inr a:Key)=Sum.inl b)=false:=decide_eq_false (λq=>nomatch q)
def cY (prog:Program) (w:World):PySem.KeyKind prog w Key where
 is:=oo
 hash:=Du w
 inj:=λv a b ha hb=>by
  rcases cG ha with ⟨i,t,rfl,rfl⟩ | ⟨x,t,rfl,rfl⟩
  ·rcases cG hb with ⟨j,u,rfl,e⟩ | ⟨y,u,rfl,e⟩
   ·injection e with e1 _;rw [e1]
   ·exact nomatch e
  ·rcases cG hb with ⟨j,u,rfl,e⟩ | ⟨y,u,rfl,e⟩
   ·exact nomatch e
   ·injection e with e1 _;rw [e1]
 byValue:=λk v h=>by
  rcases cG h with ⟨i,t,rfl,rfl⟩ | ⟨x,t,rfl,rfl⟩ <;> rfl
 pyHash:=λhv h=>by
  rcases cG hv with ⟨i,t,rfl,rfl⟩ | ⟨x,t,rfl,rfl⟩
  ·exact wpAny_pyHash_int h
  ·exact wpAny_pyHash_str h
 eqBool:=λhu hv h=>by
  rcases cG hu with ⟨i,t,rfl,rfl⟩ | ⟨x,t,rfl,rfl⟩
  ·rcases cG hv with ⟨j,u,rfl,rfl⟩ | ⟨y,u,rfl,rfl⟩
   ·rw [Bz] at h;exact wpAny_eqBool_int h
   ·rw [BA] at h;exact SeqAt.EqAt.int_str i t y u _ _ _ _ h
  ·rcases cG hv with ⟨j,u,rfl,rfl⟩ | ⟨y,u,rfl,rfl⟩
   ·rw [BB] at h;exact SeqAt.EqAt.str_int x t j u _ _ _ _ h
   ·rw [BC] at h;exact wpAny_eqBool_str h
 «strs»:=λk x t v h=>by
  rcases cG h with ⟨i,u,rfl,e⟩ | ⟨y,u,rfl,e⟩
  ·exact nomatch e
  ·injection e with e1 _
   subst e1
   cases v <;> rfl
theorem rg (prog:Program) (w:World) (i:Int) (t:Tok):(cY prog w).is (.inl i) (.int i t)=true:=vq i t
theorem rh (prog:Program) (w:World) (x:Str) (t:Tok):(cY prog w).is (.inr x) (.str x t)=true:=vt x t
inductive V where
 | non | bl (b:Bool) | int (i:Int) | str (x:Str) | byt (b:Array UInt8) | flt (b:UInt64) | ref (a:Addr) | ty (n:String)
 deriving DecidableEq
def RelV:V->Value->Prop
 | .non,u=>u=Value.none
 | .bl b,u=>u=Value.bool b
 | .int i,u=>∃ t,u=Value.int i t
 | .str x,u=>∃ t,u=Value.str x t
 | .byt b,u=>∃ t,u=Value.bytes b t
 | .flt b,u=>∃ t,u=Value.float b t
 | .ref a,u=>u=Value.ref a
 | .ty n,u=>u=Value.type n
abbrev Vals:List V->List Value->Prop:=Paired RelV
variable {xs:List V} {us:List Value}
theorem Vals.length (r:Vals xs us):xs.length=us.length:=Paired.length r
theorem Vals.get:∀ {xs:List V} {us:List Value} {i:Nat} {x:V},Vals xs us->xs[i]?=some x->∃ u,us[i]?=some u/\RelV x u
 | _,_,_,_,.nil,e=>by simp at e
 | _,_,0,_,.cons r _,e=>by simp at e;subst e;exact ⟨_,rfl,r⟩
 | _,_,i+1,x,.cons _ t,e=>by
  obtain ⟨u,h1,h2⟩:=Vals.get (i:=i) (x:=x) t (by simpa using e)
  exact ⟨u,by simpa using h1,h2⟩
variable {u:Value}
theorem Vals.set {x:V} (r:RelV x u):∀ {xs:List V} {us:List Value} (i:Nat),Vals xs us->Vals (xs.set i x) (us.set i u)
 | _,_,_,.nil=>.nil
 | _,_,0,.cons _ t=>.cons r t
 | _,_,i+1,.cons q t=>.cons q (Vals.set r i t)
theorem Vals.append:∀ {xs ys:List V} {us ws:List Value},Vals xs us->Vals ys ws->Vals (xs++ys) (us++ws)
 | _,_,_,_,.nil,s=>s
 | _,_,_,_,.cons r t,s=>.cons r (Vals.append t s)
theorem Vals.take:∀ {xs:List V} {us:List Value} (n:Nat),Vals xs us->Vals (xs.take n) (us.take n)
 | _,_,0,_=>.nil
 | _,_,_+1,.nil=>.nil
 | _,_,n+1,.cons r t=>.cons r (Vals.take n t)
theorem Vals.drop:∀ {xs:List V} {us:List Value} (n:Nat),Vals xs us->Vals (xs.drop n) (us.drop n)
 | _,_,0,r=>r
 | _,_,_+1,.nil=>.nil
 | _,_,n+1,.cons _ t=>Vals.drop n t
def RelO:Option V->Option Value->Prop
 | some v,some u=>RelV v u
 | none,none=>True
 | _,_=>False
def KV {κ:Type}:List (κ × V)->List (κ × Value)->Prop:=Paired λ(p:κ × V) (q:κ × Value)=>p.1=q.1/\RelV p.2 q.2
def kV:Key->V
 | .inl i=>.int i
 | .inr x=>.str x
inductive HO where
 | lst (xs:List V)
 | tup (xs:List V)
 | dK (kvs:List (Key × V)) | dT (kvs:List (List Key × V))
 | set (S:Int->Bool) (n:Nat)
 | ins (C dx:Addr) (fs:List (Str × V))
 | own (x:Addr)
 | xd (fs:List (Str × V))
 | met (f x:Addr)
 | rng (lo hi:Int)
 | frz (o:Obj) (u:HO)
 | tbl (ps:Array Value)
 | ext (φ:Heap->Prop)
abbrev Hp:=Addr->Option HO
def upd (H:Hp) (a:Addr) (o:HO):Hp:=λb=>if b=a then some o else H b
variable {H:Hp} {a:Addr}
theorem aq {o:HO}:upd H a o a=some o:=by unfold upd;rw [if_pos rfl]
variable {b:Addr}
theorem aJ {o:HO} (h:b≠a):upd H a o b=H b:=by unfold upd;rw [if_neg h]
theorem aB {o:HO} (h:H a=some o) (h':H b=none):a≠b:=by
 intro e;subst e;rw [h] at h';cases h'
section
variable (P:Program) (w:World)
def ObjOk (H:Hp) (h:Heap) (a:Addr):HO->Prop
 | .lst xs=>xs.length≤sizeLine/\∃ (its:List Value) (n:Nat),Vals xs its/\h.get? a=some { cls:=.type "list",data:=.seq its.toArray n }
 | .tup xs=>xs.length≤sizeLine/\∃ its:List Value,Vals xs its/\IsTup h a its.toArray
 | .dK kvs=>kvs.length≤sizeLine/\(a == sysModules)=false/\∃ vs,KV kvs vs/\h.DictOf (cY P w) a vs
 | .dT kvs=>kvs.length≤sizeLine/\(a == sysModules)=false/\∃ xs:List (List Key × Addr × Value),
   Paired (λ(p:List Key × V) (q:List Key × Addr × Value)=>p.1=q.1/\H q.2.1=some (.tup (p.1.map kV))/\RelV p.2 q.2.2) kvs xs /\
   ∃ o es ep,h.get? a=some o/\o.ExactDict/\o.data=.dict es ep/\es.toList=xs.map (entryOfKey (tupleKind (cY P w)))/\(xs.map (·.1)).Nodup
 | .set S n=>h.SetOf (intKind P w) a S n
 | .ins C dx fs=>H dx=some (.own a)/\fs.length≤1000/\dx≠a/\h.get? a=some (PySem.W.instObj C dx) /\
   ∃ mA,h.Ns1 dx mA/\(∀ f,RelO (fs.lookup f) (mA f))/\PySem.Within mA (fs.map (·.1))
 | .own _=>∃ o,h.get? a=some o
 | .xd fs=>∃ mA,h.Ns1 a mA/\∀ f,RelO (fs.lookup f) (mA f)
 | .rng lo hi=>∃ t u v,h.get? a=some { cls:=.type "range",data:=.fields #[.int lo t,.int hi u,.int 1 v] }
 | .frz o u=>h.get? a=some o/\ObjOk H h a u
 | .tbl ps=>h.get? a=some { cls:=.none,data:=.fields ps }
 | .met f x=>h.get? a=some (PySem.W.methodObj (.ref f) (.ref x))
 | .ext φ=>φ h/\(∃ o,h.get? a=some o)/\∀ h1 h2:Heap,φ h1->(∀ o,h1.get? a=some o->h2.get? a=some o)->φ h2
def HOk (H:Hp) (h:Heap):Prop:=∀ a o,H a=some o->ObjOk P w H h a o
end
section
variable {P:Program} {w:World} {H H':Hp} {h h':Heap} {a:Addr} {o:HO}
theorem ObjOk.lt (x:ObjOk P w H h a o):a < h.objs.size:=by
 cases o with
 | lst xs=>obtain ⟨_,_,_,_,e⟩:=x;exact Heap.lt_size e
 | tup xs=>obtain ⟨_,_,_,p⟩:=x;exact p.lt
 | dK kvs=>obtain ⟨_,_,_,_,o,_,_,e,_⟩:=x;exact Heap.lt_size e
 | dT kvs=>obtain ⟨_,_,_,_,o,_,_,e,_⟩:=x;exact Heap.lt_size e
 | set S n=>obtain ⟨o,_,_,_,e,_⟩:=x;exact Heap.lt_size e
 | ins C dx fs=>obtain ⟨_,_,_,e,_⟩:=x;exact Heap.lt_size e
 | own y=>obtain ⟨_,e⟩:=x;exact Heap.lt_size e
 | xd fs=>obtain ⟨_,⟨_,_,_,e,_⟩,_⟩:=x;exact Heap.lt_size e
 | rng lo hi=>obtain ⟨_,_,_,e⟩:=x;exact Heap.lt_size e
 | frz ob u=>obtain ⟨e,_⟩:=x;exact Heap.lt_size e
 | tbl ps=>exact Heap.lt_size (show h.get? a=some _ from x)
 | met f y=>exact Heap.lt_size (show h.get? a=some _ from x)
 | ext φ=>obtain ⟨_,⟨_,e⟩,_⟩:=x;exact Heap.lt_size e
theorem Paired.mapP {α β:Type} {F G:α->β->Prop}:∀ {l₁:List α} {l₂:List β},Paired F l₁ l₂->(∀ a b,F a b->G a b)->Paired G l₁ l₂
 | _,_,.nil,_=>.nil
 | _,_,.cons r t,f=>.cons (f _ _ r) (Paired.mapP t f)
theorem ObjOk.stay (x:ObjOk P w H h a o) (k:∀ b u,(b=a\/H b=some (.own a))->h.get? b=some u->h'.get? b=some u)
  (ho:∀ b,H b=some (.own a)->H' b=some (.own a)) (ht:∀ b xs,H b=some (.tup xs)->H' b=some (.tup xs)):ObjOk P w H' h' a o:=by
 induction o with
 | lst xs=>obtain ⟨z,its,n,r,e⟩:=x;exact ⟨z,its,n,r,k _ _ (.inl rfl) e⟩
 | tup xs=>obtain ⟨z,its,r,ob,e,c⟩:=x;exact ⟨z,its,r,ob,k _ _ (.inl rfl) e,c⟩
 | dK kvs=>obtain ⟨z,y,vs,r,ob,es,ep,e,c⟩:=x;exact ⟨z,y,vs,r,ob,es,ep,k _ _ (.inl rfl) e,c⟩
 | dT kvs =>
  obtain ⟨z,y,xs,r,ob,es,ep,e,c⟩:=x
  exact ⟨z,y,xs,Paired.mapP r λp q z=>⟨z.1,ht _ _ z.2.1,z.2.2⟩,ob,es,ep,k _ _ (.inl rfl) e,c⟩
 | set S n=>obtain ⟨ob,es,ep,t,e,c⟩:=x;exact ⟨ob,es,ep,t,k _ _ (.inl rfl) e,c⟩
 | ins C dx fs =>
  obtain ⟨d,z,ne,e,mA,⟨od,es,ep,e2,c⟩,r⟩:=x
  exact ⟨ho _ d,z,ne,k _ _ (.inl rfl) e,mA,⟨od,es,ep,k _ _ (.inr d) e2,c⟩,r⟩
 | own y=>obtain ⟨ob,e⟩:=x;exact ⟨ob,k _ _ (.inl rfl) e⟩
 | xd fs=>obtain ⟨mA,⟨od,es,ep,e,c⟩,r⟩:=x;exact ⟨mA,⟨od,es,ep,k _ _ (.inl rfl) e,c⟩,r⟩
 | rng lo hi=>obtain ⟨t,u,v,e⟩:=x;exact ⟨t,u,v,k _ _ (.inl rfl) e⟩
 | frz ob u ih=>obtain ⟨e,q⟩:=x;exact ⟨k _ _ (.inl rfl) e,ih q⟩
 | tbl ps =>
  have e:h.get? a=some { cls:=.none,data:=.fields ps }:=x
  show h'.get? a=some { cls:=.none,data:=.fields ps }
  exact k a _ (.inl rfl) e
 | met f y =>
  have e:h.get? a=some (PySem.W.methodObj (.ref f) (.ref y)):=x
  show h'.get? a=some (PySem.W.methodObj (.ref f) (.ref y))
  exact k a _ (.inl rfl) e
 | ext φ=>obtain ⟨p,⟨o,e⟩,st⟩:=x;exact ⟨st _ _ p λo q=>k _ _ (.inl rfl) q,⟨o,k _ _ (.inl rfl) e⟩,st⟩
theorem HOk.lt (x:HOk P w H h) (e:H a=some o):a < h.objs.size:=(x a o e).lt
theorem HOk.fresh (x:HOk P w H h) (e:h.objs.size≤a):H a=none:=by
 cases q:H a with
 | none=>rfl
 | some u=>exact absurd (Nat.lt_of_lt_of_le (x.lt q) e) (Nat.lt_irrefl _)
theorem HOk.kept (x:HOk P w H h) (k:∀ b u,h.get? b=some u->h'.get? b=some u):HOk P w H h':=λa o e =>
 (x a o e).stay (λb u _ q=>k b u q) (λ_ q=>q) λ_ _ q=>q
theorem HOk.laid (x:HOk P w H h) (k:∀ b u,h.get? b=some u->h'.get? b=some u) (hp:h.objs.size≤a) (new:ObjOk P w (upd H a o) h' a o):HOk P w (upd H a o) h':=λb u e=>by
 have hn:=x.fresh hp
 by_cases hb:b=a
 ·subst hb;rw [aq] at e;cases e;exact new
 ·rw [aJ hb] at e
  exact (x b u e).stay (λc v _ q=>k c v q) (λc q=>by rw [aJ (aB q hn)];exact q) λc xs q=>by rw [aJ (aB q hn)];exact q
end
def Rd (H:Hp) (a:Addr) (u:HO):Prop:=H a=some u\/∃ o,H a=some (.frz o u)
variable {P:Program} {w:World} {h:Heap}
theorem Rd.ok {u:HO} (r:Rd H a u) (x:HOk P w H h):ObjOk P w H h a u:=by
 rcases r with r | ⟨o,r⟩
 ·exact x a u r
 ·obtain ⟨_,q⟩:=x a _ r
  exact q
def Mut:Option HO->Prop
 | some (.lst _)=>True
 | some (.dK _)=>True
 | some (.dT _)=>True
 | some (.set _ _)=>True
 | some (.ins _ _ _)=>True
 | some (.ext _)=>True
 | _=>False
section
variable {P:Program} {w:World} {H:Hp} {h h':Heap} {x e:Addr} {o':HO}
theorem HOk.write (ok:HOk P w H h) (mu:Mut (H x)) (he:e=x\/H e=some (.own x)) (k:∀ b u,b≠e->h.get? b=some u->h'.get? b=some u) (heo:∃ u,h'.get? e=some u)
  (new:ObjOk P w (upd H x o') h' x o'):HOk P w (upd H x o') h':=λb u q=>by
 have nown:∀ c y,H c=some (.own y)->c≠x:=λc y r z=>by subst z;rw [r] at mu;exact mu
 have ntup:∀ c xs,H c=some (.tup xs)->c≠x:=λc xs r z=>by subst z;rw [r] at mu;exact mu
 by_cases hb:b=x
 ·subst hb;rw [aq] at q;cases q;exact new
 ·rw [aJ hb] at q
  by_cases hbe:b=e
  ·have q':H b=some (.own x):=by
    rcases he with z | z
    ·exact absurd (hbe.trans z) hb
    ·rw [hbe];exact z
   rw [q] at q';cases q'
   obtain ⟨v,hv⟩:=heo
   exact ⟨v,by rw [hbe];exact hv⟩
  ·refine (ok b u q).stay (λc v hc r=>k c v ?_ r) (λc r=>by rw [aJ (nown c b r)];exact r) λc xs r=>by rw [aJ (ntup c xs r)];exact r
   rcases hc with rfl | hc
   ·exact hbe
   ·rintro rfl
    rcases he with z | z
    ·exact nown c b hc z
    ·rw [hc] at z;cases z;exact hb rfl
end
structure Un (fs ex:List Addr) (H H':Hp) (h h':Heap):Prop where
 keep:∀ b o,h.get? b=some o->H b=none->b ∉ fs->b ∉ ex->h'.get? b=some o
 slot:∀ b o,h.get? b=some o->H b=none->b ∈ fs->b ∉ ex->∃ sl,h'.get? b=some { o with slots:=sl }
 free:∀ b o,h.get? b=some o->H b=none->b ∉ ex->H' b=none
 there:∀ b o,h.get? b=some o->b ∉ ex->∃ o',h'.get? b=some o'
 tups:∀ b xs,H b=some (.tup xs)->H' b=some (.tup xs)
 frzs:∀ b o u,H b=some (.frz o u)->H' b=some (.frz o u)
 tbls:∀ b ps,H b=some (.tbl ps)->∃ more,H' b=some (.tbl (ps++more))
section
variable {fs fs' ex ex':List Addr} {H H1 H2:Hp} {h h1 h2 h':Heap} {a x e:Addr} {o:HO}
theorem Un.any (u:Un fs ex H H1 h h1) {b:Addr} {ob:Obj} (q:h.get? b=some ob) (n:H b=none) (hx:b ∉ ex):∃ sl,h1.get? b=some { ob with slots:=sl }:=by
 by_cases hb:b ∈ fs
 ·exact u.slot b ob q n hb hx
 ·exact ⟨ob.slots,u.keep b ob q n hb hx⟩
theorem Un.kept (k:∀ b u,h.get? b=some u->h'.get? b=some u):Un fs ex H H h h' :=
 ⟨λb ob q _ _ _=>k b ob q,λb ob q _ _ _=>⟨ob.slots,k b ob q⟩,λ_ _ _ n _=>n,λb ob q _=>⟨ob,k b ob q⟩,λ_ _ q=>q,λ_ _ _ q=>q,λ_ ps q=>⟨#[],by rw [q];simp⟩⟩
theorem Un.refl:Un fs ex H H h h:=Un.kept λ_ _ q=>q
theorem Un.laid (k:∀ b u,h.get? b=some u->h'.get? b=some u) (hp:h.objs.size≤a) (hn:H a=none):Un fs ex H (upd H a o) h h' where
 keep:=λb u q _ _ _=>k b u q
 slot:=λb u q _ _ _=>⟨u.slots,k b u q⟩
 free:=λb u q n _=>by rw [aJ (Nat.ne_of_lt (Nat.lt_of_lt_of_le (Heap.lt_size q) hp))];exact n
 there:=λb u q _=>⟨u,k b u q⟩
 tups:=λb xs q=>by rw [aJ (aB q hn)];exact q
 frzs:=λb u xs q=>by rw [aJ (aB q hn)];exact q
 tbls:=λb ps q=>⟨#[],by rw [aJ (aB q hn),q];simp⟩
theorem Un.write (mu:Mut (H x)) (he:e=x\/H e=some (.own x)) (k:∀ b u,b≠e->h.get? b=some u->h'.get? b=some u) (heo:∃ u,h'.get? e=some u):Un fs ex H (upd H x o) h h':=by
 have hx:∀ b,H b=none->b≠x:=λb n z=>by subst z;rw [n] at mu;exact mu
 have hb:∀ b,H b=none->b≠e:=λb n z=>by
  subst z
  rcases he with r | r
  ·exact hx b n r
  ·rw [n] at r;cases r
 have hm:∀ b u,H b=some u->¬ Mut (some u)->b≠x:=λb u q nm z=>by subst z;rw [q] at mu;exact nm mu
 refine ⟨λb u q n _ _=>k b u (hb b n) q,λb u q n _ _=>⟨u.slots,k b u (hb b n) q⟩,λb u q n _=>by rw [aJ (hx b n)];exact n,λb u q _=>?_,
  λb xs q=>by rw [aJ (hm b _ q λz=>z)];exact q,λb u xs q=>by rw [aJ (hm b _ q λz=>z)];exact q,λb ps q=>⟨#[],by rw [aJ (hm b _ q λz=>z),q];simp⟩⟩
 by_cases hbe:b=e
 ·subst hbe;exact heo
 ·exact ⟨u,k b u hbe q⟩
end
def trk (h:Heap) (H:Hp):List Addr:=(List.range h.objs.size).filter λa=>(H a).isSome
def pf (h:Heap) (H:Hp):Heap:=PySem.W.hideAll h (trk h H)
theorem vk (h:Heap) (H:Hp):(pf h H).objs.size=h.objs.size:=PySem.W.hideAll_size _ _
variable {o:Obj}
theorem xF (e:h.get? b=some o) (n:H b=none):(pf h H).get? b=some o :=
 PySem.W.hideAll_get _ e λhm=>by
  have q:(H b).isSome=true:=(List.mem_filter.mp hm).2
  rw [n] at q;simp at q
theorem zR (e:(pf h H).get? b=some o):h.get? b=some o/\H b=none:=by
 have e':h.get? b=some o:=PySem.W.of_hideAll (trk h H) e
 refine ⟨e',?_⟩
 cases q:H b with
 | none=>rfl
 | some x =>
  have hm:b ∈ trk h H:=List.mem_filter.mpr ⟨List.mem_range.mpr (Heap.lt_size e'),by simp [q]⟩
  have z:(pf h H).get? b=none:=PySem.W.hideAll_none (trk h H) hm
  rw [z] at e;cases e
structure Mod (K:PySem.W.Frag) (mg:Str->Option Value) (base:Heap):Prop where
 kin:K.In base
 glob:base.Ns mainGlobals mg
 blt:∃ mb,base.Ns builtinsNs mb/\∀ x:Str,x≠"__name__"->mb x=bootBuiltins x
 nolimit:base.NoLimit
structure Cx where
 prog:Program
 w:World
 K:PySem.W.Frag
 mg:Str->Option Value
 base:Heap
 A:Around
 N:List Str
 s₀:Shared
 H₀:Hp
 env:Env
 outer:List Env
 stack:List Env
 ex:List Addr
 fn:Str->Bool
 calm:Bool
 pn:List (Addr × Obj)
 xe:Value->Shared->Prop
def frs (l:List Env):List Addr:=l.filterMap (·.frame)
abbrev Cx.fs (X:Cx):List Addr:=frs X.outer
def Vis (sc:Scope) (x:Str):Prop:=sc.names.lookup x=some .local\/sc.names.lookup x=some .cell\/sc.names.lookup x=some .free
def Loc (sc:Scope) (x:Str):Prop:=sc.names.lookup x=some .local\/sc.names.lookup x=some .cell
def Da (env:Env) (h:Heap) (m:Str->Option Value) (x:Str) (u:Value):Prop :=
 (env.kindOf x=some .local/\m x=some u)\/((env.kindOf x=some .cell\/env.kindOf x=some .free)/\∃ c,env.cells.lookup x=some c/\h.IsCell c (some u))
structure Cx.Ok (X:Cx):Prop where
 mod:Mod X.K X.mg X.base
 kind:X.env.scope.kind=.function
 glob:X.env.globals=mainGlobals
 blt:X.env.builtins=builtinsNs
 above:X.s₀.heap.objs.size≤X.env.locals
 inj:∀ x y c,X.env.cells.lookup x=some c->X.env.cells.lookup y=some c->x=y
 has:∀ x,(X.env.kindOf x=some .cell\/X.env.kindOf x=some .free)->∃ c,X.env.cells.lookup x=some c
 cab:∀ x c,X.fn x=true->X.env.cells.lookup x=some c->X.s₀.heap.objs.size≤c
 hd:X.calm=true->X.A.handled=none
 frames:X.A.frames=some X.stack
 stk:X.stack=X.outer\/(X.stack=X.env::X.outer/\X.env.frame=some X.env.locals)
 exf:∀ b ∈ X.ex,b≠X.env.locals/\∀ x c,X.env.cells.lookup x=some c->c≠b
 bs:∀ b o,X.base.get? b=some o->X.s₀.heap.get? b=some o/\X.H₀ b=none
 bsz:X.base.objs.size≤X.s₀.heap.objs.size
 noex:∀ b o,X.base.get? b=some o->b ∉ X.ex
 exfs:∀ b ∈ X.ex,b ∉ X.fs
 funs:X.s₀.heap.FunFrames X.base X.outer
 frf:∀ b ∈ X.fs,X.H₀ b=none
structure Inv (X:Cx) (pins:List (Addr × Obj)) (σ:List (Option V)) (H:Hp) (s:Shared):Prop where
 ok:X.Ok
 os:s.os=X.s₀.os
 bare:AllBare s.gens
 base:Un X.fs X.ex X.H₀ H X.s₀.heap s.heap
 loc:∃ m,s.heap.Ns X.env.locals m/\∀ (i:Nat) (x:Str) (v:V),X.N[i]?=some x->σ[i]?=some (some v)->Vis X.env.scope x->∃ u,RelV v u/\Da X.env s.heap m x u
 cell:∀ x c,X.env.cells.lookup x=some c->∃ v,s.heap.IsCell c v
 free:H X.env.locals=none
 freeC:∀ x c,X.env.cells.lookup x=some c->H c=none
 pin:∀ p ∈ X.pn++pins,s.heap.get? p.1=some p.2/\H p.1=none/\p.1≠X.env.locals/\p.1 ∉ X.fs/\∀ v,p.2.data≠.cell v
 hok:HOk X.prog X.w H s.heap
 len:σ.length=X.N.length
section
variable {X:Cx} {pins:List (Addr × Obj)} {σ:List (Option V)} {H H':Hp} {s:Shared} {h':Heap}
theorem Cx.Ok.nofr (ok:X.Ok) {b:Addr} {o:Obj} (e:X.base.get? b=some o):b ∉ X.fs:=λhb=>by
 have:=(ok.funs.mem hb).1
 rw [e] at this;cases this
theorem Inv.bs (I:Inv X pins σ H s):∀ b o,X.base.get? b=some o->s.heap.get? b=some o/\H b=none:=λb o e =>
 ⟨I.base.keep b o (I.ok.bs b o e).1 (I.ok.bs b o e).2 (I.ok.nofr e) (I.ok.noex b o e),I.base.free b o (I.ok.bs b o e).1 (I.ok.bs b o e).2 (I.ok.noex b o e)⟩
theorem Inv.bk (I:Inv X pins σ H s):∀ b o,X.base.get? b=some o->s.heap.get? b=some o:=λb o e=>(I.bs b o e).1
theorem Inv.mod (I:Inv X pins σ H s):Mod X.K X.mg X.base:=I.ok.mod
theorem Inv.kIn (I:Inv X pins σ H s):X.K.In s.heap:=I.ok.mod.kin.keeps I.bk
theorem Inv.lt (I:Inv X pins σ H s):X.env.locals < s.heap.objs.size:=let ⟨_,hn,_⟩:=I.loc;hn.lt
theorem Inv.sz (I:Inv X pins σ H s):X.s₀.heap.objs.size≤s.heap.objs.size:=Nat.le_trans I.ok.above (Nat.le_of_lt I.lt)
variable {a:Addr}
theorem Inv.nofs (I:Inv X pins σ H s) (h:s.heap.objs.size≤a):a ∉ X.fs:=λhb=>by
 obtain ⟨_,o,ho,_⟩:=I.ok.funs.mem hb
 exact absurd (Nat.lt_of_lt_of_le (Heap.lt_size ho) (Nat.le_trans I.sz h)) (Nat.lt_irrefl _)
theorem Inv.cne (I:Inv X pins σ H s):∀ x c,X.env.cells.lookup x=some c->c≠X.env.locals:=λx c e z=>by
 obtain ⟨v,o,ho,hd⟩:=I.cell x c e
 obtain ⟨m,⟨o',es,ep,ho',hd',_⟩,_⟩:=I.loc
 rw [z,ho'] at ho;cases ho;rw [hd'] at hd;cases hd
theorem Inv.funs (I:Inv X pins σ H s):s.heap.FunFrames X.base X.outer:=by
 have all:∀ (l:List Env),(∀ b ∈ frs l,b ∈ X.fs)->X.s₀.heap.FunFrames X.base l->s.heap.FunFrames X.base l:=by
  intro l
  induction l with
  | nil=>intro _ _;trivial
  | cons env r ih =>
   intro hs hl
   obtain ⟨hk,⟨L,o,hf,hn,ho,hd⟩,hr⟩:=hl
   have hL:L ∈ X.fs:=hs L (by unfold frs;rw [List.filterMap_cons,hf];exact List.mem_cons_self)
   obtain ⟨sl,e⟩:=I.base.slot L o ho (I.ok.frf L hL) hL λz=>I.ok.exfs L z hL
   exact ⟨hk,⟨L,_,hf,hn,e,hd⟩,ih (λb hb=>hs b (by unfold frs;rw [List.filterMap_cons,hf];exact List.mem_cons_of_mem _ hb)) hr⟩
 exact all X.outer (λ_ hb=>hb) I.ok.funs
theorem Inv.stack (I:Inv X pins σ H s):s.heap.FunFrames X.base X.stack:=by
 rcases I.ok.stk with e | ⟨e,hf⟩
 ·rw [e];exact I.funs
 ·rw [e]
  obtain ⟨m,hn,_⟩:=I.loc
  refine .cons (by rw [I.ok.kind];decide) hf hn ?_ I.funs
  exact Heap.get?_none_of_le (Nat.le_trans I.ok.bsz I.ok.above)
theorem Inv.stkSub (I:Inv X pins σ H s):∀ b ∈ frs X.stack,b ∈ X.env.locals::X.fs:=λb hb=>by
 rcases I.ok.stk with e | ⟨e,hf⟩
 ·rw [e] at hb;exact List.mem_cons_of_mem _ hb
 ·rw [e] at hb
  unfold frs at hb
  rw [List.filterMap_cons,hf] at hb
  exact hb
theorem Inv.stkFree (I:Inv X pins σ H s):∀ b ∈ frs X.stack,H b=none:=λb hb=>by
 rcases List.mem_cons.mp (I.stkSub b hb) with e | hb
 ·rw [e];exact I.free
 ·obtain ⟨_,o,ho,_⟩:=I.ok.funs.mem hb
  exact I.base.free b o ho (I.ok.frf b hb) λz=>I.ok.exfs b z hb
variable {g':Array GenState} {t':Nat} {d':Drawn} {ch:List Addr}
theorem Inv.step (I:Inv X pins σ H s)
  (hch:∀ b ∈ ch,(b ∈ X.ex\/X.s₀.heap.objs.size≤b)/\b≠X.env.locals/\(∀ x c,X.env.cells.lookup x=some c->c≠b)/\∀ p ∈ X.pn++pins,p.1≠b)
  (keep:∀ b o,b≠X.env.locals->b ∉ X.fs->b ∉ ch->s.heap.get? b=some o->H b=none->h'.get? b=some o)
  (slot:∀ b o,b≠X.env.locals->b ∈ X.fs->b ∉ ch->s.heap.get? b=some o->H b=none->∃ sl,h'.get? b=some { o with slots:=sl }) (free:∀ b o,b ∉ ch->s.heap.get? b=some o->H b=none->H' b=none)
  (there:∀ b o,b ∉ ch->s.heap.get? b=some o->∃ o',h'.get? b=some o')
  (tups:∀ b xs,H b=some (.tup xs)->H' b=some (.tup xs)) (frzs:∀ b o u,H b=some (.frz o u)->H' b=some (.frz o u)) (tbls:∀ b ps,H b=some (.tbl ps)->∃ more,H' b=some (.tbl (ps++more)))
  (ns:∀ m,s.heap.Ns X.env.locals m->h'.Ns X.env.locals m) (hok:HOk X.prog X.w H' h') (hg:AllBare g') :
  Inv X pins σ H' { s with heap:=h',gens:=g',drawn:=d',toks:=t' }:=by
 have neL:∀ b o,X.s₀.heap.get? b=some o->b≠X.env.locals:=λb o e=>Nat.ne_of_lt (Nat.lt_of_lt_of_le (Heap.lt_size e) I.ok.above)
 have neC:∀ b o,X.s₀.heap.get? b=some o->b ∉ X.ex->b ∉ ch:=λb o e hx hb=>by
  rcases (hch b hb).1 with z | z
  ·exact hx z
  ·exact absurd (Nat.lt_of_lt_of_le (Heap.lt_size e) z) (Nat.lt_irrefl _)
 have cellK:∀ x c,X.env.cells.lookup x=some c->∀ v,s.heap.IsCell c v->h'.IsCell c v:=λx c e v ⟨o,ho,hd⟩=>by
  have nch:c ∉ ch:=λz=>(hch c z).2.2.1 x c e rfl
  by_cases hc:c ∈ X.fs
  ·obtain ⟨sl,q⟩:=slot c o (I.cne x c e) hc nch ho (I.freeC x c e)
   exact ⟨_,q,hd⟩
  ·exact ⟨o,keep c o (I.cne x c e) hc nch ho (I.freeC x c e),hd⟩
 refine ⟨I.ok,I.os,hg,⟨λb o e n hb hx=>?_,λb o e n hb hx=>?_,λb o e n hx=>?_,λb o e hx=>?_,λb xs e=>tups b xs (I.base.tups b xs e),λb o xs e=>frzs b o xs (I.base.frzs b o xs e),λb ps e=>?_⟩,?_,λx c e=>?_,?_,λx c e=>?_,λp hp=>?_,hok,I.len⟩
 ·exact keep b o (neL b o e) hb (neC b o e hx) (I.base.keep b o e n hb hx) (I.base.free b o e n hx)
 ·obtain ⟨sl,e1⟩:=I.base.slot b o e n hb hx
  obtain ⟨sl',e2⟩:=slot b _ (neL b o e) hb (neC b o e hx) e1 (I.base.free b o e n hx)
  exact ⟨sl',e2⟩
 ·obtain ⟨o',e1⟩:=I.base.there b o e hx
  exact free b o' (neC b o e hx) e1 (I.base.free b o e n hx)
 ·obtain ⟨o',e1⟩:=I.base.there b o e hx
  exact there b o' (neC b o e hx) e1
 ·obtain ⟨m1,e1⟩:=I.base.tbls b ps e
  obtain ⟨m2,e2⟩:=tbls b _ e1
  exact ⟨m1++m2,by rw [e2,Array.append_assoc]⟩
 ·obtain ⟨m,hn,hl⟩:=I.loc
  refine ⟨m,ns m hn,λi x v e1 e2 e3=>?_⟩
  obtain ⟨u,r,l⟩:=hl i x v e1 e2 e3
  refine ⟨u,r,?_⟩
  rcases l with l | ⟨k,c,e,z⟩
  ·exact .inl l
  ·exact .inr ⟨k,c,e,cellK x c e _ z⟩
 ·obtain ⟨v,z⟩:=I.cell x c e
  exact ⟨v,cellK x c e v z⟩
 ·obtain ⟨m,⟨o,_,_,ho,_⟩,_⟩:=I.loc
  exact free _ o (λz=>(hch _ z).2.1 rfl) ho I.free
 ·obtain ⟨v,o,ho,hd⟩:=I.cell x c e
  exact free c o (λz=>(hch c z).2.2.1 x c e rfl) ho (I.freeC x c e)
 ·obtain ⟨e,n,ne,nf,d⟩:=I.pin p hp
  have nch:p.1 ∉ ch:=λz=>(hch p.1 z).2.2.2 p hp rfl
  exact ⟨keep p.1 p.2 ne nf nch e n,free p.1 p.2 nch e n,ne,nf,d⟩
theorem Inv.un (I:Inv X pins σ H s) (u:Un X.fs [] H H' s.heap h') (hok:HOk X.prog X.w H' h'):Inv X pins σ H' { s with heap:=h',toks:=t' }:=by
 obtain ⟨m,⟨o,es,ep,ho,r⟩,_⟩:=id I.loc
 obtain ⟨sl,hL⟩:=u.any ho I.free (by simp)
 exact I.step (g':=s.gens) (d':=s.drawn) (ch:=[]) (λ_ z=>nomatch z) (λb o _ hb _ e n=>u.keep b o e n hb (by simp)) (λb o _ hb _ e n=>u.slot b o e n hb (by simp)) (λb o _ e n=>u.free b o e n (by simp)) (λb o _ e=>u.there b o e (by simp)) u.tups u.frzs u.tbls (λm' hm=>by
  obtain ⟨o',es',ep',ho',r'⟩:=hm
  rw [ho] at ho';cases ho'
  exact ⟨_,es',ep',hL,r'⟩) hok I.bare
theorem Inv.call (I:Inv X pins σ H s) (u:Un (frs X.stack) ch H H' s.heap h') (hok:HOk X.prog X.w H' h') (hg:AllBare g')
  (hch:∀ b ∈ ch,(b ∈ X.ex\/X.s₀.heap.objs.size≤b)/\b≠X.env.locals/\(∀ x c,X.env.cells.lookup x=some c->c≠b)/\∀ p ∈ X.pn++pins,p.1≠b) :
  Inv X pins σ H' { s with heap:=h',gens:=g',drawn:=d',toks:=t' }:=by
 obtain ⟨m,⟨o,es,ep,ho,r⟩,_⟩:=id I.loc
 obtain ⟨sl,hL⟩:=u.any ho I.free λz=>(hch _ z).2.1 rfl
 exact I.step (ch:=ch) hch (λb o hL hb hc e n=>u.keep b o e n (λz=>(List.mem_cons.mp (I.stkSub b z)).elim hL hb) hc) (λb o _ _ hc e n=>u.any e n hc) (λb o hc e n=>u.free b o e n hc) (λb o hc e=>u.there b o e hc) u.tups u.frzs u.tbls (λm' hm=>by
  obtain ⟨o',es',ep',ho',r'⟩:=hm
  rw [ho] at ho';cases ho'
  exact ⟨_,es',ep',hL,r'⟩) hok hg
theorem Inv.turned {it:Addr} (I:Inv X pins σ H s) (k:∀ b o,b≠it->s.heap.get? b=some o->h'.get? b=some o) (hn:H it=none) (hL:it≠X.env.locals)
  (h1:it ∈ X.ex\/X.s₀.heap.objs.size≤it) (h2:∀ x c,X.env.cells.lookup x=some c->c≠it) (h3:∀ p ∈ X.pn++pins,p.1≠it):Inv X pins σ H { s with heap:=h',toks:=t' }:=by
 have nit:∀ b u,H b=some u->b≠it:=λb u e z=>by rw [z,hn] at e;cases e
 refine I.step (g':=s.gens) (d':=s.drawn) (ch:=[it]) (λb hb=>?_) (λb o _ _ hc e _=>k b o (λz=>hc (by simp [z])) e) (λb o _ _ hc e _=>⟨o.slots,k b o (λz=>hc (by simp [z])) e⟩) (λ_ _ _ _ n=>n)
  (λb o hc e=>⟨o,k b o (λz=>hc (by simp [z])) e⟩) (λ_ _ e=>e) (λ_ _ _ e=>e) (λb ps e=>⟨#[],by rw [e];simp⟩) (λm hm=>?_) (λb u e=>?_) I.bare
 ·have e:b=it:=by simpa using hb
  subst e
  exact ⟨h1,hL,h2,h3⟩
 ·obtain ⟨o,es,ep,ho,r⟩:=hm
  exact ⟨o,es,ep,k _ o (Ne.symm hL) ho,r⟩
 ·refine (I.hok b u e).stay (λc v hc q=>k c v ?_ q) (λ_ q=>q) λ_ _ q=>q
  rcases hc with z | z
  ·rw [z];exact nit b u e
  ·exact nit c _ z
theorem Inv.tok (I:Inv X pins σ H s) (t:Nat):Inv X pins σ H { s with toks:=t }:=I.un (h':=s.heap) (t':=t) Un.refl I.hok
theorem Inv.kept (I:Inv X pins σ H s) (k:∀ b u,s.heap.get? b=some u->h'.get? b=some u):Inv X pins σ H { s with heap:=h',toks:=t' }:=I.un (Un.kept k) (I.hok.kept k)
variable {o:HO}
theorem Inv.laid (I:Inv X pins σ H s) (k:∀ b u,s.heap.get? b=some u->h'.get? b=some u) (hp:s.heap.objs.size≤a) (new:ObjOk X.prog X.w (upd H a o) h' a o) :
  Inv X pins σ (upd H a o) { s with heap:=h',toks:=t' }:=I.un (Un.laid k hp (I.hok.fresh hp)) (I.hok.laid k hp new)
theorem Inv.write {x e:Addr} (I:Inv X pins σ H s) (mu:Mut (H x)) (he:e=x\/H e=some (.own x)) (k:∀ b u,b≠e->s.heap.get? b=some u->h'.get? b=some u) (heo:∃ u,h'.get? e=some u)
  (new:ObjOk X.prog X.w (upd H x o) h' x o):Inv X pins σ (upd H x o) { s with heap:=h',toks:=t' }:=I.un (Un.write mu he k heo) (I.hok.write mu he k heo new)
theorem Inv.pins_of {pins':List (Addr × Obj)} (I:Inv X pins σ H s) (h:∀ p ∈ pins',s.heap.get? p.1=some p.2/\H p.1=none/\p.1≠X.env.locals/\p.1 ∉ X.fs/\∀ v,p.2.data≠.cell v):Inv X pins' σ H s :=
 ⟨I.ok,I.os,I.bare,I.base,I.loc,I.cell,I.free,I.freeC,λp hp=>(List.mem_append.mp hp).elim (λz=>I.pin p (List.mem_append_left _ z)) (h p),I.hok,I.len⟩
variable {i:Nat} {x:Str}
theorem rp {N:List Str} (hN:N.Nodup) {j:Nat} (a:N[i]?=some x) (b:N[j]?=some x):i=j:=by
 obtain ⟨h1,e1⟩:=List.getElem?_eq_some_iff.mp a
 obtain ⟨h2,e2⟩:=List.getElem?_eq_some_iff.mp b
 exact (List.getElem_inj hN).mp (e1.trans e2.symm)
variable {M:Model} {A:Around} {v:V} {u:Value}
theorem oI {E:Value->Shared->Prop} {Q:Unit->Shared->Prop} (I:Inv X pins σ H s) (hN:X.N.Nodup) (hi:X.N[i]?=some x) (hx:Loc X.env.scope x) (r:RelV v u)
  (h:∀ s',Inv X pins (σ.set i (some v)) H s'->(∃ a,Heap.SameBut a s.heap s'.heap/\(a=X.env.locals\/X.env.cells.lookup x=some a))->Q () s') (hf:X.fn x=true\/X.env.scope.names.lookup x=some .local:=by first | exact .inl rfl | exact .inr rfl | assumption):wpAny M A (storeName X.env x u) Q E s:=by
 obtain ⟨m,hn,hl⟩:=id I.loc
 have hcls:(X.env.scope.kind == .class || (X.env.scope.kind == .module && X.env.locals != X.env.globals))=false:=by rw [I.ok.kind];rfl
 have hiσ:i < σ.length:=by rw [I.len];exact (List.getElem?_eq_some_iff.mp hi).1
 have cne:=I.cne
 have tracked:∀ {a:Addr} {h':Heap},(∃ o,s.heap.get? a=some o/\H a=none)->Heap.SameBut a s.heap h'->HOk X.prog X.w H h':=λ{a h'} ha hs b ob e=>by
  obtain ⟨_,_,hfree⟩:=ha
  refine (I.hok b ob e).stay (λc w' hc q=>(hs.2 c ?_).trans q) (λ_ q=>q) λ_ _ q=>q
  rintro rfl
  rcases hc with rfl | hc
  ·rw [hfree] at e;cases e
  ·rw [hfree] at hc;cases hc
 rcases hx with hk | hk
 ·refine wpAny_storeName_local hk hn (λh' hn' hs=>?_) hcls
  obtain ⟨oL,_,_,hoL,_⟩:=id hn
  refine h _ ⟨I.ok,I.os,I.bare,⟨λb o e n hb hx=>?_,λb o e n hb hx=>?_,I.base.free,λb o e hx=>?_,I.base.tups,I.base.frzs,I.base.tbls⟩,⟨_,hn',λj y v' e1 e2 e3=>?_⟩,λy c e=>?_,I.free,I.freeC,λp hp=>?_,tracked ⟨oL,hoL,I.free⟩ hs,by simpa using I.len⟩ ⟨_,hs,.inl rfl⟩
  ·exact (hs.2 b (Nat.ne_of_lt (Nat.lt_of_lt_of_le (Heap.lt_size e) I.ok.above))).trans (I.base.keep b o e n hb hx)
  ·obtain ⟨sl,e1⟩:=I.base.slot b o e n hb hx
   exact ⟨sl,(hs.2 b (Nat.ne_of_lt (Nat.lt_of_lt_of_le (Heap.lt_size e) I.ok.above))).trans e1⟩
  ·obtain ⟨o',e1⟩:=I.base.there b o e hx
   exact ⟨o',(hs.2 b (Nat.ne_of_lt (Nat.lt_of_lt_of_le (Heap.lt_size e) I.ok.above))).trans e1⟩
  ·by_cases hj:j=i
   ·subst hj
    rw [hi] at e1;cases e1
    rw [List.getElem?_set_self hiσ] at e2
    cases e2
    exact ⟨u,r,.inl ⟨hk,by simp⟩⟩
   ·rw [List.getElem?_set_ne (Ne.symm hj)] at e2
    obtain ⟨u',r',q⟩:=hl j y v' e1 e2 e3
    refine ⟨u',r',?_⟩
    rcases q with ⟨k,e⟩ | ⟨k,c,e,z⟩
    ·refine .inl ⟨k,?_⟩
     have:y≠x:=λe=>hj (rp hN e1 (e ▸ hi))
     simp [this,e]
    ·exact .inr ⟨k,c,e,z.sameBut hs (cne y c e)⟩
  ·obtain ⟨w',z⟩:=I.cell y c e
   exact ⟨w',z.sameBut hs (cne y c e)⟩
  ·obtain ⟨e,n,ne,nf,d⟩:=I.pin p hp
   exact ⟨(hs.2 p.1 ne).trans e,n,ne,nf,d⟩
 ·have hfn:X.fn x=true:=by
   rcases hf with z | z
   ·exact z
   ·rw [z] at hk;cases hk
  obtain ⟨c,hc⟩:=I.ok.has x (.inl hk)
  obtain ⟨w',z⟩:=I.cell x c hc
  refine wpAny_storeName_cell I.ok.kind hk hc z (λh' hc' hs=>?_)
  obtain ⟨oc,hoc,hocd⟩:=id z
  refine h { s with heap:=h' } ⟨I.ok,I.os,I.bare,⟨λb o e n hb hx=>?_,λb o e n hb hx=>?_,I.base.free,λb o e hx=>?_,I.base.tups,I.base.frzs,I.base.tbls⟩,⟨m,hn.sameBut hs (Ne.symm (cne x c hc)),λj y v' e1 e2 e3=>?_⟩,λy c' e=>?_,I.free,I.freeC,λp hp=>?_,tracked ⟨oc,hoc,I.freeC x c hc⟩ hs,by simpa using I.len⟩ ⟨c,hs,.inr hc⟩
  ·exact (hs.2 b (Nat.ne_of_lt (Nat.lt_of_lt_of_le (Heap.lt_size e) (I.ok.cab x c hfn hc)))).trans (I.base.keep b o e n hb hx)
  ·obtain ⟨sl,e1⟩:=I.base.slot b o e n hb hx
   exact ⟨sl,(hs.2 b (Nat.ne_of_lt (Nat.lt_of_lt_of_le (Heap.lt_size e) (I.ok.cab x c hfn hc)))).trans e1⟩
  ·obtain ⟨o',e1⟩:=I.base.there b o e hx
   exact ⟨o',(hs.2 b (Nat.ne_of_lt (Nat.lt_of_lt_of_le (Heap.lt_size e) (I.ok.cab x c hfn hc)))).trans e1⟩
  ·by_cases hj:j=i
   ·subst hj
    rw [hi] at e1;cases e1
    rw [List.getElem?_set_self hiσ] at e2
    cases e2
    exact ⟨u,r,.inr ⟨.inl hk,c,hc,hc'⟩⟩
   ·rw [List.getElem?_set_ne (Ne.symm hj)] at e2
    obtain ⟨u',r',q⟩:=hl j y v' e1 e2 e3
    refine ⟨u',r',?_⟩
    rcases q with q | ⟨k,c',e,z'⟩
    ·exact .inl q
    ·refine .inr ⟨k,c',e,z'.sameBut hs ?_⟩
     rintro rfl
     exact hj (rp hN e1 (I.ok.inj _ _ _ e hc ▸ hi))
  ·by_cases hcc:c'=c
   ·subst hcc;exact ⟨_,hc'⟩
   ·obtain ⟨w2,z2⟩:=I.cell y c' e
    exact ⟨w2,z2.sameBut hs hcc⟩
  ·obtain ⟨e,n,ne,nf,d⟩:=I.pin p hp
   refine ⟨(hs.2 p.1 ?_).trans e,n,ne,nf,d⟩
   intro q
   rw [q,hoc] at e
   have q':oc=p.2:=Option.some.inj e
   exact d w' (by rw [← q'];exact hocd)
theorem i9 {E:Value->Shared->Prop} {Q:Unit->Shared->Prop} (I:Inv X pins σ H s) (hN:X.N.Nodup) (hi:X.N[i]?=some x) (hx:Loc X.env.scope x) (r:RelV v u)
  (h:∀ s',Inv X pins (σ.set i (some v)) H s'->Q () s') (hf:X.fn x=true\/X.env.scope.names.lookup x=some .local:=by first | exact .inl rfl | exact .inr rfl | assumption):wpAny M A (storeName X.env x u) Q E s :=
 oI I hN hi hx r (λs' I' _=>h s' I') hf
theorem Inv.call' {s':Shared} (I:Inv X pins σ H s) (ho:s'.os=s.os) (u:Un (frs X.stack) ch H H' s.heap s'.heap) (hok:HOk X.prog X.w H' s'.heap) (hg:AllBare s'.gens)
  (hch:∀ b ∈ ch,(b ∈ X.ex\/X.s₀.heap.objs.size≤b)/\b≠X.env.locals/\(∀ x c,X.env.cells.lookup x=some c->c≠b)/\∀ p ∈ X.pn++pins,p.1≠b):Inv X pins σ H' s':=by
 obtain ⟨h',g',d',t',o'⟩:=s'
 have e:o'=s.os:=ho
 subst e
 exact I.call (g':=g') (t':=t') (d':=d') u hok hg hch
end
abbrev XK:=Value->Option Addr->Hp->Prop
abbrev St:=List (Option V)
abbrev VK:=V->Hp->Prop
abbrev TE:=St->Hp->VK->Prop
abbrev TT:=St->Hp->(Bool->Hp->Prop)->Prop
abbrev TA:=St->Hp->(List V->Hp->Prop)->Prop
structure iQ where
 nx:St->Hp->Prop
 rt:VK
 bk:St->Hp->Prop:=λ_ _=>False
 ct:St->Hp->Prop:=λ_ _=>False
abbrev TS:=iQ->St->Hp->Prop
def EP (X:Cx) (pins:List (Addr × Obj)) (σ:St) (Q:VK) (u:Value) (s':Shared):Prop:=∃ v H',Inv X pins σ H' s'/\RelV v u/\Q v H'
def TP (X:Cx) (pins:List (Addr × Obj)) (σ:St) (Q:Bool->Hp->Prop) (b:Bool) (s':Shared):Prop:=∃ H',Inv X pins σ H' s'/\Q b H'
def AP (X:Cx) (pins:List (Addr × Obj)) (σ:St) (Q:List V->Hp->Prop) (us:List Value) (s':Shared):Prop:=∃ vs H',Inv X pins σ H' s'/\Vals vs us/\Q vs H'
def SP (X:Cx) (pins:List (Addr × Obj)) (D:iQ) (f:Flow) (s':Shared):Prop :=
 match f with
 | .next=>∃ σ' H',Inv X pins σ' H' s'/\D.nx σ' H'
 | .brk=>∃ σ' H',Inv X pins σ' H' s'/\D.bk σ' H'
 | .cont=>∃ σ' H',Inv X pins σ' H' s'/\D.ct σ' H'
 | .ret u=>∃ v σ' H',Inv X pins σ' H' s'/\RelV v u/\D.rt v H'
def PE (X:Cx) (e:Expr) (t:TE):Prop :=
 ∀ (pins:List (Addr × Obj)) (s:Shared) (σ:St) (H:Hp) (Q:VK),Inv X pins σ H s->t σ H Q->wpAny (model X.prog X.w) X.A (eval e X.env) (EP X pins σ Q) X.xe s
def PT (X:Cx) (e:Expr) (t:TT):Prop :=
 ∀ (pins:List (Addr × Obj)) (s:Shared) (σ:St) (H:Hp) (Q:Bool->Hp->Prop),Inv X pins σ H s->t σ H Q->wpAny (model X.prog X.w) X.A (isTrue e X.env (eval e X.env)) (TP X pins σ Q) X.xe s
def PW (X:Cx) (e:Expr) (t:TT):Prop :=
 ∀ (whole:Sem Value) (pins:List (Addr × Obj)) (s:Shared) (σ:St) (H:Hp) (Q:Bool->Hp->Prop),Inv X pins σ H s->t σ H Q->wpAny (model X.prog X.w) X.A (isTrue e X.env whole) (TP X pins σ Q) X.xe s
variable {X:Cx}
theorem PW.pt {e:Expr} {t:TT} (h:PW X e t):PT X e t:=h _
def PA (X:Cx) (es:List Expr) (t:TA):Prop :=
 ∀ (pos:Pos) (pins:List (Addr × Obj)) (s:Shared) (σ:St) (H:Hp) (Q:List V->Hp->Prop),Inv X pins σ H s->t σ H Q->wpAny (model X.prog X.w) X.A (spliced (backTo pos (starEach es X.env))) (AP X pins σ Q) X.xe s
def PS (X:Cx) (st:Stmt) (t:TS):Prop :=
 ∀ (pins:List (Addr × Obj)) (s:Shared) (σ:St) (H:Hp) (D:iQ),Inv X pins σ H s->t D σ H->wpAny (model X.prog X.w) X.A (exec st X.env) (SP X pins D) X.xe s
def PSs (X:Cx) (st:List Stmt) (t:TS):Prop :=
 ∀ (pins:List (Addr × Obj)) (s:Shared) (σ:St) (H:Hp) (D:iQ),Inv X pins σ H s->t D σ H->wpAny (model X.prog X.w) X.A (execs st X.env) (SP X pins D) X.xe s
variable {M:Model} {A:Around} {s:Shared}
theorem thn {α:Type} {t:Sem α} {Q Q':α->Shared->Prop} {E:Value->Shared->Prop} (h:wpAny M A t Q E s) (hQ:∀ a s,Q a s->Q' a s):wpAny M A t Q' E s:=wpAny_mono h hQ λ_ _ x=>x
section
variable {X:Cx}
def iS (i:Nat):TE:=λσ H Q=>∃ v,σ[i]?=some (some v)/\Q v H
def tC (v:V):TE:=λ_ H Q=>Q v H
variable {x:Str}
theorem BS {i:Nat} {pos:Pos} (hN:X.N[i]?=some x) (hv:Vis X.env.scope x) (hd:(x == ("__debug__":Str))=false:=by decide) (hcd:(x == ("__classdict__":Str))=false:=by decide):PE X (.Name x pos) (iS i):=by
 intro pins s σ H Q I h
 obtain ⟨v,e,h⟩:=h
 obtain ⟨m,hn,hl⟩:=I.loc
 obtain ⟨u,r,l⟩:=hl i x v hN e hv
 have fin:EP X pins σ Q u s:=⟨v,H,I,r,h⟩
 rcases l with ⟨hk,hm⟩ | ⟨hk,c,hc,hcell⟩
 ·exact wpAny_Name (wpAny_loadName_local I.ok.kind hk hn hm fin) hd
 ·rcases hk with hk | hk
  ·exact wpAny_Name (wpAny_loadName_cell I.ok.kind hk hc hcell fin) hd
  ·exact wpAny_Name (wpAny_loadName_free I.ok.kind hk hc hcell fin hcd) hd
theorem ak {i j pos}:PE X (.Constant (.int i) j pos) (tC (.int i)):=λ_ _ _ H _ I h=>wpAny_Constant_int ⟨.int i,H,I.tok _,⟨_,rfl⟩,h⟩
theorem dm {b j pos}:PE X (.Constant (.bool b) j pos) (tC (.bl b)):=λ_ _ _ H _ I h=>Constant_bool ⟨.bl b,H,I,rfl,h⟩
theorem i7 {j pos}:PE X (.Constant .none j pos) (tC .non):=λ_ _ _ H _ I h=>Constant_none ⟨.non,H,I,rfl,h⟩
theorem aD {x j pos}:PE X (.Constant (.str x) j pos) (tC (.str x)):=λ_ _ _ H _ I h=>Calls.Constant_str ⟨.str x,H,I.tok _,⟨_,rfl⟩,h⟩
def Gl (X:Cx) (x:Str):Prop:=X.env.kindOf x=some .globalImplicit
variable {pins:List (Addr × Obj)} {s:Shared} {σ:St} {H:Hp} {u:Value}
theorem pC {E:Value->Shared->Prop} {pos:Pos} {Q:Value->Shared->Prop} (I:Inv X pins σ H s) (hg:Gl X x) (hm:X.mg x=some u) (h:Q u s)
  (hd:(x == ("__debug__":Str))=false:=by decide):wpAny (model X.prog X.w) X.A (eval (.Name x pos) X.env) Q E s :=
 Calls.Name_function_global I.ok.kind hg (Calls.loadGlobal_global (by rw [I.ok.glob];exact I.mod.glob.keeps I.bk) hm h) hd
theorem iX {E:Value->Shared->Prop} {pos:Pos} {Q:Value->Shared->Prop} (I:Inv X pins σ H s) (hg:Gl X x) (hm:X.mg x=none) (hv:bootBuiltins x=some u) (h:Q u s)
  (hn:x≠"__name__":=by decide) (hd:(x == ("__debug__":Str))=false:=by decide):wpAny (model X.prog X.w) X.A (eval (.Name x pos) X.env) Q E s:=by
 obtain ⟨mb,h1,h2⟩:=I.mod.blt
 exact Calls.Name_function_global I.ok.kind hg (Calls.loadGlobal_builtin (by rw [I.ok.glob];exact I.mod.glob.keeps I.bk) hm (by rw [I.ok.blt];exact h1.keeps I.bk) ((h2 x hn).trans hv) h) hd
variable {v:V}
theorem bz {pos:Pos} (hg:Gl X x) (hm:X.mg x=some u) (r:RelV v u) (hd:(x == ("__debug__":Str))=false:=by decide):PE X (.Name x pos) (tC v) :=
 λ_ _ _ H _ I h=>pC I hg hm ⟨v,H,I,r,h⟩ hd
theorem ff {pos:Pos} (hg:Gl X x) (hm:X.mg x=none) (hv:bootBuiltins x=some u) (r:RelV v u) (hn:x≠"__name__":=by decide) (hd:(x == ("__debug__":Str))=false:=by decide):PE X (.Name x pos) (tC v) :=
 λ_ _ _ H _ I h=>iX I hg hm hv ⟨v,H,I,r,h⟩ hn hd
variable {a b:Expr} {ta tb:TE} {pos:Pos}
variable {tA tB':TT} {rest:List Expr}
def DC (t u:TT):TT:=λσ H Q=>t σ H λc H1=>if c=true then u σ H1 Q else Q false H1
def tOr (t u:TT):TT:=λσ H Q=>t σ H λc H1=>if c=true then Q true H1 else u σ H1 Q
def Cd (t:TT):TT:=λσ H Q=>t σ H λc H1=>Q (!c) H1
theorem Ad (ha:PT X a tA):PW X (.BoolOp .And [a] pos) tA:=by
 intro wh pins s σ H Q I h
 refine isTrue_and (thn (ha pins s σ H Q I h) λc s1 e=>?_)
 cases c with
 | true=>exact isTrue_and_nil e
 | false=>exact e
theorem eP (ha:PT X a tA):PW X (.BoolOp .Or [a] pos) tA:=by
 intro wh pins s σ H Q I h
 refine isTrue_or (thn (ha pins s σ H Q I h) λc s1 e=>?_)
 cases c with
 | false=>exact isTrue_or_nil e
 | true=>exact e
theorem BX (ha:PT X a tA) (hb:PW X (.BoolOp .And (b::rest) pos) tB'):PW X (.BoolOp .And (a::b::rest) pos) (DC tA tB'):=by
 intro wh pins s σ H Q I h
 refine isTrue_and (thn (ha pins s σ H _ I h) λc s1 ⟨H1,I1,q1⟩=>?_)
 cases c with
 | true=>exact hb wh pins s1 σ H1 Q I1 q1
 | false=>exact ⟨H1,I1,q1⟩
theorem fg (ha:PT X a tA) (hb:PW X (.BoolOp .Or (b::rest) pos) tB'):PW X (.BoolOp .Or (a::b::rest) pos) (tOr tA tB'):=by
 intro wh pins s σ H Q I h
 refine isTrue_or (thn (ha pins s σ H _ I h) λc s1 ⟨H1,I1,q1⟩=>?_)
 cases c with
 | true=>exact ⟨H1,I1,q1⟩
 | false=>exact hb wh pins s1 σ H1 Q I1 q1
theorem bU (ha:PT X a tA):PT X (.UnaryOp .Not a pos) (Cd tA):=by
 intro pins s σ H Q I h
 exact isTrue_not (ha pins s σ H (λc H1=>Q (!c) H1) I h)
def A0 (ta tb:TE):TE:=λσ H Q=>ta σ H λx H1=>∃ c,x=.bl c/\if c=true then tb σ H1 Q else Q (.bl false) H1
def C3 (ta tb:TE):TE:=λσ H Q=>ta σ H λx H1=>∃ c,x=.bl c/\if c=true then Q (.bl true) H1 else tb σ H1 Q
def A3 (ta:TE):TE:=λσ H Q=>ta σ H λx H1=>∃ c,x=.bl c/\Q (.bl (!c)) H1
theorem gZ {op} {t:TE} (h:PE X a t):PE X (.BoolOp op [a] pos) t:=λpins s σ H Q I hw=>BoolOp_one (h pins s σ H Q I hw)
theorem iC (ha:PE X a ta) (hb:PE X (.BoolOp .And (b::rest) pos) tb):PE X (.BoolOp .And (a::b::rest) pos) (A0 ta tb):=by
 intro pins s σ H Q I h
 refine BoolOp_and (thn (ha pins s σ H _ I h) λv s1 ⟨x,H1,I1,r1,q1⟩=>?_)
 obtain ⟨c,rfl,q1⟩:=q1
 cases r1
 refine wpAny_truthy_bool ?_
 cases c with
 | true=>exact hb pins s1 σ H1 Q I1 q1
 | false=>exact ⟨.bl false,H1,I1,rfl,q1⟩
theorem yf (ha:PE X a ta) (hb:PE X (.BoolOp .Or (b::rest) pos) tb):PE X (.BoolOp .Or (a::b::rest) pos) (C3 ta tb):=by
 intro pins s σ H Q I h
 refine BoolOp_or (thn (ha pins s σ H _ I h) λv s1 ⟨x,H1,I1,r1,q1⟩=>?_)
 obtain ⟨c,rfl,q1⟩:=q1
 cases r1
 refine wpAny_truthy_bool ?_
 cases c with
 | false=>exact hb pins s1 σ H1 Q I1 q1
 | true=>exact ⟨.bl true,H1,I1,rfl,q1⟩
theorem BR (ha:PE X a ta):PE X (.UnaryOp .Not a pos) (A3 ta):=by
 intro pins s σ H Q I h
 refine UnaryOp_ (thn (ha pins s σ H _ I h) λv s1 ⟨x,H1,I1,r1,q1⟩=>?_)
 obtain ⟨c,rfl,q1⟩:=q1
 cases r1
 exact not_of (wpAny_truthy_bool ⟨.bl (!c),H1,I1,rfl,q1⟩)
def tIf (t:TT) (ta tb:TE):TE:=λσ H Q=>t σ H λc H1=>if c=true then ta σ H1 Q else tb σ H1 Q
theorem rO {c:Expr} (hc:PT X c tA) (ha:PE X a ta) (hb:PE X b tb):PE X (.IfExp c a b pos) (tIf tA ta tb):=by
 intro pins s σ H Q I h
 refine wpAny_IfExp (thn (hc pins s σ H _ I h) λd s1 ⟨H1,I1,q1⟩=>?_)
 cases d with
 | true=>exact ha pins s1 σ H1 Q I1 q1
 | false=>exact hb pins s1 σ H1 Q I1 q1
end
def SqL (K:PySem.W.Frag) (H:Hp) (a:Addr) (xs:List V):Prop :=
 Rd H a (.lst xs) \/
  ∃ (o:Obj) (its:Array Value) (n:Nat),K.lookup a=some o/\o.cls=.type "list"/\o.dict=none/\o.data=.seq its n/\its.size≤sizeLine/\Vals xs its.toList
def SqT (K:PySem.W.Frag) (H:Hp) (a:Addr) (xs:List V):Prop :=
 Rd H a (.tup xs) \/
  ∃ (o:Obj) (its:Array Value) (n:Nat),K.lookup a=some o/\o.cls=.type "tuple"/\o.data=.seq its n/\its.size≤sizeLine/\Vals xs its.toList
def Dd:Value->Option V
 | .none=>some .non
 | .bool b=>some (.bl b)
 | .int i _=>some (.int i)
 | .str x _=>some (.str x)
 | .bytes b _=>some (.byt b)
 | .float b _=>some (.flt b)
 | .ref a=>some (.ref a)
 | .type n=>some (.ty n)
 | _=>none
theorem RelV.abs {x:V} (r:RelV x u):Dd u=some x:=by
 cases x with
 | non=>cases r;rfl
 | bl _=>cases r;rfl
 | int _=>obtain ⟨t,rfl⟩:=r;rfl
 | str _=>obtain ⟨t,rfl⟩:=r;rfl
 | byt _=>obtain ⟨t,rfl⟩:=r;rfl
 | flt _=>obtain ⟨t,rfl⟩:=r;rfl
 | ref _=>cases r;rfl
 | ty _=>cases r;rfl
theorem RelV.inj {x y:V} (r:RelV x u) (q:RelV y u):x=y:=Option.some.inj (r.abs.symm.trans q.abs)
theorem Vals.inj:∀ {xs ys:List V} {us:List Value},Vals xs us->Vals ys us->xs=ys
 | _,_,_,.nil,.nil=>rfl
 | _,_,_,.cons r t,.cons r' t'=>by rw [r.inj r',Vals.inj t t']
section
variable {X:Cx} {pins:List (Addr × Obj)} {σ:St} {H:Hp} {s:Shared} {a:Addr} {xs ys:List V}
variable {K:PySem.W.Frag}
theorem SqL.of (h:H a=some (.lst xs)):SqL K H a xs:=.inl (.inl h)
theorem SqT.of (h:H a=some (.tup xs)):SqT K H a xs:=.inl (.inl h)
theorem Inv.list (I:Inv X pins σ H s) (h:SqL X.K H a xs):∃ its:List Value,Vals xs its/\PlainL s.heap a its.toArray/\xs.length≤sizeLine:=by
 rcases h with h | ⟨o,its,n,hk,hc,hd,hs,hz,r⟩
 ·obtain ⟨z,its,n,r,e⟩:=h.ok I.hok
  exact ⟨its,r,⟨_,n,e,rfl,rfl,rfl⟩,z⟩
 ·refine ⟨its.toList,r,⟨o,n,I.kIn a o hk,hc,hd,by simpa using hs⟩,?_⟩
  have e:=r.length
  simp only [Array.length_toList] at e
  omega
theorem Inv.tuple (I:Inv X pins σ H s) (h:SqT X.K H a xs):∃ its:List Value,Vals xs its/\IsTup s.heap a its.toArray/\xs.length≤sizeLine:=by
 rcases h with h | ⟨o,its,n,hk,hc,hs,hz,r⟩
 ·obtain ⟨z,its,r,p⟩:=h.ok I.hok
  exact ⟨its,r,p,z⟩
 ·refine ⟨its.toList,r,⟨o,I.kIn a o hk,hc,n,by simpa using hs⟩,?_⟩
  have e:=r.length
  simp only [Array.length_toList] at e
  omega
theorem Inv.list_inj (I:Inv X pins σ H s) (h:SqL X.K H a xs) (h':SqL X.K H a ys):xs=ys:=by
 obtain ⟨its,r,⟨o,n,e,_,_,d⟩,_⟩:=I.list h
 obtain ⟨its',r',⟨o',n',e',_,_,d'⟩,_⟩:=I.list h'
 rw [e] at e';cases e'
 rw [d] at d'
 injection d' with d1 _
 have:its=its':=by simpa using congrArg Array.toList d1
 subst this
 exact r.inj r'
theorem Inv.tuple_inj (I:Inv X pins σ H s) (h:SqT X.K H a xs) (h':SqT X.K H a ys):xs=ys:=by
 obtain ⟨its,r,⟨o,e,_,n,d⟩,_⟩:=I.tuple h
 obtain ⟨its',r',⟨o',e',_,n',d'⟩,_⟩:=I.tuple h'
 rw [e] at e';cases e'
 rw [d] at d'
 injection d' with d1 _
 have:its=its':=by simpa using congrArg Array.toList d1
 subst this
 exact r.inj r'
end
abbrev Cx.wish (X:Cx) (E:Value->Shared->Prop):Cx:={ X with xe:=E }
abbrev Cx.nox (X:Cx):Cx:=X.wish λ_ _=>False
theorem Cx.Ok.wish (ok:X.Ok) (E:Value->Shared->Prop):(X.wish E).Ok :=
 ⟨ok.mod,ok.kind,ok.glob,ok.blt,ok.above,ok.inj,ok.has,ok.cab,ok.hd,ok.frames,ok.stk,ok.exf,ok.bs,ok.bsz,ok.noex,ok.exfs,ok.funs,ok.frf⟩
theorem Cx.Ok.unwish {E:Value->Shared->Prop} (ok:(X.wish E).Ok):X.Ok :=
 ⟨ok.mod,ok.kind,ok.glob,ok.blt,ok.above,ok.inj,ok.has,ok.cab,ok.hd,ok.frames,ok.stk,ok.exf,ok.bs,ok.bsz,ok.noex,ok.exfs,ok.funs,ok.frf⟩
section
variable {X:Cx} {pins:List (Addr × Obj)} {σ:St} {H:Hp} {s:Shared} {E:Value->Shared->Prop}
theorem Inv.wish (I:Inv X pins σ H s) (E:Value->Shared->Prop):Inv (X.wish E) pins σ H s:=⟨I.ok.wish E,I.os,I.bare,I.base,I.loc,I.cell,I.free,I.freeC,I.pin,I.hok,I.len⟩
theorem Inv.unwish (I:Inv (X.wish E) pins σ H s):Inv X pins σ H s:=⟨I.ok.unwish,I.os,I.bare,I.base,I.loc,I.cell,I.free,I.freeC,I.pin,I.hok,I.len⟩
theorem SP.unwish {D:iQ} {f:Flow} {s':Shared} (h:SP (X.wish E) pins D f s'):SP X pins D f s':=by
 cases f with
 | next=>obtain ⟨σ',H',I,q⟩:=h;exact ⟨σ',H',I.unwish,q⟩
 | brk=>obtain ⟨σ',H',I,q⟩:=h;exact ⟨σ',H',I.unwish,q⟩
 | cont=>obtain ⟨σ',H',I,q⟩:=h;exact ⟨σ',H',I.unwish,q⟩
 | ret u=>obtain ⟨v,σ',H',I,r,q⟩:=h;exact ⟨v,σ',H',I.unwish,r,q⟩
theorem PSs.nox {st:List Stmt} {t:TS} (h:PSs X.nox st t):PSs X st t:=λpins s σ H D I hw =>
 wpAny_mono (h pins s σ H D (I.wish _) hw) (λ_ _ q=>q.unwish) λ_ _ z=>False.elim z
end
section
variable {X:Cx} {st:Stmt} {rest:List Stmt} {t u:TS} {e:Expr} {te:TE} {pos:Pos}
def uL:TS:=λD σ H=>D.nx σ H
def j8 (t u:TS):TS:=λD σ H=>t { D with nx:=u D } σ H
theorem aP:PSs X [] uL:=λ_ _ σ H _ I h=>wpAny_execs_nil ⟨σ,H,I,h⟩
theorem aj (h1:PS X st t) (h2:PSs X rest u):PSs X (st::rest) (j8 t u):=by
 intro pins s σ H D I h
 refine wpAny_execs_cons (thn (h1 pins s σ H { D with nx:=u D } I h) λf s1 q=>?_)
 cases f with
 | next =>
  obtain ⟨σ',H',I',q⟩:=q
  exact h2 pins s1 σ' H' D I' q
 | ret v=>exact q
 | brk=>exact q
 | cont=>exact q
theorem av (h1:PS X st t):PSs X [st] t:=by
 intro pins s σ H D I h
 refine wpAny_execs_cons (thn (h1 pins s σ H D I h) λf s1 q=>?_)
 cases f with
 | next=>exact wpAny_execs_nil q
 | ret v=>exact q
 | brk=>exact q
 | cont=>exact q
def A1:TS:=λD σ H=>D.ct σ H
theorem rQ:PS X (.Continue pos) A1:=λ_ _ σ H _ I h=>wpAny_Continue ⟨σ,H,I,h⟩
theorem Inv.quiet {pins:List (Addr × Obj)} {σ:St} {H:Hp} {s:Shared} (I:Inv X pins σ H s):interactive X.env=false:=by simp [interactive,I.ok.kind]
def mY (te:TE):TS:=λD σ H=>te σ H λ_ H1=>D.nx σ H1
theorem bC (he:PE X e te) (hs:swapsWith e none pos.line X.env=pure false:=by rfl):PS X (.Expr e pos) (mY te):=by
 intro pins s σ H D I h
 exact wpAny_Expr_any (thn (he pins s σ H _ I h) λv s1 ⟨x,H1,I1,r1,q1⟩=>⟨σ,H1,I1,q1⟩) I.quiet hs
def Ce (te:TE):TS:=λD σ H=>te σ H D.rt
theorem aG (he:PE X e te):PS X (.Return (some e) pos) (Ce te):=by
 intro pins s σ H D I h
 exact wpAny_Return_some (thn (he pins s σ H _ I h) λv s1 ⟨x,H1,I1,r1,q1⟩=>⟨x,σ,H1,I1,r1,q1⟩)
def Az (c:TT) (t u:TS):TS:=λD σ H=>c σ H λb H1=>if b=true then t D σ H1 else u D σ H1
theorem bu {c:Expr} {a b:List Stmt} {tc:TT} (hc:PT X c tc) (ha:PSs X a t) (hb:PSs X b u):PS X (.If c a b pos) (Az tc t u):=by
 intro pins s σ H D I h
 refine wpAny_If (thn (hc pins s σ H _ I h) λd s1 ⟨H1,I1,q1⟩=>?_)
 cases d with
 | true=>exact ha pins s1 σ H1 D I1 q1
 | false=>exact hb pins s1 σ H1 D I1 q1
def Cc:TS:=λ_ _ _=>False
theorem ik:PS X st Cc:=λ_ _ _ _ _ _ h=>h.elim
end
abbrev TG:=V->St->Hp->(St->Hp->Prop)->Prop
abbrev TGs:=List V->St->Hp->(St->Hp->Prop)->Prop
def PG (X:Cx) (target:Expr) (t:TG):Prop :=
 ∀ (pins:List (Addr × Obj)) (s:Shared) (σ:St) (H:Hp) (v:V) (u:Value) (Q:St->Hp->Prop),Inv X pins σ H s->RelV v u->t v σ H Q ->
  wpAny (model X.prog X.w) X.A (assign target X.env u) (λ_ s'=>∃ σ' H',Inv X pins σ' H' s'/\Q σ' H') X.xe s
def PGs (X:Cx) (ts:List Expr) (t:TGs):Prop :=
 ∀ (pins:List (Addr × Obj)) (s:Shared) (σ:St) (H:Hp) (vs:List V) (us:List Value) (Q:St->Hp->Prop),Inv X pins σ H s->Vals vs us->t vs σ H Q ->
  wpAny (model X.prog X.w) X.A (assignInOrder ((assignEach ts X.env).map (·.2)) us) (λ_ s'=>∃ σ' H',Inv X pins σ' H' s'/\Q σ' H') X.xe s
abbrev wI:=V->V->V->Hp->(Hp->Prop)->Prop
def A6 (X:Cx) (t:wI):Prop :=
 ∀ (pins:List (Addr × Obj)) (s:Shared) (σ:St) (H:Hp) (o i v:V) (ov iv u:Value) (Q:Hp->Prop),Inv X pins σ H s->RelV o ov->RelV i iv->RelV v u->t o i v H Q ->
  wpAny (model X.prog X.w) X.A (setItem ov iv u) (λ_ s'=>∃ H',Inv X pins σ H' s'/\Q H') X.xe s
abbrev TIp:=V->V->Hp->VK->Prop
def PIp (X:Cx) (op:Operator) (t:TIp):Prop :=
 ∀ (pins:List (Addr × Obj)) (s:Shared) (σ:St) (H:Hp) (x y:V) (v u:Value) (Q:VK),Inv X pins σ H s->RelV x v->RelV y u->t x y H Q ->
  wpAny (model X.prog X.w) X.A (inplaceOp op v u) (EP X pins σ Q) X.xe s
section
variable {X:Cx} {pos:Pos}
def cy (i:Nat):TG:=λv σ H Q=>Q (σ.set i (some v)) H
variable {i:Nat} {x:Str}
theorem aE (hN:X.N.Nodup) (hi:X.N[i]?=some x) (hx:Loc X.env.scope x) (hf:X.fn x=true\/X.env.scope.names.lookup x=some .local:=by first | exact .inl rfl | exact .inr rfl | assumption):PG X (.Name x pos) (cy i):=by
 intro pins s σ H v u Q I r h
 exact wpAny_assign_Name (i9 I hN hi hx r (λs' I'=>⟨_,H,I',h⟩) hf)
def xx:TGs:=λvs σ H Q=>vs=[]/\Q σ H
def jr (t:TG) (u:TGs):TGs:=λvs σ H Q=>∃ v r,vs=v::r/\t v σ H λσ' H'=>u r σ' H' Q
theorem cj:PGs X [] xx:=by
 intro pins s σ H vs us Q I r h
 obtain ⟨e,h⟩:=h
 subst e
 cases r
 exact assignInOrder_nil ⟨σ,H,I,h⟩
variable {e:Expr} {es:List Expr}
theorem aR {t:TG} {u:TGs} (h1:PG X e t) (h2:PGs X es u)
  (hs:(assignEach (e::es) X.env).map (·.2)=assign e X.env::(assignEach es X.env).map (·.2):=by rfl):PGs X (e::es) (jr t u):=by
 intro pins s σ H vs us Q I r h
 obtain ⟨v,vr,e1,h⟩:=h
 subst e1
 cases r with
 | cons r rr =>
  rw [hs]
  refine assignInOrder_cons (thn (h1 pins s σ H _ _ _ I r h) λ_ s1 ⟨σ1,H1,I1,q1⟩=>?_)
  exact h2 pins s1 σ1 H1 _ _ Q I1 rr q1
def vj (K:PySem.W.Frag) (n:Nat) (t:TGs):TG:=λv σ H Q=>∃ a xs,v=.ref a/\SqT K H a xs/\xs.length=n/\t xs σ H Q
theorem dj {k:Nat} {t:TGs} {n:Nat} (hc:X.calm=true) (h:PGs X es t)
  (hn:(assignEach es X.env).length=n:=by rfl) (hst:(assignEach es X.env).findIdx? (·.1)=none:=by rfl):PG X (.Tuple es k pos) (vj X.K n t):=by
 intro pins s σ H v u Q I r hw
 obtain ⟨a,xs,e1,hq,hl,hw⟩:=hw
 subst e1
 cases r
 obtain ⟨its,rv,ht,hz⟩:=I.tuple hq
 refine assign_Tuple_tuple (I.ok.hd hc) ht (by simp [hn,← hl,rv.length]) hst λh' hx=>?_
 have I1:Inv X pins σ H { s with heap:=h' }:=I.kept (t':=s.toks) λb o e=>hx b o (Nat.ne_of_lt (Heap.lt_size e)) e
 exact h pins _ σ H xs _ Q I1 (by simpa using rv) hw
def Di (to ti:TE) (t:wI):TG:=λv σ H Q=>to σ H λo H1=>ti σ H1 λi H2=>t o i v H2 λH3=>Q σ H3
variable {o:Expr} {to ti:TE}
theorem yg {i:Expr} {t:wI} (ho:PE X o to) (hi:PE X i ti) (hs:A6 X t)
  (ha:∀ v,assign (.Subscript o i pos) X.env v=(do
   let ov ← holding [v] (eval o X.env)
   let iv ← holding [v,ov] (eval i X.env)
   standAt pos
   holding [v,ov,iv] (setItem ov iv v)
   release [v,ov,iv] []):=by intro _;rfl):PG X (.Subscript o i pos) (Di to ti t):=by
 intro pins s σ H v u Q I r h
 rw [ha]
 refine wpAny_bind (wpAny_holding (thn (ho pins s σ H _ I h) λov s1 ⟨x,H1,I1,r1,q1⟩=>?_))
 refine wpAny_bind (wpAny_holding (thn (hi pins s1 σ H1 _ I1 q1) λiv s2 ⟨y,H2,I2,r2,q2⟩=>?_))
 refine wpAny_bind (wpAny_standAt (wpAny_bind (wpAny_holding (thn (hs pins s2 σ H2 x y v ov iv u _ I2 r1 r2 r q2) λ_ s3 ⟨H3,I3,q3⟩=>?_))))
 exact wpAny_release ⟨σ,H3,I3,q3⟩
def nE (te:TE) (g:TG):TS:=λD σ H=>te σ H λx H1=>g x σ H1 D.nx
variable {te:TE}
theorem eO {tg:Expr} {g:TG} (he:PE X e te) (hg:PG X tg g) (hs:swapsWithSole [tg] e pos.line X.env=pure false:=by rfl) (hw:swappedStores [tg] e X.env=pure none:=by rfl)
  (h1:(assignEach [tg] X.env).map (·.2)=[assign tg X.env]:=by rfl):PS X (.Assign [tg] e pos) (nE te g):=by
 intro pins s σ H D I h
 refine wpAny_Assign_stores (thn (he pins s σ H _ I h) λv s1 ⟨x,H1,I1,r1,q1⟩=>?_) hs hw
 rw [h1]
 exact thn (hg pins s1 σ H1 x v _ I1 r1 q1) λ_ s2 q=>q
variable {pos':Pos}
theorem bg (hN:X.N.Nodup) (hi:X.N[i]?=some x) (hx:Loc X.env.scope x) (he:PE X e te) (hs:swapsWith e (some (.Name x pos')) pos.line X.env=pure false:=by rfl) (hf:X.fn x=true\/X.env.scope.names.lookup x=some .local:=by first | exact .inl rfl | exact .inr rfl | assumption) :
  PS X (.Assign [.Name x pos'] e pos) (nE te (cy i)):=by
 intro pins s σ H D I h
 refine wpAny_Assign_Name (thn (he pins s σ H _ I h) λv s1 ⟨y,H1,I1,r1,q1⟩=>?_) hs
 exact i9 I1 hN hi hx r1 (λs2 I2=>⟨_,H1,I2,q1⟩) hf
def DF (i j:Nat) (ta:TA):TS:=λD σ H=>ta σ H λvs H1=>∃ v w,vs=[v,w]/\D.nx ((σ.set i (some v)).set j (some w)) H1
theorem tE {j:Nat} {y:Str} {a b:Expr} {ta:TA} {px py pt:Pos} {kt k2 pt2} (hc:X.calm=true) (hN:X.N.Nodup) (hi:X.N[i]?=some x) (hj:X.N[j]?=some y) (hij:i≠j)
  (hx:X.env.scope.names.lookup x=some .local) (hy:X.env.scope.names.lookup y=some .local) (ha:PA X [a,b] ta)
  (hw:swappedStores [.Tuple [.Name x px,.Name y py] kt pt] (.Tuple [a,b] k2 pt2) X.env=pure (some [x,y]))
  (hs:swapsWithSole [.Tuple [.Name x px,.Name y py] kt pt] (.Tuple [a,b] k2 pt2) pos.line X.env=pure false:=by rfl) :
  PS X (.Assign [.Tuple [.Name x px,.Name y py] kt pt] (.Tuple [a,b] k2 pt2) pos) (DF i j ta):=by
 intro pins s σ H D I h
 rw [exec_Assign_arm]
 refine wpAny_bind (wpAny_standAt ?_)
 rw [hs]
 refine wpAny_bind (wpAny_pure ?_)
 rw [if_neg (by decide)]
 refine wpAny_bind (Tuple_ (thn (ha _ pins s σ H _ I h) λus s1 ⟨vs,H1,I1,r1,q1⟩=>?_))
 obtain ⟨v,w,e1,q1⟩:=q1
 subst e1
 obtain ⟨u1,u2,rfl,rv,rw'⟩:∃ u1 u2,us=[u1,u2]/\RelV v u1/\RelV w u2:=by
  cases r1 with
  | cons p q =>
   cases q with
   | cons p' q' =>
    cases q'
    exact ⟨_,_,rfl,p,p'⟩
 refine wpAny_newObj_type ?_ (by show 2≤sizeLine;decide)
 have I2:Inv X pins σ H1 { s1 with heap:=s1.heap.push { cls:=.type "tuple",data:=.seq [u1,u2].toArray } }:=I1.kept (t':=s1.toks) λb o e=>Heap.get?_push_of_some _ e
 rw [hw]
 refine wpAny_bind (wpAny_pure ?_)
 show wpAny (model X.prog X.w) X.A (do rule "assign.swapped-stores";let items ← unpackItems (.ref s1.heap.objs.size) 2 none;assignInOrder [λv=>bindName X.env y v,λv=>bindName X.env x v] items.reverse;pure Flow.next) _ _ _
 refine wpAny_bind (wpAny_rule (wpAny_bind (unpackItems_tuple (items:=#[u1,u2]) (I.ok.hd hc) (IsTup.new s1.heap _) λh' hx'=>?_)))
 have I3:=I2.kept (h':=h') (t':=s1.toks) λb o e=>hx' b o (Nat.ne_of_lt (Heap.lt_size e)) e
 show wpAny _ _ (assignInOrder [λv=>bindName X.env y v,λv=>bindName X.env x v] [u2,u1] >>= λ_=>pure Flow.next) _ _ _
 refine wpAny_bind (assignInOrder_cons (wpAny_bindName (i9 I3 hN hj (.inl hy) rw' (λs2 I4=>?_) (.inr hy))))
 refine assignInOrder_cons (wpAny_bindName (i9 I4 hN hi (.inl hx) rv (λs3 I5=>assignInOrder_nil (wpAny_pure ?_)) (.inr hx)))
 rw [List.set_comm _ _ (Ne.symm hij)] at I5
 exact ⟨_,H1,I5,q1⟩
def DD (i:Nat) (te:TE) (ti:TIp):TS:=λD σ H=>∃ x,σ[i]?=some (some x)/\te σ H λy H1=>ti x y H1 λz H2=>D.nx (σ.set i (some z)) H2
variable {op:Operator}
theorem tD {ti:TIp} (hN:X.N.Nodup) (hi:X.N[i]?=some x) (hx:Loc X.env.scope x) (he:PE X e te) (ho:PIp X op ti) (hf:X.fn x=true\/X.env.scope.names.lookup x=some .local:=by first | exact .inl rfl | exact .inr rfl | assumption) :
  PS X (.AugAssign (.Name x pos') op e pos) (DD i te ti):=by
 intro pins s σ H D I h
 obtain ⟨v,e1,h⟩:=h
 obtain ⟨m,hn,hl⟩:=I.loc
 have vis:Vis X.env.scope x:=by rcases hx with k | k;exact .inl k;exact .inr (.inl k)
 obtain ⟨u,r,l⟩:=hl i x v hi e1 vis
 refine wpAny_AugAssign_Name ?_
 have go:wpAny (model X.prog X.w) X.A (eval e X.env) (λw s₂=>wpAny (model X.prog X.w) X.A (inplaceOp op u w) (λr s₃=>wpAny (model X.prog X.w) X.A (storeName X.env x r) (λ_=>SP X pins D .next) X.xe s₃) X.xe s₂) X.xe s:=by
  refine thn (he pins s σ H _ I h) λw s1 ⟨y,H1,I1,r1,q1⟩=>?_
  refine thn (ho pins s1 σ H1 v y u w _ I1 r r1 q1) λz s2 ⟨zv,H2,I2,r2,q2⟩=>?_
  exact i9 I2 hN hi hx r2 (λs3 I3=>⟨_,H2,I3,q2⟩) hf
 rcases l with ⟨hk,hm⟩ | ⟨hk,c,hc,hcell⟩
 ·exact wpAny_loadName_local I.ok.kind hk hn hm go
 ·rcases hk with hk | hk
  ·exact wpAny_loadName_cell I.ok.kind hk hc hcell go
  ·rcases hx with k | k
   ·have:X.env.scope.names.lookup x=some .free:=hk
    rw [k] at this;cases this
   ·have:X.env.scope.names.lookup x=some .free:=hk
    rw [k] at this;cases this
def C0 (to ti te:TE) (tget:V->V->Hp->VK->Prop) (tip:TIp) (tset:wI):TS:=λD σ H=>to σ H λo H1=>ti σ H1 λi H2=>tget o i H2 λx H3=>te σ H3 λy H4=>tip x y H4 λz H5=>tset o i z H5 λH6=>D.nx σ H6
def Co (X:Cx) (t:V->V->Hp->VK->Prop):Prop :=
 ∀ (pins:List (Addr × Obj)) (s:Shared) (σ:St) (H:Hp) (o i:V) (ov iv:Value) (Q:VK),Inv X pins σ H s->RelV o ov->RelV i iv->t o i H Q ->
  wpAny (model X.prog X.w) X.A (getItem ov iv) (EP X pins σ Q) X.xe s
theorem uA {i:Expr} {tget:V->V->Hp->VK->Prop} {tip:TIp} {tset:wI} {tpos:Pos} (ho:PE X o to) (hi:PE X i ti) (hg:Co X tget) (he:PE X e te) (hp:PIp X op tip) (hs:A6 X tset)
  (ha:∀ ov iv new,augStore i ov iv new=(do holding [new,ov,iv] (setItem ov iv new);release [new,ov,iv] [];pure .next):=by intros;rfl):PS X (.AugAssign (.Subscript o i tpos) op e pos) (C0 to ti te tget tip tset):=by
 intro pins s σ H D I h
 refine wpAny_AugAssign_SubscriptAny (thn (ho pins s σ H _ I h) λov s1 ⟨x1,H1,I1,r1,q1⟩=>?_) ha
 refine thn (hi pins s1 σ H1 _ I1 q1) λiv s2 ⟨x2,H2,I2,r2,q2⟩=>?_
 refine thn (hg pins s2 σ H2 x1 x2 ov iv _ I2 r1 r2 q2) λold s3 ⟨x3,H3,I3,r3,q3⟩=>?_
 refine thn (he pins s3 σ H3 _ I3 q3) λv s4 ⟨x4,H4,I4,r4,q4⟩=>?_
 refine thn (hp pins s4 σ H4 x3 x4 old v _ I4 r3 r4 q4) λnew s5 ⟨x5,H5,I5,r5,q5⟩=>?_
 exact thn (hs pins s5 σ H5 x1 x2 x5 ov iv new _ I5 r1 r2 r5 q5) λ_ s6 ⟨H6,I6,q6⟩=>⟨σ,H6,I6,q6⟩
def ipI (f:Int->Int->Int):TIp:=λx y H Q=>∃ i j,x=.int i/\y=.int j/\Q (.int (f i j)) H
theorem pq:PIp X .Add (ipI λi j=>i+j):=by
 intro pins s σ H x y v u Q I r1 r2 h
 obtain ⟨i,j,e1,e2,q⟩:=h
 subst e1;subst e2
 obtain ⟨t,rfl⟩:=r1
 obtain ⟨t',rfl⟩:=r2
 exact iadd_int ⟨.int _,H,I.tok _,⟨_,rfl⟩,q⟩
theorem By:PIp X .Sub (ipI λi j=>i - j):=by
 intro pins s σ H x y v u Q I r1 r2 h
 obtain ⟨i,j,e1,e2,q⟩:=h
 subst e1;subst e2
 obtain ⟨t,rfl⟩:=r1
 obtain ⟨t',rfl⟩:=r2
 exact isub_int ⟨.int _,H,I.tok _,⟨_,rfl⟩,q⟩
def yK (c:TT) (tb:TS):TS:=λD σ H=>∃ W:Nat->St->Hp->Prop,(∃ m,W m σ H)/\∀ m σ H,W m σ H ->
 c σ H λb H1=>if b=true then ∃ N:St->Hp->Prop,(∀ σ' H',N σ' H'->∃ m',m' < m/\W m' σ' H')/\tb { D with nx:=N,ct:=N,bk:=D.nx } σ H1 else D.nx σ H1
theorem rR {c:Expr} {body:List Stmt} {tc:TT} {tb:TS} (hp:PassesOwn (model X.prog X.w) X.A X.env X.xe) (hc:PT X c tc) (hb:PSs X body tb):PS X (.While c body [] pos) (yK tc tb):=by
 intro pins s σ H D I h
 obtain ⟨W,⟨m0,w0⟩,turn⟩:=h
 refine wpAny_While (codeAny_whileLoop (λn s'=>∃ σ' H',Inv X pins σ' H' s'/\W n σ' H') ?_ m0 ⟨σ,H,I,w0⟩)
 rintro n s1 ⟨σ1,H1,I1,w1⟩
 refine wpAny_passesOwn hp (thn (hc pins s1 σ1 H1 _ I1 (turn n σ1 H1 w1)) λb s2 ⟨H2,I2,q2⟩=>?_)
 cases b with
 | true =>
  obtain ⟨N,hN,q2⟩:=q2
  rw [if_pos rfl]
  refine wpAny_passesOwn hp (thn (hb pins s2 σ1 H2 _ I2 q2) λf s3 q3=>?_)
  cases f with
  | next =>
   obtain ⟨σ3,H3,I3,n3⟩:=q3
   obtain ⟨m',hm,w3⟩:=hN σ3 H3 n3
   exact ⟨m',hm,σ3,H3,I3,w3⟩
  | cont =>
   obtain ⟨σ3,H3,I3,n3⟩:=q3
   obtain ⟨m',hm,w3⟩:=hN σ3 H3 n3
   exact ⟨m',hm,σ3,H3,I3,w3⟩
  | brk=>exact q3
  | ret v=>exact q3
 | false =>
  rw [if_neg Bool.false_ne_true]
  exact wpAny_execs_nil ⟨σ1,H2,I2,q2⟩
end
structure It where
 go:Nat->Hp->Prop
 yld:Nat->Hp->V->Hp->Prop
 stop:Nat->Hp->Prop
def m8 (X:Cx) (pins:List (Addr × Obj)) (H:Hp) (b:Addr):Prop :=
 H b=none/\b≠X.env.locals/\b ∉ X.fs/\(b ∈ X.ex\/X.s₀.heap.objs.size≤b)/\(∀ x c,X.env.cells.lookup x=some c->c≠b)/\∀ p ∈ X.pn++pins,p.1≠b
variable {σ:St}
theorem Inv.fpOk {pins:List (Addr × Obj)} {H':Hp} (I:Inv X pins σ H s) (hb:s.heap.objs.size≤b) (hn:H' b=none):m8 X pins H' b:=by
 refine ⟨hn,Nat.ne_of_gt (Nat.lt_of_lt_of_le I.lt hb),I.nofs hb,.inr (Nat.le_trans I.sz hb),λx c e z=>?_,λp hp z=>?_⟩
 ·obtain ⟨v,q⟩:=I.cell x c e
  exact absurd (Nat.lt_of_lt_of_le q.lt (by rw [z];exact hb)) (Nat.lt_irrefl _)
 ·exact absurd (Nat.lt_of_lt_of_le (Heap.lt_size (I.pin p hp).1) (by rw [z];exact hb)) (Nat.lt_irrefl _)
structure kW (P:Program) (w:World) (K:PySem.W.Frag) (tg:Expr) (J:It) (fp:List Addr) (it:Addr) (tn:Nat->Heap->Prop):Prop where
 mem:it ∈ fp
 obj:∀ i h,tn i h->∀ b ∈ fp,∃ o,h.get? b=some o/\∀ v,o.data≠.cell v
 keep:∀ i h h',tn i h->(∀ b ∈ fp,∀ o,h.get? b=some o->h'.get? b=some o)->tn i h'
 item:∀ (X:Cx),X.prog=P->X.w=w->X.K=K->X.calm=true->∀ (i:Nat) (pins:List (Addr × Obj)) (s:Shared) (σ:St) (H:Hp) (E:Value->Shared->Prop),Inv X pins σ H s->(∀ b ∈ fp,m8 X pins H b)->tn i s.heap->J.go i H ->
  wpAny (model P w) X.A (pyNext (.ref it)) (λr s1=>∃ u,r=some u /\
   wpAny (model P w) X.A (letOwnedTupleGo tg (.ref it) u) (λ_ s2=>∃ x H',Inv X pins σ H' s2/\RelV x u/\J.yld i H x H'/\tn (i+1) s2.heap/\∀ b ∈ fp,H' b=none) E s1) E s
 done:∀ (X:Cx),X.prog=P->X.w=w->X.K=K->X.calm=true->∀ (i:Nat) (pins:List (Addr × Obj)) (s:Shared) (σ:St) (H:Hp) (E:Value->Shared->Prop),Inv X pins σ H s->(∀ b ∈ fp,m8 X pins H b)->tn i s.heap->J.stop i H ->
  wpAny (model P w) X.A (pyNext (.ref it)) (λr s1=>r=none/\Inv X pins σ H s1) E s
 self:∀ (A:Around) (i:Nat) (s:Shared) (Q:Value->Shared->Prop) (E:Value->Shared->Prop),tn i s.heap->Q (.ref it) s->wpAny (model P w) A (pyIter (.ref it)) Q E s
abbrev TI:=St->Hp->(It->Hp->Prop)->Prop
def PIE (X:Cx) (pins:List (Addr × Obj)) (σ:St) (tg:Expr) (R:It->Hp->Prop) (itv:Value) (s2:Shared):Prop :=
 ∃ (it:Addr) (fp:List Addr) (tn:Nat->Heap->Prop) (J:It) (H':Hp),itv=.ref it/\Inv X pins σ H' s2/\kW X.prog X.w X.K tg J fp it tn/\tn 0 s2.heap/\(∀ b ∈ fp,m8 X pins H' b)/\R J H'
def PI (X:Cx) (tg iter:Expr) (wi:TI):Prop :=
 ∀ (pins:List (Addr × Obj)) (s:Shared) (σ:St) (H:Hp) (R:It->Hp->Prop),Inv X pins σ H s->wi σ H R ->
  wpAny (model X.prog X.w) X.A (eval iter X.env) (λv s1=>wpAny (model X.prog X.w) X.A (pyIter v) (PIE X pins σ tg R) X.xe s1) X.xe s
variable {tg:Expr}
theorem qW {E:Value->Shared->Prop} {it:Addr} {n:String} {vs:Array Value} {Q:Unit->Shared->Prop} (ho:s.heap.get? it=some o) (hc:o.cls=.type n) (hd:o.data=.fields vs)
  (hn:["enumerate","zip","dict_itemiterator","dict_reverseitemiterator","odict_iterator","itertools.zip_longest","itertools.pairwise"].contains n=false) (hQ:Q () s):wpAny M A (letOwnedTupleGo tg (.ref it) u) Q E s:=by
 unfold letOwnedTupleGo
 cases tg <;> first
  | exact wpAny_pure hQ
  | (cases u <;> first
    | exact wpAny_pure hQ
    | (refine wpAny_bind (wpAny_load ho ?_)
       rw [hc,hd]
       show wpAny M A (if (["enumerate","zip","dict_itemiterator","dict_reverseitemiterator","odict_iterator","itertools.zip_longest","itertools.pairwise"].contains n && vs[0]? == some (rawInt _))=true then _ else _) Q E s
       rw [if_neg (by intro h;rw [hn,Bool.false_and] at h;cases h)]
       exact wpAny_pure hQ))
def Itl (K:PySem.W.Frag) (a:Addr):It :=
 ⟨λi H=>∃ xs x,SqL K H a xs/\xs[i]?=some x,λi H x H'=>H'=H/\∀ xs,SqL K H a xs->xs[i]?=some x,λi H=>∃ xs,SqL K H a xs/\xs.length≤i⟩
def Itt (K:PySem.W.Frag) (a:Addr):It :=
 ⟨λi H=>∃ xs x,SqT K H a xs/\xs[i]?=some x,λi H x H'=>H'=H/\∀ xs,SqT K H a xs->xs[i]?=some x,λi H=>∃ xs,SqT K H a xs/\xs.length≤i⟩
def Itr (lo:Int) (n:Nat):It:=⟨λi _=>i < n,λi H x H'=>H'=H/\x=.int (lo+i),λi _=>n≤i⟩
variable {K:PySem.W.Frag}
theorem wb (a it:Addr):kW P w K tg (Itl K a) [it] it (λi h=>h.IsListIter it a i) where
 mem:=by simp
 obj:=λi h st b hb=>by
  have e:b=it:=by simpa using hb
  subst e
  obtain ⟨o,e,c,d⟩:=st
  exact ⟨o,e,λv z=>by rw [d] at z;cases z⟩
 keep:=λi h h' st k=>st.at λo e=>k it (by simp) o e
 item:=by
  intro X hP hw hK hc i pins s σ H E I hf st hg
  subst hP hw hK
  obtain ⟨xs,x,hq,hx⟩:=hg
  obtain ⟨its,rv,p,hz⟩:=I.list hq
  obtain ⟨u,hu,ru⟩:=rv.get hx
  obtain ⟨f0,f1,f2,f3,f4,f5⟩:=hf it (by simp)
  refine wpAny_pyNext_list_item st p.isList (x:=u) (by simpa using hu) λh' st' sb=>?_
  have I1:Inv X pins σ H { s with heap:=h' }:=I.turned (t':=s.toks) (λb o hb e=>(sb.2 b hb).trans e) f0 f1 f3 f4 f5
  obtain ⟨o,e,c,d⟩:=id st'
  exact ⟨u,rfl,qW (s:={ s with heap:=h' }) e c d (by decide) ⟨x,H,I1,ru,⟨rfl,λys hy=>by rw [I.list_inj hy hq];exact hx⟩,st',λb hb=>(hf b hb).1⟩⟩
 done:=by
  intro X hP hw hK hc i pins s σ H E I hf st hg
  subst hP hw hK
  obtain ⟨xs,hq,hx⟩:=hg
  obtain ⟨its,rv,p,hz⟩:=I.list hq
  obtain ⟨f0,f1,f2,f3,f4,f5⟩:=hf it (by simp)
  have hl:=rv.length
  exact wpAny_pyNext_list_end (I.ok.hd hc) st p.isList (by simp;omega) λh' eb=>⟨rfl,I.turned (t':=s.toks) (λb o hb e=>eb b o hb e) f0 f1 f3 f4 f5⟩
 self:=λ_ _ _ _ _ st h=>wpAny_pyIter_listiter st h
theorem tT (a it:Addr):kW P w K tg (Itt K a) [it] it (λi h=>h.IsTupleIter it a i) where
 mem:=by simp
 obj:=λi h st b hb=>by
  have e:b=it:=by simpa using hb
  subst e
  obtain ⟨o,e,c,d⟩:=st
  exact ⟨o,e,λv z=>by rw [d] at z;cases z⟩
 keep:=λi h h' st k=>st.at λo e=>k it (by simp) o e
 item:=by
  intro X hP hw hK hc i pins s σ H E I hf st hg
  subst hP hw hK
  obtain ⟨xs,x,hq,hx⟩:=hg
  obtain ⟨its,rv,p,hz⟩:=I.tuple hq
  obtain ⟨u,hu,ru⟩:=rv.get hx
  obtain ⟨f0,f1,f2,f3,f4,f5⟩:=hf it (by simp)
  refine wpAny_pyNext_tuple_item st (show s.heap.IsTuple a its.toArray from p) (x:=u) (by simpa using hu) λh' st' sb=>?_
  have I1:Inv X pins σ H { s with heap:=h' }:=I.turned (t':=s.toks) (λb o hb e=>(sb.2 b hb).trans e) f0 f1 f3 f4 f5
  obtain ⟨o,e,c,d⟩:=id st'
  exact ⟨u,rfl,qW (s:={ s with heap:=h' }) e c d (by decide) ⟨x,H,I1,ru,⟨rfl,λys hy=>by rw [I.tuple_inj hy hq];exact hx⟩,st',λb hb=>(hf b hb).1⟩⟩
 done:=by
  intro X hP hw hK hc i pins s σ H E I hf st hg
  subst hP hw hK
  obtain ⟨xs,hq,hx⟩:=hg
  obtain ⟨its,rv,p,hz⟩:=I.tuple hq
  obtain ⟨f0,f1,f2,f3,f4,f5⟩:=hf it (by simp)
  have hl:=rv.length
  exact wpAny_pyNext_tuple_end (I.ok.hd hc) st (show s.heap.IsTuple a its.toArray from p) (by simp;omega) λh' eb=>⟨rfl,I.turned (t':=s.toks) (λb o hb e=>eb b o hb e) f0 f1 f3 f4 f5⟩
 self:=λ_ _ _ _ _ st h=>wpAny_pyIter_tupleiter st h
theorem tS (it:Addr) (lo:Int) (n:Nat):kW P w K tg (Itr lo n) [it] it (λi h=>IsRangeIter h it (lo+(i:Nat) * 1) ((n:Int) - (i:Nat)) 1) where
 mem:=by simp
 obj:=λi h st b hb=>by
  have e:b=it:=by simpa using hb
  subst e
  exact ⟨_,st,λv z=>by
   have z':Data.fields _=Data.cell v:=z
   cases z'⟩
 keep:=λi h h' st k=>k it (by simp) _ st
 item:=by
  intro X hP hw hK hc i pins s σ H E I hf st hg
  subst hP hw hK
  obtain ⟨f0,f1,f2,f3,f4,f5⟩:=hf it (by simp)
  have W:=Walks.range (prog:=X.prog) (w:=X.w) (I.ok.hd hc) it lo 1 n
  refine W.item i s _ _ hg st λv h' tk hv st' kk=>?_
  obtain ⟨t,rfl⟩:=hv
  have I1:Inv X pins σ H { s with heap:=h',toks:=tk }:=I.turned (λb o hb e=>kk b o (by simpa using hb) e) f0 f1 f3 f4 f5
  refine ⟨_,rfl,qW (s:={ s with heap:=h',toks:=tk }) (n:="range_iterator") st' rfl rfl (by decide) ⟨.int (lo+i),H,I1,⟨t,?_⟩,⟨rfl,rfl⟩,st',λb hb=>(hf b hb).1⟩⟩
  rw [Int.mul_one]
 done:=by
  intro X hP hw hK hc i pins s σ H E I hf st hg
  subst hP hw hK
  obtain ⟨f0,f1,f2,f3,f4,f5⟩:=hf it (by simp)
  exact wpAny_pyNext_range_end (I.ok.hd hc) st (by have:n≤i:=hg;omega) λh' eb=>⟨rfl,I.turned (t':=s.toks) (λb o hb e=>eb b o hb e) f0 f1 f3 f4 f5⟩
 self:=λ_ _ _ _ _ st h=>wpAny_pyIter_rangeiter st h
section
variable {X:Cx} {tg:Expr}
def oi (K:PySem.W.Frag) (tl:TE):TI:=λσ H R=>tl σ H λx H1=>∃ a,x=.ref a/\(∃ xs,SqL K H1 a xs)/\R (Itl K a) H1
def Bw (K:PySem.W.Frag) (tl:TE):TI:=λσ H R=>tl σ H λx H1=>∃ a,x=.ref a/\(∃ xs,SqT K H1 a xs)/\R (Itt K a) H1
variable {l:Expr} {tl:TE}
theorem cP (hl:PE X l tl):PI X tg l (oi X.K tl):=by
 intro pins s σ H R I h
 refine thn (hl pins s σ H _ I h) λv s1 ⟨x,H1,I1,r1,q1⟩=>?_
 obtain ⟨a,e,⟨xs,hq⟩,q⟩:=q1
 subst e
 cases r1
 obtain ⟨its,rv,p,hz⟩:=I1.list hq
 refine wpAny_pyIter_list p.isList ?_
 refine ⟨s1.heap.objs.size,[s1.heap.objs.size],_,_,H1,rfl,I1.kept (t':=s1.toks) λb o e=>Heap.get?_push_of_some _ e,wb a _,⟨_,Heap.get?_push_size _ rfl,rfl,rfl⟩,λb hb=>?_,q⟩
 have e:b=s1.heap.objs.size:=by simpa using hb
 subst e
 exact I1.fpOk (Nat.le_refl _) (I1.hok.fresh (Nat.le_refl _))
theorem iD (hl:PE X l tl):PI X tg l (Bw X.K tl):=by
 intro pins s σ H R I h
 refine thn (hl pins s σ H _ I h) λv s1 ⟨x,H1,I1,r1,q1⟩=>?_
 obtain ⟨a,e,⟨xs,hq⟩,q⟩:=q1
 subst e
 cases r1
 obtain ⟨its,rv,p,hz⟩:=I1.tuple hq
 refine wpAny_pyIter_tuple (show s1.heap.IsTuple a its.toArray from p) ?_
 refine ⟨s1.heap.objs.size,[s1.heap.objs.size],_,_,H1,rfl,I1.kept (t':=s1.toks) λb o e=>Heap.get?_push_of_some _ e,tT a _,⟨_,Heap.get?_push_size _ rfl,rfl,rfl⟩,λb hb=>?_,q⟩
 have e:b=s1.heap.objs.size:=by simpa using hb
 subst e
 exact I1.fpOk (Nat.le_refl _) (I1.hok.fresh (Nat.le_refl _))
variable {pins:List (Addr × Obj)} {σ:St} {H:Hp} {s:Shared}
theorem yz {R:It->Hp->Prop} {E:Value->Shared->Prop} {lo hi:Int} {t u v:Tok} {tk:Nat} (I:Inv X pins σ H s) (h1:-(2 ^ 62)≤lo) (h2:lo < 2 ^ 62) (h3:-(2 ^ 62)≤hi) (h4:hi < 2 ^ 62)
  (q:R (Itr lo (hi - lo).toNat) H):wpAny (model X.prog X.w) X.A (pyIter (.ref s.heap.objs.size)) (PIE X pins σ tg R) E { s with heap:=s.heap.push { cls:=.type "range",data:=.fields #[.int lo t,.int hi u,.int 1 v] },toks:=tk }:=by
 refine wpAny_pyIter_range (IsRange.new ..) (small_one h1 h2 h3 h4) ?_
 have I1:Inv X pins σ H { s with heap:=s.heap.push { cls:=.type "range",data:=.fields #[.int lo t,.int hi u,.int 1 v] },toks:=tk }:=I.kept λb o e=>Heap.get?_push_of_some _ e
 refine ⟨(s.heap.push { cls:=.type "range",data:=.fields #[.int lo t,.int hi u,.int 1 v] }).objs.size,[(s.heap.push { cls:=.type "range",data:=.fields #[.int lo t,.int hi u,.int 1 v] }).objs.size],_,_,H,rfl,
  I1.kept (t':=tk) λb o e=>Heap.get?_push_of_some _ e,tS _ lo (hi - lo).toNat,?_,λb hb=>?_,q⟩
 ·have e1:lo+((0:Nat):Int) * 1=lo:=by simp
  have e2:(((hi - lo).toNat:Nat):Int) - ((0:Nat):Int)=Builtin.Range.rangeSize lo hi 1:=by rw [rangeSize_one];split <;> omega
  show IsRangeIter _ _ (lo+((0:Nat):Int) * 1) ((((hi - lo).toNat:Nat):Int) - ((0:Nat):Int)) 1
  rw [e1,e2]
  exact Heap.get?_push_size _ rfl
 ·have e:b=(s.heap.push { cls:=.type "range",data:=.fields #[.int lo t,.int hi u,.int 1 v] }).objs.size:=by simpa using hb
  subst e
  exact I1.fpOk (Nat.le_refl _) (I1.hok.fresh (Nat.le_refl _))
def AJ (ta:TA):TI:=λσ H R=>ta σ H λvs H1=>∃ j:Int,vs=[.int j]/\-(2 ^ 62)≤j/\j < 2 ^ 62/\R (Itr 0 j.toNat) H1
variable {pos:Pos}
theorem oA {a:Expr} {ta:TA} {p:Pos} (hg:Gl X "range") (hm:X.mg "range"=none) (ha:PA X [a] ta) (hs:starEach [a] X.env=[(false,eval a X.env)]:=by rfl):PI X tg (.Call (.Name "range" p) [a] [] pos) (AJ ta):=by
 intro pins s σ H R I h
 refine Call_ (iX I hg hm boot_range (PyProof.Rows.callWith_type1 (thn (ha pos pins s σ H _ I h) λus s1 ⟨vs,H1,I1,r1,q1⟩=>?_) hs rfl))
 obtain ⟨j,e,q1,q2,q⟩:=q1
 subst e
 cases r1 with
 | cons r rr =>
  cases rr
  obtain ⟨t,rfl⟩:=r
  exact call_range_1 (yz I1 (by omega) (by omega) q1 q2 (by simpa using q))
def C2 (wi:TI) (g:TG) (tb:TS):TS:=λD σ H=>wi σ H λJ H1=>∃ W:Nat->Nat->St->Hp->Prop,(∃ m,W 0 m σ H1)/\∀ i m σ H,W i m σ H ->
 (J.stop i H/\D.nx σ H)\/(J.go i H/\∃ N:St->Hp->Prop,(∀ σ' H',N σ' H'->∃ m',m' < m/\W (i+1) m' σ' H')/\∀ x H',J.yld i H x H'->g x σ H' λσ2 H2=>tb { D with nx:=N,ct:=N,bk:=D.nx } σ2 H2)
def mL (fp:List Addr) (h:Heap):List (Addr × Obj):=fp.filterMap λb=>(h.get? b).map λo=>(b,o)
variable {fp:List Addr} {h:Heap}
theorem iB {b:Addr} {o:Obj} (hb:b ∈ fp) (e:h.get? b=some o):(b,o) ∈ mL fp h:=List.mem_filterMap.mpr ⟨b,hb,by rw [e];rfl⟩
theorem vC {p:Addr × Obj} (hp:p ∈ mL fp h):p.1 ∈ fp/\h.get? p.1=some p.2:=by
 obtain ⟨b,hb,e⟩:=List.mem_filterMap.mp hp
 cases q:h.get? b with
 | none=>rw [q] at e;cases e
 | some o =>
  rw [q] at e
  have e':(b,o)=p:=Option.some.inj e
  subst e'
  exact ⟨hb,q⟩
theorem Inv.pinned (I:Inv X pins σ H s) (hf:∀ b ∈ fp,m8 X pins H b) (ho:∀ b ∈ fp,∃ o,s.heap.get? b=some o/\∀ v,o.data≠.cell v):Inv X (pins++mL fp s.heap) σ H s :=
 I.pins_of λp hp=>(List.mem_append.mp hp).elim (λz=>I.pin p (List.mem_append_right _ z)) λz=>by
  obtain ⟨hb,e⟩:=vC z
  obtain ⟨f0,f1,f2,_⟩:=hf p.1 hb
  obtain ⟨o,e',d⟩:=ho p.1 hb
  rw [e] at e';cases e'
  exact ⟨e,f0,f1,f2,d⟩
theorem Inv.unpinned {pl:List (Addr × Obj)} (I:Inv X (pins++pl) σ H s):Inv X pins σ H s:=I.pins_of λp hp=>I.pin p (List.mem_append_right _ (List.mem_append_left _ hp))
theorem hE {iter:Expr} {body:List Stmt} {wi:TI} {g:TG} {tb:TS} (hp:PassesOwn (model X.prog X.w) X.A X.env X.xe) (hc:X.calm=true) (hi:PI X tg iter wi) (hg:PG X tg g) (hb:PSs X body tb)
  (hs:∀ x,foldedSetIterable iter X.env x=pure x:=by intro _;rfl):PS X (.For tg iter body [] pos) (C2 wi g tb):=by
 intro pins s σ H D I h
 refine wpAny_For (thn (hi pins s σ H _ I h) λv s1 h1=>thn h1 λitv s2 h2=>?_) hs
 obtain ⟨it,fp,tn,J,H2,e,I2,T,st2,f2,W,⟨m0,w0⟩,turn⟩:=h2
 subst e
 have qt:∀ {H':Hp},(∀ b ∈ fp,H' b=none)->∀ b ∈ fp,m8 X pins H' b:=λhn b hb=>⟨hn b hb,(f2 b hb).2⟩
 refine codeAny_forLoop_any (λn s'=>∃ i σ' H',Inv X pins σ' H' s'/\tn i s'.heap/\(∀ b ∈ fp,H' b=none)/\W i n σ' H') ?_ m0 ⟨0,σ,H2,I2,st2,λb hb=>(f2 b hb).1,w0⟩
 rintro n s3 ⟨i,σ3,H3,I3,st3,fr3,w3⟩
 rcases turn i n σ3 H3 w3 with ⟨stop,qn⟩ | ⟨go,N,hN,step⟩
 ·refine wpAny_passesOwn hp (thn (T.done X rfl rfl rfl hc i pins s3 σ3 H3 X.xe I3 (qt fr3) st3 stop) λr s4 ⟨hr,I4⟩=>?_)
  subst hr
  exact wpAny_execs_nil ⟨σ3,H3,I4,qn⟩
 ·refine wpAny_passesOwn hp (thn (T.item X rfl rfl rfl hc i pins s3 σ3 H3 X.xe I3 (qt fr3) st3 go) λr s4 ⟨u,hr,h4⟩=>?_)
  subst hr
  refine wpAny_passesOwn hp (thn h4 λ_ s5 ⟨x,H5,I5,r5,y5,st5,fr5⟩=>?_)
  have I5':=I5.pinned (qt fr5) (T.obj _ _ st5)
  refine wpAny_passesOwn hp (thn (hg _ s5 σ3 H5 x u _ I5' r5 (step x H5 y5)) λ_ s6 ⟨σ6,H6,I6,q6⟩=>?_)
  refine wpAny_passesOwn hp (thn (hb _ s6 σ6 H6 _ I6 q6) λf s7 q7=>?_)
  have again:∀ {σ7:St} {H7:Hp},Inv X (pins++mL fp s5.heap) σ7 H7 s7->N σ7 H7->∃ m,m < n/\∃ i σ' H',Inv X pins σ' H' s7/\tn i s7.heap/\(∀ b ∈ fp,H' b=none)/\W i m σ' H':=λ{σ7 H7} I7 n7=>by
   obtain ⟨m',hm,w7⟩:=hN σ7 H7 n7
   refine ⟨m',hm,i+1,σ7,H7,I7.unpinned,T.keep _ _ _ st5 λb hb o e=>(I7.pin (b,o) (List.mem_append_right _ (List.mem_append_right _ (iB hb e)))).1,λb hb=>?_,w7⟩
   obtain ⟨o,e,d⟩:=T.obj _ _ st5 b hb
   exact (I7.pin (b,o) (List.mem_append_right _ (List.mem_append_right _ (iB hb e)))).2.1
  cases f with
  | next=>obtain ⟨σ7,H7,I7,n7⟩:=q7;exact again I7 n7
  | cont=>obtain ⟨σ7,H7,I7,n7⟩:=q7;exact again I7 n7
  | brk=>obtain ⟨σ7,H7,I7,q7⟩:=q7;exact ⟨σ7,H7,I7.unpinned,q7⟩
  | ret v=>obtain ⟨x7,σ7,H7,I7,r7,q7⟩:=q7;exact ⟨x7,σ7,H7,I7.unpinned,r7,q7⟩
end
variable {g:TG} {tb:TS}
theorem jR {D:iQ} (Pv:Nat->St->Hp->Prop) (h0:Pv 0 σ H) (hl:∀ i σ H,i≤xs.length->Pv i σ H->SqL K H a xs)
  (hs:∀ i x σ H,xs[i]?=some x->Pv i σ H->g x σ H λσ2 H2=>tb { D with nx:=Pv (i+1),ct:=Pv (i+1),bk:=D.nx } σ2 H2) (hd:∀ σ H,Pv xs.length σ H->D.nx σ H) :
  ∃ W:Nat->Nat->St->Hp->Prop,(∃ m,W 0 m σ H)/\∀ i m σ H,W i m σ H ->
   ((Itl K a).stop i H/\D.nx σ H)\/((Itl K a).go i H/\∃ N:St->Hp->Prop,(∀ σ' H',N σ' H'->∃ m',m' < m/\W (i+1) m' σ' H')/\∀ x H',(Itl K a).yld i H x H'->g x σ H' λσ2 H2=>tb { D with nx:=N,ct:=N,bk:=D.nx } σ2 H2):=by
 refine ⟨λi m σ H=>m=xs.length - i/\i≤xs.length/\Pv i σ H,⟨xs.length,by simp,Nat.zero_le _,h0⟩,?_⟩
 rintro i m σ H ⟨rfl,hi,p⟩
 have q:=hl i σ H hi p
 by_cases hlt:i < xs.length
 ·refine .inr ⟨⟨xs,xs[i],q,by simp [hlt]⟩,Pv (i+1),λσ' H' p'=>⟨xs.length - (i+1),by omega,rfl,hlt,p'⟩,λx H' y=>?_⟩
  obtain ⟨e,y⟩:=y
  subst e
  exact hs i x σ _ (y xs q) p
 ·have e:i=xs.length:=by omega
  subst e
  exact .inl ⟨⟨xs,q,Nat.le_refl _⟩,hd σ H p⟩
theorem lE {D:iQ} (Pv:Nat->St->Hp->Prop) (h0:Pv 0 σ H) (hl:∀ i σ H,i≤xs.length->Pv i σ H->SqT K H a xs)
  (hs:∀ i x σ H,xs[i]?=some x->Pv i σ H->g x σ H λσ2 H2=>tb { D with nx:=Pv (i+1),ct:=Pv (i+1),bk:=D.nx } σ2 H2) (hd:∀ σ H,Pv xs.length σ H->D.nx σ H) :
  ∃ W:Nat->Nat->St->Hp->Prop,(∃ m,W 0 m σ H)/\∀ i m σ H,W i m σ H ->
   ((Itt K a).stop i H/\D.nx σ H)\/((Itt K a).go i H/\∃ N:St->Hp->Prop,(∀ σ' H',N σ' H'->∃ m',m' < m/\W (i+1) m' σ' H')/\∀ x H',(Itt K a).yld i H x H'->g x σ H' λσ2 H2=>tb { D with nx:=N,ct:=N,bk:=D.nx } σ2 H2):=by
 refine ⟨λi m σ H=>m=xs.length - i/\i≤xs.length/\Pv i σ H,⟨xs.length,by simp,Nat.zero_le _,h0⟩,?_⟩
 rintro i m σ H ⟨rfl,hi,p⟩
 have q:=hl i σ H hi p
 by_cases hlt:i < xs.length
 ·refine .inr ⟨⟨xs,xs[i],q,by simp [hlt]⟩,Pv (i+1),λσ' H' p'=>⟨xs.length - (i+1),by omega,rfl,hlt,p'⟩,λx H' y=>?_⟩
  obtain ⟨e,y⟩:=y
  subst e
  exact hs i x σ _ (y xs q) p
 ·have e:i=xs.length:=by omega
  subst e
  exact .inl ⟨⟨xs,q,Nat.le_refl _⟩,hd σ H p⟩
theorem sx {c:TT} {D:iQ} (Pv:St->Hp->Prop) (μ:St->Hp->Nat) (h0:Pv σ H)
  (hs:∀ σ H,Pv σ H->c σ H λb H1=>if b=true then tb { D with nx:=λσ' H'=>Pv σ' H'/\μ σ' H' < μ σ H,ct:=λσ' H'=>Pv σ' H'/\μ σ' H' < μ σ H,bk:=D.nx } σ H1 else D.nx σ H1)
  (mono:∀ σ H Q Q',(∀ b H1,Q b H1->Q' b H1)->c σ H Q->c σ H Q'):yK c tb D σ H:=by
 refine ⟨λm σ H=>m=μ σ H/\Pv σ H,⟨_,rfl,h0⟩,?_⟩
 rintro m σ H ⟨rfl,p⟩
 refine mono σ H _ _ (λb H1 q=>?_) (hs σ H p)
 cases b with
 | true=>exact ⟨_,λσ' H' ⟨p',l⟩=>⟨_,l,rfl,p'⟩,q⟩
 | false=>exact q
abbrev R2:=V->V->Hp->VK->Prop
def OpR (X:Cx) (f:Value->Value->Sem Value) (r:R2):Prop :=
 ∀ (pins:List (Addr × Obj)) (s:Shared) (σ:St) (H:Hp) (x y:V) (v u:Value) (Q:VK),Inv X pins σ H s->RelV x v->RelV y u->r x y H Q ->
  wpAny (model X.prog X.w) X.A (f v u) (EP X pins σ Q) X.xe s
def UnR (X:Cx) (f:Value->Sem Value) (r:V->Hp->VK->Prop):Prop :=
 ∀ (pins:List (Addr × Obj)) (s:Shared) (σ:St) (H:Hp) (x:V) (v:Value) (Q:VK),Inv X pins σ H s->RelV x v->r x H Q ->
  wpAny (model X.prog X.w) X.A (f v) (EP X pins σ Q) X.xe s
def gF (X:Cx) (f:Value) (r:List V->Hp->VK->Prop):Prop :=
 ∀ (pins:List (Addr × Obj)) (s:Shared) (σ:St) (H:Hp) (xs:List V) (us:List Value) (Q:VK),Inv X pins σ H s->Vals xs us->r xs H Q ->
  wpAny (model X.prog X.w) X.A (call f us) (EP X pins σ Q) X.xe s
def Dc (X:Cx) (r:V->Hp->(Bool->Hp->Prop)->Prop):Prop :=
 ∀ (pins:List (Addr × Obj)) (s:Shared) (σ:St) (H:Hp) (x:V) (v:Value) (Q:Bool->Hp->Prop),Inv X pins σ H s->RelV x v->r x H Q ->
  wpAny (model X.prog X.w) X.A (truthy v) (TP X pins σ Q) X.xe s
def tOp (r:R2) (ta tb:TE):TE:=λσ H Q=>ta σ H λx H1=>tb σ H1 λy H2=>r x y H2 Q
def tUn (r:V->Hp->VK->Prop) (ta:TE):TE:=λσ H Q=>ta σ H λx H1=>r x H1 Q
def rI (C:Int->Int->Prop) (g:Int->Int->V):R2:=λx y H Q=>∃ i j,x=.int i/\y=.int j/\C i j/\Q (g i j) H
def rI0 (g:Int->Int->V):R2:=λx y H Q=>∃ i j,x=.int i/\y=.int j/\Q (g i j) H
def rU (g:Int->V):V->Hp->VK->Prop:=λx H Q=>∃ i,x=.int i/\Q (g i) H
section
variable {X:Cx} {a b c:Expr} {ta tb tc:TE} {pos:Pos}
variable {f:Value->Value->Sem Value}
theorem Bl (ha:PE X a ta) (hb:PE X b tb) {pins:List (Addr × Obj)} {s:Shared} {σ:St} {H:Hp} {R:V->V->Hp->Prop} (I:Inv X pins σ H s)
  (h:ta σ H λx H1=>tb σ H1 λy H2=>R x y H2) {Q:Value->Shared->Prop}
  (hf:∀ v u s2 x y H2,Inv X pins σ H2 s2->RelV x v->RelV y u->R x y H2->wpAny (model X.prog X.w) X.A (f v u) Q X.xe s2) :
  wpAny (model X.prog X.w) X.A (eval a X.env) (λv s₁=>wpAny (model X.prog X.w) X.A (eval b X.env) (λu s₂=>wpAny (model X.prog X.w) X.A (f v u) Q X.xe s₂) X.xe s₁) X.xe s:=by
 refine thn (ha pins s σ H _ I h) λv s1 ⟨x,H1,I1,r1,q1⟩=>?_
 refine thn (hb pins s1 σ H1 _ I1 q1) λu s2 ⟨y,H2,I2,r2,q2⟩=>?_
 exact hf v u s2 x y H2 I2 r1 r2 q2
theorem bx {op:Operator} {r:R2} (ho:OpR X (binaryOp op) r) (ha:PE X a ta) (hb:PE X b tb):PE X (.BinOp a op b pos) (tOp r ta tb):=by
 intro pins s σ H Q I h
 exact wpAny_BinOp (Bl ha hb I h λv u s2 x y H2 I2 rx ry q=>ho pins s2 σ H2 x y v u Q I2 rx ry q)
theorem AQ {op:UnaryOp} {r:V->Hp->VK->Prop} (ho:UnR X (unaryOp op) r) (ha:PE X a ta):PE X (.UnaryOp op a pos) (tUn r ta):=by
 intro pins s σ H Q I h
 exact UnaryOp_ (thn (ha pins s σ H _ I h) λv s1 ⟨x,H1,I1,r1,q1⟩=>ho pins s1 σ H1 x v Q I1 r1 q1)
variable {g:Int->Int->Int}
theorem opI {C:Int->Int->Prop}
  (rule:∀ (i j:Int) (t u:Tok) (s:Shared) (Q:Value->Shared->Prop) (E:Value->Shared->Prop),C i j->Q (.int (g i j) s.toks) { s with toks:=s.toks+1 }->wpAny (model X.prog X.w) X.A (f (.int i t) (.int j u)) Q E s) :
  OpR X f (rI C λi j=>.int (g i j)):=by
 intro pins s σ H x y v u Q I rx ry h
 obtain ⟨i,j,rfl,rfl,hc,q⟩:=h
 obtain ⟨t,rfl⟩:=rx
 obtain ⟨t',rfl⟩:=ry
 exact rule i j t t' s _ _ hc ⟨.int (g i j),H,I.tok _,⟨_,rfl⟩,q⟩
theorem CP
  (rule:∀ (i j:Int) (t u:Tok) (s:Shared) (Q:Value->Shared->Prop) (E:Value->Shared->Prop),Q (.int (g i j) s.toks) { s with toks:=s.toks+1 }->wpAny (model X.prog X.w) X.A (f (.int i t) (.int j u)) Q E s) :
  OpR X f (rI0 λi j=>.int (g i j)):=by
 intro pins s σ H x y v u Q I rx ry h
 obtain ⟨i,j,rfl,rfl,q⟩:=h
 obtain ⟨t,rfl⟩:=rx
 obtain ⟨t',rfl⟩:=ry
 exact rule i j t t' s _ _ ⟨.int (g i j),H,I.tok _,⟨_,rfl⟩,q⟩
theorem zU {g:Int->Int->Bool}
  (rule:∀ (i j:Int) (t u:Tok) (s:Shared) (Q:Value->Shared->Prop) (E:Value->Shared->Prop),Q (.bool (g i j)) s->wpAny (model X.prog X.w) X.A (f (.int i t) (.int j u)) Q E s) :
  OpR X f (rI0 λi j=>.bl (g i j)):=by
 intro pins s σ H x y v u Q I rx ry h
 obtain ⟨i,j,rfl,rfl,q⟩:=h
 obtain ⟨t,rfl⟩:=rx
 obtain ⟨t',rfl⟩:=ry
 exact rule i j t t' s _ _ ⟨.bl (g i j),H,I,rfl,q⟩
def A5 (i j:Int):Prop:=0 < j/\j < 1073741824
def C9 (i j:Int):Prop:=0≤j/\j≤1000000/\i.natAbs < 2 ^ 64
def CMul (i j:Int):Prop:=(-(2 ^ 64) < i/\i < 2 ^ 64)\/(-(2 ^ 64) < j/\j < 2 ^ 64)
theorem CMul.ok {i j:Int} (h:CMul i j):IntMulOk i j:=by
 rcases h with ⟨h1,h2⟩ | ⟨h1,h2⟩
 ·exact .of_left (intBits_le_64 h1 h2)
 ·exact .of_right (intBits_le_64 h1 h2)
theorem fe:OpR X (binaryOp .Add) (rI0 λi j=>.int (i+j)):=CP λ_ _ _ _ _ _ _ q=>add_int q
theorem pU:OpR X (binaryOp .Sub) (rI0 λi j=>.int (i - j)):=CP λ_ _ _ _ _ _ _ q=>sub_int q
theorem yc:OpR X (binaryOp .Mult) (rI CMul λi j=>.int (i * j)):=opI λ_ _ _ _ _ _ _ hc q=>mul_int q hc.ok
theorem jW:OpR X (binaryOp .FloorDiv) (rI A5 λi j=>.int (i / j)):=opI λi j _ _ _ _ _ hc q=>by
 have h1:(0:Int) < j:=hc.1
 have h2:j < 1073741824:=hc.2
 exact floordiv_int (by omega) (by rw [Int.fdiv_eq_ediv_of_nonneg i (by omega)];exact q) (.inl (PyProof.noPylong_small (by omega)))
theorem fQ:OpR X (binaryOp .Mod) (rI (λ_ j=>0 < j) λi j=>.int (i % j)):=opI λi j _ _ _ _ _ hc q=>by
 have h1:(0:Int) < j:=hc
 exact mod_int' (by omega) (by rw [Int.fmod_eq_emod_of_nonneg i (by omega)];exact q)
theorem pT:OpR X (binaryOp .Pow) (rI C9 λi j=>.int (i ^ j.toNat)):=opI λ_ _ _ _ _ _ _ hc q=>pow_int_small hc.1 hc.2.1 hc.2.2 q
theorem unI {f:Value->Sem Value} {g:Int->Int}
  (rule:∀ (i:Int) (t:Tok) (s:Shared) (Q:Value->Shared->Prop) (E:Value->Shared->Prop),Q (.int (g i) s.toks) { s with toks:=s.toks+1 }->wpAny (model X.prog X.w) X.A (f (.int i t)) Q E s) :
  UnR X f (rU λi=>.int (g i)):=by
 intro pins s σ H x v Q I rx h
 obtain ⟨i,rfl,q⟩:=h
 obtain ⟨t,rfl⟩:=rx
 exact rule i t s _ _ ⟨.int (g i),H,I.tok _,⟨_,rfl⟩,q⟩
theorem yQ:UnR X (unaryOp .USub) (rU λi=>.int (-i)):=unI λ_ _ _ _ _ q=>neg_int q
end
def CZ:V->V->Bool
 | .non,.non=>true | .non,.int _=>true | .int _,.non=>true | .non,.bl _=>true | .bl _,.non=>true | .non,.str _=>true | .str _,.non=>true
 | .int _,.int _=>true | .bl _,.bl _=>true | .str _,.str _=>true | .byt _,.byt _=>true
 | .int _,.str _=>true | .str _,.int _=>true | .bl _,.str _=>true | .str _,.bl _=>true
 | _,_=>false
def rEq:R2:=λx y H Q=>CZ x y=true/\Q (.bl (decide (x=y))) H
def rNe:R2:=λx y H Q=>CZ x y=true/\Q (.bl (!decide (x=y))) H
theorem uc {i j:Int}:decide (V.int i=V.int j)=(i == j):=by
 rw [Bool.eq_iff_iff]
 simp
theorem xi {i j:Bool}:decide (V.bl i=V.bl j)=(i == j):=by
 rw [Bool.eq_iff_iff]
 simp
theorem ud {i j:Str}:decide (V.str i=V.str j)=(i == j):=by
 rw [Bool.eq_iff_iff]
 simp
theorem ub {i j:Array UInt8}:decide (V.byt i=V.byt j)=(i.toList == j.toList):=by
 rw [Bool.eq_iff_iff]
 cases i
 cases j
 simp
section
variable {X:Cx} {a b c:Expr} {ta tb tc:TE} {pos:Pos}
theorem bJ {pins:List (Addr × Obj)} {σ:St} {H:Hp} {s:Shared} {Q:VK} {k k':Bool} (I:Inv X pins σ H s) (q:Q (.bl k) H) (e:k=k'):EP X pins σ Q (.bool k') s:=by
 subst e
 exact ⟨.bl k,H,I,rfl,q⟩
theorem cZ:OpR X (compareOp .Eq) rEq:=by
 intro pins s σ H x y v u Q I rx ry h
 obtain ⟨hs,q⟩:=h
 cases x with
 | non =>
  cases rx
  cases y with
  | non=>cases ry;exact PySem.EqNone.eq_none_none (bJ I q (by simp))
  | bl j=>cases ry;exact PySem.EqNone.eq_none_bool (bJ I q (by simp))
  | int j=>obtain ⟨t',rfl⟩:=ry;exact PySem.EqNone.eq_none_int (bJ I q (by simp))
  | str j=>obtain ⟨t',rfl⟩:=ry;exact PySem.EqNone.eq_none_str (bJ I q (by simp))
  | _=>exact absurd (show false=true from hs) Bool.false_ne_true
 | bl i =>
  cases rx
  cases y with
  | non=>cases ry;exact PySem.EqNone.eq_bool_none (bJ I q (by simp))
  | bl j=>cases ry;exact eq_bool (bJ I q xi)
  | str j=>obtain ⟨t',rfl⟩:=ry;exact PySem.EqMixed.eq_bool_str (bJ I q (by simp))
  | _=>exact absurd (show false=true from hs) Bool.false_ne_true
 | int i =>
  obtain ⟨t,rfl⟩:=rx
  cases y with
  | non=>cases ry;exact PySem.EqNone.eq_int_none (bJ I q (by simp))
  | int j=>obtain ⟨t',rfl⟩:=ry;exact eq_int (bJ I q uc)
  | str j=>obtain ⟨t',rfl⟩:=ry;exact PySem.EqMixed.eq_int_str (bJ I q (by simp))
  | _=>exact absurd (show false=true from hs) Bool.false_ne_true
 | str i =>
  obtain ⟨t,rfl⟩:=rx
  cases y with
  | non=>cases ry;exact PySem.EqNone.eq_str_none (bJ I q (by simp))
  | bl j=>cases ry;exact PySem.EqMixed.eq_str_bool (bJ I q (by simp))
  | int j=>obtain ⟨t',rfl⟩:=ry;exact PySem.EqMixed.eq_str_int (bJ I q (by simp))
  | str j=>obtain ⟨t',rfl⟩:=ry;exact eq_str (bJ I q ud)
  | _=>exact absurd (show false=true from hs) Bool.false_ne_true
 | byt i =>
  obtain ⟨t,rfl⟩:=rx
  cases y with
  | byt j=>obtain ⟨t',rfl⟩:=ry;exact PySem.W.eq_bytes (bJ I q ub)
  | _=>exact absurd (show false=true from hs) Bool.false_ne_true
 | _=>cases y <;> exact absurd (show false=true from hs) Bool.false_ne_true
theorem rK:OpR X (compareOp .NotEq) rNe:=by
 intro pins s σ H x y v u Q I rx ry h
 obtain ⟨hs,q⟩:=h
 cases x with
 | non =>
  cases rx
  cases y with
  | non=>cases ry;exact PySem.EqNone.ne_none_none (bJ I q (by simp))
  | bl j=>cases ry;exact PySem.EqNone.ne_none_bool (bJ I q (by simp))
  | int j=>obtain ⟨t',rfl⟩:=ry;exact PySem.EqNone.ne_none_int (bJ I q (by simp))
  | str j=>obtain ⟨t',rfl⟩:=ry;exact PySem.EqNone.ne_none_str (bJ I q (by simp))
  | _=>exact absurd (show false=true from hs) Bool.false_ne_true
 | bl i =>
  cases rx
  cases y with
  | non=>cases ry;exact PySem.EqNone.ne_bool_none (bJ I q (by simp))
  | bl j=>cases ry;exact ne_bool (bJ I q (congrArg not xi))
  | str j=>obtain ⟨t',rfl⟩:=ry;exact PySem.EqMixed.ne_bool_str (bJ I q (by simp))
  | _=>exact absurd (show false=true from hs) Bool.false_ne_true
 | int i =>
  obtain ⟨t,rfl⟩:=rx
  cases y with
  | non=>cases ry;exact PySem.EqNone.ne_int_none (bJ I q (by simp))
  | int j=>obtain ⟨t',rfl⟩:=ry;exact ne_int (bJ I q (congrArg not uc))
  | str j=>obtain ⟨t',rfl⟩:=ry;exact PySem.EqMixed.ne_int_str (bJ I q (by simp))
  | _=>exact absurd (show false=true from hs) Bool.false_ne_true
 | str i =>
  obtain ⟨t,rfl⟩:=rx
  cases y with
  | non=>cases ry;exact PySem.EqNone.ne_str_none (bJ I q (by simp))
  | bl j=>cases ry;exact PySem.EqMixed.ne_str_bool (bJ I q (by simp))
  | int j=>obtain ⟨t',rfl⟩:=ry;exact PySem.EqMixed.ne_str_int (bJ I q (by simp))
  | str j=>obtain ⟨t',rfl⟩:=ry;exact ne_str (bJ I q (congrArg not ud))
  | _=>exact absurd (show false=true from hs) Bool.false_ne_true
 | byt i =>
  obtain ⟨t,rfl⟩:=rx
  cases y with
  | byt j=>obtain ⟨t',rfl⟩:=ry;exact PySem.W.ne_bytes (bJ I q (congrArg not ub))
  | _=>exact absurd (show false=true from hs) Bool.false_ne_true
 | _=>cases y <;> exact absurd (show false=true from hs) Bool.false_ne_true
theorem oy:OpR X (compareOp .Lt) (rI0 λi j=>.bl (decide (i < j))):=zU λ_ _ _ _ _ _ _ q=>lt_int q
theorem i6:OpR X (compareOp .LtE) (rI0 λi j=>.bl (decide (i≤j))):=zU λ_ _ _ _ _ _ _ q=>le_int q
theorem mJ:OpR X (compareOp .Gt) (rI0 λi j=>.bl (decide (j < i))):=zU λ_ _ _ _ _ _ _ q=>gt_int q
theorem x9:OpR X (compareOp .GtE) (rI0 λi j=>.bl (decide (j≤i))):=zU λ_ _ _ _ _ _ _ q=>ge_int q
theorem pR:OpR X (compareOp .Is) (λx y H Q=>y=.non/\Q (.bl (decide (x=.non))) H):=by
 intro pins s σ H x y v u Q I rx ry h
 obtain ⟨rfl,q⟩:=h
 cases ry
 refine is_none_gen (bJ I q ?_)
 cases x <;> first
  | (cases rx;rfl)
  | (obtain ⟨t,rfl⟩:=rx;rfl)
theorem zX:OpR X (compareOp .IsNot) (λx y H Q=>y=.non/\Q (.bl (!decide (x=.non))) H):=by
 intro pins s σ H x y v u Q I rx ry h
 obtain ⟨rfl,q⟩:=h
 cases ry
 refine isnot_none_gen (bJ I q ?_)
 cases x <;> first
  | (cases rx;rfl)
  | (obtain ⟨t,rfl⟩:=rx;rfl)
variable {r r':R2}
theorem OpR.or {f:Value->Value->Sem Value} (h:OpR X f r) (h':OpR X f r'):OpR X f (λx y H Q=>r x y H Q\/r' x y H Q):=by
 intro pins s σ H x y v u Q I rx ry q
 rcases q with q | q
 ·exact h pins s σ H x y v u Q I rx ry q
 ·exact h' pins s σ H x y v u Q I rx ry q
variable {op:CmpOp}
theorem aY (b:Expr) (h:op≠.In:=by decide) (h2:op≠.NotIn:=by decide):behindInMarks op b=false:=by
 have e1:(op == CmpOp.In)=false:=by cases op <;> first | rfl | exact absurd rfl h
 have e2:(op == CmpOp.NotIn)=false:=by cases op <;> first | rfl | exact absurd rfl h2
 cases b <;> simp [behindInMarks,e1,e2]
theorem cH (ho:OpR X (compareOp op) r) (ha:PE X a ta) (hb:PE X b tb) (hm:behindInMarks op b=false):PE X (.Compare a [op] [b] pos) (tOp r ta tb):=by
 intro pins s σ H Q I h
 exact wpAny_Compare1 (Bl ha hb I h λv u s2 x y H2 I2 rx ry q=>ho pins s2 σ H2 x y v u Q I2 rx ry q) hm
def yI (t:TE):TT:=λσ H Q=>t σ H λx H'=>∃ k,x=.bl k/\Q k H'
theorem aU (ho:OpR X (compareOp op) r) (ha:PE X a ta) (hb:PE X b tb) (hm:behindInMarks op b=false):PT X (.Compare a [op] [b] pos) (yI (tOp r ta tb)):=by
 intro pins s σ H Q I h
 refine wpAny_isTrue_Compare1 (thn (ha pins s σ H _ I h) λv s1 ⟨x,H1,I1,r1,q1⟩=>thn (hb pins s1 σ H1 _ I1 q1) λu s2 ⟨y,H2,I2,r2,q2⟩ =>
  thn (ho pins s2 σ H2 x y v u _ I2 r1 r2 q2) λc s3 ⟨z,H3,I3,r3,k,e,q3⟩=>?_) hm
 subst e
 cases r3
 exact wpAny_truthy_bool ⟨H3,I3,q3⟩
def qu (r r':R2) (ta tb tc:TE):TE:=λσ H Q=>ta σ H λx H1=>tb σ H1 λy H2=>r x y H2 λz H3=>∃ k,z=.bl k /\
 (if k=true then tc σ H3 λw' H4=>r' y w' H4 Q else Q (.bl false) H3)
variable {op':CmpOp}
theorem rN (ho:OpR X (compareOp op) r) (ho':OpR X (compareOp op') r') (ha:PE X a ta) (hb:PE X b tb) (hc:PE X c tc)
  (hm:lastMarks [op,op'] [b,c]=false:=by with_unfolding_all rfl):PE X (.Compare a [op,op'] [b,c] pos) (qu r r' ta tb tc):=by
 intro pins s σ H Q I h
 refine Compare_chain (thn (ha pins s σ H _ I h) λv s1 ⟨x,H1,I1,r1,q1⟩=>chain_link (thn (hb pins s1 σ H1 _ I1 q1) λu s2 ⟨y,H2,I2,r2,q2⟩ =>
  thn (ho pins s2 σ H2 x y v u _ I2 r1 r2 q2) λd s3 ⟨z,H3,I3,r3,k,e,q3⟩=>?_)) hm
 subst e
 cases r3
 refine wpAny_truthy_bool ?_
 cases k with
 | false=>exact ite_ff ⟨.bl false,H3,I3,rfl,q3⟩
 | true=>exact ite_tt (chain_last (thn (hc pins s3 σ H3 _ I3 q3) λw' s4 ⟨z',H4,I4,r4,q4⟩=>ho' pins s4 σ H4 y z' u w' Q I4 r2 r4 q4))
theorem mN (ho:OpR X (compareOp op) r) (ho':OpR X (compareOp op') r') (ha:PE X a ta) (hb:PE X b tb) (hc:PE X c tc)
  (hm:lastMarks [op,op'] [b,c]=false:=by with_unfolding_all rfl):PT X (.Compare a [op,op'] [b,c] pos) (yI (qu r r' ta tb tc)):=by
 intro pins s σ H Q I h
 refine isTrue_chain (thn (ha pins s σ H _ I h) λv s1 ⟨x,H1,I1,r1,q1⟩=>test_link (thn (hb pins s1 σ H1 _ I1 q1) λu s2 ⟨y,H2,I2,r2,q2⟩ =>
  thn (ho pins s2 σ H2 x y v u _ I2 r1 r2 q2) λd s3 ⟨z,H3,I3,r3,k,e,q3⟩=>?_)) hm
 subst e
 cases r3
 refine wpAny_truthy_bool ?_
 cases k with
 | false =>
  obtain ⟨k',e',q'⟩:=q3
  cases e'
  exact ite_ff ⟨H3,I3,q'⟩
 | true =>
  refine ite_tt (test_last (thn (hc pins s3 σ H3 _ I3 q3) λw' s4 ⟨z',H4,I4,r4,q4⟩=>thn (ho' pins s4 σ H4 y z' u w' _ I4 r2 r4 q4) λd' s5 ⟨z2,H5,I5,r5,k2,e2,q5⟩=>?_))
  subst e2
  cases r5
  exact wpAny_truthy_bool ⟨H5,I5,q5⟩
def uP (K:PySem.W.Frag) (x:V) (H:Hp) (k:Bool):Prop :=
 match x with
 | .non=>k=false
 | .bl b=>k=b
 | .int i=>k=(i != 0)
 | .str y=>y.length≤sizeLine/\k=((y.length:Int) != 0)
 | .byt y=>y.size≤sizeLine/\k=((y.size:Int) != 0)
 | .ref p=>(∃ xs,SqL K H p xs/\k=!xs.isEmpty)\/(∃ xs,SqT K H p xs/\k=!xs.isEmpty)\/∃ kvs,H p=some (.dK kvs)/\k=!kvs.isEmpty
 | _=>False
theorem sQ {κ:Type} {kvs:List (κ × V)} {vs:List (κ × Value)} (r:KV kvs vs):(!vs.isEmpty)=!kvs.isEmpty:=by
 cases r <;> rfl
theorem mw {xs:List V} {its:List Value} (r:Vals xs its):(!its.toArray.isEmpty)=!xs.isEmpty:=by
 cases r <;> simp
theorem jB:(sizeLine:Nat) < 2 ^ 63:=by rw [sizeLine_eq];decide
theorem Cg:Dc X (λx H Q=>∃ k,uP X.K x H k/\Q k H):=by
 intro pins s σ H x v Q I rx h
 obtain ⟨k,e,q⟩:=h
 have hl:=jB
 have hs:sizeLine=16777216:=sizeLine_eq
 cases x with
 | non =>
  cases rx
  have e':k=false:=e
  subst e'
  exact truthy_none ⟨H,I,q⟩
 | bl b =>
  cases rx
  have e':k=b:=e
  subst e'
  exact wpAny_truthy_bool ⟨H,I,q⟩
 | int i =>
  obtain ⟨t,rfl⟩:=rx
  have e':k=(i != 0):=e
  subst e'
  exact PySem.P.truthy_int ⟨H,I,q⟩
 | str y =>
  obtain ⟨t,rfl⟩:=rx
  obtain ⟨hy,e'⟩:y.length≤sizeLine/\k=((y.length:Int) != 0):=e
  subst e'
  exact PySem.P.truthy_str (by omega) ⟨H,I.tok _,q⟩
 | byt y =>
  obtain ⟨t,rfl⟩:=rx
  obtain ⟨hy,e'⟩:y.size≤sizeLine/\k=((y.size:Int) != 0):=e
  subst e'
  exact PySem.W.truthy_bytes (by omega) ⟨H,I.tok _,q⟩
 | ref p =>
  cases rx
  have e':(∃ xs,SqL X.K H p xs/\k=!xs.isEmpty)\/(∃ xs,SqT X.K H p xs/\k=!xs.isEmpty)\/∃ kvs,H p=some (.dK kvs)/\k=!kvs.isEmpty:=e
  rcases e' with ⟨xs,hx,e'⟩ | ⟨xs,hx,e'⟩ | ⟨kvs,hx,e'⟩
  ·subst e'
   obtain ⟨its,r,pl,hz⟩:=I.list hx
   have hlen:=r.length
   exact wpAny_truthy_list pl.isList (by simp only [List.size_toArray];omega) ⟨H,I.tok _,by rw [mw r];exact q⟩
  ·subst e'
   obtain ⟨its,r,pl,hz⟩:=I.tuple hx
   have hlen:=r.length
   exact truthy_tuple pl (by simp only [List.size_toArray];omega) ⟨H,I.tok _,by rw [mw r];exact q⟩
  ·subst e'
   obtain ⟨hz,hS,vs,r,m⟩:kvs.length≤sizeLine/\(p == sysModules)=false/\∃ vs,KV kvs vs/\s.heap.DictOf (cY X.prog X.w) p vs:=I.hok p _ hx
   have hlen:kvs.length=vs.length:=Paired.length r
   exact wpAny_truthy_dict hS m (by omega) ⟨H,I.tok _,by rw [sQ r];exact q⟩
 | _=>exact (show False from e).elim
theorem bo (ha:PE X a ta) (he:∀ whole,isTrue a X.env whole=(do let v ← whole;standAt a.pos;holding [v] (truthy v))) :
  PT X a (λσ H Q=>ta σ H λx H'=>∃ k,uP X.K x H' k/\Q k H'):=by
 intro pins s σ H Q I h
 exact isTrue_plain (thn (ha pins s σ H _ I h) λv s1 ⟨x,H1,I1,r1,q1⟩=>Cg pins s1 σ H1 x v Q I1 r1 q1) (he _)
variable {x:V} {us:List Value}
theorem fX (r:Vals [x] us):∃ u,us=[u]/\RelV x u:=by
 cases r with
 | cons r1 r2=>cases r2;exact ⟨_,rfl,r1⟩
theorem C5 {y:V} (r:Vals [x,y] us):∃ u w',us=[u,w']/\RelV x u/\RelV y w':=by
 cases r with
 | cons r1 r2 =>
  cases r2 with
  | cons r3 r4=>cases r4;exact ⟨_,_,rfl,r1,r3⟩
end
section
variable {prog:Program} {w:World} {A:Around} {E:Value->Shared->Prop} {s:Shared} {K:PySem.W.Frag} {x dx C f:Addr} {mA:Str->Option Value} {name:Str} {v:Value}
end
theorem RelO.some_of {v:V} {o:Option Value} (r:RelO (some v) o):∃ u,o=some u/\RelV v u:=by
 cases o with
 | none=>exact (show False from r).elim
 | some u=>exact ⟨u,rfl,r⟩
section
variable {P:Program} {w:World} {H H':Hp} {h h':Heap} {a C dx:Addr} {fs fs':List (Str × V)}
end
section
variable {X:Cx} {pins:List (Addr × Obj)} {σ:St} {H:Hp} {s:Shared} {a C dx:Addr} {fs:List (Str × V)} {f:Str} {v:V} {A:Around} {E:Value->Shared->Prop}
end
section
variable {X:Cx} {o e value:Expr} {f:Str} {pos pos' tpos:Pos} {ta tv:TE}
end
section
variable {X:Cx} {pins:List (Addr × Obj)} {σ:St} {H:Hp} {s:Shared} {A:Around} {E:Value->Shared->Prop} {Q:Value->Shared->Prop} {c:Value} {b:Bool}
end
structure Room (k:Nat) (A:Around):Prop where
 hd:A.handled=none
 dp:A.depth+3 * k+5 < recursionLimit
 un:A.units+16 * k+200 < cLine
variable {j:Nat}
theorem Room.mono {k:Nat} (r:Room k A) (h:j≤k):Room j A:=⟨r.hd,by have:=r.dp;omega,by have:=r.un;omega⟩
theorem Room.deeper {k:Nat} (r:Room (k+1) A) (env:Env):Room k (A.deeper env) :=
 ⟨r.hd,by have:=r.dp;show A.depth+1+3 * k+5 < _;omega,by have:=r.un;show A.units+3+16 * k+200 < _;omega⟩
theorem Room.depth {k:Nat} (r:Room k A):A.depth < recursionLimit:=by have:=r.dp;omega
theorem Room.units {k:Nat} (r:Room k A):A.units+64 < cLine:=by have:=r.un;omega
def d8:TA:=λ_ H Q=>Q [] H
def bP (ta:TE) (tr:TA):TA:=λσ H Q=>ta σ H λx H1=>tr σ H1 λxs H2=>Q (x::xs) H2
section
variable {X:Cx} {e:Expr} {es:List Expr} {te:TE} {t:TA} {pos:Pos}
theorem af:PA X [] d8:=λ_ _ _ _ H Q I h=>Calls.spliced_nil ⟨[],H,I,.nil,h⟩
theorem bO (ha:PE X e te) (hr:PA X es t) (hs:starEach (e::es) X.env=(false,eval e X.env)::starEach es X.env:=by rfl):PA X (e::es) (bP te t):=by
 intro pos pins s σ H Q I h
 rw [hs]
 show wpAny _ _ (spliced ((false,eval e X.env)::backTo pos (starEach es X.env))) _ _ s
 refine Calls.spliced_cons (thn (ha pins s σ H _ I h) λu s1 ⟨x,H1,I1,r1,q1⟩=>?_)
 exact thn (hr pos pins s1 σ H1 _ I1 q1) λus s2 ⟨xs,H2,I2,r2,q2⟩=>⟨x::xs,H2,I2,.cons r1 r2,q2⟩
def yJ (t:TA):TE:=λσ H Q=>t σ H λxs H1=>xs.length≤sizeLine/\∀ p,H1 p=none->Q (.ref p) (upd H1 p (.tup xs))
def AA (t:TA):TE:=λσ H Q=>t σ H λxs H1=>xs.length≤sizeLine/\∀ p,H1 p=none->Q (.ref p) (upd H1 p (.lst xs))
theorem aI {x1} (h:PA X es t):PE X (.Tuple es x1 pos) (yJ t):=by
 intro pins s σ H Q I hq
 refine wpAny_Tuple_spliced (thn (h pos pins s σ H _ I hq) λus s1 ⟨xs,H1,I1,r,z,q⟩=>⟨by rw [← r.length];exact z,?_⟩)
 have hf:H1 s1.heap.objs.size=none:=I1.hok.fresh (Nat.le_refl _)
 refine ⟨.ref s1.heap.objs.size,upd H1 s1.heap.objs.size (.tup xs),I1.laid (t':=s1.toks) (λb u e=>Heap.get?_push_of_some _ e) (Nat.le_refl _) ?_,rfl,q _ hf⟩
 exact ⟨z,us,r,⟨_,Heap.get?_push_size _ rfl,rfl,_,rfl⟩⟩
theorem bA (h:PA X es t):PE X (.List es pos) (AA t):=by
 intro pins s σ H Q I hq
 refine wpAny_List_spliced (thn (h pos pins s σ H _ I hq) λus s1 ⟨xs,H1,I1,r,z,q⟩=>⟨by rw [← r.length];exact z,?_⟩)
 have hf:H1 s1.heap.objs.size=none:=I1.hok.fresh (Nat.le_refl _)
 refine ⟨.ref s1.heap.objs.size,upd H1 s1.heap.objs.size (.lst xs),I1.laid (t':=s1.toks) (λb u e=>Heap.get?_push_of_some _ e) (Nat.le_refl _) ?_,rfl,q _ hf⟩
 exact ⟨z,us,0,r,Heap.get?_push_size _ rfl⟩
end
abbrev Sp:=List V->Hp->VK->XK->Prop
abbrev CXT:=List Env->Hp->Shared->XK->Value->Shared->Prop
structure yV (P:Program) (w:World) (K:PySem.W.Frag) (mg:Str->Option Value) (base:Heap) (A:Around) (outer:List Env) (s:Shared) (H:Hp):Prop where
 frames:A.frames=some outer
 mod:Mod K mg base
 bs:∀ b o,base.get? b=some o->s.heap.get? b=some o/\H b=none
 bsz:base.objs.size≤s.heap.objs.size
 funs:s.heap.FunFrames base outer
 frf:∀ b ∈ frs outer,H b=none
 hok:HOk P w H s.heap
 bare:AllBare s.gens
def CE (outer:List Env) (P:Program) (w:World) (H:Hp) (s:Shared) (Q:VK) (u:Value) (s':Shared):Prop :=
 ∃ v H',s'.os=s.os/\AllBare s'.gens/\Un (frs outer) [] H H' s.heap s'.heap/\HOk P w H' s'.heap/\RelV v u/\Q v H'
def CR (CX:CXT) (outer:List Env) (P:Program) (w:World) (H:Hp) (s:Shared) (Q:VK) (E:XK) (r:Result) (s':Shared):Prop :=
 match r with
 | .ok (.ret u)=>CE outer P w H s Q u s'
 | .ok _=>False
 | .error e=>CX outer H s E e s'
structure FnOk (P:Program) (w:World) (K:PySem.W.Frag) (mg:Str->Option Value) (base:Heap) (CX:CXT) (k:Nat) (f:Addr) (fd:FuncData) (ps:List Str) (sp:Sp):Prop where
 len:∀ vs H Q E,sp vs H Q E->vs.length=ps.length
 run:∀ (A:Around) (outer:List Env) (s:Shared) (H:Hp) (args:Args) (us:List Value) (vs:List V) (Q:VK) (E:XK),Room k A->yV P w K mg base A outer s H->BindsTo s fd args (ps.zip us)->Vals vs us->sp vs H Q E ->
  codeAny (model P w) A (.call (.ref f) args) (CR CX outer P w H s Q E) s
variable {mg:Str->Option Value} {base:Heap} {CX:CXT} {f:Addr} {fd:FuncData} {ps:List Str} {sp:Sp}
theorem FnOk.mono {k:Nat} (F:FnOk P w K mg base CX j f fd ps sp) (h:j≤k) :
  FnOk P w K mg base CX k f fd ps sp:=⟨F.len,λA outer s H args us vs Q E hr=>F.run A outer s H args us vs Q E (hr.mono h)⟩
section
variable {X:Cx} {pins:List (Addr × Obj)} {σ:St} {H:Hp} {s s':Shared}
theorem Inv.env0 (I:Inv X pins σ H s):yV X.prog X.w X.K X.mg X.base X.A X.stack s H :=
 ⟨I.ok.frames,I.ok.mod,I.bs,Nat.le_trans I.ok.bsz I.sz,I.stack,I.stkFree,I.hok,I.bare⟩
theorem Inv.after {Q:VK} {u:Value} (I:Inv X pins σ H s) (h:CE X.stack X.prog X.w H s Q u s'):EP X pins σ Q u s':=by
 obtain ⟨v,H',os,bare,un,hok,r,q⟩:=h
 obtain ⟨hh,g,d,t,os'⟩:=s'
 obtain rfl:os'=s.os:=os
 exact ⟨v,H',I.call (h':=hh) (g':=g) (d':=d) (t':=t) (ch:=[]) un hok bare (λb z=>absurd z (by simp)),r,q⟩
end
def mX (sp:Sp) (dvs:List V) (E:XK) (t:TA):TE:=λσ H Q=>t σ H λvs H1=>sp (vs++dvs) H1 Q E
def Binds (K:PySem.W.Frag) (fd:FuncData) (ps:List Str) (ds:List Value):Prop :=
 ∀ (s:Shared) (us:List Value),K.In s.heap->(us++ds).length=ps.length->BindsTo s fd ⟨us,[]⟩ (ps.zip (us++ds))
theorem Binds.all (h:∀ us:List Value,us.length=ps.length->bindArgs fd ⟨us,[]⟩=pure (ps.zip us)):Binds K fd ps []:=λs us _ hl=>by
 rw [List.append_nil] at hl ⊢
 exact .of_eq (h us hl)
def oP (CX:CXT) (X:Cx) (E:XK):Prop:=∀ (pins:List (Addr × Obj)) (σ:St) (H:Hp) (s:Shared) (e:Value) (s':Shared),Inv X pins σ H s->CX X.stack H s E e s'->X.xe e s'
section
variable {X:Cx} {CX:CXT} {k:Nat} {f C:Addr} {fd:FuncData} {ps:List Str} {sp:Sp} {dvs:List V} {ds:List Value} {E:XK} {x m:Str} {p pos apos:Pos} {e o:Expr} {es:List Expr} {ta:TE} {t:TA}
theorem yF {pins:List (Addr × Obj)} {σ:St} {H:Hp} {s:Shared} {Q:VK} {us:List Value} {vs:List V} (F:FnOk X.prog X.w X.K X.mg X.base CX k f fd ps sp) (hr:Room k X.A) (hb:Binds X.K fd ps ds) (hd:Vals dvs ds) (hx:oP CX X E)
  (I:Inv X pins σ H s) (r:Vals vs us) (h:sp (vs++dvs) H Q E):wpAny (model X.prog X.w) X.A (call (.ref f) us) (EP X pins σ Q) X.xe s:=by
 have r2:Vals (vs++dvs) (us++ds):=r.append hd
 have hl:(us++ds).length=ps.length:=by rw [← r2.length];exact F.len _ _ _ _ h
 refine wpAny_call (codeAny_mono (F.run X.A X.stack s H ⟨us,[]⟩ (us++ds) (vs++dvs) Q E hr I.env0 (hb s us I.kIn hl) r2 h) λr s' hq=>?_)
 cases r with
 | error e=>exact hx pins σ H s e s' I hq
 | ok fl =>
  cases fl with
  | ret u=>exact I.after hq
  | next=>exact False.elim hq
  | brk=>exact False.elim hq
  | cont=>exact False.elim hq
theorem aA (F:FnOk X.prog X.w X.K X.mg X.base CX k f fd ps sp) (hr:Room k X.A) (hg:Gl X x) (hm:X.mg x=some (.ref f)) (hk:PySem.W.keepIn X.K (.ref f)=true) (hb:Binds X.K fd ps ds) (hd:Vals dvs ds) (hx:oP CX X E)
  (ha:PA X (e::es) t) (hdb:(x == ("__debug__":Str))=false:=by decide) (he:starEach (e::es) X.env=(false,eval e X.env)::starEach es X.env:=by rfl) (hpl:(backTo pos (starEach es X.env)).any (·.1)=false:=by rfl) :
  PE X (.Call (.Name x p) (e::es) [] pos) (mX sp dvs E t):=by
 intro pins s σ H Q I h
 refine wpAny_Call_Name_kw (pC I hg hm ?_ hdb)
 refine PySem.W.callWith_K (h₀:=X.base) I.ok.mod.kin hk (thn (ha pos pins s σ H _ I h) λus s1 ⟨vs,H1,I1,r,q⟩=>⟨I1.kIn,?_⟩) he hpl
 exact yF F hr hb hd hx I1 r q
theorem ye (F:FnOk X.prog X.w X.K X.mg X.base CX k f fd ps sp) (hr:Room k X.A) (hg:Gl X x) (hm:X.mg x=some (.ref f)) (hk:PySem.W.keepIn X.K (.ref f)=true) (hb:Binds X.K fd ps ds) (hd:Vals dvs ds) (hx:oP CX X E)
  (hdb:(x == ("__debug__":Str))=false:=by decide):PE X (.Call (.Name x p) [] [] pos) (mX sp dvs E d8):=by
 intro pins s σ H Q I h
 refine wpAny_Call_Name_kw (pC I hg hm ?_ hdb)
 exact PySem.W.callWith_K0 I.kIn hk (yF (us:=[]) F hr hb hd hx I .nil h)
end
section
variable {X:Cx} {CX:CXT} {k:Nat} {f C:Addr} {fd:FuncData} {ps ks:List Str} {sp:Sp} {E:XK} {x m:Str} {p pos apos kpos:Pos} {e o:Expr} {es:List Expr} {kws:List Keyword} {te ta:TE} {t tk:TA} {nm:Option Str}
variable {g:List Value->List Value->List Value} {gV:List V->List V->List V}
end
structure FnScope (N P:List Str) (sc:Scope):Prop where
 kind:sc.kind=.function
 co:sc.isCoroutine=false
 gen:sc.isGenerator=false
 nd:N.Nodup
 pre:N.take P.length=P
 par:∀ x ∈ P,sc.names.lookup x=some .local\/sc.names.lookup x=some .cell
 nofree:∀ y ∈ sc.names,y.2≠.free
theorem FnScope.sc0 {N P:List Str} {sc:Scope} (a:sc.kind=.function:=by rfl) (b:sc.isCoroutine=false:=by rfl) (c:sc.isGenerator=false:=by rfl) (d:N.Nodup:=by decide +kernel) (e:N.take P.length=P:=by rfl) (f:∀ x ∈ P,sc.names.lookup x=some .local\/sc.names.lookup x=some .cell:=by decide +kernel) (g:∀ y ∈ sc.names,y.2≠.free:=by decide +kernel):FnScope N P sc:=⟨a,b,c,d,e,f,g⟩
variable {kindOf:Str->Option NameKind} {x:Str}
theorem nP:∀ {binds:List (Str × Value)} {m:Str->Option Value},(∀ v,(x,v) ∉ binds)->bindL kindOf binds m x=m x
 | [],_,_=>rfl
 | (n,v)::r,m,h=>by
  unfold bindL
  rw [nP λw hw=>h w (List.mem_cons_of_mem _ hw)]
  split
  ·have:x≠n:=by rintro rfl;exact h v List.mem_cons_self
   simp [this]
  ·rfl
theorem nN:∀ {binds:List (Str × Value)} {m:Str->Option Value},(∀ v,(x,v) ∉ binds)->bindC kindOf binds m x=m x
 | [],_,_=>rfl
 | (n,v)::r,m,h=>by
  unfold bindC
  rw [nN λw hw=>h w (List.mem_cons_of_mem _ hw)]
  split
  ·rfl
  ·have:x≠n:=by rintro rfl;exact h v List.mem_cons_self
   simp [this]
variable {v:Value}
theorem nO:∀ {P:List Str} {vs:List Value} {i:Nat} {m:Str->Option Value},P.Nodup->P[i]?=some x->vs[i]?=some v->kindOf x=some .local ->
  bindL kindOf (P.zip vs) m x=some v
 | [],_,_,_,_,h,_,_=>by simp at h
 | _::_,[],_,_,_,_,h,_=>by simp at h
 | p::P,w::vs,0,m,nd,h1,h2,hk=>by
  simp at h1 h2;subst h1;subst h2
  show bindL kindOf ((p,w)::P.zip vs) m p=_
  unfold bindL
  rw [nP λv hv=>(List.nodup_cons.mp nd).1 (List.of_mem_zip hv).1,if_pos hk]
  simp
 | p::P,w::vs,i+1,m,nd,h1,h2,hk=>by
  show bindL kindOf ((p,w)::P.zip vs) m x=_
  unfold bindL
  exact nO (i:=i) (List.nodup_cons.mp nd).2 (by simpa using h1) (by simpa using h2) hk
theorem nM:∀ {P:List Str} {vs:List Value} {i:Nat} {m:Str->Option Value},P.Nodup->P[i]?=some x->vs[i]?=some v->kindOf x≠some .local ->
  bindC kindOf (P.zip vs) m x=some v
 | [],_,_,_,_,h,_,_=>by simp at h
 | _::_,[],_,_,_,_,h,_=>by simp at h
 | p::P,w::vs,0,m,nd,h1,h2,hk=>by
  simp at h1 h2;subst h1;subst h2
  show bindC kindOf ((p,w)::P.zip vs) m p=_
  unfold bindC
  rw [nN λv hv=>(List.nodup_cons.mp nd).1 (List.of_mem_zip hv).1,if_neg hk]
  simp
 | p::P,w::vs,i+1,m,nd,h1,h2,hk=>by
  show bindC kindOf ((p,w)::P.zip vs) m x=_
  unfold bindC
  exact nM (i:=i) (List.nodup_cons.mp nd).2 (by simpa using h1) (by simpa using h2) hk
def fV (N:List Str) (vs:List V):St:=vs.map some++List.replicate (N.length - vs.length) none
def u0 (CX:CXT) (P:Program) (w:World) (K:PySem.W.Frag) (mg:Str->Option Value) (base:Heap) (N:List Str) (qual:Str) (scope:Scope) (f:Addr) (cd:Value) (A:Around) (outer:List Env) (s:Shared) (H:Hp) (E:XK):Cx where
 prog:=P
 w:=w
 K:=K
 mg:=mg
 base:=base
 A:=A.deeper (envOfC qual scope s.heap.objs.size f cd)
 N:=N
 s₀:=s
 H₀:=H
 env:=envOfC qual scope s.heap.objs.size f cd
 outer:=outer
 stack:=envOfC qual scope s.heap.objs.size f cd::outer
 ex:=[]
 calm:=true
 fn:=λ_=>true
 pn:=[]
 xe:=λe s'=>wpAny (model P w) (A.deeper (envOfC qual scope s.heap.objs.size f cd)) (leaving (envOfC qual scope s.heap.objs.size f cd) e) (λ_ s''=>CX outer H s E e s'') (λe' s''=>CX outer H s E e' s'') s'
theorem qM {sc:Scope} {n:Nat} (h:sc.names.lookup x=some .cell):∃ c,(cellsFrom n sc.names []).lookup x=some c:=by
 have q:=PySem.W.cellsFrom_some sc.names n [] (.inl h)
 exact Option.isSome_iff_exists.mp q
variable {N:List Str} {qual:Str} {scope:Scope}
theorem vn {cd:Value} {outer:List Env} {s1:Shared} {E:XK} {vs:List V}
  (S:FnScope N ps scope) (hd:A.handled=none) (e0:yV P w K mg base A outer s H) (hl:vs.length=ps.length) (r:Vals vs us)
  (x:InCallC s s.heap.objs.size (bindL (envOfC qual scope s.heap.objs.size f cd).kindOf (ps.zip us) λ_=>none) (cellsFrom (s.heap.objs.size+1) scope.names []) (bindC (envOfC qual scope s.heap.objs.size f cd).kindOf (ps.zip us) λ_=>none) s1) :
  Inv (u0 CX P w K mg base N qual scope f cd A outer s H E) [] (fV N vs) H s1:=by
 have hpl:ps.length≤N.length:=by have:=congrArg List.length S.pre;rw [List.length_take] at this;omega
 obtain ⟨h1,tk,rfl,hk⟩:=x.done
 have noA:∀ b:Addr,b ∉ (u0 CX P w K mg base N qual scope f cd A outer s H E).ex:=λb z=>absurd (show b ∈ ([]:List Addr) from z) (by simp)
 refine ⟨⟨e0.mod,S.kind,rfl,rfl,Nat.le_refl _,λy z c h1 h2=>?_,λy hy=>?_,λy c _ h=>?_,λ_=>hd,Around.frames_deeper e0.frames,.inr ⟨rfl,rfl⟩,λb z=>absurd z (noA b),e0.bs,e0.bsz,λb _ _=>noA b,λb z=>absurd z (noA b),e0.funs,e0.frf⟩,
  rfl,e0.bare,Un.kept hk,⟨_,x.toInCall.ns,λi y v h1 h2 h3=>?_⟩,λy c h=>⟨_,x.cell y c h⟩,e0.hok.fresh (Nat.le_refl _),λy c h=>?_,λp hp=>absurd (show p ∈ ([]:List (Addr × Obj)) from hp) (by simp),e0.hok.kept hk,?_⟩
 ·exact name_of_addr x.apart (PySem.mem_of_lookup h1) (PySem.mem_of_lookup h2)
 ·have hy:scope.names.lookup y=some .cell\/scope.names.lookup y=some .free:=hy
  rcases hy with hy | hy
  ·exact qM hy
  ·exact absurd rfl (S.nofree _ (PySem.mem_of_lookup hy))
 ·exact Nat.le_of_lt (x.above y c (PySem.mem_of_lookup h))
 ·have hi:i < vs.length:=by
   unfold fV at h2
   by_cases hi:i < vs.length
   ·exact hi
   ·rw [List.getElem?_append_right (by simpa using hi)] at h2
    rw [List.getElem?_replicate] at h2
    split at h2 <;> cases h2
  have ha:vs[i]?=some v:=by
   unfold fV at h2
   rw [List.getElem?_append_left (by simpa using hi),List.getElem?_map] at h2
   cases e:vs[i]? with
   | none=>rw [e] at h2;cases h2
   | some a=>rw [e] at h2;cases h2;rfl
  obtain ⟨u,hu,rv⟩:=r.get ha
  have hp:ps[i]?=some y:=by
   rw [← S.pre,List.getElem?_take_of_lt (by omega)];exact h1
  have ndP:ps.Nodup:=by rw [← S.pre];exact S.nd.sublist (List.take_sublist _ _)
  refine ⟨u,rv,?_⟩
  rcases S.par y (List.mem_of_getElem? hp) with k | k
  ·exact .inl ⟨k,nO ndP hp hu k⟩
  ·obtain ⟨c,e⟩:=qM (n:=s.heap.objs.size+1) k
   refine .inr ⟨.inl k,c,e,?_⟩
   have q:=x.cell y c e
   rw [nM ndP hp hu (by show scope.names.lookup y≠_;rw [k];decide)] at q
   exact q
 ·exact e0.hok.fresh (Nat.le_of_lt (x.above y c (PySem.mem_of_lookup h)))
 ·unfold fV
  show _=N.length
  rw [List.length_append,List.length_map,List.length_replicate]
  omega
theorem Cu {k:Nat} {name:Str} {params:Arguments} {body:List Stmt} {dV kV doc pm cdv ct oc:Value} {an od:Option Addr} {osl:Array (Option Value)} (lk:K.lookup f=some ⟨oc,od,.func (PySem.W.fnOf name qual params body scope dV kV doc pm an cdv ct),osl⟩) (hcd:PySem.W.codeIn K cdv qual=true) (S:FnScope N ps scope)
  (len:∀ vs H Q E,sp vs H Q E->vs.length=ps.length)
  (hbody:∀ (A:Around) (outer:List Env) (s:Shared) (H:Hp) (vs:List V) (Q:VK) (E:XK),Room k (A.deeper (envOfC qual scope s.heap.objs.size f cdv))->sp vs H Q E ->
   ∃ t,PSs (u0 CX P w K mg base N qual scope f cdv A outer s H E) body t/\t { nx:=λ_ H'=>Q .non H',rt:=Q } (fV N vs) H) :
  FnOk P w K mg base CX (k+1) f (PySem.W.fnOf name qual params body scope dV kV doc pm an cdv ct) ps sp:=by
 refine ⟨len,λA outer s H args us vs Q E hr e0 hb r hsp=>?_⟩
 have hl:=len _ _ _ _ hsp
 have KX:K.In s.heap:=e0.mod.kin.keeps λb o e=>(e0.bs b o e).1
 have lim:s.heap.NoLimit:=e0.mod.nolimit.keeps λb o e=>(e0.bs b o e).1
 have hkind:∀ y ∈ ps.zip us,scope.names.lookup y.1=some .local\/(scope.names.lookup y.1=some .cell/\((cellsFrom (s.heap.objs.size+1) scope.names []).lookup y.1).isSome=true):=λ⟨n,v⟩ hy=>by
  rcases S.par n (List.of_mem_zip hy).1 with q | q
  ·exact .inl q
  ·exact .inr ⟨q,PySem.W.cellsFrom_some _ _ _ (.inl q)⟩
 refine codeAny_call_function hr.depth (KX _ _ lk) rfl S.co S.gen rfl (PySem.W.codeRec_of KX hcd) (hb _ _ _ _ ?_)
 refine wpAny_newFunctionEnv_cells S.kind hkind λenv he s1 x=>?_
 subst he
 refine ⟨lim.keeps x.toInCall.keep,codeAny_func ?_⟩
 obtain ⟨t,ht,hq⟩:=hbody A outer s H vs Q E (hr.deeper _) hsp
 have I:Inv (u0 CX P w K mg base N qual scope f cdv A outer s H E) [] (fV N vs) H s1:=vn S hr.hd e0 hl r x
 refine wpAny_mono (ht [] s1 (fV N vs) H _ I hq) (λfl s' hs=>?_) λe s' hs=>hs
 have fin:∀ {σ':St} {H':Hp} {v:V} {u:Value},Inv (u0 CX P w K mg base N qual scope f cdv A outer s H E) [] σ' H' s'->RelV v u->Q v H'->CE outer P w H s Q u s' :=
  λ{σ' H' v u} J rv q=>⟨v,H',J.os,J.bare,J.base,J.hok,rv,q⟩
 cases fl with
 | ret u =>
  obtain ⟨v,σ',H',J,rv,q⟩:=hs
  exact fin J rv q
 | next =>
  obtain ⟨σ',H',J,q⟩:=hs
  exact fin (v:=V.non) (u:=Value.none) J rfl q
 | brk =>
  obtain ⟨_,_,_,q⟩:=hs
  exact False.elim q
 | cont =>
  obtain ⟨_,_,_,q⟩:=hs
  exact False.elim q
section
variable {X:Cx} {x:Str} {p pos:Pos} {e:Expr} {es:List Expr} {t:TA} {id T:String} {r:List V->Hp->VK->Prop}
def tCB (r:List V->Hp->VK->Prop) (t:TA):TE:=λσ H Q=>t σ H λvs H1=>r vs H1 Q
theorem aK (hc:gF X (.builtin id) r) (hg:Gl X x) (hm:X.mg x=none) (hv:bootBuiltins x=some (.builtin id)) (ha:PA X (e::es) t) (hn:x≠"__name__":=by decide) (hdb:(x == ("__debug__":Str))=false:=by decide)
  (he:starEach (e::es) X.env=(false,eval e X.env)::starEach es X.env:=by rfl) (hpl:(backTo pos (starEach es X.env)).any (·.1)=false:=by rfl):PE X (.Call (.Name x p) (e::es) [] pos) (tCB r t):=by
 intro pins s σ H Q I h
 refine wpAny_Call_Name_kw (iX I hg hm hv ?_ hn hdb)
 exact PyProof.Rows.callWith_builtin1 (thn (ha pos pins s σ H _ I h) λus s1 ⟨vs,H1,I1,r1,q1⟩=>hc pins s1 σ H1 vs us Q I1 r1 q1) he hpl
theorem di (hc:gF X (.type T) r) (hg:Gl X x) (hm:X.mg x=none) (hv:bootBuiltins x=some (.type T)) (ha:PA X (e::es) t) (hn:x≠"__name__":=by decide) (hdb:(x == ("__debug__":Str))=false:=by decide)
  (he:starEach (e::es) X.env=(false,eval e X.env)::starEach es X.env:=by rfl) (hpl:(backTo pos (starEach es X.env)).any (·.1)=false:=by rfl):PE X (.Call (.Name x p) (e::es) [] pos) (tCB r t):=by
 intro pins s σ H Q I h
 refine wpAny_Call_Name_kw (iX I hg hm hv ?_ hn hdb)
 exact PyProof.Rows.callWith_type1 (thn (ha pos pins s σ H _ I h) λus s1 ⟨vs,H1,I1,r1,q1⟩=>hc pins s1 σ H1 vs us Q I1 r1 q1) he hpl
end
end L2
namespace HT
open PySem PyProof.Rows
section
open PySem.SeqAt
open PySem.AutoSeq1 (wpAny_loadPart')
open PySem.MeetsSeq PySem.MeetsSeq2 PySem.MeetsSeq3
end
section
variable {prog:Program} {w:World} {A:Around} {E:Value->Shared->Prop} {s:Shared}
variable {t:Addr}
theorem cat_tup {b:Addr} {vs ws:List Value} {Q:Value->Shared->Prop} (ht:IsTup s.heap t vs.toArray) (hb:IsTup s.heap b ws.toArray) (hv:vs≠[])
  (h1:ws=[]->Q (.ref t) s) (h2:ws≠[]->Q (.ref s.heap.objs.size) { s with heap:=s.heap.push { cls:=.type "tuple",data:=.seq (vs++ws).toArray } })
  (hsz:vs.length+ws.length≤sizeLine):wpAny (model prog w) A (binaryOp .Add (.ref t) (.ref b)) Q E s:=by
 obtain ⟨⟨cls,dd,data,sl⟩,ho,hc,n,hd⟩:=id ht
 obtain ⟨⟨cls2,dd2,data2,sl2⟩,ho2,hc2,n2,hd2⟩:=id hb
 simp only at hc hd hc2 hd2
 subst hc hd hc2 hd2
 have e:vs.toArray++ws.toArray=(vs++ws).toArray:=by simp
 by_cases hw:ws=[]
 ·exact concat_meets ⟨_,ho,rfl⟩ ⟨_,ho2,rfl⟩ noFill_tuple_add seq_tuple_add PySem.F.slot_tuple_add PySem.F.entry_tuple_add (PySem.F.args_tuple_add_2 _ _)
   (tuple_addW1 t b vs.toArray ws.toArray n n2 dd dd2 sl sl2 (by simpa using hv) (by simp [hw])) ⟨ho,ho2,h1 hw⟩
 ·refine concat_meets ⟨_,ho,rfl⟩ ⟨_,ho2,rfl⟩ noFill_tuple_add seq_tuple_add PySem.F.slot_tuple_add PySem.F.entry_tuple_add (PySem.F.args_tuple_add_2 _ _)
   (tuple_addW2 t b vs.toArray ws.toArray n n2 dd dd2 sl sl2 (by simpa using hv) (by simpa using hw) (by rw [List.size_toArray,List.size_toArray];exact hsz)) ⟨ho,ho2,?_⟩
  rw [e]
  exact h2 hw
def sIx (n d:Nat):Option Int->Nat
 | none=>d
 | some v=>if v < 0 then (v+(n:Int)).toNat else min v.toNat n
theorem sIx_none (n d:Nat):sIx n d none=d:=rfl
theorem sIx_nat (n d k:Nat):sIx n d (some (k:Int))=min k n:=by
 show (if (k:Int) < 0 then ((k:Int)+(n:Int)).toNat else min (k:Int).toNat n)=min k n
 rw [if_neg (by omega),Int.toNat_natCast]
theorem B8 (n d:Nat) (hd:d≤n) (o:Option Int):sIx n d o≤n:=by
 cases o with
 | none=>exact hd
 | some v =>
  show (if v < 0 then (v+(n:Int)).toNat else min v.toNat n)≤n
  by_cases hv:v < 0
  ·rw [if_pos hv];omega
  ·rw [if_neg hv];exact Nat.min_le_right _ _
theorem tZ (v:Int) (n d:Nat):(if v < 0 then max (v+(n:Int)) 0 else min v (n:Int))=((sIx n d (some v):Nat):Int):=by
 show (if v < 0 then max (v+(n:Int)) 0 else min v (n:Int))=(((if v < 0 then (v+(n:Int)).toNat else min v.toNat n):Nat):Int)
 by_cases hv:v < 0
 ·simp only [if_pos hv];omega
 ·simp only [if_neg hv];omega
theorem sE (lo hi:Option Int) (n:Nat):Builtin.Slice.sliceAdjust lo hi 1 (n:Int)=(((sIx n 0 lo:Nat):Int),((sIx n n hi:Nat):Int)):=by
 have h1:¬ ((1:Int) < 0):=by omega
 unfold Builtin.Slice.sliceAdjust
 simp only [h1,if_false]
 refine Prod.ext ?_ ?_
 ·cases lo with
  | none=>rfl
  | some v=>exact tZ v n 0
 ·cases hi with
  | none=>rfl
  | some v=>exact tZ v n n
theorem tu (i j:Nat):Builtin.Slice.slicePlaces (i:Int) (j:Int) 1=j - i:=by
 unfold Builtin.Slice.slicePlaces
 have h1:(1:Int) > 0:=by omega
 simp only [h1,if_true,Int.ediv_one]
 split <;> omega
theorem mW {v:Value} {o:Option Int} {Q:Option Int->Shared->Prop} (p:IsPart v o) (h:Q o s):wpAny (model prog w) A (Builtin.Slice.slicePartIndex v) Q E s:=by
 cases p with
 | none=>exact slicePart_none h
 | int i t=>exact slicePart_int h
variable {sl:Addr} {vl vu:Value} {lo hi:Option Int}
theorem kE {n:Nat} {Q:Int × Int × Nat->Shared->Prop} (hs:s.heap.IsSliceOf sl vl vu .none) (pl:IsPart vl lo) (pu:IsPart vu hi)
  (h:Q (((sIx n 0 lo:Nat):Int),1,sIx n n hi - sIx n 0 lo) s):wpAny (model prog w) A (Builtin.Slice.sliceApplied (.ref sl) (pure (n:Int))) Q E s:=by
 obtain ⟨os,hos,hcs,hds⟩:=id hs
 unfold Builtin.Slice.sliceApplied Builtin.Slice.sliceFields
 refine wpAny_bind (wpAny_bind (wpAny_field hos hds (x:=vl) rfl (wpAny_bind (wpAny_field hos hds (x:=vu) rfl (wpAny_bind (wpAny_field hos hds (x:=.none) rfl (wpAny_pure ?_)))))))
 refine wpAny_bind (slicePart_none ?_)
 show wpAny _ _ (if ((1:Int) == 0)=true then _ else _) _ _ s
 rw [if_neg (by decide)]
 refine wpAny_bind (mW pl (wpAny_bind (mW pu (wpAny_bind (wpAny_pure ?_)))))
 show wpAny _ _ (match Builtin.Slice.sliceAdjust lo hi 1 (n:Int) with | (lo,hi)=>pure (lo,(1:Int),Builtin.Slice.slicePlaces lo hi 1)) _ _ s
 rw [sE lo hi n]
 show wpAny _ _ (pure (((sIx n 0 lo:Nat):Int),(1:Int),Builtin.Slice.slicePlaces ((sIx n 0 lo:Nat):Int) ((sIx n n hi:Nat):Int) 1)) _ _ s
 rw [tu]
 exact wpAny_pure h
theorem yl (xs:Array Value) (i k:Nat):((List.range k).filterMap λ(m:Nat)=>xs[((i:Int)+(m:Int) * 1).toNat]?).toArray=((xs.toList.drop i).take k).toArray:=by
 have e:(λ(m:Nat)=>xs[((i:Int)+(m:Int) * 1).toNat]?)=λm=>xs[i+m]?:=by
  funext m
  have:((i:Int)+(m:Int) * 1).toNat=i+m:=by omega
  rw [this]
 rw [e]
 have:=pick_run xs i k
 rw [List.filterMap_map] at this
 have e2:((λx=>xs[x]?) ∘ λx=>i+x)=λm=>xs[i+m]?:=rfl
 rw [e2] at this
 rw [this]
theorem getItem_tuple_cut {items:Array Value} {Q:Value->Shared->Prop} (ht:IsTup s.heap t items) (hs:s.heap.IsSliceOf sl vl vu .none) (pl:IsPart vl lo) (pu:IsPart vu hi)
  (hw:¬ (sIx items.size 0 lo=0/\sIx items.size items.size hi=items.size))
  (h:Q (.ref s.heap.objs.size) { s with heap:=s.heap.push { cls:=.type "tuple",data:=.seq ((items.toList.drop (sIx items.size 0 lo)).take (sIx items.size items.size hi - sIx items.size 0 lo)).toArray } })
  (hsz:items.size≤sizeLine):wpAny (model prog w) A (getItem (.ref t) (.ref sl)) Q E s:=by
 have htake:sizeOk (.seq ((items.toList.drop (sIx items.size 0 lo)).take (sIx items.size items.size hi - sIx items.size 0 lo)).toArray):=by
  show ((items.toList.drop (sIx items.size 0 lo)).take (sIx items.size items.size hi - sIx items.size 0 lo)).toArray.size≤sizeLine
  rw [List.size_toArray,List.length_take,List.length_drop,Array.length_toList]
  omega
 have hj:sIx items.size items.size hi≤items.size:=B8 _ _ (Nat.le_refl _) hi
 obtain ⟨os,hos,hcs,hds⟩:=id hs
 have hTs:s.TypeIs (.ref sl) "slice":=⟨os,hos,hcs⟩
 unfold getItem
 try with_reducible refine wpAny_holding ?_
 first | refine wpAny_bind (wpAny_pure ?_) | skip
 refine wpAny_bind (wpAny_sequenceKey ht.typeIs (by decide) ?_)
 refine wpAny_bind (wpAny_callSpecial?_slot (name:=Str.ofString "__getitem__") ht.typeIs PyProof.Rows.slot_tuple_getitem
  (wpAny_call_entry PyProof.Rows.slot_tuple_getitem ht.typeIs entry_tuple_getitem ?_ (args_tuple_getitem _ _)))
 show wpAny _ _ (Builtin.Tuple.tupleItemsOf (.ref t) >>= _) _ _ s
 refine wpAny_bind (tupleItemsOf_ ht ?_)
 refine wpAny_bind (wpAny_typeOf hTs ?_)
 rw [if_pos (by decide)]
 refine wpAny_bind (kE hs pl pu ?_)
 have hno:¬ ((((sIx items.size 0 lo:Nat):Int) == 0 && (1:Int) == 1 && (sIx items.size items.size hi - sIx items.size 0 lo) == items.size)=true):=by
  intro q
  rw [Bool.and_eq_true,Bool.and_eq_true] at q
  have q1:((sIx items.size 0 lo:Nat):Int)=0:=eq_of_beq q.1.1
  have q2:sIx items.size items.size hi - sIx items.size 0 lo=items.size:=eq_of_beq q.2
  exact hw ⟨by omega,by omega⟩
 show wpAny _ _ (if (((sIx items.size 0 lo:Nat):Int) == 0 && (1:Int) == 1 && (sIx items.size items.size hi - sIx items.size 0 lo) == items.size)=true then _ else _) _ _ s
 rw [if_neg hno,yl]
 first
  | exact wpAny_bind (m:=Builtin.Tuple.tupleExact _) (wpAny_newObj_type (wpAny_pure ⟨_,rfl,wpAny_pure h⟩) htake)
  | exact wpAny_bind (m:=Builtin.Tuple.tupleExact _) (wpAny_newObj_type (wpAny_bind (wpAny_pure (wpAny_pure ⟨_,rfl,wpAny_pure h⟩))) htake)
  | exact wpAny_bind (wpAny_bind (m:=Builtin.Tuple.tupleExact _) (wpAny_newObj_type (wpAny_pure (wpAny_pure ⟨_,rfl,wpAny_pure h⟩)) htake))
  | exact wpAny_bind (wpAny_bind (m:=Builtin.Tuple.tupleExact _) (wpAny_newObj_type (wpAny_pure ⟨_,rfl,wpAny_pure h⟩) htake))
end
end HT
namespace L2
open PySem PySem.Spec PyProof.Rows
abbrev TO:=St->Hp->(Option Int->Hp->Prop)->Prop
def PO (X:Cx) (e:Option Expr) (t:TO):Prop :=
 ∀ (pins:List (Addr × Obj)) (s:Shared) (σ:St) (H:Hp) (Q:Option Int->Hp->Prop),Inv X pins σ H s->t σ H Q ->
  wpAny (model X.prog X.w) X.A (evalPart e X.env) (λu s'=>∃ o H',Inv X pins σ H' s'/\IsPart u o/\Q o H') X.xe s
def qv:TO:=λ_ H Q=>Q none H
def sj (t:TE):TO:=λσ H Q=>t σ H λx H1=>∃ i,x=.int i/\Q (some i) H1
section
variable {X:Cx} {e:Expr} {te:TE} {lo hi:Option Expr} {tl th:TO} {pos p2:Pos}
theorem jY:PO X none qv:=by
 intro pins s σ H Q I h
 rw [evalPart_none]
 exact wpAny_pure ⟨none,H,I,.none,h⟩
theorem iE (h:PE X e te):PO X (some e) (sj te):=by
 intro pins s σ H Q I hw
 rw [evalPart_some]
 refine thn (h pins s σ H _ I hw) λu s1 ⟨x,H1,I1,r1,q1⟩=>?_
 obtain ⟨i,rfl,q⟩:=q1
 obtain ⟨t,rfl⟩:=r1
 exact ⟨some i,H1,I1,.int i t,q⟩
def SlR (X:Cx) (r:V->Option Int->Option Int->Hp->VK->Prop):Prop :=
 ∀ (pins:List (Addr × Obj)) (s:Shared) (σ:St) (H:Hp) (x:V) (v vl vu:Value) (lo hi:Option Int) (sl:Addr) (Q:VK),Inv X pins σ H s->RelV x v->s.heap.IsSliceOf sl vl vu .none->IsPart vl lo->IsPart vu hi->r x lo hi H Q ->
  ∃ T id,typeLookup (.type T) "__getitem__"=pure (some (.builtin id))/\s.TypeIs v T/\wpAny (model X.prog X.w) X.A (getItem v (.ref sl)) (EP X pins σ Q) X.xe s
def tSl (r:V->Option Int->Option Int->Hp->VK->Prop) (te:TE) (tl th:TO):TE:=λσ H Q=>te σ H λx H1=>tl σ H1 λl H2=>th σ H2 λu H3=>r x l u H3 Q
theorem ij {r:V->Option Int->Option Int->Hp->VK->Prop} (hr:SlR X r) (he:PE X e te) (hl:PO X lo tl) (hu:PO X hi th):PE X (.Subscript e (.Slice lo hi none p2) pos) (tSl r te tl th):=by
 intro pins s σ H Q I h
 refine Subscript_ (thn (he pins s σ H _ I h) λv s1 ⟨x,H1,I1,r1,q1⟩=>?_)
 refine wpAny_Slice (thn (hl pins s1 σ H1 _ I1 q1) λvl s2 ⟨l,H2,I2,pl,q2⟩=>thn (hu pins s2 σ H2 _ I2 q2) λvu s3 ⟨u,H3,I3,pu,q3⟩=>?_)
 rw [evalPart_none]
 refine wpAny_pure ?_
 have I4:Inv X pins σ H3 { s3 with heap:=s3.heap.push { cls:=.type "slice",data:=.fields #[vl,vu,.none] } }:=I3.kept (t':=s3.toks) λb ob q=>Heap.get?_push_of_some _ q
 obtain ⟨T,id,hT,ht,hg⟩:=hr pins { s3 with heap:=s3.heap.push { cls:=.type "slice",data:=.fields #[vl,vu,.none] } } σ H3 x v vl vu l u s3.heap.objs.size Q I4 r1 (Heap.IsSliceOf.new ..) pl pu q3
 show wpAny (model X.prog X.w) X.A (subscriptTail e (.Slice lo hi none p2) v (.ref s3.heap.objs.size)) (EP X pins σ Q) X.xe { s3 with heap:=s3.heap.push { cls:=.type "slice",data:=.fields #[vl,vu,.none] } }
 exact tail_any (ops:=[.ref s3.heap.objs.size,v]) ht hT hg (by with_unfolding_all rfl)
def kY (xs:List V) (lo hi:Option Int):List V:=(xs.drop (HT.sIx xs.length 0 lo)).take (HT.sIx xs.length xs.length hi - HT.sIx xs.length 0 lo)
theorem kO (xs:List V) (lo hi:Option Int):(kY xs lo hi).length≤xs.length:=by
 unfold kY
 rw [List.length_take,List.length_drop]
 omega
def B0 (K:PySem.W.Frag):V->Option Int->Option Int->Hp->VK->Prop:=λx lo hi H Q=>∃ a xs,x=.ref a/\SqT K H a xs /\
 ¬ (HT.sIx xs.length 0 lo=0/\HT.sIx xs.length xs.length hi=xs.length)/\∀ p,H p=none->Q (.ref p) (upd H p (.tup (kY xs lo hi)))
theorem mV:SlR X (B0 X.K):=by
 intro pins s σ H x v vl vu lo hi sl Q I rx hs pl pu h
 obtain ⟨a,xs,rfl,hx,hw,q⟩:=h
 cases rx
 obtain ⟨its,r,ht,hz⟩:=I.tuple hx
 have hlen:its.toArray.size=xs.length:=by rw [List.size_toArray];exact r.length.symm
 refine ⟨"tuple",_,PyProof.Rows.slot_tuple_getitem.lookup,ht.typeIs,?_⟩
 refine HT.getItem_tuple_cut ht hs pl pu (by rw [hlen];exact hw) ?_ (by rw [hlen];exact hz)
 rw [hlen]
 refine ⟨.ref s.heap.objs.size,_,I.laid (t':=s.toks) (o:=.tup (kY xs lo hi)) (λb ob q=>Heap.get?_push_of_some _ q) (Nat.le_refl _) ?_,rfl,q _ (I.hok.fresh (Nat.le_refl _))⟩
 exact ⟨Nat.le_trans (kO xs lo hi) hz,_,(r.drop (HT.sIx xs.length 0 lo)).take (HT.sIx xs.length xs.length hi - HT.sIx xs.length 0 lo),IsTup.new _ _⟩
def AU (K:PySem.W.Frag):R2:=λx y H Q=>∃ a b xs ys,x=.ref a/\y=.ref b/\SqT K H a xs/\SqT K H b ys/\xs≠[]/\xs.length+ys.length≤sizeLine /\
 (ys=[]->Q (.ref a) H)/\(ys≠[]->∀ p,H p=none->Q (.ref p) (upd H p (.tup (xs++ys))))
theorem Vals.nil_iff {xs:List V} {us:List Value} (r:Vals xs us):us=[]↔xs=[]:=by
 cases r with
 | nil=>simp
 | cons _ _=>simp
theorem uy:OpR X (binaryOp .Add) (AU X.K):=by
 intro pins s σ H x y v u Q I rx ry h
 obtain ⟨a,b,xs,ys,rfl,rfl,ha,hb,hx,hz,q1,q2⟩:=h
 cases rx
 cases ry
 obtain ⟨its,r1,p1,_⟩:=I.tuple ha
 obtain ⟨its2,r2,p2,_⟩:=I.tuple hb
 refine HT.cat_tup p1 p2 (λz=>hx (r1.nil_iff.mp z)) (λz=>⟨.ref a,H,I,rfl,q1 (r2.nil_iff.mp z)⟩) (λz=>?_) (by rw [← r1.length,← r2.length];exact hz)
 refine ⟨.ref s.heap.objs.size,_,I.laid (t':=s.toks) (o:=.tup (xs++ys)) (λb ob q=>Heap.get?_push_of_some _ q) (Nat.le_refl _) ?_,rfl,q2 (λw=>z (r2.nil_iff.mpr w)) _ (I.hok.fresh (Nat.le_refl _))⟩
 exact ⟨by rw [List.length_append];exact hz,_,r1.append r2,IsTup.new _ _⟩
end
def ixN (n:Nat) (i:Int):Option Nat:=if 0≤i then (if i < n then some i.toNat else none) else if -(n:Int)≤i then some (i+n).toNat else none
def atI {α:Type} (xs:List α) (i:Int):Option α:=(ixN xs.length i).bind λj=>xs[j]?
variable {i:Int} {j:Nat}
theorem um {n:Nat} (h:ixN n i=some j):seqIndex? i n=some j/\j < n/\-(n:Int)≤i/\i < n:=by
 unfold ixN at h
 by_cases h0:0≤i
 ·rw [if_pos h0] at h
  by_cases h1:i < n
  ·rw [if_pos h1] at h
   have e:i.toNat=j:=Option.some.inj h
   exact ⟨by rw [seqIndex_of h0 h1,e],by omega,by omega,h1⟩
  ·rw [if_neg h1] at h;cases h
 ·rw [if_neg h0] at h
  by_cases h1:-(n:Int)≤i
  ·rw [if_pos h1] at h
   have e:(i+n).toNat=j:=Option.some.inj h
   exact ⟨by rw [seqIndex_neg (by omega) h1,e],by omega,h1,by omega⟩
  ·rw [if_neg h1] at h;cases h
theorem tW {α:Type} {xs:List α} {v:α} (h:atI xs i=some v):∃ j,seqIndex? i xs.length=some j/\xs[j]?=some v/\j < xs.length/\-(xs.length:Int)≤i/\i < xs.length:=by
 unfold atI at h
 cases e:ixN xs.length i with
 | none=>rw [e] at h;cases h
 | some j =>
  rw [e] at h
  obtain ⟨h1,h2,h3,h4⟩:=um e
  exact ⟨j,h1,h,h2,h3,h4⟩
theorem iw {α:Type} {xs:List α} {v:α} (h:xs[j]?=some v):atI xs (j:Int)=some v:=by
 have hj:j < xs.length:=(List.getElem?_eq_some_iff.mp h).1
 have e:ixN xs.length (j:Int)=some j:=by
  unfold ixN
  rw [if_pos (by omega),if_pos (by omega)];simp
 unfold atI;rw [e];exact h
theorem wJ {α:Type} (xs:List α) (v:α):atI (xs++[v]) (-1)=some v:=by
 have hl:(xs++[v]).length=xs.length+1:=by simp
 have e:ixN (xs++[v]).length (-1)=some xs.length:=by
  unfold ixN
  rw [hl,if_neg (by decide),if_pos (by omega)]
  congr 1
  omega
 unfold atI
 rw [e]
 show (xs++[v])[xs.length]?=some v
 simp
def yX (b:Expr):Prop:=∀ o i,subscripted b false o i=operate [o,i] (getItem o i)
def IxR (X:Cx) (r:R2):Prop :=
 ∀ (value slice:Expr) (pins:List (Addr × Obj)) (s:Shared) (σ:St) (H:Hp) (x y:V) (v u:Value) (Q:VK),Inv X pins σ H s->RelV x v->RelV y u->r x y H Q ->
  subscripted slice false v u=operate [v,u] (getItem v u)->wpAny (model X.prog X.w) X.A (subscriptTail value slice v u) (EP X pins σ Q) X.xe s
def MtR (X:Cx) (id:String) (r:V->List V->Hp->VK->Prop):Prop :=
 ∀ (pins:List (Addr × Obj)) (s:Shared) (σ:St) (H:Hp) (x:V) (xs:List V) (v:Value) (us:List Value) (Q:VK),Inv X pins σ H s->RelV x v->Vals xs us->r x xs H Q ->
  wpAny (model X.prog X.w) X.A (call (.builtin id) (v::us)) (EP X pins σ Q) X.xe s
section
variable {X:Cx} {a b:Expr} {ta tb:TE} {pos:Pos}
theorem aT {r:R2} (hr:IxR X r) (ha:PE X a ta) (hb:PE X b tb) (hs:yX b):PE X (.Subscript a b pos) (tOp r ta tb):=by
 intro pins s σ H Q I h
 exact Subscript_ (Bl ha hb I h λv u s2 x y H2 I2 rx ry q=>hr a b pins s2 σ H2 x y v u Q I2 rx ry q (hs _ _))
def Ae (K:PySem.W.Frag):R2:=λx y H Q=>∃ p xs i v,x=.ref p/\y=.int i/\SqL K H p xs/\atI xs i=some v/\Q v H
def rT (K:PySem.W.Frag):R2:=λx y H Q=>∃ p xs i v,x=.ref p/\y=.int i/\SqT K H p xs/\atI xs i=some v/\Q v H
theorem bT:IxR X (Ae X.K):=by
 intro value slice pins s σ H x y v u Q I rx ry h hs
 obtain ⟨p,xs,i,z,rfl,rfl,hq,he,q⟩:=h
 cases rx
 obtain ⟨t,rfl⟩:=ry
 obtain ⟨its,r,pl,hz⟩:=I.list hq
 obtain ⟨j,h1,h2,h3,h4,h5⟩:=tW he
 obtain ⟨w,ew,rw'⟩:=r.get h2
 have hl:=r.length
 have hn:=jB
 have fin:EP X pins σ Q w s:=⟨z,H,I,rw',q⟩
 by_cases h0:0≤i
 ·have hj:i.toNat=j:=by
   rw [seqIndex_of h0 h5] at h1
   exact Option.some.inj h1
  exact item_listR pl.isList h0 (by omega) (by rw [hj];simpa using ew) fin hs
 ·have hj:(i+(its.toArray.size:Int)).toNat=j:=by
   rw [seqIndex_neg (by omega) h4] at h1
   rw [List.size_toArray,← hl]
   exact Option.some.inj h1
  exact subscriptTail_builtinR (x:=w) pl.isList.typeIs slot_list_getitem.lookup
   (wpAny_getItem_list_neg (Q:=λr s'=>r=w/\EP X pins σ Q r s') pl.isList (by omega) (by rw [List.size_toArray] <;> omega) (by omega) (by rw [hj];simpa using ew) ⟨rfl,fin⟩) hs
theorem aW:IxR X (rT X.K):=by
 intro value slice pins s σ H x y v u Q I rx ry h hs
 obtain ⟨p,xs,i,z,rfl,rfl,hq,he,q⟩:=h
 cases rx
 obtain ⟨t,rfl⟩:=ry
 obtain ⟨its,r,pl,hz⟩:=I.tuple hq
 obtain ⟨j,h1,h2,h3,h4,h5⟩:=tW he
 obtain ⟨w,ew,rw'⟩:=r.get h2
 have hl:=r.length
 have hn:=jB
 have fin:EP X pins σ Q w s:=⟨z,H,I,rw',q⟩
 exact subscriptTail_builtinR (x:=w) pl.typeIs slot_tuple_getitem.lookup
  (getItem_tuple (j:=j) (Q:=λr s'=>r=w/\EP X pins σ Q r s') pl (by omega) (by omega) (by rw [List.size_toArray,← hl];exact h1) (by simpa using ew) ⟨rfl,fin⟩) hs
theorem sU (its:List Value) (n j:Nat) (u:Value):Obj.mapSeq (·.setIfInBounds j u) { cls:=.type "list",data:=.seq its.toArray n }={ cls:=.type "list",data:=.seq (its.set j u).toArray n }:=by
 simp [Obj.mapSeq]
variable {pins:List (Addr × Obj)} {σ:St} {H:Hp} {s:Shared} {p:Addr} {xs:List V}
theorem Inv.lst (I:Inv X pins σ H s) (h:H p=some (.lst xs)) :
  ∃ (its:List Value) (n:Nat),Vals xs its/\s.heap.get? p=some { cls:=.type "list",data:=.seq its.toArray n }/\xs.length≤sizeLine:=by
 obtain ⟨z,its,n,r,e⟩:=I.hok p _ h
 exact ⟨its,n,r,e,z⟩
theorem Inv.lstUpd {ys:List V} {its its':List Value} {n n':Nat} {f:Obj->Obj} (I:Inv X pins σ H s) (h:H p=some (.lst xs))
  (ho:s.heap.get? p=some { cls:=.type "list",data:=.seq its.toArray n }) (hf:f { cls:=.type "list",data:=.seq its.toArray n }={ cls:=.type "list",data:=.seq its'.toArray n' }) (r:Vals ys its') (hz:ys.length≤sizeLine) (t:Nat) :
  Inv X pins σ (upd H p (.lst ys)) { s with heap:=s.heap.update p f,toks:=t }:=by
 have e:(s.heap.update p f).get? p=some { cls:=.type "list",data:=.seq its'.toArray n' }:=by
  rw [Heap.get?_update_self f ho (by rw [hf] <;> rfl),hf]
 refine I.write (x:=p) (e:=p) (by rw [h];trivial) (.inl rfl) (λb u hb q=>(Heap.get?_update_other _ _ (Ne.symm hb)).trans q) ⟨_,e⟩ ?_
 exact ⟨hz,its',n',r,e⟩
def CV:V->V->V->Hp->(Hp->Prop)->Prop:=λo i v H Q=>∃ p xs k j,o=.ref p/\i=.int k/\H p=some (.lst xs)/\ixN xs.length k=some j/\Q (upd H p (.lst (xs.set j v)))
theorem j6:A6 X CV:=by
 intro pins s σ H o i v ov iv u Q I ro ri rv h
 obtain ⟨p,xs,k,j,rfl,rfl,hp,hj,q⟩:=h
 cases ro
 obtain ⟨t,rfl⟩:=ri
 obtain ⟨its,n,r,ho,hz⟩:=I.lst hp
 obtain ⟨h1,h2,h3,h4⟩:=um hj
 have hl:=r.length
 have hn:=jB
 have I':Inv X pins σ (upd H p (.lst (xs.set j v))) { s with heap:=s.heap.update p (Obj.mapSeq (·.setIfInBounds j u)) } :=
  I.lstUpd hp ho (sU its n j u) (r.set rv j) (by rw [List.length_set];exact hz) s.toks
 by_cases h0:0≤k
 ·have hk:k.toNat=j:=by
   rw [seqIndex_of h0 h4] at h1
   exact Option.some.inj h1
  exact PySem.W.ki_setAt ho h0 (by omega) (by rw [List.size_toArray,← hl];exact h4) (by rw [hk];exact ⟨_,I',q⟩)
 ·have hk:(k+(its.toArray.size:Int)).toNat=j:=by
   rw [seqIndex_neg (by omega) h3] at h1
   rw [List.size_toArray,← hl]
   exact Option.some.inj h1
  exact PySem.W.ki_setBack ho (by omega) (by rw [List.size_toArray,← hl];exact h3) (by omega) (by rw [hk];exact ⟨_,I',q⟩)
theorem ql (lo hi:Option Int) (n:Nat):(sliceBounds lo hi none n).1=((HT.sIx n 0 lo:Nat):Int)/\(sliceBounds lo hi none n).2.1=((HT.sIx n n hi:Nat):Int)/\(sliceBounds lo hi none n).2.2=1:=by
 refine ⟨?_,?_,rfl⟩
 ·cases lo with
  | none=>simp [sliceBounds,HT.sIx]
  | some i =>
   simp only [sliceBounds,HT.sIx,Option.getD_none,show (1:Int) > 0 by decide,if_true]
   by_cases h:i < 0
   ·simp only [h,if_true] <;> omega
   ·simp only [h,if_false] <;> omega
 ·cases hi with
  | none=>simp [sliceBounds,HT.sIx]
  | some i =>
   simp only [sliceBounds,HT.sIx,Option.getD_none,show (1:Int) > 0 by decide,if_true]
   by_cases h:i < 0
   ·simp only [h,if_true] <;> omega
   ·simp only [h,if_false] <;> omega
theorem nD (its:List Value) (lo hi:Option Int):slicePick its.toArray lo hi none=((its.drop (HT.sIx its.length 0 lo)).take (HT.sIx its.length its.length hi - HT.sIx its.length 0 lo)).toArray:=by
 obtain ⟨h1,h2,h3⟩:=ql lo hi its.toArray.size
 unfold slicePick
 rw [h1,h2,h3]
 simp only [sliceRange_one,pick_run,List.size_toArray] <;> rfl
def BZ (K:PySem.W.Frag):V->Option Int->Option Int->Hp->VK->Prop:=λx lo hi H Q=>∃ a xs,x=.ref a/\SqL K H a xs/\∀ p,H p=none->Q (.ref p) (upd H p (.lst (kY xs lo hi)))
theorem Ax:SlR X (BZ X.K):=by
 intro pins s σ H x v vl vu lo hi sl Q I rx hs pl pu h
 obtain ⟨a,xs,rfl,hx,q⟩:=h
 cases rx
 obtain ⟨its,r,ht,hz⟩:=I.list hx
 have hlen:=r.length
 refine ⟨"list",_,slot_list_getitem.lookup,ht.isList.typeIs,?_⟩
 refine wpAny_getItem_list_slice ht.isList hs pl pu .none (by simp) ?_ (by rw [List.size_toArray] <;> omega)
 rw [nD,← hlen]
 refine ⟨.ref s.heap.objs.size,_,I.laid (t':=s.toks) (o:=.lst (kY xs lo hi)) (λb ob q=>Heap.get?_push_of_some _ q) (Nat.le_refl _) ?_,rfl,q _ (I.hok.fresh (Nat.le_refl _))⟩
 exact ⟨Nat.le_trans (kO xs lo hi) hz,_,0,(r.drop (HT.sIx xs.length 0 lo)).take (HT.sIx xs.length xs.length hi - HT.sIx xs.length 0 lo),Heap.get?_push_size _ rfl⟩
def jQ:V->Bool
 | .non=>true
 | .bl _=>true
 | .int _=>true
 | .str _=>true
 | _=>false
def eqV:V->V->Bool
 | .non,.non=>true
 | .bl a,.bl b=>a == b
 | .bl a,.int b=>(if a then 1 else 0) == b
 | .int a,.bl b=>a == (if b then 1 else 0)
 | .int a,.int b=>a == b
 | .str a,.str b=>a == b
 | _,_=>false
variable {A:Around} {y x:V} {u v:Value}
theorem Br (ry:RelV y u) (rx:RelV x v) (fy:jQ y=true) (fx:jQ x=true):SeqAt.EqAt A s u v (eqV y x):=by
 cases y with
 | non =>
  cases ry
  cases x with
  | non=>cases rx;exact SeqAt.EqAt.same _
  | bl b=>cases rx;exact SeqAt.EqAt.none_bool b
  | int b=>obtain ⟨t,rfl⟩:=rx;exact SeqAt.EqAt.none_int b t
  | str b=>obtain ⟨t,rfl⟩:=rx;exact SeqAt.EqAt.none_str b t
  | _=>exact absurd (show false=true from fx) Bool.false_ne_true
 | bl a =>
  cases ry
  cases x with
  | non=>cases rx;exact SeqAt.EqAt.bool_none a
  | bl b=>cases rx;exact SeqAt.EqAt.bool_bool a b
  | int b=>obtain ⟨t,rfl⟩:=rx;exact SeqAt.EqAt.bool_int a b t
  | str b=>obtain ⟨t,rfl⟩:=rx;exact SeqAt.EqAt.bool_str a b t
  | _=>exact absurd (show false=true from fx) Bool.false_ne_true
 | int a =>
  obtain ⟨t',rfl⟩:=ry
  cases x with
  | non=>cases rx;exact SeqAt.EqAt.int_none a t'
  | bl b=>cases rx;exact SeqAt.EqAt.int_bool a t' b
  | int b=>obtain ⟨t,rfl⟩:=rx;exact SeqAt.EqAt.int_int a t' b t
  | str b=>obtain ⟨t,rfl⟩:=rx;exact SeqAt.EqAt.int_str a t' b t
  | _=>exact absurd (show false=true from fx) Bool.false_ne_true
 | str a =>
  obtain ⟨t',rfl⟩:=ry
  cases x with
  | non=>cases rx;exact SeqAt.EqAt.str_none a t'
  | bl b=>cases rx;exact SeqAt.EqAt.str_bool a t' b
  | int b=>obtain ⟨t,rfl⟩:=rx;exact SeqAt.EqAt.str_int a t' b t
  | str b=>obtain ⟨t,rfl⟩:=rx;exact SeqAt.EqAt.str_str a t' b t
  | _=>exact absurd (show false=true from fx) Bool.false_ne_true
 | _=>exact absurd (show false=true from fy) Bool.false_ne_true
def eqU (x:V) (u:Value):Bool:=match u with
 | .none=>eqV .non x
 | .bool b=>eqV (.bl b) x
 | .int i _=>eqV (.int i) x
 | .str z _=>eqV (.str z) x
 | _=>false
theorem xm (r:RelV y u) (f:jQ y=true):eqU x u=eqV y x:=by
 cases y with
 | non=>cases r;rfl
 | bl b=>cases r;rfl
 | int i=>obtain ⟨t,rfl⟩:=r;rfl
 | str z=>obtain ⟨t,rfl⟩:=r;rfl
 | _=>exact absurd (show false=true from f) Bool.false_ne_true
theorem jG:∀ {xs:List V} {us:List Value},Vals xs us->xs.all jQ=true->us.any (eqU x)=xs.any λy=>eqV y x
 | _,_,.nil,_=>rfl
 | y::xs,u::us,.cons r t,f=>by
  rw [List.all_cons,Bool.and_eq_true] at f
  rw [List.any_cons,List.any_cons,xm r f.1,jG t f.2]
theorem i0 (rx:RelV x v) (fx:jQ x=true):∀ {xs:List V} {us:List Value},Vals xs us->xs.all jQ=true->∀ u ∈ us,SeqAt.EqAt A s u v (eqU x u)
 | _,_,.nil,_=>λu hu=>by cases hu
 | y::xs,u::us,.cons r t,f=>λu' hu=>by
  rw [List.all_cons,Bool.and_eq_true] at f
  rcases List.mem_cons.mp hu with rfl | hu
  ·rw [xm r f.1];exact Br r rx f.1 fx
  ·exact i0 rx fx t f.2 u' hu
def inV (x:V) (xs:List V):Bool:=xs.any λy=>eqV y x
def rIn (K:PySem.W.Frag) (neg:Bool):R2:=λx y H Q=>∃ p xs,y=.ref p/\(SqL K H p xs\/SqT K H p xs)/\jQ x=true/\xs.all jQ=true/\Q (.bl (if neg then !inV x xs else inV x xs)) H
theorem vF:OpR X (compareOp .In) (rIn X.K false):=by
 intro pins s σ H x y v u Q I rx ry h
 obtain ⟨p,xs,rfl,hq,fx,fs,q⟩:=h
 cases ry
 rcases hq with hq | hq
 ·obtain ⟨its,r,pl,hz⟩:=I.list hq
  refine SeqAt.in_listAt (eqU x) pl.isList (λw hw=>i0 rx fx r fs w (by simpa using hw)) ⟨.bl _,H,I,rfl,?_⟩
  rw [show its.toArray.any (eqU x)=its.any (eqU x) by simp,jG r fs]
  exact q
 ·obtain ⟨its,r,pl,hz⟩:=I.tuple hq
  refine SeqAt.in_tupleAt (eqU x) pl (λw hw=>i0 rx fx r fs w (by simpa using hw)) ⟨.bl _,H,I,rfl,?_⟩
  rw [show its.toArray.any (eqU x)=its.any (eqU x) by simp,jG r fs]
  exact q
theorem pS:OpR X (compareOp .NotIn) (rIn X.K true):=by
 intro pins s σ H x y v u Q I rx ry h
 obtain ⟨p,xs,rfl,hq,fx,fs,q⟩:=h
 cases ry
 rcases hq with hq | hq
 ·obtain ⟨its,r,pl,hz⟩:=I.list hq
  refine SeqAt.notIn_listAt (eqU x) pl.isList (λw hw=>i0 rx fx r fs w (by simpa using hw)) ⟨.bl _,H,I,rfl,?_⟩
  rw [show its.toArray.any (eqU x)=its.any (eqU x) by simp,jG r fs]
  exact q
 ·obtain ⟨its,r,pl,hz⟩:=I.tuple hq
  refine SeqAt.notIn_tupleAt (eqU x) pl (λw hw=>i0 rx fx r fs w (by simpa using hw)) ⟨.bl _,H,I,rfl,?_⟩
  rw [show its.toArray.any (eqU x)=its.any (eqU x) by simp,jG r fs]
  exact q
theorem aM:gF X (.builtin "len") (λxs H Q=>∃ p ys,xs=[.ref p]/\(SqL X.K H p ys\/SqT X.K H p ys)/\Q (.int ys.length) H):=by
 intro pins s σ H xs us Q I r h
 obtain ⟨p,ys,rfl,hq,q⟩:=h
 obtain ⟨u,rfl,rx⟩:=fX r
 cases rx
 have hn:=jB
 rcases hq with hq | hq
 ·obtain ⟨its,r',pl,hz⟩:=I.list hq
  have hlen:=r'.length
  exact Calls.call_len_list pl.isList (by simp only [List.size_toArray] <;> omega) ⟨.int ys.length,H,I.tok _,⟨s.toks+1,by rw [List.size_toArray,hlen]⟩,q⟩
 ·obtain ⟨its,r',pl,hz⟩:=I.tuple hq
  have hlen:=r'.length
  exact len_tuple pl (by simp only [List.size_toArray] <;> omega) ⟨.int ys.length,H,I.tok _,⟨s.toks+1,by rw [List.size_toArray,hlen]⟩,q⟩
theorem oZ:gF X (.builtin "len") (λxs H Q=>∃ z,xs=[.str z]/\z.length≤sizeLine/\Q (.int z.length) H):=by
 intro pins s σ H xs us Q I r h
 obtain ⟨z,rfl,hz,q⟩:=h
 obtain ⟨u,rfl,t,rfl⟩:=fX r
 have hn:=jB
 exact len_str (by omega) ⟨.int z.length,H,I.tok _,⟨_,rfl⟩,q⟩
theorem cJ:gF X (.type "tuple") (λxs H Q=>∃ p ys,xs=[.ref p]/\((SqL X.K H p ys/\∀ l,H l=none->Q (.ref l) (upd H l (.tup ys)))\/(SqT X.K H p ys/\Q (.ref p) H))):=by
 intro pins s σ H xs us Q I r h
 obtain ⟨p,ys,rfl,h⟩:=h
 obtain ⟨u,rfl,rx⟩:=fX r
 cases rx
 rcases h with ⟨hq,q⟩ | ⟨hq,q⟩
 ·obtain ⟨its,r',pl,hz⟩:=I.list hq
  have hlen:=r'.length
  refine call_tuple_list pl.isList (λh' kp=>?_) (by simp only [List.size_toArray] <;> omega)
  have I1:Inv X pins σ H { s with heap:=h' }:=I.kept (t':=s.toks) kp
  have I2:Inv X pins σ (upd H h'.objs.size (.tup ys)) { s with heap:=h'.push { cls:=.type "tuple",data:=.seq its.toArray } } :=
   I1.laid (t':=s.toks) (λb o e=>Heap.get?_push_of_some _ e) (Nat.le_refl _) (show ObjOk X.prog X.w _ _ _ (.tup ys) from ⟨hz,its,r',IsTup.new _ _⟩)
  exact ⟨.ref h'.objs.size,_,I2,rfl,q _ (I1.hok.fresh (Nat.le_refl _))⟩
 ·obtain ⟨its,r',pl,hz⟩:=I.tuple hq
  exact call_tuple_same pl ⟨.ref p,H,I,rfl,q⟩
def tyV (K:PySem.W.Frag) (T:String) (x:V) (H:Hp):Prop:=match x with
 | .str _=>T="str"
 | .int _=>T="int"
 | .ref p=>(T="list"/\∃ xs,SqL K H p xs)\/(T="tuple"/\∃ o,K.lookup p=some o/\o.cls=.type "tuple"/\o.dict=none) \/
   (T="dict"/\((∃ kvs,H p=some (.dK kvs))\/∃ kvs,H p=some (.dT kvs)))\/(T="set"/\∃ S n,H p=some (.set S n))
 | _=>False
theorem yP {T:String} (I:Inv X pins σ H s) (r:RelV x v) (ty:tyV X.K T x H) :
  s.TypeIs v T/\∀ a,v=.ref a->∃ ob,s.heap.get? a=some ob/\ob.dict=none:=by
 cases x with
 | str z =>
  obtain ⟨t,rfl⟩:=r
  cases (show T="str" from ty)
  exact ⟨typeIs_str s z t,λ_ e=>nomatch e⟩
 | int i =>
  obtain ⟨t,rfl⟩:=r
  cases (show T="int" from ty)
  exact ⟨typeIs_int s i t,λ_ e=>nomatch e⟩
 | ref p =>
  cases r
  rcases ty with ⟨rfl,xs,hq⟩ | ⟨rfl,o,hk,hc,hd⟩ | ⟨rfl,hk⟩ | ⟨rfl,S,n,hk⟩
  ·obtain ⟨its,_,pl,_⟩:=I.list hq
   refine ⟨pl.isList.typeIs,λa e=>?_⟩
   cases e
   obtain ⟨o,n,e,c,hd,_⟩:=pl
   exact ⟨o,e,hd⟩
  ·refine ⟨⟨o,I.kIn p o hk,hc⟩,λa e=>?_⟩
   cases e
   exact ⟨o,I.kIn _ o hk,hd⟩
  ·have z:∃ o,s.heap.get? p=some o/\o.ExactDict:=by
    rcases hk with ⟨kvs,hk⟩ | ⟨kvs,hk⟩
    ·obtain ⟨_,_,_,_,o,_,_,e,ex,_⟩:=I.hok p _ hk
     exact ⟨o,e,ex⟩
    ·obtain ⟨_,_,_,_,o,_,_,e,ex,_⟩:=I.hok p _ hk
     exact ⟨o,e,ex⟩
   obtain ⟨o,e,ex⟩:=z
   refine ⟨⟨o,e,ex.1⟩,λa e2=>?_⟩
   cases e2
   exact ⟨o,e,ex.2.1⟩
  ·obtain ⟨o,_,_,_,e,ex,_⟩:=I.hok p _ hk
   refine ⟨⟨o,e,ex.1⟩,λa e2=>?_⟩
   cases e2
   exact ⟨o,e,ex.2.1⟩
 | _=>exact False.elim ty
def DE (K:PySem.W.Frag) (T:String) (r:V->List V->Hp->VK->Prop) (to:TE):TE:=λσ H Q=>to σ H λx H1=>tyV K T x H1/\r x [] H1 Q
def tBM (K:PySem.W.Frag) (T:String) (r:V->List V->Hp->VK->Prop) (to:TE) (t:TA):TE:=λσ H Q=>to σ H λx H1=>tyV K T x H1/\t σ H1 λxs H2=>r x xs H2 Q
variable {o e:Expr} {es:List Expr} {to:TE} {t:TA} {name:Str} {apos cpos:Pos} {T id:String} {r:V->List V->Hp->VK->Prop}
theorem BO (pa:PlainAttrs T) (slot:Slot T name id) (hty:typeOf (.builtin id)=pure (.type "method_descriptor")) (hm:MtR X id r) (ho:PE X o to)
  (hbase:attributeBase o name X.env (eval o X.env)=eval o X.env:=by rfl) (hline:(apos.endLine == cpos.line)=true:=by rfl):PE X (.Call (.Attribute o name apos) [] [] cpos) (DE X.K T r to):=by
 intro pins s σ H Q I h
 refine wpAny_Call_method0_late hbase hline (thn (ho pins s σ H _ I h) λv s1 ⟨x,H1,I1,r1,ty,q1⟩=>?_)
 obtain ⟨h1,h2⟩:=yP I1 r1 ty
 exact ⟨T,id,pa,slot,hty,h1,h2,Calls.callWith_builtin rfl (PySem.evalArgs_none (hm pins s1 σ H1 x [] v [] Q I1 r1 .nil q1))⟩
theorem de (pa:PlainAttrs T) (slot:Slot T name id) (hty:typeOf (.builtin id)=pure (.type "method_descriptor")) (hm:MtR X id r) (ho:PE X o to) (ha:PA X (e::es) t)
  (hbase:attributeBase o name X.env (eval o X.env)=eval o X.env:=by rfl)
  (hfew:((backTo cpos (starEach (e::es) X.env)).all (λx=>!x.1) && (backToKw cpos (keywordEach [] X.env)).all (λx=>x.1.isSome)
   && decide ((e::es).length+([]:List Keyword).length+(if ([]:List Keyword).isEmpty then 0 else 1) < 30))=true:=by rfl)
  (hline:(apos.endLine == cpos.line)=true:=by rfl) (hs:starEach (e::es) X.env=(false,eval e X.env)::starEach es X.env:=by rfl) (hplain:(backTo cpos (starEach es X.env)).any (·.1)=false:=by rfl) :
  PE X (.Call (.Attribute o name apos) (e::es) [] cpos) (tBM X.K T r to t):=by
 intro pins s σ H Q I h
 refine wpAny_Call_method_late hbase hfew hline rfl (thn (ho pins s σ H _ I h) λv s1 ⟨x,H1,I1,r1,ty,q1⟩=>?_)
 obtain ⟨h1,h2⟩:=yP I1 r1 ty
 refine ⟨T,id,pa,slot,hty,h1,h2,?_⟩
 have hA:=ha cpos pins s1 σ H1 _ I1 q1
 rw [hs] at hA ⊢
 refine Calls.callWith_builtin (by show (false || (backTo cpos (starEach es X.env)).any (·.1))=false;rw [hplain] <;> rfl) (Calls.evalArgs_plain ?_)
 exact thn hA λus s2 ⟨vs,H2,I2,r2,q2⟩=>hm pins s2 σ H2 x vs v us Q I2 r1 r2 q2
end
def MtM (X:Cx) (id:String) (r:V->List V->Hp->VK->Prop):Prop :=
 ∀ (pins:List (Addr × Obj)) (s:Shared) (σ:St) (H:Hp) (x:V) (xs:List V) (v:Value) (us:List Value) (Q:VK),Inv X pins σ H s->RelV x v->Vals xs us->r x xs H Q ->
  wpAny (model X.prog X.w) X.A (call (.builtin id) (v::us)) (EP X pins σ Q) X.xe s
theorem Vals.one:∀ {x:V} {us:List Value},Vals [x] us->∃ u,us=[u]/\RelV x u
 | _,_,.cons r .nil=>⟨_,rfl,r⟩
theorem Vals.zero:∀ {us:List Value},Vals [] us->us=[]
 | _,.nil=>rfl
variable {xs:List V} {us:List Value}
theorem Vals.dropLast (h:Vals xs us):Vals xs.dropLast us.dropLast:=by
 induction h with
 | nil=>exact .nil
 | cons r t ih =>
  cases t with
  | nil=>exact .nil
  | cons q t'=>exact .cons r ih
theorem Vals.rep (h:Vals xs us):∀ k:Nat,Vals (List.replicate k xs).flatten (List.replicate k us).flatten
 | 0=>.nil
 | k+1=>by
  rw [List.replicate_succ,List.replicate_succ,List.flatten_cons,List.flatten_cons]
  exact Vals.append h (Vals.rep h k)
theorem sM {α:Type} (l:List α):l.eraseIdx (l.length - 1)=l.dropLast:=by
 induction l with
 | nil=>rfl
 | cons a r ih =>
  cases r with
  | nil=>rfl
  | cons b r =>
   have e:(a::b::r).length - 1=((b::r).length - 1)+1:=by
    have h1:(a::b::r).length=r.length+2:=rfl
    have h2:(b::r).length=r.length+1:=rfl
    omega
   rw [e,List.eraseIdx_cons_succ,ih]
   all_goals rfl
theorem nY (its:List Value):∀ (k:Nat) (acc:List Value),
  List.foldl (λx1 x2=>x1++x2) acc.toArray (List.replicate k its.toArray)=(acc++(List.replicate k its).flatten).toArray
 | 0,acc=>by simp
 | k+1,acc=>by
  have e:acc.toArray++its.toArray=(acc++its).toArray:=by simp
  have e2:(acc++its)++(List.replicate k its).flatten=acc++(List.replicate (k+1) its).flatten:=by
   rw [List.replicate_succ,List.flatten_cons,List.append_assoc]
  rw [← e2,← nY its k (acc++its),← e,List.replicate_succ,List.foldl_cons]
section
variable {X:Cx} {pins:List (Addr × Obj)} {σ:St} {H:Hp} {s:Shared} {l b:Addr} {xs ys zs:List V}
variable {its:List Value} {n t':Nat}
theorem Inv.lset {its':List Value} {f:Array Value->Array Value} (I:Inv X pins σ H s) (hH:H l=some (.lst xs))
  (e:s.heap.get? l=some { cls:=.type "list",data:=.seq its.toArray n }) (hf:f its.toArray=its'.toArray) (hv:Vals ys its') (hz:ys.length≤sizeLine) :
  Inv X pins σ (upd H l (.lst ys)) { s with heap:=s.heap.update l (Obj.mapSeq f),toks:=t' }:=by
 have q:=PySem.IsL.update e f
 rw [hf] at q
 refine I.write (x:=l) (e:=l) (by rw [hH];exact trivial) (.inl rfl) (λb' u hb hu=>(Heap.get?_update_other s.heap (Obj.mapSeq f) (Ne.symm hb)).trans hu) ⟨_,q⟩ ?_
 exact ⟨hz,its',_,hv,q⟩
theorem Inv.lnew (I:Inv X pins σ H s) (hv:Vals ys its) (hz:ys.length≤sizeLine) :
  Inv X pins σ (upd H s.heap.objs.size (.lst ys)) { s with heap:=s.heap.push { cls:=.type "list",data:=.seq its.toArray },toks:=t' } :=
 I.laid (λ_ _ q=>Heap.get?_push_of_some _ q) (Nat.le_refl _) ⟨hz,its,0,hv,Heap.get?_push_size _ rfl⟩
theorem Inv.fresh (I:Inv X pins σ H s):H s.heap.objs.size=none:=I.hok.fresh (Nat.le_refl _)
theorem Inv.lstM (I:Inv X pins σ H s) (hH:H l=some (.lst xs)):xs.length≤sizeLine/\∃ (its:List Value) (n:Nat),Vals xs its/\xs.length=its.length/\s.heap.get? l=some { cls:=.type "list",data:=.seq its.toArray n }:=by
 obtain ⟨z,its,n,r,e⟩:=I.hok l _ hH
 exact ⟨z,its,n,r,r.length,e⟩
theorem rq (h:n≤sizeLine):Builtin.List.listTooLong n=false:=by
 unfold Builtin.List.listTooLong
 exact decide_eq_false (by omega)
end
section
variable {X:Cx}
def lI:V->List V->Hp->VK->Prop:=λx vs H Q=>∃ l xs y,x=.ref l/\vs=[y]/\H l=some (.lst xs)/\xs.length < sizeLine/\Q .non (upd H l (.lst (xs++[y])))
theorem cg:MtM X "list.append" lI:=by
 intro pins s σ H x vs v us Q I rx rv h
 obtain ⟨l,xs,y,rfl,rfl,hH,hz,q⟩:=h
 cases rx
 obtain ⟨u,rfl,ru⟩:=rv.one
 obtain ⟨z,its,n,r,hl,e⟩:=I.lstM hH
 refine call_meets F.slot_list_append ⟨_,e,rfl⟩ F.entry_list_append (F.args_list_append_2 _ _) (PySem.list_append l its.toArray n u (by rw [List.size_toArray];omega)) ⟨e,?_⟩
 refine ⟨.non,_,I.lset (its':=its++[u]) hH e (by simp) (r.append (.cons ru .nil)) ?_,rfl,q⟩
 rw [List.length_append,List.length_singleton]
 omega
def pX:V->List V->Hp->VK->Prop:=λx vs H Q=>∃ l b xs zs,x=.ref l/\vs=[.ref b]/\H l=some (.lst xs)/\H b=some (.lst zs)/\xs.length+zs.length≤sizeLine/\Q .non (upd H l (.lst (xs++zs)))
theorem dI:MtM X "list.extend" pX:=by
 intro pins s σ H x vs v us Q I rx rv h
 obtain ⟨l,b,xs,zs,rfl,rfl,hH,hB,hz,q⟩:=h
 cases rx
 obtain ⟨u,rfl,ru⟩:=rv.one
 cases ru
 obtain ⟨z,its,n,r,hl,e⟩:=I.lstM hH
 obtain ⟨z2,its2,n2,r2,hl2,e2⟩:=I.lstM hB
 have hsz:its.toArray.size+its2.toArray.size≤sizeLine:=by rw [List.size_toArray,List.size_toArray];omega
 have hlong:¬ (!its.toArray.isEmpty && Builtin.List.listTooLong (its.toArray.size+its2.toArray.size))=true:=by
  rw [rq hsz,Bool.and_false]
  exact Bool.false_ne_true
 refine call_meets F.slot_list_extend ⟨_,e,rfl⟩ F.entry_list_extend (F.args_list_extend_2 _ _)
  (AutoSeq1.list_extend_list_list_0 l its.toArray n b its2.toArray n2 hlong (by rw [List.size_toArray];omega) (by omega)) ⟨e,e2,?_⟩
 refine ⟨.non,_,I.lset (its':=its++its2) hH e (by simp) (r.append r2) ?_,rfl,q⟩
 rw [List.length_append]
 omega
def Dz:V->List V->Hp->VK->Prop:=λx vs H Q=>∃ l xs y,x=.ref l/\vs=[]/\H l=some (.lst xs)/\xs[xs.length - 1]?=some y/\Q y (upd H l (.lst xs.dropLast))
theorem BH:MtM X "list.pop" Dz:=by
 intro pins s σ H x vs v us Q I rx rv h
 obtain ⟨l,xs,y,rfl,rfl,hH,hy,q⟩:=h
 cases rx
 have hus:=rv.zero
 subst hus
 obtain ⟨z,its,n,r,hl,e⟩:=I.lstM hH
 obtain ⟨u,hu,ru⟩:=r.get hy
 have hy':its.toArray[its.toArray.size - 1]?=some u:=by
  show its.toArray[its.length - 1]?=some u
  rw [← Array.getElem?_toList,← hl]
  exact hu
 refine call_meets F.slot_list_pop ⟨_,e,rfl⟩ F.entry_list_pop (F.args_list_pop_1 _) (MeetsSeq.list_pop_last l its.toArray n u hy' (by rw [List.size_toArray];omega)) ⟨e,?_⟩
 refine ⟨y,_,I.lset (its':=its.dropLast) hH e ?_ r.dropLast ?_,ru,q⟩
 ·show its.toArray.eraseIdxIfInBounds (its.toArray.size - 1)=its.dropLast.toArray
  rw [List.size_toArray,List.eraseIdxIfInBounds_toArray,sM]
 ·rw [List.length_dropLast]
  omega
def Dx:R2:=λx y H Q=>∃ l b xs zs,x=.ref l/\y=.ref b/\H l=some (.lst xs)/\H b=some (.lst zs)/\xs.length+zs.length≤sizeLine/\∀ p,H p=none->Q (.ref p) (upd H p (.lst (xs++zs)))
theorem BK:OpR X (binaryOp .Add) Dx:=by
 intro pins s σ H x y v u Q I rx ry h
 obtain ⟨l,b,xs,zs,rfl,rfl,hH,hB,hz,q⟩:=h
 cases rx
 cases ry
 obtain ⟨z,its,n,r,hl,e⟩:=I.lstM hH
 obtain ⟨z2,its2,n2,r2,hl2,e2⟩:=I.lstM hB
 refine PySem.P.add_list e e2 ?_ (by rw [List.size_toArray,List.size_toArray];omega)
 have ea:its.toArray++its2.toArray=(its++its2).toArray:=by simp
 rw [ea]
 exact ⟨.ref _,_,I.lnew (t':=s.toks) (r.append r2) (by rw [List.length_append];omega),rfl,q _ I.fresh⟩
def CU:R2:=λx y H Q=>∃ l k xs,x=.ref l/\y=.int k/\H l=some (.lst xs)/\-(2 ^ 63)≤k/\k < 2 ^ 63/\xs.length * k.toNat≤sizeLine /\
 ∀ p,H p=none->Q (.ref p) (upd H p (.lst (List.replicate k.toNat xs).flatten))
theorem ur {α:Type} (xs:List α) (k:Nat):(List.replicate k xs).flatten.length=k * xs.length:=by
 induction k with
 | zero=>simp
 | succ k ih=>rw [List.replicate_succ,List.flatten_cons,List.length_append,ih,Nat.succ_mul,Nat.add_comm]
theorem BM:OpR X (binaryOp .Mult) CU:=by
 intro pins s σ H x y v u Q I rx ry h
 obtain ⟨l,k,xs,rfl,rfl,hH,h1,h2,hz,q⟩:=h
 cases rx
 obtain ⟨t,rfl⟩:=ry
 obtain ⟨z,its,n,r,hl,e⟩:=I.lstM hH
 have hlen:its.toArray.size * k.toNat≤sizeLine:=by rw [List.size_toArray,← hl];exact hz
 have hcap:¬ its.toArray.size * k.toNat > (2 ^ 63 - 1) / 8:=by
  have:(sizeLine:Nat)≤(2 ^ 63 - 1) / 8:=by decide
  omega
 have hfit:¬ (!Builtin.List.listFitsIndex k)=true:=by
  rw [fitsIndex_both h1 h2]
  exact Bool.false_ne_true
 have hlong:¬ Builtin.List.listTooLong (its.toArray.size * k.toNat)=true:=by
  rw [rq hlen]
  exact Bool.false_ne_true
 have hnew:List.foldl (λx1 x2=>x1++x2) #[] (List.replicate (if its.toArray.isEmpty=true then 0 else k.toNat) its.toArray)=(List.replicate k.toNat its).flatten.toArray:=by
  have f0:∀ m:Nat,List.foldl (λx1 x2=>x1++x2) #[] (List.replicate m its.toArray)=(List.replicate m its).flatten.toArray:=λm=>by
   have:=nY its m []
   rw [List.nil_append] at this
   exact this
  rw [f0]
  cases its with
  | nil=>simp
  | cons a r'=>rw [if_neg (by simp)]
 refine wpAny_binaryOp_repeat_ref (T:="list") (U:="int") (by decide) ⟨_,e,rfl⟩ (λs'=>typeIs_int s' k t) noFill_list_mul F.fills_int_mul F.slot_int_rmul repeat_list F.slot_int_index.lookup
  (call_meets F.slot_int_rmul (typeIs_int s k t) F.entry_int_rmul (F.args_int_rmul_2 _ _) (int___rmul___int_list k t l its.toArray n)
   ⟨e,rfl,⟨_,e,rfl⟩,call_meets F.slot_list_mul ⟨_,e,rfl⟩ F.entry_list_mul (F.args_list_mul_2 _ _) (AutoListH.list___mul___list_int_3 l its.toArray n k t hfit hcap hlong) ⟨e,?_⟩⟩)
 rw [hnew]
 exact ⟨.ref _,_,I.lnew (t':=s.toks) (r.rep k.toNat) (by rw [ur,Nat.mul_comm];exact hz),rfl,q _ I.fresh⟩
end
section
variable {prog:Program} {w:World} {A:Around} {E:Value->Shared->Prop} {s:Shared}
set_option maxRecDepth 100000 in
end
section
variable {X:Cx}
end
section
variable {κ:Type} [DecidableEq κ]
def jE (kvs:List (κ × V)) (k:κ):Option V:=(kvs.find? λkv=>decide (kv.1=k)).map (·.2)
def rS (kvs:List (κ × V)) (k:κ) (v:V):List (κ × V) :=
 if (kvs.any λkv=>decide (kv.1=k))=true then kvs.map (λkv=>if kv.1=k then (kv.1,v) else kv) else kvs++[(k,v)]
theorem sv {p:κ × V} {r:List (κ × V)} {k:κ} (e:p.1=k):jE (p::r) k=some p.2:=by simp [jE,List.find?_cons,e]
theorem su {p:κ × V} {r:List (κ × V)} {k:κ} (e:¬ p.1=k):jE (p::r) k=jE r k:=by simp [jE,List.find?_cons,e]
theorem rb (kvs:List (κ × V)) (k:κ) (v:V):(rS kvs k v).length≤kvs.length+1:=by
 unfold rS
 split
 ·rw [List.length_map];omega
 ·rw [List.length_append,List.length_cons,List.length_nil];omega
theorem KV.val {kvs:List (κ × V)} {vs:List (κ × Value)} (r:KV kvs vs) (k:κ):RelO (jE kvs k) (valueAt vs k):=by
 unfold KV at r
 induction r with
 | nil=>exact True.intro
 | @cons p q ps qs h t ih =>
  obtain ⟨h1,h2⟩:=h
  by_cases e:p.1=k
  ·have e':q.1=k:=h1.symm.trans e
   have b:valueAt (q::qs) k=some q.2:=by simp [valueAt,List.find?_cons,e']
   rw [sv e,b];exact h2
  ·have e':¬ q.1=k:=λz=>e (h1.trans z)
   have b:valueAt (q::qs) k=valueAt qs k:=by simp [valueAt,List.find?_cons,e']
   rw [su e,b];exact ih
theorem KV.any {kvs:List (κ × V)} {vs:List (κ × Value)} (r:KV kvs vs) (k:κ):(kvs.any λkv=>decide (kv.1=k))=vs.any λkv=>decide (kv.1=k):=by
 unfold KV at r
 induction r with
 | nil=>rfl
 | cons h t ih=>rw [List.any_cons,List.any_cons,ih,h.1]
variable {y:V} {u:Value}
theorem KV.repl {kvs:List (κ × V)} {vs:List (κ × Value)} (r:KV kvs vs) (k:κ) (ry:RelV y u) :
  KV (kvs.map λkv=>if kv.1=k then (kv.1,y) else kv) (vs.map λkv=>if kv.1=k then (kv.1,u) else kv):=by
 unfold KV at r ⊢
 induction r with
 | nil=>exact .nil
 | @cons p q ps qs h t ih =>
  rw [List.map_cons,List.map_cons]
  refine .cons ?_ ih
  obtain ⟨h1,h2⟩:=h
  by_cases e:p.1=k
  ·rw [if_pos e,if_pos (h1.symm.trans e)];exact ⟨h1,ry⟩
  ·rw [if_neg e,if_neg (λz=>e (h1.trans z))];exact ⟨h1,h2⟩
theorem KV.put {kvs:List (κ × V)} {vs:List (κ × Value)} (r:KV kvs vs) (k:κ) (ry:RelV y u):KV (rS kvs k y) (stored vs k u):=by
 unfold rS stored
 rw [r.any k]
 by_cases e:(vs.any λkv=>decide (kv.1=k))=true
 ·rw [if_pos e,if_pos e];exact r.repl k ry
 ·rw [if_neg e,if_neg e];exact Paired.snoc r ⟨rfl,ry⟩
end
variable {P:Program} {w:World}
theorem xN {k:Key} {u:Value} (r:RelV (kV k) u):(cY P w).is k u=true:=by
 cases k with
 | inl i=>obtain ⟨t,e⟩:=(show ∃ t,u=Value.int i t from r);subst e;exact rg P w i t
 | inr x=>obtain ⟨t,e⟩:=(show ∃ t,u=Value.str x t from r);subst e;exact rh P w x t
theorem om:∀ {ks:List Key} {us:List Value},Vals (ks.map kV) us->ItemsAre (cY P w) ks us
 | [],_,r=>by rw [List.map_nil] at r;cases r;exact .nil
 | k::ks,_,r=>by
  rw [List.map_cons] at r
  cases r with
  | cons h t=>exact .cons (xN h) (om t)
abbrev KT (H:Hp):List (List Key × V)->List (List Key × Addr × Value)->Prop:=Paired λp q=>p.1=q.1/\H q.2.1=some (.tup (p.1.map kV))/\RelV p.2 q.2.2
variable {H:Hp}
theorem KT.val {kvs:List (List Key × V)} {xs:List (List Key × Addr × Value)} (r:KT H kvs xs) (k:List Key):RelO (jE kvs k) ((atKey xs k).map (·.2)):=by
 induction r with
 | nil=>exact True.intro
 | @cons p q ps qs h t ih =>
  obtain ⟨h1,_,h2⟩:=h
  by_cases e:p.1=k
  ·have e':q.1=k:=h1.symm.trans e
   have b:atKey (q::qs) k=some q.2:=by simp [atKey,List.find?_cons,e']
   rw [sv e,b];exact h2
  ·have e':¬ q.1=k:=λz=>e (h1.trans z)
   have b:atKey (q::qs) k=atKey qs k:=by simp [atKey,List.find?_cons,e']
   rw [su e,b];exact ih
section
variable {P:Program} {w:World} {H:Hp} {h:Heap} {a:Addr}
theorem AV {u:HO} (ok:HOk P w H h) (e:Rd H a u):ObjOk P w H h a u:=e.ok ok
variable {kvs:List (Key × V)}
theorem xk (ok:HOk P w H h) (e:Rd H a (.dK kvs)):kvs.length≤sizeLine/\(a == sysModules)=false/\∃ vs,KV kvs vs/\h.DictOf (cY P w) a vs :=
 show ObjOk P w H h a (.dK kvs) from AV ok e
theorem Ct (ok:HOk P w H h) (e:H a=some (.dK kvs)):kvs.length≤sizeLine/\(a == sysModules)=false/\∃ vs,KV kvs vs/\h.DictOf (cY P w) a vs:=xk ok (.inl e)
theorem xO {ks:List Key} (ok:HOk P w H h) (e:H a=some (.tup (ks.map kV))):(tupleKind (cY P w)).is h ks a:=by
 obtain ⟨_,its,r,o,h1,h2,n,h3⟩:=(show ObjOk P w H h a (.tup (ks.map kV)) from ok a _ e)
 exact ⟨o,its.toArray,n,h1,h2,h3,by simpa using om r⟩
theorem AH {kvs:List (List Key × V)} (ok:HOk P w H h) (e:Rd H a (.dT kvs)):kvs.length≤sizeLine/\(a == sysModules)=false /\
  ∃ xs,KT H kvs xs/\h.DictOfH (tupleKind (cY P w)) a xs:=by
 obtain ⟨z,y,xs,r,o,es,ep,h1,h2,h3,h4,h5⟩:=(show ObjOk P w H h a (.dT kvs) from AV ok e)
 refine ⟨z,y,xs,r,o,es,ep,h1,h2,h3,h4,λx hx=>?_,h5⟩
 have all:∀ {l:List (List Key × V)} {m:List (List Key × Addr × Value)},KT H l m->∀ x ∈ m,(tupleKind (cY P w)).is h x.1 x.2.1:=by
  intro l m q
  induction q with
  | nil=>intro x hx;exact nomatch hx
  | @cons p q ps qs hq t ih =>
   intro x hx
   rcases List.mem_cons.mp hx with e | hx
   ·subst e
    exact xO ok (by rw [← hq.1];exact hq.2.1)
   ·exact ih x hx
 exact all r x hx
end
def DGet (H:Hp) (a:Addr) (y:V) (r:Option V):Prop :=
 (∃ kvs k,Rd H a (.dK kvs)/\y=kV k/\r=jE kvs k)\/∃ kvs k b,Rd H a (.dT kvs)/\y=.ref b/\H b=some (.tup (k.map kV))/\r=jE kvs k
variable {a:Addr}
theorem DGet.k {kvs:List (Key × V)} {k:Key} (e:H a=some (.dK kvs)):DGet H a (kV k) (jE kvs k):=.inl ⟨kvs,k,.inl e,rfl,rfl⟩
section
variable {X:Cx} {pins:List (Addr × Obj)} {σ:St} {H:Hp} {s:Shared} {a:Addr} {y v:V} {u r:Value} {o:Option V} {A:Around} {E:Value->Shared->Prop}
theorem Inv.big (I:Inv X pins σ H s):sysModules < s.heap.objs.size:=by
 have h:mainGlobals < s.heap.objs.size:=(I.mod.glob.keeps I.bk).lt
 exact Nat.lt_trans (by decide) h
theorem vc {Q:Value->Shared->Prop} (hu:A.units+1 < cLine) (I:Inv X pins σ H s) (g:DGet H a y (some v)) (ry:RelV y u) (h:∀ w' s',Inv X pins σ H s'->RelV v w'->Q w' s') :
  wpAny (model X.prog X.w) A (getItem (.ref a) u) Q E s:=by
 rcases g with ⟨kvs,k,e,ey,l⟩ | ⟨kvs,k,b,e,ey,eb,l⟩
 ·subst ey
  obtain ⟨z,hd,vs,rel,dd⟩:=xk I.hok e
  obtain ⟨w',hw,rw'⟩:=RelO.some_of (v:=v) (o:=valueAt vs k) (by rw [l];exact rel.val k)
  exact wpAny_getItem_of (xN ry) dd.mapOf hw (h w' _ (I.tok _) rw')
 ·subst ey
  cases (show u=Value.ref b from ry)
  obtain ⟨z,hd,xs,rel,dd⟩:=AH I.hok e
  obtain ⟨w',hw,rw'⟩:=RelO.some_of (v:=v) (o:=(atKey xs k).map (·.2)) (by rw [l];exact rel.val k)
  obtain ⟨p,hp,hp2⟩:=Option.map_eq_some_iff.mp hw
  refine wpAny_getItem_heap (tupleKind_room_in1 hu) (xO I.hok eb) dd hp ?_
  rw [hp2]
  exact h w' _ (I.tok _) rw'
variable {h':Heap}
theorem zm {t':Nat} {ob:HO} (I:Inv X pins σ H s) (mu:Mut (H a)) (hs:Heap.SameBut a s.heap h') (he:∃ q,h'.get? a=some q) (new:ObjOk X.prog X.w (upd H a ob) h' a ob) :
  Inv X pins σ (upd H a ob) { s with heap:=h',toks:=t' } :=
 I.write (x:=a) (e:=a) mu (.inl rfl) (λb q hb z=>(hs.2 b hb).trans z) he new
theorem Bq {P:Program} {w:World} {H':Hp} {kvs:List (Key × V)} {vs:List (Key × Value)} (z:kvs.length≤sizeLine) (hd:(a == sysModules)=false) (rel:KV kvs vs) (dd:h'.DictOf (cY P w) a vs) :
  ObjOk P w H' h' a (.dK kvs):=⟨z,hd,vs,rel,dd⟩
end
section
variable {X:Cx} {pins:List (Addr × Obj)} {σ:St} {H:Hp} {s:Shared} {a:Addr} {kvs:List (Key × V)} {k:Key} {u:Value} {A:Around} {E:Value->Shared->Prop}
end
def Cn (i:Expr):Prop:=∀ ov iv,subscripted i false ov iv=operate [ov,iv] (getItem ov iv)
variable {s:Shared} {pos:Pos}
theorem Ay {prog:Program} {A:Around} {E:Value->Shared->Prop} {env:Env} {value slice:Expr} {T id:String} {Q:Value->Shared->Prop}
  (hl:typeLookup (.type T) "__getitem__"=pure (some (.builtin id))) (hs:Cn slice)
  (h:wpAny (model prog w) A (eval value env) (λo s₁=>wpAny (model prog w) A (eval slice env) (λi s₂=>s₂.TypeIs o T/\wpAny (model prog w) A (getItem o i) Q E s₂) E s₁) E s) :
  wpAny (model prog w) A (eval (.Subscript value slice pos) env) Q E s:=by
 refine Subscript_ (wpAny_mono h (λo s₁ h₁=>wpAny_mono h₁ (λi s₂ h₂=>?_) λ_ _ x=>x) λ_ _ x=>x)
 obtain ⟨hT,h₂⟩:=h₂
 unfold subscriptTail
 refine wpAny_bind ?_
 rw [getitemInPython_of_ne hT.not_modules]
 refine wpAny_bind (wpAny_specialOf hT hl ?_)
 have fin:wpAny (model prog w) A (subscripted slice false o i) (λr s₃=>wpAny (model prog w) A (letTemporaryGo value o r >>= λ_=>pure r) Q E s₃) E s₂:=by
  rw [hs o i]
  exact wpAny_operating (wpAny_mono h₂ (λr s₃ h₃=>wpAny_bind (wpAny_letTemporaryGo (wpAny_pure h₃))) λ_ _ x=>x)
 first
  | exact wpAny_pure (wpAny_bind fin)
  | exact wpAny_bind (wpAny_pure (wpAny_bind fin))
  | exact wpAny_bind fin
variable {X:Cx}
theorem qO {pins:List (Addr × Obj)} {σ:St} {y:V} {o:Option V} (I:Inv X pins σ H s) (g:DGet H a y o):s.TypeIs (.ref a) "dict":=by
 rcases g with ⟨kvs,k,e,_,_⟩ | ⟨kvs,k,b,e,_,_,_⟩
 ·obtain ⟨_,_,vs,_,dd⟩:=xk I.hok e
  exact dd.typeIs
 ·obtain ⟨_,_,xs,_,dd⟩:=AH I.hok e
  exact dd.typeIs
def A2 (td ty:TE):TE:=λσ H Q=>td σ H λx H1=>ty σ H1 λy H2=>∃ a v,x=.ref a/\DGet H2 a y (some v)/\Q v H2
section
variable {X:Cx} {o i e value:Expr} {pos pos' tpos:Pos} {td ty tv:TE}
theorem lH (hu:X.A.units+1 < cLine) (ho:PE X o td) (hi:PE X i ty) (hs:Cn i):PE X (.Subscript o i pos) (A2 td ty):=by
 intro pins s σ H Q I h
 refine Ay PySem.F.slot_dict_getitem.lookup hs (thn (ho pins s σ H _ I h) λu s1 ⟨x,H1,I1,rx,q1⟩=>thn (hi pins s1 σ H1 _ I1 q1) λiv s2 ⟨y,H2,I2,ry,a,v,ex,g,q2⟩=>?_)
 subst ex
 obtain rfl:u=Value.ref a:=rx
 exact ⟨qO I2 g,vc hu I2 g ry λw' s3 I3 rw'=>⟨v,H2,I3,rw',q2⟩⟩
end
theorem xj (h:Heap) (hb:sysModules < h.objs.size):ObjOk P w H (h.push { cls:=.type "dict",data:=.dict #[] }) h.objs.size (.dK []) :=
 ⟨Nat.zero_le _,beq_eq_false_iff_ne.mpr (Ne.symm (Nat.ne_of_lt hb)),[],.nil,Heap.DictOf.new h⟩
section
variable {X:Cx} {pos:Pos}
end
def tP:List (TE × TE)->St->Hp->(List (V × V)->Hp->Prop)->Prop
 | [],_,H,Q=>Q [] H
 | (tk,tv)::r,σ,H,Q=>tk σ H λx H1=>tv σ H1 λy H2=>tP r σ H2 λps H3=>Q ((x,y)::ps) H3
abbrev VV:List (V × V)->List (Value × Value)->Prop:=Paired λp q=>RelV p.1 q.1/\RelV p.2 q.2
def PPs (X:Cx) (pos:Pos) (keys:List (Option Expr)) (values:List Expr) (trs:List (TE × TE)):Prop :=
 ∀ (pins:List (Addr × Obj)) (s:Shared) (σ:St) (H:Hp) (Q:List (V × V)->Hp->Prop),Inv X pins σ H s->tP trs σ H Q ->
  wpAny (model X.prog X.w) X.A (evalPairs (pairTrees keys values X.env pos)) (λvs s'=>∃ ps H',Inv X pins σ H' s'/\VV ps vs/\Q ps H') X.xe s
theorem Ac:PPs X pos [] [] []:=λpins s σ H Q I h=>pairTrees_nil_walk ⟨[],H,I,.nil,h⟩
variable {trs:List (TE × TE)}
theorem mM {k v:Expr} {ks:List (Option Expr)} {vs:List Expr} {tk tv:TE} (hk:PE X k tk) (hv:PE X v tv) (hr:PPs X pos ks vs trs) :
  PPs X pos (some k::ks) (v::vs) ((tk,tv)::trs):=λpins s σ H Q I h =>
 pairTrees_cons_walk (thn (hk pins s σ H _ I h) λu s1 ⟨x,H1,I1,rx,q1⟩=>thn (hv pins s1 σ H1 _ I1 q1) λw2 s2 ⟨y,H2,I2,ry,q2⟩ =>
  thn (hr pins s2 σ H2 _ I2 q2) λws s3 ⟨ps,H3,I3,rel,q3⟩=>⟨(x,y)::ps,H3,I3,.cons ⟨rx,ry⟩ rel,q3⟩)
def kq (kvs more:List (Key × V)):List (Key × V):=more.foldl (λacc kv=>rS acc kv.1 kv.2) kvs
theorem KV.merge:∀ {more:List (Key × V)} {rs:List (Key × Value)} {kvs:List (Key × V)} {vs:List (Key × Value)},KV more rs->KV kvs vs->KV (kq kvs more) (merged vs rs):=by
 intro more rs kvs vs r
 unfold KV at r
 induction r generalizing kvs vs with
 | nil=>intro q;exact q
 | @cons p q ps qs h t ih =>
  intro r0
  have e:KV (rS kvs p.1 p.2) (stored vs q.1 q.2):=by
   have:=r0.put p.1 h.2
   rw [← h.1];exact this
  exact ih e
theorem js:∀ (more kvs:List (Key × V)),(kq kvs more).length≤kvs.length+more.length
 | [],kvs=>by show kvs.length≤kvs.length+0;omega
 | p::r,kvs=>by
  have h1:=js r (rS kvs p.1 p.2)
  have h2:=rb kvs p.1 p.2
  show (kq (rS kvs p.1 p.2) r).length≤_
  rw [List.length_cons];omega
theorem mf {P:Program} {w:World}:∀ {kvs:List (Key × V)} {ws:List (Value × Value)},VV (kvs.map λkv=>(kV kv.1,kv.2)) ws->∃ rs,Carries (cY P w) ws rs/\KV kvs rs
 | [],_,r=>by rw [List.map_nil] at r;cases r;exact ⟨[],True.intro,.nil⟩
 | p::kvs,_,r=>by
  rw [List.map_cons] at r
  cases r with
  | @cons a b as bs h t =>
   obtain ⟨rs,c,q⟩:=mf (P:=P) (w:=w) t
   obtain ⟨b1,b2⟩:=b
   exact ⟨(p.1,b2)::rs,⟨xN h.1,rfl,c⟩,.cons ⟨rfl,h.2⟩ q⟩
def C1 (trs:List (TE × TE)):TE:=λσ H Q=>∀ p,H p=none->tP trs σ (upd H p (.dK [])) λps H2=>H2 p=some (.dK [])/\∃ kvs:List (Key × V),ps=kvs.map (λkv=>(kV kv.1,kv.2))/\kvs.length≤15/\Q (.ref p) (upd H2 p (.dK (kq [] kvs)))
theorem zZ {keys:List (Option Expr)} {values:List Expr} (h:PPs X pos keys values trs) (hall:keys.all (·.isSome)=true) (hl:keys.length=values.length) (h0:keys≠[])
  (h15:keys.length≤15):PE X (.Dict keys values pos) (C1 trs):=by
 intro pins s σ H Q I q
 have hn:=I.hok.fresh (Nat.le_refl s.heap.objs.size)
 have I1:=I.laid (a:=s.heap.objs.size) (o:=.dK []) (h':=s.heap.push { cls:=.type "dict",data:=.dict #[] }) (t':=s.toks) (λ_ _ q=>Heap.get?_push_of_some _ q) (Nat.le_refl _) (xj s.heap I.big)
 refine wpAny_Dict_walk (knd:=cY X.prog X.w) hall hl h0 h15 (thn (h pins _ σ _ _ I1 (q _ hn)) λws s2 ⟨ps,H2,I2,rel,e,kvs,ep,lk,q2⟩=>?_)
 subst ep
 obtain ⟨rs,c,rk⟩:=mf (P:=X.prog) (w:=X.w) rel
 obtain ⟨z,hd,vs0,r0,dd⟩:=Ct I2.hok e
 cases r0
 refine ⟨rs,c,dd,λh' dd' hs=>⟨.ref s.heap.objs.size,_,?_,rfl,q2⟩⟩
 have hz:(kq [] kvs).length≤sizeLine:=by
  have h1:=js kvs []
  rw [List.length_nil] at h1
  rw [sizeLine_eq];omega
 have he:∃ q,h'.get? s.heap.objs.size=some q:=let ⟨q,_,_,hq,_⟩:=dd';⟨q,hq⟩
 exact zm I2 (by rw [e];exact True.intro) hs he (Bq hz hd (rk.merge .nil) dd')
structure M2 (X:Cx) (o:Expr) (m:Str) (apos:Pos) (e f:Expr) (cpos:Pos):Prop where
 base:attributeBase o m X.env (eval o X.env)=eval o X.env
 few:((backTo cpos (starEach [e,f] X.env)).all (λx=>!x.1) && (backToKw cpos (keywordEach [] X.env)).all (λx=>x.1.isSome)
  && decide (([e,f]:List Expr).length+([]:List Keyword).length+(if ([]:List Keyword).isEmpty then 0 else 1) < 30))=true
 line:(apos.endLine == cpos.line)=true
 trees:backTo cpos (starEach [e,f] X.env)=[(false,eval e X.env),(false,eval f X.env)]
section
variable {X:Cx} {pins:List (Addr × Obj)} {σ:St} {H:Hp} {s:Shared} {a:Addr} {y d:V} {u r:Value} {o:Option V} {A:Around} {E:Value->Shared->Prop}
end
section
variable {X:Cx} {o e f:Expr} {apos cpos:Pos} {td ty tx:TE}
end
section
variable {X:Cx} {pins:List (Addr × Obj)} {σ:St} {H:Hp} {s:Shared} {a:Addr} {kvs:List (Key × V)} {A:Around} {E:Value->Shared->Prop}
end
section
variable {X:Cx} {pins:List (Addr × Obj)} {σ:St} {H:Hp} {s:Shared} {a:Addr} {y:V} {u:Value} {A:Around} {E:Value->Shared->Prop}
end
end L2
namespace Att
open PySem PySem.W PySem.Calls PyProof.Rows
variable {P:Params} {h:Heap}
theorem lg:∀ (ns:List Int) (vs:List Value),WellAll P h vs (ns.map WData.int)->IntsAre vs ns:=by
 intro ns
 induction ns with
 | nil =>
  intro vs w
  rw [List.map_nil] at w
  cases w
  exact .nil
 | cons n ns ih =>
  intro vs w
  rw [List.map_cons] at w
  cases w with
  | cons a b =>
   cases a
   exact .cons _ _ (ih _ b)
variable {l:OpenLaw} {n:Nat}
theorem vU (hn:l.most=some n) {args:List WData} {vals:List Value}
  (hpre:l.row.toRowW.claim.pre args=true) (hwl:WellAll P h vals args) :
  ∃ a vs ns,vals=[Value.ref a]/\args=[WData.list (ns.map WData.int)]/\h.get? a=some { cls:=.type "list",data:=.seq vs.toArray }/\IntsAre vs ns/\ns.length≤n:=by
 have hsh:WShape.hasAll [] args [.list .int]=true:=(pre_splitW hpre).1
 have hc:l.pre.holds [] { args:=args }=true:=(pre_splitW hpre).2
 obtain ⟨d,r,rfl,h1,h2⟩:=hasAllW_cons hsh
 obtain rfl:=hasAllW_nil h2
 obtain ⟨xs,rfl,h3⟩:=hasW_list h1
 obtain ⟨ns,rfl⟩:=items_int h3
 have hlen:ns.length≤n:=by
  unfold OpenLaw.pre at hc
  have h4:(WTm.not (.lt (.lit (.int (n:Int))) (.len (.arg 0)))).holds [] { args:=[.list (ns.map .int)] }=true:=by
   have h4:=(holds_andW hc).1
   rw [hn] at h4
   exact h4
  have h5:=condW_of h4 (w_not (w_lt w_lit (w_len_list (w_arg rfl))))
  rw [List.length_map] at h5
  refine Nat.le_of_not_lt λq=>?_
  have q':(n:Int) < ((ns.length:Nat):Int):=by omega
  first
   | (rw [decide_eq_true q'] at h5;exact absurd h5 (by decide))
   | (simp at h5;omega)
 cases hwl with
 | cons w1 w2 =>
  cases w2
  cases w1 with
  | list ho hall=>exact ⟨_,_,ns,rfl,rfl,ho,lg ns _ hall,hlen⟩
theorem vM (l:OpenLaw) (args:List WData):l.row.toRowW.claim.post args (.bool true) args=true :=
 postW_of (r:=l.row.toRowW) (X:=(true == true))
  (show WShape.has [] (.bool true) .bool=true by first | rfl | decide | simp [WShape.has,WShape.arms,WShape.armsAll])
  (show (WTm.eq .res (.lit (.bool true))).value [] { args:=args,res:=some (.bool true),after:=args }=some (.bool (true == true)) from w_eq_bool (w_res rfl) w_lit) rfl
theorem attach_call {q:Program} {loose:List Str} {XP:(Str->Option Value)->Heap->Prop} {YP:World->Heap->Prop} {d:DefRec}
  (hn:l.most=some n) (hdf:d.params.defaults=[])
  (call:∀ (w:World) (s₀ s₁:Shared) (mg mb:Str->Option Value) (fa:Addr) (o:Obj) (pm cd doc:Value) (a:Addr) (vs:List Value) (ns:List Int),
   Ground q loose [] XP w s₀ mg mb s₁.heap->YP w s₁.heap ->
   s₁.heap.get? fa=some o->o.data=.func (docDef d.name d.params d.body d.scope pm cd doc)->s₁.heap.CodeRec cd d.name->mg d.name=some (.ref fa) ->
   s₁.heap.get? a=some { cls:=.type "list",data:=.seq vs.toArray }->IntsAre vs ns->ns.length≤n->s₁.gens=#[] ->
   codeAny (model l.prog w) callerA (.call (.ref fa) ⟨[.ref a],[]⟩) (λr s'=>r=.ok (.ret (.bool true))/\OldK s₁.heap s'.heap/\s'.os=s₁.os/\AllBare s'.gens) s₁) :
  WalkO q loose XP YP l.row.toRowW d [] (λf vs=>PySem.call f vs):=by
 intro w s₀ s₁ mg mb G Y fa o pm cd doc dV kV ho hd hcd hD hmg hg args vals as hpre hlay hrd hwl hlo
 obtain rfl:dV=.none:=Dflts.none hD hdf
 obtain rfl:kV=.none:=Dflts.noKw hD
 obtain ⟨a,vs,ns,rfl,rfl,hobj,hints,hlen⟩:=vU hn hpre hwl
 refine enter_call (codeAny_mono (call w s₀ s₁ mg mb fa o pm cd doc a vs ns G Y ho (fd_plain hd) hcd hmg hobj hints hlen hg) λr s' hq=>?_)
 obtain ⟨rfl,h2,h3,h4⟩:=hq
 exact ⟨.inl ⟨.bool true,.bool true,[],rfl,λ_=>rfl,.bool true,vM l _,λ_=>⟨List.Pairwise.nil,λ_ hm=>(nomatch hm)⟩⟩,h2,h3,h4⟩
section
variable {prog:Program} {w:World} {A:Around} {E:Value->Shared->Prop} {s:Shared} {K:Frag}
end
end Att
namespace L2
open PySem PySem.Spec PyProof.Rows
theorem oO:∀ {vs:List Value} {ns:List Int},IntsAre vs ns->Vals (ns.map V.int) vs
 | _,_,.nil=>.nil
 | _,_,.cons n t h=>.cons ⟨t,rfl⟩ (oO h)
def yW (H:Hp):Prop:=∀ b,H b=none\/∃ o xs,H b=some (.frz o (.lst xs))
variable {P:Program} {w:World} {K:PySem.W.Frag} {mg:Str->Option Value} {CX:CXT} {a:Addr} {fd:FuncData} {x:Str} {sp:Sp} {ns:List Int}
theorem xP {mb:Str->Option Value} {k:Nat} {fa:Addr} {s₁:Shared} {vs:List Value}
  (KX:K.In s₁.heap) (hns:s₁.heap.Ns mainGlobals mg) (hb:s₁.heap.Ns builtinsNs mb) (hbb:∀ x:Str,x≠"__name__"->mb x=bootBuiltins x) (hlim:s₁.heap.NoLimit) (hg:s₁.gens=#[])
  (ha:s₁.heap.get? a=some { cls:=.type "list",data:=.seq vs.toArray }) (hi:IntsAre vs ns) (hl:ns.length≤sizeLine) (hr:Room k callerA)
  (F:∀ base:Heap,K.In base->base.Ns mainGlobals mg->FnOk P w K mg base CX k fa fd [x] sp) (hbind:∀ (s:Shared) (u:Value),BindsTo s fd ⟨[u],[]⟩ [(x,u)])
  (hsp:∀ H:Hp,yW H->SqL K H a (ns.map V.int)->sp [.ref a] H (λv _=>v=.bl true) λ_ _ _=>False)
  (hCX:∀ H e s',CX [] H s₁ (λ_ _ _=>False) e s'->False) :
  codeAny (model P w) callerA (.call (.ref fa) ⟨[.ref a],[]⟩) (λr s'=>r=.ok (.ret (.bool true))/\OldK s₁.heap s'.heap/\s'.os=s₁.os/\AllBare s'.gens) s₁:=by
 have rv:=oO hi
 have lenV:=hi.length
 have core:∀ H:Hp,yW H->SqL K H a (ns.map V.int)->HOk P w H s₁.heap->(∀ b,H b≠none->b=a)->(H a≠none->K.lookup a=none) ->
   codeAny (model P w) callerA (.call (.ref fa) ⟨[.ref a],[]⟩) (λr s'=>r=.ok (.ret (.bool true))/\OldK s₁.heap s'.heap/\s'.os=s₁.os/\AllBare s'.gens) s₁:=by
  intro H hO hS hok hA hK
  have base_of:∀ {b:Addr} {o:Obj},s₁.heap.get? b=some o->H b=none->(pf s₁.heap H).get? b=some o:=λe n=>xF e n
  have noA:∀ {b:Addr} {o:Obj} {es:Array DictEntry} {ep:Nat},s₁.heap.get? b=some o->o.data=.dict es ep->H b=none:=λ{b o es ep} e d=>by
   cases q:H b with
   | none=>rfl
   | some u =>
    have e':b=a:=hA b (by rw [q];simp)
    subst e'
    rw [ha] at e;cases e
    have d':Data.seq vs.toArray _=Data.dict es ep:=d
    cases d'
  have nsK:∀ {b:Addr} {m:Str->Option Value},s₁.heap.Ns b m->(pf s₁.heap H).Ns b m:=λ{b m} ⟨o,es,ep,e,d,r⟩=>⟨o,es,ep,base_of e (noA e d),d,r⟩
  have hKb:K.In (pf s₁.heap H):=λb o e=>base_of (KX b o e) (by
   cases q:H b with
   | none=>rfl
   | some u =>
    have e':b=a:=hA b (by rw [q];simp)
    subst e'
    rw [hK (by rw [q];simp)] at e;cases e)
  have hM:Mod K mg (pf s₁.heap H):=⟨hKb,nsK hns,⟨mb,nsK hb,hbb⟩,let ⟨mc,h1,h2⟩:=hlim;⟨mc,nsK h1,h2⟩⟩
  have e0:yV P w K mg (pf s₁.heap H) callerA [] s₁ H:=⟨rfl,hM,λb o e=>zR e,Nat.le_of_eq (vk _ _),trivial,λb hb=>absurd (show b ∈ ([]:List Addr) from hb) (by simp),hok,.of_eq hg⟩
  refine codeAny_mono ((F _ hKb (nsK hns)).run callerA [] s₁ H ⟨[.ref a],[]⟩ [.ref a] [.ref a] _ _ hr e0 (hbind s₁ (.ref a)) (.cons rfl .nil) (hsp H hO hS)) λr s' h=>?_
  cases r with
  | error e=>exact (hCX H e s' h).elim
  | ok fl =>
   cases fl with
   | next=>exact False.elim h
   | brk=>exact False.elim h
   | cont=>exact False.elim h
   | ret u =>
    obtain ⟨v,H',os,bare,un,hok',r',q⟩:=h
    have q':v=.bl true:=q
    subst q'
    obtain rfl:u=Value.bool true:=r'
    refine ⟨rfl,OldK.of_keep λb o e=>?_,os,bare⟩
    cases q:H b with
    | none=>exact un.keep b o e q (by intro z;exact absurd (show b ∈ ([]:List Addr) from z) (by simp)) (by simp)
    | some u =>
     rcases hO b with z | ⟨ob,xs,z⟩
     ·rw [q] at z;cases z
     ·have z2:=un.frzs b ob _ z
      obtain ⟨e1,_⟩:=hok b _ z
      obtain ⟨e2,_⟩:=hok' b _ z2
      rw [e] at e1;cases e1
      exact e2
 cases hk:K.lookup a with
 | some o =>
  have e:=KX a o hk
  rw [ha] at e
  cases e
  refine core (λ_=>none) (λ_=>.inl rfl) (.inr ⟨_,vs.toArray,_,hk,rfl,rfl,rfl,by rw [List.size_toArray,lenV];exact hl,by simpa using rv⟩) (λb u z=>by have z':(none:Option HO)=some u:=z;cases z') (λb z=>absurd rfl z) λz=>absurd rfl z
 | none =>
  refine core (λb=>if b=a then some (.frz { cls:=.type "list",data:=.seq vs.toArray } (.lst (ns.map V.int))) else none) (λb=>?_) (.inl (.inr ⟨{ cls:=.type "list",data:=.seq vs.toArray },if_pos rfl⟩)) (λb u z=>?_) (λb z=>?_) λ_=>hk
  ·by_cases hb:b=a
   ·exact .inr ⟨_,_,if_pos hb⟩
   ·exact .inl (if_neg hb)
  ·by_cases hb:b=a
   ·have z':=(if_pos hb).symm.trans z
    cases z'
    subst hb
    exact ⟨ha,by rw [List.length_map];exact hl,vs,_,rv,ha⟩
   ·have z':=(if_neg hb).symm.trans z
    cases z'
  ·by_cases hb:b=a
   ·exact hb
   ·exact absurd (if_neg hb) z
variable {n:Nat}
theorem walk_of {l:PySem.W.OpenLaw} {k:Nat} {q:Program} {loose:List Str} {XP:(Str->Option Value)->Heap->Prop} {YP:World->Heap->Prop} {d:DefRec} {K:Params->PySem.W.Frag} {CX:World->CXT} {sp:World->Sp}
  (hn:l.most=some n) (hn2:n≤sizeLine) (hdf:d.params.defaults=[]) (hr:Room k callerA)
  (hY:∀ (w:World) (h:Heap),YP w h->(K w.params).In h)
  (F:∀ (w:World) (mg:Str->Option Value) (fa:Addr) (h:Heap),(K w.params).In h->h.Ns mainGlobals mg->mg d.name=some (.ref fa) ->
   ∃ fd:FuncData,(∀ (s:Shared) (u:Value),BindsTo s fd ⟨[u],[]⟩ [(x,u)]) /\
    ∀ base:Heap,(K w.params).In base->base.Ns mainGlobals mg->FnOk l.prog w (K w.params) mg base (CX w) k fa fd [x] (sp w))
  (hsp:∀ (w:World) (H:Hp) (a:Addr) (ns:List Int),ns.length≤n->yW H->SqL (K w.params) H a (ns.map V.int)->sp w [.ref a] H (λv _=>v=.bl true) λ_ _ _=>False)
  (hCX:∀ (w:World) (H:Hp) (s:Shared) (e:Value) (s':Shared),CX w [] H s (λ_ _ _=>False) e s'->False) :
  PySem.W.WalkO q loose XP YP l.row.toRowW d [] (λf vs=>PySem.call f vs):=by
 refine Att.attach_call hn hdf λw s₀ s₁ mg mb fa o pm cd doc a vs ns G Y ho hd hcd hmg hobj hints hlen hg=>?_
 have KX:=hY w _ Y
 obtain ⟨fd,hb,hF⟩:=F w mg fa _ KX G.T.g hmg
 exact xP KX G.T.g G.T.b G.T.builtins G.T.nolimit hg hobj hints (Nat.le_trans hlen hn2) hr hF hb (λH hO hS=>hsp w H a ns hlen hO hS) λH e s'=>hCX w H s₁ e s'
def jP (s:Stmt):Arguments:=match s with
 | .FunctionDef _ a _ _ _ _ _ _ _ _=>a
 | _=>{ posonlyargs:=[],args:=[],vararg:=none,kwonlyargs:=[],kw_defaults:=[],kwarg:=none,defaults:=[] }
def jd (s:Stmt):List Stmt:=match s with
 | .FunctionDef _ _ b _ _ _ _ _ _ _=>b
 | _=>[]
def ay (s:Stmt):Scope:=match s with
 | .FunctionDef _ _ _ _ _ _ sc _ _ _=>sc
 | _=>{ kind:=.function,names:=[],isGenerator:=false,isCoroutine:=false }
abbrev CX0:CXT:=λ_ _ _ _ _ _=>False
abbrev E0:XK:=λ_ _ _=>False
variable {X:Cx}
theorem aQ:oP CX0 X E0:=λ_ _ _ _ _ _ _ h=>h.elim
structure Fun (K:PySem.W.Frag) (x qual:Str) (st:Stmt) (f:Addr) (fd:FuncData):Prop where
 ex:∃ (oc:Value) (od:Option Addr) (kV doc pm:Value) (an:Option Addr) (cdv ct:Value) (osl:Array (Option Value)),
  fd=PySem.W.fnOf x qual (jP st) (jd st) (ay st) .none kV doc pm an cdv ct/\K.lookup f=some ⟨oc,od,.func fd,osl⟩/\PySem.W.codeIn K cdv qual=true
 kp:PySem.W.keepIn K (.ref f)=true
section
variable {P:Program} {w:World} {K:PySem.W.Frag} {mg:Str->Option Value} {base:Heap}
variable {x qual:Str} {st:Stmt} {f:Addr} {fd:FuncData} {ps:List Str}
theorem Fun.ok {N:List Str} {k:Nat} {sp:Sp} (F:Fun K x qual st f fd) (S:FnScope N ps (ay st)) (len:∀ vs H Q E,sp vs H Q E->vs.length=ps.length)
  (hbody:∀ (cdv:Value) (A:Around) (outer:List Env) (s:Shared) (H:Hp) (vs:List V) (Q:VK) (E:XK),Room k (A.deeper (envOfC qual (ay st) s.heap.objs.size f cdv))->sp vs H Q E ->
   ∃ t,PSs (u0 CX0 P w K mg base N qual (ay st) f cdv A outer s H E).nox (jd st) t/\t { nx:=λ_ H'=>Q .non H',rt:=Q } (fV N vs) H):FnOk P w K mg base CX0 (k+1) f fd ps sp:=by
 obtain ⟨oc,od,kV,doc,pm,an,cdv,ct,osl,rfl,lk,hcd⟩:=F.ex
 refine Cu lk hcd S len λA outer s H vs Q E hr hsp=>?_
 obtain ⟨t,h,q⟩:=hbody cdv A outer s H vs Q E hr hsp
 exact ⟨t,h.nox,q⟩
theorem Fun.binds (F:Fun K x qual st f fd)
  (h:∀ (kV doc pm:Value) (an:Option Addr) (cdv ct:Value) (us:List Value),us.length=ps.length->bindArgs (PySem.W.fnOf x qual (jP st) (jd st) (ay st) .none kV doc pm an cdv ct) ⟨us,[]⟩=pure (ps.zip us)):Binds K fd ps []:=by
 obtain ⟨oc,od,kV,doc,pm,an,cdv,ct,osl,rfl,lk,hcd⟩:=F.ex
 exact .all (h kV doc pm an cdv ct)
theorem bf {oc:Value} {od an:Option Addr} {osl:Array (Option Value)} {kV doc pm cdv ct:Value} (l:K.lookup f=some ⟨oc,od,.func (PySem.W.fnOf x qual (jP st) (jd st) (ay st) .none kV doc pm an cdv ct),osl⟩)
  (c:PySem.W.codeIn K cdv qual=true) (k:PySem.W.keepIn K (.ref f)=true):Fun K x qual st f (PySem.W.fnOf x qual (jP st) (jd st) (ay st) .none kV doc pm an cdv ct):=⟨⟨oc,od,kV,doc,pm,an,cdv,ct,osl,rfl,l,c⟩,k⟩
end
variable {A:Around}
theorem uj {k:Nat} (hr:Room k A):A.units+1 < cLine:=Nat.lt_of_le_of_lt (Nat.add_le_add_left (by decide:1≤64) _) hr.units
theorem ck (h:n≤1000):n < sizeLine:=Nat.lt_of_le_of_lt h (by decide)
section
variable {X:Cx}
theorem pv (i:Nat) {x:Str} {pos:Pos} (hN:X.N[i]?=some x:=by rfl) (hv:Vis X.env.scope x:=by first | exact Or.inl rfl | exact Or.inr (Or.inl rfl) | exact Or.inr (Or.inr rfl)) (hd:(x == ("__debug__":Str))=false:=by decide)
  (hcd:(x == ("__classdict__":Str))=false:=by decide):PE X (.Name x pos) (iS i):=BS hN hv hd hcd
end
theorem zH {A B:Prop} (h:B):if false=true then A else B:=by
 rw [if_neg Bool.false_ne_true]
 exact h
theorem zI {A B:Prop} (h:A):if true=true then A else B:=by
 rw [if_pos rfl]
 exact h
theorem nj {c A B:Prop} [Decidable c] (h1:c->A) (h2:¬ c->B):if c then A else B:=by
 by_cases h:c
 ·rw [if_pos h]
  exact h1 h
 ·rw [if_neg h]
  exact h2 h
def Same (H H':Hp):Prop:=∀ b o,H b=some o->H' b=some o
theorem Same.refl (H:Hp):Same H H:=λ_ _ h=>h
variable {H H1:Hp}
theorem Same.trans {H2:Hp} (a:Same H H1) (b:Same H1 H2):Same H H2:=λc o h=>b c o (a c o h)
variable {H':Hp} {l:Addr}
theorem Same.free (e:Same H H') (h:H' l=Option.none):H l=Option.none:=by
 cases q:H l with
 | none=>rfl
 | some o =>
  rw [e l o q] at h
  cases h
variable {xs:List V}
theorem Same.seq (e:Same H H') (h:SqL K H a xs):SqL K H' a xs:=by
 rcases h with (h | ⟨o,h⟩) | h
 ·exact .inl (.inl (e _ _ h))
 ·exact .inl (.inr ⟨o,e _ _ h⟩)
 ·exact .inr h
section
variable {κ:Type} [DecidableEq κ]
end
def rk (env:Env) (x:Str) (k:NameKind):NameKind :=
 if (k == NameKind.free && env.scope.kind == .function && env.kindOf x == some .cell)=true then .cell else k
theorem qb (sc:Scope) (env:Env) (x:Str):(relabel sc env).names.lookup x=(sc.names.lookup x).map (rk env x):=by
 have all:∀ l:List (Str × NameKind),(l.map λ(n,k)=>if (k == NameKind.free && env.scope.kind == .function && env.kindOf n == some .cell) then (n,NameKind.cell) else (n,k)).lookup x=(l.lookup x).map (rk env x):=by
  intro l
  induction l with
  | nil=>rfl
  | cons p r ih =>
   obtain ⟨n,k⟩:=p
   rw [List.map_cons]
   cases hx:x == n with
   | true =>
    have e:x=n:=by simpa using hx
    subst e
    by_cases c:(k == NameKind.free && env.scope.kind == .function && env.kindOf x == some .cell)=true
    ·simp [List.lookup_cons,rk,c]
    ·simp [List.lookup_cons,rk,c]
   | false =>
    have e1:((n,k)::r).lookup x=r.lookup x:=by rw [List.lookup_cons,hx]
    rw [e1,← ih]
    by_cases c:(k == NameKind.free && env.scope.kind == .function && env.kindOf n == some .cell)=true
    ·show List.lookup x ((if (k == NameKind.free && env.scope.kind == .function && env.kindOf n == some .cell)=true then (n,NameKind.cell) else (n,k))::_)=_
     rw [if_pos c,List.lookup_cons,hx]
    ·show List.lookup x ((if (k == NameKind.free && env.scope.kind == .function && env.kindOf n == some .cell)=true then (n,NameKind.cell) else (n,k))::_)=_
     rw [if_neg c,List.lookup_cons,hx]
 exact all sc.names
variable {env:Env}
theorem As:rk env x .free=.cell\/rk env x .free=.free:=by
 unfold rk
 split
 ·exact .inl rfl
 ·exact .inr rfl
theorem B6 {k:NameKind} (h:k≠.free):rk env x k=k:=by
 unfold rk
 rw [if_neg]
 intro c
 have:(k == NameKind.free)=true:=by
  cases q:(k == NameKind.free) with
  | true=>rfl
  | false=>rw [q] at c;simp at c
 exact h (by simpa using this)
def CM:Option NameKind->Bool
 | some .free=>true
 | _=>false
def CL:Option NameKind->Bool
 | some .free=>true
 | some .cell=>true
 | _=>false
def CN:Option NameKind->Bool
 | some .local=>true
 | _=>false
variable {o:Option NameKind}
theorem zF (h:CM o=true):o=some .free:=by
 cases o with
 | none=>cases h
 | some k=>cases k <;> first | rfl | cases h
theorem zE (h:CL o=true):o=some .cell\/o=some .free:=by
 cases o with
 | none=>cases h
 | some k=>cases k <;> first | exact .inl rfl | exact .inr rfl | cases h
theorem zG (h:CN o=true):o=some .local:=by
 cases o with
 | none=>cases h
 | some k=>cases k <;> first | rfl | cases h
def bR (N:List Str) (ok:Str->Option NameKind) (names:List (Str × NameKind)) (own:List Str) (fr:List Nat) (N':List Str):Bool :=
 decide (N'=own++fr.map λj=>N.getD j "") && (fr.all λj=>decide (j < N.length) && CM (names.lookup (N.getD j ""))) &&
  names.all λp=>match p.2 with
   | .free=>CL (ok p.1)
   | .cell=>false
   | .local=>CN (names.lookup p.1)
   | _=>true
structure Blk (N:List Str) (ok:Str->Option NameKind) (names:List (Str × NameKind)) (own:List Str) (fr:List Nat) (N':List Str):Prop where
 eN:N'=own++fr.map λj=>N.getD j ""
 fr:∀ j ∈ fr,j < N.length/\names.lookup (N.getD j "")=some .free
 free:∀ p ∈ names,p.2=.free->ok p.1=some .cell\/ok p.1=some .free
 cell:∀ p ∈ names,p.2≠.cell
 loc:∀ p ∈ names,p.2=.local->names.lookup p.1=some .local
theorem wM {N:List Str} {ok:Str->Option NameKind} {names:List (Str × NameKind)} {own:List Str} {fr:List Nat} {N':List Str} (h:bR N ok names own fr N'=true):Blk N ok names own fr N':=by
 unfold bR at h
 rw [Bool.and_eq_true,Bool.and_eq_true] at h
 obtain ⟨⟨h1,h2⟩,h3⟩:=h
 have h3':=List.all_eq_true.mp h3
 refine ⟨of_decide_eq_true h1,λj hj=>?_,λp hp e=>?_,λp hp e=>?_,λp hp e=>?_⟩
 ·have q:=List.all_eq_true.mp h2 j hj
  rw [Bool.and_eq_true] at q
  exact ⟨of_decide_eq_true q.1,zF q.2⟩
 ·have q:=h3' p hp
  rw [e] at q
  exact zE q
 ·have q:=h3' p hp
  rw [e] at q
  cases q
 ·have q:=h3' p hp
  rw [e] at q
  exact zG q
def mkS (own:List Str) (fr:List Nat) (σ:St):St:=own.map (λ_=>none)++fr.map λj=>(σ[j]?).getD none
theorem Cr (sc:Scope) (env:Env) (h:∀ p ∈ sc.names,p.2=.free->∃ c,env.cells.lookup p.1=some c) :
  ∃ cl,closureFor sc env=pure cl/\(∀ x c,cl.lookup x=some c->env.cells.lookup x=some c)/\∀ p ∈ sc.names,p.2=.free->cl.lookup p.1=env.cells.lookup p.1:=by
 unfold closureFor
 have all:∀ (l:List (Str × NameKind)) (acc:List (Str × Addr)),(∀ p ∈ l,p.2=.free->∃ c,env.cells.lookup p.1=some c)->(∀ x c,acc.lookup x=some c->env.cells.lookup x=some c) ->
   ∃ cl,(forIn l acc λ(p:Str × NameKind) (r:List (Str × Addr))=>(match p with
    | (name,kind)=>if (kind == NameKind.free)=true then (do let a ← cellOf env name;pure (ForInStep.yield ((name,a)::r))) else pure (ForInStep.yield r):Sem (ForInStep (List (Str × Addr)))))=pure cl /\
    (∀ x c,cl.lookup x=some c->env.cells.lookup x=some c)/\(∀ p ∈ l,p.2=.free->cl.lookup p.1=env.cells.lookup p.1)/\∀ x,acc.lookup x=env.cells.lookup x->cl.lookup x=env.cells.lookup x:=by
  intro l
  induction l with
  | nil=>intro acc _ ha;exact ⟨acc,rfl,ha,λp hp=>(by simp at hp),λx e=>e⟩
  | cons p r ih =>
   intro acc hl ha
   obtain ⟨n,k⟩:=p
   rw [List.forIn_cons]
   by_cases hk:k=.free
   ·subst hk
    obtain ⟨c,hc⟩:=hl (n,.free) List.mem_cons_self rfl
    have hce:cellOf env n=pure c:=by unfold cellOf;rw [hc]
    obtain ⟨cl,e1,e2,e3,e4⟩:=ih ((n,c)::acc) (λp hp=>hl p (List.mem_cons_of_mem _ hp)) (λx c' e=>by
     rw [List.lookup_cons] at e
     cases hx:x == n with
     | true =>
      rw [hx] at e
      have:x=n:=by simpa using hx
      subst this
      cases e
      exact hc
     | false=>rw [hx] at e;exact ha x c' e)
    refine ⟨cl,?_,e2,λp hp e=>?_,λx e=>e4 x ?_⟩
    ·simp only [beq_self_eq_true,if_true,hce]
     exact e1
    ·rcases List.mem_cons.mp hp with rfl | hp
     ·exact e4 n (by rw [List.lookup_cons];simp [hc])
     ·exact e3 p hp e
    ·rw [List.lookup_cons]
     cases hx:x == n with
     | true =>
      have:x=n:=by simpa using hx
      subst this
      simp [hc]
     | false=>exact e
   ·have hb:(k == NameKind.free)=false:=by simpa using hk
    obtain ⟨cl,e1,e2,e3,e4⟩:=ih acc (λp hp=>hl p (List.mem_cons_of_mem _ hp)) ha
    refine ⟨cl,?_,e2,λp hp e=>?_,e4⟩
    ·simp only [hb,Bool.false_eq_true,if_false]
     exact e1
    ·rcases List.mem_cons.mp hp with rfl | hp
     ·exact absurd e hk
     ·exact e3 p hp e
 obtain ⟨cl,e1,e2,e3,_⟩:=all sc.names [] h (λx c e=>by simp at e)
 refine ⟨cl,?_,e2,e3⟩
 have e1':=congrArg (λt:Sem (List (Str × Addr))=>t >>= λcs=>pure cs) e1
 first
  | exact e1'
  | (simp only [pure_bind] at e1';exact e1')
  | (refine Eq.trans ?_ e1';rfl)
  | (dsimp only at e1' ⊢;exact e1')
def Cx.blk (X:Cx) (sc:Scope) (cl:List (Str × Addr)) (C:Addr) (N:List Str) (s:Shared) (H:Hp) (fp:List Addr):Cx where
 prog:=X.prog
 w:=X.w
 K:=X.K
 mg:=X.mg
 base:=X.base
 A:=X.A
 N:=N
 s₀:=s
 H₀:=H
 env:=compEnvC sc cl C X.env
 outer:=X.stack
 stack:=X.stack
 ex:=fp
 fn:=λ_=>false
 calm:=X.calm
 pn:=[]
 xe:=λ_ _=>False
section
variable {X:Cx} {pins:List (Addr × Obj)} {σ:St} {H:Hp} {s:Shared} {sc:Scope} {cl:List (Str × Addr)} {own:List Str} {fr:List Nat} {N':List Str} {fp:List Addr}
variable {C:Addr}
theorem uU (I:Inv X pins σ H s) (B:Blk X.N X.env.kindOf sc.names own fr N') (hk:sc.kind=.function)
  (sub:∀ x c,cl.lookup x=some c->X.env.cells.lookup x=some c) (has:∀ p ∈ sc.names,p.2=.free->cl.lookup p.1=X.env.cells.lookup p.1)
  (f2:∀ b ∈ fp,m8 X pins H b) (fo:∀ b ∈ fp,b < s.heap.objs.size) {h1:Heap} {tk:Nat} {D:Addr} {n:Nat} (eD:D=s.heap.objs.size) (eC:s.heap.objs.size < C)
  (hns:h1.Ns C (λ_=>none)) (old:∀ b o,s.heap.get? b=some o->h1.get? b=some o) (hD:h1.get? D=some { cls:=.type "list",data:=.seq ([]:List Value).toArray n }) :
  Inv (X.blk sc cl C N' s H fp) [] (mkS own fr σ) (upd H D (.lst [])) { s with heap:=h1,toks:=tk }:=by
 have hcells:∀ x c,cl.lookup x=some c->c < s.heap.objs.size:=λx c e=>by
  obtain ⟨v,q⟩:=I.cell x c (sub x c e)
  exact q.lt
 have hDn:H D=none:=I.hok.fresh (Nat.le_of_eq eD.symm)
 have kind:∀ x,(X.blk sc cl C N' s H fp).env.kindOf x=(sc.names.lookup x).map (rk X.env x):=λx=>qb sc X.env x
 refine ⟨⟨I.ok.mod,hk,I.ok.glob,I.ok.blt,Nat.le_of_lt eC,λx y c e1 e2=>I.ok.inj x y c (sub x c e1) (sub y c e2),λx hx=>?_,(λx c e=>nomatch (show false=true from e)),I.ok.hd,I.ok.frames,.inl rfl,λb hb=>⟨?_,λx c e=>?_⟩,I.bs,Nat.le_trans I.ok.bsz I.sz,λb o e hb=>?_,λb hb=>?_,I.stack,I.stkFree⟩,
  rfl,I.bare,Un.laid old (Nat.le_of_eq eD.symm) hDn,⟨_,hns,λi x v e1 e2 e3=>?_⟩,λx c e=>?_,?_,λx c e=>?_,λp hp=>?_,I.hok.laid old (Nat.le_of_eq eD.symm) ⟨Nat.zero_le _,[],n,.nil,hD⟩,?_⟩
 ·have hx':(sc.names.lookup x).map (rk X.env x)=some .cell\/(sc.names.lookup x).map (rk X.env x)=some .free:=by
   rw [← kind x];exact hx
  cases q:sc.names.lookup x with
  | none=>rw [q] at hx';simp at hx'
  | some k =>
   have hm:=PySem.mem_of_lookup q
   by_cases hf:k=.free
   ·subst hf
    show ∃ c,cl.lookup x=some c
    rw [has _ hm rfl]
    have z:=B.free _ hm rfl
    exact I.ok.has x z
   ·rw [q] at hx'
    simp only [Option.map_some,B6 hf] at hx'
    rcases hx' with z | z
    ·exact absurd (Option.some.inj z) (B.cell _ hm)
    ·exact absurd (Option.some.inj z) hf
 ·exact Nat.ne_of_lt (Nat.lt_trans (fo b hb) eC)
 ·exact (f2 b hb).2.2.2.2.1 x c (sub x c e)
 ·rcases (f2 b hb).2.2.2.1 with z | z
  ·exact I.ok.noex b o e z
  ·exact absurd (Nat.lt_of_lt_of_le (Heap.lt_size e) (Nat.le_trans I.ok.bsz z)) (Nat.lt_irrefl _)
 ·intro z
  rcases List.mem_cons.mp (I.stkSub b z) with e | e
  ·exact (f2 b hb).2.1 e
  ·exact (f2 b hb).2.2.1 e
 ·
  have e1':N'[i]?=some x:=e1
  have hi:¬ i < own.length:=λz=>by
   unfold mkS at e2
   rw [List.getElem?_append_left (by simpa using z),List.getElem?_map,List.getElem?_eq_getElem z] at e2
   cases e2
  unfold mkS at e2
  rw [List.getElem?_append_right (by simpa using hi),List.length_map,List.getElem?_map] at e2
  rw [B.eN,List.getElem?_append_right (by simpa using hi),List.getElem?_map] at e1'
  cases q:fr[i - own.length]? with
  | none=>rw [q] at e2;cases e2
  | some j =>
   rw [q] at e2 e1'
   simp only [Option.map_some,Option.some.injEq] at e2 e1'
   obtain ⟨hj,hfr⟩:=B.fr j (List.mem_of_getElem? q)
   have ej:X.N[j]?=some x:=by
    rw [← e1',List.getD_eq_getElem?_getD,List.getElem?_eq_getElem hj];rfl
   have eσ:σ[j]?=some (some v):=by
    cases z:σ[j]? with
    | none=>rw [z] at e2;cases e2
    | some o=>rw [z] at e2;simp only [Option.getD_some] at e2;rw [e2]
   rw [e1'] at hfr
   have hm:=PySem.mem_of_lookup hfr
   have hok:=B.free _ hm rfl
   obtain ⟨m0,hn0,hl0⟩:=I.loc
   have hv:Vis X.env.scope x:=by
    rcases hok with z | z
    ·exact .inr (.inl z)
    ·exact .inr (.inr z)
   obtain ⟨u,r,l⟩:=hl0 j x v ej eσ hv
   refine ⟨u,r,?_⟩
   rcases l with ⟨z,_⟩ | ⟨_,c,hc,o,ho,hd⟩
   ·have hok':X.env.kindOf x=some .cell\/X.env.kindOf x=some .free:=hok
    rw [z] at hok'
    rcases hok' with y | y <;> cases y
   ·refine .inr ⟨?_,c,?_,o,old c o ho,hd⟩
    ·rw [kind x,hfr]
     rcases As (env:=X.env) (x:=x) with y | y
     ·exact .inl (by rw [Option.map_some,y])
     ·exact .inr (by rw [Option.map_some,y])
    ·show cl.lookup x=some c
     have z:=has _ hm rfl
     exact z.trans hc
 ·obtain ⟨v,o,ho,hd⟩:=I.cell x c (sub x c e)
  exact ⟨v,o,old c o ho,hd⟩
 ·show upd H D _ C=none
  rw [aJ (by rw [eD];exact Nat.ne_of_gt eC)]
  exact I.hok.fresh (Nat.le_of_lt eC)
 ·show upd H D _ c=none
  rw [aJ (by rw [eD];exact Nat.ne_of_lt (hcells x c e))]
  exact I.freeC x c (sub x c e)
 ·exact absurd (show p ∈ ([]:List (Addr × Obj)) from hp) (by simp)
 ·show (mkS own fr σ).length=N'.length
  rw [B.eN]
  simp [mkS]
theorem tY {σ':St} {H':Hp} {s':Shared} (I:Inv X pins σ H s) (f2:∀ b ∈ fp,m8 X pins H b) (J:Inv (X.blk sc cl C N' s H fp) [] σ' H' s'):Inv X pins σ H' s' :=
 I.call' (ch:=fp) J.os J.base J.hok J.bare λb hb=>⟨(f2 b hb).2.2.2.1,(f2 b hb).2.1,(f2 b hb).2.2.2.2.1,(f2 b hb).2.2.2.2.2⟩
theorem Inv.young {s0:Shared} {H0:Hp} {σ0:St} {h':Heap} (I0:Inv X pins σ0 H0 s0) (I:Inv X pins σ H s) (hC:s0.heap.objs.size≤C) (hn:H C=none) (hs:Heap.SameBut C s.heap h'):Inv X pins σ H { s with heap:=h' } :=
 I.turned (t':=s.toks) (λb o hb e=>(hs.2 b hb).trans e) hn (Nat.ne_of_gt (Nat.lt_of_lt_of_le I0.lt hC)) (.inr (Nat.le_trans I0.sz hC))
  (λx c e z=>by
   obtain ⟨v,q⟩:=I0.cell x c e
   exact absurd (Nat.lt_of_lt_of_le q.lt (by rw [z];exact hC)) (Nat.lt_irrefl _))
  (λp hp z=>absurd (Nat.lt_of_lt_of_le (Heap.lt_size (I0.pin p hp).1) (by rw [z];exact hC)) (Nat.lt_irrefl _))
end
def wu (X:Cx) (ifs:List Expr) (t:TT):Prop :=
 ∀ (pins:List (Addr × Obj)) (s:Shared) (σ:St) (H:Hp) (Q:Bool->Hp->Prop),Inv X pins σ H s->t σ H Q ->
  wpAny (model X.prog X.w) X.A (forIn ifs true λc r=>if r=true then do let ok ← isTrue c X.env (eval c X.env);pure (ForInStep.yield ok) else pure (ForInStep.yield r)) (TP X pins σ Q) X.xe s
def fW:TT:=λ_ H Q=>Q true H
theorem bE:wu X [] fW:=λpins s σ H Q I h=>wpAny_tests_nil ⟨H,I,h⟩
theorem rP {c:Expr} {t:TT} (h:PT X c t):wu X [c] t:=λpins s σ H Q I hw=>wpAny_tests_one (h pins s σ H Q I hw)
section
variable {prog:Program} {w:World} {A:Around} {R:Result->Shared->Prop} {s:Shared}
theorem o3 {elt target iter:Expr} {ifs:List Expr} {scope:Scope} {pos:Pos} {it acc:Value} {env:Env} (J:Nat->Shared->Prop)
  (turn:∀ n s,J n s->wpAny (model prog w) A (pyNext it) (λr s₁=>match r with
   | none=>R (.ok .next) s₁
   | some v=>wpAny (model prog w) A (letOwnedTupleGo target it v) (λ_ s₂=>wpAny (model prog w) A (assign target env v) (λ_ s₃ =>
     wpAny (model prog w) A (forIn ifs true λc r=>if r=true then do let ok ← isTrue c env (eval c env);pure (ForInStep.yield ok) else pure (ForInStep.yield r)) (λok s₄ =>
      if ok=true then wpAny (model prog w) A (eval elt env) (λx s₅=>wpAny (model prog w) A (call (.builtin "list.append") [acc,x]) (λ_ s₆=>∃ m,m < n/\J m s₆) (λ_ _=>False) s₅) (λ_ _=>False) s₄
      else ∃ m,m < n/\J m s₄) (λ_ _=>False) s₃) (λ_ _=>False) s₂) (λ_ _=>False) s₁) (λ_ _=>False) s)
  (n:Nat) (h:J n s):codeAny (model prog w) A (.compLoop (.ListComp elt [⟨target,iter,ifs,0⟩] scope pos) 0 it acc env) R s:=by
 refine codeAny_loop rfl J (λn s hJ=>?_) n h
 show wpAny (model prog w) A ((compTurn (.ListComp elt [⟨target,iter,ifs,0⟩] scope pos) 0 it acc env).onRaise λx=>do noteFrame x env;theTreesLotGoes x) _ _ s
 refine wpAny_noted (wpAny_noRaise ?_)
 rw [compTurn_list]
 refine wpAny_bind (wpAny_standAt (wpAny_bind (thn (turn n s hJ) λr s₁ h₁=>?_)))
 cases r with
 | none=>exact wpAny_pure h₁
 | some v =>
  refine wpAny_bind (thn h₁ λ_ s₂ h₂=>wpAny_bind (thn h₂ λ_ s₃ h₃=>wpAny_bind (thn h₃ λok s₄ h₄=>?_)))
  cases ok with
  | false=>exact wpAny_pure ⟨rfl,h₄⟩
  | true=>exact wpAny_bind (wpAny_bind (thn h₄ λx s₅ h₅=>wpAny_bind (thn h₅ λ_ s₆ h₆=>wpAny_pure (wpAny_pure ⟨rfl,h₆⟩))))
end
def gW (wi:TI) (mk:St->St) (g:TG) (tt:TT) (te:TE):TE:=λσ H Q=>wi σ H λJ H1=>∀ D,H1 D=none->∃ W:Nat->Nat->St->Hp->Prop,(∃ m,W 0 m (mk σ) (upd H1 D (.lst [])))/\∀ i m σ' H',W i m σ' H' ->
 (J.stop i H'/\Q (.ref D) H') \/
 (J.go i H'/\∃ Nx:St->Hp->Prop,(∀ σ'' H'',Nx σ'' H''->∃ m',m' < m/\W (i+1) m' σ'' H'')/\∀ x H'',J.yld i H' x H''->g x σ' H'' λσ2 H2=>tt σ2 H2 λb H3 =>
  if b=true then te σ2 H3 λv H4=>∃ ys,H4 D=some (.lst ys)/\ys.length < sizeLine/\Nx σ2 (upd H4 D (.lst (ys++[v]))) else Nx σ2 H3)
section
variable {X:Cx} {elt iter tg:Expr} {ifs:List Expr} {sc:Scope} {pos:Pos} {wi:TI} {own:List Str} {fr:List Nat} {N':List Str} {g:TG} {tt:TT} {te:TE}
theorem qN {pins:List (Addr × Obj)} {σ:St} {H:Hp} {s:Shared} {cl:List (Str × Addr)} {fp:List Addr} {it:Addr} {J:It} {tn:Nat->Heap->Prop} {E:Value->Shared->Prop} {Q:VK} {RR:Value->Addr->Result->Shared->Prop}
  (I:Inv X pins σ H s) (B:Blk X.N X.env.kindOf sc.names own fr N') (hk:sc.kind=.function) (hc:X.calm=true)
  (sub:∀ x c,cl.lookup x=some c->X.env.cells.lookup x=some c) (has:∀ p ∈ sc.names,p.2=.free->cl.lookup p.1=X.env.cells.lookup p.1)
  (T:kW X.prog X.w X.K tg J fp it tn) (st:tn 0 s.heap) (f2:∀ b ∈ fp,m8 X pins H b)
  (hg:∀ cl C s H fp,PG (X.blk sc cl C N' s H fp) tg g) (ht:∀ cl C s H fp,wu (X.blk sc cl C N' s H fp) ifs tt) (he:∀ cl C s H fp,PE (X.blk sc cl C N' s H fp) elt te)
  (hw:∀ D,H D=none->∃ W:Nat->Nat->St->Hp->Prop,(∃ m,W 0 m (mkS own fr σ) (upd H D (.lst [])))/\∀ i m σ' H',W i m σ' H' ->
   (J.stop i H'/\Q (.ref D) H') \/
   (J.go i H'/\∃ Nx:St->Hp->Prop,(∀ σ'' H'',Nx σ'' H''->∃ m',m' < m/\W (i+1) m' σ'' H'')/\∀ x H'',J.yld i H' x H''->g x σ' H'' λσ2 H2=>tt σ2 H2 λb H3 =>
    if b=true then te σ2 H3 λv H4=>∃ ys,H4 D=some (.lst ys)/\ys.length < sizeLine/\Nx σ2 (upd H4 D (.lst (ys++[v]))) else Nx σ2 H3))
  (hRR:∀ D C σ' H' s',D=s.heap.objs.size->s.heap.objs.size≤C->Inv (X.blk sc cl C N' s H fp) [] σ' H' s'->Q (.ref D) H'->RR (.ref D) C (.ok .next) s') :
  wpAny (model X.prog X.w) X.A (newList []) (λacc s₃=>wpAny (model X.prog X.w) X.A (newFunctionEnv sc X.env.globals cl [] X.env.qual none .none (some X.env)) (λcenv s₄ =>
   codeAny (model X.prog X.w) X.A (.compStart (.ListComp elt [⟨tg,iter,ifs,0⟩] sc pos) 0 (.ref it) acc { cenv with scope:=relabel sc X.env }) (RR acc cenv.locals) s₄) E s₃) E s:=by
 have fo:∀ b ∈ fp,b < s.heap.objs.size:=λb hb=>by
  obtain ⟨o,e,_⟩:=T.obj _ _ st b hb
  exact Heap.lt_size e
 refine wpAny_newObj_type (wpAny_newFunctionEnv B.cell (by intro y hy;simp at hy) (λh₁ hns₁ hsb₁=>?_) hk)
 dsimp only at hns₁ hsb₁ ⊢
 generalize hH2:s.heap.push { cls:=.type "list",dict:=none,data:=.seq ([]:List Value).toArray }=G at hns₁ hsb₁ ⊢
 have hG:G.objs.size=s.heap.objs.size+1:=by rw [← hH2,Heap.size_push]
 have hlt:s.heap.objs.size < G.objs.size:=by rw [hG];exact Nat.lt_succ_self _
 have old:∀ b o,s.heap.get? b=some o->h₁.get? b=some o:=λb o e =>
  hsb₁.extBut b o (Nat.ne_of_lt (Nat.lt_trans (Heap.lt_size e) hlt)) (Heap.get?_push_of_some _ (hH2 ▸ Heap.get?_push_of_some _ e))
 have hacc:h₁.get? s.heap.objs.size=some { cls:=.type "list",data:=.seq ([]:List Value).toArray } :=
  hsb₁.extBut _ _ (Nat.ne_of_lt hlt) (Heap.get?_push_of_some _ (hH2 ▸ Heap.get?_push_size _ rfl))
 obtain ⟨W,⟨m0,w0⟩,turn⟩:=hw s.heap.objs.size (I.hok.fresh (Nat.le_refl _))
 have st₁:tn 0 h₁:=T.keep _ _ _ st λb _ o e=>old b o e
 have hns':h₁.Ns G.objs.size (λ_=>none):=by
  have e:(λx=>([]:List (Str × Value)).reverse.lookup x)=(λ_:Str=>(none:Option Value)):=by funext x;rfl
  first
   | exact hns₁
   | (rw [e] at hns₁;exact hns₁)
 have loop:∀ s₃:Shared,s₃={ s with heap:=h₁,toks:=s.toks+([]:List (Str × Value)).length } ->
   codeAny (model X.prog X.w) X.A (.compLoop (.ListComp elt [⟨tg,iter,ifs,0⟩] sc pos) 0 (.ref it) (.ref s.heap.objs.size) (compEnvC sc cl G.objs.size X.env)) (RR (.ref s.heap.objs.size) G.objs.size) s₃:=by
  rintro s₃ rfl
  have I0:=uU (tk:=s.toks+([]:List (Str × Value)).length) I B hk sub has f2 fo rfl hlt hns' old hacc
  have qt:∀ {pins':List (Addr × Obj)} {H':Hp},pins'=[]->(∀ b ∈ fp,H' b=none)->∀ b ∈ fp,m8 (X.blk sc cl G.objs.size N' s H fp) pins' H' b:=λep hn b hb=>by
   subst ep
   refine ⟨hn b hb,Nat.ne_of_lt (Nat.lt_trans (fo b hb) hlt),λz=>?_,.inl hb,λx c e=>(f2 b hb).2.2.2.2.1 x c (sub x c e),λp hp=>absurd (show p ∈ ([]:List (Addr × Obj)) from hp) (by simp)⟩
   rcases List.mem_cons.mp (I.stkSub b z) with e | e
   ·exact (f2 b hb).2.1 e
   ·exact (f2 b hb).2.2.1 e
  have fr0:∀ b ∈ fp,upd H s.heap.objs.size (.lst []) b=none:=λb hb=>by
   rw [aJ (Nat.ne_of_lt (fo b hb))];exact (f2 b hb).1
  refine o3 (λn s'=>∃ i σ' H',Inv (X.blk sc cl G.objs.size N' s H fp) [] σ' H' s'/\tn i s'.heap/\(∀ b ∈ fp,H' b=none)/\W i n σ' H') ?_ m0 ⟨0,_,_,I0,st₁,fr0,w0⟩
  rintro n s3 ⟨i,σ3,H3,I3,st3,fr3,w3⟩
  rcases turn i n σ3 H3 w3 with ⟨stop,qn⟩ | ⟨go,Nx,hN,step⟩
  ·refine thn (T.done (X.blk sc cl G.objs.size N' s H fp) rfl rfl rfl hc i [] s3 σ3 H3 _ I3 (qt rfl fr3) st3 stop) λr s4 ⟨hr,I4⟩=>?_
   subst hr
   exact hRR _ _ _ _ _ rfl (Nat.le_of_lt hlt) I4 qn
  ·refine thn (T.item (X.blk sc cl G.objs.size N' s H fp) rfl rfl rfl hc i [] s3 σ3 H3 _ I3 (qt rfl fr3) st3 go) λr s4 ⟨u,hr,h4⟩=>?_
   subst hr
   refine thn h4 λ_ s5 ⟨x,H5,I5,r5,y5,st5,fr5⟩=>?_
   have I5':=I5.pinned (qt rfl fr5) (T.obj _ _ st5)
   refine thn (hg cl G.objs.size s H fp _ s5 σ3 H5 x u _ I5' r5 (step x H5 y5)) λ_ s6 ⟨σ6,H6,I6,q6⟩=>?_
   refine thn (ht cl G.objs.size s H fp _ s6 σ6 H6 _ I6 q6) λok s7 ⟨H7,I7,q7⟩=>?_
   have again:∀ {s8:Shared} {H8:Hp},Inv (X.blk sc cl G.objs.size N' s H fp) ([]++mL fp s5.heap) σ6 H8 s8->Nx σ6 H8 ->
     ∃ m,m < n/\∃ i σ' H',Inv (X.blk sc cl G.objs.size N' s H fp) [] σ' H' s8/\tn i s8.heap/\(∀ b ∈ fp,H' b=none)/\W i m σ' H':=λ{s8 H8} I8 n8=>by
    obtain ⟨m',hm,w8⟩:=hN σ6 H8 n8
    refine ⟨m',hm,i+1,σ6,H8,I8.unpinned,T.keep _ _ _ st5 λb hb o e=>(I8.pin (b,o) (List.mem_append_right _ (List.mem_append_right _ (iB hb e)))).1,λb hb=>?_,w8⟩
    obtain ⟨o,e,d⟩:=T.obj _ _ st5 b hb
    exact (I8.pin (b,o) (List.mem_append_right _ (List.mem_append_right _ (iB hb e)))).2.1
   cases ok with
   | false =>
    rw [if_neg Bool.false_ne_true] at q7 ⊢
    exact again I7 q7
   | true =>
    rw [if_pos rfl] at q7 ⊢
    refine thn (he cl G.objs.size s H fp _ s7 σ6 H7 _ I7 q7) λy s8 ⟨v,H8,I8,rv,ys,hD8,hz,nx⟩=>?_
    refine thn (cg (X:=X.blk sc cl G.objs.size N' s H fp) _ s8 σ6 H8 (.ref s.heap.objs.size) [v] (.ref s.heap.objs.size) [y] (λ_ H9=>Nx σ6 H9) I8 rfl (.cons rv .nil) ⟨_,ys,v,rfl,rfl,hD8,hz,nx⟩) λ_ s9 ⟨_,H9,I9,_,n9⟩=>?_
    exact again I9 n9
 exact codeAny_compStart_list (loop _ rfl) (T.self _ 0 _ _ _ st₁ (loop _ rfl))
theorem cE (hi:PI X tg iter wi) (hk:sc.kind=.function) (hb:bR X.N X.env.kindOf sc.names own fr N'=true) (hc:X.calm=true)
  (hg:∀ cl C s H fp,PG (X.blk sc cl C N' s H fp) tg g) (ht:∀ cl C s H fp,wu (X.blk sc cl C N' s H fp) ifs tt) (he:∀ cl C s H fp,PE (X.blk sc cl C N' s H fp) elt te)
  (hs:∀ x,foldedSetIterable iter X.env x=pure x:=by intro _;rfl):PE X (.ListComp elt [⟨tg,iter,ifs,0⟩] sc pos) (gW wi (mkS own fr) g tt te):=by
 intro pins s σ H Q I h
 have B:=wM hb
 obtain ⟨cl,hcl,sub,has⟩:=Cr sc X.env λp hp e=>I.ok.has p.1 (B.free p hp e)
 rw [eval_ListComp]
 refine wpAny_comprehension_free (use:=none) rfl hs hcl hk B.loc (thn (hi pins s σ H _ I h) λv s1 h1=>thn h1 λitv s2 h2=>?_)
 obtain ⟨it,fp,tn,J,H2,e,I2,T,st2,f2,body⟩:=h2
 subst e
 refine qN (RR:=λacc C=>compPost (model X.prog X.w) X.A X.xe none (EP X pins σ Q) acc C) I2 B hk hc sub has T st2 f2 hg ht he body ?_
 intro D C σ' H' s' eD hC J' q
 obtain ⟨m,hn,_⟩:=J'.loc
 refine ⟨m,hn,λh' hs'=>⟨.ref D,H',?_,rfl,q⟩⟩
 exact Inv.young I2 (tY I2 f2 J') hC J'.free hs'
theorem fA {i:Nat} {y:Str} {py spos:Pos} (hi:PI X tg iter wi) (hk:sc.kind=.function) (hb:bR X.N X.env.kindOf sc.names own fr N'=true) (hc:X.calm=true)
  (hg:∀ cl C s H fp,PG (X.blk sc cl C N' s H fp) tg g) (ht:∀ cl C s H fp,wu (X.blk sc cl C N' s H fp) ifs tt) (he:∀ cl C s H fp,PE (X.blk sc cl C N' s H fp) elt te)
  (hN:X.N.Nodup) (hy:X.N[i]?=some y) (hx:X.env.scope.names.lookup y=some .local)
  (hsw:swapsWith (.ListComp elt [⟨tg,iter,ifs,0⟩] sc pos) (some (.Name y py)) spos.line X.env=pure true)
  (hs:∀ x,foldedSetIterable iter X.env x=pure x:=by intro _;rfl):PS X (.Assign [.Name y py] (.ListComp elt [⟨tg,iter,ifs,0⟩] sc pos) spos) (nE (gW wi (mkS own fr) g tt te) (cy i)):=by
 intro pins s σ H D I h
 have B:=wM hb
 obtain ⟨cl,hcl,sub,has⟩:=Cr sc X.env λp hp e=>I.ok.has p.1 (B.free p hp e)
 rw [exec_Assign_Name_used _ _ _ _ hsw]
 refine wpAny_bind (wpAny_standAt (wpAny_bind ?_))
 show wpAny _ _ (do let _ ← comprehension (.ListComp elt [⟨tg,iter,ifs,0⟩] sc pos) sc X.env _ (newList []) false (eval iter X.env) (some (assign (.Name y py) X.env))) _ _ s
 refine wpAny_bind (wpAny_mono (wpAny_comprehension_free (use:=some (assign (.Name y py) X.env)) (Q:=λ_ s'=>SP X pins D .next s') rfl hs hcl hk B.loc
  (thn (hi pins s σ H _ I h) λv s1 h1=>thn h1 λitv s2 h2=>?_)) (λ_ s' hq=>wpAny_pure (wpAny_pure hq)) λ_ _ e=>e)
 obtain ⟨it,fp,tn,J,H2,e,I2,T,st2,f2,body⟩:=h2
 subst e
 refine qN (Q:=λv H'=>D.nx (σ.set i (some v)) H') (RR:=λacc C=>compPost (model X.prog X.w) X.A X.xe (some (assign (.Name y py) X.env)) (λ_ s'=>SP X pins D .next s') acc C) I2 B hk hc sub has T st2 f2 hg ht he body ?_
 intro D' C σ' H' s' eD hC J' q
 have I3:=tY I2 f2 J'
 show wpAny _ _ (assign (.Name y py) X.env (.ref D')) _ _ s'
 refine wpAny_assign_Name (oI I3 hN hy (.inl hx) (v:=.ref D') rfl (λs4 I4 ⟨a,hsb,ha⟩=>?_) (.inr hx))
 obtain ⟨m,hn,_⟩:=J'.loc
 have hCa:C≠a:=by
  rcases ha with e | e
  ·rw [e];exact Nat.ne_of_gt (Nat.lt_of_lt_of_le I2.lt hC)
  ·obtain ⟨v,z⟩:=I2.cell _ _ e
   exact Nat.ne_of_gt (Nat.lt_of_lt_of_le z.lt hC)
 refine ⟨m,hn.sameBut hsb hCa,λh' hs'=>⟨_,H',?_,q⟩⟩
 exact Inv.young I2 I4 hC J'.free hs'
end
inductive D where
 | non | bl (b:Bool) | int (i:Int) | str (x:Str) | tup (ds:List D)
 | lst
mutual
def Dat (K:PySem.W.Frag) (H:Hp):D->V->Prop
 | .non,v=>v=.non
 | .bl b,v=>v=.bl b
 | .int i,v=>v=.int i
 | .str x,v=>v=.str x
 | .tup ds,v=>∃ a vs,v=.ref a/\SqT K H a vs/\Dats K H ds vs
 | .lst,v=>∃ a vs,v=.ref a/\SqL K H a vs
def Dats (K:PySem.W.Frag) (H:Hp):List D->List V->Prop
 | [],vs=>vs=[]
 | d::ds,vs=>∃ v r,vs=v::r/\Dat K H d v/\Dats K H ds r
end
section
variable {K:PySem.W.Frag} {H H':Hp}
variable {a:Addr} {vs:List V} {ds:List D}
theorem Dat.tupI (h:SqT K H a vs) (r:Dats K H ds vs):Dat K H (.tup ds) (.ref a):=by
 unfold Dat;exact ⟨a,vs,rfl,h,r⟩
theorem Dats.nil:Dats K H [] []:=by unfold Dats;rfl
variable {d:D} {v:V}
theorem Dats.cons (h:Dat K H d v) (r:Dats K H ds vs):Dats K H (d::ds) (v::vs):=by
 unfold Dats;exact ⟨v,vs,rfl,h,r⟩
theorem Dat.intI (i:Int):Dat K H (.int i) (.int i):=by unfold Dat;rfl
theorem Dat.strI (x:Str):Dat K H (.str x) (.str x):=by unfold Dat;rfl
theorem Dat.blI (b:Bool):Dat K H (.bl b) (.bl b):=by unfold Dat;rfl
theorem Dat.nonI:Dat K H .non .non:=by unfold Dat;rfl
theorem Dat.lstI (h:SqL K H a vs):Dat K H .lst (.ref a):=by unfold Dat;exact ⟨a,vs,rfl,h⟩
theorem Dat.tupE (h:Dat K H (.tup ds) v):∃ a vs,v=.ref a/\SqT K H a vs/\Dats K H ds vs:=by
 unfold Dat at h;exact h
theorem Dat.intE {i:Int} (h:Dat K H (.int i) v):v=.int i:=by unfold Dat at h;exact h
theorem Dat.strE {x:Str} (h:Dat K H (.str x) v):v=.str x:=by unfold Dat at h;exact h
theorem Dat.blE {b:Bool} (h:Dat K H (.bl b) v):v=.bl b:=by unfold Dat at h;exact h
theorem Dat.nonE (h:Dat K H .non v):v=.non:=by unfold Dat at h;exact h
theorem Dat.lstE (h:Dat K H .lst v):∃ a vs,v=.ref a/\SqL K H a vs:=by unfold Dat at h;exact h
theorem Dats.nilE (h:Dats K H [] vs):vs=[]:=by unfold Dats at h;exact h
theorem Dats.consE (h:Dats K H (d::ds) vs):∃ v r,vs=v::r/\Dat K H d v/\Dats K H ds r:=by
 unfold Dats at h;exact h
structure cO (K:PySem.W.Frag) (H H':Hp):Prop where
 tup:∀ a xs,SqT K H a xs->SqT K H' a xs
 lst:∀ a xs,SqL K H a xs->∃ ys,SqL K H' a ys
mutual
theorem Dat.mono (g:cO K H H'):∀ (d:D) {v:V},Dat K H d v->Dat K H' d v
 | .non,v,h=>by unfold Dat at h ⊢;exact h
 | .bl b,v,h=>by unfold Dat at h ⊢;exact h
 | .int i,v,h=>by unfold Dat at h ⊢;exact h
 | .str x,v,h=>by unfold Dat at h ⊢;exact h
 | .tup ds,v,h=>by
  obtain ⟨a,vs,e,q,r⟩:=h.tupE
  subst e
  exact Dat.tupI (g.tup _ _ q) (Dats.mono g ds r)
 | .lst,v,h=>by
  obtain ⟨a,vs,e,q⟩:=h.lstE
  subst e
  obtain ⟨ys,q'⟩:=g.lst _ _ q
  exact Dat.lstI q'
theorem Dats.mono (g:cO K H H'):∀ (ds:List D) {vs:List V},Dats K H ds vs->Dats K H' ds vs
 | [],vs,h=>by unfold Dats at h ⊢;exact h
 | d::ds,vs,h=>by
  obtain ⟨v,r,e,h1,h2⟩:=h.consE
  subst e
  exact Dats.cons (Dat.mono g d h1) (Dats.mono g ds h2)
end
theorem Dats.length:∀ {ds:List D} {vs:List V},Dats K H ds vs->ds.length=vs.length
 | [],vs,h=>by rw [h.nilE];rfl
 | d::ds,vs,h=>by
  obtain ⟨v,r,e,h1,h2⟩:=h.consE
  subst e
  rw [List.length_cons,List.length_cons,Dats.length h2]
theorem Dats.get:∀ {ds:List D} {vs:List V} {i:Nat} {d:D},Dats K H ds vs->ds[i]?=some d->∃ v,vs[i]?=some v/\Dat K H d v
 | [],_,i,d,_,e=>by simp at e
 | d0::ds,vs,0,d,h,e=>by
  obtain ⟨v,r,e1,h1,h2⟩:=h.consE
  subst e1
  simp at e
  subst e
  exact ⟨v,rfl,h1⟩
 | d0::ds,vs,i+1,d,h,e=>by
  obtain ⟨v,r,e1,h1,h2⟩:=h.consE
  subst e1
  obtain ⟨u,q1,q2⟩:=Dats.get (i:=i) (d:=d) h2 (by simpa using e)
  exact ⟨u,by simpa using q1,q2⟩
theorem Dats.getV:∀ {ds:List D} {vs:List V} {i:Nat} {v:V},Dats K H ds vs->vs[i]?=some v->∃ d,ds[i]?=some d/\Dat K H d v
 | [],vs,i,v,h,e=>by rw [h.nilE] at e;simp at e
 | d0::ds,vs,0,v,h,e=>by
  obtain ⟨u,r,e1,h1,h2⟩:=h.consE
  subst e1
  simp at e
  subst e
  exact ⟨d0,rfl,h1⟩
 | d0::ds,vs,i+1,v,h,e=>by
  obtain ⟨u,r,e1,h1,h2⟩:=h.consE
  subst e1
  obtain ⟨d,q1,q2⟩:=Dats.getV (i:=i) (v:=v) h2 (by simpa using e)
  exact ⟨d,by simpa using q1,q2⟩
theorem Dats.append:∀ {ds es:List D} {vs us:List V},Dats K H ds vs->Dats K H es us->Dats K H (ds++es) (vs++us)
 | [],es,vs,us,h,h'=>by rw [h.nilE];exact h'
 | d::ds,es,vs,us,h,h'=>by
  obtain ⟨v,r,e,h1,h2⟩:=h.consE
  subst e
  exact Dats.cons h1 (Dats.append h2 h')
end
mutual
def eqD:D->D->Bool
 | .non,.non=>true
 | .bl a,.bl b=>a == b
 | .int a,.int b=>a == b
 | .bl a,.int b=>(if a then 1 else 0) == b
 | .int a,.bl b=>a == (if b then 1 else 0)
 | .str a,.str b=>a == b
 | .tup a,.tup b=>eqDs a b
 | _,_=>false
def eqDs:List D->List D->Bool
 | [],[]=>true
 | a::r,b::q=>eqD a b && eqDs r q
 | _,_=>false
end
mutual
def d9:D->Nat
 | .tup ds=>deepDs ds+1
 | _=>0
def deepDs:List D->Nat
 | []=>0
 | d::ds=>max (d9 d) (deepDs ds)
end
mutual
def noL:D->Bool
 | .tup ds=>noLs ds
 | .lst=>false
 | _=>true
def noLs:List D->Bool
 | []=>true
 | d::ds=>noL d && noLs ds
end
def eAt (a b:List D) (j:Nat):Bool:=match a[j]?,b[j]? with
 | some x,some y=>eqD x y
 | _,_=>false
theorem lU (n:Nat) (e:Nat->Bool):(List.range (n+1)).all e=(e 0 && (List.range n).all λj=>e (j+1)):=by
 rw [List.range_succ_eq_map,List.all_cons,List.all_map]
 rfl
theorem iz:∀ a b:List D,((List.range (min a.length b.length)).all (eAt a b) && a.length == b.length)=eqDs a b
 | [],[]=>by unfold eqDs;rfl
 | [],y::b=>by unfold eqDs;simp
 | x::a,[]=>by unfold eqDs;simp
 | x::a,y::b=>by
  have ih:=iz a b
  unfold eqDs
  rw [← ih,List.length_cons,List.length_cons,Nat.succ_min_succ,lU]
  have e0:eAt (x::a) (y::b) 0=eqD x y:=rfl
  have e1:(λj=>eAt (x::a) (y::b) (j+1))=eAt a b:=by
   funext j
   simp [eAt]
  rw [e0,e1,Bool.and_assoc]
  congr 2
  simp
theorem qP {a b:List D} (h:a.length=b.length):(List.range a.length).all (eAt a b)=eqDs a b:=by
 have q:=iz a b
 rw [← h,Nat.min_self] at q
 rw [← q]
 simp
mutual
theorem eA:∀ d:D,noL d=true->eqD d d=true
 | .non,_=>by unfold eqD;rfl
 | .bl b,_=>by unfold eqD;simp
 | .int i,_=>by unfold eqD;simp
 | .str x,_=>by unfold eqD;simp
 | .tup ds,h=>by unfold eqD;unfold noL at h;exact eqDs_refl ds h
 | .lst,h=>by unfold noL at h;cases h
theorem eqDs_refl:∀ ds:List D,noLs ds=true->eqDs ds ds=true
 | [],_=>by unfold eqDs;rfl
 | d::ds,h=>by
  unfold noLs at h
  rw [Bool.and_eq_true] at h
  unfold eqDs
  rw [eA d h.1,eqDs_refl ds h.2]
  rfl
end
section
variable {X:Cx} {pins:List (Addr × Obj)} {σ:St} {H:Hp} {s:Shared}
mutual
theorem lD (I:Inv X pins σ H s):∀ (d e:D) {v:V},noL d=true->Dat X.K H d v->Dat X.K H e v->noL e=true->d=e
 | .non,e,v,hn,h,h',hn'=>by
  have z:=h.nonE;subst z
  cases e with
  | non=>rfl
  | bl b=>exact nomatch h'.blE
  | int i=>exact nomatch h'.intE
  | str x=>exact nomatch h'.strE
  | tup ds=>obtain ⟨_,_,q,_⟩:=h'.tupE;exact nomatch q
  | lst=>obtain ⟨_,_,q,_⟩:=h'.lstE;exact nomatch q
 | .bl b,e,v,hn,h,h',hn'=>by
  have z:=h.blE;subst z
  cases e with
  | non=>exact nomatch h'.nonE
  | bl c=>have q:=h'.blE;injection q with q;rw [q]
  | int i=>exact nomatch h'.intE
  | str x=>exact nomatch h'.strE
  | tup ds=>obtain ⟨_,_,q,_⟩:=h'.tupE;exact nomatch q
  | lst=>obtain ⟨_,_,q,_⟩:=h'.lstE;exact nomatch q
 | .int i,e,v,hn,h,h',hn'=>by
  have z:=h.intE;subst z
  cases e with
  | non=>exact nomatch h'.nonE
  | bl c=>exact nomatch h'.blE
  | int j=>have q:=h'.intE;injection q with q;rw [q]
  | str x=>exact nomatch h'.strE
  | tup ds=>obtain ⟨_,_,q,_⟩:=h'.tupE;exact nomatch q
  | lst=>obtain ⟨_,_,q,_⟩:=h'.lstE;exact nomatch q
 | .str x,e,v,hn,h,h',hn'=>by
  have z:=h.strE;subst z
  cases e with
  | non=>exact nomatch h'.nonE
  | bl c=>exact nomatch h'.blE
  | int j=>exact nomatch h'.intE
  | str y=>have q:=h'.strE;injection q with q;rw [q]
  | tup ds=>obtain ⟨_,_,q,_⟩:=h'.tupE;exact nomatch q
  | lst=>obtain ⟨_,_,q,_⟩:=h'.lstE;exact nomatch q
 | .tup ds,e,v,hn,h,h',hn'=>by
  obtain ⟨a,vs,z,q,r⟩:=h.tupE
  subst z
  cases e with
  | non=>exact nomatch h'.nonE
  | bl c=>exact nomatch h'.blE
  | int j=>exact nomatch h'.intE
  | str y=>exact nomatch h'.strE
  | tup es =>
   obtain ⟨a',vs',z,q',r'⟩:=h'.tupE
   cases z
   have ev:=I.tuple_inj q q'
   subst ev
   unfold noL at hn hn'
   rw [dats_inj I ds es hn r r' hn']
  | lst=>unfold noL at hn';cases hn'
 | .lst,e,v,hn,h,h',hn'=>by unfold noL at hn;cases hn
theorem dats_inj (I:Inv X pins σ H s):∀ (ds es:List D) {vs:List V},noLs ds=true->Dats X.K H ds vs->Dats X.K H es vs->noLs es=true->ds=es
 | [],es,vs,_,h,h',_=>by
  have z:=h.nilE;subst z
  cases es with
  | nil=>rfl
  | cons e es=>obtain ⟨_,_,q,_⟩:=h'.consE;exact nomatch q
 | d::ds,es,vs,hn,h,h',hn'=>by
  obtain ⟨v,r,z,h1,h2⟩:=h.consE
  subst z
  cases es with
  | nil=>exact nomatch h'.nilE
  | cons e es =>
   obtain ⟨v',r',z,h1',h2'⟩:=h'.consE
   injection z with z1 z2
   subst z1 z2
   unfold noLs at hn hn'
   rw [Bool.and_eq_true] at hn hn'
   rw [lD I d e hn.1 h1 h1' hn'.1,dats_inj I ds es hn.2 h2 h2' hn'.2]
end
end
theorem km (A:Around):A.in1.units=A.units+1:=rfl
section
variable {X:Cx} {pins:List (Addr × Obj)} {σ:St} {H:Hp} {s:Shared}
theorem iy:∀ {ds:List D} {j:Nat} {d:D},ds[j]?=some d->d9 d≤deepDs ds
 | [],_,_,e=>by simp at e
 | d0::ds,0,d,e=>by simp at e;subst e;unfold deepDs;exact Nat.le_max_left _ _
 | d0::ds,j+1,d,e=>by
  have q:=iy (ds:=ds) (j:=j) (d:=d) (by simpa using e)
  unfold deepDs
  exact Nat.le_trans q (Nat.le_max_right _ _)
theorem e9:∀ {ds:List D} {j:Nat} {d:D},noLs ds=true->ds[j]?=some d->noL d=true
 | [],_,_,_,e=>by simp at e
 | d0::ds,0,d,h,e=>by simp at e;subst e;unfold noLs at h;rw [Bool.and_eq_true] at h;exact h.1
 | d0::ds,j+1,d,h,e=>by
  unfold noLs at h
  rw [Bool.and_eq_true] at h
  exact e9 (ds:=ds) (j:=j) (d:=d) h.2 (by simpa using e)
variable {A:Around} {ds es:List D} {xs ys:List V}
theorem mi {us ws:List Value} (n:Nat)
  (all:∀ (d e:D) (x y:V) (u w:Value),d9 d≤n->noL d=true->noL e=true->Dat X.K H d x->Dat X.K H e y->RelV x u->RelV y w->SeqAt.EqAt A s u w (eqD d e))
  (hn:deepDs ds≤n) (h1:noLs ds=true) (h2:noLs es=true) (r1:Dats X.K H ds xs) (r2:Dats X.K H es ys) (v1:Vals xs us) (v2:Vals ys ws) :
  ∀ j (k1:j < us.toArray.size) (k2:j < ws.toArray.size),SeqAt.EqAt A s us.toArray[j] ws.toArray[j] (eAt ds es j):=by
 intro j k1 k2
 have l1:j < xs.length:=by rw [v1.length];simpa using k1
 have l2:j < ys.length:=by rw [v2.length];simpa using k2
 obtain ⟨u,eu,ru⟩:=v1.get (i:=j) (x:=xs[j]) (List.getElem?_eq_getElem l1)
 obtain ⟨w,ew,rw'⟩:=v2.get (i:=j) (x:=ys[j]) (List.getElem?_eq_getElem l2)
 obtain ⟨d,ed,qd⟩:=r1.getV (i:=j) (v:=xs[j]) (List.getElem?_eq_getElem l1)
 obtain ⟨e,ee,qe⟩:=r2.getV (i:=j) (v:=ys[j]) (List.getElem?_eq_getElem l2)
 have z1:us.toArray[j]=u:=by
  have:us[j]?=some u:=eu
  have k1':j < us.length:=by simpa using k1
  rw [List.getElem?_eq_getElem k1'] at this
  simpa using Option.some.inj this
 have z2:ws.toArray[j]=w:=by
  have:ws[j]?=some w:=ew
  have k2':j < ws.length:=by simpa using k2
  rw [List.getElem?_eq_getElem k2'] at this
  simpa using Option.some.inj this
 have z3:eAt ds es j=eqD d e:=by unfold eAt;rw [ed,ee]
 rw [z1,z2,z3]
 exact all d e _ _ u w (Nat.le_trans (iy ed) hn) (e9 h1 ed) (e9 h2 ee) qd qe ru rw'
theorem rV {a b:Addr} (I:Inv X pins σ H s) (hu:A.units < cLine) (n:Nat)
  (all:∀ (d e:D) (x y:V) (u w:Value),d9 d≤n->noL d=true->noL e=true->Dat X.K H d x->Dat X.K H e y->RelV x u->RelV y w->SeqAt.EqAt A.in1 s u w (eqD d e))
  (hn:deepDs ds≤n) (h1:noLs ds=true) (h2:noLs es=true) (r1:Dats X.K H ds xs) (r2:Dats X.K H es ys) (q1:SqT X.K H a xs) (q2:SqT X.K H b ys) :
  SeqAt.RcAt A s (.ref a) (.ref b) (eqDs ds es)/\SeqAt.RcNeAt A s (.ref a) (.ref b) (!eqDs ds es):=by
 obtain ⟨us,v1,t1,_⟩:=I.tuple q1
 obtain ⟨ws,v2,t2,_⟩:=I.tuple q2
 have hi:=mi (X:=X) (H:=H) (s:=s) n all hn h1 h2 r1 r2 v1 v2
 have p:=SeqAt.RcAt.tuples (show s.heap.IsTuple a us.toArray from t1) (show s.heap.IsTuple b ws.toArray from t2) hu hi
 have p':=SeqAt.RcNeAt.tuples (show s.heap.IsTuple a us.toArray from t1) (show s.heap.IsTuple b ws.toArray from t2) hu hi
 have e1:us.toArray.size=ds.length:=by rw [List.size_toArray,← v1.length,r1.length]
 have e2:ws.toArray.size=es.length:=by rw [List.size_toArray,← v2.length,r2.length]
 rw [e1,e2,iz] at p p'
 exact ⟨p,p'⟩
theorem o6 (I:Inv X pins σ H s):∀ (n:Nat) (A:Around) (d e:D) (x y:V) (u w:Value),A.units+n+1 < cLine->d9 d≤n->noL d=true->noL e=true->Dat X.K H d x->Dat X.K H e y->RelV x u->RelV y w->SeqAt.EqAt A s u w (eqD d e):=by
 intro n
 induction n with
 | zero =>
  intro A d e x y u w hu hn h1 h2 q1 q2 r1 r2
  exact base I A d e x y u w (by omega) h1 h2 q1 q2 r1 r2 λds es a b xs ys ed ee=>by
   subst ed
   unfold d9 at hn
   omega
 | succ n ih =>
  intro A d e x y u w hu hn h1 h2 q1 q2 r1 r2
  refine base I A d e x y u w (by omega) h1 h2 q1 q2 r1 r2 λds es a b xs ys ed ee t1 t2 s1 s2 hne=>?_
  subst ed ee
  unfold d9 at hn
  unfold noL at h1 h2
  have p:=(rV (A:=A) (ds:=ds) (es:=es) I (by omega) n (λd e x y u w k1 k2 k3 k4 k5 k6 k7=>ih A.in1 d e x y u w (by rw [km];omega) k1 k2 k3 k4 k5 k6 k7) (by omega) h1 h2 t1 t2 s1 s2).1
  unfold eqD
  exact .of_refs hne p
where
 base (I:Inv X pins σ H s) (A:Around) (d e:D) (x y:V) (u w:Value) (hu:A.units < cLine) (h1:noL d=true) (h2:noL e=true) (q1:Dat X.K H d x) (q2:Dat X.K H e y) (r1:RelV x u) (r2:RelV y w)
   (tt:∀ (ds es:List D) (a b:Addr) (xs ys:List V),d=.tup ds->e=.tup es->Dats X.K H ds xs->Dats X.K H es ys->SqT X.K H a xs->SqT X.K H b ys->a≠b->SeqAt.EqAt A s (.ref a) (.ref b) (eqD (.tup ds) (.tup es))) :
   SeqAt.EqAt A s u w (eqD d e):=by
  cases d with
  | lst=>unfold noL at h1;cases h1
  | non =>
   have z:=q1.nonE;subst z;cases r1
   cases e with
   | lst=>unfold noL at h2;cases h2
   | non=>have z:=q2.nonE;subst z;cases r2;unfold eqD;exact SeqAt.EqAt.same _
   | bl b=>have z:=q2.blE;subst z;cases r2;unfold eqD;exact SeqAt.EqAt.none_bool b
   | int i=>have z:=q2.intE;subst z;obtain ⟨t,rfl⟩:=r2;unfold eqD;exact SeqAt.EqAt.none_int i t
   | str i=>have z:=q2.strE;subst z;obtain ⟨t,rfl⟩:=r2;unfold eqD;exact SeqAt.EqAt.none_str i t
   | tup es=>obtain ⟨b,ys,z,s2,t2⟩:=q2.tupE;subst z;cases r2;obtain ⟨ws,v2,p2,_⟩:=I.tuple s2;unfold eqD;exact SeqAt.EqAt.none_tuple (show s.heap.IsTuple b ws.toArray from p2) hu
  | bl c =>
   have z:=q1.blE;subst z;cases r1
   cases e with
   | lst=>unfold noL at h2;cases h2
   | non=>have z:=q2.nonE;subst z;cases r2;unfold eqD;exact SeqAt.EqAt.bool_none c
   | bl b=>have z:=q2.blE;subst z;cases r2;unfold eqD;exact SeqAt.EqAt.bool_bool c b
   | int i=>have z:=q2.intE;subst z;obtain ⟨t,rfl⟩:=r2;unfold eqD;exact SeqAt.EqAt.bool_int c i t
   | str i=>have z:=q2.strE;subst z;obtain ⟨t,rfl⟩:=r2;unfold eqD;exact SeqAt.EqAt.bool_str c i t
   | tup es=>obtain ⟨b,ys,z,s2,t2⟩:=q2.tupE;subst z;cases r2;obtain ⟨ws,v2,p2,_⟩:=I.tuple s2;unfold eqD;exact SeqAt.EqAt.bool_tuple c (show s.heap.IsTuple b ws.toArray from p2) hu
  | int c =>
   have z:=q1.intE;subst z;obtain ⟨tc,rfl⟩:=r1
   cases e with
   | lst=>unfold noL at h2;cases h2
   | non=>have z:=q2.nonE;subst z;cases r2;unfold eqD;exact SeqAt.EqAt.int_none c tc
   | bl b=>have z:=q2.blE;subst z;cases r2;unfold eqD;exact SeqAt.EqAt.int_bool c tc b
   | int i=>have z:=q2.intE;subst z;obtain ⟨t,rfl⟩:=r2;unfold eqD;exact SeqAt.EqAt.int_int c tc i t
   | str i=>have z:=q2.strE;subst z;obtain ⟨t,rfl⟩:=r2;unfold eqD;exact SeqAt.EqAt.int_str c tc i t
   | tup es=>obtain ⟨b,ys,z,s2,t2⟩:=q2.tupE;subst z;cases r2;obtain ⟨ws,v2,p2,_⟩:=I.tuple s2;unfold eqD;exact SeqAt.EqAt.int_tuple c tc (show s.heap.IsTuple b ws.toArray from p2) hu
  | str c =>
   have z:=q1.strE;subst z;obtain ⟨tc,rfl⟩:=r1
   cases e with
   | lst=>unfold noL at h2;cases h2
   | non=>have z:=q2.nonE;subst z;cases r2;unfold eqD;exact SeqAt.EqAt.str_none c tc
   | bl b=>have z:=q2.blE;subst z;cases r2;unfold eqD;exact SeqAt.EqAt.str_bool c tc b
   | int i=>have z:=q2.intE;subst z;obtain ⟨t,rfl⟩:=r2;unfold eqD;exact SeqAt.EqAt.str_int c tc i t
   | str i=>have z:=q2.strE;subst z;obtain ⟨t,rfl⟩:=r2;unfold eqD;exact SeqAt.EqAt.str_str c tc i t
   | tup es=>obtain ⟨b,ys,z,s2,t2⟩:=q2.tupE;subst z;cases r2;obtain ⟨ws,v2,p2,_⟩:=I.tuple s2;unfold eqD;exact SeqAt.EqAt.str_tuple c tc (show s.heap.IsTuple b ws.toArray from p2) hu
  | tup ds =>
   have q1':=q1
   obtain ⟨a,xs,z,s1,t1⟩:=q1.tupE;subst z;cases r1;obtain ⟨us,v1,p1,_⟩:=I.tuple s1
   have p1':s.heap.IsTuple a us.toArray:=p1
   cases e with
   | lst=>unfold noL at h2;cases h2
   | non=>have z:=q2.nonE;subst z;cases r2;unfold eqD;exact SeqAt.EqAt.tuple_none p1' hu
   | bl b=>have z:=q2.blE;subst z;cases r2;unfold eqD;exact SeqAt.EqAt.tuple_bool b p1' hu
   | int i=>have z:=q2.intE;subst z;obtain ⟨t,rfl⟩:=r2;unfold eqD;exact SeqAt.EqAt.tuple_int i t p1' hu
   | str i=>have z:=q2.strE;subst z;obtain ⟨t,rfl⟩:=r2;unfold eqD;exact SeqAt.EqAt.tuple_str i t p1' hu
   | tup es =>
    have q2':=q2
    obtain ⟨b,ys,z,s2,t2⟩:=q2.tupE;subst z;cases r2
    by_cases hab:a=b
    ·subst hab
     have ee:=lD I (.tup ds) (.tup es) h1 q1' q2' h2
     rw [← ee,eA _ h1]
     exact SeqAt.EqAt.same _
    ·exact tt ds es a b xs ys rfl rfl t1 t2 s1 s2 hab
theorem DA (I:Inv X pins σ H s) (n:Nat) (A:Around) (d e:D) (x y:V) (u w:Value) (hu:A.units+n+2 < cLine) (hn:d9 d≤n+1) (h1:noL d=true) (h2:noL e=true) (q1:Dat X.K H d x) (q2:Dat X.K H e y) (r1:RelV x u) (r2:RelV y w) :
  SeqAt.RcAt A s u w (eqD d e)/\SeqAt.RcNeAt A s u w (!eqD d e):=by
 have hu':A.units < cLine:=by omega
 cases d with
 | lst=>unfold noL at h1;cases h1
 | non =>
  have z:=q1.nonE;subst z;cases r1
  cases e with
  | lst=>unfold noL at h2;cases h2
  | non=>have z:=q2.nonE;subst z;cases r2;unfold eqD;exact ⟨SeqAt.RcAt.none_none,SeqAt.RcNeAt.none_none⟩
  | bl b=>have z:=q2.blE;subst z;cases r2;unfold eqD;exact ⟨SeqAt.RcAt.none_bool b,SeqAt.RcNeAt.none_bool b⟩
  | int i=>have z:=q2.intE;subst z;obtain ⟨t,rfl⟩:=r2;unfold eqD;exact ⟨SeqAt.RcAt.none_int i t,SeqAt.RcNeAt.none_int i t⟩
  | str i=>have z:=q2.strE;subst z;obtain ⟨t,rfl⟩:=r2;unfold eqD;exact ⟨SeqAt.RcAt.none_str i t,SeqAt.RcNeAt.none_str i t⟩
  | tup es=>obtain ⟨b,ys,z,s2,t2⟩:=q2.tupE;subst z;cases r2;obtain ⟨ws,v2,p2,_⟩:=I.tuple s2;unfold eqD;exact ⟨SeqAt.RcAt.none_tuple (show s.heap.IsTuple b ws.toArray from p2) hu',SeqAt.RcNeAt.none_tuple (show s.heap.IsTuple b ws.toArray from p2) hu'⟩
 | bl c =>
  have z:=q1.blE;subst z;cases r1
  cases e with
  | lst=>unfold noL at h2;cases h2
  | non=>have z:=q2.nonE;subst z;cases r2;unfold eqD;exact ⟨SeqAt.RcAt.bool_none c,SeqAt.RcNeAt.bool_none c⟩
  | bl b=>have z:=q2.blE;subst z;cases r2;unfold eqD;exact ⟨SeqAt.RcAt.bool_bool c b,SeqAt.RcNeAt.bool_bool c b⟩
  | int i=>have z:=q2.intE;subst z;obtain ⟨t,rfl⟩:=r2;unfold eqD;exact ⟨SeqAt.RcAt.bool_int c i t,SeqAt.RcNeAt.bool_int c i t⟩
  | str i=>have z:=q2.strE;subst z;obtain ⟨t,rfl⟩:=r2;unfold eqD;exact ⟨SeqAt.RcAt.bool_str c i t,SeqAt.RcNeAt.bool_str c i t⟩
  | tup es=>obtain ⟨b,ys,z,s2,t2⟩:=q2.tupE;subst z;cases r2;obtain ⟨ws,v2,p2,_⟩:=I.tuple s2;unfold eqD;exact ⟨SeqAt.RcAt.bool_tuple c (show s.heap.IsTuple b ws.toArray from p2) hu',SeqAt.RcNeAt.bool_tuple c (show s.heap.IsTuple b ws.toArray from p2) hu'⟩
 | int c =>
  have z:=q1.intE;subst z;obtain ⟨tc,rfl⟩:=r1
  cases e with
  | lst=>unfold noL at h2;cases h2
  | non=>have z:=q2.nonE;subst z;cases r2;unfold eqD;exact ⟨SeqAt.RcAt.int_none c tc,SeqAt.RcNeAt.int_none c tc⟩
  | bl b=>have z:=q2.blE;subst z;cases r2;unfold eqD;exact ⟨SeqAt.RcAt.int_bool c tc b,SeqAt.RcNeAt.int_bool c tc b⟩
  | int i=>have z:=q2.intE;subst z;obtain ⟨t,rfl⟩:=r2;unfold eqD;exact ⟨SeqAt.RcAt.int_int c tc i t,SeqAt.RcNeAt.int_int c tc i t⟩
  | str i=>have z:=q2.strE;subst z;obtain ⟨t,rfl⟩:=r2;unfold eqD;exact ⟨SeqAt.RcAt.int_str c tc i t,SeqAt.RcNeAt.int_str c tc i t⟩
  | tup es=>obtain ⟨b,ys,z,s2,t2⟩:=q2.tupE;subst z;cases r2;obtain ⟨ws,v2,p2,_⟩:=I.tuple s2;unfold eqD;exact ⟨SeqAt.RcAt.int_tuple c tc (show s.heap.IsTuple b ws.toArray from p2) hu',SeqAt.RcNeAt.int_tuple c tc (show s.heap.IsTuple b ws.toArray from p2) hu'⟩
 | str c =>
  have z:=q1.strE;subst z;obtain ⟨tc,rfl⟩:=r1
  cases e with
  | lst=>unfold noL at h2;cases h2
  | non=>have z:=q2.nonE;subst z;cases r2;unfold eqD;exact ⟨SeqAt.RcAt.str_none c tc,SeqAt.RcNeAt.str_none c tc⟩
  | bl b=>have z:=q2.blE;subst z;cases r2;unfold eqD;exact ⟨SeqAt.RcAt.str_bool c tc b,SeqAt.RcNeAt.str_bool c tc b⟩
  | int i=>have z:=q2.intE;subst z;obtain ⟨t,rfl⟩:=r2;unfold eqD;exact ⟨SeqAt.RcAt.str_int c tc i t,SeqAt.RcNeAt.str_int c tc i t⟩
  | str i=>have z:=q2.strE;subst z;obtain ⟨t,rfl⟩:=r2;unfold eqD;exact ⟨SeqAt.RcAt.str_str c tc i t,SeqAt.RcNeAt.str_str c tc i t⟩
  | tup es=>obtain ⟨b,ys,z,s2,t2⟩:=q2.tupE;subst z;cases r2;obtain ⟨ws,v2,p2,_⟩:=I.tuple s2;unfold eqD;exact ⟨SeqAt.RcAt.str_tuple c tc (show s.heap.IsTuple b ws.toArray from p2) hu',SeqAt.RcNeAt.str_tuple c tc (show s.heap.IsTuple b ws.toArray from p2) hu'⟩
 | tup ds =>
  obtain ⟨a,xs,z,s1,t1⟩:=q1.tupE;subst z;cases r1;obtain ⟨us,v1,p1,_⟩:=I.tuple s1
  have p1':s.heap.IsTuple a us.toArray:=p1
  cases e with
  | lst=>unfold noL at h2;cases h2
  | non=>have z:=q2.nonE;subst z;cases r2;unfold eqD;exact ⟨SeqAt.RcAt.tuple_none p1' hu',SeqAt.RcNeAt.tuple_none p1' hu'⟩
  | bl b=>have z:=q2.blE;subst z;cases r2;unfold eqD;exact ⟨SeqAt.RcAt.tuple_bool b p1' hu',SeqAt.RcNeAt.tuple_bool b p1' hu'⟩
  | int i=>have z:=q2.intE;subst z;obtain ⟨t,rfl⟩:=r2;unfold eqD;exact ⟨SeqAt.RcAt.tuple_int i t p1' hu',SeqAt.RcNeAt.tuple_int i t p1' hu'⟩
  | str i=>have z:=q2.strE;subst z;obtain ⟨t,rfl⟩:=r2;unfold eqD;exact ⟨SeqAt.RcAt.tuple_str i t p1' hu',SeqAt.RcNeAt.tuple_str i t p1' hu'⟩
  | tup es =>
   obtain ⟨b,ys,z,s2,t2⟩:=q2.tupE;subst z;cases r2
   unfold d9 at hn
   unfold noL at h1 h2
   unfold eqD
   exact rV (A:=A) (ds:=ds) (es:=es) I hu' n (λd e x y u w k1 k2 k3 k4 k5 k6 k7=>o6 I n A.in1 d e x y u w (by rw [km];omega) k1 k2 k3 k4 k5 k6 k7) (by omega) h1 h2 t1 t2 s1 s2
theorem DB (I:Inv X pins σ H s) (n:Nat) (A:Around) (ds es:List D) (a b:Addr) (xs ys:List V) (hu:A.units+n+2 < cLine) (hn:deepDs ds≤n) (h1:noLs ds=true) (h2:noLs es=true) (q1:SqL X.K H a xs) (q2:SqL X.K H b ys) (r1:Dats X.K H ds xs) (r2:Dats X.K H es ys) :
  SeqAt.RcAt A s (.ref a) (.ref b) (eqDs ds es)/\SeqAt.RcNeAt A s (.ref a) (.ref b) (!eqDs ds es):=by
 have hu':A.units < cLine:=by omega
 obtain ⟨us,v1,p1,_⟩:=I.list q1
 obtain ⟨ws,v2,p2,_⟩:=I.list q2
 have e1:us.toArray.size=ds.length:=by rw [List.size_toArray,← v1.length,r1.length]
 have e2:ws.toArray.size=es.length:=by rw [List.size_toArray,← v2.length,r2.length]
 have hi:=mi (X:=X) (H:=H) (s:=s) (A:=A.in1) n (λd e x y u w k1 k2 k3 k4 k5 k6 k7=>o6 I n A.in1 d e x y u w (by rw [km];omega) k1 k2 k3 k4 k5 k6 k7) hn h1 h2 r1 r2 v1 v2
 by_cases hl:ds.length=es.length
 ·have hsz:us.toArray.size=ws.toArray.size:=by rw [e1,e2,hl]
  have p:=SeqAt.RcAt.lists p1.isList p2.isList hsz hu' hi
  have p':=SeqAt.RcNeAt.lists p1.isList p2.isList hsz hu' hi
  rw [e1,qP hl] at p p'
  exact ⟨p,p'⟩
 ·have hsz:(us.toArray.size != ws.toArray.size)=true:=by rw [e1,e2];simpa using hl
  have z:eqDs ds es=false:=by
   rw [← iz]
   have:(ds.length == es.length)=false:=by simpa using hl
   rw [this,Bool.and_false]
  rw [z]
  exact ⟨SeqAt.RcAt.lists_lengths p1.isList p2.isList hsz hu',SeqAt.RcNeAt.lists_lengths p1.isList p2.isList hsz hu'⟩
end
section
variable {X:Cx} {k:Nat}
def CQ (K:PySem.W.Frag) (neg:Bool):R2:=λx y H Q=>∃ d e,Dat K H d x/\Dat K H e y/\noL d=true/\noL e=true/\d9 d≤20/\Q (.bl (if neg then !eqD d e else eqD d e)) H
theorem BL (hr:Room k X.A):OpR X (compareOp .Eq) (CQ X.K false):=by
 intro pins s σ H x y v u Q I rx ry h
 obtain ⟨d,e,q1,q2,h1,h2,hn,q⟩:=h
 have hu:X.A.units+19+2 < cLine:=by have:=hr.un;omega
 exact (DA I 19 X.A d e x y v u hu (by omega) h1 h2 q1 q2 rx ry).1 _ _ _ _ ⟨.bl _,H,I,rfl,q⟩
def Dy (K:PySem.W.Frag) (neg:Bool):R2:=λx y H Q=>∃ a b xs ys ds es,x=.ref a/\y=.ref b/\SqL K H a xs/\SqL K H b ys/\Dats K H ds xs/\Dats K H es ys/\noLs ds=true/\noLs es=true/\deepDs ds≤20/\Q (.bl (if neg then !eqDs ds es else eqDs ds es)) H
theorem x8 (hr:Room k X.A):OpR X (compareOp .Eq) (Dy X.K false):=by
 intro pins s σ H x y v u Q I rx ry h
 obtain ⟨a,b,xs,ys,ds,es,ex,ey,q1,q2,r1,r2,h1,h2,hn,q⟩:=h
 subst ex ey
 cases rx
 cases ry
 have hu:X.A.units+20+2 < cLine:=by have:=hr.un;omega
 exact (DB I 20 X.A ds es a b xs ys hu hn h1 h2 q1 q2 r1 r2).1 _ _ _ _ ⟨.bl _,H,I,rfl,q⟩
def tyD:D->String
 | .non=>"NoneType"
 | .bl _=>"bool"
 | .int _=>"int"
 | .str _=>"str"
 | .tup _=>"tuple"
 | .lst=>"list"
def lh (d:D) (T:String):Bool:=tyD d == T || (tyD d == "bool" && T == "int")
theorem dv {T:String} (hk:∀ d:D,PySem.W.kitOne X.K (.type (tyD d)) (.type T)=some (lh d T)) :
  gF X (.builtin "isinstance") (λxs H Q=>∃ x d,xs=[x,.ty T]/\Dat X.K H d x/\Q (.bl (lh d T)) H):=by
 intro pins s σ H xs us Q I r h
 obtain ⟨x,d,e,q,h⟩:=h
 subst e
 obtain ⟨u,c,e,ru,rc⟩:=C5 r
 subst e
 cases (show c=Value.type T from rc)
 have fin:∀ tk,EP X pins σ Q (.bool (lh d T)) { s with toks:=tk }:=λtk=>⟨.bl _,H,I.tok tk,rfl,h⟩
 have kd:=hk d
 cases d with
 | non=>have z:=q.nonE;subst z;cases ru;exact PySem.W.kia_one PySem.W.kitx_none I.kIn True.intro kd (λz=>nomatch z) fin
 | bl b=>have z:=q.blE;subst z;cases ru;exact PySem.W.kia_one PySem.W.kitx_bool I.kIn True.intro kd (λz=>nomatch z) fin
 | int i=>have z:=q.intE;subst z;obtain ⟨t,rfl⟩:=ru;exact PySem.W.kia_one PySem.W.kitx_int I.kIn True.intro kd (λz=>nomatch z) fin
 | str y=>have z:=q.strE;subst z;obtain ⟨t,rfl⟩:=ru;exact PySem.W.kia_one PySem.W.kitx_str I.kIn True.intro kd (λz=>nomatch z) fin
 | tup ds =>
  obtain ⟨a,vs,z,sq,_⟩:=q.tupE
  subst z
  cases ru
  obtain ⟨its,_,⟨o,e1,e2,_⟩,_⟩:=I.tuple sq
  exact PySem.W.kia_one PySem.W.kitx_tuple I.kIn ⟨o,e1,e2⟩ kd (λz=>nomatch z) fin
 | lst =>
  obtain ⟨a,vs,z,sq⟩:=q.lstE
  subst z
  cases ru
  obtain ⟨its,_,⟨o,_,e1,e2,_⟩,_⟩:=I.list sq
  exact PySem.W.kia_one PySem.W.kitx_list I.kIn ⟨o,e1,e2⟩ kd (λz=>nomatch z) fin
end
def jn (K:PySem.W.Frag) (a:Addr) (T:List (Str × KTD.Dat)):Prop:=∀ h:Heap,K.In h->KTD.TextTab h a T
section
variable {X:Cx}
theorem jX:OpR X (compareOp .In) (λx y H Q=>∃ k a T,x=.str k/\y=.ref a/\jn X.K a T/\Q (.bl (KTD.inKeys k T)) H):=by
 intro pins s σ H x y v u Q I rx ry h
 obtain ⟨k,a,T,ex,ey,t,q⟩:=h
 subst ex ey
 obtain ⟨tk,rfl⟩:=rx
 cases ry
 exact KTD.in_text (h₀:=s.heap) ⟨t _ I.kIn,λ_ _ e=>e⟩ ⟨.bl _,H,I.tok _,rfl,q⟩
def yp (K:PySem.W.Frag):R2:=λx y H Q=>∃ a k T i,x=.ref a/\y=.str k/\jn K a T/\(T.all λp=>KTD.plain p.2)=true/\KTD.datumAt k T=some (.flat (.int i))/\Q (.int i) H
theorem xK:IxR X (yp X.K):=by
 intro value slice pins s σ H x y v u Q I rx ry h hs
 obtain ⟨a,k,T,i,ex,ey,t,hp,hd,q⟩:=h
 subst ex ey
 obtain ⟨tk,rfl⟩:=ry
 cases rx
 have hm:KTD.inKeys k T=true:=by rw [← KTD.isSome_datumAt,hd];rfl
 refine KTD.item_textA (h₀:=s.heap) ⟨t _ I.kIn,λ_ _ e=>e⟩ hp hm ?_ hs
 exact each T hd λv hv=>by
  obtain ⟨t',rfl⟩:=PyProof.V.Flat.int_inv hv
  exact ⟨.int i,H,I.tok _,⟨t',rfl⟩,q⟩
where
 each {h:Heap} {k:Str} {P:Value->Prop} {i:Int}:∀ (T:List (Str × KTD.Dat)),KTD.datumAt k T=some (.flat (.int i))->(∀ v,PyProof.V.Flat v (.int i)->P v)->KTD.EachL h k P T
  | [],hd,_=>by simp [KTD.datumAt] at hd
  | (x,d)::T,hd,hP=>by
   have hd':(if decide (k=x)=true then some d else KTD.datumAt k T)=some (.flat (.int i)):=hd
   by_cases hx:k=x
   ·rw [if_pos (decide_eq_true hx)] at hd'
    cases hd'
    refine KTD.eachL_hit hx ?_
    exact opened hP
   ·rw [if_neg (by simp [hx])] at hd'
    exact KTD.eachL_miss hx (each T hd' hP)
 opened {h:Heap} {P:Value->Prop} {i:Int} (hP:∀ v,PyProof.V.Flat v (.int i)->P v):KTD.Opened h P (.flat (.int i)):=by
  first
   | exact KTD.opened_int λt=>hP _ (PyProof.V.Flat.int i t)
   | exact λt=>hP _ (PyProof.V.Flat.int i t)
end
section
variable {K:PySem.W.Frag} {H H' H2:Hp}
variable {a:Addr} {xs:List V}
theorem Same.sqT (e:Same H H') (h:SqT K H a xs):SqT K H' a xs:=by
 rcases h with (h | ⟨o,h⟩) | h
 ·exact .inl (.inl (e _ _ h))
 ·exact .inl (.inr ⟨o,e _ _ h⟩)
 ·exact .inr h
theorem Same.grow (e:Same H H'):cO K H H':=⟨λ_ _ h=>e.sqT h,λ_ xs h=>⟨xs,e.seq h⟩⟩
theorem Same.dat {d:D} {v:V} (e:Same H H') (h:Dat K H d v):Dat K H' d v:=Dat.mono e.grow d h
theorem Same.dats {ds:List D} {vs:List V} (e:Same H H') (h:Dats K H ds vs):Dats K H' ds vs:=Dats.mono e.grow ds h
theorem aC {p:Addr} (h:H p=none) (o:HO):Same H (upd H p o):=λb u q=>by rw [aJ (aB q h)];exact q
def But (t:Addr) (H H':Hp):Prop:=∀ b o,b≠t->H b=some o->H' b=some o
variable {t:Addr}
theorem Same.but (e:Same H H'):But t H H':=λb o _ h=>e b o h
theorem But.trans (a:But t H H') (b:But t H' H2):But t H H2:=λc o n h=>b c o n (a c o n h)
theorem But.upd {o:HO} (a:But t H H'):But t H (upd H' t o):=λb u n h=>by rw [aJ n];exact a b u n h
variable {zs:List V}
theorem But.sqT (e:But t H H') (ht:H t=some (.lst zs)) (h:SqT K H a xs):SqT K H' a xs:=by
 rcases h with (h | ⟨o,h⟩) | h
 ·exact .inl (.inl (e _ _ (λz=>by rw [z,ht] at h;cases h) h))
 ·exact .inl (.inr ⟨o,e _ _ (λz=>by rw [z,ht] at h;cases h) h⟩)
 ·exact .inr h
theorem But.sqL (e:But t H H') (n:a≠t) (h:SqL K H a xs):SqL K H' a xs:=by
 rcases h with (h | ⟨o,h⟩) | h
 ·exact .inl (.inl (e _ _ n h))
 ·exact .inl (.inr ⟨o,e _ _ n h⟩)
 ·exact .inr h
theorem But.grow {zs':List V} (e:But t H H') (ht:H t=some (.lst zs)) (ht':H' t=some (.lst zs')):cO K H H' :=
 ⟨λ_ _ h=>e.sqT ht h,λa xs h=>by
  by_cases n:a=t
  ·subst n;exact ⟨zs',SqL.of ht'⟩
  ·exact ⟨xs,e.sqL n h⟩⟩
end
section
variable {K:PySem.W.Frag}
theorem xD (d:D):PySem.W.kitOne K (.type (tyD d)) (.type "int")=some (lh d "int"):=by cases d <;> rfl
theorem zD (d:D):PySem.W.kitOne K (.type (tyD d)) (.type "bool")=some (lh d "bool"):=by cases d <;> rfl
theorem xE (d:D):PySem.W.kitOne K (.type (tyD d)) (.type "str")=some (lh d "str"):=by cases d <;> rfl
theorem jS (d:D):PySem.W.kitOne K (.type (tyD d)) (.type "tuple")=some (lh d "tuple"):=by cases d <;> rfl
theorem ui (d:D):PySem.W.kitOne K (.type (tyD d)) (.type "list")=some (lh d "list"):=by cases d <;> rfl
end
def spD (K:PySem.W.Frag) (R:List D->D->Prop):Sp:=λvs H Q _=>∃ ds d,Dats K H ds vs/\R ds d/\∀ v H',Same H H'->Dat K H' d v->Q v H'
def gE (K:PySem.W.Frag) (R:List D->List D->Prop):Sp:=λvs H Q _=>∃ ds es,Dats K H ds vs/\R ds es/\∀ r us H',Same H H'->H' r=some (.lst us)->H r=none->Dats K H' es us->Q (.ref r) H'
variable {vs:List V}
theorem gx {a:D} (h:Dats K H [a] vs):∃ u,vs=[u]/\Dat K H a u:=by
 obtain ⟨u,r,e,h1,h⟩:=h.consE
 have z:=h.nilE
 subst z e
 exact ⟨u,rfl,h1⟩
theorem fu {a b:D} (h:Dats K H [a,b] vs):∃ u v,vs=[u,v]/\Dat K H a u/\Dat K H b v:=by
 obtain ⟨u,r,e,h1,h⟩:=h.consE
 obtain ⟨v,q,h2⟩:=gx h
 subst q e
 exact ⟨u,v,rfl,h1,h2⟩
theorem ua {a b c:D} (h:Dats K H [a,b,c] vs):∃ u v w,vs=[u,v,w]/\Dat K H a u/\Dat K H b v/\Dat K H c w:=by
 obtain ⟨u,r,e,h1,h⟩:=h.consE
 obtain ⟨v,w,q,h2⟩:=fu h
 subst q e
 exact ⟨u,v,w,rfl,h1,h2⟩
variable {σ:St} {j:Nat}
theorem j7 {z:Option V} {x:Option V}:(σ.set j z).set j x=σ.set j x:=by rw [List.set_set]
variable {J:It} {item:Nat->V} {te:TE} {σ0:St} {Q:VK}
theorem mh (Ok:Hp->Prop)
  (go:∀ i H',Ok H'->i < n->J.go i H'/\∀ x H'',J.yld i H' x H''->H''=H'/\x=item i) (stop:∀ H',Ok H'->J.stop n H') (h0:σ0.set j none=σ0)
  (D:Addr) (Pn:Nat->Hp->Prop) (p0:Pn 0 (upd H1 D (.lst []))) (ok:∀ i H',i≤n->Pn i H'->Ok H')
  (turn:∀ i H',i < n->Pn i H'->te (σ0.set j (some (item i))) H' λv H4=>∃ ys,H4 D=some (.lst ys)/\ys.length < sizeLine/\(∃ z,σ0.set j (some (item i))=σ0.set j z)/\Pn (i+1) (upd H4 D (.lst (ys++[v]))))
  (fin:∀ H',Pn n H'->Q (.ref D) H') :
  ∃ W:Nat->Nat->St->Hp->Prop,(∃ m,W 0 m σ0 (upd H1 D (.lst [])))/\∀ i m σ' H',W i m σ' H' ->
   (J.stop i H'/\Q (.ref D) H') \/
   (J.go i H'/\∃ Nx:St->Hp->Prop,(∀ σ'' H'',Nx σ'' H''->∃ m',m' < m/\W (i+1) m' σ'' H'')/\∀ x H'',J.yld i H' x H''->cy j x σ' H'' λσ2 H2=>fW σ2 H2 λb H3 =>
    if b=true then te σ2 H3 λv H4=>∃ ys,H4 D=some (.lst ys)/\ys.length < sizeLine/\Nx σ2 (upd H4 D (.lst (ys++[v]))) else Nx σ2 H3):=by
 refine ⟨λi m σ' H'=>m=n - i/\i≤n/\(∃ z,σ'=σ0.set j z)/\Pn i H',⟨n,by omega,Nat.zero_le _,⟨none,h0.symm⟩,p0⟩,?_⟩
 rintro i m σ' H' ⟨rfl,hi,⟨z,rfl⟩,p⟩
 have o:=ok i H' hi p
 by_cases hlt:i < n
 ·obtain ⟨g,y⟩:=go i H' o hlt
  refine .inr ⟨g,λσ'' H''=>(∃ z,σ''=σ0.set j z)/\Pn (i+1) H'',λσ'' H'' q=>⟨n - (i+1),by omega,rfl,hlt,q.1,q.2⟩,λx H'' yx=>?_⟩
  obtain ⟨e1,e2⟩:=y x H'' yx
  subst e1 e2
  simp only [cy,fW,if_true,j7]
  exact turn i _ hlt p
 ·have e:i=n:=by omega
  subst e
  exact .inl ⟨stop H' o,fin H' p⟩
theorem Bv (i:Nat) (H':Hp) (h:SqT K H' a xs) (hi:i < xs.length):(Itt K a).go i H'/\∀ x H'',(Itt K a).yld i H' x H''->H''=H'/\x=xs.getD i .non:=by
 refine ⟨⟨xs,xs[i],h,List.getElem?_eq_getElem hi⟩,λx H'' y=>⟨y.1,?_⟩⟩
 have q:=y.2 xs h
 rw [List.getD_eq_getElem?_getD,q]
 rfl
theorem pd (i:Nat) (H':Hp) (h:SqL K H' a xs) (hi:i < xs.length):(Itl K a).go i H'/\∀ x H'',(Itl K a).yld i H' x H''->H''=H'/\x=xs.getD i .non:=by
 refine ⟨⟨xs,xs[i],h,List.getElem?_eq_getElem hi⟩,λx H'' y=>⟨y.1,?_⟩⟩
 have q:=y.2 xs h
 rw [List.getD_eq_getElem?_getD,q]
 rfl
theorem Bu (i:Nat) (H':Hp) (hi:i < n):(Itr 0 n).go i H'/\∀ x H'',(Itr 0 n).yld i H' x H''->H''=H'/\x=.int i:=by
 refine ⟨hi,λx H'' y=>⟨y.1,?_⟩⟩
 have q:=y.2
 rw [q]
 simp
section
variable {X:Cx}
def CS (K:PySem.W.Frag):V->V->Hp->VK->Prop:=λo i H Q=>∃ p xs k v,o=.ref p/\i=.int k/\0≤k/\SqL K H p xs/\xs[k.toNat]?=some v/\Q v H
theorem qV:Co X (CS X.K):=by
 intro pins s σ H o i ov iv Q I r1 r2 h
 obtain ⟨p,xs,k,v,eo,ei,h0,hq,he,q⟩:=h
 subst eo ei
 cases r1
 obtain ⟨t,rfl⟩:=r2
 obtain ⟨its,r,pl,hz⟩:=I.list hq
 obtain ⟨w,ew,rw'⟩:=r.get he
 have hl:=r.length
 have hlt:k.toNat < xs.length:=(List.getElem?_eq_some_iff.mp he).1
 have hn:=jB
 exact wpAny_getItem_list pl.isList h0 (by omega) (by simpa using ew) ⟨v,H,I,rw',q⟩
theorem zW:OpR X (binaryOp .Mult) (rI IntMulOk λi j=>.int (i * j)):=opI λ_ _ _ _ _ _ _ hc q=>mul_int q hc
end
theorem pB (h:j < n):ixN n (j:Int)=some j:=by
 unfold ixN
 rw [if_pos (by omega),if_pos (by omega)]
 simp
theorem at0 {α:Type} {x:α} {r:List α}:atI (x::r) 0=some x:=iw (j:=0) rfl
theorem at1 {α:Type} {x y:α} {r:List α}:atI (x::y::r) 1=some y:=iw (j:=1) rfl
theorem at2 {α:Type} {x y z:α} {r:List α}:atI (x::y::z::r) 2=some z:=iw (j:=2) rfl
theorem ix0:ixN (n+1) 0=some 0:=pB (j:=0) (by omega)
theorem ix1:ixN (n+2) 1=some 1:=pB (j:=1) (by omega)
theorem ix2:ixN (n+3) 2=some 2:=pB (j:=2) (by omega)
theorem nR:∀ ns:List Int,Dats K H (ns.map D.int) (ns.map V.int)
 | []=>Dats.nil
 | n::ns=>Dats.cons (Dat.intI n) (nR ns)
theorem ku:∀ ns:List Int,noLs (ns.map D.int)=true
 | []=>by unfold noLs;rfl
 | n::ns=>by
  show noLs (D.int n::ns.map D.int)=true
  unfold noLs
  rw [ku ns]
  unfold noL
  rfl
theorem iV:∀ ns:List Int,deepDs (ns.map D.int)=0
 | []=>by unfold deepDs;rfl
 | n::ns=>by
  show deepDs (D.int n::ns.map D.int)=0
  unfold deepDs
  rw [iV ns]
  unfold d9
  rfl
theorem xl (ns:List Int):eqDs (ns.map D.int) []=ns.isEmpty:=by
 cases ns with
 | nil=>unfold eqDs;rfl
 | cons n ns=>show eqDs (D.int n::ns.map D.int) []=false;unfold eqDs;rfl
theorem bZ (h:n≤1000):n≤sizeLine:=Nat.le_of_lt (ck h)
def Scr (K:PySem.W.Frag) (H:Hp) (a:Addr) (ns:List Int):Prop:=(∃ o,H a=some (.frz o (.lst (ns.map V.int)))) \/
 ∃ (o:Obj) (its:Array Value) (n:Nat),K.lookup a=some o/\o.cls=.type "list"/\o.dict=none/\o.data=.seq its n/\its.size≤sizeLine/\Vals (ns.map V.int) its.toList
theorem Scr.sqL (h:Scr K H a ns):SqL K H a (ns.map V.int):=by
 rcases h with ⟨o,h⟩ | h
 ·exact .inl (.inr ⟨o,h⟩)
 ·exact .inr h
theorem Scr.but {t:Addr} {zs:List V} (h:Scr K H a ns) (e:But t H H') (ht:H t=some (.lst zs)):Scr K H' a ns:=by
 rcases h with ⟨o,h⟩ | h
 ·exact .inl ⟨o,e _ _ (λz=>by rw [z,ht] at h;cases h) h⟩
 ·exact .inr h
theorem Scr.same (h:Scr K H a ns) (e:Same H H'):Scr K H' a ns:=by
 rcases h with ⟨o,h⟩ | h
 ·exact .inl ⟨o,e _ _ h⟩
 ·exact .inr h
theorem B9 (hO:yW H) (h:SqL K H a (ns.map V.int)):Scr K H a ns:=by
 rcases h with (h | ⟨o,h⟩) | h
 ·rcases hO a with z | ⟨o,xs,z⟩
  ·rw [h] at z;cases z
  ·rw [h] at z;cases z
 ·exact .inl ⟨o,h⟩
 ·exact .inr h
def qm (K:PySem.W.Frag):Sp:=λvs H Q _=>∃ (a t:Addr) (ns:List Int) (m p q:Int) (rest:List V),vs=[.ref a,.ref t,.int m]/\Scr K H a ns/\H t=some (.lst (.int p::.int q::rest))/\0≤p/\0 < m/\m≤1000000 /\
 ∀ (r:Int) (H':Hp) (p' q':Int),But t H H'->H' t=some (.lst (.int p'::.int q'::rest))->0≤p'->0≤r->r < m->Q (.int r) H'
def RE (K:PySem.W.Frag) (t:TE) (σ:St) (H:Hp) (d:D):Prop:=∀ H1,Same H H1->∀ Q:VK,(∀ v H',Same H1 H'->Dat K H' d v->Q v H')->t σ H1 Q
def RT (t:TT) (σ:St) (H:Hp) (b:Bool):Prop:=∀ H1,Same H H1->∀ Q:Bool->Hp->Prop,(∀ H',Same H1 H'->Q b H')->t σ H1 Q
def RA (K:PySem.W.Frag) (t:TA) (σ:St) (H:Hp) (ds:List D):Prop:=∀ H1,Same H H1->∀ Q:List V->Hp->Prop,(∀ vs H',Same H1 H'->Dats K H' ds vs->Q vs H')->t σ H1 Q
section
variable {K:PySem.W.Frag} {σ:St} {H H':Hp} {d d':D} {ds:List D} {t u ta tb:TE} {tt uu:TT} {tA:TA} {i j:Int} {b c:Bool}
theorem RE.mono (h:RE K t σ H d) (e:Same H H'):RE K t σ H' d:=λH1 s Q q=>h H1 (e.trans s) Q q
theorem RA.mono (h:RA K tA σ H ds) (e:Same H H'):RA K tA σ H' ds:=λH1 s Q q=>h H1 (e.trans s) Q q
theorem RE.as (h:RE K t σ H d) (e:d=d'):RE K t σ H d':=e ▸ h
theorem RT.as (h:RT tt σ H b) (e:b=c):RT tt σ H c:=e ▸ h
theorem RE.use {Q:VK} (h:RE K t σ H d) (q:∀ v H',Same H H'->Dat K H' d v->Q v H'):t σ H Q:=h H (Same.refl H) Q q
theorem RT.use {Q:Bool->Hp->Prop} (h:RT tt σ H b) (q:∀ H',Same H H'->Q b H'):tt σ H Q:=h H (Same.refl H) Q q
theorem RA.use {Q:List V->Hp->Prop} (h:RA K tA σ H ds) (q:∀ vs H',Same H H'->Dats K H' ds vs->Q vs H'):tA σ H Q:=h H (Same.refl H) Q q
theorem ao:RE K (tC (.int i)) σ H (.int i):=λH1 _ Q q=>q _ _ (Same.refl _) (Dat.intI i)
variable {x:Str}
theorem aF:RE K (tC (.str x)) σ H (.str x):=λH1 _ Q q=>q _ _ (Same.refl _) (Dat.strI x)
theorem dR:RE K (tC (.bl b)) σ H (.bl b):=λH1 _ Q q=>q _ _ (Same.refl _) (Dat.blI b)
theorem ae {k:Nat} {v:V} (h:Dat K H d v) (e:σ[k]?=some (some v):=by rfl):RE K (iS k) σ H d:=λH1 s Q q=>⟨v,e,q _ _ (Same.refl _) (s.dat h)⟩
theorem au:RA K d8 σ H []:=λH1 _ Q q=>q _ _ (Same.refl _) Dats.nil
theorem ab (h:RE K t σ H d) (r:RA K tA σ H ds):RA K (bP t tA) σ H (d::ds):=λH1 s Q q =>
 h H1 s _ λv H2 s2 q2=>r H2 (s.trans s2) _ λvs H3 s3 q3=>q _ _ (s2.trans s3) (Dats.cons (s3.dat q2) q3)
theorem aL (h:RA K tA σ H ds) (hl:ds.length≤1000:=by simp):RE K (yJ tA) σ H (.tup ds):=λH1 s Q q =>
 h H1 s _ λvs H2 s2 q2=>⟨by rw [← q2.length];exact bZ hl,λp hp=>q _ _ (s2.trans (aC hp _)) (Dat.tupI (SqT.of aq) ((aC hp _).dats q2))⟩
theorem AW {g:Int->Int} (h:RE K t σ H (.int i)):RE K (tUn (rU λi=>.int (g i)) t) σ H (.int (g i)):=λH1 s Q q =>
 h H1 s _ λv H2 s2 q2=>⟨i,q2.intE,q _ _ s2 (Dat.intI _)⟩
variable {g:Int->Int->V}
theorem tJ (h1:RE K ta σ H (.int i)) (h2:RE K tb σ H (.int j)) (hd:∀ H,Dat K H d (g i j)):RE K (tOp (rI0 g) ta tb) σ H d:=λH1 s Q q =>
 h1 H1 s _ λv H2 s2 q2=>h2 H2 (s.trans s2) _ λw H3 s3 q3=>⟨i,j,q2.intE,q3.intE,q _ _ (s2.trans s3) (hd _)⟩
theorem yE {C:Int->Int->Prop} (h1:RE K ta σ H (.int i)) (h2:RE K tb σ H (.int j)) (hc:C i j) (hd:∀ H,Dat K H d (g i j)):RE K (tOp (rI C g) ta tb) σ H d:=λH1 s Q q =>
 h1 H1 s _ λv H2 s2 q2=>h2 H2 (s.trans s2) _ λw H3 s3 q3=>⟨i,j,q2.intE,q3.intE,hc,q _ _ (s2.trans s3) (hd _)⟩
theorem fS (h1:RE K ta σ H (.int i)) (h2:RE K tb σ H (.int j)):RE K (tOp (rI0 λi j=>.int (i+j)) ta tb) σ H (.int (i+j)):=tJ h1 h2 λ_=>Dat.intI _
theorem tL (h1:RE K ta σ H (.int i)) (h2:RE K tb σ H (.int j)):RE K (tOp (rI0 λi j=>.int (i - j)) ta tb) σ H (.int (i - j)):=tJ h1 h2 λ_=>Dat.intI _
variable {p:Int->Int->Bool}
theorem dD (h1:RE K ta σ H (.int i)) (h2:RE K tb σ H (.int j)):RE K (tOp (rI0 λi j=>.bl (p i j)) ta tb) σ H (.bl (p i j)):=tJ h1 h2 λ_=>Dat.blI _
theorem pZ (h1:RE K ta σ H (.int i)) (h2:RE K tb σ H (.int j)):RE K (tOp rEq ta tb) σ H (.bl (decide (i=j))):=λH1 s Q q =>
 h1 H1 s _ λv H2 s2 q2=>h2 H2 (s.trans s2) _ λw H3 s3 q3=>by
  rw [q2.intE,q3.intE]
  refine ⟨rfl,?_⟩
  have e:decide (V.int i=V.int j)=decide (i=j):=by by_cases z:i=j <;> simp [z]
  rw [e]
  exact q _ _ (s2.trans s3) (Dat.blI _)
theorem qa (h1:RE K ta σ H (.int i)) (h2:RE K tb σ H (.int j)):RE K (tOp rNe ta tb) σ H (.bl (!decide (i=j))):=λH1 s Q q =>
 h1 H1 s _ λv H2 s2 q2=>h2 H2 (s.trans s2) _ λw H3 s3 q3=>by
  rw [q2.intE,q3.intE]
  refine ⟨rfl,?_⟩
  have e:decide (V.int i=V.int j)=decide (i=j):=by by_cases z:i=j <;> simp [z]
  rw [e]
  exact q _ _ (s2.trans s3) (Dat.blI _)
theorem bV {y:Str} (h1:RE K ta σ H (.str x)) (h2:RE K tb σ H (.str y)):RE K (tOp rEq ta tb) σ H (.bl (decide (x=y))):=λH1 s Q q =>
 h1 H1 s _ λv H2 s2 q2=>h2 H2 (s.trans s2) _ λw H3 s3 q3=>by
  rw [q2.strE,q3.strE]
  refine ⟨rfl,?_⟩
  have e:decide (V.str x=V.str y)=decide (x=y):=by by_cases z:x=y <;> simp [z]
  rw [e]
  exact q _ _ (s2.trans s3) (Dat.blI _)
theorem aZ {k:Nat} (h1:RE K ta σ H (.tup ds)) (h2:RE K tb σ H (.int k)) (e:ds[k]?=some d):RE K (tOp (rT K) ta tb) σ H d:=λH1 s Q q =>
 h1 H1 s _ λv H2 s2 q2=>h2 H2 (s.trans s2) _ λw H3 s3 q3=>by
  obtain ⟨a,vs,ev,hq,hd⟩:=(s3.dat q2).tupE
  obtain ⟨x,ex,hx⟩:=hd.get e
  exact ⟨a,vs,k,x,ev,q3.intE,hq,iw ex,q _ _ (s2.trans s3) hx⟩
theorem eR (h:RE K t σ H (.tup ds)):RE K (tCB (λxs H Q=>∃ p ys,xs=[.ref p]/\(SqL K H p ys\/SqT K H p ys)/\Q (.int ys.length) H) (bP t d8)) σ H (.int ds.length):=λH1 s Q q =>
 h H1 s _ λv H2 s2 q2=>by
  obtain ⟨a,vs,ev,hq,hd⟩:=q2.tupE
  subst ev
  refine ⟨a,vs,rfl,.inr hq,?_⟩
  rw [← hd.length]
  exact q _ _ s2 (Dat.intI _)
theorem bN {T:String} (h:RE K t σ H d):RE K (tCB (λxs H Q=>∃ x d,xs=[x,.ty T]/\Dat K H d x/\Q (.bl (lh d T)) H) (bP t (bP (tC (.ty T)) d8))) σ H (.bl (lh d T)):=λH1 s Q q =>
 h H1 s _ λv H2 s2 q2=>⟨v,d,rfl,q2,q _ _ s2 (Dat.blI _)⟩
theorem ba {R:List D->D->Prop} {E:XK} (h:RA K tA σ H ds) (e:R ds d):RE K (mX (spD K R) [] E tA) σ H d:=λH1 s Q q =>
 h H1 s _ λvs H2 s2 q2=>⟨ds,d,by rw [List.append_nil];exact q2,e,λv H3 s3 q3=>q _ _ (s2.trans s3) q3⟩
variable {a:Addr} {T:List (Str × KTD.Dat)}
theorem fK {k:Str} (h:RE K t σ H (.str k)) (ht:jn K a T):RE K (tOp (λx y H Q=>∃ k a T,x=.str k/\y=.ref a/\jn K a T/\Q (.bl (KTD.inKeys k T)) H) t (tC (.ref a))) σ H (.bl (KTD.inKeys k T)):=λH1 s Q q =>
 h H1 s _ λv H2 s2 q2=>⟨k,a,T,q2.strE,rfl,ht,q _ _ s2 (Dat.blI _)⟩
theorem rX {k:Str} (h:RE K t σ H (.str k)) (ht:jn K a T) (hp:(T.all λp=>KTD.plain p.2)=true) (e:KTD.datumAt k T=some (.flat (.int i))):RE K (tOp (yp K) (tC (.ref a)) t) σ H (.int i):=λH1 s Q q =>
 h H1 s _ λv H2 s2 q2=>⟨a,k,T,i,rfl,q2.strE,ht,hp,e,q _ _ s2 (Dat.intI _)⟩
theorem CY {n:Nat}:HT.sIx (n+1) 0 (some 1)=1:=by
 have:=HT.sIx_nat (n+1) 0 1
 simpa using this
theorem Dg (v:V) (r:List V):kY (v::r) (some 1) none=r:=by
 unfold kY
 rw [List.length_cons,CY,HT.sIx_none]
 simp
theorem jf (h:RE K t σ H (.tup (d'::ds))):RE K (tSl (B0 K) t (sj (tC (.int 1))) qv) σ H (.tup ds):=λH1 s Q q =>
 h H1 s _ λv H2 s2 q2=>by
  obtain ⟨a,vs,ev,hq,hd⟩:=q2.tupE
  obtain ⟨w,r,er,h1,h2⟩:=hd.consE
  subst ev er
  refine ⟨1,rfl,a,w::r,rfl,hq,λz=>?_,λp hp=>?_⟩
  ·rw [List.length_cons,CY] at z
   exact absurd z.1 (by decide)
  ·rw [Dg]
   exact q _ _ (s2.trans (aC hp _)) (Dat.tupI (SqT.of aq) ((aC hp _).dats h2))
theorem cF (h1:RE K ta σ H (.bl b)) (h2:b=true->RE K tb σ H (.bl c)):RE K (A0 ta tb) σ H (.bl (b && c)):=λH1 s Q q =>
 h1 H1 s _ λv H2 s2 q2=>⟨b,q2.blE,by
  cases b with
  | true=>rw [if_pos rfl];exact h2 rfl H2 (s.trans s2) _ λw H3 s3 q3=>q _ _ (s2.trans s3) q3
  | false=>rw [if_neg Bool.false_ne_true];exact q _ _ s2 (Dat.blI _)⟩
theorem uE (h1:RE K ta σ H (.bl b)) (h2:b=false->RE K tb σ H (.bl c)):RE K (C3 ta tb) σ H (.bl (b || c)):=λH1 s Q q =>
 h1 H1 s _ λv H2 s2 q2=>⟨b,q2.blE,by
  cases b with
  | true=>rw [if_pos rfl];exact q _ _ s2 (Dat.blI _)
  | false=>rw [if_neg Bool.false_ne_true];exact h2 rfl H2 (s.trans s2) _ λw H3 s3 q3=>q _ _ (s2.trans s3) q3⟩
theorem yD (h:RE K t σ H (.bl b)):RE K (A3 t) σ H (.bl (!b)):=λH1 s Q q =>
 h H1 s _ λv H2 s2 q2=>⟨b,q2.blE,q _ _ s2 (Dat.blI _)⟩
theorem jZ {r:Int->Int->Bool} {k:Int} {tc:TE} (h1:RE K ta σ H (.int i)) (h2:RE K tb σ H (.int j)) (h3:p i j=true->RE K tc σ H (.int k)) :
  RE K (qu (rI0 λi j=>.bl (p i j)) (rI0 λi j=>.bl (r i j)) ta tb tc) σ H (.bl (p i j && r j k)):=λH1 s Q q =>
 h1 H1 s _ λv H2 s2 q2=>h2 H2 (s.trans s2) _ λw H3 s3 q3=>by
  refine ⟨i,j,q2.intE,q3.intE,p i j,rfl,?_⟩
  cases hp:p i j with
  | true =>
   simp only [if_true,Bool.true_and]
   exact h3 hp H3 (s.trans (s2.trans s3)) _ λz H4 s4 q4=>⟨j,k,q3.intE,q4.intE,q _ _ (s2.trans (s3.trans s4)) (by rw [hp];exact Dat.blI _)⟩
  | false =>
   simp only [Bool.false_eq_true,if_false,Bool.false_and]
   exact q _ _ (s2.trans s3) (by rw [hp];exact Dat.blI _)
theorem yC (h:RT tt σ H b) (h1:b=true->RE K ta σ H d) (h2:b=false->RE K tb σ H d):RE K (tIf tt ta tb) σ H d:=λH1 s Q q =>
 h H1 s _ λH2 s2=>by
  cases b with
  | true=>rw [if_pos rfl];exact h1 rfl H2 (s.trans s2) _ λw H3 s3 q3=>q _ _ (s2.trans s3) q3
  | false=>rw [if_neg Bool.false_ne_true];exact h2 rfl H2 (s.trans s2) _ λw H3 s3 q3=>q _ _ (s2.trans s3) q3
theorem aO (h:RE K t σ H (.bl b)):RT (yI t) σ H b:=λH1 s Q q=>h H1 s _ λv H2 s2 q2=>⟨b,q2.blE,q _ s2⟩
theorem aV (h:RE K t σ H (.bl b)):RT (λσ H Q=>t σ H λx H'=>∃ k,uP K x H' k/\Q k H') σ H b:=λH1 s Q q=>h H1 s _ λv H2 s2 q2=>by
 rw [q2.blE]
 exact ⟨b,rfl,q _ s2⟩
theorem bB (h:RT tt σ H b):RT (Cd tt) σ H (!b):=λH1 s Q q=>h H1 s _ λH2 s2=>q _ s2
theorem cX (h:RT tt σ H b) (h2:b=false->RT uu σ H c):RT (tOr tt uu) σ H (b || c):=λH1 s Q q=>h H1 s _ λH2 s2=>by
 cases b with
 | true=>rw [if_pos rfl];exact q _ s2
 | false=>rw [if_neg Bool.false_ne_true];exact h2 rfl H2 (s.trans s2) _ λH3 s3=>q _ (s2.trans s3)
variable {En:iQ}
theorem aX (h:RE K t σ H d) (q:∀ v H',Same H H'->Dat K H' d v->En.rt v H'):Ce t En σ H:=h.use q
theorem iP {ts us:TS} (h:RT tt σ H b) (h1:b=true->∀ H',Same H H'->ts En σ H') (h2:b=false->∀ H',Same H H'->us En σ H'):Az tt ts us En σ H:=h.use λH' s=>by
 cases b with
 | true=>rw [if_pos rfl];exact h1 rfl H' s
 | false=>rw [if_neg Bool.false_ne_true];exact h2 rfl H' s
end
theorem bF:bootBuiltins "len"=some (.builtin "len"):=by decide +kernel
theorem bI:bootBuiltins "isinstance"=some (.builtin "isinstance"):=by decide +kernel
theorem jw:bootBuiltins "all"=some (.builtin "all"):=by decide +kernel
theorem Bm:bootBuiltins "any"=some (.builtin "any"):=by decide +kernel
theorem Bo:bootBuiltins "sum"=some (.builtin "sum"):=by decide +kernel
theorem wO:bootBuiltins "max"=some (.builtin "max"):=by decide +kernel
theorem wN:bootBuiltins "int"=some (.type "int"):=by decide +kernel
theorem zk:bootBuiltins "bool"=some (.type "bool"):=by decide +kernel
theorem wR:bootBuiltins "str"=some (.type "str"):=by decide +kernel
theorem dt:bootBuiltins "tuple"=some (.type "tuple"):=by decide +kernel
theorem oY:bootBuiltins "list"=some (.type "list"):=by decide +kernel
theorem wQ:bootBuiltins "range"=some (.type "range"):=by decide +kernel
theorem Bn:bootBuiltins "set"=some (.type "set"):=by decide +kernel
theorem oX:bootBuiltins "enumerate"=some (.type "enumerate"):=by decide +kernel
theorem wU:bootBuiltins "zip"=some (.type "zip"):=by decide +kernel
theorem qJ:bootBuiltins "reversed"=some (.type "reversed"):=by decide +kernel
variable {tA:TA} {ds:List D}
theorem mT (h:RA K tA σ H ds) (q:∀ p vs H1,Same H H1->H1 p=none->Dats K H1 ds vs->Q (.ref p) (upd H1 p (.lst vs))) (hl:ds.length≤1000:=by simp):AA tA σ H Q :=
 h.use λvs H1 s1 q1=>⟨by rw [← q1.length];exact bZ hl,λp hp=>q p vs H1 s1 hp q1⟩
theorem ia (go:∀ i H',Same H1 H'->i < n->J.go i H'/\∀ x H'',J.yld i H' x H''->H''=H'/\x=item i) (stop:∀ H',Same H1 H'->J.stop n H')
  (h0:σ0.set j none=σ0) (es:List D) (hn:es.length=n) (hb:n≤1000) (turn:∀ i d,es[i]?=some d->RE K te (σ0.set j (some (item i))) H1 d)
  (fin:∀ l ys H',H1 l=none->Same H1 H'->H' l=some (.lst ys)->Dats K H' es ys->Q (.ref l) H') (l:Addr) (hl:H1 l=none) :
  ∃ W:Nat->Nat->St->Hp->Prop,(∃ m,W 0 m σ0 (upd H1 l (.lst [])))/\∀ i m σ' H',W i m σ' H' ->
   (J.stop i H'/\Q (.ref l) H') \/
   (J.go i H'/\∃ Nx:St->Hp->Prop,(∀ σ'' H'',Nx σ'' H''->∃ m',m' < m/\W (i+1) m' σ'' H'')/\∀ x H'',J.yld i H' x H''->cy j x σ' H'' λσ2 H2=>fW σ2 H2 λb H3 =>
    if b=true then te σ2 H3 λv H4=>∃ ys,H4 l=some (.lst ys)/\ys.length < sizeLine/\Nx σ2 (upd H4 l (.lst (ys++[v]))) else Nx σ2 H3):=by
 refine mh (λH'=>Same H1 H') go stop h0 l (λi H'=>Same H1 H'/\∃ ys,H' l=some (.lst ys)/\Dats K H' (es.take i) ys) ?_ ?_ ?_ ?_
 ·exact ⟨aC hl _,[],aq,by rw [List.take_zero];exact Dats.nil⟩
 ·intro i H' _ p
  exact p.1
 ·intro i H' hi ⟨s1,ys,hy,hd⟩
  have hi':i < es.length:=by omega
  refine ((turn i es[i] (List.getElem?_eq_getElem hi')).mono s1).use λv H4 s4 q4=>?_
  have hy4:=s4 _ _ hy
  have lys:ys.length=i:=by rw [← hd.length,List.length_take];omega
  refine ⟨ys,hy4,ck (by omega),⟨_,rfl⟩,λb o hb=>?_,ys++[v],aq,?_⟩
  ·rw [aJ (aB hb hl)]
   exact s4 _ _ (s1 _ _ hb)
  ·have g:cO K H4 (upd H4 l (.lst (ys++[v]))):=But.grow (t:=l) (But.upd (Same.refl H4).but) hy4 aq
   rw [List.take_add_one,List.getElem?_eq_getElem hi']
   exact Dats.append (Dats.mono g _ (s4.dats hd)) (Dats.cons (Dat.mono g _ q4) Dats.nil)
 ·intro H' ⟨s1,ys,hy,hd⟩
  rw [List.take_of_length_le (by omega)] at hd
  exact fin l ys H' hl s1 hy hd
variable {tt:TT} {En:iQ} {ts us:TS}
theorem aS {K:PySem.W.Frag} {b:Bool} (h:RT tt σ H b) (h1:b=true->∀ H',Same H H'->ts { En with nx:=us En } σ H') (h2:b=false->∀ H',Same H H'->us En σ H'):j8 (Az tt ts uL) us En σ H :=
 iP h h1 h2
variable {d:D}
theorem cQ {t:TE} {k:Nat} (h:RE K t σ H d) (q:∀ v H',Same H H'->Dat K H' d v->us En (σ.set k (some v)) H'):j8 (nE t (cy k)) us En σ H:=h.use q
theorem cU {k:Nat} (h:te σ H λx H1=>us En (σ.set k (some x)) H1):j8 (nE te (cy k)) us En σ H:=h
theorem mU (h:te σ H λ_ H1=>us En σ H1):j8 (mY te) us En σ H:=h
variable {v:V}
theorem oG (h:Q v H):tC v σ H Q:=h
theorem gN (h:te σ H En.rt):Ce te En σ H:=h
theorem cV (h:ts { En with nx:=us En } σ H):j8 ts us En σ H:=h
variable {tl:TE} {mk:St->St}
theorem oC {cs:List D} (h:RE K tl σ H (.tup cs)) (hc:cs.length≤1000) (es:List D) (hl:es.length=cs.length) (h0:(mk σ).set j none=mk σ)
  (turn:∀ H1 (i:Nat) c v d,Same H H1->cs[i]?=some c->es[i]?=some d->Dat K H1 c v->RE K te ((mk σ).set j (some v)) H1 d)
  (fin:∀ l ys H',H l=none->Same H H'->H' l=some (.lst ys)->Dats K H' es ys->Q (.ref l) H'):gW (Bw K tl) mk (cy j) fW te σ H Q:=by
 refine h.use λv4 H4 s4 q4=>?_
 obtain ⟨a,vs,e,hq,hd⟩:=q4.tupE
 subst e
 have l4:=hd.length
 refine ⟨a,rfl,⟨vs,hq⟩,?_⟩
 refine ia (K:=K) (Q:=Q) (n:=vs.length) (item:=λi=>vs.getD i .non) (λi H' s hi=>Bv i H' (s.sqT hq) hi) (λH' s=>⟨vs,s.sqT hq,Nat.le_refl _⟩) h0 es (by omega) (by omega) (λi d hi=>?_) (λl ys H5 hl5 s5=>fin l ys H5 (s4.free hl5) (s4.trans s5))
 have hi':i < es.length:=(List.getElem?_eq_some_iff.mp hi).1
 have hic:i < cs.length:=by omega
 obtain ⟨vz,ez,hz⟩:=hd.get (List.getElem?_eq_getElem hic)
 have q:=turn H4 i cs[i] vz d s4 (List.getElem?_eq_getElem hic) hi hz
 rw [List.getD_eq_getElem?_getD,ez]
 exact q
theorem j0 {Q:St->Hp->Prop} (h:Q (σ.set j (some v)) H):cy j v σ H Q:=h
theorem qg (M:St->Hp->Prop) (hr:∀ σ' H',M σ' H'->us En σ' H') (h:(∀ σ' H',M σ' H'->us En σ' H')->ts { En with nx:=us En } σ H):j8 ts us En σ H:=h hr
theorem fH {base:Heap} {k:Nat} {f:Addr} {ps:List Str} (no:∀ vs H Q E,¬ sp vs H Q E):FnOk P w K mg base CX k f fd ps sp :=
 ⟨λvs H Q E h=>absurd h (no vs H Q E),λA outer s H args us vs Q E _ _ _ _ h=>absurd h (no vs H Q E)⟩
theorem mP (n:Nat) (h:∀ R:List V->Hp->Prop,R [.int n] H->tA σ H R) (hc:n≤1000) (h0:(mk σ).set j none=mk σ) (Pn:Addr->Nat->Hp->Prop)
  (p0:∀ l,H l=none->Pn l 0 (upd H l (.lst [])))
  (turn:∀ l i G,H l=none->i < n->Pn l i G->te ((mk σ).set j (some (.int i))) G λv H4=>∃ ys,H4 l=some (.lst ys)/\ys.length < sizeLine/\(∃ z,(mk σ).set j (some (.int i))=(mk σ).set j z)/\Pn l (i+1) (upd H4 l (.lst (ys++[v]))))
  (fin:∀ l G,H l=none->Pn l n G->Q (.ref l) G):gW (AJ tA) mk (cy j) fW te σ H Q:=by
 refine h _ ⟨n,rfl,by omega,by omega,λl hl=>?_⟩
 rw [Int.toNat_natCast]
 exact mh (λ_=>True) (item:=λi=>.int i) (λi H' _ hi=>Bu i H' hi) (λH' _=>Nat.le_refl _) h0 l (Pn l) (p0 l hl) (λ_ _ _ _=>trivial) (λi G hi p=>turn l i G hl hi p) (λG p=>fin l G hl p)
theorem gL {ta:TE} {r:List V->Hp->VK->Prop} (h:ta σ H λx H1=>r [x] H1 Q):tCB r (bP ta d8) σ H Q:=h
theorem lL {G:Hp} {es:List D} (h:RA K tA σ G es) (hl:G l=some (.lst xs)) (hx:xs.length≤900)
  (q:∀ ys G',But l G G'->G' l=some (.lst (xs++ys))->Dats K G' es ys->us En σ G') (hv:σ[j]?=some (some (.ref l)):=by rfl) (he:es.length≤100:=by simp):j8 (mY (tBM K "list" pX (iS j) (bP (AA tA) d8))) us En σ G:=by
 refine ⟨_,hv,.inl ⟨rfl,_,SqL.of hl⟩,?_⟩
 refine mT h (λp vs H1 s1 hp q1=>?_) (by omega)
 have hlp:l≠p:=aB (s1 _ _ hl) hp
 have hl1:upd H1 p (.lst vs) l=some (.lst xs):=by rw [aJ hlp];exact s1 _ _ hl
 have lv:=q1.length
 refine ⟨l,p,xs,vs,rfl,rfl,hl1,aq,bZ (by omega),?_⟩
 have b:But l (upd H1 p (.lst vs)) (upd (upd H1 p (.lst vs)) l (.lst (xs++vs))):=But.upd (Same.refl _).but
 have g:cO K (upd H1 p (.lst vs)) (upd (upd H1 p (.lst vs)) l (.lst (xs++vs))):=b.grow hl1 aq
 exact q vs _ ((s1.trans (aC hp _)).but.trans b) aq (Dats.mono g _ ((aC hp _).dats q1))
theorem j4 {i:Nat} {e:D} (h:RE K te σ H (.tup [d,e])) (q:∀ v w H',Same H H'->Dat K H' d v->Dat K H' e w->us En ((σ.set i (some v)).set j (some w)) H') :
  j8 (nE te (vj K 2 (jr (cy i) (jr (cy j) xx)))) us En σ H :=
 h.use λx H1 s1 q1=>by
  obtain ⟨a,vs,e1,hq,hd⟩:=q1.tupE
  obtain ⟨v,w,e2,hv,hw⟩:=fu hd
  subst e1 e2
  exact ⟨a,_,rfl,hq,rfl,v,_,rfl,w,_,rfl,rfl,q v w H1 s1 hv hw⟩
def AM:Expr->Bool
 | .Starred ..=>false
 | _=>true
variable {e:Expr} {es:List Expr}
theorem vX (h:AM e=true):starEach (e::es) env=(false,eval e env)::starEach es env:=by
 cases e <;> first | rfl | cases h
variable {t:TA}
theorem ag (ha:PE X e te) (hr:PA X es t) (h:AM e=true:=by rfl):PA X (e::es) (bP te t):=bO ha hr (vX h)
theorem m7 {bs:List Bool} {us:List Value}:Vals (bs.map V.bl) us->us=bs.map Value.bool:=by
 intro h
 induction bs generalizing us with
 | nil=>cases h;rfl
 | cons b bs ih =>
  cases h with
  | cons r t=>cases r;rw [ih t];rfl
theorem yw (bs:List Bool) (d:Bool):(List.range bs.length).map (λi=>(bs[i]?).getD d)=bs:=by
 apply List.ext_getElem
 ·simp
 ·intro i h1 h2
  simp at h1
  simp [h1]
section
variable {X:Cx}
theorem gw (hc:X.calm=true):gF X (.builtin "all") (λxs H Q=>∃ (l:Addr) (bs:List Bool),xs=[.ref l]/\SqL X.K H l (bs.map V.bl)/\Q (.bl (bs.all id)) H):=by
 intro pins s σ H xs us Q I r h
 obtain ⟨l,bs,rfl,hq,q⟩:=h
 obtain ⟨u,rfl,ru⟩:=fX r
 cases ru
 obtain ⟨its,rv,p,hz⟩:=I.list hq
 have ei:=m7 rv
 have hl:=p.isList
 have hlt:l < s.heap.objs.size:=by obtain ⟨_,e,_⟩:=hl;exact Heap.lt_size e
 refine call_all_walk (wpAny_pyIter_list hl ?_)
 refine ⟨s.heap.objs.size,[s.heap.objs.size,l],[s.heap.objs.size],its.toArray.size,_,_,λi=>(bs[i]?).getD true,rfl,Walks.list (A:=X.A.in1) (I.ok.hd hc) _ l (Nat.ne_of_lt hlt) its.toArray,
  ⟨⟨_,Heap.get?_push_size _ rfl,rfl,rfl⟩,hl.push _⟩,λi v s' Q' E' hP hQ=>?_,λh' tk hk=>?_⟩
 ·subst ei
  have hP':(bs.map Value.bool)[i]?=some v:=by simpa using hP
  rw [List.getElem?_map] at hP'
  cases hb:bs[i]? with
  | none=>rw [hb] at hP';cases hP'
  | some b =>
   rw [hb] at hP'
   cases hP'
   simp only [hb,Option.getD_some] at hQ
   exact wpAny_truthy_bool hQ
 ·have e:((List.range its.toArray.size).all λi=>(bs[i]?).getD true)=bs.all id:=by
   subst ei
   rw [List.size_toArray,List.length_map]
   conv=>rhs;rw [← yw bs true]
   rw [List.all_map]
   rfl
  rw [e]
  exact ⟨.bl _,H,I.kept (t':=tk) λb x e=>hk b x (λhm=>by rw [List.mem_singleton.mp hm] at e;exact Nat.lt_irrefl _ (Heap.lt_size e)) (Heap.get?_push_of_some _ e),rfl,q⟩
theorem wY (hc:X.calm=true):gF X (.builtin "any") (λxs H Q=>∃ (l:Addr) (bs:List Bool),xs=[.ref l]/\SqL X.K H l (bs.map V.bl)/\Q (.bl (bs.any id)) H):=by
 intro pins s σ H xs us Q I r h
 obtain ⟨l,bs,rfl,hq,q⟩:=h
 obtain ⟨u,rfl,ru⟩:=fX r
 cases ru
 obtain ⟨its,rv,p,hz⟩:=I.list hq
 have ei:=m7 rv
 have hl:=p.isList
 have hlt:l < s.heap.objs.size:=by obtain ⟨_,e,_⟩:=hl;exact Heap.lt_size e
 refine call_any_walk (wpAny_pyIter_list hl ?_)
 refine ⟨s.heap.objs.size,[s.heap.objs.size,l],[s.heap.objs.size],its.toArray.size,_,_,λi=>(bs[i]?).getD false,rfl,Walks.list (A:=X.A.in1) (I.ok.hd hc) _ l (Nat.ne_of_lt hlt) its.toArray,
  ⟨⟨_,Heap.get?_push_size _ rfl,rfl,rfl⟩,hl.push _⟩,λi v s' Q' E' hP hQ=>?_,λh' tk hk=>?_⟩
 ·subst ei
  have hP':(bs.map Value.bool)[i]?=some v:=by simpa using hP
  rw [List.getElem?_map] at hP'
  cases hb:bs[i]? with
  | none=>rw [hb] at hP';cases hP'
  | some b =>
   rw [hb] at hP'
   cases hP'
   simp only [hb,Option.getD_some] at hQ
   exact wpAny_truthy_bool hQ
 ·have e:((List.range its.toArray.size).any λi=>(bs[i]?).getD false)=bs.any id:=by
   subst ei
   rw [List.size_toArray,List.length_map]
   conv=>rhs;rw [← yw bs false]
   rw [List.any_map]
   rfl
  rw [e]
  exact ⟨.bl _,H,I.kept (t':=tk) λb x e=>hk b x (λhm=>by rw [List.mem_singleton.mp hm] at e;exact Nat.lt_irrefl _ (Heap.lt_size e)) (Heap.get?_push_of_some _ e),rfl,q⟩
end
section
variable {P:Program} {w:World} {K:PySem.W.Frag} {mg:Str->Option Value} {base:Heap}
end
section
variable {K:PySem.W.Frag} {σ:St} {H H':Hp} {d d':D} {ds:List D} {t u ta tb:TE} {tt uu:TT} {tA:TA} {i j:Int} {b c:Bool}
theorem tH (h1:RE K ta σ H (.int i)) (h2:RE K tb σ H (.int j)) (hj:0 < j):RE K (tOp (rI (λ_ j=>0 < j) λi j=>.int (i % j)) ta tb) σ H (.int (i % j)):=yE h1 h2 hj λ_=>Dat.intI _
theorem p4 (h1:RE K ta σ H (.int i)) (h2:RE K tb σ H (.int j)) (hc:A5 i j):RE K (tOp (rI A5 λi j=>.int (i / j)) ta tb) σ H (.int (i / j)):=yE h1 h2 hc λ_=>Dat.intI _
theorem xg:∀ {bs:List Bool} {vs:List V},Dats K H (bs.map D.bl) vs->vs=bs.map V.bl
 | [],vs,h=>by rw [Dats.nilE h];rfl
 | b::bs,vs,h=>by
  obtain ⟨v,r,e,h1,h2⟩:=h.consE
  rw [e,h1.blE,xg h2]
  rfl
theorem t9:∀ {xs:List Str} {vs:List V},Dats K H (xs.map D.str) vs->vs=xs.map V.str
 | [],vs,h=>by rw [Dats.nilE h];rfl
 | x::xs,vs,h=>by
  obtain ⟨v,r,e,h1,h2⟩:=h.consE
  rw [e,h1.strE,t9 h2]
  rfl
theorem zt (x y:Str):eqV (.str x) (.str y)=decide (x=y):=by
 unfold eqV
 by_cases h:x=y <;> simp [h]
theorem ph (x:Str):∀ ys:List Str,inV (.str x) (ys.map V.str)=decide (x ∈ ys)
 | []=>by simp [inV]
 | y::ys=>by
  have ih:=ph x ys
  unfold inV at ih ⊢
  rw [List.map_cons,List.any_cons,ih,zt]
  by_cases h:y=x
  ·subst h;simp
  ·have h':¬ x=y:=λz=>h z.symm
   simp [h,h']
theorem nW (ys:List Str):(ys.map V.str).all jQ=true:=by
 rw [List.all_eq_true]
 intro v hv
 obtain ⟨y,_,rfl⟩:=List.mem_map.mp hv
 rfl
variable {x:Str} {ys:List Str}
theorem B5 (h1:RE K ta σ H (.str x)) (h2:RE K tb σ H (.tup (ys.map D.str))):RE K (tOp (rIn K false) ta tb) σ H (.bl (decide (x ∈ ys))):=λH1 s Q q =>
 h1 H1 s _ λv H2 s2 q2=>h2 H2 (s.trans s2) _ λw H3 s3 q3=>by
  obtain ⟨a,vs,ev,hq,hd⟩:=q3.tupE
  have e:=t9 hd
  subst e
  rw [q2.strE]
  refine ⟨a,_,ev,.inr hq,rfl,nW ys,?_⟩
  rw [ph]
  exact q _ _ (s2.trans s3) (Dat.blI _)
theorem vQ (h1:RE K ta σ H (.str x)) (h2:RE K tb σ H (.tup (ys.map D.str))):RE K (tOp (rIn K true) ta tb) σ H (.bl (!decide (x ∈ ys))):=λH1 s Q q =>
 h1 H1 s _ λv H2 s2 q2=>h2 H2 (s.trans s2) _ λw H3 s3 q3=>by
  obtain ⟨a,vs,ev,hq,hd⟩:=q3.tupE
  have e:=t9 hd
  subst e
  rw [q2.strE]
  refine ⟨a,_,ev,.inr hq,rfl,nW ys,?_⟩
  rw [ph]
  exact q _ _ (s2.trans s3) (Dat.blI _)
theorem tI {y:Str} (h1:RE K ta σ H (.str x)) (h2:RE K tb σ H (.str y)):RE K (tOp rNe ta tb) σ H (.bl (!decide (x=y))):=λH1 s Q q =>
 h1 H1 s _ λv H2 s2 q2=>h2 H2 (s.trans s2) _ λw H3 s3 q3=>by
  rw [q2.strE,q3.strE]
  refine ⟨rfl,?_⟩
  have e:decide (V.str x=V.str y)=decide (x=y):=by by_cases z:x=y <;> simp [z]
  rw [e]
  exact q _ _ (s2.trans s3) (Dat.blI _)
end
section
variable {X:Cx}
theorem uB {body:List Stmt} {t:TS} {h:ExceptHandler} {hs:List ExceptHandler} {pos:Pos} (hb:PSs X body t) (hx:X.xe=(λ_ _=>False):=by rfl):PS X (.Try body (h::hs) [] [] pos) t:=by
 intro pins s σ H D I q
 have w:=hb pins s σ H D I q
 rw [hx] at w
 refine wpAny_Try_except (wpAny_mono w (λf s1 hf=>?_) λe s1 z=>z.elim)
 cases f with
 | next =>
  obtain ⟨σ',H',I',q'⟩:=hf
  exact aP pins s1 σ' H' D I' q'
 | ret u=>exact hf
 | brk=>exact hf
 | cont=>exact hf
theorem yb:OpR X (compareOp .LtE) (λx y H Q=>∃ i j:Str,x=.str i/\y=.str j/\Q (.bl (!decide (j.cps.toList < i.cps.toList))) H):=by
 intro pins s σ H x y v u Q I rx ry h
 obtain ⟨i,j,rfl,rfl,q⟩:=h
 obtain ⟨t,rfl⟩:=rx
 obtain ⟨t',rfl⟩:=ry
 refine PySem.P.le_str ?_
 exact ⟨.bl _,H,I,rfl,q⟩
def Its (x:Str):It:=⟨λi _=>i < x.cps.size,λi H v H'=>H'=H/\∃ c,x.cps[i]?=some c/\v=.str ⟨#[c]⟩,λi _=>i=x.cps.size⟩
theorem oM {P:Program} {w:World} {K:PySem.W.Frag} {tg:Expr} {it:Addr} {n:String} {x:Str} {t:Tok} (hn:["enumerate","zip","dict_itemiterator","dict_reverseitemiterator","odict_iterator","itertools.zip_longest","itertools.pairwise"].contains n=false)
  (W:∀ A:Around,A.handled=none->Walks P w A it [it] [it] x.cps.size (SignAt x) (λi h=>h.IsStrIter it n x t i))
  (self:∀ (A:Around) (i:Nat) (s:Shared) (Q:Value->Shared->Prop) (E:Value->Shared->Prop),s.heap.IsStrIter it n x t i->Q (.ref it) s->wpAny (model P w) A (pyIter (.ref it)) Q E s) :
  kW P w K tg (Its x) [it] it (λi h=>h.IsStrIter it n x t i) where
 mem:=by simp
 obj:=λi h st b hb=>by
  have e:b=it:=by simpa using hb
  subst e
  obtain ⟨o,e,c,d⟩:=st
  exact ⟨o,e,λv z=>by rw [d] at z;cases z⟩
 keep:=λi h h' st k=>by
  obtain ⟨o,e,r⟩:=st
  exact ⟨o,k it (by simp) o e,r⟩
 item:=by
  intro X hP hw hK hc i pins s σ H E I hf st hg
  subst hP hw hK
  obtain ⟨f0,f1,f2,f3,f4,f5⟩:=hf it (by simp)
  refine (W X.A (I.ok.hd hc)).item i s _ _ hg st λv h' tk hv st' kk=>?_
  obtain ⟨c,u,hx,rfl⟩:=hv
  have I1:Inv X pins σ H { s with heap:=h',toks:=tk }:=I.turned (λb o hb e=>kk b o (by simpa using hb) e) f0 f1 f3 f4 f5
  obtain ⟨o,e,cc,d⟩:=id st'
  exact ⟨_,rfl,qW (s:={ s with heap:=h',toks:=tk }) e cc d hn ⟨.str ⟨#[c]⟩,H,I1,⟨u,rfl⟩,⟨rfl,c,hx,rfl⟩,st',λb hb=>(hf b hb).1⟩⟩
 done:=by
  intro X hP hw hK hc i pins s σ H E I hf st hg
  subst hP hw hK
  obtain ⟨f0,f1,f2,f3,f4,f5⟩:=hf it (by simp)
  have hg':i=x.cps.size:=hg
  subst hg'
  exact (W X.A (I.ok.hd hc)).done s _ _ st λh' tk eb=>⟨rfl,I.turned (λb o hb e=>eb b o (by simpa using hb) e) f0 f1 f3 f4 f5⟩
 self:=self
variable {tg:Expr}
def CF (tl:TE):TI:=λσ H R=>tl σ H λv H1=>∃ x,v=.str x/\R (Its x) H1
theorem BV {l:Expr} {tl:TE} (hl:PE X l tl):PI X tg l (CF tl):=by
 intro pins s σ H R I h
 refine thn (hl pins s σ H _ I h) λv s1 ⟨xv,H1,I1,r1,q1⟩=>?_
 obtain ⟨x,e,q⟩:=q1
 subst e
 obtain ⟨t,rfl⟩:=r1
 have fin:∀ (o:Obj) (n:String),kW X.prog X.w X.K tg (Its x) [s1.heap.objs.size] s1.heap.objs.size (λi h=>h.IsStrIter s1.heap.objs.size n x t i)->(s1.heap.push o).IsStrIter s1.heap.objs.size n x t 0->PIE X pins σ tg R (.ref s1.heap.objs.size) { s1 with heap:=s1.heap.push o }:=by
  intro o n T st
  refine ⟨s1.heap.objs.size,[s1.heap.objs.size],_,_,H1,rfl,I1.kept (t':=s1.toks) λb o e=>Heap.get?_push_of_some _ e,T,st,λb hb=>?_,q⟩
  have e:b=s1.heap.objs.size:=by simpa using hb
  subst e
  exact I1.fpOk (Nat.le_refl _) (I1.hok.fresh (Nat.le_refl _))
 cases ha:x.cps.all (· < 128)
 ·exact wpAny_pyIter_wide ha (fin _ "str_iterator" (oM (by decide) (λA hA=>Walks.strWide hA _ x t) λA i s Q E st q=>wpAny_pyIter_striter_wide st q) ⟨_,Heap.get?_push_size _ rfl,rfl,rfl⟩)
 ·exact wpAny_pyIter_ascii ha (fin _ "str_ascii_iterator" (oM (by decide) (λA hA=>Walks.strAscii hA _ x t) λA i s Q E st q=>wpAny_pyIter_striter_ascii st q) ⟨_,Heap.get?_push_size _ rfl,rfl,rfl⟩)
theorem rL:OpR X (compareOp .NotIn) (λx y H Q=>∃ k a T,x=.str k/\y=.ref a/\jn X.K a T/\Q (.bl (!KTD.inKeys k T)) H):=by
 intro pins s σ H x y v u Q I rx ry h
 obtain ⟨k,a,T,ex,ey,t,q⟩:=h
 subst ex ey
 obtain ⟨tk,rfl⟩:=rx
 cases ry
 exact KTD.notin_text (h₀:=s.heap) ⟨t _ I.kIn,λ_ _ e=>e⟩ ⟨.bl _,H,I.tok _,rfl,q⟩
def uC (K:PySem.W.Frag):R2:=λx y H Q=>∃ a k T z,x=.ref a/\y=.str k/\jn K a T/\(T.all λp=>KTD.plain p.2)=true/\KTD.datumAt k T=some (.flat (.str z))/\Q (.str z) H
theorem zJ:IxR X (uC X.K):=by
 intro value slice pins s σ H x y v u Q I rx ry h hs
 obtain ⟨a,k,T,z,ex,ey,t,hp,hd,q⟩:=h
 subst ex ey
 obtain ⟨tk,rfl⟩:=ry
 cases rx
 have hm:KTD.inKeys k T=true:=by rw [← KTD.isSome_datumAt,hd];rfl
 refine KTD.item_textA (h₀:=s.heap) ⟨t _ I.kIn,λ_ _ e=>e⟩ hp hm ?_ hs
 exact each T hd λt'=>⟨.str z,H,I.tok _,⟨t',rfl⟩,q⟩
where
 each {h:Heap} {k:Str} {P:Value->Prop} {z:Str}:∀ (T:List (Str × KTD.Dat)),KTD.datumAt k T=some (.flat (.str z))->(∀ t,P (.str z t))->KTD.EachL h k P T
  | [],hd,_=>by simp [KTD.datumAt] at hd
  | (x,d)::T,hd,hP=>by
   have hd':(if decide (k=x)=true then some d else KTD.datumAt k T)=some (.flat (.str z)):=hd
   by_cases hx:k=x
   ·rw [if_pos (decide_eq_true hx)] at hd'
    cases hd'
    exact KTD.eachL_hit hx (KTD.opened_str hP)
   ·rw [if_neg (by simp [hx])] at hd'
    exact KTD.eachL_miss hx (each T hd' hP)
def uM (K:PySem.W.Frag) (td ty tx:TE):TE:=λσ H Q=>td σ H λx H1=>∃ a T,x=.ref a/\jn K a T/\ty σ H1 λy H2=>tx σ H2 λz H3=>∃ k i,y=.str k/\z=.int i/\(∀ p ∈ T,∃ j,p.2=.flat (.int j)) /\
 Q (.int (match KTD.datumAt k T with | some (.flat (.int j))=>j | _=>i)) H3
theorem vK {o e f:Expr} {apos cpos:Pos} {td ty tx:TE} (ho:PE X o td) (he:PE X e ty) (hf:PE X f tx) (m:M2 X o "get" apos e f cpos):PE X (.Call (.Attribute o "get" apos) [e,f] [] cpos) (uM X.K td ty tx):=by
 intro pins s σ H Q I h
 refine wpAny_Call_method m.base m.few m.line PySem.F.plainAttrs_dict PySem.F.slot_dict_get PySem.F.type_dict_get (thn (ho pins s σ H _ I h) λu s1 ⟨x,H1,I1,rx,a,T,ex,tk,q1⟩=>?_)
 subst ex
 obtain rfl:u=Value.ref a:=rx
 have t1:=tk _ I1.kIn
 obtain ⟨lo,ob,es,ep,hob,hex,hdat,hrows⟩:=id t1
 refine ⟨⟨ob,hob,hex.1⟩,λb eb=>?_,?_⟩
 ·cases eb
  exact ⟨ob,hob,hex.2.1⟩
 rw [m.trees]
 refine Calls.callWith_builtin rfl (Calls.evalArgs_plain (Calls.spliced_cons (thn (he pins s1 σ H1 _ I1 q1) λiv s2 ⟨y,H2,I2,ry,q2⟩ =>
  Calls.spliced_cons (thn (hf pins s2 σ H2 _ I2 q2) λfv s3 ⟨z,H3,I3,rz,k,i,ey,ez,hT,q3⟩=>Calls.spliced_nil ?_))))
 subst ey ez
 obtain ⟨tok1,rfl⟩:=ry
 obtain ⟨tok2,rfl⟩:=rz
 refine KTD.get2_text (h₀:=s3.heap) ⟨tk _ I3.kIn,λ_ _ e=>e⟩ ?_
 have fin:∀ (D:List (Str × KTD.Dat)),(∀ p ∈ D,∃ j,p.2=.flat (.int j))->Q (.int (match KTD.datumAt k D with | some (.flat (.int j))=>j | _=>i)) H3 ->
   KTD.Each s3.heap k (λv=>EP X pins σ Q v { s3 with toks:=s3.toks+1 }) (EP X pins σ Q (.int i tok2) { s3 with toks:=s3.toks+1 }) D:=by
  intro D
  induction D with
  | nil=>intro _ q;exact KTD.each_nil ⟨.int i,H3,I3.tok _,⟨_,rfl⟩,q⟩
  | cons p D ih =>
   intro hD q
   obtain ⟨x,d⟩:=p
   obtain ⟨j,ej⟩:=hD (x,d) List.mem_cons_self
   have ej':d=.flat (.int j):=ej
   subst ej'
   have ed:KTD.datumAt k ((x,KTD.Dat.flat (.int j))::D)=if decide (k=x)=true then some (.flat (.int j)) else KTD.datumAt k D:=rfl
   rw [ed] at q
   by_cases hx:k=x
   ·rw [if_pos (decide_eq_true hx)] at q
    exact KTD.each_hit hx (KTD.opened_int λt=>⟨.int j,H3,I3.tok _,⟨t,rfl⟩,q⟩)
   ·rw [if_neg (by simp [hx])] at q
    exact KTD.each_miss hx (ih (λp hp=>hD p (List.mem_cons_of_mem _ hp)) q)
 exact fin T hT q3
end
structure wt (P:Program) (w:World) (K:PySem.W.Frag) (a:Addr) (ks:List Str):Prop where
 lk:∃ o,K.lookup a=some o
 tb:∀ h:Heap,K.In h->∃ D,StrTab P w h a D/\D.map (·.1)=ks.map PyData.str
def Itk (ks:List Str):It:=⟨λi _=>i < ks.length,λi H v H'=>H'=H/\∃ k,ks[i]?=some k/\v=.str k,λi _=>i=ks.length⟩
variable {kvs:List (Str × Value)}
theorem vi {D:List (PyData × PyData)} {ks:List Str} (h:PyProof.V.FlatPairs PyData.str kvs D) (e:D.map (·.1)=ks.map PyData.str):kvs.map (·.1)=ks:=by
 induction h generalizing ks with
 | nil =>
  cases ks with
  | nil=>rfl
  | cons k ks=>simp at e
 | cons _ _ ih =>
  cases ks with
  | nil=>simp at e
  | cons k ks =>
   simp only [List.map_cons,List.cons.injEq] at e
   obtain ⟨e1,e2⟩:=e
   injection e1 with e1
   rw [List.map_cons,ih e2,← e1]
variable {it:Addr}
theorem yN {tg:Expr} {d:Addr} {ep:Nat} (hD:∀ h:Heap,K.In h->h.DictAt (strKind P w) d kvs ep) :
  kW P w K tg (Itk (kvs.map (·.1))) [it] it (λi h=>h.IsKeyIter it d i kvs.length ep) where
 mem:=by simp
 obj:=λi h st b hb=>by
  have e:b=it:=by simpa using hb
  subst e
  obtain ⟨o,e,c,d⟩:=st
  exact ⟨o,e,λv z=>by rw [d] at z;cases z⟩
 keep:=λi h h' st k=>by
  obtain ⟨o,e,r⟩:=st
  exact ⟨o,k it (by simp) o e,r⟩
 item:=by
  intro X hP hw hK hc i pins s σ H E I hf st hg
  subst hP hw hK
  obtain ⟨f0,f1,f2,f3,f4,f5⟩:=hf it (by simp)
  have hi:i < kvs.length:=by have z:i < (kvs.map (·.1)).length:=hg;simpa using z
  refine wpAny_pyNext_dict_item st (hD _ I.kIn) (List.getElem?_eq_getElem hi) λkey h' hk st' sb=>?_
  obtain ⟨t,rfl⟩:=Value.isStrOf_shape hk
  have I1:Inv X pins σ H { s with heap:=h' }:=I.turned (t':=s.toks) (λb o hb e=>(sb.2 b hb).trans e) f0 f1 f3 f4 f5
  refine ⟨_,rfl,PyProof.Rows.letGo_keyiter (s':={ s with heap:=h' }) st' ⟨.str (kvs[i]).1,H,I1,⟨t,rfl⟩,⟨rfl,(kvs[i]).1,?_,rfl⟩,st',λb hb=>(hf b hb).1⟩⟩
  rw [List.getElem?_map,List.getElem?_eq_getElem hi]
  rfl
 done:=by
  intro X hP hw hK hc i pins s σ H E I hf st hg
  subst hP hw hK
  obtain ⟨f0,f1,f2,f3,f4,f5⟩:=hf it (by simp)
  have hi:i=kvs.length:=by have z:i=(kvs.map (·.1)).length:=hg;simpa using z
  exact wpAny_pyNext_dict_end (I.ok.hd hc) st (hD _ I.kIn) (by simp [hi]) λh' eb=>⟨rfl,I.turned (t':=s.toks) (λb o hb e=>eb b o hb e) f0 f1 f3 f4 f5⟩
 self:=λA i s Q E st q=>wpAny_pyIter_keyiter st q
section
variable {X:Cx} {tg:Expr}
def CG (P:Program) (w:World) (K:PySem.W.Frag) (tl:TE):TI:=λσ H R=>tl σ H λv H1=>∃ a ks,v=.ref a/\wt P w K a ks/\R (Itk ks) H1
theorem BW {l:Expr} {tl:TE} (hl:PE X l tl):PI X tg l (CG X.prog X.w X.K tl):=by
 intro pins s σ H R I h
 refine thn (hl pins s σ H _ I h) λv s1 ⟨xv,H1,I1,r1,q1⟩=>?_
 obtain ⟨a,ks,e,hK,q⟩:=q1
 subst e
 cases r1
 obtain ⟨D,T,hD⟩:=hK.tb _ I1.kIn
 obtain ⟨o,ho⟩:=hK.lk
 obtain ⟨lo,kvs,hdo,hf⟩:=T
 obtain ⟨ep,hat⟩:=hdo.dictAt
 have ek:=vi hf hD
 subst ek
 have hall:∀ h:Heap,X.K.In h->h.DictAt (strKind X.prog X.w) a kvs ep:=λh x=>by
  obtain ⟨o',es,e1,r⟩:=hat
  have z:=I1.kIn _ _ ho
  rw [e1] at z
  cases z
  exact ⟨_,es,x _ _ ho,r⟩
 refine wpAny_pyIter_dict lo hat ?_
 refine ⟨s1.heap.objs.size,[s1.heap.objs.size],_,_,H1,rfl,I1.kept (t':=s1.toks) λb o e=>Heap.get?_push_of_some _ e,yN hall,⟨_,Heap.get?_push_size _ rfl,rfl,rfl⟩,λb hb=>?_,q⟩
 have e:b=s1.heap.objs.size:=by simpa using hb
 subst e
 exact I1.fpOk (Nat.le_refl _) (I1.hok.fresh (Nat.le_refl _))
end
def RC (K:PySem.W.Frag) (t:TE) (σ:St) (H:Hp) (es:List D):Prop:=∀ H1,Same H H1->∀ Q:VK,(∀ l ys H',H1 l=none->Same H1 H'->H' l=some (.lst ys)->Dats K H' es ys->Q (.ref l) H')->t σ H1 Q
section
variable {K:PySem.W.Frag} {σ:St} {H H':Hp} {d d':D} {ds es:List D} {t u ta tb te tl:TE} {tt uu:TT} {tA:TA} {i j:Int} {b c:Bool} {mk:St->St} {jj:Nat}
theorem RC.mono (h:RC K t σ H es) (e:Same H H'):RC K t σ H' es:=λH1 s Q q=>h H1 (e.trans s) Q q
theorem RC.as (h:RC K t σ H es) (e:es=ds):RC K t σ H ds:=e ▸ h
theorem RC.use {Q:VK} (h:RC K t σ H es) (q:∀ l ys H',H l=none->Same H H'->H' l=some (.lst ys)->Dats K H' es ys->Q (.ref l) H'):t σ H Q:=h H (Same.refl H) Q q
theorem dW (h:RA K tA σ H es) (hl:es.length≤1000:=by simp):RC K (AA tA) σ H es:=λH1 s Q q =>
 mT (h.mono s) (λp vs H2 s2 hp hd=>q p vs _ (s2.free hp) (s2.trans (aC hp _)) aq ((aC hp _).dats hd)) hl
variable {cs:List D}
theorem mO (h:RE K tl σ H (.tup cs)) (hc:cs.length≤1000) (es:List D) (hl:es.length=cs.length) (h0:(mk σ).set jj none=mk σ)
  (turn:∀ H1 (i:Nat) c v d,Same H H1->cs[i]?=some c->es[i]?=some d->Dat K H1 c v->RE K te ((mk σ).set jj (some v)) H1 d):RC K (gW (Bw K tl) mk (cy jj) fW te) σ H es:=λH1 s Q q =>
 oC (K:=K) (h.mono s) hc es hl h0 (λH2 i c v d s2=>turn H2 i c v d (s.trans s2)) (λl ys H2 hl s2 hy hd=>q l ys H2 hl s2 hy hd)
variable {x:Str}
theorem B2 (h:RE K tl σ H (.str x)) (hc:x.cps.size≤1000) (es:List D) (hl:es.length=x.cps.size) (h0:(mk σ).set jj none=mk σ)
  (turn:∀ H1 (i:Nat) c d,Same H H1->x.cps[i]?=some c->es[i]?=some d->RE K te ((mk σ).set jj (some (.str ⟨#[c]⟩))) H1 d):RC K (gW (CF tl) mk (cy jj) fW te) σ H es:=λH1 s Q q=>by
 refine (h.mono s).use λv4 H4 s4 q4=>?_
 have e:=q4.strE
 subst e
 refine ⟨x,rfl,?_⟩
 refine ia (K:=K) (Q:=Q) (n:=x.cps.size) (item:=λi=>.str ⟨#[x.cps.getD i 0]⟩) (λi H' s hi=>⟨hi,λv H'' y=>⟨y.1,?_⟩⟩) (λH' s=>rfl) h0 es hl hc (λi d hi=>?_) (λl ys H5 hl5 s5=>q l ys H5 (s4.free hl5) (s4.trans s5))
 ·obtain ⟨_,c,hc,e⟩:=y
  rw [e,Array.getD_eq_getD_getElem?,hc]
  rfl
 ·have hi':i < es.length:=(List.getElem?_eq_some_iff.mp hi).1
  have hc:x.cps[i]?=some (x.cps.getD i 0):=by
   rw [Array.getD_eq_getD_getElem?,Array.getElem?_eq_getElem (by omega)]
   rfl
  exact turn H4 i _ d (s.trans s4) hc hi
variable {a:Addr}
theorem B3 {P:Program} {w:World} {ks:List Str} (hK:wt P w K a ks) (hc:ks.length≤1000) (es:List D) (hl:es.length=ks.length) (h0:(mk σ).set jj none=mk σ)
  (turn:∀ H1 (i:Nat) k d,Same H H1->ks[i]?=some k->es[i]?=some d->RE K te ((mk σ).set jj (some (.str k))) H1 d):RC K (gW (CG P w K (tC (.ref a))) mk (cy jj) fW te) σ H es:=λH1 s Q q=>by
 refine ⟨a,ks,rfl,hK,?_⟩
 refine ia (K:=K) (Q:=Q) (n:=ks.length) (item:=λi=>.str (ks.getD i "")) (λi H' s hi=>⟨hi,λv H'' y=>⟨y.1,?_⟩⟩) (λH' s=>rfl) h0 es hl hc (λi d hi=>?_) q
 ·obtain ⟨_,k,hk,e⟩:=y
  rw [e,List.getD_eq_getElem?_getD,hk]
  rfl
 ·have hi':i < es.length:=(List.getElem?_eq_some_iff.mp hi).1
  have hk:ks[i]?=some (ks.getD i ""):=by
   rw [List.getD_eq_getElem?_getD,List.getElem?_eq_getElem (by omega)]
   rfl
  exact turn H1 i _ d s hk hi
theorem Ah (h:RC K tl σ H cs) (hc:cs.length≤1000) (es:List D) (hl:es.length=cs.length) (h0:(mk σ).set jj none=mk σ)
  (turn:∀ H1 (i:Nat) c v d,Same H H1->cs[i]?=some c->es[i]?=some d->Dat K H1 c v->RE K te ((mk σ).set jj (some v)) H1 d):RC K (gW (oi K tl) mk (cy jj) fW te) σ H es:=λH1 s Q q=>by
 refine (h.mono s).use λl4 ys4 H4 hl4 s4 hy4 hd4=>?_
 have ll:=hd4.length
 refine ⟨l4,rfl,⟨ys4,SqL.of hy4⟩,?_⟩
 refine ia (K:=K) (Q:=Q) (n:=ys4.length) (item:=λi=>ys4.getD i .non) (λi H' s hi=>pd i H' (SqL.of (s _ _ hy4)) hi) (λH' s=>⟨ys4,SqL.of (s _ _ hy4),Nat.le_refl _⟩) h0 es (by omega) (by omega) (λi d hi=>?_) (λl ys H5 hl5 s5=>q l ys H5 (s4.free hl5) (s4.trans s5))
 have hi':i < es.length:=(List.getElem?_eq_some_iff.mp hi).1
 have hic:i < cs.length:=by omega
 obtain ⟨vz,ez,hz⟩:=hd4.get (List.getElem?_eq_getElem hic)
 have q:=turn H4 i cs[i] vz d (s.trans s4) (List.getElem?_eq_getElem hic) hi hz
 rw [List.getD_eq_getElem?_getD,ez]
 exact q
theorem gM {R:List D->List D->Prop} {E:XK} (h:RA K tA σ H ds) (e:R ds es):RC K (mX (gE K R) [] E tA) σ H es:=λH1 s Q q =>
 h H1 s _ λvs H2 s2 q2=>⟨ds,es,by rw [List.append_nil];exact q2,e,λr us H3 s3 hr hr0 hd=>q r us H3 (s2.free hr0) (s2.trans s3) hr hd⟩
theorem iF {bs:List Bool} (h:RC K t σ H (bs.map D.bl)):RE K (tCB (λxs H Q=>∃ (l:Addr) (bs:List Bool),xs=[.ref l]/\SqL K H l (bs.map V.bl)/\Q (.bl (bs.all id)) H) (bP t d8)) σ H (.bl (bs.all id)):=λH1 s Q q =>
 gL ((h.mono s).use λl ys H' _ s' hy hd=>⟨l,bs,rfl,by rw [← xg hd];exact SqL.of hy,q _ _ s' (Dat.blI _)⟩)
theorem Ak {bs:List Bool} (h:RC K t σ H (bs.map D.bl)):RE K (tCB (λxs H Q=>∃ (l:Addr) (bs:List Bool),xs=[.ref l]/\SqL K H l (bs.map V.bl)/\Q (.bl (bs.any id)) H) (bP t d8)) σ H (.bl (bs.any id)):=λH1 s Q q =>
 gL ((h.mono s).use λl ys H' _ s' hy hd=>⟨l,bs,rfl,by rw [← xg hd];exact SqL.of hy,q _ _ s' (Dat.blI _)⟩)
theorem oF (h:RC K t σ H es):RE K (tCB (λxs H Q=>∃ p ys,xs=[.ref p]/\((SqL K H p ys/\∀ l,H l=none->Q (.ref l) (upd H l (.tup ys)))\/(SqT K H p ys/\Q (.ref p) H))) (bP t d8)) σ H (.tup es):=λH1 s Q q =>
 gL ((h.mono s).use λl ys H' _ s' hy hd=>⟨l,ys,rfl,.inl ⟨SqL.of hy,λp hp=>q _ _ (s'.trans (aC hp _)) (Dat.tupI (SqT.of aq) ((aC hp _).dats hd))⟩⟩)
theorem vS (h:RE K t σ H (.tup es)):RE K (tCB (λxs H Q=>∃ p ys,xs=[.ref p]/\((SqL K H p ys/\∀ l,H l=none->Q (.ref l) (upd H l (.tup ys)))\/(SqT K H p ys/\Q (.ref p) H))) (bP t d8)) σ H (.tup es):=λH1 s Q q =>
 gL ((h.mono s).use λv H' s' hd=>by
  obtain ⟨a,vs,e,hq,hds⟩:=hd.tupE
  subst e
  exact ⟨a,vs,rfl,.inr ⟨hq,q _ _ s' (Dat.tupI hq hds)⟩⟩)
theorem An (h:RC K t σ H es):RE K (tCB (λxs H Q=>∃ p ys,xs=[.ref p]/\(SqL K H p ys\/SqT K H p ys)/\Q (.int ys.length) H) (bP t d8)) σ H (.int es.length):=λH1 s Q q =>
 gL ((h.mono s).use λl ys H' _ s' hy hd=>⟨l,ys,rfl,.inl (SqL.of hy),by rw [← hd.length];exact q _ _ s' (Dat.intI _)⟩)
theorem Ao (h:RE K t σ H (.str x)) (hx:x.length≤sizeLine):RE K (tCB (λxs H Q=>∃ z:Str,xs=[.str z]/\z.length≤sizeLine/\Q (.int z.length) H) (bP t d8)) σ H (.int x.length):=λH1 s Q q =>
 gL ((h.mono s).use λv H' s' hd=>by
  rw [hd.strE]
  exact ⟨x,rfl,hx,q _ _ s' (Dat.intI _)⟩)
theorem dJ {us:TS} {En:iQ} {k:Nat} (h:RC K t σ H es) (q:∀ l ys H',H l=none->Same H H'->H' l=some (.lst ys)->Dats K H' es ys->us En (σ.set k (some (.ref l))) H'):j8 (nE t (cy k)) us En σ H:=h.use q
variable {z:Str}
theorem vN {tc:TE} {y:Str} {p q':Str->Str->Bool} (h1:RE K ta σ H (.str x)) (h2:RE K tb σ H (.str y)) (h3:p x y=true->RE K tc σ H (.str z)) :
  RE K (qu (λu v H Q=>∃ i j:Str,u=.str i/\v=.str j/\Q (.bl (p i j)) H) (λu v H Q=>∃ i j:Str,u=.str i/\v=.str j/\Q (.bl (q' i j)) H) ta tb tc) σ H (.bl (p x y && q' y z)):=λH1 s Q q =>
 h1 H1 s _ λv H2 s2 q2=>h2 H2 (s.trans s2) _ λw H3 s3 q3=>by
  refine ⟨x,y,q2.strE,q3.strE,p x y,rfl,?_⟩
  cases hp:p x y with
  | true =>
   simp only [if_true,Bool.true_and]
   exact h3 hp H3 (s.trans (s2.trans s3)) _ λz' H4 s4 q4=>⟨y,z,q3.strE,q4.strE,q _ _ (s2.trans (s3.trans s4)) (by rw [hp];exact Dat.blI _)⟩
  | false =>
   simp only [Bool.false_eq_true,if_false,Bool.false_and]
   exact q _ _ (s2.trans s3) (by rw [hp];exact Dat.blI _)
variable {T:List (Str × KTD.Dat)}
theorem rY {k:Str} (h:RE K t σ H (.str k)) (ht:jn K a T):RE K (tOp (λx y H Q=>∃ k a T,x=.str k/\y=.ref a/\jn K a T/\Q (.bl (!KTD.inKeys k T)) H) t (tC (.ref a))) σ H (.bl (!KTD.inKeys k T)):=λH1 s Q q =>
 h H1 s _ λv H2 s2 q2=>⟨k,a,T,q2.strE,rfl,ht,q _ _ s2 (Dat.blI _)⟩
theorem vO {k:Str} (h:RE K t σ H (.str k)) (ht:jn K a T) (hp:(T.all λp=>KTD.plain p.2)=true) (e:KTD.datumAt k T=some (.flat (.str z))):RE K (tOp (uC K) (tC (.ref a)) t) σ H (.str z):=λH1 s Q q =>
 h H1 s _ λv H2 s2 q2=>⟨a,k,T,z,rfl,q2.strE,ht,hp,e,q _ _ s2 (Dat.strI _)⟩
def mZ (k:Str) (T:List (Str × KTD.Dat)) (i:Int):Int:=match KTD.datumAt k T with | some (.flat (.int j))=>j | _=>i
theorem vR {k:Str} (ht:jn K a T) (h1:RE K ta σ H (.str k)) (h2:RE K tb σ H (.int i)) (hT:∀ p ∈ T,∃ j,p.2=.flat (.int j)):RE K (uM K (tC (.ref a)) ta tb) σ H (.int (mZ k T i)):=λH1 s Q q =>
 ⟨a,T,rfl,ht,h1 H1 s _ λv H2 s2 q2=>h2 H2 (s.trans s2) _ λw H3 s3 q3=>⟨k,i,(s3.dat q2).strE,q3.intE,hT,q _ _ (s2.trans s3) (Dat.intI _)⟩⟩
variable {lo hi:Nat}
theorem zl {vs:List V}:kY vs (some (lo:Int)) (some (hi:Int))=(vs.drop lo).take (hi - lo):=by
 unfold kY
 rw [HT.sIx_nat,HT.sIx_nat]
 apply List.ext_getElem?
 intro i
 simp only [List.getElem?_take,List.getElem?_drop]
 by_cases h1:i < hi - lo
 ·rw [if_pos h1]
  by_cases h2:i < min hi vs.length - min lo vs.length
  ·rw [if_pos h2]
   congr 1
   omega
  ·rw [if_neg h2,List.getElem?_eq_none (by omega)]
 ·rw [if_neg h1,if_neg (by omega)]
theorem Dats.dropN:∀ {n:Nat} {ds:List D} {vs:List V},Dats K H ds vs->Dats K H (ds.drop n) (vs.drop n)
 | 0,_,_,h=>h
 | n+1,[],_,h=>by rw [h.nilE];exact Dats.nil
 | n+1,d::ds,_,h=>by
  obtain ⟨v,r,e,h1,h2⟩:=h.consE
  subst e
  exact Dats.dropN (n:=n) h2
theorem Dats.takeN:∀ {n:Nat} {ds:List D} {vs:List V},Dats K H ds vs->Dats K H (ds.take n) (vs.take n)
 | 0,_,_,h=>by rw [List.take_zero,List.take_zero];exact Dats.nil
 | n+1,[],_,h=>by rw [h.nilE];exact Dats.nil
 | n+1,d::ds,_,h=>by
  obtain ⟨v,r,e,h1,h2⟩:=h.consE
  subst e
  exact Dats.cons h1 (Dats.takeN (n:=n) h2)
theorem B4 (h:RE K t σ H (.tup ds)) (h1:RE K ta σ H (.int lo)) (h2:RE K tb σ H (.int hi)) (hl:1≤lo) (hd:0 < ds.length):RE K (tSl (B0 K) t (sj ta) (sj tb)) σ H (.tup ((ds.drop lo).take (hi - lo))):=λH1 s Q q =>
 h H1 s _ λv H2 s2 q2=>h1 H2 (s.trans s2) _ λv3 H3 s3 q3=>⟨lo,q3.intE,h2 H3 (s.trans (s2.trans s3)) _ λv4 H4 s4 q4=>⟨hi,q4.intE,by
  obtain ⟨a,vs,ev,hq,hds⟩:=((s3.trans s4).dat q2).tupE
  have ll:=hds.length
  refine ⟨a,vs,ev,hq,λz=>?_,λp hp=>?_⟩
  ·rw [HT.sIx_nat] at z
   omega
  ·rw [zl]
   exact q _ _ (s2.trans (s3.trans (s4.trans (aC hp _)))) (Dat.tupI (SqT.of aq) ((aC hp _).dats (Dats.takeN (Dats.dropN hds))))⟩⟩
end
mutual
def ft (K:PySem.W.Frag):D->Value->Bool
 | .non,u=>(match u with | .none=>true | _=>false)
 | .bl b,u=>(match u with | .bool c=>b == c | _=>false)
 | .int i,u=>(match u with | .int j _=>i == j | _=>false)
 | .str x,u=>(match u with | .str y _=>x == y | _=>false)
 | .tup ds,u=>(match u with | .ref a=>(match K.lookup a with | some ⟨.type "tuple",_,.seq its _,_⟩=>decide (its.size≤1000) && datsOk K ds its.toList | _=>false) | _=>false)
 | .lst,_=>false
def datsOk (K:PySem.W.Frag):List D->List Value->Bool
 | [],us=>us.isEmpty
 | d::ds,us=>(match us with | u::r=>ft K d u && datsOk K ds r | []=>false)
end
mutual
variable {K:PySem.W.Frag}
theorem kP (H:Hp):∀ (d:D) (u:Value),ft K d u=true->∃ v,RelV v u/\Dat K H d v
 | .non,u,h=>by
  unfold ft at h
  cases u <;> first | (exact ⟨.non,rfl,Dat.nonI⟩) | cases h
 | .bl b,u,h=>by
  unfold ft at h
  cases u <;> first | cases h | skip
  rename_i c
  have e:b=c:=by simpa using h
  subst e
  exact ⟨.bl b,rfl,Dat.blI _⟩
 | .int i,u,h=>by
  unfold ft at h
  cases u <;> first | cases h | skip
  rename_i j t
  have e:i=j:=by simpa using h
  subst e
  exact ⟨.int i,⟨t,rfl⟩,Dat.intI _⟩
 | .str x,u,h=>by
  unfold ft at h
  cases u <;> first | cases h | skip
  rename_i y t
  have e:x=y:=by simpa using h
  subst e
  exact ⟨.str x,⟨t,rfl⟩,Dat.strI _⟩
 | .tup ds,u,h=>by
  unfold ft at h
  cases u <;> first | cases h | skip
  rename_i a
  dsimp only at h
  split at h
  ·rename_i od its n sl e
   rw [Bool.and_eq_true] at h
   obtain ⟨vs,r,hd⟩:=datsOk_sound H ds its.toList h.2
   refine ⟨.ref a,rfl,Dat.tupI (.inr ⟨_,its,n,e,rfl,rfl,?_,r⟩) hd⟩
   exact Nat.le_trans (of_decide_eq_true h.1) (by decide)
  ·cases h
 | .lst,u,h=>by unfold ft at h;cases h
theorem datsOk_sound (H:Hp):∀ (ds:List D) (us:List Value),datsOk K ds us=true->∃ vs,Vals vs us/\Dats K H ds vs
 | [],us,h=>by
  unfold datsOk at h
  cases us with
  | nil=>exact ⟨[],.nil,Dats.nil⟩
  | cons u r=>cases h
 | d::ds,us,h=>by
  unfold datsOk at h
  cases us with
  | nil=>cases h
  | cons u r =>
   dsimp only at h
   rw [Bool.and_eq_true] at h
   obtain ⟨v,r1,h1⟩:=kP H d u h.1
   obtain ⟨vs,r2,h2⟩:=datsOk_sound H ds r h.2
   exact ⟨v::vs,.cons r1 r2,Dats.cons h1 h2⟩
end
theorem Dh (h:ft K (.tup ds) (.ref a)=true) (H:Hp):Dat K H (.tup ds) (.ref a):=by
 obtain ⟨v,r,hd⟩:=kP H _ _ h
 obtain ⟨b,vs,e,_⟩:=id hd.tupE
 subst e
 have z:Value.ref a=.ref b:=r
 cases z
 exact hd
theorem mQ (h:ft K (.tup ds) (.ref a)=true):RE K (tC (.ref a)) σ H (.tup ds):=λH1 _ Q q=>q _ _ (Same.refl _) (Dh h H1)
section
variable {X:Cx}
theorem wZ:gF X (.type "range") (λxs H Q=>∃ n:Nat,xs=[.int n]/\∀ p,H p=none->Q (.ref p) (upd H p (.rng 0 n))):=by
 intro pins s σ H xs us Q I r h
 obtain ⟨n,rfl,q⟩:=h
 obtain ⟨u,rfl,ru⟩:=fX r
 obtain ⟨t,rfl⟩:=ru
 refine call_range_1 ⟨.ref s.heap.objs.size,_,I.laid (λb o e=>Heap.get?_push_of_some _ e) (Nat.le_refl _) (show ObjOk X.prog X.w _ _ _ (.rng 0 n) from ⟨_,_,_,Heap.get?_push_size _ rfl⟩),rfl,q _ (I.hok.fresh (Nat.le_refl _))⟩
theorem yS {n:Nat} {acc:Array Value} (h:ItemsOf (λi v=>∃ t,v=.int ((0:Int)+(i:Nat) * 1) t) acc n):Vals ((List.range n).map λi:Nat=>V.int i) acc.toList:=by
 obtain ⟨hs,hi⟩:=h
 have all:∀ (l:List Value) (k:Nat),(∀ (j:Nat) (v:Value),l[j]?=some v->∃ t,v=Value.int ((0:Int)+((k+j:Nat):Int) * 1) t)->Vals ((List.range' k l.length).map λi:Nat=>V.int i) l:=by
  intro l
  induction l with
  | nil=>intro k _;exact .nil
  | cons u l ih =>
   intro k hj
   rw [List.length_cons,List.range'_succ,List.map_cons]
   refine .cons ?_ (ih (k+1) λj v e=>?_)
   ·obtain ⟨t,e⟩:=hj 0 u rfl
    refine ⟨t,?_⟩
    rw [e]
    congr 1
    simp
   ·obtain ⟨t,e'⟩:=hj (j+1) v (by simpa using e)
    refine ⟨t,?_⟩
    rw [e']
    congr 1
    have:k+(j+1)=k+1+j:=by omega
    rw [this]
 have q:=all acc.toList 0 λj v e=>by
  rw [Nat.zero_add]
  exact hi j v (by simpa using e)
 rw [List.range_eq_range']
 rw [Array.length_toList,hs] at q
 exact q
theorem ni (hc:X.calm=true):gF X (.type "list") (λxs H Q=>∃ (p:Addr) (n:Nat),xs=[.ref p]/\H p=some (.rng 0 n)/\n≤1000/\∀ l,H l=none->Q (.ref l) (upd H l (.lst ((List.range n).map λi:Nat=>V.int i)))):=by
 intro pins s σ H xs us Q I r h
 obtain ⟨p,n,rfl,hp,hn,q⟩:=h
 obtain ⟨u,rfl,rx⟩:=fX r
 cases rx
 obtain ⟨t,u,v,e⟩:=(show ObjOk X.prog X.w H s.heap p (.rng 0 n) from I.hok p _ hp)
 refine call_list_range (n:=n) (I.ok.hd hc) (show IsRange s.heap p 0 n 1 t u v from e) (small_one (by omega) (by omega) (by omega) (by omega)) ?_ (by omega) λh' tk acc' c' kp e' hacc=>?_
 ·rw [rangeSize_one]
  split <;> omega
 ·have hv:=yS hacc
  have hl:=hv.length
  refine ⟨.ref s.heap.objs.size,_,I.laid kp (Nat.le_refl _) (show ObjOk X.prog X.w _ h' _ (.lst _) from ⟨?_,acc'.toList,c',hv,by simpa using e'⟩),rfl,q _ (I.hok.fresh (Nat.le_refl _))⟩
  simp only [List.length_map,List.length_range]
  exact Nat.le_trans hn (by decide)
def Cm (K:PySem.W.Frag) (a:Addr) (xs:List V):Prop:=∃ (its:Array Value) (n:Nat),K.lookup a=some ⟨.type "list",none,.seq its n,#[]⟩/\its.size≤1000/\Vals xs its.toList
def aLst (K:PySem.W.Frag) (H:Hp) (a:Addr) (xs:List V):Prop:=H a=some (.lst xs)\/Cm K a xs
variable {H:Hp} {a:Addr} {xs:List V}
theorem aLst.sqL {K:PySem.W.Frag} (h:aLst K H a xs):SqL K H a xs:=by
 rcases h with h | ⟨its,n,e,hz,r⟩
 ·exact SqL.of h
 ·exact .inr ⟨_,its,n,e,rfl,rfl,rfl,Nat.le_trans hz (by decide),r⟩
theorem aLst.at {pins:List (Addr × Obj)} {σ:St} {s:Shared} (I:Inv X pins σ H s) (h:aLst X.K H a xs):∃ (its:List Value) (n:Nat),Vals xs its/\s.heap.get? a=some { cls:=.type "list",data:=.seq its.toArray n }:=by
 rcases h with h | ⟨its,n,e,hz,r⟩
 ·obtain ⟨z,its,n,r,hl,e⟩:=I.lstM h
  exact ⟨its,n,r,e⟩
 ·exact ⟨its.toList,n,r,by simpa using I.kIn _ _ e⟩
def AS (K:PySem.W.Frag):R2:=λx y H Q=>∃ l b xs zs,x=.ref l/\y=.ref b/\aLst K H l xs/\aLst K H b zs/\xs.length+zs.length≤1000/\∀ p,H p=none->Q (.ref p) (upd H p (.lst (xs++zs)))
theorem fZ:OpR X (binaryOp .Add) (AS X.K):=by
 intro pins s σ H x y v u Q I rx ry h
 obtain ⟨l,b,xs,zs,rfl,rfl,hH,hB,hz,q⟩:=h
 cases rx
 cases ry
 obtain ⟨its,n,r,e⟩:=hH.at I
 obtain ⟨its2,n2,r2,e2⟩:=hB.at I
 have l1:=r.length
 have l2:=r2.length
 have hz':xs.length+zs.length≤sizeLine:=Nat.le_trans hz (by decide)
 refine PySem.P.add_list e e2 ?_ (by rw [List.size_toArray,List.size_toArray];omega)
 have ea:its.toArray++its2.toArray=(its++its2).toArray:=by simp
 rw [ea]
 exact ⟨.ref _,_,I.lnew (t':=s.toks) (r.append r2) (by rw [List.length_append];omega),rfl,q _ I.fresh⟩
end
section
variable {K:PySem.W.Frag} {σ:St} {H:Hp} {t:TE} {n:Nat}
def mz (K:PySem.W.Frag) (ds:List D) (a:Addr):Bool:=match K.lookup a with
 | some ⟨.type "list",none,.seq its _,sl⟩=>decide (its.size≤1000) && (sl.isEmpty && datsOk K ds its.toList)
 | _=>false
theorem pE {K:PySem.W.Frag} {ds:List D} {a:Addr} (h:mz K ds a=true) (H:Hp):∃ vs,Cm K a vs/\Dats K H ds vs:=by
 unfold mz at h
 split at h
 ·rename_i its n sl e
  rw [Bool.and_eq_true,Bool.and_eq_true] at h
  obtain ⟨vs,r,hd⟩:=datsOk_sound H ds its.toList h.2.2
  have es:sl=#[]:=by simpa using h.2.1
  subst es
  exact ⟨vs,⟨its,n,e,of_decide_eq_true h.1,r⟩,hd⟩
 ·cases h
theorem pY (h:RE K t σ H (.int n)) (hn:n≤1000):RC K (tCB (λxs H Q=>∃ (p:Addr) (n:Nat),xs=[.ref p]/\H p=some (.rng 0 n)/\n≤1000/\∀ l,H l=none->Q (.ref l) (upd H l (.lst ((List.range n).map λi:Nat=>V.int i))))
  (bP (tCB (λxs H Q=>∃ n:Nat,xs=[.int n]/\∀ p,H p=none->Q (.ref p) (upd H p (.rng 0 n))) (bP t d8)) d8)) σ H ((List.range n).map λi:Nat=>D.int i):=λH1 s Q q =>
 gL (gL ((h.mono s).use λv H2 s2 q2=>by
  rw [q2.intE]
  refine ⟨n,rfl,λp hp=>⟨p,n,rfl,aq,hn,λl hl=>?_⟩⟩
  have s3:=s2.trans ((aC hp (.rng 0 n)).trans (aC hl (.lst ((List.range n).map λi:Nat=>V.int i))))
  refine q l _ _ ((s2.trans (aC hp _)).free hl) s3 aq ?_
  have z:∀ m:List Nat,Dats K (upd (upd H2 p (.rng 0 n)) l (.lst ((List.range n).map λi:Nat=>V.int i))) (m.map λi:Nat=>D.int i) (m.map λi:Nat=>V.int i):=by
   intro m
   induction m with
   | nil=>exact Dats.nil
   | cons a m ih=>exact Dats.cons (Dat.intI _) ih
  exact z _))
end
structure Tri (l0 l1 l2:Addr) (H:Hp) (a b c:List V):Prop where
 h0:H l0=some (.lst a)
 h1:H l1=some (.lst b)
 h2:H l2=some (.lst c)
 n01:l0≠l1
 n02:l0≠l2
 n12:l1≠l2
def But3 (l0 l1 l2:Addr) (H H':Hp):Prop:=∀ b o,b≠l0->b≠l1->b≠l2->H b=some o->H' b=some o
section
variable {K:PySem.W.Frag} {l0 l1 l2:Addr} {H H' H2:Hp} {a b c a' b' c':List V} {v:V}
theorem Same.but3 (e:Same H H'):But3 l0 l1 l2 H H':=λb o _ _ _ h=>e b o h
theorem But3.trans (x:But3 l0 l1 l2 H H') (y:But3 l0 l1 l2 H' H2):But3 l0 l1 l2 H H2:=λb o n0 n1 n2 h=>y b o n0 n1 n2 (x b o n0 n1 n2 h)
theorem Tri.same (t:Tri l0 l1 l2 H a b c) (e:Same H H'):Tri l0 l1 l2 H' a b c:=⟨e _ _ t.h0,e _ _ t.h1,e _ _ t.h2,t.n01,t.n02,t.n12⟩
theorem But3.grow (e:But3 l0 l1 l2 H H') (t:Tri l0 l1 l2 H a b c) (t':Tri l0 l1 l2 H' a' b' c'):cO K H H':=by
 have key:∀ (x:Addr) (o:HO),H x=some o->(∀ xs,o≠.lst xs)->H' x=some o:=λx o h ho =>
  e x o (λz=>by rw [z,t.h0] at h;cases h;exact ho _ rfl) (λz=>by rw [z,t.h1] at h;cases h;exact ho _ rfl) (λz=>by rw [z,t.h2] at h;cases h;exact ho _ rfl) h
 refine ⟨λx xs h=>?_,λx xs h=>?_⟩
 ·rcases h with (h | ⟨o,h⟩) | h
  ·exact .inl (.inl (key _ _ h (λ_ z=>by cases z)))
  ·exact .inl (.inr ⟨o,key _ _ h (λ_ z=>by cases z)⟩)
  ·exact .inr h
 ·by_cases z0:x=l0
  ·rw [z0];exact ⟨_,SqL.of t'.h0⟩
  by_cases z1:x=l1
  ·rw [z1];exact ⟨_,SqL.of t'.h1⟩
  by_cases z2:x=l2
  ·rw [z2];exact ⟨_,SqL.of t'.h2⟩
  refine ⟨xs,?_⟩
  rcases h with (h | ⟨o,h⟩) | h
  ·exact .inl (.inl (e _ _ z0 z1 z2 h))
  ·exact .inl (.inr ⟨o,e _ _ z0 z1 z2 h⟩)
  ·exact .inr h
theorem Tri.p0 (t:Tri l0 l1 l2 H a b c):Tri l0 l1 l2 (upd H l0 (.lst (a++[v]))) (a++[v]) (b++[]) (c++[])/\But3 l0 l1 l2 H (upd H l0 (.lst (a++[v]))):=by
 rw [List.append_nil,List.append_nil]
 exact ⟨⟨aq,by rw [aJ (Ne.symm t.n01)];exact t.h1,by rw [aJ (Ne.symm t.n02)];exact t.h2,t.n01,t.n02,t.n12⟩,λx o n0 _ _ h=>by rw [aJ n0];exact h⟩
theorem Tri.p1 (t:Tri l0 l1 l2 H a b c):Tri l0 l1 l2 (upd H l1 (.lst (b++[v]))) (a++[]) (b++[v]) (c++[])/\But3 l0 l1 l2 H (upd H l1 (.lst (b++[v]))):=by
 rw [List.append_nil,List.append_nil]
 exact ⟨⟨by rw [aJ t.n01];exact t.h0,aq,by rw [aJ (Ne.symm t.n12)];exact t.h2,t.n01,t.n02,t.n12⟩,λx o _ n1 _ h=>by rw [aJ n1];exact h⟩
theorem Tri.p2 (t:Tri l0 l1 l2 H a b c):Tri l0 l1 l2 (upd H l2 (.lst (c++[v]))) (a++[]) (b++[]) (c++[v])/\But3 l0 l1 l2 H (upd H l2 (.lst (c++[v]))):=by
 rw [List.append_nil,List.append_nil]
 exact ⟨⟨by rw [aJ t.n02];exact t.h0,by rw [aJ t.n12];exact t.h1,aq,t.n01,t.n02,t.n12⟩,λx o _ _ n2 h=>by rw [aJ n2];exact h⟩
theorem Tri.nil (t:Tri l0 l1 l2 H a b c):Tri l0 l1 l2 H (a++[]) (b++[]) (c++[]):=by
 rw [List.append_nil,List.append_nil,List.append_nil];exact t
variable {σ:St} {j:Nat} {l:Addr}
theorem gd {te:TE} {us:TS} {En:iQ} {G:Hp} {xs:List V} {d:D} (h:RE K te σ G d) (hl:G l=some (.lst xs)) (hx:xs.length≤900)
  (q:∀ y G',But l G G'->G' l=some (.lst (xs++[y]))->Dat K G' d y->us En σ G') (hv:σ[j]?=some (some (.ref l)):=by rfl):j8 (mY (tBM K "list" lI (iS j) (bP te d8))) us En σ G:=by
 refine ⟨_,hv,.inl ⟨rfl,_,SqL.of hl⟩,h.use λy H1 s1 q1=>?_⟩
 have hl1:=s1 _ _ hl
 refine ⟨l,xs,y,rfl,rfl,hl1,ck (by omega),?_⟩
 have b:But l H1 (upd H1 l (.lst (xs++[y]))):=But.upd (Same.refl _).but
 exact q y _ (s1.but.trans b) aq (Dat.mono (b.grow hl1 aq) _ q1)
theorem kD {f:Addr} {x:Str} {kvs:List (Key × V)} {ys:List V} {es:List D} (hf:H f=some (.dK kvs)) (hk:jE kvs (Sum.inr x)=some (.ref l)) (hl:H l=some (.lst ys)) (hd:Dats K H es ys) (hv:σ[j]?=some (some (.ref f)):=by rfl) :
  RE K (tCB (λxs H Q=>∃ p ys,xs=[.ref p]/\((SqL K H p ys/\∀ l,H l=none->Q (.ref l) (upd H l (.tup ys)))\/(SqT K H p ys/\Q (.ref p) H))) (bP (A2 (iS j) (tC (.str x))) d8)) σ H (.tup es):=λH1 s Q q =>
 ⟨_,hv,f,.ref l,rfl,by have g:=DGet.k (k:=Sum.inr x) (s _ _ hf);rw [hk] at g;exact g,l,ys,rfl,.inl ⟨SqL.of (s _ _ hl),λp hp=>q _ _ (aC hp _) (Dat.tupI (SqT.of aq) ((aC hp _).dats (s.dats hd)))⟩⟩
end
theorem pj:∀ {ns:List Int} {us:List Value},Vals (ns.map V.int) us->IntsAre us ns
 | [],us,h=>by cases h;exact .nil
 | n::ns,us,h=>by
  cases h with
  | cons r t =>
   obtain ⟨tk,rfl⟩:=r
   exact .cons n tk (pj t)
section
variable {X:Cx}
theorem w9 (hc:X.calm=true):gF X (.builtin "sum") (λxs H Q=>∃ (l:Addr) (ns:List Int),xs=[.ref l]/\SqL X.K H l (ns.map V.int)/\Q (.int ns.sum) H):=by
 intro pins s σ H xs us Q I r h
 obtain ⟨l,ns,rfl,hq,q⟩:=h
 obtain ⟨u,rfl,ru⟩:=fX r
 cases ru
 obtain ⟨its,rv,p,hz⟩:=I.list hq
 have hi:=pj rv
 obtain ⟨zs,hzs⟩:=hi.allInts.items
 refine sum_intListG (I.ok.hd hc) (show s.heap.IsList l (intItems zs) from hzs ▸ p.isList) λh' tk t' hk=>?_
 have a1:zs.toList.map (·.1)=ns:=by
  have z:=hi.numsOf
  rw [show its=(intItems zs).toList by rw [← hzs]] at z
  rw [← z,nums_intItems]
 have a2:preSum (numAt zs) zs.size=ns.sum:=by
  rw [preSum_eq,← a1,List.take_of_length_le (by simp)]
 rw [a2]
 exact ⟨.int ns.sum,H,I.kept (t':=tk) hk,⟨t',rfl⟩,q⟩
def Itv (K:PySem.W.Frag) (a:Addr) (xs:List V):It:=⟨λi H=>i < xs.length/\SqL K H a xs,λi H x H'=>H'=H/\xs[xs.length - 1 - i]?=some x,λi _=>i=xs.length⟩
theorem yM {P:Program} {w:World} {K:PySem.W.Frag} {tg:Expr} (a it:Addr) (xs:List V):kW P w K tg (Itv K a xs) [it] it (λi h=>h.IsRevIter it a ((xs.length:Int) - 1 - (i:Int))) where
 mem:=by simp
 obj:=λi h st b hb=>by
  have e:b=it:=by simpa using hb
  subst e
  obtain ⟨o,e,c,d⟩:=st
  exact ⟨o,e,λv z=>by rw [d] at z;cases z⟩
 keep:=λi h h' st k=>by
  obtain ⟨o,e,r⟩:=st
  exact ⟨o,k it (by simp) o e,r⟩
 item:=by
  intro X hP hw hK hc i pins s σ H E I hf st hg
  subst hP hw hK
  obtain ⟨hi,hq⟩:=hg
  obtain ⟨its,rv,p,hz⟩:=I.list hq
  obtain ⟨f0,f1,f2,f3,f4,f5⟩:=hf it (by simp)
  have lr:=rv.length
  have hx:xs[xs.length - 1 - i]?=some (xs[xs.length - 1 - i]'(by omega)):=List.getElem?_eq_getElem (by omega)
  obtain ⟨u,hu,ru⟩:=rv.get hx
  have e1:(xs.length:Int) - 1 - (i:Int)=((xs.length - 1 - i:Nat):Int):=by omega
  have st1:s.heap.IsRevIter it a ((xs.length - 1 - i:Nat):Int):=by rw [← e1];exact st
  refine wpAny_pyNext_rev_item st1 p.isList (x:=u) (by simpa using hu) λh' st' sb=>?_
  have e2:((xs.length - 1 - i:Nat):Int) - 1=(xs.length:Int) - 1 - ((i+1:Nat):Int):=by omega
  rw [e2] at st'
  have I1:Inv X pins σ H { s with heap:=h' }:=I.turned (t':=s.toks) (λb o hb e=>(sb.2 b hb).trans e) f0 f1 f3 f4 f5
  obtain ⟨o,e,c,d⟩:=id st'
  exact ⟨u,rfl,qW (s:={ s with heap:=h' }) e c d (by decide) ⟨_,H,I1,ru,⟨rfl,hx⟩,st',λb hb=>(hf b hb).1⟩⟩
 done:=by
  intro X hP hw hK hc i pins s σ H E I hf st hg
  subst hP hw hK
  obtain ⟨f0,f1,f2,f3,f4,f5⟩:=hf it (by simp)
  have hg':i=xs.length:=hg
  subst hg'
  have e1:(xs.length:Int) - 1 - (xs.length:Int)=-1:=by omega
  rw [e1] at st
  exact wpAny_pyNext_rev_end (I.ok.hd hc) st λh' eb=>⟨rfl,I.turned (t':=s.toks) (λb o hb e=>eb b o hb e) f0 f1 f3 f4 f5⟩
 self:=λA i s Q E st q=>wpAny_pyIter_revIter st q
variable {tg:Expr}
def CD (K:PySem.W.Frag) (ta:TA):TI:=λσ H R=>ta σ H λvs H1=>∃ a xs,vs=[.ref a]/\SqL K H1 a xs/\R (Itv K a xs) H1
theorem BU {a:Expr} {ta:TA} {p pos:Pos} (hg:Gl X "reversed") (hm:X.mg "reversed"=none) (ha:PA X [a] ta) (hs:starEach [a] X.env=[(false,eval a X.env)]:=by rfl):PI X tg (.Call (.Name "reversed" p) [a] [] pos) (CD X.K ta):=by
 intro pins s σ H R I h
 refine Call_ (iX I hg hm qJ (PyProof.Rows.callWith_type1 (thn (ha pos pins s σ H _ I h) λus s1 ⟨vs,H1,I1,r1,q1⟩=>?_) hs rfl))
 obtain ⟨l,xs,e,hq,q⟩:=q1
 subst e
 obtain ⟨u,rfl,ru⟩:=fX r1
 cases ru
 obtain ⟨its,rv,pl,hz⟩:=I1.list hq
 have lr:=rv.length
 refine call_reversed_list pl.isList ?_
 have st:(s1.heap.push (revObj l ((its.toArray.size:Int) - 1))).IsRevIter s1.heap.objs.size l ((xs.length:Int) - 1 - ((0:Nat):Int)):=⟨_,Heap.get?_push_size _ rfl,rfl,by simp [revObj,lr]⟩
 refine wpAny_pyIter_revIter (s:={ s1 with heap:=s1.heap.push (revObj l ((its.toArray.size:Int) - 1)) }) st ?_
 refine ⟨s1.heap.objs.size,[s1.heap.objs.size],_,_,H1,rfl,I1.kept (t':=s1.toks) λb o e=>Heap.get?_push_of_some _ e,yM l _ xs,st,λb hb=>?_,q⟩
 have e:b=s1.heap.objs.size:=by simpa using hb
 subst e
 exact I1.fpOk (Nat.le_refl _) (I1.hok.fresh (Nat.le_refl _))
end
def met (f:Nat->Str) (i:Nat):List Str:=((List.range i).map f).foldl step_dedup []
theorem i4 (f:Nat->Str) (i:Nat):met f (i+1)=step_dedup (met f i) (f i):=by unfold met;rw [List.range_succ,List.map_append,List.foldl_append];rfl
theorem o5 (l:List Str) (x:Str):(step_dedup l x).length=if l.any (· == x) then l.length else l.length+1:=by unfold step_dedup;split <;> simp
theorem ue (l:List Str) (x y:Str):(step_dedup l x).any (· == y)=(l.any (· == y) || decide (y=x)):=by
 unfold step_dedup
 split
 ·rename_i h
  by_cases e:y=x
  ·subst e;rw [h];rfl
  ·rw [decide_eq_false e,Bool.or_false]
 ·rw [List.any_append]
  congr 1
  by_cases e:y=x
  ·subst e;simp
  ·have e':¬ x=y:=λz=>e z.symm
   simp [e,e']
theorem pF (f:Nat->Str):∀ i,(met f i).length≤i
 | 0=>by simp [met]
 | i+1=>by rw [i4,o5];have:=pF f i;split <;> omega
theorem yR {R:Result->Shared->Prop} {fp wr:List Addr} {G:Array GenState->Array GenState->Prop} {Pv:Nat->Value->Prop} {St:Nat->Shared->Prop}
  (W:WalksS P w A.in1 it fp wr G n Pv St) (sa:Addr) (nsa:sa ∉ fp) (f:Nat->Str) (hf:∀ i v,Pv i v->∃ t,v=.str (f i) t) (few:n+1 < scanBound) :
  ∀ (m i:Nat) (s:Shared),n - i=m->i≤n->St i s->s.heap.SetOf (strKind P w) sa (λy=>(met f i).any (· == y)) (met f i).length ->
   (∀ s',Moved (sa::wr) G s s'->s'.heap.SetOf (strKind P w) sa (λy=>(met f n).any (· == y)) (met f n).length->R (.ok (.ret .none)) s')->codeAny (model P w) A (.builtin "set.update.loop" ⟨[.ref sa,.ref it],[]⟩) R s:=by
 have nw:sa ∉ wr:=λz=>nsa (W.sub _ z)
 have more:∀ b ∈ wr,b ∈ sa::wr:=λb z=>List.mem_cons_of_mem _ z
 intro m
 induction m with
 | zero =>
  intro i s e1 e2 st so fin
  obtain rfl:i=n:=by omega
  refine codeAny_builtin PyProof.Rows.F.entry_set_update_loop ?_
  rw [Around.under_plainId PyProof.Rows.F.plain_set_update_loop _]
  show wpAny _ A.in1 (pyNext (.ref it) >>= _) _ _ s
  refine wpAny_bind (W.done s _ _ st λs2 mv=>?_)
  show wpAny _ A.in1 (ret Value.none) _ _ s2
  obtain ⟨o,es,ep,tb,g,rest⟩:=so
  exact wpAny_pure (fin s2 (mv.mono more) ⟨o,es,ep,tb,mv.heap sa _ nw g,rest⟩)
 | succ m ih =>
  intro i s e1 e2 st so fin
  have lt:i < n:=by omega
  refine codeAny_builtin PyProof.Rows.F.entry_set_update_loop ?_
  rw [Around.under_plainId PyProof.Rows.F.plain_set_update_loop _]
  show wpAny _ A.in1 (pyNext (.ref it) >>= _) _ _ s
  refine wpAny_bind (W.item i s _ _ lt st λv s2 pv st2 mv=>?_)
  obtain ⟨tk,rfl⟩:=hf i v pv
  have so2:s2.heap.SetOf (strKind P w) sa (λy=>(met f i).any (· == y)) (met f i).length:=let ⟨o,es,ep,tb,g,rest⟩:=so;⟨o,es,ep,tb,mv.heap sa _ nw g,rest⟩
  show wpAny _ A.in1 (holding [Value.str (f i) tk] (setAdd sa (.str (f i) tk)) >>= _) _ _ s2
  refine wpAny_bind (wpAny_holding ?_)
  unfold setAdd
  refine wpAny_holding (wpAny_bind ((strKind P w).pyHash (k:=f i) (strKind_is P w _ _) ?_))
  have rm:(met f i).length+1 < scanBound:=by have:=pF f i;omega
  refine wpAny_setAddHashed_of (knd:=strKind P w) (s:={ s2 with toks:=s2.toks+1 }) (strKind_is P w _ _) rfl so2 rm λh' sb so3=>?_
  have so4:h'.SetOf (strKind P w) sa (λy=>(met f (i+1)).any (· == y)) (met f (i+1)).length:=SetOf_congr so3 (λy=>by rw [i4,ue]) (by rw [i4,o5])
  refine wpAny_pure ⟨plainId_quiet PyProof.Rows.F.plain_set_update_loop _,ih (i+1) _ (by omega) lt (W.frame _ s2 _ _ st2 (Nat.le_succ _) λb z o g=>?_) so4 λs3 mv3 so5=>?_⟩
  ·rw [sb.2 b (λq:b=sa=>nsa (by rw [← q];exact z))];exact g
  ·refine fin s3 (Moved.trans W.gtrans ((mv.mono more).then_heap (Nat.le_succ _) λb o z g=>?_) mv3) so5
   rw [sb.2 b (λq:b=sa=>z (by rw [q];exact List.mem_cons_self))];exact g
abbrev qk (led:Bool):Obj:={ cls:=.type "set",dict:=none,data:=.set #[] 0 (.fresh 0 0 led) }
theorem uV {E:Value->Shared->Prop} {s:Shared} {items:Array Value} {f:Nat->Str} {Q:Value->Shared->Prop} (hh:A.handled=none) (hl:s.heap.IsList l items)
  (hi:∀ (i:Nat) (v:Value),items[i]?=some v->∃ t,v=.str (f i) t) (few:items.size+1 < scanBound)
  (fin:∀ (h':Heap) (tk:Nat),h'.SetOf (strKind P w) s.heap.objs.size (λy=>(met f items.size).any (· == y)) (met f items.size).length->(∀ b o,b < s.heap.objs.size->s.heap.get? b=some o->h'.get? b=some o)->Q (.ref s.heap.objs.size) { s with heap:=h',toks:=tk }) :
  wpAny (model P w) A (call (.type "set") [.ref l]) Q E s:=by
 obtain ⟨c,tl,mro⟩:=PySem.F.called_set.mro
 have made:=PySem.F.called_set.made
 have sub:=PySem.F.called_set.sub
 refine wpAny_call (codeAny_of_tree ?_)
 show wpAny _ _ (callAny (.type "set") _) _ _ _
 refine wpAny_pure ⟨Code.quiet_builtin _ (by decide +kernel),codeAny_builtin PySem.F.entry_type_call ?_⟩
 rw [Around.under_plain (weight_type_call_type "set" [.ref l] []) rfl]
 have k1:=PySem.F.called_set.notType
 have k2:=PySem.F.called_set.canCreate
 have k3:=PySem.F.typeCall_set_1 (.ref l)
 repeat (any_goals (first | assumption | wp_step))
 refine codeAny_mono (code_set_new_1 (.ref l) (E:=E) (Q₁:=λobj s1=>∃ led:Bool,obj=.ref s.heap.objs.size/\s1={ s with heap:=s.heap.push (qk led) }) λled=>⟨led,rfl,rfl⟩) λr s1 hr=>?_
 cases r with
 | error e=>exact hr
 | ok fl =>
  cases fl with
  | ret obj =>
   obtain ⟨led,rfl,rfl⟩:=hr
   have g0:(s.heap.push (qk led)).get? s.heap.objs.size=some (qk led):=Heap.get?_push_size _ rfl
   have ty:Shared.TypeIs { s with heap:=s.heap.push (qk led) } (.ref s.heap.objs.size) "set":=⟨_,g0,rfl⟩
   have k4:=PySem.F.called_set.init.lookup
   have k5:=PySem.F.called_set.init.bind (.ref s.heap.objs.size)
   repeat (any_goals (first | assumption | wp_step))
   refine codeAny_mono (codeAny_call_builtin (R:=wants (λr s2=>r=.none/\∃ h' tk,s2={ s with heap:=h',toks:=tk }/\h'.SetOf (strKind P w) s.heap.objs.size (λy=>(met f items.size).any (· == y)) (met f items.size).length /\
     (∀ b o,b < s.heap.objs.size->s.heap.get? b=some o->h'.get? b=some o)) E) PySem.F.called_set.init.plain PySem.F.entry_set_init (check_set_init_1 ty ?_)) λr2 s2 hr2=>?_
   ·obtain ⟨ol,g1,g2,nl,g3⟩:=hl
    obtain ⟨oc,od,ob,os⟩:=ol
    simp only at g2 g3
    subst g2;subst g3
    have g4:(s.heap.push (qk led)).get? l=some { cls:=.type "list",dict:=od,data:=.seq items nl,slots:=os }:=Heap.get?_push_of_some _ g1
    have m1:=PySem.F.sub_list_set
    have m2:=PySem.F.sub_list_frozenset
    have m3:(Value.type "list" == Value.type "dict")=false:=by decide
    have il:(s.heap.push (qk led)).IsList l items:=⟨_,g4,rfl,nl,rfl⟩
    unfold Builtin.«set.__init__» noKeywords Builtin.Frozenset.updateFrom
    generalize hPI:pyIter=PI
    wp_walk
    subst hPI
    refine wpAny_pyIter_list il (wpAny_bind (wpAny_runValue ?_))
    have ll:l < s.heap.objs.size:=Heap.lt_size g1
    have h3:A.in1.in1.in1.handled=none:=by simp [hh]
    have n1:l≠(s.heap.push (qk led)).objs.size:=by rw [Heap.size_push];exact Nat.ne_of_lt (Nat.lt_succ_of_lt ll)
    have n2:s.heap.objs.size ∉ [(s.heap.push (qk led)).objs.size,l]:=by rw [Heap.size_push];simp only [List.mem_cons,List.mem_singleton,List.not_mem_nil,or_false,not_or];exact ⟨Nat.ne_of_lt (Nat.lt_succ_self _),Nat.ne_of_gt ll⟩
    refine yR ((Walks.list h3 _ l n1 items).toS) s.heap.objs.size n2 f hi few (items.size - 0) 0 _ (by omega) (Nat.zero_le _) ⟨⟨_,Heap.get?_push_size _ rfl,rfl,rfl⟩,(il.push _)⟩ ?so ?fi
    case so=>exact SetOf_congr ((setObjOf_fresh (knd:=strKind P w) led).setOf (Heap.get?_push_of_some _ g0) (by unfold scanBound;omega)) (λ_=>rfl) rfl
    case fi =>
     intro s' mv so
     obtain ⟨h',g',d',tk',os'⟩:=s'
     obtain rfl:g'=s.gens:=mv.gens
     obtain rfl:d'=s.drawn:=mv.drawn
     obtain rfl:os'=s.os:=mv.os
     show wpAny _ _ _ _ _ _
     refine wpAny_pure ?_
     show wpAny _ _ (ret Value.none) _ _ _
     refine wpAny_pure ⟨rfl,h',tk',rfl,so,λb o z g=>?_⟩
     have z1:b≠s.heap.objs.size:=Nat.ne_of_lt z
     have z2:b≠(s.heap.push (qk led)).objs.size:=by rw [Heap.size_push];exact Nat.ne_of_lt (Nat.lt_succ_of_lt z)
     exact mv.heap b o (by simp only [List.mem_cons,List.mem_singleton,List.not_mem_nil,or_false,not_or];exact ⟨z1,z2⟩) (Heap.get?_push_of_some _ (Heap.get?_push_of_some _ g))
   ·cases r2 with
    | error e=>exact hr2
    | ok fl2 =>
     cases fl2 with
     | ret r =>
      obtain ⟨rfl,h',tk,rfl,so,kp⟩:=hr2
      repeat (any_goals (first | assumption | wp_step))
      exact fin _ _ so kp
     | _=>exact hr2.elim
  | _=>exact hr.elim
def tM (a:Addr) (n:Nat) (h:Heap):Prop:=∃ o es ep t,h.get? a=some o/\o.ExactSet/\o.data=.set es ep t/\t.fits es.size=true/\es.size=n
section
variable {X:Cx}
theorem uK:∀ {zs:List Str} {us:List Value} (i:Nat) (v:Value),Vals (zs.map V.str) us->us[i]?=some v->∃ t,v=.str (zs.getD i "") t
 | [],us,i,v,h,e=>by cases h;simp at e
 | z::zs,us,i,v,h,e=>by
  cases h with
  | cons r t =>
   obtain ⟨tk,rfl⟩:=r
   cases i with
   | zero =>
    have e':Value.str z tk=v:=by simpa using e
    exact ⟨tk,e'.symm⟩
   | succ i =>
    obtain ⟨t',e'⟩:=uK (zs:=zs) i v t (by simpa using e)
    exact ⟨t',by simpa using e'⟩
def o4 (zs:List Str):Nat:=(met (λi=>zs.getD i "") zs.length).length
theorem uW (hc:X.calm=true):gF X (.type "set") (λxs H Q=>∃ (l:Addr) (zs:List Str),xs=[.ref l]/\SqL X.K H l (zs.map V.str)/\zs.length≤100/\∀ p,H p=none->Q (.ref p) (upd H p (.ext (tM p (o4 zs))))):=by
 intro pins s σ H xs us Q I r h
 obtain ⟨l,zs,rfl,hq,hz,q⟩:=h
 obtain ⟨u,rfl,ru⟩:=fX r
 cases ru
 obtain ⟨its,rv,p,_⟩:=I.list hq
 have lr:=rv.length
 rw [List.length_map] at lr
 refine uV (f:=λi=>zs.getD i "") (I.ok.hd hc) p.isList (λi v e=>uK i v rv (by simpa using e)) (by unfold scanBound;simp;omega) λh' tk so kp=>?_
 have so':tM s.heap.objs.size (o4 zs) h':=by
  obtain ⟨o,es,ep,t,a1,a2,a3,_,_,_,a4,a5⟩:=so
  refine ⟨o,es,ep,t,a1,a2,a3,a4,?_⟩
  rw [a5]
  unfold o4
  rw [lr]
  simp
 refine ⟨.ref s.heap.objs.size,_,I.laid (t':=tk) (λb o e=>kp b o (Heap.lt_size e) e) (Nat.le_refl _) (show ObjOk X.prog X.w _ h' _ (.ext (tM s.heap.objs.size (o4 zs))) from ⟨so',?_,λh1 h2 z k=>?_⟩),rfl,q _ (I.hok.fresh (Nat.le_refl _))⟩
 ·obtain ⟨o,_,_,_,a1,_⟩:=so'
  exact ⟨o,a1⟩
 ·obtain ⟨o,es,ep,t,a1,rest⟩:=z
  exact ⟨o,es,ep,t,k _ a1,rest⟩
theorem qK:gF X (.builtin "len") (λxs H Q=>∃ (p:Addr) (n:Nat),xs=[.ref p]/\H p=some (.ext (tM p n))/\n≤1000/\Q (.int n) H):=by
 intro pins s σ H xs us Q I r h
 obtain ⟨p,n,rfl,hp,hn,q⟩:=h
 obtain ⟨u,rfl,ru⟩:=fX r
 cases ru
 obtain ⟨⟨o,es,ep,t,a1,a2,a3,a4,a5⟩,_⟩:=(show ObjOk X.prog X.w H s.heap p (.ext (tM p n)) from I.hok p _ hp)
 subst a5
 exact call_len_set a1 a2 a3 a4 (by omega) ⟨.int (es.size:Nat),H,I.tok _,⟨_,rfl⟩,q⟩
end
theorem Same.aLst (e:Same H H') (h:aLst K H a xs):aLst K H' a xs:=h.elim (λz=>.inl (e _ _ z)) .inr
def LD (K:PySem.W.Frag) (H:Hp) (ds:List D) (v:V):Prop:=∃ a vs,v=.ref a/\aLst K H a vs/\Dats K H ds vs
theorem Same.ld (e:Same H H') (h:LD K H ds v):LD K H' ds v:=by
 obtain ⟨a,vs,e1,h1,h2⟩:=h
 exact ⟨a,vs,e1,e.aLst h1,e.dats h2⟩
theorem LD.lst (h:LD K H ds v):Dat K H .lst v:=by
 obtain ⟨a,vs,rfl,h1,_⟩:=h
 exact Dat.lstI h1.sqL
theorem LD.of (h:H a=some (.lst vs)) (hd:Dats K H ds vs):LD K H ds (.ref a):=⟨a,vs,rfl,.inl h,hd⟩
inductive Ar where
 | d (x:D)
 | l (ds:List D)
def ArI (K:PySem.W.Frag) (H:Hp):Ar->V->Prop
 | .d x,v=>Dat K H x v
 | .l ds,v=>LD K H ds v
inductive Ars (K:PySem.W.Frag) (H:Hp):List Ar->List V->Prop
 | nil:Ars K H [] []
 | cons {a v as vs}:ArI K H a v->Ars K H as vs->Ars K H (a::as) (v::vs)
theorem Same.ari {a:Ar} (e:Same H H') (h:ArI K H a v):ArI K H' a v:=by
 cases a with
 | d x=>exact e.dat h
 | l ds=>exact e.ld h
theorem Ars.length {as:List Ar} (h:Ars K H as vs):as.length=vs.length:=by
 induction h with
 | nil=>rfl
 | cons _ _ ih=>simp [ih]
theorem Bi {a:Ar} (h:Ars K H [a] vs):∃ u,vs=[u]/\ArI K H a u:=by
 cases h with
 | cons h1 h2=>cases h2;exact ⟨_,rfl,h1⟩
variable {b:Ar}
theorem oR {a:Ar} (h:Ars K H [a,b] vs):∃ u v,vs=[u,v]/\ArI K H a u/\ArI K H b v:=by
 cases h with
 | cons h1 h2=>obtain ⟨v,rfl,q⟩:=Bi h2;exact ⟨_,v,rfl,h1,q⟩
variable {c:Ar}
theorem yZ {a:Ar} (h:Ars K H [a,b,c] vs):∃ u v w,vs=[u,v,w]/\ArI K H a u/\ArI K H b v/\ArI K H c w:=by
 cases h with
 | cons h1 h2=>obtain ⟨v,w,rfl,q,q'⟩:=oR h2;exact ⟨_,v,w,rfl,h1,q,q'⟩
theorem y0 {a d:Ar} (h:Ars K H [a,b,c,d] vs):∃ u v w x,vs=[u,v,w,x]/\ArI K H a u/\ArI K H b v/\ArI K H c w/\ArI K H d x:=by
 cases h with
 | cons h1 h2=>obtain ⟨v,w,x,rfl,q,q',q''⟩:=yZ h2;exact ⟨_,v,w,x,rfl,h1,q,q',q''⟩
def spA (K:PySem.W.Frag) (R:List Ar->D->Prop):Sp:=λvs H Q _=>∃ as d,Ars K H as vs/\R as d/\∀ v H',Same H H'->Dat K H' d v->Q v H'
def iu (K:PySem.W.Frag) (R:List Ar->List D->Prop):Sp:=λvs H Q _=>∃ as es,Ars K H as vs/\R as es/\∀ r us H',Same H H'->H' r=some (.lst us)->H r=none->Dats K H' es us->Q (.ref r) H'
def RL (K:PySem.W.Frag) (t:TE) (σ:St) (H:Hp) (ds:List D):Prop:=∀ H1,Same H H1->∀ Q:VK,(∀ v H',Same H1 H'->LD K H' ds v->Q v H')->t σ H1 Q
def RB (K:PySem.W.Frag) (t:TA) (σ:St) (H:Hp) (as:List Ar):Prop:=∀ H1,Same H H1->∀ Q:List V->Hp->Prop,(∀ vs H',Same H1 H'->Ars K H' as vs->Q vs H')->t σ H1 Q
section
variable {K:PySem.W.Frag} {σ:St} {H H':Hp} {d d':D} {ds es:List D} {t u ta tb te tl:TE} {tt uu:TT} {tA:TA} {i j:Int} {b c:Bool} {mk:St->St} {jj:Nat} {ar:List Ar}
theorem RL.mono (h:RL K t σ H es) (e:Same H H'):RL K t σ H' es:=λH1 s Q q=>h H1 (e.trans s) Q q
theorem RL.use {Q:VK} (h:RL K t σ H es) (q:∀ v H',Same H H'->LD K H' es v->Q v H'):t σ H Q:=h H (Same.refl H) Q q
theorem bS:RB K d8 σ H []:=λH1 _ Q q=>q _ _ (Same.refl _) .nil
theorem dC (h:RE K t σ H d) (r:RB K tA σ H ar):RB K (bP t tA) σ H (.d d::ar):=λH1 s Q q =>
 h H1 s _ λv H2 s2 q2=>r H2 (s.trans s2) _ λvs H3 s3 q3=>q _ _ (s2.trans s3) (.cons (s3.ari (a:=.d d) q2) q3)
theorem cW (h:RL K t σ H ds) (r:RB K tA σ H ar):RB K (bP t tA) σ H (.l ds::ar):=λH1 s Q q =>
 h H1 s _ λv H2 s2 q2=>r H2 (s.trans s2) _ λvs H3 s3 q3=>q _ _ (s2.trans s3) (.cons (s3.ari (a:=.l ds) q2) q3)
variable {v:V}
theorem aN {k:Nat} (h:LD K H ds v) (e:σ[k]?=some (some v):=by rfl):RL K (iS k) σ H ds:=λH1 s Q q=>⟨v,e,q _ _ (Same.refl _) (s.ld h)⟩
theorem eB (h:RC K t σ H es):RL K t σ H es:=λH1 s Q q=>h H1 s _ λl ys H' _ s' hy hd=>q _ _ s' (LD.of hy hd)
theorem B7 {a:Addr} (h:mz K ds a=true):RL K (tC (.ref a)) σ H ds:=λH1 _ Q q=>by
 obtain ⟨vs,h1,h2⟩:=pE h H1
 exact q _ _ (Same.refl _) ⟨a,vs,rfl,.inr h1,h2⟩
variable {E:XK}
theorem cC {R:List Ar->D->Prop} (h:RB K tA σ H ar) (e:R ar d):RE K (mX (spA K R) [] E tA) σ H d:=λH1 s Q q =>
 h H1 s _ λvs H2 s2 q2=>⟨ar,d,by rw [List.append_nil];exact q2,e,λv H3 s3 q3=>q _ _ (s2.trans s3) q3⟩
theorem cT {R:List Ar->List D->Prop} (h:RB K tA σ H ar) (e:R ar es):RC K (mX (iu K R) [] E tA) σ H es:=λH1 s Q q =>
 h H1 s _ λvs H2 s2 q2=>⟨ar,es,by rw [List.append_nil];exact q2,e,λr us H3 s3 hr hr0 hd=>q r us H3 (s2.free hr0) (s2.trans s3) hr hd⟩
theorem hU {k:Nat} (h1:RL K ta σ H ds) (h2:RE K tb σ H (.int k)) (e:ds[k]?=some d):RE K (tOp (Ae K) ta tb) σ H d:=λH1 s Q q =>
 h1 H1 s _ λv H2 s2 q2=>h2 H2 (s.trans s2) _ λw H3 s3 q3=>by
  obtain ⟨a,vs,ev,hq,hd⟩:=s3.ld q2
  obtain ⟨x,ex,hx⟩:=hd.get e
  exact ⟨a,vs,k,x,ev,q3.intE,hq.sqL,iw ex,q _ _ (s2.trans s3) hx⟩
theorem Dats.snocE {b:D}:∀ {as:List D} {vs:List V},Dats K H (as++[b]) vs->∃ us v,vs=us++[v]/\Dats K H as us/\Dat K H b v
 | [],vs,h=>by
  obtain ⟨v,rfl,q⟩:=gx h
  exact ⟨[],v,rfl,Dats.nil,q⟩
 | a::as,vs,h=>by
  obtain ⟨v,r,rfl,h1,h2⟩:=h.consE
  obtain ⟨us,w,rfl,q1,q2⟩:=Dats.snocE (as:=as) h2
  exact ⟨v::us,w,rfl,Dats.cons h1 q1,q2⟩
theorem oE (h1:RL K ta σ H (ds++[d])) (h2:RE K tb σ H (.int (-1))):RE K (tOp (Ae K) ta tb) σ H d:=λH1 s Q q =>
 h1 H1 s _ λv H2 s2 q2=>h2 H2 (s.trans s2) _ λw H3 s3 q3=>by
  obtain ⟨a,vs,ev,hq,hd⟩:=s3.ld q2
  obtain ⟨us,x,rfl,hu,hx⟩:=hd.snocE
  exact ⟨a,_,-1,x,ev,q3.intE,hq.sqL,wJ us x,q _ _ (s2.trans s3) hx⟩
theorem fD (h:RL K t σ H es):RE K (tCB (λxs H Q=>∃ p ys,xs=[.ref p]/\(SqL K H p ys\/SqT K H p ys)/\Q (.int ys.length) H) (bP t d8)) σ H (.int es.length):=λH1 s Q q =>
 gL ((h.mono s).use λv H' s' hd=>by
  obtain ⟨l,ys,rfl,hy,hd⟩:=hd
  exact ⟨l,ys,rfl,.inl hy.sqL,by rw [← hd.length];exact q _ _ s' (Dat.intI _)⟩)
theorem xh:∀ {ns:List Int} {vs:List V},Dats K H (ns.map D.int) vs->vs=ns.map V.int
 | [],vs,h=>by rw [Dats.nilE h];rfl
 | n::ns,vs,h=>by
  obtain ⟨v,r,e,h1,h2⟩:=h.consE
  rw [e,h1.intE,xh h2]
  rfl
theorem Ap {ns:List Int} (h:RL K t σ H (ns.map D.int)):RE K (tCB (λxs H Q=>∃ (l:Addr) (ns:List Int),xs=[.ref l]/\SqL K H l (ns.map V.int)/\Q (.int ns.sum) H) (bP t d8)) σ H (.int ns.sum):=λH1 s Q q =>
 gL ((h.mono s).use λv H' s' hd=>by
  obtain ⟨l,ys,rfl,hy,hd⟩:=hd
  exact ⟨l,ns,rfl,by rw [← xh hd];exact hy.sqL,q _ _ s' (Dat.intI _)⟩)
def isN:D->Bool
 | .non=>true
 | _=>false
theorem uk (h:Dat K H d v):decide (v=.non)=isN d:=by
 cases d with
 | non=>rw [h.nonE];rfl
 | bl b=>rw [h.blE];rfl
 | int i=>rw [h.intE];rfl
 | str x=>rw [h.strE];rfl
 | tup ds=>obtain ⟨a,vs,e,_⟩:=h.tupE;rw [e];rfl
 | lst=>obtain ⟨a,vs,e,_⟩:=h.lstE;rw [e];rfl
theorem mS (h:RE K ta σ H d):RE K (tOp (λx y H Q=>y=.non/\Q (.bl (decide (x=.non))) H) ta (tC .non)) σ H (.bl (isN d)):=λH1 s Q q =>
 h H1 s _ λv H2 s2 q2=>⟨rfl,by rw [uk q2];exact q _ _ s2 (Dat.blI _)⟩
theorem uD (h:RE K ta σ H d):RE K (tOp (λx y H Q=>y=.non/\Q (.bl (!decide (x=.non))) H) ta (tC .non)) σ H (.bl (!isN d)):=λH1 s Q q =>
 h H1 s _ λv H2 s2 q2=>⟨rfl,by rw [uk q2];exact q _ _ s2 (Dat.blI _)⟩
theorem fh {cs:List D} (h:RL K tl σ H cs) (hc:cs.length≤1000) (es:List D) (hl:es.length=cs.length) (h0:(mk σ).set jj none=mk σ)
  (turn:∀ H1 (i:Nat) c v d,Same H H1->cs[i]?=some c->es[i]?=some d->Dat K H1 c v->RE K te ((mk σ).set jj (some v)) H1 d):RC K (gW (oi K tl) mk (cy jj) fW te) σ H es:=λH1 s Q q=>by
 refine (h.mono s).use λv4 H4 s4 q4=>?_
 obtain ⟨l4,ys4,rfl,hy4,hd4⟩:=q4
 have ll:=hd4.length
 refine ⟨l4,rfl,⟨ys4,hy4.sqL⟩,?_⟩
 refine ia (K:=K) (Q:=Q) (n:=ys4.length) (item:=λi=>ys4.getD i .non) (λi H' s hi=>pd i H' (s.seq hy4.sqL) hi) (λH' s=>⟨ys4,s.seq hy4.sqL,Nat.le_refl _⟩) h0 es (by omega) (by omega) (λi d hi=>?_) (λl ys H5 hl5 s5=>q l ys H5 (s4.free hl5) (s4.trans s5))
 have hi':i < es.length:=(List.getElem?_eq_some_iff.mp hi).1
 have hic:i < cs.length:=by omega
 obtain ⟨vz,ez,hz⟩:=hd4.get (List.getElem?_eq_getElem hic)
 have q:=turn H4 i cs[i] vz d (s.trans s4) (List.getElem?_eq_getElem hic) hi hz
 rw [List.getD_eq_getElem?_getD,ez]
 exact q
theorem gb (h1:RL K ta σ H ds) (h2:RL K tb σ H es) (hl:ds.length+es.length≤1000):RC K (tOp (AS K) ta tb) σ H (ds++es):=λH1 s Q q =>
 h1 H1 s _ λv H2 s2 q2=>h2 H2 (s.trans s2) _ λw H3 s3 q3=>by
  obtain ⟨a,xs,rfl,ha,da⟩:=s3.ld q2
  obtain ⟨b,ys,rfl,hb,db⟩:=q3
  have l1:=da.length
  have l2:=db.length
  exact ⟨a,b,xs,ys,rfl,rfl,ha,hb,by omega,λp hp=>q p _ _ ((s2.trans s3).free hp) (s2.trans (s3.trans (aC hp _))) aq ((aC hp _).dats (Dats.append da db))⟩
variable {n:Nat}
theorem Bp {vs:List V}:kY vs none (some (n:Int))=vs.take n:=by
 unfold kY
 rw [HT.sIx_nat,HT.sIx_none]
 simp only [List.drop_zero,Nat.sub_zero]
 apply List.ext_getElem?
 intro i
 simp only [List.getElem?_take]
 by_cases h1:i < n
 ·rw [if_pos h1]
  by_cases h2:i < min n vs.length
  ·rw [if_pos h2]
  ·rw [if_neg h2,List.getElem?_eq_none (by omega)]
 ·rw [if_neg h1,if_neg (by omega)]
theorem yA (h:RL K t σ H ds) (h2:RE K tb σ H (.int n)):RC K (tSl (BZ K) t qv (sj tb)) σ H (ds.take n):=λH1 s Q q =>
 h H1 s _ λv H2 s2 q2=>h2 H2 (s.trans s2) _ λv4 H4 s4 q4=>⟨n,q4.intE,by
  obtain ⟨a,vs,rfl,hq,hds⟩:=s4.ld q2
  refine ⟨a,vs,rfl,hq.sqL,λp hp=>?_⟩
  rw [Bp]
  exact q p _ _ ((s2.trans s4).free hp) (s2.trans (s4.trans (aC hp _))) aq ((aC hp _).dats (Dats.takeN hds))⟩
end
section
variable {K:PySem.W.Frag} {σ:St} {H H':Hp} {d d':D} {ds es:List D} {t u ta tb te tl:TE}
theorem vP {zs:List Str} (h:RC K t σ H (zs.map D.str)) (hz:zs.length≤100):RE K (tCB (λxs H Q=>∃ (p:Addr) (n:Nat),xs=[.ref p]/\H p=some (.ext (tM p n))/\n≤1000/\Q (.int n) H)
  (bP (tCB (λxs H Q=>∃ (l:Addr) (zs:List Str),xs=[.ref l]/\SqL K H l (zs.map V.str)/\zs.length≤100/\∀ p,H p=none->Q (.ref p) (upd H p (.ext (tM p (o4 zs))))) (bP t d8)) d8)) σ H (.int (o4 zs)):=λH1 s Q q =>
 gL (gL ((h.mono s).use λl ys H2 _ s2 hy hd=>by
  refine ⟨l,zs,rfl,by rw [← t9 hd];exact SqL.of hy,hz,λp hp=>⟨p,o4 zs,rfl,aq,?_,q _ _ (s2.trans (aC hp _)) (Dat.intI _)⟩⟩
  have:=pF (λi=>zs.getD i "") zs.length
  unfold o4
  omega))
theorem uf (zs:List Str):∀ i,i≤zs.length->((∀ y,(met (λi=>zs.getD i "") i).any (· == y)=decide (y ∈ zs.take i))/\((met (λi=>zs.getD i "") i).length=i↔(zs.take i).Nodup))
 | 0,_=>⟨λy=>by simp [met],by simp [met]⟩
 | i+1,h=>by
  obtain ⟨i1,i2⟩:=uf zs i (by omega)
  have hle:=pF (λi=>zs.getD i "") i
  have hi:i < zs.length:=h
  have et:zs.take (i+1)=zs.take i++[zs[i]]:=by rw [List.take_add_one,List.getElem?_eq_getElem hi];rfl
  have eg:zs.getD i ""=zs[i]:=by rw [List.getD_eq_getElem?_getD,List.getElem?_eq_getElem hi];rfl
  refine ⟨λy=>?_,?_⟩
  ·rw [i4,ue,i1,et]
   simp only [eg,List.mem_append,List.mem_singleton]
   by_cases h1:y ∈ zs.take i <;> by_cases h2:y=zs[i] <;> simp [h1,h2]
  ·rw [i4,o5,i1,et]
   simp only [eg]
   rw [List.nodup_append]
   by_cases hm:zs[i] ∈ zs.take i
   ·rw [if_pos (decide_eq_true hm)]
    constructor
    ·intro z;omega
    ·rintro ⟨_,_,z⟩
     exact absurd rfl (z _ hm _ (List.mem_singleton.mpr rfl))
   ·rw [if_neg (by simpa using hm)]
    constructor
    ·intro z
     refine ⟨i2.mp (by omega),by simp,?_⟩
     rintro a ha b hb rfl
     rw [List.mem_singleton.mp hb] at ha
     exact hm ha
    ·rintro ⟨z,_⟩
     have:=i2.mpr z
     omega
theorem zo (zs:List Str):o4 zs=zs.length↔zs.Nodup:=by
 have h:=(uf zs zs.length (Nat.le_refl _)).2
 rw [List.take_length] at h
 exact h
end
def lJ (K:PySem.W.Frag):V->List V->Hp->VK->Prop:=λx vs H Q=>∃ l xs y ds d j,x=.ref l/\vs=[y]/\aLst K H l xs/\Dats K H ds xs/\Dat K H d y/\noLs ds=true/\noL d=true/\deepDs ds≤20/\xs.length≤1000 /\
 (∃ e,ds[j]?=some e/\eqD e d=true)/\(∀ (m:Nat) e,m < j->ds[m]?=some e->eqD e d=false)/\Q (.int (j:Nat)) H
section
variable {X:Cx}
theorem vw {k:Nat} (hr:Room k X.A):MtM X "list.index" (lJ X.K):=by
 intro pins s σ H x vs v us Q I rx rv h
 obtain ⟨l,xs,y,ds,d,j,rfl,rfl,hH,hds,hd,n1,n2,dp,hx,⟨e0,he0,hit⟩,hno,q⟩:=h
 cases rx
 obtain ⟨u,rfl,ru⟩:=fX rv
 obtain ⟨its,n,r,e⟩:=hH.at I
 have hl:=r.length
 have ll:=hds.length
 have item:∀ (m:Nat) (w:Value),its[m]?=some w->∃ g,ds[m]?=some g/\∃ xv,RelV xv w/\Dat X.K H g xv:=λm w hw=>by
  have hm:m < its.length:=(List.getElem?_eq_some_iff.mp hw).1
  obtain ⟨g,hg,dg⟩:=hds.getV (i:=m) (v:=xs[m]'(by omega)) (List.getElem?_eq_getElem (by omega))
  obtain ⟨w',hw',rr⟩:=r.get (i:=m) (x:=xs[m]'(by omega)) (List.getElem?_eq_getElem (by omega))
  rw [hw] at hw'
  cases hw'
  exact ⟨g,hg,_,rr,dg⟩
 have relInj:∀ {x1 x2:V} {w:Value},RelV x1 w->RelV x2 w->x1=x2:=λ{x1 x2 w} h1 h2=>RelV.inj h1 h2
 classical
 let eq:Value->Bool:=λw=>if hw:∃ m:Nat,its[m]?=some w then (match ds[Classical.choose hw]? with | some g=>eqD g d | none=>false) else false
 have eqAt:∀ (m:Nat) (w:Value) (g:D),its[m]?=some w->ds[m]?=some g->eq w=eqD g d:=λm w g hw hg=>by
  have hw':∃ m:Nat,its[m]?=some w:=⟨m,hw⟩
  show (if hw:∃ m:Nat,its[m]?=some w then _ else false)=_
  rw [dif_pos hw']
  have hc:=Classical.choose_spec hw'
  obtain ⟨g',hg',xv',r1,d1⟩:=item _ w hc
  obtain ⟨g2,hg2,xv,r2,d2⟩:=item m w hw
  rw [hg] at hg2
  cases hg2
  rw [hg']
  have ex:=relInj r1 r2
  subst ex
  have:=lD I g' g (e9 n1 hg') d1 d2 (e9 n1 hg)
  rw [this]
 have hj:j < ds.length:=(List.getElem?_eq_some_iff.mp he0).1
 have hu:X.A.in1.units+20+1 < cLine:=by
  have:=hr.un
  show X.A.units+1+20+1 < cLine
  omega
 refine call_meets PySem.F.slot_list_index ⟨_,e,rfl⟩ PySem.F.entry_list_index (PySem.F.args_list_index_2 _ _) (SeqAt.list_indexAt l its.toArray n none #[] u eq j (by simp;omega) (by omega) ?_ ?_) ⟨e,?_,?_⟩
 ·have hw:its[j]?=some (its[j]'(by omega)):=List.getElem?_eq_getElem (by omega)
  have:=eqAt j _ e0 hw he0
  simpa [this] using hit
 ·intro m hm hmj
  have hm':m < its.length:=by simpa using hm
  have hw:its[m]?=some (its[m]'hm'):=List.getElem?_eq_getElem hm'
  obtain ⟨g,hg,_⟩:=item m _ hw
  have:=eqAt m _ g hw hg
  simpa [this] using hno m g hmj hg
 ·intro w hw
  obtain ⟨m,hm,rfl⟩:=Array.getElem_of_mem hw
  have hm':m < its.length:=by simpa using hm
  have hw2:its[m]?=some (its[m]'hm'):=List.getElem?_eq_getElem hm'
  obtain ⟨g,hg,xv,r1,d1⟩:=item m _ hw2
  have z1:its.toArray[m]=its[m]'hm':=by simp
  rw [z1,eqAt m _ g hw2 hg]
  exact o6 I 20 X.A.in1 g d xv y _ u hu (Nat.le_trans (iy hg) dp) (e9 n1 hg) n2 d1 hd r1 ru
 ·exact ⟨.int (j:Nat),H,I.tok _,⟨_,rfl⟩,q⟩
theorem kr {k:Nat} (hr:Room k X.A):MtR X "list.index" (lJ X.K):=vw hr
end
section
variable {K:PySem.W.Frag} {σ:St} {H:Hp} {te:TE}
theorem mR {k j:Nat} {v:V} {ds:List D} {d:D} (hv:LD K H ds v) (h:RE K te σ H d) (n1:noLs ds=true) (n2:noL d=true) (dp:deepDs ds≤20) (hl:ds.length≤1000) (h1:∃ e,ds[j]?=some e/\eqD e d=true) (h2:∀ (m:Nat) e,m < j->ds[m]?=some e->eqD e d=false) (e:σ[k]?=some (some v):=by rfl) :
  RE K (tBM K "list" (lJ K) (iS k) (bP te d8)) σ H (.int (j:Nat)):=λH1 s Q q=>by
 obtain ⟨a,vs,rfl,hq,hd⟩:=s.ld hv
 have ll:=hd.length
 refine ⟨_,e,.inl ⟨rfl,_,hq.sqL⟩,h H1 s _ λy H2 s2 q2=>?_⟩
 exact ⟨a,vs,y,ds,d,j,rfl,rfl,s2.aLst hq,s2.dats hd,q2,n1,n2,dp,by omega,h1,h2,q _ _ s2 (Dat.intI _)⟩
end
theorem zz {g:TG} {tb:TS} {D:iQ} (Pv:Nat->St->Hp->Prop) (h0:Pv 0 σ H) (hl:∀ i σ H,i≤xs.length->Pv i σ H->SqL K H a xs)
  (hs:∀ i x σ H,i < xs.length->xs[xs.length - 1 - i]?=some x->Pv i σ H->g x σ H λσ2 H2=>tb { D with nx:=Pv (i+1),ct:=Pv (i+1),bk:=D.nx } σ2 H2) (hd:∀ σ H,Pv xs.length σ H->D.nx σ H) :
  ∃ W:Nat->Nat->St->Hp->Prop,(∃ m,W 0 m σ H)/\∀ i m σ H,W i m σ H ->
   ((Itv K a xs).stop i H/\D.nx σ H)\/((Itv K a xs).go i H/\∃ N:St->Hp->Prop,(∀ σ' H',N σ' H'->∃ m',m' < m/\W (i+1) m' σ' H')/\∀ x H',(Itv K a xs).yld i H x H'->g x σ H' λσ2 H2=>tb { D with nx:=N,ct:=N,bk:=D.nx } σ2 H2):=by
 refine ⟨λi m σ H=>m=xs.length - i/\i≤xs.length/\Pv i σ H,⟨xs.length,by simp,Nat.zero_le _,h0⟩,?_⟩
 rintro i m σ H ⟨rfl,hi,p⟩
 have q:=hl i σ H hi p
 by_cases hlt:i < xs.length
 ·refine .inr ⟨⟨hlt,q⟩,Pv (i+1),λσ' H' p'=>⟨xs.length - (i+1),by omega,rfl,hlt,p'⟩,λx H' y=>?_⟩
  obtain ⟨e,y⟩:=y
  subst e
  exact hs i x σ _ hlt y p
 ·have e:i=xs.length:=by omega
  subst e
  exact .inl ⟨rfl,hd σ H p⟩
theorem kN (Ok:Hp->Prop)
  (go:∀ i H',Ok H'->i < n->J.go i H'/\∀ x H'',J.yld i H' x H''->H''=H'/\x=item i) (stop:∀ H',Ok H'->J.stop n H') (h0:σ0.set j none=σ0)
  (D:Addr) (Pn:Nat->Hp->Prop) (p0:Pn 0 (upd H1 D (.lst []))) (ok:∀ i H',i≤n->Pn i H'->Ok H')
  (turn:∀ i H',i < n->Pn i H'->tt (σ0.set j (some (item i))) H' λb H3=>if b=true then te (σ0.set j (some (item i))) H3 λv H4=>∃ ys,H4 D=some (.lst ys)/\ys.length < sizeLine/\(∃ z,σ0.set j (some (item i))=σ0.set j z)/\Pn (i+1) (upd H4 D (.lst (ys++[v]))) else (∃ z,σ0.set j (some (item i))=σ0.set j z)/\Pn (i+1) H3)
  (fin:∀ H',Pn n H'->Q (.ref D) H') :
  ∃ W:Nat->Nat->St->Hp->Prop,(∃ m,W 0 m σ0 (upd H1 D (.lst [])))/\∀ i m σ' H',W i m σ' H' ->
   (J.stop i H'/\Q (.ref D) H') \/
   (J.go i H'/\∃ Nx:St->Hp->Prop,(∀ σ'' H'',Nx σ'' H''->∃ m',m' < m/\W (i+1) m' σ'' H'')/\∀ x H'',J.yld i H' x H''->cy j x σ' H'' λσ2 H2=>tt σ2 H2 λb H3 =>
    if b=true then te σ2 H3 λv H4=>∃ ys,H4 D=some (.lst ys)/\ys.length < sizeLine/\Nx σ2 (upd H4 D (.lst (ys++[v]))) else Nx σ2 H3):=by
 refine ⟨λi m σ' H'=>m=n - i/\i≤n/\(∃ z,σ'=σ0.set j z)/\Pn i H',⟨n,by omega,Nat.zero_le _,⟨none,h0.symm⟩,p0⟩,?_⟩
 rintro i m σ' H' ⟨rfl,hi,⟨z,rfl⟩,p⟩
 have o:=ok i H' hi p
 by_cases hlt:i < n
 ·obtain ⟨g,y⟩:=go i H' o hlt
  refine .inr ⟨g,λσ'' H''=>(∃ z,σ''=σ0.set j z)/\Pn (i+1) H'',λσ'' H'' q=>⟨n - (i+1),by omega,rfl,hlt,q.1,q.2⟩,λx H'' yx=>?_⟩
  obtain ⟨e1,e2⟩:=y x H'' yx
  subst e1 e2
  simp only [cy,j7]
  exact turn i _ hlt p
 ·have e:i=n:=by omega
  subst e
  exact .inl ⟨stop H' o,fin H' p⟩
theorem BQ {o:Expr} {to:TE} {name:Str} {apos cpos:Pos} {T id:String} {r:V->List V->Hp->VK->Prop} (K:PySem.W.Frag) (hK:X.K=K) (pa:PlainAttrs T) (slot:Slot T name id) (hty:typeOf (.builtin id)=pure (.type "method_descriptor")) (hm:MtR X id r) (ho:PE X o to) (ha:PA X (e::es) t)
  (hbase:attributeBase o name X.env (eval o X.env)=eval o X.env:=by rfl)
  (hfew:((backTo cpos (starEach (e::es) X.env)).all (λx=>!x.1) && (backToKw cpos (keywordEach [] X.env)).all (λx=>x.1.isSome)
   && decide ((e::es).length+([]:List Keyword).length+(if ([]:List Keyword).isEmpty then 0 else 1) < 30))=true:=by rfl)
  (hline:(apos.endLine == cpos.line)=true:=by rfl) (hs:starEach (e::es) X.env=(false,eval e X.env)::starEach es X.env:=by rfl) (hplain:(backTo cpos (starEach es X.env)).any (·.1)=false:=by rfl) :
  PE X (.Call (.Attribute o name apos) (e::es) [] cpos) (tBM K T r to t):=by
 subst hK
 exact de pa slot hty hm ho ha hbase hfew hline hs hplain
theorem bj (a b:D) (r q:List D):eqDs (a::r) (b::q)=(eqD a b && eqDs r q):=by rw [eqDs]
theorem bM:eqDs [] []=true:=by rw [eqDs]
theorem bL (b:D) (q:List D):eqDs [] (b::q)=false:=by unfold eqDs;rfl
theorem bK (a:D) (r:List D):eqDs (a::r) []=false:=by unfold eqDs;rfl
theorem cq (a b:List D):eqD (.tup a) (.tup b)=eqDs a b:=by rw [eqD]
theorem cn (a b:Str):eqD (.str a) (.str b)=decide (a=b):=by
 unfold eqD
 by_cases h:a=b <;> simp [h]
theorem cm (a b:Int):eqD (.int a) (.int b)=decide (a=b):=by
 unfold eqD
 by_cases h:a=b <;> simp [h]
theorem rW (M:Addr->List V->Hp->Prop) (h:∀ R:VK,(∀ r us H1,H1 r=some (.lst us)->M r us H1->R (.ref r) H1)->tl σ H R) (h0:(mk σ).set j none=mk σ)
  (body:∀ r us H1 l,H1 r=some (.lst us)->M r us H1->H1 l=none->∃ Pn:Nat->Hp->Prop,Pn 0 (upd H1 l (.lst []))/\(∀ i G,i≤us.length->Pn i G->SqL K G r us) /\
   (∀ i G,i < us.length->Pn i G->tt ((mk σ).set j (some (us.getD i .non))) G λb H3=>if b=true then te ((mk σ).set j (some (us.getD i .non))) H3 λv H4=>∃ ys,H4 l=some (.lst ys)/\ys.length < sizeLine/\(∃ z,(mk σ).set j (some (us.getD i .non))=(mk σ).set j z)/\Pn (i+1) (upd H4 l (.lst (ys++[v]))) else (∃ z,(mk σ).set j (some (us.getD i .non))=(mk σ).set j z)/\Pn (i+1) H3) /\
   ∀ G,Pn us.length G->Q (.ref l) G):gW (oi K tl) mk (cy j) tt te σ H Q:=by
 refine h _ λr us H1 hr hM=>⟨r,rfl,⟨us,SqL.of hr⟩,λl hl=>?_⟩
 obtain ⟨Pn,b1,b2,b3,b4⟩:=body r us H1 l hr hM hl
 exact kN (J:=Itl K r) (n:=us.length) (item:=λi=>us.getD i .non) (λG=>SqL K G r us) (λi G o hi=>pd i G o hi) (λG o=>⟨us,o,Nat.le_refl _⟩) h0 l Pn b1 b2 b3 b4
section
variable {P:Program} {w:World} {H H':Hp} {h h1 h2:Heap} {a b T:Addr} {o:HO} {fs:List Addr}
end
section
variable {X:Cx} {pins:List (Addr × Obj)} {σ:St} {H:Hp} {s s':Shared} {E:XK} {e:Value}
end
section
variable {X:Cx} {CX:CXT} {k:Nat} {f C:Addr} {fd:FuncData} {ps:List Str} {sp:Sp} {dvs:List V} {ds:List Value} {E:St->XK} {x m:Str} {p pos apos:Pos} {e o:Expr} {es:List Expr} {ta:TE} {t:TA}
end
section
variable {X:Cx} {pins pins':List (Addr × Obj)} {σ:St} {H:Hp} {s:Shared} {xe:Value->Shared->Prop} {e:Value}
end
end L2
namespace L2
open PySem PySem.Spec PySem.Calls PyProof.Rows PySem.W PySem.Builtin PySem.Builtin.ObjectAttr PySem.Builtin.Getset_descriptor
section
variable {prog:Program} {w:World} {A:Around} {E:Value->Shared->Prop} {s:Shared} {K:Frag} {x D:Addr} {ox:Obj} {od:Option Obj} {name:Str}
end
section
variable {X:Cx} {pins:List (Addr × Obj)} {σ:St} {H H':Hp} {s s2:Shared} {a:Addr} {o:HO}
end
end L2
namespace L2
open PySem PySem.Spec PySem.Calls PyProof.Rows
section
variable {P:Program} {w:World} {K:PySem.W.Frag} {mg:Str->Option Value} {base:Heap}
end
section
variable {X:Cx} {k:Nat} {f:Addr} {fd:FuncData} {ps:List Str} {sp:Sp} {dvs:List V} {ds:List Value} {E:XK} {x:Str} {p pos:Pos} {e:Expr} {es:List Expr} {t:TA}
end
section
variable {X:Cx}
end
section
variable {P:Program} {w:World} {K:PySem.W.Frag} {mg:Str->Option Value} {base:Heap}
end
section
variable {X:Cx} {CX:CXT} {k:Nat} {f C:Addr} {fd:FuncData} {ps ks:List Str} {sp:Sp} {E:St->XK} {x m:Str} {p pos apos kpos:Pos} {e o:Expr} {es:List Expr} {kws:List Keyword} {te ta:TE} {t tk:TA} {nm:Option Str} {g:List Value->List Value->List Value} {gV:List V->List V->List V}
end
section
variable {K:PySem.W.Frag} {σ:St} {H:Hp} {tA tK:TA} {ds es fs:List D} {d e:D} {dvs:List V} {R:List D->D->Prop} {B:List D->Addr->Prop} {E:XK} {Q:VK} {C:Addr} {gV:List V->List V->List V} {ta tb:TE}
theorem Am (h1:RE K ta σ H d) (h2:RE K tb σ H e) (n1:noL d=true) (n2:noL e=true) (dp:d9 d≤20):RE K (tOp (CQ K false) ta tb) σ H (.bl (eqD d e)):=λH1 s Q q =>
 h1 H1 s _ λv H2 s2 q2=>h2 H2 (s.trans s2) _ λw H3 s3 q3=>⟨d,e,s3.dat q2,q3,n1,n2,dp,q _ _ (s2.trans s3) (Dat.blI _)⟩
end
section
variable {X:Cx}
end
end L2
namespace L2
open PySem PySem.Spec PySem.Calls PyProof.Rows PySem.W PySem.Builtin PySem.Builtin.ObjectAttr
section
variable {prog:Program} {w:World} {A:Around} {E:Value->Shared->Prop} {K:Frag} {C fI:Addr} {us:List Value}
end
section
variable {h:Heap} {x b:Addr} {o:Obj} {vs:Array Value}
end
section
variable {prog:Program} {w:World} {A:Around} {E:Value->Shared->Prop} {s:Shared} {K:Frag} {x C:Addr} {ox:Obj} {name:Str} {v:Value} {vs:Array Value}
end
section
variable {X:Cx} {pins:List (Addr × Obj)} {σ:St} {H:Hp} {s s':Shared} {C fI e:Addr} {fd:FuncData} {k:Nat} {ps:List Str} {a0:Value}
end
end L2
namespace L2
open PySem PySem.Spec PySem.Calls PyProof.Rows
abbrev dP (h:Heap) (it t:Addr) (i:Nat):Prop:=h.get? it=some { cls:=.type "tuple_iterator",dict:=none,data:=.fields #[.ref t,rawInt i],slots:=#[] }
section
variable {prog:Program} {w:World} {A:Around} {E:Value->Shared->Prop} {s:Shared} {it t:Addr} {i:Nat} {items:Array Value}
theorem m6 {x:Value} {Q:Value->Shared->Prop} (a1:dP s.heap it t i) (a2:s.heap.IsTuple t items) (hx:items[i]?=some x)
  (q:∀ h',dP h' it t (i+1)->Heap.SameBut it s.heap h'->Q x { s with heap:=h' }):wpAny (model prog w) A (Builtin.SmallTypes.nextOf (.ref it)) Q E s:=by
 have ty:s.TypeIs (.ref it) "tuple_iterator":=⟨_,a1,rfl⟩
 obtain ⟨⟨c2,d2,dt2,s2⟩,a2,hc,n,hd⟩:=a2
 obtain rfl:c2=.type "tuple":=hc
 obtain rfl:dt2=.seq items n:=hd
 unfold Builtin.SmallTypes.nextOf
 refine wpAny_bind (wpAny_callSpecial?_slot (name:=Str.ofString "__next__") ty PySem.F.slot_tuple_iterator_next (wpAny_call_entry PySem.F.slot_tuple_iterator_next ty PySem.F.entry_tuple_iterator_next ?_ (PySem.F.args_tuple_iterator_next_1 _)))
 obtain ⟨h0,g0,d0,t0,o0⟩:=s
 unfold dP rawInt at a1
 wp_walk
 rw [Int.toNat_natCast,hx]
 refine wpAny_bind (wpAny_setField_rec a1 (by simp) λh' b1 b2=>wpAny_pure ⟨x,rfl,wpAny_pure (q h' ?_ b2)⟩)
 show h'.get? it=some _
 have e:((i+1:Nat):Int)=(i:Int)+1:=by omega
 rw [e]
 exact b1
theorem tQ {Q:Value->Shared->Prop} (hh:A.handled=none) (a1:dP s.heap it t i) (a2:s.heap.IsTuple t items) (hx:items[i]?=none)
  (q:∀ h' e,Heap.ExtBut it s.heap h'->(∃ o,h'.get? e=some o/\o.cls=.type "StopIteration")->E (.ref e) { s with heap:=h' }):wpAny (model prog w) A (Builtin.SmallTypes.nextOf (.ref it)) Q E s:=by
 have ty:s.TypeIs (.ref it) "tuple_iterator":=⟨_,a1,rfl⟩
 obtain ⟨⟨c2,d2,dt2,s2⟩,a2,hc,n,hd⟩:=a2
 obtain rfl:c2=.type "tuple":=hc
 obtain rfl:dt2=.seq items n:=hd
 unfold Builtin.SmallTypes.nextOf
 refine wpAny_bind (wpAny_callSpecial?_slot (name:=Str.ofString "__next__") ty PySem.F.slot_tuple_iterator_next (wpAny_call_entry PySem.F.slot_tuple_iterator_next ty PySem.F.entry_tuple_iterator_next ?_ (PySem.F.args_tuple_iterator_next_1 _)))
 obtain ⟨h0,g0,d0,t0,o0⟩:=s
 unfold dP rawInt at a1
 wp_walk
 rw [Int.toNat_natCast,hx]
 refine wpAny_bind (wpAny_rule (wpAny_bind (wpAny_setField_rec a1 (by simp) λh' b1 b2=>?_)))
 unfold Builtin.SmallTypes.stopIteration
 wp_walk
 exact wpAny_raiseNew_none hh (q _ _ ((b2.extBut.push _).push _) ⟨_,Heap.get?_push_size _ rfl,rfl⟩)
end
abbrev yH (t:Addr):Obj:={ cls:=.type "tuple_iterator",data:=.fields #[.ref t,.int 0 0] }
abbrev nT (it:Addr):Obj:={ cls:=.type "enumerate",data:=.fields #[.none,.bool false,.ref it,rawInt 0,.none,.none] }
variable {X:Cx} {s:Shared}
theorem Inv.turnedL {pins:List (Addr × Obj)} {σ:St} {H:Hp} {h':Heap} {t':Nat} {its:List Addr} (I:Inv X pins σ H s) (k:∀ b o,b ∉ its->s.heap.get? b=some o->h'.get? b=some o)
  (ok:∀ b ∈ its,H b=none/\b≠X.env.locals/\(b ∈ X.ex\/X.s₀.heap.objs.size≤b)/\(∀ x c,X.env.cells.lookup x=some c->c≠b)/\∀ p ∈ X.pn++pins,p.1≠b):Inv X pins σ H { s with heap:=h',toks:=t' }:=by
 have out:∀ b u,H b=some u->b ∉ its:=λb u e z=>by rw [(ok b z).1] at e;cases e
 refine I.step (g':=s.gens) (d':=s.drawn) (ch:=its) (λb hb=>⟨(ok b hb).2.2.1,(ok b hb).2.1,(ok b hb).2.2.2⟩) (λb o _ _ hc e _=>k b o hc e) (λb o _ _ hc e _=>⟨o.slots,k b o hc e⟩) (λ_ _ _ _ n=>n)
  (λb o hc e=>⟨o,k b o hc e⟩) (λ_ _ e=>e) (λ_ _ _ e=>e) (λb ps e=>⟨#[],by rw [Array.append_empty];exact e⟩) (λm hm=>?_) (λb u e=>?_) I.bare
 ·obtain ⟨o,es,ep,ho,r⟩:=hm
  exact ⟨o,es,ep,k _ o (λz=>(ok _ z).2.1 rfl) ho,r⟩
 ·refine (I.hok b u e).stay (λc v hc q=>k c v ?_ q) (λ_ q=>q) λ_ _ q=>q
  rcases hc with z | z
  ·rw [z];exact out b u e
  ·exact out c _ z
section
variable {prog:Program} {w:World} {A:Around} {E:Value->Shared->Prop} {s:Shared} {z TI TO i1 i2 t1 t2:Addr} {k:Nat} {xs ys:Array Value}
variable {a b:Value}
theorem wq {x y:Value} {Q:Value->Shared->Prop} (hz:IsZip s.heap z TI TO .none) (hI:IsPair s.heap TI (.ref i1) (.ref i2)) (hO:IsPair s.heap TO a b) (h1:dP s.heap i1 t1 k) (h2:dP s.heap i2 t2 k)
  (l1:s.heap.IsTuple t1 xs) (l2:s.heap.IsTuple t2 ys) (hx:xs[k]?=some x) (hy:ys[k]?=some y) (D:ZipApart z TI TO i1 i2 t1 t2)
  (q:∀ h',IsZip h' z TI TO (rawInt s.heap.objs.size)->IsPair h' TO x y->dP h' i1 t1 (k+1)->dP h' i2 t2 (k+1)->h'.get? s.heap.objs.size=some { cls:=.type "tuple",data:=.seq #[x,y] } ->
   (∀ b o,b≠z->b≠TO->b≠i1->b≠i2->s.heap.get? b=some o->h'.get? b=some o)->Q (.ref s.heap.objs.size) { s with heap:=h' }):wpAny (model prog w) A (Builtin.«zip.__next__» ⟨[.ref z],[]⟩) (λfin s'=>∃ v,fin=.done (.ret v)/\Q v s') E s:=by
 show wpAny _ _ (field (.ref z) 2 >>= _) _ _ _
 refine wpAny_bind (wpAny_field hz rfl rfl ?_)
 show wpAny _ _ (field (.ref z) 3 >>= _) _ _ _
 refine wpAny_bind (wpAny_field hz rfl rfl ?_)
 refine wpAny_bind (wpAny_seqItems hI rfl ?_)
 refine wpAny_bind (wpAny_bind (wpAny_field hz rfl rfl (wpAny_pure ?_)))
 refine wpAny_bind (wpAny_rule ?_)
 refine wpAny_bind (wpAny_field hz rfl rfl ?_)
 refine wpAny_bind (wpAny_setField_rec hz (by simp) λha za sa=>?_)
 replace za:IsZip ha z TI TO .ellipsis:=za
 rw [show (#[Value.ref i1,Value.ref i2]:Array Value).toList.zipIdx=[(.ref i1,0),(.ref i2,1)] from rfl,List.forIn_cons]
 have h1a:dP ha i1 t1 k:=(sa.2 i1 D.i1z).trans h1
 have h2a:dP ha i2 t2 k:=(sa.2 i2 D.i2z).trans h2
 have l1a:ha.IsTuple t1 xs:=l1.extBut sa.extBut D.l1z
 have l2a:ha.IsTuple t2 ys:=l2.extBut sa.extBut D.l2z
 have hOa:IsPair ha TO a b:=(sa.2 TO D.TOz).trans hO
 refine wpAny_bind (wpAny_bind (wpAny_bind (wpAny_onRaise (wpAny_bind (m6 (s:={ s with heap:=ha }) h1a l1a hx λhb h1b sb=>wpAny_pure ?_)))))
 replace sb:Heap.SameBut i1 ha hb:=sb
 have hOb:IsPair hb TO a b:=(sb.2 TO D.TOi1).trans hOa
 refine wpAny_bind (wpAny_seqItems (s:={ s with heap:=hb }) hOb rfl ?_)
 refine wpAny_bind (wpAny_updateSeq_pair (s:={ s with heap:=hb }) hOb λhc hOc sc=>?_)
 replace sc:Heap.SameBut TO hb hc:=sc
 replace hOc:IsPair hc TO x b:=hOc
 refine wpAny_bind (wpAny_letGo (wpAny_pure ?_))
 have h2c:dP hc i2 t2 k:=(sc.2 i2 (Ne.symm D.TOi2)).trans ((sb.2 i2 (Ne.symm D.i12)).trans h2a)
 have l2c:hc.IsTuple t2 ys:=(l2a.extBut sb.extBut D.l2i1).extBut sc.extBut D.l2TO
 show wpAny _ _ (forIn [(Value.ref i2,1)] _ _) _ _ _
 rw [List.forIn_cons]
 refine wpAny_bind (wpAny_bind (wpAny_onRaise (wpAny_bind (m6 (s:={ s with heap:=hc }) h2c l2c hy λhd h2d sd=>wpAny_pure ?_))))
 replace sd:Heap.SameBut i2 hc hd:=sd
 have hOd:IsPair hd TO x b:=(sd.2 TO D.TOi2).trans hOc
 refine wpAny_bind (wpAny_seqItems (s:={ s with heap:=hd }) hOd rfl ?_)
 refine wpAny_bind (wpAny_updateSeq_pair (s:={ s with heap:=hd }) hOd λhe hOe se=>?_)
 replace se:Heap.SameBut TO hd he:=se
 replace hOe:IsPair he TO x y:=hOe
 refine wpAny_bind (wpAny_letGo (wpAny_pure ?_))
 show wpAny _ _ (forIn [] _ _) _ _ _
 rw [List.forIn_nil]
 refine wpAny_pure ?_
 show wpAny _ _ (seqItems? (.ref TO) >>= _) _ _ _
 refine wpAny_bind (wpAny_seqItems (s:={ s with heap:=he }) hOe rfl ?_)
 refine wpAny_bind (wpAny_newTuple ?_)
 have sze:he.objs.size=s.heap.objs.size:=by rw [se.1,sd.1,sc.1,sb.1,sa.1]
 have ze:IsZip he z TI TO .ellipsis:=(se.2 z (Ne.symm D.TOz)).trans ((sd.2 z (Ne.symm D.i2z)).trans ((sc.2 z (Ne.symm D.TOz)).trans ((sb.2 z (Ne.symm D.i1z)).trans za)))
 have zf:IsZip (he.push { cls:=.type "tuple",data:=.seq #[x,y] }) z TI TO .ellipsis:=Heap.get?_push_of_some _ ze
 have tf:(he.push { cls:=.type "tuple",data:=.seq #[x,y] }).get? s.heap.objs.size=some { cls:=.type "tuple",data:=.seq #[x,y] }:=Heap.get?_push_at sze.symm rfl
 have of:IsPair (he.push { cls:=.type "tuple",data:=.seq #[x,y] }) TO x y:=Heap.get?_push_of_some _ hOe
 have f1:dP (he.push { cls:=.type "tuple",data:=.seq #[x,y] }) i1 t1 (k+1):=Heap.get?_push_of_some _ ((se.2 i1 (Ne.symm D.TOi1)).trans ((sd.2 i1 D.i12).trans ((sc.2 i1 (Ne.symm D.TOi1)).trans h1b)))
 have f2:dP (he.push { cls:=.type "tuple",data:=.seq #[x,y] }) i2 t2 (k+1):=Heap.get?_push_of_some _ ((se.2 i2 (Ne.symm D.TOi2)).trans h2d)
 have kf:∀ b o,b≠z->b≠TO->b≠i1->b≠i2->s.heap.get? b=some o->(he.push { cls:=.type "tuple",data:=.seq #[x,y] }).get? b=some o:=λb o n1 n2 n3 n4 e =>
  Heap.get?_push_of_some _ ((se.2 b n2).trans ((sd.2 b n4).trans ((sc.2 b n2).trans ((sb.2 b n3).trans ((sa.2 b n1).trans e)))))
 generalize he.push { cls:=.type "tuple",data:=.seq #[x,y] }=hf at zf tf of f1 f2 kf
 have lz:z < s.heap.objs.size:=Heap.lt_size hz
 show wpAny _ _ (Builtin.SmallTypes.ownedTupleHandOut (.ref z) (.ref he.objs.size) >>= _) _ _ _
 rw [sze]
 refine wpAny_bind (wpAny_bind (wpAny_setField_rec (s:={ s with heap:=hf }) zf (by simp) λhg zg sg=>wpAny_setField_rec (s:={ s with heap:=hg }) zg (by simp) λhh zh sh=>wpAny_pure ⟨_,rfl,?_⟩))
 replace sg:Heap.SameBut z hf hg:=sg
 replace sh:Heap.SameBut z hg hh:=sh
 have on:∀ b,b≠z->hh.get? b=hf.get? b:=λb n=>(sh.2 b n).trans (sg.2 b n)
 refine q hh zh ?_ ?_ ?_ ?_ λb o n1 n2 n3 n4 e=>(on b n1).trans (kf b o n1 n2 n3 n4 e)
 ·exact (on TO D.TOz).trans of
 ·exact (on i1 D.i1z).trans f1
 ·exact (on i2 D.i2z).trans f2
 ·exact (on _ (Nat.ne_of_gt lz)).trans tf
theorem wm {Q:Fin->Shared->Prop} (hh:A.handled=none) (hz:IsZip s.heap z TI TO .none) (hI:IsPair s.heap TI (.ref i1) (.ref i2)) (hO:IsPair s.heap TO a b) (h1:dP s.heap i1 t1 k)
  (l1:s.heap.IsTuple t1 xs) (hx:xs[k]?=none) (D:ZipApart z TI TO i1 i2 t1 t2)
  (q:∀ h' e,(∀ b o,b≠z->b≠i1->s.heap.get? b=some o->h'.get? b=some o)->(∃ o,h'.get? e=some o/\o.cls=.type "StopIteration")->E (.ref e) { s with heap:=h' }):wpAny (model prog w) A (Builtin.«zip.__next__» ⟨[.ref z],[]⟩) Q E s:=by
 show wpAny _ _ (field (.ref z) 2 >>= _) _ _ _
 refine wpAny_bind (wpAny_field hz rfl rfl ?_)
 show wpAny _ _ (field (.ref z) 3 >>= _) _ _ _
 refine wpAny_bind (wpAny_field hz rfl rfl ?_)
 refine wpAny_bind (wpAny_seqItems hI rfl ?_)
 refine wpAny_bind (wpAny_bind (wpAny_field hz rfl rfl (wpAny_pure ?_)))
 refine wpAny_bind (wpAny_rule ?_)
 refine wpAny_bind (wpAny_field hz rfl rfl ?_)
 refine wpAny_bind (wpAny_setField_rec hz (by simp) λha za sa=>?_)
 replace za:IsZip ha z TI TO .ellipsis:=za
 rw [show (#[Value.ref i1,Value.ref i2]:Array Value).toList.zipIdx=[(.ref i1,0),(.ref i2,1)] from rfl,List.forIn_cons]
 have h1a:dP ha i1 t1 k:=(sa.2 i1 D.i1z).trans h1
 have l1a:ha.IsTuple t1 xs:=l1.extBut sa.extBut D.l1z
 refine wpAny_bind (wpAny_bind (wpAny_bind (wpAny_onRaise (wpAny_bind (tQ (s:={ s with heap:=ha }) hh h1a l1a hx λhb e sb he=>?_)))))
 replace sb:Heap.ExtBut i1 ha hb:=sb
 have zb:IsZip hb z TI TO .ellipsis:=sb z _ (Ne.symm D.i1z) za
 obtain ⟨oe,hoe,hce⟩:=he
 have nez:e≠z:=λy=>by rw [y,zb] at hoe;cases hoe;simp at hce
 refine wpAny_setField_rec (s:={ s with heap:=hb }) zb (by simp) λhc zc sc=>q hc e (λb o n1 n2 hb'=>?_) ⟨oe,(sc.2 e nez).trans hoe,hce⟩
 exact (sc.2 b n1).trans (sb b o n2 ((sa.2 b n1).trans hb'))
end
theorem yU (t1 t2:Addr) (xs ys:Array Value) :
  Meets (Builtin.«zip.__new__» ⟨[.type "zip",.ref t1,.ref t2],[]⟩) (λ_ R s=>s.heap.IsTuple t1 xs/\s.heap.IsTuple t2 ys /\
   ∀ h',IsZip h' (s.heap.objs.size+4) (s.heap.objs.size+2) (s.heap.objs.size+3) .none->IsPair h' (s.heap.objs.size+2) (.ref s.heap.objs.size) (.ref (s.heap.objs.size+1))->IsPair h' (s.heap.objs.size+3) .none .none ->
    dP h' s.heap.objs.size t1 0->dP h' (s.heap.objs.size+1) t2 0->(∀ b o,s.heap.get? b=some o->h'.get? b=some o)->R (.ok (.ret (.ref (s.heap.objs.size+4)))) { s with heap:=h' }) :=
 .of_wp λ_ _ _ _ s q=>by
  obtain ⟨h0,g0,d0,t0,o0⟩:=s
  obtain ⟨a1,a2,q⟩:=q
  have self1:=sub_zip
  have b1:Heap.IsTuple (Shared.heap ⟨h0,g0,d0,t0,o0⟩) t1 xs:=a1
  have b2:Heap.IsTuple (Shared.heap ⟨h0.push (yH t1),g0,d0,t0,o0⟩) t2 ys:=Heap.IsTuple.push a2 _
  wp_walk using wpAny_pyIter_tuple b1,wpAny_pyIter_tuple b2
  refine ⟨_,rfl,?_⟩
  have n1:(h0.push (yH t1)).objs.size=h0.objs.size+1:=Heap.size_push _ _
  simp only [Heap.size_push]
  refine q _ ?_ ?_ ?_ ?_ ?_ λb o e=>?_
  ·exact Heap.get?_push_at (by simp [Heap.size_push]) rfl
  ·exact Heap.get?_push_of_some _ (Heap.get?_push_of_some _ (Heap.get?_push_at (by simp [Heap.size_push]) rfl))
  ·exact Heap.get?_push_of_some _ (Heap.get?_push_at (by simp [Heap.size_push]) rfl)
  ·exact Heap.get?_push_of_some _ (Heap.get?_push_of_some _ (Heap.get?_push_of_some _ (Heap.get?_push_of_some _ (Heap.get?_push_at (by simp [Heap.size_push]) rfl))))
  ·exact Heap.get?_push_of_some _ (Heap.get?_push_of_some _ (Heap.get?_push_of_some _ (Heap.get?_push_at (by simp [Heap.size_push]) rfl)))
  ·exact Heap.get?_push_of_some _ (Heap.get?_push_of_some _ (Heap.get?_push_of_some _ (Heap.get?_push_of_some _ (Heap.get?_push_of_some _ e))))
variable {w:World}
theorem uY {prog:Program} {A:Around} {E:Value->Shared->Prop} {t1 t2:Addr} {xs ys:Array Value} {Q:Value->Shared->Prop} (a1:s.heap.IsTuple t1 xs) (a2:s.heap.IsTuple t2 ys)
  (q:∀ h',IsZip h' (s.heap.objs.size+4) (s.heap.objs.size+2) (s.heap.objs.size+3) .none->IsPair h' (s.heap.objs.size+2) (.ref s.heap.objs.size) (.ref (s.heap.objs.size+1))->IsPair h' (s.heap.objs.size+3) .none .none ->
   dP h' s.heap.objs.size t1 0->dP h' (s.heap.objs.size+1) t2 0->(∀ b o,s.heap.get? b=some o->h'.get? b=some o)->Q (.ref (s.heap.objs.size+4)) { s with heap:=h' }):wpAny (model prog w) A (call (.type "zip") [.ref t1,.ref t2]) Q E s :=
 callType_new PySem.F.called_zip (by decide) (PySem.F.typeCall_zip_2 _ _) (PySem.F.newCall_zip_2 _ _) (λo=>PySem.F.args_object_init_3 o _ _) PySem.F.entry_zip_new (yU t1 t2 xs ys) ⟨a1,a2,λh' z1 z2 z3 z4 z5 kk=>⟨⟨_,z1,rfl⟩,q h' z1 z2 z3 z4 z5 kk⟩⟩
def Itz (K:PySem.W.Frag) (a b:Addr) (xs ys:List V):It:=⟨λi H=>i < xs.length/\i < ys.length/\SqT K H a xs/\SqT K H b ys,λi H x H'=>∃ p u v,H p=none/\x=.ref p/\xs[i]?=some u/\ys[i]?=some v/\H'=upd H p (.tup [u,v]),λi H=>i=xs.length/\SqT K H a xs⟩
variable {elts:List Expr} {ps:Pos}
theorem yO {P:Program} {K:PySem.W.Frag} {c1} (a b z TI TO i1 i2:Addr) (xs ys:List V) (D:ZipApart z TI TO i1 i2 a b):kW P w K (.Tuple elts c1 ps) (Itz K a b xs ys) [z,TI,TO,i1,i2] z
  (λi h=>∃ c d,IsZip h z TI TO .none/\IsPair h TI (.ref i1) (.ref i2)/\IsPair h TO c d/\dP h i1 a i/\dP h i2 b i) where
 mem:=by simp
 obj:=λi h ⟨c,d,q1,q2,q3,q4,q5⟩ b hb=>by
  simp only [List.mem_cons,List.not_mem_nil,or_false] at hb
  rcases hb with rfl | rfl | rfl | rfl | rfl
  ·exact ⟨_,q1,λv e=>by cases e⟩
  ·exact ⟨_,q2,λv e=>by cases e⟩
  ·exact ⟨_,q3,λv e=>by cases e⟩
  ·exact ⟨_,q4,λv e=>by cases e⟩
  ·exact ⟨_,q5,λv e=>by cases e⟩
 keep:=λi h h' ⟨c,d,q1,q2,q3,q4,q5⟩ k=>⟨c,d,k z (by simp) _ q1,k TI (by simp) _ q2,k TO (by simp) _ q3,k i1 (by simp) _ q4,k i2 (by simp) _ q5⟩
 item:=by
  intro X hP hw hK hc i pins s σ H E I hf st hg
  subst hP hw hK
  obtain ⟨c,d,q1,q2,q3,q4,q5⟩:=st
  obtain ⟨hi,hj,ha,hb⟩:=hg
  obtain ⟨us,ru,pu,_⟩:=I.tuple ha
  obtain ⟨vs,rv,pv,_⟩:=I.tuple hb
  have hx:xs[i]?=some xs[i]:=List.getElem?_eq_getElem hi
  have hy:ys[i]?=some ys[i]:=List.getElem?_eq_getElem hj
  obtain ⟨u,hu,r1⟩:=ru.get hx
  obtain ⟨v,hv,r2⟩:=rv.get hy
  have ty:s.TypeIs (.ref z) "zip":=⟨_,q1,rfl⟩
  unfold pyNext
  refine wpAny_bind (wpAny_attempt (wpAny_callSpecial?_slot (name:=Str.ofString "__next__") ty PySem.F.slot_zip_next (wpAny_call_entry PySem.F.slot_zip_next ty PySem.F.entry_zip_next ?_ (PySem.F.args_zip_next_1 _))))
  refine wq (x:=u) (y:=v) q1 q2 q3 q4 q5 (show s.heap.IsTuple a us.toArray from pu) (show s.heap.IsTuple b vs.toArray from pv) (by simpa using hu) (by simpa using hv) D λh' w1 w2 w3 w4 w5 w6=>wpAny_pure ⟨_,rfl,?_⟩
  refine wpAny_letOwnedTupleGo_zip (s:={ s with heap:=h' }) w1 λh2 e2 same=>?_
  replace same:Heap.SameBut z h' h2:=same
  have lz:z < s.heap.objs.size:=Heap.lt_size q1
  have lTI:TI < s.heap.objs.size:=Heap.lt_size q2
  have lTO:TO < s.heap.objs.size:=Heap.lt_size q3
  have l1:i1 < s.heap.objs.size:=Heap.lt_size q4
  have l2:i2 < s.heap.objs.size:=Heap.lt_size q5
  have low:∀ b ∈ [z,TI,TO,i1,i2],b < s.heap.objs.size:=λb hb=>by
   simp only [List.mem_cons,List.not_mem_nil,or_false] at hb
   rcases hb with rfl | rfl | rfl | rfl | rfl <;> assumption
  have tup2:h2.get? s.heap.objs.size=some { cls:=.type "tuple",data:=.seq #[u,v] }:=(same.2 _ (Nat.ne_of_gt lz)).trans w5
  have I1:Inv X pins σ (upd H s.heap.objs.size (.tup [xs[i],ys[i]])) { s with heap:=s.heap.push { cls:=.type "tuple",data:=.seq #[u,v] },toks:=s.toks } :=
   I.laid (o:=.tup [xs[i],ys[i]]) (λb ob q=>Heap.get?_push_of_some _ q) (Nat.le_refl _) ⟨by rw [sizeLine_eq];simp,[u,v],.cons r1 (.cons r2 .nil),IsTup.new _ _⟩
  have frees:∀ b,b < s.heap.objs.size->upd H s.heap.objs.size (.tup [xs[i],ys[i]]) b=H b:=λb hb=>aJ (Nat.ne_of_lt hb)
  have I2:Inv X pins σ (upd H s.heap.objs.size (.tup [xs[i],ys[i]])) { s with heap:=h2,toks:=s.toks }:=by
   refine Inv.turnedL (s:={ s with heap:=s.heap.push { cls:=.type "tuple",data:=.seq #[u,v] },toks:=s.toks }) (h':=h2) (its:=[z,TI,TO,i1,i2]) (t':=s.toks) I1 (λb o hb q=>?_) (λb hb=>?_)
   ·simp only [List.mem_cons,List.not_mem_nil,or_false,not_or] at hb
    obtain ⟨n1,n2,n3,n4,n5⟩:=hb
    by_cases hbs:b=s.heap.objs.size
    ·subst hbs
     have q':(s.heap.push { cls:=.type "tuple",data:=.seq #[u,v] }).get? s.heap.objs.size=some o:=q
     rw [Heap.get?_push_at rfl rfl] at q'
     cases q'
     exact tup2
    ·have q':s.heap.get? b=some o:=(Heap.get?_push_ne _ _ _ hbs).symm.trans q
     exact (same.2 b n1).trans (w6 b o n1 n3 n4 n5 q')
   ·obtain ⟨f0,f1,f2,f3,f4,f5⟩:=hf b hb
    exact ⟨by rw [frees b (low b hb)];exact f0,f1,f3,f4,f5⟩
  refine ⟨.ref s.heap.objs.size,_,I2,rfl,⟨_,_,_,I.hok.fresh (Nat.le_refl _),rfl,hx,hy,rfl⟩,⟨u,v,e2,?_,?_,?_,?_⟩,λb hb=>?_⟩
  ·exact (same.2 TI D.TIz).trans (w6 TI _ D.TIz D.TITO D.TIi1 D.TIi2 q2)
  ·exact (same.2 TO D.TOz).trans w2
  ·exact (same.2 i1 D.i1z).trans w3
  ·exact (same.2 i2 D.i2z).trans w4
  ·rw [frees b (low b hb)];exact (hf b hb).1
 done:=by
  intro X hP hw hK hc i pins s σ H E I hf st hg
  subst hP hw hK
  obtain ⟨c,d,q1,q2,q3,q4,q5⟩:=st
  obtain ⟨hi,ha⟩:=hg
  obtain ⟨us,ru,pu,_⟩:=I.tuple ha
  have lr:=ru.length
  have ty:s.TypeIs (.ref z) "zip":=⟨_,q1,rfl⟩
  unfold pyNext
  refine wpAny_bind (wpAny_attempt (wpAny_callSpecial?_slot (name:=Str.ofString "__next__") ty PySem.F.slot_zip_next (wpAny_call_entry PySem.F.slot_zip_next ty PySem.F.entry_zip_next ?_ (PySem.F.args_zip_next_1 _))))
  refine wm (I.ok.hd hc) q1 q2 q3 q4 (show s.heap.IsTuple a us.toArray from pu) (by simp;omega) D λh' e kk ⟨o,ho,hco⟩=>?_
  refine wpAny_bind (wpAny_isInstance (T:="StopIteration") (b:=true) ⟨o,ho,hco⟩ isSubtype_stop (wpAny_pure ⟨rfl,?_⟩))
  refine Inv.turnedL (s:=s) (h':=h') (its:=[z,i1]) (t':=s.toks) I (λb o hb q=>kk b o (λy=>hb (by simp [y])) (λy=>hb (by simp [y])) q) (λb hb=>?_)
  obtain ⟨f0,f1,f2,f3,f4,f5⟩:=hf b (by
   simp only [List.mem_cons,List.not_mem_nil,or_false] at hb
   rcases hb with rfl | rfl <;> simp)
  exact ⟨f0,f1,f3,f4,f5⟩
 self:=λA i s Q E ⟨_,_,q1,_⟩ q=>wpAny_pyIter_zip q1 q
def CH (K:PySem.W.Frag) (ta:TA):TI:=λσ H R=>ta σ H λvs H1=>∃ a b xs ys,vs=[.ref a,.ref b]/\SqT K H1 a xs/\SqT K H1 b ys/\R (Itz K a b xs ys) H1
theorem yi {a b:Expr} {ta:TA} {p pos:Pos} {c1} (hg:Gl X "zip") (hm:X.mg "zip"=none) (ha:PA X [a,b] ta) (hs:starEach [a,b] X.env=(false,eval a X.env)::starEach [b] X.env:=by rfl) (hpl:(backTo pos (starEach [b] X.env)).any (·.1)=false:=by rfl) :
  PI X (.Tuple elts c1 ps) (.Call (.Name "zip" p) [a,b] [] pos) (CH X.K ta):=by
 intro pins s σ H R I h
 refine Call_ (iX I hg hm wU (PyProof.Rows.callWith_type1 (thn (ha pos pins s σ H _ I h) λus s1 ⟨vs,H1,I1,r1,q1⟩=>?_) hs hpl))
 obtain ⟨t1,t2,xs,ys,ev,hq1,hq2,q⟩:=q1
 subst ev
 cases r1 with
 | cons e1 rt =>
  obtain ⟨u2,rfl,e2⟩:=fX rt
  cases e1
  cases e2
  obtain ⟨us,ru,pu,_⟩:=I1.tuple hq1
  obtain ⟨vs,rv,pv,_⟩:=I1.tuple hq2
  have lt1:t1 < s1.heap.objs.size:=pu.lt
  have lt2:t2 < s1.heap.objs.size:=pv.lt
  refine uY pu pv λh' z1 z2 z3 z4 z5 kk=>?_
  refine wpAny_pyIter_zip (s:={ s1 with heap:=h' }) z1 ?_
  have ne:∀ {x y:Nat},x < y->x≠y:=λh=>Nat.ne_of_lt h
  have gt:∀ {x y:Nat},y < x->x≠y:=λh=>Nat.ne_of_gt h
  have ap:ZipApart (s1.heap.objs.size+4) (s1.heap.objs.size+2) (s1.heap.objs.size+3) s1.heap.objs.size (s1.heap.objs.size+1) t1 t2 :=
   ⟨ne (by omega),ne (by omega),ne (by omega),ne (by omega),ne (by omega),gt (by omega),gt (by omega),gt (by omega),gt (by omega),ne (by omega),ne (Nat.lt_of_lt_of_le lt1 (by omega)),ne (Nat.lt_of_lt_of_le lt1 (by omega)),ne lt1,ne (Nat.lt_of_lt_of_le lt1 (by omega)),
    ne (Nat.lt_of_lt_of_le lt2 (by omega)),ne (Nat.lt_of_lt_of_le lt2 (by omega)),ne lt2,ne (Nat.lt_of_lt_of_le lt2 (by omega))⟩
  refine ⟨s1.heap.objs.size+4,[s1.heap.objs.size+4,s1.heap.objs.size+2,s1.heap.objs.size+3,s1.heap.objs.size,s1.heap.objs.size+1],_,_,H1,rfl,I1.kept (t':=s1.toks) kk,yO t1 t2 _ _ _ _ _ xs ys ap,⟨.none,.none,z1,z2,z3,z4,z5⟩,λb hb=>?_,q⟩
  have lb:s1.heap.objs.size≤b:=by
   simp only [List.mem_cons,List.not_mem_nil,or_false] at hb
   rcases hb with rfl | rfl | rfl | rfl | rfl
   ·exact Nat.le_add_right _ _
   ·exact Nat.le_add_right _ _
   ·exact Nat.le_add_right _ _
   ·exact Nat.le_refl _
   ·exact Nat.le_add_right _ _
  exact I1.fpOk lb (I1.hok.fresh lb)
abbrev sT (t:Addr):Obj:={ cls:=.type "list_iterator",data:=.fields #[.ref t,.int 0 0] }
section
variable {prog:Program} {w:World} {A:Around} {E:Value->Shared->Prop} {s:Shared} {z TI TO i1 i2 t1 t2:Addr} {k:Nat} {xs ys:Array Value}
end
theorem uI (σ:St) {i j:Nat} (ne:i≠j) (a b c d:Option V):((((σ.set i a).set j b).set i c).set j d)=(σ.set i c).set j d:=by
 rw [List.set_comm _ _ (Ne.symm ne),List.set_set,List.set_set]
section
variable {K:PySem.W.Frag} {σ:St} {H:Hp} {tA:TA} {ar:List Ar} {d:D} {R:List Ar->D->Prop} {B:List Ar->Addr->Prop} {E:XK} {Q:VK} {C:Addr}
end
end L2
namespace L2
open PySem PySem.Spec PyProof.Rows
section
variable {X:Cx}
end
section
variable {K:PySem.W.Frag} {σ:St} {H H':Hp} {d d':D} {ds es:List D} {t u ta tb te tl:TE} {tA:TA} {mk:St->St} {jj:Nat}
inductive LDs (K:PySem.W.Frag) (H:Hp):List (List D)->List V->Prop
 | nil:LDs K H [] []
 | cons {es:List D} {v:V} {ess:List (List D)} {vs:List V}:LD K H es v->LDs K H ess vs->LDs K H (es::ess) (v::vs)
variable {ess:List (List D)} {vs:List V}
theorem LDs.length (h:LDs K H ess vs):ess.length=vs.length:=by
 induction h with
 | nil=>rfl
 | cons _ _ ih=>simp [ih]
theorem LDs.map (h:LDs K H ess vs) (f:∀ es v,LD K H es v->LD K H' es v):LDs K H' ess vs:=by
 induction h with
 | nil=>exact .nil
 | cons h1 _ ih=>exact .cons (f _ _ h1) ih
theorem Same.lds (e:Same H H') (h:LDs K H ess vs):LDs K H' ess vs:=h.map λ_ _ z=>e.ld z
theorem LDs.snoc {es:List D} {v:V} (h:LDs K H ess vs) (h1:LD K H es v):LDs K H (ess++[es]) (vs++[v]):=by
 induction h with
 | nil=>exact .cons h1 .nil
 | cons k _ ih=>exact .cons k ih
def RCL (K:PySem.W.Frag) (t:TE) (σ:St) (H:Hp) (ess:List (List D)):Prop:=∀ H1,Same H H1->∀ Q:VK,(∀ l ys H',H1 l=none->Same H1 H'->H' l=some (.lst ys)->LDs K H' ess ys->Q (.ref l) H')->t σ H1 Q
theorem RCL.use {Q:VK} (h:RCL K t σ H ess) (q:∀ l ys H',H l=none->Same H H'->H' l=some (.lst ys)->LDs K H' ess ys->Q (.ref l) H'):t σ H Q:=h H (Same.refl H) Q q
def Off (K:PySem.W.Frag) (H:Hp) (l:Addr) (vs:List V):Prop:=∀ v ∈ vs,v≠.ref l
theorem LDs.grown {l:Addr} {zs zs':List V} (h:LDs K H ess vs) (off:Off K H l vs) (e:But l H H') (h1:H l=some (.lst zs)) (h2:H' l=some (.lst zs')):LDs K H' ess vs:=by
 have g:cO K H H':=e.grow h1 h2
 induction h with
 | nil=>exact .nil
 | cons k _ ih =>
  refine .cons ?_ (ih λv hv=>off v (List.mem_cons_of_mem _ hv))
  obtain ⟨a,us,rfl,ha,hd⟩:=k
  have na:a≠l:=λz=>off _ List.mem_cons_self (by rw [z])
  refine ⟨a,us,rfl,?_,Dats.mono g _ hd⟩
  exact ha.elim (λz=>.inl (e _ _ na z)) .inr
end
end L2
namespace L2
open PySem PySem.Spec PySem.Calls PyProof.Rows
variable {K:PySem.W.Frag} {σ:St} {H:Hp} {te:TE} {mk:St->St} {cs:List D}
theorem Aj {ta:TA} {i j:Nat} {ds:List D} (h:RA K ta σ H [.tup cs,.tup ds]) (hl:cs.length=ds.length) (hc:cs.length≤1000) (ess:List (List D)) (hn:ess.length=cs.length) (ne:i≠j)
  (h0:((mk σ).set i none).set j none=mk σ)
  (turn:∀ H1 (k:Nat) c d es v w,Same H H1->cs[k]?=some c->ds[k]?=some d->ess[k]?=some es->Dat K H1 c v->Dat K H1 d w->RC K te (((mk σ).set i (some v)).set j (some w)) H1 es) :
  RCL K (gW (CH K ta) mk (vj K 2 (jr (cy i) (jr (cy j) xx))) fW te) σ H ess:=λH1 s Q q=>by
 refine h H1 s _ λvs H2 s2 q2=>?_
 obtain ⟨v1,v2,e,k1,k2⟩:=fu q2
 subst e
 obtain ⟨a,us,e1,ha,da⟩:=k1.tupE
 obtain ⟨b,ws,e2,hb,db⟩:=k2.tupE
 subst e1 e2
 have lu:=da.length
 have lw:=db.length
 refine ⟨a,b,us,ws,rfl,ha,hb,λl hl2=>?_⟩
 have s02:Same H H2:=s.trans s2
 refine ⟨λn m σ' G=>m=us.length - n/\n≤us.length/\(∃ z1 z2,σ'=((mk σ).set i z1).set j z2)/\Same H2 G/\∃ ys,G l=some (.lst ys)/\LDs K G (ess.take n) ys/\Off K G l ys,⟨us.length,by omega,Nat.zero_le _,⟨none,none,h0.symm⟩,aC hl2 _,[],aq,by rw [List.take_zero];exact .nil,λv hv=>by cases hv⟩,?_⟩
 rintro n m σ' G ⟨rfl,hle,⟨z1,z2,rfl⟩,sG,ys,hy,dy,off⟩
 by_cases hlt:n < us.length
 ·refine .inr ⟨⟨hlt,by omega,sG.sqT ha,sG.sqT hb⟩,λσ'' G'=>(∃ z1 z2,σ''=((mk σ).set i z1).set j z2)/\Same H2 G'/\∃ ys,G' l=some (.lst ys)/\LDs K G' (ess.take (n+1)) ys/\Off K G' l ys,λσ'' G' w=>⟨us.length - (n+1),by omega,rfl,hlt,w.1,w.2⟩,λx G' y=>?_⟩
  obtain ⟨p,u,w,hp,rfl,hu,hw,rfl⟩:=y
  have sn:Same G (upd G p (.tup [u,w])):=aC hp _
  have s2n:=sG.trans sn
  obtain ⟨c,ec,hcv⟩:=da.getV hu
  obtain ⟨d,ed,hdv⟩:=db.getV hw
  have hne:n < ess.length:=by omega
  refine ⟨p,[u,w],rfl,SqT.of aq,rfl,u,_,rfl,w,_,rfl,rfl,?_⟩
  simp only [fW,if_true]
  rw [uI _ ne]
  refine RC.use (turn _ n c d ess[n] u w (s02.trans s2n) ec ed (List.getElem?_eq_getElem hne) (s2n.dat hcv) (s2n.dat hdv)) λr zs G4 hr s4 hz dz=>?_
  have hy4:=s4 _ _ (sn _ _ hy)
  have nrl:r≠l:=λz=>by rw [z,sn _ _ hy] at hr;cases hr
  have lys:ys.length=n:=by rw [← dy.length,List.length_take];omega
  refine ⟨ys,hy4,ck (by omega),⟨_,_,rfl⟩,λx o hx=>?_,ys++[.ref r],aq,?_,?_⟩
  ·rw [aJ (aB hx hl2)]
   exact s4 _ _ (s2n _ _ hx)
  ·have bl:But l G4 (upd G4 l (.lst (ys++[.ref r]))):=But.upd (Same.refl G4).but
   have g:cO K G4 (upd G4 l (.lst (ys++[.ref r]))):=bl.grow hy4 aq
   rw [List.take_add_one,List.getElem?_eq_getElem hne]
   exact LDs.snoc (LDs.grown (s4.lds (sn.lds dy)) off bl hy4 aq) (LD.of (bl _ _ nrl hz) (Dats.mono g _ dz))
  ·intro v hv
   rcases List.mem_append.mp hv with hv | hv
   ·exact off v hv
   ·rw [List.mem_singleton.mp hv]
    exact λz=>nrl (by injection z)
 ·have e:n=us.length:=by omega
  subst e
  refine .inl ⟨⟨rfl,sG.sqT ha⟩,?_⟩
  rw [List.take_of_length_le (by omega)] at dy
  exact q l ys G (s2.free hl2) (s2.trans sG) hy dy
theorem Ag {tl:TE} {tt:TT} {jj:Nat} (h:RL K tl σ H cs) (hc:cs.length≤1000) (p:D->Bool) (h0:(mk σ).set jj none=mk σ)
  (turn:∀ H1 (i:Nat) c v,Same H H1->cs[i]?=some c->Dat K H1 c v->RT tt ((mk σ).set jj (some v)) H1 (p c)/\RE K te ((mk σ).set jj (some v)) H1 c):RC K (gW (oi K tl) mk (cy jj) tt te) σ H (cs.filter p):=λH1 s Q q=>by
 refine (h.mono s).use λv4 H4 s4 q4=>?_
 obtain ⟨l4,ys4,rfl,hy4,hd4⟩:=q4
 have ll:=hd4.length
 refine ⟨l4,rfl,⟨ys4,hy4.sqL⟩,λl hl=>?_⟩
 refine kN (J:=Itl K l4) (n:=ys4.length) (item:=λi=>ys4.getD i .non) (λG=>SqL K G l4 ys4) (λi G o hi=>pd i G o hi) (λG o=>⟨ys4,o,Nat.le_refl _⟩) h0 l (λi G=>Same H4 G/\∃ zs,G l=some (.lst zs)/\Dats K G ((cs.take i).filter p) zs) ⟨aC hl _,[],aq,by rw [List.take_zero];exact Dats.nil⟩ (λi G _ w=>w.1.seq hy4.sqL) (λi G hi w=>?_) (λG w=>?_)
 ·obtain ⟨sG,zs,hz,dz⟩:=w
  have hic:i < cs.length:=by omega
  obtain ⟨vz,ez,hv⟩:=(sG.dats hd4).get (List.getElem?_eq_getElem hic)
  have e1:ys4.getD i .non=vz:=by rw [List.getD_eq_getElem?_getD,ez];rfl
  simp only [e1]
  obtain ⟨t1,t2⟩:=turn G i cs[i] vz (s.trans (s4.trans sG)) (List.getElem?_eq_getElem hic) hv
  have et:cs.take (i+1)=cs.take i++[cs[i]]:=by rw [List.take_add_one,List.getElem?_eq_getElem hic];rfl
  have lz:zs.length≤1000:=by
   rw [← dz.length]
   exact Nat.le_trans (List.length_filter_le _ _) (by rw [List.length_take];omega)
  have lz':zs.length < 1000:=by
   rw [← dz.length]
   exact Nat.lt_of_le_of_lt (List.length_filter_le _ _) (by rw [List.length_take];omega)
  refine t1.use λG2 s2=>?_
  cases hp:p cs[i] with
  | true =>
   refine zI ((t2.mono s2).use λv3 G3 s3 q3=>?_)
   have hz3:=(s2.trans s3) _ _ hz
   have bl:But l G3 (upd G3 l (.lst (zs++[v3]))):=But.upd (Same.refl G3).but
   have g:cO K G3 (upd G3 l (.lst (zs++[v3]))):=bl.grow hz3 aq
   refine ⟨zs,hz3,ck (by omega),⟨_,rfl⟩,λx o hx=>?_,zs++[v3],aq,?_⟩
   ·rw [aJ (aB hx hl)]
    exact (s2.trans s3) _ _ (sG _ _ hx)
   ·rw [et,List.filter_append]
    have e2:[cs[i]].filter p=[cs[i]]:=by rw [List.filter_cons,if_pos hp];rfl
    rw [e2]
    exact Dats.append (Dats.mono g _ ((s2.trans s3).dats dz)) (Dats.cons (Dat.mono g _ q3) Dats.nil)
  | false =>
   refine zH ⟨⟨_,rfl⟩,sG.trans s2,zs,s2 _ _ hz,?_⟩
   rw [et,List.filter_append]
   have e2:[cs[i]].filter p=[]:=by rw [List.filter_cons,if_neg (by rw [hp];exact Bool.false_ne_true)];rfl
   rw [e2,List.append_nil]
   exact s2.dats dz
 ·obtain ⟨sG,zs,hz,dz⟩:=w
  rw [← ll,List.take_length] at dz
  exact q l zs G (s4.free hl) (s4.trans sG) hz dz
variable {X:Cx} {es:List Expr} {t:TGs} {n:Nat} {pos:Pos}
theorem uz {k:Nat} (hK:X.K=K) (hc:X.calm=true) (h:PGs X es t)
  (hn:(assignEach es X.env).length=n:=by rfl) (hst:(assignEach es X.env).findIdx? (·.1)=none:=by rfl):PG X (.Tuple es k pos) (vj K n t):=by
 subst hK
 exact dj hc h hn hst
section
variable {K:PySem.W.Frag} {σ:St} {H H':Hp} {d d':D} {ds es:List D} {t u ta tb te tl:TE} {tA:TA} {mk:St->St} {jj:Nat} {o:Option (List D)} {os:List (Option (List D))} {vs:List V} {ar:List Ar}
theorem nH:∀ {os:List (Option (List D))},os.any Option.isNone=false->∃ ess:List (List D),os=ess.map some
 | [],_=>⟨[],rfl⟩
 | none::os,h=>by cases h
 | some es::os,h=>by
  rw [List.any_cons] at h
  obtain ⟨ess,e⟩:=nH (os:=os) (by simpa using h)
  exact ⟨es::ess,by rw [e];rfl⟩
theorem uG {En:iQ} {G:Hp} {j:Nat} {l:Addr} {xs:List V} (h:RC K te σ G es) (hl:G l=some (.lst xs)) (hx:xs.length+es.length≤1000)
  (q:∀ ys G',But l G G'->G' l=some (.lst (xs++ys))->Dats K G' es ys->En.nx σ G') (hv:σ[j]?=some (some (.ref l)):=by rfl):mY (tBM K "list" pX (iS j) (bP te d8)) En σ G:=by
 refine ⟨_,hv,.inl ⟨rfl,_,SqL.of hl⟩,h.use λp vs H1 hp s1 hv1 q1=>?_⟩
 have hl1:=s1 _ _ hl
 have lv:=q1.length
 refine ⟨l,p,xs,vs,rfl,rfl,hl1,hv1,bZ (by omega),?_⟩
 have b:But l H1 (upd H1 l (.lst (xs++vs))):=But.upd (Same.refl _).but
 exact q vs _ (s1.but.trans b) aq (Dats.mono (b.grow hl1 aq) _ q1)
end
theorem zA {a b:Addr} {xs ys:List V} {g:TG} {tb:TS} {D:iQ} (Pv:Nat->St->Hp->Prop) (ll:xs.length=ys.length) (h0:Pv 0 σ H) (hl:∀ i σ H,i≤xs.length->Pv i σ H->SqT K H a xs/\SqT K H b ys)
  (hs:∀ i u v p σ H,xs[i]?=some u->ys[i]?=some v->H p=none->Pv i σ H->g (.ref p) σ (upd H p (.tup [u,v])) λσ2 H2=>tb { D with nx:=Pv (i+1),ct:=Pv (i+1),bk:=D.nx } σ2 H2) (hd:∀ σ H,Pv xs.length σ H->D.nx σ H) :
  ∃ W:Nat->Nat->St->Hp->Prop,(∃ m,W 0 m σ H)/\∀ i m σ H,W i m σ H ->
   ((Itz K a b xs ys).stop i H/\D.nx σ H)\/((Itz K a b xs ys).go i H/\∃ N:St->Hp->Prop,(∀ σ' H',N σ' H'->∃ m',m' < m/\W (i+1) m' σ' H')/\∀ x H',(Itz K a b xs ys).yld i H x H'->g x σ H' λσ2 H2=>tb { D with nx:=N,ct:=N,bk:=D.nx } σ2 H2):=by
 refine ⟨λi m σ H=>m=xs.length - i/\i≤xs.length/\Pv i σ H,⟨xs.length,by simp,Nat.zero_le _,h0⟩,?_⟩
 rintro i m σ H ⟨rfl,hi,p⟩
 have q:=hl i σ H hi p
 by_cases hlt:i < xs.length
 ·refine .inr ⟨⟨hlt,by omega,q.1,q.2⟩,Pv (i+1),λσ' H' p'=>⟨xs.length - (i+1),by omega,rfl,hlt,p'⟩,λx H' y=>?_⟩
  obtain ⟨r,u,v,hr,rfl,hu,hv,rfl⟩:=y
  exact hs i u v r σ H hu hv hr p
 ·have e:i=xs.length:=by omega
  subst e
  exact .inl ⟨⟨rfl,q.1⟩,hd σ H p⟩
def Cv (K:PySem.W.Frag) (n:Nat) (t:TGs):TG:=λv σ H Q=>∃ a xs,v=.ref a/\SqL K H a xs/\xs.length=n/\t xs σ H Q
theorem Aa {k:Nat} (hc:X.calm=true) (h:PGs X es t)
  (hn:(assignEach es X.env).length=n:=by rfl) (hst:(assignEach es X.env).findIdx? (·.1)=none:=by rfl):PG X (.Tuple es k pos) (Cv X.K n t):=λpins s σ H v u Q I r ⟨a,xs,ev,hq,hl,hw⟩=>by
 subst ev
 cases r
 obtain ⟨its,rv,pl,hz⟩:=I.list hq
 have en:(assignEach es X.env).length=its.toArray.size:=by rw [hn,← hl,rv.length,List.size_toArray]
 rw [assign_Tuple]
 refine wpAny_bind (wpAny_standAt ?_)
 unfold unpack
 rw [en,hst]
 refine wpAny_bind (wpAny_holding (PySem.W.kun_itemsOf (I.ok.hd hc) pl.isList λh' hx=>?_))
 exact h pins _ σ H xs _ Q (I.kept (t':=s.toks) λb o e=>hx b o (Nat.ne_of_lt (Heap.lt_size e)) e) (by simpa using rv) hw
section
variable {prog:Program} {w:World} {A:Around} {E:Value->Shared->Prop} {s:Shared}
end
def AR (K:PySem.W.Frag):R2:=λx y H Q=>∃ a b ys,x=.ref a/\y=.ref b/\SqT K H a []/\SqT K H b ys/\Q (.ref b) H
theorem op_catE:OpR X (binaryOp .Add) (AR X.K):=λpins s σ H x y v u Q I rx ry ⟨a,b,ys,ex,ey,ha,hb,q⟩=>by
 subst ex ey
 cases rx
 cases ry
 obtain ⟨i1,r1,p1,_⟩:=I.tuple ha
 obtain ⟨i2,r2,p2,_⟩:=I.tuple hb
 have e1:=r1.nil_iff.mpr rfl
 subst e1
 obtain ⟨⟨c1,d1,t1,l1⟩,o1,k1,n1,m1⟩:=id p1
 obtain ⟨⟨c2,d2,t2,l2⟩,o2,k2,n2,m2⟩:=id p2
 simp only at k1 m1 k2 m2
 subst k1 m1 k2 m2
 exact concat_meets ⟨_,o1,rfl⟩ ⟨_,o2,rfl⟩ noFill_tuple_add seq_tuple_add PySem.F.slot_tuple_add PySem.F.entry_tuple_add (PySem.F.args_tuple_add_2 _ _) (tuple_addW0 a b _ _ n1 n2 d1 d2 l1 l2 rfl) ⟨o1,o2,.ref b,H,I,rfl,q⟩
def yn (K:PySem.W.Frag):R2:=λx y H Q=>AR K x y H Q\/AU K x y H Q
theorem zV:OpR X (binaryOp .Add) (yn X.K):=op_catE.or uy
section
variable {K:PySem.W.Frag} {σ:St} {H H':Hp} {d:D} {ds es:List D} {t u ta tb te:TE} {n:Nat}
theorem xc {x y:V} {Q:VK} (h1:Dat K H (.tup ds) x) (h2:Dat K H (.tup es) y) (hl:ds.length+es.length≤1000) (q:∀ v H',Same H H'->Dat K H' (.tup (ds++es)) v->Q v H'):yn K x y H Q:=by
 obtain ⟨a,xs,ea,ha,da⟩:=h1.tupE
 obtain ⟨b,ys,eb,hb,db⟩:=h2.tupE
 have l1:=da.length
 have l2:=db.length
 cases ds with
 | nil =>
  have e:=da.nilE
  subst e
  exact .inl ⟨a,b,ys,ea,eb,ha,hb,q _ _ (Same.refl _) (Dat.tupI hb db)⟩
 | cons d ds =>
  refine .inr ⟨a,b,xs,ys,ea,eb,ha,hb,λz=>?_,bZ (by omega),λz=>?_,λ_ p hp=>?_⟩
  ·rw [z] at l1;cases l1
  ·have e:es=[]:=List.length_eq_zero_iff.mp (by rw [l2,z];rfl)
   subst e
   rw [List.append_nil] at q
   exact q _ _ (Same.refl _) (Dat.tupI ha da)
  ·exact q _ _ (aC hp _) (Dat.tupI (SqT.of aq) ((aC hp _).dats (Dats.append da db)))
theorem Al (h1:RE K ta σ H (.tup ds)) (h2:RE K tb σ H (.tup es)) (hl:ds.length+es.length≤1000):RE K (tOp (yn K) ta tb) σ H (.tup (ds++es)):=λH1 s Q q =>
 h1 H1 s _ λv H2 s2 q2=>h2 H2 (s.trans s2) _ λw H3 s3 q3=>xc (s3.dat q2) q3 hl λv H' s' k=>q v H' (s2.trans (s3.trans s')) k
end
end L2
namespace L2
open PySem
end L2
namespace L2
open PySem PySem.Spec PySem.Calls PyProof.Rows PySem.W PySem.Builtin PySem.Builtin.ObjectAttr
section
variable {X:Cx} {pins:List (Addr × Obj)} {σ:St} {H:Hp} {s s':Shared} {E:XK} {e:Value}
end
section
variable {H:Hp} {e C dx b:Addr} {a0:Value} {f:Str} {v:V}
end
section
variable {X:Cx} {pins:List (Addr × Obj)} {σ:St} {H:Hp} {s s':Shared} {C fI e dx:Addr} {fd:FuncData} {k:Nat} {ps:List Str} {a0:Value} {f:Str} {v:V}
end
section
variable {K:PySem.W.Frag} {σ:St} {H:Hp} {tA:TA} {ar:List Ar} {d:D} {f:Str} {es:List D} {R:List Ar->D->Prop} {RL:List Ar->List D->Prop} {B:List Ar->Addr->Int->Prop} {E:XK} {Q:VK} {C:Addr} {i:Int}
end
end L2
namespace L2
open PySem PySem.Spec PySem.Calls PyProof.Rows
section
variable {prog:Program} {w:World} {A:Around} {E:Value->Shared->Prop} {s:Shared} {it t:Addr} {items:Array Value}
end
section
variable {X:Cx} {tg:Expr}
end
section
variable {X:Cx} {pins:List (Addr × Obj)} {σ:St} {H:Hp} {a:Addr} {cls C:Value} {dx:Option Addr} {s:Shared} {D:iQ} {x n:Str} {i:Nat} {np hpos:Pos} {b₀:Stmt} {suite:List Stmt} {rest:List ExceptHandler} {th:TS} {b:Bool}
end
abbrev kR (t:Addr):Obj:={ cls:=.type "list_iterator",data:=.fields #[.ref t,.int 0 0] }
theorem ve (t:Addr) (items:Array Value) (n:Nat) (d2:Option Addr) (s2:Array (Option Value)) :
  Meets (Builtin.«enumerate.__new__» ⟨[.type "enumerate",.ref t],[]⟩) (λ_ R s=>s.heap.get? t=some { cls:=.type "list",dict:=d2,data:=.seq items n,slots:=s2 } /\
   R (.ok (.ret (.ref (s.heap.push (kR t)).objs.size))) { s with heap:=(s.heap.push (kR t)).push (nT s.heap.objs.size) }) :=
 .of_wp λ_ _ _ _ s q=>by
  obtain ⟨h0,g0,d0,t0,o0⟩:=s
  obtain ⟨a1,q⟩:=q
  have isL:Heap.IsList (Shared.heap ⟨h0,g0,d0,t0,o0⟩) t items:=⟨_,a1,rfl,n,rfl⟩
  have self1:=sub_enumerate
  wp_walk
  refine wpAny_stack_any λrows=>?_
  refine wpAny_pure ?_
  split
  ·rename_i cl _ _ _ _ _
   cases (cl == Value.type "enumerate") <;> (wp_walk using wpAny_pyIter_list isL;exact ⟨_,rfl,q⟩)
  ·wp_walk using wpAny_pyIter_list isL
   exact ⟨_,rfl,q⟩
variable {prog:Program} {w:World} {A:Around} {s:Shared}
theorem sJ {E:Value->Shared->Prop} {t:Addr} {items:Array Value} {Q:Value->Shared->Prop} (a1:s.heap.IsList t items)
  (q:Q (.ref (s.heap.objs.size+1)) { s with heap:=(s.heap.push (kR t)).push (nT s.heap.objs.size) }):wpAny (model prog w) A (call (.type "enumerate") [.ref t]) Q E s:=by
 obtain ⟨⟨c2,d2,dt2,s2⟩,a1,hc,n,hd⟩:=a1
 obtain rfl:c2=.type "list":=hc
 obtain rfl:dt2=.seq items n:=hd
 have sz:(s.heap.push (kR t)).objs.size=s.heap.objs.size+1:=Heap.size_push _ _
 refine callType_new PySem.F.called_enumerate (by decide) (PySem.F.typeCall_enumerate_1 _) (PySem.F.newCall_enumerate_1 _) (λo=>PySem.F.args_object_init_2 o _) PySem.F.entry_enumerate_new (ve t items n d2 s2) ⟨a1,?_⟩
 show _/\_
 rw [sz]
 refine ⟨⟨nT s.heap.objs.size,?_,rfl⟩,q⟩
 exact Heap.get?_push_at sz.symm rfl
def Ck (K:PySem.W.Frag) (a:Addr) (xs:List V):It:=⟨λi H=>i < xs.length/\SqL K H a xs,λi H x H'=>∃ p y,H p=none/\x=.ref p/\xs[i]?=some y/\H'=upd H p (.tup [.int i,y]),λi H=>i=xs.length/\SqL K H a xs⟩
variable {P:Program} {K:PySem.W.Frag} {elts:List Expr} {ps:Pos}
theorem tR {c1} (a e it:Addr) (xs:List V) (ne:e≠it):kW P w K (.Tuple elts c1 ps) (Ck K a xs) [e,it] e (λi h=>a≠it/\a≠e/\∃ old,IsEnum h e it i old/\h.IsListIter it a i) where
 mem:=by simp
 obj:=λi h st b hb=>by
  obtain ⟨_,_,old,q1,q2⟩:=st
  rcases List.mem_cons.mp hb with z | z
  ·subst z;exact ⟨_,q1,λv z=>by cases z⟩
  ·have z:b=it:=by simpa using z
   subst z
   obtain ⟨o,e,c,d⟩:=q2
   exact ⟨o,e,λv z=>by rw [d] at z;cases z⟩
 keep:=λi h h' ⟨n1,n2,old,q1,q2⟩ k=>⟨n1,n2,old,k e (by simp) _ q1,q2.at λo z=>k it (by simp) o z⟩
 item:=by
  intro X hP hw hK hc i pins s σ H E I hf st hg
  subst hP hw hK
  obtain ⟨hi,hq⟩:=hg
  obtain ⟨nai,nae,old,q1,q2⟩:=st
  obtain ⟨its,rv,p,hz⟩:=I.list hq
  have hx:xs[i]?=some xs[i]:=List.getElem?_eq_getElem hi
  obtain ⟨u,hu,ru⟩:=rv.get hx
  have isT:s.heap.IsList a its.toArray:=p.isList
  have lr:=rv.length
  refine wpAny_pyNext_enum_itemD (Draws.list (A:=X.A.in1) (I.ok.hd hc) it a nai its.toArray) q1 ⟨q2,isT⟩ (by rw [List.size_toArray];omega) ne (by simp [ne,Ne.symm nae]) λy h' tk hy out st' tup sz kk=>⟨_,rfl,?_⟩
  have ey:y=u:=by
   have h1:its[i]?=some y:=by simpa using hy
   rw [hu] at h1
   exact (Option.some.inj h1).symm
  subst ey
  refine wpAny_letOwnedTupleGo_enum (s:={ s with heap:=h',toks:=tk+1 }) out λh2 e2 same=>?_
  have le:e < s.heap.objs.size:=Heap.lt_size q1
  have li:it < s.heap.objs.size:=let ⟨_,z,_⟩:=q2;Heap.lt_size z
  have tup2:h2.get? s.heap.objs.size=some { cls:=.type "tuple",data:=.seq #[.int i tk,y] }:=(same.2 _ (Nat.ne_of_gt le)).trans tup
  have I1:Inv X pins σ (upd H s.heap.objs.size (.tup [.int i,xs[i]])) { s with heap:=s.heap.push { cls:=.type "tuple",data:=.seq #[.int i tk,y] },toks:=s.toks } :=
   I.laid (o:=.tup [.int i,xs[i]]) (λb ob q=>Heap.get?_push_of_some _ q) (Nat.le_refl _) ⟨by rw [sizeLine_eq];simp,[.int i tk,y],.cons ⟨_,rfl⟩ (.cons ru .nil),IsTup.new _ _⟩
  have frees:∀ b,b < s.heap.objs.size->upd H s.heap.objs.size (.tup [.int i,xs[i]]) b=H b:=λb hb=>aJ (Nat.ne_of_lt hb)
  have I2:Inv X pins σ (upd H s.heap.objs.size (.tup [.int i,xs[i]])) { s with heap:=h2,toks:=tk+1 }:=by
   refine Inv.turnedL (s:={ s with heap:=s.heap.push { cls:=.type "tuple",data:=.seq #[.int i tk,y] },toks:=s.toks }) (h':=h2) (its:=[e,it]) (t':=tk+1) I1 (λb o hb q=>?_) (λb hb=>?_)
   ·have h1:b≠e:=λz=>hb (by simp [z])
    have h3:b≠it:=λz=>hb (by simp [z])
    by_cases hbs:b=s.heap.objs.size
    ·subst hbs
     have q':(s.heap.push { cls:=.type "tuple",data:=.seq #[.int i tk,y] }).get? s.heap.objs.size=some o:=q
     rw [Heap.get?_push_at rfl rfl] at q'
     cases q'
     exact tup2
    ·have q':s.heap.get? b=some o:=by
      have lt:b < s.heap.objs.size:=by
       have l1:b < (s.heap.push { cls:=.type "tuple",data:=.seq #[.int i tk,y] }).objs.size:=Heap.lt_size q
       rw [Heap.size_push] at l1
       exact Nat.lt_of_le_of_ne (Nat.le_of_lt_succ l1) hbs
      exact (Heap.get?_push_ne _ _ _ hbs).symm.trans q
     exact (same.2 b h1).trans (kk b o h1 h3 q')
   ·have lb:b < s.heap.objs.size:=by
     rcases List.mem_cons.mp hb with z | z
     ·rw [z];exact le
     ·rw [show b=it by simpa using z];exact li
    obtain ⟨f0,f1,f2,f3,f4,f5⟩:=hf b hb
    exact ⟨by rw [frees b lb];exact f0,f1,f3,f4,f5⟩
  refine ⟨.ref s.heap.objs.size,_,I2,rfl,⟨_,_,I.hok.fresh (Nat.le_refl _),rfl,hx,rfl⟩,⟨nai,nae,y,?_,?_⟩,λb hb=>?_⟩
  ·have ec:((i+1:Nat):Int)=(i:Int)+1:=by omega
   rw [ec];exact e2
  ·exact st'.1.at λo z=>(same.2 it (Ne.symm ne)).trans z
  ·have lb:b < s.heap.objs.size:=by
    rcases List.mem_cons.mp hb with z | z
    ·rw [z];exact le
    ·rw [show b=it by simpa using z];exact li
   rw [frees b lb];exact (hf b hb).1
 done:=by
  intro X hP hw hK hc i pins s σ H E I hf st hg
  subst hP hw hK
  obtain ⟨hi,hq⟩:=hg
  obtain ⟨nai,nae,old,q1,q2⟩:=st
  obtain ⟨its,rv,p,hz⟩:=I.list hq
  have lr:=rv.length
  have isT:s.heap.IsList a its.toArray:=p.isList
  obtain ⟨f0,f1,f2,f3,f4,f5⟩:=hf it (by simp)
  refine wpAny_pyNext_enum_endD (Draws.list (A:=X.A.in1) (I.ok.hd hc) it a nai its.toArray) q1 (by rw [List.size_toArray,← lr,← hi];exact ⟨q2,isT⟩) λh' eb=>⟨rfl,?_⟩
  exact I.turned (t':=s.toks) (λb o hb q=>eb b o hb q) f0 f1 f3 f4 f5
 self:=λA i s Q E ⟨_,_,_,q1,_⟩ q=>wpAny_pyIter_enum q1 q
def xG (K:PySem.W.Frag) (ta:TA):TI:=λσ H R=>ta σ H λvs H1=>∃ a xs,vs=[.ref a]/\SqL K H1 a xs/\R (Ck K a xs) H1
variable {X:Cx} {a:Expr} {ta:TA} {p pos:Pos}
theorem yh {c1} (hg:Gl X "enumerate") (hm:X.mg "enumerate"=none) (ha:PA X [a] ta) (hs:starEach [a] X.env=[(false,eval a X.env)]:=by rfl):PI X (.Tuple elts c1 ps) (.Call (.Name "enumerate" p) [a] [] pos) (xG X.K ta):=by
 intro pins s σ H R I h
 refine Call_ (iX I hg hm oX (PyProof.Rows.callWith_type1 (thn (ha pos pins s σ H _ I h) λus s1 ⟨vs,H1,I1,r1,q1⟩=>?_) hs rfl))
 obtain ⟨t,xs,ev,hq,q⟩:=q1
 subst ev
 obtain ⟨u,rfl,ru⟩:=fX r1
 cases ru
 obtain ⟨its,rv,pt,hz⟩:=I1.list hq
 have lt:t < s1.heap.objs.size:=let ⟨_,z,_⟩:=pt.isList;Heap.lt_size z
 refine sJ pt.isList ?_
 have sz:(s1.heap.push (kR t)).objs.size=s1.heap.objs.size+1:=Heap.size_push _ _
 have q1:IsEnum ((s1.heap.push (kR t)).push (nT s1.heap.objs.size)) (s1.heap.objs.size+1) s1.heap.objs.size ((0:Nat):Int) .none:=Heap.get?_push_at sz.symm rfl
 have q2:((s1.heap.push (kR t)).push (nT s1.heap.objs.size)).IsListIter s1.heap.objs.size t 0:=⟨_,Heap.get?_push_of_some _ (Heap.get?_push_at rfl rfl),rfl,rfl⟩
 refine wpAny_pyIter_enum (s:={ s1 with heap:=(s1.heap.push (kR t)).push (nT s1.heap.objs.size) }) q1 ?_
 refine ⟨s1.heap.objs.size+1,[s1.heap.objs.size+1,s1.heap.objs.size],_,_,H1,rfl,I1.kept (t':=s1.toks) (λb o e=>Heap.get?_push_of_some _ (Heap.get?_push_of_some _ e)),tR t _ _ xs (Nat.ne_of_gt (Nat.lt_succ_self _)),⟨Nat.ne_of_lt lt,Nat.ne_of_lt (Nat.lt_succ_of_lt lt),.none,q1,q2⟩,λb hb=>?_,q⟩
 rcases List.mem_cons.mp hb with z | z
 ·subst z;exact I1.fpOk (Nat.le_succ _) (I1.hok.fresh (Nat.le_succ _))
 ·have z:b=s1.heap.objs.size:=by simpa using z
  subst z;exact I1.fpOk (Nat.le_refl _) (I1.hok.fresh (Nat.le_refl _))
theorem yB {σ:St} {H:Hp} {tl:TE} {te:TE} {mk:St->St} {i j:Nat} {cs:List D} (h:RL K tl σ H cs) (hc:cs.length≤1000) (es:List D) (hn:es.length=cs.length) (ne:i≠j)
  (h0:((mk σ).set i none).set j none=mk σ)
  (turn:∀ H1 (k:Nat) c e w,Same H H1->cs[k]?=some c->es[k]?=some e->Dat K H1 c w->RE K te (((mk σ).set i (some (.int k))).set j (some w)) H1 e) :
  RC K (gW (xG K (bP tl d8)) mk (vj K 2 (jr (cy i) (jr (cy j) xx))) fW te) σ H es:=λH1 s Q q=>by
 refine h H1 s _ λvs H2 s2 q2=>?_
 obtain ⟨a,us,e1,ha,da⟩:=q2
 subst e1
 have lu:=da.length
 refine ⟨a,us,rfl,ha.sqL,λl hl2=>?_⟩
 have s02:Same H H2:=s.trans s2
 refine ⟨λn m σ' G=>m=us.length - n/\n≤us.length/\(∃ z1 z2,σ'=((mk σ).set i z1).set j z2)/\Same H2 G/\∃ ys,G l=some (.lst ys)/\Dats K G (es.take n) ys,⟨us.length,by omega,Nat.zero_le _,⟨none,none,h0.symm⟩,aC hl2 _,[],aq,by rw [List.take_zero];exact Dats.nil⟩,?_⟩
 rintro n m σ' G ⟨rfl,hle,⟨z1,z2,rfl⟩,sG,ys,hy,dy⟩
 by_cases hlt:n < us.length
 ·refine .inr ⟨⟨hlt,(sG.aLst ha).sqL⟩,λσ'' G'=>(∃ z1 z2,σ''=((mk σ).set i z1).set j z2)/\Same H2 G'/\∃ ys,G' l=some (.lst ys)/\Dats K G' (es.take (n+1)) ys,λσ'' G' w=>⟨us.length - (n+1),by omega,rfl,hlt,w.1,w.2⟩,λx G' y=>?_⟩
  obtain ⟨p,w,hp,rfl,hw,rfl⟩:=y
  have sn:Same G (upd G p (.tup [.int n,w])):=aC hp _
  have s2n:=sG.trans sn
  obtain ⟨c,ec,hcv⟩:=da.getV hw
  have hne:n < es.length:=by omega
  refine ⟨p,[.int n,w],rfl,SqT.of aq,rfl,.int n,_,rfl,w,_,rfl,rfl,?_⟩
  simp only [fW,if_true]
  rw [uI _ ne]
  refine RE.use (turn _ n c es[n] w (s02.trans s2n) ec (List.getElem?_eq_getElem hne) (s2n.dat hcv)) λv G4 s4 q4=>?_
  have hy4:=s4 _ _ (sn _ _ hy)
  have lys:ys.length=n:=by rw [← dy.length,List.length_take];omega
  refine ⟨ys,hy4,ck (by omega),⟨_,_,rfl⟩,λx o hx=>?_,ys++[v],aq,?_⟩
  ·rw [aJ (aB hx hl2)]
   exact s4 _ _ (s2n _ _ hx)
  ·have g:cO K G4 (upd G4 l (.lst (ys++[v]))):=But.grow (t:=l) (But.upd (Same.refl G4).but) hy4 aq
   rw [List.take_add_one,List.getElem?_eq_getElem hne]
   exact Dats.append (Dats.mono g _ (s4.dats (sn.dats dy))) (Dats.cons (Dat.mono g _ q4) Dats.nil)
 ·have e:n=us.length:=by omega
  subst e
  refine .inl ⟨⟨rfl,(sG.aLst ha).sqL⟩,?_⟩
  rw [List.take_of_length_le (by omega)] at dy
  exact q l ys G (s2.free hl2) (s2.trans sG) hy dy
abbrev eV (h:Heap) (T:Addr) (a b c:Value):Prop:=h.get? T=some { cls:=.type "tuple",data:=.seq #[a,b,c] }
structure Z3 (z TI TO i1 i2 i3 l1 l2 l3:Addr):Prop where
 TIz:TI≠z
 TOz:TO≠z
 TITO:TI≠TO
 i12:i1≠i2
 i13:i1≠i3
 i23:i2≠i3
 it:∀ i,i=i1\/i=i2\/i=i3->i≠z/\TI≠i/\TO≠i
 ls:∀ l,l=l1\/l=l2\/l=l3->l≠z/\l≠TO/\l≠i1/\l≠i2/\l≠i3
section
variable {prog:Program} {w:World} {A:Around} {E:Value->Shared->Prop} {s:Shared} {z TI TO i1 i2 i3 l1 l2 l3:Addr} {k:Nat} {xs ys zs:Array Value}
variable {c x:Value}
theorem qx {T:Addr} {a b:Value} {j:Nat} {Q:Unit->Shared->Prop} (hT:eV s.heap T a b c)
  (h:∀ h',h'.get? T=some { cls:=.type "tuple",data:=.seq ((#[a,b,c]:Array Value).setIfInBounds j x) }->Heap.SameBut T s.heap h'->Q () { s with heap:=h' }) :
  wpAny (model prog w) A (updateSeq T (·.setIfInBounds j x)) Q E s :=
 wpAny_updateSeq hT rfl (h _ (by rw [Heap.get?_update_self _ hT rfl];simp [Obj.mapSeq]) (Heap.SameBut.update ..))
variable {a1 a2 a3:Value}
theorem wj {y:Value} {Q:Value->Shared->Prop} (hz:IsZip s.heap z TI TO .none) (hI:eV s.heap TI (.ref i1) (.ref i2) (.ref i3)) (hO:eV s.heap TO a1 a2 a3)
  (h1:s.heap.IsListIter i1 l1 k) (h2:s.heap.IsListIter i2 l2 k) (h3:s.heap.IsListIter i3 l3 k) (e1:s.heap.IsList l1 xs) (e2:s.heap.IsList l2 ys) (e3:s.heap.IsList l3 zs) (hx:xs[k]?=some x) (hy:ys[k]?=some y) (hc:zs[k]?=some c) (D:Z3 z TI TO i1 i2 i3 l1 l2 l3)
  (q:∀ h',IsZip h' z TI TO (rawInt s.heap.objs.size)->eV h' TO x y c->h'.IsListIter i1 l1 (k+1)->h'.IsListIter i2 l2 (k+1)->h'.IsListIter i3 l3 (k+1)->h'.get? s.heap.objs.size=some { cls:=.type "tuple",data:=.seq #[x,y,c] } ->
   (∀ b o,b≠z->b≠TO->b≠i1->b≠i2->b≠i3->s.heap.get? b=some o->h'.get? b=some o)->Q (.ref s.heap.objs.size) { s with heap:=h' }) :
  wpAny (model prog w) A (Builtin.«zip.__next__» ⟨[.ref z],[]⟩) (λfin s'=>∃ v,fin=.done (.ret v)/\Q v s') E s:=by
 obtain ⟨n1z,nI1,nO1⟩:=D.it i1 (.inl rfl)
 obtain ⟨n2z,nI2,nO2⟩:=D.it i2 (.inr (.inl rfl))
 obtain ⟨n3z,nI3,nO3⟩:=D.it i3 (.inr (.inr rfl))
 obtain ⟨m1z,m1O,m11,m12,m13⟩:=D.ls l1 (.inl rfl)
 obtain ⟨m2z,m2O,m21,m22,m23⟩:=D.ls l2 (.inr (.inl rfl))
 obtain ⟨m3z,m3O,m31,m32,m33⟩:=D.ls l3 (.inr (.inr rfl))
 show wpAny _ _ (field (.ref z) 2 >>= _) _ _ _
 refine wpAny_bind (wpAny_field hz rfl rfl ?_)
 show wpAny _ _ (field (.ref z) 3 >>= _) _ _ _
 refine wpAny_bind (wpAny_field hz rfl rfl ?_)
 refine wpAny_bind (wpAny_seqItems hI rfl ?_)
 refine wpAny_bind (wpAny_bind (wpAny_field hz rfl rfl (wpAny_pure ?_)))
 refine wpAny_bind (wpAny_rule ?_)
 refine wpAny_bind (wpAny_field hz rfl rfl ?_)
 refine wpAny_bind (wpAny_setField_rec hz (by simp) λha za sa=>?_)
 replace za:IsZip ha z TI TO .ellipsis:=za
 rw [show (#[Value.ref i1,Value.ref i2,Value.ref i3]:Array Value).toList.zipIdx=[(.ref i1,0),(.ref i2,1),(.ref i3,2)] from rfl,List.forIn_cons]
 have oa:eV ha TO a1 a2 a3:=(sa.2 TO D.TOz).trans hO
 refine wpAny_bind (wpAny_bind (wpAny_bind (wpAny_onRaise (wpAny_bind (wpAny_nextOf_list_item (s:={ s with heap:=ha }) (h1.at λo e=>(sa.2 i1 n1z).trans e) (e1.extBut sa.extBut m1z) hx λhb p1 sb=>wpAny_pure ?_)))))
 replace sb:Heap.SameBut i1 ha hb:=sb
 have ob:eV hb TO a1 a2 a3:=(sb.2 TO nO1).trans oa
 refine wpAny_bind (wpAny_seqItems (s:={ s with heap:=hb }) ob rfl ?_)
 refine wpAny_bind (qx (s:={ s with heap:=hb }) ob λhd od sd=>?_)
 replace sd:Heap.SameBut TO hb hd:=sd
 replace od:eV hd TO x a2 a3:=od
 refine wpAny_bind (wpAny_letGo (wpAny_pure ?_))
 show wpAny _ _ (forIn [(Value.ref i2,1),(Value.ref i3,2)] _ _) _ _ _
 rw [List.forIn_cons]
 have g2:hd.IsListIter i2 l2 k:=h2.at λo e=>(sd.2 i2 (Ne.symm nO2)).trans ((sb.2 i2 (Ne.symm D.i12)).trans ((sa.2 i2 n2z).trans e))
 have f2:hd.IsList l2 ys:=((e2.extBut sa.extBut m2z).extBut sb.extBut m21).extBut sd.extBut m2O
 refine wpAny_bind (wpAny_bind (wpAny_onRaise (wpAny_bind (wpAny_nextOf_list_item (s:={ s with heap:=hd }) g2 f2 hy λhe p2 se=>wpAny_pure ?_))))
 replace se:Heap.SameBut i2 hd he:=se
 have oe:eV he TO x a2 a3:=(se.2 TO nO2).trans od
 refine wpAny_bind (wpAny_seqItems (s:={ s with heap:=he }) oe rfl ?_)
 refine wpAny_bind (qx (s:={ s with heap:=he }) oe λhf of sf=>?_)
 replace sf:Heap.SameBut TO he hf:=sf
 replace of:eV hf TO x y a3:=of
 refine wpAny_bind (wpAny_letGo (wpAny_pure ?_))
 show wpAny _ _ (forIn [(Value.ref i3,2)] _ _) _ _ _
 rw [List.forIn_cons]
 have g3:hf.IsListIter i3 l3 k:=h3.at λo e=>(sf.2 i3 (Ne.symm nO3)).trans ((se.2 i3 (Ne.symm D.i23)).trans ((sd.2 i3 (Ne.symm nO3)).trans ((sb.2 i3 (Ne.symm D.i13)).trans ((sa.2 i3 n3z).trans e))))
 have f3:hf.IsList l3 zs:=((((e3.extBut sa.extBut m3z).extBut sb.extBut m31).extBut sd.extBut m3O).extBut se.extBut m32).extBut sf.extBut m3O
 refine wpAny_bind (wpAny_bind (wpAny_onRaise (wpAny_bind (wpAny_nextOf_list_item (s:={ s with heap:=hf }) g3 f3 hc λhg p3 sg=>wpAny_pure ?_))))
 replace sg:Heap.SameBut i3 hf hg:=sg
 have og:eV hg TO x y a3:=(sg.2 TO nO3).trans of
 refine wpAny_bind (wpAny_seqItems (s:={ s with heap:=hg }) og rfl ?_)
 refine wpAny_bind (qx (s:={ s with heap:=hg }) og λhh oh sh=>?_)
 replace sh:Heap.SameBut TO hg hh:=sh
 replace oh:eV hh TO x y c:=oh
 refine wpAny_bind (wpAny_letGo (wpAny_pure ?_))
 show wpAny _ _ (forIn [] _ _) _ _ _
 rw [List.forIn_nil]
 refine wpAny_pure ?_
 show wpAny _ _ (seqItems? (.ref TO) >>= _) _ _ _
 refine wpAny_bind (wpAny_seqItems (s:={ s with heap:=hh }) oh rfl ?_)
 refine wpAny_bind (wpAny_newTuple ?_)
 have szh:hh.objs.size=s.heap.objs.size:=by rw [sh.1,sg.1,sf.1,se.1,sd.1,sb.1,sa.1]
 have all:∀ b,b≠z->b≠TO->b≠i1->b≠i2->b≠i3->hh.get? b=s.heap.get? b:=λb n1 n2 n3 n4 n5=>(sh.2 b n2).trans ((sg.2 b n5).trans ((sf.2 b n2).trans ((se.2 b n4).trans ((sd.2 b n2).trans ((sb.2 b n3).trans (sa.2 b n1))))))
 have zh:IsZip hh z TI TO .ellipsis:=(sh.2 z (Ne.symm D.TOz)).trans ((sg.2 z (Ne.symm n3z)).trans ((sf.2 z (Ne.symm D.TOz)).trans ((se.2 z (Ne.symm n2z)).trans ((sd.2 z (Ne.symm D.TOz)).trans ((sb.2 z (Ne.symm n1z)).trans za)))))
 have q1:hh.IsListIter i1 l1 (k+1):=p1.at λo e=>(sh.2 i1 (Ne.symm nO1)).trans ((sg.2 i1 D.i13).trans ((sf.2 i1 (Ne.symm nO1)).trans ((se.2 i1 D.i12).trans ((sd.2 i1 (Ne.symm nO1)).trans e))))
 have q2:hh.IsListIter i2 l2 (k+1):=p2.at λo e=>(sh.2 i2 (Ne.symm nO2)).trans ((sg.2 i2 D.i23).trans ((sf.2 i2 (Ne.symm nO2)).trans e))
 have q3:hh.IsListIter i3 l3 (k+1):=p3.at λo e=>(sh.2 i3 (Ne.symm nO3)).trans e
 have lz:z < s.heap.objs.size:=Heap.lt_size hz
 have push:∀ b o,hh.get? b=some o->(hh.push { cls:=.type "tuple",data:=.seq #[x,y,c] }).get? b=some o:=λb o e=>Heap.get?_push_of_some _ e
 have tf:(hh.push { cls:=.type "tuple",data:=.seq #[x,y,c] }).get? s.heap.objs.size=some { cls:=.type "tuple",data:=.seq #[x,y,c] }:=Heap.get?_push_at szh.symm rfl
 have zf:IsZip (hh.push { cls:=.type "tuple",data:=.seq #[x,y,c] }) z TI TO .ellipsis:=push _ _ zh
 generalize hh.push { cls:=.type "tuple",data:=.seq #[x,y,c] }=hp at push tf zf
 show wpAny _ _ (Builtin.SmallTypes.ownedTupleHandOut (.ref z) (.ref hh.objs.size) >>= _) _ _ _
 rw [szh]
 refine wpAny_bind (wpAny_bind (wpAny_setField_rec (s:={ s with heap:=hp }) zf (by simp) λhq zq sq=>wpAny_setField_rec (s:={ s with heap:=hq }) zq (by simp) λhr zr sr=>wpAny_pure ⟨_,rfl,?_⟩))
 replace sq:Heap.SameBut z hp hq:=sq
 replace sr:Heap.SameBut z hq hr:=sr
 have on:∀ b o,b≠z->hp.get? b=some o->hr.get? b=some o:=λb o n e=>(sr.2 b n).trans ((sq.2 b n).trans e)
 exact q hr zr (on _ _ D.TOz (push _ _ oh)) (q1.at λo e=>on _ _ n1z (push _ _ e)) (q2.at λo e=>on _ _ n2z (push _ _ e)) (q3.at λo e=>on _ _ n3z (push _ _ e)) (on _ _ (Nat.ne_of_gt lz) tf) λb o n1 n2 n3 n4 n5 e=>on b o n1 (push b o ((all b n1 n2 n3 n4 n5).trans e))
theorem wg {Q:Fin->Shared->Prop} (hh:A.handled=none) (hz:IsZip s.heap z TI TO .none) (hI:eV s.heap TI (.ref i1) (.ref i2) (.ref i3)) (hO:eV s.heap TO a1 a2 a3) (h1:s.heap.IsListIter i1 l1 k)
  (e1:s.heap.IsList l1 xs) (hx:xs[k]?=none) (D:Z3 z TI TO i1 i2 i3 l1 l2 l3)
  (q:∀ h' e,(∀ b o,b≠z->b≠i1->s.heap.get? b=some o->h'.get? b=some o)->(∃ o,h'.get? e=some o/\o.cls=.type "StopIteration")->E (.ref e) { s with heap:=h' }):wpAny (model prog w) A (Builtin.«zip.__next__» ⟨[.ref z],[]⟩) Q E s:=by
 obtain ⟨n1z,nI1,nO1⟩:=D.it i1 (.inl rfl)
 obtain ⟨m1z,m1O,m11,m12,m13⟩:=D.ls l1 (.inl rfl)
 show wpAny _ _ (field (.ref z) 2 >>= _) _ _ _
 refine wpAny_bind (wpAny_field hz rfl rfl ?_)
 show wpAny _ _ (field (.ref z) 3 >>= _) _ _ _
 refine wpAny_bind (wpAny_field hz rfl rfl ?_)
 refine wpAny_bind (wpAny_seqItems hI rfl ?_)
 refine wpAny_bind (wpAny_bind (wpAny_field hz rfl rfl (wpAny_pure ?_)))
 refine wpAny_bind (wpAny_rule ?_)
 refine wpAny_bind (wpAny_field hz rfl rfl ?_)
 refine wpAny_bind (wpAny_setField_rec hz (by simp) λha za sa=>?_)
 replace za:IsZip ha z TI TO .ellipsis:=za
 rw [show (#[Value.ref i1,Value.ref i2,Value.ref i3]:Array Value).toList.zipIdx=[(.ref i1,0),(.ref i2,1),(.ref i3,2)] from rfl,List.forIn_cons]
 refine wpAny_bind (wpAny_bind (wpAny_bind (wpAny_onRaise (wpAny_bind (wpAny_nextOf_list_end (s:={ s with heap:=ha }) hh (h1.at λo e=>(sa.2 i1 n1z).trans e) (e1.extBut sa.extBut m1z) hx λhb e sb he=>?_)))))
 replace sb:Heap.ExtBut i1 ha hb:=sb
 have zb:IsZip hb z TI TO .ellipsis:=sb z _ (Ne.symm n1z) za
 obtain ⟨oe,hoe,hce⟩:=he
 have nez:e≠z:=λy=>by rw [y,zb] at hoe;cases hoe;simp at hce
 refine wpAny_setField_rec (s:={ s with heap:=hb }) zb (by simp) λhc zc sc=>q hc e (λb o n1 n2 hb'=>?_) ⟨oe,(sc.2 e nez).trans hoe,hce⟩
 exact (sc.2 b n1).trans (sb b o n2 ((sa.2 b n1).trans hb'))
end
set_option maxHeartbeats 8000000 in
theorem yT (t1 t2 t3:Addr) (xs ys zs:Array Value) :
  Meets (Builtin.«zip.__new__» ⟨[.type "zip",.ref t1,.ref t2,.ref t3],[]⟩) (λ_ R s=>s.heap.IsList t1 xs/\s.heap.IsList t2 ys/\s.heap.IsList t3 zs /\
   ∀ h',IsZip h' (s.heap.objs.size+5) (s.heap.objs.size+3) (s.heap.objs.size+4) .none->eV h' (s.heap.objs.size+3) (.ref s.heap.objs.size) (.ref (s.heap.objs.size+1)) (.ref (s.heap.objs.size+2))->eV h' (s.heap.objs.size+4) .none .none .none ->
    h'.IsListIter s.heap.objs.size t1 0->h'.IsListIter (s.heap.objs.size+1) t2 0->h'.IsListIter (s.heap.objs.size+2) t3 0->(∀ b o,s.heap.get? b=some o->h'.get? b=some o)->R (.ok (.ret (.ref (s.heap.objs.size+5)))) { s with heap:=h' }) :=
 .of_wp λ_ _ _ _ s q=>by
  obtain ⟨h0,g0,d0,t0,o0⟩:=s
  obtain ⟨a1,a2,a3,q⟩:=q
  have self1:=sub_zip
  have b1:Heap.IsList (Shared.heap ⟨h0,g0,d0,t0,o0⟩) t1 xs:=a1
  have b2:Heap.IsList (Shared.heap ⟨h0.push (sT t1),g0,d0,t0,o0⟩) t2 ys:=Heap.IsList.push a2 _
  have b3:Heap.IsList (Shared.heap ⟨(h0.push (sT t1)).push (sT t2),g0,d0,t0,o0⟩) t3 zs:=Heap.IsList.push (Heap.IsList.push a3 _) _
  wp_walk using wpAny_pyIter_list b1,wpAny_pyIter_list b2,wpAny_pyIter_list b3
  refine ⟨_,rfl,?_⟩
  simp only [Heap.size_push]
  have P:∀ {h:Heap} {b:Addr} {o o':Obj},h.get? b=some o->(h.push o').get? b=some o:=λe=>Heap.get?_push_of_some _ e
  refine q _ ?_ ?_ ?_ ?_ ?_ ?_ λb o e=>?_
  ·exact Heap.get?_push_at (by simp [Heap.size_push]) rfl
  ·exact P (P (Heap.get?_push_at (by simp [Heap.size_push]) rfl))
  ·exact P (Heap.get?_push_at (by simp [Heap.size_push]) rfl)
  ·exact ⟨_,P (P (P (P (P (Heap.get?_push_at (by simp [Heap.size_push]) rfl))))),rfl,rfl⟩
  ·exact ⟨_,P (P (P (P (Heap.get?_push_at (by simp [Heap.size_push]) rfl)))),rfl,rfl⟩
  ·exact ⟨_,P (P (P (Heap.get?_push_at (by simp [Heap.size_push]) rfl))),rfl,rfl⟩
  ·exact P (P (P (P (P (P e)))))
theorem we (a b c:Value):checkTypeCall "zip" ⟨[a,b,c],[]⟩=pure ():=by kernel_rfl
theorem xV (a b c:Value):checkBuiltinCall "zip.__new__" ⟨[.type "zip",a,b,c],[]⟩=pure ():=by kernel_rfl
theorem CJ (a b c d:Value):argsOk "object.__init__" ⟨[a,b,c,d],[]⟩:=by
 unfold argsOk
 rw [signature?_of (n:="__tini__".toList) (o:="tcejbo".toList) (by kernel_rfl) PySem.F.owner_object]
 kernel_rfl
theorem uX {E:Value->Shared->Prop} {t1 t2 t3:Addr} {xs ys zs:Array Value} {Q:Value->Shared->Prop} (a1:s.heap.IsList t1 xs) (a2:s.heap.IsList t2 ys) (a3:s.heap.IsList t3 zs)
  (q:∀ h',IsZip h' (s.heap.objs.size+5) (s.heap.objs.size+3) (s.heap.objs.size+4) .none->eV h' (s.heap.objs.size+3) (.ref s.heap.objs.size) (.ref (s.heap.objs.size+1)) (.ref (s.heap.objs.size+2))->eV h' (s.heap.objs.size+4) .none .none .none ->
   h'.IsListIter s.heap.objs.size t1 0->h'.IsListIter (s.heap.objs.size+1) t2 0->h'.IsListIter (s.heap.objs.size+2) t3 0->(∀ b o,s.heap.get? b=some o->h'.get? b=some o)->Q (.ref (s.heap.objs.size+5)) { s with heap:=h' }) :
  wpAny (model prog w) A (call (.type "zip") [.ref t1,.ref t2,.ref t3]) Q E s :=
 callType_new PySem.F.called_zip (by decide) (we _ _ _) (xV _ _ _) (λo=>CJ o _ _ _) PySem.F.entry_zip_new (yT t1 t2 t3 xs ys zs) ⟨a1,a2,a3,λh' z1 z2 z3 z4 z5 z6 kk=>⟨⟨_,z1,rfl⟩,q h' z1 z2 z3 z4 z5 z6 kk⟩⟩
def It3 (K:PySem.W.Frag) (a b c:Addr) (xs ys zs:List V):It:=⟨λi H=>i < xs.length/\i < ys.length/\i < zs.length/\SqL K H a xs/\SqL K H b ys/\SqL K H c zs,λi H x H'=>∃ p u v y,H p=none/\x=.ref p/\xs[i]?=some u/\ys[i]?=some v/\zs[i]?=some y/\H'=upd H p (.tup [u,v,y]),λi H=>i=xs.length/\SqL K H a xs⟩
theorem wd {c1} (a b c z TI TO i1 i2 i3:Addr) (xs ys zs:List V) (D:Z3 z TI TO i1 i2 i3 a b c):kW P w K (.Tuple elts c1 ps) (It3 K a b c xs ys zs) [z,TI,TO,i1,i2,i3] z
  (λi h=>∃ d e f,IsZip h z TI TO .none/\eV h TI (.ref i1) (.ref i2) (.ref i3)/\eV h TO d e f/\h.IsListIter i1 a i/\h.IsListIter i2 b i/\h.IsListIter i3 c i) where
 mem:=by simp
 obj:=λi h ⟨d,e,f,q1,q2,q3,q4,q5,q6⟩ b hb=>by
  simp only [List.mem_cons,List.not_mem_nil,or_false] at hb
  rcases hb with rfl | rfl | rfl | rfl | rfl | rfl
  ·exact ⟨_,q1,λv e=>by cases e⟩
  ·exact ⟨_,q2,λv e=>by cases e⟩
  ·exact ⟨_,q3,λv e=>by cases e⟩
  ·obtain ⟨o,e,c,d⟩:=q4;exact ⟨o,e,λv z=>by rw [d] at z;cases z⟩
  ·obtain ⟨o,e,c,d⟩:=q5;exact ⟨o,e,λv z=>by rw [d] at z;cases z⟩
  ·obtain ⟨o,e,c,d⟩:=q6;exact ⟨o,e,λv z=>by rw [d] at z;cases z⟩
 keep:=λi h h' ⟨d,e,f,q1,q2,q3,q4,q5,q6⟩ k=>⟨d,e,f,k z (by simp) _ q1,k TI (by simp) _ q2,k TO (by simp) _ q3,q4.at λo e=>k i1 (by simp) o e,q5.at λo e=>k i2 (by simp) o e,q6.at λo e=>k i3 (by simp) o e⟩
 item:=by
  intro X hP hw hK hc i pins s σ H E I hf st hg
  subst hP hw hK
  obtain ⟨d,e,f,q1,q2,q3,q4,q5,q6⟩:=st
  obtain ⟨hi,hj,hk,ha,hb,hcl⟩:=hg
  obtain ⟨us,ru,pu,_⟩:=I.list ha
  obtain ⟨vs,rv,pv,_⟩:=I.list hb
  obtain ⟨ws,rw',pw,_⟩:=I.list hcl
  have hx:xs[i]?=some xs[i]:=List.getElem?_eq_getElem hi
  have hy:ys[i]?=some ys[i]:=List.getElem?_eq_getElem hj
  have hz:zs[i]?=some zs[i]:=List.getElem?_eq_getElem hk
  obtain ⟨u,hu,r1⟩:=ru.get hx
  obtain ⟨v,hv,r2⟩:=rv.get hy
  obtain ⟨y,hw,r3⟩:=rw'.get hz
  have ty:s.TypeIs (.ref z) "zip":=⟨_,q1,rfl⟩
  obtain ⟨n1z,nI1,nO1⟩:=D.it i1 (.inl rfl)
  obtain ⟨n2z,nI2,nO2⟩:=D.it i2 (.inr (.inl rfl))
  obtain ⟨n3z,nI3,nO3⟩:=D.it i3 (.inr (.inr rfl))
  unfold pyNext
  refine wpAny_bind (wpAny_attempt (wpAny_callSpecial?_slot (name:=Str.ofString "__next__") ty PySem.F.slot_zip_next (wpAny_call_entry PySem.F.slot_zip_next ty PySem.F.entry_zip_next ?_ (PySem.F.args_zip_next_1 _))))
  refine wj (x:=u) (y:=v) (c:=y) q1 q2 q3 q4 q5 q6 (show s.heap.IsList a us.toArray from pu.isList) (show s.heap.IsList b vs.toArray from pv.isList) (show s.heap.IsList c ws.toArray from pw.isList) (by simpa using hu) (by simpa using hv) (by simpa using hw) D λh' w1 w2 w3 w4 w5 w6 w7=>wpAny_pure ⟨_,rfl,?_⟩
  refine wpAny_letOwnedTupleGo_zip (s:={ s with heap:=h' }) w1 λh2 e2 same=>?_
  replace same:Heap.SameBut z h' h2:=same
  have lz:z < s.heap.objs.size:=Heap.lt_size q1
  have lTI:TI < s.heap.objs.size:=Heap.lt_size q2
  have lTO:TO < s.heap.objs.size:=Heap.lt_size q3
  have l1:i1 < s.heap.objs.size:=by obtain ⟨o,e,_⟩:=q4;exact Heap.lt_size e
  have l2:i2 < s.heap.objs.size:=by obtain ⟨o,e,_⟩:=q5;exact Heap.lt_size e
  have l3:i3 < s.heap.objs.size:=by obtain ⟨o,e,_⟩:=q6;exact Heap.lt_size e
  have low:∀ b ∈ [z,TI,TO,i1,i2,i3],b < s.heap.objs.size:=λb hb=>by
   simp only [List.mem_cons,List.not_mem_nil,or_false] at hb
   rcases hb with rfl | rfl | rfl | rfl | rfl | rfl <;> assumption
  have tup2:h2.get? s.heap.objs.size=some { cls:=.type "tuple",data:=.seq #[u,v,y] }:=(same.2 _ (Nat.ne_of_gt lz)).trans w6
  have I1:Inv X pins σ (upd H s.heap.objs.size (.tup [xs[i],ys[i],zs[i]])) { s with heap:=s.heap.push { cls:=.type "tuple",data:=.seq #[u,v,y] },toks:=s.toks } :=
   I.laid (o:=.tup [xs[i],ys[i],zs[i]]) (λb ob q=>Heap.get?_push_of_some _ q) (Nat.le_refl _) ⟨by rw [sizeLine_eq];simp,[u,v,y],.cons r1 (.cons r2 (.cons r3 .nil)),IsTup.new _ _⟩
  have frees:∀ b,b < s.heap.objs.size->upd H s.heap.objs.size (.tup [xs[i],ys[i],zs[i]]) b=H b:=λb hb=>aJ (Nat.ne_of_lt hb)
  have I2:Inv X pins σ (upd H s.heap.objs.size (.tup [xs[i],ys[i],zs[i]])) { s with heap:=h2,toks:=s.toks }:=by
   refine Inv.turnedL (s:={ s with heap:=s.heap.push { cls:=.type "tuple",data:=.seq #[u,v,y] },toks:=s.toks }) (h':=h2) (its:=[z,TI,TO,i1,i2,i3]) (t':=s.toks) I1 (λb o hb q=>?_) (λb hb=>?_)
   ·simp only [List.mem_cons,List.not_mem_nil,or_false,not_or] at hb
    obtain ⟨n1,n2,n3,n4,n5,n6⟩:=hb
    by_cases hbs:b=s.heap.objs.size
    ·subst hbs
     have q':(s.heap.push { cls:=.type "tuple",data:=.seq #[u,v,y] }).get? s.heap.objs.size=some o:=q
     rw [Heap.get?_push_at rfl rfl] at q'
     cases q'
     exact tup2
    ·have q':s.heap.get? b=some o:=(Heap.get?_push_ne _ _ _ hbs).symm.trans q
     exact (same.2 b n1).trans (w7 b o n1 n3 n4 n5 n6 q')
   ·obtain ⟨f0,f1,f2,f3,f4,f5⟩:=hf b hb
    exact ⟨by rw [frees b (low b hb)];exact f0,f1,f3,f4,f5⟩
  refine ⟨.ref s.heap.objs.size,_,I2,rfl,⟨_,_,_,_,I.hok.fresh (Nat.le_refl _),rfl,hx,hy,hz,rfl⟩,⟨u,v,y,e2,?_,?_,?_,?_,?_⟩,λb hb=>?_⟩
  ·exact (same.2 TI D.TIz).trans (w7 TI _ D.TIz D.TITO nI1 nI2 nI3 q2)
  ·exact (same.2 TO D.TOz).trans w2
  ·exact w3.at λo e=>(same.2 i1 n1z).trans e
  ·exact w4.at λo e=>(same.2 i2 n2z).trans e
  ·exact w5.at λo e=>(same.2 i3 n3z).trans e
  ·rw [frees b (low b hb)];exact (hf b hb).1
 done:=by
  intro X hP hw hK hc i pins s σ H E I hf st hg
  subst hP hw hK
  obtain ⟨d,e,f,q1,q2,q3,q4,q5,q6⟩:=st
  obtain ⟨hi,ha⟩:=hg
  obtain ⟨us,ru,pu,_⟩:=I.list ha
  have lr:=ru.length
  have ty:s.TypeIs (.ref z) "zip":=⟨_,q1,rfl⟩
  unfold pyNext
  refine wpAny_bind (wpAny_attempt (wpAny_callSpecial?_slot (name:=Str.ofString "__next__") ty PySem.F.slot_zip_next (wpAny_call_entry PySem.F.slot_zip_next ty PySem.F.entry_zip_next ?_ (PySem.F.args_zip_next_1 _))))
  refine wg (I.ok.hd hc) q1 q2 q3 q4 (show s.heap.IsList a us.toArray from pu.isList) (by simp;omega) D λh' e kk ⟨o,ho,hco⟩=>?_
  refine wpAny_bind (wpAny_isInstance (T:="StopIteration") (b:=true) ⟨o,ho,hco⟩ isSubtype_stop (wpAny_pure ⟨rfl,?_⟩))
  refine Inv.turnedL (s:=s) (h':=h') (its:=[z,i1]) (t':=s.toks) I (λb o hb q=>kk b o (λy=>hb (by simp [y])) (λy=>hb (by simp [y])) q) (λb hb=>?_)
  obtain ⟨f0,f1,f2,f3,f4,f5⟩:=hf b (by
   simp only [List.mem_cons,List.not_mem_nil,or_false] at hb
   rcases hb with rfl | rfl <;> simp)
  exact ⟨f0,f1,f3,f4,f5⟩
 self:=λA i s Q E ⟨_,_,_,q1,_⟩ q=>wpAny_pyIter_zip q1 q
def CI (K:PySem.W.Frag) (ta:TA):TI:=λσ H R=>ta σ H λvs H1=>∃ a b c xs ys zs,vs=[.ref a,.ref b,.ref c]/\SqL K H1 a xs/\SqL K H1 b ys/\SqL K H1 c zs/\R (It3 K a b c xs ys zs) H1
theorem Ab {b c:Expr} {c1} (hg:Gl X "zip") (hm:X.mg "zip"=none) (ha:PA X [a,b,c] ta) (hs:starEach [a,b,c] X.env=(false,eval a X.env)::starEach [b,c] X.env:=by rfl) (hpl:(backTo pos (starEach [b,c] X.env)).any (·.1)=false:=by rfl) :
  PI X (.Tuple elts c1 ps) (.Call (.Name "zip" p) [a,b,c] [] pos) (CI X.K ta):=by
 intro pins s σ H R I h
 refine Call_ (iX I hg hm wU (PyProof.Rows.callWith_type1 (thn (ha pos pins s σ H _ I h) λus s1 ⟨vs,H1,I1,r1,q1⟩=>?_) hs hpl))
 obtain ⟨t1,t2,t3,xs,ys,zs,ev,hq1,hq2,hq3,q⟩:=q1
 subst ev
 cases r1 with
 | cons e1 rt =>
 cases rt with
 | cons e2 rt =>
  obtain ⟨u3,rfl,e3⟩:=fX rt
  cases e1
  cases e2
  cases e3
  obtain ⟨us,ru,pu,_⟩:=I1.list hq1
  obtain ⟨vs,rv,pv,_⟩:=I1.list hq2
  obtain ⟨ws,rw',pw,_⟩:=I1.list hq3
  have lt1:t1 < s1.heap.objs.size:=by obtain ⟨o,e,_⟩:=pu.isList;exact Heap.lt_size e
  have lt2:t2 < s1.heap.objs.size:=by obtain ⟨o,e,_⟩:=pv.isList;exact Heap.lt_size e
  have lt3:t3 < s1.heap.objs.size:=by obtain ⟨o,e,_⟩:=pw.isList;exact Heap.lt_size e
  refine uX pu.isList pv.isList pw.isList λh' z1 z2 z3 z4 z5 z6 kk=>?_
  refine wpAny_pyIter_zip (s:={ s1 with heap:=h' }) z1 ?_
  generalize hn:s1.heap.objs.size=n at *
  have lo:∀ {l:Nat},l < n->l≠n+5/\l≠n+4/\l≠n/\l≠n+1/\l≠n+2:=λh=>⟨by omega,by omega,by omega,by omega,by omega⟩
  have ap:Z3 (n+5) (n+3) (n+4) n (n+1) (n+2) t1 t2 t3 :=
   ⟨Nat.ne_of_lt (by omega),Nat.ne_of_lt (by omega),Nat.ne_of_lt (by omega),Nat.ne_of_lt (by omega),Nat.ne_of_lt (by omega),Nat.ne_of_lt (by omega),λi h=>by rcases h with rfl | rfl | rfl <;> exact ⟨Nat.ne_of_lt (by omega),Nat.ne_of_gt (by omega),Nat.ne_of_gt (by omega)⟩,λl h=>by rcases h with rfl | rfl | rfl;exact lo lt1;exact lo lt2;exact lo lt3⟩
  refine ⟨n+5,[n+5,n+3,n+4,n,n+1,n+2],_,_,H1,rfl,I1.kept (t':=s1.toks) kk,wd t1 t2 t3 _ _ _ _ _ _ xs ys zs ap,⟨.none,.none,.none,z1,z2,z3,z4,z5,z6⟩,λb hb=>?_,q⟩
  have lb:s1.heap.objs.size≤b:=by
   simp only [List.mem_cons,List.not_mem_nil,or_false] at hb
   rw [hn]
   rcases hb with rfl | rfl | rfl | rfl | rfl | rfl
   ·exact Nat.le_add_right _ _
   ·exact Nat.le_add_right _ _
   ·exact Nat.le_add_right _ _
   ·exact Nat.le_refl _
   ·exact Nat.le_add_right _ _
   ·exact Nat.le_add_right _ _
  exact I1.fpOk lb (I1.hok.fresh lb)
end L2
namespace L2
open PySem PySem.Spec PyProof.Rows
section
variable {X:Cx}
def CT (K:PySem.W.Frag):List V->Hp->VK->Prop:=λxs H Q=>∃ (l:Addr) (ns:List Int),xs=[.ref l]/\SqL K H l (ns.map V.int)/\0 < ns.length/\∀ M,M ∈ ns->(∀ a ∈ ns,a≤M)->Q (.int M) H
theorem nQ (hc:X.calm=true):gF X (.builtin "max") (CT X.K):=by
 intro pins s σ H xs us Q I r h
 obtain ⟨l,ns,rfl,hq,hn,q⟩:=h
 obtain ⟨u,rfl,ru⟩:=fX r
 cases ru
 obtain ⟨its,rv,p,hz⟩:=I.list hq
 have hi:=pj rv
 obtain ⟨zs,hzs⟩:=hi.allInts.items
 have en:zs.toList.map (·.1)=ns:=by
  have z:=hi.numsOf
  rw [show its=(intItems zs).toList by rw [← hzs]] at z
  rw [← z,nums_intItems]
 have sz:zs.size=ns.length:=by rw [← en];simp
 refine max_intList (I.ok.hd hc) (show s.heap.IsList l (intItems zs) from hzs ▸ p.isList) (by omega) λv h' tk hv hk=>?_
 obtain ⟨t,rfl⟩:=intItems_at hv
 have best:=argBest_gt (numAt zs) (zs.size - 1)
 refine ⟨.int _,H,I.kept (t':=tk) hk,⟨t,rfl⟩,q _ ?_ λa ha=>?_⟩
 ·rw [← en,numAt_eq]
  exact getD_mem (by rw [List.length_map,Array.length_toList];have:=best.1;omega)
 ·rw [← en] at ha
  obtain ⟨j,hj,ej⟩:=mem_getD ha
  rw [List.length_map,Array.length_toList] at hj
  have le:=best.2 j (by omega)
  rw [← ej,← numAt_eq]
  exact le
def yo (K:PySem.W.Frag) (neg:Bool):R2:=λx y H Q=>∃ l xs ds d,y=.ref l/\SqL K H l xs/\Dats K H ds xs/\Dat K H d x/\noLs ds=true/\noL d=true/\deepDs ds≤20/\Q (.bl (if neg then !(ds.any λe=>eqD e d) else ds.any λe=>eqD e d)) H
theorem qY {k:Nat} (hr:Room k X.A) {pins:List (Addr × Obj)} {σ:St} {H:Hp} {s:Shared} {x:V} {u:Value} {l:Addr} {xs:List V} {ds:List D} {d:D} (I:Inv X pins σ H s) (ru:RelV x u) (hq:SqL X.K H l xs) (hds:Dats X.K H ds xs) (hd:Dat X.K H d x) (n1:noLs ds=true) (n2:noL d=true) (dp:deepDs ds≤20) :
  ∃ (its:List Value) (eq:Value->Bool),s.heap.IsList l its.toArray/\(∀ w ∈ its.toArray,SeqAt.EqAt X.A.in1 s w u (eq w))/\its.toArray.any eq=ds.any λe=>eqD e d:=by
 obtain ⟨its,r,pl,hz⟩:=I.list hq
 have hl:=r.length
 have ll:=hds.length
 have item:∀ (m:Nat) (w:Value),its[m]?=some w->∃ g,ds[m]?=some g/\∃ xv,RelV xv w/\Dat X.K H g xv:=λm w hw=>by
  have hm:m < its.length:=(List.getElem?_eq_some_iff.mp hw).1
  obtain ⟨g,hg,dg⟩:=hds.getV (i:=m) (v:=xs[m]'(by omega)) (List.getElem?_eq_getElem (by omega))
  obtain ⟨w',hw',rr⟩:=r.get (i:=m) (x:=xs[m]'(by omega)) (List.getElem?_eq_getElem (by omega))
  rw [hw] at hw'
  cases hw'
  exact ⟨g,hg,_,rr,dg⟩
 have relInj:∀ {x1 x2:V} {w:Value},RelV x1 w->RelV x2 w->x1=x2:=λ{x1 x2 w} h1 h2=>RelV.inj h1 h2
 classical
 let eq:Value->Bool:=λw=>if hw:∃ m:Nat,its[m]?=some w then (match ds[Classical.choose hw]? with | some g=>eqD g d | none=>false) else false
 have eqAt:∀ (m:Nat) (w:Value) (g:D),its[m]?=some w->ds[m]?=some g->eq w=eqD g d:=λm w g hw hg=>by
  have hw':∃ m:Nat,its[m]?=some w:=⟨m,hw⟩
  show (if hw:∃ m:Nat,its[m]?=some w then _ else false)=_
  rw [dif_pos hw']
  have hc:=Classical.choose_spec hw'
  obtain ⟨g',hg',xv',r1,d1⟩:=item _ w hc
  obtain ⟨g2,hg2,xv,r2,d2⟩:=item m w hw
  rw [hg] at hg2
  cases hg2
  rw [hg']
  have ex:=relInj r1 r2
  subst ex
  have:=lD I g' g (e9 n1 hg') d1 d2 (e9 n1 hg)
  rw [this]
 have hu:X.A.in1.units+20+1 < cLine:=by
  have:=hr.un
  show X.A.units+1+20+1 < cLine
  omega
 refine ⟨its,eq,pl.isList,λw hw=>?_,?_⟩
 ·obtain ⟨m,hm,rfl⟩:=Array.getElem_of_mem hw
  have hm':m < its.length:=by simpa using hm
  have hw2:its[m]?=some (its[m]'hm'):=List.getElem?_eq_getElem hm'
  obtain ⟨g,hg,xv,r1,d1⟩:=item m _ hw2
  have z1:its.toArray[m]=its[m]'hm':=by simp
  rw [z1,eqAt m _ g hw2 hg]
  exact o6 I 20 X.A.in1 g d xv x _ u hu (Nat.le_trans (iy hg) dp) (e9 n1 hg) n2 d1 hd r1 ru
 ·rw [show its.toArray.any eq=its.any eq by simp]
  have em:its.map eq=ds.map λe=>eqD e d:=by
   apply List.ext_getElem?
   intro m
   rw [List.getElem?_map,List.getElem?_map]
   cases hw:its[m]? with
   | none =>
    have:its.length≤m:=List.getElem?_eq_none_iff.mp hw
    rw [List.getElem?_eq_none (by omega)]
    rfl
   | some w =>
    obtain ⟨g,hg,_⟩:=item m w hw
    rw [hg]
    show some (eq w)=some (eqD g d)
    rw [eqAt m w g hw hg]
  have e1:∀ {α:Type} (f:α->Bool) (l:List α),l.any f=(l.map f).any id:=λf l=>by rw [List.any_map];rfl
  rw [e1 eq its,em,← e1]
theorem ya {k:Nat} (hr:Room k X.A):OpR X (compareOp .In) (yo X.K false):=by
 intro pins s σ H x y v u Q I rx ry h
 obtain ⟨l,xs,ds,d,rfl,hq,hds,hd,n1,n2,dp,q⟩:=h
 cases ry
 obtain ⟨its,eq,pl,ea,ee⟩:=qY hr I rx hq hds hd n1 n2 dp
 exact SeqAt.in_listAt eq pl ea ⟨.bl _,H,I,rfl,by rw [ee];exact q⟩
theorem vG {k:Nat} (hr:Room k X.A):OpR X (compareOp .NotIn) (yo X.K true):=by
 intro pins s σ H x y v u Q I rx ry h
 obtain ⟨l,xs,ds,d,rfl,hq,hds,hd,n1,n2,dp,q⟩:=h
 cases ry
 obtain ⟨its,eq,pl,ea,ee⟩:=qY hr I rx hq hds hd n1 n2 dp
 exact SeqAt.notIn_listAt eq pl ea ⟨.bl _,H,I,rfl,by rw [ee];exact q⟩
end
section
variable {K:PySem.W.Frag} {σ:St} {H:Hp} {t ta tb:TE} {d:D} {ds:List D}
theorem p9 {ns:List Int} {m:Int} (h:RL K t σ H (ns.map D.int)) (hm:m ∈ ns) (lo:∀ a ∈ ns,a≤m):RE K (tCB (CT K) (bP t d8)) σ H (.int m):=λH1 s Q q =>
 gL ((h.mono s).use λv H' s' hd=>by
  obtain ⟨l,ys,rfl,hy,hd⟩:=hd
  refine ⟨l,ns,rfl,by rw [← xh hd];exact hy.sqL,List.length_pos_of_mem hm,λM h1 h2=>?_⟩
  have e:M=m:=Int.le_antisymm (lo M h1) (h2 m hm)
  subst e
  exact q _ _ s' (Dat.intI _))
theorem p6 {neg:Bool} (h1:RE K ta σ H d) (h2:RL K tb σ H ds) (n1:noLs ds=true) (n2:noL d=true) (dp:deepDs ds≤20):RE K (tOp (yo K neg) ta tb) σ H (.bl (if neg then !(ds.any λe=>eqD e d) else ds.any λe=>eqD e d)):=λH1 s Q q =>
 h1 H1 s _ λv H2 s2 q2=>h2 H2 (s.trans s2) _ λw H3 s3 q3=>by
  obtain ⟨a,xs,rfl,ha,da⟩:=q3
  exact ⟨a,xs,ds,d,rfl,ha.sqL,da,s3.dat q2,n1,n2,dp,q _ _ (s2.trans s3) (Dat.blI _)⟩
end
theorem xw {K:PySem.W.Frag} {a b c:Addr} {xs ys zs:List V} {g:TG} {tb:TS} {D:iQ} {σ:St} {H:Hp} (Pv:Nat->St->Hp->Prop) (ll:xs.length=ys.length) (ll2:xs.length=zs.length) (h0:Pv 0 σ H) (hl:∀ i σ H,i≤xs.length->Pv i σ H->SqL K H a xs/\SqL K H b ys/\SqL K H c zs)
  (hs:∀ i u v y p σ H,xs[i]?=some u->ys[i]?=some v->zs[i]?=some y->H p=none->Pv i σ H->g (.ref p) σ (upd H p (.tup [u,v,y])) λσ2 H2=>tb { D with nx:=Pv (i+1),ct:=Pv (i+1),bk:=D.nx } σ2 H2) (hd:∀ σ H,Pv xs.length σ H->D.nx σ H) :
  ∃ W:Nat->Nat->St->Hp->Prop,(∃ m,W 0 m σ H)/\∀ i m σ H,W i m σ H ->
   ((It3 K a b c xs ys zs).stop i H/\D.nx σ H)\/((It3 K a b c xs ys zs).go i H/\∃ N:St->Hp->Prop,(∀ σ' H',N σ' H'->∃ m',m' < m/\W (i+1) m' σ' H')/\∀ x H',(It3 K a b c xs ys zs).yld i H x H'->g x σ H' λσ2 H2=>tb { D with nx:=N,ct:=N,bk:=D.nx } σ2 H2):=by
 refine ⟨λi m σ H=>m=xs.length - i/\i≤xs.length/\Pv i σ H,⟨xs.length,by simp,Nat.zero_le _,h0⟩,?_⟩
 rintro i m σ H ⟨rfl,hi,p⟩
 have q:=hl i σ H hi p
 by_cases hlt:i < xs.length
 ·refine .inr ⟨⟨hlt,by omega,by omega,q.1,q.2.1,q.2.2⟩,Pv (i+1),λσ' H' p'=>⟨xs.length - (i+1),by omega,rfl,hlt,p'⟩,λx H' yy=>?_⟩
  obtain ⟨r,u,v,y,hr,rfl,hu,hv,hy,rfl⟩:=yy
  exact hs i u v y r σ H hu hv hy hr p
 ·have e:i=xs.length:=by omega
  subst e
  exact .inl ⟨⟨rfl,q.1⟩,hd σ H p⟩
end L2
namespace My
open PySem L2 PyProof.Rows
abbrev TL:List (Str × KTD.Dat):=[("num",.flat (.int 9999)),("arg",.flat (.int 3))]
abbrev TB:List (Str × KTD.Dat):=[("add",.flat (.int 2)),("sub",.flat (.int 2)),("mul",.flat (.int 2)),("less",.flat (.int 2)),("pick",.flat (.int 3))]
abbrev TM:List (Str × KTD.Dat):=[("hole",.flat (.int 2)),("gap",.flat (.int 3)),("slot",.flat (.int 2))]
abbrev TF:List (Str × KTD.Dat):=[("low",.flat (.str "gap")),("high",.flat (.str "gap")),("arg",.flat (.str "slot"))]
abbrev BAS:List D:=[.tup [.str "one",.tup [.str "gap",.int 0,.int 99],.tup [.int 1,.tup [.str "low",.int 0]]],.tup [.str "two",.tup [.str "gap",.int 0,.int 9999],.tup [.int 2,.tup [.str "low",.int 0],.tup [.str "high",.int 0]]],.tup [.str "slot",.tup [.str "slot",.int 0],.tup [.int 3,.tup [.str "arg",.int 0]]],.tup [.str "add",.tup [.str "add",.tup [.str "hole",.int 0],.tup [.str "hole",.int 1]],.tup [.int 4]],.tup [.str "sub",.tup [.str "sub",.tup [.str "hole",.int 0],.tup [.str "hole",.int 1]],.tup [.int 5]],.tup [.str "mul",.tup [.str "mul",.tup [.str "hole",.int 0],.tup [.str "hole",.int 1]],.tup [.int 6]],.tup [.str "less",.tup [.str "less",.tup [.str "hole",.int 0],.tup [.str "hole",.int 1]],.tup [.int 7]],.tup [.str "more",.tup [.str "add",.tup [.str "hole",.int 0],.tup [.str "gap",.int 0,.int 99]],.tup [.int 12,.tup [.str "low",.int 0]]]]
abbrev BEH:List D:=[.int 8,.int 9]
abbrev AHE:List D:=[.int 10,.int 11]
abbrev STR:List D:=[.str "put",.str "far",.str "load",.str "add",.str "sub",.str "mul",.str "less",.str "more",.str "twice",.str "about"]
abbrev INS:List D:=[.tup [.str "end",.int 0],.tup [.str "put",.int 1],.tup [.str "far",.int 2],.tup [.str "load",.int 1],.tup [.str "add",.int 0],.tup [.str "sub",.int 0],.tup [.str "mul",.int 0],.tup [.str "less",.int 0],.tup [.str "skip",.int 1],.tup [.str "jump",.int 2],.tup [.str "zero",.int 1],.tup [.str "none",.int 2],.tup [.str "more",.int 1],.tup [.str "twice",.int 0],.tup [.str "about",.int 0],.tup [.str "call",.int 2],.tup [.str "back",.int 0]]
abbrev iI:Stmt:=top 9
theorem sc_is_whole:FnScope ["thing","low","high"] ["thing","low","high"] (ay iI):=.sc0
abbrev gR:Stmt:=top 10
theorem sc_is_tagged:FnScope ["thing"] ["thing"] (ay gR):=.sc0
abbrev jk:Stmt:=top 17
theorem sc_is_node:FnScope ["thing","kind"] ["thing"] (ay jk):=.sc0
abbrev fq:Stmt:=top 18
theorem sc_trees_within:FnScope ["tree"] ["tree"] (ay fq):=.sc0
abbrev ir:Stmt:=top 19
theorem sc_is_tree:FnScope ["thing","waiting","parts","part","deep"] ["thing"] (ay ir):=.sc0
abbrev gU:Stmt:=top 20
theorem sc_need_tree:FnScope ["tree"] ["tree"] (ay gU):=.sc0
abbrev j5:Stmt:=top 21
theorem sc_walked:FnScope ["tree","parts","within"] ["tree"] (ay j5):=.sc0
abbrev ip:Stmt:=top 11
theorem sc_is_name:FnScope ["thing"] ["thing"] (ay ip):=.sc0
abbrev dN:Stmt:=top 25
theorem sc_instruction_at:FnScope ["cells","place","name","many","behind"] ["cells","place"] (ay dN):=.sc0
abbrev ji:Stmt:=top 35
theorem sc_is_mark:FnScope ["thing"] ["thing"] (ay ji):=.sc0
abbrev cI:Stmt:=top 36
theorem sc_is_pattern_part:FnScope ["thing","deep"] ["thing","deep"] (ay cI):=.sc0
abbrev iJ:Stmt:=top 37
theorem sc_marks_in:FnScope ["pattern","kind","marks","within"] ["pattern","kind"] (ay iJ):=.sc0
abbrev eE:Stmt:=top 38
theorem sc_is_numbered:FnScope ["pattern","kind","numbers"] ["pattern","kind"] (ay eE):=.sc0
abbrev fm:Stmt:=top 39
theorem sc_is_pattern:FnScope ["thing"] ["thing"] (ay fm):=.sc0
abbrev gh:Stmt:=top 40
theorem sc_is_filling:FnScope ["thing","pattern"] ["thing","pattern"] (ay gh):=.sc0
abbrev jh:Stmt:=top 41
theorem sc_is_cell:FnScope ["thing","pattern"] ["thing","pattern"] (ay jh):=.sc0
abbrev cD:Stmt:=top 42
theorem sc_are_instructions:FnScope ["cells","pattern","place","name","behind"] ["cells","pattern"] (ay cD):=.sc0
abbrev iH:Stmt:=top 43
theorem sc_is_piece:FnScope ["thing","name","pattern","cells"] ["thing"] (ay iH):=.sc0
abbrev iq:Stmt:=top 44
theorem sc_is_set:FnScope ["thing"] ["thing"] (ay iq):=.sc0
abbrev iK:Stmt:=top 45
theorem sc_need_set:FnScope ["some"] ["some"] (ay iK):=.sc0
abbrev eH:Stmt:=top 46
theorem sc_may_stand_for:FnScope ["mark","tree"] ["mark","tree"] (ay eH):=.sc0
abbrev jl:Stmt:=top 47
theorem sc_matches:FnScope ["pattern","tree","found","kind"] ["pattern","tree","found"] (ay jl):=.sc0
abbrev iG:Stmt:=top 48
theorem sc_found_in:FnScope ["piece","tree","found"] ["piece","tree"] (ay iG):=.sc0
abbrev fF:Stmt:=top 49
theorem sc_filled_cell:FnScope ["cell","nums","ks"] ["cell","nums","ks"] (ay fF):=.sc0
abbrev gS:Stmt:=top 55
theorem sc_jump_over:FnScope ["many","kinds","near","far"] ["many","kinds"] (ay gS):=.sc0
abbrev eG:Stmt:=top 56
theorem sc_jumps_of_pick:FnScope ["second","third","behind","ahead"] ["second","third"] (ay eG):=.sc0
abbrev jm:Stmt:=top 57
theorem sc_ways_of:FnScope ["tree","some","ways","piece","found"] ["tree","some"] (ay jm):=.sc0
abbrev gT:Stmt:=top 58
theorem sc_length_by:FnScope ["name","cells","lengths","own","ahead","behind"] ["name","cells","lengths"] (ay gT):=.sc0
abbrev bY:Stmt:=top 59
theorem sc_best_by_ways:FnScope ["tree","some","done","bests","best","name","cells","trees","within","length"] ["tree","some","done","bests"] (ay bY):=.sc0
abbrev eF:Stmt:=top 60
theorem sc_best_covering:FnScope ["tree","some","done","bests","part"] ["tree","some"] (ay eF):=.sc0
abbrev fM:Stmt:=top 64
theorem sc_laid_pick:FnScope ["tree","some","cover","places","first","second","third","ahead","behind"] ["tree","some","cover","places"] (ay fM):=.sc0
abbrev dO:Stmt:=top 65
theorem sc_laid_piece:FnScope ["tree","some","cover","places","name","within","piece","holes","nums","ks","cells","hole","inner"] ["tree","some","cover","places"] (ay dO):=.sc0
abbrev gi:Stmt:=top 66
theorem sc_laid_cells:FnScope ["tree","some","cover","places","place"] ["tree","some","cover","places"] (ay gi):=.sc0
abbrev jg:Stmt:=top 67
theorem sc_code_of:FnScope ["tree","some","length","cover"] ["tree","some"] (ay jg):=.sc0
abbrev eT:Stmt:=top 71
theorem sc_are_parts:FnScope ["thing","tree","there"] ["thing","tree"] (ay eT):=.sc0
abbrev gj:Stmt:=top 72
theorem sc_need_parts:FnScope ["parts","tree"] ["parts","tree"] (ay gj):=.sc0
abbrev gk:Stmt:=top 73
theorem sc_with_calls:FnScope ["tree","parts"] ["tree","parts"] (ay gk):=.sc0
abbrev cu:Stmt:=top 74
theorem sc_with_calls_within:FnScope ["tree","parts","within"] ["tree","parts"] (ay cu):=.sc0
abbrev eU:Stmt:=top 75
theorem sc_code_once:FnScope ["tree","some","parts","roots","closings","bests","places","place","length","cover","code","root","closing"] ["tree","some","parts"] (ay eU):=.sc0
abbrev qj:Stmt:=top 76
theorem sc_gain:FnScope ["tree","some","part"] ["tree","some","part"] (ay qj):=.sc0
abbrev gQ:Stmt:=top 77
theorem sc_best_part:FnScope ["tree","some","plain","best","most","part","gained"] ["tree","some"] (ay gQ):=.sc0
abbrev gO:Stmt:=top 79
theorem sc__law_draw:FnScope ["_law_script","_law_town","_law_many","_law_one","_law_at","_law_mixed"] ["_law_script","_law_town","_law_many"] (ay gO):=.sc0
abbrev gP:Stmt:=top 80
theorem sc__law_pick:FnScope ["_law_script","_law_town","_law_some"] ["_law_script","_law_town","_law_some"] (ay gP):=.sc0
abbrev fL:Stmt:=top 81
theorem sc__law_tree:FnScope ["_law_script","_law_town","_law_room","_law_leaf","_law_name","_law_many"] ["_law_script","_law_town","_law_room"] (ay fL):=.sc0
abbrev gg:Stmt:=top 84
theorem sc__law_parts:FnScope ["_law_tree_here","_law_made","_law_one"] ["_law_tree_here"] (ay gg):=.sc0
abbrev fE:Stmt:=top 85
theorem sc__law_pieces:FnScope ["_law_hole","_law_other","_law_gap","_law_made"] [] (ay fE):=.sc0
abbrev gB:Stmt:=top 86
theorem sc__law_set:FnScope ["_law_script","_law_town","_law_more"] ["_law_script","_law_town"] (ay gB):=.sc0
abbrev fk:Stmt:=top 87
theorem sc__law_heavy:FnScope ["_law_script","_law_town","_law_four"] ["_law_script","_law_town"] (ay fk):=.sc0
abbrev fj:Stmt:=top 88
theorem sc__law_doubled:FnScope ["_law_script","_law_town","_law_part","_law_other","_law_forms","_law_heavy_here","_law_more"] ["_law_script","_law_town"] (ay fj):=.sc0
abbrev r6:Stmt:=top 89
theorem sc_law:FnScope ["_law_script","_law_town","_law_tree_here","_law_some","_law_parts_here","_law_gains","_law_best"] ["_law_script"] (ay r6):=.sc0
set_option genInjectivity false in
set_option genSizeOfSpec false in
structure Txt (P:Program) (w:World) (K:PySem.W.Frag) (mg:Str->Option Value) where
 Es:Addr
 Ew:FuncData
 Ez:Fun K "is_whole" "is_whole" iI Es Ew
 Fk:mg "is_whole"=some (.ref Es)
 EO:Addr
 EW:FuncData
 Fs:Fun K "is_tagged" "is_tagged" gR EO EW
 He:mg "is_tagged"=some (.ref EO)
 GC:Addr
 GF:FuncData
 Hq:Fun K "is_node" "is_node" jk GC GF
 IG:mg "is_node"=some (.ref GC)
 DM:Addr
 DO:FuncData
 DT:Fun K "trees_within" "trees_within" fq DM DO
 Ek:mg "trees_within"=some (.ref DM)
 GD:Addr
 GG:FuncData
 Hr:Fun K "is_tree" "is_tree" ir GD GG
 IH:mg "is_tree"=some (.ref GD)
 Fo:Addr
 Fq:FuncData
 Gk:Fun K "need_tree" "need_tree" gU Fo Fq
 HP:mg "need_tree"=some (.ref Fo)
 FC:Addr
 FJ:FuncData
 GU:Fun K "walked" "walked" j5 FC FJ
 HQ:mg "walked"=some (.ref FC)
 Hi:Addr
 Hm:FuncData
 HW:Fun K "is_name" "is_name" ip Hi Hm
 Jn:mg "is_name"=some (.ref Hi)
 Eg:Addr
 Ei:FuncData
 E3:Fun K "instruction_at" "instruction_at" dN Eg Ei
 Ht:mg "instruction_at"=some (.ref Eg)
 Hh:Addr
 Hl:FuncData
 HV:Fun K "is_mark" "is_mark" ji Hh Hl
 Jm:mg "is_mark"=some (.ref Hh)
 DL:Addr
 DN:FuncData
 Ec:Fun K "is_pattern_part" "is_pattern_part" cI DL DN
 FQ:mg "is_pattern_part"=some (.ref DL)
 ER:Addr
 EX:FuncData
 F0:Fun K "marks_in" "marks_in" iJ ER EX
 HB:mg "marks_in"=some (.ref ER)
 Fc:Addr
 Ff:FuncData
 F6:Fun K "is_numbered" "is_numbered" eE Fc Ff
 Ie:mg "is_numbered"=some (.ref Fc)
 Fz:Addr
 FG:FuncData
 Gy:Fun K "is_pattern" "is_pattern" fm Fz FG
 Iv:mg "is_pattern"=some (.ref Fz)
 Fy:Addr
 FF:FuncData
 Gx:Fun K "is_filling" "is_filling" gh Fy FF
 Iu:mg "is_filling"=some (.ref Fy)
 Hg:Addr
 Hk:FuncData
 HU:Fun K "is_cell" "is_cell" jh Hg Hk
 Jl:mg "is_cell"=some (.ref Hg)
 D2:Addr
 D3:FuncData
 Ey:Fun K "are_instructions" "are_instructions" cD D2 D3
 GV:mg "are_instructions"=some (.ref D2)
 GL:Addr
 GQ:FuncData
 Hy:Fun K "is_piece" "is_piece" iH GL GQ
 Jd:mg "is_piece"=some (.ref GL)
 HH:Addr
 HI:FuncData
 Ir:Fun K "is_set" "is_set" iq HH HI
 JH:mg "is_set"=some (.ref HH)
 FW:Addr
 FZ:FuncData
 GT:Fun K "need_set" "need_set" iK FW FZ
 Il:mg "need_set"=some (.ref FW)
 EB:Addr
 EC:FuncData
 Fi:Fun K "may_stand_for" "may_stand_for" eH EB EC
 HE:mg "may_stand_for"=some (.ref EB)
 FV:Addr
 FY:FuncData
 GH:Fun K "matches" "matches" jl FV FY
 Ia:mg "matches"=some (.ref FV)
 FU:Addr
 FX:FuncData
 GS:Fun K "found_in" "found_in" iG FU FX
 Ik:mg "found_in"=some (.ref FU)
 Fb:Addr
 Fe:FuncData
 F5:Fun K "filled_cell" "filled_cell" fF Fb Fe
 Ic:mg "filled_cell"=some (.ref Fb)
 Ga:Addr
 Gf:FuncData
 Gj:Fun K "jump_over" "jump_over" gS Ga Gf
 HN:mg "jump_over"=some (.ref Ga)
 D9:Addr
 Eb:FuncData
 EE:Fun K "jumps_of_pick" "jumps_of_pick" eG D9 Eb
 Gw:mg "jumps_of_pick"=some (.ref D9)
 Hj:Addr
 Hn:FuncData
 HX:Fun K "ways_of" "ways_of" jm Hj Hn
 Jo:mg "ways_of"=some (.ref Hj)
 Gc:Addr
 Gh:FuncData
 Hd:Fun K "length_by" "length_by" gT Gc Gh
 IM:mg "length_by"=some (.ref Gc)
 EN:Addr
 EV:FuncData
 FO:Fun K "best_by_ways" "best_by_ways" bY EN EV
 HL:mg "best_by_ways"=some (.ref EN)
 D8:Addr
 Ea:FuncData
 ED:Fun K "best_covering" "best_covering" eF D8 Ea
 Gv:mg "best_covering"=some (.ref D8)
 Gb:Addr
 Gg:FuncData
 Hc:Fun K "laid_pick" "laid_pick" fM Gb Gg
 IL:mg "laid_pick"=some (.ref Gb)
 FA:Addr
 FH:FuncData
 Gz:Fun K "laid_piece" "laid_piece" dO FA FH
 Iw:mg "laid_piece"=some (.ref FA)
 DZ:Addr
 D0:FuncData
 EA:Fun K "laid_cells" "laid_cells" gi DZ D0
 FR:mg "laid_cells"=some (.ref DZ)
 GB:Addr
 GE:FuncData
 Ho:Fun K "code_of" "code_of" jg GB GE
 IF:mg "code_of"=some (.ref GB)
 F8:Addr
 Gd:FuncData
 Ha:Fun K "are_parts" "are_parts" eT F8 Gd
 IJ:mg "are_parts"=some (.ref F8)
 FB:Addr
 FI:FuncData
 GA:Fun K "need_parts" "need_parts" gj FB FI
 Iy:mg "need_parts"=some (.ref FB)
 Et:Addr
 Ex:FuncData
 FP:Fun K "with_calls" "with_calls" gk Et Ex
 HC:mg "with_calls"=some (.ref Et)
 DP:Addr
 DQ:FuncData
 DX:Fun K "with_calls_within" "with_calls_within" cu DP DQ
 E7:mg "with_calls_within"=some (.ref DP)
 Fn:Addr
 Fp:FuncData
 Gi:Fun K "code_once" "code_once" eU Fn Fp
 HM:mg "code_once"=some (.ref Fn)
 IX:Addr
 Ja:FuncData
 Jv:Fun K "gain" "gain" qj IX Ja
 JW:mg "gain"=some (.ref IX)
 F9:Addr
 Ge:FuncData
 Hb:Fun K "best_part" "best_part" gQ F9 Ge
 IK:mg "best_part"=some (.ref F9)
 EL:Addr
 ET:FuncData
 Eo:Fun K "_law_draw" "_law_draw" gO EL ET
 Fv:mg "_law_draw"=some (.ref EL)
 EM:Addr
 EU:FuncData
 EY:Fun K "_law_pick" "_law_pick" gP EM EU
 Gm:mg "_law_pick"=some (.ref EM)
 El:Addr
 Em:FuncData
 EZ:Fun K "_law_tree" "_law_tree" fL El Em
 Gn:mg "_law_tree"=some (.ref El)
 Er:Addr
 Eu:FuncData
 FN:Fun K "_law_parts" "_law_parts" gg Er Eu
 HA:mg "_law_parts"=some (.ref Er)
 E9:Addr
 Fd:FuncData
 F4:Fun K "_law_pieces" "_law_pieces" fE E9 Fd
 Ib:mg "_law_pieces"=some (.ref E9)
 GK:Addr
 GP:FuncData
 Hx:Fun K "_law_set" "_law_set" gB GK GP
 Jc:mg "_law_set"=some (.ref GK)
 Fx:Addr
 FE:FuncData
 FL:Fun K "_law_heavy" "_law_heavy" fk Fx FE
 Hz:mg "_law_heavy"=some (.ref Fx)
 EK:Addr
 ES:FuncData
 FK:Fun K "_law_doubled" "_law_doubled" fj EK ES
 HK:mg "_law_doubled"=some (.ref EK)
 JF:Addr
 JP:FuncData
 Ka:Fun K "law" "law" r6 JF JP
 Kf:mg "law"=some (.ref JF)
 FT:Tok
 E5:mg "MOST_PARTS"=some (.int 40 FT)
 Gq:Tok
 Ft:mg "MOST_DEEP"=some (.int 8 Gq)
 E2:Tok
 Ej:mg "LONGEST_NAME"=some (.int 8 E2)
 Gp:Tok
 E1:mg "MOST_CELL"=some (.int 99 Gp)
 DY:Tok
 DR:mg "MOST_PATTERN_DEEP"=some (.int 3 DY)
 GY:Tok
 F1:mg "MOST_GAP"=some (.int 9999 GY)
 D7:Tok
 DS:mg "MOST_PIECE_CELLS"=some (.int 12 D7)
 Fg:Tok
 EF:mg "MOST_PIECES"=some (.int 16 Fg)
 Gr:Tok
 Fu:mg "MOST_NEAR"=some (.int 9 Gr)
 FS:Tok
 E4:mg "CALL_CELLS"=some (.int 3 FS)
 JI:Tok
 Jb:mg "END"=some (.int 0 JI)
 Jg:Tok
 IE:mg "CALL"=some (.int 15 Jg)
 Jf:Tok
 ID:mg "BACK"=some (.int 16 Jf)
 Fh:Tok
 EG:mg "MOST_SHARED"=some (.int 6 Fh)
 EJ:Addr
 D5:mg "MOST_IN_LEAF"=some (.ref EJ)
 D6:jn K EJ TL
 DV:Addr
 DH:mg "TREES_IN_BRANCH"=some (.ref DV)
 DI:jn K DV TB
 D1:Addr
 DU:mg "MARK_LENGTHS"=some (.ref D1)
 DG:jn K D1 TM
 E8:Addr
 Ee:mg "FILLED_FROM"=some (.ref E8)
 Ef:jn K E8 TF
 EI:Addr
 D4:mg "INSTRUCTIONS"=some (.ref EI)
 GM:ft K (.tup INS) (.ref EI)=true
 Hw:Addr
 F3:mg "STRAIGHT"=some (.ref Hw)
 IY:ft K (.tup STR) (.ref Hw)=true
 IS:Addr
 HY:mg "AHEAD"=some (.ref IS)
 JN:ft K (.tup AHE) (.ref IS)=true
 Iq:Addr
 Hs:mg "BEHIND"=some (.ref Iq)
 JG:ft K (.tup BEH) (.ref Iq)=true
 IT:Addr
 HZ:mg "BASIC"=some (.ref IT)
 JO:mz K BAS IT=true
 HJ:wt P w K D1 ["hole","gap","slot"]
 DW:mg "len"=none
 DJ:mg "isinstance"=none
 JY:mg "int"=none
 JX:mg "bool"=none
 J0:mg "str"=none
 Fj:mg "tuple"=none
 Jw:mg "list"=none
 IU:mg "range"=none
 IP:mg "all"=none
 Kb:mg "any"=none
 Kc:mg "set"=none
 Kd:mg "sum"=none
 Je:mg "reversed"=none
 JQ:mg "zip"=none
 IQ:mg "enumerate"=none
 JZ:mg "max"=none
section
variable {P:Program} {w:World} {K:PySem.W.Frag} {mg:Str->Option Value} {base:Heap} {k:Nat}
theorem ko {α:Type} {us:List α} (h:us.length=1):∃ a0,us=[a0]:=match us,h with | [a0],_=>⟨a0,rfl⟩
theorem gD {α:Type} {us:List α} (h:us.length=2):∃ a0 a1,us=[a0,a1]:=match us,h with | [a0,a1],_=>⟨a0,a1,rfl⟩
theorem pD {α:Type} {us:List α} (h:us.length=3):∃ a0 a1 a2,us=[a0,a1,a2]:=match us,h with | [a0,a1,a2],_=>⟨a0,a1,a2,rfl⟩
theorem zM {α:Type} {us:List α} (h:us.length=4):∃ a0 a1 a2 a3,us=[a0,a1,a2,a3]:=match us,h with | [a0,a1,a2,a3],_=>⟨a0,a1,a2,a3,rfl⟩
theorem fw (T:Txt P w K mg):Binds K T.Ew ["thing","low","high"] []:=T.Ez.binds λ_ _ _ _ _ _ us hl=>by obtain ⟨_,_,_,rfl⟩:=pD hl;rfl
theorem iU (T:Txt P w K mg):Binds K T.EW ["thing"] []:=T.Fs.binds λ_ _ _ _ _ _ us hl=>by obtain ⟨_,rfl⟩:=ko hl;rfl
theorem nJ (T:Txt P w K mg):Binds K T.GF ["thing"] []:=T.Hq.binds λ_ _ _ _ _ _ us hl=>by obtain ⟨_,rfl⟩:=ko hl;rfl
theorem dq (T:Txt P w K mg):Binds K T.DO ["tree"] []:=T.DT.binds λ_ _ _ _ _ _ us hl=>by obtain ⟨_,rfl⟩:=ko hl;rfl
theorem nK (T:Txt P w K mg):Binds K T.GG ["thing"] []:=T.Hr.binds λ_ _ _ _ _ _ us hl=>by obtain ⟨_,rfl⟩:=ko hl;rfl
theorem kJ (T:Txt P w K mg):Binds K T.Fq ["tree"] []:=T.Gk.binds λ_ _ _ _ _ _ us hl=>by obtain ⟨_,rfl⟩:=ko hl;rfl
theorem jK (T:Txt P w K mg):Binds K T.FJ ["tree"] []:=T.GU.binds λ_ _ _ _ _ _ us hl=>by obtain ⟨_,rfl⟩:=ko hl;rfl
theorem uS (T:Txt P w K mg):Binds K T.Hm ["thing"] []:=T.HW.binds λ_ _ _ _ _ _ us hl=>by obtain ⟨_,rfl⟩:=ko hl;rfl
theorem j9 (T:Txt P w K mg):Binds K T.Ei ["cells","place"] []:=T.E3.binds λ_ _ _ _ _ _ us hl=>by obtain ⟨_,_,rfl⟩:=gD hl;rfl
theorem uR (T:Txt P w K mg):Binds K T.Hl ["thing"] []:=T.HV.binds λ_ _ _ _ _ _ us hl=>by obtain ⟨_,rfl⟩:=ko hl;rfl
theorem gJ (T:Txt P w K mg):Binds K T.DN ["thing","deep"] []:=T.Ec.binds λ_ _ _ _ _ _ us hl=>by obtain ⟨_,_,rfl⟩:=gD hl;rfl
theorem jv (T:Txt P w K mg):Binds K T.EX ["pattern","kind"] []:=T.F0.binds λ_ _ _ _ _ _ us hl=>by obtain ⟨_,_,rfl⟩:=gD hl;rfl
theorem ng (T:Txt P w K mg):Binds K T.Ff ["pattern","kind"] []:=T.F6.binds λ_ _ _ _ _ _ us hl=>by obtain ⟨_,_,rfl⟩:=gD hl;rfl
theorem oU (T:Txt P w K mg):Binds K T.FG ["thing"] []:=T.Gy.binds λ_ _ _ _ _ _ us hl=>by obtain ⟨_,rfl⟩:=ko hl;rfl
theorem oS (T:Txt P w K mg):Binds K T.FF ["thing","pattern"] []:=T.Gx.binds λ_ _ _ _ _ _ us hl=>by obtain ⟨_,_,rfl⟩:=gD hl;rfl
theorem uQ (T:Txt P w K mg):Binds K T.Hk ["thing","pattern"] []:=T.HU.binds λ_ _ _ _ _ _ us hl=>by obtain ⟨_,_,rfl⟩:=gD hl;rfl
theorem ju (T:Txt P w K mg):Binds K T.D3 ["cells","pattern"] []:=T.Ey.binds λ_ _ _ _ _ _ us hl=>by obtain ⟨_,_,rfl⟩:=gD hl;rfl
theorem sI (T:Txt P w K mg):Binds K T.GQ ["thing"] []:=T.Hy.binds λ_ _ _ _ _ _ us hl=>by obtain ⟨_,rfl⟩:=ko hl;rfl
theorem wK (T:Txt P w K mg):Binds K T.HI ["thing"] []:=T.Ir.binds λ_ _ _ _ _ _ us hl=>by obtain ⟨_,rfl⟩:=ko hl;rfl
theorem lZ (T:Txt P w K mg):Binds K T.FZ ["some"] []:=T.GT.binds λ_ _ _ _ _ _ us hl=>by obtain ⟨_,rfl⟩:=ko hl;rfl
theorem kX (T:Txt P w K mg):Binds K T.EC ["mark","tree"] []:=T.Fi.binds λ_ _ _ _ _ _ us hl=>by obtain ⟨_,_,rfl⟩:=gD hl;rfl
theorem kg (T:Txt P w K mg):Binds K T.FY ["pattern","tree","found"] []:=T.GH.binds λ_ _ _ _ _ _ us hl=>by obtain ⟨_,_,_,rfl⟩:=pD hl;rfl
theorem lY (T:Txt P w K mg):Binds K T.FX ["piece","tree"] []:=T.GS.binds λ_ _ _ _ _ _ us hl=>by obtain ⟨_,_,rfl⟩:=gD hl;rfl
theorem nc (T:Txt P w K mg):Binds K T.Fe ["cell","nums","ks"] []:=T.F5.binds λ_ _ _ _ _ _ us hl=>by obtain ⟨_,_,_,rfl⟩:=pD hl;rfl
theorem kI (T:Txt P w K mg):Binds K T.Gf ["many","kinds"] []:=T.Gj.binds λ_ _ _ _ _ _ us hl=>by obtain ⟨_,_,rfl⟩:=gD hl;rfl
theorem iN (T:Txt P w K mg):Binds K T.Eb ["second","third"] []:=T.EE.binds λ_ _ _ _ _ _ us hl=>by obtain ⟨_,_,rfl⟩:=gD hl;rfl
theorem uT (T:Txt P w K mg):Binds K T.Hn ["tree","some"] []:=T.HX.binds λ_ _ _ _ _ _ us hl=>by obtain ⟨_,_,rfl⟩:=gD hl;rfl
theorem qH (T:Txt P w K mg):Binds K T.Gh ["name","cells","lengths"] []:=T.Hd.binds λ_ _ _ _ _ _ us hl=>by obtain ⟨_,_,_,rfl⟩:=pD hl;rfl
theorem lX (T:Txt P w K mg):Binds K T.EV ["tree","some","done","bests"] []:=T.FO.binds λ_ _ _ _ _ _ us hl=>by obtain ⟨_,_,_,_,rfl⟩:=zM hl;rfl
theorem iM (T:Txt P w K mg):Binds K T.Ea ["tree","some"] []:=T.ED.binds λ_ _ _ _ _ _ us hl=>by obtain ⟨_,_,rfl⟩:=gD hl;rfl
theorem qG (T:Txt P w K mg):Binds K T.Gg ["tree","some","cover","places"] []:=T.Hc.binds λ_ _ _ _ _ _ us hl=>by obtain ⟨_,_,_,_,rfl⟩:=zM hl;rfl
theorem oV (T:Txt P w K mg):Binds K T.FH ["tree","some","cover","places"] []:=T.Gz.binds λ_ _ _ _ _ _ us hl=>by obtain ⟨_,_,_,_,rfl⟩:=zM hl;rfl
theorem fY (T:Txt P w K mg):Binds K T.D0 ["tree","some","cover","places"] []:=T.EA.binds λ_ _ _ _ _ _ us hl=>by obtain ⟨_,_,_,_,rfl⟩:=zM hl;rfl
theorem nI (T:Txt P w K mg):Binds K T.GE ["tree","some"] []:=T.Ho.binds λ_ _ _ _ _ _ us hl=>by obtain ⟨_,_,rfl⟩:=gD hl;rfl
theorem qE (T:Txt P w K mg):Binds K T.Gd ["thing","tree"] []:=T.Ha.binds λ_ _ _ _ _ _ us hl=>by obtain ⟨_,_,rfl⟩:=gD hl;rfl
theorem oW (T:Txt P w K mg):Binds K T.FI ["parts","tree"] []:=T.GA.binds λ_ _ _ _ _ _ us hl=>by obtain ⟨_,_,rfl⟩:=gD hl;rfl
theorem jL (T:Txt P w K mg):Binds K T.Ex ["tree","parts"] []:=T.FP.binds λ_ _ _ _ _ _ us hl=>by obtain ⟨_,_,rfl⟩:=gD hl;rfl
theorem fU (T:Txt P w K mg):Binds K T.DQ ["tree","parts"] []:=T.DX.binds λ_ _ _ _ _ _ us hl=>by obtain ⟨_,_,rfl⟩:=gD hl;rfl
theorem kH (T:Txt P w K mg):Binds K T.Fp ["tree","some","parts"] []:=T.Gi.binds λ_ _ _ _ _ _ us hl=>by obtain ⟨_,_,_,rfl⟩:=pD hl;rfl
theorem Bj (T:Txt P w K mg):Binds K T.Ja ["tree","some","part"] []:=T.Jv.binds λ_ _ _ _ _ _ us hl=>by obtain ⟨_,_,_,rfl⟩:=pD hl;rfl
theorem qF (T:Txt P w K mg):Binds K T.Ge ["tree","some"] []:=T.Hb.binds λ_ _ _ _ _ _ us hl=>by obtain ⟨_,_,rfl⟩:=gD hl;rfl
theorem fG (T:Txt P w K mg):Binds K T.ET ["_law_script","_law_town","_law_many"] []:=T.Eo.binds λ_ _ _ _ _ _ us hl=>by obtain ⟨_,_,_,rfl⟩:=pD hl;rfl
theorem gH (T:Txt P w K mg):Binds K T.EU ["_law_script","_law_town","_law_some"] []:=T.EY.binds λ_ _ _ _ _ _ us hl=>by obtain ⟨_,_,_,rfl⟩:=pD hl;rfl
theorem gI (T:Txt P w K mg):Binds K T.Em ["_law_script","_law_town","_law_room"] []:=T.EZ.binds λ_ _ _ _ _ _ us hl=>by obtain ⟨_,_,_,rfl⟩:=pD hl;rfl
theorem jJ (T:Txt P w K mg):Binds K T.Eu ["_law_tree_here"] []:=T.FN.binds λ_ _ _ _ _ _ us hl=>by obtain ⟨_,rfl⟩:=ko hl;rfl
theorem m9 (T:Txt P w K mg):Binds K T.Fd [] []:=T.F4.binds λ_ _ _ _ _ _ us hl=>match us,hl with | [],_=>rfl
theorem sH (T:Txt P w K mg):Binds K T.GP ["_law_script","_law_town"] []:=T.Hx.binds λ_ _ _ _ _ _ us hl=>by obtain ⟨_,_,rfl⟩:=gD hl;rfl
theorem jI (T:Txt P w K mg):Binds K T.FE ["_law_script","_law_town"] []:=T.FL.binds λ_ _ _ _ _ _ us hl=>by obtain ⟨_,_,rfl⟩:=gD hl;rfl
theorem lW (T:Txt P w K mg):Binds K T.ES ["_law_script","_law_town"] []:=T.FK.binds λ_ _ _ _ _ _ us hl=>by obtain ⟨_,_,rfl⟩:=gD hl;rfl
def cx (d:D) (lo hi:Int):Bool:=match d with
 | .int i=>decide (lo≤i) && decide (i≤hi)
 | _=>false
def fN (ds:List D) (d:D):Prop:=∃ x lo hi,ds=[x,.int lo,.int hi]/\d=.bl (cx x lo hi)
def dn:D->Bool
 | .tup (.str _::_)=>true
 | _=>false
def lC (ds:List D) (d:D):Prop:=∃ x,ds=[x]/\d=.bl (dn x)
def jD (k:Str) (T:List (Str × KTD.Dat)):Int:=match KTD.datumAt k T with
 | some (.flat (.int i))=>i
 | _=>0
def cM:D->Bool
 | .tup (.str k::r)=>if KTD.inKeys k TL=true then decide ((r.length:Int)+1=2) && cx (r.getD 0 .non) 0 (jD k TL) else KTD.inKeys k TB && decide ((r.length:Int)+1=1+jD k TB)
 | _=>false
def wG (ds:List D) (d:D):Prop:=∃ x,ds=[x]/\d=.bl (cM x)
def bQ:D->List D
 | .tup (.str k::r)=>if KTD.inKeys k TB=true then r else []
 | _=>[]
def eY (ds:List D) (d:D):Prop:=∃ k r,ds=[.tup (.str k::r)]/\d=.tup (bQ (.tup (.str k::r)))
theorem C4 {T:List (Str × KTD.Dat)} {k:Str} (hT:∀ p ∈ T,∃ i,p.2=.flat (.int i)) (h:KTD.inKeys k T=true):KTD.datumAt k T=some (.flat (.int (jD k T))):=by
 unfold jD
 cases e:KTD.datumAt k T with
 | none=>exact absurd e (KTD.at_of_mem h)
 | some d =>
  have all:∀ (T:List (Str × KTD.Dat)),(∀ p ∈ T,∃ i,p.2=.flat (.int i))->KTD.datumAt k T=some d->∃ i,d=.flat (.int i):=by
   intro T
   induction T with
   | nil=>intro _ e;simp [KTD.datumAt] at e
   | cons p r ih =>
    intro hp e
    obtain ⟨x,y⟩:=p
    have e':(if decide (k=x)=true then some y else KTD.datumAt k r)=some d:=e
    by_cases hx:k=x
    ·rw [if_pos (decide_eq_true hx)] at e'
     cases e'
     exact hp _ List.mem_cons_self
    ·rw [if_neg (by simp [hx])] at e'
     exact ih (λp hp'=>hp p (List.mem_cons_of_mem _ hp')) e'
  obtain ⟨i,rfl⟩:=all T hT e
  rfl
theorem Bg:∀ p ∈ TL,∃ i,p.2=.flat (.int i):=by
 intro p hp
 simp only [TL,List.mem_cons,List.not_mem_nil,or_false] at hp
 rcases hp with rfl | rfl <;> exact ⟨_,rfl⟩
theorem Be:∀ p ∈ TB,∃ i,p.2=.flat (.int i):=by
 intro p hp
 simp only [TB,List.mem_cons,List.not_mem_nil,or_false] at hp
 rcases hp with rfl | rfl | rfl | rfl | rfl <;> exact ⟨_,rfl⟩
theorem rF (T:Txt P w K mg)  : FnOk P w K mg base CX0 (k+1) T.Es T.Ew ["thing","low","high"] (spD K fN):=by
 refine T.Ez.ok sc_is_whole (λvs H Q E h=>?_) (λcdv A outer s H vs Q E hr h=>?_)
 ·obtain ⟨ds,d,hd,⟨x,lo,hi,rfl,rfl⟩,_⟩:=h;exact hd.length.symm
 have nd:=sc_is_whole.nd
 obtain ⟨ds,d,hd,⟨x,lo,hi,rfl,rfl⟩,post⟩:=h
 obtain ⟨v0,v1,v2,rfl,h0,h1,h2⟩:=ua hd
 have g1:=h1.intE
 have g2:=h2.intE
 subst g1 g2
 refine ⟨_,(av (aG (iC (aK (dv xD) rfl T.DJ bI (bO (pv 0) (bO (ff (v:=.ty "int") rfl T.JY wN rfl) af))) (iC (BR (aK (dv zD) rfl T.DJ bI (bO (pv 0) (bO (ff (v:=.ty "bool") rfl T.JX zk rfl) af)))) (gZ (rN i6 i6 (pv 1) (pv 0) (pv 2))))))),?_⟩
 refine aX (K:=K) (d:=.bl (cx x lo hi)) ?_ post
 cases x with
 | int i=>exact RE.as (cF (bN (ae h0)) λ_=>cF (yD (bN (ae h0))) λ_=>jZ (ae h1) (ae h0) λ_=>ae h2) rfl
 | bl y=>exact RE.as (cF (c:=false) (bN (ae h0)) λ_=>RE.as (cF (c:=true) (yD (bN (ae h0))) λz=>nomatch z) rfl) rfl
 | non=>exact RE.as (cF (c:=true) (bN (ae h0)) λz=>nomatch z) rfl
 | str y=>exact RE.as (cF (c:=true) (bN (ae h0)) λz=>nomatch z) rfl
 | tup y=>exact RE.as (cF (c:=true) (bN (ae h0)) λz=>nomatch z) rfl
 | lst=>exact RE.as (cF (c:=true) (bN (ae h0)) λz=>nomatch z) rfl
theorem pM (T:Txt P w K mg)  : FnOk P w K mg base CX0 (k+1) T.EO T.EW ["thing"] (spD K lC):=by
 refine T.Fs.ok sc_is_tagged (λvs H Q E h=>?_) (λcdv A outer s H vs Q E hr h=>?_)
 ·obtain ⟨ds,d,hd,⟨x,rfl,rfl⟩,_⟩:=h;exact hd.length.symm
 have nd:=sc_is_tagged.nd
 obtain ⟨ds,d,hd,⟨x,rfl,rfl⟩,post⟩:=h
 obtain ⟨v0,rfl,h0⟩:=gx hd
 refine ⟨_,(av (aG (iC (aK (dv jS) rfl T.DJ bI (bO (pv 0) (bO (ff (v:=.ty "tuple") rfl T.Fj dt rfl) af))) (iC (cH mJ (aK aM rfl T.DW bF (ag (pv 0) af)) ak (aY _)) (gZ (aK (dv xE) rfl T.DJ bI (bO (aT aW (pv 0) ak (λ_ _=>rfl)) (bO (ff (v:=.ty "str") rfl T.J0 wR rfl) af)))))))),?_⟩
 refine aX (K:=K) (d:=.bl (dn x)) ?_ post
 cases x with
 | tup ds =>
  cases ds with
  | nil=>exact RE.as (cF (c:=false) (bN (ae h0)) λ_=>RE.as (cF (c:=true) (dD (eR (ae h0)) ao) λz=>nomatch z) rfl) rfl
  | cons y r =>
   have l:decide ((0:Int) < (((y::r).length:Nat):Int))=true:=decide_eq_true (by rw [List.length_cons];omega)
   refine RE.as (cF (bN (ae h0)) λ_=>cF (RE.as (dD (eR (ae h0)) ao) (congrArg D.bl l)) λ_=>bN (aZ (k:=0) (ae h0) ao (show (y::r)[0]?=some y from rfl))) ?_
   cases y <;> rfl
 | int i=>exact RE.as (cF (c:=true) (bN (ae h0)) λz=>nomatch z) rfl
 | bl y=>exact RE.as (cF (c:=true) (bN (ae h0)) λz=>nomatch z) rfl
 | non=>exact RE.as (cF (c:=true) (bN (ae h0)) λz=>nomatch z) rfl
 | str y=>exact RE.as (cF (c:=true) (bN (ae h0)) λz=>nomatch z) rfl
 | lst=>exact RE.as (cF (c:=true) (bN (ae h0)) λz=>nomatch z) rfl
theorem tj (T:Txt P w K mg) (F7:FnOk P w K mg base CX0 k T.EO T.EW ["thing"] (spD K lC)) (Ed:FnOk P w K mg base CX0 k T.Es T.Ew ["thing","low","high"] (spD K fN)):FnOk P w K mg base CX0 (k+1) T.GC T.GF ["thing"] (spD K wG):=by
 refine T.Hq.ok sc_is_node (λvs H Q E h=>?_) (λcdv A outer s H vs Q E hr h=>?_)
 ·obtain ⟨ds,d,hd,⟨x,rfl,rfl⟩,_⟩:=h;exact hd.length.symm
 have nd:=sc_is_node.nd
 obtain ⟨ds,d,hd,⟨x,rfl,rfl⟩,post⟩:=h
 obtain ⟨v0,rfl,h0⟩:=gx hd
 refine ⟨_,(aj (bu (bU (bo (aA F7 hr rfl T.He T.Fs.kp (iU T) .nil aQ (ag (pv 0) af)) (λ_=>rfl))) (av (aG dm)) aP)
 (aj (bg (i:=1) nd rfl (Or.inl rfl) (aT aW (pv 0) ak (λ_ _=>rfl)))
 (aj (bu (aU jX (pv 1) (bz (v:=.ref T.EJ) rfl T.D5 rfl) (by with_unfolding_all rfl)) (av (aG (iC (cH cZ (aK aM rfl T.DW bF (ag (pv 0) af)) ak (aY _)) (gZ (aA Ed hr rfl T.Fk T.Ez.kp (fw T) .nil aQ (ag (aT aW (pv 0) ak (λ_ _=>rfl)) (ag ak (ag (aT xK (bz (v:=.ref T.EJ) rfl T.D5 rfl) (pv 1) (λ_ _=>rfl)) af)))))))) aP)
 (av (aG (iC (cH jX (pv 1) (bz (v:=.ref T.DV) rfl T.DH rfl) (by with_unfolding_all rfl)) (gZ (cH cZ (aK aM rfl T.DW bF (ag (pv 0) af)) (bx fe ak (aT xK (bz (v:=.ref T.DV) rfl T.DH rfl) (pv 1) (λ_ _=>rfl))) (aY _))))))))),?_⟩
 refine aS (K:=K) (b:=!dn x) (bB (aV (ba (ab (ae h0) au) ⟨x,rfl,rfl⟩))) (λc H1 s1=>?_) (λc H1 s1=>?_)
 ·refine aX (K:=K) (d:=.bl (cM x)) ?_ λv H' s q=>post v H' (s1.trans s) q
  have e:cM x=false:=by
   unfold cM
   split
   ·unfold dn at c;simp at c
   ·rfl
  rw [e]
  exact dR
 ·have h0':=s1.dat h0
  have c':dn x=true:=by simpa using c
  unfold dn at c'
  split at c'
  ·rename_i kd r
   refine cQ (K:=K) (d:=.str kd) (aZ (k:=0) (ae h0') ao rfl) λv1 H2 s2 q2=>?_
   have h2:=s2.dat h0'
   have ev:=q2.strE
   subst ev
   refine aS (K:=K) (b:=KTD.inKeys kd TL) (aO (fK (ae q2) T.D6)) (λcL H3 s3=>?_) (λcL H3 s3=>?_)
   ·have h3:=s3.dat h2
    have e:cM (.tup (.str kd::r))=(decide ((r.length:Int)+1=2) && cx (r.getD 0 .non) 0 (jD kd TL)):=by
     show (if KTD.inKeys kd TL=true then _ else _)=_
     rw [if_pos cL]
    refine aX (K:=K) (d:=.bl (cM (.tup (.str kd::r)))) ?_ λv H' s q=>post v H' (s1.trans (s2.trans (s3.trans s))) q
    rw [e]
    have el:((((D.str kd)::r).length:Nat):Int)=(r.length:Int)+1:=by rw [List.length_cons];omega
    have b1:=pZ (K:=K) (eR (ae (σ:=(fV ["thing","kind"] [v0]).set 1 (some (.str kd))) (k:=0) h3)) (ao (i:=2))
    rw [el] at b1
    refine cF b1 λhl=>?_
    have hl':(r.length:Int)+1=2:=of_decide_eq_true hl
    obtain ⟨y,er⟩:∃ y,r=[y]:=by
     match r,hl' with
     | [],h=>simp at h
     | [y],_=>exact ⟨y,rfl⟩
     | _::_::_,h=>simp at h;omega
    subst er
    refine ba (E:=E0) (R:=fN) (ab (aZ (k:=1) (ae h3) ao rfl) (ab ao (ab (rX (ae (s3.dat q2)) T.D6 (by rfl) (C4 Bg cL)) au))) ⟨y,0,jD kd TL,rfl,rfl⟩
   ·have h3:=s3.dat h2
    have e:cM (.tup (.str kd::r))=(KTD.inKeys kd TB && decide ((r.length:Int)+1=1+jD kd TB)):=by
     show (if KTD.inKeys kd TL=true then _ else _)=_
     rw [if_neg (by rw [cL];exact Bool.false_ne_true)]
    refine aX (K:=K) (d:=.bl (cM (.tup (.str kd::r)))) ?_ λv H' s q=>post v H' (s1.trans (s2.trans (s3.trans s))) q
    rw [e]
    have el:((((D.str kd)::r).length:Nat):Int)=(r.length:Int)+1:=by rw [List.length_cons];omega
    refine cF (fK (ae (s3.dat q2)) T.DI) λcB=>?_
    have b1:=pZ (K:=K) (eR (ae (σ:=(fV ["thing","kind"] [v0]).set 1 (some (.str kd))) (k:=0) h3)) (fS (ao (i:=1)) (rX (ae (σ:=(fV ["thing","kind"] [v0]).set 1 (some (.str kd))) (k:=1) (s3.dat q2)) T.DI (by rfl) (C4 Be cB)))
    rw [el] at b1
    exact b1
  ·cases c'
theorem lA (T:Txt P w K mg)  : FnOk P w K mg base CX0 (k+1) T.DM T.DO ["tree"] (spD K eY):=by
 refine T.DT.ok sc_trees_within (λvs H Q E h=>?_) (λcdv A outer s H vs Q E hr h=>?_)
 ·obtain ⟨ds,d,hd,⟨kd,r,rfl,rfl⟩,_⟩:=h;exact hd.length.symm
 have nd:=sc_trees_within.nd
 obtain ⟨ds,d,hd,⟨kd,r,rfl,rfl⟩,post⟩:=h
 obtain ⟨v0,rfl,h0⟩:=gx hd
 refine ⟨_,(aj (bu (aU jX (aT aW (pv 0) ak (λ_ _=>rfl)) (bz (v:=.ref T.DV) rfl T.DH rfl) (by with_unfolding_all rfl)) (av (aG (ij mV (pv 0) (iE ak) jY))) aP)
 (av (aG (aI af)))),?_⟩
 refine aS (K:=K) (b:=KTD.inKeys kd TB) (aO (fK (aZ (k:=0) (ae h0) ao rfl) T.DI)) (λc H1 s1=>?_) (λc H1 s1=>?_)
 ·refine aX (K:=K) (d:=.tup r) (jf (ae (s1.dat h0))) λv H' s q=>post v H' (s1.trans s) ?_
  show Dat K H' (.tup (if KTD.inKeys kd TB=true then r else [])) v
  rw [if_pos c]
  exact q
 ·refine aX (K:=K) (σ:=fV ["tree"] [v0]) (d:=.tup []) (aL au) λv H' s q=>post v H' (s1.trans s) ?_
  show Dat K H' (.tup (if KTD.inKeys kd TB=true then r else [])) v
  rw [if_neg (by rw [c];exact Bool.false_ne_true)]
  exact q
theorem yj {ns:List Int} {k:Int} (h0:0≤k) (h1:k < (ns.length:Int)):∃ z,atI (ns.map V.int) k=some (.int z):=by
 have hk:k.toNat < ns.length:=by omega
 refine ⟨ns[k.toNat],?_⟩
 have e:k=((k.toNat:Nat):Int):=by omega
 have q:atI (ns.map V.int) ((k.toNat:Nat):Int)=some (.int ns[k.toNat]):=iw (by rw [List.getElem?_map,List.getElem?_eq_getElem hk] <;> rfl)
 rw [← e] at q
 exact q
theorem pG (T:Txt P w K mg)  : FnOk P w K mg base CX0 (k+1) T.EL T.ET ["_law_script","_law_town","_law_many"] (qm K):=by
 refine T.Eo.ok sc__law_draw (λvs H Q E h=>?_) (λcdv A outer s H vs Q E hr h=>?_)
 ·obtain ⟨a,t,ns,m,p,q,rest,rfl,_⟩:=h;rfl
 have nd:=sc__law_draw.nd
 obtain ⟨a,t,ns,m,p,q,rest,rfl,hS,hT,hp,hm,hm2,post⟩:=h
 refine ⟨_,(aj (bu (aU mJ (aT bT (pv 1) ak (λ_ _=>rfl)) ak (aY _)) (aj (bg (i:=3) nd rfl (Or.inl rfl) (bx fQ (aT bT (pv 1) ak (λ_ _=>rfl)) (pv 2)))
 (aj (eO (bx jW (aT bT (pv 1) ak (λ_ _=>rfl)) (pv 2)) (yg (pv 1) ak j6))
 (av (aG (pv 3))))) aP)
 (aj (bg (i:=4) nd rfl (Or.inl rfl) (aT bT (pv 1) ak (λ_ _=>rfl)))
 (aj (uA (pv 1) ak qV ak pq j6)
 (aj (bu (aU (x8 hr) (pv 0) (bA af) (aY _)) (av (aG (bx fQ (pv 4) (pv 2)))) aP)
 (aj (bu (PW.pt (BX (aU oy (pv 4) (aK aM rfl T.DW bF (ag (pv 0) af)) (aY _)) (Ad (aU x9 (aT bT (pv 0) (pv 4) (λ_ _=>rfl)) (bx pT ak ak) (aY _))))) (aj (eO (bx fQ (bx jW (aT bT (pv 0) (pv 4) (λ_ _=>rfl)) (pv 2)) (bx zW (bx pT ak ak) (bx pT ak ak))) (yg (pv 1) ak j6))
 (av (aG (bx fQ (aT bT (pv 0) (pv 4) (λ_ _=>rfl)) (pv 2))))) aP)
 (aj (bg (i:=5) nd rfl (Or.inl rfl) (bx fQ (bx fe (bx fe (bx yc (aT bT (pv 0) (bx fQ (pv 4) (aK aM rfl T.DW bF (ag (pv 0) af))) (λ_ _=>rfl)) ak) (bx yc ak (pv 4))) ak) ak))
 (av (aG (bx fQ (bx fQ (bx fQ (bx pT (pv 5) ak) ak) ak) (pv 2)))))))))),?_⟩
 refine ⟨_,rfl,t,_,1,_,rfl,rfl,SqL.of hT,at1,q,0,rfl,rfl,_,rfl,?_⟩
 refine nj (λc=>?_) (λc=>?_)
 ·refine ⟨_,rfl,t,_,1,_,rfl,rfl,SqL.of hT,at1,_,rfl,q,m,rfl,rfl,hm,?_⟩
  refine ⟨_,rfl,t,_,1,_,rfl,rfl,SqL.of hT,at1,_,rfl,q,m,rfl,rfl,⟨hm,by omega⟩,?_⟩
  refine ⟨_,rfl,t,_,1,1,rfl,rfl,hT,ix1,?_⟩
  refine ⟨_,rfl,?_⟩
  exact post (q % m) _ p (q / m) (But.upd (Same.refl H).but) aq hp (Int.emod_nonneg _ (by omega)) (Int.emod_lt_of_pos _ hm)
 refine ⟨_,rfl,t,_,0,_,rfl,rfl,SqL.of hT,at0,?_⟩
 refine ⟨_,rfl,t,_,0,_,rfl,rfl,Int.le_refl 0,SqL.of hT,rfl,p,1,rfl,rfl,t,_,0,0,rfl,rfl,hT,ix0,?_⟩
 refine ⟨_,rfl,(by show 0≤sizeLine;decide),λl hl=>?_⟩
 have bt1:But t H (upd H t (.lst ((V.int p::.int q::rest).set 0 (.int (p+1))))):=But.upd (Same.refl H).but
 have hlt:l≠t:=λz=>by rw [z,aq] at hl;cases hl
 have bt3:=bt1.trans (aC hl (.lst [])).but
 have ht3:upd (upd H t (.lst ((V.int p::.int q::rest).set 0 (.int (p+1))))) l (.lst []) t=some (.lst (.int (p+1)::.int q::rest)):=by
  rw [aJ (Ne.symm hlt)];exact aq
 have hS3:=(hS.but bt3 hT).sqL
 have hlen:((ns.map V.int).length:Int)=(ns.length:Int):=by rw [List.length_map]
 refine ⟨a,l,_,[],ns.map D.int,[],rfl,rfl,hS3,SqL.of aq,nR ns,Dats.nil,ku ns,(by unfold noLs;rfl),(by rw [iV];decide),_,rfl,?_⟩
 show (if eqDs (ns.map D.int) []=true then _ else _)
 rw [xl]
 refine nj (λc0=>?_) (λc0=>?_)
 ·refine ⟨_,rfl,_,rfl,p,m,rfl,rfl,hm,?_⟩
  exact post _ _ (p+1) q bt3 ht3 (by omega) (Int.emod_nonneg _ (by omega)) (Int.emod_lt_of_pos _ hm)
 have hl0:(0:Int) < ((ns.map V.int).length:Int):=by
  rw [hlen]
  cases ns with
  | nil=>exact absurd rfl c0
  | cons n ns=>rw [List.length_cons];omega
 refine ⟨_,rfl,_,rfl,a,_,rfl,.inl hS3,p,_,rfl,rfl,_,rfl,?_⟩
 refine nj (λc1=>?_) (λc1=>?_)
 ·have c1':p < ((ns.map V.int).length:Int):=of_decide_eq_true c1
  obtain ⟨z,hz⟩:=yj (ns:=ns) hp (by rw [← hlen];exact c1')
  refine ⟨_,rfl,_,rfl,a,_,p,_,rfl,rfl,hS3,hz,10,18,rfl,rfl,⟨by decide,by decide,by decide⟩,z,_,rfl,rfl,_,rfl,?_⟩
  refine nj (λc2=>?_) (λc2=>?_)
  ·refine ⟨_,rfl,_,rfl,a,_,p,_,rfl,rfl,hS3,hz,_,rfl,z,m,rfl,rfl,⟨hm,by omega⟩,10,60,rfl,rfl,⟨by decide,by decide,by decide⟩,10,60,rfl,rfl,⟨by decide,by decide,by decide⟩,_,_,rfl,rfl,IntMulOk.of_bits (by decide +kernel) (by decide +kernel),_,_,rfl,rfl,(by show (0:Int) < 10 ^ (60:Int).toNat * 10 ^ (60:Int).toNat;decide +kernel),?_⟩
   refine ⟨_,rfl,t,_,1,1,rfl,rfl,ht3,ix1,?_⟩
   refine ⟨_,rfl,_,rfl,a,_,p,_,rfl,rfl,(hS.but bt3.upd hT).sqL,hz,_,rfl,z,m,rfl,rfl,hm,?_⟩
   exact post _ _ (p+1) _ bt3.upd aq (by omega) (Int.emod_nonneg _ (by omega)) (Int.emod_lt_of_pos _ hm)
  ·refine ⟨_,rfl,_,rfl,_,rfl,a,_,rfl,.inl hS3,p,_,rfl,rfl,hl0,?_⟩
   obtain ⟨z2,hz2⟩:=yj (ns:=ns) (Int.emod_nonneg p (by omega:((ns.map V.int).length:Int)≠0)) (by rw [← hlen];exact Int.emod_lt_of_pos p hl0)
   refine ⟨a,_,_,_,rfl,rfl,hS3,hz2,z2,1103515245,rfl,rfl,.inr ⟨by decide,by decide⟩,_,rfl,7919,p,rfl,rfl,.inl ⟨by decide,by decide⟩,_,_,rfl,rfl,_,_,rfl,rfl,_,_,rfl,rfl,(by show (0:Int) < 2147483647;decide),?_⟩
   have m1:=Int.emod_nonneg (z2 * 1103515245+7919 * p+12345) (by decide:(2147483647:Int)≠0)
   have m2:=Int.emod_lt_of_pos (z2 * 1103515245+7919 * p+12345) (by decide:(0:Int) < 2147483647)
   refine ⟨_,rfl,_,5,rfl,rfl,⟨by decide,by decide,by omega⟩,_,_,rfl,rfl,(by show (0:Int) < 2147483647;decide),_,_,rfl,rfl,(by show (0:Int) < 999983;decide),_,rfl,_,m,rfl,rfl,hm,?_⟩
   exact post _ _ (p+1) q bt3 ht3 (by omega) (Int.emod_nonneg _ (by omega)) (Int.emod_lt_of_pos _ hm)
 ·refine ⟨_,rfl,_,rfl,_,rfl,a,_,rfl,.inl hS3,p,_,rfl,rfl,hl0,?_⟩
  obtain ⟨z2,hz2⟩:=yj (ns:=ns) (Int.emod_nonneg p (by omega:((ns.map V.int).length:Int)≠0)) (by rw [← hlen];exact Int.emod_lt_of_pos p hl0)
  refine ⟨a,_,_,_,rfl,rfl,hS3,hz2,z2,1103515245,rfl,rfl,.inr ⟨by decide,by decide⟩,_,rfl,7919,p,rfl,rfl,.inl ⟨by decide,by decide⟩,_,_,rfl,rfl,_,_,rfl,rfl,_,_,rfl,rfl,(by show (0:Int) < 2147483647;decide),?_⟩
  have m1:=Int.emod_nonneg (z2 * 1103515245+7919 * p+12345) (by decide:(2147483647:Int)≠0)
  have m2:=Int.emod_lt_of_pos (z2 * 1103515245+7919 * p+12345) (by decide:(0:Int) < 2147483647)
  refine ⟨_,rfl,_,5,rfl,rfl,⟨by decide,by decide,by omega⟩,_,_,rfl,rfl,(by show (0:Int) < 2147483647;decide),_,_,rfl,rfl,(by show (0:Int) < 999983;decide),_,rfl,_,m,rfl,rfl,hm,?_⟩
  exact post _ _ (p+1) q bt3 ht3 (by omega) (Int.emod_nonneg _ (by omega)) (Int.emod_lt_of_pos _ hm)
def qr (K:PySem.W.Frag):Sp:=λvs H Q _=>∃ (a t l:Addr) (ns:List Int) (xs:List V) (p q:Int) (rest:List V),vs=[.ref a,.ref t,.ref l]/\Scr K H a ns/\SqL K H l xs/\l≠t/\0 < xs.length/\xs.length≤1000000 /\
 H t=some (.lst (.int p::.int q::rest))/\0≤p/\∀ (i:Nat) (x:V) (H':Hp) (p' q':Int),But t H H'->H' t=some (.lst (.int p'::.int q'::rest))->0≤p'->xs[i]?=some x->Q x H'
theorem pH (T:Txt P w K mg) (EH:FnOk P w K mg base CX0 k T.EL T.ET ["_law_script","_law_town","_law_many"] (qm K)):FnOk P w K mg base CX0 (k+1) T.EM T.EU ["_law_script","_law_town","_law_some"] (qr K):=by
 refine T.EY.ok sc__law_pick (λvs H Q E h=>?_) (λcdv A outer s H vs Q E hr h=>?_)
 ·obtain ⟨a,t,l,ns,xs,p,q,rest,rfl,_⟩:=h;rfl
 have nd:=sc__law_pick.nd
 obtain ⟨a,t,l,ns,xs,p,q,rest,rfl,hS,hL,hlt,hx0,hx1,hT,hp,post⟩:=h
 refine ⟨_,(av (aG (aT bT (pv 2) (aA EH hr rfl T.Fv T.Eo.kp (fG T) .nil aQ (ag (pv 0) (ag (pv 1) (ag (aK aM rfl T.DW bF (ag (pv 2) af)) af)))) (λ_ _=>rfl)))),?_⟩
 refine ⟨_,rfl,_,rfl,_,rfl,_,rfl,l,xs,rfl,.inl hL,a,t,ns,(xs.length:Int),p,q,rest,rfl,hS,hT,hp,by omega,by omega,λr H1 p1 q1 b1 t1 g1 r0 r1=>?_⟩
 have hr':r.toNat < xs.length:=by omega
 have er:r=((r.toNat:Nat):Int):=by omega
 have z:atI xs ((r.toNat:Nat):Int)=some xs[r.toNat]:=iw (List.getElem?_eq_getElem hr')
 rw [← er] at z
 exact ⟨l,xs,r,xs[r.toNat],rfl,rfl,b1.sqL hlt hL,z,post r.toNat _ H1 p1 q1 b1 t1 g1 (List.getElem?_eq_getElem hr')⟩
end
inductive Tr where
 | num (n:Int)
 | arg (k:Int)
 | two (o:Str) (a b:Tr)
 | pick (a b c:Tr)
 | call (k:Int)
def toD:Tr->D
 | .num n=>.tup [.str "num",.int n]
 | .arg k=>.tup [.str "arg",.int k]
 | .two o a b=>.tup [.str o,toD a,toD b]
 | .pick a b c=>.tup [.str "pick",toD a,toD b,toD c]
 | .call k=>.tup [.str "call",.int k]
def okT:Tr->Prop
 | .num n=>0≤n/\n≤9999
 | .arg k=>0≤k/\k≤3
 | .two o a b=>(o="add"\/o="sub"\/o="mul"\/o="less")/\okT a/\okT b
 | .pick a b c=>okT a/\okT b/\okT c
 | .call _=>False
def okX:Tr->Prop
 | .num n=>0≤n/\n≤9999
 | .arg k=>0≤k/\k≤3
 | .two o a b=>(o="add"\/o="sub"\/o="mul"\/o="less")/\okX a/\okX b
 | .pick a b c=>okX a/\okX b/\okX c
 | .call k=>0≤k/\k≤9
theorem iO:∀ {t:Tr},okT t->okX t
 | .num _,h=>h
 | .arg _,h=>h
 | .two _ _ _,h=>⟨h.1,iO h.2.1,iO h.2.2⟩
 | .pick _ _ _,h=>⟨iO h.1,iO h.2.1,iO h.2.2⟩
 | .call _,h=>h.elim
def aH:Tr->Nat
 | .num _=>1
 | .arg _=>1
 | .two _ a b=>max (aH a) (aH b)+1
 | .pick a b c=>max (aH a) (max (aH b) (aH c))+1
 | .call _=>1
def az:Tr->Nat
 | .num _=>1
 | .arg _=>1
 | .two _ a b=>az a+az b+1
 | .pick a b c=>az a+az b+az c+1
 | .call _=>1
def bq:Tr->List Tr
 | .num _=>[]
 | .arg _=>[]
 | .two _ a b=>[a,b]
 | .pick a b c=>[a,b,c]
 | .call _=>[]
def ax:Tr->List Tr
 | .num n=>[.num n]
 | .arg k=>[.arg k]
 | .two o a b=>.two o a b::(ax a++ax b)
 | .pick a b c=>.pick a b c::(ax a++ax b++ax c)
 | .call k=>[.call k]
theorem br:∀ t:Tr,(ax t).length=az t
 | .num _=>rfl
 | .arg _=>rfl
 | .two _ a b=>by simp only [ax,az,List.length_cons,List.length_append,br a,br b]
 | .pick a b c=>by simp only [ax,az,List.length_cons,List.length_append,br a,br b,br c]
 | .call _=>rfl
theorem dE (t:Tr):1≤aH t:=by cases t <;> simp [aH]
theorem rn {o:Str} (h:o="add"\/o="sub"\/o="mul"\/o="less"):KTD.inKeys o TL=false/\KTD.inKeys o TB=true/\jD o TB=2:=by
 rcases h with rfl | rfl | rfl | rfl <;> decide +kernel
theorem ow:KTD.inKeys ("pick":Str) TL=false/\KTD.inKeys ("pick":Str) TB=true/\jD ("pick":Str) TB=3:=by decide +kernel
theorem rl:KTD.inKeys ("num":Str) TL=true/\KTD.inKeys ("num":Str) TB=false/\jD ("num":Str) TL=9999:=by decide +kernel
theorem rj:KTD.inKeys ("arg":Str) TL=true/\KTD.inKeys ("arg":Str) TB=false/\jD ("arg":Str) TL=3:=by decide +kernel
variable {r:List D}
theorem mE {k:Str} (h:KTD.inKeys k TL=true):cM (.tup (.str k::r))=(decide ((r.length:Int)+1=2) && cx (r.getD 0 .non) 0 (jD k TL)):=by
 unfold cM
 dsimp only
 rw [if_pos h]
theorem mD {k:Str} (h:KTD.inKeys k TL=false):cM (.tup (.str k::r))=(KTD.inKeys k TB && decide ((r.length:Int)+1=1+jD k TB)):=by
 unfold cM
 dsimp only
 rw [if_neg (by rw [h];exact Bool.false_ne_true)]
theorem jU {k:Str} (h:KTD.inKeys k TB=true):bQ (.tup (.str k::r))=r:=by
 unfold bQ
 dsimp only
 rw [if_pos h]
theorem gn {k:Str} (h:KTD.inKeys k TB=false):bQ (.tup (.str k::r))=[]:=by
 unfold bQ
 dsimp only
 rw [if_neg (by rw [h];exact Bool.false_ne_true)]
theorem lF:∀ t:Tr,okT t->cM (toD t)=true/\bQ (toD t)=(bq t).map toD
 | .num n,h=>by
  obtain ⟨h1,h2,h3⟩:=rl
  refine ⟨?_,gn h2⟩
  unfold toD
  rw [mE h1,h3]
  show (decide ((1:Int)+1=2) && (decide (0≤n) && decide (n≤9999)))=true
  simp [h.1,h.2]
 | .arg n,h=>by
  obtain ⟨h1,h2,h3⟩:=rj
  refine ⟨?_,gn h2⟩
  unfold toD
  rw [mE h1,h3]
  show (decide ((1:Int)+1=2) && (decide (0≤n) && decide (n≤3)))=true
  simp [h.1,h.2]
 | .two o a b,h=>by
  obtain ⟨h1,h2,h3⟩:=rn h.1
  refine ⟨?_,jU h2⟩
  unfold toD
  rw [mD h1,h2,h3]
  rfl
 | .pick a b c,h=>by
  obtain ⟨h1,h2,h3⟩:=ow
  refine ⟨?_,jU h2⟩
  unfold toD
  rw [mD h1,h2,h3]
  rfl
 | .call _,h=>h.elim
theorem vB:KTD.inKeys ("call":Str) TB=false:=by decide +kernel
theorem AK:∀ t:Tr,okX t->bQ (toD t)=(bq t).map toD
 | .num _,_=>gn rl.2.1
 | .arg _,_=>gn rj.2.1
 | .two _ _ _,h=>jU (rn h.1).2.1
 | .pick _ _ _,_=>jU ow.2.1
 | .call _,_=>gn vB
def jt:Nat->List (D × Int)->Int->Bool
 | 0,_,_=>false
 | _+1,[],_=>true
 | n+1,(d,dp)::st,p=>if (decide (40 < p+1) || (decide (8 < dp) || !cM d))=true then false else jt n (((bQ d).map λx=>(x,dp+1)).reverse++st) (p+1)
def fB (d:D):Bool:=jt 50 [(d,1)] 0
theorem je {n:Nat} {d:D} {dp:Int} {st:List (D × Int)} {p:Int} (h1:p+1≤40) (h2:dp≤8) (h3:cM d=true):jt (n+1) ((d,dp)::st) p=jt n (((bQ d).map λx=>(x,dp+1)).reverse++st) (p+1):=by
 show (if _=true then false else _)=_
 rw [if_neg]
 simp [h3]
 omega
theorem gq:∀ (t:Tr),okT t->∀ (n:Nat) (dp:Int) (st:List (D × Int)) (p:Int),(aH t:Int)+dp≤9->p+(az t:Int)≤40->jt (n+az t) ((toD t,dp)::st) p=jt n st (p+az t)
 | .num m,h,n,dp,st,p,h1,h2=>by
  obtain ⟨e1,e2⟩:=lF (.num m) h
  simp only [aH,az] at h1 h2 ⊢
  rw [je (by omega) (by omega) e1,e2]
  rfl
 | .arg m,h,n,dp,st,p,h1,h2=>by
  obtain ⟨e1,e2⟩:=lF (.arg m) h
  simp only [aH,az] at h1 h2 ⊢
  rw [je (by omega) (by omega) e1,e2]
  rfl
 | .two o a b,h,n,dp,st,p,h1,h2=>by
  obtain ⟨e1,e2⟩:=lF (.two o a b) h
  have d1:=dE a
  simp only [aH,az] at h1 h2 ⊢
  have g1:(aH a:Int)+(dp+1)≤9:=by omega
  have g2:(aH b:Int)+(dp+1)≤9:=by omega
  rw [show n+(az a+az b+1)=(n+az a+az b)+1 by omega,je (by omega) (by omega) e1,e2]
  show jt (n+az a+az b) ((toD b,dp+1)::(toD a,dp+1)::st) (p+1)=_
  rw [gq b h.2.2 (n+az a) (dp+1) ((toD a,dp+1)::st) (p+1) g2 (by omega),gq a h.2.1 n (dp+1) st _ g1 (by omega)]
  congr 1
  omega
 | .pick a b c,h,n,dp,st,p,h1,h2=>by
  obtain ⟨e1,e2⟩:=lF (.pick a b c) h
  have d1:=dE a
  simp only [aH,az] at h1 h2 ⊢
  have g1:(aH a:Int)+(dp+1)≤9:=by omega
  have g2:(aH b:Int)+(dp+1)≤9:=by omega
  have g3:(aH c:Int)+(dp+1)≤9:=by omega
  rw [show n+(az a+az b+az c+1)=(n+az a+az b+az c)+1 by omega,je (by omega) (by omega) e1,e2]
  show jt (n+az a+az b+az c) ((toD c,dp+1)::(toD b,dp+1)::(toD a,dp+1)::st) (p+1)=_
  rw [gq c h.2.2 (n+az a+az b) (dp+1) _ (p+1) g3 (by omega),gq b h.2.1 (n+az a) (dp+1) _ _ g2 (by omega),gq a h.1 n (dp+1) st _ g1 (by omega)]
  congr 1
  omega
 | .call _,h,_,_,_,_,_,_=>h.elim
theorem qw {t:Tr} (h:okT t) (h1:aH t≤8) (h2:az t≤40):fB (toD t)=true:=by
 have q:=gq t h (50 - az t) 1 [] 0 (by omega) (by omega)
 rw [show 50 - az t+az t=50 by omega] at q
 unfold fB
 rw [q]
 obtain ⟨m,e⟩:∃ m,50 - az t=m+1:=⟨50 - az t - 1,by omega⟩
 rw [e]
 rfl
section
variable {P:Program} {w:World} {K:PySem.W.Frag} {mg:Str->Option Value} {base:Heap} {k:Nat}
def mu2 (σ:L2.St) (_:Hp):Nat:=match σ[2]? with
 | some (some (V.int p))=>(50 - p).toNat
 | _=>0
def lB (ds:List D) (d:D):Prop:=∃ x,ds=[x]/\d=.bl (fB x)
abbrev pr (x:D × Int):D:=.tup [x.1,.int x.2]
variable {H:Hp}
theorem nS {K:PySem.W.Frag} {b:D}:∀ {as:List D} {vs:List V},Dats K H (as++[b]) vs->∃ us v,vs=us++[v]/\Dats K H as us/\Dat K H b v
 | [],vs,h=>by
  obtain ⟨v,e,q⟩:=gx h
  exact ⟨[],v,e,Dats.nil,q⟩
 | a::as,vs,h=>by
  obtain ⟨u,r,e,h1,h2⟩:=h.consE
  obtain ⟨us,v,e2,h3,h4⟩:=nS h2
  subst e2 e
  exact ⟨u::us,v,rfl,Dats.cons h1 h3,h4⟩
theorem AB (k:Str):jD k TB≤3:=by
 unfold jD
 split
 ·rename_i i e
  simp only [TB,KTD.datumAt] at e
  repeat' split at e
  all_goals first
   | (cases e;decide)
   | cases e
 ·decide
variable {d:D}
theorem my (h:cM d=true):(bQ d).length≤3:=by
 unfold cM at h
 split at h
 ·rename_i k r
  unfold bQ
  dsimp only
  split
  ·rename_i hb
   split at h
   ·rw [Bool.and_eq_true] at h
    have z:=of_decide_eq_true h.1
    omega
   ·rw [Bool.and_eq_true] at h
    have z:=of_decide_eq_true h.2
    have z2:=AB k
    omega
  ·exact Nat.zero_le _
 ·cases h
theorem mF (h:cM d=true):∃ k r,d=.tup (.str k::r):=by
 unfold cM at h
 split at h
 ·exact ⟨_,_,rfl⟩
 ·cases h
theorem tm (T:Txt P w K mg) (IB:FnOk P w K mg base CX0 k T.GC T.GF ["thing"] (spD K wG)) (DK:FnOk P w K mg base CX0 k T.DM T.DO ["tree"] (spD K eY)):FnOk P w K mg base CX0 (k+1) T.GD T.GG ["thing"] (spD K lB):=by
 refine T.Hr.ok sc_is_tree (λvs H Q E h=>?_) (λcdv A outer s H vs Q E hr h=>?_)
 ·obtain ⟨ds,d,hd,⟨x,rfl,rfl⟩,_⟩:=h;exact hd.length.symm
 have nd:=sc_is_tree.nd
 obtain ⟨ds,d,hd,⟨x,rfl,rfl⟩,post⟩:=h
 obtain ⟨v0,rfl,h0⟩:=gx hd
 refine ⟨_,(aj (bg (i:=1) nd rfl (Or.inl rfl) (bA (ag (aI (ag (pv 0) (ag ak af))) af)))
 (aj (bg (i:=2) nd rfl (Or.inl rfl) ak)
 (aj (rR PassesOwn.never (bo (pv 1) (λ_=>rfl)) (aj (eO (BO PySem.F.plainAttrs_list PySem.F.slot_list_pop PySem.F.type_list_pop BH (pv 1)) (dj rfl (aR (aE (i:=3) nd rfl (Or.inl rfl)) (aR (aE (i:=4) nd rfl (Or.inr rfl)) cj))))
 (aj (tD (i:=2) nd rfl (Or.inl rfl) ak pq)
 (aj (bu (PW.pt (fg (aU mJ (pv 2) (bz (v:=.int 40) rfl T.E5 ⟨_,rfl⟩) (aY _)) (fg (aU mJ (pv 4) (bz (v:=.int 8) rfl T.Ft ⟨_,rfl⟩) (aY _)) (eP (bU (bo (aA IB hr rfl T.IG T.Hq.kp (nJ T) .nil aQ (ag (pv 3) af)) (λ_=>rfl))))))) (av (aG dm)) aP)
 (av (bC (de PySem.F.plainAttrs_list PySem.F.slot_list_extend PySem.F.type_list_extend dI (pv 1) (ag (cE (own:=["within"]) (fr:=[4]) (N':=["within","deep"]) (iD (aA DK hr rfl T.Ek T.DT.kp (dq T) .nil aQ (ag (pv 3) af))) rfl (by show bR ["thing","waiting","parts","part","deep"] (λx=>(ay ir).names.lookup x) _ _ _ _=true;decide +kernel) rfl (λ_ _ _ _ _=>(aE (i:=0) (by show List.Nodup [("within":Str),("deep":Str)];decide +kernel) rfl (Or.inl rfl))) (λ_ _ _ _ _=>bE) (λ_ _ _ _ _=>(aI (ag (pv 0) (ag (bx fe (pv 1) ak) af))))) af))))))))
 (av (aG dm))))),?_⟩
 refine cU (mT (K:=K) (ab (aL (ab (ae h0) (ab ao au))) au) λwl vs1 H1 s1 hw q1=>?_)
 have hw0:H wl=none:=s1.free hw
 have s1':Same H (upd H1 wl (.lst vs1)):=s1.trans (aC hw _)
 refine cU (oG (cV (sx (λσ G=>∃ (st:List (D × Int)) (p:Int) (n:Nat) (xs:List V) (z3 z4:Option V),σ=[some v0,some (.ref wl),some (.int p),z3,z4]/\G wl=some (.lst xs)/\Dats K G (st.reverse.map pr) xs/\Same H G/\jt n st p=fB x/\0≤p/\p≤40/\(n:Int)=50 - p/\(xs.length:Int)≤1+3 * p)
  mu2 ?_ ?_ ?_)))
 ·refine ⟨[(x,1)],0,50,vs1,none,none,rfl,aq,(aC hw _).dats q1,s1',rfl,by decide,by decide,by decide,?_⟩
  rw [← q1.length]
  simp
 ·rintro σ G ⟨st,p,n,xs,z3,z4,rfl,hG,hd,sG,lp,p0,p1,en,lx⟩
  refine ⟨_,rfl,!xs.isEmpty,.inl ⟨xs,SqL.of hG,rfl⟩,?_⟩
  cases st with
  | nil =>
   have ex:=hd.nilE
   subst ex
   rw [if_neg (by simp)]
   obtain ⟨m,rfl⟩:∃ m,n=m+1:=⟨n - 1,by omega⟩
   have lp':fB x=true:=lp.symm
   refine post _ _ sG ?_
   rw [lp']
   exact Dat.blI _
  | cons e st =>
   obtain ⟨y,dp⟩:=e
   rw [List.reverse_cons,List.map_append] at hd
   obtain ⟨us,v,ex,hu,hv⟩:=nS hd
   subst ex
   obtain ⟨a,ws,ev,hq,hws⟩:=hv.tupE
   obtain ⟨vy,vd,ew,hy,hdp⟩:=fu hws
   have edp:=hdp.intE
   subst edp ew ev
   rw [if_pos (by simp)]
   refine ⟨_,rfl,.inl ⟨rfl,_,SqL.of hG⟩,wl,us++[.ref a],.ref a,rfl,rfl,hG,(by simp),?_⟩
   rw [List.dropLast_concat]
   have bt:But wl G (upd G wl (.lst us)):=But.upd (Same.refl G).but
   have g2:cO K G (upd G wl (.lst us)):=bt.grow hG aq
   refine ⟨a,[vy,.int dp],rfl,bt.sqT hG hq,rfl,vy,_,rfl,.int dp,_,rfl,rfl,?_⟩
   have s2:Same H (upd G wl (.lst us)):=λb o hb=>bt b o (aB hb hw0) (sG b o hb)
   have hy2:=Dat.mono g2 _ hy
   have hu2:=Dats.mono g2 _ hu
   refine ⟨_,rfl,p,1,rfl,rfl,?_⟩
   dsimp only
   refine aS (K:=K) (b:=decide (40 < p+1) || (decide (8 < dp) || !cM y)) ?_ (λc H3 s3=>?_) (λc H3 s3=>?_)
   ·exact cX (aO (dD (ae (K:=K) (Dat.intI (p+1))) ao)) λ_=>cX (aO (dD (ae (K:=K) (Dat.intI dp)) ao)) λ_=>bB (aV (ba (ab (ae hy2) au) ⟨y,rfl,rfl⟩))
   ·refine post _ _ (s2.trans s3) ?_
    obtain ⟨m,rfl⟩:∃ m,n=m+1:=⟨n - 1,by omega⟩
    have lp':fB x=false:=by
     rw [← lp]
     show (if (decide (40 < p+1) || (decide (8 < dp) || !cM y))=true then false else _)=false
     rw [if_pos c]
    rw [lp']
    exact Dat.blI _
   ·obtain ⟨m,rfl⟩:∃ m,n=m+1:=⟨n - 1,by omega⟩
    have lp':jt m (((bQ y).map λx=>(x,dp+1)).reverse++st) (p+1)=fB x:=by
     rw [← lp]
     show _=(if (decide (40 < p+1) || (decide (8 < dp) || !cM y))=true then false else _)
     rw [if_neg (by rw [c];exact Bool.false_ne_true)]
    simp only [Bool.or_eq_false_iff,decide_eq_false_iff_not,Bool.not_eq_false'] at c
    obtain ⟨c1,c2,c3⟩:=c
    obtain ⟨kd,r,ey⟩:=mF c3
    have few:=my c3
    have hw3:=s3 _ _ (show upd G wl (.lst us) wl=some (.lst us) from aq)
    refine ⟨_,rfl,.inl ⟨rfl,_,SqL.of hw3⟩,?_⟩
    refine oC (K:=K) (cs:=bQ y) (ba (R:=eY) (ab (ae (s3.dat hy2)) au) ⟨kd,r,by rw [ey],by rw [ey]⟩) (by omega) ((bQ y).map λz=>pr (z,dp+1)) (List.length_map _) rfl (λH4 i z vz d s4 hz hi hvz=>?_) (λl ys H5 hl s5 hl5 hd5=>?_)
    ·rw [List.getElem?_map,hz] at hi
     cases hi
     exact aL (ab (ae hvz) (ab (fS (ae (Dat.intI dp)) ao) au))
    ·have hw5:=s5 _ _ hw3
     have ly:ys.length=(bQ y).length:=by rw [← hd5.length,List.length_map]
     have lu:us.length=st.length:=by rw [← hu.length,List.length_map,List.length_reverse]
     rw [List.length_append,List.length_singleton] at lx
     have b5:But wl H5 (upd H5 wl (.lst (us++ys))):=But.upd (Same.refl H5).but
     have g5:cO K H5 (upd H5 wl (.lst (us++ys))):=b5.grow hw5 aq
     refine ⟨wl,l,us,ys,rfl,rfl,hw5,hl5,bZ (by omega),?_⟩
     refine ⟨⟨_,p+1,m,us++ys,_,_,rfl,aq,?_,?_,lp',by omega,by omega,by omega,?_⟩,?_⟩
     ·rw [List.reverse_append,List.reverse_reverse,List.map_append,List.map_map]
      exact Dats.append (Dats.mono g5 _ ((s3.trans s5).dats hu2)) (Dats.mono g5 _ hd5)
     ·exact λb o hb=>b5 b o (aB hb hw0) (s5 _ _ (s3 _ _ (s2 _ _ hb)))
     ·rw [List.length_append]
      omega
     ·show (50 - (p+1)).toNat < (50 - p).toNat
      omega
 ·intro σ G Q1 Q2 hQ hc
  obtain ⟨v,e,k',tr,q⟩:=hc
  exact ⟨v,e,k',tr,hQ _ _ q⟩
theorem pQ (T:Txt P w K mg) (IC:FnOk P w K mg base CX0 k T.GD T.GG ["thing"] (spD K lB)):FnOk P w K mg base CX0 (k+1) T.Fo T.Fq ["tree"] (spD K λds d=>∃ x,ds=[x]/\fB x=true/\d=.non):=by
 refine T.Gk.ok sc_need_tree (λvs H Q E h=>?_) (λcdv A outer s H vs Q E hr h=>?_)
 ·obtain ⟨ds,d,hd,⟨x,rfl,_,rfl⟩,_⟩:=h;exact hd.length.symm
 have nd:=sc_need_tree.nd
 obtain ⟨ds,d,hd,⟨x,rfl,hx,rfl⟩,post⟩:=h
 obtain ⟨v0,rfl,h0⟩:=gx hd
 refine ⟨_,(av (bu (bU (bo (aA IC hr rfl T.IH T.Hr.kp (nK T) .nil aQ (ag (pv 0) af)) (λ_=>rfl))) (av ik) aP)),?_⟩
 refine iP (b:=!fB x) (bB (aV (ba (ab (ae h0) au) ⟨x,rfl,rfl⟩))) (λc H1 s1=>?_) (λc H1 s1=>?_)
 ·rw [hx] at c
  cases c
 ·exact post _ _ s1 Dat.nonI
def eI (n:Nat) (ds es:List D):Prop:=∃ t,ds=[toD t]/\okX t/\aH t≤n/\az t≤200/\es=(ax t).map toD
theorem dB (t:Tr):ax t=t::(bq t).flatMap ax:=by
 cases t <;> simp [ax,bq]
variable {t x:Tr}
theorem uo (h:okX t) (hx:x ∈ bq t):okX x/\aH x+1≤aH t/\az x+1≤az t:=by
 cases t with
 | num n=>simp [bq] at hx
 | arg n=>simp [bq] at hx
 | call n=>simp [bq] at hx
 | two o a b =>
  simp only [bq,List.mem_cons,List.not_mem_nil,or_false] at hx
  rcases hx with rfl | rfl
  ·exact ⟨h.2.1,by simp only [aH];omega,by simp only [az];omega⟩
  ·exact ⟨h.2.2,by simp only [aH];omega,by simp only [az];omega⟩
 | pick a b c =>
  simp only [bq,List.mem_cons,List.not_mem_nil,or_false] at hx
  rcases hx with rfl | rfl | rfl
  ·exact ⟨h.1,by simp only [aH];omega,by simp only [az];omega⟩
  ·exact ⟨h.2.1,by simp only [aH];omega,by simp only [az];omega⟩
  ·exact ⟨h.2.2,by simp only [aH];omega,by simp only [az];omega⟩
def qy (t:Tr) (i:Nat):List Tr:=t::((bq t).take i).flatMap ax
variable {i:Nat}
theorem oN (h:(bq t)[i]?=some x):qy t (i+1)=qy t i++ax x:=by
 unfold qy
 rw [List.take_add_one,h]
 simp
theorem sk (t:Tr):qy t (bq t).length=ax t:=by
 unfold qy
 rw [List.take_length,dB]
theorem uO (t:Tr) (i:Nat):(qy t i).length≤az t:=by
 rw [← br t,dB]
 unfold qy
 rw [List.length_cons,List.length_cons]
 have h:((bq t).take i).flatMap ax++((bq t).drop i).flatMap ax=(bq t).flatMap ax:=by
  rw [← List.flatMap_append,List.take_append_drop]
 have h2:=congrArg List.length h
 rw [List.length_append] at h2
 omega
theorem uN (t:Tr):∃ kd r,toD t=.tup (.str kd::r):=by
 cases t <;> exact ⟨_,_,rfl⟩
variable {n:Nat}
theorem vE (T:Txt P w K mg) (DK:FnOk P w K mg base CX0 k T.DM T.DO ["tree"] (spD K eY)) (GJ:FnOk P w K mg base CX0 k T.FC T.FJ ["tree"] (gE K (eI n))):FnOk P w K mg base CX0 (k+1) T.FC T.FJ ["tree"] (gE K (eI (n+1))):=by
 refine T.GU.ok sc_walked (λvs H Q E h=>?_) (λcdv A outer s H vs Q E hr h=>?_)
 ·obtain ⟨ds,es,hd,⟨t,rfl,_⟩,_⟩:=h;exact hd.length.symm
 have nd:=sc_walked.nd
 obtain ⟨ds,es,hd,⟨t,rfl,ht,hn,hz,rfl⟩,post⟩:=h
 obtain ⟨v0,rfl,h0⟩:=gx hd
 refine ⟨_,(aj (bg (i:=1) nd rfl (Or.inl rfl) (bA (ag (pv 0) af)))
 (aj (hE PassesOwn.never rfl (iD (aA DK hr rfl T.Ek T.DT.kp (dq T) .nil aQ (ag (pv 0) af))) (aE (i:=2) nd rfl (Or.inl rfl)) (av (bC (de PySem.F.plainAttrs_list PySem.F.slot_list_extend PySem.F.type_list_extend dI (pv 1) (ag (aA GJ hr rfl T.HQ T.GU.kp (jK T) .nil aQ (ag (pv 2) af)) af)))))
 (av (aG (pv 1))))),?_⟩
 refine cU (mT (K:=K) (ab (ae h0) au) λwl vs1 H1 s1 hw q1=>?_)
 have hw0:H wl=none:=s1.free hw
 have s1':Same H (upd H1 wl (.lst vs1)):=s1.trans (aC hw _)
 obtain ⟨kd,r,ek⟩:=uN t
 refine cV (RE.use (ba (R:=eY) (d:=.tup (bQ (toD t))) (ab (ae (K:=K) (k:=0) (s1'.dat h0)) au) ⟨kd,r,by rw [ek],by rw [ek]⟩) λv4 H4 s4 q4=>?_)
 rw [AK t ht] at q4
 obtain ⟨a,vs,ea,hq,hds⟩:=q4.tupE
 subst ea
 have hl:=hds.length
 rw [List.length_map] at hl
 refine ⟨a,rfl,⟨vs,hq⟩,lE (xs:=vs) (λi σ G=>∃ (z:Option V) (ys:List V),σ=[some v0,some (.ref wl),z]/\Same H G/\SqT K G a vs/\Dats K G ((bq t).map toD) vs/\G wl=some (.lst ys)/\Dats K G ((qy t i).map toD) ys) ?_ (λi σ G _ ⟨z,ys,_,_,p,_⟩=>p) ?_ ?_⟩
 ·exact ⟨none,vs1,rfl,s1'.trans s4,hq,hds,s4 _ _ aq,(show Dats K H4 ([t].map toD) vs1 from ((aC hw _).trans s4).dats q1)⟩
 ·rintro i vx σ G hi ⟨z,ys,rfl,sG,hqG,hdG,hwG,hyG⟩
  obtain ⟨dx,ex,hx⟩:=hdG.getV hi
  rw [List.getElem?_map] at ex
  cases hk:(bq t)[i]? with
  | none=>rw [hk] at ex;cases ex
  | some x =>
   rw [hk] at ex
   cases ex
   obtain ⟨k1,k2,k3⟩:=uo ht (List.mem_of_getElem? hk)
   refine ⟨_,rfl,.inl ⟨rfl,_,SqL.of hwG⟩,_,rfl,[toD x],_,(Dats.cons hx Dats.nil:Dats K G [toD x] [vx]),⟨x,rfl,k1,by omega,by omega,rfl⟩,λr us H5 s5 hr5 _ hd5=>?_⟩
   have hw5:=s5 _ _ hwG
   have b6:But wl H5 (upd H5 wl (.lst (ys++us))):=But.upd (Same.refl H5).but
   have g6:cO K H5 (upd H5 wl (.lst (ys++us))):=b6.grow hw5 aq
   have ly:ys.length≤az t:=by rw [← hyG.length,List.length_map];exact uO t i
   have lu:us.length=az x:=by rw [← hd5.length,List.length_map,br]
   refine ⟨wl,r,ys,us,rfl,rfl,hw5,hr5,bZ (by omega),some vx,ys++us,rfl,λb o hb=>b6 b o (aB hb hw0) (s5 _ _ (sG _ _ hb)),g6.tup _ _ (s5.sqT hqG),Dats.mono g6 _ (s5.dats hdG),aq,?_⟩
   rw [oN hk,List.map_append]
   exact Dats.append (Dats.mono g6 _ (s5.dats hyG)) (Dats.mono g6 _ hd5)
 ·rintro σ G ⟨z,ys,rfl,sG,hqG,hdG,hwG,hyG⟩
  refine ⟨_,rfl,post wl ys G sG hwG hw0 ?_⟩
  rw [← hl,sk] at hyG
  exact hyG
theorem wa (t:Tr) (ht:okX t):∃ kd r,toD t=.tup (.str kd::r)/\((bq t=[]/\∃ n,r=[.int n])\/r=(bq t).map toD):=by
 cases t with
 | num n=>exact ⟨_,_,rfl,.inl ⟨rfl,n,rfl⟩⟩
 | arg n=>exact ⟨_,_,rfl,.inl ⟨rfl,n,rfl⟩⟩
 | call n=>exact ⟨_,_,rfl,.inl ⟨rfl,n,rfl⟩⟩
 | two o a b=>exact ⟨_,_,rfl,.inr rfl⟩
 | pick a b c=>exact ⟨_,_,rfl,.inr rfl⟩
theorem nq (T:Txt P w K mg) (Hu:FnOk P w K mg base CX0 k T.Er T.Eu ["_law_tree_here"] (gE K (eI n))):FnOk P w K mg base CX0 (k+1) T.Er T.Eu ["_law_tree_here"] (gE K (eI (n+1))):=by
 refine T.FN.ok sc__law_parts (λvs H Q E h=>?_) (λcdv A outer s H vs Q E hr h=>?_)
 ·obtain ⟨ds,es,hd,⟨t,rfl,_⟩,_⟩:=h;exact hd.length.symm
 have nd:=sc__law_parts.nd
 obtain ⟨ds,es,hd,⟨t,rfl,ht,hn,hz,rfl⟩,post⟩:=h
 obtain ⟨v0,rfl,h0⟩:=gx hd
 refine ⟨_,(aj (bg (i:=1) nd rfl (Or.inl rfl) (bA (ag (pv 0) af)))
 (aj (hE PassesOwn.never rfl (iD (ij mV (pv 0) (iE ak) jY)) (aE (i:=2) nd rfl (Or.inl rfl)) (av (bu (bo (aK (dv jS) rfl T.DJ bI (bO (pv 2) (bO (ff (v:=.ty "tuple") rfl T.Fj dt rfl) af))) (λ_=>rfl)) (av (bg (i:=1) nd rfl (Or.inl rfl) (bx BK (pv 1) (aA Hu hr rfl T.HA T.FN.kp (jJ T) .nil aQ (ag (pv 2) af))))) aP)))
 (av (aG (pv 1))))),?_⟩
 refine cU (mT (K:=K) (ab (ae h0) au) λwl vs1 H1 s1 hw q1=>?_)
 have hw0:H wl=none:=s1.free hw
 have s1':Same H (upd H1 wl (.lst vs1)):=s1.trans (aC hw _)
 obtain ⟨kd,r,ek,hr2⟩:=wa t ht
 have h0':=s1'.dat h0
 rw [ek] at h0'
 refine cV (RE.use (jf (ae (K:=K) (k:=0) h0')) λv4 H4 s4 q4=>?_)
 obtain ⟨a,vs,ea,hq,hds⟩:=q4.tupE
 subst ea
 have hl:=hds.length
 have d1:Dats K H4 ([t].map toD) vs1:=((aC hw _).trans s4).dats q1
 rcases hr2 with ⟨hk0,m,rfl⟩ | rfl
 ·obtain ⟨u,eu,hu⟩:=gx hds
  have hu':=hu.intE
  subst hu' eu
  refine ⟨a,rfl,⟨_,hq⟩,lE (xs:=[.int m]) (λi σ G=>∃ (z:Option V),σ=[some v0,some (.ref wl),z]/\Same H4 G) ?_ (λi σ G _ ⟨z,_,p⟩=>p.sqT hq) ?_ ?_⟩
  ·exact ⟨none,rfl,Same.refl _⟩
  ·rintro i vx σ G hi ⟨z,rfl,sG⟩
   have ex:vx=.int m:=by
    match i,hi with
    | 0,hi=>simpa using hi.symm
    | i+1,hi=>simp at hi
   subst ex
   refine j0 ?_
   dsimp only
   refine iP (b:=false) ?_ (λc=>nomatch c) (λ_ H5 s5=>⟨_,rfl,sG.trans s5⟩)
   exact aV (RE.as (bN (ae (K:=K) (k:=2) (Dat.intI m))) rfl)
  ·rintro σ G ⟨z,rfl,sG⟩
   refine ⟨_,rfl,post wl vs1 G (s1'.trans (s4.trans sG)) (sG _ _ (s4 _ _ aq)) hw0 ?_⟩
   have e:ax t=[t]:=by rw [dB,hk0];rfl
   rw [e]
   exact sG.dats d1
 ·rw [List.length_map] at hl
  refine ⟨a,rfl,⟨vs,hq⟩,lE (xs:=vs) (λi σ G=>∃ (z:Option V) (l:Addr) (ys:List V),σ=[some v0,some (.ref l),z]/\Same H4 G/\G l=some (.lst ys)/\H l=none/\Dats K G ((qy t i).map toD) ys) ?_ (λi σ G _ ⟨z,l,ys,_,p,_⟩=>p.sqT hq) ?_ ?_⟩
  ·exact ⟨none,wl,vs1,rfl,Same.refl _,s4 _ _ aq,hw0,d1⟩
  ·rintro i vx σ G hi ⟨z,l,ys,rfl,sG,hlG,hl0,hyG⟩
   obtain ⟨dx,ex,hx⟩:=hds.getV hi
   rw [List.getElem?_map] at ex
   cases hk:(bq t)[i]? with
   | none=>rw [hk] at ex;cases ex
   | some x =>
    rw [hk] at ex
    cases ex
    obtain ⟨k1,k2,k3⟩:=uo ht (List.mem_of_getElem? hk)
    obtain ⟨kx,rx,ekx⟩:=uN x
    have hxG:=sG.dat hx
    refine j0 ?_
    dsimp only
    refine iP (b:=true) ?_ (λ_ H5 s5=>?_) (λc=>nomatch c)
    ·exact aV (RE.as (bN (ae (K:=K) (k:=2) hxG)) (by rw [ekx];rfl))
    ·refine ⟨_,rfl,_,rfl,[toD x],_,(Dats.cons (s5.dat hxG) Dats.nil:Dats K H5 [toD x] [vx]),⟨x,rfl,k1,by omega,by omega,rfl⟩,λr us H6 s6 hr6 _ hd6=>?_⟩
     have ly:ys.length≤az t:=by rw [← hyG.length,List.length_map];exact uO t i
     have lu:us.length=az x:=by rw [← hd6.length,List.length_map,br]
     refine ⟨l,r,ys,us,rfl,rfl,s6 _ _ (s5 _ _ hlG),hr6,bZ (by omega),λp hp=>?_⟩
     have s7:=(s5.trans s6).trans (aC hp (.lst (ys++us)))
     refine ⟨some vx,p,ys++us,rfl,sG.trans s7,aq,?_,?_⟩
     ·exact (s1'.trans (s4.trans (sG.trans (s5.trans s6)))).free hp
     ·rw [oN hk,List.map_append]
      exact Dats.append (s7.dats hyG) ((aC hp _).dats hd6)
  ·rintro σ G ⟨z,l,ys,rfl,sG,hlG,hl0,hyG⟩
   refine ⟨_,rfl,post l ys G (s1'.trans (s4.trans sG)) hlG hl0 ?_⟩
   rw [← hl,sk] at hyG
   exact hyG
def kG (K:PySem.W.Frag) (n:Nat):Sp:=λvs H Q _=>∃ (a t:Addr) (ns:List Int) (room p q c:Int),vs=[.ref a,.ref t,.int room]/\Scr K H a ns/\H t=some (.lst [.int p,.int q,.int c])/\0≤p/\0≤c/\c≤60/\room≤n/\1≤n /\
 ∀ (v:V) (H':Hp) (X:Tr) (p' q' c':Int),But t H H'->H' t=some (.lst [.int p',.int q',.int c'])->0≤p'->0≤c'->c'≤c->okT X->((aH X:Int)=1\/(aH X:Int)≤room)->(az X:Int)≤1+3 * (c - c')->Dat K H' (toD X) v->Q v H'
def si (Ts:List Tr):Nat:=(Ts.map az).sum
theorem vZ (Ts:List Tr) (x:Tr):si (Ts++[x])=si Ts+az x:=by simp [si]
def AL:Tr->Prop
 | .num n=>0≤n/\n≤9999
 | .arg k=>0≤k/\k≤3
 | _=>False
theorem zL (h:AL x):okT x/\aH x=1/\az x=1:=by
 cases x with
 | num n=>exact ⟨h,rfl,rfl⟩
 | arg n=>exact ⟨h,rfl,rfl⟩
 | two o a b=>exact h.elim
 | pick a b c=>exact h.elim
 | call k=>exact h.elim
variable {nm:Str}
theorem yL {Ts:List Tr} {room:Int} (hr:2≤room) (ok:∀ x ∈ Ts,okT x/\((aH x:Int)=1\/(aH x:Int)≤room - 1)) (h:(nm="pick"/\Ts.length=3)\/((nm="add"\/nm="sub"\/nm="mul"\/nm="less")/\Ts.length=2)) :
  ∃ X:Tr,toD X=.tup (.str nm::Ts.map toD)/\okT X/\(aH X:Int)≤room/\az X=1+si Ts:=by
 rcases h with ⟨rfl,hl⟩ | ⟨hn,hl⟩
 ·match Ts,hl with
  | [a,b,c],_ =>
   have h1:=ok a (by simp)
   have h2:=ok b (by simp)
   have h3:=ok c (by simp)
   refine ⟨.pick a b c,rfl,⟨h1.1,h2.1,h3.1⟩,?_,?_⟩
   ·simp only [aH];omega
   ·simp [az,si];omega
 ·match Ts,hl with
  | [a,b],_ =>
   have h1:=ok a (by simp)
   have h2:=ok b (by simp)
   refine ⟨.two nm a b,rfl,⟨hn,h1.1,h2.1⟩,?_,?_⟩
   ·simp only [aH];omega
   ·simp [az,si];omega
theorem pI (T:Txt P w K mg) (EH:FnOk P w K mg base CX0 k T.EL T.ET ["_law_script","_law_town","_law_many"] (qm K)) (Fl:FnOk P w K mg base CX0 k T.EM T.EU ["_law_script","_law_town","_law_some"] (qr K)) (Fm:FnOk P w K mg base CX0 k T.El T.Em ["_law_script","_law_town","_law_room"] (kG K n)):FnOk P w K mg base CX0 (k+1) T.El T.Em ["_law_script","_law_town","_law_room"] (kG K (n+1)):=by
 refine T.EZ.ok sc__law_tree (λvs H Q E h=>?_) (λcdv A outer s H vs Q E hr h=>?_)
 ·obtain ⟨a,t,ns,room,p,q,c,rfl,_⟩:=h;rfl
 have nd:=sc__law_tree.nd
 obtain ⟨a,t,ns,room,p,q,c,rfl,hS,hT,hp,hc,hc2,hroom,_,post⟩:=h
 refine ⟨_,(aj (bg (i:=3) nd rfl (Or.inl rfl) (aI (ag aD (ag (aA EH hr rfl T.Fv T.Eo.kp (fG T) .nil aQ (ag (pv 0) (ag (pv 1) (ag ak af)))) af))))
 (aj (bu (aU cZ (aA EH hr rfl T.Fv T.Eo.kp (fG T) .nil aQ (ag (pv 0) (ag (pv 1) (ag ak af)))) ak (aY _)) (av (bg (i:=3) nd rfl (Or.inl rfl) (aI (ag aD (ag (aA Fl hr rfl T.Gm T.EY.kp (gH T) .nil aQ (ag (pv 0) (ag (pv 1) (ag (bA (ag ak (ag ak (ag ak (ag ak (ag ak (ag ak (ag ak (ag ak af))))))))) af)))) af))))) aP)
 (aj (bu (PW.pt (fg (aU oy (pv 2) ak (aY _)) (fg (aU oy (aT bT (pv 1) ak (λ_ _=>rfl)) ak (aY _)) (eP (aU cZ (aA EH hr rfl T.Fv T.Eo.kp (fG T) .nil aQ (ag (pv 0) (ag (pv 1) (ag ak af)))) ak (aY _)))))) (av (aG (pv 3))) aP)
 (aj (uA (pv 1) ak qV ak By j6)
 (aj (bg (i:=4) nd rfl (Or.inl rfl) (aA Fl hr rfl T.Gm T.EY.kp (gH T) .nil aQ (ag (pv 0) (ag (pv 1) (ag (bA (ag aD (ag aD (ag aD (ag aD (ag aD (ag aD af))))))) af)))))
 (aj (bg (i:=5) nd rfl (Or.inl rfl) (rO (aU cZ (pv 4) aD (aY _)) ak ak))
 (av (aG (bx uy (aI (ag (pv 4) af)) (di cJ rfl T.Fj dt (ag (cE (own:=["_law_k"]) (fr:=[0,1,2]) (N':=["_law_k","_law_script","_law_town","_law_room"]) (oA rfl T.IU (ag (pv 5) af)) rfl (by show bR ["_law_script","_law_town","_law_room","_law_leaf","_law_name","_law_many"] (λx=>(ay fL).names.lookup x) _ _ _ _=true;decide +kernel) rfl (λ_ _ _ _ _=>(aE (i:=0) (by show List.Nodup [("_law_k":Str),("_law_script":Str),("_law_town":Str),("_law_room":Str)];decide +kernel) rfl (Or.inl rfl))) (λ_ _ _ _ _=>bE) (λ_ _ _ _ _=>(aA Fm hr rfl T.Gn T.EZ.kp (gI T) .nil aQ (ag (pv 1) (ag (pv 2) (ag (bx pU (pv 3) ak) af)))))) af))))))))))),?_⟩
 refine cU ⟨_,rfl,_,rfl,a,t,ns,4,p,q,[.int c],rfl,hS,hT,hp,by decide,by decide,λr1 H1 p1 q1 b1 t1 g1 r1a r1b=>⟨bZ (by simp),λl1 hl1=>?_⟩⟩
 have ne1:l1≠t:=λz=>by rw [z,t1] at hl1;cases hl1
 have b2:=b1.trans (aC hl1 (.tup [.str "arg",.int r1])).but
 have t2:upd H1 l1 (.tup [.str "arg",.int r1]) t=some (.lst [.int p1,.int q1,.int c]):=by rw [aJ (Ne.symm ne1)];exact t1
 have d2:Dat K (upd H1 l1 (.tup [.str "arg",.int r1])) (toD (.arg r1)) (.ref l1):=Dat.tupI (SqT.of aq) (Dats.cons (Dat.strI _) (Dats.cons (Dat.intI _) Dats.nil))
 refine qg (λσ G=>∃ (vL:V) (L:Tr) (p q:Int),σ=[some (.ref a),some (.ref t),some (.int room),some vL,none,none]/\But t H G/\G t=some (.lst [.int p,.int q,.int c])/\0≤p/\AL L/\Dat K G (toD L) vL) ?_ (λhrest=>?_)
 case refine_2 =>
  refine ⟨_,rfl,_,rfl,a,t,ns,2,p1,q1,[.int c],rfl,hS.but b2 hT,t2,g1,by decide,by decide,λr3 H3 p3 q3 b3 t3 g3 r3a r3b=>?_⟩
  refine ⟨rfl,_,rfl,?_⟩
  refine nj (λcc=>?_) (λcc=>?_)
  ·refine ⟨_,rfl,_,rfl,bZ (by decide),λl hl=>?_⟩
   have nel:l≠t:=λz=>by rw [z,t3] at hl;cases hl
   have b4:=(b2.trans b3).trans (aC hl (.lst [.int 0,.int 1,.int 2,.int 5,.int 99,.int 100,.int 1234,.int 9999])).but
   refine ⟨a,t,l,ns,_,p3,q3,[.int c],rfl,hS.but b4 hT,SqL.of aq,nel,by decide,by decide,(by rw [aJ (Ne.symm nel)];exact t3),g3,λi x H5 p5 q5 b5 t5 g5 hx=>⟨bZ (by simp),λl6 hl6=>?_⟩⟩
   have ne6:l6≠t:=λz=>by rw [z,t5] at hl6;cases hl6
   obtain ⟨m,em,hm⟩:∃ m:Int,x=.int m/\0≤m/\m≤9999:=by
    have:=List.mem_of_getElem? hx
    simp only [List.mem_cons,List.not_mem_nil,or_false] at this
    rcases this with e | e | e | e | e | e | e | e <;> exact ⟨_,e,by decide,by decide⟩
   subst em
   exact hrest _ _ ⟨.ref l6,.num m,p5,q5,rfl,(b4.trans b5).trans (aC hl6 _).but,(by rw [aJ (Ne.symm ne6)];exact t5),g5,hm,Dat.tupI (SqT.of aq) (Dats.cons (Dat.strI _) (Dats.cons (Dat.intI _) Dats.nil))⟩
  ·exact hrest _ _ ⟨.ref l1,.arg r1,p3,q3,rfl,b2.trans b3,t3,g3,⟨r1a,by omega⟩,Dat.mono (b3.grow t2 t3) _ d2⟩
 rintro σ G ⟨vL,L,p,q,rfl,bG,tG,hp,hL,dL⟩
 obtain ⟨okL,dpL,szL⟩:=zL hL
 have back:∀ (G':Hp) (p' q':Int),But t G G'->G' t=some (.lst [.int p',.int q',.int c])->0≤p'->Q vL G':=λG' p' q' b' t' g' =>
  post vL G' L p' q' c (bG.trans b') t' g' hc (Int.le_refl _) okL (.inl (by omega)) (by omega) (Dat.mono (b'.grow tG t') _ dL)
 refine cV ⟨_,rfl,room,2,rfl,rfl,_,rfl,?_⟩
 refine nj (λc1=>?_) (λc1=>?_)
 ·exact ⟨_,rfl,back G p q (Same.refl G).but tG hp⟩
 have c1':¬ room < 2:=of_decide_eq_false (Bool.eq_false_iff.mpr c1)
 refine ⟨_,rfl,t,_,2,_,rfl,rfl,SqL.of tG,at2,c,1,rfl,rfl,_,rfl,?_⟩
 refine nj (λc2=>?_) (λc2=>?_)
 ·exact ⟨_,rfl,back G p q (Same.refl G).but tG hp⟩
 have c2':¬ c < 1:=of_decide_eq_false (Bool.eq_false_iff.mpr c2)
 refine ⟨_,rfl,_,rfl,a,t,ns,4,p,q,[.int c],rfl,hS.but bG hT,tG,hp,by decide,by decide,λr3 H3 p3 q3 b3 t3 g3 r3a r3b=>?_⟩
 refine ⟨rfl,_,rfl,?_⟩
 refine nj (λc3=>?_) (λc3=>?_)
 ·exact ⟨_,rfl,back H3 p3 q3 b3 t3 g3⟩
 refine ⟨_,rfl,t,_,2,_,rfl,rfl,(by decide),SqL.of t3,rfl,c,1,rfl,rfl,t,_,2,2,rfl,rfl,t3,ix2,?_⟩
 have b4:But t H (upd H3 t (.lst [.int p3,.int q3,.int (c - 1)])):=But.upd (bG.trans b3)
 refine ⟨_,rfl,_,rfl,bZ (by decide),λl hl=>?_⟩
 have nel:l≠t:=λz=>by rw [z,aq] at hl;cases hl
 have b5:=b4.trans (aC hl (.lst [.str "add",.str "add",.str "sub",.str "mul",.str "less",.str "pick"])).but
 refine ⟨a,t,l,ns,_,p3,q3,[.int (c - 1)],rfl,hS.but b5 hT,SqL.of aq,nel,by decide,by decide,(by rw [aJ (Ne.symm nel)];exact aq),g3,λi x H5 p5 q5 b6 t5 g5 hx=>?_⟩
 have bH:=b5.trans b6
 obtain ⟨nm,en,hnm⟩:∃ nm:Str,x=.str nm/\(nm="pick"\/(nm="add"\/nm="sub"\/nm="mul"\/nm="less")):=by
  have:=List.mem_of_getElem? hx
  simp only [List.mem_cons,List.not_mem_nil,or_false] at this
  rcases this with e | e | e | e | e | e
  ·exact ⟨_,e,.inr (.inl rfl)⟩
  ·exact ⟨_,e,.inr (.inl rfl)⟩
  ·exact ⟨_,e,.inr (.inr (.inl rfl))⟩
  ·exact ⟨_,e,.inr (.inr (.inr (.inl rfl)))⟩
  ·exact ⟨_,e,.inr (.inr (.inr (.inr rfl)))⟩
  ·exact ⟨_,e,.inl rfl⟩
 subst en
 obtain ⟨many,hmany,hif⟩:∃ many:Nat,((nm="pick"/\many=3)\/((nm="add"\/nm="sub"\/nm="mul"\/nm="less")/\many=2))/\∀ (A B:Prop),(A->many=3->False)->True:=by
  rcases hnm with h | h
  ·exact ⟨3,.inl ⟨h,rfl⟩,λ_ _ _=>trivial⟩
  ·exact ⟨2,.inr ⟨h,rfl⟩,λ_ _ _=>trivial⟩
 clear hif
 dsimp only
 refine qg (λσ G=>σ=[some (.ref a),some (.ref t),some (.int room),some vL,some (.str nm),some (.int many)]/\G=H5) ?_ (λhrest=>?_)
 case refine_2 =>
  refine ⟨_,rfl,rfl,_,rfl,?_⟩
  refine nj (λcc=>?_) (λcc=>?_)
  ·have e:V.str nm=V.str "pick":=of_decide_eq_true cc
   injection e with e
   rcases hmany with ⟨_,rfl⟩ | ⟨h,_⟩
   ·exact hrest _ _ ⟨rfl,rfl⟩
   ·subst e
    exact absurd h (by decide +kernel)
  ·have e:¬ V.str nm=V.str "pick":=of_decide_eq_false (Bool.eq_false_iff.mpr cc)
   rcases hmany with ⟨h,_⟩ | ⟨_,rfl⟩
   ·exact absurd (by rw [h]) e
   ·exact hrest _ _ ⟨rfl,rfl⟩
 rintro σ G ⟨rfl,rfl⟩
 have many_le:2≤many/\many≤3:=by rcases hmany with ⟨_,h⟩ | ⟨_,h⟩ <;> omega
 refine ⟨_,rfl,bZ (by simp),λe he=>?_⟩
 have nee:e≠t:=λz=>by rw [z,t5] at he;cases he
 have t6:upd G e (.tup [.str nm]) t=some (.lst [.int p5,.int q5,.int (c - 1)]):=by rw [aJ (Ne.symm nee)];exact t5
 have b7:=bH.trans (aC he (.tup [.str nm])).but
 dsimp only
 refine gL ?_
 refine mP many (λR hR=>⟨_,rfl,hR⟩) (by omega) rfl
  (λl i G'=>∃ (Ts:List Tr) (ys:List V) (p' q' c':Int),But t (upd G e (.tup [.str nm])) G'/\G' t=some (.lst [.int p',.int q',.int c'])/\0≤p'/\0≤c'/\c'≤c - 1/\G' l=some (.lst ys)/\Ts.length=i/\(∀ x ∈ Ts,okT x/\((aH x:Int)=1\/(aH x:Int)≤room - 1))/\(si Ts:Int)≤i+3 * (c - 1 - c')/\Dats K G' (Ts.map toD) ys) (λl hl=>?_) (λl i G' hl hi pn=>?_) (λl G' hl pn=>?_)
 ·have nl:l≠t:=λz=>by rw [z,t6] at hl;cases hl
  exact ⟨[],[],p5,q5,c - 1,(aC hl _).but,(by rw [aJ (Ne.symm nl)];exact t6),g5,by omega,Int.le_refl _,aq,rfl,(λx hx=>absurd hx (by simp)),by simp [si],Dats.nil⟩
 ·obtain ⟨Ts,ys,p',q',c',bt,tt,gp,gc,gc2,hl',lT,okTs,sm,dT⟩:=pn
  have nl:l≠t:=λz=>by rw [z,t6] at hl;cases hl
  have ly:ys.length=i:=by rw [← dT.length,List.length_map,lT]
  refine ⟨_,rfl,_,rfl,_,rfl,room,1,rfl,rfl,a,t,ns,room - 1,p',q',c',rfl,hS.but (b7.trans bt) hT,tt,gp,gc,by omega,by omega,by omega,λv G2 X p2 q2 c2 bb t2 g2 h2 h2' okX dpX szX dX=>?_⟩
  have hl2:=bb l _ nl hl'
  have g1:cO K G' G2:=bb.grow tt t2
  have g3:cO K G2 (upd G2 l (.lst (ys++[v]))):=But.grow (t:=l) (But.upd (Same.refl G2).but) hl2 aq
  refine ⟨ys,hl2,ck (by omega),⟨_,rfl⟩,Ts++[X],ys++[v],p2,q2,c2,?_,?_,g2,h2,by omega,aq,by rw [List.length_append,lT];rfl,?_,?_,?_⟩
  ·intro b o hb hbo
   have nb:b≠l:=aB hbo hl
   rw [aJ nb]
   exact bb b o hb (bt b o hb hbo)
  ·rw [aJ (Ne.symm nl)];exact t2
  ·intro x hx
   rcases List.mem_append.mp hx with hx | hx
   ·exact okTs x hx
   ·rw [List.mem_singleton.mp hx]
    exact ⟨okX,dpX⟩
  ·rw [vZ]
   omega
  ·rw [List.map_append]
   exact Dats.append (Dats.mono g3 _ (Dats.mono g1 _ dT)) (Dats.cons (Dat.mono g3 _ dX) Dats.nil)
 ·obtain ⟨Ts,ys,p',q',c',bt,tt,gp,gc,gc2,hl',lT,okTs,sm,dT⟩:=pn
  have ly:ys.length=many:=by rw [← dT.length,List.length_map,lT]
  refine ⟨l,ys,rfl,.inl ⟨SqL.of hl',λu hu=>?_⟩⟩
  have nu:u≠t:=λz=>by rw [z,tt] at hu;cases hu
  have se:SqT K (upd G' u (.tup ys)) e [.str nm]:=(aC hu _).sqT (bt.sqT t6 (SqT.of aq))
  refine ⟨e,u,_,ys,rfl,rfl,se,SqT.of aq,(by simp),bZ (by rw [List.length_singleton];omega),λz=>?_,λ_ x hx=>?_⟩
  ·rw [z] at ly
   simp at ly
   omega
  ·obtain ⟨X,eX,okX,dpX,szX⟩:=yL (nm:=nm) (Ts:=Ts) (room:=room) (by omega) okTs (hmany.elim (λh=>.inl ⟨h.1,by omega⟩) (λh=>.inr ⟨h.1,by omega⟩))
   have nx:x≠t:=λz=>by rw [z,aJ (Ne.symm nu),tt] at hx;cases hx
   have s8:=(aC hu (.tup ys)).trans (aC hx (.tup ([.str nm]++ys)))
   refine post _ _ X p' q' c' ((b7.trans bt).trans s8.but) (s8 _ _ tt) gp gc (by omega) okX (.inr dpX) (by omega) ?_
   rw [eX]
   exact Dat.tupI (SqT.of aq) (Dats.cons (Dat.strI _) (s8.dats dT))
theorem gX {b:Bool} (h:(!b)=true):b=false:=by cases b with | true=>cases h | false=>rfl
theorem eK {b:Bool} (h:(!b)=false):b=true:=by cases b with | true=>rfl | false=>cases h
def sgn (c:Nat):Bool:=(!decide (([c]:List Nat) < ("a":Str).cps.toList)) && !decide (("z":Str).cps.toList < ([c]:List Nat))
def i5:D->Bool
 | .str x=>(decide (1≤(x.length:Int)) && decide ((x.length:Int)≤8)) && (x.cps.toList.map sgn).all id
 | _=>false
def AO:D->Prop
 | .str x=>x.length≤sizeLine
 | _=>True
def wF (ds:List D) (d:D):Prop:=∃ x,ds=[x]/\AO x/\d=.bl (i5 x)
theorem sS {x:D} (h:∀ y,x≠.str y):lh x "str"=false:=by
 cases x with
 | str y=>exact absurd rfl (h y)
 | _=>rfl
theorem xT {x:D} (h:∀ y,x≠.str y):i5 x=false:=by
 cases x with
 | str y=>exact absurd rfl (h y)
 | _=>rfl
theorem sZ (T:Txt P w K mg)  : FnOk P w K mg base CX0 (k+1) T.Hi T.Hm ["thing"] (spD K wF):=by
 refine T.HW.ok sc_is_name (λvs H Q E h=>?_) (λcdv A outer s H vs Q E hr h=>?_)
 ·obtain ⟨ds,d,hd,⟨x,rfl,_⟩,_⟩:=h;exact hd.length.symm
 have nd:=sc_is_name.nd
 obtain ⟨ds,d,hd,⟨x,rfl,hx,rfl⟩,post⟩:=h
 obtain ⟨v0,rfl,h0⟩:=gx hd
 refine ⟨_,(aj (bu (PW.pt (fg (bU (bo (aK (dv xE) rfl T.DJ bI (bO (pv 0) (bO (ff (v:=.ty "str") rfl T.J0 wR rfl) af))) (λ_=>rfl))) (eP (bU (mN i6 i6 ak (aK oZ rfl T.DW bF (ag (pv 0) af)) (bz (v:=.int 8) rfl T.Ej ⟨_,rfl⟩)))))) (av (aG dm)) aP)
 (av (aG (aK (gw rfl) rfl T.IP jw (ag (cE (own:=["sign"]) (fr:=[]) (N':=["sign"]) (BV (pv 0)) rfl (by show bR ["thing"] (λx=>(ay ip).names.lookup x) _ _ _ _=true;decide +kernel) rfl (λ_ _ _ _ _=>(aE (i:=0) (by show List.Nodup [("sign":Str)];decide +kernel) rfl (Or.inl rfl))) (λ_ _ _ _ _=>bE) (λ_ _ _ _ _=>(rN yb yb aD (pv 0) aD))) af))))),?_⟩
 by_cases hs:∃ y,x=.str y
 ·obtain ⟨y,rfl⟩:=hs
  have hx:y.length≤sizeLine:=hx
  refine aS (K:=K) (b:=!(decide (1≤(y.length:Int)) && decide ((y.length:Int)≤8))) ?_ (λc H1 s1=>?_) (λc H1 s1=>?_)
  ·exact RT.as (cX (bB (aV (bN (ae h0)))) λ_=>bB (aO (jZ (p:=λi j=>decide (i≤j)) (r:=λi j=>decide (i≤j)) ao (Ao (ae h0) hx) λ_=>ao))) rfl
  ·refine aX (K:=K) (d:=.bl (i5 (.str y))) ?_ λv H' s q=>post v H' (s1.trans s) q
   have e:i5 (.str y)=false:=by
    show (_ && _)=false
    have c':=gX c
    rw [c',Bool.false_and]
   rw [e]
   exact dR
  ·have c':=eK c
   have hy:y.cps.size≤8:=by
    rw [Bool.and_eq_true] at c'
    have:=of_decide_eq_true c'.2
    have e:y.length=y.cps.size:=rfl
    omega
   refine aX (K:=K) (d:=.bl (i5 (.str y))) ?_ λv H' s q=>post v H' (s1.trans s) q
   have e:i5 (.str y)=(y.cps.toList.map sgn).all id:=by
    show (_ && _)=_
    rw [c',Bool.true_and]
   rw [e]
   refine iF (bs:=y.cps.toList.map sgn) (B2 (ae (s1.dat h0)) (by omega) _ (by simp) rfl (λH2 i c d s2 hc hd2=>?_))
   rw [List.getElem?_map,List.getElem?_map] at hd2
   have hc':y.cps.toList[i]?=some c:=by simpa using hc
   rw [hc'] at hd2
   cases hd2
   refine RE.as (vN (p:=λi j=>!decide (j.cps.toList < i.cps.toList)) (q':=λi j=>!decide (j.cps.toList < i.cps.toList)) aF (ae (Dat.strI _)) λ_=>aF) rfl
 ·have hs':∀ y,x≠.str y:=λy e=>hs ⟨y,e⟩
  refine aS (K:=K) (b:=true) ?_ (λc H1 s1=>?_) (λc=>nomatch c)
  ·exact RT.as (cX (b:=true) (c:=true) (RT.as (bB (aV (bN (ae h0)))) (by rw [sS hs'];rfl)) λc=>nomatch c) rfl
  ·refine aX (K:=K) (d:=.bl (i5 x)) ?_ λv H' s q=>post v H' (s1.trans s) q
   rw [xT hs']
   exact dR
theorem Bh:∀ p ∈ TM,∃ i,p.2=.flat (.int i):=by
 intro p hp
 simp only [TM,List.mem_cons,List.not_mem_nil,or_false] at hp
 rcases hp with rfl | rfl | rfl <;> exact ⟨_,rfl⟩
def dQ:D->Bool
 | .tup (.str k::r)=>decide ((r.length:Int)+1=mZ k TM 0) && (cx (r.getD 0 .non) 0 1 && (!decide (k="gap") || cx (r.getD 1 .non) 0 9999))
 | _=>false
theorem iY (k:Str) (r:List D):dQ (.tup (.str k::r))=(decide ((r.length:Int)+1=mZ k TM 0) && (cx (r.getD 0 .non) 0 1 && (!decide (k="gap") || cx (r.getD 1 .non) 0 9999))):=rfl
def AF (ds:List D) (d:D):Prop:=∃ x,ds=[x]/\d=.bl (dQ x)
theorem rd (k:Str):mZ k TM 0=0\/mZ k TM 0=2\/(k="gap"/\mZ k TM 0=3):=by
 unfold mZ
 by_cases h1:k="hole"
 ·subst h1;exact .inr (.inl rfl)
 by_cases h2:k="gap"
 ·subst h2;exact .inr (.inr ⟨rfl,rfl⟩)
 by_cases h3:k="slot"
 ·subst h3;exact .inr (.inl rfl)
 have e:KTD.datumAt k TM=none:=by simp [TM,KTD.datumAt,h1,h2,h3]
 rw [e]
 exact .inl rfl
theorem Cf {x:D} (h:dn x=false):dQ x=false:=by
 unfold dn at h
 unfold dQ
 split at h
 ·cases h
 ·rename_i hn
  first
   | rfl
   | (split
      ·rename_i k r;exact absurd rfl (hn k r)
      ·rfl)
theorem sY (T:Txt P w K mg) (F7:FnOk P w K mg base CX0 k T.EO T.EW ["thing"] (spD K lC)) (Ed:FnOk P w K mg base CX0 k T.Es T.Ew ["thing","low","high"] (spD K fN)):FnOk P w K mg base CX0 (k+1) T.Hh T.Hl ["thing"] (spD K AF):=by
 refine T.HV.ok sc_is_mark (λvs H Q E h=>?_) (λcdv A outer s H vs Q E hr h=>?_)
 ·obtain ⟨ds,d,hd,⟨x,rfl,rfl⟩,_⟩:=h;exact hd.length.symm
 have nd:=sc_is_mark.nd
 obtain ⟨ds,d,hd,⟨x,rfl,rfl⟩,post⟩:=h
 obtain ⟨v0,rfl,h0⟩:=gx hd
 refine ⟨_,(aj (bu (PW.pt (fg (bU (bo (aA F7 hr rfl T.He T.Fs.kp (iU T) .nil aQ (ag (pv 0) af)) (λ_=>rfl))) (eP (aU rK (aK aM rfl T.DW bF (ag (pv 0) af)) (vK (bz (v:=.ref T.D1) rfl T.DU rfl) (aT aW (pv 0) ak (λ_ _=>rfl)) ak ⟨rfl,rfl,rfl,rfl⟩) (aY _))))) (av (aG dm)) aP)
 (aj (bu (bU (bo (aA Ed hr rfl T.Fk T.Ez.kp (fw T) .nil aQ (ag (aT aW (pv 0) ak (λ_ _=>rfl)) (ag ak (ag ak af)))) (λ_=>rfl))) (av (aG dm)) aP)
 (av (aG (yf (cH rK (aT aW (pv 0) ak (λ_ _=>rfl)) aD (aY _)) (gZ (aA Ed hr rfl T.Fk T.Ez.kp (fw T) .nil aQ (ag (aT aW (pv 0) ak (λ_ _=>rfl)) (ag ak (ag (bz (v:=.int 9999) rfl T.F1 ⟨_,rfl⟩) af)))))))))),?_⟩
 cases ht:dn x with
 | false =>
  refine aS (K:=K) (b:=true) ?_ (λc H1 s1=>?_) (λc=>nomatch c)
  ·exact RT.as (cX (b:=true) (c:=true) (RT.as (bB (aV (ba (ab (ae h0) au) ⟨x,rfl,rfl⟩))) (by rw [ht];rfl)) λc=>nomatch c) rfl
  ·refine aX (K:=K) (d:=.bl (dQ x)) ?_ λv H' s q=>post v H' (s1.trans s) q
   rw [Cf ht]
   exact dR
 | true =>
  have ht':=ht
  unfold dn at ht'
  split at ht'
  ·rename_i kd r
   have el:((((D.str kd)::r).length:Nat):Int)=(r.length:Int)+1:=by rw [List.length_cons];omega
   refine aS (K:=K) (b:=!decide ((r.length:Int)+1=mZ kd TM 0)) ?_ (λc H1 s1=>?_) (λc H1 s1=>?_)
   ·have b1:=qa (K:=K) (eR (ae (σ:=fV ["thing"] [v0]) (k:=0) h0)) (vR (i:=0) T.DG (aZ (k:=0) (ae (σ:=fV ["thing"] [v0]) (k:=0) h0) ao rfl) ao Bh)
    rw [el] at b1
    exact RT.as (cX (b:=false) (RT.as (bB (aV (ba (ab (ae h0) au) ⟨_,rfl,rfl⟩))) (by rw [ht];rfl)) λ_=>aO b1) (Bool.false_or _)
   ·refine aX (K:=K) (d:=.bl (dQ (.tup (.str kd::r)))) ?_ λv H' s q=>post v H' (s1.trans s) q
    have e:dQ (.tup (.str kd::r))=false:=by
     rw [iY]
     rw [show decide ((r.length:Int)+1=mZ kd TM 0)=false from gX c,Bool.false_and]
    rw [e]
    exact dR
   ·have c':decide ((r.length:Int)+1=mZ kd TM 0)=true:=eK c
    have hl:=of_decide_eq_true c'
    have h1:=s1.dat h0
    obtain ⟨y,r',er⟩:∃ y r',r=y::r':=by
     cases r with
     | nil=>rcases rd kd with h | h | ⟨_,h⟩ <;> (rw [h] at hl;simp at hl)
     | cons y r'=>exact ⟨y,r',rfl⟩
    subst er
    refine aS (K:=K) (b:=!cx y 0 1) (bB (aV (ba (R:=fN) (ab (aZ (k:=1) (ae h1) ao rfl) (ab ao (ab ao au))) ⟨y,0,1,rfl,rfl⟩))) (λc2 H2 s2=>?_) (λc2 H2 s2=>?_)
    ·refine aX (K:=K) (d:=.bl (dQ (.tup (.str kd::y::r')))) ?_ λv H' s q=>post v H' (s1.trans (s2.trans s)) q
     have e:dQ (.tup (.str kd::y::r'))=false:=by
      rw [iY,c',Bool.true_and]
      show (cx y 0 1 && _)=false
      rw [show cx y 0 1=false from gX c2,Bool.false_and]
     rw [e]
     exact dR
    ·refine aX (K:=K) (d:=.bl (dQ (.tup (.str kd::y::r')))) ?_ λv H' s q=>post v H' (s1.trans (s2.trans s)) q
     have h2:=s2.dat h1
     have e:dQ (.tup (.str kd::y::r'))=(!decide (kd="gap") || cx (r'.getD 0 .non) 0 9999):=by
      rw [iY,c',Bool.true_and]
      show (cx y 0 1 && (!decide (kd="gap") || cx (r'.getD 0 .non) 0 9999))=_
      rw [show cx y 0 1=true from eK c2,Bool.true_and]
     rw [e]
     refine uE (tI (aZ (k:=0) (ae h2) ao rfl) aF) λc3=>?_
     have hk:kd="gap":=by simpa using c3
     obtain ⟨z,er⟩:∃ z,r'=[z]:=by
      rcases rd kd with h | h | ⟨_,h⟩
      ·rw [h] at hl;simp at hl;omega
      ·rw [hk] at h;exact absurd h (by decide +kernel)
      ·rw [h] at hl
       match r',hl with
       | [z],_=>exact ⟨z,rfl⟩
       | [],h=>simp at h
       | _::_::_,h=>simp at h;omega
     subst er
     exact ba (E:=E0) (R:=fN) (ab (aZ (k:=2) (ae h2) ao rfl) (ab ao (ab ao au))) ⟨z,0,9999,rfl,rfl⟩
  ·cases ht'
def jH:D->Bool
 | .tup (.str k::_)=>decide (k ∈ (["arg","pick"]:List Str))
 | _=>false
def ppD:Nat->D->Bool
 | 0,_=>false
 | n+1,d=>dQ d || (cM d && (!jH d && ((bQ d).map (ppD n)).all id))
def Rpp (n:Nat) (ds:List D) (d:D):Prop:=∃ x,ds=[x,.int (4 - (n:Int))]/\d=.bl (ppD n x)
def AG:Nat->List D->D->Prop
 | 0=>λ_ _=>False
 | n+1=>Rpp n
theorem gz (T:Txt P w K mg) (JS:FnOk P w K mg base CX0 k T.Hh T.Hl ["thing"] (spD K AF)) (IB:FnOk P w K mg base CX0 k T.GC T.GF ["thing"] (spD K wG)) (DK:FnOk P w K mg base CX0 k T.DM T.DO ["tree"] (spD K eY)) (Fw:FnOk P w K mg base CX0 k T.DL T.DN ["thing","deep"] (spD K (AG n))):FnOk P w K mg base CX0 (k+1) T.DL T.DN ["thing","deep"] (spD K (Rpp n)):=by
 refine T.Ec.ok sc_is_pattern_part (λvs H Q E h=>?_) (λcdv A outer s H vs Q E hr h=>?_)
 ·obtain ⟨ds,d,hd,⟨x,rfl,rfl⟩,_⟩:=h;exact hd.length.symm
 have nd:=sc_is_pattern_part.nd
 obtain ⟨ds,d,hd,⟨x,rfl,rfl⟩,post⟩:=h
 obtain ⟨v0,v1,rfl,h0,h1⟩:=fu hd
 refine ⟨_,(aj (bu (aU mJ (pv 1) (bz (v:=.int 3) rfl T.DR ⟨_,rfl⟩) (aY _)) (av (aG dm)) aP)
 (aj (bu (bo (aA JS hr rfl T.Jm T.HV.kp (uR T) .nil aQ (ag (pv 0) af)) (λ_=>rfl)) (av (aG dm)) aP)
 (aj (bu (PW.pt (fg (bU (bo (aA IB hr rfl T.IG T.Hq.kp (nJ T) .nil aQ (ag (pv 0) af)) (λ_=>rfl))) (eP (aU vF (aT aW (pv 0) ak (λ_ _=>rfl)) (aI (ag aD (ag aD af))) (by with_unfolding_all rfl))))) (av (aG dm)) aP)
 (av (aG (aK (gw rfl) rfl T.IP jw (ag (cE (own:=["within"]) (fr:=[1]) (N':=["within","deep"]) (iD (aA DK hr rfl T.Ek T.DT.kp (dq T) .nil aQ (ag (pv 0) af))) rfl (by show bR ["thing","deep"] (λx=>(ay cI).names.lookup x) _ _ _ _=true;decide +kernel) rfl (λ_ _ _ _ _=>(aE (i:=0) (by show List.Nodup [("within":Str),("deep":Str)];decide +kernel) rfl (Or.inl rfl))) (λ_ _ _ _ _=>bE) (λ_ _ _ _ _=>(aA Fw hr rfl T.FQ T.Ec.kp (gJ T) .nil aQ (ag (pv 0) (ag (bx fe (pv 1) ak) af))))) af))))))),?_⟩
 cases n with
 | zero =>
  refine aS (K:=K) (b:=true) (RT.as (aO (dD (p:=λi j=>decide (j < i)) (ae h1) ao)) rfl) (λc H1 s1=>?_) (λc=>nomatch c)
  exact aX (K:=K) (d:=.bl false) dR λv H' s q=>post v H' (s1.trans s) q
 | succ n =>
  refine aS (K:=K) (b:=false) (RT.as (aO (dD (p:=λi j=>decide (j < i)) (ae h1) ao)) (decide_eq_false (by omega))) (λc=>nomatch c) (λc H1 s1=>?_)
  have h0:=s1.dat h0
  have h1:=s1.dat h1
  refine aS (K:=K) (b:=dQ x) (aV (ba (ab (ae h0) au) ⟨x,rfl,rfl⟩)) (λc H2 s2=>?_) (λc H2 s2=>?_)
  ·refine aX (K:=K) (d:=.bl true) dR λv H' s q=>post v H' (s1.trans (s2.trans s)) ?_
   have e:ppD (n+1) x=true:=by unfold ppD;rw [c];rfl
   rw [e]
   exact q
  have h0:=s2.dat h0
  have h1:=s2.dat h1
  have e1:ppD (n+1) x=(cM x && (!jH x && ((bQ x).map (ppD n)).all id)):=by
   show (dQ x || _)=_
   rw [c,Bool.false_or]
  cases hn:cM x with
  | false =>
   refine aS (K:=K) (b:=true) (RT.as (cX (b:=true) (c:=true) (RT.as (bB (aV (ba (ab (ae h0) au) ⟨x,rfl,rfl⟩))) (by rw [hn];rfl)) λc=>nomatch c) rfl) (λc H3 s3=>?_) (λc=>nomatch c)
   refine aX (K:=K) (d:=.bl false) dR λv H' s q=>post v H' (s1.trans (s2.trans (s3.trans s))) ?_
   rw [e1,hn]
   exact q
  | true =>
   obtain ⟨kd,r,ek⟩:=mF hn
   have few:=my hn
   have h0':Dat K H2 (.tup (.str kd::r)) v0:=by rw [← ek];exact h0
   refine aS (K:=K) (b:=jH x) (RT.as (cX (b:=false) (RT.as (bB (aV (ba (ab (ae h0) au) ⟨x,rfl,rfl⟩))) (by rw [hn];rfl)) λ_=>aO (B5 (ys:=["arg","pick"]) (aZ (k:=0) (ae h0') ao rfl) (aL (ab aF (ab aF au))))) (by rw [ek];exact Bool.false_or _)) (λc3 H3 s3=>?_) (λc3 H3 s3=>?_)
   ·refine aX (K:=K) (d:=.bl false) dR λv H' s q=>post v H' (s1.trans (s2.trans (s3.trans s))) ?_
    rw [e1,hn,c3]
    exact q
   ·have h1:=s3.dat h1
    refine aX (K:=K) (d:=.bl (((bQ x).map (ppD n)).all id)) (iF (mO (cs:=bQ x) (ba (R:=eY) (ab (ae (s3.dat h0)) au) ⟨kd,r,by rw [ek],by rw [ek]⟩) (by omega) _ (by simp) rfl (λH4 i z vz d s4 hz hi hvz=>?_))) λv H' s q=>post v H' (s1.trans (s2.trans (s3.trans s))) ?_
    ·rw [List.getElem?_map,List.getElem?_map,hz] at hi
     cases hi
     exact ba (E:=E0) (R:=Rpp n) (ab (ae hvz) (ab (RE.as (fS (ae (s4.dat h1)) ao) (congrArg D.int (by omega:(4:Int) - ((n+1:Nat):Int)+1=4 - (n:Int)))) au)) ⟨z,rfl,rfl⟩
    ·rw [e1,hn,c3]
     exact q
def kl (k:Str):D->Bool
 | .tup (.str h::_)=>decide (h=k)
 | _=>false
def bX:Nat->Str->D->List D
 | 0,_,_=>[]
 | n+1,k,d=>if kl k d=true then [d] else (bQ d).flatMap (bX n k)
def iT (n:Nat) (ds es:List D):Prop:=∃ x k,ds=[x,.str k]/\n≤3/\ppD n x=true/\es=bX n k x
theorem rf (h:dQ d=true):∃ k r,d=.tup (.str k::r):=by
 unfold dQ at h
 split at h
 ·exact ⟨_,_,rfl⟩
 ·cases h
variable {r:List D}
theorem xR {k:Str} (h:dQ (.tup (.str k::r))=true):k="hole"\/k="gap"\/k="slot":=by
 rw [iY,Bool.and_eq_true] at h
 have hl:=of_decide_eq_true h.1
 unfold mZ at hl
 by_cases h1:k="hole"
 ·exact .inl h1
 by_cases h2:k="gap"
 ·exact .inr (.inl h2)
 by_cases h3:k="slot"
 ·exact .inr (.inr h3)
 have e:KTD.datumAt k TM=none:=by simp [TM,KTD.datumAt,h1,h2,h3]
 rw [e] at hl
 dsimp only at hl
 omega
theorem m5 {k:Str} (h:k="hole"\/k="gap"\/k="slot"):KTD.inKeys k TB=false/\KTD.inKeys k TL=false:=by
 rcases h with rfl | rfl | rfl <;> decide +kernel
theorem vv (h:dQ d=true):bQ d=[]:=by
 obtain ⟨k,r,rfl⟩:=rf h
 exact gn (m5 (xR h)).1
theorem tw (h:ppD n d=true):∃ k r,d=.tup (.str k::r):=by
 cases n with
 | zero=>cases h
 | succ n =>
  have h':(dQ d || (cM d && (!jH d && ((bQ d).map (ppD n)).all id)))=true:=h
  rw [Bool.or_eq_true] at h'
  rcases h' with h' | h'
  ·exact rf h'
  ·rw [Bool.and_eq_true] at h'
   exact mF h'.1
theorem pW (h:ppD (n+1) d=true):(bQ d).length≤3/\∀ c ∈ bQ d,ppD n c=true:=by
 have h':(dQ d || (cM d && (!jH d && ((bQ d).map (ppD n)).all id)))=true:=h
 rw [Bool.or_eq_true] at h'
 rcases h' with h' | h'
 ·rw [vv h']
  exact ⟨by simp,λc hc=>absurd hc (by simp)⟩
 ·rw [Bool.and_eq_true,Bool.and_eq_true] at h'
  refine ⟨my h'.1,λc hc=>?_⟩
  have z:=List.all_eq_true.mp h'.2.2 (ppD n c) (List.mem_map.mpr ⟨c,hc,rfl⟩)
  exact z
theorem ug {α β:Type} (f:α->List β) (m:Nat):∀ l:List α,(∀ x ∈ l,(f x).length≤m)->(l.flatMap f).length≤l.length * m
 | [],_=>by simp
 | x::l,h=>by
  have h1:=h x (by simp)
  have h2:=ug f m l λy hy=>h y (by simp [hy])
  rw [List.flatMap_cons,List.length_append,List.length_cons,Nat.succ_mul]
  omega
theorem mB (k:Str):∀ (n:Nat) (d:D),ppD n d=true->(bX n k d).length≤3 ^ n
 | 0,d,h=>by cases h
 | n+1,d,h=>by
  unfold bX
  split
  ·have:1≤3 ^ (n+1):=Nat.one_le_iff_ne_zero.mpr (by simp)
   simpa using this
  ·obtain ⟨h1,h2⟩:=pW h
   have z:=ug (bX n k) (3 ^ n) (bQ d) λc hc=>mB k n c (h2 c hc)
   have z2:(bQ d).length * 3 ^ n≤3 * 3 ^ n:=Nat.mul_le_mul_right _ h1
   rw [Nat.pow_succ,Nat.mul_comm (3 ^ n) 3]
   omega
theorem p3 (h:n≤3):3 ^ n≤27:=by
 match n,h with
 | 0,_=>decide
 | 1,_=>decide
 | 2,_=>decide
 | 3,_=>decide
theorem rG (T:Txt P w K mg) (DK:FnOk P w K mg base CX0 k T.DM T.DO ["tree"] (spD K eY)) (GI:FnOk P w K mg base CX0 k T.ER T.EX ["pattern","kind"] (gE K (iT n))):FnOk P w K mg base CX0 (k+1) T.ER T.EX ["pattern","kind"] (gE K (iT (n+1))):=by
 refine T.F0.ok sc_marks_in (λvs H Q E h=>?_) (λcdv A outer s H vs Q E hr h=>?_)
 ·obtain ⟨ds,es,hd,⟨x,kk,rfl,_⟩,_⟩:=h;exact hd.length.symm
 have nd:=sc_marks_in.nd
 obtain ⟨ds,es,hd,⟨x,kk,rfl,hn3,hp,rfl⟩,post⟩:=h
 obtain ⟨v0,v1,rfl,h0,h1⟩:=fu hd
 refine ⟨_,(aj (bu (aU cZ (aT aW (pv 0) ak (λ_ _=>rfl)) (pv 1) (aY _)) (av (aG (bA (ag (pv 0) af)))) aP)
 (aj (bg (i:=2) nd rfl (Or.inl rfl) (bA af))
 (aj (hE PassesOwn.never rfl (iD (aA DK hr rfl T.Ek T.DT.kp (dq T) .nil aQ (ag (pv 0) af))) (aE (i:=3) nd rfl (Or.inl rfl)) (av (bC (de PySem.F.plainAttrs_list PySem.F.slot_list_extend PySem.F.type_list_extend dI (pv 2) (ag (aA GI hr rfl T.HB T.F0.kp (jv T) .nil aQ (ag (pv 3) (ag (pv 1) af))) af)))))
 (av (aG (pv 2)))))),?_⟩
 obtain ⟨kd,r,ek⟩:=tw hp
 have h0':Dat K H (.tup (.str kd::r)) v0:=by rw [← ek];exact h0
 have eh:kl kk x=decide (kd=kk):=by rw [ek];rfl
 obtain ⟨few,kok⟩:=pW hp
 have cap:=mB kk (n+1) x hp
 have cap3:=p3 hn3
 refine aS (K:=K) (b:=kl kk x) (RT.as (aO (bV (aZ (k:=0) (ae h0') ao rfl) (ae h1))) eh.symm) (λc H1 s1=>?_) (λc H1 s1=>?_)
 ·refine gN ((dW (K:=K) (es:=[x]) (ab (ae (s1.dat h0)) au)).use λl ys H2 hl s2 hy hd2=>?_)
  refine post l ys H2 (s1.trans s2) hy (s1.free hl) ?_
  unfold bX
  rw [if_pos c]
  exact hd2
 have em:bX (n+1) kk x=(bQ x).flatMap (bX n kk):=by
  show (if kl kk x=true then _ else _)=_
  rw [if_neg (by rw [c];exact Bool.false_ne_true)]
 rw [em] at cap post
 have h0:=s1.dat h0
 have h1:=s1.dat h1
 have hk1:=h1.strE
 refine dJ (K:=K) (es:=[]) (dW au) λwl ys0 H2 hw s2 hy0 hd0=>?_
 have hw0:H wl=none:=s1.free hw
 refine cV (RE.use (ba (R:=eY) (d:=.tup (bQ x)) (ab (ae (K:=K) (k:=0) (s2.dat h0)) au) ⟨kd,r,by rw [ek],by rw [ek]⟩) λv4 H4 s4 q4=>?_)
 obtain ⟨a,vs,ea,hq,hds⟩:=q4.tupE
 subst ea
 have hl:=hds.length
 refine ⟨a,rfl,⟨vs,hq⟩,lE (xs:=vs) (λi σ G=>∃ (z:Option V) (ys:List V),σ=[some v0,some v1,some (.ref wl),z]/\Same H G/\SqT K G a vs/\Dats K G (bQ x) vs/\G wl=some (.lst ys)/\Dats K G (((bQ x).take i).flatMap (bX n kk)) ys) ?_ (λi σ G _ ⟨z,ys,_,_,p,_⟩=>p) ?_ ?_⟩
 ·exact ⟨none,ys0,rfl,s1.trans (s2.trans s4),hq,hds,s4 _ _ hy0,s4.dats hd0⟩
 ·rintro i vx σ G hi ⟨z,ys,rfl,sG,hqG,hdG,hwG,hyG⟩
  obtain ⟨dx,ex,hx⟩:=hdG.getV hi
  have hpx:=kok dx (List.mem_of_getElem? ex)
  subst hk1
  refine ⟨_,rfl,.inl ⟨rfl,_,SqL.of hwG⟩,_,rfl,_,rfl,[dx,.str kk],_,(Dats.cons hx (Dats.cons (Dat.strI _) Dats.nil):Dats K G [dx,.str kk] [vx,.str kk]),⟨dx,kk,rfl,by omega,hpx,rfl⟩,λr us H5 s5 hr5 _ hd5=>?_⟩
  have hw5:=s5 _ _ hwG
  have b6:But wl H5 (upd H5 wl (.lst (ys++us))):=But.upd (Same.refl H5).but
  have g6:cO K H5 (upd H5 wl (.lst (ys++us))):=b6.grow hw5 aq
  have et:((bQ x).take (i+1)).flatMap (bX n kk)=((bQ x).take i).flatMap (bX n kk)++bX n kk dx:=by
   rw [List.take_add_one,ex]
   simp
  have lt:(((bQ x).take (i+1)).flatMap (bX n kk)).length≤27:=by
   have e2:((bQ x).take (i+1)).flatMap (bX n kk)++((bQ x).drop (i+1)).flatMap (bX n kk)=(bQ x).flatMap (bX n kk):=by
    rw [← List.flatMap_append,List.take_append_drop]
   have:=congrArg List.length e2
   rw [List.length_append] at this
   omega
  have ly:=hyG.length
  have lu:=hd5.length
  rw [et,List.length_append] at lt
  refine ⟨wl,r,ys,us,rfl,rfl,hw5,hr5,bZ (by omega),some vx,ys++us,rfl,λb o hb=>b6 b o (aB hb hw0) (s5 _ _ (sG _ _ hb)),g6.tup _ _ (s5.sqT hqG),Dats.mono g6 _ (s5.dats hdG),aq,?_⟩
  rw [et]
  exact Dats.append (Dats.mono g6 _ (s5.dats hyG)) (Dats.mono g6 _ hd5)
 ·rintro σ G ⟨z,ys,rfl,sG,hqG,hdG,hwG,hyG⟩
  refine ⟨_,rfl,post wl ys G sG hwG hw0 ?_⟩
  rw [← hl,List.take_length] at hyG
  exact hyG
def Ca:D->D
 | .tup (_::y::_)=>y
 | _=>.non
theorem sV {k:Str} (h:dQ (.tup (.str k::r))=true):∃ i r',r=.int i::r':=by
 rw [iY,Bool.and_eq_true,Bool.and_eq_true] at h
 have hw:=h.2.1
 cases r with
 | nil=>cases hw
 | cons y r' =>
  have hw':cx y 0 1=true:=hw
  cases y with
  | int i=>exact ⟨i,r',rfl⟩
  | _=>cases hw'
theorem iZ {k:Str} (hk:k="hole"\/k="gap"\/k="slot"):∀ (n:Nat) (x m:D),ppD n x=true->m ∈ bX n k x->∃ i r,m=.tup (.str k::.int i::r)
 | 0,x,m,h,_=>by cases h
 | n+1,x,m,h,hm=>by
  unfold bX at hm
  split at hm
  ·rename_i hh
   have e:m=x:=by simpa using hm
   subst e
   obtain ⟨k',r,rfl⟩:=tw h
   have ek:k'=k:=of_decide_eq_true hh
   subst ek
   have h':(dQ (.tup (.str k'::r)) || (cM (.tup (.str k'::r)) && _))=true:=h
   rw [Bool.or_eq_true] at h'
   rcases h' with h' | h'
   ·obtain ⟨i,r',rfl⟩:=sV h'
    exact ⟨i,r',rfl⟩
   ·rw [Bool.and_eq_true] at h'
    have z:=h'.1
    rw [mD (m5 hk).2,(m5 hk).1,Bool.false_and] at z
    cases z
  ·obtain ⟨c,hc,hm'⟩:=List.mem_flatMap.mp hm
   exact iZ hk n c m ((pW h).2 c hc) hm'
def zQ (k:Str) (x:D):Bool:=eqDs ((bX 3 k x).map Ca) ((List.range (bX 3 k x).length).map λi:Nat=>D.int i)
def Bb (ds:List D) (d:D):Prop:=∃ x k,ds=[x,.str k]/\ppD 3 x=true/\(k="hole"\/k="gap"\/k="slot")/\d=.bl (zQ k x)
variable {σ:L2.St}
theorem lK {K:PySem.W.Frag} {k:Nat} {l:Addr} {ys:List V} (hl:H l=some (.lst ys)) (e:σ[k]?=some (some (.ref l)):=by rfl):RE K (tCB (λxs H Q=>∃ p ys,xs=[.ref p]/\(SqL K H p ys\/SqT K H p ys)/\Q (.int ys.length) H) (bP (iS k) d8)) σ H (.int ys.length):=λH1 s Q q =>
 ⟨.ref l,e,l,ys,rfl,.inl (SqL.of (s _ _ hl)),q _ _ (Same.refl _) (Dat.intI _)⟩
theorem mC {l:List D} (h:∀ d ∈ l,∃ i,d=.int i):noLs l=true/\deepDs l=0:=by
 induction l with
 | nil=>exact ⟨by unfold noLs;rfl,by unfold deepDs;rfl⟩
 | cons d l ih =>
  obtain ⟨i,rfl⟩:=h d (by simp)
  obtain ⟨h1,h2⟩:=ih λd hd=>h d (by simp [hd])
  refine ⟨?_,?_⟩
  ·unfold noLs;rw [h1];unfold noL;rfl
  ·unfold deepDs;rw [h2];unfold d9;rfl
theorem mI (T:Txt P w K mg) (GI:FnOk P w K mg base CX0 k T.ER T.EX ["pattern","kind"] (gE K (iT 3))):FnOk P w K mg base CX0 (k+1) T.Fc T.Ff ["pattern","kind"] (spD K Bb):=by
 refine T.F6.ok sc_is_numbered (λvs H Q E h=>?_) (λcdv A outer s H vs Q E hr h=>?_)
 ·obtain ⟨ds,d,hd,⟨x,kk,rfl,_⟩,_⟩:=h;exact hd.length.symm
 have nd:=sc_is_numbered.nd
 obtain ⟨ds,d,hd,⟨x,kk,rfl,hp,hk,rfl⟩,post⟩:=h
 obtain ⟨v0,v1,rfl,h0,h1⟩:=fu hd
 refine ⟨_,(aj (fA (i:=2) (own:=["mark"]) (fr:=[]) (N':=["mark"]) (cP (aA GI hr rfl T.HB T.F0.kp (jv T) .nil aQ (ag (pv 0) (ag (pv 1) af)))) rfl (by show bR ["pattern","kind","numbers"] (λx=>(ay eE).names.lookup x) _ _ _ _=true;decide +kernel) rfl (λ_ _ _ _ _=>(aE (i:=0) (by show List.Nodup [("mark":Str)];decide +kernel) rfl (Or.inl rfl))) (λ_ _ _ _ _=>bE) (λ_ _ _ _ _=>(aT (r:=rT K) aW (pv 0) ak (λ_ _=>rfl))) nd rfl rfl rfl)
 (av (aG (cH (x8 hr) (pv 2) (di (ni rfl) rfl T.Jw oY (ag (di wZ rfl T.IU wQ (ag (aK aM rfl T.DW bF (ag (pv 2) af)) af)) af)) (aY _))))),?_⟩
 have cap:=mB kk 3 x hp
 refine dJ (K:=K) (es:=(bX 3 kk x).map Ca) (Ah (cs:=bX 3 kk x) (gM (R:=iT 3) (ab (ae h0) (ab (ae h1) au)) ⟨x,kk,rfl,by decide,hp,rfl⟩) (Nat.le_trans cap (by decide)) _ (by simp) rfl (λH1 i c v d s1 hc hi hv=>?_)) λl ys H2 hl s2 hy hd2=>?_
 ·rw [List.getElem?_map,hc] at hi
  cases hi
  obtain ⟨j,r,rfl⟩:=iZ hk 3 x c hp (List.mem_of_getElem? hc)
  exact aZ (k:=1) (ae hv) ao rfl
 have ll:=hd2.length
 rw [List.length_map] at ll
 refine ⟨_,rfl,(pY (K:=K) (n:=ys.length) (lK (k:=2) hy) (by rw [← ll];exact Nat.le_trans cap (by decide))).use λl2 ys2 H3 hl2 s3 hy3 hd3=>?_⟩
 have i1:∀ d ∈ (bX 3 kk x).map Ca,∃ i,d=.int i:=λd hdm=>by
  obtain ⟨m,hm,rfl⟩:=List.mem_map.mp hdm
  obtain ⟨j,r,rfl⟩:=iZ hk 3 x m hp hm
  exact ⟨j,rfl⟩
 have i2:∀ d ∈ (List.range ys.length).map (λi:Nat=>D.int i),∃ i,d=.int i:=λd hdm=>by
  obtain ⟨m,hm,rfl⟩:=List.mem_map.mp hdm
  exact ⟨_,rfl⟩
 refine ⟨l,l2,ys,ys2,_,_,rfl,rfl,SqL.of (s3 _ _ hy),SqL.of hy3,s3.dats hd2,hd3,(mC i1).1,(mC i2).1,by rw [(mC i1).2];decide,?_⟩
 refine post _ _ (s2.trans s3) ?_
 unfold zQ
 rw [ll]
 exact Dat.blI _
def pV (x:D):Bool:=ppD 3 x && (!kl "hole" x && ((["hole","gap","slot"]:List Str).map λk=>zQ k x).all id)
def Bc (ds:List D) (d:D):Prop:=∃ x,ds=[x]/\d=.bl (pV x)
theorem nv (T:Txt P w K mg) (Fw:FnOk P w K mg base CX0 k T.DL T.DN ["thing","deep"] (spD K (Rpp 3))) (Jk:FnOk P w K mg base CX0 k T.Fc T.Ff ["pattern","kind"] (spD K Bb)):FnOk P w K mg base CX0 (k+1) T.Fz T.FG ["thing"] (spD K Bc):=by
 refine T.Gy.ok sc_is_pattern (λvs H Q E h=>?_) (λcdv A outer s H vs Q E hr h=>?_)
 ·obtain ⟨ds,d,hd,⟨x,rfl,rfl⟩,_⟩:=h;exact hd.length.symm
 have nd:=sc_is_pattern.nd
 obtain ⟨ds,d,hd,⟨x,rfl,rfl⟩,post⟩:=h
 obtain ⟨v0,rfl,h0⟩:=gx hd
 refine ⟨_,(aj (bu (PW.pt (fg (bU (bo (aA Fw hr rfl T.FQ T.Ec.kp (gJ T) .nil aQ (ag (pv 0) (ag ak af))) (λ_=>rfl))) (eP (aU cZ (aT aW (pv 0) ak (λ_ _=>rfl)) aD (aY _))))) (av (aG dm)) aP)
 (av (aG (aK (gw rfl) rfl T.IP jw (ag (cE (own:=["kind"]) (fr:=[0]) (N':=["kind","thing"]) (BW (bz (v:=.ref T.D1) rfl T.DU rfl)) rfl (by show bR ["thing"] (λx=>(ay fm).names.lookup x) _ _ _ _=true;decide +kernel) rfl (λ_ _ _ _ _=>(aE (i:=0) (by show List.Nodup [("kind":Str),("thing":Str)];decide +kernel) rfl (Or.inl rfl))) (λ_ _ _ _ _=>bE) (λ_ _ _ _ _=>(aA Jk hr rfl T.Ie T.F6.kp (ng T) .nil aQ (ag (pv 1) (ag (pv 0) af))))) af))))),?_⟩
 cases hp:ppD 3 x with
 | false =>
  refine aS (K:=K) (b:=true) (RT.as (cX (b:=true) (c:=true) (RT.as (bB (aV (ba (R:=Rpp 3) (ab (ae h0) (ab ao au)) ⟨x,rfl,rfl⟩))) (by rw [hp];rfl)) λc=>nomatch c) rfl) (λc H3 s3=>?_) (λc=>nomatch c)
  refine aX (K:=K) (d:=.bl false) dR λv H' s q=>post v H' (s3.trans s) ?_
  unfold pV
  rw [hp]
  exact q
 | true =>
  obtain ⟨kd,r,ek⟩:=tw hp
  have h0':Dat K H (.tup (.str kd::r)) v0:=by rw [← ek];exact h0
  refine aS (K:=K) (b:=kl "hole" x) (RT.as (cX (b:=false) (RT.as (bB (aV (ba (R:=Rpp 3) (ab (ae h0) (ab ao au)) ⟨x,rfl,rfl⟩))) (by rw [hp];rfl)) λ_=>aO (bV (aZ (k:=0) (ae h0') ao rfl) aF)) (by rw [ek];exact Bool.false_or _)) (λc H1 s1=>?_) (λc H1 s1=>?_)
  ·refine aX (K:=K) (d:=.bl false) dR λv H' s q=>post v H' (s1.trans s) ?_
   unfold pV
   rw [hp,c]
   exact q
  ·refine aX (K:=K) (d:=.bl (((["hole","gap","slot"]:List Str).map λk=>zQ k x).all id)) (iF (B3 T.HJ (by decide) _ rfl rfl (λH2 i kk d s2 hk hi=>?_))) λv H' s q=>post v H' (s1.trans s) ?_
   ·rw [List.getElem?_map,List.getElem?_map,hk] at hi
    cases hi
    refine ba (E:=E0) (R:=Bb) (ab (ae (s2.dat (s1.dat h0))) (ab (ae (Dat.strI kk)) au)) ⟨x,kk,rfl,hp,?_,rfl⟩
    have:=List.mem_of_getElem? hk
    simpa using this
   ·unfold pV
    rw [hp,c]
    exact q
def oJ (k:Str) (T:List (Str × KTD.Dat)):Str:=match KTD.datumAt k T with | some (.flat (.str z))=>z | _=>""
theorem Bf {k:Str} (h:KTD.inKeys k TF=true):KTD.datumAt k TF=some (.flat (.str (oJ k TF))):=by
 unfold oJ
 by_cases h1:k="low"
 ·subst h1;rfl
 by_cases h2:k="high"
 ·subst h2;rfl
 by_cases h3:k="arg"
 ·subst h3;rfl
 have e:KTD.inKeys k TF=false:=by simp [TF,KTD.inKeys,h1,h2,h3]
 rw [e] at h
 cases h
def mj (p:D):D->Bool
 | .tup (.str k::r)=>decide ((r.length:Int)+1=2) && (KTD.inKeys k TF && cx (r.getD 0 .non) 0 (((bX 3 (oJ k TF) p).length:Int) - 1))
 | _=>false
theorem qQ (p:D) (k:Str) (r:List D):mj p (.tup (.str k::r))=(decide ((r.length:Int)+1=2) && (KTD.inKeys k TF && cx (r.getD 0 .non) 0 (((bX 3 (oJ k TF) p).length:Int) - 1))):=rfl
def wB (ds:List D) (d:D):Prop:=∃ x p,ds=[x,p]/\ppD 3 p=true/\d=.bl (mj p x)
theorem zy {p x:D} (h:dn x=false):mj p x=false:=by
 unfold dn at h
 unfold mj
 split at h
 ·cases h
 ·rename_i hn
  first
   | rfl
   | (split
      ·rename_i k r;exact absurd rfl (hn k r)
      ·rfl)
theorem nr (T:Txt P w K mg) (F7:FnOk P w K mg base CX0 k T.EO T.EW ["thing"] (spD K lC)) (GI:FnOk P w K mg base CX0 k T.ER T.EX ["pattern","kind"] (gE K (iT 3))) (Ed:FnOk P w K mg base CX0 k T.Es T.Ew ["thing","low","high"] (spD K fN)):FnOk P w K mg base CX0 (k+1) T.Fy T.FF ["thing","pattern"] (spD K wB):=by
 refine T.Gx.ok sc_is_filling (λvs H Q E h=>?_) (λcdv A outer s H vs Q E hr h=>?_)
 ·obtain ⟨ds,d,hd,⟨x,p,rfl,_⟩,_⟩:=h;exact hd.length.symm
 have nd:=sc_is_filling.nd
 obtain ⟨ds,d,hd,⟨x,p,rfl,hp,rfl⟩,post⟩:=h
 obtain ⟨v0,v1,rfl,h0,h1⟩:=fu hd
 refine ⟨_,(aj (bu (PW.pt (fg (bU (bo (aA F7 hr rfl T.He T.Fs.kp (iU T) .nil aQ (ag (pv 0) af)) (λ_=>rfl))) (fg (aU rK (aK aM rfl T.DW bF (ag (pv 0) af)) ak (aY _)) (eP (aU rL (aT aW (pv 0) ak (λ_ _=>rfl)) (bz (v:=.ref T.E8) rfl T.Ee rfl) (by with_unfolding_all rfl)))))) (av (aG dm)) aP)
 (av (aG (aA Ed hr rfl T.Fk T.Ez.kp (fw T) .nil aQ (ag (aT aW (pv 0) ak (λ_ _=>rfl)) (ag ak (ag (bx pU (aK aM rfl T.DW bF (ag (aA GI hr rfl T.HB T.F0.kp (jv T) .nil aQ (ag (pv 1) (ag (aT zJ (bz (v:=.ref T.E8) rfl T.Ee rfl) (aT aW (pv 0) ak (λ_ _=>rfl)) (λ_ _=>rfl)) af))) af)) ak) af))))))),?_⟩
 cases ht:dn x with
 | false =>
  refine aS (K:=K) (b:=true) ?_ (λc H1 s1=>?_) (λc=>nomatch c)
  ·exact RT.as (cX (b:=true) (c:=true) (RT.as (bB (aV (ba (ab (ae h0) au) ⟨x,rfl,rfl⟩))) (by rw [ht];rfl)) λc=>nomatch c) rfl
  ·refine aX (K:=K) (d:=.bl (mj p x)) ?_ λv H' s q=>post v H' (s1.trans s) q
   rw [zy ht]
   exact dR
 | true =>
  have ht':=ht
  unfold dn at ht'
  split at ht'
  ·rename_i kd r
   have el:((((D.str kd)::r).length:Nat):Int)=(r.length:Int)+1:=by rw [List.length_cons];omega
   have b1:=qa (K:=K) (eR (ae (σ:=fV ["thing","pattern"] [v0,v1]) (k:=0) h0)) (ao (i:=2))
   rw [el] at b1
   refine aS (K:=K) (b:=!decide ((r.length:Int)+1=2) || !KTD.inKeys kd TF) (RT.as (cX (b:=false) (RT.as (bB (aV (ba (ab (ae h0) au) ⟨_,rfl,rfl⟩))) (by rw [ht];rfl)) λ_=>cX (aO b1) λ_=>aO (rY (aZ (k:=0) (ae h0) ao rfl) T.Ef)) (Bool.false_or _)) (λc H1 s1=>?_) (λc H1 s1=>?_)
   ·refine aX (K:=K) (d:=.bl false) dR λv H' s q=>post v H' (s1.trans s) ?_
    have e:mj p (.tup (.str kd::r))=false:=by
     rw [qQ]
     cases h2:decide ((r.length:Int)+1=2) with
     | false=>rfl
     | true =>
      rw [h2] at c
      have h3:KTD.inKeys kd TF=false:=gX c
      rw [h3]
      rfl
    rw [e]
    exact q
   ·rw [Bool.or_eq_false_iff] at c
    have c1:=eK c.1
    have c2:=eK c.2
    obtain ⟨y,er⟩:∃ y,r=[y]:=by
     match r,of_decide_eq_true c1 with
     | [],h=>simp at h
     | [y],_=>exact ⟨y,rfl⟩
     | _::_::_,h=>simp at h;omega
    subst er
    have h0:=s1.dat h0
    have h1:=s1.dat h1
    refine aX (K:=K) (d:=.bl (cx y 0 (((bX 3 (oJ kd TF) p).length:Int) - 1))) (ba (R:=fN) (ab (aZ (k:=1) (ae h0) ao rfl) (ab ao (ab (tL (An (gM (R:=iT 3) (ab (ae h1) (ab (vO (aZ (k:=0) (ae h0) ao rfl) T.Ef (by rfl) (Bf c2)) au)) ⟨p,oJ kd TF,rfl,by decide,hp,rfl⟩)) ao) au))) ⟨y,0,_,rfl,rfl⟩) λv H' s q=>post v H' (s1.trans s) ?_
    rw [qQ,c1,c2]
    exact q
  ·cases ht'
def qL (p x:D):Bool:=cx x 0 99 || mj p x
def wz (ds:List D) (d:D):Prop:=∃ x p,ds=[x,p]/\ppD 3 p=true/\d=.bl (qL p x)
theorem sX (T:Txt P w K mg) (Ed:FnOk P w K mg base CX0 k T.Es T.Ew ["thing","low","high"] (spD K fN)) (Jp:FnOk P w K mg base CX0 k T.Fy T.FF ["thing","pattern"] (spD K wB)):FnOk P w K mg base CX0 (k+1) T.Hg T.Hk ["thing","pattern"] (spD K wz):=by
 refine T.HU.ok sc_is_cell (λvs H Q E h=>?_) (λcdv A outer s H vs Q E hr h=>?_)
 ·obtain ⟨ds,d,hd,⟨x,p,rfl,_⟩,_⟩:=h;exact hd.length.symm
 have nd:=sc_is_cell.nd
 obtain ⟨ds,d,hd,⟨x,p,rfl,hp,rfl⟩,post⟩:=h
 obtain ⟨v0,v1,rfl,h0,h1⟩:=fu hd
 refine ⟨_,(av (aG (yf (aA Ed hr rfl T.Fk T.Ez.kp (fw T) .nil aQ (ag (pv 0) (ag ak (ag (bz (v:=.int 99) rfl T.E1 ⟨_,rfl⟩) af)))) (gZ (aA Jp hr rfl T.Iu T.Gx.kp (oS T) .nil aQ (ag (pv 0) (ag (pv 1) af))))))),?_⟩
 exact aX (K:=K) (d:=.bl (qL p x)) (uE (ba (R:=fN) (ab (ae h0) (ab ao (ab ao au))) ⟨x,0,99,rfl,rfl⟩) λ_=>ba (R:=wB) (ab (ae h0) (ab (ae h1) au)) ⟨x,p,rfl,hp,rfl⟩) post
def oj (c:Int):Option (Str × Nat):=match INS[c.toNat]? with
 | some (.tup [.str nm,.int m])=>some (nm,m.toNat)
 | _=>none
variable {m:Nat}
theorem Bx {c:Int} (h:oj c=some (nm,m)):INS[c.toNat]?=some (.tup [.str nm,.int (m:Int)])/\c.toNat < 17:=by
 unfold oj at h
 have hlt:c.toNat < 17:=by
  by_cases hc:c.toNat < 17
  ·exact hc
  ·rw [List.getElem?_eq_none (by show (17:Nat)≤c.toNat;omega)] at h
   cases h
 refine ⟨?_,hlt⟩
 have all:∀ i:Nat,i < 17->∀ nm m,(match INS[i]? with | some (.tup [.str nm,.int m])=>some (nm,m.toNat) | _=>none)=some (nm,m)->INS[i]?=some (.tup [.str nm,.int (m:Int)]):=by
  intro i hi nm m e
  match i,hi with
  | 0,_=>cases e;rfl
  | 1,_=>cases e;rfl
  | 2,_=>cases e;rfl
  | 3,_=>cases e;rfl
  | 4,_=>cases e;rfl
  | 5,_=>cases e;rfl
  | 6,_=>cases e;rfl
  | 7,_=>cases e;rfl
  | 8,_=>cases e;rfl
  | 9,_=>cases e;rfl
  | 10,_=>cases e;rfl
  | 11,_=>cases e;rfl
  | 12,_=>cases e;rfl
  | 13,_=>cases e;rfl
  | 14,_=>cases e;rfl
  | 15,_=>cases e;rfl
  | 16,_=>cases e;rfl
  | n+17,h=>omega
 exact all c.toNat hlt nm m h
def ix (cells:List D) (p m:Nat):List D:=(cells.drop (p+1)).take m
def wD (ds:List D) (d:D):Prop:=∃ (cells:List D) (p:Nat) (c:Int) (nm:Str) (m:Nat),ds=[.tup cells,.int p]/\cells[p]?=some (.int c)/\0≤c/\oj c=some (nm,m)/\(ix cells p m).length=m/\d=.tup [.str nm,.tup (ix cells p m)]
theorem jV (T:Txt P w K mg)  : FnOk P w K mg base CX0 (k+1) T.Eg T.Ei ["cells","place"] (spD K wD):=by
 refine T.E3.ok sc_instruction_at (λvs H Q E h=>?_) (λcdv A outer s H vs Q E hr h=>?_)
 ·obtain ⟨ds,d,hd,⟨cells,p,c,nm,m,rfl,_⟩,_⟩:=h;exact hd.length.symm
 have nd:=sc_instruction_at.nd
 obtain ⟨ds,d,hd,⟨cells,p,c,nm,m,rfl,hc,c0,hi,hb,rfl⟩,post⟩:=h
 obtain ⟨v0,v1,rfl,h0,h1⟩:=fu hd
 refine ⟨_,(aj (bu (PW.pt (fg (aU x9 (pv 1) (aK aM rfl T.DW bF (ag (pv 0) af)) (aY _)) (eP (aU x9 (aT aW (pv 0) (pv 1) (λ_ _=>rfl)) (aK aM rfl T.DW bF (ag (bz (v:=.ref T.EI) rfl T.D4 rfl) af)) (aY _))))) (av ik) aP)
 (aj (eO (aT aW (bz (v:=.ref T.EI) rfl T.D4 rfl) (aT aW (pv 0) (pv 1) (λ_ _=>rfl)) (λ_ _=>rfl)) (dj rfl (aR (aE (i:=2) nd rfl (Or.inl rfl)) (aR (aE (i:=3) nd rfl (Or.inl rfl)) cj))))
 (aj (bg (i:=4) nd rfl (Or.inl rfl) (di cJ rfl T.Fj dt (ag (ij mV (pv 0) (iE (bx fe (pv 1) ak)) (iE (bx fe (bx fe (pv 1) ak) (pv 3)))) af)))
 (aj (bu (aU oy (aK aM rfl T.DW bF (ag (pv 4) af)) (pv 3) (aY _)) (av ik) aP)
 (av (aG (aI (ag (pv 2) (ag (pv 4) af))))))))),?_⟩
 obtain ⟨hi,h17⟩:=Bx hi
 have hp:p < cells.length:=(List.getElem?_eq_some_iff.mp hc).1
 have ec:c=((c.toNat:Nat):Int):=by omega
 refine aS (K:=K) (b:=false) (RT.as (cX (b:=false) (c:=false) (RT.as (aO (dD (p:=λi j=>decide (j≤i)) (ae h1) (eR (ae h0)))) (decide_eq_false (by omega))) λ_=>RT.as (aO (dD (p:=λi j=>decide (j≤i)) (aZ (k:=p) (ae h0) (ae h1) hc) (eR (mQ T.GM)))) (decide_eq_false (by show ¬ (17:Int)≤c;omega))) rfl) (λc=>nomatch c) (λ_ H1 s1=>?_)
 have h0:=s1.dat h0
 have h1:=s1.dat h1
 refine j4 (K:=K) (d:=.str nm) (e:=.int m) (aZ (k:=c.toNat) (mQ T.GM) (RE.as (aZ (k:=p) (ae h0) (ae h1) hc) (congrArg D.int ec)) hi) λv2 v3 H2 s2 h2 h3=>?_
 have h0:=s2.dat h0
 have h1:=s2.dat h1
 have el:(p:Int)+1=((p+1:Nat):Int):=by omega
 have eh:(p:Int)+1+(m:Int)=((p+1+m:Nat):Int):=by omega
 refine cQ (K:=K) (d:=.tup (ix cells p m)) (RE.as (vS (B4 (lo:=p+1) (hi:=p+1+m) (ae h0) (RE.as (fS (ae h1) ao) (congrArg D.int el)) (RE.as (fS (fS (ae h1) ao) (ae h3)) (congrArg D.int eh)) (by omega) (by omega))) (by unfold ix;rw [show p+1+m - (p+1)=m by omega])) λv4 H3 s3 h4=>?_
 refine aS (K:=K) (b:=false) (RT.as (aO (dD (p:=λi j=>decide (i < j)) (eR (ae h4)) (ae (s3.dat h3)))) (decide_eq_false (by rw [hb];omega))) (λc=>nomatch c) (λ_ H4 s4=>?_)
 exact aX (K:=K) (d:=.tup [.str nm,.tup (ix cells p m)]) (aL (ab (ae (s4.dat (s3.dat h2))) (ab (ae (s4.dat h4)) au))) λv H' s q=>post v H' (s1.trans (s2.trans (s3.trans (s4.trans s)))) q
abbrev SS:List Str:=["put","far","load","add","sub","mul","less","more","twice","about"]
def CK (rec:Nat->Option Bool) (pat:D) (cells:List D) (p:Nat):D->Option Bool
 | .int c=>(match oj c with
  | some (nm,m)=>if (ix cells p m).length=m then (if (!decide (nm ∈ SS) || !((ix cells p m).map (qL pat)).all id)=true then some false else rec (p+1+m)) else none
  | none=>none)
 | _=>none
def lV:Nat->D->List D->Nat->Option Bool
 | 0,_,_,_=>none
 | n+1,pat,cells,p=>match cells[p]? with
  | none=>some true
  | some x=>if cx x 0 99=false then some false else CK (lV n pat cells) pat cells p x
def A7 (ds:List D) (d:D):Prop:=∃ (cells:List D) (pat:D) (b:Bool),ds=[.tup cells,pat]/\ppD 3 pat=true/\cells.length≤100/\lV (cells.length+1) pat cells 0=some b/\d=.bl b
def Dv (σ:L2.St) (_:Hp):Nat:=match σ[2]? with
 | some (some (V.int p))=>(200 - p).toNat
 | _=>0
variable {cells:List D}
theorem Bk {p:Nat}:(ix cells p m).length≤cells.length:=by
 unfold ix
 rw [List.length_take,List.length_drop]
 omega
theorem zj {p:Nat} (h:(ix cells p m).length=m) (hp:p < cells.length):p+1+m≤cells.length:=by
 unfold ix at h
 rw [List.length_take,List.length_drop] at h
 omega
theorem jq (T:Txt P w K mg) (Ed:FnOk P w K mg base CX0 k T.Es T.Ew ["thing","low","high"] (spD K fN)) (IA:FnOk P w K mg base CX0 k T.Eg T.Ei ["cells","place"] (spD K wD)) (JR:FnOk P w K mg base CX0 k T.Hg T.Hk ["thing","pattern"] (spD K wz)):FnOk P w K mg base CX0 (k+1) T.D2 T.D3 ["cells","pattern"] (spD K A7):=by
 refine T.Ey.ok sc_are_instructions (λvs H Q E h=>?_) (λcdv A outer s H vs Q E hr h=>?_)
 ·obtain ⟨ds,d,hd,⟨cells,pat,bb,rfl,_⟩,_⟩:=h;exact hd.length.symm
 have nd:=sc_are_instructions.nd
 obtain ⟨ds,d,hd,⟨cells,pat,bb,rfl,hp,hl,hr2,rfl⟩,post⟩:=h
 obtain ⟨v0,v1,rfl,h0,h1⟩:=fu hd
 refine ⟨_,(aj (bg (i:=2) nd rfl (Or.inl rfl) ak)
 (aj (rR PassesOwn.never (aU oy (pv 2) (aK aM rfl T.DW bF (ag (pv 0) af)) (aY _)) (aj (bu (bU (bo (aA Ed hr rfl T.Fk T.Ez.kp (fw T) .nil aQ (ag (aT aW (pv 0) (pv 2) (λ_ _=>rfl)) (ag ak (ag (bz (v:=.int 99) rfl T.E1 ⟨_,rfl⟩) af)))) (λ_=>rfl))) (av (aG dm)) aP)
 (aj (uB (av (eO (aA IA hr rfl T.Ht T.E3.kp (j9 T) .nil aQ (ag (pv 0) (ag (pv 2) af))) (dj rfl (aR (aE (i:=3) nd rfl (Or.inl rfl)) (aR (aE (i:=4) nd rfl (Or.inl rfl)) cj))))))
 (aj (bu (PW.pt (fg (aU pS (pv 3) (bz (v:=.ref T.Hw) rfl T.F3 rfl) (by with_unfolding_all rfl)) (eP (bU (bo (aK (gw rfl) rfl T.IP jw (ag (cE (own:=["cell"]) (fr:=[1]) (N':=["cell","pattern"]) (iD (pv 4)) rfl (by show bR ["cells","pattern","place","name","behind"] (λx=>(ay cD).names.lookup x) _ _ _ _=true;decide +kernel) rfl (λ_ _ _ _ _=>(aE (i:=0) (by show List.Nodup [("cell":Str),("pattern":Str)];decide +kernel) rfl (Or.inl rfl))) (λ_ _ _ _ _=>bE) (λ_ _ _ _ _=>(aA JR hr rfl T.Jl T.HU.kp (uQ T) .nil aQ (ag (pv 0) (ag (pv 1) af))))) af)) (λ_=>rfl)))))) (av (aG dm)) aP)
 (av (tD (i:=2) nd rfl (Or.inl rfl) (bx fe ak (aK aM rfl T.DW bF (ag (pv 4) af))) pq))))))
 (av (aG dm)))),?_⟩
 refine cU (oG (cV (sx (λσ G=>∃ (p n:Nat) (z3 z4:Option V),σ=[some v0,some v1,some (.int p),z3,z4]/\Same H G/\lV n pat cells p=some bb/\p≤cells.length) Dv ?_ ?_ ?_)))
 ·exact ⟨0,_,none,none,rfl,Same.refl _,hr2,Nat.zero_le _⟩
 ·rintro σ G ⟨p,n,z3,z4,rfl,sG,ha,hpl⟩
  have g0:=sG.dat h0
  have g1:=sG.dat h1
  refine RT.use (b:=decide ((p:Int) < (cells.length:Int))) (aO (dD (p:=λi j=>decide (i < j)) (ae (K:=K) (Dat.intI (p:Int))) (eR (ae g0)))) λG1 s1=>?_
  obtain ⟨n,rfl⟩:∃ m,n=m+1:=by
   cases n with
   | zero=>cases ha
   | succ m=>exact ⟨m,rfl⟩
  by_cases hlt:p < cells.length
  ·rw [decide_eq_true (by omega:(p:Int) < (cells.length:Int))]
   refine zI ?_
   have hx:cells[p]?=some cells[p]:=List.getElem?_eq_getElem hlt
   generalize cells[p]=x at hx
   have ha':(if cx x 0 99=false then some false else CK (lV n pat cells) pat cells p x)=some bb:=by
    have e:lV (n+1) pat cells p=some bb:=ha
    unfold lV at e
    rw [hx] at e
    exact e
   have g0:=s1.dat g0
   have g1:=s1.dat g1
   refine aS (K:=K) (b:=!cx x 0 99) (bB (aV (ba (R:=fN) (ab (aZ (k:=p) (ae g0) (ae (Dat.intI (p:Int))) hx) (ab ao (ab ao au))) ⟨x,0,99,rfl,rfl⟩))) (λcB G2 s2=>?_) (λcB G2 s2=>?_)
   ·rw [if_pos (gX cB)] at ha'
    cases ha'
    exact post _ _ (sG.trans (s1.trans s2)) (Dat.blI _)
   ·have cw:=eK cB
    rw [if_neg (by rw [cw];exact λz=>nomatch z)] at ha'
    cases x with
    | int c =>
     have ha':(match oj c with
      | some (nm,m)=>if (ix cells p m).length=m then (if (!decide (nm ∈ SS) || !((ix cells p m).map (qL pat)).all id)=true then some false else lV n pat cells (p+1+m)) else none
      | none=>none)=some bb:=ha'
     have c0:0≤c:=by
      have z:(decide (0≤c) && decide (c≤99))=true:=cw
      rw [Bool.and_eq_true] at z
      exact of_decide_eq_true z.1
     cases hin:oj c with
     | none=>rw [hin] at ha';cases ha'
     | some nm =>
      obtain ⟨nm,m⟩:=nm
      rw [hin] at ha'
      dsimp only at ha'
      by_cases hb:(ix cells p m).length=m
      ·rw [if_pos hb] at ha'
       have g0:=s2.dat g0
       have g1:=s2.dat g1
       refine j4 (K:=K) (d:=.str nm) (e:=.tup (ix cells p m)) (ba (R:=wD) (ab (ae g0) (ab (ae (Dat.intI (p:Int))) au)) ⟨cells,p,c,nm,m,rfl,hx,c0,hin,hb,rfl⟩) λv3 v4 G3 s3 g3 g4=>?_
       have g1:=s3.dat g1
       have lb:=Bk (cells:=cells) (p:=p) (m:=m)
       refine aS (K:=K) (b:=!decide (nm ∈ SS) || !((ix cells p m).map (qL pat)).all id) (cX (aO (vQ (ys:=SS) (ae g3) (mQ T.IY))) λ_=>bB (aV (iF (mO (ae g4) (by omega) _ (by simp) rfl (λG4 i z vz d s4 hz hi hvz=>?_))))) (λc2 G4 s4=>?_) (λc2 G4 s4=>?_)
       ·rw [List.getElem?_map,List.getElem?_map,hz] at hi
        cases hi
        exact ba (E:=E0) (R:=wz) (ab (ae hvz) (ab (ae (s4.dat g1)) au)) ⟨z,pat,rfl,hp,rfl⟩
       ·rw [if_pos c2] at ha'
        cases ha'
        exact post _ _ (sG.trans (s1.trans (s2.trans (s3.trans s4)))) (Dat.blI _)
       ·rw [if_neg (by rw [c2];exact Bool.false_ne_true)] at ha'
        refine ⟨_,rfl,RE.use (fS (K:=K) ao (eR (ae (s4.dat g4)))) λv5 G5 s5 q5=>?_⟩
        refine ⟨p,1+((ix cells p m).length:Int),rfl,q5.intE,?_⟩
        have ep:(p:Int)+(1+((ix cells p m).length:Int))=((p+1+m:Nat):Int):=by rw [hb];omega
        have he:=zj hb hlt
        refine ⟨⟨p+1+m,n,some v3,some v4,by rw [← ep];rfl,sG.trans (s1.trans (s2.trans (s3.trans (s4.trans s5)))),ha',he⟩,?_⟩
        show (200 - ((p:Int)+(1+((ix cells p m).length:Int)))).toNat < (200 - (p:Int)).toNat
        omega
      ·rw [if_neg hb] at ha'
       cases ha'
    | _=>cases ha'
  ·rw [decide_eq_false (by omega:¬ (p:Int) < (cells.length:Int))]
   refine zH ?_
   have e:lV (n+1) pat cells p=some true:=by
    unfold lV
    rw [List.getElem?_eq_none (by omega)]
   rw [e] at ha
   cases ha
   exact post _ _ (sG.trans s1) (Dat.blI _)
 ·intro σ G Q1 Q2 hQ hc
  obtain ⟨v,e,v',e',p,ys,e2,hq,i,j,e3,e4,b,e5,q⟩:=hc
  exact ⟨v,e,v',e',p,ys,e2,hq,i,j,e3,e4,b,e5,hQ _ _ q⟩
def sR:D->Bool
 | .str x=>decide (x="pick")
 | _=>false
def csD (pat:D):D->Option Bool
 | .tup l=>if (decide (1≤(l.length:Int)) && decide ((l.length:Int)≤12))=false then some false else lV (l.length+1) pat l 0
 | _=>some false
def mK:D->Option Bool
 | .tup [nm,pat,cs]=>if (!i5 nm || (sR nm || !pV pat))=true then some false else csD pat cs
 | _=>some false
def Dw:D->Prop
 | .tup (nm::_)=>AO nm
 | _=>True
def sD (ds:List D) (d:D):Prop:=∃ (x:D) (b:Bool),ds=[x]/\Dw x/\mK x=some b/\d=.bl b
variable {te:TE} {us:TS} {En:iQ} {j:Nat}
theorem qi {K:PySem.W.Frag} {l:Nat} {e f:D} (h:RE K te σ H (.tup [d,e,f])) (q:∀ v w x H',Same H H'->Dat K H' d v->Dat K H' e w->Dat K H' f x->us En (((σ.set i (some v)).set j (some w)).set l (some x)) H') :
  j8 (nE te (vj K 3 (jr (cy i) (jr (cy j) (jr (cy l) xx))))) us En σ H :=
 h.use λx H1 s1 q1=>by
  obtain ⟨a,vs,e1,hq,hd⟩:=q1.tupE
  obtain ⟨v,w,x,e2,hv,hw,hx⟩:=ua hd
  subst e1 e2
  exact ⟨a,_,rfl,hq,rfl,v,_,rfl,w,_,rfl,x,_,rfl,rfl,q v w x H1 s1 hv hw hx⟩
theorem mx {x:D} (h:∀ y,x≠.tup y):lh x "tuple"=false:=by
 cases x with
 | tup y=>exact absurd rfl (h y)
 | _=>rfl
theorem ym {x:D} (h:∀ a b c,x≠.tup [a,b,c]):mK x=some false:=by
 unfold mK
 split
 ·rename_i a b c;exact absurd rfl (h a b c)
 ·rfl
theorem BN {x:D} (h:pV x=true):ppD 3 x=true:=by
 unfold pV at h
 rw [Bool.and_eq_true] at h
 exact h.1
theorem xU {x:D} (h:i5 x=true):∃ y,x=.str y:=by
 cases x with
 | str y=>exact ⟨y,rfl⟩
 | _=>cases h
theorem rE (T:Txt P w K mg) (JT:FnOk P w K mg base CX0 k T.Hi T.Hm ["thing"] (spD K wF)) (Jq:FnOk P w K mg base CX0 k T.Fz T.FG ["thing"] (spD K Bc)) (Ig:FnOk P w K mg base CX0 k T.D2 T.D3 ["cells","pattern"] (spD K A7)):FnOk P w K mg base CX0 (k+1) T.GL T.GQ ["thing"] (spD K sD):=by
 refine T.Hy.ok sc_is_piece (λvs H Q E h=>?_) (λcdv A outer s H vs Q E hr h=>?_)
 ·obtain ⟨ds,d,hd,⟨x,bb,rfl,_⟩,_⟩:=h;exact hd.length.symm
 have nd:=sc_is_piece.nd
 obtain ⟨ds,d,hd,⟨x,bb,rfl,hok,hpc,rfl⟩,post⟩:=h
 obtain ⟨v0,rfl,h0⟩:=gx hd
 refine ⟨_,(aj (bu (PW.pt (fg (bU (bo (aK (dv jS) rfl T.DJ bI (bO (pv 0) (bO (ff (v:=.ty "tuple") rfl T.Fj dt rfl) af))) (λ_=>rfl))) (eP (aU rK (aK aM rfl T.DW bF (ag (pv 0) af)) ak (aY _))))) (av (aG dm)) aP)
 (aj (eO (pv 0) (dj rfl (aR (aE (i:=1) nd rfl (Or.inl rfl)) (aR (aE (i:=2) nd rfl (Or.inl rfl)) (aR (aE (i:=3) nd rfl (Or.inl rfl)) cj)))))
 (aj (bu (PW.pt (fg (bU (bo (aA JT hr rfl T.Jn T.HW.kp (uS T) .nil aQ (ag (pv 1) af)) (λ_=>rfl))) (fg (aU cZ (pv 1) aD (aY _)) (eP (bU (bo (aA Jq hr rfl T.Iv T.Gy.kp (oU T) .nil aQ (ag (pv 2) af)) (λ_=>rfl))))))) (av (aG dm)) aP)
 (aj (bu (PW.pt (fg (bU (bo (aK (dv jS) rfl T.DJ bI (bO (pv 3) (bO (ff (v:=.ty "tuple") rfl T.Fj dt rfl) af))) (λ_=>rfl))) (eP (bU (mN i6 i6 ak (aK aM rfl T.DW bF (ag (pv 3) af)) (bz (v:=.int 12) rfl T.DS ⟨_,rfl⟩)))))) (av (aG dm)) aP)
 (av (aG (aA Ig hr rfl T.GV T.Ey.kp (ju T) .nil aQ (ag (pv 3) (ag (pv 2) af))))))))),?_⟩
 by_cases h3:∃ a b c,x=.tup [a,b,c]
 ·obtain ⟨nm,pat,cs,rfl⟩:=h3
  refine aS (K:=K) (b:=false) (RT.as (cX (b:=false) (c:=false) (RT.as (bB (aV (bN (ae h0)))) rfl) λ_=>RT.as (aO (qa (eR (ae h0)) ao)) rfl) rfl) (λc=>nomatch c) (λ_ H1 s1=>?_)
  refine qi (K:=K) (d:=nm) (e:=pat) (f:=cs) (ae (s1.dat h0)) λv1 v2 v3 H2 s2 h1 h2 h3=>?_
  have hpc':(if (!i5 nm || (sR nm || !pV pat))=true then some false else csD pat cs)=some bb:=hpc
  refine aS (K:=K) (b:=!i5 nm || (sR nm || !pV pat)) (cX (bB (aV (ba (R:=wF) (ab (ae h1) au) ⟨nm,rfl,hok,rfl⟩))) λc=>cX ?_ λ_=>bB (aV (ba (R:=Bc) (ab (ae h2) au) ⟨pat,rfl,rfl⟩))) (λc H3 s3=>?_) (λc H3 s3=>?_)
  ·obtain ⟨y,rfl⟩:=xU (eK c)
   exact aO (bV (ae h1) aF)
  ·rw [if_pos c] at hpc'
   cases hpc'
   exact aX (K:=K) (d:=.bl false) dR λv H' s q=>post v H' (s1.trans (s2.trans (s3.trans s))) q
  ·rw [if_neg (by rw [c];exact Bool.false_ne_true)] at hpc'
   rw [Bool.or_eq_false_iff,Bool.or_eq_false_iff] at c
   have hp:=BN (eK c.2.2)
   have h2:=s3.dat h2
   have h3:=s3.dat h3
   have s13:=s1.trans (s2.trans s3)
   by_cases hc:∃ l,cs=.tup l
   ·obtain ⟨l,rfl⟩:=hc
    have hpc':(if (decide (1≤(l.length:Int)) && decide ((l.length:Int)≤12))=false then some false else lV (l.length+1) pat l 0)=some bb:=hpc'
    refine aS (K:=K) (b:=!(decide (1≤(l.length:Int)) && decide ((l.length:Int)≤12))) (RT.as (cX (b:=false) (RT.as (bB (aV (bN (ae h3)))) rfl) λ_=>bB (aO (jZ (p:=λi j=>decide (i≤j)) (r:=λi j=>decide (i≤j)) ao (eR (ae h3)) λ_=>ao))) (Bool.false_or _)) (λc4 H4 s4=>?_) (λc4 H4 s4=>?_)
    ·rw [if_pos (gX c4)] at hpc'
     cases hpc'
     exact aX (K:=K) (d:=.bl false) dR λv H' s q=>post v H' (s13.trans (s4.trans s)) q
    ·have c5:=eK c4
     rw [if_neg (by rw [c5];exact λz=>nomatch z)] at hpc'
     rw [Bool.and_eq_true] at c5
     have l12:=of_decide_eq_true c5.2
     exact aX (K:=K) (d:=.bl bb) (ba (R:=A7) (ab (ae (s4.dat h3)) (ab (ae (s4.dat h2)) au)) ⟨l,pat,bb,rfl,hp,by omega,hpc',rfl⟩) λv H' s q=>post v H' (s13.trans (s4.trans s)) q
   ·have hc':∀ y,cs≠.tup y:=λy e=>hc ⟨y,e⟩
    have e:bb=false:=by
     cases cs with
     | tup y=>exact absurd rfl (hc' y)
     | _=>cases hpc';rfl
    refine aS (K:=K) (b:=true) (RT.as (cX (b:=true) (c:=true) (RT.as (bB (aV (bN (ae h3)))) (by rw [mx hc'];rfl)) λc=>nomatch c) rfl) (λc4 H4 s4=>?_) (λc=>nomatch c)
    rw [e] at post
    exact aX (K:=K) (d:=.bl false) dR λv H' s q=>post v H' (s13.trans (s4.trans s)) q
 ·have h3':∀ a b c,x≠.tup [a,b,c]:=λa b c e=>h3 ⟨a,b,c,e⟩
  rw [ym h3'] at hpc
  cases hpc
  refine aS (K:=K) (b:=true) ?_ (λc H1 s1=>?_) (λc=>nomatch c)
  ·by_cases ht:∃ l,x=.tup l
   ·obtain ⟨l,rfl⟩:=ht
    refine RT.as (cX (b:=false) (c:=true) (RT.as (bB (aV (bN (ae h0)))) rfl) λ_=>RT.as (aO (qa (eR (ae h0)) ao)) ?_) rfl
    have:¬ (l.length:Int)=3:=λe=>by
     match l,e with
     | [a,b,c],_=>exact h3' a b c rfl
     | [],h=>simp at h
     | [_],h=>simp at h
     | [_,_],h=>simp at h
     | _::_::_::_::_,h=>simp at h;omega
    rw [decide_eq_false this]
    rfl
   ·have ht':∀ y,x≠.tup y:=λy e=>ht ⟨y,e⟩
    exact RT.as (cX (b:=true) (c:=true) (RT.as (bB (aV (bN (ae h0)))) (by rw [mx ht'];rfl)) λc=>nomatch c) rfl
  ·exact aX (K:=K) (d:=.bl false) dR λv H' s q=>post v H' (s1.trans s) q
variable {tA:TA} {Q:VK}
theorem fR {sp:Sp} {dvs:List V} {E:XK} (h:tA σ H λvs H1=>sp (vs++dvs) H1 Q E):mX sp dvs E tA σ H Q:=h
theorem eQ {Q:List V->Hp->Prop} (h:te σ H λx H1=>tA σ H1 λxs H2=>Q (x::xs) H2):bP te tA σ H Q:=h
inductive Pa where
 | hole (i:Int)
 | gap (i m:Int)
 | slot (i:Int)
 | num (n:Int)
 | two (o:Str) (a b:Pa)
def toP:Pa->D
 | .hole i=>.tup [.str "hole",.int i]
 | .gap i m=>.tup [.str "gap",.int i,.int m]
 | .slot i=>.tup [.str "slot",.int i]
 | .num n=>.tup [.str "num",.int n]
 | .two o a b=>.tup [.str o,toP a,toP b]
abbrev okB (o:Str):Prop:=o="add"\/o="sub"\/o="mul"\/o="less"
def gY:Pa->Prop
 | .num n=>0≤n/\n≤9999
 | .two o a b=>okB o/\gY a/\gY b
 | _=>True
def cR:Pa->Nat
 | .two _ a b=>max (cR a) (cR b)+1
 | _=>1
theorem ki (p:Pa):1≤cR p:=by cases p <;> simp [cR]
abbrev Fnd:Type:=List Tr × List Int × List Int
def Cq (f g:Fnd):Fnd:=(f.1++g.1,f.2.1++g.2.1,f.2.2++g.2.2)
def cf:Pa->Tr->Option Fnd
 | .hole _,t=>some ([t],[],[])
 | .gap _ m,.num n=>if n≤m then some ([],[n],[]) else none
 | .gap _ _,_=>none
 | .slot _,.arg k=>some ([],[],[k])
 | .slot _,_=>none
 | .num n,.num m=>if m=n then some ([],[],[]) else none
 | .num _,_=>none
 | .two o a b,.two o' x y=>if o'=o then (match cf a x,cf b y with
  | some f,some g=>some (Cq f g)
  | _,_=>none) else none
 | .two _ _ _,_=>none
def Dt:Pa->Bool
 | .hole _=>true
 | .gap _ _=>true
 | .slot _=>true
 | _=>false
theorem AI (t:Tr) (ht:okX t):∃ kd r,toD t=.tup (.str kd::r)/\(kd="num"↔∃ n,t=.num n)/\(kd="arg"↔∃ n,t=.arg n):=by
 cases t with
 | num n=>exact ⟨_,_,rfl,⟨λ_=>⟨n,rfl⟩,λ_=>rfl⟩,⟨λe=>absurd e (by decide +kernel),λ⟨m,e⟩=>nomatch e⟩⟩
 | arg n=>exact ⟨_,_,rfl,⟨λe=>absurd e (by decide +kernel),λ⟨m,e⟩=>nomatch e⟩,⟨λ_=>⟨n,rfl⟩,λ_=>rfl⟩⟩
 | two o a b =>
  have h:o="add"\/o="sub"\/o="mul"\/o="less":=ht.1
  refine ⟨_,_,rfl,⟨λe=>?_,λ⟨m,e⟩=>nomatch e⟩,⟨λe=>?_,λ⟨m,e⟩=>nomatch e⟩⟩
  ·subst e;exact absurd h (by decide +kernel)
  ·subst e;exact absurd h (by decide +kernel)
 | pick a b c=>exact ⟨_,_,rfl,⟨λe=>absurd e (by decide +kernel),λ⟨m,e⟩=>nomatch e⟩,⟨λe=>absurd e (by decide +kernel),λ⟨m,e⟩=>nomatch e⟩⟩
 | call n=>exact ⟨_,_,rfl,⟨λe=>absurd e (by decide +kernel),λ⟨m,e⟩=>nomatch e⟩,⟨λe=>absurd e (by decide +kernel),λ⟨m,e⟩=>nomatch e⟩⟩
def jF (ds:List D) (d:D):Prop:=∃ p t,ds=[toP p,toD t]/\Dt p=true/\okX t/\d=.bl (cf p t).isSome
theorem xy {i m:Int} (h:∀ n,t≠.num n):cf (.gap i m) t=none:=by
 cases t with
 | num n=>exact absurd rfl (h n)
 | _=>rfl
theorem vW {i:Int} (h:∀ n,t≠.arg n):cf (.slot i) t=none:=by
 cases t with
 | arg n=>exact absurd rfl (h n)
 | _=>rfl
theorem kC (T:Txt P w K mg)  : FnOk P w K mg base CX0 (k+1) T.EB T.EC ["mark","tree"] (spD K jF):=by
 refine T.Fi.ok sc_may_stand_for (λvs H Q E h=>?_) (λcdv A outer s H vs Q E hr h=>?_)
 ·obtain ⟨ds,d,hd,⟨p,t,rfl,_⟩,_⟩:=h;exact hd.length.symm
 have nd:=sc_may_stand_for.nd
 obtain ⟨ds,d,hd,⟨p,t,rfl,hm,ht,rfl⟩,post⟩:=h
 obtain ⟨v0,v1,rfl,h0,h1⟩:=fu hd
 refine ⟨_,(aj (bu (aU cZ (aT aW (pv 0) ak (λ_ _=>rfl)) aD (aY _)) (av (aG (iC (cH cZ (aT aW (pv 1) ak (λ_ _=>rfl)) aD (aY _)) (gZ (cH i6 (aT aW (pv 1) ak (λ_ _=>rfl)) (aT aW (pv 0) ak (λ_ _=>rfl)) (aY _)))))) aP)
 (av (aG (yf (cH cZ (aT aW (pv 0) ak (λ_ _=>rfl)) aD (aY _)) (gZ (cH cZ (aT aW (pv 1) ak (λ_ _=>rfl)) aD (aY _))))))),?_⟩
 obtain ⟨kd,r,ek,hnum,harg⟩:=AI t ht
 have h1':Dat K H (.tup (.str kd::r)) v1:=by rw [← ek];exact h1
 cases p with
 | hole i =>
  have h0:Dat K H (.tup [.str "hole",.int i]) v0:=h0
  refine aS (K:=K) (b:=false) (RT.as (aO (bV (aZ (k:=0) (ae h0) ao rfl) aF)) (decide_eq_false (by decide +kernel))) (λc=>nomatch c) (λ_ H1 s1=>?_)
  exact aX (K:=K) (d:=.bl true) (RE.as (uE (b:=true) (c:=true) (RE.as (bV (aZ (k:=0) (ae (s1.dat h0)) ao rfl) aF) (congrArg D.bl (decide_eq_true rfl))) λc=>nomatch c) rfl) λv H' s q=>post v H' (s1.trans s) q
 | gap i m =>
  have h0:Dat K H (.tup [.str "gap",.int i,.int m]) v0:=h0
  refine aS (K:=K) (b:=true) (RT.as (aO (bV (aZ (k:=0) (ae h0) ao rfl) aF)) (decide_eq_true rfl)) (λ_ H1 s1=>?_) (λc=>nomatch c)
  by_cases hn:∃ n,t=.num n
  ·obtain ⟨n,rfl⟩:=hn
   have h1:Dat K H (.tup [.str "num",.int n]) v1:=h1
   refine aX (K:=K) (d:=.bl (decide (n≤m))) (RE.as (cF (b:=true) (RE.as (bV (aZ (k:=0) (ae (s1.dat h1)) ao rfl) aF) (congrArg D.bl (decide_eq_true rfl))) λ_=>dD (p:=λi j=>decide (i≤j)) (aZ (k:=1) (ae (s1.dat h1)) ao rfl) (aZ (k:=2) (ae (s1.dat h0)) ao rfl)) rfl) λv H' s q=>post v H' (s1.trans s) ?_
   have e:(cf (.gap i m) (.num n)).isSome=decide (n≤m):=by
    show (if n≤m then some _ else none).isSome=_
    by_cases z:n≤m
    ·rw [if_pos z,decide_eq_true z];rfl
    ·rw [if_neg z,decide_eq_false z];rfl
   rw [e]
   exact q
  ·refine aX (K:=K) (d:=.bl false) (RE.as (cF (b:=false) (c:=true) (RE.as (bV (aZ (k:=0) (ae (s1.dat h1')) ao rfl) aF) (congrArg D.bl (decide_eq_false (λe=>hn (hnum.mp e))))) λc=>nomatch c) rfl) λv H' s q=>post v H' (s1.trans s) ?_
   rw [xy λn e=>hn ⟨n,e⟩]
   exact q
 | slot i =>
  have h0:Dat K H (.tup [.str "slot",.int i]) v0:=h0
  refine aS (K:=K) (b:=false) (RT.as (aO (bV (aZ (k:=0) (ae h0) ao rfl) aF)) (decide_eq_false (by decide +kernel))) (λc=>nomatch c) (λ_ H1 s1=>?_)
  refine aX (K:=K) (d:=.bl (decide (kd="arg"))) (RE.as (uE (b:=false) (RE.as (bV (aZ (k:=0) (ae (s1.dat h0)) ao rfl) aF) (congrArg D.bl (decide_eq_false (by decide +kernel)))) λ_=>bV (aZ (k:=0) (ae (s1.dat h1')) ao rfl) aF) (congrArg D.bl (Bool.false_or _))) λv H' s q=>post v H' (s1.trans s) ?_
  by_cases ha:∃ n,t=.arg n
  ·rw [decide_eq_true (harg.mpr ha)] at q
   obtain ⟨n,rfl⟩:=ha
   exact q
  ·rw [decide_eq_false (λe=>ha (harg.mp e))] at q
   rw [vW λn e=>ha ⟨n,e⟩]
   exact q
 | num n=>cases hm
 | two o a b=>cases hm
def r8 (K:PySem.W.Frag) (o:Addr->Addr->Addr->HO) (n:Nat):Sp:=λvs H Q _=>∃ (p:Pa) (t:Tr) (v0 v1:V) (f l0 l1 l2:Addr) (a b c:List V),vs=[v0,v1,.ref f]/\gY p/\okX t/\aH t≤8/\cR p≤n/\n≤3/\Dat K H (toP p) v0/\Dat K H (toD t) v1 /\
 H f=some (o l0 l1 l2)/\f≠l0/\f≠l1/\f≠l2/\Tri l0 l1 l2 H a b c/\a.length+2 ^ n≤100/\b.length+2 ^ n≤100/\c.length+2 ^ n≤100 /\
 ∀ (H':Hp) (a' b' c':List V),But3 l0 l1 l2 H H'->Tri l0 l1 l2 H' (a++a') (b++b') (c++c')->a'.length≤2 ^ n->b'.length≤2 ^ n->c'.length≤2 ^ n ->
  (∀ fd:Fnd,cf p t=some fd->Dats K H' (fd.1.map toD) a'/\Dats K H' (fd.2.1.map D.int) b'/\Dats K H' (fd.2.2.map D.int) c')->Q (.bl (cf p t).isSome) H'
def oD (l0 l1 l2:Addr):HO:=.dK [(Sum.inr "hole",.ref l0),(Sum.inr "gap",.ref l1),(Sum.inr "slot",.ref l2)]
theorem uv (l0 l1 l2:Addr):jE ([(Sum.inr "hole",V.ref l0),(Sum.inr "gap",.ref l1),(Sum.inr "slot",.ref l2)]:List (Key × V)) (Sum.inr "hole")=some (.ref l0):=rfl
theorem xZ (l0 l1 l2:Addr):jE ([(Sum.inr "hole",V.ref l0),(Sum.inr "gap",.ref l1),(Sum.inr "slot",.ref l2)]:List (Key × V)) (Sum.inr "gap")=some (.ref l1):=rfl
theorem uw (l0 l1 l2:Addr):jE ([(Sum.inr "hole",V.ref l0),(Sum.inr "gap",.ref l1),(Sum.inr "slot",.ref l2)]:List (Key × V)) (Sum.inr "slot")=some (.ref l2):=rfl
theorem xA {f:Addr} {kvs:List (Key × V)} {x:Str} {v:V} (h:H f=some (.dK kvs)) (e:jE kvs (Sum.inr x)=some v):DGet H f (.str x) (some v):=by
 have g:=DGet.k (k:=Sum.inr x) h
 rw [e] at g
 exact g
theorem m4 {k:Str} (h:k="hole"\/k="gap"\/k="slot"):KTD.inKeys k TM=true:=by
 rcases h with rfl | rfl | rfl <;> decide +kernel
variable {o:Str}
theorem zi (h:okB o):KTD.inKeys o TM=false/\¬ o="num":=by
 rcases h with rfl | rfl | rfl | rfl <;> decide +kernel
theorem BY (n:Nat):1≤2 ^ n:=Nat.one_le_iff_ne_zero.mpr (by simp)
theorem tF {α:Type} {x y:List α} (h1:x.length≤2 ^ n) (h2:y.length≤2 ^ n):(x++y).length≤2 ^ (n+1):=by
 rw [List.length_append,Nat.pow_succ];omega
variable {a:Pa} {y:Tr}
theorem dH {o':Str} {b:Pa} {fd:Fnd} (h:cf (.two o a b) (.two o' x y)=some fd):o'=o/\∃ f g,cf a x=some f/\cf b y=some g/\fd=Cq f g:=by
 unfold cf at h
 by_cases e:o'=o
 ·rw [if_pos e] at h
  cases h1:cf a x with
  | none=>rw [h1] at h;cases h
  | some f =>
   cases h2:cf b y with
   | none=>rw [h1,h2] at h;cases h
   | some g =>
    rw [h1,h2] at h
    cases h
    exact ⟨e,f,g,rfl,rfl,rfl⟩
 ·rw [if_neg e] at h;cases h
theorem kQ {b:Pa} (h:cf a x=none):cf (.two o a b) (.two o x y)=none:=by
 unfold cf
 rw [if_pos rfl,h]
theorem sN {b:Pa} {f:Fnd} (h:cf a x=some f):(cf (.two o a b) (.two o x y)).isSome=(cf b y).isSome:=by
 show (if o=o then _ else none:Option Fnd).isSome=_
 rw [if_pos rfl,h]
 cases cf b y <;> rfl
variable {kd:Str}
theorem xr {b:Pa} (hp:okB o) (ek:toD t=.tup (.str kd::r)) (h:¬ kd=o):cf (.two o a b) t=none:=by
 cases t with
 | two o' x y =>
  unfold cf
  rw [if_neg]
  intro e
  apply h
  have z:toD (.two o' x y)=.tup [.str o',toD x,toD y]:=rfl
  rw [z] at ek
  injection ek with ek
  injection ek with ek _
  injection ek with ek
  rw [← ek,e]
 | _=>rfl
theorem xC (ho:okB o) (ek:toD t=.tup (.str kd::r)) (h:kd=o):∃ x y,t=.two o x y:=by
 subst h
 cases t with
 | two o' x y =>
  have z:toD (.two o' x y)=.tup [.str o',toD x,toD y]:=rfl
  rw [z] at ek
  injection ek with ek
  injection ek with ek _
  injection ek with ek
  subst ek
  exact ⟨x,y,rfl⟩
 | num n =>
  have z:toD (.num n)=.tup [.str "num",.int n]:=rfl
  rw [z] at ek
  injection ek with ek
  injection ek with ek _
  injection ek with ek
  subst ek
  exact absurd ho (by decide +kernel)
 | arg n =>
  have z:toD (.arg n)=.tup [.str "arg",.int n]:=rfl
  rw [z] at ek
  injection ek with ek
  injection ek with ek _
  injection ek with ek
  subst ek
  exact absurd ho (by decide +kernel)
 | call n =>
  have z:toD (.call n)=.tup [.str "call",.int n]:=rfl
  rw [z] at ek
  injection ek with ek
  injection ek with ek _
  injection ek with ek
  subst ek
  exact absurd ho (by decide +kernel)
 | pick x y u =>
  have z:toD (.pick x y u)=.tup [.str "pick",toD x,toD y,toD u]:=rfl
  rw [z] at ek
  injection ek with ek
  injection ek with ek _
  injection ek with ek
  subst ek
  exact absurd ho (by decide +kernel)
theorem zP {o:Addr->Addr->Addr->HO} (vs:List V) (H:Hp) (Q:VK) (E:XK):¬ r8 K o 0 vs H Q E:=λ⟨p,_,_,_,_,_,_,_,_,_,_,_,_,_,_,h,_⟩=>by
 have:=ki p
 omega
theorem tp (T:Txt P w K mg) (IR:FnOk P w K mg base CX0 k T.EB T.EC ["mark","tree"] (spD K jF)) (HS:FnOk P w K mg base CX0 k T.FV T.FY ["pattern","tree","found"] (r8 K oD n)):FnOk P w K mg base CX0 (k+1) T.FV T.FY ["pattern","tree","found"] (r8 K oD (n+1)):=by
 refine T.GH.ok sc_matches (λvs H Q E h=>?_) (λcdv A outer s H vs Q E hr h=>?_)
 ·obtain ⟨p,t,v0,v1,f,l0,l1,l2,a,b,c,rfl,_⟩:=h;rfl
 have nd:=sc_matches.nd
 obtain ⟨p,t,v0,v1,f,l0,l1,l2,a,b,c,rfl,okp,okt,dpt,hn,hn3,h0,h1,hf,f0,f1,f2,tri,la,lb,lc,post⟩:=h
 refine ⟨_,(aj (bg (i:=3) nd rfl (Or.inl rfl) (aT aW (pv 0) ak (λ_ _=>rfl)))
 (aj (bu (aU jX (pv 3) (bz (v:=.ref T.D1) rfl T.DU rfl) (by with_unfolding_all rfl)) (aj (bu (bU (bo (aA IR hr rfl T.HE T.Fi.kp (kX T) .nil aQ (ag (pv 0) (ag (pv 1) af))) (λ_=>rfl))) (av (aG dm)) aP)
 (aj (bC (de PySem.F.plainAttrs_list PySem.F.slot_list_append PySem.F.type_list_append cg (lH (uj hr) (pv 2) (pv 3) (λ_ _=>rfl)) (ag (rO (aU cZ (pv 3) aD (aY _)) (pv 1) (aT aW (pv 1) ak (λ_ _=>rfl))) af)))
 (av (aG dm)))) aP)
 (aj (bu (aU rK (aT aW (pv 1) ak (λ_ _=>rfl)) (pv 3) (aY _)) (av (aG dm)) aP)
 (aj (bu (aU cZ (pv 3) aD (aY _)) (av (aG (cH cZ (aT aW (pv 1) ak (λ_ _=>rfl)) (aT aW (pv 0) ak (λ_ _=>rfl)) (aY _)))) aP)
 (av (aG (iC (aA HS hr rfl T.Ia T.GH.kp (kg T) .nil aQ (ag (aT aW (pv 0) ak (λ_ _=>rfl)) (ag (aT aW (pv 1) ak (λ_ _=>rfl)) (ag (pv 2) af)))) (gZ (aA HS hr rfl T.Ia T.GH.kp (kg T) .nil aQ (ag (aT aW (pv 0) ak (λ_ _=>rfl)) (ag (aT aW (pv 1) ak (λ_ _=>rfl)) (ag (pv 2) af)))))))))))),?_⟩
 obtain ⟨kd,r,ek,hnum,harg⟩:=AI t okt
 have hf':∀ {G:Hp},But3 l0 l1 l2 H G->G f=some (oD l0 l1 l2):=λbb=>bb _ _ f0 f1 f2 hf
 have p1:=BY (n+1)
 have p2:2 ^ (n+1)=2 * 2 ^ n:=by rw [Nat.pow_succ,Nat.mul_comm]
 cases p with
 | hole i =>
  have h0:Dat K H (.tup [.str "hole",.int i]) v0:=h0
  refine cQ (K:=K) (d:=.str "hole") (aZ (k:=0) (ae h0) ao rfl) λv3 H1 s1 q3=>?_
  have ev:=q3.strE
  subst ev
  refine aS (K:=K) (b:=true) (RT.as (aO (fK (ae q3) T.DG)) (m4 (.inl rfl))) (λ_ H2 s2=>?_) (λc=>nomatch c)
  have s12:=s1.trans s2
  refine aS (K:=K) (b:=!true) (bB (aV (ba (R:=jF) (d:=.bl true) (ab (ae (s12.dat h0)) (ab (ae (s12.dat h1)) au)) ⟨.hole i,t,rfl,rfl,okt,rfl⟩))) (λc=>nomatch c) (λ_ H3 s3=>?_)
  have s13:=s12.trans s3
  refine cV ⟨_,rfl,_,rfl,f,.ref l0,rfl,xA (s13 _ _ hf) (uv l0 l1 l2),.inl ⟨rfl,_,SqL.of (s13 _ _ tri.h0)⟩,?_⟩
  refine RE.use (K:=K) (d:=toD t) (yC (b:=true) (RT.as (aO (K:=K) (bV (ae (Dat.strI "hole")) aF)) (decide_eq_true rfl)) (λ_=>ae (s13.dat h1)) (λc=>nomatch c)) λy H4 s4 q4=>?_
  have s14:=s13.trans s4
  have tri4:=tri.same s14
  refine ⟨l0,a,y,rfl,rfl,tri4.h0,ck (by omega),?_⟩
  obtain ⟨t5,b5⟩:=tri4.p0 (v:=y)
  refine post _ [y] [] [] (s14.but3.trans b5) t5 (by simpa using p1) (by simp) (by simp) λfd e=>?_
  cases e
  exact ⟨Dats.cons (Dat.mono (b5.grow tri4 t5) _ q4) Dats.nil,Dats.nil,Dats.nil⟩
 | gap i m =>
  have h0:Dat K H (.tup [.str "gap",.int i,.int m]) v0:=h0
  refine cQ (K:=K) (d:=.str "gap") (aZ (k:=0) (ae h0) ao rfl) λv3 H1 s1 q3=>?_
  have ev:=q3.strE
  subst ev
  refine aS (K:=K) (b:=true) (RT.as (aO (fK (ae q3) T.DG)) (m4 (.inr (.inl rfl)))) (λ_ H2 s2=>?_) (λc=>nomatch c)
  have s12:=s1.trans s2
  refine aS (K:=K) (b:=!(cf (.gap i m) t).isSome) (bB (aV (ba (R:=jF) (ab (ae (s12.dat h0)) (ab (ae (s12.dat h1)) au)) ⟨.gap i m,t,rfl,rfl,okt,rfl⟩))) (λcN H3 s3=>?_) (λcS H3 s3=>?_)
  ·have s13:=s12.trans s3
   have e:(cf (.gap i m) t).isSome=false:=gX cN
   refine aX (K:=K) (d:=.bl false) dR λv H' s qq=>?_
   rw [qq.blE,← e]
   have s14:=s13.trans s
   exact post _ [] [] [] s14.but3 (tri.same s14).nil (by simp) (by simp) (by simp) λfd z=>by rw [z] at e;cases e
  ·have s13:=s12.trans s3
   obtain ⟨nn,rfl⟩:∃ nn,t=.num nn:=by
    have cS':=eK cS
    cases t with
    | num nn=>exact ⟨nn,rfl⟩
    | _=>cases cS'
   have h1:Dat K H (.tup [.str "num",.int nn]) v1:=h1
   refine cV ⟨_,rfl,_,rfl,f,.ref l1,rfl,xA (s13 _ _ hf) (xZ l0 l1 l2),.inl ⟨rfl,_,SqL.of (s13 _ _ tri.h1)⟩,?_⟩
   refine RE.use (K:=K) (d:=.int nn) (yC (b:=false) (RT.as (aO (K:=K) (bV (ae (Dat.strI "gap")) aF)) (decide_eq_false (by decide +kernel))) (λc=>nomatch c) (λ_=>aZ (k:=1) (ae (s13.dat h1)) ao rfl)) λy H4 s4 q4=>?_
   have s14:=s13.trans s4
   have tri4:=tri.same s14
   refine ⟨l1,b,y,rfl,rfl,tri4.h1,ck (by omega),?_⟩
   obtain ⟨t5,b5⟩:=tri4.p1 (v:=y)
   have e:=eK cS
   show Q (.bl true) _
   rw [← e]
   refine post _ [] [y] [] (s14.but3.trans b5) t5 (by simp) (by simpa using p1) (by simp) λfd z=>?_
   have z':(if nn≤m then some ([],[nn],[]) else none:Option Fnd)=some fd:=z
   by_cases hm:nn≤m
   ·rw [if_pos hm] at z'
    cases z'
    exact ⟨Dats.nil,Dats.cons (Dat.mono (b5.grow tri4 t5) _ q4) Dats.nil,Dats.nil⟩
   ·rw [if_neg hm] at z'
    cases z'
 | slot i =>
  have h0:Dat K H (.tup [.str "slot",.int i]) v0:=h0
  refine cQ (K:=K) (d:=.str "slot") (aZ (k:=0) (ae h0) ao rfl) λv3 H1 s1 q3=>?_
  have ev:=q3.strE
  subst ev
  refine aS (K:=K) (b:=true) (RT.as (aO (fK (ae q3) T.DG)) (m4 (.inr (.inr rfl)))) (λ_ H2 s2=>?_) (λc=>nomatch c)
  have s12:=s1.trans s2
  refine aS (K:=K) (b:=!(cf (.slot i) t).isSome) (bB (aV (ba (R:=jF) (ab (ae (s12.dat h0)) (ab (ae (s12.dat h1)) au)) ⟨.slot i,t,rfl,rfl,okt,rfl⟩))) (λcN H3 s3=>?_) (λcS H3 s3=>?_)
  ·have s13:=s12.trans s3
   have e:(cf (.slot i) t).isSome=false:=gX cN
   refine aX (K:=K) (d:=.bl false) dR λv H' s qq=>?_
   rw [qq.blE,← e]
   have s14:=s13.trans s
   exact post _ [] [] [] s14.but3 (tri.same s14).nil (by simp) (by simp) (by simp) λfd z=>by rw [z] at e;cases e
  ·have s13:=s12.trans s3
   obtain ⟨nn,rfl⟩:∃ nn,t=.arg nn:=by
    have cS':=eK cS
    cases t with
    | arg nn=>exact ⟨nn,rfl⟩
    | _=>cases cS'
   have h1:Dat K H (.tup [.str "arg",.int nn]) v1:=h1
   refine cV ⟨_,rfl,_,rfl,f,.ref l2,rfl,xA (s13 _ _ hf) (uw l0 l1 l2),.inl ⟨rfl,_,SqL.of (s13 _ _ tri.h2)⟩,?_⟩
   refine RE.use (K:=K) (d:=.int nn) (yC (b:=false) (RT.as (aO (K:=K) (bV (ae (Dat.strI "slot")) aF)) (decide_eq_false (by decide +kernel))) (λc=>nomatch c) (λ_=>aZ (k:=1) (ae (s13.dat h1)) ao rfl)) λy H4 s4 q4=>?_
   have s14:=s13.trans s4
   have tri4:=tri.same s14
   refine ⟨l2,c,y,rfl,rfl,tri4.h2,ck (by omega),?_⟩
   obtain ⟨t5,b5⟩:=tri4.p2 (v:=y)
   have e:=eK cS
   show Q (.bl true) _
   rw [← e]
   refine post _ [] [] [y] (s14.but3.trans b5) t5 (by simp) (by simp) (by simpa using p1) λfd z=>?_
   cases z
   exact ⟨Dats.nil,Dats.nil,Dats.cons (Dat.mono (b5.grow tri4 t5) _ q4) Dats.nil⟩
 | num m =>
  have h0:Dat K H (.tup [.str "num",.int m]) v0:=h0
  have h1':Dat K H (.tup (.str kd::r)) v1:=by rw [← ek];exact h1
  refine cQ (K:=K) (d:=.str "num") (aZ (k:=0) (ae h0) ao rfl) λv3 H1 s1 q3=>?_
  refine aS (K:=K) (b:=false) (RT.as (aO (fK (ae q3) T.DG)) (by decide +kernel)) (λc=>nomatch c) (λ_ H2 s2=>?_)
  have s12:=s1.trans s2
  refine aS (K:=K) (b:=!decide (kd="num")) (aO (tI (aZ (k:=0) (ae (s12.dat h1')) ao rfl) (ae (s2.dat q3)))) (λcN H3 s3=>?_) (λcS H3 s3=>?_)
  ·have s13:=s12.trans s3
   have hne:¬ kd="num":=of_decide_eq_false (gX cN)
   have e:cf (.num m) t=none:=by
    cases t with
    | num n=>exact absurd (hnum.mpr ⟨n,rfl⟩) hne
    | _=>rfl
   refine aX (K:=K) (d:=.bl false) dR λv H' s qq=>?_
   rw [qq.blE]
   have s14:=s13.trans s
   have pz:=post _ [] [] [] s14.but3 (tri.same s14).nil (by simp) (by simp) (by simp) λfd z=>by rw [e] at z;cases z
   rw [e] at pz
   exact pz
  ·have s13:=s12.trans s3
   obtain ⟨nn,rfl⟩:=hnum.mp (of_decide_eq_true (eK cS))
   have h1:Dat K H (.tup [.str "num",.int nn]) v1:=h1
   refine aS (K:=K) (b:=true) (RT.as (aO (bV (ae ((s2.trans s3).dat q3)) aF)) (decide_eq_true rfl)) (λ_ H4 s4=>?_) (λc=>nomatch c)
   have s14:=s13.trans s4
   refine aX (K:=K) (d:=.bl (decide (nn=m))) (pZ (aZ (k:=1) (ae (s14.dat h1)) ao rfl) (aZ (k:=1) (ae (s14.dat h0)) ao rfl)) λv H' s qq=>?_
   rw [qq.blE]
   have s15:=s14.trans s
   have pz:=post _ [] [] [] s15.but3 (tri.same s15).nil (by simp) (by simp) (by simp) λfd z=>by
    have z':(if nn=m then some ([],[],[]) else none:Option Fnd)=some fd:=z
    by_cases hm:nn=m
    ·rw [if_pos hm] at z'
     cases z'
     exact ⟨Dats.nil,Dats.nil,Dats.nil⟩
    ·rw [if_neg hm] at z'
     cases z'
   have e:(cf (.num m) (.num nn)).isSome=decide (nn=m):=by
    show (if nn=m then some _ else none:Option Fnd).isSome=_
    by_cases hm:nn=m
    ·rw [if_pos hm,decide_eq_true hm];rfl
    ·rw [if_neg hm,decide_eq_false hm];rfl
   rw [e] at pz
   exact pz
 | two o pa pb =>
  have h0:Dat K H (.tup [.str o,toP pa,toP pb]) v0:=h0
  have h1':Dat K H (.tup (.str kd::r)) v1:=by rw [← ek];exact h1
  obtain ⟨b1,b2⟩:=zi okp.1
  refine cQ (K:=K) (d:=.str o) (aZ (k:=0) (ae h0) ao rfl) λv3 H1 s1 q3=>?_
  refine aS (K:=K) (b:=false) (RT.as (aO (fK (ae q3) T.DG)) b1) (λc=>nomatch c) (λ_ H2 s2=>?_)
  have s12:=s1.trans s2
  refine aS (K:=K) (b:=!decide (kd=o)) (aO (tI (aZ (k:=0) (ae (s12.dat h1')) ao rfl) (ae (s2.dat q3)))) (λcN H3 s3=>?_) (λcS H3 s3=>?_)
  ·have s13:=s12.trans s3
   have e:=xr (a:=pa) (b:=pb) okp.1 ek (of_decide_eq_false (gX cN))
   refine aX (K:=K) (d:=.bl false) dR λv H' s qq=>?_
   rw [qq.blE]
   have s14:=s13.trans s
   have pz:=post _ [] [] [] s14.but3 (tri.same s14).nil (by simp) (by simp) (by simp) λfd z=>by rw [e] at z;cases z
   rw [e] at pz
   exact pz
  ·have s13:=s12.trans s3
   obtain ⟨x,y,rfl⟩:=xC okp.1 ek (of_decide_eq_true (eK cS))
   have h1:Dat K H (.tup [.str o,toD x,toD y]) v1:=h1
   refine aS (K:=K) (b:=false) (RT.as (aO (bV (ae ((s2.trans s3).dat q3)) aF)) (decide_eq_false b2)) (λc=>nomatch c) (λ_ H4 s4=>?_)
   have s14:=s13.trans s4
   have dpa:cR pa≤n:=by simp only [cR] at hn;omega
   have dpb:cR pb≤n:=by simp only [cR] at hn;omega
   have dpx:aH x≤8:=by simp only [aH] at dpt;omega
   have dpy:aH y≤8:=by simp only [aH] at dpt;omega
   refine RE.use (K:=K) (d:=toP pa) (aZ (k:=1) (ae (s14.dat h0)) ao rfl) λw0 H5 s5 q5=>?_
   refine RE.use (K:=K) (d:=toD x) (aZ (k:=1) (ae ((s14.trans s5).dat h1)) ao rfl) λw1 H6 s6 q6=>?_
   have s16:=s14.trans (s5.trans s6)
   have tri6:=tri.same s16
   refine ⟨_,rfl,pa,x,w0,w1,f,l0,l1,l2,a,b,c,rfl,okp.2.1,okt.2.1,dpx,dpa,by omega,s6.dat q5,q6,s16 _ _ hf,f0,f1,f2,tri6,by omega,by omega,by omega,λH7 a1 b1' c1 bb7 tri7 ka kb kc d7=>?_⟩
   refine ⟨_,rfl,?_⟩
   have n8:2 ^ n≤8:=by
    have:n≤3:=by omega
    match n,this with
    | 0,_=>decide
    | 1,_=>decide
    | 2,_=>decide
    | 3,_=>decide
   have g67:cO K H6 H7:=bb7.grow tri6 tri7
   have bb17:But3 l0 l1 l2 H H7:=s16.but3.trans bb7
   cases hfa:cf pa x with
   | none =>
    refine zH ?_
    have pz:=post H7 a1 b1' c1 bb17 tri7 (Nat.le_trans ka (Nat.pow_le_pow_right (by decide) (by omega))) (Nat.le_trans kb (Nat.pow_le_pow_right (by decide) (by omega))) (Nat.le_trans kc (Nat.pow_le_pow_right (by decide) (by omega))) λfd z=>by rw [kQ hfa] at z;cases z
    rw [kQ hfa] at pz
    exact pz
   | some fa =>
    refine zI ?_
    obtain ⟨da,db,dc⟩:=d7 fa hfa
    refine fR (eQ (RE.use (K:=K) (d:=toP pb) (aZ (k:=2) (ae (Dat.mono g67 _ (s16.dat h0))) ao rfl) λw2 H8 s8 q8=>?_))
    refine eQ (RE.use (K:=K) (d:=toD y) (aZ (k:=2) (ae (s8.dat (Dat.mono g67 _ (s16.dat h1)))) ao rfl) λw3 H9 s9 q9=>?_)
    have s79:=s8.trans s9
    have tri9:=tri7.same s79
    refine ⟨_,rfl,pb,y,w2,w3,f,l0,l1,l2,a++a1,b++b1',c++c1,rfl,okp.2.2,okt.2.2,dpy,dpb,by omega,s9.dat q8,q9,s79 _ _ (hf' bb17),f0,f1,f2,tri9,by rw [List.length_append];omega,by rw [List.length_append];omega,by rw [List.length_append];omega,λH10 a2 b2' c2 bb10 tri10 ma mb mc d10=>?_⟩
    have g:=bb10.grow (K:=K) tri9 tri10
    rw [List.append_assoc,List.append_assoc,List.append_assoc] at tri10
    have pz:=post H10 (a1++a2) (b1'++b2') (c1++c2) (bb17.trans (s79.but3.trans bb10)) tri10 (tF ka ma) (tF kb mb) (tF kc mc) λfd z=>by
     obtain ⟨_,f',g',e1,e2,e3⟩:=dH z
     rw [hfa] at e1
     cases e1
     obtain ⟨da2,db2,dc2⟩:=d10 g' e2
     subst e3
     refine ⟨?_,?_,?_⟩
     ·show Dats K H10 ((fa.1++g'.1).map toD) _
      rw [List.map_append]
      exact Dats.append (Dats.mono g _ (s79.dats da)) da2
     ·show Dats K H10 ((fa.2.1++g'.2.1).map D.int) _
      rw [List.map_append]
      exact Dats.append (Dats.mono g _ (s79.dats db)) db2
     ·show Dats K H10 ((fa.2.2++g'.2.2).map D.int) _
      rw [List.map_append]
      exact Dats.append (Dats.mono g _ (s79.dats dc)) dc2
    rw [sN hfa] at pz
    exact pz
def fdD:Option Fnd->D
 | none=>.non
 | some f=>.tup [.tup (f.1.map toD),.tup (f.2.1.map D.int),.tup (f.2.2.map D.int)]
def lQ (ds:List D) (d:D):Prop:=∃ nm p cs t,ds=[.tup [nm,toP p,cs],toD t]/\gY p/\okX t/\aH t≤8/\cR p≤3/\d=fdD (cf p t)
theorem BF (x y z:V):kq [] ([(Sum.inr (Str.ofString "hole"),x),(Sum.inr (Str.ofString "gap"),y),(Sum.inr (Str.ofString "slot"),z)]:List (Key × V))=[(Sum.inr (Str.ofString "hole"),x),(Sum.inr (Str.ofString "gap"),y),(Sum.inr (Str.ofString "slot"),z)]:=rfl
theorem CW {K:PySem.W.Frag} {ts:TS} (h:te σ H λx H'=>∃ k,uP K x H' k/\if (!k)=true then ts { En with nx:=us En } σ H' else us En σ H'):j8 (Az (Cd (λσ H Q=>te σ H λx H'=>∃ k,uP K x H' k/\Q k H')) ts uL) us En σ H:=h
theorem rD (T:Txt P w K mg) (HS:FnOk P w K mg base CX0 k T.FV T.FY ["pattern","tree","found"] (r8 K oD 3)):FnOk P w K mg base CX0 (k+1) T.FU T.FX ["piece","tree"] (spD K lQ):=by
 refine T.GS.ok sc_found_in (λvs H Q E h=>?_) (λcdv A outer s H vs Q E hr h=>?_)
 ·obtain ⟨ds,d,hd,⟨nm,p,cs,t,rfl,_⟩,_⟩:=h;exact hd.length.symm
 have nd:=sc_found_in.nd
 obtain ⟨ds,d,hd,⟨nm,p,cs,t,rfl,okp,okt,dpt,dpp,rfl⟩,post⟩:=h
 obtain ⟨v0,v1,rfl,h0,h1⟩:=fu hd
 refine' ⟨_,?ybody,?yread⟩
 case ybody =>
  refine' aj ?y26 ?y27
  case y26 =>
   refine' bg (i:=2) ?y15 ?y16 ?y17 ?y18
   case y15=>exact nd
   case y16=>exact rfl
   case y17=>exact Or.inl rfl
   case y18 =>
    refine' zZ ?y10 ?y11 ?y12 ?y13 ?y14
    case y10 =>
     refine' mM ?y7 ?y8 ?y9
     case y7=>exact aD
     case y8=>exact (bA af)
     case y9 =>
      refine' mM ?y4 ?y5 ?y6
      case y4=>exact aD
      case y5=>exact (bA af)
      case y6 =>
       refine' mM ?y1 ?y2 ?y3
       case y1=>exact aD
       case y2=>exact (bA af)
       case y3=>exact Ac
    case y11=>exact rfl
    case y12=>exact rfl
    case y13=>simp
    case y14=>decide
  case y27 =>
   refine' aj ?y24 ?y25
   case y24 =>
    refine' bu ?y20 ?y21 ?y22
    case y20=>exact (bU (bo (aA HS hr rfl T.Ia T.GH.kp (kg T) .nil aQ (ag (aT aW (pv 0) ak (λ_ _=>rfl)) (ag (pv 1) (ag (pv 2) af)))) (λ_=>rfl)))
    case y21 =>
     refine' av ?y19
     case y19=>exact (aG i7)
    case y22=>exact aP
   case y25 =>
    refine' av ?y23
    case y23=>exact (aG (aI (ag (di cJ rfl T.Fj dt (ag (lH (uj hr) (pv 2) aD (λ_ _=>rfl)) af)) (ag (di cJ rfl T.Fj dt (ag (lH (uj hr) (pv 2) aD (λ_ _=>rfl)) af)) (ag (di cJ rfl T.Fj dt (ag (lH (uj hr) (pv 2) aD (λ_ _=>rfl)) af)) af)))))
 case yread =>
  refine cU (λf hf=>⟨bZ (by decide),λl0 hl0=>⟨bZ (by decide),λl1 hl1=>⟨bZ (by decide),λl2 hl2=>⟨?_,[(Sum.inr "hole",.ref l0),(Sum.inr "gap",.ref l1),(Sum.inr "slot",.ref l2)],rfl,by simp,?_⟩⟩⟩⟩)
  ·rw [aJ (aB (by rw [aJ (aB (by rw [aJ (aB aq hl0)];exact aq) hl1),aJ (aB aq hl0)];exact aq) hl2),aJ (aB (by rw [aJ (aB aq hl0)];exact aq) hl1),aJ (aB aq hl0)]
   exact aq
  rw [BF]
  have n0f:f≠l0:=aB aq hl0
  have n1f:f≠l1:=aB (by rw [aJ n0f];exact aq) hl1
  have n10:l0≠l1:=aB aq hl1
  have n2f:f≠l2:=aB (by rw [aJ n1f,aJ n0f];exact aq) hl2
  have n20:l0≠l2:=aB (by rw [aJ n10];exact aq) hl2
  have n21:l1≠l2:=aB aq hl2
  generalize hG:upd (upd (upd (upd (upd H f (.dK [])) l0 (.lst [])) l1 (.lst [])) l2 (.lst [])) f (.dK [(Sum.inr "hole",V.ref l0),(Sum.inr "gap",.ref l1),(Sum.inr "slot",.ref l2)])=G
  have gf:G f=some (oD l0 l1 l2):=by rw [← hG];exact aq
  have tri:Tri l0 l1 l2 G [] [] []:=by
   rw [← hG]
   refine ⟨?_,?_,?_,n10,n20,n21⟩
   ·rw [aJ (Ne.symm n0f),aJ n20,aJ n10];exact aq
   ·rw [aJ (Ne.symm n1f),aJ n21];exact aq
   ·rw [aJ (Ne.symm n2f)];exact aq
  have sG:Same H G:=λx o hx=>by
   have zf:=aB hx hf
   have z0:x≠l0:=aB (by rw [aJ zf];exact hx) hl0
   have z1:x≠l1:=aB (by rw [aJ z0,aJ zf];exact hx) hl1
   have z2:x≠l2:=aB (by rw [aJ z1,aJ z0,aJ zf];exact hx) hl2
   rw [← hG,aJ zf,aJ z2,aJ z1,aJ z0,aJ zf]
   exact hx
  have free0:H l0=none:=by rw [aJ (Ne.symm n0f)] at hl0;exact hl0
  have free1:H l1=none:=by rw [aJ (Ne.symm n10),aJ (Ne.symm n1f)] at hl1;exact hl1
  have free2:H l2=none:=by rw [aJ (Ne.symm n21),aJ (Ne.symm n20),aJ (Ne.symm n2f)] at hl2;exact hl2
  refine CW (K:=K) (fR (eQ (RE.use (K:=K) (d:=toP p) (aZ (k:=1) (ae (sG.dat h0)) ao rfl) λw0 G1 s1 q0=>?_)))
  refine ⟨_,rfl,_,rfl,p,t,w0,v1,f,l0,l1,l2,[],[],[],rfl,okp,okt,dpt,dpp,by decide,q0,(sG.trans s1).dat h1,s1 _ _ gf,n0f,n1f,n2f,tri.same s1,by decide,by decide,by decide,λH' a' b' c' bb tri' _ _ _ dd=>⟨_,rfl,?_⟩⟩
  have sm:Same H H':=λx o hx=>bb x o (aB hx free0) (aB hx free1) (aB hx free2) (s1 _ _ (sG _ _ hx))
  cases hft:cf p t with
  | none =>
   refine zI ?_
   rw [hft] at post
   exact post _ _ sm Dat.nonI
  | some fd =>
   refine zH ?_
   obtain ⟨d0,d1,d2⟩:=dd fd hft
   have gf':H' f=some (.dK [(Sum.inr "hole",V.ref l0),(Sum.inr "gap",.ref l1),(Sum.inr "slot",.ref l2)]):=bb _ _ n0f n1f n2f (s1 _ _ gf)
   rw [hft] at post
   exact aX (K:=K) (d:=fdD (some fd)) (aL (ab (kD gf' (uv l0 l1 l2) tri'.h0 d0) (ab (kD gf' (xZ l0 l1 l2) tri'.h1 d1) (ab (kD gf' (uw l0 l1 l2) tri'.h2 d2) au)))) λv H'' s qq=>post v H'' (sm.trans s) qq
abbrev LPD:List D:=[.tup [.str "inc",.tup [.str "add",.tup [.str "hole",.int 0],.tup [.str "num",.int 1]],.tup [.int 12,.int 1]],
 .tup [.str "both",.tup [.str "add",.tup [.str "slot",.int 0],.tup [.str "slot",.int 1]],.tup [.int 3,.tup [.str "arg",.int 0],.int 3,.tup [.str "arg",.int 1],.int 4]],
 .tup [.str "twofold",.tup [.str "mul",.tup [.str "hole",.int 0],.tup [.str "num",.int 2]],.tup [.int 13,.int 4]],
 .tup [.str "fewer",.tup [.str "sub",.tup [.str "hole",.int 0],.tup [.str "gap",.int 0,.int 99]],.tup [.int 1,.tup [.str "low",.int 0],.int 5]],
 .tup [.str "addmul",.tup [.str "add",.tup [.str "mul",.tup [.str "hole",.int 0],.tup [.str "hole",.int 1]],.tup [.str "gap",.int 0,.int 99]],.tup [.int 6,.int 12,.tup [.str "low",.int 0]]],
 .tup [.str "turned",.tup [.str "less",.tup [.str "gap",.int 0,.int 99],.tup [.str "hole",.int 0]],.tup [.int 1,.tup [.str "low",.int 0],.int 14,.int 7]],
 .tup [.str "far",.tup [.str "add",.tup [.str "hole",.int 0],.tup [.str "gap",.int 0,.int 9999]],.tup [.int 2,.tup [.str "low",.int 0],.tup [.str "high",.int 0],.int 4]],
 .tup [.str "pair",.tup [.str "sub",.tup [.str "gap",.int 0,.int 99],.tup [.str "gap",.int 1,.int 99]],.tup [.int 1,.tup [.str "low",.int 0],.int 1,.tup [.str "low",.int 1],.int 5]]]
theorem mG (T:Txt P w K mg)  : FnOk P w K mg base CX0 (k+1) T.E9 T.Fd [] (gE K λds es=>ds=[]/\es=LPD):=by
 refine T.F4.ok sc__law_pieces (λvs H Q E h=>?_) (λcdv A outer s H vs Q E hr h=>?_)
 ·obtain ⟨ds,es,hd,⟨rfl,rfl⟩,_⟩:=h;exact hd.length.symm
 have nd:=sc__law_pieces.nd
 obtain ⟨ds,es,hd,⟨rfl,rfl⟩,post⟩:=h
 have ez:=hd.nilE
 subst ez
 refine' ⟨_,?ybody,?yread⟩
 case ybody =>
  refine' aj ?y278 ?y279
  case y278 =>
   refine' eO ?y35 ?y36 ?y37 ?y38
   case y35 =>
    refine' aI ?y34
    case y34 =>
     refine' ag ?y32 ?y33
     case y32=>exact (aI (ag aD (ag ak af)))
     case y33 =>
      refine' ag ?y30 ?y31
      case y30=>exact (aI (ag aD (ag ak af)))
      case y31 =>
       refine' ag ?y28 ?y29
       case y28=>exact (aI (ag aD (ag ak (ag ak af))))
       case y29=>exact af
   case y36=>exact (dj rfl (aR (aE (i:=0) nd rfl (Or.inl rfl)) (aR (aE (i:=1) nd rfl (Or.inl rfl)) (aR (aE (i:=2) nd rfl (Or.inl rfl)) cj))))
   case y37=>rfl
   case y38=>kernel_rfl
  case y279 =>
   refine' aj ?y276 ?y277
   case y276 =>
    refine' bg (i:=3) ?y56 ?y57 ?y58 ?y59
    case y56=>exact nd
    case y57=>exact rfl
    case y58=>exact Or.inl rfl
    case y59 =>
     refine' bA ?y55
     case y55 =>
      refine' ag ?y53 ?y54
      case y53 =>
       refine' aI ?y52
       case y52 =>
        refine' ag ?y50 ?y51
        case y50=>exact aD
        case y51 =>
         refine' ag ?y48 ?y49
         case y48 =>
          refine' aI ?y45
          case y45 =>
           refine' ag ?y43 ?y44
           case y43=>exact aD
           case y44 =>
            refine' ag ?y41 ?y42
            case y41=>exact (pv 0)
            case y42 =>
             refine' ag ?y39 ?y40
             case y39=>exact (aI (ag aD (ag ak af)))
             case y40=>exact af
         case y49 =>
          refine' ag ?y46 ?y47
          case y46=>exact (aI (ag ak (ag ak af)))
          case y47=>exact af
      case y54=>exact af
   case y277 =>
    refine' aj ?y274 ?y275
    case y274 =>
     refine' bC ?y93
     case y93 =>
      refine' de ?y87 ?y88 ?y89 ?y90 ?y91 ?y92
      case y87=>exact PySem.F.plainAttrs_list
      case y88=>exact PySem.F.slot_list_append
      case y89=>exact PySem.F.type_list_append
      case y90=>exact cg
      case y91=>exact (pv 3)
      case y92 =>
       refine' ag ?y85 ?y86
       case y85 =>
        refine' aI ?y84
        case y84 =>
         refine' ag ?y82 ?y83
         case y82=>exact aD
         case y83 =>
          refine' ag ?y80 ?y81
          case y80 =>
           refine' aI ?y66
           case y66 =>
            refine' ag ?y64 ?y65
            case y64=>exact aD
            case y65 =>
             refine' ag ?y62 ?y63
             case y62=>exact (aI (ag aD (ag ak af)))
             case y63 =>
              refine' ag ?y60 ?y61
              case y60=>exact (aI (ag aD (ag ak af)))
              case y61=>exact af
          case y81 =>
           refine' ag ?y78 ?y79
           case y78 =>
            refine' aI ?y77
            case y77 =>
             refine' ag ?y75 ?y76
             case y75=>exact ak
             case y76 =>
              refine' ag ?y73 ?y74
              case y73=>exact (aI (ag aD (ag ak af)))
              case y74 =>
               refine' ag ?y71 ?y72
               case y71=>exact ak
               case y72 =>
                refine' ag ?y69 ?y70
                case y69=>exact (aI (ag aD (ag ak af)))
                case y70 =>
                 refine' ag ?y67 ?y68
                 case y67=>exact ak
                 case y68=>exact af
           case y79=>exact af
       case y86=>exact af
    case y275 =>
     refine' aj ?y272 ?y273
     case y272 =>
      refine' bC ?y116
      case y116 =>
       refine' de ?y110 ?y111 ?y112 ?y113 ?y114 ?y115
       case y110=>exact PySem.F.plainAttrs_list
       case y111=>exact PySem.F.slot_list_append
       case y112=>exact PySem.F.type_list_append
       case y113=>exact cg
       case y114=>exact (pv 3)
       case y115 =>
        refine' ag ?y108 ?y109
        case y108 =>
         refine' aI ?y107
         case y107 =>
          refine' ag ?y105 ?y106
          case y105=>exact aD
          case y106 =>
           refine' ag ?y103 ?y104
           case y103 =>
            refine' aI ?y100
            case y100 =>
             refine' ag ?y98 ?y99
             case y98=>exact aD
             case y99 =>
              refine' ag ?y96 ?y97
              case y96=>exact (pv 0)
              case y97 =>
               refine' ag ?y94 ?y95
               case y94=>exact (aI (ag aD (ag ak af)))
               case y95=>exact af
           case y104 =>
            refine' ag ?y101 ?y102
            case y101=>exact (aI (ag ak (ag ak af)))
            case y102=>exact af
        case y109=>exact af
     case y273 =>
      refine' aj ?y270 ?y271
      case y270 =>
       refine' bC ?y139
       case y139 =>
        refine' de ?y133 ?y134 ?y135 ?y136 ?y137 ?y138
        case y133=>exact PySem.F.plainAttrs_list
        case y134=>exact PySem.F.slot_list_append
        case y135=>exact PySem.F.type_list_append
        case y136=>exact cg
        case y137=>exact (pv 3)
        case y138 =>
         refine' ag ?y131 ?y132
         case y131 =>
          refine' aI ?y130
          case y130 =>
           refine' ag ?y128 ?y129
           case y128=>exact aD
           case y129 =>
            refine' ag ?y126 ?y127
            case y126=>exact (aI (ag aD (ag (pv 0) (ag (pv 2) af))))
            case y127 =>
             refine' ag ?y124 ?y125
             case y124 =>
              refine' aI ?y123
              case y123 =>
               refine' ag ?y121 ?y122
               case y121=>exact ak
               case y122 =>
                refine' ag ?y119 ?y120
                case y119=>exact (aI (ag aD (ag ak af)))
                case y120 =>
                 refine' ag ?y117 ?y118
                 case y117=>exact ak
                 case y118=>exact af
             case y125=>exact af
         case y132=>exact af
      case y271 =>
       refine' aj ?y268 ?y269
       case y268 =>
        refine' bC ?y169
        case y169 =>
         refine' de ?y163 ?y164 ?y165 ?y166 ?y167 ?y168
         case y163=>exact PySem.F.plainAttrs_list
         case y164=>exact PySem.F.slot_list_append
         case y165=>exact PySem.F.type_list_append
         case y166=>exact cg
         case y167=>exact (pv 3)
         case y168 =>
          refine' ag ?y161 ?y162
          case y161 =>
           refine' aI ?y160
           case y160 =>
            refine' ag ?y158 ?y159
            case y158=>exact aD
            case y159 =>
             refine' ag ?y156 ?y157
             case y156 =>
              refine' aI ?y146
              case y146 =>
               refine' ag ?y144 ?y145
               case y144=>exact aD
               case y145 =>
                refine' ag ?y142 ?y143
                case y142=>exact (aI (ag aD (ag (pv 0) (ag (pv 1) af))))
                case y143 =>
                 refine' ag ?y140 ?y141
                 case y140=>exact (pv 2)
                 case y141=>exact af
             case y157 =>
              refine' ag ?y154 ?y155
              case y154 =>
               refine' aI ?y153
               case y153 =>
                refine' ag ?y151 ?y152
                case y151=>exact ak
                case y152 =>
                 refine' ag ?y149 ?y150
                 case y149=>exact ak
                 case y150 =>
                  refine' ag ?y147 ?y148
                  case y147=>exact (aI (ag aD (ag ak af)))
                  case y148=>exact af
              case y155=>exact af
          case y162=>exact af
       case y269 =>
        refine' aj ?y266 ?y267
        case y266 =>
         refine' bC ?y194
         case y194 =>
          refine' de ?y188 ?y189 ?y190 ?y191 ?y192 ?y193
          case y188=>exact PySem.F.plainAttrs_list
          case y189=>exact PySem.F.slot_list_append
          case y190=>exact PySem.F.type_list_append
          case y191=>exact cg
          case y192=>exact (pv 3)
          case y193 =>
           refine' ag ?y186 ?y187
           case y186 =>
            refine' aI ?y185
            case y185 =>
             refine' ag ?y183 ?y184
             case y183=>exact aD
             case y184 =>
              refine' ag ?y181 ?y182
              case y181=>exact (aI (ag aD (ag (pv 2) (ag (pv 0) af))))
              case y182 =>
               refine' ag ?y179 ?y180
               case y179 =>
                refine' aI ?y178
                case y178 =>
                 refine' ag ?y176 ?y177
                 case y176=>exact ak
                 case y177 =>
                  refine' ag ?y174 ?y175
                  case y174=>exact (aI (ag aD (ag ak af)))
                  case y175 =>
                   refine' ag ?y172 ?y173
                   case y172=>exact ak
                   case y173 =>
                    refine' ag ?y170 ?y171
                    case y170=>exact ak
                    case y171=>exact af
               case y180=>exact af
           case y187=>exact af
        case y267 =>
         refine' aj ?y264 ?y265
         case y264 =>
          refine' bC ?y226
          case y226 =>
           refine' de ?y220 ?y221 ?y222 ?y223 ?y224 ?y225
           case y220=>exact PySem.F.plainAttrs_list
           case y221=>exact PySem.F.slot_list_append
           case y222=>exact PySem.F.type_list_append
           case y223=>exact cg
           case y224=>exact (pv 3)
           case y225 =>
            refine' ag ?y218 ?y219
            case y218 =>
             refine' aI ?y217
             case y217 =>
              refine' ag ?y215 ?y216
              case y215=>exact aD
              case y216 =>
               refine' ag ?y213 ?y214
               case y213 =>
                refine' aI ?y201
                case y201 =>
                 refine' ag ?y199 ?y200
                 case y199=>exact aD
                 case y200 =>
                  refine' ag ?y197 ?y198
                  case y197=>exact (pv 0)
                  case y198 =>
                   refine' ag ?y195 ?y196
                   case y195=>exact (aI (ag aD (ag ak (ag ak af))))
                   case y196=>exact af
               case y214 =>
                refine' ag ?y211 ?y212
                case y211 =>
                 refine' aI ?y210
                 case y210 =>
                  refine' ag ?y208 ?y209
                  case y208=>exact ak
                  case y209 =>
                   refine' ag ?y206 ?y207
                   case y206=>exact (aI (ag aD (ag ak af)))
                   case y207 =>
                    refine' ag ?y204 ?y205
                    case y204=>exact (aI (ag aD (ag ak af)))
                    case y205 =>
                     refine' ag ?y202 ?y203
                     case y202=>exact ak
                     case y203=>exact af
                case y212=>exact af
            case y219=>exact af
         case y265 =>
          refine' aj ?y262 ?y263
          case y262 =>
           refine' bC ?y260
           case y260 =>
            refine' de ?y254 ?y255 ?y256 ?y257 ?y258 ?y259
            case y254=>exact PySem.F.plainAttrs_list
            case y255=>exact PySem.F.slot_list_append
            case y256=>exact PySem.F.type_list_append
            case y257=>exact cg
            case y258=>exact (pv 3)
            case y259 =>
             refine' ag ?y252 ?y253
             case y252 =>
              refine' aI ?y251
              case y251 =>
               refine' ag ?y249 ?y250
               case y249=>exact aD
               case y250 =>
                refine' ag ?y247 ?y248
                case y247 =>
                 refine' aI ?y233
                 case y233 =>
                  refine' ag ?y231 ?y232
                  case y231=>exact aD
                  case y232 =>
                   refine' ag ?y229 ?y230
                   case y229=>exact (aI (ag aD (ag ak (ag ak af))))
                   case y230 =>
                    refine' ag ?y227 ?y228
                    case y227=>exact (aI (ag aD (ag ak (ag ak af))))
                    case y228=>exact af
                case y248 =>
                 refine' ag ?y245 ?y246
                 case y245 =>
                  refine' aI ?y244
                  case y244 =>
                   refine' ag ?y242 ?y243
                   case y242=>exact ak
                   case y243 =>
                    refine' ag ?y240 ?y241
                    case y240=>exact (aI (ag aD (ag ak af)))
                    case y241 =>
                     refine' ag ?y238 ?y239
                     case y238=>exact ak
                     case y239 =>
                      refine' ag ?y236 ?y237
                      case y236=>exact (aI (ag aD (ag ak af)))
                      case y237 =>
                       refine' ag ?y234 ?y235
                       case y234=>exact ak
                       case y235=>exact af
                 case y246=>exact af
             case y253=>exact af
          case y263 =>
           refine' av ?y261
           case y261=>exact (aG (pv 3))
 case yread =>
  refine qi (K:=K) (d:=.tup [.str "hole",.int 0]) (e:=.tup [.str "hole",.int 1]) (f:=.tup [.str "gap",.int 0,.int 99]) (aL (ab (aL (ab aF (ab ao au))) (ab (aL (ab aF (ab ao au))) (ab (aL (ab aF (ab ao (ab ao au)))) au)))) λvh vo vg H1 s1 dh do_ dg=>?_
  refine dJ (K:=K) (dW (ab (aL (ab aF (ab (aL (ab aF (ab (ae dh) (ab (aL (ab aF (ab ao au))) au)))) (ab (aL (ab ao (ab ao au))) au)))) au)) λlb x0 G0 hb s2 h0 e0=>?_
  have hlb:H lb=none:=s1.free hb
  have dh:=s2.dat dh
  have do_:=s2.dat do_
  have dg:=s2.dat dg
  have bb0:But lb H G0:=(s1.trans s2).but
  have l0:=e0.length
  simp only [List.length_cons,List.length_nil,List.length_append] at l0
  refine gd (K:=K) (aL (ab aF (ab (aL (ab aF (ab (aL (ab aF (ab ao au))) (ab (aL (ab aF (ab ao au))) au)))) (ab (aL (ab ao (ab (aL (ab aF (ab ao au))) (ab ao (ab (aL (ab aF (ab ao au))) (ab ao au)))))) au)))) h0 (by first | omega | (simp only [List.length_append,List.length_cons,List.length_nil];omega)) λy1 G1 b1 h1 e1'=>?_
  have g1:cO K _ G1:=b1.grow h0 h1
  have dh:=Dat.mono g1 _ dh
  have do_:=Dat.mono g1 _ do_
  have dg:=Dat.mono g1 _ dg
  have e1:=Dats.append (Dats.mono g1 _ e0) (Dats.cons e1' Dats.nil)
  have l1:=e1.length
  have bb1:=bb0.trans b1
  simp only [List.length_cons,List.length_nil,List.length_append] at l1
  refine gd (K:=K) (aL (ab aF (ab (aL (ab aF (ab (ae dh) (ab (aL (ab aF (ab ao au))) au)))) (ab (aL (ab ao (ab ao au))) au)))) h1 (by first | omega | (simp only [List.length_append,List.length_cons,List.length_nil];omega)) λy2 G2 b2 h2 e2'=>?_
  have g2:cO K _ G2:=b2.grow h1 h2
  have dh:=Dat.mono g2 _ dh
  have do_:=Dat.mono g2 _ do_
  have dg:=Dat.mono g2 _ dg
  have e2:=Dats.append (Dats.mono g2 _ e1) (Dats.cons e2' Dats.nil)
  have l2:=e2.length
  have bb2:=bb1.trans b2
  simp only [List.length_cons,List.length_nil,List.length_append] at l2
  refine gd (K:=K) (aL (ab aF (ab (aL (ab aF (ab (ae dh) (ab (ae dg) au)))) (ab (aL (ab ao (ab (aL (ab aF (ab ao au))) (ab ao au)))) au)))) h2 (by first | omega | (simp only [List.length_append,List.length_cons,List.length_nil];omega)) λy3 G3 b3 h3 e3'=>?_
  have g3:cO K _ G3:=b3.grow h2 h3
  have dh:=Dat.mono g3 _ dh
  have do_:=Dat.mono g3 _ do_
  have dg:=Dat.mono g3 _ dg
  have e3:=Dats.append (Dats.mono g3 _ e2) (Dats.cons e3' Dats.nil)
  have l3:=e3.length
  have bb3:=bb2.trans b3
  simp only [List.length_cons,List.length_nil,List.length_append] at l3
  refine gd (K:=K) (aL (ab aF (ab (aL (ab aF (ab (aL (ab aF (ab (ae dh) (ab (ae do_) au)))) (ab (ae dg) au)))) (ab (aL (ab ao (ab ao (ab (aL (ab aF (ab ao au))) au)))) au)))) h3 (by first | omega | (simp only [List.length_append,List.length_cons,List.length_nil];omega)) λy4 G4 b4 h4 e4'=>?_
  have g4:cO K _ G4:=b4.grow h3 h4
  have dh:=Dat.mono g4 _ dh
  have do_:=Dat.mono g4 _ do_
  have dg:=Dat.mono g4 _ dg
  have e4:=Dats.append (Dats.mono g4 _ e3) (Dats.cons e4' Dats.nil)
  have l4:=e4.length
  have bb4:=bb3.trans b4
  simp only [List.length_cons,List.length_nil,List.length_append] at l4
  refine gd (K:=K) (aL (ab aF (ab (aL (ab aF (ab (ae dg) (ab (ae dh) au)))) (ab (aL (ab ao (ab (aL (ab aF (ab ao au))) (ab ao (ab ao au))))) au)))) h4 (by first | omega | (simp only [List.length_append,List.length_cons,List.length_nil];omega)) λy5 G5 b5 h5 e5'=>?_
  have g5:cO K _ G5:=b5.grow h4 h5
  have dh:=Dat.mono g5 _ dh
  have do_:=Dat.mono g5 _ do_
  have dg:=Dat.mono g5 _ dg
  have e5:=Dats.append (Dats.mono g5 _ e4) (Dats.cons e5' Dats.nil)
  have l5:=e5.length
  have bb5:=bb4.trans b5
  simp only [List.length_cons,List.length_nil,List.length_append] at l5
  refine gd (K:=K) (aL (ab aF (ab (aL (ab aF (ab (ae dh) (ab (aL (ab aF (ab ao (ab ao au)))) au)))) (ab (aL (ab ao (ab (aL (ab aF (ab ao au))) (ab (aL (ab aF (ab ao au))) (ab ao au))))) au)))) h5 (by first | omega | (simp only [List.length_append,List.length_cons,List.length_nil];omega)) λy6 G6 b6 h6 e6'=>?_
  have g6:cO K _ G6:=b6.grow h5 h6
  have dh:=Dat.mono g6 _ dh
  have do_:=Dat.mono g6 _ do_
  have dg:=Dat.mono g6 _ dg
  have e6:=Dats.append (Dats.mono g6 _ e5) (Dats.cons e6' Dats.nil)
  have l6:=e6.length
  have bb6:=bb5.trans b6
  simp only [List.length_cons,List.length_nil,List.length_append] at l6
  refine gd (K:=K) (aL (ab aF (ab (aL (ab aF (ab (aL (ab aF (ab ao (ab ao au)))) (ab (aL (ab aF (ab ao (ab ao au)))) au)))) (ab (aL (ab ao (ab (aL (ab aF (ab ao au))) (ab ao (ab (aL (ab aF (ab ao au))) (ab ao au)))))) au)))) h6 (by first | omega | (simp only [List.length_append,List.length_cons,List.length_nil];omega)) λy7 G7 b7 h7 e7'=>?_
  have g7:cO K _ G7:=b7.grow h6 h7
  have dh:=Dat.mono g7 _ dh
  have do_:=Dat.mono g7 _ do_
  have dg:=Dat.mono g7 _ dg
  have e7:=Dats.append (Dats.mono g7 _ e6) (Dats.cons e7' Dats.nil)
  have l7:=e7.length
  have bb7:=bb6.trans b7
  have sm:Same H G7:=λb o hbo=>bb7 b o (aB hbo hlb) hbo
  exact ⟨_,rfl,post lb _ G7 sm h7 hlb e7⟩
structure Pc where
 nm:Str
 pt:Pa
 cs:List D
def pcD (p:Pc):D:=.tup [.str p.nm,toP p.pt,.tup p.cs]
def e8:Pa->Bool
 | .hole _=>false
 | _=>true
structure zS (p:Pc):Prop where
 nm:p.nm≠"pick"
 ok:gY p.pt
 dp:cR p.pt≤3
 cs:p.cs.length≤12
 nh:e8 p.pt=true
structure Wy where
 nm:Str
 cs:List D
 ts:List Tr
def wyD (w:Wy):D:=.tup [.str w.nm,.tup w.cs,.tup (w.ts.map toD)]
def kZ (t:Tr) (p:Pc):Option Wy:=(cf p.pt t).map λf=>⟨p.nm,p.cs,f.1⟩
def vp:Tr->Bool
 | .pick _ _ _=>true
 | _=>false
def fT (ps:List Pc) (t:Tr):List Wy:=if vp t=true then [⟨"pick",[],bq t⟩] else ps.filterMap (kZ t)
def iA (near far many:Int):List Int:=if many≤9 then [near,many] else [far,many % 100,many / 100]
def ic (many:Int):Int:=if many≤9 then 2 else 3
theorem iW (near far many:Int):((iA near far many).length:Int)=ic many:=by
 unfold iA ic
 split <;> rfl
theorem xM (a:Int):2≤ic a/\ic a≤3:=by unfold ic;split <;> omega
def yk (y z:Int):Int:=ic (y+ic z)+ic z
def rM (w:Wy) (ls:List Int):Int:=if w.nm="pick" then yk (ls.getD 1 0) (ls.getD 2 0) else (w.cs.length:Int)
def dA (w:Wy) (ls:List Int):Int:=rM w ls+ls.sum
abbrev Bst:Type:=Option (Int × D)
def bD:Bst->D
 | none=>.non
 | some b=>.tup [.int b.1,b.2]
def fO:List Bst->Option (List (Int × D))
 | []=>some []
 | none::_=>none
 | some b::r=>(fO r).map (b::·)
def cvD (nm:Str) (bs:List (Int × D)):D:=.tup [.str nm,.tup (bs.map (·.2))]
def gv (best:Bst) (l:Int) (c:D):Bst:=match best with
 | none=>some (l,c)
 | some b=>if l < b.1 then some (l,c) else some b
def AZ (best:Bst) (w:Wy):Option (List (Int × D))->Bst
 | none=>best
 | some bs=>gv best (dA w (bs.map (·.1))) (cvD w.nm bs)
def dS (f:Tr->Bst) (best:Bst) (w:Wy):Bst:=AZ best w (fO (w.ts.map f))
def mr:Tr->Bool
 | .call _=>true
 | _=>false
def eJ (ps:List Pc) (f:Tr->Bst) (t:Tr):Bst:=if mr t=true then some (3,.tup []) else (fT ps t).foldl (dS f) none
variable {ps:List Pc} {f g:Tr->Bst}
theorem nL (h:(fT ps t).foldl (dS f) none=(fT ps t).foldl (dS g) none):eJ ps f t=eJ ps g t:=by
 unfold eJ
 rw [h]
def kK (ps:List Pc):Nat->Tr->Bst
 | 0,_=>none
 | n+1,t=>eJ ps (kK ps n) t
def cz (ps:List Pc) (t:Tr):Bst:=kK ps (az t) t
theorem oH (t:Tr):1≤az t:=by cases t <;> simp [az]
theorem o7:∀ (p:Pa) (t:Tr) (f:Fnd),cf p t=some f->∀ x ∈ f.1,x ∈ ax t
 | .hole i,t,f,h,x,hx=>by
  cases h
  simp at hx
  rw [hx,dB]
  exact List.mem_cons_self
 | .gap i m,t,f,h,x,hx=>by
  cases t with
  | num n =>
   have h':(if n≤m then some ([],[n],[]) else none:Option Fnd)=some f:=h
   by_cases z:n≤m
   ·rw [if_pos z] at h';cases h';simp at hx
   ·rw [if_neg z] at h';cases h'
  | _=>cases h
 | .slot i,t,f,h,x,hx=>by
  cases t with
  | arg n=>cases h;simp at hx
  | _=>cases h
 | .num m,t,f,h,x,hx=>by
  cases t with
  | num n =>
   have h':(if n=m then some ([],[],[]) else none:Option Fnd)=some f:=h
   by_cases z:n=m
   ·rw [if_pos z] at h';cases h';simp at hx
   ·rw [if_neg z] at h';cases h'
  | _=>cases h
 | .two o a b,t,f,h,x,hx=>by
  cases t with
  | two o' u v =>
   obtain ⟨_,f1,f2,e1,e2,e3⟩:=dH h
   subst e3
   have hx':x ∈ f1.1++f2.1:=hx
   simp only [ax,List.mem_cons,List.mem_append]
   rcases List.mem_append.mp hx' with hx | hx
   ·exact .inr (.inl (o7 a u f1 e1 x hx))
   ·exact .inr (.inr (o7 b v f2 e2 x hx))
  | _=>cases h
theorem qT {p:Pa} {f:Fnd} (hp:e8 p=true) (h:cf p t=some f):∀ x ∈ f.1,x ∈ (bq t).flatMap ax:=by
 intro x hx
 cases p with
 | hole i=>cases hp
 | gap i m =>
  cases t with
  | num n =>
   have h':(if n≤m then some ([],[n],[]) else none:Option Fnd)=some f:=h
   by_cases z:n≤m
   ·rw [if_pos z] at h';cases h';simp at hx
   ·rw [if_neg z] at h';cases h'
  | _=>cases h
 | slot i =>
  cases t with
  | arg n=>cases h;simp at hx
  | _=>cases h
 | num m =>
  cases t with
  | num n =>
   have h':(if n=m then some ([],[],[]) else none:Option Fnd)=some f:=h
   by_cases z:n=m
   ·rw [if_pos z] at h';cases h';simp at hx
   ·rw [if_neg z] at h';cases h'
  | _=>cases h
 | two o a b =>
  cases t with
  | two o' u v =>
   obtain ⟨_,f1,f2,e1,e2,e3⟩:=dH h
   subst e3
   have hx':x ∈ f1.1++f2.1:=hx
   simp only [bq,List.flatMap_cons,List.flatMap_nil,List.append_nil,List.mem_append]
   rcases List.mem_append.mp hx' with hx | hx
   ·exact .inl (o7 a u f1 e1 x hx)
   ·exact .inr (o7 b v f2 e2 x hx)
  | _=>cases h
theorem vV (t:Tr):t ∈ ax t:=by rw [dB];exact List.mem_cons_self
theorem lP (hp:∀ p ∈ ps,e8 p.pt=true) {w:Wy} (hw:w ∈ fT ps t):∀ x ∈ w.ts,x ∈ (bq t).flatMap ax:=by
 unfold fT at hw
 split at hw
 ·rw [List.mem_singleton.mp hw]
  intro x hx
  exact List.mem_flatMap.mpr ⟨x,hx,vV x⟩
 ·obtain ⟨p,h1,h2⟩:=List.mem_filterMap.mp hw
  unfold kZ at h2
  cases e:cf p.pt t with
  | none=>rw [e] at h2;cases h2
  | some f =>
   rw [e] at h2
   cases h2
   exact qT (hp p h1) e
theorem cA:∀ (t x:Tr),x ∈ ax t->az x≤az t/\aH x≤aH t
 | .num n,x,h=>by
  have e:x=.num n:=by simpa [ax] using h
  subst e;exact ⟨Nat.le_refl _,Nat.le_refl _⟩
 | .arg n,x,h=>by
  have e:x=.arg n:=by simpa [ax] using h
  subst e;exact ⟨Nat.le_refl _,Nat.le_refl _⟩
 | .call n,x,h=>by
  have e:x=.call n:=by simpa [ax] using h
  subst e;exact ⟨Nat.le_refl _,Nat.le_refl _⟩
 | .two o a b,x,h=>by
  simp only [ax,List.mem_cons,List.mem_append] at h
  rcases h with rfl | h | h
  ·exact ⟨Nat.le_refl _,Nat.le_refl _⟩
  ·have:=cA a x h;simp only [az,aH];omega
  ·have:=cA b x h;simp only [az,aH];omega
 | .pick a b c,x,h=>by
  simp only [ax,List.mem_cons,List.mem_append] at h
  rcases h with rfl | (h | h) | h
  ·exact ⟨Nat.le_refl _,Nat.le_refl _⟩
  ·have:=cA a x h;simp only [az,aH];omega
  ·have:=cA b x h;simp only [az,aH];omega
  ·have:=cA c x h;simp only [az,aH];omega
theorem gK:∀ (t x:Tr),okX t->x ∈ ax t->okX x
 | .num n,x,k,h=>by
  have e:x=.num n:=by simpa [ax] using h
  subst e;exact k
 | .arg n,x,k,h=>by
  have e:x=.arg n:=by simpa [ax] using h
  subst e;exact k
 | .call n,x,k,h=>by
  have e:x=.call n:=by simpa [ax] using h
  subst e;exact k
 | .two o a b,x,k,h=>by
  simp only [ax,List.mem_cons,List.mem_append] at h
  rcases h with rfl | h | h
  ·exact k
  ·exact gK a x k.2.1 h
  ·exact gK b x k.2.2 h
 | .pick a b c,x,k,h=>by
  simp only [ax,List.mem_cons,List.mem_append] at h
  rcases h with rfl | (h | h) | h
  ·exact k
  ·exact gK a x k.1 h
  ·exact gK b x k.2.1 h
  ·exact gK c x k.2.2 h
theorem oq (h:x ∈ bq t):az x < az t/\aH x < aH t:=by
 cases t with
 | num n=>simp [bq] at h
 | arg n=>simp [bq] at h
 | call n=>simp [bq] at h
 | two o a b =>
  simp only [bq,List.mem_cons,List.not_mem_nil,or_false] at h
  simp only [az,aH]
  rcases h with rfl | rfl <;> omega
 | pick a b c =>
  simp only [bq,List.mem_cons,List.not_mem_nil,or_false] at h
  simp only [az,aH]
  rcases h with rfl | rfl | rfl <;> omega
theorem iL (h:x ∈ (bq t).flatMap ax):az x < az t/\aH x < aH t:=by
 obtain ⟨k,h1,h2⟩:=List.mem_flatMap.mp h
 have:=oq h1
 have:=cA k x h2
 omega
theorem oK (h:x ∈ (bq t).flatMap ax):x ∈ ax t:=by rw [dB];exact List.mem_cons_of_mem _ h
theorem tN {w:Wy} (h:∀ x ∈ w.ts,f x=g x) (b:Bst):dS f b w=dS g b w:=by
 unfold dS
 rw [List.map_congr_left h]
theorem jy:∀ (ws:List Wy) (b:Bst),(∀ w ∈ ws,∀ x ∈ w.ts,f x=g x)->ws.foldl (dS f) b=ws.foldl (dS g) b
 | [],_,_=>rfl
 | w::ws,b,h=>by
  rw [List.foldl_cons,List.foldl_cons,tN (h w List.mem_cons_self)]
  exact jy ws _ λw' hw=>h w' (List.mem_cons_of_mem _ hw)
theorem kL (hp:∀ p ∈ ps,e8 p.pt=true):∀ (n:Nat) (t:Tr),az t≤n->kK ps (n+1) t=kK ps n t
 | 0,t,h=>by have:=oH t;omega
 | n+1,t,h=>by
  show eJ ps (kK ps (n+1)) t=eJ ps (kK ps n) t
  refine nL (jy _ _ λw hw x hx=>kL hp n x ?_)
  have:=iL (lP hp hw x hx)
  omega
theorem qI (hp:∀ p ∈ ps,e8 p.pt=true):∀ {n:Nat},az t≤n->kK ps n t=cz ps t:=by
 intro n
 induction n with
 | zero=>intro h;have:=oH t;omega
 | succ n ih =>
  intro h
  by_cases e:az t=n+1
  ·unfold cz;rw [e]
  ·rw [kL hp n t (by omega)];exact ih (by omega)
theorem jM (hp:∀ p ∈ ps,e8 p.pt=true) (t:Tr):cz ps t=eJ ps (cz ps) t:=by
 rw [← qI hp (Nat.le_succ (az t))]
 show eJ ps (kK ps (az t)) t=_
 refine nL (jy _ _ λw hw x hx=>qI hp ?_)
 exact Nat.le_of_lt (iL (lP hp hw x hx)).1
variable {p:Pc}
theorem tU {f:Fnd} (hp:p ∈ ps) (ht:vp t=false) (h:cf p.pt t=some f):(⟨p.nm,p.cs,f.1⟩:Wy) ∈ fT ps t:=by
 unfold fT
 rw [if_neg (by rw [ht];exact Bool.false_ne_true)]
 exact List.mem_filterMap.mpr ⟨p,hp,by unfold kZ;rw [h];rfl⟩
def fP:Pa->Nat
 | .hole _=>1
 | .two _ a b=>fP a+fP b
 | _=>0
theorem kj:∀ (p:Pa) (t:Tr) (f:Fnd),cf p t=some f->f.1.length=fP p
 | .hole i,t,f,h=>by cases h;rfl
 | .gap i m,t,f,h=>by
  cases t with
  | num n =>
   have h':(if n≤m then some ([],[n],[]) else none:Option Fnd)=some f:=h
   by_cases z:n≤m
   ·rw [if_pos z] at h';cases h';rfl
   ·rw [if_neg z] at h';cases h'
  | _=>cases h
 | .slot i,t,f,h=>by
  cases t with
  | arg n=>cases h;rfl
  | _=>cases h
 | .num m,t,f,h=>by
  cases t with
  | num n =>
   have h':(if n=m then some ([],[],[]) else none:Option Fnd)=some f:=h
   by_cases z:n=m
   ·rw [if_pos z] at h';cases h';rfl
   ·rw [if_neg z] at h';cases h'
  | _=>cases h
 | .two o a b,t,f,h=>by
  cases t with
  | two o' u v =>
   obtain ⟨_,f1,f2,e1,e2,e3⟩:=dH h
   subst e3
   show (f1.1++f2.1).length=fP a+fP b
   rw [List.length_append,kj a u f1 e1,kj b v f2 e2]
  | _=>cases h
abbrev De:Pc:=⟨"add",.two "add" (.hole 0) (.hole 1),[.int 4]⟩
abbrev BP:List Pc:=[⟨"one",.gap 0 99,[.int 1,.tup [.str "low",.int 0]]⟩,⟨"two",.gap 0 9999,[.int 2,.tup [.str "low",.int 0],.tup [.str "high",.int 0]]⟩,⟨"slot",.slot 0,[.int 3,.tup [.str "arg",.int 0]]⟩,
 De,⟨"sub",.two "sub" (.hole 0) (.hole 1),[.int 5]⟩,⟨"mul",.two "mul" (.hole 0) (.hole 1),[.int 6]⟩,⟨"less",.two "less" (.hole 0) (.hole 1),[.int 7]⟩,⟨"more",.two "add" (.hole 0) (.gap 0 99),[.int 12,.tup [.str "low",.int 0]]⟩]
theorem Bs (o:Str) (x y:Tr):cf (.two o (.hole 0) (.hole 1)) (.two o x y)=some ([x,y],[],[]):=by
 show (if o=o then _ else _)=_
 rw [if_pos rfl]
 rfl
theorem yd (h:okB o):∃ c:D,(⟨o,.two o (.hole 0) (.hole 1),[c]⟩:Pc) ∈ BP:=by
 rcases h with rfl | rfl | rfl | rfl
 ·exact ⟨.int 4,by simp [BP]⟩
 ·exact ⟨.int 5,by simp [BP]⟩
 ·exact ⟨.int 6,by simp [BP]⟩
 ·exact ⟨.int 7,by simp [BP]⟩
theorem qU:∀ (ws:List Wy) (b x:Bst),ws.foldl (dS f) b=x->x=b\/∃ w ∈ ws,∃ bs,fO (w.ts.map f)=some bs/\x=some (dA w (bs.map (·.1)),cvD w.nm bs)
 | [],b,x,h=>.inl h.symm
 | w::ws,b,x,h=>by
  rw [List.foldl_cons] at h
  rcases qU ws _ x h with e | ⟨w',hw,r⟩
  ·unfold dS at e
   cases ea:fO (w.ts.map f) with
   | none=>rw [ea] at e;exact .inl e
   | some bs =>
    rw [ea] at e
    have e:x=gv b (dA w (bs.map (·.1))) (cvD w.nm bs):=e
    have two:gv b (dA w (bs.map (·.1))) (cvD w.nm bs)=b\/gv b (dA w (bs.map (·.1))) (cvD w.nm bs)=some (dA w (bs.map (·.1)),cvD w.nm bs):=by
     unfold gv
     cases b with
     | none=>exact .inr rfl
     | some y =>
      dsimp only
      split
      ·exact .inr rfl
      ·exact .inl rfl
    rcases two with z | z
    ·exact .inl (e.trans z)
    ·exact .inr ⟨w,List.mem_cons_self,bs,ea,e.trans z⟩
  ·exact .inr ⟨w',List.mem_cons_of_mem _ hw,r⟩
theorem qC:∀ {ts:List Tr} {bs:List (Int × D)},fO (ts.map f)=some bs->ts.map f=bs.map some
 | [],bs,h=>by cases h;rfl
 | t::ts,bs,h=>by
  cases e:f t with
  | none=>rw [List.map_cons,e] at h;cases h
  | some b =>
   rw [List.map_cons,e] at h
   have h':(fO (ts.map f)).map (b::·)=some bs:=h
   cases e2:fO (ts.map f) with
   | none=>rw [e2] at h';cases h'
   | some r =>
    rw [e2] at h'
    cases h'
    rw [List.map_cons,List.map_cons,e,qC e2]
theorem tO {b:Bst} {w:Wy} (h:b≠none):dS f b w≠none:=by
 unfold dS
 cases fO (w.ts.map f) with
 | none=>exact h
 | some bs =>
  show gv b _ _≠none
  unfold gv
  cases b with
  | none=>exact λz=>nomatch z
  | some y=>dsimp only;split <;> exact λz=>nomatch z
theorem vY {b:Bst} {w:Wy} (h:fO (w.ts.map f)≠none):dS f b w≠none:=by
 unfold dS
 cases e:fO (w.ts.map f) with
 | none=>exact absurd e h
 | some bs =>
  show gv b _ _≠none
  unfold gv
  cases b with
  | none=>exact λz=>nomatch z
  | some y=>dsimp only;split <;> exact λz=>nomatch z
theorem mn:∀ (ws:List Wy) (b:Bst),b≠none->ws.foldl (dS f) b≠none
 | [],_,h=>h
 | _::ws,_,h=>mn ws _ (tO h)
theorem nX:∀ (ws:List Wy) (b:Bst) (w:Wy),w ∈ ws->fO (w.ts.map f)≠none->ws.foldl (dS f) b≠none
 | w'::ws,b,w,hw,h=>by
  rcases List.mem_cons.mp hw with rfl | hw
  ·exact mn ws _ (vY h)
  ·exact nX ws _ w hw h
theorem jN (hp:∀ p ∈ ps,e8 p.pt=true) {w:Wy} (hw:w ∈ fT ps t) (h:fO (w.ts.map (cz ps))≠none):∃ b,cz ps t=some b:=by
 rw [jM hp]
 unfold eJ
 split
 ·exact ⟨_,rfl⟩
 ·have z:=nX (f:=cz ps) (fT ps t) none w hw h
  cases e:(fT ps t).foldl (dS (cz ps)) none with
  | none=>exact absurd e z
  | some b=>exact ⟨b,rfl⟩
theorem gm (hp:∀ p ∈ ps,e8 p.pt=true) (hb:∀ p ∈ BP,p ∈ ps):∀ t:Tr,okX t->∃ b,cz ps t=some b
 | .num n,h=>by
  have e:cf (.gap 0 9999) (.num n)=some ([],[n],[]):=by
   show (if n≤9999 then _ else _)=_
   rw [if_pos h.2]
  exact jN hp (tU (t:=.num n) (p:=⟨"two",.gap 0 9999,[.int 2,.tup [.str "low",.int 0],.tup [.str "high",.int 0]]⟩) (hb _ (by simp [BP])) rfl e) (λz=>nomatch z)
 | .arg k,h=>jN hp (tU (t:=.arg k) (p:=⟨"slot",.slot 0,[.int 3,.tup [.str "arg",.int 0]]⟩) (f:=([],[],[k])) (hb _ (by simp [BP])) rfl rfl) (λz=>nomatch z)
 | .two o a b,h=>by
  obtain ⟨x,hx⟩:=gm hp hb a h.2.1
  obtain ⟨y,hy⟩:=gm hp hb b h.2.2
  obtain ⟨c,hc⟩:=yd h.1
  refine jN hp (tU (t:=.two o a b) (hb _ hc) rfl (Bs o a b)) ?_
  show fO [cz ps a,cz ps b]≠none
  rw [hx,hy]
  exact λz=>nomatch z
 | .pick a b c,h=>by
  obtain ⟨x,hx⟩:=gm hp hb a h.1
  obtain ⟨y,hy⟩:=gm hp hb b h.2.1
  obtain ⟨z,hz⟩:=gm hp hb c h.2.2
  refine jN (w:=⟨"pick",[],[a,b,c]⟩) hp (List.mem_singleton.mpr rfl) ?_
  show fO [cz ps a,cz ps b,cz ps c]≠none
  rw [hx,hy,hz]
  exact λz=>nomatch z
 | .call k,h=>⟨(3,.tup []),by rw [jM hp];rfl⟩
def tV (ds es:List D):Prop:=∃ m n f,ds=[.int m,.tup [.int n,.int f]]/\es=(iA n f m).map D.int
theorem yq (h:tA σ H λxs H1=>xs.length≤sizeLine/\∀ p,H1 p=none->Q (.ref p) (upd H1 p (.tup xs))):yJ tA σ H Q:=h
theorem lN (h:En.nx σ H):uL En σ H:=h
theorem Av (h:En.ct σ H):A1 En σ H:=h
variable {G:Hp} {xs:List V}
theorem uF {l:Addr} (h:RE K te σ G d) (hl:G l=some (.lst xs)) (hx:xs.length≤900)
  (q:∀ y G',But l G G'->G' l=some (.lst (xs++[y]))->Dat K G' d y->En.nx σ G') (hv:σ[j]?=some (some (.ref l)):=by rfl):mY (tBM K "list" lI (iS j) (bP te d8)) En σ G:=by
 refine ⟨_,hv,.inl ⟨rfl,_,SqL.of hl⟩,h.use λy H1 s1 q1=>?_⟩
 have hl1:=s1 _ _ hl
 refine ⟨l,xs,y,rfl,rfl,hl1,ck (by omega),?_⟩
 have b:But l H1 (upd H1 l (.lst (xs++[y]))):=But.upd (Same.refl _).but
 exact q y _ (s1.but.trans b) aq (Dat.mono (b.grow hl1 aq) _ q1)
theorem qh {k:Nat} (h:RE K te σ H d) (q:∀ v H',Same H H'->Dat K H' d v->En.nx (σ.set k (some v)) H'):nE te (cy k) En σ H:=h.use q
theorem pN (T:Txt P w K mg)  : FnOk P w K mg base CX0 (k+1) T.Ga T.Gf ["many","kinds"] (gE K tV):=by
 refine T.Gj.ok sc_jump_over (λvs H Q E h=>?_) (λcdv A outer s H vs Q E hr h=>?_)
 ·obtain ⟨ds,d,hd,⟨m,n,f,rfl,_⟩,_⟩:=h;exact hd.length.symm
 have nd:=sc_jump_over.nd
 obtain ⟨ds,es,hd,⟨m,n,f,rfl,rfl⟩,post⟩:=h
 obtain ⟨v0,v1,rfl,h0,h1⟩:=fu hd
 refine ⟨_,(aj (eO (pv 1) (dj rfl (aR (aE (i:=2) nd rfl (Or.inl rfl)) (aR (aE (i:=3) nd rfl (Or.inl rfl)) cj))))
 (aj (bu (aU i6 (pv 0) (bz (v:=.int 9) rfl T.Fu ⟨_,rfl⟩) (aY _)) (av (aG (bA (ag (pv 2) (ag (pv 0) af))))) aP)
 (av (aG (bA (ag (pv 3) (ag (bx fQ (pv 0) ak) (ag (bx jW (pv 0) ak) af)))))))),?_⟩
 refine j4 (K:=K) (ae h1) λv w H1 s1 q1 q2=>?_
 have h0:=s1.dat h0
 refine aS (K:=K) (b:=decide (m≤9)) (aO (dD (p:=λi j=>decide (i≤j)) (ae h0) ao)) (λc H2 s2=>?_) (λc H2 s2=>?_)
 ·have e:iA n f m=[n,m]:=by unfold iA;rw [if_pos (of_decide_eq_true c)]
  rw [e] at post
  exact gN (RC.use (K:=K) (dW (ab (ae (s2.dat q1)) (ab (ae (s2.dat h0)) au))) λl ys H' hl s hy hd=>post l ys H' (s1.trans (s2.trans s)) hy ((s1.trans s2).free hl) hd)
 ·have e:iA n f m=[f,m % 100,m / 100]:=by unfold iA;rw [if_neg (of_decide_eq_false c)]
  rw [e] at post
  exact gN (RC.use (K:=K) (dW (ab (ae (s2.dat q2)) (ab (tH (ae (s2.dat h0)) ao (by decide)) (ab (p4 (ae (s2.dat h0)) ao ⟨by decide,by decide⟩) au)))) λl ys H' hl s hy hd=>post l ys H' (s1.trans (s2.trans s)) hy ((s1.trans s2).free hl) hd)
def qp (K:PySem.W.Frag):Sp:=λvs H Q _=>∃ y z:Int,vs=[.int y,.int z]/\∀ (p a b:Addr) (us ws:List V) (H':Hp),Same H H'->SqT K H' p [.ref a,.ref b]->H' a=some (.lst us)->H' b=some (.lst ws)->H a=none->H b=none->a≠b ->
 Dats K H' ((iA 10 11 (y+ic z)).map D.int) us->Dats K H' ((iA 8 9 z).map D.int) ws->Q (.ref p) H'
theorem kz (T:Txt P w K mg) (II:FnOk P w K mg base CX0 k T.Ga T.Gf ["many","kinds"] (gE K tV)):FnOk P w K mg base CX0 (k+1) T.D9 T.Eb ["second","third"] (qp K):=by
 refine T.EE.ok sc_jumps_of_pick (λvs H Q E h=>?_) (λcdv A outer s H vs Q E hr h=>?_)
 ·obtain ⟨y,z,rfl,_⟩:=h;rfl
 have nd:=sc_jumps_of_pick.nd
 obtain ⟨y,z,rfl,post⟩:=h
 refine ⟨_,(aj (bg (i:=2) nd rfl (Or.inl rfl) (aA II hr rfl T.HN T.Gj.kp (kI T) .nil aQ (ag (pv 1) (ag (bz (v:=.ref T.Iq) rfl T.Hs rfl) af))))
 (aj (bg (i:=3) nd rfl (Or.inl rfl) (aA II hr rfl T.HN T.Gj.kp (kI T) .nil aQ (ag (bx fe (pv 0) (aK aM rfl T.DW bF (ag (pv 2) af))) (ag (bz (v:=.ref T.IS) rfl T.HY rfl) af))))
 (av (aG (aI (ag (pv 3) (ag (pv 2) af))))))),?_⟩
 refine dJ (K:=K) (gM (R:=tV) (ab (ae (k:=1) (Dat.intI z)) (ab (mQ T.JG) au)) ⟨z,8,9,rfl,rfl⟩) λb ws H1 hb s1 hbs dws=>?_
 have el:(ws.length:Int)=ic z:=by rw [← dws.length,List.length_map,iW]
 have b1:=lK (K:=K) (σ:=(fV ["second","third","behind","ahead"] [.int y,.int z]).set 2 (some (.ref b))) (k:=2) hbs
 rw [el] at b1
 refine dJ (K:=K) (gM (R:=tV) (ab (fS (ae (k:=0) (Dat.intI y)) b1) (ab (mQ T.JN) au)) ⟨_,10,11,rfl,rfl⟩) λa us H2 ha s2 has dus=>?_
 refine gN (yq ⟨_,rfl,_,rfl,bZ (by simp),λp hp=>?_⟩)
 have s3:Same H2 (upd H2 p (.tup [.ref a,.ref b])):=aC hp _
 have nab:a≠b:=Ne.symm (aB hbs ha)
 exact post p a b us ws _ (s1.trans (s2.trans s3)) (SqT.of aq) (s3 _ _ has) (s3 _ _ (s2 _ _ hbs)) (s1.free ha) hb nab (s3.dats dus) ((s2.trans s3).dats dws)
theorem oB (h:o="num"\/o="arg"\/okB o):decide (o=("pick":Str))=false/\o≠"call":=by
 rcases h with rfl | rfl | rfl | rfl | rfl | rfl <;> exact ⟨by decide +kernel,by decide +kernel⟩
theorem xB (t:Tr) (ht:okX t):∃ kd r,toD t=.tup (.str kd::r)/\decide (kd="pick")=vp t/\(decide (kd="call")=mr t)/\(vp t=true->r=(bq t).map toD):=by
 cases t with
 | num n=>exact ⟨_,_,rfl,(oB (.inl rfl)).1,decide_eq_false (oB (.inl rfl)).2,λz=>nomatch z⟩
 | arg n=>exact ⟨_,_,rfl,(oB (.inr (.inl rfl))).1,decide_eq_false (oB (.inr (.inl rfl))).2,λz=>nomatch z⟩
 | two o a b=>exact ⟨_,_,rfl,(oB (.inr (.inr ht.1))).1,decide_eq_false (oB (.inr (.inr ht.1))).2,λz=>nomatch z⟩
 | pick a b c=>exact ⟨_,_,rfl,decide_eq_true rfl,decide_eq_false (by decide +kernel),λ_=>rfl⟩
 | call k=>exact ⟨_,_,rfl,decide_eq_false (by decide +kernel),decide_eq_true rfl,λz=>nomatch z⟩
structure kT (ps:List Pc):Prop where
 ok:∀ p ∈ ps,zS p
 few:ps.length≤100
def wH (as:List Ar) (es:List D):Prop:=∃ ps t,as=[.d (toD t),.l (ps.map pcD)]/\kT ps/\okX t/\aH t≤8/\es=(fT ps t).map wyD
theorem xp (f:Fnd):fdD (some f)=.tup [.tup (f.1.map toD),.tup (f.2.1.map D.int),.tup (f.2.2.map D.int)]:=rfl
theorem tq (T:Txt P w K mg) (Ih:FnOk P w K mg base CX0 k T.FU T.FX ["piece","tree"] (spD K lQ)):FnOk P w K mg base CX0 (k+1) T.Hj T.Hn ["tree","some"] (iu K wH):=by
 refine T.HX.ok sc_ways_of (λvs H Q E h=>?_) (λcdv A outer s H vs Q E hr h=>?_)
 ·obtain ⟨as,d,hd,⟨ps,t,rfl,_⟩,_⟩:=h;exact hd.length.symm
 have nd:=sc_ways_of.nd
 obtain ⟨as,es,hd,⟨ps,t,rfl,okS,okt,dpt,rfl⟩,post⟩:=h
 obtain ⟨v0,v1,rfl,h0,h1⟩:=oR hd
 have h0:Dat K H (toD t) v0:=h0
 have h1:LD K H (ps.map pcD) v1:=h1
 refine ⟨_,(aj (bu (aU cZ (aT aW (pv 0) ak (λ_ _=>rfl)) aD (aY _)) (av (aG (bA (ag (aI (ag aD (ag (aI af) (ag (ij mV (pv 0) (iE ak) jY) af)))) af)))) aP)
 (aj (bg (i:=2) nd rfl (Or.inl rfl) (bA af))
 (aj (hE PassesOwn.never rfl (cP (pv 1)) (aE (i:=3) nd rfl (Or.inl rfl)) (aj (bg (i:=4) nd rfl (Or.inl rfl) (aA Ih hr rfl T.Ik T.GS.kp (lY T) .nil aQ (ag (pv 3) (ag (pv 0) af))))
 (av (bu (aU zX (pv 4) i7 (aY _)) (av (bC (de PySem.F.plainAttrs_list PySem.F.slot_list_append PySem.F.type_list_append cg (pv 2) (ag (aI (ag (aT aW (pv 3) ak (λ_ _=>rfl)) (ag (aT aW (pv 3) ak (λ_ _=>rfl)) (ag (aT aW (pv 4) ak (λ_ _=>rfl)) af)))) af)))) aP))))
 (av (aG (pv 2)))))),?_⟩
 obtain ⟨kd,r,ek,hpk,_,hkids⟩:=xB t okt
 have h0':Dat K H (.tup (.str kd::r)) v0:=by rw [← ek];exact h0
 refine aS (K:=K) (b:=vp t) (RT.as (aO (bV (aZ (k:=0) (ae h0') ao rfl) aF)) hpk) (λc H1 s1=>?_) (λc H1 s1=>?_)
 ·have e:(fT ps t).map wyD=[.tup [.str "pick",.tup [],.tup r]]:=by
   unfold fT
   rw [if_pos c,hkids c]
   rfl
  rw [e] at post
  exact gN (RC.use (K:=K) (dW (ab (aL (ab aF (ab (aL au) (ab (jf (ae (s1.dat h0'))) au)))) au)) λl ys H' hl s hy hd=>post l ys H' (s1.trans s) hy (s1.free hl) hd)
 have ew:fT ps t=ps.filterMap (kZ t):=by unfold fT;rw [if_neg (by rw [c];exact Bool.false_ne_true)]
 rw [ew] at post
 refine cU ⟨bZ (by decide),λwl hwl=>?_⟩
 have s2:Same H1 (upd H1 wl (.lst [])):=aC hwl _
 have s12:=s1.trans s2
 obtain ⟨a,vs,rfl,ha,hda⟩:=h1
 have la:=hda.length
 rw [List.length_map] at la
 have hps:=okS.few
 have hwn:H wl=none:=s1.free hwl
 refine cV ⟨_,rfl,a,rfl,⟨vs,(s12.aLst ha).sqL⟩,jR (xs:=vs) (λi σ G=>∃ (z3 z4:Option V) (ys:List V),σ=[some v0,some (.ref a),some (.ref wl),z3,z4]/\Same H G/\G wl=some (.lst ys)/\Dats K G (((ps.take i).filterMap (kZ t)).map wyD) ys) ?_ (λi σ G _ ⟨_,_,_,_,p,_⟩=>(p.aLst ha).sqL) ?_ ?_⟩
 ·exact ⟨none,none,[],rfl,s12,aq,by rw [List.take_zero];exact Dats.nil⟩
 ·rintro i vx σ G hi ⟨z3,z4,ys,rfl,sG,hwG,dy⟩
  obtain ⟨dx,ex,hx⟩:=(sG.dats hda).getV hi
  rw [List.getElem?_map] at ex
  cases hp:ps[i]? with
  | none=>rw [hp] at ex;cases ex
  | some p =>
   rw [hp] at ex
   cases ex
   have okp:=okS.ok p (List.mem_of_getElem? hp)
   have et:ps.take (i+1)=ps.take i++[p]:=by rw [List.take_add_one,hp];rfl
   have lys:ys.length≤100:=by
    have l1:=dy.length
    rw [List.length_map] at l1
    have l2:=List.length_filterMap_le (kZ t) (ps.take i)
    rw [List.length_take] at l2
    omega
   refine j0 ?_
   dsimp only
   refine cQ (K:=K) (d:=fdD (cf p.pt t)) (ba (R:=lQ) (ab (ae (k:=3) hx) (ab (ae (k:=0) (sG.dat h0)) au)) ⟨.str p.nm,p.pt,.tup p.cs,t,rfl,okp.ok,okt,dpt,okp.dp,rfl⟩) λvf G2 s2 qf=>?_
   have hw2:=s2 _ _ hwG
   cases hft:cf p.pt t with
   | none =>
    have eW:kZ t p=none:=by unfold kZ;rw [hft];rfl
    rw [hft] at qf
    refine iP (b:=false) (aO (uD (K:=K) (ae (k:=4) qf))) (λc=>nomatch c) (λ_ G3 s3=>lN ?_)
    refine ⟨_,_,ys,rfl,sG.trans (s2.trans s3),s3 _ _ hw2,?_⟩
    rw [et,List.filterMap_append]
    simp only [List.filterMap_cons,List.filterMap_nil,eW,List.append_nil]
    exact (s2.trans s3).dats dy
   | some f =>
    have eW:kZ t p=some ⟨p.nm,p.cs,f.1⟩:=by unfold kZ;rw [hft];rfl
    rw [hft,xp] at qf
    refine iP (b:=true) (aO (uD (K:=K) (ae (k:=4) qf))) (λ_ G3 s3=>?_) (λc=>nomatch c)
    have hw3:=s3 _ _ hw2
    have hx3:=(s2.trans s3).dat hx
    refine uF (K:=K) (d:=.tup [.str p.nm,.tup p.cs,.tup (f.1.map toD)]) (aL (ab (aZ (k:=0) (ae (k:=3) hx3) ao rfl) (ab (aZ (k:=2) (ae (k:=3) hx3) ao rfl) (ab (aZ (k:=0) (ae (k:=4) (s3.dat qf)) ao rfl) au)))) hw3 (by omega) λy G4 b4 hw4 q4=>?_
    have g4:cO K G3 G4:=b4.grow hw3 hw4
    refine ⟨_,_,ys++[y],rfl,λx o hx=>b4 x o (aB hx hwn) (s3 _ _ (s2 _ _ (sG _ _ hx))),hw4,?_⟩
    rw [et,List.filterMap_append,List.map_append]
    simp only [List.filterMap_cons,List.filterMap_nil,eW]
    exact Dats.append (Dats.mono g4 _ ((s2.trans s3).dats dy)) (Dats.cons q4 Dats.nil)
 ·rintro σ G ⟨z3,z4,ys,rfl,sG,hwG,dy⟩
  rw [← la,List.take_length] at dy
  exact ⟨_,rfl,post wl ys G sG hwG hwn dy⟩
theorem qc {g:TG} (h:te σ H λx H1=>g x σ H1 (us En)):j8 (nE te g) us En σ H:=h
def Ba (as:List Ar) (d:D):Prop:=∃ (w:Wy) (ls:List Int),as=[.d (.str w.nm),.d (.tup w.cs),.l (ls.map D.int)]/\(w.nm="pick"->ls.length=3)/\d=.int (dA w ls)
theorem pP (T:Txt P w K mg) (Gu:FnOk P w K mg base CX0 k T.D9 T.Eb ["second","third"] (qp K)):FnOk P w K mg base CX0 (k+1) T.Gc T.Gh ["name","cells","lengths"] (spA K Ba):=by
 refine T.Hd.ok sc_length_by (λvs H Q E h=>?_) (λcdv A outer s H vs Q E hr h=>?_)
 ·obtain ⟨as,d,hd,⟨w,ls,rfl,_⟩,_⟩:=h;exact hd.length.symm
 have nd:=sc_length_by.nd
 obtain ⟨as,d,hd,⟨w,ls,rfl,h3,rfl⟩,post⟩:=h
 obtain ⟨v0,v1,v2,rfl,h0,h1,h2⟩:=yZ hd
 have h0:Dat K H (.str w.nm) v0:=h0
 have h1:Dat K H (.tup w.cs) v1:=h1
 have h2:LD K H (ls.map D.int) v2:=h2
 refine ⟨_,(aj (bg (i:=3) nd rfl (Or.inl rfl) (aK aM rfl T.DW bF (ag (pv 1) af)))
 (aj (bu (aU cZ (pv 0) aD (aY _)) (aj (eO (aA Gu hr rfl T.Gw T.EE.kp (iN T) .nil aQ (ag (aT bT (pv 2) ak (λ_ _=>rfl)) (ag (aT bT (pv 2) ak (λ_ _=>rfl)) af))) (dj rfl (aR (aE (i:=4) nd rfl (Or.inl rfl)) (aR (aE (i:=5) nd rfl (Or.inl rfl)) cj))))
 (av (bg (i:=3) nd rfl (Or.inl rfl) (bx fe (aK aM rfl T.DW bF (ag (pv 4) af)) (aK aM rfl T.DW bF (ag (pv 5) af)))))) aP)
 (av (aG (bx fe (pv 3) (aK (w9 rfl) rfl T.Kd Bo (ag (pv 2) af))))))),?_⟩
 refine cQ (K:=K) (eR (ae h1)) λvo H1 s1 qo=>?_
 have eo:=qo.intE
 subst eo
 refine qg (λσ G=>∃ z4 z5:Option V,σ=[some v0,some v1,some v2,some (.int (rM w ls)),z4,z5]/\Same H G) ?_ (λhrest=>?_)
 case refine_2 =>
  refine iP (b:=decide (w.nm="pick")) (aO (bV (K:=K) (ae (k:=0) (s1.dat h0)) aF)) (λc H2 s2=>?_) (λc H2 s2=>?_)
  ·have cp:=of_decide_eq_true c
   obtain ⟨x,y,z,rfl⟩:∃ x y z,ls=[x,y,z]:=by
    match ls,h3 cp with
    | [x,y,z],_=>exact ⟨x,y,z,rfl⟩
   have h22:=(s1.trans s2).ld h2
   refine qc (fR (eQ (RE.use (K:=K) (d:=.int y) (hU (k:=1) (aN (k:=2) h22) ao rfl) λw1 H3 s3 q3=>eQ (RE.use (K:=K) (d:=.int z) (hU (k:=2) (aN (k:=2) (s3.ld h22)) ao rfl) λw2 H4 s4 q4=>?_))))
   have e3:=q3.intE
   have e4:=q4.intE
   subst e3 e4
   refine ⟨y,z,rfl,λp a b us ws H5 s5 hp ha hb _ _ _ dus dws=>?_⟩
   have lu:(us.length:Int)=ic (y+ic z):=by rw [← dus.length,List.length_map,iW]
   have lw:(ws.length:Int)=ic z:=by rw [← dws.length,List.length_map,iW]
   refine ⟨p,_,rfl,hp,rfl,_,_,rfl,_,_,rfl,rfl,?_⟩
   dsimp only
   refine qh (K:=K) (d:=.int (rM w [x,y,z])) (RE.as (fS (lK (k:=4) ha) (lK (k:=5) hb)) ?_) λv H6 s6 q6=>?_
   ·rw [lu,lw]
    unfold rM
    rw [if_pos cp]
    rfl
   ·have e6:=q6.intE
    subst e6
    exact hrest _ _ ⟨_,_,rfl,s1.trans (s2.trans (s3.trans (s4.trans (s5.trans s6))))⟩
  ·have cp:¬ w.nm="pick":=of_decide_eq_false c
   refine lN (hrest _ _ ⟨none,none,?_,s1.trans s2⟩)
   have e:rM w ls=(w.cs.length:Int):=by unfold rM;rw [if_neg cp]
   rw [e]
   rfl
 rintro σ G ⟨z4,z5,rfl,sG⟩
 exact aX (K:=K) (d:=.int (dA w ls)) (fS (ae (k:=3) (Dat.intI _)) (Ap (aN (k:=2) (sG.ld h2)))) λv H' s q=>post v H' (sG.trans s) q
theorem CO:¬ ("num":Str)="arg":=by decide +kernel
theorem Cp:¬ ("arg":Str)="num":=by decide +kernel
variable {b:Tr}
theorem zw {n:Int} (h:eqD (toD (.num n)) (toD b)=true):b=.num n:=by
 cases b with
 | num m =>
  simp only [toD,cq,bj,bM,bL,bK,cn,cm,Bool.and_false,Bool.and_true,Bool.and_eq_true,decide_eq_true_eq] at h
  rw [h.2]
 | arg m =>
  simp only [toD,cq,bj,bM,bL,bK,cn,cm,Bool.and_false,Bool.and_true,Bool.and_eq_true,decide_eq_true_eq] at h
  exact absurd h.1 CO
 | two o x y =>
  simp only [toD,cq,bj,bM,bL,bK,cn,cm,Bool.and_false,Bool.and_true,Bool.and_eq_true,decide_eq_true_eq] at h
  cases h
 | pick x y z =>
  simp only [toD,cq,bj,bM,bL,bK,cn,cm,Bool.and_false,Bool.and_true,Bool.and_eq_true,decide_eq_true_eq] at h
  cases h
 | call m =>
  simp only [toD,cq,bj,bM,bL,bK,cn,cm,Bool.and_false,Bool.and_true,Bool.and_eq_true,decide_eq_true_eq] at h
  exact absurd h.1 (by decide +kernel)
theorem zu {n:Int} (h:eqD (toD (.arg n)) (toD b)=true):b=.arg n:=by
 cases b with
 | num m =>
  simp only [toD,cq,bj,bM,bL,bK,cn,cm,Bool.and_false,Bool.and_true,Bool.and_eq_true,decide_eq_true_eq] at h
  exact absurd h.1 Cp
 | arg m =>
  simp only [toD,cq,bj,bM,bL,bK,cn,cm,Bool.and_false,Bool.and_true,Bool.and_eq_true,decide_eq_true_eq] at h
  rw [h.2]
 | two o x y =>
  simp only [toD,cq,bj,bM,bL,bK,cn,cm,Bool.and_false,Bool.and_true,Bool.and_eq_true,decide_eq_true_eq] at h
  cases h
 | pick x y z =>
  simp only [toD,cq,bj,bM,bL,bK,cn,cm,Bool.and_false,Bool.and_true,Bool.and_eq_true,decide_eq_true_eq] at h
  cases h
 | call m =>
  simp only [toD,cq,bj,bM,bL,bK,cn,cm,Bool.and_false,Bool.and_true,Bool.and_eq_true,decide_eq_true_eq] at h
  exact absurd h.1 (by decide +kernel)
theorem xn {n:Int} (h:eqD (toD (.call n)) (toD b)=true):b=.call n:=by
 cases b with
 | num m =>
  simp only [toD,cq,bj,bM,bL,bK,cn,cm,Bool.and_false,Bool.and_true,Bool.and_eq_true,decide_eq_true_eq] at h
  exact absurd h.1 (by decide +kernel)
 | arg m =>
  simp only [toD,cq,bj,bM,bL,bK,cn,cm,Bool.and_false,Bool.and_true,Bool.and_eq_true,decide_eq_true_eq] at h
  exact absurd h.1 (by decide +kernel)
 | two o x y =>
  simp only [toD,cq,bj,bM,bL,bK,cn,cm,Bool.and_false,Bool.and_true,Bool.and_eq_true,decide_eq_true_eq] at h
  cases h
 | pick x y z =>
  simp only [toD,cq,bj,bM,bL,bK,cn,cm,Bool.and_false,Bool.and_true,Bool.and_eq_true,decide_eq_true_eq] at h
  cases h
 | call m =>
  simp only [toD,cq,bj,bM,bL,bK,cn,cm,Bool.and_false,Bool.and_true,Bool.and_eq_true,decide_eq_true_eq] at h
  rw [h.2]
theorem zx (h:eqD (toD (.two o x y)) (toD b)=true):∃ x' y',b=.two o x' y'/\eqD (toD x) (toD x')=true/\eqD (toD y) (toD y')=true:=by
 cases b with
 | num m =>
  simp only [toD,cq,bj,bM,bL,bK,cn,cm,Bool.and_false,Bool.and_true,Bool.and_eq_true,decide_eq_true_eq] at h
  cases h
 | arg m =>
  simp only [toD,cq,bj,bM,bL,bK,cn,cm,Bool.and_false,Bool.and_true,Bool.and_eq_true,decide_eq_true_eq] at h
  cases h
 | two o' x' y' =>
  simp only [toD,cq,bj,bM,bL,bK,cn,cm,Bool.and_false,Bool.and_true,Bool.and_eq_true,decide_eq_true_eq] at h
  exact ⟨x',y',by rw [h.1],h.2.1,h.2.2⟩
 | pick x y z =>
  simp only [toD,cq,bj,bM,bL,bK,cn,cm,Bool.and_false,Bool.and_true,Bool.and_eq_true,decide_eq_true_eq] at h
  cases h
 | call m =>
  simp only [toD,cq,bj,bM,bL,bK,cn,cm,Bool.and_false,Bool.and_true,Bool.and_eq_true,decide_eq_true_eq] at h
  cases h
theorem xo {z:Tr} (h:eqD (toD (.pick x y z)) (toD b)=true):∃ x' y' z',b=.pick x' y' z'/\eqD (toD x) (toD x')=true/\eqD (toD y) (toD y')=true/\eqD (toD z) (toD z')=true:=by
 cases b with
 | num m =>
  simp only [toD,cq,bj,bM,bL,bK,cn,cm,Bool.and_false,Bool.and_true,Bool.and_eq_true,decide_eq_true_eq] at h
  cases h
 | arg m =>
  simp only [toD,cq,bj,bM,bL,bK,cn,cm,Bool.and_false,Bool.and_true,Bool.and_eq_true,decide_eq_true_eq] at h
  cases h
 | two o' x' y' =>
  simp only [toD,cq,bj,bM,bL,bK,cn,cm,Bool.and_false,Bool.and_true,Bool.and_eq_true,decide_eq_true_eq] at h
  cases h
 | pick x' y' z' =>
  simp only [toD,cq,bj,bM,bL,bK,cn,cm,Bool.and_false,Bool.and_true,Bool.and_eq_true,decide_eq_true_eq] at h
  exact ⟨x',y',z',rfl,h.2.1,h.2.2.1,h.2.2.2⟩
 | call m =>
  simp only [toD,cq,bj,bM,bL,bK,cn,cm,Bool.and_false,Bool.and_true,Bool.and_eq_true,decide_eq_true_eq] at h
  cases h
theorem lO (a:Tr):∀ b:Tr,eqD (toD a) (toD b)=true->a=b:=by
 induction a with
 | num n=>intro b h;exact (zw h).symm
 | arg n=>intro b h;exact (zu h).symm
 | call n=>intro b h;exact (xn h).symm
 | two o x y ihx ihy =>
  intro b h
  obtain ⟨x',y',rfl,h1,h2⟩:=zx h
  rw [ihx x' h1,ihy y' h2]
 | pick x y z ihx ihy ihz =>
  intro b h
  obtain ⟨x',y',z',rfl,h1,h2,h3⟩:=xo h
  rw [ihx x' h1,ihy y' h2,ihz z' h3]
theorem gC:∀ t:Tr,d9 (toD t)=aH t
 | .num n=>by unfold toD aH;simp [d9,deepDs]
 | .arg n=>by unfold toD aH;simp [d9,deepDs]
 | .call n=>by unfold toD aH;simp [d9,deepDs]
 | .two o a b=>by unfold toD aH;simp [d9,deepDs,gC a,gC b]
 | .pick a b c=>by unfold toD aH;simp [d9,deepDs,gC a,gC b,gC c]
theorem bW:∀ t:Tr,noL (toD t)=true
 | .num n=>by unfold toD;simp [noL,noLs]
 | .arg n=>by unfold toD;simp [noL,noLs]
 | .call n=>by unfold toD;simp [noL,noLs]
 | .two o a b=>by unfold toD;simp [noL,noLs,bW a,bW b]
 | .pick a b c=>by unfold toD;simp [noL,noLs,bW a,bW b,bW c]
theorem gy:∀ ts:List Tr,noLs (ts.map toD)=true
 | []=>by simp [noLs]
 | t::ts=>by simp [noLs,bW t,gy ts]
theorem ib:∀ ts:List Tr,(∀ x ∈ ts,aH x≤n)->deepDs (ts.map toD)≤n
 | [],_=>by simp [deepDs]
 | t::ts,h=>by
  have h1:=h t (by simp)
  have h2:=ib ts λx hx=>h x (by simp [hx])
  simp only [List.map_cons,deepDs,gC]
  omega
theorem qS:∀ {ts:List Tr},(∀ y ∈ ts,okX y)->okX x->x ∈ ts->∃ j:Nat,ts[j]?=some x/\∀ (m:Nat) e,m < j->(ts.map toD)[m]?=some e->eqD e (toD x)=false
 | [],_,_,h=>by simp at h
 | y::ts,hok,hx,h=>by
  by_cases e:eqD (toD y) (toD x)=true
  ·have:=lO y x e
   exact ⟨0,by rw [this];rfl,λm _ hm=>absurd hm (Nat.not_lt_zero m)⟩
  ·have hmem:x ∈ ts:=by
    rcases List.mem_cons.mp h with rfl | h
    ·exact absurd (eA _ (bW x)) e
    ·exact h
   obtain ⟨j,h1,h2⟩:=qS (λz hz=>hok z (List.mem_cons_of_mem _ hz)) hx hmem
   refine ⟨j+1,by simpa using h1,λm d hm hd=>?_⟩
   cases m with
   | zero =>
    have e':toD y=d:=by simpa using hd
    rw [← e']
    exact Bool.eq_false_iff.mpr e
   | succ m=>exact h2 m d (by omega) (by simpa using hd)
theorem qB:∀ bs:List Bst,(bs.map λb=>isN (bD b)).any id=(fO bs).isNone
 | []=>rfl
 | none::bs=>rfl
 | some b::bs=>by
  have ih:=qB bs
  show (false || (bs.map λb=>isN (bD b)).any id)=((fO bs).map (b::·)).isNone
  rw [ih,Bool.false_or]
  cases fO bs <;> rfl
theorem qD:∀ {bs:List Bst} {cs:List (Int × D)},fO bs=some cs->bs=cs.map some
 | [],cs,h=>by cases h;rfl
 | none::bs,cs,h=>by cases h
 | some b::bs,cs,h=>by
  have h':(fO bs).map (b::·)=some cs:=h
  cases e:fO bs with
  | none=>rw [e] at h';cases h'
  | some r =>
   rw [e] at h'
   cases h'
   rw [qD e]
   rfl
theorem mq:∀ p:Pa,fP p≤2 ^ (cR p - 1)
 | .hole _=>by simp [fP,cR]
 | .gap _ _=>by simp [fP,cR]
 | .slot _=>by simp [fP,cR]
 | .num _=>by simp [fP,cR]
 | .two o a b=>by
  have h1:=mq a
  have h2:=mq b
  have d1:=ki a
  have d2:=ki b
  have e:cR (.two o a b) - 1=(max (cR a) (cR b) - 1)+1:=by simp only [cR];omega
  rw [e,Nat.pow_succ]
  have p1:2 ^ (cR a - 1)≤2 ^ (max (cR a) (cR b) - 1):=Nat.pow_le_pow_right (by decide) (by omega)
  have p2:2 ^ (cR b - 1)≤2 ^ (max (cR a) (cR b) - 1):=Nat.pow_le_pow_right (by decide) (by omega)
  simp only [fP]
  omega
def wy (as:List Ar) (d:D):Prop:=∃ (ps:List Pc) (t:Tr) (f:Tr->Bst) (ts:List Tr),as=[.d (toD t),.l (ps.map pcD),.l (ts.map toD),.l (ts.map λx=>bD (f x))]/\kT ps/\okX t/\aH t≤8/\ts.length≤200/\(∀ x ∈ ts,okX x/\aH x≤8) /\
 (∀ w ∈ fT ps t,∀ x ∈ w.ts,x ∈ ts)/\d=bD (eJ ps f t)
theorem Ci (h:∀ p ∈ ps,zS p) {w:Wy} (hw:w ∈ fT ps t):w.ts.length≤8/\(w.nm="pick"->w.ts.length=3):=by
 unfold fT at hw
 split at hw
 ·rename_i c
  rw [List.mem_singleton.mp hw]
  cases t with
  | pick a b c=>exact ⟨by simp [bq],λ_=>rfl⟩
  | _=>cases c
 ·obtain ⟨p,h1,h2⟩:=List.mem_filterMap.mp hw
  unfold kZ at h2
  cases e:cf p.pt t with
  | none=>rw [e] at h2;cases h2
  | some f =>
   rw [e] at h2
   cases h2
   refine ⟨?_,λz=>absurd z (h p h1).nm⟩
   show f.1.length≤8
   rw [kj _ _ _ e]
   have:=mq p.pt
   have hd:=(h p h1).dp
   calc fP p.pt≤2 ^ (cR p.pt - 1):=this
    _≤2 ^ 2:=Nat.pow_le_pow_right (by decide) (by omega)
    _≤8:=by decide
theorem lq (T:Txt P w K mg) (JU:FnOk P w K mg base CX0 k T.Hj T.Hn ["tree","some"] (iu K wH)) (JE:FnOk P w K mg base CX0 k T.Gc T.Gh ["name","cells","lengths"] (spA K Ba)):FnOk P w K mg base CX0 (k+1) T.EN T.EV ["tree","some","done","bests"] (spA K wy):=by
 refine T.FO.ok sc_best_by_ways (λvs H Q E h=>?_) (λcdv A outer s H vs Q E hr h=>?_)
 ·obtain ⟨as,d,hd,⟨ps,t,f,ts,rfl,_⟩,_⟩:=h;exact hd.length.symm
 have nd:=sc_best_by_ways.nd
 obtain ⟨as,d,hd,⟨ps,t,f,ts,rfl,okS,okt,dpt,fts,okts,hts,rfl⟩,post⟩:=h
 obtain ⟨v0,v1,v2,v3,rfl,h0,h1,h2,h3⟩:=y0 hd
 have h0:Dat K H (toD t) v0:=h0
 have h1:LD K H (ps.map pcD) v1:=h1
 have h2:LD K H (ts.map toD) v2:=h2
 have h3:LD K H (ts.map λx=>bD (f x)) v3:=h3
 refine ⟨_,(aj (bu (aU cZ (aT aW (pv 0) ak (λ_ _=>rfl)) aD (aY _)) (av (aG (aI (ag (bz (v:=.int 3) rfl T.E4 ⟨_,rfl⟩) (ag (aI af) af))))) aP)
 (aj (bg (i:=4) nd rfl (Or.inl rfl) i7)
 (aj (hE PassesOwn.never rfl (cP (aA JU hr rfl T.Jo T.HX.kp (uT T) .nil aQ (ag (pv 0) (ag (pv 1) af)))) (dj rfl (aR (aE (i:=5) nd rfl (Or.inl rfl)) (aR (aE (i:=6) nd rfl (Or.inl rfl)) (aR (aE (i:=7) nd rfl (Or.inl rfl)) cj)))) (aj (fA (i:=8) (own:=["one"]) (fr:=[2,3]) (N':=["one","done","bests"]) (iD (pv 7)) rfl (by show bR ["tree","some","done","bests","best","name","cells","trees","within","length"] (λx=>(ay bY).names.lookup x) _ _ _ _=true;decide +kernel) rfl (λ_ _ _ _ _=>(aE (i:=0) (by show List.Nodup [("one":Str),("done":Str),("bests":Str)];decide +kernel) rfl (Or.inl rfl))) (λ_ _ _ _ _=>bE) (λ_ _ _ _ _=>(aT (r:=Ae K) bT (pv 2) (BQ (r:=lJ K) K rfl PySem.F.plainAttrs_list PySem.F.slot_list_index PySem.F.type_list_index (kr hr) (pv 1) (ag (pv 0) af)) (λ_ _=>rfl))) nd rfl rfl rfl)
 (aj (bu (bo (aK (wY rfl) rfl T.Kb Bm (ag (cE (own:=["one"]) (fr:=[]) (N':=["one"]) (cP (pv 8)) rfl (by show bR ["tree","some","done","bests","best","name","cells","trees","within","length"] (λx=>(ay bY).names.lookup x) _ _ _ _=true;decide +kernel) rfl (λ_ _ _ _ _=>(aE (i:=0) (by show List.Nodup [("one":Str)];decide +kernel) rfl (Or.inl rfl))) (λ_ _ _ _ _=>bE) (λ_ _ _ _ _=>(cH pR (pv 0) i7 (aY _)))) af)) (λ_=>rfl)) (av rQ) aP)
 (aj (bg (i:=9) nd rfl (Or.inl rfl) (aA JE hr rfl T.IM T.Hd.kp (qH T) .nil aQ (ag (pv 5) (ag (pv 6) (ag (cE (own:=["one"]) (fr:=[]) (N':=["one"]) (cP (pv 8)) rfl (by show bR ["tree","some","done","bests","best","name","cells","trees","within","length"] (λx=>(ay bY).names.lookup x) _ _ _ _=true;decide +kernel) rfl (λ_ _ _ _ _=>(aE (i:=0) (by show List.Nodup [("one":Str)];decide +kernel) rfl (Or.inl rfl))) (λ_ _ _ _ _=>bE) (λ_ _ _ _ _=>(aT (r:=rT K) aW (pv 0) ak (λ_ _=>rfl)))) af)))))
 (av (bu (PW.pt (fg (aU pR (pv 4) i7 (aY _)) (eP (aU oy (pv 9) (aT aW (pv 4) ak (λ_ _=>rfl)) (aY _))))) (av (bg (i:=4) nd rfl (Or.inl rfl) (aI (ag (pv 9) (ag (aI (ag (pv 5) (ag (di cJ rfl T.Fj dt (ag (cE (own:=["one"]) (fr:=[]) (N':=["one"]) (cP (pv 8)) rfl (by show bR ["tree","some","done","bests","best","name","cells","trees","within","length"] (λx=>(ay bY).names.lookup x) _ _ _ _=true;decide +kernel) rfl (λ_ _ _ _ _=>(aE (i:=0) (by show List.Nodup [("one":Str)];decide +kernel) rfl (Or.inl rfl))) (λ_ _ _ _ _=>bE) (λ_ _ _ _ _=>(aT (r:=rT K) aW (pv 0) ak (λ_ _=>rfl)))) af)) af))) af))))) aP))))))
 (av (aG (pv 4)))))),?_⟩
 obtain ⟨kd,r,ek,hpk,hcall,hkids⟩:=xB t okt
 have h0':Dat K H (.tup (.str kd::r)) v0:=by rw [← ek];exact h0
 refine aS (K:=K) (b:=mr t) (RT.as (aO (bV (aZ (k:=0) (ae h0') ao rfl) aF)) hcall) (λc H1 s1=>?_) (λc H1 s1=>?_)
 ·have e:eJ ps f t=some (3,.tup []):=by unfold eJ;rw [if_pos c]
  rw [e] at post
  exact aX (K:=K) (d:=.tup [.int 3,.tup []]) (aL (ab ao (ab (aL au) au))) λv H' s q=>post v H' (s1.trans s) q
 have ebb:eJ ps f t=(fT ps t).foldl (dS f) none:=by unfold eJ;rw [if_neg (by rw [c];exact Bool.false_ne_true)]
 rw [ebb] at post
 refine cU (oG ?_)
 refine cV (RC.use (K:=K) (cT (R:=wH) (dC (ae (k:=0) (s1.dat h0)) (cW (aN (k:=1) (s1.ld h1)) bS)) ⟨ps,t,rfl,okS,okt,dpt,rfl⟩) λl ys H2 hl s2 hy hdy=>?_)
 have s12:=s1.trans s2
 have ly:=hdy.length
 rw [List.length_map] at ly
 refine ⟨l,rfl,⟨ys,SqL.of hy⟩,jR (xs:=ys) (λi σ G=>∃ (vb:V) (z5 z6 z7 z8 z9:Option V),σ=[some v0,some v1,some v2,some v3,some vb,z5,z6,z7,z8,z9]/\Same H2 G/\Dat K G (bD (((fT ps t).take i).foldl (dS f) none)) vb) ?_ (λi σ G _ ⟨_,_,_,_,_,_,_,p,_⟩=>SqL.of (p _ _ hy)) ?_ ?_⟩
 ·exact ⟨.non,_,_,_,_,_,rfl,Same.refl _,Dat.nonI⟩
 ·rintro i vx σ G hi ⟨vb,z5,z6,z7,z8,z9,rfl,sG,hb⟩
  have sHG:=s12.trans sG
  obtain ⟨dx,ex,hx⟩:=(sG.dats hdy).getV hi
  rw [List.getElem?_map] at ex
  cases hw:(fT ps t)[i]? with
  | none=>rw [hw] at ex;cases ex
  | some w =>
   rw [hw] at ex
   cases ex
   have hwm:=List.mem_of_getElem? hw
   obtain ⟨few,few3⟩:=Ci okS.ok hwm
   have et:(fT ps t).take (i+1)=(fT ps t).take i++[w]:=by rw [List.take_add_one,hw];rfl
   rw [et,List.foldl_append,List.foldl_cons,List.foldl_nil]
   generalize ((fT ps t).take i).foldl (dS f) none=best at hb ⊢
   obtain ⟨pa,us,rfl,hpa,hus⟩:=(show Dat K G (.tup [.str w.nm,.tup w.cs,.tup (w.ts.map toD)]) vx from hx).tupE
   obtain ⟨x5,x6,x7,rfl,k5,k6,k7⟩:=ua hus
   refine ⟨pa,_,rfl,hpa,rfl,_,_,rfl,_,_,rfl,_,_,rfl,rfl,?_⟩
   dsimp only
   refine dJ (K:=K) (mO (ae (k:=7) k7) (by rw [List.length_map];omega) (w.ts.map λx=>bD (f x)) (by rw [List.length_map,List.length_map]) rfl (λG1 j c v d s1 hc hd hv=>?_)) λlw zs G2 hlw s2 hzs dzs=>?_
   ·rw [List.getElem?_map] at hc hd
    cases hx:w.ts[j]? with
    | none=>rw [hx] at hc;cases hc
    | some x =>
     rw [hx] at hc hd
     cases hc
     cases hd
     have hxt:=hts w hwm x (List.mem_of_getElem? hx)
     obtain ⟨m,hm1,hm2⟩:=qS (λy hy=>(okts y hy).1) (okts x hxt).1 hxt
     have sH1:=sHG.trans s1
     refine hU (k:=m) (aN (k:=2) (sH1.ld h3)) (mR (k:=1) (sH1.ld h2) (ae (k:=0) hv) (gy ts) (bW x) (Nat.le_trans (ib (n:=8) ts λy hy=>(okts y hy).2) (by decide)) (by rw [List.length_map];omega) ⟨toD x,by rw [List.getElem?_map,hm1];rfl,eA _ (bW x)⟩ hm2) (by rw [List.getElem?_map,hm1];rfl)
   have hL2:LD K G2 (w.ts.map λx=>bD (f x)) (.ref lw):=LD.of hzs dzs
   have eM:(w.ts.map λx=>bD (f x))=(w.ts.map f).map bD:=by rw [List.map_map];rfl
   have lM:(w.ts.map f).length≤8:=by rw [List.length_map];exact few
   rw [eM] at hL2
   generalize hfb:w.ts.map f=fb at hL2 lM
   have eS:∀ b,dS f b w=AZ b w (fO fb):=λb=>by unfold dS;rw [hfb]
   rw [eS]
   refine aS (K:=K) (b:=(fO fb).isNone) (RT.as (aV (Ak (bs:=fb.map λb=>isN (bD b)) (fh (aN (k:=8) hL2) (by rw [List.length_map];omega) _ (by simp) rfl (λG1 j c v d s1 hc hd hv=>?_)))) (qB fb)) (λcN G3 s3=>Av ?_) (λcS G3 s3=>?_)
   ·rw [List.getElem?_map] at hc hd
    rw [List.getElem?_map] at hd
    cases hx:fb[j]? with
    | none=>rw [hx] at hc;cases hc
    | some b =>
     rw [hx] at hc hd
     cases hc
     cases hd
     exact mS (ae (k:=0) hv)
   ·have eN:fO fb=none:=by cases e:fO fb with | none=>rfl | some _=>rw [e] at cN;cases cN
    refine ⟨vb,_,_,_,_,_,rfl,sG.trans (s2.trans s3),?_⟩
    rw [eN]
    exact (s2.trans s3).dat hb
   ·cases eb:fO fb with
    | none=>rw [eb] at cS;cases cS
    | some bs =>
     have efb:=qD eb
     have lbs:bs.length≤8:=by rw [efb,List.length_map] at lM;exact lM
     have lbw:bs.length=w.ts.length:=by
      have:=congrArg List.length hfb
      rw [efb,List.length_map,List.length_map] at this
      exact this.symm
     have hL3:=s3.ld hL2
     have s23:=s2.trans s3
     refine cQ (K:=K) (d:=.int (dA w (bs.map (·.1)))) (cC (R:=Ba) (dC (ae (k:=5) (s23.dat k5)) (dC (ae (k:=6) (s23.dat k6)) (cW (ds:=(bs.map (·.1)).map D.int) (eB (fh (aN (k:=8) hL3) (by rw [List.length_map];omega) _ (by rw [efb];simp) rfl (λG1 j c v d s1 hc hd hv=>?_))) bS))) ⟨w,bs.map (·.1),rfl,λz=>by rw [List.length_map,lbw];exact few3 z,rfl⟩) λvl G4 s4 q4=>?_
     ·rw [efb] at hc
      simp only [List.getElem?_map] at hc hd
      cases hx:bs[j]? with
      | none=>rw [hx] at hc;cases hc
      | some b =>
       rw [hx] at hc hd
       cases hc
       cases hd
       exact aZ (k:=0) (ae (k:=0) hv) ao rfl
     have s24:=s23.trans s4
     have el:=q4.intE
     subst el
     have hb4:=s24.dat hb
     have new:∀ {G5:Hp},Same G4 G5->RE K (yJ (bP (iS 9) (bP (yJ (bP (iS 5) (bP (tCB (λxs H Q=>∃ p ys,xs=[.ref p]/\((SqL K H p ys/\∀ l,H l=none->Q (.ref l) (upd H l (.tup ys)))\/(SqT K H p ys/\Q (.ref p) H))) (bP (gW (oi K (iS 8)) (mkS ["one"] []) (cy 0) fW (tOp (rT K) (iS 0) (tC (.int 1)))) d8)) d8))) d8))) [some v0,some v1,some v2,some v3,some vb,some x5,some x6,some x7,some (.ref lw),some (.int (dA w (bs.map (·.1))))] G5 (.tup [.int (dA w (bs.map (·.1))),cvD w.nm bs]):=λ{G5} s5=>by
      refine aL (ab (ae (k:=9) (Dat.intI _)) (ab (aL (ab (ae (k:=5) ((s24.trans s5).dat k5)) (ab (oF (es:=bs.map (·.2)) (fh (aN (k:=8) ((s4.trans s5).ld hL3)) (by rw [List.length_map];omega) _ (by rw [efb];simp) rfl (λG1 j c v d s1 hc hd hv=>?_))) au))) au))
      rw [efb] at hc
      simp only [List.getElem?_map] at hc hd
      cases hx:bs[j]? with
      | none=>rw [hx] at hc;cases hc
      | some b =>
       rw [hx] at hc hd
       cases hc
       cases hd
       exact aZ (k:=1) (ae (k:=0) hv) ao rfl
     have done:∀ {G5:Hp} {d:D},Same G4 G5->d=bD (gv best (dA w (bs.map (·.1))) (cvD w.nm bs))->∀ v,Dat K G5 d v->∃ (vb:V) (z5 z6 z7 z8 z9:Option V),[some v0,some v1,some v2,some v3,some v,some x5,some x6,some x7,some (.ref lw),some (.int (dA w (bs.map (·.1))))]=[some v0,some v1,some v2,some v3,some vb,z5,z6,z7,z8,z9]/\Same H2 G5/\Dat K G5 (bD (gv best (dA w (bs.map (·.1))) (cvD w.nm bs))) vb:=λ{G5 d} s5 e v hv =>
      ⟨v,_,_,_,_,_,rfl,sG.trans (s24.trans s5),e ▸ hv⟩
     cases best with
     | none =>
      refine iP (b:=true) (RT.as (cX (b:=true) (c:=true) (aO (mS (K:=K) (ae (k:=4) hb4))) λc=>nomatch c) rfl) (λ_ G5 s5=>?_) (λc=>nomatch c)
      exact qh (K:=K) (new s5) λv G6 s6 q6=>done (s5.trans s6) rfl v q6
     | some b0 =>
      have hb4':Dat K G4 (.tup [.int b0.1,b0.2]) vb:=hb4
      refine iP (b:=decide (dA w (bs.map (·.1)) < b0.1)) (RT.as (cX (b:=false) (aO (mS (K:=K) (ae (k:=4) hb4'))) λ_=>aO (dD (p:=λi j=>decide (i < j)) (ae (k:=9) (Dat.intI _)) (aZ (k:=0) (ae (k:=4) hb4') ao rfl))) (Bool.false_or _)) (λc G5 s5=>?_) (λc G5 s5=>lN ?_)
      ·refine qh (K:=K) (new s5) λv G6 s6 q6=>done (s5.trans s6) ?_ v q6
       show _=bD (if dA w (bs.map (·.1)) < b0.1 then _ else _)
       rw [if_pos (of_decide_eq_true c)]
       rfl
      ·refine done (d:=bD (some b0)) s5 ?_ vb (s5.dat hb4')
       show _=bD (if dA w (bs.map (·.1)) < b0.1 then _ else _)
       rw [if_neg (of_decide_eq_false c)]
 ·rintro σ G ⟨vb,z5,z6,z7,z8,z9,rfl,sG,hb⟩
  rw [← ly,List.take_length] at hb
  exact ⟨_,rfl,post vb G (s12.trans sG) hb⟩
theorem fz:∀ (t:Tr) (j:Nat) (x:Tr),(ax t)[j]?=some x->∃ r,(ax t).drop j=ax x++r
 | .num n,j,x,h=>by
  cases j with
  | zero=>cases h;exact ⟨[],rfl⟩
  | succ j=>simp [ax] at h
 | .arg n,j,x,h=>by
  cases j with
  | zero=>cases h;exact ⟨[],rfl⟩
  | succ j=>simp [ax] at h
 | .call n,j,x,h=>by
  cases j with
  | zero=>cases h;exact ⟨[],rfl⟩
  | succ j=>simp [ax] at h
 | .two o a b,j,x,h=>by
  cases j with
  | zero=>cases h;exact ⟨[],by rw [List.drop_zero,List.append_nil]⟩
  | succ j =>
   have h':(ax a++ax b)[j]?=some x:=by simpa [ax] using h
   show ∃ r,(ax a++ax b).drop j=ax x++r
   by_cases hj:j < (ax a).length
   ·rw [List.getElem?_append_left hj] at h'
    obtain ⟨r,e⟩:=fz a j x h'
    exact ⟨r++ax b,by rw [List.drop_append_of_le_length (Nat.le_of_lt hj),e,List.append_assoc]⟩
   ·rw [List.getElem?_append_right (by omega)] at h'
    obtain ⟨r,e⟩:=fz b _ x h'
    refine ⟨r,?_⟩
    rw [List.drop_append,List.drop_of_length_le (by omega),List.nil_append]
    exact e
 | .pick a b c,j,x,h=>by
  cases j with
  | zero=>cases h;exact ⟨[],by rw [List.drop_zero,List.append_nil]⟩
  | succ j =>
   have h':(ax a++(ax b++ax c))[j]?=some x:=by simpa [ax] using h
   show ∃ r,(ax a++ax b++ax c).drop j=ax x++r
   rw [List.append_assoc]
   by_cases hj:j < (ax a).length
   ·rw [List.getElem?_append_left hj] at h'
    obtain ⟨r,e⟩:=fz a j x h'
    exact ⟨r++(ax b++ax c),by rw [List.drop_append_of_le_length (Nat.le_of_lt hj),e,List.append_assoc]⟩
   ·rw [List.getElem?_append_right (by omega)] at h'
    rw [List.drop_append,List.drop_of_length_le (l:=ax a) (by omega),List.nil_append]
    generalize j - (ax a).length=i at h' ⊢
    by_cases hi:i < (ax b).length
    ·rw [List.getElem?_append_left hi] at h'
     obtain ⟨r,e⟩:=fz b i x h'
     exact ⟨r++ax c,by rw [List.drop_append_of_le_length (Nat.le_of_lt hi),e,List.append_assoc]⟩
    ·rw [List.getElem?_append_right (by omega)] at h'
     obtain ⟨r,e⟩:=fz c _ x h'
     refine ⟨r,?_⟩
     rw [List.drop_append,List.drop_of_length_le (by omega),List.nil_append]
     exact e
theorem nF (hi:i < az t) (h:(ax t)[az t - 1 - i]?=some x) (hy:y ∈ (bq x).flatMap ax):y ∈ (ax t).reverse.take i:=by
 obtain ⟨r,e⟩:=fz t _ x h
 have e2:(ax t).drop (az t - i)=(bq x).flatMap ax++r:=by
  have:az t - i=az t - 1 - i+1:=by omega
  rw [this,← List.drop_drop,e,dB x]
  rfl
 rw [List.take_reverse,List.mem_reverse,br,e2]
 exact List.mem_append_left _ hy
theorem Aq {α:Type} {l:List α} (h:i < l.length):l.reverse[i]?=l[l.length - 1 - i]?:=List.getElem?_reverse h
def wA (as:List Ar) (d:D):Prop:=∃ (ps:List Pc) (t:Tr) (b:Int × D),as=[.d (toD t),.l (ps.map pcD)]/\kT ps/\okX t/\aH t≤8/\az t≤200/\cz ps t=some b/\d=.tup [.int b.1,b.2]
theorem B1 {ta:TA} {g:TG} {tb:TS} (h:ta σ H λvs H1=>∃ a xs,vs=[.ref a]/\SqL K H1 a xs/\∃ W:Nat->Nat->L2.St->Hp->Prop,(∃ m,W 0 m σ H1)/\∀ i m σ H,W i m σ H ->
   ((Itv K a xs).stop i H/\En.nx σ H)\/((Itv K a xs).go i H/\∃ N:L2.St->Hp->Prop,(∀ σ' H',N σ' H'->∃ m',m' < m/\W (i+1) m' σ' H')/\∀ x H',(Itv K a xs).yld i H x H'->g x σ H' λσ2 H2=>tb { En with nx:=N,ct:=N,bk:=En.nx } σ2 H2)):C2 (CD K ta) g tb En σ H:=h
theorem AN (h:kT ps):∀ p ∈ ps,e8 p.pt=true:=λp hp=>(h.ok p hp).nh
theorem ky (T:Txt P w K mg) (GJ:FnOk P w K mg base CX0 k T.FC T.FJ ["tree"] (gE K (eI 8))) (IW:FnOk P w K mg base CX0 k T.EN T.EV ["tree","some","done","bests"] (spA K wy)):FnOk P w K mg base CX0 (k+1) T.D8 T.Ea ["tree","some"] (spA K wA):=by
 refine T.ED.ok sc_best_covering (λvs H Q E h=>?_) (λcdv A outer s H vs Q E hr h=>?_)
 ·obtain ⟨as,d,hd,⟨ps,t,b,rfl,_⟩,_⟩:=h;exact hd.length.symm
 have nd:=sc_best_covering.nd
 obtain ⟨as,d,hd,⟨ps,t,b,rfl,okS,okt,dpt,szt,hbst,rfl⟩,post⟩:=h
 obtain ⟨v0,v1,rfl,h0,h1⟩:=oR hd
 have h0:Dat K H (toD t) v0:=h0
 have h1:LD K H (ps.map pcD) v1:=h1
 refine ⟨_,(aj (bg (i:=2) nd rfl (Or.inl rfl) (bA af))
 (aj (bg (i:=3) nd rfl (Or.inl rfl) (bA af))
 (aj (hE PassesOwn.never rfl (BU rfl T.Je (ag (aA GJ hr rfl T.HQ T.GU.kp (jK T) .nil aQ (ag (pv 0) af)) af)) (aE (i:=4) nd rfl (Or.inl rfl)) (aj (bC (de PySem.F.plainAttrs_list PySem.F.slot_list_append PySem.F.type_list_append cg (pv 3) (ag (aA IW hr rfl T.HL T.FO.kp (lX T) .nil aQ (ag (pv 4) (ag (pv 1) (ag (pv 2) (ag (pv 3) af))))) af)))
 (av (bC (de PySem.F.plainAttrs_list PySem.F.slot_list_append PySem.F.type_list_append cg (pv 2) (ag (pv 4) af))))))
 (aj (bu (aU pR (aT bT (pv 3) (AQ yQ ak) (λ_ _=>rfl)) i7 (aY _)) (av ik) aP)
 (av (aG (aT bT (pv 3) (AQ yQ ak) (λ_ _=>rfl)))))))),?_⟩
 refine cU ⟨bZ (by decide),λld hld=>?_⟩
 refine cU ⟨bZ (by decide),λlb hlb=>?_⟩
 have ndb:ld≠lb:=aB aq hlb
 have s1:Same H (upd (upd H ld (.lst [])) lb (.lst [])):=(aC hld _).trans (aC hlb _)
 have hlb0:H lb=none:=(aC hld _).free hlb
 have hd1:upd (upd H ld (.lst [])) lb (.lst []) ld=some (.lst []):=by rw [aJ ndb];exact aq
 have hb1:upd (upd H ld (.lst [])) lb (.lst []) lb=some (.lst []):=aq
 generalize upd (upd H ld (.lst [])) lb (.lst [])=G1 at s1 hd1 hb1 ⊢
 refine cV (B1 (K:=K) (eQ (RC.use (K:=K) (gM (R:=eI 8) (ab (ae (k:=0) (s1.dat h0)) au) ⟨t,rfl,okt,dpt,szt,rfl⟩) λlw xs G2 hlw s2 hxs dxs=>?_)))
 have nwd:ld≠lw:=aB hd1 hlw
 have nwb:lb≠lw:=aB hb1 hlw
 have lx:=dxs.length
 rw [List.length_map,br] at lx
 refine ⟨lw,xs,rfl,SqL.of hxs,zz (xs:=xs) (λi σ G=>∃ (z4:Option V) (us ws:List V),σ=[some v0,some v1,some (.ref ld),some (.ref lb),z4]/\Same H G/\G lw=some (.lst xs)/\Dats K G ((ax t).map toD) xs/\G ld=some (.lst us)/\Dats K G (((ax t).reverse.take i).map toD) us/\G lb=some (.lst ws)/\Dats K G (((ax t).reverse.take i).map λx=>bD (cz ps x)) ws) ?_ (λi σ G _ ⟨_,_,_,_,_,p,_⟩=>SqL.of p) ?_ ?_⟩
 ·exact ⟨none,[],[],rfl,s1.trans s2,hxs,dxs,s2 _ _ hd1,Dats.nil,s2 _ _ hb1,Dats.nil⟩
 ·rintro i vx σ G hi hx ⟨z4,us,ws,rfl,sG,hwG,dxG,hdG,dus,hbG,dws⟩
  obtain ⟨dx,ex,hxd⟩:=dxG.getV hx
  rw [List.getElem?_map] at ex
  cases hp:(ax t)[xs.length - 1 - i]? with
  | none=>rw [hp] at ex;cases ex
  | some x =>
   rw [hp] at ex
   cases ex
   have hp':(ax t)[az t - 1 - i]?=some x:=by rw [lx];exact hp
   have hxm:=List.mem_of_getElem? hp
   have okx:=gK t x okt hxm
   have dpx:=(cA t x hxm).2
   have hi':i < (ax t).reverse.length:=by rw [List.length_reverse,br];omega
   have ei:(ax t).reverse[i]?=some x:=by
    rw [Aq (by rw [br];omega),br]
    exact hp'
   have et:(ax t).reverse.take (i+1)=(ax t).reverse.take i++[x]:=by rw [List.take_add_one,ei];rfl
   have lus:us.length≤200:=by rw [← dus.length,List.length_map,List.length_take];omega
   have lws:ws.length≤200:=by rw [← dws.length,List.length_map,List.length_take];omega
   refine j0 ?_
   dsimp only
   refine gd (K:=K) (d:=bD (cz ps x)) (cC (R:=wy) (dC (ae (k:=4) hxd) (cW (aN (k:=1) (sG.ld h1)) (cW (aN (k:=2) (LD.of hdG dus)) (cW (aN (k:=3) (LD.of hbG dws)) bS)))) ⟨ps,x,cz ps,(ax t).reverse.take i,rfl,okS,okx,by omega,by rw [List.length_take];rw [List.length_reverse,br];omega,λy hy=>?_,λw hw y hy=>nF (by omega) hp' (lP (AN okS) hw y hy),by rw [← jM (AN okS)]⟩) hbG (by omega) λy G3 b3 hb3 q3=>?_
   ·have hym:y ∈ ax t:=List.mem_reverse.mp (List.mem_of_mem_take hy)
    have:=(cA t y hym).2
    exact ⟨gK t y okt hym,by omega⟩
   have g3:cO K G G3:=b3.grow hbG hb3
   have hd3:=b3 _ _ ndb hdG
   have hw3:=b3 _ _ (Ne.symm nwb) hwG
   refine uF (K:=K) (d:=toD x) (ae (k:=4) (Dat.mono g3 _ hxd)) hd3 (by omega) λy4 G4 b4 hd4 q4=>?_
   have g4:cO K G3 G4:=b4.grow hd3 hd4
   refine ⟨_,us++[y4],ws++[y],rfl,λa o ha=>b4 a o (aB ha hld) (b3 a o (aB ha hlb0) (sG _ _ ha)),b4 _ _ (Ne.symm nwd) hw3,Dats.mono g4 _ (Dats.mono g3 _ dxG),hd4,?_,b4 _ _ (Ne.symm ndb) hb3,?_⟩
   ·rw [et,List.map_append]
    exact Dats.append (Dats.mono g4 _ (Dats.mono g3 _ dus)) (Dats.cons q4 Dats.nil)
   ·rw [et,List.map_append]
    exact Dats.append (Dats.mono g4 _ (Dats.mono g3 _ dws)) (Dats.cons (Dat.mono g4 _ q3) Dats.nil)
 ·rintro σ G ⟨z4,us,ws,rfl,sG,hwG,dxG,hdG,dus,hbG,dws⟩
  have ea:((ax t).reverse.take xs.length).map (λx=>bD (cz ps x))=(((bq t).flatMap ax).reverse.map λx=>bD (cz ps x))++[bD (some b)]:=by
   rw [← lx,← br,← List.length_reverse,List.take_length,dB,List.reverse_cons,List.map_append,List.map_cons,List.map_nil,hbst]
  rw [ea] at dws
  have hL:LD K G ((((bq t).flatMap ax).reverse.map λx=>bD (cz ps x))++[bD (some b)]) (.ref lb):=LD.of hbG dws
  refine aS (K:=K) (b:=false) (aO (mS (oE (aN (k:=3) hL) (AW ao)))) (λc=>nomatch c) (λ_ G3 s3=>?_)
  exact aX (K:=K) (d:=bD (some b)) (oE (aN (k:=3) (s3.ld hL)) (AW ao)) λv G4 s4 q4=>post v G4 (sG.trans (s3.trans s4)) q4
structure pe (ps:List Pc):Prop where
 lo:1≤ps.length
 hi:ps.length≤16
 pc:∀ p ∈ ps,mK (pcD p)=some true/\p.nm.length≤sizeLine
 nd:(ps.map (·.nm)).Nodup
def Bd (as:List Ar) (d:D):Prop:=∃ ps,as=[.l (ps.map pcD)]/\pe ps/\d=.bl true
theorem vD (T:Txt P w K mg) (JK:FnOk P w K mg base CX0 k T.GL T.GQ ["thing"] (spD K sD)):FnOk P w K mg base CX0 (k+1) T.HH T.HI ["thing"] (spA K Bd):=by
 refine T.Ir.ok sc_is_set (λvs H Q E h=>?_) (λcdv A outer s H vs Q E hr h=>?_)
 ·obtain ⟨as,d,hd,⟨ps,rfl,_⟩,_⟩:=h;exact hd.length.symm
 have nd:=sc_is_set.nd
 obtain ⟨as,d,hd,⟨ps,rfl,hS,rfl⟩,post⟩:=h
 obtain ⟨v0,rfl,h0⟩:=Bi hd
 have h0:LD K H (ps.map pcD) v0:=h0
 have hlo:=hS.lo
 have hhi:=hS.hi
 refine ⟨_,(aj (bu (PW.pt (fg (bU (bo (aK (dv ui) rfl T.DJ bI (bO (pv 0) (bO (ff (v:=.ty "list") rfl T.Jw oY rfl) af))) (λ_=>rfl))) (eP (bU (mN i6 i6 ak (aK aM rfl T.DW bF (ag (pv 0) af)) (bz (v:=.int 16) rfl T.EF ⟨_,rfl⟩)))))) (av (aG dm)) aP)
 (aj (bu (bU (bo (aK (gw rfl) rfl T.IP jw (ag (cE (own:=["piece"]) (fr:=[]) (N':=["piece"]) (cP (pv 0)) rfl (by show bR ["thing"] (λx=>(ay iq).names.lookup x) _ _ _ _=true;decide +kernel) rfl (λ_ _ _ _ _=>(aE (i:=0) (by show List.Nodup [("piece":Str)];decide +kernel) rfl (Or.inl rfl))) (λ_ _ _ _ _=>bE) (λ_ _ _ _ _=>(aA JK hr rfl T.Jd T.Hy.kp (sI T) .nil aQ (ag (pv 0) af)))) af)) (λ_=>rfl))) (av (aG dm)) aP)
 (av (aG (cH cZ (aK qK rfl T.DW bF (ag (di (uW rfl) rfl T.Kc Bn (ag (cE (own:=["piece"]) (fr:=[]) (N':=["piece"]) (cP (pv 0)) rfl (by show bR ["thing"] (λx=>(ay iq).names.lookup x) _ _ _ _=true;decide +kernel) rfl (λ_ _ _ _ _=>(aE (i:=0) (by show List.Nodup [("piece":Str)];decide +kernel) rfl (Or.inl rfl))) (λ_ _ _ _ _=>bE) (λ_ _ _ _ _=>(aT (r:=rT K) aW (pv 0) ak (λ_ _=>rfl)))) af)) af)) (aK aM rfl T.DW bF (ag (pv 0) af)) (aY _)))))),?_⟩
 refine aS (K:=K) (b:=false) ?_ (λc=>nomatch c) (λ_ H1 s1=>?_)
 ·refine RT.as (cX (b:=false) (RT.as (bB (aV (bN (ae h0.lst)))) rfl) λ_=>bB (aO (jZ (p:=λi j=>decide (i≤j)) (r:=λi j=>decide (i≤j)) ao (fD (aN h0)) λ_=>ao))) ?_
  rw [List.length_map,Bool.false_or,decide_eq_true (show (1:Int)≤(ps.length:Int) by omega),decide_eq_true (show (ps.length:Int)≤16 by omega)]
  rfl
 have h0:=s1.ld h0
 refine aS (K:=K) (b:=false) ?_ (λc=>nomatch c) (λ_ H2 s2=>?_)
 ·refine RT.as (bB (aV (iF (bs:=ps.map λ_=>true) (fh (aN h0) (by rw [List.length_map];omega) _ (by simp) rfl (λG1 j c v d s1 hc hd hv=>?_))))) ?_
  ·simp only [List.getElem?_map] at hc hd
   cases hx:ps[j]? with
   | none=>rw [hx] at hc;cases hc
   | some p =>
    rw [hx] at hc hd
    cases hc
    cases hd
    obtain ⟨k1,k2⟩:=hS.pc p (List.mem_of_getElem? hx)
    exact ba (R:=sD) (ab (ae (k:=0) hv) au) ⟨pcD p,true,rfl,k2,k1,rfl⟩
  ·rw [List.all_map]
   simp
 have h0:=s2.ld h0
 refine aX (K:=K) (d:=.bl true) (RE.as (pZ (vP (zs:=ps.map (·.nm)) (fh (aN h0) (by rw [List.length_map];omega) _ (by simp) rfl (λG1 j c v d s1 hc hd hv=>?_)) (by rw [List.length_map];omega)) (fD (aN h0))) ?_) λv H' s q=>post v H' (s1.trans (s2.trans s)) q
 ·simp only [List.getElem?_map] at hc hd
  cases hx:ps[j]? with
  | none=>rw [hx] at hc;cases hc
  | some p =>
   rw [hx] at hc hd
   cases hc
   cases hd
   exact aZ (k:=0) (ae (k:=0) hv) ao rfl
 ·rw [(zo _).mpr hS.nd,List.length_map,List.length_map]
  simp
def lR (as:List Ar) (d:D):Prop:=∃ ps,as=[.l (ps.map pcD)]/\pe ps/\d=.non
theorem rH (T:Txt P w K mg) (JV:FnOk P w K mg base CX0 k T.HH T.HI ["thing"] (spA K Bd)):FnOk P w K mg base CX0 (k+1) T.FW T.FZ ["some"] (spA K lR):=by
 refine T.GT.ok sc_need_set (λvs H Q E h=>?_) (λcdv A outer s H vs Q E hr h=>?_)
 ·obtain ⟨as,d,hd,⟨ps,rfl,_⟩,_⟩:=h;exact hd.length.symm
 have nd:=sc_need_set.nd
 obtain ⟨as,d,hd,⟨ps,rfl,hS,rfl⟩,post⟩:=h
 obtain ⟨v0,rfl,h0⟩:=Bi hd
 have h0:LD K H (ps.map pcD) v0:=h0
 refine ⟨_,(av (bu (bU (bo (aA JV hr rfl T.JH T.Ir.kp (wK T) .nil aQ (ag (pv 0) af)) (λ_=>rfl))) (av ik) aP)),?_⟩
 exact iP (b:=false) (bB (aV (cC (K:=K) (R:=Bd) (cW (aN h0) bS) ⟨ps,rfl,hS,rfl⟩))) (λc=>nomatch c) (λ_ H1 s1=>post _ H1 s1 Dat.nonI)
def nZ:Pa->Nat
 | .gap _ _=>1
 | .two _ a b=>nZ a+nZ b
 | _=>0
def kF:Pa->Nat
 | .slot _=>1
 | .two _ a b=>kF a+kF b
 | _=>0
theorem mm:∀ (p:Pa) (t:Tr) (f:Fnd),cf p t=some f->f.2.1.length=nZ p/\f.2.2.length=kF p
 | .hole i,t,f,h=>by cases h;exact ⟨rfl,rfl⟩
 | .gap i m,t,f,h=>by
  cases t with
  | num n =>
   have h':(if n≤m then some ([],[n],[]) else none:Option Fnd)=some f:=h
   by_cases z:n≤m
   ·rw [if_pos z] at h';cases h';exact ⟨rfl,rfl⟩
   ·rw [if_neg z] at h';cases h'
  | _=>cases h
 | .slot i,t,f,h=>by
  cases t with
  | arg n=>cases h;exact ⟨rfl,rfl⟩
  | _=>cases h
 | .num m,t,f,h=>by
  cases t with
  | num n =>
   have h':(if n=m then some ([],[],[]) else none:Option Fnd)=some f:=h
   by_cases z:n=m
   ·rw [if_pos z] at h';cases h';exact ⟨rfl,rfl⟩
   ·rw [if_neg z] at h';cases h'
  | _=>cases h
 | .two o a b,t,f,h=>by
  cases t with
  | two o' u v =>
   obtain ⟨_,f1,f2,e1,e2,e3⟩:=dH h
   subst e3
   have h1:=mm a u f1 e1
   have h2:=mm b v f2 e2
   refine ⟨?_,?_⟩
   ·show (f1.2.1++f2.2.1).length=nZ a+nZ b
    rw [List.length_append,h1.1,h2.1]
   ·show (f1.2.2++f2.2.2).length=kF a+kF b
    rw [List.length_append,h1.2,h2.2]
  | _=>cases h
inductive Cl where
 | n (i:Int)
 | arg (k:Nat)
 | low (k:Nat)
 | high (k:Nat)
def clD:Cl->D
 | .n i=>.int i
 | .arg k=>.tup [.str "arg",.int k]
 | .low k=>.tup [.str "low",.int k]
 | .high k=>.tup [.str "high",.int k]
def iR (g s:Nat):Cl->Bool
 | .n _=>true
 | .arg k=>decide (k < s)
 | .low k=>decide (k < g)
 | .high k=>decide (k < g)
def xq (nums ks:List Int):Cl->Int
 | .n i=>i
 | .arg k=>ks.getD k 0
 | .low k=>nums.getD k 0 % 100
 | .high k=>nums.getD k 0 / 100
structure AE (p:Pc) (cl:List Cl):Prop where
 eq:p.cs=cl.map clD
 ok:∀ c ∈ cl,iR (nZ p.pt) (kF p.pt) c=true
def kn (near far:Int) (n:Nat):List D:=(iA near far n).map D.int
theorem jT (near far:Int) (n:Nat):((kn near far n).length:Int)=ic n:=by unfold kn;rw [List.length_map,iW]
def fC (x y z:List D):List D:=x++kn 10 11 (y++kn 8 9 z.length).length++(y++kn 8 9 z.length)++z
def eZ (xss:List (List D)) (f:Fnd) (cl:List Cl):List D:=xss.flatten++cl.map λc=>D.int (xq f.2.1 f.2.2 c)
def sL:D->Option (Str × List D)
 | .tup [.str nm,.tup cs]=>some (nm,cs)
 | _=>none
variable {c:D}
theorem uZ {x:Str × List D} (h:sL c=some x):c=.tup [.str x.1,.tup x.2]:=by
 unfold sL at h
 split at h
 ·cases h;rfl
 ·cases h
structure BE (ps:List Pc):Prop where
 nd:(ps.map (·.nm)).Nodup
 nl:∀ p ∈ ps,noL (pcD p)=true/\d9 (pcD p)≤19
def zO (nm:Str):D->Bool
 | .tup (.str x::_)=>decide (x=nm)
 | _=>false
theorem nU:∀ {ps:List Pc},(∀ p ∈ ps,p.nm≠nm)->(ps.map pcD).filter (zO nm)=[]
 | [],_=>rfl
 | p::ps,h=>by
  rw [List.map_cons,List.filter_cons,if_neg]
  ·exact nU λq hq=>h q (List.mem_cons_of_mem _ hq)
  ·show ¬ decide (p.nm=nm)=true
   rw [decide_eq_false (h p List.mem_cons_self)]
   exact Bool.false_ne_true
theorem qR:∀ {ps:List Pc},(ps.map (·.nm)).Nodup->p ∈ ps->(ps.map pcD).filter (zO p.nm)=[pcD p]
 | [],_,h=>by cases h
 | q::ps,nd,h=>by
  rw [List.map_cons,List.nodup_cons] at nd
  rcases List.mem_cons.mp h with rfl | h
  ·rw [List.map_cons,List.filter_cons,if_pos (show zO p.nm (pcD p)=true from decide_eq_true rfl),nU λx hx z=>nd.1 (List.mem_map.mpr ⟨x,hx,z⟩)]
  ·rw [List.map_cons,List.filter_cons,if_neg]
   ·exact qR nd.2 h
   ·show ¬ decide (q.nm=p.nm)=true
    rw [decide_eq_false λz=>nd.1 (List.mem_map.mpr ⟨p,h,z.symm⟩)]
    exact Bool.false_ne_true
theorem xQ {α:Type} {xss:List (List α)} (h:xss.flatten.length≤n):∀ {i:Nat} {x:List α},xss[i]?=some x->(xss.take i).flatten.length+x.length≤n:=by
 intro i x hx
 have e:xss.take (i+1)=xss.take i++[x]:=by rw [List.take_add_one,hx];rfl
 have l:(xss.take (i+1)).flatten.length≤xss.flatten.length:=by
  have z:xss=xss.take (i+1)++xss.drop (i+1):=(List.take_append_drop _ _).symm
  rw [congrArg List.flatten z,List.flatten_append,List.length_append]
  omega
 rw [e,List.flatten_append,List.length_append] at l
 simp only [List.flatten_cons,List.flatten_nil,List.append_nil] at l
 omega
def Df:D->Cl
 | .tup [.str k,.int j]=>if k="arg" then .arg j.toNat else if k="low" then .low j.toNat else .high j.toNat
 | .int i=>.n i
 | _=>.n 0
def bh (p:Pc):List Cl:=p.cs.map Df
def ml (nm:Str) (ps:List Pc):Option Pc:=ps.find? λp=>decide (p.nm=nm)
def oQ:List (Option (List D))->Option (List (List D))
 | []=>some []
 | none::_=>none
 | some x::r=>(oQ r).map (x::·)
def gA (f:Tr->D->Option (List D)) (ts:List Tr) (cs:List D):List (Option (List D)):=(ts.zip cs).map λp=>f p.1 p.2
def BD:List (List D)->Option (List D)
 | [a,b,c]=>some (fC a b c)
 | _=>none
def ot (f:Tr->D->Option (List D)) (t:Tr) (cs:List D):Option (List D):=match t with
 | .pick a b d=>if cs.length=3 then (oQ (gA f [a,b,d] cs)).bind BD else none
 | _=>none
def kS (f:Tr->D->Option (List D)) (ps:List Pc) (t:Tr) (nm:Str) (cs:List D):Option (List D):=match ml nm ps with
 | none=>none
 | some p=>match cf p.pt t with
  | none=>none
  | some g=>if g.1.length=cs.length then (oQ (gA f g.1 cs)).map λxss=>eZ xss g (bh p) else none
def me (pl:List Int):Tr->List D
 | .call k=>[.int 15,.int (pl.getD k.toNat 0 % 100),.int (pl.getD k.toNat 0 / 100)]
 | _=>[]
def dU (ps:List Pc) (pl:List Int):Nat->Tr->D->Option (List D)
 | 0,_,_=>none
 | n+1,t,c=>if mr t=true then some (me pl t) else match sL c with
  | none=>none
  | some x=>if x.1="pick" then ot (dU ps pl n) t x.2 else kS (dU ps pl n) ps t x.1 x.2
theorem nG:∀ {os:List (Option (List D))},os.any Option.isNone=true->oQ os=none
 | [],h=>by cases h
 | none::os,_=>rfl
 | some x::os,h=>by
  rw [List.any_cons] at h
  have ih:=nG (os:=os) (by simpa using h)
  show (oQ os).map _=none
  rw [ih]
  rfl
theorem lS:∀ ess:List (List D),oQ (ess.map some)=some ess
 | []=>rfl
 | x::ess=>by
  show (oQ (ess.map some)).map _=_
  rw [lS ess]
  rfl
variable {ts:List Tr} {cs:List D}
theorem vH {f:Tr->D->Option (List D)} {k:Nat} {o:Option (List D)} (h1:ts[k]?=some t) (h2:cs[k]?=some c) (h3:(gA f ts cs)[k]?=some o):o=f t c:=by
 unfold gA at h3
 rw [List.getElem?_map,(List.getElem?_zip_eq_some (z:=(t,c))).mpr ⟨h1,h2⟩] at h3
 cases h3
 rfl
theorem vI {f:Tr->D->Option (List D)} (h:ts.length=cs.length):(gA f ts cs).length=ts.length:=by
 unfold gA
 rw [List.length_map,List.length_zip]
 omega
theorem oz {f:Tr->D->Option (List D)} (hf:∀ t c es,f t c=some es->es.length≤12 * az t):∀ {ts:List Tr} {cs:List D} {ess:List (List D)},ts.length=cs.length->gA f ts cs=ess.map some->ess.flatten.length≤12 * (ts.map az).sum
 | [],[],ess,_,h=>by
  have:ess=[]:=by cases ess with | nil=>rfl | cons _ _=>cases h
  subst this
  simp
 | t::ts,c::cs,ess,hl,h=>by
  cases ess with
  | nil=>cases h
  | cons x ess =>
   have h':f t c::gA f ts cs=some x::ess.map some:=h
   injection h' with h1 h2
   have i1:=hf t c x h1
   have i2:=oz hf (ts:=ts) (cs:=cs) (by simpa using hl) h2
   rw [List.flatten_cons,List.length_append,List.map_cons,List.sum_cons]
   omega
 | [],c::cs,_,h,_=>by simp at h
 | t::ts,[],_,h,_=>by simp at h
structure zK (ps:List Pc):Prop where
 ls:BE ps
 cl:∀ p ∈ ps,AE p (bh p)
theorem o8:∀ (p:Pa) (t:Tr) (f:Fnd),cf p t=some f->(f.1.map az).sum≤az t/\(e8 p=true->(f.1.map az).sum+1≤az t)
 | .hole i,t,f,h=>by cases h;exact ⟨by simp,λz=>nomatch z⟩
 | .gap i m,t,f,h=>by
  cases t with
  | num n =>
   have h':(if n≤m then some ([],[n],[]) else none:Option Fnd)=some f:=h
   by_cases z:n≤m
   ·rw [if_pos z] at h';cases h';exact ⟨by simp,λ_=>by simp [az]⟩
   ·rw [if_neg z] at h';cases h'
  | _=>cases h
 | .slot i,t,f,h=>by
  cases t with
  | arg n=>cases h;exact ⟨by simp,λ_=>by simp [az]⟩
  | _=>cases h
 | .num m,t,f,h=>by
  cases t with
  | num n =>
   have h':(if n=m then some ([],[],[]) else none:Option Fnd)=some f:=h
   by_cases z:n=m
   ·rw [if_pos z] at h';cases h';exact ⟨by simp,λ_=>by simp [az]⟩
   ·rw [if_neg z] at h';cases h'
  | _=>cases h
 | .two o a b,t,f,h=>by
  cases t with
  | two o' u v =>
   obtain ⟨_,f1,f2,e1,e2,e3⟩:=dH h
   subst e3
   have h1:=(o8 a u f1 e1).1
   have h2:=(o8 b v f2 e2).1
   have e:((f1.1++f2.1).map az).sum=(f1.1.map az).sum+(f2.1.map az).sum:=by simp
   refine ⟨?_,λ_=>?_⟩
   ·show ((f1.1++f2.1).map az).sum≤_;simp only [az];omega
   ·show ((f1.1++f2.1).map az).sum+1≤_;simp only [az];omega
  | _=>cases h
theorem jx (h:ml nm ps=some p):p ∈ ps/\p.nm=nm:=by
 unfold ml at h
 have h0:decide (p.nm=nm)=true:=List.find?_some (p:=λp:Pc=>decide (p.nm=nm)) h
 exact ⟨List.mem_of_find?_eq_some h,of_decide_eq_true h0⟩
variable {es:List D}
theorem jz {f:Tr->D->Option (List D)} (h:kS f ps t nm cs=some es):∃ p g ess,ml nm ps=some p/\cf p.pt t=some g/\g.1.length=cs.length/\gA f g.1 cs=ess.map some/\es=eZ ess g (bh p):=by
 unfold kS at h
 cases e1:ml nm ps with
 | none=>rw [e1] at h;cases h
 | some p =>
  rw [e1] at h
  dsimp only at h
  cases e2:cf p.pt t with
  | none=>rw [e2] at h;cases h
  | some g =>
   rw [e2] at h
   dsimp only at h
   by_cases hl:g.1.length=cs.length
   ·rw [if_pos hl] at h
    cases ha:(gA f g.1 cs).any Option.isNone with
    | true=>rw [nG ha] at h;cases h
    | false =>
     obtain ⟨ess,e⟩:=nH ha
     rw [e,lS] at h
     cases h
     exact ⟨p,g,ess,rfl,e2,hl,e,rfl⟩
   ·rw [if_neg hl] at h;cases h
theorem jA {f:Tr->D->Option (List D)} (h:ot f t cs=some es):∃ a b d ca cb cd xa xb xd,t=.pick a b d/\cs=[ca,cb,cd]/\f a ca=some xa/\f b cb=some xb/\f d cd=some xd/\es=fC xa xb xd:=by
 cases t with
 | pick a b d =>
  have h:(if cs.length=3 then (oQ (gA f [a,b,d] cs)).bind BD else none)=some es:=h
  by_cases hl:cs.length=3
  ·rw [if_pos hl] at h
   match cs,hl with
   | [ca,cb,cd],_ =>
    have e:gA f [a,b,d] [ca,cb,cd]=[f a ca,f b cb,f d cd]:=rfl
    rw [e] at h
    cases ea:f a ca with
    | none=>rw [ea] at h;cases h
    | some xa =>
     cases eb:f b cb with
     | none=>rw [ea,eb] at h;cases h
     | some xb =>
      cases ed:f d cd with
      | none=>rw [ea,eb,ed] at h;cases h
      | some xd =>
       rw [ea,eb,ed] at h
       have h:some (fC xa xb xd)=some es:=h
       cases h
       exact ⟨a,b,d,ca,cb,cd,xa,xb,xd,rfl,rfl,ea,eb,ed,rfl⟩
  ·rw [if_neg hl] at h;cases h
 | _=>cases h
variable {pl:List Int}
theorem ie (ok:∀ p ∈ ps,zS p):∀ (n:Nat) (t:Tr) (c:D) (es:List D),dU ps pl n t c=some es->es.length≤12 * az t
 | 0,_,_,_,h=>by cases h
 | n+1,t,c,es,h=>by
  have h:(if mr t=true then some (me pl t) else match sL c with | none=>none | some x=>if x.1="pick" then ot (dU ps pl n) t x.2 else kS (dU ps pl n) ps t x.1 x.2)=some es:=h
  by_cases hcl:mr t=true
  ·rw [if_pos hcl] at h
   cases t with
   | call k=>cases h;simp [me,az]
   | _=>cases hcl
  rw [if_neg hcl] at h
  cases ec:sL c with
  | none=>rw [ec] at h;cases h
  | some x =>
   rw [ec] at h
   dsimp only at h
   by_cases hp:x.1="pick"
   ·rw [if_pos hp] at h
    obtain ⟨a,b,d,ca,cb,cd,xa,xb,xd,rfl,_,la,lb,ld,rfl⟩:=jA h
    have h1:=ie ok n a ca xa la
    have h2:=ie ok n b cb xb lb
    have h3:=ie ok n d cd xd ld
    have k1:=jT 8 9 xd.length
    have k2:=jT 10 11 (xb++kn 8 9 xd.length).length
    have j1:=xM (xd.length:Int)
    have j2:=xM ((xb++kn 8 9 xd.length).length:Int)
    have ll:(fC xa xb xd).length=xa.length+(kn 10 11 (xb++kn 8 9 xd.length).length).length+(xb.length+(kn 8 9 xd.length).length)+xd.length:=by unfold fC;simp only [List.length_append]
    simp only [az]
    omega
   ·rw [if_neg hp] at h
    obtain ⟨p,g,ess,e1,e2,hl,e,rfl⟩:=jz h
    have okp:=ok p (jx e1).1
    have h1:=oz (ie ok n) hl e
    have h2:=(o8 _ _ _ e2).2 okp.nh
    have h3:=okp.cs
    have z:(eZ ess g (bh p)).length=ess.flatten.length+p.cs.length:=by unfold eZ bh;rw [List.length_append,List.length_map,List.length_map]
    omega
theorem xu {p:Pa} (h:e8 p=true) (a b c:Tr):cf p (.pick a b c)=none:=by
 cases p with
 | hole i=>cases h
 | _=>rfl
theorem nV:∀ {ps:List Pc},(ps.map (·.nm)).Nodup->p ∈ ps->ml p.nm ps=some p
 | [],_,h=>by cases h
 | q::ps,nd,h=>by
  rw [List.map_cons,List.nodup_cons] at nd
  unfold ml
  rcases List.mem_cons.mp h with rfl | h
  ·rw [List.find?_cons,decide_eq_true rfl]
  ·rw [List.find?_cons,decide_eq_false λz=>nd.1 (List.mem_map.mpr ⟨p,h,z.symm⟩)]
   exact nV nd.2 h
theorem uq (ih:∀ x b,aH x≤n->cz ps x=some b->∃ es,dU ps pl n x b.2=some es/\(es.length:Int)=b.1):∀ {ts:List Tr} {bs:List (Int × D)},(∀ x ∈ ts,aH x≤n)->ts.map (cz ps)=bs.map some ->
  ∃ xss:List (List D),gA (dU ps pl n) ts (bs.map (·.2))=xss.map some/\(xss.flatten.length:Int)=(bs.map (·.1)).sum
 | [],[],_,_=>⟨[],rfl,rfl⟩
 | [],b::bs,_,h=>by cases h
 | t::ts,[],_,h=>by cases h
 | t::ts,b::bs,hd,h=>by
  rw [List.map_cons,List.map_cons] at h
  injection h with h1 h2
  obtain ⟨es,l1,l2⟩:=ih t b (hd t List.mem_cons_self) h1
  obtain ⟨xss,r1,r2⟩:=uq ih (λx hx=>hd x (List.mem_cons_of_mem _ hx)) h2
  refine ⟨es::xss,?_,?_⟩
  ·show dU ps pl n t b.2::gA (dU ps pl n) ts (bs.map (·.2))=some es::xss.map some
   rw [l1,r1]
  ·rw [List.flatten_cons,List.length_append,List.map_cons,List.sum_cons]
   omega
theorem h8 (pl:List Int) (hp:∀ p ∈ ps,e8 p.pt=true/\p.nm≠"pick") (nd:(ps.map (·.nm)).Nodup):∀ (n:Nat) (t:Tr) (b:Int × D),aH t≤n->cz ps t=some b->∃ es,dU ps pl n t b.2=some es/\(es.length:Int)=b.1
 | 0,t,b,h,_=>by have:=dE t;omega
 | n+1,t,b,h,hb=>by
  have nh:∀ p ∈ ps,e8 p.pt=true:=λp q=>(hp p q).1
  rw [jM nh] at hb
  unfold eJ at hb
  by_cases hcl:mr t=true
  ·rw [if_pos hcl] at hb
   cases hb
   refine ⟨me pl t,?_,?_⟩
   ·show (if mr t=true then some (me pl t) else _)=_
    rw [if_pos hcl]
   ·cases t with
    | call k=>rfl
    | _=>cases hcl
  rw [if_neg hcl] at hb
  rcases qU _ _ _ hb with e | ⟨w,hw,bs,ea,e⟩
  ·cases e
  injection e with e
  subst e
  have bZ:∀ x ∈ w.ts,aH x≤n:=λx hx=>by
   have:=(iL (lP nh hw x hx)).2
   omega
  have em:=qC ea
  obtain ⟨xss,r1,r2⟩:=uq (h8 pl hp nd n) bZ em
  have eL:∀ nm,dU ps pl (n+1) t (cvD nm bs)=if nm="pick" then ot (dU ps pl n) t (bs.map (·.2)) else kS (dU ps pl n) ps t nm (bs.map (·.2)):=λnm=>by
   show (if mr t=true then some (me pl t) else _)=_
   rw [if_neg hcl]
   rfl
  rw [show (dA w (bs.map (·.1)),cvD w.nm bs).2=cvD w.nm bs from rfl,eL]
  have lbs:bs.length=w.ts.length:=by have:=congrArg List.length em;rw [List.length_map,List.length_map] at this;exact this.symm
  unfold fT at hw
  split at hw
  ·rename_i c
   have ew:=List.mem_singleton.mp hw
   subst ew
   rw [if_pos rfl]
   cases t with
   | pick x y z =>
    match bs,lbs,r1,r2,em with
    | [b1,b2,b3],_,r1,r2,em =>
     have em:[cz ps x,cz ps y,cz ps z]=[some b1,some b2,some b3]:=em
     injection em with m1 em
     injection em with m2 em
     injection em with m3 _
     have lx:xss.length=3:=by have:=congrArg List.length r1;rw [List.length_map] at this;exact this.symm
     match xss,lx,r1,r2 with
     | [x1,x2,x3],_,r1,r2 =>
      have r1:[dU ps pl n x b1.2,dU ps pl n y b2.2,dU ps pl n z b3.2]=[some x1,some x2,some x3]:=r1
      injection r1 with i1 r1
      injection r1 with i2 r1
      injection r1 with i3 _
      obtain ⟨_,k1,j1⟩:=h8 pl hp nd n x b1 (bZ x (by simp [bq])) m1
      obtain ⟨_,k2,j2⟩:=h8 pl hp nd n y b2 (bZ y (by simp [bq])) m2
      obtain ⟨_,k3,j3⟩:=h8 pl hp nd n z b3 (bZ z (by simp [bq])) m3
      rw [i1] at k1
      rw [i2] at k2
      rw [i3] at k3
      cases k1
      cases k2
      cases k3
      refine ⟨fC x1 x2 x3,?_,?_⟩
      ·show (if ([b1,b2,b3].map (·.2)).length=3 then (oQ [dU ps pl n x b1.2,dU ps pl n y b2.2,dU ps pl n z b3.2]).bind BD else none)=_
       rw [i1,i2,i3]
       rfl
      ·show _=dA ⟨"pick",[],[x,y,z]⟩ [b1.1,b2.1,b3.1]
       have el:dA ⟨"pick",[],[x,y,z]⟩ [b1.1,b2.1,b3.1]=yk b2.1 b3.1+(b1.1+b2.1+b3.1):=by
        unfold dA rM
        rw [if_pos rfl]
        simp
        omega
       rw [el]
       unfold fC yk
       have k1:=jT 8 9 x3.length
       have k2:=jT 10 11 (x2++kn 8 9 x3.length).length
       rw [List.length_append] at k2
       simp only [List.length_append]
       rw [j3] at k1
       have k3:((x2.length+(kn 8 9 x3.length).length:Nat):Int)=b2.1+ic b3.1:=by omega
       rw [k3] at k2
       omega
   | _=>cases c
  ·rename_i c
   obtain ⟨p,h1,h2⟩:=List.mem_filterMap.mp hw
   unfold kZ at h2
   cases ef:cf p.pt t with
   | none=>rw [ef] at h2;cases h2
   | some f =>
    rw [ef] at h2
    cases h2
    have hnm:=(hp p h1).2
    rw [if_neg hnm]
    have lbs:bs.length=f.1.length:=lbs
    refine ⟨eZ xss f (bh p),?_,?_⟩
    ·unfold kS
     rw [nV nd h1]
     dsimp only
     rw [ef]
     dsimp only
     rw [if_pos (by rw [List.length_map];exact lbs.symm),r1,lS]
     rfl
    ·show ((xss.flatten++(bh p).map _).length:Int)=dA ⟨p.nm,p.cs,f.1⟩ (bs.map (·.1))
     have lc:(bh p).length=p.cs.length:=by unfold bh;rw [List.length_map]
     unfold dA rM
     rw [if_neg hnm,List.length_append,List.length_map]
     show _=(p.cs.length:Int)+_
     omega
def clN (m:Nat):Tr->Bool
 | .call k=>decide (0≤k) && decide (k.toNat < m)
 | .two _ a b=>clN m a && clN m b
 | .pick a b c=>clN m a && (clN m b && clN m c)
 | _=>true
theorem h9:∀ (t x:Tr),clN m t=true->x ∈ ax t->clN m x=true
 | .num n,x,k,h=>by
  have e:x=.num n:=by simpa [ax] using h
  subst e;exact k
 | .arg n,x,k,h=>by
  have e:x=.arg n:=by simpa [ax] using h
  subst e;exact k
 | .call n,x,k,h=>by
  have e:x=.call n:=by simpa [ax] using h
  subst e;exact k
 | .two o a b,x,k,h=>by
  have k':=k
  simp only [clN,Bool.and_eq_true] at k'
  simp only [ax,List.mem_cons,List.mem_append] at h
  rcases h with rfl | h | h
  ·exact k
  ·exact h9 a x k'.1 h
  ·exact h9 b x k'.2 h
 | .pick a b c,x,k,h=>by
  have k':=k
  simp only [clN,Bool.and_eq_true] at k'
  simp only [ax,List.mem_cons,List.mem_append] at h
  rcases h with rfl | (h | h) | h
  ·exact k
  ·exact h9 a x k'.1 h
  ·exact h9 b x k'.2.1 h
  ·exact h9 c x k'.2.2 h
theorem lG {ns:List Int} {k:Nat} (h:k < ns.length):(ns.map D.int)[k]?=some (.int (ns.getD k 0)):=by
 rw [List.getElem?_map,List.getD_eq_getElem?_getD,List.getElem?_eq_getElem h]
 rfl
def sA (ds:List D) (d:D):Prop:=∃ (c:Cl) (nums ks:List Int),ds=[clD c,.tup (nums.map D.int),.tup (ks.map D.int)]/\iR nums.length ks.length c=true/\d=.int (xq nums ks c)
theorem mH (T:Txt P w K mg)  : FnOk P w K mg base CX0 (k+1) T.Fb T.Fe ["cell","nums","ks"] (spD K sA):=by
 refine T.F5.ok sc_filled_cell (λvs H Q E h=>?_) (λcdv A outer s H vs Q E hr h=>?_)
 ·obtain ⟨ds,d,hd,⟨c,nums,ks,rfl,_⟩,_⟩:=h;exact hd.length.symm
 have nd:=sc_filled_cell.nd
 obtain ⟨ds,d,hd,⟨c,nums,ks,rfl,okc,rfl⟩,post⟩:=h
 obtain ⟨v0,v1,v2,rfl,h0,h1,h2⟩:=ua hd
 refine ⟨_,(aj (bu (bo (aK (dv xD) rfl T.DJ bI (bO (pv 0) (bO (ff (v:=.ty "int") rfl T.JY wN rfl) af))) (λ_=>rfl)) (av (aG (pv 0))) aP)
 (aj (bu (aU cZ (aT aW (pv 0) ak (λ_ _=>rfl)) aD (aY _)) (av (aG (bx fQ (aT aW (pv 1) (aT aW (pv 0) ak (λ_ _=>rfl)) (λ_ _=>rfl)) ak))) aP)
 (aj (bu (aU cZ (aT aW (pv 0) ak (λ_ _=>rfl)) aD (aY _)) (av (aG (bx jW (aT aW (pv 1) (aT aW (pv 0) ak (λ_ _=>rfl)) (λ_ _=>rfl)) ak))) aP)
 (av (aG (aT aW (pv 2) (aT aW (pv 0) ak (λ_ _=>rfl)) (λ_ _=>rfl))))))),?_⟩
 cases c with
 | n j =>
  have h0:Dat K H (.int j) v0:=h0
  refine aS (K:=K) (b:=true) (aV (bN (ae (k:=0) h0))) (λ_ H1 s1=>?_) (λc=>nomatch c)
  exact aX (K:=K) (d:=.int j) (ae (k:=0) (s1.dat h0)) λv H2 s2 q=>post v H2 (s1.trans s2) q
 | low j =>
  have h0:Dat K H (.tup [.str "low",.int j]) v0:=h0
  have okc:=of_decide_eq_true okc
  refine aS (K:=K) (b:=false) (aV (bN (ae (k:=0) h0))) (λc=>nomatch c) (λ_ H1 s1=>?_)
  refine aS (K:=K) (b:=true) (RT.as (aO (bV (aZ (k:=0) (ae (k:=0) (s1.dat h0)) ao rfl) aF)) (decide_eq_true rfl)) (λ_ H2 s2=>?_) (λc=>nomatch c)
  have s12:=s1.trans s2
  exact aX (K:=K) (d:=.int (nums.getD j 0 % 100)) (tH (aZ (k:=j) (ae (k:=1) (s12.dat h1)) (aZ (k:=1) (ae (k:=0) (s12.dat h0)) ao rfl) (lG okc)) ao (by decide)) λv H3 s3 q=>post v H3 (s12.trans s3) q
 | high j =>
  have h0:Dat K H (.tup [.str "high",.int j]) v0:=h0
  have okc:=of_decide_eq_true okc
  refine aS (K:=K) (b:=false) (aV (bN (ae (k:=0) h0))) (λc=>nomatch c) (λ_ H1 s1=>?_)
  refine aS (K:=K) (b:=false) (RT.as (aO (bV (aZ (k:=0) (ae (k:=0) (s1.dat h0)) ao rfl) aF)) (decide_eq_false (by decide +kernel))) (λc=>nomatch c) (λ_ H2 s2=>?_)
  have s12:=s1.trans s2
  refine aS (K:=K) (b:=true) (RT.as (aO (bV (aZ (k:=0) (ae (k:=0) (s12.dat h0)) ao rfl) aF)) (decide_eq_true rfl)) (λ_ H3 s3=>?_) (λc=>nomatch c)
  have s13:=s12.trans s3
  exact aX (K:=K) (d:=.int (nums.getD j 0 / 100)) (p4 (aZ (k:=j) (ae (k:=1) (s13.dat h1)) (aZ (k:=1) (ae (k:=0) (s13.dat h0)) ao rfl) (lG okc)) ao ⟨by decide,by decide⟩) λv H4 s4 q=>post v H4 (s13.trans s4) q
 | arg j =>
  have h0:Dat K H (.tup [.str "arg",.int j]) v0:=h0
  have okc:=of_decide_eq_true okc
  refine aS (K:=K) (b:=false) (aV (bN (ae (k:=0) h0))) (λc=>nomatch c) (λ_ H1 s1=>?_)
  refine aS (K:=K) (b:=false) (RT.as (aO (bV (aZ (k:=0) (ae (k:=0) (s1.dat h0)) ao rfl) aF)) (decide_eq_false (by decide +kernel))) (λc=>nomatch c) (λ_ H2 s2=>?_)
  have s12:=s1.trans s2
  refine aS (K:=K) (b:=false) (RT.as (aO (bV (aZ (k:=0) (ae (k:=0) (s12.dat h0)) ao rfl) aF)) (decide_eq_false (by decide +kernel))) (λc=>nomatch c) (λ_ H3 s3=>?_)
  have s13:=s12.trans s3
  exact aX (K:=K) (d:=.int (ks.getD j 0)) (aZ (k:=j) (ae (k:=2) (s13.dat h2)) (aZ (k:=1) (ae (k:=0) (s13.dat h0)) ao rfl) (lG okc)) λv H4 s4 q=>post v H4 (s13.trans s4) q
def hV (n:Nat) (as:List Ar) (es:List D):Prop:=∃ (ps:List Pc) (pl:List Int) (t:Tr) (c:D),as=[.d (toD t),.l (ps.map pcD),.d c,.l (pl.map D.int)]/\kT ps/\(zK ps/\clN pl.length t=true)/\okX t/\aH t≤n/\n≤8/\az t≤40/\dU ps pl n t c=some es
def A9 (n:Nat) (as:List Ar) (es:List D):Prop:=∃ (ps:List Pc) (pl:List Int) (a b d:Tr) (ca cb cd:D) (xa xb xd:List D),as=[.d (.tup [.str "pick",toD a,toD b,toD d]),.l (ps.map pcD),.d (.tup [.str "pick",.tup [ca,cb,cd]]),.l (pl.map D.int)]/\kT ps/\(zK ps/\(clN pl.length a=true/\clN pl.length b=true/\clN pl.length d=true))/\(okX a/\okX b/\okX d)/\(aH a≤n/\aH b≤n/\aH d≤n)/\n≤8/\(az a≤40/\az b≤40/\az d≤40) /\
 dU ps pl n a ca=some xa/\dU ps pl n b cb=some xb/\dU ps pl n d cd=some xd/\es.length≤900/\es=fC xa xb xd
def A8 (n:Nat) (as:List Ar) (es:List D):Prop:=∃ (ps:List Pc) (pl:List Int) (t:Tr) (p:Pc) (cv:List D) (g:Fnd) (ess:List (List D)),as=[.d (toD t),.l (ps.map pcD),.d (.tup [.str p.nm,.tup cv]),.l (pl.map D.int)]/\kT ps/\(zK ps/\clN pl.length t=true)/\okX t/\aH t≤n+1/\n+1≤8/\az t≤40/\p ∈ ps/\cf p.pt t=some g/\g.1.length=cv.length/\gA (dU ps pl n) g.1 cv=ess.map some/\es.length≤900/\es=eZ ess g (bh p)
theorem qZ (x y z:List D):fC x y z=x++(iA 10 11 ((y.length:Int)+ic z.length)).map D.int++y++(iA 8 9 z.length).map D.int++z:=by
 unfold fC kn
 have e:((y++(iA 8 9 (z.length:Int)).map D.int).length:Int)=(y.length:Int)+ic z.length:=by
  rw [List.length_append,List.length_map]
  have:=iW 8 9 z.length
  omega
 rw [e]
 simp only [List.append_assoc]
theorem pO (T:Txt P w K mg) (Ep:FnOk P w K mg base CX0 k T.DZ T.D0 ["tree","some","cover","places"] (iu K (hV n))) (Gu:FnOk P w K mg base CX0 k T.D9 T.Eb ["second","third"] (qp K)):FnOk P w K mg base CX0 (k+1) T.Gb T.Gg ["tree","some","cover","places"] (iu K (A9 n)):=by
 refine T.Hc.ok sc_laid_pick (λvs H Q E h=>?_) (λcdv A outer s H vs Q E hr h=>?_)
 ·obtain ⟨as,es,hd,⟨ps,pl,a,b,d,ca,cb,cd,xa,xb,xd,rfl,_⟩,_⟩:=h;exact hd.length.symm
 have nd:=sc_laid_pick.nd
 obtain ⟨as,es,hd,⟨ps,pl,a,b,d,ca,cb,cd,xa,xb,xd,rfl,okS,⟨laS,ha_,hb_,hd_⟩,⟨oa,ob,od⟩,⟨da,db,dd⟩,n8,⟨za,zb,zd⟩,la,lb,ld,l900,rfl⟩,post⟩:=h
 obtain ⟨v0,v1,v2,v3,rfl,h0,h1,h2,h3⟩:=y0 hd
 have h0:Dat K H (.tup [.str "pick",toD a,toD b,toD d]) v0:=h0
 have h1:LD K H (ps.map pcD) v1:=h1
 have h2:Dat K H (.tup [.str "pick",.tup [ca,cb,cd]]) v2:=h2
 have h3:LD K H (pl.map D.int) v3:=h3
 rw [qZ] at post l900
 refine ⟨_,(aj (eO (cE (own:=["one","within"]) (fr:=[1,3]) (N':=["one","within","some","places"]) (yi rfl T.JQ (ag (ij mV (pv 0) (iE ak) jY) (ag (aT aW (pv 2) ak (λ_ _=>rfl)) af))) rfl (by show bR ["tree","some","cover","places","first","second","third","ahead","behind"] (λx=>(ay fM).names.lookup x) _ _ _ _=true;decide +kernel) rfl (λ_ _ _ _ _=>(uz (K:=K) (n:=2) rfl rfl (aR (aE (i:=0) (by show List.Nodup [("one":Str),("within":Str),("some":Str),("places":Str)];decide +kernel) rfl (Or.inl rfl)) (aR (aE (i:=1) (by show List.Nodup [("one":Str),("within":Str),("some":Str),("places":Str)];decide +kernel) rfl (Or.inl rfl)) cj)))) (λ_ _ _ _ _=>bE) (λ_ _ _ _ _=>(aA Ep hr rfl T.FR T.EA.kp (fY T) .nil aQ (ag (pv 0) (ag (pv 2) (ag (pv 1) (ag (pv 3) af))))))) (Aa rfl (aR (aE (i:=4) nd rfl (Or.inl rfl)) (aR (aE (i:=5) nd rfl (Or.inl rfl)) (aR (aE (i:=6) nd rfl (Or.inl rfl)) cj)))))
 (aj (eO (aA Gu hr rfl T.Gw T.EE.kp (iN T) .nil aQ (ag (aK aM rfl T.DW bF (ag (pv 5) af)) (ag (aK aM rfl T.DW bF (ag (pv 6) af)) af))) (dj rfl (aR (aE (i:=7) nd rfl (Or.inl rfl)) (aR (aE (i:=8) nd rfl (Or.inl rfl)) cj))))
 (av (aG (bx fZ (bx fZ (bx fZ (bx fZ (pv 4) (pv 7)) (pv 5)) (pv 8)) (pv 6)))))),?_⟩
 refine qc (RCL.use (K:=K) (Aj (cs:=[toD a,toD b,toD d]) (ds:=[ca,cb,cd]) (ab (jf (ae (k:=0) h0)) (ab (aZ (k:=1) (ae (k:=2) h2) ao rfl) au)) rfl (by simp) [xa,xb,xd] rfl (by decide) rfl (λG j x y z v w sG hx hy hz hv hw=>?_)) λl ys H1 hl s1 hy dy=>?_)
 ·have hL:=sG.ld h1
  have hP:=sG.ld h3
  match j,hx,hy,hz with
  | 0,hx,hy,hz=>cases hx;cases hy;cases hz;exact cT (R:=hV n) (dC (ae (k:=0) hv) (cW (aN (k:=2) hL) (dC (ae (k:=1) hw) (cW (aN (k:=3) hP) bS)))) ⟨ps,pl,a,ca,rfl,okS,⟨laS,ha_⟩,oa,da,n8,za,la⟩
  | 1,hx,hy,hz=>cases hx;cases hy;cases hz;exact cT (R:=hV n) (dC (ae (k:=0) hv) (cW (aN (k:=2) hL) (dC (ae (k:=1) hw) (cW (aN (k:=3) hP) bS)))) ⟨ps,pl,b,cb,rfl,okS,⟨laS,hb_⟩,ob,db,n8,zb,lb⟩
  | 2,hx,hy,hz=>cases hx;cases hy;cases hz;exact cT (R:=hV n) (dC (ae (k:=0) hv) (cW (aN (k:=2) hL) (dC (ae (k:=1) hw) (cW (aN (k:=3) hP) bS)))) ⟨ps,pl,d,cd,rfl,okS,⟨laS,hd_⟩,od,dd,n8,zd,ld⟩
  | j+3,hx,hy,hz=>cases hx
 obtain ⟨w4,w5,w6,rfl,k4,k5,k6⟩:∃ w4 w5 w6,ys=[w4,w5,w6]/\LD K H1 xa w4/\LD K H1 xb w5/\LD K H1 xd w6:=by
  cases dy with
  | cons k4 r =>
   cases r with
   | cons k5 r =>
    cases r with
    | cons k6 r =>
     cases r
     exact ⟨_,_,_,rfl,k4,k5,k6⟩
 refine ⟨l,_,rfl,SqL.of hy,rfl,_,_,rfl,_,_,rfl,_,_,rfl,rfl,?_⟩
 try dsimp only
 refine qc (fR (eQ (RE.use (K:=K) (d:=.int xb.length) (fD (aN (k:=5) k5)) λw1 H3 s3 q3=>eQ (RE.use (K:=K) (d:=.int xd.length) (fD (aN (k:=6) (s3.ld k6))) λw2 H4 s4 q4=>?_))))
 have e3:=q3.intE
 have e4:=q4.intE
 subst e3 e4
 refine ⟨_,_,rfl,λp aa bb us ws H5 s5 hp ha hb _ _ _ dus dws=>?_⟩
 refine ⟨p,_,rfl,hp,rfl,_,_,rfl,_,_,rfl,rfl,?_⟩
 try dsimp only
 have s15:=s3.trans (s4.trans s5)
 have kA:LD K H5 _ (.ref aa):=LD.of ha dus
 have kB:LD K H5 _ (.ref bb):=LD.of hb dws
 have ll:(xa++(iA 10 11 ((xb.length:Int)+ic xd.length)).map D.int++xb++(iA 8 9 xd.length).map D.int++xd).length=xa.length+((iA 10 11 ((xb.length:Int)+ic xd.length)).map D.int).length+xb.length+((iA 8 9 (xd.length:Int)).map D.int).length+xd.length:=by simp only [List.length_append]
 generalize (iA 10 11 ((xb.length:Int)+ic xd.length)).map D.int=ja at kA post ll l900
 generalize (iA 8 9 (xd.length:Int)).map D.int=jb at kB post ll l900
 exact gN (RC.use (K:=K) (gb (eB (gb (eB (gb (eB (gb (aN (k:=4) (s15.ld k4)) (aN (k:=7) kA) (by omega))) (aN (k:=5) (s15.ld k5)) (by rw [List.length_append];omega))) (aN (k:=8) kB) (by rw [List.length_append,List.length_append];omega))) (aN (k:=6) (s15.ld k6)) (by rw [List.length_append,List.length_append,List.length_append];omega)) λl3 us H7 hl3 s7 hu du=>post l3 us H7 (s1.trans (s15.trans s7)) hu ((s1.trans s15).free hl3) du)
theorem nA (T:Txt P w K mg) (Ep:FnOk P w K mg base CX0 k T.DZ T.D0 ["tree","some","cover","places"] (iu K (hV n))) (Ih:FnOk P w K mg base CX0 k T.FU T.FX ["piece","tree"] (spD K lQ)) (Jj:FnOk P w K mg base CX0 k T.Fb T.Fe ["cell","nums","ks"] (spD K sA)):FnOk P w K mg base CX0 (k+1) T.FA T.FH ["tree","some","cover","places"] (iu K (A8 n)):=by
 refine T.Gz.ok sc_laid_piece (λvs H Q E h=>?_) (λcdv A outer s H vs Q E hr h=>?_)
 ·obtain ⟨as,es,hd,⟨ps,pl,t,p,cv,g,ess,rfl,_⟩,_⟩:=h;exact hd.length.symm
 have nd:=sc_laid_piece.nd
 obtain ⟨as,es,hd,⟨ps,pl,t,p,cv,g,ess,rfl,okS,⟨laS,hcn⟩,okt,dpt,n8,szt,hp,hft,hlen,hpair,l900,rfl⟩,post⟩:=h
 obtain ⟨v0,v1,v2,v3,rfl,h0,h1,h2,h3⟩:=y0 hd
 have h0:Dat K H (toD t) v0:=h0
 have h1:LD K H (ps.map pcD) v1:=h1
 have h2:Dat K H (.tup [.str p.nm,.tup cv]) v2:=h2
 have h3:LD K H (pl.map D.int) v3:=h3
 have okp:=okS.ok p hp
 have hcl:=laS.cl p hp
 have few:=okS.few
 refine ⟨_,(aj (eO (pv 2) (dj rfl (aR (aE (i:=4) nd rfl (Or.inr rfl)) (aR (aE (i:=5) nd rfl (Or.inl rfl)) cj))))
 (aj (bg (i:=6) nd rfl (Or.inl rfl) (aT bT (cE (own:=["one"]) (fr:=[4]) (N':=["one","name"]) (cP (pv 1)) rfl (by show bR ["tree","some","cover","places","name","within","piece","holes","nums","ks","cells","hole","inner"] (λx=>(ay dO).names.lookup x) _ _ _ _=true;decide +kernel) rfl (λ_ _ _ _ _=>(aE (i:=0) (by show List.Nodup [("one":Str),("name":Str)];decide +kernel) rfl (Or.inl rfl))) (λ_ _ _ _ _=>(rP (aU cZ (aT (r:=rT K) aW (pv 0) ak (λ_ _=>rfl)) (pv 1) (aY _)))) (λ_ _ _ _ _=>(pv 0))) ak (λ_ _=>rfl)))
 (aj (eO (aA Ih hr rfl T.Ik T.GS.kp (lY T) .nil aQ (ag (pv 6) (ag (pv 0) af))) (dj rfl (aR (aE (i:=7) nd rfl (Or.inl rfl)) (aR (aE (i:=8) nd rfl (Or.inr rfl)) (aR (aE (i:=9) nd rfl (Or.inr rfl)) cj)))))
 (aj (bg (i:=10) nd rfl (Or.inl rfl) (bA af))
 (aj (hE PassesOwn.never rfl (yi rfl T.JQ (ag (pv 7) (ag (pv 5) af))) (dj rfl (aR (aE (i:=11) nd rfl (Or.inl rfl)) (aR (aE (i:=12) nd rfl (Or.inl rfl)) cj))) (av (bC (de PySem.F.plainAttrs_list PySem.F.slot_list_extend PySem.F.type_list_extend dI (pv 10) (ag (aA Ep hr rfl T.FR T.EA.kp (fY T) .nil aQ (ag (pv 11) (ag (pv 1) (ag (pv 12) (ag (pv 3) af))))) af)))))
 (av (aG (bx fZ (pv 10) (cE (own:=["cell"]) (fr:=[8,9]) (N':=["cell","nums","ks"]) (iD (aT aW (pv 6) ak (λ_ _=>rfl))) rfl (by show bR ["tree","some","cover","places","name","within","piece","holes","nums","ks","cells","hole","inner"] (λx=>(ay dO).names.lookup x) _ _ _ _=true;decide +kernel) rfl (λ_ _ _ _ _=>(aE (i:=0) (by show List.Nodup [("cell":Str),("nums":Str),("ks":Str)];decide +kernel) rfl (Or.inl rfl))) (λ_ _ _ _ _=>bE) (λ_ _ _ _ _=>(aA Jj hr rfl T.Ic T.F5.kp (nc T) .nil aQ (ag (pv 0) (ag (pv 1) (ag (pv 2) af)))))))))))))),?_⟩
 refine j4 (K:=K) (ae (k:=2) h2) λv4 v5 H1 s1 q4 q5=>?_
 refine cQ (K:=K) (d:=pcD p) (hU (k:=0) (ds:=[pcD p]) (eB (RC.as (Ag (aN (k:=1) (s1.ld h1)) (by rw [List.length_map];omega) (zO p.nm) rfl (λG j c v sG hc hv=>?_)) (qR laS.ls.nd hp))) ao rfl) λv6 H2 s2 q6=>?_
 ·rw [List.getElem?_map] at hc
  cases hq:ps[j]? with
  | none=>rw [hq] at hc;cases hc
  | some q =>
   rw [hq] at hc
   cases hc
   exact ⟨aO (bV (aZ (k:=0) (ae (k:=0) (show Dat K G (.tup [.str q.nm,toP q.pt,.tup q.cs]) v from hv)) ao rfl) (ae (k:=1) (sG.dat q4))),ae (k:=0) hv⟩
 have s12:=s1.trans s2
 have q6:Dat K H2 (.tup [.str p.nm,toP p.pt,.tup p.cs]) v6:=q6
 refine qi (K:=K) (RE.as (ba (R:=lQ) (d:=fdD (cf p.pt t)) (ab (ae (k:=6) q6) (ab (ae (k:=0) (s12.dat h0)) au)) ⟨.str p.nm,p.pt,.tup p.cs,t,rfl,okp.ok,okt,by omega,okp.dp,rfl⟩) (by rw [hft];rfl)) λv7 v8 v9 H3 s3 q7 q8 q9=>?_
 have s13:=s12.trans s3
 refine cU ⟨bZ (by decide),λlc hlc=>?_⟩
 have s4:Same H3 (upd H3 lc (.lst [])):=aC hlc _
 have s14:=s13.trans s4
 obtain ⟨ah,us,rfl,hah,dus⟩:=(s4.dat q7).tupE
 obtain ⟨aw,ws,rfl,haw,dws⟩:=((s2.trans (s3.trans s4)).dat q5).tupE
 have lu:=dus.length
 have lw:=dws.length
 rw [List.length_map] at lu
 have less:ess.length=g.1.length:=by have:=congrArg List.length hpair;rw [vI hlen,List.length_map] at this;exact this.symm
 have hlcn:H lc=none:=s13.free hlc
 have lle:ess.flatten.length+(bh p).length≤900:=by
  have z:(eZ ess g (bh p)).length=ess.flatten.length+(bh p).length:=by unfold eZ;rw [List.length_append,List.length_map]
  omega
 have lfl:ess.flatten.length≤900:=by omega
 generalize hG4:upd H3 lc (.lst [])=G4 at s4 s14 hah haw dus dws
 have hc4:G4 lc=some (.lst []):=by rw [← hG4];exact aq
 refine cV ⟨_,rfl,_,rfl,ah,aw,us,ws,rfl,hah,haw,zA (K:=K) (xs:=us) (ys:=ws) (λi σ G=>∃ (z11 z12:Option V) (zs:List V),σ=[some v0,some v1,some v2,some v3,some v4,some (.ref aw),some v6,some (.ref ah),some v8,some v9,some (.ref lc),z11,z12]/\Same H3 G/\SqT K G ah us/\SqT K G aw ws/\Dats K G (g.1.map toD) us/\Dats K G cv ws/\G lc=some (.lst zs)/\Dats K G (ess.take i).flatten zs) (by omega) ?_ (λi σ G _ ⟨_,_,_,_,_,p1,p2,_⟩=>⟨p1,p2⟩) ?_ ?_⟩
 ·exact ⟨none,none,[],rfl,s4,hah,haw,dus,dws,hc4,by rw [List.take_zero];exact Dats.nil⟩
 ·rintro i u w pp σ G hu hw hpp ⟨z11,z12,zs,rfl,sG,hahG,hawG,duG,dwG,hcG,dz⟩
  have sn:Same G (upd G pp (.tup [u,w])):=aC hpp _
  obtain ⟨du,edu,hdu⟩:=duG.getV hu
  obtain ⟨dw,edw,hdw⟩:=dwG.getV hw
  rw [List.getElem?_map] at edu
  cases hq:g.1[i]? with
  | none=>rw [hq] at edu;cases edu
  | some x =>
   rw [hq] at edu
   cases edu
   have hix:i < ess.length:=by rw [less];exact (List.getElem?_eq_some_iff.mp hq).1
   have hx:ess[i]?=some ess[i]:=List.getElem?_eq_getElem hix
   have lz:=xQ lfl hx
   have hlx:dU ps pl n x dw=some ess[i]:=(vH hq edw (by rw [hpair,List.getElem?_map,hx];rfl)).symm
   have tail:=qT okp.nh hft x (List.mem_of_getElem? hq)
   have dsm:=iL tail
   refine ⟨pp,_,rfl,SqT.of aq,rfl,_,_,rfl,_,_,rfl,rfl,?_⟩
   dsimp only
   have sHG:=s13.trans (sG.trans sn)
   have lzs:=dz.length
   refine uG (K:=K) (cT (R:=hV n) (dC (ae (k:=11) (sn.dat hdu)) (cW (aN (k:=1) (sHG.ld h1)) (dC (ae (k:=12) (sn.dat hdw)) (cW (aN (k:=3) (sHG.ld h3)) bS)))) ⟨ps,pl,x,dw,rfl,okS,⟨laS,h9 t x hcn (oK tail)⟩,gK t x okt (oK tail),by omega,by omega,by omega,hlx⟩) (sn _ _ hcG) (by omega) λys G2 b2 hc2 dy=>?_
   have g2:cO K (upd G pp (.tup [u,w])) G2:=b2.grow (sn _ _ hcG) hc2
   refine ⟨_,_,zs++ys,rfl,λa o ha=>b2 a o (aB ha hlc) ((sG.trans sn) _ _ ha),g2.tup _ _ (sn.sqT hahG),g2.tup _ _ (sn.sqT hawG),Dats.mono g2 _ (sn.dats duG),Dats.mono g2 _ (sn.dats dwG),hc2,?_⟩
   rw [List.take_add_one,hx,List.flatten_append]
   simp only [Option.toList_some,List.flatten_cons,List.flatten_nil,List.append_nil]
   exact Dats.append (Dats.mono g2 _ (sn.dats dz)) dy
 ·rintro σ G ⟨z11,z12,zs,rfl,sG,hahG,hawG,duG,dwG,hcG,dz⟩
  rw [← lu,← less,List.take_length] at dz
  dsimp only
  have sHG:=s13.trans sG
  have q6G:Dat K G (.tup [.str p.nm,toP p.pt,.tup ((bh p).map clD)]) v6:=by
   have z:=(s3.trans sG).dat q6
   rw [hcl.eq] at z
   exact z
  obtain ⟨g1,g2⟩:=mm _ _ _ hft
  have lcl:(bh p).length≤12:=by have:=okp.cs;rw [hcl.eq,List.length_map] at this;exact this
  refine gN (RC.use (K:=K) (es:=eZ ess g (bh p)) (gb (aN (k:=10) (LD.of hcG dz)) (eB (mO (cs:=(bh p).map clD) (aZ (k:=2) (ae (k:=6) q6G) ao rfl) (by rw [List.length_map];omega) ((bh p).map λc=>D.int (xq g.2.1 g.2.2 c)) (by rw [List.length_map,List.length_map]) rfl (λG1 j c v d s1 hc hd hv=>?_))) (by rw [List.length_map];omega)) λl3 vs G2 hl3 s2 hw dw=>post l3 vs G2 (sHG.trans s2) hw (sHG.free hl3) dw)
  rw [List.getElem?_map] at hc hd
  cases hq:(bh p)[j]? with
  | none=>rw [hq] at hc;cases hc
  | some x =>
   rw [hq] at hc hd
   cases hc
   cases hd
   refine ba (R:=sA) (ab (ae (k:=0) hv) (ab (ae (k:=1) ((sG.trans s1).dat q8)) (ab (ae (k:=2) ((sG.trans s1).dat q9)) au))) ⟨x,g.2.1,g.2.2,rfl,?_,rfl⟩
   rw [g1,g2]
   exact hcl.ok x (List.mem_of_getElem? hq)
theorem nz (T:Txt P w K mg) (JD:FnOk P w K mg base CX0 k T.Gb T.Gg ["tree","some","cover","places"] (iu K (A9 n))) (Jr:FnOk P w K mg base CX0 k T.FA T.FH ["tree","some","cover","places"] (iu K (A8 n))):FnOk P w K mg base CX0 (k+1) T.DZ T.D0 ["tree","some","cover","places"] (iu K (hV (n+1))):=by
 refine T.EA.ok sc_laid_cells (λvs H Q E h=>?_) (λcdv A outer s H vs Q E hr h=>?_)
 ·obtain ⟨as,es,hd,⟨ps,pl,t,c,rfl,_⟩,_⟩:=h;exact hd.length.symm
 have nd:=sc_laid_cells.nd
 obtain ⟨as,es,hd,⟨ps,pl,t,c,rfl,okS,⟨laS,hcn⟩,okt,dpt,n8,szt,hlay⟩,post⟩:=h
 obtain ⟨v0,v1,v2,v3,rfl,h0,h1,h2,h3⟩:=y0 hd
 have h0:Dat K H (toD t) v0:=h0
 have h1:LD K H (ps.map pcD) v1:=h1
 have h2:Dat K H c v2:=h2
 have h3:LD K H (pl.map D.int) v3:=h3
 have l900:es.length≤900:=by have:=ie okS.ok (n+1) t c es hlay;omega
 refine ⟨_,(aj (bu (aU cZ (aT aW (pv 0) ak (λ_ _=>rfl)) aD (aY _)) (aj (bg (i:=4) nd rfl (Or.inl rfl) (aT bT (pv 3) (aT aW (pv 0) ak (λ_ _=>rfl)) (λ_ _=>rfl)))
 (av (aG (bA (ag (bz (v:=.int 15) rfl T.IE ⟨_,rfl⟩) (ag (bx fQ (pv 4) ak) (ag (bx jW (pv 4) ak) af))))))) aP)
 (aj (bu (aU cZ (aT aW (pv 0) ak (λ_ _=>rfl)) aD (aY _)) (av (aG (aA JD hr rfl T.IL T.Hc.kp (qG T) .nil aQ (ag (pv 0) (ag (pv 1) (ag (pv 2) (ag (pv 3) af))))))) aP)
 (av (aG (aA Jr hr rfl T.Iw T.Gz.kp (oV T) .nil aQ (ag (pv 0) (ag (pv 1) (ag (pv 2) (ag (pv 3) af))))))))),?_⟩
 obtain ⟨kd,r,ek,hpk,hcall,hkids⟩:=xB t okt
 have h0':Dat K H (.tup (.str kd::r)) v0:=by rw [← ek];exact h0
 have hlay:(if mr t=true then some (me pl t) else match sL c with | none=>none | some x=>if x.1="pick" then ot (dU ps pl n) t x.2 else kS (dU ps pl n) ps t x.1 x.2)=some es:=hlay
 refine aS (K:=K) (b:=mr t) (RT.as (aO (bV (aZ (k:=0) (ae (k:=0) h0') ao rfl) aF)) hcall) (λhcl H1 s1=>?_) (λhcl H1 s1=>?_)
 ·rw [if_pos hcl] at hlay
  cases t with
  | call k =>
   have h0:Dat K H (.tup [.str "call",.int k]) v0:=h0
   simp only [clN,Bool.and_eq_true,decide_eq_true_eq] at hcn
   have ek2:k=((k.toNat:Nat):Int):=by omega
   rw [ek2] at h0
   refine cQ (K:=K) (d:=.int (pl.getD k.toNat 0)) (hU (k:=k.toNat) (aN (k:=3) (s1.ld h3)) (aZ (k:=1) (ae (k:=0) (s1.dat h0)) ao rfl) (lG hcn.2)) λv4 H2 s2 q4=>?_
   have s12:=s1.trans s2
   refine gN (RC.use (K:=K) (dW (ab ao (ab (tH (ae (k:=4) q4) ao (by decide)) (ab (p4 (ae (k:=4) q4) ao ⟨by decide,by decide⟩) au)))) λl ys H3 hl s3 hy dy=>post l ys H3 (s12.trans s3) hy (s12.free hl) ?_)
   cases hlay
   exact dy
  | _=>cases hcl
 rw [if_neg (by rw [hcl];exact Bool.false_ne_true)] at hlay
 obtain ⟨nm,cv,rfl⟩:∃ nm cv,c=.tup [.str nm,.tup cv]:=by
  cases e:sL c with
  | none =>
   have h:=hlay
   rw [e] at h
   cases h
  | some x=>exact ⟨x.1,x.2,uZ e⟩
 have hlay:(if nm="pick" then ot (dU ps pl n) t cv else kS (dU ps pl n) ps t nm cv)=some es:=hlay
 refine aS (K:=K) (b:=vp t) (RT.as (aO (bV (aZ (k:=0) (ae (k:=0) (s1.dat h0')) ao rfl) aF)) hpk) (λcp H2 s2=>?_) (λcp H2 s2=>?_)
 ·have s12:=s1.trans s2
  have hn:nm="pick":=by
   apply Classical.byContradiction
   intro z
   rw [if_neg z] at hlay
   obtain ⟨p,g,ess,e1,e2,_⟩:=jz hlay
   cases t with
   | pick a b d=>rw [xu (okS.ok p (jx e1).1).nh] at e2;cases e2
   | _=>cases cp
  subst hn
  rw [if_pos rfl] at hlay
  obtain ⟨a,b,d,ca,cb,cd,xa,xb,xd,rfl,rfl,la,lb,ld,rfl⟩:=jA hlay
  simp only [aH] at dpt
  simp only [az] at szt
  exact gN (RC.use (K:=K) (cT (R:=A9 n) (dC (ae (k:=0) (s12.dat h0)) (cW (aN (k:=1) (s12.ld h1)) (dC (ae (k:=2) (s12.dat h2)) (cW (aN (k:=3) (s12.ld h3)) bS)))) ⟨ps,pl,a,b,d,ca,cb,cd,xa,xb,xd,rfl,okS,⟨laS,by simp only [clN,Bool.and_eq_true] at hcn;exact hcn⟩,⟨okt.1,okt.2.1,okt.2.2⟩,⟨by omega,by omega,by omega⟩,by omega,⟨by omega,by omega,by omega⟩,la,lb,ld,l900,rfl⟩) λl ys H3 hl s3 hy dy=>post l ys H3 (s12.trans s3) hy (s12.free hl) dy)
 ·have s12:=s1.trans s2
  have hn:¬ nm="pick":=by
   intro z
   rw [if_pos z] at hlay
   obtain ⟨a,b,d,_,_,_,_,_,_,e,_⟩:=jA hlay
   subst e
   cases cp
  rw [if_neg hn] at hlay
  obtain ⟨p,g,ess,e1,e2,hl,hpair,rfl⟩:=jz hlay
  obtain ⟨hp,rfl⟩:=jx e1
  exact gN (RC.use (K:=K) (cT (R:=A8 n) (dC (ae (k:=0) (s12.dat h0)) (cW (aN (k:=1) (s12.ld h1)) (dC (ae (k:=2) (s12.dat h2)) (cW (aN (k:=3) (s12.ld h3)) bS)))) ⟨ps,pl,t,p,cv,g,ess,rfl,okS,⟨laS,hcn⟩,okt,dpt,n8,szt,hp,e2,hl,hpair,l900,rfl⟩) λl ys H3 hl s3 hy dy=>post l ys H3 (s12.trans s3) hy (s12.free hl) dy)
abbrev LPP:List Pc:=[⟨"inc",.two "add" (.hole 0) (.num 1),[.int 12,.int 1]⟩,⟨"both",.two "add" (.slot 0) (.slot 1),[.int 3,.tup [.str "arg",.int 0],.int 3,.tup [.str "arg",.int 1],.int 4]⟩,⟨"twofold",.two "mul" (.hole 0) (.num 2),[.int 13,.int 4]⟩,⟨"fewer",.two "sub" (.hole 0) (.gap 0 99),[.int 1,.tup [.str "low",.int 0],.int 5]⟩,⟨"addmul",.two "add" (.two "mul" (.hole 0) (.hole 1)) (.gap 0 99),[.int 6,.int 12,.tup [.str "low",.int 0]]⟩,⟨"turned",.two "less" (.gap 0 99) (.hole 0),[.int 1,.tup [.str "low",.int 0],.int 14,.int 7]⟩,⟨"far",.two "add" (.hole 0) (.gap 0 9999),[.int 2,.tup [.str "low",.int 0],.tup [.str "high",.int 0],.int 4]⟩,⟨"pair",.two "sub" (.gap 0 99) (.gap 1 99),[.int 1,.tup [.str "low",.int 0],.int 1,.tup [.str "low",.int 1],.int 5]⟩]
theorem C8:BP.map pcD=BAS:=rfl
abbrev ALLP:List Pc:=BP++LPP
structure gdP (p:Pc):Prop where
 ok:zS p
 pc:mK (pcD p)=some true/\p.nm.length≤sizeLine
 nl:noL (pcD p)=true/\d9 (pcD p)≤19
 cl:AE p (bh p)
theorem Dj:gdP ⟨"one",.gap 0 99,[.int 1,.tup [.str "low",.int 0]]⟩:=⟨⟨by decide +kernel,by simp [gY,okB],by decide,by decide,rfl⟩,⟨by decide +kernel,by decide⟩,⟨by decide +kernel,by decide +kernel⟩,by kernel_rfl,λc hc=>List.all_eq_true.mp (show List.all (bh _) (iR _ _)=true by decide +kernel) c hc⟩
theorem Dk:gdP ⟨"two",.gap 0 9999,[.int 2,.tup [.str "low",.int 0],.tup [.str "high",.int 0]]⟩:=⟨⟨by decide +kernel,by simp [gY,okB],by decide,by decide,rfl⟩,⟨by decide +kernel,by decide⟩,⟨by decide +kernel,by decide +kernel⟩,by kernel_rfl,λc hc=>List.all_eq_true.mp (show List.all (bh _) (iR _ _)=true by decide +kernel) c hc⟩
theorem Dl:gdP ⟨"slot",.slot 0,[.int 3,.tup [.str "arg",.int 0]]⟩:=⟨⟨by decide +kernel,by simp [gY,okB],by decide,by decide,rfl⟩,⟨by decide +kernel,by decide⟩,⟨by decide +kernel,by decide +kernel⟩,by kernel_rfl,λc hc=>List.all_eq_true.mp (show List.all (bh _) (iR _ _)=true by decide +kernel) c hc⟩
theorem Dm:gdP ⟨"add",.two "add" (.hole 0) (.hole 1),[.int 4]⟩:=⟨⟨by decide +kernel,by simp [gY,okB],by decide,by decide,rfl⟩,⟨by decide +kernel,by decide⟩,⟨by decide +kernel,by decide +kernel⟩,by kernel_rfl,λc hc=>List.all_eq_true.mp (show List.all (bh _) (iR _ _)=true by decide +kernel) c hc⟩
theorem Dn:gdP ⟨"sub",.two "sub" (.hole 0) (.hole 1),[.int 5]⟩:=⟨⟨by decide +kernel,by simp [gY,okB],by decide,by decide,rfl⟩,⟨by decide +kernel,by decide⟩,⟨by decide +kernel,by decide +kernel⟩,by kernel_rfl,λc hc=>List.all_eq_true.mp (show List.all (bh _) (iR _ _)=true by decide +kernel) c hc⟩
theorem Do:gdP ⟨"mul",.two "mul" (.hole 0) (.hole 1),[.int 6]⟩:=⟨⟨by decide +kernel,by simp [gY,okB],by decide,by decide,rfl⟩,⟨by decide +kernel,by decide⟩,⟨by decide +kernel,by decide +kernel⟩,by kernel_rfl,λc hc=>List.all_eq_true.mp (show List.all (bh _) (iR _ _)=true by decide +kernel) c hc⟩
theorem Dp:gdP ⟨"less",.two "less" (.hole 0) (.hole 1),[.int 7]⟩:=⟨⟨by decide +kernel,by simp [gY,okB],by decide,by decide,rfl⟩,⟨by decide +kernel,by decide⟩,⟨by decide +kernel,by decide +kernel⟩,by kernel_rfl,λc hc=>List.all_eq_true.mp (show List.all (bh _) (iR _ _)=true by decide +kernel) c hc⟩
theorem Dq:gdP ⟨"more",.two "add" (.hole 0) (.gap 0 99),[.int 12,.tup [.str "low",.int 0]]⟩:=⟨⟨by decide +kernel,by simp [gY,okB],by decide,by decide,rfl⟩,⟨by decide +kernel,by decide⟩,⟨by decide +kernel,by decide +kernel⟩,by kernel_rfl,λc hc=>List.all_eq_true.mp (show List.all (bh _) (iR _ _)=true by decide +kernel) c hc⟩
theorem Dr:gdP ⟨"inc",.two "add" (.hole 0) (.num 1),[.int 12,.int 1]⟩:=⟨⟨by decide +kernel,by simp [gY,okB],by decide,by decide,rfl⟩,⟨by decide +kernel,by decide⟩,⟨by decide +kernel,by decide +kernel⟩,by kernel_rfl,λc hc=>List.all_eq_true.mp (show List.all (bh _) (iR _ _)=true by decide +kernel) c hc⟩
theorem Ds:gdP ⟨"both",.two "add" (.slot 0) (.slot 1),[.int 3,.tup [.str "arg",.int 0],.int 3,.tup [.str "arg",.int 1],.int 4]⟩:=⟨⟨by decide +kernel,by simp [gY,okB],by decide,by decide,rfl⟩,⟨by decide +kernel,by decide⟩,⟨by decide +kernel,by decide +kernel⟩,by kernel_rfl,λc hc=>List.all_eq_true.mp (show List.all (bh _) (iR _ _)=true by decide +kernel) c hc⟩
theorem Cw:gdP ⟨"twofold",.two "mul" (.hole 0) (.num 2),[.int 13,.int 4]⟩:=⟨⟨by decide +kernel,by simp [gY,okB],by decide,by decide,rfl⟩,⟨by decide +kernel,by decide⟩,⟨by decide +kernel,by decide +kernel⟩,by kernel_rfl,λc hc=>List.all_eq_true.mp (show List.all (bh _) (iR _ _)=true by decide +kernel) c hc⟩
theorem Cy:gdP ⟨"fewer",.two "sub" (.hole 0) (.gap 0 99),[.int 1,.tup [.str "low",.int 0],.int 5]⟩:=⟨⟨by decide +kernel,by simp [gY,okB],by decide,by decide,rfl⟩,⟨by decide +kernel,by decide⟩,⟨by decide +kernel,by decide +kernel⟩,by kernel_rfl,λc hc=>List.all_eq_true.mp (show List.all (bh _) (iR _ _)=true by decide +kernel) c hc⟩
theorem Cz:gdP ⟨"addmul",.two "add" (.two "mul" (.hole 0) (.hole 1)) (.gap 0 99),[.int 6,.int 12,.tup [.str "low",.int 0]]⟩:=⟨⟨by decide +kernel,by simp [gY,okB],by decide,by decide,rfl⟩,⟨by decide +kernel,by decide⟩,⟨by decide +kernel,by decide +kernel⟩,by kernel_rfl,λc hc=>List.all_eq_true.mp (show List.all (bh _) (iR _ _)=true by decide +kernel) c hc⟩
theorem CA:gdP ⟨"turned",.two "less" (.gap 0 99) (.hole 0),[.int 1,.tup [.str "low",.int 0],.int 14,.int 7]⟩:=⟨⟨by decide +kernel,by simp [gY,okB],by decide,by decide,rfl⟩,⟨by decide +kernel,by decide⟩,⟨by decide +kernel,by decide +kernel⟩,by kernel_rfl,λc hc=>List.all_eq_true.mp (show List.all (bh _) (iR _ _)=true by decide +kernel) c hc⟩
theorem CB:gdP ⟨"far",.two "add" (.hole 0) (.gap 0 9999),[.int 2,.tup [.str "low",.int 0],.tup [.str "high",.int 0],.int 4]⟩:=⟨⟨by decide +kernel,by simp [gY,okB],by decide,by decide,rfl⟩,⟨by decide +kernel,by decide⟩,⟨by decide +kernel,by decide +kernel⟩,by kernel_rfl,λc hc=>List.all_eq_true.mp (show List.all (bh _) (iR _ _)=true by decide +kernel) c hc⟩
theorem CC:gdP ⟨"pair",.two "sub" (.gap 0 99) (.gap 1 99),[.int 1,.tup [.str "low",.int 0],.int 1,.tup [.str "low",.int 1],.int 5]⟩:=⟨⟨by decide +kernel,by simp [gY,okB],by decide,by decide,rfl⟩,⟨by decide +kernel,by decide⟩,⟨by decide +kernel,by decide +kernel⟩,by kernel_rfl,λc hc=>List.all_eq_true.mp (show List.all (bh _) (iR _ _)=true by decide +kernel) c hc⟩
theorem Bt:∀ p ∈ ALLP,gdP p:=by
 intro p hp
 simp only [ALLP,BP,LPP,List.cons_append,List.nil_append,List.append_nil,List.mem_cons,List.not_mem_nil,or_false] at hp
 rcases hp with rfl | rfl | rfl | rfl | rfl | rfl | rfl | rfl | rfl | rfl | rfl | rfl | rfl | rfl | rfl | rfl
 ·exact Dj
 ·exact Dk
 ·exact Dl
 ·exact Dm
 ·exact Dn
 ·exact Do
 ·exact Dp
 ·exact Dq
 ·exact Dr
 ·exact Ds
 ·exact Cw
 ·exact Cy
 ·exact Cz
 ·exact CA
 ·exact CB
 ·exact CC
theorem A4:(ALLP.map (·.nm)).Nodup:=by decide +kernel
structure gdS (ps:List Pc):Prop where
 gs:pe ps
 ok:kT ps
 la:zK ps
 hp:∀ p ∈ ps,e8 p.pt=true/\p.nm≠"pick"
 bp:∀ p ∈ BP,p ∈ ps
theorem zB {sub:List Pc} (h:sub.Sublist LPP):gdS (BP++sub):=by
 have hs:(BP++sub).Sublist ALLP:=(List.Sublist.refl BP).append h
 have nd:=(hs.map (·.nm)).nodup A4
 have l8:sub.length≤8:=h.length_le
 have g:∀ p ∈ BP++sub,gdP p:=λp hp=>Bt p (hs.subset hp)
 exact ⟨⟨by rw [List.length_append];show 1≤8+sub.length;omega,by rw [List.length_append];show 8+sub.length≤16;omega,λp hp=>(g p hp).pc,nd⟩,⟨λp hp=>(g p hp).ok,by rw [List.length_append];show 8+sub.length≤100;omega⟩,⟨⟨nd,λp hp=>(g p hp).nl⟩,λp hp=>(g p hp).cl⟩,λp hp=>⟨(g p hp).ok.nh,(g p hp).ok.nm⟩,λp hp=>List.mem_append_left _ hp⟩
def AY (K:PySem.W.Frag):Sp:=λvs H Q _=>∃ (a t:Addr) (ns:List Int) (p q:Int) (rest:List V),vs=[.ref a,.ref t]/\Scr K H a ns/\H t=some (.lst (.int p::.int q::rest))/\0≤p /\
 ∀ (sub:List Pc) (l:Addr) (ys:List V) (H':Hp) (p' q':Int),But t H H'->H' t=some (.lst (.int p'::.int q'::rest))->0≤p'->sub.Sublist LPP->H l=none->H' l=some (.lst ys)->Dats K H' ((BP++sub).map pcD) ys->Q (.ref l) H'
theorem rC (T:Txt P w K mg) (Ji:FnOk P w K mg base CX0 k T.E9 T.Fd [] (gE K λds es=>ds=[]/\es=LPD)) (EH:FnOk P w K mg base CX0 k T.EL T.ET ["_law_script","_law_town","_law_many"] (qm K)):FnOk P w K mg base CX0 (k+1) T.GK T.GP ["_law_script","_law_town"] (AY K):=by
 refine T.Hx.ok sc__law_set (λvs H Q E h=>?_) (λcdv A outer s H vs Q E hr h=>?_)
 ·obtain ⟨a,t,ns,p,q,rest,rfl,_⟩:=h;rfl
 have nd:=sc__law_set.nd
 obtain ⟨a,t,ns,p,q,rest,rfl,hS,hT,hp,post⟩:=h
 refine ⟨_,(aj (fA (i:=2) (own:=["_law_piece"]) (fr:=[0,1]) (N':=["_law_piece","_law_script","_law_town"]) (cP (ye Ji hr rfl T.Ib T.F4.kp (m9 T) .nil aQ)) rfl (by show bR ["_law_script","_law_town","_law_more"] (λx=>(ay gB).names.lookup x) _ _ _ _=true;decide +kernel) rfl (λ_ _ _ _ _=>(aE (i:=0) (by show List.Nodup [("_law_piece":Str),("_law_script":Str),("_law_town":Str)];decide +kernel) rfl (Or.inl rfl))) (λ_ _ _ _ _=>(rP (aU cZ (aA EH hr rfl T.Fv T.Eo.kp (fG T) .nil aQ (ag (pv 1) (ag (pv 2) (ag ak af)))) ak (aY _)))) (λ_ _ _ _ _=>(pv 0)) nd rfl rfl rfl)
 (av (aG (bx fZ (bz (v:=.ref T.IT) rfl T.HZ rfl) (pv 2))))),?_⟩
 refine cU (rW (K:=K) (λr us H1=>Same H H1/\H r=none/\Dats K H1 LPD us) (λR hR=>⟨[],LPD,Dats.nil,⟨rfl,rfl⟩,λr us H1 s1 hr hr0 hd=>hR r us H1 hr ⟨s1,hr0,hd⟩⟩) rfl (λr us H1 l hr hM hl=>?_))
 obtain ⟨s1,hr0,hd⟩:=hM
 have hT1:=s1 _ _ hT
 have nrt:r≠t:=Ne.symm (aB hT hr0)
 have nlt:l≠t:=Ne.symm (aB hT1 hl)
 have nlr:r≠l:=aB hr hl
 have lu:=hd.length
 have lu8:us.length=8:=by rw [← lu];rfl
 refine ⟨
  (λi G=>∃ (sub:List Pc) (ys:List V) (p' q':Int),But t H1 G/\G t=some (.lst (.int p'::.int q'::rest))/\0≤p'/\sub.Sublist (LPP.take i)/\G l=some (.lst ys)/\Dats K G (sub.map pcD) ys/\sub.length≤i),?_,(λi G hi ⟨_,_,_,_,b,_⟩=>SqL.of (b _ _ nrt hr)),(λi G hi pn=>?_),(λG pn=>?_)⟩
 ·exact ⟨[],[],p,q,(aC hl _).but,by rw [aJ (Ne.symm nlt)];exact hT1,hp,List.nil_sublist _,aq,Dats.nil,Nat.le_refl _⟩
 ·obtain ⟨sub,ys,p',q',bG,tG,gp,hsub,hlG,dG,lsub⟩:=pn
  have ly:=dG.length
  rw [List.length_map] at ly
  have gG:cO K H1 G:=bG.grow hT1 tG
  have hdG:Dats K G LPD us:=Dats.mono gG _ hd
  obtain ⟨dx,ex,hx⟩:=hdG.getV (List.getElem?_eq_getElem hi)
  have hx':(LPP.map pcD)[i]?=some dx:=ex
  rw [List.getElem?_map] at hx'
  cases hpp:LPP[i]? with
  | none=>rw [hpp] at hx';cases hx'
  | some pp =>
   rw [hpp] at hx'
   cases hx'
   have et:LPP.take (i+1)=LPP.take i++[pp]:=by rw [List.take_add_one,hpp];rfl
   have hitem:us.getD i .non=us[i]:=by rw [List.getD_eq_getElem?_getD,List.getElem?_eq_getElem hi];rfl
   refine ⟨_,rfl,_,rfl,a,t,ns,2,p',q',rest,rfl,hS.but (s1.but.trans bG) hT,tG,gp,by decide,by decide,λr3 G3 p3 q3 b3 t3 g3 r3a r3b=>?_⟩
   refine ⟨rfl,_,rfl,?_⟩
   have hl3:=b3 _ _ nlt hlG
   have g3':cO K G G3:=b3.grow tG t3
   refine nj (λc=>?_) (λc=>?_)
   ·refine ⟨_,rfl,ys,hl3,ck (by omega),⟨_,rfl⟩,?_⟩
    rw [hitem]
    have b4:But l G3 (upd G3 l (.lst (ys++[us[i]]))):=But.upd (Same.refl _).but
    have g4:cO K G3 (upd G3 l (.lst (ys++[us[i]]))):=b4.grow hl3 aq
    refine ⟨sub++[pp],ys++[us[i]],p3,q3,λb o nb hb=>b4 b o (aB hb hl) (b3 b o nb (bG b o nb hb)),b4 _ _ (Ne.symm nlt) t3,g3,?_,aq,?_,?_⟩
    ·rw [et];exact hsub.append (List.Sublist.refl _)
    ·rw [List.map_append]
     exact Dats.append (Dats.mono g4 _ (Dats.mono g3' _ dG)) (Dats.cons (Dat.mono g4 _ (Dat.mono g3' _ hx)) Dats.nil)
    ·rw [List.length_append]
     simp
     omega
   ·refine ⟨⟨_,rfl⟩,sub,ys,p3,q3,bG.trans b3,t3,g3,?_,hl3,Dats.mono g3' _ dG,by omega⟩
    rw [et]
    exact hsub.trans (List.sublist_append_left _ _)
 ·obtain ⟨sub,ys,p',q',bG,tG,gp,hsub,hlG,dG,lsub⟩:=pn
  have hL:LD K G (sub.map pcD) (.ref l):=LD.of hlG dG
  have hsub':sub.Sublist LPP:=hsub.trans (List.take_sublist _ _)
  refine gN (RC.use (K:=K) (gb (B7 T.JO) (aN (k:=2) hL) (by rw [List.length_map];show 8+sub.length≤1000;omega)) λlz zs G2 hlz s2 hzs dzs=>?_)
  refine post sub lz zs G2 p' q' ((s1.but.trans bG).trans s2.but) (s2 _ _ tG) gp hsub' ?_ hzs ?_
  ·cases h:H lz with
   | none=>rfl
   | some o =>
    have h1:=s1 _ _ h
    by_cases e:lz=t
    ·rw [e,tG] at hlz;cases hlz
    ·rw [bG _ _ e h1] at hlz;cases hlz
  ·rw [List.map_append,C8]
   exact dzs
def qX (ps:List Tr) (t:Tr):Option Nat:=ps.findIdx? λx=>eqD (toD x) (toD t)
def atC (ps:List Tr) (t t':Tr):Tr:=match qX ps t with
 | some i=>.call ((i:Int)+1)
 | none=>t'
def wcT (ps:List Tr):Tr->Tr
 | .num n=>atC ps (.num n) (.num n)
 | .arg k=>atC ps (.arg k) (.arg k)
 | .two o a b=>atC ps (.two o a b) (.two o (wcT ps a) (wcT ps b))
 | .pick a b c=>atC ps (.pick a b c) (.pick (wcT ps a) (wcT ps b) (wcT ps c))
 | .call k=>atC ps (.call k) (.call k)
def wwT (ps:List Tr):Tr->Tr
 | .two o a b=>.two o (wcT ps a) (wcT ps b)
 | .pick a b c=>.pick (wcT ps a) (wcT ps b) (wcT ps c)
 | t=>t
theorem C6 (ps:List Tr) (t:Tr):wcT ps t=atC ps t (wwT ps t):=by cases t <;> rfl
theorem sP {ps:List Tr} (h:qX ps t=some i):i < ps.length/\ps[i]?=some t/\∀ m,m < i->ps[m]?≠some t:=by
 unfold qX at h
 obtain ⟨hl,h1,h2⟩:=List.findIdx?_eq_some_iff_getElem.mp h
 refine ⟨hl,?_,λm hm e=>?_⟩
 ·rw [List.getElem?_eq_getElem hl,lO _ _ h1]
 ·have hml:m < ps.length:=by omega
  rw [List.getElem?_eq_getElem hml] at e
  have:=h2 m hm
  rw [Option.some.inj e,eA _ (bW t)] at this
  exact this rfl
theorem xH {ps:List Tr} (h:qX ps t=none):(ps.map toD).any (λe=>eqD e (toD t))=false:=by
 unfold qX at h
 rw [List.findIdx?_eq_none_iff] at h
 rw [List.any_map,List.any_eq_false]
 intro x hx
 have:=h x hx
 show ¬ eqD (toD x) (toD t)=true
 rw [this]
 exact Bool.false_ne_true
theorem xI {ps:List Tr} (h:qX ps t=some i):(ps.map toD).any (λe=>eqD e (toD t))=true:=by
 obtain ⟨_,h1,_⟩:=sP h
 rw [List.any_map,List.any_eq_true]
 exact ⟨t,List.mem_of_getElem? h1,eA _ (bW t)⟩
structure okPs (ps:List Tr):Prop where
 ok:∀ p ∈ ps,okT p/\aH p≤8/\az p≤40
 few:ps.length≤6
theorem tX {ps:List Tr} (h:ps.length≤6) {t':Tr} (d0:1≤aH t) (s0:1≤az t) (h1:okX t') (h2:aH t'≤aH t) (h3:az t'≤az t) (h4:clN (ps.length+1) t'=true):okX (atC ps t t')/\aH (atC ps t t')≤aH t/\az (atC ps t t')≤az t/\clN (ps.length+1) (atC ps t t')=true:=by
 unfold atC
 cases e:qX ps t with
 | none=>exact ⟨h1,h2,h3,h4⟩
 | some i =>
  have:=(sP e).1
  refine ⟨⟨by omega,by omega⟩,d0,s0,?_⟩
  show (decide (0≤(i:Int)+1) && decide (((i:Int)+1).toNat < ps.length+1))=true
  rw [decide_eq_true (by omega),decide_eq_true (by omega)]
  rfl
theorem jc {ps:List Tr} (h:ps.length≤6):∀ t:Tr,okT t->okX (wcT ps t)/\aH (wcT ps t)≤aH t/\az (wcT ps t)≤az t/\clN (ps.length+1) (wcT ps t)=true
 | .num n,ht=>tX h (Nat.le_refl _) (Nat.le_refl _) ht (Nat.le_refl _) (Nat.le_refl _) rfl
 | .arg k,ht=>tX h (Nat.le_refl _) (Nat.le_refl _) ht (Nat.le_refl _) (Nat.le_refl _) rfl
 | .two o a b,ht=>by
  obtain ⟨a1,a2,a3,a4⟩:=jc h a ht.2.1
  obtain ⟨b1,b2,b3,b4⟩:=jc h b ht.2.2
  exact tX h (by simp [aH]) (by simp [az]) ⟨ht.1,a1,b1⟩ (by simp only [aH];omega) (by simp only [az];omega) (by simp only [clN,a4,b4,Bool.and_self])
 | .pick a b c,ht=>by
  obtain ⟨a1,a2,a3,a4⟩:=jc h a ht.1
  obtain ⟨b1,b2,b3,b4⟩:=jc h b ht.2.1
  obtain ⟨c1,c2,c3,c4⟩:=jc h c ht.2.2
  exact tX h (by simp [aH]) (by simp [az]) ⟨a1,b1,c1⟩ (by simp only [aH];omega) (by simp only [az];omega) (by simp only [clN,a4,b4,c4,Bool.and_self])
 | .call _,ht=>ht.elim
theorem C7 {ps:List Tr} (h:ps.length≤6):∀ t:Tr,okT t->okX (wwT ps t)/\aH (wwT ps t)≤aH t/\az (wwT ps t)≤az t/\clN (ps.length+1) (wwT ps t)=true
 | .num n,ht=>⟨ht,Nat.le_refl _,Nat.le_refl _,rfl⟩
 | .arg k,ht=>⟨ht,Nat.le_refl _,Nat.le_refl _,rfl⟩
 | .two o a b,ht=>by
  obtain ⟨a1,a2,a3,a4⟩:=jc h a ht.2.1
  obtain ⟨b1,b2,b3,b4⟩:=jc h b ht.2.2
  exact ⟨⟨ht.1,a1,b1⟩,by simp only [wwT,aH];omega,by simp only [wwT,az];omega,by simp only [wwT,clN,a4,b4,Bool.and_self]⟩
 | .pick a b c,ht=>by
  obtain ⟨a1,a2,a3,a4⟩:=jc h a ht.1
  obtain ⟨b1,b2,b3,b4⟩:=jc h b ht.2.1
  obtain ⟨c1,c2,c3,c4⟩:=jc h c ht.2.2
  exact ⟨⟨a1,b1,c1⟩,by simp only [wwT,aH];omega,by simp only [wwT,az];omega,by simp only [wwT,clN,a4,b4,c4,Bool.and_self]⟩
 | .call _,ht=>ht.elim
def Rwc (n:Nat) (as:List Ar) (d:D):Prop:=∃ (t:Tr) (ps:List Tr),as=[.d (toD t),.l (ps.map toD)]/\okT t/\aH t≤n/\n≤8/\okPs ps/\d=toD (wcT ps t)
def Rww (n:Nat) (as:List Ar) (d:D):Prop:=∃ (t:Tr) (ps:List Tr),as=[.d (toD t),.l (ps.map toD)]/\okT t/\aH t≤n+1/\n≤7/\okPs ps/\d=toD (wwT ps t)
theorem okPs.deep {ps:List Tr} (h:okPs ps):deepDs (ps.map toD)≤20:=Nat.le_trans (ib (n:=8) ps λx hx=>(h.ok x hx).2.1) (by decide)
variable {ds:List D}
theorem uH {t:TE} (h:RE K t σ H (.tup ds)):RT (λσ H Q=>t σ H λx H'=>∃ k,uP K x H' k/\Q k H') σ H (!ds.isEmpty):=λH1 s Q q=>h H1 s _ λv H2 s2 q2=>by
 obtain ⟨a,vs,rfl,hq,hd⟩:=q2.tupE
 refine ⟨!vs.isEmpty,.inr (.inl ⟨vs,hq,rfl⟩),?_⟩
 have e:vs.isEmpty=ds.isEmpty:=by
  have:=hd.length
  cases ds <;> cases vs <;> simp at this ⊢
 rw [e]
 exact q H2 s2
theorem nC (T:Txt P w K mg) (E6:FnOk P w K mg base CX0 k T.DP T.DQ ["tree","parts"] (spA K (Rww n))):FnOk P w K mg base CX0 (k+1) T.Et T.Ex ["tree","parts"] (spA K (Rwc (n+1))):=by
 refine T.FP.ok sc_with_calls (λvs H Q E h=>?_) (λcdv A outer s H vs Q E hr h=>?_)
 ·obtain ⟨as,d,hd,⟨t,ps,rfl,_⟩,_⟩:=h;exact hd.length.symm
 have nd:=sc_with_calls.nd
 obtain ⟨as,d,hd,⟨t,ps,rfl,okt,dpt,n8,okp,rfl⟩,post⟩:=h
 obtain ⟨v0,v1,rfl,h0,h1⟩:=oR hd
 have h0:Dat K H (toD t) v0:=h0
 have h1:LD K H (ps.map toD) v1:=h1
 refine ⟨_,(aj (bu (aU (ya hr) (pv 0) (pv 1) (by with_unfolding_all rfl)) (av (aG (aI (ag aD (ag (bx fe (de PySem.F.plainAttrs_list PySem.F.slot_list_index PySem.F.type_list_index (kr hr) (pv 1) (ag (pv 0) af)) ak) af))))) aP)
 (av (aG (aA E6 hr rfl T.E7 T.DX.kp (fU T) .nil aQ (ag (pv 0) (ag (pv 1) af)))))),?_⟩
 rw [C6] at post
 unfold atC at post
 have few:=okp.few
 cases e:qX ps t with
 | some i =>
  rw [e] at post
  obtain ⟨hl,hi,hno⟩:=sP e
  refine aS (K:=K) (b:=true) (RT.as (aO (p6 (neg:=false) (ae (k:=0) h0) (aN (k:=1) h1) (gy ps) (bW t) okp.deep)) (xI e)) (λ_ H1 s1=>?_) (λc=>nomatch c)
  refine aX (K:=K) (d:=.tup [.str "call",.int ((i:Int)+1)]) (aL (ab aF (ab (fS (mR (k:=1) (s1.ld h1) (ae (k:=0) (s1.dat h0)) (gy ps) (bW t) okp.deep (by rw [List.length_map];omega) ⟨toD t,by rw [List.getElem?_map,hi];rfl,eA _ (bW t)⟩ λm g hm hg=>?_) ao) au))) λv H' s q=>post v H' (s1.trans s) q
  rw [List.getElem?_map] at hg
  obtain ⟨x,hx,rfl⟩:=Option.map_eq_some_iff.mp hg
  cases hq:eqD (toD x) (toD t) with
  | false=>rfl
  | true=>rw [lO _ _ hq] at hx;exact absurd hx (hno m hm)
 | none =>
  rw [e] at post
  refine aS (K:=K) (b:=false) (RT.as (aO (p6 (neg:=false) (ae (k:=0) h0) (aN (k:=1) h1) (gy ps) (bW t) okp.deep)) (xH e)) (λc=>nomatch c) (λ_ H1 s1=>?_)
  exact aX (K:=K) (d:=toD (wwT ps t)) (cC (R:=Rww n) (dC (ae (k:=0) (s1.dat h0)) (cW (aN (k:=1) (s1.ld h1)) bS)) ⟨t,ps,rfl,okt,dpt,by omega,okp,rfl⟩) λv H' s q=>post v H' (s1.trans s) q
theorem AD (h:okT t) (ps:List Tr):∃ kd r,toD t=.tup (.str kd::r)/\((bq t=[]/\wwT ps t=t)\/(bq t≠[]/\toD (wwT ps t)=.tup ([.str kd]++(bq t).map λx=>toD (wcT ps x)))):=by
 cases t with
 | num n=>exact ⟨_,_,rfl,.inl ⟨rfl,rfl⟩⟩
 | arg n=>exact ⟨_,_,rfl,.inl ⟨rfl,rfl⟩⟩
 | two o a b=>exact ⟨_,_,rfl,.inr ⟨λz=>(nomatch z),rfl⟩⟩
 | pick a b c=>exact ⟨_,_,rfl,.inr ⟨λz=>(nomatch z),rfl⟩⟩
 | call k=>exact h.elim
theorem fJ (T:Txt P w K mg) (DK:FnOk P w K mg base CX0 k T.DM T.DO ["tree"] (spD K eY)) (Hv:FnOk P w K mg base CX0 k T.Et T.Ex ["tree","parts"] (spA K (Rwc n))):FnOk P w K mg base CX0 (k+1) T.DP T.DQ ["tree","parts"] (spA K (Rww n)):=by
 refine T.DX.ok sc_with_calls_within (λvs H Q E h=>?_) (λcdv A outer s H vs Q E hr h=>?_)
 ·obtain ⟨as,d,hd,⟨t,ps,rfl,_⟩,_⟩:=h;exact hd.length.symm
 have nd:=sc_with_calls_within.nd
 obtain ⟨as,d,hd,⟨t,ps,rfl,okt,dpt,n8,okp,rfl⟩,post⟩:=h
 obtain ⟨v0,v1,rfl,h0,h1⟩:=oR hd
 have h0:Dat K H (toD t) v0:=h0
 have h1:LD K H (ps.map toD) v1:=h1
 refine ⟨_,(aj (bg (i:=2) nd rfl (Or.inl rfl) (aA DK hr rfl T.Ek T.DT.kp (dq T) .nil aQ (ag (pv 0) af)))
 (aj (bu (bU (bo (pv 2) (λ_=>rfl))) (av (aG (pv 0))) aP)
 (av (aG (bx zV (aI (ag (aT aW (pv 0) ak (λ_ _=>rfl)) af)) (di cJ rfl T.Fj dt (ag (cE (own:=["one"]) (fr:=[1]) (N':=["one","parts"]) (iD (pv 2)) rfl (by show bR ["tree","parts","within"] (λx=>(ay cu).names.lookup x) _ _ _ _=true;decide +kernel) rfl (λ_ _ _ _ _=>(aE (i:=0) (by show List.Nodup [("one":Str),("parts":Str)];decide +kernel) rfl (Or.inl rfl))) (λ_ _ _ _ _=>bE) (λ_ _ _ _ _=>(aA Hv hr rfl T.HC T.FP.kp (jL T) .nil aQ (ag (pv 0) (ag (pv 1) af))))) af))))))),?_⟩
 obtain ⟨kd,r,ek,hw⟩:=AD okt ps
 have h0':Dat K H (.tup (.str kd::r)) v0:=by rw [← ek];exact h0
 refine cQ (K:=K) (d:=.tup ((bq t).map toD)) (RE.as (ba (R:=eY) (ab (ae (k:=0) h0') au) ⟨kd,r,rfl,rfl⟩) (by rw [← ek,AK t (iO okt)])) λv2 H1 s1 q2=>?_
 rcases hw with ⟨k0,ew⟩ | ⟨k0,ew⟩
 ·refine aS (K:=K) (b:=true) (RT.as (bB (uH (ae (k:=2) q2))) (by rw [k0];rfl)) (λ_ H2 s2=>?_) (λc=>nomatch c)
  rw [ew] at post
  exact aX (K:=K) (d:=toD t) (ae (k:=0) ((s1.trans s2).dat h0)) λv H' s q=>post v H' (s1.trans (s2.trans s)) q
 ·have ke:((bq t).map toD).isEmpty=false:=by cases hk:bq t with | nil=>exact absurd hk k0 | cons _ _=>rfl
  refine aS (K:=K) (b:=false) (RT.as (bB (uH (ae (k:=2) q2))) (by rw [ke];rfl)) (λc=>nomatch c) (λ_ H2 s2=>?_)
  have s12:=s1.trans s2
  rw [ew] at post
  have l3:(bq t).length≤3:=by cases t <;> simp [bq]
  refine aX (K:=K) (d:=.tup ([.str kd]++(bq t).map λx=>toD (wcT ps x))) (Al (aL (ab (aZ (k:=0) (ae (k:=0) (s12.dat h0')) ao rfl) au)) (oF (mO (ae (k:=2) (s2.dat q2)) (by rw [List.length_map];omega) ((bq t).map λx=>toD (wcT ps x)) (by rw [List.length_map,List.length_map]) rfl (λG i c v d sG hc hd hv=>?_))) (by rw [List.length_map];show 1+_≤1000;omega)) λv H' s q=>post v H' (s12.trans s) q
  rw [List.getElem?_map] at hc hd
  cases hx:(bq t)[i]? with
  | none=>rw [hx] at hc;cases hc
  | some x =>
   rw [hx] at hc hd
   cases hc
   cases hd
   obtain ⟨k1,k2⟩:=oq (List.mem_of_getElem? hx)
   have okx:okT x:=by
    have hm:=List.mem_of_getElem? hx
    cases t with
    | num n=>simp [bq] at hm
    | arg n=>simp [bq] at hm
    | call n=>simp [bq] at hm
    | two o a b=>simp only [bq,List.mem_cons,List.not_mem_nil,or_false] at hm;rcases hm with rfl | rfl;exact okt.2.1;exact okt.2.2
    | pick a b c=>simp only [bq,List.mem_cons,List.not_mem_nil,or_false] at hm;rcases hm with rfl | rfl | rfl;exact okt.1;exact okt.2.1;exact okt.2.2
   exact cC (R:=Rwc n) (dC (ae (k:=0) hv) (cW (aN (k:=1) ((s12.trans sG).ld h1)) bS)) ⟨x,ps,rfl,okx,by omega,by omega,okp,rfl⟩
theorem AC (as:List Ar) (d:D):¬ Rwc 0 as d:=λ⟨t,_,_,_,h,_⟩=>by have:=dE t;omega
def wx (as:List Ar) (d:D):Prop:=∃ (t:Tr) (ps:List Tr),as=[.l (ps.map toD),.d (toD t)]/\okT t/\aH t≤8/\az t≤40/\okPs ps/\(∀ p ∈ ps,p ∈ ax t)/\ps.Nodup/\d=.bl true
variable {l:List Tr}
theorem xJ (h:x ∈ l):(l.map toD).any (λe=>eqD e (toD x))=true:=by
 rw [List.any_map,List.any_eq_true]
 exact ⟨x,h,eA _ (bW x)⟩
theorem rA (h:x ∉ l):(l.map toD).any (λe=>eqD e (toD x))=false:=by
 rw [List.any_map,List.any_eq_false]
 intro y hy z
 rw [lO y x z] at hy
 exact h hy
theorem zN (h:l.Nodup) (hx:l[i]?=some x):x ∉ l.take i:=λhm=>by
 obtain ⟨j,hj⟩:=List.mem_iff_getElem?.mp hm
 have hji:j < i:=by
  have:=(List.getElem?_eq_some_iff.mp hj).1
  rw [List.length_take] at this
  omega
 rw [List.getElem?_take_of_lt hji] at hj
 have hil:=(List.getElem?_eq_some_iff.mp hx).1
 have hjl:=(List.getElem?_eq_some_iff.mp hj).1
 have e1:=(List.getElem?_eq_some_iff.mp hx).2
 have e2:=(List.getElem?_eq_some_iff.mp hj).2
 exact List.pairwise_iff_getElem.mp h j i hjl hil hji (e2.trans e1.symm)
theorem pJ (T:Txt P w K mg) (IC:FnOk P w K mg base CX0 k T.GD T.GG ["thing"] (spD K lB)) (GJ:FnOk P w K mg base CX0 k T.FC T.FJ ["tree"] (gE K (eI 8))):FnOk P w K mg base CX0 (k+1) T.F8 T.Gd ["thing","tree"] (spA K wx):=by
 refine T.Ha.ok sc_are_parts (λvs H Q E h=>?_) (λcdv A outer s H vs Q E hr h=>?_)
 ·obtain ⟨as,d,hd,⟨t,ps,rfl,_⟩,_⟩:=h;exact hd.length.symm
 have nd:=sc_are_parts.nd
 obtain ⟨as,d,hd,⟨t,ps,rfl,okt,dpt,szt,okp,hin,nod,rfl⟩,post⟩:=h
 obtain ⟨v0,v1,rfl,h0,h1⟩:=oR hd
 have h0:LD K H (ps.map toD) v0:=h0
 have h1:Dat K H (toD t) v1:=h1
 have few:=okp.few
 refine ⟨_,(aj (bu (PW.pt (fg (bU (bo (aK (dv ui) rfl T.DJ bI (bO (pv 0) (bO (ff (v:=.ty "list") rfl T.Jw oY rfl) af))) (λ_=>rfl))) (eP (aU mJ (aK aM rfl T.DW bF (ag (pv 0) af)) (bz (v:=.int 6) rfl T.EG ⟨_,rfl⟩) (aY _))))) (av (aG dm)) aP)
 (aj (bu (bU (bo (aK (gw rfl) rfl T.IP jw (ag (cE (own:=["part"]) (fr:=[]) (N':=["part"]) (cP (pv 0)) rfl (by show bR ["thing","tree","there"] (λx=>(ay eT).names.lookup x) _ _ _ _=true;decide +kernel) rfl (λ_ _ _ _ _=>(aE (i:=0) (by show List.Nodup [("part":Str)];decide +kernel) rfl (Or.inl rfl))) (λ_ _ _ _ _=>bE) (λ_ _ _ _ _=>(aA IC hr rfl T.IH T.Hr.kp (nK T) .nil aQ (ag (pv 0) af)))) af)) (λ_=>rfl))) (av (aG dm)) aP)
 (aj (bg (i:=2) nd rfl (Or.inr rfl) (aA GJ hr rfl T.HQ T.GU.kp (jK T) .nil aQ (ag (pv 1) af)))
 (av (aG (aK (gw rfl) rfl T.IP jw (ag (cE (own:=["at","part"]) (fr:=[0,2]) (N':=["at","part","thing","there"]) (yh rfl T.IQ (ag (pv 0) af)) rfl (by show bR ["thing","tree","there"] (λx=>(ay eT).names.lookup x) _ _ _ _=true;decide +kernel) rfl (λ_ _ _ _ _=>(uz (K:=K) (n:=2) rfl rfl (aR (aE (i:=0) (by show List.Nodup [("at":Str),("part":Str),("thing":Str),("there":Str)];decide +kernel) rfl (Or.inl rfl)) (aR (aE (i:=1) (by show List.Nodup [("at":Str),("part":Str),("thing":Str),("there":Str)];decide +kernel) rfl (Or.inl rfl)) cj)))) (λ_ _ _ _ _=>bE) (λ_ _ _ _ _=>(iC (cH (show OpR _ _ (yo K false) from ya hr) (pv 1) (pv 3) (by with_unfolding_all rfl)) (gZ (cH (show OpR _ _ (yo K true) from vG hr) (pv 1) (ij (show SlR _ (BZ K) from Ax) (pv 2) jY (iE (pv 0))) (by with_unfolding_all rfl)))))) af))))))),?_⟩
 refine aS (K:=K) (b:=false) (RT.as (cX (b:=false) (c:=false) (RT.as (bB (aV (bN (ae (k:=0) h0.lst)))) rfl) λ_=>RT.as (aO (dD (p:=λi j=>decide (j < i)) (fD (aN (k:=0) h0)) ao)) (decide_eq_false (by rw [List.length_map];omega))) rfl) (λc=>nomatch c) (λ_ H1 s1=>?_)
 have h0:=s1.ld h0
 refine aS (K:=K) (b:=false) (RT.as (bB (aV (iF (bs:=ps.map λ_=>true) (fh (aN (k:=0) h0) (by rw [List.length_map];omega) _ (by simp) rfl (λG1 j c v d s1 hc hd hv=>?_))))) (by rw [List.all_map];simp)) (λc=>nomatch c) (λ_ H2 s2=>?_)
 ·simp only [List.getElem?_map] at hc hd
  cases hx:ps[j]? with
  | none=>rw [hx] at hc;cases hc
  | some p =>
   rw [hx] at hc hd
   cases hc
   cases hd
   obtain ⟨k1,k2,k3⟩:=okp.ok p (List.mem_of_getElem? hx)
   exact ba (R:=lB) (ab (ae (k:=0) hv) au) ⟨toD p,rfl,by rw [qw k1 k2 k3]⟩
 have h0:=s2.ld h0
 have h1:=(s1.trans s2).dat h1
 refine dJ (K:=K) (gM (R:=eI 8) (ab (ae (k:=1) h1) au) ⟨t,rfl,iO okt,dpt,by omega,rfl⟩) λlw xs H3 hlw s3 hxs dxs=>?_
 have dpp:deepDs ((ax t).map toD)≤20:=Nat.le_trans (ib (n:=8) _ λx hx=>Nat.le_trans (cA t x hx).2 dpt) (by decide)
 have h0:=s3.ld h0
 refine aX (K:=K) (d:=.bl true) (RE.as (iF (bs:=ps.map λ_=>true) (yB (aN (k:=0) h0) (by rw [List.length_map];omega) _ (by simp) (by decide) rfl (λG j c e v s hc he hv=>?_))) (by rw [List.all_map];simp)) λv H' s q=>post v H' (s1.trans (s2.trans (s3.trans s))) q
 simp only [List.getElem?_map] at hc he
 cases hx:ps[j]? with
 | none=>rw [hx] at hc;cases hc
 | some p =>
  rw [hx] at hc he
  cases hc
  cases he
  have hm:=List.mem_of_getElem? hx
  have kt:=zN nod hx
  refine RE.as (cF (b:=true) (c:=true) (RE.as (p6 (neg:=false) (ae (k:=1) hv) (aN (k:=3) (s.ld (LD.of hxs dxs))) (gy _) (bW p) dpp) (congrArg D.bl (xJ (hin p hm)))) λ_=>RE.as (p6 (neg:=true) (ae (k:=1) hv) (eB (RC.as (yA (n:=j) (aN (k:=2) (s.ld h0)) (ae (k:=0) (Dat.intI (j:Int)))) (List.map_take).symm)) (gy _) (bW p) (Nat.le_trans (ib (n:=8) _ λx hx=>(okp.ok x (List.mem_of_mem_take hx)).2.1) (by decide))) (congrArg D.bl (by rw [rA kt];rfl))) rfl
def sC (as:List Ar) (d:D):Prop:=∃ (t:Tr) (ps:List Tr),as=[.l (ps.map toD),.d (toD t)]/\okT t/\aH t≤8/\az t≤40/\okPs ps/\(∀ p ∈ ps,p ∈ ax t)/\ps.Nodup/\d=.non
theorem nB (T:Txt P w K mg) (JB:FnOk P w K mg base CX0 k T.F8 T.Gd ["thing","tree"] (spA K wx)):FnOk P w K mg base CX0 (k+1) T.FB T.FI ["parts","tree"] (spA K sC):=by
 refine T.GA.ok sc_need_parts (λvs H Q E h=>?_) (λcdv A outer s H vs Q E hr h=>?_)
 ·obtain ⟨as,d,hd,⟨t,ps,rfl,_⟩,_⟩:=h;exact hd.length.symm
 have nd:=sc_need_parts.nd
 obtain ⟨as,d,hd,⟨t,ps,rfl,okt,dpt,szt,okp,hin,nod,rfl⟩,post⟩:=h
 obtain ⟨v0,v1,rfl,h0,h1⟩:=oR hd
 have h0:LD K H (ps.map toD) v0:=h0
 have h1:Dat K H (toD t) v1:=h1
 refine ⟨_,(av (bu (bU (bo (aA JB hr rfl T.IJ T.Ha.kp (qE T) .nil aQ (ag (pv 0) (ag (pv 1) af))) (λ_=>rfl))) (av ik) aP)),?_⟩
 exact iP (b:=false) (bB (aV (cC (K:=K) (R:=wx) (cW (aN (k:=0) h0) (dC (ae (k:=1) h1) bS)) ⟨t,ps,rfl,okt,dpt,szt,okp,hin,nod,rfl⟩))) (λc=>nomatch c) (λ_ H1 s1=>post _ H1 s1 Dat.nonI)
def jC (ps:List Pc) (t:Tr):List D:=(match cz ps t with
 | some b=>(dU ps [] 8 t b.2).getD []
 | none=>[])++[.int 0]
def qz (as:List Ar) (es:List D):Prop:=∃ (ps:List Pc) (t:Tr),as=[.d (toD t),.l (ps.map pcD)]/\gdS ps/\okT t/\aH t≤8/\az t≤40/\es=jC ps t
theorem kh:∀ t:Tr,okT t->clN m t=true
 | .num n,_=>rfl
 | .arg n,_=>rfl
 | .two o a b,h=>by simp only [clN,kh a h.2.1,kh b h.2.2,Bool.and_self]
 | .pick a b c,h=>by simp only [clN,kh a h.1,kh b h.2.1,kh c h.2.2,Bool.and_self]
 | .call _,h=>h.elim
theorem uh (F:gdS ps) (pl:List Int) (h:okX t) (d:aH t≤8):∃ b es,cz ps t=some b/\dU ps pl 8 t b.2=some es/\(es.length:Int)=b.1/\es.length≤12 * az t:=by
 obtain ⟨b,hb⟩:=gm (λp hp=>(F.hp p hp).1) F.bp t h
 obtain ⟨es,h1,h2⟩:=h8 pl F.hp F.la.ls.nd 8 t b d hb
 exact ⟨b,es,hb,h1,h2,ie F.ok.ok 8 t b.2 es h1⟩
theorem sW (T:Txt P w K mg) (Gs:FnOk P w K mg base CX0 k T.D8 T.Ea ["tree","some"] (spA K wA)) (Ep:FnOk P w K mg base CX0 k T.DZ T.D0 ["tree","some","cover","places"] (iu K (hV 8))):FnOk P w K mg base CX0 (k+1) T.GB T.GE ["tree","some"] (iu K qz):=by
 refine T.Ho.ok sc_code_of (λvs H Q E h=>?_) (λcdv A outer s H vs Q E hr h=>?_)
 ·obtain ⟨as,es,hd,⟨ps,t,rfl,_⟩,_⟩:=h;exact hd.length.symm
 have nd:=sc_code_of.nd
 obtain ⟨as,es,hd,⟨ps,t,rfl,F,okt,dpt,szt,rfl⟩,post⟩:=h
 obtain ⟨v0,v1,rfl,h0,h1⟩:=oR hd
 have h0:Dat K H (toD t) v0:=h0
 have h1:LD K H (ps.map pcD) v1:=h1
 refine ⟨_,(aj (eO (aA Gs hr rfl T.Gv T.ED.kp (iM T) .nil aQ (ag (pv 0) (ag (pv 1) af))) (dj rfl (aR (aE (i:=2) nd rfl (Or.inl rfl)) (aR (aE (i:=3) nd rfl (Or.inl rfl)) cj))))
 (av (aG (bx fZ (aA Ep hr rfl T.FR T.EA.kp (fY T) .nil aQ (ag (pv 0) (ag (pv 1) (ag (pv 3) (ag (bA af) af))))) (bA (ag (bz (v:=.int 0) rfl T.Jb ⟨_,rfl⟩) af)))))),?_⟩
 obtain ⟨b,es,hb,hl,ll,l12⟩:=uh F [] (iO okt) dpt
 have e:jC ps t=es++[.int 0]:=by unfold jC;rw [hb];dsimp only;rw [hl];rfl
 rw [e] at post
 refine j4 (K:=K) (d:=.int b.1) (e:=b.2) (cC (R:=wA) (dC (ae (k:=0) h0) (cW (aN (k:=1) h1) bS)) ⟨ps,t,b,rfl,F.ok,iO okt,dpt,by omega,hb,rfl⟩) λv2 v3 H1 s1 q2 q3=>?_
 exact gN (RC.use (K:=K) (gb (eB (cT (R:=hV 8) (dC (ae (k:=0) (s1.dat h0)) (cW (aN (k:=1) (s1.ld h1)) (dC (ae (k:=3) q3) (cW (eB (dW au)) bS)))) ⟨ps,[],t,b.2,rfl,F.ok,⟨F.la,kh t okt⟩,iO okt,dpt,by decide,szt,hl⟩)) (eB (dW (ab ao au))) (by show es.length+1≤1000;omega)) λl ys H2 hl2 s2 hy dy=>post l ys H2 (s1.trans s2) hy (s1.free hl2) dy)
def d6 (pa:List Tr) (t:Tr):List Tr:=wcT pa t::pa.map (wwT pa)
def bOf (ps:List Pc) (r:Tr):Int × D:=(cz ps r).getD (0,.non)
def pA (ls:List Int) (i:Nat):Int:=((ls.take i).map (·+1)).sum
def i8 (ls:List Int):List Int:=(List.range ls.length).map (pA ls)
def kM (n:Nat):List Int:=0::List.replicate n 16
def jO (ps:List Pc) (pl:List Int) (x:Tr × Int):List D:=(dU ps pl 8 x.1 (bOf ps x.1).2).getD []++[.int x.2]
def rJ (ps:List Pc) (pa:List Tr) (t:Tr):List D:=(((d6 pa t).zip (kM pa.length)).map (jO ps (i8 ((d6 pa t).map λr=>(bOf ps r).1)))).flatten
theorem rZ {pa:List Tr} (h:okPs pa) (k1:okT t) (k2:aH t≤8) (k3:az t≤40):∀ r ∈ d6 pa t,okX r/\aH r≤8/\az r≤40/\clN (pa.length+1) r=true:=λr hr=>by
 rcases List.mem_cons.mp hr with rfl | hr
 ·obtain ⟨a,b,c,d⟩:=jc h.few t k1
  exact ⟨a,by omega,by omega,d⟩
 ·obtain ⟨p,hp,rfl⟩:=List.mem_map.mp hr
  obtain ⟨q1,q2,q3⟩:=h.ok p hp
  obtain ⟨a,b,c,d⟩:=C7 h.few p q1
  exact ⟨a,by omega,by omega,d⟩
theorem vT (pa:List Tr) (t:Tr):(d6 pa t).length=pa.length+1:=by unfold d6;rw [List.length_cons,List.length_map]
theorem xf (n:Nat):(kM n).length=n+1:=by unfold kM;rw [List.length_cons,List.length_replicate]
theorem zY {ls:List Int} {x:Int} (h:ls[i]?=some x):pA ls (i+1)=pA ls i+(x+1):=by
 unfold pA
 rw [List.take_add_one,h,List.map_append,List.sum_append]
 simp
theorem o9 (F:gdS ps) (pl:List Int) (h:okX t) (d:aH t≤8):∃ es,cz ps t=some (bOf ps t)/\dU ps pl 8 t (bOf ps t).2=some es/\(es.length:Int)=(bOf ps t).1/\es.length≤12 * az t:=by
 obtain ⟨b,es,h1,h2,h3,h4⟩:=uh F pl h d
 have e:bOf ps t=b:=by unfold bOf;rw [h1];rfl
 rw [e]
 exact ⟨es,h1,h2,h3,h4⟩
theorem Ai {ta tb:TE} (h1:RC K ta σ H ds) (h2:RE K tb σ H (.int n)) (hn:ds.length * n≤1000) (hb:n≤1000):RC K (tOp CU ta tb) σ H (List.replicate n ds).flatten:=λH1 s Q q =>
 h1 H1 s _ λl xs H2 hl s2 hx dx=>h2 H2 (s.trans s2) _ λw H3 s3 q3=>by
  have ew:=q3.intE
  subst ew
  refine ⟨l,n,xs,rfl,rfl,s3 _ _ hx,by omega,by omega,bZ (by rw [← dx.length,Int.toNat_natCast];exact hn),λp hp=>?_⟩
  rw [Int.toNat_natCast]
  refine q p _ _ ((s2.trans s3).free hp) (s2.trans (s3.trans (aC hp _))) aq ?_
  have dx:=(s3.trans (aC hp (.lst (List.replicate n xs).flatten))).dats dx
  have:∀ m,Dats K (upd H3 p (.lst (List.replicate n xs).flatten)) (List.replicate m ds).flatten (List.replicate m xs).flatten:=λm=>by
   induction m with
   | zero=>exact Dats.nil
   | succ m ih=>rw [List.replicate_succ,List.replicate_succ,List.flatten_cons,List.flatten_cons];exact Dats.append dx ih
  exact this n
theorem Au {l:Addr} (h:RE K te σ G d) (hl:G l=some (.lst xs)) (hx:xs.length≤1000)
  (q:∀ y G',But l G G'->G' l=some (.lst (xs++[y]))->Dat K G' d y->En.nx σ G') (hv:σ[j]?=some (some (.ref l)):=by rfl):mY (tBM K "list" lI (iS j) (bP te d8)) En σ G:=by
 refine ⟨_,hv,.inl ⟨rfl,_,SqL.of hl⟩,h.use λy H1 s1 q1=>?_⟩
 have hl1:=s1 _ _ hl
 refine ⟨l,xs,y,rfl,rfl,hl1,ck hx,?_⟩
 have b:But l H1 (upd H1 l (.lst (xs++[y]))):=But.upd (Same.refl _).but
 exact q y _ (s1.but.trans b) aq (Dat.mono (b.grow hl1 aq) _ q1)
def qA (as:List Ar) (es:List D):Prop:=∃ (ps:List Pc) (pa:List Tr) (t:Tr),as=[.d (toD t),.l (ps.map pcD),.l (pa.map toD)]/\gdS ps/\okT t/\aH t≤8/\az t≤40/\okPs pa/\es=rJ ps pa t/\es.length≤1000
theorem pL (T:Txt P w K mg) (Hv:FnOk P w K mg base CX0 k T.Et T.Ex ["tree","parts"] (spA K (Rwc 8))) (E6:FnOk P w K mg base CX0 k T.DP T.DQ ["tree","parts"] (spA K (Rww 7))) (Gs:FnOk P w K mg base CX0 k T.D8 T.Ea ["tree","some"] (spA K wA)) (Ep:FnOk P w K mg base CX0 k T.DZ T.D0 ["tree","some","cover","places"] (iu K (hV 8))):FnOk P w K mg base CX0 (k+1) T.Fn T.Fp ["tree","some","parts"] (iu K qA):=by
 refine T.Gi.ok sc_code_once (λvs H Q E h=>?_) (λcdv A outer s H vs Q E hr h=>?_)
 ·obtain ⟨as,es,hd,⟨ps,pa,t,rfl,_⟩,_⟩:=h;exact hd.length.symm
 have nd:=sc_code_once.nd
 obtain ⟨as,es,hd,⟨ps,pa,t,rfl,F,okt,dpt,szt,okp,rfl,len⟩,post⟩:=h
 obtain ⟨v0,v1,v2,rfl,h0,h1,h2⟩:=yZ hd
 have h0:Dat K H (toD t) v0:=h0
 have h1:LD K H (ps.map pcD) v1:=h1
 have h2:LD K H (pa.map toD) v2:=h2
 have few:=okp.few
 have rok:=rZ okp okt dpt szt
 refine ⟨_,(aj (bg (i:=3) nd rfl (Or.inl rfl) (bx fZ (bA (ag (aA Hv hr rfl T.HC T.FP.kp (jL T) .nil aQ (ag (pv 0) (ag (pv 2) af))) af)) (cE (own:=["part"]) (fr:=[2]) (N':=["part","parts"]) (cP (pv 2)) rfl (by show bR ["tree","some","parts","roots","closings","bests","places","place","length","cover","code","root","closing"] (λx=>(ay eU).names.lookup x) _ _ _ _=true;decide +kernel) rfl (λ_ _ _ _ _=>(aE (i:=0) (by show List.Nodup [("part":Str),("parts":Str)];decide +kernel) rfl (Or.inl rfl))) (λ_ _ _ _ _=>bE) (λ_ _ _ _ _=>(aA E6 hr rfl T.E7 T.DX.kp (fU T) .nil aQ (ag (pv 0) (ag (pv 1) af)))))))
 (aj (bg (i:=4) nd rfl (Or.inl rfl) (bx fZ (bA (ag (bz (v:=.int 0) rfl T.Jb ⟨_,rfl⟩) af)) (bx BM (bA (ag (bz (v:=.int 16) rfl T.ID ⟨_,rfl⟩) af)) (aK aM rfl T.DW bF (ag (pv 2) af)))))
 (aj (fA (i:=5) (own:=["root"]) (fr:=[1]) (N':=["root","some"]) (cP (pv 3)) rfl (by show bR ["tree","some","parts","roots","closings","bests","places","place","length","cover","code","root","closing"] (λx=>(ay eU).names.lookup x) _ _ _ _=true;decide +kernel) rfl (λ_ _ _ _ _=>(aE (i:=0) (by show List.Nodup [("root":Str),("some":Str)];decide +kernel) rfl (Or.inl rfl))) (λ_ _ _ _ _=>bE) (λ_ _ _ _ _=>(aA Gs hr rfl T.Gv T.ED.kp (iM T) .nil aQ (ag (pv 0) (ag (pv 1) af)))) nd rfl rfl rfl)
 (aj (bg (i:=6) nd rfl (Or.inl rfl) (bA af))
 (aj (bg (i:=7) nd rfl (Or.inl rfl) ak)
 (aj (hE PassesOwn.never rfl (cP (pv 5)) (dj rfl (aR (aE (i:=8) nd rfl (Or.inl rfl)) (aR (aE (i:=9) nd rfl (Or.inl rfl)) cj))) (aj (bC (de PySem.F.plainAttrs_list PySem.F.slot_list_append PySem.F.type_list_append cg (pv 6) (ag (pv 7) af)))
 (av (tD (i:=7) nd rfl (Or.inl rfl) (bx fe (pv 8) ak) pq))))
 (aj (bg (i:=10) nd rfl (Or.inl rfl) (bA af))
 (aj (hE PassesOwn.never rfl (Ab rfl T.JQ (ag (pv 3) (ag (pv 5) (ag (pv 4) af)))) (dj rfl (aR (aE (i:=11) nd rfl (Or.inl rfl)) (aR (dj rfl (aR (aE (i:=8) nd rfl (Or.inl rfl)) (aR (aE (i:=9) nd rfl (Or.inl rfl)) cj))) (aR (aE (i:=12) nd rfl (Or.inl rfl)) cj)))) (aj (bC (de PySem.F.plainAttrs_list PySem.F.slot_list_extend PySem.F.type_list_extend dI (pv 10) (ag (aA Ep hr rfl T.FR T.EA.kp (fY T) .nil aQ (ag (pv 11) (ag (pv 1) (ag (pv 9) (ag (pv 6) af))))) af)))
 (av (bC (de PySem.F.plainAttrs_list PySem.F.slot_list_append PySem.F.type_list_append cg (pv 10) (ag (pv 12) af))))))
 (av (aG (pv 10))))))))))),?_⟩
 refine dJ (K:=K) (gb (eB (dW (ab (cC (R:=Rwc 8) (dC (ae (k:=0) h0) (cW (aN (k:=2) h2) bS)) ⟨t,pa,rfl,okt,dpt,by omega,okp,rfl⟩) au))) (eB (fh (aN (k:=2) h2) (by rw [List.length_map];omega) (pa.map λp=>toD (wwT pa p)) (by rw [List.length_map,List.length_map]) rfl (λG j c v d s hc hd hv=>?_))) (by rw [List.length_map];show 1+_≤1000;omega)) λlr rv H1 hlr s1 hrv drv=>?_
 ·rw [List.getElem?_map] at hc hd
  cases hx:pa[j]? with
  | none=>rw [hx] at hc;cases hc
  | some p =>
   rw [hx] at hc hd
   cases hc
   cases hd
   obtain ⟨k1,k2,k3⟩:=okp.ok p (List.mem_of_getElem? hx)
   exact cC (R:=Rww 7) (dC (ae (k:=0) hv) (cW (aN (k:=1) (s.ld h2)) bS)) ⟨p,pa,rfl,k1,by omega,by omega,okp,rfl⟩
 have drv:Dats K H1 ((d6 pa t).map toD) rv:=by
  have e:(d6 pa t).map toD=[toD (wcT pa t)]++pa.map λp=>toD (wwT pa p):=by unfold d6;rw [List.map_cons,List.map_map];rfl
  rw [e];exact drv
 refine dJ (K:=K) (gb (eB (dW (ab ao au))) (eB (Ai (n:=pa.length) (dW (ab ao au)) (RE.as (fD (aN (k:=2) (s1.ld h2))) (by rw [List.length_map])) (by show 1 * _≤1000;omega) (by omega))) (by rw [ur];show 1+_ * 1≤1000;omega)) λlc cv H2 hlc s2 hcv dcv=>?_
 have dcv:Dats K H2 ((kM pa.length).map D.int) cv:=by
  have e:(kM pa.length).map D.int=[D.int 0]++(List.replicate pa.length [D.int 16]).flatten:=by
   unfold kM;rw [List.map_cons,List.map_replicate,List.flatten_replicate_singleton];rfl
  rw [e];exact dcv
 have lroots:=vT pa t
 have lclos:=xf pa.length
 have s12:=s1.trans s2
 refine dJ (K:=K) (fh (aN (k:=3) (s2.ld (LD.of hrv drv))) (by rw [List.length_map];omega) ((d6 pa t).map λr=>.tup [.int (bOf ps r).1,(bOf ps r).2]) (by rw [List.length_map,List.length_map]) rfl (λG j c v d s hc hd hv=>?_)) λlb bv H3 hlb s3 hbv dbv=>?_
 ·rw [List.getElem?_map] at hc hd
  cases hx:(d6 pa t)[j]? with
  | none=>rw [hx] at hc;cases hc
  | some r =>
   rw [hx] at hc hd
   cases hc
   cases hd
   obtain ⟨k1,k2,k3,k4⟩:=rok r (List.mem_of_getElem? hx)
   obtain ⟨_,hb,_,_,_⟩:=o9 F [] k1 k2
   exact cC (R:=wA) (dC (ae (k:=0) hv) (cW (aN (k:=1) ((s12.trans s).ld h1)) bS)) ⟨ps,r,_,rfl,F.ok,k1,k2,by omega,hb,rfl⟩
 have s13:=s12.trans s3
 refine cU ⟨bZ (by decide),λlp hlp=>?_⟩
 have s4:Same H3 (upd H3 lp (.lst [])):=aC hlp _
 refine cU (oG ?_)
 generalize hls:(d6 pa t).map (λr=>(bOf ps r).1)=ls
 have lls:ls.length=pa.length+1:=by rw [← hls,List.length_map];exact lroots
 have lbv:=dbv.length
 rw [List.length_map] at lbv
 generalize hG4:upd H3 lp (.lst [])=G4 at s4
 have hp4:G4 lp=some (.lst []):=by rw [← hG4];exact aq
 refine cV ⟨_,rfl,lb,rfl,⟨bv,SqL.of (s4 _ _ hbv)⟩,jR (K:=K) (xs:=bv) (λi σ G=>∃ (z8 z9:Option V) (ys:List V),σ=[some v0,some v1,some v2,some (.ref lr),some (.ref lc),some (.ref lb),some (.ref lp),some (.int (pA ls i)),z8,z9,none,none,none]/\Same H3 G/\G lp=some (.lst ys)/\Dats K G ((List.range i).map λi=>D.int (pA ls i)) ys) ?_ (λi σ G _ ⟨_,_,_,_,p1,_⟩=>SqL.of (p1 _ _ hbv)) ?_ ?_⟩
 ·exact ⟨none,none,[],rfl,s4,hp4,Dats.nil⟩
 ·rintro i x σ G hx ⟨z8,z9,ys,rfl,sG,hpG,dy⟩
  obtain ⟨d,ed,hd⟩:=(sG.dats dbv).getV hx
  rw [List.getElem?_map] at ed
  cases hr:(d6 pa t)[i]? with
  | none=>rw [hr] at ed;cases ed
  | some r =>
   rw [hr] at ed
   cases ed
   obtain ⟨pp,us,rfl,hpp,dus⟩:=hd.tupE
   obtain ⟨u,c,rfl,hu,hc⟩:=fu dus
   have eu:=hu.intE
   subst eu
   refine ⟨pp,_,rfl,hpp,rfl,_,_,rfl,_,_,rfl,rfl,?_⟩
   dsimp only
   have il:i < pa.length+1:=by rw [← lroots];exact (List.getElem?_eq_some_iff.mp hr).1
   have ly:=dy.length
   rw [List.length_map,List.length_range] at ly
   refine gd (K:=K) (ae (k:=7) (Dat.intI _)) hpG (by omega) λy G2 b2 hp2 dy2=>?_
   have g2:cO K G G2:=b2.grow hpG hp2
   have eli:ls[i]?=some (bOf ps r).1:=by rw [← hls,List.getElem?_map,hr];rfl
   refine ⟨_,rfl,RE.use (K:=K) (fS (ae (k:=8) (Dat.intI _)) ao) λv7 G3 s3' q7=>⟨_,_,rfl,q7.intE,?_⟩⟩
   refine ⟨some (.int (bOf ps r).1),some c,ys++[y],by rw [zY eli];rfl,λa o ha=>s3' _ _ (b2 a o (aB ha hlp) (sG _ _ ha)),s3' _ _ hp2,?_⟩
   rw [List.range_succ,List.map_append]
   exact s3'.dats (Dats.append (Dats.mono g2 _ dy) (Dats.cons dy2 Dats.nil))
 ·rintro σ G ⟨z8,z9,ys,rfl,sG,hpG,dy⟩
  dsimp only
  have ebl:bv.length=ls.length:=by omega
  rw [ebl] at dy
  have dy:Dats K G ((i8 ls).map D.int) ys:=by unfold i8;rw [List.map_map];exact dy
  have lpl:(i8 ls).length=pa.length+1:=by unfold i8;rw [List.length_map,List.length_range];exact lls
  refine cU ⟨bZ (by decide),λlk hlk=>?_⟩
  have s5:Same G (upd G lk (.lst [])):=aC hlk _
  generalize hG5:upd G lk (.lst [])=G5 at s5
  have hk5:G5 lk=some (.lst []):=by rw [← hG5];exact aq
  have lrv:=drv.length
  have lcv:=dcv.length
  rw [List.length_map] at lrv lcv
  have s35:=sG.trans s5
  have s25:=s3.trans s35
  have s15:=s2.trans s25
  unfold rJ at post len
  rw [hls] at post len
  generalize hzs:(d6 pa t).zip (kM pa.length)=zp at post len
  have ezp:∀ i,i≤zp.length->((zp.take i).map (jO ps (i8 ls))).flatten.length≤((zp.map (jO ps (i8 ls))).flatten).length:=λi _=>by
   have e:zp.map (jO ps (i8 ls))=(zp.take i).map (jO ps (i8 ls))++(zp.drop i).map (jO ps (i8 ls)):=by rw [← List.map_append,List.take_append_drop]
   rw [e,List.flatten_append,List.length_append]
   omega
  have lzp:zp.length=pa.length+1:=by rw [← hzs,List.length_zip,lroots,lclos];omega
  refine cV ⟨_,rfl,_,rfl,_,rfl,lr,lb,lc,rv,bv,cv,rfl,SqL.of (s15 _ _ hrv),SqL.of (s35 _ _ hbv),SqL.of (s25 _ _ hcv),xw (K:=K) (xs:=rv) (ys:=bv) (zs:=cv) (λi σ F=>∃ (z8 z9 z11 z12:Option V) (ks:List V),σ=[some v0,some v1,some v2,some (.ref lr),some (.ref lc),some (.ref lb),some (.ref lp),some (.int (pA ls bv.length)),z8,z9,some (.ref lk),z11,z12]/\Same G F/\F lk=some (.lst ks)/\Dats K F (((zp.take i).map (jO ps (i8 ls))).flatten) ks) (by omega) (by omega) ?_ (λi σ F _ ⟨_,_,_,_,_,_,p1,_⟩=>⟨SqL.of ((s2.trans (s3.trans (sG.trans p1))) _ _ hrv),SqL.of ((sG.trans p1) _ _ hbv),SqL.of ((s3.trans (sG.trans p1)) _ _ hcv)⟩) ?_ ?_⟩
  ·exact ⟨z8,z9,none,none,[],rfl,s5,hk5,by rw [List.take_zero];exact Dats.nil⟩
  ·rintro i u w c pp σ F2 hu hw hc hpp ⟨z8,z9,z11,z12,ks,rfl,sF,hkF,dk⟩
   have sn:Same F2 (upd F2 pp (.tup [u,w,c])):=aC hpp _
   have sGn:=sF.trans sn
   have s3n:=sG.trans sGn
   have s2n:=s3.trans s3n
   have s1n:=s2.trans s2n
   obtain ⟨du,edu,hdu⟩:=(s1n.dats drv).getV hu
   obtain ⟨dw,edw,hdw⟩:=(s3n.dats dbv).getV hw
   obtain ⟨dc,edc,hdc⟩:=(s2n.dats dcv).getV hc
   rw [List.getElem?_map] at edu edw edc
   cases hr:(d6 pa t)[i]? with
   | none=>rw [hr] at edu;cases edu
   | some r =>
   cases hci:(kM pa.length)[i]? with
   | none=>rw [hci] at edc;cases edc
   | some ci =>
    rw [hr] at edu edw
    rw [hci] at edc
    cases edu
    cases edw
    cases edc
    obtain ⟨qq,us,rfl,hqq,dus⟩:=hdw.tupE
    obtain ⟨u1,c1,rfl,hu1,hc1⟩:=fu dus
    obtain ⟨k1,k2,k3,k4⟩:=rok r (List.mem_of_getElem? hr)
    obtain ⟨es,hb,hlay,hle,l12⟩:=o9 F (i8 ls) k1 k2
    have hz:zp[i]?=some (r,ci):=by rw [← hzs,List.getElem?_zip_eq_some];exact ⟨hr,hci⟩
    have eb:jO ps (i8 ls) (r,ci)=es++[.int ci]:=by unfold jO;dsimp only;rw [hlay];rfl
    have et:((zp.take (i+1)).map (jO ps (i8 ls))).flatten=((zp.take i).map (jO ps (i8 ls))).flatten++(es++[.int ci]):=by
     rw [List.take_add_one,hz,List.map_append,List.flatten_append]
     simp only [Option.toList_some,List.map_cons,List.map_nil,List.flatten_cons,List.flatten_nil,List.append_nil,eb]
    have lt:=ezp (i+1) (List.getElem?_eq_some_iff.mp hz).1
    rw [et,List.length_append,List.length_append] at lt
    have lk1:=dk.length
    have l1:([D.int ci]:List D).length=1:=rfl
    have lks:ks.length+es.length+1≤1000:=by omega
    refine ⟨pp,_,rfl,SqT.of aq,rfl,_,_,rfl,_,_,rfl,qq,_,rfl,hqq,rfl,_,_,rfl,_,_,rfl,rfl,_,_,rfl,rfl,?_⟩
    dsimp only
    refine cV (uG (K:=K) (cT (R:=hV 8) (dC (ae (k:=11) hdu) (cW (aN (k:=1) ((s1.trans s1n).ld h1)) (dC (ae (k:=9) hc1) (cW (aN (k:=6) (LD.of (sGn _ _ hpG) (sGn.dats dy))) bS)))) ⟨ps,i8 ls,r,_,rfl,F.ok,⟨F.la,by rw [lpl];exact k4⟩,k1,k2,by decide,k3,hlay⟩) (sn _ _ hkF) (by omega) λys2 G2 b2 hc2 dy2=>?_)
    have g2:cO K (upd F2 pp (.tup [u,.ref qq,c])) G2:=b2.grow (sn _ _ hkF) hc2
    have ly2:=dy2.length
    refine Au (K:=K) (ae (k:=12) (Dat.mono g2 _ hdc)) hc2 (by rw [List.length_append];omega) λy3 G3 b3 hc3 dy3=>?_
    have g3:cO K G2 G3:=b3.grow hc2 hc3
    refine ⟨_,_,_,_,ks++ys2++[y3],rfl,λa o ha=>b3 a o (aB ha hlk) (b2 a o (aB ha hlk) (sGn _ _ ha)),hc3,?_⟩
    rw [et,← List.append_assoc]
    exact Dats.append (Dats.mono g3 _ (Dats.append (Dats.mono g2 _ (sn.dats dk)) dy2)) (Dats.cons dy3 Dats.nil)
  ·rintro σ F2 ⟨z8,z9,z11,z12,ks,rfl,sF,hkF,dk⟩
   dsimp only
   rw [List.take_of_length_le (by omega)] at dk
   exact ⟨_,rfl,post lk ks F2 (s13.trans (sG.trans sF)) hkF ((s13.trans sG).free hlk) dk⟩
theorem ig:∀ (t x:Tr),okT t->x ∈ ax t->okT x
 | .num n,x,k,h=>by
  have e:x=.num n:=by simpa [ax] using h
  subst e;exact k
 | .arg n,x,k,h=>by
  have e:x=.arg n:=by simpa [ax] using h
  subst e;exact k
 | .call n,x,k,h=>k.elim
 | .two o a b,x,k,h=>by
  simp only [ax,List.mem_cons,List.mem_append] at h
  rcases h with rfl | h | h
  ·exact k
  ·exact ig a x k.2.1 h
  ·exact ig b x k.2.2 h
 | .pick a b c,x,k,h=>by
  simp only [ax,List.mem_cons,List.mem_append] at h
  rcases h with rfl | (h | h) | h
  ·exact k
  ·exact ig a x k.1 h
  ·exact ig b x k.2.1 h
  ·exact ig c x k.2.2 h
theorem rB {p:Tr} (k1:okT t) (k2:aH t≤8) (k3:az t≤40) (h:p ∈ ax t):okPs [p]:=⟨λx hx=>by
 have e:=List.mem_singleton.mp hx
 subst e
 have:=cA t x h
 exact ⟨ig t x k1 h,by omega,by omega⟩,by simp⟩
theorem ux (F:gdS ps) {p:Tr} (k1:okT t) (k2:aH t≤8) (k3:az t≤40) (h:okPs [p]):(rJ ps [p] t).length≤1000:=by
 have rok:=rZ h k1 k2 k3
 unfold rJ
 generalize i8 _=pl
 obtain ⟨a1,a2,a3,_⟩:=rok (wcT [p] t) (by simp [d6])
 obtain ⟨b1,b2,b3,_⟩:=rok (wwT [p] p) (by simp [d6])
 obtain ⟨e1,_,f1,_,g1⟩:=o9 F pl a1 a2
 obtain ⟨e2,_,f2,_,g2⟩:=o9 F pl b1 b2
 show (jO ps pl (wcT [p] t,0)++(jO ps pl (wwT [p] p,16)++[])).length≤1000
 unfold jO
 dsimp only
 rw [f1,f2]
 simp only [Option.getD_some,List.length_append,List.length_cons,List.length_nil]
 omega
def cK (ps:List Pc) (t p:Tr):Int:=((jC ps t).length:Int) - ((rJ ps [p] t).length:Int)
def wC (as:List Ar) (d:D):Prop:=∃ (ps:List Pc) (t p:Tr),as=[.d (toD t),.l (ps.map pcD),.d (toD p)]/\gdS ps/\okT t/\aH t≤8/\az t≤40/\p ∈ ax t/\d=.int (cK ps t p)
def yY (ds:List D) (d:D):Prop:=∃ x,ds=[x]/\fB x=true/\d=.non
def kU (g:Tr->Int) (s:Option Tr × Int) (p:Tr):Option Tr × Int:=if s.2 < g p then (some p,g p) else s
def gu (g:Tr->Int) (l:List Tr):Option Tr × Int:=l.foldl (kU g) (none,0)
def oT:Option Tr->D
 | none=>.non
 | some p=>toD p
theorem md (g:Tr->Int) (l:List Tr) (p:Tr):gu g (l++[p])=kU g (gu g l) p:=by unfold gu;rw [List.foldl_append];rfl
def BG (g:Tr->Int) (l:List Tr):Prop:=((gu g l).1=none/\(gu g l).2=0/\∀ p ∈ l,g p≤0)\/(∃ (j:Nat) (p:Tr),l[j]?=some p/\(gu g l).1=some p/\(gu g l).2=g p/\0 < g p/\(∀ q ∈ l,g q≤g p)/\∀ (m:Nat) (q:Tr),m < j->l[m]?=some q->g q < g p)
theorem wL (g:Tr->Int):∀ (n:Nat) (l:List Tr),l.length=n->BG g l:=by
 intro n
 induction n with
 | zero =>
  intro l hl
  rw [List.length_eq_zero_iff.mp hl]
  exact .inl ⟨rfl,rfl,λp hp=>(nomatch hp)⟩
 | succ n ih =>
  intro l hl
  have hne:l≠[]:=λz=>by rw [z] at hl;cases hl
  rw [← List.dropLast_concat_getLast hne]
  generalize hx:l.getLast hne=x
  have hl':l.dropLast.length=n:=by rw [List.length_dropLast];omega
  generalize l.dropLast=l' at hl'
  unfold BG
  rw [md]
  unfold kU
  rcases ih l' hl' with ⟨e1,e2,e3⟩ | ⟨j,p,h1,h2,h3,h4,h5,h6⟩
  ·rw [e2]
   by_cases c:0 < g x
   ·rw [if_pos c]
    refine .inr ⟨l'.length,x,by simp,rfl,rfl,c,λq hq=>?_,λm q hm hq=>?_⟩
    ·rcases List.mem_append.mp hq with hq | hq
     ·have:=e3 q hq;omega
     ·rw [List.mem_singleton.mp hq];exact Int.le_refl _
    ·rw [List.getElem?_append_left hm] at hq
     have:=e3 q (List.mem_of_getElem? hq)
     omega
   ·rw [if_neg c]
    refine .inl ⟨e1,e2,λq hq=>?_⟩
    rcases List.mem_append.mp hq with hq | hq
    ·exact e3 q hq
    ·rw [List.mem_singleton.mp hq];omega
  ·rw [h3]
   by_cases c:g p < g x
   ·rw [if_pos c]
    refine .inr ⟨l'.length,x,by simp,rfl,rfl,by omega,λq hq=>?_,λm q hm hq=>?_⟩
    ·rcases List.mem_append.mp hq with hq | hq
     ·have:=h5 q hq;omega
     ·rw [List.mem_singleton.mp hq];exact Int.le_refl _
    ·rw [List.getElem?_append_left hm] at hq
     have:=h5 q (List.mem_of_getElem? hq)
     omega
   ·rw [if_neg c]
    have hj:j < l'.length:=(List.getElem?_eq_some_iff.mp h1).1
    refine .inr ⟨j,p,by rw [List.getElem?_append_left hj];exact h1,h2,h3,h4,λq hq=>?_,λm q hm hq=>?_⟩
    ·rcases List.mem_append.mp hq with hq | hq
     ·exact h5 q hq
     ·rw [List.mem_singleton.mp hq];omega
    ·rw [List.getElem?_append_left (by omega)] at hq
     exact h6 m q hm hq
def sy (as:List Ar) (d:D):Prop:=∃ (ps:List Pc) (t:Tr),as=[.d (toD t),.l (ps.map pcD)]/\gdS ps/\okT t/\aH t≤8/\az t≤40/\d=oT (gu (cK ps t) (ax t)).1
theorem zT (T:Txt P w K mg) (HG:FnOk P w K mg base CX0 k T.Fo T.Fq ["tree"] (spD K yY)) (Ii:FnOk P w K mg base CX0 k T.FW T.FZ ["some"] (spA K lR)) (Js:FnOk P w K mg base CX0 k T.FB T.FI ["parts","tree"] (spA K sC)) (Iz:FnOk P w K mg base CX0 k T.GB T.GE ["tree","some"] (iu K qz)) (HF:FnOk P w K mg base CX0 k T.Fn T.Fp ["tree","some","parts"] (iu K qA)):FnOk P w K mg base CX0 (k+1) T.IX T.Ja ["tree","some","part"] (spA K wC):=by
 refine T.Jv.ok sc_gain (λvs H Q E h=>?_) (λcdv A outer s H vs Q E hr h=>?_)
 ·obtain ⟨as,d,hd,⟨ps,t,p,rfl,_⟩,_⟩:=h;exact hd.length.symm
 have nd:=sc_gain.nd
 obtain ⟨as,d,hd,⟨ps,t,p,rfl,F,okt,dpt,szt,hp,rfl⟩,post⟩:=h
 obtain ⟨v0,v1,v2,rfl,h0,h1,h2⟩:=yZ hd
 have h0:Dat K H (toD t) v0:=h0
 have h1:LD K H (ps.map pcD) v1:=h1
 have h2:Dat K H (toD p) v2:=h2
 have okp:=rB okt dpt szt hp
 refine ⟨_,(aj (bC (aA HG hr rfl T.HP T.Gk.kp (kJ T) .nil aQ (ag (pv 0) af)))
 (aj (bC (aA Ii hr rfl T.Il T.GT.kp (lZ T) .nil aQ (ag (pv 1) af)))
 (aj (bC (aA Js hr rfl T.Iy T.GA.kp (oW T) .nil aQ (ag (bA (ag (pv 2) af)) (ag (pv 0) af))))
 (av (aG (bx pU (aK aM rfl T.DW bF (ag (aA Iz hr rfl T.IF T.Ho.kp (nI T) .nil aQ (ag (pv 0) (ag (pv 1) af))) af)) (aK aM rfl T.DW bF (ag (aA HF hr rfl T.HM T.Gi.kp (kH T) .nil aQ (ag (pv 0) (ag (pv 1) (ag (bA (ag (pv 2) af)) af)))) af)))))))),?_⟩
 refine mU (RE.use (ba (R:=yY) (d:=.non) (ab (ae (K:=K) (k:=0) h0) au) ⟨toD t,rfl,qw okt dpt szt,rfl⟩) λv4 H1 s1 _=>?_)
 refine mU (RE.use (cC (R:=lR) (d:=.non) (cW (aN (K:=K) (k:=1) (s1.ld h1)) bS) ⟨ps,rfl,F.gs,rfl⟩) λv5 H2 s2 _=>?_)
 have s12:=s1.trans s2
 refine mU (RE.use (cC (R:=sC) (d:=.non) (cW (eB (dW (ab (ae (K:=K) (k:=2) (s12.dat h2)) au))) (dC (ae (k:=0) (s12.dat h0)) bS)) ⟨t,[p],rfl,okt,dpt,szt,okp,λx hx=>by rw [List.mem_singleton.mp hx];exact hp,by simp,rfl⟩) λv6 H3 s3 _=>?_)
 have s13:=s12.trans s3
 exact aX (K:=K) (d:=.int (cK ps t p)) (tL (fD (eB (cT (R:=qz) (dC (ae (k:=0) (s13.dat h0)) (cW (aN (k:=1) (s13.ld h1)) bS)) ⟨ps,t,rfl,F,okt,dpt,szt,rfl⟩))) (fD (eB (cT (R:=qA) (dC (ae (k:=0) (s13.dat h0)) (cW (aN (k:=1) (s13.ld h1)) (cW (eB (dW (ab (ae (k:=2) (s13.dat h2)) au))) bS))) ⟨ps,[p],t,rfl,F,okt,dpt,szt,okp,rfl,ux F okt dpt szt okp⟩)))) λv H' s q=>post v H' (s13.trans s) q
theorem pK (T:Txt P w K mg) (HG:FnOk P w K mg base CX0 k T.Fo T.Fq ["tree"] (spD K yY)) (Ii:FnOk P w K mg base CX0 k T.FW T.FZ ["some"] (spA K lR)) (GJ:FnOk P w K mg base CX0 k T.FC T.FJ ["tree"] (gE K (eI 8))) (Iz:FnOk P w K mg base CX0 k T.GB T.GE ["tree","some"] (iu K qz)) (HF:FnOk P w K mg base CX0 k T.Fn T.Fp ["tree","some","parts"] (iu K qA)):FnOk P w K mg base CX0 (k+1) T.F9 T.Ge ["tree","some"] (spA K sy):=by
 refine T.Hb.ok sc_best_part (λvs H Q E h=>?_) (λcdv A outer s H vs Q E hr h=>?_)
 ·obtain ⟨as,d,hd,⟨ps,t,rfl,_⟩,_⟩:=h;exact hd.length.symm
 have nd:=sc_best_part.nd
 obtain ⟨as,d,hd,⟨ps,t,rfl,F,okt,dpt,szt,rfl⟩,post⟩:=h
 obtain ⟨v0,v1,rfl,h0,h1⟩:=oR hd
 have h0:Dat K H (toD t) v0:=h0
 have h1:LD K H (ps.map pcD) v1:=h1
 refine ⟨_,(aj (bC (aA HG hr rfl T.HP T.Gk.kp (kJ T) .nil aQ (ag (pv 0) af)))
 (aj (bC (aA Ii hr rfl T.Il T.GT.kp (lZ T) .nil aQ (ag (pv 1) af)))
 (aj (bg (i:=2) nd rfl (Or.inl rfl) (aK aM rfl T.DW bF (ag (aA Iz hr rfl T.IF T.Ho.kp (nI T) .nil aQ (ag (pv 0) (ag (pv 1) af))) af)))
 (aj (bg (i:=3) nd rfl (Or.inl rfl) i7)
 (aj (bg (i:=4) nd rfl (Or.inl rfl) ak)
 (aj (hE PassesOwn.never rfl (cP (aA GJ hr rfl T.HQ T.GU.kp (jK T) .nil aQ (ag (pv 0) af))) (aE (i:=5) nd rfl (Or.inl rfl)) (aj (uB (av (bg (i:=6) nd rfl (Or.inl rfl) (bx pU (pv 2) (aK aM rfl T.DW bF (ag (aA HF hr rfl T.HM T.Gi.kp (kH T) .nil aQ (ag (pv 0) (ag (pv 1) (ag (bA (ag (pv 5) af)) af)))) af))))))
 (av (bu (aU mJ (pv 6) (pv 4) (aY _)) (av (tE (i:=3) (j:=4) rfl nd rfl rfl (by decide) rfl rfl (ag (pv 5) (ag (pv 6) af)) (by kernel_rfl))) aP))))
 (av (aG (pv 3))))))))),?_⟩
 refine mU (RE.use (ba (R:=yY) (d:=.non) (ab (ae (K:=K) (k:=0) h0) au) ⟨toD t,rfl,qw okt dpt szt,rfl⟩) λv4 H1 s1 _=>?_)
 refine mU (RE.use (cC (R:=lR) (d:=.non) (cW (aN (K:=K) (k:=1) (s1.ld h1)) bS) ⟨ps,rfl,F.gs,rfl⟩) λv5 H2 s2 _=>?_)
 have s12:=s1.trans s2
 refine cQ (K:=K) (d:=.int (jC ps t).length) (fD (eB (cT (R:=qz) (dC (ae (k:=0) (s12.dat h0)) (cW (aN (k:=1) (s12.ld h1)) bS)) ⟨ps,t,rfl,F,okt,dpt,szt,rfl⟩))) λv2 H3 s3 q2=>?_
 have e2:=q2.intE
 subst e2
 have s13:=s12.trans s3
 refine cU (oG ?_)
 refine cU (oG ?_)
 refine cV (RC.use (K:=K) (gM (R:=eI 8) (ab (ae (k:=0) (s13.dat h0)) au) ⟨t,rfl,iO okt,dpt,by omega,rfl⟩) λlw xs H4 hlw s4 hxs dxs=>?_)
 have s14:=s13.trans s4
 refine ⟨lw,rfl,⟨xs,SqL.of hxs⟩,jR (K:=K) (xs:=xs) (λi σ G=>∃ (z5 z6:Option V) (vb:V),σ=[some v0,some v1,some (.int (jC ps t).length),some vb,some (.int (gu (cK ps t) ((ax t).take i)).2),z5,z6]/\Same H4 G/\Dat K G (oT (gu (cK ps t) ((ax t).take i)).1) vb) ?_ (λi σ G _ ⟨_,_,_,_,p1,_⟩=>SqL.of (p1 _ _ hxs)) ?_ ?_⟩
 ·exact ⟨none,none,.non,rfl,Same.refl _,Dat.nonI⟩
 ·rintro i x σ G hx ⟨z5,z6,vb,rfl,sG,db⟩
  obtain ⟨d,ed,hd⟩:=(sG.dats dxs).getV hx
  rw [List.getElem?_map] at ed
  cases hr:(ax t)[i]? with
  | none=>rw [hr] at ed;cases ed
  | some p =>
   rw [hr] at ed
   cases ed
   have hp:=List.mem_of_getElem? hr
   have okp:=rB okt dpt szt hp
   have eb:gu (cK ps t) ((ax t).take (i+1))=kU (cK ps t) (gu (cK ps t) ((ax t).take i)) p:=by
    rw [List.take_add_one,hr]
    exact md _ _ _
   refine j0 ?_
   dsimp only
   have s4G:=s14.trans sG
   refine cQ (K:=K) (d:=.int (cK ps t p)) (tL (ae (k:=2) (Dat.intI _)) (fD (eB (cT (R:=qA) (dC (ae (k:=0) (s4G.dat h0)) (cW (aN (k:=1) (s4G.ld h1)) (cW (eB (dW (ab (ae (k:=5) hd) au))) bS))) ⟨ps,[p],t,rfl,F,okt,dpt,szt,okp,rfl,ux F okt dpt szt okp⟩)))) λv6 G2 s5 q6=>?_
   have e6:=q6.intE
   subst e6
   have hxG:=s5.dat hd
   refine iP (b:=decide ((gu (cK ps t) ((ax t).take i)).2 < cK ps t p)) (aO (dD (K:=K) (p:=λi j=>decide (j < i)) (ae (k:=6) (Dat.intI _)) (ae (k:=4) (Dat.intI _)))) (λc G3 s6=>?_) (λc G3 s6=>?_)
   ·have c:=of_decide_eq_true c
    have ra:RA K (bP (iS 5) (bP (iS 6) d8)) [some v0,some v1,some (.int (jC ps t).length),some vb,some (.int (gu (cK ps t) ((ax t).take i)).2),some x,some (.int (cK ps t p))] G3 [toD p,.int (cK ps t p)]:=ab (ae (k:=5) (s6.dat hxG)) (ab (ae (k:=6) (Dat.intI _)) au)
    refine ra G3 (Same.refl _) _ λvs G4 s7 q7=>?_
    obtain ⟨u,y,rfl,hu,hy⟩:=fu q7
    have ey:=hy.intE
    subst ey
    refine ⟨_,_,rfl,some x,some (.int (cK ps t p)),u,?_,sG.trans (s5.trans (s6.trans s7)),?_⟩
    ·rw [eb];unfold kU;rw [if_pos c];rfl
    ·rw [eb];unfold kU;rw [if_pos c];exact hu
   ·have c:=of_decide_eq_false c
    refine lN ⟨some x,some (.int (cK ps t p)),vb,?_,sG.trans (s5.trans s6),?_⟩
    ·rw [eb];unfold kU;rw [if_neg c];rfl
    ·rw [eb];unfold kU;rw [if_neg c];exact (s5.trans s6).dat db
 ·rintro σ G ⟨z5,z6,vb,rfl,sG,db⟩
  dsimp only
  have lx:=dxs.length
  rw [List.length_map] at lx
  rw [← lx,List.take_length] at db
  exact ⟨_,rfl,post vb G (s14.trans sG) db⟩
theorem Cs (h:okT x) (d:aH x=1):az x=1:=by
 cases x with
 | num n=>rfl
 | arg n=>rfl
 | call n=>rfl
 | two o a b=>have:=dE a;simp only [aH] at d;omega
 | pick a b c=>have:=dE a;simp only [aH] at d;omega
def uJ (K:PySem.W.Frag):Sp:=λvs H Q _=>∃ (a t:Addr) (ns:List Int) (p q c:Int),vs=[.ref a,.ref t]/\Scr K H a ns/\H t=some (.lst [.int p,.int q,.int c])/\0≤p/\0≤c/\c≤60 /\
 ∀ (v:V) (H':Hp) (X:Tr) (p' q' c':Int),But t H H'->H' t=some (.lst [.int p',.int q',.int c'])->0≤p'->0≤c'->c'≤c->okT X->aH X≤3->az X≤7->Dat K H' (toD X) v->Q v H'
theorem nk (T:Txt P w K mg) (Fl:FnOk P w K mg base CX0 k T.EM T.EU ["_law_script","_law_town","_law_some"] (qr K)) (Fm:FnOk P w K mg base CX0 k T.El T.Em ["_law_script","_law_town","_law_room"] (kG K 4)):FnOk P w K mg base CX0 (k+1) T.Fx T.FE ["_law_script","_law_town"] (uJ K):=by
 refine T.FL.ok sc__law_heavy (λvs H Q E h=>?_) (λcdv A outer s H vs Q E hr h=>?_)
 ·obtain ⟨a,t,ns,p,q,c,rfl,_⟩:=h;rfl
 have nd:=sc__law_heavy.nd
 obtain ⟨a,t,ns,p,q,c,rfl,hS,hT,hp,hc,hc2,post⟩:=h
 refine ⟨_,(aj (fA (i:=2) (own:=["_law_k"]) (fr:=[0,1]) (N':=["_law_k","_law_script","_law_town"]) (oA rfl T.IU (ag ak af)) rfl (by show bR ["_law_script","_law_town","_law_four"] (λx=>(ay fk).names.lookup x) _ _ _ _=true;decide +kernel) rfl (λ_ _ _ _ _=>(aE (i:=0) (by show List.Nodup [("_law_k":Str),("_law_script":Str),("_law_town":Str)];decide +kernel) rfl (Or.inl rfl))) (λ_ _ _ _ _=>bE) (λ_ _ _ _ _=>(aA Fm hr rfl T.Gn T.EZ.kp (gI T) .nil aQ (ag (pv 1) (ag (pv 2) (ag ak af))))) nd rfl rfl rfl)
 (av (aG (aI (ag (aA Fl hr rfl T.Gm T.EY.kp (gH T) .nil aQ (ag (pv 0) (ag (pv 1) (ag (bA (ag aD (ag aD af))) af)))) (ag (aI (ag aD (ag (aT bT (pv 2) ak (λ_ _=>rfl)) (ag (aT bT (pv 2) ak (λ_ _=>rfl)) af)))) (ag (aI (ag aD (ag (aT bT (pv 2) ak (λ_ _=>rfl)) (ag (aT bT (pv 2) ak (λ_ _=>rfl)) af)))) af))))))),?_⟩
 refine cU (mP 4 (λR hR=>hR) (by decide) rfl
  (λl i G'=>∃ (Ts:List Tr) (ys:List V) (p' q' c':Int),But t H G'/\G' t=some (.lst [.int p',.int q',.int c'])/\0≤p'/\0≤c'/\c'≤c/\G' l=some (.lst ys)/\Ts.length=i/\(∀ x ∈ Ts,okT x/\aH x=1/\az x=1)/\Dats K G' (Ts.map toD) ys) (λl hl=>?_) (λl i G' hl hi pn=>?_) (λl G' hl pn=>?_))
 ·have nl:l≠t:=λz=>by rw [z,hT] at hl;cases hl
  exact ⟨[],[],p,q,c,(aC hl _).but,(by rw [aJ (Ne.symm nl)];exact hT),hp,hc,Int.le_refl _,aq,rfl,(λx hx=>absurd hx (by simp)),Dats.nil⟩
 ·obtain ⟨Ts,ys,p',q',c',bt,tt,gp,gc,gc2,hl',lT,okTs,dT⟩:=pn
  have nl:l≠t:=λz=>by rw [z,hT] at hl;cases hl
  have ly:ys.length=i:=by rw [← dT.length,List.length_map,lT]
  refine ⟨_,rfl,_,rfl,a,t,ns,1,p',q',c',rfl,hS.but bt hT,tt,gp,gc,by omega,by decide,by decide,λv G2 X p2 q2 c2 bb t2 g2 h2 h2' okX dpX szX dX=>?_⟩
  have hl2:=bb l _ nl hl'
  have g1:cO K G' G2:=bb.grow tt t2
  have g3:cO K G2 (upd G2 l (.lst (ys++[v]))):=But.grow (t:=l) (But.upd (Same.refl G2).but) hl2 aq
  refine ⟨ys,hl2,ck (by omega),⟨_,rfl⟩,Ts++[X],ys++[v],p2,q2,c2,?_,?_,g2,h2,by omega,aq,by rw [List.length_append,lT];rfl,?_,?_⟩
  ·intro b o hb hbo
   have nb:b≠l:=aB hbo hl
   rw [aJ nb]
   exact bb b o hb (bt b o hb hbo)
  ·rw [aJ (Ne.symm nl)];exact t2
  ·intro x hx
   rcases List.mem_append.mp hx with hx | hx
   ·exact okTs x hx
   ·rw [List.mem_singleton.mp hx]
    have:=dE X
    have d1:aH X=1:=by omega
    exact ⟨okX,d1,Cs okX d1⟩
  ·rw [List.map_append]
   exact Dats.append (Dats.mono g3 _ (Dats.mono g1 _ dT)) (Dats.cons (Dat.mono g3 _ dX) Dats.nil)
 obtain ⟨Ts,ys,p',q',c',bt,tt,gp,gc,gc2,hl',lT,okTs,dT⟩:=pn
 match Ts,lT with
 | [a0,a1,a2,a3],_ =>
  obtain ⟨k0,d0,z0⟩:=okTs a0 (by simp)
  obtain ⟨k1,d1,z1⟩:=okTs a1 (by simp)
  obtain ⟨k2,d2,z2⟩:=okTs a2 (by simp)
  obtain ⟨k3,d3,z3⟩:=okTs a3 (by simp)
  have nl:l≠t:=λz=>by rw [z,hT] at hl;cases hl
  refine gN (yq (eQ (fR ?_)))
  refine ⟨_,rfl,_,rfl,bZ (by decide),λl2 hl2=>?_⟩
  have nel:l2≠t:=λz=>by rw [z,tt] at hl2;cases hl2
  have b4:=bt.trans (aC hl2 (.lst [.str "mul",.str "sub"])).but
  have n2:l≠l2:=aB hl' hl2
  refine ⟨a,t,l2,ns,_,p',q',[.int c'],rfl,hS.but b4 hT,SqL.of aq,nel,by decide,by decide,(by rw [aJ (Ne.symm nel)];exact tt),gp,λi x H5 p5 q5 b5 t5 g5 hx=>?_⟩
  obtain ⟨nm,en,hnm⟩:∃ nm:Str,x=.str nm/\(nm="add"\/nm="sub"\/nm="mul"\/nm="less"):=by
   have:=List.mem_of_getElem? hx
   simp only [List.mem_cons,List.not_mem_nil,or_false] at this
   rcases this with e | e
   ·exact ⟨_,e,.inr (.inr (.inl rfl))⟩
   ·exact ⟨_,e,.inr (.inl rfl)⟩
  subst en
  have gG:cO K G' H5:=((aC hl2 (.lst [.str "mul",.str "sub"])).but.trans b5).grow tt t5
  have hl5:H5 l=some (.lst ys):=b5 _ _ nl (by rw [aJ n2];exact hl')
  have hL:LD K H5 ([a0,a1,a2,a3].map toD) (.ref l):=LD.of hl5 (Dats.mono gG _ dT)
  have rr:∀ {tA:TA} {σ:L2.St} {H:Hp} {ds:List D} {Q:List V->Hp->Prop},RA K tA σ H ds->(∀ vs H',Same H H'->Dats K H' ds vs->Q vs H')->tA σ H Q:=λh q=>h _ (Same.refl _) _ q
  refine rr (ds:=[.tup [.str "sub",toD a0,toD a1],.tup [.str "less",toD a2,toD a3]]) (ab (aL (ab aF (ab (hU (k:=0) (aN (k:=2) hL) ao rfl) (ab (hU (k:=1) (aN (k:=2) hL) ao rfl) au)))) (ab (aL (ab aF (ab (hU (k:=2) (aN (k:=2) hL) ao rfl) (ab (hU (k:=3) (aN (k:=2) hL) ao rfl) au)))) au)) λvs H6 s6 q6=>?_
  obtain ⟨u1,u2,rfl,e1,e2⟩:=fu q6
  refine ⟨bZ (by simp),λu hu=>?_⟩
  have s7:=s6.trans (aC hu (.tup [.str nm,u1,u2]))
  refine post (.ref u) _ (.two nm (.two "sub" a0 a1) (.two "less" a2 a3)) p5 q5 c' ((b4.trans b5).trans s7.but) (s7 _ _ t5) g5 gc gc2 ⟨hnm,⟨.inr (.inl rfl),k0,k1⟩,⟨.inr (.inr (.inr rfl)),k2,k3⟩⟩ (by simp only [aH];omega) (by simp only [az];omega) ?_
  exact Dat.tupI (SqT.of aq) (Dats.cons (Dat.strI _) ((aC hu _).dats q6))
abbrev FM (X Y Z M:Tr):List Tr:=[(.two "add" X X),(.two "mul" (.two "sub" X Y) X),(.pick X Y X),(.two "less" Y X),(.two "add" (.two "mul" X X) (.two "sub" X Y)),(.two "sub" (.two "add" X (.num 1)) X),(.two "add" Z Z),(.two "add" (.two "mul" Z Z) (.two "sub" Z (.arg 0))),(.two "less" (.two "add" Z Z) (.two "sub" M M)),(.pick Z Z (.num 5))]
theorem Cj {X Y Z M:Tr} (x1:okT X) (x2:aH X≤4) (y1:okT Y) (y2:aH Y≤4) (sm:az X+az Y≤11) (z1:okT Z) (z2:aH Z≤3) (z3:az Z≤7) (m1:okT M) (m2:aH M≤3) (m3:az M≤7):∀ W ∈ FM X Y Z M,okT W/\aH W≤8/\az W≤40:=by
 have ny:1≤az Y:=by cases Y <;> simp [az]
 intro W hW
 simp only [FM,List.mem_cons,List.not_mem_nil,or_false] at hW
 rcases hW with rfl | rfl | rfl | rfl | rfl | rfl | rfl | rfl | rfl | rfl <;> refine ⟨?_,by simp only [aH];omega,by simp only [az];omega⟩ <;> simp [okT,x1,y1,z1,m1]
def yG (K:PySem.W.Frag):Sp:=λvs H Q _=>∃ (a t:Addr) (ns:List Int) (p q c:Int),vs=[.ref a,.ref t]/\Scr K H a ns/\H t=some (.lst [.int p,.int q,.int c])/\0≤p/\0≤c/\c≤3 /\
 ∀ (v:V) (H':Hp) (X:Tr) (p' q' c':Int),But t H H'->H' t=some (.lst [.int p',.int q',.int c'])->0≤p'->0≤c'->c'≤c->okT X->aH X≤8->az X≤40->Dat K H' (toD X) v->Q v H'
theorem lj (T:Txt P w K mg) (Fl:FnOk P w K mg base CX0 k T.EM T.EU ["_law_script","_law_town","_law_some"] (qr K)) (Fm:FnOk P w K mg base CX0 k T.El T.Em ["_law_script","_law_town","_law_room"] (kG K 4)) (Ip:FnOk P w K mg base CX0 k T.Fx T.FE ["_law_script","_law_town"] (uJ K)):FnOk P w K mg base CX0 (k+1) T.EK T.ES ["_law_script","_law_town"] (yG K):=by
 refine T.FK.ok sc__law_doubled (λvs H Q E h=>?_) (λcdv A outer s H vs Q E hr h=>?_)
 ·obtain ⟨a,t,ns,p,q,c,rfl,_⟩:=h;rfl
 have nd:=sc__law_doubled.nd
 obtain ⟨a,t,ns,p,q,c,rfl,hS,hT,hp,hc,hc2,post⟩:=h
 refine ⟨_,(aj (tE (i:=2) (j:=3) rfl nd rfl rfl (by decide) rfl rfl (ag (aA Fm hr rfl T.Gn T.EZ.kp (gI T) .nil aQ (ag (pv 0) (ag (pv 1) (ag ak af)))) (ag (aA Fm hr rfl T.Gn T.EZ.kp (gI T) .nil aQ (ag (pv 0) (ag (pv 1) (ag ak af)))) af)) (by kernel_rfl))
 (aj (bg (i:=4) nd rfl (Or.inl rfl) (bA (ag (aI (ag aD (ag (pv 2) (ag (pv 2) af)))) (ag (aI (ag aD (ag (aI (ag aD (ag (pv 2) (ag (pv 3) af)))) (ag (pv 2) af)))) (ag (aI (ag aD (ag (pv 2) (ag (pv 3) (ag (pv 2) af))))) af)))))
 (aj (bC (de PySem.F.plainAttrs_list PySem.F.slot_list_extend PySem.F.type_list_extend dI (pv 4) (ag (bA (ag (aI (ag aD (ag (pv 3) (ag (pv 2) af)))) af)) af)))
 (aj (bC (de PySem.F.plainAttrs_list PySem.F.slot_list_extend PySem.F.type_list_extend dI (pv 4) (ag (bA (ag (aI (ag aD (ag (aI (ag aD (ag (pv 2) (ag (pv 2) af)))) (ag (aI (ag aD (ag (pv 2) (ag (pv 3) af)))) af)))) (ag (aI (ag aD (ag (aI (ag aD (ag (pv 2) (ag (aI (ag aD (ag ak af))) af)))) (ag (pv 2) af)))) af))) af)))
 (aj (tE (i:=5) (j:=6) rfl nd rfl rfl (by decide) rfl rfl (ag (aA Ip hr rfl T.Hz T.FL.kp (jI T) .nil aQ (ag (pv 0) (ag (pv 1) af))) (ag (aA Ip hr rfl T.Hz T.FL.kp (jI T) .nil aQ (ag (pv 0) (ag (pv 1) af))) af)) (by kernel_rfl))
 (aj (bC (de PySem.F.plainAttrs_list PySem.F.slot_list_extend PySem.F.type_list_extend dI (pv 4) (ag (bA (ag (aI (ag aD (ag (pv 5) (ag (pv 5) af)))) (ag (aI (ag aD (ag (aI (ag aD (ag (pv 5) (ag (pv 5) af)))) (ag (aI (ag aD (ag (pv 5) (ag (aI (ag aD (ag ak af))) af)))) af)))) af))) af)))
 (aj (bC (de PySem.F.plainAttrs_list PySem.F.slot_list_extend PySem.F.type_list_extend dI (pv 4) (ag (bA (ag (aI (ag aD (ag (aI (ag aD (ag (pv 5) (ag (pv 5) af)))) (ag (aI (ag aD (ag (pv 6) (ag (pv 6) af)))) af)))) (ag (aI (ag aD (ag (pv 5) (ag (pv 5) (ag (aI (ag aD (ag ak af))) af))))) af))) af)))
 (av (aG (aA Fl hr rfl T.Gm T.EY.kp (gH T) .nil aQ (ag (pv 0) (ag (pv 1) (ag (pv 4) af))))))))))))),?_⟩
 refine cV (eQ (fR ?_))
 refine ⟨_,rfl,_,rfl,a,t,ns,4,p,q,c,rfl,hS,hT,hp,hc,by omega,by decide,by decide,λva G2 X p2 q2 c2 b2 t2 g2 gc2 gd2 okX dpX szX dX=>eQ (fR ?_)⟩
 refine ⟨_,rfl,_,rfl,a,t,ns,3,p2,q2,c2,rfl,hS.but b2 hT,t2,g2,gc2,by omega,by decide,by decide,λvb G3 Y p3 q3 c3 b3 t3 g3 gc3 gd3 okY dpY szY dY=>⟨va,vb,rfl,?_⟩⟩
 dsimp only
 have hX:=Dat.mono (b3.grow t2 t3) _ dX
 have hY:=dY
 have bt3:=b2.trans b3
 refine dJ (K:=K) (es:=([(.two "add" X X),(.two "mul" (.two "sub" X Y) X),(.pick X Y X)]:List Tr).map toD) (dW (ab (aL (ab aF (ab (ae (k:=2) hX) (ab (ae (k:=2) hX) au)))) (ab (aL (ab aF (ab (aL (ab aF (ab (ae (k:=2) hX) (ab (ae (k:=3) hY) au)))) (ab (ae (k:=2) hX) au)))) (ab (aL (ab aF (ab (ae (k:=2) hX) (ab (ae (k:=3) hY) (ab (ae (k:=2) hX) au))))) au)))) λlf y1 G4 hlf s4 hf d1=>?_
 have nf:lf≠t:=λz=>by rw [z,t3] at hlf;cases hlf
 have l1:=d1.length
 have l1:3=y1.length:=l1
 have bt4:=bt3.trans s4.but
 have t4:=s4 _ _ t3
 have hX:=s4.dat hX
 have hY:=s4.dat hY
 refine lL (K:=K) (es:=([(.two "less" Y X)]:List Tr).map toD) (ab (aL (ab aF (ab (ae (k:=3) hY) (ab (ae (k:=2) hX) au)))) au) hf (by omega) λy2 G5 b5 hf5 d2=>?_
 have g5:cO K G4 G5:=b5.grow hf hf5
 have l2:=d2.length
 have l2:1=y2.length:=l2
 have hX:=Dat.mono g5 _ hX
 have hY:=Dat.mono g5 _ hY
 refine lL (K:=K) (es:=([(.two "add" (.two "mul" X X) (.two "sub" X Y)),(.two "sub" (.two "add" X (.num 1)) X)]:List Tr).map toD) (ab (aL (ab aF (ab (aL (ab aF (ab (ae (k:=2) hX) (ab (ae (k:=2) hX) au)))) (ab (aL (ab aF (ab (ae (k:=2) hX) (ab (ae (k:=3) hY) au)))) au)))) (ab (aL (ab aF (ab (aL (ab aF (ab (ae (k:=2) hX) (ab (aL (ab aF (ab ao au))) au)))) (ab (ae (k:=2) hX) au)))) au)) hf5 (by rw [List.length_append];omega) λy3 G6 b6 hf6 d3=>?_
 have g6:cO K G5 G6:=b6.grow hf5 hf6
 have l3:=d3.length
 have l3:2=y3.length:=l3
 have t6:=b6 _ _ (Ne.symm nf) (b5 _ _ (Ne.symm nf) t4)
 have d12:=Dats.append (Dats.mono g6 _ (Dats.append (Dats.mono g5 _ d1) d2)) d3
 have bt6:But t H G6:=λx o hx hxo=>by
  have z:=bt3 x o hx hxo
  have nx:x≠lf:=aB z hlf
  exact b6 x o nx (b5 x o nx (s4 _ _ z))
 refine cV (eQ (fR ?_))
 refine ⟨_,rfl,_,rfl,a,t,ns,p3,q3,c3,rfl,hS.but bt6 hT,t6,g3,gc3,by omega,λvz G7 Z p7 q7 c7 b7 t7 g7 gc7 gd7 okZ dpZ szZ dZ=>eQ (fR ?_)⟩
 have bt7:=bt6.trans b7
 refine ⟨_,rfl,_,rfl,a,t,ns,p7,q7,c7,rfl,hS.but bt7 hT,t7,g7,gc7,by omega,λvm G8 M p8 q8 c8 b8 t8 g8 gc8 gd8 okM dpM szM dM=>⟨vz,vm,rfl,?_⟩⟩
 dsimp only
 have bt8:=bt7.trans b8
 have hf8:=b8 _ _ nf (b7 _ _ nf hf6)
 have d12:=Dats.mono (b8.grow t7 t8) _ (Dats.mono (b7.grow t6 t7) _ d12)
 have hZ:=Dat.mono (b8.grow t7 t8) _ dZ
 have hM:=dM
 refine lL (K:=K) (es:=([(.two "add" Z Z),(.two "add" (.two "mul" Z Z) (.two "sub" Z (.arg 0)))]:List Tr).map toD) (ab (aL (ab aF (ab (ae (k:=5) hZ) (ab (ae (k:=5) hZ) au)))) (ab (aL (ab aF (ab (aL (ab aF (ab (ae (k:=5) hZ) (ab (ae (k:=5) hZ) au)))) (ab (aL (ab aF (ab (ae (k:=5) hZ) (ab (aL (ab aF (ab ao au))) au)))) au)))) au)) hf8 (by rw [List.length_append,List.length_append];omega) λy4 G9 b9 hf9 d4=>?_
 have g9:cO K G8 G9:=b9.grow hf8 hf9
 have l4:=d4.length
 have l4:2=y4.length:=l4
 have hZ:=Dat.mono g9 _ hZ
 have hM:=Dat.mono g9 _ hM
 refine lL (K:=K) (es:=([(.two "less" (.two "add" Z Z) (.two "sub" M M)),(.pick Z Z (.num 5))]:List Tr).map toD) (ab (aL (ab aF (ab (aL (ab aF (ab (ae (k:=5) hZ) (ab (ae (k:=5) hZ) au)))) (ab (aL (ab aF (ab (ae (k:=6) hM) (ab (ae (k:=6) hM) au)))) au)))) (ab (aL (ab aF (ab (ae (k:=5) hZ) (ab (ae (k:=5) hZ) (ab (aL (ab aF (ab ao au))) au))))) au)) hf9 (by rw [List.length_append,List.length_append,List.length_append];omega) λy5 G10 b10 hf10 d5=>?_
 have g10:cO K G9 G10:=b10.grow hf9 hf10
 have l5:=d5.length
 have l5:2=y5.length:=l5
 have t10:=b10 _ _ (Ne.symm nf) (b9 _ _ (Ne.symm nf) t8)
 have dF:Dats K G10 ((FM X Y Z M).map toD) (y1++y2++y3++y4++y5):=Dats.append (Dats.mono g10 _ (Dats.append (Dats.mono g9 _ d12) d4)) d5
 have bt10:But t H G10:=λx o hx hxo=>by
  have z:=bt3 x o hx hxo
  have nx:x≠lf:=aB z hlf
  exact b10 x o nx (b9 x o nx (bt8 x o hx hxo))
 refine gN (fR ?_)
 refine ⟨_,rfl,_,rfl,_,rfl,a,t,lf,ns,_,p8,q8,[.int c8],rfl,hS.but bt10 hT,SqL.of hf10,nf,by rw [← dF.length];simp,by rw [← dF.length];simp,t10,g8,λi x G11 p11 q11 b11 t11 g11 hx=>?_⟩
 obtain ⟨d,ed,hd⟩:=dF.getV hx
 rw [List.getElem?_map] at ed
 cases hw:(FM X Y Z M)[i]? with
 | none=>rw [hw] at ed;cases ed
 | some W =>
  rw [hw] at ed
  cases ed
  obtain ⟨w1,w2,w3⟩:=Cj okX (by omega) okY (by omega) (by omega) okZ dpZ szZ okM dpM szM W (List.mem_of_getElem? hw)
  exact post x G11 W p11 q11 c8 (bt10.trans b11) t11 g11 gc8 (by omega) w1 w2 w3 (Dat.mono (b11.grow t10 t11) _ hd)
def r9 (K:PySem.W.Frag):Sp:=λvs H Q _=>∃ (a:Addr) (ns:List Int),vs=[.ref a]/\Scr K H a ns/\∀ H',Q (.bl true) H'
theorem vJ (t:Tr):t ∈ ax t:=by cases t <;> simp [ax]
theorem gr:∀ t:Tr,(ax t).length=az t
 | .num _=>rfl
 | .arg _=>rfl
 | .call _=>rfl
 | .two o a b=>by simp only [ax,az,List.length_cons,List.length_append,gr a,gr b]
 | .pick a b c=>by simp only [ax,az,List.length_cons,List.length_append,gr a,gr b,gr c]
theorem xS:∀ l:List Int,l≠[]->∃ m,m ∈ l/\∀ a ∈ l,a≤m
 | [],h=>absurd rfl h
 | [x],_=>⟨x,by simp,λa h=>by rw [List.mem_singleton.mp h];exact Int.le_refl _⟩
 | x::y::l,_=>by
  obtain ⟨m,h1,h2⟩:=xS (y::l) (by simp)
  by_cases c:m≤x
  ·refine ⟨x,by simp,λa h=>?_⟩
   rcases List.mem_cons.mp h with rfl | h
   ·exact Int.le_refl _
   ·have:=h2 a h;omega
  ·refine ⟨m,List.mem_cons_of_mem _ h1,λa h=>?_⟩
   rcases List.mem_cons.mp h with rfl | h
   ·omega
   ·exact h2 a h
theorem BJ (T:Txt P w K mg) (IV:FnOk P w K mg base CX0 k T.EK T.ES ["_law_script","_law_town"] (yG K)) (JJ:FnOk P w K mg base CX0 k T.GK T.GP ["_law_script","_law_town"] (AY K)) (Hu:FnOk P w K mg base CX0 k T.Er T.Eu ["_law_tree_here"] (gE K (eI 8))) (Ke:FnOk P w K mg base CX0 k T.IX T.Ja ["tree","some","part"] (spA K wC)) (JC:FnOk P w K mg base CX0 k T.F9 T.Ge ["tree","some"] (spA K sy)):FnOk P w K mg base CX0 (k+1) T.JF T.JP ["_law_script"] (r9 K):=by
 refine T.Ka.ok sc_law (λvs H Q E h=>?_) (λcdv A outer s H vs Q E hr h=>?_)
 ·obtain ⟨a,ns,rfl,_⟩:=h;rfl
 have nd:=sc_law.nd
 obtain ⟨a,ns,rfl,hS,post⟩:=h
 refine ⟨_,(aj (bg (i:=1) nd rfl (Or.inl rfl) (bA (ag ak (ag ak (ag ak af)))))
 (aj (eO (aI (ag (aA IV hr rfl T.HK T.FK.kp (lW T) .nil aQ (ag (pv 0) (ag (pv 1) af))) (ag (aA JJ hr rfl T.Jc T.Hx.kp (sH T) .nil aQ (ag (pv 0) (ag (pv 1) af))) af))) (dj rfl (aR (aE (i:=2) nd rfl (Or.inr rfl)) (aR (aE (i:=3) nd rfl (Or.inr rfl)) cj))) (by rfl) (by kernel_rfl))
 (aj (bg (i:=4) nd rfl (Or.inl rfl) (aA Hu hr rfl T.HA T.FN.kp (jJ T) .nil aQ (ag (pv 2) af)))
 (aj (fA (i:=5) (own:=["_law_part"]) (fr:=[2,3]) (N':=["_law_part","_law_tree_here","_law_some"]) (cP (pv 4)) rfl (by show bR ["_law_script","_law_town","_law_tree_here","_law_some","_law_parts_here","_law_gains","_law_best"] (λx=>(ay r6).names.lookup x) _ _ _ _=true;decide +kernel) rfl (λ_ _ _ _ _=>(aE (i:=0) (by show List.Nodup [("_law_part":Str),("_law_tree_here":Str),("_law_some":Str)];decide +kernel) rfl (Or.inl rfl))) (λ_ _ _ _ _=>bE) (λ_ _ _ _ _=>(aA Ke hr rfl T.JW T.Jv.kp (Bj T) .nil aQ (ag (pv 1) (ag (pv 2) (ag (pv 0) af))))) nd rfl rfl rfl)
 (aj (bg (i:=6) nd rfl (Or.inl rfl) (aA JC hr rfl T.IK T.Hb.kp (qF T) .nil aQ (ag (pv 2) (ag (pv 3) af))))
 (aj (bu (aU i6 (aK (nQ rfl) rfl T.JZ wO (ag (pv 5) af)) ak (aY _)) (av (aG (cH pR (pv 6) i7 (aY _)))) aP)
 (av (aG (cH (BL hr) (pv 6) (aT bT (pv 4) (de PySem.F.plainAttrs_list PySem.F.slot_list_index PySem.F.type_list_index (kr hr) (pv 5) (ag (aK (nQ rfl) rfl T.JZ wO (ag (pv 5) af)) af)) (λ_ _=>rfl)) (aY _)))))))))),?_⟩
 refine cU ⟨bZ (by decide),λt ht=>?_⟩
 have hS0:=hS.same (aC ht (.lst [.int 0,.int 0,.int 3]))
 refine cV (yq (eQ (fR ?_)))
 refine ⟨_,rfl,_,rfl,a,t,ns,0,0,3,rfl,hS0,aq,by decide,by decide,by decide,λv2 H1 X p1 q1 c1 b1 t1 g1 gc1 gd1 okX dpX szX dX=>eQ (fR ?_)⟩
 refine ⟨_,rfl,_,rfl,a,t,ns,p1,q1,[.int c1],rfl,hS0.but b1 aq,t1,g1,λsub l3 y3 H2 p2 q2 b2 t2 g2 hsub hl3 hy3 d3=>⟨bZ (by simp),λu hu=>⟨u,_,rfl,SqT.of aq,rfl,_,_,rfl,_,_,rfl,rfl,?_⟩⟩⟩
 dsimp only
 have s2:Same H2 (upd H2 u (.tup [v2,.ref l3])):=aC hu _
 have F:=zB hsub
 have h2:=s2.dat (Dat.mono (b2.grow t1 t2) _ dX)
 have h3:=s2.ld (LD.of hy3 d3)
 generalize BP++sub=ps at F h3
 refine dJ (K:=K) (gM (R:=eI 8) (ab (ae (k:=2) h2) au) ⟨X,rfl,iO okX,dpX,by omega,rfl⟩) λl4 y4 H3 hl4 s3 hy4 d4=>?_
 have h2:=s3.dat h2
 have h3:=s3.ld h3
 have lp:=gr X
 refine dJ (K:=K) (fh (aN (k:=4) (LD.of hy4 d4)) (by rw [List.length_map];omega) (((ax X).map (cK ps X)).map D.int) (by rw [List.length_map,List.length_map,List.length_map]) rfl (λG j c v d s hc hd hv=>?_)) λl5 y5 H4 hl5 s4 hy5 d5=>?_
 ·rw [List.getElem?_map] at hc
  rw [List.map_map,List.getElem?_map] at hd
  cases hx:(ax X)[j]? with
  | none=>rw [hx] at hc;cases hc
  | some p =>
   rw [hx] at hc hd
   cases hc
   cases hd
   exact cC (R:=wC) (dC (ae (k:=1) (s.dat h2)) (cW (aN (k:=2) (s.ld h3)) (dC (ae (k:=0) hv) bS))) ⟨ps,X,p,rfl,F,okX,dpX,szX,List.mem_of_getElem? hx,rfl⟩
 have h2:=s4.dat h2
 have h3:=s4.ld h3
 refine cQ (K:=K) (d:=oT (gu (cK ps X) (ax X)).1) (cC (R:=sy) (dC (ae (k:=2) h2) (cW (aN (k:=3) h3) bS)) ⟨ps,X,rfl,F,okX,dpX,szX,rfl⟩) λv6 H5 s5 q6=>?_
 have h5:LD K H5 (((ax X).map (cK ps X)).map D.int) (.ref l5):=s5.ld (LD.of hy5 d5)
 have h4:LD K H5 ((ax X).map toD) (.ref l4):=(s4.trans s5).ld (LD.of hy4 d4)
 obtain ⟨m,hm1,hm2⟩:=xS ((ax X).map (cK ps X)) (λz=>by have:=congrArg List.length z;rw [List.length_map,lp] at this;have:=vJ X;cases X <;> simp [az] at * )
 rcases wL (cK ps X) _ (ax X) rfl with ⟨e1,e2,e3⟩ | ⟨j,p,k1,k2,k3,k4,k5,k6⟩
 ·have m0:m≤0:=by
   obtain ⟨p,hp,rfl⟩:=List.mem_map.mp hm1
   exact e3 p hp
  refine aS (K:=K) (b:=true) (RT.as (aO (dD (p:=λi j=>decide (i≤j)) (p9 (aN (k:=5) h5) hm1 hm2) ao)) (decide_eq_true m0)) (λ_ H6 s6=>?_) (λc=>nomatch c)
  refine aX (K:=K) (d:=.bl true) (RE.as (mS (ae (k:=6) (s6.dat q6))) (by rw [e1];rfl)) λv H' s q=>?_
  have:=q.blE
  subst this
  exact post _
 ·have em:m=cK ps X p:=by
   obtain ⟨q,hq,rfl⟩:=List.mem_map.mp hm1
   exact Int.le_antisymm (k5 q hq) (hm2 _ (List.mem_map.mpr ⟨p,List.mem_of_getElem? k1,rfl⟩))
  subst em
  refine aS (K:=K) (b:=false) (RT.as (aO (dD (p:=λi j=>decide (i≤j)) (p9 (aN (k:=5) h5) hm1 hm2) ao)) (decide_eq_false (by omega))) (λc=>nomatch c) (λ_ H6 s6=>?_)
  have h5:=s6.ld h5
  have hj:(((ax X).map (cK ps X)).map D.int)[j]?=some (.int (cK ps X p)):=by rw [List.getElem?_map,List.getElem?_map,k1];rfl
  refine aX (K:=K) (d:=.bl true) (RE.as (Am (d:=toD p) (e:=toD p) (RE.as (ae (k:=6) (s6.dat q6)) (by rw [k2];rfl)) (hU (k:=j) (aN (k:=4) (s6.ld h4)) (mR (k:=5) h5 (p9 (aN (k:=5) h5) hm1 hm2) (ku _) rfl (by rw [iV];decide) (by rw [List.length_map,List.length_map];omega) ⟨_,hj,eA _ rfl⟩ λi e hi he=>?_) (by rw [List.getElem?_map,k1];rfl)) (bW p) (bW p) (by rw [gC];have:=(cA X p (List.mem_of_getElem? k1)).2;omega)) (congrArg D.bl (eA _ (bW p)))) λv H' s q=>?_
  ·rw [List.map_map,List.getElem?_map] at he
   obtain ⟨q,hq,rfl⟩:=Option.map_eq_some_iff.mp he
   have:=k6 i q hi hq
   show eqD (.int (cK ps X q)) (.int (cK ps X p))=false
   have ne:cK ps X q≠cK ps X p:=by omega
   simp [eqD,ne]
  ·have:=q.blE
   subst this
   exact post _
end
end My
end
namespace My
open PySem L2 PyProof.Rows
section
variable {P:Program} {w:World} {K:PySem.W.Frag} {mg:Str->Option Value} {base:Heap} {k:Nat}
theorem xY (vs:List V) (H:Hp) (Q:VK) (E:XK):¬ kG K 0 vs H Q E:=λ⟨a,t,ns,room,p,q,c,_,_,_,_,_,_,_,h,_⟩=>by omega
theorem vA (vs:List V) (H:Hp) (Q:VK) (E:XK):¬ gE K (iT 0) vs H Q E:=λ⟨ds,es,_,⟨x,k,_,_,h,_⟩,_⟩=>nomatch h
theorem xX (vs:List V) (H:Hp) (Q:VK) (E:XK):¬ spD K (AG 0) vs H Q E:=λ⟨ds,es,_,h,_⟩=>h
theorem ou (vs:List V) (H:Hp) (Q:VK) (E:XK):¬ gE K (eI 0) vs H Q E:=λ⟨ds,es,_,⟨t,_,_,h,_⟩,_⟩=>by have:=dE t;omega
theorem xW (vs:List V) (H:Hp) (Q:VK) (E:XK):¬ iu K (hV 0) vs H Q E:=λ⟨as,es,_,⟨ps,pl,t,c,_,_,_,_,h,_⟩,_⟩=>by have:=dE t;omega
theorem BI (vs:List V) (H:Hp) (Q:VK) (E:XK):¬ spA K (Rwc 0) vs H Q E:=λ⟨as,d,_,h,_⟩=>AC as d h
theorem chain (T:Txt P w K mg):FnOk P w K mg base CX0 30 T.JF T.JP ["_law_script"] (r9 K):=by
 have w1:=rF (P:=P) (w:=w) (base:=base) (k:=0) T
 have g1:=pM (P:=P) (w:=w) (base:=base) (k:=0) T
 have n2:=tj (k:=1) T g1 w1
 have wi:=lA (P:=P) (w:=w) (base:=base) (k:=0) T
 have it:=tm (k:=2) T n2 (wi.mono (by decide))
 have nt:=pQ (k:=3) T it
 have wk:∀ n:Nat,FnOk P w K mg base CX0 (n+1) T.FC T.FJ ["tree"] (gE K (eI n)):=by
  intro n
  induction n with
  | zero=>exact fH ou
  | succ n ih=>exact vE (k:=n+1) T (wi.mono (by omega)) ih
 have nm:=sZ (P:=P) (w:=w) (base:=base) (k:=0) T
 have mk:=sY (k:=1) T g1 w1
 have pp:∀ n:Nat,FnOk P w K mg base CX0 (n+3) T.DL T.DN ["thing","deep"] (spD K (Rpp n)):=by
  intro n
  induction n with
  | zero=>exact gz (k:=2) (n:=0) T mk n2 (wi.mono (by decide)) (fH xX)
  | succ n ih=>exact gz (k:=n+3) (n:=n+1) T (mk.mono (by omega)) (n2.mono (by omega)) (wi.mono (by omega)) ih
 have ma:∀ n:Nat,FnOk P w K mg base CX0 (n+1) T.ER T.EX ["pattern","kind"] (gE K (iT n)):=by
  intro n
  induction n with
  | zero=>exact fH vA
  | succ n ih=>exact rG (k:=n+1) T (wi.mono (by omega)) ih
 have nu:=mI (k:=4) T (ma 3)
 have pa:=nv (k:=6) T (pp 3) (nu.mono (by decide))
 have fi:=nr (k:=4) T (g1.mono (by decide)) (ma 3) (w1.mono (by decide))
 have ce:=sX (k:=5) T (w1.mono (by decide)) fi
 have ins:=jV (P:=P) (w:=w) (base:=base) (k:=0) T
 have ai:=jq (k:=6) T (w1.mono (by decide)) (ins.mono (by decide)) ce
 have pc:=rE (k:=7) T (nm.mono (by decide)) pa ai
 have ms:=kC (P:=P) (w:=w) (base:=base) (k:=0) T
 have mt:∀ n:Nat,FnOk P w K mg base CX0 (n+1) T.FV T.FY ["pattern","tree","found"] (r8 K oD n):=by
  intro n
  induction n with
  | zero=>exact fH zP
  | succ n ih=>exact tp (k:=n+1) T (ms.mono (by omega)) ih
 have fo:=rD (k:=4) T (mt 3)
 have jo:=pN (P:=P) (w:=w) (base:=base) (k:=0) T
 have jp:=kz (k:=1) T jo
 have wo:=tq (k:=5) T fo
 have lb:=pP (k:=2) T jp
 have bw:=lq (k:=6) T wo (lb.mono (by decide))
 have bc:=ky (k:=9) T (wk 8) (bw.mono (by decide))
 have st:=vD (k:=9) T (pc.mono (by decide))
 have ns:=rH (k:=10) T st
 have fc:=mH (P:=P) (w:=w) (base:=base) (k:=0) T
 have lc:∀ n:Nat,FnOk P w K mg base CX0 (2 * n+6) T.DZ T.D0 ["tree","some","cover","places"] (iu K (hV n)):=by
  intro n
  induction n with
  | zero=>exact fH xW
  | succ n ih =>
   have pk:=pO (k:=2 * n+6) T ih (jp.mono (by omega))
   have pp:=nA (k:=2 * n+6) T ih (fo.mono (by omega)) (fc.mono (by omega))
   exact nz (k:=2 * n+7) T pk pp
 have wc:∀ n:Nat,FnOk P w K mg base CX0 (2 * n+2) T.Et T.Ex ["tree","parts"] (spA K (Rwc n)):=by
  intro n
  induction n with
  | zero=>exact fH BI
  | succ n ih =>
   have ww:=fJ (k:=2 * n+2) T (wi.mono (by omega)) ih
   exact nC (k:=2 * n+3) T ww
 have ww:=fJ (k:=20) T (wi.mono (by decide)) ((wc 7).mono (by decide))
 have ap:=pJ (k:=10) T (it.mono (by decide)) ((wk 8).mono (by decide))
 have npa:=nB (k:=11) T ap
 have co:=sW (k:=22) T (bc.mono (by decide)) (lc 8)
 have on:=pL (k:=22) T ((wc 8).mono (by decide)) (ww.mono (by decide)) (bc.mono (by decide)) (lc 8)
 have ga:=zT (k:=23) T (nt.mono (by decide)) (ns.mono (by decide)) (npa.mono (by decide)) co on
 have bp:=pK (k:=23) T (nt.mono (by decide)) (ns.mono (by decide)) ((wk 8).mono (by decide)) co on
 have lp:=mG (P:=P) (w:=w) (base:=base) (k:=0) T
 have dr:=pG (P:=P) (w:=w) (base:=base) (k:=0) T
 have pk:=pH (k:=1) T dr
 have tr:∀ n:Nat,FnOk P w K mg base CX0 (n+2) T.El T.Em ["_law_script","_law_town","_law_room"] (kG K n):=by
  intro n
  induction n with
  | zero=>exact fH xY
  | succ n ih=>exact pI (k:=n+2) T (dr.mono (by omega)) (pk.mono (by omega)) ih
 have ls:=rC (k:=1) T (lp.mono (by decide)) (dr.mono (by decide))
 have he:=nk (k:=6) T (pk.mono (by decide)) (tr 4)
 have db:=lj (k:=7) T (pk.mono (by decide)) ((tr 4).mono (by decide)) he
 have lpa:∀ n:Nat,FnOk P w K mg base CX0 (n+1) T.Er T.Eu ["_law_tree_here"] (gE K (eI n)):=by
  intro n
  induction n with
  | zero=>exact fH ou
  | succ n ih=>exact nq (k:=n+1) T ih
 exact BJ (k:=29) T (db.mono (by decide)) (ls.mono (by decide)) ((lpa 8).mono (by decide)) (ga.mono (by decide)) (bp.mono (by decide))
end
abbrev NsD (K:PySem.W.Frag) (n:Str) (f:Addr):Prop:=PySem.W.nsIn K mainGlobals n=some (some (.ref f))
abbrev LkD (K:PySem.W.Frag) (n:Str) (st:Stmt) (f:Addr) (oc:Value) (od:Option Addr) (sl:Array (Option Value)) (kV dc pm:Value) (an:Option Addr) (cd ct:Value):Prop:=K.lookup f=some ⟨oc,od,.func (PySem.W.fnOf n n (jP st) (jd st) (ay st) .none kV dc pm an cd ct),sl⟩
variable {l:PySem.W.OpenLaw}
theorem all_mk {w:World} {K:PySem.W.Frag} {h:Heap} {mg:Str->Option Value} {fa:Addr} (X:K.In h) (G:h.Ns mainGlobals mg) (hfa:mg "law"=some (.ref fa)) {f1 f2 f3 f4 f5 f6 f7 f8 f9 f10 f11 f12 f13 f14 f15 f16 f17 f18 f19 f20 f21 f22 f23 f24 f25 f26 f27 f28 f29 f30 f31 f32 f33 f34 f35 f36 f37 f38 f39 f40 f41 f42 f43 f44 f45 f46 f47 f48 f49 f50:Addr} {od1 od2 od3 od4 od5 od6 od7 od8 od9 od10 od11 od12 od13 od14 od15 od16 od17 od18 od19 od20 od21 od22 od23 od24 od25 od26 od27 od28 od29 od30 od31 od32 od33 od34 od35 od36 od37 od38 od39 od40 od41 od42 od43 od44 od45 od46 od47 od48 od49 od50 an1 an2 an3 an4 an5 an6 an7 an8 an9 an10 an11 an12 an13 an14 an15 an16 an17 an18 an19 an20 an21 an22 an23 an24 an25 an26 an27 an28 an29 an30 an31 an32 an33 an34 an35 an36 an37 an38 an39 an40 an41 an42 an43 an44 an45 an46 an47 an48 an49 an50:Option Addr} {sl1 sl2 sl3 sl4 sl5 sl6 sl7 sl8 sl9 sl10 sl11 sl12 sl13 sl14 sl15 sl16 sl17 sl18 sl19 sl20 sl21 sl22 sl23 sl24 sl25 sl26 sl27 sl28 sl29 sl30 sl31 sl32 sl33 sl34 sl35 sl36 sl37 sl38 sl39 sl40 sl41 sl42 sl43 sl44 sl45 sl46 sl47 sl48 sl49 sl50:Array (Option Value)} {oc1 oc2 oc3 oc4 oc5 oc6 oc7 oc8 oc9 oc10 oc11 oc12 oc13 oc14 oc15 oc16 oc17 oc18 oc19 oc20 oc21 oc22 oc23 oc24 oc25 oc26 oc27 oc28 oc29 oc30 oc31 oc32 oc33 oc34 oc35 oc36 oc37 oc38 oc39 oc40 oc41 oc42 oc43 oc44 oc45 oc46 oc47 oc48 oc49 oc50 kV1 kV2 kV3 kV4 kV5 kV6 kV7 kV8 kV9 kV10 kV11 kV12 kV13 kV14 kV15 kV16 kV17 kV18 kV19 kV20 kV21 kV22 kV23 kV24 kV25 kV26 kV27 kV28 kV29 kV30 kV31 kV32 kV33 kV34 kV35 kV36 kV37 kV38 kV39 kV40 kV41 kV42 kV43 kV44 kV45 kV46 kV47 kV48 kV49 kV50 dc1 dc2 dc3 dc4 dc5 dc6 dc7 dc8 dc9 dc10 dc11 dc12 dc13 dc14 dc15 dc16 dc17 dc18 dc19 dc20 dc21 dc22 dc23 dc24 dc25 dc26 dc27 dc28 dc29 dc30 dc31 dc32 dc33 dc34 dc35 dc36 dc37 dc38 dc39 dc40 dc41 dc42 dc43 dc44 dc45 dc46 dc47 dc48 dc49 dc50 pm1 pm2 pm3 pm4 pm5 pm6 pm7 pm8 pm9 pm10 pm11 pm12 pm13 pm14 pm15 pm16 pm17 pm18 pm19 pm20 pm21 pm22 pm23 pm24 pm25 pm26 pm27 pm28 pm29 pm30 pm31 pm32 pm33 pm34 pm35 pm36 pm37 pm38 pm39 pm40 pm41 pm42 pm43 pm44 pm45 pm46 pm47 pm48 pm49 pm50 cd1 cd2 cd3 cd4 cd5 cd6 cd7 cd8 cd9 cd10 cd11 cd12 cd13 cd14 cd15 cd16 cd17 cd18 cd19 cd20 cd21 cd22 cd23 cd24 cd25 cd26 cd27 cd28 cd29 cd30 cd31 cd32 cd33 cd34 cd35 cd36 cd37 cd38 cd39 cd40 cd41 cd42 cd43 cd44 cd45 cd46 cd47 cd48 cd49 cd50 ct1 ct2 ct3 ct4 ct5 ct6 ct7 ct8 ct9 ct10 ct11 ct12 ct13 ct14 ct15 ct16 ct17 ct18 ct19 ct20 ct21 ct22 ct23 ct24 ct25 ct26 ct27 ct28 ct29 ct30 ct31 ct32 ct33 ct34 ct35 ct36 ct37 ct38 ct39 ct40 ct41 ct42 ct43 ct44 ct45 ct46 ct47 ct48 ct49 ct50:Value} {FT:Tok} {Gq:Tok} {E2:Tok} {Gp:Tok} {DY:Tok} {GY:Tok} {D7:Tok} {Fg:Tok} {Gr:Tok} {FS:Tok} {JI:Tok} {Jg:Tok} {Jf:Tok} {Fh:Tok} {GO:Addr} {FD:Addr} {Eh:Addr} {Hf:Addr} {GN:Addr} {Ij:Addr} {Jt:Addr} {IZ:Addr} {Ju:Addr} {ob_MARK_LENGTHS:Obj}
  (a1:NsD K "is_whole" f1) (l1:LkD K "is_whole" iI f1 oc1 od1 sl1 kV1 dc1 pm1 an1 cd1 ct1) (c1:PySem.W.codeIn K cd1 "is_whole"=true) (k1:PySem.W.keepIn K (.ref f1)=true)
  (a2:NsD K "is_tagged" f2) (l2:LkD K "is_tagged" gR f2 oc2 od2 sl2 kV2 dc2 pm2 an2 cd2 ct2) (c2:PySem.W.codeIn K cd2 "is_tagged"=true) (k2:PySem.W.keepIn K (.ref f2)=true)
  (a3:NsD K "is_node" f3) (l3:LkD K "is_node" jk f3 oc3 od3 sl3 kV3 dc3 pm3 an3 cd3 ct3) (c3:PySem.W.codeIn K cd3 "is_node"=true) (k3:PySem.W.keepIn K (.ref f3)=true)
  (a4:NsD K "trees_within" f4) (l4:LkD K "trees_within" fq f4 oc4 od4 sl4 kV4 dc4 pm4 an4 cd4 ct4) (c4:PySem.W.codeIn K cd4 "trees_within"=true) (k4:PySem.W.keepIn K (.ref f4)=true)
  (a5:NsD K "is_tree" f5) (l5:LkD K "is_tree" ir f5 oc5 od5 sl5 kV5 dc5 pm5 an5 cd5 ct5) (c5:PySem.W.codeIn K cd5 "is_tree"=true) (k5:PySem.W.keepIn K (.ref f5)=true)
  (a6:NsD K "need_tree" f6) (l6:LkD K "need_tree" gU f6 oc6 od6 sl6 kV6 dc6 pm6 an6 cd6 ct6) (c6:PySem.W.codeIn K cd6 "need_tree"=true) (k6:PySem.W.keepIn K (.ref f6)=true)
  (a7:NsD K "walked" f7) (l7:LkD K "walked" j5 f7 oc7 od7 sl7 kV7 dc7 pm7 an7 cd7 ct7) (c7:PySem.W.codeIn K cd7 "walked"=true) (k7:PySem.W.keepIn K (.ref f7)=true)
  (a8:NsD K "is_name" f8) (l8:LkD K "is_name" ip f8 oc8 od8 sl8 kV8 dc8 pm8 an8 cd8 ct8) (c8:PySem.W.codeIn K cd8 "is_name"=true) (k8:PySem.W.keepIn K (.ref f8)=true)
  (a9:NsD K "instruction_at" f9) (l9:LkD K "instruction_at" dN f9 oc9 od9 sl9 kV9 dc9 pm9 an9 cd9 ct9) (c9:PySem.W.codeIn K cd9 "instruction_at"=true) (k9:PySem.W.keepIn K (.ref f9)=true)
  (a10:NsD K "is_mark" f10) (l10:LkD K "is_mark" ji f10 oc10 od10 sl10 kV10 dc10 pm10 an10 cd10 ct10) (c10:PySem.W.codeIn K cd10 "is_mark"=true) (k10:PySem.W.keepIn K (.ref f10)=true)
  (a11:NsD K "is_pattern_part" f11) (l11:LkD K "is_pattern_part" cI f11 oc11 od11 sl11 kV11 dc11 pm11 an11 cd11 ct11) (c11:PySem.W.codeIn K cd11 "is_pattern_part"=true) (k11:PySem.W.keepIn K (.ref f11)=true)
  (a12:NsD K "marks_in" f12) (l12:LkD K "marks_in" iJ f12 oc12 od12 sl12 kV12 dc12 pm12 an12 cd12 ct12) (c12:PySem.W.codeIn K cd12 "marks_in"=true) (k12:PySem.W.keepIn K (.ref f12)=true)
  (a13:NsD K "is_numbered" f13) (l13:LkD K "is_numbered" eE f13 oc13 od13 sl13 kV13 dc13 pm13 an13 cd13 ct13) (c13:PySem.W.codeIn K cd13 "is_numbered"=true) (k13:PySem.W.keepIn K (.ref f13)=true)
  (a14:NsD K "is_pattern" f14) (l14:LkD K "is_pattern" fm f14 oc14 od14 sl14 kV14 dc14 pm14 an14 cd14 ct14) (c14:PySem.W.codeIn K cd14 "is_pattern"=true) (k14:PySem.W.keepIn K (.ref f14)=true)
  (a15:NsD K "is_filling" f15) (l15:LkD K "is_filling" gh f15 oc15 od15 sl15 kV15 dc15 pm15 an15 cd15 ct15) (c15:PySem.W.codeIn K cd15 "is_filling"=true) (k15:PySem.W.keepIn K (.ref f15)=true)
  (a16:NsD K "is_cell" f16) (l16:LkD K "is_cell" jh f16 oc16 od16 sl16 kV16 dc16 pm16 an16 cd16 ct16) (c16:PySem.W.codeIn K cd16 "is_cell"=true) (k16:PySem.W.keepIn K (.ref f16)=true)
  (a17:NsD K "are_instructions" f17) (l17:LkD K "are_instructions" cD f17 oc17 od17 sl17 kV17 dc17 pm17 an17 cd17 ct17) (c17:PySem.W.codeIn K cd17 "are_instructions"=true) (k17:PySem.W.keepIn K (.ref f17)=true)
  (a18:NsD K "is_piece" f18) (l18:LkD K "is_piece" iH f18 oc18 od18 sl18 kV18 dc18 pm18 an18 cd18 ct18) (c18:PySem.W.codeIn K cd18 "is_piece"=true) (k18:PySem.W.keepIn K (.ref f18)=true)
  (a19:NsD K "is_set" f19) (l19:LkD K "is_set" iq f19 oc19 od19 sl19 kV19 dc19 pm19 an19 cd19 ct19) (c19:PySem.W.codeIn K cd19 "is_set"=true) (k19:PySem.W.keepIn K (.ref f19)=true)
  (a20:NsD K "need_set" f20) (l20:LkD K "need_set" iK f20 oc20 od20 sl20 kV20 dc20 pm20 an20 cd20 ct20) (c20:PySem.W.codeIn K cd20 "need_set"=true) (k20:PySem.W.keepIn K (.ref f20)=true)
  (a21:NsD K "may_stand_for" f21) (l21:LkD K "may_stand_for" eH f21 oc21 od21 sl21 kV21 dc21 pm21 an21 cd21 ct21) (c21:PySem.W.codeIn K cd21 "may_stand_for"=true) (k21:PySem.W.keepIn K (.ref f21)=true)
  (a22:NsD K "matches" f22) (l22:LkD K "matches" jl f22 oc22 od22 sl22 kV22 dc22 pm22 an22 cd22 ct22) (c22:PySem.W.codeIn K cd22 "matches"=true) (k22:PySem.W.keepIn K (.ref f22)=true)
  (a23:NsD K "found_in" f23) (l23:LkD K "found_in" iG f23 oc23 od23 sl23 kV23 dc23 pm23 an23 cd23 ct23) (c23:PySem.W.codeIn K cd23 "found_in"=true) (k23:PySem.W.keepIn K (.ref f23)=true)
  (a24:NsD K "filled_cell" f24) (l24:LkD K "filled_cell" fF f24 oc24 od24 sl24 kV24 dc24 pm24 an24 cd24 ct24) (c24:PySem.W.codeIn K cd24 "filled_cell"=true) (k24:PySem.W.keepIn K (.ref f24)=true)
  (a25:NsD K "jump_over" f25) (l25:LkD K "jump_over" gS f25 oc25 od25 sl25 kV25 dc25 pm25 an25 cd25 ct25) (c25:PySem.W.codeIn K cd25 "jump_over"=true) (k25:PySem.W.keepIn K (.ref f25)=true)
  (a26:NsD K "jumps_of_pick" f26) (l26:LkD K "jumps_of_pick" eG f26 oc26 od26 sl26 kV26 dc26 pm26 an26 cd26 ct26) (c26:PySem.W.codeIn K cd26 "jumps_of_pick"=true) (k26:PySem.W.keepIn K (.ref f26)=true)
  (a27:NsD K "ways_of" f27) (l27:LkD K "ways_of" jm f27 oc27 od27 sl27 kV27 dc27 pm27 an27 cd27 ct27) (c27:PySem.W.codeIn K cd27 "ways_of"=true) (k27:PySem.W.keepIn K (.ref f27)=true)
  (a28:NsD K "length_by" f28) (l28:LkD K "length_by" gT f28 oc28 od28 sl28 kV28 dc28 pm28 an28 cd28 ct28) (c28:PySem.W.codeIn K cd28 "length_by"=true) (k28:PySem.W.keepIn K (.ref f28)=true)
  (a29:NsD K "best_by_ways" f29) (l29:LkD K "best_by_ways" bY f29 oc29 od29 sl29 kV29 dc29 pm29 an29 cd29 ct29) (c29:PySem.W.codeIn K cd29 "best_by_ways"=true) (k29:PySem.W.keepIn K (.ref f29)=true)
  (a30:NsD K "best_covering" f30) (l30:LkD K "best_covering" eF f30 oc30 od30 sl30 kV30 dc30 pm30 an30 cd30 ct30) (c30:PySem.W.codeIn K cd30 "best_covering"=true) (k30:PySem.W.keepIn K (.ref f30)=true)
  (a31:NsD K "laid_pick" f31) (l31:LkD K "laid_pick" fM f31 oc31 od31 sl31 kV31 dc31 pm31 an31 cd31 ct31) (c31:PySem.W.codeIn K cd31 "laid_pick"=true) (k31:PySem.W.keepIn K (.ref f31)=true)
  (a32:NsD K "laid_piece" f32) (l32:LkD K "laid_piece" dO f32 oc32 od32 sl32 kV32 dc32 pm32 an32 cd32 ct32) (c32:PySem.W.codeIn K cd32 "laid_piece"=true) (k32:PySem.W.keepIn K (.ref f32)=true)
  (a33:NsD K "laid_cells" f33) (l33:LkD K "laid_cells" gi f33 oc33 od33 sl33 kV33 dc33 pm33 an33 cd33 ct33) (c33:PySem.W.codeIn K cd33 "laid_cells"=true) (k33:PySem.W.keepIn K (.ref f33)=true)
  (a34:NsD K "code_of" f34) (l34:LkD K "code_of" jg f34 oc34 od34 sl34 kV34 dc34 pm34 an34 cd34 ct34) (c34:PySem.W.codeIn K cd34 "code_of"=true) (k34:PySem.W.keepIn K (.ref f34)=true)
  (a35:NsD K "are_parts" f35) (l35:LkD K "are_parts" eT f35 oc35 od35 sl35 kV35 dc35 pm35 an35 cd35 ct35) (c35:PySem.W.codeIn K cd35 "are_parts"=true) (k35:PySem.W.keepIn K (.ref f35)=true)
  (a36:NsD K "need_parts" f36) (l36:LkD K "need_parts" gj f36 oc36 od36 sl36 kV36 dc36 pm36 an36 cd36 ct36) (c36:PySem.W.codeIn K cd36 "need_parts"=true) (k36:PySem.W.keepIn K (.ref f36)=true)
  (a37:NsD K "with_calls" f37) (l37:LkD K "with_calls" gk f37 oc37 od37 sl37 kV37 dc37 pm37 an37 cd37 ct37) (c37:PySem.W.codeIn K cd37 "with_calls"=true) (k37:PySem.W.keepIn K (.ref f37)=true)
  (a38:NsD K "with_calls_within" f38) (l38:LkD K "with_calls_within" cu f38 oc38 od38 sl38 kV38 dc38 pm38 an38 cd38 ct38) (c38:PySem.W.codeIn K cd38 "with_calls_within"=true) (k38:PySem.W.keepIn K (.ref f38)=true)
  (a39:NsD K "code_once" f39) (l39:LkD K "code_once" eU f39 oc39 od39 sl39 kV39 dc39 pm39 an39 cd39 ct39) (c39:PySem.W.codeIn K cd39 "code_once"=true) (k39:PySem.W.keepIn K (.ref f39)=true)
  (a40:NsD K "gain" f40) (l40:LkD K "gain" qj f40 oc40 od40 sl40 kV40 dc40 pm40 an40 cd40 ct40) (c40:PySem.W.codeIn K cd40 "gain"=true) (k40:PySem.W.keepIn K (.ref f40)=true)
  (a41:NsD K "best_part" f41) (l41:LkD K "best_part" gQ f41 oc41 od41 sl41 kV41 dc41 pm41 an41 cd41 ct41) (c41:PySem.W.codeIn K cd41 "best_part"=true) (k41:PySem.W.keepIn K (.ref f41)=true)
  (a42:NsD K "_law_draw" f42) (l42:LkD K "_law_draw" gO f42 oc42 od42 sl42 kV42 dc42 pm42 an42 cd42 ct42) (c42:PySem.W.codeIn K cd42 "_law_draw"=true) (k42:PySem.W.keepIn K (.ref f42)=true)
  (a43:NsD K "_law_pick" f43) (l43:LkD K "_law_pick" gP f43 oc43 od43 sl43 kV43 dc43 pm43 an43 cd43 ct43) (c43:PySem.W.codeIn K cd43 "_law_pick"=true) (k43:PySem.W.keepIn K (.ref f43)=true)
  (a44:NsD K "_law_tree" f44) (l44:LkD K "_law_tree" fL f44 oc44 od44 sl44 kV44 dc44 pm44 an44 cd44 ct44) (c44:PySem.W.codeIn K cd44 "_law_tree"=true) (k44:PySem.W.keepIn K (.ref f44)=true)
  (a45:NsD K "_law_parts" f45) (l45:LkD K "_law_parts" gg f45 oc45 od45 sl45 kV45 dc45 pm45 an45 cd45 ct45) (c45:PySem.W.codeIn K cd45 "_law_parts"=true) (k45:PySem.W.keepIn K (.ref f45)=true)
  (a46:NsD K "_law_pieces" f46) (l46:LkD K "_law_pieces" fE f46 oc46 od46 sl46 kV46 dc46 pm46 an46 cd46 ct46) (c46:PySem.W.codeIn K cd46 "_law_pieces"=true) (k46:PySem.W.keepIn K (.ref f46)=true)
  (a47:NsD K "_law_set" f47) (l47:LkD K "_law_set" gB f47 oc47 od47 sl47 kV47 dc47 pm47 an47 cd47 ct47) (c47:PySem.W.codeIn K cd47 "_law_set"=true) (k47:PySem.W.keepIn K (.ref f47)=true)
  (a48:NsD K "_law_heavy" f48) (l48:LkD K "_law_heavy" fk f48 oc48 od48 sl48 kV48 dc48 pm48 an48 cd48 ct48) (c48:PySem.W.codeIn K cd48 "_law_heavy"=true) (k48:PySem.W.keepIn K (.ref f48)=true)
  (a49:NsD K "_law_doubled" f49) (l49:LkD K "_law_doubled" fj f49 oc49 od49 sl49 kV49 dc49 pm49 an49 cd49 ct49) (c49:PySem.W.codeIn K cd49 "_law_doubled"=true) (k49:PySem.W.keepIn K (.ref f49)=true)
  (a50:NsD K "law" f50) (l50:LkD K "law" r6 f50 oc50 od50 sl50 kV50 dc50 pm50 an50 cd50 ct50) (c50:PySem.W.codeIn K cd50 "law"=true) (k50:PySem.W.keepIn K (.ref f50)=true)
  (E5:PySem.W.nsIn K mainGlobals "MOST_PARTS"=some (some (.int 40 FT)))
  (Ft:PySem.W.nsIn K mainGlobals "MOST_DEEP"=some (some (.int 8 Gq)))
  (Ej:PySem.W.nsIn K mainGlobals "LONGEST_NAME"=some (some (.int 8 E2)))
  (E1:PySem.W.nsIn K mainGlobals "MOST_CELL"=some (some (.int 99 Gp)))
  (DR:PySem.W.nsIn K mainGlobals "MOST_PATTERN_DEEP"=some (some (.int 3 DY)))
  (F1:PySem.W.nsIn K mainGlobals "MOST_GAP"=some (some (.int 9999 GY)))
  (DS:PySem.W.nsIn K mainGlobals "MOST_PIECE_CELLS"=some (some (.int 12 D7)))
  (EF:PySem.W.nsIn K mainGlobals "MOST_PIECES"=some (some (.int 16 Fg)))
  (Fu:PySem.W.nsIn K mainGlobals "MOST_NEAR"=some (some (.int 9 Gr)))
  (E4:PySem.W.nsIn K mainGlobals "CALL_CELLS"=some (some (.int 3 FS)))
  (Jb:PySem.W.nsIn K mainGlobals "END"=some (some (.int 0 JI)))
  (IE:PySem.W.nsIn K mainGlobals "CALL"=some (some (.int 15 Jg)))
  (ID:PySem.W.nsIn K mainGlobals "BACK"=some (some (.int 16 Jf)))
  (EG:PySem.W.nsIn K mainGlobals "MOST_SHARED"=some (some (.int 6 Fh)))
  (D5:PySem.W.nsIn K mainGlobals "MOST_IN_LEAF"=some (some (.ref GO))) (D6:KTD.tabLook (KTD.datLooks λb=>K.lookup b) (λb=>K.lookup b) GO TL=true)
  (DH:PySem.W.nsIn K mainGlobals "TREES_IN_BRANCH"=some (some (.ref FD))) (DI:KTD.tabLook (KTD.datLooks λb=>K.lookup b) (λb=>K.lookup b) FD TB=true)
  (DU:PySem.W.nsIn K mainGlobals "MARK_LENGTHS"=some (some (.ref Eh))) (DG:KTD.tabLook (KTD.datLooks λb=>K.lookup b) (λb=>K.lookup b) Eh TM=true)
  (Ee:PySem.W.nsIn K mainGlobals "FILLED_FROM"=some (some (.ref Hf))) (Ef:KTD.tabLook (KTD.datLooks λb=>K.lookup b) (λb=>K.lookup b) Hf TF=true)
  (D4:PySem.W.nsIn K mainGlobals "INSTRUCTIONS"=some (some (.ref GN))) (GZ:ft K (.tup INS) (.ref GN)=true)
  (F3:PySem.W.nsIn K mainGlobals "STRAIGHT"=some (some (.ref Ij))) (Im:ft K (.tup STR) (.ref Ij)=true)
  (HY:PySem.W.nsIn K mainGlobals "AHEAD"=some (some (.ref Jt))) (Jx:ft K (.tup AHE) (.ref Jt)=true)
  (Hs:PySem.W.nsIn K mainGlobals "BEHIND"=some (some (.ref IZ))) (Jh:ft K (.tup BEH) (.ref IZ)=true)
  (HZ:PySem.W.nsIn K mainGlobals "BASIC"=some (some (.ref Ju))) (Jy:mz K BAS Ju=true)
  (GW:K.lookup Eh=some ob_MARK_LENGTHS) (GR:KTD.tabLook KTD.flatLooks (λb=>K.lookup b) Eh ([("hole",.int 2),("gap",.int 3),("slot",.int 2)]:List (Str × PyData))=true) (GX:KTD.hashesOf (λb=>K.lookup b) Eh=([("hole",.int 2),("gap",.int 3),("slot",.int 2)]:List (Str × PyData)).map λp=>(PySem.strKind l.prog w).hash p.1)
  (J4:PySem.W.nsIn K mainGlobals "len"=some none)
  (HD:PySem.W.nsIn K mainGlobals "isinstance"=some none)
  (J3:PySem.W.nsIn K mainGlobals "int"=some none)
  (JL:PySem.W.nsIn K mainGlobals "bool"=some none)
  (J7:PySem.W.nsIn K mainGlobals "str"=some none)
  (JA:PySem.W.nsIn K mainGlobals "tuple"=some none)
  (JM:PySem.W.nsIn K mainGlobals "list"=some none)
  (Jz:PySem.W.nsIn K mainGlobals "range"=some none)
  (J1:PySem.W.nsIn K mainGlobals "all"=some none)
  (J2:PySem.W.nsIn K mainGlobals "any"=some none)
  (J6:PySem.W.nsIn K mainGlobals "set"=some none)
  (J8:PySem.W.nsIn K mainGlobals "sum"=some none)
  (Io:PySem.W.nsIn K mainGlobals "reversed"=some none)
  (J9:PySem.W.nsIn K mainGlobals "zip"=some none)
  (HR:PySem.W.nsIn K mainGlobals "enumerate"=some none)
  (J5:PySem.W.nsIn K mainGlobals "max"=some none) :
  ∃ fd:FuncData,(∀ (s:Shared) (v:Value),BindsTo s fd ⟨[v],[]⟩ [("_law_script",v)])/\∀ base:Heap,K.In base->base.Ns mainGlobals mg->FnOk l.prog w K mg base CX0 30 fa fd ["_law_script"] (r9 K):=by
 have M:∀ {n:Str} {v:Value},PySem.W.nsIn K mainGlobals n=some (some v)->mg n=some v:=PySem.W.mg_of X G
 have N:∀ {n:Str},PySem.W.nsIn K mainGlobals n=some none->mg n=none:=PySem.W.mg_none_of X G
 have e:=hfa.symm.trans (M a50)
 cases e
 let T:Txt l.prog w K mg :=
  {Es:=f1,Ew:=_,Ez:=bf (st:=iI) l1 c1 k1,Fk:=M a1,
   EO:=f2,EW:=_,Fs:=bf (st:=gR) l2 c2 k2,He:=M a2,
   GC:=f3,GF:=_,Hq:=bf (st:=jk) l3 c3 k3,IG:=M a3,
   DM:=f4,DO:=_,DT:=bf (st:=fq) l4 c4 k4,Ek:=M a4,
   GD:=f5,GG:=_,Hr:=bf (st:=ir) l5 c5 k5,IH:=M a5,
   Fo:=f6,Fq:=_,Gk:=bf (st:=gU) l6 c6 k6,HP:=M a6,
   FC:=f7,FJ:=_,GU:=bf (st:=j5) l7 c7 k7,HQ:=M a7,
   Hi:=f8,Hm:=_,HW:=bf (st:=ip) l8 c8 k8,Jn:=M a8,
   Eg:=f9,Ei:=_,E3:=bf (st:=dN) l9 c9 k9,Ht:=M a9,
   Hh:=f10,Hl:=_,HV:=bf (st:=ji) l10 c10 k10,Jm:=M a10,
   DL:=f11,DN:=_,Ec:=bf (st:=cI) l11 c11 k11,FQ:=M a11,
   ER:=f12,EX:=_,F0:=bf (st:=iJ) l12 c12 k12,HB:=M a12,
   Fc:=f13,Ff:=_,F6:=bf (st:=eE) l13 c13 k13,Ie:=M a13,
   Fz:=f14,FG:=_,Gy:=bf (st:=fm) l14 c14 k14,Iv:=M a14,
   Fy:=f15,FF:=_,Gx:=bf (st:=gh) l15 c15 k15,Iu:=M a15,
   Hg:=f16,Hk:=_,HU:=bf (st:=jh) l16 c16 k16,Jl:=M a16,
   D2:=f17,D3:=_,Ey:=bf (st:=cD) l17 c17 k17,GV:=M a17,
   GL:=f18,GQ:=_,Hy:=bf (st:=iH) l18 c18 k18,Jd:=M a18,
   HH:=f19,HI:=_,Ir:=bf (st:=iq) l19 c19 k19,JH:=M a19,
   FW:=f20,FZ:=_,GT:=bf (st:=iK) l20 c20 k20,Il:=M a20,
   EB:=f21,EC:=_,Fi:=bf (st:=eH) l21 c21 k21,HE:=M a21,
   FV:=f22,FY:=_,GH:=bf (st:=jl) l22 c22 k22,Ia:=M a22,
   FU:=f23,FX:=_,GS:=bf (st:=iG) l23 c23 k23,Ik:=M a23,
   Fb:=f24,Fe:=_,F5:=bf (st:=fF) l24 c24 k24,Ic:=M a24,
   Ga:=f25,Gf:=_,Gj:=bf (st:=gS) l25 c25 k25,HN:=M a25,
   D9:=f26,Eb:=_,EE:=bf (st:=eG) l26 c26 k26,Gw:=M a26,
   Hj:=f27,Hn:=_,HX:=bf (st:=jm) l27 c27 k27,Jo:=M a27,
   Gc:=f28,Gh:=_,Hd:=bf (st:=gT) l28 c28 k28,IM:=M a28,
   EN:=f29,EV:=_,FO:=bf (st:=bY) l29 c29 k29,HL:=M a29,
   D8:=f30,Ea:=_,ED:=bf (st:=eF) l30 c30 k30,Gv:=M a30,
   Gb:=f31,Gg:=_,Hc:=bf (st:=fM) l31 c31 k31,IL:=M a31,
   FA:=f32,FH:=_,Gz:=bf (st:=dO) l32 c32 k32,Iw:=M a32,
   DZ:=f33,D0:=_,EA:=bf (st:=gi) l33 c33 k33,FR:=M a33,
   GB:=f34,GE:=_,Ho:=bf (st:=jg) l34 c34 k34,IF:=M a34,
   F8:=f35,Gd:=_,Ha:=bf (st:=eT) l35 c35 k35,IJ:=M a35,
   FB:=f36,FI:=_,GA:=bf (st:=gj) l36 c36 k36,Iy:=M a36,
   Et:=f37,Ex:=_,FP:=bf (st:=gk) l37 c37 k37,HC:=M a37,
   DP:=f38,DQ:=_,DX:=bf (st:=cu) l38 c38 k38,E7:=M a38,
   Fn:=f39,Fp:=_,Gi:=bf (st:=eU) l39 c39 k39,HM:=M a39,
   IX:=f40,Ja:=_,Jv:=bf (st:=qj) l40 c40 k40,JW:=M a40,
   F9:=f41,Ge:=_,Hb:=bf (st:=gQ) l41 c41 k41,IK:=M a41,
   EL:=f42,ET:=_,Eo:=bf (st:=gO) l42 c42 k42,Fv:=M a42,
   EM:=f43,EU:=_,EY:=bf (st:=gP) l43 c43 k43,Gm:=M a43,
   El:=f44,Em:=_,EZ:=bf (st:=fL) l44 c44 k44,Gn:=M a44,
   Er:=f45,Eu:=_,FN:=bf (st:=gg) l45 c45 k45,HA:=M a45,
   E9:=f46,Fd:=_,F4:=bf (st:=fE) l46 c46 k46,Ib:=M a46,
   GK:=f47,GP:=_,Hx:=bf (st:=gB) l47 c47 k47,Jc:=M a47,
   Fx:=f48,FE:=_,FL:=bf (st:=fk) l48 c48 k48,Hz:=M a48,
   EK:=f49,ES:=_,FK:=bf (st:=fj) l49 c49 k49,HK:=M a49,
   JF:=fa,JP:=_,Ka:=bf (st:=r6) l50 c50 k50,Kf:=M a50,
   FT:=FT,E5:=M E5,
   Gq:=Gq,Ft:=M Ft,
   E2:=E2,Ej:=M Ej,
   Gp:=Gp,E1:=M E1,
   DY:=DY,DR:=M DR,
   GY:=GY,F1:=M F1,
   D7:=D7,DS:=M DS,
   Fg:=Fg,EF:=M EF,
   Gr:=Gr,Fu:=M Fu,
   FS:=FS,E4:=M E4,
   JI:=JI,Jb:=M Jb,
   Jg:=Jg,IE:=M IE,
   Jf:=Jf,ID:=M ID,
   Fh:=Fh,EG:=M EG,
   EJ:=GO,D5:=M D5,D6:=λh x=>PySem.W.kt_text_in x D6,
   DV:=FD,DH:=M DH,DI:=λh x=>PySem.W.kt_text_in x DI,
   D1:=Eh,DU:=M DU,DG:=λh x=>PySem.W.kt_text_in x DG,
   E8:=Hf,Ee:=M Ee,Ef:=λh x=>PySem.W.kt_text_in x Ef,
   EI:=GN,D4:=M D4,GM:=GZ,
   Hw:=Ij,F3:=M F3,IY:=Im,
   IS:=Jt,HY:=M HY,JN:=Jx,
   Iq:=IZ,Hs:=M Hs,JG:=Jh,
   IT:=Ju,HZ:=M HZ,JO:=Jy,
   HJ:=⟨⟨_,GW⟩,λh x=>⟨_,PySem.W.kt_tab_in l.prog w x GR (by decide +kernel) GX,rfl⟩⟩,
   DW:=N J4,
   DJ:=N HD,
   JY:=N J3,
   JX:=N JL,
   J0:=N J7,
   Fj:=N JA,
   Jw:=N JM,
   IU:=N Jz,
   IP:=N J1,
   Kb:=N J2,
   Kc:=N J6,
   Kd:=N J8,
   Je:=N Io,
   JQ:=N J9,
   IQ:=N HR,
   JZ:=N J5 }
 exact ⟨_,λs v=>.of_eq rfl,λbase _ _=>chain T⟩
theorem walk {q:Program} {loose:List Str} {XP:(Str->Option Value)->Heap->Prop} {YP:World->Heap->Prop} {d:DefRec} {K:Params->PySem.W.Frag} (hn:l.most=some 63) (hdf:d.params.defaults=[])
  (hY:∀ (w:World) (h:Heap),YP w h->(K w.params).In h)
  (F:∀ (w:World) (mg:Str->Option Value) (fa:Addr) (h:Heap),(K w.params).In h->h.Ns mainGlobals mg->mg d.name=some (.ref fa) ->
   ∃ fd:FuncData,(∀ (s:Shared) (u:Value),BindsTo s fd ⟨[u],[]⟩ [("_law_script",u)])/\∀ base:Heap,(K w.params).In base->base.Ns mainGlobals mg->FnOk l.prog w (K w.params) mg base CX0 30 fa fd ["_law_script"] (r9 (K w.params))) :
  PySem.W.WalkO q loose XP YP l.row.toRowW d [] (λf vs=>PySem.call f vs) :=
 L2.walk_of (n:=63) (k:=30) (x:="_law_script") (CX:=λ_=>CX0) (sp:=λw=>r9 (K w.params)) hn (by decide) hdf ⟨rfl,by decide,by decide⟩ hY F (λ_ _ a ns hl hO hS=>⟨a,ns,rfl,B9 hO hS,λ_=>rfl⟩) λ_ _ _ _ _ z=>z
end My
open PySem PySem.W PyProof.Rows
set_option maxRecDepth 100000 in
set_option maxHeartbeats 0 in
theorem PySem.Challenge.cw_piecelay_k20_whole_best_part_holds : PySem.Challenge.rw_piecelay_k20_whole_best_part.Holds := by
 w_on;o_law
 refine holds_open (q:=My.view) (loose:=My.loose) (Xt:=My.xt) (XP:=XL My.view []) (Yf:=Hook.obs (kHook My.k0.heap_1 My.kas My.kas_ok)) (Ya:=Hook.val (kHook My.k0.heap_1 My.kas My.kas_ok)) (YP:=Hook.says (kHook My.k0.heap_1 My.kas My.kas_ok)) (N:=My.NN) My.left (Hook.of (kHook My.k0.heap_1 My.kas My.kas_ok)) (Hook.keeps (kHook My.k0.heap_1 My.kas My.kas_ok)) (λs e=>xl_of s (Bool.and_eq_true_iff.mp e).1) XL.keeps (by rfl) (by rfl) (by rfl) (λs e=>recFacts_of (Bool.and_eq_true_iff.mp e).2) (by rfl) (by first | assumption | decide +kernel) (by decide +kernel) ⟨rfl,rfl,rfl,rfl,rfl,by decide +kernel⟩ ?hw ?hc
 case hw=>w_witness2
 k_fill
 refine My.walk (l:=PySem.Challenge.rw_piecelay_k20_whole_best_part) rfl rfl (λw h Y=>PySem.W.kIn_of Y) ?F
 case F =>
  intro w mg fa h KX G hmg
  refine' My.all_mk KX G hmg ?a1 ?l1 ?c1 ?k1 ?a2 ?l2 ?c2 ?k2 ?a3 ?l3 ?c3 ?k3 ?a4 ?l4 ?c4 ?k4 ?a5 ?l5 ?c5 ?k5 ?a6 ?l6 ?c6 ?k6 ?a7 ?l7 ?c7 ?k7 ?a8 ?l8 ?c8 ?k8 ?a9 ?l9 ?c9 ?k9 ?a10 ?l10 ?c10 ?k10 ?a11 ?l11 ?c11 ?k11 ?a12 ?l12 ?c12 ?k12 ?a13 ?l13 ?c13 ?k13 ?a14 ?l14 ?c14 ?k14 ?a15 ?l15 ?c15 ?k15 ?a16 ?l16 ?c16 ?k16 ?a17 ?l17 ?c17 ?k17 ?a18 ?l18 ?c18 ?k18 ?a19 ?l19 ?c19 ?k19 ?a20 ?l20 ?c20 ?k20 ?a21 ?l21 ?c21 ?k21 ?a22 ?l22 ?c22 ?k22 ?a23 ?l23 ?c23 ?k23 ?a24 ?l24 ?c24 ?k24 ?a25 ?l25 ?c25 ?k25 ?a26 ?l26 ?c26 ?k26 ?a27 ?l27 ?c27 ?k27 ?a28 ?l28 ?c28 ?k28 ?a29 ?l29 ?c29 ?k29 ?a30 ?l30 ?c30 ?k30 ?a31 ?l31 ?c31 ?k31 ?a32 ?l32 ?c32 ?k32 ?a33 ?l33 ?c33 ?k33 ?a34 ?l34 ?c34 ?k34 ?a35 ?l35 ?c35 ?k35 ?a36 ?l36 ?c36 ?k36 ?a37 ?l37 ?c37 ?k37 ?a38 ?l38 ?c38 ?k38 ?a39 ?l39 ?c39 ?k39 ?a40 ?l40 ?c40 ?k40 ?a41 ?l41 ?c41 ?k41 ?a42 ?l42 ?c42 ?k42 ?a43 ?l43 ?c43 ?k43 ?a44 ?l44 ?c44 ?k44 ?a45 ?l45 ?c45 ?k45 ?a46 ?l46 ?c46 ?k46 ?a47 ?l47 ?c47 ?k47 ?a48 ?l48 ?c48 ?k48 ?a49 ?l49 ?c49 ?k49 ?a50 ?l50 ?c50 ?k50 ?E5 ?Ft ?Ej ?E1 ?DR ?F1 ?DS ?EF ?Fu ?E4 ?Jb ?IE ?ID ?EG ?D5 ?D6 ?DH ?DI ?DU ?DG ?Ee ?Ef ?D4 ?GZ ?F3 ?Im ?HY ?Jx ?Hs ?Jh ?HZ ?Jy ?GW ?GR ?GX ?J4 ?HD ?J3 ?JL ?J7 ?JA ?JM ?Jz ?J1 ?J2 ?J6 ?J8 ?Io ?J9 ?HR ?J5
  case a1 | a2 | a3 | a4 | a5 | a6 | a7 | a8 | a9 | a10 | a11 | a12 | a13 | a14 | a15 | a16 | a17 | a18 | a19 | a20 | a21 | a22 | a23 | a24 | a25 | a26 | a27 | a28 | a29 | a30 | a31 | a32 | a33 | a34 | a35 | a36 | a37 | a38 | a39 | a40 | a41 | a42 | a43 | a44 | a45 | a46 | a47 | a48 | a49 | a50=>change _=_;k_is
  case l1 | l2 | l3 | l4 | l5 | l6 | l7 | l8 | l9 | l10 | l11 | l12 | l13 | l14 | l15 | l16 | l17 | l18 | l19 | l20 | l21 | l22 | l23 | l24 | l25 | l26 | l27 | l28 | l29 | l30 | l31 | l32 | l33 | l34 | l35 | l36 | l37 | l38 | l39 | l40 | l41 | l42 | l43 | l44 | l45 | l46 | l47 | l48 | l49 | l50=>change _=_;k_is
  case c1 | c2 | c3 | c4 | c5 | c6 | c7 | c8 | c9 | c10 | c11 | c12 | c13 | c14 | c15 | c16 | c17 | c18 | c19 | c20 | c21 | c22 | c23 | c24 | c25 | c26 | c27 | c28 | c29 | c30 | c31 | c32 | c33 | c34 | c35 | c36 | c37 | c38 | c39 | c40 | c41 | c42 | c43 | c44 | c45 | c46 | c47 | c48 | c49 | c50 | k1 | k2 | k3 | k4 | k5 | k6 | k7 | k8 | k9 | k10 | k11 | k12 | k13 | k14 | k15 | k16 | k17 | k18 | k19 | k20 | k21 | k22 | k23 | k24 | k25 | k26 | k27 | k28 | k29 | k30 | k31 | k32 | k33 | k34 | k35 | k36 | k37 | k38 | k39 | k40 | k41 | k42 | k43 | k44 | k45 | k46 | k47 | k48 | k49 | k50=>k_is
  case E5 | Ft | Ej | E1 | DR | F1 | DS | EF | Fu | E4 | Jb | IE | ID | EG | D5 | DH | DU | Ee | D4 | F3 | HY | Hs | HZ | GW | J4 | HD | J3 | JL | J7 | JA | JM | Jz | J1 | J2 | J6 | J8 | Io | J9 | HR | J5=>k_is
  case D6 | DI | DG | Ef | GZ | Im | Jx | Jh | Jy | GR=>first | rfl | decide +kernel
  case GX=>first | rfl | kernel_rfl | decide +kernel
