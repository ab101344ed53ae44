import PyProof.Rows.All
import Wide.All
import OpenK.AllK
import Wide.FinOn
import Lean
import PyProof.EqAt
import PyProof.EqKinds
import PyProof.TupleCall
import PyProof.NeKinds
import KE.KTab
import KE.KTops
import PyProof.FString5
import PyProof.ListRange
import KE.KRevIter
import PyProof.Rows.SumAny
import PyProof.Rows.SetFrom
import KE.KRevSl
import KE.KTryMore
import PyProof.ExcAttrAll.ValueError
import PyProof.Rows.CountFlat
import PyProof.ExcInit
import PyProof.InstStoreFacts
import PyProof.Draws
import PyProof.EnumMake
import PyProof.ZipIter
import PyProof.WalkInts
import PyProof.Rows.MinMaxN
import KE.KUnpack
import PyProof.StationsW
import PySem.Challenge.RW_piecelay_k11_whole_contracts
set_option Elab.async false
set_option linter.all false
set_option maxRecDepth 100000
set_option maxHeartbeats 4000000
section
namespace LT
open PySem PySem.W PyProof.Rows
noncomputable def ran (p:Program) (w:World) (n₀:Nat) (ann:Option Value):Nat->SharedT->Thread->Option SharedT
 | 0,_,_=>none
 | k+1,s,t=>bif through t then some s else bif Fast.tw6613529449190102663 n₀ ann t then
   (Fast.tw10156331382660048174 (Fast.tw11892475500146522536 Fast.tw14364793385576792824) p w s t).bind λx=>ran p w n₀ ann k x.1 x.2
  else none
variable {p:Program}
theorem AU {w:World} {n₀:Nat} {ann:Option Value} (k:Nat):∀ {s s':SharedT} {t:Thread},ran p w n₀ ann k s t=some s'->topRun treeTable p w n₀ ann k s.abs t=some s'.abs:=by
 induction k with
 | zero=>intro s s' t h;cases h
 | succ k ih =>
  intro s s' t h
  unfold ran at h
  rw [← Fast.te6613529449190102663,← Fast.te10156331382660048174,← Fast.te11892475500146522536,← Fast.te14364793385576792824] at h
  unfold topRun
  cases c1:through t
  ·cases c2:stepOk n₀ ann t
   ·rw [c1,c2] at h;cases h
   ·rw [c1,c2] at h
    obtain ⟨x,hx,hr⟩:=Option.bind_eq_some_iff.mp (show (stepT (denote treeTable) p w s t).bind _=some s' from h)
    rw [stepT_spec (s':=x.1) (t':=x.2) hx]
    exact ih hr
  ·rw [c1] at h
   cases h
   rfl
noncomputable def xG (P:Params):BT:=((boot_heap P).objs.toList.foldl (λ(x:BT × Nat) o=>(x.1.ins x.2 o,x.2+1)) (BT.nil,0)).1
theorem xH:∀ P,absHeap (xG P) 11 {}=boot_heap P:=λP=>by kernel_rfl
noncomputable abbrev boot (P:Params) (os:OsState):SharedT:=⟨xG P,11,{},#[],boot_drawn,boot_toks,os⟩
theorem xI (P:Params) (os:OsState):(boot P os).abs=⟨boot_heap P,#[],boot_drawn,boot_toks,os⟩:=by
 show (⟨absHeap (xG P) 11 {},#[],boot_drawn,boot_toks,os⟩:Shared)=_
 rw [xH]
noncomputable def BB (p q:Program) (loose:List Str) (Xt:Shared->Bool) (P:Params) (s:Shared) :=
 (staticsOk (Fast.tw5923862056798008813 p.main.body) (boot_heap P) s.heap && namesBound p s.heap && gensDone s && laidKept (boot_heap P) s.heap,Fast.tw4187177175401517315 q loose (Fast.tw5923862056798008813 p.main.body) Xt true s)
theorem Bg:∀ P:Params,((boot_heap P).isNs mainGlobals && (#[]:Array GenState).size == 0,(boot_heap P).objs.size,(boot_heap P).nsMap mainGlobals "__annotations__")=(true,11,some (.ref 6)):=λP=>by kernel_rfl
theorem left {q:Program} {loose:List Str} {Xt:Shared->Bool} {α:Type} {Yf:Shared->α} {Ya:World->α} {N:Nat} (e:opening p=plainProg p.main.scope.names) (hN:Nat.ble 600 N=true) (f:∀ s,fenceModules? p s=some s)
  (h:∀ (w:World) (os:OsState),(ran p w 11 (some (.ref 6)) N (boot w.params os) (topStub p)).map (λs=>(BB p q loose Xt w.params s.abs,Yf s.abs))=some ((true,openGood q loose),Ya w)):LeftO p q loose Xt Yf Ya N:=λw=>by
 obtain ⟨⟨h0,gs,d,k,os⟩,e,e'⟩:=Option.map_eq_some_iff.mp (boot_open e hN f w)
 obtain ⟨rfl,rfl,rfl,rfl⟩:h0=boot_heap w.params/\gs=Array.mk []/\d=boot_drawn/\k=boot_toks:=by simpa using e'
 obtain ⟨s1,hr,hs⟩:=Option.map_eq_some_iff.mp (h w os)
 have r:=AU N hr
 rw [xI] at r
 obtain ⟨hs,hy⟩:=Prod.mk.inj hs
 unfold BB at hs
 rw [← Fast.te4187177175401517315,← Fast.te5923862056798008813] at hs
 obtain ⟨hl,hg⟩:=Prod.mk.inj (show (staticsOk (importedModules p.main.body) (boot_heap w.params) s1.abs.heap && namesBound p s1.abs.heap && gensDone s1.abs && laidKept (boot_heap w.params) s1.abs.heap,openSeen q loose (importedModules p.main.body) Xt true s1.abs)=(true,openGood q loose) from hs)
 obtain ⟨z1,z2,z3⟩:_/\_/\_:=by simpa only [Prod.mk.injEq] using Bg w.params
 have t:topFrom treeTable p w N ⟨boot_heap w.params,Array.mk [],boot_drawn,boot_toks,os⟩=some s1.abs:=by
  unfold topFrom
  dsimp only
  rw [z1,z2,z3,r]
  show (match staticsOk (importedModules p.main.body) (boot_heap w.params) s1.abs.heap && namesBound p s1.abs.heap && gensDone s1.abs && laidKept (boot_heap w.params) s1.abs.heap with | true=>_ | false=>_)=_
  rw [hl]
 unfold openEnds
 rw [e]
 show (topFrom treeTable p w N _).map _=_
 rw [t]
 exact congrArg some (Prod.ext hg hy)
end LT
namespace LT
section
universe u1 u2 u3 u4 u5 u6 u7 u8 u9
variable {S:Type u1} {A:Type u2} {B:Type u3} {C:Type u4} {D:Type u5} {E:Type u6} {F:Type u7} {R:Type u8} {V:Type u9}
def lot1 (x:A × B × C × D × E × F × R):A × B × C:=match x with | (a,b,c,_)=>(a,b,c)
def lot2 (x:A × B × C × D × E × F × R):D × E × R:=match x with | (_,_,_,d,e,_,r)=>(d,e,r)
def lot3 (x:A × B × C × D × E × F × R):F:=match x with | (_,_,_,_,_,f,_)=>f
theorem lots {o:Option S} {f:S->A × B × C × D × E × F × R} {y:A × B × C × D × E × F × R} {st:S->Bool} {ob:S->V} {v:V} (h1:o.map (λs=>lot1 (f s))=some (y.1,y.2.1,y.2.2.1)) (h2:o.map (λs=>lot2 (f s))=some (y.2.2.2.1,y.2.2.2.2.1,y.2.2.2.2.2.2))
  (h3:o.map (λs=>lot3 (f s))=some y.2.2.2.2.2.1) (h4:o.map (λs=>(st s,ob s))=some (true,v)):o.map (λs=>((st s,f s),ob s))=some ((true,y),v):=by
 cases o with
 | none=>cases h1
 | some s =>
  have k1:lot1 (f s)=_:=Option.some.inj h1
  have k2:lot2 (f s)=_:=Option.some.inj h2
  have k3:lot3 (f s)=_:=Option.some.inj h3
  have k4:(st s,ob s)=_:=Option.some.inj h4
  show some ((st s,f s),ob s)=_
  generalize f s=x at k1 k2 k3 ⊢
  obtain ⟨a,b,c,d,e,g,r⟩:=x
  obtain ⟨a',b',c',d',e',g',r'⟩:=y
  have k1:(a,b,c)=(a',b',c'):=k1
  have k2:(d,e,r)=(d',e',r'):=k2
  have k3:g=g':=k3
  injection k4 with k4 k5
  cases k1
  cases k2
  cases k3
  rw [k4,k5]
end
end LT
namespace My
open PySem
def top (i:Nat):Stmt:=PySem.Challenge.pw_piecelay_k11_whole_contracts.main.body.getD i (.Pass ⟨0,0,0,0⟩)
end My
end
section
open PySem PySem.W PyProof.Rows
section
local macro_rules | `(tactic| o_head $H:term)=>`(tactic| (have _hook:=$H;assumption))
theorem My.k0 (h:PySem.Challenge.rw_piecelay_k11_whole_contracts.row.Holds):PySem.Challenge.rw_piecelay_k11_whole_contracts.row.Holds:=by
 k_head
end
namespace My
def view:Program:={ PySem.Challenge.pw_piecelay_k11_whole_contracts with main:={ PySem.Challenge.pw_piecelay_k11_whole_contracts.main with body:=[top 1,top 2,top 3,top 4,top 6,top 7,top 8,top 9,top 10,top 11,top 14,top 15,top 16,top 17,top 18,top 19,top 21,top 22,top 23,top 24,top 25,top 26,top 27,top 28,top 29,top 31,top 32,top 33,top 34,top 35,top 36,top 37,top 38,top 39,top 40,top 41,top 42,top 43,top 44,top 45,top 46,top 47,top 48,top 49,top 50,top 51,top 52,top 53,top 54,top 55,top 56,top 58,top 59,top 60,top 61,top 62,top 63,top 64,top 65,top 66,top 67,top 68,top 69,top 70,top 71,top 72,top 73,top 74,top 75,top 76,top 77,top 78,top 79,top 80,top 81,top 82] } }
abbrev PRG:Program:=PySem.Challenge.pw_piecelay_k11_whole_contracts
abbrev loose:List Str:=["need_size","MOST_IN_LEAF","TREES_IN_BRANCH","MOST_TOLD","MARK_LENGTHS","FILLED_FROM","BASIC"]
abbrev xt (s:Shared):Bool:=xlAt view [] s && recOk (RowW.records (OpenRow.toRowW (OpenLaw.row PySem.Challenge.rw_piecelay_k11_whole_contracts))) s
abbrev kas:List Addr:=[2,3,15,22,23,24,25,28,35,36,37,40,47,48,49,52,59,61,62,64,65,66,67,68,71,73,74,76,77,78,80,81,83,84,85,88,89,90,91,93,94,96,97,98,99,100,102,103,105,106,107,109,110,112,113,114,116,117,119,120,121,123,124,126,127,128,129,130,131,132,133,134,135,136,137,138,139,140,141,142,143,144,145,146,147,148,150,151,153,154,155,157,158,160,161,169,171,172,174,175,176,178,179,181,182,183,185,186,188,189,190,192,193,195,196,197,199,200,202,203,204,206,207,209,210,211,213,214,216,217,218,219,220,221,222,225,226,227,228,229,230,231,232,233,234,235,236,237,238,239,240,241,242,243,244,245,246,247,248,249,250,251,252,253,254,255,256,257,258,259,260,261,262,263,264,265,266,267,268,269,271,272,274,275,276,279,280,281,283,284,286,287,288,291,292,293,296,297,298,300,301,303,304,305,307,308,310,311,312,315,316,317,319,320,322,323,324,326,327,329,330,331,333,334,336,337,338,340,341,343,344,345,348,349,350,353,354,355,358,359,360,363,364,365,367,368,370,371,372,374,375,377,378,379,381,382,384,385,393,395,396,398,399,400,402,403,405,406,414,416,417,419,420,433,435,436,438,439,471,473,474,476,477,483,486,487,488,490,491,493,494,495,497,498,500,501,502,505,506,507,510,511,512,514,515,517,518,519,521,522,524,525]
theorem kas_ok:∀ P,kas=(My.k0.heap_1 P).map (·.1):=λ_=>by kernel_rfl
noncomputable abbrev hk:Hook:=kHook My.k0.heap_1 kas kas_ok
abbrev NN:Nat:=9000
noncomputable abbrev An (w:World) (os:OsState):=LT.ran PRG w 11 (some (.ref 6)) NN (LT.boot w.params os) (topStub PRG)
noncomputable abbrev gP (P:Params) (s:SharedT):Bool:=staticsOk (Fast.tw5923862056798008813 PRG.main.body) (boot_heap P) s.abs.heap && namesBound PRG s.abs.heap && gensDone s.abs && laidKept (boot_heap P) s.abs.heap
noncomputable abbrev CI (s:SharedT):=Fast.tw4187177175401517315 view loose (Fast.tw5923862056798008813 PRG.main.body) xt true s.abs
noncomputable abbrev sX:=openGood view loose
abbrev zh (w:World) (os:OsState):Prop:=(An w os).map (λs=>LT.lot1 (CI s))=some (sX.1,sX.2.1,sX.2.2.1)
abbrev zi (w:World) (os:OsState):Prop:=(An w os).map (λs=>LT.lot2 (CI s))=some (sX.2.2.2.1,sX.2.2.2.2.1,sX.2.2.2.2.2.2)
abbrev zj (w:World) (os:OsState):Prop:=(An w os).map (λs=>LT.lot3 (CI s))=some sX.2.2.2.2.2.1
abbrev zk (w:World) (os:OsState):Prop:=(An w os).map (λs=>(gP w.params s,Hook.obs hk s.abs))=some (true,Hook.val hk w)
set_option maxHeartbeats 0 in
theorem ra1:∀ (w:World) (os:OsState),zh (w.withFollow "special-get-raises" false) os:=λw os=>by unfold zh;kernel_rfl
set_option maxHeartbeats 0 in
theorem rb1:∀ (w:World) (os:OsState),zh (w.withFollow "special-get-raises" true) os:=λw os=>by unfold zh;kernel_rfl
set_option maxHeartbeats 0 in
theorem ra2:∀ (w:World) (os:OsState),zi (w.withFollow "special-get-raises" false) os:=λw os=>by unfold zi;kernel_rfl
set_option maxHeartbeats 0 in
theorem rb2:∀ (w:World) (os:OsState),zi (w.withFollow "special-get-raises" true) os:=λw os=>by unfold zi;kernel_rfl
set_option maxHeartbeats 0 in
theorem ra3:∀ (w:World) (os:OsState),zj (w.withFollow "special-get-raises" false) os:=λw os=>by unfold zj;kernel_rfl
set_option maxHeartbeats 0 in
theorem rb3:∀ (w:World) (os:OsState),zj (w.withFollow "special-get-raises" true) os:=λw os=>by unfold zj;kernel_rfl
set_option maxHeartbeats 0 in
theorem ra4:∀ (w:World) (os:OsState),zk (w.withFollow "special-get-raises" false) os:=λw os=>by unfold zk;kernel_rfl
set_option maxHeartbeats 0 in
theorem rb4:∀ (w:World) (os:OsState),zk (w.withFollow "special-get-raises" true) os:=λw os=>by unfold zk;kernel_rfl
theorem left:LeftO PRG view loose xt (Hook.obs hk) (Hook.val hk) NN :=
 LT.left (by rfl) (by decide) (λs=>by rfl) λw os=>LT.lots (byRow2 "special-get-raises" (P:=λw=>zh w os) (λw=>ra1 w os) (λw=>rb1 w os) w) (byRow2 "special-get-raises" (P:=λw=>zi w os) (λw=>ra2 w os) (λw=>rb2 w os) w) (byRow2 "special-get-raises" (P:=λw=>zj w os) (λw=>ra3 w os) (λw=>rb3 w os) w) (byRow2 "special-get-raises" (P:=λw=>zk w os) (λw=>ra4 w os) (λw=>rb4 w os) w)
end My
end
section
namespace L2
open PySem PySem.Spec PyProof.Rows
abbrev Key:=Sum Int Str
def Br:Key->Value->Bool
 | .inl k,v=>Value.isInt k v
 | .inr x,v=>Value.isStrOf x v
def DL (w:World):Key->Int
 | .inl k=>hashInt k
 | .inr x=>hashStr w x
theorem cM:∀ {k:Key} {v:Value},Br k v=true->(∃ i t,k=Sum.inl i/\v=Value.int i t)\/(∃ x t,k=Sum.inr x/\v=Value.str x t)
 | .inl i,v,h=>by
  obtain ⟨t,e⟩:=Value.isInt_shape (k:=i) (v:=v) h
  exact .inl ⟨i,t,rfl,e⟩
 | .inr x,v,h=>by
  obtain ⟨t,e⟩:=Value.isStrOf_shape (x:=x) (v:=v) h
  exact .inr ⟨x,t,rfl,e⟩
theorem B7 (a b:Int):decide ((Sum.inl a:Key)=Sum.inl b)=(a == b):=by
 by_cases e:a=b
 ·subst e;simp
 ·have h:¬ (Sum.inl a:Key)=Sum.inl b:=λq=>e (Sum.inl.inj q)
  rw [decide_eq_false h]
  exact (beq_eq_false_iff_ne.mpr e).symm
theorem Ca (a b:Str):decide ((Sum.inr a:Key)=Sum.inr b)=decide (a=b):=by
 by_cases e:a=b
 ·subst e;simp
 ·have h:¬ (Sum.inr a:Key)=Sum.inr b:=λq=>e (Sum.inr.inj q)
  rw [decide_eq_false h,decide_eq_false e]
theorem B8 (a:Int) (b:Str):decide ((Sum.inl a:Key)=Sum.inr b)=false:=decide_eq_false (λq=>nomatch q)
theorem B9 (a:Str) (b:Int):decide ((Sum.inr a:Key)=Sum.inl b)=false:=decide_eq_false (λq=>nomatch q)
def pI (prog:Program) (w:World):PySem.KeyKind prog w Key where
 is:=Br
 hash:=DL w
 inj:=λv a b ha hb=>by
  rcases cM ha with ⟨i,t,rfl,rfl⟩ | ⟨x,t,rfl,rfl⟩
  ·rcases cM hb with ⟨j,u,rfl,e⟩ | ⟨y,u,rfl,e⟩
   ·injection e with e1 _;rw [e1]
   ·exact nomatch e
  ·rcases cM hb with ⟨j,u,rfl,e⟩ | ⟨y,u,rfl,e⟩
   ·exact nomatch e
   ·injection e with e1 _;rw [e1]
 byValue:=λk v h=>by
  rcases cM h with ⟨i,t,rfl,rfl⟩ | ⟨x,t,rfl,rfl⟩ <;> rfl
 pyHash:=λhv h=>by
  rcases cM hv with ⟨i,t,rfl,rfl⟩ | ⟨x,t,rfl,rfl⟩
  ·exact wpAny_pyHash_int h
  ·exact wpAny_pyHash_str h
 eqBool:=λhu hv h=>by
  rcases cM hu with ⟨i,t,rfl,rfl⟩ | ⟨x,t,rfl,rfl⟩
  ·rcases cM hv with ⟨j,u,rfl,rfl⟩ | ⟨y,u,rfl,rfl⟩
   ·rw [B7] at h;exact wpAny_eqBool_int h
   ·rw [B8] at h;exact SeqAt.EqAt.int_str i t y u _ _ _ _ h
  ·rcases cM hv with ⟨j,u,rfl,rfl⟩ | ⟨y,u,rfl,rfl⟩
   ·rw [B9] at h;exact SeqAt.EqAt.str_int x t j u _ _ _ _ h
   ·rw [Ca] at h;exact wpAny_eqBool_str h
 «strs»:=λk x t v h=>by
  rcases cM h with ⟨i,u,rfl,e⟩ | ⟨y,u,rfl,e⟩
  ·exact nomatch e
  ·injection e with e1 _
   subst e1
   cases v <;> rfl
inductive V where
 | non | bl (b:Bool) | int (i:Int) | str (x:Str) | byt (b:Array UInt8) | flt (b:UInt64) | ref (a:Addr) | ty (n:String)
 deriving DecidableEq
def RelV:V->Value->Prop
 | .non,u=>u=Value.none
 | .bl b,u=>u=Value.bool b
 | .int i,u=>∃ t,u=Value.int i t
 | .str x,u=>∃ t,u=Value.str x t
 | .byt b,u=>∃ t,u=Value.bytes b t
 | .flt b,u=>∃ t,u=Value.float b t
 | .ref a,u=>u=Value.ref a
 | .ty n,u=>u=Value.type n
abbrev Vals:List V->List Value->Prop:=Paired RelV
variable {xs:List V} {us:List Value}
theorem Vals.length (r:Vals xs us):xs.length=us.length:=Paired.length r
theorem Vals.get:∀ {xs:List V} {us:List Value} {i:Nat} {x:V},Vals xs us->xs[i]?=some x->∃ u,us[i]?=some u/\RelV x u
 | _,_,_,_,.nil,e=>by simp at e
 | _,_,0,_,.cons r _,e=>by simp at e;subst e;exact ⟨_,rfl,r⟩
 | _,_,i+1,x,.cons _ t,e=>by
  obtain ⟨u,h1,h2⟩:=Vals.get (i:=i) (x:=x) t (by simpa using e)
  exact ⟨u,by simpa using h1,h2⟩
variable {u:Value}
theorem Vals.set {x:V} (r:RelV x u):∀ {xs:List V} {us:List Value} (i:Nat),Vals xs us->Vals (xs.set i x) (us.set i u)
 | _,_,_,.nil=>.nil
 | _,_,0,.cons _ t=>.cons r t
 | _,_,i+1,.cons q t=>.cons q (Vals.set r i t)
theorem Vals.append:∀ {xs ys:List V} {us ws:List Value},Vals xs us->Vals ys ws->Vals (xs++ys) (us++ws)
 | _,_,_,_,.nil,s=>s
 | _,_,_,_,.cons r t,s=>.cons r (Vals.append t s)
theorem Vals.take:∀ {xs:List V} {us:List Value} (n:Nat),Vals xs us->Vals (xs.take n) (us.take n)
 | _,_,0,_=>.nil
 | _,_,_+1,.nil=>.nil
 | _,_,n+1,.cons r t=>.cons r (Vals.take n t)
theorem Vals.drop:∀ {xs:List V} {us:List Value} (n:Nat),Vals xs us->Vals (xs.drop n) (us.drop n)
 | _,_,0,r=>r
 | _,_,_+1,.nil=>.nil
 | _,_,n+1,.cons _ t=>Vals.drop n t
def RelO:Option V->Option Value->Prop
 | some v,some u=>RelV v u
 | none,none=>True
 | _,_=>False
def KV {κ:Type}:List (κ × V)->List (κ × Value)->Prop:=Paired λ(p:κ × V) (q:κ × Value)=>p.1=q.1/\RelV p.2 q.2
def kV:Key->V
 | .inl i=>.int i
 | .inr x=>.str x
inductive HO where
 | lst (xs:List V)
 | tup (xs:List V)
 | dK (kvs:List (Key × V)) | dT (kvs:List (List Key × V))
 | set (S:Int->Bool) (n:Nat)
 | ins (C dx:Addr) (fs:List (Str × V))
 | own (x:Addr)
 | xd (fs:List (Str × V))
 | met (f x:Addr)
 | rng (lo hi:Int)
 | frz (o:Obj) (u:HO)
 | tbl (ps:Array Value)
 | ext (φ:Heap->Prop)
abbrev Hp:=Addr->Option HO
def upd (H:Hp) (a:Addr) (o:HO):Hp:=λb=>if b=a then some o else H b
variable {H:Hp} {a:Addr}
theorem ay {o:HO}:upd H a o a=some o:=by unfold upd;rw [if_pos rfl]
variable {b:Addr}
theorem aK {o:HO} (h:b≠a):upd H a o b=H b:=by unfold upd;rw [if_neg h]
theorem bh {o:HO} (h:H a=some o) (h':H b=none):a≠b:=by
 intro e;subst e;rw [h] at h';cases h'
section
variable (P:Program) (w:World)
def ObjOk (H:Hp) (h:Heap) (a:Addr):HO->Prop
 | .lst xs=>xs.length≤sizeLine/\∃ (its:List Value) (n:Nat),Vals xs its/\h.get? a=some { cls:=.type "list",data:=.seq its.toArray n }
 | .tup xs=>xs.length≤sizeLine/\∃ its:List Value,Vals xs its/\IsTup h a its.toArray
 | .dK kvs=>kvs.length≤sizeLine/\(a == sysModules)=false/\∃ vs,KV kvs vs/\h.DictOf (pI P w) a vs
 | .dT kvs=>kvs.length≤sizeLine/\(a == sysModules)=false/\∃ xs:List (List Key × Addr × Value),
   Paired (λ(p:List Key × V) (q:List Key × Addr × Value)=>p.1=q.1/\H q.2.1=some (.tup (p.1.map kV))/\RelV p.2 q.2.2) kvs xs /\
   ∃ o es ep,h.get? a=some o/\o.ExactDict/\o.data=.dict es ep/\es.toList=xs.map (entryOfKey (tupleKind (pI P w)))/\(xs.map (·.1)).Nodup
 | .set S n=>h.SetOf (intKind P w) a S n
 | .ins C dx fs=>H dx=some (.own a)/\fs.length≤1000/\dx≠a/\h.get? a=some (PySem.W.instObj C dx) /\
   ∃ mA,h.Ns1 dx mA/\(∀ f,RelO (fs.lookup f) (mA f))/\PySem.Within mA (fs.map (·.1))
 | .own _=>∃ o,h.get? a=some o
 | .xd fs=>∃ mA,h.Ns1 a mA/\∀ f,RelO (fs.lookup f) (mA f)
 | .rng lo hi=>∃ t u v,h.get? a=some { cls:=.type "range",data:=.fields #[.int lo t,.int hi u,.int 1 v] }
 | .frz o u=>h.get? a=some o/\ObjOk H h a u
 | .tbl ps=>h.get? a=some { cls:=.none,data:=.fields ps }
 | .met f x=>h.get? a=some (PySem.W.methodObj (.ref f) (.ref x))
 | .ext φ=>φ h/\(∃ o,h.get? a=some o)/\∀ h1 h2:Heap,φ h1->(∀ o,h1.get? a=some o->h2.get? a=some o)->φ h2
def HOk (H:Hp) (h:Heap):Prop:=∀ a o,H a=some o->ObjOk P w H h a o
end
section
variable {P:Program} {w:World} {H H':Hp} {h h':Heap} {a:Addr} {o:HO}
theorem ObjOk.lt (x:ObjOk P w H h a o):a < h.objs.size:=by
 cases o with
 | lst xs=>obtain ⟨_,_,_,_,e⟩:=x;exact Heap.lt_size e
 | tup xs=>obtain ⟨_,_,_,p⟩:=x;exact p.lt
 | dK kvs=>obtain ⟨_,_,_,_,o,_,_,e,_⟩:=x;exact Heap.lt_size e
 | dT kvs=>obtain ⟨_,_,_,_,o,_,_,e,_⟩:=x;exact Heap.lt_size e
 | set S n=>obtain ⟨o,_,_,_,e,_⟩:=x;exact Heap.lt_size e
 | ins C dx fs=>obtain ⟨_,_,_,e,_⟩:=x;exact Heap.lt_size e
 | own y=>obtain ⟨_,e⟩:=x;exact Heap.lt_size e
 | xd fs=>obtain ⟨_,⟨_,_,_,e,_⟩,_⟩:=x;exact Heap.lt_size e
 | rng lo hi=>obtain ⟨_,_,_,e⟩:=x;exact Heap.lt_size e
 | frz ob u=>obtain ⟨e,_⟩:=x;exact Heap.lt_size e
 | tbl ps=>exact Heap.lt_size (show h.get? a=some _ from x)
 | met f y=>exact Heap.lt_size (show h.get? a=some _ from x)
 | ext φ=>obtain ⟨_,⟨_,e⟩,_⟩:=x;exact Heap.lt_size e
theorem Paired.mapP {α β:Type} {F G:α->β->Prop}:∀ {l₁:List α} {l₂:List β},Paired F l₁ l₂->(∀ a b,F a b->G a b)->Paired G l₁ l₂
 | _,_,.nil,_=>.nil
 | _,_,.cons r t,f=>.cons (f _ _ r) (Paired.mapP t f)
theorem ObjOk.stay (x:ObjOk P w H h a o) (k:∀ b u,(b=a\/H b=some (.own a))->h.get? b=some u->h'.get? b=some u)
  (ho:∀ b,H b=some (.own a)->H' b=some (.own a)) (ht:∀ b xs,H b=some (.tup xs)->H' b=some (.tup xs)):ObjOk P w H' h' a o:=by
 induction o with
 | lst xs=>obtain ⟨z,its,n,r,e⟩:=x;exact ⟨z,its,n,r,k _ _ (.inl rfl) e⟩
 | tup xs=>obtain ⟨z,its,r,ob,e,c⟩:=x;exact ⟨z,its,r,ob,k _ _ (.inl rfl) e,c⟩
 | dK kvs=>obtain ⟨z,y,vs,r,ob,es,ep,e,c⟩:=x;exact ⟨z,y,vs,r,ob,es,ep,k _ _ (.inl rfl) e,c⟩
 | dT kvs =>
  obtain ⟨z,y,xs,r,ob,es,ep,e,c⟩:=x
  exact ⟨z,y,xs,Paired.mapP r λp q z=>⟨z.1,ht _ _ z.2.1,z.2.2⟩,ob,es,ep,k _ _ (.inl rfl) e,c⟩
 | set S n=>obtain ⟨ob,es,ep,t,e,c⟩:=x;exact ⟨ob,es,ep,t,k _ _ (.inl rfl) e,c⟩
 | ins C dx fs =>
  obtain ⟨d,z,ne,e,mA,⟨od,es,ep,e2,c⟩,r⟩:=x
  exact ⟨ho _ d,z,ne,k _ _ (.inl rfl) e,mA,⟨od,es,ep,k _ _ (.inr d) e2,c⟩,r⟩
 | own y=>obtain ⟨ob,e⟩:=x;exact ⟨ob,k _ _ (.inl rfl) e⟩
 | xd fs=>obtain ⟨mA,⟨od,es,ep,e,c⟩,r⟩:=x;exact ⟨mA,⟨od,es,ep,k _ _ (.inl rfl) e,c⟩,r⟩
 | rng lo hi=>obtain ⟨t,u,v,e⟩:=x;exact ⟨t,u,v,k _ _ (.inl rfl) e⟩
 | frz ob u ih=>obtain ⟨e,q⟩:=x;exact ⟨k _ _ (.inl rfl) e,ih q⟩
 | tbl ps =>
  have e:h.get? a=some { cls:=.none,data:=.fields ps }:=x
  show h'.get? a=some { cls:=.none,data:=.fields ps }
  exact k a _ (.inl rfl) e
 | met f y =>
  have e:h.get? a=some (PySem.W.methodObj (.ref f) (.ref y)):=x
  show h'.get? a=some (PySem.W.methodObj (.ref f) (.ref y))
  exact k a _ (.inl rfl) e
 | ext φ=>obtain ⟨p,⟨o,e⟩,st⟩:=x;exact ⟨st _ _ p λo q=>k _ _ (.inl rfl) q,⟨o,k _ _ (.inl rfl) e⟩,st⟩
theorem HOk.lt (x:HOk P w H h) (e:H a=some o):a < h.objs.size:=(x a o e).lt
theorem HOk.fresh (x:HOk P w H h) (e:h.objs.size≤a):H a=none:=by
 cases q:H a with
 | none=>rfl
 | some u=>exact absurd (Nat.lt_of_lt_of_le (x.lt q) e) (Nat.lt_irrefl _)
theorem HOk.kept (x:HOk P w H h) (k:∀ b u,h.get? b=some u->h'.get? b=some u):HOk P w H h':=λa o e =>
 (x a o e).stay (λb u _ q=>k b u q) (λ_ q=>q) λ_ _ q=>q
theorem HOk.laid (x:HOk P w H h) (k:∀ b u,h.get? b=some u->h'.get? b=some u) (hp:h.objs.size≤a) (new:ObjOk P w (upd H a o) h' a o):HOk P w (upd H a o) h':=λb u e=>by
 have hn:=x.fresh hp
 by_cases hb:b=a
 ·subst hb;rw [ay] at e;cases e;exact new
 ·rw [aK hb] at e
  exact (x b u e).stay (λc v _ q=>k c v q) (λc q=>by rw [aK (bh q hn)];exact q) λc xs q=>by rw [aK (bh q hn)];exact q
end
def Rd (H:Hp) (a:Addr) (u:HO):Prop:=H a=some u\/∃ o,H a=some (.frz o u)
variable {P:Program} {w:World} {h:Heap}
theorem Rd.ok {u:HO} (r:Rd H a u) (x:HOk P w H h):ObjOk P w H h a u:=by
 rcases r with r | ⟨o,r⟩
 ·exact x a u r
 ·obtain ⟨_,q⟩:=x a _ r
  exact q
def Mut:Option HO->Prop
 | some (.lst _)=>True
 | some (.dK _)=>True
 | some (.dT _)=>True
 | some (.set _ _)=>True
 | some (.ins _ _ _)=>True
 | some (.ext _)=>True
 | _=>False
section
variable {P:Program} {w:World} {H:Hp} {h h':Heap} {x e:Addr} {o':HO}
theorem HOk.write (ok:HOk P w H h) (mu:Mut (H x)) (he:e=x\/H e=some (.own x)) (k:∀ b u,b≠e->h.get? b=some u->h'.get? b=some u) (heo:∃ u,h'.get? e=some u)
  (new:ObjOk P w (upd H x o') h' x o'):HOk P w (upd H x o') h':=λb u q=>by
 have nown:∀ c y,H c=some (.own y)->c≠x:=λc y r z=>by subst z;rw [r] at mu;exact mu
 have ntup:∀ c xs,H c=some (.tup xs)->c≠x:=λc xs r z=>by subst z;rw [r] at mu;exact mu
 by_cases hb:b=x
 ·subst hb;rw [ay] at q;cases q;exact new
 ·rw [aK hb] at q
  by_cases hbe:b=e
  ·have q':H b=some (.own x):=by
    rcases he with z | z
    ·exact absurd (hbe.trans z) hb
    ·rw [hbe];exact z
   rw [q] at q';cases q'
   obtain ⟨v,hv⟩:=heo
   exact ⟨v,by rw [hbe];exact hv⟩
  ·refine (ok b u q).stay (λc v hc r=>k c v ?_ r) (λc r=>by rw [aK (nown c b r)];exact r) λc xs r=>by rw [aK (ntup c xs r)];exact r
   rcases hc with rfl | hc
   ·exact hbe
   ·rintro rfl
    rcases he with z | z
    ·exact nown c b hc z
    ·rw [hc] at z;cases z;exact hb rfl
end
structure Un (fs ex:List Addr) (H H':Hp) (h h':Heap):Prop where
 keep:∀ b o,h.get? b=some o->H b=none->b ∉ fs->b ∉ ex->h'.get? b=some o
 slot:∀ b o,h.get? b=some o->H b=none->b ∈ fs->b ∉ ex->∃ sl,h'.get? b=some { o with slots:=sl }
 free:∀ b o,h.get? b=some o->H b=none->b ∉ ex->H' b=none
 there:∀ b o,h.get? b=some o->b ∉ ex->∃ o',h'.get? b=some o'
 tups:∀ b xs,H b=some (.tup xs)->H' b=some (.tup xs)
 frzs:∀ b o u,H b=some (.frz o u)->H' b=some (.frz o u)
 tbls:∀ b ps,H b=some (.tbl ps)->∃ more,H' b=some (.tbl (ps++more))
section
variable {fs fs' ex ex':List Addr} {H H1 H2:Hp} {h h1 h2 h':Heap} {a x e:Addr} {o:HO}
theorem Un.any (u:Un fs ex H H1 h h1) {b:Addr} {ob:Obj} (q:h.get? b=some ob) (n:H b=none) (hx:b ∉ ex):∃ sl,h1.get? b=some { ob with slots:=sl }:=by
 by_cases hb:b ∈ fs
 ·exact u.slot b ob q n hb hx
 ·exact ⟨ob.slots,u.keep b ob q n hb hx⟩
theorem Un.kept (k:∀ b u,h.get? b=some u->h'.get? b=some u):Un fs ex H H h h' :=
 ⟨λb ob q _ _ _=>k b ob q,λb ob q _ _ _=>⟨ob.slots,k b ob q⟩,λ_ _ _ n _=>n,λb ob q _=>⟨ob,k b ob q⟩,λ_ _ q=>q,λ_ _ _ q=>q,λ_ ps q=>⟨#[],by rw [q];simp⟩⟩
theorem Un.refl:Un fs ex H H h h:=Un.kept λ_ _ q=>q
theorem Un.laid (k:∀ b u,h.get? b=some u->h'.get? b=some u) (hp:h.objs.size≤a) (hn:H a=none):Un fs ex H (upd H a o) h h' where
 keep:=λb u q _ _ _=>k b u q
 slot:=λb u q _ _ _=>⟨u.slots,k b u q⟩
 free:=λb u q n _=>by rw [aK (Nat.ne_of_lt (Nat.lt_of_lt_of_le (Heap.lt_size q) hp))];exact n
 there:=λb u q _=>⟨u,k b u q⟩
 tups:=λb xs q=>by rw [aK (bh q hn)];exact q
 frzs:=λb u xs q=>by rw [aK (bh q hn)];exact q
 tbls:=λb ps q=>⟨#[],by rw [aK (bh q hn),q];simp⟩
theorem Un.write (mu:Mut (H x)) (he:e=x\/H e=some (.own x)) (k:∀ b u,b≠e->h.get? b=some u->h'.get? b=some u) (heo:∃ u,h'.get? e=some u):Un fs ex H (upd H x o) h h':=by
 have hx:∀ b,H b=none->b≠x:=λb n z=>by subst z;rw [n] at mu;exact mu
 have hb:∀ b,H b=none->b≠e:=λb n z=>by
  subst z
  rcases he with r | r
  ·exact hx b n r
  ·rw [n] at r;cases r
 have hm:∀ b u,H b=some u->¬ Mut (some u)->b≠x:=λb u q nm z=>by subst z;rw [q] at mu;exact nm mu
 refine ⟨λb u q n _ _=>k b u (hb b n) q,λb u q n _ _=>⟨u.slots,k b u (hb b n) q⟩,λb u q n _=>by rw [aK (hx b n)];exact n,λb u q _=>?_,
  λb xs q=>by rw [aK (hm b _ q λz=>z)];exact q,λb u xs q=>by rw [aK (hm b _ q λz=>z)];exact q,λb ps q=>⟨#[],by rw [aK (hm b _ q λz=>z),q];simp⟩⟩
 by_cases hbe:b=e
 ·subst hbe;exact heo
 ·exact ⟨u,k b u hbe q⟩
end
def trk (h:Heap) (H:Hp):List Addr:=(List.range h.objs.size).filter λa=>(H a).isSome
def pz (h:Heap) (H:Hp):Heap:=PySem.W.hideAll h (trk h H)
theorem wb (h:Heap) (H:Hp):(pz h H).objs.size=h.objs.size:=PySem.W.hideAll_size _ _
variable {o:Obj}
theorem yi (e:h.get? b=some o) (n:H b=none):(pz h H).get? b=some o :=
 PySem.W.hideAll_get _ e λhm=>by
  have q:(H b).isSome=true:=(List.mem_filter.mp hm).2
  rw [n] at q;simp at q
theorem AD (e:(pz h H).get? b=some o):h.get? b=some o/\H b=none:=by
 have e':h.get? b=some o:=PySem.W.of_hideAll (trk h H) e
 refine ⟨e',?_⟩
 cases q:H b with
 | none=>rfl
 | some x =>
  have hm:b ∈ trk h H:=List.mem_filter.mpr ⟨List.mem_range.mpr (Heap.lt_size e'),by simp [q]⟩
  have z:(pz h H).get? b=none:=PySem.W.hideAll_none (trk h H) hm
  rw [z] at e;cases e
structure Mod (K:PySem.W.Frag) (mg:Str->Option Value) (base:Heap):Prop where
 kin:K.In base
 glob:base.Ns mainGlobals mg
 blt:∃ mb,base.Ns builtinsNs mb/\∀ x:Str,x≠"__name__"->mb x=bootBuiltins x
 nolimit:base.NoLimit
structure Cx where
 prog:Program
 w:World
 K:PySem.W.Frag
 mg:Str->Option Value
 base:Heap
 A:Around
 N:List Str
 s₀:Shared
 H₀:Hp
 env:Env
 outer:List Env
 stack:List Env
 ex:List Addr
 fn:Str->Bool
 calm:Bool
 pn:List (Addr × Obj)
 xe:Value->Shared->Prop
def frs (l:List Env):List Addr:=l.filterMap (·.frame)
abbrev Cx.fs (X:Cx):List Addr:=frs X.outer
def Vis (sc:Scope) (x:Str):Prop:=sc.names.lookup x=some .local\/sc.names.lookup x=some .cell\/sc.names.lookup x=some .free
def Loc (sc:Scope) (x:Str):Prop:=sc.names.lookup x=some .local\/sc.names.lookup x=some .cell
def DE (env:Env) (h:Heap) (m:Str->Option Value) (x:Str) (u:Value):Prop :=
 (env.kindOf x=some .local/\m x=some u)\/((env.kindOf x=some .cell\/env.kindOf x=some .free)/\∃ c,env.cells.lookup x=some c/\h.IsCell c (some u))
structure Cx.Ok (X:Cx):Prop where
 mod:Mod X.K X.mg X.base
 kind:X.env.scope.kind=.function
 glob:X.env.globals=mainGlobals
 blt:X.env.builtins=builtinsNs
 above:X.s₀.heap.objs.size≤X.env.locals
 inj:∀ x y c,X.env.cells.lookup x=some c->X.env.cells.lookup y=some c->x=y
 has:∀ x,(X.env.kindOf x=some .cell\/X.env.kindOf x=some .free)->∃ c,X.env.cells.lookup x=some c
 cab:∀ x c,X.fn x=true->X.env.cells.lookup x=some c->X.s₀.heap.objs.size≤c
 hd:X.calm=true->X.A.handled=none
 frames:X.A.frames=some X.stack
 stk:X.stack=X.outer\/(X.stack=X.env::X.outer/\X.env.frame=some X.env.locals)
 exf:∀ b ∈ X.ex,b≠X.env.locals/\∀ x c,X.env.cells.lookup x=some c->c≠b
 bs:∀ b o,X.base.get? b=some o->X.s₀.heap.get? b=some o/\X.H₀ b=none
 bsz:X.base.objs.size≤X.s₀.heap.objs.size
 noex:∀ b o,X.base.get? b=some o->b ∉ X.ex
 exfs:∀ b ∈ X.ex,b ∉ X.fs
 funs:X.s₀.heap.FunFrames X.base X.outer
 frf:∀ b ∈ X.fs,X.H₀ b=none
structure Inv (X:Cx) (pins:List (Addr × Obj)) (σ:List (Option V)) (H:Hp) (s:Shared):Prop where
 ok:X.Ok
 os:s.os=X.s₀.os
 bare:AllBare s.gens
 base:Un X.fs X.ex X.H₀ H X.s₀.heap s.heap
 loc:∃ m,s.heap.Ns X.env.locals m/\∀ (i:Nat) (x:Str) (v:V),X.N[i]?=some x->σ[i]?=some (some v)->Vis X.env.scope x->∃ u,RelV v u/\DE X.env s.heap m x u
 cell:∀ x c,X.env.cells.lookup x=some c->∃ v,s.heap.IsCell c v
 free:H X.env.locals=none
 freeC:∀ x c,X.env.cells.lookup x=some c->H c=none
 pin:∀ p ∈ X.pn++pins,s.heap.get? p.1=some p.2/\H p.1=none/\p.1≠X.env.locals/\p.1 ∉ X.fs/\∀ v,p.2.data≠.cell v
 hok:HOk X.prog X.w H s.heap
 len:σ.length=X.N.length
section
variable {X:Cx} {pins:List (Addr × Obj)} {σ:List (Option V)} {H H':Hp} {s:Shared} {h':Heap}
theorem Cx.Ok.nofr (ok:X.Ok) {b:Addr} {o:Obj} (e:X.base.get? b=some o):b ∉ X.fs:=λhb=>by
 have:=(ok.funs.mem hb).1
 rw [e] at this;cases this
theorem Inv.bs (I:Inv X pins σ H s):∀ b o,X.base.get? b=some o->s.heap.get? b=some o/\H b=none:=λb o e =>
 ⟨I.base.keep b o (I.ok.bs b o e).1 (I.ok.bs b o e).2 (I.ok.nofr e) (I.ok.noex b o e),I.base.free b o (I.ok.bs b o e).1 (I.ok.bs b o e).2 (I.ok.noex b o e)⟩
theorem Inv.bk (I:Inv X pins σ H s):∀ b o,X.base.get? b=some o->s.heap.get? b=some o:=λb o e=>(I.bs b o e).1
theorem Inv.mod (I:Inv X pins σ H s):Mod X.K X.mg X.base:=I.ok.mod
theorem Inv.kIn (I:Inv X pins σ H s):X.K.In s.heap:=I.ok.mod.kin.keeps I.bk
theorem Inv.lt (I:Inv X pins σ H s):X.env.locals < s.heap.objs.size:=let ⟨_,hn,_⟩:=I.loc;hn.lt
theorem Inv.sz (I:Inv X pins σ H s):X.s₀.heap.objs.size≤s.heap.objs.size:=Nat.le_trans I.ok.above (Nat.le_of_lt I.lt)
variable {a:Addr}
theorem Inv.nofs (I:Inv X pins σ H s) (h:s.heap.objs.size≤a):a ∉ X.fs:=λhb=>by
 obtain ⟨_,o,ho,_⟩:=I.ok.funs.mem hb
 exact absurd (Nat.lt_of_lt_of_le (Heap.lt_size ho) (Nat.le_trans I.sz h)) (Nat.lt_irrefl _)
theorem Inv.cne (I:Inv X pins σ H s):∀ x c,X.env.cells.lookup x=some c->c≠X.env.locals:=λx c e z=>by
 obtain ⟨v,o,ho,hd⟩:=I.cell x c e
 obtain ⟨m,⟨o',es,ep,ho',hd',_⟩,_⟩:=I.loc
 rw [z,ho'] at ho;cases ho;rw [hd'] at hd;cases hd
theorem Inv.funs (I:Inv X pins σ H s):s.heap.FunFrames X.base X.outer:=by
 have all:∀ (l:List Env),(∀ b ∈ frs l,b ∈ X.fs)->X.s₀.heap.FunFrames X.base l->s.heap.FunFrames X.base l:=by
  intro l
  induction l with
  | nil=>intro _ _;trivial
  | cons env r ih =>
   intro hs hl
   obtain ⟨hk,⟨L,o,hf,hn,ho,hd⟩,hr⟩:=hl
   have hL:L ∈ X.fs:=hs L (by unfold frs;rw [List.filterMap_cons,hf];exact List.mem_cons_self)
   obtain ⟨sl,e⟩:=I.base.slot L o ho (I.ok.frf L hL) hL λz=>I.ok.exfs L z hL
   exact ⟨hk,⟨L,_,hf,hn,e,hd⟩,ih (λb hb=>hs b (by unfold frs;rw [List.filterMap_cons,hf];exact List.mem_cons_of_mem _ hb)) hr⟩
 exact all X.outer (λ_ hb=>hb) I.ok.funs
theorem Inv.stack (I:Inv X pins σ H s):s.heap.FunFrames X.base X.stack:=by
 rcases I.ok.stk with e | ⟨e,hf⟩
 ·rw [e];exact I.funs
 ·rw [e]
  obtain ⟨m,hn,_⟩:=I.loc
  refine .cons (by rw [I.ok.kind];decide) hf hn ?_ I.funs
  exact Heap.get?_none_of_le (Nat.le_trans I.ok.bsz I.ok.above)
theorem Inv.stkSub (I:Inv X pins σ H s):∀ b ∈ frs X.stack,b ∈ X.env.locals::X.fs:=λb hb=>by
 rcases I.ok.stk with e | ⟨e,hf⟩
 ·rw [e] at hb;exact List.mem_cons_of_mem _ hb
 ·rw [e] at hb
  unfold frs at hb
  rw [List.filterMap_cons,hf] at hb
  exact hb
theorem Inv.stkFree (I:Inv X pins σ H s):∀ b ∈ frs X.stack,H b=none:=λb hb=>by
 rcases List.mem_cons.mp (I.stkSub b hb) with e | hb
 ·rw [e];exact I.free
 ·obtain ⟨_,o,ho,_⟩:=I.ok.funs.mem hb
  exact I.base.free b o ho (I.ok.frf b hb) λz=>I.ok.exfs b z hb
variable {g':Array GenState} {t':Nat} {d':Drawn} {ch:List Addr}
theorem Inv.step (I:Inv X pins σ H s)
  (hch:∀ b ∈ ch,(b ∈ X.ex\/X.s₀.heap.objs.size≤b)/\b≠X.env.locals/\(∀ x c,X.env.cells.lookup x=some c->c≠b)/\∀ p ∈ X.pn++pins,p.1≠b)
  (keep:∀ b o,b≠X.env.locals->b ∉ X.fs->b ∉ ch->s.heap.get? b=some o->H b=none->h'.get? b=some o)
  (slot:∀ b o,b≠X.env.locals->b ∈ X.fs->b ∉ ch->s.heap.get? b=some o->H b=none->∃ sl,h'.get? b=some { o with slots:=sl }) (free:∀ b o,b ∉ ch->s.heap.get? b=some o->H b=none->H' b=none)
  (there:∀ b o,b ∉ ch->s.heap.get? b=some o->∃ o',h'.get? b=some o')
  (tups:∀ b xs,H b=some (.tup xs)->H' b=some (.tup xs)) (frzs:∀ b o u,H b=some (.frz o u)->H' b=some (.frz o u)) (tbls:∀ b ps,H b=some (.tbl ps)->∃ more,H' b=some (.tbl (ps++more)))
  (ns:∀ m,s.heap.Ns X.env.locals m->h'.Ns X.env.locals m) (hok:HOk X.prog X.w H' h') (hg:AllBare g') :
  Inv X pins σ H' { s with heap:=h',gens:=g',drawn:=d',toks:=t' }:=by
 have neL:∀ b o,X.s₀.heap.get? b=some o->b≠X.env.locals:=λb o e=>Nat.ne_of_lt (Nat.lt_of_lt_of_le (Heap.lt_size e) I.ok.above)
 have neC:∀ b o,X.s₀.heap.get? b=some o->b ∉ X.ex->b ∉ ch:=λb o e hx hb=>by
  rcases (hch b hb).1 with z | z
  ·exact hx z
  ·exact absurd (Nat.lt_of_lt_of_le (Heap.lt_size e) z) (Nat.lt_irrefl _)
 have cellK:∀ x c,X.env.cells.lookup x=some c->∀ v,s.heap.IsCell c v->h'.IsCell c v:=λx c e v ⟨o,ho,hd⟩=>by
  have nch:c ∉ ch:=λz=>(hch c z).2.2.1 x c e rfl
  by_cases hc:c ∈ X.fs
  ·obtain ⟨sl,q⟩:=slot c o (I.cne x c e) hc nch ho (I.freeC x c e)
   exact ⟨_,q,hd⟩
  ·exact ⟨o,keep c o (I.cne x c e) hc nch ho (I.freeC x c e),hd⟩
 refine ⟨I.ok,I.os,hg,⟨λb o e n hb hx=>?_,λb o e n hb hx=>?_,λb o e n hx=>?_,λb o e hx=>?_,λb xs e=>tups b xs (I.base.tups b xs e),λb o xs e=>frzs b o xs (I.base.frzs b o xs e),λb ps e=>?_⟩,?_,λx c e=>?_,?_,λx c e=>?_,λp hp=>?_,hok,I.len⟩
 ·exact keep b o (neL b o e) hb (neC b o e hx) (I.base.keep b o e n hb hx) (I.base.free b o e n hx)
 ·obtain ⟨sl,e1⟩:=I.base.slot b o e n hb hx
  obtain ⟨sl',e2⟩:=slot b _ (neL b o e) hb (neC b o e hx) e1 (I.base.free b o e n hx)
  exact ⟨sl',e2⟩
 ·obtain ⟨o',e1⟩:=I.base.there b o e hx
  exact free b o' (neC b o e hx) e1 (I.base.free b o e n hx)
 ·obtain ⟨o',e1⟩:=I.base.there b o e hx
  exact there b o' (neC b o e hx) e1
 ·obtain ⟨m1,e1⟩:=I.base.tbls b ps e
  obtain ⟨m2,e2⟩:=tbls b _ e1
  exact ⟨m1++m2,by rw [e2,Array.append_assoc]⟩
 ·obtain ⟨m,hn,hl⟩:=I.loc
  refine ⟨m,ns m hn,λi x v e1 e2 e3=>?_⟩
  obtain ⟨u,r,l⟩:=hl i x v e1 e2 e3
  refine ⟨u,r,?_⟩
  rcases l with l | ⟨k,c,e,z⟩
  ·exact .inl l
  ·exact .inr ⟨k,c,e,cellK x c e _ z⟩
 ·obtain ⟨v,z⟩:=I.cell x c e
  exact ⟨v,cellK x c e v z⟩
 ·obtain ⟨m,⟨o,_,_,ho,_⟩,_⟩:=I.loc
  exact free _ o (λz=>(hch _ z).2.1 rfl) ho I.free
 ·obtain ⟨v,o,ho,hd⟩:=I.cell x c e
  exact free c o (λz=>(hch c z).2.2.1 x c e rfl) ho (I.freeC x c e)
 ·obtain ⟨e,n,ne,nf,d⟩:=I.pin p hp
  have nch:p.1 ∉ ch:=λz=>(hch p.1 z).2.2.2 p hp rfl
  exact ⟨keep p.1 p.2 ne nf nch e n,free p.1 p.2 nch e n,ne,nf,d⟩
theorem Inv.un (I:Inv X pins σ H s) (u:Un X.fs [] H H' s.heap h') (hok:HOk X.prog X.w H' h'):Inv X pins σ H' { s with heap:=h',toks:=t' }:=by
 obtain ⟨m,⟨o,es,ep,ho,r⟩,_⟩:=id I.loc
 obtain ⟨sl,hL⟩:=u.any ho I.free (by simp)
 exact I.step (g':=s.gens) (d':=s.drawn) (ch:=[]) (λ_ z=>nomatch z) (λb o _ hb _ e n=>u.keep b o e n hb (by simp)) (λb o _ hb _ e n=>u.slot b o e n hb (by simp)) (λb o _ e n=>u.free b o e n (by simp)) (λb o _ e=>u.there b o e (by simp)) u.tups u.frzs u.tbls (λm' hm=>by
  obtain ⟨o',es',ep',ho',r'⟩:=hm
  rw [ho] at ho';cases ho'
  exact ⟨_,es',ep',hL,r'⟩) hok I.bare
theorem Inv.call (I:Inv X pins σ H s) (u:Un (frs X.stack) ch H H' s.heap h') (hok:HOk X.prog X.w H' h') (hg:AllBare g')
  (hch:∀ b ∈ ch,(b ∈ X.ex\/X.s₀.heap.objs.size≤b)/\b≠X.env.locals/\(∀ x c,X.env.cells.lookup x=some c->c≠b)/\∀ p ∈ X.pn++pins,p.1≠b) :
  Inv X pins σ H' { s with heap:=h',gens:=g',drawn:=d',toks:=t' }:=by
 obtain ⟨m,⟨o,es,ep,ho,r⟩,_⟩:=id I.loc
 obtain ⟨sl,hL⟩:=u.any ho I.free λz=>(hch _ z).2.1 rfl
 exact I.step (ch:=ch) hch (λb o hL hb hc e n=>u.keep b o e n (λz=>(List.mem_cons.mp (I.stkSub b z)).elim hL hb) hc) (λb o _ _ hc e n=>u.any e n hc) (λb o hc e n=>u.free b o e n hc) (λb o hc e=>u.there b o e hc) u.tups u.frzs u.tbls (λm' hm=>by
  obtain ⟨o',es',ep',ho',r'⟩:=hm
  rw [ho] at ho';cases ho'
  exact ⟨_,es',ep',hL,r'⟩) hok hg
theorem Inv.turned {it:Addr} (I:Inv X pins σ H s) (k:∀ b o,b≠it->s.heap.get? b=some o->h'.get? b=some o) (hn:H it=none) (hL:it≠X.env.locals)
  (h1:it ∈ X.ex\/X.s₀.heap.objs.size≤it) (h2:∀ x c,X.env.cells.lookup x=some c->c≠it) (h3:∀ p ∈ X.pn++pins,p.1≠it):Inv X pins σ H { s with heap:=h',toks:=t' }:=by
 have nit:∀ b u,H b=some u->b≠it:=λb u e z=>by rw [z,hn] at e;cases e
 refine I.step (g':=s.gens) (d':=s.drawn) (ch:=[it]) (λb hb=>?_) (λb o _ _ hc e _=>k b o (λz=>hc (by simp [z])) e) (λb o _ _ hc e _=>⟨o.slots,k b o (λz=>hc (by simp [z])) e⟩) (λ_ _ _ _ n=>n)
  (λb o hc e=>⟨o,k b o (λz=>hc (by simp [z])) e⟩) (λ_ _ e=>e) (λ_ _ _ e=>e) (λb ps e=>⟨#[],by rw [e];simp⟩) (λm hm=>?_) (λb u e=>?_) I.bare
 ·have e:b=it:=by simpa using hb
  subst e
  exact ⟨h1,hL,h2,h3⟩
 ·obtain ⟨o,es,ep,ho,r⟩:=hm
  exact ⟨o,es,ep,k _ o (Ne.symm hL) ho,r⟩
 ·refine (I.hok b u e).stay (λc v hc q=>k c v ?_ q) (λ_ q=>q) λ_ _ q=>q
  rcases hc with z | z
  ·rw [z];exact nit b u e
  ·exact nit c _ z
theorem Inv.tok (I:Inv X pins σ H s) (t:Nat):Inv X pins σ H { s with toks:=t }:=I.un (h':=s.heap) (t':=t) Un.refl I.hok
theorem Inv.kept (I:Inv X pins σ H s) (k:∀ b u,s.heap.get? b=some u->h'.get? b=some u):Inv X pins σ H { s with heap:=h',toks:=t' }:=I.un (Un.kept k) (I.hok.kept k)
variable {o:HO}
theorem Inv.laid (I:Inv X pins σ H s) (k:∀ b u,s.heap.get? b=some u->h'.get? b=some u) (hp:s.heap.objs.size≤a) (new:ObjOk X.prog X.w (upd H a o) h' a o) :
  Inv X pins σ (upd H a o) { s with heap:=h',toks:=t' }:=I.un (Un.laid k hp (I.hok.fresh hp)) (I.hok.laid k hp new)
theorem Inv.write {x e:Addr} (I:Inv X pins σ H s) (mu:Mut (H x)) (he:e=x\/H e=some (.own x)) (k:∀ b u,b≠e->s.heap.get? b=some u->h'.get? b=some u) (heo:∃ u,h'.get? e=some u)
  (new:ObjOk X.prog X.w (upd H x o) h' x o):Inv X pins σ (upd H x o) { s with heap:=h',toks:=t' }:=I.un (Un.write mu he k heo) (I.hok.write mu he k heo new)
theorem Inv.pins_of {pins':List (Addr × Obj)} (I:Inv X pins σ H s) (h:∀ p ∈ pins',s.heap.get? p.1=some p.2/\H p.1=none/\p.1≠X.env.locals/\p.1 ∉ X.fs/\∀ v,p.2.data≠.cell v):Inv X pins' σ H s :=
 ⟨I.ok,I.os,I.bare,I.base,I.loc,I.cell,I.free,I.freeC,λp hp=>(List.mem_append.mp hp).elim (λz=>I.pin p (List.mem_append_left _ z)) (h p),I.hok,I.len⟩
variable {i:Nat} {x:Str}
theorem qZ {N:List Str} (hN:N.Nodup) {j:Nat} (a:N[i]?=some x) (b:N[j]?=some x):i=j:=by
 obtain ⟨h1,e1⟩:=List.getElem?_eq_some_iff.mp a
 obtain ⟨h2,e2⟩:=List.getElem?_eq_some_iff.mp b
 exact (List.getElem_inj hN).mp (e1.trans e2.symm)
variable {M:Model} {A:Around} {v:V} {u:Value}
theorem jv {E:Value->Shared->Prop} {Q:Unit->Shared->Prop} (I:Inv X pins σ H s) (hN:X.N.Nodup) (hi:X.N[i]?=some x) (hx:Loc X.env.scope x) (r:RelV v u)
  (h:∀ s',Inv X pins (σ.set i (some v)) H s'->(∃ a,Heap.SameBut a s.heap s'.heap/\(a=X.env.locals\/X.env.cells.lookup x=some a))->Q () s') (hf:X.fn x=true\/X.env.scope.names.lookup x=some .local:=by first | exact .inl rfl | exact .inr rfl | assumption):wpAny M A (storeName X.env x u) Q E s:=by
 obtain ⟨m,hn,hl⟩:=id I.loc
 have hcls:(X.env.scope.kind == .class || (X.env.scope.kind == .module && X.env.locals != X.env.globals))=false:=by rw [I.ok.kind];rfl
 have hiσ:i < σ.length:=by rw [I.len];exact (List.getElem?_eq_some_iff.mp hi).1
 have cne:=I.cne
 have tracked:∀ {a:Addr} {h':Heap},(∃ o,s.heap.get? a=some o/\H a=none)->Heap.SameBut a s.heap h'->HOk X.prog X.w H h':=λ{a h'} ha hs b ob e=>by
  obtain ⟨_,_,hfree⟩:=ha
  refine (I.hok b ob e).stay (λc w' hc q=>(hs.2 c ?_).trans q) (λ_ q=>q) λ_ _ q=>q
  rintro rfl
  rcases hc with rfl | hc
  ·rw [hfree] at e;cases e
  ·rw [hfree] at hc;cases hc
 rcases hx with hk | hk
 ·refine wpAny_storeName_local hk hn (λh' hn' hs=>?_) hcls
  obtain ⟨oL,_,_,hoL,_⟩:=id hn
  refine h _ ⟨I.ok,I.os,I.bare,⟨λb o e n hb hx=>?_,λb o e n hb hx=>?_,I.base.free,λb o e hx=>?_,I.base.tups,I.base.frzs,I.base.tbls⟩,⟨_,hn',λj y v' e1 e2 e3=>?_⟩,λy c e=>?_,I.free,I.freeC,λp hp=>?_,tracked ⟨oL,hoL,I.free⟩ hs,by simpa using I.len⟩ ⟨_,hs,.inl rfl⟩
  ·exact (hs.2 b (Nat.ne_of_lt (Nat.lt_of_lt_of_le (Heap.lt_size e) I.ok.above))).trans (I.base.keep b o e n hb hx)
  ·obtain ⟨sl,e1⟩:=I.base.slot b o e n hb hx
   exact ⟨sl,(hs.2 b (Nat.ne_of_lt (Nat.lt_of_lt_of_le (Heap.lt_size e) I.ok.above))).trans e1⟩
  ·obtain ⟨o',e1⟩:=I.base.there b o e hx
   exact ⟨o',(hs.2 b (Nat.ne_of_lt (Nat.lt_of_lt_of_le (Heap.lt_size e) I.ok.above))).trans e1⟩
  ·by_cases hj:j=i
   ·subst hj
    rw [hi] at e1;cases e1
    rw [List.getElem?_set_self hiσ] at e2
    cases e2
    exact ⟨u,r,.inl ⟨hk,by simp⟩⟩
   ·rw [List.getElem?_set_ne (Ne.symm hj)] at e2
    obtain ⟨u',r',q⟩:=hl j y v' e1 e2 e3
    refine ⟨u',r',?_⟩
    rcases q with ⟨k,e⟩ | ⟨k,c,e,z⟩
    ·refine .inl ⟨k,?_⟩
     have:y≠x:=λe=>hj (qZ hN e1 (e ▸ hi))
     simp [this,e]
    ·exact .inr ⟨k,c,e,z.sameBut hs (cne y c e)⟩
  ·obtain ⟨w',z⟩:=I.cell y c e
   exact ⟨w',z.sameBut hs (cne y c e)⟩
  ·obtain ⟨e,n,ne,nf,d⟩:=I.pin p hp
   exact ⟨(hs.2 p.1 ne).trans e,n,ne,nf,d⟩
 ·have hfn:X.fn x=true:=by
   rcases hf with z | z
   ·exact z
   ·rw [z] at hk;cases hk
  obtain ⟨c,hc⟩:=I.ok.has x (.inl hk)
  obtain ⟨w',z⟩:=I.cell x c hc
  refine wpAny_storeName_cell I.ok.kind hk hc z (λh' hc' hs=>?_)
  obtain ⟨oc,hoc,hocd⟩:=id z
  refine h { s with heap:=h' } ⟨I.ok,I.os,I.bare,⟨λb o e n hb hx=>?_,λb o e n hb hx=>?_,I.base.free,λb o e hx=>?_,I.base.tups,I.base.frzs,I.base.tbls⟩,⟨m,hn.sameBut hs (Ne.symm (cne x c hc)),λj y v' e1 e2 e3=>?_⟩,λy c' e=>?_,I.free,I.freeC,λp hp=>?_,tracked ⟨oc,hoc,I.freeC x c hc⟩ hs,by simpa using I.len⟩ ⟨c,hs,.inr hc⟩
  ·exact (hs.2 b (Nat.ne_of_lt (Nat.lt_of_lt_of_le (Heap.lt_size e) (I.ok.cab x c hfn hc)))).trans (I.base.keep b o e n hb hx)
  ·obtain ⟨sl,e1⟩:=I.base.slot b o e n hb hx
   exact ⟨sl,(hs.2 b (Nat.ne_of_lt (Nat.lt_of_lt_of_le (Heap.lt_size e) (I.ok.cab x c hfn hc)))).trans e1⟩
  ·obtain ⟨o',e1⟩:=I.base.there b o e hx
   exact ⟨o',(hs.2 b (Nat.ne_of_lt (Nat.lt_of_lt_of_le (Heap.lt_size e) (I.ok.cab x c hfn hc)))).trans e1⟩
  ·by_cases hj:j=i
   ·subst hj
    rw [hi] at e1;cases e1
    rw [List.getElem?_set_self hiσ] at e2
    cases e2
    exact ⟨u,r,.inr ⟨.inl hk,c,hc,hc'⟩⟩
   ·rw [List.getElem?_set_ne (Ne.symm hj)] at e2
    obtain ⟨u',r',q⟩:=hl j y v' e1 e2 e3
    refine ⟨u',r',?_⟩
    rcases q with q | ⟨k,c',e,z'⟩
    ·exact .inl q
    ·refine .inr ⟨k,c',e,z'.sameBut hs ?_⟩
     rintro rfl
     exact hj (qZ hN e1 (I.ok.inj _ _ _ e hc ▸ hi))
  ·by_cases hcc:c'=c
   ·subst hcc;exact ⟨_,hc'⟩
   ·obtain ⟨w2,z2⟩:=I.cell y c' e
    exact ⟨w2,z2.sameBut hs hcc⟩
  ·obtain ⟨e,n,ne,nf,d⟩:=I.pin p hp
   refine ⟨(hs.2 p.1 ?_).trans e,n,ne,nf,d⟩
   intro q
   rw [q,hoc] at e
   have q':oc=p.2:=Option.some.inj e
   exact d w' (by rw [← q'];exact hocd)
theorem jk {E:Value->Shared->Prop} {Q:Unit->Shared->Prop} (I:Inv X pins σ H s) (hN:X.N.Nodup) (hi:X.N[i]?=some x) (hx:Loc X.env.scope x) (r:RelV v u)
  (h:∀ s',Inv X pins (σ.set i (some v)) H s'->Q () s') (hf:X.fn x=true\/X.env.scope.names.lookup x=some .local:=by first | exact .inl rfl | exact .inr rfl | assumption):wpAny M A (storeName X.env x u) Q E s :=
 jv I hN hi hx r (λs' I' _=>h s' I') hf
theorem Inv.call' {s':Shared} (I:Inv X pins σ H s) (ho:s'.os=s.os) (u:Un (frs X.stack) ch H H' s.heap s'.heap) (hok:HOk X.prog X.w H' s'.heap) (hg:AllBare s'.gens)
  (hch:∀ b ∈ ch,(b ∈ X.ex\/X.s₀.heap.objs.size≤b)/\b≠X.env.locals/\(∀ x c,X.env.cells.lookup x=some c->c≠b)/\∀ p ∈ X.pn++pins,p.1≠b):Inv X pins σ H' s':=by
 obtain ⟨h',g',d',t',o'⟩:=s'
 have e:o'=s.os:=ho
 subst e
 exact I.call (g':=g') (t':=t') (d':=d') u hok hg hch
end
abbrev XK:=Value->Option Addr->Hp->Prop
abbrev St:=List (Option V)
abbrev VK:=V->Hp->Prop
abbrev TE:=St->Hp->VK->Prop
abbrev TT:=St->Hp->(Bool->Hp->Prop)->Prop
abbrev TA:=St->Hp->(List V->Hp->Prop)->Prop
structure gM where
 nx:St->Hp->Prop
 rt:VK
 bk:St->Hp->Prop:=λ_ _=>False
 ct:St->Hp->Prop:=λ_ _=>False
abbrev TS:=gM->St->Hp->Prop
def EP (X:Cx) (pins:List (Addr × Obj)) (σ:St) (Q:VK) (u:Value) (s':Shared):Prop:=∃ v H',Inv X pins σ H' s'/\RelV v u/\Q v H'
def TP (X:Cx) (pins:List (Addr × Obj)) (σ:St) (Q:Bool->Hp->Prop) (b:Bool) (s':Shared):Prop:=∃ H',Inv X pins σ H' s'/\Q b H'
def AP (X:Cx) (pins:List (Addr × Obj)) (σ:St) (Q:List V->Hp->Prop) (us:List Value) (s':Shared):Prop:=∃ vs H',Inv X pins σ H' s'/\Vals vs us/\Q vs H'
def SP (X:Cx) (pins:List (Addr × Obj)) (D:gM) (f:Flow) (s':Shared):Prop :=
 match f with
 | .next=>∃ σ' H',Inv X pins σ' H' s'/\D.nx σ' H'
 | .brk=>∃ σ' H',Inv X pins σ' H' s'/\D.bk σ' H'
 | .cont=>∃ σ' H',Inv X pins σ' H' s'/\D.ct σ' H'
 | .ret u=>∃ v σ' H',Inv X pins σ' H' s'/\RelV v u/\D.rt v H'
def PE (X:Cx) (e:Expr) (t:TE):Prop :=
 ∀ (pins:List (Addr × Obj)) (s:Shared) (σ:St) (H:Hp) (Q:VK),Inv X pins σ H s->t σ H Q->wpAny (model X.prog X.w) X.A (eval e X.env) (EP X pins σ Q) X.xe s
def PT (X:Cx) (e:Expr) (t:TT):Prop :=
 ∀ (pins:List (Addr × Obj)) (s:Shared) (σ:St) (H:Hp) (Q:Bool->Hp->Prop),Inv X pins σ H s->t σ H Q->wpAny (model X.prog X.w) X.A (isTrue e X.env (eval e X.env)) (TP X pins σ Q) X.xe s
def PW (X:Cx) (e:Expr) (t:TT):Prop :=
 ∀ (whole:Sem Value) (pins:List (Addr × Obj)) (s:Shared) (σ:St) (H:Hp) (Q:Bool->Hp->Prop),Inv X pins σ H s->t σ H Q->wpAny (model X.prog X.w) X.A (isTrue e X.env whole) (TP X pins σ Q) X.xe s
variable {X:Cx}
theorem PW.pt {e:Expr} {t:TT} (h:PW X e t):PT X e t:=h _
def PA (X:Cx) (es:List Expr) (t:TA):Prop :=
 ∀ (pos:Pos) (pins:List (Addr × Obj)) (s:Shared) (σ:St) (H:Hp) (Q:List V->Hp->Prop),Inv X pins σ H s->t σ H Q->wpAny (model X.prog X.w) X.A (spliced (backTo pos (starEach es X.env))) (AP X pins σ Q) X.xe s
def PS (X:Cx) (st:Stmt) (t:TS):Prop :=
 ∀ (pins:List (Addr × Obj)) (s:Shared) (σ:St) (H:Hp) (D:gM),Inv X pins σ H s->t D σ H->wpAny (model X.prog X.w) X.A (exec st X.env) (SP X pins D) X.xe s
def PSs (X:Cx) (st:List Stmt) (t:TS):Prop :=
 ∀ (pins:List (Addr × Obj)) (s:Shared) (σ:St) (H:Hp) (D:gM),Inv X pins σ H s->t D σ H->wpAny (model X.prog X.w) X.A (execs st X.env) (SP X pins D) X.xe s
variable {M:Model} {A:Around} {s:Shared}
theorem thn {α:Type} {t:Sem α} {Q Q':α->Shared->Prop} {E:Value->Shared->Prop} (h:wpAny M A t Q E s) (hQ:∀ a s,Q a s->Q' a s):wpAny M A t Q' E s:=wpAny_mono h hQ λ_ _ x=>x
section
variable {X:Cx}
def cx (i:Nat):TE:=λσ H Q=>∃ v,σ[i]?=some (some v)/\Q v H
def tC (v:V):TE:=λ_ H Q=>Q v H
variable {x:Str}
theorem Ck {i:Nat} {pos:Pos} (hN:X.N[i]?=some x) (hv:Vis X.env.scope x) (hd:(x == ("__debug__":Str))=false:=by decide) (hcd:(x == ("__classdict__":Str))=false:=by decide):PE X (.Name x pos) (cx i):=by
 intro pins s σ H Q I h
 obtain ⟨v,e,h⟩:=h
 obtain ⟨m,hn,hl⟩:=I.loc
 obtain ⟨u,r,l⟩:=hl i x v hN e hv
 have fin:EP X pins σ Q u s:=⟨v,H,I,r,h⟩
 rcases l with ⟨hk,hm⟩ | ⟨hk,c,hc,hcell⟩
 ·exact wpAny_Name (wpAny_loadName_local I.ok.kind hk hn hm fin) hd
 ·rcases hk with hk | hk
  ·exact wpAny_Name (wpAny_loadName_cell I.ok.kind hk hc hcell fin) hd
  ·exact wpAny_Name (wpAny_loadName_free I.ok.kind hk hc hcell fin hcd) hd
theorem aj {i j pos}:PE X (.Constant (.int i) j pos) (tC (.int i)):=λ_ _ _ H _ I h=>wpAny_Constant_int ⟨.int i,H,I.tok _,⟨_,rfl⟩,h⟩
theorem cV {b j pos}:PE X (.Constant (.bool b) j pos) (tC (.bl b)):=λ_ _ _ H _ I h=>Constant_bool ⟨.bl b,H,I,rfl,h⟩
theorem p4 {j pos}:PE X (.Constant .none j pos) (tC .non):=λ_ _ _ H _ I h=>Constant_none ⟨.non,H,I,rfl,h⟩
theorem aw {x j pos}:PE X (.Constant (.str x) j pos) (tC (.str x)):=λ_ _ _ H _ I h=>Calls.Constant_str ⟨.str x,H,I.tok _,⟨_,rfl⟩,h⟩
def Gl (X:Cx) (x:Str):Prop:=X.env.kindOf x=some .globalImplicit
variable {pins:List (Addr × Obj)} {s:Shared} {σ:St} {H:Hp} {u:Value}
theorem gB {E:Value->Shared->Prop} {pos:Pos} {Q:Value->Shared->Prop} (I:Inv X pins σ H s) (hg:Gl X x) (hm:X.mg x=some u) (h:Q u s)
  (hd:(x == ("__debug__":Str))=false:=by decide):wpAny (model X.prog X.w) X.A (eval (.Name x pos) X.env) Q E s :=
 Calls.Name_function_global I.ok.kind hg (Calls.loadGlobal_global (by rw [I.ok.glob];exact I.mod.glob.keeps I.bk) hm h) hd
theorem kK {E:Value->Shared->Prop} {pos:Pos} {Q:Value->Shared->Prop} (I:Inv X pins σ H s) (hg:Gl X x) (hm:X.mg x=none) (hv:bootBuiltins x=some u) (h:Q u s)
  (hn:x≠"__name__":=by decide) (hd:(x == ("__debug__":Str))=false:=by decide):wpAny (model X.prog X.w) X.A (eval (.Name x pos) X.env) Q E s:=by
 obtain ⟨mb,h1,h2⟩:=I.mod.blt
 exact Calls.Name_function_global I.ok.kind hg (Calls.loadGlobal_builtin (by rw [I.ok.glob];exact I.mod.glob.keeps I.bk) hm (by rw [I.ok.blt];exact h1.keeps I.bk) ((h2 x hn).trans hv) h) hd
variable {v:V}
theorem bj {pos:Pos} (hg:Gl X x) (hm:X.mg x=some u) (r:RelV v u) (hd:(x == ("__debug__":Str))=false:=by decide):PE X (.Name x pos) (tC v) :=
 λ_ _ _ H _ I h=>gB I hg hm ⟨v,H,I,r,h⟩ hd
theorem fg {pos:Pos} (hg:Gl X x) (hm:X.mg x=none) (hv:bootBuiltins x=some u) (r:RelV v u) (hn:x≠"__name__":=by decide) (hd:(x == ("__debug__":Str))=false:=by decide):PE X (.Name x pos) (tC v) :=
 λ_ _ _ H _ I h=>kK I hg hm hv ⟨v,H,I,r,h⟩ hn hd
variable {a b:Expr} {ta tb:TE} {pos:Pos}
variable {tA tB':TT} {rest:List Expr}
def Dq (t u:TT):TT:=λσ H Q=>t σ H λc H1=>if c=true then u σ H1 Q else Q false H1
def tOr (t u:TT):TT:=λσ H Q=>t σ H λc H1=>if c=true then Q true H1 else u σ H1 Q
def CL (t:TT):TT:=λσ H Q=>t σ H λc H1=>Q (!c) H1
theorem kq (ha:PT X a tA):PW X (.BoolOp .And [a] pos) tA:=by
 intro wh pins s σ H Q I h
 refine isTrue_and (thn (ha pins s σ H Q I h) λc s1 e=>?_)
 cases c with
 | true=>exact isTrue_and_nil e
 | false=>exact e
theorem eG (ha:PT X a tA):PW X (.BoolOp .Or [a] pos) tA:=by
 intro wh pins s σ H Q I h
 refine isTrue_or (thn (ha pins s σ H Q I h) λc s1 e=>?_)
 cases c with
 | false=>exact isTrue_or_nil e
 | true=>exact e
theorem m9 (ha:PT X a tA) (hb:PW X (.BoolOp .And (b::rest) pos) tB'):PW X (.BoolOp .And (a::b::rest) pos) (Dq tA tB'):=by
 intro wh pins s σ H Q I h
 refine isTrue_and (thn (ha pins s σ H _ I h) λc s1 ⟨H1,I1,q1⟩=>?_)
 cases c with
 | true=>exact hb wh pins s1 σ H1 Q I1 q1
 | false=>exact ⟨H1,I1,q1⟩
theorem fM (ha:PT X a tA) (hb:PW X (.BoolOp .Or (b::rest) pos) tB'):PW X (.BoolOp .Or (a::b::rest) pos) (tOr tA tB'):=by
 intro wh pins s σ H Q I h
 refine isTrue_or (thn (ha pins s σ H _ I h) λc s1 ⟨H1,I1,q1⟩=>?_)
 cases c with
 | true=>exact ⟨H1,I1,q1⟩
 | false=>exact hb wh pins s1 σ H1 Q I1 q1
theorem cI (ha:PT X a tA):PT X (.UnaryOp .Not a pos) (CL tA):=by
 intro pins s σ H Q I h
 exact isTrue_not (ha pins s σ H (λc H1=>Q (!c) H1) I h)
def BF (ta tb:TE):TE:=λσ H Q=>ta σ H λx H1=>∃ c,x=.bl c/\if c=true then tb σ H1 Q else Q (.bl false) H1
def Du (ta tb:TE):TE:=λσ H Q=>ta σ H λx H1=>∃ c,x=.bl c/\if c=true then Q (.bl true) H1 else tb σ H1 Q
def BG (ta:TE):TE:=λσ H Q=>ta σ H λx H1=>∃ c,x=.bl c/\Q (.bl (!c)) H1
theorem kP {op} {t:TE} (h:PE X a t):PE X (.BoolOp op [a] pos) t:=λpins s σ H Q I hw=>BoolOp_one (h pins s σ H Q I hw)
theorem kO (ha:PE X a ta) (hb:PE X (.BoolOp .And (b::rest) pos) tb):PE X (.BoolOp .And (a::b::rest) pos) (BF ta tb):=by
 intro pins s σ H Q I h
 refine BoolOp_and (thn (ha pins s σ H _ I h) λv s1 ⟨x,H1,I1,r1,q1⟩=>?_)
 obtain ⟨c,rfl,q1⟩:=q1
 cases r1
 refine wpAny_truthy_bool ?_
 cases c with
 | true=>exact hb pins s1 σ H1 Q I1 q1
 | false=>exact ⟨.bl false,H1,I1,rfl,q1⟩
theorem Bv (ha:PE X a ta) (hb:PE X (.BoolOp .Or (b::rest) pos) tb):PE X (.BoolOp .Or (a::b::rest) pos) (Du ta tb):=by
 intro pins s σ H Q I h
 refine BoolOp_or (thn (ha pins s σ H _ I h) λv s1 ⟨x,H1,I1,r1,q1⟩=>?_)
 obtain ⟨c,rfl,q1⟩:=q1
 cases r1
 refine wpAny_truthy_bool ?_
 cases c with
 | false=>exact hb pins s1 σ H1 Q I1 q1
 | true=>exact ⟨.bl true,H1,I1,rfl,q1⟩
theorem Cj (ha:PE X a ta):PE X (.UnaryOp .Not a pos) (BG ta):=by
 intro pins s σ H Q I h
 refine UnaryOp_ (thn (ha pins s σ H _ I h) λv s1 ⟨x,H1,I1,r1,q1⟩=>?_)
 obtain ⟨c,rfl,q1⟩:=q1
 cases r1
 exact not_of (wpAny_truthy_bool ⟨.bl (!c),H1,I1,rfl,q1⟩)
def tIf (t:TT) (ta tb:TE):TE:=λσ H Q=>t σ H λc H1=>if c=true then ta σ H1 Q else tb σ H1 Q
theorem cN {c:Expr} (hc:PT X c tA) (ha:PE X a ta) (hb:PE X b tb):PE X (.IfExp c a b pos) (tIf tA ta tb):=by
 intro pins s σ H Q I h
 refine wpAny_IfExp (thn (hc pins s σ H _ I h) λd s1 ⟨H1,I1,q1⟩=>?_)
 cases d with
 | true=>exact ha pins s1 σ H1 Q I1 q1
 | false=>exact hb pins s1 σ H1 Q I1 q1
end
def SqL (K:PySem.W.Frag) (H:Hp) (a:Addr) (xs:List V):Prop :=
 Rd H a (.lst xs) \/
  ∃ (o:Obj) (its:Array Value) (n:Nat),K.lookup a=some o/\o.cls=.type "list"/\o.dict=none/\o.data=.seq its n/\its.size≤sizeLine/\Vals xs its.toList
def SqT (K:PySem.W.Frag) (H:Hp) (a:Addr) (xs:List V):Prop :=
 Rd H a (.tup xs) \/
  ∃ (o:Obj) (its:Array Value) (n:Nat),K.lookup a=some o/\o.cls=.type "tuple"/\o.data=.seq its n/\its.size≤sizeLine/\Vals xs its.toList
def DG:Value->Option V
 | .none=>some .non
 | .bool b=>some (.bl b)
 | .int i _=>some (.int i)
 | .str x _=>some (.str x)
 | .bytes b _=>some (.byt b)
 | .float b _=>some (.flt b)
 | .ref a=>some (.ref a)
 | .type n=>some (.ty n)
 | _=>none
theorem RelV.abs {x:V} (r:RelV x u):DG u=some x:=by
 cases x with
 | non=>cases r;rfl
 | bl _=>cases r;rfl
 | int _=>obtain ⟨t,rfl⟩:=r;rfl
 | str _=>obtain ⟨t,rfl⟩:=r;rfl
 | byt _=>obtain ⟨t,rfl⟩:=r;rfl
 | flt _=>obtain ⟨t,rfl⟩:=r;rfl
 | ref _=>cases r;rfl
 | ty _=>cases r;rfl
theorem RelV.inj {x y:V} (r:RelV x u) (q:RelV y u):x=y:=Option.some.inj (r.abs.symm.trans q.abs)
theorem Vals.inj:∀ {xs ys:List V} {us:List Value},Vals xs us->Vals ys us->xs=ys
 | _,_,_,.nil,.nil=>rfl
 | _,_,_,.cons r t,.cons r' t'=>by rw [r.inj r',Vals.inj t t']
section
variable {X:Cx} {pins:List (Addr × Obj)} {σ:St} {H:Hp} {s:Shared} {a:Addr} {xs ys:List V}
variable {K:PySem.W.Frag}
theorem SqL.of (h:H a=some (.lst xs)):SqL K H a xs:=.inl (.inl h)
theorem SqT.of (h:H a=some (.tup xs)):SqT K H a xs:=.inl (.inl h)
theorem Inv.list (I:Inv X pins σ H s) (h:SqL X.K H a xs):∃ its:List Value,Vals xs its/\PlainL s.heap a its.toArray/\xs.length≤sizeLine:=by
 rcases h with h | ⟨o,its,n,hk,hc,hd,hs,hz,r⟩
 ·obtain ⟨z,its,n,r,e⟩:=h.ok I.hok
  exact ⟨its,r,⟨_,n,e,rfl,rfl,rfl⟩,z⟩
 ·refine ⟨its.toList,r,⟨o,n,I.kIn a o hk,hc,hd,by simpa using hs⟩,?_⟩
  have e:=r.length
  simp only [Array.length_toList] at e
  omega
theorem Inv.tuple (I:Inv X pins σ H s) (h:SqT X.K H a xs):∃ its:List Value,Vals xs its/\IsTup s.heap a its.toArray/\xs.length≤sizeLine:=by
 rcases h with h | ⟨o,its,n,hk,hc,hs,hz,r⟩
 ·obtain ⟨z,its,r,p⟩:=h.ok I.hok
  exact ⟨its,r,p,z⟩
 ·refine ⟨its.toList,r,⟨o,I.kIn a o hk,hc,n,by simpa using hs⟩,?_⟩
  have e:=r.length
  simp only [Array.length_toList] at e
  omega
theorem Inv.list_inj (I:Inv X pins σ H s) (h:SqL X.K H a xs) (h':SqL X.K H a ys):xs=ys:=by
 obtain ⟨its,r,⟨o,n,e,_,_,d⟩,_⟩:=I.list h
 obtain ⟨its',r',⟨o',n',e',_,_,d'⟩,_⟩:=I.list h'
 rw [e] at e';cases e'
 rw [d] at d'
 injection d' with d1 _
 have:its=its':=by simpa using congrArg Array.toList d1
 subst this
 exact r.inj r'
theorem Inv.tuple_inj (I:Inv X pins σ H s) (h:SqT X.K H a xs) (h':SqT X.K H a ys):xs=ys:=by
 obtain ⟨its,r,⟨o,e,_,n,d⟩,_⟩:=I.tuple h
 obtain ⟨its',r',⟨o',e',_,n',d'⟩,_⟩:=I.tuple h'
 rw [e] at e';cases e'
 rw [d] at d'
 injection d' with d1 _
 have:its=its':=by simpa using congrArg Array.toList d1
 subst this
 exact r.inj r'
end
abbrev Cx.wish (X:Cx) (E:Value->Shared->Prop):Cx:={ X with xe:=E }
abbrev Cx.nox (X:Cx):Cx:=X.wish λ_ _=>False
theorem Cx.Ok.wish (ok:X.Ok) (E:Value->Shared->Prop):(X.wish E).Ok :=
 ⟨ok.mod,ok.kind,ok.glob,ok.blt,ok.above,ok.inj,ok.has,ok.cab,ok.hd,ok.frames,ok.stk,ok.exf,ok.bs,ok.bsz,ok.noex,ok.exfs,ok.funs,ok.frf⟩
theorem Cx.Ok.unwish {E:Value->Shared->Prop} (ok:(X.wish E).Ok):X.Ok :=
 ⟨ok.mod,ok.kind,ok.glob,ok.blt,ok.above,ok.inj,ok.has,ok.cab,ok.hd,ok.frames,ok.stk,ok.exf,ok.bs,ok.bsz,ok.noex,ok.exfs,ok.funs,ok.frf⟩
section
variable {X:Cx} {pins:List (Addr × Obj)} {σ:St} {H:Hp} {s:Shared} {E:Value->Shared->Prop}
theorem Inv.wish (I:Inv X pins σ H s) (E:Value->Shared->Prop):Inv (X.wish E) pins σ H s:=⟨I.ok.wish E,I.os,I.bare,I.base,I.loc,I.cell,I.free,I.freeC,I.pin,I.hok,I.len⟩
theorem Inv.unwish (I:Inv (X.wish E) pins σ H s):Inv X pins σ H s:=⟨I.ok.unwish,I.os,I.bare,I.base,I.loc,I.cell,I.free,I.freeC,I.pin,I.hok,I.len⟩
theorem SP.unwish {D:gM} {f:Flow} {s':Shared} (h:SP (X.wish E) pins D f s'):SP X pins D f s':=by
 cases f with
 | next=>obtain ⟨σ',H',I,q⟩:=h;exact ⟨σ',H',I.unwish,q⟩
 | brk=>obtain ⟨σ',H',I,q⟩:=h;exact ⟨σ',H',I.unwish,q⟩
 | cont=>obtain ⟨σ',H',I,q⟩:=h;exact ⟨σ',H',I.unwish,q⟩
 | ret u=>obtain ⟨v,σ',H',I,r,q⟩:=h;exact ⟨v,σ',H',I.unwish,r,q⟩
theorem PSs.nox {st:List Stmt} {t:TS} (h:PSs X.nox st t):PSs X st t:=λpins s σ H D I hw =>
 wpAny_mono (h pins s σ H D (I.wish _) hw) (λ_ _ q=>q.unwish) λ_ _ z=>False.elim z
end
section
variable {X:Cx} {st:Stmt} {rest:List Stmt} {t u:TS} {e:Expr} {te:TE} {pos:Pos}
def iJ:TS:=λD σ H=>D.nx σ H
def jZ (t u:TS):TS:=λD σ H=>t { D with nx:=u D } σ H
theorem aF:PSs X [] iJ:=λ_ _ σ H _ I h=>wpAny_execs_nil ⟨σ,H,I,h⟩
theorem ak (h1:PS X st t) (h2:PSs X rest u):PSs X (st::rest) (jZ t u):=by
 intro pins s σ H D I h
 refine wpAny_execs_cons (thn (h1 pins s σ H { D with nx:=u D } I h) λf s1 q=>?_)
 cases f with
 | next =>
  obtain ⟨σ',H',I',q⟩:=q
  exact h2 pins s1 σ' H' D I' q
 | ret v=>exact q
 | brk=>exact q
 | cont=>exact q
theorem aq (h1:PS X st t):PSs X [st] t:=by
 intro pins s σ H D I h
 refine wpAny_execs_cons (thn (h1 pins s σ H D I h) λf s1 q=>?_)
 cases f with
 | next=>exact wpAny_execs_nil q
 | ret v=>exact q
 | brk=>exact q
 | cont=>exact q
theorem Inv.quiet {pins:List (Addr × Obj)} {σ:St} {H:Hp} {s:Shared} (I:Inv X pins σ H s):interactive X.env=false:=by simp [interactive,I.ok.kind]
def lD (te:TE):TS:=λD σ H=>te σ H λ_ H1=>D.nx σ H1
theorem aX (he:PE X e te) (hs:swapsWith e none pos.line X.env=pure false:=by rfl):PS X (.Expr e pos) (lD te):=by
 intro pins s σ H D I h
 exact wpAny_Expr_any (thn (he pins s σ H _ I h) λv s1 ⟨x,H1,I1,r1,q1⟩=>⟨σ,H1,I1,q1⟩) I.quiet hs
def CM (te:TE):TS:=λD σ H=>te σ H D.rt
theorem aE (he:PE X e te):PS X (.Return (some e) pos) (CM te):=by
 intro pins s σ H D I h
 exact wpAny_Return_some (thn (he pins s σ H _ I h) λv s1 ⟨x,H1,I1,r1,q1⟩=>⟨x,σ,H1,I1,r1,q1⟩)
def Dv:TS:=λD _ H=>D.rt .non H
theorem vp:PS X (.Return none pos) Dv:=λ_ _ σ H _ I h=>wpAny_Return_none ⟨.non,σ,H,I,rfl,h⟩
def Bi (c:TT) (t u:TS):TS:=λD σ H=>c σ H λb H1=>if b=true then t D σ H1 else u D σ H1
theorem aT {c:Expr} {a b:List Stmt} {tc:TT} (hc:PT X c tc) (ha:PSs X a t) (hb:PSs X b u):PS X (.If c a b pos) (Bi tc t u):=by
 intro pins s σ H D I h
 refine wpAny_If (thn (hc pins s σ H _ I h) λd s1 ⟨H1,I1,q1⟩=>?_)
 cases d with
 | true=>exact ha pins s1 σ H1 D I1 q1
 | false=>exact hb pins s1 σ H1 D I1 q1
def CK:TS:=λ_ _ _=>False
theorem rK:PS X st CK:=λ_ _ _ _ _ _ h=>h.elim
end
abbrev TG:=V->St->Hp->(St->Hp->Prop)->Prop
abbrev TGs:=List V->St->Hp->(St->Hp->Prop)->Prop
def PG (X:Cx) (target:Expr) (t:TG):Prop :=
 ∀ (pins:List (Addr × Obj)) (s:Shared) (σ:St) (H:Hp) (v:V) (u:Value) (Q:St->Hp->Prop),Inv X pins σ H s->RelV v u->t v σ H Q ->
  wpAny (model X.prog X.w) X.A (assign target X.env u) (λ_ s'=>∃ σ' H',Inv X pins σ' H' s'/\Q σ' H') X.xe s
def PGs (X:Cx) (ts:List Expr) (t:TGs):Prop :=
 ∀ (pins:List (Addr × Obj)) (s:Shared) (σ:St) (H:Hp) (vs:List V) (us:List Value) (Q:St->Hp->Prop),Inv X pins σ H s->Vals vs us->t vs σ H Q ->
  wpAny (model X.prog X.w) X.A (assignInOrder ((assignEach ts X.env).map (·.2)) us) (λ_ s'=>∃ σ' H',Inv X pins σ' H' s'/\Q σ' H') X.xe s
abbrev xw:=V->V->V->Hp->(Hp->Prop)->Prop
def BJ (X:Cx) (t:xw):Prop :=
 ∀ (pins:List (Addr × Obj)) (s:Shared) (σ:St) (H:Hp) (o i v:V) (ov iv u:Value) (Q:Hp->Prop),Inv X pins σ H s->RelV o ov->RelV i iv->RelV v u->t o i v H Q ->
  wpAny (model X.prog X.w) X.A (setItem ov iv u) (λ_ s'=>∃ H',Inv X pins σ H' s'/\Q H') X.xe s
abbrev TIp:=V->V->Hp->VK->Prop
def PIp (X:Cx) (op:Operator) (t:TIp):Prop :=
 ∀ (pins:List (Addr × Obj)) (s:Shared) (σ:St) (H:Hp) (x y:V) (v u:Value) (Q:VK),Inv X pins σ H s->RelV x v->RelV y u->t x y H Q ->
  wpAny (model X.prog X.w) X.A (inplaceOp op v u) (EP X pins σ Q) X.xe s
section
variable {X:Cx} {pos:Pos}
def bq (i:Nat):TG:=λv σ H Q=>Q (σ.set i (some v)) H
variable {i:Nat} {x:Str}
theorem aH (hN:X.N.Nodup) (hi:X.N[i]?=some x) (hx:Loc X.env.scope x) (hf:X.fn x=true\/X.env.scope.names.lookup x=some .local:=by first | exact .inl rfl | exact .inr rfl | assumption):PG X (.Name x pos) (bq i):=by
 intro pins s σ H v u Q I r h
 exact wpAny_assign_Name (jk I hN hi hx r (λs' I'=>⟨_,H,I',h⟩) hf)
def sS:TGs:=λvs σ H Q=>vs=[]/\Q σ H
def fK (t:TG) (u:TGs):TGs:=λvs σ H Q=>∃ v r,vs=v::r/\t v σ H λσ' H'=>u r σ' H' Q
theorem dX:PGs X [] sS:=by
 intro pins s σ H vs us Q I r h
 obtain ⟨e,h⟩:=h
 subst e
 cases r
 exact assignInOrder_nil ⟨σ,H,I,h⟩
variable {e:Expr} {es:List Expr}
theorem aW {t:TG} {u:TGs} (h1:PG X e t) (h2:PGs X es u)
  (hs:(assignEach (e::es) X.env).map (·.2)=assign e X.env::(assignEach es X.env).map (·.2):=by rfl):PGs X (e::es) (fK t u):=by
 intro pins s σ H vs us Q I r h
 obtain ⟨v,vr,e1,h⟩:=h
 subst e1
 cases r with
 | cons r rr =>
  rw [hs]
  refine assignInOrder_cons (thn (h1 pins s σ H _ _ _ I r h) λ_ s1 ⟨σ1,H1,I1,q1⟩=>?_)
  exact h2 pins s1 σ1 H1 _ _ Q I1 rr q1
def pq (K:PySem.W.Frag) (n:Nat) (t:TGs):TG:=λv σ H Q=>∃ a xs,v=.ref a/\SqT K H a xs/\xs.length=n/\t xs σ H Q
theorem fH {k:Nat} {t:TGs} {n:Nat} (hc:X.calm=true) (h:PGs X es t)
  (hn:(assignEach es X.env).length=n:=by rfl) (hst:(assignEach es X.env).findIdx? (·.1)=none:=by rfl):PG X (.Tuple es k pos) (pq X.K n t):=by
 intro pins s σ H v u Q I r hw
 obtain ⟨a,xs,e1,hq,hl,hw⟩:=hw
 subst e1
 cases r
 obtain ⟨its,rv,ht,hz⟩:=I.tuple hq
 refine assign_Tuple_tuple (I.ok.hd hc) ht (by simp [hn,← hl,rv.length]) hst λh' hx=>?_
 have I1:Inv X pins σ H { s with heap:=h' }:=I.kept (t':=s.toks) λb o e=>hx b o (Nat.ne_of_lt (Heap.lt_size e)) e
 exact h pins _ σ H xs _ Q I1 (by simpa using rv) hw
def DK (to ti:TE) (t:xw):TG:=λv σ H Q=>to σ H λo H1=>ti σ H1 λi H2=>t o i v H2 λH3=>Q σ H3
variable {o:Expr} {to ti:TE}
theorem yM {i:Expr} {t:xw} (ho:PE X o to) (hi:PE X i ti) (hs:BJ X t)
  (ha:∀ v,assign (.Subscript o i pos) X.env v=(do
   let ov ← holding [v] (eval o X.env)
   let iv ← holding [v,ov] (eval i X.env)
   standAt pos
   holding [v,ov,iv] (setItem ov iv v)
   release [v,ov,iv] []):=by intro _;rfl):PG X (.Subscript o i pos) (DK to ti t):=by
 intro pins s σ H v u Q I r h
 rw [ha]
 refine wpAny_bind (wpAny_holding (thn (ho pins s σ H _ I h) λov s1 ⟨x,H1,I1,r1,q1⟩=>?_))
 refine wpAny_bind (wpAny_holding (thn (hi pins s1 σ H1 _ I1 q1) λiv s2 ⟨y,H2,I2,r2,q2⟩=>?_))
 refine wpAny_bind (wpAny_standAt (wpAny_bind (wpAny_holding (thn (hs pins s2 σ H2 x y v ov iv u _ I2 r1 r2 r q2) λ_ s3 ⟨H3,I3,q3⟩=>?_))))
 exact wpAny_release ⟨σ,H3,I3,q3⟩
def jY (te:TE) (g:TG):TS:=λD σ H=>te σ H λx H1=>g x σ H1 D.nx
variable {te:TE}
theorem eX {tg:Expr} {g:TG} (he:PE X e te) (hg:PG X tg g) (hs:swapsWithSole [tg] e pos.line X.env=pure false:=by rfl) (hw:swappedStores [tg] e X.env=pure none:=by rfl)
  (h1:(assignEach [tg] X.env).map (·.2)=[assign tg X.env]:=by rfl):PS X (.Assign [tg] e pos) (jY te g):=by
 intro pins s σ H D I h
 refine wpAny_Assign_stores (thn (he pins s σ H _ I h) λv s1 ⟨x,H1,I1,r1,q1⟩=>?_) hs hw
 rw [h1]
 exact thn (hg pins s1 σ H1 x v _ I1 r1 q1) λ_ s2 q=>q
variable {pos':Pos}
theorem ba (hN:X.N.Nodup) (hi:X.N[i]?=some x) (hx:Loc X.env.scope x) (he:PE X e te) (hs:swapsWith e (some (.Name x pos')) pos.line X.env=pure false:=by rfl) (hf:X.fn x=true\/X.env.scope.names.lookup x=some .local:=by first | exact .inl rfl | exact .inr rfl | assumption) :
  PS X (.Assign [.Name x pos'] e pos) (jY te (bq i)):=by
 intro pins s σ H D I h
 refine wpAny_Assign_Name (thn (he pins s σ H _ I h) λv s1 ⟨y,H1,I1,r1,q1⟩=>?_) hs
 exact jk I1 hN hi hx r1 (λs2 I2=>⟨_,H1,I2,q1⟩) hf
def DQ (i j:Nat) (ta:TA):TS:=λD σ H=>ta σ H λvs H1=>∃ v w,vs=[v,w]/\D.nx ((σ.set i (some v)).set j (some w)) H1
theorem tT {j:Nat} {y:Str} {a b:Expr} {ta:TA} {px py pt:Pos} {kt k2 pt2} (hc:X.calm=true) (hN:X.N.Nodup) (hi:X.N[i]?=some x) (hj:X.N[j]?=some y) (hij:i≠j)
  (hx:X.env.scope.names.lookup x=some .local) (hy:X.env.scope.names.lookup y=some .local) (ha:PA X [a,b] ta)
  (hw:swappedStores [.Tuple [.Name x px,.Name y py] kt pt] (.Tuple [a,b] k2 pt2) X.env=pure (some [x,y]))
  (hs:swapsWithSole [.Tuple [.Name x px,.Name y py] kt pt] (.Tuple [a,b] k2 pt2) pos.line X.env=pure false:=by rfl) :
  PS X (.Assign [.Tuple [.Name x px,.Name y py] kt pt] (.Tuple [a,b] k2 pt2) pos) (DQ i j ta):=by
 intro pins s σ H D I h
 rw [exec_Assign_arm]
 refine wpAny_bind (wpAny_standAt ?_)
 rw [hs]
 refine wpAny_bind (wpAny_pure ?_)
 rw [if_neg (by decide)]
 refine wpAny_bind (Tuple_ (thn (ha _ pins s σ H _ I h) λus s1 ⟨vs,H1,I1,r1,q1⟩=>?_))
 obtain ⟨v,w,e1,q1⟩:=q1
 subst e1
 obtain ⟨u1,u2,rfl,rv,rw'⟩:∃ u1 u2,us=[u1,u2]/\RelV v u1/\RelV w u2:=by
  cases r1 with
  | cons p q =>
   cases q with
   | cons p' q' =>
    cases q'
    exact ⟨_,_,rfl,p,p'⟩
 refine wpAny_newObj_type ?_ (by show 2≤sizeLine;decide)
 have I2:Inv X pins σ H1 { s1 with heap:=s1.heap.push { cls:=.type "tuple",data:=.seq [u1,u2].toArray } }:=I1.kept (t':=s1.toks) λb o e=>Heap.get?_push_of_some _ e
 rw [hw]
 refine wpAny_bind (wpAny_pure ?_)
 show wpAny (model X.prog X.w) X.A (do rule "assign.swapped-stores";let items ← unpackItems (.ref s1.heap.objs.size) 2 none;assignInOrder [λv=>bindName X.env y v,λv=>bindName X.env x v] items.reverse;pure Flow.next) _ _ _
 refine wpAny_bind (wpAny_rule (wpAny_bind (unpackItems_tuple (items:=#[u1,u2]) (I.ok.hd hc) (IsTup.new s1.heap _) λh' hx'=>?_)))
 have I3:=I2.kept (h':=h') (t':=s1.toks) λb o e=>hx' b o (Nat.ne_of_lt (Heap.lt_size e)) e
 show wpAny _ _ (assignInOrder [λv=>bindName X.env y v,λv=>bindName X.env x v] [u2,u1] >>= λ_=>pure Flow.next) _ _ _
 refine wpAny_bind (assignInOrder_cons (wpAny_bindName (jk I3 hN hj (.inl hy) rw' (λs2 I4=>?_) (.inr hy))))
 refine assignInOrder_cons (wpAny_bindName (jk I4 hN hi (.inl hx) rv (λs3 I5=>assignInOrder_nil (wpAny_pure ?_)) (.inr hx)))
 rw [List.set_comm _ _ (Ne.symm hij)] at I5
 exact ⟨_,H1,I5,q1⟩
def DP (i:Nat) (te:TE) (ti:TIp):TS:=λD σ H=>∃ x,σ[i]?=some (some x)/\te σ H λy H1=>ti x y H1 λz H2=>D.nx (σ.set i (some z)) H2
variable {op:Operator}
theorem yU {ti:TIp} (hN:X.N.Nodup) (hi:X.N[i]?=some x) (hx:Loc X.env.scope x) (he:PE X e te) (ho:PIp X op ti) (hf:X.fn x=true\/X.env.scope.names.lookup x=some .local:=by first | exact .inl rfl | exact .inr rfl | assumption) :
  PS X (.AugAssign (.Name x pos') op e pos) (DP i te ti):=by
 intro pins s σ H D I h
 obtain ⟨v,e1,h⟩:=h
 obtain ⟨m,hn,hl⟩:=I.loc
 have vis:Vis X.env.scope x:=by rcases hx with k | k;exact .inl k;exact .inr (.inl k)
 obtain ⟨u,r,l⟩:=hl i x v hi e1 vis
 refine wpAny_AugAssign_Name ?_
 have go:wpAny (model X.prog X.w) X.A (eval e X.env) (λw s₂=>wpAny (model X.prog X.w) X.A (inplaceOp op u w) (λr s₃=>wpAny (model X.prog X.w) X.A (storeName X.env x r) (λ_=>SP X pins D .next) X.xe s₃) X.xe s₂) X.xe s:=by
  refine thn (he pins s σ H _ I h) λw s1 ⟨y,H1,I1,r1,q1⟩=>?_
  refine thn (ho pins s1 σ H1 v y u w _ I1 r r1 q1) λz s2 ⟨zv,H2,I2,r2,q2⟩=>?_
  exact jk I2 hN hi hx r2 (λs3 I3=>⟨_,H2,I3,q2⟩) hf
 rcases l with ⟨hk,hm⟩ | ⟨hk,c,hc,hcell⟩
 ·exact wpAny_loadName_local I.ok.kind hk hn hm go
 ·rcases hk with hk | hk
  ·exact wpAny_loadName_cell I.ok.kind hk hc hcell go
  ·rcases hx with k | k
   ·have:X.env.scope.names.lookup x=some .free:=hk
    rw [k] at this;cases this
   ·have:X.env.scope.names.lookup x=some .free:=hk
    rw [k] at this;cases this
def Dr (to ti te:TE) (tget:V->V->Hp->VK->Prop) (tip:TIp) (tset:xw):TS:=λD σ H=>to σ H λo H1=>ti σ H1 λi H2=>tget o i H2 λx H3=>te σ H3 λy H4=>tip x y H4 λz H5=>tset o i z H5 λH6=>D.nx σ H6
def CZ (X:Cx) (t:V->V->Hp->VK->Prop):Prop :=
 ∀ (pins:List (Addr × Obj)) (s:Shared) (σ:St) (H:Hp) (o i:V) (ov iv:Value) (Q:VK),Inv X pins σ H s->RelV o ov->RelV i iv->t o i H Q ->
  wpAny (model X.prog X.w) X.A (getItem ov iv) (EP X pins σ Q) X.xe s
theorem AQ {i:Expr} {tget:V->V->Hp->VK->Prop} {tip:TIp} {tset:xw} {tpos:Pos} (ho:PE X o to) (hi:PE X i ti) (hg:CZ X tget) (he:PE X e te) (hp:PIp X op tip) (hs:BJ X tset)
  (ha:∀ ov iv new,augStore i ov iv new=(do holding [new,ov,iv] (setItem ov iv new);release [new,ov,iv] [];pure .next):=by intros;rfl):PS X (.AugAssign (.Subscript o i tpos) op e pos) (Dr to ti te tget tip tset):=by
 intro pins s σ H D I h
 refine wpAny_AugAssign_SubscriptAny (thn (ho pins s σ H _ I h) λov s1 ⟨x1,H1,I1,r1,q1⟩=>?_) ha
 refine thn (hi pins s1 σ H1 _ I1 q1) λiv s2 ⟨x2,H2,I2,r2,q2⟩=>?_
 refine thn (hg pins s2 σ H2 x1 x2 ov iv _ I2 r1 r2 q2) λold s3 ⟨x3,H3,I3,r3,q3⟩=>?_
 refine thn (he pins s3 σ H3 _ I3 q3) λv s4 ⟨x4,H4,I4,r4,q4⟩=>?_
 refine thn (hp pins s4 σ H4 x3 x4 old v _ I4 r3 r4 q4) λnew s5 ⟨x5,H5,I5,r5,q5⟩=>?_
 exact thn (hs pins s5 σ H5 x1 x2 x5 ov iv new _ I5 r1 r2 r5 q5) λ_ s6 ⟨H6,I6,q6⟩=>⟨σ,H6,I6,q6⟩
def ipI (f:Int->Int->Int):TIp:=λx y H Q=>∃ i j,x=.int i/\y=.int j/\Q (.int (f i j)) H
theorem sY:PIp X .Add (ipI λi j=>i+j):=by
 intro pins s σ H x y v u Q I r1 r2 h
 obtain ⟨i,j,e1,e2,q⟩:=h
 subst e1;subst e2
 obtain ⟨t,rfl⟩:=r1
 obtain ⟨t',rfl⟩:=r2
 exact iadd_int ⟨.int _,H,I.tok _,⟨_,rfl⟩,q⟩
def qs (c:TT) (tb:TS):TS:=λD σ H=>∃ W:Nat->St->Hp->Prop,(∃ m,W m σ H)/\∀ m σ H,W m σ H ->
 c σ H λb H1=>if b=true then ∃ N:St->Hp->Prop,(∀ σ' H',N σ' H'->∃ m',m' < m/\W m' σ' H')/\tb { D with nx:=N,ct:=N,bk:=D.nx } σ H1 else D.nx σ H1
theorem m8 {c:Expr} {body:List Stmt} {tc:TT} {tb:TS} (hp:PassesOwn (model X.prog X.w) X.A X.env X.xe) (hc:PT X c tc) (hb:PSs X body tb):PS X (.While c body [] pos) (qs tc tb):=by
 intro pins s σ H D I h
 obtain ⟨W,⟨m0,w0⟩,turn⟩:=h
 refine wpAny_While (codeAny_whileLoop (λn s'=>∃ σ' H',Inv X pins σ' H' s'/\W n σ' H') ?_ m0 ⟨σ,H,I,w0⟩)
 rintro n s1 ⟨σ1,H1,I1,w1⟩
 refine wpAny_passesOwn hp (thn (hc pins s1 σ1 H1 _ I1 (turn n σ1 H1 w1)) λb s2 ⟨H2,I2,q2⟩=>?_)
 cases b with
 | true =>
  obtain ⟨N,hN,q2⟩:=q2
  rw [if_pos rfl]
  refine wpAny_passesOwn hp (thn (hb pins s2 σ1 H2 _ I2 q2) λf s3 q3=>?_)
  cases f with
  | next =>
   obtain ⟨σ3,H3,I3,n3⟩:=q3
   obtain ⟨m',hm,w3⟩:=hN σ3 H3 n3
   exact ⟨m',hm,σ3,H3,I3,w3⟩
  | cont =>
   obtain ⟨σ3,H3,I3,n3⟩:=q3
   obtain ⟨m',hm,w3⟩:=hN σ3 H3 n3
   exact ⟨m',hm,σ3,H3,I3,w3⟩
  | brk=>exact q3
  | ret v=>exact q3
 | false =>
  rw [if_neg Bool.false_ne_true]
  exact wpAny_execs_nil ⟨σ1,H2,I2,q2⟩
end
structure It where
 go:Nat->Hp->Prop
 yld:Nat->Hp->V->Hp->Prop
 stop:Nat->Hp->Prop
def iK (X:Cx) (pins:List (Addr × Obj)) (H:Hp) (b:Addr):Prop :=
 H b=none/\b≠X.env.locals/\b ∉ X.fs/\(b ∈ X.ex\/X.s₀.heap.objs.size≤b)/\(∀ x c,X.env.cells.lookup x=some c->c≠b)/\∀ p ∈ X.pn++pins,p.1≠b
variable {σ:St}
theorem Inv.fpOk {pins:List (Addr × Obj)} {H':Hp} (I:Inv X pins σ H s) (hb:s.heap.objs.size≤b) (hn:H' b=none):iK X pins H' b:=by
 refine ⟨hn,Nat.ne_of_gt (Nat.lt_of_lt_of_le I.lt hb),I.nofs hb,.inr (Nat.le_trans I.sz hb),λx c e z=>?_,λp hp z=>?_⟩
 ·obtain ⟨v,q⟩:=I.cell x c e
  exact absurd (Nat.lt_of_lt_of_le q.lt (by rw [z];exact hb)) (Nat.lt_irrefl _)
 ·exact absurd (Nat.lt_of_lt_of_le (Heap.lt_size (I.pin p hp).1) (by rw [z];exact hb)) (Nat.lt_irrefl _)
structure kC (P:Program) (w:World) (K:PySem.W.Frag) (tg:Expr) (J:It) (fp:List Addr) (it:Addr) (tn:Nat->Heap->Prop):Prop where
 mem:it ∈ fp
 obj:∀ i h,tn i h->∀ b ∈ fp,∃ o,h.get? b=some o/\∀ v,o.data≠.cell v
 keep:∀ i h h',tn i h->(∀ b ∈ fp,∀ o,h.get? b=some o->h'.get? b=some o)->tn i h'
 item:∀ (X:Cx),X.prog=P->X.w=w->X.K=K->X.calm=true->∀ (i:Nat) (pins:List (Addr × Obj)) (s:Shared) (σ:St) (H:Hp) (E:Value->Shared->Prop),Inv X pins σ H s->(∀ b ∈ fp,iK X pins H b)->tn i s.heap->J.go i H ->
  wpAny (model P w) X.A (pyNext (.ref it)) (λr s1=>∃ u,r=some u /\
   wpAny (model P w) X.A (letOwnedTupleGo tg (.ref it) u) (λ_ s2=>∃ x H',Inv X pins σ H' s2/\RelV x u/\J.yld i H x H'/\tn (i+1) s2.heap/\∀ b ∈ fp,H' b=none) E s1) E s
 done:∀ (X:Cx),X.prog=P->X.w=w->X.K=K->X.calm=true->∀ (i:Nat) (pins:List (Addr × Obj)) (s:Shared) (σ:St) (H:Hp) (E:Value->Shared->Prop),Inv X pins σ H s->(∀ b ∈ fp,iK X pins H b)->tn i s.heap->J.stop i H ->
  wpAny (model P w) X.A (pyNext (.ref it)) (λr s1=>r=none/\Inv X pins σ H s1) E s
 self:∀ (A:Around) (i:Nat) (s:Shared) (Q:Value->Shared->Prop) (E:Value->Shared->Prop),tn i s.heap->Q (.ref it) s->wpAny (model P w) A (pyIter (.ref it)) Q E s
abbrev TI:=St->Hp->(It->Hp->Prop)->Prop
def PIE (X:Cx) (pins:List (Addr × Obj)) (σ:St) (tg:Expr) (R:It->Hp->Prop) (itv:Value) (s2:Shared):Prop :=
 ∃ (it:Addr) (fp:List Addr) (tn:Nat->Heap->Prop) (J:It) (H':Hp),itv=.ref it/\Inv X pins σ H' s2/\kC X.prog X.w X.K tg J fp it tn/\tn 0 s2.heap/\(∀ b ∈ fp,iK X pins H' b)/\R J H'
def PI (X:Cx) (tg iter:Expr) (wi:TI):Prop :=
 ∀ (pins:List (Addr × Obj)) (s:Shared) (σ:St) (H:Hp) (R:It->Hp->Prop),Inv X pins σ H s->wi σ H R ->
  wpAny (model X.prog X.w) X.A (eval iter X.env) (λv s1=>wpAny (model X.prog X.w) X.A (pyIter v) (PIE X pins σ tg R) X.xe s1) X.xe s
variable {tg:Expr}
theorem qQ {E:Value->Shared->Prop} {it:Addr} {n:String} {vs:Array Value} {Q:Unit->Shared->Prop} (ho:s.heap.get? it=some o) (hc:o.cls=.type n) (hd:o.data=.fields vs)
  (hn:["enumerate","zip","dict_itemiterator","dict_reverseitemiterator","odict_iterator","itertools.zip_longest","itertools.pairwise"].contains n=false) (hQ:Q () s):wpAny M A (letOwnedTupleGo tg (.ref it) u) Q E s:=by
 unfold letOwnedTupleGo
 cases tg <;> first
  | exact wpAny_pure hQ
  | (cases u <;> first
    | exact wpAny_pure hQ
    | (refine wpAny_bind (wpAny_load ho ?_)
       rw [hc,hd]
       show wpAny M A (if (["enumerate","zip","dict_itemiterator","dict_reverseitemiterator","odict_iterator","itertools.zip_longest","itertools.pairwise"].contains n && vs[0]? == some (rawInt _))=true then _ else _) Q E s
       rw [if_neg (by intro h;rw [hn,Bool.false_and] at h;cases h)]
       exact wpAny_pure hQ))
def Itl (K:PySem.W.Frag) (a:Addr):It :=
 ⟨λi H=>∃ xs x,SqL K H a xs/\xs[i]?=some x,λi H x H'=>H'=H/\∀ xs,SqL K H a xs->xs[i]?=some x,λi H=>∃ xs,SqL K H a xs/\xs.length≤i⟩
def Itt (K:PySem.W.Frag) (a:Addr):It :=
 ⟨λi H=>∃ xs x,SqT K H a xs/\xs[i]?=some x,λi H x H'=>H'=H/\∀ xs,SqT K H a xs->xs[i]?=some x,λi H=>∃ xs,SqT K H a xs/\xs.length≤i⟩
def Itr (lo:Int) (n:Nat):It:=⟨λi _=>i < n,λi H x H'=>H'=H/\x=.int (lo+i),λi _=>n≤i⟩
variable {K:PySem.W.Frag}
theorem xg (a it:Addr):kC P w K tg (Itl K a) [it] it (λi h=>h.IsListIter it a i) where
 mem:=by simp
 obj:=λi h st b hb=>by
  have e:b=it:=by simpa using hb
  subst e
  obtain ⟨o,e,c,d⟩:=st
  exact ⟨o,e,λv z=>by rw [d] at z;cases z⟩
 keep:=λi h h' st k=>st.at λo e=>k it (by simp) o e
 item:=by
  intro X hP hw hK hc i pins s σ H E I hf st hg
  subst hP hw hK
  obtain ⟨xs,x,hq,hx⟩:=hg
  obtain ⟨its,rv,p,hz⟩:=I.list hq
  obtain ⟨u,hu,ru⟩:=rv.get hx
  obtain ⟨f0,f1,f2,f3,f4,f5⟩:=hf it (by simp)
  refine wpAny_pyNext_list_item st p.isList (x:=u) (by simpa using hu) λh' st' sb=>?_
  have I1:Inv X pins σ H { s with heap:=h' }:=I.turned (t':=s.toks) (λb o hb e=>(sb.2 b hb).trans e) f0 f1 f3 f4 f5
  obtain ⟨o,e,c,d⟩:=id st'
  exact ⟨u,rfl,qQ (s:={ s with heap:=h' }) e c d (by decide) ⟨x,H,I1,ru,⟨rfl,λys hy=>by rw [I.list_inj hy hq];exact hx⟩,st',λb hb=>(hf b hb).1⟩⟩
 done:=by
  intro X hP hw hK hc i pins s σ H E I hf st hg
  subst hP hw hK
  obtain ⟨xs,hq,hx⟩:=hg
  obtain ⟨its,rv,p,hz⟩:=I.list hq
  obtain ⟨f0,f1,f2,f3,f4,f5⟩:=hf it (by simp)
  have hl:=rv.length
  exact wpAny_pyNext_list_end (I.ok.hd hc) st p.isList (by simp;omega) λh' eb=>⟨rfl,I.turned (t':=s.toks) (λb o hb e=>eb b o hb e) f0 f1 f3 f4 f5⟩
 self:=λ_ _ _ _ _ st h=>wpAny_pyIter_listiter st h
theorem uz (a it:Addr):kC P w K tg (Itt K a) [it] it (λi h=>h.IsTupleIter it a i) where
 mem:=by simp
 obj:=λi h st b hb=>by
  have e:b=it:=by simpa using hb
  subst e
  obtain ⟨o,e,c,d⟩:=st
  exact ⟨o,e,λv z=>by rw [d] at z;cases z⟩
 keep:=λi h h' st k=>st.at λo e=>k it (by simp) o e
 item:=by
  intro X hP hw hK hc i pins s σ H E I hf st hg
  subst hP hw hK
  obtain ⟨xs,x,hq,hx⟩:=hg
  obtain ⟨its,rv,p,hz⟩:=I.tuple hq
  obtain ⟨u,hu,ru⟩:=rv.get hx
  obtain ⟨f0,f1,f2,f3,f4,f5⟩:=hf it (by simp)
  refine wpAny_pyNext_tuple_item st (show s.heap.IsTuple a its.toArray from p) (x:=u) (by simpa using hu) λh' st' sb=>?_
  have I1:Inv X pins σ H { s with heap:=h' }:=I.turned (t':=s.toks) (λb o hb e=>(sb.2 b hb).trans e) f0 f1 f3 f4 f5
  obtain ⟨o,e,c,d⟩:=id st'
  exact ⟨u,rfl,qQ (s:={ s with heap:=h' }) e c d (by decide) ⟨x,H,I1,ru,⟨rfl,λys hy=>by rw [I.tuple_inj hy hq];exact hx⟩,st',λb hb=>(hf b hb).1⟩⟩
 done:=by
  intro X hP hw hK hc i pins s σ H E I hf st hg
  subst hP hw hK
  obtain ⟨xs,hq,hx⟩:=hg
  obtain ⟨its,rv,p,hz⟩:=I.tuple hq
  obtain ⟨f0,f1,f2,f3,f4,f5⟩:=hf it (by simp)
  have hl:=rv.length
  exact wpAny_pyNext_tuple_end (I.ok.hd hc) st (show s.heap.IsTuple a its.toArray from p) (by simp;omega) λh' eb=>⟨rfl,I.turned (t':=s.toks) (λb o hb e=>eb b o hb e) f0 f1 f3 f4 f5⟩
 self:=λ_ _ _ _ _ st h=>wpAny_pyIter_tupleiter st h
theorem uy (it:Addr) (lo:Int) (n:Nat):kC P w K tg (Itr lo n) [it] it (λi h=>IsRangeIter h it (lo+(i:Nat) * 1) ((n:Int) - (i:Nat)) 1) where
 mem:=by simp
 obj:=λi h st b hb=>by
  have e:b=it:=by simpa using hb
  subst e
  exact ⟨_,st,λv z=>by
   have z':Data.fields _=Data.cell v:=z
   cases z'⟩
 keep:=λi h h' st k=>k it (by simp) _ st
 item:=by
  intro X hP hw hK hc i pins s σ H E I hf st hg
  subst hP hw hK
  obtain ⟨f0,f1,f2,f3,f4,f5⟩:=hf it (by simp)
  have W:=Walks.range (prog:=X.prog) (w:=X.w) (I.ok.hd hc) it lo 1 n
  refine W.item i s _ _ hg st λv h' tk hv st' kk=>?_
  obtain ⟨t,rfl⟩:=hv
  have I1:Inv X pins σ H { s with heap:=h',toks:=tk }:=I.turned (λb o hb e=>kk b o (by simpa using hb) e) f0 f1 f3 f4 f5
  refine ⟨_,rfl,qQ (s:={ s with heap:=h',toks:=tk }) (n:="range_iterator") st' rfl rfl (by decide) ⟨.int (lo+i),H,I1,⟨t,?_⟩,⟨rfl,rfl⟩,st',λb hb=>(hf b hb).1⟩⟩
  rw [Int.mul_one]
 done:=by
  intro X hP hw hK hc i pins s σ H E I hf st hg
  subst hP hw hK
  obtain ⟨f0,f1,f2,f3,f4,f5⟩:=hf it (by simp)
  exact wpAny_pyNext_range_end (I.ok.hd hc) st (by have:n≤i:=hg;omega) λh' eb=>⟨rfl,I.turned (t':=s.toks) (λb o hb e=>eb b o hb e) f0 f1 f3 f4 f5⟩
 self:=λ_ _ _ _ _ st h=>wpAny_pyIter_rangeiter st h
section
variable {X:Cx} {tg:Expr}
def kX (K:PySem.W.Frag) (tl:TE):TI:=λσ H R=>tl σ H λx H1=>∃ a,x=.ref a/\(∃ xs,SqL K H1 a xs)/\R (Itl K a) H1
def wc (K:PySem.W.Frag) (tl:TE):TI:=λσ H R=>tl σ H λx H1=>∃ a,x=.ref a/\(∃ xs,SqT K H1 a xs)/\R (Itt K a) H1
variable {l:Expr} {tl:TE}
theorem b0 (hl:PE X l tl):PI X tg l (kX X.K tl):=by
 intro pins s σ H R I h
 refine thn (hl pins s σ H _ I h) λv s1 ⟨x,H1,I1,r1,q1⟩=>?_
 obtain ⟨a,e,⟨xs,hq⟩,q⟩:=q1
 subst e
 cases r1
 obtain ⟨its,rv,p,hz⟩:=I1.list hq
 refine wpAny_pyIter_list p.isList ?_
 refine ⟨s1.heap.objs.size,[s1.heap.objs.size],_,_,H1,rfl,I1.kept (t':=s1.toks) λb o e=>Heap.get?_push_of_some _ e,xg a _,⟨_,Heap.get?_push_size _ rfl,rfl,rfl⟩,λb hb=>?_,q⟩
 have e:b=s1.heap.objs.size:=by simpa using hb
 subst e
 exact I1.fpOk (Nat.le_refl _) (I1.hok.fresh (Nat.le_refl _))
theorem jU (hl:PE X l tl):PI X tg l (wc X.K tl):=by
 intro pins s σ H R I h
 refine thn (hl pins s σ H _ I h) λv s1 ⟨x,H1,I1,r1,q1⟩=>?_
 obtain ⟨a,e,⟨xs,hq⟩,q⟩:=q1
 subst e
 cases r1
 obtain ⟨its,rv,p,hz⟩:=I1.tuple hq
 refine wpAny_pyIter_tuple (show s1.heap.IsTuple a its.toArray from p) ?_
 refine ⟨s1.heap.objs.size,[s1.heap.objs.size],_,_,H1,rfl,I1.kept (t':=s1.toks) λb o e=>Heap.get?_push_of_some _ e,uz a _,⟨_,Heap.get?_push_size _ rfl,rfl,rfl⟩,λb hb=>?_,q⟩
 have e:b=s1.heap.objs.size:=by simpa using hb
 subst e
 exact I1.fpOk (Nat.le_refl _) (I1.hok.fresh (Nat.le_refl _))
variable {pins:List (Addr × Obj)} {σ:St} {H:Hp} {s:Shared}
theorem zl {R:It->Hp->Prop} {E:Value->Shared->Prop} {lo hi:Int} {t u v:Tok} {tk:Nat} (I:Inv X pins σ H s) (h1:-(2 ^ 62)≤lo) (h2:lo < 2 ^ 62) (h3:-(2 ^ 62)≤hi) (h4:hi < 2 ^ 62)
  (q:R (Itr lo (hi - lo).toNat) H):wpAny (model X.prog X.w) X.A (pyIter (.ref s.heap.objs.size)) (PIE X pins σ tg R) E { s with heap:=s.heap.push { cls:=.type "range",data:=.fields #[.int lo t,.int hi u,.int 1 v] },toks:=tk }:=by
 refine wpAny_pyIter_range (IsRange.new ..) (small_one h1 h2 h3 h4) ?_
 have I1:Inv X pins σ H { s with heap:=s.heap.push { cls:=.type "range",data:=.fields #[.int lo t,.int hi u,.int 1 v] },toks:=tk }:=I.kept λb o e=>Heap.get?_push_of_some _ e
 refine ⟨(s.heap.push { cls:=.type "range",data:=.fields #[.int lo t,.int hi u,.int 1 v] }).objs.size,[(s.heap.push { cls:=.type "range",data:=.fields #[.int lo t,.int hi u,.int 1 v] }).objs.size],_,_,H,rfl,
  I1.kept (t':=tk) λb o e=>Heap.get?_push_of_some _ e,uy _ lo (hi - lo).toNat,?_,λb hb=>?_,q⟩
 ·have e1:lo+((0:Nat):Int) * 1=lo:=by simp
  have e2:(((hi - lo).toNat:Nat):Int) - ((0:Nat):Int)=Builtin.Range.rangeSize lo hi 1:=by rw [rangeSize_one];split <;> omega
  show IsRangeIter _ _ (lo+((0:Nat):Int) * 1) ((((hi - lo).toNat:Nat):Int) - ((0:Nat):Int)) 1
  rw [e1,e2]
  exact Heap.get?_push_size _ rfl
 ·have e:b=(s.heap.push { cls:=.type "range",data:=.fields #[.int lo t,.int hi u,.int 1 v] }).objs.size:=by simpa using hb
  subst e
  exact I1.fpOk (Nat.le_refl _) (I1.hok.fresh (Nat.le_refl _))
def uW (ta:TA):TI:=λσ H R=>ta σ H λvs H1=>∃ j:Int,vs=[.int j]/\-(2 ^ 62)≤j/\j < 2 ^ 62/\R (Itr 0 j.toNat) H1
variable {pos:Pos}
theorem jq {a:Expr} {ta:TA} {p:Pos} (hg:Gl X "range") (hm:X.mg "range"=none) (ha:PA X [a] ta) (hs:starEach [a] X.env=[(false,eval a X.env)]:=by rfl):PI X tg (.Call (.Name "range" p) [a] [] pos) (uW ta):=by
 intro pins s σ H R I h
 refine Call_ (kK I hg hm boot_range (PyProof.Rows.callWith_type1 (thn (ha pos pins s σ H _ I h) λus s1 ⟨vs,H1,I1,r1,q1⟩=>?_) hs rfl))
 obtain ⟨j,e,q1,q2,q⟩:=q1
 subst e
 cases r1 with
 | cons r rr =>
  cases rr
  obtain ⟨t,rfl⟩:=r
  exact call_range_1 (zl I1 (by omega) (by omega) q1 q2 (by simpa using q))
def Ds (wi:TI) (g:TG) (tb:TS):TS:=λD σ H=>wi σ H λJ H1=>∃ W:Nat->Nat->St->Hp->Prop,(∃ m,W 0 m σ H1)/\∀ i m σ H,W i m σ H ->
 (J.stop i H/\D.nx σ H)\/(J.go i H/\∃ N:St->Hp->Prop,(∀ σ' H',N σ' H'->∃ m',m' < m/\W (i+1) m' σ' H')/\∀ x H',J.yld i H x H'->g x σ H' λσ2 H2=>tb { D with nx:=N,ct:=N,bk:=D.nx } σ2 H2)
def jV (fp:List Addr) (h:Heap):List (Addr × Obj):=fp.filterMap λb=>(h.get? b).map λo=>(b,o)
variable {fp:List Addr} {h:Heap}
theorem cS {b:Addr} {o:Obj} (hb:b ∈ fp) (e:h.get? b=some o):(b,o) ∈ jV fp h:=List.mem_filterMap.mpr ⟨b,hb,by rw [e];rfl⟩
theorem wt {p:Addr × Obj} (hp:p ∈ jV fp h):p.1 ∈ fp/\h.get? p.1=some p.2:=by
 obtain ⟨b,hb,e⟩:=List.mem_filterMap.mp hp
 cases q:h.get? b with
 | none=>rw [q] at e;cases e
 | some o =>
  rw [q] at e
  have e':(b,o)=p:=Option.some.inj e
  subst e'
  exact ⟨hb,q⟩
theorem Inv.pinned (I:Inv X pins σ H s) (hf:∀ b ∈ fp,iK X pins H b) (ho:∀ b ∈ fp,∃ o,s.heap.get? b=some o/\∀ v,o.data≠.cell v):Inv X (pins++jV fp s.heap) σ H s :=
 I.pins_of λp hp=>(List.mem_append.mp hp).elim (λz=>I.pin p (List.mem_append_right _ z)) λz=>by
  obtain ⟨hb,e⟩:=wt z
  obtain ⟨f0,f1,f2,_⟩:=hf p.1 hb
  obtain ⟨o,e',d⟩:=ho p.1 hb
  rw [e] at e';cases e'
  exact ⟨e,f0,f1,f2,d⟩
theorem Inv.unpinned {pl:List (Addr × Obj)} (I:Inv X (pins++pl) σ H s):Inv X pins σ H s:=I.pins_of λp hp=>I.pin p (List.mem_append_right _ (List.mem_append_left _ hp))
theorem dM {iter:Expr} {body:List Stmt} {wi:TI} {g:TG} {tb:TS} (hp:PassesOwn (model X.prog X.w) X.A X.env X.xe) (hc:X.calm=true) (hi:PI X tg iter wi) (hg:PG X tg g) (hb:PSs X body tb)
  (hs:∀ x,foldedSetIterable iter X.env x=pure x:=by intro _;rfl):PS X (.For tg iter body [] pos) (Ds wi g tb):=by
 intro pins s σ H D I h
 refine wpAny_For (thn (hi pins s σ H _ I h) λv s1 h1=>thn h1 λitv s2 h2=>?_) hs
 obtain ⟨it,fp,tn,J,H2,e,I2,T,st2,f2,W,⟨m0,w0⟩,turn⟩:=h2
 subst e
 have gP:∀ {H':Hp},(∀ b ∈ fp,H' b=none)->∀ b ∈ fp,iK X pins H' b:=λhn b hb=>⟨hn b hb,(f2 b hb).2⟩
 refine codeAny_forLoop_any (λn s'=>∃ i σ' H',Inv X pins σ' H' s'/\tn i s'.heap/\(∀ b ∈ fp,H' b=none)/\W i n σ' H') ?_ m0 ⟨0,σ,H2,I2,st2,λb hb=>(f2 b hb).1,w0⟩
 rintro n s3 ⟨i,σ3,H3,I3,st3,fr3,w3⟩
 rcases turn i n σ3 H3 w3 with ⟨stop,qn⟩ | ⟨go,N,hN,step⟩
 ·refine wpAny_passesOwn hp (thn (T.done X rfl rfl rfl hc i pins s3 σ3 H3 X.xe I3 (gP fr3) st3 stop) λr s4 ⟨hr,I4⟩=>?_)
  subst hr
  exact wpAny_execs_nil ⟨σ3,H3,I4,qn⟩
 ·refine wpAny_passesOwn hp (thn (T.item X rfl rfl rfl hc i pins s3 σ3 H3 X.xe I3 (gP fr3) st3 go) λr s4 ⟨u,hr,h4⟩=>?_)
  subst hr
  refine wpAny_passesOwn hp (thn h4 λ_ s5 ⟨x,H5,I5,r5,y5,st5,fr5⟩=>?_)
  have I5':=I5.pinned (gP fr5) (T.obj _ _ st5)
  refine wpAny_passesOwn hp (thn (hg _ s5 σ3 H5 x u _ I5' r5 (step x H5 y5)) λ_ s6 ⟨σ6,H6,I6,q6⟩=>?_)
  refine wpAny_passesOwn hp (thn (hb _ s6 σ6 H6 _ I6 q6) λf s7 q7=>?_)
  have again:∀ {σ7:St} {H7:Hp},Inv X (pins++jV fp s5.heap) σ7 H7 s7->N σ7 H7->∃ m,m < n/\∃ i σ' H',Inv X pins σ' H' s7/\tn i s7.heap/\(∀ b ∈ fp,H' b=none)/\W i m σ' H':=λ{σ7 H7} I7 n7=>by
   obtain ⟨m',hm,w7⟩:=hN σ7 H7 n7
   refine ⟨m',hm,i+1,σ7,H7,I7.unpinned,T.keep _ _ _ st5 λb hb o e=>(I7.pin (b,o) (List.mem_append_right _ (List.mem_append_right _ (cS hb e)))).1,λb hb=>?_,w7⟩
   obtain ⟨o,e,d⟩:=T.obj _ _ st5 b hb
   exact (I7.pin (b,o) (List.mem_append_right _ (List.mem_append_right _ (cS hb e)))).2.1
  cases f with
  | next=>obtain ⟨σ7,H7,I7,n7⟩:=q7;exact again I7 n7
  | cont=>obtain ⟨σ7,H7,I7,n7⟩:=q7;exact again I7 n7
  | brk=>obtain ⟨σ7,H7,I7,q7⟩:=q7;exact ⟨σ7,H7,I7.unpinned,q7⟩
  | ret v=>obtain ⟨x7,σ7,H7,I7,r7,q7⟩:=q7;exact ⟨x7,σ7,H7,I7.unpinned,r7,q7⟩
end
variable {g:TG} {tb:TS}
theorem kb {D:gM} (Pv:Nat->St->Hp->Prop) (h0:Pv 0 σ H) (hl:∀ i σ H,i≤xs.length->Pv i σ H->SqL K H a xs)
  (hs:∀ i x σ H,xs[i]?=some x->Pv i σ H->g x σ H λσ2 H2=>tb { D with nx:=Pv (i+1),ct:=Pv (i+1),bk:=D.nx } σ2 H2) (hd:∀ σ H,Pv xs.length σ H->D.nx σ H) :
  ∃ W:Nat->Nat->St->Hp->Prop,(∃ m,W 0 m σ H)/\∀ i m σ H,W i m σ H ->
   ((Itl K a).stop i H/\D.nx σ H)\/((Itl K a).go i H/\∃ N:St->Hp->Prop,(∀ σ' H',N σ' H'->∃ m',m' < m/\W (i+1) m' σ' H')/\∀ x H',(Itl K a).yld i H x H'->g x σ H' λσ2 H2=>tb { D with nx:=N,ct:=N,bk:=D.nx } σ2 H2):=by
 refine ⟨λi m σ H=>m=xs.length - i/\i≤xs.length/\Pv i σ H,⟨xs.length,by simp,Nat.zero_le _,h0⟩,?_⟩
 rintro i m σ H ⟨rfl,hi,p⟩
 have q:=hl i σ H hi p
 by_cases hlt:i < xs.length
 ·refine .inr ⟨⟨xs,xs[i],q,by simp [hlt]⟩,Pv (i+1),λσ' H' p'=>⟨xs.length - (i+1),by omega,rfl,hlt,p'⟩,λx H' y=>?_⟩
  obtain ⟨e,y⟩:=y
  subst e
  exact hs i x σ _ (y xs q) p
 ·have e:i=xs.length:=by omega
  subst e
  exact .inl ⟨⟨xs,q,Nat.le_refl _⟩,hd σ H p⟩
theorem pj {D:gM} (Pv:Nat->St->Hp->Prop) (h0:Pv 0 σ H) (hl:∀ i σ H,i≤xs.length->Pv i σ H->SqT K H a xs)
  (hs:∀ i x σ H,xs[i]?=some x->Pv i σ H->g x σ H λσ2 H2=>tb { D with nx:=Pv (i+1),ct:=Pv (i+1),bk:=D.nx } σ2 H2) (hd:∀ σ H,Pv xs.length σ H->D.nx σ H) :
  ∃ W:Nat->Nat->St->Hp->Prop,(∃ m,W 0 m σ H)/\∀ i m σ H,W i m σ H ->
   ((Itt K a).stop i H/\D.nx σ H)\/((Itt K a).go i H/\∃ N:St->Hp->Prop,(∀ σ' H',N σ' H'->∃ m',m' < m/\W (i+1) m' σ' H')/\∀ x H',(Itt K a).yld i H x H'->g x σ H' λσ2 H2=>tb { D with nx:=N,ct:=N,bk:=D.nx } σ2 H2):=by
 refine ⟨λi m σ H=>m=xs.length - i/\i≤xs.length/\Pv i σ H,⟨xs.length,by simp,Nat.zero_le _,h0⟩,?_⟩
 rintro i m σ H ⟨rfl,hi,p⟩
 have q:=hl i σ H hi p
 by_cases hlt:i < xs.length
 ·refine .inr ⟨⟨xs,xs[i],q,by simp [hlt]⟩,Pv (i+1),λσ' H' p'=>⟨xs.length - (i+1),by omega,rfl,hlt,p'⟩,λx H' y=>?_⟩
  obtain ⟨e,y⟩:=y
  subst e
  exact hs i x σ _ (y xs q) p
 ·have e:i=xs.length:=by omega
  subst e
  exact .inl ⟨⟨xs,q,Nat.le_refl _⟩,hd σ H p⟩
variable {n:Nat}
theorem vY {lo:Int} {D:gM} (Pv:Nat->St->Hp->Prop) (h0:Pv 0 σ H)
  (hs:∀ i σ H,i < n->Pv i σ H->g (.int (lo+i)) σ H λσ2 H2=>tb { D with nx:=Pv (i+1),ct:=Pv (i+1),bk:=D.nx } σ2 H2) (hd:∀ σ H,Pv n σ H->D.nx σ H) :
  ∃ W:Nat->Nat->St->Hp->Prop,(∃ m,W 0 m σ H)/\∀ i m σ H,W i m σ H ->
   ((Itr lo n).stop i H/\D.nx σ H)\/((Itr lo n).go i H/\∃ N:St->Hp->Prop,(∀ σ' H',N σ' H'->∃ m',m' < m/\W (i+1) m' σ' H')/\∀ x H',(Itr lo n).yld i H x H'->g x σ H' λσ2 H2=>tb { D with nx:=N,ct:=N,bk:=D.nx } σ2 H2):=by
 refine ⟨λi m σ H=>m=n - i/\i≤n/\Pv i σ H,⟨n,by simp,Nat.zero_le _,h0⟩,?_⟩
 rintro i m σ H ⟨rfl,hi,p⟩
 by_cases hlt:i < n
 ·refine .inr ⟨hlt,Pv (i+1),λσ' H' p'=>⟨n - (i+1),by omega,rfl,hlt,p'⟩,λx H' y=>?_⟩
  obtain ⟨e,y⟩:=y
  subst e y
  exact hs i σ _ hlt p
 ·have e:i=n:=by omega
  subst e
  exact .inl ⟨Nat.le_refl _,hd σ H p⟩
theorem zV {c:TT} {D:gM} (Pv:St->Hp->Prop) (μ:St->Hp->Nat) (h0:Pv σ H)
  (hs:∀ σ H,Pv σ H->c σ H λb H1=>if b=true then tb { D with nx:=λσ' H'=>Pv σ' H'/\μ σ' H' < μ σ H,ct:=λσ' H'=>Pv σ' H'/\μ σ' H' < μ σ H,bk:=D.nx } σ H1 else D.nx σ H1)
  (mono:∀ σ H Q Q',(∀ b H1,Q b H1->Q' b H1)->c σ H Q->c σ H Q'):qs c tb D σ H:=by
 refine ⟨λm σ H=>m=μ σ H/\Pv σ H,⟨_,rfl,h0⟩,?_⟩
 rintro m σ H ⟨rfl,p⟩
 refine mono σ H _ _ (λb H1 q=>?_) (hs σ H p)
 cases b with
 | true=>exact ⟨_,λσ' H' ⟨p',l⟩=>⟨_,l,rfl,p'⟩,q⟩
 | false=>exact q
abbrev R2:=V->V->Hp->VK->Prop
def OpR (X:Cx) (f:Value->Value->Sem Value) (r:R2):Prop :=
 ∀ (pins:List (Addr × Obj)) (s:Shared) (σ:St) (H:Hp) (x y:V) (v u:Value) (Q:VK),Inv X pins σ H s->RelV x v->RelV y u->r x y H Q ->
  wpAny (model X.prog X.w) X.A (f v u) (EP X pins σ Q) X.xe s
def UnR (X:Cx) (f:Value->Sem Value) (r:V->Hp->VK->Prop):Prop :=
 ∀ (pins:List (Addr × Obj)) (s:Shared) (σ:St) (H:Hp) (x:V) (v:Value) (Q:VK),Inv X pins σ H s->RelV x v->r x H Q ->
  wpAny (model X.prog X.w) X.A (f v) (EP X pins σ Q) X.xe s
def iO (X:Cx) (f:Value) (r:List V->Hp->VK->Prop):Prop :=
 ∀ (pins:List (Addr × Obj)) (s:Shared) (σ:St) (H:Hp) (xs:List V) (us:List Value) (Q:VK),Inv X pins σ H s->Vals xs us->r xs H Q ->
  wpAny (model X.prog X.w) X.A (call f us) (EP X pins σ Q) X.xe s
def DF (X:Cx) (r:V->Hp->(Bool->Hp->Prop)->Prop):Prop :=
 ∀ (pins:List (Addr × Obj)) (s:Shared) (σ:St) (H:Hp) (x:V) (v:Value) (Q:Bool->Hp->Prop),Inv X pins σ H s->RelV x v->r x H Q ->
  wpAny (model X.prog X.w) X.A (truthy v) (TP X pins σ Q) X.xe s
def tOp (r:R2) (ta tb:TE):TE:=λσ H Q=>ta σ H λx H1=>tb σ H1 λy H2=>r x y H2 Q
def tUn (r:V->Hp->VK->Prop) (ta:TE):TE:=λσ H Q=>ta σ H λx H1=>r x H1 Q
def rI (C:Int->Int->Prop) (g:Int->Int->V):R2:=λx y H Q=>∃ i j,x=.int i/\y=.int j/\C i j/\Q (g i j) H
def rI0 (g:Int->Int->V):R2:=λx y H Q=>∃ i j,x=.int i/\y=.int j/\Q (g i j) H
def rU (g:Int->V):V->Hp->VK->Prop:=λx H Q=>∃ i,x=.int i/\Q (g i) H
section
variable {X:Cx} {a b c:Expr} {ta tb tc:TE} {pos:Pos}
variable {f:Value->Value->Sem Value}
theorem BV (ha:PE X a ta) (hb:PE X b tb) {pins:List (Addr × Obj)} {s:Shared} {σ:St} {H:Hp} {R:V->V->Hp->Prop} (I:Inv X pins σ H s)
  (h:ta σ H λx H1=>tb σ H1 λy H2=>R x y H2) {Q:Value->Shared->Prop}
  (hf:∀ v u s2 x y H2,Inv X pins σ H2 s2->RelV x v->RelV y u->R x y H2->wpAny (model X.prog X.w) X.A (f v u) Q X.xe s2) :
  wpAny (model X.prog X.w) X.A (eval a X.env) (λv s₁=>wpAny (model X.prog X.w) X.A (eval b X.env) (λu s₂=>wpAny (model X.prog X.w) X.A (f v u) Q X.xe s₂) X.xe s₁) X.xe s:=by
 refine thn (ha pins s σ H _ I h) λv s1 ⟨x,H1,I1,r1,q1⟩=>?_
 refine thn (hb pins s1 σ H1 _ I1 q1) λu s2 ⟨y,H2,I2,r2,q2⟩=>?_
 exact hf v u s2 x y H2 I2 r1 r2 q2
theorem aU {op:Operator} {r:R2} (ho:OpR X (binaryOp op) r) (ha:PE X a ta) (hb:PE X b tb):PE X (.BinOp a op b pos) (tOp r ta tb):=by
 intro pins s σ H Q I h
 exact wpAny_BinOp (BV ha hb I h λv u s2 x y H2 I2 rx ry q=>ho pins s2 σ H2 x y v u Q I2 rx ry q)
theorem Da {op:UnaryOp} {r:V->Hp->VK->Prop} (ho:UnR X (unaryOp op) r) (ha:PE X a ta):PE X (.UnaryOp op a pos) (tUn r ta):=by
 intro pins s σ H Q I h
 exact UnaryOp_ (thn (ha pins s σ H _ I h) λv s1 ⟨x,H1,I1,r1,q1⟩=>ho pins s1 σ H1 x v Q I1 r1 q1)
variable {g:Int->Int->Int}
theorem opI {C:Int->Int->Prop}
  (rule:∀ (i j:Int) (t u:Tok) (s:Shared) (Q:Value->Shared->Prop) (E:Value->Shared->Prop),C i j->Q (.int (g i j) s.toks) { s with toks:=s.toks+1 }->wpAny (model X.prog X.w) X.A (f (.int i t) (.int j u)) Q E s) :
  OpR X f (rI C λi j=>.int (g i j)):=by
 intro pins s σ H x y v u Q I rx ry h
 obtain ⟨i,j,rfl,rfl,hc,q⟩:=h
 obtain ⟨t,rfl⟩:=rx
 obtain ⟨t',rfl⟩:=ry
 exact rule i j t t' s _ _ hc ⟨.int (g i j),H,I.tok _,⟨_,rfl⟩,q⟩
theorem C8
  (rule:∀ (i j:Int) (t u:Tok) (s:Shared) (Q:Value->Shared->Prop) (E:Value->Shared->Prop),Q (.int (g i j) s.toks) { s with toks:=s.toks+1 }->wpAny (model X.prog X.w) X.A (f (.int i t) (.int j u)) Q E s) :
  OpR X f (rI0 λi j=>.int (g i j)):=by
 intro pins s σ H x y v u Q I rx ry h
 obtain ⟨i,j,rfl,rfl,q⟩:=h
 obtain ⟨t,rfl⟩:=rx
 obtain ⟨t',rfl⟩:=ry
 exact rule i j t t' s _ _ ⟨.int (g i j),H,I.tok _,⟨_,rfl⟩,q⟩
theorem AE {g:Int->Int->Bool}
  (rule:∀ (i j:Int) (t u:Tok) (s:Shared) (Q:Value->Shared->Prop) (E:Value->Shared->Prop),Q (.bool (g i j)) s->wpAny (model X.prog X.w) X.A (f (.int i t) (.int j u)) Q E s) :
  OpR X f (rI0 λi j=>.bl (g i j)):=by
 intro pins s σ H x y v u Q I rx ry h
 obtain ⟨i,j,rfl,rfl,q⟩:=h
 obtain ⟨t,rfl⟩:=rx
 obtain ⟨t',rfl⟩:=ry
 exact rule i j t t' s _ _ ⟨.bl (g i j),H,I,rfl,q⟩
def BH (i j:Int):Prop:=0 < j/\j < 1073741824
def DB (i j:Int):Prop:=0≤j/\j≤1000000/\i.natAbs < 2 ^ 64
def CMul (i j:Int):Prop:=(-(2 ^ 64) < i/\i < 2 ^ 64)\/(-(2 ^ 64) < j/\j < 2 ^ 64)
theorem CMul.ok {i j:Int} (h:CMul i j):IntMulOk i j:=by
 rcases h with ⟨h1,h2⟩ | ⟨h1,h2⟩
 ·exact .of_left (intBits_le_64 h1 h2)
 ·exact .of_right (intBits_le_64 h1 h2)
theorem ck:OpR X (binaryOp .Add) (rI0 λi j=>.int (i+j)):=C8 λ_ _ _ _ _ _ _ q=>add_int q
theorem tP:OpR X (binaryOp .Sub) (rI0 λi j=>.int (i - j)):=C8 λ_ _ _ _ _ _ _ q=>sub_int q
theorem kN:OpR X (binaryOp .Mult) (rI CMul λi j=>.int (i * j)):=opI λ_ _ _ _ _ _ _ hc q=>mul_int q hc.ok
theorem lS:OpR X (binaryOp .FloorDiv) (rI BH λi j=>.int (i / j)):=opI λi j _ _ _ _ _ hc q=>by
 have h1:(0:Int) < j:=hc.1
 have h2:j < 1073741824:=hc.2
 exact floordiv_int (by omega) (by rw [Int.fdiv_eq_ediv_of_nonneg i (by omega)];exact q) (.inl (PyProof.noPylong_small (by omega)))
theorem cH:OpR X (binaryOp .Mod) (rI (λ_ j=>0 < j) λi j=>.int (i % j)):=opI λi j _ _ _ _ _ hc q=>by
 have h1:(0:Int) < j:=hc
 exact mod_int' (by omega) (by rw [Int.fmod_eq_emod_of_nonneg i (by omega)];exact q)
theorem pX:OpR X (binaryOp .Pow) (rI DB λi j=>.int (i ^ j.toNat)):=opI λ_ _ _ _ _ _ _ hc q=>pow_int_small hc.1 hc.2.1 hc.2.2 q
theorem unI {f:Value->Sem Value} {g:Int->Int}
  (rule:∀ (i:Int) (t:Tok) (s:Shared) (Q:Value->Shared->Prop) (E:Value->Shared->Prop),Q (.int (g i) s.toks) { s with toks:=s.toks+1 }->wpAny (model X.prog X.w) X.A (f (.int i t)) Q E s) :
  UnR X f (rU λi=>.int (g i)):=by
 intro pins s σ H x v Q I rx h
 obtain ⟨i,rfl,q⟩:=h
 obtain ⟨t,rfl⟩:=rx
 exact rule i t s _ _ ⟨.int (g i),H,I.tok _,⟨_,rfl⟩,q⟩
theorem CT:UnR X (unaryOp .USub) (rU λi=>.int (-i)):=unI λ_ _ _ _ _ q=>neg_int q
end
def Do:V->V->Bool
 | .non,.non=>true | .non,.int _=>true | .int _,.non=>true | .non,.bl _=>true | .bl _,.non=>true | .non,.str _=>true | .str _,.non=>true
 | .int _,.int _=>true | .bl _,.bl _=>true | .str _,.str _=>true | .byt _,.byt _=>true
 | .int _,.str _=>true | .str _,.int _=>true | .bl _,.str _=>true | .str _,.bl _=>true
 | _,_=>false
def rEq:R2:=λx y H Q=>Do x y=true/\Q (.bl (decide (x=y))) H
def rNe:R2:=λx y H Q=>Do x y=true/\Q (.bl (!decide (x=y))) H
theorem uO {i j:Int}:decide (V.int i=V.int j)=(i == j):=by
 rw [Bool.eq_iff_iff]
 simp
theorem xR {i j:Bool}:decide (V.bl i=V.bl j)=(i == j):=by
 rw [Bool.eq_iff_iff]
 simp
theorem uP {i j:Str}:decide (V.str i=V.str j)=(i == j):=by
 rw [Bool.eq_iff_iff]
 simp
theorem uN {i j:Array UInt8}:decide (V.byt i=V.byt j)=(i.toList == j.toList):=by
 rw [Bool.eq_iff_iff]
 cases i
 cases j
 simp
section
variable {X:Cx} {a b c:Expr} {ta tb tc:TE} {pos:Pos}
theorem bN {pins:List (Addr × Obj)} {σ:St} {H:Hp} {s:Shared} {Q:VK} {k k':Bool} (I:Inv X pins σ H s) (q:Q (.bl k) H) (e:k=k'):EP X pins σ Q (.bool k') s:=by
 subst e
 exact ⟨.bl k,H,I,rfl,q⟩
theorem bK:OpR X (compareOp .Eq) rEq:=by
 intro pins s σ H x y v u Q I rx ry h
 obtain ⟨hs,q⟩:=h
 cases x with
 | non =>
  cases rx
  cases y with
  | non=>cases ry;exact PySem.EqNone.eq_none_none (bN I q (by simp))
  | bl j=>cases ry;exact PySem.EqNone.eq_none_bool (bN I q (by simp))
  | int j=>obtain ⟨t',rfl⟩:=ry;exact PySem.EqNone.eq_none_int (bN I q (by simp))
  | str j=>obtain ⟨t',rfl⟩:=ry;exact PySem.EqNone.eq_none_str (bN I q (by simp))
  | _=>exact absurd (show false=true from hs) Bool.false_ne_true
 | bl i =>
  cases rx
  cases y with
  | non=>cases ry;exact PySem.EqNone.eq_bool_none (bN I q (by simp))
  | bl j=>cases ry;exact eq_bool (bN I q xR)
  | str j=>obtain ⟨t',rfl⟩:=ry;exact PySem.EqMixed.eq_bool_str (bN I q (by simp))
  | _=>exact absurd (show false=true from hs) Bool.false_ne_true
 | int i =>
  obtain ⟨t,rfl⟩:=rx
  cases y with
  | non=>cases ry;exact PySem.EqNone.eq_int_none (bN I q (by simp))
  | int j=>obtain ⟨t',rfl⟩:=ry;exact eq_int (bN I q uO)
  | str j=>obtain ⟨t',rfl⟩:=ry;exact PySem.EqMixed.eq_int_str (bN I q (by simp))
  | _=>exact absurd (show false=true from hs) Bool.false_ne_true
 | str i =>
  obtain ⟨t,rfl⟩:=rx
  cases y with
  | non=>cases ry;exact PySem.EqNone.eq_str_none (bN I q (by simp))
  | bl j=>cases ry;exact PySem.EqMixed.eq_str_bool (bN I q (by simp))
  | int j=>obtain ⟨t',rfl⟩:=ry;exact PySem.EqMixed.eq_str_int (bN I q (by simp))
  | str j=>obtain ⟨t',rfl⟩:=ry;exact eq_str (bN I q uP)
  | _=>exact absurd (show false=true from hs) Bool.false_ne_true
 | byt i =>
  obtain ⟨t,rfl⟩:=rx
  cases y with
  | byt j=>obtain ⟨t',rfl⟩:=ry;exact PySem.W.eq_bytes (bN I q uN)
  | _=>exact absurd (show false=true from hs) Bool.false_ne_true
 | _=>cases y <;> exact absurd (show false=true from hs) Bool.false_ne_true
theorem rB:OpR X (compareOp .NotEq) rNe:=by
 intro pins s σ H x y v u Q I rx ry h
 obtain ⟨hs,q⟩:=h
 cases x with
 | non =>
  cases rx
  cases y with
  | non=>cases ry;exact PySem.EqNone.ne_none_none (bN I q (by simp))
  | bl j=>cases ry;exact PySem.EqNone.ne_none_bool (bN I q (by simp))
  | int j=>obtain ⟨t',rfl⟩:=ry;exact PySem.EqNone.ne_none_int (bN I q (by simp))
  | str j=>obtain ⟨t',rfl⟩:=ry;exact PySem.EqNone.ne_none_str (bN I q (by simp))
  | _=>exact absurd (show false=true from hs) Bool.false_ne_true
 | bl i =>
  cases rx
  cases y with
  | non=>cases ry;exact PySem.EqNone.ne_bool_none (bN I q (by simp))
  | bl j=>cases ry;exact ne_bool (bN I q (congrArg not xR))
  | str j=>obtain ⟨t',rfl⟩:=ry;exact PySem.EqMixed.ne_bool_str (bN I q (by simp))
  | _=>exact absurd (show false=true from hs) Bool.false_ne_true
 | int i =>
  obtain ⟨t,rfl⟩:=rx
  cases y with
  | non=>cases ry;exact PySem.EqNone.ne_int_none (bN I q (by simp))
  | int j=>obtain ⟨t',rfl⟩:=ry;exact ne_int (bN I q (congrArg not uO))
  | str j=>obtain ⟨t',rfl⟩:=ry;exact PySem.EqMixed.ne_int_str (bN I q (by simp))
  | _=>exact absurd (show false=true from hs) Bool.false_ne_true
 | str i =>
  obtain ⟨t,rfl⟩:=rx
  cases y with
  | non=>cases ry;exact PySem.EqNone.ne_str_none (bN I q (by simp))
  | bl j=>cases ry;exact PySem.EqMixed.ne_str_bool (bN I q (by simp))
  | int j=>obtain ⟨t',rfl⟩:=ry;exact PySem.EqMixed.ne_str_int (bN I q (by simp))
  | str j=>obtain ⟨t',rfl⟩:=ry;exact ne_str (bN I q (congrArg not uP))
  | _=>exact absurd (show false=true from hs) Bool.false_ne_true
 | byt i =>
  obtain ⟨t,rfl⟩:=rx
  cases y with
  | byt j=>obtain ⟨t',rfl⟩:=ry;exact PySem.W.ne_bytes (bN I q (congrArg not uN))
  | _=>exact absurd (show false=true from hs) Bool.false_ne_true
 | _=>cases y <;> exact absurd (show false=true from hs) Bool.false_ne_true
theorem jE:OpR X (compareOp .Lt) (rI0 λi j=>.bl (decide (i < j))):=AE λ_ _ _ _ _ _ _ q=>lt_int q
theorem lB:OpR X (compareOp .LtE) (rI0 λi j=>.bl (decide (i≤j))):=AE λ_ _ _ _ _ _ _ q=>le_int q
theorem m3:OpR X (compareOp .Gt) (rI0 λi j=>.bl (decide (j < i))):=AE λ_ _ _ _ _ _ _ q=>gt_int q
theorem rq:OpR X (compareOp .GtE) (rI0 λi j=>.bl (decide (j≤i))):=AE λ_ _ _ _ _ _ _ q=>ge_int q
theorem AI:OpR X (compareOp .IsNot) (λx y H Q=>y=.non/\Q (.bl (!decide (x=.non))) H):=by
 intro pins s σ H x y v u Q I rx ry h
 obtain ⟨rfl,q⟩:=h
 cases ry
 refine isnot_none_gen (bN I q ?_)
 cases x <;> first
  | (cases rx;rfl)
  | (obtain ⟨t,rfl⟩:=rx;rfl)
variable {r r':R2}
theorem OpR.or {f:Value->Value->Sem Value} (h:OpR X f r) (h':OpR X f r'):OpR X f (λx y H Q=>r x y H Q\/r' x y H Q):=by
 intro pins s σ H x y v u Q I rx ry q
 rcases q with q | q
 ·exact h pins s σ H x y v u Q I rx ry q
 ·exact h' pins s σ H x y v u Q I rx ry q
variable {op:CmpOp}
theorem aJ (b:Expr) (h:op≠.In:=by decide) (h2:op≠.NotIn:=by decide):behindInMarks op b=false:=by
 have e1:(op == CmpOp.In)=false:=by cases op <;> first | rfl | exact absurd rfl h
 have e2:(op == CmpOp.NotIn)=false:=by cases op <;> first | rfl | exact absurd rfl h2
 cases b <;> simp [behindInMarks,e1,e2]
theorem iq (ho:OpR X (compareOp op) r) (ha:PE X a ta) (hb:PE X b tb) (hm:behindInMarks op b=false):PE X (.Compare a [op] [b] pos) (tOp r ta tb):=by
 intro pins s σ H Q I h
 exact wpAny_Compare1 (BV ha hb I h λv u s2 x y H2 I2 rx ry q=>ho pins s2 σ H2 x y v u Q I2 rx ry q) hm
def sg (t:TE):TT:=λσ H Q=>t σ H λx H'=>∃ k,x=.bl k/\Q k H'
theorem az (ho:OpR X (compareOp op) r) (ha:PE X a ta) (hb:PE X b tb) (hm:behindInMarks op b=false):PT X (.Compare a [op] [b] pos) (sg (tOp r ta tb)):=by
 intro pins s σ H Q I h
 refine wpAny_isTrue_Compare1 (thn (ha pins s σ H _ I h) λv s1 ⟨x,H1,I1,r1,q1⟩=>thn (hb pins s1 σ H1 _ I1 q1) λu s2 ⟨y,H2,I2,r2,q2⟩ =>
  thn (ho pins s2 σ H2 x y v u _ I2 r1 r2 q2) λc s3 ⟨z,H3,I3,r3,k,e,q3⟩=>?_) hm
 subst e
 cases r3
 exact wpAny_truthy_bool ⟨H3,I3,q3⟩
def qr (r r':R2) (ta tb tc:TE):TE:=λσ H Q=>ta σ H λx H1=>tb σ H1 λy H2=>r x y H2 λz H3=>∃ k,z=.bl k /\
 (if k=true then tc σ H3 λw' H4=>r' y w' H4 Q else Q (.bl false) H3)
variable {op':CmpOp}
theorem rF (ho:OpR X (compareOp op) r) (ho':OpR X (compareOp op') r') (ha:PE X a ta) (hb:PE X b tb) (hc:PE X c tc)
  (hm:lastMarks [op,op'] [b,c]=false:=by with_unfolding_all rfl):PE X (.Compare a [op,op'] [b,c] pos) (qr r r' ta tb tc):=by
 intro pins s σ H Q I h
 refine Compare_chain (thn (ha pins s σ H _ I h) λv s1 ⟨x,H1,I1,r1,q1⟩=>chain_link (thn (hb pins s1 σ H1 _ I1 q1) λu s2 ⟨y,H2,I2,r2,q2⟩ =>
  thn (ho pins s2 σ H2 x y v u _ I2 r1 r2 q2) λd s3 ⟨z,H3,I3,r3,k,e,q3⟩=>?_)) hm
 subst e
 cases r3
 refine wpAny_truthy_bool ?_
 cases k with
 | false=>exact ite_ff ⟨.bl false,H3,I3,rfl,q3⟩
 | true=>exact ite_tt (chain_last (thn (hc pins s3 σ H3 _ I3 q3) λw' s4 ⟨z',H4,I4,r4,q4⟩=>ho' pins s4 σ H4 y z' u w' Q I4 r2 r4 q4))
theorem rN (ho:OpR X (compareOp op) r) (ho':OpR X (compareOp op') r') (ha:PE X a ta) (hb:PE X b tb) (hc:PE X c tc)
  (hm:lastMarks [op,op'] [b,c]=false:=by with_unfolding_all rfl):PT X (.Compare a [op,op'] [b,c] pos) (sg (qr r r' ta tb tc)):=by
 intro pins s σ H Q I h
 refine isTrue_chain (thn (ha pins s σ H _ I h) λv s1 ⟨x,H1,I1,r1,q1⟩=>test_link (thn (hb pins s1 σ H1 _ I1 q1) λu s2 ⟨y,H2,I2,r2,q2⟩ =>
  thn (ho pins s2 σ H2 x y v u _ I2 r1 r2 q2) λd s3 ⟨z,H3,I3,r3,k,e,q3⟩=>?_)) hm
 subst e
 cases r3
 refine wpAny_truthy_bool ?_
 cases k with
 | false =>
  obtain ⟨k',e',q'⟩:=q3
  cases e'
  exact ite_ff ⟨H3,I3,q'⟩
 | true =>
  refine ite_tt (test_last (thn (hc pins s3 σ H3 _ I3 q3) λw' s4 ⟨z',H4,I4,r4,q4⟩=>thn (ho' pins s4 σ H4 y z' u w' _ I4 r2 r4 q4) λd' s5 ⟨z2,H5,I5,r5,k2,e2,q5⟩=>?_))
  subst e2
  cases r5
  exact wpAny_truthy_bool ⟨H5,I5,q5⟩
def sC (K:PySem.W.Frag) (x:V) (H:Hp) (k:Bool):Prop :=
 match x with
 | .non=>k=false
 | .bl b=>k=b
 | .int i=>k=(i != 0)
 | .str y=>y.length≤sizeLine/\k=((y.length:Int) != 0)
 | .byt y=>y.size≤sizeLine/\k=((y.size:Int) != 0)
 | .ref p=>(∃ xs,SqL K H p xs/\k=!xs.isEmpty)\/(∃ xs,SqT K H p xs/\k=!xs.isEmpty)\/∃ kvs,H p=some (.dK kvs)/\k=!kvs.isEmpty
 | _=>False
theorem sZ {κ:Type} {kvs:List (κ × V)} {vs:List (κ × Value)} (r:KV kvs vs):(!vs.isEmpty)=!kvs.isEmpty:=by
 cases r <;> rfl
theorem mE {xs:List V} {its:List Value} (r:Vals xs its):(!its.toArray.isEmpty)=!xs.isEmpty:=by
 cases r <;> simp
theorem jS:(sizeLine:Nat) < 2 ^ 63:=by rw [sizeLine_eq];decide
theorem CS:DF X (λx H Q=>∃ k,sC X.K x H k/\Q k H):=by
 intro pins s σ H x v Q I rx h
 obtain ⟨k,e,q⟩:=h
 have hl:=jS
 have hs:sizeLine=16777216:=sizeLine_eq
 cases x with
 | non =>
  cases rx
  have e':k=false:=e
  subst e'
  exact truthy_none ⟨H,I,q⟩
 | bl b =>
  cases rx
  have e':k=b:=e
  subst e'
  exact wpAny_truthy_bool ⟨H,I,q⟩
 | int i =>
  obtain ⟨t,rfl⟩:=rx
  have e':k=(i != 0):=e
  subst e'
  exact PySem.P.truthy_int ⟨H,I,q⟩
 | str y =>
  obtain ⟨t,rfl⟩:=rx
  obtain ⟨hy,e'⟩:y.length≤sizeLine/\k=((y.length:Int) != 0):=e
  subst e'
  exact PySem.P.truthy_str (by omega) ⟨H,I.tok _,q⟩
 | byt y =>
  obtain ⟨t,rfl⟩:=rx
  obtain ⟨hy,e'⟩:y.size≤sizeLine/\k=((y.size:Int) != 0):=e
  subst e'
  exact PySem.W.truthy_bytes (by omega) ⟨H,I.tok _,q⟩
 | ref p =>
  cases rx
  have e':(∃ xs,SqL X.K H p xs/\k=!xs.isEmpty)\/(∃ xs,SqT X.K H p xs/\k=!xs.isEmpty)\/∃ kvs,H p=some (.dK kvs)/\k=!kvs.isEmpty:=e
  rcases e' with ⟨xs,hx,e'⟩ | ⟨xs,hx,e'⟩ | ⟨kvs,hx,e'⟩
  ·subst e'
   obtain ⟨its,r,pl,hz⟩:=I.list hx
   have hlen:=r.length
   exact wpAny_truthy_list pl.isList (by simp only [List.size_toArray];omega) ⟨H,I.tok _,by rw [mE r];exact q⟩
  ·subst e'
   obtain ⟨its,r,pl,hz⟩:=I.tuple hx
   have hlen:=r.length
   exact truthy_tuple pl (by simp only [List.size_toArray];omega) ⟨H,I.tok _,by rw [mE r];exact q⟩
  ·subst e'
   obtain ⟨hz,hS,vs,r,m⟩:kvs.length≤sizeLine/\(p == sysModules)=false/\∃ vs,KV kvs vs/\s.heap.DictOf (pI X.prog X.w) p vs:=I.hok p _ hx
   have hlen:kvs.length=vs.length:=Paired.length r
   exact wpAny_truthy_dict hS m (by omega) ⟨H,I.tok _,by rw [sZ r];exact q⟩
 | _=>exact (show False from e).elim
theorem bz (ha:PE X a ta) (he:∀ whole,isTrue a X.env whole=(do let v ← whole;standAt a.pos;holding [v] (truthy v))) :
  PT X a (λσ H Q=>ta σ H λx H'=>∃ k,sC X.K x H' k/\Q k H'):=by
 intro pins s σ H Q I h
 exact isTrue_plain (thn (ha pins s σ H _ I h) λv s1 ⟨x,H1,I1,r1,q1⟩=>CS pins s1 σ H1 x v Q I1 r1 q1) (he _)
variable {x:V} {us:List Value}
theorem jl (r:Vals [x] us):∃ u,us=[u]/\RelV x u:=by
 cases r with
 | cons r1 r2=>cases r2;exact ⟨_,rfl,r1⟩
theorem Dz {y:V} (r:Vals [x,y] us):∃ u w',us=[u,w']/\RelV x u/\RelV y w':=by
 cases r with
 | cons r1 r2 =>
  cases r2 with
  | cons r3 r4=>cases r4;exact ⟨_,_,rfl,r1,r3⟩
end
structure ObjM (h:Heap) (x dx C:Addr) (mA:Str->Option Value):Prop where
 obj:h.get? x=some (PySem.W.instObj C dx)
 ns:h.Ns1 dx mA
 ne:dx≠x
variable {dx:Addr} {mA:Str->Option Value}
theorem wj (n:h.Ns1 dx mA):∃ od,h.get? dx=some od/\∀ name,PySem.W.lookIn name od=some (mA name):=by
 obtain ⟨o,es,ep,ho,hd,hk,_,hm⟩:=n
 refine ⟨o,ho,λname=>?_⟩
 have e:=hm name
 unfold nsFind findBy at e
 rw [← Array.find?_toList] at e
 unfold PySem.W.lookIn
 rw [hd]
 dsimp only
 split
 ·rename_i y q
  rw [q] at e
  exact congrArg some e
 ·rename_i q
  rw [q] at e
  have a:es.toList.any (·.refKey)=false:=by
   rw [List.any_eq_false]
   intro y hy
   obtain ⟨z,t,hkey⟩:=hk y (Array.mem_toList_iff.mp hy)
   simp [DictEntry.refKey,hkey]
  have a':¬ es.toList.any (·.refKey)=true:=by rw [a];exact Bool.false_ne_true
  rw [if_neg a']
  exact congrArg some e
variable {C:Addr}
theorem ObjM.look {x:Addr} (I:ObjM h x dx C mA):∃ od,PySem.W.InstAt h x (PySem.W.instObj C dx) C (some od)/\∀ name,PySem.W.lookIn name od=some (mA name) :=
 let ⟨od,ho,hl⟩:=wj I.ns
 ⟨od,⟨I.obj,rfl,rfl,ho⟩,hl⟩
section
variable {prog:Program} {w:World} {A:Around} {E:Value->Shared->Prop} {s:Shared} {K:PySem.W.Frag} {x dx C f:Addr} {mA:Str->Option Value} {name:Str} {v:Value}
theorem Am {expr:Bool} {Q:Value->Shared->Prop} (X:K.In s.heap) (I:ObjM s.heap x dx C mA) (hg:PySem.W.plainGet K C name=true) (hh:PySem.W.hasDictIn K C=true)
  (ha:PySem.W.findIn K (.ref C) name=some none) (hv:mA name=some v) (hv':PySem.W.handedIn v=true) (h:Q v { s with toks:=s.toks+1 }) :
  wpAny (model prog w) A (getAttr (.ref x) name expr) Q E s:=by
 obtain ⟨od,J,hl⟩:=I.look
 exact PySem.W.get_value X J (PySem.W.plainGet_of hg).1 (PySem.W.findObj_own hh ha rfl (by rw [hl,hv])) hv' h
theorem yb {pl:Sem Bool} {Q:Value × List Value->Shared->Prop} (X:K.In s.heap) (I:ObjM s.heap x dx C mA) (hg:PySem.W.plainGet K C name=true)
  (hf:PySem.W.findIn K (.ref C) name=some (some (.ref f))) (ht:PySem.W.isFn K (.ref f)=true) (hv:mA name=none) (h:Q (.ref f,[.ref x]) s) :
  wpAny (model prog w) A (getMethod (.ref x) name pl) Q E s:=by
 obtain ⟨od,J,hl⟩:=I.look
 exact PySem.W.method_fn X J (PySem.W.plainGet_of hg).1 (PySem.W.plainGet_of hg).2 hf (beq_iff_eq.mp ht) (by show (PySem.W.lookIn name od).map (·.isSome)=some false;rw [hl,hv];rfl) h
theorem Be {ns:List Str} {Q:Unit->Shared->Prop} (X:K.In s.heap) (I:ObjM s.heap x dx C mA)
  (hs:PySem.W.findIn K (.ref C) "__setattr__"=some (some (.builtin "object.__setattr__"))) (hp:PySem.W.plainOver K C=true) (ht:PySem.W.takerIn K C name=some none) (hh:PySem.W.hasDictIn K C=true)
  (hw:PySem.Within mA ns) (hsz:ns.length≤sizeLine)
  (h:∀ h',ObjM h' x dx C (λy=>if y=name then some v else mA y)->Heap.SameBut dx s.heap h'->Q () { s with heap:=h',toks:=s.toks+2 }) :
  wpAny (model prog w) A (setAttr (.ref x) name v) Q E s:=by
 obtain ⟨od,J,hl⟩:=I.look
 refine PySem.W.set_plain X J hs (PySem.W.osa_open (s:={ s with toks:=s.toks+1 }) (r:=none) X J hp ht λb=>?_)
 obtain ⟨cd,hc,hd'⟩:=PySem.W.any_some hh
 have hx:s.heap.get? x=some ⟨.ref C,some dx,.plain,#[]⟩:=I.obj
 refine wpAny_bind (wpAny_pure (wpAny_bind (wpAny_bind (wpAny_loadPart hx (wpAny_bind (PySem.W.Looks.here (s:={ s with toks:=s.toks+1 }) (PySem.W.looks_clsIn X hc) ?_))))))
 rw [hd']
 refine wpAny_pure (a:=some dx) (wpAny_bind (wpAny_pure (wpAny_bind ?_)))
 refine wpAny_nsSet1 (s:={ s with toks:=s.toks+1 }) I.ns λh' hn2 hs2=>?_
 obtain ⟨oD,esD,epD,hoD,hdD,hcD⟩:=hn2.count (PySem.Within.cons name v hw)
 refine wpAny_bind (wpAny_lookBehind hoD (by rw [hdD];exact pastItsLine_dict (Nat.le_trans hcD (by rw [List.length_cons];omega))) ?_)
 exact wpAny_pure (h _ ⟨(hs2.2 _ (Ne.symm I.ne)).trans I.obj,hn2,I.ne⟩ hs2)
theorem yt {R:Result->Shared->Prop} {vs:List Value} {kw:List (Str × Value)} (X:K.In s.heap) (hm:PySem.W.makesIn K C=true)
  (hi:PySem.W.findIn K (.ref C) "__init__"=some (some (.ref f))) (hf:PySem.W.typeIn K (.ref f)=some (.type "function"))
  (h:codeAny (model prog w) (A.under (.builtin "type.__call__" ⟨.ref C::vs,kw⟩)) (.call (.ref f) ⟨.ref (s.heap.objs.size+1)::vs,kw⟩) (PySem.W.InitBack (s.heap.objs.size+1) R)
   {s with heap:=(s.heap.push PySem.W.emptyDict).push (PySem.W.instObj C s.heap.objs.size) }) :
  codeAny (model prog w) A (.call (.ref C) ⟨vs,kw⟩) R s:=by
 obtain ⟨hh,g,d,t,os⟩:=s
 exact PySem.W.make_core (PySem.W.makes_of X hm) (PySem.W.looks_findIn X hi) (λself=>PySem.W.bind_fn X self hf) (.inl rfl) h
end
def iu (f:Str) (v:V):List (Str × V)->List (Str × V)
 | []=>[(f,v)]
 | (g,x)::r=>if g=f then (g,v)::r else (g,x)::iu f v r
theorem lA (f g:Str) (v:V):∀ fs:List (Str × V),(iu f v fs).lookup g=if g=f then some v else fs.lookup g
 | []=>by
  show List.lookup g [(f,v)]=_
  by_cases h:g=f
  ·have hb:(g == f)=true:=beq_iff_eq.mpr h
   simp only [List.lookup,hb,if_pos h]
  ·have hb:(g == f)=false:=beq_eq_false_iff_ne.mpr h
   simp only [List.lookup,hb,if_neg h]
 | (k,x)::r=>by
  have ih:=lA f g v r
  rw [show iu f v ((k,x)::r)=(if k=f then (k,v)::r else (k,x)::iu f v r) from rfl]
  by_cases hk:k=f
  ·rw [if_pos hk]
   by_cases h:g=k
   ·have hb:(g == k)=true:=beq_iff_eq.mpr h
    simp only [List.lookup,hb,if_pos (h.trans hk)]
   ·have hb:(g == k)=false:=beq_eq_false_iff_ne.mpr h
    simp only [List.lookup,hb,if_neg (λe:g=f=>h (e.trans hk.symm))]
  ·rw [if_neg hk]
   by_cases h:g=k
   ·have hb:(g == k)=true:=beq_iff_eq.mpr h
    simp only [List.lookup,hb,if_neg (λe:g=f=>hk (h.symm.trans e))]
   ·have hb:(g == k)=false:=beq_eq_false_iff_ne.mpr h
    simp only [List.lookup,hb]
    exact ih
theorem kJ (f:Str) (v:V):∀ fs:List (Str × V),f ∈ (iu f v fs).map (·.1)/\∀ g,g ∈ fs.map (·.1)->g ∈ (iu f v fs).map (·.1)
 | []=>⟨by simp [iu],λg h=>by simp at h⟩
 | (k,x)::r=>by
  obtain ⟨i1,i2⟩:=kJ f v r
  rw [show iu f v ((k,x)::r)=(if k=f then (k,v)::r else (k,x)::iu f v r) from rfl]
  by_cases hk:k=f
  ·rw [if_pos hk]
   subst hk
   exact ⟨by simp,λg h=>by simpa using h⟩
  ·rw [if_neg hk]
   refine ⟨?_,λg h=>?_⟩
   ·rw [List.map_cons]
    exact List.mem_cons_of_mem _ i1
   ·rw [List.map_cons] at h ⊢
    rcases List.mem_cons.mp h with e | e
    ·exact List.mem_cons.mpr (.inl e)
    ·exact List.mem_cons_of_mem _ (i2 g e)
theorem lq (f:Str) (v:V):∀ fs:List (Str × V),(iu f v fs).length≤fs.length+1
 | []=>by simp [iu]
 | (k,x)::r=>by
  have ih:=lq f v r
  rw [show iu f v ((k,x)::r)=(if k=f then (k,v)::r else (k,x)::iu f v r) from rfl]
  by_cases hk:k=f
  ·rw [if_pos hk,List.length_cons,List.length_cons];omega
  ·rw [if_neg hk,List.length_cons,List.length_cons];omega
theorem RelO.some_of {v:V} {o:Option Value} (r:RelO (some v) o):∃ u,o=some u/\RelV v u:=by
 cases o with
 | none=>exact (show False from r).elim
 | some u=>exact ⟨u,rfl,r⟩
theorem RelO.none_of {o:Option Value} (r:RelO none o):o=none:=by
 cases o with
 | none=>rfl
 | some u=>exact (show False from r).elim
theorem wa {v:V} (r:RelV v u):PySem.W.handedIn u=true:=by
 cases v with
 | non=>cases (show u=Value.none from r);rfl
 | bl b=>cases (show u=Value.bool b from r);rfl
 | int i=>obtain ⟨t,e⟩:=(show ∃ t,u=Value.int i t from r);cases e;rfl
 | str x=>obtain ⟨t,e⟩:=(show ∃ t,u=Value.str x t from r);cases e;rfl
 | byt b=>obtain ⟨t,e⟩:=(show ∃ t,u=Value.bytes b t from r);cases e;rfl
 | flt b=>obtain ⟨t,e⟩:=(show ∃ t,u=Value.float b t from r);cases e;rfl
 | ref a=>cases (show u=Value.ref a from r);rfl
 | ty n=>cases (show u=Value.type n from r);rfl
section
variable {P:Program} {w:World} {H H':Hp} {h h':Heap} {a C dx:Addr} {fs fs':List (Str × V)}
theorem pC (hok:HOk P w H h) (e:H a=some (.ins C dx fs)):∃ mA,ObjM h a dx C mA/\(∀ f,RelO (fs.lookup f) (mA f))/\PySem.Within mA (fs.map (·.1))/\fs.length≤1000/\H dx=some (.own a):=by
 obtain ⟨d,z,ne,ob,mA,n,r,q⟩:=(show ObjOk P w H h a (.ins C dx fs) from hok a _ e)
 exact ⟨mA,⟨ob,n,ne⟩,r,q,z,d⟩
end
structure Cls (K:PySem.W.Frag) (C:Addr):Prop where
 pg:PySem.W.plainGet K C Str.empty=true
 hd:PySem.W.hasDictIn K C=true
 po:PySem.W.plainOver K C=true
 sa:PySem.W.findIn K (.ref C) "__setattr__"=some (some (.builtin "object.__setattr__"))
theorem Cls.get (c:Cls K C) (f:Str):PySem.W.plainGet K C f=true:=c.pg
def NoAttr (K:PySem.W.Frag) (C:Addr) (f:Str):Prop:=PySem.W.findIn K (.ref C) f=some none
theorem NoAttr.taker {f:Str} (n:NoAttr K C f):PySem.W.takerIn K C f=some none:=by
 unfold PySem.W.takerIn
 rw [show PySem.W.findIn K (.ref C) f=some none from n]
 rfl
structure nK (K:PySem.W.Frag) (C:Addr) (m:Str) (f:Addr):Prop where
 at_:PySem.W.findIn K (.ref C) m=some (some (.ref f))
 fn:PySem.W.isFn K (.ref f)=true
 kp:PySem.W.keepIn K (.ref f)=true
section
variable {X:Cx} {pins:List (Addr × Obj)} {σ:St} {H:Hp} {s:Shared} {a C dx:Addr} {fs:List (Str × V)} {f:Str} {v:V} {A:Around} {E:Value->Shared->Prop}
theorem sV {b:Bool} {Q:Value->Shared->Prop} (I:Inv X pins σ H s) (e:H a=some (.ins C dx fs)) (c:Cls X.K C) (n:NoAttr X.K C f) (l:fs.lookup f=some v)
  (h:∀ u s',Inv X pins σ H s'->RelV v u->Q u s'):wpAny (model X.prog X.w) A (getAttr (.ref a) f b) Q E s:=by
 obtain ⟨mA,O,r,_,_,_⟩:=pC I.hok e
 obtain ⟨u,hu,ru⟩:=RelO.some_of (v:=v) (o:=mA f) (by rw [← l];exact r f)
 exact Am I.kIn O (c.get f) c.hd n hu (wa ru) (h u _ (I.tok _) ru)
theorem jO {m:Str} {g:Addr} {pl:Sem Bool} {Q:Value × List Value->Shared->Prop} (I:Inv X pins σ H s) (e:H a=some (.ins C dx fs)) (c:Cls X.K C) (k:nK X.K C m g) (l:fs.lookup m=none)
  (h:Q (.ref g,[.ref a]) s):wpAny (model X.prog X.w) A (getMethod (.ref a) m pl) Q E s:=by
 obtain ⟨mA,O,r,_,_,_⟩:=pC I.hok e
 have hn:mA m=none:=RelO.none_of (by rw [← l];exact r m)
 exact yb I.kIn O (c.get m) k.at_ k.fn hn h
theorem uj {y:V} {u:Value} {Q:Unit->Shared->Prop} (I:Inv X pins σ H s) (e:H a=some (.ins C dx fs)) (c:Cls X.K C) (n:NoAttr X.K C f) (hl:fs.length < 1000) (ry:RelV y u)
  (h:∀ s',Inv X pins σ (upd H a (.ins C dx (iu f y fs))) s'->Q () s'):wpAny (model X.prog X.w) A (setAttr (.ref a) f u) Q E s:=by
 obtain ⟨mA,O,r,wi,_,ho⟩:=pC I.hok e
 have hz:(fs.map (·.1)).length≤sizeLine:=by rw [List.length_map,sizeLine_eq];omega
 refine Be I.kIn O c.sa c.po n.taker c.hd wi hz λh' O' sb=>h _ ?_
 have hd:∃ o,h'.get? dx=some o:=let ⟨o,_,_,e',_⟩:=O'.ns;⟨o,e'⟩
 refine I.write (x:=a) (e:=dx) (by rw [e];exact True.intro) (.inr ho) (λb q hb z=>(sb.2 b hb).trans z) hd ?_
 refine ⟨by rw [aK O.ne];exact ho,?_,O.ne,O'.obj,_,O'.ns,λg=>?_,λg hg=>?_⟩
 ·have:=lq f y fs;omega
 ·show RelO ((iu f y fs).lookup g) (if g=f then some u else mA g)
  rw [lA]
  by_cases q:g=f
  ·rw [if_pos q,if_pos q];exact ry
  ·rw [if_neg q,if_neg q];exact r g
 ·by_cases q:g=f
  ·rw [q];exact (kJ f y fs).1
  ·refine (kJ f y fs).2 g (wi g λz=>hg ?_)
   show (if g=f then some u else mA g)=none
   rw [if_neg q];exact z
theorem Inv.made (I:Inv X pins σ H s):Inv X pins σ (upd (upd H s.heap.objs.size (.own (s.heap.objs.size+1))) (s.heap.objs.size+1) (.ins C s.heap.objs.size []))
  {s with heap:=(s.heap.push PySem.W.emptyDict).push (PySem.W.instObj C s.heap.objs.size) }:=by
 have e1:(s.heap.push PySem.W.emptyDict).get? s.heap.objs.size=some PySem.W.emptyDict:=Heap.get?_push_size s.heap rfl
 have e2:((s.heap.push PySem.W.emptyDict).push (PySem.W.instObj C s.heap.objs.size)).get? (s.heap.objs.size+1)=some (PySem.W.instObj C s.heap.objs.size):=by
  have:=Heap.get?_push_size (s.heap.push PySem.W.emptyDict) (o:=PySem.W.instObj C s.heap.objs.size) rfl
  rwa [Heap.size_push] at this
 have e3:(s.heap.push PySem.W.emptyDict).Ns s.heap.objs.size (λ_=>none):=⟨PySem.W.emptyDict,#[],_,e1,rfl,(λe he=>absurd he (by simp)),λ_=>rfl⟩
 have I1:=I.laid (a:=s.heap.objs.size) (o:=.own (s.heap.objs.size+1)) (h':=s.heap.push PySem.W.emptyDict) (t':=s.toks) (λb u q=>Heap.get?_push_of_some _ q) (Nat.le_refl _) ⟨_,e1⟩
 refine I1.laid (a:=s.heap.objs.size+1) (o:=.ins C s.heap.objs.size []) (t':=s.toks) (λb u q=>Heap.get?_push_of_some _ q) (Nat.le_of_eq (Heap.size_push _ _)) ?_
 have ne:s.heap.objs.size≠s.heap.objs.size+1:=Nat.ne_of_lt (Nat.lt_succ_self _)
 refine ⟨by rw [aK ne,ay],Nat.zero_le _,ne,e2,λ_=>none,(Heap.Ns1.of_empty e3).at λo q=>Heap.get?_push_of_some _ q,λ_=>True.intro,λy hy=>absurd rfl hy⟩
theorem Ab {prog:Program} {w:World} {env:Env} {e:Expr} {f:Str} {pos:Pos} {s:Shared} {Q:Value->Shared->Prop} (hb:attributeBase e f env (eval e env)=eval e env)
  (h:wpAny (model prog w) A (eval e env) (λo s₁=>wpAny (model prog w) A (getAttr o f true) Q E s₁) E s):wpAny (model prog w) A (eval (.Attribute e f pos) env) Q E s :=
 Attribute_any_ h (by rw [arm_eval_Attribute,hb])
end
def kA (K:PySem.W.Frag) (ta:TE) (f:Str):TE:=λσ H Q=>ta σ H λx H1=>∃ a C dx fs v,x=.ref a/\H1 a=some (.ins C dx fs)/\Cls K C/\NoAttr K C f/\fs.lookup f=some v/\Q v H1
def Dm (K:PySem.W.Frag) (ta tv:TE) (f:Str):TS:=λD σ H=>tv σ H λy H1=>ta σ H1 λx H2=>∃ a C dx fs,x=.ref a/\H2 a=some (.ins C dx fs)/\Cls K C/\NoAttr K C f/\fs.length < 1000 /\
 D.nx σ (upd H2 a (.ins C dx (iu f y fs)))
section
variable {X:Cx} {o e value:Expr} {f:Str} {pos pos' tpos:Pos} {ta tv:TE}
theorem cF (he:PE X e ta) (hb:attributeBase e f X.env (eval e X.env)=eval e X.env):PE X (.Attribute e f pos) (kA X.K ta f):=by
 intro pins s σ H Q I h
 refine Ab hb (thn (he pins s σ H _ I h) λu s1 ⟨x,H1,I1,rx,a,C,dx,fs,v,ex,ea,c,n,l,q⟩=>?_)
 subst ex
 obtain rfl:u=Value.ref a:=rx
 exact sV I1 ea c n l λu' s2 I2 ru=>⟨v,H1,I2,ru,q⟩
theorem ir (ha:PE X o ta) (hv:PE X value tv) (hs:swapsWith value (some (.Attribute o f pos')) pos.line X.env=pure false):PS X (.Assign [.Attribute o f pos'] value pos) (Dm X.K ta tv f):=by
 intro pins s σ H D I h
 refine plainObj_wpAny_Assign_Attribute (thn (hv pins s σ H _ I h) λu s1 ⟨y,H1,I1,ry,q⟩=>thn (ha pins s1 σ H1 _ I1 q) λov s2 ⟨x,H2,I2,rx,a,C,dx,fs,ex,ea,c,n,l,q2⟩=>?_) hs
 subst ex
 obtain rfl:ov=Value.ref a:=rx
 exact uj I2 ea c n l ry λs3 I3=>⟨σ,_,I3,q2⟩
end
section
variable {X:Cx} {pins:List (Addr × Obj)} {σ:St} {H:Hp} {s:Shared} {A:Around} {E:Value->Shared->Prop} {Q:Value->Shared->Prop} {c:Value} {b:Bool}
end
structure Room (k:Nat) (A:Around):Prop where
 hd:A.handled=none
 dp:A.depth+3 * k+5 < recursionLimit
 un:A.units+16 * k+200 < cLine
variable {j k:Nat}
theorem Room.mono (r:Room k A) (h:j≤k):Room j A:=⟨r.hd,by have:=r.dp;omega,by have:=r.un;omega⟩
theorem Room.deeper (r:Room (k+1) A) (env:Env):Room k (A.deeper env) :=
 ⟨r.hd,by have:=r.dp;show A.depth+1+3 * k+5 < _;omega,by have:=r.un;show A.units+3+16 * k+200 < _;omega⟩
variable {kw:List (Str × Value)}
theorem tj:(A.under (.builtin "type.__call__" ⟨.ref C::us,kw⟩)).depth=A.depth+1:=by
 first | rfl | simp [Around.under,Code.weight,Code.isCreation,Code.isGuard,Code.isCaller,Code.frames,Code.isFrame,guardIds]
theorem tq:(A.under (.builtin "type.__call__" ⟨.ref C::us,kw⟩)).units=A.units+1:=by
 first | rfl | simp [Around.under,Code.cUnits,Code.frames,Code.isFrame]
theorem Room.make (r:Room (k+1) A) (C:Addr) (us:List Value) (kw:List (Str × Value)):Room k (A.under (.builtin "type.__call__" ⟨.ref C::us,kw⟩)) :=
 ⟨r.hd,by have:=r.dp;rw [tj];omega,by have:=r.un;rw [tq];omega⟩
theorem Room.depth (r:Room k A):A.depth < recursionLimit:=by have:=r.dp;omega
def cu:TA:=λ_ H Q=>Q [] H
def bf (ta:TE) (tr:TA):TA:=λσ H Q=>ta σ H λx H1=>tr σ H1 λxs H2=>Q (x::xs) H2
section
variable {X:Cx} {e:Expr} {es:List Expr} {te:TE} {t:TA} {pos:Pos}
theorem af:PA X [] cu:=λ_ _ _ _ H Q I h=>Calls.spliced_nil ⟨[],H,I,.nil,h⟩
theorem bZ (ha:PE X e te) (hr:PA X es t) (hs:starEach (e::es) X.env=(false,eval e X.env)::starEach es X.env:=by rfl):PA X (e::es) (bf te t):=by
 intro pos pins s σ H Q I h
 rw [hs]
 show wpAny _ _ (spliced ((false,eval e X.env)::backTo pos (starEach es X.env))) _ _ s
 refine Calls.spliced_cons (thn (ha pins s σ H _ I h) λu s1 ⟨x,H1,I1,r1,q1⟩=>?_)
 exact thn (hr pos pins s1 σ H1 _ I1 q1) λus s2 ⟨xs,H2,I2,r2,q2⟩=>⟨x::xs,H2,I2,.cons r1 r2,q2⟩
def Dw (t:TA):TE:=λσ H Q=>t σ H λxs H1=>xs.length≤sizeLine/\∀ p,H1 p=none->Q (.ref p) (upd H1 p (.tup xs))
def zI (t:TA):TE:=λσ H Q=>t σ H λxs H1=>xs.length≤sizeLine/\∀ p,H1 p=none->Q (.ref p) (upd H1 p (.lst xs))
theorem aC {x1} (h:PA X es t):PE X (.Tuple es x1 pos) (Dw t):=by
 intro pins s σ H Q I hq
 refine wpAny_Tuple_spliced (thn (h pos pins s σ H _ I hq) λus s1 ⟨xs,H1,I1,r,z,q⟩=>⟨by rw [← r.length];exact z,?_⟩)
 have hf:H1 s1.heap.objs.size=none:=I1.hok.fresh (Nat.le_refl _)
 refine ⟨.ref s1.heap.objs.size,upd H1 s1.heap.objs.size (.tup xs),I1.laid (t':=s1.toks) (λb u e=>Heap.get?_push_of_some _ e) (Nat.le_refl _) ?_,rfl,q _ hf⟩
 exact ⟨z,us,r,⟨_,Heap.get?_push_size _ rfl,rfl,_,rfl⟩⟩
theorem bu (h:PA X es t):PE X (.List es pos) (zI t):=by
 intro pins s σ H Q I hq
 refine wpAny_List_spliced (thn (h pos pins s σ H _ I hq) λus s1 ⟨xs,H1,I1,r,z,q⟩=>⟨by rw [← r.length];exact z,?_⟩)
 have hf:H1 s1.heap.objs.size=none:=I1.hok.fresh (Nat.le_refl _)
 refine ⟨.ref s1.heap.objs.size,upd H1 s1.heap.objs.size (.lst xs),I1.laid (t':=s1.toks) (λb u e=>Heap.get?_push_of_some _ e) (Nat.le_refl _) ?_,rfl,q _ hf⟩
 exact ⟨z,us,0,r,Heap.get?_push_size _ rfl⟩
end
abbrev Sp:=List V->Hp->VK->XK->Prop
abbrev CXT:=List Env->Hp->Shared->XK->Value->Shared->Prop
structure Env0 (P:Program) (w:World) (K:PySem.W.Frag) (mg:Str->Option Value) (base:Heap) (A:Around) (outer:List Env) (s:Shared) (H:Hp):Prop where
 frames:A.frames=some outer
 mod:Mod K mg base
 bs:∀ b o,base.get? b=some o->s.heap.get? b=some o/\H b=none
 bsz:base.objs.size≤s.heap.objs.size
 funs:s.heap.FunFrames base outer
 frf:∀ b ∈ frs outer,H b=none
 hok:HOk P w H s.heap
 bare:AllBare s.gens
def CE (outer:List Env) (P:Program) (w:World) (H:Hp) (s:Shared) (Q:VK) (u:Value) (s':Shared):Prop :=
 ∃ v H',s'.os=s.os/\AllBare s'.gens/\Un (frs outer) [] H H' s.heap s'.heap/\HOk P w H' s'.heap/\RelV v u/\Q v H'
def CR (CX:CXT) (outer:List Env) (P:Program) (w:World) (H:Hp) (s:Shared) (Q:VK) (E:XK) (r:Result) (s':Shared):Prop :=
 match r with
 | .ok (.ret u)=>CE outer P w H s Q u s'
 | .ok _=>False
 | .error e=>CX outer H s E e s'
structure FnOk (P:Program) (w:World) (K:PySem.W.Frag) (mg:Str->Option Value) (base:Heap) (CX:CXT) (k:Nat) (f:Addr) (fd:FuncData) (ps:List Str) (sp:Sp):Prop where
 len:∀ vs H Q E,sp vs H Q E->vs.length=ps.length
 run:∀ (A:Around) (outer:List Env) (s:Shared) (H:Hp) (args:Args) (us:List Value) (vs:List V) (Q:VK) (E:XK),Room k A->Env0 P w K mg base A outer s H->BindsTo s fd args (ps.zip us)->Vals vs us->sp vs H Q E ->
  codeAny (model P w) A (.call (.ref f) args) (CR CX outer P w H s Q E) s
variable {mg:Str->Option Value} {base:Heap} {CX:CXT} {f:Addr} {fd:FuncData} {ps:List Str} {sp:Sp}
theorem FnOk.mono (F:FnOk P w K mg base CX j f fd ps sp) (h:j≤k) :
  FnOk P w K mg base CX k f fd ps sp:=⟨F.len,λA outer s H args us vs Q E hr=>F.run A outer s H args us vs Q E (hr.mono h)⟩
variable {outer:List Env}
theorem Env0.make (e:Env0 P w K mg base A outer s H) (C:Addr) (us:List Value) (kw:List (Str × Value)) :
  Env0 P w K mg base (A.under (.builtin "type.__call__" ⟨.ref C::us,kw⟩)) outer s H:=⟨by first | exact e.frames | (simpa [Around.under,Code.envs,Code.isFrame,pushEnvs] using e.frames),e.mod,e.bs,e.bsz,e.funs,e.frf,e.hok,e.bare⟩
section
variable {X:Cx} {pins:List (Addr × Obj)} {σ:St} {H:Hp} {s s':Shared}
theorem Inv.env0 (I:Inv X pins σ H s):Env0 X.prog X.w X.K X.mg X.base X.A X.stack s H :=
 ⟨I.ok.frames,I.ok.mod,I.bs,Nat.le_trans I.ok.bsz I.sz,I.stack,I.stkFree,I.hok,I.bare⟩
theorem Inv.after {Q:VK} {u:Value} (I:Inv X pins σ H s) (h:CE X.stack X.prog X.w H s Q u s'):EP X pins σ Q u s':=by
 obtain ⟨v,H',os,bare,un,hok,r,q⟩:=h
 obtain ⟨hh,g,d,t,os'⟩:=s'
 obtain rfl:os'=s.os:=os
 exact ⟨v,H',I.call (h':=hh) (g':=g) (d':=d) (t':=t) (ch:=[]) un hok bare (λb z=>absurd z (by simp)),r,q⟩
end
def fO (sp:Sp) (dvs:List V) (E:XK) (t:TA):TE:=λσ H Q=>t σ H λvs H1=>sp (vs++dvs) H1 Q E
def oU (C:Addr) (m:Str) (sp:Sp) (dvs:List V) (E:XK) (ta:TE) (t:TA):TE:=λσ H Q=>ta σ H λx H1=>∃ a dx fs,x=.ref a/\H1 a=some (.ins C dx fs)/\fs.lookup m=none /\
 t σ H1 λvs H2=>sp (x::(vs++dvs)) H2 Q E
def Dt (C:Addr) (sp:Sp) (dvs:List V) (E:XK) (t:TA):TE:=λσ H Q=>t σ H λvs H1=>∀ x dx,H1 x=none->H1 dx=none->dx≠x ->
 sp (.ref x::(vs++dvs)) (upd (upd H1 dx (.own x)) x (.ins C dx [])) (λv H2=>v=.non/\Q (.ref x) H2) E
def Binds (K:PySem.W.Frag) (fd:FuncData) (ps:List Str) (ds:List Value):Prop :=
 ∀ (s:Shared) (us:List Value),K.In s.heap->(us++ds).length=ps.length->BindsTo s fd ⟨us,[]⟩ (ps.zip (us++ds))
theorem Binds.all (h:∀ us:List Value,us.length=ps.length->bindArgs fd ⟨us,[]⟩=pure (ps.zip us)):Binds K fd ps []:=λs us _ hl=>by
 rw [List.append_nil] at hl ⊢
 exact .of_eq (h us hl)
def eR (CX:CXT) (X:Cx) (E:XK):Prop:=∀ (pins:List (Addr × Obj)) (σ:St) (H:Hp) (s:Shared) (e:Value) (s':Shared),Inv X pins σ H s->CX X.stack H s E e s'->X.xe e s'
section
variable {X:Cx} {CX:CXT} {k:Nat} {f C:Addr} {fd:FuncData} {ps:List Str} {sp:Sp} {dvs:List V} {ds:List Value} {E:XK} {x m:Str} {p pos apos:Pos} {e o:Expr} {es:List Expr} {ta:TE} {t:TA}
variable {pins:List (Addr × Obj)} {σ:St} {H:Hp} {s:Shared} {Q:VK} {us:List Value} {vs:List V}
theorem ql (F:FnOk X.prog X.w X.K X.mg X.base CX k f fd ps sp) (hr:Room k X.A) (hb:Binds X.K fd ps ds) (hd:Vals dvs ds) (hx:eR CX X E)
  (I:Inv X pins σ H s) (r:Vals vs us) (h:sp (vs++dvs) H Q E):wpAny (model X.prog X.w) X.A (call (.ref f) us) (EP X pins σ Q) X.xe s:=by
 have r2:Vals (vs++dvs) (us++ds):=r.append hd
 have hl:(us++ds).length=ps.length:=by rw [← r2.length];exact F.len _ _ _ _ h
 refine wpAny_call (codeAny_mono (F.run X.A X.stack s H ⟨us,[]⟩ (us++ds) (vs++dvs) Q E hr I.env0 (hb s us I.kIn hl) r2 h) λr s' hq=>?_)
 cases r with
 | error e=>exact hx pins σ H s e s' I hq
 | ok fl =>
  cases fl with
  | ret u=>exact I.after hq
  | next=>exact False.elim hq
  | brk=>exact False.elim hq
  | cont=>exact False.elim hq
theorem aD (F:FnOk X.prog X.w X.K X.mg X.base CX k f fd ps sp) (hr:Room k X.A) (hg:Gl X x) (hm:X.mg x=some (.ref f)) (hk:PySem.W.keepIn X.K (.ref f)=true) (hb:Binds X.K fd ps ds) (hd:Vals dvs ds) (hx:eR CX X E)
  (ha:PA X (e::es) t) (hdb:(x == ("__debug__":Str))=false:=by decide) (he:starEach (e::es) X.env=(false,eval e X.env)::starEach es X.env:=by rfl) (hpl:(backTo pos (starEach es X.env)).any (·.1)=false:=by rfl) :
  PE X (.Call (.Name x p) (e::es) [] pos) (fO sp dvs E t):=by
 intro pins s σ H Q I h
 refine wpAny_Call_Name_kw (gB I hg hm ?_ hdb)
 refine PySem.W.callWith_K (h₀:=X.base) I.ok.mod.kin hk (thn (ha pos pins s σ H _ I h) λus s1 ⟨vs,H1,I1,r,q⟩=>⟨I1.kIn,?_⟩) he hpl
 exact ql F hr hb hd hx I1 r q
theorem rD (F:FnOk X.prog X.w X.K X.mg X.base CX k f fd ps sp) (hr:Room k X.A) (hg:Gl X x) (hm:X.mg x=some (.ref f)) (hk:PySem.W.keepIn X.K (.ref f)=true) (hb:Binds X.K fd ps ds) (hd:Vals dvs ds) (hx:eR CX X E)
  (hdb:(x == ("__debug__":Str))=false:=by decide):PE X (.Call (.Name x p) [] [] pos) (fO sp dvs E cu):=by
 intro pins s σ H Q I h
 refine wpAny_Call_Name_kw (gB I hg hm ?_ hdb)
 exact PySem.W.callWith_K0 I.kIn hk (ql (us:=[]) F hr hb hd hx I .nil h)
variable {pl:Sem Bool}
theorem fh (he:PE X o ta) (c:Cls X.K C) (hm:nK X.K C m f) (F:FnOk X.prog X.w X.K X.mg X.base CX k f fd ps sp) (hr:Room k X.A) (hb:Binds X.K fd ps ds) (hd:Vals dvs ds) (hx:eR CX X E) (ha:PA X (e::es) t)
  (hst:starEach (e::es) X.env=(false,eval e X.env)::starEach es X.env:=by rfl) (hpl:(backTo pos (starEach es X.env)).any (·.1)=false:=by rfl)
  (ht:eval (.Call (.Attribute o m apos) (e::es) [] pos) X.env=(do
   let ov ← eval o X.env
   standAt apos.atName
   let (f,first) ← holding [ov] (getMethod ov m pl)
   callWith pos f first (backTo pos (starEach (e::es) X.env)) (backToKw pos (keywordEach [] X.env))):=by rfl) :
  PE X (.Call (.Attribute o m apos) (e::es) [] pos) (oU C m sp dvs E ta t):=by
 intro pins s σ H Q I h
 refine PySem.W.methodCall_KW (pl:=pl) (thn (he pins s σ H _ I h) λu s1 ⟨x,H1,I1,rx,a,dx,fs,ex,ea,l,q⟩=>?_) ht
 subst ex
 obtain rfl:u=Value.ref a:=rx
 refine jO I1 ea c hm l ?_
 refine PySem.W.callWith_K (first:=[.ref a]) (h₀:=X.base) I.ok.mod.kin hm.kp (thn (ha pos pins s1 σ H1 _ I1 q) λus s2 ⟨vs,H2,I2,r,q2⟩=>⟨I2.kIn,?_⟩) hst hpl
 exact ql (us:=.ref a::us) (vs:=.ref a::vs) F hr hb hd hx I2 (.cons rfl r) q2
theorem jb (he:PE X o ta) (c:Cls X.K C) (hm:nK X.K C m f) (F:FnOk X.prog X.w X.K X.mg X.base CX k f fd ps sp) (hr:Room k X.A) (hb:Binds X.K fd ps ds) (hd:Vals dvs ds) (hx:eR CX X E)
  (ht:eval (.Call (.Attribute o m apos) [] [] pos) X.env=(do
   let ov ← eval o X.env
   standAt apos.atName
   let (f,first) ← holding [ov] (getMethod ov m pl)
   callWith pos f first (backTo pos (starEach [] X.env)) (backToKw pos (keywordEach [] X.env))):=by rfl) :
  PE X (.Call (.Attribute o m apos) [] [] pos) (oU C m sp dvs E ta cu):=by
 intro pins s σ H Q I h
 refine PySem.W.methodCall_KW (pl:=pl) (thn (he pins s σ H _ I h) λu s1 ⟨x,H1,I1,rx,a,dx,fs,ex,ea,l,q⟩=>?_) ht
 subst ex
 obtain rfl:u=Value.ref a:=rx
 refine jO I1 ea c hm l ?_
 exact PySem.W.callWith_K0 (first:=[.ref a]) I1.kIn hm.kp (ql (us:=[.ref a]) (vs:=[.ref a]) F hr hb hd hx I1 (.cons rfl .nil) q)
structure Mk (K:PySem.W.Frag) (C f:Addr):Prop where
 makes:PySem.W.makesIn K C=true
 init:PySem.W.findIn K (.ref C) "__init__"=some (some (.ref f))
 fn:PySem.W.isFn K (.ref f)=true
 kp:PySem.W.keepIn K (.ref C)=true
theorem zC (M:Mk X.K C f) (F:FnOk X.prog X.w X.K X.mg X.base CX k f fd ps sp) (hr:Room (k+1) X.A) (hb:Binds X.K fd ps ds) (hd:Vals dvs ds)
  (hx:eR CX X E) (I:Inv X pins σ H s) (r:Vals vs us)
  (h:∀ x dx,H x=none->H dx=none->dx≠x->sp (.ref x::(vs++dvs)) (upd (upd H dx (.own x)) x (.ins C dx [])) (λv H2=>v=.non/\Q (.ref x) H2) E) :
  wpAny (model X.prog X.w) X.A (call (.ref C) us) (EP X pins σ Q) X.xe s:=by
 have hq:=h (s.heap.objs.size+1) s.heap.objs.size (I.hok.fresh (Nat.le_succ _)) (I.hok.fresh (Nat.le_refl _)) (Nat.ne_of_lt (Nat.lt_succ_self _))
 have I2:=Inv.made (C:=C) I
 have r2:Vals (V.ref (s.heap.objs.size+1)::(vs++dvs)) (Value.ref (s.heap.objs.size+1)::(us++ds)):=.cons rfl (r.append hd)
 have hl:(Value.ref (s.heap.objs.size+1)::us++ds).length=ps.length:=by
  have e:=r2.length
  rw [F.len _ _ _ _ hq] at e
  exact e.symm
 refine wpAny_call (yt (f:=f) I.kIn M.makes M.init (beq_iff_eq.mp M.fn) (codeAny_mono (F.run _ X.stack _ _ ⟨Value.ref (s.heap.objs.size+1)::us,[]⟩ (Value.ref (s.heap.objs.size+1)::(us++ds)) _ _ E (hr.make C us [])
  (I2.env0.make C us []) (hb _ (Value.ref (s.heap.objs.size+1)::us) I2.kIn hl) r2 hq) λr s' hq'=>?_))
 cases r with
 | error e=>exact hx pins σ _ _ e s' I2 hq'
 | ok fl =>
  cases fl with
  | ret u =>
   obtain ⟨v,H',I3,rv,ev,q3⟩:=I2.after hq'
   subst ev
   exact ⟨rv,⟨V.ref (s.heap.objs.size+1),H',I3,rfl,q3⟩⟩
  | next=>exact False.elim hq'
  | brk=>exact False.elim hq'
  | cont=>exact False.elim hq'
theorem AK (M:Mk X.K C f) (F:FnOk X.prog X.w X.K X.mg X.base CX k f fd ps sp) (hr:Room (k+1) X.A) (hg:Gl X x) (hm:X.mg x=some (.ref C)) (hb:Binds X.K fd ps ds) (hd:Vals dvs ds) (hx:eR CX X E)
  (ha:PA X (e::es) t) (hdb:(x == ("__debug__":Str))=false:=by decide) (he:starEach (e::es) X.env=(false,eval e X.env)::starEach es X.env:=by rfl) (hpl:(backTo pos (starEach es X.env)).any (·.1)=false:=by rfl) :
  PE X (.Call (.Name x p) (e::es) [] pos) (Dt C sp dvs E t):=by
 intro pins s σ H Q I h
 refine wpAny_Call_Name_kw (gB I hg hm ?_ hdb)
 refine PySem.W.callWith_K (h₀:=X.base) I.ok.mod.kin M.kp (thn (ha pos pins s σ H _ I h) λus s1 ⟨vs,H1,I1,r,q⟩=>⟨I1.kIn,?_⟩) he hpl
 exact zC M F hr hb hd hx I1 r q
end
def PK (X:Cx) (kws:List Keyword) (t:TA):Prop :=
 ∀ (pos:Pos) (pins:List (Addr × Obj)) (s:Shared) (σ:St) (H:Hp) (Q:List V->Hp->Prop),Inv X pins σ H s->t σ H Q->wpAny (model X.prog X.w) X.A (evalAll ((backToKw pos (keywordEach kws X.env)).map (·.2))) (AP X pins σ Q) X.xe s
section
variable {X:Cx} {CX:CXT} {k:Nat} {f C:Addr} {fd:FuncData} {ps ks:List Str} {sp:Sp} {E:XK} {x m:Str} {p pos apos kpos:Pos} {e o:Expr} {es:List Expr} {kws:List Keyword} {te ta:TE} {t tk:TA} {nm:Option Str}
theorem yS:PK X [] cu:=λ_ _ _ _ H Q I h=>wpAny_evalAll_nil ⟨[],H,I,.nil,h⟩
theorem vk (ha:PE X e te) (hr:PK X kws t):PK X (⟨nm,e,kpos⟩::kws) (bf te t):=by
 intro pos pins s σ H Q I h
 show wpAny _ _ (evalAll ((do let v ← eval e X.env;standAt pos;pure v)::(backToKw pos (keywordEach kws X.env)).map (·.2))) _ _ s
 refine wpAny_evalAll_cons (wpAny_bind (thn (ha pins s σ H _ I h) λu s1 ⟨x,H1,I1,r1,q1⟩=>wpAny_bind (wpAny_standAt (wpAny_pure ?_))))
 exact thn (hr pos pins s1 σ H1 _ I1 q1) λus s2 ⟨xs,H2,I2,r2,q2⟩=>⟨x::xs,H2,I2,.cons r1 r2,q2⟩
structure so (K:PySem.W.Frag) (fd:FuncData) (ps ks:List Str) (g:List Value->List Value->List Value) (gV:List V->List V->List V):Prop where
 to:∀ (s:Shared) (us ws:List Value),K.In s.heap->(g us ws).length=ps.length->BindsTo s fd ⟨us,ks.zip ws⟩ (ps.zip (g us ws))
 rel:∀ {vs:List V} {us:List Value} {zs:List V} {ws:List Value},Vals vs us->Vals zs ws->Vals (gV vs zs) (g us ws)
def ur (sp:Sp) (gV:List V->List V->List V) (E:XK) (t tk:TA):TE:=λσ H Q=>t σ H λvs H1=>tk σ H1 λzs H2=>sp (gV vs zs) H2 Q E
variable {g:List Value->List Value->List Value} {gV:List V->List V->List V}
theorem Bd {pins:List (Addr × Obj)} {σ:St} {H:Hp} {s:Shared} {Q:VK} {us ws:List Value} {vs zs:List V} (F:FnOk X.prog X.w X.K X.mg X.base CX k f fd ps sp) (hr:Room k X.A) (hb:so X.K fd ps ks g gV) (hx:eR CX X E)
  (I:Inv X pins σ H s) (r:Vals vs us) (rz:Vals zs ws) (h:sp (gV vs zs) H Q E):wpAny (model X.prog X.w) X.A (call (.ref f) us (ks.zip ws)) (EP X pins σ Q) X.xe s:=by
 have r2:=hb.rel r rz
 have hl:(g us ws).length=ps.length:=by rw [← r2.length];exact F.len _ _ _ _ h
 refine wpAny_call (codeAny_mono (F.run X.A X.stack s H ⟨us,ks.zip ws⟩ (g us ws) (gV vs zs) Q E hr I.env0 (hb.to s us ws I.kIn hl) r2 h) λr s' hq=>?_)
 cases r with
 | error e=>exact hx pins σ H s e s' I hq
 | ok fl =>
  cases fl with
  | ret u=>exact I.after hq
  | next=>exact False.elim hq
  | brk=>exact False.elim hq
  | cont=>exact False.elim hq
theorem rE (F:FnOk X.prog X.w X.K X.mg X.base CX k f fd ps sp) (hr:Room k X.A) (hg:Gl X x) (hm:X.mg x=some (.ref f)) (hk:PySem.W.keepIn X.K (.ref f)=true) (hb:so X.K fd ps ks g gV) (hx:eR CX X E)
  (ha:PA X (e::es) t) (hkw:PK X kws tk) (hall:(backToKw pos (keywordEach kws X.env)).all (·.1.isSome)=true:=by rfl) (hks:(backToKw pos (keywordEach kws X.env)).filterMap (·.1)=ks:=by rfl)
  (hdb:(x == ("__debug__":Str))=false:=by decide) (he:starEach (e::es) X.env=(false,eval e X.env)::starEach es X.env:=by rfl)
  (hpl:((backTo pos (starEach (e::es) X.env)).any (·.1) || (backToKw pos (keywordEach kws X.env)).any (·.1.isNone))=false:=by rfl) :
  PE X (.Call (.Name x p) (e::es) kws pos) (ur sp gV E t tk):=by
 intro pins s σ H Q I h
 refine wpAny_Call_Name_kw (gB I hg hm ?_ hdb)
 refine PySem.W.callWith_KW (h₀:=X.base) I.ok.mod.kin hk hall (thn (ha pos pins s σ H _ I h) λus s1 ⟨vs,H1,I1,r,q⟩=>?_) hpl he
 refine thn (hkw pos pins s1 σ H1 _ I1 q) λws s2 ⟨zs,H2,I2,rz,q2⟩=>⟨I2.kIn,?_⟩
 rw [hks]
 exact Bd F hr hb hx I2 r rz q2
end
structure FnScope (N P:List Str) (sc:Scope):Prop where
 kind:sc.kind=.function
 co:sc.isCoroutine=false
 gen:sc.isGenerator=false
 nd:N.Nodup
 pre:N.take P.length=P
 par:∀ x ∈ P,sc.names.lookup x=some .local\/sc.names.lookup x=some .cell
 nofree:∀ y ∈ sc.names,y.2≠.free
theorem FnScope.sc0 {N P:List Str} {sc:Scope} (a:sc.kind=.function:=by rfl) (b:sc.isCoroutine=false:=by rfl) (c:sc.isGenerator=false:=by rfl) (d:N.Nodup:=by decide +kernel) (e:N.take P.length=P:=by rfl) (f:∀ x ∈ P,sc.names.lookup x=some .local\/sc.names.lookup x=some .cell:=by decide +kernel) (g:∀ y ∈ sc.names,y.2≠.free:=by decide +kernel):FnScope N P sc:=⟨a,b,c,d,e,f,g⟩
variable {kindOf:Str->Option NameKind} {x:Str}
theorem oy:∀ {binds:List (Str × Value)} {m:Str->Option Value},(∀ v,(x,v) ∉ binds)->bindL kindOf binds m x=m x
 | [],_,_=>rfl
 | (n,v)::r,m,h=>by
  unfold bindL
  rw [oy λw hw=>h w (List.mem_cons_of_mem _ hw)]
  split
  ·have:x≠n:=by rintro rfl;exact h v List.mem_cons_self
   simp [this]
  ·rfl
theorem ot:∀ {binds:List (Str × Value)} {m:Str->Option Value},(∀ v,(x,v) ∉ binds)->bindC kindOf binds m x=m x
 | [],_,_=>rfl
 | (n,v)::r,m,h=>by
  unfold bindC
  rw [ot λw hw=>h w (List.mem_cons_of_mem _ hw)]
  split
  ·rfl
  ·have:x≠n:=by rintro rfl;exact h v List.mem_cons_self
   simp [this]
variable {v:Value}
theorem ow:∀ {P:List Str} {vs:List Value} {i:Nat} {m:Str->Option Value},P.Nodup->P[i]?=some x->vs[i]?=some v->kindOf x=some .local ->
  bindL kindOf (P.zip vs) m x=some v
 | [],_,_,_,_,h,_,_=>by simp at h
 | _::_,[],_,_,_,_,h,_=>by simp at h
 | p::P,w::vs,0,m,nd,h1,h2,hk=>by
  simp at h1 h2;subst h1;subst h2
  show bindL kindOf ((p,w)::P.zip vs) m p=_
  unfold bindL
  rw [oy λv hv=>(List.nodup_cons.mp nd).1 (List.of_mem_zip hv).1,if_pos hk]
  simp
 | p::P,w::vs,i+1,m,nd,h1,h2,hk=>by
  show bindL kindOf ((p,w)::P.zip vs) m x=_
  unfold bindL
  exact ow (i:=i) (List.nodup_cons.mp nd).2 (by simpa using h1) (by simpa using h2) hk
theorem oq:∀ {P:List Str} {vs:List Value} {i:Nat} {m:Str->Option Value},P.Nodup->P[i]?=some x->vs[i]?=some v->kindOf x≠some .local ->
  bindC kindOf (P.zip vs) m x=some v
 | [],_,_,_,_,h,_,_=>by simp at h
 | _::_,[],_,_,_,_,h,_=>by simp at h
 | p::P,w::vs,0,m,nd,h1,h2,hk=>by
  simp at h1 h2;subst h1;subst h2
  show bindC kindOf ((p,w)::P.zip vs) m p=_
  unfold bindC
  rw [ot λv hv=>(List.nodup_cons.mp nd).1 (List.of_mem_zip hv).1,if_neg hk]
  simp
 | p::P,w::vs,i+1,m,nd,h1,h2,hk=>by
  show bindC kindOf ((p,w)::P.zip vs) m x=_
  unfold bindC
  exact oq (i:=i) (List.nodup_cons.mp nd).2 (by simpa using h1) (by simpa using h2) hk
def eP (N:List Str) (vs:List V):St:=vs.map some++List.replicate (N.length - vs.length) none
def lG (CX:CXT) (P:Program) (w:World) (K:PySem.W.Frag) (mg:Str->Option Value) (base:Heap) (N:List Str) (qual:Str) (scope:Scope) (f:Addr) (cd:Value) (A:Around) (outer:List Env) (s:Shared) (H:Hp) (E:XK):Cx where
 prog:=P
 w:=w
 K:=K
 mg:=mg
 base:=base
 A:=A.deeper (envOfC qual scope s.heap.objs.size f cd)
 N:=N
 s₀:=s
 H₀:=H
 env:=envOfC qual scope s.heap.objs.size f cd
 outer:=outer
 stack:=envOfC qual scope s.heap.objs.size f cd::outer
 ex:=[]
 calm:=true
 fn:=λ_=>true
 pn:=[]
 xe:=λe s'=>wpAny (model P w) (A.deeper (envOfC qual scope s.heap.objs.size f cd)) (leaving (envOfC qual scope s.heap.objs.size f cd) e) (λ_ s''=>CX outer H s E e s'') (λe' s''=>CX outer H s E e' s'') s'
theorem qI {sc:Scope} (h:sc.names.lookup x=some .cell):∃ c,(cellsFrom n sc.names []).lookup x=some c:=by
 have q:=PySem.W.cellsFrom_some sc.names n [] (.inl h)
 exact Option.isSome_iff_exists.mp q
variable {N:List Str} {qual:Str} {scope:Scope}
theorem we {cd:Value} {s1:Shared} {E:XK} {vs:List V}
  (S:FnScope N ps scope) (hd:A.handled=none) (e0:Env0 P w K mg base A outer s H) (hl:vs.length=ps.length) (r:Vals vs us)
  (x:InCallC s s.heap.objs.size (bindL (envOfC qual scope s.heap.objs.size f cd).kindOf (ps.zip us) λ_=>none) (cellsFrom (s.heap.objs.size+1) scope.names []) (bindC (envOfC qual scope s.heap.objs.size f cd).kindOf (ps.zip us) λ_=>none) s1) :
  Inv (lG CX P w K mg base N qual scope f cd A outer s H E) [] (eP N vs) H s1:=by
 have hpl:ps.length≤N.length:=by have:=congrArg List.length S.pre;rw [List.length_take] at this;omega
 obtain ⟨h1,tk,rfl,hk⟩:=x.done
 have noA:∀ b:Addr,b ∉ (lG CX P w K mg base N qual scope f cd A outer s H E).ex:=λb z=>absurd (show b ∈ ([]:List Addr) from z) (by simp)
 refine ⟨⟨e0.mod,S.kind,rfl,rfl,Nat.le_refl _,λy z c h1 h2=>?_,λy hy=>?_,λy c _ h=>?_,λ_=>hd,Around.frames_deeper e0.frames,.inr ⟨rfl,rfl⟩,λb z=>absurd z (noA b),e0.bs,e0.bsz,λb _ _=>noA b,λb z=>absurd z (noA b),e0.funs,e0.frf⟩,
  rfl,e0.bare,Un.kept hk,⟨_,x.toInCall.ns,λi y v h1 h2 h3=>?_⟩,λy c h=>⟨_,x.cell y c h⟩,e0.hok.fresh (Nat.le_refl _),λy c h=>?_,λp hp=>absurd (show p ∈ ([]:List (Addr × Obj)) from hp) (by simp),e0.hok.kept hk,?_⟩
 ·exact name_of_addr x.apart (PySem.mem_of_lookup h1) (PySem.mem_of_lookup h2)
 ·have hy:scope.names.lookup y=some .cell\/scope.names.lookup y=some .free:=hy
  rcases hy with hy | hy
  ·exact qI hy
  ·exact absurd rfl (S.nofree _ (PySem.mem_of_lookup hy))
 ·exact Nat.le_of_lt (x.above y c (PySem.mem_of_lookup h))
 ·have hi:i < vs.length:=by
   unfold eP at h2
   by_cases hi:i < vs.length
   ·exact hi
   ·rw [List.getElem?_append_right (by simpa using hi)] at h2
    rw [List.getElem?_replicate] at h2
    split at h2 <;> cases h2
  have ha:vs[i]?=some v:=by
   unfold eP at h2
   rw [List.getElem?_append_left (by simpa using hi),List.getElem?_map] at h2
   cases e:vs[i]? with
   | none=>rw [e] at h2;cases h2
   | some a=>rw [e] at h2;cases h2;rfl
  obtain ⟨u,hu,rv⟩:=r.get ha
  have hp:ps[i]?=some y:=by
   rw [← S.pre,List.getElem?_take_of_lt (by omega)];exact h1
  have ndP:ps.Nodup:=by rw [← S.pre];exact S.nd.sublist (List.take_sublist _ _)
  refine ⟨u,rv,?_⟩
  rcases S.par y (List.mem_of_getElem? hp) with k | k
  ·exact .inl ⟨k,ow ndP hp hu k⟩
  ·obtain ⟨c,e⟩:=qI (n:=s.heap.objs.size+1) k
   refine .inr ⟨.inl k,c,e,?_⟩
   have q:=x.cell y c e
   rw [oq ndP hp hu (by show scope.names.lookup y≠_;rw [k];decide)] at q
   exact q
 ·exact e0.hok.fresh (Nat.le_of_lt (x.above y c (PySem.mem_of_lookup h)))
 ·unfold eP
  show _=N.length
  rw [List.length_append,List.length_map,List.length_replicate]
  omega
theorem xW {name:Str} {params:Arguments} {body:List Stmt} {dV kV doc pm cdv ct oc:Value} {an od:Option Addr} {osl:Array (Option Value)} (lk:K.lookup f=some ⟨oc,od,.func (PySem.W.fnOf name qual params body scope dV kV doc pm an cdv ct),osl⟩) (hcd:PySem.W.codeIn K cdv qual=true) (S:FnScope N ps scope)
  (len:∀ vs H Q E,sp vs H Q E->vs.length=ps.length)
  (hbody:∀ (A:Around) (outer:List Env) (s:Shared) (H:Hp) (vs:List V) (Q:VK) (E:XK),Room k (A.deeper (envOfC qual scope s.heap.objs.size f cdv))->sp vs H Q E ->
   ∃ t,PSs (lG CX P w K mg base N qual scope f cdv A outer s H E) body t/\t { nx:=λ_ H'=>Q .non H',rt:=Q } (eP N vs) H) :
  FnOk P w K mg base CX (k+1) f (PySem.W.fnOf name qual params body scope dV kV doc pm an cdv ct) ps sp:=by
 refine ⟨len,λA outer s H args us vs Q E hr e0 hb r hsp=>?_⟩
 have hl:=len _ _ _ _ hsp
 have KX:K.In s.heap:=e0.mod.kin.keeps λb o e=>(e0.bs b o e).1
 have lim:s.heap.NoLimit:=e0.mod.nolimit.keeps λb o e=>(e0.bs b o e).1
 have hkind:∀ y ∈ ps.zip us,scope.names.lookup y.1=some .local\/(scope.names.lookup y.1=some .cell/\((cellsFrom (s.heap.objs.size+1) scope.names []).lookup y.1).isSome=true):=λ⟨n,v⟩ hy=>by
  rcases S.par n (List.of_mem_zip hy).1 with q | q
  ·exact .inl q
  ·exact .inr ⟨q,PySem.W.cellsFrom_some _ _ _ (.inl q)⟩
 refine codeAny_call_function hr.depth (KX _ _ lk) rfl S.co S.gen rfl (PySem.W.codeRec_of KX hcd) (hb _ _ _ _ ?_)
 refine wpAny_newFunctionEnv_cells S.kind hkind λenv he s1 x=>?_
 subst he
 refine ⟨lim.keeps x.toInCall.keep,codeAny_func ?_⟩
 obtain ⟨t,ht,hq⟩:=hbody A outer s H vs Q E (hr.deeper _) hsp
 have I:Inv (lG CX P w K mg base N qual scope f cdv A outer s H E) [] (eP N vs) H s1:=we S hr.hd e0 hl r x
 refine wpAny_mono (ht [] s1 (eP N vs) H _ I hq) (λfl s' hs=>?_) λe s' hs=>hs
 have fin:∀ {σ':St} {H':Hp} {v:V} {u:Value},Inv (lG CX P w K mg base N qual scope f cdv A outer s H E) [] σ' H' s'->RelV v u->Q v H'->CE outer P w H s Q u s' :=
  λ{σ' H' v u} J rv q=>⟨v,H',J.os,J.bare,J.base,J.hok,rv,q⟩
 cases fl with
 | ret u =>
  obtain ⟨v,σ',H',J,rv,q⟩:=hs
  exact fin J rv q
 | next =>
  obtain ⟨σ',H',J,q⟩:=hs
  exact fin (v:=V.non) (u:=Value.none) J rfl q
 | brk =>
  obtain ⟨_,_,_,q⟩:=hs
  exact False.elim q
 | cont =>
  obtain ⟨_,_,_,q⟩:=hs
  exact False.elim q
section
variable {X:Cx} {x:Str} {p pos:Pos} {e:Expr} {es:List Expr} {t:TA} {id T:String} {r:List V->Hp->VK->Prop}
def tCB (r:List V->Hp->VK->Prop) (t:TA):TE:=λσ H Q=>t σ H λvs H1=>r vs H1 Q
theorem aO (hc:iO X (.builtin id) r) (hg:Gl X x) (hm:X.mg x=none) (hv:bootBuiltins x=some (.builtin id)) (ha:PA X (e::es) t) (hn:x≠"__name__":=by decide) (hdb:(x == ("__debug__":Str))=false:=by decide)
  (he:starEach (e::es) X.env=(false,eval e X.env)::starEach es X.env:=by rfl) (hpl:(backTo pos (starEach es X.env)).any (·.1)=false:=by rfl):PE X (.Call (.Name x p) (e::es) [] pos) (tCB r t):=by
 intro pins s σ H Q I h
 refine wpAny_Call_Name_kw (kK I hg hm hv ?_ hn hdb)
 exact PyProof.Rows.callWith_builtin1 (thn (ha pos pins s σ H _ I h) λus s1 ⟨vs,H1,I1,r1,q1⟩=>hc pins s1 σ H1 vs us Q I1 r1 q1) he hpl
theorem cv (hc:iO X (.type T) r) (hg:Gl X x) (hm:X.mg x=none) (hv:bootBuiltins x=some (.type T)) (ha:PA X (e::es) t) (hn:x≠"__name__":=by decide) (hdb:(x == ("__debug__":Str))=false:=by decide)
  (he:starEach (e::es) X.env=(false,eval e X.env)::starEach es X.env:=by rfl) (hpl:(backTo pos (starEach es X.env)).any (·.1)=false:=by rfl):PE X (.Call (.Name x p) (e::es) [] pos) (tCB r t):=by
 intro pins s σ H Q I h
 refine wpAny_Call_Name_kw (kK I hg hm hv ?_ hn hdb)
 exact PyProof.Rows.callWith_type1 (thn (ha pos pins s σ H _ I h) λus s1 ⟨vs,H1,I1,r1,q1⟩=>hc pins s1 σ H1 vs us Q I1 r1 q1) he hpl
end
end L2
namespace HT
open PySem PyProof.Rows
section
open PySem.SeqAt
open PySem.AutoSeq1 (wpAny_loadPart')
open PySem.MeetsSeq PySem.MeetsSeq2 PySem.MeetsSeq3
end
section
variable {prog:Program} {w:World} {A:Around} {E:Value->Shared->Prop} {s:Shared}
variable {t:Addr}
theorem cat_tup {b:Addr} {vs ws:List Value} {Q:Value->Shared->Prop} (ht:IsTup s.heap t vs.toArray) (hb:IsTup s.heap b ws.toArray) (hv:vs≠[])
  (h1:ws=[]->Q (.ref t) s) (h2:ws≠[]->Q (.ref s.heap.objs.size) { s with heap:=s.heap.push { cls:=.type "tuple",data:=.seq (vs++ws).toArray } })
  (hsz:vs.length+ws.length≤sizeLine):wpAny (model prog w) A (binaryOp .Add (.ref t) (.ref b)) Q E s:=by
 obtain ⟨⟨cls,dd,data,sl⟩,ho,hc,n,hd⟩:=id ht
 obtain ⟨⟨cls2,dd2,data2,sl2⟩,ho2,hc2,n2,hd2⟩:=id hb
 simp only at hc hd hc2 hd2
 subst hc hd hc2 hd2
 have e:vs.toArray++ws.toArray=(vs++ws).toArray:=by simp
 by_cases hw:ws=[]
 ·exact concat_meets ⟨_,ho,rfl⟩ ⟨_,ho2,rfl⟩ noFill_tuple_add seq_tuple_add PySem.F.slot_tuple_add PySem.F.entry_tuple_add (PySem.F.args_tuple_add_2 _ _)
   (tuple_addW1 t b vs.toArray ws.toArray n n2 dd dd2 sl sl2 (by simpa using hv) (by simp [hw])) ⟨ho,ho2,h1 hw⟩
 ·refine concat_meets ⟨_,ho,rfl⟩ ⟨_,ho2,rfl⟩ noFill_tuple_add seq_tuple_add PySem.F.slot_tuple_add PySem.F.entry_tuple_add (PySem.F.args_tuple_add_2 _ _)
   (tuple_addW2 t b vs.toArray ws.toArray n n2 dd dd2 sl sl2 (by simpa using hv) (by simpa using hw) (by rw [List.size_toArray,List.size_toArray];exact hsz)) ⟨ho,ho2,?_⟩
  rw [e]
  exact h2 hw
def sIx (n d:Nat):Option Int->Nat
 | none=>d
 | some v=>if v < 0 then (v+(n:Int)).toNat else min v.toNat n
theorem sIx_none (n d:Nat):sIx n d none=d:=rfl
theorem sIx_nat (n d k:Nat):sIx n d (some (k:Int))=min k n:=by
 show (if (k:Int) < 0 then ((k:Int)+(n:Int)).toNat else min (k:Int).toNat n)=min k n
 rw [if_neg (by omega),Int.toNat_natCast]
theorem CF (n d:Nat) (hd:d≤n) (o:Option Int):sIx n d o≤n:=by
 cases o with
 | none=>exact hd
 | some v =>
  show (if v < 0 then (v+(n:Int)).toNat else min v.toNat n)≤n
  by_cases hv:v < 0
  ·rw [if_pos hv];omega
  ·rw [if_neg hv];exact Nat.min_le_right _ _
theorem uL (v:Int) (n d:Nat):(if v < 0 then max (v+(n:Int)) 0 else min v (n:Int))=((sIx n d (some v):Nat):Int):=by
 show (if v < 0 then max (v+(n:Int)) 0 else min v (n:Int))=(((if v < 0 then (v+(n:Int)).toNat else min v.toNat n):Nat):Int)
 by_cases hv:v < 0
 ·simp only [if_pos hv];omega
 ·simp only [if_neg hv];omega
theorem sE (lo hi:Option Int) (n:Nat):Builtin.Slice.sliceAdjust lo hi 1 (n:Int)=(((sIx n 0 lo:Nat):Int),((sIx n n hi:Nat):Int)):=by
 have h1:¬ ((1:Int) < 0):=by omega
 unfold Builtin.Slice.sliceAdjust
 simp only [h1,if_false]
 refine Prod.ext ?_ ?_
 ·cases lo with
  | none=>rfl
  | some v=>exact uL v n 0
 ·cases hi with
  | none=>rfl
  | some v=>exact uL v n n
theorem tQ (i j:Nat):Builtin.Slice.slicePlaces (i:Int) (j:Int) 1=j - i:=by
 unfold Builtin.Slice.slicePlaces
 have h1:(1:Int) > 0:=by omega
 simp only [h1,if_true,Int.ediv_one]
 split <;> omega
theorem nE {v:Value} {o:Option Int} {Q:Option Int->Shared->Prop} (p:IsPart v o) (h:Q o s):wpAny (model prog w) A (Builtin.Slice.slicePartIndex v) Q E s:=by
 cases p with
 | none=>exact slicePart_none h
 | int i t=>exact slicePart_int h
variable {sl:Addr} {vl vu:Value} {lo hi:Option Int}
theorem sliceApplied_gen {n:Nat} {Q:Int × Int × Nat->Shared->Prop} (hs:s.heap.IsSliceOf sl vl vu .none) (pl:IsPart vl lo) (pu:IsPart vu hi)
  (h:Q (((sIx n 0 lo:Nat):Int),1,sIx n n hi - sIx n 0 lo) s):wpAny (model prog w) A (Builtin.Slice.sliceApplied (.ref sl) (pure (n:Int))) Q E s:=by
 obtain ⟨os,hos,hcs,hds⟩:=id hs
 unfold Builtin.Slice.sliceApplied Builtin.Slice.sliceFields
 refine wpAny_bind (wpAny_bind (wpAny_field hos hds (x:=vl) rfl (wpAny_bind (wpAny_field hos hds (x:=vu) rfl (wpAny_bind (wpAny_field hos hds (x:=.none) rfl (wpAny_pure ?_)))))))
 refine wpAny_bind (slicePart_none ?_)
 show wpAny _ _ (if ((1:Int) == 0)=true then _ else _) _ _ s
 rw [if_neg (by decide)]
 refine wpAny_bind (nE pl (wpAny_bind (nE pu (wpAny_bind (wpAny_pure ?_)))))
 show wpAny _ _ (match Builtin.Slice.sliceAdjust lo hi 1 (n:Int) with | (lo,hi)=>pure (lo,(1:Int),Builtin.Slice.slicePlaces lo hi 1)) _ _ s
 rw [sE lo hi n]
 show wpAny _ _ (pure (((sIx n 0 lo:Nat):Int),(1:Int),Builtin.Slice.slicePlaces ((sIx n 0 lo:Nat):Int) ((sIx n n hi:Nat):Int) 1)) _ _ s
 rw [tQ]
 exact wpAny_pure h
theorem yQ (xs:Array Value) (i k:Nat):((List.range k).filterMap λ(m:Nat)=>xs[((i:Int)+(m:Int) * 1).toNat]?).toArray=((xs.toList.drop i).take k).toArray:=by
 have e:(λ(m:Nat)=>xs[((i:Int)+(m:Int) * 1).toNat]?)=λm=>xs[i+m]?:=by
  funext m
  have:((i:Int)+(m:Int) * 1).toNat=i+m:=by omega
  rw [this]
 rw [e]
 have:=pick_run xs i k
 rw [List.filterMap_map] at this
 have e2:((λx=>xs[x]?) ∘ λx=>i+x)=λm=>xs[i+m]?:=rfl
 rw [e2] at this
 rw [this]
theorem getItem_tuple_cut {items:Array Value} {Q:Value->Shared->Prop} (ht:IsTup s.heap t items) (hs:s.heap.IsSliceOf sl vl vu .none) (pl:IsPart vl lo) (pu:IsPart vu hi)
  (hw:¬ (sIx items.size 0 lo=0/\sIx items.size items.size hi=items.size))
  (h:Q (.ref s.heap.objs.size) { s with heap:=s.heap.push { cls:=.type "tuple",data:=.seq ((items.toList.drop (sIx items.size 0 lo)).take (sIx items.size items.size hi - sIx items.size 0 lo)).toArray } })
  (hsz:items.size≤sizeLine):wpAny (model prog w) A (getItem (.ref t) (.ref sl)) Q E s:=by
 have htake:sizeOk (.seq ((items.toList.drop (sIx items.size 0 lo)).take (sIx items.size items.size hi - sIx items.size 0 lo)).toArray):=by
  show ((items.toList.drop (sIx items.size 0 lo)).take (sIx items.size items.size hi - sIx items.size 0 lo)).toArray.size≤sizeLine
  rw [List.size_toArray,List.length_take,List.length_drop,Array.length_toList]
  omega
 have hj:sIx items.size items.size hi≤items.size:=CF _ _ (Nat.le_refl _) hi
 obtain ⟨os,hos,hcs,hds⟩:=id hs
 have hTs:s.TypeIs (.ref sl) "slice":=⟨os,hos,hcs⟩
 unfold getItem
 try with_reducible refine wpAny_holding ?_
 first | refine wpAny_bind (wpAny_pure ?_) | skip
 refine wpAny_bind (wpAny_sequenceKey ht.typeIs (by decide) ?_)
 refine wpAny_bind (wpAny_callSpecial?_slot (name:=Str.ofString "__getitem__") ht.typeIs PyProof.Rows.slot_tuple_getitem
  (wpAny_call_entry PyProof.Rows.slot_tuple_getitem ht.typeIs entry_tuple_getitem ?_ (args_tuple_getitem _ _)))
 show wpAny _ _ (Builtin.Tuple.tupleItemsOf (.ref t) >>= _) _ _ s
 refine wpAny_bind (tupleItemsOf_ ht ?_)
 refine wpAny_bind (wpAny_typeOf hTs ?_)
 rw [if_pos (by decide)]
 refine wpAny_bind (sliceApplied_gen hs pl pu ?_)
 have hno:¬ ((((sIx items.size 0 lo:Nat):Int) == 0 && (1:Int) == 1 && (sIx items.size items.size hi - sIx items.size 0 lo) == items.size)=true):=by
  intro q
  rw [Bool.and_eq_true,Bool.and_eq_true] at q
  have q1:((sIx items.size 0 lo:Nat):Int)=0:=eq_of_beq q.1.1
  have q2:sIx items.size items.size hi - sIx items.size 0 lo=items.size:=eq_of_beq q.2
  exact hw ⟨by omega,by omega⟩
 show wpAny _ _ (if (((sIx items.size 0 lo:Nat):Int) == 0 && (1:Int) == 1 && (sIx items.size items.size hi - sIx items.size 0 lo) == items.size)=true then _ else _) _ _ s
 rw [if_neg hno,yQ]
 first
  | exact wpAny_bind (m:=Builtin.Tuple.tupleExact _) (wpAny_newObj_type (wpAny_pure ⟨_,rfl,wpAny_pure h⟩) htake)
  | exact wpAny_bind (m:=Builtin.Tuple.tupleExact _) (wpAny_newObj_type (wpAny_bind (wpAny_pure (wpAny_pure ⟨_,rfl,wpAny_pure h⟩))) htake)
  | exact wpAny_bind (wpAny_bind (m:=Builtin.Tuple.tupleExact _) (wpAny_newObj_type (wpAny_pure (wpAny_pure ⟨_,rfl,wpAny_pure h⟩)) htake))
  | exact wpAny_bind (wpAny_bind (m:=Builtin.Tuple.tupleExact _) (wpAny_newObj_type (wpAny_pure ⟨_,rfl,wpAny_pure h⟩) htake))
end
end HT
namespace L2
open PySem PySem.Spec PyProof.Rows
abbrev TO:=St->Hp->(Option Int->Hp->Prop)->Prop
def PO (X:Cx) (e:Option Expr) (t:TO):Prop :=
 ∀ (pins:List (Addr × Obj)) (s:Shared) (σ:St) (H:Hp) (Q:Option Int->Hp->Prop),Inv X pins σ H s->t σ H Q ->
  wpAny (model X.prog X.w) X.A (evalPart e X.env) (λu s'=>∃ o H',Inv X pins σ H' s'/\IsPart u o/\Q o H') X.xe s
def lY:TO:=λ_ H Q=>Q none H
def jI (t:TE):TO:=λσ H Q=>t σ H λx H1=>∃ i,x=.int i/\Q (some i) H1
section
variable {X:Cx} {e:Expr} {te:TE} {lo hi:Option Expr} {tl th:TO} {pos p2:Pos}
theorem vm:PO X none lY:=by
 intro pins s σ H Q I h
 rw [evalPart_none]
 exact wpAny_pure ⟨none,H,I,.none,h⟩
theorem gC (h:PE X e te):PO X (some e) (jI te):=by
 intro pins s σ H Q I hw
 rw [evalPart_some]
 refine thn (h pins s σ H _ I hw) λu s1 ⟨x,H1,I1,r1,q1⟩=>?_
 obtain ⟨i,rfl,q⟩:=q1
 obtain ⟨t,rfl⟩:=r1
 exact ⟨some i,H1,I1,.int i t,q⟩
def SlR (X:Cx) (r:V->Option Int->Option Int->Hp->VK->Prop):Prop :=
 ∀ (pins:List (Addr × Obj)) (s:Shared) (σ:St) (H:Hp) (x:V) (v vl vu:Value) (lo hi:Option Int) (sl:Addr) (Q:VK),Inv X pins σ H s->RelV x v->s.heap.IsSliceOf sl vl vu .none->IsPart vl lo->IsPart vu hi->r x lo hi H Q ->
  ∃ T id,typeLookup (.type T) "__getitem__"=pure (some (.builtin id))/\s.TypeIs v T/\wpAny (model X.prog X.w) X.A (getItem v (.ref sl)) (EP X pins σ Q) X.xe s
theorem SlR.or {r r':V->Option Int->Option Int->Hp->VK->Prop} (h:SlR X r) (h':SlR X r'):SlR X (λx lo hi H Q=>r x lo hi H Q\/r' x lo hi H Q):=by
 intro pins s σ H x v vl vu lo hi sl Q I rx hs pl pu q
 rcases q with q | q
 ·exact h pins s σ H x v vl vu lo hi sl Q I rx hs pl pu q
 ·exact h' pins s σ H x v vl vu lo hi sl Q I rx hs pl pu q
def tSl (r:V->Option Int->Option Int->Hp->VK->Prop) (te:TE) (tl th:TO):TE:=λσ H Q=>te σ H λx H1=>tl σ H1 λl H2=>th σ H2 λu H3=>r x l u H3 Q
theorem jc {r:V->Option Int->Option Int->Hp->VK->Prop} (hr:SlR X r) (he:PE X e te) (hl:PO X lo tl) (hu:PO X hi th):PE X (.Subscript e (.Slice lo hi none p2) pos) (tSl r te tl th):=by
 intro pins s σ H Q I h
 refine Subscript_ (thn (he pins s σ H _ I h) λv s1 ⟨x,H1,I1,r1,q1⟩=>?_)
 refine wpAny_Slice (thn (hl pins s1 σ H1 _ I1 q1) λvl s2 ⟨l,H2,I2,pl,q2⟩=>thn (hu pins s2 σ H2 _ I2 q2) λvu s3 ⟨u,H3,I3,pu,q3⟩=>?_)
 rw [evalPart_none]
 refine wpAny_pure ?_
 have I4:Inv X pins σ H3 { s3 with heap:=s3.heap.push { cls:=.type "slice",data:=.fields #[vl,vu,.none] } }:=I3.kept (t':=s3.toks) λb ob q=>Heap.get?_push_of_some _ q
 obtain ⟨T,id,hT,ht,hg⟩:=hr pins { s3 with heap:=s3.heap.push { cls:=.type "slice",data:=.fields #[vl,vu,.none] } } σ H3 x v vl vu l u s3.heap.objs.size Q I4 r1 (Heap.IsSliceOf.new ..) pl pu q3
 show wpAny (model X.prog X.w) X.A (subscriptTail e (.Slice lo hi none p2) v (.ref s3.heap.objs.size)) (EP X pins σ Q) X.xe { s3 with heap:=s3.heap.push { cls:=.type "slice",data:=.fields #[vl,vu,.none] } }
 exact tail_any (ops:=[.ref s3.heap.objs.size,v]) ht hT hg (by with_unfolding_all rfl)
def j7 (xs:List V) (lo hi:Option Int):List V:=(xs.drop (HT.sIx xs.length 0 lo)).take (HT.sIx xs.length xs.length hi - HT.sIx xs.length 0 lo)
theorem kT (xs:List V) (lo hi:Option Int):(j7 xs lo hi).length≤xs.length:=by
 unfold j7
 rw [List.length_take,List.length_drop]
 omega
def Cp (K:PySem.W.Frag):V->Option Int->Option Int->Hp->VK->Prop:=λx lo hi H Q=>∃ a xs,x=.ref a/\SqT K H a xs /\
 ¬ (HT.sIx xs.length 0 lo=0/\HT.sIx xs.length xs.length hi=xs.length)/\∀ p,H p=none->Q (.ref p) (upd H p (.tup (j7 xs lo hi)))
theorem qm:SlR X (Cp X.K):=by
 intro pins s σ H x v vl vu lo hi sl Q I rx hs pl pu h
 obtain ⟨a,xs,rfl,hx,hw,q⟩:=h
 cases rx
 obtain ⟨its,r,ht,hz⟩:=I.tuple hx
 have hlen:its.toArray.size=xs.length:=by rw [List.size_toArray];exact r.length.symm
 refine ⟨"tuple",_,PyProof.Rows.slot_tuple_getitem.lookup,ht.typeIs,?_⟩
 refine HT.getItem_tuple_cut ht hs pl pu (by rw [hlen];exact hw) ?_ (by rw [hlen];exact hz)
 rw [hlen]
 refine ⟨.ref s.heap.objs.size,_,I.laid (t':=s.toks) (o:=.tup (j7 xs lo hi)) (λb ob q=>Heap.get?_push_of_some _ q) (Nat.le_refl _) ?_,rfl,q _ (I.hok.fresh (Nat.le_refl _))⟩
 exact ⟨Nat.le_trans (kT xs lo hi) hz,_,(r.drop (HT.sIx xs.length 0 lo)).take (HT.sIx xs.length xs.length hi - HT.sIx xs.length 0 lo),IsTup.new _ _⟩
def By (K:PySem.W.Frag):R2:=λx y H Q=>∃ a b xs ys,x=.ref a/\y=.ref b/\SqT K H a xs/\SqT K H b ys/\xs≠[]/\xs.length+ys.length≤sizeLine /\
 (ys=[]->Q (.ref a) H)/\(ys≠[]->∀ p,H p=none->Q (.ref p) (upd H p (.tup (xs++ys))))
theorem Vals.nil_iff {xs:List V} {us:List Value} (r:Vals xs us):us=[]↔xs=[]:=by
 cases r with
 | nil=>simp
 | cons _ _=>simp
theorem AF:OpR X (binaryOp .Add) (By X.K):=by
 intro pins s σ H x y v u Q I rx ry h
 obtain ⟨a,b,xs,ys,rfl,rfl,ha,hb,hx,hz,q1,q2⟩:=h
 cases rx
 cases ry
 obtain ⟨its,r1,p1,_⟩:=I.tuple ha
 obtain ⟨its2,r2,p2,_⟩:=I.tuple hb
 refine HT.cat_tup p1 p2 (λz=>hx (r1.nil_iff.mp z)) (λz=>⟨.ref a,H,I,rfl,q1 (r2.nil_iff.mp z)⟩) (λz=>?_) (by rw [← r1.length,← r2.length];exact hz)
 refine ⟨.ref s.heap.objs.size,_,I.laid (t':=s.toks) (o:=.tup (xs++ys)) (λb ob q=>Heap.get?_push_of_some _ q) (Nat.le_refl _) ?_,rfl,q2 (λw=>z (r2.nil_iff.mpr w)) _ (I.hok.fresh (Nat.le_refl _))⟩
 exact ⟨by rw [List.length_append];exact hz,_,r1.append r2,IsTup.new _ _⟩
end
def ixN (n:Nat) (i:Int):Option Nat:=if 0≤i then (if i < n then some i.toNat else none) else if -(n:Int)≤i then some (i+n).toNat else none
def atI {α:Type} (xs:List α) (i:Int):Option α:=(ixN xs.length i).bind λj=>xs[j]?
variable {i:Int} {j:Nat}
theorem pD {n:Nat} (h:ixN n i=some j):seqIndex? i n=some j/\j < n/\-(n:Int)≤i/\i < n:=by
 unfold ixN at h
 by_cases h0:0≤i
 ·rw [if_pos h0] at h
  by_cases h1:i < n
  ·rw [if_pos h1] at h
   have e:i.toNat=j:=Option.some.inj h
   exact ⟨by rw [seqIndex_of h0 h1,e],by omega,by omega,h1⟩
  ·rw [if_neg h1] at h;cases h
 ·rw [if_neg h0] at h
  by_cases h1:-(n:Int)≤i
  ·rw [if_pos h1] at h
   have e:(i+n).toNat=j:=Option.some.inj h
   exact ⟨by rw [seqIndex_neg (by omega) h1,e],by omega,h1,by omega⟩
  ·rw [if_neg h1] at h;cases h
theorem uH {α:Type} {xs:List α} {v:α} (h:atI xs i=some v):∃ j,seqIndex? i xs.length=some j/\xs[j]?=some v/\j < xs.length/\-(xs.length:Int)≤i/\i < xs.length:=by
 unfold atI at h
 cases e:ixN xs.length i with
 | none=>rw [e] at h;cases h
 | some j =>
  rw [e] at h
  obtain ⟨h1,h2,h3,h4⟩:=pD e
  exact ⟨j,h1,h,h2,h3,h4⟩
theorem gu {α:Type} {xs:List α} {v:α} (h:xs[j]?=some v):atI xs (j:Int)=some v:=by
 have hj:j < xs.length:=(List.getElem?_eq_some_iff.mp h).1
 have e:ixN xs.length (j:Int)=some j:=by
  unfold ixN
  rw [if_pos (by omega),if_pos (by omega)];simp
 unfold atI;rw [e];exact h
theorem xA {α:Type} (xs:List α) (v:α):atI (xs++[v]) (-1)=some v:=by
 have hl:(xs++[v]).length=xs.length+1:=by simp
 have e:ixN (xs++[v]).length (-1)=some xs.length:=by
  unfold ixN
  rw [hl,if_neg (by decide),if_pos (by omega)]
  congr 1
  omega
 unfold atI
 rw [e]
 show (xs++[v])[xs.length]?=some v
 simp
def z0 (b:Expr):Prop:=∀ o i,subscripted b false o i=operate [o,i] (getItem o i)
def IxR (X:Cx) (r:R2):Prop :=
 ∀ (value slice:Expr) (pins:List (Addr × Obj)) (s:Shared) (σ:St) (H:Hp) (x y:V) (v u:Value) (Q:VK),Inv X pins σ H s->RelV x v->RelV y u->r x y H Q ->
  subscripted slice false v u=operate [v,u] (getItem v u)->wpAny (model X.prog X.w) X.A (subscriptTail value slice v u) (EP X pins σ Q) X.xe s
def MtR (X:Cx) (id:String) (r:V->List V->Hp->VK->Prop):Prop :=
 ∀ (pins:List (Addr × Obj)) (s:Shared) (σ:St) (H:Hp) (x:V) (xs:List V) (v:Value) (us:List Value) (Q:VK),Inv X pins σ H s->RelV x v->Vals xs us->r x xs H Q ->
  wpAny (model X.prog X.w) X.A (call (.builtin id) (v::us)) (EP X pins σ Q) X.xe s
section
variable {X:Cx} {a b:Expr} {ta tb:TE} {pos:Pos}
theorem IxR.or {r r':R2} (h:IxR X r) (h':IxR X r'):IxR X (λx y H Q=>r x y H Q\/r' x y H Q):=by
 intro value slice pins s σ H x y v u Q I rx ry q hs
 rcases q with q | q
 ·exact h value slice pins s σ H x y v u Q I rx ry q hs
 ·exact h' value slice pins s σ H x y v u Q I rx ry q hs
theorem aN {r:R2} (hr:IxR X r) (ha:PE X a ta) (hb:PE X b tb) (hs:z0 b):PE X (.Subscript a b pos) (tOp r ta tb):=by
 intro pins s σ H Q I h
 exact Subscript_ (BV ha hb I h λv u s2 x y H2 I2 rx ry q=>hr a b pins s2 σ H2 x y v u Q I2 rx ry q (hs _ _))
def yX (K:PySem.W.Frag):R2:=λx y H Q=>∃ p xs i v,x=.ref p/\y=.int i/\SqL K H p xs/\atI xs i=some v/\Q v H
def rQ (K:PySem.W.Frag):R2:=λx y H Q=>∃ p xs i v,x=.ref p/\y=.int i/\SqT K H p xs/\atI xs i=some v/\Q v H
theorem ix_list:IxR X (yX X.K):=by
 intro value slice pins s σ H x y v u Q I rx ry h hs
 obtain ⟨p,xs,i,z,rfl,rfl,hq,he,q⟩:=h
 cases rx
 obtain ⟨t,rfl⟩:=ry
 obtain ⟨its,r,pl,hz⟩:=I.list hq
 obtain ⟨j,h1,h2,h3,h4,h5⟩:=uH he
 obtain ⟨w,ew,rw'⟩:=r.get h2
 have hl:=r.length
 have hn:=jS
 have fin:EP X pins σ Q w s:=⟨z,H,I,rw',q⟩
 by_cases h0:0≤i
 ·have hj:i.toNat=j:=by
   rw [seqIndex_of h0 h5] at h1
   exact Option.some.inj h1
  exact item_listR pl.isList h0 (by omega) (by rw [hj];simpa using ew) fin hs
 ·have hj:(i+(its.toArray.size:Int)).toNat=j:=by
   rw [seqIndex_neg (by omega) h4] at h1
   rw [List.size_toArray,← hl]
   exact Option.some.inj h1
  exact subscriptTail_builtinR (x:=w) pl.isList.typeIs slot_list_getitem.lookup
   (wpAny_getItem_list_neg (Q:=λr s'=>r=w/\EP X pins σ Q r s') pl.isList (by omega) (by rw [List.size_toArray] <;> omega) (by omega) (by rw [hj];simpa using ew) ⟨rfl,fin⟩) hs
theorem aI:IxR X (rQ X.K):=by
 intro value slice pins s σ H x y v u Q I rx ry h hs
 obtain ⟨p,xs,i,z,rfl,rfl,hq,he,q⟩:=h
 cases rx
 obtain ⟨t,rfl⟩:=ry
 obtain ⟨its,r,pl,hz⟩:=I.tuple hq
 obtain ⟨j,h1,h2,h3,h4,h5⟩:=uH he
 obtain ⟨w,ew,rw'⟩:=r.get h2
 have hl:=r.length
 have hn:=jS
 have fin:EP X pins σ Q w s:=⟨z,H,I,rw',q⟩
 exact subscriptTail_builtinR (x:=w) pl.typeIs slot_tuple_getitem.lookup
  (getItem_tuple (j:=j) (Q:=λr s'=>r=w/\EP X pins σ Q r s') pl (by omega) (by omega) (by rw [List.size_toArray,← hl];exact h1) (by simpa using ew) ⟨rfl,fin⟩) hs
theorem tu (its:List Value) (n j:Nat) (u:Value):Obj.mapSeq (·.setIfInBounds j u) { cls:=.type "list",data:=.seq its.toArray n }={ cls:=.type "list",data:=.seq (its.set j u).toArray n }:=by
 simp [Obj.mapSeq]
variable {pins:List (Addr × Obj)} {σ:St} {H:Hp} {s:Shared} {p:Addr} {xs:List V}
theorem Inv.lst (I:Inv X pins σ H s) (h:H p=some (.lst xs)) :
  ∃ (its:List Value) (n:Nat),Vals xs its/\s.heap.get? p=some { cls:=.type "list",data:=.seq its.toArray n }/\xs.length≤sizeLine:=by
 obtain ⟨z,its,n,r,e⟩:=I.hok p _ h
 exact ⟨its,n,r,e,z⟩
theorem Inv.lstUpd {ys:List V} {its its':List Value} {n n':Nat} {f:Obj->Obj} (I:Inv X pins σ H s) (h:H p=some (.lst xs))
  (ho:s.heap.get? p=some { cls:=.type "list",data:=.seq its.toArray n }) (hf:f { cls:=.type "list",data:=.seq its.toArray n }={ cls:=.type "list",data:=.seq its'.toArray n' }) (r:Vals ys its') (hz:ys.length≤sizeLine) (t:Nat) :
  Inv X pins σ (upd H p (.lst ys)) { s with heap:=s.heap.update p f,toks:=t }:=by
 have e:(s.heap.update p f).get? p=some { cls:=.type "list",data:=.seq its'.toArray n' }:=by
  rw [Heap.get?_update_self f ho (by rw [hf] <;> rfl),hf]
 refine I.write (x:=p) (e:=p) (by rw [h];trivial) (.inl rfl) (λb u hb q=>(Heap.get?_update_other _ _ (Ne.symm hb)).trans q) ⟨_,e⟩ ?_
 exact ⟨hz,its',n',r,e⟩
def Df:V->V->V->Hp->(Hp->Prop)->Prop:=λo i v H Q=>∃ p xs k j,o=.ref p/\i=.int k/\H p=some (.lst xs)/\ixN xs.length k=some j/\Q (upd H p (.lst (xs.set j v)))
theorem nD:BJ X Df:=by
 intro pins s σ H o i v ov iv u Q I ro ri rv h
 obtain ⟨p,xs,k,j,rfl,rfl,hp,hj,q⟩:=h
 cases ro
 obtain ⟨t,rfl⟩:=ri
 obtain ⟨its,n,r,ho,hz⟩:=I.lst hp
 obtain ⟨h1,h2,h3,h4⟩:=pD hj
 have hl:=r.length
 have hn:=jS
 have I':Inv X pins σ (upd H p (.lst (xs.set j v))) { s with heap:=s.heap.update p (Obj.mapSeq (·.setIfInBounds j u)) } :=
  I.lstUpd hp ho (tu its n j u) (r.set rv j) (by rw [List.length_set];exact hz) s.toks
 by_cases h0:0≤k
 ·have hk:k.toNat=j:=by
   rw [seqIndex_of h0 h4] at h1
   exact Option.some.inj h1
  exact PySem.W.ki_setAt ho h0 (by omega) (by rw [List.size_toArray,← hl];exact h4) (by rw [hk];exact ⟨_,I',q⟩)
 ·have hk:(k+(its.toArray.size:Int)).toNat=j:=by
   rw [seqIndex_neg (by omega) h3] at h1
   rw [List.size_toArray,← hl]
   exact Option.some.inj h1
  exact PySem.W.ki_setBack ho (by omega) (by rw [List.size_toArray,← hl];exact h3) (by omega) (by rw [hk];exact ⟨_,I',q⟩)
theorem qo (lo hi:Option Int) (n:Nat):(sliceBounds lo hi none n).1=((HT.sIx n 0 lo:Nat):Int)/\(sliceBounds lo hi none n).2.1=((HT.sIx n n hi:Nat):Int)/\(sliceBounds lo hi none n).2.2=1:=by
 refine ⟨?_,?_,rfl⟩
 ·cases lo with
  | none=>simp [sliceBounds,HT.sIx]
  | some i =>
   simp only [sliceBounds,HT.sIx,Option.getD_none,show (1:Int) > 0 by decide,if_true]
   by_cases h:i < 0
   ·simp only [h,if_true] <;> omega
   ·simp only [h,if_false] <;> omega
 ·cases hi with
  | none=>simp [sliceBounds,HT.sIx]
  | some i =>
   simp only [sliceBounds,HT.sIx,Option.getD_none,show (1:Int) > 0 by decide,if_true]
   by_cases h:i < 0
   ·simp only [h,if_true] <;> omega
   ·simp only [h,if_false] <;> omega
theorem og (its:List Value) (lo hi:Option Int):slicePick its.toArray lo hi none=((its.drop (HT.sIx its.length 0 lo)).take (HT.sIx its.length its.length hi - HT.sIx its.length 0 lo)).toArray:=by
 obtain ⟨h1,h2,h3⟩:=qo lo hi its.toArray.size
 unfold slicePick
 rw [h1,h2,h3]
 simp only [sliceRange_one,pick_run,List.size_toArray] <;> rfl
def Co (K:PySem.W.Frag):V->Option Int->Option Int->Hp->VK->Prop:=λx lo hi H Q=>∃ a xs,x=.ref a/\SqL K H a xs/\∀ p,H p=none->Q (.ref p) (upd H p (.lst (j7 xs lo hi)))
theorem sl_list:SlR X (Co X.K):=by
 intro pins s σ H x v vl vu lo hi sl Q I rx hs pl pu h
 obtain ⟨a,xs,rfl,hx,q⟩:=h
 cases rx
 obtain ⟨its,r,ht,hz⟩:=I.list hx
 have hlen:=r.length
 refine ⟨"list",_,slot_list_getitem.lookup,ht.isList.typeIs,?_⟩
 refine wpAny_getItem_list_slice ht.isList hs pl pu .none (by simp) ?_ (by rw [List.size_toArray] <;> omega)
 rw [og,← hlen]
 refine ⟨.ref s.heap.objs.size,_,I.laid (t':=s.toks) (o:=.lst (j7 xs lo hi)) (λb ob q=>Heap.get?_push_of_some _ q) (Nat.le_refl _) ?_,rfl,q _ (I.hok.fresh (Nat.le_refl _))⟩
 exact ⟨Nat.le_trans (kT xs lo hi) hz,_,0,(r.drop (HT.sIx xs.length 0 lo)).take (HT.sIx xs.length xs.length hi - HT.sIx xs.length 0 lo),Heap.get?_push_size _ rfl⟩
def jD:V->Bool
 | .non=>true
 | .bl _=>true
 | .int _=>true
 | .str _=>true
 | _=>false
def eqV:V->V->Bool
 | .non,.non=>true
 | .bl a,.bl b=>a == b
 | .bl a,.int b=>(if a then 1 else 0) == b
 | .int a,.bl b=>a == (if b then 1 else 0)
 | .int a,.int b=>a == b
 | .str a,.str b=>a == b
 | _,_=>false
variable {A:Around} {y x:V} {u v:Value}
theorem B0 (ry:RelV y u) (rx:RelV x v) (fy:jD y=true) (fx:jD x=true):SeqAt.EqAt A s u v (eqV y x):=by
 cases y with
 | non =>
  cases ry
  cases x with
  | non=>cases rx;exact SeqAt.EqAt.same _
  | bl b=>cases rx;exact SeqAt.EqAt.none_bool b
  | int b=>obtain ⟨t,rfl⟩:=rx;exact SeqAt.EqAt.none_int b t
  | str b=>obtain ⟨t,rfl⟩:=rx;exact SeqAt.EqAt.none_str b t
  | _=>exact absurd (show false=true from fx) Bool.false_ne_true
 | bl a =>
  cases ry
  cases x with
  | non=>cases rx;exact SeqAt.EqAt.bool_none a
  | bl b=>cases rx;exact SeqAt.EqAt.bool_bool a b
  | int b=>obtain ⟨t,rfl⟩:=rx;exact SeqAt.EqAt.bool_int a b t
  | str b=>obtain ⟨t,rfl⟩:=rx;exact SeqAt.EqAt.bool_str a b t
  | _=>exact absurd (show false=true from fx) Bool.false_ne_true
 | int a =>
  obtain ⟨t',rfl⟩:=ry
  cases x with
  | non=>cases rx;exact SeqAt.EqAt.int_none a t'
  | bl b=>cases rx;exact SeqAt.EqAt.int_bool a t' b
  | int b=>obtain ⟨t,rfl⟩:=rx;exact SeqAt.EqAt.int_int a t' b t
  | str b=>obtain ⟨t,rfl⟩:=rx;exact SeqAt.EqAt.int_str a t' b t
  | _=>exact absurd (show false=true from fx) Bool.false_ne_true
 | str a =>
  obtain ⟨t',rfl⟩:=ry
  cases x with
  | non=>cases rx;exact SeqAt.EqAt.str_none a t'
  | bl b=>cases rx;exact SeqAt.EqAt.str_bool a t' b
  | int b=>obtain ⟨t,rfl⟩:=rx;exact SeqAt.EqAt.str_int a t' b t
  | str b=>obtain ⟨t,rfl⟩:=rx;exact SeqAt.EqAt.str_str a t' b t
  | _=>exact absurd (show false=true from fx) Bool.false_ne_true
 | _=>exact absurd (show false=true from fy) Bool.false_ne_true
def eqU (x:V) (u:Value):Bool:=match u with
 | .none=>eqV .non x
 | .bool b=>eqV (.bl b) x
 | .int i _=>eqV (.int i) x
 | .str z _=>eqV (.str z) x
 | _=>false
theorem xT (r:RelV y u) (f:jD y=true):eqU x u=eqV y x:=by
 cases y with
 | non=>cases r;rfl
 | bl b=>cases r;rfl
 | int i=>obtain ⟨t,rfl⟩:=r;rfl
 | str z=>obtain ⟨t,rfl⟩:=r;rfl
 | _=>exact absurd (show false=true from f) Bool.false_ne_true
theorem j1:∀ {xs:List V} {us:List Value},Vals xs us->xs.all jD=true->us.any (eqU x)=xs.any λy=>eqV y x
 | _,_,.nil,_=>rfl
 | y::xs,u::us,.cons r t,f=>by
  rw [List.all_cons,Bool.and_eq_true] at f
  rw [List.any_cons,List.any_cons,xT r f.1,j1 t f.2]
theorem ja (rx:RelV x v) (fx:jD x=true):∀ {xs:List V} {us:List Value},Vals xs us->xs.all jD=true->∀ u ∈ us,SeqAt.EqAt A s u v (eqU x u)
 | _,_,.nil,_=>λu hu=>by cases hu
 | y::xs,u::us,.cons r t,f=>λu' hu=>by
  rw [List.all_cons,Bool.and_eq_true] at f
  rcases List.mem_cons.mp hu with rfl | hu
  ·rw [xT r f.1];exact B0 r rx f.1 fx
  ·exact ja rx fx t f.2 u' hu
def inV (x:V) (xs:List V):Bool:=xs.any λy=>eqV y x
def rIn (K:PySem.W.Frag) (neg:Bool):R2:=λx y H Q=>∃ p xs,y=.ref p/\(SqL K H p xs\/SqT K H p xs)/\jD x=true/\xs.all jD=true/\Q (.bl (if neg then !inV x xs else inV x xs)) H
theorem cC:OpR X (compareOp .In) (rIn X.K false):=by
 intro pins s σ H x y v u Q I rx ry h
 obtain ⟨p,xs,rfl,hq,fx,fs,q⟩:=h
 cases ry
 rcases hq with hq | hq
 ·obtain ⟨its,r,pl,hz⟩:=I.list hq
  refine SeqAt.in_listAt (eqU x) pl.isList (λw hw=>ja rx fx r fs w (by simpa using hw)) ⟨.bl _,H,I,rfl,?_⟩
  rw [show its.toArray.any (eqU x)=its.any (eqU x) by simp,j1 r fs]
  exact q
 ·obtain ⟨its,r,pl,hz⟩:=I.tuple hq
  refine SeqAt.in_tupleAt (eqU x) pl (λw hw=>ja rx fx r fs w (by simpa using hw)) ⟨.bl _,H,I,rfl,?_⟩
  rw [show its.toArray.any (eqU x)=its.any (eqU x) by simp,j1 r fs]
  exact q
theorem pW:OpR X (compareOp .NotIn) (rIn X.K true):=by
 intro pins s σ H x y v u Q I rx ry h
 obtain ⟨p,xs,rfl,hq,fx,fs,q⟩:=h
 cases ry
 rcases hq with hq | hq
 ·obtain ⟨its,r,pl,hz⟩:=I.list hq
  refine SeqAt.notIn_listAt (eqU x) pl.isList (λw hw=>ja rx fx r fs w (by simpa using hw)) ⟨.bl _,H,I,rfl,?_⟩
  rw [show its.toArray.any (eqU x)=its.any (eqU x) by simp,j1 r fs]
  exact q
 ·obtain ⟨its,r,pl,hz⟩:=I.tuple hq
  refine SeqAt.notIn_tupleAt (eqU x) pl (λw hw=>ja rx fx r fs w (by simpa using hw)) ⟨.bl _,H,I,rfl,?_⟩
  rw [show its.toArray.any (eqU x)=its.any (eqU x) by simp,j1 r fs]
  exact q
theorem aL:iO X (.builtin "len") (λxs H Q=>∃ p ys,xs=[.ref p]/\(SqL X.K H p ys\/SqT X.K H p ys)/\Q (.int ys.length) H):=by
 intro pins s σ H xs us Q I r h
 obtain ⟨p,ys,rfl,hq,q⟩:=h
 obtain ⟨u,rfl,rx⟩:=jl r
 cases rx
 have hn:=jS
 rcases hq with hq | hq
 ·obtain ⟨its,r',pl,hz⟩:=I.list hq
  have hlen:=r'.length
  exact Calls.call_len_list pl.isList (by simp only [List.size_toArray] <;> omega) ⟨.int ys.length,H,I.tok _,⟨s.toks+1,by rw [List.size_toArray,hlen]⟩,q⟩
 ·obtain ⟨its,r',pl,hz⟩:=I.tuple hq
  have hlen:=r'.length
  exact len_tuple pl (by simp only [List.size_toArray] <;> omega) ⟨.int ys.length,H,I.tok _,⟨s.toks+1,by rw [List.size_toArray,hlen]⟩,q⟩
theorem pe:iO X (.builtin "len") (λxs H Q=>∃ z,xs=[.str z]/\z.length≤sizeLine/\Q (.int z.length) H):=by
 intro pins s σ H xs us Q I r h
 obtain ⟨z,rfl,hz,q⟩:=h
 obtain ⟨u,rfl,t,rfl⟩:=jl r
 have hn:=jS
 exact len_str (by omega) ⟨.int z.length,H,I.tok _,⟨_,rfl⟩,q⟩
theorem ig:iO X (.type "list") (λxs H Q=>∃ p ys,xs=[.ref p]/\(SqL X.K H p ys\/SqT X.K H p ys)/\∀ l,H l=none->Q (.ref l) (upd H l (.lst ys))):=by
 intro pins s σ H xs us Q I r h
 obtain ⟨p,ys,rfl,hq,q⟩:=h
 obtain ⟨u,rfl,rx⟩:=jl r
 cases rx
 have fin:∀ (its:List Value),Vals ys its->ys.length≤sizeLine->∀ (h':Heap) (c':Nat),(∀ b o',s.heap.get? b=some o'->h'.get? b=some o') ->
   h'.get? s.heap.objs.size=some { cls:=.type "list",dict:=none,data:=.seq its.toArray c',slots:=#[] }->EP X pins σ Q (.ref s.heap.objs.size) { s with heap:=h' }:=λits r' hz h' c' kp e =>
  ⟨.ref s.heap.objs.size,_,I.laid (t':=s.toks) kp (Nat.le_refl _) (show ObjOk X.prog X.w _ h' _ (.lst ys) from ⟨hz,its,c',r',e⟩),rfl,q _ (I.hok.fresh (Nat.le_refl _))⟩
 rcases hq with hq | hq
 ·obtain ⟨its,r',pl,hz⟩:=I.list hq
  have hlen:=r'.length
  obtain ⟨o,ho,hc,n,hd⟩:=pl.isList
  exact call_list_seq p (.inl rfl) ho hc hd (λh' c' kp e=>fin its r' hz h' c' kp e) (by simp only [List.size_toArray] <;> omega)
 ·obtain ⟨its,r',pl,hz⟩:=I.tuple hq
  have hlen:=r'.length
  obtain ⟨o,ho,hc,n,hd⟩:=pl
  exact call_list_seq p (.inr rfl) ho hc hd (λh' c' kp e=>fin its r' hz h' c' kp e) (by simp only [List.size_toArray] <;> omega)
theorem gN:iO X (.type "tuple") (λxs H Q=>∃ p ys,xs=[.ref p]/\((SqL X.K H p ys/\∀ l,H l=none->Q (.ref l) (upd H l (.tup ys)))\/(SqT X.K H p ys/\Q (.ref p) H))):=by
 intro pins s σ H xs us Q I r h
 obtain ⟨p,ys,rfl,h⟩:=h
 obtain ⟨u,rfl,rx⟩:=jl r
 cases rx
 rcases h with ⟨hq,q⟩ | ⟨hq,q⟩
 ·obtain ⟨its,r',pl,hz⟩:=I.list hq
  have hlen:=r'.length
  refine call_tuple_list pl.isList (λh' kp=>?_) (by simp only [List.size_toArray] <;> omega)
  have I1:Inv X pins σ H { s with heap:=h' }:=I.kept (t':=s.toks) kp
  have I2:Inv X pins σ (upd H h'.objs.size (.tup ys)) { s with heap:=h'.push { cls:=.type "tuple",data:=.seq its.toArray } } :=
   I1.laid (t':=s.toks) (λb o e=>Heap.get?_push_of_some _ e) (Nat.le_refl _) (show ObjOk X.prog X.w _ _ _ (.tup ys) from ⟨hz,its,r',IsTup.new _ _⟩)
  exact ⟨.ref h'.objs.size,_,I2,rfl,q _ (I1.hok.fresh (Nat.le_refl _))⟩
 ·obtain ⟨its,r',pl,hz⟩:=I.tuple hq
  exact call_tuple_same pl ⟨.ref p,H,I,rfl,q⟩
def tyV (K:PySem.W.Frag) (T:String) (x:V) (H:Hp):Prop:=match x with
 | .str _=>T="str"
 | .int _=>T="int"
 | .ref p=>(T="list"/\∃ xs,SqL K H p xs)\/(T="tuple"/\∃ o,K.lookup p=some o/\o.cls=.type "tuple"/\o.dict=none) \/
   (T="dict"/\((∃ kvs,H p=some (.dK kvs))\/∃ kvs,H p=some (.dT kvs)))\/(T="set"/\∃ S n,H p=some (.set S n))
 | _=>False
theorem zR {T:String} (I:Inv X pins σ H s) (r:RelV x v) (ty:tyV X.K T x H) :
  s.TypeIs v T/\∀ a,v=.ref a->∃ ob,s.heap.get? a=some ob/\ob.dict=none:=by
 cases x with
 | str z =>
  obtain ⟨t,rfl⟩:=r
  cases (show T="str" from ty)
  exact ⟨typeIs_str s z t,λ_ e=>nomatch e⟩
 | int i =>
  obtain ⟨t,rfl⟩:=r
  cases (show T="int" from ty)
  exact ⟨typeIs_int s i t,λ_ e=>nomatch e⟩
 | ref p =>
  cases r
  rcases ty with ⟨rfl,xs,hq⟩ | ⟨rfl,o,hk,hc,hd⟩ | ⟨rfl,hk⟩ | ⟨rfl,S,n,hk⟩
  ·obtain ⟨its,_,pl,_⟩:=I.list hq
   refine ⟨pl.isList.typeIs,λa e=>?_⟩
   cases e
   obtain ⟨o,n,e,c,hd,_⟩:=pl
   exact ⟨o,e,hd⟩
  ·refine ⟨⟨o,I.kIn p o hk,hc⟩,λa e=>?_⟩
   cases e
   exact ⟨o,I.kIn _ o hk,hd⟩
  ·have z:∃ o,s.heap.get? p=some o/\o.ExactDict:=by
    rcases hk with ⟨kvs,hk⟩ | ⟨kvs,hk⟩
    ·obtain ⟨_,_,_,_,o,_,_,e,ex,_⟩:=I.hok p _ hk
     exact ⟨o,e,ex⟩
    ·obtain ⟨_,_,_,_,o,_,_,e,ex,_⟩:=I.hok p _ hk
     exact ⟨o,e,ex⟩
   obtain ⟨o,e,ex⟩:=z
   refine ⟨⟨o,e,ex.1⟩,λa e2=>?_⟩
   cases e2
   exact ⟨o,e,ex.2.1⟩
  ·obtain ⟨o,_,_,_,e,ex,_⟩:=I.hok p _ hk
   refine ⟨⟨o,e,ex.1⟩,λa e2=>?_⟩
   cases e2
   exact ⟨o,e,ex.2.1⟩
 | _=>exact False.elim ty
def CJ (K:PySem.W.Frag) (T:String) (r:V->List V->Hp->VK->Prop) (to:TE):TE:=λσ H Q=>to σ H λx H1=>tyV K T x H1/\r x [] H1 Q
def tBM (K:PySem.W.Frag) (T:String) (r:V->List V->Hp->VK->Prop) (to:TE) (t:TA):TE:=λσ H Q=>to σ H λx H1=>tyV K T x H1/\t σ H1 λxs H2=>r x xs H2 Q
variable {o e:Expr} {es:List Expr} {to:TE} {t:TA} {name:Str} {apos cpos:Pos} {T id:String} {r:V->List V->Hp->VK->Prop}
theorem m6 (pa:PlainAttrs T) (slot:Slot T name id) (hty:typeOf (.builtin id)=pure (.type "method_descriptor")) (hm:MtR X id r) (ho:PE X o to)
  (hbase:attributeBase o name X.env (eval o X.env)=eval o X.env:=by rfl) (hline:(apos.endLine == cpos.line)=true:=by rfl):PE X (.Call (.Attribute o name apos) [] [] cpos) (CJ X.K T r to):=by
 intro pins s σ H Q I h
 refine wpAny_Call_method0_late hbase hline (thn (ho pins s σ H _ I h) λv s1 ⟨x,H1,I1,r1,ty,q1⟩=>?_)
 obtain ⟨h1,h2⟩:=zR I1 r1 ty
 exact ⟨T,id,pa,slot,hty,h1,h2,Calls.callWith_builtin rfl (PySem.evalArgs_none (hm pins s1 σ H1 x [] v [] Q I1 r1 .nil q1))⟩
theorem cW (pa:PlainAttrs T) (slot:Slot T name id) (hty:typeOf (.builtin id)=pure (.type "method_descriptor")) (hm:MtR X id r) (ho:PE X o to) (ha:PA X (e::es) t)
  (hbase:attributeBase o name X.env (eval o X.env)=eval o X.env:=by rfl)
  (hfew:((backTo cpos (starEach (e::es) X.env)).all (λx=>!x.1) && (backToKw cpos (keywordEach [] X.env)).all (λx=>x.1.isSome)
   && decide ((e::es).length+([]:List Keyword).length+(if ([]:List Keyword).isEmpty then 0 else 1) < 30))=true:=by rfl)
  (hline:(apos.endLine == cpos.line)=true:=by rfl) (hs:starEach (e::es) X.env=(false,eval e X.env)::starEach es X.env:=by rfl) (hplain:(backTo cpos (starEach es X.env)).any (·.1)=false:=by rfl) :
  PE X (.Call (.Attribute o name apos) (e::es) [] cpos) (tBM X.K T r to t):=by
 intro pins s σ H Q I h
 refine wpAny_Call_method_late hbase hfew hline rfl (thn (ho pins s σ H _ I h) λv s1 ⟨x,H1,I1,r1,ty,q1⟩=>?_)
 obtain ⟨h1,h2⟩:=zR I1 r1 ty
 refine ⟨T,id,pa,slot,hty,h1,h2,?_⟩
 have hA:=ha cpos pins s1 σ H1 _ I1 q1
 rw [hs] at hA ⊢
 refine Calls.callWith_builtin (by show (false || (backTo cpos (starEach es X.env)).any (·.1))=false;rw [hplain] <;> rfl) (Calls.evalArgs_plain ?_)
 exact thn hA λus s2 ⟨vs,H2,I2,r2,q2⟩=>hm pins s2 σ H2 x vs v us Q I2 r1 r2 q2
end
def MtM (X:Cx) (id:String) (r:V->List V->Hp->VK->Prop):Prop :=
 ∀ (pins:List (Addr × Obj)) (s:Shared) (σ:St) (H:Hp) (x:V) (xs:List V) (v:Value) (us:List Value) (Q:VK),Inv X pins σ H s->RelV x v->Vals xs us->r x xs H Q ->
  wpAny (model X.prog X.w) X.A (call (.builtin id) (v::us)) (EP X pins σ Q) X.xe s
theorem Vals.one:∀ {x:V} {us:List Value},Vals [x] us->∃ u,us=[u]/\RelV x u
 | _,_,.cons r .nil=>⟨_,rfl,r⟩
theorem Vals.zero:∀ {us:List Value},Vals [] us->us=[]
 | _,.nil=>rfl
theorem Vals.dropLast {xs:List V} {us:List Value} (h:Vals xs us):Vals xs.dropLast us.dropLast:=by
 induction h with
 | nil=>exact .nil
 | cons r t ih =>
  cases t with
  | nil=>exact .nil
  | cons q t'=>exact .cons r ih
theorem sR {α:Type} (l:List α):l.eraseIdx (l.length - 1)=l.dropLast:=by
 induction l with
 | nil=>rfl
 | cons a r ih =>
  cases r with
  | nil=>rfl
  | cons b r =>
   have e:(a::b::r).length - 1=((b::r).length - 1)+1:=by
    have h1:(a::b::r).length=r.length+2:=rfl
    have h2:(b::r).length=r.length+1:=rfl
    omega
   rw [e,List.eraseIdx_cons_succ,ih]
   all_goals rfl
section
variable {X:Cx} {pins:List (Addr × Obj)} {σ:St} {H:Hp} {s:Shared} {l b:Addr} {xs ys zs:List V}
variable {its:List Value} {n t':Nat}
theorem Inv.lset {its':List Value} {f:Array Value->Array Value} (I:Inv X pins σ H s) (hH:H l=some (.lst xs))
  (e:s.heap.get? l=some { cls:=.type "list",data:=.seq its.toArray n }) (hf:f its.toArray=its'.toArray) (hv:Vals ys its') (hz:ys.length≤sizeLine) :
  Inv X pins σ (upd H l (.lst ys)) { s with heap:=s.heap.update l (Obj.mapSeq f),toks:=t' }:=by
 have q:=PySem.IsL.update e f
 rw [hf] at q
 refine I.write (x:=l) (e:=l) (by rw [hH];exact trivial) (.inl rfl) (λb' u hb hu=>(Heap.get?_update_other s.heap (Obj.mapSeq f) (Ne.symm hb)).trans hu) ⟨_,q⟩ ?_
 exact ⟨hz,its',_,hv,q⟩
theorem Inv.lnew (I:Inv X pins σ H s) (hv:Vals ys its) (hz:ys.length≤sizeLine) :
  Inv X pins σ (upd H s.heap.objs.size (.lst ys)) { s with heap:=s.heap.push { cls:=.type "list",data:=.seq its.toArray },toks:=t' } :=
 I.laid (λ_ _ q=>Heap.get?_push_of_some _ q) (Nat.le_refl _) ⟨hz,its,0,hv,Heap.get?_push_size _ rfl⟩
theorem Inv.fresh (I:Inv X pins σ H s):H s.heap.objs.size=none:=I.hok.fresh (Nat.le_refl _)
theorem Inv.lstM (I:Inv X pins σ H s) (hH:H l=some (.lst xs)):xs.length≤sizeLine/\∃ (its:List Value) (n:Nat),Vals xs its/\xs.length=its.length/\s.heap.get? l=some { cls:=.type "list",data:=.seq its.toArray n }:=by
 obtain ⟨z,its,n,r,e⟩:=I.hok l _ hH
 exact ⟨z,its,n,r,r.length,e⟩
theorem yC (h:n≤sizeLine):Builtin.List.listTooLong n=false:=by
 unfold Builtin.List.listTooLong
 exact decide_eq_false (by omega)
end
section
variable {X:Cx}
def iw:V->List V->Hp->VK->Prop:=λx vs H Q=>∃ l xs y,x=.ref l/\vs=[y]/\H l=some (.lst xs)/\xs.length < sizeLine/\Q .non (upd H l (.lst (xs++[y])))
theorem br:MtM X "list.append" iw:=by
 intro pins s σ H x vs v us Q I rx rv h
 obtain ⟨l,xs,y,rfl,rfl,hH,hz,q⟩:=h
 cases rx
 obtain ⟨u,rfl,ru⟩:=rv.one
 obtain ⟨z,its,n,r,hl,e⟩:=I.lstM hH
 refine call_meets F.slot_list_append ⟨_,e,rfl⟩ F.entry_list_append (F.args_list_append_2 _ _) (PySem.list_append l its.toArray n u (by rw [List.size_toArray];omega)) ⟨e,?_⟩
 refine ⟨.non,_,I.lset (its':=its++[u]) hH e (by simp) (r.append (.cons ru .nil)) ?_,rfl,q⟩
 rw [List.length_append,List.length_singleton]
 omega
def vv:V->List V->Hp->VK->Prop:=λx vs H Q=>∃ l b xs zs,x=.ref l/\vs=[.ref b]/\H l=some (.lst xs)/\H b=some (.lst zs)/\xs.length+zs.length≤sizeLine/\Q .non (upd H l (.lst (xs++zs)))
theorem ef:MtM X "list.extend" vv:=by
 intro pins s σ H x vs v us Q I rx rv h
 obtain ⟨l,b,xs,zs,rfl,rfl,hH,hB,hz,q⟩:=h
 cases rx
 obtain ⟨u,rfl,ru⟩:=rv.one
 cases ru
 obtain ⟨z,its,n,r,hl,e⟩:=I.lstM hH
 obtain ⟨z2,its2,n2,r2,hl2,e2⟩:=I.lstM hB
 have hsz:its.toArray.size+its2.toArray.size≤sizeLine:=by rw [List.size_toArray,List.size_toArray];omega
 have hlong:¬ (!its.toArray.isEmpty && Builtin.List.listTooLong (its.toArray.size+its2.toArray.size))=true:=by
  rw [yC hsz,Bool.and_false]
  exact Bool.false_ne_true
 refine call_meets F.slot_list_extend ⟨_,e,rfl⟩ F.entry_list_extend (F.args_list_extend_2 _ _)
  (AutoSeq1.list_extend_list_list_0 l its.toArray n b its2.toArray n2 hlong (by rw [List.size_toArray];omega) (by omega)) ⟨e,e2,?_⟩
 refine ⟨.non,_,I.lset (its':=its++its2) hH e (by simp) (r.append r2) ?_,rfl,q⟩
 rw [List.length_append]
 omega
def za:V->List V->Hp->VK->Prop:=λx vs H Q=>∃ l xs y,x=.ref l/\vs=[]/\H l=some (.lst xs)/\xs[xs.length - 1]?=some y/\Q y (upd H l (.lst xs.dropLast))
theorem mP:MtM X "list.pop" za:=by
 intro pins s σ H x vs v us Q I rx rv h
 obtain ⟨l,xs,y,rfl,rfl,hH,hy,q⟩:=h
 cases rx
 have hus:=rv.zero
 subst hus
 obtain ⟨z,its,n,r,hl,e⟩:=I.lstM hH
 obtain ⟨u,hu,ru⟩:=r.get hy
 have hy':its.toArray[its.toArray.size - 1]?=some u:=by
  show its.toArray[its.length - 1]?=some u
  rw [← Array.getElem?_toList,← hl]
  exact hu
 refine call_meets F.slot_list_pop ⟨_,e,rfl⟩ F.entry_list_pop (F.args_list_pop_1 _) (MeetsSeq.list_pop_last l its.toArray n u hy' (by rw [List.size_toArray];omega)) ⟨e,?_⟩
 refine ⟨y,_,I.lset (its':=its.dropLast) hH e ?_ r.dropLast ?_,ru,q⟩
 ·show its.toArray.eraseIdxIfInBounds (its.toArray.size - 1)=its.dropLast.toArray
  rw [List.size_toArray,List.eraseIdxIfInBounds_toArray,sR]
 ·rw [List.length_dropLast]
  omega
end
section
variable {prog:Program} {w:World} {A:Around} {E:Value->Shared->Prop} {s:Shared}
set_option maxRecDepth 100000 in
end
section
variable {X:Cx}
end
section
variable {κ:Type} [DecidableEq κ]
end
section
variable {P:Program} {w:World} {H:Hp} {h:Heap} {a:Addr}
end
section
variable {X:Cx} {pins:List (Addr × Obj)} {σ:St} {H:Hp} {s:Shared} {a:Addr} {y v:V} {u r:Value} {o:Option V} {A:Around} {E:Value->Shared->Prop}
end
section
variable {X:Cx} {pins:List (Addr × Obj)} {σ:St} {H:Hp} {s:Shared} {a:Addr} {kvs:List (Key × V)} {k:Key} {u:Value} {A:Around} {E:Value->Shared->Prop}
end
section
variable {X:Cx} {o i e value:Expr} {pos pos' tpos:Pos} {td ty tv:TE}
end
section
variable {X:Cx} {pos:Pos}
end
structure M2 (X:Cx) (o:Expr) (m:Str) (apos:Pos) (e f:Expr) (cpos:Pos):Prop where
 base:attributeBase o m X.env (eval o X.env)=eval o X.env
 few:((backTo cpos (starEach [e,f] X.env)).all (λx=>!x.1) && (backToKw cpos (keywordEach [] X.env)).all (λx=>x.1.isSome)
  && decide (([e,f]:List Expr).length+([]:List Keyword).length+(if ([]:List Keyword).isEmpty then 0 else 1) < 30))=true
 line:(apos.endLine == cpos.line)=true
 trees:backTo cpos (starEach [e,f] X.env)=[(false,eval e X.env),(false,eval f X.env)]
section
variable {X:Cx} {pins:List (Addr × Obj)} {σ:St} {H:Hp} {s:Shared} {a:Addr} {y d:V} {u r:Value} {o:Option V} {A:Around} {E:Value->Shared->Prop}
end
section
variable {X:Cx} {o e f:Expr} {apos cpos:Pos} {td ty tx:TE}
end
section
variable {X:Cx} {pins:List (Addr × Obj)} {σ:St} {H:Hp} {s:Shared} {a:Addr} {kvs:List (Key × V)} {A:Around} {E:Value->Shared->Prop}
end
section
variable {X:Cx} {pins:List (Addr × Obj)} {σ:St} {H:Hp} {s:Shared} {a:Addr} {y:V} {u:Value} {A:Around} {E:Value->Shared->Prop}
end
end L2
namespace Att
open PySem PySem.W PySem.Calls PyProof.Rows
variable {P:Params} {h:Heap}
theorem lH:∀ (ns:List Int) (vs:List Value),WellAll P h vs (ns.map WData.int)->IntsAre vs ns:=by
 intro ns
 induction ns with
 | nil =>
  intro vs w
  rw [List.map_nil] at w
  cases w
  exact .nil
 | cons n ns ih =>
  intro vs w
  rw [List.map_cons] at w
  cases w with
  | cons a b =>
   cases a
   exact .cons _ _ (ih _ b)
variable {l:OpenLaw} {n:Nat}
theorem wW (hn:l.most=some n) {args:List WData} {vals:List Value}
  (hpre:l.row.toRowW.claim.pre args=true) (hwl:WellAll P h vals args) :
  ∃ a vs ns,vals=[Value.ref a]/\args=[WData.list (ns.map WData.int)]/\h.get? a=some { cls:=.type "list",data:=.seq vs.toArray }/\IntsAre vs ns/\ns.length≤n:=by
 have hsh:WShape.hasAll [] args [.list .int]=true:=(pre_splitW hpre).1
 have hc:l.pre.holds [] { args:=args }=true:=(pre_splitW hpre).2
 obtain ⟨d,r,rfl,h1,h2⟩:=hasAllW_cons hsh
 obtain rfl:=hasAllW_nil h2
 obtain ⟨xs,rfl,h3⟩:=hasW_list h1
 obtain ⟨ns,rfl⟩:=items_int h3
 have hlen:ns.length≤n:=by
  unfold OpenLaw.pre at hc
  have h4:(WTm.not (.lt (.lit (.int (n:Int))) (.len (.arg 0)))).holds [] { args:=[.list (ns.map .int)] }=true:=by
   have h4:=(holds_andW hc).1
   rw [hn] at h4
   exact h4
  have h5:=condW_of h4 (w_not (w_lt w_lit (w_len_list (w_arg rfl))))
  rw [List.length_map] at h5
  refine Nat.le_of_not_lt λq=>?_
  have q':(n:Int) < ((ns.length:Nat):Int):=by omega
  first
   | (rw [decide_eq_true q'] at h5;exact absurd h5 (by decide))
   | (simp at h5;omega)
 cases hwl with
 | cons w1 w2 =>
  cases w2
  cases w1 with
  | list ho hall=>exact ⟨_,_,ns,rfl,rfl,ho,lH ns _ hall,hlen⟩
theorem wF (l:OpenLaw) (args:List WData):l.row.toRowW.claim.post args (.bool true) args=true :=
 postW_of (r:=l.row.toRowW) (X:=(true == true))
  (show WShape.has [] (.bool true) .bool=true by first | rfl | decide | simp [WShape.has,WShape.arms,WShape.armsAll])
  (show (WTm.eq .res (.lit (.bool true))).value [] { args:=args,res:=some (.bool true),after:=args }=some (.bool (true == true)) from w_eq_bool (w_res rfl) w_lit) rfl
theorem attach_call {q:Program} {loose:List Str} {XP:(Str->Option Value)->Heap->Prop} {YP:World->Heap->Prop} {d:DefRec}
  (hn:l.most=some n) (hdf:d.params.defaults=[])
  (call:∀ (w:World) (s₀ s₁:Shared) (mg mb:Str->Option Value) (fa:Addr) (o:Obj) (pm cd doc:Value) (a:Addr) (vs:List Value) (ns:List Int),
   Ground q loose [] XP w s₀ mg mb s₁.heap->YP w s₁.heap ->
   s₁.heap.get? fa=some o->o.data=.func (docDef d.name d.params d.body d.scope pm cd doc)->s₁.heap.CodeRec cd d.name->mg d.name=some (.ref fa) ->
   s₁.heap.get? a=some { cls:=.type "list",data:=.seq vs.toArray }->IntsAre vs ns->ns.length≤n->s₁.gens=#[] ->
   codeAny (model l.prog w) callerA (.call (.ref fa) ⟨[.ref a],[]⟩) (λr s'=>r=.ok (.ret (.bool true))/\OldK s₁.heap s'.heap/\s'.os=s₁.os/\AllBare s'.gens) s₁) :
  WalkO q loose XP YP l.row.toRowW d [] (λf vs=>PySem.call f vs):=by
 intro w s₀ s₁ mg mb G Y fa o pm cd doc dV kV ho hd hcd hD hmg hg args vals as hpre hlay hrd hwl hlo
 obtain rfl:dV=.none:=Dflts.none hD hdf
 obtain rfl:kV=.none:=Dflts.noKw hD
 obtain ⟨a,vs,ns,rfl,rfl,hobj,hints,hlen⟩:=wW hn hpre hwl
 refine enter_call (codeAny_mono (call w s₀ s₁ mg mb fa o pm cd doc a vs ns G Y ho (fd_plain hd) hcd hmg hobj hints hlen hg) λr s' hq=>?_)
 obtain ⟨rfl,h2,h3,h4⟩:=hq
 exact ⟨.inl ⟨.bool true,.bool true,[],rfl,λ_=>rfl,.bool true,wF l _,λ_=>⟨List.Pairwise.nil,λ_ hm=>(nomatch hm)⟩⟩,h2,h3,h4⟩
section
variable {prog:Program} {w:World} {A:Around} {E:Value->Shared->Prop} {s:Shared} {K:Frag}
end
end Att
namespace L2
open PySem PySem.Spec PyProof.Rows
theorem oW:∀ {vs:List Value} {ns:List Int},IntsAre vs ns->Vals (ns.map V.int) vs
 | _,_,.nil=>.nil
 | _,_,.cons n t h=>.cons ⟨t,rfl⟩ (oW h)
def zZ (H:Hp):Prop:=∀ b,H b=none\/∃ o xs,H b=some (.frz o (.lst xs))
variable {P:Program} {w:World} {K:PySem.W.Frag} {mg:Str->Option Value} {CX:CXT} {k:Nat} {a:Addr} {fd:FuncData} {x:Str} {sp:Sp} {ns:List Int}
theorem yq {mb:Str->Option Value} {fa:Addr} {s₁:Shared} {vs:List Value}
  (KX:K.In s₁.heap) (hns:s₁.heap.Ns mainGlobals mg) (hb:s₁.heap.Ns builtinsNs mb) (hbb:∀ x:Str,x≠"__name__"->mb x=bootBuiltins x) (hlim:s₁.heap.NoLimit) (hg:s₁.gens=#[])
  (ha:s₁.heap.get? a=some { cls:=.type "list",data:=.seq vs.toArray }) (hi:IntsAre vs ns) (hl:ns.length≤sizeLine) (hr:Room k callerA)
  (F:∀ base:Heap,K.In base->base.Ns mainGlobals mg->FnOk P w K mg base CX k fa fd [x] sp) (hbind:∀ (s:Shared) (u:Value),BindsTo s fd ⟨[u],[]⟩ [(x,u)])
  (hsp:∀ H:Hp,zZ H->SqL K H a (ns.map V.int)->sp [.ref a] H (λv _=>v=.bl true) λ_ _ _=>False)
  (hCX:∀ H e s',CX [] H s₁ (λ_ _ _=>False) e s'->False) :
  codeAny (model P w) callerA (.call (.ref fa) ⟨[.ref a],[]⟩) (λr s'=>r=.ok (.ret (.bool true))/\OldK s₁.heap s'.heap/\s'.os=s₁.os/\AllBare s'.gens) s₁:=by
 have rv:=oW hi
 have lenV:=hi.length
 have core:∀ H:Hp,zZ H->SqL K H a (ns.map V.int)->HOk P w H s₁.heap->(∀ b,H b≠none->b=a)->(H a≠none->K.lookup a=none) ->
   codeAny (model P w) callerA (.call (.ref fa) ⟨[.ref a],[]⟩) (λr s'=>r=.ok (.ret (.bool true))/\OldK s₁.heap s'.heap/\s'.os=s₁.os/\AllBare s'.gens) s₁:=by
  intro H hO hS hok hA hK
  have base_of:∀ {b:Addr} {o:Obj},s₁.heap.get? b=some o->H b=none->(pz s₁.heap H).get? b=some o:=λe n=>yi e n
  have noA:∀ {b:Addr} {o:Obj} {es:Array DictEntry} {ep:Nat},s₁.heap.get? b=some o->o.data=.dict es ep->H b=none:=λ{b o es ep} e d=>by
   cases q:H b with
   | none=>rfl
   | some u =>
    have e':b=a:=hA b (by rw [q];simp)
    subst e'
    rw [ha] at e;cases e
    have d':Data.seq vs.toArray _=Data.dict es ep:=d
    cases d'
  have nsK:∀ {b:Addr} {m:Str->Option Value},s₁.heap.Ns b m->(pz s₁.heap H).Ns b m:=λ{b m} ⟨o,es,ep,e,d,r⟩=>⟨o,es,ep,base_of e (noA e d),d,r⟩
  have hKb:K.In (pz s₁.heap H):=λb o e=>base_of (KX b o e) (by
   cases q:H b with
   | none=>rfl
   | some u =>
    have e':b=a:=hA b (by rw [q];simp)
    subst e'
    rw [hK (by rw [q];simp)] at e;cases e)
  have hM:Mod K mg (pz s₁.heap H):=⟨hKb,nsK hns,⟨mb,nsK hb,hbb⟩,let ⟨mc,h1,h2⟩:=hlim;⟨mc,nsK h1,h2⟩⟩
  have e0:Env0 P w K mg (pz s₁.heap H) callerA [] s₁ H:=⟨rfl,hM,λb o e=>AD e,Nat.le_of_eq (wb _ _),trivial,λb hb=>absurd (show b ∈ ([]:List Addr) from hb) (by simp),hok,.of_eq hg⟩
  refine codeAny_mono ((F _ hKb (nsK hns)).run callerA [] s₁ H ⟨[.ref a],[]⟩ [.ref a] [.ref a] _ _ hr e0 (hbind s₁ (.ref a)) (.cons rfl .nil) (hsp H hO hS)) λr s' h=>?_
  cases r with
  | error e=>exact (hCX H e s' h).elim
  | ok fl =>
   cases fl with
   | next=>exact False.elim h
   | brk=>exact False.elim h
   | cont=>exact False.elim h
   | ret u =>
    obtain ⟨v,H',os,bare,un,hok',r',q⟩:=h
    have q':v=.bl true:=q
    subst q'
    obtain rfl:u=Value.bool true:=r'
    refine ⟨rfl,OldK.of_keep λb o e=>?_,os,bare⟩
    cases q:H b with
    | none=>exact un.keep b o e q (by intro z;exact absurd (show b ∈ ([]:List Addr) from z) (by simp)) (by simp)
    | some u =>
     rcases hO b with z | ⟨ob,xs,z⟩
     ·rw [q] at z;cases z
     ·have z2:=un.frzs b ob _ z
      obtain ⟨e1,_⟩:=hok b _ z
      obtain ⟨e2,_⟩:=hok' b _ z2
      rw [e] at e1;cases e1
      exact e2
 cases hk:K.lookup a with
 | some o =>
  have e:=KX a o hk
  rw [ha] at e
  cases e
  refine core (λ_=>none) (λ_=>.inl rfl) (.inr ⟨_,vs.toArray,_,hk,rfl,rfl,rfl,by rw [List.size_toArray,lenV];exact hl,by simpa using rv⟩) (λb u z=>by have z':(none:Option HO)=some u:=z;cases z') (λb z=>absurd rfl z) λz=>absurd rfl z
 | none =>
  refine core (λb=>if b=a then some (.frz { cls:=.type "list",data:=.seq vs.toArray } (.lst (ns.map V.int))) else none) (λb=>?_) (.inl (.inr ⟨{ cls:=.type "list",data:=.seq vs.toArray },if_pos rfl⟩)) (λb u z=>?_) (λb z=>?_) λ_=>hk
  ·by_cases hb:b=a
   ·exact .inr ⟨_,_,if_pos hb⟩
   ·exact .inl (if_neg hb)
  ·by_cases hb:b=a
   ·have z':=(if_pos hb).symm.trans z
    cases z'
    subst hb
    exact ⟨ha,by rw [List.length_map];exact hl,vs,_,rv,ha⟩
   ·have z':=(if_neg hb).symm.trans z
    cases z'
  ·by_cases hb:b=a
   ·exact hb
   ·exact absurd (if_neg hb) z
variable {n:Nat}
theorem walk_of {l:PySem.W.OpenLaw} {q:Program} {loose:List Str} {XP:(Str->Option Value)->Heap->Prop} {YP:World->Heap->Prop} {d:DefRec} {K:Params->PySem.W.Frag} {CX:World->CXT} {sp:World->Sp}
  (hn:l.most=some n) (hn2:n≤sizeLine) (hdf:d.params.defaults=[]) (hr:Room k callerA)
  (hY:∀ (w:World) (h:Heap),YP w h->(K w.params).In h)
  (F:∀ (w:World) (mg:Str->Option Value) (fa:Addr) (h:Heap),(K w.params).In h->h.Ns mainGlobals mg->mg d.name=some (.ref fa) ->
   ∃ fd:FuncData,(∀ (s:Shared) (u:Value),BindsTo s fd ⟨[u],[]⟩ [(x,u)]) /\
    ∀ base:Heap,(K w.params).In base->base.Ns mainGlobals mg->FnOk l.prog w (K w.params) mg base (CX w) k fa fd [x] (sp w))
  (hsp:∀ (w:World) (H:Hp) (a:Addr) (ns:List Int),ns.length≤n->zZ H->SqL (K w.params) H a (ns.map V.int)->sp w [.ref a] H (λv _=>v=.bl true) λ_ _ _=>False)
  (hCX:∀ (w:World) (H:Hp) (s:Shared) (e:Value) (s':Shared),CX w [] H s (λ_ _ _=>False) e s'->False) :
  PySem.W.WalkO q loose XP YP l.row.toRowW d [] (λf vs=>PySem.call f vs):=by
 refine Att.attach_call hn hdf λw s₀ s₁ mg mb fa o pm cd doc a vs ns G Y ho hd hcd hmg hobj hints hlen hg=>?_
 have KX:=hY w _ Y
 obtain ⟨fd,hb,hF⟩:=F w mg fa _ KX G.T.g hmg
 exact yq KX G.T.g G.T.b G.T.builtins G.T.nolimit hg hobj hints (Nat.le_trans hlen hn2) hr hF hb (λH hO hS=>hsp w H a ns hlen hO hS) λH e s'=>hCX w H s₁ e s'
def bP (s:Stmt):Arguments:=match s with
 | .FunctionDef _ a _ _ _ _ _ _ _ _=>a
 | _=>{ posonlyargs:=[],args:=[],vararg:=none,kwonlyargs:=[],kw_defaults:=[],kwarg:=none,defaults:=[] }
def bB (s:Stmt):List Stmt:=match s with
 | .FunctionDef _ _ b _ _ _ _ _ _ _=>b
 | _=>[]
def ax (s:Stmt):Scope:=match s with
 | .FunctionDef _ _ _ _ _ _ sc _ _ _=>sc
 | _=>{ kind:=.function,names:=[],isGenerator:=false,isCoroutine:=false }
abbrev CX0:CXT:=λ_ _ _ _ _ _=>False
abbrev E0:XK:=λ_ _ _=>False
variable {X:Cx}
theorem aQ:eR CX0 X E0:=λ_ _ _ _ _ _ _ h=>h.elim
structure Fun (K:PySem.W.Frag) (x qual:Str) (st:Stmt) (f:Addr) (fd:FuncData):Prop where
 ex:∃ (oc:Value) (od:Option Addr) (kV doc pm:Value) (an:Option Addr) (cdv ct:Value) (osl:Array (Option Value)),
  fd=PySem.W.fnOf x qual (bP st) (bB st) (ax st) .none kV doc pm an cdv ct/\K.lookup f=some ⟨oc,od,.func fd,osl⟩/\PySem.W.codeIn K cdv qual=true
 kp:PySem.W.keepIn K (.ref f)=true
section
variable {P:Program} {w:World} {K:PySem.W.Frag} {mg:Str->Option Value} {base:Heap}
variable {x qual:Str} {st:Stmt} {f:Addr} {fd:FuncData} {ps:List Str}
theorem Fun.ok {N:List Str} {k:Nat} {sp:Sp} (F:Fun K x qual st f fd) (S:FnScope N ps (ax st)) (len:∀ vs H Q E,sp vs H Q E->vs.length=ps.length)
  (hbody:∀ (cdv:Value) (A:Around) (outer:List Env) (s:Shared) (H:Hp) (vs:List V) (Q:VK) (E:XK),Room k (A.deeper (envOfC qual (ax st) s.heap.objs.size f cdv))->sp vs H Q E ->
   ∃ t,PSs (lG CX0 P w K mg base N qual (ax st) f cdv A outer s H E).nox (bB st) t/\t { nx:=λ_ H'=>Q .non H',rt:=Q } (eP N vs) H):FnOk P w K mg base CX0 (k+1) f fd ps sp:=by
 obtain ⟨oc,od,kV,doc,pm,an,cdv,ct,osl,rfl,lk,hcd⟩:=F.ex
 refine xW lk hcd S len λA outer s H vs Q E hr hsp=>?_
 obtain ⟨t,h,q⟩:=hbody cdv A outer s H vs Q E hr hsp
 exact ⟨t,h.nox,q⟩
theorem Fun.binds (F:Fun K x qual st f fd)
  (h:∀ (kV doc pm:Value) (an:Option Addr) (cdv ct:Value) (us:List Value),us.length=ps.length->bindArgs (PySem.W.fnOf x qual (bP st) (bB st) (ax st) .none kV doc pm an cdv ct) ⟨us,[]⟩=pure (ps.zip us)):Binds K fd ps []:=by
 obtain ⟨oc,od,kV,doc,pm,an,cdv,ct,osl,rfl,lk,hcd⟩:=F.ex
 exact .all (h kV doc pm an cdv ct)
theorem aY {oc:Value} {od an:Option Addr} {osl:Array (Option Value)} {kV doc pm cdv ct:Value} (l:K.lookup f=some ⟨oc,od,.func (PySem.W.fnOf x qual (bP st) (bB st) (ax st) .none kV doc pm an cdv ct),osl⟩)
  (c:PySem.W.codeIn K cdv qual=true) (k:PySem.W.keepIn K (.ref f)=true):Fun K x qual st f (PySem.W.fnOf x qual (bP st) (bB st) (ax st) .none kV doc pm an cdv ct):=⟨⟨oc,od,kV,doc,pm,an,cdv,ct,osl,rfl,l,c⟩,k⟩
end
theorem cE (h:n≤1000):n < sizeLine:=Nat.lt_of_le_of_lt h (by decide)
section
variable {X:Cx}
theorem pv (i:Nat) {x:Str} {pos:Pos} (hN:X.N[i]?=some x:=by rfl) (hv:Vis X.env.scope x:=by first | exact Or.inl rfl | exact Or.inr (Or.inl rfl) | exact Or.inr (Or.inr rfl)) (hd:(x == ("__debug__":Str))=false:=by decide)
  (hcd:(x == ("__classdict__":Str))=false:=by decide):PE X (.Name x pos) (cx i):=Ck hN hv hd hcd
end
theorem jP {A B:Prop} (h:B):if false=true then A else B:=by
 rw [if_neg Bool.false_ne_true]
 exact h
theorem jQ {A B:Prop} (h:A):if true=true then A else B:=by
 rw [if_pos rfl]
 exact h
theorem Av {c A B:Prop} [Decidable c] (h1:c->A) (h2:¬ c->B):if c then A else B:=by
 by_cases h:c
 ·rw [if_pos h]
  exact h1 h
 ·rw [if_neg h]
  exact h2 h
def Same (H H':Hp):Prop:=∀ b o,H b=some o->H' b=some o
theorem Same.refl (H:Hp):Same H H:=λ_ _ h=>h
variable {H H1:Hp}
theorem Same.trans {H2:Hp} (a:Same H H1) (b:Same H1 H2):Same H H2:=λc o h=>b c o (a c o h)
variable {H':Hp}
theorem Same.free (e:Same H H') {l:Addr} (h:H' l=Option.none):H l=Option.none:=by
 cases q:H l with
 | none=>rfl
 | some o =>
  rw [e l o q] at h
  cases h
variable {xs:List V}
theorem Same.seq (e:Same H H') (h:SqL K H a xs):SqL K H' a xs:=by
 rcases h with (h | ⟨o,h⟩) | h
 ·exact .inl (.inl (e _ _ h))
 ·exact .inl (.inr ⟨o,e _ _ h⟩)
 ·exact .inr h
section
variable {κ:Type} [DecidableEq κ]
end
def rk (env:Env) (x:Str) (k:NameKind):NameKind :=
 if (k == NameKind.free && env.scope.kind == .function && env.kindOf x == some .cell)=true then .cell else k
theorem kv (sc:Scope) (env:Env) (x:Str):(relabel sc env).names.lookup x=(sc.names.lookup x).map (rk env x):=by
 have all:∀ l:List (Str × NameKind),(l.map λ(n,k)=>if (k == NameKind.free && env.scope.kind == .function && env.kindOf n == some .cell) then (n,NameKind.cell) else (n,k)).lookup x=(l.lookup x).map (rk env x):=by
  intro l
  induction l with
  | nil=>rfl
  | cons p r ih =>
   obtain ⟨n,k⟩:=p
   rw [List.map_cons]
   cases hx:x == n with
   | true =>
    have e:x=n:=by simpa using hx
    subst e
    by_cases c:(k == NameKind.free && env.scope.kind == .function && env.kindOf x == some .cell)=true
    ·simp [List.lookup_cons,rk,c]
    ·simp [List.lookup_cons,rk,c]
   | false =>
    have e1:((n,k)::r).lookup x=r.lookup x:=by rw [List.lookup_cons,hx]
    rw [e1,← ih]
    by_cases c:(k == NameKind.free && env.scope.kind == .function && env.kindOf n == some .cell)=true
    ·show List.lookup x ((if (k == NameKind.free && env.scope.kind == .function && env.kindOf n == some .cell)=true then (n,NameKind.cell) else (n,k))::_)=_
     rw [if_pos c,List.lookup_cons,hx]
    ·show List.lookup x ((if (k == NameKind.free && env.scope.kind == .function && env.kindOf n == some .cell)=true then (n,NameKind.cell) else (n,k))::_)=_
     rw [if_neg c,List.lookup_cons,hx]
 exact all sc.names
variable {env:Env}
theorem vD:rk env x .free=.cell\/rk env x .free=.free:=by
 unfold rk
 split
 ·exact .inl rfl
 ·exact .inr rfl
theorem zz {k:NameKind} (h:k≠.free):rk env x k=k:=by
 unfold rk
 rw [if_neg]
 intro c
 have:(k == NameKind.free)=true:=by
  cases q:(k == NameKind.free) with
  | true=>rfl
  | false=>rw [q] at c;simp at c
 exact h (by simpa using this)
def B5:Option NameKind->Bool
 | some .free=>true
 | _=>false
def B4:Option NameKind->Bool
 | some .free=>true
 | some .cell=>true
 | _=>false
def B6:Option NameKind->Bool
 | some .local=>true
 | _=>false
variable {o:Option NameKind}
theorem vc (h:B5 o=true):o=some .free:=by
 cases o with
 | none=>cases h
 | some k=>cases k <;> first | rfl | cases h
theorem vb (h:B4 o=true):o=some .cell\/o=some .free:=by
 cases o with
 | none=>cases h
 | some k=>cases k <;> first | exact .inl rfl | exact .inr rfl | cases h
theorem vd (h:B6 o=true):o=some .local:=by
 cases o with
 | none=>cases h
 | some k=>cases k <;> first | rfl | cases h
def cR (N:List Str) (ok:Str->Option NameKind) (names:List (Str × NameKind)) (own:List Str) (fr:List Nat) (N':List Str):Bool :=
 decide (N'=own++fr.map λj=>N.getD j "") && (fr.all λj=>decide (j < N.length) && B5 (names.lookup (N.getD j ""))) &&
  names.all λp=>match p.2 with
   | .free=>B4 (ok p.1)
   | .cell=>false
   | .local=>B6 (names.lookup p.1)
   | _=>true
structure Blk (N:List Str) (ok:Str->Option NameKind) (names:List (Str × NameKind)) (own:List Str) (fr:List Nat) (N':List Str):Prop where
 eN:N'=own++fr.map λj=>N.getD j ""
 fr:∀ j ∈ fr,j < N.length/\names.lookup (N.getD j "")=some .free
 free:∀ p ∈ names,p.2=.free->ok p.1=some .cell\/ok p.1=some .free
 cell:∀ p ∈ names,p.2≠.cell
 loc:∀ p ∈ names,p.2=.local->names.lookup p.1=some .local
theorem sL {N:List Str} {ok:Str->Option NameKind} {names:List (Str × NameKind)} {own:List Str} {fr:List Nat} {N':List Str} (h:cR N ok names own fr N'=true):Blk N ok names own fr N':=by
 unfold cR at h
 rw [Bool.and_eq_true,Bool.and_eq_true] at h
 obtain ⟨⟨h1,h2⟩,h3⟩:=h
 have h3':=List.all_eq_true.mp h3
 refine ⟨of_decide_eq_true h1,λj hj=>?_,λp hp e=>?_,λp hp e=>?_,λp hp e=>?_⟩
 ·have q:=List.all_eq_true.mp h2 j hj
  rw [Bool.and_eq_true] at q
  exact ⟨of_decide_eq_true q.1,vc q.2⟩
 ·have q:=h3' p hp
  rw [e] at q
  exact vb q
 ·have q:=h3' p hp
  rw [e] at q
  cases q
 ·have q:=h3' p hp
  rw [e] at q
  exact vd q
def mkS (own:List Str) (fr:List Nat) (σ:St):St:=own.map (λ_=>none)++fr.map λj=>(σ[j]?).getD none
theorem xO (sc:Scope) (env:Env) (h:∀ p ∈ sc.names,p.2=.free->∃ c,env.cells.lookup p.1=some c) :
  ∃ cl,closureFor sc env=pure cl/\(∀ x c,cl.lookup x=some c->env.cells.lookup x=some c)/\∀ p ∈ sc.names,p.2=.free->cl.lookup p.1=env.cells.lookup p.1:=by
 unfold closureFor
 have all:∀ (l:List (Str × NameKind)) (acc:List (Str × Addr)),(∀ p ∈ l,p.2=.free->∃ c,env.cells.lookup p.1=some c)->(∀ x c,acc.lookup x=some c->env.cells.lookup x=some c) ->
   ∃ cl,(forIn l acc λ(p:Str × NameKind) (r:List (Str × Addr))=>(match p with
    | (name,kind)=>if (kind == NameKind.free)=true then (do let a ← cellOf env name;pure (ForInStep.yield ((name,a)::r))) else pure (ForInStep.yield r):Sem (ForInStep (List (Str × Addr)))))=pure cl /\
    (∀ x c,cl.lookup x=some c->env.cells.lookup x=some c)/\(∀ p ∈ l,p.2=.free->cl.lookup p.1=env.cells.lookup p.1)/\∀ x,acc.lookup x=env.cells.lookup x->cl.lookup x=env.cells.lookup x:=by
  intro l
  induction l with
  | nil=>intro acc _ ha;exact ⟨acc,rfl,ha,λp hp=>(by simp at hp),λx e=>e⟩
  | cons p r ih =>
   intro acc hl ha
   obtain ⟨n,k⟩:=p
   rw [List.forIn_cons]
   by_cases hk:k=.free
   ·subst hk
    obtain ⟨c,hc⟩:=hl (n,.free) List.mem_cons_self rfl
    have hce:cellOf env n=pure c:=by unfold cellOf;rw [hc]
    obtain ⟨cl,e1,e2,e3,e4⟩:=ih ((n,c)::acc) (λp hp=>hl p (List.mem_cons_of_mem _ hp)) (λx c' e=>by
     rw [List.lookup_cons] at e
     cases hx:x == n with
     | true =>
      rw [hx] at e
      have:x=n:=by simpa using hx
      subst this
      cases e
      exact hc
     | false=>rw [hx] at e;exact ha x c' e)
    refine ⟨cl,?_,e2,λp hp e=>?_,λx e=>e4 x ?_⟩
    ·simp only [beq_self_eq_true,if_true,hce]
     exact e1
    ·rcases List.mem_cons.mp hp with rfl | hp
     ·exact e4 n (by rw [List.lookup_cons];simp [hc])
     ·exact e3 p hp e
    ·rw [List.lookup_cons]
     cases hx:x == n with
     | true =>
      have:x=n:=by simpa using hx
      subst this
      simp [hc]
     | false=>exact e
   ·have hb:(k == NameKind.free)=false:=by simpa using hk
    obtain ⟨cl,e1,e2,e3,e4⟩:=ih acc (λp hp=>hl p (List.mem_cons_of_mem _ hp)) ha
    refine ⟨cl,?_,e2,λp hp e=>?_,e4⟩
    ·simp only [hb,Bool.false_eq_true,if_false]
     exact e1
    ·rcases List.mem_cons.mp hp with rfl | hp
     ·exact absurd e hk
     ·exact e3 p hp e
 obtain ⟨cl,e1,e2,e3,_⟩:=all sc.names [] h (λx c e=>by simp at e)
 refine ⟨cl,?_,e2,e3⟩
 have e1':=congrArg (λt:Sem (List (Str × Addr))=>t >>= λcs=>pure cs) e1
 first
  | exact e1'
  | (simp only [pure_bind] at e1';exact e1')
  | (refine Eq.trans ?_ e1';rfl)
  | (dsimp only at e1' ⊢;exact e1')
def Cx.blk (X:Cx) (sc:Scope) (cl:List (Str × Addr)) (C:Addr) (N:List Str) (s:Shared) (H:Hp) (fp:List Addr):Cx where
 prog:=X.prog
 w:=X.w
 K:=X.K
 mg:=X.mg
 base:=X.base
 A:=X.A
 N:=N
 s₀:=s
 H₀:=H
 env:=compEnvC sc cl C X.env
 outer:=X.stack
 stack:=X.stack
 ex:=fp
 fn:=λ_=>false
 calm:=X.calm
 pn:=[]
 xe:=λ_ _=>False
section
variable {X:Cx} {pins:List (Addr × Obj)} {σ:St} {H:Hp} {s:Shared} {sc:Scope} {cl:List (Str × Addr)} {own:List Str} {fr:List Nat} {N':List Str} {fp:List Addr}
variable {C:Addr}
theorem oz (I:Inv X pins σ H s) (B:Blk X.N X.env.kindOf sc.names own fr N') (hk:sc.kind=.function)
  (sub:∀ x c,cl.lookup x=some c->X.env.cells.lookup x=some c) (has:∀ p ∈ sc.names,p.2=.free->cl.lookup p.1=X.env.cells.lookup p.1)
  (f2:∀ b ∈ fp,iK X pins H b) (fo:∀ b ∈ fp,b < s.heap.objs.size) {h1:Heap} {tk:Nat} {D:Addr} {n:Nat} (eD:D=s.heap.objs.size) (eC:s.heap.objs.size < C)
  (hns:h1.Ns C (λ_=>none)) (old:∀ b o,s.heap.get? b=some o->h1.get? b=some o) (hD:h1.get? D=some { cls:=.type "list",data:=.seq ([]:List Value).toArray n }) :
  Inv (X.blk sc cl C N' s H fp) [] (mkS own fr σ) (upd H D (.lst [])) { s with heap:=h1,toks:=tk }:=by
 have hcells:∀ x c,cl.lookup x=some c->c < s.heap.objs.size:=λx c e=>by
  obtain ⟨v,q⟩:=I.cell x c (sub x c e)
  exact q.lt
 have hDn:H D=none:=I.hok.fresh (Nat.le_of_eq eD.symm)
 have kind:∀ x,(X.blk sc cl C N' s H fp).env.kindOf x=(sc.names.lookup x).map (rk X.env x):=λx=>kv sc X.env x
 refine ⟨⟨I.ok.mod,hk,I.ok.glob,I.ok.blt,Nat.le_of_lt eC,λx y c e1 e2=>I.ok.inj x y c (sub x c e1) (sub y c e2),λx hx=>?_,(λx c e=>nomatch (show false=true from e)),I.ok.hd,I.ok.frames,.inl rfl,λb hb=>⟨?_,λx c e=>?_⟩,I.bs,Nat.le_trans I.ok.bsz I.sz,λb o e hb=>?_,λb hb=>?_,I.stack,I.stkFree⟩,
  rfl,I.bare,Un.laid old (Nat.le_of_eq eD.symm) hDn,⟨_,hns,λi x v e1 e2 e3=>?_⟩,λx c e=>?_,?_,λx c e=>?_,λp hp=>?_,I.hok.laid old (Nat.le_of_eq eD.symm) ⟨Nat.zero_le _,[],n,.nil,hD⟩,?_⟩
 ·have hx':(sc.names.lookup x).map (rk X.env x)=some .cell\/(sc.names.lookup x).map (rk X.env x)=some .free:=by
   rw [← kind x];exact hx
  cases q:sc.names.lookup x with
  | none=>rw [q] at hx';simp at hx'
  | some k =>
   have hm:=PySem.mem_of_lookup q
   by_cases hf:k=.free
   ·subst hf
    show ∃ c,cl.lookup x=some c
    rw [has _ hm rfl]
    have z:=B.free _ hm rfl
    exact I.ok.has x z
   ·rw [q] at hx'
    simp only [Option.map_some,zz hf] at hx'
    rcases hx' with z | z
    ·exact absurd (Option.some.inj z) (B.cell _ hm)
    ·exact absurd (Option.some.inj z) hf
 ·exact Nat.ne_of_lt (Nat.lt_trans (fo b hb) eC)
 ·exact (f2 b hb).2.2.2.2.1 x c (sub x c e)
 ·rcases (f2 b hb).2.2.2.1 with z | z
  ·exact I.ok.noex b o e z
  ·exact absurd (Nat.lt_of_lt_of_le (Heap.lt_size e) (Nat.le_trans I.ok.bsz z)) (Nat.lt_irrefl _)
 ·intro z
  rcases List.mem_cons.mp (I.stkSub b z) with e | e
  ·exact (f2 b hb).2.1 e
  ·exact (f2 b hb).2.2.1 e
 ·
  have e1':N'[i]?=some x:=e1
  have hi:¬ i < own.length:=λz=>by
   unfold mkS at e2
   rw [List.getElem?_append_left (by simpa using z),List.getElem?_map,List.getElem?_eq_getElem z] at e2
   cases e2
  unfold mkS at e2
  rw [List.getElem?_append_right (by simpa using hi),List.length_map,List.getElem?_map] at e2
  rw [B.eN,List.getElem?_append_right (by simpa using hi),List.getElem?_map] at e1'
  cases q:fr[i - own.length]? with
  | none=>rw [q] at e2;cases e2
  | some j =>
   rw [q] at e2 e1'
   simp only [Option.map_some,Option.some.injEq] at e2 e1'
   obtain ⟨hj,hfr⟩:=B.fr j (List.mem_of_getElem? q)
   have ej:X.N[j]?=some x:=by
    rw [← e1',List.getD_eq_getElem?_getD,List.getElem?_eq_getElem hj];rfl
   have eσ:σ[j]?=some (some v):=by
    cases z:σ[j]? with
    | none=>rw [z] at e2;cases e2
    | some o=>rw [z] at e2;simp only [Option.getD_some] at e2;rw [e2]
   rw [e1'] at hfr
   have hm:=PySem.mem_of_lookup hfr
   have hok:=B.free _ hm rfl
   obtain ⟨m0,hn0,hl0⟩:=I.loc
   have hv:Vis X.env.scope x:=by
    rcases hok with z | z
    ·exact .inr (.inl z)
    ·exact .inr (.inr z)
   obtain ⟨u,r,l⟩:=hl0 j x v ej eσ hv
   refine ⟨u,r,?_⟩
   rcases l with ⟨z,_⟩ | ⟨_,c,hc,o,ho,hd⟩
   ·have hok':X.env.kindOf x=some .cell\/X.env.kindOf x=some .free:=hok
    rw [z] at hok'
    rcases hok' with y | y <;> cases y
   ·refine .inr ⟨?_,c,?_,o,old c o ho,hd⟩
    ·rw [kind x,hfr]
     rcases vD (env:=X.env) (x:=x) with y | y
     ·exact .inl (by rw [Option.map_some,y])
     ·exact .inr (by rw [Option.map_some,y])
    ·show cl.lookup x=some c
     have z:=has _ hm rfl
     exact z.trans hc
 ·obtain ⟨v,o,ho,hd⟩:=I.cell x c (sub x c e)
  exact ⟨v,o,old c o ho,hd⟩
 ·show upd H D _ C=none
  rw [aK (by rw [eD];exact Nat.ne_of_gt eC)]
  exact I.hok.fresh (Nat.le_of_lt eC)
 ·show upd H D _ c=none
  rw [aK (by rw [eD];exact Nat.ne_of_lt (hcells x c e))]
  exact I.freeC x c (sub x c e)
 ·exact absurd (show p ∈ ([]:List (Addr × Obj)) from hp) (by simp)
 ·show (mkS own fr σ).length=N'.length
  rw [B.eN]
  simp [mkS]
theorem o8 {σ':St} {H':Hp} {s':Shared} (I:Inv X pins σ H s) (f2:∀ b ∈ fp,iK X pins H b) (J:Inv (X.blk sc cl C N' s H fp) [] σ' H' s'):Inv X pins σ H' s' :=
 I.call' (ch:=fp) J.os J.base J.hok J.bare λb hb=>⟨(f2 b hb).2.2.2.1,(f2 b hb).2.1,(f2 b hb).2.2.2.2.1,(f2 b hb).2.2.2.2.2⟩
theorem Inv.young {s0:Shared} {H0:Hp} {σ0:St} {h':Heap} (I0:Inv X pins σ0 H0 s0) (I:Inv X pins σ H s) (hC:s0.heap.objs.size≤C) (hn:H C=none) (hs:Heap.SameBut C s.heap h'):Inv X pins σ H { s with heap:=h' } :=
 I.turned (t':=s.toks) (λb o hb e=>(hs.2 b hb).trans e) hn (Nat.ne_of_gt (Nat.lt_of_lt_of_le I0.lt hC)) (.inr (Nat.le_trans I0.sz hC))
  (λx c e z=>by
   obtain ⟨v,q⟩:=I0.cell x c e
   exact absurd (Nat.lt_of_lt_of_le q.lt (by rw [z];exact hC)) (Nat.lt_irrefl _))
  (λp hp z=>absurd (Nat.lt_of_lt_of_le (Heap.lt_size (I0.pin p hp).1) (by rw [z];exact hC)) (Nat.lt_irrefl _))
end
def qy (X:Cx) (ifs:List Expr) (t:TT):Prop :=
 ∀ (pins:List (Addr × Obj)) (s:Shared) (σ:St) (H:Hp) (Q:Bool->Hp->Prop),Inv X pins σ H s->t σ H Q ->
  wpAny (model X.prog X.w) X.A (forIn ifs true λc r=>if r=true then do let ok ← isTrue c X.env (eval c X.env);pure (ForInStep.yield ok) else pure (ForInStep.yield r)) (TP X pins σ Q) X.xe s
def dU:TT:=λ_ H Q=>Q true H
theorem cn:qy X [] dU:=λpins s σ H Q I h=>wpAny_tests_nil ⟨H,I,h⟩
theorem rG {c:Expr} {t:TT} (h:PT X c t):qy X [c] t:=λpins s σ H Q I hw=>wpAny_tests_one (h pins s σ H Q I hw)
section
variable {prog:Program} {w:World} {A:Around} {R:Result->Shared->Prop} {s:Shared}
theorem j6 {elt target iter:Expr} {ifs:List Expr} {scope:Scope} {pos:Pos} {it acc:Value} {env:Env} (J:Nat->Shared->Prop)
  (turn:∀ n s,J n s->wpAny (model prog w) A (pyNext it) (λr s₁=>match r with
   | none=>R (.ok .next) s₁
   | some v=>wpAny (model prog w) A (letOwnedTupleGo target it v) (λ_ s₂=>wpAny (model prog w) A (assign target env v) (λ_ s₃ =>
     wpAny (model prog w) A (forIn ifs true λc r=>if r=true then do let ok ← isTrue c env (eval c env);pure (ForInStep.yield ok) else pure (ForInStep.yield r)) (λok s₄ =>
      if ok=true then wpAny (model prog w) A (eval elt env) (λx s₅=>wpAny (model prog w) A (call (.builtin "list.append") [acc,x]) (λ_ s₆=>∃ m,m < n/\J m s₆) (λ_ _=>False) s₅) (λ_ _=>False) s₄
      else ∃ m,m < n/\J m s₄) (λ_ _=>False) s₃) (λ_ _=>False) s₂) (λ_ _=>False) s₁) (λ_ _=>False) s)
  (n:Nat) (h:J n s):codeAny (model prog w) A (.compLoop (.ListComp elt [⟨target,iter,ifs,0⟩] scope pos) 0 it acc env) R s:=by
 refine codeAny_loop rfl J (λn s hJ=>?_) n h
 show wpAny (model prog w) A ((compTurn (.ListComp elt [⟨target,iter,ifs,0⟩] scope pos) 0 it acc env).onRaise λx=>do noteFrame x env;theTreesLotGoes x) _ _ s
 refine wpAny_noted (wpAny_noRaise ?_)
 rw [compTurn_list]
 refine wpAny_bind (wpAny_standAt (wpAny_bind (thn (turn n s hJ) λr s₁ h₁=>?_)))
 cases r with
 | none=>exact wpAny_pure h₁
 | some v =>
  refine wpAny_bind (thn h₁ λ_ s₂ h₂=>wpAny_bind (thn h₂ λ_ s₃ h₃=>wpAny_bind (thn h₃ λok s₄ h₄=>?_)))
  cases ok with
  | false=>exact wpAny_pure ⟨rfl,h₄⟩
  | true=>exact wpAny_bind (wpAny_bind (thn h₄ λx s₅ h₅=>wpAny_bind (thn h₅ λ_ s₆ h₆=>wpAny_pure (wpAny_pure ⟨rfl,h₆⟩))))
end
def fF (wi:TI) (mk:St->St) (g:TG) (tt:TT) (te:TE):TE:=λσ H Q=>wi σ H λJ H1=>∀ D,H1 D=none->∃ W:Nat->Nat->St->Hp->Prop,(∃ m,W 0 m (mk σ) (upd H1 D (.lst [])))/\∀ i m σ' H',W i m σ' H' ->
 (J.stop i H'/\Q (.ref D) H') \/
 (J.go i H'/\∃ Nx:St->Hp->Prop,(∀ σ'' H'',Nx σ'' H''->∃ m',m' < m/\W (i+1) m' σ'' H'')/\∀ x H'',J.yld i H' x H''->g x σ' H'' λσ2 H2=>tt σ2 H2 λb H3 =>
  if b=true then te σ2 H3 λv H4=>∃ ys,H4 D=some (.lst ys)/\ys.length < sizeLine/\Nx σ2 (upd H4 D (.lst (ys++[v]))) else Nx σ2 H3)
section
variable {X:Cx} {elt iter tg:Expr} {ifs:List Expr} {sc:Scope} {pos:Pos} {wi:TI} {own:List Str} {fr:List Nat} {N':List Str} {g:TG} {tt:TT} {te:TE}
theorem qK {pins:List (Addr × Obj)} {σ:St} {H:Hp} {s:Shared} {cl:List (Str × Addr)} {fp:List Addr} {it:Addr} {J:It} {tn:Nat->Heap->Prop} {E:Value->Shared->Prop} {Q:VK} {RR:Value->Addr->Result->Shared->Prop}
  (I:Inv X pins σ H s) (B:Blk X.N X.env.kindOf sc.names own fr N') (hk:sc.kind=.function) (hc:X.calm=true)
  (sub:∀ x c,cl.lookup x=some c->X.env.cells.lookup x=some c) (has:∀ p ∈ sc.names,p.2=.free->cl.lookup p.1=X.env.cells.lookup p.1)
  (T:kC X.prog X.w X.K tg J fp it tn) (st:tn 0 s.heap) (f2:∀ b ∈ fp,iK X pins H b)
  (hg:∀ cl C s H fp,PG (X.blk sc cl C N' s H fp) tg g) (ht:∀ cl C s H fp,qy (X.blk sc cl C N' s H fp) ifs tt) (he:∀ cl C s H fp,PE (X.blk sc cl C N' s H fp) elt te)
  (hw:∀ D,H D=none->∃ W:Nat->Nat->St->Hp->Prop,(∃ m,W 0 m (mkS own fr σ) (upd H D (.lst [])))/\∀ i m σ' H',W i m σ' H' ->
   (J.stop i H'/\Q (.ref D) H') \/
   (J.go i H'/\∃ Nx:St->Hp->Prop,(∀ σ'' H'',Nx σ'' H''->∃ m',m' < m/\W (i+1) m' σ'' H'')/\∀ x H'',J.yld i H' x H''->g x σ' H'' λσ2 H2=>tt σ2 H2 λb H3 =>
    if b=true then te σ2 H3 λv H4=>∃ ys,H4 D=some (.lst ys)/\ys.length < sizeLine/\Nx σ2 (upd H4 D (.lst (ys++[v]))) else Nx σ2 H3))
  (hRR:∀ D C σ' H' s',D=s.heap.objs.size->s.heap.objs.size≤C->Inv (X.blk sc cl C N' s H fp) [] σ' H' s'->Q (.ref D) H'->RR (.ref D) C (.ok .next) s') :
  wpAny (model X.prog X.w) X.A (newList []) (λacc s₃=>wpAny (model X.prog X.w) X.A (newFunctionEnv sc X.env.globals cl [] X.env.qual none .none (some X.env)) (λcenv s₄ =>
   codeAny (model X.prog X.w) X.A (.compStart (.ListComp elt [⟨tg,iter,ifs,0⟩] sc pos) 0 (.ref it) acc { cenv with scope:=relabel sc X.env }) (RR acc cenv.locals) s₄) E s₃) E s:=by
 have fo:∀ b ∈ fp,b < s.heap.objs.size:=λb hb=>by
  obtain ⟨o,e,_⟩:=T.obj _ _ st b hb
  exact Heap.lt_size e
 refine wpAny_newObj_type (wpAny_newFunctionEnv B.cell (by intro y hy;simp at hy) (λh₁ hns₁ hsb₁=>?_) hk)
 dsimp only at hns₁ hsb₁ ⊢
 generalize hH2:s.heap.push { cls:=.type "list",dict:=none,data:=.seq ([]:List Value).toArray }=G at hns₁ hsb₁ ⊢
 have hG:G.objs.size=s.heap.objs.size+1:=by rw [← hH2,Heap.size_push]
 have hlt:s.heap.objs.size < G.objs.size:=by rw [hG];exact Nat.lt_succ_self _
 have old:∀ b o,s.heap.get? b=some o->h₁.get? b=some o:=λb o e =>
  hsb₁.extBut b o (Nat.ne_of_lt (Nat.lt_trans (Heap.lt_size e) hlt)) (Heap.get?_push_of_some _ (hH2 ▸ Heap.get?_push_of_some _ e))
 have hacc:h₁.get? s.heap.objs.size=some { cls:=.type "list",data:=.seq ([]:List Value).toArray } :=
  hsb₁.extBut _ _ (Nat.ne_of_lt hlt) (Heap.get?_push_of_some _ (hH2 ▸ Heap.get?_push_size _ rfl))
 obtain ⟨W,⟨m0,w0⟩,turn⟩:=hw s.heap.objs.size (I.hok.fresh (Nat.le_refl _))
 have st₁:tn 0 h₁:=T.keep _ _ _ st λb _ o e=>old b o e
 have hns':h₁.Ns G.objs.size (λ_=>none):=by
  have e:(λx=>([]:List (Str × Value)).reverse.lookup x)=(λ_:Str=>(none:Option Value)):=by funext x;rfl
  first
   | exact hns₁
   | (rw [e] at hns₁;exact hns₁)
 have loop:∀ s₃:Shared,s₃={ s with heap:=h₁,toks:=s.toks+([]:List (Str × Value)).length } ->
   codeAny (model X.prog X.w) X.A (.compLoop (.ListComp elt [⟨tg,iter,ifs,0⟩] sc pos) 0 (.ref it) (.ref s.heap.objs.size) (compEnvC sc cl G.objs.size X.env)) (RR (.ref s.heap.objs.size) G.objs.size) s₃:=by
  rintro s₃ rfl
  have I0:=oz (tk:=s.toks+([]:List (Str × Value)).length) I B hk sub has f2 fo rfl hlt hns' old hacc
  have gP:∀ {pins':List (Addr × Obj)} {H':Hp},pins'=[]->(∀ b ∈ fp,H' b=none)->∀ b ∈ fp,iK (X.blk sc cl G.objs.size N' s H fp) pins' H' b:=λep hn b hb=>by
   subst ep
   refine ⟨hn b hb,Nat.ne_of_lt (Nat.lt_trans (fo b hb) hlt),λz=>?_,.inl hb,λx c e=>(f2 b hb).2.2.2.2.1 x c (sub x c e),λp hp=>absurd (show p ∈ ([]:List (Addr × Obj)) from hp) (by simp)⟩
   rcases List.mem_cons.mp (I.stkSub b z) with e | e
   ·exact (f2 b hb).2.1 e
   ·exact (f2 b hb).2.2.1 e
  have fr0:∀ b ∈ fp,upd H s.heap.objs.size (.lst []) b=none:=λb hb=>by
   rw [aK (Nat.ne_of_lt (fo b hb))];exact (f2 b hb).1
  refine j6 (λn s'=>∃ i σ' H',Inv (X.blk sc cl G.objs.size N' s H fp) [] σ' H' s'/\tn i s'.heap/\(∀ b ∈ fp,H' b=none)/\W i n σ' H') ?_ m0 ⟨0,_,_,I0,st₁,fr0,w0⟩
  rintro n s3 ⟨i,σ3,H3,I3,st3,fr3,w3⟩
  rcases turn i n σ3 H3 w3 with ⟨stop,qn⟩ | ⟨go,Nx,hN,step⟩
  ·refine thn (T.done (X.blk sc cl G.objs.size N' s H fp) rfl rfl rfl hc i [] s3 σ3 H3 _ I3 (gP rfl fr3) st3 stop) λr s4 ⟨hr,I4⟩=>?_
   subst hr
   exact hRR _ _ _ _ _ rfl (Nat.le_of_lt hlt) I4 qn
  ·refine thn (T.item (X.blk sc cl G.objs.size N' s H fp) rfl rfl rfl hc i [] s3 σ3 H3 _ I3 (gP rfl fr3) st3 go) λr s4 ⟨u,hr,h4⟩=>?_
   subst hr
   refine thn h4 λ_ s5 ⟨x,H5,I5,r5,y5,st5,fr5⟩=>?_
   have I5':=I5.pinned (gP rfl fr5) (T.obj _ _ st5)
   refine thn (hg cl G.objs.size s H fp _ s5 σ3 H5 x u _ I5' r5 (step x H5 y5)) λ_ s6 ⟨σ6,H6,I6,q6⟩=>?_
   refine thn (ht cl G.objs.size s H fp _ s6 σ6 H6 _ I6 q6) λok s7 ⟨H7,I7,q7⟩=>?_
   have again:∀ {s8:Shared} {H8:Hp},Inv (X.blk sc cl G.objs.size N' s H fp) ([]++jV fp s5.heap) σ6 H8 s8->Nx σ6 H8 ->
     ∃ m,m < n/\∃ i σ' H',Inv (X.blk sc cl G.objs.size N' s H fp) [] σ' H' s8/\tn i s8.heap/\(∀ b ∈ fp,H' b=none)/\W i m σ' H':=λ{s8 H8} I8 n8=>by
    obtain ⟨m',hm,w8⟩:=hN σ6 H8 n8
    refine ⟨m',hm,i+1,σ6,H8,I8.unpinned,T.keep _ _ _ st5 λb hb o e=>(I8.pin (b,o) (List.mem_append_right _ (List.mem_append_right _ (cS hb e)))).1,λb hb=>?_,w8⟩
    obtain ⟨o,e,d⟩:=T.obj _ _ st5 b hb
    exact (I8.pin (b,o) (List.mem_append_right _ (List.mem_append_right _ (cS hb e)))).2.1
   cases ok with
   | false =>
    rw [if_neg Bool.false_ne_true] at q7 ⊢
    exact again I7 q7
   | true =>
    rw [if_pos rfl] at q7 ⊢
    refine thn (he cl G.objs.size s H fp _ s7 σ6 H7 _ I7 q7) λy s8 ⟨v,H8,I8,rv,ys,hD8,hz,nx⟩=>?_
    refine thn (br (X:=X.blk sc cl G.objs.size N' s H fp) _ s8 σ6 H8 (.ref s.heap.objs.size) [v] (.ref s.heap.objs.size) [y] (λ_ H9=>Nx σ6 H9) I8 rfl (.cons rv .nil) ⟨_,ys,v,rfl,rfl,hD8,hz,nx⟩) λ_ s9 ⟨_,H9,I9,_,n9⟩=>?_
    exact again I9 n9
 exact codeAny_compStart_list (loop _ rfl) (T.self _ 0 _ _ _ st₁ (loop _ rfl))
theorem cZ (hi:PI X tg iter wi) (hk:sc.kind=.function) (hb:cR X.N X.env.kindOf sc.names own fr N'=true) (hc:X.calm=true)
  (hg:∀ cl C s H fp,PG (X.blk sc cl C N' s H fp) tg g) (ht:∀ cl C s H fp,qy (X.blk sc cl C N' s H fp) ifs tt) (he:∀ cl C s H fp,PE (X.blk sc cl C N' s H fp) elt te)
  (hs:∀ x,foldedSetIterable iter X.env x=pure x:=by intro _;rfl):PE X (.ListComp elt [⟨tg,iter,ifs,0⟩] sc pos) (fF wi (mkS own fr) g tt te):=by
 intro pins s σ H Q I h
 have B:=sL hb
 obtain ⟨cl,hcl,sub,has⟩:=xO sc X.env λp hp e=>I.ok.has p.1 (B.free p hp e)
 rw [eval_ListComp]
 refine wpAny_comprehension_free (use:=none) rfl hs hcl hk B.loc (thn (hi pins s σ H _ I h) λv s1 h1=>thn h1 λitv s2 h2=>?_)
 obtain ⟨it,fp,tn,J,H2,e,I2,T,st2,f2,body⟩:=h2
 subst e
 refine qK (RR:=λacc C=>compPost (model X.prog X.w) X.A X.xe none (EP X pins σ Q) acc C) I2 B hk hc sub has T st2 f2 hg ht he body ?_
 intro D C σ' H' s' eD hC J' q
 obtain ⟨m,hn,_⟩:=J'.loc
 refine ⟨m,hn,λh' hs'=>⟨.ref D,H',?_,rfl,q⟩⟩
 exact Inv.young I2 (o8 I2 f2 J') hC J'.free hs'
theorem m7 {i:Nat} {y:Str} {py spos:Pos} (hi:PI X tg iter wi) (hk:sc.kind=.function) (hb:cR X.N X.env.kindOf sc.names own fr N'=true) (hc:X.calm=true)
  (hg:∀ cl C s H fp,PG (X.blk sc cl C N' s H fp) tg g) (ht:∀ cl C s H fp,qy (X.blk sc cl C N' s H fp) ifs tt) (he:∀ cl C s H fp,PE (X.blk sc cl C N' s H fp) elt te)
  (hN:X.N.Nodup) (hy:X.N[i]?=some y) (hx:X.env.scope.names.lookup y=some .local)
  (hsw:swapsWith (.ListComp elt [⟨tg,iter,ifs,0⟩] sc pos) (some (.Name y py)) spos.line X.env=pure true)
  (hs:∀ x,foldedSetIterable iter X.env x=pure x:=by intro _;rfl):PS X (.Assign [.Name y py] (.ListComp elt [⟨tg,iter,ifs,0⟩] sc pos) spos) (jY (fF wi (mkS own fr) g tt te) (bq i)):=by
 intro pins s σ H D I h
 have B:=sL hb
 obtain ⟨cl,hcl,sub,has⟩:=xO sc X.env λp hp e=>I.ok.has p.1 (B.free p hp e)
 rw [exec_Assign_Name_used _ _ _ _ hsw]
 refine wpAny_bind (wpAny_standAt (wpAny_bind ?_))
 show wpAny _ _ (do let _ ← comprehension (.ListComp elt [⟨tg,iter,ifs,0⟩] sc pos) sc X.env _ (newList []) false (eval iter X.env) (some (assign (.Name y py) X.env))) _ _ s
 refine wpAny_bind (wpAny_mono (wpAny_comprehension_free (use:=some (assign (.Name y py) X.env)) (Q:=λ_ s'=>SP X pins D .next s') rfl hs hcl hk B.loc
  (thn (hi pins s σ H _ I h) λv s1 h1=>thn h1 λitv s2 h2=>?_)) (λ_ s' hq=>wpAny_pure (wpAny_pure hq)) λ_ _ e=>e)
 obtain ⟨it,fp,tn,J,H2,e,I2,T,st2,f2,body⟩:=h2
 subst e
 refine qK (Q:=λv H'=>D.nx (σ.set i (some v)) H') (RR:=λacc C=>compPost (model X.prog X.w) X.A X.xe (some (assign (.Name y py) X.env)) (λ_ s'=>SP X pins D .next s') acc C) I2 B hk hc sub has T st2 f2 hg ht he body ?_
 intro D' C σ' H' s' eD hC J' q
 have I3:=o8 I2 f2 J'
 show wpAny _ _ (assign (.Name y py) X.env (.ref D')) _ _ s'
 refine wpAny_assign_Name (jv I3 hN hy (.inl hx) (v:=.ref D') rfl (λs4 I4 ⟨a,hsb,ha⟩=>?_) (.inr hx))
 obtain ⟨m,hn,_⟩:=J'.loc
 have hCa:C≠a:=by
  rcases ha with e | e
  ·rw [e];exact Nat.ne_of_gt (Nat.lt_of_lt_of_le I2.lt hC)
  ·obtain ⟨v,z⟩:=I2.cell _ _ e
   exact Nat.ne_of_gt (Nat.lt_of_lt_of_le z.lt hC)
 refine ⟨m,hn.sameBut hsb hCa,λh' hs'=>⟨_,H',?_,q⟩⟩
 exact Inv.young I2 I4 hC J'.free hs'
end
inductive D where
 | non | bl (b:Bool) | int (i:Int) | str (x:Str) | tup (ds:List D)
 | lst
mutual
def Dat (K:PySem.W.Frag) (H:Hp):D->V->Prop
 | .non,v=>v=.non
 | .bl b,v=>v=.bl b
 | .int i,v=>v=.int i
 | .str x,v=>v=.str x
 | .tup ds,v=>∃ a vs,v=.ref a/\SqT K H a vs/\Dats K H ds vs
 | .lst,v=>∃ a vs,v=.ref a/\SqL K H a vs
def Dats (K:PySem.W.Frag) (H:Hp):List D->List V->Prop
 | [],vs=>vs=[]
 | d::ds,vs=>∃ v r,vs=v::r/\Dat K H d v/\Dats K H ds r
end
section
variable {K:PySem.W.Frag} {H H':Hp}
variable {a:Addr} {vs:List V} {ds:List D}
theorem Dat.tupI (h:SqT K H a vs) (r:Dats K H ds vs):Dat K H (.tup ds) (.ref a):=by
 unfold Dat;exact ⟨a,vs,rfl,h,r⟩
theorem Dats.nil:Dats K H [] []:=by unfold Dats;rfl
variable {d:D} {v:V}
theorem Dats.cons (h:Dat K H d v) (r:Dats K H ds vs):Dats K H (d::ds) (v::vs):=by
 unfold Dats;exact ⟨v,vs,rfl,h,r⟩
theorem Dat.intI (i:Int):Dat K H (.int i) (.int i):=by unfold Dat;rfl
theorem Dat.strI (x:Str):Dat K H (.str x) (.str x):=by unfold Dat;rfl
theorem Dat.blI (b:Bool):Dat K H (.bl b) (.bl b):=by unfold Dat;rfl
theorem Dat.nonI:Dat K H .non .non:=by unfold Dat;rfl
theorem Dat.lstI (h:SqL K H a vs):Dat K H .lst (.ref a):=by unfold Dat;exact ⟨a,vs,rfl,h⟩
theorem Dat.tupE (h:Dat K H (.tup ds) v):∃ a vs,v=.ref a/\SqT K H a vs/\Dats K H ds vs:=by
 unfold Dat at h;exact h
theorem Dat.intE {i:Int} (h:Dat K H (.int i) v):v=.int i:=by unfold Dat at h;exact h
theorem Dat.strE {x:Str} (h:Dat K H (.str x) v):v=.str x:=by unfold Dat at h;exact h
theorem Dat.blE {b:Bool} (h:Dat K H (.bl b) v):v=.bl b:=by unfold Dat at h;exact h
theorem Dat.nonE (h:Dat K H .non v):v=.non:=by unfold Dat at h;exact h
theorem Dat.lstE (h:Dat K H .lst v):∃ a vs,v=.ref a/\SqL K H a vs:=by unfold Dat at h;exact h
theorem Dats.nilE (h:Dats K H [] vs):vs=[]:=by unfold Dats at h;exact h
theorem Dats.consE (h:Dats K H (d::ds) vs):∃ v r,vs=v::r/\Dat K H d v/\Dats K H ds r:=by
 unfold Dats at h;exact h
structure dD (K:PySem.W.Frag) (H H':Hp):Prop where
 tup:∀ a xs,SqT K H a xs->SqT K H' a xs
 lst:∀ a xs,SqL K H a xs->∃ ys,SqL K H' a ys
mutual
theorem Dat.mono (g:dD K H H'):∀ (d:D) {v:V},Dat K H d v->Dat K H' d v
 | .non,v,h=>by unfold Dat at h ⊢;exact h
 | .bl b,v,h=>by unfold Dat at h ⊢;exact h
 | .int i,v,h=>by unfold Dat at h ⊢;exact h
 | .str x,v,h=>by unfold Dat at h ⊢;exact h
 | .tup ds,v,h=>by
  obtain ⟨a,vs,e,q,r⟩:=h.tupE
  subst e
  exact Dat.tupI (g.tup _ _ q) (Dats.mono g ds r)
 | .lst,v,h=>by
  obtain ⟨a,vs,e,q⟩:=h.lstE
  subst e
  obtain ⟨ys,q'⟩:=g.lst _ _ q
  exact Dat.lstI q'
theorem Dats.mono (g:dD K H H'):∀ (ds:List D) {vs:List V},Dats K H ds vs->Dats K H' ds vs
 | [],vs,h=>by unfold Dats at h ⊢;exact h
 | d::ds,vs,h=>by
  obtain ⟨v,r,e,h1,h2⟩:=h.consE
  subst e
  exact Dats.cons (Dat.mono g d h1) (Dats.mono g ds h2)
end
theorem Dats.length:∀ {ds:List D} {vs:List V},Dats K H ds vs->ds.length=vs.length
 | [],vs,h=>by rw [h.nilE];rfl
 | d::ds,vs,h=>by
  obtain ⟨v,r,e,h1,h2⟩:=h.consE
  subst e
  rw [List.length_cons,List.length_cons,Dats.length h2]
theorem Dats.get:∀ {ds:List D} {vs:List V} {i:Nat} {d:D},Dats K H ds vs->ds[i]?=some d->∃ v,vs[i]?=some v/\Dat K H d v
 | [],_,i,d,_,e=>by simp at e
 | d0::ds,vs,0,d,h,e=>by
  obtain ⟨v,r,e1,h1,h2⟩:=h.consE
  subst e1
  simp at e
  subst e
  exact ⟨v,rfl,h1⟩
 | d0::ds,vs,i+1,d,h,e=>by
  obtain ⟨v,r,e1,h1,h2⟩:=h.consE
  subst e1
  obtain ⟨u,q1,q2⟩:=Dats.get (i:=i) (d:=d) h2 (by simpa using e)
  exact ⟨u,by simpa using q1,q2⟩
theorem Dats.getV:∀ {ds:List D} {vs:List V} {i:Nat} {v:V},Dats K H ds vs->vs[i]?=some v->∃ d,ds[i]?=some d/\Dat K H d v
 | [],vs,i,v,h,e=>by rw [h.nilE] at e;simp at e
 | d0::ds,vs,0,v,h,e=>by
  obtain ⟨u,r,e1,h1,h2⟩:=h.consE
  subst e1
  simp at e
  subst e
  exact ⟨d0,rfl,h1⟩
 | d0::ds,vs,i+1,v,h,e=>by
  obtain ⟨u,r,e1,h1,h2⟩:=h.consE
  subst e1
  obtain ⟨d,q1,q2⟩:=Dats.getV (i:=i) (v:=v) h2 (by simpa using e)
  exact ⟨d,by simpa using q1,q2⟩
theorem Dats.append:∀ {ds es:List D} {vs us:List V},Dats K H ds vs->Dats K H es us->Dats K H (ds++es) (vs++us)
 | [],es,vs,us,h,h'=>by rw [h.nilE];exact h'
 | d::ds,es,vs,us,h,h'=>by
  obtain ⟨v,r,e,h1,h2⟩:=h.consE
  subst e
  exact Dats.cons h1 (Dats.append h2 h')
end
mutual
def eqD:D->D->Bool
 | .non,.non=>true
 | .bl a,.bl b=>a == b
 | .int a,.int b=>a == b
 | .bl a,.int b=>(if a then 1 else 0) == b
 | .int a,.bl b=>a == (if b then 1 else 0)
 | .str a,.str b=>a == b
 | .tup a,.tup b=>eqDs a b
 | _,_=>false
def eqDs:List D->List D->Bool
 | [],[]=>true
 | a::r,b::q=>eqD a b && eqDs r q
 | _,_=>false
end
mutual
def gz:D->Nat
 | .tup ds=>deepDs ds+1
 | _=>0
def deepDs:List D->Nat
 | []=>0
 | d::ds=>max (gz d) (deepDs ds)
end
mutual
def noL:D->Bool
 | .tup ds=>noLs ds
 | .lst=>false
 | _=>true
def noLs:List D->Bool
 | []=>true
 | d::ds=>noL d && noLs ds
end
def eAt (a b:List D) (j:Nat):Bool:=match a[j]?,b[j]? with
 | some x,some y=>eqD x y
 | _,_=>false
theorem md (n:Nat) (e:Nat->Bool):(List.range (n+1)).all e=(e 0 && (List.range n).all λj=>e (j+1)):=by
 rw [List.range_succ_eq_map,List.all_cons,List.all_map]
 rfl
theorem ij:∀ a b:List D,((List.range (min a.length b.length)).all (eAt a b) && a.length == b.length)=eqDs a b
 | [],[]=>by unfold eqDs;rfl
 | [],y::b=>by unfold eqDs;simp
 | x::a,[]=>by unfold eqDs;simp
 | x::a,y::b=>by
  have ih:=ij a b
  unfold eqDs
  rw [← ih,List.length_cons,List.length_cons,Nat.succ_min_succ,md]
  have e0:eAt (x::a) (y::b) 0=eqD x y:=rfl
  have e1:(λj=>eAt (x::a) (y::b) (j+1))=eAt a b:=by
   funext j
   simp [eAt]
  rw [e0,e1,Bool.and_assoc]
  congr 2
  simp
theorem qM {a b:List D} (h:a.length=b.length):(List.range a.length).all (eAt a b)=eqDs a b:=by
 have q:=ij a b
 rw [← h,Nat.min_self] at q
 rw [← q]
 simp
mutual
theorem mz:∀ d:D,noL d=true->eqD d d=true
 | .non,_=>by unfold eqD;rfl
 | .bl b,_=>by unfold eqD;simp
 | .int i,_=>by unfold eqD;simp
 | .str x,_=>by unfold eqD;simp
 | .tup ds,h=>by unfold eqD;unfold noL at h;exact eqDs_refl ds h
 | .lst,h=>by unfold noL at h;cases h
theorem eqDs_refl:∀ ds:List D,noLs ds=true->eqDs ds ds=true
 | [],_=>by unfold eqDs;rfl
 | d::ds,h=>by
  unfold noLs at h
  rw [Bool.and_eq_true] at h
  unfold eqDs
  rw [mz d h.1,eqDs_refl ds h.2]
  rfl
end
section
variable {X:Cx} {pins:List (Addr × Obj)} {σ:St} {H:Hp} {s:Shared}
mutual
theorem uM (I:Inv X pins σ H s):∀ (d e:D) {v:V},noL d=true->Dat X.K H d v->Dat X.K H e v->noL e=true->d=e
 | .non,e,v,hn,h,h',hn'=>by
  have z:=h.nonE;subst z
  cases e with
  | non=>rfl
  | bl b=>exact nomatch h'.blE
  | int i=>exact nomatch h'.intE
  | str x=>exact nomatch h'.strE
  | tup ds=>obtain ⟨_,_,q,_⟩:=h'.tupE;exact nomatch q
  | lst=>obtain ⟨_,_,q,_⟩:=h'.lstE;exact nomatch q
 | .bl b,e,v,hn,h,h',hn'=>by
  have z:=h.blE;subst z
  cases e with
  | non=>exact nomatch h'.nonE
  | bl c=>have q:=h'.blE;injection q with q;rw [q]
  | int i=>exact nomatch h'.intE
  | str x=>exact nomatch h'.strE
  | tup ds=>obtain ⟨_,_,q,_⟩:=h'.tupE;exact nomatch q
  | lst=>obtain ⟨_,_,q,_⟩:=h'.lstE;exact nomatch q
 | .int i,e,v,hn,h,h',hn'=>by
  have z:=h.intE;subst z
  cases e with
  | non=>exact nomatch h'.nonE
  | bl c=>exact nomatch h'.blE
  | int j=>have q:=h'.intE;injection q with q;rw [q]
  | str x=>exact nomatch h'.strE
  | tup ds=>obtain ⟨_,_,q,_⟩:=h'.tupE;exact nomatch q
  | lst=>obtain ⟨_,_,q,_⟩:=h'.lstE;exact nomatch q
 | .str x,e,v,hn,h,h',hn'=>by
  have z:=h.strE;subst z
  cases e with
  | non=>exact nomatch h'.nonE
  | bl c=>exact nomatch h'.blE
  | int j=>exact nomatch h'.intE
  | str y=>have q:=h'.strE;injection q with q;rw [q]
  | tup ds=>obtain ⟨_,_,q,_⟩:=h'.tupE;exact nomatch q
  | lst=>obtain ⟨_,_,q,_⟩:=h'.lstE;exact nomatch q
 | .tup ds,e,v,hn,h,h',hn'=>by
  obtain ⟨a,vs,z,q,r⟩:=h.tupE
  subst z
  cases e with
  | non=>exact nomatch h'.nonE
  | bl c=>exact nomatch h'.blE
  | int j=>exact nomatch h'.intE
  | str y=>exact nomatch h'.strE
  | tup es =>
   obtain ⟨a',vs',z,q',r'⟩:=h'.tupE
   cases z
   have ev:=I.tuple_inj q q'
   subst ev
   unfold noL at hn hn'
   rw [dats_inj I ds es hn r r' hn']
  | lst=>unfold noL at hn';cases hn'
 | .lst,e,v,hn,h,h',hn'=>by unfold noL at hn;cases hn
theorem dats_inj (I:Inv X pins σ H s):∀ (ds es:List D) {vs:List V},noLs ds=true->Dats X.K H ds vs->Dats X.K H es vs->noLs es=true->ds=es
 | [],es,vs,_,h,h',_=>by
  have z:=h.nilE;subst z
  cases es with
  | nil=>rfl
  | cons e es=>obtain ⟨_,_,q,_⟩:=h'.consE;exact nomatch q
 | d::ds,es,vs,hn,h,h',hn'=>by
  obtain ⟨v,r,z,h1,h2⟩:=h.consE
  subst z
  cases es with
  | nil=>exact nomatch h'.nilE
  | cons e es =>
   obtain ⟨v',r',z,h1',h2'⟩:=h'.consE
   injection z with z1 z2
   subst z1 z2
   unfold noLs at hn hn'
   rw [Bool.and_eq_true] at hn hn'
   rw [uM I d e hn.1 h1 h1' hn'.1,dats_inj I ds es hn.2 h2 h2' hn'.2]
end
end
theorem kI (A:Around):A.in1.units=A.units+1:=rfl
section
variable {X:Cx} {pins:List (Addr × Obj)} {σ:St} {H:Hp} {s:Shared}
theorem mv:∀ {ds:List D} {j:Nat} {d:D},ds[j]?=some d->gz d≤deepDs ds
 | [],_,_,e=>by simp at e
 | d0::ds,0,d,e=>by simp at e;subst e;unfold deepDs;exact Nat.le_max_left _ _
 | d0::ds,j+1,d,e=>by
  have q:=mv (ds:=ds) (j:=j) (d:=d) (by simpa using e)
  unfold deepDs
  exact Nat.le_trans q (Nat.le_max_right _ _)
theorem mQ:∀ {ds:List D} {j:Nat} {d:D},noLs ds=true->ds[j]?=some d->noL d=true
 | [],_,_,_,e=>by simp at e
 | d0::ds,0,d,h,e=>by simp at e;subst e;unfold noLs at h;rw [Bool.and_eq_true] at h;exact h.1
 | d0::ds,j+1,d,h,e=>by
  unfold noLs at h
  rw [Bool.and_eq_true] at h
  exact mQ (ds:=ds) (j:=j) (d:=d) h.2 (by simpa using e)
variable {A:Around} {ds es:List D} {xs ys:List V}
theorem my {us ws:List Value} (n:Nat)
  (all:∀ (d e:D) (x y:V) (u w:Value),gz d≤n->noL d=true->noL e=true->Dat X.K H d x->Dat X.K H e y->RelV x u->RelV y w->SeqAt.EqAt A s u w (eqD d e))
  (hn:deepDs ds≤n) (h1:noLs ds=true) (h2:noLs es=true) (r1:Dats X.K H ds xs) (r2:Dats X.K H es ys) (v1:Vals xs us) (v2:Vals ys ws) :
  ∀ j (k1:j < us.toArray.size) (k2:j < ws.toArray.size),SeqAt.EqAt A s us.toArray[j] ws.toArray[j] (eAt ds es j):=by
 intro j k1 k2
 have l1:j < xs.length:=by rw [v1.length];simpa using k1
 have l2:j < ys.length:=by rw [v2.length];simpa using k2
 obtain ⟨u,eu,ru⟩:=v1.get (i:=j) (x:=xs[j]) (List.getElem?_eq_getElem l1)
 obtain ⟨w,ew,rw'⟩:=v2.get (i:=j) (x:=ys[j]) (List.getElem?_eq_getElem l2)
 obtain ⟨d,ed,qd⟩:=r1.getV (i:=j) (v:=xs[j]) (List.getElem?_eq_getElem l1)
 obtain ⟨e,ee,qe⟩:=r2.getV (i:=j) (v:=ys[j]) (List.getElem?_eq_getElem l2)
 have z1:us.toArray[j]=u:=by
  have:us[j]?=some u:=eu
  have k1':j < us.length:=by simpa using k1
  rw [List.getElem?_eq_getElem k1'] at this
  simpa using Option.some.inj this
 have z2:ws.toArray[j]=w:=by
  have:ws[j]?=some w:=ew
  have k2':j < ws.length:=by simpa using k2
  rw [List.getElem?_eq_getElem k2'] at this
  simpa using Option.some.inj this
 have z3:eAt ds es j=eqD d e:=by unfold eAt;rw [ed,ee]
 rw [z1,z2,z3]
 exact all d e _ _ u w (Nat.le_trans (mv ed) hn) (mQ h1 ed) (mQ h2 ee) qd qe ru rw'
theorem rR {a b:Addr} (I:Inv X pins σ H s) (hu:A.units < cLine) (n:Nat)
  (all:∀ (d e:D) (x y:V) (u w:Value),gz d≤n->noL d=true->noL e=true->Dat X.K H d x->Dat X.K H e y->RelV x u->RelV y w->SeqAt.EqAt A.in1 s u w (eqD d e))
  (hn:deepDs ds≤n) (h1:noLs ds=true) (h2:noLs es=true) (r1:Dats X.K H ds xs) (r2:Dats X.K H es ys) (q1:SqT X.K H a xs) (q2:SqT X.K H b ys) :
  SeqAt.RcAt A s (.ref a) (.ref b) (eqDs ds es)/\SeqAt.RcNeAt A s (.ref a) (.ref b) (!eqDs ds es):=by
 obtain ⟨us,v1,t1,_⟩:=I.tuple q1
 obtain ⟨ws,v2,t2,_⟩:=I.tuple q2
 have hi:=my (X:=X) (H:=H) (s:=s) n all hn h1 h2 r1 r2 v1 v2
 have p:=SeqAt.RcAt.tuples (show s.heap.IsTuple a us.toArray from t1) (show s.heap.IsTuple b ws.toArray from t2) hu hi
 have p':=SeqAt.RcNeAt.tuples (show s.heap.IsTuple a us.toArray from t1) (show s.heap.IsTuple b ws.toArray from t2) hu hi
 have e1:us.toArray.size=ds.length:=by rw [List.size_toArray,← v1.length,r1.length]
 have e2:ws.toArray.size=es.length:=by rw [List.size_toArray,← v2.length,r2.length]
 rw [e1,e2,ij] at p p'
 exact ⟨p,p'⟩
theorem xS (I:Inv X pins σ H s):∀ (n:Nat) (A:Around) (d e:D) (x y:V) (u w:Value),A.units+n+1 < cLine->gz d≤n->noL d=true->noL e=true->Dat X.K H d x->Dat X.K H e y->RelV x u->RelV y w->SeqAt.EqAt A s u w (eqD d e):=by
 intro n
 induction n with
 | zero =>
  intro A d e x y u w hu hn h1 h2 q1 q2 r1 r2
  exact base I A d e x y u w (by omega) h1 h2 q1 q2 r1 r2 λds es a b xs ys ed ee=>by
   subst ed
   unfold gz at hn
   omega
 | succ n ih =>
  intro A d e x y u w hu hn h1 h2 q1 q2 r1 r2
  refine base I A d e x y u w (by omega) h1 h2 q1 q2 r1 r2 λds es a b xs ys ed ee t1 t2 s1 s2 hne=>?_
  subst ed ee
  unfold gz at hn
  unfold noL at h1 h2
  have p:=(rR (A:=A) (ds:=ds) (es:=es) I (by omega) n (λd e x y u w k1 k2 k3 k4 k5 k6 k7=>ih A.in1 d e x y u w (by rw [kI];omega) k1 k2 k3 k4 k5 k6 k7) (by omega) h1 h2 t1 t2 s1 s2).1
  unfold eqD
  exact .of_refs hne p
where
 base (I:Inv X pins σ H s) (A:Around) (d e:D) (x y:V) (u w:Value) (hu:A.units < cLine) (h1:noL d=true) (h2:noL e=true) (q1:Dat X.K H d x) (q2:Dat X.K H e y) (r1:RelV x u) (r2:RelV y w)
   (tt:∀ (ds es:List D) (a b:Addr) (xs ys:List V),d=.tup ds->e=.tup es->Dats X.K H ds xs->Dats X.K H es ys->SqT X.K H a xs->SqT X.K H b ys->a≠b->SeqAt.EqAt A s (.ref a) (.ref b) (eqD (.tup ds) (.tup es))) :
   SeqAt.EqAt A s u w (eqD d e):=by
  cases d with
  | lst=>unfold noL at h1;cases h1
  | non =>
   have z:=q1.nonE;subst z;cases r1
   cases e with
   | lst=>unfold noL at h2;cases h2
   | non=>have z:=q2.nonE;subst z;cases r2;unfold eqD;exact SeqAt.EqAt.same _
   | bl b=>have z:=q2.blE;subst z;cases r2;unfold eqD;exact SeqAt.EqAt.none_bool b
   | int i=>have z:=q2.intE;subst z;obtain ⟨t,rfl⟩:=r2;unfold eqD;exact SeqAt.EqAt.none_int i t
   | str i=>have z:=q2.strE;subst z;obtain ⟨t,rfl⟩:=r2;unfold eqD;exact SeqAt.EqAt.none_str i t
   | tup es=>obtain ⟨b,ys,z,s2,t2⟩:=q2.tupE;subst z;cases r2;obtain ⟨ws,v2,p2,_⟩:=I.tuple s2;unfold eqD;exact SeqAt.EqAt.none_tuple (show s.heap.IsTuple b ws.toArray from p2) hu
  | bl c =>
   have z:=q1.blE;subst z;cases r1
   cases e with
   | lst=>unfold noL at h2;cases h2
   | non=>have z:=q2.nonE;subst z;cases r2;unfold eqD;exact SeqAt.EqAt.bool_none c
   | bl b=>have z:=q2.blE;subst z;cases r2;unfold eqD;exact SeqAt.EqAt.bool_bool c b
   | int i=>have z:=q2.intE;subst z;obtain ⟨t,rfl⟩:=r2;unfold eqD;exact SeqAt.EqAt.bool_int c i t
   | str i=>have z:=q2.strE;subst z;obtain ⟨t,rfl⟩:=r2;unfold eqD;exact SeqAt.EqAt.bool_str c i t
   | tup es=>obtain ⟨b,ys,z,s2,t2⟩:=q2.tupE;subst z;cases r2;obtain ⟨ws,v2,p2,_⟩:=I.tuple s2;unfold eqD;exact SeqAt.EqAt.bool_tuple c (show s.heap.IsTuple b ws.toArray from p2) hu
  | int c =>
   have z:=q1.intE;subst z;obtain ⟨tc,rfl⟩:=r1
   cases e with
   | lst=>unfold noL at h2;cases h2
   | non=>have z:=q2.nonE;subst z;cases r2;unfold eqD;exact SeqAt.EqAt.int_none c tc
   | bl b=>have z:=q2.blE;subst z;cases r2;unfold eqD;exact SeqAt.EqAt.int_bool c tc b
   | int i=>have z:=q2.intE;subst z;obtain ⟨t,rfl⟩:=r2;unfold eqD;exact SeqAt.EqAt.int_int c tc i t
   | str i=>have z:=q2.strE;subst z;obtain ⟨t,rfl⟩:=r2;unfold eqD;exact SeqAt.EqAt.int_str c tc i t
   | tup es=>obtain ⟨b,ys,z,s2,t2⟩:=q2.tupE;subst z;cases r2;obtain ⟨ws,v2,p2,_⟩:=I.tuple s2;unfold eqD;exact SeqAt.EqAt.int_tuple c tc (show s.heap.IsTuple b ws.toArray from p2) hu
  | str c =>
   have z:=q1.strE;subst z;obtain ⟨tc,rfl⟩:=r1
   cases e with
   | lst=>unfold noL at h2;cases h2
   | non=>have z:=q2.nonE;subst z;cases r2;unfold eqD;exact SeqAt.EqAt.str_none c tc
   | bl b=>have z:=q2.blE;subst z;cases r2;unfold eqD;exact SeqAt.EqAt.str_bool c tc b
   | int i=>have z:=q2.intE;subst z;obtain ⟨t,rfl⟩:=r2;unfold eqD;exact SeqAt.EqAt.str_int c tc i t
   | str i=>have z:=q2.strE;subst z;obtain ⟨t,rfl⟩:=r2;unfold eqD;exact SeqAt.EqAt.str_str c tc i t
   | tup es=>obtain ⟨b,ys,z,s2,t2⟩:=q2.tupE;subst z;cases r2;obtain ⟨ws,v2,p2,_⟩:=I.tuple s2;unfold eqD;exact SeqAt.EqAt.str_tuple c tc (show s.heap.IsTuple b ws.toArray from p2) hu
  | tup ds =>
   have q1':=q1
   obtain ⟨a,xs,z,s1,t1⟩:=q1.tupE;subst z;cases r1;obtain ⟨us,v1,p1,_⟩:=I.tuple s1
   have p1':s.heap.IsTuple a us.toArray:=p1
   cases e with
   | lst=>unfold noL at h2;cases h2
   | non=>have z:=q2.nonE;subst z;cases r2;unfold eqD;exact SeqAt.EqAt.tuple_none p1' hu
   | bl b=>have z:=q2.blE;subst z;cases r2;unfold eqD;exact SeqAt.EqAt.tuple_bool b p1' hu
   | int i=>have z:=q2.intE;subst z;obtain ⟨t,rfl⟩:=r2;unfold eqD;exact SeqAt.EqAt.tuple_int i t p1' hu
   | str i=>have z:=q2.strE;subst z;obtain ⟨t,rfl⟩:=r2;unfold eqD;exact SeqAt.EqAt.tuple_str i t p1' hu
   | tup es =>
    have q2':=q2
    obtain ⟨b,ys,z,s2,t2⟩:=q2.tupE;subst z;cases r2
    by_cases hab:a=b
    ·subst hab
     have ee:=uM I (.tup ds) (.tup es) h1 q1' q2' h2
     rw [← ee,mz _ h1]
     exact SeqAt.EqAt.same _
    ·exact tt ds es a b xs ys rfl rfl t1 t2 s1 s2 hab
theorem DO (I:Inv X pins σ H s) (n:Nat) (A:Around) (d e:D) (x y:V) (u w:Value) (hu:A.units+n+2 < cLine) (hn:gz d≤n+1) (h1:noL d=true) (h2:noL e=true) (q1:Dat X.K H d x) (q2:Dat X.K H e y) (r1:RelV x u) (r2:RelV y w) :
  SeqAt.RcAt A s u w (eqD d e)/\SeqAt.RcNeAt A s u w (!eqD d e):=by
 have hu':A.units < cLine:=by omega
 cases d with
 | lst=>unfold noL at h1;cases h1
 | non =>
  have z:=q1.nonE;subst z;cases r1
  cases e with
  | lst=>unfold noL at h2;cases h2
  | non=>have z:=q2.nonE;subst z;cases r2;unfold eqD;exact ⟨SeqAt.RcAt.none_none,SeqAt.RcNeAt.none_none⟩
  | bl b=>have z:=q2.blE;subst z;cases r2;unfold eqD;exact ⟨SeqAt.RcAt.none_bool b,SeqAt.RcNeAt.none_bool b⟩
  | int i=>have z:=q2.intE;subst z;obtain ⟨t,rfl⟩:=r2;unfold eqD;exact ⟨SeqAt.RcAt.none_int i t,SeqAt.RcNeAt.none_int i t⟩
  | str i=>have z:=q2.strE;subst z;obtain ⟨t,rfl⟩:=r2;unfold eqD;exact ⟨SeqAt.RcAt.none_str i t,SeqAt.RcNeAt.none_str i t⟩
  | tup es=>obtain ⟨b,ys,z,s2,t2⟩:=q2.tupE;subst z;cases r2;obtain ⟨ws,v2,p2,_⟩:=I.tuple s2;unfold eqD;exact ⟨SeqAt.RcAt.none_tuple (show s.heap.IsTuple b ws.toArray from p2) hu',SeqAt.RcNeAt.none_tuple (show s.heap.IsTuple b ws.toArray from p2) hu'⟩
 | bl c =>
  have z:=q1.blE;subst z;cases r1
  cases e with
  | lst=>unfold noL at h2;cases h2
  | non=>have z:=q2.nonE;subst z;cases r2;unfold eqD;exact ⟨SeqAt.RcAt.bool_none c,SeqAt.RcNeAt.bool_none c⟩
  | bl b=>have z:=q2.blE;subst z;cases r2;unfold eqD;exact ⟨SeqAt.RcAt.bool_bool c b,SeqAt.RcNeAt.bool_bool c b⟩
  | int i=>have z:=q2.intE;subst z;obtain ⟨t,rfl⟩:=r2;unfold eqD;exact ⟨SeqAt.RcAt.bool_int c i t,SeqAt.RcNeAt.bool_int c i t⟩
  | str i=>have z:=q2.strE;subst z;obtain ⟨t,rfl⟩:=r2;unfold eqD;exact ⟨SeqAt.RcAt.bool_str c i t,SeqAt.RcNeAt.bool_str c i t⟩
  | tup es=>obtain ⟨b,ys,z,s2,t2⟩:=q2.tupE;subst z;cases r2;obtain ⟨ws,v2,p2,_⟩:=I.tuple s2;unfold eqD;exact ⟨SeqAt.RcAt.bool_tuple c (show s.heap.IsTuple b ws.toArray from p2) hu',SeqAt.RcNeAt.bool_tuple c (show s.heap.IsTuple b ws.toArray from p2) hu'⟩
 | int c =>
  have z:=q1.intE;subst z;obtain ⟨tc,rfl⟩:=r1
  cases e with
  | lst=>unfold noL at h2;cases h2
  | non=>have z:=q2.nonE;subst z;cases r2;unfold eqD;exact ⟨SeqAt.RcAt.int_none c tc,SeqAt.RcNeAt.int_none c tc⟩
  | bl b=>have z:=q2.blE;subst z;cases r2;unfold eqD;exact ⟨SeqAt.RcAt.int_bool c tc b,SeqAt.RcNeAt.int_bool c tc b⟩
  | int i=>have z:=q2.intE;subst z;obtain ⟨t,rfl⟩:=r2;unfold eqD;exact ⟨SeqAt.RcAt.int_int c tc i t,SeqAt.RcNeAt.int_int c tc i t⟩
  | str i=>have z:=q2.strE;subst z;obtain ⟨t,rfl⟩:=r2;unfold eqD;exact ⟨SeqAt.RcAt.int_str c tc i t,SeqAt.RcNeAt.int_str c tc i t⟩
  | tup es=>obtain ⟨b,ys,z,s2,t2⟩:=q2.tupE;subst z;cases r2;obtain ⟨ws,v2,p2,_⟩:=I.tuple s2;unfold eqD;exact ⟨SeqAt.RcAt.int_tuple c tc (show s.heap.IsTuple b ws.toArray from p2) hu',SeqAt.RcNeAt.int_tuple c tc (show s.heap.IsTuple b ws.toArray from p2) hu'⟩
 | str c =>
  have z:=q1.strE;subst z;obtain ⟨tc,rfl⟩:=r1
  cases e with
  | lst=>unfold noL at h2;cases h2
  | non=>have z:=q2.nonE;subst z;cases r2;unfold eqD;exact ⟨SeqAt.RcAt.str_none c tc,SeqAt.RcNeAt.str_none c tc⟩
  | bl b=>have z:=q2.blE;subst z;cases r2;unfold eqD;exact ⟨SeqAt.RcAt.str_bool c tc b,SeqAt.RcNeAt.str_bool c tc b⟩
  | int i=>have z:=q2.intE;subst z;obtain ⟨t,rfl⟩:=r2;unfold eqD;exact ⟨SeqAt.RcAt.str_int c tc i t,SeqAt.RcNeAt.str_int c tc i t⟩
  | str i=>have z:=q2.strE;subst z;obtain ⟨t,rfl⟩:=r2;unfold eqD;exact ⟨SeqAt.RcAt.str_str c tc i t,SeqAt.RcNeAt.str_str c tc i t⟩
  | tup es=>obtain ⟨b,ys,z,s2,t2⟩:=q2.tupE;subst z;cases r2;obtain ⟨ws,v2,p2,_⟩:=I.tuple s2;unfold eqD;exact ⟨SeqAt.RcAt.str_tuple c tc (show s.heap.IsTuple b ws.toArray from p2) hu',SeqAt.RcNeAt.str_tuple c tc (show s.heap.IsTuple b ws.toArray from p2) hu'⟩
 | tup ds =>
  obtain ⟨a,xs,z,s1,t1⟩:=q1.tupE;subst z;cases r1;obtain ⟨us,v1,p1,_⟩:=I.tuple s1
  have p1':s.heap.IsTuple a us.toArray:=p1
  cases e with
  | lst=>unfold noL at h2;cases h2
  | non=>have z:=q2.nonE;subst z;cases r2;unfold eqD;exact ⟨SeqAt.RcAt.tuple_none p1' hu',SeqAt.RcNeAt.tuple_none p1' hu'⟩
  | bl b=>have z:=q2.blE;subst z;cases r2;unfold eqD;exact ⟨SeqAt.RcAt.tuple_bool b p1' hu',SeqAt.RcNeAt.tuple_bool b p1' hu'⟩
  | int i=>have z:=q2.intE;subst z;obtain ⟨t,rfl⟩:=r2;unfold eqD;exact ⟨SeqAt.RcAt.tuple_int i t p1' hu',SeqAt.RcNeAt.tuple_int i t p1' hu'⟩
  | str i=>have z:=q2.strE;subst z;obtain ⟨t,rfl⟩:=r2;unfold eqD;exact ⟨SeqAt.RcAt.tuple_str i t p1' hu',SeqAt.RcNeAt.tuple_str i t p1' hu'⟩
  | tup es =>
   obtain ⟨b,ys,z,s2,t2⟩:=q2.tupE;subst z;cases r2
   unfold gz at hn
   unfold noL at h1 h2
   unfold eqD
   exact rR (A:=A) (ds:=ds) (es:=es) I hu' n (λd e x y u w k1 k2 k3 k4 k5 k6 k7=>xS I n A.in1 d e x y u w (by rw [kI];omega) k1 k2 k3 k4 k5 k6 k7) (by omega) h1 h2 t1 t2 s1 s2
theorem Di (I:Inv X pins σ H s) (n:Nat) (A:Around) (ds es:List D) (a b:Addr) (xs ys:List V) (hu:A.units+n+2 < cLine) (hn:deepDs ds≤n) (h1:noLs ds=true) (h2:noLs es=true) (q1:SqL X.K H a xs) (q2:SqL X.K H b ys) (r1:Dats X.K H ds xs) (r2:Dats X.K H es ys) :
  SeqAt.RcAt A s (.ref a) (.ref b) (eqDs ds es)/\SeqAt.RcNeAt A s (.ref a) (.ref b) (!eqDs ds es):=by
 have hu':A.units < cLine:=by omega
 obtain ⟨us,v1,p1,_⟩:=I.list q1
 obtain ⟨ws,v2,p2,_⟩:=I.list q2
 have e1:us.toArray.size=ds.length:=by rw [List.size_toArray,← v1.length,r1.length]
 have e2:ws.toArray.size=es.length:=by rw [List.size_toArray,← v2.length,r2.length]
 have hi:=my (X:=X) (H:=H) (s:=s) (A:=A.in1) n (λd e x y u w k1 k2 k3 k4 k5 k6 k7=>xS I n A.in1 d e x y u w (by rw [kI];omega) k1 k2 k3 k4 k5 k6 k7) hn h1 h2 r1 r2 v1 v2
 by_cases hl:ds.length=es.length
 ·have hsz:us.toArray.size=ws.toArray.size:=by rw [e1,e2,hl]
  have p:=SeqAt.RcAt.lists p1.isList p2.isList hsz hu' hi
  have p':=SeqAt.RcNeAt.lists p1.isList p2.isList hsz hu' hi
  rw [e1,qM hl] at p p'
  exact ⟨p,p'⟩
 ·have hsz:(us.toArray.size != ws.toArray.size)=true:=by rw [e1,e2];simpa using hl
  have z:eqDs ds es=false:=by
   rw [← ij]
   have:(ds.length == es.length)=false:=by simpa using hl
   rw [this,Bool.and_false]
  rw [z]
  exact ⟨SeqAt.RcAt.lists_lengths p1.isList p2.isList hsz hu',SeqAt.RcNeAt.lists_lengths p1.isList p2.isList hsz hu'⟩
end
section
variable {X:Cx} {k:Nat}
def Dc (K:PySem.W.Frag) (neg:Bool):R2:=λx y H Q=>∃ d e,Dat K H d x/\Dat K H e y/\noL d=true/\noL e=true/\gz d≤20/\Q (.bl (if neg then !eqD d e else eqD d e)) H
theorem Cg (hr:Room k X.A):OpR X (compareOp .NotEq) (Dc X.K true):=by
 intro pins s σ H x y v u Q I rx ry h
 obtain ⟨d,e,q1,q2,h1,h2,hn,q⟩:=h
 have hu:X.A.units+19+2 < cLine:=by have:=hr.un;omega
 exact (DO I 19 X.A d e x y v u hu (by omega) h1 h2 q1 q2 rx ry).2 _ _ _ _ ⟨.bl _,H,I,rfl,q⟩
def rP (K:PySem.W.Frag) (neg:Bool):R2:=λx y H Q=>∃ a b xs ys ds es,x=.ref a/\y=.ref b/\SqL K H a xs/\SqL K H b ys/\Dats K H ds xs/\Dats K H es ys/\noLs ds=true/\noLs es=true/\deepDs ds≤20/\Q (.bl (if neg then !eqDs ds es else eqDs ds es)) H
theorem pT (hr:Room k X.A):OpR X (compareOp .Eq) (rP X.K false):=by
 intro pins s σ H x y v u Q I rx ry h
 obtain ⟨a,b,xs,ys,ds,es,ex,ey,q1,q2,r1,r2,h1,h2,hn,q⟩:=h
 subst ex ey
 cases rx
 cases ry
 have hu:X.A.units+20+2 < cLine:=by have:=hr.un;omega
 exact (Di I 20 X.A ds es a b xs ys hu hn h1 h2 q1 q2 r1 r2).1 _ _ _ _ ⟨.bl _,H,I,rfl,q⟩
theorem pU (hr:Room k X.A):OpR X (compareOp .NotEq) (rP X.K true):=by
 intro pins s σ H x y v u Q I rx ry h
 obtain ⟨a,b,xs,ys,ds,es,ex,ey,q1,q2,r1,r2,h1,h2,hn,q⟩:=h
 subst ex ey
 cases rx
 cases ry
 have hu:X.A.units+20+2 < cLine:=by have:=hr.un;omega
 exact (Di I 20 X.A ds es a b xs ys hu hn h1 h2 q1 q2 r1 r2).2 _ _ _ _ ⟨.bl _,H,I,rfl,q⟩
theorem wA:OpR X (compareOp .IsNot) (λx y H Q=>∃ a b,x=.bl a/\y=.bl b/\Q (.bl (a != b)) H):=by
 intro pins s σ H x y v u Q I rx ry h
 obtain ⟨a,b,ex,ey,q⟩:=h
 subst ex ey
 cases rx
 cases ry
 exact PyProof.Rows.isnot_bool ⟨.bl _,H,I,rfl,q⟩
def tyD:D->String
 | .non=>"NoneType"
 | .bl _=>"bool"
 | .int _=>"int"
 | .str _=>"str"
 | .tup _=>"tuple"
 | .lst=>"list"
def mH (d:D) (T:String):Bool:=tyD d == T || (tyD d == "bool" && T == "int")
theorem dP {T:String} (hk:∀ d:D,PySem.W.kitOne X.K (.type (tyD d)) (.type T)=some (mH d T)) :
  iO X (.builtin "isinstance") (λxs H Q=>∃ x d,xs=[x,.ty T]/\Dat X.K H d x/\Q (.bl (mH d T)) H):=by
 intro pins s σ H xs us Q I r h
 obtain ⟨x,d,e,q,h⟩:=h
 subst e
 obtain ⟨u,c,e,ru,rc⟩:=Dz r
 subst e
 cases (show c=Value.type T from rc)
 have fin:∀ tk,EP X pins σ Q (.bool (mH d T)) { s with toks:=tk }:=λtk=>⟨.bl _,H,I.tok tk,rfl,h⟩
 have kd:=hk d
 cases d with
 | non=>have z:=q.nonE;subst z;cases ru;exact PySem.W.kia_one PySem.W.kitx_none I.kIn True.intro kd (λz=>nomatch z) fin
 | bl b=>have z:=q.blE;subst z;cases ru;exact PySem.W.kia_one PySem.W.kitx_bool I.kIn True.intro kd (λz=>nomatch z) fin
 | int i=>have z:=q.intE;subst z;obtain ⟨t,rfl⟩:=ru;exact PySem.W.kia_one PySem.W.kitx_int I.kIn True.intro kd (λz=>nomatch z) fin
 | str y=>have z:=q.strE;subst z;obtain ⟨t,rfl⟩:=ru;exact PySem.W.kia_one PySem.W.kitx_str I.kIn True.intro kd (λz=>nomatch z) fin
 | tup ds =>
  obtain ⟨a,vs,z,sq,_⟩:=q.tupE
  subst z
  cases ru
  obtain ⟨its,_,⟨o,e1,e2,_⟩,_⟩:=I.tuple sq
  exact PySem.W.kia_one PySem.W.kitx_tuple I.kIn ⟨o,e1,e2⟩ kd (λz=>nomatch z) fin
 | lst =>
  obtain ⟨a,vs,z,sq⟩:=q.lstE
  subst z
  cases ru
  obtain ⟨its,_,⟨o,_,e1,e2,_⟩,_⟩:=I.list sq
  exact PySem.W.kia_one PySem.W.kitx_list I.kIn ⟨o,e1,e2⟩ kd (λz=>nomatch z) fin
end
def iP (K:PySem.W.Frag) (a:Addr) (T:List (Str × KTD.Dat)):Prop:=∀ h:Heap,K.In h->KTD.TextTab h a T
section
variable {X:Cx}
theorem m4:OpR X (compareOp .In) (λx y H Q=>∃ k a T,x=.str k/\y=.ref a/\iP X.K a T/\Q (.bl (KTD.inKeys k T)) H):=by
 intro pins s σ H x y v u Q I rx ry h
 obtain ⟨k,a,T,ex,ey,t,q⟩:=h
 subst ex ey
 obtain ⟨tk,rfl⟩:=rx
 cases ry
 exact KTD.in_text (h₀:=s.heap) ⟨t _ I.kIn,λ_ _ e=>e⟩ ⟨.bl _,H,I.tok _,rfl,q⟩
def yY (K:PySem.W.Frag):R2:=λx y H Q=>∃ a k T i,x=.ref a/\y=.str k/\iP K a T/\(T.all λp=>KTD.plain p.2)=true/\KTD.datumAt k T=some (.flat (.int i))/\Q (.int i) H
theorem yo:IxR X (yY X.K):=by
 intro value slice pins s σ H x y v u Q I rx ry h hs
 obtain ⟨a,k,T,i,ex,ey,t,hp,hd,q⟩:=h
 subst ex ey
 obtain ⟨tk,rfl⟩:=ry
 cases rx
 have hm:KTD.inKeys k T=true:=by rw [← KTD.isSome_datumAt,hd];rfl
 refine KTD.item_textA (h₀:=s.heap) ⟨t _ I.kIn,λ_ _ e=>e⟩ hp hm ?_ hs
 exact each T hd λv hv=>by
  obtain ⟨t',rfl⟩:=PyProof.V.Flat.int_inv hv
  exact ⟨.int i,H,I.tok _,⟨t',rfl⟩,q⟩
where
 each {h:Heap} {k:Str} {P:Value->Prop} {i:Int}:∀ (T:List (Str × KTD.Dat)),KTD.datumAt k T=some (.flat (.int i))->(∀ v,PyProof.V.Flat v (.int i)->P v)->KTD.EachL h k P T
  | [],hd,_=>by simp [KTD.datumAt] at hd
  | (x,d)::T,hd,hP=>by
   have hd':(if decide (k=x)=true then some d else KTD.datumAt k T)=some (.flat (.int i)):=hd
   by_cases hx:k=x
   ·rw [if_pos (decide_eq_true hx)] at hd'
    cases hd'
    refine KTD.eachL_hit hx ?_
    exact opened hP
   ·rw [if_neg (by simp [hx])] at hd'
    exact KTD.eachL_miss hx (each T hd' hP)
 opened {h:Heap} {P:Value->Prop} {i:Int} (hP:∀ v,PyProof.V.Flat v (.int i)->P v):KTD.Opened h P (.flat (.int i)):=by
  first
   | exact KTD.opened_int λt=>hP _ (PyProof.V.Flat.int i t)
   | exact λt=>hP _ (PyProof.V.Flat.int i t)
end
section
variable {K:PySem.W.Frag} {H H' H2:Hp}
variable {a:Addr} {xs:List V}
theorem Same.sqT (e:Same H H') (h:SqT K H a xs):SqT K H' a xs:=by
 rcases h with (h | ⟨o,h⟩) | h
 ·exact .inl (.inl (e _ _ h))
 ·exact .inl (.inr ⟨o,e _ _ h⟩)
 ·exact .inr h
theorem Same.grow (e:Same H H'):dD K H H':=⟨λ_ _ h=>e.sqT h,λ_ xs h=>⟨xs,e.seq h⟩⟩
theorem Same.dat {d:D} {v:V} (e:Same H H') (h:Dat K H d v):Dat K H' d v:=Dat.mono e.grow d h
theorem Same.dats {ds:List D} {vs:List V} (e:Same H H') (h:Dats K H ds vs):Dats K H' ds vs:=Dats.mono e.grow ds h
theorem aG {p:Addr} (h:H p=none) (o:HO):Same H (upd H p o):=λb u q=>by rw [aK (bh q h)];exact q
def But (t:Addr) (H H':Hp):Prop:=∀ b o,b≠t->H b=some o->H' b=some o
variable {t:Addr}
theorem Same.but (e:Same H H'):But t H H':=λb o _ h=>e b o h
theorem But.trans (a:But t H H') (b:But t H' H2):But t H H2:=λc o n h=>b c o n (a c o n h)
theorem But.upd {o:HO} (a:But t H H'):But t H (upd H' t o):=λb u n h=>by rw [aK n];exact a b u n h
variable {zs:List V}
theorem But.sqT (e:But t H H') (ht:H t=some (.lst zs)) (h:SqT K H a xs):SqT K H' a xs:=by
 rcases h with (h | ⟨o,h⟩) | h
 ·exact .inl (.inl (e _ _ (λz=>by rw [z,ht] at h;cases h) h))
 ·exact .inl (.inr ⟨o,e _ _ (λz=>by rw [z,ht] at h;cases h) h⟩)
 ·exact .inr h
theorem But.sqL (e:But t H H') (n:a≠t) (h:SqL K H a xs):SqL K H' a xs:=by
 rcases h with (h | ⟨o,h⟩) | h
 ·exact .inl (.inl (e _ _ n h))
 ·exact .inl (.inr ⟨o,e _ _ n h⟩)
 ·exact .inr h
theorem But.grow {zs':List V} (e:But t H H') (ht:H t=some (.lst zs)) (ht':H' t=some (.lst zs')):dD K H H' :=
 ⟨λ_ _ h=>e.sqT ht h,λa xs h=>by
  by_cases n:a=t
  ·subst n;exact ⟨zs',SqL.of ht'⟩
  ·exact ⟨xs,e.sqL n h⟩⟩
end
section
variable {K:PySem.W.Frag}
theorem yf (d:D):PySem.W.kitOne K (.type (tyD d)) (.type "int")=some (mH d "int"):=by cases d <;> rfl
theorem Aq (d:D):PySem.W.kitOne K (.type (tyD d)) (.type "bool")=some (mH d "bool"):=by cases d <;> rfl
theorem yh (d:D):PySem.W.kitOne K (.type (tyD d)) (.type "str")=some (mH d "str"):=by cases d <;> rfl
theorem iY (d:D):PySem.W.kitOne K (.type (tyD d)) (.type "tuple")=some (mH d "tuple"):=by cases d <;> rfl
end
def spD (K:PySem.W.Frag) (R:List D->D->Prop):Sp:=λvs H Q _=>∃ ds d,Dats K H ds vs/\R ds d/\∀ v H',Same H H'->Dat K H' d v->Q v H'
def fU (K:PySem.W.Frag) (R:List D->List D->Prop):Sp:=λvs H Q _=>∃ ds es,Dats K H ds vs/\R ds es/\∀ r us H',Same H H'->H' r=some (.lst us)->H r=none->Dats K H' es us->Q (.ref r) H'
variable {vs:List V}
theorem fA {a:D} (h:Dats K H [a] vs):∃ u,vs=[u]/\Dat K H a u:=by
 obtain ⟨u,r,e,h1,h⟩:=h.consE
 have z:=h.nilE
 subst z e
 exact ⟨u,rfl,h1⟩
variable {b:D}
theorem gy {a:D} (h:Dats K H [a,b] vs):∃ u v,vs=[u,v]/\Dat K H a u/\Dat K H b v:=by
 obtain ⟨u,r,e,h1,h⟩:=h.consE
 obtain ⟨v,q,h2⟩:=fA h
 subst q e
 exact ⟨u,v,rfl,h1,h2⟩
theorem kW {a c:D} (h:Dats K H [a,b,c] vs):∃ u v w,vs=[u,v,w]/\Dat K H a u/\Dat K H b v/\Dat K H c w:=by
 obtain ⟨u,r,e,h1,h⟩:=h.consE
 obtain ⟨v,w,q,h2⟩:=gy h
 subst q e
 exact ⟨u,v,w,rfl,h1,h2⟩
variable {σ:St} {j:Nat}
theorem kz {z:Option V} {x:Option V}:(σ.set j z).set j x=σ.set j x:=by rw [List.set_set]
variable {J:It} {item:Nat->V} {te:TE} {σ0:St} {Q:VK}
theorem sQ (Ok:Hp->Prop)
  (go:∀ i H',Ok H'->i < n->J.go i H'/\∀ x H'',J.yld i H' x H''->H''=H'/\x=item i) (stop:∀ H',Ok H'->J.stop n H') (h0:σ0.set j none=σ0)
  (D:Addr) (Pn:Nat->Hp->Prop) (p0:Pn 0 (upd H1 D (.lst []))) (ok:∀ i H',i≤n->Pn i H'->Ok H')
  (turn:∀ i H',i < n->Pn i H'->te (σ0.set j (some (item i))) H' λv H4=>∃ ys,H4 D=some (.lst ys)/\ys.length < sizeLine/\(∃ z,σ0.set j (some (item i))=σ0.set j z)/\Pn (i+1) (upd H4 D (.lst (ys++[v]))))
  (fin:∀ H',Pn n H'->Q (.ref D) H') :
  ∃ W:Nat->Nat->St->Hp->Prop,(∃ m,W 0 m σ0 (upd H1 D (.lst [])))/\∀ i m σ' H',W i m σ' H' ->
   (J.stop i H'/\Q (.ref D) H') \/
   (J.go i H'/\∃ Nx:St->Hp->Prop,(∀ σ'' H'',Nx σ'' H''->∃ m',m' < m/\W (i+1) m' σ'' H'')/\∀ x H'',J.yld i H' x H''->bq j x σ' H'' λσ2 H2=>dU σ2 H2 λb H3 =>
    if b=true then te σ2 H3 λv H4=>∃ ys,H4 D=some (.lst ys)/\ys.length < sizeLine/\Nx σ2 (upd H4 D (.lst (ys++[v]))) else Nx σ2 H3):=by
 refine ⟨λi m σ' H'=>m=n - i/\i≤n/\(∃ z,σ'=σ0.set j z)/\Pn i H',⟨n,by omega,Nat.zero_le _,⟨none,h0.symm⟩,p0⟩,?_⟩
 rintro i m σ' H' ⟨rfl,hi,⟨z,rfl⟩,p⟩
 have o:=ok i H' hi p
 by_cases hlt:i < n
 ·obtain ⟨g,y⟩:=go i H' o hlt
  refine .inr ⟨g,λσ'' H''=>(∃ z,σ''=σ0.set j z)/\Pn (i+1) H'',λσ'' H'' q=>⟨n - (i+1),by omega,rfl,hlt,q.1,q.2⟩,λx H'' yx=>?_⟩
  obtain ⟨e1,e2⟩:=y x H'' yx
  subst e1 e2
  simp only [bq,dU,if_true,kz]
  exact turn i _ hlt p
 ·have e:i=n:=by omega
  subst e
  exact .inl ⟨stop H' o,fin H' p⟩
theorem yd (i:Nat) (H':Hp) (h:SqT K H' a xs) (hi:i < xs.length):(Itt K a).go i H'/\∀ x H'',(Itt K a).yld i H' x H''->H''=H'/\x=xs.getD i .non:=by
 refine ⟨⟨xs,xs[i],h,List.getElem?_eq_getElem hi⟩,λx H'' y=>⟨y.1,?_⟩⟩
 have q:=y.2 xs h
 rw [List.getD_eq_getElem?_getD,q]
 rfl
theorem pw (i:Nat) (H':Hp) (h:SqL K H' a xs) (hi:i < xs.length):(Itl K a).go i H'/\∀ x H'',(Itl K a).yld i H' x H''->H''=H'/\x=xs.getD i .non:=by
 refine ⟨⟨xs,xs[i],h,List.getElem?_eq_getElem hi⟩,λx H'' y=>⟨y.1,?_⟩⟩
 have q:=y.2 xs h
 rw [List.getD_eq_getElem?_getD,q]
 rfl
theorem sW (i:Nat) (H':Hp) (hi:i < n):(Itr 0 n).go i H'/\∀ x H'',(Itr 0 n).yld i H' x H''->H''=H'/\x=.int i:=by
 refine ⟨hi,λx H'' y=>⟨y.1,?_⟩⟩
 have q:=y.2
 rw [q]
 simp
section
variable {X:Cx}
def Dd (K:PySem.W.Frag):V->V->Hp->VK->Prop:=λo i H Q=>∃ p xs k v,o=.ref p/\i=.int k/\0≤k/\SqL K H p xs/\xs[k.toNat]?=some v/\Q v H
theorem xZ:CZ X (Dd X.K):=by
 intro pins s σ H o i ov iv Q I r1 r2 h
 obtain ⟨p,xs,k,v,eo,ei,h0,hq,he,q⟩:=h
 subst eo ei
 cases r1
 obtain ⟨t,rfl⟩:=r2
 obtain ⟨its,r,pl,hz⟩:=I.list hq
 obtain ⟨w,ew,rw'⟩:=r.get he
 have hl:=r.length
 have hlt:k.toNat < xs.length:=(List.getElem?_eq_some_iff.mp he).1
 have hn:=jS
 exact wpAny_getItem_list pl.isList h0 (by omega) (by simpa using ew) ⟨v,H,I,rw',q⟩
theorem AG:OpR X (binaryOp .Mult) (rI IntMulOk λi j=>.int (i * j)):=opI λ_ _ _ _ _ _ _ hc q=>mul_int q hc
end
theorem ve (h:j < n):ixN n (j:Int)=some j:=by
 unfold ixN
 rw [if_pos (by omega),if_pos (by omega)]
 simp
theorem at0 {α:Type} {x:α} {r:List α}:atI (x::r) 0=some x:=gu (j:=0) rfl
theorem at1 {α:Type} {x y:α} {r:List α}:atI (x::y::r) 1=some y:=gu (j:=1) rfl
theorem ix0:ixN (n+1) 0=some 0:=ve (j:=0) (by omega)
theorem ix1:ixN (n+2) 1=some 1:=ve (j:=1) (by omega)
theorem cU:∀ ns:List Int,Dats K H (ns.map D.int) (ns.map V.int)
 | []=>Dats.nil
 | n::ns=>Dats.cons (Dat.intI n) (cU ns)
theorem dE:∀ ns:List Int,noLs (ns.map D.int)=true
 | []=>by unfold noLs;rfl
 | n::ns=>by
  show noLs (D.int n::ns.map D.int)=true
  unfold noLs
  rw [dE ns]
  unfold noL
  rfl
theorem cJ:∀ ns:List Int,deepDs (ns.map D.int)=0
 | []=>by unfold deepDs;rfl
 | n::ns=>by
  show deepDs (D.int n::ns.map D.int)=0
  unfold deepDs
  rw [cJ ns]
  unfold gz
  rfl
theorem ka (ns:List Int):eqDs (ns.map D.int) []=ns.isEmpty:=by
 cases ns with
 | nil=>unfold eqDs;rfl
 | cons n ns=>show eqDs (D.int n::ns.map D.int) []=false;unfold eqDs;rfl
theorem gL (h:n≤1000):n≤sizeLine:=Nat.le_of_lt (cE h)
def Scr (K:PySem.W.Frag) (H:Hp) (a:Addr) (ns:List Int):Prop:=(∃ o,H a=some (.frz o (.lst (ns.map V.int)))) \/
 ∃ (o:Obj) (its:Array Value) (n:Nat),K.lookup a=some o/\o.cls=.type "list"/\o.dict=none/\o.data=.seq its n/\its.size≤sizeLine/\Vals (ns.map V.int) its.toList
theorem Scr.sqL (h:Scr K H a ns):SqL K H a (ns.map V.int):=by
 rcases h with ⟨o,h⟩ | h
 ·exact .inl (.inr ⟨o,h⟩)
 ·exact .inr h
theorem Scr.but {t:Addr} {zs:List V} (h:Scr K H a ns) (e:But t H H') (ht:H t=some (.lst zs)):Scr K H' a ns:=by
 rcases h with ⟨o,h⟩ | h
 ·exact .inl ⟨o,e _ _ (λz=>by rw [z,ht] at h;cases h) h⟩
 ·exact .inr h
theorem Scr.same (h:Scr K H a ns) (e:Same H H'):Scr K H' a ns:=by
 rcases h with ⟨o,h⟩ | h
 ·exact .inl ⟨o,e _ _ h⟩
 ·exact .inr h
theorem CG (hO:zZ H) (h:SqL K H a (ns.map V.int)):Scr K H a ns:=by
 rcases h with (h | ⟨o,h⟩) | h
 ·rcases hO a with z | ⟨o,xs,z⟩
  ·rw [h] at z;cases z
  ·rw [h] at z;cases z
 ·exact .inl ⟨o,h⟩
 ·exact .inr h
def nF (K:PySem.W.Frag):Sp:=λvs H Q _=>∃ (a t:Addr) (ns:List Int) (m p q:Int) (rest:List V),vs=[.ref a,.ref t,.int m]/\Scr K H a ns/\H t=some (.lst (.int p::.int q::rest))/\0≤p/\0 < m/\m≤1000000 /\
 ∀ (r:Int) (H':Hp) (p' q':Int),But t H H'->H' t=some (.lst (.int p'::.int q'::rest))->0≤p'->0≤r->r < m->Q (.int r) H'
def RE (K:PySem.W.Frag) (t:TE) (σ:St) (H:Hp) (d:D):Prop:=∀ H1,Same H H1->∀ Q:VK,(∀ v H',Same H1 H'->Dat K H' d v->Q v H')->t σ H1 Q
def RT (t:TT) (σ:St) (H:Hp) (b:Bool):Prop:=∀ H1,Same H H1->∀ Q:Bool->Hp->Prop,(∀ H',Same H1 H'->Q b H')->t σ H1 Q
def RA (K:PySem.W.Frag) (t:TA) (σ:St) (H:Hp) (ds:List D):Prop:=∀ H1,Same H H1->∀ Q:List V->Hp->Prop,(∀ vs H',Same H1 H'->Dats K H' ds vs->Q vs H')->t σ H1 Q
section
variable {K:PySem.W.Frag} {σ:St} {H H':Hp} {d d':D} {ds:List D} {t u ta tb:TE} {tt uu:TT} {tA:TA} {i j:Int} {b c:Bool}
theorem RE.mono (h:RE K t σ H d) (e:Same H H'):RE K t σ H' d:=λH1 s Q q=>h H1 (e.trans s) Q q
theorem RA.mono (h:RA K tA σ H ds) (e:Same H H'):RA K tA σ H' ds:=λH1 s Q q=>h H1 (e.trans s) Q q
theorem RT.mono (h:RT tt σ H b) (e:Same H H'):RT tt σ H' b:=λH1 s Q q=>h H1 (e.trans s) Q q
theorem RE.as (h:RE K t σ H d) (e:d=d'):RE K t σ H d':=e ▸ h
theorem RT.as (h:RT tt σ H b) (e:b=c):RT tt σ H c:=e ▸ h
theorem RE.use {Q:VK} (h:RE K t σ H d) (q:∀ v H',Same H H'->Dat K H' d v->Q v H'):t σ H Q:=h H (Same.refl H) Q q
theorem RT.use {Q:Bool->Hp->Prop} (h:RT tt σ H b) (q:∀ H',Same H H'->Q b H'):tt σ H Q:=h H (Same.refl H) Q q
theorem RA.use {Q:List V->Hp->Prop} (h:RA K tA σ H ds) (q:∀ vs H',Same H H'->Dats K H' ds vs->Q vs H'):tA σ H Q:=h H (Same.refl H) Q q
theorem ah:RE K (tC (.int i)) σ H (.int i):=λH1 _ Q q=>q _ _ (Same.refl _) (Dat.intI i)
variable {x:Str}
theorem av:RE K (tC (.str x)) σ H (.str x):=λH1 _ Q q=>q _ _ (Same.refl _) (Dat.strI x)
theorem eI:RE K (tC (.bl b)) σ H (.bl b):=λH1 _ Q q=>q _ _ (Same.refl _) (Dat.blI b)
variable {k:Nat}
theorem ae {v:V} (h:Dat K H d v) (e:σ[k]?=some (some v):=by rfl):RE K (cx k) σ H d:=λH1 s Q q=>⟨v,e,q _ _ (Same.refl _) (s.dat h)⟩
theorem ao:RA K cu σ H []:=λH1 _ Q q=>q _ _ (Same.refl _) Dats.nil
theorem aa (h:RE K t σ H d) (r:RA K tA σ H ds):RA K (bf t tA) σ H (d::ds):=λH1 s Q q =>
 h H1 s _ λv H2 s2 q2=>r H2 (s.trans s2) _ λvs H3 s3 q3=>q _ _ (s2.trans s3) (Dats.cons (s3.dat q2) q3)
theorem aB (h:RA K tA σ H ds) (hl:ds.length≤1000:=by simp):RE K (Dw tA) σ H (.tup ds):=λH1 s Q q =>
 h H1 s _ λvs H2 s2 q2=>⟨by rw [← q2.length];exact gL hl,λp hp=>q _ _ (s2.trans (aG hp _)) (Dat.tupI (SqT.of ay) ((aG hp _).dats q2))⟩
theorem Dj {g:Int->Int} (h:RE K t σ H (.int i)):RE K (tUn (rU λi=>.int (g i)) t) σ H (.int (g i)):=λH1 s Q q =>
 h H1 s _ λv H2 s2 q2=>⟨i,q2.intE,q _ _ s2 (Dat.intI _)⟩
variable {g:Int->Int->V}
theorem tX (h1:RE K ta σ H (.int i)) (h2:RE K tb σ H (.int j)) (hd:∀ H,Dat K H d (g i j)):RE K (tOp (rI0 g) ta tb) σ H d:=λH1 s Q q =>
 h1 H1 s _ λv H2 s2 q2=>h2 H2 (s.trans s2) _ λw H3 s3 q3=>⟨i,j,q2.intE,q3.intE,q _ _ (s2.trans s3) (hd _)⟩
theorem tY {C:Int->Int->Prop} (h1:RE K ta σ H (.int i)) (h2:RE K tb σ H (.int j)) (hc:C i j) (hd:∀ H,Dat K H d (g i j)):RE K (tOp (rI C g) ta tb) σ H d:=λH1 s Q q =>
 h1 H1 s _ λv H2 s2 q2=>h2 H2 (s.trans s2) _ λw H3 s3 q3=>⟨i,j,q2.intE,q3.intE,hc,q _ _ (s2.trans s3) (hd _)⟩
theorem cq (h1:RE K ta σ H (.int i)) (h2:RE K tb σ H (.int j)):RE K (tOp (rI0 λi j=>.int (i+j)) ta tb) σ H (.int (i+j)):=tX h1 h2 λ_=>Dat.intI _
theorem tZ (h1:RE K ta σ H (.int i)) (h2:RE K tb σ H (.int j)):RE K (tOp (rI0 λi j=>.int (i - j)) ta tb) σ H (.int (i - j)):=tX h1 h2 λ_=>Dat.intI _
variable {p:Int->Int->Bool}
theorem bC (h1:RE K ta σ H (.int i)) (h2:RE K tb σ H (.int j)):RE K (tOp (rI0 λi j=>.bl (p i j)) ta tb) σ H (.bl (p i j)):=tX h1 h2 λ_=>Dat.blI _
theorem dC (h1:RE K ta σ H (.int i)) (h2:RE K tb σ H (.int j)):RE K (tOp rEq ta tb) σ H (.bl (decide (i=j))):=λH1 s Q q =>
 h1 H1 s _ λv H2 s2 q2=>h2 H2 (s.trans s2) _ λw H3 s3 q3=>by
  rw [q2.intE,q3.intE]
  refine ⟨rfl,?_⟩
  have e:decide (V.int i=V.int j)=decide (i=j):=by by_cases z:i=j <;> simp [z]
  rw [e]
  exact q _ _ (s2.trans s3) (Dat.blI _)
theorem ny (h1:RE K ta σ H (.int i)) (h2:RE K tb σ H (.int j)):RE K (tOp rNe ta tb) σ H (.bl (!decide (i=j))):=λH1 s Q q =>
 h1 H1 s _ λv H2 s2 q2=>h2 H2 (s.trans s2) _ λw H3 s3 q3=>by
  rw [q2.intE,q3.intE]
  refine ⟨rfl,?_⟩
  have e:decide (V.int i=V.int j)=decide (i=j):=by by_cases z:i=j <;> simp [z]
  rw [e]
  exact q _ _ (s2.trans s3) (Dat.blI _)
theorem aR {y:Str} (h1:RE K ta σ H (.str x)) (h2:RE K tb σ H (.str y)):RE K (tOp rEq ta tb) σ H (.bl (decide (x=y))):=λH1 s Q q =>
 h1 H1 s _ λv H2 s2 q2=>h2 H2 (s.trans s2) _ λw H3 s3 q3=>by
  rw [q2.strE,q3.strE]
  refine ⟨rfl,?_⟩
  have e:decide (V.str x=V.str y)=decide (x=y):=by by_cases z:x=y <;> simp [z]
  rw [e]
  exact q _ _ (s2.trans s3) (Dat.blI _)
theorem wM (h1:RE K ta σ H (.bl b)) (h2:RE K tb σ H (.bl c)):RE K (tOp (λx y H Q=>∃ a b,x=.bl a/\y=.bl b/\Q (.bl (a != b)) H) ta tb) σ H (.bl (b != c)):=λH1 s Q q =>
 h1 H1 s _ λv H2 s2 q2=>h2 H2 (s.trans s2) _ λw H3 s3 q3=>⟨b,c,q2.blE,q3.blE,q _ _ (s2.trans s3) (Dat.blI _)⟩
theorem aM (h1:RE K ta σ H (.tup ds)) (h2:RE K tb σ H (.int k)) (e:ds[k]?=some d):RE K (tOp (rQ K) ta tb) σ H d:=λH1 s Q q =>
 h1 H1 s _ λv H2 s2 q2=>h2 H2 (s.trans s2) _ λw H3 s3 q3=>by
  obtain ⟨a,vs,ev,hq,hd⟩:=(s3.dat q2).tupE
  obtain ⟨x,ex,hx⟩:=hd.get e
  exact ⟨a,vs,k,x,ev,q3.intE,hq,gu ex,q _ _ (s2.trans s3) hx⟩
theorem bQ (h:RE K t σ H (.tup ds)):RE K (tCB (λxs H Q=>∃ p ys,xs=[.ref p]/\(SqL K H p ys\/SqT K H p ys)/\Q (.int ys.length) H) (bf t cu)) σ H (.int ds.length):=λH1 s Q q =>
 h H1 s _ λv H2 s2 q2=>by
  obtain ⟨a,vs,ev,hq,hd⟩:=q2.tupE
  subst ev
  refine ⟨a,vs,rfl,.inr hq,?_⟩
  rw [← hd.length]
  exact q _ _ s2 (Dat.intI _)
theorem bI {T:String} (h:RE K t σ H d):RE K (tCB (λxs H Q=>∃ x d,xs=[x,.ty T]/\Dat K H d x/\Q (.bl (mH d T)) H) (bf t (bf (tC (.ty T)) cu))) σ H (.bl (mH d T)):=λH1 s Q q =>
 h H1 s _ λv H2 s2 q2=>⟨v,d,rfl,q2,q _ _ s2 (Dat.blI _)⟩
theorem aS {R:List D->D->Prop} {E:XK} (h:RA K tA σ H ds) (e:R ds d):RE K (fO (spD K R) [] E tA) σ H d:=λH1 s Q q =>
 h H1 s _ λvs H2 s2 q2=>⟨ds,d,by rw [List.append_nil];exact q2,e,λv H3 s3 q3=>q _ _ (s2.trans s3) q3⟩
variable {a:Addr} {T:List (Str × KTD.Dat)}
theorem nt {k:Str} (h:RE K t σ H (.str k)) (ht:iP K a T):RE K (tOp (λx y H Q=>∃ k a T,x=.str k/\y=.ref a/\iP K a T/\Q (.bl (KTD.inKeys k T)) H) t (tC (.ref a))) σ H (.bl (KTD.inKeys k T)):=λH1 s Q q =>
 h H1 s _ λv H2 s2 q2=>⟨k,a,T,q2.strE,rfl,ht,q _ _ s2 (Dat.blI _)⟩
theorem rV {k:Str} (h:RE K t σ H (.str k)) (ht:iP K a T) (hp:(T.all λp=>KTD.plain p.2)=true) (e:KTD.datumAt k T=some (.flat (.int i))):RE K (tOp (yY K) (tC (.ref a)) t) σ H (.int i):=λH1 s Q q =>
 h H1 s _ λv H2 s2 q2=>⟨a,k,T,i,rfl,q2.strE,ht,hp,e,q _ _ s2 (Dat.intI _)⟩
theorem Dn {n:Nat}:HT.sIx (n+1) 0 (some 1)=1:=by
 have:=HT.sIx_nat (n+1) 0 1
 simpa using this
theorem DI (v:V) (r:List V):j7 (v::r) (some 1) none=r:=by
 unfold j7
 rw [List.length_cons,Dn,HT.sIx_none]
 simp
theorem wR (h:RE K t σ H (.tup (d'::ds))):RE K (tSl (Cp K) t (jI (tC (.int 1))) lY) σ H (.tup ds):=λH1 s Q q =>
 h H1 s _ λv H2 s2 q2=>by
  obtain ⟨a,vs,ev,hq,hd⟩:=q2.tupE
  obtain ⟨w,r,er,h1,h2⟩:=hd.consE
  subst ev er
  refine ⟨1,rfl,a,w::r,rfl,hq,λz=>?_,λp hp=>?_⟩
  ·rw [List.length_cons,Dn] at z
   exact absurd z.1 (by decide)
  ·rw [DI]
   exact q _ _ (s2.trans (aG hp _)) (Dat.tupI (SqT.of ay) ((aG hp _).dats h2))
theorem di (h1:RE K ta σ H (.bl b)) (h2:b=true->RE K tb σ H (.bl c)):RE K (BF ta tb) σ H (.bl (b && c)):=λH1 s Q q =>
 h1 H1 s _ λv H2 s2 q2=>⟨b,q2.blE,by
  cases b with
  | true=>rw [if_pos rfl];exact h2 rfl H2 (s.trans s2) _ λw H3 s3 q3=>q _ _ (s2.trans s3) q3
  | false=>rw [if_neg Bool.false_ne_true];exact q _ _ s2 (Dat.blI _)⟩
theorem BA (h1:RE K ta σ H (.bl b)) (h2:b=false->RE K tb σ H (.bl c)):RE K (Du ta tb) σ H (.bl (b || c)):=λH1 s Q q =>
 h1 H1 s _ λv H2 s2 q2=>⟨b,q2.blE,by
  cases b with
  | true=>rw [if_pos rfl];exact q _ _ s2 (Dat.blI _)
  | false=>rw [if_neg Bool.false_ne_true];exact h2 rfl H2 (s.trans s2) _ λw H3 s3 q3=>q _ _ (s2.trans s3) q3⟩
theorem zx (h:RE K t σ H (.bl b)):RE K (BG t) σ H (.bl (!b)):=λH1 s Q q =>
 h H1 s _ λv H2 s2 q2=>⟨b,q2.blE,q _ _ s2 (Dat.blI _)⟩
theorem nj {r:Int->Int->Bool} {k:Int} {tc:TE} (h1:RE K ta σ H (.int i)) (h2:RE K tb σ H (.int j)) (h3:p i j=true->RE K tc σ H (.int k)) :
  RE K (qr (rI0 λi j=>.bl (p i j)) (rI0 λi j=>.bl (r i j)) ta tb tc) σ H (.bl (p i j && r j k)):=λH1 s Q q =>
 h1 H1 s _ λv H2 s2 q2=>h2 H2 (s.trans s2) _ λw H3 s3 q3=>by
  refine ⟨i,j,q2.intE,q3.intE,p i j,rfl,?_⟩
  cases hp:p i j with
  | true =>
   simp only [if_true,Bool.true_and]
   exact h3 hp H3 (s.trans (s2.trans s3)) _ λz H4 s4 q4=>⟨j,k,q3.intE,q4.intE,q _ _ (s2.trans (s3.trans s4)) (by rw [hp];exact Dat.blI _)⟩
  | false =>
   simp only [Bool.false_eq_true,if_false,Bool.false_and]
   exact q _ _ (s2.trans s3) (by rw [hp];exact Dat.blI _)
theorem jG (h:RT tt σ H b) (h1:b=true->RE K ta σ H d) (h2:b=false->RE K tb σ H d):RE K (tIf tt ta tb) σ H d:=λH1 s Q q =>
 h H1 s _ λH2 s2=>by
  cases b with
  | true=>rw [if_pos rfl];exact h1 rfl H2 (s.trans s2) _ λw H3 s3 q3=>q _ _ (s2.trans s3) q3
  | false=>rw [if_neg Bool.false_ne_true];exact h2 rfl H2 (s.trans s2) _ λw H3 s3 q3=>q _ _ (s2.trans s3) q3
theorem au (h:RE K t σ H (.bl b)):RT (sg t) σ H b:=λH1 s Q q=>h H1 s _ λv H2 s2 q2=>⟨b,q2.blE,q _ s2⟩
theorem aV (h:RE K t σ H (.bl b)):RT (λσ H Q=>t σ H λx H'=>∃ k,sC K x H' k/\Q k H') σ H b:=λH1 s Q q=>h H1 s _ λv H2 s2 q2=>by
 rw [q2.blE]
 exact ⟨b,rfl,q _ s2⟩
theorem bD (h:RT tt σ H b):RT (CL tt) σ H (!b):=λH1 s Q q=>h H1 s _ λH2 s2=>q _ s2
theorem jh (h:RT tt σ H b) (h2:b=true->RT uu σ H c):RT (Dq tt uu) σ H (b && c):=λH1 s Q q=>h H1 s _ λH2 s2=>by
 cases b with
 | true=>rw [if_pos rfl];exact h2 rfl H2 (s.trans s2) _ λH3 s3=>q _ (s2.trans s3)
 | false=>rw [if_neg Bool.false_ne_true];exact q _ s2
theorem cO (h:RT tt σ H b) (h2:b=false->RT uu σ H c):RT (tOr tt uu) σ H (b || c):=λH1 s Q q=>h H1 s _ λH2 s2=>by
 cases b with
 | true=>rw [if_pos rfl];exact q _ s2
 | false=>rw [if_neg Bool.false_ne_true];exact h2 rfl H2 (s.trans s2) _ λH3 s3=>q _ (s2.trans s3)
variable {En:gM}
theorem aP (h:RE K t σ H d) (q:∀ v H',Same H H'->Dat K H' d v->En.rt v H'):CM t En σ H:=h.use q
theorem CC (h:RE K t σ H d) (q:∀ v H',Same H H'->Dat K H' d v->En.nx (σ.set k (some v)) H'):jY t (bq k) En σ H:=h.use q
theorem dQ {ts us:TS} (h:RT tt σ H b) (h1:b=true->∀ H',Same H H'->ts En σ H') (h2:b=false->∀ H',Same H H'->us En σ H'):Bi tt ts us En σ H:=h.use λH' s=>by
 cases b with
 | true=>rw [if_pos rfl];exact h1 rfl H' s
 | false=>rw [if_neg Bool.false_ne_true];exact h2 rfl H' s
end
theorem bH:bootBuiltins "len"=some (.builtin "len"):=by decide +kernel
theorem bR:bootBuiltins "isinstance"=some (.builtin "isinstance"):=by decide +kernel
theorem o9:bootBuiltins "all"=some (.builtin "all"):=by decide +kernel
theorem BW:bootBuiltins "sum"=some (.builtin "sum"):=by decide +kernel
theorem xE:bootBuiltins "int"=some (.type "int"):=by decide +kernel
theorem Ah:bootBuiltins "bool"=some (.type "bool"):=by decide +kernel
theorem xF:bootBuiltins "str"=some (.type "str"):=by decide +kernel
theorem fw:bootBuiltins "tuple"=some (.type "tuple"):=by decide +kernel
theorem ie:bootBuiltins "list"=some (.type "list"):=by decide +kernel
theorem j3:bootBuiltins "range"=some (.type "range"):=by decide +kernel
theorem pb:bootBuiltins "enumerate"=some (.type "enumerate"):=by decide +kernel
theorem qG:bootBuiltins "reversed"=some (.type "reversed"):=by decide +kernel
variable {tA:TA} {ds:List D}
theorem CB (h:RA K tA σ H ds) (q:∀ p vs H1,Same H H1->H1 p=none->Dats K H1 ds vs->Q (.ref p) (upd H1 p (.lst vs))) (hl:ds.length≤1000:=by simp):zI tA σ H Q :=
 h.use λvs H1 s1 q1=>⟨by rw [← q1.length];exact gL hl,λp hp=>q p vs H1 s1 hp q1⟩
theorem fV (go:∀ i H',Same H1 H'->i < n->J.go i H'/\∀ x H'',J.yld i H' x H''->H''=H'/\x=item i) (stop:∀ H',Same H1 H'->J.stop n H')
  (h0:σ0.set j none=σ0) (es:List D) (hn:es.length=n) (hb:n≤1000) (turn:∀ i d,es[i]?=some d->RE K te (σ0.set j (some (item i))) H1 d)
  (fin:∀ l ys H',H1 l=none->Same H1 H'->H' l=some (.lst ys)->Dats K H' es ys->Q (.ref l) H') (l:Addr) (hl:H1 l=none) :
  ∃ W:Nat->Nat->St->Hp->Prop,(∃ m,W 0 m σ0 (upd H1 l (.lst [])))/\∀ i m σ' H',W i m σ' H' ->
   (J.stop i H'/\Q (.ref l) H') \/
   (J.go i H'/\∃ Nx:St->Hp->Prop,(∀ σ'' H'',Nx σ'' H''->∃ m',m' < m/\W (i+1) m' σ'' H'')/\∀ x H'',J.yld i H' x H''->bq j x σ' H'' λσ2 H2=>dU σ2 H2 λb H3 =>
    if b=true then te σ2 H3 λv H4=>∃ ys,H4 l=some (.lst ys)/\ys.length < sizeLine/\Nx σ2 (upd H4 l (.lst (ys++[v]))) else Nx σ2 H3):=by
 refine sQ (λH'=>Same H1 H') go stop h0 l (λi H'=>Same H1 H'/\∃ ys,H' l=some (.lst ys)/\Dats K H' (es.take i) ys) ?_ ?_ ?_ ?_
 ·exact ⟨aG hl _,[],ay,by rw [List.take_zero];exact Dats.nil⟩
 ·intro i H' _ p
  exact p.1
 ·intro i H' hi ⟨s1,ys,hy,hd⟩
  have hi':i < es.length:=by omega
  refine ((turn i es[i] (List.getElem?_eq_getElem hi')).mono s1).use λv H4 s4 q4=>?_
  have hy4:=s4 _ _ hy
  have lys:ys.length=i:=by rw [← hd.length,List.length_take];omega
  refine ⟨ys,hy4,cE (by omega),⟨_,rfl⟩,λb o hb=>?_,ys++[v],ay,?_⟩
  ·rw [aK (bh hb hl)]
   exact s4 _ _ (s1 _ _ hb)
  ·have g:dD K H4 (upd H4 l (.lst (ys++[v]))):=But.grow (t:=l) (But.upd (Same.refl H4).but) hy4 ay
   rw [List.take_add_one,List.getElem?_eq_getElem hi']
   exact Dats.append (Dats.mono g _ (s4.dats hd)) (Dats.cons (Dat.mono g _ q4) Dats.nil)
 ·intro H' ⟨s1,ys,hy,hd⟩
  rw [List.take_of_length_le (by omega)] at hd
  exact fin l ys H' hl s1 hy hd
variable {tt:TT} {En:gM} {ts us:TS}
theorem aA {K:PySem.W.Frag} {b:Bool} (h:RT tt σ H b) (h1:b=true->∀ H',Same H H'->ts { En with nx:=us En } σ H') (h2:b=false->∀ H',Same H H'->us En σ H'):jZ (Bi tt ts iJ) us En σ H :=
 dQ h h1 h2
variable {d:D}
theorem bL {t:TE} (h:RE K t σ H d) (q:∀ v H',Same H H'->Dat K H' d v->us En (σ.set k (some v)) H'):jZ (jY t (bq k)) us En σ H:=h.use q
theorem fJ (h:te σ H λx H1=>us En (σ.set k (some x)) H1):jZ (jY te (bq k)) us En σ H:=h
theorem jX (h:te σ H λ_ H1=>us En σ H1):jZ (lD te) us En σ H:=h
variable {v:V}
theorem Dl (h:Q v H):tC v σ H Q:=h
theorem hE (h:te σ H En.rt):CM te En σ H:=h
theorem bX (h:ts { En with nx:=us En } σ H):jZ ts us En σ H:=h
variable {mk:St->St}
theorem wK {tl:TE} {cs:List D} (h:RE K tl σ H (.tup cs)) (hc:cs.length≤1000) (es:List D) (hl:es.length=cs.length) (h0:(mk σ).set j none=mk σ)
  (turn:∀ H1 (i:Nat) c v d,Same H H1->cs[i]?=some c->es[i]?=some d->Dat K H1 c v->RE K te ((mk σ).set j (some v)) H1 d)
  (fin:∀ l ys H',H l=none->Same H H'->H' l=some (.lst ys)->Dats K H' es ys->Q (.ref l) H'):fF (wc K tl) mk (bq j) dU te σ H Q:=by
 refine h.use λv4 H4 s4 q4=>?_
 obtain ⟨a,vs,e,hq,hd⟩:=q4.tupE
 subst e
 have l4:=hd.length
 refine ⟨a,rfl,⟨vs,hq⟩,?_⟩
 refine fV (K:=K) (Q:=Q) (n:=vs.length) (item:=λi=>vs.getD i .non) (λi H' s hi=>yd i H' (s.sqT hq) hi) (λH' s=>⟨vs,s.sqT hq,Nat.le_refl _⟩) h0 es (by omega) (by omega) (λi d hi=>?_) (λl ys H5 hl5 s5=>fin l ys H5 (s4.free hl5) (s4.trans s5))
 have hi':i < es.length:=(List.getElem?_eq_some_iff.mp hi).1
 have hic:i < cs.length:=by omega
 obtain ⟨vz,ez,hz⟩:=hd.get (List.getElem?_eq_getElem hic)
 have q:=turn H4 i cs[i] vz d s4 (List.getElem?_eq_getElem hic) hi hz
 rw [List.getD_eq_getElem?_getD,ez]
 exact q
theorem wJ (h:RA K tA σ H [.int n]) (hc:n≤1000) (es:List D) (hl:es.length=n) (h0:(mk σ).set j none=mk σ)
  (turn:∀ H1 (i:Nat) d,Same H H1->es[i]?=some d->RE K te ((mk σ).set j (some (.int i))) H1 d)
  (fin:∀ l ys H',H l=none->Same H H'->H' l=some (.lst ys)->Dats K H' es ys->Q (.ref l) H'):fF (uW tA) mk (bq j) dU te σ H Q:=by
 refine h.use λv4 H4 s4 q4=>?_
 obtain ⟨u,e,hu⟩:=fA q4
 have eu:=hu.intE
 subst eu e
 refine ⟨n,rfl,by omega,by omega,?_⟩
 rw [Int.toNat_natCast]
 exact fV (K:=K) (Q:=Q) (n:=n) (item:=λi=>.int i) (λi H' s hi=>sW i H' hi) (λH' s=>Nat.le_refl _) h0 es hl hc (λi d hi=>turn H4 i d s4 hi) (λl ys H5 hl5 s5=>fin l ys H5 (s4.free hl5) (s4.trans s5))
theorem dj {Q:St->Hp->Prop} (h:Q (σ.set j (some v)) H):bq j v σ H Q:=h
theorem gS {base:Heap} {f:Addr} {ps:List Str} (no:∀ vs H Q E,¬ sp vs H Q E):FnOk P w K mg base CX k f fd ps sp :=
 ⟨λvs H Q E h=>absurd h (no vs H Q E),λA outer s H args us vs Q E _ _ _ _ h=>absurd h (no vs H Q E)⟩
theorem iI {ta:TE} {r:List V->Hp->VK->Prop} (h:ta σ H λx H1=>r [x] H1 Q):tCB r (bf ta cu) σ H Q:=h
theorem iy {i:Nat} {e:D} (h:RE K te σ H (.tup [d,e])) (q:∀ v w H',Same H H'->Dat K H' d v->Dat K H' e w->us En ((σ.set i (some v)).set j (some w)) H') :
  jZ (jY te (pq K 2 (fK (bq i) (fK (bq j) sS)))) us En σ H :=
 h.use λx H1 s1 q1=>by
  obtain ⟨a,vs,e1,hq,hd⟩:=q1.tupE
  obtain ⟨v,w,e2,hv,hw⟩:=gy hd
  subst e1 e2
  exact ⟨a,_,rfl,hq,rfl,v,_,rfl,w,_,rfl,rfl,q v w H1 s1 hv hw⟩
def Bt:Expr->Bool
 | .Starred ..=>false
 | _=>true
variable {e:Expr} {es:List Expr}
theorem wX (h:Bt e=true):starEach (e::es) env=(false,eval e env)::starEach es env:=by
 cases e <;> first | rfl | cases h
theorem ag {t:TA} (ha:PE X e te) (hr:PA X es t) (h:Bt e=true:=by rfl):PA X (e::es) (bf te t):=bZ ha hr (wX h)
theorem uA {bs:List Bool} {us:List Value}:Vals (bs.map V.bl) us->us=bs.map Value.bool:=by
 intro h
 induction bs generalizing us with
 | nil=>cases h;rfl
 | cons b bs ih =>
  cases h with
  | cons r t=>cases r;rw [ih t];rfl
theorem Cr (bs:List Bool) (d:Bool):(List.range bs.length).map (λi=>(bs[i]?).getD d)=bs:=by
 apply List.ext_getElem
 ·simp
 ·intro i h1 h2
  simp at h1
  simp [h1]
section
variable {X:Cx}
theorem j4 (hc:X.calm=true):iO X (.builtin "all") (λxs H Q=>∃ (l:Addr) (bs:List Bool),xs=[.ref l]/\SqL X.K H l (bs.map V.bl)/\Q (.bl (bs.all id)) H):=by
 intro pins s σ H xs us Q I r h
 obtain ⟨l,bs,rfl,hq,q⟩:=h
 obtain ⟨u,rfl,ru⟩:=jl r
 cases ru
 obtain ⟨its,rv,p,hz⟩:=I.list hq
 have ei:=uA rv
 have hl:=p.isList
 have hlt:l < s.heap.objs.size:=by obtain ⟨_,e,_⟩:=hl;exact Heap.lt_size e
 refine call_all_walk (wpAny_pyIter_list hl ?_)
 refine ⟨s.heap.objs.size,[s.heap.objs.size,l],[s.heap.objs.size],its.toArray.size,_,_,λi=>(bs[i]?).getD true,rfl,Walks.list (A:=X.A.in1) (I.ok.hd hc) _ l (Nat.ne_of_lt hlt) its.toArray,
  ⟨⟨_,Heap.get?_push_size _ rfl,rfl,rfl⟩,hl.push _⟩,λi v s' Q' E' hP hQ=>?_,λh' tk hk=>?_⟩
 ·subst ei
  have hP':(bs.map Value.bool)[i]?=some v:=by simpa using hP
  rw [List.getElem?_map] at hP'
  cases hb:bs[i]? with
  | none=>rw [hb] at hP';cases hP'
  | some b =>
   rw [hb] at hP'
   cases hP'
   simp only [hb,Option.getD_some] at hQ
   exact wpAny_truthy_bool hQ
 ·have e:((List.range its.toArray.size).all λi=>(bs[i]?).getD true)=bs.all id:=by
   subst ei
   rw [List.size_toArray,List.length_map]
   conv=>rhs;rw [← Cr bs true]
   rw [List.all_map]
   rfl
  rw [e]
  exact ⟨.bl _,H,I.kept (t':=tk) λb x e=>hk b x (λhm=>by rw [List.mem_singleton.mp hm] at e;exact Nat.lt_irrefl _ (Heap.lt_size e)) (Heap.get?_push_of_some _ e),rfl,q⟩
end
structure FunD (K:PySem.W.Frag) (x qual:Str) (st:Stmt) (f:Addr) (fd:FuncData) (T:Addr) (ds:List Value):Prop where
 ex:∃ (oc:Value) (od:Option Addr) (kV doc pm:Value) (an:Option Addr) (cdv ct:Value) (osl:Array (Option Value)),
  fd=PySem.W.fnOf x qual (bP st) (bB st) (ax st) (.ref T) kV doc pm an cdv ct/\K.lookup f=some ⟨oc,od,.func fd,osl⟩/\PySem.W.codeIn K cdv qual=true
 kp:PySem.W.keepIn K (.ref f)=true
 df:∃ (o:Obj) (n:Nat),K.lookup T=some o/\o.data=.seq ds.toArray n
section
variable {P:Program} {w:World} {K:PySem.W.Frag} {mg:Str->Option Value} {base:Heap}
theorem FunD.ok {x qual:Str} {st:Stmt} {f T:Addr} {fd:FuncData} {ds:List Value} {N ps:List Str} {k:Nat} {sp:Sp} (F:FunD K x qual st f fd T ds) (S:FnScope N ps (ax st)) (len:∀ vs H Q E,sp vs H Q E->vs.length=ps.length)
  (hbody:∀ (cdv:Value) (A:Around) (outer:List Env) (s:Shared) (H:Hp) (vs:List V) (Q:VK) (E:XK),Room k (A.deeper (envOfC qual (ax st) s.heap.objs.size f cdv))->sp vs H Q E ->
   ∃ t,PSs (lG CX0 P w K mg base N qual (ax st) f cdv A outer s H E).nox (bB st) t/\t { nx:=λ_ H'=>Q .non H',rt:=Q } (eP N vs) H):FnOk P w K mg base CX0 (k+1) f fd ps sp:=by
 obtain ⟨oc,od,kV,doc,pm,an,cdv,ct,osl,rfl,lk,hcd⟩:=F.ex
 refine xW lk hcd S len λA outer s H vs Q E hr hsp=>?_
 obtain ⟨t,h,q⟩:=hbody cdv A outer s H vs Q E hr hsp
 exact ⟨t,h.nox,q⟩
end
section
variable {K:PySem.W.Frag} {σ:St} {H H':Hp} {d d':D} {ds:List D} {t u ta tb:TE} {tt uu:TT} {tA:TA} {i j:Int} {b c:Bool}
theorem eZ (h1:RE K ta σ H (.int i)) (h2:RE K tb σ H (.int j)) (hj:0 < j):RE K (tOp (rI (λ_ j=>0 < j) λi j=>.int (i % j)) ta tb) σ H (.int (i % j)):=tY h1 h2 hj λ_=>Dat.intI _
theorem qg (h1:RE K ta σ H (.int i)) (h2:RE K tb σ H (.int j)) (hc:CMul i j):RE K (tOp (rI CMul λi j=>.int (i * j)) ta tb) σ H (.int (i * j)):=tY h1 h2 hc λ_=>Dat.intI _
theorem vC (h1:RE K ta σ H (.int i)) (h2:RE K tb σ H (.int j)) (hc:BH i j):RE K (tOp (rI BH λi j=>.int (i / j)) ta tb) σ H (.int (i / j)):=tY h1 h2 hc λ_=>Dat.intI _
theorem Bq:∀ {bs:List Bool} {vs:List V},Dats K H (bs.map D.bl) vs->vs=bs.map V.bl
 | [],vs,h=>by rw [Dats.nilE h];rfl
 | b::bs,vs,h=>by
  obtain ⟨v,r,e,h1,h2⟩:=h.consE
  rw [e,h1.blE,Bq h2]
  rfl
theorem xP:∀ {xs:List Str} {vs:List V},Dats K H (xs.map D.str) vs->vs=xs.map V.str
 | [],vs,h=>by rw [Dats.nilE h];rfl
 | x::xs,vs,h=>by
  obtain ⟨v,r,e,h1,h2⟩:=h.consE
  rw [e,h1.strE,xP h2]
  rfl
theorem Aj (x y:Str):eqV (.str x) (.str y)=decide (x=y):=by
 unfold eqV
 by_cases h:x=y <;> simp [h]
theorem pB (x:Str):∀ ys:List Str,inV (.str x) (ys.map V.str)=decide (x ∈ ys)
 | []=>by simp [inV]
 | y::ys=>by
  have ih:=pB x ys
  unfold inV at ih ⊢
  rw [List.map_cons,List.any_cons,ih,Aj]
  by_cases h:y=x
  ·subst h;simp
  ·have h':¬ x=y:=λz=>h z.symm
   simp [h,h']
theorem oF (ys:List Str):(ys.map V.str).all jD=true:=by
 rw [List.all_eq_true]
 intro v hv
 obtain ⟨y,_,rfl⟩:=List.mem_map.mp hv
 rfl
variable {x:Str} {ys:List Str}
theorem gh (h1:RE K ta σ H (.str x)) (h2:RE K tb σ H (.tup (ys.map D.str))):RE K (tOp (rIn K false) ta tb) σ H (.bl (decide (x ∈ ys))):=λH1 s Q q =>
 h1 H1 s _ λv H2 s2 q2=>h2 H2 (s.trans s2) _ λw H3 s3 q3=>by
  obtain ⟨a,vs,ev,hq,hd⟩:=q3.tupE
  have e:=xP hd
  subst e
  rw [q2.strE]
  refine ⟨a,_,ev,.inr hq,rfl,oF ys,?_⟩
  rw [pB]
  exact q _ _ (s2.trans s3) (Dat.blI _)
theorem wQ (h1:RE K ta σ H (.str x)) (h2:RE K tb σ H (.tup (ys.map D.str))):RE K (tOp (rIn K true) ta tb) σ H (.bl (!decide (x ∈ ys))):=λH1 s Q q =>
 h1 H1 s _ λv H2 s2 q2=>h2 H2 (s.trans s2) _ λw H3 s3 q3=>by
  obtain ⟨a,vs,ev,hq,hd⟩:=q3.tupE
  have e:=xP hd
  subst e
  rw [q2.strE]
  refine ⟨a,_,ev,.inr hq,rfl,oF ys,?_⟩
  rw [pB]
  exact q _ _ (s2.trans s3) (Dat.blI _)
theorem Cy {y:Str} (h1:RE K ta σ H (.str x)) (h2:RE K tb σ H (.str y)):RE K (tOp rNe ta tb) σ H (.bl (!decide (x=y))):=λH1 s Q q =>
 h1 H1 s _ λv H2 s2 q2=>h2 H2 (s.trans s2) _ λw H3 s3 q3=>by
  rw [q2.strE,q3.strE]
  refine ⟨rfl,?_⟩
  have e:decide (V.str x=V.str y)=decide (x=y):=by by_cases z:x=y <;> simp [z]
  rw [e]
  exact q _ _ (s2.trans s3) (Dat.blI _)
end
section
variable {X:Cx}
theorem yJ:OpR X (compareOp .LtE) (λx y H Q=>∃ i j:Str,x=.str i/\y=.str j/\Q (.bl (!decide (j.cps.toList < i.cps.toList))) H):=by
 intro pins s σ H x y v u Q I rx ry h
 obtain ⟨i,j,rfl,rfl,q⟩:=h
 obtain ⟨t,rfl⟩:=rx
 obtain ⟨t',rfl⟩:=ry
 refine PySem.P.le_str ?_
 exact ⟨.bl _,H,I,rfl,q⟩
def Its (x:Str):It:=⟨λi _=>i < x.cps.size,λi H v H'=>H'=H/\∃ c,x.cps[i]?=some c/\v=.str ⟨#[c]⟩,λi _=>i=x.cps.size⟩
theorem oV {P:Program} {w:World} {K:PySem.W.Frag} {tg:Expr} {it:Addr} {n:String} {x:Str} {t:Tok} (hn:["enumerate","zip","dict_itemiterator","dict_reverseitemiterator","odict_iterator","itertools.zip_longest","itertools.pairwise"].contains n=false)
  (W:∀ A:Around,A.handled=none->Walks P w A it [it] [it] x.cps.size (SignAt x) (λi h=>h.IsStrIter it n x t i))
  (self:∀ (A:Around) (i:Nat) (s:Shared) (Q:Value->Shared->Prop) (E:Value->Shared->Prop),s.heap.IsStrIter it n x t i->Q (.ref it) s->wpAny (model P w) A (pyIter (.ref it)) Q E s) :
  kC P w K tg (Its x) [it] it (λi h=>h.IsStrIter it n x t i) where
 mem:=by simp
 obj:=λi h st b hb=>by
  have e:b=it:=by simpa using hb
  subst e
  obtain ⟨o,e,c,d⟩:=st
  exact ⟨o,e,λv z=>by rw [d] at z;cases z⟩
 keep:=λi h h' st k=>by
  obtain ⟨o,e,r⟩:=st
  exact ⟨o,k it (by simp) o e,r⟩
 item:=by
  intro X hP hw hK hc i pins s σ H E I hf st hg
  subst hP hw hK
  obtain ⟨f0,f1,f2,f3,f4,f5⟩:=hf it (by simp)
  refine (W X.A (I.ok.hd hc)).item i s _ _ hg st λv h' tk hv st' kk=>?_
  obtain ⟨c,u,hx,rfl⟩:=hv
  have I1:Inv X pins σ H { s with heap:=h',toks:=tk }:=I.turned (λb o hb e=>kk b o (by simpa using hb) e) f0 f1 f3 f4 f5
  obtain ⟨o,e,cc,d⟩:=id st'
  exact ⟨_,rfl,qQ (s:={ s with heap:=h',toks:=tk }) e cc d hn ⟨.str ⟨#[c]⟩,H,I1,⟨u,rfl⟩,⟨rfl,c,hx,rfl⟩,st',λb hb=>(hf b hb).1⟩⟩
 done:=by
  intro X hP hw hK hc i pins s σ H E I hf st hg
  subst hP hw hK
  obtain ⟨f0,f1,f2,f3,f4,f5⟩:=hf it (by simp)
  have hg':i=x.cps.size:=hg
  subst hg'
  exact (W X.A (I.ok.hd hc)).done s _ _ st λh' tk eb=>⟨rfl,I.turned (λb o hb e=>eb b o (by simpa using hb) e) f0 f1 f3 f4 f5⟩
 self:=self
variable {tg:Expr}
def C5 (tl:TE):TI:=λσ H R=>tl σ H λv H1=>∃ x,v=.str x/\R (Its x) H1
theorem Cm {l:Expr} {tl:TE} (hl:PE X l tl):PI X tg l (C5 tl):=by
 intro pins s σ H R I h
 refine thn (hl pins s σ H _ I h) λv s1 ⟨xv,H1,I1,r1,q1⟩=>?_
 obtain ⟨x,e,q⟩:=q1
 subst e
 obtain ⟨t,rfl⟩:=r1
 have fin:∀ (o:Obj) (n:String),kC X.prog X.w X.K tg (Its x) [s1.heap.objs.size] s1.heap.objs.size (λi h=>h.IsStrIter s1.heap.objs.size n x t i)->(s1.heap.push o).IsStrIter s1.heap.objs.size n x t 0->PIE X pins σ tg R (.ref s1.heap.objs.size) { s1 with heap:=s1.heap.push o }:=by
  intro o n T st
  refine ⟨s1.heap.objs.size,[s1.heap.objs.size],_,_,H1,rfl,I1.kept (t':=s1.toks) λb o e=>Heap.get?_push_of_some _ e,T,st,λb hb=>?_,q⟩
  have e:b=s1.heap.objs.size:=by simpa using hb
  subst e
  exact I1.fpOk (Nat.le_refl _) (I1.hok.fresh (Nat.le_refl _))
 cases ha:x.cps.all (· < 128)
 ·exact wpAny_pyIter_wide ha (fin _ "str_iterator" (oV (by decide) (λA hA=>Walks.strWide hA _ x t) λA i s Q E st q=>wpAny_pyIter_striter_wide st q) ⟨_,Heap.get?_push_size _ rfl,rfl,rfl⟩)
 ·exact wpAny_pyIter_ascii ha (fin _ "str_ascii_iterator" (oV (by decide) (λA hA=>Walks.strAscii hA _ x t) λA i s Q E st q=>wpAny_pyIter_striter_ascii st q) ⟨_,Heap.get?_push_size _ rfl,rfl,rfl⟩)
theorem rC:OpR X (compareOp .NotIn) (λx y H Q=>∃ k a T,x=.str k/\y=.ref a/\iP X.K a T/\Q (.bl (!KTD.inKeys k T)) H):=by
 intro pins s σ H x y v u Q I rx ry h
 obtain ⟨k,a,T,ex,ey,t,q⟩:=h
 subst ex ey
 obtain ⟨tk,rfl⟩:=rx
 cases ry
 exact KTD.notin_text (h₀:=s.heap) ⟨t _ I.kIn,λ_ _ e=>e⟩ ⟨.bl _,H,I.tok _,rfl,q⟩
def vw (K:PySem.W.Frag):R2:=λx y H Q=>∃ a k T z,x=.ref a/\y=.str k/\iP K a T/\(T.all λp=>KTD.plain p.2)=true/\KTD.datumAt k T=some (.flat (.str z))/\Q (.str z) H
theorem Aw:IxR X (vw X.K):=by
 intro value slice pins s σ H x y v u Q I rx ry h hs
 obtain ⟨a,k,T,z,ex,ey,t,hp,hd,q⟩:=h
 subst ex ey
 obtain ⟨tk,rfl⟩:=ry
 cases rx
 have hm:KTD.inKeys k T=true:=by rw [← KTD.isSome_datumAt,hd];rfl
 refine KTD.item_textA (h₀:=s.heap) ⟨t _ I.kIn,λ_ _ e=>e⟩ hp hm ?_ hs
 exact each T hd λt'=>⟨.str z,H,I.tok _,⟨t',rfl⟩,q⟩
where
 each {h:Heap} {k:Str} {P:Value->Prop} {z:Str}:∀ (T:List (Str × KTD.Dat)),KTD.datumAt k T=some (.flat (.str z))->(∀ t,P (.str z t))->KTD.EachL h k P T
  | [],hd,_=>by simp [KTD.datumAt] at hd
  | (x,d)::T,hd,hP=>by
   have hd':(if decide (k=x)=true then some d else KTD.datumAt k T)=some (.flat (.str z)):=hd
   by_cases hx:k=x
   ·rw [if_pos (decide_eq_true hx)] at hd'
    cases hd'
    exact KTD.eachL_hit hx (KTD.opened_str hP)
   ·rw [if_neg (by simp [hx])] at hd'
    exact KTD.eachL_miss hx (each T hd' hP)
def vI (K:PySem.W.Frag) (td ty tx:TE):TE:=λσ H Q=>td σ H λx H1=>∃ a T,x=.ref a/\iP K a T/\ty σ H1 λy H2=>tx σ H2 λz H3=>∃ k i,y=.str k/\z=.int i/\(∀ p ∈ T,∃ j,p.2=.flat (.int j)) /\
 Q (.int (match KTD.datumAt k T with | some (.flat (.int j))=>j | _=>i)) H3
theorem oI {o e f:Expr} {apos cpos:Pos} {td ty tx:TE} (ho:PE X o td) (he:PE X e ty) (hf:PE X f tx) (m:M2 X o "get" apos e f cpos):PE X (.Call (.Attribute o "get" apos) [e,f] [] cpos) (vI X.K td ty tx):=by
 intro pins s σ H Q I h
 refine wpAny_Call_method m.base m.few m.line PySem.F.plainAttrs_dict PySem.F.slot_dict_get PySem.F.type_dict_get (thn (ho pins s σ H _ I h) λu s1 ⟨x,H1,I1,rx,a,T,ex,tk,q1⟩=>?_)
 subst ex
 obtain rfl:u=Value.ref a:=rx
 have t1:=tk _ I1.kIn
 obtain ⟨lo,ob,es,ep,hob,hex,hdat,hrows⟩:=id t1
 refine ⟨⟨ob,hob,hex.1⟩,λb eb=>?_,?_⟩
 ·cases eb
  exact ⟨ob,hob,hex.2.1⟩
 rw [m.trees]
 refine Calls.callWith_builtin rfl (Calls.evalArgs_plain (Calls.spliced_cons (thn (he pins s1 σ H1 _ I1 q1) λiv s2 ⟨y,H2,I2,ry,q2⟩ =>
  Calls.spliced_cons (thn (hf pins s2 σ H2 _ I2 q2) λfv s3 ⟨z,H3,I3,rz,k,i,ey,ez,hT,q3⟩=>Calls.spliced_nil ?_))))
 subst ey ez
 obtain ⟨tok1,rfl⟩:=ry
 obtain ⟨tok2,rfl⟩:=rz
 refine KTD.get2_text (h₀:=s3.heap) ⟨tk _ I3.kIn,λ_ _ e=>e⟩ ?_
 have fin:∀ (D:List (Str × KTD.Dat)),(∀ p ∈ D,∃ j,p.2=.flat (.int j))->Q (.int (match KTD.datumAt k D with | some (.flat (.int j))=>j | _=>i)) H3 ->
   KTD.Each s3.heap k (λv=>EP X pins σ Q v { s3 with toks:=s3.toks+1 }) (EP X pins σ Q (.int i tok2) { s3 with toks:=s3.toks+1 }) D:=by
  intro D
  induction D with
  | nil=>intro _ q;exact KTD.each_nil ⟨.int i,H3,I3.tok _,⟨_,rfl⟩,q⟩
  | cons p D ih =>
   intro hD q
   obtain ⟨x,d⟩:=p
   obtain ⟨j,ej⟩:=hD (x,d) List.mem_cons_self
   have ej':d=.flat (.int j):=ej
   subst ej'
   have ed:KTD.datumAt k ((x,KTD.Dat.flat (.int j))::D)=if decide (k=x)=true then some (.flat (.int j)) else KTD.datumAt k D:=rfl
   rw [ed] at q
   by_cases hx:k=x
   ·rw [if_pos (decide_eq_true hx)] at q
    exact KTD.each_hit hx (KTD.opened_int λt=>⟨.int j,H3,I3.tok _,⟨t,rfl⟩,q⟩)
   ·rw [if_neg (by simp [hx])] at q
    exact KTD.each_miss hx (ih (λp hp=>hD p (List.mem_cons_of_mem _ hp)) q)
 exact fin T hT q3
end
structure xk (P:Program) (w:World) (K:PySem.W.Frag) (a:Addr) (ks:List Str):Prop where
 lk:∃ o,K.lookup a=some o
 tb:∀ h:Heap,K.In h->∃ D,StrTab P w h a D/\D.map (·.1)=ks.map PyData.str
def Itk (ks:List Str):It:=⟨λi _=>i < ks.length,λi H v H'=>H'=H/\∃ k,ks[i]?=some k/\v=.str k,λi _=>i=ks.length⟩
variable {kvs:List (Str × Value)}
theorem vX {D:List (PyData × PyData)} {ks:List Str} (h:PyProof.V.FlatPairs PyData.str kvs D) (e:D.map (·.1)=ks.map PyData.str):kvs.map (·.1)=ks:=by
 induction h generalizing ks with
 | nil =>
  cases ks with
  | nil=>rfl
  | cons k ks=>simp at e
 | cons _ _ ih =>
  cases ks with
  | nil=>simp at e
  | cons k ks =>
   simp only [List.map_cons,List.cons.injEq] at e
   obtain ⟨e1,e2⟩:=e
   injection e1 with e1
   rw [List.map_cons,ih e2,← e1]
theorem zO {tg:Expr} {it d:Addr} {ep:Nat} (hD:∀ h:Heap,K.In h->h.DictAt (strKind P w) d kvs ep) :
  kC P w K tg (Itk (kvs.map (·.1))) [it] it (λi h=>h.IsKeyIter it d i kvs.length ep) where
 mem:=by simp
 obj:=λi h st b hb=>by
  have e:b=it:=by simpa using hb
  subst e
  obtain ⟨o,e,c,d⟩:=st
  exact ⟨o,e,λv z=>by rw [d] at z;cases z⟩
 keep:=λi h h' st k=>by
  obtain ⟨o,e,r⟩:=st
  exact ⟨o,k it (by simp) o e,r⟩
 item:=by
  intro X hP hw hK hc i pins s σ H E I hf st hg
  subst hP hw hK
  obtain ⟨f0,f1,f2,f3,f4,f5⟩:=hf it (by simp)
  have hi:i < kvs.length:=by have z:i < (kvs.map (·.1)).length:=hg;simpa using z
  refine wpAny_pyNext_dict_item st (hD _ I.kIn) (List.getElem?_eq_getElem hi) λkey h' hk st' sb=>?_
  obtain ⟨t,rfl⟩:=Value.isStrOf_shape hk
  have I1:Inv X pins σ H { s with heap:=h' }:=I.turned (t':=s.toks) (λb o hb e=>(sb.2 b hb).trans e) f0 f1 f3 f4 f5
  refine ⟨_,rfl,PyProof.Rows.letGo_keyiter (s':={ s with heap:=h' }) st' ⟨.str (kvs[i]).1,H,I1,⟨t,rfl⟩,⟨rfl,(kvs[i]).1,?_,rfl⟩,st',λb hb=>(hf b hb).1⟩⟩
  rw [List.getElem?_map,List.getElem?_eq_getElem hi]
  rfl
 done:=by
  intro X hP hw hK hc i pins s σ H E I hf st hg
  subst hP hw hK
  obtain ⟨f0,f1,f2,f3,f4,f5⟩:=hf it (by simp)
  have hi:i=kvs.length:=by have z:i=(kvs.map (·.1)).length:=hg;simpa using z
  exact wpAny_pyNext_dict_end (I.ok.hd hc) st (hD _ I.kIn) (by simp [hi]) λh' eb=>⟨rfl,I.turned (t':=s.toks) (λb o hb e=>eb b o hb e) f0 f1 f3 f4 f5⟩
 self:=λA i s Q E st q=>wpAny_pyIter_keyiter st q
section
variable {X:Cx} {tg:Expr}
def C6 (P:Program) (w:World) (K:PySem.W.Frag) (tl:TE):TI:=λσ H R=>tl σ H λv H1=>∃ a ks,v=.ref a/\xk P w K a ks/\R (Itk ks) H1
theorem Cn {l:Expr} {tl:TE} (hl:PE X l tl):PI X tg l (C6 X.prog X.w X.K tl):=by
 intro pins s σ H R I h
 refine thn (hl pins s σ H _ I h) λv s1 ⟨xv,H1,I1,r1,q1⟩=>?_
 obtain ⟨a,ks,e,hK,q⟩:=q1
 subst e
 cases r1
 obtain ⟨D,T,hD⟩:=hK.tb _ I1.kIn
 obtain ⟨o,ho⟩:=hK.lk
 obtain ⟨lo,kvs,hdo,hf⟩:=T
 obtain ⟨ep,hat⟩:=hdo.dictAt
 have ek:=vX hf hD
 subst ek
 have hall:∀ h:Heap,X.K.In h->h.DictAt (strKind X.prog X.w) a kvs ep:=λh x=>by
  obtain ⟨o',es,e1,r⟩:=hat
  have z:=I1.kIn _ _ ho
  rw [e1] at z
  cases z
  exact ⟨_,es,x _ _ ho,r⟩
 refine wpAny_pyIter_dict lo hat ?_
 refine ⟨s1.heap.objs.size,[s1.heap.objs.size],_,_,H1,rfl,I1.kept (t':=s1.toks) λb o e=>Heap.get?_push_of_some _ e,zO hall,⟨_,Heap.get?_push_size _ rfl,rfl,rfl⟩,λb hb=>?_,q⟩
 have e:b=s1.heap.objs.size:=by simpa using hb
 subst e
 exact I1.fpOk (Nat.le_refl _) (I1.hok.fresh (Nat.le_refl _))
end
def RC (K:PySem.W.Frag) (t:TE) (σ:St) (H:Hp) (es:List D):Prop:=∀ H1,Same H H1->∀ Q:VK,(∀ l ys H',H1 l=none->Same H1 H'->H' l=some (.lst ys)->Dats K H' es ys->Q (.ref l) H')->t σ H1 Q
section
variable {K:PySem.W.Frag} {σ:St} {H H':Hp} {d d':D} {ds es:List D} {t u ta tb te tl:TE} {tt uu:TT} {tA:TA} {i j:Int} {b c:Bool} {mk:St->St} {jj:Nat}
theorem RC.mono (h:RC K t σ H es) (e:Same H H'):RC K t σ H' es:=λH1 s Q q=>h H1 (e.trans s) Q q
theorem RC.as (h:RC K t σ H es) (e:es=ds):RC K t σ H ds:=e ▸ h
theorem RC.use {Q:VK} (h:RC K t σ H es) (q:∀ l ys H',H l=none->Same H H'->H' l=some (.lst ys)->Dats K H' es ys->Q (.ref l) H'):t σ H Q:=h H (Same.refl H) Q q
theorem bw (h:RA K tA σ H es) (hl:es.length≤1000:=by simp):RC K (zI tA) σ H es:=λH1 s Q q =>
 CB (h.mono s) (λp vs H2 s2 hp hd=>q p vs _ (s2.free hp) (s2.trans (aG hp _)) ay ((aG hp _).dats hd)) hl
variable {cs:List D}
theorem tW (h:RE K tl σ H (.tup cs)) (hc:cs.length≤1000) (es:List D) (hl:es.length=cs.length) (h0:(mk σ).set jj none=mk σ)
  (turn:∀ H1 (i:Nat) c v d,Same H H1->cs[i]?=some c->es[i]?=some d->Dat K H1 c v->RE K te ((mk σ).set jj (some v)) H1 d):RC K (fF (wc K tl) mk (bq jj) dU te) σ H es:=λH1 s Q q =>
 wK (K:=K) (h.mono s) hc es hl h0 (λH2 i c v d s2=>turn H2 i c v d (s.trans s2)) (λl ys H2 hl s2 hy hd=>q l ys H2 hl s2 hy hd)
variable {x:Str}
theorem Ct (h:RE K tl σ H (.str x)) (hc:x.cps.size≤1000) (es:List D) (hl:es.length=x.cps.size) (h0:(mk σ).set jj none=mk σ)
  (turn:∀ H1 (i:Nat) c d,Same H H1->x.cps[i]?=some c->es[i]?=some d->RE K te ((mk σ).set jj (some (.str ⟨#[c]⟩))) H1 d):RC K (fF (C5 tl) mk (bq jj) dU te) σ H es:=λH1 s Q q=>by
 refine (h.mono s).use λv4 H4 s4 q4=>?_
 have e:=q4.strE
 subst e
 refine ⟨x,rfl,?_⟩
 refine fV (K:=K) (Q:=Q) (n:=x.cps.size) (item:=λi=>.str ⟨#[x.cps.getD i 0]⟩) (λi H' s hi=>⟨hi,λv H'' y=>⟨y.1,?_⟩⟩) (λH' s=>rfl) h0 es hl hc (λi d hi=>?_) (λl ys H5 hl5 s5=>q l ys H5 (s4.free hl5) (s4.trans s5))
 ·obtain ⟨_,c,hc,e⟩:=y
  rw [e,Array.getD_eq_getD_getElem?,hc]
  rfl
 ·have hi':i < es.length:=(List.getElem?_eq_some_iff.mp hi).1
  have hc:x.cps[i]?=some (x.cps.getD i 0):=by
   rw [Array.getD_eq_getD_getElem?,Array.getElem?_eq_getElem (by omega)]
   rfl
  exact turn H4 i _ d (s.trans s4) hc hi
variable {a:Addr}
theorem Cu {P:Program} {w:World} {ks:List Str} (hK:xk P w K a ks) (hc:ks.length≤1000) (es:List D) (hl:es.length=ks.length) (h0:(mk σ).set jj none=mk σ)
  (turn:∀ H1 (i:Nat) k d,Same H H1->ks[i]?=some k->es[i]?=some d->RE K te ((mk σ).set jj (some (.str k))) H1 d):RC K (fF (C6 P w K (tC (.ref a))) mk (bq jj) dU te) σ H es:=λH1 s Q q=>by
 refine ⟨a,ks,rfl,hK,?_⟩
 refine fV (K:=K) (Q:=Q) (n:=ks.length) (item:=λi=>.str (ks.getD i "")) (λi H' s hi=>⟨hi,λv H'' y=>⟨y.1,?_⟩⟩) (λH' s=>rfl) h0 es hl hc (λi d hi=>?_) q
 ·obtain ⟨_,k,hk,e⟩:=y
  rw [e,List.getD_eq_getElem?_getD,hk]
  rfl
 ·have hi':i < es.length:=(List.getElem?_eq_some_iff.mp hi).1
  have hk:ks[i]?=some (ks.getD i ""):=by
   rw [List.getD_eq_getElem?_getD,List.getElem?_eq_getElem (by omega)]
   rfl
  exact turn H1 i _ d s hk hi
theorem AW (h:RC K tl σ H cs) (hc:cs.length≤1000) (es:List D) (hl:es.length=cs.length) (h0:(mk σ).set jj none=mk σ)
  (turn:∀ H1 (i:Nat) c v d,Same H H1->cs[i]?=some c->es[i]?=some d->Dat K H1 c v->RE K te ((mk σ).set jj (some v)) H1 d):RC K (fF (kX K tl) mk (bq jj) dU te) σ H es:=λH1 s Q q=>by
 refine (h.mono s).use λl4 ys4 H4 hl4 s4 hy4 hd4=>?_
 have ll:=hd4.length
 refine ⟨l4,rfl,⟨ys4,SqL.of hy4⟩,?_⟩
 refine fV (K:=K) (Q:=Q) (n:=ys4.length) (item:=λi=>ys4.getD i .non) (λi H' s hi=>pw i H' (SqL.of (s _ _ hy4)) hi) (λH' s=>⟨ys4,SqL.of (s _ _ hy4),Nat.le_refl _⟩) h0 es (by omega) (by omega) (λi d hi=>?_) (λl ys H5 hl5 s5=>q l ys H5 (s4.free hl5) (s4.trans s5))
 have hi':i < es.length:=(List.getElem?_eq_some_iff.mp hi).1
 have hic:i < cs.length:=by omega
 obtain ⟨vz,ez,hz⟩:=hd4.get (List.getElem?_eq_getElem hic)
 have q:=turn H4 i cs[i] vz d (s.trans s4) (List.getElem?_eq_getElem hic) hi hz
 rw [List.getD_eq_getElem?_getD,ez]
 exact q
theorem dm {R:List D->List D->Prop} {E:XK} (h:RA K tA σ H ds) (e:R ds es):RC K (fO (fU K R) [] E tA) σ H es:=λH1 s Q q =>
 h H1 s _ λvs H2 s2 q2=>⟨ds,es,by rw [List.append_nil];exact q2,e,λr us H3 s3 hr hr0 hd=>q r us H3 (s2.free hr0) (s2.trans s3) hr hd⟩
theorem lU {bs:List Bool} (h:RC K t σ H (bs.map D.bl)):RE K (tCB (λxs H Q=>∃ (l:Addr) (bs:List Bool),xs=[.ref l]/\SqL K H l (bs.map V.bl)/\Q (.bl (bs.all id)) H) (bf t cu)) σ H (.bl (bs.all id)):=λH1 s Q q =>
 iI ((h.mono s).use λl ys H' _ s' hy hd=>⟨l,bs,rfl,by rw [← Bq hd];exact SqL.of hy,q _ _ s' (Dat.blI _)⟩)
theorem oN (h:RC K t σ H es):RE K (tCB (λxs H Q=>∃ p ys,xs=[.ref p]/\((SqL K H p ys/\∀ l,H l=none->Q (.ref l) (upd H l (.tup ys)))\/(SqT K H p ys/\Q (.ref p) H))) (bf t cu)) σ H (.tup es):=λH1 s Q q =>
 iI ((h.mono s).use λl ys H' _ s' hy hd=>⟨l,ys,rfl,.inl ⟨SqL.of hy,λp hp=>q _ _ (s'.trans (aG hp _)) (Dat.tupI (SqT.of ay) ((aG hp _).dats hd))⟩⟩)
theorem oO (h:RE K t σ H (.tup es)):RE K (tCB (λxs H Q=>∃ p ys,xs=[.ref p]/\((SqL K H p ys/\∀ l,H l=none->Q (.ref l) (upd H l (.tup ys)))\/(SqT K H p ys/\Q (.ref p) H))) (bf t cu)) σ H (.tup es):=λH1 s Q q =>
 iI ((h.mono s).use λv H' s' hd=>by
  obtain ⟨a,vs,e,hq,hds⟩:=hd.tupE
  subst e
  exact ⟨a,vs,rfl,.inr ⟨hq,q _ _ s' (Dat.tupI hq hds)⟩⟩)
theorem A1 (h:RC K t σ H es):RE K (tCB (λxs H Q=>∃ p ys,xs=[.ref p]/\(SqL K H p ys\/SqT K H p ys)/\Q (.int ys.length) H) (bf t cu)) σ H (.int es.length):=λH1 s Q q =>
 iI ((h.mono s).use λl ys H' _ s' hy hd=>⟨l,ys,rfl,.inl (SqL.of hy),by rw [← hd.length];exact q _ _ s' (Dat.intI _)⟩)
theorem A2 (h:RE K t σ H (.str x)) (hx:x.length≤sizeLine):RE K (tCB (λxs H Q=>∃ z:Str,xs=[.str z]/\z.length≤sizeLine/\Q (.int z.length) H) (bf t cu)) σ H (.int x.length):=λH1 s Q q =>
 iI ((h.mono s).use λv H' s' hd=>by
  rw [hd.strE]
  exact ⟨x,rfl,hx,q _ _ s' (Dat.intI _)⟩)
theorem dY {us:TS} {En:gM} {k:Nat} (h:RC K t σ H es) (q:∀ l ys H',H l=none->Same H H'->H' l=some (.lst ys)->Dats K H' es ys->us En (σ.set k (some (.ref l))) H'):jZ (jY t (bq k)) us En σ H:=h.use q
variable {z:Str}
theorem wL {tc:TE} {y:Str} {p q':Str->Str->Bool} (h1:RE K ta σ H (.str x)) (h2:RE K tb σ H (.str y)) (h3:p x y=true->RE K tc σ H (.str z)) :
  RE K (qr (λu v H Q=>∃ i j:Str,u=.str i/\v=.str j/\Q (.bl (p i j)) H) (λu v H Q=>∃ i j:Str,u=.str i/\v=.str j/\Q (.bl (q' i j)) H) ta tb tc) σ H (.bl (p x y && q' y z)):=λH1 s Q q =>
 h1 H1 s _ λv H2 s2 q2=>h2 H2 (s.trans s2) _ λw H3 s3 q3=>by
  refine ⟨x,y,q2.strE,q3.strE,p x y,rfl,?_⟩
  cases hp:p x y with
  | true =>
   simp only [if_true,Bool.true_and]
   exact h3 hp H3 (s.trans (s2.trans s3)) _ λz' H4 s4 q4=>⟨y,z,q3.strE,q4.strE,q _ _ (s2.trans (s3.trans s4)) (by rw [hp];exact Dat.blI _)⟩
  | false =>
   simp only [Bool.false_eq_true,if_false,Bool.false_and]
   exact q _ _ (s2.trans s3) (by rw [hp];exact Dat.blI _)
variable {k:Str} {T:List (Str × KTD.Dat)}
theorem rW (h:RE K t σ H (.str k)) (ht:iP K a T):RE K (tOp (λx y H Q=>∃ k a T,x=.str k/\y=.ref a/\iP K a T/\Q (.bl (!KTD.inKeys k T)) H) t (tC (.ref a))) σ H (.bl (!KTD.inKeys k T)):=λH1 s Q q =>
 h H1 s _ λv H2 s2 q2=>⟨k,a,T,q2.strE,rfl,ht,q _ _ s2 (Dat.blI _)⟩
theorem wO (h:RE K t σ H (.str k)) (ht:iP K a T) (hp:(T.all λp=>KTD.plain p.2)=true) (e:KTD.datumAt k T=some (.flat (.str z))):RE K (tOp (vw K) (tC (.ref a)) t) σ H (.str z):=λH1 s Q q =>
 h H1 s _ λv H2 s2 q2=>⟨a,k,T,z,rfl,q2.strE,ht,hp,e,q _ _ s2 (Dat.strI _)⟩
def jA (k:Str) (T:List (Str × KTD.Dat)) (i:Int):Int:=match KTD.datumAt k T with | some (.flat (.int j))=>j | _=>i
theorem oM (ht:iP K a T) (h1:RE K ta σ H (.str k)) (h2:RE K tb σ H (.int i)) (hT:∀ p ∈ T,∃ j,p.2=.flat (.int j)):RE K (vI K (tC (.ref a)) ta tb) σ H (.int (jA k T i)):=λH1 s Q q =>
 ⟨a,T,rfl,ht,h1 H1 s _ λv H2 s2 q2=>h2 H2 (s.trans s2) _ λw H3 s3 q3=>⟨k,i,(s3.dat q2).strE,q3.intE,hT,q _ _ (s2.trans s3) (Dat.intI _)⟩⟩
theorem pf {vs:List V} {lo hi:Nat}:j7 vs (some (lo:Int)) (some (hi:Int))=(vs.drop lo).take (hi - lo):=by
 unfold j7
 rw [HT.sIx_nat,HT.sIx_nat]
 apply List.ext_getElem?
 intro i
 simp only [List.getElem?_take,List.getElem?_drop]
 by_cases h1:i < hi - lo
 ·rw [if_pos h1]
  by_cases h2:i < min hi vs.length - min lo vs.length
  ·rw [if_pos h2]
   congr 1
   omega
  ·rw [if_neg h2,List.getElem?_eq_none (by omega)]
 ·rw [if_neg h1,if_neg (by omega)]
theorem Dats.dropN:∀ {n:Nat} {ds:List D} {vs:List V},Dats K H ds vs->Dats K H (ds.drop n) (vs.drop n)
 | 0,_,_,h=>h
 | n+1,[],_,h=>by rw [h.nilE];exact Dats.nil
 | n+1,d::ds,_,h=>by
  obtain ⟨v,r,e,h1,h2⟩:=h.consE
  subst e
  exact Dats.dropN (n:=n) h2
theorem Dats.takeN:∀ {n:Nat} {ds:List D} {vs:List V},Dats K H ds vs->Dats K H (ds.take n) (vs.take n)
 | 0,_,_,h=>by rw [List.take_zero,List.take_zero];exact Dats.nil
 | n+1,[],_,h=>by rw [h.nilE];exact Dats.nil
 | n+1,d::ds,_,h=>by
  obtain ⟨v,r,e,h1,h2⟩:=h.consE
  subst e
  exact Dats.cons h1 (Dats.takeN (n:=n) h2)
end
mutual
def eQ (K:PySem.W.Frag):D->Value->Bool
 | .non,u=>(match u with | .none=>true | _=>false)
 | .bl b,u=>(match u with | .bool c=>b == c | _=>false)
 | .int i,u=>(match u with | .int j _=>i == j | _=>false)
 | .str x,u=>(match u with | .str y _=>x == y | _=>false)
 | .tup ds,u=>(match u with | .ref a=>(match K.lookup a with | some ⟨.type "tuple",_,.seq its _,_⟩=>decide (its.size≤1000) && datsOk K ds its.toList | _=>false) | _=>false)
 | .lst,_=>false
def datsOk (K:PySem.W.Frag):List D->List Value->Bool
 | [],us=>us.isEmpty
 | d::ds,us=>(match us with | u::r=>eQ K d u && datsOk K ds r | []=>false)
end
mutual
variable {K:PySem.W.Frag}
theorem kU (H:Hp):∀ (d:D) (u:Value),eQ K d u=true->∃ v,RelV v u/\Dat K H d v
 | .non,u,h=>by
  unfold eQ at h
  cases u <;> first | (exact ⟨.non,rfl,Dat.nonI⟩) | cases h
 | .bl b,u,h=>by
  unfold eQ at h
  cases u <;> first | cases h | skip
  rename_i c
  have e:b=c:=by simpa using h
  subst e
  exact ⟨.bl b,rfl,Dat.blI _⟩
 | .int i,u,h=>by
  unfold eQ at h
  cases u <;> first | cases h | skip
  rename_i j t
  have e:i=j:=by simpa using h
  subst e
  exact ⟨.int i,⟨t,rfl⟩,Dat.intI _⟩
 | .str x,u,h=>by
  unfold eQ at h
  cases u <;> first | cases h | skip
  rename_i y t
  have e:x=y:=by simpa using h
  subst e
  exact ⟨.str x,⟨t,rfl⟩,Dat.strI _⟩
 | .tup ds,u,h=>by
  unfold eQ at h
  cases u <;> first | cases h | skip
  rename_i a
  dsimp only at h
  split at h
  ·rename_i od its n sl e
   rw [Bool.and_eq_true] at h
   obtain ⟨vs,r,hd⟩:=datsOk_sound H ds its.toList h.2
   refine ⟨.ref a,rfl,Dat.tupI (.inr ⟨_,its,n,e,rfl,rfl,?_,r⟩) hd⟩
   exact Nat.le_trans (of_decide_eq_true h.1) (by decide)
  ·cases h
 | .lst,u,h=>by unfold eQ at h;cases h
theorem datsOk_sound (H:Hp):∀ (ds:List D) (us:List Value),datsOk K ds us=true->∃ vs,Vals vs us/\Dats K H ds vs
 | [],us,h=>by
  unfold datsOk at h
  cases us with
  | nil=>exact ⟨[],.nil,Dats.nil⟩
  | cons u r=>cases h
 | d::ds,us,h=>by
  unfold datsOk at h
  cases us with
  | nil=>cases h
  | cons u r =>
   dsimp only at h
   rw [Bool.and_eq_true] at h
   obtain ⟨v,r1,h1⟩:=kU H d u h.1
   obtain ⟨vs,r2,h2⟩:=datsOk_sound H ds r h.2
   exact ⟨v::vs,.cons r1 r2,Dats.cons h1 h2⟩
end
theorem DJ (h:eQ K (.tup ds) (.ref a)=true) (H:Hp):Dat K H (.tup ds) (.ref a):=by
 obtain ⟨v,r,hd⟩:=kU H _ _ h
 obtain ⟨b,vs,e,_⟩:=id hd.tupE
 subst e
 have z:Value.ref a=.ref b:=r
 cases z
 exact hd
theorem eY (h:eQ K (.tup ds) (.ref a)=true):RE K (tC (.ref a)) σ H (.tup ds):=λH1 _ Q q=>q _ _ (Same.refl _) (DJ h H1)
section
variable {X:Cx}
theorem j5:iO X (.type "range") (λxs H Q=>∃ n:Nat,xs=[.int n]/\∀ p,H p=none->Q (.ref p) (upd H p (.rng 0 n))):=by
 intro pins s σ H xs us Q I r h
 obtain ⟨n,rfl,q⟩:=h
 obtain ⟨u,rfl,ru⟩:=jl r
 obtain ⟨t,rfl⟩:=ru
 refine call_range_1 ⟨.ref s.heap.objs.size,_,I.laid (λb o e=>Heap.get?_push_of_some _ e) (Nat.le_refl _) (show ObjOk X.prog X.w _ _ _ (.rng 0 n) from ⟨_,_,_,Heap.get?_push_size _ rfl⟩),rfl,q _ (I.hok.fresh (Nat.le_refl _))⟩
theorem zU {n:Nat} {acc:Array Value} (h:ItemsOf (λi v=>∃ t,v=.int ((0:Int)+(i:Nat) * 1) t) acc n):Vals ((List.range n).map λi:Nat=>V.int i) acc.toList:=by
 obtain ⟨hs,hi⟩:=h
 have all:∀ (l:List Value) (k:Nat),(∀ (j:Nat) (v:Value),l[j]?=some v->∃ t,v=Value.int ((0:Int)+((k+j:Nat):Int) * 1) t)->Vals ((List.range' k l.length).map λi:Nat=>V.int i) l:=by
  intro l
  induction l with
  | nil=>intro k _;exact .nil
  | cons u l ih =>
   intro k hj
   rw [List.length_cons,List.range'_succ,List.map_cons]
   refine .cons ?_ (ih (k+1) λj v e=>?_)
   ·obtain ⟨t,e⟩:=hj 0 u rfl
    refine ⟨t,?_⟩
    rw [e]
    congr 1
    simp
   ·obtain ⟨t,e'⟩:=hj (j+1) v (by simpa using e)
    refine ⟨t,?_⟩
    rw [e']
    congr 1
    have:k+(j+1)=k+1+j:=by omega
    rw [this]
 have q:=all acc.toList 0 λj v e=>by
  rw [Nat.zero_add]
  exact hi j v (by simpa using e)
 rw [List.range_eq_range']
 rw [Array.length_toList,hs] at q
 exact q
theorem fe (hc:X.calm=true):iO X (.type "list") (λxs H Q=>∃ (p:Addr) (n:Nat),xs=[.ref p]/\H p=some (.rng 0 n)/\n≤1000/\∀ l,H l=none->Q (.ref l) (upd H l (.lst ((List.range n).map λi:Nat=>V.int i)))):=by
 intro pins s σ H xs us Q I r h
 obtain ⟨p,n,rfl,hp,hn,q⟩:=h
 obtain ⟨u,rfl,rx⟩:=jl r
 cases rx
 obtain ⟨t,u,v,e⟩:=(show ObjOk X.prog X.w H s.heap p (.rng 0 n) from I.hok p _ hp)
 refine call_list_range (n:=n) (I.ok.hd hc) (show IsRange s.heap p 0 n 1 t u v from e) (small_one (by omega) (by omega) (by omega) (by omega)) ?_ (by omega) λh' tk acc' c' kp e' hacc=>?_
 ·rw [rangeSize_one]
  split <;> omega
 ·have hv:=zU hacc
  have hl:=hv.length
  refine ⟨.ref s.heap.objs.size,_,I.laid kp (Nat.le_refl _) (show ObjOk X.prog X.w _ h' _ (.lst _) from ⟨?_,acc'.toList,c',hv,by simpa using e'⟩),rfl,q _ (I.hok.fresh (Nat.le_refl _))⟩
  simp only [List.length_map,List.length_range]
  exact Nat.le_trans hn (by decide)
def CY (K:PySem.W.Frag) (a:Addr) (xs:List V):Prop:=∃ (its:Array Value) (n:Nat),K.lookup a=some ⟨.type "list",none,.seq its n,#[]⟩/\its.size≤1000/\Vals xs its.toList
def aLst (K:PySem.W.Frag) (H:Hp) (a:Addr) (xs:List V):Prop:=H a=some (.lst xs)\/CY K a xs
variable {H:Hp} {a:Addr} {xs:List V}
theorem aLst.sqL {K:PySem.W.Frag} (h:aLst K H a xs):SqL K H a xs:=by
 rcases h with h | ⟨its,n,e,hz,r⟩
 ·exact SqL.of h
 ·exact .inr ⟨_,its,n,e,rfl,rfl,rfl,Nat.le_trans hz (by decide),r⟩
theorem aLst.at {pins:List (Addr × Obj)} {σ:St} {s:Shared} (I:Inv X pins σ H s) (h:aLst X.K H a xs):∃ (its:List Value) (n:Nat),Vals xs its/\s.heap.get? a=some { cls:=.type "list",data:=.seq its.toArray n }:=by
 rcases h with h | ⟨its,n,e,hz,r⟩
 ·obtain ⟨z,its,n,r,hl,e⟩:=I.lstM h
  exact ⟨its,n,r,e⟩
 ·exact ⟨its.toList,n,r,by simpa using I.kIn _ _ e⟩
def Bx (K:PySem.W.Frag):R2:=λx y H Q=>∃ l b xs zs,x=.ref l/\y=.ref b/\aLst K H l xs/\aLst K H b zs/\xs.length+zs.length≤1000/\∀ p,H p=none->Q (.ref p) (upd H p (.lst (xs++zs)))
theorem kn:OpR X (binaryOp .Add) (Bx X.K):=by
 intro pins s σ H x y v u Q I rx ry h
 obtain ⟨l,b,xs,zs,rfl,rfl,hH,hB,hz,q⟩:=h
 cases rx
 cases ry
 obtain ⟨its,n,r,e⟩:=hH.at I
 obtain ⟨its2,n2,r2,e2⟩:=hB.at I
 have l1:=r.length
 have l2:=r2.length
 have hz':xs.length+zs.length≤sizeLine:=Nat.le_trans hz (by decide)
 refine PySem.P.add_list e e2 ?_ (by rw [List.size_toArray,List.size_toArray];omega)
 have ea:its.toArray++its2.toArray=(its++its2).toArray:=by simp
 rw [ea]
 exact ⟨.ref _,_,I.lnew (t':=s.toks) (r.append r2) (by rw [List.length_append];omega),rfl,q _ I.fresh⟩
end
section
variable {K:PySem.W.Frag} {σ:St} {H:Hp} {t:TE} {n:Nat}
def mL (K:PySem.W.Frag) (ds:List D) (a:Addr):Bool:=match K.lookup a with
 | some ⟨.type "list",none,.seq its _,sl⟩=>decide (its.size≤1000) && (sl.isEmpty && datsOk K ds its.toList)
 | _=>false
theorem pG {K:PySem.W.Frag} {ds:List D} {a:Addr} (h:mL K ds a=true) (H:Hp):∃ vs,CY K a vs/\Dats K H ds vs:=by
 unfold mL at h
 split at h
 ·rename_i its n sl e
  rw [Bool.and_eq_true,Bool.and_eq_true] at h
  obtain ⟨vs,r,hd⟩:=datsOk_sound H ds its.toList h.2.2
  have es:sl=#[]:=by simpa using h.2.1
  subst es
  exact ⟨vs,⟨its,n,e,of_decide_eq_true h.1,r⟩,hd⟩
 ·cases h
theorem ix (h:RE K t σ H (.int n)) (hn:n≤1000):RC K (tCB (λxs H Q=>∃ (p:Addr) (n:Nat),xs=[.ref p]/\H p=some (.rng 0 n)/\n≤1000/\∀ l,H l=none->Q (.ref l) (upd H l (.lst ((List.range n).map λi:Nat=>V.int i))))
  (bf (tCB (λxs H Q=>∃ n:Nat,xs=[.int n]/\∀ p,H p=none->Q (.ref p) (upd H p (.rng 0 n))) (bf t cu)) cu)) σ H ((List.range n).map λi:Nat=>D.int i):=λH1 s Q q =>
 iI (iI ((h.mono s).use λv H2 s2 q2=>by
  rw [q2.intE]
  refine ⟨n,rfl,λp hp=>⟨p,n,rfl,ay,hn,λl hl=>?_⟩⟩
  have s3:=s2.trans ((aG hp (.rng 0 n)).trans (aG hl (.lst ((List.range n).map λi:Nat=>V.int i))))
  refine q l _ _ ((s2.trans (aG hp _)).free hl) s3 ay ?_
  have z:∀ m:List Nat,Dats K (upd (upd H2 p (.rng 0 n)) l (.lst ((List.range n).map λi:Nat=>V.int i))) (m.map λi:Nat=>D.int i) (m.map λi:Nat=>V.int i):=by
   intro m
   induction m with
   | nil=>exact Dats.nil
   | cons a m ih=>exact Dats.cons (Dat.intI _) ih
  exact z _))
end
section
variable {K:PySem.W.Frag} {l0 l1 l2:Addr} {H H' H2:Hp} {a b c a' b' c':List V} {v:V}
theorem gF {te:TE} {us:TS} {En:gM} {σ:St} {G:Hp} {j:Nat} {l:Addr} {xs:List V} {d:D} (h:RE K te σ G d) (hl:G l=some (.lst xs)) (hx:xs.length≤900)
  (q:∀ y G',But l G G'->G' l=some (.lst (xs++[y]))->Dat K G' d y->us En σ G') (hv:σ[j]?=some (some (.ref l)):=by rfl):jZ (lD (tBM K "list" iw (cx j) (bf te cu))) us En σ G:=by
 refine ⟨_,hv,.inl ⟨rfl,_,SqL.of hl⟩,h.use λy H1 s1 q1=>?_⟩
 have hl1:=s1 _ _ hl
 refine ⟨l,xs,y,rfl,rfl,hl1,cE (by omega),?_⟩
 have b:But l H1 (upd H1 l (.lst (xs++[y]))):=But.upd (Same.refl _).but
 exact q y _ (s1.but.trans b) ay (Dat.mono (b.grow hl1 ay) _ q1)
end
theorem uZ:∀ {ns:List Int} {us:List Value},Vals (ns.map V.int) us->IntsAre us ns
 | [],us,h=>by cases h;exact .nil
 | n::ns,us,h=>by
  cases h with
  | cons r t =>
   obtain ⟨tk,rfl⟩:=r
   exact .cons n tk (uZ t)
section
variable {X:Cx}
theorem xK (hc:X.calm=true):iO X (.builtin "sum") (λxs H Q=>∃ (l:Addr) (ns:List Int),xs=[.ref l]/\SqL X.K H l (ns.map V.int)/\Q (.int ns.sum) H):=by
 intro pins s σ H xs us Q I r h
 obtain ⟨l,ns,rfl,hq,q⟩:=h
 obtain ⟨u,rfl,ru⟩:=jl r
 cases ru
 obtain ⟨its,rv,p,hz⟩:=I.list hq
 have hi:=uZ rv
 obtain ⟨zs,hzs⟩:=hi.allInts.items
 refine sum_intListG (I.ok.hd hc) (show s.heap.IsList l (intItems zs) from hzs ▸ p.isList) λh' tk t' hk=>?_
 have a1:zs.toList.map (·.1)=ns:=by
  have z:=hi.numsOf
  rw [show its=(intItems zs).toList by rw [← hzs]] at z
  rw [← z,nums_intItems]
 have a2:preSum (numAt zs) zs.size=ns.sum:=by
  rw [preSum_eq,← a1,List.take_of_length_le (by simp)]
 rw [a2]
 exact ⟨.int ns.sum,H,I.kept (t':=tk) hk,⟨t',rfl⟩,q⟩
variable {tg:Expr}
end
section
variable {X:Cx}
end
theorem Same.aLst (e:Same H H') (h:aLst K H a xs):aLst K H' a xs:=h.elim (λz=>.inl (e _ _ z)) .inr
def LD (K:PySem.W.Frag) (H:Hp) (ds:List D) (v:V):Prop:=∃ a vs,v=.ref a/\aLst K H a vs/\Dats K H ds vs
theorem Same.ld (e:Same H H') (h:LD K H ds v):LD K H' ds v:=by
 obtain ⟨a,vs,e1,h1,h2⟩:=h
 exact ⟨a,vs,e1,e.aLst h1,e.dats h2⟩
theorem LD.of (h:H a=some (.lst vs)) (hd:Dats K H ds vs):LD K H ds (.ref a):=⟨a,vs,rfl,.inl h,hd⟩
inductive Ar where
 | d (x:D)
 | l (ds:List D)
def ArI (K:PySem.W.Frag) (H:Hp):Ar->V->Prop
 | .d x,v=>Dat K H x v
 | .l ds,v=>LD K H ds v
inductive Ars (K:PySem.W.Frag) (H:Hp):List Ar->List V->Prop
 | nil:Ars K H [] []
 | cons {a v as vs}:ArI K H a v->Ars K H as vs->Ars K H (a::as) (v::vs)
theorem Same.ari {a:Ar} (e:Same H H') (h:ArI K H a v):ArI K H' a v:=by
 cases a with
 | d x=>exact e.dat h
 | l ds=>exact e.ld h
theorem Ars.length {as:List Ar} (h:Ars K H as vs):as.length=vs.length:=by
 induction h with
 | nil=>rfl
 | cons _ _ ih=>simp [ih]
theorem DH {a:Ar} (h:Ars K H [a] vs):∃ u,vs=[u]/\ArI K H a u:=by
 cases h with
 | cons h1 h2=>cases h2;exact ⟨_,rfl,h1⟩
theorem xy {a b:Ar} (h:Ars K H [a,b] vs):∃ u v,vs=[u,v]/\ArI K H a u/\ArI K H b v:=by
 cases h with
 | cons h1 h2=>obtain ⟨v,rfl,q⟩:=DH h2;exact ⟨_,v,rfl,h1,q⟩
def RL (K:PySem.W.Frag) (t:TE) (σ:St) (H:Hp) (ds:List D):Prop:=∀ H1,Same H H1->∀ Q:VK,(∀ v H',Same H1 H'->LD K H' ds v->Q v H')->t σ H1 Q
def RB (K:PySem.W.Frag) (t:TA) (σ:St) (H:Hp) (as:List Ar):Prop:=∀ H1,Same H H1->∀ Q:List V->Hp->Prop,(∀ vs H',Same H1 H'->Ars K H' as vs->Q vs H')->t σ H1 Q
section
variable {K:PySem.W.Frag} {σ:St} {H H':Hp} {d d':D} {ds es:List D} {t u ta tb te tl:TE} {tt uu:TT} {tA:TA} {i j:Int} {b c:Bool} {mk:St->St} {jj:Nat} {ar:List Ar}
theorem RL.mono (h:RL K t σ H es) (e:Same H H'):RL K t σ H' es:=λH1 s Q q=>h H1 (e.trans s) Q q
theorem RL.use {Q:VK} (h:RL K t σ H es) (q:∀ v H',Same H H'->LD K H' es v->Q v H'):t σ H Q:=h H (Same.refl H) Q q
theorem RB.use {Q:List V->Hp->Prop} (h:RB K tA σ H ar) (q:∀ vs H',Same H H'->Ars K H' ar vs->Q vs H'):tA σ H Q:=h H (Same.refl H) Q q
theorem zm:RB K cu σ H []:=λH1 _ Q q=>q _ _ (Same.refl _) .nil
theorem Cs (h:RE K t σ H d) (r:RB K tA σ H ar):RB K (bf t tA) σ H (.d d::ar):=λH1 s Q q =>
 h H1 s _ λv H2 s2 q2=>r H2 (s.trans s2) _ λvs H3 s3 q3=>q _ _ (s2.trans s3) (.cons (s3.ari (a:=.d d) q2) q3)
theorem DN (h:RL K t σ H ds) (r:RB K tA σ H ar):RB K (bf t tA) σ H (.l ds::ar):=λH1 s Q q =>
 h H1 s _ λv H2 s2 q2=>r H2 (s.trans s2) _ λvs H3 s3 q3=>q _ _ (s2.trans s3) (.cons (s3.ari (a:=.l ds) q2) q3)
variable {k:Nat} {v:V}
theorem bW (h:LD K H ds v) (e:σ[k]?=some (some v):=by rfl):RL K (cx k) σ H ds:=λH1 s Q q=>⟨v,e,q _ _ (Same.refl _) (s.ld h)⟩
theorem dJ (h:RC K t σ H es):RL K t σ H es:=λH1 s Q q=>h H1 s _ λl ys H' _ s' hy hd=>q _ _ s' (LD.of hy hd)
theorem CA {a:Addr} (h:mL K ds a=true):RL K (tC (.ref a)) σ H ds:=λH1 _ Q q=>by
 obtain ⟨vs,h1,h2⟩:=pG h H1
 exact q _ _ (Same.refl _) ⟨a,vs,rfl,.inr h1,h2⟩
theorem zw (h1:RL K ta σ H ds) (h2:RE K tb σ H (.int k)) (e:ds[k]?=some d):RE K (tOp (yX K) ta tb) σ H d:=λH1 s Q q =>
 h1 H1 s _ λv H2 s2 q2=>h2 H2 (s.trans s2) _ λw H3 s3 q3=>by
  obtain ⟨a,vs,ev,hq,hd⟩:=s3.ld q2
  obtain ⟨x,ex,hx⟩:=hd.get e
  exact ⟨a,vs,k,x,ev,q3.intE,hq.sqL,gu ex,q _ _ (s2.trans s3) hx⟩
theorem Dats.snocE {b:D}:∀ {as:List D} {vs:List V},Dats K H (as++[b]) vs->∃ us v,vs=us++[v]/\Dats K H as us/\Dat K H b v
 | [],vs,h=>by
  obtain ⟨v,rfl,q⟩:=fA h
  exact ⟨[],v,rfl,Dats.nil,q⟩
 | a::as,vs,h=>by
  obtain ⟨v,r,rfl,h1,h2⟩:=h.consE
  obtain ⟨us,w,rfl,q1,q2⟩:=Dats.snocE (as:=as) h2
  exact ⟨v::us,w,rfl,Dats.cons h1 q1,q2⟩
theorem wN (h1:RL K ta σ H (ds++[d])) (h2:RE K tb σ H (.int (-1))):RE K (tOp (yX K) ta tb) σ H d:=λH1 s Q q =>
 h1 H1 s _ λv H2 s2 q2=>h2 H2 (s.trans s2) _ λw H3 s3 q3=>by
  obtain ⟨a,vs,ev,hq,hd⟩:=s3.ld q2
  obtain ⟨us,x,rfl,hu,hx⟩:=hd.snocE
  exact ⟨a,_,-1,x,ev,q3.intE,hq.sqL,xA us x,q _ _ (s2.trans s3) hx⟩
theorem dq (h:RL K t σ H es):RE K (tCB (λxs H Q=>∃ p ys,xs=[.ref p]/\(SqL K H p ys\/SqT K H p ys)/\Q (.int ys.length) H) (bf t cu)) σ H (.int es.length):=λH1 s Q q =>
 iI ((h.mono s).use λv H' s' hd=>by
  obtain ⟨l,ys,rfl,hy,hd⟩:=hd
  exact ⟨l,ys,rfl,.inl hy.sqL,by rw [← hd.length];exact q _ _ s' (Dat.intI _)⟩)
theorem j9:∀ {ns:List Int} {vs:List V},Dats K H (ns.map D.int) vs->vs=ns.map V.int
 | [],vs,h=>by rw [Dats.nilE h];rfl
 | n::ns,vs,h=>by
  obtain ⟨v,r,e,h1,h2⟩:=h.consE
  rw [e,h1.intE,j9 h2]
  rfl
theorem A8 {ns:List Int} (h:RL K t σ H (ns.map D.int)):RE K (tCB (λxs H Q=>∃ (l:Addr) (ns:List Int),xs=[.ref l]/\SqL K H l (ns.map V.int)/\Q (.int ns.sum) H) (bf t cu)) σ H (.int ns.sum):=λH1 s Q q =>
 iI ((h.mono s).use λv H' s' hd=>by
  obtain ⟨l,ys,rfl,hy,hd⟩:=hd
  exact ⟨l,ns,rfl,by rw [← j9 hd];exact hy.sqL,q _ _ s' (Dat.intI _)⟩)
def isN:D->Bool
 | .non=>true
 | _=>false
theorem Au (h:Dat K H d v):decide (v=.non)=isN d:=by
 cases d with
 | non=>rw [h.nonE];rfl
 | bl b=>rw [h.blE];rfl
 | int i=>rw [h.intE];rfl
 | str x=>rw [h.strE];rfl
 | tup ds=>obtain ⟨a,vs,e,_⟩:=h.tupE;rw [e];rfl
 | lst=>obtain ⟨a,vs,e,_⟩:=h.lstE;rw [e];rfl
theorem A7 (h:RE K ta σ H d):RE K (tOp (λx y H Q=>y=.non/\Q (.bl (!decide (x=.non))) H) ta (tC .non)) σ H (.bl (!isN d)):=λH1 s Q q =>
 h H1 s _ λv H2 s2 q2=>⟨rfl,by rw [Au q2];exact q _ _ s2 (Dat.blI _)⟩
theorem zp {cs:List D} (h:RL K tl σ H cs) (hc:cs.length≤1000) (es:List D) (hl:es.length=cs.length) (h0:(mk σ).set jj none=mk σ)
  (turn:∀ H1 (i:Nat) c v d,Same H H1->cs[i]?=some c->es[i]?=some d->Dat K H1 c v->RE K te ((mk σ).set jj (some v)) H1 d):RC K (fF (kX K tl) mk (bq jj) dU te) σ H es:=λH1 s Q q=>by
 refine (h.mono s).use λv4 H4 s4 q4=>?_
 obtain ⟨l4,ys4,rfl,hy4,hd4⟩:=q4
 have ll:=hd4.length
 refine ⟨l4,rfl,⟨ys4,hy4.sqL⟩,?_⟩
 refine fV (K:=K) (Q:=Q) (n:=ys4.length) (item:=λi=>ys4.getD i .non) (λi H' s hi=>pw i H' (s.seq hy4.sqL) hi) (λH' s=>⟨ys4,s.seq hy4.sqL,Nat.le_refl _⟩) h0 es (by omega) (by omega) (λi d hi=>?_) (λl ys H5 hl5 s5=>q l ys H5 (s4.free hl5) (s4.trans s5))
 have hi':i < es.length:=(List.getElem?_eq_some_iff.mp hi).1
 have hic:i < cs.length:=by omega
 obtain ⟨vz,ez,hz⟩:=hd4.get (List.getElem?_eq_getElem hic)
 have q:=turn H4 i cs[i] vz d (s.trans s4) (List.getElem?_eq_getElem hic) hi hz
 rw [List.getD_eq_getElem?_getD,ez]
 exact q
theorem tV (h:RL K t σ H es):RC K (tCB (λxs H Q=>∃ p ys,xs=[.ref p]/\(SqL K H p ys\/SqT K H p ys)/\∀ l,H l=none->Q (.ref l) (upd H l (.lst ys))) (bf t cu)) σ H es:=λH1 s Q q =>
 iI ((h.mono s).use λv H' s' hd=>by
  obtain ⟨p,ys,rfl,hy,hd⟩:=hd
  exact ⟨p,ys,rfl,.inl hy.sqL,λl hl=>q l ys _ (s'.free hl) (s'.trans (aG hl _)) ay ((aG hl _).dats hd)⟩)
theorem kr (h1:RL K ta σ H ds) (h2:RL K tb σ H es) (hl:ds.length+es.length≤1000):RC K (tOp (Bx K) ta tb) σ H (ds++es):=λH1 s Q q =>
 h1 H1 s _ λv H2 s2 q2=>h2 H2 (s.trans s2) _ λw H3 s3 q3=>by
  obtain ⟨a,xs,rfl,ha,da⟩:=s3.ld q2
  obtain ⟨b,ys,rfl,hb,db⟩:=q3
  have l1:=da.length
  have l2:=db.length
  exact ⟨a,b,xs,ys,rfl,rfl,ha,hb,by omega,λp hp=>q p _ _ ((s2.trans s3).free hp) (s2.trans (s3.trans (aG hp _))) ay ((aG hp _).dats (Dats.append da db))⟩
theorem BZ {vs:List V} {n:Nat}:j7 vs none (some (n:Int))=vs.take n:=by
 unfold j7
 rw [HT.sIx_nat,HT.sIx_none]
 simp only [List.drop_zero,Nat.sub_zero]
 apply List.ext_getElem?
 intro i
 simp only [List.getElem?_take]
 by_cases h1:i < n
 ·rw [if_pos h1]
  by_cases h2:i < min n vs.length
  ·rw [if_pos h2]
  ·rw [if_neg h2,List.getElem?_eq_none (by omega)]
 ·rw [if_neg h1,if_neg (by omega)]
end
section
variable {K:PySem.W.Frag} {σ:St} {H H':Hp} {d d':D} {ds es:List D} {t u ta tb te tl:TE}
end
section
variable {X:Cx}
end
section
variable {K:PySem.W.Frag} {σ:St} {H:Hp} {te:TE}
end
theorem qJ (Ok:Hp->Prop)
  (go:∀ i H',Ok H'->i < n->J.go i H'/\∀ x H'',J.yld i H' x H''->H''=H'/\x=item i) (stop:∀ H',Ok H'->J.stop n H') (h0:σ0.set j none=σ0)
  (D:Addr) (Pn:Nat->Hp->Prop) (p0:Pn 0 (upd H1 D (.lst []))) (ok:∀ i H',i≤n->Pn i H'->Ok H')
  (turn:∀ i H',i < n->Pn i H'->tt (σ0.set j (some (item i))) H' λb H3=>if b=true then te (σ0.set j (some (item i))) H3 λv H4=>∃ ys,H4 D=some (.lst ys)/\ys.length < sizeLine/\(∃ z,σ0.set j (some (item i))=σ0.set j z)/\Pn (i+1) (upd H4 D (.lst (ys++[v]))) else (∃ z,σ0.set j (some (item i))=σ0.set j z)/\Pn (i+1) H3)
  (fin:∀ H',Pn n H'->Q (.ref D) H') :
  ∃ W:Nat->Nat->St->Hp->Prop,(∃ m,W 0 m σ0 (upd H1 D (.lst [])))/\∀ i m σ' H',W i m σ' H' ->
   (J.stop i H'/\Q (.ref D) H') \/
   (J.go i H'/\∃ Nx:St->Hp->Prop,(∀ σ'' H'',Nx σ'' H''->∃ m',m' < m/\W (i+1) m' σ'' H'')/\∀ x H'',J.yld i H' x H''->bq j x σ' H'' λσ2 H2=>tt σ2 H2 λb H3 =>
    if b=true then te σ2 H3 λv H4=>∃ ys,H4 D=some (.lst ys)/\ys.length < sizeLine/\Nx σ2 (upd H4 D (.lst (ys++[v]))) else Nx σ2 H3):=by
 refine ⟨λi m σ' H'=>m=n - i/\i≤n/\(∃ z,σ'=σ0.set j z)/\Pn i H',⟨n,by omega,Nat.zero_le _,⟨none,h0.symm⟩,p0⟩,?_⟩
 rintro i m σ' H' ⟨rfl,hi,⟨z,rfl⟩,p⟩
 have o:=ok i H' hi p
 by_cases hlt:i < n
 ·obtain ⟨g,y⟩:=go i H' o hlt
  refine .inr ⟨g,λσ'' H''=>(∃ z,σ''=σ0.set j z)/\Pn (i+1) H'',λσ'' H'' q=>⟨n - (i+1),by omega,rfl,hlt,q.1,q.2⟩,λx H'' yx=>?_⟩
  obtain ⟨e1,e2⟩:=y x H'' yx
  subst e1 e2
  simp only [bq,kz]
  exact turn i _ hlt p
 ·have e:i=n:=by omega
  subst e
  exact .inl ⟨stop H' o,fin H' p⟩
section
variable {P:Program} {w:World} {H H':Hp} {h h1 h2:Heap} {a b T:Addr} {o:HO} {fs:List Addr}
theorem ObjOk.has (x:ObjOk P w H h a o):∃ u,h.get? a=some u:=by
 cases o with
 | lst xs=>obtain ⟨_,_,_,_,e⟩:=x;exact ⟨_,e⟩
 | tup xs=>obtain ⟨_,_,_,ob,e,_⟩:=x;exact ⟨ob,e⟩
 | dK kvs=>obtain ⟨_,_,_,_,o,_,_,e,_⟩:=x;exact ⟨_,e⟩
 | dT kvs=>obtain ⟨_,_,_,_,o,_,_,e,_⟩:=x;exact ⟨_,e⟩
 | set S n=>obtain ⟨o,_,_,_,e,_⟩:=x;exact ⟨_,e⟩
 | ins C dx fs=>obtain ⟨_,_,_,e,_⟩:=x;exact ⟨_,e⟩
 | own y=>exact x
 | xd fs=>obtain ⟨_,⟨_,_,_,e,_⟩,_⟩:=x;exact ⟨_,e⟩
 | rng lo hi=>obtain ⟨_,_,_,e⟩:=x;exact ⟨_,e⟩
 | frz ob u=>obtain ⟨e,_⟩:=x;exact ⟨_,e⟩
 | tbl ps=>exact ⟨_,(show h.get? a=some _ from x)⟩
 | met f y=>exact ⟨_,(show h.get? a=some _ from x)⟩
 | ext φ=>obtain ⟨_,e,_⟩:=x;exact e
theorem HOk.empty (x:HOk P w H h) (e:h.get? a=none):H a=none:=by
 cases q:H a with
 | none=>rfl
 | some u =>
  obtain ⟨v,r⟩:=(x a u q).has
  rw [e] at r;cases r
def Trc (h:Heap) (e T:Addr) (cls a0:Value):Prop :=
 ∃ oe vs oT ts,h.get? e=some oe/\(oe.cls=cls/\vs[0]?=some a0)/\oe.data=.fields vs/\vs[1]?=some (.ref T)/\T≠e/\h.get? T=some oT/\oT.data=.fields ts/\ts[3]?=some .none
def CX1 (P:Program) (w:World):CXT:=λouter H s E e s' =>
 ∃ a T cls a0 H',e=.ref a/\s'.os=s.os/\AllBare s'.gens/\Un (frs outer) [] H H' s.heap s'.heap/\HOk P w H' s'.heap /\
  (s.heap.get? a=none/\s.heap.get? T=none/\H' a=none/\H' T=none)/\Trc s'.heap a T cls a0/\E cls none H'
theorem zS (U:Un fs [] H H' h h1) (ha:h.get? a=none) (hT:h.get? T=none) (k:∀ b o,h1.get? b=some o->b≠a->b≠T->b ∉ fs->h2.get? b=some o)
  (sl:∀ b o,h1.get? b=some o->b ∈ fs->∃ sl,h2.get? b=some { o with slots:=sl }):Un fs [] H H' h h2:=by
 have na:∀ b o,h.get? b=some o->b≠a:=λb o q z=>by rw [z,ha] at q;cases q
 have nT:∀ b o,h.get? b=some o->b≠T:=λb o q z=>by rw [z,hT] at q;cases q
 refine ⟨λb o q n hb hx=>k b o (U.keep b o q n hb hx) (na b o q) (nT b o q) hb,λb o q n hb hx=>?_,U.free,λb o q hx=>?_,U.tups,U.frzs,U.tbls⟩
 ·obtain ⟨s1,e1⟩:=U.slot b o q n hb hx
  obtain ⟨s2,e2⟩:=sl b _ e1 hb
  exact ⟨s2,e2⟩
 ·obtain ⟨o1,e1⟩:=U.there b o q hx
  by_cases hb:b ∈ fs
  ·obtain ⟨s2,e2⟩:=sl b _ e1 hb
   exact ⟨_,e2⟩
  ·exact ⟨o1,k b o1 e1 (na b o q) (nT b o q) hb⟩
theorem yj (O:HOk P w H h1) (ha:H a=none) (hT:H T=none) (hf:∀ b ∈ fs,H b=none) (k:∀ b o,h1.get? b=some o->b≠a->b≠T->b ∉ fs->h2.get? b=some o):HOk P w H h2:=λc u e =>
 (O c u e).stay (λb v hb q=>by
  have hn:H b≠none:=by
   rcases hb with z | z
   ·rw [z,e];exact λy=>nomatch y
   ·rw [z];exact λy=>nomatch y
  exact k b v q (λz=>hn (by rw [z];exact ha)) (λz=>hn (by rw [z];exact hT)) λz=>hn (hf b z)) (λ_ q=>q) λ_ _ q=>q
variable {base:Heap} {l:List Env} {cls a0:Value}
theorem B1 (F:h.FunFrames base l) (t:Trc h a T cls a0):Heap.FlyingW (PySem.W.hideAll h (a::T::frs l)) l a cls a0 h:=by
 obtain ⟨oe,vs,oT,ts,he,hc,hd,hv,hne,hT,hdT,h3⟩:=t
 exact ⟨λb o q=>PySem.W.of_hideAll _ q,PySem.W.hideAll_none _ (.head _),PySem.W.funFrames_hide F λenv hm b hb=>.tail _ (.tail _ (List.mem_filterMap.mpr ⟨env,hm,hb⟩)),
  oe,vs,T,oT,ts,he,hc,hd,hv,PySem.W.hideAll_none _ (.tail _ (.head _)),hne,hT,hdT,h3⟩
theorem qP {l':List Env} (F:h.FunFrames base l) (x:Heap.FlyingW (PySem.W.hideAll h (a::T::frs l)) l' a cls a0 h2) (U:h.UpToSlots h2) :
  ∃ T2,Trc h2 a T2 cls a0/\(T2=T\/h.get? T2=none)/\(∀ b o,h.get? b=some o->b≠a->b≠T->b ∉ frs l->h2.get? b=some o)/\(∀ b o,h.get? b=some o->b ∈ frs l->∃ sl,h2.get? b=some { o with slots:=sl }):=by
 obtain ⟨f1,f2,f3,oe,vs,T2,oT,ts,he,hc,hd,hv,hn,hne,hT,hdT,h3⟩:=x
 have sl:∀ b o,h.get? b=some o->b ∈ frs l->∃ sl,h2.get? b=some { o with slots:=sl }:=λb o q hb=>by
  obtain ⟨_,o',ho',hnf⟩:=F.mem hb
  rw [q] at ho';cases ho'
  exact U b o q hnf
 refine ⟨T2,⟨oe,vs,oT,ts,he,hc,hd,hv,hne,hT,hdT,h3⟩,?_,λb o q n1 n2 n3=>f1 b o (PySem.W.hideAll_get _ q λz=>?_),sl⟩
 ·cases q:h.get? T2 with
  | none=>exact .inr rfl
  | some o =>
   refine .inl ?_
   by_cases m:T2 ∈ a::T::frs l
   ·rcases List.mem_cons.mp m with z | m
    ·exact absurd z hne
    ·rcases List.mem_cons.mp m with z | m
     ·exact z
     ·obtain ⟨_,o',ho',hnf⟩:=F.mem m
      rw [q] at ho';cases ho'
      obtain ⟨s2,e2⟩:=sl T2 o q m
      rw [hT] at e2;cases e2
      exact absurd hdT (hnf ts)
   ·rw [PySem.W.hideAll_get _ q m] at hn;cases hn
 ·rcases List.mem_cons.mp z with z | z
  ·exact n1 z
  ·rcases List.mem_cons.mp z with z | z
   ·exact n2 z
   ·exact n3 z
end
section
variable {X:Cx} {pins:List (Addr × Obj)} {σ:St} {H:Hp} {s s':Shared} {E:XK} {e:Value}
theorem CX1.behind (I:Inv X pins σ H s) (x:CX1 X.prog X.w X.stack H s E e s'):∃ a T cls a0 H',e=.ref a/\E cls none H'/\s.heap.get? a=none/\H' a=none/\Inv X pins σ H' s' /\
  Heap.FlyingW (PySem.W.hideAll s'.heap (a::T::frs X.stack)) X.stack a cls a0 s'.heap /\
  ∀ h2 l',Heap.FlyingW (PySem.W.hideAll s'.heap (a::T::frs X.stack)) l' a cls a0 h2->s'.heap.UpToSlots h2 ->
   ∃ T2,Inv X pins σ H' { s' with heap:=h2 }/\Trc h2 a T2 cls a0/\s.heap.get? T2=none/\H' T2=none/\Un (frs X.stack) [] H H' s.heap h2:=by
 obtain ⟨a,T,cls,a0,H',he,os,bare,un,hok,⟨sa,sT,na,nT⟩,tr,q⟩:=x
 have J:Inv X pins σ H' s':=I.call' (ch:=[]) os un hok bare (λb z=>absurd z (by simp))
 refine ⟨a,T,cls,a0,H',he,q,sa,na,J,B1 J.stack tr,λh2 l' fl up=>?_⟩
 obtain ⟨T2,t2,hT2,k2,sl2⟩:=qP J.stack fl up
 have nT2:H' T2=none:=by
  rcases hT2 with z | z
  ·rw [z];exact nT
  ·exact hok.empty z
 have sT2:s.heap.get? T2=none:=by
  rcases hT2 with z | z
  ·rw [z];exact sT
  ·cases q:s.heap.get? T2 with
   | none=>rfl
   | some o =>
    obtain ⟨o',r⟩:=un.there T2 o q (by simp)
    rw [z] at r;cases r
 exact ⟨T2,I.call' (s':={ s' with heap:=h2 }) (ch:=[]) os (zS un sa sT k2 sl2) (yj hok na nT J.stkFree k2) bare (λb z=>absurd z (by simp)),t2,sT2,nT2,zS un sa sT k2 sl2⟩
end
def Fre (h:Heap) (e:Addr) (cls a0:Value):Prop:=∃ oe vs,h.get? e=some oe/\(oe.cls=cls/\vs[0]?=some a0)/\oe.data=.fields vs/\vs[1]?=some .none
def xU (K:PySem.W.Frag) (C:Addr) (bmB:List Value) (newId:String) (ini:Option Value):Bool:=match K.lookup C with
 | some ⟨.type "type",_,.cls cd,slots⟩=>(match cd.mro,slots.toList with
  | .ref C'::bm,[_,_,_,_,some (.builtin n),_]=>C' == C && n == newId && !cd.hasDel && PySem.W.tailIn K bmB bm && PySem.W.nsOkIn K cd.ns && PySem.W.nsIn K cd.ns "__init__" == some ini
  | _,_=>false)
 | _=>false
variable {h:Heap}
theorem tE {N:Addr} {n:Str} {v:Value} (X:K.In h) (G:h.Ns N mg) (e:PySem.W.nsIn K N n=some (some v)):mg n=some v:=by
 obtain ⟨o,es,ep,ho,hd,_,hf⟩:=G
 unfold PySem.W.nsIn at e
 split at e
 ·rename_i c d es' n' sl q
  have:=X _ _ q
  rw [ho] at this
  cases this
  cases hd
  split at e
  ·rename_i en he
   rw [← hf]
   unfold nsFind findBy
   rw [← Array.find?_toList,he]
   cases e
   rfl
  ·split at e <;> cases e
 ·cases e
theorem xV {C:Addr} {bmB:List Value} {newId:String} {ini:Option Value} (X:K.In h) (q:xU K C bmB newId ini=true) :
  ∃ bm N nm qn bs hd sn sub ab col dd k0 k1 k2 k3 k5 mN,h.get? C=some (excClassObj nm qn C N bs bm hd sn sub ab col dd k0 k1 k2 k3 k5 newId)/\h.Ns N mN/\mN "__init__"=ini/\OwnTail h bmB bm:=by
 unfold xU at q
 split at q
 ·rename_i dd cd sl ho
  split at q
  ·rename_i C' bm k0 k1 k2 k3 n k5 hm hs
   rw [Bool.and_eq_true,Bool.and_eq_true,Bool.and_eq_true,Bool.and_eq_true,Bool.and_eq_true] at q
   obtain ⟨⟨⟨⟨⟨e1,e2⟩,hdel⟩,ht⟩,hok⟩,hni⟩:=q
   obtain rfl:=beq_iff_eq.mp e1
   obtain rfl:=beq_iff_eq.mp e2
   have hni:=beq_iff_eq.mp hni
   obtain ⟨cnm,cbs,mro,ns,cqn,chd,csn,csub,cab,ccol,del⟩:=cd
   have hsl:sl.toList.toArray=[k0,k1,k2,k3,some (.builtin n),k5].toArray:=by rw [hs]
   rw [Array.toArray_toList] at hsl
   subst hsl
   have hm:mro=.ref C'::bm:=hm
   have hde:del=false:=by
    have z:(!del)=true:=hdel
    cases del with
    | true=>cases z
    | false=>rfl
   clear hdel
   subst hm hde
   have hN:h.Ns ns (h.nsMap ns):=.of_isNs (PySem.W.isNs_of_in X hok)
   refine ⟨bm,ns,cnm,cqn,cbs,chd,csn,csub,cab,ccol,dd,k0,k1,k2,k3,k5,_,X _ _ ho,hN,?_,PySem.W.tail_of_in X ht⟩
   cases ini with
   | none=>exact PySem.W.ns_none_of X hN hni
   | some v=>exact tE X hN hni
  ·cases q
 ·cases q
def hZ (CX:CXT) (X:Cx) (E:St->XK):Prop:=∀ (pins:List (Addr × Obj)) (σ:St) (H:Hp) (s:Shared) (e:Value) (s':Shared),Inv X pins σ H s->CX X.stack H s (E σ) e s'->X.xe e s'
section
variable {X:Cx} {CX:CXT} {k:Nat} {f C:Addr} {fd:FuncData} {ps:List Str} {sp:Sp} {dvs:List V} {ds:List Value} {E:St->XK} {x m:Str} {p pos apos:Pos} {e o:Expr} {es:List Expr} {ta:TE} {t:TA}
theorem vE {pins:List (Addr × Obj)} {σ:St} {H:Hp} {s:Shared} {Q:VK} {us:List Value} {vs:List V} (F:FnOk X.prog X.w X.K X.mg X.base CX k f fd ps sp) (hr:Room k X.A) (hb:Binds X.K fd ps ds) (hd:Vals dvs ds) (hx:hZ CX X E)
  (I:Inv X pins σ H s) (r:Vals vs us) (h:sp (vs++dvs) H Q (E σ)):wpAny (model X.prog X.w) X.A (call (.ref f) us) (EP X pins σ Q) X.xe s:=by
 have r2:Vals (vs++dvs) (us++ds):=r.append hd
 have hl:(us++ds).length=ps.length:=by rw [← r2.length];exact F.len _ _ _ _ h
 refine wpAny_call (codeAny_mono (F.run X.A X.stack s H ⟨us,[]⟩ (us++ds) (vs++dvs) Q (E σ) hr I.env0 (hb s us I.kIn hl) r2 h) λr s' hq=>?_)
 cases r with
 | error e=>exact hx pins σ H s e s' I hq
 | ok fl =>
  cases fl with
  | ret u=>exact I.after hq
  | next=>exact False.elim hq
  | brk=>exact False.elim hq
  | cont=>exact False.elim hq
theorem yK (F:FnOk X.prog X.w X.K X.mg X.base CX k f fd ps sp) (hr:Room k X.A) (hg:Gl X x) (hm:X.mg x=some (.ref f)) (hk:PySem.W.keepIn X.K (.ref f)=true) (hb:Binds X.K fd ps ds) (hd:Vals dvs ds) (hx:hZ CX X E)
  (ha:PA X (e::es) t) (hdb:(x == ("__debug__":Str))=false:=by decide) (he:starEach (e::es) X.env=(false,eval e X.env)::starEach es X.env:=by rfl) (hpl:(backTo pos (starEach es X.env)).any (·.1)=false:=by rfl) :
  PE X (.Call (.Name x p) (e::es) [] pos) (λσ=>fO sp dvs (E σ) t σ):=by
 intro pins s σ H Q I h
 refine wpAny_Call_Name_kw (gB I hg hm ?_ hdb)
 refine PySem.W.callWith_K (h₀:=X.base) I.ok.mod.kin hk (thn (ha pos pins s σ H _ I h) λus s1 ⟨vs,H1,I1,r,q⟩=>⟨I1.kIn,?_⟩) he hpl
 exact vE F hr hb hd hx I1 r q
end
def Cx.hand (X:Cx) (e:Value):Cx:={ X with A:=X.A.mark (some e),calm:=false,xe:=λ_ _=>False }
theorem Cx.Ok.hand {e:Value} (o:X.Ok):(X.hand e).Ok :=
 ⟨o.mod,o.kind,o.glob,o.blt,o.above,o.inj,o.has,o.cab,(λz=>nomatch z),o.frames,o.stk,o.exf,o.bs,o.bsz,o.noex,o.exfs,o.funs,o.frf⟩
section
variable {X:Cx} {pins pins':List (Addr × Obj)} {σ:St} {H:Hp} {s:Shared} {xe:Value->Shared->Prop} {e:Value}
theorem Inv.hand (I:Inv X pins σ H s):Inv (X.hand e) pins σ H s:=⟨I.ok.hand,I.os,I.bare,I.base,I.loc,I.cell,I.free,I.freeC,I.pin,I.hok,I.len⟩
theorem Inv.unhand (o:X.Ok) (I:Inv (X.hand e) pins σ H s):Inv X pins σ H s:=⟨o,I.os,I.bare,I.base,I.loc,I.cell,I.free,I.freeC,I.pin,I.hok,I.len⟩
theorem Inv.inTry (I:Inv X pins σ H s):Inv { X with pn:=X.pn++pins,xe:=xe } [] σ H s :=
 ⟨⟨I.ok.mod,I.ok.kind,I.ok.glob,I.ok.blt,I.ok.above,I.ok.inj,I.ok.has,I.ok.cab,I.ok.hd,I.ok.frames,I.ok.stk,I.ok.exf,I.ok.bs,I.ok.bsz,I.ok.noex,I.ok.exfs,I.ok.funs,I.ok.frf⟩,I.os,I.bare,I.base,I.loc,I.cell,I.free,I.freeC,
  λp hp=>I.pin p (by simpa using hp),I.hok,I.len⟩
theorem Inv.outTry (o:X.Ok) (I:Inv { X with pn:=X.pn++pins,xe:=xe } pins' σ H s):Inv X pins σ H s :=
 ⟨o,I.os,I.bare,I.base,I.loc,I.cell,I.free,I.freeC,λp hp=>I.pin p (List.mem_append_left _ hp),I.hok,I.len⟩
end
end L2
namespace L2
open PySem PySem.Spec PySem.Calls PyProof.Rows PySem.W PySem.Builtin PySem.Builtin.ObjectAttr PySem.Builtin.Getset_descriptor
section
variable {prog:Program} {w:World} {A:Around} {E:Value->Shared->Prop} {s:Shared} {K:Frag} {x D:Addr} {ox:Obj} {od:Option Obj} {name:Str}
structure CV (K:Frag) (D:Addr):Prop where
 ga:findIn K (.ref D) "__getattribute__"=some (some (.builtin "BaseException.__getattribute__"))
 gt:findIn K (.ref D) "__getattr__"=some none
 dct:hasDictIn K D=true
 a:findIn K (.ref D) "__class__"=some (some (.builtin "object.__class__"))
 n:specialIn K (.builtin "object.__class__") "__get__"=some (some (.builtin "getset_descriptor.__get__"))
 tk:takesIn K (.builtin "object.__class__")=some true
 m:mroIn K D (.type "object")=some true
 b:mroIn K D (.type "BaseException")=some true
end
def DD (x:Addr) (D:Addr):HO:=.ext λh=>∃ oe,h.get? x=some oe/\oe.cls=.ref D
section
variable {X:Cx} {pins:List (Addr × Obj)} {σ:St} {H H':Hp} {s s2:Shared} {a:Addr} {o:HO}
theorem HOk.track {P:Program} {w:World} {h:Heap} (hok:HOk P w H h) (na:H a=none) (new:ObjOk P w (upd H a o) h a o):HOk P w (upd H a o) h:=λb u e=>by
 by_cases hb:b=a
 ·subst hb
  rw [ay] at e;cases e
  exact new
 ·rw [aK hb] at e
  exact (hok b u e).stay (λ_ _ _ q=>q) (λc q=>by rw [aK (bh q na)];exact q) λc xs q=>by rw [aK (bh q na)];exact q
theorem Inv.track (I:Inv X pins σ H s) (J:Inv X pins σ H' s2) (un:Un (frs X.stack) [] H H' s.heap s2.heap) (sa:s.heap.get? a=none) (na:H' a=none) (new:ObjOk X.prog X.w (upd H' a o) s2.heap a o):Inv X pins σ (upd H' a o) s2:=by
 have nb:∀ b u,s.heap.get? b=some u->b≠a:=λb u q z=>by rw [z,sa] at q;cases q
 refine I.call' (ch:=[]) (J.os.trans I.os.symm) ⟨un.keep,un.slot,λb u q n hx=>by rw [aK (nb b u q)];exact un.free b u q n hx,un.there,λb xs q=>?_,λb u xs q=>?_,λb ps q=>?_⟩ (J.hok.track na new) J.bare (λb z=>absurd z (by simp))
 ·have z:=un.tups b xs q
  rw [aK (bh z na)];exact z
 ·have z:=un.frzs b u xs q
  rw [aK (bh z na)];exact z
 ·obtain ⟨m,z⟩:=un.tbls b ps q
  exact ⟨m,by rw [aK (bh z na)];exact z⟩
end
end L2
namespace L2
open PySem PySem.Spec PySem.Calls PyProof.Rows
section
variable {P:Program} {w:World} {K:PySem.W.Frag} {mg:Str->Option Value} {base:Heap}
end
section
variable {X:Cx} {k:Nat} {f:Addr} {fd:FuncData} {ps:List Str} {sp:Sp} {dvs:List V} {ds:List Value} {E:XK} {x:Str} {p pos:Pos} {e:Expr} {es:List Expr} {t:TA}
end
section
variable {X:Cx}
end
section
variable {P:Program} {w:World} {K:PySem.W.Frag} {mg:Str->Option Value} {base:Heap}
end
section
variable {X:Cx} {CX:CXT} {k:Nat} {f C:Addr} {fd:FuncData} {ps ks:List Str} {sp:Sp} {E:St->XK} {x m:Str} {p pos apos kpos:Pos} {e o:Expr} {es:List Expr} {kws:List Keyword} {te ta:TE} {t tk:TA} {nm:Option Str} {g:List Value->List Value->List Value} {gV:List V->List V->List V}
end
section
variable {K:PySem.W.Frag} {σ:St} {H:Hp} {tA tK:TA} {ds es fs:List D} {d e:D} {dvs:List V} {R:List D->D->Prop} {B:List D->Addr->Prop} {E:XK} {Q:VK} {C:Addr} {gV:List V->List V->List V} {ta tb:TE}
theorem A4 (h1:RE K ta σ H d) (h2:RE K tb σ H e) (n1:noL d=true) (n2:noL e=true) (dp:gz d≤20):RE K (tOp (Dc K true) ta tb) σ H (.bl (!eqD d e)):=λH1 s Q q =>
 h1 H1 s _ λv H2 s2 q2=>h2 H2 (s.trans s2) _ λw H3 s3 q3=>⟨d,e,s3.dat q2,q3,n1,n2,dp,q _ _ (s2.trans s3) (Dat.blI _)⟩
end
section
variable {X:Cx}
end
end L2
namespace L2
open PySem PySem.Spec PySem.Calls PyProof.Rows PySem.W PySem.Builtin PySem.Builtin.ObjectAttr
abbrev C0 (us:List Value):Obj:={ cls:=.type "tuple",data:=.seq us.toArray }
abbrev xD (C t:Addr):Obj:={ cls:=.ref C,data:=.fields #[.ref t,.none,.none,.none,.bool false,.none] }
abbrev kZ (h:Heap) (C:Addr) (us:List Value):Heap:=(h.push (C0 us)).push (xD C h.objs.size)
variable {h:Heap} {C:Addr} {us:List Value}
theorem fC (b:Addr) (o:Obj) (q:h.get? b=some o):(kZ h C us).get? b=some o:=by
 have q1:=Heap.get?_push_of_some (C0 us) q
 exact Heap.get?_push_of_some _ q1
theorem gW:(kZ h C us).get? (h.objs.size+1)=some (xD C h.objs.size):=by heap_get
theorem wg:h.get? (h.objs.size+1)=none:=Heap.get?_none_of_le (by omega)
structure vK (K:Frag) (C fI:Addr):Prop where
 at_:xU K C [.type "ValueError",.type "Exception",.type "BaseException",.type "object"] "ValueError.__new__" (some (.ref fI))=true
 ini:findIn K (.ref C) "__init__"=some (some (.ref fI))
 fn:typeIn K (.ref fI)=some (.type "function")
 kp:keepIn K (.ref C)=true
section
variable {prog:Program} {w:World} {A:Around} {E:Value->Shared->Prop} {K:Frag} {C fI:Addr} {us:List Value}
theorem wk {s:Shared} {Q:Value->Shared->Prop} (X:K.In s.heap) (kc:vK K C fI) (hl:us.length≤sizeLine)
  (h:wpAny (model prog w) (A.under (.builtin "type.__call__" ⟨.ref C::us,[]⟩)) (call (.ref fI) (.ref (s.heap.objs.size+1)::us)) (λr s'=>r=.none/\Q (.ref (s.heap.objs.size+1)) s') E { s with heap:=kZ s.heap C us }) :
  wpAny (model prog w) A (call (.ref C) us) Q E s:=by
 obtain ⟨bm,N,nm,qn,bs,hdd,sn,sub,ab,col,dd,k0,k1,k2,k3,k5,mN,hC,_,_,T⟩:=xV X kc.at_
 have V:=PySem.F.excBase_ValueError
 have isT:s.TypeIs (.ref C) "type":=⟨_,hC,rfl⟩
 have l1:=tc_lookup
 have l2:=tc_bind (.ref C)
 have hC2:=fC (us:=us) (C:=C) C _ hC
 have X2:K.In (kZ s.heap C us):=X.keeps fC
 have self1:(Value.ref C::bm).contains (.ref C)=true:=by simp
 obtain ⟨h0,g0,d0,t0,o0⟩:=s
 refine wpAny_call (codeAny_of_tree ?_)
 show wpAny _ _ (callAny (.ref C) _) _ _ _
 repeat' (first | assumption | (with_reducible refine wpAny_loadPart_at hC ?_) | wp_step)
 refine ⟨rfl,codeAny_call_builtin_at (Code.quiet_builtin _ (by decide +kernel)) entry_typeCall (wpAny_check_type_call_sub hC ?_)⟩
 repeat (first | (with_reducible refine wpAny_madeBy_exc hC ?_) | (with_reducible refine wpAny_isSubtype_exc hC ?_) | (with_reducible refine wpAny_loadPart_at hC ?_) | wp_step)
 refine codeAny_call_builtin_code (Code.quiet_builtin _ V.quiet) (wpAny_check_new_subU V (by decide) T hC (codeAny_exc_new_subU V (by decide) V T hC ?_ hl))
 show wpAny _ _ _ _ _ _
 unfold isInstance
 repeat (first | (with_reducible refine wpAny_madeBy_exc gW ?_) | (with_reducible refine wpAny_isSubtype_exc gW ?_) | (with_reducible refine wpAny_loadPart_at gW ?_) | wp_step)
 refine wpAny_isSubtype_exc hC2 ?_
 rw [self1]
 refine wpAny_bind (wpAny_holding (special_fn (s:=⟨kZ h0 C us,g0,d0,t0,o0⟩) X2 (od:=none) ⟨gW,rfl,rfl,trivial⟩ kc.ini kc.fn (wpAny_mono h (λr s' ⟨er,q⟩=>?_) λ_ _ z=>z)))
 subst er
 exact wpAny_pure q
end
abbrev si (h:Heap) (x:Addr):Heap:=(h.push { cls:=.type "dict",data:=.dict #[] }).update x λo=>{ cls:=o.cls,dict:=some h.objs.size,data:=o.data,slots:=o.slots }
section
variable {h:Heap} {x b:Addr} {o:Obj} {vs:Array Value}
theorem zW (q:h.get? x=some o) (hd:o.data=.fields vs):(si h x).get? x=some { o with dict:=some h.objs.size }:=by
 have q1:(h.push { cls:=.type "dict",data:=.dict #[] }).get? x=some o:=Heap.get?_push_of_some _ q
 refine Heap.get?_update_self _ q1 ?_
 obtain ⟨c,d,dt,sl⟩:=o
 subst hd
 rfl
theorem sj (hb:b≠x) (q:h.get? b=some o):(si h x).get? b=some o:=by
 rw [Heap.get?_update_ne _ _ _ _ hb]
 exact Heap.get?_push_of_some _ q
theorem uC (q:h.get? x=some o):(si h x).Ns1 h.objs.size λ_=>none:=by
 have lt:h.objs.size≠x:=Ne.symm (Nat.ne_of_lt (Heap.lt_size q))
 have e:(si h x).get? h.objs.size=some { cls:=.type "dict",data:=.dict #[] }:=by
  rw [Heap.get?_update_ne _ _ _ _ lt]
  exact Heap.get?_push_at rfl rfl
 exact Heap.Ns1.of_empty ⟨_,#[],_,e,rfl,λen hen=>absurd hen (by simp),λ_=>rfl⟩
end
def ko:List Value->Bool
 | .ref _::r=>ko r
 | l=>l == [.type "ValueError",.type "Exception",.type "BaseException",.type "object"]
theorem lC (self:Value):∀ {l:List Value},ko l=true->refuseLoop self "__setattr__" l=pure ()
 | [],e=>by simp [ko] at e
 | v::r,e=>by
  cases v with
  | ref c=>rw [refuseLoop_ref];exact lC self (l:=r) e
  | type n =>
   have e':=beq_iff_eq.mp (show (Value.type n::r == [.type "ValueError",.type "Exception",.type "BaseException",.type "object"])=true from e)
   rw [e']
   exact PySem.F.store_ValueError.passes self
  | _=>exact absurd (beq_iff_eq.mp (show (_ == ([.type "ValueError",.type "Exception",.type "BaseException",.type "object"]:List Value))=true from e)) (by simp)
structure xu (K:Frag) (C:Addr) (name:Str):Prop where
 sa:findIn K (.ref C) "__setattr__"=some (some (.builtin "object.__setattr__"))
 ob:mroIn K C (.type "object")=some true
 over:(clsIn K C).any (λcd=>ko cd.mro)=true
 no:findIn K (.ref C) name=some none
 hd:(clsIn K C).any (·.hasDict)=true
section
variable {prog:Program} {w:World} {A:Around} {E:Value->Shared->Prop} {s:Shared} {K:Frag} {x C:Addr} {ox:Obj} {name:Str} {v:Value} {vs:Array Value}
theorem pF {M:Model} (X:K.In s.heap) (ty:Looks M s.heap (typeOf (.ref x)) (.ref C)) (st:xu K C name):Looks M s.heap (refuseIfOverridden (.ref x) "__setattr__") ():=by
 obtain ⟨cd,hc,hov⟩:=any_some st.over
 have row:Looks M s.heap (mroOf (.ref C)) cd.mro:=(looks_clsIn X hc).andThen .now
 exact ty.andThen (row.andThen (Looks.of_pure (lC (.ref x) hov)))
theorem r6 {Q:Unit->Shared->Prop} (X:K.In s.heap) (st:xu K C name) (hx:s.heap.get? x=some ox) (hc:ox.cls=.ref C) (hd:ox.dict=none) (hdt:ox.data=.fields vs)
  (h:∀ h' tk,(∀ b o,b≠x->s.heap.get? b=some o->h'.get? b=some o)->h'.get? x=some { ox with dict:=some s.heap.objs.size }->h'.Ns1 s.heap.objs.size (λy=>if y=name then some v else none)->Q () { s with heap:=h',toks:=tk }) :
  wpAny (model prog w) A (setAttr (.ref x) name v) Q E s:=by
 have inst:InstAt s.heap x ox C none:=⟨hx,hc,by unfold notCls;rw [hdt],by rw [hd];trivial⟩
 have ty:Looks (model prog w) s.heap (typeOf (.ref x)) (.ref C):=inst.type
 have ok:Looks (model prog w) s.heap (isInstance (.ref x) (.type "object")) true:=ty.andThen (looks_mroIn X st.ob)
 have SO:=PySem.F.store_object
 refine set_plain X inst st.sa (codeAny_call_builtin SO.slot.plain SO.entry ?_)
 refine @check_slot (model prog w) _ _ { s with toks:=s.toks+1 } "object.__setattr__" "object" "__setattr__" (.ref x) [.str name s.toks,v] [] _ SO.kind SO.split ok (SO.args _ _ _) ?_
 rw [osa_eq]
 refine wpAny_bind ((pF (s:={ s with toks:=s.toks+1 }) X ty st).here ?_)
 refine wpAny_bind (Looks.here (s:={ s with toks:=s.toks+1 }) ty ?_)
 refine wpAny_bind (Looks.here (s:={ s with toks:=s.toks+1 }) (looks_findIn X st.no) ?_)
 refine wpAny_bind (wpAny_pure ?_)
 obtain ⟨cd,hcd,has⟩:=any_some st.hd
 obtain ⟨oc,od,oda,osl⟩:=ox
 dsimp only at hc hd hdt
 subst hc hd hdt
 obtain ⟨h0,g0,d0,t0,o0⟩:=s
 show wpAny _ _ (storeInOwnDict (.ref x) (.ref C) (.str name t0) name v false) _ _ ⟨h0,g0,d0,t0+1,o0⟩
 have X':K.In h0:=X
 refine wpAny_bind (wpAny_pure (wpAny_bind ?_))
 show wpAny _ _ (instanceDict x true) _ _ _
 refine wpAny_bind (wpAny_loadPart hx (wpAny_bind (Looks.here (s:=⟨h0,g0,d0,t0+1,o0⟩) (looks_clsIn X' hcd) ?_)))
 rw [has]
 dsimp only
 rw [if_neg (by simp)]
 refine wpAny_bind (wpAny_alloc' (wpAny_bind (wpAny_update' (Heap.get?_push_of_some _ hx) (wpAny_pure ?_))))
 show wpAny _ _ (storeInDict h0.objs.size (.str name t0) name v) _ _ ⟨si h0 x,g0,d0,t0+1,o0⟩
 unfold storeInDict newKeyGuard
 refine wpAny_bind (wpAny_pure (wpAny_bind (wpAny_nsSet1 (uC hx) λh' ns' same=>?_)))
 obtain ⟨od',es,ep,hod,hes,few⟩:=ns'.count (Within.cons name v Within.nil)
 have few':es.size≤1:=few
 refine wpAny_bind (wpAny_lookBehind hod (by rw [hes];exact pastItsLine_dict (by rw [sizeLine_eq];omega)) (wpAny_pure (h h' _ (λb ob hb q=>?_) ?_ ns')))
 ·exact (same.2 b (Nat.ne_of_lt (Heap.lt_size q))).trans (sj hb q)
 ·exact (same.2 x (Nat.ne_of_lt (Heap.lt_size hx))).trans (zW hx rfl)
end
def lF (e C:Addr) (a0:Value):HO:=.ext λh=>∃ oe vs,h.get? e=some oe/\(oe.cls=.ref C/\vs[0]?=some a0)/\oe.data=.fields vs/\vs[1]?=some .none/\oe.dict=none
section
variable {X:Cx} {pins:List (Addr × Obj)} {σ:St} {H:Hp} {s s':Shared} {C fI e:Addr} {fd:FuncData} {k:Nat} {ps:List Str} {a0:Value}
end
theorem wH {M:Model} {A:Around} {E:Value->Shared->Prop} {s:Shared} {env:Env} {K:Frag} {fI:Addr} {x:Sem Value} {Q:Flow->Shared->Prop} (kc:vK K C fI) (hh:A.handled=none)
  (h:wpAny M A x (λr s'=>∃ e oe vs,r=.ref e/\s'.heap.get? e=some oe/\oe.cls=.ref C/\oe.data=.fields vs/\vs[1]?=some .none/\K.In s'.heap/\E (.ref e) s') E s):wpAny M A (raiseStmt env (some x) none) Q E s:=by
 refine wpAny_bind (thn h λr s1 ⟨e,oe,vs,er,he,hcl,hdt,hv1,X1,q⟩=>?_)
 subst er
 obtain ⟨bm,N,nm,qn,bs,hdd,sn,sub,ab,col,dd,k0,k1,k2,k3,k5,mN,hC,_,_,T⟩:=xV X1 kc.at_
 have isB:(Value.ref C::bm).contains (.type "BaseException")=true:=by
  rw [List.contains_cons,T.hasType (X:="BaseException") (b:=true) (by decide)]
  rfl
 obtain ⟨oc,od,odt,osl⟩:=oe
 obtain rfl:oc=.ref C:=hcl
 obtain rfl:odt=.fields vs:=hdt
 obtain ⟨h1,g1,d1,t1,o1⟩:=s1
 repeat (first | (with_reducible refine wpAny_loadPart_at he ?_) | (with_reducible refine wpAny_loadPart_at hC ?_) | (with_reducible refine wpAny_isSubtype_exc hC ?_;rw [isB]) | rw [hv1] | wp_step)
 exact wpAny_raiseNew_none hh q
end L2
namespace L2
open PySem PySem.Spec PySem.Calls PyProof.Rows
section
variable {prog:Program} {w:World} {A:Around} {E:Value->Shared->Prop} {s:Shared} {it t:Addr} {i:Nat} {items:Array Value}
end
abbrev oC (it:Addr):Obj:={ cls:=.type "enumerate",data:=.fields #[.none,.bool false,.ref it,rawInt 0,.none,.none] }
theorem Inv.turnedL {X:Cx} {pins:List (Addr × Obj)} {σ:St} {H:Hp} {s:Shared} {h':Heap} {t':Nat} {its:List Addr} (I:Inv X pins σ H s) (k:∀ b o,b ∉ its->s.heap.get? b=some o->h'.get? b=some o)
  (ok:∀ b ∈ its,H b=none/\b≠X.env.locals/\(b ∈ X.ex\/X.s₀.heap.objs.size≤b)/\(∀ x c,X.env.cells.lookup x=some c->c≠b)/\∀ p ∈ X.pn++pins,p.1≠b):Inv X pins σ H { s with heap:=h',toks:=t' }:=by
 have out:∀ b u,H b=some u->b ∉ its:=λb u e z=>by rw [(ok b z).1] at e;cases e
 refine I.step (g':=s.gens) (d':=s.drawn) (ch:=its) (λb hb=>⟨(ok b hb).2.2.1,(ok b hb).2.1,(ok b hb).2.2.2⟩) (λb o _ _ hc e _=>k b o hc e) (λb o _ _ hc e _=>⟨o.slots,k b o hc e⟩) (λ_ _ _ _ n=>n)
  (λb o hc e=>⟨o,k b o hc e⟩) (λ_ _ e=>e) (λ_ _ _ e=>e) (λb ps e=>⟨#[],by rw [Array.append_empty];exact e⟩) (λm hm=>?_) (λb u e=>?_) I.bare
 ·obtain ⟨o,es,ep,ho,r⟩:=hm
  exact ⟨o,es,ep,k _ o (λz=>(ok _ z).2.1 rfl) ho,r⟩
 ·refine (I.hok b u e).stay (λc v hc q=>k c v ?_ q) (λ_ q=>q) λ_ _ q=>q
  rcases hc with z | z
  ·rw [z];exact out b u e
  ·exact out c _ z
section
variable {prog:Program} {w:World} {A:Around} {E:Value->Shared->Prop} {s:Shared} {z TI TO i1 i2 t1 t2:Addr} {k:Nat} {xs ys:Array Value}
end
theorem Bf (σ:St) {i j:Nat} (ne:i≠j) (a b c d:Option V):((((σ.set i a).set j b).set i c).set j d)=(σ.set i c).set j d:=by
 rw [List.set_comm _ _ (Ne.symm ne),List.set_set,List.set_set]
section
variable {K:PySem.W.Frag} {σ:St} {H:Hp} {tA:TA} {ar:List Ar} {d:D} {R:List Ar->D->Prop} {B:List Ar->Addr->Prop} {E:XK} {Q:VK} {C:Addr}
end
end L2
namespace L2
open PySem PySem.Spec PyProof.Rows
section
variable {X:Cx}
end
section
variable {K:PySem.W.Frag} {σ:St} {H H':Hp} {d d':D} {ds es:List D} {t u ta tb te tl:TE} {tA:TA} {mk:St->St} {jj:Nat}
inductive LDs (K:PySem.W.Frag) (H:Hp):List (List D)->List V->Prop
 | nil:LDs K H [] []
 | cons {es:List D} {v:V} {ess:List (List D)} {vs:List V}:LD K H es v->LDs K H ess vs->LDs K H (es::ess) (v::vs)
variable {ess:List (List D)} {vs:List V}
theorem LDs.length (h:LDs K H ess vs):ess.length=vs.length:=by
 induction h with
 | nil=>rfl
 | cons _ _ ih=>simp [ih]
theorem LDs.map (h:LDs K H ess vs) (f:∀ es v,LD K H es v->LD K H' es v):LDs K H' ess vs:=by
 induction h with
 | nil=>exact .nil
 | cons h1 _ ih=>exact .cons (f _ _ h1) ih
theorem Same.lds (e:Same H H') (h:LDs K H ess vs):LDs K H' ess vs:=h.map λ_ _ z=>e.ld z
theorem LDs.snoc {es:List D} {v:V} (h:LDs K H ess vs) (h1:LD K H es v):LDs K H (ess++[es]) (vs++[v]):=by
 induction h with
 | nil=>exact .cons h1 .nil
 | cons k _ ih=>exact .cons k ih
theorem LDs.get (h:LDs K H ess vs):∀ {i:Nat} {es:List D},ess[i]?=some es->∃ v,vs[i]?=some v/\LD K H es v:=by
 induction h with
 | nil=>intro i es e;cases e
 | cons k _ ih =>
  intro i es e
  cases i with
  | zero=>cases e;exact ⟨_,rfl,k⟩
  | succ i=>exact ih e
def RCL (K:PySem.W.Frag) (t:TE) (σ:St) (H:Hp) (ess:List (List D)):Prop:=∀ H1,Same H H1->∀ Q:VK,(∀ l ys H',H1 l=none->Same H1 H'->H' l=some (.lst ys)->LDs K H' ess ys->Q (.ref l) H')->t σ H1 Q
theorem RCL.use {Q:VK} (h:RCL K t σ H ess) (q:∀ l ys H',H l=none->Same H H'->H' l=some (.lst ys)->LDs K H' ess ys->Q (.ref l) H'):t σ H Q:=h H (Same.refl H) Q q
def Off (K:PySem.W.Frag) (H:Hp) (l:Addr) (vs:List V):Prop:=∀ v ∈ vs,v≠.ref l
theorem LDs.grown {l:Addr} {zs zs':List V} (h:LDs K H ess vs) (off:Off K H l vs) (e:But l H H') (h1:H l=some (.lst zs)) (h2:H' l=some (.lst zs')):LDs K H' ess vs:=by
 have g:dD K H H':=e.grow h1 h2
 induction h with
 | nil=>exact .nil
 | cons k _ ih =>
  refine .cons ?_ (ih λv hv=>off v (List.mem_cons_of_mem _ hv))
  obtain ⟨a,us,rfl,ha,hd⟩:=k
  have na:a≠l:=λz=>off _ List.mem_cons_self (by rw [z])
  refine ⟨a,us,rfl,?_,Dats.mono g _ hd⟩
  exact ha.elim (λz=>.inl (e _ _ na z)) .inr
end
end L2
namespace L2
open PySem PySem.Spec PySem.Calls PyProof.Rows
section
variable {prog:Program} {w:World} {A:Around} {E:Value->Shared->Prop} {s:Shared} {z TI TO i1 i2 t1 t2:Addr} {k:Nat} {xs ys:Array Value}
end
variable {X:Cx}
theorem AL {K:PySem.W.Frag} {es:List Expr} {k:Nat} {t:TGs} {n:Nat} {pos:Pos} (hK:X.K=K) (hc:X.calm=true) (h:PGs X es t)
  (hn:(assignEach es X.env).length=n:=by rfl) (hst:(assignEach es X.env).findIdx? (·.1)=none:=by rfl):PG X (.Tuple es k pos) (pq K n t):=by
 subst hK
 exact fH hc h hn hst
section
variable {K:PySem.W.Frag} {σ:St} {H H':Hp} {d d':D} {ds es:List D} {t u ta tb te tl:TE} {tA:TA} {mk:St->St} {jj:Nat} {o:Option (List D)} {os:List (Option (List D))} {vs:List V} {ar:List Ar}
theorem jr {En:gM} {G:Hp} {j:Nat} {l:Addr} {xs:List V} (h:RC K te σ G es) (hl:G l=some (.lst xs)) (hx:xs.length+es.length≤1000)
  (q:∀ ys G',But l G G'->G' l=some (.lst (xs++ys))->Dats K G' es ys->En.nx σ G') (hv:σ[j]?=some (some (.ref l)):=by rfl):lD (tBM K "list" vv (cx j) (bf te cu)) En σ G:=by
 refine ⟨_,hv,.inl ⟨rfl,_,SqL.of hl⟩,h.use λp vs H1 hp s1 hv1 q1=>?_⟩
 have hl1:=s1 _ _ hl
 have lv:=q1.length
 refine ⟨l,p,xs,vs,rfl,rfl,hl1,hv1,gL (by omega),?_⟩
 have b:But l H1 (upd H1 l (.lst (xs++vs))):=But.upd (Same.refl _).but
 exact q vs _ (s1.but.trans b) ay (Dats.mono (b.grow hl1 ay) _ q1)
end
section
variable {prog:Program} {w:World} {A:Around} {E:Value->Shared->Prop} {s:Shared}
variable {t sl:Addr} {items:Array Value}
theorem jN {x y z:Value} {Q:Value->Shared->Prop} (ht:IsTup s.heap t items) (hs:s.heap.IsSliceOf sl x y z)
  (h:wpAny (model prog w) A.in1 (Builtin.Slice.sliceApplied (.ref sl) (pure (items.size:Int))) (λr s1=>wpAny (model prog w) A.in1 (do
   if r.1 == 0 && r.2.1 == 1 && r.2.2 == items.size then
    if ← Builtin.Tuple.tupleIsExact (.ref t) then rule "tuple.getitem.whole";return ← ret (.ref t)
   return ← ret (← Builtin.Tuple.tupleExact ((List.range r.2.2).filterMap λ(k:Nat)=>items[(r.1+(k:Int) * r.2.1).toNat]?).toArray)) (λfin s'=>∃ v,fin=.done (.ret v)/\Q v s') E s1) E s):wpAny (model prog w) A (getItem (.ref t) (.ref sl)) Q E s:=by
 obtain ⟨os,hos,hcs,hds⟩:=id hs
 have hTs:s.TypeIs (.ref sl) "slice":=⟨os,hos,hcs⟩
 unfold getItem
 try with_reducible refine wpAny_holding ?_
 first | refine wpAny_bind (wpAny_pure ?_) | skip
 refine wpAny_bind (wpAny_sequenceKey ht.typeIs (by decide) (wpAny_bind (wpAny_callSpecial?_slot (name:=Str.ofString "__getitem__") ht.typeIs PyProof.Rows.slot_tuple_getitem
  (wpAny_call_entry PyProof.Rows.slot_tuple_getitem ht.typeIs entry_tuple_getitem ?_ (args_tuple_getitem _ _)))))
 show wpAny _ _ (Builtin.Tuple.tupleItemsOf (.ref t) >>= _) _ _ s
 refine wpAny_bind (tupleItemsOf_ ht (wpAny_bind (wpAny_typeOf hTs ?_)))
 rw [if_pos (by decide)]
 refine wpAny_bind (wpAny_mono h (λr s1 k=>?_) λ_ _ z=>z)
 obtain ⟨lo,step,n⟩:=r
 refine wpAny_mono k (λfin s2 ⟨v,e,q⟩=>⟨v,e,wpAny_pure q⟩) λ_ _ z=>z
theorem kf {vl vu:Value} {lo hi:Option Int} {Q:Value->Shared->Prop} (ht:IsTup s.heap t items) (hs:s.heap.IsSliceOf sl vl vu .none) (pl:IsPart vl lo) (pu:IsPart vu hi)
  (hw:HT.sIx items.size 0 lo=0/\HT.sIx items.size items.size hi=items.size) (h:Q (.ref t) s):wpAny (model prog w) A (getItem (.ref t) (.ref sl)) Q E s:=by
 refine jN ht hs (HT.sliceApplied_gen hs pl pu ?_)
 rw [hw.1,hw.2]
 dsimp only
 rw [if_pos (by simp)]
 unfold Builtin.Tuple.tupleIsExact
 refine wpAny_bind (wpAny_bind (wpAny_typeOf ht.typeIs (wpAny_pure ?_)))
 rw [if_pos (by decide)]
 refine wpAny_bind (wpAny_rule ?_)
 exact wpAny_bind (wpAny_pure (wpAny_pure ⟨_,rfl,h⟩))
end
def Cq (K:PySem.W.Frag):V->Option Int->Option Int->Hp->VK->Prop:=λx lo hi H Q=>∃ a xs,x=.ref a/\SqT K H a xs/\(HT.sIx xs.length 0 lo=0/\HT.sIx xs.length xs.length hi=xs.length->Q x H) /\
 (¬ (HT.sIx xs.length 0 lo=0/\HT.sIx xs.length xs.length hi=xs.length)->∀ p,H p=none->Q (.ref p) (upd H p (.tup (j7 xs lo hi))))
theorem Bh:SlR X (Cq X.K):=λpins s σ H x v vl vu lo hi sl Q I rx hs pl pu ⟨a,xs,ex,hx,h1,h2⟩=>by
 by_cases hw:HT.sIx xs.length 0 lo=0/\HT.sIx xs.length xs.length hi=xs.length
 ·subst ex
  cases rx
  obtain ⟨its,r,ht,hz⟩:=I.tuple hx
  have hlen:its.toArray.size=xs.length:=by rw [List.size_toArray];exact r.length.symm
  exact ⟨"tuple",_,PyProof.Rows.slot_tuple_getitem.lookup,ht.typeIs,kf ht hs pl pu (by rw [hlen];exact hw) ⟨.ref a,H,I,rfl,h1 hw⟩⟩
 ·exact qm pins s σ H x v vl vu lo hi sl Q I rx hs pl pu ⟨a,xs,ex,hx,hw,h2 hw⟩
def Bw (K:PySem.W.Frag):R2:=λx y H Q=>∃ a b ys,x=.ref a/\y=.ref b/\SqT K H a []/\SqT K H b ys/\Q (.ref b) H
theorem op_catE:OpR X (binaryOp .Add) (Bw X.K):=λpins s σ H x y v u Q I rx ry ⟨a,b,ys,ex,ey,ha,hb,q⟩=>by
 subst ex ey
 cases rx
 cases ry
 obtain ⟨i1,r1,p1,_⟩:=I.tuple ha
 obtain ⟨i2,r2,p2,_⟩:=I.tuple hb
 have e1:=r1.nil_iff.mpr rfl
 subst e1
 obtain ⟨⟨c1,d1,t1,l1⟩,o1,k1,n1,m1⟩:=id p1
 obtain ⟨⟨c2,d2,t2,l2⟩,o2,k2,n2,m2⟩:=id p2
 simp only at k1 m1 k2 m2
 subst k1 m1 k2 m2
 exact concat_meets ⟨_,o1,rfl⟩ ⟨_,o2,rfl⟩ noFill_tuple_add seq_tuple_add PySem.F.slot_tuple_add PySem.F.entry_tuple_add (PySem.F.args_tuple_add_2 _ _) (tuple_addW0 a b _ _ n1 n2 d1 d2 l1 l2 rfl) ⟨o1,o2,.ref b,H,I,rfl,q⟩
def rO (K:PySem.W.Frag):R2:=λx y H Q=>Bw K x y H Q\/By K x y H Q
theorem pS:OpR X (binaryOp .Add) (rO X.K):=op_catE.or AF
section
variable {K:PySem.W.Frag} {σ:St} {H H':Hp} {d:D} {ds es:List D} {t u ta tb te:TE} {n:Nat}
theorem AY {tl th:TO} {lo hi:Option Int} (h:RE K t σ H (.tup ds)) (hl:∀ H1,Same H H1->∀ Q:Option Int->Hp->Prop,(∀ H2,Same H1 H2->Q lo H2)->tl σ H1 Q) (hh:∀ H1,Same H H1->∀ Q:Option Int->Hp->Prop,(∀ H2,Same H1 H2->Q hi H2)->th σ H1 Q)
  (ec:∀ {α:Type} (xs:List α),xs.length=ds.length->True) (es:List D) (cut:∀ H1 vs,Dats K H1 ds vs->Dats K H1 es (j7 vs lo hi)) (whole:∀ H1 vs,Dats K H1 ds vs->HT.sIx vs.length 0 lo=0/\HT.sIx vs.length vs.length hi=vs.length->Dats K H1 es vs):RE K (tSl (Cq K) t tl th) σ H (.tup es):=λH1 s Q q =>
 h H1 s _ λv H2 s2 q2=>hl H2 (s.trans s2) _ λH3 s3=>hh H3 (s.trans (s2.trans s3)) _ λH4 s4=>by
  obtain ⟨a,vs,ev,hq,hd⟩:=((s3.trans s4).dat q2).tupE
  subst ev
  refine ⟨a,vs,rfl,hq,λhw=>q _ _ (s2.trans (s3.trans s4)) (Dat.tupI hq (whole _ _ hd hw)),λ_ p hp=>?_⟩
  exact q _ _ (s2.trans (s3.trans (s4.trans (aG hp _)))) (Dat.tupI (SqT.of ay) ((aG hp _).dats (cut _ _ hd)))
theorem Bj (H:Hp):∀ H1,Same H H1->∀ Q:Option Int->Hp->Prop,(∀ H2,Same H1 H2->Q none H2)->lY σ H1 Q:=λH1 _ Q q=>q _ (Same.refl _)
theorem CP {i:Int} (h:RE K te σ H (.int i)):∀ H1,Same H H1->∀ Q:Option Int->Hp->Prop,(∀ H2,Same H1 H2->Q (some i) H2)->jI te σ H1 Q:=λH1 s Q q=>h H1 s _ λv H2 s2 q2=>⟨i,q2.intE,q _ s2⟩
theorem Cz (h:RE K t σ H (.tup ds)) (h2:RE K tb σ H (.int n)):RE K (tSl (Cq K) t lY (jI tb)) σ H (.tup (ds.take n)) :=
 AY h (Bj H) (CP h2) (λ_ _=>trivial) (ds.take n) (λH1 vs hd=>by rw [BZ];exact Dats.takeN hd) λH1 vs hd hw=>by
  have hl:=hd.length
  have k:=hw.2
  rw [HT.sIx_nat] at k
  rw [List.take_of_length_le (by omega)]
  exact hd
theorem xM {x y:V} {Q:VK} (h1:Dat K H (.tup ds) x) (h2:Dat K H (.tup es) y) (hl:ds.length+es.length≤1000) (q:∀ v H',Same H H'->Dat K H' (.tup (ds++es)) v->Q v H'):rO K x y H Q:=by
 obtain ⟨a,xs,ea,ha,da⟩:=h1.tupE
 obtain ⟨b,ys,eb,hb,db⟩:=h2.tupE
 have l1:=da.length
 have l2:=db.length
 cases ds with
 | nil =>
  have e:=da.nilE
  subst e
  exact .inl ⟨a,b,ys,ea,eb,ha,hb,q _ _ (Same.refl _) (Dat.tupI hb db)⟩
 | cons d ds =>
  refine .inr ⟨a,b,xs,ys,ea,eb,ha,hb,λz=>?_,gL (by omega),λz=>?_,λ_ p hp=>?_⟩
  ·rw [z] at l1;cases l1
  ·have e:es=[]:=List.length_eq_zero_iff.mp (by rw [l2,z];rfl)
   subst e
   rw [List.append_nil] at q
   exact q _ _ (Same.refl _) (Dat.tupI ha da)
  ·exact q _ _ (aG hp _) (Dat.tupI (SqT.of ay) ((aG hp _).dats (Dats.append da db)))
theorem qf (h1:RE K ta σ H (.tup ds)) (h2:RE K tb σ H (.tup es)) (hl:ds.length+es.length≤1000):RE K (tOp (rO K) ta tb) σ H (.tup (ds++es)):=λH1 s Q q =>
 h1 H1 s _ λv H2 s2 q2=>h2 H2 (s.trans s2) _ λw H3 s3 q3=>xM (s3.dat q2) q3 hl λv H' s' k=>q v H' (s2.trans (s3.trans s')) k
theorem ni (h:RE K t σ H (.tup es)):RC K (tCB (λxs H Q=>∃ p ys,xs=[.ref p]/\(SqL K H p ys\/SqT K H p ys)/\∀ l,H l=none->Q (.ref l) (upd H l (.lst ys))) (bf t cu)) σ H es:=λH1 s Q q =>
 iI ((h.mono s).use λv H' s' hd=>by
  obtain ⟨a,vs,e,hq,hds⟩:=hd.tupE
  subst e
  exact ⟨a,vs,rfl,.inr hq,λl hl=>q l vs _ (s'.free hl) (s'.trans (aG hl _)) ay ((aG hl _).dats hds)⟩)
end
end L2
namespace L2
open PySem
def Kept (h h':Heap):Prop:=∀ (b:Addr) (o:Obj),h.objs[b]?=some o->∃ o',h'.objs[b]?=some o'/\o'.dict=o.dict
variable {h:Heap}
theorem Kept.refl:Kept h h:=λ_ o e=>⟨o,e,rfl⟩
theorem Kept.trans {h1 h2 h3:Heap} (x:Kept h1 h2) (y:Kept h2 h3):Kept h1 h3:=λb o e =>
 let ⟨o1,e1,d1⟩:=x b o e;let ⟨o2,e2,d2⟩:=y b o1 e1;⟨o2,e2,d2.trans d1⟩
variable {o:Obj}
theorem Kept.push:Kept h (h.push o):=λb u e=>by
 obtain ⟨objs,l⟩:=h
 refine ⟨u,?_,rfl⟩
 show (objs.push o)[b]?=some u
 have e:objs[b]?=some u:=e
 rw [Array.getElem?_push_lt (Array.getElem?_eq_some_iff.mp e).1]
 exact congrArg some (Array.getElem?_eq_some_iff.mp e).2
variable {a:Addr} {f:Obj->Obj}
theorem Kept.update (hf:∀ o,(f o).dict=o.dict):Kept h (h.update a f):=λb u e=>by
 obtain ⟨objs,l⟩:=h
 have e:objs[b]?=some u:=e
 by_cases q:a=b
 ·refine ⟨f u,?_,hf u⟩
  show (objs.modify a f)[b]?=some (f u)
  rw [Array.getElem?_modify,if_pos q,e]
  rfl
 ·refine ⟨u,?_,rfl⟩
  show (objs.modify a f)[b]?=some u
  rw [Array.getElem?_modify,if_neg q,e]
theorem Kept.at {h':Heap} {o':Obj} (k:Kept h h') (e:h.get? a=some o) (e':h'.get? a=some o'):o'.dict=o.dict:=by
 have r:∀ {g:Heap} {u:Obj},g.get? a=some u->g.objs[a]?=some u:=λ{g u} q=>by
  unfold Heap.get? at q
  split at q
  ·cases q
  ·exact q
 obtain ⟨u,eu,d⟩:=k a o (r e)
 have z:=(r e').symm.trans eu
 cases z
 exact d
def Safe {α:Type}:Sem α->Prop
 | .rule _ k=>Safe (k ())
 | .at _ k=>Safe (k ())
 | .load _ _ k=>∀ x,Safe (k x)
 | .update _ _ f k=>(∀ o,(f o).dict=o.dict)/\Safe (k ())
 | .loadIfAlive _ k=>∀ x,Safe (k x)
 | .point _ k=>Safe (k ())
 | .alloc _ k=>∀ x,Safe (k x)
 | .fresh k=>∀ x,Safe (k x)
 | .ask k=>∀ x,Safe (k x)
 | .choose _ _ k=>∀ x,Safe (k x)
 | .handled _ k=>∀ x,Safe (k x)
 | .stack k=>∀ x,Safe (k x)
 | .call ..=>False
 | .resume ..=>False
 | .os ..=>False
 | .newGen ..=>False
 | .genState ..=>False
 | .thread ..=>False
 | _=>True
theorem Safe.bind {α β:Type} {f:α->Sem β} (hf:∀ a,Safe (f a)):∀ {m:Sem α},Safe m->Safe (m >>= f):=by
 intro m hm
 show Safe (m.bind f)
 induction m with
 | pure a=>exact hf a
 | rule _ k ih=>exact ih () hm
 | «at» _ k ih=>exact ih () hm
 | load _ _ k ih=>exact λx=>ih x (hm x)
 | update _ _ g k ih=>exact ⟨hm.1,ih () hm.2⟩
 | loadIfAlive _ k ih=>exact λx=>ih x (hm x)
 | point _ k ih=>exact ih () hm
 | alloc _ k ih=>exact λx=>ih x (hm x)
 | fresh k ih=>exact λx=>ih x (hm x)
 | ask k ih=>exact λx=>ih x (hm x)
 | choose _ _ k ih=>exact λx=>ih x (hm x)
 | handled _ k ih=>exact λx=>ih x (hm x)
 | stack k ih=>exact λx=>ih x (hm x)
 | call=>exact hm.elim
 | resume=>exact hm.elim
 | os=>exact hm.elim
 | newGen=>exact hm.elim
 | genState=>exact hm.elim
 | thread=>exact hm.elim
 | _=>trivial
variable {M:Model}
theorem Bm {α:Type} {Γ:Ctx} {Q:α->Pos->Shared->Prop} {E:Value->Pos->Shared->Prop} {h0:Heap}:∀ {t:Sem α} {p:Pos} {s:Shared},Safe t->Kept h0 s.heap->Sem.wp M Γ t Q E p s ->
  Sem.wp M Γ t (λa p' s'=>Q a p' s'/\Kept h0 s'.heap) E p s:=by
 intro t
 induction t with
 | pure a=>exact λ_ k h=>⟨h,k⟩
 | raise e=>exact λ_ _ h=>h
 | unsupported=>exact λ_ _ h=>h
 | finish=>exact λ_ _ h=>h
 | rule _ k ih=>exact λhm kp h=>ih () hm kp h
 | «at» _ k ih=>exact λhm kp h=>ih () hm kp h
 | load _ _ k ih=>exact λhm kp ⟨o,e,h⟩=>⟨o,e,ih o (hm o) kp h⟩
 | update _ _ f k ih=>exact λhm kp ⟨e,h⟩=>⟨e,ih () hm.2 (kp.trans (Kept.update hm.1)) h⟩
 | loadIfAlive _ k ih=>exact λhm kp h=>ih _ (hm _) kp h
 | point _ k ih=>exact λhm kp h=>ih () hm kp h
 | register=>exact λ_ _ h=>h
 | alloc _ k ih=>exact λhm kp h=>ih _ (hm _) (kp.trans Kept.push) h
 | fresh k ih=>exact λhm kp h=>ih _ (hm _) kp h
 | ask k ih=>exact λhm kp h=>ih _ (hm _) kp h
 | choose _ _ k ih=>exact λhm kp ⟨n,h⟩=>⟨n,ih _ (hm _) kp h⟩
 | handled _ k ih=>exact λhm kp h=>ih _ (hm _) kp h
 | stack k ih=>exact λhm kp h=>ih _ (hm _) kp h
 | yield=>exact λ_ _ h=>h
 | fork=>exact λ_ _ h=>h
 | await=>exact λ_ _ h=>h
 | _=>exact λhm=>hm.elim
theorem gk {α:Type} {A:Around} {t:Sem α} {Q:α->Shared->Prop} {E:Value->Shared->Prop} {s:Shared} (hs:Safe t) (h:wpAny M A t Q E s):wpAny M A t (λa s'=>Q a s'/\Kept s.heap s'.heap) E s :=
 λΓ p hΓ=>Bm hs Kept.refl (h Γ p hΓ)
theorem hW {α:Type} (a:α):Safe (pure a:Sem α):=trivial
theorem zD (h:∀ o,(f o).dict=o.dict):Safe (update a f):=⟨h,trivial⟩
theorem nC:Safe stack:=λ_=>trivial
theorem n5 (v:Value):Safe (fieldsOf v):=by
 unfold fieldsOf
 split
 ·refine Safe.bind (λo=>?_) (λ_=>trivial)
  split <;> trivial
 ·trivial
theorem iE (v:Value) (i:Nat):Safe (field v i):=by
 unfold field
 refine Safe.bind (λvs=>?_) (n5 v)
 split <;> trivial
theorem mM (f:Array Value->Array Value) (o:Obj):(Obj.mapFields f o).dict=o.dict:=by
 unfold Obj.mapFields
 split <;> rfl
theorem gO (v:Value) (i:Nat) (x:Value):Safe (setField v i x):=by
 unfold setField
 split
 ·unfold updateField
  refine Safe.bind (λo=>?_) (λ_=>trivial)
  split
  ·split
   ·exact ⟨λo=>mM _ o,trivial⟩
   ·trivial
  ·trivial
 ·trivial
theorem rZ (env:Env) (outer:List Env):Safe (behindIsImport env outer):=by
 unfold behindIsImport
 split
 ·trivial
 ·split
  ·trivial
  ·exact Safe.bind (λ_=>hW _) (iE _ _)
theorem wV (env:Env) (b:Bool) (outer:List Env):Safe (keptBack env b outer):=by
 unfold keptBack
 split
 ·split
  ·trivial
  ·have h:Safe underTheClaimsCaller:=Safe.bind (λ_=>hW _) nC
   exact Safe.bind (λc=>hW _) h
 ·trivial
theorem nB:∀ l:List Env,Safe (readyFrames l)
 | []=>trivial
 | env::outer=>by
  unfold readyFrames
  split
  ·refine Safe.bind (λo=>?_) (λ_=>trivial)
   split
   ·trivial
   ·refine Safe.bind (λi=>Safe.bind (λb=>Safe.bind (λ_=>nB outer) ?_) (wV _ _ _)) (rZ _ _)
    exact zD λ_=>rfl
  ·trivial
theorem uh (env:Env):Safe (frameOf env):=by
 unfold frameOf
 have h:Safe frameEnvs:=Safe.bind (λ_=>hW _) nC
 refine Safe.bind (λl=>?_) h
 refine Safe.bind (λo=>?_) ?_
 ·split <;> trivial
 ·unfold frameObject
  split
  ·trivial
  ·exact Safe.bind (λ_=>hW _) (nB (_::_))
theorem ui (f:Addr) (b:Bool):Safe (entryPlaceOf f b):=by
 unfold entryPlaceOf
 refine Safe.bind (λl=>?_) (λ_=>trivial)
 split <;> trivial
theorem ug (a b c d e:Value) (l:List Value):Safe (EntryCells.newEntry a b c d e l):=by
 unfold EntryCells.newEntry newFields newObj
 have h:∀ d:Data,Safe (newObjAsIs (.type "traceback") d):=λd _=>trivial
 generalize ([a,b,c,d,e]++if l.isEmpty=true then List.replicate 6 Value.none else l).toArray=vs
 dsimp only
 split
 ·exact Safe.bind (λ_=>h _) (m:=unsupported _) trivial
 ·exact h _
theorem ji (e:Value) (f:Option Addr):Safe (setFlight e f):=by
 unfold setFlight
 refine Safe.bind (λtb=>?_) (iE _ _)
 split
 ·exact gO _ _ _
 ·trivial
theorem oR (e:Value) (env:Env):Safe (noteFrame e env):=by
 unfold noteFrame
 split
 ·refine Safe.bind (λhd=>?_) (iE _ _)
  have last:∀ b:Bool,Safe (do setField e 1 (← EntryCells.newEntry hd (← frameOf env) .none (rawInt ‹Addr›) .none (← entryPlaceOf ‹Addr› b))):=λb =>
   Safe.bind (λfr=>Safe.bind (λpl=>Safe.bind (λen=>gO _ _ _) (ug _ _ _ _ _ _)) (ui _ _)) (uh _)
  split
  ·refine Safe.bind (λfl=>?_) (iE _ _)
   split
   ·trivial
   ·exact Safe.bind (λ_=>last _) (gO _ _ _)
  ·exact last _
 ·trivial
theorem ky (env:Env) (e:Value):Safe (leaving env e):=Safe.bind (λ_=>ji _ _) (oR _ _)
end L2
namespace L2
open PySem PySem.Spec PySem.Calls PyProof.Rows PySem.W PySem.Builtin PySem.Builtin.ObjectAttr
def DictAt (h:Heap) (a:Addr) (dx:Option Addr):Prop:=∃ oe,h.get? a=some oe/\oe.dict=dx
theorem Kept.dictAt {h h':Heap} {a:Addr} {dx:Option Addr} {cls a0:Value} {T:Addr} (k:Kept h h') (d:DictAt h a dx) (t:Trc h' a T cls a0):DictAt h' a dx:=by
 obtain ⟨oe,he,hd⟩:=d
 obtain ⟨o2,_,_,_,h2,_⟩:=t
 exact ⟨o2,h2,(k.at he h2).trans hd⟩
def CX2 (P:Program) (w:World):CXT:=λouter H s E e s' =>
 ∃ a T cls a0 dx H',e=.ref a/\s'.os=s.os/\AllBare s'.gens/\Un (frs outer) [] H H' s.heap s'.heap/\HOk P w H' s'.heap /\
  (s.heap.get? a=none/\s.heap.get? T=none/\H' a=none/\H' T=none)/\Trc s'.heap a T cls a0/\DictAt s'.heap a dx/\E cls dx H'
section
variable {X:Cx} {pins:List (Addr × Obj)} {σ:St} {H:Hp} {s s':Shared} {E:XK} {e:Value}
theorem CX2.behind (I:Inv X pins σ H s) (x:CX2 X.prog X.w X.stack H s E e s'):∃ a T cls a0 dx H',e=.ref a/\E cls dx H'/\DictAt s'.heap a dx/\s.heap.get? a=none/\H' a=none/\Inv X pins σ H' s' /\
  Heap.FlyingW (PySem.W.hideAll s'.heap (a::T::frs X.stack)) X.stack a cls a0 s'.heap /\
  ∀ h2 l',Heap.FlyingW (PySem.W.hideAll s'.heap (a::T::frs X.stack)) l' a cls a0 h2->s'.heap.UpToSlots h2 ->
   ∃ T2,Inv X pins σ H' { s' with heap:=h2 }/\Trc h2 a T2 cls a0/\s.heap.get? T2=none/\H' T2=none/\Un (frs X.stack) [] H H' s.heap h2:=by
 obtain ⟨a,T,cls,a0,dx,H',rfl,os,bare,un,hok,fr,tr,da,q⟩:=x
 obtain ⟨a2,T2,c2,a02,H2,e2,⟨rfl,rfl⟩,sa,na,J,fl,back⟩:=CX1.behind (E:=λc _ G=>c=cls/\G=H') I ⟨a,T,cls,a0,H',rfl,os,bare,un,hok,fr,tr,rfl,rfl⟩
 cases e2
 exact ⟨a,T2,_,a02,dx,_,rfl,q,da,sa,na,J,fl,back⟩
end
variable {P:Program} {w:World} {K:PySem.W.Frag} {mg:Str->Option Value} {base:Heap} {N:List Str} {qual:Str} {scope:Scope} {f:Addr} {cd:Value} {A:Around} {outer:List Env} {s:Shared} {H:Hp} {E:XK}
theorem fL :
  eR (CX2 P w) (lG (CX2 P w) P w K mg base N qual scope f cd A outer s H E) E:=by
 intro pins σ H1 s1 e s' I x
 obtain ⟨a,T,cls,a0,dx,H',rfl,q,da,sa,na,J,fl,back⟩:=CX2.behind I x
 refine wpAny_mono (gk (ky _ _) (wpAny_leaves_onW (Q:=λ_ s2=>∃ h2,s2={ s' with heap:=h2 }/\Heap.FlyingW (PySem.W.hideAll s'.heap (a::T::frs (envOfC qual scope s.heap.objs.size f cd::outer))) outer a cls a0 h2/\s'.heap.UpToSlots h2)
  (L:=s.heap.objs.size) I.ok.frames rfl fl λh2 f2 up=>⟨h2,rfl,f2,up⟩)) (λ_ s2 ⟨⟨h2,e2,f2,up⟩,kp⟩=>?_) λ_ _ z=>z
 subst e2
 obtain ⟨T2,J2,t2,sT2,nT2,_⟩:=back h2 _ f2 up
 have up0:∀ b,s1.heap.get? b=none->s.heap.get? b=none:=λb z=>by
  cases q:s.heap.get? b with
  | none=>rfl
  | some o =>
   obtain ⟨o',r⟩:=I.base.there b o q (by show b ∉ ([]:List Addr);simp)
   rw [z] at r;cases r
 exact ⟨a,T2,cls,a0,dx,H',rfl,J2.os,J2.bare,J2.base,J2.hok,⟨up0 a sa,up0 T2 sT2,na,nT2⟩,t2,kp.dictAt da t2,q⟩
def BI (P:Program) (w:World):CXT:=λouter H s E e s' =>
 ∃ a cls a0 dx H',e=.ref a/\s'.os=s.os/\AllBare s'.gens/\Un (frs outer) [] H H' s.heap s'.heap/\HOk P w H' s'.heap /\
  (s.heap.get? a=none/\H' a=none)/\Fre s'.heap a cls a0/\DictAt s'.heap a dx/\E cls dx H'
theorem gQ :
  eR (BI P w) (lG (CX2 P w) P w K mg base N qual scope f cd A outer s H E) E:=by
 intro pins σ H1 s1 e s' I x
 obtain ⟨a,cls,a0,dx,H',rfl,os,bare,un,hok,⟨sa,na⟩,⟨oe,vs,he,⟨hc,h0⟩,hd,hv⟩,da,q⟩:=x
 have J:Inv (lG (CX2 P w) P w K mg base N qual scope f cd A outer s H E) pins σ H' s':=I.call' (ch:=[]) os un hok bare (λb z=>absurd z (by simp))
 subst hc
 refine wpAny_mono (gk (ky _ _) (wpAny_leaving_firstW (Q:=λ_ s2=>∃ h2,s2={ s' with heap:=h2 }/\Heap.LeftW (PySem.W.hideAll s'.heap (a::a::frs (envOfC qual scope s.heap.objs.size f cd::outer))) (envOfC qual scope s.heap.objs.size f cd::outer) a oe.cls a0 s'.heap h2) (L:=s.heap.objs.size) (a0:=a0) I.ok.frames
  (PySem.W.funFrames_hide J.stack λenv hm b hb=>.tail _ (.tail _ (List.mem_filterMap.mpr ⟨env,hm,hb⟩))) rfl he (λb o q=>PySem.W.of_hideAll _ q) (PySem.W.hideAll_none _ (.head _)) hd hv h0 λh2 L2=>⟨h2,rfl,L2⟩)) (λ_ s2 ⟨⟨h2,e2,k1,k2,k3,k4⟩,kp⟩=>?_) λ_ _ z=>z
 subst e2
 obtain ⟨T2,t2,hT2,kk,sl2⟩:=qP (T:=a) J.stack (show Heap.FlyingW _ _ a oe.cls a0 h2 from ⟨k1,PySem.W.hideAll_none _ (.head _),k2,k3⟩) k4
 have neT:T2≠a:=by obtain ⟨_,_,_,_,_,_,_,_,z,_⟩:=t2;exact z
 have nT:s'.heap.get? T2=none:=hT2.resolve_left neT
 have sT:s1.heap.get? T2=none:=by
  cases q:s1.heap.get? T2 with
  | none=>rfl
  | some o =>
   obtain ⟨o',r⟩:=un.there T2 o q (by simp)
   rw [nT] at r;cases r
 have up0:∀ b,s1.heap.get? b=none->s.heap.get? b=none:=λb z=>by
  cases q:s.heap.get? b with
  | none=>rfl
  | some o =>
   obtain ⟨o',r⟩:=I.base.there b o q (by show b ∉ ([]:List Addr);simp)
   rw [z] at r;cases r
 have J2:Inv (lG (CX2 P w) P w K mg base N qual scope f cd A outer s H E) pins σ H' { s' with heap:=h2 } :=
  I.call' (s':={ s' with heap:=h2 }) (ch:=[]) os (zS un sa sa kk sl2) (yj hok na na J.stkFree kk) bare (λb z=>absurd z (by simp))
 exact ⟨a,T2,oe.cls,a0,dx,H',rfl,J2.os,J2.bare,J2.base,J2.hok,⟨up0 a sa,up0 T2 sT,na,hok.empty nT⟩,t2,kp.dictAt da t2,q⟩
variable {x:Str} {fd:FuncData} {ps:List Str} {k:Nat}
theorem Fun.ok2 {st:Stmt} {sp:Sp} (F:Fun K x qual st f fd) (S:FnScope N ps (ax st)) (len:∀ vs H Q E,sp vs H Q E->vs.length=ps.length)
  (hbody:∀ (cdv:Value) (A:Around) (outer:List Env) (s:Shared) (H:Hp) (vs:List V) (Q:VK) (E:XK),Room k (A.deeper (envOfC qual (ax st) s.heap.objs.size f cdv))->sp vs H Q E ->
   ∃ t,PSs (lG (CX2 P w) P w K mg base N qual (ax st) f cdv A outer s H E) (bB st) t/\t { nx:=λ_ H'=>Q .non H',rt:=Q } (eP N vs) H):FnOk P w K mg base (CX2 P w) (k+1) f fd ps sp:=by
 obtain ⟨oc,od,kV,doc,pm,an,cdv,ct,osl,rfl,lk,hcd⟩:=F.ex
 exact xW lk hcd S len λA outer s H vs Q E hr hsp=>hbody cdv A outer s H vs Q E hr hsp
def xj (e C:Addr) (a0:Value) (dx:Addr):HO:=.ext λh=>∃ oe vs,h.get? e=some oe/\(oe.cls=.ref C/\vs[0]?=some a0)/\oe.data=.fields vs/\vs[1]?=some .none/\oe.dict=some dx
abbrev kB (H:Hp) (e C:Addr) (a0:Value) (dx:Addr) (f:Str) (v:V):Hp:=upd (upd H e (xj e C a0 dx)) dx (.xd [(f,v)])
section
variable {H:Hp} {e C dx b:Addr} {a0:Value} {f:Str} {v:V}
theorem zX:kB H e C a0 dx f v dx=some (.xd [(f,v)]):=ay
theorem qx (h:dx≠e):kB H e C a0 dx f v e=some (xj e C a0 dx):=(aK (Ne.symm h)).trans ay
theorem zY (h:b≠dx) (h':b≠e):kB H e C a0 dx f v b=H b:=(aK h).trans (aK h')
end
variable {X:Cx} {C:Addr} {ta:TE} {pos:Pos}
theorem tS {f:Str} {o value:Expr} {tv:TE} {pos':Pos} (st:xu X.K C f) (ha:PE X o ta) (hv:PE X value tv) (hs:swapsWith value (some (.Attribute o f pos')) pos.line X.env=pure false:=by rfl) :
  PS X (.Assign [.Attribute o f pos'] value pos) (λD σ H=>tv σ H λy H1=>ta σ H1 λx H2=>∃ e a0,x=.ref e/\H2 e=some (lF e C a0)/\∀ dx,H2 dx=none->D.nx σ (kB H2 e C a0 dx f y)):=by
 intro pins s σ H D I h
 refine plainObj_wpAny_Assign_Attribute (thn (hv pins s σ H _ I h) λu s1 ⟨y,H1,I1,ry,q⟩=>thn (ha pins s1 σ H1 _ I1 q) λov s2 ⟨x,H2,I2,rx,e,a0,ex,he,q2⟩=>?_) hs
 subst ex
 obtain rfl:ov=Value.ref e:=rx
 obtain ⟨⟨oe,vs,hoe,⟨hcl,hv0⟩,hdt,hv1,hdn⟩,_,_⟩:=(show ObjOk X.prog X.w H2 s2.heap e (lF e C a0) from I2.hok e _ he)
 refine r6 I2.kIn st hoe hcl hdn hdt λh' tk k hx' ns=>?_
 have sd:s2.heap.get? s2.heap.objs.size=none:=by
  cases q:s2.heap.get? s2.heap.objs.size with
  | none=>rfl
  | some o=>exact absurd (Heap.lt_size q) (Nat.lt_irrefl _)
 have nd:H2 s2.heap.objs.size=none:=I2.hok.empty sd
 have J:Inv X pins σ (upd H2 e (xj e C a0 s2.heap.objs.size)) { s2 with heap:=h',toks:=tk }:=by
  refine I2.write (x:=e) (e:=e) (t':=tk) (by rw [he];trivial) (.inl rfl) k ⟨_,hx'⟩ ?_
  exact ⟨⟨_,vs,hx',⟨hcl,hv0⟩,hdt,hv1,rfl⟩,⟨_,hx'⟩,λh1 h2 ⟨o1,v1,e1,c1⟩ k=>⟨o1,v1,k o1 e1,c1⟩⟩
 have nb:∀ b,H2 b=none->b≠e:=λb z y=>by rw [y,he] at z;cases z
 have un:Un (frs X.stack) [] H2 (upd H2 e (xj e C a0 s2.heap.objs.size)) s2.heap h':=by
  refine ⟨λb o q n hf hx=>k b o (nb b n) q,λb o q n hf hx=>⟨o.slots,k b o (nb b n) q⟩,λb o q n hx=>by rw [aK (nb b n)];exact n,λb o q hx=>?_,λb xs q=>?_,λb u xs q=>?_,λb ps q=>⟨#[],?_⟩⟩
  ·by_cases hb:b=e
   ·subst hb;exact ⟨_,hx'⟩
   ·exact ⟨o,k b o hb q⟩
  ·rw [aK (λz=>by rw [z,he] at q;cases q)];exact q
  ·rw [aK (λz=>by rw [z,he] at q;cases q)];exact q
  ·rw [Array.append_empty,aK (λz=>by rw [z,he] at q;cases q)];exact q
 refine ⟨σ,_,Inv.track (o:=.xd [(f,y)]) I2 J un sd (by rw [aK (nb _ nd)];exact nd) (show ∃ mA,h'.Ns1 _ mA/\_ from ⟨_,ns,λg=>?_⟩),q2 _ nd⟩
 by_cases hg:g=f
 ·subst hg
  rw [if_pos rfl,List.lookup_cons_self]
  exact ry
 ·rw [if_neg hg]
  have e:List.lookup g [(f,y)]=none:=by
   rw [List.lookup_cons,beq_eq_false_iff_ne.mpr hg]
   rfl
  rw [e]
  trivial
def eO (C:Addr) (f:Str):Sp:=λvs H Q _=>∃ e a0 v,vs=[.ref e,v]/\H e=some (lF e C a0)/\∀ dx,H dx=none->Q .non (kB H e C a0 dx f v)
section
variable {X:Cx} {pins:List (Addr × Obj)} {σ:St} {H:Hp} {s s':Shared} {C fI e dx:Addr} {fd:FuncData} {k:Nat} {ps:List Str} {a0:Value} {f:Str} {v:V}
theorem qz (I:Inv X pins σ H s) (hn:s.heap.get? e=none) (na:H e=none) (nd:upd H e (lF e C a0) dx=none) {h1:Heap} (k1:∀ b o,s.heap.get? b=some o->h1.get? b=some o)
  (un:Un (frs X.stack) [] (upd H e (lF e C a0)) (kB (upd H e (lF e C a0)) e C a0 dx f v) h1 s'.heap) (hok:HOk X.prog X.w (kB (upd H e (lF e C a0)) e C a0 dx f v) s'.heap) :
  H dx=none/\dx≠e/\Un (frs X.stack) [] H (upd H dx (.xd [(f,v)])) s.heap s'.heap/\HOk X.prog X.w (upd H dx (.xd [(f,v)])) s'.heap /\
   ∃ oe vs,s'.heap.get? e=some oe/\(oe.cls=.ref C/\vs[0]?=some a0)/\oe.data=.fields vs/\vs[1]?=some .none/\oe.dict=some dx:=by
 have de:dx≠e:=λz=>by rw [z,ay] at nd;cases nd
 have nd0:H dx=none:=by rw [aK de] at nd;exact nd
 have off:∀ b o,s.heap.get? b=some o->b≠e:=λb o q z=>by rw [z,hn] at q;cases q
 have offH:∀ b u,H b=some u->b≠e:=λb u q z=>by rw [z,na] at q;cases q
 have offD:∀ b u,H b=some u->b≠dx:=λb u q z=>by rw [z,nd0] at q;cases q
 have same:∀ b,b≠e->kB (upd H e (lF e C a0)) e C a0 dx f v b=upd H dx (.xd [(f,v)]) b:=λb z=>by
  by_cases hb:b=dx
  ·rw [hb,zX,ay]
  ·rw [zY hb z,aK hb,aK z]
 refine ⟨nd0,de,⟨λb o q n hf hx=>?_,λb o q n hf hx=>?_,λb o q n hx=>?_,λb o q hx=>un.there b o (k1 b o q) hx,λb xs q=>?_,λb u xs q=>?_,λb ps q=>⟨#[],?_⟩⟩,λb u q=>?_,?_⟩
 ·exact un.keep b o (k1 b o q) (by rw [aK (off b o q)];exact n) hf hx
 ·exact un.slot b o (k1 b o q) (by rw [aK (off b o q)];exact n) hf hx
 ·have z:=un.free b o (k1 b o q) (by rw [aK (off b o q)];exact n) hx
  rw [same b (off b o q)] at z
  exact z
 ·rw [aK (offD b _ q)];exact q
 ·rw [aK (offD b _ q)];exact q
 ·rw [Array.append_empty,aK (offD b _ q)];exact q
 ·have hb:b≠e:=λz=>by rw [z,aK (Ne.symm de),na] at q;cases q
  refine (hok b u (by rw [same b hb];exact q)).stay (λ_ _ _ z=>z) (λc z=>?_) λc xs z=>?_
  ·have hc:c≠e:=λy=>by rw [y,qx de] at z;cases z
   rw [same c hc] at z;exact z
  ·have hc:c≠e:=λy=>by rw [y,qx de] at z;cases z
   rw [same c hc] at z;exact z
 ·obtain ⟨q,_,_⟩:=(show ObjOk X.prog X.w _ s'.heap e (xj e C a0 dx) from hok e _ (qx de))
  exact q
theorem wU {E:XK} {u:Value} (kc:vK X.K C fI) (FI:FnOk X.prog X.w X.K X.mg X.base CX0 k fI fd ps (eO C f)) (hb:Binds X.K fd ps []) (hr:Room (k+1) X.A) (I:Inv X pins σ H s) (ru:RelV v u) (q:∀ dx,H dx=none->E (.ref C) (some dx) (upd H dx (.xd [(f,v)]))) :
  wpAny (model X.prog X.w) X.A (call (.ref C) [u]) (λr s'=>∃ e oe vs,r=.ref e/\s'.heap.get? e=some oe/\oe.cls=.ref C/\oe.data=.fields vs/\vs[1]?=some .none/\X.K.In s'.heap/\BI X.prog X.w X.stack H s E (.ref e) s') X.xe s:=by
 refine wk I.kIn kc (by rw [sizeLine_eq];simp) ?_
 have I2:Inv X pins σ H { s with heap:=kZ s.heap C [u] }:=I.kept (t':=s.toks) fC
 have hn:s.heap.get? (s.heap.objs.size+1)=none:=wg
 have na:H (s.heap.objs.size+1)=none:=I.hok.empty hn
 have he:(kZ s.heap C [u]).get? (s.heap.objs.size+1)=some (xD C s.heap.objs.size):=gW
 generalize s.heap.objs.size+1=e at hn na he ⊢
 have I3:Inv X pins σ (upd H e (lF e C (.ref s.heap.objs.size))) { s with heap:=kZ s.heap C [u] } :=
  Inv.track I I2 (Un.kept fC) hn na ⟨⟨_,_,he,⟨rfl,rfl⟩,rfl,rfl,rfl⟩,⟨_,he⟩,λg1 g2 ⟨o1,v1,e1,c1⟩ kk=>⟨o1,v1,kk o1 e1,c1⟩⟩
 have hq:eO C f [.ref e,v] (upd H e (lF e C (.ref s.heap.objs.size))) (λw H2=>∃ dx,upd H e (lF e C (.ref s.heap.objs.size)) dx=none/\w=.non/\H2=kB (upd H e (lF e C (.ref s.heap.objs.size))) e C (.ref s.heap.objs.size) dx f v) (λ_ _ _=>True) :=
  ⟨e,_,v,rfl,ay,λdx n=>⟨dx,n,rfl,rfl⟩⟩
 have hl:([Value.ref e,u]++[]).length=ps.length:=FI.len _ _ _ _ hq
 refine wpAny_call (codeAny_mono (FI.run _ X.stack _ _ ⟨[.ref e,u],[]⟩ [.ref e,u] _ _ (λ_ _ _=>True) (hr.make C [u] []) (I3.env0.make C [u] []) (hb _ [.ref e,u] I3.kIn hl) (show Vals [V.ref e,v] [Value.ref e,u] from .cons rfl (.cons ru .nil)) hq) λr s' hq'=>?_)
 cases r with
 | error _=>exact False.elim hq'
 | ok fl =>
  cases fl with
  | ret uu =>
   obtain ⟨_,_,os',bare',un',hok',rv,dx,nd,rfl,rfl⟩:=hq'
   obtain ⟨nd0,de,un2,hok2,oe,ws,hoe,hcl,hdt,hv1,hdx⟩:=qz I hn na nd fC un' hok'
   have I4:Inv X pins σ _ s':=I.call' (ch:=[]) os' un2 hok2 bare' (λb z=>absurd z (by simp))
   exact ⟨rv,e,oe,ws,rfl,hoe,hcl.1,hdt,hv1,I4.kIn,e,.ref C,_,some dx,_,rfl,os',bare',un2,hok2,⟨hn,by rw [aK (Ne.symm de)];exact na⟩,⟨oe,ws,hoe,hcl,hdt,hv1⟩,⟨oe,hoe,hdx⟩,q dx nd0⟩
  | _=>exact False.elim hq'
end
theorem cT {fI:Addr} {f:Str} {np cpos:Pos} {e₀:Expr} {ta:TA} (kc:vK X.K C fI)
  (FI:FnOk X.prog X.w X.K X.mg X.base CX0 k fI fd ps (eO C f)) (hb:Binds X.K fd ps []) (hr:Room (k+1) X.A) (ht:eR (BI X.prog X.w) X E) (hg:Gl X x) (hm:X.mg x=some (.ref C)) (ha:PA X [e₀] ta) (hcalm:X.calm=true:=by rfl)
  (he:starEach [e₀] X.env=(false,eval e₀ X.env)::starEach [] X.env:=by rfl) (hpl:(backTo cpos (starEach [] X.env)).any (·.1)=false:=by rfl) (hd:(x == ("__debug__":Str))=false:=by decide) :
  PS X (.Raise (some (.Call (.Name x np) [e₀] [] cpos)) none pos) (λ_ σ H=>ta σ H λvs H1=>∃ v,vs=[v]/\∀ dx,H1 dx=none->E (.ref C) (some dx) (upd H1 dx (.xd [(f,v)]))):=by
 intro pins s σ H D I h
 rw [arm_exec_Raise]
 refine wpAny_bind (wpAny_standAt (wH (K:=X.K) kc (I.ok.hd hcalm) ?_))
 refine wpAny_bind (wpAny_Call_Name_kw (gB I hg hm ?_ hd))
 refine PySem.W.callWith_K (h₀:=X.base) I.ok.mod.kin kc.kp (thn (ha cpos pins s σ H _ I h) λus s1 ⟨vs,H1,I1,r,v,hv,q⟩=>⟨I1.kIn,?_⟩) he hpl
 subst hv
 obtain ⟨u,rfl,ru⟩:=jl r
 refine thn (wU (E:=E) kc FI hb hr I1 ru q) λr s2 ⟨e,oe,ws,er,h1,h2,h3,h4,h5,h6⟩=>wpAny_bind (wpAny_standAt (wpAny_pure ?_))
 exact ⟨e,oe,ws,er,h1,h2,h3,h4,h5,ht pins σ H1 s1 _ _ I1 h6⟩
def DC (x D:Addr) (dx:Option Addr):HO:=.ext λh=>∃ oe vs,h.get? x=some oe/\oe.cls=.ref D/\oe.data=.fields vs/\oe.dict=dx
theorem AV {σ:St} {t tb:TE} {ds:List D} {lo hi:Nat} (h:RL K t σ H ds) (h1:RE K ta σ H (.int lo)) (h2:RE K tb σ H (.int hi)):RC K (tSl (Co K) t (jI ta) (jI tb)) σ H ((ds.drop lo).take (hi - lo)):=λH1 s Q q =>
 h H1 s _ λv H2 s2 q2=>h1 H2 (s.trans s2) _ λv3 H3 s3 q3=>⟨lo,q3.intE,h2 H3 (s.trans (s2.trans s3)) _ λv4 H4 s4 q4=>⟨hi,q4.intE,by
  obtain ⟨a,vs,rfl,hq,hds⟩:=(s3.trans s4).ld q2
  refine ⟨a,vs,rfl,hq.sqL,λp hp=>?_⟩
  rw [pf]
  exact q p _ _ ((s2.trans (s3.trans s4)).free hp) (s2.trans (s3.trans (s4.trans (aG hp _)))) ay ((aG hp _).dats (Dats.takeN (Dats.dropN hds)))⟩⟩
def uk (K:PySem.W.Frag) (f:Str) (R:List Ar->D->Prop) (B:List Ar->Addr->Int->Prop):Sp:=λvs H Q E =>
 ∃ as,Ars K H as vs/\((∃ d,R as d/\∀ v H',Same H H'->Dat K H' d v->Q v H')\/∃ C i,B as C i/\∀ H' dx,Same H H'->H' dx=some (.xd [(f,.int i)])->E (.ref C) (some dx) H')
section
variable {K:PySem.W.Frag} {σ:St} {H:Hp} {tA:TA} {ar:List Ar} {d:D} {f:Str} {es:List D} {R:List Ar->D->Prop} {RL:List Ar->List D->Prop} {B:List Ar->Addr->Int->Prop} {E:XK} {Q:VK} {C:Addr} {i:Int}
theorem oK (h:RB K tA σ H ar) (r:R ar d):RE K (fO (uk K f R B) [] E tA) σ H d:=λH1 s Q q =>
 h H1 s _ λvs H2 s2 q2=>⟨ar,by rw [List.append_nil];exact q2,.inl ⟨d,r,λv H3 s3 q3=>q _ _ (s2.trans s3) q3⟩⟩
theorem kR (h:RB K tA σ H ar) (r:B ar C i) (q:∀ H' dx,Same H H'->H' dx=some (.xd [(f,.int i)])->E (.ref C) (some dx) H'):fO (uk K f R B) [] E tA σ H Q :=
 h.use λvs H2 s2 q2=>⟨ar,by rw [List.append_nil];exact q2,.inr ⟨C,i,r,λH3 dx s3=>q _ dx (s2.trans s3)⟩⟩
end
end L2
namespace L2
open PySem PySem.Spec PySem.Calls PyProof.Rows
abbrev nz (t:Addr) (i:Int):Obj:={ cls:=.type "reversed",data:=.fields #[.ref t,rawInt i] }
theorem oh:Slot "reversed" "__init__" "object.__init__":=.of (owner:="object") (n:="__init__") (by rw [typeLookup_type,builtinLookup_eq_fast];kernel_rfl) (by decide +kernel) (by decide +kernel) (by decide +kernel) (by first | exact .inl (by decide +kernel) | exact .inr (by decide +kernel)) (by rw [isSubtype_type];kernel_rfl)
theorem sP:TypeCalled "reversed" "reversed.__new__" "object.__init__":=⟨by decide +kernel,by decide +kernel,⟨_,_,PySem.F.mro_reversed⟩,PySem.F.made_reversed,by decide +kernel,PySem.F.sub_reversed_self,oh⟩
theorem slot_rev_next:Slot "reversed" "__next__" "reversed.__next__":=.of (owner:="reversed") (n:="__next__") (by rw [typeLookup_type,builtinLookup_eq_fast];kernel_rfl) (by decide +kernel) (by decide +kernel) (by decide +kernel) (by first | exact .inl (by decide +kernel) | exact .inr (by decide +kernel)) (by rw [isSubtype_type];kernel_rfl)
theorem jH:Slot "reversed" "__iter__" "reversed.__iter__":=.of (owner:="reversed") (n:="__iter__") (by rw [typeLookup_type,builtinLookup_eq_fast];kernel_rfl) (by decide +kernel) (by decide +kernel) (by decide +kernel) (by first | exact .inl (by decide +kernel) | exact .inr (by decide +kernel)) (by rw [isSubtype_type];kernel_rfl)
theorem iW:entryFor table "reversed.__next__"=some Builtin.«reversed.__next__»:=entryFor_of_tree (by kernel_rfl)
theorem mx:entryFor table "reversed.__iter__"=some Builtin.«dict_keyiterator.__iter__»:=entryFor_alias (id':="dict_keyiterator.__iter__") (by kernel_rfl) (by first | rfl | decide +kernel | (unfold String.splitOn;simp +decide [String.splitOnAux])) (by decide +kernel) (by kernel_rfl)
theorem oH:Manifest.owners.lookup (String.ofList ['d','e','s','r','e','v','e','r'].reverse)=some Manifest.sig_reversed:=by kernel_rfl
theorem jC (a:Value):argsOk "reversed.__next__" ⟨[a],[]⟩:=by unfold argsOk;rw [signature?_of (id:="reversed.__next__") (n:=['_','_','t','x','e','n','_','_']) (o:=['d','e','s','r','e','v','e','r']) (by kernel_rfl) oH];kernel_rfl
theorem nL (a:Value):argsOk "reversed.__iter__" ⟨[a],[]⟩:=by unfold argsOk;rw [signature?_of (id:="reversed.__iter__") (n:=['_','_','r','e','t','i','_','_']) (o:=['d','e','s','r','e','v','e','r']) (by kernel_rfl) oH];kernel_rfl
theorem xf:typeLookup (.type "tuple") "__reversed__"=pure none:=by rw [typeLookup_type,builtinLookup_eq_fast];kernel_rfl
theorem uw:isSubtype (.type "tuple") (.type "dict")=pure false:=by rw [isSubtype_type];kernel_rfl
theorem lE:typeLookup (.type "tuple") "__getitem__"=pure (some (.builtin "tuple.__getitem__")):=by rw [typeLookup_type,builtinLookup_eq_fast];kernel_rfl
theorem zy (t:Addr) (items:Array Value) (n:Nat) (d2:Option Addr) (s2:Array (Option Value)) :
  Meets (Builtin.«reversed.__new__» ⟨[.type "reversed",.ref t],[]⟩) (λ_ R s=>s.heap.get? t=some { cls:=.type "tuple",dict:=d2,data:=.seq items n,slots:=s2 } /\
   (items.size:Int) < 2 ^ 63/\R (.ok (.ret (.ref s.heap.objs.size))) { s with heap:=s.heap.push (nz t ((items.size:Int) - 1)),toks:=s.toks+2 }) :=
 .of_wp λ_ _ _ _ s q=>by
  obtain ⟨h0,g0,d0,t0,o0⟩:=s
  obtain ⟨a1,fit,q⟩:=q
  have isT:Heap.IsTuple (Shared.heap ⟨h0,g0,d0,t0,o0⟩) t items:=⟨_,a1,rfl,n,rfl⟩
  have self1:=PySem.F.sub_reversed_self
  wp_walk
  show wpAny _ _ (typeLookup (.type "tuple") "__reversed__") _ _ _
  rw [xf]
  refine wpAny_pure ?_
  dsimp only
  wp_walk
  show wpAny _ _ (isSubtype (.type "tuple") (.type "dict")) _ _ _
  rw [uw]
  refine wpAny_pure ?_
  rw [if_neg (by decide)]
  wp_walk
  show wpAny _ _ (typeLookup (.type "tuple") "__getitem__") _ _ _
  rw [lE]
  refine wpAny_pure ?_
  dsimp only
  rw [if_pos (by decide +kernel)]
  refine wpAny_pure ?_
  rw [if_neg (by decide)]
  refine wpAny_bind ?_
  refine PyProof.Rows.len_tuple isT fit ?_
  wp_walk
  exact ⟨_,rfl,q⟩
variable {prog:Program} {w:World} {A:Around} {s:Shared} {items:Array Value}
theorem vS {E:Value->Shared->Prop} {t:Addr} {Q:Value->Shared->Prop} (a1:s.heap.IsTuple t items) (fit:(items.size:Int) < 2 ^ 63)
  (q:Q (.ref s.heap.objs.size) { s with heap:=s.heap.push (nz t ((items.size:Int) - 1)),toks:=s.toks+2 }):wpAny (model prog w) A (call (.type "reversed") [.ref t]) Q E s:=by
 obtain ⟨⟨c2,d2,dt2,s2⟩,a1,hc,n,hd⟩:=a1
 obtain rfl:c2=.type "tuple":=hc
 obtain rfl:dt2=.seq items n:=hd
 refine callType_new sP (by decide) (PySem.F.typeCall_reversed_1 _) (PySem.F.newCall_reversed_1 _) (λo=>PySem.F.args_object_init_2 o _) PySem.F.entry_reversed_new (zy t items n d2 s2) ⟨a1,fit,?_⟩
 show _/\_
 exact ⟨⟨_,Heap.get?_push_at rfl rfl,rfl⟩,q⟩
variable {i n:Nat}
theorem sx (h:i < n):seqIndex? (i:Int) n=some i:=(pD (by unfold ixN;rw [if_pos (by omega),if_pos (by omega)];rfl)).1
abbrev kS (h:Heap) (it t:Addr) (i:Int):Prop:=h.get? it=some (nz t i)
section
variable {prog:Program} {w:World} {A:Around} {E:Value->Shared->Prop} {s:Shared} {it t:Addr} {items:Array Value}
theorem ue {i:Nat} {x:Value} {Q:Option Value->Shared->Prop} (a1:kS s.heap it t i) (a2:s.heap.IsTuple t items) (fit:(items.size:Int) < 2 ^ 63) (hx:items[i]?=some x)
  (q:∀ h' tk,kS h' it t ((i:Int) - 1)->Heap.SameBut it s.heap h'->Q (some x) { s with heap:=h',toks:=tk }):wpAny (model prog w) A (pyNext (.ref it)) Q E s:=by
 have ty:s.TypeIs (.ref it) "reversed":=⟨_,a1,rfl⟩
 have lt:i < items.size:=(Array.getElem?_eq_some_iff.mp hx).1
 unfold pyNext
 refine wpAny_bind (wpAny_attempt (wpAny_callSpecial?_slot (name:=Str.ofString "__next__") ty slot_rev_next (wpAny_call_entry slot_rev_next ty iW ?_ (jC _))))
 obtain ⟨⟨c2,d2,dt2,s2⟩,b2,hc,n,hd⟩:=id a2
 obtain rfl:c2=.type "tuple":=hc
 obtain rfl:dt2=.seq items n:=hd
 obtain ⟨h0,g0,d0,t0,o0⟩:=s
 unfold kS nz rawInt at a1
 wp_walk
 show wpAny _ _ (typeLookup (.type "tuple") "__getitem__") _ _ _
 rw [lE]
 refine wpAny_pure ?_
 rw [if_neg (by decide)]
 refine wpAny_bind (wpAny_mkInt (wpAny_bind (wpAny_attempt ?_)))
 show wpAny _ _ (getItem (.ref t) (.int (i:Int) _)) _ _ _
 refine PyProof.Rows.getItem_tuple (j:=i) a2 (by omega) (by omega) (sx lt) hx ?_
 wp_walk
 exact ⟨x,rfl,wpAny_pure (q _ _ (Heap.get?_update_self _ a1 rfl) (Heap.SameBut.update ..))⟩
theorem ud {Q:Option Value->Shared->Prop} (hh:A.handled=none) (a1:kS s.heap it t (-1)) (q:∀ h',Heap.ExtBut it s.heap h'->Q none { s with heap:=h' }):wpAny (model prog w) A (pyNext (.ref it)) Q E s:=by
 have ty:s.TypeIs (.ref it) "reversed":=⟨_,a1,rfl⟩
 unfold pyNext
 refine wpAny_bind (wpAny_attempt (wpAny_callSpecial?_slot (name:=Str.ofString "__next__") ty slot_rev_next (wpAny_call_entry slot_rev_next ty iW ?_ (jC _))))
 obtain ⟨h0,g0,d0,t0,o0⟩:=s
 unfold kS nz rawInt at a1
 wp_walk
 refine wpAny_raiseNew_none hh ?_
 refine wpAny_bind (wpAny_isInstance (T:="StopIteration") (b:=true) ⟨_,Heap.get?_push_size _ rfl,rfl⟩ isSubtype_stop (wpAny_pure (q _ λb o hb e=>?_)))
 exact Heap.get?_push_of_some _ (Heap.get?_push_of_some _ ((Heap.get?_update_ne _ _ _ _ hb).trans ((Heap.get?_update_ne _ _ _ _ hb).trans e)))
theorem rX {i:Int} {Q:Value->Shared->Prop} (a1:kS s.heap it t i) (h:Q (.ref it) s):wpAny (model prog w) A (pyIter (.ref it)) Q E s:=by
 have ty:s.TypeIs (.ref it) "reversed":=⟨_,a1,rfl⟩
 refine wpAny_pyIter_slot ty jH (wpAny_call_entry jH ty mx ?_ (nL _))
 show wpAny _ _ (ret (.ref it)) _ _ s
 exact wpAny_pure ⟨_,rfl,"reversed",_,ty,slot_rev_next.lookup,h⟩
end
def Itw (K:PySem.W.Frag) (a:Addr) (xs:List V):It:=⟨λi H=>i < xs.length/\SqT K H a xs,λi H x H'=>H'=H/\xs[xs.length - 1 - i]?=some x,λi _=>i=xs.length⟩
variable {P:Program} {K:PySem.W.Frag} {tg:Expr}
theorem xh (a it:Addr) (xs:List V):kC P w K tg (Itw K a xs) [it] it (λi h=>kS h it a ((xs.length:Int) - 1 - (i:Int))) where
 mem:=by simp
 obj:=λi h st b hb=>by
  have e:b=it:=by simpa using hb
  subst e
  exact ⟨_,st,λv z=>by cases z⟩
 keep:=λi h h' st k=>k it (by simp) _ st
 item:=by
  intro X hP hw hK hc i pins s σ H E I hf st hg
  subst hP hw hK
  obtain ⟨hi,hq⟩:=hg
  obtain ⟨its,rv,p,hz⟩:=I.tuple hq
  obtain ⟨f0,f1,f2,f3,f4,f5⟩:=hf it (by simp)
  have lr:=rv.length
  have hx:xs[xs.length - 1 - i]?=some (xs[xs.length - 1 - i]'(by omega)):=List.getElem?_eq_getElem (by omega)
  obtain ⟨u,hu,ru⟩:=rv.get hx
  have e1:(xs.length:Int) - 1 - (i:Int)=((xs.length - 1 - i:Nat):Int):=by omega
  rw [e1] at st
  refine ue st p (by rw [List.size_toArray];rw [sizeLine_eq] at hz;omega) (x:=u) (by simpa using hu) λh' tk st' sb=>?_
  have e2:((xs.length - 1 - i:Nat):Int) - 1=(xs.length:Int) - 1 - ((i+1:Nat):Int):=by omega
  rw [e2] at st'
  have I1:Inv X pins σ H { s with heap:=h',toks:=tk }:=I.turned (t':=tk) (λb o hb e=>(sb.2 b hb).trans e) f0 f1 f3 f4 f5
  exact ⟨u,rfl,qQ (s:={ s with heap:=h',toks:=tk }) st' rfl rfl (by decide) ⟨_,H,I1,ru,⟨rfl,hx⟩,st',λb hb=>(hf b hb).1⟩⟩
 done:=by
  intro X hP hw hK hc i pins s σ H E I hf st hg
  subst hP hw hK
  obtain ⟨f0,f1,f2,f3,f4,f5⟩:=hf it (by simp)
  have hg':i=xs.length:=hg
  subst hg'
  have e1:(xs.length:Int) - 1 - (xs.length:Int)=-1:=by omega
  rw [e1] at st
  exact ud (I.ok.hd hc) st λh' eb=>⟨rfl,I.turned (t':=s.toks) (λb o hb e=>eb b o hb e) f0 f1 f3 f4 f5⟩
 self:=λA i s Q E st q=>rX st q
section
variable {X:Cx} {tg:Expr}
def C4 (K:PySem.W.Frag) (ta:TA):TI:=λσ H R=>ta σ H λvs H1=>∃ a xs,vs=[.ref a]/\SqT K H1 a xs/\R (Itw K a xs) H1
theorem AN {a:Expr} {ta:TA} {p pos:Pos} (hg:Gl X "reversed") (hm:X.mg "reversed"=none) (ha:PA X [a] ta) (hs:starEach [a] X.env=[(false,eval a X.env)]:=by rfl):PI X tg (.Call (.Name "reversed" p) [a] [] pos) (C4 X.K ta):=by
 intro pins s σ H R I h
 refine Call_ (kK I hg hm qG (PyProof.Rows.callWith_type1 (thn (ha pos pins s σ H _ I h) λus s1 ⟨vs,H1,I1,r1,q1⟩=>?_) hs rfl))
 obtain ⟨l,xs,e,hq,q⟩:=q1
 subst e
 obtain ⟨u,rfl,ru⟩:=jl r1
 cases ru
 obtain ⟨its,rv,pl,hz⟩:=I1.tuple hq
 have lr:=rv.length
 refine vS pl (by rw [List.size_toArray];rw [sizeLine_eq] at hz;omega) ?_
 have ez:((its.toArray.size:Nat):Int) - 1=(xs.length:Int) - 1 - ((0:Nat):Int):=by rw [List.size_toArray,lr];omega
 rw [ez]
 have st:kS (s1.heap.push (nz l ((xs.length:Int) - 1 - ((0:Nat):Int)))) s1.heap.objs.size l ((xs.length:Int) - 1 - ((0:Nat):Int)):=Heap.get?_push_size _ rfl
 refine rX (s:={ s1 with heap:=s1.heap.push (nz l ((xs.length:Int) - 1 - ((0:Nat):Int))),toks:=s1.toks+2 }) st ?_
 refine ⟨s1.heap.objs.size,[s1.heap.objs.size],_,_,H1,rfl,I1.kept (t':=s1.toks+2) λb o e=>Heap.get?_push_of_some _ e,xh l _ xs,st,λb hb=>?_,q⟩
 have e:b=s1.heap.objs.size:=by simpa using hb
 subst e
 exact I1.fpOk (Nat.le_refl _) (I1.hok.fresh (Nat.le_refl _))
end
variable {σ:St} {H:Hp}
theorem xX {a:Addr} {xs:List V} {g:TG} {tb:TS} {D:gM} (Pv:Nat->St->Hp->Prop) (h0:Pv 0 σ H) (hl:∀ i σ H,i≤xs.length->Pv i σ H->SqT K H a xs)
  (hs:∀ i x σ H,i < xs.length->xs[xs.length - 1 - i]?=some x->Pv i σ H->g x σ H λσ2 H2=>tb { D with nx:=Pv (i+1),ct:=Pv (i+1),bk:=D.nx } σ2 H2) (hd:∀ σ H,Pv xs.length σ H->D.nx σ H) :
  ∃ W:Nat->Nat->St->Hp->Prop,(∃ m,W 0 m σ H)/\∀ i m σ H,W i m σ H ->
   ((Itw K a xs).stop i H/\D.nx σ H)\/((Itw K a xs).go i H/\∃ N:St->Hp->Prop,(∀ σ' H',N σ' H'->∃ m',m' < m/\W (i+1) m' σ' H')/\∀ x H',(Itw K a xs).yld i H x H'->g x σ H' λσ2 H2=>tb { D with nx:=N,ct:=N,bk:=D.nx } σ2 H2):=by
 refine ⟨λi m σ H=>m=xs.length - i/\i≤xs.length/\Pv i σ H,⟨xs.length,by simp,Nat.zero_le _,h0⟩,?_⟩
 rintro i m σ H ⟨rfl,hi,p⟩
 have q:=hl i σ H hi p
 by_cases hlt:i < xs.length
 ·refine .inr ⟨⟨hlt,q⟩,Pv (i+1),λσ' H' p'=>⟨xs.length - (i+1),by omega,rfl,hlt,p'⟩,λx H' y=>?_⟩
  obtain ⟨e,y⟩:=y
  subst e
  exact hs i x σ _ hlt y p
 ·have e:i=xs.length:=by omega
  subst e
  exact .inl ⟨rfl,hd σ H p⟩
structure oX (X:Cx) (pins:List (Addr × Obj)) (σ:St) (H:Hp) (a:Addr) (cls:Value) (dx:Option Addr) (s:Shared):Prop where
 ok:X.Ok
 inv:Inv X pins σ H s
 ty:PySem.W.Looks (model X.prog X.w) s.heap (typeOf (.ref a)) cls
 na:H a=none
 again:∀ (A:Around) (Q:Unit->Shared->Prop) (E:Value->Shared->Prop),(∀ h',Inv X pins σ H { s with heap:=h' }->(∀ Dx,cls=.ref Dx->Inv X pins σ (upd H a (DC a Dx dx)) { s with heap:=h' }/\Inv X pins σ (upd H a (DD a Dx)) { s with heap:=h' })->Q () { s with heap:=h' })->wpAny (model X.prog X.w) A (setFlight (.ref a) none) Q E s
variable {X:Cx} {H1:Hp}
theorem Bs {pins pins':List (Addr × Obj)} {s1 s2:Shared} {E:XK} {e:Value} {xe E':Value->Shared->Prop} {R:Shared->Prop} (ok:X.Ok) (I1:Inv { X with pn:=X.pn++pins,xe:=xe } pins' σ H1 s1) (x1:CX2 X.prog X.w X.stack H1 s1 E e s2)
  (hR:∀ a cls dx H' s',e=.ref a->E cls dx H'->oX X pins σ H' a cls dx s'->R s') (hst:X.stack=X.env::X.outer:=by rfl) (hfr:X.env.frame=some X.env.locals:=by rfl) :
  wpAny (model X.prog X.w) X.A (noteFrame e X.env) (λ_ s₂=>wpAny (model X.prog X.w) X.A (setFlight e none) (λ_ s₃=>R s₃) E' s₂) E' s2:=by
 obtain ⟨a,T,cls,a0,dx,H',rfl,q,da,sa,na,J,fl,back⟩:=CX2.behind I1 x1
 have fr:X.A.frames=some (X.env::X.outer):=by rw [← hst];exact ok.frames
 refine wpAny_mono (gk (oR _ _) (wpAny_looks_onW (Q:=λ_ s4=>∃ h4,s4={ s2 with heap:=h4 }/\Heap.HeldW (PySem.W.hideAll s2.heap (a::T::frs X.stack)) (X.env::X.outer) a cls a0 X.env.locals h4/\s2.heap.UpToSlots h4) fr hfr (by rw [← hst];exact fl) λh4 held up4=>⟨h4,rfl,held,up4⟩))
  (λ_ s4 ⟨⟨h4,e4,held,up4⟩,kp4⟩=>?_) λ_ _ z=>z
 subst e4
 refine wpAny_mono (gk (ji _ _) (wpAny_landsW (Q:=λ_ s5=>∃ h5,s5={ s2 with heap:=h5 }/\Heap.FlyingW (PySem.W.hideAll s2.heap (a::T::frs X.stack)) (X.env::X.outer) a cls a0 h5/\h4.UpToSlots h5) held λh5 fl5 up5=>⟨h5,rfl,fl5,up5⟩))
  (λ_ s5 ⟨⟨h5,e5,fl5,up5⟩,kp5⟩=>?_) λ_ _ z=>z
 subst e5
 obtain ⟨T5,J5,t5,sT5,nT5,_⟩:=back h5 _ fl5 (up4.trans up5)
 have da5:DictAt h5 a dx:=(kp4.trans kp5).dictAt da t5
 have LT:PySem.W.Looks (model X.prog X.w) h5 (typeOf (.ref a)) cls:=by
  obtain ⟨oe,vs,oT,ts,he,⟨hc,_⟩,_⟩:=t5
  rw [← hc]
  exact (PySem.W.Looks.ld he).andThen .now
 refine hR a cls dx H' _ rfl q ⟨ok,J5.outTry ok,LT,na,λA Q E2 hQ=>?_⟩
 refine wpAny_mono (gk (ji _ _) (lands_againW (Q:=λ_ s6=>∃ h6,s6={ s2 with heap:=h6 }/\Heap.FlyingW (PySem.W.hideAll s2.heap (a::T::frs X.stack)) (X.env::X.outer) a cls a0 h6/\h5.UpToSlots h6) fl5 λh6 fl6 up6=>⟨h6,rfl,fl6,up6⟩))
  (λ_ s6 ⟨⟨h6,e6,fl6,up6⟩,kp6⟩=>?_) λ_ _ z=>z
 subst e6
 obtain ⟨T6,J6,t6,_,_,un6⟩:=back h6 _ fl6 ((up4.trans up5).trans up6)
 have da6:DictAt h6 a dx:=Kept.dictAt kp6 da5 t6
 refine hQ h6 (J6.outTry ok) λDx hD=>?_
 subst hD
 obtain ⟨oe,vs,oT,ts,he,⟨hc,_⟩,hdt,_⟩:=t6
 obtain ⟨oe2,he2,hdx⟩:=da6
 rw [he] at he2
 cases he2
 refine ⟨Inv.track (s:=s1) (H:=H1) (I1.outTry ok) (J6.outTry ok) un6 sa na ?_,Inv.track (s:=s1) (H:=H1) (I1.outTry ok) (J6.outTry ok) un6 sa na ?_⟩
 ·exact ⟨⟨oe,vs,he,hc,hdt,hdx⟩,⟨oe,he⟩,λh1 h2 ⟨o1,v1,e1,c1⟩ k=>⟨o1,v1,k o1 e1,c1⟩⟩
 ·exact ⟨⟨oe,he,hc⟩,⟨oe,he⟩,λh1 h2 ⟨o1,e1,c1⟩ k=>⟨o1,k o1 e1,c1⟩⟩
section
variable {X:Cx} {pins:List (Addr × Obj)} {σ:St} {H:Hp} {a:Addr} {cls C:Value} {dx:Option Addr} {s:Shared} {D:gM} {x n:Str} {i:Nat} {np hpos:Pos} {b₀:Stmt} {suite:List Stmt} {rest:List ExceptHandler} {th:TS} {b:Bool}
theorem uV (L:oX X pins σ H a cls dx s) (hg:Gl X x) (hm:X.mg x=some C) (hh:∀ e:Value,PSs (X.hand e) (b₀::suite) th) (hx:PySem.W.exmOne X.K cls C=some b)
  (h1:b=true->th D σ H) (h2:b=false->wpAny (model X.prog X.w) X.A (handleBy (.ref a) X.env rest) (SP X pins D) X.xe s) (hd:(x == ("__debug__":Str))=false:=by decide) :
  wpAny (model X.prog X.w) X.A (handleBy (.ref a) X.env (.ExceptHandler (some (.Name x np)) none (b₀::suite) hpos::rest)) (SP X pins D) X.xe s:=by
 refine wpAny_handleBy_cons (codeAny_handlers_test (gB (X:=X.hand (.ref a)) L.inv.hand hg hm ?_ hd)) (by intro q;cases q)
 refine (PySem.W.exm_one L.inv.kIn L.ty hx).here ?_
 cases b with
 | false=>exact h2 rfl
 | true =>
  refine codeAny_handlers_suite (L.again _ _ _ λh6 J6 _=>?_)
  refine wpAny_mono (hh (.ref a) pins _ σ H D J6.hand (h1 rfl)) (λf s3 hs=>?_) (λ_ _ z=>z.elim)
  cases f with
  | next=>obtain ⟨σ3,H3,I3,q3⟩:=hs;exact ⟨σ3,H3,I3.unhand L.ok,q3⟩
  | brk=>obtain ⟨σ3,H3,I3,q3⟩:=hs;exact ⟨σ3,H3,I3.unhand L.ok,q3⟩
  | cont=>obtain ⟨σ3,H3,I3,q3⟩:=hs;exact ⟨σ3,H3,I3.unhand L.ok,q3⟩
  | ret u=>obtain ⟨v,σ3,H3,I3,r3,q3⟩:=hs;exact ⟨v,σ3,H3,I3.unhand L.ok,r3,q3⟩
end
variable {body:List Stmt} {t:(St->XK)->TS} {hs:List ExceptHandler} {pos:Pos} {E:gM->St->XK}
theorem AS
  (hb:∀ (pn:List (Addr × Obj)) (xe:Value->Shared->Prop) (E:St->XK),hZ (CX2 X.prog X.w) { X with pn:=pn,xe:=xe } E->PSs { X with pn:=pn,xe:=xe } body (t E))
  (hand:∀ (pins:List (Addr × Obj)) (D:gM) (σ:St) (H:Hp) (a:Addr) (cls:Value) (dx:Option Addr) (s:Shared),oX X pins σ H a cls dx s->E D σ cls dx H->wpAny (model X.prog X.w) X.A (handleBy (.ref a) X.env hs) (SP X pins D) X.xe s)
  (hst:X.stack=X.env::X.outer:=by rfl) (hfr:X.env.frame=some X.env.locals:=by rfl) (hne:∃ h t,hs=h::t) :
  PS X (.Try body hs [] [] pos) (λD σ H=>t (E D) D σ H):=by
 intro pins s σ H D I h
 obtain ⟨h0,t0,rfl⟩:=hne
 refine wpAny_Try_except (wpAny_mono (hb (X.pn++pins) (λe s₁=>wpAny (model X.prog X.w) X.A (noteFrame e X.env) (λ_ s₂=>wpAny (model X.prog X.w) X.A (setFlight e none) (λ_ s₃ =>
  wpAny (model X.prog X.w) X.A (handleBy e X.env (h0::t0)) (SP X pins D) X.xe s₃) X.xe s₂) X.xe s₁) _ ?_ [] s σ H D I.inTry h) (λf s1 hf=>?_) λe s1 z=>z)
 ·intro pins' σ' H1 s1 e s2 I1 x1
  refine Bs I.ok I1 x1 (λa cls dx H' s' he q L=>?_) hst hfr
  subst he
  exact hand pins D σ' H' a cls dx s' L q
 ·cases f with
  | next=>obtain ⟨σ3,H3,I3,q3⟩:=hf;exact aF pins s1 σ3 H3 D (I3.outTry I.ok) q3
  | brk=>obtain ⟨σ3,H3,I3,q3⟩:=hf;exact ⟨σ3,H3,I3.outTry I.ok,q3⟩
  | cont=>obtain ⟨σ3,H3,I3,q3⟩:=hf;exact ⟨σ3,H3,I3.outTry I.ok,q3⟩
  | ret u=>obtain ⟨v,σ3,H3,I3,r3,q3⟩:=hf;exact ⟨v,σ3,H3,I3.outTry I.ok,r3,q3⟩
variable {th:TS} {x:Str} {C:Value} {hpos:Pos} {b₀:Stmt} {suite:List Stmt}
theorem AR {np:Pos}
  (hb:∀ (pn:List (Addr × Obj)) (xe:Value->Shared->Prop) (E:St->XK),hZ (CX2 X.prog X.w) { X with pn:=pn,xe:=xe } E->PSs { X with pn:=pn,xe:=xe } body (t E))
  (hg:Gl X x) (hm:X.mg x=some C) (hh:∀ e:Value,PSs (X.hand e) (b₀::suite) th)
  (hst:X.stack=X.env::X.outer:=by rfl) (hfr:X.env.frame=some X.env.locals:=by rfl) (hd:(x == ("__debug__":Str))=false:=by decide) :
  PS X (.Try body [.ExceptHandler (some (.Name x np)) none (b₀::suite) hpos] [] [] pos) (λD σ H=>t (λσ' cls _ H'=>PySem.W.exmOne X.K cls C=some true/\th D σ' H') D σ H) :=
 AS (E:=λD σ' cls _ H'=>PySem.W.exmOne X.K cls C=some true/\th D σ' H') hb (λ_ _ _ _ _ _ _ _ L q=>uV L hg hm hh q.1 (λ_=>q.2) (λz=>nomatch z) hd) hst hfr ⟨_,_,rfl⟩
variable {k:Nat} {ta:TE}
theorem wD {CX:CXT} {f C:Addr} {fd:FuncData} {ps:List Str} {sp:Sp} {dvs:List V} {ds:List Value} {E:St->XK} {m:Str} {apos:Pos} {o:Expr} {pl:Sem Bool} (he:PE X o ta) (c:Cls X.K C) (hm:nK X.K C m f) (F:FnOk X.prog X.w X.K X.mg X.base CX k f fd ps sp) (hr:Room k X.A) (hb:Binds X.K fd ps ds) (hd:Vals dvs ds) (hx:hZ CX X E)
  (ht:eval (.Call (.Attribute o m apos) [] [] pos) X.env=(do
   let ov ← eval o X.env
   standAt apos.atName
   let (f,first) ← holding [ov] (getMethod ov m pl)
   callWith pos f first (backTo pos (starEach [] X.env)) (backToKw pos (keywordEach [] X.env))):=by rfl) :
  PE X (.Call (.Attribute o m apos) [] [] pos) (λσ=>oU C m sp dvs (E σ) ta cu σ):=by
 intro pins s σ H Q I h
 refine PySem.W.methodCall_KW (pl:=pl) (thn (he pins s σ H _ I h) λu s1 ⟨x,H1,I1,rx,a,dx,fs,ex,ea,l,q⟩=>?_) ht
 subst ex
 obtain rfl:u=Value.ref a:=rx
 refine jO I1 ea c hm l ?_
 exact PySem.W.callWith_K0 (first:=[.ref a]) I1.kIn hm.kp (vE (us:=[.ref a]) (vs:=[.ref a]) F hr hb hd hx I1 (.cons rfl .nil) q)
abbrev kY (t:Addr):Obj:={ cls:=.type "list_iterator",data:=.fields #[.ref t,.int 0 0] }
theorem vV (t:Addr) (items:Array Value) (n:Nat) (d2:Option Addr) (s2:Array (Option Value)) :
  Meets (Builtin.«enumerate.__new__» ⟨[.type "enumerate",.ref t],[]⟩) (λ_ R s=>s.heap.get? t=some { cls:=.type "list",dict:=d2,data:=.seq items n,slots:=s2 } /\
   R (.ok (.ret (.ref (s.heap.push (kY t)).objs.size))) { s with heap:=(s.heap.push (kY t)).push (oC s.heap.objs.size) }) :=
 .of_wp λ_ _ _ _ s q=>by
  obtain ⟨h0,g0,d0,t0,o0⟩:=s
  obtain ⟨a1,q⟩:=q
  have isL:Heap.IsList (Shared.heap ⟨h0,g0,d0,t0,o0⟩) t items:=⟨_,a1,rfl,n,rfl⟩
  have self1:=sub_enumerate
  wp_walk
  refine wpAny_stack_any λrows=>?_
  refine wpAny_pure ?_
  split
  ·rename_i cl _ _ _ _ _
   cases (cl == Value.type "enumerate") <;> (wp_walk using wpAny_pyIter_list isL;exact ⟨_,rfl,q⟩)
  ·wp_walk using wpAny_pyIter_list isL
   exact ⟨_,rfl,q⟩
theorem sO {E:Value->Shared->Prop} {t:Addr} {Q:Value->Shared->Prop} (a1:s.heap.IsList t items)
  (q:Q (.ref (s.heap.objs.size+1)) { s with heap:=(s.heap.push (kY t)).push (oC s.heap.objs.size) }):wpAny (model prog w) A (call (.type "enumerate") [.ref t]) Q E s:=by
 obtain ⟨⟨c2,d2,dt2,s2⟩,a1,hc,n,hd⟩:=a1
 obtain rfl:c2=.type "list":=hc
 obtain rfl:dt2=.seq items n:=hd
 have sz:(s.heap.push (kY t)).objs.size=s.heap.objs.size+1:=Heap.size_push _ _
 refine callType_new PySem.F.called_enumerate (by decide) (PySem.F.typeCall_enumerate_1 _) (PySem.F.newCall_enumerate_1 _) (λo=>PySem.F.args_object_init_2 o _) PySem.F.entry_enumerate_new (vV t items n d2 s2) ⟨a1,?_⟩
 show _/\_
 rw [sz]
 refine ⟨⟨oC s.heap.objs.size,?_,rfl⟩,q⟩
 exact Heap.get?_push_at sz.symm rfl
def CW (K:PySem.W.Frag) (a:Addr) (xs:List V):It:=⟨λi H=>i < xs.length/\SqL K H a xs,λi H x H'=>∃ p y,H p=none/\x=.ref p/\xs[i]?=some y/\H'=upd H p (.tup [.int i,y]),λi H=>i=xs.length/\SqL K H a xs⟩
variable {elts:List Expr} {ps:Pos}
theorem ux {c1} (a e it:Addr) (xs:List V) (ne:e≠it):kC P w K (.Tuple elts c1 ps) (CW K a xs) [e,it] e (λi h=>a≠it/\a≠e/\∃ old,IsEnum h e it i old/\h.IsListIter it a i) where
 mem:=by simp
 obj:=λi h st b hb=>by
  obtain ⟨_,_,old,q1,q2⟩:=st
  rcases List.mem_cons.mp hb with z | z
  ·subst z;exact ⟨_,q1,λv z=>by cases z⟩
  ·have z:b=it:=by simpa using z
   subst z
   obtain ⟨o,e,c,d⟩:=q2
   exact ⟨o,e,λv z=>by rw [d] at z;cases z⟩
 keep:=λi h h' ⟨n1,n2,old,q1,q2⟩ k=>⟨n1,n2,old,k e (by simp) _ q1,q2.at λo z=>k it (by simp) o z⟩
 item:=by
  intro X hP hw hK hc i pins s σ H E I hf st hg
  subst hP hw hK
  obtain ⟨hi,hq⟩:=hg
  obtain ⟨nai,nae,old,q1,q2⟩:=st
  obtain ⟨its,rv,p,hz⟩:=I.list hq
  have hx:xs[i]?=some xs[i]:=List.getElem?_eq_getElem hi
  obtain ⟨u,hu,ru⟩:=rv.get hx
  have isT:s.heap.IsList a its.toArray:=p.isList
  have lr:=rv.length
  refine wpAny_pyNext_enum_itemD (Draws.list (A:=X.A.in1) (I.ok.hd hc) it a nai its.toArray) q1 ⟨q2,isT⟩ (by rw [List.size_toArray];omega) ne (by simp [ne,Ne.symm nae]) λy h' tk hy out st' tup sz kk=>⟨_,rfl,?_⟩
  have ey:y=u:=by
   have h1:its[i]?=some y:=by simpa using hy
   rw [hu] at h1
   exact (Option.some.inj h1).symm
  subst ey
  refine wpAny_letOwnedTupleGo_enum (s:={ s with heap:=h',toks:=tk+1 }) out λh2 e2 same=>?_
  have le:e < s.heap.objs.size:=Heap.lt_size q1
  have li:it < s.heap.objs.size:=let ⟨_,z,_⟩:=q2;Heap.lt_size z
  have tup2:h2.get? s.heap.objs.size=some { cls:=.type "tuple",data:=.seq #[.int i tk,y] }:=(same.2 _ (Nat.ne_of_gt le)).trans tup
  have I1:Inv X pins σ (upd H s.heap.objs.size (.tup [.int i,xs[i]])) { s with heap:=s.heap.push { cls:=.type "tuple",data:=.seq #[.int i tk,y] },toks:=s.toks } :=
   I.laid (o:=.tup [.int i,xs[i]]) (λb ob q=>Heap.get?_push_of_some _ q) (Nat.le_refl _) ⟨by rw [sizeLine_eq];simp,[.int i tk,y],.cons ⟨_,rfl⟩ (.cons ru .nil),IsTup.new _ _⟩
  have frees:∀ b,b < s.heap.objs.size->upd H s.heap.objs.size (.tup [.int i,xs[i]]) b=H b:=λb hb=>aK (Nat.ne_of_lt hb)
  have I2:Inv X pins σ (upd H s.heap.objs.size (.tup [.int i,xs[i]])) { s with heap:=h2,toks:=tk+1 }:=by
   refine Inv.turnedL (s:={ s with heap:=s.heap.push { cls:=.type "tuple",data:=.seq #[.int i tk,y] },toks:=s.toks }) (h':=h2) (its:=[e,it]) (t':=tk+1) I1 (λb o hb q=>?_) (λb hb=>?_)
   ·have h1:b≠e:=λz=>hb (by simp [z])
    have h3:b≠it:=λz=>hb (by simp [z])
    by_cases hbs:b=s.heap.objs.size
    ·subst hbs
     have q':(s.heap.push { cls:=.type "tuple",data:=.seq #[.int i tk,y] }).get? s.heap.objs.size=some o:=q
     rw [Heap.get?_push_at rfl rfl] at q'
     cases q'
     exact tup2
    ·have q':s.heap.get? b=some o:=by
      have lt:b < s.heap.objs.size:=by
       have l1:b < (s.heap.push { cls:=.type "tuple",data:=.seq #[.int i tk,y] }).objs.size:=Heap.lt_size q
       rw [Heap.size_push] at l1
       exact Nat.lt_of_le_of_ne (Nat.le_of_lt_succ l1) hbs
      exact (Heap.get?_push_ne _ _ _ hbs).symm.trans q
     exact (same.2 b h1).trans (kk b o h1 h3 q')
   ·have lb:b < s.heap.objs.size:=by
     rcases List.mem_cons.mp hb with z | z
     ·rw [z];exact le
     ·rw [show b=it by simpa using z];exact li
    obtain ⟨f0,f1,f2,f3,f4,f5⟩:=hf b hb
    exact ⟨by rw [frees b lb];exact f0,f1,f3,f4,f5⟩
  refine ⟨.ref s.heap.objs.size,_,I2,rfl,⟨_,_,I.hok.fresh (Nat.le_refl _),rfl,hx,rfl⟩,⟨nai,nae,y,?_,?_⟩,λb hb=>?_⟩
  ·have ec:((i+1:Nat):Int)=(i:Int)+1:=by omega
   rw [ec];exact e2
  ·exact st'.1.at λo z=>(same.2 it (Ne.symm ne)).trans z
  ·have lb:b < s.heap.objs.size:=by
    rcases List.mem_cons.mp hb with z | z
    ·rw [z];exact le
    ·rw [show b=it by simpa using z];exact li
   rw [frees b lb];exact (hf b hb).1
 done:=by
  intro X hP hw hK hc i pins s σ H E I hf st hg
  subst hP hw hK
  obtain ⟨hi,hq⟩:=hg
  obtain ⟨nai,nae,old,q1,q2⟩:=st
  obtain ⟨its,rv,p,hz⟩:=I.list hq
  have lr:=rv.length
  have isT:s.heap.IsList a its.toArray:=p.isList
  obtain ⟨f0,f1,f2,f3,f4,f5⟩:=hf it (by simp)
  refine wpAny_pyNext_enum_endD (Draws.list (A:=X.A.in1) (I.ok.hd hc) it a nai its.toArray) q1 (by rw [List.size_toArray,← lr,← hi];exact ⟨q2,isT⟩) λh' eb=>⟨rfl,?_⟩
  exact I.turned (t':=s.toks) (λb o hb q=>eb b o hb q) f0 f1 f3 f4 f5
 self:=λA i s Q E ⟨_,_,_,q1,_⟩ q=>wpAny_pyIter_enum q1 q
def yk (K:PySem.W.Frag) (ta:TA):TI:=λσ H R=>ta σ H λvs H1=>∃ a xs,vs=[.ref a]/\SqL K H1 a xs/\R (CW K a xs) H1
theorem yN {a:Expr} {ta:TA} {p:Pos} {c1} (hg:Gl X "enumerate") (hm:X.mg "enumerate"=none) (ha:PA X [a] ta) (hs:starEach [a] X.env=[(false,eval a X.env)]:=by rfl):PI X (.Tuple elts c1 ps) (.Call (.Name "enumerate" p) [a] [] pos) (yk X.K ta):=by
 intro pins s σ H R I h
 refine Call_ (kK I hg hm pb (PyProof.Rows.callWith_type1 (thn (ha pos pins s σ H _ I h) λus s1 ⟨vs,H1,I1,r1,q1⟩=>?_) hs rfl))
 obtain ⟨t,xs,ev,hq,q⟩:=q1
 subst ev
 obtain ⟨u,rfl,ru⟩:=jl r1
 cases ru
 obtain ⟨its,rv,pt,hz⟩:=I1.list hq
 have lt:t < s1.heap.objs.size:=let ⟨_,z,_⟩:=pt.isList;Heap.lt_size z
 refine sO pt.isList ?_
 have sz:(s1.heap.push (kY t)).objs.size=s1.heap.objs.size+1:=Heap.size_push _ _
 have q1:IsEnum ((s1.heap.push (kY t)).push (oC s1.heap.objs.size)) (s1.heap.objs.size+1) s1.heap.objs.size ((0:Nat):Int) .none:=Heap.get?_push_at sz.symm rfl
 have q2:((s1.heap.push (kY t)).push (oC s1.heap.objs.size)).IsListIter s1.heap.objs.size t 0:=⟨_,Heap.get?_push_of_some _ (Heap.get?_push_at rfl rfl),rfl,rfl⟩
 refine wpAny_pyIter_enum (s:={ s1 with heap:=(s1.heap.push (kY t)).push (oC s1.heap.objs.size) }) q1 ?_
 refine ⟨s1.heap.objs.size+1,[s1.heap.objs.size+1,s1.heap.objs.size],_,_,H1,rfl,I1.kept (t':=s1.toks) (λb o e=>Heap.get?_push_of_some _ (Heap.get?_push_of_some _ e)),ux t _ _ xs (Nat.ne_of_gt (Nat.lt_succ_self _)),⟨Nat.ne_of_lt lt,Nat.ne_of_lt (Nat.lt_succ_of_lt lt),.none,q1,q2⟩,λb hb=>?_,q⟩
 rcases List.mem_cons.mp hb with z | z
 ·subst z;exact I1.fpOk (Nat.le_succ _) (I1.hok.fresh (Nat.le_succ _))
 ·have z:b=s1.heap.objs.size:=by simpa using z
  subst z;exact I1.fpOk (Nat.le_refl _) (I1.hok.fresh (Nat.le_refl _))
variable {tl te:TE} {mk:St->St} {j:Nat} {cs:List D}
theorem zo (h:RL K tl σ H cs) (hc:cs.length≤1000) (es:List D) (hn:es.length=cs.length) (ne:i≠j)
  (h0:((mk σ).set i none).set j none=mk σ)
  (turn:∀ H1 (k:Nat) c e w,Same H H1->cs[k]?=some c->es[k]?=some e->Dat K H1 c w->RE K te (((mk σ).set i (some (.int k))).set j (some w)) H1 e) :
  RC K (fF (yk K (bf tl cu)) mk (pq K 2 (fK (bq i) (fK (bq j) sS))) dU te) σ H es:=λH1 s Q q=>by
 refine h H1 s _ λvs H2 s2 q2=>?_
 obtain ⟨a,us,e1,ha,da⟩:=q2
 subst e1
 have lu:=da.length
 refine ⟨a,us,rfl,ha.sqL,λl hl2=>?_⟩
 have s02:Same H H2:=s.trans s2
 refine ⟨λn m σ' G=>m=us.length - n/\n≤us.length/\(∃ z1 z2,σ'=((mk σ).set i z1).set j z2)/\Same H2 G/\∃ ys,G l=some (.lst ys)/\Dats K G (es.take n) ys,⟨us.length,by omega,Nat.zero_le _,⟨none,none,h0.symm⟩,aG hl2 _,[],ay,by rw [List.take_zero];exact Dats.nil⟩,?_⟩
 rintro n m σ' G ⟨rfl,hle,⟨z1,z2,rfl⟩,sG,ys,hy,dy⟩
 by_cases hlt:n < us.length
 ·refine .inr ⟨⟨hlt,(sG.aLst ha).sqL⟩,λσ'' G'=>(∃ z1 z2,σ''=((mk σ).set i z1).set j z2)/\Same H2 G'/\∃ ys,G' l=some (.lst ys)/\Dats K G' (es.take (n+1)) ys,λσ'' G' w=>⟨us.length - (n+1),by omega,rfl,hlt,w.1,w.2⟩,λx G' y=>?_⟩
  obtain ⟨p,w,hp,rfl,hw,rfl⟩:=y
  have sn:Same G (upd G p (.tup [.int n,w])):=aG hp _
  have s2n:=sG.trans sn
  obtain ⟨c,ec,hcv⟩:=da.getV hw
  have hne:n < es.length:=by omega
  refine ⟨p,[.int n,w],rfl,SqT.of ay,rfl,.int n,_,rfl,w,_,rfl,rfl,?_⟩
  simp only [dU,if_true]
  rw [Bf _ ne]
  refine RE.use (turn _ n c es[n] w (s02.trans s2n) ec (List.getElem?_eq_getElem hne) (s2n.dat hcv)) λv G4 s4 q4=>?_
  have hy4:=s4 _ _ (sn _ _ hy)
  have lys:ys.length=n:=by rw [← dy.length,List.length_take];omega
  refine ⟨ys,hy4,cE (by omega),⟨_,_,rfl⟩,λx o hx=>?_,ys++[v],ay,?_⟩
  ·rw [aK (bh hx hl2)]
   exact s4 _ _ (s2n _ _ hx)
  ·have g:dD K G4 (upd G4 l (.lst (ys++[v]))):=But.grow (t:=l) (But.upd (Same.refl G4).but) hy4 ay
   rw [List.take_add_one,List.getElem?_eq_getElem hne]
   exact Dats.append (Dats.mono g _ (s4.dats (sn.dats dy))) (Dats.cons (Dat.mono g _ q4) Dats.nil)
 ·have e:n=us.length:=by omega
  subst e
  refine .inl ⟨⟨rfl,(sG.aLst ha).sqL⟩,?_⟩
  rw [List.take_of_length_le (by omega)] at dy
  exact q l ys G (s2.free hl2) (s2.trans sG) hy dy
section
variable {elt t0 i0 t1 i1:Expr} {sc:Scope} {pos:Pos}
abbrev lc2 (elt t0 i0 t1 i1:Expr) (sc:Scope) (pos:Pos):Expr:=.ListComp elt [⟨t0,i0,[],0⟩,⟨t1,i1,[],0⟩] sc pos
theorem zN (it acc:Value) (env:Env):compTurn (lc2 elt t0 i0 t1 i1 sc pos) 0 it acc env=(standAt i0.pos >>= λ_=>pyNext it >>= λr=>match r with
  | none=>pure (.done .next)
  | some v=>letOwnedTupleGo t0 it v >>= λ_=>assign t0 env v >>= λ_=>eval i1 env >>= λx=>standAt i1.pos >>= λ_=>foldedSetIterable i1 env x >>= λy=>holding [y] (pyIter y) >>= λi =>
    runOwn (.compStart (lc2 elt t0 i0 t1 i1 sc pos) 1 i acc env) env >>= λ_=>again (.compLoop (lc2 elt t0 i0 t1 i1 sc pos) 0 it acc env)):=by rfl
theorem Bk (it acc:Value) (env:Env):compTurn (lc2 elt t0 i0 t1 i1 sc pos) 1 it acc env=(standAt i1.pos >>= λ_=>pyNext it >>= λr=>match r with
  | none=>pure (.done .next)
  | some v=>letOwnedTupleGo t1 it v >>= λ_=>assign t1 env v >>= λ_=>(eval elt env >>= λx=>call (.builtin "list.append") [acc,x] >>= λ_=>pure ()) >>= λ_=>again (.compLoop (lc2 elt t0 i0 t1 i1 sc pos) 1 it acc env)):=by rfl
variable {prog:Program} {w:World} {A:Around} {R:Result->Shared->Prop} {s:Shared} {it acc:Value} {env:Env}
theorem AA (J:Nat->Shared->Prop)
  (turn:∀ n s,J n s->wpAny (model prog w) A (pyNext it) (λr s₁=>match r with
   | none=>R (.ok .next) s₁
   | some v=>wpAny (model prog w) A (letOwnedTupleGo t1 it v) (λ_ s₂=>wpAny (model prog w) A (assign t1 env v) (λ_ s₃ =>
     wpAny (model prog w) A (eval elt env) (λx s₅=>wpAny (model prog w) A (call (.builtin "list.append") [acc,x]) (λ_ s₆=>∃ m,m < n/\J m s₆) (λ_ _=>False) s₅) (λ_ _=>False) s₃) (λ_ _=>False) s₂) (λ_ _=>False) s₁) (λ_ _=>False) s)
  (n:Nat) (h:J n s):codeAny (model prog w) A (.compLoop (lc2 elt t0 i0 t1 i1 sc pos) 1 it acc env) R s:=by
 refine codeAny_loop rfl J (λn s hJ=>?_) n h
 show wpAny (model prog w) A ((compTurn (lc2 elt t0 i0 t1 i1 sc pos) 1 it acc env).onRaise λx=>do noteFrame x env;theTreesLotGoes x) _ _ s
 refine wpAny_noted (wpAny_noRaise ?_)
 rw [Bk]
 refine wpAny_bind (wpAny_standAt (wpAny_bind (thn (turn n s hJ) λr s₁ h₁=>?_)))
 cases r with
 | none=>exact wpAny_pure h₁
 | some v=>exact wpAny_bind (thn h₁ λ_ s₂ h₂=>wpAny_bind (thn h₂ λ_ s₃ h₃=>wpAny_bind (wpAny_bind (thn h₃ λx s₅ h₅=>wpAny_bind (thn h₅ λ_ s₆ h₆=>wpAny_pure (wpAny_pure ⟨rfl,h₆⟩))))))
theorem yr (J:Nat->Shared->Prop)
  (turn:∀ n s,J n s->wpAny (model prog w) A (pyNext it) (λr s₁=>match r with
   | none=>R (.ok .next) s₁
   | some v=>wpAny (model prog w) A (letOwnedTupleGo t0 it v) (λ_ s₂=>wpAny (model prog w) A (assign t0 env v) (λ_ s₃ =>
     wpAny (model prog w) A (eval i1 env) (λx s₄=>wpAny (model prog w) A (pyIter x) (λi s₅=>codeAny (model prog w) A (.compStart (lc2 elt t0 i0 t1 i1 sc pos) 1 i acc env) (λr s₆=>r=.ok .next/\∃ m,m < n/\J m s₆) s₅) (λ_ _=>False) s₄) (λ_ _=>False) s₃) (λ_ _=>False) s₂) (λ_ _=>False) s₁) (λ_ _=>False) s)
  (n:Nat) (h:J n s) (hs:∀ x,foldedSetIterable i1 env x=pure x):codeAny (model prog w) A (.compLoop (lc2 elt t0 i0 t1 i1 sc pos) 0 it acc env) R s:=by
 refine codeAny_loop rfl J (λn s hJ=>?_) n h
 show wpAny (model prog w) A ((compTurn (lc2 elt t0 i0 t1 i1 sc pos) 0 it acc env).onRaise λx=>do noteFrame x env;theTreesLotGoes x) _ _ s
 refine wpAny_noted (wpAny_noRaise ?_)
 rw [zN]
 refine wpAny_bind (wpAny_standAt (wpAny_bind (thn (turn n s hJ) λr s₁ h₁=>?_)))
 cases r with
 | none=>exact wpAny_pure h₁
 | some v =>
  refine wpAny_bind (thn h₁ λ_ s₂ h₂=>wpAny_bind (thn h₂ λ_ s₃ h₃=>wpAny_bind (thn h₃ λx s₄ h₄=>?_)))
  refine wpAny_bind (wpAny_standAt (wpAny_bind (wpAny_of_eq (hs x) ?_)))
  refine wpAny_bind (wpAny_holding (thn h₄ λi s₅ h₅=>wpAny_bind (wpAny_runOwn (h:=none) (codeAny_mono h₅ λr s₆ h₆=>?_))))
  obtain ⟨rfl,h₆⟩:=h₆
  exact wpAny_pure ⟨rfl,h₆⟩
theorem zF (h0:codeAny (model prog w) A (.compLoop (lc2 elt t0 i0 t1 i1 sc pos) 1 it acc env) R s)
  (h:wpAny (model prog w) A (pyIter it) (λj s'=>codeAny (model prog w) A (.compLoop (lc2 elt t0 i0 t1 i1 sc pos) 1 j acc env) R s') (λ_ _=>False) s) :
  codeAny (model prog w) A (.compStart (lc2 elt t0 i0 t1 i1 sc pos) 1 it acc env) R s:=by
 refine codeAny_of_tree ?_
 show wpAny _ _ ((compStart (lc2 elt t0 i0 t1 i1 sc pos) 1 it acc env).onRaise λx=>do noteFrame x env;standAt theWindowsPlace) _ _ s
 refine wpAny_notedAt (wpAny_noRaise ?_)
 unfold compStart
 show wpAny _ _ (ask >>= _) _ _ s
 refine wpAny_bind (wpAny_askSetting (wpAny_ite ?_))
 split
 ·exact wpAny_pure ⟨rfl,h0⟩
 ·exact wpAny_bind (wpAny_rule (wpAny_bind (wpAny_standAt (wpAny_bind (thn h λj s' h'=>wpAny_pure ⟨rfl,h'⟩)))))
end
section
variable {X:Cx} {sc:Scope} {cl:List (Str × Addr)} {C:Addr} {N':List Str} {s0:Shared} {H0:Hp} {fp0:List Addr}
theorem wd {elt t0 i0 t1 i1:Expr} {sc':Scope} {pos:Pos} {pins:List (Addr × Obj)} {σ:St} {H:Hp} {s:Shared} {fp:List Addr} {it:Addr} {J:It} {tn:Nat->Heap->Prop} {g1:TG} {te:TE} {D:Addr} {Nx:St->Hp->Prop}
  (I:Inv (X.blk sc cl C N' s0 H0 fp0) pins σ H s) (hc:X.calm=true) (T:kC X.prog X.w X.K t1 J fp it tn) (st:tn 0 s.heap) (f2:∀ b ∈ fp,iK (X.blk sc cl C N' s0 H0 fp0) pins H b) (hg:PG (X.blk sc cl C N' s0 H0 fp0) t1 g1) (he:PE (X.blk sc cl C N' s0 H0 fp0) elt te)
  (hw:∃ V:Nat->Nat->St->Hp->Prop,(∃ m,V 0 m σ H)/\∀ i m σ' H',V i m σ' H'->(J.stop i H'/\Nx σ' H')\/(J.go i H'/\∃ Ny:St->Hp->Prop,(∀ σ'' H'',Ny σ'' H''->∃ m',m' < m/\V (i+1) m' σ'' H'') /\
   ∀ x H'',J.yld i H' x H''->g1 x σ' H'' λσ2 H2=>te σ2 H2 λv H4=>∃ ys,H4 D=some (.lst ys)/\ys.length < sizeLine/\Ny σ2 (upd H4 D (.lst (ys++[v]))))) :
  codeAny (model X.prog X.w) X.A (.compStart (lc2 elt t0 i0 t1 i1 sc' pos) 1 (.ref it) (.ref D) (compEnvC sc cl C X.env)) (λr s'=>r=.ok .next/\∃ σ' H',Inv (X.blk sc cl C N' s0 H0 fp0) pins σ' H' s'/\Nx σ' H') s:=by
 obtain ⟨V,⟨m0,v0⟩,turn⟩:=hw
 have gP:∀ {H':Hp},(∀ b ∈ fp,H' b=none)->∀ b ∈ fp,iK (X.blk sc cl C N' s0 H0 fp0) pins H' b:=λhn b hb=>⟨hn b hb,(f2 b hb).2⟩
 have loop:codeAny (model X.prog X.w) X.A (.compLoop (lc2 elt t0 i0 t1 i1 sc' pos) 1 (.ref it) (.ref D) (compEnvC sc cl C X.env)) (λr s'=>r=.ok .next/\∃ σ' H',Inv (X.blk sc cl C N' s0 H0 fp0) pins σ' H' s'/\Nx σ' H') s:=by
  refine AA (λn s'=>∃ i σ' H',Inv (X.blk sc cl C N' s0 H0 fp0) pins σ' H' s'/\tn i s'.heap/\(∀ b ∈ fp,H' b=none)/\V i n σ' H') ?_ m0 ⟨0,σ,H,I,st,λb hb=>(f2 b hb).1,v0⟩
  rintro n s3 ⟨i,σ3,H3,I3,st3,fr3,w3⟩
  rcases turn i n σ3 H3 w3 with ⟨stop,qn⟩ | ⟨go,Ny,hN,step⟩
  ·refine thn (T.done (X.blk sc cl C N' s0 H0 fp0) rfl rfl rfl hc i pins s3 σ3 H3 _ I3 (gP fr3) st3 stop) λr s4 ⟨hr,I4⟩=>?_
   subst hr
   exact ⟨rfl,σ3,H3,I4,qn⟩
  ·refine thn (T.item (X.blk sc cl C N' s0 H0 fp0) rfl rfl rfl hc i pins s3 σ3 H3 _ I3 (gP fr3) st3 go) λr s4 ⟨u,hr,h4⟩=>?_
   subst hr
   refine thn h4 λ_ s5 ⟨x,H5,I5,r5,y5,st5,fr5⟩=>?_
   have I5':=I5.pinned (gP fr5) (T.obj _ _ st5)
   refine thn (hg _ s5 σ3 H5 x u _ I5' r5 (step x H5 y5)) λ_ s6 ⟨σ6,H6,I6,q6⟩=>?_
   refine thn (he _ s6 σ6 H6 _ I6 q6) λy s8 ⟨v,H8,I8,rv,ys,hD8,hz,nx⟩=>?_
   refine thn (br (X:=(X.blk sc cl C N' s0 H0 fp0)) _ s8 σ6 H8 (.ref D) [v] (.ref D) [y] (λ_ H9=>Ny σ6 H9) I8 rfl (.cons rv .nil) ⟨_,ys,v,rfl,rfl,hD8,hz,nx⟩) λ_ s9 ⟨_,H9,I9,_,n9⟩=>?_
   obtain ⟨m',hm,w9⟩:=hN σ6 H9 n9
   refine ⟨m',hm,i+1,σ6,H9,I9.unpinned,T.keep _ _ _ st5 λb hb o e=>(I9.pin (b,o) (List.mem_append_right _ (List.mem_append_right _ (cS hb e)))).1,λb hb=>?_,w9⟩
   obtain ⟨o,e,d⟩:=T.obj _ _ st5 b hb
   exact (I9.pin (b,o) (List.mem_append_right _ (List.mem_append_right _ (cS hb e)))).2.1
 exact zF loop (T.self _ 0 _ _ _ st loop)
end
def zH (wi:TI) (mk:St->St) (g:TG) (w1:TI) (g1:TG) (te:TE):TE:=λσ H Q=>wi σ H λJ H1=>∀ D,H1 D=none->∃ W:Nat->Nat->St->Hp->Prop,(∃ m,W 0 m (mk σ) (upd H1 D (.lst [])))/\∀ i m σ' H',W i m σ' H' ->
 (J.stop i H'/\Q (.ref D) H') \/
 (J.go i H'/\∃ Nx:St->Hp->Prop,(∀ σ'' H'',Nx σ'' H''->∃ m',m' < m/\W (i+1) m' σ'' H'')/\∀ x H'',J.yld i H' x H''->g x σ' H'' λσ2 H2=>w1 σ2 H2 λJ1 H3=>∃ V:Nat->Nat->St->Hp->Prop,(∃ m,V 0 m σ2 H3)/\∀ j m σ4 H4,V j m σ4 H4->(J1.stop j H4/\Nx σ4 H4) \/
     (J1.go j H4/\∃ Ny:St->Hp->Prop,(∀ σ5 H5,Ny σ5 H5->∃ m',m' < m/\V (j+1) m' σ5 H5)/\∀ y H5,J1.yld j H4 y H5->g1 y σ4 H5 λσ6 H6=>te σ6 H6 λv H7=>∃ ys,H7 D=some (.lst ys)/\ys.length < sizeLine/\Ny σ6 (upd H7 D (.lst (ys++[v])))))
section
variable {X:Cx} {elt iter tg t1 i1:Expr} {sc:Scope} {pos:Pos} {wi w1:TI} {own:List Str} {fr:List Nat} {N':List Str} {g g1:TG} {te:TE}
theorem vT {pins:List (Addr × Obj)} {σ:St} {H:Hp} {s:Shared} {cl:List (Str × Addr)} {fp:List Addr} {it:Addr} {J:It} {tn:Nat->Heap->Prop} {E:Value->Shared->Prop} {Q:VK} {RR:Value->Addr->Result->Shared->Prop}
  (hs1:∀ (cl:List (Str × Addr)) (C:Addr) (x:Value),foldedSetIterable i1 (compEnvC sc cl C X.env) x=pure x) (I:Inv X pins σ H s) (B:Blk X.N X.env.kindOf sc.names own fr N') (hk:sc.kind=.function) (hc:X.calm=true)
  (sub:∀ x c,cl.lookup x=some c->X.env.cells.lookup x=some c) (has:∀ p ∈ sc.names,p.2=.free->cl.lookup p.1=X.env.cells.lookup p.1)
  (T:kC X.prog X.w X.K tg J fp it tn) (st:tn 0 s.heap) (f2:∀ b ∈ fp,iK X pins H b)
  (hg:∀ cl C s H fp,PG (X.blk sc cl C N' s H fp) tg g) (hI1:∀ cl C s H fp,PI (X.blk sc cl C N' s H fp) t1 i1 w1) (hg1:∀ cl C s H fp,PG (X.blk sc cl C N' s H fp) t1 g1) (he:∀ cl C s H fp,PE (X.blk sc cl C N' s H fp) elt te)
  (hw:∀ D,H D=none->∃ W:Nat->Nat->St->Hp->Prop,(∃ m,W 0 m (mkS own fr σ) (upd H D (.lst [])))/\∀ i m σ' H',W i m σ' H' ->
   (J.stop i H'/\Q (.ref D) H') \/
   (J.go i H'/\∃ Nx:St->Hp->Prop,(∀ σ'' H'',Nx σ'' H''->∃ m',m' < m/\W (i+1) m' σ'' H'')/\∀ x H'',J.yld i H' x H''->g x σ' H'' λσ2 H2=>w1 σ2 H2 λJ1 H3=>∃ V:Nat->Nat->St->Hp->Prop,(∃ m,V 0 m σ2 H3)/\∀ j m σ4 H4,V j m σ4 H4->(J1.stop j H4/\Nx σ4 H4) \/
     (J1.go j H4/\∃ Ny:St->Hp->Prop,(∀ σ5 H5,Ny σ5 H5->∃ m',m' < m/\V (j+1) m' σ5 H5)/\∀ y H5,J1.yld j H4 y H5->g1 y σ4 H5 λσ6 H6=>te σ6 H6 λv H7=>∃ ys,H7 D=some (.lst ys)/\ys.length < sizeLine/\Ny σ6 (upd H7 D (.lst (ys++[v]))))))
  (hRR:∀ D C σ' H' s',D=s.heap.objs.size->s.heap.objs.size≤C->Inv (X.blk sc cl C N' s H fp) [] σ' H' s'->Q (.ref D) H'->RR (.ref D) C (.ok .next) s') :
  wpAny (model X.prog X.w) X.A (newList []) (λacc s₃=>wpAny (model X.prog X.w) X.A (newFunctionEnv sc X.env.globals cl [] X.env.qual none .none (some X.env)) (λcenv s₄ =>
   codeAny (model X.prog X.w) X.A (.compStart (.ListComp elt [⟨tg,iter,[],0⟩,⟨t1,i1,[],0⟩] sc pos) 0 (.ref it) acc { cenv with scope:=relabel sc X.env }) (RR acc cenv.locals) s₄) E s₃) E s:=by
 have fo:∀ b ∈ fp,b < s.heap.objs.size:=λb hb=>by
  obtain ⟨o,e,_⟩:=T.obj _ _ st b hb
  exact Heap.lt_size e
 refine wpAny_newObj_type (wpAny_newFunctionEnv B.cell (by intro y hy;simp at hy) (λh₁ hns₁ hsb₁=>?_) hk)
 dsimp only at hns₁ hsb₁ ⊢
 generalize hH2:s.heap.push { cls:=.type "list",dict:=none,data:=.seq ([]:List Value).toArray }=G at hns₁ hsb₁ ⊢
 have hG:G.objs.size=s.heap.objs.size+1:=by rw [← hH2,Heap.size_push]
 have hlt:s.heap.objs.size < G.objs.size:=by rw [hG];exact Nat.lt_succ_self _
 have old:∀ b o,s.heap.get? b=some o->h₁.get? b=some o:=λb o e =>
  hsb₁.extBut b o (Nat.ne_of_lt (Nat.lt_trans (Heap.lt_size e) hlt)) (Heap.get?_push_of_some _ (hH2 ▸ Heap.get?_push_of_some _ e))
 have hacc:h₁.get? s.heap.objs.size=some { cls:=.type "list",data:=.seq ([]:List Value).toArray } :=
  hsb₁.extBut _ _ (Nat.ne_of_lt hlt) (Heap.get?_push_of_some _ (hH2 ▸ Heap.get?_push_size _ rfl))
 obtain ⟨W,⟨m0,w0⟩,turn⟩:=hw s.heap.objs.size (I.hok.fresh (Nat.le_refl _))
 have st₁:tn 0 h₁:=T.keep _ _ _ st λb _ o e=>old b o e
 have hns':h₁.Ns G.objs.size (λ_=>none):=by
  have e:(λx=>([]:List (Str × Value)).reverse.lookup x)=(λ_:Str=>(none:Option Value)):=by funext x;rfl
  first
   | exact hns₁
   | (rw [e] at hns₁;exact hns₁)
 have loop:∀ s₃:Shared,s₃={ s with heap:=h₁,toks:=s.toks+([]:List (Str × Value)).length } ->
   codeAny (model X.prog X.w) X.A (.compLoop (.ListComp elt [⟨tg,iter,[],0⟩,⟨t1,i1,[],0⟩] sc pos) 0 (.ref it) (.ref s.heap.objs.size) (compEnvC sc cl G.objs.size X.env)) (RR (.ref s.heap.objs.size) G.objs.size) s₃:=by
  rintro s₃ rfl
  have I0:=oz (tk:=s.toks+([]:List (Str × Value)).length) I B hk sub has f2 fo rfl hlt hns' old hacc
  have gP:∀ {pins':List (Addr × Obj)} {H':Hp},pins'=[]->(∀ b ∈ fp,H' b=none)->∀ b ∈ fp,iK (X.blk sc cl G.objs.size N' s H fp) pins' H' b:=λep hn b hb=>by
   subst ep
   refine ⟨hn b hb,Nat.ne_of_lt (Nat.lt_trans (fo b hb) hlt),λz=>?_,.inl hb,λx c e=>(f2 b hb).2.2.2.2.1 x c (sub x c e),λp hp=>absurd (show p ∈ ([]:List (Addr × Obj)) from hp) (by simp)⟩
   rcases List.mem_cons.mp (I.stkSub b z) with e | e
   ·exact (f2 b hb).2.1 e
   ·exact (f2 b hb).2.2.1 e
  have fr0:∀ b ∈ fp,upd H s.heap.objs.size (.lst []) b=none:=λb hb=>by
   rw [aK (Nat.ne_of_lt (fo b hb))];exact (f2 b hb).1
  refine yr (λn s'=>∃ i σ' H',Inv (X.blk sc cl G.objs.size N' s H fp) [] σ' H' s'/\tn i s'.heap/\(∀ b ∈ fp,H' b=none)/\W i n σ' H') ?_ m0 ⟨0,_,_,I0,st₁,fr0,w0⟩ (hs1 _ _)
  rintro n s3 ⟨i,σ3,H3,I3,st3,fr3,w3⟩
  rcases turn i n σ3 H3 w3 with ⟨stop,qn⟩ | ⟨go,Nx,hN,step⟩
  ·refine thn (T.done (X.blk sc cl G.objs.size N' s H fp) rfl rfl rfl hc i [] s3 σ3 H3 _ I3 (gP rfl fr3) st3 stop) λr s4 ⟨hr,I4⟩=>?_
   subst hr
   exact hRR _ _ _ _ _ rfl (Nat.le_of_lt hlt) I4 qn
  ·refine thn (T.item (X.blk sc cl G.objs.size N' s H fp) rfl rfl rfl hc i [] s3 σ3 H3 _ I3 (gP rfl fr3) st3 go) λr s4 ⟨u,hr,h4⟩=>?_
   subst hr
   refine thn h4 λ_ s5 ⟨x,H5,I5,r5,y5,st5,fr5⟩=>?_
   have I5':=I5.pinned (gP rfl fr5) (T.obj _ _ st5)
   refine thn (hg cl G.objs.size s H fp _ s5 σ3 H5 x u _ I5' r5 (step x H5 y5)) λ_ s6 ⟨σ6,H6,I6,q6⟩=>?_
   have again:∀ {s8:Shared} {σ8:St} {H8:Hp},Inv (X.blk sc cl G.objs.size N' s H fp) ([]++jV fp s5.heap) σ8 H8 s8->Nx σ8 H8 ->
     ∃ m,m < n/\∃ i σ' H',Inv (X.blk sc cl G.objs.size N' s H fp) [] σ' H' s8/\tn i s8.heap/\(∀ b ∈ fp,H' b=none)/\W i m σ' H':=λ{s8 σ8 H8} I8 n8=>by
    obtain ⟨m',hm,w8⟩:=hN σ8 H8 n8
    refine ⟨m',hm,i+1,σ8,H8,I8.unpinned,T.keep _ _ _ st5 λb hb o e=>(I8.pin (b,o) (List.mem_append_right _ (List.mem_append_right _ (cS hb e)))).1,λb hb=>?_,w8⟩
    obtain ⟨o,e,d⟩:=T.obj _ _ st5 b hb
    exact (I8.pin (b,o) (List.mem_append_right _ (List.mem_append_right _ (cS hb e)))).2.1
   refine thn (hI1 cl G.objs.size s H fp _ s6 σ6 H6 _ I6 q6) λx6 s7 h7=>thn h7 λitv s8 h8=>?_
   obtain ⟨it1,fp1,tn1,J1,H8,e8,I8,T1,st8,f8,body8⟩:=h8
   subst e8
   exact codeAny_mono (wd I8 hc T1 st8 f8 (hg1 cl G.objs.size s H fp) (he cl G.objs.size s H fp) body8) λr s9 ⟨hr,σ9,H9,I9,n9⟩=>⟨hr,again I9 n9⟩
 exact codeAny_compStart_list (loop _ rfl) (T.self _ 0 _ _ _ st₁ (loop _ rfl))
theorem rL {i:Nat} {y:Str} {py spos:Pos} (hi:PI X tg iter wi) (hk:sc.kind=.function) (hb:cR X.N X.env.kindOf sc.names own fr N'=true) (hc:X.calm=true)
  (hg:∀ cl C s H fp,PG (X.blk sc cl C N' s H fp) tg g) (hI1:∀ cl C s H fp,PI (X.blk sc cl C N' s H fp) t1 i1 w1) (hg1:∀ cl C s H fp,PG (X.blk sc cl C N' s H fp) t1 g1) (he:∀ cl C s H fp,PE (X.blk sc cl C N' s H fp) elt te)
  (hN:X.N.Nodup) (hy:X.N[i]?=some y) (hx:X.env.scope.names.lookup y=some .local)
  (hsw:swapsWith (.ListComp elt [⟨tg,iter,[],0⟩,⟨t1,i1,[],0⟩] sc pos) (some (.Name y py)) spos.line X.env=pure true)
  (hs:∀ x,foldedSetIterable iter X.env x=pure x:=by intro _;rfl) (hs1:∀ (cl:List (Str × Addr)) (C:Addr) (x:Value),foldedSetIterable i1 (compEnvC sc cl C X.env) x=pure x:=by intro _ _ _;rfl):PS X (.Assign [.Name y py] (.ListComp elt [⟨tg,iter,[],0⟩,⟨t1,i1,[],0⟩] sc pos) spos) (jY (zH wi (mkS own fr) g w1 g1 te) (bq i)):=by
 intro pins s σ H D I h
 have B:=sL hb
 obtain ⟨cl,hcl,sub,has⟩:=xO sc X.env λp hp e=>I.ok.has p.1 (B.free p hp e)
 rw [exec_Assign_Name_used _ _ _ _ hsw]
 refine wpAny_bind (wpAny_standAt (wpAny_bind ?_))
 show wpAny _ _ (do let _ ← comprehension (.ListComp elt [⟨tg,iter,[],0⟩,⟨t1,i1,[],0⟩] sc pos) sc X.env _ (newList []) false (eval iter X.env) (some (assign (.Name y py) X.env))) _ _ s
 refine wpAny_bind (wpAny_mono (wpAny_comprehension_free (use:=some (assign (.Name y py) X.env)) (Q:=λ_ s'=>SP X pins D .next s') rfl hs hcl hk B.loc
  (thn (hi pins s σ H _ I h) λv s1 h1=>thn h1 λitv s2 h2=>?_)) (λ_ s' hq=>wpAny_pure (wpAny_pure hq)) λ_ _ e=>e)
 obtain ⟨it,fp,tn,J,H2,e,I2,T,st2,f2,body⟩:=h2
 subst e
 refine vT (Q:=λv H'=>D.nx (σ.set i (some v)) H') (RR:=λacc C=>compPost (model X.prog X.w) X.A X.xe (some (assign (.Name y py) X.env)) (λ_ s'=>SP X pins D .next s') acc C) hs1 I2 B hk hc sub has T st2 f2 hg hI1 hg1 he body ?_
 intro D' C σ' H' s' eD hC J' q
 have I3:=o8 I2 f2 J'
 show wpAny _ _ (assign (.Name y py) X.env (.ref D')) _ _ s'
 refine wpAny_assign_Name (jv I3 hN hy (.inl hx) (v:=.ref D') rfl (λs4 I4 ⟨a,hsb,ha⟩=>?_) (.inr hx))
 obtain ⟨m,hn,_⟩:=J'.loc
 have hCa:C≠a:=by
  rcases ha with e | e
  ·rw [e];exact Nat.ne_of_gt (Nat.lt_of_lt_of_le I2.lt hC)
  ·obtain ⟨v,z⟩:=I2.cell _ _ e
   exact Nat.ne_of_gt (Nat.lt_of_lt_of_le z.lt hC)
 refine ⟨m,hn.sameBut hsb hCa,λh' hs'=>⟨_,H',?_,q⟩⟩
 exact Inv.young I2 I4 hC J'.free hs'
end
theorem yW
  (hb:∀ (pn:List (Addr × Obj)) (xe:Value->Shared->Prop) (E:St->XK),hZ (CX2 X.prog X.w) { X with pn:=pn,xe:=xe } E->PassesOwn (model X.prog X.w) X.A X.env xe->PSs { X with pn:=pn,xe:=xe } body (t E))
  (hand:∀ (pins:List (Addr × Obj)) (D:gM) (σ:St) (H:Hp) (a:Addr) (cls:Value) (dx:Option Addr) (s:Shared),oX X pins σ H a cls dx s->E D σ cls dx H->wpAny (model X.prog X.w) X.A (handleBy (.ref a) X.env hs) (SP X pins D) X.xe s)
  (hst:X.stack=X.env::X.outer:=by rfl) (hfr:X.env.frame=some X.env.locals:=by rfl) (hne:∃ h t,hs=h::t) :
  PS X (.Try body hs [] [] pos) (λD σ H=>t (E D) D σ H):=by
 intro pins s σ H D I h
 obtain ⟨h0,t0,rfl⟩:=hne
 refine wpAny_Try_except (wpAny_mono (hb (X.pn++pins) (λe s₁=>wpAny (model X.prog X.w) X.A (noteFrame e X.env) (λ_ s₂=>wpAny (model X.prog X.w) X.A (setFlight e none) (λ_ s₃ =>
  wpAny (model X.prog X.w) X.A (handleBy e X.env (h0::t0)) (SP X pins D) X.xe s₃) X.xe s₂) X.xe s₁) _ ?_ PassesOwn.looking [] s σ H D I.inTry h) (λf s1 hf=>?_) λe s1 z=>z)
 ·intro pins' σ' H1 s1 e s2 I1 x1
  refine Bs I.ok I1 x1 (λa cls dx H' s' he q L=>?_) hst hfr
  subst he
  exact hand pins D σ' H' a cls dx s' L q
 ·cases f with
  | next=>obtain ⟨σ3,H3,I3,q3⟩:=hf;exact aF pins s1 σ3 H3 D (I3.outTry I.ok) q3
  | brk=>obtain ⟨σ3,H3,I3,q3⟩:=hf;exact ⟨σ3,H3,I3.outTry I.ok,q3⟩
  | cont=>obtain ⟨σ3,H3,I3,q3⟩:=hf;exact ⟨σ3,H3,I3.outTry I.ok,q3⟩
  | ret u=>obtain ⟨v,σ3,H3,I3,r3,q3⟩:=hf;exact ⟨v,σ3,H3,I3.outTry I.ok,r3,q3⟩
theorem yV {np:Pos}
  (hb:∀ (pn:List (Addr × Obj)) (xe:Value->Shared->Prop) (E:St->XK),hZ (CX2 X.prog X.w) { X with pn:=pn,xe:=xe } E->PassesOwn (model X.prog X.w) X.A X.env xe->PSs { X with pn:=pn,xe:=xe } body (t E))
  (hg:Gl X x) (hm:X.mg x=some C) (hh:∀ e:Value,PSs (X.hand e) (b₀::suite) th)
  (hst:X.stack=X.env::X.outer:=by rfl) (hfr:X.env.frame=some X.env.locals:=by rfl) (hd:(x == ("__debug__":Str))=false:=by decide) :
  PS X (.Try body [.ExceptHandler (some (.Name x np)) none (b₀::suite) hpos] [] [] pos) (λD σ H=>t (λσ' cls _ H'=>PySem.W.exmOne X.K cls C=some true/\th D σ' H') D σ H) :=
 yW (E:=λD σ' cls _ H'=>PySem.W.exmOne X.K cls C=some true/\th D σ' H') hb (λ_ _ _ _ _ _ _ _ L q=>uV L hg hm hh q.1 (λ_=>q.2) (λz=>nomatch z) hd) hst hfr ⟨_,_,rfl⟩
section
variable {K:PySem.W.Frag} {tl te:TE} {mk:St->St} {i j kk:Nat} {σ:St} {H:Hp} {cs es:List D} {wv:V}
theorem Cv (f:D->D->D) (h:RL K tl σ H cs) (hw:LD K H es wv) (hk:(mk σ)[kk]?=some (some wv)) (hki:kk≠i) (hkj:kk≠j) (hij:i≠j) (hl:cs.length * es.length≤1000) (h0:(mk σ).set i none=mk σ) (h1:(mk σ).set j none=mk σ)
  (turn:∀ G c v e w,Same H G->c ∈ cs->e ∈ es->Dat K G c v->Dat K G e w->RE K te (((mk σ).set i (some v)).set j (some w)) G (f c e)) :
  RC K (zH (kX K tl) mk (bq i) (kX K (cx kk)) (bq j) te) σ H (cs.flatMap λc=>es.map (f c)):=λH1 s Q q=>by
 obtain ⟨lw,yw,rfl,hyw,hdw⟩:=hw
 have lenw:=hdw.length
 have S1:∀ z z' v,(((mk σ).set i z).set j z').set i v=((mk σ).set i v).set j z':=λz z' v=>by
  rw [List.set_comm _ _ hij.symm,List.set_set]
 have S2:∀ z z' v,(((mk σ).set i z).set j z').set j v=((mk σ).set i z).set j v:=λz z' v=>by rw [List.set_set]
 have S0:((mk σ).set i none).set j none=mk σ:=by rw [h0,h1]
 have SK:∀ z z',(((mk σ).set i z).set j z')[kk]?=some (some (.ref lw)):=λz z'=>by
  rw [List.getElem?_set_ne hkj.symm,List.getElem?_set_ne hki.symm];exact hk
 refine (h.mono s).use λv4 H4 s4 q4=>?_
 have q4':=q4
 obtain ⟨l4,ys4,rfl,hy4,hd4⟩:=q4
 have len4:=hd4.length
 have sH:=s.trans s4
 refine ⟨l4,rfl,⟨ys4,hy4.sqL⟩,λD hD=>?_⟩
 refine ⟨λn m σ' H'=>m=ys4.length - n/\n≤ys4.length/\(∃ z z',σ'=((mk σ).set i z).set j z')/\Same H4 H'/\∃ us,H' D=some (.lst us)/\Dats K H' ((cs.take n).flatMap λc=>es.map (f c)) us,
  ⟨_,rfl,Nat.zero_le _,⟨none,none,S0.symm⟩,aG hD _,[],ay,by rw [List.take_zero];exact Dats.nil⟩,?_⟩
 rintro n m σ' H' ⟨rfl,hn,⟨z,z',rfl⟩,sN,us,hus,dus⟩
 by_cases hlt:n < ys4.length
 ·have hlc:n < cs.length:=by omega
  obtain ⟨vz,ez,hz⟩:=hd4.get (List.getElem?_eq_getElem hlc)
  refine .inr ⟨⟨ys4,vz,sN.seq hy4.sqL,ez⟩,λσ'' H''=>(∃ z z',σ''=((mk σ).set i z).set j z')/\Same H4 H''/\∃ us,H'' D=some (.lst us)/\Dats K H'' ((cs.take (n+1)).flatMap λc=>es.map (f c)) us,λσ'' H'' ⟨a1,a2,a3⟩=>⟨ys4.length - (n+1),by omega,rfl,hlt,a1,a2,a3⟩,λx H'' yx=>?_⟩
  obtain ⟨e1,e2⟩:=yx
  subst e1
  have ex:=e2 ys4 (sN.seq hy4.sqL)
  rw [ez] at ex
  cases ex
  simp only [bq]
  rw [S1]
  refine ⟨_,SK _ _,lw,rfl,⟨yw,(sH.trans sN).seq hyw.sqL⟩,?_⟩
  refine ⟨λk m σ4 G=>m=yw.length - k/\k≤yw.length/\(∃ z',σ4=((mk σ).set i (some vz)).set j z')/\Same H4 G/\∃ us,G D=some (.lst us)/\Dats K G (((cs.take n).flatMap λc=>es.map (f c))++(es.take k).map (f cs[n])) us,
   ⟨_,rfl,Nat.zero_le _,⟨z',rfl⟩,sN,us,hus,by rw [List.take_zero,List.map_nil,List.append_nil];exact dus⟩,?_⟩
  rintro k m σ4 G ⟨rfl,hkn,⟨y',rfl⟩,sG,us4,hus4,dus4⟩
  have sHG:=sH.trans sG
  by_cases hlk:k < yw.length
  ·have hle:k < es.length:=by omega
   obtain ⟨wz,ew,hwz⟩:=(sHG.dats hdw).get (List.getElem?_eq_getElem hle)
   refine .inr ⟨⟨yw,wz,sHG.seq hyw.sqL,ew⟩,λσ'' H''=>(∃ z',σ''=((mk σ).set i (some vz)).set j z')/\Same H4 H''/\∃ us,H'' D=some (.lst us)/\Dats K H'' (((cs.take n).flatMap λc=>es.map (f c))++(es.take (k+1)).map (f cs[n])) us,λσ'' H'' ⟨a1,a2,a3⟩=>⟨yw.length - (k+1),by omega,rfl,hlk,a1,a2,a3⟩,λx G2 yx=>?_⟩
   obtain ⟨e1,e2⟩:=yx
   subst e1
   have ex:=e2 yw (sHG.seq hyw.sqL)
   rw [ew] at ex
   cases ex
   simp only [bq]
   rw [S2]
   refine (turn _ cs[n] vz es[k] wz sHG (List.getElem_mem hlc) (List.getElem_mem hle) (sG.dat hz) hwz).use λv5 G5 s5 q5=>?_
   have hus5:=s5 _ _ hus4
   have bb:But D G5 (upd G5 D (.lst (us4++[v5]))):=But.upd (Same.refl _).but
   have gr:dD K G5 (upd G5 D (.lst (us4++[v5]))):=bb.grow hus5 ay
   have lu:us4.length≤1000:=by
    rw [← dus4.length,List.length_append,List.length_map,List.length_flatMap,List.length_take]
    refine Nat.le_trans ?_ hl
    have e1:((cs.take n).map λc=>(es.map (f c)).length)=List.replicate n es.length:=by
     rw [show (λc=>(es.map (f c)).length)=λ_=>es.length from funext λc=>List.length_map _,List.map_const',List.length_take]
     rw [Nat.min_eq_left (by omega)]
    rw [e1,List.sum_replicate_nat]
    have h2:n * es.length+es.length≤cs.length * es.length:=by rw [← Nat.succ_mul];exact Nat.mul_le_mul_right _ hlc
    omega
   refine ⟨us4,hus5,cE lu,⟨some wz,rfl⟩,?_,us4++[v5],ay,?_⟩
   ·exact λa o ha=>bb a o (λz=>by rw [z,hD] at ha;cases ha) (s5 _ _ (sG _ _ ha))
   ·rw [List.take_succ,List.getElem?_eq_getElem hle,List.map_append,← List.append_assoc]
    exact Dats.append (Dats.mono gr _ (s5.dats dus4)) (Dats.cons (Dat.mono gr _ q5) Dats.nil)
  ·have e:k=yw.length:=by omega
   subst e
   refine .inl ⟨⟨yw,sHG.seq hyw.sqL,Nat.le_refl _⟩,⟨_,_,rfl⟩,sG,us4,hus4,?_⟩
   rw [← lenw,List.take_length] at dus4
   rw [List.take_succ,List.getElem?_eq_getElem hlc,List.flatMap_append]
   simp only [Option.toList,List.flatMap_cons,List.flatMap_nil,List.append_nil]
   exact dus4
 ·have e:n=ys4.length:=by omega
  subst e
  refine .inl ⟨⟨ys4,sN.seq hy4.sqL,Nat.le_refl _⟩,q D us H' (s4.free hD) (s4.trans sN) hus ?_⟩
  rw [← len4,List.take_length] at dus
  exact dus
end
section
variable {K:PySem.W.Frag} {σ:St} {H:Hp} {d:D} {ds:List D} {t ta tb:TE}
abbrev De (K:PySem.W.Frag):R2:=λx y H Q=>yX K x y H Q\/rQ K x y H Q
variable {k:Nat}
theorem nv (h1:RE K ta σ H (.tup ds)) (h2:RE K tb σ H (.int k)) (e:ds[k]?=some d):RE K (tOp (De K) ta tb) σ H d:=λH1 s Q q =>
 h1 H1 s _ λv H2 s2 q2=>h2 H2 (s.trans s2) _ λw H3 s3 q3=>by
  obtain ⟨a,vs,ev,hq,hd⟩:=(s3.dat q2).tupE
  obtain ⟨x,ex,hx⟩:=hd.get e
  exact .inr ⟨a,vs,k,x,ev,q3.intE,hq,gu ex,q _ _ (s2.trans s3) hx⟩
theorem ku (h1:RL K ta σ H ds) (h2:RE K tb σ H (.int k)) (e:ds[k]?=some d):RE K (tOp (De K) ta tb) σ H d:=λH1 s Q q =>
 h1 H1 s _ λv H2 s2 q2=>h2 H2 (s.trans s2) _ λw H3 s3 q3=>by
  obtain ⟨a,vs,ev,hq,hd⟩:=s3.ld q2
  obtain ⟨x,ex,hx⟩:=hd.get e
  exact .inl ⟨a,vs,k,x,ev,q3.intE,hq.sqL,gu ex,q _ _ (s2.trans s3) hx⟩
abbrev Dg (K:PySem.W.Frag):V->Option Int->Option Int->Hp->VK->Prop:=λx lo hi H Q=>Co K x lo hi H Q\/Cp K x lo hi H Q
variable {lo hi:Nat}
theorem vA (h:RE K t σ H (.tup ds)) (h1:RE K ta σ H (.int lo)) (h2:RE K tb σ H (.int hi)) (hl:1≤lo) (hd:0 < ds.length):RE K (tSl (Dg K) t (jI ta) (jI tb)) σ H (.tup ((ds.drop lo).take (hi - lo))):=λH1 s Q q =>
 h H1 s _ λv H2 s2 q2=>h1 H2 (s.trans s2) _ λv3 H3 s3 q3=>⟨lo,q3.intE,h2 H3 (s.trans (s2.trans s3)) _ λv4 H4 s4 q4=>⟨hi,q4.intE,by
  obtain ⟨a,vs,ev,hq,hds⟩:=((s3.trans s4).dat q2).tupE
  have ll:=hds.length
  refine .inr ⟨a,vs,ev,hq,λz=>?_,λp hp=>?_⟩
  ·rw [HT.sIx_nat] at z
   omega
  ·rw [pf]
   exact q _ _ (s2.trans (s3.trans (s4.trans (aG hp _)))) (Dat.tupI (SqT.of ay) ((aG hp _).dats (Dats.takeN (Dats.dropN hds))))⟩⟩
theorem vy (h:RL K t σ H ds) (h1:RE K ta σ H (.int lo)) (h2:RE K tb σ H (.int hi)):RC K (tSl (Dg K) t (jI ta) (jI tb)) σ H ((ds.drop lo).take (hi - lo)):=λH1 s Q q =>
 h H1 s _ λv H2 s2 q2=>h1 H2 (s.trans s2) _ λv3 H3 s3 q3=>⟨lo,q3.intE,h2 H3 (s.trans (s2.trans s3)) _ λv4 H4 s4 q4=>⟨hi,q4.intE,by
  obtain ⟨a,vs,rfl,hq,hds⟩:=(s3.trans s4).ld q2
  refine .inl ⟨a,vs,rfl,hq.sqL,λp hp=>?_⟩
  rw [pf]
  exact q p _ _ ((s2.trans (s3.trans s4)).free hp) (s2.trans (s3.trans (s4.trans (aG hp _)))) ay ((aG hp _).dats (Dats.takeN (Dats.dropN hds)))⟩⟩
end
variable {J:It} {item:Nat->V} {σ0:St} {Q:VK}
theorem rT
  (go:∀ i H',Same H1 H'->i < n->J.go i H'/\∀ x H'',J.yld i H' x H''->H''=H'/\x=item i) (stop:∀ H',Same H1 H'->J.stop n H') (h0:σ0.set j none=σ0) (ess:List (List D)) (hl:ess.length=n) (hn:n≤1000)
  (turn:∀ i es G,Same H1 G->ess[i]?=some es->RC K te (σ0.set j (some (item i))) G es) (fin:∀ l ys H',H1 l=none->Same H1 H'->H' l=some (.lst ys)->LDs K H' ess ys->Q (.ref l) H') (l:Addr) (hD:H1 l=none) :
  ∃ W:Nat->Nat->St->Hp->Prop,(∃ m,W 0 m σ0 (upd H1 l (.lst [])))/\∀ i m σ' H',W i m σ' H' ->
   (J.stop i H'/\Q (.ref l) H') \/
   (J.go i H'/\∃ Nx:St->Hp->Prop,(∀ σ'' H'',Nx σ'' H''->∃ m',m' < m/\W (i+1) m' σ'' H'')/\∀ x H'',J.yld i H' x H''->bq j x σ' H'' λσ2 H2=>dU σ2 H2 λb H3 =>
    if b=true then te σ2 H3 λv H4=>∃ ys,H4 l=some (.lst ys)/\ys.length < sizeLine/\Nx σ2 (upd H4 l (.lst (ys++[v]))) else Nx σ2 H3):=by
 refine ⟨λi m σ' G=>m=n - i/\i≤n/\(∃ z,σ'=σ0.set j z)/\Same H1 G/\∃ ys,G l=some (.lst ys)/\LDs K G (ess.take i) ys/\Off K G l ys,⟨n,by omega,Nat.zero_le _,⟨none,h0.symm⟩,aG hD _,[],ay,by rw [List.take_zero];exact .nil,λv hv=>by cases hv⟩,?_⟩
 rintro i m σ' G ⟨rfl,hle,⟨z,rfl⟩,sG,ys,hy,dy,off⟩
 by_cases hlt:i < n
 ·obtain ⟨g,y⟩:=go i G sG hlt
  refine .inr ⟨g,λσ'' G'=>(∃ z,σ''=σ0.set j z)/\Same H1 G'/\∃ ys,G' l=some (.lst ys)/\LDs K G' (ess.take (i+1)) ys/\Off K G' l ys,λσ'' G' w=>⟨n - (i+1),by omega,rfl,hlt,w.1,w.2⟩,λx G' yx=>?_⟩
  obtain ⟨e1,e2⟩:=y x G' yx
  subst e1 e2
  have hne:i < ess.length:=by omega
  simp only [bq,dU,if_true,List.set_set]
  refine RC.use (turn i ess[i] _ sG (List.getElem?_eq_getElem hne)) λr zs G4 hr s4 hz dz=>?_
  have hy4:=s4 _ _ hy
  have nrl:r≠l:=λz=>by rw [z,hy] at hr;cases hr
  have lys:ys.length=i:=by rw [← dy.length,List.length_take];omega
  refine ⟨ys,hy4,cE (by omega),⟨_,rfl⟩,λx o hx=>?_,ys++[.ref r],ay,?_,?_⟩
  ·rw [aK (bh hx hD)]
   exact s4 _ _ (sG _ _ hx)
  ·have bl:But l G4 (upd G4 l (.lst (ys++[.ref r]))):=But.upd (Same.refl G4).but
   have g:dD K G4 (upd G4 l (.lst (ys++[.ref r]))):=bl.grow hy4 ay
   rw [List.take_add_one,List.getElem?_eq_getElem hne]
   exact LDs.snoc (LDs.grown (s4.lds dy) off bl hy4 ay) (LD.of (bl _ _ nrl hz) (Dats.mono g _ dz))
  ·intro v hv
   rcases List.mem_append.mp hv with hv | hv
   ·exact off v hv
   ·rw [List.mem_singleton.mp hv]
    exact λz=>nrl (by injection z)
 ·have e:i=n:=by omega
  subst e
  refine .inl ⟨stop G sG,?_⟩
  rw [List.take_of_length_le (by omega)] at dy
  exact fin l ys G hD sG hy dy
section
variable {K:PySem.W.Frag} {σ:St} {H:Hp} {tA:TA} {tl te ta tb:TE} {tc:TT} {mk:St->St} {j n:Nat} {cs:List D}
theorem AX (h:RA K tA σ H [.int n]) (hc:n≤1000) (ess:List (List D)) (hl:ess.length=n) (h0:(mk σ).set j none=mk σ)
  (turn:∀ G (i:Nat) es,Same H G->ess[i]?=some es->RC K te ((mk σ).set j (some (.int i))) G es):RCL K (fF (uW tA) mk (bq j) dU te) σ H ess:=λH1 s Q q=>by
 refine h H1 s _ λvs H2 s2 q2=>?_
 obtain ⟨u,e,hu⟩:=fA q2
 have eu:=hu.intE
 subst eu e
 refine ⟨n,rfl,by omega,by omega,?_⟩
 rw [Int.toNat_natCast]
 exact rT (K:=K) (item:=λi=>.int i) (λi H' s hi=>sW i H' hi) (λH' s=>Nat.le_refl _) h0 ess hl hc (λi es G sG e=>turn G i es (s.trans (s2.trans sG)) e) (λl ys H' hl s'=>q l ys H' (s2.free hl) (s2.trans s'))
theorem je (h:RL K tl σ H cs) (hc:cs.length≤1000) (ess:List (List D)) (hl:ess.length=cs.length) (h0:(mk σ).set j none=mk σ)
  (turn:∀ G (i:Nat) c v es,Same H G->cs[i]?=some c->ess[i]?=some es->Dat K G c v->RC K te ((mk σ).set j (some v)) G es):RCL K (fF (kX K tl) mk (bq j) dU te) σ H ess:=λH1 s Q q=>by
 refine (h.mono s).use λv4 H4 s4 q4=>?_
 obtain ⟨l4,ys4,rfl,hy4,hd4⟩:=q4
 have ll:=hd4.length
 refine ⟨l4,rfl,⟨ys4,hy4.sqL⟩,?_⟩
 refine rT (K:=K) (n:=ys4.length) (item:=λi=>ys4.getD i .non) (λi H' s hi=>pw i H' (s.seq hy4.sqL) hi) (λH' s=>⟨ys4,s.seq hy4.sqL,Nat.le_refl _⟩) h0 ess (by omega) (by omega) (λi es G sG hi=>?_) (λl ys H5 hl5 s5=>q l ys H5 (s4.free hl5) (s4.trans s5))
 have hi':i < ess.length:=(List.getElem?_eq_some_iff.mp hi).1
 have hic:i < cs.length:=by omega
 obtain ⟨vz,ez,hz⟩:=hd4.get (List.getElem?_eq_getElem hic)
 rw [List.getD_eq_getElem?_getD,ez]
 exact turn G i cs[i] vz es (s.trans (s4.trans sG)) (List.getElem?_eq_getElem hic) hi (sG.dat hz)
end
variable {l:Expr}
theorem yO (hK:X.K=K) (hl:PE X l tl):PI X tg l (kX K tl):=by
 subst hK
 exact b0 hl
def Cx.blkC (X:Cx) (sc:Scope) (cl:List (Str × Addr)) (x0:Str) (c0:Addr) (C:Addr) (N:List Str) (s:Shared) (H:Hp) (fp:List Addr):Cx:={ X.blk sc ((x0,c0)::cl) C N s H fp with fn:=λx=>x == x0 }
structure xi (x0:Str) (N:List Str) (ok:Str->Option NameKind) (names:List (Str × NameKind)) (own:List Str) (fr:List Nat) (N':List Str):Prop where
 eN:N'=own++fr.map λj=>N.getD j ""
 fr:∀ j ∈ fr,j < N.length/\names.lookup (N.getD j "")=some .free
 free:∀ p ∈ names,p.2=.free->ok p.1=some .cell\/ok p.1=some .free
 cell:∀ p ∈ names,p.2=.cell->p.1=x0
 loc:∀ p ∈ names,p.2=.local->names.lookup p.1=some .local
section
variable {X:Cx} {pins:List (Addr × Obj)} {σ:St} {H:Hp} {s:Shared} {sc:Scope} {cl:List (Str × Addr)} {own:List Str} {fr:List Nat} {N':List Str} {fp:List Addr} {x0:Str} {c0:Addr}
variable {C:Addr}
theorem sJ (I:Inv X pins σ H s) (B:xi x0 X.N X.env.kindOf sc.names own fr N') (hk:sc.kind=.function)
  (sub:∀ x c,cl.lookup x=some c->X.env.cells.lookup x=some c) (has:∀ p ∈ sc.names,p.2=.free->cl.lookup p.1=X.env.cells.lookup p.1)
  (f2:∀ b ∈ fp,iK X pins H b) (fo:∀ b ∈ fp,b < s.heap.objs.size) {h1:Heap} {tk:Nat} {D:Addr} {n:Nat} (eD:D=s.heap.objs.size) (eC:s.heap.objs.size < C)
  (hx0:sc.names.lookup x0=some .cell) (lc0:s.heap.objs.size < c0) (hc0:h1.IsCell c0 none) (hns:h1.Ns C (λ_=>none)) (old:∀ b o,s.heap.get? b=some o->h1.get? b=some o) (hD:h1.get? D=some { cls:=.type "list",data:=.seq ([]:List Value).toArray n }) :
  Inv (X.blkC sc cl x0 c0 C N' s H fp) [] (mkS own fr σ) (upd H D (.lst [])) { s with heap:=h1,toks:=tk }:=by
 have hcells:∀ x c,cl.lookup x=some c->c < s.heap.objs.size:=λx c e=>by
  obtain ⟨v,q⟩:=I.cell x c (sub x c e)
  exact q.lt
 have look:∀ x,x≠x0->List.lookup x ((x0,c0)::cl)=cl.lookup x:=λx hx=>by
  rw [List.lookup_cons]
  have:(x == x0)=false:=by simpa using hx
  rw [this]
 have look0:List.lookup x0 ((x0,c0)::cl)=some c0:=by rw [List.lookup_cons];simp
 have cases':∀ x c,List.lookup x ((x0,c0)::cl)=some c->(x=x0/\c=c0)\/(x≠x0/\cl.lookup x=some c):=λx c e=>by
  by_cases hx:x=x0
  ·subst hx;rw [look0] at e;exact .inl ⟨rfl,(Option.some.inj e).symm⟩
  ·rw [look x hx] at e;exact .inr ⟨hx,e⟩
 have hDn:H D=none:=I.hok.fresh (Nat.le_of_eq eD.symm)
 have kind:∀ x,(X.blkC sc cl x0 c0 C N' s H fp).env.kindOf x=(sc.names.lookup x).map (rk X.env x):=λx=>kv sc X.env x
 refine ⟨⟨I.ok.mod,hk,I.ok.glob,I.ok.blt,Nat.le_of_lt eC,λx y c e1 e2=>?_,λx hx=>?_,(λx c e1 e2=>?_),I.ok.hd,I.ok.frames,.inl rfl,λb hb=>⟨?_,λx c e=>?_⟩,I.bs,Nat.le_trans I.ok.bsz I.sz,λb o e hb=>?_,λb hb=>?_,I.stack,I.stkFree⟩,
  rfl,I.bare,Un.laid old (Nat.le_of_eq eD.symm) hDn,⟨_,hns,λi x v e1 e2 e3=>?_⟩,λx c e=>?_,?_,λx c e=>?_,λp hp=>?_,I.hok.laid old (Nat.le_of_eq eD.symm) ⟨Nat.zero_le _,[],n,.nil,hD⟩,?_⟩
 ·rcases cases' x c e1 with ⟨a1,a2⟩ | ⟨a1,a2⟩ <;> rcases cases' y c e2 with ⟨b1,b2⟩ | ⟨b1,b2⟩
  ·rw [a1,b1]
  ·exact absurd (Nat.lt_trans (hcells y c b2) (by rw [a2];exact lc0)) (Nat.lt_irrefl _)
  ·exact absurd (Nat.lt_trans (hcells x c a2) (by rw [b2];exact lc0)) (Nat.lt_irrefl _)
  ·exact I.ok.inj x y c (sub x c a2) (sub y c b2)
 ·have hx':(sc.names.lookup x).map (rk X.env x)=some .cell\/(sc.names.lookup x).map (rk X.env x)=some .free:=by
   rw [← kind x];exact hx
  cases q:sc.names.lookup x with
  | none=>rw [q] at hx';simp at hx'
  | some k =>
   have hm:=PySem.mem_of_lookup q
   by_cases hf:k=.free
   ·subst hf
    show ∃ c,List.lookup x ((x0,c0)::cl)=some c
    rw [look x (λz=>by rw [z,hx0] at q;cases q),has _ hm rfl]
    have z:=B.free _ hm rfl
    exact I.ok.has x z
   ·rw [q] at hx'
    simp only [Option.map_some,zz hf] at hx'
    rcases hx' with z | z
    ·have:=B.cell _ hm (Option.some.inj z)
     exact ⟨c0,by rw [show x=x0 from this];exact look0⟩
    ·exact absurd (Option.some.inj z) hf
 ·rcases cases' x c e2 with ⟨a1,a2⟩ | ⟨a1,a2⟩
  ·rw [a2];show s.heap.objs.size≤c0;omega
  ·have e1:(x == x0)=true:=e1
   exact absurd (by simpa using e1) a1
 ·exact Nat.ne_of_lt (Nat.lt_trans (fo b hb) eC)
 ·rcases cases' x c e with ⟨a1,a2⟩ | ⟨a1,a2⟩
  ·rw [a2];exact Nat.ne_of_gt (Nat.lt_trans (fo b hb) lc0)
  ·exact (f2 b hb).2.2.2.2.1 x c (sub x c a2)
 ·rcases (f2 b hb).2.2.2.1 with z | z
  ·exact I.ok.noex b o e z
  ·exact absurd (Nat.lt_of_lt_of_le (Heap.lt_size e) (Nat.le_trans I.ok.bsz z)) (Nat.lt_irrefl _)
 ·intro z
  rcases List.mem_cons.mp (I.stkSub b z) with e | e
  ·exact (f2 b hb).2.1 e
  ·exact (f2 b hb).2.2.1 e
 ·
  have e1':N'[i]?=some x:=e1
  have hi:¬ i < own.length:=λz=>by
   unfold mkS at e2
   rw [List.getElem?_append_left (by simpa using z),List.getElem?_map,List.getElem?_eq_getElem z] at e2
   cases e2
  unfold mkS at e2
  rw [List.getElem?_append_right (by simpa using hi),List.length_map,List.getElem?_map] at e2
  rw [B.eN,List.getElem?_append_right (by simpa using hi),List.getElem?_map] at e1'
  cases q:fr[i - own.length]? with
  | none=>rw [q] at e2;cases e2
  | some j =>
   rw [q] at e2 e1'
   simp only [Option.map_some,Option.some.injEq] at e2 e1'
   obtain ⟨hj,hfr⟩:=B.fr j (List.mem_of_getElem? q)
   have ej:X.N[j]?=some x:=by
    rw [← e1',List.getD_eq_getElem?_getD,List.getElem?_eq_getElem hj];rfl
   have eσ:σ[j]?=some (some v):=by
    cases z:σ[j]? with
    | none=>rw [z] at e2;cases e2
    | some o=>rw [z] at e2;simp only [Option.getD_some] at e2;rw [e2]
   rw [e1'] at hfr
   have hm:=PySem.mem_of_lookup hfr
   have hok:=B.free _ hm rfl
   obtain ⟨m0,hn0,hl0⟩:=I.loc
   have hv:Vis X.env.scope x:=by
    rcases hok with z | z
    ·exact .inr (.inl z)
    ·exact .inr (.inr z)
   obtain ⟨u,r,l⟩:=hl0 j x v ej eσ hv
   refine ⟨u,r,?_⟩
   rcases l with ⟨z,_⟩ | ⟨_,c,hc,o,ho,hd⟩
   ·have hok':X.env.kindOf x=some .cell\/X.env.kindOf x=some .free:=hok
    rw [z] at hok'
    rcases hok' with y | y <;> cases y
   ·refine .inr ⟨?_,c,?_,o,old c o ho,hd⟩
    ·rw [kind x,hfr]
     rcases vD (env:=X.env) (x:=x) with y | y
     ·exact .inl (by rw [Option.map_some,y])
     ·exact .inr (by rw [Option.map_some,y])
    ·show List.lookup x ((x0,c0)::cl)=some c
     rw [look x (λz=>by rw [z,hx0] at hfr;cases hfr)]
     have z:=has _ hm rfl
     exact z.trans hc
 ·rcases cases' x c e with ⟨a1,a2⟩ | ⟨a1,a2⟩
  ·rw [a2];exact ⟨none,hc0⟩
  ·obtain ⟨v,o,ho,hd⟩:=I.cell x c (sub x c a2)
   exact ⟨v,o,old c o ho,hd⟩
 ·show upd H D _ C=none
  rw [aK (by rw [eD];exact Nat.ne_of_gt eC)]
  exact I.hok.fresh (Nat.le_of_lt eC)
 ·show upd H D _ c=none
  rcases cases' x c e with ⟨a1,a2⟩ | ⟨a1,a2⟩
  ·rw [a2,aK (by rw [eD];exact Nat.ne_of_gt (by omega))]
   exact I.hok.fresh (by omega)
  ·rw [aK (by rw [eD];exact Nat.ne_of_lt (hcells x c a2))]
   exact I.freeC x c (sub x c a2)
 ·exact absurd (show p ∈ ([]:List (Addr × Obj)) from hp) (by simp)
 ·show (mkS own fr σ).length=N'.length
  rw [B.eN]
  simp [mkS]
theorem qF {σ':St} {H':Hp} {s':Shared} (I:Inv X pins σ H s) (f2:∀ b ∈ fp,iK X pins H b) (J:Inv (X.blkC sc cl x0 c0 C N' s H fp) [] σ' H' s'):Inv X pins σ H' s' :=
 I.call' (ch:=fp) J.os J.base J.hok J.bare λb hb=>⟨(f2 b hb).2.2.2.1,(f2 b hb).2.1,(f2 b hb).2.2.2.2.1,(f2 b hb).2.2.2.2.2⟩
end
variable {x0:Str}
theorem qX {M:Model} {E:Value->Shared->Prop} {scope:Scope} {globals:Addr} {closure:List (Str × Addr)} {qual:Str} {env:Env} {Q:Env->Shared->Prop} (hcf:∀ n acc,cellsFrom n scope.names acc=(x0,n)::acc) (hpc:∀ h,pushCells h scope.names=h.push { cls:=.type "cell",data:=.cell none }) (hk:scope.kind=.function)
  (hQ:Q { scope,locals:=s.heap.objs.size,globals,cells:=(x0,s.heap.objs.size+1)::closure,qual,func:=none,code:=env.code,frame:=env.frame,builtins:=env.builtins } { s with heap:=(s.heap.push { cls:=.type "dict",data:=.dict #[] }).push { cls:=.type "cell",data:=.cell none } }) :
  wpAny M A (newFunctionEnv scope globals closure [] qual none .none (some env)) Q E s:=by
 simp only [newFunctionEnv,Option.isSome_some,if_true]
 refine wpAny_bind (wpAny_alloc ?_)
 refine wpAny_bind (wpAny_layCells _ (λname kind cells=>by cases hkc:kind == NameKind.cell <;> simp [hkc]) _ _ _ _ ?_)
 rw [hcf,hpc]
 rw [show ({ s with heap:=s.heap.push { cls:=.type "dict",data:=.dict #[] } }:Shared).heap.objs.size=s.heap.objs.size+1 from Heap.size_push ..]
 exact wpAny_bind (wpAny_pure (wpAny_pure hQ))
section
variable {X:Cx} {elt iter tg:Expr} {ifs:List Expr} {sc:Scope} {pos:Pos} {wi:TI} {own:List Str} {fr:List Nat} {N':List Str} {g:TG} {tt:TT} {te:TE} {x0:Str}
theorem oB {pins:List (Addr × Obj)} {σ:St} {H:Hp} {s:Shared} {cl:List (Str × Addr)} {fp:List Addr} {it:Addr} {J:It} {tn:Nat->Heap->Prop} {E:Value->Shared->Prop} {Q:VK} {RR:Value->Addr->Result->Shared->Prop}
  (I:Inv X pins σ H s) (B:xi x0 X.N X.env.kindOf sc.names own fr N') (hk:sc.kind=.function) (hc:X.calm=true) (hx0:sc.names.lookup x0=some .cell) (hcf:∀ n acc,cellsFrom n sc.names acc=(x0,n)::acc) (hpc:∀ h,pushCells h sc.names=h.push { cls:=.type "cell",data:=.cell none })
  (sub:∀ x c,cl.lookup x=some c->X.env.cells.lookup x=some c) (has:∀ p ∈ sc.names,p.2=.free->cl.lookup p.1=X.env.cells.lookup p.1)
  (T:kC X.prog X.w X.K tg J fp it tn) (st:tn 0 s.heap) (f2:∀ b ∈ fp,iK X pins H b)
  (hg:∀ cl c0 C s H fp,PG (X.blkC sc cl x0 c0 C N' s H fp) tg g) (ht:∀ cl c0 C s H fp,qy (X.blkC sc cl x0 c0 C N' s H fp) ifs tt) (he:∀ cl c0 C s H fp,PE (X.blkC sc cl x0 c0 C N' s H fp) elt te)
  (hw:∀ D,H D=none->∃ W:Nat->Nat->St->Hp->Prop,(∃ m,W 0 m (mkS own fr σ) (upd H D (.lst [])))/\∀ i m σ' H',W i m σ' H' ->
   (J.stop i H'/\Q (.ref D) H') \/
   (J.go i H'/\∃ Nx:St->Hp->Prop,(∀ σ'' H'',Nx σ'' H''->∃ m',m' < m/\W (i+1) m' σ'' H'')/\∀ x H'',J.yld i H' x H''->g x σ' H'' λσ2 H2=>tt σ2 H2 λb H3 =>
    if b=true then te σ2 H3 λv H4=>∃ ys,H4 D=some (.lst ys)/\ys.length < sizeLine/\Nx σ2 (upd H4 D (.lst (ys++[v]))) else Nx σ2 H3))
  (hRR:∀ D c0 C σ' H' s',D=s.heap.objs.size->s.heap.objs.size≤C->Inv (X.blkC sc cl x0 c0 C N' s H fp) [] σ' H' s'->Q (.ref D) H'->RR (.ref D) C (.ok .next) s') :
  wpAny (model X.prog X.w) X.A (newList []) (λacc s₃=>wpAny (model X.prog X.w) X.A (newFunctionEnv sc X.env.globals cl [] X.env.qual none .none (some X.env)) (λcenv s₄ =>
   codeAny (model X.prog X.w) X.A (.compStart (.ListComp elt [⟨tg,iter,ifs,0⟩] sc pos) 0 (.ref it) acc { cenv with scope:=relabel sc X.env }) (RR acc cenv.locals) s₄) E s₃) E s:=by
 have fo:∀ b ∈ fp,b < s.heap.objs.size:=λb hb=>by
  obtain ⟨o,e,_⟩:=T.obj _ _ st b hb
  exact Heap.lt_size e
 refine wpAny_newObj_type (qX hcf hpc hk ?_)
 dsimp only
 generalize hH2:s.heap.push { cls:=.type "list",dict:=none,data:=.seq ([]:List Value).toArray }=G
 have hG:G.objs.size=s.heap.objs.size+1:=by rw [← hH2,Heap.size_push]
 have hlt:s.heap.objs.size < G.objs.size:=by rw [hG];exact Nat.lt_succ_self _
 generalize hh:(G.push { cls:=.type "dict",data:=.dict #[] }).push { cls:=.type "cell",data:=.cell none }=h₁
 have oG:∀ b o,G.get? b=some o->h₁.get? b=some o:=λb o e=>by rw [← hh];exact Heap.get?_push_of_some _ (Heap.get?_push_of_some _ e)
 have old:∀ b o,s.heap.get? b=some o->h₁.get? b=some o:=λb o e=>oG b o (hH2 ▸ Heap.get?_push_of_some _ e)
 have hacc:h₁.get? s.heap.objs.size=some { cls:=.type "list",data:=.seq ([]:List Value).toArray }:=oG _ _ (hH2 ▸ Heap.get?_push_size _ rfl)
 have hcl:h₁.IsCell (G.objs.size+1) none:=⟨{ cls:=.type "cell",data:=.cell none },by
  rw [← hh,show G.objs.size+1=(G.push { cls:=.type "dict",data:=.dict #[] }).objs.size from (Heap.size_push ..).symm]
  exact Heap.get?_push_size _ rfl,rfl⟩
 have hns':h₁.Ns G.objs.size (λ_=>none):=by
  rw [← hh]
  exact (Heap.Ns.new G (.type "dict")).keeps λb o e=>Heap.get?_push_of_some _ e
 obtain ⟨W,⟨m0,w0⟩,turn⟩:=hw s.heap.objs.size (I.hok.fresh (Nat.le_refl _))
 have st₁:tn 0 h₁:=T.keep _ _ _ st λb _ o e=>old b o e
 have loop:∀ s₃:Shared,s₃={ s with heap:=h₁,toks:=s.toks } ->
   codeAny (model X.prog X.w) X.A (.compLoop (.ListComp elt [⟨tg,iter,ifs,0⟩] sc pos) 0 (.ref it) (.ref s.heap.objs.size) (compEnvC sc ((x0,G.objs.size+1)::cl) G.objs.size X.env)) (RR (.ref s.heap.objs.size) G.objs.size) s₃:=by
  rintro s₃ rfl
  have I0:=sJ (tk:=s.toks) I B hk sub has f2 fo rfl hlt hx0 (Nat.lt_succ_of_lt hlt) hcl hns' old hacc
  have gP:∀ {pins':List (Addr × Obj)} {H':Hp},pins'=[]->(∀ b ∈ fp,H' b=none)->∀ b ∈ fp,iK (X.blkC sc cl x0 (G.objs.size+1) G.objs.size N' s H fp) pins' H' b:=λep hn b hb=>by
   subst ep
   refine ⟨hn b hb,Nat.ne_of_lt (Nat.lt_trans (fo b hb) hlt),λz=>?_,.inl hb,λx c e=>?_,λp hp=>absurd (show p ∈ ([]:List (Addr × Obj)) from hp) (by simp)⟩
   ·rcases List.mem_cons.mp (I.stkSub b z) with e | e
    ·exact (f2 b hb).2.1 e
    ·exact (f2 b hb).2.2.1 e
   ·have e:List.lookup x ((x0,G.objs.size+1)::cl)=some c:=e
    rw [List.lookup_cons] at e
    split at e
    ·rw [← Option.some.inj e];exact Nat.ne_of_gt (Nat.lt_succ_of_lt (Nat.lt_trans (fo b hb) hlt))
    ·exact (f2 b hb).2.2.2.2.1 x c (sub x c e)
  have fr0:∀ b ∈ fp,upd H s.heap.objs.size (.lst []) b=none:=λb hb=>by
   rw [aK (Nat.ne_of_lt (fo b hb))];exact (f2 b hb).1
  refine j6 (λn s'=>∃ i σ' H',Inv (X.blkC sc cl x0 (G.objs.size+1) G.objs.size N' s H fp) [] σ' H' s'/\tn i s'.heap/\(∀ b ∈ fp,H' b=none)/\W i n σ' H') ?_ m0 ⟨0,_,_,I0,st₁,fr0,w0⟩
  rintro n s3 ⟨i,σ3,H3,I3,st3,fr3,w3⟩
  rcases turn i n σ3 H3 w3 with ⟨stop,qn⟩ | ⟨go,Nx,hN,step⟩
  ·refine thn (T.done (X.blkC sc cl x0 (G.objs.size+1) G.objs.size N' s H fp) rfl rfl rfl hc i [] s3 σ3 H3 _ I3 (gP rfl fr3) st3 stop) λr s4 ⟨hr,I4⟩=>?_
   subst hr
   exact hRR _ _ _ _ _ _ rfl (Nat.le_of_lt hlt) I4 qn
  ·refine thn (T.item (X.blkC sc cl x0 (G.objs.size+1) G.objs.size N' s H fp) rfl rfl rfl hc i [] s3 σ3 H3 _ I3 (gP rfl fr3) st3 go) λr s4 ⟨u,hr,h4⟩=>?_
   subst hr
   refine thn h4 λ_ s5 ⟨x,H5,I5,r5,y5,st5,fr5⟩=>?_
   have I5':=I5.pinned (gP rfl fr5) (T.obj _ _ st5)
   refine thn (hg cl (G.objs.size+1) G.objs.size s H fp _ s5 σ3 H5 x u _ I5' r5 (step x H5 y5)) λ_ s6 ⟨σ6,H6,I6,q6⟩=>?_
   refine thn (ht cl (G.objs.size+1) G.objs.size s H fp _ s6 σ6 H6 _ I6 q6) λok s7 ⟨H7,I7,q7⟩=>?_
   have again:∀ {s8:Shared} {H8:Hp},Inv (X.blkC sc cl x0 (G.objs.size+1) G.objs.size N' s H fp) ([]++jV fp s5.heap) σ6 H8 s8->Nx σ6 H8 ->
     ∃ m,m < n/\∃ i σ' H',Inv (X.blkC sc cl x0 (G.objs.size+1) G.objs.size N' s H fp) [] σ' H' s8/\tn i s8.heap/\(∀ b ∈ fp,H' b=none)/\W i m σ' H':=λ{s8 H8} I8 n8=>by
    obtain ⟨m',hm,w8⟩:=hN σ6 H8 n8
    refine ⟨m',hm,i+1,σ6,H8,I8.unpinned,T.keep _ _ _ st5 λb hb o e=>(I8.pin (b,o) (List.mem_append_right _ (List.mem_append_right _ (cS hb e)))).1,λb hb=>?_,w8⟩
    obtain ⟨o,e,d⟩:=T.obj _ _ st5 b hb
    exact (I8.pin (b,o) (List.mem_append_right _ (List.mem_append_right _ (cS hb e)))).2.1
   cases ok with
   | false =>
    rw [if_neg Bool.false_ne_true] at q7 ⊢
    exact again I7 q7
   | true =>
    rw [if_pos rfl] at q7 ⊢
    refine thn (he cl (G.objs.size+1) G.objs.size s H fp _ s7 σ6 H7 _ I7 q7) λy s8 ⟨v,H8,I8,rv,ys,hD8,hz,nx⟩=>?_
    refine thn (br (X:=X.blkC sc cl x0 (G.objs.size+1) G.objs.size N' s H fp) _ s8 σ6 H8 (.ref s.heap.objs.size) [v] (.ref s.heap.objs.size) [y] (λ_ H9=>Nx σ6 H9) I8 rfl (.cons rv .nil) ⟨_,ys,v,rfl,rfl,hD8,hz,nx⟩) λ_ s9 ⟨_,H9,I9,_,n9⟩=>?_
    exact again I9 n9
 exact codeAny_compStart_list (loop _ rfl) (T.self _ 0 _ _ _ st₁ (loop _ rfl))
theorem yL (hi:PI X tg iter wi) (hk:sc.kind=.function) (hb:xi x0 X.N X.env.kindOf sc.names own fr N') (hx0:sc.names.lookup x0=some .cell) (hcf:∀ n acc,cellsFrom n sc.names acc=(x0,n)::acc) (hpc:∀ h,pushCells h sc.names=h.push { cls:=.type "cell",data:=.cell none }) (hc:X.calm=true)
  (hg:∀ cl c0 C s H fp,PG (X.blkC sc cl x0 c0 C N' s H fp) tg g) (ht:∀ cl c0 C s H fp,qy (X.blkC sc cl x0 c0 C N' s H fp) ifs tt) (he:∀ cl c0 C s H fp,PE (X.blkC sc cl x0 c0 C N' s H fp) elt te)
  (hs:∀ x,foldedSetIterable iter X.env x=pure x:=by intro _;rfl):PE X (.ListComp elt [⟨tg,iter,ifs,0⟩] sc pos) (fF wi (mkS own fr) g tt te):=by
 intro pins s σ H Q I h
 have B:=hb
 obtain ⟨cl,hcl,sub,has⟩:=xO sc X.env λp hp e=>I.ok.has p.1 (B.free p hp e)
 rw [eval_ListComp]
 refine wpAny_comprehension_free (use:=none) rfl hs hcl hk B.loc (thn (hi pins s σ H _ I h) λv s1 h1=>thn h1 λitv s2 h2=>?_)
 obtain ⟨it,fp,tn,J,H2,e,I2,T,st2,f2,body⟩:=h2
 subst e
 refine oB (RR:=λacc C=>compPost (model X.prog X.w) X.A X.xe none (EP X pins σ Q) acc C) I2 B hk hc hx0 hcf hpc sub has T st2 f2 hg ht he body ?_
 intro D c0 C σ' H' s' eD hC J' q
 obtain ⟨m,hn,_⟩:=J'.loc
 refine ⟨m,hn,λh' hs'=>⟨.ref D,H',?_,rfl,q⟩⟩
 exact Inv.young I2 (qF I2 f2 J') hC J'.free hs'
end
def lQ (x0:Str) (N:List Str) (ok:Str->Option NameKind) (names:List (Str × NameKind)) (own:List Str) (fr:List Nat) (N':List Str):Bool :=
 decide (N'=own++fr.map λj=>N.getD j "") && (fr.all λj=>decide (j < N.length) && B5 (names.lookup (N.getD j ""))) &&
  names.all λp=>match p.2 with
   | .free=>B4 (ok p.1)
   | .cell=>decide (p.1=x0)
   | .local=>B6 (names.lookup p.1)
   | _=>true
theorem uJ {N:List Str} {ok:Str->Option NameKind} {names:List (Str × NameKind)} {own:List Str} {fr:List Nat} {N':List Str} (h:lQ x0 N ok names own fr N'=true):xi x0 N ok names own fr N':=by
 unfold lQ at h
 rw [Bool.and_eq_true,Bool.and_eq_true] at h
 obtain ⟨⟨h1,h2⟩,h3⟩:=h
 have h3':=List.all_eq_true.mp h3
 refine ⟨of_decide_eq_true h1,λj hj=>?_,λp hp e=>?_,λp hp e=>?_,λp hp e=>?_⟩
 ·have q:=List.all_eq_true.mp h2 j hj
  rw [Bool.and_eq_true] at q
  exact ⟨of_decide_eq_true q.1,vc q.2⟩
 ·have q:=h3' p hp
  rw [e] at q
  exact vb q
 ·have q:=h3' p hp
  rw [e] at q
  exact of_decide_eq_true q
 ·have q:=h3' p hp
  rw [e] at q
  exact vd q
theorem rS {tt:TT} {jj:Nat} (h:RE K tl σ H (.tup cs)) (hc:cs.length≤1000) (p:D->Bool) (h0:(mk σ).set jj none=mk σ)
  (turn:∀ H1 (i:Nat) c v,Same H H1->cs[i]?=some c->Dat K H1 c v->RT tt ((mk σ).set jj (some v)) H1 (p c)/\RE K te ((mk σ).set jj (some v)) H1 c):RC K (fF (wc K tl) mk (bq jj) tt te) σ H (cs.filter p):=λH1 s Q q=>by
 refine (h.mono s).use λv4 H4 s4 q4=>?_
 obtain ⟨l4,ys4,rfl,hy4,hd4⟩:=q4.tupE
 have ll:=hd4.length
 refine ⟨l4,rfl,⟨ys4,hy4⟩,λl hl=>?_⟩
 refine qJ (J:=Itt K l4) (n:=ys4.length) (item:=λi=>ys4.getD i .non) (λG=>SqT K G l4 ys4) (λi G o hi=>yd i G o hi) (λG o=>⟨ys4,o,Nat.le_refl _⟩) h0 l (λi G=>Same H4 G/\∃ zs,G l=some (.lst zs)/\Dats K G ((cs.take i).filter p) zs) ⟨aG hl _,[],ay,by rw [List.take_zero];exact Dats.nil⟩ (λi G _ w=>w.1.sqT hy4) (λi G hi w=>?_) (λG w=>?_)
 ·obtain ⟨sG,zs,hz,dz⟩:=w
  have hic:i < cs.length:=by omega
  obtain ⟨vz,ez,hv⟩:=(sG.dats hd4).get (List.getElem?_eq_getElem hic)
  have e1:ys4.getD i .non=vz:=by rw [List.getD_eq_getElem?_getD,ez];rfl
  simp only [e1]
  obtain ⟨t1,t2⟩:=turn G i cs[i] vz (s.trans (s4.trans sG)) (List.getElem?_eq_getElem hic) hv
  have et:cs.take (i+1)=cs.take i++[cs[i]]:=by rw [List.take_add_one,List.getElem?_eq_getElem hic];rfl
  have lz:zs.length≤1000:=by
   rw [← dz.length]
   exact Nat.le_trans (List.length_filter_le _ _) (by rw [List.length_take];omega)
  have lz':zs.length < 1000:=by
   rw [← dz.length]
   exact Nat.lt_of_le_of_lt (List.length_filter_le _ _) (by rw [List.length_take];omega)
  refine t1.use λG2 s2=>?_
  cases hp:p cs[i] with
  | true =>
   refine jQ ((t2.mono s2).use λv3 G3 s3 q3=>?_)
   have hz3:=(s2.trans s3) _ _ hz
   have bl:But l G3 (upd G3 l (.lst (zs++[v3]))):=But.upd (Same.refl G3).but
   have g:dD K G3 (upd G3 l (.lst (zs++[v3]))):=bl.grow hz3 ay
   refine ⟨zs,hz3,cE (by omega),⟨_,rfl⟩,λx o hx=>?_,zs++[v3],ay,?_⟩
   ·rw [aK (bh hx hl)]
    exact (s2.trans s3) _ _ (sG _ _ hx)
   ·rw [et,List.filter_append]
    have e2:[cs[i]].filter p=[cs[i]]:=by rw [List.filter_cons,if_pos hp];rfl
    rw [e2]
    exact Dats.append (Dats.mono g _ ((s2.trans s3).dats dz)) (Dats.cons (Dat.mono g _ q3) Dats.nil)
  | false =>
   refine jP ⟨⟨_,rfl⟩,sG.trans s2,zs,s2 _ _ hz,?_⟩
   rw [et,List.filter_append]
   have e2:[cs[i]].filter p=[]:=by rw [List.filter_cons,if_neg (by rw [hp];exact Bool.false_ne_true)];rfl
   rw [e2,List.append_nil]
   exact s2.dats dz
 ·obtain ⟨sG,zs,hz,dz⟩:=w
  rw [← ll,List.take_length] at dz
  exact q l zs G (s4.free hl) (s4.trans sG) hz dz
theorem vj (hK:X.K=K) (hl:PE X l tl):PI X tg l (wc K tl):=by
 subst hK
 exact jU hl
def RN (K:PySem.W.Frag) (H0:Hp) (t:TE) (σ:St) (G:Hp) (es:List D):Prop:=∀ Q:VK,(∀ r zs G',(H0 r≠none\/G r=none)->Same G G'->G' r=some (.lst zs)->Dats K G' es zs->Q (.ref r) G')->t σ G Q
variable {H0 G:Hp} {es:List D}
theorem RN.mono {t:TE} (h:RN K H0 t σ G es) (s:Same H0 H1):RN K H1 t σ G es:=λQ q=>h Q λr zs G' hr=>q r zs G' (hr.imp (λn z=>n (s.free z)) id)
theorem RN.of {t:TE} (h:RC K t σ G es):RN K H0 t σ G es:=λQ q=>h.use λl ys G' n s hy d=>q l ys G' (.inr n) s hy d
theorem zB {r:Addr} {zs:List V} (n:H0 r≠none) (h:G r=some (.lst zs)) (d:Dats K G es zs) (e:σ[k]?=some (some (.ref r)):=by rfl):RN K H0 (cx k) σ G es:=λQ q=>⟨_,e,q r zs G (.inl n) (Same.refl _) h d⟩
theorem Dk {tc:TT} {tb:TE} {b:Bool} (h:RT tc σ G b) (h1:b=true->∀ G',Same G G'->RN K H0 ta σ G' es) (h2:b=false->∀ G',Same G G'->RN K H0 tb σ G' es):RN K H0 (tIf tc ta tb) σ G es:=λQ q=>h G (Same.refl _) _ λG' s=>by
 have w:∀ r zs G2,(H0 r≠none\/G' r=none)->Same G' G2->G2 r=some (.lst zs)->Dats K G2 es zs->Q (.ref r) G2:=λr zs G2 hr s2=>q r zs G2 (hr.imp id λz=>s.free z) (s.trans s2)
 cases b with
 | true=>exact h1 rfl G' s Q w
 | false=>exact h2 rfl G' s Q w
theorem oJ
  (go:∀ i H',Same H1 H'->i < n->J.go i H'/\∀ x H'',J.yld i H' x H''->H''=H'/\x=item i) (stop:∀ H',Same H1 H'->J.stop n H') (h0:σ0.set j none=σ0) (ess:List (List D)) (hl:ess.length=n) (hn:n≤1000)
  (turn:∀ i es G,Same H1 G->ess[i]?=some es->RN K H1 te (σ0.set j (some (item i))) G es) (fin:∀ l ys H',H1 l=none->Same H1 H'->H' l=some (.lst ys)->LDs K H' ess ys->Q (.ref l) H') (l:Addr) (hD:H1 l=none) :
  ∃ W:Nat->Nat->St->Hp->Prop,(∃ m,W 0 m σ0 (upd H1 l (.lst [])))/\∀ i m σ' H',W i m σ' H' ->
   (J.stop i H'/\Q (.ref l) H') \/
   (J.go i H'/\∃ Nx:St->Hp->Prop,(∀ σ'' H'',Nx σ'' H''->∃ m',m' < m/\W (i+1) m' σ'' H'')/\∀ x H'',J.yld i H' x H''->bq j x σ' H'' λσ2 H2=>dU σ2 H2 λb H3 =>
    if b=true then te σ2 H3 λv H4=>∃ ys,H4 l=some (.lst ys)/\ys.length < sizeLine/\Nx σ2 (upd H4 l (.lst (ys++[v]))) else Nx σ2 H3):=by
 refine ⟨λi m σ' G=>m=n - i/\i≤n/\(∃ z,σ'=σ0.set j z)/\Same H1 G/\∃ ys,G l=some (.lst ys)/\LDs K G (ess.take i) ys/\Off K G l ys,⟨n,by omega,Nat.zero_le _,⟨none,h0.symm⟩,aG hD _,[],ay,by rw [List.take_zero];exact .nil,λv hv=>by cases hv⟩,?_⟩
 rintro i m σ' G ⟨rfl,hle,⟨z,rfl⟩,sG,ys,hy,dy,off⟩
 by_cases hlt:i < n
 ·obtain ⟨g,y⟩:=go i G sG hlt
  refine .inr ⟨g,λσ'' G'=>(∃ z,σ''=σ0.set j z)/\Same H1 G'/\∃ ys,G' l=some (.lst ys)/\LDs K G' (ess.take (i+1)) ys/\Off K G' l ys,λσ'' G' w=>⟨n - (i+1),by omega,rfl,hlt,w.1,w.2⟩,λx G' yx=>?_⟩
  obtain ⟨e1,e2⟩:=y x G' yx
  subst e1 e2
  have hne:i < ess.length:=by omega
  simp only [bq,dU,if_true,List.set_set]
  refine turn i ess[i] _ sG (List.getElem?_eq_getElem hne) _ λr zs G4 hr s4 hz dz=>?_
  have hy4:=s4 _ _ hy
  have nrl:r≠l:=λz=>by
   rcases hr with hr | hr
   ·exact hr (by rw [z];exact hD)
   ·rw [z,hy] at hr;cases hr
  have lys:ys.length=i:=by rw [← dy.length,List.length_take];omega
  refine ⟨ys,hy4,cE (by omega),⟨_,rfl⟩,λx o hx=>?_,ys++[.ref r],ay,?_,?_⟩
  ·rw [aK (bh hx hD)]
   exact s4 _ _ (sG _ _ hx)
  ·have bl:But l G4 (upd G4 l (.lst (ys++[.ref r]))):=But.upd (Same.refl G4).but
   have g:dD K G4 (upd G4 l (.lst (ys++[.ref r]))):=bl.grow hy4 ay
   rw [List.take_add_one,List.getElem?_eq_getElem hne]
   exact LDs.snoc (LDs.grown (s4.lds dy) off bl hy4 ay) (LD.of (bl _ _ nrl hz) (Dats.mono g _ dz))
  ·intro v hv
   rcases List.mem_append.mp hv with hv | hv
   ·exact off v hv
   ·rw [List.mem_singleton.mp hv]
    exact λz=>nrl (by injection z)
 ·have e:i=n:=by omega
  subst e
  refine .inl ⟨stop G sG,?_⟩
  rw [List.take_of_length_le (by omega)] at dy
  exact fin l ys G hD sG hy dy
section
variable {K:PySem.W.Frag} {σ:St} {H:Hp} {tA:TA} {tl te ta tb:TE} {tc:TT} {mk:St->St} {j n:Nat} {cs:List D}
theorem zr (h:RA K tA σ H [.int n]) (hc:n≤1000) (ess:List (List D)) (hl:ess.length=n) (h0:(mk σ).set j none=mk σ)
  (turn:∀ G (i:Nat) es,Same H G->ess[i]?=some es->RN K H te ((mk σ).set j (some (.int i))) G es):RCL K (fF (uW tA) mk (bq j) dU te) σ H ess:=λH1 s Q q=>by
 refine h H1 s _ λvs H2 s2 q2=>?_
 obtain ⟨u,e,hu⟩:=fA q2
 have eu:=hu.intE
 subst eu e
 refine ⟨n,rfl,by omega,by omega,?_⟩
 rw [Int.toNat_natCast]
 exact oJ (K:=K) (item:=λi=>.int i) (λi H' s hi=>sW i H' hi) (λH' s=>Nat.le_refl _) h0 ess hl hc (λi es G sG e=>(turn G i es (s.trans (s2.trans sG)) e).mono (s.trans s2)) (λl ys H' hl s'=>q l ys H' (s2.free hl) (s2.trans s'))
theorem wI (h:RL K tl σ H cs) (hc:cs.length≤1000) (ess:List (List D)) (hl:ess.length=cs.length) (h0:(mk σ).set j none=mk σ)
  (turn:∀ G (i:Nat) c v es,Same H G->cs[i]?=some c->ess[i]?=some es->Dat K G c v->RN K H te ((mk σ).set j (some v)) G es):RCL K (fF (kX K tl) mk (bq j) dU te) σ H ess:=λH1 s Q q=>by
 refine (h.mono s).use λv4 H4 s4 q4=>?_
 obtain ⟨l4,ys4,rfl,hy4,hd4⟩:=q4
 have ll:=hd4.length
 refine ⟨l4,rfl,⟨ys4,hy4.sqL⟩,?_⟩
 refine oJ (K:=K) (n:=ys4.length) (item:=λi=>ys4.getD i .non) (λi H' s hi=>pw i H' (s.seq hy4.sqL) hi) (λH' s=>⟨ys4,s.seq hy4.sqL,Nat.le_refl _⟩) h0 ess (by omega) (by omega) (λi es G sG hi=>?_) (λl ys H5 hl5 s5=>q l ys H5 (s4.free hl5) (s4.trans s5))
 have hi':i < ess.length:=(List.getElem?_eq_some_iff.mp hi).1
 have hic:i < cs.length:=by omega
 obtain ⟨vz,ez,hz⟩:=hd4.get (List.getElem?_eq_getElem hic)
 rw [List.getD_eq_getElem?_getD,ez]
 exact (turn G i cs[i] vz es (s.trans (s4.trans sG)) (List.getElem?_eq_getElem hic) hi (sG.dat hz)).mono (s.trans s4)
end
def yZ (K:PySem.W.Frag):R2:=λx y H Q=>∃ b ys,x=.non/\y=.ref b/\SqL K H b ys/\Q (.bl true) H
theorem AH (hr:Room k X.A):OpR X (compareOp .NotEq) (yZ X.K):=by
 intro pins s σ H x y v u Q I rx ry h
 obtain ⟨b,ys,ex,ey,q1,q⟩:=h
 subst ex ey
 cases rx
 cases ry
 obtain ⟨us,v1,p1,_⟩:=I.list q1
 have hu:X.A.units < cLine:=by have:=hr.un;omega
 exact SeqAt.RcNeAt.none_list p1.isList hu _ _ _ _ ⟨.bl _,H,I,rfl,q⟩
section
variable {X:Cx} {elt iter tg:Expr} {ifs:List Expr} {sc:Scope} {pos:Pos} {wi:TI} {own:List Str} {fr:List Nat} {N':List Str} {g:TG} {tt:TT} {te:TE} {x0:Str}
theorem rM {i:Nat} {y:Str} {py spos:Pos} (hi:PI X tg iter wi) (hk:sc.kind=.function) (hb:xi x0 X.N X.env.kindOf sc.names own fr N') (hx0:sc.names.lookup x0=some .cell) (hcf:∀ n acc,cellsFrom n sc.names acc=(x0,n)::acc) (hpc:∀ h,pushCells h sc.names=h.push { cls:=.type "cell",data:=.cell none }) (hc:X.calm=true)
  (hg:∀ cl c0 C s H fp,PG (X.blkC sc cl x0 c0 C N' s H fp) tg g) (ht:∀ cl c0 C s H fp,qy (X.blkC sc cl x0 c0 C N' s H fp) ifs tt) (he:∀ cl c0 C s H fp,PE (X.blkC sc cl x0 c0 C N' s H fp) elt te)
  (hN:X.N.Nodup) (hy:X.N[i]?=some y) (hx:X.env.scope.names.lookup y=some .local)
  (hsw:swapsWith (.ListComp elt [⟨tg,iter,ifs,0⟩] sc pos) (some (.Name y py)) spos.line X.env=pure true)
  (hs:∀ x,foldedSetIterable iter X.env x=pure x:=by intro _;rfl):PS X (.Assign [.Name y py] (.ListComp elt [⟨tg,iter,ifs,0⟩] sc pos) spos) (jY (fF wi (mkS own fr) g tt te) (bq i)):=by
 intro pins s σ H D I h
 have B:=hb
 obtain ⟨cl,hcl,sub,has⟩:=xO sc X.env λp hp e=>I.ok.has p.1 (B.free p hp e)
 rw [exec_Assign_Name_used _ _ _ _ hsw]
 refine wpAny_bind (wpAny_standAt (wpAny_bind ?_))
 show wpAny _ _ (do let _ ← comprehension (.ListComp elt [⟨tg,iter,ifs,0⟩] sc pos) sc X.env _ (newList []) false (eval iter X.env) (some (assign (.Name y py) X.env))) _ _ s
 refine wpAny_bind (wpAny_mono (wpAny_comprehension_free (use:=some (assign (.Name y py) X.env)) (Q:=λ_ s'=>SP X pins D .next s') rfl hs hcl hk B.loc
  (thn (hi pins s σ H _ I h) λv s1 h1=>thn h1 λitv s2 h2=>?_)) (λ_ s' hq=>wpAny_pure (wpAny_pure hq)) λ_ _ e=>e)
 obtain ⟨it,fp,tn,J,H2,e,I2,T,st2,f2,body⟩:=h2
 subst e
 refine oB (Q:=λv H'=>D.nx (σ.set i (some v)) H') (RR:=λacc C=>compPost (model X.prog X.w) X.A X.xe (some (assign (.Name y py) X.env)) (λ_ s'=>SP X pins D .next s') acc C) I2 B hk hc hx0 hcf hpc sub has T st2 f2 hg ht he body ?_
 intro D' c0 C σ' H' s' eD hC J' q
 have I3:=qF I2 f2 J'
 show wpAny _ _ (assign (.Name y py) X.env (.ref D')) _ _ s'
 refine wpAny_assign_Name (jv I3 hN hy (.inl hx) (v:=.ref D') rfl (λs4 I4 ⟨a,hsb,ha⟩=>?_) (.inr hx))
 obtain ⟨m,hn,_⟩:=J'.loc
 have hCa:C≠a:=by
  rcases ha with e | e
  ·rw [e];exact Nat.ne_of_gt (Nat.lt_of_lt_of_le I2.lt hC)
  ·obtain ⟨v,z⟩:=I2.cell _ _ e
   exact Nat.ne_of_gt (Nat.lt_of_lt_of_le z.lt hC)
 refine ⟨m,hn.sameBut hsb hCa,λh' hs'=>⟨_,H',?_,q⟩⟩
 exact Inv.young I2 I4 hC J'.free hs'
end
end L2
namespace My
open PySem L2 PyProof.Rows
abbrev TL:List (Str × KTD.Dat):=[("num",.flat (.int 9999)),("arg",.flat (.int 3))]
abbrev TB:List (Str × KTD.Dat):=[("add",.flat (.int 2)),("sub",.flat (.int 2)),("mul",.flat (.int 2)),("less",.flat (.int 2)),("pick",.flat (.int 3))]
abbrev TM:List (Str × KTD.Dat):=[("hole",.flat (.int 2)),("gap",.flat (.int 3)),("slot",.flat (.int 2))]
abbrev TF:List (Str × KTD.Dat):=[("low",.flat (.str "gap")),("high",.flat (.str "gap")),("arg",.flat (.str "slot"))]
abbrev TTO:List (Str × KTD.Dat):=[("load",.flat (.int 3)),("skip",.flat (.int 9)),("zero",.flat (.int 9))]
abbrev STR:List D:=[.str "put",.str "far",.str "load",.str "add",.str "sub",.str "mul",.str "less",.str "more",.str "twice",.str "about"]
abbrev WAY:List D:=[.str "skip",.str "jump",.str "zero",.str "none",.str "call",.str "back"]
abbrev TRN:List D:=[.int 0,.int 1,.int 2,.int 99,.int 100,.int 9999]
abbrev INS:List D:=[.tup [.str "end",.int 0],.tup [.str "put",.int 1],.tup [.str "far",.int 2],.tup [.str "load",.int 1],.tup [.str "add",.int 0],.tup [.str "sub",.int 0],.tup [.str "mul",.int 0],.tup [.str "less",.int 0],.tup [.str "skip",.int 1],.tup [.str "jump",.int 2],.tup [.str "zero",.int 1],.tup [.str "none",.int 2],.tup [.str "more",.int 1],.tup [.str "twice",.int 0],.tup [.str "about",.int 0],.tup [.str "call",.int 2],.tup [.str "back",.int 0]]
abbrev BAS:List D:=[.tup [.str "one",.tup [.str "gap",.int 0,.int 99],.tup [.int 1,.tup [.str "low",.int 0]]],.tup [.str "two",.tup [.str "gap",.int 0,.int 9999],.tup [.int 2,.tup [.str "low",.int 0],.tup [.str "high",.int 0]]],.tup [.str "slot",.tup [.str "slot",.int 0],.tup [.int 3,.tup [.str "arg",.int 0]]],.tup [.str "add",.tup [.str "add",.tup [.str "hole",.int 0],.tup [.str "hole",.int 1]],.tup [.int 4]],.tup [.str "sub",.tup [.str "sub",.tup [.str "hole",.int 0],.tup [.str "hole",.int 1]],.tup [.int 5]],.tup [.str "mul",.tup [.str "mul",.tup [.str "hole",.int 0],.tup [.str "hole",.int 1]],.tup [.int 6]],.tup [.str "less",.tup [.str "less",.tup [.str "hole",.int 0],.tup [.str "hole",.int 1]],.tup [.int 7]],.tup [.str "more",.tup [.str "add",.tup [.str "hole",.int 0],.tup [.str "gap",.int 0,.int 99]],.tup [.int 12,.tup [.str "low",.int 0]]]]
def mr (s:Stmt) (j:Nat):Stmt:=match s with
 | .ClassDef _ _ _ b _ _ _ _ _ _ _=>b.getD j (.Pass ⟨0,0,0,0⟩)
 | _=>.Pass ⟨0,0,0,0⟩
abbrev iB:Stmt:=top 9
theorem sc_is_whole:FnScope ["thing","low","high"] ["thing","low","high"] (ax iB):=.sc0
abbrev gK:Stmt:=top 10
theorem sc_is_tagged:FnScope ["thing"] ["thing"] (ax gK):=.sc0
abbrev ju:Stmt:=top 16
theorem sc_is_node:FnScope ["thing","kind"] ["thing"] (ax ju):=.sc0
abbrev eM:Stmt:=top 17
theorem sc_trees_within:FnScope ["tree"] ["tree"] (ax eM):=.sc0
abbrev cX:Stmt:=top 12
theorem sc_need_size:FnScope ["size","most"] ["size","most"] (ax cX):=.sc0
abbrev dZ:Stmt:=top 18
theorem sc_worth_of_both:FnScope ["kind","first","second","size"] ["kind","first","second","size"] (ax dZ):=.sc0
abbrev iD:Stmt:=top 19
theorem sc_reckoned:FnScope ["tree","args","size","kind","first"] ["tree","args","size"] (ax iD):=.sc0
abbrev hU:Stmt:=top 11
theorem sc_is_name:FnScope ["thing"] ["thing"] (ax hU):=.sc0
abbrev dH:Stmt:=top 27
theorem sc_instruction_at:FnScope ["cells","place","name","many","behind"] ["cells","place"] (ax dH):=.sc0
abbrev fq:Stmt:=top 28
theorem sc_number_told:FnScope ["behind","number","cell"] ["behind"] (ax fq):=.sc0
abbrev bp:Stmt:=mr (top 29) 0
theorem sc_Machine___init__:FnScope ["self","cells","given","size","pile"] ["self","cells","given","size","pile"] (ax bp):=.sc0
abbrev bU:Stmt:=mr (top 29) 1
theorem sc_Machine_take:FnScope ["self"] ["self"] (ax bU):=.sc0
abbrev bS:Stmt:=mr (top 29) 2
theorem sc_Machine_push:FnScope ["self","number"] ["self","number"] (ax bS):=.sc0
abbrev cg:Stmt:=mr (top 29) 4
theorem sc_Machine_way:FnScope ["self","name","number","onward"] ["self","name","number","onward"] (ax cg):=.sc0
abbrev bF:Stmt:=mr (top 29) 5
theorem sc_Machine_finish:FnScope ["self"] ["self"] (ax bF):=.sc0
abbrev bE:Stmt:=mr (top 29) 6
theorem sc_Machine_change:FnScope ["self","name","number","upper","lower"] ["self","name","number"] (ax bE):=.sc0
abbrev bT:Stmt:=mr (top 29) 3
theorem sc_Machine_step:FnScope ["self","name","behind","number","onward"] ["self"] (ax bT):=.sc0
abbrev jt:Stmt:=top 41
theorem sc_is_mark:FnScope ["thing"] ["thing"] (ax jt):=.sc0
abbrev cP:Stmt:=top 42
theorem sc_is_pattern_part:FnScope ["thing","deep"] ["thing","deep"] (ax cP):=.sc0
abbrev iC:Stmt:=top 43
theorem sc_marks_in:FnScope ["pattern","kind","marks","within"] ["pattern","kind"] (ax iC):=.sc0
abbrev dS:Stmt:=top 44
theorem sc_is_numbered:FnScope ["pattern","kind","numbers"] ["pattern","kind"] (ax dS):=.sc0
abbrev eL:Stmt:=top 45
theorem sc_is_pattern:FnScope ["thing"] ["thing"] (ax eL):=.sc0
abbrev fS:Stmt:=top 46
theorem sc_is_filling:FnScope ["thing","pattern"] ["thing","pattern"] (ax fS):=.sc0
abbrev js:Stmt:=top 47
theorem sc_is_cell:FnScope ["thing","pattern"] ["thing","pattern"] (ax js):=.sc0
abbrev cG:Stmt:=top 48
theorem sc_are_instructions:FnScope ["cells","pattern","place","name","behind"] ["cells","pattern"] (ax cG):=.sc0
abbrev iA:Stmt:=top 49
theorem sc_is_piece:FnScope ["thing","name","pattern","cells"] ["thing"] (ax iA):=.sc0
abbrev fT:Stmt:=top 50
theorem sc_need_piece:FnScope ["piece"] ["piece"] (ax fT):=.sc0
abbrev fm:Stmt:=top 51
theorem sc_filled_cell:FnScope ["cell","nums","ks"] ["cell","nums","ks"] (ax fm):=.sc0
abbrev dG:Stmt:=top 52
theorem sc_filled_pattern:FnScope ["pattern","trial","kind","holes","nums","ks","args"] ["pattern","trial"] (ax dG):=.sc0
abbrev kx:Stmt:=top 53
theorem sc_keeps:FnScope ["piece","trial","size","name","pattern","cells","holes","nums","ks","args","laid_cells","machine"] ["piece","trial","size"] (ax kx):=.sc0
abbrev hV:Stmt:=top 54
theorem sc_rows_of:FnScope ["choices","rows","some"] ["choices"] (ax hV):=.sc0
abbrev gi:Stmt:=top 55
theorem sc_args_for:FnScope ["ks","size"] ["ks","size"] (ax gi):=.sc0
abbrev fb:Stmt:=top 56
theorem sc_failing:FnScope ["piece","size","pattern","all_holes","all_nums","all_ks","holes","nums","ks","args","trial"] ["piece","size"] (ax fb):=.sc0
abbrev gH:Stmt:=top 58
theorem sc__law_draw:FnScope ["_law_script","_law_town","_law_many","_law_one","_law_at","_law_mixed"] ["_law_script","_law_town","_law_many"] (ax gH):=.sc0
abbrev gJ:Stmt:=top 59
theorem sc__law_pick:FnScope ["_law_script","_law_town","_law_some"] ["_law_script","_law_town","_law_some"] (ax gJ):=.sc0
abbrev iz:Stmt:=top 60
theorem sc__law_two:FnScope ["_law_name","_law_one","_law_other","_law_base"] ["_law_name","_law_one","_law_other","_law_base"] (ax iz):=.sc0
abbrev fQ:Stmt:=top 62
theorem sc__law_names:FnScope ["_law_first"] [] (ax fQ):=.sc0
abbrev fj:Stmt:=top 63
theorem sc__law_behind:FnScope ["_law_number"] ["_law_number"] (ax fj):=.sc0
abbrev gG:Stmt:=top 65
theorem sc__law_does:FnScope ["_law_name","_law_number","_law_pile","_law_args","_law_base","_law_other","_law_one"] ["_law_name","_law_number","_law_pile","_law_args","_law_base"] (ax gG):=.sc0
abbrev fk:Stmt:=top 68
theorem sc__law_pieces:FnScope ["_law_hole","_law_other","_law_gap","_law_made"] [] (ax fk):=.sc0
abbrev gI:Stmt:=top 74
theorem sc__law_fill:FnScope ["_law_cells","_law_nums","_law_ks","_law_made","_law_cell"] ["_law_cells","_law_nums","_law_ks"] (ax gI):=.sc0
abbrev fE:Stmt:=top 76
theorem sc__law_rows:FnScope ["_law_choices","_law_made","_law_some","_law_longer","_law_row"] ["_law_choices"] (ax fE):=.sc0
abbrev fP:Stmt:=top 77
theorem sc__law_marks:FnScope ["_law_pattern","_law_head"] ["_law_pattern","_law_head"] (ax fP):=.sc0
abbrev fR:Stmt:=top 78
theorem sc__law_value:FnScope ["_law_pattern","_law_trial","_law_base","_law_holes","_law_nums","_law_ks","_law_args"] ["_law_pattern","_law_trial","_law_base"] (ax fR):=.sc0
abbrev dR:Stmt:=top 79
theorem sc__law_leaves:FnScope ["_law_cells","_law_pile","_law_args","_law_base","_law_at","_law_many","_law_behind_here","_law_number"] ["_law_cells","_law_pile","_law_args","_law_base"] (ax dR):=.sc0
abbrev bc:Stmt:=top 80
theorem sc__law_first_failing:FnScope ["_law_piece","_law_base","_law_gaps","_law_every","_law_holes","_law_nums","_law_ks","_law_cells","_law_args","_law_trial","_law_left"] ["_law_piece","_law_base"] (ax bc):=.sc0
abbrev dk:Stmt:=top 81
theorem sc__law_drawn_piece:FnScope ["_law_script","_law_town","_law_hole","_law_gap","_law_patterns","_law_pattern","_law_cells","_law_k","_law_number"] ["_law_script","_law_town"] (ax dk):=.sc0
abbrev vF:Stmt:=top 82
theorem sc_law:FnScope ["_law_script","_law_town","_law_base","_law_good","_law_hole","_law_other","_law_odd","_law_piece"] ["_law_script"] (ax vF):=.sc0
def BY (s:Stmt):Stmt:=match s with
 | .ClassDef _ _ _ (d::_) _ _ _ _ _ _ _=>d
 | _=>.Pass ⟨0,0,0,0⟩
abbrev cf:Stmt:=BY (top 4)
theorem sc_Fault__init:FnScope ["self","place"] ["self","place"] (ax cf):=.sc0
set_option genInjectivity false in
set_option genSizeOfSpec false in
structure Txt (P:Program) (w:World) (K:PySem.W.Frag) (mg:Str->Option Value) where
 EM:Addr
 EN:FuncData
 EO:Fun K "is_whole" "is_whole" iB EM EN
 FB:mg "is_whole"=some (.ref EM)
 Fo:Addr
 Fu:FuncData
 Ge:Fun K "is_tagged" "is_tagged" gK Fo Fu
 Ie:mg "is_tagged"=some (.ref Fo)
 Io:Addr
 Iv:FuncData
 IP:Fun K "is_node" "is_node" ju Io Iv
 JP:mg "is_node"=some (.ref Io)
 EX:Addr
 E4:FuncData
 Fy:Fun K "trees_within" "trees_within" eM EX E4
 HS:mg "trees_within"=some (.ref EX)
 GX:Addr
 Hb:FuncData
 II:Addr
 Jw:Tok
 Hc:FunD K "need_size" "need_size" cX GX Hb II [.int 10000 Jw]
 Ju:mg "need_size"=some (.ref GX)
 EG:Addr
 EH:FuncData
 Fg:Fun K "worth_of_both" "worth_of_both" dZ EG EH
 Hn:mg "worth_of_both"=some (.ref EG)
 FX:Addr
 FY:FuncData
 F0:Fun K "reckoned" "reckoned" iD FX FY
 HR:mg "reckoned"=some (.ref FX)
 Im:Addr
 Iu:FuncData
 IM:Fun K "is_name" "is_name" hU Im Iu
 JO:mg "is_name"=some (.ref Im)
 D8:Addr
 Ea:FuncData
 Es:Fun K "instruction_at" "instruction_at" dH D8 Ea
 GM:mg "instruction_at"=some (.ref D8)
 FP:Addr
 FW:FuncData
 GS:Fun K "number_told" "number_told" fq FP FW
 IW:mg "number_told"=some (.ref FP)
 Il:Addr
 Ir:FuncData
 IL:Fun K "is_mark" "is_mark" jt Il Ir
 JN:mg "is_mark"=some (.ref Il)
 D2:Addr
 D3:FuncData
 EJ:Fun K "is_pattern_part" "is_pattern_part" cP D2 D3
 Gz:mg "is_pattern_part"=some (.ref D2)
 Fb:Addr
 Fd:FuncData
 Ff:Fun K "marks_in" "marks_in" iC Fb Fd
 F7:mg "marks_in"=some (.ref Fb)
 FO:Addr
 FV:FuncData
 GR:Fun K "is_numbered" "is_numbered" dS FO FV
 IV:mg "is_numbered"=some (.ref FO)
 Gp:Addr
 Gw:FuncData
 Ht:Fun K "is_pattern" "is_pattern" eL Gp Gw
 Jl:mg "is_pattern"=some (.ref Gp)
 Gn:Addr
 Gv:FuncData
 Hs:Fun K "is_filling" "is_filling" fS Gn Gv
 Jk:mg "is_filling"=some (.ref Gn)
 Ik:Addr
 Iq:FuncData
 IK:Fun K "is_cell" "is_cell" js Ik Iq
 JM:mg "is_cell"=some (.ref Ik)
 Ex:Addr
 EA:FuncData
 Fe:Fun K "are_instructions" "are_instructions" cG Ex EA
 HQ:mg "are_instructions"=some (.ref Ex)
 GE:Addr
 GG:FuncData
 HP:Fun K "is_piece" "is_piece" iA GE GG
 Jd:mg "is_piece"=some (.ref GE)
 Gq:Addr
 Gx:FuncData
 Hu:Fun K "need_piece" "need_piece" fT Gq Gx
 Jm:mg "need_piece"=some (.ref Gq)
 FN:Addr
 FU:FuncData
 GQ:Fun K "filled_cell" "filled_cell" fm FN FU
 IU:mg "filled_cell"=some (.ref FN)
 D7:Addr
 D9:FuncData
 Er:Fun K "filled_pattern" "filled_pattern" dG D7 D9
 FG:mg "filled_pattern"=some (.ref D7)
 Jg:Addr
 Ji:FuncData
 Jy:Fun K "keeps" "keeps" kx Jg Ji
 Kg:mg "keeps"=some (.ref Jg)
 Hy:Addr
 Hz:FuncData
 GJ:Fun K "rows_of" "rows_of" hV Hy Hz
 Iy:mg "rows_of"=some (.ref Hy)
 HE:Addr
 HH:FuncData
 IB:Fun K "args_for" "args_for" gi HE HH
 JC:mg "args_for"=some (.ref HE)
 Ij:Addr
 Ip:FuncData
 Iw:Fun K "failing" "failing" fb Ij Ip
 Jr:mg "failing"=some (.ref Ij)
 Fn:Addr
 Fs:FuncData
 Fw:Fun K "_law_draw" "_law_draw" gH Fn Fs
 He:mg "_law_draw"=some (.ref Fn)
 Gc:Addr
 Gd:FuncData
 E7:Fun K "_law_pick" "_law_pick" gJ Gc Gd
 Gi:mg "_law_pick"=some (.ref Gc)
 GD:Addr
 GF:FuncData
 HN:Fun K "_law_two" "_law_two" iz GD GF
 Jc:mg "_law_two"=some (.ref GD)
 Gm:Addr
 Gu:FuncData
 Hr:Fun K "_law_names" "_law_names" fQ Gm Gu
 Jj:mg "_law_names"=some (.ref Gm)
 FK:Addr
 FR:FuncData
 GN:Fun K "_law_behind" "_law_behind" fj FK FR
 IR:mg "_law_behind"=some (.ref FK)
 GU:Addr
 GY:FuncData
 Ib:Fun K "_law_does" "_law_does" gG GU GY
 Js:mg "_law_does"=some (.ref GU)
 FM:Addr
 FT:FuncData
 GP:Fun K "_law_pieces" "_law_pieces" fk FM FT
 IT:mg "_law_pieces"=some (.ref FM)
 GV:Addr
 GZ:FuncData
 Ic:Fun K "_law_fill" "_law_fill" gI GV GZ
 Jt:mg "_law_fill"=some (.ref GV)
 GW:Addr
 Ha:FuncData
 Fx:Fun K "_law_rows" "_law_rows" fE GW Ha
 Hg:mg "_law_rows"=some (.ref GW)
 Em:Addr
 Eo:FuncData
 DZ:Fun K "_law_marks" "_law_marks" fP Em Eo
 Ec:mg "_law_marks"=some (.ref Em)
 E9:Addr
 Fc:FuncData
 FE:Fun K "_law_value" "_law_value" fR E9 Fc
 Hv:mg "_law_value"=some (.ref E9)
 FL:Addr
 FS:FuncData
 GO:Fun K "_law_leaves" "_law_leaves" dR FL FS
 IS:mg "_law_leaves"=some (.ref FL)
 Ee:Addr
 Ef:FuncData
 EI:Fun K "_law_first_failing" "_law_first_failing" bc Ee Ef
 Hf:mg "_law_first_failing"=some (.ref Ee)
 Ew:Addr
 Ez:FuncData
 EB:Fun K "_law_drawn_piece" "_law_drawn_piece" dk Ew Ez
 F3:mg "_law_drawn_piece"=some (.ref Ew)
 J4:Addr
 Kf:FuncData
 Kv:Fun K "law" "law" vF J4 Kf
 Kx:mg "law"=some (.ref J4)
 DR:Addr
 HA:mg "Machine"=some (.ref DR)
 cl_Machine:Cls K DR
 Eu:Addr
 Ey:FuncData
 FZ:Fun K "__init__" "Machine.__init__" bp Eu Ey
 mk_Machine:Mk K DR Eu
 EW:Addr
 E3:FuncData
 HL:Fun K "take" "Machine.take" bU EW E3
 mt_Machine_take:nK K DR "take" EW
 Fl:Addr
 Fp:FuncData
 HJ:Fun K "push" "Machine.push" bS Fl Fp
 mt_Machine_push:nK K DR "push" Fl
 FJ:Addr
 FQ:FuncData
 Ih:Fun K "way" "Machine.way" cg FJ FQ
 mt_Machine_way:nK K DR "way" FJ
 EV:Addr
 E1:FuncData
 GI:Fun K "finish" "Machine.finish" bF EV E1
 mt_Machine_finish:nK K DR "finish" EV
 EU:Addr
 EZ:FuncData
 GH:Fun K "change" "Machine.change" bE EU EZ
 mt_Machine_change:nK K DR "change" EU
 Fm:Addr
 Fq:FuncData
 HK:Fun K "step" "Machine.step" bT Fm Fq
 mt_Machine_step:nK K DR "step" Fm
 na_cells:NoAttr K DR "cells"
 na_given:NoAttr K DR "given"
 na_size:NoAttr K DR "size"
 na_pile:NoAttr K DR "pile"
 na_place:NoAttr K DR "place"
 na_kept:NoAttr K DR "kept"
 na_ended:NoAttr K DR "ended"
 FC:Tok
 E5:mg "LONGEST_NAME"=some (.int 8 FC)
 Hi:Tok
 FA:mg "MOST_CELL"=some (.int 99 Hi)
 El:Tok
 D6:mg "MOST_PATTERN_DEEP"=some (.int 3 El)
 HW:Tok
 GK:mg "MOST_GAP"=some (.int 9999 HW)
 EF:Tok
 Eb:mg "MOST_PIECE_CELLS"=some (.int 12 EF)
 Hl:Tok
 Hd:mg "MOST_SIZE"=some (.int 10000 Hl)
 Hk:Tok
 Gg:mg "MOST_PILE"=some (.int 64 Hk)
 Hj:Tok
 Gf:mg "MOST_KEPT"=some (.int 16 Hj)
 Hh:Tok
 Fz:mg "MANY_ARGS"=some (.int 4 Hh)
 EL:Tok
 Eh:mg "MOST_TRIED_SIZE"=some (.int 5 EL)
 Fh:Tok
 Ek:mg "BENEATH_HOLES"=some (.int 1 Fh)
 Fj:Addr
 ED:mg "MOST_IN_LEAF"=some (.ref Fj)
 EE:iP K Fj TL
 Eg:Addr
 DW:mg "TREES_IN_BRANCH"=some (.ref Eg)
 DX:iP K Eg TB
 ET:Addr
 EC:mg "MARK_LENGTHS"=some (.ref ET)
 E6:iP K ET TM
 FH:Addr
 ER:mg "FILLED_FROM"=some (.ref FH)
 ES:iP K FH TF
 HZ:Addr
 Gh:mg "MOST_TOLD"=some (.ref HZ)
 Gj:iP K HZ TTO
 Et:Addr
 D4:mg "INSTRUCTIONS"=some (.ref Et)
 DU:eQ K (.tup INS) (.ref Et)=true
 Iz:Addr
 GL:mg "STRAIGHT"=some (.ref Iz)
 JA:eQ K (.tup STR) (.ref Iz)=true
 JU:Addr
 Jq:mg "WAYS"=some (.ref JU)
 Kl:eQ K (.tup WAY) (.ref JU)=true
 Hq:Addr
 FF:mg "TRIED_NUMS"=some (.ref Hq)
 Jh:eQ K (.tup TRN) (.ref Hq)=true
 Jx:Addr
 IQ:mg "BASIC"=some (.ref Jx)
 Ke:mL K BAS Jx=true
 IG:xk P w K ET ["hole","gap","slot"]
 DS:Addr
 EK:mg "Fault"=some (.ref DS)
 Gy:Addr
 Fv:FuncData
 JB:Fun K "__init__" "Fault.__init__" cf Gy Fv
 Gr:vK K DS Gy
 J8:xu K DS "place"
 Jn:CV K DS
 Ep:PySem.W.exmOne K (.ref DS) (.ref DS)=some true
 Ei:mg "len"=none
 D5:mg "isinstance"=none
 Kn:mg "int"=none
 Km:mg "bool"=none
 Ko:mg "str"=none
 Hx:mg "tuple"=none
 IH:mg "list"=none
 Hw:mg "range"=none
 J7:mg "all"=none
 JD:mg "reversed"=none
 Jv:mg "enumerate"=none
 Kw:mg "sum"=none
section
variable {P:Program} {w:World} {K:PySem.W.Frag} {mg:Str->Option Value} {base:Heap} {k:Nat}
theorem jR {α:Type} {us:List α} (h:us.length=1):∃ a0,us=[a0]:=match us,h with | [a0],_=>⟨a0,rfl⟩
theorem kL {α:Type} {us:List α} (h:us.length=2):∃ a0 a1,us=[a0,a1]:=match us,h with | [a0,a1],_=>⟨a0,a1,rfl⟩
theorem pE {α:Type} {us:List α} (h:us.length=3):∃ a0 a1 a2,us=[a0,a1,a2]:=match us,h with | [a0,a1,a2],_=>⟨a0,a1,a2,rfl⟩
theorem len4 {α:Type} {us:List α} (h:us.length=4):∃ a0 a1 a2 a3,us=[a0,a1,a2,a3]:=match us,h with | [a0,a1,a2,a3],_=>⟨a0,a1,a2,a3,rfl⟩
theorem C7 {α:Type} {us:List α} (h:us.length=5):∃ a0 a1 a2 a3 a4,us=[a0,a1,a2,a3,a4]:=match us,h with | [a0,a1,a2,a3,a4],_=>⟨a0,a1,a2,a3,a4,rfl⟩
theorem dO (T:Txt P w K mg):Binds K T.Fv ["self","place"] []:=T.JB.binds λ_ _ _ _ _ _ us hl=>match us,hl with | [_,_],_=>rfl
theorem mS (T:Txt P w K mg):FnOk P w K mg base CX0 (k+1) T.Gy T.Fv ["self","place"] (eO T.DS "place"):=by
 refine T.JB.ok sc_Fault__init (λvs H Q E ⟨e,a0,v,h,_⟩=>by rw [h];rfl) (λcdv A outer s H vs Q E hr ⟨e,a0,v,h,h2,q⟩=>?_)
 have nd:=sc_Fault__init.nd
 refine ⟨_,(aq (tS T.J8 (pv 0) (pv 1))),?_⟩
 subst h
 exact ⟨_,rfl,_,rfl,e,a0,rfl,h2,q⟩
theorem d7 (T:Txt P w K mg):Binds K T.EN ["thing","low","high"] []:=T.EO.binds λ_ _ _ _ _ _ us hl=>by obtain ⟨_,_,_,rfl⟩:=pE hl;rfl
theorem iR (T:Txt P w K mg):Binds K T.Fu ["thing"] []:=T.Ge.binds λ_ _ _ _ _ _ us hl=>by obtain ⟨_,rfl⟩:=jR hl;rfl
theorem vQ (T:Txt P w K mg):Binds K T.Iv ["thing"] []:=T.IP.binds λ_ _ _ _ _ _ us hl=>by obtain ⟨_,rfl⟩:=jR hl;rfl
theorem iS (T:Txt P w K mg):Binds K T.E4 ["tree"] []:=T.Fy.binds λ_ _ _ _ _ _ us hl=>by obtain ⟨_,rfl⟩:=jR hl;rfl
theorem iG (T:Txt P w K mg):Binds K T.EH ["kind","first","second","size"] []:=T.Fg.binds λ_ _ _ _ _ _ us hl=>by obtain ⟨_,_,_,_,rfl⟩:=len4 hl;rfl
theorem ic (T:Txt P w K mg):Binds K T.FY ["tree","args","size"] []:=T.F0.binds λ_ _ _ _ _ _ us hl=>by obtain ⟨_,_,_,rfl⟩:=pE hl;rfl
theorem vP (T:Txt P w K mg):Binds K T.Iu ["thing"] []:=T.IM.binds λ_ _ _ _ _ _ us hl=>by obtain ⟨_,rfl⟩:=jR hl;rfl
theorem gR (T:Txt P w K mg):Binds K T.Ea ["cells","place"] []:=T.Es.binds λ_ _ _ _ _ _ us hl=>by obtain ⟨_,_,rfl⟩:=kL hl;rfl
theorem nS (T:Txt P w K mg):Binds K T.FW ["behind"] []:=T.GS.binds λ_ _ _ _ _ _ us hl=>by obtain ⟨_,rfl⟩:=jR hl;rfl
theorem jK (T:Txt P w K mg):Binds K T.Ey ["self","cells","given","size","pile"] []:=T.FZ.binds λ_ _ _ _ _ _ us hl=>by obtain ⟨_,_,_,_,_,rfl⟩:=C7 hl;rfl
theorem eF (T:Txt P w K mg):Binds K T.E3 ["self"] []:=T.HL.binds λ_ _ _ _ _ _ us hl=>by obtain ⟨_,rfl⟩:=jR hl;rfl
theorem cj (T:Txt P w K mg):Binds K T.Fp ["self","number"] []:=T.HJ.binds λ_ _ _ _ _ _ us hl=>by obtain ⟨_,_,rfl⟩:=kL hl;rfl
theorem nM (T:Txt P w K mg):Binds K T.FQ ["self","name","number","onward"] []:=T.Ih.binds λ_ _ _ _ _ _ us hl=>by obtain ⟨_,_,_,_,rfl⟩:=len4 hl;rfl
theorem kE (T:Txt P w K mg):Binds K T.E1 ["self"] []:=T.GI.binds λ_ _ _ _ _ _ us hl=>by obtain ⟨_,rfl⟩:=jR hl;rfl
theorem kD (T:Txt P w K mg):Binds K T.EZ ["self","name","number"] []:=T.GH.binds λ_ _ _ _ _ _ us hl=>by obtain ⟨_,_,_,rfl⟩:=pE hl;rfl
theorem me (T:Txt P w K mg):Binds K T.Fq ["self"] []:=T.HK.binds λ_ _ _ _ _ _ us hl=>by obtain ⟨_,rfl⟩:=jR hl;rfl
theorem vO (T:Txt P w K mg):Binds K T.Ir ["thing"] []:=T.IL.binds λ_ _ _ _ _ _ us hl=>by obtain ⟨_,rfl⟩:=jR hl;rfl
theorem gx (T:Txt P w K mg):Binds K T.D3 ["thing","deep"] []:=T.EJ.binds λ_ _ _ _ _ _ us hl=>by obtain ⟨_,_,rfl⟩:=kL hl;rfl
theorem eU (T:Txt P w K mg):Binds K T.Fd ["pattern","kind"] []:=T.Ff.binds λ_ _ _ _ _ _ us hl=>by obtain ⟨_,_,rfl⟩:=kL hl;rfl
theorem nR (T:Txt P w K mg):Binds K T.FV ["pattern","kind"] []:=T.GR.binds λ_ _ _ _ _ _ us hl=>by obtain ⟨_,_,rfl⟩:=kL hl;rfl
theorem o5 (T:Txt P w K mg):Binds K T.Gw ["thing"] []:=T.Ht.binds λ_ _ _ _ _ _ us hl=>by obtain ⟨_,rfl⟩:=jR hl;rfl
theorem o4 (T:Txt P w K mg):Binds K T.Gv ["thing","pattern"] []:=T.Hs.binds λ_ _ _ _ _ _ us hl=>by obtain ⟨_,_,rfl⟩:=kL hl;rfl
theorem vN (T:Txt P w K mg):Binds K T.Iq ["thing","pattern"] []:=T.IK.binds λ_ _ _ _ _ _ us hl=>by obtain ⟨_,_,rfl⟩:=kL hl;rfl
theorem jL (T:Txt P w K mg):Binds K T.EA ["cells","pattern"] []:=T.Fe.binds λ_ _ _ _ _ _ us hl=>by obtain ⟨_,_,rfl⟩:=kL hl;rfl
theorem mj (T:Txt P w K mg):Binds K T.GG ["thing"] []:=T.HP.binds λ_ _ _ _ _ _ us hl=>by obtain ⟨_,rfl⟩:=jR hl;rfl
theorem o6 (T:Txt P w K mg):Binds K T.Gx ["piece"] []:=T.Hu.binds λ_ _ _ _ _ _ us hl=>by obtain ⟨_,rfl⟩:=jR hl;rfl
theorem nQ (T:Txt P w K mg):Binds K T.FU ["cell","nums","ks"] []:=T.GQ.binds λ_ _ _ _ _ _ us hl=>by obtain ⟨_,_,_,rfl⟩:=pE hl;rfl
theorem eT (T:Txt P w K mg):Binds K T.D9 ["pattern","trial"] []:=T.Er.binds λ_ _ _ _ _ _ us hl=>by obtain ⟨_,_,rfl⟩:=kL hl;rfl
theorem Ac (T:Txt P w K mg):Binds K T.Ji ["piece","trial","size"] []:=T.Jy.binds λ_ _ _ _ _ _ us hl=>by obtain ⟨_,_,_,rfl⟩:=pE hl;rfl
theorem jm (T:Txt P w K mg):Binds K T.Hz ["choices"] []:=T.GJ.binds λ_ _ _ _ _ _ us hl=>by obtain ⟨_,rfl⟩:=jR hl;rfl
theorem sI (T:Txt P w K mg):Binds K T.HH ["ks","size"] []:=T.IB.binds λ_ _ _ _ _ _ us hl=>by obtain ⟨_,_,rfl⟩:=kL hl;rfl
def jo {α:Type}:List α->List α->List α
 | [x0],[y0]=>[x0,y0]
 | _,_=>[]
theorem oo (T:Txt P w K mg):so K T.Ip ["piece","size"] ["size"] jo jo:=by
 obtain ⟨oc,od,kV,doc,pm,an,cdv,ct,osl,e,lk,hcd⟩:=T.Iw.ex
 refine ⟨λs us ws hK hl=>?_,λ{vs us zs ws} h1 h2=>?_⟩
 ·unfold jo at hl ⊢
  split at hl
  ·rw [e];exact .of_eq rfl
  ·cases hl
 ·cases h1 with
  | nil=>exact .nil
  | cons r1 t1 =>
   cases t1 with
   | cons _ _=>exact .nil
   | nil =>
    cases h2 with
    | nil=>exact .nil
    | cons p1 z1 =>
     cases z1 with
     | cons _ _=>exact .nil
     | nil=>exact (.cons r1 (.cons p1 .nil))
theorem gv (T:Txt P w K mg):Binds K T.Fs ["_law_script","_law_town","_law_many"] []:=T.Fw.binds λ_ _ _ _ _ _ us hl=>by obtain ⟨_,_,_,rfl⟩:=pE hl;rfl
theorem ft (T:Txt P w K mg):Binds K T.Gd ["_law_script","_law_town","_law_some"] []:=T.E7.binds λ_ _ _ _ _ _ us hl=>by obtain ⟨_,_,_,rfl⟩:=pE hl;rfl
theorem mf (T:Txt P w K mg):Binds K T.GF ["_law_name","_law_one","_law_other","_law_base"] []:=T.HN.binds λ_ _ _ _ _ _ us hl=>by obtain ⟨_,_,_,_,rfl⟩:=len4 hl;rfl
theorem o3 (T:Txt P w K mg):Binds K T.Gu [] []:=T.Hr.binds λ_ _ _ _ _ _ us hl=>match us,hl with | [],_=>rfl
theorem nN (T:Txt P w K mg):Binds K T.FR ["_law_number"] []:=T.GN.binds λ_ _ _ _ _ _ us hl=>by obtain ⟨_,rfl⟩:=jR hl;rfl
theorem qC (T:Txt P w K mg):Binds K T.GY ["_law_name","_law_number","_law_pile","_law_args","_law_base"] []:=T.Ib.binds λ_ _ _ _ _ _ us hl=>by obtain ⟨_,_,_,_,_,rfl⟩:=C7 hl;rfl
theorem nP (T:Txt P w K mg):Binds K T.FT [] []:=T.GP.binds λ_ _ _ _ _ _ us hl=>match us,hl with | [],_=>rfl
theorem qD (T:Txt P w K mg):Binds K T.GZ ["_law_cells","_law_nums","_law_ks"] []:=T.Ic.binds λ_ _ _ _ _ _ us hl=>by obtain ⟨_,_,_,rfl⟩:=pE hl;rfl
theorem gw (T:Txt P w K mg):Binds K T.Ha ["_law_choices"] []:=T.Fx.binds λ_ _ _ _ _ _ us hl=>by obtain ⟨_,rfl⟩:=jR hl;rfl
theorem cy (T:Txt P w K mg):Binds K T.Eo ["_law_pattern","_law_head"] []:=T.DZ.binds λ_ _ _ _ _ _ us hl=>by obtain ⟨_,_,rfl⟩:=kL hl;rfl
theorem ib (T:Txt P w K mg):Binds K T.Fc ["_law_pattern","_law_trial","_law_base"] []:=T.FE.binds λ_ _ _ _ _ _ us hl=>by obtain ⟨_,_,_,rfl⟩:=pE hl;rfl
theorem nO (T:Txt P w K mg):Binds K T.FS ["_law_cells","_law_pile","_law_args","_law_base"] []:=T.GO.binds λ_ _ _ _ _ _ us hl=>by obtain ⟨_,_,_,_,rfl⟩:=len4 hl;rfl
theorem iQ (T:Txt P w K mg):Binds K T.Ef ["_law_piece","_law_base"] []:=T.EI.binds λ_ _ _ _ _ _ us hl=>by obtain ⟨_,_,rfl⟩:=kL hl;rfl
theorem fW (T:Txt P w K mg):Binds K T.Ez ["_law_script","_law_town"] []:=T.EB.binds λ_ _ _ _ _ _ us hl=>by obtain ⟨_,_,rfl⟩:=kL hl;rfl
def bY (d:D) (lo hi:Int):Bool:=match d with
 | .int i=>decide (lo≤i) && decide (i≤hi)
 | _=>false
def eS (ds:List D) (d:D):Prop:=∃ x lo hi,ds=[x,.int lo,.int hi]/\d=.bl (bY x lo hi)
def du:D->Bool
 | .tup (.str _::_)=>true
 | _=>false
def lO (ds:List D) (d:D):Prop:=∃ x,ds=[x]/\d=.bl (du x)
def oi (k:Str) (T:List (Str × KTD.Dat)):Int:=match KTD.datumAt k T with
 | some (.flat (.int i))=>i
 | _=>0
def eB:D->Bool
 | .tup (.str k::r)=>if KTD.inKeys k TL=true then decide ((r.length:Int)+1=2) && bY (r.getD 0 .non) 0 (oi k TL) else KTD.inKeys k TB && decide ((r.length:Int)+1=1+oi k TB)
 | _=>false
def Bo (ds:List D) (d:D):Prop:=∃ x,ds=[x]/\d=.bl (eB x)
def bV:D->List D
 | .tup (.str k::r)=>if KTD.inKeys k TB=true then r else []
 | _=>[]
def j0 (ds:List D) (d:D):Prop:=∃ k r,ds=[.tup (.str k::r)]/\d=.tup (bV (.tup (.str k::r)))
theorem Dy {T:List (Str × KTD.Dat)} {k:Str} (hT:∀ p ∈ T,∃ i,p.2=.flat (.int i)) (h:KTD.inKeys k T=true):KTD.datumAt k T=some (.flat (.int (oi k T))):=by
 unfold oi
 cases e:KTD.datumAt k T with
 | none=>exact absurd e (KTD.at_of_mem h)
 | some d =>
  have all:∀ (T:List (Str × KTD.Dat)),(∀ p ∈ T,∃ i,p.2=.flat (.int i))->KTD.datumAt k T=some d->∃ i,d=.flat (.int i):=by
   intro T
   induction T with
   | nil=>intro _ e;simp [KTD.datumAt] at e
   | cons p r ih =>
    intro hp e
    obtain ⟨x,y⟩:=p
    have e':(if decide (k=x)=true then some y else KTD.datumAt k r)=some d:=e
    by_cases hx:k=x
    ·rw [if_pos (decide_eq_true hx)] at e'
     cases e'
     exact hp _ List.mem_cons_self
    ·rw [if_neg (by simp [hx])] at e'
     exact ih (λp hp'=>hp p (List.mem_cons_of_mem _ hp')) e'
  obtain ⟨i,rfl⟩:=all T hT e
  rfl
theorem BQ:∀ p ∈ TL,∃ i,p.2=.flat (.int i):=by
 intro p hp
 simp only [TL,List.mem_cons,List.not_mem_nil,or_false] at hp
 rcases hp with rfl | rfl <;> exact ⟨_,rfl⟩
theorem BO:∀ p ∈ TB,∃ i,p.2=.flat (.int i):=by
 intro p hp
 simp only [TB,List.mem_cons,List.not_mem_nil,or_false] at hp
 rcases hp with rfl | rfl | rfl | rfl | rfl <;> exact ⟨_,rfl⟩
theorem rj (T:Txt P w K mg)  : FnOk P w K mg base CX0 (k+1) T.EM T.EN ["thing","low","high"] (spD K eS):=by
 refine T.EO.ok sc_is_whole (λvs H Q E h=>?_) (λcdv A outer s H vs Q E hr h=>?_)
 ·obtain ⟨ds,d,hd,⟨x,lo,hi,rfl,rfl⟩,_⟩:=h;exact hd.length.symm
 have nd:=sc_is_whole.nd
 obtain ⟨ds,d,hd,⟨x,lo,hi,rfl,rfl⟩,post⟩:=h
 obtain ⟨v0,v1,v2,rfl,h0,h1,h2⟩:=kW hd
 have g1:=h1.intE
 have g2:=h2.intE
 subst g1 g2
 refine ⟨_,(aq (aE (kO (aO (dP yf) rfl T.D5 bR (bZ (pv 0) (bZ (fg (v:=.ty "int") rfl T.Kn xE rfl) af))) (kO (Cj (aO (dP Aq) rfl T.D5 bR (bZ (pv 0) (bZ (fg (v:=.ty "bool") rfl T.Km Ah rfl) af)))) (kP (rF lB lB (pv 1) (pv 0) (pv 2))))))),?_⟩
 refine aP (K:=K) (d:=.bl (bY x lo hi)) ?_ post
 cases x with
 | int i=>exact RE.as (di (bI (ae h0)) λ_=>di (zx (bI (ae h0))) λ_=>nj (ae h1) (ae h0) λ_=>ae h2) rfl
 | bl y=>exact RE.as (di (c:=false) (bI (ae h0)) λ_=>RE.as (di (c:=true) (zx (bI (ae h0))) λz=>nomatch z) rfl) rfl
 | non=>exact RE.as (di (c:=true) (bI (ae h0)) λz=>nomatch z) rfl
 | str y=>exact RE.as (di (c:=true) (bI (ae h0)) λz=>nomatch z) rfl
 | tup y=>exact RE.as (di (c:=true) (bI (ae h0)) λz=>nomatch z) rfl
 | lst=>exact RE.as (di (c:=true) (bI (ae h0)) λz=>nomatch z) rfl
theorem pP (T:Txt P w K mg)  : FnOk P w K mg base CX0 (k+1) T.Fo T.Fu ["thing"] (spD K lO):=by
 refine T.Ge.ok sc_is_tagged (λvs H Q E h=>?_) (λcdv A outer s H vs Q E hr h=>?_)
 ·obtain ⟨ds,d,hd,⟨x,rfl,rfl⟩,_⟩:=h;exact hd.length.symm
 have nd:=sc_is_tagged.nd
 obtain ⟨ds,d,hd,⟨x,rfl,rfl⟩,post⟩:=h
 obtain ⟨v0,rfl,h0⟩:=fA hd
 refine ⟨_,(aq (aE (kO (aO (dP iY) rfl T.D5 bR (bZ (pv 0) (bZ (fg (v:=.ty "tuple") rfl T.Hx fw rfl) af))) (kO (iq m3 (aO aL rfl T.Ei bH (ag (pv 0) af)) aj (aJ _)) (kP (aO (dP yh) rfl T.D5 bR (bZ (aN aI (pv 0) aj (λ_ _=>rfl)) (bZ (fg (v:=.ty "str") rfl T.Ko xF rfl) af)))))))),?_⟩
 refine aP (K:=K) (d:=.bl (du x)) ?_ post
 cases x with
 | tup ds =>
  cases ds with
  | nil=>exact RE.as (di (c:=false) (bI (ae h0)) λ_=>RE.as (di (c:=true) (bC (bQ (ae h0)) ah) λz=>nomatch z) rfl) rfl
  | cons y r =>
   have l:decide ((0:Int) < (((y::r).length:Nat):Int))=true:=decide_eq_true (by rw [List.length_cons];omega)
   refine RE.as (di (bI (ae h0)) λ_=>di (RE.as (bC (bQ (ae h0)) ah) (congrArg D.bl l)) λ_=>bI (aM (k:=0) (ae h0) ah (show (y::r)[0]?=some y from rfl))) ?_
   cases y <;> rfl
 | int i=>exact RE.as (di (c:=true) (bI (ae h0)) λz=>nomatch z) rfl
 | bl y=>exact RE.as (di (c:=true) (bI (ae h0)) λz=>nomatch z) rfl
 | non=>exact RE.as (di (c:=true) (bI (ae h0)) λz=>nomatch z) rfl
 | str y=>exact RE.as (di (c:=true) (bI (ae h0)) λz=>nomatch z) rfl
 | lst=>exact RE.as (di (c:=true) (bI (ae h0)) λz=>nomatch z) rfl
theorem tN (T:Txt P w K mg) (GT:FnOk P w K mg base CX0 k T.Fo T.Fu ["thing"] (spD K lO)) (Ej:FnOk P w K mg base CX0 k T.EM T.EN ["thing","low","high"] (spD K eS)):FnOk P w K mg base CX0 (k+1) T.Io T.Iv ["thing"] (spD K Bo):=by
 refine T.IP.ok sc_is_node (λvs H Q E h=>?_) (λcdv A outer s H vs Q E hr h=>?_)
 ·obtain ⟨ds,d,hd,⟨x,rfl,rfl⟩,_⟩:=h;exact hd.length.symm
 have nd:=sc_is_node.nd
 obtain ⟨ds,d,hd,⟨x,rfl,rfl⟩,post⟩:=h
 obtain ⟨v0,rfl,h0⟩:=fA hd
 refine ⟨_,(ak (aT (cI (bz (aD GT hr rfl T.Ie T.Ge.kp (iR T) .nil aQ (ag (pv 0) af)) (λ_=>rfl))) (aq (aE cV)) aF)
 (ak (ba (i:=1) nd rfl (Or.inl rfl) (aN aI (pv 0) aj (λ_ _=>rfl)))
 (ak (aT (az m4 (pv 1) (bj (v:=.ref T.Fj) rfl T.ED rfl) (by with_unfolding_all rfl)) (aq (aE (kO (iq bK (aO aL rfl T.Ei bH (ag (pv 0) af)) aj (aJ _)) (kP (aD Ej hr rfl T.FB T.EO.kp (d7 T) .nil aQ (ag (aN aI (pv 0) aj (λ_ _=>rfl)) (ag aj (ag (aN yo (bj (v:=.ref T.Fj) rfl T.ED rfl) (pv 1) (λ_ _=>rfl)) af)))))))) aF)
 (aq (aE (kO (iq m4 (pv 1) (bj (v:=.ref T.Eg) rfl T.DW rfl) (by with_unfolding_all rfl)) (kP (iq bK (aO aL rfl T.Ei bH (ag (pv 0) af)) (aU ck aj (aN yo (bj (v:=.ref T.Eg) rfl T.DW rfl) (pv 1) (λ_ _=>rfl))) (aJ _))))))))),?_⟩
 refine aA (K:=K) (b:=!du x) (bD (aV (aS (aa (ae h0) ao) ⟨x,rfl,rfl⟩))) (λc H1 s1=>?_) (λc H1 s1=>?_)
 ·refine aP (K:=K) (d:=.bl (eB x)) ?_ λv H' s q=>post v H' (s1.trans s) q
  have e:eB x=false:=by
   unfold eB
   split
   ·unfold du at c;simp at c
   ·rfl
  rw [e]
  exact eI
 ·have h0':=s1.dat h0
  have c':du x=true:=by simpa using c
  unfold du at c'
  split at c'
  ·rename_i kd r
   refine bL (K:=K) (d:=.str kd) (aM (k:=0) (ae h0') ah rfl) λv1 H2 s2 q2=>?_
   have h2:=s2.dat h0'
   have ev:=q2.strE
   subst ev
   refine aA (K:=K) (b:=KTD.inKeys kd TL) (au (nt (ae q2) T.EE)) (λcL H3 s3=>?_) (λcL H3 s3=>?_)
   ·have h3:=s3.dat h2
    have e:eB (.tup (.str kd::r))=(decide ((r.length:Int)+1=2) && bY (r.getD 0 .non) 0 (oi kd TL)):=by
     show (if KTD.inKeys kd TL=true then _ else _)=_
     rw [if_pos cL]
    refine aP (K:=K) (d:=.bl (eB (.tup (.str kd::r)))) ?_ λv H' s q=>post v H' (s1.trans (s2.trans (s3.trans s))) q
    rw [e]
    have el:((((D.str kd)::r).length:Nat):Int)=(r.length:Int)+1:=by rw [List.length_cons];omega
    have b1:=dC (K:=K) (bQ (ae (σ:=(eP ["thing","kind"] [v0]).set 1 (some (.str kd))) (k:=0) h3)) (ah (i:=2))
    rw [el] at b1
    refine di b1 λhl=>?_
    have hl':(r.length:Int)+1=2:=of_decide_eq_true hl
    obtain ⟨y,er⟩:∃ y,r=[y]:=by
     match r,hl' with
     | [],h=>simp at h
     | [y],_=>exact ⟨y,rfl⟩
     | _::_::_,h=>simp at h;omega
    subst er
    refine aS (E:=E0) (R:=eS) (aa (aM (k:=1) (ae h3) ah rfl) (aa ah (aa (rV (ae (s3.dat q2)) T.EE (by rfl) (Dy BQ cL)) ao))) ⟨y,0,oi kd TL,rfl,rfl⟩
   ·have h3:=s3.dat h2
    have e:eB (.tup (.str kd::r))=(KTD.inKeys kd TB && decide ((r.length:Int)+1=1+oi kd TB)):=by
     show (if KTD.inKeys kd TL=true then _ else _)=_
     rw [if_neg (by rw [cL];exact Bool.false_ne_true)]
    refine aP (K:=K) (d:=.bl (eB (.tup (.str kd::r)))) ?_ λv H' s q=>post v H' (s1.trans (s2.trans (s3.trans s))) q
    rw [e]
    have el:((((D.str kd)::r).length:Nat):Int)=(r.length:Int)+1:=by rw [List.length_cons];omega
    refine di (nt (ae (s3.dat q2)) T.DX) λcB=>?_
    have b1:=dC (K:=K) (bQ (ae (σ:=(eP ["thing","kind"] [v0]).set 1 (some (.str kd))) (k:=0) h3)) (cq (ah (i:=1)) (rV (ae (σ:=(eP ["thing","kind"] [v0]).set 1 (some (.str kd))) (k:=1) (s3.dat q2)) T.DX (by rfl) (Dy BO cB)))
    rw [el] at b1
    exact b1
  ·cases c'
theorem lL (T:Txt P w K mg)  : FnOk P w K mg base CX0 (k+1) T.EX T.E4 ["tree"] (spD K j0):=by
 refine T.Fy.ok sc_trees_within (λvs H Q E h=>?_) (λcdv A outer s H vs Q E hr h=>?_)
 ·obtain ⟨ds,d,hd,⟨kd,r,rfl,rfl⟩,_⟩:=h;exact hd.length.symm
 have nd:=sc_trees_within.nd
 obtain ⟨ds,d,hd,⟨kd,r,rfl,rfl⟩,post⟩:=h
 obtain ⟨v0,rfl,h0⟩:=fA hd
 refine ⟨_,(ak (aT (az m4 (aN aI (pv 0) aj (λ_ _=>rfl)) (bj (v:=.ref T.Eg) rfl T.DW rfl) (by with_unfolding_all rfl)) (aq (aE (jc qm (pv 0) (gC aj) vm))) aF)
 (aq (aE (aC af)))),?_⟩
 refine aA (K:=K) (b:=KTD.inKeys kd TB) (au (nt (aM (k:=0) (ae h0) ah rfl) T.DX)) (λc H1 s1=>?_) (λc H1 s1=>?_)
 ·refine aP (K:=K) (d:=.tup r) (wR (ae (s1.dat h0))) λv H' s q=>post v H' (s1.trans s) ?_
  show Dat K H' (.tup (if KTD.inKeys kd TB=true then r else [])) v
  rw [if_pos c]
  exact q
 ·refine aP (K:=K) (σ:=eP ["tree"] [v0]) (d:=.tup []) (aB ao) λv H' s q=>post v H' (s1.trans s) ?_
  show Dat K H' (.tup (if KTD.inKeys kd TB=true then r else [])) v
  rw [if_neg (by rw [c];exact Bool.false_ne_true)]
  exact q
theorem yP {ns:List Int} {k:Int} (h0:0≤k) (h1:k < (ns.length:Int)):∃ z,atI (ns.map V.int) k=some (.int z):=by
 have hk:k.toNat < ns.length:=by omega
 refine ⟨ns[k.toNat],?_⟩
 have e:k=((k.toNat:Nat):Int):=by omega
 have q:atI (ns.map V.int) ((k.toNat:Nat):Int)=some (.int ns[k.toNat]):=gu (by rw [List.getElem?_map,List.getElem?_eq_getElem hk] <;> rfl)
 rw [← e] at q
 exact q
theorem pL (T:Txt P w K mg)  : FnOk P w K mg base CX0 (k+1) T.Fn T.Fs ["_law_script","_law_town","_law_many"] (nF K):=by
 refine T.Fw.ok sc__law_draw (λvs H Q E h=>?_) (λcdv A outer s H vs Q E hr h=>?_)
 ·obtain ⟨a,t,ns,m,p,q,rest,rfl,_⟩:=h;rfl
 have nd:=sc__law_draw.nd
 obtain ⟨a,t,ns,m,p,q,rest,rfl,hS,hT,hp,hm,hm2,post⟩:=h
 refine ⟨_,(ak (aT (az m3 (aN ix_list (pv 1) aj (λ_ _=>rfl)) aj (aJ _)) (ak (ba (i:=3) nd rfl (Or.inl rfl) (aU cH (aN ix_list (pv 1) aj (λ_ _=>rfl)) (pv 2)))
 (ak (eX (aU lS (aN ix_list (pv 1) aj (λ_ _=>rfl)) (pv 2)) (yM (pv 1) aj nD))
 (aq (aE (pv 3))))) aF)
 (ak (ba (i:=4) nd rfl (Or.inl rfl) (aN ix_list (pv 1) aj (λ_ _=>rfl)))
 (ak (AQ (pv 1) aj xZ aj sY nD)
 (ak (aT (az (pT hr) (pv 0) (bu af) (aJ _)) (aq (aE (aU cH (pv 4) (pv 2)))) aF)
 (ak (aT (PW.pt (m9 (az jE (pv 4) (aO aL rfl T.Ei bH (ag (pv 0) af)) (aJ _)) (kq (az rq (aN ix_list (pv 0) (pv 4) (λ_ _=>rfl)) (aU pX aj aj) (aJ _))))) (ak (eX (aU cH (aU lS (aN ix_list (pv 0) (pv 4) (λ_ _=>rfl)) (pv 2)) (aU AG (aU pX aj aj) (aU pX aj aj))) (yM (pv 1) aj nD))
 (aq (aE (aU cH (aN ix_list (pv 0) (pv 4) (λ_ _=>rfl)) (pv 2))))) aF)
 (ak (ba (i:=5) nd rfl (Or.inl rfl) (aU cH (aU ck (aU ck (aU kN (aN ix_list (pv 0) (aU cH (pv 4) (aO aL rfl T.Ei bH (ag (pv 0) af))) (λ_ _=>rfl)) aj) (aU kN aj (pv 4))) aj) aj))
 (aq (aE (aU cH (aU cH (aU cH (aU pX (pv 5) aj) aj) aj) (pv 2)))))))))),?_⟩
 refine ⟨_,rfl,t,_,1,_,rfl,rfl,SqL.of hT,at1,q,0,rfl,rfl,_,rfl,?_⟩
 refine Av (λc=>?_) (λc=>?_)
 ·refine ⟨_,rfl,t,_,1,_,rfl,rfl,SqL.of hT,at1,_,rfl,q,m,rfl,rfl,hm,?_⟩
  refine ⟨_,rfl,t,_,1,_,rfl,rfl,SqL.of hT,at1,_,rfl,q,m,rfl,rfl,⟨hm,by omega⟩,?_⟩
  refine ⟨_,rfl,t,_,1,1,rfl,rfl,hT,ix1,?_⟩
  refine ⟨_,rfl,?_⟩
  exact post (q % m) _ p (q / m) (But.upd (Same.refl H).but) ay hp (Int.emod_nonneg _ (by omega)) (Int.emod_lt_of_pos _ hm)
 refine ⟨_,rfl,t,_,0,_,rfl,rfl,SqL.of hT,at0,?_⟩
 refine ⟨_,rfl,t,_,0,_,rfl,rfl,Int.le_refl 0,SqL.of hT,rfl,p,1,rfl,rfl,t,_,0,0,rfl,rfl,hT,ix0,?_⟩
 refine ⟨_,rfl,(by show 0≤sizeLine;decide),λl hl=>?_⟩
 have bt1:But t H (upd H t (.lst ((V.int p::.int q::rest).set 0 (.int (p+1))))):=But.upd (Same.refl H).but
 have hlt:l≠t:=λz=>by rw [z,ay] at hl;cases hl
 have bt3:=bt1.trans (aG hl (.lst [])).but
 have ht3:upd (upd H t (.lst ((V.int p::.int q::rest).set 0 (.int (p+1))))) l (.lst []) t=some (.lst (.int (p+1)::.int q::rest)):=by
  rw [aK (Ne.symm hlt)];exact ay
 have hS3:=(hS.but bt3 hT).sqL
 have hlen:((ns.map V.int).length:Int)=(ns.length:Int):=by rw [List.length_map]
 refine ⟨a,l,_,[],ns.map D.int,[],rfl,rfl,hS3,SqL.of ay,cU ns,Dats.nil,dE ns,(by unfold noLs;rfl),(by rw [cJ];decide),_,rfl,?_⟩
 show (if eqDs (ns.map D.int) []=true then _ else _)
 rw [ka]
 refine Av (λc0=>?_) (λc0=>?_)
 ·refine ⟨_,rfl,_,rfl,p,m,rfl,rfl,hm,?_⟩
  exact post _ _ (p+1) q bt3 ht3 (by omega) (Int.emod_nonneg _ (by omega)) (Int.emod_lt_of_pos _ hm)
 have hl0:(0:Int) < ((ns.map V.int).length:Int):=by
  rw [hlen]
  cases ns with
  | nil=>exact absurd rfl c0
  | cons n ns=>rw [List.length_cons];omega
 refine ⟨_,rfl,_,rfl,a,_,rfl,.inl hS3,p,_,rfl,rfl,_,rfl,?_⟩
 refine Av (λc1=>?_) (λc1=>?_)
 ·have c1':p < ((ns.map V.int).length:Int):=of_decide_eq_true c1
  obtain ⟨z,hz⟩:=yP (ns:=ns) hp (by rw [← hlen];exact c1')
  refine ⟨_,rfl,_,rfl,a,_,p,_,rfl,rfl,hS3,hz,10,18,rfl,rfl,⟨by decide,by decide,by decide⟩,z,_,rfl,rfl,_,rfl,?_⟩
  refine Av (λc2=>?_) (λc2=>?_)
  ·refine ⟨_,rfl,_,rfl,a,_,p,_,rfl,rfl,hS3,hz,_,rfl,z,m,rfl,rfl,⟨hm,by omega⟩,10,60,rfl,rfl,⟨by decide,by decide,by decide⟩,10,60,rfl,rfl,⟨by decide,by decide,by decide⟩,_,_,rfl,rfl,IntMulOk.of_bits (by decide +kernel) (by decide +kernel),_,_,rfl,rfl,(by show (0:Int) < 10 ^ (60:Int).toNat * 10 ^ (60:Int).toNat;decide +kernel),?_⟩
   refine ⟨_,rfl,t,_,1,1,rfl,rfl,ht3,ix1,?_⟩
   refine ⟨_,rfl,_,rfl,a,_,p,_,rfl,rfl,(hS.but bt3.upd hT).sqL,hz,_,rfl,z,m,rfl,rfl,hm,?_⟩
   exact post _ _ (p+1) _ bt3.upd ay (by omega) (Int.emod_nonneg _ (by omega)) (Int.emod_lt_of_pos _ hm)
  ·refine ⟨_,rfl,_,rfl,_,rfl,a,_,rfl,.inl hS3,p,_,rfl,rfl,hl0,?_⟩
   obtain ⟨z2,hz2⟩:=yP (ns:=ns) (Int.emod_nonneg p (by omega:((ns.map V.int).length:Int)≠0)) (by rw [← hlen];exact Int.emod_lt_of_pos p hl0)
   refine ⟨a,_,_,_,rfl,rfl,hS3,hz2,z2,1103515245,rfl,rfl,.inr ⟨by decide,by decide⟩,_,rfl,7919,p,rfl,rfl,.inl ⟨by decide,by decide⟩,_,_,rfl,rfl,_,_,rfl,rfl,_,_,rfl,rfl,(by show (0:Int) < 2147483647;decide),?_⟩
   have m1:=Int.emod_nonneg (z2 * 1103515245+7919 * p+12345) (by decide:(2147483647:Int)≠0)
   have m2:=Int.emod_lt_of_pos (z2 * 1103515245+7919 * p+12345) (by decide:(0:Int) < 2147483647)
   refine ⟨_,rfl,_,5,rfl,rfl,⟨by decide,by decide,by omega⟩,_,_,rfl,rfl,(by show (0:Int) < 2147483647;decide),_,_,rfl,rfl,(by show (0:Int) < 999983;decide),_,rfl,_,m,rfl,rfl,hm,?_⟩
   exact post _ _ (p+1) q bt3 ht3 (by omega) (Int.emod_nonneg _ (by omega)) (Int.emod_lt_of_pos _ hm)
 ·refine ⟨_,rfl,_,rfl,_,rfl,a,_,rfl,.inl hS3,p,_,rfl,rfl,hl0,?_⟩
  obtain ⟨z2,hz2⟩:=yP (ns:=ns) (Int.emod_nonneg p (by omega:((ns.map V.int).length:Int)≠0)) (by rw [← hlen];exact Int.emod_lt_of_pos p hl0)
  refine ⟨a,_,_,_,rfl,rfl,hS3,hz2,z2,1103515245,rfl,rfl,.inr ⟨by decide,by decide⟩,_,rfl,7919,p,rfl,rfl,.inl ⟨by decide,by decide⟩,_,_,rfl,rfl,_,_,rfl,rfl,_,_,rfl,rfl,(by show (0:Int) < 2147483647;decide),?_⟩
  have m1:=Int.emod_nonneg (z2 * 1103515245+7919 * p+12345) (by decide:(2147483647:Int)≠0)
  have m2:=Int.emod_lt_of_pos (z2 * 1103515245+7919 * p+12345) (by decide:(0:Int) < 2147483647)
  refine ⟨_,rfl,_,5,rfl,rfl,⟨by decide,by decide,by omega⟩,_,_,rfl,rfl,(by show (0:Int) < 2147483647;decide),_,_,rfl,rfl,(by show (0:Int) < 999983;decide),_,rfl,_,m,rfl,rfl,hm,?_⟩
  exact post _ _ (p+1) q bt3 ht3 (by omega) (Int.emod_nonneg _ (by omega)) (Int.emod_lt_of_pos _ hm)
def qp (K:PySem.W.Frag):Sp:=λvs H Q _=>∃ (a t l:Addr) (ns:List Int) (xs:List V) (p q:Int) (rest:List V),vs=[.ref a,.ref t,.ref l]/\Scr K H a ns/\SqL K H l xs/\l≠t/\0 < xs.length/\xs.length≤1000000 /\
 H t=some (.lst (.int p::.int q::rest))/\0≤p/\∀ (i:Nat) (x:V) (H':Hp) (p' q':Int),But t H H'->H' t=some (.lst (.int p'::.int q'::rest))->0≤p'->xs[i]?=some x->Q x H'
theorem pN (T:Txt P w K mg) (Ga:FnOk P w K mg base CX0 k T.Fn T.Fs ["_law_script","_law_town","_law_many"] (nF K)):FnOk P w K mg base CX0 (k+1) T.Gc T.Gd ["_law_script","_law_town","_law_some"] (qp K):=by
 refine T.E7.ok sc__law_pick (λvs H Q E h=>?_) (λcdv A outer s H vs Q E hr h=>?_)
 ·obtain ⟨a,t,l,ns,xs,p,q,rest,rfl,_⟩:=h;rfl
 have nd:=sc__law_pick.nd
 obtain ⟨a,t,l,ns,xs,p,q,rest,rfl,hS,hL,hlt,hx0,hx1,hT,hp,post⟩:=h
 refine ⟨_,(aq (aE (aN ix_list (pv 2) (aD Ga hr rfl T.He T.Fw.kp (gv T) .nil aQ (ag (pv 0) (ag (pv 1) (ag (aO aL rfl T.Ei bH (ag (pv 2) af)) af)))) (λ_ _=>rfl)))),?_⟩
 refine ⟨_,rfl,_,rfl,_,rfl,_,rfl,l,xs,rfl,.inl hL,a,t,ns,(xs.length:Int),p,q,rest,rfl,hS,hT,hp,by omega,by omega,λr H1 p1 q1 b1 t1 g1 r0 r1=>?_⟩
 have hr':r.toNat < xs.length:=by omega
 have er:r=((r.toNat:Nat):Int):=by omega
 have z:atI xs ((r.toNat:Nat):Int)=some xs[r.toNat]:=gu (List.getElem?_eq_getElem hr')
 rw [← er] at z
 exact ⟨l,xs,r,xs[r.toNat],rfl,rfl,b1.sqL hlt hL,z,post r.toNat _ H1 p1 q1 b1 t1 g1 (List.getElem?_eq_getElem hr')⟩
end
inductive Tr where
 | num (n:Int)
 | arg (k:Int)
 | two (o:Str) (a b:Tr)
 | pick (a b c:Tr)
def toD:Tr->D
 | .num n=>.tup [.str "num",.int n]
 | .arg k=>.tup [.str "arg",.int k]
 | .two o a b=>.tup [.str o,toD a,toD b]
 | .pick a b c=>.tup [.str "pick",toD a,toD b,toD c]
def okT:Tr->Prop
 | .num n=>0≤n/\n≤9999
 | .arg k=>0≤k/\k≤3
 | .two o a b=>(o="add"\/o="sub"\/o="mul"\/o="less")/\okT a/\okT b
 | .pick a b c=>okT a/\okT b/\okT c
def dB:Tr->Nat
 | .num _=>1
 | .arg _=>1
 | .two _ a b=>max (dB a) (dB b)+1
 | .pick a b c=>max (dB a) (max (dB b) (dB c))+1
theorem vU (t:Tr):1≤dB t:=by cases t <;> simp [dB]
variable {k:Str} {r:List D}
theorem yB (h:KTD.inKeys k TL=false):eB (.tup (.str k::r))=(KTD.inKeys k TB && decide ((r.length:Int)+1=1+oi k TB)):=by
 unfold eB
 dsimp only
 rw [if_neg (by rw [h];exact Bool.false_ne_true)]
theorem gU (h:KTD.inKeys k TB=false):bV (.tup (.str k::r))=[]:=by
 unfold bV
 dsimp only
 rw [if_neg (by rw [h];exact Bool.false_ne_true)]
section
variable {P:Program} {w:World} {K:PySem.W.Frag} {mg:Str->Option Value} {base:Heap} {k:Nat}
theorem Bl (k:Str):oi k TB≤3:=by
 unfold oi
 split
 ·rename_i i e
  simp only [TB,KTD.datumAt] at e
  repeat' split at e
  all_goals first
   | (cases e;decide)
   | cases e
 ·decide
variable {d:D}
theorem qR (h:eB d=true):(bV d).length≤3:=by
 unfold eB at h
 split at h
 ·rename_i k r
  unfold bV
  dsimp only
  split
  ·rename_i hb
   split at h
   ·rw [Bool.and_eq_true] at h
    have z:=of_decide_eq_true h.1
    omega
   ·rw [Bool.and_eq_true] at h
    have z:=of_decide_eq_true h.2
    have z2:=Bl k
    omega
  ·exact Nat.zero_le _
 ·cases h
theorem qY (h:eB d=true):∃ k r,d=.tup (.str k::r):=by
 unfold eB at h
 split at h
 ·exact ⟨_,_,rfl⟩
 ·cases h
theorem iV {b:Bool} (h:(!b)=true):b=false:=by cases b with | true=>cases h | false=>rfl
theorem fX {b:Bool} (h:(!b)=false):b=true:=by cases b with | true=>rfl | false=>cases h
def sgn (c:Nat):Bool:=(!decide (([c]:List Nat) < ("a":Str).cps.toList)) && !decide (("z":Str).cps.toList < ([c]:List Nat))
def gZ:D->Bool
 | .str x=>(decide (1≤(x.length:Int)) && decide ((x.length:Int)≤8)) && (x.cps.toList.map sgn).all id
 | _=>false
def Bu:D->Prop
 | .str x=>x.length≤sizeLine
 | _=>True
def xo (ds:List D) (d:D):Prop:=∃ x,ds=[x]/\Bu x/\d=.bl (gZ x)
variable {x:D}
theorem tf (h:∀ y,x≠.str y):mH x "str"=false:=by
 cases x with
 | str y=>exact absurd rfl (h y)
 | _=>rfl
theorem yv (h:∀ y,x≠.str y):gZ x=false:=by
 cases x with
 | str y=>exact absurd rfl (h y)
 | _=>rfl
theorem tM (T:Txt P w K mg)  : FnOk P w K mg base CX0 (k+1) T.Im T.Iu ["thing"] (spD K xo):=by
 refine T.IM.ok sc_is_name (λvs H Q E h=>?_) (λcdv A outer s H vs Q E hr h=>?_)
 ·obtain ⟨ds,d,hd,⟨x,rfl,_⟩,_⟩:=h;exact hd.length.symm
 have nd:=sc_is_name.nd
 obtain ⟨ds,d,hd,⟨x,rfl,hx,rfl⟩,post⟩:=h
 obtain ⟨v0,rfl,h0⟩:=fA hd
 refine ⟨_,(ak (aT (PW.pt (fM (cI (bz (aO (dP yh) rfl T.D5 bR (bZ (pv 0) (bZ (fg (v:=.ty "str") rfl T.Ko xF rfl) af))) (λ_=>rfl))) (eG (cI (rN lB lB aj (aO pe rfl T.Ei bH (ag (pv 0) af)) (bj (v:=.int 8) rfl T.E5 ⟨_,rfl⟩)))))) (aq (aE cV)) aF)
 (aq (aE (aO (j4 rfl) rfl T.J7 o9 (ag (cZ (own:=["sign"]) (fr:=[]) (N':=["sign"]) (Cm (pv 0)) rfl (by show cR ["thing"] (λx=>(ax hU).names.lookup x) _ _ _ _=true;decide +kernel) rfl (λ_ _ _ _ _=>(aH (i:=0) (by show List.Nodup [("sign":Str)];decide +kernel) rfl (Or.inl rfl))) (λ_ _ _ _ _=>cn) (λ_ _ _ _ _=>(rF yJ yJ aw (pv 0) aw))) af))))),?_⟩
 by_cases hs:∃ y,x=.str y
 ·obtain ⟨y,rfl⟩:=hs
  have hx:y.length≤sizeLine:=hx
  refine aA (K:=K) (b:=!(decide (1≤(y.length:Int)) && decide ((y.length:Int)≤8))) ?_ (λc H1 s1=>?_) (λc H1 s1=>?_)
  ·exact RT.as (cO (bD (aV (bI (ae h0)))) λ_=>bD (au (nj (p:=λi j=>decide (i≤j)) (r:=λi j=>decide (i≤j)) ah (A2 (ae h0) hx) λ_=>ah))) rfl
  ·refine aP (K:=K) (d:=.bl (gZ (.str y))) ?_ λv H' s q=>post v H' (s1.trans s) q
   have e:gZ (.str y)=false:=by
    show (_ && _)=false
    have c':=iV c
    rw [c',Bool.false_and]
   rw [e]
   exact eI
  ·have c':=fX c
   have hy:y.cps.size≤8:=by
    rw [Bool.and_eq_true] at c'
    have:=of_decide_eq_true c'.2
    have e:y.length=y.cps.size:=rfl
    omega
   refine aP (K:=K) (d:=.bl (gZ (.str y))) ?_ λv H' s q=>post v H' (s1.trans s) q
   have e:gZ (.str y)=(y.cps.toList.map sgn).all id:=by
    show (_ && _)=_
    rw [c',Bool.true_and]
   rw [e]
   refine lU (bs:=y.cps.toList.map sgn) (Ct (ae (s1.dat h0)) (by omega) _ (by simp) rfl (λH2 i c d s2 hc hd2=>?_))
   rw [List.getElem?_map,List.getElem?_map] at hd2
   have hc':y.cps.toList[i]?=some c:=by simpa using hc
   rw [hc'] at hd2
   cases hd2
   refine RE.as (wL (p:=λi j=>!decide (j.cps.toList < i.cps.toList)) (q':=λi j=>!decide (j.cps.toList < i.cps.toList)) av (ae (Dat.strI _)) λ_=>av) rfl
 ·have hs':∀ y,x≠.str y:=λy e=>hs ⟨y,e⟩
  refine aA (K:=K) (b:=true) ?_ (λc H1 s1=>?_) (λc=>nomatch c)
  ·exact RT.as (cO (b:=true) (c:=true) (RT.as (bD (aV (bI (ae h0)))) (by rw [tf hs'];rfl)) λc=>nomatch c) rfl
  ·refine aP (K:=K) (d:=.bl (gZ x)) ?_ λv H' s q=>post v H' (s1.trans s) q
   rw [yv hs']
   exact eI
theorem BR:∀ p ∈ TM,∃ i,p.2=.flat (.int i):=by
 intro p hp
 simp only [TM,List.mem_cons,List.not_mem_nil,or_false] at hp
 rcases hp with rfl | rfl | rfl <;> exact ⟨_,rfl⟩
def dI:D->Bool
 | .tup (.str k::r)=>decide ((r.length:Int)+1=jA k TM 0) && (bY (r.getD 0 .non) 0 1 && (!decide (k="gap") || bY (r.getD 1 .non) 0 9999))
 | _=>false
theorem iZ (k:Str) (r:List D):dI (.tup (.str k::r))=(decide ((r.length:Int)+1=jA k TM 0) && (bY (r.getD 0 .non) 0 1 && (!decide (k="gap") || bY (r.getD 1 .non) 0 9999))):=rfl
def Bn (ds:List D) (d:D):Prop:=∃ x,ds=[x]/\d=.bl (dI x)
theorem qU (k:Str):jA k TM 0=0\/jA k TM 0=2\/(k="gap"/\jA k TM 0=3):=by
 unfold jA
 by_cases h1:k="hole"
 ·subst h1;exact .inr (.inl rfl)
 by_cases h2:k="gap"
 ·subst h2;exact .inr (.inr ⟨rfl,rfl⟩)
 by_cases h3:k="slot"
 ·subst h3;exact .inr (.inl rfl)
 have e:KTD.datumAt k TM=none:=by simp [TM,KTD.datumAt,h1,h2,h3]
 rw [e]
 exact .inl rfl
theorem CO (h:du x=false):dI x=false:=by
 unfold du at h
 unfold dI
 split at h
 ·cases h
 ·rename_i hn
  first
   | rfl
   | (split
      ·rename_i k r;exact absurd rfl (hn k r)
      ·rfl)
theorem tL (T:Txt P w K mg) (GT:FnOk P w K mg base CX0 k T.Fo T.Fu ["thing"] (spD K lO)) (Ej:FnOk P w K mg base CX0 k T.EM T.EN ["thing","low","high"] (spD K eS)):FnOk P w K mg base CX0 (k+1) T.Il T.Ir ["thing"] (spD K Bn):=by
 refine T.IL.ok sc_is_mark (λvs H Q E h=>?_) (λcdv A outer s H vs Q E hr h=>?_)
 ·obtain ⟨ds,d,hd,⟨x,rfl,rfl⟩,_⟩:=h;exact hd.length.symm
 have nd:=sc_is_mark.nd
 obtain ⟨ds,d,hd,⟨x,rfl,rfl⟩,post⟩:=h
 obtain ⟨v0,rfl,h0⟩:=fA hd
 refine ⟨_,(ak (aT (PW.pt (fM (cI (bz (aD GT hr rfl T.Ie T.Ge.kp (iR T) .nil aQ (ag (pv 0) af)) (λ_=>rfl))) (eG (az rB (aO aL rfl T.Ei bH (ag (pv 0) af)) (oI (bj (v:=.ref T.ET) rfl T.EC rfl) (aN aI (pv 0) aj (λ_ _=>rfl)) aj ⟨rfl,rfl,rfl,rfl⟩) (aJ _))))) (aq (aE cV)) aF)
 (ak (aT (cI (bz (aD Ej hr rfl T.FB T.EO.kp (d7 T) .nil aQ (ag (aN aI (pv 0) aj (λ_ _=>rfl)) (ag aj (ag aj af)))) (λ_=>rfl))) (aq (aE cV)) aF)
 (aq (aE (Bv (iq rB (aN aI (pv 0) aj (λ_ _=>rfl)) aw (aJ _)) (kP (aD Ej hr rfl T.FB T.EO.kp (d7 T) .nil aQ (ag (aN aI (pv 0) aj (λ_ _=>rfl)) (ag aj (ag (bj (v:=.int 9999) rfl T.GK ⟨_,rfl⟩) af)))))))))),?_⟩
 cases ht:du x with
 | false =>
  refine aA (K:=K) (b:=true) ?_ (λc H1 s1=>?_) (λc=>nomatch c)
  ·exact RT.as (cO (b:=true) (c:=true) (RT.as (bD (aV (aS (aa (ae h0) ao) ⟨x,rfl,rfl⟩))) (by rw [ht];rfl)) λc=>nomatch c) rfl
  ·refine aP (K:=K) (d:=.bl (dI x)) ?_ λv H' s q=>post v H' (s1.trans s) q
   rw [CO ht]
   exact eI
 | true =>
  have ht':=ht
  unfold du at ht'
  split at ht'
  ·rename_i kd r
   have el:((((D.str kd)::r).length:Nat):Int)=(r.length:Int)+1:=by rw [List.length_cons];omega
   refine aA (K:=K) (b:=!decide ((r.length:Int)+1=jA kd TM 0)) ?_ (λc H1 s1=>?_) (λc H1 s1=>?_)
   ·have b1:=ny (K:=K) (bQ (ae (σ:=eP ["thing"] [v0]) (k:=0) h0)) (oM (i:=0) T.E6 (aM (k:=0) (ae (σ:=eP ["thing"] [v0]) (k:=0) h0) ah rfl) ah BR)
    rw [el] at b1
    exact RT.as (cO (b:=false) (RT.as (bD (aV (aS (aa (ae h0) ao) ⟨_,rfl,rfl⟩))) (by rw [ht];rfl)) λ_=>au b1) (Bool.false_or _)
   ·refine aP (K:=K) (d:=.bl (dI (.tup (.str kd::r)))) ?_ λv H' s q=>post v H' (s1.trans s) q
    have e:dI (.tup (.str kd::r))=false:=by
     rw [iZ]
     rw [show decide ((r.length:Int)+1=jA kd TM 0)=false from iV c,Bool.false_and]
    rw [e]
    exact eI
   ·have c':decide ((r.length:Int)+1=jA kd TM 0)=true:=fX c
    have hl:=of_decide_eq_true c'
    have h1:=s1.dat h0
    obtain ⟨y,r',er⟩:∃ y r',r=y::r':=by
     cases r with
     | nil=>rcases qU kd with h | h | ⟨_,h⟩ <;> (rw [h] at hl;simp at hl)
     | cons y r'=>exact ⟨y,r',rfl⟩
    subst er
    refine aA (K:=K) (b:=!bY y 0 1) (bD (aV (aS (R:=eS) (aa (aM (k:=1) (ae h1) ah rfl) (aa ah (aa ah ao))) ⟨y,0,1,rfl,rfl⟩))) (λc2 H2 s2=>?_) (λc2 H2 s2=>?_)
    ·refine aP (K:=K) (d:=.bl (dI (.tup (.str kd::y::r')))) ?_ λv H' s q=>post v H' (s1.trans (s2.trans s)) q
     have e:dI (.tup (.str kd::y::r'))=false:=by
      rw [iZ,c',Bool.true_and]
      show (bY y 0 1 && _)=false
      rw [show bY y 0 1=false from iV c2,Bool.false_and]
     rw [e]
     exact eI
    ·refine aP (K:=K) (d:=.bl (dI (.tup (.str kd::y::r')))) ?_ λv H' s q=>post v H' (s1.trans (s2.trans s)) q
     have h2:=s2.dat h1
     have e:dI (.tup (.str kd::y::r'))=(!decide (kd="gap") || bY (r'.getD 0 .non) 0 9999):=by
      rw [iZ,c',Bool.true_and]
      show (bY y 0 1 && (!decide (kd="gap") || bY (r'.getD 0 .non) 0 9999))=_
      rw [show bY y 0 1=true from fX c2,Bool.true_and]
     rw [e]
     refine BA (Cy (aM (k:=0) (ae h2) ah rfl) av) λc3=>?_
     have hk:kd="gap":=by simpa using c3
     obtain ⟨z,er⟩:∃ z,r'=[z]:=by
      rcases qU kd with h | h | ⟨_,h⟩
      ·rw [h] at hl;simp at hl;omega
      ·rw [hk] at h;exact absurd h (by decide +kernel)
      ·rw [h] at hl
       match r',hl with
       | [z],_=>exact ⟨z,rfl⟩
       | [],h=>simp at h
       | _::_::_,h=>simp at h;omega
     subst er
     exact aS (E:=E0) (R:=eS) (aa (aM (k:=2) (ae h2) ah rfl) (aa ah (aa ah ao))) ⟨z,0,9999,rfl,rfl⟩
  ·cases ht'
def j2:D->Bool
 | .tup (.str k::_)=>decide (k ∈ (["arg","pick"]:List Str))
 | _=>false
def ppD:Nat->D->Bool
 | 0,_=>false
 | n+1,d=>dI d || (eB d && (!j2 d && ((bV d).map (ppD n)).all id))
def Rpp (n:Nat) (ds:List D) (d:D):Prop:=∃ x,ds=[x,.int (4 - (n:Int))]/\d=.bl (ppD n x)
def Bp:Nat->List D->D->Prop
 | 0=>λ_ _=>False
 | n+1=>Rpp n
variable {n:Nat}
theorem fZ (T:Txt P w K mg) (Ki:FnOk P w K mg base CX0 k T.Il T.Ir ["thing"] (spD K Bn)) (Kk:FnOk P w K mg base CX0 k T.Io T.Iv ["thing"] (spD K Bo)) (HD:FnOk P w K mg base CX0 k T.EX T.E4 ["tree"] (spD K j0)) (Gk:FnOk P w K mg base CX0 k T.D2 T.D3 ["thing","deep"] (spD K (Bp n))):FnOk P w K mg base CX0 (k+1) T.D2 T.D3 ["thing","deep"] (spD K (Rpp n)):=by
 refine T.EJ.ok sc_is_pattern_part (λvs H Q E h=>?_) (λcdv A outer s H vs Q E hr h=>?_)
 ·obtain ⟨ds,d,hd,⟨x,rfl,rfl⟩,_⟩:=h;exact hd.length.symm
 have nd:=sc_is_pattern_part.nd
 obtain ⟨ds,d,hd,⟨x,rfl,rfl⟩,post⟩:=h
 obtain ⟨v0,v1,rfl,h0,h1⟩:=gy hd
 refine ⟨_,(ak (aT (az m3 (pv 1) (bj (v:=.int 3) rfl T.D6 ⟨_,rfl⟩) (aJ _)) (aq (aE cV)) aF)
 (ak (aT (bz (aD Ki hr rfl T.JN T.IL.kp (vO T) .nil aQ (ag (pv 0) af)) (λ_=>rfl)) (aq (aE cV)) aF)
 (ak (aT (PW.pt (fM (cI (bz (aD Kk hr rfl T.JP T.IP.kp (vQ T) .nil aQ (ag (pv 0) af)) (λ_=>rfl))) (eG (az cC (aN aI (pv 0) aj (λ_ _=>rfl)) (aC (ag aw (ag aw af))) (by with_unfolding_all rfl))))) (aq (aE cV)) aF)
 (aq (aE (aO (j4 rfl) rfl T.J7 o9 (ag (cZ (own:=["within"]) (fr:=[1]) (N':=["within","deep"]) (jU (aD HD hr rfl T.HS T.Fy.kp (iS T) .nil aQ (ag (pv 0) af))) rfl (by show cR ["thing","deep"] (λx=>(ax cP).names.lookup x) _ _ _ _=true;decide +kernel) rfl (λ_ _ _ _ _=>(aH (i:=0) (by show List.Nodup [("within":Str),("deep":Str)];decide +kernel) rfl (Or.inl rfl))) (λ_ _ _ _ _=>cn) (λ_ _ _ _ _=>(aD Gk hr rfl T.Gz T.EJ.kp (gx T) .nil aQ (ag (pv 0) (ag (aU ck (pv 1) aj) af))))) af))))))),?_⟩
 cases n with
 | zero =>
  refine aA (K:=K) (b:=true) (RT.as (au (bC (p:=λi j=>decide (j < i)) (ae h1) ah)) rfl) (λc H1 s1=>?_) (λc=>nomatch c)
  exact aP (K:=K) (d:=.bl false) eI λv H' s q=>post v H' (s1.trans s) q
 | succ n =>
  refine aA (K:=K) (b:=false) (RT.as (au (bC (p:=λi j=>decide (j < i)) (ae h1) ah)) (decide_eq_false (by omega))) (λc=>nomatch c) (λc H1 s1=>?_)
  have h0:=s1.dat h0
  have h1:=s1.dat h1
  refine aA (K:=K) (b:=dI x) (aV (aS (aa (ae h0) ao) ⟨x,rfl,rfl⟩)) (λc H2 s2=>?_) (λc H2 s2=>?_)
  ·refine aP (K:=K) (d:=.bl true) eI λv H' s q=>post v H' (s1.trans (s2.trans s)) ?_
   have e:ppD (n+1) x=true:=by unfold ppD;rw [c];rfl
   rw [e]
   exact q
  have h0:=s2.dat h0
  have h1:=s2.dat h1
  have e1:ppD (n+1) x=(eB x && (!j2 x && ((bV x).map (ppD n)).all id)):=by
   show (dI x || _)=_
   rw [c,Bool.false_or]
  cases hn:eB x with
  | false =>
   refine aA (K:=K) (b:=true) (RT.as (cO (b:=true) (c:=true) (RT.as (bD (aV (aS (aa (ae h0) ao) ⟨x,rfl,rfl⟩))) (by rw [hn];rfl)) λc=>nomatch c) rfl) (λc H3 s3=>?_) (λc=>nomatch c)
   refine aP (K:=K) (d:=.bl false) eI λv H' s q=>post v H' (s1.trans (s2.trans (s3.trans s))) ?_
   rw [e1,hn]
   exact q
  | true =>
   obtain ⟨kd,r,ek⟩:=qY hn
   have few:=qR hn
   have h0':Dat K H2 (.tup (.str kd::r)) v0:=by rw [← ek];exact h0
   refine aA (K:=K) (b:=j2 x) (RT.as (cO (b:=false) (RT.as (bD (aV (aS (aa (ae h0) ao) ⟨x,rfl,rfl⟩))) (by rw [hn];rfl)) λ_=>au (gh (ys:=["arg","pick"]) (aM (k:=0) (ae h0') ah rfl) (aB (aa av (aa av ao))))) (by rw [ek];exact Bool.false_or _)) (λc3 H3 s3=>?_) (λc3 H3 s3=>?_)
   ·refine aP (K:=K) (d:=.bl false) eI λv H' s q=>post v H' (s1.trans (s2.trans (s3.trans s))) ?_
    rw [e1,hn,c3]
    exact q
   ·have h1:=s3.dat h1
    refine aP (K:=K) (d:=.bl (((bV x).map (ppD n)).all id)) (lU (tW (cs:=bV x) (aS (R:=j0) (aa (ae (s3.dat h0)) ao) ⟨kd,r,by rw [ek],by rw [ek]⟩) (by omega) _ (by simp) rfl (λH4 i z vz d s4 hz hi hvz=>?_))) λv H' s q=>post v H' (s1.trans (s2.trans (s3.trans s))) ?_
    ·rw [List.getElem?_map,List.getElem?_map,hz] at hi
     cases hi
     exact aS (E:=E0) (R:=Rpp n) (aa (ae hvz) (aa (RE.as (cq (ae (s4.dat h1)) ah) (congrArg D.int (by omega:(4:Int) - ((n+1:Nat):Int)+1=4 - (n:Int)))) ao)) ⟨z,rfl,rfl⟩
    ·rw [e1,hn,c3]
     exact q
def kH (k:Str):D->Bool
 | .tup (.str h::_)=>decide (h=k)
 | _=>false
def bx:Nat->Str->D->List D
 | 0,_,_=>[]
 | n+1,k,d=>if kH k d=true then [d] else (bV d).flatMap (bx n k)
def fG (n:Nat) (ds es:List D):Prop:=∃ x k,ds=[x,.str k]/\n≤3/\ppD n x=true/\es=bx n k x
theorem qV (h:dI d=true):∃ k r,d=.tup (.str k::r):=by
 unfold dI at h
 split at h
 ·exact ⟨_,_,rfl⟩
 ·cases h
theorem yu {k:Str} {r:List D} (h:dI (.tup (.str k::r))=true):k="hole"\/k="gap"\/k="slot":=by
 rw [iZ,Bool.and_eq_true] at h
 have hl:=of_decide_eq_true h.1
 unfold jA at hl
 by_cases h1:k="hole"
 ·exact .inl h1
 by_cases h2:k="gap"
 ·exact .inr (.inl h2)
 by_cases h3:k="slot"
 ·exact .inr (.inr h3)
 have e:KTD.datumAt k TM=none:=by simp [TM,KTD.datumAt,h1,h2,h3]
 rw [e] at hl
 dsimp only at hl
 omega
theorem nI {k:Str} (h:k="hole"\/k="gap"\/k="slot"):KTD.inKeys k TB=false/\KTD.inKeys k TL=false:=by
 rcases h with rfl | rfl | rfl <;> decide +kernel
theorem wm (h:dI d=true):bV d=[]:=by
 obtain ⟨k,r,rfl⟩:=qV h
 exact gU (nI (yu h)).1
theorem tR (h:ppD n d=true):∃ k r,d=.tup (.str k::r):=by
 cases n with
 | zero=>cases h
 | succ n =>
  have h':(dI d || (eB d && (!j2 d && ((bV d).map (ppD n)).all id)))=true:=h
  rw [Bool.or_eq_true] at h'
  rcases h' with h' | h'
  ·exact qV h'
  ·rw [Bool.and_eq_true] at h'
   exact qY h'.1
theorem p7 (h:ppD (n+1) d=true):(bV d).length≤3/\∀ c ∈ bV d,ppD n c=true:=by
 have h':(dI d || (eB d && (!j2 d && ((bV d).map (ppD n)).all id)))=true:=h
 rw [Bool.or_eq_true] at h'
 rcases h' with h' | h'
 ·rw [wm h']
  exact ⟨by simp,λc hc=>absurd hc (by simp)⟩
 ·rw [Bool.and_eq_true,Bool.and_eq_true] at h'
  refine ⟨qR h'.1,λc hc=>?_⟩
  have z:=List.all_eq_true.mp h'.2.2 (ppD n c) (List.mem_map.mpr ⟨c,hc,rfl⟩)
  exact z
theorem uS {α β:Type} (f:α->List β) (m:Nat):∀ l:List α,(∀ x ∈ l,(f x).length≤m)->(l.flatMap f).length≤l.length * m
 | [],_=>by simp
 | x::l,h=>by
  have h1:=h x (by simp)
  have h2:=uS f m l λy hy=>h y (by simp [hy])
  rw [List.flatMap_cons,List.length_append,List.length_cons,Nat.succ_mul]
  omega
theorem gY (k:Str):∀ (n:Nat) (d:D),ppD n d=true->(bx n k d).length≤3 ^ n
 | 0,d,h=>by cases h
 | n+1,d,h=>by
  unfold bx
  split
  ·have:1≤3 ^ (n+1):=Nat.one_le_iff_ne_zero.mpr (by simp)
   simpa using this
  ·obtain ⟨h1,h2⟩:=p7 h
   have z:=uS (bx n k) (3 ^ n) (bV d) λc hc=>gY k n c (h2 c hc)
   have z2:(bV d).length * 3 ^ n≤3 * 3 ^ n:=Nat.mul_le_mul_right _ h1
   rw [Nat.pow_succ,Nat.mul_comm (3 ^ n) 3]
   omega
theorem p3 (h:n≤3):3 ^ n≤27:=by
 match n,h with
 | 0,_=>decide
 | 1,_=>decide
 | 2,_=>decide
 | 3,_=>decide
theorem rm (T:Txt P w K mg) (HD:FnOk P w K mg base CX0 k T.EX T.E4 ["tree"] (spD K j0)) (E8:FnOk P w K mg base CX0 k T.Fb T.Fd ["pattern","kind"] (fU K (fG n))):FnOk P w K mg base CX0 (k+1) T.Fb T.Fd ["pattern","kind"] (fU K (fG (n+1))):=by
 refine T.Ff.ok sc_marks_in (λvs H Q E h=>?_) (λcdv A outer s H vs Q E hr h=>?_)
 ·obtain ⟨ds,es,hd,⟨x,kk,rfl,_⟩,_⟩:=h;exact hd.length.symm
 have nd:=sc_marks_in.nd
 obtain ⟨ds,es,hd,⟨x,kk,rfl,hn3,hp,rfl⟩,post⟩:=h
 obtain ⟨v0,v1,rfl,h0,h1⟩:=gy hd
 refine ⟨_,(ak (aT (az bK (aN aI (pv 0) aj (λ_ _=>rfl)) (pv 1) (aJ _)) (aq (aE (bu (ag (pv 0) af)))) aF)
 (ak (ba (i:=2) nd rfl (Or.inl rfl) (bu af))
 (ak (dM PassesOwn.never rfl (jU (aD HD hr rfl T.HS T.Fy.kp (iS T) .nil aQ (ag (pv 0) af))) (aH (i:=3) nd rfl (Or.inl rfl)) (aq (aX (cW PySem.F.plainAttrs_list PySem.F.slot_list_extend PySem.F.type_list_extend ef (pv 2) (ag (aD E8 hr rfl T.F7 T.Ff.kp (eU T) .nil aQ (ag (pv 3) (ag (pv 1) af))) af)))))
 (aq (aE (pv 2)))))),?_⟩
 obtain ⟨kd,r,ek⟩:=tR hp
 have h0':Dat K H (.tup (.str kd::r)) v0:=by rw [← ek];exact h0
 have eh:kH kk x=decide (kd=kk):=by rw [ek];rfl
 obtain ⟨few,kok⟩:=p7 hp
 have cap:=gY kk (n+1) x hp
 have cap3:=p3 hn3
 refine aA (K:=K) (b:=kH kk x) (RT.as (au (aR (aM (k:=0) (ae h0') ah rfl) (ae h1))) eh.symm) (λc H1 s1=>?_) (λc H1 s1=>?_)
 ·refine hE ((bw (K:=K) (es:=[x]) (aa (ae (s1.dat h0)) ao)).use λl ys H2 hl s2 hy hd2=>?_)
  refine post l ys H2 (s1.trans s2) hy (s1.free hl) ?_
  unfold bx
  rw [if_pos c]
  exact hd2
 have em:bx (n+1) kk x=(bV x).flatMap (bx n kk):=by
  show (if kH kk x=true then _ else _)=_
  rw [if_neg (by rw [c];exact Bool.false_ne_true)]
 rw [em] at cap post
 have h0:=s1.dat h0
 have h1:=s1.dat h1
 have hk1:=h1.strE
 refine dY (K:=K) (es:=[]) (bw ao) λwl ys0 H2 hw s2 hy0 hd0=>?_
 have hw0:H wl=none:=s1.free hw
 refine bX (RE.use (aS (R:=j0) (d:=.tup (bV x)) (aa (ae (K:=K) (k:=0) (s2.dat h0)) ao) ⟨kd,r,by rw [ek],by rw [ek]⟩) λv4 H4 s4 q4=>?_)
 obtain ⟨a,vs,ea,hq,hds⟩:=q4.tupE
 subst ea
 have hl:=hds.length
 refine ⟨a,rfl,⟨vs,hq⟩,pj (xs:=vs) (λi σ G=>∃ (z:Option V) (ys:List V),σ=[some v0,some v1,some (.ref wl),z]/\Same H G/\SqT K G a vs/\Dats K G (bV x) vs/\G wl=some (.lst ys)/\Dats K G (((bV x).take i).flatMap (bx n kk)) ys) ?_ (λi σ G _ ⟨z,ys,_,_,p,_⟩=>p) ?_ ?_⟩
 ·exact ⟨none,ys0,rfl,s1.trans (s2.trans s4),hq,hds,s4 _ _ hy0,s4.dats hd0⟩
 ·rintro i vx σ G hi ⟨z,ys,rfl,sG,hqG,hdG,hwG,hyG⟩
  obtain ⟨dx,ex,hx⟩:=hdG.getV hi
  have hpx:=kok dx (List.mem_of_getElem? ex)
  subst hk1
  refine ⟨_,rfl,.inl ⟨rfl,_,SqL.of hwG⟩,_,rfl,_,rfl,[dx,.str kk],_,(Dats.cons hx (Dats.cons (Dat.strI _) Dats.nil):Dats K G [dx,.str kk] [vx,.str kk]),⟨dx,kk,rfl,by omega,hpx,rfl⟩,λr us H5 s5 hr5 _ hd5=>?_⟩
  have hw5:=s5 _ _ hwG
  have b6:But wl H5 (upd H5 wl (.lst (ys++us))):=But.upd (Same.refl H5).but
  have g6:dD K H5 (upd H5 wl (.lst (ys++us))):=b6.grow hw5 ay
  have et:((bV x).take (i+1)).flatMap (bx n kk)=((bV x).take i).flatMap (bx n kk)++bx n kk dx:=by
   rw [List.take_add_one,ex]
   simp
  have lt:(((bV x).take (i+1)).flatMap (bx n kk)).length≤27:=by
   have e2:((bV x).take (i+1)).flatMap (bx n kk)++((bV x).drop (i+1)).flatMap (bx n kk)=(bV x).flatMap (bx n kk):=by
    rw [← List.flatMap_append,List.take_append_drop]
   have:=congrArg List.length e2
   rw [List.length_append] at this
   omega
  have ly:=hyG.length
  have lu:=hd5.length
  rw [et,List.length_append] at lt
  refine ⟨wl,r,ys,us,rfl,rfl,hw5,hr5,gL (by omega),some vx,ys++us,rfl,λb o hb=>b6 b o (bh hb hw0) (s5 _ _ (sG _ _ hb)),g6.tup _ _ (s5.sqT hqG),Dats.mono g6 _ (s5.dats hdG),ay,?_⟩
  rw [et]
  exact Dats.append (Dats.mono g6 _ (s5.dats hyG)) (Dats.mono g6 _ hd5)
 ·rintro σ G ⟨z,ys,rfl,sG,hqG,hdG,hwG,hyG⟩
  refine ⟨_,rfl,post wl ys G sG hwG hw0 ?_⟩
  rw [← hl,List.take_length] at hyG
  exact hyG
def CH:D->D
 | .tup (_::y::_)=>y
 | _=>.non
theorem tD {k:Str} {r:List D} (h:dI (.tup (.str k::r))=true):∃ i r',r=.int i::r':=by
 rw [iZ,Bool.and_eq_true,Bool.and_eq_true] at h
 have hw:=h.2.1
 cases r with
 | nil=>cases hw
 | cons y r' =>
  have hw':bY y 0 1=true:=hw
  cases y with
  | int i=>exact ⟨i,r',rfl⟩
  | _=>cases hw'
theorem i3 {k:Str} (hk:k="hole"\/k="gap"\/k="slot"):∀ (n:Nat) (x m:D),ppD n x=true->m ∈ bx n k x->∃ i r,m=.tup (.str k::.int i::r)
 | 0,x,m,h,_=>by cases h
 | n+1,x,m,h,hm=>by
  unfold bx at hm
  split at hm
  ·rename_i hh
   have e:m=x:=by simpa using hm
   subst e
   obtain ⟨k',r,rfl⟩:=tR h
   have ek:k'=k:=of_decide_eq_true hh
   subst ek
   have h':(dI (.tup (.str k'::r)) || (eB (.tup (.str k'::r)) && _))=true:=h
   rw [Bool.or_eq_true] at h'
   rcases h' with h' | h'
   ·obtain ⟨i,r',rfl⟩:=tD h'
    exact ⟨i,r',rfl⟩
   ·rw [Bool.and_eq_true] at h'
    have z:=h'.1
    rw [yB (nI hk).2,(nI hk).1,Bool.false_and] at z
    cases z
  ·obtain ⟨c,hc,hm'⟩:=List.mem_flatMap.mp hm
   exact i3 hk n c m ((p7 h).2 c hc) hm'
def AC (k:Str) (x:D):Bool:=eqDs ((bx 3 k x).map CH) ((List.range (bx 3 k x).length).map λi:Nat=>D.int i)
def BM (ds:List D) (d:D):Prop:=∃ x k,ds=[x,.str k]/\ppD 3 x=true/\(k="hole"\/k="gap"\/k="slot")/\d=.bl (AC k x)
variable {σ:L2.St} {H:Hp} {l:Addr} {ys:List V}
theorem A3 {K:PySem.W.Frag} {k:Nat} (hl:H l=some (.lst ys)) (e:σ[k]?=some (some (.ref l)):=by rfl):RE K (tCB (λxs H Q=>∃ p ys,xs=[.ref p]/\(SqL K H p ys\/SqT K H p ys)/\Q (.int ys.length) H) (bf (cx k) cu)) σ H (.int ys.length):=λH1 s Q q =>
 ⟨.ref l,e,l,ys,rfl,.inl (SqL.of (s _ _ hl)),q _ _ (Same.refl _) (Dat.intI _)⟩
theorem mR {l:List D} (h:∀ d ∈ l,∃ i,d=.int i):noLs l=true/\deepDs l=0:=by
 induction l with
 | nil=>exact ⟨by unfold noLs;rfl,by unfold deepDs;rfl⟩
 | cons d l ih =>
  obtain ⟨i,rfl⟩:=h d (by simp)
  obtain ⟨h1,h2⟩:=ih λd hd=>h d (by simp [hd])
  refine ⟨?_,?_⟩
  ·unfold noLs;rw [h1];unfold noL;rfl
  ·unfold deepDs;rw [h2];unfold gz;rfl
theorem mY (T:Txt P w K mg) (E8:FnOk P w K mg base CX0 k T.Fb T.Fd ["pattern","kind"] (fU K (fG 3))):FnOk P w K mg base CX0 (k+1) T.FO T.FV ["pattern","kind"] (spD K BM):=by
 refine T.GR.ok sc_is_numbered (λvs H Q E h=>?_) (λcdv A outer s H vs Q E hr h=>?_)
 ·obtain ⟨ds,d,hd,⟨x,kk,rfl,_⟩,_⟩:=h;exact hd.length.symm
 have nd:=sc_is_numbered.nd
 obtain ⟨ds,d,hd,⟨x,kk,rfl,hp,hk,rfl⟩,post⟩:=h
 obtain ⟨v0,v1,rfl,h0,h1⟩:=gy hd
 refine ⟨_,(ak (m7 (i:=2) (own:=["mark"]) (fr:=[]) (N':=["mark"]) (b0 (aD E8 hr rfl T.F7 T.Ff.kp (eU T) .nil aQ (ag (pv 0) (ag (pv 1) af)))) rfl (by show cR ["pattern","kind","numbers"] (λx=>(ax dS).names.lookup x) _ _ _ _=true;decide +kernel) rfl (λ_ _ _ _ _=>(aH (i:=0) (by show List.Nodup [("mark":Str)];decide +kernel) rfl (Or.inl rfl))) (λ_ _ _ _ _=>cn) (λ_ _ _ _ _=>(aN (r:=rQ K) aI (pv 0) aj (λ_ _=>rfl))) nd rfl rfl rfl)
 (aq (aE (iq (pT hr) (pv 2) (cv (fe rfl) rfl T.IH ie (ag (cv j5 rfl T.Hw j3 (ag (aO aL rfl T.Ei bH (ag (pv 2) af)) af)) af)) (aJ _))))),?_⟩
 have cap:=gY kk 3 x hp
 refine dY (K:=K) (es:=(bx 3 kk x).map CH) (AW (cs:=bx 3 kk x) (dm (R:=fG 3) (aa (ae h0) (aa (ae h1) ao)) ⟨x,kk,rfl,by decide,hp,rfl⟩) (Nat.le_trans cap (by decide)) _ (by simp) rfl (λH1 i c v d s1 hc hi hv=>?_)) λl ys H2 hl s2 hy hd2=>?_
 ·rw [List.getElem?_map,hc] at hi
  cases hi
  obtain ⟨j,r,rfl⟩:=i3 hk 3 x c hp (List.mem_of_getElem? hc)
  exact aM (k:=1) (ae hv) ah rfl
 have ll:=hd2.length
 rw [List.length_map] at ll
 refine ⟨_,rfl,(ix (K:=K) (n:=ys.length) (A3 (k:=2) hy) (by rw [← ll];exact Nat.le_trans cap (by decide))).use λl2 ys2 H3 hl2 s3 hy3 hd3=>?_⟩
 have i1:∀ d ∈ (bx 3 kk x).map CH,∃ i,d=.int i:=λd hdm=>by
  obtain ⟨m,hm,rfl⟩:=List.mem_map.mp hdm
  obtain ⟨j,r,rfl⟩:=i3 hk 3 x m hp hm
  exact ⟨j,rfl⟩
 have i2:∀ d ∈ (List.range ys.length).map (λi:Nat=>D.int i),∃ i,d=.int i:=λd hdm=>by
  obtain ⟨m,hm,rfl⟩:=List.mem_map.mp hdm
  exact ⟨_,rfl⟩
 refine ⟨l,l2,ys,ys2,_,_,rfl,rfl,SqL.of (s3 _ _ hy),SqL.of hy3,s3.dats hd2,hd3,(mR i1).1,(mR i2).1,by rw [(mR i1).2];decide,?_⟩
 refine post _ _ (s2.trans s3) ?_
 unfold AC
 rw [ll]
 exact Dat.blI _
def m5 (x:D):Bool:=ppD 3 x && (!kH "hole" x && ((["hole","gap","slot"]:List Str).map λk=>AC k x).all id)
def BN (ds:List D) (d:D):Prop:=∃ x,ds=[x]/\d=.bl (m5 x)
theorem nY (T:Txt P w K mg) (Gk:FnOk P w K mg base CX0 k T.D2 T.D3 ["thing","deep"] (spD K (Rpp 3))) (JJ:FnOk P w K mg base CX0 k T.FO T.FV ["pattern","kind"] (spD K BM)):FnOk P w K mg base CX0 (k+1) T.Gp T.Gw ["thing"] (spD K BN):=by
 refine T.Ht.ok sc_is_pattern (λvs H Q E h=>?_) (λcdv A outer s H vs Q E hr h=>?_)
 ·obtain ⟨ds,d,hd,⟨x,rfl,rfl⟩,_⟩:=h;exact hd.length.symm
 have nd:=sc_is_pattern.nd
 obtain ⟨ds,d,hd,⟨x,rfl,rfl⟩,post⟩:=h
 obtain ⟨v0,rfl,h0⟩:=fA hd
 refine ⟨_,(ak (aT (PW.pt (fM (cI (bz (aD Gk hr rfl T.Gz T.EJ.kp (gx T) .nil aQ (ag (pv 0) (ag aj af))) (λ_=>rfl))) (eG (az bK (aN aI (pv 0) aj (λ_ _=>rfl)) aw (aJ _))))) (aq (aE cV)) aF)
 (aq (aE (aO (j4 rfl) rfl T.J7 o9 (ag (cZ (own:=["kind"]) (fr:=[0]) (N':=["kind","thing"]) (Cn (bj (v:=.ref T.ET) rfl T.EC rfl)) rfl (by show cR ["thing"] (λx=>(ax eL).names.lookup x) _ _ _ _=true;decide +kernel) rfl (λ_ _ _ _ _=>(aH (i:=0) (by show List.Nodup [("kind":Str),("thing":Str)];decide +kernel) rfl (Or.inl rfl))) (λ_ _ _ _ _=>cn) (λ_ _ _ _ _=>(aD JJ hr rfl T.IV T.GR.kp (nR T) .nil aQ (ag (pv 1) (ag (pv 0) af))))) af))))),?_⟩
 cases hp:ppD 3 x with
 | false =>
  refine aA (K:=K) (b:=true) (RT.as (cO (b:=true) (c:=true) (RT.as (bD (aV (aS (R:=Rpp 3) (aa (ae h0) (aa ah ao)) ⟨x,rfl,rfl⟩))) (by rw [hp];rfl)) λc=>nomatch c) rfl) (λc H3 s3=>?_) (λc=>nomatch c)
  refine aP (K:=K) (d:=.bl false) eI λv H' s q=>post v H' (s3.trans s) ?_
  unfold m5
  rw [hp]
  exact q
 | true =>
  obtain ⟨kd,r,ek⟩:=tR hp
  have h0':Dat K H (.tup (.str kd::r)) v0:=by rw [← ek];exact h0
  refine aA (K:=K) (b:=kH "hole" x) (RT.as (cO (b:=false) (RT.as (bD (aV (aS (R:=Rpp 3) (aa (ae h0) (aa ah ao)) ⟨x,rfl,rfl⟩))) (by rw [hp];rfl)) λ_=>au (aR (aM (k:=0) (ae h0') ah rfl) av)) (by rw [ek];exact Bool.false_or _)) (λc H1 s1=>?_) (λc H1 s1=>?_)
  ·refine aP (K:=K) (d:=.bl false) eI λv H' s q=>post v H' (s1.trans s) ?_
   unfold m5
   rw [hp,c]
   exact q
  ·refine aP (K:=K) (d:=.bl (((["hole","gap","slot"]:List Str).map λk=>AC k x).all id)) (lU (Cu T.IG (by decide) _ rfl rfl (λH2 i kk d s2 hk hi=>?_))) λv H' s q=>post v H' (s1.trans s) ?_
   ·rw [List.getElem?_map,List.getElem?_map,hk] at hi
    cases hi
    refine aS (E:=E0) (R:=BM) (aa (ae (s2.dat (s1.dat h0))) (aa (ae (Dat.strI kk)) ao)) ⟨x,kk,rfl,hp,?_,rfl⟩
    have:=List.mem_of_getElem? hk
    simpa using this
   ·unfold m5
    rw [hp,c]
    exact q
def oS (k:Str) (T:List (Str × KTD.Dat)):Str:=match KTD.datumAt k T with | some (.flat (.str z))=>z | _=>""
theorem BP {k:Str} (h:KTD.inKeys k TF=true):KTD.datumAt k TF=some (.flat (.str (oS k TF))):=by
 unfold oS
 by_cases h1:k="low"
 ·subst h1;rfl
 by_cases h2:k="high"
 ·subst h2;rfl
 by_cases h3:k="arg"
 ·subst h3;rfl
 have e:KTD.inKeys k TF=false:=by simp [TF,KTD.inKeys,h1,h2,h3]
 rw [e] at h
 cases h
def mB (p:D):D->Bool
 | .tup (.str k::r)=>decide ((r.length:Int)+1=2) && (KTD.inKeys k TF && bY (r.getD 0 .non) 0 (((bx 3 (oS k TF) p).length:Int) - 1))
 | _=>false
theorem qN (p:D) (k:Str) (r:List D):mB p (.tup (.str k::r))=(decide ((r.length:Int)+1=2) && (KTD.inKeys k TF && bY (r.getD 0 .non) 0 (((bx 3 (oS k TF) p).length:Int) - 1))):=rfl
def xm (ds:List D) (d:D):Prop:=∃ x p,ds=[x,p]/\ppD 3 p=true/\d=.bl (mB p x)
theorem Ak {p:D} (h:du x=false):mB p x=false:=by
 unfold du at h
 unfold mB
 split at h
 ·cases h
 ·rename_i hn
  first
   | rfl
   | (split
      ·rename_i k r;exact absurd rfl (hn k r)
      ·rfl)
theorem nX (T:Txt P w K mg) (GT:FnOk P w K mg base CX0 k T.Fo T.Fu ["thing"] (spD K lO)) (E8:FnOk P w K mg base CX0 k T.Fb T.Fd ["pattern","kind"] (fU K (fG 3))) (Ej:FnOk P w K mg base CX0 k T.EM T.EN ["thing","low","high"] (spD K eS)):FnOk P w K mg base CX0 (k+1) T.Gn T.Gv ["thing","pattern"] (spD K xm):=by
 refine T.Hs.ok sc_is_filling (λvs H Q E h=>?_) (λcdv A outer s H vs Q E hr h=>?_)
 ·obtain ⟨ds,d,hd,⟨x,p,rfl,_⟩,_⟩:=h;exact hd.length.symm
 have nd:=sc_is_filling.nd
 obtain ⟨ds,d,hd,⟨x,p,rfl,hp,rfl⟩,post⟩:=h
 obtain ⟨v0,v1,rfl,h0,h1⟩:=gy hd
 refine ⟨_,(ak (aT (PW.pt (fM (cI (bz (aD GT hr rfl T.Ie T.Ge.kp (iR T) .nil aQ (ag (pv 0) af)) (λ_=>rfl))) (fM (az rB (aO aL rfl T.Ei bH (ag (pv 0) af)) aj (aJ _)) (eG (az rC (aN aI (pv 0) aj (λ_ _=>rfl)) (bj (v:=.ref T.FH) rfl T.ER rfl) (by with_unfolding_all rfl)))))) (aq (aE cV)) aF)
 (aq (aE (aD Ej hr rfl T.FB T.EO.kp (d7 T) .nil aQ (ag (aN aI (pv 0) aj (λ_ _=>rfl)) (ag aj (ag (aU tP (aO aL rfl T.Ei bH (ag (aD E8 hr rfl T.F7 T.Ff.kp (eU T) .nil aQ (ag (pv 1) (ag (aN Aw (bj (v:=.ref T.FH) rfl T.ER rfl) (aN aI (pv 0) aj (λ_ _=>rfl)) (λ_ _=>rfl)) af))) af)) aj) af))))))),?_⟩
 cases ht:du x with
 | false =>
  refine aA (K:=K) (b:=true) ?_ (λc H1 s1=>?_) (λc=>nomatch c)
  ·exact RT.as (cO (b:=true) (c:=true) (RT.as (bD (aV (aS (aa (ae h0) ao) ⟨x,rfl,rfl⟩))) (by rw [ht];rfl)) λc=>nomatch c) rfl
  ·refine aP (K:=K) (d:=.bl (mB p x)) ?_ λv H' s q=>post v H' (s1.trans s) q
   rw [Ak ht]
   exact eI
 | true =>
  have ht':=ht
  unfold du at ht'
  split at ht'
  ·rename_i kd r
   have el:((((D.str kd)::r).length:Nat):Int)=(r.length:Int)+1:=by rw [List.length_cons];omega
   have b1:=ny (K:=K) (bQ (ae (σ:=eP ["thing","pattern"] [v0,v1]) (k:=0) h0)) (ah (i:=2))
   rw [el] at b1
   refine aA (K:=K) (b:=!decide ((r.length:Int)+1=2) || !KTD.inKeys kd TF) (RT.as (cO (b:=false) (RT.as (bD (aV (aS (aa (ae h0) ao) ⟨_,rfl,rfl⟩))) (by rw [ht];rfl)) λ_=>cO (au b1) λ_=>au (rW (aM (k:=0) (ae h0) ah rfl) T.ES)) (Bool.false_or _)) (λc H1 s1=>?_) (λc H1 s1=>?_)
   ·refine aP (K:=K) (d:=.bl false) eI λv H' s q=>post v H' (s1.trans s) ?_
    have e:mB p (.tup (.str kd::r))=false:=by
     rw [qN]
     cases h2:decide ((r.length:Int)+1=2) with
     | false=>rfl
     | true =>
      rw [h2] at c
      have h3:KTD.inKeys kd TF=false:=iV c
      rw [h3]
      rfl
    rw [e]
    exact q
   ·rw [Bool.or_eq_false_iff] at c
    have c1:=fX c.1
    have c2:=fX c.2
    obtain ⟨y,er⟩:∃ y,r=[y]:=by
     match r,of_decide_eq_true c1 with
     | [],h=>simp at h
     | [y],_=>exact ⟨y,rfl⟩
     | _::_::_,h=>simp at h;omega
    subst er
    have h0:=s1.dat h0
    have h1:=s1.dat h1
    refine aP (K:=K) (d:=.bl (bY y 0 (((bx 3 (oS kd TF) p).length:Int) - 1))) (aS (R:=eS) (aa (aM (k:=1) (ae h0) ah rfl) (aa ah (aa (tZ (A1 (dm (R:=fG 3) (aa (ae h1) (aa (wO (aM (k:=0) (ae h0) ah rfl) T.ES (by rfl) (BP c2)) ao)) ⟨p,oS kd TF,rfl,by decide,hp,rfl⟩)) ah) ao))) ⟨y,0,_,rfl,rfl⟩) λv H' s q=>post v H' (s1.trans s) ?_
    rw [qN,c1,c2]
    exact q
  ·cases ht'
def mm (p x:D):Bool:=bY x 0 99 || mB p x
def xl (ds:List D) (d:D):Prop:=∃ x p,ds=[x,p]/\ppD 3 p=true/\d=.bl (mm p x)
theorem tJ (T:Txt P w K mg) (Ej:FnOk P w K mg base CX0 k T.EM T.EN ["thing","low","high"] (spD K eS)) (JR:FnOk P w K mg base CX0 k T.Gn T.Gv ["thing","pattern"] (spD K xm)):FnOk P w K mg base CX0 (k+1) T.Ik T.Iq ["thing","pattern"] (spD K xl):=by
 refine T.IK.ok sc_is_cell (λvs H Q E h=>?_) (λcdv A outer s H vs Q E hr h=>?_)
 ·obtain ⟨ds,d,hd,⟨x,p,rfl,_⟩,_⟩:=h;exact hd.length.symm
 have nd:=sc_is_cell.nd
 obtain ⟨ds,d,hd,⟨x,p,rfl,hp,rfl⟩,post⟩:=h
 obtain ⟨v0,v1,rfl,h0,h1⟩:=gy hd
 refine ⟨_,(aq (aE (Bv (aD Ej hr rfl T.FB T.EO.kp (d7 T) .nil aQ (ag (pv 0) (ag aj (ag (bj (v:=.int 99) rfl T.FA ⟨_,rfl⟩) af)))) (kP (aD JR hr rfl T.Jk T.Hs.kp (o4 T) .nil aQ (ag (pv 0) (ag (pv 1) af))))))),?_⟩
 exact aP (K:=K) (d:=.bl (mm p x)) (BA (aS (R:=eS) (aa (ae h0) (aa ah (aa ah ao))) ⟨x,0,99,rfl,rfl⟩) λ_=>aS (R:=xm) (aa (ae h0) (aa (ae h1) ao)) ⟨x,p,rfl,hp,rfl⟩) post
abbrev NM:List Str:=["end","put","far","load","add","sub","mul","less","skip","jump","zero","none","more","twice","about","call","back"]
def bM (i:Int):Nat:=if i ∈ ([2,9,11,15]:List Int) then 2 else if i ∈ ([1,3,8,10,12]:List Int) then 1 else 0
structure okC (cs:List Int):Prop where
 l0:1≤cs.length
 l1:cs.length≤900
 c:∀ (i:Nat) (c:Int),cs[i]?=some c->0≤c/\c≤99
abbrev cD (cs:List Int):List D:=cs.map D.int
def jM (cs:List Int) (p m:Nat):List D:=((cD cs).drop (p+1)).take m
def nmC (c:Int):Str:=NM.getD c.toNat ""
def iU (cs:List Int) (p:Nat) (c:Int):Bool:=decide (16 < c) || decide (cs.length≤p+bM c)
theorem uY:∀ i:Nat,i < 17->INS[i]?=some (.tup [.str (NM.getD i ""),.int ((bM i:Nat):Int)]):=by
 intro i hi
 match i,hi with
 | 0,_=>rfl
 | 1,_=>rfl
 | 2,_=>rfl
 | 3,_=>rfl
 | 4,_=>rfl
 | 5,_=>rfl
 | 6,_=>rfl
 | 7,_=>rfl
 | 8,_=>rfl
 | 9,_=>rfl
 | 10,_=>rfl
 | 11,_=>rfl
 | 12,_=>rfl
 | 13,_=>rfl
 | 14,_=>rfl
 | 15,_=>rfl
 | 16,_=>rfl
 | n+17,h=>omega
theorem B3:∀ i:Nat,i < 17->NM[i]?=some (NM.getD i ""):=by
 intro i hi
 match i,hi with
 | 0,_=>rfl
 | 1,_=>rfl
 | 2,_=>rfl
 | 3,_=>rfl
 | 4,_=>rfl
 | 5,_=>rfl
 | 6,_=>rfl
 | 7,_=>rfl
 | 8,_=>rfl
 | 9,_=>rfl
 | 10,_=>rfl
 | 11,_=>rfl
 | 12,_=>rfl
 | 13,_=>rfl
 | 14,_=>rfl
 | 15,_=>rfl
 | 16,_=>rfl
 | n+17,h=>omega
theorem Ae (c:Int):bM c≤2:=by
 unfold bM
 split
 ·exact Nat.le_refl _
 ·split <;> omega
variable {cs:List Int} {p:Nat} {c:Int}
theorem xJ (h:cs[p]?=some c):(cD cs)[p]?=some (.int c):=by
 rw [List.getElem?_map,h]
 rfl
theorem ml {m:Nat}:(jM cs p m).length=min m (cs.length - (p+1)):=by
 unfold jM
 rw [List.length_take,List.length_drop,List.length_map]
theorem xC (h:iU cs p c=false):c≤16/\p+bM c < cs.length:=by
 unfold iU at h
 rw [Bool.or_eq_false_iff] at h
 have h1:=of_decide_eq_false h.1
 have h2:=of_decide_eq_false h.2
 omega
theorem C2 (h:iU cs p c=true):16 < c\/(c≤16/\cs.length≤p+bM c):=by
 unfold iU at h
 rw [Bool.or_eq_true] at h
 by_cases h16:16 < c
 ·exact .inl h16
 ·rcases h with h | h
  ·exact absurd (of_decide_eq_true h) h16
  ·exact .inr ⟨by omega,of_decide_eq_true h⟩
def uF (as:List Ar) (d:D):Prop:=∃ (cs:List Int) (p:Nat) (c:Int),as=[.l (cD cs),.d (.int p)]/\okC cs/\cs[p]?=some c/\iU cs p c=false/\d=.tup [.str (nmC c),.tup (jM cs p (bM c))]
def qE (cs:List Int) (p:Nat):Bool:=match cs[p]? with
 | none=>true
 | some c=>iU cs p c
def uD (N:Addr) (as:List Ar) (C:Addr) (i:Int):Prop:=∃ (cs:List Int) (p:Nat),as=[.l (cD cs),.d (.int p)]/\okC cs/\qE cs p=true/\C=N/\i=p
theorem kl (T:Txt P w K mg) (DT:FnOk P w K mg base CX0 k T.Gy T.Fv ["self","place"] (eO T.DS "place")):FnOk P w K mg base (CX2 P w) (k+1+1) T.D8 T.Ea ["cells","place"] (uk K "place" uF (uD T.DS)):=by
 refine T.Es.ok2 sc_instruction_at (λvs H Q E h=>?_) (λcdv A outer s H vs Q E hr h=>?_)
 ·obtain ⟨as,hd,h⟩:=h;rcases h with ⟨d,⟨cs,p,c,rfl,_⟩,_⟩ | ⟨C,i,⟨cs,p,rfl,_⟩,_⟩ <;> exact hd.length.symm
 have nd:=sc_instruction_at.nd
 obtain ⟨as,hd,h⟩:=h
 refine ⟨_,(ak (aT (PW.pt (fM (az rq (pv 1) (aO aL rfl T.Ei bH (ag (pv 0) af)) (aJ _)) (eG (az rq (aN (ix_list.or aI) (pv 0) (pv 1) (λ_ _=>rfl)) (aO aL rfl T.Ei bH (ag (bj (v:=.ref T.Et) rfl T.D4 rfl) af)) (aJ _))))) (aq (cT T.Gr DT (dO T) hr gQ rfl T.EK (ag (pv 1) af))) aF)
 (ak (eX (aN aI (bj (v:=.ref T.Et) rfl T.D4 rfl) (aN (ix_list.or aI) (pv 0) (pv 1) (λ_ _=>rfl)) (λ_ _=>rfl)) (fH rfl (aW (aH (i:=2) nd rfl (Or.inl rfl)) (aW (aH (i:=3) nd rfl (Or.inl rfl)) dX))))
 (ak (ba (i:=4) nd rfl (Or.inl rfl) (cv gN rfl T.Hx fw (ag (jc (sl_list.or qm) (pv 0) (gC (aU ck (pv 1) aj)) (gC (aU ck (aU ck (pv 1) aj) (pv 3)))) af)))
 (ak (aT (az jE (aO aL rfl T.Ei bH (ag (pv 4) af)) (pv 3) (aJ _)) (aq (cT T.Gr DT (dO T) hr gQ rfl T.EK (ag (pv 1) af))) aF)
 (aq (aE (aC (ag (pv 2) (ag (pv 4) af))))))))),?_⟩
 rcases h with ⟨d,⟨cs,p,c,rfl,ok,hc,hb,rfl⟩,post⟩ | ⟨C,i,⟨cs,p,rfl,ok,hbp,rfl,rfl⟩,post⟩
 ·obtain ⟨v0,v1,rfl,h0,h1⟩:=xy hd
  have h0:LD K H (cD cs) v0:=h0
  have h1:Dat K H (.int (p:Int)) v1:=h1
  obtain rfl:=h1.intE
  have hp:p < cs.length:=(List.getElem?_eq_some_iff.mp hc).1
  obtain ⟨c0,c99⟩:=ok.c p c hc
  have ec:c=((c.toNat:Nat):Int):=by omega
  have hc':=xJ hc
  obtain ⟨h16,hlt⟩:=xC hb
  have lb:(jM cs p (bM c)).length=bM c:=by rw [ml];omega
  refine aA (K:=K) (b:=false) (RT.as (cO (b:=false) (c:=false) (RT.as (au (bC (p:=λi j=>decide (j≤i)) (ae h1) (dq (bW h0)))) (decide_eq_false (by rw [List.length_map];omega))) λ_=>RT.as (au (bC (p:=λi j=>decide (j≤i)) (ku (k:=p) (bW h0) (ae h1) hc') (bQ (eY T.DU)))) (decide_eq_false (by show ¬ (17:Int)≤c;omega))) rfl) (λc=>nomatch c) (λ_ H1 s1=>?_)
  have h0:=s1.ld h0
  have h1:=s1.dat h1
  have hi:=uY c.toNat (by omega)
  rw [← ec] at hi
  refine iy (K:=K) (d:=.str (nmC c)) (e:=.int (bM c)) (aM (k:=c.toNat) (eY T.DU) (RE.as (ku (k:=p) (bW h0) (ae h1) hc') (congrArg D.int ec)) hi) λv2 v3 H2 s2 h2 h3=>?_
  have h0:=s2.ld h0
  have h1:=s2.dat h1
  have el:(p:Int)+1=((p+1:Nat):Int):=by omega
  have eh:(p:Int)+1+(bM c:Int)=((p+1+bM c:Nat):Int):=by omega
  refine bL (K:=K) (d:=.tup (jM cs p (bM c))) (RE.as (oN (vy (lo:=p+1) (hi:=p+1+bM c) (bW h0) (RE.as (cq (ae h1) ah) (congrArg D.int el)) (RE.as (cq (cq (ae h1) ah) (ae h3)) (congrArg D.int eh)))) (by unfold jM;rw [show p+1+bM c - (p+1)=bM c by omega])) λv4 H3 s3 h4=>?_
  refine aA (K:=K) (b:=false) (RT.as (au (bC (p:=λi j=>decide (i < j)) (bQ (ae h4)) (ae (s3.dat h3)))) (decide_eq_false (by rw [lb];omega))) (λc=>nomatch c) (λ_ H4 s4=>?_)
  exact aP (K:=K) (d:=.tup [.str (nmC c),.tup (jM cs p (bM c))]) (aB (aa (ae (s4.dat (s3.dat h2))) (aa (ae (s4.dat h4)) ao))) λv H' s q=>post v H' (s1.trans (s2.trans (s3.trans (s4.trans s)))) q
 ·unfold qE at hbp
  split at hbp
  ·rename_i hn
   obtain ⟨v0,v1,rfl,h0,h1⟩:=xy hd
   have h0:LD K H (cD cs) v0:=h0
   have h1:Dat K H (.int (p:Int)) v1:=h1
   obtain rfl:=h1.intE
   have hp:cs.length≤p:=List.getElem?_eq_none_iff.mp hn
   refine aA (K:=K) (b:=true) (RT.as (cO (b:=true) (c:=true) (RT.as (au (bC (p:=λi j=>decide (j≤i)) (ae h1) (dq (bW h0)))) (decide_eq_true (by rw [List.length_map];omega))) λz=>nomatch z) rfl) (λ_ H1 s1=>?_) (λc=>nomatch c)
   exact ⟨_,rfl,_,rfl,λdx n=>post _ dx (s1.trans (aG n _)) ay⟩
  rename_i c hc
  have hb:=hbp
  obtain ⟨v0,v1,rfl,h0,h1⟩:=xy hd
  have h0:LD K H (cD cs) v0:=h0
  have h1:Dat K H (.int (p:Int)) v1:=h1
  obtain rfl:=h1.intE
  have hp:p < cs.length:=(List.getElem?_eq_some_iff.mp hc).1
  obtain ⟨c0,c99⟩:=ok.c p c hc
  have ec:c=((c.toNat:Nat):Int):=by omega
  have hc':=xJ hc
  rcases C2 hb with h16 | ⟨h16,hlt⟩
  ·refine aA (K:=K) (b:=true) (RT.as (cO (b:=false) (c:=true) (RT.as (au (bC (p:=λi j=>decide (j≤i)) (ae h1) (dq (bW h0)))) (decide_eq_false (by rw [List.length_map];omega))) λ_=>RT.as (au (bC (p:=λi j=>decide (j≤i)) (ku (k:=p) (bW h0) (ae h1) hc') (bQ (eY T.DU)))) (decide_eq_true (by show (17:Int)≤c;omega))) rfl) (λ_ H1 s1=>?_) (λc=>nomatch c)
   exact ⟨_,rfl,_,rfl,λdx n=>post _ dx (s1.trans (aG n _)) ay⟩
  ·have lb:(jM cs p (bM c)).length < bM c:=by rw [ml];omega
   refine aA (K:=K) (b:=false) (RT.as (cO (b:=false) (c:=false) (RT.as (au (bC (p:=λi j=>decide (j≤i)) (ae h1) (dq (bW h0)))) (decide_eq_false (by rw [List.length_map];omega))) λ_=>RT.as (au (bC (p:=λi j=>decide (j≤i)) (ku (k:=p) (bW h0) (ae h1) hc') (bQ (eY T.DU)))) (decide_eq_false (by show ¬ (17:Int)≤c;omega))) rfl) (λc=>nomatch c) (λ_ H1 s1=>?_)
   have h0:=s1.ld h0
   have h1:=s1.dat h1
   have hi:=uY c.toNat (by omega)
   rw [← ec] at hi
   refine iy (K:=K) (d:=.str (nmC c)) (e:=.int (bM c)) (aM (k:=c.toNat) (eY T.DU) (RE.as (ku (k:=p) (bW h0) (ae h1) hc') (congrArg D.int ec)) hi) λv2 v3 H2 s2 h2 h3=>?_
   have h0:=s2.ld h0
   have h1:=s2.dat h1
   have el:(p:Int)+1=((p+1:Nat):Int):=by omega
   have eh:(p:Int)+1+(bM c:Int)=((p+1+bM c:Nat):Int):=by omega
   refine bL (K:=K) (d:=.tup (jM cs p (bM c))) (RE.as (oN (vy (lo:=p+1) (hi:=p+1+bM c) (bW h0) (RE.as (cq (ae h1) ah) (congrArg D.int el)) (RE.as (cq (cq (ae h1) ah) (ae h3)) (congrArg D.int eh)))) (by unfold jM;rw [show p+1+bM c - (p+1)=bM c by omega])) λv4 H3 s3 h4=>?_
   refine aA (K:=K) (b:=true) (RT.as (au (bC (p:=λi j=>decide (i < j)) (bQ (ae h4)) (ae (s3.dat h3)))) (decide_eq_true (by omega))) (λ_ H4 s4=>?_) (λc=>nomatch c)
   exact ⟨_,rfl,_,rfl,λdx n=>post _ dx (s1.trans (s2.trans (s3.trans (s4.trans (aG n _))))) ay⟩
def rb (ns:List Int):Int:=ns.foldr (λc acc=>acc * 100+c) 0
def xp (ds:List D) (d:D):Prop:=∃ ns:List Int,ds=[.tup (ns.map D.int)]/\ns.length≤2/\(∀ n ∈ ns,0≤n/\n≤99)/\d=.int (rb ns)
variable {ns:List Int}
theorem yE:ns.length≤2->(∀ n ∈ ns,0≤n/\n≤99)->0≤rb ns/\rb ns≤9999:=by
 intro h2 h
 match ns,h2 with
 | [],_=>exact ⟨Int.le_refl _,by decide⟩
 | [a],_ =>
  have ha:=h a (by simp)
  show 0≤(0:Int) * 100+a/\(0:Int) * 100+a≤9999
  omega
 | [a,b],_ =>
  have ha:=h a (by simp)
  have hb:=h b (by simp)
  show 0≤((0:Int) * 100+b) * 100+a/\((0:Int) * 100+b) * 100+a≤9999
  omega
theorem mZ (T:Txt P w K mg)  : FnOk P w K mg base CX0 (k+1) T.FP T.FW ["behind"] (spD K xp):=by
 refine T.GS.ok sc_number_told (λvs H Q E h=>?_) (λcdv A outer s H vs Q E hr h=>?_)
 ·obtain ⟨ds,d,hd,⟨ns,rfl,_⟩,_⟩:=h;exact hd.length.symm
 have nd:=sc_number_told.nd
 obtain ⟨ds,d,hd,⟨ns,rfl,l2,hb,rfl⟩,post⟩:=h
 obtain ⟨v0,rfl,h0⟩:=fA hd
 refine ⟨_,(ak (ba (i:=1) nd rfl (Or.inl rfl) aj)
 (ak (dM PassesOwn.never rfl (AN rfl T.JD (ag (pv 0) af)) (aH (i:=2) nd rfl (Or.inl rfl)) (aq (ba (i:=1) nd rfl (Or.inl rfl) (aU ck (aU kN (pv 1) aj) (pv 2)))))
 (aq (aE (pv 1))))),?_⟩
 refine bL (K:=K) (d:=.int 0) ah λv1 H1 s1 q1=>?_
 obtain rfl:=q1.intE
 obtain ⟨a,vs,rfl,hq,hds⟩:=(s1.dat h0).tupE
 have ev:=j9 hds
 have ll:=hds.length
 rw [List.length_map] at ll
 refine bX ⟨_,rfl,a,vs,rfl,hq,xX (K:=K) (a:=a) (xs:=vs) (λi σ G=>∃ z:Option V,σ=[some (.ref a),some (.int (rb (ns.drop (ns.length - i)))),z]/\Same H1 G) ?_ ?_ ?_ ?_⟩
 ·refine ⟨none,?_,Same.refl _⟩
  rw [Nat.sub_zero,List.drop_length]
  rfl
 ·rintro i σ G hi ⟨z,rfl,sG⟩
  exact sG.sqT hq
 ·rintro i x σ G hi hx ⟨z,rfl,sG⟩
  refine dj ?_
  dsimp only
  rw [ev,List.getElem?_map,List.length_map] at hx
  obtain ⟨c,hc,rfl⟩:=Option.map_eq_some_iff.mp hx
  have hcb:=hb c (List.mem_of_getElem? hc)
  have nb:=yE (ns:=ns.drop (ns.length - i)) (by rw [List.length_drop];omega) (λn hn=>hb n (List.mem_of_mem_drop hn))
  have e:ns.drop (ns.length - (i+1))=c::ns.drop (ns.length - i):=by
   have h1:ns.length - (i+1) < ns.length:=by omega
   rw [List.drop_eq_getElem_cons h1]
   have h2:ns.length - (i+1)+1=ns.length - i:=by omega
   rw [h2]
   congr 1
   have h3:ns.length - 1 - i=ns.length - (i+1):=by omega
   rw [h3,List.getElem?_eq_getElem h1] at hc
   exact Option.some.inj hc
  refine CC (K:=K) (d:=.int (rb (ns.drop (ns.length - i)) * 100+c)) (cq (qg (ae (k:=1) (Dat.intI _)) ah (.inr ⟨by omega,by omega⟩)) (ae (k:=2) (Dat.intI c))) λv H' s d=>⟨some (.int c),?_,sG.trans s⟩
  rw [e,d.intE]
  rfl
 ·rintro σ G ⟨z,rfl,sG⟩
  have e:ns.drop (ns.length - vs.length)=ns:=by rw [← ll,Nat.sub_self];rfl
  rw [e]
  exact ⟨_,rfl,post _ _ (s1.trans sG) (Dat.intI _)⟩
def iH (c:Int):Option (Str × Nat):=match INS[c.toNat]? with
 | some (.tup [.str nm,.int m])=>some (nm,m.toNat)
 | _=>none
variable {nm:Str}
theorem ym {m:Nat} (h:iH c=some (nm,m)):INS[c.toNat]?=some (.tup [.str nm,.int (m:Int)])/\c.toNat < 17:=by
 unfold iH at h
 have hlt:c.toNat < 17:=by
  by_cases hc:c.toNat < 17
  ·exact hc
  ·rw [List.getElem?_eq_none (by show (17:Nat)≤c.toNat;omega)] at h
   cases h
 refine ⟨?_,hlt⟩
 have all:∀ i:Nat,i < 17->∀ nm m,(match INS[i]? with | some (.tup [.str nm,.int m])=>some (nm,m.toNat) | _=>none)=some (nm,m)->INS[i]?=some (.tup [.str nm,.int (m:Int)]):=by
  intro i hi nm m e
  match i,hi with
  | 0,_=>cases e;rfl
  | 1,_=>cases e;rfl
  | 2,_=>cases e;rfl
  | 3,_=>cases e;rfl
  | 4,_=>cases e;rfl
  | 5,_=>cases e;rfl
  | 6,_=>cases e;rfl
  | 7,_=>cases e;rfl
  | 8,_=>cases e;rfl
  | 9,_=>cases e;rfl
  | 10,_=>cases e;rfl
  | 11,_=>cases e;rfl
  | 12,_=>cases e;rfl
  | 13,_=>cases e;rfl
  | 14,_=>cases e;rfl
  | 15,_=>cases e;rfl
  | 16,_=>cases e;rfl
  | n+17,h=>omega
 exact all c.toNat hlt nm m h
def fu (cells:List D) (p m:Nat):List D:=(cells.drop (p+1)).take m
def vL (ds:List Ar) (d:D):Prop:=∃ (cells:List D) (p:Nat) (c:Int) (nm:Str) (m:Nat),ds=[.d (.tup cells),.d (.int p)]/\cells[p]?=some (.int c)/\0≤c/\iH c=some (nm,m)/\(fu cells p m).length=m/\d=.tup [.str nm,.tup (fu cells p m)]
theorem As:∀ i:Nat,i < 17->∃ nm m,INS[i]?=some (.tup [.str nm,.int m]):=by
 intro i hi
 match i,hi with
 | 0,_=>exact ⟨_,_,rfl⟩
 | 1,_=>exact ⟨_,_,rfl⟩
 | 2,_=>exact ⟨_,_,rfl⟩
 | 3,_=>exact ⟨_,_,rfl⟩
 | 4,_=>exact ⟨_,_,rfl⟩
 | 5,_=>exact ⟨_,_,rfl⟩
 | 6,_=>exact ⟨_,_,rfl⟩
 | 7,_=>exact ⟨_,_,rfl⟩
 | 8,_=>exact ⟨_,_,rfl⟩
 | 9,_=>exact ⟨_,_,rfl⟩
 | 10,_=>exact ⟨_,_,rfl⟩
 | 11,_=>exact ⟨_,_,rfl⟩
 | 12,_=>exact ⟨_,_,rfl⟩
 | 13,_=>exact ⟨_,_,rfl⟩
 | 14,_=>exact ⟨_,_,rfl⟩
 | 15,_=>exact ⟨_,_,rfl⟩
 | 16,_=>exact ⟨_,_,rfl⟩
 | n+17,h=>omega
theorem yn (c0:0≤c) (h:iH c=none):17≤c:=by
 by_cases hc:c.toNat < 17
 ·obtain ⟨nm,m,e⟩:=As c.toNat hc
  unfold iH at h
  rw [e] at h
  cases h
 ·omega
def vJ (N:Addr) (ds:List Ar) (C:Addr) (i:Int):Prop:=∃ (cells:List D) (p:Nat) (c:Int),ds=[.d (.tup cells),.d (.int p)]/\cells[p]?=some (.int c)/\0≤c/\(iH c=none\/∃ nm m,iH c=some (nm,m)/\¬ (fu cells p m).length=m)/\C=N/\i=p
variable {cells:List D}
theorem Af {m:Nat}:(fu cells p m).length≤m:=by
 unfold fu
 rw [List.length_take]
 omega
theorem jT (T:Txt P w K mg) (DT:FnOk P w K mg base CX0 k T.Gy T.Fv ["self","place"] (eO T.DS "place")):FnOk P w K mg base (CX2 P w) (k+1+1) T.D8 T.Ea ["cells","place"] (uk K "place" vL (vJ T.DS)):=by
 refine T.Es.ok2 sc_instruction_at (λvs H Q E h=>?_) (λcdv A outer s H vs Q E hr h=>?_)
 ·obtain ⟨ds,hd,h⟩:=h;rcases h with ⟨d,⟨cells,p,c,nm,m,rfl,_⟩,_⟩ | ⟨C,ci,⟨cells,p,c,rfl,_⟩,_⟩ <;> exact hd.length.symm
 have nd:=sc_instruction_at.nd
 obtain ⟨ds,hd,h⟩:=h
 refine ⟨_,(ak (aT (PW.pt (fM (az rq (pv 1) (aO aL rfl T.Ei bH (ag (pv 0) af)) (aJ _)) (eG (az rq (aN (ix_list.or aI) (pv 0) (pv 1) (λ_ _=>rfl)) (aO aL rfl T.Ei bH (ag (bj (v:=.ref T.Et) rfl T.D4 rfl) af)) (aJ _))))) (aq (cT T.Gr DT (dO T) hr gQ rfl T.EK (ag (pv 1) af))) aF)
 (ak (eX (aN aI (bj (v:=.ref T.Et) rfl T.D4 rfl) (aN (ix_list.or aI) (pv 0) (pv 1) (λ_ _=>rfl)) (λ_ _=>rfl)) (fH rfl (aW (aH (i:=2) nd rfl (Or.inl rfl)) (aW (aH (i:=3) nd rfl (Or.inl rfl)) dX))))
 (ak (ba (i:=4) nd rfl (Or.inl rfl) (cv gN rfl T.Hx fw (ag (jc (sl_list.or qm) (pv 0) (gC (aU ck (pv 1) aj)) (gC (aU ck (aU ck (pv 1) aj) (pv 3)))) af)))
 (ak (aT (az jE (aO aL rfl T.Ei bH (ag (pv 4) af)) (pv 3) (aJ _)) (aq (cT T.Gr DT (dO T) hr gQ rfl T.EK (ag (pv 1) af))) aF)
 (aq (aE (aC (ag (pv 2) (ag (pv 4) af))))))))),?_⟩
 rcases h with ⟨d,⟨cells,p,c,nm,m,rfl,hc,c0,hi,hb,rfl⟩,post⟩ | ⟨C,ci,⟨cells,p,c,rfl,hc,c0,hi,rfl,rfl⟩,post⟩
 ·obtain ⟨v0,v1,rfl,h0,h1⟩:=xy hd
  have h0:Dat K H (.tup cells) v0:=h0
  have h1:Dat K H (.int (p:Int)) v1:=h1
  obtain rfl:=h1.intE
  obtain ⟨hi,h17⟩:=ym hi
  have hp:p < cells.length:=(List.getElem?_eq_some_iff.mp hc).1
  have ec:c=((c.toNat:Nat):Int):=by omega
  refine aA (K:=K) (b:=false) (RT.as (cO (b:=false) (c:=false) (RT.as (au (bC (p:=λi j=>decide (j≤i)) (ae h1) (bQ (ae h0)))) (decide_eq_false (by omega))) λ_=>RT.as (au (bC (p:=λi j=>decide (j≤i)) (nv (k:=p) (ae h0) (ae h1) hc) (bQ (eY T.DU)))) (decide_eq_false (by show ¬ (17:Int)≤c;omega))) rfl) (λc=>nomatch c) (λ_ H1 s1=>?_)
  have h0:=s1.dat h0
  have h1:=s1.dat h1
  refine iy (K:=K) (d:=.str nm) (e:=.int m) (aM (k:=c.toNat) (eY T.DU) (RE.as (nv (k:=p) (ae h0) (ae h1) hc) (congrArg D.int ec)) hi) λv2 v3 H2 s2 h2 h3=>?_
  have h0:=s2.dat h0
  have h1:=s2.dat h1
  have el:(p:Int)+1=((p+1:Nat):Int):=by omega
  have eh:(p:Int)+1+(m:Int)=((p+1+m:Nat):Int):=by omega
  refine bL (K:=K) (d:=.tup (fu cells p m)) (RE.as (oO (vA (lo:=p+1) (hi:=p+1+m) (ae h0) (RE.as (cq (ae h1) ah) (congrArg D.int el)) (RE.as (cq (cq (ae h1) ah) (ae h3)) (congrArg D.int eh)) (by omega) (by omega))) (by unfold fu;rw [show p+1+m - (p+1)=m by omega])) λv4 H3 s3 h4=>?_
  refine aA (K:=K) (b:=false) (RT.as (au (bC (p:=λi j=>decide (i < j)) (bQ (ae h4)) (ae (s3.dat h3)))) (decide_eq_false (by rw [hb];omega))) (λc=>nomatch c) (λ_ H4 s4=>?_)
  exact aP (K:=K) (d:=.tup [.str nm,.tup (fu cells p m)]) (aB (aa (ae (s4.dat (s3.dat h2))) (aa (ae (s4.dat h4)) ao))) λv H' s q=>post v H' (s1.trans (s2.trans (s3.trans (s4.trans s)))) q
 ·obtain ⟨v0,v1,rfl,h0,h1⟩:=xy hd
  have h0:Dat K H (.tup cells) v0:=h0
  have h1:Dat K H (.int (p:Int)) v1:=h1
  obtain rfl:=h1.intE
  have hp:p < cells.length:=(List.getElem?_eq_some_iff.mp hc).1
  have ec:c=((c.toNat:Nat):Int):=by omega
  rcases hi with hi | ⟨nm,m,hi,hb⟩
  ·have h17:=yn c0 hi
   refine aA (K:=K) (b:=true) (RT.as (cO (b:=false) (c:=true) (RT.as (au (bC (p:=λi j=>decide (j≤i)) (ae h1) (bQ (ae h0)))) (decide_eq_false (by omega))) λ_=>RT.as (au (bC (p:=λi j=>decide (j≤i)) (nv (k:=p) (ae h0) (ae h1) hc) (bQ (eY T.DU)))) (decide_eq_true (by show (17:Int)≤c;omega))) rfl) (λ_ H1 s1=>?_) (λc=>nomatch c)
   exact ⟨_,rfl,_,rfl,λdx n=>post _ dx (s1.trans (aG n _)) ay⟩
  ·obtain ⟨hi,h17⟩:=ym hi
   refine aA (K:=K) (b:=false) (RT.as (cO (b:=false) (c:=false) (RT.as (au (bC (p:=λi j=>decide (j≤i)) (ae h1) (bQ (ae h0)))) (decide_eq_false (by omega))) λ_=>RT.as (au (bC (p:=λi j=>decide (j≤i)) (nv (k:=p) (ae h0) (ae h1) hc) (bQ (eY T.DU)))) (decide_eq_false (by show ¬ (17:Int)≤c;omega))) rfl) (λc=>nomatch c) (λ_ H1 s1=>?_)
   have h0:=s1.dat h0
   have h1:=s1.dat h1
   refine iy (K:=K) (d:=.str nm) (e:=.int m) (aM (k:=c.toNat) (eY T.DU) (RE.as (nv (k:=p) (ae h0) (ae h1) hc) (congrArg D.int ec)) hi) λv2 v3 H2 s2 h2 h3=>?_
   have h0:=s2.dat h0
   have h1:=s2.dat h1
   have el:(p:Int)+1=((p+1:Nat):Int):=by omega
   have eh:(p:Int)+1+(m:Int)=((p+1+m:Nat):Int):=by omega
   refine bL (K:=K) (d:=.tup (fu cells p m)) (RE.as (oO (vA (lo:=p+1) (hi:=p+1+m) (ae h0) (RE.as (cq (ae h1) ah) (congrArg D.int el)) (RE.as (cq (cq (ae h1) ah) (ae h3)) (congrArg D.int eh)) (by omega) (by omega))) (by unfold fu;rw [show p+1+m - (p+1)=m by omega])) λv4 H3 s3 h4=>?_
   have bm:=Af (cells:=cells) (p:=p) (m:=m)
   refine aA (K:=K) (b:=true) (RT.as (au (bC (p:=λi j=>decide (i < j)) (bQ (ae h4)) (ae (s3.dat h3)))) (decide_eq_true (by omega))) (λ_ H4 s4=>?_) (λc=>nomatch c)
   exact ⟨_,rfl,_,rfl,λdx n=>post _ dx ((s1.trans (s2.trans (s3.trans s4))).trans (aG n _)) ay⟩
abbrev SS:List Str:=["put","far","load","add","sub","mul","less","more","twice","about"]
def B2 (rec:Nat->Option Bool) (pat:D) (cells:List D) (p:Nat):D->Option Bool
 | .int c=>(match iH c with
  | some (nm,m)=>if (fu cells p m).length=m then (if (!decide (nm ∈ SS) || !((fu cells p m).map (mm pat)).all id)=true then some false else rec (p+1+m)) else none
  | none=>none)
 | _=>none
def jJ:Nat->D->List D->Nat->Option Bool
 | 0,_,_,_=>none
 | n+1,pat,cells,p=>match cells[p]? with
  | none=>some true
  | some x=>if bY x 0 99=false then some false else B2 (jJ n pat cells) pat cells p x
def BK (ds:List D) (d:D):Prop:=∃ (cells:List D) (pat:D) (b:Bool),ds=[.tup cells,pat]/\ppD 3 pat=true/\cells.length≤100/\(jJ (cells.length+1) pat cells 0).getD false=b/\d=.bl b
def DM (σ:L2.St) (_:Hp):Nat:=match σ[2]? with
 | some (some (V.int p))=>(200 - p).toNat
 | _=>0
theorem BU {m:Nat}:(fu cells p m).length≤cells.length:=by
 unfold fu
 rw [List.length_take,List.length_drop]
 omega
theorem Ad {m:Nat} (h:(fu cells p m).length=m) (hp:p < cells.length):p+1+m≤cells.length:=by
 unfold fu at h
 rw [List.length_take,List.length_drop] at h
 omega
theorem AM {X:Cx} {K:PySem.W.Frag} {es:List Expr} {k:Nat} {t:TGs} {pos:Pos} (hK:X.K=K) (hc:X.calm=true) (h:PGs X es t)
  (hn:(assignEach es X.env).length=n:=by rfl) (hst:(assignEach es X.env).findIdx? (·.1)=none:=by rfl):PG X (.Tuple es k pos) (pq K n t):=by
 subst hK
 exact fH hc h hn hst
variable {te:TE} {En:gM} {i j:Nat} {e:D}
theorem Bc {K:PySem.W.Frag} (h:RE K te σ H (.tup [d,e])) (q:∀ v w H',Same H H'->Dat K H' d v->Dat K H' e w->En.nx ((σ.set i (some v)).set j (some w)) H') :
  jY te (pq K 2 (fK (bq i) (fK (bq j) sS))) En σ H :=
 iy (us:=iJ) h q
theorem jz (T:Txt P w K mg) (Ej:FnOk P w K mg base CX0 k T.EM T.EN ["thing","low","high"] (spD K eS)) (GC:FnOk P w K mg base (CX2 P w) k T.D8 T.Ea ["cells","place"] (uk K "place" vL (vJ T.DS))) (Kh:FnOk P w K mg base CX0 k T.Ik T.Iq ["thing","pattern"] (spD K xl)):FnOk P w K mg base CX0 (k+1) T.Ex T.EA ["cells","pattern"] (spD K BK):=by
 refine T.Fe.ok sc_are_instructions (λvs H Q E h=>?_) (λcdv A outer s H vs Q E hr h=>?_)
 ·obtain ⟨ds,d,hd,⟨cells,pat,bb,rfl,_⟩,_⟩:=h;exact hd.length.symm
 have nd:=sc_are_instructions.nd
 obtain ⟨ds,d,hd,⟨cells,pat,bb,rfl,hp,hl,hr2,rfl⟩,post⟩:=h
 obtain ⟨v0,v1,rfl,h0,h1⟩:=gy hd
 refine ⟨_,(ak (ba (i:=2) nd rfl (Or.inl rfl) aj)
 (ak (m8 PassesOwn.never (az jE (pv 2) (aO aL rfl T.Ei bH (ag (pv 0) af)) (aJ _)) (ak (aT (cI (bz (aD Ej hr rfl T.FB T.EO.kp (d7 T) .nil aQ (ag (aN aI (pv 0) (pv 2) (λ_ _=>rfl)) (ag aj (ag (bj (v:=.int 99) rfl T.FA ⟨_,rfl⟩) af)))) (λ_=>rfl))) (aq (aE cV)) aF)
 (ak (AR (t:=λE=>jY (λσ=>fO (uk K "place" vL (vJ T.DS)) [] (E σ) (bf (cx 0) (bf (cx 2) cu)) σ) (pq K 2 (fK (bq 3) (fK (bq 4) sS)))) (λpn xe E hx=>(by refine' aq ?_;refine' eX (yK GC hr rfl T.GM T.Es.kp (gR T) .nil hx (ag (pv 0) (ag (pv 2) af))) ?_;exact (AM (K:=K) (n:=2) rfl rfl (aW (aH (i:=3) nd rfl (Or.inl rfl)) (aW (aH (i:=4) nd rfl (Or.inl rfl)) dX))))) rfl T.EK (λe=>(aq (aE cV))))
 (ak (aT (PW.pt (fM (az pW (pv 3) (bj (v:=.ref T.Iz) rfl T.GL rfl) (by with_unfolding_all rfl)) (eG (cI (bz (aO (j4 rfl) rfl T.J7 o9 (ag (cZ (own:=["cell"]) (fr:=[1]) (N':=["cell","pattern"]) (jU (pv 4)) rfl (by show cR ["cells","pattern","place","name","behind"] (λx=>(ax cG).names.lookup x) _ _ _ _=true;decide +kernel) rfl (λ_ _ _ _ _=>(aH (i:=0) (by show List.Nodup [("cell":Str),("pattern":Str)];decide +kernel) rfl (Or.inl rfl))) (λ_ _ _ _ _=>cn) (λ_ _ _ _ _=>(aD Kh hr rfl T.JM T.IK.kp (vN T) .nil aQ (ag (pv 0) (ag (pv 1) af))))) af)) (λ_=>rfl)))))) (aq (aE cV)) aF)
 (aq (yU (i:=2) nd rfl (Or.inl rfl) (aU ck aj (aO aL rfl T.Ei bH (ag (pv 4) af))) sY))))))
 (aq (aE cV)))),?_⟩
 refine fJ (Dl (bX (zV (λσ G=>∃ (p n:Nat) (z3 z4:Option V),σ=[some v0,some v1,some (.int p),z3,z4]/\Same H G/\(jJ n pat cells p).getD false=bb/\p≤cells.length/\cells.length+1≤n+p) DM ?_ ?_ ?_)))
 ·exact ⟨0,_,none,none,rfl,Same.refl _,hr2,Nat.zero_le _,Nat.le_refl _⟩
 ·rintro σ G ⟨p,n,z3,z4,rfl,sG,ha,hpl,hfu⟩
  have g0:=sG.dat h0
  have g1:=sG.dat h1
  refine RT.use (b:=decide ((p:Int) < (cells.length:Int))) (au (bC (p:=λi j=>decide (i < j)) (ae (K:=K) (Dat.intI (p:Int))) (bQ (ae g0)))) λG1 s1=>?_
  obtain ⟨n,rfl⟩:∃ m,n=m+1:=⟨n - 1,by omega⟩
  by_cases hlt:p < cells.length
  ·rw [decide_eq_true (by omega:(p:Int) < (cells.length:Int))]
   refine jQ ?_
   have hx:cells[p]?=some cells[p]:=List.getElem?_eq_getElem hlt
   generalize cells[p]=x at hx
   have ha':(if bY x 0 99=false then some false else B2 (jJ n pat cells) pat cells p x).getD false=bb:=by
    have e:(jJ (n+1) pat cells p).getD false=bb:=ha
    unfold jJ at e
    rw [hx] at e
    exact e
   have g0:=s1.dat g0
   have g1:=s1.dat g1
   refine aA (K:=K) (b:=!bY x 0 99) (bD (aV (aS (R:=eS) (aa (aM (k:=p) (ae g0) (ae (Dat.intI (p:Int))) hx) (aa ah (aa ah ao))) ⟨x,0,99,rfl,rfl⟩))) (λcB G2 s2=>?_) (λcB G2 s2=>?_)
   ·rw [if_pos (iV cB)] at ha'
    cases ha'
    exact post _ _ (sG.trans (s1.trans s2)) (Dat.blI _)
   ·have cw:=fX cB
    rw [if_neg (by rw [cw];exact λz=>nomatch z)] at ha'
    have g0:=s2.dat g0
    have g1:=s2.dat g1
    cases x with
    | int c =>
     have ha':(match iH c with
      | some (nm,m)=>if (fu cells p m).length=m then (if (!decide (nm ∈ SS) || !((fu cells p m).map (mm pat)).all id)=true then some false else jJ n pat cells (p+1+m)) else none
      | none=>none).getD false=bb:=ha'
     have c0:0≤c:=by
      have z:(decide (0≤c) && decide (c≤99))=true:=cw
      rw [Bool.and_eq_true] at z
      exact of_decide_eq_true z.1
     have rA:RB K (bf (cx 0) (bf (cx 2) cu)) [some v0,some v1,some (.int (p:Int)),z3,z4] G2 [.d (.tup cells),.d (.int p)]:=Cs (ae (k:=0) g0) (Cs (ae (k:=2) (Dat.intI (p:Int))) zm)
     cases hin:iH c with
     | none =>
      rw [hin] at ha'
      have eb:bb=false:=ha'.symm
      subst eb
      refine bX (kR (R:=vL) (B:=vJ T.DS) rA ⟨cells,p,c,rfl,hx,c0,.inl hin,rfl,rfl⟩ λG3 dx s3 hdx=>⟨T.Ep,?_⟩)
      exact post _ _ (sG.trans (s1.trans (s2.trans s3))) (Dat.blI _)
     | some nm =>
      obtain ⟨nm,m⟩:=nm
      rw [hin] at ha'
      dsimp only at ha'
      by_cases hb:(fu cells p m).length=m
      ·rw [if_pos hb] at ha'
       refine bX (Bc (K:=K) (d:=.str nm) (e:=.tup (fu cells p m)) (oK (R:=vL) (B:=vJ T.DS) rA ⟨cells,p,c,nm,m,rfl,hx,c0,hin,hb,rfl⟩) λv3 v4 G3 s3 g3 g4=>?_)
       have g1:=s3.dat g1
       have lb:=BU (cells:=cells) (p:=p) (m:=m)
       refine aA (K:=K) (b:=!decide (nm ∈ SS) || !((fu cells p m).map (mm pat)).all id) (cO (au (wQ (ys:=SS) (ae g3) (eY T.JA))) λ_=>bD (aV (lU (tW (ae g4) (by omega) _ (by simp) rfl (λG4 i z vz d s4 hz hi hvz=>?_))))) (λc2 G4 s4=>?_) (λc2 G4 s4=>?_)
       ·rw [List.getElem?_map,List.getElem?_map,hz] at hi
        cases hi
        exact aS (E:=E0) (R:=xl) (aa (ae hvz) (aa (ae (s4.dat g1)) ao)) ⟨z,pat,rfl,hp,rfl⟩
       ·rw [if_pos c2] at ha'
        cases ha'
        exact post _ _ (sG.trans (s1.trans (s2.trans (s3.trans s4)))) (Dat.blI _)
       ·rw [if_neg (by rw [c2];exact Bool.false_ne_true)] at ha'
        refine ⟨_,rfl,RE.use (cq (K:=K) ah (bQ (ae (s4.dat g4)))) λv5 G5 s5 q5=>?_⟩
        refine ⟨p,1+((fu cells p m).length:Int),rfl,q5.intE,?_⟩
        have ep:(p:Int)+(1+((fu cells p m).length:Int))=((p+1+m:Nat):Int):=by rw [hb];omega
        have he:=Ad hb hlt
        refine ⟨⟨p+1+m,n,some v3,some v4,by rw [← ep];rfl,sG.trans (s1.trans (s2.trans (s3.trans (s4.trans s5)))),ha',he,by omega⟩,?_⟩
        show (200 - ((p:Int)+(1+((fu cells p m).length:Int)))).toNat < (200 - (p:Int)).toNat
        omega
      ·rw [if_neg hb] at ha'
       have eb:bb=false:=ha'.symm
       subst eb
       refine bX (kR (R:=vL) (B:=vJ T.DS) rA ⟨cells,p,c,rfl,hx,c0,.inr ⟨nm,m,hin,hb⟩,rfl,rfl⟩ λG3 dx s3 hdx=>⟨T.Ep,?_⟩)
       exact post _ _ (sG.trans (s1.trans (s2.trans s3))) (Dat.blI _)
    | _=>cases cw
  ·rw [decide_eq_false (by omega:¬ (p:Int) < (cells.length:Int))]
   refine jP ?_
   have e:jJ (n+1) pat cells p=some true:=by
    unfold jJ
    rw [List.getElem?_eq_none (by omega)]
   rw [e] at ha
   cases ha
   exact post _ _ (sG.trans s1) (Dat.blI _)
 ·intro σ G Q1 Q2 hQ hc
  obtain ⟨v,e,v',e',p,ys,e2,hq,i,j,e3,e4,b,e5,q⟩:=hc
  exact ⟨v,e,v',e',p,ys,e2,hq,i,j,e3,e4,b,e5,hQ _ _ q⟩
def mG:D->Bool
 | .str x=>decide (x="pick")
 | _=>false
def csD (pat:D):D->Option Bool
 | .tup l=>if (decide (1≤(l.length:Int)) && decide ((l.length:Int)≤12))=false then some false else jJ (l.length+1) pat l 0
 | _=>some false
def jd:D->Option Bool
 | .tup [nm,pat,cs]=>if (!gZ nm || (mG nm || !m5 pat))=true then some false else csD pat cs
 | _=>some false
def Cd:D->Prop
 | .tup (nm::_)=>Bu nm
 | _=>True
def lZ (ds:List D) (d:D):Prop:=∃ (x:D) (b:Bool),ds=[x]/\Cd x/\(jd x).getD false=b/\d=.bl b
variable {us:TS} {f:D}
theorem qk {K:PySem.W.Frag} {l:Nat} (h:RE K te σ H (.tup [d,e,f])) (q:∀ v w x H',Same H H'->Dat K H' d v->Dat K H' e w->Dat K H' f x->us En (((σ.set i (some v)).set j (some w)).set l (some x)) H') :
  jZ (jY te (pq K 3 (fK (bq i) (fK (bq j) (fK (bq l) sS))))) us En σ H :=
 h.use λx H1 s1 q1=>by
  obtain ⟨a,vs,e1,hq,hd⟩:=q1.tupE
  obtain ⟨v,w,x,e2,hv,hw,hx⟩:=kW hd
  subst e1 e2
  exact ⟨a,_,rfl,hq,rfl,v,_,rfl,w,_,rfl,x,_,rfl,rfl,q v w x H1 s1 hv hw hx⟩
theorem mI (h:∀ y,x≠.tup y):mH x "tuple"=false:=by
 cases x with
 | tup y=>exact absurd rfl (h y)
 | _=>rfl
theorem yR (h:∀ a b c,x≠.tup [a,b,c]):jd x=some false:=by
 unfold jd
 split
 ·rename_i a b c;exact absurd rfl (h a b c)
 ·rfl
theorem Ci (h:m5 x=true):ppD 3 x=true:=by
 unfold m5 at h
 rw [Bool.and_eq_true] at h
 exact h.1
theorem yy (h:gZ x=true):∃ y,x=.str y:=by
 cases x with
 | str y=>exact ⟨y,rfl⟩
 | _=>cases h
theorem rg (T:Txt P w K mg) (Kj:FnOk P w K mg base CX0 k T.Im T.Iu ["thing"] (spD K xo)) (JS:FnOk P w K mg base CX0 k T.Gp T.Gw ["thing"] (spD K BN)) (IZ:FnOk P w K mg base CX0 k T.Ex T.EA ["cells","pattern"] (spD K BK)):FnOk P w K mg base CX0 (k+1) T.GE T.GG ["thing"] (spD K lZ):=by
 refine T.HP.ok sc_is_piece (λvs H Q E h=>?_) (λcdv A outer s H vs Q E hr h=>?_)
 ·obtain ⟨ds,d,hd,⟨x,bb,rfl,_⟩,_⟩:=h;exact hd.length.symm
 have nd:=sc_is_piece.nd
 obtain ⟨ds,d,hd,⟨x,bb,rfl,hok,hpc,rfl⟩,post⟩:=h
 obtain ⟨v0,rfl,h0⟩:=fA hd
 refine ⟨_,(ak (aT (PW.pt (fM (cI (bz (aO (dP iY) rfl T.D5 bR (bZ (pv 0) (bZ (fg (v:=.ty "tuple") rfl T.Hx fw rfl) af))) (λ_=>rfl))) (eG (az rB (aO aL rfl T.Ei bH (ag (pv 0) af)) aj (aJ _))))) (aq (aE cV)) aF)
 (ak (eX (pv 0) (fH rfl (aW (aH (i:=1) nd rfl (Or.inl rfl)) (aW (aH (i:=2) nd rfl (Or.inl rfl)) (aW (aH (i:=3) nd rfl (Or.inl rfl)) dX)))))
 (ak (aT (PW.pt (fM (cI (bz (aD Kj hr rfl T.JO T.IM.kp (vP T) .nil aQ (ag (pv 1) af)) (λ_=>rfl))) (fM (az bK (pv 1) aw (aJ _)) (eG (cI (bz (aD JS hr rfl T.Jl T.Ht.kp (o5 T) .nil aQ (ag (pv 2) af)) (λ_=>rfl))))))) (aq (aE cV)) aF)
 (ak (aT (PW.pt (fM (cI (bz (aO (dP iY) rfl T.D5 bR (bZ (pv 3) (bZ (fg (v:=.ty "tuple") rfl T.Hx fw rfl) af))) (λ_=>rfl))) (eG (cI (rN lB lB aj (aO aL rfl T.Ei bH (ag (pv 3) af)) (bj (v:=.int 12) rfl T.Eb ⟨_,rfl⟩)))))) (aq (aE cV)) aF)
 (aq (aE (aD IZ hr rfl T.HQ T.Fe.kp (jL T) .nil aQ (ag (pv 3) (ag (pv 2) af))))))))),?_⟩
 by_cases h3:∃ a b c,x=.tup [a,b,c]
 ·obtain ⟨nm,pat,cs,rfl⟩:=h3
  refine aA (K:=K) (b:=false) (RT.as (cO (b:=false) (c:=false) (RT.as (bD (aV (bI (ae h0)))) rfl) λ_=>RT.as (au (ny (bQ (ae h0)) ah)) rfl) rfl) (λc=>nomatch c) (λ_ H1 s1=>?_)
  refine qk (K:=K) (d:=nm) (e:=pat) (f:=cs) (ae (s1.dat h0)) λv1 v2 v3 H2 s2 h1 h2 h3=>?_
  have hpc':(if (!gZ nm || (mG nm || !m5 pat))=true then some false else csD pat cs).getD false=bb:=hpc
  refine aA (K:=K) (b:=!gZ nm || (mG nm || !m5 pat)) (cO (bD (aV (aS (R:=xo) (aa (ae h1) ao) ⟨nm,rfl,hok,rfl⟩))) λc=>cO ?_ λ_=>bD (aV (aS (R:=BN) (aa (ae h2) ao) ⟨pat,rfl,rfl⟩))) (λc H3 s3=>?_) (λc H3 s3=>?_)
  ·obtain ⟨y,rfl⟩:=yy (fX c)
   exact au (aR (ae h1) av)
  ·rw [if_pos c] at hpc'
   cases hpc'
   exact aP (K:=K) (d:=.bl false) eI λv H' s q=>post v H' (s1.trans (s2.trans (s3.trans s))) q
  ·rw [if_neg (by rw [c];exact Bool.false_ne_true)] at hpc'
   rw [Bool.or_eq_false_iff,Bool.or_eq_false_iff] at c
   have hp:=Ci (fX c.2.2)
   have h2:=s3.dat h2
   have h3:=s3.dat h3
   have s13:=s1.trans (s2.trans s3)
   by_cases hc:∃ l,cs=.tup l
   ·obtain ⟨l,rfl⟩:=hc
    have hpc':(if (decide (1≤(l.length:Int)) && decide ((l.length:Int)≤12))=false then some false else jJ (l.length+1) pat l 0).getD false=bb:=hpc'
    refine aA (K:=K) (b:=!(decide (1≤(l.length:Int)) && decide ((l.length:Int)≤12))) (RT.as (cO (b:=false) (RT.as (bD (aV (bI (ae h3)))) rfl) λ_=>bD (au (nj (p:=λi j=>decide (i≤j)) (r:=λi j=>decide (i≤j)) ah (bQ (ae h3)) λ_=>ah))) (Bool.false_or _)) (λc4 H4 s4=>?_) (λc4 H4 s4=>?_)
    ·rw [if_pos (iV c4)] at hpc'
     cases hpc'
     exact aP (K:=K) (d:=.bl false) eI λv H' s q=>post v H' (s13.trans (s4.trans s)) q
    ·have c5:=fX c4
     rw [if_neg (by rw [c5];exact λz=>nomatch z)] at hpc'
     rw [Bool.and_eq_true] at c5
     have l12:=of_decide_eq_true c5.2
     exact aP (K:=K) (d:=.bl bb) (aS (R:=BK) (aa (ae (s4.dat h3)) (aa (ae (s4.dat h2)) ao)) ⟨l,pat,bb,rfl,hp,by omega,hpc',rfl⟩) λv H' s q=>post v H' (s13.trans (s4.trans s)) q
   ·have hc':∀ y,cs≠.tup y:=λy e=>hc ⟨y,e⟩
    have e:bb=false:=by
     cases cs with
     | tup y=>exact absurd rfl (hc' y)
     | _=>cases hpc';rfl
    refine aA (K:=K) (b:=true) (RT.as (cO (b:=true) (c:=true) (RT.as (bD (aV (bI (ae h3)))) (by rw [mI hc'];rfl)) λc=>nomatch c) rfl) (λc4 H4 s4=>?_) (λc=>nomatch c)
    rw [e] at post
    exact aP (K:=K) (d:=.bl false) eI λv H' s q=>post v H' (s13.trans (s4.trans s)) q
 ·have h3':∀ a b c,x≠.tup [a,b,c]:=λa b c e=>h3 ⟨a,b,c,e⟩
  rw [yR h3'] at hpc
  cases hpc
  refine aA (K:=K) (b:=true) ?_ (λc H1 s1=>?_) (λc=>nomatch c)
  ·by_cases ht:∃ l,x=.tup l
   ·obtain ⟨l,rfl⟩:=ht
    refine RT.as (cO (b:=false) (c:=true) (RT.as (bD (aV (bI (ae h0)))) rfl) λ_=>RT.as (au (ny (bQ (ae h0)) ah)) ?_) rfl
    have:¬ (l.length:Int)=3:=λe=>by
     match l,e with
     | [a,b,c],_=>exact h3' a b c rfl
     | [],h=>simp at h
     | [_],h=>simp at h
     | [_,_],h=>simp at h
     | _::_::_::_::_,h=>simp at h;omega
    rw [decide_eq_false this]
    rfl
   ·have ht':∀ y,x≠.tup y:=λy e=>ht ⟨y,e⟩
    exact RT.as (cO (b:=true) (c:=true) (RT.as (bD (aV (bI (ae h0)))) (by rw [mI ht'];rfl)) λc=>nomatch c) rfl
  ·exact aP (K:=K) (d:=.bl false) eI λv H' s q=>post v H' (s1.trans s) q
abbrev oY (ds:List D) (d:D):Prop:=∃ x,ds=[x]/\Cd x/\jd x=some true/\d=.non
theorem nZ (T:Txt P w K mg) (Ja:FnOk P w K mg base CX0 k T.GE T.GG ["thing"] (spD K lZ)):FnOk P w K mg base CX0 (k+1) T.Gq T.Gx ["piece"] (spD K oY):=by
 refine T.Hu.ok sc_need_piece (λvs H Q E h=>?_) (λcdv A outer s H vs Q E hr h=>?_)
 ·obtain ⟨ds,d,hd,⟨x,rfl,_⟩,_⟩:=h;exact hd.length.symm
 have nd:=sc_need_piece.nd
 obtain ⟨ds,d,hd,⟨x,rfl,hok,hx,rfl⟩,post⟩:=h
 obtain ⟨v0,rfl,h0⟩:=fA hd
 refine ⟨_,(aq (aT (cI (bz (aD Ja hr rfl T.Jd T.HP.kp (mj T) .nil aQ (ag (pv 0) af)) (λ_=>rfl))) (aq rK) aF)),?_⟩
 refine dQ (b:=!true) (bD (aV (aS (R:=lZ) (aa (ae h0) ao) ⟨x,true,rfl,hok,by rw [hx];rfl,rfl⟩))) (λc H1 s1=>nomatch c) (λc H1 s1=>?_)
 exact post _ _ s1 Dat.nonI
def two (o:Str) (x y b:Int):Int:=if o="less" then (if x < y then 1 else 0) else if o="add" then (x+y) % b else if o="sub" then (x - y) % b else x * y % b
def bJ (as:List Int) (b:Int):Tr->Int
 | .num n=>n % b
 | .arg k=>as.getD k.toNat 0
 | .two o x y=>two o (bJ as b x) (bJ as b y) b
 | .pick x y z=>if bJ as b x=0 then bJ as b z else bJ as b y
def argsOk (as:List Int) (b:Int):Prop:=as.length=4/\(∀ x ∈ as,0≤x/\x < b)/\2≤b/\b≤10000
def okO (o:Str):Prop:=o="add"\/o="sub"\/o="mul"\/o="less"
variable {o:Str}
theorem Ce (h:okO o):¬ o="num"/\¬ o="arg"/\¬ o="pick":=by
 rcases h with rfl | rfl | rfl | rfl <;> decide +kernel
theorem zP {x y b:Int} (hb:2≤b):0≤two o x y b/\two o x y b < b:=by
 unfold two
 split
 ·split <;> omega
 ·split
  ·exact ⟨Int.emod_nonneg _ (by omega),Int.emod_lt_of_pos _ (by omega)⟩
  ·split
   ·exact ⟨Int.emod_nonneg _ (by omega),Int.emod_lt_of_pos _ (by omega)⟩
   ·exact ⟨Int.emod_nonneg _ (by omega),Int.emod_lt_of_pos _ (by omega)⟩
theorem xx {as:List Int} {b k:Int} (h:argsOk as b) (h0:0≤k) (h1:k≤3):as[k.toNat]?=some (as.getD k.toNat 0):=by
 have hl:=h.1
 have hk:k.toNat < as.length:=by omega
 rw [List.getD_eq_getElem?_getD,List.getElem?_eq_getElem hk]
 rfl
theorem hX {as:List Int} {b:Int} (h:argsOk as b):∀ t:Tr,okT t->0≤bJ as b t/\bJ as b t < b
 | .num n,_=>⟨Int.emod_nonneg _ (by have:=h.2.2.1;omega),Int.emod_lt_of_pos _ (by have:=h.2.2.1;omega)⟩
 | .arg k,ht=>h.2.1 _ (List.mem_of_getElem? (xx h ht.1 ht.2))
 | .two o x y,_=>zP h.2.2.1
 | .pick x y z,ht=>by
  unfold bJ
  split
  ·exact hX h z ht.2.2
  ·exact hX h y ht.2.1
def xq (ds:List D) (d:D):Prop:=∃ s m,ds=[.int s,.int m]/\2≤s/\s≤m/\d=.non
def uE (ds:List D) (d:D):Prop:=∃ o x y b,ds=[.str o,.int x,.int y,.int b]/\2≤b/\b≤10000/\0≤x/\x < b/\0≤y/\y < b/\d=.int (two o x y b)
def jB (n:Nat) (ds:List D) (d:D):Prop:=∃ t as b,ds=[toD t,.tup (as.map D.int),.int b]/\okT t/\dB t≤n/\argsOk as b/\d=.int (bJ as b t)
theorem xQ {K:PySem.W.Frag} {a b c:D} {vs:List V} (h:Dats K H [a,b,c,e] vs):∃ u v w x,vs=[u,v,w,x]/\Dat K H a u/\Dat K H b v/\Dat K H c w/\Dat K H e x:=by
 obtain ⟨u,r,e,h1,h⟩:=h.consE
 obtain ⟨v,w,x,q,h2⟩:=kW h
 subst q e
 exact ⟨u,v,w,x,rfl,h1,h2⟩
variable {y:Str}
theorem zJ {x:Str} (h:x=y):decide (x=y)=true:=decide_eq_true h
theorem oE {x:Str} (h:¬ x=y):decide (x=y)=false:=decide_eq_false h
theorem pQ (T:Txt P w K mg) (Ej:FnOk P w K mg base CX0 k T.EM T.EN ["thing","low","high"] (spD K eS)):FnOk P w K mg base CX0 (k+1) T.GX T.Hb ["size","most"] (spD K xq):=by
 refine T.Hc.ok sc_need_size (λvs H Q E h=>?_) (λcdv A outer s H vs Q E hr h=>?_)
 ·obtain ⟨ds,d,hd,⟨s,m,rfl,_⟩,_⟩:=h;exact hd.length.symm
 have nd:=sc_need_size.nd
 obtain ⟨ds,d,hd,⟨s,m,rfl,h1,h2,rfl⟩,post⟩:=h
 obtain ⟨v0,v1,rfl,q0,q1⟩:=gy hd
 refine ⟨_,(aq (aT (cI (bz (aD Ej hr rfl T.FB T.EO.kp (d7 T) .nil aQ (ag (pv 0) (ag aj (ag (pv 1) af)))) (λ_=>rfl))) (aq rK) aF)),?_⟩
 refine dQ (b:=!bY (.int s) 2 m) (bD (aV (aS (aa (ae q0) (aa ah (aa (ae q1) ao))) ⟨_,_,_,rfl,rfl⟩))) (λc H1 s1=>?_) (λc H1 s1=>?_)
 ·simp [bY,h1,h2] at c
 ·exact post _ _ s1 Dat.nonI
theorem kM (T:Txt P w K mg)  : FnOk P w K mg base CX0 (k+1) T.EG T.EH ["kind","first","second","size"] (spD K uE):=by
 refine T.Fg.ok sc_worth_of_both (λvs H Q E h=>?_) (λcdv A outer s H vs Q E hr h=>?_)
 ·obtain ⟨ds,d,hd,⟨o,x,y,b,rfl,_⟩,_⟩:=h;exact hd.length.symm
 have nd:=sc_worth_of_both.nd
 obtain ⟨ds,d,hd,⟨o,x,y,b,rfl,hb,hb2,hx,hx2,hy,hy2,rfl⟩,post⟩:=h
 obtain ⟨v0,v1,v2,v3,rfl,q0,q1,q2,q3⟩:=xQ hd
 refine ⟨_,(ak (aT (az bK (pv 0) aw (aJ _)) (aq (aE (cN (az jE (pv 1) (pv 2) (aJ _)) aj aj))) aF)
 (ak (aT (az bK (pv 0) aw (aJ _)) (aq (aE (aU cH (aU ck (pv 1) (pv 2)) (pv 3)))) aF)
 (ak (aT (az bK (pv 0) aw (aJ _)) (aq (aE (aU cH (aU tP (pv 1) (pv 2)) (pv 3)))) aF)
 (aq (aE (aU cH (aU kN (pv 1) (pv 2)) (pv 3))))))),?_⟩
 refine aA (K:=K) (b:=decide (o="less")) (au (aR (ae q0) av)) (λc H1 s1=>?_) (λc H1 s1=>?_)
 ·refine aP (K:=K) (d:=.int (two o x y b)) ?_ λv H' s q=>post v H' (s1.trans s) q
  have e:two o x y b=if x < y then 1 else 0:=by unfold two;rw [if_pos (of_decide_eq_true c)]
  rw [e]
  refine jG (b:=decide (x < y)) (au (bC (p:=λi j=>decide (i < j)) (ae (s1.dat q1)) (ae (s1.dat q2)))) (λc2=>?_) (λc2=>?_)
  ·rw [if_pos (of_decide_eq_true c2)];exact ah
  ·rw [if_neg (of_decide_eq_false c2)];exact ah
 have q0:=s1.dat q0
 have q1:=s1.dat q1
 have q2:=s1.dat q2
 have q3:=s1.dat q3
 have n1:=of_decide_eq_false c
 refine aA (K:=K) (b:=decide (o="add")) (au (aR (ae q0) av)) (λc H2 s2=>?_) (λc H2 s2=>?_)
 ·refine aP (K:=K) (d:=.int (two o x y b)) ?_ λv H' s q=>post v H' (s1.trans (s2.trans s)) q
  have e:two o x y b=(x+y) % b:=by unfold two;rw [if_neg n1,if_pos (of_decide_eq_true c)]
  rw [e]
  exact eZ (cq (ae (s2.dat q1)) (ae (s2.dat q2))) (ae (s2.dat q3)) (by omega)
 have q0:=s2.dat q0
 have q1:=s2.dat q1
 have q2:=s2.dat q2
 have q3:=s2.dat q3
 have n2:=of_decide_eq_false c
 refine aA (K:=K) (b:=decide (o="sub")) (au (aR (ae q0) av)) (λc H3 s3=>?_) (λc H3 s3=>?_)
 ·refine aP (K:=K) (d:=.int (two o x y b)) ?_ λv H' s q=>post v H' (s1.trans (s2.trans (s3.trans s))) q
  have e:two o x y b=(x - y) % b:=by unfold two;rw [if_neg n1,if_neg n2,if_pos (of_decide_eq_true c)]
  rw [e]
  exact eZ (tZ (ae (s3.dat q1)) (ae (s3.dat q2))) (ae (s3.dat q3)) (by omega)
 have n3:=of_decide_eq_false c
 refine aP (K:=K) (d:=.int (two o x y b)) ?_ λv H' s q=>post v H' (s1.trans (s2.trans (s3.trans s))) q
 have e:two o x y b=x * y % b:=by unfold two;rw [if_neg n1,if_neg n2,if_neg n3]
 rw [e]
 exact eZ (qg (ae (s3.dat q1)) (ae (s3.dat q2)) (.inr ⟨by omega,by omega⟩)) (ae (s3.dat q3)) (by omega)
theorem rp (T:Txt P w K mg) (Hm:FnOk P w K mg base CX0 k T.EG T.EH ["kind","first","second","size"] (spD K uE)) (HC:FnOk P w K mg base CX0 k T.FX T.FY ["tree","args","size"] (spD K (jB n))):FnOk P w K mg base CX0 (k+1) T.FX T.FY ["tree","args","size"] (spD K (jB (n+1))):=by
 refine T.F0.ok sc_reckoned (λvs H Q E h=>?_) (λcdv A outer s H vs Q E hr h=>?_)
 ·obtain ⟨ds,d,hd,⟨t,as,b,rfl,_⟩,_⟩:=h;exact hd.length.symm
 have nd:=sc_reckoned.nd
 obtain ⟨ds,d,hd,⟨t,as,b,rfl,ht,hn,ha,rfl⟩,post⟩:=h
 obtain ⟨v0,v1,v2,rfl,q0,q1,q2⟩:=kW hd
 refine ⟨_,(ak (ba (i:=3) nd rfl (Or.inl rfl) (aN aI (pv 0) aj (λ_ _=>rfl)))
 (ak (aT (az bK (pv 3) aw (aJ _)) (aq (aE (aU cH (aN aI (pv 0) aj (λ_ _=>rfl)) (pv 2)))) aF)
 (ak (aT (az bK (pv 3) aw (aJ _)) (aq (aE (aN aI (pv 1) (aN aI (pv 0) aj (λ_ _=>rfl)) (λ_ _=>rfl)))) aF)
 (ak (ba (i:=4) nd rfl (Or.inl rfl) (aD HC hr rfl T.HR T.F0.kp (ic T) .nil aQ (ag (aN aI (pv 0) aj (λ_ _=>rfl)) (ag (pv 1) (ag (pv 2) af)))))
 (ak (aT (az bK (pv 3) aw (aJ _)) (aq (aE (aD HC hr rfl T.HR T.F0.kp (ic T) .nil aQ (ag (cN (az bK (pv 4) aj (aJ _)) (aN aI (pv 0) aj (λ_ _=>rfl)) (aN aI (pv 0) aj (λ_ _=>rfl))) (ag (pv 1) (ag (pv 2) af)))))) aF)
 (aq (aE (aD Hm hr rfl T.Hn T.Fg.kp (iG T) .nil aQ (ag (pv 3) (ag (pv 4) (ag (aD HC hr rfl T.HR T.F0.kp (ic T) .nil aQ (ag (aN aI (pv 0) aj (λ_ _=>rfl)) (ag (pv 1) (ag (pv 2) af)))) (ag (pv 2) af)))))))))))),?_⟩
 have hb0:0 < b:=by have:=ha.2.2.1;omega
 cases t with
 | num m =>
  have q0:Dat K H (.tup [.str "num",.int m]) v0:=q0
  refine bL (K:=K) (d:=.str "num") (aM (k:=0) (ae q0) ah rfl) λv3 H1 s1 q3=>?_
  refine aA (K:=K) (b:=true) (RT.as (au (aR (ae q3) av)) (zJ rfl)) (λc H2 s2=>?_) (λc=>nomatch c)
  have s12:=s1.trans s2
  exact aP (K:=K) (d:=.int (m % b)) (eZ (aM (k:=1) (ae (s12.dat q0)) ah rfl) (ae (s12.dat q2)) hb0) λv H' s q=>post v H' (s12.trans s) q
 | arg m =>
  have q0:Dat K H (.tup [.str "arg",.int m]) v0:=q0
  refine bL (K:=K) (d:=.str "arg") (aM (k:=0) (ae q0) ah rfl) λv3 H1 s1 q3=>?_
  refine aA (K:=K) (b:=false) (RT.as (au (aR (ae q3) av)) (oE (by decide +kernel))) (λc=>nomatch c) (λc H2 s2=>?_)
  refine aA (K:=K) (b:=true) (RT.as (au (aR (ae (s2.dat q3)) av)) (zJ rfl)) (λc H3 s3=>?_) (λc=>nomatch c)
  have s13:=s1.trans (s2.trans s3)
  have em:m=((m.toNat:Nat):Int):=by have:=ht.1;omega
  refine aP (K:=K) (d:=.int (as.getD m.toNat 0)) (aM (k:=m.toNat) (ds:=as.map D.int) (ae (s13.dat q1)) (RE.as (aM (k:=1) (ae (s13.dat q0)) ah rfl) (congrArg D.int em)) ?_) λv H' s q=>post v H' (s13.trans s) q
  rw [List.getElem?_map,xx ha ht.1 ht.2]
  rfl
 | two o x y =>
  have q0:Dat K H (.tup [.str o,toD x,toD y]) v0:=q0
  obtain ⟨n1,n2,n3⟩:=Ce ht.1
  have dx:dB x≤n:=by simp only [dB] at hn;omega
  have dy:dB y≤n:=by simp only [dB] at hn;omega
  refine bL (K:=K) (d:=.str o) (aM (k:=0) (ae q0) ah rfl) λv3 H1 s1 q3=>?_
  refine aA (K:=K) (b:=false) (RT.as (au (aR (ae q3) av)) (oE n1)) (λc=>nomatch c) (λc H2 s2=>?_)
  refine aA (K:=K) (b:=false) (RT.as (au (aR (ae (s2.dat q3)) av)) (oE n2)) (λc=>nomatch c) (λc H3 s3=>?_)
  have s13:=s1.trans (s2.trans s3)
  have q0:=s13.dat q0
  have q1:=s13.dat q1
  have q2:=s13.dat q2
  have q3:=(s2.trans s3).dat q3
  refine bL (K:=K) (d:=.int (bJ as b x)) (aS (R:=jB n) (aa (aM (k:=1) (ae q0) ah rfl) (aa (ae q1) (aa (ae q2) ao))) ⟨x,as,b,rfl,ht.2.1,dx,ha,rfl⟩) λv4 H4 s4 q4=>?_
  refine aA (K:=K) (b:=false) (RT.as (au (aR (ae (s4.dat q3)) av)) (oE n3)) (λc=>nomatch c) (λc H5 s5=>?_)
  have s45:=s4.trans s5
  have wx:=hX ha x ht.2.1
  have wy:=hX ha y ht.2.2
  refine aP (K:=K) (d:=.int (two o (bJ as b x) (bJ as b y) b)) (aS (R:=uE) (aa (ae (s45.dat q3)) (aa (ae (s5.dat q4)) (aa (aS (R:=jB n) (d:=.int (bJ as b y)) (aa (aM (k:=2) (ae (s45.dat q0)) ah rfl) (aa (ae (s45.dat q1)) (aa (ae (s45.dat q2)) ao))) ⟨y,as,b,rfl,ht.2.2,dy,ha,rfl⟩) (aa (ae (s45.dat q2)) ao)))) ⟨o,_,_,b,rfl,ha.2.2.1,ha.2.2.2,wx.1,wx.2,wy.1,wy.2,rfl⟩) λv H' s q=>post v H' (s13.trans (s45.trans s)) q
 | pick x y z =>
  have q0:Dat K H (.tup [.str "pick",toD x,toD y,toD z]) v0:=q0
  have dx:dB x≤n:=by simp only [dB] at hn;omega
  have dy:dB y≤n:=by simp only [dB] at hn;omega
  have dz:dB z≤n:=by simp only [dB] at hn;omega
  refine bL (K:=K) (d:=.str "pick") (aM (k:=0) (ae q0) ah rfl) λv3 H1 s1 q3=>?_
  refine aA (K:=K) (b:=false) (RT.as (au (aR (ae q3) av)) (oE (by decide +kernel))) (λc=>nomatch c) (λc H2 s2=>?_)
  refine aA (K:=K) (b:=false) (RT.as (au (aR (ae (s2.dat q3)) av)) (oE (by decide +kernel))) (λc=>nomatch c) (λc H3 s3=>?_)
  have s13:=s1.trans (s2.trans s3)
  have q0:=s13.dat q0
  have q1:=s13.dat q1
  have q2:=s13.dat q2
  have q3:=(s2.trans s3).dat q3
  refine bL (K:=K) (d:=.int (bJ as b x)) (aS (R:=jB n) (aa (aM (k:=1) (ae q0) ah rfl) (aa (ae q1) (aa (ae q2) ao))) ⟨x,as,b,rfl,ht.1,dx,ha,rfl⟩) λv4 H4 s4 q4=>?_
  refine aA (K:=K) (b:=true) (RT.as (au (aR (ae (s4.dat q3)) av)) (zJ rfl)) (λc H5 s5=>?_) (λc=>nomatch c)
  have s45:=s4.trans s5
  refine aP (K:=K) (d:=.int (if bJ as b x=0 then bJ as b z else bJ as b y)) (aS (R:=jB n) (ds:=[toD (if bJ as b x=0 then z else y),.tup (as.map D.int),.int b]) (aa (jG (b:=decide (bJ as b x=0)) (au (dC (ae (s5.dat q4)) ah)) (λc=>?_) (λc=>?_)) (aa (ae (s45.dat q1)) (aa (ae (s45.dat q2)) ao))) ?_) λv H' s q=>post v H' (s13.trans (s45.trans s)) q
  ·rw [if_pos (of_decide_eq_true c)]
   exact aM (k:=3) (ae (s45.dat q0)) ah rfl
  ·rw [if_neg (of_decide_eq_false c)]
   exact aM (k:=2) (ae (s45.dat q0)) ah rfl
  ·by_cases hz:bJ as b x=0
   ·rw [if_pos hz,if_pos hz]
    exact ⟨z,as,b,rfl,ht.2.2,dz,ha,rfl⟩
   ·rw [if_neg hz,if_neg hz]
    exact ⟨y,as,b,rfl,ht.2.1,dy,ha,rfl⟩
structure MS where
 pile:List Int
 place:Nat
 kept:List Nat
 ended:Bool
structure MC where
 cs:List Int
 as:List Int
 b:Int
structure tF (mc:MC):Prop where
 cs:okC mc.cs
 as:mc.as.length=4
 ai:∀ x ∈ mc.as,0≤x/\x < mc.b
 b2:2≤mc.b
 b9:mc.b≤10000
structure gq (mc:MC) (st:MS):Prop where
 p:∀ x ∈ st.pile,0≤x/\x < mc.b
 l:st.pile.length≤64
 k:st.kept.length≤16
def cQ (st:MS):Option (Int × MS):=match st.pile with
 | []=>none
 | x::r=>some (x,{ st with pile:=r })
def bt (mc:MC) (n:Int) (st:MS):Option MS:=if st.pile.length=64 then none else some { st with pile:=(n % mc.b)::st.pile }
def lN (nm:Str) (num on:Nat) (st:MS):Option (Nat × MS) :=
 if nm ∈ (["skip","jump"]:List Str) then some (on+num,st)
 else if nm ∈ (["zero","none"]:List Str) then (cQ st).map λp=>(if p.1=0 then on+num else on,p.2)
 else if nm="call" then (if st.kept.length=16 then none else some (num,{ st with kept:=on::st.kept }))
 else match st.kept with
  | []=>none
  | k::r=>some (k,{ st with kept:=r })
def jn (st:MS):Option MS:=if st.pile.length=1 then some { st with ended:=true } else none
def cY (mc:MC) (nm:Str) (num:Nat) (st:MS):Option MS :=
 if nm ∈ (["put","far"]:List Str) then bt mc num st
 else if nm="load" then bt mc (mc.as.getD num 0) st
 else (cQ st).bind λu =>
  if nm="more" then bt mc (u.1+num) u.2
  else if nm="twice" then (bt mc u.1 u.2).bind λs=>bt mc u.1 s
  else if nm="about" then (cQ u.2).bind λl=>(bt mc u.1 l.2).bind λs=>bt mc l.1 s
  else (cQ u.2).bind λl=>bt mc (two nm l.1 u.1 mc.b) l.2
structure MA where
 m:Addr
 dx:Addr
 lp:Addr
 lk:Addr
 lc:Addr
 vg:V
def mF (A:MA) (mc:MC) (st:MS):List (Str × V):=[("cells",.ref A.lc),("given",A.vg),("size",.int mc.b),("pile",.ref A.lp),("place",.int st.place),("kept",.ref A.lk),("ended",.bl st.ended)]
def pV (l:List Int):List V:=l.reverse.map V.int
def kpV (l:List Nat):List V:=l.reverse.map λ(n:Nat)=>V.int n
theorem dW (x:Int) (l:List Int):pV (x::l)=pV l++[.int x]:=by unfold pV;rw [List.reverse_cons,List.map_append];rfl
theorem qS (x:Nat) (l:List Nat):kpV (x::l)=kpV l++[.int x]:=by unfold kpV;rw [List.reverse_cons,List.map_append];rfl
theorem pY (l:List Int):(pV l).length=l.length:=by unfold pV;rw [List.length_map,List.length_reverse]
theorem Ax (l:List Nat):(kpV l).length=l.length:=by unfold kpV;rw [List.length_map,List.length_reverse]
structure MacAt (K:PySem.W.Frag) (C:Addr) (A:MA) (mc:MC) (st:MS) (H:Hp):Prop where
 ins:H A.m=some (.ins C A.dx (mF A mc st))
 cells:H A.lc=some (.lst (mc.cs.map V.int))
 given:Dat K H (.tup (mc.as.map D.int)) A.vg
 pile:H A.lp=some (.lst (pV st.pile))
 kept:H A.lk=some (.lst (kpV st.kept))
 ne:A.lp≠A.lk
 c1:A.lc≠A.lp
 c2:A.lc≠A.lk
def ButM (A:MA) (H H':Hp):Prop:=∀ x o,x≠A.m->x≠A.lp->x≠A.lk->H x=some o->H' x=some o
variable {A:MA}
theorem ButM.trans {H1 H2:Hp} (a:ButM A H H1) (b:ButM A H1 H2):ButM A H H2:=λx o n1 n2 n3 e=>b x o n1 n2 n3 (a x o n1 n2 n3 e)
variable {H':Hp}
theorem dN (s:Same H H'):ButM A H H':=λx o _ _ _ e=>s x o e
theorem ButM.lp {o:HO}:ButM A H (upd H A.lp o):=λx u _ n _ e=>by rw [aK n];exact e
theorem ButM.lk {o:HO}:ButM A H (upd H A.lk o):=λx u _ _ n e=>by rw [aK n];exact e
theorem ButM.m {o:HO}:ButM A H (upd H A.m o):=λx u n _ _ e=>by rw [aK n];exact e
section
variable {C:Addr} {A:MA} {mc:MC} {st:MS} {H H':Hp}
theorem MacAt.same (M:MacAt K C A mc st H) (s:Same H H'):MacAt K C A mc st H':=⟨s _ _ M.ins,s _ _ M.cells,s.dat M.given,s _ _ M.pile,s _ _ M.kept,M.ne,M.c1,M.c2⟩
theorem MacAt.np (M:MacAt K C A mc st H):A.m≠A.lp:=λz=>by have:=M.ins;rw [z,M.pile] at this;cases this
theorem MacAt.nk (M:MacAt K C A mc st H):A.m≠A.lk:=λz=>by have:=M.ins;rw [z,M.kept] at this;cases this
theorem mD {b:Addr} {o o':HO} (h:H b=some o) (ho:(∃ xs,o=.lst xs)\/∃ C dx fs,o=.ins C dx fs) (hl:∀ xs,o=.lst xs->∃ ys,o'=.lst ys):dD K H (upd H b o'):=by
 refine ⟨λa xs q=>?_,λa xs q=>?_⟩
 ·rcases q with (q | ⟨u,q⟩) | q
  ·refine .inl (.inl ?_)
   rw [aK (λz=>?_)]
   ·exact q
   ·rw [z,h] at q;rcases ho with ⟨_,rfl⟩ | ⟨_,_,_,rfl⟩ <;> cases q
  ·refine .inl (.inr ⟨u,?_⟩)
   rw [aK (λz=>?_)]
   ·exact q
   ·rw [z,h] at q;rcases ho with ⟨_,rfl⟩ | ⟨_,_,_,rfl⟩ <;> cases q
  ·exact .inr q
 ·by_cases hab:a=b
  ·subst hab
   rcases q with (q | ⟨u,q⟩) | q
   ·rw [h] at q
    cases q
    obtain ⟨ys,rfl⟩:=hl _ rfl
    exact ⟨ys,SqL.of ay⟩
   ·rw [h] at q;rcases ho with ⟨_,rfl⟩ | ⟨_,_,_,rfl⟩ <;> cases q
   ·exact ⟨xs,.inr q⟩
  ·rcases q with (q | ⟨u,q⟩) | q
   ·exact ⟨xs,.inl (.inl (by rw [aK hab];exact q))⟩
   ·exact ⟨xs,.inl (.inr ⟨u,by rw [aK hab];exact q⟩)⟩
   ·exact ⟨xs,.inr q⟩
theorem MacAt.setPile (M:MacAt K C A mc st H) (r:List Int):MacAt K C A mc { st with pile:=r } (upd H A.lp (.lst (pV r))) :=
 ⟨by rw [aK M.np];exact M.ins,by rw [aK M.c1];exact M.cells,Dat.mono (mD M.pile (.inl ⟨_,rfl⟩) λ_ _=>⟨_,rfl⟩) _ M.given,ay,by rw [aK (Ne.symm M.ne)];exact M.kept,M.ne,M.c1,M.c2⟩
theorem MacAt.setKept (M:MacAt K C A mc st H) (r:List Nat):MacAt K C A mc { st with kept:=r } (upd H A.lk (.lst (kpV r))) :=
 ⟨by rw [aK M.nk];exact M.ins,by rw [aK M.c2];exact M.cells,Dat.mono (mD M.kept (.inl ⟨_,rfl⟩) λ_ _=>⟨_,rfl⟩) _ M.given,by rw [aK M.ne];exact M.pile,ay,M.ne,M.c1,M.c2⟩
theorem MacAt.nc (M:MacAt K C A mc st H):A.m≠A.lc:=λz=>by have:=M.ins;rw [z,M.cells] at this;cases this
theorem MacAt.setM (M:MacAt K C A mc st H) {st':MS} {fs:List (Str × V)} (e:fs=mF A mc st') (hp:st'.pile=st.pile) (hk:st'.kept=st.kept):MacAt K C A mc st' (upd H A.m (.ins C A.dx fs)):=by
 subst e
 exact ⟨ay,by rw [aK (Ne.symm M.nc)];exact M.cells,Dat.mono (mD M.ins (.inr ⟨_,_,_,rfl⟩) λ_ z=>by cases z) _ M.given,by rw [aK (Ne.symm M.np),hp];exact M.pile,by rw [aK (Ne.symm M.nk),hk];exact M.kept,M.ne,M.c1,M.c2⟩
theorem kQ (p:Nat):iu "place" (.int p) (mF A mc st)=mF A mc { st with place:=p }:=by kernel_rfl
theorem wG (b:Bool):iu "ended" (.bl b) (mF A mc st)=mF A mc { st with ended:=b }:=by kernel_rfl
variable {i:Nat} {f:Str} {σ:L2.St}
theorem fY {v:V} {Q:VK} (M:MacAt K C A mc st H) (c:Cls K C) (n:NoAttr K C f) (q:Q v H) (l:(mF A mc st).lookup f=some v:=by kernel_rfl) (e:σ[i]?=some (some (.ref A.m)):=by rfl):kA K (cx i) f σ H Q :=
 ⟨_,e,A.m,C,A.dx,_,v,rfl,M.ins,c,n,l,q⟩
theorem lV {z:Int} (M:MacAt K C A mc st H) (c:Cls K C) (n:NoAttr K C f) (l:(mF A mc st).lookup f=some (.int z):=by kernel_rfl) (e:σ[i]?=some (some (.ref A.m)):=by rfl):RE K (kA K (cx i) f) σ H (.int z) :=
 λ_ s _ q=>fY (M.same s) c n (q _ _ (Same.refl _) (Dat.intI z)) l e
theorem qh (M:MacAt K C A mc st H) (c:Cls K C) (n:NoAttr K C "pile") (e:σ[i]?=some (some (.ref A.m)):=by rfl):RL K (kA K (cx i) "pile") σ H (st.pile.reverse.map D.int) :=
 λ_ s _ q=>fY (M.same s) c n (q _ _ (Same.refl _) (LD.of (M.same s).pile (cU _))) (by kernel_rfl) e
theorem A9 (M:MacAt K C A mc st H) (c:Cls K C) (n:NoAttr K C "cells") (e:σ[i]?=some (some (.ref A.m)):=by rfl):RL K (kA K (cx i) "cells") σ H (cD mc.cs) :=
 λ_ s _ q=>fY (M.same s) c n (q _ _ (Same.refl _) (LD.of (M.same s).cells (cU _))) (by kernel_rfl) e
theorem Ay (l:List Nat):kpV l=(l.reverse.map λ(n:Nat)=>(n:Int)).map V.int:=by unfold kpV;rw [List.map_map];rfl
theorem Ba (M:MacAt K C A mc st H) (c:Cls K C) (n:NoAttr K C "kept") (e:σ[i]?=some (some (.ref A.m)):=by rfl):RL K (kA K (cx i) "kept") σ H ((st.kept.reverse.map λ(n:Nat)=>(n:Int)).map D.int) :=
 λ_ s _ q=>fY (M.same s) c n (q _ _ (Same.refl _) (LD.of ((M.same s).kept.trans (by rw [Ay])) (cU _))) (by kernel_rfl) e
theorem A0 (M:MacAt K C A mc st H) (c:Cls K C) (n:NoAttr K C "given") (e:σ[i]?=some (some (.ref A.m)):=by rfl):RE K (kA K (cx i) "given") σ H (.tup (mc.as.map D.int)) :=
 λ_ s _ q=>fY (M.same s) c n (q _ _ (Same.refl _) (M.same s).given) (by kernel_rfl) e
theorem lX {l:Addr} {xs:List V} (M:MacAt K C A mc st H) (c:Cls K C) (n:NoAttr K C f) (hl:H l=some (.lst xs)) (lk:(mF A mc st).lookup f=some (.ref l):=by kernel_rfl) (e:σ[i]?=some (some (.ref A.m)):=by rfl):RT (λσ H Q=>kA K (cx i) f σ H λx H'=>∃ k,sC K x H' k/\Q k H') σ H (!xs.isEmpty) :=
 λH1 s Q q=>fY (v:=.ref l) (Q:=λx H'=>∃ k,sC K x H' k/\Q k H') (M.same s) c n ⟨_,.inl ⟨_,SqL.of (s _ _ hl),rfl⟩,q _ (Same.refl _)⟩ lk e
theorem kG {N:Addr} {E:XK} (M:MacAt K C A mc st H) (c:Cls K C) (n:NoAttr K C "place") (q:∀ dx,H dx=none->E (.ref N) (some dx) (upd H dx (.xd [("place",.int st.place)]))) (e:σ[i]?=some (some (.ref A.m)):=by rfl) :
  bf (kA K (cx i) "place") cu σ H (λvs H1=>∃ v,vs=[v]/\∀ dx,H1 dx=none->E (.ref N) (some dx) (upd H1 dx (.xd [("place",v)]))) :=
 fY (Q:=λv H1=>cu σ H1 λvs H2=>∃ w,v::vs=[w]/\∀ dx,H2 dx=none->E (.ref N) (some dx) (upd H2 dx (.xd [("place",w)]))) M c n ⟨_,rfl,q⟩ (by kernel_rfl) e
def MOut (K:PySem.W.Frag) (N C:Addr) (A:MA) (mc:MC) (st:MS) (H:Hp) (Q:VK) (E:XK) (o:Option (V × MS)):Prop :=
 (∀ v st',o=some (v,st')->∀ H',ButM A H H'->MacAt K C A mc st' H'->Q v H')/\(o=none->∀ H' dx,ButM A H H'->H' dx=some (.xd [("place",.int st.place)])->E (.ref N) (some dx) H')
end
def qq (K:PySem.W.Frag) (N C:Addr):Sp:=λvs H Q E=>∃ A mc st,vs=[.ref A.m]/\MacAt K C A mc st H/\MOut K N C A mc st H Q E ((cQ st).map λp=>(.int p.1,p.2))
def um (K:PySem.W.Frag) (N C:Addr):Sp:=λvs H Q E=>∃ A mc st n,vs=[.ref A.m,.int n]/\MacAt K C A mc st H/\2≤mc.b/\st.pile.length≤64/\MOut K N C A mc st H Q E ((bt mc n st).map λs=>(.non,s))
def BD (K:PySem.W.Frag) (N C:Addr):Sp:=λvs H Q E=>∃ A mc st,vs=[.ref A.m]/\MacAt K C A mc st H/\MOut K N C A mc st H Q E ((jn st).map λs=>(.non,s))
def BE (K:PySem.W.Frag) (N C:Addr):Sp:=λvs H Q E=>∃ A mc st nm num on,vs=[.ref A.m,.str nm,.int (num:Nat),.int (on:Nat)]/\MacAt K C A mc st H/\st.kept.length≤16/\MOut K N C A mc st H Q E ((lN nm num on st).map λp=>(.int p.1,p.2))
theorem lK (T:Txt P w K mg) (DT:FnOk P w K mg base CX0 k T.Gy T.Fv ["self","place"] (eO T.DS "place")):FnOk P w K mg base (CX2 P w) (k+1+1) T.EW T.E3 ["self"] (qq K T.DS T.DR):=by
 refine T.HL.ok2 sc_Machine_take (λvs H Q E h=>?_) (λcdv A outer s H vs Q E hr h=>?_)
 ·obtain ⟨A,mc,st,rfl,_⟩:=h;rfl
 have nd:=sc_Machine_take.nd
 obtain ⟨A,mc,st,rfl,M,ok,bad⟩:=h
 refine ⟨_,(ak (aT (cI (bz (cF (pv 0) rfl) (λ_=>rfl))) (aq (cT T.Gr DT (dO T) hr gQ rfl T.EK (ag (cF (pv 0) rfl) af))) aF)
 (aq (aE (m6 PySem.F.plainAttrs_list PySem.F.slot_list_pop PySem.F.type_list_pop mP (cF (pv 0) rfl))))),?_⟩
 obtain ⟨pile,place,kept,ended⟩:=st
 cases pile with
 | nil =>
  refine aA (K:=K) (b:=true) (bD (lX M T.cl_Machine T.na_pile M.pile)) (λ_ H1 s1=>?_) (λc=>nomatch c)
  exact kG (M.same s1) T.cl_Machine T.na_place λdx n=>bad rfl _ dx (dN (s1.trans (aG n _))) ay
 | cons x r =>
  have e:pV (x::r)=pV r++[.int x]:=dW x r
  refine aA (K:=K) (b:=false) (RT.as (bD (lX M T.cl_Machine T.na_pile M.pile)) ?_) (λc=>nomatch c) (λ_ H1 s1=>?_)
  ·show (!!(pV (x::r)).isEmpty)=false
   rw [e]
   cases pV r <;> rfl
  ·have M:=M.same s1
   have hp:H1 A.lp=some (.lst (pV r++[.int x])):=by rw [← e];exact M.pile
   refine fY (v:=.ref A.lp) (Q:=λx H1=>tyV K "list" x H1/\za x [] H1 Q) M T.cl_Machine T.na_pile ⟨.inl ⟨rfl,_,SqL.of hp⟩,A.lp,_,.int x,rfl,rfl,hp,by simp,?_⟩
   rw [List.dropLast_concat]
   exact ok (.int x) _ rfl _ ((dN s1).trans ButM.lp) (M.setPile r)
section
variable {N C:Addr} {A:MA} {mc:MC} {st st1:MS} {H H1:Hp} {Q:VK} {E:XK} {o:Option (V × MS)}
theorem MOut.on (h:MOut K N C A mc st H Q E o) (b:ButM A H H1) (hp:st1.place=st.place):MOut K N C A mc st1 H1 Q E o :=
 ⟨λv st' e H' b' M'=>h.1 v st' e H' (b.trans b') M',λe H' dx b' hd=>h.2 e H' dx (b.trans b') (by rw [← hp];exact hd)⟩
variable {i:Nat} {σ:L2.St}
theorem qc (M:MacAt K C A mc st H) (h:MOut K N C A mc st H Q E ((cQ st).map λp=>(.int p.1,p.2))) (e:σ[i]?=some (some (.ref A.m)):=by rfl):oU C "take" (qq K N C) [] E (cx i) cu σ H Q :=
 ⟨_,e,A.m,A.dx,_,rfl,M.ins,by kernel_rfl,A,mc,st,rfl,M,h⟩
variable {te:TE} {n:Int}
theorem jW (hn:RE K te σ H (.int n)) (M:MacAt K C A mc st H) (b2:2≤mc.b) (l:st.pile.length≤64) (h:MOut K N C A mc st H Q E ((bt mc n st).map λs=>(.non,s))) (e:σ[i]?=some (some (.ref A.m)):=by rfl) :
  oU C "push" (um K N C) [] E (cx i) (bf te cu) σ H Q :=
 ⟨_,e,A.m,A.dx,_,rfl,M.ins,by kernel_rfl,hn.use λv H1 s q=>⟨A,mc,st,n,by rw [q.intE];rfl,M.same s,b2,l,h.on (dN s) rfl⟩⟩
variable {f:Str} {l:Addr} {xs:List V}
theorem uG {z:Int} (M:MacAt K C A mc st H) (c:Cls K C) (n:NoAttr K C f) (hl:H l=some (.lst xs)) (hx:xs.length≤900) (h:RE K te σ H (.int z)) (q:∀ H',Same H H'->Q .non (upd H' l (.lst (xs++[.int z]))))
  (lk:(mF A mc st).lookup f=some (.ref l):=by kernel_rfl) (e:σ[i]?=some (some (.ref A.m)):=by rfl):tBM K "list" iw (kA K (cx i) f) (bf te cu) σ H Q :=
 fY (v:=.ref l) (Q:=λx H1=>tyV K "list" x H1/\bf te cu σ H1 λxs H2=>iw x xs H2 Q) M c n ⟨.inl ⟨rfl,_,SqL.of hl⟩,h.use λv H1 s q1=>⟨l,xs,_,rfl,rfl,s _ _ hl,cE (by omega),by rw [q1.intE];exact q H1 s⟩⟩ lk e
theorem AO {z:V} (M:MacAt K C A mc st H) (c:Cls K C) (n:NoAttr K C f) (hl:H l=some (.lst (xs++[z]))) (q:Q z (upd H l (.lst xs)))
  (lk:(mF A mc st).lookup f=some (.ref l):=by kernel_rfl) (e:σ[i]?=some (some (.ref A.m)):=by rfl):CJ K "list" za (kA K (cx i) f) σ H Q :=
 fY (v:=.ref l) (Q:=λx H1=>tyV K "list" x H1/\za x [] H1 Q) M c n ⟨.inl ⟨rfl,_,SqL.of hl⟩,l,_,z,rfl,rfl,hl,by simp,by rw [List.dropLast_concat];exact q⟩ lk e
theorem jw {p:Int × MS} (h:cQ st=some p):p.2.place=st.place/\p.2.kept=st.kept/\st.pile=p.1::p.2.pile/\p.2.ended=st.ended:=by
 unfold cQ at h
 split at h
 ·cases h
 ·rename_i x r e
  cases h
  exact ⟨rfl,rfl,e,rfl⟩
theorem lT {s:MS} (h:bt mc n st=some s):s.place=st.place/\s.kept=st.kept/\s.pile=n % mc.b::st.pile/\st.pile.length≠64/\s.ended=st.ended:=by
 unfold bt at h
 split at h
 ·cases h
 ·rename_i hl
  cases h
  exact ⟨rfl,rfl,rfl,hl,rfl⟩
end
theorem j8 {p q:Prop} [Decidable p] [Decidable q] (h:p↔q):decide p=decide q:=decide_eq_decide.mpr h
theorem lI (T:Txt P w K mg) (DT:FnOk P w K mg base CX0 k T.Gy T.Fv ["self","place"] (eO T.DS "place")):FnOk P w K mg base (CX2 P w) (k+1+1) T.Fl T.Fp ["self","number"] (um K T.DS T.DR):=by
 refine T.HJ.ok2 sc_Machine_push (λvs H Q E h=>?_) (λcdv A outer s H vs Q E hr h=>?_)
 ·obtain ⟨A,mc,st,n,rfl,_⟩:=h;rfl
 have nd:=sc_Machine_push.nd
 obtain ⟨A,mc,st,n,rfl,M,b2,hl,ok,bad⟩:=h
 refine ⟨_,(ak (aT (az bK (aO aL rfl T.Ei bH (ag (cF (pv 0) rfl) af)) (bj (v:=.int 64) rfl T.Gg ⟨_,rfl⟩) (aJ _)) (aq (cT T.Gr DT (dO T) hr gQ rfl T.EK (ag (cF (pv 0) rfl) af))) aF)
 (aq (aX (cW PySem.F.plainAttrs_list PySem.F.slot_list_append PySem.F.type_list_append br (cF (pv 0) rfl) (ag (aU cH (pv 1) (cF (pv 0) rfl)) af))))),?_⟩
 have ed:decide ((((st.pile.reverse.map D.int).length:Nat):Int)=64)=decide (st.pile.length=64):=j8 (by rw [List.length_map,List.length_reverse];omega)
 refine aA (K:=K) (b:=decide (st.pile.length=64)) (RT.as (au (dC (dq (qh M T.cl_Machine T.na_pile)) ah)) ed) (λc H1 s1=>?_) (λc H1 s1=>?_)
 ·exact kG (M.same s1) T.cl_Machine T.na_place λdx n=>bad (by unfold bt;rw [if_pos (of_decide_eq_true c)];rfl) _ dx (dN (s1.trans (aG n _))) ay
 ·have M:=M.same s1
  have c:=of_decide_eq_false c
  have lp:=pY st.pile
  refine uG M T.cl_Machine T.na_pile M.pile (by omega) (eZ (ae (k:=1) (Dat.intI n)) (lV (z:=mc.b) M T.cl_Machine T.na_size) (by omega)) λH2 s2=>?_
  have e:=(M.same s2).setPile (n % mc.b::st.pile)
  rw [dW] at e
  exact ok .non _ (by unfold bt;rw [if_neg c];rfl) _ ((dN (s1.trans s2)).trans ButM.lp) e
theorem ki (T:Txt P w K mg) (DT:FnOk P w K mg base CX0 k T.Gy T.Fv ["self","place"] (eO T.DS "place")):FnOk P w K mg base (CX2 P w) (k+1+1) T.EV T.E1 ["self"] (BD K T.DS T.DR):=by
 refine T.GI.ok2 sc_Machine_finish (λvs H Q E h=>?_) (λcdv A outer s H vs Q E hr h=>?_)
 ·obtain ⟨A,mc,st,rfl,_⟩:=h;rfl
 have nd:=sc_Machine_finish.nd
 obtain ⟨A,mc,st,rfl,M,ok,bad⟩:=h
 refine ⟨_,(ak (aT (az rB (aO aL rfl T.Ei bH (ag (cF (pv 0) rfl) af)) aj (aJ _)) (aq (cT T.Gr DT (dO T) hr gQ rfl T.EK (ag (cF (pv 0) rfl) af))) aF)
 (aq (ir (pv 0) cV rfl))),?_⟩
 have ed:(!decide ((((st.pile.reverse.map D.int).length:Nat):Int)=1))=!decide (st.pile.length=1):=congrArg Bool.not (j8 (by rw [List.length_map,List.length_reverse];omega))
 refine aA (K:=K) (b:=!decide (st.pile.length=1)) (RT.as (au (ny (dq (qh M T.cl_Machine T.na_pile)) ah)) ed) (λc H1 s1=>?_) (λc H1 s1=>?_)
 ·have c:=of_decide_eq_false ((Bool.not_eq_true' _).mp c)
  exact kG (M.same s1) T.cl_Machine T.na_place λdx n=>bad (by unfold jn;rw [if_neg c];rfl) _ dx (dN (s1.trans (aG n _))) ay
 ·have M:=M.same s1
  have c:=of_decide_eq_true ((Bool.not_eq_false' _).mp c)
  refine ⟨_,rfl,A.m,_,A.dx,_,rfl,M.ins,T.cl_Machine,T.na_ended,by show 7 < 1000;decide,?_⟩
  exact ok .non { st with ended:=true } (by unfold jn;rw [if_pos c];rfl) _ ((dN s1).trans ButM.m) (M.setM (wG true) rfl rfl)
theorem mT (T:Txt P w K mg) (DT:FnOk P w K mg base CX0 k T.Gy T.Fv ["self","place"] (eO T.DS "place")) (Fi:FnOk P w K mg base (CX2 P w) (k+1) T.EW T.E3 ["self"] (qq K T.DS T.DR)):FnOk P w K mg base (CX2 P w) (k+1+1) T.FJ T.FQ ["self","name","number","onward"] (BE K T.DS T.DR):=by
 refine T.Ih.ok2 sc_Machine_way (λvs H Q E h=>?_) (λcdv A outer s H vs Q E hr h=>?_)
 ·obtain ⟨A,mc,st,nm,num,on,rfl,_⟩:=h;rfl
 have nd:=sc_Machine_way.nd
 obtain ⟨A,mc,st,nm,num,on,rfl,M,hk,ok,bad⟩:=h
 refine ⟨_,(ak (aT (az cC (pv 1) (aC (ag aw (ag aw af))) (by with_unfolding_all rfl)) (aq (aE (aU ck (pv 3) (pv 2)))) aF)
 (ak (aT (az cC (pv 1) (aC (ag aw (ag aw af))) (by with_unfolding_all rfl)) (aq (aE (cN (az bK (jb (pv 0) T.cl_Machine T.mt_Machine_take Fi hr (eF T) .nil fL) aj (aJ _)) (aU ck (pv 3) (pv 2)) (pv 3)))) aF)
 (ak (aT (az bK (pv 1) aw (aJ _)) (ak (aT (az bK (aO aL rfl T.Ei bH (ag (cF (pv 0) rfl) af)) (bj (v:=.int 16) rfl T.Gf ⟨_,rfl⟩) (aJ _)) (aq (cT T.Gr DT (dO T) hr gQ rfl T.EK (ag (cF (pv 0) rfl) af))) aF)
 (ak (aX (cW PySem.F.plainAttrs_list PySem.F.slot_list_append PySem.F.type_list_append br (cF (pv 0) rfl) (ag (pv 3) af)))
 (aq (aE (pv 2))))) aF)
 (ak (aT (cI (bz (cF (pv 0) rfl) (λ_=>rfl))) (aq (cT T.Gr DT (dO T) hr gQ rfl T.EK (ag (cF (pv 0) rfl) af))) aF)
 (aq (aE (m6 PySem.F.plainAttrs_list PySem.F.slot_list_pop PySem.F.type_list_pop mP (cF (pv 0) rfl)))))))),?_⟩
 refine aA (K:=K) (b:=decide (nm ∈ (["skip","jump"]:List Str))) (au (gh (ys:=["skip","jump"]) (ae (k:=1) (Dat.strI nm)) (aB (aa av (aa av ao))))) (λc H1 s1=>?_) (λc H1 s1=>?_)
 ·have c:=of_decide_eq_true c
  refine aP (K:=K) (d:=.int ((on:Int)+num)) (cq (ae (k:=3) (Dat.intI _)) (ae (k:=2) (Dat.intI _))) λv H2 s2 q=>?_
  rw [q.intE]
  exact ok _ st (by unfold lN;rw [if_pos c];show some (V.int ((on+num:Nat):Int),st)=_;rw [Int.natCast_add]) _ (dN (s1.trans s2)) (M.same (s1.trans s2))
 have n1:=of_decide_eq_false c
 have M:=M.same s1
 refine aA (K:=K) (b:=decide (nm ∈ (["zero","none"]:List Str))) (au (gh (ys:=["zero","none"]) (ae (k:=1) (Dat.strI nm)) (aB (aa av (aa av ao))))) (λc H2 s2=>?_) (λc H2 s2=>?_)
 ·have c:=of_decide_eq_true c
  have M:=M.same s2
  have s12:=s1.trans s2
  have ew:lN nm num on st=(cQ st).map λp=>(if p.1=0 then on+num else on,p.2):=by unfold lN;rw [if_neg n1,if_pos c]
  rw [ew] at ok bad
  refine qc M ⟨λv st' e H3 b3 M3=>?_,λe H3 dx b3 hd=>?_⟩
  ·obtain ⟨p,hp,e2⟩:=Option.map_eq_some_iff.mp e
   cases e2
   refine ⟨rfl,_,rfl,?_⟩
   have es:decide (V.int p.1=V.int 0)=decide (p.1=0):=j8 ⟨λz=>V.int.inj z,λz=>by rw [z]⟩
   rw [es]
   rw [hp] at ok
   by_cases hz:p.1=0
   ·rw [decide_eq_true hz]
    refine jQ ⟨_,rfl,_,rfl,on,num,rfl,rfl,?_⟩
    exact ok _ p.2 (by show some (V.int ((if p.1=0 then on+num else on:Nat):Int),p.2)=_;rw [if_pos hz,Int.natCast_add]) _ ((dN s12).trans b3) M3
   ·rw [decide_eq_false hz]
    refine jP ⟨_,rfl,?_⟩
    exact ok _ p.2 (by show some (V.int ((if p.1=0 then on+num else on:Nat):Int),p.2)=_;rw [if_neg hz]) _ ((dN s12).trans b3) M3
  ·have e:cQ st=none:=by simpa using e
   exact bad (by rw [e];rfl) H3 dx ((dN s12).trans b3) hd
 have n2:=of_decide_eq_false c
 have M:=M.same s2
 have s12:=s1.trans s2
 refine aA (K:=K) (b:=decide (nm="call")) (au (aR (ae (K:=K) (k:=1) (Dat.strI nm)) av)) (λc H3 s3=>?_) (λc H3 s3=>?_)
 ·have c:=of_decide_eq_true c
  have M:=M.same s3
  have s13:=s12.trans s3
  have ew:lN nm num on st=if st.kept.length=16 then none else some (num,{ st with kept:=on::st.kept }):=by unfold lN;rw [if_neg n1,if_neg n2,if_pos c]
  rw [ew] at ok bad
  have ed:decide (((((st.kept.reverse.map λ(n:Nat)=>(n:Int)).map D.int).length:Nat):Int)=16)=decide (st.kept.length=16):=j8 (by rw [List.length_map,List.length_map,List.length_reverse];omega)
  refine aA (K:=K) (b:=decide (st.kept.length=16)) (RT.as (au (dC (dq (Ba M T.cl_Machine T.na_kept)) ah)) ed) (λc H4 s4=>?_) (λc H4 s4=>?_)
  ·exact kG (M.same s4) T.cl_Machine T.na_place λdx n=>bad (by rw [if_pos (of_decide_eq_true c)];rfl) _ dx (dN (s13.trans (s4.trans (aG n _)))) ay
  ·have M:=M.same s4
   have c:=of_decide_eq_false c
   have lk:=Ax st.kept
   refine jX (uG M T.cl_Machine T.na_kept M.kept (by omega) (ae (k:=3) (Dat.intI _)) λH5 s5=>?_)
   have e:=(M.same s5).setKept (on::st.kept)
   rw [qS] at e
   exact ⟨_,rfl,ok _ _ (by rw [if_neg c];rfl) _ ((dN (s13.trans (s4.trans s5))).trans ButM.lk) e⟩
 have n3:=of_decide_eq_false c
 have M:=M.same s3
 have s13:=s12.trans s3
 obtain ⟨pile,place,kept,ended⟩:=st
 cases kept with
 | nil =>
  refine aA (K:=K) (b:=true) (bD (lX M T.cl_Machine T.na_kept M.kept)) (λ_ H4 s4=>?_) (λc=>nomatch c)
  exact kG (M.same s4) T.cl_Machine T.na_place λdx n=>bad (by unfold lN;rw [if_neg n1,if_neg n2,if_neg n3];rfl) _ dx (dN (s13.trans (s4.trans (aG n _)))) ay
 | cons x r =>
  have e:kpV (x::r)=kpV r++[.int x]:=qS x r
  refine aA (K:=K) (b:=false) (RT.as (bD (lX M T.cl_Machine T.na_kept M.kept)) ?_) (λc=>nomatch c) (λ_ H4 s4=>?_)
  ·show (!!(kpV (x::r)).isEmpty)=false
   rw [e]
   cases kpV r <;> rfl
  ·have M:=M.same s4
   have hp:H4 A.lk=some (.lst (kpV r++[.int x])):=by rw [← e];exact M.kept
   exact AO M T.cl_Machine T.na_kept hp (ok (.int x) _ (by unfold lN;rw [if_neg n1,if_neg n2,if_neg n3];rfl) _ ((dN (s13.trans s4)).trans ButM.lk) (M.setKept r))
def BC (K:PySem.W.Frag) (N C:Addr):Sp:=λvs H Q E=>∃ A mc st nm num,vs=[.ref A.m,.str nm,.int (num:Nat)]/\MacAt K C A mc st H/\tF mc/\gq mc st/\(nm="load"->num≤3)/\MOut K N C A mc st H Q E ((cY mc nm num st).map λs=>(.non,s))
section
variable {N C:Addr} {A:MA} {mc:MC} {st:MS} {H:Hp} {Q:VK} {E:XK} {n:Int} {k:MS->Option MS}
variable {Q1:VK}
theorem vt (h:MOut K N C A mc st H Q E (((bt mc n st).bind k).map λs=>(.non,s))) (q:∀ s,bt mc n st=some s->∀ H',ButM A H H'->MacAt K C A mc s H'->Q1 .non H'):MOut K N C A mc st H Q1 E ((bt mc n st).map λs=>(.non,s)):=by
 refine ⟨λv st' e H' b M'=>?_,λe H' dx b hd=>?_⟩
 ·obtain ⟨s,hs,e2⟩:=Option.map_eq_some_iff.mp e
  cases e2
  exact q _ hs H' b M'
 ·have e:bt mc n st=none:=by simpa using e
  exact h.2 (by rw [e];rfl) H' dx b hd
theorem qu {k:Int × MS->Option MS} (h:MOut K N C A mc st H Q E (((cQ st).bind k).map λs=>(.non,s))) (q:∀ p,cQ st=some p->∀ H',ButM A H H'->MacAt K C A mc p.2 H'->Q1 (.int p.1) H'):MOut K N C A mc st H Q1 E ((cQ st).map λp=>(.int p.1,p.2)):=by
 refine ⟨λv st' e H' b M'=>?_,λe H' dx b hd=>?_⟩
 ·obtain ⟨p,hs,e2⟩:=Option.map_eq_some_iff.mp e
  cases e2
  exact q _ hs H' b M'
 ·have e:cQ st=none:=by simpa using e
  exact h.2 (by rw [e];rfl) H' dx b hd
theorem km {p:Int × MS} (o:gq mc st) (h:cQ st=some p):gq mc p.2/\0≤p.1/\p.1 < mc.b/\p.2.pile.length+1=st.pile.length:=by
 obtain ⟨_,hk,hp,_⟩:=jw h
 have l:=o.l
 rw [hp,List.length_cons] at l
 refine ⟨⟨λx hx=>o.p x (by rw [hp];exact List.mem_cons_of_mem _ hx),by omega,by rw [hk];exact o.k⟩,?_⟩
 have:=o.p p.1 (by rw [hp];exact List.mem_cons_self)
 exact ⟨this.1,this.2,by rw [hp,List.length_cons]⟩
theorem pR {s:MS} (b2:2≤mc.b) (o:gq mc st) (h:bt mc n st=some s):gq mc s:=by
 obtain ⟨_,hk,hp,hl,_⟩:=lT h
 have l:=o.l
 refine ⟨λx hx=>?_,by rw [hp,List.length_cons];omega,by rw [hk];exact o.k⟩
 rw [hp] at hx
 rcases List.mem_cons.mp hx with z | z
 ·rw [z];exact ⟨Int.emod_nonneg _ (by omega),Int.emod_lt_of_pos _ (by omega)⟩
 ·exact o.p x z
end
theorem kh (T:Txt P w K mg) (Fi:FnOk P w K mg base (CX2 P w) k T.EW T.E3 ["self"] (qq K T.DS T.DR)) (Ed:FnOk P w K mg base (CX2 P w) k T.Fl T.Fp ["self","number"] (um K T.DS T.DR)) (Hm:FnOk P w K mg base CX0 k T.EG T.EH ["kind","first","second","size"] (spD K uE)):FnOk P w K mg base (CX2 P w) (k+1) T.EU T.EZ ["self","name","number"] (BC K T.DS T.DR):=by
 refine T.GH.ok2 sc_Machine_change (λvs H Q E h=>?_) (λcdv A outer s H vs Q E hr h=>?_)
 ·obtain ⟨A,mc,st,nm,num,rfl,_⟩:=h;rfl
 have nd:=sc_Machine_change.nd
 obtain ⟨A,mc,st,nm,num,rfl,M,oc,os,hld,out⟩:=h
 have b2:=oc.b2
 refine ⟨_,(ak (aT (az cC (pv 1) (aC (ag aw (ag aw af))) (by with_unfolding_all rfl)) (ak (aX (fh (pv 0) T.cl_Machine T.mt_Machine_push Ed hr (cj T) .nil fL (ag (pv 2) af)))
 (aq vp)) aF)
 (ak (aT (az bK (pv 1) aw (aJ _)) (ak (aX (fh (pv 0) T.cl_Machine T.mt_Machine_push Ed hr (cj T) .nil fL (ag (aN aI (cF (pv 0) rfl) (pv 2) (λ_ _=>rfl)) af)))
 (aq vp)) aF)
 (ak (ba (i:=3) nd rfl (Or.inl rfl) (jb (pv 0) T.cl_Machine T.mt_Machine_take Fi hr (eF T) .nil fL))
 (aq (aT (az bK (pv 1) aw (aJ _)) (aq (aX (fh (pv 0) T.cl_Machine T.mt_Machine_push Ed hr (cj T) .nil fL (ag (aU ck (pv 3) (pv 2)) af)))) (aq (aT (az bK (pv 1) aw (aJ _)) (ak (aX (fh (pv 0) T.cl_Machine T.mt_Machine_push Ed hr (cj T) .nil fL (ag (pv 3) af)))
 (aq (aX (fh (pv 0) T.cl_Machine T.mt_Machine_push Ed hr (cj T) .nil fL (ag (pv 3) af))))) (aq (aT (az bK (pv 1) aw (aJ _)) (ak (ba (i:=4) nd rfl (Or.inl rfl) (jb (pv 0) T.cl_Machine T.mt_Machine_take Fi hr (eF T) .nil fL))
 (ak (aX (fh (pv 0) T.cl_Machine T.mt_Machine_push Ed hr (cj T) .nil fL (ag (pv 3) af)))
 (aq (aX (fh (pv 0) T.cl_Machine T.mt_Machine_push Ed hr (cj T) .nil fL (ag (pv 4) af)))))) (aq (aX (fh (pv 0) T.cl_Machine T.mt_Machine_push Ed hr (cj T) .nil fL (ag (aD Hm hr rfl T.Hn T.Fg.kp (iG T) .nil aQ (ag (pv 1) (ag (jb (pv 0) T.cl_Machine T.mt_Machine_take Fi hr (eF T) .nil fL) (ag (pv 3) (ag (cF (pv 0) rfl) af))))) af))))))))))))),?_⟩
 refine aA (K:=K) (b:=decide (nm ∈ (["put","far"]:List Str))) (au (gh (ys:=["put","far"]) (ae (k:=1) (Dat.strI nm)) (aB (aa av (aa av ao))))) (λc H1 s1=>?_) (λc H1 s1=>?_)
 ·have ew:cY mc nm num st=bt mc num st:=by unfold cY;rw [if_pos (of_decide_eq_true c)]
  rw [ew] at out
  have out:=MOut.on (st1:=st) out (dN s1) rfl
  refine jX (jW (ae (k:=2) (Dat.intI (num:Int))) (M.same s1) b2 os.l ⟨λv st' e H' b M'=>?_,out.2⟩)
  obtain ⟨s,hs,e2⟩:=Option.map_eq_some_iff.mp e
  cases e2
  exact out.1 _ _ e H' b M'
 have n1:=of_decide_eq_false c
 have M:=M.same s1
 have out:=MOut.on (st1:=st) out (dN s1) rfl
 refine aA (K:=K) (b:=decide (nm="load")) (au (aR (ae (K:=K) (k:=1) (Dat.strI nm)) av)) (λc H2 s2=>?_) (λc H2 s2=>?_)
 ·have c:=of_decide_eq_true c
  have ew:cY mc nm num st=bt mc (mc.as.getD num 0) st:=by unfold cY;rw [if_neg n1,if_pos c]
  rw [ew] at out
  have out:=MOut.on (st1:=st) out (dN s2) rfl
  have M:=M.same s2
  have ln:=hld c
  have la:=oc.as
  have hg:(mc.as.map D.int)[num]?=some (.int (mc.as.getD num 0)):=by
   rw [List.getElem?_map,List.getElem?_eq_getElem (by omega:num < mc.as.length),List.getD_eq_getElem?_getD,List.getElem?_eq_getElem (by omega:num < mc.as.length)]
   rfl
  refine jX (jW (aM (k:=num) (A0 M T.cl_Machine T.na_given) (ae (k:=2) (Dat.intI (num:Int))) hg) M b2 os.l ⟨λv st' e H' b M'=>?_,out.2⟩)
  obtain ⟨s,hs,e2⟩:=Option.map_eq_some_iff.mp e
  cases e2
  exact out.1 _ _ e H' b M'
 have n2:=of_decide_eq_false c
 have M:=M.same s2
 have out:=MOut.on (st1:=st) out (dN s2) rfl
 have ew:cY mc nm num st=(cQ st).bind λu =>
  if nm="more" then bt mc (u.1+num) u.2
  else if nm="twice" then (bt mc u.1 u.2).bind λs=>bt mc u.1 s
  else if nm="about" then (cQ u.2).bind λl=>(bt mc u.1 l.2).bind λs=>bt mc l.1 s
  else (cQ u.2).bind λl=>bt mc (two nm l.1 u.1 mc.b) l.2:=by unfold cY;rw [if_neg n1,if_neg n2]
 rw [ew] at out
 refine fJ (qc M (qu out λu hu H3 b3 M=>?_))
 obtain ⟨ou,u0,u1,ul⟩:=km os hu
 have pu:=(jw hu).1
 rw [hu] at out
 have out:=MOut.on (st1:=u.2) out b3 pu
 have out:MOut K T.DS T.DR A mc u.2 H3 Q E ((if nm="more" then bt mc (u.1+num) u.2
  else if nm="twice" then (bt mc u.1 u.2).bind λs=>bt mc u.1 s
  else if nm="about" then (cQ u.2).bind λl=>(bt mc u.1 l.2).bind λs=>bt mc l.1 s
  else (cQ u.2).bind λl=>bt mc (two nm l.1 u.1 mc.b) l.2).map λs=>(.non,s)):=out
 refine dQ (b:=decide (nm="more")) (au (aR (ae (K:=K) (k:=1) (Dat.strI nm)) av)) (λc H4 s4=>?_) (λc H4 s4=>?_)
 ·rw [if_pos (of_decide_eq_true c)] at out
  have out:=MOut.on (st1:=u.2) out (dN s4) rfl
  refine jW (cq (ae (k:=3) (Dat.intI u.1)) (ae (k:=2) (Dat.intI (num:Int)))) (M.same s4) b2 ou.l ⟨λv st' e H' b M'=>?_,out.2⟩
  obtain ⟨s,hs,e2⟩:=Option.map_eq_some_iff.mp e
  cases e2
  exact out.1 _ _ e H' b M'
 rw [if_neg (of_decide_eq_false c)] at out
 have M:=M.same s4
 have out:=MOut.on (st1:=u.2) out (dN s4) rfl
 refine dQ (b:=decide (nm="twice")) (au (aR (ae (K:=K) (k:=1) (Dat.strI nm)) av)) (λc H5 s5=>?_) (λc H5 s5=>?_)
 ·rw [if_pos (of_decide_eq_true c)] at out
  have out:=MOut.on (st1:=u.2) out (dN s5) rfl
  refine jX (jW (ae (k:=3) (Dat.intI u.1)) (M.same s5) b2 ou.l (vt out λs hs H6 b6 M6=>?_))
  rw [hs] at out
  have out:MOut K T.DS T.DR A mc s H6 Q E ((bt mc u.1 s).map λs=>(.non,s)):=MOut.on out b6 (lT hs).1
  refine jW (ae (k:=3) (Dat.intI u.1)) M6 b2 (pR b2 ou hs).l ⟨λv st' e H' b M'=>?_,out.2⟩
  obtain ⟨s',hs',e2⟩:=Option.map_eq_some_iff.mp e
  cases e2
  exact out.1 _ _ e H' b M'
 rw [if_neg (of_decide_eq_false c)] at out
 have M:=M.same s5
 have out:=MOut.on (st1:=u.2) out (dN s5) rfl
 refine dQ (b:=decide (nm="about")) (au (aR (ae (K:=K) (k:=1) (Dat.strI nm)) av)) (λc H6 s6=>?_) (λc H6 s6=>?_)
 ·rw [if_pos (of_decide_eq_true c)] at out
  have out:=MOut.on (st1:=u.2) out (dN s6) rfl
  refine fJ (qc (M.same s6) (qu out λl hl H7 b7 M7=>?_))
  obtain ⟨ol,l0,l1,ll⟩:=km ou hl
  rw [hl] at out
  have out:MOut K T.DS T.DR A mc l.2 H7 Q E (((bt mc u.1 l.2).bind λs=>bt mc l.1 s).map λs=>(.non,s)):=MOut.on out b7 (jw hl).1
  refine jX (jW (ae (k:=3) (Dat.intI u.1)) M7 b2 ol.l (vt out λs hs H8 b8 M8=>?_))
  rw [hs] at out
  have out:MOut K T.DS T.DR A mc s H8 Q E ((bt mc l.1 s).map λs=>(.non,s)):=MOut.on out b8 (lT hs).1
  refine jW (ae (k:=4) (Dat.intI l.1)) M8 b2 (pR b2 ol hs).l ⟨λv st' e H' b M'=>?_,out.2⟩
  obtain ⟨s',hs',e2⟩:=Option.map_eq_some_iff.mp e
  cases e2
  exact out.1 _ _ e H' b M'
 ·rw [if_neg (of_decide_eq_false c)] at out
  have M:=M.same s6
  have out:=MOut.on (st1:=u.2) out (dN s6) rfl
  refine ⟨_,rfl,A.m,A.dx,_,rfl,M.ins,by kernel_rfl,_,rfl,?_⟩
  refine qc M (qu out λl hl H7 b7 M7=>?_)
  obtain ⟨ol,l0,l1,ll⟩:=km ou hl
  rw [hl] at out
  have out:MOut K T.DS T.DR A mc l.2 H7 Q E ((bt mc (two nm l.1 u.1 mc.b) l.2).map λs=>(.non,s)):=MOut.on out b7 (jw hl).1
  refine ⟨_,rfl,fY (v:=.int mc.b) M7 T.cl_Machine T.na_size ?_⟩
  refine ⟨[.str nm,.int l.1,.int u.1,.int mc.b],.int (two nm l.1 u.1 mc.b),Dats.cons (Dat.strI nm) (Dats.cons (Dat.intI _) (Dats.cons (Dat.intI _) (Dats.cons (Dat.intI _) Dats.nil))),⟨nm,l.1,u.1,mc.b,rfl,b2,oc.b9,l0,l1,u0,u1,rfl⟩,λv H8 s8 q8=>?_⟩
  have out:=MOut.on (st1:=l.2) out (dN s8) rfl
  refine ⟨A,mc,l.2,_,by rw [q8.intE];rfl,M7.same s8,b2,ol.l,⟨λv st' e H' b M'=>?_,out.2⟩⟩
  obtain ⟨s',hs',e2⟩:=Option.map_eq_some_iff.mp e
  cases e2
  exact out.1 _ _ e H' b M'
def nsC (cs:List Int) (p:Nat) (c:Int):List Int:=(cs.drop (p+1)).take (bM c)
def iM (cs:List Int) (p:Nat) (c:Int):Nat:=(rb (nsC cs p c)).toNat
def lM (nm:Str) (num:Nat):Bool:=decide (jA nm TTO num < (num:Int))
abbrev WS:List Str:=["skip","jump","zero","none","call","back"]
def doM (mc:MC) (nm:Str) (num on:Nat) (st:MS):Option MS :=
 if nm ∈ WS then (lN nm num on st).map λp=>{ p.2 with place:=p.1 }
 else if nm="end" then (jn st).map λs=>{ s with place:=on }
 else (cY mc nm num st).map λs=>{ s with place:=on }
def fN (mc:MC) (st:MS):Option MS:=match mc.cs[st.place]? with
 | none=>none
 | some c=>if iU mc.cs st.place c=true then none else if lM (nmC c) (iM mc.cs st.place c)=true then none
  else doM mc (nmC c) (iM mc.cs st.place c) (st.place+1+bM c) st
theorem uI (cs:List Int) (p:Nat) (c:Int):jM cs p (bM c)=(nsC cs p c).map D.int:=by
 unfold jM nsC
 rw [List.map_take,List.map_drop]
theorem yD (ok:okC cs):(nsC cs p c).length≤2/\∀ n ∈ nsC cs p c,0≤n/\n≤99:=by
 unfold nsC
 refine ⟨by rw [List.length_take];have:=Ae c;omega,λn hn=>?_⟩
 obtain ⟨i,hi⟩:=List.mem_iff_getElem?.mp (List.mem_of_mem_drop (List.mem_of_mem_take hn))
 exact ok.c i n hi
theorem vi (ok:okC cs):rb (nsC cs p c)=((iM cs p c:Nat):Int)/\iM cs p c≤9999:=by
 obtain ⟨h1,h2⟩:=yD (p:=p) (c:=c) ok
 have:=yE h1 h2
 unfold iM
 omega
theorem Aa:∀ p ∈ TTO,∃ i,p.2=.flat (.int i):=by
 intro p hp
 simp only [TTO,List.mem_cons,List.not_mem_nil,or_false] at hp
 rcases hp with rfl | rfl | rfl <;> exact ⟨_,rfl⟩
theorem Az {num:Nat} (h:lM "load" num=false):num≤3:=by
 have h:=of_decide_eq_false h
 have e:jA "load" TTO num=3:=by kernel_rfl
 rw [e] at h
 omega
variable {mc:MC} {st:MS}
theorem zG (h:qE mc.cs st.place=true):fN mc st=none:=by
 unfold fN
 cases hc:mc.cs[st.place]? with
 | none=>rfl
 | some c =>
  have h':iU mc.cs st.place c=true:=by unfold qE at h;rw [hc] at h;exact h
  exact if_pos h'
theorem wZ (h:qE mc.cs st.place=false):∃ c,mc.cs[st.place]?=some c/\iU mc.cs st.place c=false:=by
 cases hc:mc.cs[st.place]? with
 | none =>
  have h':true=false:=by unfold qE at h;rw [hc] at h;exact h
  cases h'
 | some c=>exact ⟨c,rfl,by unfold qE at h;rw [hc] at h;exact h⟩
def uo (K:PySem.W.Frag) (N C:Addr):Sp:=λvs H Q E=>∃ A mc st,vs=[.ref A.m]/\MacAt K C A mc st H/\tF mc/\gq mc st/\MOut K N C A mc st H Q E ((fN mc st).map λs=>(.non,s))
theorem lJ (T:Txt P w K mg) (DT:FnOk P w K mg base CX0 k T.Gy T.Fv ["self","place"] (eO T.DS "place")) (GC:FnOk P w K mg base (CX2 P w) (k+1) T.D8 T.Ea ["cells","place"] (uk K "place" uF (uD T.DS))) (JK:FnOk P w K mg base CX0 (k+1) T.FP T.FW ["behind"] (spD K xp)) (JE:FnOk P w K mg base (CX2 P w) (k+1) T.FJ T.FQ ["self","name","number","onward"] (BE K T.DS T.DR)) (Jp:FnOk P w K mg base (CX2 P w) (k+1) T.EV T.E1 ["self"] (BD K T.DS T.DR)) (Jo:FnOk P w K mg base (CX2 P w) (k+1) T.EU T.EZ ["self","name","number"] (BC K T.DS T.DR)):FnOk P w K mg base (CX2 P w) (k+1+1) T.Fm T.Fq ["self"] (uo K T.DS T.DR):=by
 refine T.HK.ok2 sc_Machine_step (λvs H Q E h=>?_) (λcdv A outer s H vs Q E hr h=>?_)
 ·obtain ⟨A,mc,st,rfl,_⟩:=h;rfl
 have nd:=sc_Machine_step.nd
 obtain ⟨A,mc,st,rfl,M,oc,os,out⟩:=h
 have okc:=oc.cs
 refine ⟨_,(ak (eX (aD GC hr rfl T.GM T.Es.kp (gR T) .nil fL (ag (cF (pv 0) rfl) (ag (cF (pv 0) rfl) af))) (fH rfl (aW (aH (i:=1) nd rfl (Or.inl rfl)) (aW (aH (i:=2) nd rfl (Or.inl rfl)) dX))))
 (ak (ba (i:=3) nd rfl (Or.inl rfl) (aD JK hr rfl T.IW T.GS.kp (nS T) .nil aQ (ag (pv 2) af)))
 (ak (aT (az m3 (pv 3) (oI (bj (v:=.ref T.HZ) rfl T.Gh rfl) (pv 1) (pv 3) ⟨rfl,rfl,rfl,rfl⟩) (aJ _)) (aq (cT T.Gr DT (dO T) hr gQ rfl T.EK (ag (cF (pv 0) rfl) af))) aF)
 (ak (ba (i:=4) nd rfl (Or.inl rfl) (aU ck (aU ck (cF (pv 0) rfl) aj) (aO aL rfl T.Ei bH (ag (pv 2) af))))
 (ak (aT (az cC (pv 1) (bj (v:=.ref T.JU) rfl T.Jq rfl) (by with_unfolding_all rfl)) (aq (ba (i:=4) nd rfl (Or.inl rfl) (fh (pv 0) T.cl_Machine T.mt_Machine_way JE hr (nM T) .nil fL (ag (pv 1) (ag (pv 3) (ag (pv 4) af)))))) (aq (aT (az bK (pv 1) aw (aJ _)) (aq (aX (jb (pv 0) T.cl_Machine T.mt_Machine_finish Jp hr (kE T) .nil fL))) (aq (aX (fh (pv 0) T.cl_Machine T.mt_Machine_change Jo hr (kD T) .nil fL (ag (pv 1) (ag (pv 3) af))))))))
 (aq (ir (pv 0) (pv 4) rfl))))))),?_⟩
 have rA:RB K (bf (kA K (cx 0) "cells") (bf (kA K (cx 0) "place") cu)) (eP ["self","name","behind","number","onward"] [.ref A.m]) H [.l (cD mc.cs),.d (.int st.place)]:=DN (A9 M T.cl_Machine T.na_cells) (Cs (lV (z:=st.place) M T.cl_Machine T.na_place) zm)
 cases hbp:qE mc.cs st.place with
 | true =>
  have e:fN mc st=none:=zG hbp
  exact kR (R:=uF) (B:=uD T.DS) rA ⟨mc.cs,st.place,rfl,okc,hbp,rfl,rfl⟩ λH1 dx s1 hd=>out.2 (by rw [e];rfl) H1 dx (dN s1) hd
 | false =>
  obtain ⟨c,hc,hb⟩:=wZ hbp
  obtain ⟨h16,hlt⟩:=xC hb
  obtain ⟨en,n9⟩:=vi (p:=st.place) (c:=c) okc
  obtain ⟨l2,n2⟩:=yD (p:=st.place) (c:=c) okc
  have lb:(jM mc.cs st.place (bM c)).length=bM c:=by rw [ml];omega
  have e:fN mc st=if lM (nmC c) (iM mc.cs st.place c)=true then none else doM mc (nmC c) (iM mc.cs st.place c) (st.place+1+bM c) st:=by
   unfold fN
   rw [hc]
   dsimp only
   rw [if_neg (by rw [hb];exact Bool.false_ne_true)]
  rw [e] at out
  refine iy (K:=K) (d:=.str (nmC c)) (e:=.tup (jM mc.cs st.place (bM c))) (oK (R:=uF) (B:=uD T.DS) rA ⟨mc.cs,st.place,c,rfl,okc,hc,hb,rfl⟩) λv1 v2 H1 s1 h1 h2=>?_
  obtain rfl:=h1.strE
  generalize nmC c=nm at *
  generalize hnum:iM mc.cs st.place c=num at *
  refine bL (K:=K) (d:=.int num) (RE.as (aS (R:=xp) (aa (ae (k:=2) h2) ao) ⟨nsC mc.cs st.place c,by rw [uI],l2,n2,rfl⟩) (by rw [en])) λv3 H2 s2 h3=>?_
  obtain rfl:=h3.intE
  have h2:=s2.dat h2
  have s12:=s1.trans s2
  have M:=M.same s12
  have out:=MOut.on (st1:=st) out (dN s12) rfl
  refine aA (K:=K) (b:=lM nm num) (au (bC (p:=λi j=>decide (j < i)) (ae (k:=3) (Dat.intI (num:Int))) (oM T.Gj (ae (k:=1) (Dat.strI nm)) (ae (k:=3) (Dat.intI (num:Int))) Aa))) (λct H3 s3=>?_) (λct H3 s3=>?_)
  ·exact kG (M.same s3) T.cl_Machine T.na_place λdx n=>out.2 (by rw [if_pos ct];rfl) _ dx (dN (s3.trans (aG n _))) ay
  ·have M:=M.same s3
   have out:=MOut.on (st1:=st) out (dN s3) rfl
   rw [if_neg (by rw [ct];exact Bool.false_ne_true)] at out
   have h2:=s3.dat h2
   have eo:(st.place:Int)+1+((jM mc.cs st.place (bM c)).length:Int)=((st.place+1+bM c:Nat):Int):=by rw [lb];omega
   refine bL (K:=K) (d:=.int ((st.place+1+bM c:Nat):Int)) (RE.as (cq (cq (lV (z:=st.place) M T.cl_Machine T.na_place) ah) (bQ (ae (k:=2) h2))) (congrArg D.int eo)) λv4 H4 s4 h4=>?_
   obtain rfl:=h4.intE
   have M:=M.same s4
   have out:=MOut.on (st1:=st) out (dN s4) rfl
   generalize st.place+1+bM c=on at *
   refine bX (RT.use (b:=decide (nm ∈ WS)) (au (gh (ys:=WS) (ae (K:=K) (k:=1) (Dat.strI nm)) (eY T.Kl))) λH5 s5=>?_)
   have M:=M.same s5
   have out:=MOut.on (st1:=st) out (dN s5) rfl
   by_cases hw:nm ∈ WS
   ·rw [decide_eq_true hw]
    refine jQ ⟨_,rfl,A.m,A.dx,_,rfl,M.ins,by kernel_rfl,_,rfl,_,rfl,_,rfl,A,mc,st,nm,num,on,rfl,M,os.k,λv st' ew H6 b6 M6=>?_,λew H6 dx b6 hd=>?_⟩
    ·obtain ⟨p,hp,e2⟩:=Option.map_eq_some_iff.mp ew
     cases e2
     refine ⟨_,rfl,_,rfl,A.m,_,A.dx,_,rfl,M6.ins,T.cl_Machine,T.na_place,by show 7 < 1000;decide,?_⟩
     exact out.1 .non { p.2 with place:=p.1 } (by unfold doM;rw [if_pos hw,hp];rfl) _ (b6.trans ButM.m) (M6.setM (kQ p.1) rfl rfl)
    ·have ew:lN nm num on st=none:=by simpa using ew
     exact out.2 (by unfold doM;rw [if_pos hw,ew];rfl) H6 dx b6 hd
   ·rw [decide_eq_false hw]
    refine jP (RT.use (b:=decide (nm="end")) (au (aR (ae (K:=K) (k:=1) (Dat.strI nm)) av)) λH6 s6=>?_)
    have M:=M.same s6
    have out:=MOut.on (st1:=st) out (dN s6) rfl
    by_cases he:nm="end"
    ·rw [decide_eq_true he]
     refine jQ ⟨_,rfl,A.m,A.dx,_,rfl,M.ins,by kernel_rfl,A,mc,st,rfl,M,λv st' ew H7 b7 M7=>?_,λew H7 dx b7 hd=>?_⟩
     ·obtain ⟨s',hs',e2⟩:=Option.map_eq_some_iff.mp ew
      cases e2
      refine ⟨_,rfl,_,rfl,A.m,_,A.dx,_,rfl,M7.ins,T.cl_Machine,T.na_place,by show 7 < 1000;decide,?_⟩
      exact out.1 .non { st' with place:=on } (by unfold doM;rw [if_neg hw,if_pos he,hs'];rfl) _ (b7.trans ButM.m) (M7.setM (kQ on) rfl rfl)
     ·have ew:jn st=none:=by simpa using ew
      exact out.2 (by unfold doM;rw [if_neg hw,if_pos he,ew];rfl) H7 dx b7 hd
    ·rw [decide_eq_false he]
     refine jP ⟨_,rfl,A.m,A.dx,_,rfl,M.ins,by kernel_rfl,_,rfl,_,rfl,A,mc,st,nm,num,rfl,M,oc,os,?_,λv st' ew H7 b7 M7=>?_,λew H7 dx b7 hd=>?_⟩
     ·rintro rfl
      exact Az ct
     ·obtain ⟨s',hs',e2⟩:=Option.map_eq_some_iff.mp ew
      cases e2
      refine ⟨_,rfl,_,rfl,A.m,_,A.dx,_,rfl,M7.ins,T.cl_Machine,T.na_place,by show 7 < 1000;decide,?_⟩
      exact out.1 .non { st' with place:=on } (by unfold doM;rw [if_neg hw,if_neg he,hs'];rfl) _ (b7.trans ButM.m) (M7.setM (kQ on) rfl rfl)
     ·have ew:cY mc nm num st=none:=by simpa using ew
      exact out.2 (by unfold doM;rw [if_neg hw,if_neg he,ew];rfl) H7 dx b7 hd
theorem qH {x:Addr} {C dx:Addr} {fs:List (Str × V)} (b:But x H H') (h:H x=some (.ins C dx fs)):dD K H H':=by
 refine ⟨λa xs q=>?_,λa xs q=>⟨xs,?_⟩⟩
 ·rcases q with (q | ⟨u,q⟩) | q
  ·exact .inl (.inl (b _ _ (λz=>by rw [z,h] at q;cases q) q))
  ·exact .inl (.inr ⟨u,b _ _ (λz=>by rw [z,h] at q;cases q) q⟩)
  ·exact .inr q
 ·rcases q with (q | ⟨u,q⟩) | q
  ·exact .inl (.inl (b _ _ (λz=>by rw [z,h] at q;cases q) q))
  ·exact .inl (.inr ⟨u,b _ _ (λz=>by rw [z,h] at q;cases q) q⟩)
  ·exact .inr q
variable {tl:TE} {es:List D}
theorem Bb {f:Str} {x:Addr} (h:RC K tl σ H es) (q:∀ l ys H',H l=none->Same H H'->H' l=some (.lst ys)->Dats K H' es ys->∃ C dx fs,H' x=some (.ins C dx fs)/\Cls K C/\NoAttr K C f/\fs.length < 1000/\us En σ (upd H' x (.ins C dx (iu f (.ref l) fs))))
  (e:σ[i]?=some (some (.ref x)):=by rfl):jZ (Dm K (cx i) tl f) us En σ H :=
 h.use λl ys H' n s hy dy=>let ⟨C,dx,fs,a1,a2,a3,a4,a5⟩:=q l ys H' n s hy dy;⟨_,e,x,C,dx,fs,rfl,a1,a2,a3,a4,a5⟩
def Dp (K:PySem.W.Frag) (C:Addr):Sp:=λvs H Q _=>∃ (x dx lc:Addr) (vg v4:V) (mc:MC) (r:List Int),vs=[.ref x,.ref lc,vg,.int mc.b,v4]/\H x=some (.ins C dx [])/\H lc=some (.lst (mc.cs.map V.int))/\Dat K H (.tup (mc.as.map D.int)) vg/\LD K H (r.reverse.map D.int) v4/\r.length≤900 /\
 ∀ (A:MA) (H':Hp),A.m=x->A.dx=dx->A.lc=lc->A.vg=vg->But x H H'->H A.lp=none->H A.lk=none->MacAt K C A mc ⟨r,0,[],false⟩ H'->Q .non H'
theorem jx (T:Txt P w K mg)  : FnOk P w K mg base CX0 (k+1) T.Eu T.Ey ["self","cells","given","size","pile"] (Dp K T.DR):=by
 refine T.FZ.ok sc_Machine___init__ (λvs H Q E h=>?_) (λcdv A outer s H vs Q E hr h=>?_)
 ·obtain ⟨x,dx,lc,vg,v4,mc,r,rfl,_⟩:=h;rfl
 have nd:=sc_Machine___init__.nd
 obtain ⟨x,dx,lc,vg,v4,mc,r,rfl,hx,hc,hg,hp,lr,post⟩:=h
 refine ⟨_,(ak (ir (pv 0) (pv 1) rfl)
 (ak (ir (pv 0) (pv 2) rfl)
 (ak (ir (pv 0) (pv 3) rfl)
 (ak (ir (pv 0) (cv ig rfl T.IH ie (ag (pv 4) af)) rfl)
 (ak (ir (pv 0) aj rfl)
 (ak (ir (pv 0) (bu af) rfl)
 (aq (ir (pv 0) cV rfl)))))))),?_⟩
 have ncx:lc≠x:=λz=>by rw [z,hx] at hc;cases hc
 refine ⟨_,rfl,_,rfl,x,_,dx,_,rfl,hx,T.cl_Machine,T.na_cells,by show 0 < 1000;decide,?_⟩
 refine ⟨_,rfl,_,rfl,x,_,dx,_,rfl,ay,T.cl_Machine,T.na_given,by show 1 < 1000;decide,?_⟩
 refine ⟨_,rfl,_,rfl,x,_,dx,_,rfl,ay,T.cl_Machine,T.na_size,by show 2 < 1000;decide,?_⟩
 generalize e3:upd (upd (upd H x _) x _) x _=H3
 have b3:But x H H3:=by rw [← e3];exact But.upd (But.upd (But.upd (Same.refl _).but))
 have x3:H3 x=some (.ins T.DR dx [("cells",.ref lc),("given",vg),("size",.int mc.b)]):=by rw [← e3,ay];kernel_rfl
 have p3:LD K H3 (r.reverse.map D.int) v4:=by
  obtain ⟨l,vs,e,hq,hd⟩:=hp
  refine ⟨l,vs,e,?_,Dats.mono (qH b3 hx) _ hd⟩
  rcases hq with q | q
  ·exact .inl (b3 _ _ (λz=>by rw [z,hx] at q;cases q) q)
  ·exact .inr q
 refine Bb (K:=K) (x:=x) (tV (bW (k:=4) p3)) λlp ys H4 np s4 hy dy=>?_
 obtain rfl:=j9 dy
 refine ⟨_,dx,_,s4 _ _ x3,T.cl_Machine,T.na_pile,by show 3 < 1000;decide,?_⟩
 refine ⟨_,rfl,x,_,dx,_,rfl,ay,T.cl_Machine,T.na_place,by show 4 < 1000;decide,?_⟩
 generalize e6:upd (upd H4 x _) x _=H6
 have b6:But x H H6:=by rw [← e6];exact But.upd (But.upd (b3.trans s4.but))
 have npx:lp≠x:=λz=>by rw [z,x3] at np;cases np
 have p6:H6 lp=some (.lst (pV r)):=by rw [← e6,aK npx,aK npx];exact hy
 have x6:H6 x=some (.ins T.DR dx [("cells",.ref lc),("given",vg),("size",.int mc.b),("pile",.ref lp),("place",.int 0)]):=by rw [← e6,ay];kernel_rfl
 refine ⟨gL (by decide),λlk nk=>?_⟩
 have nkx:lk≠x:=λz=>by rw [z,x6] at nk;cases nk
 have nkp:lp≠lk:=λz=>by rw [← z,p6] at nk;cases nk
 have c6:H6 lc=some (.lst (mc.cs.map V.int)):=b6 _ _ ncx hc
 have nck:lc≠lk:=λz=>by rw [← z,c6] at nk;cases nk
 have ncp:lc≠lp:=λz=>by rw [← z,b3 _ _ ncx hc] at np;cases np
 refine ⟨_,rfl,x,_,dx,_,rfl,by rw [aK (Ne.symm nkx)];exact x6,T.cl_Machine,T.na_kept,by show 5 < 1000;decide,?_⟩
 refine ⟨_,rfl,x,_,dx,_,rfl,ay,T.cl_Machine,T.na_ended,by show 6 < 1000;decide,?_⟩
 generalize e9:upd (upd (upd H6 lk _) x _) x _=H9
 have b9:But x H6 H9:=by rw [← e9];exact But.upd (But.upd (aG nk _).but)
 have k9:H9 lk=some (.lst (kpV [])):=by rw [← e9,aK nkx,aK nkx,ay];rfl
 have x9:H9 x=some (.ins T.DR dx (mF ⟨x,dx,lp,lk,lc,vg⟩ mc ⟨r,0,[],false⟩)):=by rw [← e9,ay];kernel_rfl
 have nH:∀ b,b≠x->H6 b=none->H b=none:=λb z n=>by
  cases e:H b with
  | none=>rfl
  | some o=>rw [b6 _ _ z e] at n;cases n
 have nH3:∀ b,b≠x->H3 b=none->H b=none:=λb z n=>by
  cases e:H b with
  | none=>rfl
  | some o=>rw [b3 _ _ z e] at n;cases n
 exact post ⟨x,dx,lp,lk,lc,vg⟩ H9 rfl rfl rfl rfl (b6.trans b9) (nH3 _ npx np) (nH _ nkx nk) ⟨x9,b9 _ _ ncx c6,Dat.mono (qH (b6.trans b9) hx) _ hg,b9 _ _ npx p6,k9,nkp,ncp,nck⟩
variable {E:XK} {tA:TA} {Q:VK}
theorem zb {sp:Sp} {dvs:List V} (h:tA σ H λvs H1=>sp (vs++dvs) H1 Q E):fO sp dvs E tA σ H Q:=h
theorem zc {Q:List V->Hp->Prop} (h:te σ H λx H1=>tA σ H1 λxs H2=>Q (x::xs) H2):bf te tA σ H Q:=h
inductive Pa where
 | hole (i:Int)
 | gap (i m:Int)
 | slot (i:Int)
 | num (n:Int)
 | two (o:Str) (a b:Pa)
def toP:Pa->D
 | .hole i=>.tup [.str "hole",.int i]
 | .gap i m=>.tup [.str "gap",.int i,.int m]
 | .slot i=>.tup [.str "slot",.int i]
 | .num n=>.tup [.str "num",.int n]
 | .two o a b=>.tup [.str o,toP a,toP b]
inductive Cl where
 | n (i:Int)
 | arg (k:Nat)
 | low (k:Nat)
 | high (k:Nat)
def clD:Cl->D
 | .n i=>.int i
 | .arg k=>.tup [.str "arg",.int k]
 | .low k=>.tup [.str "low",.int k]
 | .high k=>.tup [.str "high",.int k]
def mq (g s:Nat):Cl->Bool
 | .n _=>true
 | .arg k=>decide (k < s)
 | .low k=>decide (k < g)
 | .high k=>decide (k < g)
def cK (nums ks:List Int):Cl->Int
 | .n i=>i
 | .arg k=>ks.getD k 0
 | .low k=>nums.getD k 0 % 100
 | .high k=>nums.getD k 0 / 100
theorem dF {k:Nat} (h:k < ns.length):(ns.map D.int)[k]?=some (.int (ns.getD k 0)):=by
 rw [List.getElem?_map,List.getD_eq_getElem?_getD,List.getElem?_eq_getElem h]
 rfl
def su (ds:List D) (d:D):Prop:=∃ (c:Cl) (nums ks:List Int),ds=[clD c,.tup (nums.map D.int),.tup (ks.map D.int)]/\mq nums.length ks.length c=true/\d=.int (cK nums ks c)
theorem mX (T:Txt P w K mg)  : FnOk P w K mg base CX0 (k+1) T.FN T.FU ["cell","nums","ks"] (spD K su):=by
 refine T.GQ.ok sc_filled_cell (λvs H Q E h=>?_) (λcdv A outer s H vs Q E hr h=>?_)
 ·obtain ⟨ds,d,hd,⟨c,nums,ks,rfl,_⟩,_⟩:=h;exact hd.length.symm
 have nd:=sc_filled_cell.nd
 obtain ⟨ds,d,hd,⟨c,nums,ks,rfl,okc,rfl⟩,post⟩:=h
 obtain ⟨v0,v1,v2,rfl,h0,h1,h2⟩:=kW hd
 refine ⟨_,(ak (aT (bz (aO (dP yf) rfl T.D5 bR (bZ (pv 0) (bZ (fg (v:=.ty "int") rfl T.Kn xE rfl) af))) (λ_=>rfl)) (aq (aE (pv 0))) aF)
 (ak (aT (az bK (aN aI (pv 0) aj (λ_ _=>rfl)) aw (aJ _)) (aq (aE (aU cH (aN aI (pv 1) (aN aI (pv 0) aj (λ_ _=>rfl)) (λ_ _=>rfl)) aj))) aF)
 (ak (aT (az bK (aN aI (pv 0) aj (λ_ _=>rfl)) aw (aJ _)) (aq (aE (aU lS (aN aI (pv 1) (aN aI (pv 0) aj (λ_ _=>rfl)) (λ_ _=>rfl)) aj))) aF)
 (aq (aE (aN aI (pv 2) (aN aI (pv 0) aj (λ_ _=>rfl)) (λ_ _=>rfl))))))),?_⟩
 cases c with
 | n j =>
  have h0:Dat K H (.int j) v0:=h0
  refine aA (K:=K) (b:=true) (aV (bI (ae (k:=0) h0))) (λ_ H1 s1=>?_) (λc=>nomatch c)
  exact aP (K:=K) (d:=.int j) (ae (k:=0) (s1.dat h0)) λv H2 s2 q=>post v H2 (s1.trans s2) q
 | low j =>
  have h0:Dat K H (.tup [.str "low",.int j]) v0:=h0
  have okc:=of_decide_eq_true okc
  refine aA (K:=K) (b:=false) (aV (bI (ae (k:=0) h0))) (λc=>nomatch c) (λ_ H1 s1=>?_)
  refine aA (K:=K) (b:=true) (RT.as (au (aR (aM (k:=0) (ae (k:=0) (s1.dat h0)) ah rfl) av)) (decide_eq_true rfl)) (λ_ H2 s2=>?_) (λc=>nomatch c)
  have s12:=s1.trans s2
  exact aP (K:=K) (d:=.int (nums.getD j 0 % 100)) (eZ (aM (k:=j) (ae (k:=1) (s12.dat h1)) (aM (k:=1) (ae (k:=0) (s12.dat h0)) ah rfl) (dF okc)) ah (by decide)) λv H3 s3 q=>post v H3 (s12.trans s3) q
 | high j =>
  have h0:Dat K H (.tup [.str "high",.int j]) v0:=h0
  have okc:=of_decide_eq_true okc
  refine aA (K:=K) (b:=false) (aV (bI (ae (k:=0) h0))) (λc=>nomatch c) (λ_ H1 s1=>?_)
  refine aA (K:=K) (b:=false) (RT.as (au (aR (aM (k:=0) (ae (k:=0) (s1.dat h0)) ah rfl) av)) (decide_eq_false (by decide +kernel))) (λc=>nomatch c) (λ_ H2 s2=>?_)
  have s12:=s1.trans s2
  refine aA (K:=K) (b:=true) (RT.as (au (aR (aM (k:=0) (ae (k:=0) (s12.dat h0)) ah rfl) av)) (decide_eq_true rfl)) (λ_ H3 s3=>?_) (λc=>nomatch c)
  have s13:=s12.trans s3
  exact aP (K:=K) (d:=.int (nums.getD j 0 / 100)) (vC (aM (k:=j) (ae (k:=1) (s13.dat h1)) (aM (k:=1) (ae (k:=0) (s13.dat h0)) ah rfl) (dF okc)) ah ⟨by decide,by decide⟩) λv H4 s4 q=>post v H4 (s13.trans s4) q
 | arg j =>
  have h0:Dat K H (.tup [.str "arg",.int j]) v0:=h0
  have okc:=of_decide_eq_true okc
  refine aA (K:=K) (b:=false) (aV (bI (ae (k:=0) h0))) (λc=>nomatch c) (λ_ H1 s1=>?_)
  refine aA (K:=K) (b:=false) (RT.as (au (aR (aM (k:=0) (ae (k:=0) (s1.dat h0)) ah rfl) av)) (decide_eq_false (by decide +kernel))) (λc=>nomatch c) (λ_ H2 s2=>?_)
  have s12:=s1.trans s2
  refine aA (K:=K) (b:=false) (RT.as (au (aR (aM (k:=0) (ae (k:=0) (s12.dat h0)) ah rfl) av)) (decide_eq_false (by decide +kernel))) (λc=>nomatch c) (λ_ H3 s3=>?_)
  have s13:=s12.trans s3
  exact aP (K:=K) (d:=.int (ks.getD j 0)) (aM (k:=j) (ae (k:=2) (s13.dat h2)) (aM (k:=1) (ae (k:=0) (s13.dat h0)) ah rfl) (dF okc)) λv H4 s4 q=>post v H4 (s13.trans s4) q
def aZ:Pa->Nat
 | .two _ a b=>1+max (aZ a) (aZ b)
 | _=>1
def okF (nh ng ns:Nat):Pa->Bool
 | .hole i=>decide (0≤i) && decide (i.toNat < nh)
 | .gap i _=>decide (0≤i) && decide (i.toNat < ng)
 | .slot i=>decide (0≤i) && decide (i.toNat < ns)
 | .num _=>true
 | .two o a b=>(decide (o="add") || decide (o="sub") || decide (o="mul") || decide (o="less")) && (okF nh ng ns a && okF nh ng ns b)
def fpT (hs nums ks:List Int):Pa->Tr
 | .hole i=>.num (hs.getD i.toNat 0)
 | .gap i _=>.num (nums.getD i.toNat 0)
 | .slot i=>.arg (ks.getD i.toNat 0)
 | .num n=>.num n
 | .two o a b=>.two o (fpT hs nums ks a) (fpT hs nums ks b)
abbrev qw (hs nums ks as:List Int):D:=.tup [.tup (hs.map D.int),.tup (nums.map D.int),.tup (ks.map D.int),.tup (as.map D.int)]
def Rfp (n:Nat) (ds:List D) (d:D):Prop:=∃ (p:Pa) (hs nums ks as:List Int),ds=[toP p,qw hs nums ks as]/\okF hs.length nums.length ks.length p=true/\aZ p≤n/\d=toD (fpT hs nums ks p)
theorem eJ {l m:Nat} {g:D} (h:RE K te σ H (.tup [d,e,f,g])) (q:∀ v w x y H',Same H H'->Dat K H' d v->Dat K H' e w->Dat K H' f x->Dat K H' g y->us En ((((σ.set i (some v)).set j (some w)).set l (some x)).set m (some y)) H') :
  jZ (jY te (pq K 4 (fK (bq i) (fK (bq j) (fK (bq l) (fK (bq m) sS)))))) us En σ H :=
 h.use λx H1 s1 q1=>by
  obtain ⟨a,vs,e1,hq,hd⟩:=q1.tupE
  obtain ⟨v,w,x,y,e2,hv,hw,hx,hy⟩:=xQ hd
  subst e1 e2
  exact ⟨a,_,rfl,hq,rfl,v,_,rfl,w,_,rfl,x,_,rfl,y,_,rfl,rfl,q v w x y H1 s1 hv hw hx hy⟩
theorem ik {i:Int} (h:(decide (0≤i) && decide (i.toNat < n))=true):i=((i.toNat:Nat):Int)/\i.toNat < n:=by
 rw [Bool.and_eq_true] at h
 have h0:=of_decide_eq_true h.1
 exact ⟨by omega,of_decide_eq_true h.2⟩
theorem nJ (h:(decide (o="add") || decide (o="sub") || decide (o="mul") || decide (o="less"))=true):o="add"\/o="sub"\/o="mul"\/o="less":=by
 simp only [Bool.or_eq_true,decide_eq_true_eq] at h
 rcases h with ((h | h) | h) | h
 ·exact .inl h
 ·exact .inr (.inl h)
 ·exact .inr (.inr (.inl h))
 ·exact .inr (.inr (.inr h))
theorem zQ (h:o="add"\/o="sub"\/o="mul"\/o="less"):¬ o="hole"/\¬ o="gap"/\¬ o="slot"/\¬ o="num":=by
 rcases h with rfl | rfl | rfl | rfl <;> decide +kernel
theorem kj (T:Txt P w K mg) (FD:FnOk P w K mg base CX0 k T.D7 T.D9 ["pattern","trial"] (spD K (Rfp n))):FnOk P w K mg base CX0 (k+1) T.D7 T.D9 ["pattern","trial"] (spD K (Rfp (n+1))):=by
 refine T.Er.ok sc_filled_pattern (λvs H Q E h=>?_) (λcdv A outer s H vs Q E hr h=>?_)
 ·obtain ⟨ds,d,hd,⟨p,hs,nums,ks,as,rfl,_⟩,_⟩:=h;exact hd.length.symm
 have nd:=sc_filled_pattern.nd
 obtain ⟨ds,d,hd,⟨p,hs,nums,ks,as,rfl,okp,dp,rfl⟩,post⟩:=h
 obtain ⟨v0,v1,rfl,h0,h1⟩:=gy hd
 refine ⟨_,(ak (ba (i:=2) nd rfl (Or.inl rfl) (aN aI (pv 0) aj (λ_ _=>rfl)))
 (ak (eX (pv 1) (fH rfl (aW (aH (i:=3) nd rfl (Or.inl rfl)) (aW (aH (i:=4) nd rfl (Or.inl rfl)) (aW (aH (i:=5) nd rfl (Or.inl rfl)) (aW (aH (i:=6) nd rfl (Or.inl rfl)) dX))))))
 (ak (aT (az bK (pv 2) aw (aJ _)) (aq (aE (aC (ag aw (ag (aN aI (pv 3) (aN aI (pv 0) aj (λ_ _=>rfl)) (λ_ _=>rfl)) af))))) aF)
 (ak (aT (az bK (pv 2) aw (aJ _)) (aq (aE (aC (ag aw (ag (aN aI (pv 4) (aN aI (pv 0) aj (λ_ _=>rfl)) (λ_ _=>rfl)) af))))) aF)
 (ak (aT (az bK (pv 2) aw (aJ _)) (aq (aE (aC (ag aw (ag (aN aI (pv 5) (aN aI (pv 0) aj (λ_ _=>rfl)) (λ_ _=>rfl)) af))))) aF)
 (ak (aT (az bK (pv 2) aw (aJ _)) (aq (aE (pv 0))) aF)
 (aq (aE (aC (ag (pv 2) (ag (aD FD hr rfl T.FG T.Er.kp (eT T) .nil aQ (ag (aN aI (pv 0) aj (λ_ _=>rfl)) (ag (pv 1) af))) (ag (aD FD hr rfl T.FG T.Er.kp (eT T) .nil aQ (ag (aN aI (pv 0) aj (λ_ _=>rfl)) (ag (pv 1) af))) af)))))))))))),?_⟩
 cases p with
 | hole i =>
  have h0:Dat K H (.tup [.str "hole",.int i]) v0:=h0
  refine bL (K:=K) (d:=.str "hole") (aM (k:=0) (ae (k:=0) h0) ah rfl) λv2 H1 s1 q2=>?_
  refine eJ (K:=K) (ae (k:=1) (s1.dat h1)) λv3 v4 v5 v6 H2 s2 q3 q4 q5 q6=>?_
  refine aA (K:=K) (b:=true) (RT.as (au (aR (ae (k:=2) (s2.dat q2)) av)) (decide_eq_true rfl)) (λ_ H3 t3=>?_) (λc=>nomatch c)
  have s3:=s2.trans t3
  have u3:=t3
  obtain ⟨ei,hi⟩:=ik okp
  have h0':=(s1.trans s3).dat h0
  rw [ei] at h0'
  exact aP (K:=K) (d:=toD (fpT hs nums ks (.hole i))) (aB (aa av (aa (aM (k:=i.toNat) (ae (k:=3) (u3.dat q3)) (aM (k:=1) (ae (k:=0) h0') ah rfl) (dF hi)) ao))) λv H' s q=>post v H' (s1.trans (s3.trans s)) q
 | gap i m =>
  have h0:Dat K H (.tup [.str "gap",.int i,.int m]) v0:=h0
  refine bL (K:=K) (d:=.str "gap") (aM (k:=0) (ae (k:=0) h0) ah rfl) λv2 H1 s1 q2=>?_
  refine eJ (K:=K) (ae (k:=1) (s1.dat h1)) λv3 v4 v5 v6 H2 s2 q3 q4 q5 q6=>?_
  refine aA (K:=K) (b:=false) (RT.as (au (aR (ae (k:=2) (s2.dat q2)) av)) (decide_eq_false (by decide +kernel))) (λc=>nomatch c) (λ_ H3 t3=>?_)
  have s3:=s2.trans t3
  have u3:=t3
  refine aA (K:=K) (b:=true) (RT.as (au (aR (ae (k:=2) (s3.dat q2)) av)) (decide_eq_true rfl)) (λ_ H4 t4=>?_) (λc=>nomatch c)
  have s4:=s3.trans t4
  have u4:=u3.trans t4
  obtain ⟨ei,hi⟩:=ik okp
  have h0':=(s1.trans s4).dat h0
  rw [ei] at h0'
  exact aP (K:=K) (d:=toD (fpT hs nums ks (.gap i m))) (aB (aa av (aa (aM (k:=i.toNat) (ae (k:=4) (u4.dat q4)) (aM (k:=1) (ae (k:=0) h0') ah rfl) (dF hi)) ao))) λv H' s q=>post v H' (s1.trans (s4.trans s)) q
 | slot i =>
  have h0:Dat K H (.tup [.str "slot",.int i]) v0:=h0
  refine bL (K:=K) (d:=.str "slot") (aM (k:=0) (ae (k:=0) h0) ah rfl) λv2 H1 s1 q2=>?_
  refine eJ (K:=K) (ae (k:=1) (s1.dat h1)) λv3 v4 v5 v6 H2 s2 q3 q4 q5 q6=>?_
  refine aA (K:=K) (b:=false) (RT.as (au (aR (ae (k:=2) (s2.dat q2)) av)) (decide_eq_false (by decide +kernel))) (λc=>nomatch c) (λ_ H3 t3=>?_)
  have s3:=s2.trans t3
  have u3:=t3
  refine aA (K:=K) (b:=false) (RT.as (au (aR (ae (k:=2) (s3.dat q2)) av)) (decide_eq_false (by decide +kernel))) (λc=>nomatch c) (λ_ H4 t4=>?_)
  have s4:=s3.trans t4
  have u4:=u3.trans t4
  refine aA (K:=K) (b:=true) (RT.as (au (aR (ae (k:=2) (s4.dat q2)) av)) (decide_eq_true rfl)) (λ_ H5 t5=>?_) (λc=>nomatch c)
  have s5:=s4.trans t5
  have u5:=u4.trans t5
  obtain ⟨ei,hi⟩:=ik okp
  have h0':=(s1.trans s5).dat h0
  rw [ei] at h0'
  exact aP (K:=K) (d:=toD (fpT hs nums ks (.slot i))) (aB (aa av (aa (aM (k:=i.toNat) (ae (k:=5) (u5.dat q5)) (aM (k:=1) (ae (k:=0) h0') ah rfl) (dF hi)) ao))) λv H' s q=>post v H' (s1.trans (s5.trans s)) q
 | num n =>
  have h0:Dat K H (.tup [.str "num",.int n]) v0:=h0
  refine bL (K:=K) (d:=.str "num") (aM (k:=0) (ae (k:=0) h0) ah rfl) λv2 H1 s1 q2=>?_
  refine eJ (K:=K) (ae (k:=1) (s1.dat h1)) λv3 v4 v5 v6 H2 s2 q3 q4 q5 q6=>?_
  refine aA (K:=K) (b:=false) (RT.as (au (aR (ae (k:=2) (s2.dat q2)) av)) (decide_eq_false (by decide +kernel))) (λc=>nomatch c) (λ_ H3 t3=>?_)
  have s3:=s2.trans t3
  have u3:=t3
  refine aA (K:=K) (b:=false) (RT.as (au (aR (ae (k:=2) (s3.dat q2)) av)) (decide_eq_false (by decide +kernel))) (λc=>nomatch c) (λ_ H4 t4=>?_)
  have s4:=s3.trans t4
  have u4:=u3.trans t4
  refine aA (K:=K) (b:=false) (RT.as (au (aR (ae (k:=2) (s4.dat q2)) av)) (decide_eq_false (by decide +kernel))) (λc=>nomatch c) (λ_ H5 t5=>?_)
  have s5:=s4.trans t5
  have u5:=u4.trans t5
  refine aA (K:=K) (b:=true) (RT.as (au (aR (ae (k:=2) (s5.dat q2)) av)) (decide_eq_true rfl)) (λ_ H6 t6=>?_) (λc=>nomatch c)
  have s6:=s5.trans t6
  have u6:=u5.trans t6
  exact aP (K:=K) (d:=toD (.num n)) (ae (k:=0) ((s1.trans s6).dat h0)) λv H' s q=>post v H' (s1.trans (s6.trans s)) q
 | two o a b =>
  have okp:((decide (o="add") || decide (o="sub") || decide (o="mul") || decide (o="less")) && (okF hs.length nums.length ks.length a && okF hs.length nums.length ks.length b))=true:=okp
  rw [Bool.and_eq_true,Bool.and_eq_true] at okp
  obtain ⟨n1,n2,n3,n4⟩:=zQ (nJ okp.1)
  have dp:1+max (aZ a) (aZ b)≤n+1:=dp
  have h0:Dat K H (.tup [.str o,toP a,toP b]) v0:=h0
  refine bL (K:=K) (d:=.str o) (aM (k:=0) (ae (k:=0) h0) ah rfl) λv2 H1 s1 q2=>?_
  refine eJ (K:=K) (ae (k:=1) (s1.dat h1)) λv3 v4 v5 v6 H2 s2 q3 q4 q5 q6=>?_
  refine aA (K:=K) (b:=false) (RT.as (au (aR (ae (k:=2) (s2.dat q2)) av)) (decide_eq_false n1)) (λc=>nomatch c) (λ_ H3 t3=>?_)
  have s3:=s2.trans t3
  have u3:=t3
  refine aA (K:=K) (b:=false) (RT.as (au (aR (ae (k:=2) (s3.dat q2)) av)) (decide_eq_false n2)) (λc=>nomatch c) (λ_ H4 t4=>?_)
  have s4:=s3.trans t4
  have u4:=u3.trans t4
  refine aA (K:=K) (b:=false) (RT.as (au (aR (ae (k:=2) (s4.dat q2)) av)) (decide_eq_false n3)) (λc=>nomatch c) (λ_ H5 t5=>?_)
  have s5:=s4.trans t5
  have u5:=u4.trans t5
  refine aA (K:=K) (b:=false) (RT.as (au (aR (ae (k:=2) (s5.dat q2)) av)) (decide_eq_false n4)) (λc=>nomatch c) (λ_ H6 t6=>?_)
  have s6:=s5.trans t6
  have u6:=u5.trans t6
  have h0':=(s1.trans s6).dat h0
  have h1':=(s1.trans s6).dat h1
  exact aP (K:=K) (d:=toD (.two o (fpT hs nums ks a) (fpT hs nums ks b))) (aB (aa (ae (k:=2) (s6.dat q2)) (aa (aS (R:=Rfp n) (aa (aM (k:=1) (ae (k:=0) h0') ah rfl) (aa (ae (k:=1) h1') ao)) ⟨a,hs,nums,ks,as,rfl,okp.2.1,by omega,rfl⟩) (aa (aS (R:=Rfp n) (aa (aM (k:=2) (ae (k:=0) h0') ah rfl) (aa (ae (k:=1) h1') ao)) ⟨b,hs,nums,ks,as,rfl,okp.2.2,by omega,rfl⟩) ao)))) λv H' s q=>post v H' (s1.trans (s6.trans s)) q
theorem Al (ds:List D) (d:D):¬ Rfp 0 ds d:=λ⟨p,_,_,_,_,_,_,h,_⟩=>by cases p <;> simp only [aZ] at h <;> omega
variable {ta tb:TE}
theorem Bz {tt:TT} {b:Bool} (h:RT tt σ H b) (h1:b=true->RC K ta σ H es) (h2:b=false->RC K tb σ H es):RC K (tIf tt ta tb) σ H es:=λH1 s Q q =>
 (h.mono s).use λH' s'=>by
  cases b with
  | true=>exact jQ (h1 rfl H' (s.trans s') Q λl ys H2 hl s2=>q l ys H2 (s'.free hl) (s'.trans s2))
  | false=>exact jP (h2 rfl H' (s.trans s') Q λl ys H2 hl s2=>q l ys H2 (s'.free hl) (s'.trans s2))
theorem vW (ys:List Int):(ys.map V.int).all jD=true:=by
 rw [List.all_eq_true]
 intro v hv
 obtain ⟨y,_,rfl⟩:=List.mem_map.mp hv
 rfl
theorem Ai (x y:Int):eqV (.int x) (.int y)=decide (x=y):=by
 unfold eqV
 by_cases h:x=y <;> simp [h]
theorem uX (x:Int):∀ ys:List Int,inV (.int x) (ys.map V.int)=decide (x ∈ ys)
 | []=>by simp [inV]
 | y::ys=>by
  have ih:=uX x ys
  unfold inV at ih ⊢
  rw [List.map_cons,List.any_cons,ih,Ai]
  by_cases h:y=x
  ·subst h;simp
  ·have h':¬ x=y:=λz=>h z.symm
   simp [h,h']
theorem nq {x:Int} {ys:List Int} (h1:RE K ta σ H (.int x)) (h2:RE K tb σ H (.tup (ys.map D.int))):RE K (tOp (rIn K false) ta tb) σ H (.bl (decide (x ∈ ys))):=λH1 s Q q =>
 h1 H1 s _ λv H2 s2 q2=>h2 H2 (s.trans s2) _ λw H3 s3 q3=>by
  obtain ⟨a,vs,ev,hq,hd⟩:=q3.tupE
  have e:=j9 hd
  subst e
  rw [q2.intE]
  refine ⟨a,_,ev,.inr hq,rfl,vW ys,?_⟩
  rw [uX]
  exact q _ _ (s2.trans s3) (Dat.blI _)
abbrev tI (xs:List Int):D:=.tup (xs.map D.int)
def gj (rows:List (List Int)) (some:List Int):List (List Int):=rows.flatMap λr=>some.map λx=>r++[x]
def bg (css:List (List Int)):List (List Int):=css.foldl gj [[]]
theorem oQ (css:List (List Int)) (c:List Int):bg (css++[c])=gj (bg css) c:=by
 unfold bg
 rw [List.foldl_append]
 rfl
theorem qT:∀ (css:List (List Int)) (rs:List (List Int)) (n:Nat),(∀ r ∈ rs,r.length=n)->∀ r ∈ css.foldl gj rs,r.length=n+css.length
 | [],rs,n,h,r,hr=>h r hr
 | c::css,rs,n,h,r,hr=>by
  have:=qT css (gj rs c) (n+1) (λr hr=>by
   obtain ⟨r0,h0,h1⟩:=List.mem_flatMap.mp hr
   obtain ⟨x,_,rfl⟩:=List.mem_map.mp h1
   rw [List.length_append,h r0 h0]
   rfl) r hr
  rw [this,List.length_cons]
  omega
theorem fD (css:List (List Int)):∀ r ∈ bg css,r.length=css.length:=λr hr=>by
 have:=qT css [[]] 0 (λr h=>by rw [List.mem_singleton.mp h];rfl) r hr
 omega
def il (css:List (List Int)):Prop:=css.length≤20/\∀ i,i < css.length->(bg (css.take i)).length * (css.getD i []).length≤1000
def C3:D->D->D
 | .tup a,e=>.tup (a++[e])
 | d,_=>d
theorem xN (rows:List (List Int)) (some:List Int):((rows.map tI).flatMap λc=>(some.map D.int).map (C3 c))=(gj rows some).map tI:=by
 unfold gj
 rw [List.flatMap_map,List.map_flatMap]
 congr 1
 funext r
 rw [List.map_map,List.map_map]
 apply List.map_congr_left
 intro x _
 show D.tup (r.map D.int++[D.int x])=D.tup ((r++[x]).map D.int)
 rw [List.map_append]
 rfl
def iF (K:PySem.W.Frag):Sp:=λvs H Q _=>∃ (a:Addr) (us:List V) (css:List (List Int)),vs=[.ref a]/\SqL K H a us/\LDs K H (css.map (·.map D.int)) us/\il css/\∀ r ys H',Same H H'->H' r=some (.lst ys)->H r=none->Dats K H' ((bg css).map tI) ys->Q (.ref r) H'
theorem tO (T:Txt P w K mg)  : FnOk P w K mg base CX0 (k+1) T.Hy T.Hz ["choices"] (iF K):=by
 refine T.GJ.ok sc_rows_of (λvs H Q E h=>?_) (λcdv A outer s H vs Q E hr h=>?_)
 ·obtain ⟨a,us,css,rfl,_⟩:=h;rfl
 have nd:=sc_rows_of.nd
 obtain ⟨a,us,css,rfl,hq,hL,⟨h20,hok⟩,post⟩:=h
 refine ⟨_,(ak (ba (i:=1) nd rfl (Or.inl rfl) (bu (ag (aC af) af)))
 (ak (dM PassesOwn.never rfl (b0 (pv 0)) (aH (i:=2) nd rfl (Or.inr rfl)) (aq (rL (i:=1) (own:=["row","one"]) (fr:=[2]) (N':=["row","one","some"]) (b0 (pv 1)) rfl (by show cR ["choices","rows","some"] (λx=>(ax hV).names.lookup x) _ _ _ _=true;decide +kernel) rfl (λ_ _ _ _ _=>(aH (i:=0) (by show List.Nodup [("row":Str),("one":Str),("some":Str)];decide +kernel) rfl (Or.inl rfl))) (λ_ _ _ _ _=>(yO (K:=K) rfl (pv 2))) (λ_ _ _ _ _=>(aH (i:=1) (by show List.Nodup [("row":Str),("one":Str),("some":Str)];decide +kernel) rfl (Or.inl rfl))) (λ_ _ _ _ _=>(aU (r:=rO K) pS (pv 0) (aC (ag (pv 1) af)))) nd rfl rfl rfl)))
 (aq (aE (pv 1))))),?_⟩
 have ll:=hL.length
 rw [List.length_map] at ll
 refine dY (K:=K) (es:=[.tup []]) (bw (aa (aB ao) ao)) λl ys H1 nl s1 hy dy=>?_
 refine bX ⟨_,rfl,a,rfl,⟨us,s1.seq hq⟩,kb (K:=K) (a:=a) (xs:=us) (λi σ G=>∃ (z:Option V) (l:Addr) (ys:List V),σ=[some (.ref a),some (.ref l),z]/\Same H G/\H l=none/\G l=some (.lst ys)/\Dats K G ((bg (css.take i)).map tI) ys) ?_ ?_ ?_ ?_⟩
 ·exact ⟨none,l,ys,rfl,s1,nl,hy,dy⟩
 ·rintro i σ G hi ⟨z,l,ys,rfl,sG,nl,hy,dy⟩
  exact sG.seq hq
 ·rintro i x σ G hx ⟨z,l,ys,rfl,sG,nl,hy,dy⟩
  have hi:i < us.length:=(List.getElem?_eq_some_iff.mp hx).1
  have hic:i < css.length:=by omega
  obtain ⟨v,hv,hld⟩:=(sG.lds hL).get (i:=i) (es:=css[i].map D.int) (by rw [List.getElem?_map,List.getElem?_eq_getElem hic];rfl)
  rw [hx] at hv
  cases hv
  refine dj ?_
  dsimp only
  have eg:css.getD i []=css[i]:=by rw [List.getD_eq_getElem?_getD,List.getElem?_eq_getElem hic];rfl
  have hm:=hok i hic
  rw [eg] at hm
  refine RC.use (K:=K) (Cv (K:=K) (i:=0) (j:=1) (kk:=2) (cs:=(bg (css.take i)).map tI) (es:=css[i].map D.int) C3 (bW (k:=1) (LD.of hy dy)) hld rfl (by decide) (by decide) (by decide) (by rw [List.length_map,List.length_map];exact hm) rfl rfl (λG c v e w sG' hc he hcv hew=>?_)) λl2 ys2 G2 nl2 s2 hy2 dy2=>?_
  ·obtain ⟨r,hr,rfl⟩:=List.mem_map.mp hc
   obtain ⟨y,hy3,rfl⟩:=List.mem_map.mp he
   have lr:=fD _ r hr
   rw [List.length_take] at lr
   exact qf (ae (k:=0) hcv) (aB (aa (ae (k:=1) hew) ao)) (by rw [List.length_map,List.length_cons,List.length_nil];omega)
  ·refine ⟨some x,l2,ys2,rfl,sG.trans s2,sG.free nl2,hy2,?_⟩
   rw [xN,← oQ] at dy2
   rw [List.take_add_one,List.getElem?_eq_getElem hic]
   exact dy2
 ·rintro σ G ⟨z,l,ys,rfl,sG,nl,hy,dy⟩
  rw [← ll,List.take_length] at dy
  exact ⟨_,rfl,post l ys G sG hy nl dy⟩
def gm (ks:List Int) (b:Nat):List (List Int):=(List.range 4).map λk:Nat=>if (k:Int) ∈ ks then (List.range b).map λi:Nat=>(i:Int) else [0]
def sr (ds es:List D):Prop:=∃ (ks:List Int) (b:Nat),ds=[.tup (ks.map D.int),.int b]/\b≤1000/\il (gm ks b)/\es=(bg (gm ks b)).map tI
theorem rf (T:Txt P w K mg) (Ii:FnOk P w K mg base CX0 k T.Hy T.Hz ["choices"] (iF K)):FnOk P w K mg base CX0 (k+1) T.HE T.HH ["ks","size"] (fU K sr):=by
 refine T.IB.ok sc_args_for (λvs H Q E h=>?_) (λcdv A outer s H vs Q E hr h=>?_)
 ·obtain ⟨ds,es,hd,⟨ks,b,rfl,_⟩,_⟩:=h;exact hd.length.symm
 have nd:=sc_args_for.nd
 obtain ⟨ds,es,hd,⟨ks,b,rfl,hb,hok,rfl⟩,post⟩:=h
 obtain ⟨v0,v1,rfl,h0,h1⟩:=gy hd
 refine ⟨_,(aq (aE (aD Ii hr rfl T.Iy T.GJ.kp (jm T) .nil aQ (ag (cZ (own:=["k"]) (fr:=[0,1]) (N':=["k","ks","size"]) (jq rfl T.Hw (ag (bj (v:=.int 4) rfl T.Fz ⟨_,rfl⟩) af)) rfl (by show cR ["ks","size"] (λx=>(ax gi).names.lookup x) _ _ _ _=true;decide +kernel) rfl (λ_ _ _ _ _=>(aH (i:=0) (by show List.Nodup [("k":Str),("ks":Str),("size":Str)];decide +kernel) rfl (Or.inl rfl))) (λ_ _ _ _ _=>cn) (λ_ _ _ _ _=>(cN (az (show OpR _ _ (rIn K false) from cC) (pv 0) (pv 1) (by with_unfolding_all rfl)) (cv (fe rfl) rfl T.IH ie (ag (cv j5 rfl T.Hw j3 (ag (pv 2) af)) af)) (bu (ag aj af))))) af)))),?_⟩
 refine hE (zb (zc (RCL.use (K:=K) (AX (n:=4) (aa ah ao) (by decide) ((gm ks b).map (·.map D.int)) (by unfold gm;rw [List.length_map,List.length_map,List.length_range]) rfl (λG i es sG he=>?_)) λl us H1 nl s1 hy dL=>?_)))
 ·unfold gm at he
  rw [List.getElem?_map,List.getElem?_map] at he
  obtain ⟨c,hc,rfl⟩:=Option.map_eq_some_iff.mp he
  obtain ⟨k',hk,rfl⟩:=Option.map_eq_some_iff.mp hc
  have hk4:i < 4:=by have:=(List.getElem?_eq_some_iff.mp hk).1;rwa [List.length_range] at this
  rw [List.getElem?_range hk4] at hk
  cases hk
  refine Bz (b:=decide ((i:Int) ∈ ks)) (au (nq (ae (k:=0) (Dat.intI (i:Int))) (ae (k:=1) (sG.dat h0)))) (λc=>?_) (λc=>?_)
  ·rw [if_pos (of_decide_eq_true c)]
   refine RC.as (ix (n:=b) (ae (k:=2) (sG.dat h1)) hb) ?_
   rw [List.map_map]
   rfl
  ·rw [if_neg (of_decide_eq_false c)]
   exact bw (aa ah ao)
 ·exact ⟨l,us,gm ks b,rfl,SqL.of hy,dL,hok,λr ys H' s' hr nr dr=>post r ys H' (s1.trans s') hr (s1.free nr) dr⟩
section
variable {mc:MC} {st s:MS} {nm:Str} {num on:Nat}
theorem CU {p:Nat × MS} (o:gq mc st) (h:lN nm num on st=some p):gq mc p.2/\p.2.ended=st.ended:=by
 unfold lN at h
 split at h
 ·cases h;exact ⟨o,rfl⟩
 ·split at h
  ·obtain ⟨q,hq,e⟩:=Option.map_eq_some_iff.mp h
   cases e
   exact ⟨(km o hq).1,(jw hq).2.2.2⟩
  ·split at h
   ·split at h
    ·cases h
    ·rename_i hl
     cases h
     have:=o.k
     exact ⟨⟨o.p,o.l,by show st.kept.length+1≤16;omega⟩,rfl⟩
   ·split at h
    ·cases h
    ·rename_i k r e
     cases h
     have:=o.k
     rw [e,List.length_cons] at this
     exact ⟨⟨o.p,o.l,by show r.length≤16;omega⟩,rfl⟩
theorem BX (b2:2≤mc.b) (o:gq mc st) (h:cY mc nm num st=some s):gq mc s/\s.ended=st.ended:=by
 have pu:∀ {n:Int} {a b:MS},gq mc a->bt mc n a=some b->gq mc b/\b.ended=a.ended:=λoa hb=>⟨pR b2 oa hb,(lT hb).2.2.2.2⟩
 have tk:∀ {p:Int × MS} {a:MS},gq mc a->cQ a=some p->gq mc p.2/\p.2.ended=a.ended:=λoa hb=>⟨(km oa hb).1,(jw hb).2.2.2⟩
 unfold cY at h
 split at h
 ·exact pu o h
 ·split at h
  ·exact pu o h
  ·obtain ⟨u,hu,h⟩:=Option.bind_eq_some_iff.mp h
   obtain ⟨ou,eu⟩:=tk o hu
   split at h
   ·obtain ⟨a,b⟩:=pu ou h;exact ⟨a,b.trans eu⟩
   ·split at h
    ·obtain ⟨s1,h1,h2⟩:=Option.bind_eq_some_iff.mp h
     obtain ⟨o1,e1⟩:=pu ou h1
     obtain ⟨a,b⟩:=pu o1 h2
     exact ⟨a,b.trans (e1.trans eu)⟩
    ·split at h
     ·obtain ⟨l,hl,h⟩:=Option.bind_eq_some_iff.mp h
      obtain ⟨ol,el⟩:=tk ou hl
      obtain ⟨s1,h1,h2⟩:=Option.bind_eq_some_iff.mp h
      obtain ⟨o1,e1⟩:=pu ol h1
      obtain ⟨a,b⟩:=pu o1 h2
      exact ⟨a,b.trans (e1.trans (el.trans eu))⟩
     ·obtain ⟨l,hl,h⟩:=Option.bind_eq_some_iff.mp h
      obtain ⟨ol,el⟩:=tk ou hl
      obtain ⟨a,b⟩:=pu ol h
      exact ⟨a,b.trans (el.trans eu)⟩
theorem vH (oc:tF mc) (o:gq mc st) (h:fN mc st=some s):gq mc s/\(st.ended=false->s.ended=true->s.pile.length=1):=by
 unfold fN at h
 split at h
 ·cases h
 ·split at h
  ·cases h
  ·split at h
   ·cases h
   ·unfold doM at h
    split at h
    ·obtain ⟨p,hp,e⟩:=Option.map_eq_some_iff.mp h
     cases e
     obtain ⟨a,b⟩:=CU o hp
     exact ⟨⟨a.p,a.l,a.k⟩,λz w=>by rw [show p.2.ended=true from w,z] at b;cases b⟩
    ·split at h
     ·obtain ⟨p,hp,e⟩:=Option.map_eq_some_iff.mp h
      cases e
      unfold jn at hp
      split at hp
      ·rename_i hl
       cases hp
       exact ⟨⟨o.p,o.l,o.k⟩,λ_ _=>hl⟩
      ·cases hp
     ·obtain ⟨p,hp,e⟩:=Option.map_eq_some_iff.mp h
      cases e
      obtain ⟨a,b⟩:=BX oc.b2 o hp
      exact ⟨⟨a.p,a.l,a.k⟩,λz w=>by rw [show p.ended=true from w,z] at b;cases b⟩
end
variable {G G':Hp}
theorem oA (s:Same H G) (b:ButM A G G') (h1:H A.m=none) (h2:H A.lp=none) (h3:H A.lk=none):Same H G':=λx o e =>
 b x o (λz=>by rw [z,h1] at e;cases e) (λz=>by rw [z,h2] at e;cases e) (λz=>by rw [z,h3] at e;cases e) (s x o e)
theorem sh {c:TT} {tb:TS} (Pv:Nat->L2.St->Hp->Prop) (n:Nat) (h0:Pv n σ H)
  (hs:∀ n σ H,Pv n σ H->∃ b,RT c σ H b/\∀ H1,Same H H1->if b=true then tb { En with nx:=λσ' H'=>∃ m,m < n/\Pv m σ' H',ct:=λσ' H'=>∃ m,m < n/\Pv m σ' H',bk:=En.nx } σ H1 else En.nx σ H1):qs c tb En σ H:=by
 refine ⟨Pv,⟨_,h0⟩,?_⟩
 intro m σ H p
 obtain ⟨b,hb,q⟩:=hs m σ H p
 refine hb H (Same.refl _) _ λH1 s=>?_
 have z:=q H1 s
 cases b with
 | true=>exact ⟨_,λσ' H' h=>h,z⟩
 | false=>exact z
def goK (mc:MC):Nat->MS->Option (Option MS)
 | 0,_=>none
 | n+1,st=>if st.place < mc.cs.length then (match fN mc st with
  | none=>some none
  | some s=>goK mc n s) else some (some st)
def mK (w:Int):Option MS->Bool
 | none=>false
 | some st=>eqDs (st.pile.reverse.map D.int) [.int 1,.int w]
abbrev gd (nm:D) (pt:Pa) (cl:List Cl):D:=.tup [nm,toP pt,.tup (cl.map clD)]
structure lR (pt:Pa) (cl:List Cl) (hs nums ks as:List Int) (b:Int):Prop where
 f:okF hs.length nums.length ks.length pt=true
 dp:aZ pt≤3
 t:okT (fpT hs nums ks pt)
 dt:dB (fpT hs nums ks pt)≤8
 c:∀ c ∈ cl,mq nums.length ks.length c=true
 l:cl.length≤12
 m:tF ⟨cl.map (cK nums ks),as,b⟩
 s:gq ⟨cl.map (cK nums ks),as,b⟩ ⟨(1::hs).reverse,0,[],false⟩
def xn (ds:List D) (d:D):Prop:=∃ (nm:D) (pt:Pa) (cl:List Cl) (hs nums ks as:List Int) (b:Int) (r:Option MS),ds=[gd nm pt cl,qw hs nums ks as,.int b]/\lR pt cl hs nums ks as b /\
 goK ⟨cl.map (cK nums ks),as,b⟩ 20 ⟨(1::hs).reverse,0,[],false⟩=some r/\d=.bl (mK (bJ as b (fpT hs nums ks pt)) r)
section
variable {ta tb:TE} {σ:L2.St} {H:Hp} {ds es:List D}
theorem AZ (h1:RL K ta σ H ds) (h2:RL K tb σ H es) (n:noLs ds=true) (n2:noLs es=true) (d:deepDs ds≤20):RE K (tOp (rP K false) ta tb) σ H (.bl (eqDs ds es)):=λH1 s Q q =>
 h1 H1 s _ λv H2 s2 q2=>h2 H2 (s.trans s2) _ λw H3 s3 q3=>by
  obtain ⟨a,xs,rfl,ha,da⟩:=s3.ld q2
  obtain ⟨b,ys,rfl,hb,db⟩:=q3
  exact ⟨a,b,xs,ys,ds,es,rfl,rfl,ha.sqL,hb.sqL,da,db,n,n2,d,q _ _ (s2.trans s3) (Dat.blI _)⟩
end
theorem yG (T:Txt P w K mg) (JI:FnOk P w K mg base CX0 (k+1) T.FN T.FU ["cell","nums","ks"] (spD K su)) (IX:FnOk P w K mg base CX0 k T.Eu T.Ey ["self","cells","given","size","pile"] (Dp K T.DR)) (Jz:FnOk P w K mg base (CX2 P w) (k+1) T.Fm T.Fq ["self"] (uo K T.DS T.DR)) (FD:FnOk P w K mg base CX0 (k+1) T.D7 T.D9 ["pattern","trial"] (spD K (Rfp 3))) (HC:FnOk P w K mg base CX0 (k+1) T.FX T.FY ["tree","args","size"] (spD K (jB 8))):FnOk P w K mg base CX0 (k+1+1) T.Jg T.Ji ["piece","trial","size"] (spD K xn):=by
 refine T.Jy.ok sc_keeps (λvs H Q E h=>?_) (λcdv A outer s H vs Q E hr h=>?_)
 ·obtain ⟨ds,d,hd,⟨nm,pt,cl,hs,nums,ks,as,b,r,rfl,_⟩,_⟩:=h;exact hd.length.symm
 have nd:=sc_keeps.nd
 obtain ⟨ds,d,hd,⟨nm,pt,cl,hs,nums,ks,as,b,r,rfl,ok,hgo,rfl⟩,post⟩:=h
 obtain ⟨v0,v1,v2,rfl,h0,h1,h2⟩:=kW hd
 obtain rfl:=h2.intE
 refine ⟨_,(ak (eX (pv 0) (fH rfl (aW (aH (i:=3) nd rfl (Or.inl rfl)) (aW (aH (i:=4) nd rfl (Or.inl rfl)) (aW (aH (i:=5) nd rfl (Or.inl rfl)) dX)))))
 (ak (eX (pv 1) (fH rfl (aW (aH (i:=6) nd rfl (Or.inl rfl)) (aW (aH (i:=7) nd rfl (Or.inr rfl)) (aW (aH (i:=8) nd rfl (Or.inr rfl)) (aW (aH (i:=9) nd rfl (Or.inl rfl)) dX))))))
 (ak (m7 (i:=10) (own:=["cell"]) (fr:=[7,8]) (N':=["cell","nums","ks"]) (jU (pv 5)) rfl (by show cR ["piece","trial","size","name","pattern","cells","holes","nums","ks","args","laid_cells","machine"] (λx=>(ax kx).names.lookup x) _ _ _ _=true;decide +kernel) rfl (λ_ _ _ _ _=>(aH (i:=0) (by show List.Nodup [("cell":Str),("nums":Str),("ks":Str)];decide +kernel) rfl (Or.inl rfl))) (λ_ _ _ _ _=>cn) (λ_ _ _ _ _=>(aD JI hr rfl T.IU T.GQ.kp (nQ T) .nil aQ (ag (pv 0) (ag (pv 1) (ag (pv 2) af))))) nd rfl rfl rfl)
 (ak (ba (i:=11) nd rfl (Or.inl rfl) (AK T.mk_Machine IX hr rfl T.HA (jK T) .nil aQ (ag (pv 10) (ag (pv 9) (ag (pv 2) (ag (aU kn (bu (ag (bj (v:=.int 1) rfl T.Ek ⟨_,rfl⟩) af)) (cv ig rfl T.IH ie (ag (pv 6) af))) af))))))
 (ak (yV (t:=λE=>qs (sg (tOp (rI0 λi j=>.bl (decide (i < j))) (kA K (cx 11) "place") (tCB (λxs H Q=>∃ p ys,xs=[.ref p]/\(SqL K H p ys\/SqT K H p ys)/\Q (.int ys.length) H) (bf (cx 10) cu)))) (lD (λσ=>oU T.DR "step" (uo K T.DS T.DR) [] (E σ) (cx 11) cu σ))) (λpn xe E hx ho=>(aq (m8 ho (az jE (cF (pv 11) rfl) (aO aL rfl T.Ei bH (ag (pv 10) af)) (aJ _)) (aq (aX (wD (pv 11) T.cl_Machine T.mt_Machine_step Jz hr (me T) .nil hx)))))) rfl T.EK (λe=>(aq (aE cV))))
 (aq (aE (iq (pT hr) (cF (pv 11) rfl) (bu (ag (bj (v:=.int 1) rfl T.Ek ⟨_,rfl⟩) (ag (aD HC hr rfl T.HR T.F0.kp (ic T) .nil aQ (ag (aD FD hr rfl T.FG T.Er.kp (eT T) .nil aQ (ag (pv 4) (ag (pv 1) af))) (ag (pv 9) (ag (pv 2) af)))) af))) (aJ _))))))))),?_⟩
 refine qk (K:=K) (d:=nm) (e:=toP pt) (f:=.tup (cl.map clD)) (ae (k:=0) h0) λv3 v4 v5 H1 s1 q3 q4 q5=>?_
 refine eJ (K:=K) (ae (k:=1) (s1.dat h1)) λv6 v7 v8 v9 H2 s2 q6 q7 q8 q9=>?_
 have hl:=ok.l
 refine dY (K:=K) (es:=(cl.map (cK nums ks)).map D.int) (tW (ae (k:=5) (s2.dat q5)) (by rw [List.length_map];omega) _ (by simp) rfl (λG i c v d sG hc hd hv=>?_)) λlc ys H3 nc s3 hc dc=>?_
 ·rw [List.getElem?_map] at hc
  obtain ⟨c0,hc0,rfl⟩:=Option.map_eq_some_iff.mp hc
  rw [List.getElem?_map,List.getElem?_map,hc0] at hd
  cases hd
  exact aS (R:=su) (aa (ae (k:=0) hv) (aa (ae (k:=1) (sG.dat q7)) (aa (ae (k:=2) (sG.dat q8)) ao))) ⟨c0,nums,ks,rfl,ok.c c0 (List.mem_of_getElem? hc0),rfl⟩
 obtain rfl:=j9 dc
 have s13:=s2.trans s3
 have sH3:=s1.trans s13
 have q6:=s3.dat q6
 have q9:=s3.dat q9
 refine fJ ⟨_,rfl,_,rfl,_,rfl,RC.use (K:=K) (kr (dJ (bw (aa ah ao))) (dJ (ni (ae (k:=6) q6))) (by have:=ok.s.l;rw [List.length_reverse,List.length_cons] at this;rw [List.length_map];simp only [List.length_cons,List.length_nil];omega)) λl0 y0 H4 nl0 s4 hy4 d4 x dx nx ndx hne=>?_⟩
 have s5:Same H4 (upd (upd H4 dx (.own x)) x (.ins T.DR dx [])):=(aG ndx _).trans (aG (by rw [aK (Ne.symm hne)];exact nx) _)
 have s45:=s4.trans s5
 have er:((1::hs).reverse.reverse.map D.int)=[D.int 1]++hs.map D.int:=by rw [List.reverse_reverse];rfl
 refine ⟨x,dx,lc,v9,.ref l0,⟨cl.map (cK nums ks),as,b⟩,(1::hs).reverse,rfl,ay,s45 _ _ hc,s45.dat q9,by rw [er];exact LD.of (s5 _ _ hy4) (s5.dats d4),by have:=ok.s.l;exact Nat.le_trans this (by decide),λA HM em edx elc evg bm nlp nlk M=>⟨rfl,?_⟩⟩
 subst em elc
 have nm3:H3 A.m=none:=s4.free nx
 have np3:H3 A.lp=none:=s45.free nlp
 have nk3:H3 A.lk=none:=s45.free nlk
 have sM:Same H3 HM:=λb' o e=>bm b' o (λz=>by rw [z,nm3] at e;cases e) (s45 _ _ e)
 refine bX (sh (λn σ G=>∃ st,σ=[some v0,some v1,some (.int b),some v3,some v4,some v5,some v6,some v7,some v8,some v9,some (.ref A.lc),some (.ref A.m)]/\MacAt K T.DR A ⟨cl.map (cK nums ks),as,b⟩ st G/\gq ⟨cl.map (cK nums ks),as,b⟩ st/\Same H3 G/\goK ⟨cl.map (cK nums ks),as,b⟩ n st=some r) 20 ?_ ?_)
 ·exact ⟨_,rfl,M,ok.s,sM,hgo⟩
 ·rintro n σ G ⟨st,rfl,M,os,sG,hg⟩
  refine ⟨decide ((st.place:Int) < (((cl.map (cK nums ks)).map D.int).length:Int)),au (bC (p:=λi j=>decide (i < j)) (lV (i:=11) (z:=st.place) M T.cl_Machine T.na_place) (dq (bW (K:=K) (k:=10) (LD.of M.cells (cU _))))),λG1 t1=>?_⟩
  have M:=M.same t1
  have sG1:=sG.trans t1
  cases n with
  | zero=>cases hg
  | succ n =>
  by_cases hlt:st.place < (cl.map (cK nums ks)).length
  ·rw [decide_eq_true (by rw [List.length_map];omega)]
   have hg:(if st.place < (cl.map (cK nums ks)).length then (match fN ⟨cl.map (cK nums ks),as,b⟩ st with
    | none=>some none
    | some s=>goK ⟨cl.map (cK nums ks),as,b⟩ n s) else some (some st))=some r:=hg
   rw [if_pos hlt] at hg
   refine jQ ⟨_,rfl,A.m,A.dx,_,rfl,M.ins,by kernel_rfl,A,_,st,rfl,M,ok.m,os,λv st' e G3 b3 M3=>?_,λe G3 dx b3 hd=>⟨T.Ep,?_⟩⟩
   ·obtain ⟨s',hs',e2⟩:=Option.map_eq_some_iff.mp e
    cases e2
    obtain ⟨os2,_⟩:=vH ok.m os hs'
    rw [hs'] at hg
    exact ⟨n,Nat.lt_succ_self n,st',rfl,M3,os2,oA sG1 b3 nm3 np3 nk3,hg⟩
   ·have e:fN ⟨cl.map (cK nums ks),as,b⟩ st=none:=by simpa using e
    rw [e] at hg
    cases hg
    exact post _ _ (sH3.trans (oA sG1 b3 nm3 np3 nk3)) (Dat.blI _)
  ·rw [decide_eq_false (by rw [List.length_map];omega)]
   have hg:(if st.place < (cl.map (cK nums ks)).length then (match fN ⟨cl.map (cK nums ks),as,b⟩ st with
    | none=>some none
    | some s=>goK ⟨cl.map (cK nums ks),as,b⟩ n s) else some (some st))=some r:=hg
   rw [if_neg hlt] at hg
   cases hg
   refine jP (aP (K:=K) (d:=.bl (mK (bJ as b (fpT hs nums ks pt)) (some st))) (AZ (qh (i:=11) M T.cl_Machine T.na_pile) (dJ (bw (aa ah (aa (aS (R:=jB 8) (aa (aS (R:=Rfp 3) (aa (ae (k:=4) ((s13.trans sG1).dat q4)) (aa (ae (k:=1) ((sH3.trans sG1).dat h1)) ao)) ⟨pt,hs,nums,ks,as,rfl,ok.f,ok.dp,rfl⟩) (aa (ae (k:=9) (sG1.dat q9)) (aa (ae (k:=2) (Dat.intI b)) ao))) ⟨_,as,b,rfl,ok.t,ok.dt,⟨ok.m.as,ok.m.ai,ok.m.b2,ok.m.b9⟩,rfl⟩) ao)))) (dE _) rfl (by rw [cJ];decide)) λv H' s q=>post v H' (sH3.trans (sG1.trans s)) q)
abbrev TRI:List Int:=[0,1,2,99,100,9999]
def sU:D->Option Int
 | .tup [_,_,.int m]=>some m
 | _=>none
def rng (b:Nat):List Int:=(List.range b).map λi:Nat=>(i:Int)
abbrev hD (pt:Pa):List D:=bx 3 "hole" (toP pt)
abbrev gD (pt:Pa):List D:=bx 3 "gap" (toP pt)
abbrev sD (pt:Pa):List D:=bx 3 "slot" (toP pt)
def iL (pt:Pa) (b:Nat):List (List Int):=(hD pt).map λ_=>rng b
def fz (pt:Pa):List (List Int):=(gD pt).map λg=>TRI.filter λi=>decide (i≤(sU g).getD 0)
def eV (pt:Pa):List (List Int):=(sD pt).map λ_=>rng 4
variable {t:TE}
theorem zq (h:RE K t σ H (.int n)) (hn:n≤1000):RC K (tCB (λxs H Q=>∃ (p:Addr) (n:Nat),xs=[.ref p]/\H p=some (.rng 0 n)/\n≤1000/\∀ l,H l=none->Q (.ref l) (upd H l (.lst ((List.range n).map λi:Nat=>V.int i))))
  (bf (tCB (λxs H Q=>∃ n:Nat,xs=[.int n]/\∀ p,H p=none->Q (.ref p) (upd H p (.rng 0 n))) (bf t cu)) cu)) σ H ((rng n).map D.int):=RC.as (ix h hn) (by unfold rng;rw [List.map_map];rfl)
theorem xY {c:D} {m:Int} (h:sU c=some m):∃ a b,c=.tup [a,b,.int m]:=by
 unfold sU at h
 split at h
 ·cases h;exact ⟨_,_,rfl⟩
 ·cases h
def leD (m:Int):D->Bool
 | .int i=>decide (i≤m)
 | _=>false
theorem vf (m:Int):TRN.filter (leD m)=(TRI.filter λi=>decide (i≤(some m).getD 0)).map D.int:=by
 show (TRI.map D.int).filter (leD m)=_
 rw [List.filter_map]
 rfl
variable {css:List (List Int)}
theorem qj (h:RCL K tl σ H (css.map (·.map D.int))) (ok:il css)
  (q:∀ r ys H',Same H H'->H' r=some (.lst ys)->H r=none->Dats K H' ((bg css).map tI) ys->us En (σ.set i (some (.ref r))) H'):jZ (jY (fO (iF K) [] E (bf tl cu)) (bq i)) us En σ H :=
 show tl σ H (λx H1=>iF K ([x]++[]) H1 (λv H2=>us En (σ.set i (some v)) H2) E) from
  RCL.use (K:=K) h λl ws H1 nl s1 hy dL=>⟨l,ws,css,rfl,SqL.of hy,dL,ok,λr ys H' s' hr nr dr=>q r ys H' (s1.trans s') hr (s1.free nr) dr⟩
theorem o7 (T:Txt P w K mg):Binds K T.Hb ["size","most"] []:=by
 obtain ⟨oc,od,kV,doc,pm,an,cdv,ct,osl,e,lk,hcd⟩:=T.Hc.ex
 obtain ⟨o,n,l,h⟩:=T.Hc.df
 intro s us hK hl
 have hl':us.length=2:=by simpa using hl
 match us,hl' with
 | [u0,u1],_=>rw [e];exact .of_defaults (T:=T.II) rfl (hK _ _ l) h rfl rfl
variable {r:List Int}
theorem jf {rows:List (List Int)} {x:V} (d:Dats K H (rows.map tI) ys) (h:ys[i]?=some x) (hr:rows[i]?=some r):Dat K H (tI r) x:=by
 obtain ⟨c,hc,hv⟩:=d.getV h
 rw [List.getElem?_map,hr] at hc
 cases hc
 exact hv
variable {a:Addr} {xs:List V} {g:TG}
theorem fB {α β:Type} {tb:TS} (rows:List α) (f:α->Option β) {tot R:Option β} (I:L2.St->Hp->Prop) (ht:tot=(rows.findSome? f).or R) (hlen:xs.length=rows.length) (h0:I σ H) (hl:∀ σ F,I σ F->SqL K F a xs)
  (hs:∀ (i:Nat) x r σ F,xs[i]?=some x->rows[i]?=some r->I σ F->∀ R',tot=(f r).or R'->g x σ F λσ2 H2=>tb { En with nx:=λσ' F'=>I σ' F'/\tot=R',ct:=λσ' F'=>I σ' F'/\tot=R',bk:=En.nx } σ2 H2)
  (hd:∀ σ F,I σ F->tot=R->En.nx σ F) :
  ∃ W:Nat->Nat->L2.St->Hp->Prop,(∃ m,W 0 m σ H)/\∀ i m σ H,W i m σ H ->
   ((Itl K a).stop i H/\En.nx σ H)\/((Itl K a).go i H/\∃ N:L2.St->Hp->Prop,(∀ σ' H',N σ' H'->∃ m',m' < m/\W (i+1) m' σ' H')/\∀ x H',(Itl K a).yld i H x H'->g x σ H' λσ2 H2=>tb { En with nx:=N,ct:=N,bk:=En.nx } σ2 H2):=by
 refine kb (K:=K) (a:=a) (xs:=xs) (λi σ F=>I σ F/\tot=((rows.drop i).findSome? f).or R) ⟨h0,ht⟩ (λi σ F _ h=>hl σ F h.1) ?_ ?_
 ·rintro i x σ F hx ⟨hI,e⟩
  have hi:i < rows.length:=by have:=(List.getElem?_eq_some_iff.mp hx).1;omega
  refine hs i x rows[i] σ F hx (List.getElem?_eq_getElem hi) hI _ ?_
  rw [e,List.drop_eq_getElem_cons hi,List.findSome?_cons]
  cases f rows[i] with
  | none=>rfl
  | some b=>rfl
 ·rintro σ F ⟨hI,e⟩
  rw [hlen,List.drop_length] at e
  exact hd σ F hI e
abbrev S10:List Str:=["put","far","load","add","sub","mul","less","more","twice","about"]
def doR (mc:MC) (nm:Str) (num:Nat) (st:MS):Option MS:=if lM nm num=true then none else cY mc nm num st
def goS (mc:MC):Nat->MS->Option (Option MS)
 | 0,_=>none
 | n+1,st=>match mc.cs[st.place]? with
  | none=>some (some st)
  | some c=>if nmC c ∈ S10/\c≤16/\iU mc.cs st.place c=false then (match doR mc (nmC c) (iM mc.cs st.place c) st with
   | none=>some none
   | some s=>goS mc n { s with place:=st.place+1+bM c }) else none
theorem CD (h:nm ∈ S10):¬ nm="end"/\nm ∉ WS:=by
 simp only [S10,List.mem_cons,List.not_mem_nil,or_false] at h
 rcases h with rfl | rfl | rfl | rfl | rfl | rfl | rfl | rfl | rfl | rfl <;> decide +kernel
theorem sf (hc:mc.cs[st.place]?=some c) (hn:nmC c ∈ S10) (hb:iU mc.cs st.place c=false):fN mc st=(doR mc (nmC c) (iM mc.cs st.place c) st).map λs=>{ s with place:=st.place+1+bM c }:=by
 obtain ⟨he,hw⟩:=CD hn
 unfold fN doR
 rw [hc]
 dsimp only
 rw [if_neg (by rw [hb];exact Bool.false_ne_true)]
 by_cases ht:lM (nmC c) (iM mc.cs st.place c)=true
 ·rw [if_pos ht,if_pos ht];rfl
 ·rw [if_neg ht,if_neg ht]
  unfold doM
  rw [if_neg hw,if_neg he]
theorem uT:∀ (n:Nat) (st:MS) (r:Option MS),goS mc n st=some r->goK mc n st=some r
 | 0,_,_,h=>by cases h
 | n+1,st,r,h=>by
  have h:(match mc.cs[st.place]? with
   | none=>some (some st)
   | some c=>if nmC c ∈ S10/\c≤16/\iU mc.cs st.place c=false then (match doR mc (nmC c) (iM mc.cs st.place c) st with
    | none=>some none
    | some s=>goS mc n { s with place:=st.place+1+bM c }) else none)=some r:=h
  show (if st.place < mc.cs.length then (match fN mc st with
   | none=>some none
   | some s=>goK mc n s) else some (some st))=some r
  cases hc:mc.cs[st.place]? with
  | none =>
   rw [hc] at h
   rw [if_neg (by have:=List.getElem?_eq_none_iff.mp hc;omega)]
   exact h
  | some c =>
   rw [hc] at h
   dsimp only at h
   rw [if_pos (List.getElem?_eq_some_iff.mp hc).1]
   by_cases hs:nmC c ∈ S10/\c≤16/\iU mc.cs st.place c=false
   ·rw [if_pos hs] at h
    rw [sf hc hs.1 hs.2.2]
    cases hd:doR mc (nmC c) (iM mc.cs st.place c) st with
    | none=>rw [hd] at h;exact h
    | some s=>rw [hd] at h;exact uT n _ r h
   ·rw [if_neg hs] at h;cases h
abbrev mcT (cl:List Cl) (nums ks as:List Int) (b:Int):MC:=⟨cl.map (cK nums ks),as,b⟩
abbrev stT (hs:List Int):MS:=⟨(1::hs).reverse,0,[],false⟩
abbrev vM:Type:=List Int × List Int × List Int × List Int
def mJ (pt:Pa) (cl:List Cl) (b:Int) (hs nums ks as:List Int):Bool:=match goS (mcT cl nums ks as b) 20 (stT hs) with
 | some r=>mK (bJ as b (fpT hs nums ks pt)) r
 | none=>false
def yH (pt:Pa) (cl:List Cl) (b:Int) (hs nums ks as:List Int):Option vM:=if mJ pt cl b hs nums ks as=true then none else some (hs,nums,ks,as)
def iX (pt:Pa) (cl:List Cl) (b:Nat):Option vM:=(bg (iL pt b)).findSome? λhs=>(bg (fz pt)).findSome? λnums=>(bg (eV pt)).findSome? λks=>(bg (gm ks b)).findSome? λas=>yH pt cl b hs nums ks as
def zM:Option vM->D
 | none=>.non
 | some t=>qw t.1 t.2.1 t.2.2.1 t.2.2.2
def n0:Pa->Bool
 | .two o a b=>(decide (o="add") || decide (o="sub") || decide (o="mul") || decide (o="less")) && (n0 a && n0 b)
 | _=>true
structure oj (nm:D) (pt:Pa) (cl:List Cl) (b:Nat):Prop where
 pc:jd (gd nm pt cl)=some true
 nmk:Cd (gd nm pt cl)
 pp:ppD 3 (toP pt)=true
 op:n0 pt=true
 dp:aZ pt≤3
 c:∀ c ∈ cl,mq (fz pt).length (eV pt).length c=true
 l:cl.length≤12
 b2:2≤b
 b5:b≤5
 g:∀ c ∈ gD pt,(sU c).isSome=true
 rh:il (iL pt b)
 rn:il (fz pt)
 rk:il (eV pt)
 ra:∀ ks ∈ bg (eV pt),il (gm ks b)
 all:∀ hs ∈ bg (iL pt b),∀ nums ∈ bg (fz pt),∀ ks ∈ bg (eV pt),∀ as ∈ bg (gm ks b),lR pt cl hs nums ks as b/\∃ r,goS (mcT cl nums ks as b) 20 (stT hs)=some r
def om (ds:List D) (d:D):Prop:=∃ (nm:D) (pt:Pa) (cl:List Cl) (b:Nat),ds=[gd nm pt cl,.int b]/\oj nm pt cl b/\d=zM (iX pt cl b)
variable {cl:List Cl} {hs nums ks:List Int}
theorem yI {o:Option vM} {pt:Pa} {b:Int} {as:List Int} {R:Option vM} (h:o=(yH pt cl b hs nums ks as).or R):(mJ pt cl b hs nums ks as=true->o=R)/\(mJ pt cl b hs nums ks as=false->zM o=qw hs nums ks as):=by
 unfold yH at h
 refine ⟨λk=>?_,λk=>?_⟩
 ·rw [if_pos k] at h;exact h
 ·rw [if_neg (by rw [k];exact Bool.false_ne_true)] at h;rw [h];rfl
theorem tH (T:Txt P w K mg) (JT:FnOk P w K mg base CX0 k T.Gq T.Gx ["piece"] (spD K oY)) (J3:FnOk P w K mg base CX0 k T.GX T.Hb ["size","most"] (spD K xq)) (Ii:FnOk P w K mg base CX0 k T.Hy T.Hz ["choices"] (iF K)) (E8:FnOk P w K mg base CX0 k T.Fb T.Fd ["pattern","kind"] (fU K (fG 3))) (J9:FnOk P w K mg base CX0 k T.HE T.HH ["ks","size"] (fU K sr)) (Ku:FnOk P w K mg base CX0 k T.Jg T.Ji ["piece","trial","size"] (spD K xn)):FnOk P w K mg base CX0 (k+1) T.Ij T.Ip ["piece","size"] (spD K om):=by
 refine T.Iw.ok sc_failing (λvs H Q E h=>?_) (λcdv A outer s H vs Q E hr h=>?_)
 ·obtain ⟨ds,d,hd,⟨nm,pt,cl,b,rfl,_⟩,_⟩:=h;exact hd.length.symm
 have nd:=sc_failing.nd
 obtain ⟨ds,d,hd,⟨nm,pt,cl,b,rfl,G,rfl⟩,post⟩:=h
 obtain ⟨v0,v1,rfl,h0,h1⟩:=gy hd
 refine ⟨_,(ak (aX (aD JT hr rfl T.Jm T.Hu.kp (o6 T) .nil aQ (ag (pv 0) af)))
 (ak (aX (aD J3 hr rfl T.Ju T.Hc.kp (o7 T) .nil aQ (ag (pv 1) (ag (bj (v:=.int 5) rfl T.Eh ⟨_,rfl⟩) af))))
 (ak (ba (i:=2) nd rfl (Or.inl rfl) (aN aI (pv 0) aj (λ_ _=>rfl)))
 (ak (ba (i:=3) nd rfl (Or.inl rfl) (aD Ii hr rfl T.Iy T.GJ.kp (jm T) .nil aQ (ag (cZ (own:=["mark"]) (fr:=[1]) (N':=["mark","size"]) (b0 (aD E8 hr rfl T.F7 T.Ff.kp (eU T) .nil aQ (ag (pv 2) (ag aw af)))) rfl (by show cR ["piece","size","pattern","all_holes","all_nums","all_ks","holes","nums","ks","args","trial"] (λx=>(ax fb).names.lookup x) _ _ _ _=true;decide +kernel) rfl (λ_ _ _ _ _=>(aH (i:=0) (by show List.Nodup [("mark":Str),("size":Str)];decide +kernel) rfl (Or.inl rfl))) (λ_ _ _ _ _=>cn) (λ_ _ _ _ _=>(cv (fe rfl) rfl T.IH ie (ag (cv j5 rfl T.Hw j3 (ag (pv 1) af)) af)))) af)))
 (ak (ba (i:=4) nd rfl (Or.inl rfl) (aD Ii hr rfl T.Iy T.GJ.kp (jm T) .nil aQ (ag (yL (x0:="mark") (own:=["mark"]) (fr:=[]) (N':=["mark"]) (b0 (aD E8 hr rfl T.F7 T.Ff.kp (eU T) .nil aQ (ag (pv 2) (ag aw af)))) rfl (uJ (by show lQ "mark" ["piece","size","pattern","all_holes","all_nums","all_ks","holes","nums","ks","args","trial"] (λx=>(ax fb).names.lookup x) _ _ _ _=true;decide +kernel)) rfl (λ_ _=>rfl) (λ_=>rfl) rfl (λ_ _ _ _ _ _=>(aH (i:=0) (by show List.Nodup [("mark":Str)];decide +kernel) rfl (Or.inr rfl))) (λ_ _ _ _ _ _=>cn) (λ_ _ _ _ _ _=>(cZ (own:=["num"]) (fr:=[0]) (N':=["num","mark"]) (vj (K:=K) rfl (bj (v:=.ref T.Hq) rfl T.FF rfl)) rfl (by kernel_rfl) rfl (λ_ _ _ _ _=>(aH (i:=0) (by show List.Nodup [("num":Str),("mark":Str)];decide +kernel) rfl (Or.inl rfl))) (λ_ _ _ _ _=>(rG (az lB (pv 0) (aN (r:=rQ K) aI (pv 1) aj (λ_ _=>rfl)) (aJ _)))) (λ_ _ _ _ _=>(pv 0))))) af)))
 (ak (ba (i:=5) nd rfl (Or.inl rfl) (aD Ii hr rfl T.Iy T.GJ.kp (jm T) .nil aQ (ag (cZ (own:=["mark"]) (fr:=[]) (N':=["mark"]) (b0 (aD E8 hr rfl T.F7 T.Ff.kp (eU T) .nil aQ (ag (pv 2) (ag aw af)))) rfl (by show cR ["piece","size","pattern","all_holes","all_nums","all_ks","holes","nums","ks","args","trial"] (λx=>(ax fb).names.lookup x) _ _ _ _=true;decide +kernel) rfl (λ_ _ _ _ _=>(aH (i:=0) (by show List.Nodup [("mark":Str)];decide +kernel) rfl (Or.inl rfl))) (λ_ _ _ _ _=>cn) (λ_ _ _ _ _=>(cv (fe rfl) rfl T.IH ie (ag (cv j5 rfl T.Hw j3 (ag (bj (v:=.int 4) rfl T.Fz ⟨_,rfl⟩) af)) af)))) af)))
 (ak (dM PassesOwn.never rfl (b0 (pv 3)) (aH (i:=6) nd rfl (Or.inl rfl)) (aq (dM PassesOwn.never rfl (b0 (pv 4)) (aH (i:=7) nd rfl (Or.inl rfl)) (aq (dM PassesOwn.never rfl (b0 (pv 5)) (aH (i:=8) nd rfl (Or.inl rfl)) (aq (dM PassesOwn.never rfl (b0 (aD J9 hr rfl T.JC T.IB.kp (sI T) .nil aQ (ag (pv 8) (ag (pv 1) af)))) (aH (i:=9) nd rfl (Or.inl rfl)) (ak (ba (i:=10) nd rfl (Or.inl rfl) (aC (ag (pv 6) (ag (pv 7) (ag (pv 8) (ag (pv 9) af))))))
 (aq (aT (cI (bz (aD Ku hr rfl T.Kg T.Jy.kp (Ac T) .nil aQ (ag (pv 0) (ag (pv 10) (ag (pv 1) af)))) (λ_=>rfl))) (aq (aE (pv 10))) aF))))))))))
 (aq (aE p4))))))))),?_⟩
 obtain rfl:=h1.intE
 have b2:=G.b2
 have b5:=G.b5
 refine jX (RE.use (aS (R:=oY) (d:=.non) (aa (ae (K:=K) (k:=0) h0) ao) ⟨_,rfl,G.nmk,G.pc,rfl⟩) λv3 H1 s1 _=>?_)
 refine jX (RE.use (aS (R:=xq) (d:=.non) (aa (ae (K:=K) (k:=1) (Dat.intI (b:Int))) (aa ah ao)) ⟨_,_,rfl,by omega,by omega,rfl⟩) λv4 H2 s2 _=>?_)
 have s12:=s1.trans s2
 refine bL (K:=K) (d:=toP pt) (aM (k:=1) (ae (k:=0) (s12.dat h0)) ah rfl) λv2 H3 s3 q2=>?_
 have s13:=s12.trans s3
 refine qj (K:=K) (css:=iL pt b) (je (cs:=hD pt) (dJ (dm (R:=fG 3) (aa (ae (k:=2) q2) (aa av ao)) ⟨toP pt,"hole",rfl,by decide,G.pp,rfl⟩)) (Nat.le_trans (gY "hole" 3 (toP pt) G.pp) (by decide)) _ (by unfold iL;rw [List.length_map,List.length_map]) rfl (λF i c v es sF hc he hv=>?_)) G.rh λr3 y3 H4 s4 hr3 nr3 d3=>?_
 ·unfold iL at he
  rw [List.getElem?_map,List.getElem?_map,hc] at he
  cases he
  exact zq (ae (k:=1) (Dat.intI (b:Int))) (by omega)
 refine qj (K:=K) (css:=fz pt) (je (cs:=gD pt) (dJ (dm (R:=fG 3) (aa (ae (k:=2) (s4.dat q2)) (aa av ao)) ⟨toP pt,"gap",rfl,by decide,G.pp,rfl⟩)) (Nat.le_trans (gY "gap" 3 (toP pt) G.pp) (by decide)) _ (by unfold fz;rw [List.length_map,List.length_map]) rfl (λF i c v es sF hc he hv=>?_)) G.rn λr4 y4 H5 s5 hr4 nr4 d4=>?_
 ·unfold fz at he
  rw [List.getElem?_map,List.getElem?_map,hc] at he
  cases he
  have hg:=G.g c (List.mem_of_getElem? hc)
  obtain ⟨m,hm⟩:=Option.isSome_iff_exists.mp hg
  obtain ⟨ca,cb,rfl⟩:=xY hm
  refine RC.as (rS (cs:=TRN) (eY T.Jh) (by decide) (leD m) rfl (λF2 i c v2 t2 hc2 hv2=>?_)) (vf m)
  have hc3:(TRI.map D.int)[i]?=some c:=hc2
  rw [List.getElem?_map] at hc3
  obtain ⟨j,_,rfl⟩:=Option.map_eq_some_iff.mp hc3
  exact ⟨au (bC (p:=λi j=>decide (i≤j)) (ae (k:=0) hv2) (aM (k:=2) (ae (k:=1) (t2.dat hv)) ah rfl)),ae (k:=0) hv2⟩
 have s45:=s4.trans s5
 refine qj (K:=K) (css:=eV pt) (je (cs:=sD pt) (dJ (dm (R:=fG 3) (aa (ae (k:=2) (s45.dat q2)) (aa av ao)) ⟨toP pt,"slot",rfl,by decide,G.pp,rfl⟩)) (Nat.le_trans (gY "slot" 3 (toP pt) G.pp) (by decide)) _ (by unfold eV;rw [List.length_map,List.length_map]) rfl (λF i c v es sF hc he hv=>?_)) G.rk λr5 y5 H6 s6 hr5 nr5 d5=>?_
 ·unfold eV at he
  rw [List.getElem?_map,List.getElem?_map,hc] at he
  cases he
  exact zq (n:=4) ah (by decide)
 have s56:=s5.trans s6
 have hr3:=s56 _ _ hr3
 have d3:=s56.dats d3
 have hr4:=s6 _ _ hr4
 have d4:=s6.dats d4
 have sH6:=s13.trans (s45.trans s6)
 have h0:=sH6.dat h0
 clear s1 s2 s12 s3 s13 s4 s5 s45 s6 s56 hd
 have e3:y3.length=(bg (iL pt b)).length:=by rw [← d3.length,List.length_map]
 have e4:y4.length=(bg (fz pt)).length:=by rw [← d4.length,List.length_map]
 have e5:y5.length=(bg (eV pt)).length:=by rw [← d5.length,List.length_map]
 generalize htot:iX pt cl b=tot at post
 have htot:tot=(iX pt cl b).or none:=by rw [htot,Option.or_none]
 refine bX ⟨_,rfl,r3,rfl,⟨y3,SqL.of hr3⟩,fB (K:=K) (bg (iL pt b)) (λhs=>(bg (fz pt)).findSome? λnums=>(bg (eV pt)).findSome? λks=>(bg (gm ks b)).findSome? λas=>yH pt cl b hs nums ks as) (λσ F=>∃ z6 z7 z8 z9 z10:Option V,σ=[some v0,some (.int (b:Int)),some v2,some (.ref r3),some (.ref r4),some (.ref r5),z6,z7,z8,z9,z10]/\Same H6 F) htot e3 ?_ (λσ F ⟨_,_,_,_,_,_,sF⟩=>SqL.of (sF _ _ hr3)) ?_ ?_⟩
 ·exact ⟨none,none,none,none,none,rfl,Same.refl _⟩
 ·rintro i6 x6 hs σ F hx6 hh6 ⟨z6,z7,z8,z9,z10,rfl,sF⟩ R6 ht6
  have q6:=jf d3 hx6 hh6
  have hhs:=List.mem_of_getElem? hh6
  refine dj ?_
  dsimp only
  refine ⟨_,rfl,r4,rfl,⟨y4,SqL.of (sF _ _ hr4)⟩,fB (K:=K) (bg (fz pt)) _ (λσ F=>∃ z7 z8 z9 z10:Option V,σ=[some v0,some (.int (b:Int)),some v2,some (.ref r3),some (.ref r4),some (.ref r5),some x6,z7,z8,z9,z10]/\Same H6 F) ht6 e4 ?_ (λσ F ⟨_,_,_,_,_,sF⟩=>SqL.of (sF _ _ hr4)) ?_ ?_⟩
  ·exact ⟨z7,z8,z9,z10,rfl,sF⟩
  ·rintro i7 x7 nums σ F hx7 hh7 ⟨z7,z8,z9,z10,rfl,sF⟩ R7 ht7
   have q7:=jf d4 hx7 hh7
   have hnums:=List.mem_of_getElem? hh7
   refine dj ?_
   dsimp only
   refine ⟨_,rfl,r5,rfl,⟨y5,SqL.of (sF _ _ hr5)⟩,fB (K:=K) (bg (eV pt)) _ (λσ F=>∃ z8 z9 z10:Option V,σ=[some v0,some (.int (b:Int)),some v2,some (.ref r3),some (.ref r4),some (.ref r5),some x6,some x7,z8,z9,z10]/\Same H6 F) ht7 e5 ?_ (λσ F ⟨_,_,_,_,sF⟩=>SqL.of (sF _ _ hr5)) ?_ ?_⟩
   ·exact ⟨z8,z9,z10,rfl,sF⟩
   ·rintro i8 x8 ks σ F hx8 hh8 ⟨z8,z9,z10,rfl,sF⟩ R8 ht8
    have q8:=jf d5 hx8 hh8
    have hks:=List.mem_of_getElem? hh8
    refine dj ?_
    dsimp only
    refine RC.use (K:=K) (dm (R:=sr) (aa (ae (k:=8) (sF.dat q8)) (aa (ae (k:=1) (Dat.intI (b:Int))) ao)) ⟨ks,b,rfl,by omega,G.ra ks hks,rfl⟩) λra ya Fa na sa hya da=>?_
    have ea:ya.length=(bg (gm ks b)).length:=by rw [← da.length,List.length_map]
    refine ⟨ra,rfl,⟨ya,SqL.of hya⟩,fB (K:=K) (bg (gm ks b)) _ (λσ F=>∃ z9 z10:Option V,σ=[some v0,some (.int (b:Int)),some v2,some (.ref r3),some (.ref r4),some (.ref r5),some x6,some x7,some x8,z9,z10]/\Same Fa F) ht8 ea ?_ (λσ F ⟨_,_,_,sF⟩=>SqL.of (sF _ _ hya)) ?_ ?_⟩
    ·exact ⟨z9,z10,rfl,Same.refl _⟩
    ·rintro i9 x9 as σ F9 hx9 hh9 ⟨z9,z10,rfl,sF9⟩ R9 ht9
     have q9:=jf da hx9 hh9
     have has:=List.mem_of_getElem? hh9
     refine dj ?_
     dsimp only
     have sA:=sF.trans (sa.trans sF9)
     obtain ⟨okt,r,hgo⟩:=G.all hs hhs nums hnums ks hks as has
     have ek:mJ pt cl b hs nums ks as=mK (bJ as b (fpT hs nums ks pt)) r:=by unfold mJ;rw [hgo]
     obtain ⟨k1,k2⟩:=yI ht9
     rw [ek] at k1 k2
     refine bL (K:=K) (d:=qw hs nums ks as) (aB (aa (ae (k:=6) (sA.dat q6)) (aa (ae (k:=7) (sA.dat q7)) (aa (ae (k:=8) (sA.dat q8)) (aa (ae (k:=9) (sF9.dat q9)) ao))))) λv10 Ft st qt=>?_
     refine dQ (b:=!mK (bJ as b (fpT hs nums ks pt)) r) (bD (aV (aS (K:=K) (R:=xn) (aa (ae (k:=0) ((sA.trans st).dat h0)) (aa (ae (k:=10) qt) (aa (ae (k:=1) (Dat.intI (b:Int))) ao))) ⟨nm,pt,cl,hs,nums,ks,as,b,r,rfl,okt,uT _ _ _ hgo,rfl⟩))) (λc Fk sk=>?_) (λc Fk sk=>?_)
     ·rw [k2 (iV c)] at post
      exact aP (K:=K) (d:=qw hs nums ks as) (ae (k:=10) (sk.dat qt)) λv H' s' q=>post v H' (sH6.trans (sA.trans (st.trans (sk.trans s')))) q
     ·exact (show iJ _ _ _ from ⟨⟨_,_,rfl,sF9.trans (st.trans sk)⟩,k1 (fX c)⟩)
    ·rintro σ F9 ⟨z9,z10,rfl,sF9⟩ e
     exact ⟨⟨_,_,_,rfl,sF.trans (sa.trans sF9)⟩,e⟩
   ·rintro σ F ⟨z8,z9,z10,rfl,sF⟩ e
    exact ⟨⟨_,_,_,_,rfl,sF⟩,e⟩
  ·rintro σ F ⟨z7,z8,z9,z10,rfl,sF⟩ e
   exact ⟨⟨_,_,_,_,_,rfl,sF⟩,e⟩
 ·rintro σ F ⟨z6,z7,z8,z9,z10,rfl,sF⟩ e
  rw [e] at post
  exact post _ _ (sH6.trans sF) Dat.nonI
def xr (ds:List D) (d:D):Prop:=∃ o x y b,ds=[.str o,.int x,.int y,.int b]/\okO o/\2≤b/\b≤10000/\0≤x/\x < b/\0≤y/\y < b/\d=.int (two o x y b)
theorem rd (T:Txt P w K mg)  : FnOk P w K mg base CX0 (k+1) T.GD T.GF ["_law_name","_law_one","_law_other","_law_base"] (spD K xr):=by
 refine T.HN.ok sc__law_two (λvs H Q E h=>?_) (λcdv A outer s H vs Q E hr h=>?_)
 ·obtain ⟨ds,d,hd,⟨o,x,y,b,rfl,_⟩,_⟩:=h;exact hd.length.symm
 have nd:=sc__law_two.nd
 obtain ⟨ds,d,hd,⟨o,x,y,b,rfl,ho,hb,hb2,hx,hx2,hy,hy2,rfl⟩,post⟩:=h
 obtain ⟨v0,v1,v2,v3,rfl,q0,q1,q2,q3⟩:=xQ hd
 refine ⟨_,(ak (aT (az bK (pv 0) aw (aJ _)) (aq (aE (aU cH (aU ck (pv 1) (pv 2)) (pv 3)))) aF)
 (ak (aT (az bK (pv 0) aw (aJ _)) (aq (aE (aU cH (aU tP (pv 1) (pv 2)) (pv 3)))) aF)
 (ak (aT (az bK (pv 0) aw (aJ _)) (aq (aE (aU cH (aU kN (pv 1) (pv 2)) (pv 3)))) aF)
 (aq (aE (cN (az jE (pv 1) (pv 2) (aJ _)) aj aj)))))),?_⟩
 refine aA (K:=K) (b:=decide (o="add")) (au (aR (ae q0) av)) (λc H1 s1=>?_) (λc H1 s1=>?_)
 ·refine aP (K:=K) (d:=.int (two o x y b)) ?_ λv H' s q=>post v H' (s1.trans s) q
  have e:two o x y b=(x+y) % b:=by rw [of_decide_eq_true c];rfl
  rw [e]
  exact eZ (cq (ae (s1.dat q1)) (ae (s1.dat q2))) (ae (s1.dat q3)) (by omega)
 have q0:=s1.dat q0
 have q1:=s1.dat q1
 have q2:=s1.dat q2
 have q3:=s1.dat q3
 have n1:=of_decide_eq_false c
 refine aA (K:=K) (b:=decide (o="sub")) (au (aR (ae q0) av)) (λc H2 s2=>?_) (λc H2 s2=>?_)
 ·refine aP (K:=K) (d:=.int (two o x y b)) ?_ λv H' s q=>post v H' (s1.trans (s2.trans s)) q
  have e:two o x y b=(x - y) % b:=by rw [of_decide_eq_true c];rfl
  rw [e]
  exact eZ (tZ (ae (s2.dat q1)) (ae (s2.dat q2))) (ae (s2.dat q3)) (by omega)
 have q0:=s2.dat q0
 have q1:=s2.dat q1
 have q2:=s2.dat q2
 have q3:=s2.dat q3
 have n2:=of_decide_eq_false c
 refine aA (K:=K) (b:=decide (o="mul")) (au (aR (ae q0) av)) (λc H3 s3=>?_) (λc H3 s3=>?_)
 ·refine aP (K:=K) (d:=.int (two o x y b)) ?_ λv H' s q=>post v H' (s1.trans (s2.trans (s3.trans s))) q
  have e:two o x y b=x * y % b:=by rw [of_decide_eq_true c];rfl
  rw [e]
  exact eZ (qg (ae (s3.dat q1)) (ae (s3.dat q2)) (.inr ⟨by omega,by omega⟩)) (ae (s3.dat q3)) (by omega)
 have n3:=of_decide_eq_false c
 refine aP (K:=K) (d:=.int (two o x y b)) ?_ λv H' s q=>post v H' (s1.trans (s2.trans (s3.trans s))) q
 have eo:o="less":=by
  rcases ho with h | h | h | h
  ·exact absurd h n1
  ·exact absurd h n2
  ·exact absurd h n3
  ·exact h
 have e:two o x y b=if x < y then 1 else 0:=by rw [eo];rfl
 rw [e]
 refine jG (b:=decide (x < y)) (au (bC (p:=λi j=>decide (i < j)) (ae (s3.dat q1)) (ae (s3.dat q2)))) (λc2=>?_) (λc2=>?_)
 ·rw [if_pos (of_decide_eq_true c2)];exact ah
 ·rw [if_neg (of_decide_eq_false c2)];exact ah
def sy (ds es:List D):Prop:=ds=[]/\es=NM.map D.str
theorem nV (T:Txt P w K mg)  : FnOk P w K mg base CX0 (k+1) T.Gm T.Gu [] (fU K sy):=by
 refine T.Hr.ok sc__law_names (λvs H Q E h=>?_) (λcdv A outer s H vs Q E hr h=>?_)
 ·obtain ⟨ds,es,hd,⟨rfl,_⟩,_⟩:=h;exact hd.length.symm
 have nd:=sc__law_names.nd
 obtain ⟨ds,es,hd,⟨rfl,rfl⟩,post⟩:=h
 have e0:=hd.nilE
 subst e0
 refine' ⟨_,?ybody,?yread⟩
 case ybody =>
  refine' ak ?y33 ?y34
  case y33 =>
   refine' ba (i:=0) ?y28 ?y29 ?y30 ?y31
   case y28=>exact nd
   case y29=>exact rfl
   case y30=>exact Or.inl rfl
   case y31 =>
    refine' bu ?y27
    case y27 =>
     refine' ag ?y25 ?y26
     case y25=>exact aw
     case y26 =>
      refine' ag ?y23 ?y24
      case y23=>exact aw
      case y24 =>
       refine' ag ?y21 ?y22
       case y21=>exact aw
       case y22 =>
        refine' ag ?y19 ?y20
        case y19=>exact aw
        case y20 =>
         refine' ag ?y17 ?y18
         case y17=>exact aw
         case y18 =>
          refine' ag ?y15 ?y16
          case y15=>exact aw
          case y16 =>
           refine' ag ?y13 ?y14
           case y13=>exact aw
           case y14 =>
            refine' ag ?y11 ?y12
            case y11=>exact aw
            case y12 =>
             refine' ag ?y9 ?y10
             case y9=>exact aw
             case y10 =>
              refine' ag ?y7 ?y8
              case y7=>exact aw
              case y8 =>
               refine' ag ?y5 ?y6
               case y5=>exact aw
               case y6 =>
                refine' ag ?y3 ?y4
                case y3=>exact aw
                case y4 =>
                 refine' ag ?y1 ?y2
                 case y1=>exact aw
                 case y2=>exact af
  case y34 =>
   refine' aq ?y32
   case y32=>exact (aE (aU kn (pv 0) (bu (ag aw (ag aw (ag aw (ag aw af)))))))
 case yread =>
  refine dY (K:=K) (bw (aa av (aa av (aa av (aa av (aa av (aa av (aa av (aa av (aa av (aa av (aa av (aa av (aa av ao)))))))))))))) λl ys H1 hl s1 hy dy=>?_
  refine hE (RC.use (K:=K) (kr (bW (k:=0) (LD.of hy dy)) (dJ (bw (aa av (aa av (aa av (aa av ao)))))) (by decide)) λl2 zs H2 hl2 s2 hz dz=>post l2 zs H2 (s1.trans s2) hz (s1.free hl2) ?_)
  exact dz
def BL (ds:List D) (d:D):Prop:=∃ i:Int,ds=[.int i]/\d=.int (bM i)
theorem mU (T:Txt P w K mg)  : FnOk P w K mg base CX0 (k+1) T.FK T.FR ["_law_number"] (spD K BL):=by
 refine T.GN.ok sc__law_behind (λvs H Q E h=>?_) (λcdv A outer s H vs Q E hr h=>?_)
 ·obtain ⟨ds,d,hd,⟨i,rfl,rfl⟩,_⟩:=h;exact hd.length.symm
 have nd:=sc__law_behind.nd
 obtain ⟨ds,d,hd,⟨i,rfl,rfl⟩,post⟩:=h
 obtain ⟨v0,rfl,h0⟩:=fA hd
 refine ⟨_,(ak (aT (az cC (pv 0) (aC (ag aj (ag aj (ag aj (ag aj af))))) (by with_unfolding_all rfl)) (aq (aE aj)) aF)
 (aq (aE (cN (az cC (pv 0) (aC (ag aj (ag aj (ag aj (ag aj (ag aj af)))))) (by with_unfolding_all rfl)) aj aj)))),?_⟩
 refine aA (K:=K) (b:=decide (i ∈ ([2,9,11,15]:List Int))) (au (nq (ys:=[2,9,11,15]) (ae h0) (aB (aa ah (aa ah (aa ah (aa ah ao))))))) (λc H1 s1=>?_) (λc H1 s1=>?_)
 ·have e:bM i=2:=by unfold bM;rw [if_pos (of_decide_eq_true c)]
  rw [e] at post
  exact aP (K:=K) (d:=.int 2) ah λv H2 s2 q=>post v H2 (s1.trans s2) q
 ·have c:=of_decide_eq_false c
  refine aP (K:=K) (d:=.int (bM i)) (jG (b:=decide (i ∈ ([1,3,8,10,12]:List Int))) (au (nq (ys:=[1,3,8,10,12]) (ae (s1.dat h0)) (aB (aa ah (aa ah (aa ah (aa ah (aa ah ao)))))))) (λc2=>RE.as ah ?_) (λc2=>RE.as ah ?_)) λv H2 s2 q=>post v H2 (s1.trans s2) q
  ·unfold bM;rw [if_neg c,if_pos (of_decide_eq_true c2)];rfl
  ·unfold bM;rw [if_neg c,if_neg (of_decide_eq_false c2)];rfl
variable {ds:List D}
theorem zu {k:Nat} (hl:H l=some (.lst ys)) (hd:Dats K H ds ys) (n1:noLs ds=true) (dp:deepDs ds≤20) (hv:σ[k]?=some (some (.ref l)):=by rfl):RE K (tOp (rP K false) (cx k) (zI cu)) σ H (.bl (eqDs ds [])):=λH1 s Q q =>
 ⟨_,hv,gL (by decide),λp hp=>by
  have sp:=aG hp (.lst [])
  exact ⟨l,p,ys,[],ds,[],rfl,rfl,SqL.of (sp _ _ (s _ _ hl)),SqL.of ay,sp.dats (s.dats hd),Dats.nil,n1,rfl,dp,q _ _ sp (Dat.blI _)⟩⟩
theorem ka (ds:List D):eqDs ds []=ds.isEmpty:=by cases ds <;> rfl
theorem CN {n:Int} (h1:¬ nm="load") (h2:¬ nm="skip") (h3:¬ nm="zero"):jA nm TTO n=n:=by
 unfold jA
 have e:KTD.datumAt nm TTO=none:=by
  show (if decide (nm="load")=true then _ else if decide (nm="skip")=true then _ else if decide (nm="zero")=true then _ else _)=_
  rw [if_neg (by simp [h1]),if_neg (by simp [h2]),if_neg (by simp [h3])]
  rfl
 rw [e]
theorem zL (h1:¬ nm="load") (h2:¬ nm="skip") (h3:¬ nm="zero"):lM nm n=false:=by
 unfold lM
 rw [CN h1 h2 h3]
 exact decide_eq_false (by omega)
theorem zK:lM "load" n=decide (3 < n):=by
 unfold lM
 rw [show jA "load" TTO n=3 by kernel_rfl]
 exact j8 (by omega)
theorem rY (h:RE K te σ G d) (hl:G l=some (.lst xs)) (hx:xs.length≤900)
  (q:∀ y G',But l G G'->G' l=some (.lst (xs++[y]))->Dat K G' d y->En.nx σ G') (hv:σ[j]?=some (some (.ref l)):=by rfl):lD (tBM K "list" iw (cx j) (bf te cu)) En σ G :=
 gF (us:=iJ) h hl hx q hv
def zE (K:PySem.W.Frag):Sp:=λvs H Q _=>∃ (nm:Str) (num:Nat) (lp:Addr) (vg:V) (mc:MC) (st:MS),vs=[.str nm,.int num,.ref lp,vg,.int mc.b]/\nm ∈ S10/\H lp=some (.lst (pV st.pile))/\Dat K H (.tup (mc.as.map D.int)) vg/\tF mc/\gq mc st /\
 (∀ s,doR mc nm num st=some s->∀ H',But lp H H'->H' lp=some (.lst (pV s.pile))->Q (.bl true) H')/\(doR mc nm num st=none->∀ H' zs,But lp H H'->H' lp=some (.lst zs)->Q (.bl false) H')
theorem zg {z:V} (hl:H l=some (.lst (ys++[z]))) (q:Q z (upd H l (.lst ys))) (e:σ[j]?=some (some (.ref l)):=by rfl):CJ K "list" za (cx j) σ H Q :=
 ⟨_,e,.inl ⟨rfl,_,SqL.of hl⟩,l,_,z,rfl,rfl,hl,by simp,by rw [List.dropLast_concat];exact q⟩
theorem gE {n:Int} (h:st.pile.length≠64):bt mc n st=some { st with pile:=n % mc.b::st.pile }:=by unfold bt;rw [if_neg h]
theorem vq {n:Int} (h:st.pile.length=64):bt mc n st=none:=by unfold bt;rw [if_pos h]
theorem eE {x:Int} (h:st.pile=x::r):cQ st=some (x,{ st with pile:=r }):=by unfold cQ;rw [h]
theorem mO {x b:Int} (h0:0≤x) (h1:x < b):x % b=x:=Int.emod_eq_of_lt h0 h1
theorem pK (T:Txt P w K mg) (IY:FnOk P w K mg base CX0 k T.GD T.GF ["_law_name","_law_one","_law_other","_law_base"] (spD K xr)):FnOk P w K mg base CX0 (k+1) T.GU T.GY ["_law_name","_law_number","_law_pile","_law_args","_law_base"] (zE K):=by
 refine T.Ib.ok sc__law_does (λvs H Q E h=>?_) (λcdv A outer s H vs Q E hr h=>?_)
 ·obtain ⟨nm,num,lp,vg,mc,st,rfl,_⟩:=h;rfl
 have nd:=sc__law_does.nd
 obtain ⟨nm,num,lp,vg,mc,st,rfl,hss,hp,hg,oc,os,ok,bad⟩:=h
 refine ⟨_,(ak (aT (az cC (pv 0) (aC (ag aw (ag aw (ag aw af)))) (by with_unfolding_all rfl)) (ak (aT (PW.pt (fM (az m3 (aO aL rfl T.Ei bH (ag (pv 2) af)) aj (aJ _)) (eG (PW.pt (m9 (az bK (pv 0) aw (aJ _)) (kq (az m3 (pv 1) aj (aJ _)))))))) (aq (aE cV)) aF)
 (aq (aX (cW PySem.F.plainAttrs_list PySem.F.slot_list_append PySem.F.type_list_append br (pv 2) (ag (cN (az bK (pv 0) aw (aJ _)) (aN aI (pv 3) (pv 1) (λ_ _=>rfl)) (aU cH (pv 1) (pv 4))) af))))) (aq (aT (az cC (pv 0) (aC (ag aw (ag aw af))) (by with_unfolding_all rfl)) (ak (aT (PW.pt (fM (az (pT hr) (pv 2) (bu af) (aJ _)) (eG (PW.pt (m9 (az bK (pv 0) aw (aJ _)) (kq (az m3 (aO aL rfl T.Ei bH (ag (pv 2) af)) aj (aJ _)))))))) (aq (aE cV)) aF)
 (aq (aX (cW PySem.F.plainAttrs_list PySem.F.slot_list_append PySem.F.type_list_append br (pv 2) (ag (cN (az bK (pv 0) aw (aJ _)) (aN ix_list (pv 2) (Da CT aj) (λ_ _=>rfl)) (aU cH (aU ck (m6 PySem.F.plainAttrs_list PySem.F.slot_list_pop PySem.F.type_list_pop mP (pv 2)) (pv 1)) (pv 4))) af))))) (ak (aT (az jE (aO aL rfl T.Ei bH (ag (pv 2) af)) aj (aJ _)) (aq (aE cV)) aF)
 (ak (tT (i:=5) (j:=6) rfl nd rfl rfl (by decide) rfl rfl (ag (m6 PySem.F.plainAttrs_list PySem.F.slot_list_pop PySem.F.type_list_pop mP (pv 2)) (ag (m6 PySem.F.plainAttrs_list PySem.F.slot_list_pop PySem.F.type_list_pop mP (pv 2)) af)) (by kernel_rfl))
 (aq (aT (az bK (pv 0) aw (aJ _)) (aq (aX (cW PySem.F.plainAttrs_list PySem.F.slot_list_extend PySem.F.type_list_extend ef (pv 2) (ag (bu (ag (pv 5) (ag (pv 6) af))) af)))) (aq (aX (cW PySem.F.plainAttrs_list PySem.F.slot_list_append PySem.F.type_list_append br (pv 2) (ag (aD IY hr rfl T.Jc T.HN.kp (mf T) .nil aQ (ag (pv 0) (ag (pv 6) (ag (pv 5) (ag (pv 4) af))))) af)))))))))))
 (aq (aE cV))),?_⟩
 have b2:=oc.b2
 have l64:=os.l
 have ll:=pY st.pile
 have LP:∀ {G:Hp},G lp=some (.lst (pV st.pile))->LD K G (st.pile.reverse.map D.int) (.ref lp):=λh=>LD.of h (cU _)
 refine bX (RT.use (b:=decide (nm ∈ (["put","far","load"]:List Str))) (au (gh (ys:=["put","far","load"]) (ae (K:=K) (k:=0) (Dat.strI nm)) (aB (aa av (aa av (aa av ao)))))) λH1 s1=>?_)
 have hp1:=s1 _ _ hp
 by_cases cA:nm ∈ (["put","far","load"]:List Str)
 ·rw [decide_eq_true cA]
  have et:lM nm num=(decide (nm="load") && decide ((3:Int) < num)):=by
   by_cases hz:nm="load"
   ·subst hz
    rw [zK,decide_eq_true (rfl:("load":Str)="load"),Bool.true_and];exact j8 (by omega)
   ·rw [zL hz (λz=>by rw [z] at cA;revert cA;decide +kernel) (λz=>by rw [z] at cA;revert cA;decide +kernel),decide_eq_false hz];rfl
  have ew:cY mc nm num st=bt mc (if nm="load" then mc.as.getD num 0 else num) st:=by
   unfold cY
   by_cases hz:nm="load"
   ·rw [if_neg (by rw [hz];decide +kernel),if_pos hz,if_pos hz]
   ·rw [if_pos (by rcases List.mem_cons.mp cA with z | z;rw [z];exact List.mem_cons_self;rcases List.mem_cons.mp z with z | z;rw [z];exact List.mem_cons_of_mem _ List.mem_cons_self;exact absurd (List.mem_singleton.mp z) hz),if_neg hz]
  refine jQ (aA (K:=K) (b:=decide (st.pile.length=64) || (decide (nm="load") && decide ((3:Int) < num))) (cO (RT.as (au (bC (p:=λi j=>decide (j < i)) (dq (bW (k:=2) (LP hp1))) ah)) (j8 (by rw [List.length_map,List.length_reverse];omega))) λ_=>jh (au (aR (ae (K:=K) (k:=0) (Dat.strI nm)) av)) λ_=>au (bC (p:=λi j=>decide (j < i)) (ae (K:=K) (k:=1) (Dat.intI (num:Int))) ah)) (λc H2 s2=>?_) (λc H2 s2=>?_))
  ·refine bad ?_ H2 _ (s1.trans s2).but (s2 _ _ hp1)
   unfold doR
   rw [et]
   cases hz:(decide (nm="load") && decide ((3:Int) < num)) with
   | true=>rfl
   | false =>
    rw [hz,Bool.or_false] at c
    rw [if_neg Bool.false_ne_true,ew,vq (of_decide_eq_true c)]
  ·rw [Bool.or_eq_false_iff] at c
   have nl:=of_decide_eq_false c.1
   have ed:doR mc nm num st=some { st with pile:=(if nm="load" then mc.as.getD num 0 else (num:Int) % mc.b)::st.pile }:=by
    unfold doR
    rw [et,c.2,if_neg Bool.false_ne_true,ew,gE nl]
    by_cases hz:nm="load"
    ·rw [if_pos hz,if_pos hz]
     have h3:num≤3:=by
      rw [decide_eq_true hz,Bool.true_and] at c
      have:=of_decide_eq_false c.2
      omega
     have hm:=oc.ai (mc.as.getD num 0) (by
      rw [List.getD_eq_getElem?_getD,List.getElem?_eq_getElem (by have:=oc.as;omega:num < mc.as.length)]
      exact List.getElem_mem _)
     rw [mO hm.1 hm.2]
    ·rw [if_neg hz,if_neg hz]
   refine rY (K:=K) (d:=.int (if nm="load" then mc.as.getD num 0 else (num:Int) % mc.b)) (jG (b:=decide (nm="load")) (au (aR (ae (K:=K) (k:=0) (Dat.strI nm)) av)) (λcz=>?_) (λcz=>?_)) (s2 _ _ hp1) (by omega) λy G b hG dy=>?_
   ·have cz:=of_decide_eq_true cz
    rw [if_pos cz]
    have h3:num≤3:=by
     rw [decide_eq_true cz,Bool.true_and] at c
     have:=of_decide_eq_false c.2
     omega
    have la:=oc.as
    exact aM (k:=num) (ae (k:=3) ((s1.trans s2).dat hg)) (ae (k:=1) (Dat.intI (num:Int))) (by
     rw [List.getElem?_map,List.getElem?_eq_getElem (by omega:num < mc.as.length),List.getD_eq_getElem?_getD,List.getElem?_eq_getElem (by omega:num < mc.as.length)]
     rfl)
   ·rw [if_neg (of_decide_eq_false cz)]
    exact eZ (ae (k:=1) (Dat.intI (num:Int))) (ae (k:=4) (Dat.intI mc.b)) (by omega)
   ·rw [dy.intE] at hG
    exact ok _ ed G ((s1.trans s2).but.trans b) (by rw [dW];exact hG)
 rw [decide_eq_false cA]
 have et:lM nm num=false:=zL (λz=>cA (by rw [z];decide +kernel)) (λz=>by rw [z] at hss;revert hss;decide +kernel) (λz=>by rw [z] at hss;revert hss;decide +kernel)
 have ew:doR mc nm num st=(cQ st).bind λu =>
  if nm="more" then bt mc (u.1+num) u.2
  else if nm="twice" then (bt mc u.1 u.2).bind λs=>bt mc u.1 s
  else if nm="about" then (cQ u.2).bind λl=>(bt mc u.1 l.2).bind λs=>bt mc l.1 s
  else (cQ u.2).bind λl=>bt mc (two nm l.1 u.1 mc.b) l.2:=by
  unfold doR cY
  rw [et,if_neg Bool.false_ne_true,if_neg (λz=>cA (by rcases List.mem_cons.mp z with z | z;rw [z];exact List.mem_cons_self;rw [List.mem_singleton.mp z];decide +kernel)),if_neg (λz=>cA (by rw [z];decide +kernel))]
 rw [ew] at ok bad
 refine jP (RT.use (b:=decide (nm ∈ (["more","twice"]:List Str))) (au (gh (ys:=["more","twice"]) (ae (K:=K) (k:=0) (Dat.strI nm)) (aB (aa av (aa av ao))))) λH2 s2=>?_)
 have hp2:=s2 _ _ hp1
 have s12:=s1.trans s2
 by_cases cB:nm ∈ (["more","twice"]:List Str)
 ·rw [decide_eq_true cB]
  have hn:=zu (K:=K) (k:=2) (σ:=eP ["_law_name","_law_number","_law_pile","_law_args_here","_law_base","_law_other","_law_one"] [.str nm,.int num,.ref lp,vg,.int mc.b]) hp2 (cU st.pile.reverse) (dE _) (by rw [cJ];decide)
  rw [ka] at hn
  refine jQ (aA (K:=K) (b:=(st.pile.reverse.map D.int).isEmpty || (decide (nm="twice") && decide (st.pile.length=64))) (cO (au hn) λ_=>jh (au (aR (ae (K:=K) (k:=0) (Dat.strI nm)) av)) λ_=>RT.as (au (bC (p:=λi j=>decide (j < i)) (dq (bW (k:=2) (LP hp2))) ah)) (j8 (by rw [List.length_map,List.length_reverse];omega))) (λc H3 s3=>?_) (λc H3 s3=>?_))
  ·refine bad ?_ H3 _ (s12.trans s3).but (s3 _ _ hp2)
   cases hq:st.pile with
   | nil=>unfold cQ;rw [hq];rfl
   | cons x r =>
    rw [hq] at c
    have e0:((x::r).reverse.map D.int).isEmpty=false:=by simp
    rw [e0,Bool.false_or,Bool.and_eq_true] at c
    have ct:=of_decide_eq_true c.1
    have cl:r.length+1=64:=of_decide_eq_true c.2
    rw [eE hq,Option.bind_some,if_neg (by rw [ct];decide +kernel),if_pos ct,gE (by show r.length≠64;omega),Option.bind_some,vq (by show r.length+1=64;exact cl)]
  ·rw [Bool.or_eq_false_iff] at c
   obtain ⟨x,r,hx⟩:∃ x r,st.pile=x::r:=by
    cases hq:st.pile with
    | nil=>rw [hq] at c;exact nomatch c.1
    | cons x r=>exact ⟨x,r,rfl⟩
   have xb:=os.p x (by rw [hx];exact List.mem_cons_self)
   have rl:r.length+1≤64:=by rw [hx] at l64;exact l64
   have hp3:H3 lp=some (.lst (pV r++[.int x])):=by rw [← dW,← hx];exact s3 _ _ hp2
   have s13:=s12.trans s3
   have lr:=pY r
   refine ⟨_,rfl,.inl ⟨rfl,_,SqL.of hp3⟩,RT.use (b:=decide (nm="twice")) (au (aR (ae (K:=K) (k:=0) (Dat.strI nm)) av)) λH4 s4=>?_⟩
   have hp4:=s4 _ _ hp3
   by_cases ct:nm="twice"
   ·rw [decide_eq_true ct]
    have c64:r.length+1≠64:=by
     rw [decide_eq_true ct,Bool.true_and,hx] at c
     exact of_decide_eq_false c.2
    refine jQ (RE.use (wN (d:=.int x) (ds:=r.reverse.map D.int) (bW (K:=K) (k:=2) (LD.of hp4 (Dats.append (cU r.reverse) (Dats.cons (Dat.intI x) Dats.nil)))) (Dj ah)) λv H5 s5 qv=>?_)
    rw [qv.intE]
    refine ⟨lp,_,_,rfl,rfl,s5 _ _ hp4,cE (by rw [List.length_append];show (pV r).length+1≤1000;omega),?_⟩
    refine ok { st with pile:=x::x::r } ?_ _ ((s13.trans (s4.trans s5)).but.trans (But.upd (Same.refl _).but)) (by rw [ay,dW,dW])
    rw [eE hx,Option.bind_some,if_neg (by rw [ct];decide +kernel),if_pos ct,gE (by show r.length≠64;omega),Option.bind_some,gE (by show r.length+1≠64;exact c64),mO xb.1 xb.2]
   ·rw [decide_eq_false ct]
    have cm:nm="more":=by
     rcases List.mem_cons.mp cB with z | z
     ·exact z
     ·exact absurd (List.mem_singleton.mp z) ct
    refine jP (zg hp4 ⟨_,rfl,x,num,rfl,rfl,_,rfl,x+num,mc.b,rfl,rfl,by show 0 < mc.b;omega,lp,pV r,_,rfl,rfl,ay,cE (by omega),?_⟩)
    refine ok { st with pile:=(x+num) % mc.b::r } ?_ _ ((s13.trans s4).but.trans (But.upd (But.upd (Same.refl _).but))) (by rw [ay,dW])
    rw [eE hx,Option.bind_some,if_pos cm,gE (by show r.length≠64;omega)]
 rw [decide_eq_false cB]
 have nm1:¬ nm="more":=λz=>cB (by rw [z];decide +kernel)
 have nm2:¬ nm="twice":=λz=>cB (by rw [z];decide +kernel)
 refine jP (aA (K:=K) (b:=decide (st.pile.length < 2)) (RT.as (au (bC (p:=λi j=>decide (i < j)) (dq (bW (k:=2) (LP hp2))) ah)) (j8 (by rw [List.length_map,List.length_reverse];omega))) (λc H3 s3=>?_) (λc H3 s3=>?_))
 ·have c:=of_decide_eq_true c
  refine bad ?_ H3 _ (s12.trans s3).but (s3 _ _ hp2)
  match hq:st.pile,c with
  | [],_=>unfold cQ;rw [hq];rfl
  | [x],_ =>
   rw [eE hq,Option.bind_some,if_neg nm1,if_neg nm2]
   have e:cQ { st with pile:=[] }=none:=rfl
   split <;> (rw [e];rfl)
  | _::_::_,c=>exact absurd c (by simp)
 ·have c:=of_decide_eq_false c
  obtain ⟨u,l,r,hx⟩:∃ u l r,st.pile=u::l::r:=by
   match hq:st.pile,c with
   | [],c=>exact absurd c (by simp)
   | [x],c=>exact absurd c (by simp)
   | u::l::r,_=>exact ⟨u,l,r,rfl⟩
  have ub:=os.p u (by rw [hx];exact List.mem_cons_self)
  have lb:=os.p l (by rw [hx];exact List.mem_cons_of_mem _ List.mem_cons_self)
  have rl:r.length+2≤64:=by rw [hx] at l64;exact l64
  have lr:=pY r
  have s13:=s12.trans s3
  have hp3:H3 lp=some (.lst ((pV r++[.int l])++[.int u])):=by rw [← dW,← dW,← hx];exact s3 _ _ hp2
  refine zg hp3 (zg ay ⟨_,_,rfl,?_⟩)
  generalize e5:upd (upd H3 lp _) lp (.lst (pV r))=H5
  have hp5:H5 lp=some (.lst (pV r)):=by rw [← e5];exact ay
  have b5:But lp H H5:=by rw [← e5];exact s13.but.trans (But.upd (But.upd (Same.refl _).but))
  refine RT.use (b:=decide (nm="about")) (au (aR (ae (K:=K) (k:=0) (Dat.strI nm)) av)) λH6 s6=>?_
  have hp6:=s6 _ _ hp5
  have b6:=b5.trans s6.but
  by_cases ca:nm="about"
  ·rw [decide_eq_true ca]
   refine jQ ⟨_,rfl,.inl ⟨rfl,_,SqL.of hp6⟩,_,rfl,_,rfl,gL (show 2≤1000 by decide),λlb2 nb=>?_⟩
   have nlb:lp≠lb2:=λz=>by rw [← z,hp6] at nb;cases nb
   refine ⟨lp,lb2,_,_,rfl,rfl,by rw [aK nlb];exact hp6,ay,gL (by show (pV r).length+2≤1000;omega),?_⟩
   refine ok { st with pile:=l::u::r } ?_ _ ((b6.trans (aG nb _).but).trans (But.upd (Same.refl _).but)) (by rw [ay,dW,dW,List.append_assoc];rfl)
   rw [eE hx,Option.bind_some,if_neg nm1,if_neg nm2,if_pos ca,eE (st:={ st with pile:=l::r }) rfl,Option.bind_some,gE (by show r.length≠64;omega),Option.bind_some,gE (by show r.length+1≠64;omega),mO ub.1 ub.2,mO lb.1 lb.2]
  ·rw [decide_eq_false ca]
   have okO:okO nm:=by
    have h:=hss
    simp only [S10,List.mem_cons,List.not_mem_nil,or_false] at h
    rcases h with h | h | h | h | h | h | h | h | h | h
    ·exact absurd (by rw [h];decide +kernel) cA
    ·exact absurd (by rw [h];decide +kernel) cA
    ·exact absurd (by rw [h];decide +kernel) cA
    ·exact .inl h
    ·exact .inr (.inl h)
    ·exact .inr (.inr (.inl h))
    ·exact .inr (.inr (.inr h))
    ·exact absurd h nm1
    ·exact absurd h nm2
    ·exact absurd h ca
   have tw:=zP (o:=nm) (x:=l) (y:=u) b2
   refine jP (rY (K:=K) (d:=.int (two nm l u mc.b)) (aS (R:=xr) (aa (ae (k:=0) (Dat.strI nm)) (aa (ae (k:=6) (Dat.intI l)) (aa (ae (k:=5) (Dat.intI u)) (aa (ae (k:=4) (Dat.intI mc.b)) ao)))) ⟨nm,l,u,mc.b,rfl,okO,b2,oc.b9,lb.1,lb.2,ub.1,ub.2,rfl⟩) hp6 (by omega) λy G b hG dy=>?_)
   rw [dy.intE] at hG
   refine ok { st with pile:=two nm l u mc.b::r } ?_ G (b6.trans b) (by rw [dW];exact hG)
   rw [eE hx,Option.bind_some,if_neg nm1,if_neg nm2,if_neg ca,eE (st:={ st with pile:=l::r }) rfl,Option.bind_some,gE (by show r.length≠64;omega),mO tw.1 tw.2]
theorem zA:RL K (fO (fU K sy) [] E cu) σ H (NM.map D.str):=dJ λH1 s Q q=>⟨[],_,Dats.nil,⟨rfl,rfl⟩,λr us H' s' h n d=>q r us H' n s' h d⟩
def jF:Nat->List Int->List Int
 | _,[]=>[]
 | i,c::r=>c * ([1,100].getD i 0)::jF (i+1) r
theorem rJ:∀ (i:Nat) (ns:List Int),(jF i ns).length=ns.length
 | _,[]=>rfl
 | i,c::r=>by rw [jF,List.length_cons,List.length_cons,rJ]
theorem rH:∀ (ns:List Int) (i k:Nat),(jF i ns)[k]?=ns[k]?.map λc=>c * ([1,100].getD (i+k) 0)
 | [],_,_=>by simp [jF]
 | c::r,i,0=>by simp [jF]
 | c::r,i,k+1=>by
  rw [jF,List.getElem?_cons_succ,List.getElem?_cons_succ,rH r (i+1) k]
  congr 2
  funext c
  rw [show i+1+k=i+(k+1) by omega]
theorem yT:ns.length≤2->(jF 0 ns).sum=rb ns:=by
 intro h
 match ns,h with
 | [],_=>rfl
 | [a],_=>show a * 1+0=(0:Int) * 100+a;omega
 | [a,b],_=>show a * 1+(b * 100+0)=((0:Int) * 100+b) * 100+a;omega
theorem lW (h:RE K te σ G d) (hl:G l=some (.lst xs)) (hx:xs.length≤900)
  (q:∀ y G',But l G G'->G' l=some (.lst (xs++[y]))->Dat K G' d y->En.nx σ G') (hv:σ[j]?=some (some (.ref l)):=by rfl):lD (tBM K "list" iw (cx j) (bf te cu)) En σ G:=by
 refine ⟨_,hv,.inl ⟨rfl,_,SqL.of hl⟩,h.use λy H1 s1 q1=>?_⟩
 have hl1:=s1 _ _ hl
 refine ⟨l,xs,y,rfl,rfl,hl1,cE (by omega),?_⟩
 have b:But l H1 (upd H1 l (.lst (xs++[y]))):=But.upd (Same.refl _).but
 exact q y _ (s1.but.trans b) ay (Dat.mono (b.grow hl1 ay) _ q1)
theorem zd {tb:TS} (h:te σ H λx H1=>∃ a,x=.ref a/\(∃ xs,SqT K H1 a xs)/\∃ W:Nat->Nat->L2.St->Hp->Prop,(∃ m,W 0 m σ H1)/\∀ i m σ H,W i m σ H ->
   ((Itt K a).stop i H/\En.nx σ H)\/((Itt K a).go i H/\∃ N:L2.St->Hp->Prop,(∀ σ' H',N σ' H'->∃ m',m' < m/\W (i+1) m' σ' H')/\∀ x H',(Itt K a).yld i H x H'->g x σ H' λσ2 H2=>tb { En with nx:=N,ct:=N,bk:=En.nx } σ2 H2)):Ds (wc K te) g tb En σ H:=h
def sv (ds es:List D):Prop:=∃ (cl:List Cl) (nums ks:List Int),ds=[.tup (cl.map clD),.tup (nums.map D.int),.tup (ks.map D.int)]/\(∀ c ∈ cl,mq nums.length ks.length c=true)/\cl.length≤12/\es=cl.map λc=>D.int (cK nums ks c)
theorem pM (T:Txt P w K mg)  : FnOk P w K mg base CX0 (k+1) T.GV T.GZ ["_law_cells","_law_nums","_law_ks"] (fU K sv):=by
 refine T.Ic.ok sc__law_fill (λvs H Q E h=>?_) (λcdv A outer s H vs Q E hr h=>?_)
 ·obtain ⟨ds,es,hd,⟨cl,nums,ks,rfl,_⟩,_⟩:=h;exact hd.length.symm
 have nd:=sc__law_fill.nd
 obtain ⟨ds,es,hd,⟨cl,nums,ks,rfl,okc,lc,rfl⟩,post⟩:=h
 obtain ⟨v0,v1,v2,rfl,h0,h1,h2⟩:=kW hd
 have h0:Dat K H (.tup (cl.map clD)) v0:=h0
 have h1:Dat K H (.tup (nums.map D.int)) v1:=h1
 have h2:Dat K H (.tup (ks.map D.int)) v2:=h2
 obtain ⟨a,us,rfl,ha,hus⟩:=h0.tupE
 have lu:=hus.length
 rw [List.length_map] at lu
 refine ⟨_,(ak (ba (i:=3) nd rfl (Or.inl rfl) (bu af))
 (ak (dM PassesOwn.never rfl (jU (pv 0)) (aH (i:=4) nd rfl (Or.inl rfl)) (aq (aT (cI (bz (aO (dP iY) rfl T.D5 bR (bZ (pv 4) (bZ (fg (v:=.ty "tuple") rfl T.Hx fw rfl) af))) (λ_=>rfl))) (aq (aX (cW PySem.F.plainAttrs_list PySem.F.slot_list_append PySem.F.type_list_append br (pv 3) (ag (pv 4) af)))) (aq (aT (az bK (aN aI (pv 4) aj (λ_ _=>rfl)) aw (aJ _)) (aq (aX (cW PySem.F.plainAttrs_list PySem.F.slot_list_append PySem.F.type_list_append br (pv 3) (ag (aN aI (pv 2) (aN aI (pv 4) aj (λ_ _=>rfl)) (λ_ _=>rfl)) af)))) (aq (aX (cW PySem.F.plainAttrs_list PySem.F.slot_list_append PySem.F.type_list_append br (pv 3) (ag (cN (az bK (aN aI (pv 4) aj (λ_ _=>rfl)) aw (aJ _)) (aU cH (aN aI (pv 1) (aN aI (pv 4) aj (λ_ _=>rfl)) (λ_ _=>rfl)) aj) (aU lS (aN aI (pv 1) (aN aI (pv 4) aj (λ_ _=>rfl)) (λ_ _=>rfl)) aj)) af)))))))))
 (aq (aE (pv 3))))),?_⟩
 refine fJ ⟨gL (by decide),λl hl=>?_⟩
 have s1:Same H (upd H l (.lst [])):=aG hl _
 refine bX (zd (K:=K) ⟨_,rfl,a,rfl,⟨us,s1.sqT ha⟩,pj (xs:=us) (λi σ G=>∃ (z:Option V) (ys:List V),σ=[some (.ref a),some v1,some v2,some (.ref l),z]/\Same H G/\G l=some (.lst ys)/\Dats K G ((cl.take i).map λc=>D.int (cK nums ks c)) ys) ?_ (λi σ G _ ⟨_,_,_,p,_⟩=>p.sqT ha) ?_ ?_⟩)
 ·exact ⟨none,[],rfl,s1,ay,by rw [List.take_zero];exact Dats.nil⟩
 ·rintro i vx σ G hi ⟨z,ys,rfl,sG,hlG,dy⟩
  obtain ⟨dx,ex,hx⟩:=(sG.dats hus).getV hi
  rw [List.getElem?_map] at ex
  cases hc:cl[i]? with
  | none=>rw [hc] at ex;cases ex
  | some c =>
   rw [hc] at ex
   cases ex
   have okc:=okc c (List.mem_of_getElem? hc)
   have et:cl.take (i+1)=cl.take i++[c]:=by rw [List.take_add_one,hc];rfl
   have lys:ys.length≤12:=by rw [← dy.length,List.length_map,List.length_take];omega
   refine dj ?_
   dsimp only
   have fin:∀ {G1 G2:Hp} {y:V} {b:Option V},Same G G1->But l G1 G2->G2 l=some (.lst (ys++[y]))->Dat K G2 (.int (cK nums ks c)) y->∃ (z:Option V) (ys:List V),[some (.ref a),some v1,some v2,some (.ref l),b]=[some (.ref a),some v1,some v2,some (.ref l),z]/\Same H G2/\G2 l=some (.lst ys)/\Dats K G2 ((cl.take (i+1)).map λc=>D.int (cK nums ks c)) ys:=λ{G1 G2 y b} s1 b2 h2 q2=>by
    have g2:dD K G1 G2:=b2.grow (s1 _ _ hlG) h2
    refine ⟨_,ys++[y],rfl,λx o hx=>b2 x o (bh hx hl) (s1 _ _ (sG _ _ hx)),h2,?_⟩
    rw [et,List.map_append]
    exact Dats.append (Dats.mono g2 _ (s1.dats dy)) (Dats.cons q2 Dats.nil)
   cases c with
   | n j =>
    have hx:Dat K G (.int j) vx:=hx
    refine dQ (b:=true) (bD (aV (bI (K:=K) (ae (k:=4) hx)))) (λ_ G1 s1=>?_) (λc=>nomatch c)
    exact lW (K:=K) (d:=.int j) (ae (k:=4) (s1.dat hx)) (s1 _ _ hlG) (by omega) λy G2 b2 h2 q2=>fin s1 b2 h2 q2
   | arg j =>
    have hx:Dat K G (.tup [.str "arg",.int j]) vx:=hx
    have okc:=of_decide_eq_true okc
    refine dQ (b:=false) (bD (aV (bI (K:=K) (ae (k:=4) hx)))) (λc=>nomatch c) (λ_ G1 s1=>?_)
    have hx:=s1.dat hx
    refine dQ (b:=true) (RT.as (au (aR (aM (k:=0) (ae (k:=4) hx) ah rfl) av)) (decide_eq_true rfl)) (λ_ G2 s2=>?_) (λc=>nomatch c)
    have s12:=s1.trans s2
    exact lW (K:=K) (d:=.int (ks.getD j 0)) (aM (k:=j) (ae (k:=2) ((sG.trans s12).dat h2)) (aM (k:=1) (ae (k:=4) (s2.dat hx)) ah rfl) (dF okc)) (s12 _ _ hlG) (by omega) λy G3 b3 h3 q3=>fin s12 b3 h3 q3
   | low j =>
    have hx:Dat K G (.tup [.str "low",.int j]) vx:=hx
    have okc:=of_decide_eq_true okc
    refine dQ (b:=false) (bD (aV (bI (K:=K) (ae (k:=4) hx)))) (λc=>nomatch c) (λ_ G1 s1=>?_)
    have hx:=s1.dat hx
    refine dQ (b:=false) (RT.as (au (aR (aM (k:=0) (ae (k:=4) hx) ah rfl) av)) (decide_eq_false (by decide +kernel))) (λc=>nomatch c) (λ_ G2 s2=>?_)
    have s12:=s1.trans s2
    have hx:=s2.dat hx
    refine lW (K:=K) (d:=.int (nums.getD j 0 % 100)) (jG (b:=true) (RT.as (au (aR (aM (k:=0) (ae (k:=4) hx) ah rfl) av)) (decide_eq_true rfl)) (λ_=>eZ (aM (k:=j) (ae (k:=1) ((sG.trans s12).dat h1)) (aM (k:=1) (ae (k:=4) hx) ah rfl) (dF okc)) ah (by decide)) (λc=>nomatch c)) (s12 _ _ hlG) (by omega) λy G3 b3 h3 q3=>fin s12 b3 h3 q3
   | high j =>
    have hx:Dat K G (.tup [.str "high",.int j]) vx:=hx
    have okc:=of_decide_eq_true okc
    refine dQ (b:=false) (bD (aV (bI (K:=K) (ae (k:=4) hx)))) (λc=>nomatch c) (λ_ G1 s1=>?_)
    have hx:=s1.dat hx
    refine dQ (b:=false) (RT.as (au (aR (aM (k:=0) (ae (k:=4) hx) ah rfl) av)) (decide_eq_false (by decide +kernel))) (λc=>nomatch c) (λ_ G2 s2=>?_)
    have s12:=s1.trans s2
    have hx:=s2.dat hx
    refine lW (K:=K) (d:=.int (nums.getD j 0 / 100)) (jG (b:=false) (RT.as (au (aR (aM (k:=0) (ae (k:=4) hx) ah rfl) av)) (decide_eq_false (by decide +kernel))) (λc=>nomatch c) (λ_=>vC (aM (k:=j) (ae (k:=1) ((sG.trans s12).dat h1)) (aM (k:=1) (ae (k:=4) hx) ah rfl) (dF okc)) ah ⟨by decide,by decide⟩)) (s12 _ _ hlG) (by omega) λy G3 b3 h3 q3=>fin s12 b3 h3 q3
 ·rintro σ G ⟨z,ys,rfl,sG,hlG,dy⟩
  rw [← lu,List.take_length] at dy
  exact ⟨_,rfl,post l ys G sG hlG hl dy⟩
theorem wY (rows:List (List Int)) (c:List Int):(gj rows c).length=rows.length * c.length:=by
 unfold gj
 induction rows with
 | nil=>simp
 | cons r rows ih=>rw [List.flatMap_cons,List.length_append,ih,List.length_map,List.length_cons,Nat.succ_mul];omega
theorem uq (rows:List (List Int)) (r c:List Int):gj (rows++[r]) c=gj rows c++c.map λx=>r++[x]:=by
 unfold gj
 rw [List.flatMap_append]
 simp
theorem pO (T:Txt P w K mg)  : FnOk P w K mg base CX0 (k+1) T.GW T.Ha ["_law_choices"] (iF K):=by
 refine T.Fx.ok sc__law_rows (λvs H Q E h=>?_) (λcdv A outer s H vs Q E hr h=>?_)
 ·obtain ⟨a,us,css,rfl,_⟩:=h;rfl
 have nd:=sc__law_rows.nd
 obtain ⟨a,us,css,rfl,hq,hL,⟨h20,hok⟩,post⟩:=h
 refine ⟨_,(ak (ba (i:=1) nd rfl (Or.inl rfl) (bu (ag (aC af) af)))
 (ak (dM PassesOwn.never rfl (b0 (pv 0)) (aH (i:=2) nd rfl (Or.inl rfl)) (ak (ba (i:=3) nd rfl (Or.inl rfl) (bu af))
 (ak (dM PassesOwn.never rfl (b0 (pv 1)) (aH (i:=4) nd rfl (Or.inr rfl)) (aq (aX (cW PySem.F.plainAttrs_list PySem.F.slot_list_extend PySem.F.type_list_extend ef (pv 3) (ag (cZ (own:=["_law_one"]) (fr:=[4]) (N':=["_law_one","_law_row"]) (b0 (pv 2)) rfl (by show cR ["_law_choices","_law_made","_law_some","_law_longer","_law_row"] (λx=>(ax fE).names.lookup x) _ _ _ _=true;decide +kernel) rfl (λ_ _ _ _ _=>(aH (i:=0) (by show List.Nodup [("_law_one":Str),("_law_row":Str)];decide +kernel) rfl (Or.inl rfl))) (λ_ _ _ _ _=>cn) (λ_ _ _ _ _=>(aU (r:=rO K) pS (pv 1) (aC (ag (pv 0) af))))) af)))))
 (aq (ba (i:=1) nd rfl (Or.inl rfl) (pv 3))))))
 (aq (aE (pv 1))))),?_⟩
 have ll:=hL.length
 rw [List.length_map] at ll
 refine dY (K:=K) (es:=[.tup []]) (bw (aa (aB ao) ao)) λl ys H1 nl s1 hy dy=>?_
 refine bX ⟨_,rfl,a,rfl,⟨us,s1.seq hq⟩,kb (K:=K) (a:=a) (xs:=us) (λi σ G=>∃ (z2 z3 z4:Option V) (l:Addr) (ys:List V),σ=[some (.ref a),some (.ref l),z2,z3,z4]/\Same H G/\H l=none/\G l=some (.lst ys)/\Dats K G ((bg (css.take i)).map tI) ys) ?_ ?_ ?_ ?_⟩
 ·exact ⟨none,none,none,l,ys,rfl,s1,nl,hy,dy⟩
 ·rintro i σ G hi ⟨z2,z3,z4,l,ys,rfl,sG,nl,hy,dy⟩
  exact sG.seq hq
 ·rintro i x σ G hx ⟨z2,z3,z4,l,ys,rfl,sG,nl,hy,dy⟩
  have hi:i < us.length:=(List.getElem?_eq_some_iff.mp hx).1
  have hic:i < css.length:=by omega
  obtain ⟨v,hv,hld⟩:=(sG.lds hL).get (i:=i) (es:=css[i].map D.int) (by rw [List.getElem?_map,List.getElem?_eq_getElem hic];rfl)
  rw [hx] at hv
  cases hv
  have eg:css.getD i []=css[i]:=by rw [List.getD_eq_getElem?_getD,List.getElem?_eq_getElem hic];rfl
  have hm:=hok i hic
  rw [eg] at hm
  have et:bg (css.take (i+1))=gj (bg (css.take i)) css[i]:=by rw [List.take_add_one,List.getElem?_eq_getElem hic];exact oQ _ _
  have lr:∀ r ∈ bg (css.take i),r.length≤20:=λr hr=>by
   have:=fD _ r hr
   rw [List.length_take] at this
   omega
  generalize bg (css.take i)=rows at dy hm et lr
  generalize css[i]=ci at hld hm et
  have ly:=dy.length
  rw [List.length_map] at ly
  refine dj ?_
  dsimp only
  refine dY (K:=K) (es:=[]) (bw ao) λl2 ys2 G1 nl2 t1 hy2 dy2=>?_
  obtain rfl:=dy2.nilE
  refine bX ⟨_,rfl,l,rfl,⟨ys,SqL.of (t1 _ _ hy)⟩,kb (K:=K) (a:=l) (xs:=ys) (λj σ F=>∃ (z4:Option V) (zs:List V),σ=[some (.ref a),some (.ref l),some x,some (.ref l2),z4]/\Same G F/\F l2=some (.lst zs)/\Dats K F ((gj (rows.take j) ci).map tI) zs) ?_ (λj σ F _ ⟨_,_,_,sF,_⟩=>SqL.of (sF _ _ hy)) ?_ ?_⟩
  ·exact ⟨z4,[],rfl,t1,hy2,by rw [List.take_zero];exact Dats.nil⟩
  ·rintro j y σ F hj ⟨z4,zs,rfl,sF,hz,dz⟩
   obtain ⟨dr,hr0,hry⟩:=(sF.dats dy).getV hj
   rw [List.getElem?_map] at hr0
   obtain ⟨r,hr,rfl⟩:=Option.map_eq_some_iff.mp hr0
   have lj:j < rows.length:=(List.getElem?_eq_some_iff.mp hr).1
   have hrl:=lr r (List.mem_of_getElem? hr)
   have lz:=dz.length
   rw [List.length_map,wY,List.length_take,Nat.min_eq_left (by omega)] at lz
   have hmj:j * ci.length+ci.length≤1000:=by
    have:(j+1) * ci.length≤rows.length * ci.length:=Nat.mul_le_mul_right _ lj
    rw [Nat.succ_mul] at this
    omega
   refine dj ?_
   dsimp only
   refine jr (K:=K) (es:=ci.map λx=>tI (r++[x])) (zp (bW (k:=2) (sF.ld hld)) (by rw [List.length_map];omega) _ (by simp) rfl (λF2 m c v d t2 hc hd hv=>?_)) hz (by rw [List.length_map];omega) λws F2 b2 hz2 dw=>?_
   ·rw [List.getElem?_map] at hc hd
    cases hx:ci[m]? with
    | none=>rw [hx] at hc;cases hc
    | some x0 =>
     rw [hx] at hc hd
     cases hc
     cases hd
     refine RE.as (qf (ae (k:=1) (t2.dat hry)) (aB (aa (ae (k:=0) hv) ao)) (by rw [List.length_map,List.length_cons,List.length_nil];omega)) ?_
     show D.tup (r.map D.int++[D.int x0])=D.tup ((r++[x0]).map D.int)
     rw [List.map_append]
     rfl
   ·refine ⟨some y,zs++ws,rfl,λb o e=>b2 b o (λz=>by rw [z,nl2] at e;cases e) (sF b o e),hz2,?_⟩
    rw [List.take_add_one,hr]
    rw [show (some r).toList=[r] from rfl,uq,List.map_append,List.map_map]
    exact Dats.append (Dats.mono (b2.grow hz hz2) _ dz) dw
  ·rintro σ F ⟨z4,zs,rfl,sF,hz,dz⟩
   refine ⟨_,rfl,some x,some (.ref l2),z4,l2,zs,rfl,sG.trans sF,sG.free nl2,hz,?_⟩
   rw [et]
   rw [← ly,List.take_length] at dz
   exact dz
 ·rintro σ G ⟨z2,z3,z4,l,ys,rfl,sG,nl,hy,dy⟩
  rw [← ll,List.take_length] at dy
  exact ⟨_,rfl,post l ys G sG hy nl dy⟩
def bO (k:Str):Pa->List D
 | .hole i=>if "hole"=k then [toP (.hole i)] else []
 | .gap i m=>if "gap"=k then [toP (.gap i m)] else []
 | .slot i=>if "slot"=k then [toP (.slot i)] else []
 | .num n=>if "num"=k then [toP (.num n)] else []
 | .two o a b=>if o=k then [toP (.two o a b)] else bO k a++bO k b
theorem AJ {a b:Pa} (h:n0 (.two o a b)=true):(o="add"\/o="sub"\/o="mul"\/o="less")/\n0 a=true/\n0 b=true:=by
 have h:((decide (o="add") || decide (o="sub") || decide (o="mul") || decide (o="less")) && (n0 a && n0 b))=true:=h
 rw [Bool.and_eq_true,Bool.and_eq_true] at h
 exact ⟨nJ h.1,h.2.1,h.2.2⟩
theorem d9 (k:Str):∀ p:Pa,(bO k p).length≤2 ^ aZ p
 | .hole i=>by unfold bO;split <;> simp [aZ]
 | .gap i m=>by unfold bO;split <;> simp [aZ]
 | .slot i=>by unfold bO;split <;> simp [aZ]
 | .num n=>by unfold bO;split <;> simp [aZ]
 | .two o a b=>by
  have ha:=d9 k a
  have hb:=d9 k b
  have e1:2 ^ aZ a≤2 ^ max (aZ a) (aZ b):=Nat.pow_le_pow_right (by decide) (Nat.le_max_left _ _)
  have e2:2 ^ aZ b≤2 ^ max (aZ a) (aZ b):=Nat.pow_le_pow_right (by decide) (Nat.le_max_right _ _)
  have e3:2 ^ aZ (.two o a b)=2 * 2 ^ max (aZ a) (aZ b):=by show 2 ^ (1+max (aZ a) (aZ b))=_;rw [Nat.pow_add]
  rw [e3]
  unfold bO
  split
  ·show 1≤_
   have:0 < 2 ^ max (aZ a) (aZ b):=Nat.pow_pos (by decide)
   omega
  ·rw [List.length_append]
   omega
theorem gX {k:Str}:∀ (n:Nat) (p:Pa),aZ p≤n->n0 p=true->bx n k (toP p)=bO k p
 | 0,p,h,_=>by cases p <;> simp only [aZ] at h <;> omega
 | n+1,.hole i,_,_=>by
  show (if decide ("hole"=k)=true then [toP (.hole i)] else (bV (toP (.hole i))).flatMap (bx n k))=if "hole"=k then _ else _
  rw [show bV (toP (.hole i))=[] from gU (by decide +kernel)]
  by_cases h:"hole"=k <;> simp [h]
 | n+1,.gap i m,_,_=>by
  show (if decide ("gap"=k)=true then [toP (.gap i m)] else (bV (toP (.gap i m))).flatMap (bx n k))=if "gap"=k then _ else _
  rw [show bV (toP (.gap i m))=[] from gU (by decide +kernel)]
  by_cases h:"gap"=k <;> simp [h]
 | n+1,.slot i,_,_=>by
  show (if decide ("slot"=k)=true then [toP (.slot i)] else (bV (toP (.slot i))).flatMap (bx n k))=if "slot"=k then _ else _
  rw [show bV (toP (.slot i))=[] from gU (by decide +kernel)]
  by_cases h:"slot"=k <;> simp [h]
 | n+1,.num i,_,_=>by
  show (if decide ("num"=k)=true then [toP (.num i)] else (bV (toP (.num i))).flatMap (bx n k))=if "num"=k then _ else _
  rw [show bV (toP (.num i))=[] from gU (by decide +kernel)]
  by_cases h:"num"=k <;> simp [h]
 | n+1,.two o a b,h,ho=>by
  obtain ⟨h1,h2,h3⟩:=AJ ho
  have h:1+max (aZ a) (aZ b)≤n+1:=h
  show (if decide (o=k)=true then [toP (.two o a b)] else (bV (toP (.two o a b))).flatMap (bx n k))=if o=k then _ else _
  rw [show bV (toP (.two o a b))=[toP a,toP b] by show (if KTD.inKeys o TB=true then _ else _)=_;rw [if_pos (by rcases h1 with rfl | rfl | rfl | rfl <;> decide +kernel)]]
  rw [List.flatMap_cons,List.flatMap_cons,List.flatMap_nil,List.append_nil,gX n a (by omega) h2,gX n b (by omega) h3]
  by_cases h:o=k <;> simp [h]
def d6 (n:Nat) (ds es:List D):Prop:=∃ (p:Pa) (k:Str),ds=[toP p,.str k]/\aZ p≤n/\n≤3/\es=bO k p
theorem nA {k:Str} {r:List D} {v0 v1:V} (h0:Dat K H (.tup (.str o::r)) v0) (h1:Dat K H (.str k) v1) (e0:σ[0]?=some (some v0):=by rfl) (e1:σ[1]?=some (some v1):=by rfl):RE K (tOp rEq (tOp (rQ K) (cx 0) (tC (.int 0))) (cx 1)) σ H (.bl (decide (o=k))) :=
 aR (aM (k:=0) (ae (k:=0) h0 e0) ah rfl) (ae (k:=1) h1 e1)
theorem AB (ds es:List D):¬ d6 0 ds es:=λ⟨p,_,_,h,_⟩=>by cases p <;> simp only [aZ] at h <;> omega
theorem nU (T:Txt P w K mg) (DY:FnOk P w K mg base CX0 k T.Em T.Eo ["_law_pattern","_law_head"] (fU K (d6 n))):FnOk P w K mg base CX0 (k+1) T.Em T.Eo ["_law_pattern","_law_head"] (fU K (d6 (n+1))):=by
 refine T.DZ.ok sc__law_marks (λvs H Q E h=>?_) (λcdv A outer s H vs Q E hr h=>?_)
 ·obtain ⟨ds,es,hd,⟨p,k',rfl,_⟩,_⟩:=h;exact hd.length.symm
 have nd:=sc__law_marks.nd
 obtain ⟨ds,es,hd,⟨p,k',rfl,dp,n3,rfl⟩,post⟩:=h
 obtain ⟨v0,v1,rfl,h0,h1⟩:=gy hd
 refine ⟨_,(ak (aT (az bK (aN aI (pv 0) aj (λ_ _=>rfl)) (pv 1) (aJ _)) (aq (aE (bu (ag (pv 0) af)))) aF)
 (ak (aT (PW.pt (m9 (az bK (aO aL rfl T.Ei bH (ag (pv 0) af)) aj (aJ _)) (kq (bz (aO (dP iY) rfl T.D5 bR (bZ (aN aI (pv 0) aj (λ_ _=>rfl)) (bZ (fg (v:=.ty "tuple") rfl T.Hx fw rfl) af))) (λ_=>rfl))))) (aq (aE (aU kn (aD DY hr rfl T.Ec T.DZ.kp (cy T) .nil aQ (ag (aN aI (pv 0) aj (λ_ _=>rfl)) (ag (pv 1) af))) (aD DY hr rfl T.Ec T.DZ.kp (cy T) .nil aQ (ag (aN aI (pv 0) aj (λ_ _=>rfl)) (ag (pv 1) af)))))) aF)
 (aq (aE (bu af))))),?_⟩
 cases p with
 | hole i =>
  have h0:Dat K H (.tup (.str "hole"::[.int i])) v0:=h0
  refine aA (K:=K) (b:=decide ("hole"=k')) (au (nA h0 h1)) (λc H1 s1=>?_) (λc H1 s1=>?_)
  ·refine hE (RC.use (K:=K) (bw (aa (ae (k:=0) (s1.dat h0)) ao)) λl ys H2 nl s2 hy dy=>post l ys H2 (s1.trans s2) hy (s1.free nl) ?_)
   unfold bO
   rw [if_pos (of_decide_eq_true c)]
   exact dy
  ·refine aA (K:=K) (b:=false) (RT.as (jh (b:=false) (c:=false) (RT.as (au (dC (bQ (ae (k:=0) (s1.dat h0))) ah)) rfl) λz=>nomatch z) rfl) (λc=>nomatch c) (λ_ H2 s2=>?_)
   refine hE (RC.use (K:=K) (bw ao) λl ys H3 nl s3 hy dy=>post l ys H3 (s1.trans (s2.trans s3)) hy ((s1.trans s2).free nl) ?_)
   unfold bO
   rw [if_neg (of_decide_eq_false c)]
   exact dy
 | gap i m =>
  have h0:Dat K H (.tup (.str "gap"::[.int i,.int m])) v0:=h0
  refine aA (K:=K) (b:=decide ("gap"=k')) (au (nA h0 h1)) (λc H1 s1=>?_) (λc H1 s1=>?_)
  ·refine hE (RC.use (K:=K) (bw (aa (ae (k:=0) (s1.dat h0)) ao)) λl ys H2 nl s2 hy dy=>post l ys H2 (s1.trans s2) hy (s1.free nl) ?_)
   unfold bO
   rw [if_pos (of_decide_eq_true c)]
   exact dy
  ·refine aA (K:=K) (b:=false) (RT.as (jh (b:=true) (c:=false) (RT.as (au (dC (bQ (ae (k:=0) (s1.dat h0))) ah)) rfl) λ_=>RT.as (aV (bI (aM (k:=1) (ae (k:=0) (s1.dat h0)) ah rfl))) rfl) rfl) (λc=>nomatch c) (λ_ H2 s2=>?_)
   refine hE (RC.use (K:=K) (bw ao) λl ys H3 nl s3 hy dy=>post l ys H3 (s1.trans (s2.trans s3)) hy ((s1.trans s2).free nl) ?_)
   unfold bO
   rw [if_neg (of_decide_eq_false c)]
   exact dy
 | slot i =>
  have h0:Dat K H (.tup (.str "slot"::[.int i])) v0:=h0
  refine aA (K:=K) (b:=decide ("slot"=k')) (au (nA h0 h1)) (λc H1 s1=>?_) (λc H1 s1=>?_)
  ·refine hE (RC.use (K:=K) (bw (aa (ae (k:=0) (s1.dat h0)) ao)) λl ys H2 nl s2 hy dy=>post l ys H2 (s1.trans s2) hy (s1.free nl) ?_)
   unfold bO
   rw [if_pos (of_decide_eq_true c)]
   exact dy
  ·refine aA (K:=K) (b:=false) (RT.as (jh (b:=false) (c:=false) (RT.as (au (dC (bQ (ae (k:=0) (s1.dat h0))) ah)) rfl) λz=>nomatch z) rfl) (λc=>nomatch c) (λ_ H2 s2=>?_)
   refine hE (RC.use (K:=K) (bw ao) λl ys H3 nl s3 hy dy=>post l ys H3 (s1.trans (s2.trans s3)) hy ((s1.trans s2).free nl) ?_)
   unfold bO
   rw [if_neg (of_decide_eq_false c)]
   exact dy
 | num i =>
  have h0:Dat K H (.tup (.str "num"::[.int i])) v0:=h0
  refine aA (K:=K) (b:=decide ("num"=k')) (au (nA h0 h1)) (λc H1 s1=>?_) (λc H1 s1=>?_)
  ·refine hE (RC.use (K:=K) (bw (aa (ae (k:=0) (s1.dat h0)) ao)) λl ys H2 nl s2 hy dy=>post l ys H2 (s1.trans s2) hy (s1.free nl) ?_)
   unfold bO
   rw [if_pos (of_decide_eq_true c)]
   exact dy
  ·refine aA (K:=K) (b:=false) (RT.as (jh (b:=false) (c:=false) (RT.as (au (dC (bQ (ae (k:=0) (s1.dat h0))) ah)) rfl) λz=>nomatch z) rfl) (λc=>nomatch c) (λ_ H2 s2=>?_)
   refine hE (RC.use (K:=K) (bw ao) λl ys H3 nl s3 hy dy=>post l ys H3 (s1.trans (s2.trans s3)) hy ((s1.trans s2).free nl) ?_)
   unfold bO
   rw [if_neg (of_decide_eq_false c)]
   exact dy
 | two o a b =>
  have dp:1+max (aZ a) (aZ b)≤n+1:=dp
  have h0:Dat K H (.tup (.str o::[toP a,toP b])) v0:=h0
  refine aA (K:=K) (b:=decide (o=k')) (au (nA h0 h1)) (λc H1 s1=>?_) (λc H1 s1=>?_)
  ·refine hE (RC.use (K:=K) (bw (aa (ae (k:=0) (s1.dat h0)) ao)) λl ys H2 nl s2 hy dy=>post l ys H2 (s1.trans s2) hy (s1.free nl) ?_)
   unfold bO
   rw [if_pos (of_decide_eq_true c)]
   exact dy
  ·refine aA (K:=K) (b:=true) (RT.as (jh (b:=true) (c:=true) (RT.as (au (dC (bQ (ae (k:=0) (s1.dat h0))) ah)) rfl) λ_=>RT.as (aV (bI (aM (k:=1) (ae (k:=0) (s1.dat h0)) ah rfl))) (by cases a <;> rfl)) rfl) (λ_ H2 s2=>?_) (λc=>nomatch c)
   have s12:=s1.trans s2
   have la:=d9 k' a
   have lb:=d9 k' b
   have ea:2 ^ aZ a≤2 ^ 3:=Nat.pow_le_pow_right (by decide) (by omega)
   have eb:2 ^ aZ b≤2 ^ 3:=Nat.pow_le_pow_right (by decide) (by omega)
   refine hE (RC.use (K:=K) (kr (dJ (dm (R:=d6 n) (aa (aM (k:=1) (ae (k:=0) (s12.dat h0)) ah rfl) (aa (ae (k:=1) (s12.dat h1)) ao)) ⟨a,k',rfl,by omega,by omega,rfl⟩)) (dJ (dm (R:=d6 n) (aa (aM (k:=2) (ae (k:=0) (s12.dat h0)) ah rfl) (aa (ae (k:=1) (s12.dat h1)) ao)) ⟨b,k',rfl,by omega,by omega,rfl⟩)) (by omega)) λl ys H3 nl s3 hy dy=>post l ys H3 (s12.trans s3) hy (s12.free nl) ?_)
   unfold bO
   rw [if_neg (of_decide_eq_false c)]
   exact dy
def oZ (n:Nat) (ds:List D) (d:D):Prop:=∃ (p:Pa) (hs nums ks as:List Int) (b:Int),ds=[toP p,qw hs nums ks as,.int b]/\okF hs.length nums.length ks.length p=true/\aZ p≤n/\okT (fpT hs nums ks p)/\argsOk as b/\(∀ x ∈ hs,0≤x/\x < b)/\d=.int (bJ as b (fpT hs nums ks p))
theorem zT (ds:List D) (d:D):¬ oZ 0 ds d:=λ⟨p,_,_,_,_,_,_,_,h,_⟩=>by cases p <;> simp only [aZ] at h <;> omega
theorem gT {l:List Int} (h:i < l.length):l.getD i 0 ∈ l:=by
 rw [List.getD_eq_getElem?_getD,List.getElem?_eq_getElem h]
 exact List.getElem_mem h
theorem nW (T:Txt P w K mg) (IY:FnOk P w K mg base CX0 k T.GD T.GF ["_law_name","_law_one","_law_other","_law_base"] (spD K xr)) (Ho:FnOk P w K mg base CX0 k T.E9 T.Fc ["_law_pattern","_law_trial","_law_base"] (spD K (oZ n))):FnOk P w K mg base CX0 (k+1) T.E9 T.Fc ["_law_pattern","_law_trial","_law_base"] (spD K (oZ (n+1))):=by
 refine T.FE.ok sc__law_value (λvs H Q E h=>?_) (λcdv A outer s H vs Q E hr h=>?_)
 ·obtain ⟨ds,d,hd,⟨p,hs,nums,ks,as,b,rfl,_⟩,_⟩:=h;exact hd.length.symm
 have nd:=sc__law_value.nd
 obtain ⟨ds,d,hd,⟨p,hs,nums,ks,as,b,rfl,okp,dp,okt,ha,hhs,rfl⟩,post⟩:=h
 obtain ⟨v0,v1,v2,rfl,h0,h1,h2⟩:=kW hd
 obtain rfl:=h2.intE
 refine ⟨_,(ak (eX (pv 1) (fH rfl (aW (aH (i:=3) nd rfl (Or.inl rfl)) (aW (aH (i:=4) nd rfl (Or.inl rfl)) (aW (aH (i:=5) nd rfl (Or.inl rfl)) (aW (aH (i:=6) nd rfl (Or.inl rfl)) dX))))))
 (ak (aT (az bK (aN aI (pv 0) aj (λ_ _=>rfl)) aw (aJ _)) (aq (aE (aN aI (pv 3) (aN aI (pv 0) aj (λ_ _=>rfl)) (λ_ _=>rfl)))) aF)
 (ak (aT (az cC (aN aI (pv 0) aj (λ_ _=>rfl)) (aC (ag aw (ag aw af))) (by with_unfolding_all rfl)) (aq (aE (aU cH (cN (az bK (aN aI (pv 0) aj (λ_ _=>rfl)) aw (aJ _)) (aN aI (pv 4) (aN aI (pv 0) aj (λ_ _=>rfl)) (λ_ _=>rfl)) (aN aI (pv 0) aj (λ_ _=>rfl))) (pv 2)))) aF)
 (ak (aT (az bK (aN aI (pv 0) aj (λ_ _=>rfl)) aw (aJ _)) (aq (aE (aN aI (pv 6) (aN aI (pv 5) (aN aI (pv 0) aj (λ_ _=>rfl)) (λ_ _=>rfl)) (λ_ _=>rfl)))) aF)
 (aq (aE (aD IY hr rfl T.Jc T.HN.kp (mf T) .nil aQ (ag (aN aI (pv 0) aj (λ_ _=>rfl)) (ag (aD Ho hr rfl T.Hv T.FE.kp (ib T) .nil aQ (ag (aN aI (pv 0) aj (λ_ _=>rfl)) (ag (pv 1) (ag (pv 2) af)))) (ag (aD Ho hr rfl T.Hv T.FE.kp (ib T) .nil aQ (ag (aN aI (pv 0) aj (λ_ _=>rfl)) (ag (pv 1) (ag (pv 2) af)))) (ag (pv 2) af))))))))))),?_⟩
 have hb0:0 < b:=by have:=ha.2.2.1;omega
 cases p with
 | hole i =>
  have h0:Dat K H (.tup [.str "hole",.int i]) v0:=h0
  refine eJ (K:=K) (ae (k:=1) h1) λv3 v4 v5 v6 H1 s1 q3 q4 q5 q6=>?_
  have h0:=s1.dat h0
  refine aA (K:=K) (b:=true) (RT.as (au (aR (aM (k:=0) (ae (k:=0) h0) ah rfl) av)) (decide_eq_true (by decide +kernel))) (λ_ H2 s2=>?_) (λc=>nomatch c)
  have h0:=s2.dat h0
  obtain ⟨ei,hi⟩:=ik okp
  rw [ei] at h0
  have e:bJ as b (fpT hs nums ks (.hole i))=hs.getD i.toNat 0:=by
   have:=hhs _ (gT hi)
   exact Int.emod_eq_of_lt this.1 this.2
  rw [e] at post
  exact aP (K:=K) (d:=.int (hs.getD i.toNat 0)) (aM (k:=i.toNat) (ae (k:=3) (s2.dat q3)) (aM (k:=1) (ae (k:=0) h0) ah rfl) (dF hi)) λv H' s q=>post v H' (s1.trans (s2.trans s)) q
 | gap i m =>
  have h0:Dat K H (.tup [.str "gap",.int i,.int m]) v0:=h0
  refine eJ (K:=K) (ae (k:=1) h1) λv3 v4 v5 v6 H1 s1 q3 q4 q5 q6=>?_
  have h0:=s1.dat h0
  refine aA (K:=K) (b:=false) (RT.as (au (aR (aM (k:=0) (ae (k:=0) h0) ah rfl) av)) (decide_eq_false (by decide +kernel))) (λc=>nomatch c) (λ_ H2 s2=>?_)
  have h0:=s2.dat h0
  refine aA (K:=K) (b:=true) (RT.as (au (gh (ys:=["gap","num"]) (aM (k:=0) (ae (k:=0) h0) ah rfl) (aB (aa av (aa av ao))))) (decide_eq_true (by decide +kernel))) (λ_ H3 s3=>?_) (λc=>nomatch c)
  have h0:=s3.dat h0
  obtain ⟨ei,hi⟩:=ik okp
  rw [ei] at h0
  have s23:=s2.trans s3
  exact aP (K:=K) (d:=.int (nums.getD i.toNat 0 % b)) (eZ (jG (b:=true) (RT.as (au (aR (aM (k:=0) (ae (k:=0) h0) ah rfl) av)) (decide_eq_true rfl)) (λ_=>aM (k:=i.toNat) (ae (k:=4) (s23.dat q4)) (aM (k:=1) (ae (k:=0) h0) ah rfl) (dF hi)) (λc=>nomatch c)) (ae (k:=2) (Dat.intI b)) hb0) λv H' s q=>post v H' (s1.trans (s23.trans s)) q
 | slot i =>
  have h0:Dat K H (.tup [.str "slot",.int i]) v0:=h0
  refine eJ (K:=K) (ae (k:=1) h1) λv3 v4 v5 v6 H1 s1 q3 q4 q5 q6=>?_
  have h0:=s1.dat h0
  refine aA (K:=K) (b:=false) (RT.as (au (aR (aM (k:=0) (ae (k:=0) h0) ah rfl) av)) (decide_eq_false (by decide +kernel))) (λc=>nomatch c) (λ_ H2 s2=>?_)
  have h0:=s2.dat h0
  refine aA (K:=K) (b:=false) (RT.as (au (gh (ys:=["gap","num"]) (aM (k:=0) (ae (k:=0) h0) ah rfl) (aB (aa av (aa av ao))))) (decide_eq_false (by decide +kernel))) (λc=>nomatch c) (λ_ H3 s3=>?_)
  have h0:=s3.dat h0
  refine aA (K:=K) (b:=true) (RT.as (au (aR (aM (k:=0) (ae (k:=0) h0) ah rfl) av)) (decide_eq_true (by decide +kernel))) (λ_ H4 s4=>?_) (λc=>nomatch c)
  have h0:=s4.dat h0
  obtain ⟨ei,hi⟩:=ik okp
  rw [ei] at h0
  have s24:=s2.trans (s3.trans s4)
  have hk:0≤ks.getD i.toNat 0/\ks.getD i.toNat 0≤3:=okt
  have ek:ks.getD i.toNat 0=(((ks.getD i.toNat 0).toNat:Nat):Int):=by omega
  exact aP (K:=K) (d:=.int (as.getD (ks.getD i.toNat 0).toNat 0)) (aM (k:=(ks.getD i.toNat 0).toNat) (ae (k:=6) (s24.dat q6)) (RE.as (aM (k:=i.toNat) (ae (k:=5) (s24.dat q5)) (aM (k:=1) (ae (k:=0) h0) ah rfl) (dF hi)) (congrArg D.int ek)) (dF (by have:=ha.1;omega))) λv H' s q=>post v H' (s1.trans (s24.trans s)) q
 | num i =>
  have h0:Dat K H (.tup [.str "num",.int i]) v0:=h0
  refine eJ (K:=K) (ae (k:=1) h1) λv3 v4 v5 v6 H1 s1 q3 q4 q5 q6=>?_
  have h0:=s1.dat h0
  refine aA (K:=K) (b:=false) (RT.as (au (aR (aM (k:=0) (ae (k:=0) h0) ah rfl) av)) (decide_eq_false (by decide +kernel))) (λc=>nomatch c) (λ_ H2 s2=>?_)
  have h0:=s2.dat h0
  refine aA (K:=K) (b:=true) (RT.as (au (gh (ys:=["gap","num"]) (aM (k:=0) (ae (k:=0) h0) ah rfl) (aB (aa av (aa av ao))))) (decide_eq_true (by decide +kernel))) (λ_ H3 s3=>?_) (λc=>nomatch c)
  have h0:=s3.dat h0
  have s23:=s2.trans s3
  exact aP (K:=K) (d:=.int (i % b)) (eZ (jG (b:=false) (RT.as (au (aR (aM (k:=0) (ae (k:=0) h0) ah rfl) av)) (decide_eq_false (by decide +kernel))) (λc=>nomatch c) (λ_=>aM (k:=1) (ae (k:=0) h0) ah rfl)) (ae (k:=2) (Dat.intI b)) hb0) λv H' s q=>post v H' (s1.trans (s23.trans s)) q
 | two o x y =>
  have h0:Dat K H (.tup [.str o,toP x,toP y]) v0:=h0
  refine eJ (K:=K) (ae (k:=1) h1) λv3 v4 v5 v6 H1 s1 q3 q4 q5 q6=>?_
  have h0:=s1.dat h0
  have okp:((decide (o="add") || decide (o="sub") || decide (o="mul") || decide (o="less")) && (okF hs.length nums.length ks.length x && okF hs.length nums.length ks.length y))=true:=okp
  rw [Bool.and_eq_true,Bool.and_eq_true] at okp
  have ho:=nJ okp.1
  obtain ⟨n1,n2,n3,n4⟩:=zQ ho
  have dp:1+max (aZ x) (aZ y)≤n+1:=dp
  have okt:okO o/\okT (fpT hs nums ks x)/\okT (fpT hs nums ks y):=okt
  refine aA (K:=K) (b:=false) (RT.as (au (aR (aM (k:=0) (ae (k:=0) h0) ah rfl) av)) (decide_eq_false n1)) (λc=>nomatch c) (λ_ H2 s2=>?_)
  have h0:=s2.dat h0
  refine aA (K:=K) (b:=false) (RT.as (au (gh (ys:=["gap","num"]) (aM (k:=0) (ae (k:=0) h0) ah rfl) (aB (aa av (aa av ao))))) (decide_eq_false (λz=>by rcases List.mem_cons.mp z with z | z;exact n2 z;exact n4 (List.mem_singleton.mp z)))) (λc=>nomatch c) (λ_ H3 s3=>?_)
  have h0:=s3.dat h0
  refine aA (K:=K) (b:=false) (RT.as (au (aR (aM (k:=0) (ae (k:=0) h0) ah rfl) av)) (decide_eq_false n3)) (λc=>nomatch c) (λ_ H4 s4=>?_)
  have h0:=s4.dat h0
  have s14:=s1.trans (s2.trans (s3.trans s4))
  have h1:=s14.dat h1
  have wx:=hX ha (fpT hs nums ks x) okt.2.1
  have wy:=hX ha (fpT hs nums ks y) okt.2.2
  exact aP (K:=K) (d:=.int (two o (bJ as b (fpT hs nums ks x)) (bJ as b (fpT hs nums ks y)) b)) (aS (R:=xr) (aa (aM (k:=0) (ae (k:=0) h0) ah rfl) (aa (aS (R:=oZ n) (d:=.int (bJ as b (fpT hs nums ks x))) (aa (aM (k:=1) (ae (k:=0) h0) ah rfl) (aa (ae (k:=1) h1) (aa (ae (k:=2) (Dat.intI b)) ao))) ⟨x,hs,nums,ks,as,b,rfl,okp.2.1,by omega,okt.2.1,ha,hhs,rfl⟩) (aa (aS (R:=oZ n) (d:=.int (bJ as b (fpT hs nums ks y))) (aa (aM (k:=2) (ae (k:=0) h0) ah rfl) (aa (ae (k:=1) h1) (aa (ae (k:=2) (Dat.intI b)) ao))) ⟨y,hs,nums,ks,as,b,rfl,okp.2.2,by omega,okt.2.2,ha,hhs,rfl⟩) (aa (ae (k:=2) (Dat.intI b)) ao)))) ⟨o,_,_,b,rfl,ho,ha.2.2.1,ha.2.2.2,wx.1,wx.2,wy.1,wy.2,rfl⟩) λv H' s q=>post v H' (s14.trans s) q
theorem Dh {K:PySem.W.Frag} {ts:TS} (h:te σ H λx H'=>∃ k,sC K x H' k/\if (!k)=true then ts { En with nx:=us En } σ H' else us En σ H'):jZ (Bi (CL (λσ H Q=>te σ H λx H'=>∃ k,sC K x H' k/\Q k H')) ts iJ) us En σ H:=h
def nG (K:PySem.W.Frag):Sp:=λvs H Q _=>∃ (lc lp:Addr) (vg:V) (mc:MC) (st:MS) (r:Option MS),vs=[.ref lc,.ref lp,vg,.int mc.b]/\st.place=0/\tF mc/\gq mc st/\H lc=some (.lst (mc.cs.map V.int))/\H lp=some (.lst (pV st.pile))/\lc≠lp/\Dat K H (.tup (mc.as.map D.int)) vg/\goS mc 20 st=some r /\
 (∀ s,r=some s->∀ H',But lp H H'->H' lp=some (.lst (pV s.pile))->Q (.ref lp) H')/\(r=none->∀ H' zs,But lp H H'->H' lp=some (.lst zs)->Q .non H')
theorem mV (T:Txt P w K mg) (JF:FnOk P w K mg base CX0 k T.FK T.FR ["_law_number"] (spD K BL)) (JQ:FnOk P w K mg base CX0 k T.Gm T.Gu [] (fU K sy)) (JZ:FnOk P w K mg base CX0 k T.GU T.GY ["_law_name","_law_number","_law_pile","_law_args","_law_base"] (zE K)):FnOk P w K mg base CX0 (k+1) T.FL T.FS ["_law_cells","_law_pile","_law_args","_law_base"] (nG K):=by
 refine T.GO.ok sc__law_leaves (λvs H Q E h=>?_) (λcdv A outer s H vs Q E hr h=>?_)
 ·obtain ⟨lc,lp,vg,mc,st,r,rfl,_⟩:=h;rfl
 have nd:=sc__law_leaves.nd
 obtain ⟨lc,lp,vg,mc,st,r,rfl,p0,oc,os,hc,hp,ncp,hg,hgo,ok,bad⟩:=h
 refine ⟨_,(ak (ba (i:=4) nd rfl (Or.inl rfl) aj)
 (ak (m8 PassesOwn.never (az jE (pv 4) (aO aL rfl T.Ei bH (ag (pv 0) af)) (aJ _)) (ak (ba (i:=5) nd rfl (Or.inl rfl) (aD JF hr rfl T.IR T.GN.kp (nN T) .nil aQ (ag (aN ix_list (pv 0) (pv 4) (λ_ _=>rfl)) af)))
 (ak (ba (i:=6) nd rfl (Or.inl rfl) (jc sl_list (pv 0) (gC (aU ck (pv 4) aj)) (gC (aU ck (aU ck (pv 4) aj) (pv 5)))))
 (ak (ba (i:=7) nd rfl (Or.inl rfl) (aO (xK rfl) rfl T.Kw BW (ag (cZ (own:=["_law_spot","_law_cell"]) (fr:=[]) (N':=["_law_spot","_law_cell"]) (yN rfl T.Jv (ag (pv 6) af)) rfl (by show cR ["_law_cells","_law_pile","_law_args","_law_base","_law_at","_law_many","_law_behind_here","_law_number"] (λx=>(ax dR).names.lookup x) _ _ _ _=true;decide +kernel) rfl (λ_ _ _ _ _=>(AL (K:=K) (n:=2) rfl rfl (aW (aH (i:=0) (by show List.Nodup [("_law_spot":Str),("_law_cell":Str)];decide +kernel) rfl (Or.inl rfl)) (aW (aH (i:=1) (by show List.Nodup [("_law_spot":Str),("_law_cell":Str)];decide +kernel) rfl (Or.inl rfl)) dX)))) (λ_ _ _ _ _=>cn) (λ_ _ _ _ _=>(aU kN (pv 1) (aN (r:=rQ K) aI (aC (ag aj (ag aj af))) (pv 0) (λ_ _=>rfl))))) af)))
 (ak (aT (cI (bz (aD JZ hr rfl T.Js T.Ib.kp (qC T) .nil aQ (ag (aN ix_list (rD JQ hr rfl T.Jj T.Hr.kp (o3 T) .nil aQ) (aN ix_list (pv 0) (pv 4) (λ_ _=>rfl)) (λ_ _=>rfl)) (ag (pv 7) (ag (pv 1) (ag (pv 2) (ag (pv 3) af)))))) (λ_=>rfl))) (aq (aE p4)) aF)
 (aq (yU (i:=4) nd rfl (Or.inl rfl) (aU ck aj (aO aL rfl T.Ei bH (ag (pv 6) af))) sY)))))))
 (aq (aE (pv 1))))),?_⟩
 have okc:=oc.cs
 refine bL (K:=K) (d:=.int 0) ah λv4 H1 s1 q4=>?_
 obtain rfl:=q4.intE
 refine bX (sh (λn σ G=>∃ (st:MS) (z5 z6 z7:Option V),σ=[some (.ref lc),some (.ref lp),some vg,some (.int mc.b),some (.int st.place),z5,z6,z7]/\G lc=some (.lst (mc.cs.map V.int))/\Dat K G (.tup (mc.as.map D.int)) vg/\G lp=some (.lst (pV st.pile))/\gq mc st/\But lp H G/\goS mc n st=some r) 20 ?_ ?_)
 ·exact ⟨st,none,none,none,by rw [p0];rfl,s1 _ _ hc,s1.dat hg,s1 _ _ hp,os,s1.but,hgo⟩
 ·rintro n σ G ⟨st,z5,z6,z7,rfl,gc,gg,gp,os,bG,hgo⟩
  have LC:∀ {F:Hp},Same G F->LD K F (cD mc.cs) (.ref lc):=λs=>LD.of (s _ _ gc) (cU _)
  refine ⟨decide ((st.place:Int) < ((cD mc.cs).length:Int)),au (bC (p:=λi j=>decide (i < j)) (ae (K:=K) (k:=4) (Dat.intI (st.place:Int))) (dq (bW (k:=0) (LC (Same.refl _))))),λG1 u1=>?_⟩
  cases n with
  | zero=>cases hgo
  | succ n =>
  have hgo:(match mc.cs[st.place]? with
   | none=>some (some st)
   | some c=>if nmC c ∈ S10/\c≤16/\iU mc.cs st.place c=false then (match doR mc (nmC c) (iM mc.cs st.place c) st with
    | none=>some none
    | some s=>goS mc n { s with place:=st.place+1+bM c }) else none)=some r:=hgo
  cases hcs:mc.cs[st.place]? with
  | none =>
   rw [hcs] at hgo
   have hp':=List.getElem?_eq_none_iff.mp hcs
   rw [decide_eq_false (by rw [List.length_map];omega)]
   have er:some st=r:=Option.some.inj hgo
   exact jP ⟨_,rfl,ok st er.symm G1 (bG.trans u1.but) (u1 _ _ gp)⟩
  | some c =>
  rw [hcs] at hgo
  dsimp only at hgo
  have hlt:=(List.getElem?_eq_some_iff.mp hcs).1
  rw [decide_eq_true (by rw [List.length_map];omega)]
  by_cases hs:nmC c ∈ S10/\c≤16/\iU mc.cs st.place c=false
  ·rw [if_pos hs] at hgo
   obtain ⟨hss,c16,hb⟩:=hs
   obtain ⟨c0,c99⟩:=okc.c _ _ hcs
   have hx':=xJ hcs
   have rc:∀ {F:Hp} {w5 w6 w7:Option V},Same G F->RE K (tOp (yX K) (cx 0) (cx 4)) [some (.ref lc),some (.ref lp),some vg,some (.int mc.b),some (.int st.place),w5,w6,w7] F (.int c):=λs=>zw (k:=st.place) (bW (k:=0) (LC s)) (ae (K:=K) (k:=4) (Dat.intI (st.place:Int))) hx'
   have hn:(NM.map D.str)[c.toNat]?=some (.str (nmC c)):=by rw [List.getElem?_map,B3 c.toNat (by omega)];rfl
   have ec:c=((c.toNat:Nat):Int):=by omega
   refine jQ (bL (K:=K) (d:=.int (bM c)) (aS (R:=BL) (aa (rc u1) ao) ⟨c,rfl,rfl⟩) λv5 G2 u2 d5=>?_)
   obtain rfl:=d5.intE
   have u12:=u1.trans u2
   have el:(st.place:Int)+1=((st.place+1:Nat):Int):=by omega
   have eh:(st.place:Int)+1+(bM c:Int)=((st.place+1+bM c:Nat):Int):=by omega
   refine dY (K:=K) (es:=(nsC mc.cs st.place c).map D.int) (RC.as (AV (lo:=st.place+1) (hi:=st.place+1+bM c) (bW (k:=0) (LC u12)) (RE.as (cq (ae (K:=K) (k:=4) (Dat.intI (st.place:Int))) ah) (congrArg D.int el)) (RE.as (cq (cq (ae (K:=K) (k:=4) (Dat.intI (st.place:Int))) ah) (ae (k:=5) (Dat.intI (bM c:Int)))) (congrArg D.int eh))) (by rw [show st.place+1+bM c - (st.place+1)=bM c by omega];exact uI mc.cs st.place c)) λl11 ys11 G3 n11 u3 hy11 dy11=>?_
   have u13:=u12.trans u3
   have L11:LD K G3 ((nsC mc.cs st.place c).map D.int) (.ref l11):=LD.of hy11 dy11
   have lns:(nsC mc.cs st.place c).length=min (bM c) (mc.cs.length - (st.place+1)):=by unfold nsC;rw [List.length_take,List.length_drop]
   obtain ⟨h16,hlb⟩:=xC hb
   obtain ⟨en,n99⟩:=vi (p:=st.place) (c:=c) okc
   obtain ⟨l2,nsb⟩:=yD (p:=st.place) (c:=c) okc
   have lnb:(nsC mc.cs st.place c).length=bM c:=by rw [lns];omega
   have se:=sf hcs hss hb
   refine bL (K:=K) (d:=.int (iM mc.cs st.place c)) (RE.as (A8 (ns:=jF 0 (nsC mc.cs st.place c)) (dJ (zo (bW (k:=6) L11) (by rw [List.length_map];omega) ((jF 0 (nsC mc.cs st.place c)).map D.int) (by rw [List.length_map,List.length_map,rJ]) (by decide) rfl (λF k cc e w s hcc hee hw=>?_)))) (by rw [yT l2,en])) λv12 G5 u5 d12=>?_
   ·rw [List.getElem?_map] at hcc hee
    rw [rH] at hee
    obtain ⟨x,hx,rfl⟩:=Option.map_eq_some_iff.mp hcc
    rw [hx] at hee
    have ee:D.int (x * ([1,100]:List Int).getD (0+k) 0)=e:=Option.some.inj hee
    subst ee
    have xb:=nsb x (List.mem_of_getElem? hx)
    have k2:k < 2:=by have:=(List.getElem?_eq_some_iff.mp hx).1;omega
    have hg2:([.int 1,.int 100]:List D)[k]?=some (.int (([1,100]:List Int).getD (0+k) 0)):=by
     match k,k2 with
     | 0,_=>rfl
     | 1,_=>rfl
    have gb:([1,100]:List Int).getD (0+k) 0=1\/([1,100]:List Int).getD (0+k) 0=100:=by
     match k,k2 with
     | 0,_=>exact .inl rfl
     | 1,_=>exact .inr rfl
    exact qg (ae (k:=1) hw) (aM (k:=k) (aB (aa ah (aa ah ao))) (ae (k:=0) (Dat.intI (k:Int))) hg2) (.inr ⟨by omega,by omega⟩)
   obtain rfl:=d12.intE
   have u15:=u13.trans u5
   refine Dh (K:=K) (zb (zc (RE.use (K:=K) (zw (k:=c.toNat) zA (RE.as (rc u15) (congrArg D.int ec)) hn) λvn G6 u6 dn=>?_)))
   obtain rfl:=dn.strE
   have u16:=u15.trans u6
   have gp6:=u16 _ _ gp
   refine ⟨_,rfl,_,rfl,_,rfl,_,rfl,nmC c,iM mc.cs st.place c,lp,vg,mc,st,rfl,hss,gp6,u16.dat gg,oc,os,λs' hs9 G9 b9 fp=>⟨true,rfl,?_⟩,λhn9 G9 zs b9 fp=>⟨false,rfl,?_⟩⟩
   ·rw [hs9] at hgo
    have gr:=b9.grow (K:=K) gp6 fp
    have n6:l11≠lp:=λz=>by rw [z,u12 _ _ gp] at n11;cases n11
    have hy9:=b9 _ _ n6 ((u5.trans u6) _ _ hy11)
    have eo:(st.place:Int)+(1+(((nsC mc.cs st.place c).map D.int).length:Int))=((st.place+1+bM c:Nat):Int):=by rw [List.length_map,lnb];omega
    obtain ⟨os2,_⟩:=vH oc os (by rw [se,hs9];rfl:fN mc st=some { s' with place:=st.place+1+bM c })
    refine jP ⟨_,rfl,RE.use (cq (K:=K) ah (dq (bW (k:=6) (LD.of hy9 (Dats.mono gr _ ((u5.trans u6).dats dy11)))))) λv9 GA ua qa=>⟨st.place,1+(((nsC mc.cs st.place c).map D.int).length:Int),rfl,qa.intE,?_⟩⟩
    exact ⟨n,Nat.lt_succ_self n,{ s' with place:=st.place+1+bM c },some (.int (bM c)),some (.ref l11),some (.int (iM mc.cs st.place c)),by rw [← eo];rfl,ua _ _ (b9 _ _ ncp (u16 _ _ gc)),ua.dat (Dat.mono gr _ (u16.dat gg)),ua _ _ fp,os2,((bG.trans u16.but).trans b9).trans ua.but,hgo⟩
   ·rw [hn9] at hgo
    have er:none=r:=Option.some.inj hgo
    exact jQ (bad er.symm G9 zs ((bG.trans u16.but).trans b9) fp)
  ·rw [if_neg hs] at hgo;cases hgo
theorem qi (h:RCL K tl σ H (css.map (·.map D.int))) (ok:il css)
  (q:∀ r ys H',Same H H'->H' r=some (.lst ys)->H r=none->Dats K H' ((bg css).map tI) ys->Q (.ref r) H'):fO (iF K) [] E (bf tl cu) σ H Q :=
 show tl σ H (λx H1=>iF K ([x]++[]) H1 Q E) from
  RCL.use (K:=K) h λl ws H1 nl s1 hy dL=>⟨l,ws,css,rfl,SqL.of hy,dL,ok,λr ys H' s' hr nr dr=>q r ys H' (s1.trans s') hr (s1.free nr) dr⟩
theorem ze {tp:TE} {lc:Addr} {vg:V} {r:Option MS} {ps:List Int} (hp:RC K tp σ G (ps.map D.int)) (hst:st.pile=ps.reverse) (p0:st.place=0) (oc:tF mc) (os:gq mc st) (hc:G lc=some (.lst (mc.cs.map V.int))) (hg:Dat K G (.tup (mc.as.map D.int)) vg) (hgo:goS mc 20 st=some r)
  (q:∀ w GA,Same G GA->((r=none/\w=.non)\/∃ s lp,r=some s/\w=.ref lp/\GA lp=some (.lst (pV s.pile)))->Q w GA) (e7:σ[7]?=some (some (.ref lc)):=by rfl) (e8:σ[8]?=some (some vg):=by rfl) (e1:σ[1]?=some (some (.int mc.b)):=by rfl) :
  fO (nG K) [] E (bf (cx 7) (bf tp (bf (cx 8) (bf (cx 1) cu)))) σ G Q :=
 ⟨_,e7,RC.use (K:=K) hp λlp yp G9 np t9 hyp dyp=>by
  obtain rfl:=j9 dyp
  have ncp:lc≠lp:=λz=>by rw [← z,hc] at np;cases np
  have sA:∀ {GA:Hp},But lp G9 GA->Same G GA:=λbA x o e=>bA x o (λz=>by rw [z,np] at e;cases e) (t9 x o e)
  refine ⟨_,e8,_,e1,lc,lp,vg,mc,st,r,rfl,p0,oc,os,t9 _ _ hc,by rw [hyp,hst];show _=some (HO.lst (ps.reverse.reverse.map V.int));rw [List.reverse_reverse],ncp,t9.dat hg,hgo,λs es GA bA hA=>?_,λer GA zs bA hA=>?_⟩
  ·exact q _ GA (sA bA) (.inr ⟨s,lp,es,rfl,hA⟩)
  ·exact q _ GA (sA bA) (.inl ⟨er,rfl⟩)⟩
theorem Cw (h1:RE K ta σ H .non) (h2:RL K tb σ H es):RE K (tOp (λx y H Q=>yZ K x y H Q\/rP K true x y H Q) ta tb) σ H (.bl true):=λH1 s Q q =>
 h1 H1 s _ λv H2 s2 q2=>h2 H2 (s.trans s2) _ λw H3 s3 q3=>by
  obtain ⟨b,ys,rfl,hb,db⟩:=q3
  exact .inl ⟨b,ys,q2.nonE,rfl,hb.sqL,q _ _ (s2.trans s3) (Dat.blI _)⟩
theorem A5 (h1:RL K ta σ H ds) (h2:RL K tb σ H es) (n:noLs ds=true) (n2:noLs es=true) (d:deepDs ds≤20):RE K (tOp (λx y H Q=>yZ K x y H Q\/rP K true x y H Q) ta tb) σ H (.bl (!eqDs ds es)):=λH1 s Q q =>
 h1 H1 s _ λv H2 s2 q2=>h2 H2 (s.trans s2) _ λw H3 s3 q3=>by
  obtain ⟨a,xs,rfl,ha,da⟩:=s3.ld q2
  obtain ⟨b,ys,rfl,hb,db⟩:=q3
  exact .inr ⟨a,b,xs,ys,ds,es,rfl,rfl,ha.sqL,hb.sqL,da,db,n,n2,d,q _ _ (s2.trans s3) (Dat.blI _)⟩
theorem iN (T:Txt P w K mg) (DY:FnOk P w K mg base CX0 k T.Em T.Eo ["_law_pattern","_law_head"] (fU K (d6 3))) (HY:FnOk P w K mg base CX0 k T.GW T.Ha ["_law_choices"] (iF K)) (J0:FnOk P w K mg base CX0 k T.GV T.GZ ["_law_cells","_law_nums","_law_ks"] (fU K sv)) (JG:FnOk P w K mg base CX0 k T.FL T.FS ["_law_cells","_law_pile","_law_args","_law_base"] (nG K)) (Ho:FnOk P w K mg base CX0 k T.E9 T.Fc ["_law_pattern","_law_trial","_law_base"] (spD K (oZ 3))):FnOk P w K mg base CX0 (k+1) T.Ee T.Ef ["_law_piece","_law_base"] (spD K om):=by
 refine T.EI.ok sc__law_first_failing (λvs H Q E h=>?_) (λcdv A outer s H vs Q E hr h=>?_)
 ·obtain ⟨ds,d,hd,⟨nm,pt,cl,b,rfl,_⟩,_⟩:=h;exact hd.length.symm
 have nd:=sc__law_first_failing.nd
 obtain ⟨ds,d,hd,⟨nm,pt,cl,b,rfl,G,rfl⟩,post⟩:=h
 obtain ⟨v0,v1,rfl,h0,h1⟩:=gy hd
 refine ⟨_,(ak (rM (i:=2) (x0:="_law_gap") (own:=["_law_gap"]) (fr:=[]) (N':=["_law_gap"]) (b0 (aD DY hr rfl T.Ec T.DZ.kp (cy T) .nil aQ (ag (aN aI (pv 0) aj (λ_ _=>rfl)) (ag aw af)))) rfl (uJ (by show lQ "_law_gap" ["_law_piece","_law_base","_law_gaps","_law_every","_law_holes","_law_nums","_law_ks","_law_cells","_law_args","_law_trial","_law_left"] (λx=>(ax bc).names.lookup x) _ _ _ _=true;decide +kernel)) rfl (λ_ _=>rfl) (λ_=>rfl) rfl (λ_ _ _ _ _ _=>(aH (i:=0) (by show List.Nodup [("_law_gap":Str)];decide +kernel) rfl (Or.inr rfl))) (λ_ _ _ _ _ _=>cn) (λ_ _ _ _ _ _=>(cZ (own:=["_law_one"]) (fr:=[0]) (N':=["_law_one","_law_gap"]) (vj (K:=K) rfl (aC (ag aj (ag aj (ag aj (ag aj (ag aj (ag aj af)))))))) rfl (by kernel_rfl) rfl (λ_ _ _ _ _=>(aH (i:=0) (by show List.Nodup [("_law_one":Str),("_law_gap":Str)];decide +kernel) rfl (Or.inl rfl))) (λ_ _ _ _ _=>(rG (az lB (pv 0) (aN (r:=rQ K) aI (pv 1) aj (λ_ _=>rfl)) (aJ _)))) (λ_ _ _ _ _=>(pv 0)))) nd rfl rfl rfl)
 (ak (ba (i:=3) nd rfl (Or.inr rfl) (cZ (own:=["_law_k"]) (fr:=[]) (N':=["_law_k"]) (jq rfl T.Hw (ag (pv 1) af)) rfl (by show cR ["_law_piece","_law_base","_law_gaps","_law_every","_law_holes","_law_nums","_law_ks","_law_cells","_law_args","_law_trial","_law_left"] (λx=>(ax bc).names.lookup x) _ _ _ _=true;decide +kernel) rfl (λ_ _ _ _ _=>(aH (i:=0) (by show List.Nodup [("_law_k":Str)];decide +kernel) rfl (Or.inl rfl))) (λ_ _ _ _ _=>cn) (λ_ _ _ _ _=>(pv 0))))
 (ak (dM PassesOwn.never rfl (b0 (aD HY hr rfl T.Hg T.Fx.kp (gw T) .nil aQ (ag (cZ (own:=["_law_one"]) (fr:=[3]) (N':=["_law_one","_law_every"]) (b0 (aD DY hr rfl T.Ec T.DZ.kp (cy T) .nil aQ (ag (aN aI (pv 0) aj (λ_ _=>rfl)) (ag aw af)))) rfl (by show cR ["_law_piece","_law_base","_law_gaps","_law_every","_law_holes","_law_nums","_law_ks","_law_cells","_law_args","_law_trial","_law_left"] (λx=>(ax bc).names.lookup x) _ _ _ _=true;decide +kernel) rfl (λ_ _ _ _ _=>(aH (i:=0) (by show List.Nodup [("_law_one":Str),("_law_every":Str)];decide +kernel) rfl (Or.inl rfl))) (λ_ _ _ _ _=>cn) (λ_ _ _ _ _=>(pv 1))) af))) (aH (i:=4) nd rfl (Or.inl rfl)) (aq (dM PassesOwn.never rfl (b0 (aD HY hr rfl T.Hg T.Fx.kp (gw T) .nil aQ (ag (pv 2) af))) (aH (i:=5) nd rfl (Or.inl rfl)) (aq (dM PassesOwn.never rfl (b0 (aD HY hr rfl T.Hg T.Fx.kp (gw T) .nil aQ (ag (cZ (own:=["_law_one"]) (fr:=[]) (N':=["_law_one"]) (b0 (aD DY hr rfl T.Ec T.DZ.kp (cy T) .nil aQ (ag (aN aI (pv 0) aj (λ_ _=>rfl)) (ag aw af)))) rfl (by show cR ["_law_piece","_law_base","_law_gaps","_law_every","_law_holes","_law_nums","_law_ks","_law_cells","_law_args","_law_trial","_law_left"] (λx=>(ax bc).names.lookup x) _ _ _ _=true;decide +kernel) rfl (λ_ _ _ _ _=>(aH (i:=0) (by show List.Nodup [("_law_one":Str)];decide +kernel) rfl (Or.inl rfl))) (λ_ _ _ _ _=>cn) (λ_ _ _ _ _=>(bu (ag aj (ag aj (ag aj (ag aj af))))))) af))) (aH (i:=6) nd rfl (Or.inr rfl)) (ak (ba (i:=7) nd rfl (Or.inl rfl) (aD J0 hr rfl T.Jt T.Ic.kp (qD T) .nil aQ (ag (aN aI (pv 0) aj (λ_ _=>rfl)) (ag (pv 5) (ag (pv 6) af)))))
 (aq (dM PassesOwn.never rfl (b0 (aD HY hr rfl T.Hg T.Fx.kp (gw T) .nil aQ (ag (cZ (own:=["_law_k"]) (fr:=[3,6]) (N':=["_law_k","_law_every","_law_ks"]) (jq rfl T.Hw (ag aj af)) rfl (by show cR ["_law_piece","_law_base","_law_gaps","_law_every","_law_holes","_law_nums","_law_ks","_law_cells","_law_args","_law_trial","_law_left"] (λx=>(ax bc).names.lookup x) _ _ _ _=true;decide +kernel) rfl (λ_ _ _ _ _=>(aH (i:=0) (by show List.Nodup [("_law_k":Str),("_law_every":Str),("_law_ks":Str)];decide +kernel) rfl (Or.inl rfl))) (λ_ _ _ _ _=>cn) (λ_ _ _ _ _=>(cN (az (show OpR _ _ (rIn K false) from cC) (pv 0) (pv 2) (by with_unfolding_all rfl)) (pv 1) (bu (ag aj af))))) af))) (aH (i:=8) nd rfl (Or.inl rfl)) (ak (ba (i:=9) nd rfl (Or.inl rfl) (aC (ag (pv 4) (ag (pv 5) (ag (pv 6) (ag (pv 8) af))))))
 (ak (ba (i:=10) nd rfl (Or.inl rfl) (aD JG hr rfl T.IS T.GO.kp (nO T) .nil aQ (ag (pv 7) (ag (aU kn (bu (ag aj af)) (cv ig rfl T.IH ie (ag (pv 4) af))) (ag (pv 8) (ag (pv 1) af))))))
 (aq (aT (az ((AH hr).or (pU hr)) (pv 10) (bu (ag aj (ag (aD Ho hr rfl T.Hv T.FE.kp (ib T) .nil aQ (ag (aN aI (pv 0) aj (λ_ _=>rfl)) (ag (pv 9) (ag (pv 1) af)))) af))) (aJ _)) (aq (aE (pv 9))) aF))))))))))))
 (aq (aE p4))))),?_⟩
 obtain rfl:=h1.intE
 have b2:=G.b2
 have b5:=G.b5
 have eH:iL pt b=(bO "hole" pt).map λ_=>rng b:=by unfold iL hD;rw [gX 3 pt G.dp G.op]
 have eN:fz pt=(bO "gap" pt).map λg=>TRI.filter λi=>decide (i≤(sU g).getD 0):=by unfold fz gD;rw [gX 3 pt G.dp G.op]
 have eK:eV pt=(bO "slot" pt).map λ_=>rng 4:=by unfold eV sD;rw [gX 3 pt G.dp G.op]
 have hgm:∀ c ∈ bO "gap" pt,(sU c).isSome=true:=λc hc=>G.g c (by unfold gD;rw [gX 3 pt G.dp G.op];exact hc)
 refine fJ (RCL.use (K:=K) (je (cs:=bO "gap" pt) (dJ (dm (R:=d6 3) (aa (aM (k:=1) (ae (k:=0) h0) ah rfl) (aa av ao)) ⟨pt,"gap",rfl,G.dp,by decide,rfl⟩)) (Nat.le_trans (d9 "gap" pt) (Nat.le_trans (Nat.pow_le_pow_right (by decide) G.dp) (by decide))) ((fz pt).map (·.map D.int)) (by rw [eN,List.length_map,List.length_map]) rfl (λF i c v es sF hc he hv=>?_)) λlg yg H1 ng s1 hyg dLg=>?_)
 ·rw [eN,List.getElem?_map,List.getElem?_map,hc] at he
  cases he
  obtain ⟨m,hm⟩:=Option.isSome_iff_exists.mp (hgm c (List.mem_of_getElem? hc))
  obtain ⟨ca,cb,rfl⟩:=xY hm
  refine RC.as (rS (cs:=TRN) (aB (aa ah (aa ah (aa ah (aa ah (aa ah (aa ah ao))))))) (by decide) (leD m) rfl (λF2 i c v2 t2 hc2 hv2=>?_)) (vf m)
  have hc3:(TRI.map D.int)[i]?=some c:=hc2
  rw [List.getElem?_map] at hc3
  obtain ⟨j,_,rfl⟩:=Option.map_eq_some_iff.mp hc3
  exact ⟨au (bC (p:=λi j=>decide (i≤j)) (ae (k:=0) hv2) (aM (k:=2) (ae (k:=1) (t2.dat hv)) ah rfl)),ae (k:=0) hv2⟩
 refine fJ (wJ (K:=K) (n:=b) (aa (ae (k:=1) (Dat.intI (b:Int))) ao) (by omega) ((rng b).map D.int) (by unfold rng;rw [List.length_map,List.length_map,List.length_range]) rfl (λF i d sF hd2=>?_) λle ye H2 ne s2 hye dye=>?_)
 ·have e:d=.int (i:Int):=by
   unfold rng at hd2
   rw [List.getElem?_map,List.getElem?_map] at hd2
   obtain ⟨x,hx,rfl⟩:=Option.map_eq_some_iff.mp hd2
   obtain ⟨y,hy,rfl⟩:=Option.map_eq_some_iff.mp hx
   have hi:i < b:=by have:=(List.getElem?_eq_some_iff.mp hy).1;rwa [List.length_range] at this
   rw [List.getElem?_range hi] at hy
   cases hy
   rfl
  subst e
  exact ae (k:=0) (Dat.intI (i:Int))
 have s12:=s1.trans s2
 have hyg:=s2 _ _ hyg
 have dLg:=s2.lds dLg
 have h0:=s12.dat h0
 have le0:H2 le≠none:=λz=>by rw [hye] at z;cases z
 generalize htot:iX pt cl b=tot at post
 have htot:tot=(iX pt cl b).or none:=by rw [htot,Option.or_none]
 refine bX (qi (K:=K) (css:=iL pt b) (wI (cs:=bO "hole" pt) (dJ (dm (R:=d6 3) (aa (aM (k:=1) (ae (k:=0) h0) ah rfl) (aa av ao)) ⟨pt,"hole",rfl,G.dp,by decide,rfl⟩)) (Nat.le_trans (d9 "hole" pt) (Nat.le_trans (Nat.pow_le_pow_right (by decide) G.dp) (by decide))) _ (by rw [eH,List.length_map,List.length_map]) rfl (λF i c v es sF hc he hv=>?_)) G.rh λr3 y3 H3 s3 hr3 nr3 d3=>?_)
 ·rw [eH,List.getElem?_map,List.getElem?_map,hc] at he
  cases he
  exact zB (k:=1) le0 (sF _ _ hye) (sF.dats dye)
 have e3:y3.length=(bg (iL pt b)).length:=by rw [← d3.length,List.length_map]
 have sH3:=s12.trans s3
 have h0:=s3.dat h0
 have hye:=s3 _ _ hye
 have dye:=s3.dats dye
 have hyg:=s3 _ _ hyg
 have dLg:=s3.lds dLg
 clear s1 s2 s12 s3 hd
 refine ⟨r3,rfl,⟨y3,SqL.of hr3⟩,fB (K:=K) (bg (iL pt b)) (λhs=>(bg (fz pt)).findSome? λnums=>(bg (eV pt)).findSome? λks=>(bg (gm ks b)).findSome? λas=>yH pt cl b hs nums ks as) (λσ F=>∃ z4 z5 z6 z7 z8 z9 z10:Option V,σ=[some v0,some (.int (b:Int)),some (.ref lg),some (.ref le),z4,z5,z6,z7,z8,z9,z10]/\Same H3 F) htot e3 ?_ (λσ F ⟨_,_,_,_,_,_,_,_,sF⟩=>SqL.of (sF _ _ hr3)) ?_ ?_⟩
 ·exact ⟨none,none,none,none,none,none,none,rfl,Same.refl _⟩
 ·rintro i4 x4 hs σ F4 hx4 hh4 ⟨z4,z5,z6,z7,z8,z9,z10,rfl,a4⟩ R4 ht4
  have q4:=jf d3 hx4 hh4
  have hhs:=List.mem_of_getElem? hh4
  refine dj ?_
  dsimp only
  refine ⟨_,rfl,lg,yg,fz pt,rfl,SqL.of (a4 _ _ hyg),a4.lds dLg,G.rn,λr4 y4 H4 t4 hr4 nr4 d4=>?_⟩
  have e4:y4.length=(bg (fz pt)).length:=by rw [← d4.length,List.length_map]
  have w4:=a4.trans t4
  refine ⟨r4,rfl,⟨y4,SqL.of hr4⟩,fB (K:=K) (bg (fz pt)) _ (λσ F=>∃ z5 z6 z7 z8 z9 z10:Option V,σ=[some v0,some (.int (b:Int)),some (.ref lg),some (.ref le),some x4,z5,z6,z7,z8,z9,z10]/\Same H4 F) ht4 e4 ?_ (λσ F ⟨_,_,_,_,_,_,_,sF⟩=>SqL.of (sF _ _ hr4)) ?_ ?_⟩
  ·exact ⟨z5,z6,z7,z8,z9,z10,rfl,Same.refl _⟩
  ·rintro i5 x5 nums σ F5 hx5 hh5 ⟨z5,z6,z7,z8,z9,z10,rfl,a5⟩ R5 ht5
   have q5:=jf d4 hx5 hh5
   have hnums:=List.mem_of_getElem? hh5
   refine dj ?_
   dsimp only
   have w5:=w4.trans a5
   refine qi (K:=K) (css:=eV pt) (je (cs:=bO "slot" pt) (dJ (dm (R:=d6 3) (aa (aM (k:=1) (ae (k:=0) (w5.dat h0)) ah rfl) (aa av ao)) ⟨pt,"slot",rfl,G.dp,by decide,rfl⟩)) (Nat.le_trans (d9 "slot" pt) (Nat.le_trans (Nat.pow_le_pow_right (by decide) G.dp) (by decide))) _ (by rw [eK,List.length_map,List.length_map]) rfl (λF i c v es sF hc he hv=>?_)) G.rk λr5 y5 H5 t5 hr5 nr5 d5=>?_
   ·rw [eK,List.getElem?_map,List.getElem?_map,hc] at he
    cases he
    exact RC.as (bw (aa ah (aa ah (aa ah (aa ah ao))))) rfl
   have e5:y5.length=(bg (eV pt)).length:=by rw [← d5.length,List.length_map]
   have w6:=w5.trans t5
   refine ⟨r5,rfl,⟨y5,SqL.of hr5⟩,fB (K:=K) (bg (eV pt)) _ (λσ F=>∃ z6 z7 z8 z9 z10:Option V,σ=[some v0,some (.int (b:Int)),some (.ref lg),some (.ref le),some x4,some x5,z6,z7,z8,z9,z10]/\Same H5 F) ht5 e5 ?_ (λσ F ⟨_,_,_,_,_,_,sF⟩=>SqL.of (sF _ _ hr5)) ?_ ?_⟩
   ·exact ⟨z6,z7,z8,z9,z10,rfl,Same.refl _⟩
   ·rintro i6 x6 ks σ F6 hx6 hh6 ⟨z6,z7,z8,z9,z10,rfl,a6⟩ R6 ht6
    have q6:=a6.dat (jf d5 hx6 hh6)
    have hks:=List.mem_of_getElem? hh6
    have w7:=w6.trans a6
    have v46:=a5.trans (t5.trans a6)
    have v56:=t5.trans a6
    have q5:=v46.dat q5
    have q4:=(w4.trans v46).dat q4
    refine dj ?_
    dsimp only
    have ln:=fD _ nums hnums
    have lk:=fD _ ks hks
    refine dY (K:=K) (es:=cl.map λc=>D.int (cK nums ks c)) (dm (R:=sv) (aa (aM (k:=2) (ae (k:=0) (w7.dat h0)) ah rfl) (aa (ae (k:=5) q5) (aa (ae (k:=6) q6) ao))) ⟨cl,nums,ks,rfl,λc hc=>by rw [ln,lk];exact G.c c hc,G.l,rfl⟩) λlc yc G7 nc t7 hyc dyc=>?_
    have ec:(cl.map λc=>D.int (cK nums ks c))=(cl.map (cK nums ks)).map D.int:=by rw [List.map_map];rfl
    rw [ec] at dyc
    obtain rfl:=j9 dyc
    have w8:=w7.trans t7
    refine qi (K:=K) (css:=gm ks b) (zr (n:=4) (aa ah ao) (by decide) _ (by unfold gm;rw [List.length_map,List.length_map,List.length_range]) rfl (λF i es sF he=>?_)) (G.ra ks hks) λr8 y8 H8 t8 hr8 nr8 d8=>?_
    ·unfold gm at he
     rw [List.getElem?_map,List.getElem?_map] at he
     obtain ⟨c,hc,rfl⟩:=Option.map_eq_some_iff.mp he
     obtain ⟨k',hk,rfl⟩:=Option.map_eq_some_iff.mp hc
     have hk4:i < 4:=by have:=(List.getElem?_eq_some_iff.mp hk).1;rwa [List.length_range] at this
     rw [List.getElem?_range hk4] at hk
     cases hk
     refine Dk (b:=decide ((i:Int) ∈ ks)) (au (nq (ae (k:=0) (Dat.intI (i:Int))) (ae (k:=2) ((t7.trans sF).dat q6)))) (λc G' sG=>?_) (λc G' sG=>?_)
     ·rw [if_pos (of_decide_eq_true c)]
      exact zB (k:=1) (λz=>by rw [w8 _ _ hye] at z;cases z) ((w8.trans (sF.trans sG)) _ _ hye) ((w8.trans (sF.trans sG)).dats dye)
     ·rw [if_neg (of_decide_eq_false c)]
      exact RN.of (bw (aa ah ao))
    have e8:y8.length=(bg (gm ks b)).length:=by rw [← d8.length,List.length_map]
    have q4:=(t7.trans t8).dat q4
    have q5:=(t7.trans t8).dat q5
    have q6:=(t7.trans t8).dat q6
    have hyc:=t8 _ _ hyc
    have w9:=w8.trans t8
    have h0:=w9.dat h0
    refine ⟨r8,rfl,⟨y8,SqL.of hr8⟩,fB (K:=K) (bg (gm ks b)) _ (λσ F=>∃ z8 z9 z10:Option V,σ=[some v0,some (.int (b:Int)),some (.ref lg),some (.ref le),some x4,some x5,some x6,some (.ref lc),z8,z9,z10]/\Same H8 F) ht6 e8 ?_ (λσ F ⟨_,_,_,_,sF⟩=>SqL.of (sF _ _ hr8)) ?_ ?_⟩
    ·exact ⟨z8,z9,z10,rfl,Same.refl _⟩
    ·rintro i8 x8 as σ F8 hx8 hh8 ⟨z8,z9,z10,rfl,a8⟩ R8 ht8
     have q8:=a8.dat (jf d8 hx8 hh8)
     have has:=List.mem_of_getElem? hh8
     refine dj ?_
     dsimp only
     obtain ⟨okt,r,hgo⟩:=G.all hs hhs nums hnums ks hks as has
     have ek:mJ pt cl b hs nums ks as=mK (bJ as b (fpT hs nums ks pt)) r:=by unfold mJ;rw [hgo]
     obtain ⟨k1,k2⟩:=yI ht8
     rw [ek] at k1 k2
     have hh:∀ x ∈ hs,0≤x/\x < (b:Int):=λx hx=>okt.s.p x (List.mem_reverse.mpr (List.mem_cons_of_mem _ hx))
     have lh:hs.length+1≤64:=by have:=okt.s.l;rwa [List.length_reverse] at this
     refine bL (K:=K) (d:=qw hs nums ks as) (aB (aa (ae (k:=4) (a8.dat q4)) (aa (ae (k:=5) (a8.dat q5)) (aa (ae (k:=6) (a8.dat q6)) (aa (ae (k:=8) q8) ao))))) λv9 Ft st qt=>?_
     have st8:=a8.trans st
     refine fJ (ze (K:=K) (ps:=1::hs) (mc:=mcT cl nums ks as b) (st:=stT hs) (kr (dJ (bw (aa ah ao))) (dJ (ni (ae (k:=4) (st8.dat q4)))) (by rw [List.length_map];simp only [List.length_cons,List.length_nil];omega)) rfl rfl okt.m okt.s (st8 _ _ hyc) (st.dat q8) hgo λw GA sA hor=>?_)
     have st9:=st8.trans sA
     refine dQ (b:=!mK (bJ as b (fpT hs nums ks pt)) r) ?_ (λc Fk sk=>?_) (λc Fk sk=>?_)
     ·rcases hor with ⟨rfl,rfl⟩ | ⟨s,lp,rfl,rfl,hA⟩
      ·exact au (Cw (ae (k:=10) Dat.nonI) (dJ (bw (aa ah (aa (aS (R:=oZ 3) (aa (aM (k:=1) (ae (k:=0) (st9.dat h0)) ah rfl) (aa (ae (k:=9) (sA.dat qt)) (aa (ae (k:=1) (Dat.intI (b:Int))) ao))) ⟨pt,hs,nums,ks,as,b,rfl,okt.f,okt.dp,okt.t,⟨okt.m.as,okt.m.ai,okt.m.b2,okt.m.b9⟩,hh,rfl⟩) ao)))))
      ·exact au (A5 (bW (k:=10) (LD.of hA (cU s.pile.reverse))) (dJ (bw (aa ah (aa (aS (R:=oZ 3) (aa (aM (k:=1) (ae (k:=0) (st9.dat h0)) ah rfl) (aa (ae (k:=9) (sA.dat qt)) (aa (ae (k:=1) (Dat.intI (b:Int))) ao))) ⟨pt,hs,nums,ks,as,b,rfl,okt.f,okt.dp,okt.t,⟨okt.m.as,okt.m.ai,okt.m.b2,okt.m.b9⟩,hh,rfl⟩) ao)))) (dE _) rfl (by rw [cJ];decide))
     ·rw [k2 (iV c)] at post
      exact aP (K:=K) (d:=qw hs nums ks as) (ae (k:=9) ((sA.trans sk).dat qt)) λv H' s' q=>post v H' (sH3.trans (w9.trans (st9.trans (sk.trans s')))) q
     ·exact (show iJ _ _ _ from ⟨⟨_,_,_,rfl,st9.trans sk⟩,k1 (fX c)⟩)
    ·rintro σ F ⟨z8,z9,z10,rfl,a8⟩ e
     exact ⟨⟨_,_,_,_,_,rfl,a6.trans (t7.trans (t8.trans a8))⟩,e⟩
   ·rintro σ F ⟨z6,z7,z8,z9,z10,rfl,a6⟩ e
    exact ⟨⟨_,_,_,_,_,_,rfl,a5.trans (t5.trans a6)⟩,e⟩
  ·rintro σ F ⟨z5,z6,z7,z8,z9,z10,rfl,a5⟩ e
   exact ⟨⟨_,_,_,_,_,_,_,rfl,w4.trans a5⟩,e⟩
 ·rintro σ F ⟨z4,z5,z6,z7,z8,z9,z10,rfl,a4⟩ e
  rw [e] at post
  exact post _ _ (sH3.trans a4) Dat.nonI
abbrev LPD:List D:=[.tup [.str "inc",.tup [.str "add",.tup [.str "hole",.int 0],.tup [.str "num",.int 1]],.tup [.int 12,.int 1]],
 .tup [.str "both",.tup [.str "add",.tup [.str "slot",.int 0],.tup [.str "slot",.int 1]],.tup [.int 3,.tup [.str "arg",.int 0],.int 3,.tup [.str "arg",.int 1],.int 4]],
 .tup [.str "twofold",.tup [.str "mul",.tup [.str "hole",.int 0],.tup [.str "num",.int 2]],.tup [.int 13,.int 4]],
 .tup [.str "fewer",.tup [.str "sub",.tup [.str "hole",.int 0],.tup [.str "gap",.int 0,.int 99]],.tup [.int 1,.tup [.str "low",.int 0],.int 5]],
 .tup [.str "addmul",.tup [.str "add",.tup [.str "mul",.tup [.str "hole",.int 0],.tup [.str "hole",.int 1]],.tup [.str "gap",.int 0,.int 99]],.tup [.int 6,.int 12,.tup [.str "low",.int 0]]],
 .tup [.str "turned",.tup [.str "less",.tup [.str "gap",.int 0,.int 99],.tup [.str "hole",.int 0]],.tup [.int 1,.tup [.str "low",.int 0],.int 14,.int 7]],
 .tup [.str "far",.tup [.str "add",.tup [.str "hole",.int 0],.tup [.str "gap",.int 0,.int 9999]],.tup [.int 2,.tup [.str "low",.int 0],.tup [.str "high",.int 0],.int 4]],
 .tup [.str "pair",.tup [.str "sub",.tup [.str "gap",.int 0,.int 99],.tup [.str "gap",.int 1,.int 99]],.tup [.int 1,.tup [.str "low",.int 0],.int 1,.tup [.str "low",.int 1],.int 5]]]
theorem mW (T:Txt P w K mg)  : FnOk P w K mg base CX0 (k+1) T.FM T.FT [] (fU K λds es=>ds=[]/\es=LPD):=by
 refine T.GP.ok sc__law_pieces (λvs H Q E h=>?_) (λcdv A outer s H vs Q E hr h=>?_)
 ·obtain ⟨ds,es,hd,⟨rfl,rfl⟩,_⟩:=h;exact hd.length.symm
 have nd:=sc__law_pieces.nd
 obtain ⟨ds,es,hd,⟨rfl,rfl⟩,post⟩:=h
 have ez:=hd.nilE
 subst ez
 refine' ⟨_,?ybody,?yread⟩
 case ybody =>
  refine' ak ?y251 ?y252
  case y251 =>
   refine' eX ?y8 ?y9 ?y10 ?y11
   case y8 =>
    refine' aC ?y7
    case y7 =>
     refine' ag ?y5 ?y6
     case y5=>exact (aC (ag aw (ag aj af)))
     case y6 =>
      refine' ag ?y3 ?y4
      case y3=>exact (aC (ag aw (ag aj af)))
      case y4 =>
       refine' ag ?y1 ?y2
       case y1=>exact (aC (ag aw (ag aj (ag aj af))))
       case y2=>exact af
   case y9=>exact (fH rfl (aW (aH (i:=0) nd rfl (Or.inl rfl)) (aW (aH (i:=1) nd rfl (Or.inl rfl)) (aW (aH (i:=2) nd rfl (Or.inl rfl)) dX))))
   case y10=>rfl
   case y11=>kernel_rfl
  case y252 =>
   refine' ak ?y249 ?y250
   case y249 =>
    refine' ba (i:=3) ?y29 ?y30 ?y31 ?y32
    case y29=>exact nd
    case y30=>exact rfl
    case y31=>exact Or.inl rfl
    case y32 =>
     refine' bu ?y28
     case y28 =>
      refine' ag ?y26 ?y27
      case y26 =>
       refine' aC ?y25
       case y25 =>
        refine' ag ?y23 ?y24
        case y23=>exact aw
        case y24 =>
         refine' ag ?y21 ?y22
         case y21 =>
          refine' aC ?y18
          case y18 =>
           refine' ag ?y16 ?y17
           case y16=>exact aw
           case y17 =>
            refine' ag ?y14 ?y15
            case y14=>exact (pv 0)
            case y15 =>
             refine' ag ?y12 ?y13
             case y12=>exact (aC (ag aw (ag aj af)))
             case y13=>exact af
         case y22 =>
          refine' ag ?y19 ?y20
          case y19=>exact (aC (ag aj (ag aj af)))
          case y20=>exact af
      case y27=>exact af
   case y250 =>
    refine' ak ?y247 ?y248
    case y247 =>
     refine' aX ?y66
     case y66 =>
      refine' cW ?y60 ?y61 ?y62 ?y63 ?y64 ?y65
      case y60=>exact PySem.F.plainAttrs_list
      case y61=>exact PySem.F.slot_list_append
      case y62=>exact PySem.F.type_list_append
      case y63=>exact br
      case y64=>exact (pv 3)
      case y65 =>
       refine' ag ?y58 ?y59
       case y58 =>
        refine' aC ?y57
        case y57 =>
         refine' ag ?y55 ?y56
         case y55=>exact aw
         case y56 =>
          refine' ag ?y53 ?y54
          case y53 =>
           refine' aC ?y39
           case y39 =>
            refine' ag ?y37 ?y38
            case y37=>exact aw
            case y38 =>
             refine' ag ?y35 ?y36
             case y35=>exact (aC (ag aw (ag aj af)))
             case y36 =>
              refine' ag ?y33 ?y34
              case y33=>exact (aC (ag aw (ag aj af)))
              case y34=>exact af
          case y54 =>
           refine' ag ?y51 ?y52
           case y51 =>
            refine' aC ?y50
            case y50 =>
             refine' ag ?y48 ?y49
             case y48=>exact aj
             case y49 =>
              refine' ag ?y46 ?y47
              case y46=>exact (aC (ag aw (ag aj af)))
              case y47 =>
               refine' ag ?y44 ?y45
               case y44=>exact aj
               case y45 =>
                refine' ag ?y42 ?y43
                case y42=>exact (aC (ag aw (ag aj af)))
                case y43 =>
                 refine' ag ?y40 ?y41
                 case y40=>exact aj
                 case y41=>exact af
           case y52=>exact af
       case y59=>exact af
    case y248 =>
     refine' ak ?y245 ?y246
     case y245 =>
      refine' aX ?y89
      case y89 =>
       refine' cW ?y83 ?y84 ?y85 ?y86 ?y87 ?y88
       case y83=>exact PySem.F.plainAttrs_list
       case y84=>exact PySem.F.slot_list_append
       case y85=>exact PySem.F.type_list_append
       case y86=>exact br
       case y87=>exact (pv 3)
       case y88 =>
        refine' ag ?y81 ?y82
        case y81 =>
         refine' aC ?y80
         case y80 =>
          refine' ag ?y78 ?y79
          case y78=>exact aw
          case y79 =>
           refine' ag ?y76 ?y77
           case y76 =>
            refine' aC ?y73
            case y73 =>
             refine' ag ?y71 ?y72
             case y71=>exact aw
             case y72 =>
              refine' ag ?y69 ?y70
              case y69=>exact (pv 0)
              case y70 =>
               refine' ag ?y67 ?y68
               case y67=>exact (aC (ag aw (ag aj af)))
               case y68=>exact af
           case y77 =>
            refine' ag ?y74 ?y75
            case y74=>exact (aC (ag aj (ag aj af)))
            case y75=>exact af
        case y82=>exact af
     case y246 =>
      refine' ak ?y243 ?y244
      case y243 =>
       refine' aX ?y112
       case y112 =>
        refine' cW ?y106 ?y107 ?y108 ?y109 ?y110 ?y111
        case y106=>exact PySem.F.plainAttrs_list
        case y107=>exact PySem.F.slot_list_append
        case y108=>exact PySem.F.type_list_append
        case y109=>exact br
        case y110=>exact (pv 3)
        case y111 =>
         refine' ag ?y104 ?y105
         case y104 =>
          refine' aC ?y103
          case y103 =>
           refine' ag ?y101 ?y102
           case y101=>exact aw
           case y102 =>
            refine' ag ?y99 ?y100
            case y99=>exact (aC (ag aw (ag (pv 0) (ag (pv 2) af))))
            case y100 =>
             refine' ag ?y97 ?y98
             case y97 =>
              refine' aC ?y96
              case y96 =>
               refine' ag ?y94 ?y95
               case y94=>exact aj
               case y95 =>
                refine' ag ?y92 ?y93
                case y92=>exact (aC (ag aw (ag aj af)))
                case y93 =>
                 refine' ag ?y90 ?y91
                 case y90=>exact aj
                 case y91=>exact af
             case y98=>exact af
         case y105=>exact af
      case y244 =>
       refine' ak ?y241 ?y242
       case y241 =>
        refine' aX ?y142
        case y142 =>
         refine' cW ?y136 ?y137 ?y138 ?y139 ?y140 ?y141
         case y136=>exact PySem.F.plainAttrs_list
         case y137=>exact PySem.F.slot_list_append
         case y138=>exact PySem.F.type_list_append
         case y139=>exact br
         case y140=>exact (pv 3)
         case y141 =>
          refine' ag ?y134 ?y135
          case y134 =>
           refine' aC ?y133
           case y133 =>
            refine' ag ?y131 ?y132
            case y131=>exact aw
            case y132 =>
             refine' ag ?y129 ?y130
             case y129 =>
              refine' aC ?y119
              case y119 =>
               refine' ag ?y117 ?y118
               case y117=>exact aw
               case y118 =>
                refine' ag ?y115 ?y116
                case y115=>exact (aC (ag aw (ag (pv 0) (ag (pv 1) af))))
                case y116 =>
                 refine' ag ?y113 ?y114
                 case y113=>exact (pv 2)
                 case y114=>exact af
             case y130 =>
              refine' ag ?y127 ?y128
              case y127 =>
               refine' aC ?y126
               case y126 =>
                refine' ag ?y124 ?y125
                case y124=>exact aj
                case y125 =>
                 refine' ag ?y122 ?y123
                 case y122=>exact aj
                 case y123 =>
                  refine' ag ?y120 ?y121
                  case y120=>exact (aC (ag aw (ag aj af)))
                  case y121=>exact af
              case y128=>exact af
          case y135=>exact af
       case y242 =>
        refine' ak ?y239 ?y240
        case y239 =>
         refine' aX ?y167
         case y167 =>
          refine' cW ?y161 ?y162 ?y163 ?y164 ?y165 ?y166
          case y161=>exact PySem.F.plainAttrs_list
          case y162=>exact PySem.F.slot_list_append
          case y163=>exact PySem.F.type_list_append
          case y164=>exact br
          case y165=>exact (pv 3)
          case y166 =>
           refine' ag ?y159 ?y160
           case y159 =>
            refine' aC ?y158
            case y158 =>
             refine' ag ?y156 ?y157
             case y156=>exact aw
             case y157 =>
              refine' ag ?y154 ?y155
              case y154=>exact (aC (ag aw (ag (pv 2) (ag (pv 0) af))))
              case y155 =>
               refine' ag ?y152 ?y153
               case y152 =>
                refine' aC ?y151
                case y151 =>
                 refine' ag ?y149 ?y150
                 case y149=>exact aj
                 case y150 =>
                  refine' ag ?y147 ?y148
                  case y147=>exact (aC (ag aw (ag aj af)))
                  case y148 =>
                   refine' ag ?y145 ?y146
                   case y145=>exact aj
                   case y146 =>
                    refine' ag ?y143 ?y144
                    case y143=>exact aj
                    case y144=>exact af
               case y153=>exact af
           case y160=>exact af
        case y240 =>
         refine' ak ?y237 ?y238
         case y237 =>
          refine' aX ?y199
          case y199 =>
           refine' cW ?y193 ?y194 ?y195 ?y196 ?y197 ?y198
           case y193=>exact PySem.F.plainAttrs_list
           case y194=>exact PySem.F.slot_list_append
           case y195=>exact PySem.F.type_list_append
           case y196=>exact br
           case y197=>exact (pv 3)
           case y198 =>
            refine' ag ?y191 ?y192
            case y191 =>
             refine' aC ?y190
             case y190 =>
              refine' ag ?y188 ?y189
              case y188=>exact aw
              case y189 =>
               refine' ag ?y186 ?y187
               case y186 =>
                refine' aC ?y174
                case y174 =>
                 refine' ag ?y172 ?y173
                 case y172=>exact aw
                 case y173 =>
                  refine' ag ?y170 ?y171
                  case y170=>exact (pv 0)
                  case y171 =>
                   refine' ag ?y168 ?y169
                   case y168=>exact (aC (ag aw (ag aj (ag aj af))))
                   case y169=>exact af
               case y187 =>
                refine' ag ?y184 ?y185
                case y184 =>
                 refine' aC ?y183
                 case y183 =>
                  refine' ag ?y181 ?y182
                  case y181=>exact aj
                  case y182 =>
                   refine' ag ?y179 ?y180
                   case y179=>exact (aC (ag aw (ag aj af)))
                   case y180 =>
                    refine' ag ?y177 ?y178
                    case y177=>exact (aC (ag aw (ag aj af)))
                    case y178 =>
                     refine' ag ?y175 ?y176
                     case y175=>exact aj
                     case y176=>exact af
                case y185=>exact af
            case y192=>exact af
         case y238 =>
          refine' ak ?y235 ?y236
          case y235 =>
           refine' aX ?y233
           case y233 =>
            refine' cW ?y227 ?y228 ?y229 ?y230 ?y231 ?y232
            case y227=>exact PySem.F.plainAttrs_list
            case y228=>exact PySem.F.slot_list_append
            case y229=>exact PySem.F.type_list_append
            case y230=>exact br
            case y231=>exact (pv 3)
            case y232 =>
             refine' ag ?y225 ?y226
             case y225 =>
              refine' aC ?y224
              case y224 =>
               refine' ag ?y222 ?y223
               case y222=>exact aw
               case y223 =>
                refine' ag ?y220 ?y221
                case y220 =>
                 refine' aC ?y206
                 case y206 =>
                  refine' ag ?y204 ?y205
                  case y204=>exact aw
                  case y205 =>
                   refine' ag ?y202 ?y203
                   case y202=>exact (aC (ag aw (ag aj (ag aj af))))
                   case y203 =>
                    refine' ag ?y200 ?y201
                    case y200=>exact (aC (ag aw (ag aj (ag aj af))))
                    case y201=>exact af
                case y221 =>
                 refine' ag ?y218 ?y219
                 case y218 =>
                  refine' aC ?y217
                  case y217 =>
                   refine' ag ?y215 ?y216
                   case y215=>exact aj
                   case y216 =>
                    refine' ag ?y213 ?y214
                    case y213=>exact (aC (ag aw (ag aj af)))
                    case y214 =>
                     refine' ag ?y211 ?y212
                     case y211=>exact aj
                     case y212 =>
                      refine' ag ?y209 ?y210
                      case y209=>exact (aC (ag aw (ag aj af)))
                      case y210 =>
                       refine' ag ?y207 ?y208
                       case y207=>exact aj
                       case y208=>exact af
                 case y219=>exact af
             case y226=>exact af
          case y236 =>
           refine' aq ?y234
           case y234=>exact (aE (pv 3))
 case yread =>
  refine qk (K:=K) (d:=.tup [.str "hole",.int 0]) (e:=.tup [.str "hole",.int 1]) (f:=.tup [.str "gap",.int 0,.int 99]) (aB (aa (aB (aa av (aa ah ao))) (aa (aB (aa av (aa ah ao))) (aa (aB (aa av (aa ah (aa ah ao)))) ao)))) λvh vo vg H1 s1 dh do_ dg=>?_
  refine dY (K:=K) (bw (aa (aB (aa av (aa (aB (aa av (aa (ae dh) (aa (aB (aa av (aa ah ao))) ao)))) (aa (aB (aa ah (aa ah ao))) ao)))) ao)) λlb x0 G0 hb s2 h0 e0=>?_
  have hlb:H lb=none:=s1.free hb
  have dh:=s2.dat dh
  have do_:=s2.dat do_
  have dg:=s2.dat dg
  have bb0:But lb H G0:=(s1.trans s2).but
  have l0:=e0.length
  simp only [List.length_cons,List.length_nil,List.length_append] at l0
  refine gF (K:=K) (aB (aa av (aa (aB (aa av (aa (aB (aa av (aa ah ao))) (aa (aB (aa av (aa ah ao))) ao)))) (aa (aB (aa ah (aa (aB (aa av (aa ah ao))) (aa ah (aa (aB (aa av (aa ah ao))) (aa ah ao)))))) ao)))) h0 (by first | omega | (simp only [List.length_append,List.length_cons,List.length_nil];omega)) λy1 G1 b1 h1 e1'=>?_
  have g1:dD K _ G1:=b1.grow h0 h1
  have dh:=Dat.mono g1 _ dh
  have do_:=Dat.mono g1 _ do_
  have dg:=Dat.mono g1 _ dg
  have e1:=Dats.append (Dats.mono g1 _ e0) (Dats.cons e1' Dats.nil)
  have l1:=e1.length
  have bb1:=bb0.trans b1
  simp only [List.length_cons,List.length_nil,List.length_append] at l1
  refine gF (K:=K) (aB (aa av (aa (aB (aa av (aa (ae dh) (aa (aB (aa av (aa ah ao))) ao)))) (aa (aB (aa ah (aa ah ao))) ao)))) h1 (by first | omega | (simp only [List.length_append,List.length_cons,List.length_nil];omega)) λy2 G2 b2 h2 e2'=>?_
  have g2:dD K _ G2:=b2.grow h1 h2
  have dh:=Dat.mono g2 _ dh
  have do_:=Dat.mono g2 _ do_
  have dg:=Dat.mono g2 _ dg
  have e2:=Dats.append (Dats.mono g2 _ e1) (Dats.cons e2' Dats.nil)
  have l2:=e2.length
  have bb2:=bb1.trans b2
  simp only [List.length_cons,List.length_nil,List.length_append] at l2
  refine gF (K:=K) (aB (aa av (aa (aB (aa av (aa (ae dh) (aa (ae dg) ao)))) (aa (aB (aa ah (aa (aB (aa av (aa ah ao))) (aa ah ao)))) ao)))) h2 (by first | omega | (simp only [List.length_append,List.length_cons,List.length_nil];omega)) λy3 G3 b3 h3 e3'=>?_
  have g3:dD K _ G3:=b3.grow h2 h3
  have dh:=Dat.mono g3 _ dh
  have do_:=Dat.mono g3 _ do_
  have dg:=Dat.mono g3 _ dg
  have e3:=Dats.append (Dats.mono g3 _ e2) (Dats.cons e3' Dats.nil)
  have l3:=e3.length
  have bb3:=bb2.trans b3
  simp only [List.length_cons,List.length_nil,List.length_append] at l3
  refine gF (K:=K) (aB (aa av (aa (aB (aa av (aa (aB (aa av (aa (ae dh) (aa (ae do_) ao)))) (aa (ae dg) ao)))) (aa (aB (aa ah (aa ah (aa (aB (aa av (aa ah ao))) ao)))) ao)))) h3 (by first | omega | (simp only [List.length_append,List.length_cons,List.length_nil];omega)) λy4 G4 b4 h4 e4'=>?_
  have g4:dD K _ G4:=b4.grow h3 h4
  have dh:=Dat.mono g4 _ dh
  have do_:=Dat.mono g4 _ do_
  have dg:=Dat.mono g4 _ dg
  have e4:=Dats.append (Dats.mono g4 _ e3) (Dats.cons e4' Dats.nil)
  have l4:=e4.length
  have bb4:=bb3.trans b4
  simp only [List.length_cons,List.length_nil,List.length_append] at l4
  refine gF (K:=K) (aB (aa av (aa (aB (aa av (aa (ae dg) (aa (ae dh) ao)))) (aa (aB (aa ah (aa (aB (aa av (aa ah ao))) (aa ah (aa ah ao))))) ao)))) h4 (by first | omega | (simp only [List.length_append,List.length_cons,List.length_nil];omega)) λy5 G5 b5 h5 e5'=>?_
  have g5:dD K _ G5:=b5.grow h4 h5
  have dh:=Dat.mono g5 _ dh
  have do_:=Dat.mono g5 _ do_
  have dg:=Dat.mono g5 _ dg
  have e5:=Dats.append (Dats.mono g5 _ e4) (Dats.cons e5' Dats.nil)
  have l5:=e5.length
  have bb5:=bb4.trans b5
  simp only [List.length_cons,List.length_nil,List.length_append] at l5
  refine gF (K:=K) (aB (aa av (aa (aB (aa av (aa (ae dh) (aa (aB (aa av (aa ah (aa ah ao)))) ao)))) (aa (aB (aa ah (aa (aB (aa av (aa ah ao))) (aa (aB (aa av (aa ah ao))) (aa ah ao))))) ao)))) h5 (by first | omega | (simp only [List.length_append,List.length_cons,List.length_nil];omega)) λy6 G6 b6 h6 e6'=>?_
  have g6:dD K _ G6:=b6.grow h5 h6
  have dh:=Dat.mono g6 _ dh
  have do_:=Dat.mono g6 _ do_
  have dg:=Dat.mono g6 _ dg
  have e6:=Dats.append (Dats.mono g6 _ e5) (Dats.cons e6' Dats.nil)
  have l6:=e6.length
  have bb6:=bb5.trans b6
  simp only [List.length_cons,List.length_nil,List.length_append] at l6
  refine gF (K:=K) (aB (aa av (aa (aB (aa av (aa (aB (aa av (aa ah (aa ah ao)))) (aa (aB (aa av (aa ah (aa ah ao)))) ao)))) (aa (aB (aa ah (aa (aB (aa av (aa ah ao))) (aa ah (aa (aB (aa av (aa ah ao))) (aa ah ao)))))) ao)))) h6 (by first | omega | (simp only [List.length_append,List.length_cons,List.length_nil];omega)) λy7 G7 b7 h7 e7'=>?_
  have g7:dD K _ G7:=b7.grow h6 h7
  have dh:=Dat.mono g7 _ dh
  have do_:=Dat.mono g7 _ do_
  have dg:=Dat.mono g7 _ dg
  have e7:=Dats.append (Dats.mono g7 _ e6) (Dats.cons e7' Dats.nil)
  have l7:=e7.length
  have bb7:=bb6.trans b7
  have sm:Same H G7:=λb o hbo=>bb7 b o (bh hbo hlb) hbo
  exact ⟨_,rfl,post lb _ G7 sm h7 hlb e7⟩
variable {q:Int}
theorem zf {t:Addr} {p:Int} (hl:RC K tl σ G (ks.map D.int)) (hS:Scr K G a ns) (hT:G t=some (.lst [.int p,.int q])) (hp:0≤p) (h0:0 < ks.length) (h1:ks.length≤1000)
  (post:∀ (k:Int) (G':Hp) (p' q':Int),k ∈ ks->But t G G'->G' t=some (.lst [.int p',.int q'])->0≤p'->Q (.int k) G') (e0:σ[0]?=some (some (.ref a)):=by rfl) (e1:σ[1]?=some (some (.ref t)):=by rfl) :
  fO (qp K) [] E (bf (cx 0) (bf (cx 1) (bf tl cu))) σ G Q :=
 ⟨_,e0,_,e1,hl.use λl ys G1 n1 s1 hy dy=>by
  obtain rfl:=j9 dy
  refine ⟨a,t,l,ns,_,p,q,[],rfl,hS.same s1,SqL.of hy,(λz=>by rw [z,hT] at n1;cases n1),by rw [List.length_map];exact h0,by rw [List.length_map];omega,s1 _ _ hT,hp,λi x G2 p' q' b2 t2 g2 hx=>?_⟩
  rw [List.getElem?_map] at hx
  obtain ⟨k,hk,rfl⟩:=Option.map_eq_some_iff.mp hx
  exact post k G2 p' q' (List.mem_of_getElem? hk) (s1.but.trans b2) t2 g2⟩
theorem tU {tm:TE} {t:Addr} {m p:Int} (hm:RE K tm σ G (.int m)) (hS:Scr K G a ns) (hT:G t=some (.lst [.int p,.int q])) (hp:0≤p) (h0:0 < m) (h1:m≤1000000)
  (post:∀ (k:Int) (G':Hp) (p' q':Int),0≤k->k < m->But t G G'->G' t=some (.lst [.int p',.int q'])->0≤p'->Q (.int k) G') (e0:σ[0]?=some (some (.ref a)):=by rfl) (e1:σ[1]?=some (some (.ref t)):=by rfl) :
  fO (nF K) [] E (bf (cx 0) (bf (cx 1) (bf tm cu))) σ G Q :=
 ⟨_,e0,_,e1,hm.use λv G1 s1 qv=>by
  obtain rfl:=qv.intE
  exact ⟨a,t,ns,m,p,q,[],rfl,hS.same s1,s1 _ _ hT,hp,h0,h1,λk G2 p' q' b2 t2 g2 k0 k1=>post k G2 p' q' k0 k1 (s1.but.trans b2) t2 g2⟩⟩
theorem uc (h:RL K t σ H es):RE K (tCB (λxs H Q=>∃ p ys,xs=[.ref p]/\((SqL K H p ys/\∀ l,H l=none->Q (.ref l) (upd H l (.tup ys)))\/(SqT K H p ys/\Q (.ref p) H))) (bf t cu)) σ H (.tup es):=λH1 s Q q =>
 iI ((h.mono s).use λv H' s' hd=>by
  obtain ⟨l,ys,rfl,hy,hd⟩:=hd
  exact ⟨l,ys,rfl,.inl ⟨hy.sqL,λp hp=>q _ _ (s'.trans (aG hp _)) (Dat.tupI (SqT.of ay) ((aG hp _).dats hd))⟩⟩)
abbrev MG:List Int:=[0,5,99,150,9999]
def wB (m:Int):List Pa:=[.two "add" (.hole 0) (.hole 1),.two "sub" (.hole 0) (.hole 1),.two "less" (.hole 0) (.hole 1),.two "mul" (.hole 0) (.gap 0 m),.two "add" (.hole 0) (.gap 0 m),.gap 0 m,.slot 0,.two "sub" (.hole 0) (.slot 0),.two "add" (.hole 0) (.hole 1)]
def eW (k:Str) (p:Pa):Bool:=!(bO k p).isEmpty
def kF (g s:Bool):List (List Cl):=[[.n 4],[.n 5],[.n 6],[.n 7],[.n 13],[.n 14]]++((if g=true then [[.n 1,.low 0],[.n 12,.low 0],[.n 2,.low 0,.high 0]] else [[.n 1,.n 0],[.n 1,.n 1],[.n 1,.n 2],[.n 12,.n 0],[.n 12,.n 1],[.n 12,.n 2],[.n 2,.n 7,.n 1]])++(if s=true then [[.n 3,.arg 0]] else [[.n 3,.n 0]]))
structure Drawn (pt:Pa) (bl:List (List Cl)):Prop where
 p:∃ m ∈ MG,pt ∈ wB m
 l1:1≤bl.length
 l4:bl.length≤4
 b:∀ x ∈ bl,x ∈ kF (eW "gap" pt) (eW "slot" pt)
theorem pZ:∀ m ∈ MG,∀ p ∈ wB m,(aZ p≤3/\∀ k ∈ (["gap","slot"]:List Str),noLs (bO k p)=true/\deepDs (bO k p)≤20):=by decide +kernel
theorem uK:∀ (g s:Bool),∀ x ∈ kF g s,x.length≤3:=by decide +kernel
structure S11 (K:PySem.W.Frag) (a t l:Addr) (ns:List Int) (H:Hp) (pd:D) (v5:V) (G:Hp) (cl:List Cl):Prop where
 s:Scr K G a ns
 b:But t H G
 t:∃ p q:Int,G t=some (.lst [.int p,.int q])/\0≤p
 l:∃ ys,G l=some (.lst ys)/\Dats K G (cl.map clD) ys
 d:Dat K G pd v5
section
variable {a t l:Addr} {ns:List Int} {H G G':Hp} {pd:D} {v5:V} {cl:List Cl}
theorem S11.same (S:S11 K a t l ns H pd v5 G cl) (s:Same G G'):S11 K a t l ns H pd v5 G' cl:=by
 obtain ⟨h1,h2,⟨p,q,h3,h4⟩,⟨ys,h5,h6⟩,h7⟩:=S
 exact ⟨h1.same s,h2.trans s.but,⟨p,q,s _ _ h3,h4⟩,⟨ys,s _ _ h5,s.dats h6⟩,s.dat h7⟩
theorem S11.drawn {p' q':Int} (S:S11 K a t l ns H pd v5 G cl) (b:But t G G') (t':G' t=some (.lst [.int p',.int q'])) (g:0≤p') (hlt:l≠t):S11 K a t l ns H pd v5 G' cl:=by
 obtain ⟨h1,h2,⟨p,q,h3,h4⟩,⟨ys,h5,h6⟩,h7⟩:=S
 have gr:dD K G G':=b.grow h3 t'
 exact ⟨h1.but b h3,h2.trans b,⟨p',q',t',g⟩,⟨ys,b _ _ hlt h5,Dats.mono gr _ h6⟩,Dat.mono gr _ h7⟩
theorem S11.grown {xs:List V} {cs:List Cl} (S:S11 K a t l ns H pd v5 G cl) (b:But l G G') (h':G' l=some (.lst xs)) (hd:Dats K G' ((cl++cs).map clD) xs) (hlt:l≠t) (nl:H l=none):S11 K a t l ns H pd v5 G' (cl++cs):=by
 obtain ⟨h1,h2,⟨p,q,h3,h4⟩,⟨ys,h5,h6⟩,h7⟩:=S
 have gr:dD K G G':=b.grow h5 h'
 exact ⟨h1.but b h5,λx o n e=>b x o (λz=>by rw [z,nl] at e;cases e) (h2 x o n e),⟨p,q,b _ _ (Ne.symm hlt) h3,h4⟩,⟨xs,h',hd⟩,Dat.mono gr _ h7⟩
variable {σ:L2.St}
theorem qb {te:TE} {En:gM} {okc:Cl->Prop} (S:S11 K a t l ns H pd v5 G cl) (hlt:l≠t) (nl:H l=none) (h9:cl.length≤900)
  (h:∀ Q:VK,(∀ v G' c,okc c->S11 K a t l ns H pd v5 G' cl->Dat K G' (clD c) v->Q v G')->te σ G Q) (q:∀ c G',okc c->S11 K a t l ns H pd v5 G' (cl++[c])->En.nx σ G') (e6:σ[6]?=some (some (.ref l)):=by rfl) :
  lD (tBM K "list" iw (cx 6) (bf te cu)) En σ G:=by
 obtain ⟨_,_,_,⟨ys0,h50,_⟩,_⟩:=id S
 refine ⟨_,e6,.inl ⟨rfl,_,SqL.of h50⟩,h _ λv G' c hc S' dv=>?_⟩
 obtain ⟨_,_,_,⟨ys,h5,h6⟩,_⟩:=id S'
 have ly:=h6.length
 rw [List.length_map] at ly
 refine ⟨l,_,_,rfl,rfl,h5,cE (by omega),q c _ hc (S'.grown (cs:=[c]) (But.upd (Same.refl _).but) ay ?_ hlt nl)⟩
 have gr:dD K G' (upd G' l (.lst (ys++[v]))):=(But.upd (Same.refl G').but).grow h5 ay
 rw [List.map_append]
 exact Dats.append (Dats.mono gr _ h6) (Dats.cons (Dat.mono gr _ dv) Dats.nil)
theorem A6 {ta tb:TE} {H:Hp} {ds es:List D} (h1:RL K ta σ H ds) (h2:RL K tb σ H es) (n:noLs ds=true) (n2:noLs es=true) (d:deepDs ds≤20):RE K (tOp (rP K true) ta tb) σ H (.bl (!eqDs ds es)):=λH1 s Q q =>
 h1 H1 s _ λv H2 s2 q2=>h2 H2 (s.trans s2) _ λw H3 s3 q3=>by
  obtain ⟨a,xs,rfl,ha,da⟩:=s3.ld q2
  obtain ⟨b,ys,rfl,hb,db⟩:=q3
  exact ⟨a,b,xs,ys,ds,es,rfl,rfl,ha.sqL,hb.sqL,da,db,n,n2,d,q _ _ (s2.trans s3) (Dat.blI _)⟩
theorem uf {E:XK} {G:Hp} {pt:Pa} {m:Int} {k':Str} {v5:V} (hm:m ∈ MG) (hp:pt ∈ wB m) (hk:k' ∈ (["gap","slot"]:List Str)) (h:Dat K G (toP pt) v5) (e5:σ[5]?=some (some v5):=by rfl) :
  RT (sg (tOp (rP K true) (fO (fU K (d6 3)) [] E (bf (cx 5) (bf (tC (.str k')) cu))) (zI cu))) σ G (eW k' pt):=by
 obtain ⟨dp,hh⟩:=pZ m hm pt hp
 obtain ⟨n1,n2⟩:=hh k' hk
 have:=A6 (K:=K) (dJ (dm (E:=E) (R:=d6 3) (aa (ae (k:=5) h e5) (aa (av (x:=k')) ao)) ⟨pt,k',rfl,dp,by decide,rfl⟩)) (dJ (bw (σ:=σ) (H:=G) ao)) n1 rfl n2
 rw [ka] at this
 exact au this
end
def vG (K:PySem.W.Frag):Sp:=λvs H Q _=>∃ (a t:Addr) (ns:List Int) (p q:Int),vs=[.ref a,.ref t]/\Scr K H a ns/\H t=some (.lst [.int p,.int q])/\0≤p /\
 ∀ (v:V) (H':Hp) (pt:Pa) (bl:List (List Cl)) (p' q':Int),But t H H'->H' t=some (.lst [.int p',.int q'])->0≤p'->Drawn pt bl->Dat K H' (gd (.str "drawn") pt bl.flatten) v->Q v H'
theorem jy (T:Txt P w K mg) (Gb:FnOk P w K mg base CX0 k T.Gc T.Gd ["_law_script","_law_town","_law_some"] (qp K)) (Ga:FnOk P w K mg base CX0 k T.Fn T.Fs ["_law_script","_law_town","_law_many"] (nF K)) (DY:FnOk P w K mg base CX0 k T.Em T.Eo ["_law_pattern","_law_head"] (fU K (d6 3))):FnOk P w K mg base CX0 (k+1) T.Ew T.Ez ["_law_script","_law_town"] (vG K):=by
 refine T.EB.ok sc__law_drawn_piece (λvs H Q E h=>?_) (λcdv A outer s H vs Q E hr h=>?_)
 ·obtain ⟨a,t,ns,p,q,rfl,_⟩:=h;rfl
 have nd:=sc__law_drawn_piece.nd
 obtain ⟨a,t,ns,p,q,rfl,hS,hT,hp,post⟩:=h
 refine' ⟨_,?ybody,?yread⟩
 case ybody =>
  refine' ak ?y461 ?y462
  case y461=>exact (tT (i:=2) (j:=3) rfl nd rfl rfl (by decide) rfl rfl (ag (aC (ag aw (ag aj af))) (ag (aC (ag aw (ag aj (ag (aD Gb hr rfl T.Gi T.E7.kp (ft T) .nil aQ (ag (pv 0) (ag (pv 1) (ag (bu (ag aj (ag aj (ag aj (ag aj (ag aj af)))))) af)))) af)))) af)) (by kernel_rfl))
  case y462 =>
   refine' ak ?y459 ?y460
   case y459 =>
    refine' ba (i:=4) ?y281 ?y282 ?y283 ?y284
    case y281=>exact nd
    case y282=>exact rfl
    case y283=>exact Or.inl rfl
    case y284 =>
     refine' bu ?y280
     case y280 =>
      refine' ag ?y278 ?y279
      case y278 =>
       refine' aC ?y259
       case y259 =>
        refine' ag ?y257 ?y258
        case y257=>exact aw
        case y258 =>
         refine' ag ?y255 ?y256
         case y255=>exact (pv 2)
         case y256 =>
          refine' ag ?y253 ?y254
          case y253=>exact (aC (ag aw (ag aj af)))
          case y254=>exact af
      case y279 =>
       refine' ag ?y276 ?y277
       case y276 =>
        refine' aC ?y266
        case y266 =>
         refine' ag ?y264 ?y265
         case y264=>exact aw
         case y265 =>
          refine' ag ?y262 ?y263
          case y262=>exact (pv 2)
          case y263 =>
           refine' ag ?y260 ?y261
           case y260=>exact (aC (ag aw (ag aj af)))
           case y261=>exact af
       case y277 =>
        refine' ag ?y274 ?y275
        case y274 =>
         refine' aC ?y273
         case y273 =>
          refine' ag ?y271 ?y272
          case y271=>exact aw
          case y272 =>
           refine' ag ?y269 ?y270
           case y269=>exact (pv 2)
           case y270 =>
            refine' ag ?y267 ?y268
            case y267=>exact (aC (ag aw (ag aj af)))
            case y268=>exact af
        case y275=>exact af
   case y460 =>
    refine' ak ?y457 ?y458
    case y457 =>
     refine' aX ?y296
     case y296 =>
      refine' cW ?y290 ?y291 ?y292 ?y293 ?y294 ?y295
      case y290=>exact PySem.F.plainAttrs_list
      case y291=>exact PySem.F.slot_list_extend
      case y292=>exact PySem.F.type_list_extend
      case y293=>exact ef
      case y294=>exact (pv 4)
      case y295 =>
       refine' ag ?y288 ?y289
       case y288 =>
        refine' bu ?y287
        case y287 =>
         refine' ag ?y285 ?y286
         case y285=>exact (aC (ag aw (ag (pv 2) (ag (pv 3) af))))
         case y286=>exact af
       case y289=>exact af
    case y458 =>
     refine' ak ?y455 ?y456
     case y455 =>
      refine' aX ?y321
      case y321 =>
       refine' cW ?y315 ?y316 ?y317 ?y318 ?y319 ?y320
       case y315=>exact PySem.F.plainAttrs_list
       case y316=>exact PySem.F.slot_list_extend
       case y317=>exact PySem.F.type_list_extend
       case y318=>exact ef
       case y319=>exact (pv 4)
       case y320 =>
        refine' ag ?y313 ?y314
        case y313 =>
         refine' bu ?y312
         case y312 =>
          refine' ag ?y310 ?y311
          case y310=>exact (aC (ag aw (ag (pv 2) (ag (pv 3) af))))
          case y311 =>
           refine' ag ?y308 ?y309
           case y308=>exact (pv 3)
           case y309 =>
            refine' ag ?y306 ?y307
            case y306=>exact (aC (ag aw (ag aj af)))
            case y307 =>
             refine' ag ?y304 ?y305
             case y304 =>
              refine' aC ?y303
              case y303 =>
               refine' ag ?y301 ?y302
               case y301=>exact aw
               case y302 =>
                refine' ag ?y299 ?y300
                case y299=>exact (pv 2)
                case y300 =>
                 refine' ag ?y297 ?y298
                 case y297=>exact (aC (ag aw (ag aj af)))
                 case y298=>exact af
             case y305=>exact af
        case y314=>exact af
     case y456 =>
      refine' ak ?y453 ?y454
      case y453 =>
       refine' aX ?y340
       case y340 =>
        refine' cW ?y334 ?y335 ?y336 ?y337 ?y338 ?y339
        case y334=>exact PySem.F.plainAttrs_list
        case y335=>exact PySem.F.slot_list_extend
        case y336=>exact PySem.F.type_list_extend
        case y337=>exact ef
        case y338=>exact (pv 4)
        case y339 =>
         refine' ag ?y332 ?y333
         case y332 =>
          refine' bu ?y331
          case y331 =>
           refine' ag ?y329 ?y330
           case y329 =>
            refine' aC ?y328
            case y328 =>
             refine' ag ?y326 ?y327
             case y326=>exact aw
             case y327 =>
              refine' ag ?y324 ?y325
              case y324=>exact (pv 2)
              case y325 =>
               refine' ag ?y322 ?y323
               case y322=>exact (aU pS (jc Bh (pv 2) vm (gC aj)) (aC (ag aj af)))
               case y323=>exact af
           case y330=>exact af
         case y333=>exact af
      case y454 =>
       refine' ak ?y451 ?y452
       case y451=>exact (tT (i:=5) (j:=6) rfl nd rfl rfl (by decide) rfl rfl (ag (aD Gb hr rfl T.Gi T.E7.kp (ft T) .nil aQ (ag (pv 0) (ag (pv 1) (ag (pv 4) af)))) (ag (bu af) af)) (by kernel_rfl))
       case y452 =>
        refine' ak ?y449 ?y450
        case y449 =>
         refine' dM ?y443 ?y444 ?y445 ?y446 ?y447
         case y443=>exact PassesOwn.never
         case y444=>exact rfl
         case y445=>exact (jq rfl T.Hw (ag (aU ck aj (aD Ga hr rfl T.He T.Fw.kp (gv T) .nil aQ (ag (pv 0) (ag (pv 1) (ag aj af))))) af))
         case y446=>exact (aH (i:=7) nd rfl (Or.inl rfl))
         case y447 =>
          refine' ak ?y441 ?y442
          case y441 =>
           refine' ba (i:=8) ?y377 ?y378 ?y379 ?y380
           case y377=>exact nd
           case y378=>exact rfl
           case y379=>exact Or.inl rfl
           case y380 =>
            refine' aD ?y368 ?y369 ?y370 ?y371 ?y372 ?y373 ?y374 ?y375 ?y376
            case y368=>exact Gb
            case y369=>exact hr
            case y370=>exact rfl
            case y371=>exact T.Gi
            case y372=>exact T.E7.kp
            case y373=>exact ft T
            case y374=>exact .nil
            case y375=>exact aQ
            case y376 =>
             refine' ag ?y366 ?y367
             case y366=>exact (pv 0)
             case y367 =>
              refine' ag ?y364 ?y365
              case y364=>exact (pv 1)
              case y365 =>
               refine' ag ?y362 ?y363
               case y362 =>
                refine' bu ?y361
                case y361 =>
                 refine' ag ?y359 ?y360
                 case y359=>exact aj
                 case y360 =>
                  refine' ag ?y357 ?y358
                  case y357=>exact aj
                  case y358 =>
                   refine' ag ?y355 ?y356
                   case y355=>exact aj
                   case y356 =>
                    refine' ag ?y353 ?y354
                    case y353=>exact aj
                    case y354 =>
                     refine' ag ?y351 ?y352
                     case y351=>exact aj
                     case y352 =>
                      refine' ag ?y349 ?y350
                      case y349=>exact aj
                      case y350 =>
                       refine' ag ?y347 ?y348
                       case y347=>exact aj
                       case y348 =>
                        refine' ag ?y345 ?y346
                        case y345=>exact aj
                        case y346 =>
                         refine' ag ?y343 ?y344
                         case y343=>exact aj
                         case y344 =>
                          refine' ag ?y341 ?y342
                          case y341=>exact aj
                          case y342=>exact af
               case y363=>exact af
          case y442 =>
           refine' ak ?y439 ?y440
           case y439=>exact (aX (cW PySem.F.plainAttrs_list PySem.F.slot_list_append PySem.F.type_list_append br (pv 6) (ag (pv 8) af)))
           case y440 =>
            refine' ak ?y437 ?y438
            case y437 =>
             refine' aT ?y394 ?y395 ?y396
             case y394=>exact (az cC (pv 8) (aC (ag aj (ag aj af))) (by with_unfolding_all rfl))
             case y395 =>
              refine' aq ?y393
              case y393 =>
               refine' aX ?y392
               case y392 =>
                refine' cW ?y386 ?y387 ?y388 ?y389 ?y390 ?y391
                case y386=>exact PySem.F.plainAttrs_list
                case y387=>exact PySem.F.slot_list_append
                case y388=>exact PySem.F.type_list_append
                case y389=>exact br
                case y390=>exact (pv 6)
                case y391 =>
                 refine' ag ?y384 ?y385
                 case y384 =>
                  refine' cN ?y381 ?y382 ?y383
                  case y381=>exact (az (pU hr) (aD DY hr rfl T.Ec T.DZ.kp (cy T) .nil aQ (ag (pv 5) (ag aw af))) (bu af) (aJ _))
                  case y382=>exact (aC (ag aw (ag aj af)))
                  case y383=>exact (aD Ga hr rfl T.He T.Fw.kp (gv T) .nil aQ (ag (pv 0) (ag (pv 1) (ag aj af))))
                 case y385=>exact af
             case y396=>exact aF
            case y438 =>
             refine' ak ?y435 ?y436
             case y435 =>
              refine' aT ?y415 ?y416 ?y417
              case y415=>exact (az bK (pv 8) aj (aJ _))
              case y416 =>
               refine' aq ?y414
               case y414 =>
                refine' aX ?y413
                case y413 =>
                 refine' cW ?y407 ?y408 ?y409 ?y410 ?y411 ?y412
                 case y407=>exact PySem.F.plainAttrs_list
                 case y408=>exact PySem.F.slot_list_extend
                 case y409=>exact PySem.F.type_list_extend
                 case y410=>exact ef
                 case y411=>exact (pv 6)
                 case y412 =>
                  refine' ag ?y405 ?y406
                  case y405 =>
                   refine' cN ?y402 ?y403 ?y404
                   case y402=>exact (az (pU hr) (aD DY hr rfl T.Ec T.DZ.kp (cy T) .nil aQ (ag (pv 5) (ag aw af))) (bu af) (aJ _))
                   case y403 =>
                    refine' bu ?y401
                    case y401 =>
                     refine' ag ?y399 ?y400
                     case y399=>exact (aC (ag aw (ag aj af)))
                     case y400 =>
                      refine' ag ?y397 ?y398
                      case y397=>exact (aC (ag aw (ag aj af)))
                      case y398=>exact af
                   case y404=>exact (bu (ag aj (ag aj af)))
                  case y406=>exact af
              case y417=>exact aF
             case y436 =>
              refine' aq ?y434
              case y434 =>
               refine' aT ?y431 ?y432 ?y433
               case y431=>exact (az bK (pv 8) aj (aJ _))
               case y432 =>
                refine' aq ?y430
                case y430 =>
                 refine' aX ?y429
                 case y429 =>
                  refine' cW ?y423 ?y424 ?y425 ?y426 ?y427 ?y428
                  case y423=>exact PySem.F.plainAttrs_list
                  case y424=>exact PySem.F.slot_list_append
                  case y425=>exact PySem.F.type_list_append
                  case y426=>exact br
                  case y427=>exact (pv 6)
                  case y428 =>
                   refine' ag ?y421 ?y422
                   case y421 =>
                    refine' cN ?y418 ?y419 ?y420
                    case y418=>exact (az (pU hr) (aD DY hr rfl T.Ec T.DZ.kp (cy T) .nil aQ (ag (pv 5) (ag aw af))) (bu af) (aJ _))
                    case y419=>exact (aC (ag aw (ag aj af)))
                    case y420=>exact aj
                   case y422=>exact af
               case y433=>exact aF
        case y450 =>
         refine' aq ?y448
         case y448=>exact (aE (aC (ag aw (ag (pv 5) (ag (cv gN rfl T.Hx fw (ag (pv 6) af)) af)))))
 case yread =>
  refine bX (RE.use (aB (K:=K) (ds:=[.str "hole",.int 0]) (aa av (aa ah ao))) λv2 G1 u1 d2=>?_)
  refine zf (K:=K) (ks:=MG) (bw (aa ah (aa ah (aa ah (aa ah (aa ah ao)))))) (hS.same u1) (u1 _ _ hT) hp (by decide) (by decide) λm G2 p2 q2 hm b2 t2 g2=>⟨gL (show 3≤1000 by decide),λr3 n3=>⟨_,_,rfl,?_⟩⟩
  have gr2:dD K G1 G2:=b2.grow (u1 _ _ hT) t2
  have s3:Same G2 (upd G2 r3 (.tup [.str "gap",.int 0,.int m])):=aG n3 _
  generalize hG3:upd G2 r3 (.tup [.str "gap",.int 0,.int m])=G3 at s3
  have d3:Dat K G3 (.tup [.str "gap",.int 0,.int m]) (.ref r3):=by rw [← hG3];exact Dat.tupI (SqT.of ay) (Dats.cons (Dat.strI _) (Dats.cons (Dat.intI _) (Dats.cons (Dat.intI _) Dats.nil)))
  have d2:=s3.dat (Dat.mono gr2 _ d2)
  have hS3:=((hS.same u1).but b2 (u1 _ _ hT)).same s3
  have t3:=s3 _ _ t2
  have b3:But t H G3:=(u1.but.trans b2).trans s3.but
  clear hG3 gr2 n3 s3 b2 t2 u1
  generalize hv3:V.ref r3=v3 at d3
  dsimp only
  refine dY (K:=K) (es:=[toP (.two "add" (.hole 0) (.hole 1)),toP (.two "sub" (.hole 0) (.hole 1)),toP (.two "less" (.hole 0) (.hole 1))]) (bw (aa (aB (aa av (aa (ae (k:=2) d2) (aa (aB (aa av (aa ah ao))) ao)))) (aa (aB (aa av (aa (ae (k:=2) d2) (aa (aB (aa av (aa ah ao))) ao)))) (aa (aB (aa av (aa (ae (k:=2) d2) (aa (aB (aa av (aa ah ao))) ao)))) ao)))) λl4 y4 G4 n4 u4 hy4 dy4=>?_
  have l4t:l4≠t:=λz=>by rw [z,t3] at n4;cases n4
  have f4:H l4=none:=Option.eq_none_iff_forall_ne_some.mpr λo e=>by have:=b3 l4 o l4t e;rw [n4] at this;cases this
  have ly4:=dy4.length
  have d2:=u4.dat d2
  have d3:=u4.dat d3
  have hS4:=hS3.same u4
  have t4:=u4 _ _ t3
  have b4:But t H G4:=b3.trans u4.but
  clear u4 hS3 t3 b3 n4
  refine bX (jr (K:=K) (j:=4) (es:=[toP (.two "mul" (.hole 0) (.gap 0 m))]) (bw (aa (aB (aa av (aa (ae (k:=2) d2) (aa (ae (k:=3) d3) ao)))) ao)) hy4 (by rw [← ly4];simp only [List.length_cons,List.length_nil,List.length_append];decide) λz5 G5 c5 hy5 dz5=>?_)
  have gr5:dD K G4 G5:=c5.grow hy4 hy5
  have dy5:=Dats.append (Dats.mono gr5 _ dy4) dz5
  have ly5:=dy5.length
  have d2:=Dat.mono gr5 _ d2
  have d3:=Dat.mono gr5 _ d3
  refine bX (jr (K:=K) (j:=4) (es:=[toP (.two "add" (.hole 0) (.gap 0 m)),toP (.gap 0 m),toP (.slot 0),toP (.two "sub" (.hole 0) (.slot 0))]) (bw (aa (aB (aa av (aa (ae (k:=2) d2) (aa (ae (k:=3) d3) ao)))) (aa (ae (k:=3) d3) (aa (aB (aa av (aa ah ao))) (aa (aB (aa av (aa (ae (k:=2) d2) (aa (aB (aa av (aa ah ao))) ao)))) ao))))) hy5 (by rw [← ly5];simp only [List.length_cons,List.length_nil,List.length_append];decide) λz6 G6 c6 hy6 dz6=>?_)
  have gr6:dD K G5 G6:=c6.grow hy5 hy6
  have dy6:=Dats.append (Dats.mono gr6 _ dy5) dz6
  have ly6:=dy6.length
  have d2:=Dat.mono gr6 _ d2
  have d3:=Dat.mono gr6 _ d3
  refine bX (jr (K:=K) (j:=4) (es:=[toP (.two "add" (.hole 0) (.hole 1))]) (bw (aa (aB (aa av (aa (ae (k:=2) d2) (aa (qf (Cz (n:=1) (ae (k:=2) d2) ah) (aB (aa ah ao)) (by decide)) ao)))) ao)) hy6 (by rw [← ly6];simp only [List.length_cons,List.length_nil,List.length_append];decide) λz7 G7 c7 hy7 dz7=>?_)
  have gr7:dD K G6 G7:=c7.grow hy6 hy7
  have dy7:Dats K G7 ((wB m).map toP) _:=Dats.append (Dats.mono gr7 _ dy6) dz7
  have ly7:=dy7.length
  have d2:=Dat.mono gr7 _ d2
  have d3:=Dat.mono gr7 _ d3
  have c57:But l4 G4 G7:=(c5.trans c6).trans c7
  have hS7:=hS4.but c57 hy4
  have t7:=c57 _ _ (Ne.symm l4t) t4
  have b7:But t H G7:=λx o n e=>c57 x o (λz=>by rw [z,f4] at e;cases e) (b4 x o n e)
  clear c5 c6 c7 c57 hS4 t4 b4 gr5 gr6 gr7 dz5 dz6 dz7 dy4 dy5 dy6 hy5 hy6 hy4 ly4 ly5 ly6
  generalize hxs:((y4++z5)++z6)++z7=xs at *
  refine bX ⟨_,rfl,_,rfl,_,rfl,a,t,l4,ns,xs,p2,q2,[],rfl,hS7,SqL.of hy7,l4t,by rw [← ly7];show 0 < 9;decide,by rw [← ly7];show 9≤1000000;decide,t7,g2,λip v5 G8 p8 q8 b8 t8 g8 hx8=>⟨gL (by decide),λl nl8=>⟨_,_,rfl,?_⟩⟩⟩
  have gr8:dD K G7 G8:=b8.grow t7 t8
  obtain ⟨dp,ep,d5⟩:=(Dats.mono gr8 _ dy7).getV hx8
  rw [List.getElem?_map] at ep
  obtain ⟨pt,hpt,rfl⟩:=Option.map_eq_some_iff.mp ep
  have hpt:=List.mem_of_getElem? hpt
  have u9:Same G8 (upd G8 l (.lst [])):=aG nl8 _
  have hlt:l≠t:=λz=>by rw [z,t8] at nl8;cases nl8
  have nl:H l=none:=Option.eq_none_iff_forall_ne_some.mpr λo e=>by have:=b8 l o hlt (b7 l o hlt e);rw [nl8] at this;cases this
  have S0:S11 K a t l ns H (toP pt) v5 (upd G8 l (.lst [])) []:=⟨(hS7.but b8 t7).same u9,(b7.trans b8).trans u9.but,⟨p8,q8,u9 _ _ t8,g8⟩,⟨[],ay,Dats.nil⟩,u9.dat d5⟩
  have bks:=uK (eW "gap" pt) (eW "slot" pt)
  generalize upd G8 l (.lst [])=G9 at S0
  clear u9 d5 gr8 hx8 b8 t8 b7 t7 hS7 hy7 dy7 ly7
  dsimp only
  obtain ⟨h1,h2,⟨p9,q9,h3,h4⟩,_,_⟩:=id S0
  refine bX (tU (K:=K) (m:=4) ah h1 h3 h4 (by decide) (by decide) λkd GA pA qA k0 k4 bA tA gA=>⟨1,kd,rfl,rfl,1+kd,rfl,by omega,by omega,?_⟩)
  have SA:=S0.drawn bA tA gA hlt
  refine vY (n:=(1+kd).toNat) (λi σ G=>∃ (z7 z8:Option V) (bl:List (List Cl)),σ=[some (.ref a),some (.ref t),some v2,some v3,some (.ref l4),some v5,some (.ref l),z7,z8]/\bl.length=i/\(∀ x ∈ bl,x ∈ kF (eW "gap" pt) (eW "slot" pt))/\S11 K a t l ns H (toP pt) v5 G bl.flatten) ?_ ?_ ?_
  ·exact ⟨none,none,[],rfl,rfl,(λx hx=>by cases hx),SA⟩
  ·rintro i σ G hi ⟨z7,z8,bl,rfl,lbl,hbl,SG⟩
   have lfl:bl.flatten.length≤3 * bl.length:=by
    clear lbl SG
    induction bl with
    | nil=>simp
    | cons x bl ih =>
     have h1:=bks x (hbl x List.mem_cons_self)
     have h2:=ih λy hy=>hbl y (List.mem_cons_of_mem _ hy)
     rw [List.flatten_cons,List.length_append,List.length_cons]
     omega
   refine dj ?_
   dsimp only
   obtain ⟨h1,h2,⟨p1,q1,h3,h4⟩,_,_⟩:=id SG
   refine fJ (zf (K:=K) (ks:=[4,5,6,7,13,14,1,2,3,12]) (bw (aa ah (aa ah (aa ah (aa ah (aa ah (aa ah (aa ah (aa ah (aa ah (aa ah ao))))))))))) h1 h3 h4 (by decide) (by decide) λnum G1 p1 q1 hnum b1 t1 g1=>?_)
   have SG:=SG.drawn b1 t1 g1 hlt
   have fin:∀ {w:Option V} (blk:List Cl) (G':Hp),blk ∈ kF (eW "gap" pt) (eW "slot" pt)->S11 K a t l ns H (toP pt) v5 G' (bl.flatten++blk)->∃ (z7 z8:Option V) (bl:List (List Cl)),[some (.ref a),some (.ref t),some v2,some v3,some (.ref l4),some v5,some (.ref l),w,some (.int num)]=[some (.ref a),some (.ref t),some v2,some v3,some (.ref l4),some v5,some (.ref l),z7,z8]/\bl.length=i+1/\(∀ x ∈ bl,x ∈ kF (eW "gap" pt) (eW "slot" pt))/\S11 K a t l ns H (toP pt) v5 G' bl.flatten:=λ{w} blk G' hb S'=>⟨_,_,bl++[blk],rfl,by rw [List.length_append,lbl];rfl,λx hx=>by
     rcases List.mem_append.mp hx with hx | hx
     ·exact hbl x hx
     ·rw [List.mem_singleton.mp hx];exact hb,by rw [List.flatten_append,List.flatten_cons,List.flatten_nil,List.append_nil];exact S'⟩
   refine bX (qb (K:=K) (okc:=λc=>c=.n num) SG hlt nl (by omega) (λQ hQ=>⟨_,rfl,hQ _ G1 (.n num) rfl SG (Dat.intI num)⟩) λc G2 ec S2=>?_)
   subst ec
   dsimp only
   have ln1:(bl.flatten++[Cl.n num]).length≤900:=by rw [List.length_append,List.length_cons,List.length_nil];omega
   refine bX (RT.use (b:=decide (num ∈ ([1,12]:List Int))) (au (nq (K:=K) (ys:=[1,12]) (ae (k:=8) (Dat.intI num)) (aB (aa ah (aa ah ao))))) λG3 u3=>?_)
   have S3:=S2.same u3
   have no2:∀ {G:Hp} {us:TS} {w7:Option V},¬ num=2->True:=λ_=>trivial
   by_cases c1:num ∈ ([1,12]:List Int)
   ·rw [decide_eq_true c1]
    have n2:¬ num=2:=λz=>by rw [z] at c1;revert c1;decide
    have n3:¬ num=3:=λz=>by rw [z] at c1;revert c1;decide
    refine jQ (qb (K:=K) (okc:=λc=>([.n num,c]:List Cl) ∈ kF (eW "gap" pt) (eW "slot" pt)) S3 hlt nl ln1 (λQ hQ=>?_) λc G4 hc S4=>?_)
    ·refine RT.use (uf (K:=K) hm hpt (by decide +kernel) S3.d) λG4 u4=>?_
     have S4:=S3.same u4
     cases hg:eW "gap" pt with
     | true =>
      rw [hg] at hQ
      refine jQ (RE.use (aB (K:=K) (ds:=[.str "low",.int 0]) (aa av (aa ah ao))) λv G5 u5 dv=>hQ v G5 (.low 0) ?_ (S4.same u5) dv)
      rcases List.mem_cons.mp c1 with rfl | c1
      ·cases eW "slot" pt <;> simp [kF]
      ·obtain rfl:=List.mem_singleton.mp c1
       cases eW "slot" pt <;> simp [kF]
     | false =>
      rw [hg] at hQ
      obtain ⟨h1,h2,⟨p5,q5,h3,h4⟩,_,_⟩:=id S4
      refine jP (tU (K:=K) (m:=3) ah h1 h3 h4 (by decide) (by decide) λk2 G5 p6 q6 k0 k1 b5 t5 g5=>hQ _ G5 (.n k2) ?_ (S4.drawn b5 t5 g5 hlt) (Dat.intI k2))
      have hk:k2=0\/k2=1\/k2=2:=by omega
      rcases List.mem_cons.mp c1 with rfl | c1
      ·rcases hk with rfl | rfl | rfl <;> (cases eW "slot" pt <;> simp [kF])
      ·obtain rfl:=List.mem_singleton.mp c1
       rcases hk with rfl | rfl | rfl <;> (cases eW "slot" pt <;> simp [kF])
    ·rw [List.append_assoc] at S4
     refine aA (K:=K) (b:=false) (RT.as (au (dC (K:=K) (ae (k:=8) (Dat.intI num)) ah)) (decide_eq_false n2)) (λc=>nomatch c) (λ_ G5 u5=>?_)
     refine dQ (b:=false) (RT.as (au (dC (K:=K) (ae (k:=8) (Dat.intI num)) ah)) (decide_eq_false n3)) (λc=>nomatch c) (λ_ G6 u6=>?_)
     exact (show iJ _ _ _ from fin [.n num,c] G6 hc (S4.same (u5.trans u6)))
   ·rw [decide_eq_false c1]
    refine jP (show iJ _ _ _ from ?_)
    show jZ _ _ _ _ _
    by_cases c2:num=2
    ·subst c2
     refine bX (dQ (b:=true) (RT.as (au (dC (K:=K) (ae (k:=8) (Dat.intI 2)) ah)) (decide_eq_true rfl)) (λ_ G4 u4=>?_) (λc=>nomatch c))
     have S4:=S3.same u4
     obtain ⟨ys,hy,dy⟩:=S4.l
     have ly:=dy.length
     rw [List.length_map] at ly
     refine jr (K:=K) (j:=6) (es:=(if eW "gap" pt=true then ([.low 0,.high 0]:List Cl) else [.n 7,.n 1]).map clD) (Bz (uf (K:=K) hm hpt (by decide +kernel) S4.d) (λc=>?_) (λc=>?_)) hy (by rw [List.length_map,← ly];split <;> (simp only [List.length_cons,List.length_nil,List.length_append] at ln1 ⊢;omega)) λzs G5 b5 hy5 dz=>?_
     ·rw [if_pos c]
      exact bw (aa (aB (aa av (aa ah ao))) (aa (aB (aa av (aa ah ao))) ao))
     ·rw [if_neg (by rw [c];exact Bool.false_ne_true)]
      exact bw (aa ah (aa ah ao))
     ·have S5:=S4.grown b5 hy5 (by rw [List.map_append];exact Dats.append (Dats.mono (b5.grow hy hy5) _ dy) dz) hlt nl
      rw [List.append_assoc] at S5
      refine dQ (b:=false) (RT.as (au (dC (K:=K) (ae (k:=8) (Dat.intI 2)) ah)) (decide_eq_false (by decide))) (λc=>nomatch c) (λ_ G6 u6=>?_)
      exact (show iJ _ _ _ from fin _ G6 (by cases eW "gap" pt <;> cases eW "slot" pt <;> simp [kF]) (S5.same u6))
    ·refine aA (K:=K) (b:=false) (RT.as (au (dC (K:=K) (ae (k:=8) (Dat.intI num)) ah)) (decide_eq_false c2)) (λc=>nomatch c) (λ_ G4 u4=>?_)
     have S4:=S3.same u4
     by_cases c3:num=3
     ·subst c3
      refine dQ (b:=true) (RT.as (au (dC (K:=K) (ae (k:=8) (Dat.intI 3)) ah)) (decide_eq_true rfl)) (λ_ G5 u5=>?_) (λc=>nomatch c)
      have S5:=S4.same u5
      refine qb (K:=K) (okc:=λc=>c=if eW "slot" pt=true then .arg 0 else .n 0) S5 hlt nl ln1 (λQ hQ=>?_) λc G6 hc S6=>?_
      ·refine RE.use (jG (K:=K) (d:=clD (if eW "slot" pt=true then .arg 0 else .n 0)) (uf (K:=K) hm hpt (by decide +kernel) S5.d) (λc=>?_) (λc=>?_)) λv G6 u6 dv=>hQ v G6 _ rfl (S5.same u6) dv
       ·rw [if_pos c];exact aB (aa av (aa ah ao))
       ·rw [if_neg (by rw [c];exact Bool.false_ne_true)];exact ah
      ·rw [List.append_assoc] at S6
       subst hc
       exact fin _ G6 (by cases eW "gap" pt <;> cases eW "slot" pt <;> simp [kF]) S6
     ·refine dQ (b:=false) (RT.as (au (dC (K:=K) (ae (k:=8) (Dat.intI num)) ah)) (decide_eq_false c3)) (λc=>nomatch c) (λ_ G5 u5=>?_)
      refine (show iJ _ _ _ from fin [.n num] G5 ?_ (S4.same u5))
      have h6:([.n num]:List Cl) ∈ ([[.n 4],[.n 5],[.n 6],[.n 7],[.n 13],[.n 14]]:List (List Cl)):=by
       simp only [List.mem_cons,List.not_mem_nil,or_false,not_or] at hnum c1
       rcases hnum with rfl | rfl | rfl | rfl | rfl | rfl | h | h | h | h
       ·simp
       ·simp
       ·simp
       ·simp
       ·simp
       ·simp
       ·exact absurd h c1.1
       ·exact absurd h c2
       ·exact absurd h c3
       ·exact absurd h c1.2
      exact List.mem_append_left _ h6
  ·rintro σ G ⟨z7,z8,bl,rfl,lbl,hbl,SG⟩
   obtain ⟨h1,h2,⟨p1,q1,h3,h4⟩,⟨ys,hy,dy⟩,h7⟩:=id SG
   refine aP (K:=K) (d:=gd (.str "drawn") pt bl.flatten) (aB (aa av (aa (ae (k:=5) h7) (aa (uc (bW (k:=6) (LD.of hy dy))) ao)))) λv H' s' qv=>?_
   exact post v H' pt bl p1 q1 (h2.trans s'.but) (s' _ _ h3) h4 ⟨⟨m,hm,hpt⟩,by omega,by omega,hbl⟩ qv
def okB (cs:List Int):Bool:=decide (1≤cs.length) && decide (cs.length≤900) && cs.all λc=>decide (0≤c) && decide (c≤99)
theorem Cc (h:okB cs=true):okC cs:=by
 unfold okB at h
 rw [Bool.and_eq_true,Bool.and_eq_true] at h
 refine ⟨of_decide_eq_true h.1.1,of_decide_eq_true h.1.2,λi c hc=>?_⟩
 have:=List.all_eq_true.mp h.2 c (List.mem_of_getElem? hc)
 rw [Bool.and_eq_true] at this
 exact ⟨of_decide_eq_true this.1,of_decide_eq_true this.2⟩
def wu:Tr->Bool
 | .num n=>decide (0≤n) && decide (n≤9999)
 | .arg k=>decide (0≤k) && decide (k≤3)
 | .two o a b=>(decide (o="add") || decide (o="sub") || decide (o="mul") || decide (o="less")) && (wu a && wu b)
 | .pick _ _ _=>false
theorem pJ:∀ {t:Tr},wu t=true->okT t
 | .num n,h=>by
  have h:(decide (0≤n) && decide (n≤9999))=true:=h
  rw [Bool.and_eq_true] at h
  exact ⟨of_decide_eq_true h.1,of_decide_eq_true h.2⟩
 | .arg k,h=>by
  have h:(decide (0≤k) && decide (k≤3))=true:=h
  rw [Bool.and_eq_true] at h
  exact ⟨of_decide_eq_true h.1,of_decide_eq_true h.2⟩
 | .two o a b,h=>by
  have h:((decide (o="add") || decide (o="sub") || decide (o="mul") || decide (o="less")) && (wu a && wu b))=true:=h
  rw [Bool.and_eq_true,Bool.and_eq_true] at h
  exact ⟨nJ h.1,pJ h.2.1,pJ h.2.2⟩
 | .pick _ _ _,h=>by cases h
def inB (b x:Int):Bool:=decide (0≤x) && decide (x < b)
theorem yl {b:Int} {l:List Int} (h:l.all (inB b)=true):∀ x ∈ l,0≤x/\x < b:=λx hx=>by
 have:=List.all_eq_true.mp h x hx
 unfold inB at this
 rw [Bool.and_eq_true] at this
 exact ⟨of_decide_eq_true this.1,of_decide_eq_true this.2⟩
def oP (css:List (List Int)):Bool:=decide (css.length≤20) && (List.range css.length).all λi=>decide ((bg (css.take i)).length * (css.getD i []).length≤1000)
theorem jg (h:oP css=true):il css:=by
 unfold oP at h
 rw [Bool.and_eq_true] at h
 exact ⟨of_decide_eq_true h.1,λi hi=>of_decide_eq_true (List.all_eq_true.mp h.2 i (List.mem_range.mpr hi))⟩
def uv (pt:Pa) (cl:List Cl) (b:Nat) (hs nums ks as:List Int):Bool :=
 (okF hs.length nums.length ks.length pt && (decide (aZ pt≤3) && (wu (fpT hs nums ks pt) && (decide (dB (fpT hs nums ks pt)≤8) && (cl.all (mq nums.length ks.length) && decide (cl.length≤12)))))) &&
 ((okB (cl.map (cK nums ks)) && (decide (as.length=4) && (as.all (inB b) && (decide (2≤(b:Int)) && decide ((b:Int)≤10000))))) && (((1::hs).reverse.all (inB b) && decide ((1::hs).reverse.length≤64)) &&
 (goS (mcT cl nums ks as b) 20 (stT hs)).isSome))
variable {b:Nat}
theorem xc {pt:Pa} {as:List Int} (h:uv pt cl b hs nums ks as=true):lR pt cl hs nums ks as b/\∃ r,goS (mcT cl nums ks as b) 20 (stT hs)=some r:=by
 unfold uv at h
 simp only [Bool.and_eq_true,decide_eq_true_eq] at h
 obtain ⟨⟨h1,h2,h3,h4,h5,h6⟩,⟨k1,k2,k3,k4,k5⟩,⟨m1,m2⟩,n⟩:=h
 exact ⟨⟨h1,h2,pJ h3,h4,λc hc=>List.all_eq_true.mp h5 c hc,h6,⟨Cc k1,k2,yl k3,k4,k5⟩,⟨yl m1,m2,Nat.zero_le _⟩⟩,Option.isSome_iff_exists.mp n⟩
def mC (nm:Str) (pt:Pa) (b:Nat):Bool :=
 (decide (nm.length≤100) && (ppD 3 (toP pt) && (n0 pt && (decide (aZ pt≤3) && (decide (2≤b) && decide (b≤5)))))) && (((gD pt).all λc=>(sU c).isSome) && (oP (iL pt b) && (oP (fz pt) && (oP (eV pt) && (bg (eV pt)).all (λks=>oP (gm ks b))))))
def uQ (nm:Str) (pt:Pa) (cl:List Cl) (b:Nat):Bool :=
 (mC nm pt b && ((jd (gd (.str nm) pt cl) == some true) && (cl.all (mq (fz pt).length (eV pt).length) && decide (cl.length≤12)))) && (bg (iL pt b)).all λhs=>(bg (fz pt)).all λnums=>(bg (eV pt)).all λks=>(bg (gm ks b)).all λas=>uv pt cl b hs nums ks as
theorem uR {pt:Pa} (h:mC nm pt b=true) (pc:jd (gd (.str nm) pt cl)=some true) (hc:∀ c ∈ cl,mq (fz pt).length (eV pt).length c=true) (hl:cl.length≤12)
  (hall:∀ hs ∈ bg (iL pt b),∀ nums ∈ bg (fz pt),∀ ks ∈ bg (eV pt),∀ as ∈ bg (gm ks b),lR pt cl hs nums ks as b/\∃ r,goS (mcT cl nums ks as b) 20 (stT hs)=some r):oj (.str nm) pt cl b:=by
 unfold mC at h
 simp only [Bool.and_eq_true,decide_eq_true_eq] at h
 obtain ⟨⟨h1,h2,h3,h4,h5,h6⟩,k1,k2,k3,k4,k5⟩:=h
 exact ⟨pc,Nat.le_trans h1 (show 100≤sizeLine by decide),h2,h3,h4,hc,hl,h5,h6,λc hc=>List.all_eq_true.mp k1 c hc,jg k2,jg k3,jg k4,λks hk=>jg (List.all_eq_true.mp k5 ks hk),hall⟩
theorem qO {pt:Pa} (h:uQ nm pt cl b=true):oj (.str nm) pt cl b:=by
 unfold uQ at h
 rw [Bool.and_eq_true,Bool.and_eq_true,Bool.and_eq_true,Bool.and_eq_true] at h
 obtain ⟨⟨h1,h2,h3,h4⟩,k⟩:=h
 exact uR h1 (by simpa using h2) (λc hc=>List.all_eq_true.mp h3 c hc) (of_decide_eq_true h4) λhs h1 nums h2 ks h3 as h4=>xc (List.all_eq_true.mp (List.all_eq_true.mp (List.all_eq_true.mp (List.all_eq_true.mp k hs h1) nums h2) ks h3) as h4)
abbrev BS:List Nat:=[2,3,4,5]
def OddP:List (Str × Pa × List Cl):=[("odd",.gap 0 150,[.n 1,.low 0]),("odd",.two "add" (.hole 0) (.gap 0 9999),[.n 12,.low 0]),("odd",.gap 0 9999,[.n 2,.high 0,.low 0]),("odd",.two "less" (.hole 0) (.hole 1),[.n 14,.n 7])]
theorem yF:∀ b ∈ BS,∀ p ∈ OddP,uQ p.1 p.2.1 p.2.2 b=true:=by decide +kernel
def GoodL:List (Str × Pa × List Cl):=[("one",.gap 0 99,[.n 1,.low 0]),("two",.gap 0 9999,[.n 2,.low 0,.high 0]),("slot",.slot 0,[.n 3,.arg 0]),("add",.two "add" (.hole 0) (.hole 1),[.n 4]),("sub",.two "sub" (.hole 0) (.hole 1),[.n 5]),("mul",.two "mul" (.hole 0) (.hole 1),[.n 6]),("less",.two "less" (.hole 0) (.hole 1),[.n 7]),("more",.two "add" (.hole 0) (.gap 0 99),[.n 12,.low 0]),
 ("inc",.two "add" (.hole 0) (.num 1),[.n 12,.n 1]),("both",.two "add" (.slot 0) (.slot 1),[.n 3,.arg 0,.n 3,.arg 1,.n 4]),("twofold",.two "mul" (.hole 0) (.num 2),[.n 13,.n 4]),("fewer",.two "sub" (.hole 0) (.gap 0 99),[.n 1,.low 0,.n 5]),("addmul",.two "add" (.two "mul" (.hole 0) (.hole 1)) (.gap 0 99),[.n 6,.n 12,.low 0]),("turned",.two "less" (.gap 0 99) (.hole 0),[.n 1,.low 0,.n 14,.n 7]),("far",.two "add" (.hole 0) (.gap 0 9999),[.n 2,.low 0,.high 0,.n 4]),("pair",.two "sub" (.gap 0 99) (.gap 1 99),[.n 1,.low 0,.n 1,.low 1,.n 5])]
theorem Ap:BAS++LPD=GoodL.map λp=>gd (.str p.1) p.2.1 p.2.2:=rfl
theorem vZ:∀ b ∈ BS,∀ p ∈ GoodL,(bO "slot" p.2.1).length < 2->uQ p.1 p.2.1 p.2.2 b=true/\(iX p.2.1 p.2.2 b).isNone=true:=by decide +kernel
theorem Ao:∀ p ∈ GoodL,aZ p.2.1≤3:=by decide +kernel
theorem qW:∀ (css:List (List Int)) (rs:List (List Int)) (r:List Int),r ∈ css.foldl gj rs->∀ x ∈ r,(∃ r0 ∈ rs,x ∈ r0)\/∃ c ∈ css,x ∈ c
 | [],rs,r,h,x,hx=>.inl ⟨r,h,hx⟩
 | c::css,rs,r,h,x,hx=>by
  rcases qW css (gj rs c) r h x hx with ⟨r0,h0,hx0⟩ | ⟨c',hc',hx'⟩
  ·obtain ⟨r1,h1,h2⟩:=List.mem_flatMap.mp h0
   obtain ⟨y,hy,rfl⟩:=List.mem_map.mp h2
   rcases List.mem_append.mp hx0 with h3 | h3
   ·exact .inl ⟨r1,h1,h3⟩
   ·rw [List.mem_singleton.mp h3];exact .inr ⟨c,List.mem_cons_self,hy⟩
  ·exact .inr ⟨c',List.mem_cons_of_mem _ hc',hx'⟩
theorem kg {x:Int} (h:r ∈ bg css) (hx:x ∈ r):∃ c ∈ css,x ∈ c:=by
 rcases qW css [[]] r h x hx with ⟨r0,h0,h1⟩ | h
 ·rw [List.mem_singleton.mp h0] at h1;cases h1
 ·exact h
theorem pH {x:Int} (h:x ∈ rng b):0≤x/\x < b:=by
 obtain ⟨i,hi,rfl⟩:=List.mem_map.mp h
 have:=List.mem_range.mp hi
 omega
theorem CQ {x:Int} (h:x ∈ TRI):0≤x/\x≤9999:=by
 revert h;revert x;decide
def wo:Pa->Bool
 | .num n=>decide (0≤n) && decide (n≤9999)
 | .two _ a b=>wo a && wo b
 | _=>true
theorem tG (h1:∀ x ∈ hs,0≤x/\x≤9999) (h2:∀ x ∈ nums,0≤x/\x≤9999) (h3:∀ x ∈ ks,0≤x/\x≤3):∀ p:Pa,okF hs.length nums.length ks.length p=true->wo p=true->okT (fpT hs nums ks p)
 | .hole i,h,_=>h1 _ (gT (ik h).2)
 | .gap i m,h,_=>h2 _ (gT (ik h).2)
 | .slot i,h,_=>h3 _ (gT (ik h).2)
 | .num n,_,h=>by
  have h:(decide (0≤n) && decide (n≤9999))=true:=h
  rw [Bool.and_eq_true] at h
  exact ⟨of_decide_eq_true h.1,of_decide_eq_true h.2⟩
 | .two o a b,h,hn=>by
  have h:((decide (o="add") || decide (o="sub") || decide (o="mul") || decide (o="less")) && (okF hs.length nums.length ks.length a && okF hs.length nums.length ks.length b))=true:=h
  have hn:(wo a && wo b)=true:=hn
  rw [Bool.and_eq_true,Bool.and_eq_true] at h
  rw [Bool.and_eq_true] at hn
  exact ⟨nJ h.1,tG h1 h2 h3 a h.2.1 hn.1,tG h1 h2 h3 b h.2.2 hn.2⟩
theorem ph (hs nums ks:List Int):∀ p:Pa,dB (fpT hs nums ks p)≤aZ p
 | .hole i=>Nat.le_refl _
 | .gap i m=>Nat.le_refl _
 | .slot i=>Nat.le_refl _
 | .num n=>Nat.le_refl _
 | .two o a b=>by
  have ha:=ph hs nums ks a
  have hb:=ph hs nums ks b
  show dB (.two o (fpT hs nums ks a) (fpT hs nums ks b))≤1+max (aZ a) (aZ b)
  simp only [dB]
  omega
def vR (pt:Pa):List Cl->Bool
 | .n c::r=>(bY (.int c) 0 99 && (decide (iH c=some (nmC c,r.length)) && (decide (nmC c ∈ SS) && ((r.map clD).map (mm (toP pt))).all id))) && ((decide (0≤c) && decide (c≤16)) && (decide (bM c=r.length) && (r.all (mq (fz pt).length (eV pt).length) && r.all λx=>match x with
  | .n i=>decide (0≤i) && decide (i≤99)
  | _=>true)))
 | _=>false
theorem Ag:∀ m ∈ MG,∀ p ∈ wB m,∀ x ∈ kF (eW "gap" p) (eW "slot" p),vR p x=true:=by decide +kernel
structure DA (pt:Pa) (c:Int) (r:List Cl):Prop where
 w:bY (.int c) 0 99=true
 i:iH c=some (nmC c,r.length)
 s:nmC c ∈ SS
 k:((r.map clD).map (mm (toP pt))).all id=true
 c0:0≤c
 c16:c≤16
 b:bM c=r.length
 o:∀ x ∈ r,mq (fz pt).length (eV pt).length x=true
 n:∀ i,Cl.n i ∈ r->0≤i/\i≤99
theorem lP {pt:Pa} {x:List Cl} (h:vR pt x=true):∃ c r,x=.n c::r/\DA pt c r:=by
 match x,h with
 | .n c::r,h =>
  simp only [vR,Bool.and_eq_true,decide_eq_true_eq] at h
  obtain ⟨⟨h1,h2,h3,h4⟩,⟨h5,h6⟩,h7,h8,h9⟩:=h
  refine ⟨c,r,rfl,h1,h2,h3,h4,h5,h6,h7,λx hx=>List.all_eq_true.mp h8 x hx,λi hi=>?_⟩
  have:=List.all_eq_true.mp h9 _ hi
  rw [Bool.and_eq_true] at this
  exact ⟨of_decide_eq_true this.1,of_decide_eq_true this.2⟩
 | [],h=>cases h
 | .arg _::_,h=>cases h
 | .low _::_,h=>cases h
 | .high _::_,h=>cases h
theorem xB {α:Type} {pre r:List α} {x:α}:(pre++x::r)[pre.length]?=some x:=by
 rw [List.getElem?_append_right (Nat.le_refl _),Nat.sub_self];rfl
theorem qB {pt:Pa}:∀ (bl:List (List Cl)) (pre:List Cl) (n:Nat),bl.length < n->(∀ x ∈ bl,vR pt x=true)->jJ n (toP pt) ((pre++bl.flatten).map clD) pre.length=some true
 | [],pre,n,hn,_=>by
  obtain ⟨n,rfl⟩:∃ m,n=m+1:=⟨n - 1,by have:0 < n:=hn;omega⟩
  unfold jJ
  rw [List.flatten_nil,List.append_nil,List.getElem?_eq_none (by rw [List.length_map];omega)]
 | x::bl,pre,n,hn,h=>by
  obtain ⟨n,rfl⟩:∃ m,n=m+1:=⟨n - 1,by have:bl.length+1 < n:=hn;omega⟩
  obtain ⟨c,r,rfl,B⟩:=lP (h x List.mem_cons_self)
  have e1:pre++((Cl.n c::r)::bl).flatten=pre++Cl.n c::(r++bl.flatten):=by rw [List.flatten_cons];rfl
  have e2:pre++((Cl.n c::r)::bl).flatten=(pre++Cl.n c::r)++bl.flatten:=by rw [List.flatten_cons,List.append_assoc]
  have ih:=qB bl (pre++Cl.n c::r) n (by have:bl.length+1 < n+1:=hn;omega) λy hy=>h y (List.mem_cons_of_mem _ hy)
  rw [← e2] at ih
  have hx:((pre++((Cl.n c::r)::bl).flatten).map clD)[pre.length]?=some (.int c):=by rw [List.getElem?_map,e1,xB];rfl
  have hb:fu ((pre++((Cl.n c::r)::bl).flatten).map clD) pre.length r.length=r.map clD:=by
   unfold fu
   rw [← List.map_drop,← List.map_take,e1,List.drop_append,List.drop_eq_nil_of_le (by omega),Nat.add_sub_cancel_left,List.nil_append]
   show List.map clD (List.take r.length (r++bl.flatten))=_
   rw [List.take_append_of_le_length (Nat.le_refl _),List.take_length]
  unfold jJ
  rw [hx]
  dsimp only
  rw [if_neg (by rw [B.w];exact λz=>nomatch z)]
  unfold B2
  dsimp only
  rw [B.i]
  dsimp only
  rw [hb,if_pos (by rw [List.length_map]),if_neg (by rw [decide_eq_true B.s,B.k];exact λz=>nomatch z)]
  have el:pre.length+1+r.length=(pre++Cl.n c::r).length:=by rw [List.length_append,List.length_cons];omega
  rw [el]
  exact ih
theorem uU {pt:Pa} {as:List Int} {b:Int}:∀ (bl:List (List Cl)) (pre:List Cl) (n:Nat) (st:MS),cl=pre++bl.flatten->st.place=pre.length->bl.length < n->(∀ x ∈ bl,vR pt x=true)->∃ r,goS (mcT cl nums ks as b) n st=some r
 | [],pre,n,st,ec,hp,hn,_=>by
  obtain ⟨n,rfl⟩:∃ m,n=m+1:=⟨n - 1,by have:0 < n:=hn;omega⟩
  refine ⟨some st,?_⟩
  unfold goS
  rw [List.getElem?_eq_none (by rw [List.length_map,ec,hp,List.flatten_nil,List.append_nil];omega)]
 | x::bl,pre,n,st,ec,hp,hn,h=>by
  obtain ⟨n,rfl⟩:∃ m,n=m+1:=⟨n - 1,by have:bl.length+1 < n:=hn;omega⟩
  obtain ⟨c,r,rfl,B⟩:=lP (h x List.mem_cons_self)
  have e1:cl=pre++Cl.n c::(r++bl.flatten):=by rw [ec,List.flatten_cons];rfl
  have e2:cl=(pre++Cl.n c::r)++bl.flatten:=by rw [ec,List.flatten_cons,List.append_assoc]
  have hx:(mcT cl nums ks as b).cs[st.place]?=some c:=by show (cl.map (cK nums ks))[st.place]?=_;rw [List.getElem?_map,hp,e1,xB];rfl
  have hb:iU (mcT cl nums ks as b).cs st.place c=false:=by
   unfold iU
   rw [decide_eq_false (by have:=B.c16;omega),Bool.false_or]
   refine decide_eq_false ?_
   rw [show (mcT cl nums ks as b).cs.length=cl.length from List.length_map _,e1,hp,B.b,List.length_append,List.length_cons,List.length_append]
   omega
  unfold goS
  rw [hx]
  dsimp only
  rw [if_pos ⟨B.s,B.c16,hb⟩]
  cases doR (mcT cl nums ks as b) (nmC c) (iM (mcT cl nums ks as b).cs st.place c) st with
  | none=>exact ⟨none,rfl⟩
  | some s=>exact uU bl (pre++Cl.n c::r) n _ e2 (by show st.place+1+bM c=_;rw [hp,B.b,List.length_append,List.length_cons];omega) (by have:bl.length+1 < n+1:=hn;omega) λy hy=>h y (List.mem_cons_of_mem _ hy)
def C9 (pt:Pa) (b:Nat):Bool:=mC "drawn" pt b && (m5 (toP pt) && (okF (iL pt b).length (fz pt).length (eV pt).length pt && wo pt))
theorem wC:∀ b ∈ BS,∀ m ∈ MG,∀ p ∈ wB m,C9 p b=true:=by decide +kernel
theorem qL:gZ (.str "drawn")=true/\mG (.str "drawn")=false:=by decide +kernel
theorem C1 (h2:2≤b) (h5:b≤5):b ∈ BS:=by
 have:b=2\/b=3\/b=4\/b=5:=by omega
 rcases this with rfl | rfl | rfl | rfl <;> decide
theorem mw {pt:Pa} {bl:List (List Cl)} (D:Drawn pt bl) (hb:b ∈ BS):oj (.str "drawn") pt bl.flatten b:=by
 obtain ⟨⟨m,hm,hp⟩,l1,l4,hbl⟩:=D
 have hB:∀ x ∈ bl,vR pt x=true:=λx hx=>Ag m hm pt hp x (hbl x hx)
 have F:=wC b hb m hm pt hp
 unfold C9 at F
 rw [Bool.and_eq_true,Bool.and_eq_true,Bool.and_eq_true] at F
 obtain ⟨f1,f2,f3,f4⟩:=F
 have b25:2≤b/\b≤5:=by revert hb;clear f1 f3;revert b;decide
 have lx:∀ x ∈ bl,1≤x.length/\x.length≤3:=λx hx=>by
  obtain ⟨c,r,rfl,B⟩:=lP (hB x hx)
  exact ⟨Nat.succ_le_succ (Nat.zero_le _),uK _ _ _ (hbl _ hx)⟩
 have lf:bl.length≤bl.flatten.length/\bl.flatten.length≤3 * bl.length:=by
  clear l1 l4 hbl hB
  induction bl with
  | nil=>exact ⟨Nat.le_refl _,Nat.le_refl _⟩
  | cons x bl ih =>
   have h1:=lx x List.mem_cons_self
   have h2:=ih λy hy=>lx y (List.mem_cons_of_mem _ hy)
   rw [List.flatten_cons,List.length_append,List.length_cons]
   omega
 have hcl:∀ c ∈ bl.flatten,mq (fz pt).length (eV pt).length c=true/\∀ i,c=Cl.n i->0≤i/\i≤99:=λy hy=>by
  obtain ⟨x,hx,hyx⟩:=List.mem_flatten.mp hy
  obtain ⟨c,r,rfl,B⟩:=lP (hB x hx)
  rcases List.mem_cons.mp hyx with rfl | h
  ·exact ⟨rfl,λi e=>by cases e;have:=B.c0;have:=B.c16;omega⟩
  ·exact ⟨B.o y h,λi e=>B.n i (by rw [← e];exact h)⟩
 have pc:jd (gd (.str "drawn") pt bl.flatten)=some true:=by
  show (if (!gZ (.str "drawn") || (mG (.str "drawn") || !m5 (toP pt)))=true then some false else csD (toP pt) (.tup (bl.flatten.map clD)))=_
  rw [qL.1,qL.2,f2]
  rw [if_neg (by decide)]
  show (if (decide (1≤((bl.flatten.map clD).length:Int)) && decide (((bl.flatten.map clD).length:Int)≤12))=false then some false else jJ ((bl.flatten.map clD).length+1) (toP pt) (bl.flatten.map clD) 0)=_
  rw [List.length_map,decide_eq_true (by omega),decide_eq_true (by omega),if_neg (by decide)]
  exact qB bl [] _ (by omega) hB
 refine uR f1 pc (λc hc=>(hcl c hc).1) (by omega) λhs hhs nums hnums ks hks as has=>?_
 have lh:=fD _ hs hhs
 have ln:=fD _ nums hnums
 have lk:=fD _ ks hks
 have la:=fD _ as has
 have hf:okF hs.length nums.length ks.length pt=true:=by rw [lh,ln,lk];exact f3
 have mh:∀ x ∈ hs,0≤x/\x < (b:Int):=λx hx=>by
  obtain ⟨c,hc,hxc⟩:=kg hhs hx
  obtain ⟨_,_,rfl⟩:=List.mem_map.mp hc
  exact pH hxc
 have mn:∀ x ∈ nums,0≤x/\x≤9999:=λx hx=>by
  obtain ⟨c,hc,hxc⟩:=kg hnums hx
  obtain ⟨_,_,rfl⟩:=List.mem_map.mp hc
  exact CQ (List.mem_filter.mp hxc).1
 have mk:∀ x ∈ ks,0≤x/\x≤3:=λx hx=>by
  obtain ⟨c,hc,hxc⟩:=kg hks hx
  obtain ⟨_,_,rfl⟩:=List.mem_map.mp hc
  have:=pH hxc
  omega
 have ma:∀ x ∈ as,0≤x/\x < (b:Int):=λx hx=>by
  obtain ⟨c,hc,hxc⟩:=kg has hx
  obtain ⟨k,_,rfl⟩:=List.mem_map.mp hc
  split at hxc
  ·exact pH hxc
  ·rw [List.mem_singleton.mp hxc];omega
 have hc:∀ c ∈ bl.flatten,mq nums.length ks.length c=true:=λc hc=>by rw [ln,lk];exact (hcl c hc).1
 refine ⟨⟨hf,?_,tG (λx hx=>by have:=mh x hx;omega) mn mk pt hf f4,Nat.le_trans (ph hs nums ks pt) ?_,hc,by omega,⟨⟨?_,?_,λi c hi=>?_⟩,?_,ma,by show (2:Int)≤b;omega,by show (b:Int)≤10000;omega⟩,⟨λx hx=>?_,?_,Nat.zero_le _⟩⟩,uU bl [] 20 _ rfl rfl (by omega) hB⟩
 ·exact (pZ m hm pt hp).1
 ·exact Nat.le_trans (pZ m hm pt hp).1 (by decide)
 ·show 1≤(bl.flatten.map _).length
  rw [List.length_map];omega
 ·show (bl.flatten.map _).length≤900
  rw [List.length_map];omega
 ·have hi:(bl.flatten.map (cK nums ks))[i]?=some c:=hi
  rw [List.getElem?_map] at hi
  obtain ⟨x,hx,rfl⟩:=Option.map_eq_some_iff.mp hi
  have hx:=List.mem_of_getElem? hx
  have hok:=hc x hx
  cases x with
  | n j=>exact (hcl _ hx).2 j rfl
  | arg j=>have:=mk _ (gT (of_decide_eq_true hok));show 0≤ks.getD j 0/\ks.getD j 0≤99;omega
  | low j=>show 0≤nums.getD j 0 % 100/\nums.getD j 0 % 100≤99;omega
  | high j=>have:=mn _ (gT (of_decide_eq_true hok));show 0≤nums.getD j 0 / 100/\nums.getD j 0 / 100≤99;omega
 ·show as.length=4
  rw [la];unfold gm;rw [List.length_map,List.length_range]
 ·have hx:x ∈ (1::hs).reverse:=hx
  rcases List.mem_cons.mp (List.mem_reverse.mp hx) with rfl | h
  ·show 0≤(1:Int)/\(1:Int) < b;omega
  ·exact mh x h
 ·show (1::hs).reverse.length≤64
  have:(iL pt b).length≤20:=by
   unfold mC at f1
   simp only [Bool.and_eq_true,decide_eq_true_eq] at f1
   exact (jg f1.2.2.1).1
  rw [List.length_reverse,List.length_cons];omega
theorem zt {K:PySem.W.Frag} {tK:TA} {fs:List D} {gV:List V->List V->List V} {R:List D->D->Prop} (h:RA K tA σ H ds) (hk:RA K tK σ H es) (hg:∀ H vs zs,Dats K H ds vs->Dats K H es zs->Dats K H fs (gV vs zs)) (e:R fs d) :
  RE K (ur (spD K R) gV E tA tK) σ H d:=λH1 s Q q =>
 h H1 s _ λvs H2 s2 q2=>hk H2 (s.trans s2) _ λzs H3 s3 q3=>⟨fs,d,hg _ _ _ (s3.dats q2) q3,e,λv H4 s4 q4=>q _ _ (s2.trans (s3.trans s4)) q4⟩
theorem Cb:OddP.map (λp=>gd (.str p.1) p.2.1 p.2.2)=[gd (.str "odd") (.gap 0 150) [.n 1,.low 0],gd (.str "odd") (.two "add" (.hole 0) (.gap 0 9999)) [.n 12,.low 0]]++[gd (.str "odd") (.gap 0 9999) [.n 2,.high 0,.low 0],gd (.str "odd") (.two "less" (.hole 0) (.hole 1)) [.n 14,.n 7]]:=rfl
theorem vB {pt:Pa} {x:V} (F:oj (.str nm) pt cl b) (hx:Dat K G (gd (.str nm) pt cl) x) (e1:σ[i]?=some (some x):=by rfl) (e2:σ[j]?=some (some (.int (b:Int))):=by rfl) :
  RE K (ur (spD K om) jo E (bf (cx i) cu) (bf (cx j) cu)) σ G (zM (iX pt cl b)) :=
 zt (ds:=[gd (.str nm) pt cl]) (es:=[.int (b:Int)]) (fs:=[gd (.str nm) pt cl,.int (b:Int)]) (aa (ae (k:=i) hx e1) ao) (aa (ae (k:=j) (Dat.intI (b:Int)) e2) ao) (λH vs zs h1 h2=>by
  obtain ⟨v,rfl,hv⟩:=fA h1
  obtain ⟨z,rfl,hz⟩:=fA h2
  exact Dats.cons hv (Dats.cons hz Dats.nil)) ⟨.str nm,pt,cl,b,rfl,F,rfl⟩
theorem xa:∀ o:Option vM,noL (zM o)=true/\gz (zM o)≤20
 | none=>⟨rfl,by decide⟩
 | some t=>by
  obtain ⟨a,b,c,d⟩:=t
  refine ⟨?_,?_⟩
  ·show (noLs (a.map D.int) && (noLs (b.map D.int) && (noLs (c.map D.int) && (noLs (d.map D.int) && true))))=true
   rw [dE,dE,dE,dE]
   rfl
  ·show max (deepDs (a.map D.int)+1) (max (deepDs (b.map D.int)+1) (max (deepDs (c.map D.int)+1) (max (deepDs (d.map D.int)+1) 0)))+1≤20
   rw [cJ,cJ,cJ,cJ]
   decide
def FineV (K:PySem.W.Frag) (b:Nat) (G:Hp) (x:V):Prop:=∃ (nm:Str) (pt:Pa) (cl:List Cl),oj (.str nm) pt cl b/\Dat K G (gd (.str nm) pt cl) x
theorem FineV.grow {x:V} (h:FineV K b G x) (g:dD K G G'):FineV K b G' x:=by
 obtain ⟨nm,pt,cl,F,d⟩:=h
 exact ⟨nm,pt,cl,F,Dat.mono g _ d⟩
theorem FineV.same {x:V} (h:FineV K b G x) (s:Same G G'):FineV K b G' x:=by
 obtain ⟨nm,pt,cl,F,d⟩:=h
 exact ⟨nm,pt,cl,F,s.dat d⟩
def r9 (K:PySem.W.Frag):Sp:=λvs H Q _=>∃ (a:Addr) (ns:List Int),vs=[.ref a]/\Scr K H a ns/\∀ H',Q (.bl true) H'
theorem Cf (T:Txt P w K mg) (Ga:FnOk P w K mg base CX0 k T.Fn T.Fs ["_law_script","_law_town","_law_many"] (nF K)) (Gb:FnOk P w K mg base CX0 k T.Gc T.Gd ["_law_script","_law_town","_law_some"] (qp K)) (JH:FnOk P w K mg base CX0 k T.FM T.FT [] (fU K λds es=>ds=[]/\es=LPD)) (DY:FnOk P w K mg base CX0 k T.Em T.Eo ["_law_pattern","_law_head"] (fU K (d6 3))) (JL:FnOk P w K mg base CX0 k T.Ij T.Ip ["piece","size"] (spD K om)) (HB:FnOk P w K mg base CX0 k T.Ew T.Ez ["_law_script","_law_town"] (vG K)) (Ja:FnOk P w K mg base CX0 k T.GE T.GG ["thing"] (spD K lZ)) (IE:FnOk P w K mg base CX0 k T.Ee T.Ef ["_law_piece","_law_base"] (spD K om)):FnOk P w K mg base CX0 (k+1) T.J4 T.Kf ["_law_script"] (r9 K):=by
 refine T.Kv.ok sc_law (λvs H Q E h=>?_) (λcdv A outer s H vs Q E hr h=>?_)
 ·obtain ⟨a,ns,rfl,_⟩:=h;rfl
 have nd:=sc_law.nd
 obtain ⟨a,ns,rfl,hS,post⟩:=h
 refine' ⟨_,?ybody,?yread⟩
 case ybody =>
  refine' ak ?y104 ?y105
  case y104=>exact (ba (i:=1) nd rfl (Or.inl rfl) (bu (ag aj (ag aj af))))
  case y105 =>
   refine' ak ?y102 ?y103
   case y102=>exact (ba (i:=2) nd rfl (Or.inl rfl) (aU ck aj (aD Ga hr rfl T.He T.Fw.kp (gv T) .nil aQ (ag (pv 0) (ag (pv 1) (ag aj af))))))
   case y103 =>
    refine' ak ?y100 ?y101
    case y100=>exact (ba (i:=3) nd rfl (Or.inl rfl) (aD Gb hr rfl T.Gi T.E7.kp (ft T) .nil aQ (ag (pv 0) (ag (pv 1) (ag (aU kn (bj (v:=.ref T.Jx) rfl T.IQ rfl) (rD JH hr rfl T.IT T.GP.kp (nP T) .nil aQ)) af)))))
    case y101 =>
     refine' ak ?y98 ?y99
     case y98 =>
      refine' aT ?y2 ?y3 ?y4
      case y2=>exact (PW.pt (m9 (az jE (aO aL rfl T.Ei bH (ag (aD DY hr rfl T.Ec T.DZ.kp (cy T) .nil aQ (ag (aN aI (pv 3) aj (λ_ _=>rfl)) (ag aw af))) af)) aj (aJ _)) (kq (az AI (rE JL hr rfl T.Jr T.Iw.kp (oo T) aQ (ag (pv 3) af) (vk (pv 2) yS)) p4 (aJ _)))))
      case y3 =>
       refine' aq ?y1
       case y1=>exact (aE cV)
      case y4=>exact aF
     case y99 =>
      refine' ak ?y96 ?y97
      case y96 =>
       refine' eX ?y10 ?y11 ?y12 ?y13
       case y10 =>
        refine' aC ?y9
        case y9 =>
         refine' ag ?y7 ?y8
         case y7=>exact (aC (ag aw (ag aj af)))
         case y8 =>
          refine' ag ?y5 ?y6
          case y5=>exact (aC (ag aw (ag aj af)))
          case y6=>exact af
       case y11=>exact (fH rfl (aW (aH (i:=4) nd rfl (Or.inl rfl)) (aW (aH (i:=5) nd rfl (Or.inl rfl)) dX)))
       case y12=>rfl
       case y13=>kernel_rfl
      case y97 =>
       refine' ak ?y94 ?y95
       case y94 =>
        refine' ba (i:=6) ?y50 ?y51 ?y52 ?y53
        case y50=>exact nd
        case y51=>exact rfl
        case y52=>exact Or.inl rfl
        case y53 =>
         refine' bu ?y49
         case y49 =>
          refine' ag ?y47 ?y48
          case y47 =>
           refine' aC ?y25
           case y25 =>
            refine' ag ?y23 ?y24
            case y23=>exact aw
            case y24 =>
             refine' ag ?y21 ?y22
             case y21=>exact (aC (ag aw (ag aj (ag aj af))))
             case y22 =>
              refine' ag ?y19 ?y20
              case y19 =>
               refine' aC ?y18
               case y18 =>
                refine' ag ?y16 ?y17
                case y16=>exact aj
                case y17 =>
                 refine' ag ?y14 ?y15
                 case y14=>exact (aC (ag aw (ag aj af)))
                 case y15=>exact af
              case y20=>exact af
          case y48 =>
           refine' ag ?y45 ?y46
           case y45 =>
            refine' aC ?y44
            case y44 =>
             refine' ag ?y42 ?y43
             case y42=>exact aw
             case y43 =>
              refine' ag ?y40 ?y41
              case y40 =>
               refine' aC ?y32
               case y32 =>
                refine' ag ?y30 ?y31
                case y30=>exact aw
                case y31 =>
                 refine' ag ?y28 ?y29
                 case y28=>exact (pv 4)
                 case y29 =>
                  refine' ag ?y26 ?y27
                  case y26=>exact (aC (ag aw (ag aj (ag aj af))))
                  case y27=>exact af
              case y41 =>
               refine' ag ?y38 ?y39
               case y38 =>
                refine' aC ?y37
                case y37 =>
                 refine' ag ?y35 ?y36
                 case y35=>exact aj
                 case y36 =>
                  refine' ag ?y33 ?y34
                  case y33=>exact (aC (ag aw (ag aj af)))
                  case y34=>exact af
               case y39=>exact af
           case y46=>exact af
       case y95 =>
        refine' ak ?y92 ?y93
        case y92 =>
         refine' aX ?y88
         case y88 =>
          refine' cW ?y82 ?y83 ?y84 ?y85 ?y86 ?y87
          case y82=>exact PySem.F.plainAttrs_list
          case y83=>exact PySem.F.slot_list_extend
          case y84=>exact PySem.F.type_list_extend
          case y85=>exact ef
          case y86=>exact (pv 6)
          case y87 =>
           refine' ag ?y80 ?y81
           case y80 =>
            refine' bu ?y79
            case y79 =>
             refine' ag ?y77 ?y78
             case y77 =>
              refine' aC ?y67
              case y67 =>
               refine' ag ?y65 ?y66
               case y65=>exact aw
               case y66 =>
                refine' ag ?y63 ?y64
                case y63=>exact (aC (ag aw (ag aj (ag aj af))))
                case y64 =>
                 refine' ag ?y61 ?y62
                 case y61 =>
                  refine' aC ?y60
                  case y60 =>
                   refine' ag ?y58 ?y59
                   case y58=>exact aj
                   case y59 =>
                    refine' ag ?y56 ?y57
                    case y56=>exact (aC (ag aw (ag aj af)))
                    case y57 =>
                     refine' ag ?y54 ?y55
                     case y54=>exact (aC (ag aw (ag aj af)))
                     case y55=>exact af
                 case y62=>exact af
             case y78 =>
              refine' ag ?y75 ?y76
              case y75 =>
               refine' aC ?y74
               case y74 =>
                refine' ag ?y72 ?y73
                case y72=>exact aw
                case y73 =>
                 refine' ag ?y70 ?y71
                 case y70=>exact (aC (ag aw (ag (pv 4) (ag (pv 5) af))))
                 case y71 =>
                  refine' ag ?y68 ?y69
                  case y68=>exact (aC (ag aj (ag aj af)))
                  case y69=>exact af
              case y76=>exact af
           case y81=>exact af
        case y93 =>
         refine' ak ?y90 ?y91
         case y90=>exact (dM PassesOwn.never rfl (jU (aC (ag (aD HB hr rfl T.F3 T.EB.kp (fW T) .nil aQ (ag (pv 0) (ag (pv 1) af))) (ag (aD HB hr rfl T.F3 T.EB.kp (fW T) .nil aQ (ag (pv 0) (ag (pv 1) af))) (ag (aD Gb hr rfl T.Gi T.E7.kp (ft T) .nil aQ (ag (pv 0) (ag (pv 1) (ag (pv 6) af)))) af))))) (aH (i:=7) nd rfl (Or.inl rfl)) (aq (aT (PW.pt (fM (az wA (aD Ja hr rfl T.Jd T.HP.kp (mj T) .nil aQ (ag (pv 7) af)) cV (aJ _)) (eG (az (Cg hr) (rE JL hr rfl T.Jr T.Iw.kp (oo T) aQ (ag (pv 7) af) (vk (pv 2) yS)) (aD IE hr rfl T.Hf T.EI.kp (iQ T) .nil aQ (ag (pv 7) (ag (pv 2) af))) (aJ _))))) (aq (aE cV)) aF)))
         case y91 =>
          refine' aq ?y89
          case y89=>exact (aE cV)
 case yread =>
  refine fJ ⟨gL (by decide),λt ht=>?_⟩
  have hS1:=hS.same (aG ht (.lst [.int 0,.int 0]))
  refine fJ (tU (K:=K) (m:=4) (t:=t) ah hS1 ay (Int.le_refl 0) (by decide) (by decide) λkd G1 p1 q1 k0 k4 b1 t1 g1=>⟨2,kd,rfl,rfl,?_⟩)
  have hS1:=hS1.but b1 ay
  obtain ⟨b,eb⟩:∃ b:Nat,2+kd=(b:Int):=⟨(2+kd).toNat,by omega⟩
  have hb:b ∈ BS:=C1 (by omega) (by omega)
  dsimp only
  rw [eb]
  clear eb k0 k4 b1
  refine fJ ⟨_,rfl,_,rfl,RC.use (K:=K) (kr (CA T.Ke) (dJ λH1 s Q q=>⟨[],LPD,Dats.nil,⟨rfl,rfl⟩,λr us H' s' h n d=>q r us H' n s' h d⟩) (by decide)) λl xs G2 n2 s2 hy dy=>?_⟩
  have lt:l≠t:=λz=>by rw [z,t1] at n2;cases n2
  have t2:=s2 _ _ t1
  refine ⟨a,t,l,ns,xs,p1,q1,[],rfl,hS1.same s2,SqL.of hy,lt,by rw [← dy.length];decide,by rw [← dy.length];decide,t2,g1,λi x3 G3 p3 q3 b3 t3 g3 hx3=>?_⟩
  have hS3:=(hS1.same s2).but b3 t2
  rw [Ap] at dy
  obtain ⟨d3,e3,dv3⟩:=(Dats.mono (b3.grow t2 t3) _ dy).getV hx3
  rw [List.getElem?_map] at e3
  obtain ⟨gp,hgp,rfl⟩:=Option.map_eq_some_iff.mp e3
  obtain ⟨gn,gpt,gcl⟩:=gp
  have hgp:=List.mem_of_getElem? hgp
  have gdp:=Ao _ hgp
  have gf:=vZ b hb _ hgp
  dsimp only at dv3 gdp gf
  clear e3 hx3 hgp dy hy lt s2 t2 hS1 n2 t1 b3 hS
  refine aA (K:=K) (b:=false) (RT.as (jh (c:=false) (au (bC (p:=λi j=>decide (i < j)) (dq (dJ (dm (R:=d6 3) (aa (aM (k:=1) (ae (k:=3) dv3) ah rfl) (aa av ao)) ⟨gpt,"slot",rfl,gdp,by decide,rfl⟩))) ah)) λc=>?_) (Bool.and_false _)) (λc=>nomatch c) (λ_ G4 u4=>?_)
  ·have c:=of_decide_eq_true c
   obtain ⟨f1,f2⟩:=gf (by omega)
   refine RT.as (au (A7 (vB (K:=K) (qO f1) dv3))) ?_
   rw [Option.isNone_iff_eq_none.mp f2]
   rfl
  have hS4:=hS3.same u4
  have t4:=u4 _ _ t3
  clear u4 t3 hS3 gf gdp dv3
  refine iy (K:=K) (d:=.tup [.str "hole",.int 0]) (e:=.tup [.str "hole",.int 1]) (aB (aa (aB (aa av (aa ah ao))) (aa (aB (aa av (aa ah ao))) ao))) λv4 v5 G5 u5 d4 d5=>?_
  have hS5:=hS4.same u5
  have t5:=u5 _ _ t4
  refine dY (K:=K) (es:=[gd (.str "odd") (.gap 0 150) [.n 1,.low 0],gd (.str "odd") (.two "add" (.hole 0) (.gap 0 9999)) [.n 12,.low 0]]) (bw (aa (aB (aa av (aa (aB (aa av (aa ah (aa ah ao)))) (aa (aB (aa ah (aa (aB (aa av (aa ah ao))) ao))) ao)))) (aa (aB (aa av (aa (aB (aa av (aa (ae (k:=4) d4) (aa (aB (aa av (aa ah (aa ah ao)))) ao)))) (aa (aB (aa ah (aa (aB (aa av (aa ah ao))) ao))) ao)))) ao))) λl6 y6 G6 n6 u6 hy6 dy6=>?_
  have l6t:l6≠t:=λz=>by rw [z,t5] at n6;cases n6
  have ly6:=dy6.length
  have d4:=u6.dat d4
  have d5:=u6.dat d5
  have hS6:=hS5.same u6
  have t6:=u6 _ _ t5
  refine bX (jr (K:=K) (j:=6) (es:=[gd (.str "odd") (.gap 0 9999) [.n 2,.high 0,.low 0],gd (.str "odd") (.two "less" (.hole 0) (.hole 1)) [.n 14,.n 7]]) (bw (aa (aB (aa av (aa (aB (aa av (aa ah (aa ah ao)))) (aa (aB (aa ah (aa (aB (aa av (aa ah ao))) (aa (aB (aa av (aa ah ao))) ao)))) ao)))) (aa (aB (aa av (aa (aB (aa av (aa (ae (k:=4) d4) (aa (ae (k:=5) d5) ao)))) (aa (aB (aa ah (aa ah ao))) ao)))) ao))) hy6 (by rw [← ly6];decide) λz7 G7 c7 hy7 dz7=>?_)
  have dy7:=Dats.append (Dats.mono (c7.grow hy6 hy7) _ dy6) dz7
  rw [← Cb] at dy7
  have hS7:=hS6.but c7 hy6
  have t7:=c7 _ _ (Ne.symm l6t) t6
  clear c7 dz7 hy6 dy6 ly6 t6 hS6 d4 d5 u6 n6 t5 hS5 u5 t4 hS4
  generalize y6++z7=xs at hy7 dy7
  have ly7:=dy7.length
  dsimp only
  refine bX (zd (K:=K) ⟨_,rfl,_,rfl,a,t,ns,p3,q3,rfl,hS7,t7,g3,λx0 G8 pt0 bl0 p8 q8 b8 t8 g8 D0 dx0=>?_⟩)
  have f0:FineV K b G8 x0:=⟨_,_,_,mw D0 hb,dx0⟩
  have gr8:dD K G7 G8:=b8.grow t7 t8
  have hS8:=hS7.but b8 t7
  have hy8:=b8 _ _ l6t hy7
  have dy8:=Dats.mono gr8 _ dy7
  clear dx0 D0 gr8 hS7 dy7 hy7 b8 t7
  refine ⟨_,rfl,_,rfl,a,t,ns,p8,q8,rfl,hS8,t8,g8,λx1 G9 pt1 bl1 p9 q9 b9 t9 g9 D1 dx1=>?_⟩
  have gr9:dD K G8 G9:=b9.grow t8 t9
  have f1:FineV K b G9 x1:=⟨_,_,_,mw D1 hb,dx1⟩
  have f0:=f0.grow gr9
  have hS9:=hS8.but b9 t8
  have hy9:=b9 _ _ l6t hy8
  have dy9:=Dats.mono gr9 _ dy8
  clear dx1 D1 gr9 hS8 dy8 hy8 b9 t8
  refine ⟨_,rfl,_,rfl,_,rfl,a,t,l6,ns,xs,p9,q9,[],rfl,hS9,SqL.of hy9,l6t,by rw [← ly7];decide,by rw [← ly7];decide,t9,g9,λi2 x2 GA pA qA bA tA gA hx2=>?_⟩
  have grA:dD K G9 GA:=bA.grow t9 tA
  obtain ⟨dA,eA,dvA⟩:=(Dats.mono grA _ dy9).getV hx2
  rw [List.getElem?_map] at eA
  obtain ⟨op,hop,rfl⟩:=Option.map_eq_some_iff.mp eA
  have f2:FineV K b GA x2:=⟨op.1,op.2.1,op.2.2,qO (yF b hb op (List.mem_of_getElem? hop)),dvA⟩
  have f0:=f0.grow grA
  have f1:=f1.grow grA
  clear dvA hop eA grA dy9 hy9 hx2 bA t9 hS9
  refine ⟨gL (show 3≤1000 by decide),λr3 n3=>?_⟩
  have uB:Same GA (upd GA r3 (.tup [x0,x1,x2])):=aG n3 _
  have hq3:upd GA r3 (.tup [x0,x1,x2]) r3=some (.tup [x0,x1,x2]):=ay
  generalize upd GA r3 (.tup [x0,x1,x2])=GB at uB hq3
  have f0:=f0.same uB
  have f1:=f1.same uB
  have f2:=f2.same uB
  have fa:∀ x ∈ [x0,x1,x2],FineV K b GB x:=λx hx=>by
   rcases List.mem_cons.mp hx with rfl | hx
   ·exact f0
   rcases List.mem_cons.mp hx with rfl | hx
   ·exact f1
   rw [List.mem_singleton.mp hx]
   exact f2
  refine ⟨r3,rfl,⟨_,SqT.of hq3⟩,pj (K:=K) (a:=r3) (xs:=[x0,x1,x2]) (λi σ F=>∃ z7:Option V,σ=[some (.ref a),some (.ref t),some (.int (b:Int)),some x3,some v4,some v5,some (.ref l6),z7]/\Same GB F) ⟨none,rfl,Same.refl _⟩ (λi σ F _ ⟨_,_,sF⟩=>SqT.of (sF _ _ hq3)) ?_ ?_⟩
  ·rintro i x σ F hx ⟨z7,rfl,sF⟩
   obtain ⟨nm,pt,cl,F1,dx⟩:=(fa x (List.mem_of_getElem? hx)).same sF
   refine dj ?_
   dsimp only
   obtain ⟨w1,w2⟩:=xa (iX pt cl b)
   refine dQ (b:=false) (RT.as (cO (b:=false) (c:=false) (RT.as (au (wM (aS (R:=lZ) (d:=.bl true) (aa (ae (k:=7) dx) ao) ⟨_,true,rfl,F1.nmk,by rw [F1.pc];rfl,rfl⟩) eI)) rfl) λ_=>RT.as (au (A4 (vB (K:=K) (i:=7) (j:=2) F1 dx) (aS (R:=om) (aa (ae (k:=7) dx) (aa (ae (k:=2) (Dat.intI (b:Int))) ao)) ⟨.str nm,pt,cl,b,rfl,F1,rfl⟩) w1 w1 w2)) (by rw [mz _ w1];rfl)) rfl) (λc=>nomatch c) (λ_ F2 s2=>?_)
   exact (show iJ _ _ _ from ⟨_,rfl,sF.trans s2⟩)
  ·rintro σ F ⟨z7,rfl,sF⟩
   exact post _
end
end My
end
namespace My
open PySem L2 PyProof.Rows
section
variable {P:Program} {w:World} {K:PySem.W.Frag} {mg:Str->Option Value} {base:Heap}
theorem yz (vs:List V) (H:Hp) (Q:VK) (E:XK):¬ spD K (Bp 0) vs H Q E:=λ⟨ds,es,_,h,_⟩=>h
theorem wq (vs:List V) (H:Hp) (Q:VK) (E:XK):¬ fU K (fG 0) vs H Q E:=λ⟨ds,es,_,⟨x,k,_,_,h,_⟩,_⟩=>nomatch h
theorem yA (vs:List V) (H:Hp) (Q:VK) (E:XK):¬ spD K (jB 0) vs H Q E:=λ⟨ds,es,_,⟨t,_,_,_,_,h,_⟩,_⟩=>by
 have:=vU t
 omega
theorem chain (T:Txt P w K mg):FnOk P w K mg base CX0 20 T.J4 T.Kf ["_law_script"] (r9 K):=by
 have w1:=rj (P:=P) (w:=w) (base:=base) (k:=0) T
 have g1:=pP (P:=P) (w:=w) (base:=base) (k:=0) T
 have n2:=tN (k:=1) T g1 w1
 have wi:=lL (P:=P) (w:=w) (base:=base) (k:=0) T
 have ns:=pQ (k:=1) T w1
 have bo:=kM (P:=P) (w:=w) (base:=base) (k:=0) T
 have rk:∀ n:Nat,FnOk P w K mg base CX0 (n+1) T.FX T.FY ["tree","args","size"] (spD K (jB n)):=by
  intro n
  induction n with
  | zero=>exact gS yA
  | succ n ih=>exact rp (k:=n+1) T (bo.mono (by omega)) ih
 have nm:=tM (P:=P) (w:=w) (base:=base) (k:=0) T
 have mk:=tL (k:=1) T g1 w1
 have pp:∀ n:Nat,FnOk P w K mg base CX0 (n+3) T.D2 T.D3 ["thing","deep"] (spD K (Rpp n)):=by
  intro n
  induction n with
  | zero=>exact fZ (k:=2) (n:=0) T mk n2 (wi.mono (by decide)) (gS yz)
  | succ n ih=>exact fZ (k:=n+3) (n:=n+1) T (mk.mono (by omega)) (n2.mono (by omega)) (wi.mono (by omega)) ih
 have ma:∀ n:Nat,FnOk P w K mg base CX0 (n+1) T.Fb T.Fd ["pattern","kind"] (fU K (fG n)):=by
  intro n
  induction n with
  | zero=>exact gS wq
  | succ n ih=>exact rm (k:=n+1) T (wi.mono (by omega)) ih
 have nu:=mY (k:=4) T (ma 3)
 have pa:=nY (k:=6) T (pp 3) (nu.mono (by decide))
 have fi:=nX (k:=4) T (g1.mono (by decide)) (ma 3) (w1.mono (by decide))
 have ce:=tJ (k:=5) T (w1.mono (by decide)) fi
 have fin:=mS (P:=P) (w:=w) (base:=base) (k:=0) T
 have ia:=kl (k:=1) T fin
 have iT:=jT (k:=1) T fin
 have ai:=jz (k:=6) T (w1.mono (by decide)) (iT.mono (by decide)) ce
 have pc:=rg (k:=7) T (nm.mono (by decide)) pa ai
 have np:=nZ (k:=8) T pc
 have num:=mZ (P:=P) (w:=w) (base:=base) (k:=0) T
 have mi:=jx (P:=P) (w:=w) (base:=base) (k:=0) T
 have tk:=lK (k:=1) T fin
 have pu:=lI (k:=1) T fin
 have fn:=ki (k:=1) T fin
 have wy:=mT (k:=2) T (fin.mono (by decide)) tk
 have ch:=kh (k:=3) T tk pu (bo.mono (by decide))
 have st:=lJ (k:=3) T (fin.mono (by decide)) (ia.mono (by decide)) (num.mono (by decide)) wy (fn.mono (by decide)) ch
 have fc:=mX (P:=P) (w:=w) (base:=base) (k:=0) T
 have fp:∀ n:Nat,FnOk P w K mg base CX0 (n+1) T.D7 T.D9 ["pattern","trial"] (spD K (Rfp n)):=by
  intro n
  induction n with
  | zero=>exact gS λvs H Q E ⟨ds,d,_,h,_⟩=>Al ds d h
  | succ n ih=>exact kj (k:=n+1) T ih
 have ke:=yG (k:=9) T (fc.mono (by decide)) (mi.mono (by decide)) (st.mono (by decide)) ((fp 3).mono (by decide)) ((rk 8).mono (by decide))
 have ro:=tO (P:=P) (w:=w) (base:=base) (k:=0) T
 have ar:=rf (k:=1) T ro
 have fl:=tH (k:=11) T (np.mono (by decide)) (ns.mono (by decide)) (ro.mono (by decide)) ((ma 3).mono (by decide)) (ar.mono (by decide)) ke
 have dr:=pL (P:=P) (w:=w) (base:=base) (k:=0) T
 have pk:=pN (k:=1) T dr
 have tw:=rd (P:=P) (w:=w) (base:=base) (k:=0) T
 have nms:=nV (P:=P) (w:=w) (base:=base) (k:=0) T
 have beh:=mU (P:=P) (w:=w) (base:=base) (k:=0) T
 have dos:=pK (k:=1) T tw
 have lp:=mW (P:=P) (w:=w) (base:=base) (k:=0) T
 have fi:=pM (P:=P) (w:=w) (base:=base) (k:=0) T
 have rw':=pO (P:=P) (w:=w) (base:=base) (k:=0) T
 have mk:∀ n:Nat,n≤3->FnOk P w K mg base CX0 (n+1) T.Em T.Eo ["_law_pattern","_law_head"] (fU K (d6 n)):=by
  intro n
  induction n with
  | zero=>exact λ_=>gS λvs H Q E ⟨ds,d,_,h,_⟩=>AB ds d h
  | succ n ih=>exact λh=>nU (k:=n+1) T (ih (by omega))
 have va:∀ n:Nat,FnOk P w K mg base CX0 (n+1) T.E9 T.Fc ["_law_pattern","_law_trial","_law_base"] (spD K (oZ n)):=by
  intro n
  induction n with
  | zero=>exact gS λvs H Q E ⟨ds,d,_,h,_⟩=>zT ds d h
  | succ n ih=>exact nW (k:=n+1) T (tw.mono (by omega)) ih
 have le:=mV (k:=2) T (beh.mono (by decide)) (nms.mono (by decide)) dos
 have ff:=iN (k:=4) T ((mk 3 (by decide)).mono (by decide)) (rw'.mono (by decide)) (fi.mono (by decide)) (le.mono (by decide)) ((va 3).mono (by decide))
 have dp:=jy (k:=4) T (pk.mono (by decide)) (dr.mono (by decide)) ((mk 3 (by decide)).mono (by decide))
 exact Cf (k:=19) T (dr.mono (by decide)) (pk.mono (by decide)) (lp.mono (by decide)) ((mk 3 (by decide)).mono (by decide)) (fl.mono (by decide)) (dp.mono (by decide)) (pc.mono (by decide)) (ff.mono (by decide))
end
abbrev NsD (K:PySem.W.Frag) (n:Str) (f:Addr):Prop:=PySem.W.nsIn K mainGlobals n=some (some (.ref f))
abbrev LkD (K:PySem.W.Frag) (n:Str) (st:Stmt) (f:Addr) (oc:Value) (od:Option Addr) (sl:Array (Option Value)) (kV dc pm:Value) (an:Option Addr) (cd ct:Value):Prop:=K.lookup f=some ⟨oc,od,.func (PySem.W.fnOf n n (bP st) (bB st) (ax st) .none kV dc pm an cd ct),sl⟩
variable {l:PySem.W.OpenLaw}
theorem all_mk {w:World} {K:PySem.W.Frag} {h:Heap} {mg:Str->Option Value} {fa:Addr} (X:K.In h) (G:h.Ns mainGlobals mg) (hfa:mg "law"=some (.ref fa)) {v5:Addr} {q5:Tok} {vc5:Value} {vd5:Option Addr} {vs5:Array (Option Value)} {vn5:Nat} {f1 f2 f3 f4 f5 f6 f7 f8 f9 f10 f11 f12 f13 f14 f15 f16 f17 f18 f19 f20 f21 f22 f23 f24 f25 f26 f27 f28 f29 f30 f31 f32 f33 f34 f35 f36 f37 f38 f39 f40 f41:Addr} {od1 od2 od3 od4 od5 od6 od7 od8 od9 od10 od11 od12 od13 od14 od15 od16 od17 od18 od19 od20 od21 od22 od23 od24 od25 od26 od27 od28 od29 od30 od31 od32 od33 od34 od35 od36 od37 od38 od39 od40 od41 an1 an2 an3 an4 an5 an6 an7 an8 an9 an10 an11 an12 an13 an14 an15 an16 an17 an18 an19 an20 an21 an22 an23 an24 an25 an26 an27 an28 an29 an30 an31 an32 an33 an34 an35 an36 an37 an38 an39 an40 an41:Option Addr} {sl1 sl2 sl3 sl4 sl5 sl6 sl7 sl8 sl9 sl10 sl11 sl12 sl13 sl14 sl15 sl16 sl17 sl18 sl19 sl20 sl21 sl22 sl23 sl24 sl25 sl26 sl27 sl28 sl29 sl30 sl31 sl32 sl33 sl34 sl35 sl36 sl37 sl38 sl39 sl40 sl41:Array (Option Value)} {oc1 oc2 oc3 oc4 oc5 oc6 oc7 oc8 oc9 oc10 oc11 oc12 oc13 oc14 oc15 oc16 oc17 oc18 oc19 oc20 oc21 oc22 oc23 oc24 oc25 oc26 oc27 oc28 oc29 oc30 oc31 oc32 oc33 oc34 oc35 oc36 oc37 oc38 oc39 oc40 oc41 kV1 kV2 kV3 kV4 kV5 kV6 kV7 kV8 kV9 kV10 kV11 kV12 kV13 kV14 kV15 kV16 kV17 kV18 kV19 kV20 kV21 kV22 kV23 kV24 kV25 kV26 kV27 kV28 kV29 kV30 kV31 kV32 kV33 kV34 kV35 kV36 kV37 kV38 kV39 kV40 kV41 dc1 dc2 dc3 dc4 dc5 dc6 dc7 dc8 dc9 dc10 dc11 dc12 dc13 dc14 dc15 dc16 dc17 dc18 dc19 dc20 dc21 dc22 dc23 dc24 dc25 dc26 dc27 dc28 dc29 dc30 dc31 dc32 dc33 dc34 dc35 dc36 dc37 dc38 dc39 dc40 dc41 pm1 pm2 pm3 pm4 pm5 pm6 pm7 pm8 pm9 pm10 pm11 pm12 pm13 pm14 pm15 pm16 pm17 pm18 pm19 pm20 pm21 pm22 pm23 pm24 pm25 pm26 pm27 pm28 pm29 pm30 pm31 pm32 pm33 pm34 pm35 pm36 pm37 pm38 pm39 pm40 pm41 cd1 cd2 cd3 cd4 cd5 cd6 cd7 cd8 cd9 cd10 cd11 cd12 cd13 cd14 cd15 cd16 cd17 cd18 cd19 cd20 cd21 cd22 cd23 cd24 cd25 cd26 cd27 cd28 cd29 cd30 cd31 cd32 cd33 cd34 cd35 cd36 cd37 cd38 cd39 cd40 cd41 ct1 ct2 ct3 ct4 ct5 ct6 ct7 ct8 ct9 ct10 ct11 ct12 ct13 ct14 ct15 ct16 ct17 ct18 ct19 ct20 ct21 ct22 ct23 ct24 ct25 ct26 ct27 ct28 ct29 ct30 ct31 ct32 ct33 ct34 ct35 ct36 ct37 ct38 ct39 ct40 ct41:Value} {DV:Addr} {ii_Machine___init__:Addr} {iod_Machine___init__ ian_Machine___init__:Option Addr} {isl_Machine___init__:Array (Option Value)} {ioc_Machine___init__ ikV_Machine___init__ idc_Machine___init__ ipm_Machine___init__ icd_Machine___init__ ict_Machine___init__:Value} {ii_Machine_take:Addr} {iod_Machine_take ian_Machine_take:Option Addr} {isl_Machine_take:Array (Option Value)} {ioc_Machine_take ikV_Machine_take idc_Machine_take ipm_Machine_take icd_Machine_take ict_Machine_take:Value} {ii_Machine_push:Addr} {iod_Machine_push ian_Machine_push:Option Addr} {isl_Machine_push:Array (Option Value)} {ioc_Machine_push ikV_Machine_push idc_Machine_push ipm_Machine_push icd_Machine_push ict_Machine_push:Value} {ii_Machine_way:Addr} {iod_Machine_way ian_Machine_way:Option Addr} {isl_Machine_way:Array (Option Value)} {ioc_Machine_way ikV_Machine_way idc_Machine_way ipm_Machine_way icd_Machine_way ict_Machine_way:Value} {ii_Machine_finish:Addr} {iod_Machine_finish ian_Machine_finish:Option Addr} {isl_Machine_finish:Array (Option Value)} {ioc_Machine_finish ikV_Machine_finish idc_Machine_finish ipm_Machine_finish icd_Machine_finish ict_Machine_finish:Value} {ii_Machine_change:Addr} {iod_Machine_change ian_Machine_change:Option Addr} {isl_Machine_change:Array (Option Value)} {ioc_Machine_change ikV_Machine_change idc_Machine_change ipm_Machine_change icd_Machine_change ict_Machine_change:Value} {ii_Machine_step:Addr} {iod_Machine_step ian_Machine_step:Option Addr} {isl_Machine_step:Array (Option Value)} {ioc_Machine_step ikV_Machine_step idc_Machine_step ipm_Machine_step icd_Machine_step ict_Machine_step:Value} {FC:Tok} {Hi:Tok} {El:Tok} {HW:Tok} {EF:Tok} {Hl:Tok} {Hk:Tok} {Hj:Tok} {Hh:Tok} {EL:Tok} {Fh:Tok} {HG:Addr} {Gs:Addr} {EY:Addr} {Ig:Addr} {IF:Addr} {HF:Addr} {Jb:Addr} {Ka:Addr} {IA:Addr} {JV:Addr} {ob_MARK_LENGTHS:Obj} {Ia:Addr} {ii_Fault:Addr} {iod_Fault ian_Fault:Option Addr} {isl_Fault:Array (Option Value)} {ioc_Fault ikV_Fault idc_Fault ipm_Fault icd_Fault ict_Fault:Value}
  (a1:NsD K "is_whole" f1) (l1:LkD K "is_whole" iB f1 oc1 od1 sl1 kV1 dc1 pm1 an1 cd1 ct1) (c1:PySem.W.codeIn K cd1 "is_whole"=true) (k1:PySem.W.keepIn K (.ref f1)=true)
  (a2:NsD K "is_tagged" f2) (l2:LkD K "is_tagged" gK f2 oc2 od2 sl2 kV2 dc2 pm2 an2 cd2 ct2) (c2:PySem.W.codeIn K cd2 "is_tagged"=true) (k2:PySem.W.keepIn K (.ref f2)=true)
  (a3:NsD K "is_node" f3) (l3:LkD K "is_node" ju f3 oc3 od3 sl3 kV3 dc3 pm3 an3 cd3 ct3) (c3:PySem.W.codeIn K cd3 "is_node"=true) (k3:PySem.W.keepIn K (.ref f3)=true)
  (a4:NsD K "trees_within" f4) (l4:LkD K "trees_within" eM f4 oc4 od4 sl4 kV4 dc4 pm4 an4 cd4 ct4) (c4:PySem.W.codeIn K cd4 "trees_within"=true) (k4:PySem.W.keepIn K (.ref f4)=true)
  (a5:NsD K "need_size" f5) (l5:K.lookup f5=some ⟨oc5,od5,.func (PySem.W.fnOf "need_size" "need_size" (bP cX) (bB cX) (ax cX) (.ref v5) kV5 dc5 pm5 an5 cd5 ct5),sl5⟩) (c5:PySem.W.codeIn K cd5 "need_size"=true) (k5:PySem.W.keepIn K (.ref f5)=true)
  (a6:NsD K "worth_of_both" f6) (l6:LkD K "worth_of_both" dZ f6 oc6 od6 sl6 kV6 dc6 pm6 an6 cd6 ct6) (c6:PySem.W.codeIn K cd6 "worth_of_both"=true) (k6:PySem.W.keepIn K (.ref f6)=true)
  (a7:NsD K "reckoned" f7) (l7:LkD K "reckoned" iD f7 oc7 od7 sl7 kV7 dc7 pm7 an7 cd7 ct7) (c7:PySem.W.codeIn K cd7 "reckoned"=true) (k7:PySem.W.keepIn K (.ref f7)=true)
  (a8:NsD K "is_name" f8) (l8:LkD K "is_name" hU f8 oc8 od8 sl8 kV8 dc8 pm8 an8 cd8 ct8) (c8:PySem.W.codeIn K cd8 "is_name"=true) (k8:PySem.W.keepIn K (.ref f8)=true)
  (a9:NsD K "instruction_at" f9) (l9:LkD K "instruction_at" dH f9 oc9 od9 sl9 kV9 dc9 pm9 an9 cd9 ct9) (c9:PySem.W.codeIn K cd9 "instruction_at"=true) (k9:PySem.W.keepIn K (.ref f9)=true)
  (a10:NsD K "number_told" f10) (l10:LkD K "number_told" fq f10 oc10 od10 sl10 kV10 dc10 pm10 an10 cd10 ct10) (c10:PySem.W.codeIn K cd10 "number_told"=true) (k10:PySem.W.keepIn K (.ref f10)=true)
  (a11:NsD K "is_mark" f11) (l11:LkD K "is_mark" jt f11 oc11 od11 sl11 kV11 dc11 pm11 an11 cd11 ct11) (c11:PySem.W.codeIn K cd11 "is_mark"=true) (k11:PySem.W.keepIn K (.ref f11)=true)
  (a12:NsD K "is_pattern_part" f12) (l12:LkD K "is_pattern_part" cP f12 oc12 od12 sl12 kV12 dc12 pm12 an12 cd12 ct12) (c12:PySem.W.codeIn K cd12 "is_pattern_part"=true) (k12:PySem.W.keepIn K (.ref f12)=true)
  (a13:NsD K "marks_in" f13) (l13:LkD K "marks_in" iC f13 oc13 od13 sl13 kV13 dc13 pm13 an13 cd13 ct13) (c13:PySem.W.codeIn K cd13 "marks_in"=true) (k13:PySem.W.keepIn K (.ref f13)=true)
  (a14:NsD K "is_numbered" f14) (l14:LkD K "is_numbered" dS f14 oc14 od14 sl14 kV14 dc14 pm14 an14 cd14 ct14) (c14:PySem.W.codeIn K cd14 "is_numbered"=true) (k14:PySem.W.keepIn K (.ref f14)=true)
  (a15:NsD K "is_pattern" f15) (l15:LkD K "is_pattern" eL f15 oc15 od15 sl15 kV15 dc15 pm15 an15 cd15 ct15) (c15:PySem.W.codeIn K cd15 "is_pattern"=true) (k15:PySem.W.keepIn K (.ref f15)=true)
  (a16:NsD K "is_filling" f16) (l16:LkD K "is_filling" fS f16 oc16 od16 sl16 kV16 dc16 pm16 an16 cd16 ct16) (c16:PySem.W.codeIn K cd16 "is_filling"=true) (k16:PySem.W.keepIn K (.ref f16)=true)
  (a17:NsD K "is_cell" f17) (l17:LkD K "is_cell" js f17 oc17 od17 sl17 kV17 dc17 pm17 an17 cd17 ct17) (c17:PySem.W.codeIn K cd17 "is_cell"=true) (k17:PySem.W.keepIn K (.ref f17)=true)
  (a18:NsD K "are_instructions" f18) (l18:LkD K "are_instructions" cG f18 oc18 od18 sl18 kV18 dc18 pm18 an18 cd18 ct18) (c18:PySem.W.codeIn K cd18 "are_instructions"=true) (k18:PySem.W.keepIn K (.ref f18)=true)
  (a19:NsD K "is_piece" f19) (l19:LkD K "is_piece" iA f19 oc19 od19 sl19 kV19 dc19 pm19 an19 cd19 ct19) (c19:PySem.W.codeIn K cd19 "is_piece"=true) (k19:PySem.W.keepIn K (.ref f19)=true)
  (a20:NsD K "need_piece" f20) (l20:LkD K "need_piece" fT f20 oc20 od20 sl20 kV20 dc20 pm20 an20 cd20 ct20) (c20:PySem.W.codeIn K cd20 "need_piece"=true) (k20:PySem.W.keepIn K (.ref f20)=true)
  (a21:NsD K "filled_cell" f21) (l21:LkD K "filled_cell" fm f21 oc21 od21 sl21 kV21 dc21 pm21 an21 cd21 ct21) (c21:PySem.W.codeIn K cd21 "filled_cell"=true) (k21:PySem.W.keepIn K (.ref f21)=true)
  (a22:NsD K "filled_pattern" f22) (l22:LkD K "filled_pattern" dG f22 oc22 od22 sl22 kV22 dc22 pm22 an22 cd22 ct22) (c22:PySem.W.codeIn K cd22 "filled_pattern"=true) (k22:PySem.W.keepIn K (.ref f22)=true)
  (a23:NsD K "keeps" f23) (l23:LkD K "keeps" kx f23 oc23 od23 sl23 kV23 dc23 pm23 an23 cd23 ct23) (c23:PySem.W.codeIn K cd23 "keeps"=true) (k23:PySem.W.keepIn K (.ref f23)=true)
  (a24:NsD K "rows_of" f24) (l24:LkD K "rows_of" hV f24 oc24 od24 sl24 kV24 dc24 pm24 an24 cd24 ct24) (c24:PySem.W.codeIn K cd24 "rows_of"=true) (k24:PySem.W.keepIn K (.ref f24)=true)
  (a25:NsD K "args_for" f25) (l25:LkD K "args_for" gi f25 oc25 od25 sl25 kV25 dc25 pm25 an25 cd25 ct25) (c25:PySem.W.codeIn K cd25 "args_for"=true) (k25:PySem.W.keepIn K (.ref f25)=true)
  (a26:NsD K "failing" f26) (l26:LkD K "failing" fb f26 oc26 od26 sl26 kV26 dc26 pm26 an26 cd26 ct26) (c26:PySem.W.codeIn K cd26 "failing"=true) (k26:PySem.W.keepIn K (.ref f26)=true)
  (a27:NsD K "_law_draw" f27) (l27:LkD K "_law_draw" gH f27 oc27 od27 sl27 kV27 dc27 pm27 an27 cd27 ct27) (c27:PySem.W.codeIn K cd27 "_law_draw"=true) (k27:PySem.W.keepIn K (.ref f27)=true)
  (a28:NsD K "_law_pick" f28) (l28:LkD K "_law_pick" gJ f28 oc28 od28 sl28 kV28 dc28 pm28 an28 cd28 ct28) (c28:PySem.W.codeIn K cd28 "_law_pick"=true) (k28:PySem.W.keepIn K (.ref f28)=true)
  (a29:NsD K "_law_two" f29) (l29:LkD K "_law_two" iz f29 oc29 od29 sl29 kV29 dc29 pm29 an29 cd29 ct29) (c29:PySem.W.codeIn K cd29 "_law_two"=true) (k29:PySem.W.keepIn K (.ref f29)=true)
  (a30:NsD K "_law_names" f30) (l30:LkD K "_law_names" fQ f30 oc30 od30 sl30 kV30 dc30 pm30 an30 cd30 ct30) (c30:PySem.W.codeIn K cd30 "_law_names"=true) (k30:PySem.W.keepIn K (.ref f30)=true)
  (a31:NsD K "_law_behind" f31) (l31:LkD K "_law_behind" fj f31 oc31 od31 sl31 kV31 dc31 pm31 an31 cd31 ct31) (c31:PySem.W.codeIn K cd31 "_law_behind"=true) (k31:PySem.W.keepIn K (.ref f31)=true)
  (a32:NsD K "_law_does" f32) (l32:LkD K "_law_does" gG f32 oc32 od32 sl32 kV32 dc32 pm32 an32 cd32 ct32) (c32:PySem.W.codeIn K cd32 "_law_does"=true) (k32:PySem.W.keepIn K (.ref f32)=true)
  (a33:NsD K "_law_pieces" f33) (l33:LkD K "_law_pieces" fk f33 oc33 od33 sl33 kV33 dc33 pm33 an33 cd33 ct33) (c33:PySem.W.codeIn K cd33 "_law_pieces"=true) (k33:PySem.W.keepIn K (.ref f33)=true)
  (a34:NsD K "_law_fill" f34) (l34:LkD K "_law_fill" gI f34 oc34 od34 sl34 kV34 dc34 pm34 an34 cd34 ct34) (c34:PySem.W.codeIn K cd34 "_law_fill"=true) (k34:PySem.W.keepIn K (.ref f34)=true)
  (a35:NsD K "_law_rows" f35) (l35:LkD K "_law_rows" fE f35 oc35 od35 sl35 kV35 dc35 pm35 an35 cd35 ct35) (c35:PySem.W.codeIn K cd35 "_law_rows"=true) (k35:PySem.W.keepIn K (.ref f35)=true)
  (a36:NsD K "_law_marks" f36) (l36:LkD K "_law_marks" fP f36 oc36 od36 sl36 kV36 dc36 pm36 an36 cd36 ct36) (c36:PySem.W.codeIn K cd36 "_law_marks"=true) (k36:PySem.W.keepIn K (.ref f36)=true)
  (a37:NsD K "_law_value" f37) (l37:LkD K "_law_value" fR f37 oc37 od37 sl37 kV37 dc37 pm37 an37 cd37 ct37) (c37:PySem.W.codeIn K cd37 "_law_value"=true) (k37:PySem.W.keepIn K (.ref f37)=true)
  (a38:NsD K "_law_leaves" f38) (l38:LkD K "_law_leaves" dR f38 oc38 od38 sl38 kV38 dc38 pm38 an38 cd38 ct38) (c38:PySem.W.codeIn K cd38 "_law_leaves"=true) (k38:PySem.W.keepIn K (.ref f38)=true)
  (a39:NsD K "_law_first_failing" f39) (l39:LkD K "_law_first_failing" bc f39 oc39 od39 sl39 kV39 dc39 pm39 an39 cd39 ct39) (c39:PySem.W.codeIn K cd39 "_law_first_failing"=true) (k39:PySem.W.keepIn K (.ref f39)=true)
  (a40:NsD K "_law_drawn_piece" f40) (l40:LkD K "_law_drawn_piece" dk f40 oc40 od40 sl40 kV40 dc40 pm40 an40 cd40 ct40) (c40:PySem.W.codeIn K cd40 "_law_drawn_piece"=true) (k40:PySem.W.keepIn K (.ref f40)=true)
  (a41:NsD K "law" f41) (l41:LkD K "law" vF f41 oc41 od41 sl41 kV41 dc41 pm41 an41 cd41 ct41) (c41:PySem.W.codeIn K cd41 "law"=true) (k41:PySem.W.keepIn K (.ref f41)=true)
  (e5:K.lookup v5=some ⟨vc5,vd5,.seq #[.int 10000 q5] vn5,vs5⟩)
  (HA:PySem.W.nsIn K mainGlobals "Machine"=some (some (.ref DV)))
  (if_Machine___init__:PySem.W.findIn K (.ref DV) "__init__"=some (some (.ref ii_Machine___init__))) (il_Machine___init__:K.lookup ii_Machine___init__=some ⟨ioc_Machine___init__,iod_Machine___init__,.func (PySem.W.fnOf "__init__" "Machine.__init__" (bP bp) (bB bp) (ax bp) .none ikV_Machine___init__ idc_Machine___init__ ipm_Machine___init__ ian_Machine___init__ icd_Machine___init__ ict_Machine___init__),isl_Machine___init__⟩) (ic_Machine___init__:PySem.W.codeIn K icd_Machine___init__ "Machine.__init__"=true) (ik_Machine___init__:PySem.W.keepIn K (.ref ii_Machine___init__)=true) (ij_Machine___init__:PySem.W.isFn K (.ref ii_Machine___init__)=true)
  (im_Machine:PySem.W.makesIn K DV=true) (io_Machine:PySem.W.keepIn K (.ref DV)=true)
  (if_Machine_take:PySem.W.findIn K (.ref DV) "take"=some (some (.ref ii_Machine_take))) (il_Machine_take:K.lookup ii_Machine_take=some ⟨ioc_Machine_take,iod_Machine_take,.func (PySem.W.fnOf "take" "Machine.take" (bP bU) (bB bU) (ax bU) .none ikV_Machine_take idc_Machine_take ipm_Machine_take ian_Machine_take icd_Machine_take ict_Machine_take),isl_Machine_take⟩) (ic_Machine_take:PySem.W.codeIn K icd_Machine_take "Machine.take"=true) (ik_Machine_take:PySem.W.keepIn K (.ref ii_Machine_take)=true) (ij_Machine_take:PySem.W.isFn K (.ref ii_Machine_take)=true)
  (if_Machine_push:PySem.W.findIn K (.ref DV) "push"=some (some (.ref ii_Machine_push))) (il_Machine_push:K.lookup ii_Machine_push=some ⟨ioc_Machine_push,iod_Machine_push,.func (PySem.W.fnOf "push" "Machine.push" (bP bS) (bB bS) (ax bS) .none ikV_Machine_push idc_Machine_push ipm_Machine_push ian_Machine_push icd_Machine_push ict_Machine_push),isl_Machine_push⟩) (ic_Machine_push:PySem.W.codeIn K icd_Machine_push "Machine.push"=true) (ik_Machine_push:PySem.W.keepIn K (.ref ii_Machine_push)=true) (ij_Machine_push:PySem.W.isFn K (.ref ii_Machine_push)=true)
  (if_Machine_way:PySem.W.findIn K (.ref DV) "way"=some (some (.ref ii_Machine_way))) (il_Machine_way:K.lookup ii_Machine_way=some ⟨ioc_Machine_way,iod_Machine_way,.func (PySem.W.fnOf "way" "Machine.way" (bP cg) (bB cg) (ax cg) .none ikV_Machine_way idc_Machine_way ipm_Machine_way ian_Machine_way icd_Machine_way ict_Machine_way),isl_Machine_way⟩) (ic_Machine_way:PySem.W.codeIn K icd_Machine_way "Machine.way"=true) (ik_Machine_way:PySem.W.keepIn K (.ref ii_Machine_way)=true) (ij_Machine_way:PySem.W.isFn K (.ref ii_Machine_way)=true)
  (if_Machine_finish:PySem.W.findIn K (.ref DV) "finish"=some (some (.ref ii_Machine_finish))) (il_Machine_finish:K.lookup ii_Machine_finish=some ⟨ioc_Machine_finish,iod_Machine_finish,.func (PySem.W.fnOf "finish" "Machine.finish" (bP bF) (bB bF) (ax bF) .none ikV_Machine_finish idc_Machine_finish ipm_Machine_finish ian_Machine_finish icd_Machine_finish ict_Machine_finish),isl_Machine_finish⟩) (ic_Machine_finish:PySem.W.codeIn K icd_Machine_finish "Machine.finish"=true) (ik_Machine_finish:PySem.W.keepIn K (.ref ii_Machine_finish)=true) (ij_Machine_finish:PySem.W.isFn K (.ref ii_Machine_finish)=true)
  (if_Machine_change:PySem.W.findIn K (.ref DV) "change"=some (some (.ref ii_Machine_change))) (il_Machine_change:K.lookup ii_Machine_change=some ⟨ioc_Machine_change,iod_Machine_change,.func (PySem.W.fnOf "change" "Machine.change" (bP bE) (bB bE) (ax bE) .none ikV_Machine_change idc_Machine_change ipm_Machine_change ian_Machine_change icd_Machine_change ict_Machine_change),isl_Machine_change⟩) (ic_Machine_change:PySem.W.codeIn K icd_Machine_change "Machine.change"=true) (ik_Machine_change:PySem.W.keepIn K (.ref ii_Machine_change)=true) (ij_Machine_change:PySem.W.isFn K (.ref ii_Machine_change)=true)
  (if_Machine_step:PySem.W.findIn K (.ref DV) "step"=some (some (.ref ii_Machine_step))) (il_Machine_step:K.lookup ii_Machine_step=some ⟨ioc_Machine_step,iod_Machine_step,.func (PySem.W.fnOf "step" "Machine.step" (bP bT) (bB bT) (ax bT) .none ikV_Machine_step idc_Machine_step ipm_Machine_step ian_Machine_step icd_Machine_step ict_Machine_step),isl_Machine_step⟩) (ic_Machine_step:PySem.W.codeIn K icd_Machine_step "Machine.step"=true) (ik_Machine_step:PySem.W.keepIn K (.ref ii_Machine_step)=true) (ij_Machine_step:PySem.W.isFn K (.ref ii_Machine_step)=true)
  (cl_Machine:Cls K DV)
  (na_cells:PySem.W.findIn K (.ref DV) "cells"=some none)
  (na_given:PySem.W.findIn K (.ref DV) "given"=some none)
  (na_size:PySem.W.findIn K (.ref DV) "size"=some none)
  (na_pile:PySem.W.findIn K (.ref DV) "pile"=some none)
  (na_place:PySem.W.findIn K (.ref DV) "place"=some none)
  (na_kept:PySem.W.findIn K (.ref DV) "kept"=some none)
  (na_ended:PySem.W.findIn K (.ref DV) "ended"=some none)
  (E5:PySem.W.nsIn K mainGlobals "LONGEST_NAME"=some (some (.int 8 FC)))
  (FA:PySem.W.nsIn K mainGlobals "MOST_CELL"=some (some (.int 99 Hi)))
  (D6:PySem.W.nsIn K mainGlobals "MOST_PATTERN_DEEP"=some (some (.int 3 El)))
  (GK:PySem.W.nsIn K mainGlobals "MOST_GAP"=some (some (.int 9999 HW)))
  (Eb:PySem.W.nsIn K mainGlobals "MOST_PIECE_CELLS"=some (some (.int 12 EF)))
  (Hd:PySem.W.nsIn K mainGlobals "MOST_SIZE"=some (some (.int 10000 Hl)))
  (Gg:PySem.W.nsIn K mainGlobals "MOST_PILE"=some (some (.int 64 Hk)))
  (Gf:PySem.W.nsIn K mainGlobals "MOST_KEPT"=some (some (.int 16 Hj)))
  (Fz:PySem.W.nsIn K mainGlobals "MANY_ARGS"=some (some (.int 4 Hh)))
  (Eh:PySem.W.nsIn K mainGlobals "MOST_TRIED_SIZE"=some (some (.int 5 EL)))
  (Ek:PySem.W.nsIn K mainGlobals "BENEATH_HOLES"=some (some (.int 1 Fh)))
  (ED:PySem.W.nsIn K mainGlobals "MOST_IN_LEAF"=some (some (.ref HG))) (EE:KTD.tabLook (KTD.datLooks λb=>K.lookup b) (λb=>K.lookup b) HG TL=true)
  (DW:PySem.W.nsIn K mainGlobals "TREES_IN_BRANCH"=some (some (.ref Gs))) (DX:KTD.tabLook (KTD.datLooks λb=>K.lookup b) (λb=>K.lookup b) Gs TB=true)
  (EC:PySem.W.nsIn K mainGlobals "MARK_LENGTHS"=some (some (.ref EY))) (E6:KTD.tabLook (KTD.datLooks λb=>K.lookup b) (λb=>K.lookup b) EY TM=true)
  (ER:PySem.W.nsIn K mainGlobals "FILLED_FROM"=some (some (.ref Ig))) (ES:KTD.tabLook (KTD.datLooks λb=>K.lookup b) (λb=>K.lookup b) Ig TF=true)
  (Gh:PySem.W.nsIn K mainGlobals "MOST_TOLD"=some (some (.ref IF))) (Gj:KTD.tabLook (KTD.datLooks λb=>K.lookup b) (λb=>K.lookup b) IF TTO=true)
  (D4:PySem.W.nsIn K mainGlobals "INSTRUCTIONS"=some (some (.ref HF))) (HX:eQ K (.tup INS) (.ref HF)=true)
  (GL:PySem.W.nsIn K mainGlobals "STRAIGHT"=some (some (.ref Jb))) (Je:eQ K (.tup STR) (.ref Jb)=true)
  (Jq:PySem.W.nsIn K mainGlobals "WAYS"=some (some (.ref Ka))) (Kb:eQ K (.tup WAY) (.ref Ka)=true)
  (FF:PySem.W.nsIn K mainGlobals "TRIED_NUMS"=some (some (.ref IA))) (IC:eQ K (.tup TRN) (.ref IA)=true)
  (IQ:PySem.W.nsIn K mainGlobals "BASIC"=some (some (.ref JV))) (JW:mL K BAS JV=true)
  (HU:K.lookup EY=some ob_MARK_LENGTHS) (HI:KTD.tabLook KTD.flatLooks (λb=>K.lookup b) EY ([("hole",.int 2),("gap",.int 3),("slot",.int 2)]:List (Str × PyData))=true) (HV:KTD.hashesOf (λb=>K.lookup b) EY=([("hole",.int 2),("gap",.int 3),("slot",.int 2)]:List (Str × PyData)).map λp=>(PySem.strKind l.prog w).hash p.1)
  (EK:PySem.W.nsIn K mainGlobals "Fault"=some (some (.ref Ia)))
  (if_Fault:PySem.W.findIn K (.ref Ia) "__init__"=some (some (.ref ii_Fault))) (il_Fault:K.lookup ii_Fault=some ⟨ioc_Fault,iod_Fault,.func (PySem.W.fnOf "__init__" "Fault.__init__" (bP cf) (bB cf) (ax cf) .none ikV_Fault idc_Fault ipm_Fault ian_Fault icd_Fault ict_Fault),isl_Fault⟩) (ic_Fault:PySem.W.codeIn K icd_Fault "Fault.__init__"=true) (ik_Fault:PySem.W.keepIn K (.ref ii_Fault)=true)
  (ix_Fault:vK K Ia ii_Fault) (is_Fault:xu K Ia "place")
  (Jn:CV K Ia)
  (Ep:PySem.W.exmOne K (.ref Ia) (.ref Ia)=some true)
  (Kr:PySem.W.nsIn K mainGlobals "len"=some none)
  (ID:PySem.W.nsIn K mainGlobals "isinstance"=some none)
  (Kq:PySem.W.nsIn K mainGlobals "int"=some none)
  (Kc:PySem.W.nsIn K mainGlobals "bool"=some none)
  (Ks:PySem.W.nsIn K mainGlobals "str"=some none)
  (JY:PySem.W.nsIn K mainGlobals "tuple"=some none)
  (Kd:PySem.W.nsIn K mainGlobals "list"=some none)
  (JX:PySem.W.nsIn K mainGlobals "range"=some none)
  (Kp:PySem.W.nsIn K mainGlobals "all"=some none)
  (Jf:PySem.W.nsIn K mainGlobals "reversed"=some none)
  (IJ:PySem.W.nsIn K mainGlobals "enumerate"=some none)
  (Kt:PySem.W.nsIn K mainGlobals "sum"=some none) :
  ∃ fd:FuncData,(∀ (s:Shared) (v:Value),BindsTo s fd ⟨[v],[]⟩ [("_law_script",v)])/\∀ base:Heap,K.In base->base.Ns mainGlobals mg->FnOk l.prog w K mg base CX0 20 fa fd ["_law_script"] (r9 K):=by
 have M:∀ {n:Str} {v:Value},PySem.W.nsIn K mainGlobals n=some (some v)->mg n=some v:=PySem.W.mg_of X G
 have N:∀ {n:Str},PySem.W.nsIn K mainGlobals n=some none->mg n=none:=PySem.W.mg_none_of X G
 have e:=hfa.symm.trans (M a41)
 cases e
 let T:Txt l.prog w K mg :=
  {EM:=f1,EN:=_,EO:=aY (st:=iB) l1 c1 k1,FB:=M a1,
   Fo:=f2,Fu:=_,Ge:=aY (st:=gK) l2 c2 k2,Ie:=M a2,
   Io:=f3,Iv:=_,IP:=aY (st:=ju) l3 c3 k3,JP:=M a3,
   EX:=f4,E4:=_,Fy:=aY (st:=eM) l4 c4 k4,HS:=M a4,
   GX:=f5,Hb:=PySem.W.fnOf "need_size" "need_size" (bP cX) (bB cX) (ax cX) (.ref v5) kV5 dc5 pm5 an5 cd5 ct5,II:=v5,Jw:=q5,Hc:=⟨⟨_,_,_,_,_,_,_,_,_,rfl,l5,c5⟩,k5,⟨_,_,e5,rfl⟩⟩,Ju:=M a5,
   EG:=f6,EH:=_,Fg:=aY (st:=dZ) l6 c6 k6,Hn:=M a6,
   FX:=f7,FY:=_,F0:=aY (st:=iD) l7 c7 k7,HR:=M a7,
   Im:=f8,Iu:=_,IM:=aY (st:=hU) l8 c8 k8,JO:=M a8,
   D8:=f9,Ea:=_,Es:=aY (st:=dH) l9 c9 k9,GM:=M a9,
   FP:=f10,FW:=_,GS:=aY (st:=fq) l10 c10 k10,IW:=M a10,
   Il:=f11,Ir:=_,IL:=aY (st:=jt) l11 c11 k11,JN:=M a11,
   D2:=f12,D3:=_,EJ:=aY (st:=cP) l12 c12 k12,Gz:=M a12,
   Fb:=f13,Fd:=_,Ff:=aY (st:=iC) l13 c13 k13,F7:=M a13,
   FO:=f14,FV:=_,GR:=aY (st:=dS) l14 c14 k14,IV:=M a14,
   Gp:=f15,Gw:=_,Ht:=aY (st:=eL) l15 c15 k15,Jl:=M a15,
   Gn:=f16,Gv:=_,Hs:=aY (st:=fS) l16 c16 k16,Jk:=M a16,
   Ik:=f17,Iq:=_,IK:=aY (st:=js) l17 c17 k17,JM:=M a17,
   Ex:=f18,EA:=_,Fe:=aY (st:=cG) l18 c18 k18,HQ:=M a18,
   GE:=f19,GG:=_,HP:=aY (st:=iA) l19 c19 k19,Jd:=M a19,
   Gq:=f20,Gx:=_,Hu:=aY (st:=fT) l20 c20 k20,Jm:=M a20,
   FN:=f21,FU:=_,GQ:=aY (st:=fm) l21 c21 k21,IU:=M a21,
   D7:=f22,D9:=_,Er:=aY (st:=dG) l22 c22 k22,FG:=M a22,
   Jg:=f23,Ji:=_,Jy:=aY (st:=kx) l23 c23 k23,Kg:=M a23,
   Hy:=f24,Hz:=_,GJ:=aY (st:=hV) l24 c24 k24,Iy:=M a24,
   HE:=f25,HH:=_,IB:=aY (st:=gi) l25 c25 k25,JC:=M a25,
   Ij:=f26,Ip:=_,Iw:=aY (st:=fb) l26 c26 k26,Jr:=M a26,
   Fn:=f27,Fs:=_,Fw:=aY (st:=gH) l27 c27 k27,He:=M a27,
   Gc:=f28,Gd:=_,E7:=aY (st:=gJ) l28 c28 k28,Gi:=M a28,
   GD:=f29,GF:=_,HN:=aY (st:=iz) l29 c29 k29,Jc:=M a29,
   Gm:=f30,Gu:=_,Hr:=aY (st:=fQ) l30 c30 k30,Jj:=M a30,
   FK:=f31,FR:=_,GN:=aY (st:=fj) l31 c31 k31,IR:=M a31,
   GU:=f32,GY:=_,Ib:=aY (st:=gG) l32 c32 k32,Js:=M a32,
   FM:=f33,FT:=_,GP:=aY (st:=fk) l33 c33 k33,IT:=M a33,
   GV:=f34,GZ:=_,Ic:=aY (st:=gI) l34 c34 k34,Jt:=M a34,
   GW:=f35,Ha:=_,Fx:=aY (st:=fE) l35 c35 k35,Hg:=M a35,
   Em:=f36,Eo:=_,DZ:=aY (st:=fP) l36 c36 k36,Ec:=M a36,
   E9:=f37,Fc:=_,FE:=aY (st:=fR) l37 c37 k37,Hv:=M a37,
   FL:=f38,FS:=_,GO:=aY (st:=dR) l38 c38 k38,IS:=M a38,
   Ee:=f39,Ef:=_,EI:=aY (st:=bc) l39 c39 k39,Hf:=M a39,
   Ew:=f40,Ez:=_,EB:=aY (st:=dk) l40 c40 k40,F3:=M a40,
   J4:=fa,Kf:=_,Kv:=aY (st:=vF) l41 c41 k41,Kx:=M a41,
   DR:=DV,HA:=M HA,
   Eu:=ii_Machine___init__,Ey:=PySem.W.fnOf "__init__" "Machine.__init__" (bP bp) (bB bp) (ax bp) .none ikV_Machine___init__ idc_Machine___init__ ipm_Machine___init__ ian_Machine___init__ icd_Machine___init__ ict_Machine___init__,FZ:=aY (st:=bp) il_Machine___init__ ic_Machine___init__ ik_Machine___init__,
   mk_Machine:=⟨im_Machine,if_Machine___init__,ij_Machine___init__,io_Machine⟩,
   EW:=ii_Machine_take,E3:=PySem.W.fnOf "take" "Machine.take" (bP bU) (bB bU) (ax bU) .none ikV_Machine_take idc_Machine_take ipm_Machine_take ian_Machine_take icd_Machine_take ict_Machine_take,HL:=aY (st:=bU) il_Machine_take ic_Machine_take ik_Machine_take,
   mt_Machine_take:=⟨if_Machine_take,ij_Machine_take,ik_Machine_take⟩,
   Fl:=ii_Machine_push,Fp:=PySem.W.fnOf "push" "Machine.push" (bP bS) (bB bS) (ax bS) .none ikV_Machine_push idc_Machine_push ipm_Machine_push ian_Machine_push icd_Machine_push ict_Machine_push,HJ:=aY (st:=bS) il_Machine_push ic_Machine_push ik_Machine_push,
   mt_Machine_push:=⟨if_Machine_push,ij_Machine_push,ik_Machine_push⟩,
   FJ:=ii_Machine_way,FQ:=PySem.W.fnOf "way" "Machine.way" (bP cg) (bB cg) (ax cg) .none ikV_Machine_way idc_Machine_way ipm_Machine_way ian_Machine_way icd_Machine_way ict_Machine_way,Ih:=aY (st:=cg) il_Machine_way ic_Machine_way ik_Machine_way,
   mt_Machine_way:=⟨if_Machine_way,ij_Machine_way,ik_Machine_way⟩,
   EV:=ii_Machine_finish,E1:=PySem.W.fnOf "finish" "Machine.finish" (bP bF) (bB bF) (ax bF) .none ikV_Machine_finish idc_Machine_finish ipm_Machine_finish ian_Machine_finish icd_Machine_finish ict_Machine_finish,GI:=aY (st:=bF) il_Machine_finish ic_Machine_finish ik_Machine_finish,
   mt_Machine_finish:=⟨if_Machine_finish,ij_Machine_finish,ik_Machine_finish⟩,
   EU:=ii_Machine_change,EZ:=PySem.W.fnOf "change" "Machine.change" (bP bE) (bB bE) (ax bE) .none ikV_Machine_change idc_Machine_change ipm_Machine_change ian_Machine_change icd_Machine_change ict_Machine_change,GH:=aY (st:=bE) il_Machine_change ic_Machine_change ik_Machine_change,
   mt_Machine_change:=⟨if_Machine_change,ij_Machine_change,ik_Machine_change⟩,
   Fm:=ii_Machine_step,Fq:=PySem.W.fnOf "step" "Machine.step" (bP bT) (bB bT) (ax bT) .none ikV_Machine_step idc_Machine_step ipm_Machine_step ian_Machine_step icd_Machine_step ict_Machine_step,HK:=aY (st:=bT) il_Machine_step ic_Machine_step ik_Machine_step,
   mt_Machine_step:=⟨if_Machine_step,ij_Machine_step,ik_Machine_step⟩,
   cl_Machine:=cl_Machine,
   na_cells:=na_cells,
   na_given:=na_given,
   na_size:=na_size,
   na_pile:=na_pile,
   na_place:=na_place,
   na_kept:=na_kept,
   na_ended:=na_ended,
   FC:=FC,E5:=M E5,
   Hi:=Hi,FA:=M FA,
   El:=El,D6:=M D6,
   HW:=HW,GK:=M GK,
   EF:=EF,Eb:=M Eb,
   Hl:=Hl,Hd:=M Hd,
   Hk:=Hk,Gg:=M Gg,
   Hj:=Hj,Gf:=M Gf,
   Hh:=Hh,Fz:=M Fz,
   EL:=EL,Eh:=M Eh,
   Fh:=Fh,Ek:=M Ek,
   Fj:=HG,ED:=M ED,EE:=λh x=>PySem.W.kt_text_in x EE,
   Eg:=Gs,DW:=M DW,DX:=λh x=>PySem.W.kt_text_in x DX,
   ET:=EY,EC:=M EC,E6:=λh x=>PySem.W.kt_text_in x E6,
   FH:=Ig,ER:=M ER,ES:=λh x=>PySem.W.kt_text_in x ES,
   HZ:=IF,Gh:=M Gh,Gj:=λh x=>PySem.W.kt_text_in x Gj,
   Et:=HF,D4:=M D4,DU:=HX,
   Iz:=Jb,GL:=M GL,JA:=Je,
   JU:=Ka,Jq:=M Jq,Kl:=Kb,
   Hq:=IA,FF:=M FF,Jh:=IC,
   Jx:=JV,IQ:=M IQ,Ke:=JW,
   IG:=⟨⟨_,HU⟩,λh x=>⟨_,PySem.W.kt_tab_in l.prog w x HI (by decide +kernel) HV,rfl⟩⟩,
   DS:=Ia,EK:=M EK,
   Gy:=ii_Fault,Fv:=PySem.W.fnOf "__init__" "Fault.__init__" (bP cf) (bB cf) (ax cf) .none ikV_Fault idc_Fault ipm_Fault ian_Fault icd_Fault ict_Fault,JB:=aY (st:=cf) il_Fault ic_Fault ik_Fault,Gr:=ix_Fault,J8:=is_Fault,
   Jn:=Jn,
   Ep:=Ep,
   Ei:=N Kr,
   D5:=N ID,
   Kn:=N Kq,
   Km:=N Kc,
   Ko:=N Ks,
   Hx:=N JY,
   IH:=N Kd,
   Hw:=N JX,
   J7:=N Kp,
   JD:=N Jf,
   Jv:=N IJ,
   Kw:=N Kt }
 exact ⟨_,λs v=>.of_eq rfl,λbase _ _=>chain T⟩
theorem walk {q:Program} {loose:List Str} {XP:(Str->Option Value)->Heap->Prop} {YP:World->Heap->Prop} {d:DefRec} {K:Params->PySem.W.Frag} (hn:l.most=some 63) (hdf:d.params.defaults=[])
  (hY:∀ (w:World) (h:Heap),YP w h->(K w.params).In h)
  (F:∀ (w:World) (mg:Str->Option Value) (fa:Addr) (h:Heap),(K w.params).In h->h.Ns mainGlobals mg->mg d.name=some (.ref fa) ->
   ∃ fd:FuncData,(∀ (s:Shared) (u:Value),BindsTo s fd ⟨[u],[]⟩ [("_law_script",u)])/\∀ base:Heap,(K w.params).In base->base.Ns mainGlobals mg->FnOk l.prog w (K w.params) mg base CX0 20 fa fd ["_law_script"] (r9 (K w.params))) :
  PySem.W.WalkO q loose XP YP l.row.toRowW d [] (λf vs=>PySem.call f vs) :=
 L2.walk_of (n:=63) (k:=20) (x:="_law_script") (CX:=λ_=>CX0) (sp:=λw=>r9 (K w.params)) hn (by decide) hdf ⟨rfl,by decide,by decide⟩ hY F (λ_ _ a ns hl hO hS=>⟨a,ns,rfl,CG hO hS,λ_=>rfl⟩) λ_ _ _ _ _ z=>z
end My
open PySem PySem.W PyProof.Rows
set_option maxRecDepth 100000 in
set_option maxHeartbeats 0 in
theorem PySem.Challenge.cw_piecelay_k11_whole_contracts_holds : PySem.Challenge.rw_piecelay_k11_whole_contracts.Holds := by
 w_on;o_law
 refine holds_open (q:=My.view) (loose:=My.loose) (Xt:=My.xt) (XP:=XL My.view []) (Yf:=Hook.obs (kHook My.k0.heap_1 My.kas My.kas_ok)) (Ya:=Hook.val (kHook My.k0.heap_1 My.kas My.kas_ok)) (YP:=Hook.says (kHook My.k0.heap_1 My.kas My.kas_ok)) (N:=My.NN) My.left (Hook.of (kHook My.k0.heap_1 My.kas My.kas_ok)) (Hook.keeps (kHook My.k0.heap_1 My.kas My.kas_ok)) (λs e=>xl_of s (Bool.and_eq_true_iff.mp e).1) XL.keeps (by rfl) (by rfl) (by rfl) (λs e=>recFacts_of (Bool.and_eq_true_iff.mp e).2) (by rfl) (by first | assumption | decide +kernel) (by decide +kernel) ⟨rfl,rfl,rfl,rfl,rfl,by decide +kernel⟩ ?hw ?hc
 case hw=>w_witness2
 k_fill
 refine My.walk (l:=PySem.Challenge.rw_piecelay_k11_whole_contracts) rfl rfl (λw h Y=>PySem.W.kIn_of Y) ?F
 case F =>
  intro w mg fa h KX G hmg
  refine' My.all_mk KX G hmg ?a1 ?l1 ?c1 ?k1 ?a2 ?l2 ?c2 ?k2 ?a3 ?l3 ?c3 ?k3 ?a4 ?l4 ?c4 ?k4 ?a5 ?l5 ?c5 ?k5 ?a6 ?l6 ?c6 ?k6 ?a7 ?l7 ?c7 ?k7 ?a8 ?l8 ?c8 ?k8 ?a9 ?l9 ?c9 ?k9 ?a10 ?l10 ?c10 ?k10 ?a11 ?l11 ?c11 ?k11 ?a12 ?l12 ?c12 ?k12 ?a13 ?l13 ?c13 ?k13 ?a14 ?l14 ?c14 ?k14 ?a15 ?l15 ?c15 ?k15 ?a16 ?l16 ?c16 ?k16 ?a17 ?l17 ?c17 ?k17 ?a18 ?l18 ?c18 ?k18 ?a19 ?l19 ?c19 ?k19 ?a20 ?l20 ?c20 ?k20 ?a21 ?l21 ?c21 ?k21 ?a22 ?l22 ?c22 ?k22 ?a23 ?l23 ?c23 ?k23 ?a24 ?l24 ?c24 ?k24 ?a25 ?l25 ?c25 ?k25 ?a26 ?l26 ?c26 ?k26 ?a27 ?l27 ?c27 ?k27 ?a28 ?l28 ?c28 ?k28 ?a29 ?l29 ?c29 ?k29 ?a30 ?l30 ?c30 ?k30 ?a31 ?l31 ?c31 ?k31 ?a32 ?l32 ?c32 ?k32 ?a33 ?l33 ?c33 ?k33 ?a34 ?l34 ?c34 ?k34 ?a35 ?l35 ?c35 ?k35 ?a36 ?l36 ?c36 ?k36 ?a37 ?l37 ?c37 ?k37 ?a38 ?l38 ?c38 ?k38 ?a39 ?l39 ?c39 ?k39 ?a40 ?l40 ?c40 ?k40 ?a41 ?l41 ?c41 ?k41 ?e5 ?HA ?if_Machine___init__ ?il_Machine___init__ ?ic_Machine___init__ ?ik_Machine___init__ ?ij_Machine___init__ ?im_Machine ?io_Machine ?if_Machine_take ?il_Machine_take ?ic_Machine_take ?ik_Machine_take ?ij_Machine_take ?if_Machine_push ?il_Machine_push ?ic_Machine_push ?ik_Machine_push ?ij_Machine_push ?if_Machine_way ?il_Machine_way ?ic_Machine_way ?ik_Machine_way ?ij_Machine_way ?if_Machine_finish ?il_Machine_finish ?ic_Machine_finish ?ik_Machine_finish ?ij_Machine_finish ?if_Machine_change ?il_Machine_change ?ic_Machine_change ?ik_Machine_change ?ij_Machine_change ?if_Machine_step ?il_Machine_step ?ic_Machine_step ?ik_Machine_step ?ij_Machine_step ?cl_Machine ?na_cells ?na_given ?na_size ?na_pile ?na_place ?na_kept ?na_ended ?E5 ?FA ?D6 ?GK ?Eb ?Hd ?Gg ?Gf ?Fz ?Eh ?Ek ?ED ?EE ?DW ?DX ?EC ?E6 ?ER ?ES ?Gh ?Gj ?D4 ?HX ?GL ?Je ?Jq ?Kb ?FF ?IC ?IQ ?JW ?HU ?HI ?HV ?EK ?if_Fault ?il_Fault ?ic_Fault ?ik_Fault ?ix_Fault ?is_Fault ?Jn ?Ep ?Kr ?ID ?Kq ?Kc ?Ks ?JY ?Kd ?JX ?Kp ?Jf ?IJ ?Kt
  case a1 | a2 | a3 | a4 | a5 | a6 | a7 | a8 | a9 | a10 | a11 | a12 | a13 | a14 | a15 | a16 | a17 | a18 | a19 | a20 | a21 | a22 | a23 | a24 | a25 | a26 | a27 | a28 | a29 | a30 | a31 | a32 | a33 | a34 | a35 | a36 | a37 | a38 | a39 | a40 | a41=>change _=_;k_is
  case l1 | l2 | l3 | l4 | l5 | l6 | l7 | l8 | l9 | l10 | l11 | l12 | l13 | l14 | l15 | l16 | l17 | l18 | l19 | l20 | l21 | l22 | l23 | l24 | l25 | l26 | l27 | l28 | l29 | l30 | l31 | l32 | l33 | l34 | l35 | l36 | l37 | l38 | l39 | l40 | l41=>change _=_;k_is
  case c1 | c2 | c3 | c4 | c5 | c6 | c7 | c8 | c9 | c10 | c11 | c12 | c13 | c14 | c15 | c16 | c17 | c18 | c19 | c20 | c21 | c22 | c23 | c24 | c25 | c26 | c27 | c28 | c29 | c30 | c31 | c32 | c33 | c34 | c35 | c36 | c37 | c38 | c39 | c40 | c41 | k1 | k2 | k3 | k4 | k5 | k6 | k7 | k8 | k9 | k10 | k11 | k12 | k13 | k14 | k15 | k16 | k17 | k18 | k19 | k20 | k21 | k22 | k23 | k24 | k25 | k26 | k27 | k28 | k29 | k30 | k31 | k32 | k33 | k34 | k35 | k36 | k37 | k38 | k39 | k40 | k41=>k_is
  case e5 | HA | if_Machine___init__ | il_Machine___init__ | ic_Machine___init__ | ik_Machine___init__ | if_Machine_take | il_Machine_take | ic_Machine_take | ik_Machine_take | if_Machine_push | il_Machine_push | ic_Machine_push | ik_Machine_push | if_Machine_way | il_Machine_way | ic_Machine_way | ik_Machine_way | if_Machine_finish | il_Machine_finish | ic_Machine_finish | ik_Machine_finish | if_Machine_change | il_Machine_change | ic_Machine_change | ik_Machine_change | if_Machine_step | il_Machine_step | ic_Machine_step | ik_Machine_step | E5 | FA | D6 | GK | Eb | Hd | Gg | Gf | Fz | Eh | Ek | ED | DW | EC | ER | Gh | D4 | GL | Jq | FF | IQ | HU | EK | if_Fault | il_Fault | ic_Fault | ik_Fault | Kr | ID | Kq | Kc | Ks | JY | Kd | JX | Kp | Jf | IJ | Kt=>k_is
  case ij_Machine___init__ | im_Machine | io_Machine | ij_Machine_take | ij_Machine_push | ij_Machine_way | ij_Machine_finish | ij_Machine_change | ij_Machine_step | na_cells | na_given | na_size | na_pile | na_place | na_kept | na_ended | HV | Ep=>first | rfl | kernel_rfl | decide +kernel
  case cl_Machine | ix_Fault=>refine ⟨?_,?_,?_,?_⟩ <;> (first | rfl | kernel_rfl | decide +kernel)
  case EE | DX | E6 | ES | Gj | HX | Je | Kb | IC | JW | HI=>first | rfl | decide +kernel
  case is_Fault=>refine ⟨?_,?_,?_,?_,?_⟩ <;> (first | rfl | kernel_rfl | decide +kernel)
  case Jn=>refine ⟨?_,?_,?_,?_,?_,?_,?_,?_⟩ <;> (first | rfl | kernel_rfl | decide +kernel)
