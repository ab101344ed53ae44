import PyProof.Rows.All
import Wide.All
import OpenK.AllK
import Wide.FinOn
import Lean
import PyProof.EqAt
import PyProof.EqKinds
import PyProof.TupleCall
import PyProof.NeKinds
import KE.KTab
import KE.KTops
import PyProof.FString5
import PyProof.ListRange
import KE.KRevIter
import PyProof.Rows.SumAny
import PyProof.Rows.SetFrom
import KE.KRevSl
import KE.KTryMore
import PyProof.ExcAttrAll.ValueError
import PyProof.Rows.CountFlat
import PyProof.ExcInit
import PyProof.InstStoreFacts
import PyProof.Draws
import PyProof.EnumMake
import PyProof.ZipIter
import PyProof.WalkInts
import PyProof.Rows.MinMaxN
import KE.KUnpack
import PyProof.StationsW
import PySem.Challenge.RW_piecelay_k19_whole_length_once
set_option Elab.async false
set_option linter.all false
set_option maxRecDepth 100000
set_option maxHeartbeats 4000000
section
namespace LT
open PySem PySem.W PyProof.Rows
noncomputable def ran (p:Program) (w:World) (n₀:Nat) (ann:Option Value):Nat->SharedT->Thread->Option SharedT
 | 0,_,_=>none
 | k+1,s,t=>bif through t then some s else bif Fast.tw6613529449190102663 n₀ ann t then
   (Fast.tw10156331382660048174 (Fast.tw11892475500146522536 Fast.tw14364793385576792824) p w s t).bind λx=>ran p w n₀ ann k x.1 x.2
  else none
variable {p:Program}
theorem By {w:World} {n₀:Nat} {ann:Option Value} (k:Nat):∀ {s s':SharedT} {t:Thread},ran p w n₀ ann k s t=some s'->topRun treeTable p w n₀ ann k s.abs t=some s'.abs:=by
 induction k with
 | zero=>intro s s' t h;cases h
 | succ k ih =>
  intro s s' t h
  unfold ran at h
  rw [← Fast.te6613529449190102663,← Fast.te10156331382660048174,← Fast.te11892475500146522536,← Fast.te14364793385576792824] at h
  unfold topRun
  cases c1:through t
  ·cases c2:stepOk n₀ ann t
   ·rw [c1,c2] at h;cases h
   ·rw [c1,c2] at h
    obtain ⟨x,hx,hr⟩:=Option.bind_eq_some_iff.mp (show (stepT (denote treeTable) p w s t).bind _=some s' from h)
    rw [stepT_spec (s':=x.1) (t':=x.2) hx]
    exact ih hr
  ·rw [c1] at h
   cases h
   rfl
noncomputable def yF (P:Params):BT:=((boot_heap P).objs.toList.foldl (λ(x:BT × Nat) o=>(x.1.ins x.2 o,x.2+1)) (BT.nil,0)).1
theorem yG:∀ P,absHeap (yF P) 11 {}=boot_heap P:=λP=>by kernel_rfl
noncomputable abbrev boot (P:Params) (os:OsState):SharedT:=⟨yF P,11,{},#[],boot_drawn,boot_toks,os⟩
theorem yH (P:Params) (os:OsState):(boot P os).abs=⟨boot_heap P,#[],boot_drawn,boot_toks,os⟩:=by
 show (⟨absHeap (yF P) 11 {},#[],boot_drawn,boot_toks,os⟩:Shared)=_
 rw [yG]
noncomputable def Cj (p q:Program) (loose:List Str) (Xt:Shared->Bool) (P:Params) (s:Shared) :=
 (staticsOk (Fast.tw5923862056798008813 p.main.body) (boot_heap P) s.heap && namesBound p s.heap && gensDone s && laidKept (boot_heap P) s.heap,Fast.tw4187177175401517315 q loose (Fast.tw5923862056798008813 p.main.body) Xt true s)
theorem BQ:∀ P:Params,((boot_heap P).isNs mainGlobals && (#[]:Array GenState).size == 0,(boot_heap P).objs.size,(boot_heap P).nsMap mainGlobals "__annotations__")=(true,11,some (.ref 6)):=λP=>by kernel_rfl
theorem left {q:Program} {loose:List Str} {Xt:Shared->Bool} {α:Type} {Yf:Shared->α} {Ya:World->α} {N:Nat} (e:opening p=plainProg p.main.scope.names) (hN:Nat.ble 600 N=true) (f:∀ s,fenceModules? p s=some s)
  (h:∀ (w:World) (os:OsState),(ran p w 11 (some (.ref 6)) N (boot w.params os) (topStub p)).map (λs=>(Cj p q loose Xt w.params s.abs,Yf s.abs))=some ((true,openGood q loose),Ya w)):LeftO p q loose Xt Yf Ya N:=λw=>by
 obtain ⟨⟨h0,gs,d,k,os⟩,e,e'⟩:=Option.map_eq_some_iff.mp (boot_open e hN f w)
 obtain ⟨rfl,rfl,rfl,rfl⟩:h0=boot_heap w.params/\gs=Array.mk []/\d=boot_drawn/\k=boot_toks:=by simpa using e'
 obtain ⟨s1,hr,hs⟩:=Option.map_eq_some_iff.mp (h w os)
 have r:=By N hr
 rw [yH] at r
 obtain ⟨hs,hy⟩:=Prod.mk.inj hs
 unfold Cj at hs
 rw [← Fast.te4187177175401517315,← Fast.te5923862056798008813] at hs
 obtain ⟨hl,hg⟩:=Prod.mk.inj (show (staticsOk (importedModules p.main.body) (boot_heap w.params) s1.abs.heap && namesBound p s1.abs.heap && gensDone s1.abs && laidKept (boot_heap w.params) s1.abs.heap,openSeen q loose (importedModules p.main.body) Xt true s1.abs)=(true,openGood q loose) from hs)
 obtain ⟨z1,z2,z3⟩:_/\_/\_:=by simpa only [Prod.mk.injEq] using BQ w.params
 have t:topFrom treeTable p w N ⟨boot_heap w.params,Array.mk [],boot_drawn,boot_toks,os⟩=some s1.abs:=by
  unfold topFrom
  dsimp only
  rw [z1,z2,z3,r]
  show (match staticsOk (importedModules p.main.body) (boot_heap w.params) s1.abs.heap && namesBound p s1.abs.heap && gensDone s1.abs && laidKept (boot_heap w.params) s1.abs.heap with | true=>_ | false=>_)=_
  rw [hl]
 unfold openEnds
 rw [e]
 show (topFrom treeTable p w N _).map _=_
 rw [t]
 exact congrArg some (Prod.ext hg hy)
end LT
namespace LT
section
universe u1 u2 u3 u4 u5 u6 u7 u8 u9
variable {S:Type u1} {A:Type u2} {B:Type u3} {C:Type u4} {D:Type u5} {E:Type u6} {F:Type u7} {R:Type u8} {V:Type u9}
noncomputable def lot1 (x:A × B × C × D × E × F × R):A × B × C:=match x with | (a,b,c,_)=>(a,b,c)
noncomputable def lot2 (x:A × B × C × D × E × F × R):D × E × R:=match x with | (_,_,_,d,e,_,r)=>(d,e,r)
noncomputable def lot3 (x:A × B × C × D × E × F × R):F:=match x with | (_,_,_,_,_,f,_)=>f
theorem lots {o:Option S} {f:S->A × B × C × D × E × F × R} {y:A × B × C × D × E × F × R} {st:S->Bool} {ob:S->V} {v:V} (h1:o.map (λs=>lot1 (f s))=some (y.1,y.2.1,y.2.2.1)) (h2:o.map (λs=>lot2 (f s))=some (y.2.2.2.1,y.2.2.2.2.1,y.2.2.2.2.2.2))
  (h3:o.map (λs=>lot3 (f s))=some y.2.2.2.2.2.1) (h4:o.map (λs=>(st s,ob s))=some (true,v)):o.map (λs=>((st s,f s),ob s))=some ((true,y),v):=by
 cases o with
 | none=>cases h1
 | some s =>
  have k1:((f s).1,(f s).2.1,(f s).2.2.1)=(y.1,y.2.1,y.2.2.1):=Option.some.inj h1
  have k2:((f s).2.2.2.1,(f s).2.2.2.2.1,(f s).2.2.2.2.2.2)=(y.2.2.2.1,y.2.2.2.2.1,y.2.2.2.2.2.2):=Option.some.inj h2
  have k3:(f s).2.2.2.2.2.1=y.2.2.2.2.2.1:=Option.some.inj h3
  have k4:(st s,ob s)=(true,v):=Option.some.inj h4
  have ef:f s=y:=Prod.ext (congrArg (λz=>z.1) k1) (Prod.ext (congrArg (λz=>z.2.1) k1) (Prod.ext (congrArg (λz=>z.2.2) k1) (Prod.ext (congrArg (λz=>z.1) k2) (Prod.ext (congrArg (λz=>z.2.1) k2) (Prod.ext k3 (congrArg (λz=>z.2.2) k2))))))
  have e1:st s=true:=congrArg (λz=>z.1) k4
  have e2:ob s=v:=congrArg (λz=>z.2) k4
  show some ((st s,f s),ob s)=some ((true,y),v)
  rw [e1,e2,ef]
end
end LT
namespace My
open PySem
noncomputable def top (i:Nat):Stmt:=PySem.Challenge.pw_piecelay_k19_whole_length_once.main.body.getD i (.Pass ⟨0,0,0,0⟩)
end My
end
section
open PySem PySem.W PyProof.Rows
section
local macro_rules | `(tactic| o_head $H:term)=>`(tactic| (have _hook:=$H;assumption))
theorem My.k0 (h:PySem.Challenge.rw_piecelay_k19_whole_length_once.row.Holds):PySem.Challenge.rw_piecelay_k19_whole_length_once.row.Holds:=by
 k_head
end
namespace My
noncomputable def view:Program:={ PySem.Challenge.pw_piecelay_k19_whole_length_once with main:={ PySem.Challenge.pw_piecelay_k19_whole_length_once.main with body:=[top 1,top 2,top 3,top 4,top 5,top 6,top 8,top 9,top 10,top 11,top 13,top 14,top 15,top 16,top 17,top 18,top 19,top 20,top 21,top 23,top 24,top 25,top 27,top 28,top 29,top 30,top 31,top 32,top 33,top 34,top 35,top 36,top 37,top 38,top 39,top 40,top 41,top 42,top 43,top 44,top 45,top 46,top 47,top 48,top 49,top 51,top 52,top 53,top 54,top 55,top 56,top 57,top 58,top 59,top 60,top 62,top 63,top 64,top 65,top 66,top 67,top 68,top 70,top 71,top 72,top 73,top 74,top 75,top 76,top 77,top 78,top 80,top 81,top 82,top 83,top 84,top 85,top 86,top 87,top 88,top 89,top 90,top 91,top 92,top 93,top 94,top 95,top 96,top 97,top 98,top 99] } }
noncomputable abbrev PRG:Program:=PySem.Challenge.pw_piecelay_k19_whole_length_once
noncomputable abbrev loose:List Str:=["MOST_IN_LEAF","TREES_IN_BRANCH","MARK_LENGTHS","FILLED_FROM","BASIC"]
noncomputable abbrev xt (s:Shared):Bool:=xlAt view [] s && recOk (RowW.records (OpenRow.toRowW (OpenLaw.row PySem.Challenge.rw_piecelay_k19_whole_length_once))) s
noncomputable abbrev kas:List Addr:=[2,3,15,22,23,24,25,28,35,36,37,40,47,48,49,52,59,60,61,64,71,72,73,76,83,85,86,88,89,90,91,92,95,97,98,100,101,102,104,105,107,108,109,112,113,114,115,116,118,119,121,122,123,125,126,128,129,130,133,134,135,137,138,140,141,142,144,145,147,148,149,150,151,152,153,154,155,156,157,158,159,160,161,162,163,164,165,166,167,169,170,172,173,174,175,176,177,178,179,180,181,182,183,184,185,186,187,188,189,190,191,192,193,194,195,196,197,198,199,200,201,202,203,204,205,206,207,208,209,210,211,212,213,214,215,216,217,219,220,222,223,224,227,228,229,231,232,234,235,236,239,240,241,244,245,246,248,249,251,252,253,255,256,258,259,260,263,264,265,267,268,270,271,272,275,276,277,279,280,282,283,284,286,287,289,290,291,293,294,296,297,298,300,301,303,304,305,307,308,310,311,312,313,314,316,317,319,320,321,323,324,326,327,328,330,331,333,334,335,337,338,340,341,342,345,346,347,349,350,352,353,354,357,358,359,362,363,364,366,367,369,370,371,373,374,376,377,378,380,381,383,384,385,388,389,390,392,393,395,396,397,399,400,402,403,404,407,408,409,412,413,414,416,417,419,420,421,423,424,426,427,428,430,431,433,434,435,437,438,440,441,442,445,446,459,461,462,464,465,466,468,469,471,472,473,476,477,478,480,481,483,484,485,487,488,490,491,516,518,519,521,522,523,526,527,528,530,531,533,534,535,537,538,540,541,542,545,546,547,550,551]
theorem kas_ok:∀ P,kas=(My.k0.heap_1 P).map (·.1):=λ_=>by kernel_rfl
noncomputable abbrev hk:Hook:=kHook My.k0.heap_1 kas kas_ok
noncomputable abbrev NN:Nat:=9000
noncomputable abbrev A5 (w:World) (os:OsState):=LT.ran PRG w 11 (some (.ref 6)) NN (LT.boot w.params os) (topStub PRG)
noncomputable abbrev rN (P:Params) (s:SharedT):Bool:=staticsOk (Fast.tw5923862056798008813 PRG.main.body) (boot_heap P) s.abs.heap && namesBound PRG s.abs.heap && gensDone s.abs && laidKept (boot_heap P) s.abs.heap
noncomputable abbrev DF (s:SharedT):=Fast.tw4187177175401517315 view loose (Fast.tw5923862056798008813 PRG.main.body) xt true s.abs
noncomputable abbrev uC:=openGood view loose
noncomputable abbrev Ab (w:World) (os:OsState):Prop:=(A5 w os).map (λs=>LT.lot1 (DF s))=some (uC.1,uC.2.1,uC.2.2.1)
noncomputable abbrev Ac (w:World) (os:OsState):Prop:=(A5 w os).map (λs=>LT.lot2 (DF s))=some (uC.2.2.2.1,uC.2.2.2.2.1,uC.2.2.2.2.2.2)
noncomputable abbrev Ad (w:World) (os:OsState):Prop:=(A5 w os).map (λs=>LT.lot3 (DF s))=some uC.2.2.2.2.2.1
noncomputable abbrev Ae (w:World) (os:OsState):Prop:=(A5 w os).map (λs=>(rN w.params s,Hook.obs hk s.abs))=some (true,Hook.val hk w)
set_option maxHeartbeats 0 in
theorem ra1:∀ (w:World) (os:OsState),Ab (w.withFollow "special-get-raises" false) os:=λw os=>by unfold Ab;kernel_rfl
set_option maxHeartbeats 0 in
theorem rb1:∀ (w:World) (os:OsState),Ab (w.withFollow "special-get-raises" true) os:=λw os=>by unfold Ab;kernel_rfl
set_option maxHeartbeats 0 in
theorem ra2:∀ (w:World) (os:OsState),Ac (w.withFollow "special-get-raises" false) os:=λw os=>by unfold Ac;kernel_rfl
set_option maxHeartbeats 0 in
theorem rb2:∀ (w:World) (os:OsState),Ac (w.withFollow "special-get-raises" true) os:=λw os=>by unfold Ac;kernel_rfl
set_option maxHeartbeats 0 in
theorem ra3:∀ (w:World) (os:OsState),Ad (w.withFollow "special-get-raises" false) os:=λw os=>by unfold Ad;kernel_rfl
set_option maxHeartbeats 0 in
theorem rb3:∀ (w:World) (os:OsState),Ad (w.withFollow "special-get-raises" true) os:=λw os=>by unfold Ad;kernel_rfl
set_option maxHeartbeats 0 in
theorem ra4:∀ (w:World) (os:OsState),Ae (w.withFollow "special-get-raises" false) os:=λw os=>by unfold Ae;kernel_rfl
set_option maxHeartbeats 0 in
theorem rb4:∀ (w:World) (os:OsState),Ae (w.withFollow "special-get-raises" true) os:=λw os=>by unfold Ae;kernel_rfl
theorem left:LeftO PRG view loose xt (Hook.obs hk) (Hook.val hk) NN :=
 LT.left (by rfl) (by decide) (λs=>by rfl) λw os=>LT.lots (byRow2 "special-get-raises" (P:=λw=>Ab w os) (λw=>ra1 w os) (λw=>rb1 w os) w) (byRow2 "special-get-raises" (P:=λw=>Ac w os) (λw=>ra2 w os) (λw=>rb2 w os) w) (byRow2 "special-get-raises" (P:=λw=>Ad w os) (λw=>ra3 w os) (λw=>rb3 w os) w) (byRow2 "special-get-raises" (P:=λw=>Ae w os) (λw=>ra4 w os) (λw=>rb4 w os) w)
end My
end
section
namespace L2
open PySem PySem.Spec PyProof.Rows
noncomputable abbrev Key:=Sum Int Str
noncomputable def pN:Key->Value->Bool
 | .inl k,v=>Value.isInt k v
 | .inr x,v=>Value.isStrOf x v
noncomputable def EZ (w:World):Key->Int
 | .inl k=>hashInt k
 | .inr x=>hashStr w x
theorem dn:∀ {k:Key} {v:Value},pN k v=true->(∃ i t,k=Sum.inl i/\v=Value.int i t)\/(∃ x t,k=Sum.inr x/\v=Value.str x t)
 | .inl i,v,h=>by
  obtain ⟨t,e⟩:=Value.isInt_shape (k:=i) (v:=v) h
  exact .inl ⟨i,t,rfl,e⟩
 | .inr x,v,h=>by
  obtain ⟨t,e⟩:=Value.isStrOf_shape (x:=x) (v:=v) h
  exact .inr ⟨x,t,rfl,e⟩
theorem xu (i:Int) (t:Tok):pN (.inl i) (.int i t)=true:=by simp [pN,Value.isInt]
theorem xw (x:Str) (t:Tok):pN (.inr x) (.str x t)=true:=by simp [pN,Value.isStrOf]
theorem C5 (a b:Int):decide ((Sum.inl a:Key)=Sum.inl b)=(a == b):=by
 by_cases e:a=b
 ·subst e;simp
 ·have h:¬ (Sum.inl a:Key)=Sum.inl b:=λq=>e (Sum.inl.inj q)
  rw [decide_eq_false h]
  exact (beq_eq_false_iff_ne.mpr e).symm
theorem C8 (a b:Str):decide ((Sum.inr a:Key)=Sum.inr b)=decide (a=b):=by
 by_cases e:a=b
 ·subst e;simp
 ·have h:¬ (Sum.inr a:Key)=Sum.inr b:=λq=>e (Sum.inr.inj q)
  rw [decide_eq_false h,decide_eq_false e]
theorem C6 (a:Int) (b:Str):decide ((Sum.inl a:Key)=Sum.inr b)=false:=decide_eq_false (λq=>nomatch q)
theorem C7 (a:Str) (b:Int):decide ((Sum.inr a:Key)=Sum.inl b)=false:=decide_eq_false (λq=>nomatch q)
noncomputable def dO (prog:Program) (w:World):PySem.KeyKind prog w Key where
 is:=pN
 hash:=EZ w
 inj:=λv a b ha hb=>by
  rcases dn ha with ⟨i,t,rfl,rfl⟩ | ⟨x,t,rfl,rfl⟩
  ·rcases dn hb with ⟨j,u,rfl,e⟩ | ⟨y,u,rfl,e⟩
   ·injection e with e1 _;rw [e1]
   ·exact nomatch e
  ·rcases dn hb with ⟨j,u,rfl,e⟩ | ⟨y,u,rfl,e⟩
   ·exact nomatch e
   ·injection e with e1 _;rw [e1]
 byValue:=λk v h=>by
  rcases dn h with ⟨i,t,rfl,rfl⟩ | ⟨x,t,rfl,rfl⟩ <;> rfl
 pyHash:=λhv h=>by
  rcases dn hv with ⟨i,t,rfl,rfl⟩ | ⟨x,t,rfl,rfl⟩
  ·exact wpAny_pyHash_int h
  ·exact wpAny_pyHash_str h
 eqBool:=λhu hv h=>by
  rcases dn hu with ⟨i,t,rfl,rfl⟩ | ⟨x,t,rfl,rfl⟩
  ·rcases dn hv with ⟨j,u,rfl,rfl⟩ | ⟨y,u,rfl,rfl⟩
   ·rw [C5] at h;exact wpAny_eqBool_int h
   ·rw [C6] at h;exact SeqAt.EqAt.int_str i t y u _ _ _ _ h
  ·rcases dn hv with ⟨j,u,rfl,rfl⟩ | ⟨y,u,rfl,rfl⟩
   ·rw [C7] at h;exact SeqAt.EqAt.str_int x t j u _ _ _ _ h
   ·rw [C8] at h;exact wpAny_eqBool_str h
 «strs»:=λk x t v h=>by
  rcases dn h with ⟨i,u,rfl,e⟩ | ⟨y,u,rfl,e⟩
  ·exact nomatch e
  ·injection e with e1 _
   subst e1
   cases v <;> rfl
theorem tq (prog:Program) (w:World) (i:Int) (t:Tok):(dO prog w).is (.inl i) (.int i t)=true:=xu i t
theorem tu (prog:Program) (w:World) (x:Str) (t:Tok):(dO prog w).is (.inr x) (.str x t)=true:=xw x t
inductive V where
 | non | bl (b:Bool) | int (i:Int) | str (x:Str) | byt (b:Array UInt8) | flt (b:UInt64) | ref (a:Addr) | ty (n:String)
 deriving DecidableEq
noncomputable def RelV:V->Value->Prop
 | .non,u=>u=Value.none
 | .bl b,u=>u=Value.bool b
 | .int i,u=>∃ t,u=Value.int i t
 | .str x,u=>∃ t,u=Value.str x t
 | .byt b,u=>∃ t,u=Value.bytes b t
 | .flt b,u=>∃ t,u=Value.float b t
 | .ref a,u=>u=Value.ref a
 | .ty n,u=>u=Value.type n
noncomputable abbrev Vals:List V->List Value->Prop:=Paired RelV
variable {xs:List V} {us:List Value}
theorem Vals.length (r:Vals xs us):xs.length=us.length:=Paired.length r
theorem Vals.get:∀ {xs:List V} {us:List Value} {i:Nat} {x:V},Vals xs us->xs[i]?=some x->∃ u,us[i]?=some u/\RelV x u
 | _,_,_,_,.nil,e=>by simp at e
 | _,_,0,_,.cons r _,e=>by simp at e;subst e;exact ⟨_,rfl,r⟩
 | _,_,i+1,x,.cons _ t,e=>by
  obtain ⟨u,h1,h2⟩:=Vals.get (i:=i) (x:=x) t (by simpa using e)
  exact ⟨u,by simpa using h1,h2⟩
variable {u:Value}
theorem Vals.set {x:V} (r:RelV x u):∀ {xs:List V} {us:List Value} (i:Nat),Vals xs us->Vals (xs.set i x) (us.set i u)
 | _,_,_,.nil=>.nil
 | _,_,0,.cons _ t=>.cons r t
 | _,_,i+1,.cons q t=>.cons q (Vals.set r i t)
theorem Vals.append:∀ {xs ys:List V} {us ws:List Value},Vals xs us->Vals ys ws->Vals (xs++ys) (us++ws)
 | _,_,_,_,.nil,s=>s
 | _,_,_,_,.cons r t,s=>.cons r (Vals.append t s)
theorem Vals.take:∀ {xs:List V} {us:List Value} (n:Nat),Vals xs us->Vals (xs.take n) (us.take n)
 | _,_,0,_=>.nil
 | _,_,_+1,.nil=>.nil
 | _,_,n+1,.cons r t=>.cons r (Vals.take n t)
theorem Vals.drop:∀ {xs:List V} {us:List Value} (n:Nat),Vals xs us->Vals (xs.drop n) (us.drop n)
 | _,_,0,r=>r
 | _,_,_+1,.nil=>.nil
 | _,_,n+1,.cons _ t=>Vals.drop n t
noncomputable def RelO:Option V->Option Value->Prop
 | some v,some u=>RelV v u
 | none,none=>True
 | _,_=>False
noncomputable def KV {κ:Type}:List (κ × V)->List (κ × Value)->Prop:=Paired λ(p:κ × V) (q:κ × Value)=>p.1=q.1/\RelV p.2 q.2
noncomputable def kV:Key->V
 | .inl i=>.int i
 | .inr x=>.str x
inductive HO where
 | lst (xs:List V)
 | tup (xs:List V)
 | dK (kvs:List (Key × V)) | dT (kvs:List (List Key × V))
 | set (S:Int->Bool) (n:Nat)
 | ins (C dx:Addr) (fs:List (Str × V))
 | own (x:Addr)
 | xd (fs:List (Str × V))
 | met (f x:Addr)
 | rng (lo hi:Int)
 | frz (o:Obj) (u:HO)
 | tbl (ps:Array Value)
 | ext (φ:Heap->Prop)
noncomputable abbrev Hp:=Addr->Option HO
noncomputable def upd (H:Hp) (a:Addr) (o:HO):Hp:=λb=>if b=a then some o else H b
variable {H:Hp} {a:Addr}
theorem aq {o:HO}:upd H a o a=some o:=by unfold upd;rw [if_pos rfl]
variable {b:Addr}
theorem aJ {o:HO} (h:b≠a):upd H a o b=H b:=by unfold upd;rw [if_neg h]
theorem az {o:HO} (h:H a=some o) (h':H b=none):a≠b:=by
 intro e;subst e;rw [h] at h';cases h'
section
variable (P:Program) (w:World)
noncomputable def ObjOk (H:Hp) (h:Heap) (a:Addr):HO->Prop
 | .lst xs=>xs.length≤sizeLine/\∃ (its:List Value) (n:Nat),Vals xs its/\h.get? a=some { cls:=.type "list",data:=.seq its.toArray n }
 | .tup xs=>xs.length≤sizeLine/\∃ its:List Value,Vals xs its/\IsTup h a its.toArray
 | .dK kvs=>kvs.length≤sizeLine/\(a == sysModules)=false/\∃ vs,KV kvs vs/\h.DictOf (dO P w) a vs
 | .dT kvs=>kvs.length≤sizeLine/\(a == sysModules)=false/\∃ xs:List (List Key × Addr × Value),
   Paired (λ(p:List Key × V) (q:List Key × Addr × Value)=>p.1=q.1/\H q.2.1=some (.tup (p.1.map kV))/\RelV p.2 q.2.2) kvs xs /\
   ∃ o es ep,h.get? a=some o/\o.ExactDict/\o.data=.dict es ep/\es.toList=xs.map (entryOfKey (tupleKind (dO P w)))/\(xs.map (·.1)).Nodup
 | .set S n=>h.SetOf (intKind P w) a S n
 | .ins C dx fs=>H dx=some (.own a)/\fs.length≤1000/\dx≠a/\h.get? a=some (PySem.W.instObj C dx) /\
   ∃ mA,h.Ns1 dx mA/\(∀ f,RelO (fs.lookup f) (mA f))/\PySem.Within mA (fs.map (·.1))
 | .own _=>∃ o,h.get? a=some o
 | .xd fs=>∃ mA,h.Ns1 a mA/\∀ f,RelO (fs.lookup f) (mA f)
 | .rng lo hi=>∃ t u v,h.get? a=some { cls:=.type "range",data:=.fields #[.int lo t,.int hi u,.int 1 v] }
 | .frz o u=>h.get? a=some o/\ObjOk H h a u
 | .tbl ps=>h.get? a=some { cls:=.none,data:=.fields ps }
 | .met f x=>h.get? a=some (PySem.W.methodObj (.ref f) (.ref x))
 | .ext φ=>φ h/\(∃ o,h.get? a=some o)/\∀ h1 h2:Heap,φ h1->(∀ o,h1.get? a=some o->h2.get? a=some o)->φ h2
noncomputable def HOk (H:Hp) (h:Heap):Prop:=∀ a o,H a=some o->ObjOk P w H h a o
end
section
variable {P:Program} {w:World} {H H':Hp} {h h':Heap} {a:Addr} {o:HO}
theorem ObjOk.lt (x:ObjOk P w H h a o):a < h.objs.size:=by
 cases o with
 | lst xs=>obtain ⟨_,_,_,_,e⟩:=x;exact Heap.lt_size e
 | tup xs=>obtain ⟨_,_,_,p⟩:=x;exact p.lt
 | dK kvs=>obtain ⟨_,_,_,_,o,_,_,e,_⟩:=x;exact Heap.lt_size e
 | dT kvs=>obtain ⟨_,_,_,_,o,_,_,e,_⟩:=x;exact Heap.lt_size e
 | set S n=>obtain ⟨o,_,_,_,e,_⟩:=x;exact Heap.lt_size e
 | ins C dx fs=>obtain ⟨_,_,_,e,_⟩:=x;exact Heap.lt_size e
 | own y=>obtain ⟨_,e⟩:=x;exact Heap.lt_size e
 | xd fs=>obtain ⟨_,⟨_,_,_,e,_⟩,_⟩:=x;exact Heap.lt_size e
 | rng lo hi=>obtain ⟨_,_,_,e⟩:=x;exact Heap.lt_size e
 | frz ob u=>obtain ⟨e,_⟩:=x;exact Heap.lt_size e
 | tbl ps=>exact Heap.lt_size (show h.get? a=some _ from x)
 | met f y=>exact Heap.lt_size (show h.get? a=some _ from x)
 | ext φ=>obtain ⟨_,⟨_,e⟩,_⟩:=x;exact Heap.lt_size e
theorem Paired.mapP {α β:Type} {F G:α->β->Prop}:∀ {l₁:List α} {l₂:List β},Paired F l₁ l₂->(∀ a b,F a b->G a b)->Paired G l₁ l₂
 | _,_,.nil,_=>.nil
 | _,_,.cons r t,f=>.cons (f _ _ r) (Paired.mapP t f)
theorem ObjOk.stay (x:ObjOk P w H h a o) (k:∀ b u,(b=a\/H b=some (.own a))->h.get? b=some u->h'.get? b=some u)
  (ho:∀ b,H b=some (.own a)->H' b=some (.own a)) (ht:∀ b xs,H b=some (.tup xs)->H' b=some (.tup xs)):ObjOk P w H' h' a o:=by
 induction o with
 | lst xs=>obtain ⟨z,its,n,r,e⟩:=x;exact ⟨z,its,n,r,k _ _ (.inl rfl) e⟩
 | tup xs=>obtain ⟨z,its,r,ob,e,c⟩:=x;exact ⟨z,its,r,ob,k _ _ (.inl rfl) e,c⟩
 | dK kvs=>obtain ⟨z,y,vs,r,ob,es,ep,e,c⟩:=x;exact ⟨z,y,vs,r,ob,es,ep,k _ _ (.inl rfl) e,c⟩
 | dT kvs =>
  obtain ⟨z,y,xs,r,ob,es,ep,e,c⟩:=x
  exact ⟨z,y,xs,Paired.mapP r λp q z=>⟨z.1,ht _ _ z.2.1,z.2.2⟩,ob,es,ep,k _ _ (.inl rfl) e,c⟩
 | set S n=>obtain ⟨ob,es,ep,t,e,c⟩:=x;exact ⟨ob,es,ep,t,k _ _ (.inl rfl) e,c⟩
 | ins C dx fs =>
  obtain ⟨d,z,ne,e,mA,⟨od,es,ep,e2,c⟩,r⟩:=x
  exact ⟨ho _ d,z,ne,k _ _ (.inl rfl) e,mA,⟨od,es,ep,k _ _ (.inr d) e2,c⟩,r⟩
 | own y=>obtain ⟨ob,e⟩:=x;exact ⟨ob,k _ _ (.inl rfl) e⟩
 | xd fs=>obtain ⟨mA,⟨od,es,ep,e,c⟩,r⟩:=x;exact ⟨mA,⟨od,es,ep,k _ _ (.inl rfl) e,c⟩,r⟩
 | rng lo hi=>obtain ⟨t,u,v,e⟩:=x;exact ⟨t,u,v,k _ _ (.inl rfl) e⟩
 | frz ob u ih=>obtain ⟨e,q⟩:=x;exact ⟨k _ _ (.inl rfl) e,ih q⟩
 | tbl ps =>
  have e:h.get? a=some { cls:=.none,data:=.fields ps }:=x
  show h'.get? a=some { cls:=.none,data:=.fields ps }
  exact k a _ (.inl rfl) e
 | met f y =>
  have e:h.get? a=some (PySem.W.methodObj (.ref f) (.ref y)):=x
  show h'.get? a=some (PySem.W.methodObj (.ref f) (.ref y))
  exact k a _ (.inl rfl) e
 | ext φ=>obtain ⟨p,⟨o,e⟩,st⟩:=x;exact ⟨st _ _ p λo q=>k _ _ (.inl rfl) q,⟨o,k _ _ (.inl rfl) e⟩,st⟩
theorem HOk.lt (x:HOk P w H h) (e:H a=some o):a < h.objs.size:=(x a o e).lt
theorem HOk.fresh (x:HOk P w H h) (e:h.objs.size≤a):H a=none:=by
 cases q:H a with
 | none=>rfl
 | some u=>exact absurd (Nat.lt_of_lt_of_le (x.lt q) e) (Nat.lt_irrefl _)
theorem HOk.kept (x:HOk P w H h) (k:∀ b u,h.get? b=some u->h'.get? b=some u):HOk P w H h':=λa o e =>
 (x a o e).stay (λb u _ q=>k b u q) (λ_ q=>q) λ_ _ q=>q
theorem HOk.laid (x:HOk P w H h) (k:∀ b u,h.get? b=some u->h'.get? b=some u) (hp:h.objs.size≤a) (new:ObjOk P w (upd H a o) h' a o):HOk P w (upd H a o) h':=λb u e=>by
 have hn:=x.fresh hp
 by_cases hb:b=a
 ·subst hb;rw [aq] at e;cases e;exact new
 ·rw [aJ hb] at e
  exact (x b u e).stay (λc v _ q=>k c v q) (λc q=>by rw [aJ (az q hn)];exact q) λc xs q=>by rw [aJ (az q hn)];exact q
end
noncomputable def Rd (H:Hp) (a:Addr) (u:HO):Prop:=H a=some u\/∃ o,H a=some (.frz o u)
variable {P:Program} {w:World} {h:Heap}
theorem Rd.ok {u:HO} (r:Rd H a u) (x:HOk P w H h):ObjOk P w H h a u:=by
 rcases r with r | ⟨o,r⟩
 ·exact x a u r
 ·obtain ⟨_,q⟩:=x a _ r
  exact q
noncomputable def Mut:Option HO->Prop
 | some (.lst _)=>True
 | some (.dK _)=>True
 | some (.dT _)=>True
 | some (.set _ _)=>True
 | some (.ins _ _ _)=>True
 | some (.ext _)=>True
 | _=>False
section
variable {P:Program} {w:World} {H:Hp} {h h':Heap} {x e:Addr} {o':HO}
theorem HOk.write (ok:HOk P w H h) (mu:Mut (H x)) (he:e=x\/H e=some (.own x)) (k:∀ b u,b≠e->h.get? b=some u->h'.get? b=some u) (heo:∃ u,h'.get? e=some u)
  (new:ObjOk P w (upd H x o') h' x o'):HOk P w (upd H x o') h':=λb u q=>by
 have nown:∀ c y,H c=some (.own y)->c≠x:=λc y r z=>by subst z;rw [r] at mu;exact mu
 have ntup:∀ c xs,H c=some (.tup xs)->c≠x:=λc xs r z=>by subst z;rw [r] at mu;exact mu
 by_cases hb:b=x
 ·subst hb;rw [aq] at q;cases q;exact new
 ·rw [aJ hb] at q
  by_cases hbe:b=e
  ·have q':H b=some (.own x):=by
    rcases he with z | z
    ·exact absurd (hbe.trans z) hb
    ·rw [hbe];exact z
   rw [q] at q';cases q'
   obtain ⟨v,hv⟩:=heo
   exact ⟨v,by rw [hbe];exact hv⟩
  ·refine (ok b u q).stay (λc v hc r=>k c v ?_ r) (λc r=>by rw [aJ (nown c b r)];exact r) λc xs r=>by rw [aJ (ntup c xs r)];exact r
   rcases hc with rfl | hc
   ·exact hbe
   ·rintro rfl
    rcases he with z | z
    ·exact nown c b hc z
    ·rw [hc] at z;cases z;exact hb rfl
end
structure Un (fs ex:List Addr) (H H':Hp) (h h':Heap):Prop where
 keep:∀ b o,h.get? b=some o->H b=none->b ∉ fs->b ∉ ex->h'.get? b=some o
 slot:∀ b o,h.get? b=some o->H b=none->b ∈ fs->b ∉ ex->∃ sl,h'.get? b=some { o with slots:=sl }
 free:∀ b o,h.get? b=some o->H b=none->b ∉ ex->H' b=none
 there:∀ b o,h.get? b=some o->b ∉ ex->∃ o',h'.get? b=some o'
 tups:∀ b xs,H b=some (.tup xs)->H' b=some (.tup xs)
 frzs:∀ b o u,H b=some (.frz o u)->H' b=some (.frz o u)
 tbls:∀ b ps,H b=some (.tbl ps)->∃ more,H' b=some (.tbl (ps++more))
section
variable {fs fs' ex ex':List Addr} {H H1 H2:Hp} {h h1 h2 h':Heap} {a x e:Addr} {o:HO}
theorem Un.any (u:Un fs ex H H1 h h1) {b:Addr} {ob:Obj} (q:h.get? b=some ob) (n:H b=none) (hx:b ∉ ex):∃ sl,h1.get? b=some { ob with slots:=sl }:=by
 by_cases hb:b ∈ fs
 ·exact u.slot b ob q n hb hx
 ·exact ⟨ob.slots,u.keep b ob q n hb hx⟩
theorem Un.kept (k:∀ b u,h.get? b=some u->h'.get? b=some u):Un fs ex H H h h' :=
 ⟨λb ob q _ _ _=>k b ob q,λb ob q _ _ _=>⟨ob.slots,k b ob q⟩,λ_ _ _ n _=>n,λb ob q _=>⟨ob,k b ob q⟩,λ_ _ q=>q,λ_ _ _ q=>q,λ_ ps q=>⟨#[],by rw [q];simp⟩⟩
theorem Un.refl:Un fs ex H H h h:=Un.kept λ_ _ q=>q
theorem Un.laid (k:∀ b u,h.get? b=some u->h'.get? b=some u) (hp:h.objs.size≤a) (hn:H a=none):Un fs ex H (upd H a o) h h' where
 keep:=λb u q _ _ _=>k b u q
 slot:=λb u q _ _ _=>⟨u.slots,k b u q⟩
 free:=λb u q n _=>by rw [aJ (Nat.ne_of_lt (Nat.lt_of_lt_of_le (Heap.lt_size q) hp))];exact n
 there:=λb u q _=>⟨u,k b u q⟩
 tups:=λb xs q=>by rw [aJ (az q hn)];exact q
 frzs:=λb u xs q=>by rw [aJ (az q hn)];exact q
 tbls:=λb ps q=>⟨#[],by rw [aJ (az q hn),q];simp⟩
theorem Un.write (mu:Mut (H x)) (he:e=x\/H e=some (.own x)) (k:∀ b u,b≠e->h.get? b=some u->h'.get? b=some u) (heo:∃ u,h'.get? e=some u):Un fs ex H (upd H x o) h h':=by
 have hx:∀ b,H b=none->b≠x:=λb n z=>by subst z;rw [n] at mu;exact mu
 have hb:∀ b,H b=none->b≠e:=λb n z=>by
  subst z
  rcases he with r | r
  ·exact hx b n r
  ·rw [n] at r;cases r
 have hm:∀ b u,H b=some u->¬ Mut (some u)->b≠x:=λb u q nm z=>by subst z;rw [q] at mu;exact nm mu
 refine ⟨λb u q n _ _=>k b u (hb b n) q,λb u q n _ _=>⟨u.slots,k b u (hb b n) q⟩,λb u q n _=>by rw [aJ (hx b n)];exact n,λb u q _=>?_,
  λb xs q=>by rw [aJ (hm b _ q λz=>z)];exact q,λb u xs q=>by rw [aJ (hm b _ q λz=>z)];exact q,λb ps q=>⟨#[],by rw [aJ (hm b _ q λz=>z),q];simp⟩⟩
 by_cases hbe:b=e
 ·subst hbe;exact heo
 ·exact ⟨u,k b u hbe q⟩
end
noncomputable def trk (h:Heap) (H:Hp):List Addr:=(List.range h.objs.size).filter λa=>(H a).isSome
noncomputable def qJ (h:Heap) (H:Hp):Heap:=PySem.W.hideAll h (trk h H)
theorem xq (h:Heap) (H:Hp):(qJ h H).objs.size=h.objs.size:=PySem.W.hideAll_size _ _
variable {o:Obj}
theorem zm (e:h.get? b=some o) (n:H b=none):(qJ h H).get? b=some o :=
 PySem.W.hideAll_get _ e λhm=>by
  have q:(H b).isSome=true:=(List.mem_filter.mp hm).2
  rw [n] at q;simp at q
theorem Bj (e:(qJ h H).get? b=some o):h.get? b=some o/\H b=none:=by
 have e':h.get? b=some o:=PySem.W.of_hideAll (trk h H) e
 refine ⟨e',?_⟩
 cases q:H b with
 | none=>rfl
 | some x =>
  have hm:b ∈ trk h H:=List.mem_filter.mpr ⟨List.mem_range.mpr (Heap.lt_size e'),by simp [q]⟩
  have z:(qJ h H).get? b=none:=PySem.W.hideAll_none (trk h H) hm
  rw [z] at e;cases e
structure Mod (K:PySem.W.Frag) (mg:Str->Option Value) (base:Heap):Prop where
 kin:K.In base
 glob:base.Ns mainGlobals mg
 blt:∃ mb,base.Ns builtinsNs mb/\∀ x:Str,x≠"__name__"->mb x=bootBuiltins x
 nolimit:base.NoLimit
structure Cx where
 prog:Program
 w:World
 K:PySem.W.Frag
 mg:Str->Option Value
 base:Heap
 A:Around
 N:List Str
 s₀:Shared
 H₀:Hp
 env:Env
 outer:List Env
 stack:List Env
 ex:List Addr
 fn:Str->Bool
 calm:Bool
 pn:List (Addr × Obj)
 xe:Value->Shared->Prop
noncomputable def frs (l:List Env):List Addr:=l.filterMap (·.frame)
noncomputable abbrev Cx.fs (X:Cx):List Addr:=frs X.outer
noncomputable def Vis (sc:Scope) (x:Str):Prop:=sc.names.lookup x=some .local\/sc.names.lookup x=some .cell\/sc.names.lookup x=some .free
noncomputable def Loc (sc:Scope) (x:Str):Prop:=sc.names.lookup x=some .local\/sc.names.lookup x=some .cell
noncomputable def EE (env:Env) (h:Heap) (m:Str->Option Value) (x:Str) (u:Value):Prop :=
 (env.kindOf x=some .local/\m x=some u)\/((env.kindOf x=some .cell\/env.kindOf x=some .free)/\∃ c,env.cells.lookup x=some c/\h.IsCell c (some u))
structure Cx.Ok (X:Cx):Prop where
 mod:Mod X.K X.mg X.base
 kind:X.env.scope.kind=.function
 glob:X.env.globals=mainGlobals
 blt:X.env.builtins=builtinsNs
 above:X.s₀.heap.objs.size≤X.env.locals
 inj:∀ x y c,X.env.cells.lookup x=some c->X.env.cells.lookup y=some c->x=y
 has:∀ x,(X.env.kindOf x=some .cell\/X.env.kindOf x=some .free)->∃ c,X.env.cells.lookup x=some c
 cab:∀ x c,X.fn x=true->X.env.cells.lookup x=some c->X.s₀.heap.objs.size≤c
 hd:X.calm=true->X.A.handled=none
 frames:X.A.frames=some X.stack
 stk:X.stack=X.outer\/(X.stack=X.env::X.outer/\X.env.frame=some X.env.locals)
 exf:∀ b ∈ X.ex,b≠X.env.locals/\∀ x c,X.env.cells.lookup x=some c->c≠b
 bs:∀ b o,X.base.get? b=some o->X.s₀.heap.get? b=some o/\X.H₀ b=none
 bsz:X.base.objs.size≤X.s₀.heap.objs.size
 noex:∀ b o,X.base.get? b=some o->b ∉ X.ex
 exfs:∀ b ∈ X.ex,b ∉ X.fs
 funs:X.s₀.heap.FunFrames X.base X.outer
 frf:∀ b ∈ X.fs,X.H₀ b=none
structure Inv (X:Cx) (pins:List (Addr × Obj)) (σ:List (Option V)) (H:Hp) (s:Shared):Prop where
 ok:X.Ok
 os:s.os=X.s₀.os
 bare:AllBare s.gens
 base:Un X.fs X.ex X.H₀ H X.s₀.heap s.heap
 loc:∃ m,s.heap.Ns X.env.locals m/\∀ (i:Nat) (x:Str) (v:V),X.N[i]?=some x->σ[i]?=some (some v)->Vis X.env.scope x->∃ u,RelV v u/\EE X.env s.heap m x u
 cell:∀ x c,X.env.cells.lookup x=some c->∃ v,s.heap.IsCell c v
 free:H X.env.locals=none
 freeC:∀ x c,X.env.cells.lookup x=some c->H c=none
 pin:∀ p ∈ X.pn++pins,s.heap.get? p.1=some p.2/\H p.1=none/\p.1≠X.env.locals/\p.1 ∉ X.fs/\∀ v,p.2.data≠.cell v
 hok:HOk X.prog X.w H s.heap
 len:σ.length=X.N.length
section
variable {X:Cx} {pins:List (Addr × Obj)} {σ:List (Option V)} {H H':Hp} {s:Shared} {h':Heap}
theorem Cx.Ok.nofr (ok:X.Ok) {b:Addr} {o:Obj} (e:X.base.get? b=some o):b ∉ X.fs:=λhb=>by
 have:=(ok.funs.mem hb).1
 rw [e] at this;cases this
theorem Inv.bs (I:Inv X pins σ H s):∀ b o,X.base.get? b=some o->s.heap.get? b=some o/\H b=none:=λb o e =>
 ⟨I.base.keep b o (I.ok.bs b o e).1 (I.ok.bs b o e).2 (I.ok.nofr e) (I.ok.noex b o e),I.base.free b o (I.ok.bs b o e).1 (I.ok.bs b o e).2 (I.ok.noex b o e)⟩
theorem Inv.bk (I:Inv X pins σ H s):∀ b o,X.base.get? b=some o->s.heap.get? b=some o:=λb o e=>(I.bs b o e).1
theorem Inv.mod (I:Inv X pins σ H s):Mod X.K X.mg X.base:=I.ok.mod
theorem Inv.kIn (I:Inv X pins σ H s):X.K.In s.heap:=I.ok.mod.kin.keeps I.bk
theorem Inv.lt (I:Inv X pins σ H s):X.env.locals < s.heap.objs.size:=let ⟨_,hn,_⟩:=I.loc;hn.lt
theorem Inv.sz (I:Inv X pins σ H s):X.s₀.heap.objs.size≤s.heap.objs.size:=Nat.le_trans I.ok.above (Nat.le_of_lt I.lt)
variable {a:Addr}
theorem Inv.nofs (I:Inv X pins σ H s) (h:s.heap.objs.size≤a):a ∉ X.fs:=λhb=>by
 obtain ⟨_,o,ho,_⟩:=I.ok.funs.mem hb
 exact absurd (Nat.lt_of_lt_of_le (Heap.lt_size ho) (Nat.le_trans I.sz h)) (Nat.lt_irrefl _)
theorem Inv.cne (I:Inv X pins σ H s):∀ x c,X.env.cells.lookup x=some c->c≠X.env.locals:=λx c e z=>by
 obtain ⟨v,o,ho,hd⟩:=I.cell x c e
 obtain ⟨m,⟨o',es,ep,ho',hd',_⟩,_⟩:=I.loc
 rw [z,ho'] at ho;cases ho;rw [hd'] at hd;cases hd
theorem Inv.funs (I:Inv X pins σ H s):s.heap.FunFrames X.base X.outer:=by
 have all:∀ (l:List Env),(∀ b ∈ frs l,b ∈ X.fs)->X.s₀.heap.FunFrames X.base l->s.heap.FunFrames X.base l:=by
  intro l
  induction l with
  | nil=>intro _ _;trivial
  | cons env r ih =>
   intro hs hl
   obtain ⟨hk,⟨L,o,hf,hn,ho,hd⟩,hr⟩:=hl
   have hL:L ∈ X.fs:=hs L (by unfold frs;rw [List.filterMap_cons,hf];exact List.mem_cons_self)
   obtain ⟨sl,e⟩:=I.base.slot L o ho (I.ok.frf L hL) hL λz=>I.ok.exfs L z hL
   exact ⟨hk,⟨L,_,hf,hn,e,hd⟩,ih (λb hb=>hs b (by unfold frs;rw [List.filterMap_cons,hf];exact List.mem_cons_of_mem _ hb)) hr⟩
 exact all X.outer (λ_ hb=>hb) I.ok.funs
theorem Inv.stack (I:Inv X pins σ H s):s.heap.FunFrames X.base X.stack:=by
 rcases I.ok.stk with e | ⟨e,hf⟩
 ·rw [e];exact I.funs
 ·rw [e]
  obtain ⟨m,hn,_⟩:=I.loc
  refine .cons (by rw [I.ok.kind];decide) hf hn ?_ I.funs
  exact Heap.get?_none_of_le (Nat.le_trans I.ok.bsz I.ok.above)
theorem Inv.stkSub (I:Inv X pins σ H s):∀ b ∈ frs X.stack,b ∈ X.env.locals::X.fs:=λb hb=>by
 rcases I.ok.stk with e | ⟨e,hf⟩
 ·rw [e] at hb;exact List.mem_cons_of_mem _ hb
 ·rw [e] at hb
  unfold frs at hb
  rw [List.filterMap_cons,hf] at hb
  exact hb
theorem Inv.stkFree (I:Inv X pins σ H s):∀ b ∈ frs X.stack,H b=none:=λb hb=>by
 rcases List.mem_cons.mp (I.stkSub b hb) with e | hb
 ·rw [e];exact I.free
 ·obtain ⟨_,o,ho,_⟩:=I.ok.funs.mem hb
  exact I.base.free b o ho (I.ok.frf b hb) λz=>I.ok.exfs b z hb
variable {g':Array GenState} {t':Nat} {d':Drawn} {ch:List Addr}
theorem Inv.step (I:Inv X pins σ H s)
  (hch:∀ b ∈ ch,(b ∈ X.ex\/X.s₀.heap.objs.size≤b)/\b≠X.env.locals/\(∀ x c,X.env.cells.lookup x=some c->c≠b)/\∀ p ∈ X.pn++pins,p.1≠b)
  (keep:∀ b o,b≠X.env.locals->b ∉ X.fs->b ∉ ch->s.heap.get? b=some o->H b=none->h'.get? b=some o)
  (slot:∀ b o,b≠X.env.locals->b ∈ X.fs->b ∉ ch->s.heap.get? b=some o->H b=none->∃ sl,h'.get? b=some { o with slots:=sl }) (free:∀ b o,b ∉ ch->s.heap.get? b=some o->H b=none->H' b=none)
  (there:∀ b o,b ∉ ch->s.heap.get? b=some o->∃ o',h'.get? b=some o')
  (tups:∀ b xs,H b=some (.tup xs)->H' b=some (.tup xs)) (frzs:∀ b o u,H b=some (.frz o u)->H' b=some (.frz o u)) (tbls:∀ b ps,H b=some (.tbl ps)->∃ more,H' b=some (.tbl (ps++more)))
  (ns:∀ m,s.heap.Ns X.env.locals m->h'.Ns X.env.locals m) (hok:HOk X.prog X.w H' h') (hg:AllBare g') :
  Inv X pins σ H' { s with heap:=h',gens:=g',drawn:=d',toks:=t' }:=by
 have neL:∀ b o,X.s₀.heap.get? b=some o->b≠X.env.locals:=λb o e=>Nat.ne_of_lt (Nat.lt_of_lt_of_le (Heap.lt_size e) I.ok.above)
 have neC:∀ b o,X.s₀.heap.get? b=some o->b ∉ X.ex->b ∉ ch:=λb o e hx hb=>by
  rcases (hch b hb).1 with z | z
  ·exact hx z
  ·exact absurd (Nat.lt_of_lt_of_le (Heap.lt_size e) z) (Nat.lt_irrefl _)
 have cellK:∀ x c,X.env.cells.lookup x=some c->∀ v,s.heap.IsCell c v->h'.IsCell c v:=λx c e v zq=>by
  obtain ⟨o,ho,hd⟩:=zq
  have nch:c ∉ ch:=λz=>(hch c z).2.2.1 x c e rfl
  by_cases hc:c ∈ X.fs
  ·obtain ⟨sl,q⟩:=slot c o (I.cne x c e) hc nch ho (I.freeC x c e)
   exact ⟨_,q,hd⟩
  ·exact ⟨o,keep c o (I.cne x c e) hc nch ho (I.freeC x c e),hd⟩
 refine ⟨I.ok,I.os,hg,⟨λb o e n hb hx=>?_,λb o e n hb hx=>?_,λb o e n hx=>?_,λb o e hx=>?_,λb xs e=>tups b xs (I.base.tups b xs e),λb o xs e=>frzs b o xs (I.base.frzs b o xs e),λb ps e=>?_⟩,?_,λx c e=>?_,?_,λx c e=>?_,λp hp=>?_,hok,I.len⟩
 ·exact keep b o (neL b o e) hb (neC b o e hx) (I.base.keep b o e n hb hx) (I.base.free b o e n hx)
 ·obtain ⟨sl,e1⟩:=I.base.slot b o e n hb hx
  obtain ⟨sl',e2⟩:=slot b _ (neL b o e) hb (neC b o e hx) e1 (I.base.free b o e n hx)
  exact ⟨sl',e2⟩
 ·obtain ⟨o',e1⟩:=I.base.there b o e hx
  exact free b o' (neC b o e hx) e1 (I.base.free b o e n hx)
 ·obtain ⟨o',e1⟩:=I.base.there b o e hx
  exact there b o' (neC b o e hx) e1
 ·obtain ⟨m1,e1⟩:=I.base.tbls b ps e
  obtain ⟨m2,e2⟩:=tbls b _ e1
  exact ⟨m1++m2,by rw [e2,Array.append_assoc]⟩
 ·obtain ⟨m,hn,hl⟩:=I.loc
  refine ⟨m,ns m hn,λi x v e1 e2 e3=>?_⟩
  obtain ⟨u,r,l⟩:=hl i x v e1 e2 e3
  refine ⟨u,r,?_⟩
  rcases l with l | ⟨k,c,e,z⟩
  ·exact .inl l
  ·exact .inr ⟨k,c,e,cellK x c e _ z⟩
 ·obtain ⟨v,z⟩:=I.cell x c e
  exact ⟨v,cellK x c e v z⟩
 ·obtain ⟨m,⟨o,_,_,ho,_⟩,_⟩:=I.loc
  exact free _ o (λz=>(hch _ z).2.1 rfl) ho I.free
 ·obtain ⟨v,o,ho,hd⟩:=I.cell x c e
  exact free c o (λz=>(hch c z).2.2.1 x c e rfl) ho (I.freeC x c e)
 ·obtain ⟨e,n,ne,nf,d⟩:=I.pin p hp
  have nch:p.1 ∉ ch:=λz=>(hch p.1 z).2.2.2 p hp rfl
  exact ⟨keep p.1 p.2 ne nf nch e n,free p.1 p.2 nch e n,ne,nf,d⟩
theorem Inv.un (I:Inv X pins σ H s) (u:Un X.fs [] H H' s.heap h') (hok:HOk X.prog X.w H' h'):Inv X pins σ H' { s with heap:=h',toks:=t' }:=by
 obtain ⟨m,⟨o,es,ep,ho,r⟩,_⟩:=id I.loc
 obtain ⟨sl,hL⟩:=u.any ho I.free (by simp)
 exact I.step (g':=s.gens) (d':=s.drawn) (ch:=[]) (λ_ z=>nomatch z) (λb o _ hb _ e n=>u.keep b o e n hb (by simp)) (λb o _ hb _ e n=>u.slot b o e n hb (by simp)) (λb o _ e n=>u.free b o e n (by simp)) (λb o _ e=>u.there b o e (by simp)) u.tups u.frzs u.tbls (λm' hm=>by
  obtain ⟨o',es',ep',ho',r'⟩:=hm
  rw [ho] at ho';cases ho'
  exact ⟨_,es',ep',hL,r'⟩) hok I.bare
theorem Inv.call (I:Inv X pins σ H s) (u:Un (frs X.stack) ch H H' s.heap h') (hok:HOk X.prog X.w H' h') (hg:AllBare g')
  (hch:∀ b ∈ ch,(b ∈ X.ex\/X.s₀.heap.objs.size≤b)/\b≠X.env.locals/\(∀ x c,X.env.cells.lookup x=some c->c≠b)/\∀ p ∈ X.pn++pins,p.1≠b) :
  Inv X pins σ H' { s with heap:=h',gens:=g',drawn:=d',toks:=t' }:=by
 obtain ⟨m,⟨o,es,ep,ho,r⟩,_⟩:=id I.loc
 obtain ⟨sl,hL⟩:=u.any ho I.free λz=>(hch _ z).2.1 rfl
 exact I.step (ch:=ch) hch (λb o hL hb hc e n=>u.keep b o e n (λz=>(List.mem_cons.mp (I.stkSub b z)).elim hL hb) hc) (λb o _ _ hc e n=>u.any e n hc) (λb o hc e n=>u.free b o e n hc) (λb o hc e=>u.there b o e hc) u.tups u.frzs u.tbls (λm' hm=>by
  obtain ⟨o',es',ep',ho',r'⟩:=hm
  rw [ho] at ho';cases ho'
  exact ⟨_,es',ep',hL,r'⟩) hok hg
theorem Inv.turned {it:Addr} (I:Inv X pins σ H s) (k:∀ b o,b≠it->s.heap.get? b=some o->h'.get? b=some o) (hn:H it=none) (hL:it≠X.env.locals)
  (h1:it ∈ X.ex\/X.s₀.heap.objs.size≤it) (h2:∀ x c,X.env.cells.lookup x=some c->c≠it) (h3:∀ p ∈ X.pn++pins,p.1≠it):Inv X pins σ H { s with heap:=h',toks:=t' }:=by
 have nit:∀ b u,H b=some u->b≠it:=λb u e z=>by rw [z,hn] at e;cases e
 refine I.step (g':=s.gens) (d':=s.drawn) (ch:=[it]) (λb hb=>?_) (λb o _ _ hc e _=>k b o (λz=>hc (by simp [z])) e) (λb o _ _ hc e _=>⟨o.slots,k b o (λz=>hc (by simp [z])) e⟩) (λ_ _ _ _ n=>n)
  (λb o hc e=>⟨o,k b o (λz=>hc (by simp [z])) e⟩) (λ_ _ e=>e) (λ_ _ _ e=>e) (λb ps e=>⟨#[],by rw [e];simp⟩) (λm hm=>?_) (λb u e=>?_) I.bare
 ·have e:b=it:=by simpa using hb
  subst e
  exact ⟨h1,hL,h2,h3⟩
 ·obtain ⟨o,es,ep,ho,r⟩:=hm
  exact ⟨o,es,ep,k _ o (Ne.symm hL) ho,r⟩
 ·refine (I.hok b u e).stay (λc v hc q=>k c v ?_ q) (λ_ q=>q) λ_ _ q=>q
  rcases hc with z | z
  ·rw [z];exact nit b u e
  ·exact nit c _ z
theorem Inv.tok (I:Inv X pins σ H s) (t:Nat):Inv X pins σ H { s with toks:=t }:=I.un (h':=s.heap) (t':=t) Un.refl I.hok
theorem Inv.kept (I:Inv X pins σ H s) (k:∀ b u,s.heap.get? b=some u->h'.get? b=some u):Inv X pins σ H { s with heap:=h',toks:=t' }:=I.un (Un.kept k) (I.hok.kept k)
variable {o:HO}
theorem Inv.laid (I:Inv X pins σ H s) (k:∀ b u,s.heap.get? b=some u->h'.get? b=some u) (hp:s.heap.objs.size≤a) (new:ObjOk X.prog X.w (upd H a o) h' a o) :
  Inv X pins σ (upd H a o) { s with heap:=h',toks:=t' }:=I.un (Un.laid k hp (I.hok.fresh hp)) (I.hok.laid k hp new)
theorem Inv.write {x e:Addr} (I:Inv X pins σ H s) (mu:Mut (H x)) (he:e=x\/H e=some (.own x)) (k:∀ b u,b≠e->s.heap.get? b=some u->h'.get? b=some u) (heo:∃ u,h'.get? e=some u)
  (new:ObjOk X.prog X.w (upd H x o) h' x o):Inv X pins σ (upd H x o) { s with heap:=h',toks:=t' }:=I.un (Un.write mu he k heo) (I.hok.write mu he k heo new)
theorem Inv.pins_of {pins':List (Addr × Obj)} (I:Inv X pins σ H s) (h:∀ p ∈ pins',s.heap.get? p.1=some p.2/\H p.1=none/\p.1≠X.env.locals/\p.1 ∉ X.fs/\∀ v,p.2.data≠.cell v):Inv X pins' σ H s :=
 ⟨I.ok,I.os,I.bare,I.base,I.loc,I.cell,I.free,I.freeC,λp hp=>(List.mem_append.mp hp).elim (λz=>I.pin p (List.mem_append_left _ z)) (h p),I.hok,I.len⟩
variable {i:Nat} {x:Str}
theorem tF {N:List Str} (hN:N.Nodup) {j:Nat} (a:N[i]?=some x) (b:N[j]?=some x):i=j:=by
 obtain ⟨h1,e1⟩:=List.getElem?_eq_some_iff.mp a
 obtain ⟨h2,e2⟩:=List.getElem?_eq_some_iff.mp b
 exact (List.getElem_inj hN).mp (e1.trans e2.symm)
variable {M:Model} {A:Around} {v:V} {u:Value}
theorem qh {E:Value->Shared->Prop} {Q:Unit->Shared->Prop} (I:Inv X pins σ H s) (hN:X.N.Nodup) (hi:X.N[i]?=some x) (hx:Loc X.env.scope x) (r:RelV v u)
  (h:∀ s',Inv X pins (σ.set i (some v)) H s'->(∃ a,Heap.SameBut a s.heap s'.heap/\(a=X.env.locals\/X.env.cells.lookup x=some a))->Q () s') (hf:X.fn x=true\/X.env.scope.names.lookup x=some .local:=by first | exact .inl rfl | exact .inr rfl | assumption):wpAny M A (storeName X.env x u) Q E s:=by
 obtain ⟨m,hn,hl⟩:=id I.loc
 have hcls:(X.env.scope.kind == .class || (X.env.scope.kind == .module && X.env.locals != X.env.globals))=false:=by rw [I.ok.kind];rfl
 have hiσ:i < σ.length:=by rw [I.len];exact (List.getElem?_eq_some_iff.mp hi).1
 have cne:=I.cne
 have tracked:∀ {a:Addr} {h':Heap},(∃ o,s.heap.get? a=some o/\H a=none)->Heap.SameBut a s.heap h'->HOk X.prog X.w H h':=λ{a h'} ha hs b ob e=>by
  obtain ⟨_,_,hfree⟩:=ha
  refine (I.hok b ob e).stay (λc w' hc q=>(hs.2 c ?_).trans q) (λ_ q=>q) λ_ _ q=>q
  rintro rfl
  rcases hc with rfl | hc
  ·rw [hfree] at e;cases e
  ·rw [hfree] at hc;cases hc
 rcases hx with hk | hk
 ·refine wpAny_storeName_local hk hn (λh' hn' hs=>?_) hcls
  obtain ⟨oL,_,_,hoL,_⟩:=id hn
  refine h _ ⟨I.ok,I.os,I.bare,⟨λb o e n hb hx=>?_,λb o e n hb hx=>?_,I.base.free,λb o e hx=>?_,I.base.tups,I.base.frzs,I.base.tbls⟩,⟨_,hn',λj y v' e1 e2 e3=>?_⟩,λy c e=>?_,I.free,I.freeC,λp hp=>?_,tracked ⟨oL,hoL,I.free⟩ hs,by simpa using I.len⟩ ⟨_,hs,.inl rfl⟩
  ·exact (hs.2 b (Nat.ne_of_lt (Nat.lt_of_lt_of_le (Heap.lt_size e) I.ok.above))).trans (I.base.keep b o e n hb hx)
  ·obtain ⟨sl,e1⟩:=I.base.slot b o e n hb hx
   exact ⟨sl,(hs.2 b (Nat.ne_of_lt (Nat.lt_of_lt_of_le (Heap.lt_size e) I.ok.above))).trans e1⟩
  ·obtain ⟨o',e1⟩:=I.base.there b o e hx
   exact ⟨o',(hs.2 b (Nat.ne_of_lt (Nat.lt_of_lt_of_le (Heap.lt_size e) I.ok.above))).trans e1⟩
  ·by_cases hj:j=i
   ·subst hj
    rw [hi] at e1;cases e1
    rw [List.getElem?_set_self hiσ] at e2
    cases e2
    exact ⟨u,r,.inl ⟨hk,by simp⟩⟩
   ·rw [List.getElem?_set_ne (Ne.symm hj)] at e2
    obtain ⟨u',r',q⟩:=hl j y v' e1 e2 e3
    refine ⟨u',r',?_⟩
    rcases q with ⟨k,e⟩ | ⟨k,c,e,z⟩
    ·refine .inl ⟨k,?_⟩
     have:y≠x:=λe=>hj (tF hN e1 (e ▸ hi))
     simp [this,e]
    ·exact .inr ⟨k,c,e,z.sameBut hs (cne y c e)⟩
  ·obtain ⟨w',z⟩:=I.cell y c e
   exact ⟨w',z.sameBut hs (cne y c e)⟩
  ·obtain ⟨e,n,ne,nf,d⟩:=I.pin p hp
   exact ⟨(hs.2 p.1 ne).trans e,n,ne,nf,d⟩
 ·have hfn:X.fn x=true:=by
   rcases hf with z | z
   ·exact z
   ·rw [z] at hk;cases hk
  obtain ⟨c,hc⟩:=I.ok.has x (.inl hk)
  obtain ⟨w',z⟩:=I.cell x c hc
  refine wpAny_storeName_cell I.ok.kind hk hc z (λh' hc' hs=>?_)
  obtain ⟨oc,hoc,hocd⟩:=id z
  refine h { s with heap:=h' } ⟨I.ok,I.os,I.bare,⟨λb o e n hb hx=>?_,λb o e n hb hx=>?_,I.base.free,λb o e hx=>?_,I.base.tups,I.base.frzs,I.base.tbls⟩,⟨m,hn.sameBut hs (Ne.symm (cne x c hc)),λj y v' e1 e2 e3=>?_⟩,λy c' e=>?_,I.free,I.freeC,λp hp=>?_,tracked ⟨oc,hoc,I.freeC x c hc⟩ hs,by simpa using I.len⟩ ⟨c,hs,.inr hc⟩
  ·exact (hs.2 b (Nat.ne_of_lt (Nat.lt_of_lt_of_le (Heap.lt_size e) (I.ok.cab x c hfn hc)))).trans (I.base.keep b o e n hb hx)
  ·obtain ⟨sl,e1⟩:=I.base.slot b o e n hb hx
   exact ⟨sl,(hs.2 b (Nat.ne_of_lt (Nat.lt_of_lt_of_le (Heap.lt_size e) (I.ok.cab x c hfn hc)))).trans e1⟩
  ·obtain ⟨o',e1⟩:=I.base.there b o e hx
   exact ⟨o',(hs.2 b (Nat.ne_of_lt (Nat.lt_of_lt_of_le (Heap.lt_size e) (I.ok.cab x c hfn hc)))).trans e1⟩
  ·by_cases hj:j=i
   ·subst hj
    rw [hi] at e1;cases e1
    rw [List.getElem?_set_self hiσ] at e2
    cases e2
    exact ⟨u,r,.inr ⟨.inl hk,c,hc,hc'⟩⟩
   ·rw [List.getElem?_set_ne (Ne.symm hj)] at e2
    obtain ⟨u',r',q⟩:=hl j y v' e1 e2 e3
    refine ⟨u',r',?_⟩
    rcases q with q | ⟨k,c',e,z'⟩
    ·exact .inl q
    ·refine .inr ⟨k,c',e,z'.sameBut hs ?_⟩
     rintro rfl
     exact hj (tF hN e1 (I.ok.inj _ _ _ e hc ▸ hi))
  ·by_cases hcc:c'=c
   ·subst hcc;exact ⟨_,hc'⟩
   ·obtain ⟨w2,z2⟩:=I.cell y c' e
    exact ⟨w2,z2.sameBut hs hcc⟩
  ·obtain ⟨e,n,ne,nf,d⟩:=I.pin p hp
   refine ⟨(hs.2 p.1 ?_).trans e,n,ne,nf,d⟩
   intro q
   rw [q,hoc] at e
   have q':oc=p.2:=Option.some.inj e
   exact d w' (by rw [← q'];exact hocd)
theorem jK {E:Value->Shared->Prop} {Q:Unit->Shared->Prop} (I:Inv X pins σ H s) (hN:X.N.Nodup) (hi:X.N[i]?=some x) (hx:Loc X.env.scope x) (r:RelV v u)
  (h:∀ s',Inv X pins (σ.set i (some v)) H s'->Q () s') (hf:X.fn x=true\/X.env.scope.names.lookup x=some .local:=by first | exact .inl rfl | exact .inr rfl | assumption):wpAny M A (storeName X.env x u) Q E s :=
 qh I hN hi hx r (λs' I' _=>h s' I') hf
theorem Inv.call' {s':Shared} (I:Inv X pins σ H s) (ho:s'.os=s.os) (u:Un (frs X.stack) ch H H' s.heap s'.heap) (hok:HOk X.prog X.w H' s'.heap) (hg:AllBare s'.gens)
  (hch:∀ b ∈ ch,(b ∈ X.ex\/X.s₀.heap.objs.size≤b)/\b≠X.env.locals/\(∀ x c,X.env.cells.lookup x=some c->c≠b)/\∀ p ∈ X.pn++pins,p.1≠b):Inv X pins σ H' s':=by
 obtain ⟨h',g',d',t',o'⟩:=s'
 have e:o'=s.os:=ho
 subst e
 exact I.call (g':=g') (t':=t') (d':=d') u hok hg hch
end
noncomputable abbrev XK:=Value->Option Addr->Hp->Prop
noncomputable abbrev St:=List (Option V)
noncomputable abbrev VK:=V->Hp->Prop
noncomputable abbrev TE:=St->Hp->VK->Prop
noncomputable abbrev TT:=St->Hp->(Bool->Hp->Prop)->Prop
noncomputable abbrev TA:=St->Hp->(List V->Hp->Prop)->Prop
structure iV where
 nx:St->Hp->Prop
 rt:VK
 bk:St->Hp->Prop:=λ_ _=>False
 ct:St->Hp->Prop:=λ_ _=>False
noncomputable abbrev TS:=iV->St->Hp->Prop
noncomputable def EP (X:Cx) (pins:List (Addr × Obj)) (σ:St) (Q:VK) (u:Value) (s':Shared):Prop:=∃ v H',Inv X pins σ H' s'/\RelV v u/\Q v H'
noncomputable def TP (X:Cx) (pins:List (Addr × Obj)) (σ:St) (Q:Bool->Hp->Prop) (b:Bool) (s':Shared):Prop:=∃ H',Inv X pins σ H' s'/\Q b H'
noncomputable def AP (X:Cx) (pins:List (Addr × Obj)) (σ:St) (Q:List V->Hp->Prop) (us:List Value) (s':Shared):Prop:=∃ vs H',Inv X pins σ H' s'/\Vals vs us/\Q vs H'
noncomputable def SP (X:Cx) (pins:List (Addr × Obj)) (D:iV) (f:Flow) (s':Shared):Prop :=
 match f with
 | .next=>∃ σ' H',Inv X pins σ' H' s'/\D.nx σ' H'
 | .brk=>∃ σ' H',Inv X pins σ' H' s'/\D.bk σ' H'
 | .cont=>∃ σ' H',Inv X pins σ' H' s'/\D.ct σ' H'
 | .ret u=>∃ v σ' H',Inv X pins σ' H' s'/\RelV v u/\D.rt v H'
noncomputable def PE (X:Cx) (e:Expr) (t:TE):Prop :=
 ∀ (pins:List (Addr × Obj)) (s:Shared) (σ:St) (H:Hp) (Q:VK),Inv X pins σ H s->t σ H Q->wpAny (model X.prog X.w) X.A (eval e X.env) (EP X pins σ Q) X.xe s
noncomputable def PT (X:Cx) (e:Expr) (t:TT):Prop :=
 ∀ (pins:List (Addr × Obj)) (s:Shared) (σ:St) (H:Hp) (Q:Bool->Hp->Prop),Inv X pins σ H s->t σ H Q->wpAny (model X.prog X.w) X.A (isTrue e X.env (eval e X.env)) (TP X pins σ Q) X.xe s
noncomputable def PW (X:Cx) (e:Expr) (t:TT):Prop :=
 ∀ (whole:Sem Value) (pins:List (Addr × Obj)) (s:Shared) (σ:St) (H:Hp) (Q:Bool->Hp->Prop),Inv X pins σ H s->t σ H Q->wpAny (model X.prog X.w) X.A (isTrue e X.env whole) (TP X pins σ Q) X.xe s
variable {X:Cx}
theorem PW.pt {e:Expr} {t:TT} (h:PW X e t):PT X e t:=h _
noncomputable def PA (X:Cx) (es:List Expr) (t:TA):Prop :=
 ∀ (pos:Pos) (pins:List (Addr × Obj)) (s:Shared) (σ:St) (H:Hp) (Q:List V->Hp->Prop),Inv X pins σ H s->t σ H Q->wpAny (model X.prog X.w) X.A (spliced (backTo pos (starEach es X.env))) (AP X pins σ Q) X.xe s
noncomputable def PS (X:Cx) (st:Stmt) (t:TS):Prop :=
 ∀ (pins:List (Addr × Obj)) (s:Shared) (σ:St) (H:Hp) (D:iV),Inv X pins σ H s->t D σ H->wpAny (model X.prog X.w) X.A (exec st X.env) (SP X pins D) X.xe s
noncomputable def PSs (X:Cx) (st:List Stmt) (t:TS):Prop :=
 ∀ (pins:List (Addr × Obj)) (s:Shared) (σ:St) (H:Hp) (D:iV),Inv X pins σ H s->t D σ H->wpAny (model X.prog X.w) X.A (execs st X.env) (SP X pins D) X.xe s
variable {M:Model} {A:Around} {s:Shared}
theorem thn {α:Type} {t:Sem α} {Q Q':α->Shared->Prop} {E:Value->Shared->Prop} (h:wpAny M A t Q E s) (hQ:∀ a s,Q a s->Q' a s):wpAny M A t Q' E s:=wpAny_mono h hQ λ_ _ x=>x
section
variable {X:Cx}
noncomputable def jl (i:Nat):TE:=λσ H Q=>∃ v,σ[i]?=some (some v)/\Q v H
noncomputable def tC (v:V):TE:=λ_ H Q=>Q v H
variable {x:Str}
theorem Dp {i:Nat} {pos:Pos} (hN:X.N[i]?=some x) (hv:Vis X.env.scope x) (hd:(x == ("__debug__":Str))=false:=by decide) (hcd:(x == ("__classdict__":Str))=false:=by decide):PE X (.Name x pos) (jl i):=by
 intro pins s σ H Q I h
 obtain ⟨v,e,h⟩:=h
 obtain ⟨m,hn,hl⟩:=I.loc
 obtain ⟨u,r,l⟩:=hl i x v hN e hv
 have fin:EP X pins σ Q u s:=⟨v,H,I,r,h⟩
 rcases l with ⟨hk,hm⟩ | ⟨hk,c,hc,hcell⟩
 ·exact wpAny_Name (wpAny_loadName_local I.ok.kind hk hn hm fin) hd
 ·rcases hk with hk | hk
  ·exact wpAny_Name (wpAny_loadName_cell I.ok.kind hk hc hcell fin) hd
  ·exact wpAny_Name (wpAny_loadName_free I.ok.kind hk hc hcell fin hcd) hd
theorem ak {i j pos}:PE X (.Constant (.int i) j pos) (tC (.int i)):=λ_ _ _ H _ I h=>wpAny_Constant_int ⟨.int i,H,I.tok _,⟨_,rfl⟩,h⟩
theorem cu {b j pos}:PE X (.Constant (.bool b) j pos) (tC (.bl b)):=λ_ _ _ H _ I h=>Constant_bool ⟨.bl b,H,I,rfl,h⟩
theorem lJ {j pos}:PE X (.Constant .none j pos) (tC .non):=λ_ _ _ H _ I h=>Constant_none ⟨.non,H,I,rfl,h⟩
theorem aH {x j pos}:PE X (.Constant (.str x) j pos) (tC (.str x)):=λ_ _ _ H _ I h=>Calls.Constant_str ⟨.str x,H,I.tok _,⟨_,rfl⟩,h⟩
noncomputable def Gl (X:Cx) (x:Str):Prop:=X.env.kindOf x=some .globalImplicit
variable {pins:List (Addr × Obj)} {s:Shared} {σ:St} {H:Hp} {u:Value}
theorem qO {E:Value->Shared->Prop} {pos:Pos} {Q:Value->Shared->Prop} (I:Inv X pins σ H s) (hg:Gl X x) (hm:X.mg x=some u) (h:Q u s)
  (hd:(x == ("__debug__":Str))=false:=by decide):wpAny (model X.prog X.w) X.A (eval (.Name x pos) X.env) Q E s :=
 Calls.Name_function_global I.ok.kind hg (Calls.loadGlobal_global (by rw [I.ok.glob];exact I.mod.glob.keeps I.bk) hm h) hd
theorem jD {E:Value->Shared->Prop} {pos:Pos} {Q:Value->Shared->Prop} (I:Inv X pins σ H s) (hg:Gl X x) (hm:X.mg x=none) (hv:bootBuiltins x=some u) (h:Q u s)
  (hn:x≠"__name__":=by decide) (hd:(x == ("__debug__":Str))=false:=by decide):wpAny (model X.prog X.w) X.A (eval (.Name x pos) X.env) Q E s:=by
 obtain ⟨mb,h1,h2⟩:=I.mod.blt
 exact Calls.Name_function_global I.ok.kind hg (Calls.loadGlobal_builtin (by rw [I.ok.glob];exact I.mod.glob.keeps I.bk) hm (by rw [I.ok.blt];exact h1.keeps I.bk) ((h2 x hn).trans hv) h) hd
variable {v:V}
theorem bL {pos:Pos} (hg:Gl X x) (hm:X.mg x=some u) (r:RelV v u) (hd:(x == ("__debug__":Str))=false:=by decide):PE X (.Name x pos) (tC v) :=
 λ_ _ _ H _ I h=>qO I hg hm ⟨v,H,I,r,h⟩ hd
theorem fD {pos:Pos} (hg:Gl X x) (hm:X.mg x=none) (hv:bootBuiltins x=some u) (r:RelV v u) (hn:x≠"__name__":=by decide) (hd:(x == ("__debug__":Str))=false:=by decide):PE X (.Name x pos) (tC v) :=
 λ_ _ _ H _ I h=>jD I hg hm hv ⟨v,H,I,r,h⟩ hn hd
variable {a b:Expr} {ta tb:TE} {pos:Pos}
variable {tA tB':TT} {rest:List Expr}
noncomputable def Eu (t u:TT):TT:=λσ H Q=>t σ H λc H1=>if c=true then u σ H1 Q else Q false H1
noncomputable def tOr (t u:TT):TT:=λσ H Q=>t σ H λc H1=>if c=true then Q true H1 else u σ H1 Q
noncomputable def DH (t:TT):TT:=λσ H Q=>t σ H λc H1=>Q (!c) H1
theorem mP (ha:PT X a tA):PW X (.BoolOp .And [a] pos) tA:=by
 intro wh pins s σ H Q I h
 refine isTrue_and (thn (ha pins s σ H Q I h) λc s1 e=>?_)
 cases c with
 | true=>exact isTrue_and_nil e
 | false=>exact e
theorem fq (ha:PT X a tA):PW X (.BoolOp .Or [a] pos) tA:=by
 intro wh pins s σ H Q I h
 refine isTrue_or (thn (ha pins s σ H Q I h) λc s1 e=>?_)
 cases c with
 | false=>exact isTrue_or_nil e
 | true=>exact e
theorem rp (ha:PT X a tA) (hb:PW X (.BoolOp .And (b::rest) pos) tB'):PW X (.BoolOp .And (a::b::rest) pos) (Eu tA tB'):=by
 intro wh pins s σ H Q I h
 refine isTrue_and (thn (ha pins s σ H _ I h) λc s1 ⟨H1,I1,q1⟩=>?_)
 cases c with
 | true=>exact hb wh pins s1 σ H1 Q I1 q1
 | false=>exact ⟨H1,I1,q1⟩
theorem fF (ha:PT X a tA) (hb:PW X (.BoolOp .Or (b::rest) pos) tB'):PW X (.BoolOp .Or (a::b::rest) pos) (tOr tA tB'):=by
 intro wh pins s σ H Q I h
 refine isTrue_or (thn (ha pins s σ H _ I h) λc s1 ⟨H1,I1,q1⟩=>?_)
 cases c with
 | true=>exact ⟨H1,I1,q1⟩
 | false=>exact hb wh pins s1 σ H1 Q I1 q1
theorem ck (ha:PT X a tA):PT X (.UnaryOp .Not a pos) (DH tA):=by
 intro pins s σ H Q I h
 exact isTrue_not (ha pins s σ H (λc H1=>Q (!c) H1) I h)
noncomputable def Aq (ta tb:TE):TE:=λσ H Q=>ta σ H λx H1=>∃ c,x=.bl c/\if c=true then tb σ H1 Q else Q (.bl false) H1
noncomputable def Ez (ta tb:TE):TE:=λσ H Q=>ta σ H λx H1=>∃ c,x=.bl c/\if c=true then Q (.bl true) H1 else tb σ H1 Q
noncomputable def Cp (ta:TE):TE:=λσ H Q=>ta σ H λx H1=>∃ c,x=.bl c/\Q (.bl (!c)) H1
theorem fT {op} {t:TE} (h:PE X a t):PE X (.BoolOp op [a] pos) t:=λpins s σ H Q I hw=>BoolOp_one (h pins s σ H Q I hw)
theorem gz (ha:PE X a ta) (hb:PE X (.BoolOp .And (b::rest) pos) tb):PE X (.BoolOp .And (a::b::rest) pos) (Aq ta tb):=by
 intro pins s σ H Q I h
 refine BoolOp_and (thn (ha pins s σ H _ I h) λv s1 ⟨x,H1,I1,r1,q1⟩=>?_)
 obtain ⟨c,rfl,q1⟩:=q1
 cases r1
 refine wpAny_truthy_bool ?_
 cases c with
 | true=>exact hb pins s1 σ H1 Q I1 q1
 | false=>exact ⟨.bl false,H1,I1,rfl,q1⟩
theorem wq (ha:PE X a ta) (hb:PE X (.BoolOp .Or (b::rest) pos) tb):PE X (.BoolOp .Or (a::b::rest) pos) (Ez ta tb):=by
 intro pins s σ H Q I h
 refine BoolOp_or (thn (ha pins s σ H _ I h) λv s1 ⟨x,H1,I1,r1,q1⟩=>?_)
 obtain ⟨c,rfl,q1⟩:=q1
 cases r1
 refine wpAny_truthy_bool ?_
 cases c with
 | false=>exact hb pins s1 σ H1 Q I1 q1
 | true=>exact ⟨.bl true,H1,I1,rfl,q1⟩
theorem Do (ha:PE X a ta):PE X (.UnaryOp .Not a pos) (Cp ta):=by
 intro pins s σ H Q I h
 refine UnaryOp_ (thn (ha pins s σ H _ I h) λv s1 ⟨x,H1,I1,r1,q1⟩=>?_)
 obtain ⟨c,rfl,q1⟩:=q1
 cases r1
 exact not_of (wpAny_truthy_bool ⟨.bl (!c),H1,I1,rfl,q1⟩)
noncomputable def tIf (t:TT) (ta tb:TE):TE:=λσ H Q=>t σ H λc H1=>if c=true then ta σ H1 Q else tb σ H1 Q
theorem nW {c:Expr} (hc:PT X c tA) (ha:PE X a ta) (hb:PE X b tb):PE X (.IfExp c a b pos) (tIf tA ta tb):=by
 intro pins s σ H Q I h
 refine wpAny_IfExp (thn (hc pins s σ H _ I h) λd s1 ⟨H1,I1,q1⟩=>?_)
 cases d with
 | true=>exact ha pins s1 σ H1 Q I1 q1
 | false=>exact hb pins s1 σ H1 Q I1 q1
end
noncomputable def SqL (K:PySem.W.Frag) (H:Hp) (a:Addr) (xs:List V):Prop :=
 Rd H a (.lst xs) \/
  ∃ (o:Obj) (its:Array Value) (n:Nat),K.lookup a=some o/\o.cls=.type "list"/\o.dict=none/\o.data=.seq its n/\its.size≤sizeLine/\Vals xs its.toList
noncomputable def SqT (K:PySem.W.Frag) (H:Hp) (a:Addr) (xs:List V):Prop :=
 Rd H a (.tup xs) \/
  ∃ (o:Obj) (its:Array Value) (n:Nat),K.lookup a=some o/\o.cls=.type "tuple"/\o.data=.seq its n/\its.size≤sizeLine/\Vals xs its.toList
noncomputable def EG:Value->Option V
 | .none=>some .non
 | .bool b=>some (.bl b)
 | .int i _=>some (.int i)
 | .str x _=>some (.str x)
 | .bytes b _=>some (.byt b)
 | .float b _=>some (.flt b)
 | .ref a=>some (.ref a)
 | .type n=>some (.ty n)
 | _=>none
theorem RelV.abs {x:V} (r:RelV x u):EG u=some x:=by
 cases x with
 | non=>cases r;rfl
 | bl _=>cases r;rfl
 | int _=>obtain ⟨t,rfl⟩:=r;rfl
 | str _=>obtain ⟨t,rfl⟩:=r;rfl
 | byt _=>obtain ⟨t,rfl⟩:=r;rfl
 | flt _=>obtain ⟨t,rfl⟩:=r;rfl
 | ref _=>cases r;rfl
 | ty _=>cases r;rfl
theorem RelV.inj {x y:V} (r:RelV x u) (q:RelV y u):x=y:=Option.some.inj (r.abs.symm.trans q.abs)
theorem Vals.inj:∀ {xs ys:List V} {us:List Value},Vals xs us->Vals ys us->xs=ys
 | _,_,_,.nil,.nil=>rfl
 | _,_,_,.cons r t,.cons r' t'=>by rw [r.inj r',Vals.inj t t']
section
variable {X:Cx} {pins:List (Addr × Obj)} {σ:St} {H:Hp} {s:Shared} {a:Addr} {xs ys:List V}
variable {K:PySem.W.Frag}
theorem SqL.of (h:H a=some (.lst xs)):SqL K H a xs:=.inl (.inl h)
theorem SqT.of (h:H a=some (.tup xs)):SqT K H a xs:=.inl (.inl h)
theorem Inv.list (I:Inv X pins σ H s) (h:SqL X.K H a xs):∃ its:List Value,Vals xs its/\PlainL s.heap a its.toArray/\xs.length≤sizeLine:=by
 rcases h with h | ⟨o,its,n,hk,hc,hd,hs,hz,r⟩
 ·obtain ⟨z,its,n,r,e⟩:=h.ok I.hok
  exact ⟨its,r,⟨_,n,e,rfl,rfl,rfl⟩,z⟩
 ·refine ⟨its.toList,r,⟨o,n,I.kIn a o hk,hc,hd,by simpa using hs⟩,?_⟩
  have e:=r.length
  simp only [Array.length_toList] at e
  omega
theorem Inv.tuple (I:Inv X pins σ H s) (h:SqT X.K H a xs):∃ its:List Value,Vals xs its/\IsTup s.heap a its.toArray/\xs.length≤sizeLine:=by
 rcases h with h | ⟨o,its,n,hk,hc,hs,hz,r⟩
 ·obtain ⟨z,its,r,p⟩:=h.ok I.hok
  exact ⟨its,r,p,z⟩
 ·refine ⟨its.toList,r,⟨o,I.kIn a o hk,hc,n,by simpa using hs⟩,?_⟩
  have e:=r.length
  simp only [Array.length_toList] at e
  omega
theorem Inv.list_inj (I:Inv X pins σ H s) (h:SqL X.K H a xs) (h':SqL X.K H a ys):xs=ys:=by
 obtain ⟨its,r,⟨o,n,e,_,_,d⟩,_⟩:=I.list h
 obtain ⟨its',r',⟨o',n',e',_,_,d'⟩,_⟩:=I.list h'
 rw [e] at e';cases e'
 rw [d] at d'
 injection d' with d1 _
 have:its=its':=by simpa using congrArg Array.toList d1
 subst this
 exact r.inj r'
theorem Inv.tuple_inj (I:Inv X pins σ H s) (h:SqT X.K H a xs) (h':SqT X.K H a ys):xs=ys:=by
 obtain ⟨its,r,⟨o,e,_,n,d⟩,_⟩:=I.tuple h
 obtain ⟨its',r',⟨o',e',_,n',d'⟩,_⟩:=I.tuple h'
 rw [e] at e';cases e'
 rw [d] at d'
 injection d' with d1 _
 have:its=its':=by simpa using congrArg Array.toList d1
 subst this
 exact r.inj r'
end
noncomputable abbrev Cx.wish (X:Cx) (E:Value->Shared->Prop):Cx:={ X with xe:=E }
noncomputable abbrev Cx.nox (X:Cx):Cx:=X.wish λ_ _=>False
theorem Cx.Ok.wish (ok:X.Ok) (E:Value->Shared->Prop):(X.wish E).Ok :=
 ⟨ok.mod,ok.kind,ok.glob,ok.blt,ok.above,ok.inj,ok.has,ok.cab,ok.hd,ok.frames,ok.stk,ok.exf,ok.bs,ok.bsz,ok.noex,ok.exfs,ok.funs,ok.frf⟩
theorem Cx.Ok.unwish {E:Value->Shared->Prop} (ok:(X.wish E).Ok):X.Ok :=
 ⟨ok.mod,ok.kind,ok.glob,ok.blt,ok.above,ok.inj,ok.has,ok.cab,ok.hd,ok.frames,ok.stk,ok.exf,ok.bs,ok.bsz,ok.noex,ok.exfs,ok.funs,ok.frf⟩
section
variable {X:Cx} {pins:List (Addr × Obj)} {σ:St} {H:Hp} {s:Shared} {E:Value->Shared->Prop}
theorem Inv.wish (I:Inv X pins σ H s) (E:Value->Shared->Prop):Inv (X.wish E) pins σ H s:=⟨I.ok.wish E,I.os,I.bare,I.base,I.loc,I.cell,I.free,I.freeC,I.pin,I.hok,I.len⟩
theorem Inv.unwish (I:Inv (X.wish E) pins σ H s):Inv X pins σ H s:=⟨I.ok.unwish,I.os,I.bare,I.base,I.loc,I.cell,I.free,I.freeC,I.pin,I.hok,I.len⟩
theorem SP.unwish {D:iV} {f:Flow} {s':Shared} (h:SP (X.wish E) pins D f s'):SP X pins D f s':=by
 cases f with
 | next=>obtain ⟨σ',H',I,q⟩:=h;exact ⟨σ',H',I.unwish,q⟩
 | brk=>obtain ⟨σ',H',I,q⟩:=h;exact ⟨σ',H',I.unwish,q⟩
 | cont=>obtain ⟨σ',H',I,q⟩:=h;exact ⟨σ',H',I.unwish,q⟩
 | ret u=>obtain ⟨v,σ',H',I,r,q⟩:=h;exact ⟨v,σ',H',I.unwish,r,q⟩
theorem PSs.nox {st:List Stmt} {t:TS} (h:PSs X.nox st t):PSs X st t:=λpins s σ H D I hw =>
 wpAny_mono (h pins s σ H D (I.wish _) hw) (λ_ _ q=>q.unwish) λ_ _ z=>False.elim z
end
section
variable {X:Cx} {st:Stmt} {rest:List Stmt} {t u:TS} {e:Expr} {te:TE} {pos:Pos}
noncomputable def wK:TS:=λD σ H=>D.nx σ H
noncomputable def kY (t u:TS):TS:=λD σ H=>t { D with nx:=u D } σ H
theorem aR:PSs X [] wK:=λ_ _ σ H _ I h=>wpAny_execs_nil ⟨σ,H,I,h⟩
theorem aj (h1:PS X st t) (h2:PSs X rest u):PSs X (st::rest) (kY t u):=by
 intro pins s σ H D I h
 refine wpAny_execs_cons (thn (h1 pins s σ H { D with nx:=u D } I h) λf s1 q=>?_)
 cases f with
 | next =>
  obtain ⟨σ',H',I',q⟩:=q
  exact h2 pins s1 σ' H' D I' q
 | ret v=>exact q
 | brk=>exact q
 | cont=>exact q
theorem au (h1:PS X st t):PSs X [st] t:=by
 intro pins s σ H D I h
 refine wpAny_execs_cons (thn (h1 pins s σ H D I h) λf s1 q=>?_)
 cases f with
 | next=>exact wpAny_execs_nil q
 | ret v=>exact q
 | brk=>exact q
 | cont=>exact q
noncomputable def Cn:TS:=λD σ H=>D.ct σ H
theorem tV:PS X (.Continue pos) Cn:=λ_ _ σ H _ I h=>wpAny_Continue ⟨σ,H,I,h⟩
theorem Inv.quiet {pins:List (Addr × Obj)} {σ:St} {H:Hp} {s:Shared} (I:Inv X pins σ H s):interactive X.env=false:=by simp [interactive,I.ok.kind]
noncomputable def mw (te:TE):TS:=λD σ H=>te σ H λ_ H1=>D.nx σ H1
theorem bE (he:PE X e te) (hs:swapsWith e none pos.line X.env=pure false:=by rfl):PS X (.Expr e pos) (mw te):=by
 intro pins s σ H D I h
 exact wpAny_Expr_any (thn (he pins s σ H _ I h) λv s1 ⟨x,H1,I1,r1,q1⟩=>⟨σ,H1,I1,q1⟩) I.quiet hs
noncomputable def DI (te:TE):TS:=λD σ H=>te σ H D.rt
theorem aI (he:PE X e te):PS X (.Return (some e) pos) (DI te):=by
 intro pins s σ H D I h
 exact wpAny_Return_some (thn (he pins s σ H _ I h) λv s1 ⟨x,H1,I1,r1,q1⟩=>⟨x,σ,H1,I1,r1,q1⟩)
noncomputable def BV (c:TT) (t u:TS):TS:=λD σ H=>c σ H λb H1=>if b=true then t D σ H1 else u D σ H1
theorem bq {c:Expr} {a b:List Stmt} {tc:TT} (hc:PT X c tc) (ha:PSs X a t) (hb:PSs X b u):PS X (.If c a b pos) (BV tc t u):=by
 intro pins s σ H D I h
 refine wpAny_If (thn (hc pins s σ H _ I h) λd s1 ⟨H1,I1,q1⟩=>?_)
 cases d with
 | true=>exact ha pins s1 σ H1 D I1 q1
 | false=>exact hb pins s1 σ H1 D I1 q1
noncomputable def DG:TS:=λ_ _ _=>False
theorem iP:PS X st DG:=λ_ _ _ _ _ _ h=>h.elim
end
noncomputable abbrev TG:=V->St->Hp->(St->Hp->Prop)->Prop
noncomputable abbrev TGs:=List V->St->Hp->(St->Hp->Prop)->Prop
noncomputable def PG (X:Cx) (target:Expr) (t:TG):Prop :=
 ∀ (pins:List (Addr × Obj)) (s:Shared) (σ:St) (H:Hp) (v:V) (u:Value) (Q:St->Hp->Prop),Inv X pins σ H s->RelV v u->t v σ H Q ->
  wpAny (model X.prog X.w) X.A (assign target X.env u) (λ_ s'=>∃ σ' H',Inv X pins σ' H' s'/\Q σ' H') X.xe s
noncomputable def PGs (X:Cx) (ts:List Expr) (t:TGs):Prop :=
 ∀ (pins:List (Addr × Obj)) (s:Shared) (σ:St) (H:Hp) (vs:List V) (us:List Value) (Q:St->Hp->Prop),Inv X pins σ H s->Vals vs us->t vs σ H Q ->
  wpAny (model X.prog X.w) X.A (assignInOrder ((assignEach ts X.env).map (·.2)) us) (λ_ s'=>∃ σ' H',Inv X pins σ' H' s'/\Q σ' H') X.xe s
noncomputable abbrev yt:=V->V->V->Hp->(Hp->Prop)->Prop
noncomputable def Ct (X:Cx) (t:yt):Prop :=
 ∀ (pins:List (Addr × Obj)) (s:Shared) (σ:St) (H:Hp) (o i v:V) (ov iv u:Value) (Q:Hp->Prop),Inv X pins σ H s->RelV o ov->RelV i iv->RelV v u->t o i v H Q ->
  wpAny (model X.prog X.w) X.A (setItem ov iv u) (λ_ s'=>∃ H',Inv X pins σ H' s'/\Q H') X.xe s
noncomputable abbrev TIp:=V->V->Hp->VK->Prop
noncomputable def PIp (X:Cx) (op:Operator) (t:TIp):Prop :=
 ∀ (pins:List (Addr × Obj)) (s:Shared) (σ:St) (H:Hp) (x y:V) (v u:Value) (Q:VK),Inv X pins σ H s->RelV x v->RelV y u->t x y H Q ->
  wpAny (model X.prog X.w) X.A (inplaceOp op v u) (EP X pins σ Q) X.xe s
section
variable {X:Cx} {pos:Pos}
noncomputable def cU (i:Nat):TG:=λv σ H Q=>Q (σ.set i (some v)) H
variable {i:Nat} {x:Str}
theorem aL (hN:X.N.Nodup) (hi:X.N[i]?=some x) (hx:Loc X.env.scope x) (hf:X.fn x=true\/X.env.scope.names.lookup x=some .local:=by first | exact .inl rfl | exact .inr rfl | assumption):PG X (.Name x pos) (cU i):=by
 intro pins s σ H v u Q I r h
 exact wpAny_assign_Name (jK I hN hi hx r (λs' I'=>⟨_,H,I',h⟩) hf)
noncomputable def yZ:TGs:=λvs σ H Q=>vs=[]/\Q σ H
noncomputable def jZ (t:TG) (u:TGs):TGs:=λvs σ H Q=>∃ v r,vs=v::r/\t v σ H λσ' H'=>u r σ' H' Q
theorem cP:PGs X [] yZ:=by
 intro pins s σ H vs us Q I r h
 obtain ⟨e,h⟩:=h
 subst e
 cases r
 exact assignInOrder_nil ⟨σ,H,I,h⟩
variable {e:Expr} {es:List Expr}
theorem aZ {t:TG} {u:TGs} (h1:PG X e t) (h2:PGs X es u)
  (hs:(assignEach (e::es) X.env).map (·.2)=assign e X.env::(assignEach es X.env).map (·.2):=by rfl):PGs X (e::es) (jZ t u):=by
 intro pins s σ H vs us Q I r h
 obtain ⟨v,vr,e1,h⟩:=h
 subst e1
 cases r with
 | cons r rr =>
  rw [hs]
  refine assignInOrder_cons (thn (h1 pins s σ H _ _ _ I r h) λ_ s1 ⟨σ1,H1,I1,q1⟩=>?_)
  exact h2 pins s1 σ1 H1 _ _ Q I1 rr q1
noncomputable def xp (K:PySem.W.Frag) (n:Nat) (t:TGs):TG:=λv σ H Q=>∃ a xs,v=.ref a/\SqT K H a xs/\xs.length=n/\t xs σ H Q
theorem eE {k:Nat} {t:TGs} {n:Nat} (hc:X.calm=true) (h:PGs X es t)
  (hn:(assignEach es X.env).length=n:=by rfl) (hst:(assignEach es X.env).findIdx? (·.1)=none:=by rfl):PG X (.Tuple es k pos) (xp X.K n t):=by
 intro pins s σ H v u Q I r hw
 obtain ⟨a,xs,e1,hq,hl,hw⟩:=hw
 subst e1
 cases r
 obtain ⟨its,rv,ht,hz⟩:=I.tuple hq
 refine assign_Tuple_tuple (I.ok.hd hc) ht (by simp [hn,← hl,rv.length]) hst λh' hx=>?_
 have I1:Inv X pins σ H { s with heap:=h' }:=I.kept (t':=s.toks) λb o e=>hx b o (Nat.ne_of_lt (Heap.lt_size e)) e
 exact h pins _ σ H xs _ Q I1 (by simpa using rv) hw
noncomputable def EL (to ti:TE) (t:yt):TG:=λv σ H Q=>to σ H λo H1=>ti σ H1 λi H2=>t o i v H2 λH3=>Q σ H3
variable {o:Expr} {to ti:TE}
theorem zR {i:Expr} {t:yt} (ho:PE X o to) (hi:PE X i ti) (hs:Ct X t)
  (ha:∀ v,assign (.Subscript o i pos) X.env v=(do
   let ov ← holding [v] (eval o X.env)
   let iv ← holding [v,ov] (eval i X.env)
   standAt pos
   holding [v,ov,iv] (setItem ov iv v)
   release [v,ov,iv] []):=by intro _;rfl):PG X (.Subscript o i pos) (EL to ti t):=by
 intro pins s σ H v u Q I r h
 rw [ha]
 refine wpAny_bind (wpAny_holding (thn (ho pins s σ H _ I h) λov s1 ⟨x,H1,I1,r1,q1⟩=>?_))
 refine wpAny_bind (wpAny_holding (thn (hi pins s1 σ H1 _ I1 q1) λiv s2 ⟨y,H2,I2,r2,q2⟩=>?_))
 refine wpAny_bind (wpAny_standAt (wpAny_bind (wpAny_holding (thn (hs pins s2 σ H2 x y v ov iv u _ I2 r1 r2 r q2) λ_ s3 ⟨H3,I3,q3⟩=>?_))))
 exact wpAny_release ⟨σ,H3,I3,q3⟩
noncomputable def o4 (te:TE) (g:TG):TS:=λD σ H=>te σ H λx H1=>g x σ H1 D.nx
variable {te:TE}
theorem fE {tg:Expr} {g:TG} (he:PE X e te) (hg:PG X tg g) (hs:swapsWithSole [tg] e pos.line X.env=pure false:=by rfl) (hw:swappedStores [tg] e X.env=pure none:=by rfl)
  (h1:(assignEach [tg] X.env).map (·.2)=[assign tg X.env]:=by rfl):PS X (.Assign [tg] e pos) (o4 te g):=by
 intro pins s σ H D I h
 refine wpAny_Assign_stores (thn (he pins s σ H _ I h) λv s1 ⟨x,H1,I1,r1,q1⟩=>?_) hs hw
 rw [h1]
 exact thn (hg pins s1 σ H1 x v _ I1 r1 q1) λ_ s2 q=>q
variable {pos':Pos}
theorem bj (hN:X.N.Nodup) (hi:X.N[i]?=some x) (hx:Loc X.env.scope x) (he:PE X e te) (hs:swapsWith e (some (.Name x pos')) pos.line X.env=pure false:=by rfl) (hf:X.fn x=true\/X.env.scope.names.lookup x=some .local:=by first | exact .inl rfl | exact .inr rfl | assumption) :
  PS X (.Assign [.Name x pos'] e pos) (o4 te (cU i)):=by
 intro pins s σ H D I h
 refine wpAny_Assign_Name (thn (he pins s σ H _ I h) λv s1 ⟨y,H1,I1,r1,q1⟩=>?_) hs
 exact jK I1 hN hi hx r1 (λs2 I2=>⟨_,H1,I2,q1⟩) hf
noncomputable def E8 (i j:Nat) (ta:TA):TS:=λD σ H=>ta σ H λvs H1=>∃ v w,vs=[v,w]/\D.nx ((σ.set i (some v)).set j (some w)) H1
theorem uZ {j:Nat} {y:Str} {a b:Expr} {ta:TA} {px py pt:Pos} {kt k2 pt2} (hc:X.calm=true) (hN:X.N.Nodup) (hi:X.N[i]?=some x) (hj:X.N[j]?=some y) (hij:i≠j)
  (hx:X.env.scope.names.lookup x=some .local) (hy:X.env.scope.names.lookup y=some .local) (ha:PA X [a,b] ta)
  (hw:swappedStores [.Tuple [.Name x px,.Name y py] kt pt] (.Tuple [a,b] k2 pt2) X.env=pure (some [x,y]))
  (hs:swapsWithSole [.Tuple [.Name x px,.Name y py] kt pt] (.Tuple [a,b] k2 pt2) pos.line X.env=pure false:=by rfl) :
  PS X (.Assign [.Tuple [.Name x px,.Name y py] kt pt] (.Tuple [a,b] k2 pt2) pos) (E8 i j ta):=by
 intro pins s σ H D I h
 rw [exec_Assign_arm]
 refine wpAny_bind (wpAny_standAt ?_)
 rw [hs]
 refine wpAny_bind (wpAny_pure ?_)
 rw [if_neg (by decide)]
 refine wpAny_bind (Tuple_ (thn (ha _ pins s σ H _ I h) λus s1 ⟨vs,H1,I1,r1,q1⟩=>?_))
 obtain ⟨v,w,e1,q1⟩:=q1
 subst e1
 obtain ⟨u1,u2,rfl,rv,rw'⟩:∃ u1 u2,us=[u1,u2]/\RelV v u1/\RelV w u2:=by
  cases r1 with
  | cons p q =>
   cases q with
   | cons p' q' =>
    cases q'
    exact ⟨_,_,rfl,p,p'⟩
 refine wpAny_newObj_type ?_ (by show 2≤sizeLine;decide)
 have I2:Inv X pins σ H1 { s1 with heap:=s1.heap.push { cls:=.type "tuple",data:=.seq [u1,u2].toArray } }:=I1.kept (t':=s1.toks) λb o e=>Heap.get?_push_of_some _ e
 rw [hw]
 refine wpAny_bind (wpAny_pure ?_)
 show wpAny (model X.prog X.w) X.A (do rule "assign.swapped-stores";let items ← unpackItems (.ref s1.heap.objs.size) 2 none;assignInOrder [λv=>bindName X.env y v,λv=>bindName X.env x v] items.reverse;pure Flow.next) _ _ _
 refine wpAny_bind (wpAny_rule (wpAny_bind (unpackItems_tuple (items:=#[u1,u2]) (I.ok.hd hc) (IsTup.new s1.heap _) λh' hx'=>?_)))
 have I3:=I2.kept (h':=h') (t':=s1.toks) λb o e=>hx' b o (Nat.ne_of_lt (Heap.lt_size e)) e
 show wpAny _ _ (assignInOrder [λv=>bindName X.env y v,λv=>bindName X.env x v] [u2,u1] >>= λ_=>pure Flow.next) _ _ _
 refine wpAny_bind (assignInOrder_cons (wpAny_bindName (jK I3 hN hj (.inl hy) rw' (λs2 I4=>?_) (.inr hy))))
 refine assignInOrder_cons (wpAny_bindName (jK I4 hN hi (.inl hx) rv (λs3 I5=>assignInOrder_nil (wpAny_pure ?_)) (.inr hx)))
 rw [List.set_comm _ _ (Ne.symm hij)] at I5
 exact ⟨_,H1,I5,q1⟩
noncomputable def E6 (i:Nat) (te:TE) (ti:TIp):TS:=λD σ H=>∃ x,σ[i]?=some (some x)/\te σ H λy H1=>ti x y H1 λz H2=>D.nx (σ.set i (some z)) H2
variable {op:Operator}
theorem rn {ti:TIp} (hN:X.N.Nodup) (hi:X.N[i]?=some x) (hx:Loc X.env.scope x) (he:PE X e te) (ho:PIp X op ti) (hf:X.fn x=true\/X.env.scope.names.lookup x=some .local:=by first | exact .inl rfl | exact .inr rfl | assumption) :
  PS X (.AugAssign (.Name x pos') op e pos) (E6 i te ti):=by
 intro pins s σ H D I h
 obtain ⟨v,e1,h⟩:=h
 obtain ⟨m,hn,hl⟩:=I.loc
 have vis:Vis X.env.scope x:=by rcases hx with k | k;exact .inl k;exact .inr (.inl k)
 obtain ⟨u,r,l⟩:=hl i x v hi e1 vis
 refine wpAny_AugAssign_Name ?_
 have go:wpAny (model X.prog X.w) X.A (eval e X.env) (λw s₂=>wpAny (model X.prog X.w) X.A (inplaceOp op u w) (λr s₃=>wpAny (model X.prog X.w) X.A (storeName X.env x r) (λ_=>SP X pins D .next) X.xe s₃) X.xe s₂) X.xe s:=by
  refine thn (he pins s σ H _ I h) λw s1 ⟨y,H1,I1,r1,q1⟩=>?_
  refine thn (ho pins s1 σ H1 v y u w _ I1 r r1 q1) λz s2 ⟨zv,H2,I2,r2,q2⟩=>?_
  exact jK I2 hN hi hx r2 (λs3 I3=>⟨_,H2,I3,q2⟩) hf
 rcases l with ⟨hk,hm⟩ | ⟨hk,c,hc,hcell⟩
 ·exact wpAny_loadName_local I.ok.kind hk hn hm go
 ·rcases hk with hk | hk
  ·exact wpAny_loadName_cell I.ok.kind hk hc hcell go
  ·rcases hx with k | k
   ·have:X.env.scope.names.lookup x=some .free:=hk
    rw [k] at this;cases this
   ·have:X.env.scope.names.lookup x=some .free:=hk
    rw [k] at this;cases this
noncomputable def Ew (to ti te:TE) (tget:V->V->Hp->VK->Prop) (tip:TIp) (tset:yt):TS:=λD σ H=>to σ H λo H1=>ti σ H1 λi H2=>tget o i H2 λx H3=>te σ H3 λy H4=>tip x y H4 λz H5=>tset o i z H5 λH6=>D.nx σ H6
noncomputable def DR (X:Cx) (t:V->V->Hp->VK->Prop):Prop :=
 ∀ (pins:List (Addr × Obj)) (s:Shared) (σ:St) (H:Hp) (o i:V) (ov iv:Value) (Q:VK),Inv X pins σ H s->RelV o ov->RelV i iv->t o i H Q ->
  wpAny (model X.prog X.w) X.A (getItem ov iv) (EP X pins σ Q) X.xe s
theorem wx {i:Expr} {tget:V->V->Hp->VK->Prop} {tip:TIp} {tset:yt} {tpos:Pos} (ho:PE X o to) (hi:PE X i ti) (hg:DR X tget) (he:PE X e te) (hp:PIp X op tip) (hs:Ct X tset)
  (ha:∀ ov iv new,augStore i ov iv new=(do holding [new,ov,iv] (setItem ov iv new);release [new,ov,iv] [];pure .next):=by intros;rfl):PS X (.AugAssign (.Subscript o i tpos) op e pos) (Ew to ti te tget tip tset):=by
 intro pins s σ H D I h
 refine wpAny_AugAssign_SubscriptAny (thn (ho pins s σ H _ I h) λov s1 ⟨x1,H1,I1,r1,q1⟩=>?_) ha
 refine thn (hi pins s1 σ H1 _ I1 q1) λiv s2 ⟨x2,H2,I2,r2,q2⟩=>?_
 refine thn (hg pins s2 σ H2 x1 x2 ov iv _ I2 r1 r2 q2) λold s3 ⟨x3,H3,I3,r3,q3⟩=>?_
 refine thn (he pins s3 σ H3 _ I3 q3) λv s4 ⟨x4,H4,I4,r4,q4⟩=>?_
 refine thn (hp pins s4 σ H4 x3 x4 old v _ I4 r3 r4 q4) λnew s5 ⟨x5,H5,I5,r5,q5⟩=>?_
 exact thn (hs pins s5 σ H5 x1 x2 x5 ov iv new _ I5 r1 r2 r5 q5) λ_ s6 ⟨H6,I6,q6⟩=>⟨σ,H6,I6,q6⟩
noncomputable def ipI (f:Int->Int->Int):TIp:=λx y H Q=>∃ i j,x=.int i/\y=.int j/\Q (.int (f i j)) H
theorem nC:PIp X .Add (ipI λi j=>i+j):=by
 intro pins s σ H x y v u Q I r1 r2 h
 obtain ⟨i,j,e1,e2,q⟩:=h
 subst e1;subst e2
 obtain ⟨t,rfl⟩:=r1
 obtain ⟨t',rfl⟩:=r2
 exact iadd_int ⟨.int _,H,I.tok _,⟨_,rfl⟩,q⟩
theorem C4:PIp X .Sub (ipI λi j=>i - j):=by
 intro pins s σ H x y v u Q I r1 r2 h
 obtain ⟨i,j,e1,e2,q⟩:=h
 subst e1;subst e2
 obtain ⟨t,rfl⟩:=r1
 obtain ⟨t',rfl⟩:=r2
 exact isub_int ⟨.int _,H,I.tok _,⟨_,rfl⟩,q⟩
noncomputable def Aw (c:TT) (tb:TS):TS:=λD σ H=>∃ W:Nat->St->Hp->Prop,(∃ m,W m σ H)/\∀ m σ H,W m σ H ->
 c σ H λb H1=>if b=true then ∃ N:St->Hp->Prop,(∀ σ' H',N σ' H'->∃ m',m' < m/\W m' σ' H')/\tb { D with nx:=N,ct:=N,bk:=D.nx } σ H1 else D.nx σ H1
theorem tW {c:Expr} {body:List Stmt} {tc:TT} {tb:TS} (hp:PassesOwn (model X.prog X.w) X.A X.env X.xe) (hc:PT X c tc) (hb:PSs X body tb):PS X (.While c body [] pos) (Aw tc tb):=by
 intro pins s σ H D I h
 obtain ⟨W,⟨m0,w0⟩,turn⟩:=h
 refine wpAny_While (codeAny_whileLoop (λn s'=>∃ σ' H',Inv X pins σ' H' s'/\W n σ' H') ?_ m0 ⟨σ,H,I,w0⟩)
 rintro n s1 ⟨σ1,H1,I1,w1⟩
 refine wpAny_passesOwn hp (thn (hc pins s1 σ1 H1 _ I1 (turn n σ1 H1 w1)) λb s2 ⟨H2,I2,q2⟩=>?_)
 cases b with
 | true =>
  obtain ⟨N,hN,q2⟩:=q2
  rw [if_pos rfl]
  refine wpAny_passesOwn hp (thn (hb pins s2 σ1 H2 _ I2 q2) λf s3 q3=>?_)
  cases f with
  | next =>
   obtain ⟨σ3,H3,I3,n3⟩:=q3
   obtain ⟨m',hm,w3⟩:=hN σ3 H3 n3
   exact ⟨m',hm,σ3,H3,I3,w3⟩
  | cont =>
   obtain ⟨σ3,H3,I3,n3⟩:=q3
   obtain ⟨m',hm,w3⟩:=hN σ3 H3 n3
   exact ⟨m',hm,σ3,H3,I3,w3⟩
  | brk=>exact q3
  | ret v=>exact q3
 | false =>
  rw [if_neg Bool.false_ne_true]
  exact wpAny_execs_nil ⟨σ1,H2,I2,q2⟩
end
structure It where
 go:Nat->Hp->Prop
 yld:Nat->Hp->V->Hp->Prop
 stop:Nat->Hp->Prop
noncomputable def oI (X:Cx) (pins:List (Addr × Obj)) (H:Hp) (b:Addr):Prop :=
 H b=none/\b≠X.env.locals/\b ∉ X.fs/\(b ∈ X.ex\/X.s₀.heap.objs.size≤b)/\(∀ x c,X.env.cells.lookup x=some c->c≠b)/\∀ p ∈ X.pn++pins,p.1≠b
variable {σ:St}
theorem Inv.fpOk {pins:List (Addr × Obj)} {H':Hp} (I:Inv X pins σ H s) (hb:s.heap.objs.size≤b) (hn:H' b=none):oI X pins H' b:=by
 refine ⟨hn,Nat.ne_of_gt (Nat.lt_of_lt_of_le I.lt hb),I.nofs hb,.inr (Nat.le_trans I.sz hb),λx c e z=>?_,λp hp z=>?_⟩
 ·obtain ⟨v,q⟩:=I.cell x c e
  exact absurd (Nat.lt_of_lt_of_le q.lt (by rw [z];exact hb)) (Nat.lt_irrefl _)
 ·exact absurd (Nat.lt_of_lt_of_le (Heap.lt_size (I.pin p hp).1) (by rw [z];exact hb)) (Nat.lt_irrefl _)
structure mx (P:Program) (w:World) (K:PySem.W.Frag) (tg:Expr) (J:It) (fp:List Addr) (it:Addr) (tn:Nat->Heap->Prop):Prop where
 mem:it ∈ fp
 obj:∀ i h,tn i h->∀ b ∈ fp,∃ o,h.get? b=some o/\∀ v,o.data≠.cell v
 keep:∀ i h h',tn i h->(∀ b ∈ fp,∀ o,h.get? b=some o->h'.get? b=some o)->tn i h'
 item:∀ (X:Cx),X.prog=P->X.w=w->X.K=K->X.calm=true->∀ (i:Nat) (pins:List (Addr × Obj)) (s:Shared) (σ:St) (H:Hp) (E:Value->Shared->Prop),Inv X pins σ H s->(∀ b ∈ fp,oI X pins H b)->tn i s.heap->J.go i H ->
  wpAny (model P w) X.A (pyNext (.ref it)) (λr s1=>∃ u,r=some u /\
   wpAny (model P w) X.A (letOwnedTupleGo tg (.ref it) u) (λ_ s2=>∃ x H',Inv X pins σ H' s2/\RelV x u/\J.yld i H x H'/\tn (i+1) s2.heap/\∀ b ∈ fp,H' b=none) E s1) E s
 done:∀ (X:Cx),X.prog=P->X.w=w->X.K=K->X.calm=true->∀ (i:Nat) (pins:List (Addr × Obj)) (s:Shared) (σ:St) (H:Hp) (E:Value->Shared->Prop),Inv X pins σ H s->(∀ b ∈ fp,oI X pins H b)->tn i s.heap->J.stop i H ->
  wpAny (model P w) X.A (pyNext (.ref it)) (λr s1=>r=none/\Inv X pins σ H s1) E s
 self:∀ (A:Around) (i:Nat) (s:Shared) (Q:Value->Shared->Prop) (E:Value->Shared->Prop),tn i s.heap->Q (.ref it) s->wpAny (model P w) A (pyIter (.ref it)) Q E s
noncomputable abbrev TI:=St->Hp->(It->Hp->Prop)->Prop
noncomputable def PIE (X:Cx) (pins:List (Addr × Obj)) (σ:St) (tg:Expr) (R:It->Hp->Prop) (itv:Value) (s2:Shared):Prop :=
 ∃ (it:Addr) (fp:List Addr) (tn:Nat->Heap->Prop) (J:It) (H':Hp),itv=.ref it/\Inv X pins σ H' s2/\mx X.prog X.w X.K tg J fp it tn/\tn 0 s2.heap/\(∀ b ∈ fp,oI X pins H' b)/\R J H'
noncomputable def PI (X:Cx) (tg iter:Expr) (wi:TI):Prop :=
 ∀ (pins:List (Addr × Obj)) (s:Shared) (σ:St) (H:Hp) (R:It->Hp->Prop),Inv X pins σ H s->wi σ H R ->
  wpAny (model X.prog X.w) X.A (eval iter X.env) (λv s1=>wpAny (model X.prog X.w) X.A (pyIter v) (PIE X pins σ tg R) X.xe s1) X.xe s
variable {tg:Expr}
theorem sT {E:Value->Shared->Prop} {it:Addr} {n:String} {vs:Array Value} {Q:Unit->Shared->Prop} (ho:s.heap.get? it=some o) (hc:o.cls=.type n) (hd:o.data=.fields vs)
  (hn:["enumerate","zip","dict_itemiterator","dict_reverseitemiterator","odict_iterator","itertools.zip_longest","itertools.pairwise"].contains n=false) (hQ:Q () s):wpAny M A (letOwnedTupleGo tg (.ref it) u) Q E s:=by
 unfold letOwnedTupleGo
 cases tg <;> first
  | exact wpAny_pure hQ
  | (cases u <;> first
    | exact wpAny_pure hQ
    | (refine wpAny_bind (wpAny_load ho ?_)
       rw [hc,hd]
       show wpAny M A (if (["enumerate","zip","dict_itemiterator","dict_reverseitemiterator","odict_iterator","itertools.zip_longest","itertools.pairwise"].contains n && vs[0]? == some (rawInt _))=true then _ else _) Q E s
       rw [if_neg (by intro h;rw [hn,Bool.false_and] at h;cases h)]
       exact wpAny_pure hQ))
noncomputable def Itl (K:PySem.W.Frag) (a:Addr):It :=
 ⟨λi H=>∃ xs x,SqL K H a xs/\xs[i]?=some x,λi H x H'=>H'=H/\∀ xs,SqL K H a xs->xs[i]?=some x,λi H=>∃ xs,SqL K H a xs/\xs.length≤i⟩
noncomputable def Itt (K:PySem.W.Frag) (a:Addr):It :=
 ⟨λi H=>∃ xs x,SqT K H a xs/\xs[i]?=some x,λi H x H'=>H'=H/\∀ xs,SqT K H a xs->xs[i]?=some x,λi H=>∃ xs,SqT K H a xs/\xs.length≤i⟩
noncomputable def Itr (lo:Int) (n:Nat):It:=⟨λi _=>i < n,λi H x H'=>H'=H/\x=.int (lo+i),λi _=>n≤i⟩
variable {K:PySem.W.Frag}
theorem x8 (a it:Addr):mx P w K tg (Itl K a) [it] it (λi h=>h.IsListIter it a i) where
 mem:=by simp
 obj:=λi h st b hb=>by
  have e:b=it:=by simpa using hb
  subst e
  obtain ⟨o,e,c,d⟩:=st
  exact ⟨o,e,λv z=>by rw [d] at z;cases z⟩
 keep:=λi h h' st k=>st.at λo e=>k it (by simp) o e
 item:=by
  intro X hP hw hK hc i pins s σ H E I hf st hg
  subst hP hw hK
  obtain ⟨xs,x,hq,hx⟩:=hg
  obtain ⟨its,rv,p,hz⟩:=I.list hq
  obtain ⟨u,hu,ru⟩:=rv.get hx
  obtain ⟨f0,f1,f2,f3,f4,f5⟩:=hf it (by simp)
  refine wpAny_pyNext_list_item st p.isList (x:=u) (by simpa using hu) λh' st' sb=>?_
  have I1:Inv X pins σ H { s with heap:=h' }:=I.turned (t':=s.toks) (λb o hb e=>(sb.2 b hb).trans e) f0 f1 f3 f4 f5
  obtain ⟨o,e,c,d⟩:=id st'
  exact ⟨u,rfl,sT (s:={ s with heap:=h' }) e c d (by decide) ⟨x,H,I1,ru,⟨rfl,λys hy=>by rw [I.list_inj hy hq];exact hx⟩,st',λb hb=>(hf b hb).1⟩⟩
 done:=by
  intro X hP hw hK hc i pins s σ H E I hf st hg
  subst hP hw hK
  obtain ⟨xs,hq,hx⟩:=hg
  obtain ⟨its,rv,p,hz⟩:=I.list hq
  obtain ⟨f0,f1,f2,f3,f4,f5⟩:=hf it (by simp)
  have hl:=rv.length
  exact wpAny_pyNext_list_end (I.ok.hd hc) st p.isList (by simp;omega) λh' eb=>⟨rfl,I.turned (t':=s.toks) (λb o hb e=>eb b o hb e) f0 f1 f3 f4 f5⟩
 self:=λ_ _ _ _ _ st h=>wpAny_pyIter_listiter st h
theorem vw (a it:Addr):mx P w K tg (Itt K a) [it] it (λi h=>h.IsTupleIter it a i) where
 mem:=by simp
 obj:=λi h st b hb=>by
  have e:b=it:=by simpa using hb
  subst e
  obtain ⟨o,e,c,d⟩:=st
  exact ⟨o,e,λv z=>by rw [d] at z;cases z⟩
 keep:=λi h h' st k=>st.at λo e=>k it (by simp) o e
 item:=by
  intro X hP hw hK hc i pins s σ H E I hf st hg
  subst hP hw hK
  obtain ⟨xs,x,hq,hx⟩:=hg
  obtain ⟨its,rv,p,hz⟩:=I.tuple hq
  obtain ⟨u,hu,ru⟩:=rv.get hx
  obtain ⟨f0,f1,f2,f3,f4,f5⟩:=hf it (by simp)
  refine wpAny_pyNext_tuple_item st (show s.heap.IsTuple a its.toArray from p) (x:=u) (by simpa using hu) λh' st' sb=>?_
  have I1:Inv X pins σ H { s with heap:=h' }:=I.turned (t':=s.toks) (λb o hb e=>(sb.2 b hb).trans e) f0 f1 f3 f4 f5
  obtain ⟨o,e,c,d⟩:=id st'
  exact ⟨u,rfl,sT (s:={ s with heap:=h' }) e c d (by decide) ⟨x,H,I1,ru,⟨rfl,λys hy=>by rw [I.tuple_inj hy hq];exact hx⟩,st',λb hb=>(hf b hb).1⟩⟩
 done:=by
  intro X hP hw hK hc i pins s σ H E I hf st hg
  subst hP hw hK
  obtain ⟨xs,hq,hx⟩:=hg
  obtain ⟨its,rv,p,hz⟩:=I.tuple hq
  obtain ⟨f0,f1,f2,f3,f4,f5⟩:=hf it (by simp)
  have hl:=rv.length
  exact wpAny_pyNext_tuple_end (I.ok.hd hc) st (show s.heap.IsTuple a its.toArray from p) (by simp;omega) λh' eb=>⟨rfl,I.turned (t':=s.toks) (λb o hb e=>eb b o hb e) f0 f1 f3 f4 f5⟩
 self:=λ_ _ _ _ _ st h=>wpAny_pyIter_tupleiter st h
theorem vv (it:Addr) (lo:Int) (n:Nat):mx P w K tg (Itr lo n) [it] it (λi h=>IsRangeIter h it (lo+(i:Nat) * 1) ((n:Int) - (i:Nat)) 1) where
 mem:=by simp
 obj:=λi h st b hb=>by
  have e:b=it:=by simpa using hb
  subst e
  exact ⟨_,st,λv z=>by
   have z':Data.fields _=Data.cell v:=z
   cases z'⟩
 keep:=λi h h' st k=>k it (by simp) _ st
 item:=by
  intro X hP hw hK hc i pins s σ H E I hf st hg
  subst hP hw hK
  obtain ⟨f0,f1,f2,f3,f4,f5⟩:=hf it (by simp)
  have W:=Walks.range (prog:=X.prog) (w:=X.w) (I.ok.hd hc) it lo 1 n
  refine W.item i s _ _ hg st λv h' tk hv st' kk=>?_
  obtain ⟨t,rfl⟩:=hv
  have I1:Inv X pins σ H { s with heap:=h',toks:=tk }:=I.turned (λb o hb e=>kk b o (by simpa using hb) e) f0 f1 f3 f4 f5
  refine ⟨_,rfl,sT (s:={ s with heap:=h',toks:=tk }) (n:="range_iterator") st' rfl rfl (by decide) ⟨.int (lo+i),H,I1,⟨t,?_⟩,⟨rfl,rfl⟩,st',λb hb=>(hf b hb).1⟩⟩
  rw [Int.mul_one]
 done:=by
  intro X hP hw hK hc i pins s σ H E I hf st hg
  subst hP hw hK
  obtain ⟨f0,f1,f2,f3,f4,f5⟩:=hf it (by simp)
  exact wpAny_pyNext_range_end (I.ok.hd hc) st (by have:n≤i:=hg;omega) λh' eb=>⟨rfl,I.turned (t':=s.toks) (λb o hb e=>eb b o hb e) f0 f1 f3 f4 f5⟩
 self:=λ_ _ _ _ _ st h=>wpAny_pyIter_rangeiter st h
section
variable {X:Cx} {tg:Expr}
noncomputable def pK (K:PySem.W.Frag) (tl:TE):TI:=λσ H R=>tl σ H λx H1=>∃ a,x=.ref a/\(∃ xs,SqL K H1 a xs)/\R (Itl K a) H1
noncomputable def C2 (K:PySem.W.Frag) (tl:TE):TI:=λσ H R=>tl σ H λx H1=>∃ a,x=.ref a/\(∃ xs,SqT K H1 a xs)/\R (Itt K a) H1
variable {l:Expr} {tl:TE}
theorem di (hl:PE X l tl):PI X tg l (pK X.K tl):=by
 intro pins s σ H R I h
 refine thn (hl pins s σ H _ I h) λv s1 ⟨x,H1,I1,r1,q1⟩=>?_
 obtain ⟨a,e,⟨xs,hq⟩,q⟩:=q1
 subst e
 cases r1
 obtain ⟨its,rv,p,hz⟩:=I1.list hq
 refine wpAny_pyIter_list p.isList ?_
 refine ⟨s1.heap.objs.size,[s1.heap.objs.size],_,_,H1,rfl,I1.kept (t':=s1.toks) λb o e=>Heap.get?_push_of_some _ e,x8 a _,⟨_,Heap.get?_push_size _ rfl,rfl,rfl⟩,λb hb=>?_,q⟩
 have e:b=s1.heap.objs.size:=by simpa using hb
 subst e
 exact I1.fpOk (Nat.le_refl _) (I1.hok.fresh (Nat.le_refl _))
theorem iE (hl:PE X l tl):PI X tg l (C2 X.K tl):=by
 intro pins s σ H R I h
 refine thn (hl pins s σ H _ I h) λv s1 ⟨x,H1,I1,r1,q1⟩=>?_
 obtain ⟨a,e,⟨xs,hq⟩,q⟩:=q1
 subst e
 cases r1
 obtain ⟨its,rv,p,hz⟩:=I1.tuple hq
 refine wpAny_pyIter_tuple (show s1.heap.IsTuple a its.toArray from p) ?_
 refine ⟨s1.heap.objs.size,[s1.heap.objs.size],_,_,H1,rfl,I1.kept (t':=s1.toks) λb o e=>Heap.get?_push_of_some _ e,vw a _,⟨_,Heap.get?_push_size _ rfl,rfl,rfl⟩,λb hb=>?_,q⟩
 have e:b=s1.heap.objs.size:=by simpa using hb
 subst e
 exact I1.fpOk (Nat.le_refl _) (I1.hok.fresh (Nat.le_refl _))
variable {pins:List (Addr × Obj)} {σ:St} {H:Hp} {s:Shared}
theorem Ag {R:It->Hp->Prop} {E:Value->Shared->Prop} {lo hi:Int} {t u v:Tok} {tk:Nat} (I:Inv X pins σ H s) (h1:-(2 ^ 62)≤lo) (h2:lo < 2 ^ 62) (h3:-(2 ^ 62)≤hi) (h4:hi < 2 ^ 62)
  (q:R (Itr lo (hi - lo).toNat) H):wpAny (model X.prog X.w) X.A (pyIter (.ref s.heap.objs.size)) (PIE X pins σ tg R) E { s with heap:=s.heap.push { cls:=.type "range",data:=.fields #[.int lo t,.int hi u,.int 1 v] },toks:=tk }:=by
 refine wpAny_pyIter_range (IsRange.new ..) (small_one h1 h2 h3 h4) ?_
 have I1:Inv X pins σ H { s with heap:=s.heap.push { cls:=.type "range",data:=.fields #[.int lo t,.int hi u,.int 1 v] },toks:=tk }:=I.kept λb o e=>Heap.get?_push_of_some _ e
 refine ⟨(s.heap.push { cls:=.type "range",data:=.fields #[.int lo t,.int hi u,.int 1 v] }).objs.size,[(s.heap.push { cls:=.type "range",data:=.fields #[.int lo t,.int hi u,.int 1 v] }).objs.size],_,_,H,rfl,
  I1.kept (t':=tk) λb o e=>Heap.get?_push_of_some _ e,vv _ lo (hi - lo).toNat,?_,λb hb=>?_,q⟩
 ·have e1:lo+((0:Nat):Int) * 1=lo:=by simp
  have e2:(((hi - lo).toNat:Nat):Int) - ((0:Nat):Int)=Builtin.Range.rangeSize lo hi 1:=by rw [rangeSize_one];split <;> omega
  show IsRangeIter _ _ (lo+((0:Nat):Int) * 1) ((((hi - lo).toNat:Nat):Int) - ((0:Nat):Int)) 1
  rw [e1,e2]
  exact Heap.get?_push_size _ rfl
 ·have e:b=(s.heap.push { cls:=.type "range",data:=.fields #[.int lo t,.int hi u,.int 1 v] }).objs.size:=by simpa using hb
  subst e
  exact I1.fpOk (Nat.le_refl _) (I1.hok.fresh (Nat.le_refl _))
noncomputable def B4 (ta:TA):TI:=λσ H R=>ta σ H λvs H1=>∃ j:Int,vs=[.int j]/\-(2 ^ 62)≤j/\j < 2 ^ 62/\R (Itr 0 j.toNat) H1
variable {pos:Pos}
theorem lK {a:Expr} {ta:TA} {p:Pos} (hg:Gl X "range") (hm:X.mg "range"=none) (ha:PA X [a] ta) (hs:starEach [a] X.env=[(false,eval a X.env)]:=by rfl):PI X tg (.Call (.Name "range" p) [a] [] pos) (B4 ta):=by
 intro pins s σ H R I h
 refine Call_ (jD I hg hm boot_range (PyProof.Rows.callWith_type1 (thn (ha pos pins s σ H _ I h) λus s1 ⟨vs,H1,I1,r1,q1⟩=>?_) hs rfl))
 obtain ⟨j,e,q1,q2,q⟩:=q1
 subst e
 cases r1 with
 | cons r rr =>
  cases rr
  obtain ⟨t,rfl⟩:=r
  exact call_range_1 (Ag I1 (by omega) (by omega) q1 q2 (by simpa using q))
noncomputable def Ey (wi:TI) (g:TG) (tb:TS):TS:=λD σ H=>wi σ H λJ H1=>∃ W:Nat->Nat->St->Hp->Prop,(∃ m,W 0 m σ H1)/\∀ i m σ H,W i m σ H ->
 (J.stop i H/\D.nx σ H)\/(J.go i H/\∃ N:St->Hp->Prop,(∀ σ' H',N σ' H'->∃ m',m' < m/\W (i+1) m' σ' H')/\∀ x H',J.yld i H x H'->g x σ H' λσ2 H2=>tb { D with nx:=N,ct:=N,bk:=D.nx } σ2 H2)
noncomputable def nZ (fp:List Addr) (h:Heap):List (Addr × Obj):=fp.filterMap λb=>(h.get? b).map λo=>(b,o)
variable {fp:List Addr} {h:Heap}
theorem i6 {b:Addr} {o:Obj} (hb:b ∈ fp) (e:h.get? b=some o):(b,o) ∈ nZ fp h:=List.mem_filterMap.mpr ⟨b,hb,by rw [e];rfl⟩
theorem xE {p:Addr × Obj} (hp:p ∈ nZ fp h):p.1 ∈ fp/\h.get? p.1=some p.2:=by
 obtain ⟨b,hb,e⟩:=List.mem_filterMap.mp hp
 cases q:h.get? b with
 | none=>rw [q] at e;cases e
 | some o =>
  rw [q] at e
  have e':(b,o)=p:=Option.some.inj e
  subst e'
  exact ⟨hb,q⟩
theorem Inv.pinned (I:Inv X pins σ H s) (hf:∀ b ∈ fp,oI X pins H b) (ho:∀ b ∈ fp,∃ o,s.heap.get? b=some o/\∀ v,o.data≠.cell v):Inv X (pins++nZ fp s.heap) σ H s :=
 I.pins_of λp hp=>(List.mem_append.mp hp).elim (λz=>I.pin p (List.mem_append_right _ z)) λz=>by
  obtain ⟨hb,e⟩:=xE z
  obtain ⟨f0,f1,f2,_⟩:=hf p.1 hb
  obtain ⟨o,e',d⟩:=ho p.1 hb
  rw [e] at e';cases e'
  exact ⟨e,f0,f1,f2,d⟩
theorem Inv.unpinned {pl:List (Addr × Obj)} (I:Inv X (pins++pl) σ H s):Inv X pins σ H s:=I.pins_of λp hp=>I.pin p (List.mem_append_right _ (List.mem_append_left _ hp))
theorem gA {iter:Expr} {body:List Stmt} {wi:TI} {g:TG} {tb:TS} (hp:PassesOwn (model X.prog X.w) X.A X.env X.xe) (hc:X.calm=true) (hi:PI X tg iter wi) (hg:PG X tg g) (hb:PSs X body tb)
  (hs:∀ x,foldedSetIterable iter X.env x=pure x:=by intro _;rfl):PS X (.For tg iter body [] pos) (Ey wi g tb):=by
 intro pins s σ H D I h
 refine wpAny_For (thn (hi pins s σ H _ I h) λv s1 h1=>thn h1 λitv s2 h2=>?_) hs
 obtain ⟨it,fp,tn,J,H2,e,I2,T,st2,f2,W,⟨m0,w0⟩,turn⟩:=h2
 subst e
 have rN:∀ {H':Hp},(∀ b ∈ fp,H' b=none)->∀ b ∈ fp,oI X pins H' b:=λhn b hb=>⟨hn b hb,(f2 b hb).2⟩
 refine codeAny_forLoop_any (λn s'=>∃ i σ' H',Inv X pins σ' H' s'/\tn i s'.heap/\(∀ b ∈ fp,H' b=none)/\W i n σ' H') ?_ m0 ⟨0,σ,H2,I2,st2,λb hb=>(f2 b hb).1,w0⟩
 rintro n s3 ⟨i,σ3,H3,I3,st3,fr3,w3⟩
 rcases turn i n σ3 H3 w3 with ⟨stop,qn⟩ | ⟨go,N,hN,step⟩
 ·refine wpAny_passesOwn hp (thn (T.done X rfl rfl rfl hc i pins s3 σ3 H3 X.xe I3 (rN fr3) st3 stop) λr s4 ⟨hr,I4⟩=>?_)
  subst hr
  exact wpAny_execs_nil ⟨σ3,H3,I4,qn⟩
 ·refine wpAny_passesOwn hp (thn (T.item X rfl rfl rfl hc i pins s3 σ3 H3 X.xe I3 (rN fr3) st3 go) λr s4 ⟨u,hr,h4⟩=>?_)
  subst hr
  refine wpAny_passesOwn hp (thn h4 λ_ s5 ⟨x,H5,I5,r5,y5,st5,fr5⟩=>?_)
  have I5':=I5.pinned (rN fr5) (T.obj _ _ st5)
  refine wpAny_passesOwn hp (thn (hg _ s5 σ3 H5 x u _ I5' r5 (step x H5 y5)) λ_ s6 ⟨σ6,H6,I6,q6⟩=>?_)
  refine wpAny_passesOwn hp (thn (hb _ s6 σ6 H6 _ I6 q6) λf s7 q7=>?_)
  have again:∀ {σ7:St} {H7:Hp},Inv X (pins++nZ fp s5.heap) σ7 H7 s7->N σ7 H7->∃ m,m < n/\∃ i σ' H',Inv X pins σ' H' s7/\tn i s7.heap/\(∀ b ∈ fp,H' b=none)/\W i m σ' H':=λ{σ7 H7} I7 n7=>by
   obtain ⟨m',hm,w7⟩:=hN σ7 H7 n7
   refine ⟨m',hm,i+1,σ7,H7,I7.unpinned,T.keep _ _ _ st5 λb hb o e=>(I7.pin (b,o) (List.mem_append_right _ (List.mem_append_right _ (i6 hb e)))).1,λb hb=>?_,w7⟩
   obtain ⟨o,e,d⟩:=T.obj _ _ st5 b hb
   exact (I7.pin (b,o) (List.mem_append_right _ (List.mem_append_right _ (i6 hb e)))).2.1
  cases f with
  | next=>obtain ⟨σ7,H7,I7,n7⟩:=q7;exact again I7 n7
  | cont=>obtain ⟨σ7,H7,I7,n7⟩:=q7;exact again I7 n7
  | brk=>obtain ⟨σ7,H7,I7,q7⟩:=q7;exact ⟨σ7,H7,I7.unpinned,q7⟩
  | ret v=>obtain ⟨x7,σ7,H7,I7,r7,q7⟩:=q7;exact ⟨x7,σ7,H7,I7.unpinned,r7,q7⟩
end
variable {g:TG} {tb:TS}
theorem jA {D:iV} (Pv:Nat->St->Hp->Prop) (h0:Pv 0 σ H) (hl:∀ i σ H,i≤xs.length->Pv i σ H->SqL K H a xs)
  (hs:∀ i x σ H,xs[i]?=some x->Pv i σ H->g x σ H λσ2 H2=>tb { D with nx:=Pv (i+1),ct:=Pv (i+1),bk:=D.nx } σ2 H2) (hd:∀ σ H,Pv xs.length σ H->D.nx σ H) :
  ∃ W:Nat->Nat->St->Hp->Prop,(∃ m,W 0 m σ H)/\∀ i m σ H,W i m σ H ->
   ((Itl K a).stop i H/\D.nx σ H)\/((Itl K a).go i H/\∃ N:St->Hp->Prop,(∀ σ' H',N σ' H'->∃ m',m' < m/\W (i+1) m' σ' H')/\∀ x H',(Itl K a).yld i H x H'->g x σ H' λσ2 H2=>tb { D with nx:=N,ct:=N,bk:=D.nx } σ2 H2):=by
 refine ⟨λi m σ H=>m=xs.length - i/\i≤xs.length/\Pv i σ H,⟨xs.length,by simp,Nat.zero_le _,h0⟩,?_⟩
 rintro i m σ H ⟨rfl,hi,p⟩
 have q:=hl i σ H hi p
 by_cases hlt:i < xs.length
 ·refine .inr ⟨⟨xs,xs[i],q,by simp [hlt]⟩,Pv (i+1),λσ' H' p'=>⟨xs.length - (i+1),by omega,rfl,hlt,p'⟩,λx H' y=>?_⟩
  obtain ⟨e,y⟩:=y
  subst e
  exact hs i x σ _ (y xs q) p
 ·have e:i=xs.length:=by omega
  subst e
  exact .inl ⟨⟨xs,q,Nat.le_refl _⟩,hd σ H p⟩
theorem mL {D:iV} (Pv:Nat->St->Hp->Prop) (h0:Pv 0 σ H) (hl:∀ i σ H,i≤xs.length->Pv i σ H->SqT K H a xs)
  (hs:∀ i x σ H,xs[i]?=some x->Pv i σ H->g x σ H λσ2 H2=>tb { D with nx:=Pv (i+1),ct:=Pv (i+1),bk:=D.nx } σ2 H2) (hd:∀ σ H,Pv xs.length σ H->D.nx σ H) :
  ∃ W:Nat->Nat->St->Hp->Prop,(∃ m,W 0 m σ H)/\∀ i m σ H,W i m σ H ->
   ((Itt K a).stop i H/\D.nx σ H)\/((Itt K a).go i H/\∃ N:St->Hp->Prop,(∀ σ' H',N σ' H'->∃ m',m' < m/\W (i+1) m' σ' H')/\∀ x H',(Itt K a).yld i H x H'->g x σ H' λσ2 H2=>tb { D with nx:=N,ct:=N,bk:=D.nx } σ2 H2):=by
 refine ⟨λi m σ H=>m=xs.length - i/\i≤xs.length/\Pv i σ H,⟨xs.length,by simp,Nat.zero_le _,h0⟩,?_⟩
 rintro i m σ H ⟨rfl,hi,p⟩
 have q:=hl i σ H hi p
 by_cases hlt:i < xs.length
 ·refine .inr ⟨⟨xs,xs[i],q,by simp [hlt]⟩,Pv (i+1),λσ' H' p'=>⟨xs.length - (i+1),by omega,rfl,hlt,p'⟩,λx H' y=>?_⟩
  obtain ⟨e,y⟩:=y
  subst e
  exact hs i x σ _ (y xs q) p
 ·have e:i=xs.length:=by omega
  subst e
  exact .inl ⟨⟨xs,q,Nat.le_refl _⟩,hd σ H p⟩
variable {n:Nat}
theorem xo {lo:Int} {D:iV} (Pv:Nat->St->Hp->Prop) (h0:Pv 0 σ H)
  (hs:∀ i σ H,i < n->Pv i σ H->g (.int (lo+i)) σ H λσ2 H2=>tb { D with nx:=Pv (i+1),ct:=Pv (i+1),bk:=D.nx } σ2 H2) (hd:∀ σ H,Pv n σ H->D.nx σ H) :
  ∃ W:Nat->Nat->St->Hp->Prop,(∃ m,W 0 m σ H)/\∀ i m σ H,W i m σ H ->
   ((Itr lo n).stop i H/\D.nx σ H)\/((Itr lo n).go i H/\∃ N:St->Hp->Prop,(∀ σ' H',N σ' H'->∃ m',m' < m/\W (i+1) m' σ' H')/\∀ x H',(Itr lo n).yld i H x H'->g x σ H' λσ2 H2=>tb { D with nx:=N,ct:=N,bk:=D.nx } σ2 H2):=by
 refine ⟨λi m σ H=>m=n - i/\i≤n/\Pv i σ H,⟨n,by simp,Nat.zero_le _,h0⟩,?_⟩
 rintro i m σ H ⟨rfl,hi,p⟩
 by_cases hlt:i < n
 ·refine .inr ⟨hlt,Pv (i+1),λσ' H' p'=>⟨n - (i+1),by omega,rfl,hlt,p'⟩,λx H' y=>?_⟩
  obtain ⟨e,y⟩:=y
  subst e y
  exact hs i σ _ hlt p
 ·have e:i=n:=by omega
  subst e
  exact .inl ⟨Nat.le_refl _,hd σ H p⟩
theorem uq {c:TT} {D:iV} (Pv:St->Hp->Prop) (μ:St->Hp->Nat) (h0:Pv σ H)
  (hs:∀ σ H,Pv σ H->c σ H λb H1=>if b=true then tb { D with nx:=λσ' H'=>Pv σ' H'/\μ σ' H' < μ σ H,ct:=λσ' H'=>Pv σ' H'/\μ σ' H' < μ σ H,bk:=D.nx } σ H1 else D.nx σ H1)
  (mono:∀ σ H Q Q',(∀ b H1,Q b H1->Q' b H1)->c σ H Q->c σ H Q'):Aw c tb D σ H:=by
 refine ⟨λm σ H=>m=μ σ H/\Pv σ H,⟨_,rfl,h0⟩,?_⟩
 rintro m σ H ⟨rfl,p⟩
 refine mono σ H _ _ (λb H1 q=>?_) (hs σ H p)
 cases b with
 | true=>exact ⟨_,λσ' H' ⟨p',l⟩=>⟨_,l,rfl,p'⟩,q⟩
 | false=>exact q
noncomputable abbrev R2:=V->V->Hp->VK->Prop
noncomputable def OpR (X:Cx) (f:Value->Value->Sem Value) (r:R2):Prop :=
 ∀ (pins:List (Addr × Obj)) (s:Shared) (σ:St) (H:Hp) (x y:V) (v u:Value) (Q:VK),Inv X pins σ H s->RelV x v->RelV y u->r x y H Q ->
  wpAny (model X.prog X.w) X.A (f v u) (EP X pins σ Q) X.xe s
noncomputable def UnR (X:Cx) (f:Value->Sem Value) (r:V->Hp->VK->Prop):Prop :=
 ∀ (pins:List (Addr × Obj)) (s:Shared) (σ:St) (H:Hp) (x:V) (v:Value) (Q:VK),Inv X pins σ H s->RelV x v->r x H Q ->
  wpAny (model X.prog X.w) X.A (f v) (EP X pins σ Q) X.xe s
noncomputable def h9 (X:Cx) (f:Value) (r:List V->Hp->VK->Prop):Prop :=
 ∀ (pins:List (Addr × Obj)) (s:Shared) (σ:St) (H:Hp) (xs:List V) (us:List Value) (Q:VK),Inv X pins σ H s->Vals xs us->r xs H Q ->
  wpAny (model X.prog X.w) X.A (call f us) (EP X pins σ Q) X.xe s
noncomputable def EF (X:Cx) (r:V->Hp->(Bool->Hp->Prop)->Prop):Prop :=
 ∀ (pins:List (Addr × Obj)) (s:Shared) (σ:St) (H:Hp) (x:V) (v:Value) (Q:Bool->Hp->Prop),Inv X pins σ H s->RelV x v->r x H Q ->
  wpAny (model X.prog X.w) X.A (truthy v) (TP X pins σ Q) X.xe s
noncomputable def tOp (r:R2) (ta tb:TE):TE:=λσ H Q=>ta σ H λx H1=>tb σ H1 λy H2=>r x y H2 Q
noncomputable def tUn (r:V->Hp->VK->Prop) (ta:TE):TE:=λσ H Q=>ta σ H λx H1=>r x H1 Q
noncomputable def rI (C:Int->Int->Prop) (g:Int->Int->V):R2:=λx y H Q=>∃ i j,x=.int i/\y=.int j/\C i j/\Q (g i j) H
noncomputable def rI0 (g:Int->Int->V):R2:=λx y H Q=>∃ i j,x=.int i/\y=.int j/\Q (g i j) H
noncomputable def rU (g:Int->V):V->Hp->VK->Prop:=λx H Q=>∃ i,x=.int i/\Q (g i) H
section
variable {X:Cx} {a b c:Expr} {ta tb tc:TE} {pos:Pos}
variable {f:Value->Value->Sem Value}
theorem CK (ha:PE X a ta) (hb:PE X b tb) {pins:List (Addr × Obj)} {s:Shared} {σ:St} {H:Hp} {R:V->V->Hp->Prop} (I:Inv X pins σ H s)
  (h:ta σ H λx H1=>tb σ H1 λy H2=>R x y H2) {Q:Value->Shared->Prop}
  (hf:∀ v u s2 x y H2,Inv X pins σ H2 s2->RelV x v->RelV y u->R x y H2->wpAny (model X.prog X.w) X.A (f v u) Q X.xe s2) :
  wpAny (model X.prog X.w) X.A (eval a X.env) (λv s₁=>wpAny (model X.prog X.w) X.A (eval b X.env) (λu s₂=>wpAny (model X.prog X.w) X.A (f v u) Q X.xe s₂) X.xe s₁) X.xe s:=by
 refine thn (ha pins s σ H _ I h) λv s1 ⟨x,H1,I1,r1,q1⟩=>?_
 refine thn (hb pins s1 σ H1 _ I1 q1) λu s2 ⟨y,H2,I2,r2,q2⟩=>?_
 exact hf v u s2 x y H2 I2 r1 r2 q2
theorem bu {op:Operator} {r:R2} (ho:OpR X (binaryOp op) r) (ha:PE X a ta) (hb:PE X b tb):PE X (.BinOp a op b pos) (tOp r ta tb):=by
 intro pins s σ H Q I h
 exact wpAny_BinOp (CK ha hb I h λv u s2 x y H2 I2 rx ry q=>ho pins s2 σ H2 x y v u Q I2 rx ry q)
theorem Ca {op:UnaryOp} {r:V->Hp->VK->Prop} (ho:UnR X (unaryOp op) r) (ha:PE X a ta):PE X (.UnaryOp op a pos) (tUn r ta):=by
 intro pins s σ H Q I h
 exact UnaryOp_ (thn (ha pins s σ H _ I h) λv s1 ⟨x,H1,I1,r1,q1⟩=>ho pins s1 σ H1 x v Q I1 r1 q1)
variable {g:Int->Int->Int}
theorem opI {C:Int->Int->Prop}
  (rule:∀ (i j:Int) (t u:Tok) (s:Shared) (Q:Value->Shared->Prop) (E:Value->Shared->Prop),C i j->Q (.int (g i j) s.toks) { s with toks:=s.toks+1 }->wpAny (model X.prog X.w) X.A (f (.int i t) (.int j u)) Q E s) :
  OpR X f (rI C λi j=>.int (g i j)):=by
 intro pins s σ H x y v u Q I rx ry h
 obtain ⟨i,j,rfl,rfl,hc,q⟩:=h
 obtain ⟨t,rfl⟩:=rx
 obtain ⟨t',rfl⟩:=ry
 exact rule i j t t' s _ _ hc ⟨.int (g i j),H,I.tok _,⟨_,rfl⟩,q⟩
theorem Eg
  (rule:∀ (i j:Int) (t u:Tok) (s:Shared) (Q:Value->Shared->Prop) (E:Value->Shared->Prop),Q (.int (g i j) s.toks) { s with toks:=s.toks+1 }->wpAny (model X.prog X.w) X.A (f (.int i t) (.int j u)) Q E s) :
  OpR X f (rI0 λi j=>.int (g i j)):=by
 intro pins s σ H x y v u Q I rx ry h
 obtain ⟨i,j,rfl,rfl,q⟩:=h
 obtain ⟨t,rfl⟩:=rx
 obtain ⟨t',rfl⟩:=ry
 exact rule i j t t' s _ _ ⟨.int (g i j),H,I.tok _,⟨_,rfl⟩,q⟩
theorem Bn {g:Int->Int->Bool}
  (rule:∀ (i j:Int) (t u:Tok) (s:Shared) (Q:Value->Shared->Prop) (E:Value->Shared->Prop),Q (.bool (g i j)) s->wpAny (model X.prog X.w) X.A (f (.int i t) (.int j u)) Q E s) :
  OpR X f (rI0 λi j=>.bl (g i j)):=by
 intro pins s σ H x y v u Q I rx ry h
 obtain ⟨i,j,rfl,rfl,q⟩:=h
 obtain ⟨t,rfl⟩:=rx
 obtain ⟨t',rfl⟩:=ry
 exact rule i j t t' s _ _ ⟨.bl (g i j),H,I,rfl,q⟩
noncomputable def Cs (i j:Int):Prop:=0 < j/\j < 1073741824
noncomputable def ED (i j:Int):Prop:=0≤j/\j≤1000000/\i.natAbs < 2 ^ 64
noncomputable def CMul (i j:Int):Prop:=(-(2 ^ 64) < i/\i < 2 ^ 64)\/(-(2 ^ 64) < j/\j < 2 ^ 64)
theorem CMul.ok {i j:Int} (h:CMul i j):IntMulOk i j:=by
 rcases h with ⟨h1,h2⟩ | ⟨h1,h2⟩
 ·exact .of_left (intBits_le_64 h1 h2)
 ·exact .of_right (intBits_le_64 h1 h2)
theorem cM:OpR X (binaryOp .Add) (rI0 λi j=>.int (i+j)):=Eg λ_ _ _ _ _ _ _ q=>add_int q
theorem rh:OpR X (binaryOp .Sub) (rI0 λi j=>.int (i - j)):=Eg λ_ _ _ _ _ _ _ q=>sub_int q
theorem zO:OpR X (binaryOp .Mult) (rI CMul λi j=>.int (i * j)):=opI λ_ _ _ _ _ _ _ hc q=>mul_int q hc.ok
theorem kQ:OpR X (binaryOp .FloorDiv) (rI Cs λi j=>.int (i / j)):=opI λi j _ _ _ _ _ hc q=>by
 have h1:(0:Int) < j:=hc.1
 have h2:j < 1073741824:=hc.2
 exact floordiv_int (by omega) (by rw [Int.fdiv_eq_ediv_of_nonneg i (by omega)];exact q) (.inl (PyProof.noPylong_small (by omega)))
theorem gy:OpR X (binaryOp .Mod) (rI (λ_ j=>0 < j) λi j=>.int (i % j)):=opI λi j _ _ _ _ _ hc q=>by
 have h1:(0:Int) < j:=hc
 exact mod_int' (by omega) (by rw [Int.fmod_eq_emod_of_nonneg i (by omega)];exact q)
theorem rg:OpR X (binaryOp .Pow) (rI ED λi j=>.int (i ^ j.toNat)):=opI λ_ _ _ _ _ _ _ hc q=>pow_int_small hc.1 hc.2.1 hc.2.2 q
theorem unI {f:Value->Sem Value} {g:Int->Int}
  (rule:∀ (i:Int) (t:Tok) (s:Shared) (Q:Value->Shared->Prop) (E:Value->Shared->Prop),Q (.int (g i) s.toks) { s with toks:=s.toks+1 }->wpAny (model X.prog X.w) X.A (f (.int i t)) Q E s) :
  UnR X f (rU λi=>.int (g i)):=by
 intro pins s σ H x v Q I rx h
 obtain ⟨i,rfl,q⟩:=h
 obtain ⟨t,rfl⟩:=rx
 exact rule i t s _ _ ⟨.int (g i),H,I.tok _,⟨_,rfl⟩,q⟩
theorem AC:UnR X (unaryOp .USub) (rU λi=>.int (-i)):=unI λ_ _ _ _ _ q=>neg_int q
end
noncomputable def Et:V->V->Bool
 | .non,.non=>true | .non,.int _=>true | .int _,.non=>true | .non,.bl _=>true | .bl _,.non=>true | .non,.str _=>true | .str _,.non=>true
 | .int _,.int _=>true | .bl _,.bl _=>true | .str _,.str _=>true | .byt _,.byt _=>true
 | .int _,.str _=>true | .str _,.int _=>true | .bl _,.str _=>true | .str _,.bl _=>true
 | _,_=>false
noncomputable def rEq:R2:=λx y H Q=>Et x y=true/\Q (.bl (decide (x=y))) H
noncomputable def rNe:R2:=λx y H Q=>Et x y=true/\Q (.bl (!decide (x=y))) H
theorem vJ {i j:Int}:decide (V.int i=V.int j)=(i == j):=by
 rw [Bool.eq_iff_iff]
 simp
theorem yN {i j:Bool}:decide (V.bl i=V.bl j)=(i == j):=by
 rw [Bool.eq_iff_iff]
 simp
theorem vK {i j:Str}:decide (V.str i=V.str j)=(i == j):=by
 rw [Bool.eq_iff_iff]
 simp
theorem vI {i j:Array UInt8}:decide (V.byt i=V.byt j)=(i.toList == j.toList):=by
 rw [Bool.eq_iff_iff]
 cases i
 cases j
 simp
section
variable {X:Cx} {a b c:Expr} {ta tb tc:TE} {pos:Pos}
theorem bU {pins:List (Addr × Obj)} {σ:St} {H:Hp} {s:Shared} {Q:VK} {k k':Bool} (I:Inv X pins σ H s) (q:Q (.bl k) H) (e:k=k'):EP X pins σ Q (.bool k') s:=by
 subst e
 exact ⟨.bl k,H,I,rfl,q⟩
theorem cF:OpR X (compareOp .Eq) rEq:=by
 intro pins s σ H x y v u Q I rx ry h
 obtain ⟨hs,q⟩:=h
 cases x with
 | non =>
  cases rx
  cases y with
  | non=>cases ry;exact PySem.EqNone.eq_none_none (bU I q (by simp))
  | bl j=>cases ry;exact PySem.EqNone.eq_none_bool (bU I q (by simp))
  | int j=>obtain ⟨t',rfl⟩:=ry;exact PySem.EqNone.eq_none_int (bU I q (by simp))
  | str j=>obtain ⟨t',rfl⟩:=ry;exact PySem.EqNone.eq_none_str (bU I q (by simp))
  | _=>exact absurd (show false=true from hs) Bool.false_ne_true
 | bl i =>
  cases rx
  cases y with
  | non=>cases ry;exact PySem.EqNone.eq_bool_none (bU I q (by simp))
  | bl j=>cases ry;exact eq_bool (bU I q yN)
  | str j=>obtain ⟨t',rfl⟩:=ry;exact PySem.EqMixed.eq_bool_str (bU I q (by simp))
  | _=>exact absurd (show false=true from hs) Bool.false_ne_true
 | int i =>
  obtain ⟨t,rfl⟩:=rx
  cases y with
  | non=>cases ry;exact PySem.EqNone.eq_int_none (bU I q (by simp))
  | int j=>obtain ⟨t',rfl⟩:=ry;exact eq_int (bU I q vJ)
  | str j=>obtain ⟨t',rfl⟩:=ry;exact PySem.EqMixed.eq_int_str (bU I q (by simp))
  | _=>exact absurd (show false=true from hs) Bool.false_ne_true
 | str i =>
  obtain ⟨t,rfl⟩:=rx
  cases y with
  | non=>cases ry;exact PySem.EqNone.eq_str_none (bU I q (by simp))
  | bl j=>cases ry;exact PySem.EqMixed.eq_str_bool (bU I q (by simp))
  | int j=>obtain ⟨t',rfl⟩:=ry;exact PySem.EqMixed.eq_str_int (bU I q (by simp))
  | str j=>obtain ⟨t',rfl⟩:=ry;exact eq_str (bU I q vK)
  | _=>exact absurd (show false=true from hs) Bool.false_ne_true
 | byt i =>
  obtain ⟨t,rfl⟩:=rx
  cases y with
  | byt j=>obtain ⟨t',rfl⟩:=ry;exact PySem.W.eq_bytes (bU I q vI)
  | _=>exact absurd (show false=true from hs) Bool.false_ne_true
 | _=>cases y <;> exact absurd (show false=true from hs) Bool.false_ne_true
theorem nV:OpR X (compareOp .NotEq) rNe:=by
 intro pins s σ H x y v u Q I rx ry h
 obtain ⟨hs,q⟩:=h
 cases x with
 | non =>
  cases rx
  cases y with
  | non=>cases ry;exact PySem.EqNone.ne_none_none (bU I q (by simp))
  | bl j=>cases ry;exact PySem.EqNone.ne_none_bool (bU I q (by simp))
  | int j=>obtain ⟨t',rfl⟩:=ry;exact PySem.EqNone.ne_none_int (bU I q (by simp))
  | str j=>obtain ⟨t',rfl⟩:=ry;exact PySem.EqNone.ne_none_str (bU I q (by simp))
  | _=>exact absurd (show false=true from hs) Bool.false_ne_true
 | bl i =>
  cases rx
  cases y with
  | non=>cases ry;exact PySem.EqNone.ne_bool_none (bU I q (by simp))
  | bl j=>cases ry;exact ne_bool (bU I q (congrArg not yN))
  | str j=>obtain ⟨t',rfl⟩:=ry;exact PySem.EqMixed.ne_bool_str (bU I q (by simp))
  | _=>exact absurd (show false=true from hs) Bool.false_ne_true
 | int i =>
  obtain ⟨t,rfl⟩:=rx
  cases y with
  | non=>cases ry;exact PySem.EqNone.ne_int_none (bU I q (by simp))
  | int j=>obtain ⟨t',rfl⟩:=ry;exact ne_int (bU I q (congrArg not vJ))
  | str j=>obtain ⟨t',rfl⟩:=ry;exact PySem.EqMixed.ne_int_str (bU I q (by simp))
  | _=>exact absurd (show false=true from hs) Bool.false_ne_true
 | str i =>
  obtain ⟨t,rfl⟩:=rx
  cases y with
  | non=>cases ry;exact PySem.EqNone.ne_str_none (bU I q (by simp))
  | bl j=>cases ry;exact PySem.EqMixed.ne_str_bool (bU I q (by simp))
  | int j=>obtain ⟨t',rfl⟩:=ry;exact PySem.EqMixed.ne_str_int (bU I q (by simp))
  | str j=>obtain ⟨t',rfl⟩:=ry;exact ne_str (bU I q (congrArg not vK))
  | _=>exact absurd (show false=true from hs) Bool.false_ne_true
 | byt i =>
  obtain ⟨t,rfl⟩:=rx
  cases y with
  | byt j=>obtain ⟨t',rfl⟩:=ry;exact PySem.W.ne_bytes (bU I q (congrArg not vI))
  | _=>exact absurd (show false=true from hs) Bool.false_ne_true
 | _=>cases y <;> exact absurd (show false=true from hs) Bool.false_ne_true
theorem pU:OpR X (compareOp .Lt) (rI0 λi j=>.bl (decide (i < j))):=Bn λ_ _ _ _ _ _ _ q=>lt_int q
theorem jr:OpR X (compareOp .LtE) (rI0 λi j=>.bl (decide (i≤j))):=Bn λ_ _ _ _ _ _ _ q=>le_int q
theorem pS:OpR X (compareOp .Gt) (rI0 λi j=>.bl (decide (j < i))):=Bn λ_ _ _ _ _ _ _ q=>gt_int q
theorem zM:OpR X (compareOp .GtE) (rI0 λi j=>.bl (decide (j≤i))):=Bn λ_ _ _ _ _ _ _ q=>ge_int q
theorem uV:OpR X (compareOp .Is) (λx y H Q=>y=.non/\Q (.bl (decide (x=.non))) H):=by
 intro pins s σ H x y v u Q I rx ry h
 obtain ⟨rfl,q⟩:=h
 cases ry
 refine is_none_gen (bU I q ?_)
 cases x <;> first
  | (cases rx;rfl)
  | (obtain ⟨t,rfl⟩:=rx;rfl)
theorem Bq:OpR X (compareOp .IsNot) (λx y H Q=>y=.non/\Q (.bl (!decide (x=.non))) H):=by
 intro pins s σ H x y v u Q I rx ry h
 obtain ⟨rfl,q⟩:=h
 cases ry
 refine isnot_none_gen (bU I q ?_)
 cases x <;> first
  | (cases rx;rfl)
  | (obtain ⟨t,rfl⟩:=rx;rfl)
variable {r r':R2}
theorem OpR.or {f:Value->Value->Sem Value} (h:OpR X f r) (h':OpR X f r'):OpR X f (λx y H Q=>r x y H Q\/r' x y H Q):=by
 intro pins s σ H x y v u Q I rx ry q
 rcases q with q | q
 ·exact h pins s σ H x y v u Q I rx ry q
 ·exact h' pins s σ H x y v u Q I rx ry q
variable {op:CmpOp}
theorem aY (b:Expr) (h:op≠.In:=by decide) (h2:op≠.NotIn:=by decide):behindInMarks op b=false:=by
 have e1:(op == CmpOp.In)=false:=by cases op <;> first | rfl | exact absurd rfl h
 have e2:(op == CmpOp.NotIn)=false:=by cases op <;> first | rfl | exact absurd rfl h2
 cases b <;> simp [behindInMarks,e1,e2]
theorem cA (ho:OpR X (compareOp op) r) (ha:PE X a ta) (hb:PE X b tb) (hm:behindInMarks op b=false):PE X (.Compare a [op] [b] pos) (tOp r ta tb):=by
 intro pins s σ H Q I h
 exact wpAny_Compare1 (CK ha hb I h λv u s2 x y H2 I2 rx ry q=>ho pins s2 σ H2 x y v u Q I2 rx ry q) hm
noncomputable def Au (t:TE):TT:=λσ H Q=>t σ H λx H'=>∃ k,x=.bl k/\Q k H'
theorem aV (ho:OpR X (compareOp op) r) (ha:PE X a ta) (hb:PE X b tb) (hm:behindInMarks op b=false):PT X (.Compare a [op] [b] pos) (Au (tOp r ta tb)):=by
 intro pins s σ H Q I h
 refine wpAny_isTrue_Compare1 (thn (ha pins s σ H _ I h) λv s1 ⟨x,H1,I1,r1,q1⟩=>thn (hb pins s1 σ H1 _ I1 q1) λu s2 ⟨y,H2,I2,r2,q2⟩ =>
  thn (ho pins s2 σ H2 x y v u _ I2 r1 r2 q2) λc s3 ⟨z,H3,I3,r3,k,e,q3⟩=>?_) hm
 subst e
 cases r3
 exact wpAny_truthy_bool ⟨H3,I3,q3⟩
noncomputable def rO (r r':R2) (ta tb tc:TE):TE:=λσ H Q=>ta σ H λx H1=>tb σ H1 λy H2=>r x y H2 λz H3=>∃ k,z=.bl k /\
 (if k=true then tc σ H3 λw' H4=>r' y w' H4 Q else Q (.bl false) H3)
variable {op':CmpOp}
theorem tU (ho:OpR X (compareOp op) r) (ho':OpR X (compareOp op') r') (ha:PE X a ta) (hb:PE X b tb) (hc:PE X c tc)
  (hm:lastMarks [op,op'] [b,c]=false:=by with_unfolding_all rfl):PE X (.Compare a [op,op'] [b,c] pos) (rO r r' ta tb tc):=by
 intro pins s σ H Q I h
 refine Compare_chain (thn (ha pins s σ H _ I h) λv s1 ⟨x,H1,I1,r1,q1⟩=>chain_link (thn (hb pins s1 σ H1 _ I1 q1) λu s2 ⟨y,H2,I2,r2,q2⟩ =>
  thn (ho pins s2 σ H2 x y v u _ I2 r1 r2 q2) λd s3 ⟨z,H3,I3,r3,k,e,q3⟩=>?_)) hm
 subst e
 cases r3
 refine wpAny_truthy_bool ?_
 cases k with
 | false=>exact ite_ff ⟨.bl false,H3,I3,rfl,q3⟩
 | true=>exact ite_tt (chain_last (thn (hc pins s3 σ H3 _ I3 q3) λw' s4 ⟨z',H4,I4,r4,q4⟩=>ho' pins s4 σ H4 y z' u w' Q I4 r2 r4 q4))
theorem oj (ho:OpR X (compareOp op) r) (ho':OpR X (compareOp op') r') (ha:PE X a ta) (hb:PE X b tb) (hc:PE X c tc)
  (hm:lastMarks [op,op'] [b,c]=false:=by with_unfolding_all rfl):PT X (.Compare a [op,op'] [b,c] pos) (Au (rO r r' ta tb tc)):=by
 intro pins s σ H Q I h
 refine isTrue_chain (thn (ha pins s σ H _ I h) λv s1 ⟨x,H1,I1,r1,q1⟩=>test_link (thn (hb pins s1 σ H1 _ I1 q1) λu s2 ⟨y,H2,I2,r2,q2⟩ =>
  thn (ho pins s2 σ H2 x y v u _ I2 r1 r2 q2) λd s3 ⟨z,H3,I3,r3,k,e,q3⟩=>?_)) hm
 subst e
 cases r3
 refine wpAny_truthy_bool ?_
 cases k with
 | false =>
  obtain ⟨k',e',q'⟩:=q3
  cases e'
  exact ite_ff ⟨H3,I3,q'⟩
 | true =>
  refine ite_tt (test_last (thn (hc pins s3 σ H3 _ I3 q3) λw' s4 ⟨z',H4,I4,r4,q4⟩=>thn (ho' pins s4 σ H4 y z' u w' _ I4 r2 r4 q4) λd' s5 ⟨z2,H5,I5,r5,k2,e2,q5⟩=>?_))
  subst e2
  cases r5
  exact wpAny_truthy_bool ⟨H5,I5,q5⟩
noncomputable def wU (K:PySem.W.Frag) (x:V) (H:Hp) (k:Bool):Prop :=
 match x with
 | .non=>k=false
 | .bl b=>k=b
 | .int i=>k=(i != 0)
 | .str y=>y.length≤sizeLine/\k=((y.length:Int) != 0)
 | .byt y=>y.size≤sizeLine/\k=((y.size:Int) != 0)
 | .ref p=>(∃ xs,SqL K H p xs/\k=!xs.isEmpty)\/(∃ xs,SqT K H p xs/\k=!xs.isEmpty)\/∃ kvs,H p=some (.dK kvs)/\k=!kvs.isEmpty
 | _=>False
theorem uE {κ:Type} {kvs:List (κ × V)} {vs:List (κ × Value)} (r:KV kvs vs):(!vs.isEmpty)=!kvs.isEmpty:=by
 cases r <;> rfl
theorem nD {xs:List V} {its:List Value} (r:Vals xs its):(!its.toArray.isEmpty)=!xs.isEmpty:=by
 cases r <;> simp
theorem kn:(sizeLine:Nat) < 2 ^ 63:=by rw [sizeLine_eq];decide
theorem DK:EF X (λx H Q=>∃ k,wU X.K x H k/\Q k H):=by
 intro pins s σ H x v Q I rx h
 obtain ⟨k,e,q⟩:=h
 have hl:=kn
 have hs:sizeLine=16777216:=sizeLine_eq
 cases x with
 | non =>
  cases rx
  have e':k=false:=e
  subst e'
  exact truthy_none ⟨H,I,q⟩
 | bl b =>
  cases rx
  have e':k=b:=e
  subst e'
  exact wpAny_truthy_bool ⟨H,I,q⟩
 | int i =>
  obtain ⟨t,rfl⟩:=rx
  have e':k=(i != 0):=e
  subst e'
  exact PySem.P.truthy_int ⟨H,I,q⟩
 | str y =>
  obtain ⟨t,rfl⟩:=rx
  obtain ⟨hy,e'⟩:y.length≤sizeLine/\k=((y.length:Int) != 0):=e
  subst e'
  exact PySem.P.truthy_str (by omega) ⟨H,I.tok _,q⟩
 | byt y =>
  obtain ⟨t,rfl⟩:=rx
  obtain ⟨hy,e'⟩:y.size≤sizeLine/\k=((y.size:Int) != 0):=e
  subst e'
  exact PySem.W.truthy_bytes (by omega) ⟨H,I.tok _,q⟩
 | ref p =>
  cases rx
  have e':(∃ xs,SqL X.K H p xs/\k=!xs.isEmpty)\/(∃ xs,SqT X.K H p xs/\k=!xs.isEmpty)\/∃ kvs,H p=some (.dK kvs)/\k=!kvs.isEmpty:=e
  rcases e' with ⟨xs,hx,e'⟩ | ⟨xs,hx,e'⟩ | ⟨kvs,hx,e'⟩
  ·subst e'
   obtain ⟨its,r,pl,hz⟩:=I.list hx
   have hlen:=r.length
   exact wpAny_truthy_list pl.isList (by simp only [List.size_toArray];omega) ⟨H,I.tok _,by rw [nD r];exact q⟩
  ·subst e'
   obtain ⟨its,r,pl,hz⟩:=I.tuple hx
   have hlen:=r.length
   exact truthy_tuple pl (by simp only [List.size_toArray];omega) ⟨H,I.tok _,by rw [nD r];exact q⟩
  ·subst e'
   obtain ⟨hz,hS,vs,r,m⟩:kvs.length≤sizeLine/\(p == sysModules)=false/\∃ vs,KV kvs vs/\s.heap.DictOf (dO X.prog X.w) p vs:=I.hok p _ hx
   have hlen:kvs.length=vs.length:=Paired.length r
   exact wpAny_truthy_dict hS m (by omega) ⟨H,I.tok _,by rw [uE r];exact q⟩
 | _=>exact (show False from e).elim
theorem br (ha:PE X a ta) (he:∀ whole,isTrue a X.env whole=(do let v ← whole;standAt a.pos;holding [v] (truthy v))) :
  PT X a (λσ H Q=>ta σ H λx H'=>∃ k,wU X.K x H' k/\Q k H'):=by
 intro pins s σ H Q I h
 exact isTrue_plain (thn (ha pins s σ H _ I h) λv s1 ⟨x,H1,I1,r1,q1⟩=>DK pins s1 σ H1 x v Q I1 r1 q1) (he _)
variable {x:V} {us:List Value}
theorem gH (r:Vals [x] us):∃ u,us=[u]/\RelV x u:=by
 cases r with
 | cons r1 r2=>cases r2;exact ⟨_,rfl,r1⟩
theorem EB {y:V} (r:Vals [x,y] us):∃ u w',us=[u,w']/\RelV x u/\RelV y w':=by
 cases r with
 | cons r1 r2 =>
  cases r2 with
  | cons r3 r4=>cases r4;exact ⟨_,_,rfl,r1,r3⟩
end
section
variable {prog:Program} {w:World} {A:Around} {E:Value->Shared->Prop} {s:Shared} {K:PySem.W.Frag} {x dx C f:Addr} {mA:Str->Option Value} {name:Str} {v:Value}
end
theorem RelO.some_of {v:V} {o:Option Value} (r:RelO (some v) o):∃ u,o=some u/\RelV v u:=by
 cases o with
 | none=>exact (show False from r).elim
 | some u=>exact ⟨u,rfl,r⟩
section
variable {P:Program} {w:World} {H H':Hp} {h h':Heap} {a C dx:Addr} {fs fs':List (Str × V)}
end
section
variable {X:Cx} {pins:List (Addr × Obj)} {σ:St} {H:Hp} {s:Shared} {a C dx:Addr} {fs:List (Str × V)} {f:Str} {v:V} {A:Around} {E:Value->Shared->Prop}
end
section
variable {X:Cx} {o e value:Expr} {f:Str} {pos pos' tpos:Pos} {ta tv:TE}
end
section
variable {X:Cx} {pins:List (Addr × Obj)} {σ:St} {H:Hp} {s:Shared} {A:Around} {E:Value->Shared->Prop} {Q:Value->Shared->Prop} {c:Value} {b:Bool}
end
structure Room (k:Nat) (A:Around):Prop where
 hd:A.handled=none
 dp:A.depth+3 * k+5 < recursionLimit
 un:A.units+16 * k+200 < cLine
variable {j:Nat}
theorem Room.mono {k:Nat} (r:Room k A) (h:j≤k):Room j A:=⟨r.hd,by have:=r.dp;omega,by have:=r.un;omega⟩
theorem Room.deeper {k:Nat} (r:Room (k+1) A) (env:Env):Room k (A.deeper env) :=
 ⟨r.hd,by have:=r.dp;show A.depth+1+3 * k+5 < _;omega,by have:=r.un;show A.units+3+16 * k+200 < _;omega⟩
theorem Room.depth {k:Nat} (r:Room k A):A.depth < recursionLimit:=by have:=r.dp;omega
theorem Room.units {k:Nat} (r:Room k A):A.units+64 < cLine:=by have:=r.un;omega
noncomputable def dQ:TA:=λ_ H Q=>Q [] H
noncomputable def bR (ta:TE) (tr:TA):TA:=λσ H Q=>ta σ H λx H1=>tr σ H1 λxs H2=>Q (x::xs) H2
section
variable {X:Cx} {e:Expr} {es:List Expr} {te:TE} {t:TA} {pos:Pos}
theorem af:PA X [] dQ:=λ_ _ _ _ H Q I h=>Calls.spliced_nil ⟨[],H,I,.nil,h⟩
theorem cq (ha:PE X e te) (hr:PA X es t) (hs:starEach (e::es) X.env=(false,eval e X.env)::starEach es X.env:=by rfl):PA X (e::es) (bR te t):=by
 intro pos pins s σ H Q I h
 rw [hs]
 show wpAny _ _ (spliced ((false,eval e X.env)::backTo pos (starEach es X.env))) _ _ s
 refine Calls.spliced_cons (thn (ha pins s σ H _ I h) λu s1 ⟨x,H1,I1,r1,q1⟩=>?_)
 exact thn (hr pos pins s1 σ H1 _ I1 q1) λus s2 ⟨xs,H2,I2,r2,q2⟩=>⟨x::xs,H2,I2,.cons r1 r2,q2⟩
noncomputable def Av (t:TA):TE:=λσ H Q=>t σ H λxs H1=>xs.length≤sizeLine/\∀ p,H1 p=none->Q (.ref p) (upd H1 p (.tup xs))
noncomputable def ui (t:TA):TE:=λσ H Q=>t σ H λxs H1=>xs.length≤sizeLine/\∀ p,H1 p=none->Q (.ref p) (upd H1 p (.lst xs))
theorem aM {x1} (h:PA X es t):PE X (.Tuple es x1 pos) (Av t):=by
 intro pins s σ H Q I hq
 refine wpAny_Tuple_spliced (thn (h pos pins s σ H _ I hq) λus s1 ⟨xs,H1,I1,r,z,q⟩=>⟨by rw [← r.length];exact z,?_⟩)
 have hf:H1 s1.heap.objs.size=none:=I1.hok.fresh (Nat.le_refl _)
 refine ⟨.ref s1.heap.objs.size,upd H1 s1.heap.objs.size (.tup xs),I1.laid (t':=s1.toks) (λb u e=>Heap.get?_push_of_some _ e) (Nat.le_refl _) ?_,rfl,q _ hf⟩
 exact ⟨z,us,r,⟨_,Heap.get?_push_size _ rfl,rfl,_,rfl⟩⟩
theorem bA (h:PA X es t):PE X (.List es pos) (ui t):=by
 intro pins s σ H Q I hq
 refine wpAny_List_spliced (thn (h pos pins s σ H _ I hq) λus s1 ⟨xs,H1,I1,r,z,q⟩=>⟨by rw [← r.length];exact z,?_⟩)
 have hf:H1 s1.heap.objs.size=none:=I1.hok.fresh (Nat.le_refl _)
 refine ⟨.ref s1.heap.objs.size,upd H1 s1.heap.objs.size (.lst xs),I1.laid (t':=s1.toks) (λb u e=>Heap.get?_push_of_some _ e) (Nat.le_refl _) ?_,rfl,q _ hf⟩
 exact ⟨z,us,0,r,Heap.get?_push_size _ rfl⟩
end
noncomputable abbrev Sp:=List V->Hp->VK->XK->Prop
noncomputable abbrev CXT:=List Env->Hp->Shared->XK->Value->Shared->Prop
structure AJ (P:Program) (w:World) (K:PySem.W.Frag) (mg:Str->Option Value) (base:Heap) (A:Around) (outer:List Env) (s:Shared) (H:Hp):Prop where
 frames:A.frames=some outer
 mod:Mod K mg base
 bs:∀ b o,base.get? b=some o->s.heap.get? b=some o/\H b=none
 bsz:base.objs.size≤s.heap.objs.size
 funs:s.heap.FunFrames base outer
 frf:∀ b ∈ frs outer,H b=none
 hok:HOk P w H s.heap
 bare:AllBare s.gens
noncomputable def CE (outer:List Env) (P:Program) (w:World) (H:Hp) (s:Shared) (Q:VK) (u:Value) (s':Shared):Prop :=
 ∃ v H',s'.os=s.os/\AllBare s'.gens/\Un (frs outer) [] H H' s.heap s'.heap/\HOk P w H' s'.heap/\RelV v u/\Q v H'
noncomputable def CR (CX:CXT) (outer:List Env) (P:Program) (w:World) (H:Hp) (s:Shared) (Q:VK) (E:XK) (r:Result) (s':Shared):Prop :=
 match r with
 | .ok (.ret u)=>CE outer P w H s Q u s'
 | .ok _=>False
 | .error e=>CX outer H s E e s'
structure FnOk (P:Program) (w:World) (K:PySem.W.Frag) (mg:Str->Option Value) (base:Heap) (CX:CXT) (k:Nat) (f:Addr) (fd:FuncData) (ps:List Str) (sp:Sp):Prop where
 len:∀ vs H Q E,sp vs H Q E->vs.length=ps.length
 run:∀ (A:Around) (outer:List Env) (s:Shared) (H:Hp) (args:Args) (us:List Value) (vs:List V) (Q:VK) (E:XK),Room k A->AJ P w K mg base A outer s H->BindsTo s fd args (ps.zip us)->Vals vs us->sp vs H Q E ->
  codeAny (model P w) A (.call (.ref f) args) (CR CX outer P w H s Q E) s
variable {mg:Str->Option Value} {base:Heap} {CX:CXT} {f:Addr} {fd:FuncData} {ps:List Str} {sp:Sp}
theorem FnOk.mono {k:Nat} (F:FnOk P w K mg base CX j f fd ps sp) (h:j≤k) :
  FnOk P w K mg base CX k f fd ps sp:=⟨F.len,λA outer s H args us vs Q E hr=>F.run A outer s H args us vs Q E (hr.mono h)⟩
section
variable {X:Cx} {pins:List (Addr × Obj)} {σ:St} {H:Hp} {s s':Shared}
theorem Inv.env0 (I:Inv X pins σ H s):AJ X.prog X.w X.K X.mg X.base X.A X.stack s H :=
 ⟨I.ok.frames,I.ok.mod,I.bs,Nat.le_trans I.ok.bsz I.sz,I.stack,I.stkFree,I.hok,I.bare⟩
theorem Inv.after {Q:VK} {u:Value} (I:Inv X pins σ H s) (h:CE X.stack X.prog X.w H s Q u s'):EP X pins σ Q u s':=by
 obtain ⟨v,H',os,bare,un,hok,r,q⟩:=h
 obtain ⟨hh,g,d,t,os'⟩:=s'
 obtain rfl:os'=s.os:=os
 exact ⟨v,H',I.call (h':=hh) (g':=g) (d':=d) (t':=t) (ch:=[]) un hok bare (λb z=>absurd z (by simp)),r,q⟩
end
noncomputable def mr (sp:Sp) (dvs:List V) (E:XK) (t:TA):TE:=λσ H Q=>t σ H λvs H1=>sp (vs++dvs) H1 Q E
noncomputable def Binds (K:PySem.W.Frag) (fd:FuncData) (ps:List Str) (ds:List Value):Prop :=
 ∀ (s:Shared) (us:List Value),K.In s.heap->(us++ds).length=ps.length->BindsTo s fd ⟨us,[]⟩ (ps.zip (us++ds))
theorem Binds.all (h:∀ us:List Value,us.length=ps.length->bindArgs fd ⟨us,[]⟩=pure (ps.zip us)):Binds K fd ps []:=λs us _ hl=>by
 rw [List.append_nil] at hl ⊢
 exact .of_eq (h us hl)
noncomputable def qm (CX:CXT) (X:Cx) (E:XK):Prop:=∀ (pins:List (Addr × Obj)) (σ:St) (H:Hp) (s:Shared) (e:Value) (s':Shared),Inv X pins σ H s->CX X.stack H s E e s'->X.xe e s'
section
variable {X:Cx} {CX:CXT} {k:Nat} {f C:Addr} {fd:FuncData} {ps:List Str} {sp:Sp} {dvs:List V} {ds:List Value} {E:XK} {x m:Str} {p pos apos:Pos} {e o:Expr} {es:List Expr} {ta:TE} {t:TA}
theorem Al {pins:List (Addr × Obj)} {σ:St} {H:Hp} {s:Shared} {Q:VK} {us:List Value} {vs:List V} (F:FnOk X.prog X.w X.K X.mg X.base CX k f fd ps sp) (hr:Room k X.A) (hb:Binds X.K fd ps ds) (hd:Vals dvs ds) (hx:qm CX X E)
  (I:Inv X pins σ H s) (r:Vals vs us) (h:sp (vs++dvs) H Q E):wpAny (model X.prog X.w) X.A (call (.ref f) us) (EP X pins σ Q) X.xe s:=by
 have r2:Vals (vs++dvs) (us++ds):=r.append hd
 have hl:(us++ds).length=ps.length:=by rw [← r2.length];exact F.len _ _ _ _ h
 refine wpAny_call (codeAny_mono (F.run X.A X.stack s H ⟨us,[]⟩ (us++ds) (vs++dvs) Q E hr I.env0 (hb s us I.kIn hl) r2 h) λr s' hq=>?_)
 cases r with
 | error e=>exact hx pins σ H s e s' I hq
 | ok fl =>
  cases fl with
  | ret u=>exact I.after hq
  | next=>exact False.elim hq
  | brk=>exact False.elim hq
  | cont=>exact False.elim hq
theorem ay (F:FnOk X.prog X.w X.K X.mg X.base CX k f fd ps sp) (hr:Room k X.A) (hg:Gl X x) (hm:X.mg x=some (.ref f)) (hk:PySem.W.keepIn X.K (.ref f)=true) (hb:Binds X.K fd ps ds) (hd:Vals dvs ds) (hx:qm CX X E)
  (ha:PA X (e::es) t) (hdb:(x == ("__debug__":Str))=false:=by decide) (he:starEach (e::es) X.env=(false,eval e X.env)::starEach es X.env:=by rfl) (hpl:(backTo pos (starEach es X.env)).any (·.1)=false:=by rfl) :
  PE X (.Call (.Name x p) (e::es) [] pos) (mr sp dvs E t):=by
 intro pins s σ H Q I h
 refine wpAny_Call_Name_kw (qO I hg hm ?_ hdb)
 refine PySem.W.callWith_K (h₀:=X.base) I.ok.mod.kin hk (thn (ha pos pins s σ H _ I h) λus s1 ⟨vs,H1,I1,r,q⟩=>⟨I1.kIn,?_⟩) he hpl
 exact Al F hr hb hd hx I1 r q
theorem zQ (F:FnOk X.prog X.w X.K X.mg X.base CX k f fd ps sp) (hr:Room k X.A) (hg:Gl X x) (hm:X.mg x=some (.ref f)) (hk:PySem.W.keepIn X.K (.ref f)=true) (hb:Binds X.K fd ps ds) (hd:Vals dvs ds) (hx:qm CX X E)
  (hdb:(x == ("__debug__":Str))=false:=by decide):PE X (.Call (.Name x p) [] [] pos) (mr sp dvs E dQ):=by
 intro pins s σ H Q I h
 refine wpAny_Call_Name_kw (qO I hg hm ?_ hdb)
 exact PySem.W.callWith_K0 I.kIn hk (Al (us:=[]) F hr hb hd hx I .nil h)
end
section
variable {X:Cx} {CX:CXT} {k:Nat} {f C:Addr} {fd:FuncData} {ps ks:List Str} {sp:Sp} {E:XK} {x m:Str} {p pos apos kpos:Pos} {e o:Expr} {es:List Expr} {kws:List Keyword} {te ta:TE} {t tk:TA} {nm:Option Str}
variable {g:List Value->List Value->List Value} {gV:List V->List V->List V}
end
structure FnScope (N P:List Str) (sc:Scope):Prop where
 kind:sc.kind=.function
 co:sc.isCoroutine=false
 gen:sc.isGenerator=false
 nd:N.Nodup
 pre:N.take P.length=P
 par:∀ x ∈ P,sc.names.lookup x=some .local\/sc.names.lookup x=some .cell
 nofree:∀ y ∈ sc.names,y.2≠.free
theorem FnScope.sc0 {N P:List Str} {sc:Scope} (a:sc.kind=.function:=by rfl) (b:sc.isCoroutine=false:=by rfl) (c:sc.isGenerator=false:=by rfl) (d:N.Nodup:=by decide +kernel) (e:N.take P.length=P:=by rfl) (f:∀ x ∈ P,sc.names.lookup x=some .local\/sc.names.lookup x=some .cell:=by decide +kernel) (g:∀ y ∈ sc.names,y.2≠.free:=by decide +kernel):FnScope N P sc:=⟨a,b,c,d,e,f,g⟩
variable {kindOf:Str->Option NameKind} {x:Str}
theorem pq:∀ {binds:List (Str × Value)} {m:Str->Option Value},(∀ v,(x,v) ∉ binds)->bindL kindOf binds m x=m x
 | [],_,_=>rfl
 | (n,v)::r,m,h=>by
  unfold bindL
  rw [pq λw hw=>h w (List.mem_cons_of_mem _ hw)]
  split
  ·have:x≠n:=by rintro rfl;exact h v List.mem_cons_self
   simp [this]
  ·rfl
theorem ph:∀ {binds:List (Str × Value)} {m:Str->Option Value},(∀ v,(x,v) ∉ binds)->bindC kindOf binds m x=m x
 | [],_,_=>rfl
 | (n,v)::r,m,h=>by
  unfold bindC
  rw [ph λw hw=>h w (List.mem_cons_of_mem _ hw)]
  split
  ·rfl
  ·have:x≠n:=by rintro rfl;exact h v List.mem_cons_self
   simp [this]
variable {v:Value}
theorem pj:∀ {P:List Str} {vs:List Value} {i:Nat} {m:Str->Option Value},P.Nodup->P[i]?=some x->vs[i]?=some v->kindOf x=some .local ->
  bindL kindOf (P.zip vs) m x=some v
 | [],_,_,_,_,h,_,_=>by simp at h
 | _::_,[],_,_,_,_,h,_=>by simp at h
 | p::P,w::vs,0,m,nd,h1,h2,hk=>by
  simp at h1 h2;subst h1;subst h2
  show bindL kindOf ((p,w)::P.zip vs) m p=_
  unfold bindL
  rw [pq λv hv=>(List.nodup_cons.mp nd).1 (List.of_mem_zip hv).1,if_pos hk]
  simp
 | p::P,w::vs,i+1,m,nd,h1,h2,hk=>by
  show bindL kindOf ((p,w)::P.zip vs) m x=_
  unfold bindL
  exact pj (i:=i) (List.nodup_cons.mp nd).2 (by simpa using h1) (by simpa using h2) hk
theorem pf:∀ {P:List Str} {vs:List Value} {i:Nat} {m:Str->Option Value},P.Nodup->P[i]?=some x->vs[i]?=some v->kindOf x≠some .local ->
  bindC kindOf (P.zip vs) m x=some v
 | [],_,_,_,_,h,_,_=>by simp at h
 | _::_,[],_,_,_,_,h,_=>by simp at h
 | p::P,w::vs,0,m,nd,h1,h2,hk=>by
  simp at h1 h2;subst h1;subst h2
  show bindC kindOf ((p,w)::P.zip vs) m p=_
  unfold bindC
  rw [ph λv hv=>(List.nodup_cons.mp nd).1 (List.of_mem_zip hv).1,if_neg hk]
  simp
 | p::P,w::vs,i+1,m,nd,h1,h2,hk=>by
  show bindC kindOf ((p,w)::P.zip vs) m x=_
  unfold bindC
  exact pf (i:=i) (List.nodup_cons.mp nd).2 (by simpa using h1) (by simpa using h2) hk
noncomputable def gD (N:List Str) (vs:List V):St:=vs.map some++List.replicate (N.length - vs.length) none
noncomputable def xk (CX:CXT) (P:Program) (w:World) (K:PySem.W.Frag) (mg:Str->Option Value) (base:Heap) (N:List Str) (qual:Str) (scope:Scope) (f:Addr) (cd:Value) (A:Around) (outer:List Env) (s:Shared) (H:Hp) (E:XK):Cx where
 prog:=P
 w:=w
 K:=K
 mg:=mg
 base:=base
 A:=A.deeper (envOfC qual scope s.heap.objs.size f cd)
 N:=N
 s₀:=s
 H₀:=H
 env:=envOfC qual scope s.heap.objs.size f cd
 outer:=outer
 stack:=envOfC qual scope s.heap.objs.size f cd::outer
 ex:=[]
 calm:=true
 fn:=λ_=>true
 pn:=[]
 xe:=λe s'=>wpAny (model P w) (A.deeper (envOfC qual scope s.heap.objs.size f cd)) (leaving (envOfC qual scope s.heap.objs.size f cd) e) (λ_ s''=>CX outer H s E e s'') (λe' s''=>CX outer H s E e' s'') s'
theorem sA {sc:Scope} (h:sc.names.lookup x=some .cell):∃ c,(cellsFrom n sc.names []).lookup x=some c:=by
 have q:=PySem.W.cellsFrom_some sc.names n [] (.inl h)
 exact Option.isSome_iff_exists.mp q
variable {N:List Str} {qual:Str} {scope:Scope}
theorem xr {cd:Value} {outer:List Env} {s1:Shared} {E:XK} {vs:List V}
  (S:FnScope N ps scope) (hd:A.handled=none) (e0:AJ P w K mg base A outer s H) (hl:vs.length=ps.length) (r:Vals vs us)
  (x:InCallC s s.heap.objs.size (bindL (envOfC qual scope s.heap.objs.size f cd).kindOf (ps.zip us) λ_=>none) (cellsFrom (s.heap.objs.size+1) scope.names []) (bindC (envOfC qual scope s.heap.objs.size f cd).kindOf (ps.zip us) λ_=>none) s1) :
  Inv (xk CX P w K mg base N qual scope f cd A outer s H E) [] (gD N vs) H s1:=by
 have hpl:ps.length≤N.length:=by have:=congrArg List.length S.pre;rw [List.length_take] at this;omega
 obtain ⟨h1,tk,rfl,hk⟩:=x.done
 have noA:∀ b:Addr,b ∉ (xk CX P w K mg base N qual scope f cd A outer s H E).ex:=λb z=>absurd (show b ∈ ([]:List Addr) from z) (by simp)
 refine ⟨⟨e0.mod,S.kind,rfl,rfl,Nat.le_refl _,λy z c h1 h2=>?_,λy hy=>?_,λy c _ h=>?_,λ_=>hd,Around.frames_deeper e0.frames,.inr ⟨rfl,rfl⟩,λb z=>absurd z (noA b),e0.bs,e0.bsz,λb _ _=>noA b,λb z=>absurd z (noA b),e0.funs,e0.frf⟩,
  rfl,e0.bare,Un.kept hk,⟨_,x.toInCall.ns,λi y v h1 h2 h3=>?_⟩,λy c h=>⟨_,x.cell y c h⟩,e0.hok.fresh (Nat.le_refl _),λy c h=>?_,λp hp=>absurd (show p ∈ ([]:List (Addr × Obj)) from hp) (by simp),e0.hok.kept hk,?_⟩
 ·exact name_of_addr x.apart (PySem.mem_of_lookup h1) (PySem.mem_of_lookup h2)
 ·have hy:scope.names.lookup y=some .cell\/scope.names.lookup y=some .free:=hy
  rcases hy with hy | hy
  ·exact sA hy
  ·exact absurd rfl (S.nofree _ (PySem.mem_of_lookup hy))
 ·exact Nat.le_of_lt (x.above y c (PySem.mem_of_lookup h))
 ·have hi:i < vs.length:=by
   unfold gD at h2
   by_cases hi:i < vs.length
   ·exact hi
   ·rw [List.getElem?_append_right (by simpa using hi)] at h2
    rw [List.getElem?_replicate] at h2
    split at h2 <;> cases h2
  have ha:vs[i]?=some v:=by
   unfold gD at h2
   rw [List.getElem?_append_left (by simpa using hi),List.getElem?_map] at h2
   cases e:vs[i]? with
   | none=>rw [e] at h2;cases h2
   | some a=>rw [e] at h2;cases h2;rfl
  obtain ⟨u,hu,rv⟩:=r.get ha
  have hp:ps[i]?=some y:=by
   rw [← S.pre,List.getElem?_take_of_lt (by omega)];exact h1
  have ndP:ps.Nodup:=by rw [← S.pre];exact S.nd.sublist (List.take_sublist _ _)
  refine ⟨u,rv,?_⟩
  rcases S.par y (List.mem_of_getElem? hp) with k | k
  ·exact .inl ⟨k,pj ndP hp hu k⟩
  ·obtain ⟨c,e⟩:=sA (n:=s.heap.objs.size+1) k
   refine .inr ⟨.inl k,c,e,?_⟩
   have q:=x.cell y c e
   rw [pf ndP hp hu (by show scope.names.lookup y≠_;rw [k];decide)] at q
   exact q
 ·exact e0.hok.fresh (Nat.le_of_lt (x.above y c (PySem.mem_of_lookup h)))
 ·unfold gD
  show _=N.length
  rw [List.length_append,List.length_map,List.length_replicate]
  omega
theorem DW {k:Nat} {name:Str} {params:Arguments} {body:List Stmt} {dV kV doc pm cdv ct oc:Value} {an od:Option Addr} {osl:Array (Option Value)} (lk:K.lookup f=some ⟨oc,od,.func (PySem.W.fnOf name qual params body scope dV kV doc pm an cdv ct),osl⟩) (hcd:PySem.W.codeIn K cdv qual=true) (S:FnScope N ps scope)
  (len:∀ vs H Q E,sp vs H Q E->vs.length=ps.length)
  (hbody:∀ (A:Around) (outer:List Env) (s:Shared) (H:Hp) (vs:List V) (Q:VK) (E:XK),Room k (A.deeper (envOfC qual scope s.heap.objs.size f cdv))->sp vs H Q E ->
   ∃ t,PSs (xk CX P w K mg base N qual scope f cdv A outer s H E) body t/\t { nx:=λ_ H'=>Q .non H',rt:=Q } (gD N vs) H) :
  FnOk P w K mg base CX (k+1) f (PySem.W.fnOf name qual params body scope dV kV doc pm an cdv ct) ps sp:=by
 refine ⟨len,λA outer s H args us vs Q E hr e0 hb r hsp=>?_⟩
 have hl:=len _ _ _ _ hsp
 have KX:K.In s.heap:=e0.mod.kin.keeps λb o e=>(e0.bs b o e).1
 have lim:s.heap.NoLimit:=e0.mod.nolimit.keeps λb o e=>(e0.bs b o e).1
 have hkind:∀ y ∈ ps.zip us,scope.names.lookup y.1=some .local\/(scope.names.lookup y.1=some .cell/\((cellsFrom (s.heap.objs.size+1) scope.names []).lookup y.1).isSome=true):=λzq hy=>by
  obtain ⟨n,v⟩:=zq
  rcases S.par n (List.of_mem_zip hy).1 with q | q
  ·exact .inl q
  ·exact .inr ⟨q,PySem.W.cellsFrom_some _ _ _ (.inl q)⟩
 refine codeAny_call_function hr.depth (KX _ _ lk) rfl S.co S.gen rfl (PySem.W.codeRec_of KX hcd) (hb _ _ _ _ ?_)
 refine wpAny_newFunctionEnv_cells S.kind hkind λenv he s1 x=>?_
 subst he
 refine ⟨lim.keeps x.toInCall.keep,codeAny_func ?_⟩
 obtain ⟨t,ht,hq⟩:=hbody A outer s H vs Q E (hr.deeper _) hsp
 have I:Inv (xk CX P w K mg base N qual scope f cdv A outer s H E) [] (gD N vs) H s1:=xr S hr.hd e0 hl r x
 refine wpAny_mono (ht [] s1 (gD N vs) H _ I hq) (λfl s' hs=>?_) λe s' hs=>hs
 have fin:∀ {σ':St} {H':Hp} {v:V} {u:Value},Inv (xk CX P w K mg base N qual scope f cdv A outer s H E) [] σ' H' s'->RelV v u->Q v H'->CE outer P w H s Q u s' :=
  λ{σ' H' v u} J rv q=>⟨v,H',J.os,J.bare,J.base,J.hok,rv,q⟩
 cases fl with
 | ret u =>
  obtain ⟨v,σ',H',J,rv,q⟩:=hs
  exact fin J rv q
 | next =>
  obtain ⟨σ',H',J,q⟩:=hs
  exact fin (v:=V.non) (u:=Value.none) J rfl q
 | brk =>
  obtain ⟨_,_,_,q⟩:=hs
  exact False.elim q
 | cont =>
  obtain ⟨_,_,_,q⟩:=hs
  exact False.elim q
section
variable {X:Cx} {x:Str} {p pos:Pos} {e:Expr} {es:List Expr} {t:TA} {id T:String} {r:List V->Hp->VK->Prop}
noncomputable def tCB (r:List V->Hp->VK->Prop) (t:TA):TE:=λσ H Q=>t σ H λvs H1=>r vs H1 Q
theorem aT (hc:h9 X (.builtin id) r) (hg:Gl X x) (hm:X.mg x=none) (hv:bootBuiltins x=some (.builtin id)) (ha:PA X (e::es) t) (hn:x≠"__name__":=by decide) (hdb:(x == ("__debug__":Str))=false:=by decide)
  (he:starEach (e::es) X.env=(false,eval e X.env)::starEach es X.env:=by rfl) (hpl:(backTo pos (starEach es X.env)).any (·.1)=false:=by rfl):PE X (.Call (.Name x p) (e::es) [] pos) (tCB r t):=by
 intro pins s σ H Q I h
 refine wpAny_Call_Name_kw (jD I hg hm hv ?_ hn hdb)
 exact PyProof.Rows.callWith_builtin1 (thn (ha pos pins s σ H _ I h) λus s1 ⟨vs,H1,I1,r1,q1⟩=>hc pins s1 σ H1 vs us Q I1 r1 q1) he hpl
theorem dS (hc:h9 X (.type T) r) (hg:Gl X x) (hm:X.mg x=none) (hv:bootBuiltins x=some (.type T)) (ha:PA X (e::es) t) (hn:x≠"__name__":=by decide) (hdb:(x == ("__debug__":Str))=false:=by decide)
  (he:starEach (e::es) X.env=(false,eval e X.env)::starEach es X.env:=by rfl) (hpl:(backTo pos (starEach es X.env)).any (·.1)=false:=by rfl):PE X (.Call (.Name x p) (e::es) [] pos) (tCB r t):=by
 intro pins s σ H Q I h
 refine wpAny_Call_Name_kw (jD I hg hm hv ?_ hn hdb)
 exact PyProof.Rows.callWith_type1 (thn (ha pos pins s σ H _ I h) λus s1 ⟨vs,H1,I1,r1,q1⟩=>hc pins s1 σ H1 vs us Q I1 r1 q1) he hpl
end
end L2
namespace HT
open PySem PyProof.Rows
section
open PySem.SeqAt
open PySem.AutoSeq1 (wpAny_loadPart')
open PySem.MeetsSeq PySem.MeetsSeq2 PySem.MeetsSeq3
end
section
variable {prog:Program} {w:World} {A:Around} {E:Value->Shared->Prop} {s:Shared}
variable {t:Addr}
theorem cat_tup {b:Addr} {vs ws:List Value} {Q:Value->Shared->Prop} (ht:IsTup s.heap t vs.toArray) (hb:IsTup s.heap b ws.toArray) (hv:vs≠[])
  (h1:ws=[]->Q (.ref t) s) (h2:ws≠[]->Q (.ref s.heap.objs.size) { s with heap:=s.heap.push { cls:=.type "tuple",data:=.seq (vs++ws).toArray } })
  (hsz:vs.length+ws.length≤sizeLine):wpAny (model prog w) A (binaryOp .Add (.ref t) (.ref b)) Q E s:=by
 obtain ⟨⟨cls,dd,data,sl⟩,ho,hc,n,hd⟩:=id ht
 obtain ⟨⟨cls2,dd2,data2,sl2⟩,ho2,hc2,n2,hd2⟩:=id hb
 simp only at hc hd hc2 hd2
 subst hc hd hc2 hd2
 have e:vs.toArray++ws.toArray=(vs++ws).toArray:=by simp
 by_cases hw:ws=[]
 ·exact concat_meets ⟨_,ho,rfl⟩ ⟨_,ho2,rfl⟩ noFill_tuple_add seq_tuple_add PySem.F.slot_tuple_add PySem.F.entry_tuple_add (PySem.F.args_tuple_add_2 _ _)
   (tuple_addW1 t b vs.toArray ws.toArray n n2 dd dd2 sl sl2 (by simpa using hv) (by simp [hw])) ⟨ho,ho2,h1 hw⟩
 ·refine concat_meets ⟨_,ho,rfl⟩ ⟨_,ho2,rfl⟩ noFill_tuple_add seq_tuple_add PySem.F.slot_tuple_add PySem.F.entry_tuple_add (PySem.F.args_tuple_add_2 _ _)
   (tuple_addW2 t b vs.toArray ws.toArray n n2 dd dd2 sl sl2 (by simpa using hv) (by simpa using hw) (by rw [List.size_toArray,List.size_toArray];exact hsz)) ⟨ho,ho2,?_⟩
  rw [e]
  exact h2 hw
noncomputable def sIx (n d:Nat):Option Int->Nat
 | none=>d
 | some v=>if v < 0 then (v+(n:Int)).toNat else min v.toNat n
theorem sIx_none (n d:Nat):sIx n d none=d:=rfl
theorem sIx_nat (n d k:Nat):sIx n d (some (k:Int))=min k n:=by
 show (if (k:Int) < 0 then ((k:Int)+(n:Int)).toNat else min (k:Int).toNat n)=min k n
 rw [if_neg (by omega),Int.toNat_natCast]
theorem DC (n d:Nat) (hd:d≤n) (o:Option Int):sIx n d o≤n:=by
 cases o with
 | none=>exact hd
 | some v =>
  show (if v < 0 then (v+(n:Int)).toNat else min v.toNat n)≤n
  by_cases hv:v < 0
  ·rw [if_pos hv];omega
  ·rw [if_neg hv];exact Nat.min_le_right _ _
theorem vF (v:Int) (n d:Nat):(if v < 0 then max (v+(n:Int)) 0 else min v (n:Int))=((sIx n d (some v):Nat):Int):=by
 show (if v < 0 then max (v+(n:Int)) 0 else min v (n:Int))=(((if v < 0 then (v+(n:Int)).toNat else min v.toNat n):Nat):Int)
 by_cases hv:v < 0
 ·simp only [if_pos hv];omega
 ·simp only [if_neg hv];omega
theorem uw (lo hi:Option Int) (n:Nat):Builtin.Slice.sliceAdjust lo hi 1 (n:Int)=(((sIx n 0 lo:Nat):Int),((sIx n n hi:Nat):Int)):=by
 have h1:¬ ((1:Int) < 0):=by omega
 unfold Builtin.Slice.sliceAdjust
 simp only [h1,if_false]
 refine Prod.ext ?_ ?_
 ·cases lo with
  | none=>rfl
  | some v=>exact vF v n 0
 ·cases hi with
  | none=>rfl
  | some v=>exact vF v n n
theorem uX (i j:Nat):Builtin.Slice.slicePlaces (i:Int) (j:Int) 1=j - i:=by
 unfold Builtin.Slice.slicePlaces
 have h1:(1:Int) > 0:=by omega
 simp only [h1,if_true,Int.ediv_one]
 split <;> omega
theorem oz {v:Value} {o:Option Int} {Q:Option Int->Shared->Prop} (p:IsPart v o) (h:Q o s):wpAny (model prog w) A (Builtin.Slice.slicePartIndex v) Q E s:=by
 cases p with
 | none=>exact slicePart_none h
 | int i t=>exact slicePart_int h
variable {sl:Addr} {vl vu:Value} {lo hi:Option Int}
theorem lS {n:Nat} {Q:Int × Int × Nat->Shared->Prop} (hs:s.heap.IsSliceOf sl vl vu .none) (pl:IsPart vl lo) (pu:IsPart vu hi)
  (h:Q (((sIx n 0 lo:Nat):Int),1,sIx n n hi - sIx n 0 lo) s):wpAny (model prog w) A (Builtin.Slice.sliceApplied (.ref sl) (pure (n:Int))) Q E s:=by
 obtain ⟨os,hos,hcs,hds⟩:=id hs
 unfold Builtin.Slice.sliceApplied Builtin.Slice.sliceFields
 refine wpAny_bind (wpAny_bind (wpAny_field hos hds (x:=vl) rfl (wpAny_bind (wpAny_field hos hds (x:=vu) rfl (wpAny_bind (wpAny_field hos hds (x:=.none) rfl (wpAny_pure ?_)))))))
 refine wpAny_bind (slicePart_none ?_)
 show wpAny _ _ (if ((1:Int) == 0)=true then _ else _) _ _ s
 rw [if_neg (by decide)]
 refine wpAny_bind (oz pl (wpAny_bind (oz pu (wpAny_bind (wpAny_pure ?_)))))
 show wpAny _ _ (match Builtin.Slice.sliceAdjust lo hi 1 (n:Int) with | (lo,hi)=>pure (lo,(1:Int),Builtin.Slice.slicePlaces lo hi 1)) _ _ s
 rw [uw lo hi n]
 show wpAny _ _ (pure (((sIx n 0 lo:Nat):Int),(1:Int),Builtin.Slice.slicePlaces ((sIx n 0 lo:Nat):Int) ((sIx n n hi:Nat):Int) 1)) _ _ s
 rw [uX]
 exact wpAny_pure h
theorem zV (xs:Array Value) (i k:Nat):((List.range k).filterMap λ(m:Nat)=>xs[((i:Int)+(m:Int) * 1).toNat]?).toArray=((xs.toList.drop i).take k).toArray:=by
 have e:(λ(m:Nat)=>xs[((i:Int)+(m:Int) * 1).toNat]?)=λm=>xs[i+m]?:=by
  funext m
  have:((i:Int)+(m:Int) * 1).toNat=i+m:=by omega
  rw [this]
 rw [e]
 have:=pick_run xs i k
 rw [List.filterMap_map] at this
 have e2:((λx=>xs[x]?) ∘ λx=>i+x)=λm=>xs[i+m]?:=rfl
 rw [e2] at this
 rw [this]
theorem getItem_tuple_cut {items:Array Value} {Q:Value->Shared->Prop} (ht:IsTup s.heap t items) (hs:s.heap.IsSliceOf sl vl vu .none) (pl:IsPart vl lo) (pu:IsPart vu hi)
  (hw:¬ (sIx items.size 0 lo=0/\sIx items.size items.size hi=items.size))
  (h:Q (.ref s.heap.objs.size) { s with heap:=s.heap.push { cls:=.type "tuple",data:=.seq ((items.toList.drop (sIx items.size 0 lo)).take (sIx items.size items.size hi - sIx items.size 0 lo)).toArray } })
  (hsz:items.size≤sizeLine):wpAny (model prog w) A (getItem (.ref t) (.ref sl)) Q E s:=by
 have htake:sizeOk (.seq ((items.toList.drop (sIx items.size 0 lo)).take (sIx items.size items.size hi - sIx items.size 0 lo)).toArray):=by
  show ((items.toList.drop (sIx items.size 0 lo)).take (sIx items.size items.size hi - sIx items.size 0 lo)).toArray.size≤sizeLine
  rw [List.size_toArray,List.length_take,List.length_drop,Array.length_toList]
  omega
 have hj:sIx items.size items.size hi≤items.size:=DC _ _ (Nat.le_refl _) hi
 obtain ⟨os,hos,hcs,hds⟩:=id hs
 have hTs:s.TypeIs (.ref sl) "slice":=⟨os,hos,hcs⟩
 unfold getItem
 try with_reducible refine wpAny_holding ?_
 first | refine wpAny_bind (wpAny_pure ?_) | skip
 refine wpAny_bind (wpAny_sequenceKey ht.typeIs (by decide) ?_)
 refine wpAny_bind (wpAny_callSpecial?_slot (name:=Str.ofString "__getitem__") ht.typeIs PyProof.Rows.slot_tuple_getitem
  (wpAny_call_entry PyProof.Rows.slot_tuple_getitem ht.typeIs entry_tuple_getitem ?_ (args_tuple_getitem _ _)))
 show wpAny _ _ (Builtin.Tuple.tupleItemsOf (.ref t) >>= _) _ _ s
 refine wpAny_bind (tupleItemsOf_ ht ?_)
 refine wpAny_bind (wpAny_typeOf hTs ?_)
 rw [if_pos (by decide)]
 refine wpAny_bind (lS hs pl pu ?_)
 have hno:¬ ((((sIx items.size 0 lo:Nat):Int) == 0 && (1:Int) == 1 && (sIx items.size items.size hi - sIx items.size 0 lo) == items.size)=true):=by
  intro q
  rw [Bool.and_eq_true,Bool.and_eq_true] at q
  have q1:((sIx items.size 0 lo:Nat):Int)=0:=eq_of_beq q.1.1
  have q2:sIx items.size items.size hi - sIx items.size 0 lo=items.size:=eq_of_beq q.2
  exact hw ⟨by omega,by omega⟩
 show wpAny _ _ (if (((sIx items.size 0 lo:Nat):Int) == 0 && (1:Int) == 1 && (sIx items.size items.size hi - sIx items.size 0 lo) == items.size)=true then _ else _) _ _ s
 rw [if_neg hno,zV]
 first
  | exact wpAny_bind (m:=Builtin.Tuple.tupleExact _) (wpAny_newObj_type (wpAny_pure ⟨_,rfl,wpAny_pure h⟩) htake)
  | exact wpAny_bind (m:=Builtin.Tuple.tupleExact _) (wpAny_newObj_type (wpAny_bind (wpAny_pure (wpAny_pure ⟨_,rfl,wpAny_pure h⟩))) htake)
  | exact wpAny_bind (wpAny_bind (m:=Builtin.Tuple.tupleExact _) (wpAny_newObj_type (wpAny_pure (wpAny_pure ⟨_,rfl,wpAny_pure h⟩)) htake))
  | exact wpAny_bind (wpAny_bind (m:=Builtin.Tuple.tupleExact _) (wpAny_newObj_type (wpAny_pure ⟨_,rfl,wpAny_pure h⟩) htake))
end
end HT
namespace L2
open PySem PySem.Spec PyProof.Rows
noncomputable abbrev TO:=St->Hp->(Option Int->Hp->Prop)->Prop
noncomputable def PO (X:Cx) (e:Option Expr) (t:TO):Prop :=
 ∀ (pins:List (Addr × Obj)) (s:Shared) (σ:St) (H:Hp) (Q:Option Int->Hp->Prop),Inv X pins σ H s->t σ H Q ->
  wpAny (model X.prog X.w) X.A (evalPart e X.env) (λu s'=>∃ o H',Inv X pins σ H' s'/\IsPart u o/\Q o H') X.xe s
noncomputable def rP:TO:=λ_ H Q=>Q none H
noncomputable def uj (t:TE):TO:=λσ H Q=>t σ H λx H1=>∃ i,x=.int i/\Q (some i) H1
section
variable {X:Cx} {e:Expr} {te:TE} {lo hi:Option Expr} {tl th:TO} {pos p2:Pos}
theorem jN:PO X none rP:=by
 intro pins s σ H Q I h
 rw [evalPart_none]
 exact wpAny_pure ⟨none,H,I,.none,h⟩
theorem ik (h:PE X e te):PO X (some e) (uj te):=by
 intro pins s σ H Q I hw
 rw [evalPart_some]
 refine thn (h pins s σ H _ I hw) λu s1 ⟨x,H1,I1,r1,q1⟩=>?_
 obtain ⟨i,rfl,q⟩:=q1
 obtain ⟨t,rfl⟩:=r1
 exact ⟨some i,H1,I1,.int i t,q⟩
noncomputable def SlR (X:Cx) (r:V->Option Int->Option Int->Hp->VK->Prop):Prop :=
 ∀ (pins:List (Addr × Obj)) (s:Shared) (σ:St) (H:Hp) (x:V) (v vl vu:Value) (lo hi:Option Int) (sl:Addr) (Q:VK),Inv X pins σ H s->RelV x v->s.heap.IsSliceOf sl vl vu .none->IsPart vl lo->IsPart vu hi->r x lo hi H Q ->
  ∃ T id,typeLookup (.type T) "__getitem__"=pure (some (.builtin id))/\s.TypeIs v T/\wpAny (model X.prog X.w) X.A (getItem v (.ref sl)) (EP X pins σ Q) X.xe s
noncomputable def tSl (r:V->Option Int->Option Int->Hp->VK->Prop) (te:TE) (tl th:TO):TE:=λσ H Q=>te σ H λx H1=>tl σ H1 λl H2=>th σ H2 λu H3=>r x l u H3 Q
theorem hU {r:V->Option Int->Option Int->Hp->VK->Prop} (hr:SlR X r) (he:PE X e te) (hl:PO X lo tl) (hu:PO X hi th):PE X (.Subscript e (.Slice lo hi none p2) pos) (tSl r te tl th):=by
 intro pins s σ H Q I h
 refine Subscript_ (thn (he pins s σ H _ I h) λv s1 ⟨x,H1,I1,r1,q1⟩=>?_)
 refine wpAny_Slice (thn (hl pins s1 σ H1 _ I1 q1) λvl s2 ⟨l,H2,I2,pl,q2⟩=>thn (hu pins s2 σ H2 _ I2 q2) λvu s3 ⟨u,H3,I3,pu,q3⟩=>?_)
 rw [evalPart_none]
 refine wpAny_pure ?_
 have I4:Inv X pins σ H3 { s3 with heap:=s3.heap.push { cls:=.type "slice",data:=.fields #[vl,vu,.none] } }:=I3.kept (t':=s3.toks) λb ob q=>Heap.get?_push_of_some _ q
 obtain ⟨T,id,hT,ht,hg⟩:=hr pins { s3 with heap:=s3.heap.push { cls:=.type "slice",data:=.fields #[vl,vu,.none] } } σ H3 x v vl vu l u s3.heap.objs.size Q I4 r1 (Heap.IsSliceOf.new ..) pl pu q3
 show wpAny (model X.prog X.w) X.A (subscriptTail e (.Slice lo hi none p2) v (.ref s3.heap.objs.size)) (EP X pins σ Q) X.xe { s3 with heap:=s3.heap.push { cls:=.type "slice",data:=.fields #[vl,vu,.none] } }
 exact tail_any (ops:=[.ref s3.heap.objs.size,v]) ht hT hg (by with_unfolding_all rfl)
noncomputable def mB (xs:List V) (lo hi:Option Int):List V:=(xs.drop (HT.sIx xs.length 0 lo)).take (HT.sIx xs.length xs.length hi - HT.sIx xs.length 0 lo)
theorem mi (xs:List V) (lo hi:Option Int):(mB xs lo hi).length≤xs.length:=by
 unfold mB
 rw [List.length_take,List.length_drop]
 omega
noncomputable def Du (K:PySem.W.Frag):V->Option Int->Option Int->Hp->VK->Prop:=λx lo hi H Q=>∃ a xs,x=.ref a/\SqT K H a xs /\
 ¬ (HT.sIx xs.length 0 lo=0/\HT.sIx xs.length xs.length hi=xs.length)/\∀ p,H p=none->Q (.ref p) (upd H p (.tup (mB xs lo hi)))
theorem lR:SlR X (Du X.K):=by
 intro pins s σ H x v vl vu lo hi sl Q I rx hs pl pu h
 obtain ⟨a,xs,rfl,hx,hw,q⟩:=h
 cases rx
 obtain ⟨its,r,ht,hz⟩:=I.tuple hx
 have hlen:its.toArray.size=xs.length:=by rw [List.size_toArray];exact r.length.symm
 refine ⟨"tuple",_,PyProof.Rows.slot_tuple_getitem.lookup,ht.typeIs,?_⟩
 refine HT.getItem_tuple_cut ht hs pl pu (by rw [hlen];exact hw) ?_ (by rw [hlen];exact hz)
 rw [hlen]
 refine ⟨.ref s.heap.objs.size,_,I.laid (t':=s.toks) (o:=.tup (mB xs lo hi)) (λb ob q=>Heap.get?_push_of_some _ q) (Nat.le_refl _) ?_,rfl,q _ (I.hok.fresh (Nat.le_refl _))⟩
 exact ⟨Nat.le_trans (mi xs lo hi) hz,_,(r.drop (HT.sIx xs.length 0 lo)).take (HT.sIx xs.length xs.length hi - HT.sIx xs.length 0 lo),IsTup.new _ _⟩
noncomputable def Cd (K:PySem.W.Frag):R2:=λx y H Q=>∃ a b xs ys,x=.ref a/\y=.ref b/\SqT K H a xs/\SqT K H b ys/\xs≠[]/\xs.length+ys.length≤sizeLine /\
 (ys=[]->Q (.ref a) H)/\(ys≠[]->∀ p,H p=none->Q (.ref p) (upd H p (.tup (xs++ys))))
theorem Vals.nil_iff {xs:List V} {us:List Value} (r:Vals xs us):us=[]↔xs=[]:=by
 cases r with
 | nil=>simp
 | cons _ _=>simp
theorem wm:OpR X (binaryOp .Add) (Cd X.K):=by
 intro pins s σ H x y v u Q I rx ry h
 obtain ⟨a,b,xs,ys,rfl,rfl,ha,hb,hx,hz,q1,q2⟩:=h
 cases rx
 cases ry
 obtain ⟨its,r1,p1,_⟩:=I.tuple ha
 obtain ⟨its2,r2,p2,_⟩:=I.tuple hb
 refine HT.cat_tup p1 p2 (λz=>hx (r1.nil_iff.mp z)) (λz=>⟨.ref a,H,I,rfl,q1 (r2.nil_iff.mp z)⟩) (λz=>?_) (by rw [← r1.length,← r2.length];exact hz)
 refine ⟨.ref s.heap.objs.size,_,I.laid (t':=s.toks) (o:=.tup (xs++ys)) (λb ob q=>Heap.get?_push_of_some _ q) (Nat.le_refl _) ?_,rfl,q2 (λw=>z (r2.nil_iff.mpr w)) _ (I.hok.fresh (Nat.le_refl _))⟩
 exact ⟨by rw [List.length_append];exact hz,_,r1.append r2,IsTup.new _ _⟩
end
noncomputable def ixN (n:Nat) (i:Int):Option Nat:=if 0≤i then (if i < n then some i.toNat else none) else if -(n:Int)≤i then some (i+n).toNat else none
noncomputable def atI {α:Type} (xs:List α) (i:Int):Option α:=(ixN xs.length i).bind λj=>xs[j]?
variable {i:Int} {j:Nat}
theorem vX {n:Nat} (h:ixN n i=some j):seqIndex? i n=some j/\j < n/\-(n:Int)≤i/\i < n:=by
 unfold ixN at h
 by_cases h0:0≤i
 ·rw [if_pos h0] at h
  by_cases h1:i < n
  ·rw [if_pos h1] at h
   have e:i.toNat=j:=Option.some.inj h
   exact ⟨by rw [seqIndex_of h0 h1,e],by omega,by omega,h1⟩
  ·rw [if_neg h1] at h;cases h
 ·rw [if_neg h0] at h
  by_cases h1:-(n:Int)≤i
  ·rw [if_pos h1] at h
   have e:(i+n).toNat=j:=Option.some.inj h
   exact ⟨by rw [seqIndex_neg (by omega) h1,e],by omega,h1,by omega⟩
  ·rw [if_neg h1] at h;cases h
theorem vC {α:Type} {xs:List α} {v:α} (h:atI xs i=some v):∃ j,seqIndex? i xs.length=some j/\xs[j]?=some v/\j < xs.length/\-(xs.length:Int)≤i/\i < xs.length:=by
 unfold atI at h
 cases e:ixN xs.length i with
 | none=>rw [e] at h;cases h
 | some j =>
  rw [e] at h
  obtain ⟨h1,h2,h3,h4⟩:=vX e
  exact ⟨j,h1,h,h2,h3,h4⟩
theorem ia {α:Type} {xs:List α} {v:α} (h:xs[j]?=some v):atI xs (j:Int)=some v:=by
 have hj:j < xs.length:=(List.getElem?_eq_some_iff.mp h).1
 have e:ixN xs.length (j:Int)=some j:=by
  unfold ixN
  rw [if_pos (by omega),if_pos (by omega)];simp
 unfold atI;rw [e];exact h
theorem yv {α:Type} (xs:List α) (v:α):atI (xs++[v]) (-1)=some v:=by
 have hl:(xs++[v]).length=xs.length+1:=by simp
 have e:ixN (xs++[v]).length (-1)=some xs.length:=by
  unfold ixN
  rw [hl,if_neg (by decide),if_pos (by omega)]
  congr 1
  omega
 unfold atI
 rw [e]
 show (xs++[v])[xs.length]?=some v
 simp
noncomputable def AL (b:Expr):Prop:=∀ o i,subscripted b false o i=operate [o,i] (getItem o i)
noncomputable def IxR (X:Cx) (r:R2):Prop :=
 ∀ (value slice:Expr) (pins:List (Addr × Obj)) (s:Shared) (σ:St) (H:Hp) (x y:V) (v u:Value) (Q:VK),Inv X pins σ H s->RelV x v->RelV y u->r x y H Q ->
  subscripted slice false v u=operate [v,u] (getItem v u)->wpAny (model X.prog X.w) X.A (subscriptTail value slice v u) (EP X pins σ Q) X.xe s
noncomputable def MtR (X:Cx) (id:String) (r:V->List V->Hp->VK->Prop):Prop :=
 ∀ (pins:List (Addr × Obj)) (s:Shared) (σ:St) (H:Hp) (x:V) (xs:List V) (v:Value) (us:List Value) (Q:VK),Inv X pins σ H s->RelV x v->Vals xs us->r x xs H Q ->
  wpAny (model X.prog X.w) X.A (call (.builtin id) (v::us)) (EP X pins σ Q) X.xe s
section
variable {X:Cx} {a b:Expr} {ta tb:TE} {pos:Pos}
theorem aN {r:R2} (hr:IxR X r) (ha:PE X a ta) (hb:PE X b tb) (hs:AL b):PE X (.Subscript a b pos) (tOp r ta tb):=by
 intro pins s σ H Q I h
 exact Subscript_ (CK ha hb I h λv u s2 x y H2 I2 rx ry q=>hr a b pins s2 σ H2 x y v u Q I2 rx ry q (hs _ _))
noncomputable def zZ (K:PySem.W.Frag):R2:=λx y H Q=>∃ p xs i v,x=.ref p/\y=.int i/\SqL K H p xs/\atI xs i=some v/\Q v H
noncomputable def tZ (K:PySem.W.Frag):R2:=λx y H Q=>∃ p xs i v,x=.ref p/\y=.int i/\SqT K H p xs/\atI xs i=some v/\Q v H
theorem bM:IxR X (zZ X.K):=by
 intro value slice pins s σ H x y v u Q I rx ry h hs
 obtain ⟨p,xs,i,z,rfl,rfl,hq,he,q⟩:=h
 cases rx
 obtain ⟨t,rfl⟩:=ry
 obtain ⟨its,r,pl,hz⟩:=I.list hq
 obtain ⟨j,h1,h2,h3,h4,h5⟩:=vC he
 obtain ⟨w,ew,rw'⟩:=r.get h2
 have hl:=r.length
 have hn:=kn
 have fin:EP X pins σ Q w s:=⟨z,H,I,rw',q⟩
 by_cases h0:0≤i
 ·have hj:i.toNat=j:=by
   rw [seqIndex_of h0 h5] at h1
   exact Option.some.inj h1
  exact item_listR pl.isList h0 (by omega) (by rw [hj];simpa using ew) fin hs
 ·have hj:(i+(its.toArray.size:Int)).toNat=j:=by
   rw [seqIndex_neg (by omega) h4] at h1
   rw [List.size_toArray,← hl]
   exact Option.some.inj h1
  exact subscriptTail_builtinR (x:=w) pl.isList.typeIs slot_list_getitem.lookup
   (wpAny_getItem_list_neg (Q:=λr s'=>r=w/\EP X pins σ Q r s') pl.isList (by omega) (by rw [List.size_toArray] <;> omega) (by omega) (by rw [hj];simpa using ew) ⟨rfl,fin⟩) hs
theorem aS:IxR X (tZ X.K):=by
 intro value slice pins s σ H x y v u Q I rx ry h hs
 obtain ⟨p,xs,i,z,rfl,rfl,hq,he,q⟩:=h
 cases rx
 obtain ⟨t,rfl⟩:=ry
 obtain ⟨its,r,pl,hz⟩:=I.tuple hq
 obtain ⟨j,h1,h2,h3,h4,h5⟩:=vC he
 obtain ⟨w,ew,rw'⟩:=r.get h2
 have hl:=r.length
 have hn:=kn
 have fin:EP X pins σ Q w s:=⟨z,H,I,rw',q⟩
 exact subscriptTail_builtinR (x:=w) pl.typeIs slot_tuple_getitem.lookup
  (getItem_tuple (j:=j) (Q:=λr s'=>r=w/\EP X pins σ Q r s') pl (by omega) (by omega) (by rw [List.size_toArray,← hl];exact h1) (by simpa using ew) ⟨rfl,fin⟩) hs
theorem uJ (its:List Value) (n j:Nat) (u:Value):Obj.mapSeq (·.setIfInBounds j u) { cls:=.type "list",data:=.seq its.toArray n }={ cls:=.type "list",data:=.seq (its.set j u).toArray n }:=by
 simp [Obj.mapSeq]
variable {pins:List (Addr × Obj)} {σ:St} {H:Hp} {s:Shared} {p:Addr} {xs:List V}
theorem Inv.lst (I:Inv X pins σ H s) (h:H p=some (.lst xs)) :
  ∃ (its:List Value) (n:Nat),Vals xs its/\s.heap.get? p=some { cls:=.type "list",data:=.seq its.toArray n }/\xs.length≤sizeLine:=by
 obtain ⟨z,its,n,r,e⟩:=I.hok p _ h
 exact ⟨its,n,r,e,z⟩
theorem Inv.lstUpd {ys:List V} {its its':List Value} {n n':Nat} {f:Obj->Obj} (I:Inv X pins σ H s) (h:H p=some (.lst xs))
  (ho:s.heap.get? p=some { cls:=.type "list",data:=.seq its.toArray n }) (hf:f { cls:=.type "list",data:=.seq its.toArray n }={ cls:=.type "list",data:=.seq its'.toArray n' }) (r:Vals ys its') (hz:ys.length≤sizeLine) (t:Nat) :
  Inv X pins σ (upd H p (.lst ys)) { s with heap:=s.heap.update p f,toks:=t }:=by
 have e:(s.heap.update p f).get? p=some { cls:=.type "list",data:=.seq its'.toArray n' }:=by
  rw [Heap.get?_update_self f ho (by rw [hf] <;> rfl),hf]
 refine I.write (x:=p) (e:=p) (by rw [h];trivial) (.inl rfl) (λb u hb q=>(Heap.get?_update_other _ _ (Ne.symm hb)).trans q) ⟨_,e⟩ ?_
 exact ⟨hz,its',n',r,e⟩
noncomputable def El:V->V->V->Hp->(Hp->Prop)->Prop:=λo i v H Q=>∃ p xs k j,o=.ref p/\i=.int k/\H p=some (.lst xs)/\ixN xs.length k=some j/\Q (upd H p (.lst (xs.set j v)))
theorem kW:Ct X El:=by
 intro pins s σ H o i v ov iv u Q I ro ri rv h
 obtain ⟨p,xs,k,j,rfl,rfl,hp,hj,q⟩:=h
 cases ro
 obtain ⟨t,rfl⟩:=ri
 obtain ⟨its,n,r,ho,hz⟩:=I.lst hp
 obtain ⟨h1,h2,h3,h4⟩:=vX hj
 have hl:=r.length
 have hn:=kn
 have I':Inv X pins σ (upd H p (.lst (xs.set j v))) { s with heap:=s.heap.update p (Obj.mapSeq (·.setIfInBounds j u)) } :=
  I.lstUpd hp ho (uJ its n j u) (r.set rv j) (by rw [List.length_set];exact hz) s.toks
 by_cases h0:0≤k
 ·have hk:k.toNat=j:=by
   rw [seqIndex_of h0 h4] at h1
   exact Option.some.inj h1
  exact PySem.W.ki_setAt ho h0 (by omega) (by rw [List.size_toArray,← hl];exact h4) (by rw [hk];exact ⟨_,I',q⟩)
 ·have hk:(k+(its.toArray.size:Int)).toNat=j:=by
   rw [seqIndex_neg (by omega) h3] at h1
   rw [List.size_toArray,← hl]
   exact Option.some.inj h1
  exact PySem.W.ki_setBack ho (by omega) (by rw [List.size_toArray,← hl];exact h3) (by omega) (by rw [hk];exact ⟨_,I',q⟩)
theorem rL (lo hi:Option Int) (n:Nat):(sliceBounds lo hi none n).1=((HT.sIx n 0 lo:Nat):Int)/\(sliceBounds lo hi none n).2.1=((HT.sIx n n hi:Nat):Int)/\(sliceBounds lo hi none n).2.2=1:=by
 refine ⟨?_,?_,rfl⟩
 ·cases lo with
  | none=>simp [sliceBounds,HT.sIx]
  | some i =>
   simp only [sliceBounds,HT.sIx,Option.getD_none,show (1:Int) > 0 by decide,if_true]
   by_cases h:i < 0
   ·simp only [h,if_true] <;> omega
   ·simp only [h,if_false] <;> omega
 ·cases hi with
  | none=>simp [sliceBounds,HT.sIx]
  | some i =>
   simp only [sliceBounds,HT.sIx,Option.getD_none,show (1:Int) > 0 by decide,if_true]
   by_cases h:i < 0
   ·simp only [h,if_true] <;> omega
   ·simp only [h,if_false] <;> omega
theorem o3 (its:List Value) (lo hi:Option Int):slicePick its.toArray lo hi none=((its.drop (HT.sIx its.length 0 lo)).take (HT.sIx its.length its.length hi - HT.sIx its.length 0 lo)).toArray:=by
 obtain ⟨h1,h2,h3⟩:=rL lo hi its.toArray.size
 unfold slicePick
 rw [h1,h2,h3]
 simp only [sliceRange_one,pick_run,List.size_toArray] <;> rfl
noncomputable def Dt (K:PySem.W.Frag):V->Option Int->Option Int->Hp->VK->Prop:=λx lo hi H Q=>∃ a xs,x=.ref a/\SqL K H a xs/\∀ p,H p=none->Q (.ref p) (upd H p (.lst (mB xs lo hi)))
theorem BR:SlR X (Dt X.K):=by
 intro pins s σ H x v vl vu lo hi sl Q I rx hs pl pu h
 obtain ⟨a,xs,rfl,hx,q⟩:=h
 cases rx
 obtain ⟨its,r,ht,hz⟩:=I.list hx
 have hlen:=r.length
 refine ⟨"list",_,slot_list_getitem.lookup,ht.isList.typeIs,?_⟩
 refine wpAny_getItem_list_slice ht.isList hs pl pu .none (by simp) ?_ (by rw [List.size_toArray] <;> omega)
 rw [o3,← hlen]
 refine ⟨.ref s.heap.objs.size,_,I.laid (t':=s.toks) (o:=.lst (mB xs lo hi)) (λb ob q=>Heap.get?_push_of_some _ q) (Nat.le_refl _) ?_,rfl,q _ (I.hok.fresh (Nat.le_refl _))⟩
 exact ⟨Nat.le_trans (mi xs lo hi) hz,_,0,(r.drop (HT.sIx xs.length 0 lo)).take (HT.sIx xs.length xs.length hi - HT.sIx xs.length 0 lo),Heap.get?_push_size _ rfl⟩
noncomputable def kK:V->Bool
 | .non=>true
 | .bl _=>true
 | .int _=>true
 | .str _=>true
 | _=>false
noncomputable def eqV:V->V->Bool
 | .non,.non=>true
 | .bl a,.bl b=>a == b
 | .bl a,.int b=>(if a then 1 else 0) == b
 | .int a,.bl b=>a == (if b then 1 else 0)
 | .int a,.int b=>a == b
 | .str a,.str b=>a == b
 | _,_=>false
variable {A:Around} {y x:V} {u v:Value}
theorem CS (ry:RelV y u) (rx:RelV x v) (fy:kK y=true) (fx:kK x=true):SeqAt.EqAt A s u v (eqV y x):=by
 cases y with
 | non =>
  cases ry
  cases x with
  | non=>cases rx;exact SeqAt.EqAt.same _
  | bl b=>cases rx;exact SeqAt.EqAt.none_bool b
  | int b=>obtain ⟨t,rfl⟩:=rx;exact SeqAt.EqAt.none_int b t
  | str b=>obtain ⟨t,rfl⟩:=rx;exact SeqAt.EqAt.none_str b t
  | _=>exact absurd (show false=true from fx) Bool.false_ne_true
 | bl a =>
  cases ry
  cases x with
  | non=>cases rx;exact SeqAt.EqAt.bool_none a
  | bl b=>cases rx;exact SeqAt.EqAt.bool_bool a b
  | int b=>obtain ⟨t,rfl⟩:=rx;exact SeqAt.EqAt.bool_int a b t
  | str b=>obtain ⟨t,rfl⟩:=rx;exact SeqAt.EqAt.bool_str a b t
  | _=>exact absurd (show false=true from fx) Bool.false_ne_true
 | int a =>
  obtain ⟨t',rfl⟩:=ry
  cases x with
  | non=>cases rx;exact SeqAt.EqAt.int_none a t'
  | bl b=>cases rx;exact SeqAt.EqAt.int_bool a t' b
  | int b=>obtain ⟨t,rfl⟩:=rx;exact SeqAt.EqAt.int_int a t' b t
  | str b=>obtain ⟨t,rfl⟩:=rx;exact SeqAt.EqAt.int_str a t' b t
  | _=>exact absurd (show false=true from fx) Bool.false_ne_true
 | str a =>
  obtain ⟨t',rfl⟩:=ry
  cases x with
  | non=>cases rx;exact SeqAt.EqAt.str_none a t'
  | bl b=>cases rx;exact SeqAt.EqAt.str_bool a t' b
  | int b=>obtain ⟨t,rfl⟩:=rx;exact SeqAt.EqAt.str_int a t' b t
  | str b=>obtain ⟨t,rfl⟩:=rx;exact SeqAt.EqAt.str_str a t' b t
  | _=>exact absurd (show false=true from fx) Bool.false_ne_true
 | _=>exact absurd (show false=true from fy) Bool.false_ne_true
noncomputable def eqU (x:V) (u:Value):Bool:=match u with
 | .none=>eqV .non x
 | .bool b=>eqV (.bl b) x
 | .int i _=>eqV (.int i) x
 | .str z _=>eqV (.str z) x
 | _=>false
theorem yR (r:RelV y u) (f:kK y=true):eqU x u=eqV y x:=by
 cases y with
 | non=>cases r;rfl
 | bl b=>cases r;rfl
 | int i=>obtain ⟨t,rfl⟩:=r;rfl
 | str z=>obtain ⟨t,rfl⟩:=r;rfl
 | _=>exact absurd (show false=true from f) Bool.false_ne_true
theorem kz:∀ {xs:List V} {us:List Value},Vals xs us->xs.all kK=true->us.any (eqU x)=xs.any λy=>eqV y x
 | _,_,.nil,_=>rfl
 | y::xs,u::us,.cons r t,f=>by
  rw [List.all_cons,Bool.and_eq_true] at f
  rw [List.any_cons,List.any_cons,yR r f.1,kz t f.2]
theorem jG (rx:RelV x v) (fx:kK x=true):∀ {xs:List V} {us:List Value},Vals xs us->xs.all kK=true->∀ u ∈ us,SeqAt.EqAt A s u v (eqU x u)
 | _,_,.nil,_=>λu hu=>by cases hu
 | y::xs,u::us,.cons r t,f=>λu' hu=>by
  rw [List.all_cons,Bool.and_eq_true] at f
  rcases List.mem_cons.mp hu with rfl | hu
  ·rw [yR r f.1];exact CS r rx f.1 fx
  ·exact jG rx fx t f.2 u' hu
noncomputable def inV (x:V) (xs:List V):Bool:=xs.any λy=>eqV y x
noncomputable def rIn (K:PySem.W.Frag) (neg:Bool):R2:=λx y H Q=>∃ p xs,y=.ref p/\(SqL K H p xs\/SqT K H p xs)/\kK x=true/\xs.all kK=true/\Q (.bl (if neg then !inV x xs else inV x xs)) H
theorem pT:OpR X (compareOp .In) (rIn X.K false):=by
 intro pins s σ H x y v u Q I rx ry h
 obtain ⟨p,xs,rfl,hq,fx,fs,q⟩:=h
 cases ry
 rcases hq with hq | hq
 ·obtain ⟨its,r,pl,hz⟩:=I.list hq
  refine SeqAt.in_listAt (eqU x) pl.isList (λw hw=>jG rx fx r fs w (by simpa using hw)) ⟨.bl _,H,I,rfl,?_⟩
  rw [show its.toArray.any (eqU x)=its.any (eqU x) by simp,kz r fs]
  exact q
 ·obtain ⟨its,r,pl,hz⟩:=I.tuple hq
  refine SeqAt.in_tupleAt (eqU x) pl (λw hw=>jG rx fx r fs w (by simpa using hw)) ⟨.bl _,H,I,rfl,?_⟩
  rw [show its.toArray.any (eqU x)=its.any (eqU x) by simp,kz r fs]
  exact q
theorem rf:OpR X (compareOp .NotIn) (rIn X.K true):=by
 intro pins s σ H x y v u Q I rx ry h
 obtain ⟨p,xs,rfl,hq,fx,fs,q⟩:=h
 cases ry
 rcases hq with hq | hq
 ·obtain ⟨its,r,pl,hz⟩:=I.list hq
  refine SeqAt.notIn_listAt (eqU x) pl.isList (λw hw=>jG rx fx r fs w (by simpa using hw)) ⟨.bl _,H,I,rfl,?_⟩
  rw [show its.toArray.any (eqU x)=its.any (eqU x) by simp,kz r fs]
  exact q
 ·obtain ⟨its,r,pl,hz⟩:=I.tuple hq
  refine SeqAt.notIn_tupleAt (eqU x) pl (λw hw=>jG rx fx r fs w (by simpa using hw)) ⟨.bl _,H,I,rfl,?_⟩
  rw [show its.toArray.any (eqU x)=its.any (eqU x) by simp,kz r fs]
  exact q
theorem aU:h9 X (.builtin "len") (λxs H Q=>∃ p ys,xs=[.ref p]/\(SqL X.K H p ys\/SqT X.K H p ys)/\Q (.int ys.length) H):=by
 intro pins s σ H xs us Q I r h
 obtain ⟨p,ys,rfl,hq,q⟩:=h
 obtain ⟨u,rfl,rx⟩:=gH r
 cases rx
 have hn:=kn
 rcases hq with hq | hq
 ·obtain ⟨its,r',pl,hz⟩:=I.list hq
  have hlen:=r'.length
  exact Calls.call_len_list pl.isList (by simp only [List.size_toArray] <;> omega) ⟨.int ys.length,H,I.tok _,⟨s.toks+1,by rw [List.size_toArray,hlen]⟩,q⟩
 ·obtain ⟨its,r',pl,hz⟩:=I.tuple hq
  have hlen:=r'.length
  exact len_tuple pl (by simp only [List.size_toArray] <;> omega) ⟨.int ys.length,H,I.tok _,⟨s.toks+1,by rw [List.size_toArray,hlen]⟩,q⟩
theorem qz:h9 X (.builtin "len") (λxs H Q=>∃ z,xs=[.str z]/\z.length≤sizeLine/\Q (.int z.length) H):=by
 intro pins s σ H xs us Q I r h
 obtain ⟨z,rfl,hz,q⟩:=h
 obtain ⟨u,rfl,t,rfl⟩:=gH r
 have hn:=kn
 exact len_str (by omega) ⟨.int z.length,H,I.tok _,⟨_,rfl⟩,q⟩
theorem dA:h9 X (.type "tuple") (λxs H Q=>∃ p ys,xs=[.ref p]/\((SqL X.K H p ys/\∀ l,H l=none->Q (.ref l) (upd H l (.tup ys)))\/(SqT X.K H p ys/\Q (.ref p) H))):=by
 intro pins s σ H xs us Q I r h
 obtain ⟨p,ys,rfl,h⟩:=h
 obtain ⟨u,rfl,rx⟩:=gH r
 cases rx
 rcases h with ⟨hq,q⟩ | ⟨hq,q⟩
 ·obtain ⟨its,r',pl,hz⟩:=I.list hq
  have hlen:=r'.length
  refine call_tuple_list pl.isList (λh' kp=>?_) (by simp only [List.size_toArray] <;> omega)
  have I1:Inv X pins σ H { s with heap:=h' }:=I.kept (t':=s.toks) kp
  have I2:Inv X pins σ (upd H h'.objs.size (.tup ys)) { s with heap:=h'.push { cls:=.type "tuple",data:=.seq its.toArray } } :=
   I1.laid (t':=s.toks) (λb o e=>Heap.get?_push_of_some _ e) (Nat.le_refl _) (show ObjOk X.prog X.w _ _ _ (.tup ys) from ⟨hz,its,r',IsTup.new _ _⟩)
  exact ⟨.ref h'.objs.size,_,I2,rfl,q _ (I1.hok.fresh (Nat.le_refl _))⟩
 ·obtain ⟨its,r',pl,hz⟩:=I.tuple hq
  exact call_tuple_same pl ⟨.ref p,H,I,rfl,q⟩
noncomputable def tyV (K:PySem.W.Frag) (T:String) (x:V) (H:Hp):Prop:=match x with
 | .str _=>T="str"
 | .int _=>T="int"
 | .ref p=>(T="list"/\∃ xs,SqL K H p xs)\/(T="tuple"/\∃ o,K.lookup p=some o/\o.cls=.type "tuple"/\o.dict=none) \/
   (T="dict"/\((∃ kvs,H p=some (.dK kvs))\/∃ kvs,H p=some (.dT kvs)))\/(T="set"/\∃ S n,H p=some (.set S n))
 | _=>False
theorem AB {T:String} (I:Inv X pins σ H s) (r:RelV x v) (ty:tyV X.K T x H) :
  s.TypeIs v T/\∀ a,v=.ref a->∃ ob,s.heap.get? a=some ob/\ob.dict=none:=by
 cases x with
 | str z =>
  obtain ⟨t,rfl⟩:=r
  cases (show T="str" from ty)
  exact ⟨typeIs_str s z t,λ_ e=>nomatch e⟩
 | int i =>
  obtain ⟨t,rfl⟩:=r
  cases (show T="int" from ty)
  exact ⟨typeIs_int s i t,λ_ e=>nomatch e⟩
 | ref p =>
  cases r
  rcases ty with ⟨rfl,xs,hq⟩ | ⟨rfl,o,hk,hc,hd⟩ | ⟨rfl,hk⟩ | ⟨rfl,S,n,hk⟩
  ·obtain ⟨its,_,pl,_⟩:=I.list hq
   refine ⟨pl.isList.typeIs,λa e=>?_⟩
   cases e
   obtain ⟨o,n,e,c,hd,_⟩:=pl
   exact ⟨o,e,hd⟩
  ·refine ⟨⟨o,I.kIn p o hk,hc⟩,λa e=>?_⟩
   cases e
   exact ⟨o,I.kIn _ o hk,hd⟩
  ·have z:∃ o,s.heap.get? p=some o/\o.ExactDict:=by
    rcases hk with ⟨kvs,hk⟩ | ⟨kvs,hk⟩
    ·obtain ⟨_,_,_,_,o,_,_,e,ex,_⟩:=I.hok p _ hk
     exact ⟨o,e,ex⟩
    ·obtain ⟨_,_,_,_,o,_,_,e,ex,_⟩:=I.hok p _ hk
     exact ⟨o,e,ex⟩
   obtain ⟨o,e,ex⟩:=z
   refine ⟨⟨o,e,ex.1⟩,λa e2=>?_⟩
   cases e2
   exact ⟨o,e,ex.2.1⟩
  ·obtain ⟨o,_,_,_,e,ex,_⟩:=I.hok p _ hk
   refine ⟨⟨o,e,ex.1⟩,λa e2=>?_⟩
   cases e2
   exact ⟨o,e,ex.2.1⟩
 | _=>exact False.elim ty
noncomputable def E7 (K:PySem.W.Frag) (T:String) (r:V->List V->Hp->VK->Prop) (to:TE):TE:=λσ H Q=>to σ H λx H1=>tyV K T x H1/\r x [] H1 Q
noncomputable def tBM (K:PySem.W.Frag) (T:String) (r:V->List V->Hp->VK->Prop) (to:TE) (t:TA):TE:=λσ H Q=>to σ H λx H1=>tyV K T x H1/\t σ H1 λxs H2=>r x xs H2 Q
variable {o e:Expr} {es:List Expr} {to:TE} {t:TA} {name:Str} {apos cpos:Pos} {T id:String} {r:V->List V->Hp->VK->Prop}
theorem Dm (pa:PlainAttrs T) (slot:Slot T name id) (hty:typeOf (.builtin id)=pure (.type "method_descriptor")) (hm:MtR X id r) (ho:PE X o to)
  (hbase:attributeBase o name X.env (eval o X.env)=eval o X.env:=by rfl) (hline:(apos.endLine == cpos.line)=true:=by rfl):PE X (.Call (.Attribute o name apos) [] [] cpos) (E7 X.K T r to):=by
 intro pins s σ H Q I h
 refine wpAny_Call_method0_late hbase hline (thn (ho pins s σ H _ I h) λv s1 ⟨x,H1,I1,r1,ty,q1⟩=>?_)
 obtain ⟨h1,h2⟩:=AB I1 r1 ty
 exact ⟨T,id,pa,slot,hty,h1,h2,Calls.callWith_builtin rfl (PySem.evalArgs_none (hm pins s1 σ H1 x [] v [] Q I1 r1 .nil q1))⟩
theorem dq (pa:PlainAttrs T) (slot:Slot T name id) (hty:typeOf (.builtin id)=pure (.type "method_descriptor")) (hm:MtR X id r) (ho:PE X o to) (ha:PA X (e::es) t)
  (hbase:attributeBase o name X.env (eval o X.env)=eval o X.env:=by rfl)
  (hfew:((backTo cpos (starEach (e::es) X.env)).all (λx=>!x.1) && (backToKw cpos (keywordEach [] X.env)).all (λx=>x.1.isSome)
   && decide ((e::es).length+([]:List Keyword).length+(if ([]:List Keyword).isEmpty then 0 else 1) < 30))=true:=by rfl)
  (hline:(apos.endLine == cpos.line)=true:=by rfl) (hs:starEach (e::es) X.env=(false,eval e X.env)::starEach es X.env:=by rfl) (hplain:(backTo cpos (starEach es X.env)).any (·.1)=false:=by rfl) :
  PE X (.Call (.Attribute o name apos) (e::es) [] cpos) (tBM X.K T r to t):=by
 intro pins s σ H Q I h
 refine wpAny_Call_method_late hbase hfew hline rfl (thn (ho pins s σ H _ I h) λv s1 ⟨x,H1,I1,r1,ty,q1⟩=>?_)
 obtain ⟨h1,h2⟩:=AB I1 r1 ty
 refine ⟨T,id,pa,slot,hty,h1,h2,?_⟩
 have hA:=ha cpos pins s1 σ H1 _ I1 q1
 rw [hs] at hA ⊢
 refine Calls.callWith_builtin (by show (false || (backTo cpos (starEach es X.env)).any (·.1))=false;rw [hplain] <;> rfl) (Calls.evalArgs_plain ?_)
 exact thn hA λus s2 ⟨vs,H2,I2,r2,q2⟩=>hm pins s2 σ H2 x vs v us Q I2 r1 r2 q2
end
noncomputable def MtM (X:Cx) (id:String) (r:V->List V->Hp->VK->Prop):Prop :=
 ∀ (pins:List (Addr × Obj)) (s:Shared) (σ:St) (H:Hp) (x:V) (xs:List V) (v:Value) (us:List Value) (Q:VK),Inv X pins σ H s->RelV x v->Vals xs us->r x xs H Q ->
  wpAny (model X.prog X.w) X.A (call (.builtin id) (v::us)) (EP X pins σ Q) X.xe s
theorem Vals.one:∀ {x:V} {us:List Value},Vals [x] us->∃ u,us=[u]/\RelV x u
 | _,_,.cons r .nil=>⟨_,rfl,r⟩
theorem Vals.zero:∀ {us:List Value},Vals [] us->us=[]
 | _,.nil=>rfl
variable {xs:List V} {us:List Value}
theorem Vals.dropLast (h:Vals xs us):Vals xs.dropLast us.dropLast:=by
 induction h with
 | nil=>exact .nil
 | cons r t ih =>
  cases t with
  | nil=>exact .nil
  | cons q t'=>exact .cons r ih
theorem Vals.rep (h:Vals xs us):∀ k:Nat,Vals (List.replicate k xs).flatten (List.replicate k us).flatten
 | 0=>.nil
 | k+1=>by
  rw [List.replicate_succ,List.replicate_succ,List.flatten_cons,List.flatten_cons]
  exact Vals.append h (Vals.rep h k)
theorem uB {α:Type} (l:List α):l.eraseIdx (l.length - 1)=l.dropLast:=by
 induction l with
 | nil=>rfl
 | cons a r ih =>
  cases r with
  | nil=>rfl
  | cons b r =>
   have e:(a::b::r).length - 1=((b::r).length - 1)+1:=by
    have h1:(a::b::r).length=r.length+2:=rfl
    have h2:(b::r).length=r.length+1:=rfl
    omega
   rw [e,List.eraseIdx_cons_succ,ih]
   all_goals rfl
theorem pI (its:List Value):∀ (k:Nat) (acc:List Value),
  List.foldl (λx1 x2=>x1++x2) acc.toArray (List.replicate k its.toArray)=(acc++(List.replicate k its).flatten).toArray
 | 0,acc=>by simp
 | k+1,acc=>by
  have e:acc.toArray++its.toArray=(acc++its).toArray:=by simp
  have e2:(acc++its)++(List.replicate k its).flatten=acc++(List.replicate (k+1) its).flatten:=by
   rw [List.replicate_succ,List.flatten_cons,List.append_assoc]
  rw [← e2,← pI its k (acc++its),← e,List.replicate_succ,List.foldl_cons]
section
variable {X:Cx} {pins:List (Addr × Obj)} {σ:St} {H:Hp} {s:Shared} {l b:Addr} {xs ys zs:List V}
variable {its:List Value} {n t':Nat}
theorem Inv.lset {its':List Value} {f:Array Value->Array Value} (I:Inv X pins σ H s) (hH:H l=some (.lst xs))
  (e:s.heap.get? l=some { cls:=.type "list",data:=.seq its.toArray n }) (hf:f its.toArray=its'.toArray) (hv:Vals ys its') (hz:ys.length≤sizeLine) :
  Inv X pins σ (upd H l (.lst ys)) { s with heap:=s.heap.update l (Obj.mapSeq f),toks:=t' }:=by
 have q:=PySem.IsL.update e f
 rw [hf] at q
 refine I.write (x:=l) (e:=l) (by rw [hH];exact trivial) (.inl rfl) (λb' u hb hu=>(Heap.get?_update_other s.heap (Obj.mapSeq f) (Ne.symm hb)).trans hu) ⟨_,q⟩ ?_
 exact ⟨hz,its',_,hv,q⟩
theorem Inv.lnew (I:Inv X pins σ H s) (hv:Vals ys its) (hz:ys.length≤sizeLine) :
  Inv X pins σ (upd H s.heap.objs.size (.lst ys)) { s with heap:=s.heap.push { cls:=.type "list",data:=.seq its.toArray },toks:=t' } :=
 I.laid (λ_ _ q=>Heap.get?_push_of_some _ q) (Nat.le_refl _) ⟨hz,its,0,hv,Heap.get?_push_size _ rfl⟩
theorem Inv.fresh (I:Inv X pins σ H s):H s.heap.objs.size=none:=I.hok.fresh (Nat.le_refl _)
theorem Inv.lstM (I:Inv X pins σ H s) (hH:H l=some (.lst xs)):xs.length≤sizeLine/\∃ (its:List Value) (n:Nat),Vals xs its/\xs.length=its.length/\s.heap.get? l=some { cls:=.type "list",data:=.seq its.toArray n }:=by
 obtain ⟨z,its,n,r,e⟩:=I.hok l _ hH
 exact ⟨z,its,n,r,r.length,e⟩
theorem tH (h:n≤sizeLine):Builtin.List.listTooLong n=false:=by
 unfold Builtin.List.listTooLong
 exact decide_eq_false (by omega)
end
section
variable {X:Cx}
noncomputable def mQ:V->List V->Hp->VK->Prop:=λx vs H Q=>∃ l xs y,x=.ref l/\vs=[y]/\H l=some (.lst xs)/\xs.length < sizeLine/\Q .non (upd H l (.lst (xs++[y])))
theorem bQ:MtM X "list.append" mQ:=by
 intro pins s σ H x vs v us Q I rx rv h
 obtain ⟨l,xs,y,rfl,rfl,hH,hz,q⟩:=h
 cases rx
 obtain ⟨u,rfl,ru⟩:=rv.one
 obtain ⟨z,its,n,r,hl,e⟩:=I.lstM hH
 refine call_meets F.slot_list_append ⟨_,e,rfl⟩ F.entry_list_append (F.args_list_append_2 _ _) (PySem.list_append l its.toArray n u (by rw [List.size_toArray];omega)) ⟨e,?_⟩
 refine ⟨.non,_,I.lset (its':=its++[u]) hH e (by simp) (r.append (.cons ru .nil)) ?_,rfl,q⟩
 rw [List.length_append,List.length_singleton]
 omega
noncomputable def mR:V->List V->Hp->VK->Prop:=λx vs H Q=>∃ l b xs zs,x=.ref l/\vs=[.ref b]/\H l=some (.lst xs)/\H b=some (.lst zs)/\xs.length+zs.length≤sizeLine/\Q .non (upd H l (.lst (xs++zs)))
theorem eH:MtM X "list.extend" mR:=by
 intro pins s σ H x vs v us Q I rx rv h
 obtain ⟨l,b,xs,zs,rfl,rfl,hH,hB,hz,q⟩:=h
 cases rx
 obtain ⟨u,rfl,ru⟩:=rv.one
 cases ru
 obtain ⟨z,its,n,r,hl,e⟩:=I.lstM hH
 obtain ⟨z2,its2,n2,r2,hl2,e2⟩:=I.lstM hB
 have hsz:its.toArray.size+its2.toArray.size≤sizeLine:=by rw [List.size_toArray,List.size_toArray];omega
 have hlong:¬ (!its.toArray.isEmpty && Builtin.List.listTooLong (its.toArray.size+its2.toArray.size))=true:=by
  rw [tH hsz,Bool.and_false]
  exact Bool.false_ne_true
 refine call_meets F.slot_list_extend ⟨_,e,rfl⟩ F.entry_list_extend (F.args_list_extend_2 _ _)
  (AutoSeq1.list_extend_list_list_0 l its.toArray n b its2.toArray n2 hlong (by rw [List.size_toArray];omega) (by omega)) ⟨e,e2,?_⟩
 refine ⟨.non,_,I.lset (its':=its++its2) hH e (by simp) (r.append r2) ?_,rfl,q⟩
 rw [List.length_append]
 omega
noncomputable def E4:V->List V->Hp->VK->Prop:=λx vs H Q=>∃ l xs y,x=.ref l/\vs=[]/\H l=some (.lst xs)/\xs[xs.length - 1]?=some y/\Q y (upd H l (.lst xs.dropLast))
theorem Dd:MtM X "list.pop" E4:=by
 intro pins s σ H x vs v us Q I rx rv h
 obtain ⟨l,xs,y,rfl,rfl,hH,hy,q⟩:=h
 cases rx
 have hus:=rv.zero
 subst hus
 obtain ⟨z,its,n,r,hl,e⟩:=I.lstM hH
 obtain ⟨u,hu,ru⟩:=r.get hy
 have hy':its.toArray[its.toArray.size - 1]?=some u:=by
  show its.toArray[its.length - 1]?=some u
  rw [← Array.getElem?_toList,← hl]
  exact hu
 refine call_meets F.slot_list_pop ⟨_,e,rfl⟩ F.entry_list_pop (F.args_list_pop_1 _) (MeetsSeq.list_pop_last l its.toArray n u hy' (by rw [List.size_toArray];omega)) ⟨e,?_⟩
 refine ⟨y,_,I.lset (its':=its.dropLast) hH e ?_ r.dropLast ?_,ru,q⟩
 ·show its.toArray.eraseIdxIfInBounds (its.toArray.size - 1)=its.dropLast.toArray
  rw [List.size_toArray,List.eraseIdxIfInBounds_toArray,uB]
 ·rw [List.length_dropLast]
  omega
noncomputable def E3:R2:=λx y H Q=>∃ l b xs zs,x=.ref l/\y=.ref b/\H l=some (.lst xs)/\H b=some (.lst zs)/\xs.length+zs.length≤sizeLine/\∀ p,H p=none->Q (.ref p) (upd H p (.lst (xs++zs)))
theorem Dh:OpR X (binaryOp .Add) E3:=by
 intro pins s σ H x y v u Q I rx ry h
 obtain ⟨l,b,xs,zs,rfl,rfl,hH,hB,hz,q⟩:=h
 cases rx
 cases ry
 obtain ⟨z,its,n,r,hl,e⟩:=I.lstM hH
 obtain ⟨z2,its2,n2,r2,hl2,e2⟩:=I.lstM hB
 refine PySem.P.add_list e e2 ?_ (by rw [List.size_toArray,List.size_toArray];omega)
 have ea:its.toArray++its2.toArray=(its++its2).toArray:=by simp
 rw [ea]
 exact ⟨.ref _,_,I.lnew (t':=s.toks) (r.append r2) (by rw [List.length_append];omega),rfl,q _ I.fresh⟩
noncomputable def Ek:R2:=λx y H Q=>∃ l k xs,x=.ref l/\y=.int k/\H l=some (.lst xs)/\-(2 ^ 63)≤k/\k < 2 ^ 63/\xs.length * k.toNat≤sizeLine /\
 ∀ p,H p=none->Q (.ref p) (upd H p (.lst (List.replicate k.toNat xs).flatten))
theorem wb {α:Type} (xs:List α) (k:Nat):(List.replicate k xs).flatten.length=k * xs.length:=by
 induction k with
 | zero=>simp
 | succ k ih=>rw [List.replicate_succ,List.flatten_cons,List.length_append,ih,Nat.succ_mul,Nat.add_comm]
theorem Dk:OpR X (binaryOp .Mult) Ek:=by
 intro pins s σ H x y v u Q I rx ry h
 obtain ⟨l,k,xs,rfl,rfl,hH,h1,h2,hz,q⟩:=h
 cases rx
 obtain ⟨t,rfl⟩:=ry
 obtain ⟨z,its,n,r,hl,e⟩:=I.lstM hH
 have hlen:its.toArray.size * k.toNat≤sizeLine:=by rw [List.size_toArray,← hl];exact hz
 have hcap:¬ its.toArray.size * k.toNat > (2 ^ 63 - 1) / 8:=by
  have:(sizeLine:Nat)≤(2 ^ 63 - 1) / 8:=by decide
  omega
 have hfit:¬ (!Builtin.List.listFitsIndex k)=true:=by
  rw [fitsIndex_both h1 h2]
  exact Bool.false_ne_true
 have hlong:¬ Builtin.List.listTooLong (its.toArray.size * k.toNat)=true:=by
  rw [tH hlen]
  exact Bool.false_ne_true
 have hnew:List.foldl (λx1 x2=>x1++x2) #[] (List.replicate (if its.toArray.isEmpty=true then 0 else k.toNat) its.toArray)=(List.replicate k.toNat its).flatten.toArray:=by
  have f0:∀ m:Nat,List.foldl (λx1 x2=>x1++x2) #[] (List.replicate m its.toArray)=(List.replicate m its).flatten.toArray:=λm=>by
   have:=pI its m []
   rw [List.nil_append] at this
   exact this
  rw [f0]
  cases its with
  | nil=>simp
  | cons a r'=>rw [if_neg (by simp)]
 refine wpAny_binaryOp_repeat_ref (T:="list") (U:="int") (by decide) ⟨_,e,rfl⟩ (λs'=>typeIs_int s' k t) noFill_list_mul F.fills_int_mul F.slot_int_rmul repeat_list F.slot_int_index.lookup
  (call_meets F.slot_int_rmul (typeIs_int s k t) F.entry_int_rmul (F.args_int_rmul_2 _ _) (int___rmul___int_list k t l its.toArray n)
   ⟨e,rfl,⟨_,e,rfl⟩,call_meets F.slot_list_mul ⟨_,e,rfl⟩ F.entry_list_mul (F.args_list_mul_2 _ _) (AutoListH.list___mul___list_int_3 l its.toArray n k t hfit hcap hlong) ⟨e,?_⟩⟩)
 rw [hnew]
 exact ⟨.ref _,_,I.lnew (t':=s.toks) (r.rep k.toNat) (by rw [wb,Nat.mul_comm];exact hz),rfl,q _ I.fresh⟩
end
section
variable {prog:Program} {w:World} {A:Around} {E:Value->Shared->Prop} {s:Shared}
set_option maxRecDepth 100000 in
end
section
variable {X:Cx}
end
section
variable {κ:Type} [DecidableEq κ]
noncomputable def kr (kvs:List (κ × V)) (k:κ):Option V:=(kvs.find? λkv=>decide (kv.1=k)).map (·.2)
noncomputable def tX (kvs:List (κ × V)) (k:κ) (v:V):List (κ × V) :=
 if (kvs.any λkv=>decide (kv.1=k))=true then kvs.map (λkv=>if kv.1=k then (kv.1,v) else kv) else kvs++[(k,v)]
theorem uo {p:κ × V} {r:List (κ × V)} {k:κ} (e:p.1=k):kr (p::r) k=some p.2:=by simp [kr,List.find?_cons,e]
theorem um {p:κ × V} {r:List (κ × V)} {k:κ} (e:¬ p.1=k):kr (p::r) k=kr r k:=by simp [kr,List.find?_cons,e]
theorem sZ (kvs:List (κ × V)) (k:κ) (v:V):(tX kvs k v).length≤kvs.length+1:=by
 unfold tX
 split
 ·rw [List.length_map];omega
 ·rw [List.length_append,List.length_cons,List.length_nil];omega
theorem KV.val {kvs:List (κ × V)} {vs:List (κ × Value)} (r:KV kvs vs) (k:κ):RelO (kr kvs k) (valueAt vs k):=by
 unfold KV at r
 induction r with
 | nil=>exact True.intro
 | @cons p q ps qs h t ih =>
  obtain ⟨h1,h2⟩:=h
  by_cases e:p.1=k
  ·have e':q.1=k:=h1.symm.trans e
   have b:valueAt (q::qs) k=some q.2:=by simp [valueAt,List.find?_cons,e']
   rw [uo e,b];exact h2
  ·have e':¬ q.1=k:=λz=>e (h1.trans z)
   have b:valueAt (q::qs) k=valueAt qs k:=by simp [valueAt,List.find?_cons,e']
   rw [um e,b];exact ih
theorem KV.any {kvs:List (κ × V)} {vs:List (κ × Value)} (r:KV kvs vs) (k:κ):(kvs.any λkv=>decide (kv.1=k))=vs.any λkv=>decide (kv.1=k):=by
 unfold KV at r
 induction r with
 | nil=>rfl
 | cons h t ih=>rw [List.any_cons,List.any_cons,ih,h.1]
variable {y:V} {u:Value}
theorem KV.repl {kvs:List (κ × V)} {vs:List (κ × Value)} (r:KV kvs vs) (k:κ) (ry:RelV y u) :
  KV (kvs.map λkv=>if kv.1=k then (kv.1,y) else kv) (vs.map λkv=>if kv.1=k then (kv.1,u) else kv):=by
 unfold KV at r ⊢
 induction r with
 | nil=>exact .nil
 | @cons p q ps qs h t ih =>
  rw [List.map_cons,List.map_cons]
  refine .cons ?_ ih
  obtain ⟨h1,h2⟩:=h
  by_cases e:p.1=k
  ·rw [if_pos e,if_pos (h1.symm.trans e)];exact ⟨h1,ry⟩
  ·rw [if_neg e,if_neg (λz=>e (h1.trans z))];exact ⟨h1,h2⟩
theorem KV.put {kvs:List (κ × V)} {vs:List (κ × Value)} (r:KV kvs vs) (k:κ) (ry:RelV y u):KV (tX kvs k y) (stored vs k u):=by
 unfold tX stored
 rw [r.any k]
 by_cases e:(vs.any λkv=>decide (kv.1=k))=true
 ·rw [if_pos e,if_pos e];exact r.repl k ry
 ·rw [if_neg e,if_neg e];exact Paired.snoc r ⟨rfl,ry⟩
end
variable {P:Program} {w:World}
theorem zy {k:Key} {u:Value} (r:RelV (kV k) u):(dO P w).is k u=true:=by
 cases k with
 | inl i=>obtain ⟨t,e⟩:=(show ∃ t,u=Value.int i t from r);subst e;exact tq P w i t
 | inr x=>obtain ⟨t,e⟩:=(show ∃ t,u=Value.str x t from r);subst e;exact tu P w x t
theorem pM:∀ {ks:List Key} {us:List Value},Vals (ks.map kV) us->ItemsAre (dO P w) ks us
 | [],_,r=>by rw [List.map_nil] at r;cases r;exact .nil
 | k::ks,_,r=>by
  rw [List.map_cons] at r
  cases r with
  | cons h t=>exact .cons (zy h) (pM t)
noncomputable abbrev KT (H:Hp):List (List Key × V)->List (List Key × Addr × Value)->Prop:=Paired λp q=>p.1=q.1/\H q.2.1=some (.tup (p.1.map kV))/\RelV p.2 q.2.2
variable {H:Hp}
theorem KT.val {kvs:List (List Key × V)} {xs:List (List Key × Addr × Value)} (r:KT H kvs xs) (k:List Key):RelO (kr kvs k) ((atKey xs k).map (·.2)):=by
 induction r with
 | nil=>exact True.intro
 | @cons p q ps qs h t ih =>
  obtain ⟨h1,_,h2⟩:=h
  by_cases e:p.1=k
  ·have e':q.1=k:=h1.symm.trans e
   have b:atKey (q::qs) k=some q.2:=by simp [atKey,List.find?_cons,e']
   rw [uo e,b];exact h2
  ·have e':¬ q.1=k:=λz=>e (h1.trans z)
   have b:atKey (q::qs) k=atKey qs k:=by simp [atKey,List.find?_cons,e']
   rw [um e,b];exact ih
section
variable {P:Program} {w:World} {H:Hp} {h:Heap} {a:Addr}
theorem Cg {u:HO} (ok:HOk P w H h) (e:Rd H a u):ObjOk P w H h a u:=e.ok ok
variable {kvs:List (Key × V)}
theorem yP (ok:HOk P w H h) (e:Rd H a (.dK kvs)):kvs.length≤sizeLine/\(a == sysModules)=false/\∃ vs,KV kvs vs/\h.DictOf (dO P w) a vs :=
 show ObjOk P w H h a (.dK kvs) from Cg ok e
theorem DV (ok:HOk P w H h) (e:H a=some (.dK kvs)):kvs.length≤sizeLine/\(a == sysModules)=false/\∃ vs,KV kvs vs/\h.DictOf (dO P w) a vs:=yP ok (.inl e)
theorem zz {ks:List Key} (ok:HOk P w H h) (e:H a=some (.tup (ks.map kV))):(tupleKind (dO P w)).is h ks a:=by
 obtain ⟨_,its,r,o,h1,h2,n,h3⟩:=(show ObjOk P w H h a (.tup (ks.map kV)) from ok a _ e)
 exact ⟨o,its.toArray,n,h1,h2,h3,by simpa using pM r⟩
theorem B3 {kvs:List (List Key × V)} (ok:HOk P w H h) (e:Rd H a (.dT kvs)):kvs.length≤sizeLine/\(a == sysModules)=false /\
  ∃ xs,KT H kvs xs/\h.DictOfH (tupleKind (dO P w)) a xs:=by
 obtain ⟨z,y,xs,r,o,es,ep,h1,h2,h3,h4,h5⟩:=(show ObjOk P w H h a (.dT kvs) from Cg ok e)
 refine ⟨z,y,xs,r,o,es,ep,h1,h2,h3,h4,λx hx=>?_,h5⟩
 have all:∀ {l:List (List Key × V)} {m:List (List Key × Addr × Value)},KT H l m->∀ x ∈ m,(tupleKind (dO P w)).is h x.1 x.2.1:=by
  intro l m q
  induction q with
  | nil=>intro x hx;exact nomatch hx
  | @cons p q ps qs hq t ih =>
   intro x hx
   rcases List.mem_cons.mp hx with e | hx
   ·subst e
    exact zz ok (by rw [← hq.1];exact hq.2.1)
   ·exact ih x hx
 exact all r x hx
end
noncomputable def DGet (H:Hp) (a:Addr) (y:V) (r:Option V):Prop :=
 (∃ kvs k,Rd H a (.dK kvs)/\y=kV k/\r=kr kvs k)\/∃ kvs k b,Rd H a (.dT kvs)/\y=.ref b/\H b=some (.tup (k.map kV))/\r=kr kvs k
variable {a:Addr}
theorem DGet.k {kvs:List (Key × V)} {k:Key} (e:H a=some (.dK kvs)):DGet H a (kV k) (kr kvs k):=.inl ⟨kvs,k,.inl e,rfl,rfl⟩
section
variable {X:Cx} {pins:List (Addr × Obj)} {σ:St} {H:Hp} {s:Shared} {a:Addr} {y v:V} {u r:Value} {o:Option V} {A:Around} {E:Value->Shared->Prop}
theorem Inv.big (I:Inv X pins σ H s):sysModules < s.heap.objs.size:=by
 have h:mainGlobals < s.heap.objs.size:=(I.mod.glob.keeps I.bk).lt
 exact Nat.lt_trans (by decide) h
theorem xl {Q:Value->Shared->Prop} (hu:A.units+1 < cLine) (I:Inv X pins σ H s) (g:DGet H a y (some v)) (ry:RelV y u) (h:∀ w' s',Inv X pins σ H s'->RelV v w'->Q w' s') :
  wpAny (model X.prog X.w) A (getItem (.ref a) u) Q E s:=by
 rcases g with ⟨kvs,k,e,ey,l⟩ | ⟨kvs,k,b,e,ey,eb,l⟩
 ·subst ey
  obtain ⟨z,hd,vs,rel,dd⟩:=yP I.hok e
  obtain ⟨w',hw,rw'⟩:=RelO.some_of (v:=v) (o:=valueAt vs k) (by rw [l];exact rel.val k)
  exact wpAny_getItem_of (zy ry) dd.mapOf hw (h w' _ (I.tok _) rw')
 ·subst ey
  cases (show u=Value.ref b from ry)
  obtain ⟨z,hd,xs,rel,dd⟩:=B3 I.hok e
  obtain ⟨w',hw,rw'⟩:=RelO.some_of (v:=v) (o:=(atKey xs k).map (·.2)) (by rw [l];exact rel.val k)
  obtain ⟨p,hp,hp2⟩:=Option.map_eq_some_iff.mp hw
  refine wpAny_getItem_heap (tupleKind_room_in1 hu) (zz I.hok eb) dd hp ?_
  rw [hp2]
  exact h w' _ (I.tok _) rw'
variable {h':Heap}
theorem AV {t':Nat} {ob:HO} (I:Inv X pins σ H s) (mu:Mut (H a)) (hs:Heap.SameBut a s.heap h') (he:∃ q,h'.get? a=some q) (new:ObjOk X.prog X.w (upd H a ob) h' a ob) :
  Inv X pins σ (upd H a ob) { s with heap:=h',toks:=t' } :=
 I.write (x:=a) (e:=a) mu (.inl rfl) (λb q hb z=>(hs.2 b hb).trans z) he new
theorem CQ {P:Program} {w:World} {H':Hp} {kvs:List (Key × V)} {vs:List (Key × Value)} (z:kvs.length≤sizeLine) (hd:(a == sysModules)=false) (rel:KV kvs vs) (dd:h'.DictOf (dO P w) a vs) :
  ObjOk P w H' h' a (.dK kvs):=⟨z,hd,vs,rel,dd⟩
end
section
variable {X:Cx} {pins:List (Addr × Obj)} {σ:St} {H:Hp} {s:Shared} {a:Addr} {kvs:List (Key × V)} {k:Key} {u:Value} {A:Around} {E:Value->Shared->Prop}
end
noncomputable def DQ (i:Expr):Prop:=∀ ov iv,subscripted i false ov iv=operate [ov,iv] (getItem ov iv)
variable {s:Shared} {pos:Pos}
theorem BU {prog:Program} {A:Around} {E:Value->Shared->Prop} {env:Env} {value slice:Expr} {T id:String} {Q:Value->Shared->Prop}
  (hl:typeLookup (.type T) "__getitem__"=pure (some (.builtin id))) (hs:DQ slice)
  (h:wpAny (model prog w) A (eval value env) (λo s₁=>wpAny (model prog w) A (eval slice env) (λi s₂=>s₂.TypeIs o T/\wpAny (model prog w) A (getItem o i) Q E s₂) E s₁) E s) :
  wpAny (model prog w) A (eval (.Subscript value slice pos) env) Q E s:=by
 refine Subscript_ (wpAny_mono h (λo s₁ h₁=>wpAny_mono h₁ (λi s₂ h₂=>?_) λ_ _ x=>x) λ_ _ x=>x)
 obtain ⟨hT,h₂⟩:=h₂
 unfold subscriptTail
 refine wpAny_bind ?_
 rw [getitemInPython_of_ne hT.not_modules]
 refine wpAny_bind (wpAny_specialOf hT hl ?_)
 have fin:wpAny (model prog w) A (subscripted slice false o i) (λr s₃=>wpAny (model prog w) A (letTemporaryGo value o r >>= λ_=>pure r) Q E s₃) E s₂:=by
  rw [hs o i]
  exact wpAny_operating (wpAny_mono h₂ (λr s₃ h₃=>wpAny_bind (wpAny_letTemporaryGo (wpAny_pure h₃))) λ_ _ x=>x)
 first
  | exact wpAny_pure (wpAny_bind fin)
  | exact wpAny_bind (wpAny_pure (wpAny_bind fin))
  | exact wpAny_bind fin
variable {X:Cx}
theorem sE {pins:List (Addr × Obj)} {σ:St} {y:V} {o:Option V} (I:Inv X pins σ H s) (g:DGet H a y o):s.TypeIs (.ref a) "dict":=by
 rcases g with ⟨kvs,k,e,_,_⟩ | ⟨kvs,k,b,e,_,_,_⟩
 ·obtain ⟨_,_,vs,_,dd⟩:=yP I.hok e
  exact dd.typeIs
 ·obtain ⟨_,_,xs,_,dd⟩:=B3 I.hok e
  exact dd.typeIs
noncomputable def Co (td ty:TE):TE:=λσ H Q=>td σ H λx H1=>ty σ H1 λy H2=>∃ a v,x=.ref a/\DGet H2 a y (some v)/\Q v H2
section
variable {X:Cx} {o i e value:Expr} {pos pos' tpos:Pos} {td ty tv:TE}
theorem mO (hu:X.A.units+1 < cLine) (ho:PE X o td) (hi:PE X i ty) (hs:DQ i):PE X (.Subscript o i pos) (Co td ty):=by
 intro pins s σ H Q I h
 refine BU PySem.F.slot_dict_getitem.lookup hs (thn (ho pins s σ H _ I h) λu s1 ⟨x,H1,I1,rx,q1⟩=>thn (hi pins s1 σ H1 _ I1 q1) λiv s2 ⟨y,H2,I2,ry,a,v,ex,g,q2⟩=>?_)
 subst ex
 obtain rfl:u=Value.ref a:=rx
 exact ⟨sE I2 g,xl hu I2 g ry λw' s3 I3 rw'=>⟨v,H2,I3,rw',q2⟩⟩
end
theorem yO (h:Heap) (hb:sysModules < h.objs.size):ObjOk P w H (h.push { cls:=.type "dict",data:=.dict #[] }) h.objs.size (.dK []) :=
 ⟨Nat.zero_le _,beq_eq_false_iff_ne.mpr (Ne.symm (Nat.ne_of_lt hb)),[],.nil,Heap.DictOf.new h⟩
section
variable {X:Cx} {pos:Pos}
end
noncomputable def vp:List (TE × TE)->St->Hp->(List (V × V)->Hp->Prop)->Prop
 | [],_,H,Q=>Q [] H
 | (tk,tv)::r,σ,H,Q=>tk σ H λx H1=>tv σ H1 λy H2=>vp r σ H2 λps H3=>Q ((x,y)::ps) H3
noncomputable abbrev VV:List (V × V)->List (Value × Value)->Prop:=Paired λp q=>RelV p.1 q.1/\RelV p.2 q.2
noncomputable def PPs (X:Cx) (pos:Pos) (keys:List (Option Expr)) (values:List Expr) (trs:List (TE × TE)):Prop :=
 ∀ (pins:List (Addr × Obj)) (s:Shared) (σ:St) (H:Hp) (Q:List (V × V)->Hp->Prop),Inv X pins σ H s->vp trs σ H Q ->
  wpAny (model X.prog X.w) X.A (evalPairs (pairTrees keys values X.env pos)) (λvs s'=>∃ ps H',Inv X pins σ H' s'/\VV ps vs/\Q ps H') X.xe s
theorem Bv:PPs X pos [] [] []:=λpins s σ H Q I h=>pairTrees_nil_walk ⟨[],H,I,.nil,h⟩
variable {trs:List (TE × TE)}
theorem oi {k v:Expr} {ks:List (Option Expr)} {vs:List Expr} {tk tv:TE} (hk:PE X k tk) (hv:PE X v tv) (hr:PPs X pos ks vs trs) :
  PPs X pos (some k::ks) (v::vs) ((tk,tv)::trs):=λpins s σ H Q I h =>
 pairTrees_cons_walk (thn (hk pins s σ H _ I h) λu s1 ⟨x,H1,I1,rx,q1⟩=>thn (hv pins s1 σ H1 _ I1 q1) λw2 s2 ⟨y,H2,I2,ry,q2⟩ =>
  thn (hr pins s2 σ H2 _ I2 q2) λws s3 ⟨ps,H3,I3,rel,q3⟩=>⟨(x,y)::ps,H3,I3,.cons ⟨rx,ry⟩ rel,q3⟩)
noncomputable def lE (kvs more:List (Key × V)):List (Key × V):=more.foldl (λacc kv=>tX acc kv.1 kv.2) kvs
theorem KV.merge:∀ {more:List (Key × V)} {rs:List (Key × Value)} {kvs:List (Key × V)} {vs:List (Key × Value)},KV more rs->KV kvs vs->KV (lE kvs more) (merged vs rs):=by
 intro more rs kvs vs r
 unfold KV at r
 induction r generalizing kvs vs with
 | nil=>intro q;exact q
 | @cons p q ps qs h t ih =>
  intro r0
  have e:KV (tX kvs p.1 p.2) (stored vs q.1 q.2):=by
   have:=r0.put p.1 h.2
   rw [← h.1];exact this
  exact ih e
theorem j4:∀ (more kvs:List (Key × V)),(lE kvs more).length≤kvs.length+more.length
 | [],kvs=>by show kvs.length≤kvs.length+0;omega
 | p::r,kvs=>by
  have h1:=j4 r (tX kvs p.1 p.2)
  have h2:=sZ kvs p.1 p.2
  show (lE (tX kvs p.1 p.2) r).length≤_
  rw [List.length_cons];omega
theorem nj {P:Program} {w:World}:∀ {kvs:List (Key × V)} {ws:List (Value × Value)},VV (kvs.map λkv=>(kV kv.1,kv.2)) ws->∃ rs,Carries (dO P w) ws rs/\KV kvs rs
 | [],_,r=>by rw [List.map_nil] at r;cases r;exact ⟨[],True.intro,.nil⟩
 | p::kvs,_,r=>by
  rw [List.map_cons] at r
  cases r with
  | @cons a b as bs h t =>
   obtain ⟨rs,c,q⟩:=nj (P:=P) (w:=w) t
   obtain ⟨b1,b2⟩:=b
   exact ⟨(p.1,b2)::rs,⟨zy h.1,rfl,c⟩,.cons ⟨rfl,h.2⟩ q⟩
noncomputable def Ex (trs:List (TE × TE)):TE:=λσ H Q=>∀ p,H p=none->vp trs σ (upd H p (.dK [])) λps H2=>H2 p=some (.dK [])/\∃ kvs:List (Key × V),ps=kvs.map (λkv=>(kV kv.1,kv.2))/\kvs.length≤15/\Q (.ref p) (upd H2 p (.dK (lE [] kvs)))
theorem Bs {keys:List (Option Expr)} {values:List Expr} (h:PPs X pos keys values trs) (hall:keys.all (·.isSome)=true) (hl:keys.length=values.length) (h0:keys≠[])
  (h15:keys.length≤15):PE X (.Dict keys values pos) (Ex trs):=by
 intro pins s σ H Q I q
 have hn:=I.hok.fresh (Nat.le_refl s.heap.objs.size)
 have I1:=I.laid (a:=s.heap.objs.size) (o:=.dK []) (h':=s.heap.push { cls:=.type "dict",data:=.dict #[] }) (t':=s.toks) (λ_ _ q=>Heap.get?_push_of_some _ q) (Nat.le_refl _) (yO s.heap I.big)
 refine wpAny_Dict_walk (knd:=dO X.prog X.w) hall hl h0 h15 (thn (h pins _ σ _ _ I1 (q _ hn)) λws s2 ⟨ps,H2,I2,rel,e,kvs,ep,lk,q2⟩=>?_)
 subst ep
 obtain ⟨rs,c,rk⟩:=nj (P:=X.prog) (w:=X.w) rel
 obtain ⟨z,hd,vs0,r0,dd⟩:=DV I2.hok e
 cases r0
 refine ⟨rs,c,dd,λh' dd' hs=>⟨.ref s.heap.objs.size,_,?_,rfl,q2⟩⟩
 have hz:(lE [] kvs).length≤sizeLine:=by
  have h1:=j4 kvs []
  rw [List.length_nil] at h1
  rw [sizeLine_eq];omega
 have he:∃ q,h'.get? s.heap.objs.size=some q:=let ⟨q,_,_,hq,_⟩:=dd';⟨q,hq⟩
 exact AV I2 (by rw [e];exact True.intro) hs he (CQ hz hd (rk.merge .nil) dd')
structure M2 (X:Cx) (o:Expr) (m:Str) (apos:Pos) (e f:Expr) (cpos:Pos):Prop where
 base:attributeBase o m X.env (eval o X.env)=eval o X.env
 few:((backTo cpos (starEach [e,f] X.env)).all (λx=>!x.1) && (backToKw cpos (keywordEach [] X.env)).all (λx=>x.1.isSome)
  && decide (([e,f]:List Expr).length+([]:List Keyword).length+(if ([]:List Keyword).isEmpty then 0 else 1) < 30))=true
 line:(apos.endLine == cpos.line)=true
 trees:backTo cpos (starEach [e,f] X.env)=[(false,eval e X.env),(false,eval f X.env)]
section
variable {X:Cx} {pins:List (Addr × Obj)} {σ:St} {H:Hp} {s:Shared} {a:Addr} {y d:V} {u r:Value} {o:Option V} {A:Around} {E:Value->Shared->Prop}
end
section
variable {X:Cx} {o e f:Expr} {apos cpos:Pos} {td ty tx:TE}
end
section
variable {X:Cx} {pins:List (Addr × Obj)} {σ:St} {H:Hp} {s:Shared} {a:Addr} {kvs:List (Key × V)} {A:Around} {E:Value->Shared->Prop}
end
section
variable {X:Cx} {pins:List (Addr × Obj)} {σ:St} {H:Hp} {s:Shared} {a:Addr} {y:V} {u:Value} {A:Around} {E:Value->Shared->Prop}
end
end L2
namespace Att
open PySem PySem.W PySem.Calls PyProof.Rows
variable {P:Params} {h:Heap}
theorem mD:∀ (ns:List Int) (vs:List Value),WellAll P h vs (ns.map WData.int)->IntsAre vs ns:=by
 intro ns
 induction ns with
 | nil =>
  intro vs w
  rw [List.map_nil] at w
  cases w
  exact .nil
 | cons n ns ih =>
  intro vs w
  rw [List.map_cons] at w
  cases w with
  | cons a b =>
   cases a
   exact .cons _ _ (ih _ b)
variable {l:OpenLaw} {n:Nat}
theorem xT (hn:l.most=some n) {args:List WData} {vals:List Value}
  (hpre:l.row.toRowW.claim.pre args=true) (hwl:WellAll P h vals args) :
  ∃ a vs ns,vals=[Value.ref a]/\args=[WData.list (ns.map WData.int)]/\h.get? a=some { cls:=.type "list",data:=.seq vs.toArray }/\IntsAre vs ns/\ns.length≤n:=by
 have hsh:WShape.hasAll [] args [.list .int]=true:=(pre_splitW hpre).1
 have hc:l.pre.holds [] { args:=args }=true:=(pre_splitW hpre).2
 obtain ⟨d,r,rfl,h1,h2⟩:=hasAllW_cons hsh
 obtain rfl:=hasAllW_nil h2
 obtain ⟨xs,rfl,h3⟩:=hasW_list h1
 obtain ⟨ns,rfl⟩:=items_int h3
 have hlen:ns.length≤n:=by
  unfold OpenLaw.pre at hc
  have h4:(WTm.not (.lt (.lit (.int (n:Int))) (.len (.arg 0)))).holds [] { args:=[.list (ns.map .int)] }=true:=by
   have h4:=(holds_andW hc).1
   rw [hn] at h4
   exact h4
  have h5:=condW_of h4 (w_not (w_lt w_lit (w_len_list (w_arg rfl))))
  rw [List.length_map] at h5
  refine Nat.le_of_not_lt λq=>?_
  have q':(n:Int) < ((ns.length:Nat):Int):=by omega
  first
   | (rw [decide_eq_true q'] at h5;exact absurd h5 (by decide))
   | (simp at h5;omega)
 cases hwl with
 | cons w1 w2 =>
  cases w2
  cases w1 with
  | list ho hall=>exact ⟨_,_,ns,rfl,rfl,ho,mD ns _ hall,hlen⟩
theorem xM (l:OpenLaw) (args:List WData):l.row.toRowW.claim.post args (.bool true) args=true :=
 postW_of (r:=l.row.toRowW) (X:=(true == true))
  (show WShape.has [] (.bool true) .bool=true by first | rfl | decide | simp [WShape.has,WShape.arms,WShape.armsAll])
  (show (WTm.eq .res (.lit (.bool true))).value [] { args:=args,res:=some (.bool true),after:=args }=some (.bool (true == true)) from w_eq_bool (w_res rfl) w_lit) rfl
theorem attach_call {q:Program} {loose:List Str} {XP:(Str->Option Value)->Heap->Prop} {YP:World->Heap->Prop} {d:DefRec}
  (hn:l.most=some n) (hdf:d.params.defaults=[])
  (call:∀ (w:World) (s₀ s₁:Shared) (mg mb:Str->Option Value) (fa:Addr) (o:Obj) (pm cd doc:Value) (a:Addr) (vs:List Value) (ns:List Int),
   Ground q loose [] XP w s₀ mg mb s₁.heap->YP w s₁.heap ->
   s₁.heap.get? fa=some o->o.data=.func (docDef d.name d.params d.body d.scope pm cd doc)->s₁.heap.CodeRec cd d.name->mg d.name=some (.ref fa) ->
   s₁.heap.get? a=some { cls:=.type "list",data:=.seq vs.toArray }->IntsAre vs ns->ns.length≤n->s₁.gens=#[] ->
   codeAny (model l.prog w) callerA (.call (.ref fa) ⟨[.ref a],[]⟩) (λr s'=>r=.ok (.ret (.bool true))/\OldK s₁.heap s'.heap/\s'.os=s₁.os/\AllBare s'.gens) s₁) :
  WalkO q loose XP YP l.row.toRowW d [] (λf vs=>PySem.call f vs):=by
 intro w s₀ s₁ mg mb G Y fa o pm cd doc dV kV ho hd hcd hD hmg hg args vals as hpre hlay hrd hwl hlo
 obtain rfl:dV=.none:=Dflts.none hD hdf
 obtain rfl:kV=.none:=Dflts.noKw hD
 obtain ⟨a,vs,ns,rfl,rfl,hobj,hints,hlen⟩:=xT hn hpre hwl
 refine enter_call (codeAny_mono (call w s₀ s₁ mg mb fa o pm cd doc a vs ns G Y ho (fd_plain hd) hcd hmg hobj hints hlen hg) λr s' hq=>?_)
 obtain ⟨rfl,h2,h3,h4⟩:=hq
 exact ⟨.inl ⟨.bool true,.bool true,[],rfl,λ_=>rfl,.bool true,xM l _,λ_=>⟨List.Pairwise.nil,λ_ hm=>(nomatch hm)⟩⟩,h2,h3,h4⟩
section
variable {prog:Program} {w:World} {A:Around} {E:Value->Shared->Prop} {s:Shared} {K:Frag}
end
end Att
namespace L2
open PySem PySem.Spec PyProof.Rows
theorem ql:∀ {vs:List Value} {ns:List Int},IntsAre vs ns->Vals (ns.map V.int) vs
 | _,_,.nil=>.nil
 | _,_,.cons n t h=>.cons ⟨t,rfl⟩ (ql h)
noncomputable def AK (H:Hp):Prop:=∀ b,H b=none\/∃ o xs,H b=some (.frz o (.lst xs))
variable {P:Program} {w:World} {K:PySem.W.Frag} {mg:Str->Option Value} {CX:CXT} {a:Addr} {fd:FuncData} {x:Str} {sp:Sp} {ns:List Int}
theorem zA {mb:Str->Option Value} {k:Nat} {fa:Addr} {s₁:Shared} {vs:List Value}
  (KX:K.In s₁.heap) (hns:s₁.heap.Ns mainGlobals mg) (hb:s₁.heap.Ns builtinsNs mb) (hbb:∀ x:Str,x≠"__name__"->mb x=bootBuiltins x) (hlim:s₁.heap.NoLimit) (hg:s₁.gens=#[])
  (ha:s₁.heap.get? a=some { cls:=.type "list",data:=.seq vs.toArray }) (hi:IntsAre vs ns) (hl:ns.length≤sizeLine) (hr:Room k callerA)
  (F:∀ base:Heap,K.In base->base.Ns mainGlobals mg->FnOk P w K mg base CX k fa fd [x] sp) (hbind:∀ (s:Shared) (u:Value),BindsTo s fd ⟨[u],[]⟩ [(x,u)])
  (hsp:∀ H:Hp,AK H->SqL K H a (ns.map V.int)->sp [.ref a] H (λv _=>v=.bl true) λ_ _ _=>False)
  (hCX:∀ H e s',CX [] H s₁ (λ_ _ _=>False) e s'->False) :
  codeAny (model P w) callerA (.call (.ref fa) ⟨[.ref a],[]⟩) (λr s'=>r=.ok (.ret (.bool true))/\OldK s₁.heap s'.heap/\s'.os=s₁.os/\AllBare s'.gens) s₁:=by
 have rv:=ql hi
 have lenV:=hi.length
 have core:∀ H:Hp,AK H->SqL K H a (ns.map V.int)->HOk P w H s₁.heap->(∀ b,H b≠none->b=a)->(H a≠none->K.lookup a=none) ->
   codeAny (model P w) callerA (.call (.ref fa) ⟨[.ref a],[]⟩) (λr s'=>r=.ok (.ret (.bool true))/\OldK s₁.heap s'.heap/\s'.os=s₁.os/\AllBare s'.gens) s₁:=by
  intro H hO hS hok hA hK
  have base_of:∀ {b:Addr} {o:Obj},s₁.heap.get? b=some o->H b=none->(qJ s₁.heap H).get? b=some o:=λe n=>zm e n
  have noA:∀ {b:Addr} {o:Obj} {es:Array DictEntry} {ep:Nat},s₁.heap.get? b=some o->o.data=.dict es ep->H b=none:=λ{b o es ep} e d=>by
   cases q:H b with
   | none=>rfl
   | some u =>
    have e':b=a:=hA b (by rw [q];simp)
    subst e'
    rw [ha] at e;cases e
    have d':Data.seq vs.toArray _=Data.dict es ep:=d
    cases d'
  have nsK:∀ {b:Addr} {m:Str->Option Value},s₁.heap.Ns b m->(qJ s₁.heap H).Ns b m:=λ{b m} ⟨o,es,ep,e,d,r⟩=>⟨o,es,ep,base_of e (noA e d),d,r⟩
  have hKb:K.In (qJ s₁.heap H):=λb o e=>base_of (KX b o e) (by
   cases q:H b with
   | none=>rfl
   | some u =>
    have e':b=a:=hA b (by rw [q];simp)
    subst e'
    rw [hK (by rw [q];simp)] at e;cases e)
  have hM:Mod K mg (qJ s₁.heap H):=⟨hKb,nsK hns,⟨mb,nsK hb,hbb⟩,let ⟨mc,h1,h2⟩:=hlim;⟨mc,nsK h1,h2⟩⟩
  have e0:AJ P w K mg (qJ s₁.heap H) callerA [] s₁ H:=⟨rfl,hM,λb o e=>Bj e,Nat.le_of_eq (xq _ _),trivial,λb hb=>absurd (show b ∈ ([]:List Addr) from hb) (by simp),hok,.of_eq hg⟩
  refine codeAny_mono ((F _ hKb (nsK hns)).run callerA [] s₁ H ⟨[.ref a],[]⟩ [.ref a] [.ref a] _ _ hr e0 (hbind s₁ (.ref a)) (.cons rfl .nil) (hsp H hO hS)) λr s' h=>?_
  cases r with
  | error e=>exact (hCX H e s' h).elim
  | ok fl =>
   cases fl with
   | next=>exact False.elim h
   | brk=>exact False.elim h
   | cont=>exact False.elim h
   | ret u =>
    obtain ⟨v,H',os,bare,un,hok',r',q⟩:=h
    have q':v=.bl true:=q
    subst q'
    obtain rfl:u=Value.bool true:=r'
    refine ⟨rfl,OldK.of_keep λb o e=>?_,os,bare⟩
    cases q:H b with
    | none=>exact un.keep b o e q (by intro z;exact absurd (show b ∈ ([]:List Addr) from z) (by simp)) (by simp)
    | some u =>
     rcases hO b with z | ⟨ob,xs,z⟩
     ·rw [q] at z;cases z
     ·have z2:=un.frzs b ob _ z
      obtain ⟨e1,_⟩:=hok b _ z
      obtain ⟨e2,_⟩:=hok' b _ z2
      rw [e] at e1;cases e1
      exact e2
 cases hk:K.lookup a with
 | some o =>
  have e:=KX a o hk
  rw [ha] at e
  cases e
  refine core (λ_=>none) (λ_=>.inl rfl) (.inr ⟨_,vs.toArray,_,hk,rfl,rfl,rfl,by rw [List.size_toArray,lenV];exact hl,by simpa using rv⟩) (λb u z=>by have z':(none:Option HO)=some u:=z;cases z') (λb z=>absurd rfl z) λz=>absurd rfl z
 | none =>
  refine core (λb=>if b=a then some (.frz { cls:=.type "list",data:=.seq vs.toArray } (.lst (ns.map V.int))) else none) (λb=>?_) (.inl (.inr ⟨{ cls:=.type "list",data:=.seq vs.toArray },if_pos rfl⟩)) (λb u z=>?_) (λb z=>?_) λ_=>hk
  ·by_cases hb:b=a
   ·exact .inr ⟨_,_,if_pos hb⟩
   ·exact .inl (if_neg hb)
  ·by_cases hb:b=a
   ·have z':=(if_pos hb).symm.trans z
    cases z'
    subst hb
    exact ⟨ha,by rw [List.length_map];exact hl,vs,_,rv,ha⟩
   ·have z':=(if_neg hb).symm.trans z
    cases z'
  ·by_cases hb:b=a
   ·exact hb
   ·exact absurd (if_neg hb) z
variable {n:Nat}
theorem walk_of {l:PySem.W.OpenLaw} {k:Nat} {q:Program} {loose:List Str} {XP:(Str->Option Value)->Heap->Prop} {YP:World->Heap->Prop} {d:DefRec} {K:Params->PySem.W.Frag} {CX:World->CXT} {sp:World->Sp}
  (hn:l.most=some n) (hn2:n≤sizeLine) (hdf:d.params.defaults=[]) (hr:Room k callerA)
  (hY:∀ (w:World) (h:Heap),YP w h->(K w.params).In h)
  (F:∀ (w:World) (mg:Str->Option Value) (fa:Addr) (h:Heap),(K w.params).In h->h.Ns mainGlobals mg->mg d.name=some (.ref fa) ->
   ∃ fd:FuncData,(∀ (s:Shared) (u:Value),BindsTo s fd ⟨[u],[]⟩ [(x,u)]) /\
    ∀ base:Heap,(K w.params).In base->base.Ns mainGlobals mg->FnOk l.prog w (K w.params) mg base (CX w) k fa fd [x] (sp w))
  (hsp:∀ (w:World) (H:Hp) (a:Addr) (ns:List Int),ns.length≤n->AK H->SqL (K w.params) H a (ns.map V.int)->sp w [.ref a] H (λv _=>v=.bl true) λ_ _ _=>False)
  (hCX:∀ (w:World) (H:Hp) (s:Shared) (e:Value) (s':Shared),CX w [] H s (λ_ _ _=>False) e s'->False) :
  PySem.W.WalkO q loose XP YP l.row.toRowW d [] (λf vs=>PySem.call f vs):=by
 refine Att.attach_call hn hdf λw s₀ s₁ mg mb fa o pm cd doc a vs ns G Y ho hd hcd hmg hobj hints hlen hg=>?_
 have KX:=hY w _ Y
 obtain ⟨fd,hb,hF⟩:=F w mg fa _ KX G.T.g hmg
 exact zA KX G.T.g G.T.b G.T.builtins G.T.nolimit hg hobj hints (Nat.le_trans hlen hn2) hr hF hb (λH hO hS=>hsp w H a ns hlen hO hS) λH e s'=>hCX w H s₁ e s'
noncomputable def kJ (s:Stmt):Arguments:=match s with
 | .FunctionDef _ a _ _ _ _ _ _ _ _=>a
 | _=>{ posonlyargs:=[],args:=[],vararg:=none,kwonlyargs:=[],kw_defaults:=[],kwarg:=none,defaults:=[] }
noncomputable def jL (s:Stmt):List Stmt:=match s with
 | .FunctionDef _ _ b _ _ _ _ _ _ _=>b
 | _=>[]
noncomputable def aA (s:Stmt):Scope:=match s with
 | .FunctionDef _ _ _ _ _ _ sc _ _ _=>sc
 | _=>{ kind:=.function,names:=[],isGenerator:=false,isCoroutine:=false }
noncomputable abbrev CX0:CXT:=λ_ _ _ _ _ _=>False
noncomputable abbrev E0:XK:=λ_ _ _=>False
variable {X:Cx}
theorem aO:qm CX0 X E0:=λ_ _ _ _ _ _ _ h=>h.elim
structure Fun (K:PySem.W.Frag) (x qual:Str) (st:Stmt) (f:Addr) (fd:FuncData):Prop where
 ex:∃ (oc:Value) (od:Option Addr) (kV doc pm:Value) (an:Option Addr) (cdv ct:Value) (osl:Array (Option Value)),
  fd=PySem.W.fnOf x qual (kJ st) (jL st) (aA st) .none kV doc pm an cdv ct/\K.lookup f=some ⟨oc,od,.func fd,osl⟩/\PySem.W.codeIn K cdv qual=true
 kp:PySem.W.keepIn K (.ref f)=true
section
variable {P:Program} {w:World} {K:PySem.W.Frag} {mg:Str->Option Value} {base:Heap}
variable {x qual:Str} {st:Stmt} {f:Addr} {fd:FuncData} {ps:List Str}
theorem Fun.ok {N:List Str} {k:Nat} {sp:Sp} (F:Fun K x qual st f fd) (S:FnScope N ps (aA st)) (len:∀ vs H Q E,sp vs H Q E->vs.length=ps.length)
  (hbody:∀ (cdv:Value) (A:Around) (outer:List Env) (s:Shared) (H:Hp) (vs:List V) (Q:VK) (E:XK),Room k (A.deeper (envOfC qual (aA st) s.heap.objs.size f cdv))->sp vs H Q E ->
   ∃ t,PSs (xk CX0 P w K mg base N qual (aA st) f cdv A outer s H E).nox (jL st) t/\t { nx:=λ_ H'=>Q .non H',rt:=Q } (gD N vs) H):FnOk P w K mg base CX0 (k+1) f fd ps sp:=by
 obtain ⟨oc,od,kV,doc,pm,an,cdv,ct,osl,rfl,lk,hcd⟩:=F.ex
 refine DW lk hcd S len λA outer s H vs Q E hr hsp=>?_
 obtain ⟨t,h,q⟩:=hbody cdv A outer s H vs Q E hr hsp
 exact ⟨t,h.nox,q⟩
theorem Fun.binds (F:Fun K x qual st f fd)
  (h:∀ (kV doc pm:Value) (an:Option Addr) (cdv ct:Value) (us:List Value),us.length=ps.length->bindArgs (PySem.W.fnOf x qual (kJ st) (jL st) (aA st) .none kV doc pm an cdv ct) ⟨us,[]⟩=pure (ps.zip us)):Binds K fd ps []:=by
 obtain ⟨oc,od,kV,doc,pm,an,cdv,ct,osl,rfl,lk,hcd⟩:=F.ex
 exact .all (h kV doc pm an cdv ct)
theorem bf {oc:Value} {od an:Option Addr} {osl:Array (Option Value)} {kV doc pm cdv ct:Value} (l:K.lookup f=some ⟨oc,od,.func (PySem.W.fnOf x qual (kJ st) (jL st) (aA st) .none kV doc pm an cdv ct),osl⟩)
  (c:PySem.W.codeIn K cdv qual=true) (k:PySem.W.keepIn K (.ref f)=true):Fun K x qual st f (PySem.W.fnOf x qual (kJ st) (jL st) (aA st) .none kV doc pm an cdv ct):=⟨⟨oc,od,kV,doc,pm,an,cdv,ct,osl,rfl,l,c⟩,k⟩
end
variable {A:Around}
theorem vV {k:Nat} (hr:Room k A):A.units+1 < cLine:=Nat.lt_of_le_of_lt (Nat.add_le_add_left (by decide:1≤64) _) hr.units
theorem cx (h:n≤1000):n < sizeLine:=Nat.lt_of_le_of_lt h (by decide)
section
variable {X:Cx}
theorem pv (i:Nat) {x:Str} {pos:Pos} (hN:X.N[i]?=some x:=by rfl) (hv:Vis X.env.scope x:=by first | exact Or.inl rfl | exact Or.inr (Or.inl rfl) | exact Or.inr (Or.inr rfl)) (hd:(x == ("__debug__":Str))=false:=by decide)
  (hcd:(x == ("__classdict__":Str))=false:=by decide):PE X (.Name x pos) (jl i):=Dp hN hv hd hcd
end
theorem qM {A B:Prop} (h:B):if false=true then A else B:=by
 rw [if_neg Bool.false_ne_true]
 exact h
theorem sY {A B:Prop} (h:A):if true=true then A else B:=by
 rw [if_pos rfl]
 exact h
theorem oQ {c A B:Prop} [Decidable c] (h1:c->A) (h2:¬ c->B):if c then A else B:=by
 by_cases h:c
 ·rw [if_pos h]
  exact h1 h
 ·rw [if_neg h]
  exact h2 h
noncomputable def Same (H H':Hp):Prop:=∀ b o,H b=some o->H' b=some o
theorem Same.refl (H:Hp):Same H H:=λ_ _ h=>h
variable {H H1:Hp}
theorem Same.trans {H2:Hp} (a:Same H H1) (b:Same H1 H2):Same H H2:=λc o h=>b c o (a c o h)
variable {H':Hp} {l:Addr}
theorem Same.free (e:Same H H') (h:H' l=Option.none):H l=Option.none:=by
 cases q:H l with
 | none=>rfl
 | some o =>
  rw [e l o q] at h
  cases h
variable {xs:List V}
theorem Same.seq (e:Same H H') (h:SqL K H a xs):SqL K H' a xs:=by
 rcases h with (h | ⟨o,h⟩) | h
 ·exact .inl (.inl (e _ _ h))
 ·exact .inl (.inr ⟨o,e _ _ h⟩)
 ·exact .inr h
section
variable {κ:Type} [DecidableEq κ]
end
noncomputable def rk (env:Env) (x:Str) (k:NameKind):NameKind :=
 if (k == NameKind.free && env.scope.kind == .function && env.kindOf x == some .cell)=true then .cell else k
theorem rD (sc:Scope) (env:Env) (x:Str):(relabel sc env).names.lookup x=(sc.names.lookup x).map (rk env x):=by
 have all:∀ l:List (Str × NameKind),(l.map λ(n,k)=>if (k == NameKind.free && env.scope.kind == .function && env.kindOf n == some .cell) then (n,NameKind.cell) else (n,k)).lookup x=(l.lookup x).map (rk env x):=by
  intro l
  induction l with
  | nil=>rfl
  | cons p r ih =>
   obtain ⟨n,k⟩:=p
   rw [List.map_cons]
   cases hx:x == n with
   | true =>
    have e:x=n:=by simpa using hx
    subst e
    by_cases c:(k == NameKind.free && env.scope.kind == .function && env.kindOf x == some .cell)=true
    ·simp [List.lookup_cons,rk,c]
    ·simp [List.lookup_cons,rk,c]
   | false =>
    have e1:((n,k)::r).lookup x=r.lookup x:=by rw [List.lookup_cons,hx]
    rw [e1,← ih]
    by_cases c:(k == NameKind.free && env.scope.kind == .function && env.kindOf n == some .cell)=true
    ·show List.lookup x ((if (k == NameKind.free && env.scope.kind == .function && env.kindOf n == some .cell)=true then (n,NameKind.cell) else (n,k))::_)=_
     rw [if_pos c,List.lookup_cons,hx]
    ·show List.lookup x ((if (k == NameKind.free && env.scope.kind == .function && env.kindOf n == some .cell)=true then (n,NameKind.cell) else (n,k))::_)=_
     rw [if_neg c,List.lookup_cons,hx]
 exact all sc.names
variable {env:Env}
theorem BK:rk env x .free=.cell\/rk env x .free=.free:=by
 unfold rk
 split
 ·exact .inl rfl
 ·exact .inr rfl
theorem DA {k:NameKind} (h:k≠.free):rk env x k=k:=by
 unfold rk
 rw [if_neg]
 intro c
 have:(k == NameKind.free)=true:=by
  cases q:(k == NameKind.free) with
  | true=>rfl
  | false=>rw [q] at c;simp at c
 exact h (by simpa using this)
noncomputable def Ed:Option NameKind->Bool
 | some .free=>true
 | _=>false
noncomputable def Ec:Option NameKind->Bool
 | some .free=>true
 | some .cell=>true
 | _=>false
noncomputable def Ee:Option NameKind->Bool
 | some .local=>true
 | _=>false
variable {o:Option NameKind}
theorem A9 (h:Ed o=true):o=some .free:=by
 cases o with
 | none=>cases h
 | some k=>cases k <;> first | rfl | cases h
theorem A8 (h:Ec o=true):o=some .cell\/o=some .free:=by
 cases o with
 | none=>cases h
 | some k=>cases k <;> first | exact .inl rfl | exact .inr rfl | cases h
theorem Ba (h:Ee o=true):o=some .local:=by
 cases o with
 | none=>cases h
 | some k=>cases k <;> first | rfl | cases h
noncomputable def cj (N:List Str) (ok:Str->Option NameKind) (names:List (Str × NameKind)) (own:List Str) (fr:List Nat) (N':List Str):Bool :=
 decide (N'=own++fr.map λj=>N.getD j "") && (fr.all λj=>decide (j < N.length) && Ed (names.lookup (N.getD j ""))) &&
  names.all λp=>match p.2 with
   | .free=>Ec (ok p.1)
   | .cell=>false
   | .local=>Ee (names.lookup p.1)
   | _=>true
structure Blk (N:List Str) (ok:Str->Option NameKind) (names:List (Str × NameKind)) (own:List Str) (fr:List Nat) (N':List Str):Prop where
 eN:N'=own++fr.map λj=>N.getD j ""
 fr:∀ j ∈ fr,j < N.length/\names.lookup (N.getD j "")=some .free
 free:∀ p ∈ names,p.2=.free->ok p.1=some .cell\/ok p.1=some .free
 cell:∀ p ∈ names,p.2≠.cell
 loc:∀ p ∈ names,p.2=.local->names.lookup p.1=some .local
theorem yz {N:List Str} {ok:Str->Option NameKind} {names:List (Str × NameKind)} {own:List Str} {fr:List Nat} {N':List Str} (h:cj N ok names own fr N'=true):Blk N ok names own fr N':=by
 unfold cj at h
 rw [Bool.and_eq_true,Bool.and_eq_true] at h
 obtain ⟨⟨h1,h2⟩,h3⟩:=h
 have h3':=List.all_eq_true.mp h3
 refine ⟨of_decide_eq_true h1,λj hj=>?_,λp hp e=>?_,λp hp e=>?_,λp hp e=>?_⟩
 ·have q:=List.all_eq_true.mp h2 j hj
  rw [Bool.and_eq_true] at q
  exact ⟨of_decide_eq_true q.1,A9 q.2⟩
 ·have q:=h3' p hp
  rw [e] at q
  exact A8 q
 ·have q:=h3' p hp
  rw [e] at q
  cases q
 ·have q:=h3' p hp
  rw [e] at q
  exact Ba q
noncomputable def mkS (own:List Str) (fr:List Nat) (σ:St):St:=own.map (λ_=>none)++fr.map λj=>(σ[j]?).getD none
theorem DT (sc:Scope) (env:Env) (h:∀ p ∈ sc.names,p.2=.free->∃ c,env.cells.lookup p.1=some c) :
  ∃ cl,closureFor sc env=pure cl/\(∀ x c,cl.lookup x=some c->env.cells.lookup x=some c)/\∀ p ∈ sc.names,p.2=.free->cl.lookup p.1=env.cells.lookup p.1:=by
 unfold closureFor
 have all:∀ (l:List (Str × NameKind)) (acc:List (Str × Addr)),(∀ p ∈ l,p.2=.free->∃ c,env.cells.lookup p.1=some c)->(∀ x c,acc.lookup x=some c->env.cells.lookup x=some c) ->
   ∃ cl,(forIn l acc λ(p:Str × NameKind) (r:List (Str × Addr))=>(match p with
    | (name,kind)=>if (kind == NameKind.free)=true then (do let a ← cellOf env name;pure (ForInStep.yield ((name,a)::r))) else pure (ForInStep.yield r):Sem (ForInStep (List (Str × Addr)))))=pure cl /\
    (∀ x c,cl.lookup x=some c->env.cells.lookup x=some c)/\(∀ p ∈ l,p.2=.free->cl.lookup p.1=env.cells.lookup p.1)/\∀ x,acc.lookup x=env.cells.lookup x->cl.lookup x=env.cells.lookup x:=by
  intro l
  induction l with
  | nil=>intro acc _ ha;exact ⟨acc,rfl,ha,λp hp=>(by simp at hp),λx e=>e⟩
  | cons p r ih =>
   intro acc hl ha
   obtain ⟨n,k⟩:=p
   rw [List.forIn_cons]
   by_cases hk:k=.free
   ·subst hk
    obtain ⟨c,hc⟩:=hl (n,.free) List.mem_cons_self rfl
    have hce:cellOf env n=pure c:=by unfold cellOf;rw [hc]
    obtain ⟨cl,e1,e2,e3,e4⟩:=ih ((n,c)::acc) (λp hp=>hl p (List.mem_cons_of_mem _ hp)) (λx c' e=>by
     rw [List.lookup_cons] at e
     cases hx:x == n with
     | true =>
      rw [hx] at e
      have:x=n:=by simpa using hx
      subst this
      cases e
      exact hc
     | false=>rw [hx] at e;exact ha x c' e)
    refine ⟨cl,?_,e2,λp hp e=>?_,λx e=>e4 x ?_⟩
    ·simp only [beq_self_eq_true,if_true,hce]
     exact e1
    ·rcases List.mem_cons.mp hp with rfl | hp
     ·exact e4 n (by rw [List.lookup_cons];simp [hc])
     ·exact e3 p hp e
    ·rw [List.lookup_cons]
     cases hx:x == n with
     | true =>
      have:x=n:=by simpa using hx
      subst this
      simp [hc]
     | false=>exact e
   ·have hb:(k == NameKind.free)=false:=by simpa using hk
    obtain ⟨cl,e1,e2,e3,e4⟩:=ih acc (λp hp=>hl p (List.mem_cons_of_mem _ hp)) ha
    refine ⟨cl,?_,e2,λp hp e=>?_,e4⟩
    ·simp only [hb,Bool.false_eq_true,if_false]
     exact e1
    ·rcases List.mem_cons.mp hp with rfl | hp
     ·exact absurd e hk
     ·exact e3 p hp e
 obtain ⟨cl,e1,e2,e3,_⟩:=all sc.names [] h (λx c e=>by simp at e)
 refine ⟨cl,?_,e2,e3⟩
 have e1':=congrArg (λt:Sem (List (Str × Addr))=>t >>= λcs=>pure cs) e1
 first
  | exact e1'
  | (simp only [pure_bind] at e1';exact e1')
  | (refine Eq.trans ?_ e1';rfl)
  | (dsimp only at e1' ⊢;exact e1')
noncomputable def Cx.blk (X:Cx) (sc:Scope) (cl:List (Str × Addr)) (C:Addr) (N:List Str) (s:Shared) (H:Hp) (fp:List Addr):Cx where
 prog:=X.prog
 w:=X.w
 K:=X.K
 mg:=X.mg
 base:=X.base
 A:=X.A
 N:=N
 s₀:=s
 H₀:=H
 env:=compEnvC sc cl C X.env
 outer:=X.stack
 stack:=X.stack
 ex:=fp
 fn:=λ_=>false
 calm:=X.calm
 pn:=[]
 xe:=λ_ _=>False
section
variable {X:Cx} {pins:List (Addr × Obj)} {σ:St} {H:Hp} {s:Shared} {sc:Scope} {cl:List (Str × Addr)} {own:List Str} {fr:List Nat} {N':List Str} {fp:List Addr}
variable {C:Addr}
theorem w9 (I:Inv X pins σ H s) (B:Blk X.N X.env.kindOf sc.names own fr N') (hk:sc.kind=.function)
  (sub:∀ x c,cl.lookup x=some c->X.env.cells.lookup x=some c) (has:∀ p ∈ sc.names,p.2=.free->cl.lookup p.1=X.env.cells.lookup p.1)
  (f2:∀ b ∈ fp,oI X pins H b) (fo:∀ b ∈ fp,b < s.heap.objs.size) {h1:Heap} {tk:Nat} {D:Addr} {n:Nat} (eD:D=s.heap.objs.size) (eC:s.heap.objs.size < C)
  (hns:h1.Ns C (λ_=>none)) (old:∀ b o,s.heap.get? b=some o->h1.get? b=some o) (hD:h1.get? D=some { cls:=.type "list",data:=.seq ([]:List Value).toArray n }) :
  Inv (X.blk sc cl C N' s H fp) [] (mkS own fr σ) (upd H D (.lst [])) { s with heap:=h1,toks:=tk }:=by
 have hcells:∀ x c,cl.lookup x=some c->c < s.heap.objs.size:=λx c e=>by
  obtain ⟨v,q⟩:=I.cell x c (sub x c e)
  exact q.lt
 have hDn:H D=none:=I.hok.fresh (Nat.le_of_eq eD.symm)
 have kind:∀ x,(X.blk sc cl C N' s H fp).env.kindOf x=(sc.names.lookup x).map (rk X.env x):=λx=>rD sc X.env x
 refine ⟨⟨I.ok.mod,hk,I.ok.glob,I.ok.blt,Nat.le_of_lt eC,λx y c e1 e2=>I.ok.inj x y c (sub x c e1) (sub y c e2),λx hx=>?_,(λx c e=>nomatch (show false=true from e)),I.ok.hd,I.ok.frames,.inl rfl,λb hb=>⟨?_,λx c e=>?_⟩,I.bs,Nat.le_trans I.ok.bsz I.sz,λb o e hb=>?_,λb hb=>?_,I.stack,I.stkFree⟩,
  rfl,I.bare,Un.laid old (Nat.le_of_eq eD.symm) hDn,⟨_,hns,λi x v e1 e2 e3=>?_⟩,λx c e=>?_,?_,λx c e=>?_,λp hp=>?_,I.hok.laid old (Nat.le_of_eq eD.symm) ⟨Nat.zero_le _,[],n,.nil,hD⟩,?_⟩
 ·have hx':(sc.names.lookup x).map (rk X.env x)=some .cell\/(sc.names.lookup x).map (rk X.env x)=some .free:=by
   rw [← kind x];exact hx
  cases q:sc.names.lookup x with
  | none=>rw [q] at hx';simp at hx'
  | some k =>
   have hm:=PySem.mem_of_lookup q
   by_cases hf:k=.free
   ·subst hf
    show ∃ c,cl.lookup x=some c
    rw [has _ hm rfl]
    have z:=B.free _ hm rfl
    exact I.ok.has x z
   ·rw [q] at hx'
    simp only [Option.map_some,DA hf] at hx'
    rcases hx' with z | z
    ·exact absurd (Option.some.inj z) (B.cell _ hm)
    ·exact absurd (Option.some.inj z) hf
 ·exact Nat.ne_of_lt (Nat.lt_trans (fo b hb) eC)
 ·exact (f2 b hb).2.2.2.2.1 x c (sub x c e)
 ·rcases (f2 b hb).2.2.2.1 with z | z
  ·exact I.ok.noex b o e z
  ·exact absurd (Nat.lt_of_lt_of_le (Heap.lt_size e) (Nat.le_trans I.ok.bsz z)) (Nat.lt_irrefl _)
 ·intro z
  rcases List.mem_cons.mp (I.stkSub b z) with e | e
  ·exact (f2 b hb).2.1 e
  ·exact (f2 b hb).2.2.1 e
 ·
  have e1':N'[i]?=some x:=e1
  have hi:¬ i < own.length:=λz=>by
   unfold mkS at e2
   rw [List.getElem?_append_left (by simpa using z),List.getElem?_map,List.getElem?_eq_getElem z] at e2
   cases e2
  unfold mkS at e2
  rw [List.getElem?_append_right (by simpa using hi),List.length_map,List.getElem?_map] at e2
  rw [B.eN,List.getElem?_append_right (by simpa using hi),List.getElem?_map] at e1'
  cases q:fr[i - own.length]? with
  | none=>rw [q] at e2;cases e2
  | some j =>
   rw [q] at e2 e1'
   simp only [Option.map_some,Option.some.injEq] at e2 e1'
   obtain ⟨hj,hfr⟩:=B.fr j (List.mem_of_getElem? q)
   have ej:X.N[j]?=some x:=by
    rw [← e1',List.getD_eq_getElem?_getD,List.getElem?_eq_getElem hj];rfl
   have eσ:σ[j]?=some (some v):=by
    cases z:σ[j]? with
    | none=>rw [z] at e2;cases e2
    | some o=>rw [z] at e2;simp only [Option.getD_some] at e2;rw [e2]
   rw [e1'] at hfr
   have hm:=PySem.mem_of_lookup hfr
   have hok:=B.free _ hm rfl
   obtain ⟨m0,hn0,hl0⟩:=I.loc
   have hv:Vis X.env.scope x:=by
    rcases hok with z | z
    ·exact .inr (.inl z)
    ·exact .inr (.inr z)
   obtain ⟨u,r,l⟩:=hl0 j x v ej eσ hv
   refine ⟨u,r,?_⟩
   rcases l with ⟨z,_⟩ | ⟨_,c,hc,o,ho,hd⟩
   ·have hok':X.env.kindOf x=some .cell\/X.env.kindOf x=some .free:=hok
    rw [z] at hok'
    rcases hok' with y | y <;> cases y
   ·refine .inr ⟨?_,c,?_,o,old c o ho,hd⟩
    ·rw [kind x,hfr]
     rcases BK (env:=X.env) (x:=x) with y | y
     ·exact .inl (by rw [Option.map_some,y])
     ·exact .inr (by rw [Option.map_some,y])
    ·show cl.lookup x=some c
     have z:=has _ hm rfl
     exact z.trans hc
 ·obtain ⟨v,o,ho,hd⟩:=I.cell x c (sub x c e)
  exact ⟨v,o,old c o ho,hd⟩
 ·show upd H D _ C=none
  rw [aJ (by rw [eD];exact Nat.ne_of_gt eC)]
  exact I.hok.fresh (Nat.le_of_lt eC)
 ·show upd H D _ c=none
  rw [aJ (by rw [eD];exact Nat.ne_of_lt (hcells x c e))]
  exact I.freeC x c (sub x c e)
 ·exact absurd (show p ∈ ([]:List (Addr × Obj)) from hp) (by simp)
 ·show (mkS own fr σ).length=N'.length
  rw [B.eN]
  simp [mkS]
theorem vE {σ':St} {H':Hp} {s':Shared} (I:Inv X pins σ H s) (f2:∀ b ∈ fp,oI X pins H b) (J:Inv (X.blk sc cl C N' s H fp) [] σ' H' s'):Inv X pins σ H' s' :=
 I.call' (ch:=fp) J.os J.base J.hok J.bare λb hb=>⟨(f2 b hb).2.2.2.1,(f2 b hb).2.1,(f2 b hb).2.2.2.2.1,(f2 b hb).2.2.2.2.2⟩
theorem Inv.young {s0:Shared} {H0:Hp} {σ0:St} {h':Heap} (I0:Inv X pins σ0 H0 s0) (I:Inv X pins σ H s) (hC:s0.heap.objs.size≤C) (hn:H C=none) (hs:Heap.SameBut C s.heap h'):Inv X pins σ H { s with heap:=h' } :=
 I.turned (t':=s.toks) (λb o hb e=>(hs.2 b hb).trans e) hn (Nat.ne_of_gt (Nat.lt_of_lt_of_le I0.lt hC)) (.inr (Nat.le_trans I0.sz hC))
  (λx c e z=>by
   obtain ⟨v,q⟩:=I0.cell x c e
   exact absurd (Nat.lt_of_lt_of_le q.lt (by rw [z];exact hC)) (Nat.lt_irrefl _))
  (λp hp z=>absurd (Nat.lt_of_lt_of_le (Heap.lt_size (I0.pin p hp).1) (by rw [z];exact hC)) (Nat.lt_irrefl _))
end
noncomputable def yg (X:Cx) (ifs:List Expr) (t:TT):Prop :=
 ∀ (pins:List (Addr × Obj)) (s:Shared) (σ:St) (H:Hp) (Q:Bool->Hp->Prop),Inv X pins σ H s->t σ H Q ->
  wpAny (model X.prog X.w) X.A (forIn ifs true λc r=>if r=true then do let ok ← isTrue c X.env (eval c X.env);pure (ForInStep.yield ok) else pure (ForInStep.yield r)) (TP X pins σ Q) X.xe s
noncomputable def gE:TT:=λ_ H Q=>Q true H
theorem bO:yg X [] gE:=λpins s σ H Q I h=>wpAny_tests_nil ⟨H,I,h⟩
theorem nY {c:Expr} {t:TT} (h:PT X c t):yg X [c] t:=λpins s σ H Q I hw=>wpAny_tests_one (h pins s σ H Q I hw)
section
variable {prog:Program} {w:World} {A:Around} {R:Result->Shared->Prop} {s:Shared}
theorem qB {elt target iter:Expr} {ifs:List Expr} {scope:Scope} {pos:Pos} {it acc:Value} {env:Env} (J:Nat->Shared->Prop)
  (turn:∀ n s,J n s->wpAny (model prog w) A (pyNext it) (λr s₁=>match r with
   | none=>R (.ok .next) s₁
   | some v=>wpAny (model prog w) A (letOwnedTupleGo target it v) (λ_ s₂=>wpAny (model prog w) A (assign target env v) (λ_ s₃ =>
     wpAny (model prog w) A (forIn ifs true λc r=>if r=true then do let ok ← isTrue c env (eval c env);pure (ForInStep.yield ok) else pure (ForInStep.yield r)) (λok s₄ =>
      if ok=true then wpAny (model prog w) A (eval elt env) (λx s₅=>wpAny (model prog w) A (call (.builtin "list.append") [acc,x]) (λ_ s₆=>∃ m,m < n/\J m s₆) (λ_ _=>False) s₅) (λ_ _=>False) s₄
      else ∃ m,m < n/\J m s₄) (λ_ _=>False) s₃) (λ_ _=>False) s₂) (λ_ _=>False) s₁) (λ_ _=>False) s)
  (n:Nat) (h:J n s):codeAny (model prog w) A (.compLoop (.ListComp elt [⟨target,iter,ifs,0⟩] scope pos) 0 it acc env) R s:=by
 refine codeAny_loop rfl J (λn s hJ=>?_) n h
 show wpAny (model prog w) A ((compTurn (.ListComp elt [⟨target,iter,ifs,0⟩] scope pos) 0 it acc env).onRaise λx=>do noteFrame x env;theTreesLotGoes x) _ _ s
 refine wpAny_noted (wpAny_noRaise ?_)
 rw [compTurn_list]
 refine wpAny_bind (wpAny_standAt (wpAny_bind (thn (turn n s hJ) λr s₁ h₁=>?_)))
 cases r with
 | none=>exact wpAny_pure h₁
 | some v =>
  refine wpAny_bind (thn h₁ λ_ s₂ h₂=>wpAny_bind (thn h₂ λ_ s₃ h₃=>wpAny_bind (thn h₃ λok s₄ h₄=>?_)))
  cases ok with
  | false=>exact wpAny_pure ⟨rfl,h₄⟩
  | true=>exact wpAny_bind (wpAny_bind (thn h₄ λx s₅ h₅=>wpAny_bind (thn h₅ λ_ s₆ h₆=>wpAny_pure (wpAny_pure ⟨rfl,h₆⟩))))
end
noncomputable def iA (wi:TI) (mk:St->St) (g:TG) (tt:TT) (te:TE):TE:=λσ H Q=>wi σ H λJ H1=>∀ D,H1 D=none->∃ W:Nat->Nat->St->Hp->Prop,(∃ m,W 0 m (mk σ) (upd H1 D (.lst [])))/\∀ i m σ' H',W i m σ' H' ->
 (J.stop i H'/\Q (.ref D) H') \/
 (J.go i H'/\∃ Nx:St->Hp->Prop,(∀ σ'' H'',Nx σ'' H''->∃ m',m' < m/\W (i+1) m' σ'' H'')/\∀ x H'',J.yld i H' x H''->g x σ' H'' λσ2 H2=>tt σ2 H2 λb H3 =>
  if b=true then te σ2 H3 λv H4=>∃ ys,H4 D=some (.lst ys)/\ys.length < sizeLine/\Nx σ2 (upd H4 D (.lst (ys++[v]))) else Nx σ2 H3)
section
variable {X:Cx} {elt iter tg:Expr} {ifs:List Expr} {sc:Scope} {pos:Pos} {wi:TI} {own:List Str} {fr:List Nat} {N':List Str} {g:TG} {tt:TT} {te:TE}
theorem sD {pins:List (Addr × Obj)} {σ:St} {H:Hp} {s:Shared} {cl:List (Str × Addr)} {fp:List Addr} {it:Addr} {J:It} {tn:Nat->Heap->Prop} {E:Value->Shared->Prop} {Q:VK} {RR:Value->Addr->Result->Shared->Prop}
  (I:Inv X pins σ H s) (B:Blk X.N X.env.kindOf sc.names own fr N') (hk:sc.kind=.function) (hc:X.calm=true)
  (sub:∀ x c,cl.lookup x=some c->X.env.cells.lookup x=some c) (has:∀ p ∈ sc.names,p.2=.free->cl.lookup p.1=X.env.cells.lookup p.1)
  (T:mx X.prog X.w X.K tg J fp it tn) (st:tn 0 s.heap) (f2:∀ b ∈ fp,oI X pins H b)
  (hg:∀ cl C s H fp,PG (X.blk sc cl C N' s H fp) tg g) (ht:∀ cl C s H fp,yg (X.blk sc cl C N' s H fp) ifs tt) (he:∀ cl C s H fp,PE (X.blk sc cl C N' s H fp) elt te)
  (hw:∀ D,H D=none->∃ W:Nat->Nat->St->Hp->Prop,(∃ m,W 0 m (mkS own fr σ) (upd H D (.lst [])))/\∀ i m σ' H',W i m σ' H' ->
   (J.stop i H'/\Q (.ref D) H') \/
   (J.go i H'/\∃ Nx:St->Hp->Prop,(∀ σ'' H'',Nx σ'' H''->∃ m',m' < m/\W (i+1) m' σ'' H'')/\∀ x H'',J.yld i H' x H''->g x σ' H'' λσ2 H2=>tt σ2 H2 λb H3 =>
    if b=true then te σ2 H3 λv H4=>∃ ys,H4 D=some (.lst ys)/\ys.length < sizeLine/\Nx σ2 (upd H4 D (.lst (ys++[v]))) else Nx σ2 H3))
  (hRR:∀ D C σ' H' s',D=s.heap.objs.size->s.heap.objs.size≤C->Inv (X.blk sc cl C N' s H fp) [] σ' H' s'->Q (.ref D) H'->RR (.ref D) C (.ok .next) s') :
  wpAny (model X.prog X.w) X.A (newList []) (λacc s₃=>wpAny (model X.prog X.w) X.A (newFunctionEnv sc X.env.globals cl [] X.env.qual none .none (some X.env)) (λcenv s₄ =>
   codeAny (model X.prog X.w) X.A (.compStart (.ListComp elt [⟨tg,iter,ifs,0⟩] sc pos) 0 (.ref it) acc { cenv with scope:=relabel sc X.env }) (RR acc cenv.locals) s₄) E s₃) E s:=by
 have fo:∀ b ∈ fp,b < s.heap.objs.size:=λb hb=>by
  obtain ⟨o,e,_⟩:=T.obj _ _ st b hb
  exact Heap.lt_size e
 refine wpAny_newObj_type (wpAny_newFunctionEnv B.cell (by intro y hy;simp at hy) (λh₁ hns₁ hsb₁=>?_) hk)
 dsimp only at hns₁ hsb₁ ⊢
 generalize hH2:s.heap.push { cls:=.type "list",dict:=none,data:=.seq ([]:List Value).toArray }=G at hns₁ hsb₁ ⊢
 have hG:G.objs.size=s.heap.objs.size+1:=by rw [← hH2,Heap.size_push]
 have hlt:s.heap.objs.size < G.objs.size:=by rw [hG];exact Nat.lt_succ_self _
 have old:∀ b o,s.heap.get? b=some o->h₁.get? b=some o:=λb o e =>
  hsb₁.extBut b o (Nat.ne_of_lt (Nat.lt_trans (Heap.lt_size e) hlt)) (Heap.get?_push_of_some _ (hH2 ▸ Heap.get?_push_of_some _ e))
 have hacc:h₁.get? s.heap.objs.size=some { cls:=.type "list",data:=.seq ([]:List Value).toArray } :=
  hsb₁.extBut _ _ (Nat.ne_of_lt hlt) (Heap.get?_push_of_some _ (hH2 ▸ Heap.get?_push_size _ rfl))
 obtain ⟨W,⟨m0,w0⟩,turn⟩:=hw s.heap.objs.size (I.hok.fresh (Nat.le_refl _))
 have st₁:tn 0 h₁:=T.keep _ _ _ st λb _ o e=>old b o e
 have hns':h₁.Ns G.objs.size (λ_=>none):=by
  have e:(λx=>([]:List (Str × Value)).reverse.lookup x)=(λ_:Str=>(none:Option Value)):=by funext x;rfl
  first
   | exact hns₁
   | (rw [e] at hns₁;exact hns₁)
 have loop:∀ s₃:Shared,s₃={ s with heap:=h₁,toks:=s.toks+([]:List (Str × Value)).length } ->
   codeAny (model X.prog X.w) X.A (.compLoop (.ListComp elt [⟨tg,iter,ifs,0⟩] sc pos) 0 (.ref it) (.ref s.heap.objs.size) (compEnvC sc cl G.objs.size X.env)) (RR (.ref s.heap.objs.size) G.objs.size) s₃:=by
  rintro s₃ rfl
  have I0:=w9 (tk:=s.toks+([]:List (Str × Value)).length) I B hk sub has f2 fo rfl hlt hns' old hacc
  have rN:∀ {pins':List (Addr × Obj)} {H':Hp},pins'=[]->(∀ b ∈ fp,H' b=none)->∀ b ∈ fp,oI (X.blk sc cl G.objs.size N' s H fp) pins' H' b:=λep hn b hb=>by
   subst ep
   refine ⟨hn b hb,Nat.ne_of_lt (Nat.lt_trans (fo b hb) hlt),λz=>?_,.inl hb,λx c e=>(f2 b hb).2.2.2.2.1 x c (sub x c e),λp hp=>absurd (show p ∈ ([]:List (Addr × Obj)) from hp) (by simp)⟩
   rcases List.mem_cons.mp (I.stkSub b z) with e | e
   ·exact (f2 b hb).2.1 e
   ·exact (f2 b hb).2.2.1 e
  have fr0:∀ b ∈ fp,upd H s.heap.objs.size (.lst []) b=none:=λb hb=>by
   rw [aJ (Nat.ne_of_lt (fo b hb))];exact (f2 b hb).1
  refine qB (λn s'=>∃ i σ' H',Inv (X.blk sc cl G.objs.size N' s H fp) [] σ' H' s'/\tn i s'.heap/\(∀ b ∈ fp,H' b=none)/\W i n σ' H') ?_ m0 ⟨0,_,_,I0,st₁,fr0,w0⟩
  rintro n s3 ⟨i,σ3,H3,I3,st3,fr3,w3⟩
  rcases turn i n σ3 H3 w3 with ⟨stop,qn⟩ | ⟨go,Nx,hN,step⟩
  ·refine thn (T.done (X.blk sc cl G.objs.size N' s H fp) rfl rfl rfl hc i [] s3 σ3 H3 _ I3 (rN rfl fr3) st3 stop) λr s4 ⟨hr,I4⟩=>?_
   subst hr
   exact hRR _ _ _ _ _ rfl (Nat.le_of_lt hlt) I4 qn
  ·refine thn (T.item (X.blk sc cl G.objs.size N' s H fp) rfl rfl rfl hc i [] s3 σ3 H3 _ I3 (rN rfl fr3) st3 go) λr s4 ⟨u,hr,h4⟩=>?_
   subst hr
   refine thn h4 λ_ s5 ⟨x,H5,I5,r5,y5,st5,fr5⟩=>?_
   have I5':=I5.pinned (rN rfl fr5) (T.obj _ _ st5)
   refine thn (hg cl G.objs.size s H fp _ s5 σ3 H5 x u _ I5' r5 (step x H5 y5)) λ_ s6 ⟨σ6,H6,I6,q6⟩=>?_
   refine thn (ht cl G.objs.size s H fp _ s6 σ6 H6 _ I6 q6) λok s7 ⟨H7,I7,q7⟩=>?_
   have again:∀ {s8:Shared} {H8:Hp},Inv (X.blk sc cl G.objs.size N' s H fp) ([]++nZ fp s5.heap) σ6 H8 s8->Nx σ6 H8 ->
     ∃ m,m < n/\∃ i σ' H',Inv (X.blk sc cl G.objs.size N' s H fp) [] σ' H' s8/\tn i s8.heap/\(∀ b ∈ fp,H' b=none)/\W i m σ' H':=λ{s8 H8} I8 n8=>by
    obtain ⟨m',hm,w8⟩:=hN σ6 H8 n8
    refine ⟨m',hm,i+1,σ6,H8,I8.unpinned,T.keep _ _ _ st5 λb hb o e=>(I8.pin (b,o) (List.mem_append_right _ (List.mem_append_right _ (i6 hb e)))).1,λb hb=>?_,w8⟩
    obtain ⟨o,e,d⟩:=T.obj _ _ st5 b hb
    exact (I8.pin (b,o) (List.mem_append_right _ (List.mem_append_right _ (i6 hb e)))).2.1
   cases ok with
   | false =>
    rw [if_neg Bool.false_ne_true] at q7 ⊢
    exact again I7 q7
   | true =>
    rw [if_pos rfl] at q7 ⊢
    refine thn (he cl G.objs.size s H fp _ s7 σ6 H7 _ I7 q7) λy s8 ⟨v,H8,I8,rv,ys,hD8,hz,nx⟩=>?_
    refine thn (bQ (X:=X.blk sc cl G.objs.size N' s H fp) _ s8 σ6 H8 (.ref s.heap.objs.size) [v] (.ref s.heap.objs.size) [y] (λ_ H9=>Nx σ6 H9) I8 rfl (.cons rv .nil) ⟨_,ys,v,rfl,rfl,hD8,hz,nx⟩) λ_ s9 ⟨_,H9,I9,_,n9⟩=>?_
    exact again I9 n9
 exact codeAny_compStart_list (loop _ rfl) (T.self _ 0 _ _ _ st₁ (loop _ rfl))
theorem cO (hi:PI X tg iter wi) (hk:sc.kind=.function) (hb:cj X.N X.env.kindOf sc.names own fr N'=true) (hc:X.calm=true)
  (hg:∀ cl C s H fp,PG (X.blk sc cl C N' s H fp) tg g) (ht:∀ cl C s H fp,yg (X.blk sc cl C N' s H fp) ifs tt) (he:∀ cl C s H fp,PE (X.blk sc cl C N' s H fp) elt te)
  (hs:∀ x,foldedSetIterable iter X.env x=pure x:=by intro _;rfl):PE X (.ListComp elt [⟨tg,iter,ifs,0⟩] sc pos) (iA wi (mkS own fr) g tt te):=by
 intro pins s σ H Q I h
 have B:=yz hb
 obtain ⟨cl,hcl,sub,has⟩:=DT sc X.env λp hp e=>I.ok.has p.1 (B.free p hp e)
 rw [eval_ListComp]
 refine wpAny_comprehension_free (use:=none) rfl hs hcl hk B.loc (thn (hi pins s σ H _ I h) λv s1 h1=>thn h1 λitv s2 h2=>?_)
 obtain ⟨it,fp,tn,J,H2,e,I2,T,st2,f2,body⟩:=h2
 subst e
 refine sD (RR:=λacc C=>compPost (model X.prog X.w) X.A X.xe none (EP X pins σ Q) acc C) I2 B hk hc sub has T st2 f2 hg ht he body ?_
 intro D C σ' H' s' eD hC J' q
 obtain ⟨m,hn,_⟩:=J'.loc
 refine ⟨m,hn,λh' hs'=>⟨.ref D,H',?_,rfl,q⟩⟩
 exact Inv.young I2 (vE I2 f2 J') hC J'.free hs'
theorem fm {i:Nat} {y:Str} {py spos:Pos} (hi:PI X tg iter wi) (hk:sc.kind=.function) (hb:cj X.N X.env.kindOf sc.names own fr N'=true) (hc:X.calm=true)
  (hg:∀ cl C s H fp,PG (X.blk sc cl C N' s H fp) tg g) (ht:∀ cl C s H fp,yg (X.blk sc cl C N' s H fp) ifs tt) (he:∀ cl C s H fp,PE (X.blk sc cl C N' s H fp) elt te)
  (hN:X.N.Nodup) (hy:X.N[i]?=some y) (hx:X.env.scope.names.lookup y=some .local)
  (hsw:swapsWith (.ListComp elt [⟨tg,iter,ifs,0⟩] sc pos) (some (.Name y py)) spos.line X.env=pure true)
  (hs:∀ x,foldedSetIterable iter X.env x=pure x:=by intro _;rfl):PS X (.Assign [.Name y py] (.ListComp elt [⟨tg,iter,ifs,0⟩] sc pos) spos) (o4 (iA wi (mkS own fr) g tt te) (cU i)):=by
 intro pins s σ H D I h
 have B:=yz hb
 obtain ⟨cl,hcl,sub,has⟩:=DT sc X.env λp hp e=>I.ok.has p.1 (B.free p hp e)
 rw [exec_Assign_Name_used _ _ _ _ hsw]
 refine wpAny_bind (wpAny_standAt (wpAny_bind ?_))
 show wpAny _ _ (do let _ ← comprehension (.ListComp elt [⟨tg,iter,ifs,0⟩] sc pos) sc X.env _ (newList []) false (eval iter X.env) (some (assign (.Name y py) X.env))) _ _ s
 refine wpAny_bind (wpAny_mono (wpAny_comprehension_free (use:=some (assign (.Name y py) X.env)) (Q:=λ_ s'=>SP X pins D .next s') rfl hs hcl hk B.loc
  (thn (hi pins s σ H _ I h) λv s1 h1=>thn h1 λitv s2 h2=>?_)) (λ_ s' hq=>wpAny_pure (wpAny_pure hq)) λ_ _ e=>e)
 obtain ⟨it,fp,tn,J,H2,e,I2,T,st2,f2,body⟩:=h2
 subst e
 refine sD (Q:=λv H'=>D.nx (σ.set i (some v)) H') (RR:=λacc C=>compPost (model X.prog X.w) X.A X.xe (some (assign (.Name y py) X.env)) (λ_ s'=>SP X pins D .next s') acc C) I2 B hk hc sub has T st2 f2 hg ht he body ?_
 intro D' C σ' H' s' eD hC J' q
 have I3:=vE I2 f2 J'
 show wpAny _ _ (assign (.Name y py) X.env (.ref D')) _ _ s'
 refine wpAny_assign_Name (qh I3 hN hy (.inl hx) (v:=.ref D') rfl (λs4 I4 ⟨a,hsb,ha⟩=>?_) (.inr hx))
 obtain ⟨m,hn,_⟩:=J'.loc
 have hCa:C≠a:=by
  rcases ha with e | e
  ·rw [e];exact Nat.ne_of_gt (Nat.lt_of_lt_of_le I2.lt hC)
  ·obtain ⟨v,z⟩:=I2.cell _ _ e
   exact Nat.ne_of_gt (Nat.lt_of_lt_of_le z.lt hC)
 refine ⟨m,hn.sameBut hsb hCa,λh' hs'=>⟨_,H',?_,q⟩⟩
 exact Inv.young I2 I4 hC J'.free hs'
end
inductive D where
 | non | bl (b:Bool) | int (i:Int) | str (x:Str) | tup (ds:List D)
 | lst
mutual
noncomputable def Dat (K:PySem.W.Frag) (H:Hp):D->V->Prop
 | .non,v=>v=.non
 | .bl b,v=>v=.bl b
 | .int i,v=>v=.int i
 | .str x,v=>v=.str x
 | .tup ds,v=>∃ a vs,v=.ref a/\SqT K H a vs/\Dats K H ds vs
 | .lst,v=>∃ a vs,v=.ref a/\SqL K H a vs
noncomputable def Dats (K:PySem.W.Frag) (H:Hp):List D->List V->Prop
 | [],vs=>vs=[]
 | d::ds,vs=>∃ v r,vs=v::r/\Dat K H d v/\Dats K H ds r
end
section
variable {K:PySem.W.Frag} {H H':Hp}
variable {a:Addr} {vs:List V} {ds:List D}
theorem Dat.tupI (h:SqT K H a vs) (r:Dats K H ds vs):Dat K H (.tup ds) (.ref a):=by
 unfold Dat;exact ⟨a,vs,rfl,h,r⟩
theorem Dats.nil:Dats K H [] []:=by unfold Dats;rfl
variable {d:D} {v:V}
theorem Dats.cons (h:Dat K H d v) (r:Dats K H ds vs):Dats K H (d::ds) (v::vs):=by
 unfold Dats;exact ⟨v,vs,rfl,h,r⟩
theorem Dat.intI (i:Int):Dat K H (.int i) (.int i):=by unfold Dat;rfl
theorem Dat.strI (x:Str):Dat K H (.str x) (.str x):=by unfold Dat;rfl
theorem Dat.blI (b:Bool):Dat K H (.bl b) (.bl b):=by unfold Dat;rfl
theorem Dat.nonI:Dat K H .non .non:=by unfold Dat;rfl
theorem Dat.lstI (h:SqL K H a vs):Dat K H .lst (.ref a):=by unfold Dat;exact ⟨a,vs,rfl,h⟩
theorem Dat.tupE (h:Dat K H (.tup ds) v):∃ a vs,v=.ref a/\SqT K H a vs/\Dats K H ds vs:=by
 unfold Dat at h;exact h
theorem Dat.intE {i:Int} (h:Dat K H (.int i) v):v=.int i:=by unfold Dat at h;exact h
theorem Dat.strE {x:Str} (h:Dat K H (.str x) v):v=.str x:=by unfold Dat at h;exact h
theorem Dat.blE {b:Bool} (h:Dat K H (.bl b) v):v=.bl b:=by unfold Dat at h;exact h
theorem Dat.nonE (h:Dat K H .non v):v=.non:=by unfold Dat at h;exact h
theorem Dat.lstE (h:Dat K H .lst v):∃ a vs,v=.ref a/\SqL K H a vs:=by unfold Dat at h;exact h
theorem Dats.nilE (h:Dats K H [] vs):vs=[]:=by unfold Dats at h;exact h
theorem Dats.consE (h:Dats K H (d::ds) vs):∃ v r,vs=v::r/\Dat K H d v/\Dats K H ds r:=by
 unfold Dats at h;exact h
structure cW (K:PySem.W.Frag) (H H':Hp):Prop where
 tup:∀ a xs,SqT K H a xs->SqT K H' a xs
 lst:∀ a xs,SqL K H a xs->∃ ys,SqL K H' a ys
mutual
theorem Dat.mono (g:cW K H H'):∀ (d:D) {v:V},Dat K H d v->Dat K H' d v
 | .non,v,h=>by unfold Dat at h ⊢;exact h
 | .bl b,v,h=>by unfold Dat at h ⊢;exact h
 | .int i,v,h=>by unfold Dat at h ⊢;exact h
 | .str x,v,h=>by unfold Dat at h ⊢;exact h
 | .tup ds,v,h=>by
  obtain ⟨a,vs,e,q,r⟩:=h.tupE
  subst e
  exact Dat.tupI (g.tup _ _ q) (Dats.mono g ds r)
 | .lst,v,h=>by
  obtain ⟨a,vs,e,q⟩:=h.lstE
  subst e
  obtain ⟨ys,q'⟩:=g.lst _ _ q
  exact Dat.lstI q'
theorem Dats.mono (g:cW K H H'):∀ (ds:List D) {vs:List V},Dats K H ds vs->Dats K H' ds vs
 | [],vs,h=>by unfold Dats at h ⊢;exact h
 | d::ds,vs,h=>by
  obtain ⟨v,r,e,h1,h2⟩:=h.consE
  subst e
  exact Dats.cons (Dat.mono g d h1) (Dats.mono g ds h2)
end
theorem Dats.length:∀ {ds:List D} {vs:List V},Dats K H ds vs->ds.length=vs.length
 | [],vs,h=>by rw [h.nilE];rfl
 | d::ds,vs,h=>by
  obtain ⟨v,r,e,h1,h2⟩:=h.consE
  subst e
  rw [List.length_cons,List.length_cons,Dats.length h2]
theorem Dats.get:∀ {ds:List D} {vs:List V} {i:Nat} {d:D},Dats K H ds vs->ds[i]?=some d->∃ v,vs[i]?=some v/\Dat K H d v
 | [],_,i,d,_,e=>by simp at e
 | d0::ds,vs,0,d,h,e=>by
  obtain ⟨v,r,e1,h1,h2⟩:=h.consE
  subst e1
  simp at e
  subst e
  exact ⟨v,rfl,h1⟩
 | d0::ds,vs,i+1,d,h,e=>by
  obtain ⟨v,r,e1,h1,h2⟩:=h.consE
  subst e1
  obtain ⟨u,q1,q2⟩:=Dats.get (i:=i) (d:=d) h2 (by simpa using e)
  exact ⟨u,by simpa using q1,q2⟩
theorem Dats.getV:∀ {ds:List D} {vs:List V} {i:Nat} {v:V},Dats K H ds vs->vs[i]?=some v->∃ d,ds[i]?=some d/\Dat K H d v
 | [],vs,i,v,h,e=>by rw [h.nilE] at e;simp at e
 | d0::ds,vs,0,v,h,e=>by
  obtain ⟨u,r,e1,h1,h2⟩:=h.consE
  subst e1
  simp at e
  subst e
  exact ⟨d0,rfl,h1⟩
 | d0::ds,vs,i+1,v,h,e=>by
  obtain ⟨u,r,e1,h1,h2⟩:=h.consE
  subst e1
  obtain ⟨d,q1,q2⟩:=Dats.getV (i:=i) (v:=v) h2 (by simpa using e)
  exact ⟨d,by simpa using q1,q2⟩
theorem Dats.append:∀ {ds es:List D} {vs us:List V},Dats K H ds vs->Dats K H es us->Dats K H (ds++es) (vs++us)
 | [],es,vs,us,h,h'=>by rw [h.nilE];exact h'
 | d::ds,es,vs,us,h,h'=>by
  obtain ⟨v,r,e,h1,h2⟩:=h.consE
  subst e
  exact Dats.cons h1 (Dats.append h2 h')
end
mutual
noncomputable def eqD:D->D->Bool
 | .non,.non=>true
 | .bl a,.bl b=>a == b
 | .int a,.int b=>a == b
 | .bl a,.int b=>(if a then 1 else 0) == b
 | .int a,.bl b=>a == (if b then 1 else 0)
 | .str a,.str b=>a == b
 | .tup a,.tup b=>eqDs a b
 | _,_=>false
noncomputable def eqDs:List D->List D->Bool
 | [],[]=>true
 | a::r,b::q=>eqD a b && eqDs r q
 | _,_=>false
end
mutual
noncomputable def eU:D->Nat
 | .tup ds=>deepDs ds+1
 | _=>0
noncomputable def deepDs:List D->Nat
 | []=>0
 | d::ds=>max (eU d) (deepDs ds)
end
mutual
noncomputable def noL:D->Bool
 | .tup ds=>noLs ds
 | .lst=>false
 | _=>true
noncomputable def noLs:List D->Bool
 | []=>true
 | d::ds=>noL d && noLs ds
end
noncomputable def eAt (a b:List D) (j:Nat):Bool:=match a[j]?,b[j]? with
 | some x,some y=>eqD x y
 | _,_=>false
theorem m6 (n:Nat) (e:Nat->Bool):(List.range (n+1)).all e=(e 0 && (List.range n).all λj=>e (j+1)):=by
 rw [List.range_succ_eq_map,List.all_cons,List.all_map]
 rfl
theorem iY:∀ a b:List D,((List.range (min a.length b.length)).all (eAt a b) && a.length == b.length)=eqDs a b
 | [],[]=>by unfold eqDs;rfl
 | [],y::b=>by unfold eqDs;simp
 | x::a,[]=>by unfold eqDs;simp
 | x::a,y::b=>by
  have ih:=iY a b
  unfold eqDs
  rw [← ih,List.length_cons,List.length_cons,Nat.succ_min_succ,m6]
  have e0:eAt (x::a) (y::b) 0=eqD x y:=rfl
  have e1:(λj=>eAt (x::a) (y::b) (j+1))=eAt a b:=by
   funext j
   simp [eAt]
  rw [e0,e1,Bool.and_assoc]
  congr 2
  simp
theorem sH {a b:List D} (h:a.length=b.length):(List.range a.length).all (eAt a b)=eqDs a b:=by
 have q:=iY a b
 rw [← h,Nat.min_self] at q
 rw [← q]
 simp
mutual
theorem eV:∀ d:D,noL d=true->eqD d d=true
 | .non,_=>by unfold eqD;rfl
 | .bl b,_=>by unfold eqD;simp
 | .int i,_=>by unfold eqD;simp
 | .str x,_=>by unfold eqD;simp
 | .tup ds,h=>by unfold eqD;unfold noL at h;exact eqDs_refl ds h
 | .lst,h=>by unfold noL at h;cases h
theorem eqDs_refl:∀ ds:List D,noLs ds=true->eqDs ds ds=true
 | [],_=>by unfold eqDs;rfl
 | d::ds,h=>by
  unfold noLs at h
  rw [Bool.and_eq_true] at h
  unfold eqDs
  rw [eV d h.1,eqDs_refl ds h.2]
  rfl
end
section
variable {X:Cx} {pins:List (Addr × Obj)} {σ:St} {H:Hp} {s:Shared}
mutual
theorem mK (I:Inv X pins σ H s):∀ (d e:D) {v:V},noL d=true->Dat X.K H d v->Dat X.K H e v->noL e=true->d=e
 | .non,e,v,hn,h,h',hn'=>by
  have z:=h.nonE;subst z
  cases e with
  | non=>rfl
  | bl b=>exact nomatch h'.blE
  | int i=>exact nomatch h'.intE
  | str x=>exact nomatch h'.strE
  | tup ds=>obtain ⟨_,_,q,_⟩:=h'.tupE;exact nomatch q
  | lst=>obtain ⟨_,_,q,_⟩:=h'.lstE;exact nomatch q
 | .bl b,e,v,hn,h,h',hn'=>by
  have z:=h.blE;subst z
  cases e with
  | non=>exact nomatch h'.nonE
  | bl c=>have q:=h'.blE;injection q with q;rw [q]
  | int i=>exact nomatch h'.intE
  | str x=>exact nomatch h'.strE
  | tup ds=>obtain ⟨_,_,q,_⟩:=h'.tupE;exact nomatch q
  | lst=>obtain ⟨_,_,q,_⟩:=h'.lstE;exact nomatch q
 | .int i,e,v,hn,h,h',hn'=>by
  have z:=h.intE;subst z
  cases e with
  | non=>exact nomatch h'.nonE
  | bl c=>exact nomatch h'.blE
  | int j=>have q:=h'.intE;injection q with q;rw [q]
  | str x=>exact nomatch h'.strE
  | tup ds=>obtain ⟨_,_,q,_⟩:=h'.tupE;exact nomatch q
  | lst=>obtain ⟨_,_,q,_⟩:=h'.lstE;exact nomatch q
 | .str x,e,v,hn,h,h',hn'=>by
  have z:=h.strE;subst z
  cases e with
  | non=>exact nomatch h'.nonE
  | bl c=>exact nomatch h'.blE
  | int j=>exact nomatch h'.intE
  | str y=>have q:=h'.strE;injection q with q;rw [q]
  | tup ds=>obtain ⟨_,_,q,_⟩:=h'.tupE;exact nomatch q
  | lst=>obtain ⟨_,_,q,_⟩:=h'.lstE;exact nomatch q
 | .tup ds,e,v,hn,h,h',hn'=>by
  obtain ⟨a,vs,z,q,r⟩:=h.tupE
  subst z
  cases e with
  | non=>exact nomatch h'.nonE
  | bl c=>exact nomatch h'.blE
  | int j=>exact nomatch h'.intE
  | str y=>exact nomatch h'.strE
  | tup es =>
   obtain ⟨a',vs',z,q',r'⟩:=h'.tupE
   cases z
   have ev:=I.tuple_inj q q'
   subst ev
   unfold noL at hn hn'
   rw [dats_inj I ds es hn r r' hn']
  | lst=>unfold noL at hn';cases hn'
 | .lst,e,v,hn,h,h',hn'=>by unfold noL at hn;cases hn
theorem dats_inj (I:Inv X pins σ H s):∀ (ds es:List D) {vs:List V},noLs ds=true->Dats X.K H ds vs->Dats X.K H es vs->noLs es=true->ds=es
 | [],es,vs,_,h,h',_=>by
  have z:=h.nilE;subst z
  cases es with
  | nil=>rfl
  | cons e es=>obtain ⟨_,_,q,_⟩:=h'.consE;exact nomatch q
 | d::ds,es,vs,hn,h,h',hn'=>by
  obtain ⟨v,r,z,h1,h2⟩:=h.consE
  subst z
  cases es with
  | nil=>exact nomatch h'.nilE
  | cons e es =>
   obtain ⟨v',r',z,h1',h2'⟩:=h'.consE
   injection z with z1 z2
   subst z1 z2
   unfold noLs at hn hn'
   rw [Bool.and_eq_true] at hn hn'
   rw [mK I d e hn.1 h1 h1' hn'.1,dats_inj I ds es hn.2 h2 h2' hn'.2]
end
end
theorem lC (A:Around):A.in1.units=A.units+1:=rfl
section
variable {X:Cx} {pins:List (Addr × Obj)} {σ:St} {H:Hp} {s:Shared}
theorem iX:∀ {ds:List D} {j:Nat} {d:D},ds[j]?=some d->eU d≤deepDs ds
 | [],_,_,e=>by simp at e
 | d0::ds,0,d,e=>by simp at e;subst e;unfold deepDs;exact Nat.le_max_left _ _
 | d0::ds,j+1,d,e=>by
  have q:=iX (ds:=ds) (j:=j) (d:=d) (by simpa using e)
  unfold deepDs
  exact Nat.le_trans q (Nat.le_max_right _ _)
theorem fC:∀ {ds:List D} {j:Nat} {d:D},noLs ds=true->ds[j]?=some d->noL d=true
 | [],_,_,_,e=>by simp at e
 | d0::ds,0,d,h,e=>by simp at e;subst e;unfold noLs at h;rw [Bool.and_eq_true] at h;exact h.1
 | d0::ds,j+1,d,h,e=>by
  unfold noLs at h
  rw [Bool.and_eq_true] at h
  exact fC (ds:=ds) (j:=j) (d:=d) h.2 (by simpa using e)
variable {A:Around} {ds es:List D} {xs ys:List V}
theorem nq {us ws:List Value} (n:Nat)
  (all:∀ (d e:D) (x y:V) (u w:Value),eU d≤n->noL d=true->noL e=true->Dat X.K H d x->Dat X.K H e y->RelV x u->RelV y w->SeqAt.EqAt A s u w (eqD d e))
  (hn:deepDs ds≤n) (h1:noLs ds=true) (h2:noLs es=true) (r1:Dats X.K H ds xs) (r2:Dats X.K H es ys) (v1:Vals xs us) (v2:Vals ys ws) :
  ∀ j (k1:j < us.toArray.size) (k2:j < ws.toArray.size),SeqAt.EqAt A s us.toArray[j] ws.toArray[j] (eAt ds es j):=by
 intro j k1 k2
 have l1:j < xs.length:=by rw [v1.length];simpa using k1
 have l2:j < ys.length:=by rw [v2.length];simpa using k2
 obtain ⟨u,eu,ru⟩:=v1.get (i:=j) (x:=xs[j]) (List.getElem?_eq_getElem l1)
 obtain ⟨w,ew,rw'⟩:=v2.get (i:=j) (x:=ys[j]) (List.getElem?_eq_getElem l2)
 obtain ⟨d,ed,qd⟩:=r1.getV (i:=j) (v:=xs[j]) (List.getElem?_eq_getElem l1)
 obtain ⟨e,ee,qe⟩:=r2.getV (i:=j) (v:=ys[j]) (List.getElem?_eq_getElem l2)
 have z1:us.toArray[j]=u:=by
  have:us[j]?=some u:=eu
  have k1':j < us.length:=by simpa using k1
  rw [List.getElem?_eq_getElem k1'] at this
  simpa using Option.some.inj this
 have z2:ws.toArray[j]=w:=by
  have:ws[j]?=some w:=ew
  have k2':j < ws.length:=by simpa using k2
  rw [List.getElem?_eq_getElem k2'] at this
  simpa using Option.some.inj this
 have z3:eAt ds es j=eqD d e:=by unfold eAt;rw [ed,ee]
 rw [z1,z2,z3]
 exact all d e _ _ u w (Nat.le_trans (iX ed) hn) (fC h1 ed) (fC h2 ee) qd qe ru rw'
theorem t9 {a b:Addr} (I:Inv X pins σ H s) (hu:A.units < cLine) (n:Nat)
  (all:∀ (d e:D) (x y:V) (u w:Value),eU d≤n->noL d=true->noL e=true->Dat X.K H d x->Dat X.K H e y->RelV x u->RelV y w->SeqAt.EqAt A.in1 s u w (eqD d e))
  (hn:deepDs ds≤n) (h1:noLs ds=true) (h2:noLs es=true) (r1:Dats X.K H ds xs) (r2:Dats X.K H es ys) (q1:SqT X.K H a xs) (q2:SqT X.K H b ys) :
  SeqAt.RcAt A s (.ref a) (.ref b) (eqDs ds es)/\SeqAt.RcNeAt A s (.ref a) (.ref b) (!eqDs ds es):=by
 obtain ⟨us,v1,t1,_⟩:=I.tuple q1
 obtain ⟨ws,v2,t2,_⟩:=I.tuple q2
 have hi:=nq (X:=X) (H:=H) (s:=s) n all hn h1 h2 r1 r2 v1 v2
 have p:=SeqAt.RcAt.tuples (show s.heap.IsTuple a us.toArray from t1) (show s.heap.IsTuple b ws.toArray from t2) hu hi
 have p':=SeqAt.RcNeAt.tuples (show s.heap.IsTuple a us.toArray from t1) (show s.heap.IsTuple b ws.toArray from t2) hu hi
 have e1:us.toArray.size=ds.length:=by rw [List.size_toArray,← v1.length,r1.length]
 have e2:ws.toArray.size=es.length:=by rw [List.size_toArray,← v2.length,r2.length]
 rw [e1,e2,iY] at p p'
 exact ⟨p,p'⟩
theorem qE (I:Inv X pins σ H s):∀ (n:Nat) (A:Around) (d e:D) (x y:V) (u w:Value),A.units+n+1 < cLine->eU d≤n->noL d=true->noL e=true->Dat X.K H d x->Dat X.K H e y->RelV x u->RelV y w->SeqAt.EqAt A s u w (eqD d e):=by
 intro n
 induction n with
 | zero =>
  intro A d e x y u w hu hn h1 h2 q1 q2 r1 r2
  exact base I A d e x y u w (by omega) h1 h2 q1 q2 r1 r2 λds es a b xs ys ed ee=>by
   subst ed
   unfold eU at hn
   omega
 | succ n ih =>
  intro A d e x y u w hu hn h1 h2 q1 q2 r1 r2
  refine base I A d e x y u w (by omega) h1 h2 q1 q2 r1 r2 λds es a b xs ys ed ee t1 t2 s1 s2 hne=>?_
  subst ed ee
  unfold eU at hn
  unfold noL at h1 h2
  have p:=(t9 (A:=A) (ds:=ds) (es:=es) I (by omega) n (λd e x y u w k1 k2 k3 k4 k5 k6 k7=>ih A.in1 d e x y u w (by rw [lC];omega) k1 k2 k3 k4 k5 k6 k7) (by omega) h1 h2 t1 t2 s1 s2).1
  unfold eqD
  exact .of_refs hne p
where
 base (I:Inv X pins σ H s) (A:Around) (d e:D) (x y:V) (u w:Value) (hu:A.units < cLine) (h1:noL d=true) (h2:noL e=true) (q1:Dat X.K H d x) (q2:Dat X.K H e y) (r1:RelV x u) (r2:RelV y w)
   (tt:∀ (ds es:List D) (a b:Addr) (xs ys:List V),d=.tup ds->e=.tup es->Dats X.K H ds xs->Dats X.K H es ys->SqT X.K H a xs->SqT X.K H b ys->a≠b->SeqAt.EqAt A s (.ref a) (.ref b) (eqD (.tup ds) (.tup es))) :
   SeqAt.EqAt A s u w (eqD d e):=by
  cases d with
  | lst=>unfold noL at h1;cases h1
  | non =>
   have z:=q1.nonE;subst z;cases r1
   cases e with
   | lst=>unfold noL at h2;cases h2
   | non=>have z:=q2.nonE;subst z;cases r2;unfold eqD;exact SeqAt.EqAt.same _
   | bl b=>have z:=q2.blE;subst z;cases r2;unfold eqD;exact SeqAt.EqAt.none_bool b
   | int i=>have z:=q2.intE;subst z;obtain ⟨t,rfl⟩:=r2;unfold eqD;exact SeqAt.EqAt.none_int i t
   | str i=>have z:=q2.strE;subst z;obtain ⟨t,rfl⟩:=r2;unfold eqD;exact SeqAt.EqAt.none_str i t
   | tup es=>obtain ⟨b,ys,z,s2,t2⟩:=q2.tupE;subst z;cases r2;obtain ⟨ws,v2,p2,_⟩:=I.tuple s2;unfold eqD;exact SeqAt.EqAt.none_tuple (show s.heap.IsTuple b ws.toArray from p2) hu
  | bl c =>
   have z:=q1.blE;subst z;cases r1
   cases e with
   | lst=>unfold noL at h2;cases h2
   | non=>have z:=q2.nonE;subst z;cases r2;unfold eqD;exact SeqAt.EqAt.bool_none c
   | bl b=>have z:=q2.blE;subst z;cases r2;unfold eqD;exact SeqAt.EqAt.bool_bool c b
   | int i=>have z:=q2.intE;subst z;obtain ⟨t,rfl⟩:=r2;unfold eqD;exact SeqAt.EqAt.bool_int c i t
   | str i=>have z:=q2.strE;subst z;obtain ⟨t,rfl⟩:=r2;unfold eqD;exact SeqAt.EqAt.bool_str c i t
   | tup es=>obtain ⟨b,ys,z,s2,t2⟩:=q2.tupE;subst z;cases r2;obtain ⟨ws,v2,p2,_⟩:=I.tuple s2;unfold eqD;exact SeqAt.EqAt.bool_tuple c (show s.heap.IsTuple b ws.toArray from p2) hu
  | int c =>
   have z:=q1.intE;subst z;obtain ⟨tc,rfl⟩:=r1
   cases e with
   | lst=>unfold noL at h2;cases h2
   | non=>have z:=q2.nonE;subst z;cases r2;unfold eqD;exact SeqAt.EqAt.int_none c tc
   | bl b=>have z:=q2.blE;subst z;cases r2;unfold eqD;exact SeqAt.EqAt.int_bool c tc b
   | int i=>have z:=q2.intE;subst z;obtain ⟨t,rfl⟩:=r2;unfold eqD;exact SeqAt.EqAt.int_int c tc i t
   | str i=>have z:=q2.strE;subst z;obtain ⟨t,rfl⟩:=r2;unfold eqD;exact SeqAt.EqAt.int_str c tc i t
   | tup es=>obtain ⟨b,ys,z,s2,t2⟩:=q2.tupE;subst z;cases r2;obtain ⟨ws,v2,p2,_⟩:=I.tuple s2;unfold eqD;exact SeqAt.EqAt.int_tuple c tc (show s.heap.IsTuple b ws.toArray from p2) hu
  | str c =>
   have z:=q1.strE;subst z;obtain ⟨tc,rfl⟩:=r1
   cases e with
   | lst=>unfold noL at h2;cases h2
   | non=>have z:=q2.nonE;subst z;cases r2;unfold eqD;exact SeqAt.EqAt.str_none c tc
   | bl b=>have z:=q2.blE;subst z;cases r2;unfold eqD;exact SeqAt.EqAt.str_bool c tc b
   | int i=>have z:=q2.intE;subst z;obtain ⟨t,rfl⟩:=r2;unfold eqD;exact SeqAt.EqAt.str_int c tc i t
   | str i=>have z:=q2.strE;subst z;obtain ⟨t,rfl⟩:=r2;unfold eqD;exact SeqAt.EqAt.str_str c tc i t
   | tup es=>obtain ⟨b,ys,z,s2,t2⟩:=q2.tupE;subst z;cases r2;obtain ⟨ws,v2,p2,_⟩:=I.tuple s2;unfold eqD;exact SeqAt.EqAt.str_tuple c tc (show s.heap.IsTuple b ws.toArray from p2) hu
  | tup ds =>
   have q1':=q1
   obtain ⟨a,xs,z,s1,t1⟩:=q1.tupE;subst z;cases r1;obtain ⟨us,v1,p1,_⟩:=I.tuple s1
   have p1':s.heap.IsTuple a us.toArray:=p1
   cases e with
   | lst=>unfold noL at h2;cases h2
   | non=>have z:=q2.nonE;subst z;cases r2;unfold eqD;exact SeqAt.EqAt.tuple_none p1' hu
   | bl b=>have z:=q2.blE;subst z;cases r2;unfold eqD;exact SeqAt.EqAt.tuple_bool b p1' hu
   | int i=>have z:=q2.intE;subst z;obtain ⟨t,rfl⟩:=r2;unfold eqD;exact SeqAt.EqAt.tuple_int i t p1' hu
   | str i=>have z:=q2.strE;subst z;obtain ⟨t,rfl⟩:=r2;unfold eqD;exact SeqAt.EqAt.tuple_str i t p1' hu
   | tup es =>
    have q2':=q2
    obtain ⟨b,ys,z,s2,t2⟩:=q2.tupE;subst z;cases r2
    by_cases hab:a=b
    ·subst hab
     have ee:=mK I (.tup ds) (.tup es) h1 q1' q2' h2
     rw [← ee,eV _ h1]
     exact SeqAt.EqAt.same _
    ·exact tt ds es a b xs ys rfl rfl t1 t2 s1 s2 hab
theorem Ep (I:Inv X pins σ H s) (n:Nat) (A:Around) (d e:D) (x y:V) (u w:Value) (hu:A.units+n+2 < cLine) (hn:eU d≤n+1) (h1:noL d=true) (h2:noL e=true) (q1:Dat X.K H d x) (q2:Dat X.K H e y) (r1:RelV x u) (r2:RelV y w) :
  SeqAt.RcAt A s u w (eqD d e)/\SeqAt.RcNeAt A s u w (!eqD d e):=by
 have hu':A.units < cLine:=by omega
 cases d with
 | lst=>unfold noL at h1;cases h1
 | non =>
  have z:=q1.nonE;subst z;cases r1
  cases e with
  | lst=>unfold noL at h2;cases h2
  | non=>have z:=q2.nonE;subst z;cases r2;unfold eqD;exact ⟨SeqAt.RcAt.none_none,SeqAt.RcNeAt.none_none⟩
  | bl b=>have z:=q2.blE;subst z;cases r2;unfold eqD;exact ⟨SeqAt.RcAt.none_bool b,SeqAt.RcNeAt.none_bool b⟩
  | int i=>have z:=q2.intE;subst z;obtain ⟨t,rfl⟩:=r2;unfold eqD;exact ⟨SeqAt.RcAt.none_int i t,SeqAt.RcNeAt.none_int i t⟩
  | str i=>have z:=q2.strE;subst z;obtain ⟨t,rfl⟩:=r2;unfold eqD;exact ⟨SeqAt.RcAt.none_str i t,SeqAt.RcNeAt.none_str i t⟩
  | tup es=>obtain ⟨b,ys,z,s2,t2⟩:=q2.tupE;subst z;cases r2;obtain ⟨ws,v2,p2,_⟩:=I.tuple s2;unfold eqD;exact ⟨SeqAt.RcAt.none_tuple (show s.heap.IsTuple b ws.toArray from p2) hu',SeqAt.RcNeAt.none_tuple (show s.heap.IsTuple b ws.toArray from p2) hu'⟩
 | bl c =>
  have z:=q1.blE;subst z;cases r1
  cases e with
  | lst=>unfold noL at h2;cases h2
  | non=>have z:=q2.nonE;subst z;cases r2;unfold eqD;exact ⟨SeqAt.RcAt.bool_none c,SeqAt.RcNeAt.bool_none c⟩
  | bl b=>have z:=q2.blE;subst z;cases r2;unfold eqD;exact ⟨SeqAt.RcAt.bool_bool c b,SeqAt.RcNeAt.bool_bool c b⟩
  | int i=>have z:=q2.intE;subst z;obtain ⟨t,rfl⟩:=r2;unfold eqD;exact ⟨SeqAt.RcAt.bool_int c i t,SeqAt.RcNeAt.bool_int c i t⟩
  | str i=>have z:=q2.strE;subst z;obtain ⟨t,rfl⟩:=r2;unfold eqD;exact ⟨SeqAt.RcAt.bool_str c i t,SeqAt.RcNeAt.bool_str c i t⟩
  | tup es=>obtain ⟨b,ys,z,s2,t2⟩:=q2.tupE;subst z;cases r2;obtain ⟨ws,v2,p2,_⟩:=I.tuple s2;unfold eqD;exact ⟨SeqAt.RcAt.bool_tuple c (show s.heap.IsTuple b ws.toArray from p2) hu',SeqAt.RcNeAt.bool_tuple c (show s.heap.IsTuple b ws.toArray from p2) hu'⟩
 | int c =>
  have z:=q1.intE;subst z;obtain ⟨tc,rfl⟩:=r1
  cases e with
  | lst=>unfold noL at h2;cases h2
  | non=>have z:=q2.nonE;subst z;cases r2;unfold eqD;exact ⟨SeqAt.RcAt.int_none c tc,SeqAt.RcNeAt.int_none c tc⟩
  | bl b=>have z:=q2.blE;subst z;cases r2;unfold eqD;exact ⟨SeqAt.RcAt.int_bool c tc b,SeqAt.RcNeAt.int_bool c tc b⟩
  | int i=>have z:=q2.intE;subst z;obtain ⟨t,rfl⟩:=r2;unfold eqD;exact ⟨SeqAt.RcAt.int_int c tc i t,SeqAt.RcNeAt.int_int c tc i t⟩
  | str i=>have z:=q2.strE;subst z;obtain ⟨t,rfl⟩:=r2;unfold eqD;exact ⟨SeqAt.RcAt.int_str c tc i t,SeqAt.RcNeAt.int_str c tc i t⟩
  | tup es=>obtain ⟨b,ys,z,s2,t2⟩:=q2.tupE;subst z;cases r2;obtain ⟨ws,v2,p2,_⟩:=I.tuple s2;unfold eqD;exact ⟨SeqAt.RcAt.int_tuple c tc (show s.heap.IsTuple b ws.toArray from p2) hu',SeqAt.RcNeAt.int_tuple c tc (show s.heap.IsTuple b ws.toArray from p2) hu'⟩
 | str c =>
  have z:=q1.strE;subst z;obtain ⟨tc,rfl⟩:=r1
  cases e with
  | lst=>unfold noL at h2;cases h2
  | non=>have z:=q2.nonE;subst z;cases r2;unfold eqD;exact ⟨SeqAt.RcAt.str_none c tc,SeqAt.RcNeAt.str_none c tc⟩
  | bl b=>have z:=q2.blE;subst z;cases r2;unfold eqD;exact ⟨SeqAt.RcAt.str_bool c tc b,SeqAt.RcNeAt.str_bool c tc b⟩
  | int i=>have z:=q2.intE;subst z;obtain ⟨t,rfl⟩:=r2;unfold eqD;exact ⟨SeqAt.RcAt.str_int c tc i t,SeqAt.RcNeAt.str_int c tc i t⟩
  | str i=>have z:=q2.strE;subst z;obtain ⟨t,rfl⟩:=r2;unfold eqD;exact ⟨SeqAt.RcAt.str_str c tc i t,SeqAt.RcNeAt.str_str c tc i t⟩
  | tup es=>obtain ⟨b,ys,z,s2,t2⟩:=q2.tupE;subst z;cases r2;obtain ⟨ws,v2,p2,_⟩:=I.tuple s2;unfold eqD;exact ⟨SeqAt.RcAt.str_tuple c tc (show s.heap.IsTuple b ws.toArray from p2) hu',SeqAt.RcNeAt.str_tuple c tc (show s.heap.IsTuple b ws.toArray from p2) hu'⟩
 | tup ds =>
  obtain ⟨a,xs,z,s1,t1⟩:=q1.tupE;subst z;cases r1;obtain ⟨us,v1,p1,_⟩:=I.tuple s1
  have p1':s.heap.IsTuple a us.toArray:=p1
  cases e with
  | lst=>unfold noL at h2;cases h2
  | non=>have z:=q2.nonE;subst z;cases r2;unfold eqD;exact ⟨SeqAt.RcAt.tuple_none p1' hu',SeqAt.RcNeAt.tuple_none p1' hu'⟩
  | bl b=>have z:=q2.blE;subst z;cases r2;unfold eqD;exact ⟨SeqAt.RcAt.tuple_bool b p1' hu',SeqAt.RcNeAt.tuple_bool b p1' hu'⟩
  | int i=>have z:=q2.intE;subst z;obtain ⟨t,rfl⟩:=r2;unfold eqD;exact ⟨SeqAt.RcAt.tuple_int i t p1' hu',SeqAt.RcNeAt.tuple_int i t p1' hu'⟩
  | str i=>have z:=q2.strE;subst z;obtain ⟨t,rfl⟩:=r2;unfold eqD;exact ⟨SeqAt.RcAt.tuple_str i t p1' hu',SeqAt.RcNeAt.tuple_str i t p1' hu'⟩
  | tup es =>
   obtain ⟨b,ys,z,s2,t2⟩:=q2.tupE;subst z;cases r2
   unfold eU at hn
   unfold noL at h1 h2
   unfold eqD
   exact t9 (A:=A) (ds:=ds) (es:=es) I hu' n (λd e x y u w k1 k2 k3 k4 k5 k6 k7=>qE I n A.in1 d e x y u w (by rw [lC];omega) k1 k2 k3 k4 k5 k6 k7) (by omega) h1 h2 t1 t2 s1 s2
theorem E5 (I:Inv X pins σ H s) (n:Nat) (A:Around) (ds es:List D) (a b:Addr) (xs ys:List V) (hu:A.units+n+2 < cLine) (hn:deepDs ds≤n) (h1:noLs ds=true) (h2:noLs es=true) (q1:SqL X.K H a xs) (q2:SqL X.K H b ys) (r1:Dats X.K H ds xs) (r2:Dats X.K H es ys) :
  SeqAt.RcAt A s (.ref a) (.ref b) (eqDs ds es)/\SeqAt.RcNeAt A s (.ref a) (.ref b) (!eqDs ds es):=by
 have hu':A.units < cLine:=by omega
 obtain ⟨us,v1,p1,_⟩:=I.list q1
 obtain ⟨ws,v2,p2,_⟩:=I.list q2
 have e1:us.toArray.size=ds.length:=by rw [List.size_toArray,← v1.length,r1.length]
 have e2:ws.toArray.size=es.length:=by rw [List.size_toArray,← v2.length,r2.length]
 have hi:=nq (X:=X) (H:=H) (s:=s) (A:=A.in1) n (λd e x y u w k1 k2 k3 k4 k5 k6 k7=>qE I n A.in1 d e x y u w (by rw [lC];omega) k1 k2 k3 k4 k5 k6 k7) hn h1 h2 r1 r2 v1 v2
 by_cases hl:ds.length=es.length
 ·have hsz:us.toArray.size=ws.toArray.size:=by rw [e1,e2,hl]
  have p:=SeqAt.RcAt.lists p1.isList p2.isList hsz hu' hi
  have p':=SeqAt.RcNeAt.lists p1.isList p2.isList hsz hu' hi
  rw [e1,sH hl] at p p'
  exact ⟨p,p'⟩
 ·have hsz:(us.toArray.size != ws.toArray.size)=true:=by rw [e1,e2];simpa using hl
  have z:eqDs ds es=false:=by
   rw [← iY]
   have:(ds.length == es.length)=false:=by simpa using hl
   rw [this,Bool.and_false]
  rw [z]
  exact ⟨SeqAt.RcAt.lists_lengths p1.isList p2.isList hsz hu',SeqAt.RcNeAt.lists_lengths p1.isList p2.isList hsz hu'⟩
end
section
variable {X:Cx} {k:Nat}
noncomputable def Bx (K:PySem.W.Frag) (neg:Bool):R2:=λx y H Q=>∃ d e,Dat K H d x/\Dat K H e y/\noL d=true/\noL e=true/\eU d≤20/\Q (.bl (if neg then !eqD d e else eqD d e)) H
theorem Di (hr:Room k X.A):OpR X (compareOp .Eq) (Bx X.K false):=by
 intro pins s σ H x y v u Q I rx ry h
 obtain ⟨d,e,q1,q2,h1,h2,hn,q⟩:=h
 have hu:X.A.units+19+2 < cLine:=by have:=hr.un;omega
 exact (Ep I 19 X.A d e x y v u hu (by omega) h1 h2 q1 q2 rx ry).1 _ _ _ _ ⟨.bl _,H,I,rfl,q⟩
theorem Dj (hr:Room k X.A):OpR X (compareOp .NotEq) (Bx X.K true):=by
 intro pins s σ H x y v u Q I rx ry h
 obtain ⟨d,e,q1,q2,h1,h2,hn,q⟩:=h
 have hu:X.A.units+19+2 < cLine:=by have:=hr.un;omega
 exact (Ep I 19 X.A d e x y v u hu (by omega) h1 h2 q1 q2 rx ry).2 _ _ _ _ ⟨.bl _,H,I,rfl,q⟩
noncomputable def Eh (K:PySem.W.Frag) (neg:Bool):R2:=λx y H Q=>∃ a b xs ys ds es,x=.ref a/\y=.ref b/\SqL K H a xs/\SqL K H b ys/\Dats K H ds xs/\Dats K H es ys/\noLs ds=true/\noLs es=true/\deepDs ds≤20/\Q (.bl (if neg then !eqDs ds es else eqDs ds es)) H
theorem uU (hr:Room k X.A):OpR X (compareOp .Eq) (Eh X.K false):=by
 intro pins s σ H x y v u Q I rx ry h
 obtain ⟨a,b,xs,ys,ds,es,ex,ey,q1,q2,r1,r2,h1,h2,hn,q⟩:=h
 subst ex ey
 cases rx
 cases ry
 have hu:X.A.units+20+2 < cLine:=by have:=hr.un;omega
 exact (E5 I 20 X.A ds es a b xs ys hu hn h1 h2 q1 q2 r1 r2).1 _ _ _ _ ⟨.bl _,H,I,rfl,q⟩
noncomputable def tyD:D->String
 | .non=>"NoneType"
 | .bl _=>"bool"
 | .int _=>"int"
 | .str _=>"str"
 | .tup _=>"tuple"
 | .lst=>"list"
noncomputable def mE (d:D) (T:String):Bool:=tyD d == T || (tyD d == "bool" && T == "int")
theorem eA {T:String} (hk:∀ d:D,PySem.W.kitOne X.K (.type (tyD d)) (.type T)=some (mE d T)) :
  h9 X (.builtin "isinstance") (λxs H Q=>∃ x d,xs=[x,.ty T]/\Dat X.K H d x/\Q (.bl (mE d T)) H):=by
 intro pins s σ H xs us Q I r h
 obtain ⟨x,d,e,q,h⟩:=h
 subst e
 obtain ⟨u,c,e,ru,rc⟩:=EB r
 subst e
 cases (show c=Value.type T from rc)
 have fin:∀ tk,EP X pins σ Q (.bool (mE d T)) { s with toks:=tk }:=λtk=>⟨.bl _,H,I.tok tk,rfl,h⟩
 have kd:=hk d
 cases d with
 | non=>have z:=q.nonE;subst z;cases ru;exact PySem.W.kia_one PySem.W.kitx_none I.kIn True.intro kd (λz=>nomatch z) fin
 | bl b=>have z:=q.blE;subst z;cases ru;exact PySem.W.kia_one PySem.W.kitx_bool I.kIn True.intro kd (λz=>nomatch z) fin
 | int i=>have z:=q.intE;subst z;obtain ⟨t,rfl⟩:=ru;exact PySem.W.kia_one PySem.W.kitx_int I.kIn True.intro kd (λz=>nomatch z) fin
 | str y=>have z:=q.strE;subst z;obtain ⟨t,rfl⟩:=ru;exact PySem.W.kia_one PySem.W.kitx_str I.kIn True.intro kd (λz=>nomatch z) fin
 | tup ds =>
  obtain ⟨a,vs,z,sq,_⟩:=q.tupE
  subst z
  cases ru
  obtain ⟨its,_,⟨o,e1,e2,_⟩,_⟩:=I.tuple sq
  exact PySem.W.kia_one PySem.W.kitx_tuple I.kIn ⟨o,e1,e2⟩ kd (λz=>nomatch z) fin
 | lst =>
  obtain ⟨a,vs,z,sq⟩:=q.lstE
  subst z
  cases ru
  obtain ⟨its,_,⟨o,_,e1,e2,_⟩,_⟩:=I.list sq
  exact PySem.W.kia_one PySem.W.kitx_list I.kIn ⟨o,e1,e2⟩ kd (λz=>nomatch z) fin
end
noncomputable def jW (K:PySem.W.Frag) (a:Addr) (T:List (Str × KTD.Dat)):Prop:=∀ h:Heap,K.In h->KTD.TextTab h a T
section
variable {X:Cx}
theorem kR:OpR X (compareOp .In) (λx y H Q=>∃ k a T,x=.str k/\y=.ref a/\jW X.K a T/\Q (.bl (KTD.inKeys k T)) H):=by
 intro pins s σ H x y v u Q I rx ry h
 obtain ⟨k,a,T,ex,ey,t,q⟩:=h
 subst ex ey
 obtain ⟨tk,rfl⟩:=rx
 cases ry
 exact KTD.in_text (h₀:=s.heap) ⟨t _ I.kIn,λ_ _ e=>e⟩ ⟨.bl _,H,I.tok _,rfl,q⟩
noncomputable def Aa (K:PySem.W.Frag):R2:=λx y H Q=>∃ a k T i,x=.ref a/\y=.str k/\jW K a T/\(T.all λp=>KTD.plain p.2)=true/\KTD.datumAt k T=some (.flat (.int i))/\Q (.int i) H
theorem zw:IxR X (Aa X.K):=by
 intro value slice pins s σ H x y v u Q I rx ry h hs
 obtain ⟨a,k,T,i,ex,ey,t,hp,hd,q⟩:=h
 subst ex ey
 obtain ⟨tk,rfl⟩:=ry
 cases rx
 have hm:KTD.inKeys k T=true:=by rw [← KTD.isSome_datumAt,hd];rfl
 refine KTD.item_textA (h₀:=s.heap) ⟨t _ I.kIn,λ_ _ e=>e⟩ hp hm ?_ hs
 exact each T hd λv hv=>by
  obtain ⟨t',rfl⟩:=PyProof.V.Flat.int_inv hv
  exact ⟨.int i,H,I.tok _,⟨t',rfl⟩,q⟩
where
 each {h:Heap} {k:Str} {P:Value->Prop} {i:Int}:∀ (T:List (Str × KTD.Dat)),KTD.datumAt k T=some (.flat (.int i))->(∀ v,PyProof.V.Flat v (.int i)->P v)->KTD.EachL h k P T
  | [],hd,_=>by simp [KTD.datumAt] at hd
  | (x,d)::T,hd,hP=>by
   have hd':(if decide (k=x)=true then some d else KTD.datumAt k T)=some (.flat (.int i)):=hd
   by_cases hx:k=x
   ·rw [if_pos (decide_eq_true hx)] at hd'
    cases hd'
    refine KTD.eachL_hit hx ?_
    exact opened hP
   ·rw [if_neg (by simp [hx])] at hd'
    exact KTD.eachL_miss hx (each T hd' hP)
 opened {h:Heap} {P:Value->Prop} {i:Int} (hP:∀ v,PyProof.V.Flat v (.int i)->P v):KTD.Opened h P (.flat (.int i)):=by
  first
   | exact KTD.opened_int λt=>hP _ (PyProof.V.Flat.int i t)
   | exact λt=>hP _ (PyProof.V.Flat.int i t)
end
section
variable {K:PySem.W.Frag} {H H' H2:Hp}
variable {a:Addr} {xs:List V}
theorem Same.sqT (e:Same H H') (h:SqT K H a xs):SqT K H' a xs:=by
 rcases h with (h | ⟨o,h⟩) | h
 ·exact .inl (.inl (e _ _ h))
 ·exact .inl (.inr ⟨o,e _ _ h⟩)
 ·exact .inr h
theorem Same.grow (e:Same H H'):cW K H H':=⟨λ_ _ h=>e.sqT h,λ_ xs h=>⟨xs,e.seq h⟩⟩
theorem Same.dat {d:D} {v:V} (e:Same H H') (h:Dat K H d v):Dat K H' d v:=Dat.mono e.grow d h
theorem Same.dats {ds:List D} {vs:List V} (e:Same H H') (h:Dats K H ds vs):Dats K H' ds vs:=Dats.mono e.grow ds h
theorem aG {p:Addr} (h:H p=none) (o:HO):Same H (upd H p o):=λb u q=>by rw [aJ (az q h)];exact q
noncomputable def But (t:Addr) (H H':Hp):Prop:=∀ b o,b≠t->H b=some o->H' b=some o
variable {t:Addr}
theorem Same.but (e:Same H H'):But t H H':=λb o _ h=>e b o h
theorem But.trans (a:But t H H') (b:But t H' H2):But t H H2:=λc o n h=>b c o n (a c o n h)
theorem But.upd {o:HO} (a:But t H H'):But t H (upd H' t o):=λb u n h=>by rw [aJ n];exact a b u n h
variable {zs:List V}
theorem But.sqT (e:But t H H') (ht:H t=some (.lst zs)) (h:SqT K H a xs):SqT K H' a xs:=by
 rcases h with (h | ⟨o,h⟩) | h
 ·exact .inl (.inl (e _ _ (λz=>by rw [z,ht] at h;cases h) h))
 ·exact .inl (.inr ⟨o,e _ _ (λz=>by rw [z,ht] at h;cases h) h⟩)
 ·exact .inr h
theorem But.sqL (e:But t H H') (n:a≠t) (h:SqL K H a xs):SqL K H' a xs:=by
 rcases h with (h | ⟨o,h⟩) | h
 ·exact .inl (.inl (e _ _ n h))
 ·exact .inl (.inr ⟨o,e _ _ n h⟩)
 ·exact .inr h
theorem But.grow {zs':List V} (e:But t H H') (ht:H t=some (.lst zs)) (ht':H' t=some (.lst zs')):cW K H H' :=
 ⟨λ_ _ h=>e.sqT ht h,λa xs h=>by
  by_cases n:a=t
  ·subst n;exact ⟨zs',SqL.of ht'⟩
  ·exact ⟨xs,e.sqL n h⟩⟩
end
section
variable {K:PySem.W.Frag}
theorem zk (d:D):PySem.W.kitOne K (.type (tyD d)) (.type "int")=some (mE d "int"):=by cases d <;> rfl
theorem A6 (d:D):PySem.W.kitOne K (.type (tyD d)) (.type "bool")=some (mE d "bool"):=by cases d <;> rfl
theorem zl (d:D):PySem.W.kitOne K (.type (tyD d)) (.type "str")=some (mE d "str"):=by cases d <;> rfl
theorem kL (d:D):PySem.W.kitOne K (.type (tyD d)) (.type "tuple")=some (mE d "tuple"):=by cases d <;> rfl
theorem vU (d:D):PySem.W.kitOne K (.type (tyD d)) (.type "list")=some (mE d "list"):=by cases d <;> rfl
end
noncomputable def spD (K:PySem.W.Frag) (R:List D->D->Prop):Sp:=λvs H Q _=>∃ ds d,Dats K H ds vs/\R ds d/\∀ v H',Same H H'->Dat K H' d v->Q v H'
noncomputable def iG (K:PySem.W.Frag) (R:List D->List D->Prop):Sp:=λvs H Q _=>∃ ds es,Dats K H ds vs/\R ds es/\∀ r us H',Same H H'->H' r=some (.lst us)->H r=none->Dats K H' es us->Q (.ref r) H'
variable {vs:List V}
theorem gC {a:D} (h:Dats K H [a] vs):∃ u,vs=[u]/\Dat K H a u:=by
 obtain ⟨u,r,e,h1,h⟩:=h.consE
 have z:=h.nilE
 subst z e
 exact ⟨u,rfl,h1⟩
theorem gk {a b:D} (h:Dats K H [a,b] vs):∃ u v,vs=[u,v]/\Dat K H a u/\Dat K H b v:=by
 obtain ⟨u,r,e,h1,h⟩:=h.consE
 obtain ⟨v,q,h2⟩:=gC h
 subst q e
 exact ⟨u,v,rfl,h1,h2⟩
theorem vH {a b c:D} (h:Dats K H [a,b,c] vs):∃ u v w,vs=[u,v,w]/\Dat K H a u/\Dat K H b v/\Dat K H c w:=by
 obtain ⟨u,r,e,h1,h⟩:=h.consE
 obtain ⟨v,w,q,h2⟩:=gk h
 subst q e
 exact ⟨u,v,w,rfl,h1,h2⟩
variable {σ:St} {j:Nat}
theorem kX {z:Option V} {x:Option V}:(σ.set j z).set j x=σ.set j x:=by rw [List.set_set]
variable {J:It} {item:Nat->V} {te:TE} {σ0:St} {Q:VK}
theorem nk (Ok:Hp->Prop)
  (go:∀ i H',Ok H'->i < n->J.go i H'/\∀ x H'',J.yld i H' x H''->H''=H'/\x=item i) (stop:∀ H',Ok H'->J.stop n H') (h0:σ0.set j none=σ0)
  (D:Addr) (Pn:Nat->Hp->Prop) (p0:Pn 0 (upd H1 D (.lst []))) (ok:∀ i H',i≤n->Pn i H'->Ok H')
  (turn:∀ i H',i < n->Pn i H'->te (σ0.set j (some (item i))) H' λv H4=>∃ ys,H4 D=some (.lst ys)/\ys.length < sizeLine/\(∃ z,σ0.set j (some (item i))=σ0.set j z)/\Pn (i+1) (upd H4 D (.lst (ys++[v]))))
  (fin:∀ H',Pn n H'->Q (.ref D) H') :
  ∃ W:Nat->Nat->St->Hp->Prop,(∃ m,W 0 m σ0 (upd H1 D (.lst [])))/\∀ i m σ' H',W i m σ' H' ->
   (J.stop i H'/\Q (.ref D) H') \/
   (J.go i H'/\∃ Nx:St->Hp->Prop,(∀ σ'' H'',Nx σ'' H''->∃ m',m' < m/\W (i+1) m' σ'' H'')/\∀ x H'',J.yld i H' x H''->cU j x σ' H'' λσ2 H2=>gE σ2 H2 λb H3 =>
    if b=true then te σ2 H3 λv H4=>∃ ys,H4 D=some (.lst ys)/\ys.length < sizeLine/\Nx σ2 (upd H4 D (.lst (ys++[v]))) else Nx σ2 H3):=by
 refine ⟨λi m σ' H'=>m=n - i/\i≤n/\(∃ z,σ'=σ0.set j z)/\Pn i H',⟨n,by omega,Nat.zero_le _,⟨none,h0.symm⟩,p0⟩,?_⟩
 rintro i m σ' H' ⟨rfl,hi,⟨z,rfl⟩,p⟩
 have o:=ok i H' hi p
 by_cases hlt:i < n
 ·obtain ⟨g,y⟩:=go i H' o hlt
  refine .inr ⟨g,λσ'' H''=>(∃ z,σ''=σ0.set j z)/\Pn (i+1) H'',λσ'' H'' q=>⟨n - (i+1),by omega,rfl,hlt,q.1,q.2⟩,λx H'' yx=>?_⟩
  obtain ⟨e1,e2⟩:=y x H'' yx
  subst e1 e2
  simp only [cU,gE,if_true,kX]
  exact turn i _ hlt p
 ·have e:i=n:=by omega
  subst e
  exact .inl ⟨stop H' o,fin H' p⟩
theorem C0 (i:Nat) (H':Hp) (h:SqT K H' a xs) (hi:i < xs.length):(Itt K a).go i H'/\∀ x H'',(Itt K a).yld i H' x H''->H''=H'/\x=xs.getD i .non:=by
 refine ⟨⟨xs,xs[i],h,List.getElem?_eq_getElem hi⟩,λx H'' y=>⟨y.1,?_⟩⟩
 have q:=y.2 xs h
 rw [List.getD_eq_getElem?_getD,q]
 rfl
theorem qH (i:Nat) (H':Hp) (h:SqL K H' a xs) (hi:i < xs.length):(Itl K a).go i H'/\∀ x H'',(Itl K a).yld i H' x H''->H''=H'/\x=xs.getD i .non:=by
 refine ⟨⟨xs,xs[i],h,List.getElem?_eq_getElem hi⟩,λx H'' y=>⟨y.1,?_⟩⟩
 have q:=y.2 xs h
 rw [List.getD_eq_getElem?_getD,q]
 rfl
theorem CZ (i:Nat) (H':Hp) (hi:i < n):(Itr 0 n).go i H'/\∀ x H'',(Itr 0 n).yld i H' x H''->H''=H'/\x=.int i:=by
 refine ⟨hi,λx H'' y=>⟨y.1,?_⟩⟩
 have q:=y.2
 rw [q]
 simp
section
variable {X:Cx}
noncomputable def Ei (K:PySem.W.Frag):V->V->Hp->VK->Prop:=λo i H Q=>∃ p xs k v,o=.ref p/\i=.int k/\0≤k/\SqL K H p xs/\xs[k.toNat]?=some v/\Q v H
theorem sS:DR X (Ei X.K):=by
 intro pins s σ H o i ov iv Q I r1 r2 h
 obtain ⟨p,xs,k,v,eo,ei,h0,hq,he,q⟩:=h
 subst eo ei
 cases r1
 obtain ⟨t,rfl⟩:=r2
 obtain ⟨its,r,pl,hz⟩:=I.list hq
 obtain ⟨w,ew,rw'⟩:=r.get he
 have hl:=r.length
 have hlt:k.toNat < xs.length:=(List.getElem?_eq_some_iff.mp he).1
 have hn:=kn
 exact wpAny_getItem_list pl.isList h0 (by omega) (by simpa using ew) ⟨v,H,I,rw',q⟩
theorem Bp:OpR X (binaryOp .Mult) (rI IntMulOk λi j=>.int (i * j)):=opI λ_ _ _ _ _ _ _ hc q=>mul_int q hc
end
theorem qN (h:j < n):ixN n (j:Int)=some j:=by
 unfold ixN
 rw [if_pos (by omega),if_pos (by omega)]
 simp
theorem at0 {α:Type} {x:α} {r:List α}:atI (x::r) 0=some x:=ia (j:=0) rfl
theorem at1 {α:Type} {x y:α} {r:List α}:atI (x::y::r) 1=some y:=ia (j:=1) rfl
theorem at2 {α:Type} {x y z:α} {r:List α}:atI (x::y::z::r) 2=some z:=ia (j:=2) rfl
theorem ix0:ixN (n+1) 0=some 0:=qN (j:=0) (by omega)
theorem ix1:ixN (n+2) 1=some 1:=qN (j:=1) (by omega)
theorem ix2:ixN (n+3) 2=some 2:=qN (j:=2) (by omega)
theorem pB:∀ ns:List Int,Dats K H (ns.map D.int) (ns.map V.int)
 | []=>Dats.nil
 | n::ns=>Dats.cons (Dat.intI n) (pB ns)
theorem lF:∀ ns:List Int,noLs (ns.map D.int)=true
 | []=>by unfold noLs;rfl
 | n::ns=>by
  show noLs (D.int n::ns.map D.int)=true
  unfold noLs
  rw [lF ns]
  unfold noL
  rfl
theorem jy:∀ ns:List Int,deepDs (ns.map D.int)=0
 | []=>by unfold deepDs;rfl
 | n::ns=>by
  show deepDs (D.int n::ns.map D.int)=0
  unfold deepDs
  rw [jy ns]
  unfold eU
  rfl
theorem yQ (ns:List Int):eqDs (ns.map D.int) []=ns.isEmpty:=by
 cases ns with
 | nil=>unfold eqDs;rfl
 | cons n ns=>show eqDs (D.int n::ns.map D.int) []=false;unfold eqDs;rfl
theorem cm (h:n≤1000):n≤sizeLine:=Nat.le_of_lt (cx h)
noncomputable def Scr (K:PySem.W.Frag) (H:Hp) (a:Addr) (ns:List Int):Prop:=(∃ o,H a=some (.frz o (.lst (ns.map V.int)))) \/
 ∃ (o:Obj) (its:Array Value) (n:Nat),K.lookup a=some o/\o.cls=.type "list"/\o.dict=none/\o.data=.seq its n/\its.size≤sizeLine/\Vals (ns.map V.int) its.toList
theorem Scr.sqL (h:Scr K H a ns):SqL K H a (ns.map V.int):=by
 rcases h with ⟨o,h⟩ | h
 ·exact .inl (.inr ⟨o,h⟩)
 ·exact .inr h
theorem Scr.but {t:Addr} {zs:List V} (h:Scr K H a ns) (e:But t H H') (ht:H t=some (.lst zs)):Scr K H' a ns:=by
 rcases h with ⟨o,h⟩ | h
 ·exact .inl ⟨o,e _ _ (λz=>by rw [z,ht] at h;cases h) h⟩
 ·exact .inr h
theorem Scr.same (h:Scr K H a ns) (e:Same H H'):Scr K H' a ns:=by
 rcases h with ⟨o,h⟩ | h
 ·exact .inl ⟨o,e _ _ h⟩
 ·exact .inr h
theorem DD (hO:AK H) (h:SqL K H a (ns.map V.int)):Scr K H a ns:=by
 rcases h with (h | ⟨o,h⟩) | h
 ·rcases hO a with z | ⟨o,xs,z⟩
  ·rw [h] at z;cases z
  ·rw [h] at z;cases z
 ·exact .inl ⟨o,h⟩
 ·exact .inr h
noncomputable def oA (K:PySem.W.Frag):Sp:=λvs H Q _=>∃ (a t:Addr) (ns:List Int) (m p q:Int) (rest:List V),vs=[.ref a,.ref t,.int m]/\Scr K H a ns/\H t=some (.lst (.int p::.int q::rest))/\0≤p/\0 < m/\m≤1000000 /\
 ∀ (r:Int) (H':Hp) (p' q':Int),But t H H'->H' t=some (.lst (.int p'::.int q'::rest))->0≤p'->0≤r->r < m->Q (.int r) H'
noncomputable def RE (K:PySem.W.Frag) (t:TE) (σ:St) (H:Hp) (d:D):Prop:=∀ H1,Same H H1->∀ Q:VK,(∀ v H',Same H1 H'->Dat K H' d v->Q v H')->t σ H1 Q
noncomputable def RT (t:TT) (σ:St) (H:Hp) (b:Bool):Prop:=∀ H1,Same H H1->∀ Q:Bool->Hp->Prop,(∀ H',Same H1 H'->Q b H')->t σ H1 Q
noncomputable def RA (K:PySem.W.Frag) (t:TA) (σ:St) (H:Hp) (ds:List D):Prop:=∀ H1,Same H H1->∀ Q:List V->Hp->Prop,(∀ vs H',Same H1 H'->Dats K H' ds vs->Q vs H')->t σ H1 Q
section
variable {K:PySem.W.Frag} {σ:St} {H H':Hp} {d d':D} {ds:List D} {t u ta tb:TE} {tt uu:TT} {tA:TA} {i j:Int} {b c:Bool}
theorem RE.mono (h:RE K t σ H d) (e:Same H H'):RE K t σ H' d:=λH1 s Q q=>h H1 (e.trans s) Q q
theorem RA.mono (h:RA K tA σ H ds) (e:Same H H'):RA K tA σ H' ds:=λH1 s Q q=>h H1 (e.trans s) Q q
theorem RE.as (h:RE K t σ H d) (e:d=d'):RE K t σ H d':=e ▸ h
theorem RT.as (h:RT tt σ H b) (e:b=c):RT tt σ H c:=e ▸ h
theorem RE.use {Q:VK} (h:RE K t σ H d) (q:∀ v H',Same H H'->Dat K H' d v->Q v H'):t σ H Q:=h H (Same.refl H) Q q
theorem RT.use {Q:Bool->Hp->Prop} (h:RT tt σ H b) (q:∀ H',Same H H'->Q b H'):tt σ H Q:=h H (Same.refl H) Q q
theorem RA.use {Q:List V->Hp->Prop} (h:RA K tA σ H ds) (q:∀ vs H',Same H H'->Dats K H' ds vs->Q vs H'):tA σ H Q:=h H (Same.refl H) Q q
theorem ao:RE K (tC (.int i)) σ H (.int i):=λH1 _ Q q=>q _ _ (Same.refl _) (Dat.intI i)
variable {x:Str}
theorem aB:RE K (tC (.str x)) σ H (.str x):=λH1 _ Q q=>q _ _ (Same.refl _) (Dat.strI x)
theorem cg:RE K (tC (.bl b)) σ H (.bl b):=λH1 _ Q q=>q _ _ (Same.refl _) (Dat.blI b)
theorem ae {k:Nat} {v:V} (h:Dat K H d v) (e:σ[k]?=some (some v):=by rfl):RE K (jl k) σ H d:=λH1 s Q q=>⟨v,e,q _ _ (Same.refl _) (s.dat h)⟩
theorem av:RA K dQ σ H []:=λH1 _ Q q=>q _ _ (Same.refl _) Dats.nil
theorem ab (h:RE K t σ H d) (r:RA K tA σ H ds):RA K (bR t tA) σ H (d::ds):=λH1 s Q q =>
 h H1 s _ λv H2 s2 q2=>r H2 (s.trans s2) _ λvs H3 s3 q3=>q _ _ (s2.trans s3) (Dats.cons (s3.dat q2) q3)
theorem aP (h:RA K tA σ H ds) (hl:ds.length≤1000:=by simp):RE K (Av tA) σ H (.tup ds):=λH1 s Q q =>
 h H1 s _ λvs H2 s2 q2=>⟨by rw [← q2.length];exact cm hl,λp hp=>q _ _ (s2.trans (aG hp _)) (Dat.tupI (SqT.of aq) ((aG hp _).dats q2))⟩
theorem Ci {g:Int->Int} (h:RE K t σ H (.int i)):RE K (tUn (rU λi=>.int (g i)) t) σ H (.int (g i)):=λH1 s Q q =>
 h H1 s _ λv H2 s2 q2=>⟨i,q2.intE,q _ _ s2 (Dat.intI _)⟩
variable {g:Int->Int->V}
theorem ve (h1:RE K ta σ H (.int i)) (h2:RE K tb σ H (.int j)) (hd:∀ H,Dat K H d (g i j)):RE K (tOp (rI0 g) ta tb) σ H d:=λH1 s Q q =>
 h1 H1 s _ λv H2 s2 q2=>h2 H2 (s.trans s2) _ λw H3 s3 q3=>⟨i,j,q2.intE,q3.intE,q _ _ (s2.trans s3) (hd _)⟩
theorem Ak {C:Int->Int->Prop} (h1:RE K ta σ H (.int i)) (h2:RE K tb σ H (.int j)) (hc:C i j) (hd:∀ H,Dat K H d (g i j)):RE K (tOp (rI C g) ta tb) σ H d:=λH1 s Q q =>
 h1 H1 s _ λv H2 s2 q2=>h2 H2 (s.trans s2) _ λw H3 s3 q3=>⟨i,j,q2.intE,q3.intE,hc,q _ _ (s2.trans s3) (hd _)⟩
theorem dC (h1:RE K ta σ H (.int i)) (h2:RE K tb σ H (.int j)):RE K (tOp (rI0 λi j=>.int (i+j)) ta tb) σ H (.int (i+j)):=ve h1 h2 λ_=>Dat.intI _
theorem vi (h1:RE K ta σ H (.int i)) (h2:RE K tb σ H (.int j)):RE K (tOp (rI0 λi j=>.int (i - j)) ta tb) σ H (.int (i - j)):=ve h1 h2 λ_=>Dat.intI _
variable {p:Int->Int->Bool}
theorem eR (h1:RE K ta σ H (.int i)) (h2:RE K tb σ H (.int j)):RE K (tOp (rI0 λi j=>.bl (p i j)) ta tb) σ H (.bl (p i j)):=ve h1 h2 λ_=>Dat.blI _
theorem rA (h1:RE K ta σ H (.int i)) (h2:RE K tb σ H (.int j)):RE K (tOp rEq ta tb) σ H (.bl (decide (i=j))):=λH1 s Q q =>
 h1 H1 s _ λv H2 s2 q2=>h2 H2 (s.trans s2) _ λw H3 s3 q3=>by
  rw [q2.intE,q3.intE]
  refine ⟨rfl,?_⟩
  have e:decide (V.int i=V.int j)=decide (i=j):=by by_cases z:i=j <;> simp [z]
  rw [e]
  exact q _ _ (s2.trans s3) (Dat.blI _)
theorem lO (h1:RE K ta σ H (.int i)) (h2:RE K tb σ H (.int j)):RE K (tOp rNe ta tb) σ H (.bl (!decide (i=j))):=λH1 s Q q =>
 h1 H1 s _ λv H2 s2 q2=>h2 H2 (s.trans s2) _ λw H3 s3 q3=>by
  rw [q2.intE,q3.intE]
  refine ⟨rfl,?_⟩
  have e:decide (V.int i=V.int j)=decide (i=j):=by by_cases z:i=j <;> simp [z]
  rw [e]
  exact q _ _ (s2.trans s3) (Dat.blI _)
theorem bo {y:Str} (h1:RE K ta σ H (.str x)) (h2:RE K tb σ H (.str y)):RE K (tOp rEq ta tb) σ H (.bl (decide (x=y))):=λH1 s Q q =>
 h1 H1 s _ λv H2 s2 q2=>h2 H2 (s.trans s2) _ λw H3 s3 q3=>by
  rw [q2.strE,q3.strE]
  refine ⟨rfl,?_⟩
  have e:decide (V.str x=V.str y)=decide (x=y):=by by_cases z:x=y <;> simp [z]
  rw [e]
  exact q _ _ (s2.trans s3) (Dat.blI _)
theorem aQ {k:Nat} (h1:RE K ta σ H (.tup ds)) (h2:RE K tb σ H (.int k)) (e:ds[k]?=some d):RE K (tOp (tZ K) ta tb) σ H d:=λH1 s Q q =>
 h1 H1 s _ λv H2 s2 q2=>h2 H2 (s.trans s2) _ λw H3 s3 q3=>by
  obtain ⟨a,vs,ev,hq,hd⟩:=(s3.dat q2).tupE
  obtain ⟨x,ex,hx⟩:=hd.get e
  exact ⟨a,vs,k,x,ev,q3.intE,hq,ia ex,q _ _ (s2.trans s3) hx⟩
theorem eT (h:RE K t σ H (.tup ds)):RE K (tCB (λxs H Q=>∃ p ys,xs=[.ref p]/\(SqL K H p ys\/SqT K H p ys)/\Q (.int ys.length) H) (bR t dQ)) σ H (.int ds.length):=λH1 s Q q =>
 h H1 s _ λv H2 s2 q2=>by
  obtain ⟨a,vs,ev,hq,hd⟩:=q2.tupE
  subst ev
  refine ⟨a,vs,rfl,.inr hq,?_⟩
  rw [← hd.length]
  exact q _ _ s2 (Dat.intI _)
theorem cf {T:String} (h:RE K t σ H d):RE K (tCB (λxs H Q=>∃ x d,xs=[x,.ty T]/\Dat K H d x/\Q (.bl (mE d T)) H) (bR t (bR (tC (.ty T)) dQ))) σ H (.bl (mE d T)):=λH1 s Q q =>
 h H1 s _ λv H2 s2 q2=>⟨v,d,rfl,q2,q _ _ s2 (Dat.blI _)⟩
theorem bg {R:List D->D->Prop} {E:XK} (h:RA K tA σ H ds) (e:R ds d):RE K (mr (spD K R) [] E tA) σ H d:=λH1 s Q q =>
 h H1 s _ λvs H2 s2 q2=>⟨ds,d,by rw [List.append_nil];exact q2,e,λv H3 s3 q3=>q _ _ (s2.trans s3) q3⟩
variable {a:Addr} {T:List (Str × KTD.Dat)}
theorem gn {k:Str} (h:RE K t σ H (.str k)) (ht:jW K a T):RE K (tOp (λx y H Q=>∃ k a T,x=.str k/\y=.ref a/\jW K a T/\Q (.bl (KTD.inKeys k T)) H) t (tC (.ref a))) σ H (.bl (KTD.inKeys k T)):=λH1 s Q q =>
 h H1 s _ λv H2 s2 q2=>⟨k,a,T,q2.strE,rfl,ht,q _ _ s2 (Dat.blI _)⟩
theorem uc {k:Str} (h:RE K t σ H (.str k)) (ht:jW K a T) (hp:(T.all λp=>KTD.plain p.2)=true) (e:KTD.datumAt k T=some (.flat (.int i))):RE K (tOp (Aa K) (tC (.ref a)) t) σ H (.int i):=λH1 s Q q =>
 h H1 s _ λv H2 s2 q2=>⟨a,k,T,i,rfl,q2.strE,ht,hp,e,q _ _ s2 (Dat.intI _)⟩
theorem Es {n:Nat}:HT.sIx (n+1) 0 (some 1)=1:=by
 have:=HT.sIx_nat (n+1) 0 1
 simpa using this
theorem EJ (v:V) (r:List V):mB (v::r) (some 1) none=r:=by
 unfold mB
 rw [List.length_cons,Es,HT.sIx_none]
 simp
theorem iQ (h:RE K t σ H (.tup (d'::ds))):RE K (tSl (Du K) t (uj (tC (.int 1))) rP) σ H (.tup ds):=λH1 s Q q =>
 h H1 s _ λv H2 s2 q2=>by
  obtain ⟨a,vs,ev,hq,hd⟩:=q2.tupE
  obtain ⟨w,r,er,h1,h2⟩:=hd.consE
  subst ev er
  refine ⟨1,rfl,a,w::r,rfl,hq,λz=>?_,λp hp=>?_⟩
  ·rw [List.length_cons,Es] at z
   exact absurd z.1 (by decide)
  ·rw [EJ]
   exact q _ _ (s2.trans (aG hp _)) (Dat.tupI (SqT.of aq) ((aG hp _).dats h2))
theorem cR (h1:RE K ta σ H (.bl b)) (h2:b=true->RE K tb σ H (.bl c)):RE K (Aq ta tb) σ H (.bl (b && c)):=λH1 s Q q =>
 h1 H1 s _ λv H2 s2 q2=>⟨b,q2.blE,by
  cases b with
  | true=>rw [if_pos rfl];exact h2 rfl H2 (s.trans s2) _ λw H3 s3 q3=>q _ _ (s2.trans s3) q3
  | false=>rw [if_neg Bool.false_ne_true];exact q _ _ s2 (Dat.blI _)⟩
theorem ue (h1:RE K ta σ H (.bl b)) (h2:b=false->RE K tb σ H (.bl c)):RE K (Ez ta tb) σ H (.bl (b || c)):=λH1 s Q q =>
 h1 H1 s _ λv H2 s2 q2=>⟨b,q2.blE,by
  cases b with
  | true=>rw [if_pos rfl];exact q _ _ s2 (Dat.blI _)
  | false=>rw [if_neg Bool.false_ne_true];exact h2 rfl H2 (s.trans s2) _ λw H3 s3 q3=>q _ _ (s2.trans s3) q3⟩
theorem Aj (h:RE K t σ H (.bl b)):RE K (Cp t) σ H (.bl (!b)):=λH1 s Q q =>
 h H1 s _ λv H2 s2 q2=>⟨b,q2.blE,q _ _ s2 (Dat.blI _)⟩
theorem kS {r:Int->Int->Bool} {k:Int} {tc:TE} (h1:RE K ta σ H (.int i)) (h2:RE K tb σ H (.int j)) (h3:p i j=true->RE K tc σ H (.int k)) :
  RE K (rO (rI0 λi j=>.bl (p i j)) (rI0 λi j=>.bl (r i j)) ta tb tc) σ H (.bl (p i j && r j k)):=λH1 s Q q =>
 h1 H1 s _ λv H2 s2 q2=>h2 H2 (s.trans s2) _ λw H3 s3 q3=>by
  refine ⟨i,j,q2.intE,q3.intE,p i j,rfl,?_⟩
  cases hp:p i j with
  | true =>
   simp only [if_true,Bool.true_and]
   exact h3 hp H3 (s.trans (s2.trans s3)) _ λz H4 s4 q4=>⟨j,k,q3.intE,q4.intE,q _ _ (s2.trans (s3.trans s4)) (by rw [hp];exact Dat.blI _)⟩
  | false =>
   simp only [Bool.false_eq_true,if_false,Bool.false_and]
   exact q _ _ (s2.trans s3) (by rw [hp];exact Dat.blI _)
theorem wA (h:RT tt σ H b) (h1:b=true->RE K ta σ H d) (h2:b=false->RE K tb σ H d):RE K (tIf tt ta tb) σ H d:=λH1 s Q q =>
 h H1 s _ λH2 s2=>by
  cases b with
  | true=>rw [if_pos rfl];exact h1 rfl H2 (s.trans s2) _ λw H3 s3 q3=>q _ _ (s2.trans s3) q3
  | false=>rw [if_neg Bool.false_ne_true];exact h2 rfl H2 (s.trans s2) _ λw H3 s3 q3=>q _ _ (s2.trans s3) q3
theorem aD (h:RE K t σ H (.bl b)):RT (Au t) σ H b:=λH1 s Q q=>h H1 s _ λv H2 s2 q2=>⟨b,q2.blE,q _ s2⟩
theorem aX (h:RE K t σ H (.bl b)):RT (λσ H Q=>t σ H λx H'=>∃ k,wU K x H' k/\Q k H') σ H b:=λH1 s Q q=>h H1 s _ λv H2 s2 q2=>by
 rw [q2.blE]
 exact ⟨b,rfl,q _ s2⟩
theorem bJ (h:RT tt σ H b):RT (DH tt) σ H (!b):=λH1 s Q q=>h H1 s _ λH2 s2=>q _ s2
theorem ow (h:RT tt σ H b) (h2:b=true->RT uu σ H c):RT (Eu tt uu) σ H (b && c):=λH1 s Q q=>h H1 s _ λH2 s2=>by
 cases b with
 | true=>rw [if_pos rfl];exact h2 rfl H2 (s.trans s2) _ λH3 s3=>q _ (s2.trans s3)
 | false=>rw [if_neg Bool.false_ne_true];exact q _ s2
theorem dJ (h:RT tt σ H b) (h2:b=false->RT uu σ H c):RT (tOr tt uu) σ H (b || c):=λH1 s Q q=>h H1 s _ λH2 s2=>by
 cases b with
 | true=>rw [if_pos rfl];exact q _ s2
 | false=>rw [if_neg Bool.false_ne_true];exact h2 rfl H2 (s.trans s2) _ λH3 s3=>q _ (s2.trans s3)
variable {En:iV}
theorem aW (h:RE K t σ H d) (q:∀ v H',Same H H'->Dat K H' d v->En.rt v H'):DI t En σ H:=h.use q
theorem js {ts us:TS} (h:RT tt σ H b) (h1:b=true->∀ H',Same H H'->ts En σ H') (h2:b=false->∀ H',Same H H'->us En σ H'):BV tt ts us En σ H:=h.use λH' s=>by
 cases b with
 | true=>rw [if_pos rfl];exact h1 rfl H' s
 | false=>rw [if_neg Bool.false_ne_true];exact h2 rfl H' s
end
theorem bP:bootBuiltins "len"=some (.builtin "len"):=by decide +kernel
theorem bT:bootBuiltins "isinstance"=some (.builtin "isinstance"):=by decide +kernel
theorem kj:bootBuiltins "all"=some (.builtin "all"):=by decide +kernel
theorem CL:bootBuiltins "any"=some (.builtin "any"):=by decide +kernel
theorem yD:bootBuiltins "sum"=some (.builtin "sum"):=by decide +kernel
theorem CM:bootBuiltins "min"=some (.builtin "min"):=by decide +kernel
theorem yA:bootBuiltins "int"=some (.type "int"):=by decide +kernel
theorem AQ:bootBuiltins "bool"=some (.type "bool"):=by decide +kernel
theorem yC:bootBuiltins "str"=some (.type "str"):=by decide +kernel
theorem d9:bootBuiltins "tuple"=some (.type "tuple"):=by decide +kernel
theorem qy:bootBuiltins "list"=some (.type "list"):=by decide +kernel
theorem yB:bootBuiltins "range"=some (.type "range"):=by decide +kernel
theorem CN:bootBuiltins "set"=some (.type "set"):=by decide +kernel
theorem qx:bootBuiltins "enumerate"=some (.type "enumerate"):=by decide +kernel
theorem yE:bootBuiltins "zip"=some (.type "zip"):=by decide +kernel
theorem sk:bootBuiltins "reversed"=some (.type "reversed"):=by decide +kernel
variable {tA:TA} {ds:List D}
theorem ot (h:RA K tA σ H ds) (q:∀ p vs H1,Same H H1->H1 p=none->Dats K H1 ds vs->Q (.ref p) (upd H1 p (.lst vs))) (hl:ds.length≤1000:=by simp):ui tA σ H Q :=
 h.use λvs H1 s1 q1=>⟨by rw [← q1.length];exact cm hl,λp hp=>q p vs H1 s1 hp q1⟩
theorem iL (go:∀ i H',Same H1 H'->i < n->J.go i H'/\∀ x H'',J.yld i H' x H''->H''=H'/\x=item i) (stop:∀ H',Same H1 H'->J.stop n H')
  (h0:σ0.set j none=σ0) (es:List D) (hn:es.length=n) (hb:n≤1000) (turn:∀ i d,es[i]?=some d->RE K te (σ0.set j (some (item i))) H1 d)
  (fin:∀ l ys H',H1 l=none->Same H1 H'->H' l=some (.lst ys)->Dats K H' es ys->Q (.ref l) H') (l:Addr) (hl:H1 l=none) :
  ∃ W:Nat->Nat->St->Hp->Prop,(∃ m,W 0 m σ0 (upd H1 l (.lst [])))/\∀ i m σ' H',W i m σ' H' ->
   (J.stop i H'/\Q (.ref l) H') \/
   (J.go i H'/\∃ Nx:St->Hp->Prop,(∀ σ'' H'',Nx σ'' H''->∃ m',m' < m/\W (i+1) m' σ'' H'')/\∀ x H'',J.yld i H' x H''->cU j x σ' H'' λσ2 H2=>gE σ2 H2 λb H3 =>
    if b=true then te σ2 H3 λv H4=>∃ ys,H4 l=some (.lst ys)/\ys.length < sizeLine/\Nx σ2 (upd H4 l (.lst (ys++[v]))) else Nx σ2 H3):=by
 refine nk (λH'=>Same H1 H') go stop h0 l (λi H'=>Same H1 H'/\∃ ys,H' l=some (.lst ys)/\Dats K H' (es.take i) ys) ?_ ?_ ?_ ?_
 ·exact ⟨aG hl _,[],aq,by rw [List.take_zero];exact Dats.nil⟩
 ·intro i H' _ p
  exact p.1
 ·intro i H' hi ⟨s1,ys,hy,hd⟩
  have hi':i < es.length:=by omega
  refine ((turn i es[i] (List.getElem?_eq_getElem hi')).mono s1).use λv H4 s4 q4=>?_
  have hy4:=s4 _ _ hy
  have lys:ys.length=i:=by rw [← hd.length,List.length_take];omega
  refine ⟨ys,hy4,cx (by omega),⟨_,rfl⟩,λb o hb=>?_,ys++[v],aq,?_⟩
  ·rw [aJ (az hb hl)]
   exact s4 _ _ (s1 _ _ hb)
  ·have g:cW K H4 (upd H4 l (.lst (ys++[v]))):=But.grow (t:=l) (But.upd (Same.refl H4).but) hy4 aq
   rw [List.take_add_one,List.getElem?_eq_getElem hi']
   exact Dats.append (Dats.mono g _ (s4.dats hd)) (Dats.cons (Dat.mono g _ q4) Dats.nil)
 ·intro H' ⟨s1,ys,hy,hd⟩
  rw [List.take_of_length_le (by omega)] at hd
  exact fin l ys H' hl s1 hy hd
variable {tt:TT} {En:iV} {ts us:TS}
theorem aK {K:PySem.W.Frag} {b:Bool} (h:RT tt σ H b) (h1:b=true->∀ H',Same H H'->ts { En with nx:=us En } σ H') (h2:b=false->∀ H',Same H H'->us En σ H'):kY (BV tt ts wK) us En σ H :=
 js h h1 h2
variable {d:D}
theorem dt {t:TE} {k:Nat} (h:RE K t σ H d) (q:∀ v H',Same H H'->Dat K H' d v->us En (σ.set k (some v)) H'):kY (o4 t (cU k)) us En σ H:=h.use q
theorem cZ {k:Nat} (h:te σ H λx H1=>us En (σ.set k (some x)) H1):kY (o4 te (cU k)) us En σ H:=h
theorem jJ (h:te σ H λ_ H1=>us En σ H1):kY (mw te) us En σ H:=h
variable {v:V}
theorem wD (h:Q v H):tC v σ H Q:=h
theorem gq (h:te σ H En.rt):DI te En σ H:=h
theorem cJ (h:ts { En with nx:=us En } σ H):kY ts us En σ H:=h
variable {tl:TE} {mk:St->St}
theorem pZ {cs:List D} (h:RE K tl σ H (.tup cs)) (hc:cs.length≤1000) (es:List D) (hl:es.length=cs.length) (h0:(mk σ).set j none=mk σ)
  (turn:∀ H1 (i:Nat) c v d,Same H H1->cs[i]?=some c->es[i]?=some d->Dat K H1 c v->RE K te ((mk σ).set j (some v)) H1 d)
  (fin:∀ l ys H',H l=none->Same H H'->H' l=some (.lst ys)->Dats K H' es ys->Q (.ref l) H'):iA (C2 K tl) mk (cU j) gE te σ H Q:=by
 refine h.use λv4 H4 s4 q4=>?_
 obtain ⟨a,vs,e,hq,hd⟩:=q4.tupE
 subst e
 have l4:=hd.length
 refine ⟨a,rfl,⟨vs,hq⟩,?_⟩
 refine iL (K:=K) (Q:=Q) (n:=vs.length) (item:=λi=>vs.getD i .non) (λi H' s hi=>C0 i H' (s.sqT hq) hi) (λH' s=>⟨vs,s.sqT hq,Nat.le_refl _⟩) h0 es (by omega) (by omega) (λi d hi=>?_) (λl ys H5 hl5 s5=>fin l ys H5 (s4.free hl5) (s4.trans s5))
 have hi':i < es.length:=(List.getElem?_eq_some_iff.mp hi).1
 have hic:i < cs.length:=by omega
 obtain ⟨vz,ez,hz⟩:=hd.get (List.getElem?_eq_getElem hic)
 have q:=turn H4 i cs[i] vz d s4 (List.getElem?_eq_getElem hic) hi hz
 rw [List.getD_eq_getElem?_getD,ez]
 exact q
theorem jc {Q:St->Hp->Prop} (h:Q (σ.set j (some v)) H):cU j v σ H Q:=h
theorem rF (M:St->Hp->Prop) (hr:∀ σ' H',M σ' H'->us En σ' H') (h:(∀ σ' H',M σ' H'->us En σ' H')->ts { En with nx:=us En } σ H):kY ts us En σ H:=h hr
theorem eB {base:Heap} {k:Nat} {f:Addr} {ps:List Str} (no:∀ vs H Q E,¬ sp vs H Q E):FnOk P w K mg base CX k f fd ps sp :=
 ⟨λvs H Q E h=>absurd h (no vs H Q E),λA outer s H args us vs Q E _ _ _ _ h=>absurd h (no vs H Q E)⟩
theorem om (n:Nat) (h:∀ R:List V->Hp->Prop,R [.int n] H->tA σ H R) (hc:n≤1000) (h0:(mk σ).set j none=mk σ) (Pn:Addr->Nat->Hp->Prop)
  (p0:∀ l,H l=none->Pn l 0 (upd H l (.lst [])))
  (turn:∀ l i G,H l=none->i < n->Pn l i G->te ((mk σ).set j (some (.int i))) G λv H4=>∃ ys,H4 l=some (.lst ys)/\ys.length < sizeLine/\(∃ z,(mk σ).set j (some (.int i))=(mk σ).set j z)/\Pn l (i+1) (upd H4 l (.lst (ys++[v]))))
  (fin:∀ l G,H l=none->Pn l n G->Q (.ref l) G):iA (B4 tA) mk (cU j) gE te σ H Q:=by
 refine h _ ⟨n,rfl,by omega,by omega,λl hl=>?_⟩
 rw [Int.toNat_natCast]
 exact nk (λ_=>True) (item:=λi=>.int i) (λi H' _ hi=>CZ i H' hi) (λH' _=>Nat.le_refl _) h0 l (Pn l) (p0 l hl) (λ_ _ _ _=>trivial) (λi G hi p=>turn l i G hl hi p) (λG p=>fin l G hl p)
theorem ip {ta:TE} {r:List V->Hp->VK->Prop} (h:ta σ H λx H1=>r [x] H1 Q):tCB r (bR ta dQ) σ H Q:=h
theorem mV {G:Hp} {es:List D} (h:RA K tA σ G es) (hl:G l=some (.lst xs)) (hx:xs.length≤900)
  (q:∀ ys G',But l G G'->G' l=some (.lst (xs++ys))->Dats K G' es ys->us En σ G') (hv:σ[j]?=some (some (.ref l)):=by rfl) (he:es.length≤100:=by simp):kY (mw (tBM K "list" mR (jl j) (bR (ui tA) dQ))) us En σ G:=by
 refine ⟨_,hv,.inl ⟨rfl,_,SqL.of hl⟩,?_⟩
 refine ot h (λp vs H1 s1 hp q1=>?_) (by omega)
 have hlp:l≠p:=az (s1 _ _ hl) hp
 have hl1:upd H1 p (.lst vs) l=some (.lst xs):=by rw [aJ hlp];exact s1 _ _ hl
 have lv:=q1.length
 refine ⟨l,p,xs,vs,rfl,rfl,hl1,aq,cm (by omega),?_⟩
 have b:But l (upd H1 p (.lst vs)) (upd (upd H1 p (.lst vs)) l (.lst (xs++vs))):=But.upd (Same.refl _).but
 have g:cW K (upd H1 p (.lst vs)) (upd (upd H1 p (.lst vs)) l (.lst (xs++vs))):=b.grow hl1 aq
 exact q vs _ ((s1.trans (aG hp _)).but.trans b) aq (Dats.mono g _ ((aG hp _).dats q1))
theorem kT {i:Nat} {e:D} (h:RE K te σ H (.tup [d,e])) (q:∀ v w H',Same H H'->Dat K H' d v->Dat K H' e w->us En ((σ.set i (some v)).set j (some w)) H') :
  kY (o4 te (xp K 2 (jZ (cU i) (jZ (cU j) yZ)))) us En σ H :=
 h.use λx H1 s1 q1=>by
  obtain ⟨a,vs,e1,hq,hd⟩:=q1.tupE
  obtain ⟨v,w,e2,hv,hw⟩:=gk hd
  subst e1 e2
  exact ⟨a,_,rfl,hq,rfl,v,_,rfl,w,_,rfl,rfl,q v w H1 s1 hv hw⟩
noncomputable def B7:Expr->Bool
 | .Starred ..=>false
 | _=>true
variable {e:Expr} {es:List Expr}
theorem xV (h:B7 e=true):starEach (e::es) env=(false,eval e env)::starEach es env:=by
 cases e <;> first | rfl | cases h
variable {t:TA}
theorem ag (ha:PE X e te) (hr:PA X es t) (h:B7 e=true:=by rfl):PA X (e::es) (bR te t):=cq ha hr (xV h)
theorem oH {bs:List Bool} {us:List Value}:Vals (bs.map V.bl) us->us=bs.map Value.bool:=by
 intro h
 induction bs generalizing us with
 | nil=>cases h;rfl
 | cons b bs ih =>
  cases h with
  | cons r t=>cases r;rw [ih t];rfl
theorem Af (bs:List Bool) (d:Bool):(List.range bs.length).map (λi=>(bs[i]?).getD d)=bs:=by
 apply List.ext_getElem
 ·simp
 ·intro i h1 h2
  simp at h1
  simp [h1]
section
variable {X:Cx}
theorem gY (hc:X.calm=true):h9 X (.builtin "all") (λxs H Q=>∃ (l:Addr) (bs:List Bool),xs=[.ref l]/\SqL X.K H l (bs.map V.bl)/\Q (.bl (bs.all id)) H):=by
 intro pins s σ H xs us Q I r h
 obtain ⟨l,bs,rfl,hq,q⟩:=h
 obtain ⟨u,rfl,ru⟩:=gH r
 cases ru
 obtain ⟨its,rv,p,hz⟩:=I.list hq
 have ei:=oH rv
 have hl:=p.isList
 have hlt:l < s.heap.objs.size:=by obtain ⟨_,e,_⟩:=hl;exact Heap.lt_size e
 refine call_all_walk (wpAny_pyIter_list hl ?_)
 refine ⟨s.heap.objs.size,[s.heap.objs.size,l],[s.heap.objs.size],its.toArray.size,_,_,λi=>(bs[i]?).getD true,rfl,Walks.list (A:=X.A.in1) (I.ok.hd hc) _ l (Nat.ne_of_lt hlt) its.toArray,
  ⟨⟨_,Heap.get?_push_size _ rfl,rfl,rfl⟩,hl.push _⟩,λi v s' Q' E' hP hQ=>?_,λh' tk hk=>?_⟩
 ·subst ei
  have hP':(bs.map Value.bool)[i]?=some v:=by simpa using hP
  rw [List.getElem?_map] at hP'
  cases hb:bs[i]? with
  | none=>rw [hb] at hP';cases hP'
  | some b =>
   rw [hb] at hP'
   cases hP'
   simp only [hb,Option.getD_some] at hQ
   exact wpAny_truthy_bool hQ
 ·have e:((List.range its.toArray.size).all λi=>(bs[i]?).getD true)=bs.all id:=by
   subst ei
   rw [List.size_toArray,List.length_map]
   conv=>rhs;rw [← Af bs true]
   rw [List.all_map]
   rfl
  rw [e]
  exact ⟨.bl _,H,I.kept (t':=tk) λb x e=>hk b x (λhm=>by rw [List.mem_singleton.mp hm] at e;exact Nat.lt_irrefl _ (Heap.lt_size e)) (Heap.get?_push_of_some _ e),rfl,q⟩
theorem yI (hc:X.calm=true):h9 X (.builtin "any") (λxs H Q=>∃ (l:Addr) (bs:List Bool),xs=[.ref l]/\SqL X.K H l (bs.map V.bl)/\Q (.bl (bs.any id)) H):=by
 intro pins s σ H xs us Q I r h
 obtain ⟨l,bs,rfl,hq,q⟩:=h
 obtain ⟨u,rfl,ru⟩:=gH r
 cases ru
 obtain ⟨its,rv,p,hz⟩:=I.list hq
 have ei:=oH rv
 have hl:=p.isList
 have hlt:l < s.heap.objs.size:=by obtain ⟨_,e,_⟩:=hl;exact Heap.lt_size e
 refine call_any_walk (wpAny_pyIter_list hl ?_)
 refine ⟨s.heap.objs.size,[s.heap.objs.size,l],[s.heap.objs.size],its.toArray.size,_,_,λi=>(bs[i]?).getD false,rfl,Walks.list (A:=X.A.in1) (I.ok.hd hc) _ l (Nat.ne_of_lt hlt) its.toArray,
  ⟨⟨_,Heap.get?_push_size _ rfl,rfl,rfl⟩,hl.push _⟩,λi v s' Q' E' hP hQ=>?_,λh' tk hk=>?_⟩
 ·subst ei
  have hP':(bs.map Value.bool)[i]?=some v:=by simpa using hP
  rw [List.getElem?_map] at hP'
  cases hb:bs[i]? with
  | none=>rw [hb] at hP';cases hP'
  | some b =>
   rw [hb] at hP'
   cases hP'
   simp only [hb,Option.getD_some] at hQ
   exact wpAny_truthy_bool hQ
 ·have e:((List.range its.toArray.size).any λi=>(bs[i]?).getD false)=bs.any id:=by
   subst ei
   rw [List.size_toArray,List.length_map]
   conv=>rhs;rw [← Af bs false]
   rw [List.any_map]
   rfl
  rw [e]
  exact ⟨.bl _,H,I.kept (t':=tk) λb x e=>hk b x (λhm=>by rw [List.mem_singleton.mp hm] at e;exact Nat.lt_irrefl _ (Heap.lt_size e)) (Heap.get?_push_of_some _ e),rfl,q⟩
end
section
variable {P:Program} {w:World} {K:PySem.W.Frag} {mg:Str->Option Value} {base:Heap}
end
section
variable {K:PySem.W.Frag} {σ:St} {H H':Hp} {d d':D} {ds:List D} {t u ta tb:TE} {tt uu:TT} {tA:TA} {i j:Int} {b c:Bool}
theorem u0 (h1:RE K ta σ H (.int i)) (h2:RE K tb σ H (.int j)) (hj:0 < j):RE K (tOp (rI (λ_ j=>0 < j) λi j=>.int (i % j)) ta tb) σ H (.int (i % j)):=Ak h1 h2 hj λ_=>Dat.intI _
theorem rB (h1:RE K ta σ H (.int i)) (h2:RE K tb σ H (.int j)) (hc:Cs i j):RE K (tOp (rI Cs λi j=>.int (i / j)) ta tb) σ H (.int (i / j)):=Ak h1 h2 hc λ_=>Dat.intI _
theorem yL:∀ {bs:List Bool} {vs:List V},Dats K H (bs.map D.bl) vs->vs=bs.map V.bl
 | [],vs,h=>by rw [Dats.nilE h];rfl
 | b::bs,vs,h=>by
  obtain ⟨v,r,e,h1,h2⟩:=h.consE
  rw [e,h1.blE,yL h2]
  rfl
theorem vG:∀ {xs:List Str} {vs:List V},Dats K H (xs.map D.str) vs->vs=xs.map V.str
 | [],vs,h=>by rw [Dats.nilE h];rfl
 | x::xs,vs,h=>by
  obtain ⟨v,r,e,h1,h2⟩:=h.consE
  rw [e,h1.strE,vG h2]
  rfl
theorem AX (x y:Str):eqV (.str x) (.str y)=decide (x=y):=by
 unfold eqV
 by_cases h:x=y <;> simp [h]
theorem qK (x:Str):∀ ys:List Str,inV (.str x) (ys.map V.str)=decide (x ∈ ys)
 | []=>by simp [inV]
 | y::ys=>by
  have ih:=qK x ys
  unfold inV at ih ⊢
  rw [List.map_cons,List.any_cons,ih,AX]
  by_cases h:y=x
  ·subst h;simp
  ·have h':¬ x=y:=λz=>h z.symm
   simp [h,h']
theorem pG (ys:List Str):(ys.map V.str).all kK=true:=by
 rw [List.all_eq_true]
 intro v hv
 obtain ⟨y,_,rfl⟩:=List.mem_map.mp hv
 rfl
variable {x:Str} {ys:List Str}
theorem oq (h1:RE K ta σ H (.str x)) (h2:RE K tb σ H (.tup (ys.map D.str))):RE K (tOp (rIn K false) ta tb) σ H (.bl (decide (x ∈ ys))):=λH1 s Q q =>
 h1 H1 s _ λv H2 s2 q2=>h2 H2 (s.trans s2) _ λw H3 s3 q3=>by
  obtain ⟨a,vs,ev,hq,hd⟩:=q3.tupE
  have e:=vG hd
  subst e
  rw [q2.strE]
  refine ⟨a,_,ev,.inr hq,rfl,pG ys,?_⟩
  rw [qK]
  exact q _ _ (s2.trans s3) (Dat.blI _)
theorem xQ (h1:RE K ta σ H (.str x)) (h2:RE K tb σ H (.tup (ys.map D.str))):RE K (tOp (rIn K true) ta tb) σ H (.bl (!decide (x ∈ ys))):=λH1 s Q q =>
 h1 H1 s _ λv H2 s2 q2=>h2 H2 (s.trans s2) _ λw H3 s3 q3=>by
  obtain ⟨a,vs,ev,hq,hd⟩:=q3.tupE
  have e:=vG hd
  subst e
  rw [q2.strE]
  refine ⟨a,_,ev,.inr hq,rfl,pG ys,?_⟩
  rw [qK]
  exact q _ _ (s2.trans s3) (Dat.blI _)
theorem vc {y:Str} (h1:RE K ta σ H (.str x)) (h2:RE K tb σ H (.str y)):RE K (tOp rNe ta tb) σ H (.bl (!decide (x=y))):=λH1 s Q q =>
 h1 H1 s _ λv H2 s2 q2=>h2 H2 (s.trans s2) _ λw H3 s3 q3=>by
  rw [q2.strE,q3.strE]
  refine ⟨rfl,?_⟩
  have e:decide (V.str x=V.str y)=decide (x=y):=by by_cases z:x=y <;> simp [z]
  rw [e]
  exact q _ _ (s2.trans s3) (Dat.blI _)
end
section
variable {X:Cx}
theorem Bw {body:List Stmt} {t:TS} {h:ExceptHandler} {hs:List ExceptHandler} {pos:Pos} (hb:PSs X body t) (hx:X.xe=(λ_ _=>False):=by rfl):PS X (.Try body (h::hs) [] [] pos) t:=by
 intro pins s σ H D I q
 have w:=hb pins s σ H D I q
 rw [hx] at w
 refine wpAny_Try_except (wpAny_mono w (λf s1 hf=>?_) λe s1 z=>z.elim)
 cases f with
 | next =>
  obtain ⟨σ',H',I',q'⟩:=hf
  exact aR pins s1 σ' H' D I' q'
 | ret u=>exact hf
 | brk=>exact hf
 | cont=>exact hf
theorem zN:OpR X (compareOp .LtE) (λx y H Q=>∃ i j:Str,x=.str i/\y=.str j/\Q (.bl (!decide (j.cps.toList < i.cps.toList))) H):=by
 intro pins s σ H x y v u Q I rx ry h
 obtain ⟨i,j,rfl,rfl,q⟩:=h
 obtain ⟨t,rfl⟩:=rx
 obtain ⟨t',rfl⟩:=ry
 refine PySem.P.le_str ?_
 exact ⟨.bl _,H,I,rfl,q⟩
noncomputable def Its (x:Str):It:=⟨λi _=>i < x.cps.size,λi H v H'=>H'=H/\∃ c,x.cps[i]?=some c/\v=.str ⟨#[c]⟩,λi _=>i=x.cps.size⟩
theorem qj {P:Program} {w:World} {K:PySem.W.Frag} {tg:Expr} {it:Addr} {n:String} {x:Str} {t:Tok} (hn:["enumerate","zip","dict_itemiterator","dict_reverseitemiterator","odict_iterator","itertools.zip_longest","itertools.pairwise"].contains n=false)
  (W:∀ A:Around,A.handled=none->Walks P w A it [it] [it] x.cps.size (SignAt x) (λi h=>h.IsStrIter it n x t i))
  (self:∀ (A:Around) (i:Nat) (s:Shared) (Q:Value->Shared->Prop) (E:Value->Shared->Prop),s.heap.IsStrIter it n x t i->Q (.ref it) s->wpAny (model P w) A (pyIter (.ref it)) Q E s) :
  mx P w K tg (Its x) [it] it (λi h=>h.IsStrIter it n x t i) where
 mem:=by simp
 obj:=λi h st b hb=>by
  have e:b=it:=by simpa using hb
  subst e
  obtain ⟨o,e,c,d⟩:=st
  exact ⟨o,e,λv z=>by rw [d] at z;cases z⟩
 keep:=λi h h' st k=>by
  obtain ⟨o,e,r⟩:=st
  exact ⟨o,k it (by simp) o e,r⟩
 item:=by
  intro X hP hw hK hc i pins s σ H E I hf st hg
  subst hP hw hK
  obtain ⟨f0,f1,f2,f3,f4,f5⟩:=hf it (by simp)
  refine (W X.A (I.ok.hd hc)).item i s _ _ hg st λv h' tk hv st' kk=>?_
  obtain ⟨c,u,hx,rfl⟩:=hv
  have I1:Inv X pins σ H { s with heap:=h',toks:=tk }:=I.turned (λb o hb e=>kk b o (by simpa using hb) e) f0 f1 f3 f4 f5
  obtain ⟨o,e,cc,d⟩:=id st'
  exact ⟨_,rfl,sT (s:={ s with heap:=h',toks:=tk }) e cc d hn ⟨.str ⟨#[c]⟩,H,I1,⟨u,rfl⟩,⟨rfl,c,hx,rfl⟩,st',λb hb=>(hf b hb).1⟩⟩
 done:=by
  intro X hP hw hK hc i pins s σ H E I hf st hg
  subst hP hw hK
  obtain ⟨f0,f1,f2,f3,f4,f5⟩:=hf it (by simp)
  have hg':i=x.cps.size:=hg
  subst hg'
  exact (W X.A (I.ok.hd hc)).done s _ _ st λh' tk eb=>⟨rfl,I.turned (λb o hb e=>eb b o (by simpa using hb) e) f0 f1 f3 f4 f5⟩
 self:=self
variable {tg:Expr}
noncomputable def D6 (tl:TE):TI:=λσ H R=>tl σ H λv H1=>∃ x,v=.str x/\R (Its x) H1
theorem Dr {l:Expr} {tl:TE} (hl:PE X l tl):PI X tg l (D6 tl):=by
 intro pins s σ H R I h
 refine thn (hl pins s σ H _ I h) λv s1 ⟨xv,H1,I1,r1,q1⟩=>?_
 obtain ⟨x,e,q⟩:=q1
 subst e
 obtain ⟨t,rfl⟩:=r1
 have fin:∀ (o:Obj) (n:String),mx X.prog X.w X.K tg (Its x) [s1.heap.objs.size] s1.heap.objs.size (λi h=>h.IsStrIter s1.heap.objs.size n x t i)->(s1.heap.push o).IsStrIter s1.heap.objs.size n x t 0->PIE X pins σ tg R (.ref s1.heap.objs.size) { s1 with heap:=s1.heap.push o }:=by
  intro o n T st
  refine ⟨s1.heap.objs.size,[s1.heap.objs.size],_,_,H1,rfl,I1.kept (t':=s1.toks) λb o e=>Heap.get?_push_of_some _ e,T,st,λb hb=>?_,q⟩
  have e:b=s1.heap.objs.size:=by simpa using hb
  subst e
  exact I1.fpOk (Nat.le_refl _) (I1.hok.fresh (Nat.le_refl _))
 cases ha:x.cps.all (· < 128)
 ·exact wpAny_pyIter_wide ha (fin _ "str_iterator" (qj (by decide) (λA hA=>Walks.strWide hA _ x t) λA i s Q E st q=>wpAny_pyIter_striter_wide st q) ⟨_,Heap.get?_push_size _ rfl,rfl,rfl⟩)
 ·exact wpAny_pyIter_ascii ha (fin _ "str_ascii_iterator" (qj (by decide) (λA hA=>Walks.strAscii hA _ x t) λA i s Q E st q=>wpAny_pyIter_striter_ascii st q) ⟨_,Heap.get?_push_size _ rfl,rfl,rfl⟩)
theorem tT:OpR X (compareOp .NotIn) (λx y H Q=>∃ k a T,x=.str k/\y=.ref a/\jW X.K a T/\Q (.bl (!KTD.inKeys k T)) H):=by
 intro pins s σ H x y v u Q I rx ry h
 obtain ⟨k,a,T,ex,ey,t,q⟩:=h
 subst ex ey
 obtain ⟨tk,rfl⟩:=rx
 cases ry
 exact KTD.notin_text (h₀:=s.heap) ⟨t _ I.kIn,λ_ _ e=>e⟩ ⟨.bl _,H,I.tok _,rfl,q⟩
noncomputable def wy (K:PySem.W.Frag):R2:=λx y H Q=>∃ a k T z,x=.ref a/\y=.str k/\jW K a T/\(T.all λp=>KTD.plain p.2)=true/\KTD.datumAt k T=some (.flat (.str z))/\Q (.str z) H
theorem Bb:IxR X (wy X.K):=by
 intro value slice pins s σ H x y v u Q I rx ry h hs
 obtain ⟨a,k,T,z,ex,ey,t,hp,hd,q⟩:=h
 subst ex ey
 obtain ⟨tk,rfl⟩:=ry
 cases rx
 have hm:KTD.inKeys k T=true:=by rw [← KTD.isSome_datumAt,hd];rfl
 refine KTD.item_textA (h₀:=s.heap) ⟨t _ I.kIn,λ_ _ e=>e⟩ hp hm ?_ hs
 exact each T hd λt'=>⟨.str z,H,I.tok _,⟨t',rfl⟩,q⟩
where
 each {h:Heap} {k:Str} {P:Value->Prop} {z:Str}:∀ (T:List (Str × KTD.Dat)),KTD.datumAt k T=some (.flat (.str z))->(∀ t,P (.str z t))->KTD.EachL h k P T
  | [],hd,_=>by simp [KTD.datumAt] at hd
  | (x,d)::T,hd,hP=>by
   have hd':(if decide (k=x)=true then some d else KTD.datumAt k T)=some (.flat (.str z)):=hd
   by_cases hx:k=x
   ·rw [if_pos (decide_eq_true hx)] at hd'
    cases hd'
    exact KTD.eachL_hit hx (KTD.opened_str hP)
   ·rw [if_neg (by simp [hx])] at hd'
    exact KTD.eachL_miss hx (each T hd' hP)
noncomputable def wL (K:PySem.W.Frag) (td ty tx:TE):TE:=λσ H Q=>td σ H λx H1=>∃ a T,x=.ref a/\jW K a T/\ty σ H1 λy H2=>tx σ H2 λz H3=>∃ k i,y=.str k/\z=.int i/\(∀ p ∈ T,∃ j,p.2=.flat (.int j)) /\
 Q (.int (match KTD.datumAt k T with | some (.flat (.int j))=>j | _=>i)) H3
theorem xJ {o e f:Expr} {apos cpos:Pos} {td ty tx:TE} (ho:PE X o td) (he:PE X e ty) (hf:PE X f tx) (m:M2 X o "get" apos e f cpos):PE X (.Call (.Attribute o "get" apos) [e,f] [] cpos) (wL X.K td ty tx):=by
 intro pins s σ H Q I h
 refine wpAny_Call_method m.base m.few m.line PySem.F.plainAttrs_dict PySem.F.slot_dict_get PySem.F.type_dict_get (thn (ho pins s σ H _ I h) λu s1 ⟨x,H1,I1,rx,a,T,ex,tk,q1⟩=>?_)
 subst ex
 obtain rfl:u=Value.ref a:=rx
 have t1:=tk _ I1.kIn
 obtain ⟨lo,ob,es,ep,hob,hex,hdat,hrows⟩:=id t1
 refine ⟨⟨ob,hob,hex.1⟩,λb eb=>?_,?_⟩
 ·cases eb
  exact ⟨ob,hob,hex.2.1⟩
 rw [m.trees]
 refine Calls.callWith_builtin rfl (Calls.evalArgs_plain (Calls.spliced_cons (thn (he pins s1 σ H1 _ I1 q1) λiv s2 ⟨y,H2,I2,ry,q2⟩ =>
  Calls.spliced_cons (thn (hf pins s2 σ H2 _ I2 q2) λfv s3 ⟨z,H3,I3,rz,k,i,ey,ez,hT,q3⟩=>Calls.spliced_nil ?_))))
 subst ey ez
 obtain ⟨tok1,rfl⟩:=ry
 obtain ⟨tok2,rfl⟩:=rz
 refine KTD.get2_text (h₀:=s3.heap) ⟨tk _ I3.kIn,λ_ _ e=>e⟩ ?_
 have fin:∀ (D:List (Str × KTD.Dat)),(∀ p ∈ D,∃ j,p.2=.flat (.int j))->Q (.int (match KTD.datumAt k D with | some (.flat (.int j))=>j | _=>i)) H3 ->
   KTD.Each s3.heap k (λv=>EP X pins σ Q v { s3 with toks:=s3.toks+1 }) (EP X pins σ Q (.int i tok2) { s3 with toks:=s3.toks+1 }) D:=by
  intro D
  induction D with
  | nil=>intro _ q;exact KTD.each_nil ⟨.int i,H3,I3.tok _,⟨_,rfl⟩,q⟩
  | cons p D ih =>
   intro hD q
   obtain ⟨x,d⟩:=p
   obtain ⟨j,ej⟩:=hD (x,d) List.mem_cons_self
   have ej':d=.flat (.int j):=ej
   subst ej'
   have ed:KTD.datumAt k ((x,KTD.Dat.flat (.int j))::D)=if decide (k=x)=true then some (.flat (.int j)) else KTD.datumAt k D:=rfl
   rw [ed] at q
   by_cases hx:k=x
   ·rw [if_pos (decide_eq_true hx)] at q
    exact KTD.each_hit hx (KTD.opened_int λt=>⟨.int j,H3,I3.tok _,⟨t,rfl⟩,q⟩)
   ·rw [if_neg (by simp [hx])] at q
    exact KTD.each_miss hx (ih (λp hp=>hD p (List.mem_cons_of_mem _ hp)) q)
 exact fin T hT q3
end
structure yf (P:Program) (w:World) (K:PySem.W.Frag) (a:Addr) (ks:List Str):Prop where
 lk:∃ o,K.lookup a=some o
 tb:∀ h:Heap,K.In h->∃ D,StrTab P w h a D/\D.map (·.1)=ks.map PyData.str
noncomputable def Itk (ks:List Str):It:=⟨λi _=>i < ks.length,λi H v H'=>H'=H/\∃ k,ks[i]?=some k/\v=.str k,λi _=>i=ks.length⟩
variable {kvs:List (Str × Value)}
theorem xn {D:List (PyData × PyData)} {ks:List Str} (h:PyProof.V.FlatPairs PyData.str kvs D) (e:D.map (·.1)=ks.map PyData.str):kvs.map (·.1)=ks:=by
 induction h generalizing ks with
 | nil =>
  cases ks with
  | nil=>rfl
  | cons k ks=>simp at e
 | cons _ _ ih =>
  cases ks with
  | nil=>simp at e
  | cons k ks =>
   simp only [List.map_cons,List.cons.injEq] at e
   obtain ⟨e1,e2⟩:=e
   injection e1 with e1
   rw [List.map_cons,ih e2,← e1]
variable {it:Addr}
theorem Az {tg:Expr} {d:Addr} {ep:Nat} (hD:∀ h:Heap,K.In h->h.DictAt (strKind P w) d kvs ep) :
  mx P w K tg (Itk (kvs.map (·.1))) [it] it (λi h=>h.IsKeyIter it d i kvs.length ep) where
 mem:=by simp
 obj:=λi h st b hb=>by
  have e:b=it:=by simpa using hb
  subst e
  obtain ⟨o,e,c,d⟩:=st
  exact ⟨o,e,λv z=>by rw [d] at z;cases z⟩
 keep:=λi h h' st k=>by
  obtain ⟨o,e,r⟩:=st
  exact ⟨o,k it (by simp) o e,r⟩
 item:=by
  intro X hP hw hK hc i pins s σ H E I hf st hg
  subst hP hw hK
  obtain ⟨f0,f1,f2,f3,f4,f5⟩:=hf it (by simp)
  have hi:i < kvs.length:=by have z:i < (kvs.map (·.1)).length:=hg;simpa using z
  refine wpAny_pyNext_dict_item st (hD _ I.kIn) (List.getElem?_eq_getElem hi) λkey h' hk st' sb=>?_
  obtain ⟨t,rfl⟩:=Value.isStrOf_shape hk
  have I1:Inv X pins σ H { s with heap:=h' }:=I.turned (t':=s.toks) (λb o hb e=>(sb.2 b hb).trans e) f0 f1 f3 f4 f5
  refine ⟨_,rfl,PyProof.Rows.letGo_keyiter (s':={ s with heap:=h' }) st' ⟨.str (kvs[i]).1,H,I1,⟨t,rfl⟩,⟨rfl,(kvs[i]).1,?_,rfl⟩,st',λb hb=>(hf b hb).1⟩⟩
  rw [List.getElem?_map,List.getElem?_eq_getElem hi]
  rfl
 done:=by
  intro X hP hw hK hc i pins s σ H E I hf st hg
  subst hP hw hK
  obtain ⟨f0,f1,f2,f3,f4,f5⟩:=hf it (by simp)
  have hi:i=kvs.length:=by have z:i=(kvs.map (·.1)).length:=hg;simpa using z
  exact wpAny_pyNext_dict_end (I.ok.hd hc) st (hD _ I.kIn) (by simp [hi]) λh' eb=>⟨rfl,I.turned (t':=s.toks) (λb o hb e=>eb b o hb e) f0 f1 f3 f4 f5⟩
 self:=λA i s Q E st q=>wpAny_pyIter_keyiter st q
section
variable {X:Cx} {tg:Expr}
noncomputable def D7 (P:Program) (w:World) (K:PySem.W.Frag) (tl:TE):TI:=λσ H R=>tl σ H λv H1=>∃ a ks,v=.ref a/\yf P w K a ks/\R (Itk ks) H1
theorem Ds {l:Expr} {tl:TE} (hl:PE X l tl):PI X tg l (D7 X.prog X.w X.K tl):=by
 intro pins s σ H R I h
 refine thn (hl pins s σ H _ I h) λv s1 ⟨xv,H1,I1,r1,q1⟩=>?_
 obtain ⟨a,ks,e,hK,q⟩:=q1
 subst e
 cases r1
 obtain ⟨D,T,hD⟩:=hK.tb _ I1.kIn
 obtain ⟨o,ho⟩:=hK.lk
 obtain ⟨lo,kvs,hdo,hf⟩:=T
 obtain ⟨ep,hat⟩:=hdo.dictAt
 have ek:=xn hf hD
 subst ek
 have hall:∀ h:Heap,X.K.In h->h.DictAt (strKind X.prog X.w) a kvs ep:=λh x=>by
  obtain ⟨o',es,e1,r⟩:=hat
  have z:=I1.kIn _ _ ho
  rw [e1] at z
  cases z
  exact ⟨_,es,x _ _ ho,r⟩
 refine wpAny_pyIter_dict lo hat ?_
 refine ⟨s1.heap.objs.size,[s1.heap.objs.size],_,_,H1,rfl,I1.kept (t':=s1.toks) λb o e=>Heap.get?_push_of_some _ e,Az hall,⟨_,Heap.get?_push_size _ rfl,rfl,rfl⟩,λb hb=>?_,q⟩
 have e:b=s1.heap.objs.size:=by simpa using hb
 subst e
 exact I1.fpOk (Nat.le_refl _) (I1.hok.fresh (Nat.le_refl _))
end
noncomputable def RC (K:PySem.W.Frag) (t:TE) (σ:St) (H:Hp) (es:List D):Prop:=∀ H1,Same H H1->∀ Q:VK,(∀ l ys H',H1 l=none->Same H1 H'->H' l=some (.lst ys)->Dats K H' es ys->Q (.ref l) H')->t σ H1 Q
section
variable {K:PySem.W.Frag} {σ:St} {H H':Hp} {d d':D} {ds es:List D} {t u ta tb te tl:TE} {tt uu:TT} {tA:TA} {i j:Int} {b c:Bool} {mk:St->St} {jj:Nat}
theorem RC.mono (h:RC K t σ H es) (e:Same H H'):RC K t σ H' es:=λH1 s Q q=>h H1 (e.trans s) Q q
theorem RC.as (h:RC K t σ H es) (e:es=ds):RC K t σ H ds:=e ▸ h
theorem RC.use {Q:VK} (h:RC K t σ H es) (q:∀ l ys H',H l=none->Same H H'->H' l=some (.lst ys)->Dats K H' es ys->Q (.ref l) H'):t σ H Q:=h H (Same.refl H) Q q
theorem dW (h:RA K tA σ H es) (hl:es.length≤1000:=by simp):RC K (ui tA) σ H es:=λH1 s Q q =>
 ot (h.mono s) (λp vs H2 s2 hp hd=>q p vs _ (s2.free hp) (s2.trans (aG hp _)) aq ((aG hp _).dats hd)) hl
variable {cs:List D}
theorem lN (h:RE K tl σ H (.tup cs)) (hc:cs.length≤1000) (es:List D) (hl:es.length=cs.length) (h0:(mk σ).set jj none=mk σ)
  (turn:∀ H1 (i:Nat) c v d,Same H H1->cs[i]?=some c->es[i]?=some d->Dat K H1 c v->RE K te ((mk σ).set jj (some v)) H1 d):RC K (iA (C2 K tl) mk (cU jj) gE te) σ H es:=λH1 s Q q =>
 pZ (K:=K) (h.mono s) hc es hl h0 (λH2 i c v d s2=>turn H2 i c v d (s.trans s2)) (λl ys H2 hl s2 hy hd=>q l ys H2 hl s2 hy hd)
variable {x:Str}
theorem Dx (h:RE K tl σ H (.str x)) (hc:x.cps.size≤1000) (es:List D) (hl:es.length=x.cps.size) (h0:(mk σ).set jj none=mk σ)
  (turn:∀ H1 (i:Nat) c d,Same H H1->x.cps[i]?=some c->es[i]?=some d->RE K te ((mk σ).set jj (some (.str ⟨#[c]⟩))) H1 d):RC K (iA (D6 tl) mk (cU jj) gE te) σ H es:=λH1 s Q q=>by
 refine (h.mono s).use λv4 H4 s4 q4=>?_
 have e:=q4.strE
 subst e
 refine ⟨x,rfl,?_⟩
 refine iL (K:=K) (Q:=Q) (n:=x.cps.size) (item:=λi=>.str ⟨#[x.cps.getD i 0]⟩) (λi H' s hi=>⟨hi,λv H'' y=>⟨y.1,?_⟩⟩) (λH' s=>rfl) h0 es hl hc (λi d hi=>?_) (λl ys H5 hl5 s5=>q l ys H5 (s4.free hl5) (s4.trans s5))
 ·obtain ⟨_,c,hc,e⟩:=y
  rw [e,Array.getD_eq_getD_getElem?,hc]
  rfl
 ·have hi':i < es.length:=(List.getElem?_eq_some_iff.mp hi).1
  have hc:x.cps[i]?=some (x.cps.getD i 0):=by
   rw [Array.getD_eq_getD_getElem?,Array.getElem?_eq_getElem (by omega)]
   rfl
  exact turn H4 i _ d (s.trans s4) hc hi
variable {a:Addr}
theorem Dy {P:Program} {w:World} {ks:List Str} (hK:yf P w K a ks) (hc:ks.length≤1000) (es:List D) (hl:es.length=ks.length) (h0:(mk σ).set jj none=mk σ)
  (turn:∀ H1 (i:Nat) k d,Same H H1->ks[i]?=some k->es[i]?=some d->RE K te ((mk σ).set jj (some (.str k))) H1 d):RC K (iA (D7 P w K (tC (.ref a))) mk (cU jj) gE te) σ H es:=λH1 s Q q=>by
 refine ⟨a,ks,rfl,hK,?_⟩
 refine iL (K:=K) (Q:=Q) (n:=ks.length) (item:=λi=>.str (ks.getD i "")) (λi H' s hi=>⟨hi,λv H'' y=>⟨y.1,?_⟩⟩) (λH' s=>rfl) h0 es hl hc (λi d hi=>?_) q
 ·obtain ⟨_,k,hk,e⟩:=y
  rw [e,List.getD_eq_getElem?_getD,hk]
  rfl
 ·have hi':i < es.length:=(List.getElem?_eq_some_iff.mp hi).1
  have hk:ks[i]?=some (ks.getD i ""):=by
   rw [List.getD_eq_getElem?_getD,List.getElem?_eq_getElem (by omega)]
   rfl
  exact turn H1 i _ d s hk hi
theorem Bz (h:RC K tl σ H cs) (hc:cs.length≤1000) (es:List D) (hl:es.length=cs.length) (h0:(mk σ).set jj none=mk σ)
  (turn:∀ H1 (i:Nat) c v d,Same H H1->cs[i]?=some c->es[i]?=some d->Dat K H1 c v->RE K te ((mk σ).set jj (some v)) H1 d):RC K (iA (pK K tl) mk (cU jj) gE te) σ H es:=λH1 s Q q=>by
 refine (h.mono s).use λl4 ys4 H4 hl4 s4 hy4 hd4=>?_
 have ll:=hd4.length
 refine ⟨l4,rfl,⟨ys4,SqL.of hy4⟩,?_⟩
 refine iL (K:=K) (Q:=Q) (n:=ys4.length) (item:=λi=>ys4.getD i .non) (λi H' s hi=>qH i H' (SqL.of (s _ _ hy4)) hi) (λH' s=>⟨ys4,SqL.of (s _ _ hy4),Nat.le_refl _⟩) h0 es (by omega) (by omega) (λi d hi=>?_) (λl ys H5 hl5 s5=>q l ys H5 (s4.free hl5) (s4.trans s5))
 have hi':i < es.length:=(List.getElem?_eq_some_iff.mp hi).1
 have hic:i < cs.length:=by omega
 obtain ⟨vz,ez,hz⟩:=hd4.get (List.getElem?_eq_getElem hic)
 have q:=turn H4 i cs[i] vz d (s.trans s4) (List.getElem?_eq_getElem hic) hi hz
 rw [List.getD_eq_getElem?_getD,ez]
 exact q
theorem i8 {R:List D->List D->Prop} {E:XK} (h:RA K tA σ H ds) (e:R ds es):RC K (mr (iG K R) [] E tA) σ H es:=λH1 s Q q =>
 h H1 s _ λvs H2 s2 q2=>⟨ds,es,by rw [List.append_nil];exact q2,e,λr us H3 s3 hr hr0 hd=>q r us H3 (s2.free hr0) (s2.trans s3) hr hd⟩
theorem i9 {bs:List Bool} (h:RC K t σ H (bs.map D.bl)):RE K (tCB (λxs H Q=>∃ (l:Addr) (bs:List Bool),xs=[.ref l]/\SqL K H l (bs.map V.bl)/\Q (.bl (bs.all id)) H) (bR t dQ)) σ H (.bl (bs.all id)):=λH1 s Q q =>
 ip ((h.mono s).use λl ys H' _ s' hy hd=>⟨l,bs,rfl,by rw [← yL hd];exact SqL.of hy,q _ _ s' (Dat.blI _)⟩)
theorem BC {bs:List Bool} (h:RC K t σ H (bs.map D.bl)):RE K (tCB (λxs H Q=>∃ (l:Addr) (bs:List Bool),xs=[.ref l]/\SqL K H l (bs.map V.bl)/\Q (.bl (bs.any id)) H) (bR t dQ)) σ H (.bl (bs.any id)):=λH1 s Q q =>
 ip ((h.mono s).use λl ys H' _ s' hy hd=>⟨l,bs,rfl,by rw [← yL hd];exact SqL.of hy,q _ _ s' (Dat.blI _)⟩)
theorem p9 (h:RC K t σ H es):RE K (tCB (λxs H Q=>∃ p ys,xs=[.ref p]/\((SqL K H p ys/\∀ l,H l=none->Q (.ref l) (upd H l (.tup ys)))\/(SqT K H p ys/\Q (.ref p) H))) (bR t dQ)) σ H (.tup es):=λH1 s Q q =>
 ip ((h.mono s).use λl ys H' _ s' hy hd=>⟨l,ys,rfl,.inl ⟨SqL.of hy,λp hp=>q _ _ (s'.trans (aG hp _)) (Dat.tupI (SqT.of aq) ((aG hp _).dats hd))⟩⟩)
theorem xS (h:RE K t σ H (.tup es)):RE K (tCB (λxs H Q=>∃ p ys,xs=[.ref p]/\((SqL K H p ys/\∀ l,H l=none->Q (.ref l) (upd H l (.tup ys)))\/(SqT K H p ys/\Q (.ref p) H))) (bR t dQ)) σ H (.tup es):=λH1 s Q q =>
 ip ((h.mono s).use λv H' s' hd=>by
  obtain ⟨a,vs,e,hq,hds⟩:=hd.tupE
  subst e
  exact ⟨a,vs,rfl,.inr ⟨hq,q _ _ s' (Dat.tupI hq hds)⟩⟩)
theorem BF (h:RC K t σ H es):RE K (tCB (λxs H Q=>∃ p ys,xs=[.ref p]/\(SqL K H p ys\/SqT K H p ys)/\Q (.int ys.length) H) (bR t dQ)) σ H (.int es.length):=λH1 s Q q =>
 ip ((h.mono s).use λl ys H' _ s' hy hd=>⟨l,ys,rfl,.inl (SqL.of hy),by rw [← hd.length];exact q _ _ s' (Dat.intI _)⟩)
theorem BG (h:RE K t σ H (.str x)) (hx:x.length≤sizeLine):RE K (tCB (λxs H Q=>∃ z:Str,xs=[.str z]/\z.length≤sizeLine/\Q (.int z.length) H) (bR t dQ)) σ H (.int x.length):=λH1 s Q q =>
 ip ((h.mono s).use λv H' s' hd=>by
  rw [hd.strE]
  exact ⟨x,rfl,hx,q _ _ s' (Dat.intI _)⟩)
theorem eI {us:TS} {En:iV} {k:Nat} (h:RC K t σ H es) (q:∀ l ys H',H l=none->Same H H'->H' l=some (.lst ys)->Dats K H' es ys->us En (σ.set k (some (.ref l))) H'):kY (o4 t (cU k)) us En σ H:=h.use q
variable {z:Str}
theorem xN {tc:TE} {y:Str} {p q':Str->Str->Bool} (h1:RE K ta σ H (.str x)) (h2:RE K tb σ H (.str y)) (h3:p x y=true->RE K tc σ H (.str z)) :
  RE K (rO (λu v H Q=>∃ i j:Str,u=.str i/\v=.str j/\Q (.bl (p i j)) H) (λu v H Q=>∃ i j:Str,u=.str i/\v=.str j/\Q (.bl (q' i j)) H) ta tb tc) σ H (.bl (p x y && q' y z)):=λH1 s Q q =>
 h1 H1 s _ λv H2 s2 q2=>h2 H2 (s.trans s2) _ λw H3 s3 q3=>by
  refine ⟨x,y,q2.strE,q3.strE,p x y,rfl,?_⟩
  cases hp:p x y with
  | true =>
   simp only [if_true,Bool.true_and]
   exact h3 hp H3 (s.trans (s2.trans s3)) _ λz' H4 s4 q4=>⟨y,z,q3.strE,q4.strE,q _ _ (s2.trans (s3.trans s4)) (by rw [hp];exact Dat.blI _)⟩
  | false =>
   simp only [Bool.false_eq_true,if_false,Bool.false_and]
   exact q _ _ (s2.trans s3) (by rw [hp];exact Dat.blI _)
variable {T:List (Str × KTD.Dat)}
theorem ud {k:Str} (h:RE K t σ H (.str k)) (ht:jW K a T):RE K (tOp (λx y H Q=>∃ k a T,x=.str k/\y=.ref a/\jW K a T/\Q (.bl (!KTD.inKeys k T)) H) t (tC (.ref a))) σ H (.bl (!KTD.inKeys k T)):=λH1 s Q q =>
 h H1 s _ λv H2 s2 q2=>⟨k,a,T,q2.strE,rfl,ht,q _ _ s2 (Dat.blI _)⟩
theorem xO {k:Str} (h:RE K t σ H (.str k)) (ht:jW K a T) (hp:(T.all λp=>KTD.plain p.2)=true) (e:KTD.datumAt k T=some (.flat (.str z))):RE K (tOp (wy K) (tC (.ref a)) t) σ H (.str z):=λH1 s Q q =>
 h H1 s _ λv H2 s2 q2=>⟨a,k,T,z,rfl,q2.strE,ht,hp,e,q _ _ s2 (Dat.strI _)⟩
noncomputable def oC (k:Str) (T:List (Str × KTD.Dat)) (i:Int):Int:=match KTD.datumAt k T with | some (.flat (.int j))=>j | _=>i
theorem xR {k:Str} (ht:jW K a T) (h1:RE K ta σ H (.str k)) (h2:RE K tb σ H (.int i)) (hT:∀ p ∈ T,∃ j,p.2=.flat (.int j)):RE K (wL K (tC (.ref a)) ta tb) σ H (.int (oC k T i)):=λH1 s Q q =>
 ⟨a,T,rfl,ht,h1 H1 s _ λv H2 s2 q2=>h2 H2 (s.trans s2) _ λw H3 s3 q3=>⟨k,i,(s3.dat q2).strE,q3.intE,hT,q _ _ (s2.trans s3) (Dat.intI _)⟩⟩
variable {lo hi:Nat}
theorem AU {vs:List V}:mB vs (some (lo:Int)) (some (hi:Int))=(vs.drop lo).take (hi - lo):=by
 unfold mB
 rw [HT.sIx_nat,HT.sIx_nat]
 apply List.ext_getElem?
 intro i
 simp only [List.getElem?_take,List.getElem?_drop]
 by_cases h1:i < hi - lo
 ·rw [if_pos h1]
  by_cases h2:i < min hi vs.length - min lo vs.length
  ·rw [if_pos h2]
   congr 1
   omega
  ·rw [if_neg h2,List.getElem?_eq_none (by omega)]
 ·rw [if_neg h1,if_neg (by omega)]
theorem Dats.dropN:∀ {n:Nat} {ds:List D} {vs:List V},Dats K H ds vs->Dats K H (ds.drop n) (vs.drop n)
 | 0,_,_,h=>h
 | n+1,[],_,h=>by rw [h.nilE];exact Dats.nil
 | n+1,d::ds,_,h=>by
  obtain ⟨v,r,e,h1,h2⟩:=h.consE
  subst e
  exact Dats.dropN (n:=n) h2
theorem Dats.takeN:∀ {n:Nat} {ds:List D} {vs:List V},Dats K H ds vs->Dats K H (ds.take n) (vs.take n)
 | 0,_,_,h=>by rw [List.take_zero,List.take_zero];exact Dats.nil
 | n+1,[],_,h=>by rw [h.nilE];exact Dats.nil
 | n+1,d::ds,_,h=>by
  obtain ⟨v,r,e,h1,h2⟩:=h.consE
  subst e
  exact Dats.cons h1 (Dats.takeN (n:=n) h2)
theorem Dz (h:RE K t σ H (.tup ds)) (h1:RE K ta σ H (.int lo)) (h2:RE K tb σ H (.int hi)) (hl:1≤lo) (hd:0 < ds.length):RE K (tSl (Du K) t (uj ta) (uj tb)) σ H (.tup ((ds.drop lo).take (hi - lo))):=λH1 s Q q =>
 h H1 s _ λv H2 s2 q2=>h1 H2 (s.trans s2) _ λv3 H3 s3 q3=>⟨lo,q3.intE,h2 H3 (s.trans (s2.trans s3)) _ λv4 H4 s4 q4=>⟨hi,q4.intE,by
  obtain ⟨a,vs,ev,hq,hds⟩:=((s3.trans s4).dat q2).tupE
  have ll:=hds.length
  refine ⟨a,vs,ev,hq,λz=>?_,λp hp=>?_⟩
  ·rw [HT.sIx_nat] at z
   omega
  ·rw [AU]
   exact q _ _ (s2.trans (s3.trans (s4.trans (aG hp _)))) (Dat.tupI (SqT.of aq) ((aG hp _).dats (Dats.takeN (Dats.dropN hds))))⟩⟩
end
mutual
noncomputable def fN (K:PySem.W.Frag):D->Value->Bool
 | .non,u=>(match u with | .none=>true | _=>false)
 | .bl b,u=>(match u with | .bool c=>b == c | _=>false)
 | .int i,u=>(match u with | .int j _=>i == j | _=>false)
 | .str x,u=>(match u with | .str y _=>x == y | _=>false)
 | .tup ds,u=>(match u with | .ref a=>(match K.lookup a with | some ⟨.type "tuple",_,.seq its _,_⟩=>decide (its.size≤1000) && datsOk K ds its.toList | _=>false) | _=>false)
 | .lst,_=>false
noncomputable def datsOk (K:PySem.W.Frag):List D->List Value->Bool
 | [],us=>us.isEmpty
 | d::ds,us=>(match us with | u::r=>fN K d u && datsOk K ds r | []=>false)
end
mutual
variable {K:PySem.W.Frag}
theorem mj (H:Hp):∀ (d:D) (u:Value),fN K d u=true->∃ v,RelV v u/\Dat K H d v
 | .non,u,h=>by
  unfold fN at h
  cases u <;> first | (exact ⟨.non,rfl,Dat.nonI⟩) | cases h
 | .bl b,u,h=>by
  unfold fN at h
  cases u <;> first | cases h | skip
  rename_i c
  have e:b=c:=by simpa using h
  subst e
  exact ⟨.bl b,rfl,Dat.blI _⟩
 | .int i,u,h=>by
  unfold fN at h
  cases u <;> first | cases h | skip
  rename_i j t
  have e:i=j:=by simpa using h
  subst e
  exact ⟨.int i,⟨t,rfl⟩,Dat.intI _⟩
 | .str x,u,h=>by
  unfold fN at h
  cases u <;> first | cases h | skip
  rename_i y t
  have e:x=y:=by simpa using h
  subst e
  exact ⟨.str x,⟨t,rfl⟩,Dat.strI _⟩
 | .tup ds,u,h=>by
  unfold fN at h
  cases u <;> first | cases h | skip
  rename_i a
  dsimp only at h
  split at h
  ·rename_i od its n sl e
   rw [Bool.and_eq_true] at h
   obtain ⟨vs,r,hd⟩:=datsOk_sound H ds its.toList h.2
   refine ⟨.ref a,rfl,Dat.tupI (.inr ⟨_,its,n,e,rfl,rfl,?_,r⟩) hd⟩
   exact Nat.le_trans (of_decide_eq_true h.1) (by decide)
  ·cases h
 | .lst,u,h=>by unfold fN at h;cases h
theorem datsOk_sound (H:Hp):∀ (ds:List D) (us:List Value),datsOk K ds us=true->∃ vs,Vals vs us/\Dats K H ds vs
 | [],us,h=>by
  unfold datsOk at h
  cases us with
  | nil=>exact ⟨[],.nil,Dats.nil⟩
  | cons u r=>cases h
 | d::ds,us,h=>by
  unfold datsOk at h
  cases us with
  | nil=>cases h
  | cons u r =>
   dsimp only at h
   rw [Bool.and_eq_true] at h
   obtain ⟨v,r1,h1⟩:=mj H d u h.1
   obtain ⟨vs,r2,h2⟩:=datsOk_sound H ds r h.2
   exact ⟨v::vs,.cons r1 r2,Dats.cons h1 h2⟩
end
theorem EK (h:fN K (.tup ds) (.ref a)=true) (H:Hp):Dat K H (.tup ds) (.ref a):=by
 obtain ⟨v,r,hd⟩:=mj H _ _ h
 obtain ⟨b,vs,e,_⟩:=id hd.tupE
 subst e
 have z:Value.ref a=.ref b:=r
 cases z
 exact hd
theorem oo (h:fN K (.tup ds) (.ref a)=true):RE K (tC (.ref a)) σ H (.tup ds):=λH1 _ Q q=>q _ _ (Same.refl _) (EK h H1)
section
variable {X:Cx}
theorem yJ:h9 X (.type "range") (λxs H Q=>∃ n:Nat,xs=[.int n]/\∀ p,H p=none->Q (.ref p) (upd H p (.rng 0 n))):=by
 intro pins s σ H xs us Q I r h
 obtain ⟨n,rfl,q⟩:=h
 obtain ⟨u,rfl,ru⟩:=gH r
 obtain ⟨t,rfl⟩:=ru
 refine call_range_1 ⟨.ref s.heap.objs.size,_,I.laid (λb o e=>Heap.get?_push_of_some _ e) (Nat.le_refl _) (show ObjOk X.prog X.w _ _ _ (.rng 0 n) from ⟨_,_,_,Heap.get?_push_size _ rfl⟩),rfl,q _ (I.hok.fresh (Nat.le_refl _))⟩
theorem AE {n:Nat} {acc:Array Value} (h:ItemsOf (λi v=>∃ t,v=.int ((0:Int)+(i:Nat) * 1) t) acc n):Vals ((List.range n).map λi:Nat=>V.int i) acc.toList:=by
 obtain ⟨hs,hi⟩:=h
 have all:∀ (l:List Value) (k:Nat),(∀ (j:Nat) (v:Value),l[j]?=some v->∃ t,v=Value.int ((0:Int)+((k+j:Nat):Int) * 1) t)->Vals ((List.range' k l.length).map λi:Nat=>V.int i) l:=by
  intro l
  induction l with
  | nil=>intro k _;exact .nil
  | cons u l ih =>
   intro k hj
   rw [List.length_cons,List.range'_succ,List.map_cons]
   refine .cons ?_ (ih (k+1) λj v e=>?_)
   ·obtain ⟨t,e⟩:=hj 0 u rfl
    refine ⟨t,?_⟩
    rw [e]
    congr 1
    simp
   ·obtain ⟨t,e'⟩:=hj (j+1) v (by simpa using e)
    refine ⟨t,?_⟩
    rw [e']
    congr 1
    have:k+(j+1)=k+1+j:=by omega
    rw [this]
 have q:=all acc.toList 0 λj v e=>by
  rw [Nat.zero_add]
  exact hi j v (by simpa using e)
 rw [List.range_eq_range']
 rw [Array.length_toList,hs] at q
 exact q
theorem oO (hc:X.calm=true):h9 X (.type "list") (λxs H Q=>∃ (p:Addr) (n:Nat),xs=[.ref p]/\H p=some (.rng 0 n)/\n≤1000/\∀ l,H l=none->Q (.ref l) (upd H l (.lst ((List.range n).map λi:Nat=>V.int i)))):=by
 intro pins s σ H xs us Q I r h
 obtain ⟨p,n,rfl,hp,hn,q⟩:=h
 obtain ⟨u,rfl,rx⟩:=gH r
 cases rx
 obtain ⟨t,u,v,e⟩:=(show ObjOk X.prog X.w H s.heap p (.rng 0 n) from I.hok p _ hp)
 refine call_list_range (n:=n) (I.ok.hd hc) (show IsRange s.heap p 0 n 1 t u v from e) (small_one (by omega) (by omega) (by omega) (by omega)) ?_ (by omega) λh' tk acc' c' kp e' hacc=>?_
 ·rw [rangeSize_one]
  split <;> omega
 ·have hv:=AE hacc
  have hl:=hv.length
  refine ⟨.ref s.heap.objs.size,_,I.laid kp (Nat.le_refl _) (show ObjOk X.prog X.w _ h' _ (.lst _) from ⟨?_,acc'.toList,c',hv,by simpa using e'⟩),rfl,q _ (I.hok.fresh (Nat.le_refl _))⟩
  simp only [List.length_map,List.length_range]
  exact Nat.le_trans hn (by decide)
noncomputable def DP (K:PySem.W.Frag) (a:Addr) (xs:List V):Prop:=∃ (its:Array Value) (n:Nat),K.lookup a=some ⟨.type "list",none,.seq its n,#[]⟩/\its.size≤1000/\Vals xs its.toList
noncomputable def aLst (K:PySem.W.Frag) (H:Hp) (a:Addr) (xs:List V):Prop:=H a=some (.lst xs)\/DP K a xs
variable {H:Hp} {a:Addr} {xs:List V}
theorem aLst.sqL {K:PySem.W.Frag} (h:aLst K H a xs):SqL K H a xs:=by
 rcases h with h | ⟨its,n,e,hz,r⟩
 ·exact SqL.of h
 ·exact .inr ⟨_,its,n,e,rfl,rfl,rfl,Nat.le_trans hz (by decide),r⟩
theorem aLst.at {pins:List (Addr × Obj)} {σ:St} {s:Shared} (I:Inv X pins σ H s) (h:aLst X.K H a xs):∃ (its:List Value) (n:Nat),Vals xs its/\s.heap.get? a=some { cls:=.type "list",data:=.seq its.toArray n }:=by
 rcases h with h | ⟨its,n,e,hz,r⟩
 ·obtain ⟨z,its,n,r,hl,e⟩:=I.lstM h
  exact ⟨its,n,r,e⟩
 ·exact ⟨its.toList,n,r,by simpa using I.kIn _ _ e⟩
noncomputable def Cc (K:PySem.W.Frag):R2:=λx y H Q=>∃ l b xs zs,x=.ref l/\y=.ref b/\aLst K H l xs/\aLst K H b zs/\xs.length+zs.length≤1000/\∀ p,H p=none->Q (.ref p) (upd H p (.lst (xs++zs)))
theorem gJ:OpR X (binaryOp .Add) (Cc X.K):=by
 intro pins s σ H x y v u Q I rx ry h
 obtain ⟨l,b,xs,zs,rfl,rfl,hH,hB,hz,q⟩:=h
 cases rx
 cases ry
 obtain ⟨its,n,r,e⟩:=hH.at I
 obtain ⟨its2,n2,r2,e2⟩:=hB.at I
 have l1:=r.length
 have l2:=r2.length
 have hz':xs.length+zs.length≤sizeLine:=Nat.le_trans hz (by decide)
 refine PySem.P.add_list e e2 ?_ (by rw [List.size_toArray,List.size_toArray];omega)
 have ea:its.toArray++its2.toArray=(its++its2).toArray:=by simp
 rw [ea]
 exact ⟨.ref _,_,I.lnew (t':=s.toks) (r.append r2) (by rw [List.length_append];omega),rfl,q _ I.fresh⟩
end
section
variable {K:PySem.W.Frag} {σ:St} {H:Hp} {t:TE} {n:Nat}
noncomputable def nI (K:PySem.W.Frag) (ds:List D) (a:Addr):Bool:=match K.lookup a with
 | some ⟨.type "list",none,.seq its _,sl⟩=>decide (its.size≤1000) && (sl.isEmpty && datsOk K ds its.toList)
 | _=>false
theorem qP {K:PySem.W.Frag} {ds:List D} {a:Addr} (h:nI K ds a=true) (H:Hp):∃ vs,DP K a vs/\Dats K H ds vs:=by
 unfold nI at h
 split at h
 ·rename_i its n sl e
  rw [Bool.and_eq_true,Bool.and_eq_true] at h
  obtain ⟨vs,r,hd⟩:=datsOk_sound H ds its.toList h.2.2
  have es:sl=#[]:=by simpa using h.2.1
  subst es
  exact ⟨vs,⟨its,n,e,of_decide_eq_true h.1,r⟩,hd⟩
 ·cases h
theorem rq (h:RE K t σ H (.int n)) (hn:n≤1000):RC K (tCB (λxs H Q=>∃ (p:Addr) (n:Nat),xs=[.ref p]/\H p=some (.rng 0 n)/\n≤1000/\∀ l,H l=none->Q (.ref l) (upd H l (.lst ((List.range n).map λi:Nat=>V.int i))))
  (bR (tCB (λxs H Q=>∃ n:Nat,xs=[.int n]/\∀ p,H p=none->Q (.ref p) (upd H p (.rng 0 n))) (bR t dQ)) dQ)) σ H ((List.range n).map λi:Nat=>D.int i):=λH1 s Q q =>
 ip (ip ((h.mono s).use λv H2 s2 q2=>by
  rw [q2.intE]
  refine ⟨n,rfl,λp hp=>⟨p,n,rfl,aq,hn,λl hl=>?_⟩⟩
  have s3:=s2.trans ((aG hp (.rng 0 n)).trans (aG hl (.lst ((List.range n).map λi:Nat=>V.int i))))
  refine q l _ _ ((s2.trans (aG hp _)).free hl) s3 aq ?_
  have z:∀ m:List Nat,Dats K (upd (upd H2 p (.rng 0 n)) l (.lst ((List.range n).map λi:Nat=>V.int i))) (m.map λi:Nat=>D.int i) (m.map λi:Nat=>V.int i):=by
   intro m
   induction m with
   | nil=>exact Dats.nil
   | cons a m ih=>exact Dats.cons (Dat.intI _) ih
  exact z _))
end
structure Tri (l0 l1 l2:Addr) (H:Hp) (a b c:List V):Prop where
 h0:H l0=some (.lst a)
 h1:H l1=some (.lst b)
 h2:H l2=some (.lst c)
 n01:l0≠l1
 n02:l0≠l2
 n12:l1≠l2
noncomputable def But3 (l0 l1 l2:Addr) (H H':Hp):Prop:=∀ b o,b≠l0->b≠l1->b≠l2->H b=some o->H' b=some o
section
variable {K:PySem.W.Frag} {l0 l1 l2:Addr} {H H' H2:Hp} {a b c a' b' c':List V} {v:V}
theorem Same.but3 (e:Same H H'):But3 l0 l1 l2 H H':=λb o _ _ _ h=>e b o h
theorem But3.trans (x:But3 l0 l1 l2 H H') (y:But3 l0 l1 l2 H' H2):But3 l0 l1 l2 H H2:=λb o n0 n1 n2 h=>y b o n0 n1 n2 (x b o n0 n1 n2 h)
theorem Tri.same (t:Tri l0 l1 l2 H a b c) (e:Same H H'):Tri l0 l1 l2 H' a b c:=⟨e _ _ t.h0,e _ _ t.h1,e _ _ t.h2,t.n01,t.n02,t.n12⟩
theorem But3.grow (e:But3 l0 l1 l2 H H') (t:Tri l0 l1 l2 H a b c) (t':Tri l0 l1 l2 H' a' b' c'):cW K H H':=by
 have key:∀ (x:Addr) (o:HO),H x=some o->(∀ xs,o≠.lst xs)->H' x=some o:=λx o h ho =>
  e x o (λz=>by rw [z,t.h0] at h;cases h;exact ho _ rfl) (λz=>by rw [z,t.h1] at h;cases h;exact ho _ rfl) (λz=>by rw [z,t.h2] at h;cases h;exact ho _ rfl) h
 refine ⟨λx xs h=>?_,λx xs h=>?_⟩
 ·rcases h with (h | ⟨o,h⟩) | h
  ·exact .inl (.inl (key _ _ h (λ_ z=>by cases z)))
  ·exact .inl (.inr ⟨o,key _ _ h (λ_ z=>by cases z)⟩)
  ·exact .inr h
 ·by_cases z0:x=l0
  ·rw [z0];exact ⟨_,SqL.of t'.h0⟩
  by_cases z1:x=l1
  ·rw [z1];exact ⟨_,SqL.of t'.h1⟩
  by_cases z2:x=l2
  ·rw [z2];exact ⟨_,SqL.of t'.h2⟩
  refine ⟨xs,?_⟩
  rcases h with (h | ⟨o,h⟩) | h
  ·exact .inl (.inl (e _ _ z0 z1 z2 h))
  ·exact .inl (.inr ⟨o,e _ _ z0 z1 z2 h⟩)
  ·exact .inr h
theorem Tri.p0 (t:Tri l0 l1 l2 H a b c):Tri l0 l1 l2 (upd H l0 (.lst (a++[v]))) (a++[v]) (b++[]) (c++[])/\But3 l0 l1 l2 H (upd H l0 (.lst (a++[v]))):=by
 rw [List.append_nil,List.append_nil]
 exact ⟨⟨aq,by rw [aJ (Ne.symm t.n01)];exact t.h1,by rw [aJ (Ne.symm t.n02)];exact t.h2,t.n01,t.n02,t.n12⟩,λx o n0 _ _ h=>by rw [aJ n0];exact h⟩
theorem Tri.p1 (t:Tri l0 l1 l2 H a b c):Tri l0 l1 l2 (upd H l1 (.lst (b++[v]))) (a++[]) (b++[v]) (c++[])/\But3 l0 l1 l2 H (upd H l1 (.lst (b++[v]))):=by
 rw [List.append_nil,List.append_nil]
 exact ⟨⟨by rw [aJ t.n01];exact t.h0,aq,by rw [aJ (Ne.symm t.n12)];exact t.h2,t.n01,t.n02,t.n12⟩,λx o _ n1 _ h=>by rw [aJ n1];exact h⟩
theorem Tri.p2 (t:Tri l0 l1 l2 H a b c):Tri l0 l1 l2 (upd H l2 (.lst (c++[v]))) (a++[]) (b++[]) (c++[v])/\But3 l0 l1 l2 H (upd H l2 (.lst (c++[v]))):=by
 rw [List.append_nil,List.append_nil]
 exact ⟨⟨by rw [aJ t.n02];exact t.h0,by rw [aJ t.n12];exact t.h1,aq,t.n01,t.n02,t.n12⟩,λx o _ _ n2 h=>by rw [aJ n2];exact h⟩
theorem Tri.nil (t:Tri l0 l1 l2 H a b c):Tri l0 l1 l2 H (a++[]) (b++[]) (c++[]):=by
 rw [List.append_nil,List.append_nil,List.append_nil];exact t
variable {σ:St} {j:Nat} {l:Addr}
theorem gL {te:TE} {us:TS} {En:iV} {G:Hp} {xs:List V} {d:D} (h:RE K te σ G d) (hl:G l=some (.lst xs)) (hx:xs.length≤900)
  (q:∀ y G',But l G G'->G' l=some (.lst (xs++[y]))->Dat K G' d y->us En σ G') (hv:σ[j]?=some (some (.ref l)):=by rfl):kY (mw (tBM K "list" mQ (jl j) (bR te dQ))) us En σ G:=by
 refine ⟨_,hv,.inl ⟨rfl,_,SqL.of hl⟩,h.use λy H1 s1 q1=>?_⟩
 have hl1:=s1 _ _ hl
 refine ⟨l,xs,y,rfl,rfl,hl1,cx (by omega),?_⟩
 have b:But l H1 (upd H1 l (.lst (xs++[y]))):=But.upd (Same.refl _).but
 exact q y _ (s1.but.trans b) aq (Dat.mono (b.grow hl1 aq) _ q1)
theorem lP {f:Addr} {x:Str} {kvs:List (Key × V)} {ys:List V} {es:List D} (hf:H f=some (.dK kvs)) (hk:kr kvs (Sum.inr x)=some (.ref l)) (hl:H l=some (.lst ys)) (hd:Dats K H es ys) (hv:σ[j]?=some (some (.ref f)):=by rfl) :
  RE K (tCB (λxs H Q=>∃ p ys,xs=[.ref p]/\((SqL K H p ys/\∀ l,H l=none->Q (.ref l) (upd H l (.tup ys)))\/(SqT K H p ys/\Q (.ref p) H))) (bR (Co (jl j) (tC (.str x))) dQ)) σ H (.tup es):=λH1 s Q q =>
 ⟨_,hv,f,.ref l,rfl,by have g:=DGet.k (k:=Sum.inr x) (s _ _ hf);rw [hk] at g;exact g,l,ys,rfl,.inl ⟨SqL.of (s _ _ hl),λp hp=>q _ _ (aG hp _) (Dat.tupI (SqT.of aq) ((aG hp _).dats (s.dats hd)))⟩⟩
end
theorem qL:∀ {ns:List Int} {us:List Value},Vals (ns.map V.int) us->IntsAre us ns
 | [],us,h=>by cases h;exact .nil
 | n::ns,us,h=>by
  cases h with
  | cons r t =>
   obtain ⟨tk,rfl⟩:=r
   exact .cons n tk (qL t)
section
variable {X:Cx}
theorem sv (hc:X.calm=true):h9 X (.builtin "sum") (λxs H Q=>∃ (l:Addr) (ns:List Int),xs=[.ref l]/\SqL X.K H l (ns.map V.int)/\Q (.int ns.sum) H):=by
 intro pins s σ H xs us Q I r h
 obtain ⟨l,ns,rfl,hq,q⟩:=h
 obtain ⟨u,rfl,ru⟩:=gH r
 cases ru
 obtain ⟨its,rv,p,hz⟩:=I.list hq
 have hi:=qL rv
 obtain ⟨zs,hzs⟩:=hi.allInts.items
 refine sum_intListG (I.ok.hd hc) (show s.heap.IsList l (intItems zs) from hzs ▸ p.isList) λh' tk t' hk=>?_
 have a1:zs.toList.map (·.1)=ns:=by
  have z:=hi.numsOf
  rw [show its=(intItems zs).toList by rw [← hzs]] at z
  rw [← z,nums_intItems]
 have a2:preSum (numAt zs) zs.size=ns.sum:=by
  rw [preSum_eq,← a1,List.take_of_length_le (by simp)]
 rw [a2]
 exact ⟨.int ns.sum,H,I.kept (t':=tk) hk,⟨t',rfl⟩,q⟩
noncomputable def Itv (K:PySem.W.Frag) (a:Addr) (xs:List V):It:=⟨λi H=>i < xs.length/\SqL K H a xs,λi H x H'=>H'=H/\xs[xs.length - 1 - i]?=some x,λi _=>i=xs.length⟩
theorem Ay {P:Program} {w:World} {K:PySem.W.Frag} {tg:Expr} (a it:Addr) (xs:List V):mx P w K tg (Itv K a xs) [it] it (λi h=>h.IsRevIter it a ((xs.length:Int) - 1 - (i:Int))) where
 mem:=by simp
 obj:=λi h st b hb=>by
  have e:b=it:=by simpa using hb
  subst e
  obtain ⟨o,e,c,d⟩:=st
  exact ⟨o,e,λv z=>by rw [d] at z;cases z⟩
 keep:=λi h h' st k=>by
  obtain ⟨o,e,r⟩:=st
  exact ⟨o,k it (by simp) o e,r⟩
 item:=by
  intro X hP hw hK hc i pins s σ H E I hf st hg
  subst hP hw hK
  obtain ⟨hi,hq⟩:=hg
  obtain ⟨its,rv,p,hz⟩:=I.list hq
  obtain ⟨f0,f1,f2,f3,f4,f5⟩:=hf it (by simp)
  have lr:=rv.length
  have hx:xs[xs.length - 1 - i]?=some (xs[xs.length - 1 - i]'(by omega)):=List.getElem?_eq_getElem (by omega)
  obtain ⟨u,hu,ru⟩:=rv.get hx
  have e1:(xs.length:Int) - 1 - (i:Int)=((xs.length - 1 - i:Nat):Int):=by omega
  have st1:s.heap.IsRevIter it a ((xs.length - 1 - i:Nat):Int):=by rw [← e1];exact st
  refine wpAny_pyNext_rev_item st1 p.isList (x:=u) (by simpa using hu) λh' st' sb=>?_
  have e2:((xs.length - 1 - i:Nat):Int) - 1=(xs.length:Int) - 1 - ((i+1:Nat):Int):=by omega
  rw [e2] at st'
  have I1:Inv X pins σ H { s with heap:=h' }:=I.turned (t':=s.toks) (λb o hb e=>(sb.2 b hb).trans e) f0 f1 f3 f4 f5
  obtain ⟨o,e,c,d⟩:=id st'
  exact ⟨u,rfl,sT (s:={ s with heap:=h' }) e c d (by decide) ⟨_,H,I1,ru,⟨rfl,hx⟩,st',λb hb=>(hf b hb).1⟩⟩
 done:=by
  intro X hP hw hK hc i pins s σ H E I hf st hg
  subst hP hw hK
  obtain ⟨f0,f1,f2,f3,f4,f5⟩:=hf it (by simp)
  have hg':i=xs.length:=hg
  subst hg'
  have e1:(xs.length:Int) - 1 - (xs.length:Int)=-1:=by omega
  rw [e1] at st
  exact wpAny_pyNext_rev_end (I.ok.hd hc) st λh' eb=>⟨rfl,I.turned (t':=s.toks) (λb o hb e=>eb b o hb e) f0 f1 f3 f4 f5⟩
 self:=λA i s Q E st q=>wpAny_pyIter_revIter st q
variable {tg:Expr}
noncomputable def D5 (K:PySem.W.Frag) (ta:TA):TI:=λσ H R=>ta σ H λvs H1=>∃ a xs,vs=[.ref a]/\SqL K H1 a xs/\R (Itv K a xs) H1
theorem Dq {a:Expr} {ta:TA} {p pos:Pos} (hg:Gl X "reversed") (hm:X.mg "reversed"=none) (ha:PA X [a] ta) (hs:starEach [a] X.env=[(false,eval a X.env)]:=by rfl):PI X tg (.Call (.Name "reversed" p) [a] [] pos) (D5 X.K ta):=by
 intro pins s σ H R I h
 refine Call_ (jD I hg hm sk (PyProof.Rows.callWith_type1 (thn (ha pos pins s σ H _ I h) λus s1 ⟨vs,H1,I1,r1,q1⟩=>?_) hs rfl))
 obtain ⟨l,xs,e,hq,q⟩:=q1
 subst e
 obtain ⟨u,rfl,ru⟩:=gH r1
 cases ru
 obtain ⟨its,rv,pl,hz⟩:=I1.list hq
 have lr:=rv.length
 refine call_reversed_list pl.isList ?_
 have st:(s1.heap.push (revObj l ((its.toArray.size:Int) - 1))).IsRevIter s1.heap.objs.size l ((xs.length:Int) - 1 - ((0:Nat):Int)):=⟨_,Heap.get?_push_size _ rfl,rfl,by simp [revObj,lr]⟩
 refine wpAny_pyIter_revIter (s:={ s1 with heap:=s1.heap.push (revObj l ((its.toArray.size:Int) - 1)) }) st ?_
 refine ⟨s1.heap.objs.size,[s1.heap.objs.size],_,_,H1,rfl,I1.kept (t':=s1.toks) λb o e=>Heap.get?_push_of_some _ e,Ay l _ xs,st,λb hb=>?_,q⟩
 have e:b=s1.heap.objs.size:=by simpa using hb
 subst e
 exact I1.fpOk (Nat.le_refl _) (I1.hok.fresh (Nat.le_refl _))
end
noncomputable def met (f:Nat->Str) (i:Nat):List Str:=((List.range i).map f).foldl step_dedup []
theorem jH (f:Nat->Str) (i:Nat):met f (i+1)=step_dedup (met f i) (f i):=by unfold met;rw [List.range_succ,List.map_append,List.foldl_append];rfl
theorem qD (l:List Str) (x:Str):(step_dedup l x).length=if l.any (· == x) then l.length else l.length+1:=by unfold step_dedup;split <;> simp
theorem vM (l:List Str) (x y:Str):(step_dedup l x).any (· == y)=(l.any (· == y) || decide (y=x)):=by
 unfold step_dedup
 split
 ·rename_i h
  by_cases e:y=x
  ·subst e;rw [h];rfl
  ·rw [decide_eq_false e,Bool.or_false]
 ·rw [List.any_append]
  congr 1
  by_cases e:y=x
  ·subst e;simp
  ·have e':¬ x=y:=λz=>e z.symm
   simp [e,e']
theorem qQ (f:Nat->Str):∀ i,(met f i).length≤i
 | 0=>by simp [met]
 | i+1=>by rw [jH,qD];have:=qQ f i;split <;> omega
theorem AD {R:Result->Shared->Prop} {fp wr:List Addr} {G:Array GenState->Array GenState->Prop} {Pv:Nat->Value->Prop} {St:Nat->Shared->Prop}
  (W:WalksS P w A.in1 it fp wr G n Pv St) (sa:Addr) (nsa:sa ∉ fp) (f:Nat->Str) (hf:∀ i v,Pv i v->∃ t,v=.str (f i) t) (few:n+1 < scanBound) :
  ∀ (m i:Nat) (s:Shared),n - i=m->i≤n->St i s->s.heap.SetOf (strKind P w) sa (λy=>(met f i).any (· == y)) (met f i).length ->
   (∀ s',Moved (sa::wr) G s s'->s'.heap.SetOf (strKind P w) sa (λy=>(met f n).any (· == y)) (met f n).length->R (.ok (.ret .none)) s')->codeAny (model P w) A (.builtin "set.update.loop" ⟨[.ref sa,.ref it],[]⟩) R s:=by
 have nw:sa ∉ wr:=λz=>nsa (W.sub _ z)
 have more:∀ b ∈ wr,b ∈ sa::wr:=λb z=>List.mem_cons_of_mem _ z
 intro m
 induction m with
 | zero =>
  intro i s e1 e2 st so fin
  obtain rfl:i=n:=by omega
  refine codeAny_builtin PyProof.Rows.F.entry_set_update_loop ?_
  rw [Around.under_plainId PyProof.Rows.F.plain_set_update_loop _]
  show wpAny _ A.in1 (pyNext (.ref it) >>= _) _ _ s
  refine wpAny_bind (W.done s _ _ st λs2 mv=>?_)
  show wpAny _ A.in1 (ret Value.none) _ _ s2
  obtain ⟨o,es,ep,tb,g,rest⟩:=so
  exact wpAny_pure (fin s2 (mv.mono more) ⟨o,es,ep,tb,mv.heap sa _ nw g,rest⟩)
 | succ m ih =>
  intro i s e1 e2 st so fin
  have lt:i < n:=by omega
  refine codeAny_builtin PyProof.Rows.F.entry_set_update_loop ?_
  rw [Around.under_plainId PyProof.Rows.F.plain_set_update_loop _]
  show wpAny _ A.in1 (pyNext (.ref it) >>= _) _ _ s
  refine wpAny_bind (W.item i s _ _ lt st λv s2 pv st2 mv=>?_)
  obtain ⟨tk,rfl⟩:=hf i v pv
  have so2:s2.heap.SetOf (strKind P w) sa (λy=>(met f i).any (· == y)) (met f i).length:=let ⟨o,es,ep,tb,g,rest⟩:=so;⟨o,es,ep,tb,mv.heap sa _ nw g,rest⟩
  show wpAny _ A.in1 (holding [Value.str (f i) tk] (setAdd sa (.str (f i) tk)) >>= _) _ _ s2
  refine wpAny_bind (wpAny_holding ?_)
  unfold setAdd
  refine wpAny_holding (wpAny_bind ((strKind P w).pyHash (k:=f i) (strKind_is P w _ _) ?_))
  have rm:(met f i).length+1 < scanBound:=by have:=qQ f i;omega
  refine wpAny_setAddHashed_of (knd:=strKind P w) (s:={ s2 with toks:=s2.toks+1 }) (strKind_is P w _ _) rfl so2 rm λh' sb so3=>?_
  have so4:h'.SetOf (strKind P w) sa (λy=>(met f (i+1)).any (· == y)) (met f (i+1)).length:=SetOf_congr so3 (λy=>by rw [jH,vM]) (by rw [jH,qD])
  refine wpAny_pure ⟨plainId_quiet PyProof.Rows.F.plain_set_update_loop _,ih (i+1) _ (by omega) lt (W.frame _ s2 _ _ st2 (Nat.le_succ _) λb z o g=>?_) so4 λs3 mv3 so5=>?_⟩
  ·rw [sb.2 b (λq:b=sa=>nsa (by rw [← q];exact z))];exact g
  ·refine fin s3 (Moved.trans W.gtrans ((mv.mono more).then_heap (Nat.le_succ _) λb o z g=>?_) mv3) so5
   rw [sb.2 b (λq:b=sa=>z (by rw [q];exact List.mem_cons_self))];exact g
noncomputable abbrev rK (led:Bool):Obj:={ cls:=.type "set",dict:=none,data:=.set #[] 0 (.fresh 0 0 led) }
theorem xf {E:Value->Shared->Prop} {s:Shared} {items:Array Value} {f:Nat->Str} {Q:Value->Shared->Prop} (hh:A.handled=none) (hl:s.heap.IsList l items)
  (hi:∀ (i:Nat) (v:Value),items[i]?=some v->∃ t,v=.str (f i) t) (few:items.size+1 < scanBound)
  (fin:∀ (h':Heap) (tk:Nat),h'.SetOf (strKind P w) s.heap.objs.size (λy=>(met f items.size).any (· == y)) (met f items.size).length->(∀ b o,b < s.heap.objs.size->s.heap.get? b=some o->h'.get? b=some o)->Q (.ref s.heap.objs.size) { s with heap:=h',toks:=tk }) :
  wpAny (model P w) A (call (.type "set") [.ref l]) Q E s:=by
 obtain ⟨c,tl,mro⟩:=PySem.F.called_set.mro
 have made:=PySem.F.called_set.made
 have sub:=PySem.F.called_set.sub
 refine wpAny_call (codeAny_of_tree ?_)
 show wpAny _ _ (callAny (.type "set") _) _ _ _
 refine wpAny_pure ⟨Code.quiet_builtin _ (by decide +kernel),codeAny_builtin PySem.F.entry_type_call ?_⟩
 rw [Around.under_plain (weight_type_call_type "set" [.ref l] []) rfl]
 have k1:=PySem.F.called_set.notType
 have k2:=PySem.F.called_set.canCreate
 have k3:=PySem.F.typeCall_set_1 (.ref l)
 repeat (any_goals (first | assumption | wp_step))
 refine codeAny_mono (code_set_new_1 (.ref l) (E:=E) (Q₁:=λobj s1=>∃ led:Bool,obj=.ref s.heap.objs.size/\s1={ s with heap:=s.heap.push (rK led) }) λled=>⟨led,rfl,rfl⟩) λr s1 hr=>?_
 cases r with
 | error e=>exact hr
 | ok fl =>
  cases fl with
  | ret obj =>
   obtain ⟨led,rfl,rfl⟩:=hr
   have g0:(s.heap.push (rK led)).get? s.heap.objs.size=some (rK led):=Heap.get?_push_size _ rfl
   have ty:Shared.TypeIs { s with heap:=s.heap.push (rK led) } (.ref s.heap.objs.size) "set":=⟨_,g0,rfl⟩
   have k4:=PySem.F.called_set.init.lookup
   have k5:=PySem.F.called_set.init.bind (.ref s.heap.objs.size)
   repeat (any_goals (first | assumption | wp_step))
   refine codeAny_mono (codeAny_call_builtin (R:=wants (λr s2=>r=.none/\∃ h' tk,s2={ s with heap:=h',toks:=tk }/\h'.SetOf (strKind P w) s.heap.objs.size (λy=>(met f items.size).any (· == y)) (met f items.size).length /\
     (∀ b o,b < s.heap.objs.size->s.heap.get? b=some o->h'.get? b=some o)) E) PySem.F.called_set.init.plain PySem.F.entry_set_init (check_set_init_1 ty ?_)) λr2 s2 hr2=>?_
   ·obtain ⟨ol,g1,g2,nl,g3⟩:=hl
    obtain ⟨oc,od,ob,os⟩:=ol
    simp only at g2 g3
    subst g2;subst g3
    have g4:(s.heap.push (rK led)).get? l=some { cls:=.type "list",dict:=od,data:=.seq items nl,slots:=os }:=Heap.get?_push_of_some _ g1
    have m1:=PySem.F.sub_list_set
    have m2:=PySem.F.sub_list_frozenset
    have m3:(Value.type "list" == Value.type "dict")=false:=by decide
    have il:(s.heap.push (rK led)).IsList l items:=⟨_,g4,rfl,nl,rfl⟩
    unfold Builtin.«set.__init__» noKeywords Builtin.Frozenset.updateFrom
    generalize hPI:pyIter=PI
    wp_walk
    subst hPI
    refine wpAny_pyIter_list il (wpAny_bind (wpAny_runValue ?_))
    have ll:l < s.heap.objs.size:=Heap.lt_size g1
    have h3:A.in1.in1.in1.handled=none:=by simp [hh]
    have n1:l≠(s.heap.push (rK led)).objs.size:=by rw [Heap.size_push];exact Nat.ne_of_lt (Nat.lt_succ_of_lt ll)
    have n2:s.heap.objs.size ∉ [(s.heap.push (rK led)).objs.size,l]:=by rw [Heap.size_push];simp only [List.mem_cons,List.mem_singleton,List.not_mem_nil,or_false,not_or];exact ⟨Nat.ne_of_lt (Nat.lt_succ_self _),Nat.ne_of_gt ll⟩
    refine AD ((Walks.list h3 _ l n1 items).toS) s.heap.objs.size n2 f hi few (items.size - 0) 0 _ (by omega) (Nat.zero_le _) ⟨⟨_,Heap.get?_push_size _ rfl,rfl,rfl⟩,(il.push _)⟩ ?so ?fi
    case so=>exact SetOf_congr ((setObjOf_fresh (knd:=strKind P w) led).setOf (Heap.get?_push_of_some _ g0) (by unfold scanBound;omega)) (λ_=>rfl) rfl
    case fi =>
     intro s' mv so
     obtain ⟨h',g',d',tk',os'⟩:=s'
     obtain rfl:g'=s.gens:=mv.gens
     obtain rfl:d'=s.drawn:=mv.drawn
     obtain rfl:os'=s.os:=mv.os
     show wpAny _ _ _ _ _ _
     refine wpAny_pure ?_
     show wpAny _ _ (ret Value.none) _ _ _
     refine wpAny_pure ⟨rfl,h',tk',rfl,so,λb o z g=>?_⟩
     have z1:b≠s.heap.objs.size:=Nat.ne_of_lt z
     have z2:b≠(s.heap.push (rK led)).objs.size:=by rw [Heap.size_push];exact Nat.ne_of_lt (Nat.lt_succ_of_lt z)
     exact mv.heap b o (by simp only [List.mem_cons,List.mem_singleton,List.not_mem_nil,or_false,not_or];exact ⟨z1,z2⟩) (Heap.get?_push_of_some _ (Heap.get?_push_of_some _ g))
   ·cases r2 with
    | error e=>exact hr2
    | ok fl2 =>
     cases fl2 with
     | ret r =>
      obtain ⟨rfl,h',tk,rfl,so,kp⟩:=hr2
      repeat (any_goals (first | assumption | wp_step))
      exact fin _ _ so kp
     | _=>exact hr2.elim
  | _=>exact hr.elim
noncomputable def vj (a:Addr) (n:Nat) (h:Heap):Prop:=∃ o es ep t,h.get? a=some o/\o.ExactSet/\o.data=.set es ep t/\t.fits es.size=true/\es.size=n
section
variable {X:Cx}
theorem wJ:∀ {zs:List Str} {us:List Value} (i:Nat) (v:Value),Vals (zs.map V.str) us->us[i]?=some v->∃ t,v=.str (zs.getD i "") t
 | [],us,i,v,h,e=>by cases h;simp at e
 | z::zs,us,i,v,h,e=>by
  cases h with
  | cons r t =>
   obtain ⟨tk,rfl⟩:=r
   cases i with
   | zero =>
    have e':Value.str z tk=v:=by simpa using e
    exact ⟨tk,e'.symm⟩
   | succ i =>
    obtain ⟨t',e'⟩:=wJ (zs:=zs) i v t (by simpa using e)
    exact ⟨t',by simpa using e'⟩
noncomputable def qC (zs:List Str):Nat:=(met (λi=>zs.getD i "") zs.length).length
theorem xg (hc:X.calm=true):h9 X (.type "set") (λxs H Q=>∃ (l:Addr) (zs:List Str),xs=[.ref l]/\SqL X.K H l (zs.map V.str)/\zs.length≤100/\∀ p,H p=none->Q (.ref p) (upd H p (.ext (vj p (qC zs))))):=by
 intro pins s σ H xs us Q I r h
 obtain ⟨l,zs,rfl,hq,hz,q⟩:=h
 obtain ⟨u,rfl,ru⟩:=gH r
 cases ru
 obtain ⟨its,rv,p,_⟩:=I.list hq
 have lr:=rv.length
 rw [List.length_map] at lr
 refine xf (f:=λi=>zs.getD i "") (I.ok.hd hc) p.isList (λi v e=>wJ i v rv (by simpa using e)) (by unfold scanBound;simp;omega) λh' tk so kp=>?_
 have so':vj s.heap.objs.size (qC zs) h':=by
  obtain ⟨o,es,ep,t,a1,a2,a3,_,_,_,a4,a5⟩:=so
  refine ⟨o,es,ep,t,a1,a2,a3,a4,?_⟩
  rw [a5]
  unfold qC
  rw [lr]
  simp
 refine ⟨.ref s.heap.objs.size,_,I.laid (t':=tk) (λb o e=>kp b o (Heap.lt_size e) e) (Nat.le_refl _) (show ObjOk X.prog X.w _ h' _ (.ext (vj s.heap.objs.size (qC zs))) from ⟨so',?_,λh1 h2 z k=>?_⟩),rfl,q _ (I.hok.fresh (Nat.le_refl _))⟩
 ·obtain ⟨o,_,_,_,a1,_⟩:=so'
  exact ⟨o,a1⟩
 ·obtain ⟨o,es,ep,t,a1,rest⟩:=z
  exact ⟨o,es,ep,t,k _ a1,rest⟩
theorem su:h9 X (.builtin "len") (λxs H Q=>∃ (p:Addr) (n:Nat),xs=[.ref p]/\H p=some (.ext (vj p n))/\n≤1000/\Q (.int n) H):=by
 intro pins s σ H xs us Q I r h
 obtain ⟨p,n,rfl,hp,hn,q⟩:=h
 obtain ⟨u,rfl,ru⟩:=gH r
 cases ru
 obtain ⟨⟨o,es,ep,t,a1,a2,a3,a4,a5⟩,_⟩:=(show ObjOk X.prog X.w H s.heap p (.ext (vj p n)) from I.hok p _ hp)
 subst a5
 exact call_len_set a1 a2 a3 a4 (by omega) ⟨.int (es.size:Nat),H,I.tok _,⟨_,rfl⟩,q⟩
end
theorem Same.aLst (e:Same H H') (h:aLst K H a xs):aLst K H' a xs:=h.elim (λz=>.inl (e _ _ z)) .inr
noncomputable def LD (K:PySem.W.Frag) (H:Hp) (ds:List D) (v:V):Prop:=∃ a vs,v=.ref a/\aLst K H a vs/\Dats K H ds vs
theorem Same.ld (e:Same H H') (h:LD K H ds v):LD K H' ds v:=by
 obtain ⟨a,vs,e1,h1,h2⟩:=h
 exact ⟨a,vs,e1,e.aLst h1,e.dats h2⟩
theorem LD.lst (h:LD K H ds v):Dat K H .lst v:=by
 obtain ⟨a,vs,rfl,h1,_⟩:=h
 exact Dat.lstI h1.sqL
theorem LD.of (h:H a=some (.lst vs)) (hd:Dats K H ds vs):LD K H ds (.ref a):=⟨a,vs,rfl,.inl h,hd⟩
inductive Ar where
 | d (x:D)
 | l (ds:List D)
noncomputable def ArI (K:PySem.W.Frag) (H:Hp):Ar->V->Prop
 | .d x,v=>Dat K H x v
 | .l ds,v=>LD K H ds v
inductive Ars (K:PySem.W.Frag) (H:Hp):List Ar->List V->Prop
 | nil:Ars K H [] []
 | cons {a v as vs}:ArI K H a v->Ars K H as vs->Ars K H (a::as) (v::vs)
theorem Same.ari {a:Ar} (e:Same H H') (h:ArI K H a v):ArI K H' a v:=by
 cases a with
 | d x=>exact e.dat h
 | l ds=>exact e.ld h
theorem Ars.length {as:List Ar} (h:Ars K H as vs):as.length=vs.length:=by
 induction h with
 | nil=>rfl
 | cons _ _ ih=>simp [ih]
theorem CH {a:Ar} (h:Ars K H [a] vs):∃ u,vs=[u]/\ArI K H a u:=by
 cases h with
 | cons h1 h2=>cases h2;exact ⟨_,rfl,h1⟩
variable {b:Ar}
theorem qt {a:Ar} (h:Ars K H [a,b] vs):∃ u v,vs=[u,v]/\ArI K H a u/\ArI K H b v:=by
 cases h with
 | cons h1 h2=>obtain ⟨v,rfl,q⟩:=CH h2;exact ⟨_,v,rfl,h1,q⟩
variable {c:Ar}
theorem yu {a:Ar} (h:Ars K H [a,b,c] vs):∃ u v w,vs=[u,v,w]/\ArI K H a u/\ArI K H b v/\ArI K H c w:=by
 cases h with
 | cons h1 h2=>obtain ⟨v,w,rfl,q,q'⟩:=qt h2;exact ⟨_,v,w,rfl,h1,q,q'⟩
theorem wV {a d:Ar} (h:Ars K H [a,b,c,d] vs):∃ u v w x,vs=[u,v,w,x]/\ArI K H a u/\ArI K H b v/\ArI K H c w/\ArI K H d x:=by
 cases h with
 | cons h1 h2=>obtain ⟨v,w,x,rfl,q,q',q''⟩:=yu h2;exact ⟨_,v,w,x,rfl,h1,q,q',q''⟩
noncomputable def spA (K:PySem.W.Frag) (R:List Ar->D->Prop):Sp:=λvs H Q _=>∃ as d,Ars K H as vs/\R as d/\∀ v H',Same H H'->Dat K H' d v->Q v H'
noncomputable def gR (K:PySem.W.Frag) (R:List Ar->List D->Prop):Sp:=λvs H Q _=>∃ as es,Ars K H as vs/\R as es/\∀ r us H',Same H H'->H' r=some (.lst us)->H r=none->Dats K H' es us->Q (.ref r) H'
noncomputable def RL (K:PySem.W.Frag) (t:TE) (σ:St) (H:Hp) (ds:List D):Prop:=∀ H1,Same H H1->∀ Q:VK,(∀ v H',Same H1 H'->LD K H' ds v->Q v H')->t σ H1 Q
noncomputable def RB (K:PySem.W.Frag) (t:TA) (σ:St) (H:Hp) (as:List Ar):Prop:=∀ H1,Same H H1->∀ Q:List V->Hp->Prop,(∀ vs H',Same H1 H'->Ars K H' as vs->Q vs H')->t σ H1 Q
section
variable {K:PySem.W.Frag} {σ:St} {H H':Hp} {d d':D} {ds es:List D} {t u ta tb te tl:TE} {tt uu:TT} {tA:TA} {i j:Int} {b c:Bool} {mk:St->St} {jj:Nat} {ar:List Ar}
theorem RL.mono (h:RL K t σ H es) (e:Same H H'):RL K t σ H' es:=λH1 s Q q=>h H1 (e.trans s) Q q
theorem RL.use {Q:VK} (h:RL K t σ H es) (q:∀ v H',Same H H'->LD K H' es v->Q v H'):t σ H Q:=h H (Same.refl H) Q q
theorem bF:RB K dQ σ H []:=λH1 _ Q q=>q _ _ (Same.refl _) .nil
theorem bY (h:RE K t σ H d) (r:RB K tA σ H ar):RB K (bR t tA) σ H (.d d::ar):=λH1 s Q q =>
 h H1 s _ λv H2 s2 q2=>r H2 (s.trans s2) _ λvs H3 s3 q3=>q _ _ (s2.trans s3) (.cons (s3.ari (a:=.d d) q2) q3)
theorem bS (h:RL K t σ H ds) (r:RB K tA σ H ar):RB K (bR t tA) σ H (.l ds::ar):=λH1 s Q q =>
 h H1 s _ λv H2 s2 q2=>r H2 (s.trans s2) _ λvs H3 s3 q3=>q _ _ (s2.trans s3) (.cons (s3.ari (a:=.l ds) q2) q3)
variable {v:V}
theorem aF {k:Nat} (h:LD K H ds v) (e:σ[k]?=some (some v):=by rfl):RL K (jl k) σ H ds:=λH1 s Q q=>⟨v,e,q _ _ (Same.refl _) (s.ld h)⟩
theorem dI (h:RC K t σ H es):RL K t σ H es:=λH1 s Q q=>h H1 s _ λl ys H' _ s' hy hd=>q _ _ s' (LD.of hy hd)
theorem DB {a:Addr} (h:nI K ds a=true):RL K (tC (.ref a)) σ H ds:=λH1 _ Q q=>by
 obtain ⟨vs,h1,h2⟩:=qP h H1
 exact q _ _ (Same.refl _) ⟨a,vs,rfl,.inr h1,h2⟩
variable {E:XK}
theorem bK {R:List Ar->D->Prop} (h:RB K tA σ H ar) (e:R ar d):RE K (mr (spA K R) [] E tA) σ H d:=λH1 s Q q =>
 h H1 s _ λvs H2 s2 q2=>⟨ar,d,by rw [List.append_nil];exact q2,e,λv H3 s3 q3=>q _ _ (s2.trans s3) q3⟩
theorem cD {R:List Ar->List D->Prop} (h:RB K tA σ H ar) (e:R ar es):RC K (mr (gR K R) [] E tA) σ H es:=λH1 s Q q =>
 h H1 s _ λvs H2 s2 q2=>⟨ar,es,by rw [List.append_nil];exact q2,e,λr us H3 s3 hr hr0 hd=>q r us H3 (s2.free hr0) (s2.trans s3) hr hd⟩
theorem fH {k:Nat} (h1:RL K ta σ H ds) (h2:RE K tb σ H (.int k)) (e:ds[k]?=some d):RE K (tOp (zZ K) ta tb) σ H d:=λH1 s Q q =>
 h1 H1 s _ λv H2 s2 q2=>h2 H2 (s.trans s2) _ λw H3 s3 q3=>by
  obtain ⟨a,vs,ev,hq,hd⟩:=s3.ld q2
  obtain ⟨x,ex,hx⟩:=hd.get e
  exact ⟨a,vs,k,x,ev,q3.intE,hq.sqL,ia ex,q _ _ (s2.trans s3) hx⟩
theorem Dats.snocE {b:D}:∀ {as:List D} {vs:List V},Dats K H (as++[b]) vs->∃ us v,vs=us++[v]/\Dats K H as us/\Dat K H b v
 | [],vs,h=>by
  obtain ⟨v,rfl,q⟩:=gC h
  exact ⟨[],v,rfl,Dats.nil,q⟩
 | a::as,vs,h=>by
  obtain ⟨v,r,rfl,h1,h2⟩:=h.consE
  obtain ⟨us,w,rfl,q1,q2⟩:=Dats.snocE (as:=as) h2
  exact ⟨v::us,w,rfl,Dats.cons h1 q1,q2⟩
theorem p6 (h1:RL K ta σ H (ds++[d])) (h2:RE K tb σ H (.int (-1))):RE K (tOp (zZ K) ta tb) σ H d:=λH1 s Q q =>
 h1 H1 s _ λv H2 s2 q2=>h2 H2 (s.trans s2) _ λw H3 s3 q3=>by
  obtain ⟨a,vs,ev,hq,hd⟩:=s3.ld q2
  obtain ⟨us,x,rfl,hu,hx⟩:=hd.snocE
  exact ⟨a,_,-1,x,ev,q3.intE,hq.sqL,yv us x,q _ _ (s2.trans s3) hx⟩
theorem fY (h:RL K t σ H es):RE K (tCB (λxs H Q=>∃ p ys,xs=[.ref p]/\(SqL K H p ys\/SqT K H p ys)/\Q (.int ys.length) H) (bR t dQ)) σ H (.int es.length):=λH1 s Q q =>
 ip ((h.mono s).use λv H' s' hd=>by
  obtain ⟨l,ys,rfl,hy,hd⟩:=hd
  exact ⟨l,ys,rfl,.inl hy.sqL,by rw [← hd.length];exact q _ _ s' (Dat.intI _)⟩)
theorem yM:∀ {ns:List Int} {vs:List V},Dats K H (ns.map D.int) vs->vs=ns.map V.int
 | [],vs,h=>by rw [Dats.nilE h];rfl
 | n::ns,vs,h=>by
  obtain ⟨v,r,e,h1,h2⟩:=h.consE
  rw [e,h1.intE,yM h2]
  rfl
theorem wC {ns:List Int} (h:RL K t σ H (ns.map D.int)):RE K (tCB (λxs H Q=>∃ (l:Addr) (ns:List Int),xs=[.ref l]/\SqL K H l (ns.map V.int)/\Q (.int ns.sum) H) (bR t dQ)) σ H (.int ns.sum):=λH1 s Q q =>
 ip ((h.mono s).use λv H' s' hd=>by
  obtain ⟨l,ys,rfl,hy,hd⟩:=hd
  exact ⟨l,ns,rfl,by rw [← yM hd];exact hy.sqL,q _ _ s' (Dat.intI _)⟩)
noncomputable def isN:D->Bool
 | .non=>true
 | _=>false
theorem vW (h:Dat K H d v):decide (v=.non)=isN d:=by
 cases d with
 | non=>rw [h.nonE];rfl
 | bl b=>rw [h.blE];rfl
 | int i=>rw [h.intE];rfl
 | str x=>rw [h.strE];rfl
 | tup ds=>obtain ⟨a,vs,e,_⟩:=h.tupE;rw [e];rfl
 | lst=>obtain ⟨a,vs,e,_⟩:=h.lstE;rw [e];rfl
theorem rC (h:RE K ta σ H d):RE K (tOp (λx y H Q=>y=.non/\Q (.bl (decide (x=.non))) H) ta (tC .non)) σ H (.bl (isN d)):=λH1 s Q q =>
 h H1 s _ λv H2 s2 q2=>⟨rfl,by rw [vW q2];exact q _ _ s2 (Dat.blI _)⟩
theorem wB (h:RE K ta σ H d):RE K (tOp (λx y H Q=>y=.non/\Q (.bl (!decide (x=.non))) H) ta (tC .non)) σ H (.bl (!isN d)):=λH1 s Q q =>
 h H1 s _ λv H2 s2 q2=>⟨rfl,by rw [vW q2];exact q _ _ s2 (Dat.blI _)⟩
theorem fG {cs:List D} (h:RL K tl σ H cs) (hc:cs.length≤1000) (es:List D) (hl:es.length=cs.length) (h0:(mk σ).set jj none=mk σ)
  (turn:∀ H1 (i:Nat) c v d,Same H H1->cs[i]?=some c->es[i]?=some d->Dat K H1 c v->RE K te ((mk σ).set jj (some v)) H1 d):RC K (iA (pK K tl) mk (cU jj) gE te) σ H es:=λH1 s Q q=>by
 refine (h.mono s).use λv4 H4 s4 q4=>?_
 obtain ⟨l4,ys4,rfl,hy4,hd4⟩:=q4
 have ll:=hd4.length
 refine ⟨l4,rfl,⟨ys4,hy4.sqL⟩,?_⟩
 refine iL (K:=K) (Q:=Q) (n:=ys4.length) (item:=λi=>ys4.getD i .non) (λi H' s hi=>qH i H' (s.seq hy4.sqL) hi) (λH' s=>⟨ys4,s.seq hy4.sqL,Nat.le_refl _⟩) h0 es (by omega) (by omega) (λi d hi=>?_) (λl ys H5 hl5 s5=>q l ys H5 (s4.free hl5) (s4.trans s5))
 have hi':i < es.length:=(List.getElem?_eq_some_iff.mp hi).1
 have hic:i < cs.length:=by omega
 obtain ⟨vz,ez,hz⟩:=hd4.get (List.getElem?_eq_getElem hic)
 have q:=turn H4 i cs[i] vz d (s.trans s4) (List.getElem?_eq_getElem hic) hi hz
 rw [List.getD_eq_getElem?_getD,ez]
 exact q
theorem gK (h1:RL K ta σ H ds) (h2:RL K tb σ H es) (hl:ds.length+es.length≤1000):RC K (tOp (Cc K) ta tb) σ H (ds++es):=λH1 s Q q =>
 h1 H1 s _ λv H2 s2 q2=>h2 H2 (s.trans s2) _ λw H3 s3 q3=>by
  obtain ⟨a,xs,rfl,ha,da⟩:=s3.ld q2
  obtain ⟨b,ys,rfl,hb,db⟩:=q3
  have l1:=da.length
  have l2:=db.length
  exact ⟨a,b,xs,ys,rfl,rfl,ha,hb,by omega,λp hp=>q p _ _ ((s2.trans s3).free hp) (s2.trans (s3.trans (aG hp _))) aq ((aG hp _).dats (Dats.append da db))⟩
variable {n:Nat}
theorem CP {vs:List V}:mB vs none (some (n:Int))=vs.take n:=by
 unfold mB
 rw [HT.sIx_nat,HT.sIx_none]
 simp only [List.drop_zero,Nat.sub_zero]
 apply List.ext_getElem?
 intro i
 simp only [List.getElem?_take]
 by_cases h1:i < n
 ·rw [if_pos h1]
  by_cases h2:i < min n vs.length
  ·rw [if_pos h2]
  ·rw [if_neg h2,List.getElem?_eq_none (by omega)]
 ·rw [if_neg h1,if_neg (by omega)]
theorem Ah (h:RL K t σ H ds) (h2:RE K tb σ H (.int n)):RC K (tSl (Dt K) t rP (uj tb)) σ H (ds.take n):=λH1 s Q q =>
 h H1 s _ λv H2 s2 q2=>h2 H2 (s.trans s2) _ λv4 H4 s4 q4=>⟨n,q4.intE,by
  obtain ⟨a,vs,rfl,hq,hds⟩:=s4.ld q2
  refine ⟨a,vs,rfl,hq.sqL,λp hp=>?_⟩
  rw [CP]
  exact q p _ _ ((s2.trans s4).free hp) (s2.trans (s4.trans (aG hp _))) aq ((aG hp _).dats (Dats.takeN hds))⟩
end
section
variable {K:PySem.W.Frag} {σ:St} {H H':Hp} {d d':D} {ds es:List D} {t u ta tb te tl:TE}
theorem xP {zs:List Str} (h:RC K t σ H (zs.map D.str)) (hz:zs.length≤100):RE K (tCB (λxs H Q=>∃ (p:Addr) (n:Nat),xs=[.ref p]/\H p=some (.ext (vj p n))/\n≤1000/\Q (.int n) H)
  (bR (tCB (λxs H Q=>∃ (l:Addr) (zs:List Str),xs=[.ref l]/\SqL K H l (zs.map V.str)/\zs.length≤100/\∀ p,H p=none->Q (.ref p) (upd H p (.ext (vj p (qC zs))))) (bR t dQ)) dQ)) σ H (.int (qC zs)):=λH1 s Q q =>
 ip (ip ((h.mono s).use λl ys H2 _ s2 hy hd=>by
  refine ⟨l,zs,rfl,by rw [← vG hd];exact SqL.of hy,hz,λp hp=>⟨p,qC zs,rfl,aq,?_,q _ _ (s2.trans (aG hp _)) (Dat.intI _)⟩⟩
  have:=qQ (λi=>zs.getD i "") zs.length
  unfold qC
  omega))
theorem vN (zs:List Str):∀ i,i≤zs.length->((∀ y,(met (λi=>zs.getD i "") i).any (· == y)=decide (y ∈ zs.take i))/\((met (λi=>zs.getD i "") i).length=i↔(zs.take i).Nodup))
 | 0,_=>⟨λy=>by simp [met],by simp [met]⟩
 | i+1,h=>by
  obtain ⟨i1,i2⟩:=vN zs i (by omega)
  have hle:=qQ (λi=>zs.getD i "") i
  have hi:i < zs.length:=h
  have et:zs.take (i+1)=zs.take i++[zs[i]]:=by rw [List.take_add_one,List.getElem?_eq_getElem hi];rfl
  have eg:zs.getD i ""=zs[i]:=by rw [List.getD_eq_getElem?_getD,List.getElem?_eq_getElem hi];rfl
  refine ⟨λy=>?_,?_⟩
  ·rw [jH,vM,i1,et]
   simp only [eg,List.mem_append,List.mem_singleton]
   by_cases h1:y ∈ zs.take i <;> by_cases h2:y=zs[i] <;> simp [h1,h2]
  ·rw [jH,qD,i1,et]
   simp only [eg]
   rw [List.nodup_append]
   by_cases hm:zs[i] ∈ zs.take i
   ·rw [if_pos (decide_eq_true hm)]
    constructor
    ·intro z;omega
    ·rintro ⟨_,_,z⟩
     exact absurd rfl (z _ hm _ (List.mem_singleton.mpr rfl))
   ·rw [if_neg (by simpa using hm)]
    constructor
    ·intro z
     refine ⟨i2.mp (by omega),by simp,?_⟩
     rintro a ha b hb rfl
     rw [List.mem_singleton.mp hb] at ha
     exact hm ha
    ·rintro ⟨z,_⟩
     have:=i2.mpr z
     omega
theorem AW (zs:List Str):qC zs=zs.length↔zs.Nodup:=by
 have h:=(vN zs zs.length (Nat.le_refl _)).2
 rw [List.take_length] at h
 exact h
end
noncomputable def mS (K:PySem.W.Frag):V->List V->Hp->VK->Prop:=λx vs H Q=>∃ l xs y ds d j,x=.ref l/\vs=[y]/\aLst K H l xs/\Dats K H ds xs/\Dat K H d y/\noLs ds=true/\noL d=true/\deepDs ds≤20/\xs.length≤1000 /\
 (∃ e,ds[j]?=some e/\eqD e d=true)/\(∀ (m:Nat) e,m < j->ds[m]?=some e->eqD e d=false)/\Q (.int (j:Nat)) H
section
variable {X:Cx}
theorem xB {k:Nat} (hr:Room k X.A):MtM X "list.index" (mS X.K):=by
 intro pins s σ H x vs v us Q I rx rv h
 obtain ⟨l,xs,y,ds,d,j,rfl,rfl,hH,hds,hd,n1,n2,dp,hx,⟨e0,he0,hit⟩,hno,q⟩:=h
 cases rx
 obtain ⟨u,rfl,ru⟩:=gH rv
 obtain ⟨its,n,r,e⟩:=hH.at I
 have hl:=r.length
 have ll:=hds.length
 have item:∀ (m:Nat) (w:Value),its[m]?=some w->∃ g,ds[m]?=some g/\∃ xv,RelV xv w/\Dat X.K H g xv:=λm w hw=>by
  have hm:m < its.length:=(List.getElem?_eq_some_iff.mp hw).1
  obtain ⟨g,hg,dg⟩:=hds.getV (i:=m) (v:=xs[m]'(by omega)) (List.getElem?_eq_getElem (by omega))
  obtain ⟨w',hw',rr⟩:=r.get (i:=m) (x:=xs[m]'(by omega)) (List.getElem?_eq_getElem (by omega))
  rw [hw] at hw'
  cases hw'
  exact ⟨g,hg,_,rr,dg⟩
 have relInj:∀ {x1 x2:V} {w:Value},RelV x1 w->RelV x2 w->x1=x2:=λ{x1 x2 w} h1 h2=>RelV.inj h1 h2
 classical
 let eq:Value->Bool:=λw=>if hw:∃ m:Nat,its[m]?=some w then (match ds[Classical.choose hw]? with | some g=>eqD g d | none=>false) else false
 have eqAt:∀ (m:Nat) (w:Value) (g:D),its[m]?=some w->ds[m]?=some g->eq w=eqD g d:=λm w g hw hg=>by
  have hw':∃ m:Nat,its[m]?=some w:=⟨m,hw⟩
  show (if hw:∃ m:Nat,its[m]?=some w then _ else false)=_
  rw [dif_pos hw']
  have hc:=Classical.choose_spec hw'
  obtain ⟨g',hg',xv',r1,d1⟩:=item _ w hc
  obtain ⟨g2,hg2,xv,r2,d2⟩:=item m w hw
  rw [hg] at hg2
  cases hg2
  rw [hg']
  have ex:=relInj r1 r2
  subst ex
  have:=mK I g' g (fC n1 hg') d1 d2 (fC n1 hg)
  rw [this]
 have hj:j < ds.length:=(List.getElem?_eq_some_iff.mp he0).1
 have hu:X.A.in1.units+20+1 < cLine:=by
  have:=hr.un
  show X.A.units+1+20+1 < cLine
  omega
 refine call_meets PySem.F.slot_list_index ⟨_,e,rfl⟩ PySem.F.entry_list_index (PySem.F.args_list_index_2 _ _) (SeqAt.list_indexAt l its.toArray n none #[] u eq j (by simp;omega) (by omega) ?_ ?_) ⟨e,?_,?_⟩
 ·have hw:its[j]?=some (its[j]'(by omega)):=List.getElem?_eq_getElem (by omega)
  have:=eqAt j _ e0 hw he0
  simpa [this] using hit
 ·intro m hm hmj
  have hm':m < its.length:=by simpa using hm
  have hw:its[m]?=some (its[m]'hm'):=List.getElem?_eq_getElem hm'
  obtain ⟨g,hg,_⟩:=item m _ hw
  have:=eqAt m _ g hw hg
  simpa [this] using hno m g hmj hg
 ·intro w hw
  obtain ⟨m,hm,rfl⟩:=Array.getElem_of_mem hw
  have hm':m < its.length:=by simpa using hm
  have hw2:its[m]?=some (its[m]'hm'):=List.getElem?_eq_getElem hm'
  obtain ⟨g,hg,xv,r1,d1⟩:=item m _ hw2
  have z1:its.toArray[m]=its[m]'hm':=by simp
  rw [z1,eqAt m _ g hw2 hg]
  exact qE I 20 X.A.in1 g d xv y _ u hu (Nat.le_trans (iX hg) dp) (fC n1 hg) n2 d1 hd r1 ru
 ·exact ⟨.int (j:Nat),H,I.tok _,⟨_,rfl⟩,q⟩
theorem pP {k:Nat} (hr:Room k X.A):MtR X "list.index" (mS X.K):=xB hr
end
section
variable {K:PySem.W.Frag} {σ:St} {H:Hp} {te:TE}
theorem ub {k j:Nat} {v:V} {ds:List D} {d:D} (hv:LD K H ds v) (h:RE K te σ H d) (n1:noLs ds=true) (n2:noL d=true) (dp:deepDs ds≤20) (hl:ds.length≤1000) (h1:∃ e,ds[j]?=some e/\eqD e d=true) (h2:∀ (m:Nat) e,m < j->ds[m]?=some e->eqD e d=false) (e:σ[k]?=some (some v):=by rfl) :
  RE K (tBM K "list" (mS K) (jl k) (bR te dQ)) σ H (.int (j:Nat)):=λH1 s Q q=>by
 obtain ⟨a,vs,rfl,hq,hd⟩:=s.ld hv
 have ll:=hd.length
 refine ⟨_,e,.inl ⟨rfl,_,hq.sqL⟩,h H1 s _ λy H2 s2 q2=>?_⟩
 exact ⟨a,vs,y,ds,d,j,rfl,rfl,s2.aLst hq,s2.dats hd,q2,n1,n2,dp,by omega,h1,h2,q _ _ s2 (Dat.intI _)⟩
end
theorem A2 {g:TG} {tb:TS} {D:iV} (Pv:Nat->St->Hp->Prop) (h0:Pv 0 σ H) (hl:∀ i σ H,i≤xs.length->Pv i σ H->SqL K H a xs)
  (hs:∀ i x σ H,i < xs.length->xs[xs.length - 1 - i]?=some x->Pv i σ H->g x σ H λσ2 H2=>tb { D with nx:=Pv (i+1),ct:=Pv (i+1),bk:=D.nx } σ2 H2) (hd:∀ σ H,Pv xs.length σ H->D.nx σ H) :
  ∃ W:Nat->Nat->St->Hp->Prop,(∃ m,W 0 m σ H)/\∀ i m σ H,W i m σ H ->
   ((Itv K a xs).stop i H/\D.nx σ H)\/((Itv K a xs).go i H/\∃ N:St->Hp->Prop,(∀ σ' H',N σ' H'->∃ m',m' < m/\W (i+1) m' σ' H')/\∀ x H',(Itv K a xs).yld i H x H'->g x σ H' λσ2 H2=>tb { D with nx:=N,ct:=N,bk:=D.nx } σ2 H2):=by
 refine ⟨λi m σ H=>m=xs.length - i/\i≤xs.length/\Pv i σ H,⟨xs.length,by simp,Nat.zero_le _,h0⟩,?_⟩
 rintro i m σ H ⟨rfl,hi,p⟩
 have q:=hl i σ H hi p
 by_cases hlt:i < xs.length
 ·refine .inr ⟨⟨hlt,q⟩,Pv (i+1),λσ' H' p'=>⟨xs.length - (i+1),by omega,rfl,hlt,p'⟩,λx H' y=>?_⟩
  obtain ⟨e,y⟩:=y
  subst e
  exact hs i x σ _ hlt y p
 ·have e:i=xs.length:=by omega
  subst e
  exact .inl ⟨rfl,hd σ H p⟩
theorem mh (Ok:Hp->Prop)
  (go:∀ i H',Ok H'->i < n->J.go i H'/\∀ x H'',J.yld i H' x H''->H''=H'/\x=item i) (stop:∀ H',Ok H'->J.stop n H') (h0:σ0.set j none=σ0)
  (D:Addr) (Pn:Nat->Hp->Prop) (p0:Pn 0 (upd H1 D (.lst []))) (ok:∀ i H',i≤n->Pn i H'->Ok H')
  (turn:∀ i H',i < n->Pn i H'->tt (σ0.set j (some (item i))) H' λb H3=>if b=true then te (σ0.set j (some (item i))) H3 λv H4=>∃ ys,H4 D=some (.lst ys)/\ys.length < sizeLine/\(∃ z,σ0.set j (some (item i))=σ0.set j z)/\Pn (i+1) (upd H4 D (.lst (ys++[v]))) else (∃ z,σ0.set j (some (item i))=σ0.set j z)/\Pn (i+1) H3)
  (fin:∀ H',Pn n H'->Q (.ref D) H') :
  ∃ W:Nat->Nat->St->Hp->Prop,(∃ m,W 0 m σ0 (upd H1 D (.lst [])))/\∀ i m σ' H',W i m σ' H' ->
   (J.stop i H'/\Q (.ref D) H') \/
   (J.go i H'/\∃ Nx:St->Hp->Prop,(∀ σ'' H'',Nx σ'' H''->∃ m',m' < m/\W (i+1) m' σ'' H'')/\∀ x H'',J.yld i H' x H''->cU j x σ' H'' λσ2 H2=>tt σ2 H2 λb H3 =>
    if b=true then te σ2 H3 λv H4=>∃ ys,H4 D=some (.lst ys)/\ys.length < sizeLine/\Nx σ2 (upd H4 D (.lst (ys++[v]))) else Nx σ2 H3):=by
 refine ⟨λi m σ' H'=>m=n - i/\i≤n/\(∃ z,σ'=σ0.set j z)/\Pn i H',⟨n,by omega,Nat.zero_le _,⟨none,h0.symm⟩,p0⟩,?_⟩
 rintro i m σ' H' ⟨rfl,hi,⟨z,rfl⟩,p⟩
 have o:=ok i H' hi p
 by_cases hlt:i < n
 ·obtain ⟨g,y⟩:=go i H' o hlt
  refine .inr ⟨g,λσ'' H''=>(∃ z,σ''=σ0.set j z)/\Pn (i+1) H'',λσ'' H'' q=>⟨n - (i+1),by omega,rfl,hlt,q.1,q.2⟩,λx H'' yx=>?_⟩
  obtain ⟨e1,e2⟩:=y x H'' yx
  subst e1 e2
  simp only [cU,kX]
  exact turn i _ hlt p
 ·have e:i=n:=by omega
  subst e
  exact .inl ⟨stop H' o,fin H' p⟩
theorem Dn {o:Expr} {to:TE} {name:Str} {apos cpos:Pos} {T id:String} {r:V->List V->Hp->VK->Prop} (K:PySem.W.Frag) (hK:X.K=K) (pa:PlainAttrs T) (slot:Slot T name id) (hty:typeOf (.builtin id)=pure (.type "method_descriptor")) (hm:MtR X id r) (ho:PE X o to) (ha:PA X (e::es) t)
  (hbase:attributeBase o name X.env (eval o X.env)=eval o X.env:=by rfl)
  (hfew:((backTo cpos (starEach (e::es) X.env)).all (λx=>!x.1) && (backToKw cpos (keywordEach [] X.env)).all (λx=>x.1.isSome)
   && decide ((e::es).length+([]:List Keyword).length+(if ([]:List Keyword).isEmpty then 0 else 1) < 30))=true:=by rfl)
  (hline:(apos.endLine == cpos.line)=true:=by rfl) (hs:starEach (e::es) X.env=(false,eval e X.env)::starEach es X.env:=by rfl) (hplain:(backTo cpos (starEach es X.env)).any (·.1)=false:=by rfl) :
  PE X (.Call (.Attribute o name apos) (e::es) [] cpos) (tBM K T r to t):=by
 subst hK
 exact dq pa slot hty hm ho ha hbase hfew hline hs hplain
theorem bB (a b:D) (r q:List D):eqDs (a::r) (b::q)=(eqD a b && eqDs r q):=by rw [eqDs]
theorem bX:eqDs [] []=true:=by rw [eqDs]
theorem bW (b:D) (q:List D):eqDs [] (b::q)=false:=by unfold eqDs;rfl
theorem bV (a:D) (r:List D):eqDs (a::r) []=false:=by unfold eqDs;rfl
theorem cI (a b:List D):eqD (.tup a) (.tup b)=eqDs a b:=by rw [eqD]
theorem cH (a b:Str):eqD (.str a) (.str b)=decide (a=b):=by
 unfold eqD
 by_cases h:a=b <;> simp [h]
theorem cG (a b:Int):eqD (.int a) (.int b)=decide (a=b):=by
 unfold eqD
 by_cases h:a=b <;> simp [h]
theorem ua (M:Addr->List V->Hp->Prop) (h:∀ R:VK,(∀ r us H1,H1 r=some (.lst us)->M r us H1->R (.ref r) H1)->tl σ H R) (h0:(mk σ).set j none=mk σ)
  (body:∀ r us H1 l,H1 r=some (.lst us)->M r us H1->H1 l=none->∃ Pn:Nat->Hp->Prop,Pn 0 (upd H1 l (.lst []))/\(∀ i G,i≤us.length->Pn i G->SqL K G r us) /\
   (∀ i G,i < us.length->Pn i G->tt ((mk σ).set j (some (us.getD i .non))) G λb H3=>if b=true then te ((mk σ).set j (some (us.getD i .non))) H3 λv H4=>∃ ys,H4 l=some (.lst ys)/\ys.length < sizeLine/\(∃ z,(mk σ).set j (some (us.getD i .non))=(mk σ).set j z)/\Pn (i+1) (upd H4 l (.lst (ys++[v]))) else (∃ z,(mk σ).set j (some (us.getD i .non))=(mk σ).set j z)/\Pn (i+1) H3) /\
   ∀ G,Pn us.length G->Q (.ref l) G):iA (pK K tl) mk (cU j) tt te σ H Q:=by
 refine h _ λr us H1 hr hM=>⟨r,rfl,⟨us,SqL.of hr⟩,λl hl=>?_⟩
 obtain ⟨Pn,b1,b2,b3,b4⟩:=body r us H1 l hr hM hl
 exact mh (J:=Itl K r) (n:=us.length) (item:=λi=>us.getD i .non) (λG=>SqL K G r us) (λi G o hi=>qH i G o hi) (λG o=>⟨us,o,Nat.le_refl _⟩) h0 l Pn b1 b2 b3 b4
section
variable {P:Program} {w:World} {H H':Hp} {h h1 h2:Heap} {a b T:Addr} {o:HO} {fs:List Addr}
end
section
variable {X:Cx} {pins:List (Addr × Obj)} {σ:St} {H:Hp} {s s':Shared} {E:XK} {e:Value}
end
section
variable {X:Cx} {CX:CXT} {k:Nat} {f C:Addr} {fd:FuncData} {ps:List Str} {sp:Sp} {dvs:List V} {ds:List Value} {E:St->XK} {x m:Str} {p pos apos:Pos} {e o:Expr} {es:List Expr} {ta:TE} {t:TA}
end
section
variable {X:Cx} {pins pins':List (Addr × Obj)} {σ:St} {H:Hp} {s:Shared} {xe:Value->Shared->Prop} {e:Value}
end
end L2
namespace L2
open PySem PySem.Spec PySem.Calls PyProof.Rows PySem.W PySem.Builtin PySem.Builtin.ObjectAttr PySem.Builtin.Getset_descriptor
section
variable {prog:Program} {w:World} {A:Around} {E:Value->Shared->Prop} {s:Shared} {K:Frag} {x D:Addr} {ox:Obj} {od:Option Obj} {name:Str}
end
section
variable {X:Cx} {pins:List (Addr × Obj)} {σ:St} {H H':Hp} {s s2:Shared} {a:Addr} {o:HO}
end
end L2
namespace L2
open PySem PySem.Spec PySem.Calls PyProof.Rows
section
variable {P:Program} {w:World} {K:PySem.W.Frag} {mg:Str->Option Value} {base:Heap}
end
section
variable {X:Cx} {k:Nat} {f:Addr} {fd:FuncData} {ps:List Str} {sp:Sp} {dvs:List V} {ds:List Value} {E:XK} {x:Str} {p pos:Pos} {e:Expr} {es:List Expr} {t:TA}
end
section
variable {X:Cx}
end
section
variable {P:Program} {w:World} {K:PySem.W.Frag} {mg:Str->Option Value} {base:Heap}
end
section
variable {X:Cx} {CX:CXT} {k:Nat} {f C:Addr} {fd:FuncData} {ps ks:List Str} {sp:Sp} {E:St->XK} {x m:Str} {p pos apos kpos:Pos} {e o:Expr} {es:List Expr} {kws:List Keyword} {te ta:TE} {t tk:TA} {nm:Option Str} {g:List Value->List Value->List Value} {gV:List V->List V->List V}
end
section
variable {K:PySem.W.Frag} {σ:St} {H:Hp} {tA tK:TA} {ds es fs:List D} {d e:D} {dvs:List V} {R:List D->D->Prop} {B:List D->Addr->Prop} {E:XK} {Q:VK} {C:Addr} {gV:List V->List V->List V} {ta tb:TE}
end
section
variable {X:Cx}
end
end L2
namespace L2
open PySem PySem.Spec PySem.Calls PyProof.Rows PySem.W PySem.Builtin PySem.Builtin.ObjectAttr
section
variable {prog:Program} {w:World} {A:Around} {E:Value->Shared->Prop} {K:Frag} {C fI:Addr} {us:List Value}
end
section
variable {h:Heap} {x b:Addr} {o:Obj} {vs:Array Value}
end
section
variable {prog:Program} {w:World} {A:Around} {E:Value->Shared->Prop} {s:Shared} {K:Frag} {x C:Addr} {ox:Obj} {name:Str} {v:Value} {vs:Array Value}
end
section
variable {X:Cx} {pins:List (Addr × Obj)} {σ:St} {H:Hp} {s s':Shared} {C fI e:Addr} {fd:FuncData} {k:Nat} {ps:List Str} {a0:Value}
end
end L2
namespace L2
open PySem PySem.Spec PySem.Calls PyProof.Rows
noncomputable abbrev eO (h:Heap) (it t:Addr) (i:Nat):Prop:=h.get? it=some { cls:=.type "tuple_iterator",dict:=none,data:=.fields #[.ref t,rawInt i],slots:=#[] }
section
variable {prog:Program} {w:World} {A:Around} {E:Value->Shared->Prop} {s:Shared} {it t:Addr} {i:Nat} {items:Array Value}
theorem oG {x:Value} {Q:Value->Shared->Prop} (a1:eO s.heap it t i) (a2:s.heap.IsTuple t items) (hx:items[i]?=some x)
  (q:∀ h',eO h' it t (i+1)->Heap.SameBut it s.heap h'->Q x { s with heap:=h' }):wpAny (model prog w) A (Builtin.SmallTypes.nextOf (.ref it)) Q E s:=by
 have ty:s.TypeIs (.ref it) "tuple_iterator":=⟨_,a1,rfl⟩
 obtain ⟨⟨c2,d2,dt2,s2⟩,a2,hc,n,hd⟩:=a2
 obtain rfl:c2=.type "tuple":=hc
 obtain rfl:dt2=.seq items n:=hd
 unfold Builtin.SmallTypes.nextOf
 refine wpAny_bind (wpAny_callSpecial?_slot (name:=Str.ofString "__next__") ty PySem.F.slot_tuple_iterator_next (wpAny_call_entry PySem.F.slot_tuple_iterator_next ty PySem.F.entry_tuple_iterator_next ?_ (PySem.F.args_tuple_iterator_next_1 _)))
 obtain ⟨h0,g0,d0,t0,o0⟩:=s
 unfold eO rawInt at a1
 wp_walk
 rw [Int.toNat_natCast,hx]
 refine wpAny_bind (wpAny_setField_rec a1 (by simp) λh' b1 b2=>wpAny_pure ⟨x,rfl,wpAny_pure (q h' ?_ b2)⟩)
 show h'.get? it=some _
 have e:((i+1:Nat):Int)=(i:Int)+1:=by omega
 rw [e]
 exact b1
theorem vq {Q:Value->Shared->Prop} (hh:A.handled=none) (a1:eO s.heap it t i) (a2:s.heap.IsTuple t items) (hx:items[i]?=none)
  (q:∀ h' e,Heap.ExtBut it s.heap h'->(∃ o,h'.get? e=some o/\o.cls=.type "StopIteration")->E (.ref e) { s with heap:=h' }):wpAny (model prog w) A (Builtin.SmallTypes.nextOf (.ref it)) Q E s:=by
 have ty:s.TypeIs (.ref it) "tuple_iterator":=⟨_,a1,rfl⟩
 obtain ⟨⟨c2,d2,dt2,s2⟩,a2,hc,n,hd⟩:=a2
 obtain rfl:c2=.type "tuple":=hc
 obtain rfl:dt2=.seq items n:=hd
 unfold Builtin.SmallTypes.nextOf
 refine wpAny_bind (wpAny_callSpecial?_slot (name:=Str.ofString "__next__") ty PySem.F.slot_tuple_iterator_next (wpAny_call_entry PySem.F.slot_tuple_iterator_next ty PySem.F.entry_tuple_iterator_next ?_ (PySem.F.args_tuple_iterator_next_1 _)))
 obtain ⟨h0,g0,d0,t0,o0⟩:=s
 unfold eO rawInt at a1
 wp_walk
 rw [Int.toNat_natCast,hx]
 refine wpAny_bind (wpAny_rule (wpAny_bind (wpAny_setField_rec a1 (by simp) λh' b1 b2=>?_)))
 unfold Builtin.SmallTypes.stopIteration
 wp_walk
 exact wpAny_raiseNew_none hh (q _ _ ((b2.extBut.push _).push _) ⟨_,Heap.get?_push_size _ rfl,rfl⟩)
end
noncomputable abbrev As (t:Addr):Obj:={ cls:=.type "tuple_iterator",data:=.fields #[.ref t,.int 0 0] }
noncomputable abbrev pD (it:Addr):Obj:={ cls:=.type "enumerate",data:=.fields #[.none,.bool false,.ref it,rawInt 0,.none,.none] }
variable {X:Cx} {s:Shared}
theorem Inv.turnedL {pins:List (Addr × Obj)} {σ:St} {H:Hp} {h':Heap} {t':Nat} {its:List Addr} (I:Inv X pins σ H s) (k:∀ b o,b ∉ its->s.heap.get? b=some o->h'.get? b=some o)
  (ok:∀ b ∈ its,H b=none/\b≠X.env.locals/\(b ∈ X.ex\/X.s₀.heap.objs.size≤b)/\(∀ x c,X.env.cells.lookup x=some c->c≠b)/\∀ p ∈ X.pn++pins,p.1≠b):Inv X pins σ H { s with heap:=h',toks:=t' }:=by
 have out:∀ b u,H b=some u->b ∉ its:=λb u e z=>by rw [(ok b z).1] at e;cases e
 refine I.step (g':=s.gens) (d':=s.drawn) (ch:=its) (λb hb=>⟨(ok b hb).2.2.1,(ok b hb).2.1,(ok b hb).2.2.2⟩) (λb o _ _ hc e _=>k b o hc e) (λb o _ _ hc e _=>⟨o.slots,k b o hc e⟩) (λ_ _ _ _ n=>n)
  (λb o hc e=>⟨o,k b o hc e⟩) (λ_ _ e=>e) (λ_ _ _ e=>e) (λb ps e=>⟨#[],by rw [Array.append_empty];exact e⟩) (λm hm=>?_) (λb u e=>?_) I.bare
 ·obtain ⟨o,es,ep,ho,r⟩:=hm
  exact ⟨o,es,ep,k _ o (λz=>(ok _ z).2.1 rfl) ho,r⟩
 ·refine (I.hok b u e).stay (λc v hc q=>k c v ?_ q) (λ_ q=>q) λ_ _ q=>q
  rcases hc with z | z
  ·rw [z];exact out b u e
  ·exact out c _ z
section
variable {prog:Program} {w:World} {A:Around} {E:Value->Shared->Prop} {s:Shared} {z TI TO i1 i2 t1 t2:Addr} {k:Nat} {xs ys:Array Value}
variable {a b:Value}
theorem ye {x y:Value} {Q:Value->Shared->Prop} (hz:IsZip s.heap z TI TO .none) (hI:IsPair s.heap TI (.ref i1) (.ref i2)) (hO:IsPair s.heap TO a b) (h1:eO s.heap i1 t1 k) (h2:eO s.heap i2 t2 k)
  (l1:s.heap.IsTuple t1 xs) (l2:s.heap.IsTuple t2 ys) (hx:xs[k]?=some x) (hy:ys[k]?=some y) (D:ZipApart z TI TO i1 i2 t1 t2)
  (q:∀ h',IsZip h' z TI TO (rawInt s.heap.objs.size)->IsPair h' TO x y->eO h' i1 t1 (k+1)->eO h' i2 t2 (k+1)->h'.get? s.heap.objs.size=some { cls:=.type "tuple",data:=.seq #[x,y] } ->
   (∀ b o,b≠z->b≠TO->b≠i1->b≠i2->s.heap.get? b=some o->h'.get? b=some o)->Q (.ref s.heap.objs.size) { s with heap:=h' }):wpAny (model prog w) A (Builtin.«zip.__next__» ⟨[.ref z],[]⟩) (λfin s'=>∃ v,fin=.done (.ret v)/\Q v s') E s:=by
 show wpAny _ _ (field (.ref z) 2 >>= _) _ _ _
 refine wpAny_bind (wpAny_field hz rfl rfl ?_)
 show wpAny _ _ (field (.ref z) 3 >>= _) _ _ _
 refine wpAny_bind (wpAny_field hz rfl rfl ?_)
 refine wpAny_bind (wpAny_seqItems hI rfl ?_)
 refine wpAny_bind (wpAny_bind (wpAny_field hz rfl rfl (wpAny_pure ?_)))
 refine wpAny_bind (wpAny_rule ?_)
 refine wpAny_bind (wpAny_field hz rfl rfl ?_)
 refine wpAny_bind (wpAny_setField_rec hz (by simp) λha za sa=>?_)
 replace za:IsZip ha z TI TO .ellipsis:=za
 rw [show (#[Value.ref i1,Value.ref i2]:Array Value).toList.zipIdx=[(.ref i1,0),(.ref i2,1)] from rfl,List.forIn_cons]
 have h1a:eO ha i1 t1 k:=(sa.2 i1 D.i1z).trans h1
 have h2a:eO ha i2 t2 k:=(sa.2 i2 D.i2z).trans h2
 have l1a:ha.IsTuple t1 xs:=l1.extBut sa.extBut D.l1z
 have l2a:ha.IsTuple t2 ys:=l2.extBut sa.extBut D.l2z
 have hOa:IsPair ha TO a b:=(sa.2 TO D.TOz).trans hO
 refine wpAny_bind (wpAny_bind (wpAny_bind (wpAny_onRaise (wpAny_bind (oG (s:={ s with heap:=ha }) h1a l1a hx λhb h1b sb=>wpAny_pure ?_)))))
 replace sb:Heap.SameBut i1 ha hb:=sb
 have hOb:IsPair hb TO a b:=(sb.2 TO D.TOi1).trans hOa
 refine wpAny_bind (wpAny_seqItems (s:={ s with heap:=hb }) hOb rfl ?_)
 refine wpAny_bind (wpAny_updateSeq_pair (s:={ s with heap:=hb }) hOb λhc hOc sc=>?_)
 replace sc:Heap.SameBut TO hb hc:=sc
 replace hOc:IsPair hc TO x b:=hOc
 refine wpAny_bind (wpAny_letGo (wpAny_pure ?_))
 have h2c:eO hc i2 t2 k:=(sc.2 i2 (Ne.symm D.TOi2)).trans ((sb.2 i2 (Ne.symm D.i12)).trans h2a)
 have l2c:hc.IsTuple t2 ys:=(l2a.extBut sb.extBut D.l2i1).extBut sc.extBut D.l2TO
 show wpAny _ _ (forIn [(Value.ref i2,1)] _ _) _ _ _
 rw [List.forIn_cons]
 refine wpAny_bind (wpAny_bind (wpAny_onRaise (wpAny_bind (oG (s:={ s with heap:=hc }) h2c l2c hy λhd h2d sd=>wpAny_pure ?_))))
 replace sd:Heap.SameBut i2 hc hd:=sd
 have hOd:IsPair hd TO x b:=(sd.2 TO D.TOi2).trans hOc
 refine wpAny_bind (wpAny_seqItems (s:={ s with heap:=hd }) hOd rfl ?_)
 refine wpAny_bind (wpAny_updateSeq_pair (s:={ s with heap:=hd }) hOd λhe hOe se=>?_)
 replace se:Heap.SameBut TO hd he:=se
 replace hOe:IsPair he TO x y:=hOe
 refine wpAny_bind (wpAny_letGo (wpAny_pure ?_))
 show wpAny _ _ (forIn [] _ _) _ _ _
 rw [List.forIn_nil]
 refine wpAny_pure ?_
 show wpAny _ _ (seqItems? (.ref TO) >>= _) _ _ _
 refine wpAny_bind (wpAny_seqItems (s:={ s with heap:=he }) hOe rfl ?_)
 refine wpAny_bind (wpAny_newTuple ?_)
 have sze:he.objs.size=s.heap.objs.size:=by rw [se.1,sd.1,sc.1,sb.1,sa.1]
 have ze:IsZip he z TI TO .ellipsis:=(se.2 z (Ne.symm D.TOz)).trans ((sd.2 z (Ne.symm D.i2z)).trans ((sc.2 z (Ne.symm D.TOz)).trans ((sb.2 z (Ne.symm D.i1z)).trans za)))
 have zf:IsZip (he.push { cls:=.type "tuple",data:=.seq #[x,y] }) z TI TO .ellipsis:=Heap.get?_push_of_some _ ze
 have tf:(he.push { cls:=.type "tuple",data:=.seq #[x,y] }).get? s.heap.objs.size=some { cls:=.type "tuple",data:=.seq #[x,y] }:=Heap.get?_push_at sze.symm rfl
 have of:IsPair (he.push { cls:=.type "tuple",data:=.seq #[x,y] }) TO x y:=Heap.get?_push_of_some _ hOe
 have f1:eO (he.push { cls:=.type "tuple",data:=.seq #[x,y] }) i1 t1 (k+1):=Heap.get?_push_of_some _ ((se.2 i1 (Ne.symm D.TOi1)).trans ((sd.2 i1 D.i12).trans ((sc.2 i1 (Ne.symm D.TOi1)).trans h1b)))
 have f2:eO (he.push { cls:=.type "tuple",data:=.seq #[x,y] }) i2 t2 (k+1):=Heap.get?_push_of_some _ ((se.2 i2 (Ne.symm D.TOi2)).trans h2d)
 have kf:∀ b o,b≠z->b≠TO->b≠i1->b≠i2->s.heap.get? b=some o->(he.push { cls:=.type "tuple",data:=.seq #[x,y] }).get? b=some o:=λb o n1 n2 n3 n4 e =>
  Heap.get?_push_of_some _ ((se.2 b n2).trans ((sd.2 b n4).trans ((sc.2 b n2).trans ((sb.2 b n3).trans ((sa.2 b n1).trans e)))))
 generalize he.push { cls:=.type "tuple",data:=.seq #[x,y] }=hf at zf tf of f1 f2 kf
 have lz:z < s.heap.objs.size:=Heap.lt_size hz
 show wpAny _ _ (Builtin.SmallTypes.ownedTupleHandOut (.ref z) (.ref he.objs.size) >>= _) _ _ _
 rw [sze]
 refine wpAny_bind (wpAny_bind (wpAny_setField_rec (s:={ s with heap:=hf }) zf (by simp) λhg zg sg=>wpAny_setField_rec (s:={ s with heap:=hg }) zg (by simp) λhh zh sh=>wpAny_pure ⟨_,rfl,?_⟩))
 replace sg:Heap.SameBut z hf hg:=sg
 replace sh:Heap.SameBut z hg hh:=sh
 have on:∀ b,b≠z->hh.get? b=hf.get? b:=λb n=>(sh.2 b n).trans (sg.2 b n)
 refine q hh zh ?_ ?_ ?_ ?_ λb o n1 n2 n3 n4 e=>(on b n1).trans (kf b o n1 n2 n3 n4 e)
 ·exact (on TO D.TOz).trans of
 ·exact (on i1 D.i1z).trans f1
 ·exact (on i2 D.i2z).trans f2
 ·exact (on _ (Nat.ne_of_gt lz)).trans tf
theorem yd {Q:Fin->Shared->Prop} (hh:A.handled=none) (hz:IsZip s.heap z TI TO .none) (hI:IsPair s.heap TI (.ref i1) (.ref i2)) (hO:IsPair s.heap TO a b) (h1:eO s.heap i1 t1 k)
  (l1:s.heap.IsTuple t1 xs) (hx:xs[k]?=none) (D:ZipApart z TI TO i1 i2 t1 t2)
  (q:∀ h' e,(∀ b o,b≠z->b≠i1->s.heap.get? b=some o->h'.get? b=some o)->(∃ o,h'.get? e=some o/\o.cls=.type "StopIteration")->E (.ref e) { s with heap:=h' }):wpAny (model prog w) A (Builtin.«zip.__next__» ⟨[.ref z],[]⟩) Q E s:=by
 show wpAny _ _ (field (.ref z) 2 >>= _) _ _ _
 refine wpAny_bind (wpAny_field hz rfl rfl ?_)
 show wpAny _ _ (field (.ref z) 3 >>= _) _ _ _
 refine wpAny_bind (wpAny_field hz rfl rfl ?_)
 refine wpAny_bind (wpAny_seqItems hI rfl ?_)
 refine wpAny_bind (wpAny_bind (wpAny_field hz rfl rfl (wpAny_pure ?_)))
 refine wpAny_bind (wpAny_rule ?_)
 refine wpAny_bind (wpAny_field hz rfl rfl ?_)
 refine wpAny_bind (wpAny_setField_rec hz (by simp) λha za sa=>?_)
 replace za:IsZip ha z TI TO .ellipsis:=za
 rw [show (#[Value.ref i1,Value.ref i2]:Array Value).toList.zipIdx=[(.ref i1,0),(.ref i2,1)] from rfl,List.forIn_cons]
 have h1a:eO ha i1 t1 k:=(sa.2 i1 D.i1z).trans h1
 have l1a:ha.IsTuple t1 xs:=l1.extBut sa.extBut D.l1z
 refine wpAny_bind (wpAny_bind (wpAny_bind (wpAny_onRaise (wpAny_bind (vq (s:={ s with heap:=ha }) hh h1a l1a hx λhb e sb he=>?_)))))
 replace sb:Heap.ExtBut i1 ha hb:=sb
 have zb:IsZip hb z TI TO .ellipsis:=sb z _ (Ne.symm D.i1z) za
 obtain ⟨oe,hoe,hce⟩:=he
 have nez:e≠z:=λy=>by rw [y,zb] at hoe;cases hoe;simp at hce
 refine wpAny_setField_rec (s:={ s with heap:=hb }) zb (by simp) λhc zc sc=>q hc e (λb o n1 n2 hb'=>?_) ⟨oe,(sc.2 e nez).trans hoe,hce⟩
 exact (sc.2 b n1).trans (sb b o n2 ((sa.2 b n1).trans hb'))
end
theorem AI (t1 t2:Addr) (xs ys:Array Value) :
  Meets (Builtin.«zip.__new__» ⟨[.type "zip",.ref t1,.ref t2],[]⟩) (λ_ R s=>s.heap.IsTuple t1 xs/\s.heap.IsTuple t2 ys /\
   ∀ h',IsZip h' (s.heap.objs.size+4) (s.heap.objs.size+2) (s.heap.objs.size+3) .none->IsPair h' (s.heap.objs.size+2) (.ref s.heap.objs.size) (.ref (s.heap.objs.size+1))->IsPair h' (s.heap.objs.size+3) .none .none ->
    eO h' s.heap.objs.size t1 0->eO h' (s.heap.objs.size+1) t2 0->(∀ b o,s.heap.get? b=some o->h'.get? b=some o)->R (.ok (.ret (.ref (s.heap.objs.size+4)))) { s with heap:=h' }) :=
 .of_wp λ_ _ _ _ s q=>by
  obtain ⟨h0,g0,d0,t0,o0⟩:=s
  obtain ⟨a1,a2,q⟩:=q
  have self1:=sub_zip
  have b1:Heap.IsTuple (Shared.heap ⟨h0,g0,d0,t0,o0⟩) t1 xs:=a1
  have b2:Heap.IsTuple (Shared.heap ⟨h0.push (As t1),g0,d0,t0,o0⟩) t2 ys:=Heap.IsTuple.push a2 _
  wp_walk using wpAny_pyIter_tuple b1,wpAny_pyIter_tuple b2
  refine ⟨_,rfl,?_⟩
  have n1:(h0.push (As t1)).objs.size=h0.objs.size+1:=Heap.size_push _ _
  simp only [Heap.size_push]
  refine q _ ?_ ?_ ?_ ?_ ?_ λb o e=>?_
  ·exact Heap.get?_push_at (by simp [Heap.size_push]) rfl
  ·exact Heap.get?_push_of_some _ (Heap.get?_push_of_some _ (Heap.get?_push_at (by simp [Heap.size_push]) rfl))
  ·exact Heap.get?_push_of_some _ (Heap.get?_push_at (by simp [Heap.size_push]) rfl)
  ·exact Heap.get?_push_of_some _ (Heap.get?_push_of_some _ (Heap.get?_push_of_some _ (Heap.get?_push_of_some _ (Heap.get?_push_at (by simp [Heap.size_push]) rfl))))
  ·exact Heap.get?_push_of_some _ (Heap.get?_push_of_some _ (Heap.get?_push_of_some _ (Heap.get?_push_at (by simp [Heap.size_push]) rfl)))
  ·exact Heap.get?_push_of_some _ (Heap.get?_push_of_some _ (Heap.get?_push_of_some _ (Heap.get?_push_of_some _ (Heap.get?_push_of_some _ e))))
variable {w:World}
theorem xi {prog:Program} {A:Around} {E:Value->Shared->Prop} {t1 t2:Addr} {xs ys:Array Value} {Q:Value->Shared->Prop} (a1:s.heap.IsTuple t1 xs) (a2:s.heap.IsTuple t2 ys)
  (q:∀ h',IsZip h' (s.heap.objs.size+4) (s.heap.objs.size+2) (s.heap.objs.size+3) .none->IsPair h' (s.heap.objs.size+2) (.ref s.heap.objs.size) (.ref (s.heap.objs.size+1))->IsPair h' (s.heap.objs.size+3) .none .none ->
   eO h' s.heap.objs.size t1 0->eO h' (s.heap.objs.size+1) t2 0->(∀ b o,s.heap.get? b=some o->h'.get? b=some o)->Q (.ref (s.heap.objs.size+4)) { s with heap:=h' }):wpAny (model prog w) A (call (.type "zip") [.ref t1,.ref t2]) Q E s :=
 callType_new PySem.F.called_zip (by decide) (PySem.F.typeCall_zip_2 _ _) (PySem.F.newCall_zip_2 _ _) (λo=>PySem.F.args_object_init_3 o _ _) PySem.F.entry_zip_new (AI t1 t2 xs ys) ⟨a1,a2,λh' z1 z2 z3 z4 z5 kk=>⟨⟨_,z1,rfl⟩,q h' z1 z2 z3 z4 z5 kk⟩⟩
noncomputable def Itz (K:PySem.W.Frag) (a b:Addr) (xs ys:List V):It:=⟨λi H=>i < xs.length/\i < ys.length/\SqT K H a xs/\SqT K H b ys,λi H x H'=>∃ p u v,H p=none/\x=.ref p/\xs[i]?=some u/\ys[i]?=some v/\H'=upd H p (.tup [u,v]),λi H=>i=xs.length/\SqT K H a xs⟩
variable {elts:List Expr} {ps:Pos}
theorem AA {P:Program} {K:PySem.W.Frag} {c1} (a b z TI TO i1 i2:Addr) (xs ys:List V) (D:ZipApart z TI TO i1 i2 a b):mx P w K (.Tuple elts c1 ps) (Itz K a b xs ys) [z,TI,TO,i1,i2] z
  (λi h=>∃ c d,IsZip h z TI TO .none/\IsPair h TI (.ref i1) (.ref i2)/\IsPair h TO c d/\eO h i1 a i/\eO h i2 b i) where
 mem:=by simp
 obj:=λi h zq b hb=>by
  obtain ⟨c,d,q1,q2,q3,q4,q5⟩:=zq
  simp only [List.mem_cons,List.not_mem_nil,or_false] at hb
  rcases hb with rfl | rfl | rfl | rfl | rfl
  ·exact ⟨_,q1,λv e=>by cases e⟩
  ·exact ⟨_,q2,λv e=>by cases e⟩
  ·exact ⟨_,q3,λv e=>by cases e⟩
  ·exact ⟨_,q4,λv e=>by cases e⟩
  ·exact ⟨_,q5,λv e=>by cases e⟩
 keep:=λi h h' ⟨c,d,q1,q2,q3,q4,q5⟩ k=>⟨c,d,k z (by simp) _ q1,k TI (by simp) _ q2,k TO (by simp) _ q3,k i1 (by simp) _ q4,k i2 (by simp) _ q5⟩
 item:=by
  intro X hP hw hK hc i pins s σ H E I hf st hg
  subst hP hw hK
  obtain ⟨c,d,q1,q2,q3,q4,q5⟩:=st
  obtain ⟨hi,hj,ha,hb⟩:=hg
  obtain ⟨us,ru,pu,_⟩:=I.tuple ha
  obtain ⟨vs,rv,pv,_⟩:=I.tuple hb
  have hx:xs[i]?=some xs[i]:=List.getElem?_eq_getElem hi
  have hy:ys[i]?=some ys[i]:=List.getElem?_eq_getElem hj
  obtain ⟨u,hu,r1⟩:=ru.get hx
  obtain ⟨v,hv,r2⟩:=rv.get hy
  have ty:s.TypeIs (.ref z) "zip":=⟨_,q1,rfl⟩
  unfold pyNext
  refine wpAny_bind (wpAny_attempt (wpAny_callSpecial?_slot (name:=Str.ofString "__next__") ty PySem.F.slot_zip_next (wpAny_call_entry PySem.F.slot_zip_next ty PySem.F.entry_zip_next ?_ (PySem.F.args_zip_next_1 _))))
  refine ye (x:=u) (y:=v) q1 q2 q3 q4 q5 (show s.heap.IsTuple a us.toArray from pu) (show s.heap.IsTuple b vs.toArray from pv) (by simpa using hu) (by simpa using hv) D λh' w1 w2 w3 w4 w5 w6=>wpAny_pure ⟨_,rfl,?_⟩
  refine wpAny_letOwnedTupleGo_zip (s:={ s with heap:=h' }) w1 λh2 e2 same=>?_
  replace same:Heap.SameBut z h' h2:=same
  have lz:z < s.heap.objs.size:=Heap.lt_size q1
  have lTI:TI < s.heap.objs.size:=Heap.lt_size q2
  have lTO:TO < s.heap.objs.size:=Heap.lt_size q3
  have l1:i1 < s.heap.objs.size:=Heap.lt_size q4
  have l2:i2 < s.heap.objs.size:=Heap.lt_size q5
  have low:∀ b ∈ [z,TI,TO,i1,i2],b < s.heap.objs.size:=λb hb=>by
   simp only [List.mem_cons,List.not_mem_nil,or_false] at hb
   rcases hb with rfl | rfl | rfl | rfl | rfl <;> assumption
  have tup2:h2.get? s.heap.objs.size=some { cls:=.type "tuple",data:=.seq #[u,v] }:=(same.2 _ (Nat.ne_of_gt lz)).trans w5
  have I1:Inv X pins σ (upd H s.heap.objs.size (.tup [xs[i],ys[i]])) { s with heap:=s.heap.push { cls:=.type "tuple",data:=.seq #[u,v] },toks:=s.toks } :=
   I.laid (o:=.tup [xs[i],ys[i]]) (λb ob q=>Heap.get?_push_of_some _ q) (Nat.le_refl _) ⟨by rw [sizeLine_eq];simp,[u,v],.cons r1 (.cons r2 .nil),IsTup.new _ _⟩
  have frees:∀ b,b < s.heap.objs.size->upd H s.heap.objs.size (.tup [xs[i],ys[i]]) b=H b:=λb hb=>aJ (Nat.ne_of_lt hb)
  have I2:Inv X pins σ (upd H s.heap.objs.size (.tup [xs[i],ys[i]])) { s with heap:=h2,toks:=s.toks }:=by
   refine Inv.turnedL (s:={ s with heap:=s.heap.push { cls:=.type "tuple",data:=.seq #[u,v] },toks:=s.toks }) (h':=h2) (its:=[z,TI,TO,i1,i2]) (t':=s.toks) I1 (λb o hb q=>?_) (λb hb=>?_)
   ·simp only [List.mem_cons,List.not_mem_nil,or_false,not_or] at hb
    obtain ⟨n1,n2,n3,n4,n5⟩:=hb
    by_cases hbs:b=s.heap.objs.size
    ·subst hbs
     have q':(s.heap.push { cls:=.type "tuple",data:=.seq #[u,v] }).get? s.heap.objs.size=some o:=q
     rw [Heap.get?_push_at rfl rfl] at q'
     cases q'
     exact tup2
    ·have q':s.heap.get? b=some o:=(Heap.get?_push_ne _ _ _ hbs).symm.trans q
     exact (same.2 b n1).trans (w6 b o n1 n3 n4 n5 q')
   ·obtain ⟨f0,f1,f2,f3,f4,f5⟩:=hf b hb
    exact ⟨by rw [frees b (low b hb)];exact f0,f1,f3,f4,f5⟩
  refine ⟨.ref s.heap.objs.size,_,I2,rfl,⟨_,_,_,I.hok.fresh (Nat.le_refl _),rfl,hx,hy,rfl⟩,⟨u,v,e2,?_,?_,?_,?_⟩,λb hb=>?_⟩
  ·exact (same.2 TI D.TIz).trans (w6 TI _ D.TIz D.TITO D.TIi1 D.TIi2 q2)
  ·exact (same.2 TO D.TOz).trans w2
  ·exact (same.2 i1 D.i1z).trans w3
  ·exact (same.2 i2 D.i2z).trans w4
  ·rw [frees b (low b hb)];exact (hf b hb).1
 done:=by
  intro X hP hw hK hc i pins s σ H E I hf st hg
  subst hP hw hK
  obtain ⟨c,d,q1,q2,q3,q4,q5⟩:=st
  obtain ⟨hi,ha⟩:=hg
  obtain ⟨us,ru,pu,_⟩:=I.tuple ha
  have lr:=ru.length
  have ty:s.TypeIs (.ref z) "zip":=⟨_,q1,rfl⟩
  unfold pyNext
  refine wpAny_bind (wpAny_attempt (wpAny_callSpecial?_slot (name:=Str.ofString "__next__") ty PySem.F.slot_zip_next (wpAny_call_entry PySem.F.slot_zip_next ty PySem.F.entry_zip_next ?_ (PySem.F.args_zip_next_1 _))))
  refine yd (I.ok.hd hc) q1 q2 q3 q4 (show s.heap.IsTuple a us.toArray from pu) (by simp;omega) D λh' e kk ⟨o,ho,hco⟩=>?_
  refine wpAny_bind (wpAny_isInstance (T:="StopIteration") (b:=true) ⟨o,ho,hco⟩ isSubtype_stop (wpAny_pure ⟨rfl,?_⟩))
  refine Inv.turnedL (s:=s) (h':=h') (its:=[z,i1]) (t':=s.toks) I (λb o hb q=>kk b o (λy=>hb (by simp [y])) (λy=>hb (by simp [y])) q) (λb hb=>?_)
  obtain ⟨f0,f1,f2,f3,f4,f5⟩:=hf b (by
   simp only [List.mem_cons,List.not_mem_nil,or_false] at hb
   rcases hb with rfl | rfl <;> simp)
  exact ⟨f0,f1,f3,f4,f5⟩
 self:=λA i s Q E ⟨_,_,q1,_⟩ q=>wpAny_pyIter_zip q1 q
noncomputable def D8 (K:PySem.W.Frag) (ta:TA):TI:=λσ H R=>ta σ H λvs H1=>∃ a b xs ys,vs=[.ref a,.ref b]/\SqT K H1 a xs/\SqT K H1 b ys/\R (Itz K a b xs ys) H1
theorem zT {a b:Expr} {ta:TA} {p pos:Pos} {c1} (hg:Gl X "zip") (hm:X.mg "zip"=none) (ha:PA X [a,b] ta) (hs:starEach [a,b] X.env=(false,eval a X.env)::starEach [b] X.env:=by rfl) (hpl:(backTo pos (starEach [b] X.env)).any (·.1)=false:=by rfl) :
  PI X (.Tuple elts c1 ps) (.Call (.Name "zip" p) [a,b] [] pos) (D8 X.K ta):=by
 intro pins s σ H R I h
 refine Call_ (jD I hg hm yE (PyProof.Rows.callWith_type1 (thn (ha pos pins s σ H _ I h) λus s1 ⟨vs,H1,I1,r1,q1⟩=>?_) hs hpl))
 obtain ⟨t1,t2,xs,ys,ev,hq1,hq2,q⟩:=q1
 subst ev
 cases r1 with
 | cons e1 rt =>
  obtain ⟨u2,rfl,e2⟩:=gH rt
  cases e1
  cases e2
  obtain ⟨us,ru,pu,_⟩:=I1.tuple hq1
  obtain ⟨vs,rv,pv,_⟩:=I1.tuple hq2
  have lt1:t1 < s1.heap.objs.size:=pu.lt
  have lt2:t2 < s1.heap.objs.size:=pv.lt
  refine xi pu pv λh' z1 z2 z3 z4 z5 kk=>?_
  refine wpAny_pyIter_zip (s:={ s1 with heap:=h' }) z1 ?_
  have ne:∀ {x y:Nat},x < y->x≠y:=λh=>Nat.ne_of_lt h
  have gt:∀ {x y:Nat},y < x->x≠y:=λh=>Nat.ne_of_gt h
  have ap:ZipApart (s1.heap.objs.size+4) (s1.heap.objs.size+2) (s1.heap.objs.size+3) s1.heap.objs.size (s1.heap.objs.size+1) t1 t2 :=
   ⟨ne (by omega),ne (by omega),ne (by omega),ne (by omega),ne (by omega),gt (by omega),gt (by omega),gt (by omega),gt (by omega),ne (by omega),ne (Nat.lt_of_lt_of_le lt1 (by omega)),ne (Nat.lt_of_lt_of_le lt1 (by omega)),ne lt1,ne (Nat.lt_of_lt_of_le lt1 (by omega)),
    ne (Nat.lt_of_lt_of_le lt2 (by omega)),ne (Nat.lt_of_lt_of_le lt2 (by omega)),ne lt2,ne (Nat.lt_of_lt_of_le lt2 (by omega))⟩
  refine ⟨s1.heap.objs.size+4,[s1.heap.objs.size+4,s1.heap.objs.size+2,s1.heap.objs.size+3,s1.heap.objs.size,s1.heap.objs.size+1],_,_,H1,rfl,I1.kept (t':=s1.toks) kk,AA t1 t2 _ _ _ _ _ xs ys ap,⟨.none,.none,z1,z2,z3,z4,z5⟩,λb hb=>?_,q⟩
  have lb:s1.heap.objs.size≤b:=by
   simp only [List.mem_cons,List.not_mem_nil,or_false] at hb
   rcases hb with rfl | rfl | rfl | rfl | rfl
   ·exact Nat.le_add_right _ _
   ·exact Nat.le_add_right _ _
   ·exact Nat.le_add_right _ _
   ·exact Nat.le_refl _
   ·exact Nat.le_add_right _ _
  exact I1.fpOk lb (I1.hok.fresh lb)
noncomputable abbrev uH (t:Addr):Obj:={ cls:=.type "list_iterator",data:=.fields #[.ref t,.int 0 0] }
section
variable {prog:Program} {w:World} {A:Around} {E:Value->Shared->Prop} {s:Shared} {z TI TO i1 i2 t1 t2:Addr} {k:Nat} {xs ys:Array Value}
end
theorem wH (σ:St) {i j:Nat} (ne:i≠j) (a b c d:Option V):((((σ.set i a).set j b).set i c).set j d)=(σ.set i c).set j d:=by
 rw [List.set_comm _ _ (Ne.symm ne),List.set_set,List.set_set]
section
variable {K:PySem.W.Frag} {σ:St} {H:Hp} {tA:TA} {ar:List Ar} {d:D} {R:List Ar->D->Prop} {B:List Ar->Addr->Prop} {E:XK} {Q:VK} {C:Addr}
end
end L2
namespace L2
open PySem PySem.Spec PyProof.Rows
section
variable {X:Cx}
noncomputable def Ej (K:PySem.W.Frag):List V->Hp->VK->Prop:=λxs H Q=>∃ (l:Addr) (ns:List Int),xs=[.ref l]/\SqL K H l (ns.map V.int)/\0 < ns.length/\∀ M,M ∈ ns->(∀ a ∈ ns,M≤a)->Q (.int M) H
theorem xc (hc:X.calm=true):h9 X (.builtin "min") (Ej X.K):=by
 intro pins s σ H xs us Q I r h
 obtain ⟨l,ns,rfl,hq,hn,q⟩:=h
 obtain ⟨u,rfl,ru⟩:=gH r
 cases ru
 obtain ⟨its,rv,p,hz⟩:=I.list hq
 have hi:=qL rv
 obtain ⟨zs,hzs⟩:=hi.allInts.items
 have en:zs.toList.map (·.1)=ns:=by
  have z:=hi.numsOf
  rw [show its=(intItems zs).toList by rw [← hzs]] at z
  rw [← z,nums_intItems]
 have sz:zs.size=ns.length:=by rw [← en];simp
 refine min_intList (I.ok.hd hc) (show s.heap.IsList l (intItems zs) from hzs ▸ p.isList) (by omega) λv h' tk hv hk=>?_
 obtain ⟨t,rfl⟩:=intItems_at hv
 have best:=argBest_lt (numAt zs) (zs.size - 1)
 refine ⟨.int _,H,I.kept (t':=tk) hk,⟨t,rfl⟩,q _ ?_ λa ha=>?_⟩
 ·rw [← en,numAt_eq]
  exact getD_mem (by rw [List.length_map,Array.length_toList];have:=best.1;omega)
 ·rw [← en] at ha
  obtain ⟨j,hj,ej⟩:=mem_getD ha
  rw [List.length_map,Array.length_toList] at hj
  have le:=best.2 j (by omega)
  rw [← ej,← numAt_eq]
  exact le
end
section
variable {K:PySem.W.Frag} {σ:St} {H H':Hp} {d d':D} {ds es:List D} {t u ta tb te tl:TE} {tA:TA} {mk:St->St} {jj:Nat}
theorem BH {ns:List Int} {m:Int} (h:RL K t σ H (ns.map D.int)) (hm:m ∈ ns) (lo:∀ a ∈ ns,m≤a):RE K (tCB (Ej K) (bR t dQ)) σ H (.int m):=λH1 s Q q =>
 ip ((h.mono s).use λv H' s' hd=>by
  obtain ⟨l,ys,rfl,hy,hd⟩:=hd
  refine ⟨l,ns,rfl,by rw [← yM hd];exact hy.sqL,List.length_pos_of_mem hm,λM h1 h2=>?_⟩
  have e:M=m:=Int.le_antisymm (h2 m hm) (lo M h1)
  subst e
  exact q _ _ s' (Dat.intI _))
inductive LDs (K:PySem.W.Frag) (H:Hp):List (List D)->List V->Prop
 | nil:LDs K H [] []
 | cons {es:List D} {v:V} {ess:List (List D)} {vs:List V}:LD K H es v->LDs K H ess vs->LDs K H (es::ess) (v::vs)
variable {ess:List (List D)} {vs:List V}
theorem LDs.length (h:LDs K H ess vs):ess.length=vs.length:=by
 induction h with
 | nil=>rfl
 | cons _ _ ih=>simp [ih]
theorem LDs.map (h:LDs K H ess vs) (f:∀ es v,LD K H es v->LD K H' es v):LDs K H' ess vs:=by
 induction h with
 | nil=>exact .nil
 | cons h1 _ ih=>exact .cons (f _ _ h1) ih
theorem Same.lds (e:Same H H') (h:LDs K H ess vs):LDs K H' ess vs:=h.map λ_ _ z=>e.ld z
theorem LDs.snoc {es:List D} {v:V} (h:LDs K H ess vs) (h1:LD K H es v):LDs K H (ess++[es]) (vs++[v]):=by
 induction h with
 | nil=>exact .cons h1 .nil
 | cons k _ ih=>exact .cons k ih
noncomputable def RCL (K:PySem.W.Frag) (t:TE) (σ:St) (H:Hp) (ess:List (List D)):Prop:=∀ H1,Same H H1->∀ Q:VK,(∀ l ys H',H1 l=none->Same H1 H'->H' l=some (.lst ys)->LDs K H' ess ys->Q (.ref l) H')->t σ H1 Q
theorem RCL.use {Q:VK} (h:RCL K t σ H ess) (q:∀ l ys H',H l=none->Same H H'->H' l=some (.lst ys)->LDs K H' ess ys->Q (.ref l) H'):t σ H Q:=h H (Same.refl H) Q q
noncomputable def Off (K:PySem.W.Frag) (H:Hp) (l:Addr) (vs:List V):Prop:=∀ v ∈ vs,v≠.ref l
theorem LDs.grown {l:Addr} {zs zs':List V} (h:LDs K H ess vs) (off:Off K H l vs) (e:But l H H') (h1:H l=some (.lst zs)) (h2:H' l=some (.lst zs')):LDs K H' ess vs:=by
 have g:cW K H H':=e.grow h1 h2
 induction h with
 | nil=>exact .nil
 | cons k _ ih =>
  refine .cons ?_ (ih λv hv=>off v (List.mem_cons_of_mem _ hv))
  obtain ⟨a,us,rfl,ha,hd⟩:=k
  have na:a≠l:=λz=>off _ List.mem_cons_self (by rw [z])
  refine ⟨a,us,rfl,?_,Dats.mono g _ hd⟩
  exact ha.elim (λz=>.inl (e _ _ na z)) .inr
end
end L2
namespace L2
open PySem PySem.Spec PySem.Calls PyProof.Rows
variable {K:PySem.W.Frag} {σ:St} {H:Hp} {te:TE} {mk:St->St} {cs:List D}
theorem BB {ta:TA} {i j:Nat} {ds:List D} (h:RA K ta σ H [.tup cs,.tup ds]) (hl:cs.length=ds.length) (hc:cs.length≤1000) (ess:List (List D)) (hn:ess.length=cs.length) (ne:i≠j)
  (h0:((mk σ).set i none).set j none=mk σ)
  (turn:∀ H1 (k:Nat) c d es v w,Same H H1->cs[k]?=some c->ds[k]?=some d->ess[k]?=some es->Dat K H1 c v->Dat K H1 d w->RC K te (((mk σ).set i (some v)).set j (some w)) H1 es) :
  RCL K (iA (D8 K ta) mk (xp K 2 (jZ (cU i) (jZ (cU j) yZ))) gE te) σ H ess:=λH1 s Q q=>by
 refine h H1 s _ λvs H2 s2 q2=>?_
 obtain ⟨v1,v2,e,k1,k2⟩:=gk q2
 subst e
 obtain ⟨a,us,e1,ha,da⟩:=k1.tupE
 obtain ⟨b,ws,e2,hb,db⟩:=k2.tupE
 subst e1 e2
 have lu:=da.length
 have lw:=db.length
 refine ⟨a,b,us,ws,rfl,ha,hb,λl hl2=>?_⟩
 have s02:Same H H2:=s.trans s2
 refine ⟨λn m σ' G=>m=us.length - n/\n≤us.length/\(∃ z1 z2,σ'=((mk σ).set i z1).set j z2)/\Same H2 G/\∃ ys,G l=some (.lst ys)/\LDs K G (ess.take n) ys/\Off K G l ys,⟨us.length,by omega,Nat.zero_le _,⟨none,none,h0.symm⟩,aG hl2 _,[],aq,by rw [List.take_zero];exact .nil,λv hv=>by cases hv⟩,?_⟩
 rintro n m σ' G ⟨rfl,hle,⟨z1,z2,rfl⟩,sG,ys,hy,dy,off⟩
 by_cases hlt:n < us.length
 ·refine .inr ⟨⟨hlt,by omega,sG.sqT ha,sG.sqT hb⟩,λσ'' G'=>(∃ z1 z2,σ''=((mk σ).set i z1).set j z2)/\Same H2 G'/\∃ ys,G' l=some (.lst ys)/\LDs K G' (ess.take (n+1)) ys/\Off K G' l ys,λσ'' G' w=>⟨us.length - (n+1),by omega,rfl,hlt,w.1,w.2⟩,λx G' y=>?_⟩
  obtain ⟨p,u,w,hp,rfl,hu,hw,rfl⟩:=y
  have sn:Same G (upd G p (.tup [u,w])):=aG hp _
  have s2n:=sG.trans sn
  obtain ⟨c,ec,hcv⟩:=da.getV hu
  obtain ⟨d,ed,hdv⟩:=db.getV hw
  have hne:n < ess.length:=by omega
  refine ⟨p,[u,w],rfl,SqT.of aq,rfl,u,_,rfl,w,_,rfl,rfl,?_⟩
  simp only [gE,if_true]
  rw [wH _ ne]
  refine RC.use (turn _ n c d ess[n] u w (s02.trans s2n) ec ed (List.getElem?_eq_getElem hne) (s2n.dat hcv) (s2n.dat hdv)) λr zs G4 hr s4 hz dz=>?_
  have hy4:=s4 _ _ (sn _ _ hy)
  have nrl:r≠l:=λz=>by rw [z,sn _ _ hy] at hr;cases hr
  have lys:ys.length=n:=by rw [← dy.length,List.length_take];omega
  refine ⟨ys,hy4,cx (by omega),⟨_,_,rfl⟩,λx o hx=>?_,ys++[.ref r],aq,?_,?_⟩
  ·rw [aJ (az hx hl2)]
   exact s4 _ _ (s2n _ _ hx)
  ·have bl:But l G4 (upd G4 l (.lst (ys++[.ref r]))):=But.upd (Same.refl G4).but
   have g:cW K G4 (upd G4 l (.lst (ys++[.ref r]))):=bl.grow hy4 aq
   rw [List.take_add_one,List.getElem?_eq_getElem hne]
   exact LDs.snoc (LDs.grown (s4.lds (sn.lds dy)) off bl hy4 aq) (LD.of (bl _ _ nrl hz) (Dats.mono g _ dz))
  ·intro v hv
   rcases List.mem_append.mp hv with hv | hv
   ·exact off v hv
   ·rw [List.mem_singleton.mp hv]
    exact λz=>nrl (by injection z)
 ·have e:n=us.length:=by omega
  subst e
  refine .inl ⟨⟨rfl,sG.sqT ha⟩,?_⟩
  rw [List.take_of_length_le (by omega)] at dy
  exact q l ys G (s2.free hl2) (s2.trans sG) hy dy
theorem wz {tl:TE} {tt:TT} {jj:Nat} (h:RL K tl σ H cs) (hc:cs.length≤1000) (p:D->Bool) (h0:(mk σ).set jj none=mk σ)
  (turn:∀ H1 (i:Nat) c v,Same H H1->cs[i]?=some c->Dat K H1 c v->RT tt ((mk σ).set jj (some v)) H1 (p c)/\RE K te ((mk σ).set jj (some v)) H1 c):RC K (iA (pK K tl) mk (cU jj) tt te) σ H (cs.filter p):=λH1 s Q q=>by
 refine (h.mono s).use λv4 H4 s4 q4=>?_
 obtain ⟨l4,ys4,rfl,hy4,hd4⟩:=q4
 have ll:=hd4.length
 refine ⟨l4,rfl,⟨ys4,hy4.sqL⟩,λl hl=>?_⟩
 refine mh (J:=Itl K l4) (n:=ys4.length) (item:=λi=>ys4.getD i .non) (λG=>SqL K G l4 ys4) (λi G o hi=>qH i G o hi) (λG o=>⟨ys4,o,Nat.le_refl _⟩) h0 l (λi G=>Same H4 G/\∃ zs,G l=some (.lst zs)/\Dats K G ((cs.take i).filter p) zs) ⟨aG hl _,[],aq,by rw [List.take_zero];exact Dats.nil⟩ (λi G _ w=>w.1.seq hy4.sqL) (λi G hi w=>?_) (λG w=>?_)
 ·obtain ⟨sG,zs,hz,dz⟩:=w
  have hic:i < cs.length:=by omega
  obtain ⟨vz,ez,hv⟩:=(sG.dats hd4).get (List.getElem?_eq_getElem hic)
  have e1:ys4.getD i .non=vz:=by rw [List.getD_eq_getElem?_getD,ez];rfl
  simp only [e1]
  obtain ⟨t1,t2⟩:=turn G i cs[i] vz (s.trans (s4.trans sG)) (List.getElem?_eq_getElem hic) hv
  have et:cs.take (i+1)=cs.take i++[cs[i]]:=by rw [List.take_add_one,List.getElem?_eq_getElem hic];rfl
  have lz:zs.length≤1000:=by
   rw [← dz.length]
   exact Nat.le_trans (List.length_filter_le _ _) (by rw [List.length_take];omega)
  have lz':zs.length < 1000:=by
   rw [← dz.length]
   exact Nat.lt_of_le_of_lt (List.length_filter_le _ _) (by rw [List.length_take];omega)
  refine t1.use λG2 s2=>?_
  cases hp:p cs[i] with
  | true =>
   refine sY ((t2.mono s2).use λv3 G3 s3 q3=>?_)
   have hz3:=(s2.trans s3) _ _ hz
   have bl:But l G3 (upd G3 l (.lst (zs++[v3]))):=But.upd (Same.refl G3).but
   have g:cW K G3 (upd G3 l (.lst (zs++[v3]))):=bl.grow hz3 aq
   refine ⟨zs,hz3,cx (by omega),⟨_,rfl⟩,λx o hx=>?_,zs++[v3],aq,?_⟩
   ·rw [aJ (az hx hl)]
    exact (s2.trans s3) _ _ (sG _ _ hx)
   ·rw [et,List.filter_append]
    have e2:[cs[i]].filter p=[cs[i]]:=by rw [List.filter_cons,if_pos hp];rfl
    rw [e2]
    exact Dats.append (Dats.mono g _ ((s2.trans s3).dats dz)) (Dats.cons (Dat.mono g _ q3) Dats.nil)
  | false =>
   refine qM ⟨⟨_,rfl⟩,sG.trans s2,zs,s2 _ _ hz,?_⟩
   rw [et,List.filter_append]
   have e2:[cs[i]].filter p=[]:=by rw [List.filter_cons,if_neg (by rw [hp];exact Bool.false_ne_true)];rfl
   rw [e2,List.append_nil]
   exact s2.dats dz
 ·obtain ⟨sG,zs,hz,dz⟩:=w
  rw [← ll,List.take_length] at dz
  exact q l zs G (s4.free hl) (s4.trans sG) hz dz
variable {X:Cx} {es:List Expr} {t:TGs} {n:Nat} {pos:Pos}
theorem wt {k:Nat} (hK:X.K=K) (hc:X.calm=true) (h:PGs X es t)
  (hn:(assignEach es X.env).length=n:=by rfl) (hst:(assignEach es X.env).findIdx? (·.1)=none:=by rfl):PG X (.Tuple es k pos) (xp K n t):=by
 subst hK
 exact eE hc h hn hst
section
variable {K:PySem.W.Frag} {σ:St} {H H':Hp} {d d':D} {ds es:List D} {t u ta tb te tl:TE} {tA:TA} {mk:St->St} {jj:Nat} {o:Option (List D)} {os:List (Option (List D))} {vs:List V} {ar:List Ar}
theorem o7:∀ {os:List (Option (List D))},os.any Option.isNone=false->∃ ess:List (List D),os=ess.map some
 | [],_=>⟨[],rfl⟩
 | none::os,h=>by cases h
 | some es::os,h=>by
  rw [List.any_cons] at h
  obtain ⟨ess,e⟩:=o7 (os:=os) (by simpa using h)
  exact ⟨es::ess,by rw [e];rfl⟩
theorem BN {En:iV} {G:Hp} {j:Nat} {l:Addr} {xs:List V} (h:RC K te σ G es) (hl:G l=some (.lst xs)) (hx:xs.length+es.length≤1000)
  (q:∀ ys G',But l G G'->G' l=some (.lst (xs++ys))->Dats K G' es ys->En.nx σ G') (hv:σ[j]?=some (some (.ref l)):=by rfl):mw (tBM K "list" mR (jl j) (bR te dQ)) En σ G:=by
 refine ⟨_,hv,.inl ⟨rfl,_,SqL.of hl⟩,h.use λp vs H1 hp s1 hv1 q1=>?_⟩
 have hl1:=s1 _ _ hl
 have lv:=q1.length
 refine ⟨l,p,xs,vs,rfl,rfl,hl1,hv1,cm (by omega),?_⟩
 have b:But l H1 (upd H1 l (.lst (xs++vs))):=But.upd (Same.refl _).but
 exact q vs _ (s1.but.trans b) aq (Dats.mono (b.grow hl1 aq) _ q1)
end
theorem A3 {a b:Addr} {xs ys:List V} {g:TG} {tb:TS} {D:iV} (Pv:Nat->St->Hp->Prop) (ll:xs.length=ys.length) (h0:Pv 0 σ H) (hl:∀ i σ H,i≤xs.length->Pv i σ H->SqT K H a xs/\SqT K H b ys)
  (hs:∀ i u v p σ H,xs[i]?=some u->ys[i]?=some v->H p=none->Pv i σ H->g (.ref p) σ (upd H p (.tup [u,v])) λσ2 H2=>tb { D with nx:=Pv (i+1),ct:=Pv (i+1),bk:=D.nx } σ2 H2) (hd:∀ σ H,Pv xs.length σ H->D.nx σ H) :
  ∃ W:Nat->Nat->St->Hp->Prop,(∃ m,W 0 m σ H)/\∀ i m σ H,W i m σ H ->
   ((Itz K a b xs ys).stop i H/\D.nx σ H)\/((Itz K a b xs ys).go i H/\∃ N:St->Hp->Prop,(∀ σ' H',N σ' H'->∃ m',m' < m/\W (i+1) m' σ' H')/\∀ x H',(Itz K a b xs ys).yld i H x H'->g x σ H' λσ2 H2=>tb { D with nx:=N,ct:=N,bk:=D.nx } σ2 H2):=by
 refine ⟨λi m σ H=>m=xs.length - i/\i≤xs.length/\Pv i σ H,⟨xs.length,by simp,Nat.zero_le _,h0⟩,?_⟩
 rintro i m σ H ⟨rfl,hi,p⟩
 have q:=hl i σ H hi p
 by_cases hlt:i < xs.length
 ·refine .inr ⟨⟨hlt,by omega,q.1,q.2⟩,Pv (i+1),λσ' H' p'=>⟨xs.length - (i+1),by omega,rfl,hlt,p'⟩,λx H' y=>?_⟩
  obtain ⟨r,u,v,hr,rfl,hu,hv,rfl⟩:=y
  exact hs i u v r σ H hu hv hr p
 ·have e:i=xs.length:=by omega
  subst e
  exact .inl ⟨⟨rfl,q.1⟩,hd σ H p⟩
noncomputable def DX (K:PySem.W.Frag) (n:Nat) (t:TGs):TG:=λv σ H Q=>∃ a xs,v=.ref a/\SqL K H a xs/\xs.length=n/\t xs σ H Q
theorem Bt {k:Nat} (hc:X.calm=true) (h:PGs X es t)
  (hn:(assignEach es X.env).length=n:=by rfl) (hst:(assignEach es X.env).findIdx? (·.1)=none:=by rfl):PG X (.Tuple es k pos) (DX X.K n t):=λpins s σ H v u Q I r zq=>by
 obtain ⟨a,xs,ev,hq,hl,hw⟩:=zq
 subst ev
 cases r
 obtain ⟨its,rv,pl,hz⟩:=I.list hq
 have en:(assignEach es X.env).length=its.toArray.size:=by rw [hn,← hl,rv.length,List.size_toArray]
 rw [assign_Tuple]
 refine wpAny_bind (wpAny_standAt ?_)
 unfold unpack
 rw [en,hst]
 refine wpAny_bind (wpAny_holding (PySem.W.kun_itemsOf (I.ok.hd hc) pl.isList λh' hx=>?_))
 exact h pins _ σ H xs _ Q (I.kept (t':=s.toks) λb o e=>hx b o (Nat.ne_of_lt (Heap.lt_size e)) e) (by simpa using rv) hw
section
variable {prog:Program} {w:World} {A:Around} {E:Value->Shared->Prop} {s:Shared}
end
noncomputable def Cb (K:PySem.W.Frag):R2:=λx y H Q=>∃ a b ys,x=.ref a/\y=.ref b/\SqT K H a []/\SqT K H b ys/\Q (.ref b) H
theorem op_catE:OpR X (binaryOp .Add) (Cb X.K):=λpins s σ H x y v u Q I rx ry zq=>by
 obtain ⟨a,b,ys,ex,ey,ha,hb,q⟩:=zq
 subst ex ey
 cases rx
 cases ry
 obtain ⟨i1,r1,p1,_⟩:=I.tuple ha
 obtain ⟨i2,r2,p2,_⟩:=I.tuple hb
 have e1:=r1.nil_iff.mpr rfl
 subst e1
 obtain ⟨⟨c1,d1,t1,l1⟩,o1,k1,n1,m1⟩:=id p1
 obtain ⟨⟨c2,d2,t2,l2⟩,o2,k2,n2,m2⟩:=id p2
 simp only at k1 m1 k2 m2
 subst k1 m1 k2 m2
 exact concat_meets ⟨_,o1,rfl⟩ ⟨_,o2,rfl⟩ noFill_tuple_add seq_tuple_add PySem.F.slot_tuple_add PySem.F.entry_tuple_add (PySem.F.args_tuple_add_2 _ _) (tuple_addW0 a b _ _ n1 n2 d1 d2 l1 l2 rfl) ⟨o1,o2,.ref b,H,I,rfl,q⟩
noncomputable def zY (K:PySem.W.Frag):R2:=λx y H Q=>Cb K x y H Q\/Cd K x y H Q
theorem Bo:OpR X (binaryOp .Add) (zY X.K):=op_catE.or wm
section
variable {K:PySem.W.Frag} {σ:St} {H H':Hp} {d:D} {ds es:List D} {t u ta tb te:TE} {n:Nat}
theorem yK {x y:V} {Q:VK} (h1:Dat K H (.tup ds) x) (h2:Dat K H (.tup es) y) (hl:ds.length+es.length≤1000) (q:∀ v H',Same H H'->Dat K H' (.tup (ds++es)) v->Q v H'):zY K x y H Q:=by
 obtain ⟨a,xs,ea,ha,da⟩:=h1.tupE
 obtain ⟨b,ys,eb,hb,db⟩:=h2.tupE
 have l1:=da.length
 have l2:=db.length
 cases ds with
 | nil =>
  have e:=da.nilE
  subst e
  exact .inl ⟨a,b,ys,ea,eb,ha,hb,q _ _ (Same.refl _) (Dat.tupI hb db)⟩
 | cons d ds =>
  refine .inr ⟨a,b,xs,ys,ea,eb,ha,hb,λz=>?_,cm (by omega),λz=>?_,λ_ p hp=>?_⟩
  ·rw [z] at l1;cases l1
  ·have e:es=[]:=List.length_eq_zero_iff.mp (by rw [l2,z];rfl)
   subst e
   rw [List.append_nil] at q
   exact q _ _ (Same.refl _) (Dat.tupI ha da)
  ·exact q _ _ (aG hp _) (Dat.tupI (SqT.of aq) ((aG hp _).dats (Dats.append da db)))
theorem BD (h1:RE K ta σ H (.tup ds)) (h2:RE K tb σ H (.tup es)) (hl:ds.length+es.length≤1000):RE K (tOp (zY K) ta tb) σ H (.tup (ds++es)):=λH1 s Q q =>
 h1 H1 s _ λv H2 s2 q2=>h2 H2 (s.trans s2) _ λw H3 s3 q3=>yK (s3.dat q2) q3 hl λv H' s' k=>q v H' (s2.trans (s3.trans s')) k
end
end L2
namespace L2
open PySem
end L2
namespace L2
open PySem PySem.Spec PySem.Calls PyProof.Rows PySem.W PySem.Builtin PySem.Builtin.ObjectAttr
section
variable {X:Cx} {pins:List (Addr × Obj)} {σ:St} {H:Hp} {s s':Shared} {E:XK} {e:Value}
end
section
variable {H:Hp} {e C dx b:Addr} {a0:Value} {f:Str} {v:V}
end
section
variable {X:Cx} {pins:List (Addr × Obj)} {σ:St} {H:Hp} {s s':Shared} {C fI e dx:Addr} {fd:FuncData} {k:Nat} {ps:List Str} {a0:Value} {f:Str} {v:V}
end
section
variable {K:PySem.W.Frag} {σ:St} {H:Hp} {tA:TA} {ar:List Ar} {d:D} {f:Str} {es:List D} {R:List Ar->D->Prop} {RL:List Ar->List D->Prop} {B:List Ar->Addr->Int->Prop} {E:XK} {Q:VK} {C:Addr} {i:Int}
end
end L2
namespace L2
open PySem PySem.Spec PySem.Calls PyProof.Rows
section
variable {prog:Program} {w:World} {A:Around} {E:Value->Shared->Prop} {s:Shared} {it t:Addr} {items:Array Value}
end
section
variable {X:Cx} {tg:Expr}
end
section
variable {X:Cx} {pins:List (Addr × Obj)} {σ:St} {H:Hp} {a:Addr} {cls C:Value} {dx:Option Addr} {s:Shared} {D:iV} {x n:Str} {i:Nat} {np hpos:Pos} {b₀:Stmt} {suite:List Stmt} {rest:List ExceptHandler} {th:TS} {b:Bool}
end
noncomputable abbrev mm (t:Addr):Obj:={ cls:=.type "list_iterator",data:=.fields #[.ref t,.int 0 0] }
theorem xm (t:Addr) (items:Array Value) (n:Nat) (d2:Option Addr) (s2:Array (Option Value)) :
  Meets (Builtin.«enumerate.__new__» ⟨[.type "enumerate",.ref t],[]⟩) (λ_ R s=>s.heap.get? t=some { cls:=.type "list",dict:=d2,data:=.seq items n,slots:=s2 } /\
   R (.ok (.ret (.ref (s.heap.push (mm t)).objs.size))) { s with heap:=(s.heap.push (mm t)).push (pD s.heap.objs.size) }) :=
 .of_wp λ_ _ _ _ s q=>by
  obtain ⟨h0,g0,d0,t0,o0⟩:=s
  obtain ⟨a1,q⟩:=q
  have isL:Heap.IsList (Shared.heap ⟨h0,g0,d0,t0,o0⟩) t items:=⟨_,a1,rfl,n,rfl⟩
  have self1:=sub_enumerate
  wp_walk
  refine wpAny_stack_any λrows=>?_
  refine wpAny_pure ?_
  split
  ·rename_i cl _ _ _ _ _
   cases (cl == Value.type "enumerate") <;> (wp_walk using wpAny_pyIter_list isL;exact ⟨_,rfl,q⟩)
  ·wp_walk using wpAny_pyIter_list isL
   exact ⟨_,rfl,q⟩
variable {prog:Program} {w:World} {A:Around} {s:Shared}
theorem uA {E:Value->Shared->Prop} {t:Addr} {items:Array Value} {Q:Value->Shared->Prop} (a1:s.heap.IsList t items)
  (q:Q (.ref (s.heap.objs.size+1)) { s with heap:=(s.heap.push (mm t)).push (pD s.heap.objs.size) }):wpAny (model prog w) A (call (.type "enumerate") [.ref t]) Q E s:=by
 obtain ⟨⟨c2,d2,dt2,s2⟩,a1,hc,n,hd⟩:=a1
 obtain rfl:c2=.type "list":=hc
 obtain rfl:dt2=.seq items n:=hd
 have sz:(s.heap.push (mm t)).objs.size=s.heap.objs.size+1:=Heap.size_push _ _
 refine callType_new PySem.F.called_enumerate (by decide) (PySem.F.typeCall_enumerate_1 _) (PySem.F.newCall_enumerate_1 _) (λo=>PySem.F.args_object_init_2 o _) PySem.F.entry_enumerate_new (xm t items n d2 s2) ⟨a1,?_⟩
 show _/\_
 rw [sz]
 refine ⟨⟨pD s.heap.objs.size,?_,rfl⟩,q⟩
 exact Heap.get?_push_at sz.symm rfl
noncomputable def DO (K:PySem.W.Frag) (a:Addr) (xs:List V):It:=⟨λi H=>i < xs.length/\SqL K H a xs,λi H x H'=>∃ p y,H p=none/\x=.ref p/\xs[i]?=some y/\H'=upd H p (.tup [.int i,y]),λi H=>i=xs.length/\SqL K H a xs⟩
variable {P:Program} {K:PySem.W.Frag} {elts:List Expr} {ps:Pos}
theorem vt {c1} (a e it:Addr) (xs:List V) (ne:e≠it):mx P w K (.Tuple elts c1 ps) (DO K a xs) [e,it] e (λi h=>a≠it/\a≠e/\∃ old,IsEnum h e it i old/\h.IsListIter it a i) where
 mem:=by simp
 obj:=λi h st b hb=>by
  obtain ⟨_,_,old,q1,q2⟩:=st
  rcases List.mem_cons.mp hb with z | z
  ·subst z;exact ⟨_,q1,λv z=>by cases z⟩
  ·have z:b=it:=by simpa using z
   subst z
   obtain ⟨o,e,c,d⟩:=q2
   exact ⟨o,e,λv z=>by rw [d] at z;cases z⟩
 keep:=λi h h' ⟨n1,n2,old,q1,q2⟩ k=>⟨n1,n2,old,k e (by simp) _ q1,q2.at λo z=>k it (by simp) o z⟩
 item:=by
  intro X hP hw hK hc i pins s σ H E I hf st hg
  subst hP hw hK
  obtain ⟨hi,hq⟩:=hg
  obtain ⟨nai,nae,old,q1,q2⟩:=st
  obtain ⟨its,rv,p,hz⟩:=I.list hq
  have hx:xs[i]?=some xs[i]:=List.getElem?_eq_getElem hi
  obtain ⟨u,hu,ru⟩:=rv.get hx
  have isT:s.heap.IsList a its.toArray:=p.isList
  have lr:=rv.length
  refine wpAny_pyNext_enum_itemD (Draws.list (A:=X.A.in1) (I.ok.hd hc) it a nai its.toArray) q1 ⟨q2,isT⟩ (by rw [List.size_toArray];omega) ne (by simp [ne,Ne.symm nae]) λy h' tk hy out st' tup sz kk=>⟨_,rfl,?_⟩
  have ey:y=u:=by
   have h1:its[i]?=some y:=by simpa using hy
   rw [hu] at h1
   exact (Option.some.inj h1).symm
  subst ey
  refine wpAny_letOwnedTupleGo_enum (s:={ s with heap:=h',toks:=tk+1 }) out λh2 e2 same=>?_
  have le:e < s.heap.objs.size:=Heap.lt_size q1
  have li:it < s.heap.objs.size:=let ⟨_,z,_⟩:=q2;Heap.lt_size z
  have tup2:h2.get? s.heap.objs.size=some { cls:=.type "tuple",data:=.seq #[.int i tk,y] }:=(same.2 _ (Nat.ne_of_gt le)).trans tup
  have I1:Inv X pins σ (upd H s.heap.objs.size (.tup [.int i,xs[i]])) { s with heap:=s.heap.push { cls:=.type "tuple",data:=.seq #[.int i tk,y] },toks:=s.toks } :=
   I.laid (o:=.tup [.int i,xs[i]]) (λb ob q=>Heap.get?_push_of_some _ q) (Nat.le_refl _) ⟨by rw [sizeLine_eq];simp,[.int i tk,y],.cons ⟨_,rfl⟩ (.cons ru .nil),IsTup.new _ _⟩
  have frees:∀ b,b < s.heap.objs.size->upd H s.heap.objs.size (.tup [.int i,xs[i]]) b=H b:=λb hb=>aJ (Nat.ne_of_lt hb)
  have I2:Inv X pins σ (upd H s.heap.objs.size (.tup [.int i,xs[i]])) { s with heap:=h2,toks:=tk+1 }:=by
   refine Inv.turnedL (s:={ s with heap:=s.heap.push { cls:=.type "tuple",data:=.seq #[.int i tk,y] },toks:=s.toks }) (h':=h2) (its:=[e,it]) (t':=tk+1) I1 (λb o hb q=>?_) (λb hb=>?_)
   ·have h1:b≠e:=λz=>hb (by simp [z])
    have h3:b≠it:=λz=>hb (by simp [z])
    by_cases hbs:b=s.heap.objs.size
    ·subst hbs
     have q':(s.heap.push { cls:=.type "tuple",data:=.seq #[.int i tk,y] }).get? s.heap.objs.size=some o:=q
     rw [Heap.get?_push_at rfl rfl] at q'
     cases q'
     exact tup2
    ·have q':s.heap.get? b=some o:=by
      have lt:b < s.heap.objs.size:=by
       have l1:b < (s.heap.push { cls:=.type "tuple",data:=.seq #[.int i tk,y] }).objs.size:=Heap.lt_size q
       rw [Heap.size_push] at l1
       exact Nat.lt_of_le_of_ne (Nat.le_of_lt_succ l1) hbs
      exact (Heap.get?_push_ne _ _ _ hbs).symm.trans q
     exact (same.2 b h1).trans (kk b o h1 h3 q')
   ·have lb:b < s.heap.objs.size:=by
     rcases List.mem_cons.mp hb with z | z
     ·rw [z];exact le
     ·rw [show b=it by simpa using z];exact li
    obtain ⟨f0,f1,f2,f3,f4,f5⟩:=hf b hb
    exact ⟨by rw [frees b lb];exact f0,f1,f3,f4,f5⟩
  refine ⟨.ref s.heap.objs.size,_,I2,rfl,⟨_,_,I.hok.fresh (Nat.le_refl _),rfl,hx,rfl⟩,⟨nai,nae,y,?_,?_⟩,λb hb=>?_⟩
  ·have ec:((i+1:Nat):Int)=(i:Int)+1:=by omega
   rw [ec];exact e2
  ·exact st'.1.at λo z=>(same.2 it (Ne.symm ne)).trans z
  ·have lb:b < s.heap.objs.size:=by
    rcases List.mem_cons.mp hb with z | z
    ·rw [z];exact le
    ·rw [show b=it by simpa using z];exact li
   rw [frees b lb];exact (hf b hb).1
 done:=by
  intro X hP hw hK hc i pins s σ H E I hf st hg
  subst hP hw hK
  obtain ⟨hi,hq⟩:=hg
  obtain ⟨nai,nae,old,q1,q2⟩:=st
  obtain ⟨its,rv,p,hz⟩:=I.list hq
  have lr:=rv.length
  have isT:s.heap.IsList a its.toArray:=p.isList
  obtain ⟨f0,f1,f2,f3,f4,f5⟩:=hf it (by simp)
  refine wpAny_pyNext_enum_endD (Draws.list (A:=X.A.in1) (I.ok.hd hc) it a nai its.toArray) q1 (by rw [List.size_toArray,← lr,← hi];exact ⟨q2,isT⟩) λh' eb=>⟨rfl,?_⟩
  exact I.turned (t':=s.toks) (λb o hb q=>eb b o hb q) f0 f1 f3 f4 f5
 self:=λA i s Q E ⟨_,_,_,q1,_⟩ q=>wpAny_pyIter_enum q1 q
noncomputable def zt (K:PySem.W.Frag) (ta:TA):TI:=λσ H R=>ta σ H λvs H1=>∃ a xs,vs=[.ref a]/\SqL K H1 a xs/\R (DO K a xs) H1
variable {X:Cx} {a:Expr} {ta:TA} {p pos:Pos}
theorem zS {c1} (hg:Gl X "enumerate") (hm:X.mg "enumerate"=none) (ha:PA X [a] ta) (hs:starEach [a] X.env=[(false,eval a X.env)]:=by rfl):PI X (.Tuple elts c1 ps) (.Call (.Name "enumerate" p) [a] [] pos) (zt X.K ta):=by
 intro pins s σ H R I h
 refine Call_ (jD I hg hm qx (PyProof.Rows.callWith_type1 (thn (ha pos pins s σ H _ I h) λus s1 ⟨vs,H1,I1,r1,q1⟩=>?_) hs rfl))
 obtain ⟨t,xs,ev,hq,q⟩:=q1
 subst ev
 obtain ⟨u,rfl,ru⟩:=gH r1
 cases ru
 obtain ⟨its,rv,pt,hz⟩:=I1.list hq
 have lt:t < s1.heap.objs.size:=let ⟨_,z,_⟩:=pt.isList;Heap.lt_size z
 refine uA pt.isList ?_
 have sz:(s1.heap.push (mm t)).objs.size=s1.heap.objs.size+1:=Heap.size_push _ _
 have q1:IsEnum ((s1.heap.push (mm t)).push (pD s1.heap.objs.size)) (s1.heap.objs.size+1) s1.heap.objs.size ((0:Nat):Int) .none:=Heap.get?_push_at sz.symm rfl
 have q2:((s1.heap.push (mm t)).push (pD s1.heap.objs.size)).IsListIter s1.heap.objs.size t 0:=⟨_,Heap.get?_push_of_some _ (Heap.get?_push_at rfl rfl),rfl,rfl⟩
 refine wpAny_pyIter_enum (s:={ s1 with heap:=(s1.heap.push (mm t)).push (pD s1.heap.objs.size) }) q1 ?_
 refine ⟨s1.heap.objs.size+1,[s1.heap.objs.size+1,s1.heap.objs.size],_,_,H1,rfl,I1.kept (t':=s1.toks) (λb o e=>Heap.get?_push_of_some _ (Heap.get?_push_of_some _ e)),vt t _ _ xs (Nat.ne_of_gt (Nat.lt_succ_self _)),⟨Nat.ne_of_lt lt,Nat.ne_of_lt (Nat.lt_succ_of_lt lt),.none,q1,q2⟩,λb hb=>?_,q⟩
 rcases List.mem_cons.mp hb with z | z
 ·subst z;exact I1.fpOk (Nat.le_succ _) (I1.hok.fresh (Nat.le_succ _))
 ·have z:b=s1.heap.objs.size:=by simpa using z
  subst z;exact I1.fpOk (Nat.le_refl _) (I1.hok.fresh (Nat.le_refl _))
theorem Ai {σ:St} {H:Hp} {tl:TE} {te:TE} {mk:St->St} {i j:Nat} {cs:List D} (h:RL K tl σ H cs) (hc:cs.length≤1000) (es:List D) (hn:es.length=cs.length) (ne:i≠j)
  (h0:((mk σ).set i none).set j none=mk σ)
  (turn:∀ H1 (k:Nat) c e w,Same H H1->cs[k]?=some c->es[k]?=some e->Dat K H1 c w->RE K te (((mk σ).set i (some (.int k))).set j (some w)) H1 e) :
  RC K (iA (zt K (bR tl dQ)) mk (xp K 2 (jZ (cU i) (jZ (cU j) yZ))) gE te) σ H es:=λH1 s Q q=>by
 refine h H1 s _ λvs H2 s2 q2=>?_
 obtain ⟨a,us,e1,ha,da⟩:=q2
 subst e1
 have lu:=da.length
 refine ⟨a,us,rfl,ha.sqL,λl hl2=>?_⟩
 have s02:Same H H2:=s.trans s2
 refine ⟨λn m σ' G=>m=us.length - n/\n≤us.length/\(∃ z1 z2,σ'=((mk σ).set i z1).set j z2)/\Same H2 G/\∃ ys,G l=some (.lst ys)/\Dats K G (es.take n) ys,⟨us.length,by omega,Nat.zero_le _,⟨none,none,h0.symm⟩,aG hl2 _,[],aq,by rw [List.take_zero];exact Dats.nil⟩,?_⟩
 rintro n m σ' G ⟨rfl,hle,⟨z1,z2,rfl⟩,sG,ys,hy,dy⟩
 by_cases hlt:n < us.length
 ·refine .inr ⟨⟨hlt,(sG.aLst ha).sqL⟩,λσ'' G'=>(∃ z1 z2,σ''=((mk σ).set i z1).set j z2)/\Same H2 G'/\∃ ys,G' l=some (.lst ys)/\Dats K G' (es.take (n+1)) ys,λσ'' G' w=>⟨us.length - (n+1),by omega,rfl,hlt,w.1,w.2⟩,λx G' y=>?_⟩
  obtain ⟨p,w,hp,rfl,hw,rfl⟩:=y
  have sn:Same G (upd G p (.tup [.int n,w])):=aG hp _
  have s2n:=sG.trans sn
  obtain ⟨c,ec,hcv⟩:=da.getV hw
  have hne:n < es.length:=by omega
  refine ⟨p,[.int n,w],rfl,SqT.of aq,rfl,.int n,_,rfl,w,_,rfl,rfl,?_⟩
  simp only [gE,if_true]
  rw [wH _ ne]
  refine RE.use (turn _ n c es[n] w (s02.trans s2n) ec (List.getElem?_eq_getElem hne) (s2n.dat hcv)) λv G4 s4 q4=>?_
  have hy4:=s4 _ _ (sn _ _ hy)
  have lys:ys.length=n:=by rw [← dy.length,List.length_take];omega
  refine ⟨ys,hy4,cx (by omega),⟨_,_,rfl⟩,λx o hx=>?_,ys++[v],aq,?_⟩
  ·rw [aJ (az hx hl2)]
   exact s4 _ _ (s2n _ _ hx)
  ·have g:cW K G4 (upd G4 l (.lst (ys++[v]))):=But.grow (t:=l) (But.upd (Same.refl G4).but) hy4 aq
   rw [List.take_add_one,List.getElem?_eq_getElem hne]
   exact Dats.append (Dats.mono g _ (s4.dats (sn.dats dy))) (Dats.cons (Dat.mono g _ q4) Dats.nil)
 ·have e:n=us.length:=by omega
  subst e
  refine .inl ⟨⟨rfl,(sG.aLst ha).sqL⟩,?_⟩
  rw [List.take_of_length_le (by omega)] at dy
  exact q l ys G (s2.free hl2) (s2.trans sG) hy dy
noncomputable abbrev fA (h:Heap) (T:Addr) (a b c:Value):Prop:=h.get? T=some { cls:=.type "tuple",data:=.seq #[a,b,c] }
structure Z3 (z TI TO i1 i2 i3 l1 l2 l3:Addr):Prop where
 TIz:TI≠z
 TOz:TO≠z
 TITO:TI≠TO
 i12:i1≠i2
 i13:i1≠i3
 i23:i2≠i3
 it:∀ i,i=i1\/i=i2\/i=i3->i≠z/\TI≠i/\TO≠i
 ls:∀ l,l=l1\/l=l2\/l=l3->l≠z/\l≠TO/\l≠i1/\l≠i2/\l≠i3
section
variable {prog:Program} {w:World} {A:Around} {E:Value->Shared->Prop} {s:Shared} {z TI TO i1 i2 i3 l1 l2 l3:Addr} {k:Nat} {xs ys zs:Array Value}
variable {c x:Value}
theorem rQ {T:Addr} {a b:Value} {j:Nat} {Q:Unit->Shared->Prop} (hT:fA s.heap T a b c)
  (h:∀ h',h'.get? T=some { cls:=.type "tuple",data:=.seq ((#[a,b,c]:Array Value).setIfInBounds j x) }->Heap.SameBut T s.heap h'->Q () { s with heap:=h' }) :
  wpAny (model prog w) A (updateSeq T (·.setIfInBounds j x)) Q E s :=
 wpAny_updateSeq hT rfl (h _ (by rw [Heap.get?_update_self _ hT rfl];simp [Obj.mapSeq]) (Heap.SameBut.update ..))
variable {a1 a2 a3:Value}
theorem yc {y:Value} {Q:Value->Shared->Prop} (hz:IsZip s.heap z TI TO .none) (hI:fA s.heap TI (.ref i1) (.ref i2) (.ref i3)) (hO:fA s.heap TO a1 a2 a3)
  (h1:s.heap.IsListIter i1 l1 k) (h2:s.heap.IsListIter i2 l2 k) (h3:s.heap.IsListIter i3 l3 k) (e1:s.heap.IsList l1 xs) (e2:s.heap.IsList l2 ys) (e3:s.heap.IsList l3 zs) (hx:xs[k]?=some x) (hy:ys[k]?=some y) (hc:zs[k]?=some c) (D:Z3 z TI TO i1 i2 i3 l1 l2 l3)
  (q:∀ h',IsZip h' z TI TO (rawInt s.heap.objs.size)->fA h' TO x y c->h'.IsListIter i1 l1 (k+1)->h'.IsListIter i2 l2 (k+1)->h'.IsListIter i3 l3 (k+1)->h'.get? s.heap.objs.size=some { cls:=.type "tuple",data:=.seq #[x,y,c] } ->
   (∀ b o,b≠z->b≠TO->b≠i1->b≠i2->b≠i3->s.heap.get? b=some o->h'.get? b=some o)->Q (.ref s.heap.objs.size) { s with heap:=h' }) :
  wpAny (model prog w) A (Builtin.«zip.__next__» ⟨[.ref z],[]⟩) (λfin s'=>∃ v,fin=.done (.ret v)/\Q v s') E s:=by
 obtain ⟨n1z,nI1,nO1⟩:=D.it i1 (.inl rfl)
 obtain ⟨n2z,nI2,nO2⟩:=D.it i2 (.inr (.inl rfl))
 obtain ⟨n3z,nI3,nO3⟩:=D.it i3 (.inr (.inr rfl))
 obtain ⟨m1z,m1O,m11,m12,m13⟩:=D.ls l1 (.inl rfl)
 obtain ⟨m2z,m2O,m21,m22,m23⟩:=D.ls l2 (.inr (.inl rfl))
 obtain ⟨m3z,m3O,m31,m32,m33⟩:=D.ls l3 (.inr (.inr rfl))
 show wpAny _ _ (field (.ref z) 2 >>= _) _ _ _
 refine wpAny_bind (wpAny_field hz rfl rfl ?_)
 show wpAny _ _ (field (.ref z) 3 >>= _) _ _ _
 refine wpAny_bind (wpAny_field hz rfl rfl ?_)
 refine wpAny_bind (wpAny_seqItems hI rfl ?_)
 refine wpAny_bind (wpAny_bind (wpAny_field hz rfl rfl (wpAny_pure ?_)))
 refine wpAny_bind (wpAny_rule ?_)
 refine wpAny_bind (wpAny_field hz rfl rfl ?_)
 refine wpAny_bind (wpAny_setField_rec hz (by simp) λha za sa=>?_)
 replace za:IsZip ha z TI TO .ellipsis:=za
 rw [show (#[Value.ref i1,Value.ref i2,Value.ref i3]:Array Value).toList.zipIdx=[(.ref i1,0),(.ref i2,1),(.ref i3,2)] from rfl,List.forIn_cons]
 have oa:fA ha TO a1 a2 a3:=(sa.2 TO D.TOz).trans hO
 refine wpAny_bind (wpAny_bind (wpAny_bind (wpAny_onRaise (wpAny_bind (wpAny_nextOf_list_item (s:={ s with heap:=ha }) (h1.at λo e=>(sa.2 i1 n1z).trans e) (e1.extBut sa.extBut m1z) hx λhb p1 sb=>wpAny_pure ?_)))))
 replace sb:Heap.SameBut i1 ha hb:=sb
 have ob:fA hb TO a1 a2 a3:=(sb.2 TO nO1).trans oa
 refine wpAny_bind (wpAny_seqItems (s:={ s with heap:=hb }) ob rfl ?_)
 refine wpAny_bind (rQ (s:={ s with heap:=hb }) ob λhd od sd=>?_)
 replace sd:Heap.SameBut TO hb hd:=sd
 replace od:fA hd TO x a2 a3:=od
 refine wpAny_bind (wpAny_letGo (wpAny_pure ?_))
 show wpAny _ _ (forIn [(Value.ref i2,1),(Value.ref i3,2)] _ _) _ _ _
 rw [List.forIn_cons]
 have g2:hd.IsListIter i2 l2 k:=h2.at λo e=>(sd.2 i2 (Ne.symm nO2)).trans ((sb.2 i2 (Ne.symm D.i12)).trans ((sa.2 i2 n2z).trans e))
 have f2:hd.IsList l2 ys:=((e2.extBut sa.extBut m2z).extBut sb.extBut m21).extBut sd.extBut m2O
 refine wpAny_bind (wpAny_bind (wpAny_onRaise (wpAny_bind (wpAny_nextOf_list_item (s:={ s with heap:=hd }) g2 f2 hy λhe p2 se=>wpAny_pure ?_))))
 replace se:Heap.SameBut i2 hd he:=se
 have oe:fA he TO x a2 a3:=(se.2 TO nO2).trans od
 refine wpAny_bind (wpAny_seqItems (s:={ s with heap:=he }) oe rfl ?_)
 refine wpAny_bind (rQ (s:={ s with heap:=he }) oe λhf of sf=>?_)
 replace sf:Heap.SameBut TO he hf:=sf
 replace of:fA hf TO x y a3:=of
 refine wpAny_bind (wpAny_letGo (wpAny_pure ?_))
 show wpAny _ _ (forIn [(Value.ref i3,2)] _ _) _ _ _
 rw [List.forIn_cons]
 have g3:hf.IsListIter i3 l3 k:=h3.at λo e=>(sf.2 i3 (Ne.symm nO3)).trans ((se.2 i3 (Ne.symm D.i23)).trans ((sd.2 i3 (Ne.symm nO3)).trans ((sb.2 i3 (Ne.symm D.i13)).trans ((sa.2 i3 n3z).trans e))))
 have f3:hf.IsList l3 zs:=((((e3.extBut sa.extBut m3z).extBut sb.extBut m31).extBut sd.extBut m3O).extBut se.extBut m32).extBut sf.extBut m3O
 refine wpAny_bind (wpAny_bind (wpAny_onRaise (wpAny_bind (wpAny_nextOf_list_item (s:={ s with heap:=hf }) g3 f3 hc λhg p3 sg=>wpAny_pure ?_))))
 replace sg:Heap.SameBut i3 hf hg:=sg
 have og:fA hg TO x y a3:=(sg.2 TO nO3).trans of
 refine wpAny_bind (wpAny_seqItems (s:={ s with heap:=hg }) og rfl ?_)
 refine wpAny_bind (rQ (s:={ s with heap:=hg }) og λhh oh sh=>?_)
 replace sh:Heap.SameBut TO hg hh:=sh
 replace oh:fA hh TO x y c:=oh
 refine wpAny_bind (wpAny_letGo (wpAny_pure ?_))
 show wpAny _ _ (forIn [] _ _) _ _ _
 rw [List.forIn_nil]
 refine wpAny_pure ?_
 show wpAny _ _ (seqItems? (.ref TO) >>= _) _ _ _
 refine wpAny_bind (wpAny_seqItems (s:={ s with heap:=hh }) oh rfl ?_)
 refine wpAny_bind (wpAny_newTuple ?_)
 have szh:hh.objs.size=s.heap.objs.size:=by rw [sh.1,sg.1,sf.1,se.1,sd.1,sb.1,sa.1]
 have all:∀ b,b≠z->b≠TO->b≠i1->b≠i2->b≠i3->hh.get? b=s.heap.get? b:=λb n1 n2 n3 n4 n5=>(sh.2 b n2).trans ((sg.2 b n5).trans ((sf.2 b n2).trans ((se.2 b n4).trans ((sd.2 b n2).trans ((sb.2 b n3).trans (sa.2 b n1))))))
 have zh:IsZip hh z TI TO .ellipsis:=(sh.2 z (Ne.symm D.TOz)).trans ((sg.2 z (Ne.symm n3z)).trans ((sf.2 z (Ne.symm D.TOz)).trans ((se.2 z (Ne.symm n2z)).trans ((sd.2 z (Ne.symm D.TOz)).trans ((sb.2 z (Ne.symm n1z)).trans za)))))
 have q1:hh.IsListIter i1 l1 (k+1):=p1.at λo e=>(sh.2 i1 (Ne.symm nO1)).trans ((sg.2 i1 D.i13).trans ((sf.2 i1 (Ne.symm nO1)).trans ((se.2 i1 D.i12).trans ((sd.2 i1 (Ne.symm nO1)).trans e))))
 have q2:hh.IsListIter i2 l2 (k+1):=p2.at λo e=>(sh.2 i2 (Ne.symm nO2)).trans ((sg.2 i2 D.i23).trans ((sf.2 i2 (Ne.symm nO2)).trans e))
 have q3:hh.IsListIter i3 l3 (k+1):=p3.at λo e=>(sh.2 i3 (Ne.symm nO3)).trans e
 have lz:z < s.heap.objs.size:=Heap.lt_size hz
 have push:∀ b o,hh.get? b=some o->(hh.push { cls:=.type "tuple",data:=.seq #[x,y,c] }).get? b=some o:=λb o e=>Heap.get?_push_of_some _ e
 have tf:(hh.push { cls:=.type "tuple",data:=.seq #[x,y,c] }).get? s.heap.objs.size=some { cls:=.type "tuple",data:=.seq #[x,y,c] }:=Heap.get?_push_at szh.symm rfl
 have zf:IsZip (hh.push { cls:=.type "tuple",data:=.seq #[x,y,c] }) z TI TO .ellipsis:=push _ _ zh
 generalize hh.push { cls:=.type "tuple",data:=.seq #[x,y,c] }=hp at push tf zf
 show wpAny _ _ (Builtin.SmallTypes.ownedTupleHandOut (.ref z) (.ref hh.objs.size) >>= _) _ _ _
 rw [szh]
 refine wpAny_bind (wpAny_bind (wpAny_setField_rec (s:={ s with heap:=hp }) zf (by simp) λhq zq sq=>wpAny_setField_rec (s:={ s with heap:=hq }) zq (by simp) λhr zr sr=>wpAny_pure ⟨_,rfl,?_⟩))
 replace sq:Heap.SameBut z hp hq:=sq
 replace sr:Heap.SameBut z hq hr:=sr
 have on:∀ b o,b≠z->hp.get? b=some o->hr.get? b=some o:=λb o n e=>(sr.2 b n).trans ((sq.2 b n).trans e)
 exact q hr zr (on _ _ D.TOz (push _ _ oh)) (q1.at λo e=>on _ _ n1z (push _ _ e)) (q2.at λo e=>on _ _ n2z (push _ _ e)) (q3.at λo e=>on _ _ n3z (push _ _ e)) (on _ _ (Nat.ne_of_gt lz) tf) λb o n1 n2 n3 n4 n5 e=>on b o n1 (push b o ((all b n1 n2 n3 n4 n5).trans e))
theorem yb {Q:Fin->Shared->Prop} (hh:A.handled=none) (hz:IsZip s.heap z TI TO .none) (hI:fA s.heap TI (.ref i1) (.ref i2) (.ref i3)) (hO:fA s.heap TO a1 a2 a3) (h1:s.heap.IsListIter i1 l1 k)
  (e1:s.heap.IsList l1 xs) (hx:xs[k]?=none) (D:Z3 z TI TO i1 i2 i3 l1 l2 l3)
  (q:∀ h' e,(∀ b o,b≠z->b≠i1->s.heap.get? b=some o->h'.get? b=some o)->(∃ o,h'.get? e=some o/\o.cls=.type "StopIteration")->E (.ref e) { s with heap:=h' }):wpAny (model prog w) A (Builtin.«zip.__next__» ⟨[.ref z],[]⟩) Q E s:=by
 obtain ⟨n1z,nI1,nO1⟩:=D.it i1 (.inl rfl)
 obtain ⟨m1z,m1O,m11,m12,m13⟩:=D.ls l1 (.inl rfl)
 show wpAny _ _ (field (.ref z) 2 >>= _) _ _ _
 refine wpAny_bind (wpAny_field hz rfl rfl ?_)
 show wpAny _ _ (field (.ref z) 3 >>= _) _ _ _
 refine wpAny_bind (wpAny_field hz rfl rfl ?_)
 refine wpAny_bind (wpAny_seqItems hI rfl ?_)
 refine wpAny_bind (wpAny_bind (wpAny_field hz rfl rfl (wpAny_pure ?_)))
 refine wpAny_bind (wpAny_rule ?_)
 refine wpAny_bind (wpAny_field hz rfl rfl ?_)
 refine wpAny_bind (wpAny_setField_rec hz (by simp) λha za sa=>?_)
 replace za:IsZip ha z TI TO .ellipsis:=za
 rw [show (#[Value.ref i1,Value.ref i2,Value.ref i3]:Array Value).toList.zipIdx=[(.ref i1,0),(.ref i2,1),(.ref i3,2)] from rfl,List.forIn_cons]
 refine wpAny_bind (wpAny_bind (wpAny_bind (wpAny_onRaise (wpAny_bind (wpAny_nextOf_list_end (s:={ s with heap:=ha }) hh (h1.at λo e=>(sa.2 i1 n1z).trans e) (e1.extBut sa.extBut m1z) hx λhb e sb he=>?_)))))
 replace sb:Heap.ExtBut i1 ha hb:=sb
 have zb:IsZip hb z TI TO .ellipsis:=sb z _ (Ne.symm n1z) za
 obtain ⟨oe,hoe,hce⟩:=he
 have nez:e≠z:=λy=>by rw [y,zb] at hoe;cases hoe;simp at hce
 refine wpAny_setField_rec (s:={ s with heap:=hb }) zb (by simp) λhc zc sc=>q hc e (λb o n1 n2 hb'=>?_) ⟨oe,(sc.2 e nez).trans hoe,hce⟩
 exact (sc.2 b n1).trans (sb b o n2 ((sa.2 b n1).trans hb'))
end
set_option maxHeartbeats 8000000 in
theorem AH (t1 t2 t3:Addr) (xs ys zs:Array Value) :
  Meets (Builtin.«zip.__new__» ⟨[.type "zip",.ref t1,.ref t2,.ref t3],[]⟩) (λ_ R s=>s.heap.IsList t1 xs/\s.heap.IsList t2 ys/\s.heap.IsList t3 zs /\
   ∀ h',IsZip h' (s.heap.objs.size+5) (s.heap.objs.size+3) (s.heap.objs.size+4) .none->fA h' (s.heap.objs.size+3) (.ref s.heap.objs.size) (.ref (s.heap.objs.size+1)) (.ref (s.heap.objs.size+2))->fA h' (s.heap.objs.size+4) .none .none .none ->
    h'.IsListIter s.heap.objs.size t1 0->h'.IsListIter (s.heap.objs.size+1) t2 0->h'.IsListIter (s.heap.objs.size+2) t3 0->(∀ b o,s.heap.get? b=some o->h'.get? b=some o)->R (.ok (.ret (.ref (s.heap.objs.size+5)))) { s with heap:=h' }) :=
 .of_wp λ_ _ _ _ s q=>by
  obtain ⟨h0,g0,d0,t0,o0⟩:=s
  obtain ⟨a1,a2,a3,q⟩:=q
  have self1:=sub_zip
  have b1:Heap.IsList (Shared.heap ⟨h0,g0,d0,t0,o0⟩) t1 xs:=a1
  have b2:Heap.IsList (Shared.heap ⟨h0.push (uH t1),g0,d0,t0,o0⟩) t2 ys:=Heap.IsList.push a2 _
  have b3:Heap.IsList (Shared.heap ⟨(h0.push (uH t1)).push (uH t2),g0,d0,t0,o0⟩) t3 zs:=Heap.IsList.push (Heap.IsList.push a3 _) _
  wp_walk using wpAny_pyIter_list b1,wpAny_pyIter_list b2,wpAny_pyIter_list b3
  refine ⟨_,rfl,?_⟩
  simp only [Heap.size_push]
  have P:∀ {h:Heap} {b:Addr} {o o':Obj},h.get? b=some o->(h.push o').get? b=some o:=λe=>Heap.get?_push_of_some _ e
  refine q _ ?_ ?_ ?_ ?_ ?_ ?_ λb o e=>?_
  ·exact Heap.get?_push_at (by simp [Heap.size_push]) rfl
  ·exact P (P (Heap.get?_push_at (by simp [Heap.size_push]) rfl))
  ·exact P (Heap.get?_push_at (by simp [Heap.size_push]) rfl)
  ·exact ⟨_,P (P (P (P (P (Heap.get?_push_at (by simp [Heap.size_push]) rfl))))),rfl,rfl⟩
  ·exact ⟨_,P (P (P (P (Heap.get?_push_at (by simp [Heap.size_push]) rfl)))),rfl,rfl⟩
  ·exact ⟨_,P (P (P (Heap.get?_push_at (by simp [Heap.size_push]) rfl))),rfl,rfl⟩
  ·exact P (P (P (P (P (P e)))))
theorem ya (a b c:Value):checkTypeCall "zip" ⟨[a,b,c],[]⟩=pure ():=by kernel_rfl
theorem zF (a b c:Value):checkBuiltinCall "zip.__new__" ⟨[.type "zip",a,b,c],[]⟩=pure ():=by kernel_rfl
theorem Ea (a b c d:Value):argsOk "object.__init__" ⟨[a,b,c,d],[]⟩:=by
 unfold argsOk
 rw [signature?_of (n:="__tini__".toList) (o:="tcejbo".toList) (by kernel_rfl) PySem.F.owner_object]
 kernel_rfl
theorem xh {E:Value->Shared->Prop} {t1 t2 t3:Addr} {xs ys zs:Array Value} {Q:Value->Shared->Prop} (a1:s.heap.IsList t1 xs) (a2:s.heap.IsList t2 ys) (a3:s.heap.IsList t3 zs)
  (q:∀ h',IsZip h' (s.heap.objs.size+5) (s.heap.objs.size+3) (s.heap.objs.size+4) .none->fA h' (s.heap.objs.size+3) (.ref s.heap.objs.size) (.ref (s.heap.objs.size+1)) (.ref (s.heap.objs.size+2))->fA h' (s.heap.objs.size+4) .none .none .none ->
   h'.IsListIter s.heap.objs.size t1 0->h'.IsListIter (s.heap.objs.size+1) t2 0->h'.IsListIter (s.heap.objs.size+2) t3 0->(∀ b o,s.heap.get? b=some o->h'.get? b=some o)->Q (.ref (s.heap.objs.size+5)) { s with heap:=h' }) :
  wpAny (model prog w) A (call (.type "zip") [.ref t1,.ref t2,.ref t3]) Q E s :=
 callType_new PySem.F.called_zip (by decide) (ya _ _ _) (zF _ _ _) (λo=>Ea o _ _ _) PySem.F.entry_zip_new (AH t1 t2 t3 xs ys zs) ⟨a1,a2,a3,λh' z1 z2 z3 z4 z5 z6 kk=>⟨⟨_,z1,rfl⟩,q h' z1 z2 z3 z4 z5 z6 kk⟩⟩
noncomputable def It3 (K:PySem.W.Frag) (a b c:Addr) (xs ys zs:List V):It:=⟨λi H=>i < xs.length/\i < ys.length/\i < zs.length/\SqL K H a xs/\SqL K H b ys/\SqL K H c zs,λi H x H'=>∃ p u v y,H p=none/\x=.ref p/\xs[i]?=some u/\ys[i]?=some v/\zs[i]?=some y/\H'=upd H p (.tup [u,v,y]),λi H=>i=xs.length/\SqL K H a xs⟩
theorem x9 {c1} (a b c z TI TO i1 i2 i3:Addr) (xs ys zs:List V) (D:Z3 z TI TO i1 i2 i3 a b c):mx P w K (.Tuple elts c1 ps) (It3 K a b c xs ys zs) [z,TI,TO,i1,i2,i3] z
  (λi h=>∃ d e f,IsZip h z TI TO .none/\fA h TI (.ref i1) (.ref i2) (.ref i3)/\fA h TO d e f/\h.IsListIter i1 a i/\h.IsListIter i2 b i/\h.IsListIter i3 c i) where
 mem:=by simp
 obj:=λi h zq b hb=>by
  obtain ⟨d,e,f,q1,q2,q3,q4,q5,q6⟩:=zq
  simp only [List.mem_cons,List.not_mem_nil,or_false] at hb
  rcases hb with rfl | rfl | rfl | rfl | rfl | rfl
  ·exact ⟨_,q1,λv e=>by cases e⟩
  ·exact ⟨_,q2,λv e=>by cases e⟩
  ·exact ⟨_,q3,λv e=>by cases e⟩
  ·obtain ⟨o,e,c,d⟩:=q4;exact ⟨o,e,λv z=>by rw [d] at z;cases z⟩
  ·obtain ⟨o,e,c,d⟩:=q5;exact ⟨o,e,λv z=>by rw [d] at z;cases z⟩
  ·obtain ⟨o,e,c,d⟩:=q6;exact ⟨o,e,λv z=>by rw [d] at z;cases z⟩
 keep:=λi h h' ⟨d,e,f,q1,q2,q3,q4,q5,q6⟩ k=>⟨d,e,f,k z (by simp) _ q1,k TI (by simp) _ q2,k TO (by simp) _ q3,q4.at λo e=>k i1 (by simp) o e,q5.at λo e=>k i2 (by simp) o e,q6.at λo e=>k i3 (by simp) o e⟩
 item:=by
  intro X hP hw hK hc i pins s σ H E I hf st hg
  subst hP hw hK
  obtain ⟨d,e,f,q1,q2,q3,q4,q5,q6⟩:=st
  obtain ⟨hi,hj,hk,ha,hb,hcl⟩:=hg
  obtain ⟨us,ru,pu,_⟩:=I.list ha
  obtain ⟨vs,rv,pv,_⟩:=I.list hb
  obtain ⟨ws,rw',pw,_⟩:=I.list hcl
  have hx:xs[i]?=some xs[i]:=List.getElem?_eq_getElem hi
  have hy:ys[i]?=some ys[i]:=List.getElem?_eq_getElem hj
  have hz:zs[i]?=some zs[i]:=List.getElem?_eq_getElem hk
  obtain ⟨u,hu,r1⟩:=ru.get hx
  obtain ⟨v,hv,r2⟩:=rv.get hy
  obtain ⟨y,hw,r3⟩:=rw'.get hz
  have ty:s.TypeIs (.ref z) "zip":=⟨_,q1,rfl⟩
  obtain ⟨n1z,nI1,nO1⟩:=D.it i1 (.inl rfl)
  obtain ⟨n2z,nI2,nO2⟩:=D.it i2 (.inr (.inl rfl))
  obtain ⟨n3z,nI3,nO3⟩:=D.it i3 (.inr (.inr rfl))
  unfold pyNext
  refine wpAny_bind (wpAny_attempt (wpAny_callSpecial?_slot (name:=Str.ofString "__next__") ty PySem.F.slot_zip_next (wpAny_call_entry PySem.F.slot_zip_next ty PySem.F.entry_zip_next ?_ (PySem.F.args_zip_next_1 _))))
  refine yc (x:=u) (y:=v) (c:=y) q1 q2 q3 q4 q5 q6 (show s.heap.IsList a us.toArray from pu.isList) (show s.heap.IsList b vs.toArray from pv.isList) (show s.heap.IsList c ws.toArray from pw.isList) (by simpa using hu) (by simpa using hv) (by simpa using hw) D λh' w1 w2 w3 w4 w5 w6 w7=>wpAny_pure ⟨_,rfl,?_⟩
  refine wpAny_letOwnedTupleGo_zip (s:={ s with heap:=h' }) w1 λh2 e2 same=>?_
  replace same:Heap.SameBut z h' h2:=same
  have lz:z < s.heap.objs.size:=Heap.lt_size q1
  have lTI:TI < s.heap.objs.size:=Heap.lt_size q2
  have lTO:TO < s.heap.objs.size:=Heap.lt_size q3
  have l1:i1 < s.heap.objs.size:=by obtain ⟨o,e,_⟩:=q4;exact Heap.lt_size e
  have l2:i2 < s.heap.objs.size:=by obtain ⟨o,e,_⟩:=q5;exact Heap.lt_size e
  have l3:i3 < s.heap.objs.size:=by obtain ⟨o,e,_⟩:=q6;exact Heap.lt_size e
  have low:∀ b ∈ [z,TI,TO,i1,i2,i3],b < s.heap.objs.size:=λb hb=>by
   simp only [List.mem_cons,List.not_mem_nil,or_false] at hb
   rcases hb with rfl | rfl | rfl | rfl | rfl | rfl <;> assumption
  have tup2:h2.get? s.heap.objs.size=some { cls:=.type "tuple",data:=.seq #[u,v,y] }:=(same.2 _ (Nat.ne_of_gt lz)).trans w6
  have I1:Inv X pins σ (upd H s.heap.objs.size (.tup [xs[i],ys[i],zs[i]])) { s with heap:=s.heap.push { cls:=.type "tuple",data:=.seq #[u,v,y] },toks:=s.toks } :=
   I.laid (o:=.tup [xs[i],ys[i],zs[i]]) (λb ob q=>Heap.get?_push_of_some _ q) (Nat.le_refl _) ⟨by rw [sizeLine_eq];simp,[u,v,y],.cons r1 (.cons r2 (.cons r3 .nil)),IsTup.new _ _⟩
  have frees:∀ b,b < s.heap.objs.size->upd H s.heap.objs.size (.tup [xs[i],ys[i],zs[i]]) b=H b:=λb hb=>aJ (Nat.ne_of_lt hb)
  have I2:Inv X pins σ (upd H s.heap.objs.size (.tup [xs[i],ys[i],zs[i]])) { s with heap:=h2,toks:=s.toks }:=by
   refine Inv.turnedL (s:={ s with heap:=s.heap.push { cls:=.type "tuple",data:=.seq #[u,v,y] },toks:=s.toks }) (h':=h2) (its:=[z,TI,TO,i1,i2,i3]) (t':=s.toks) I1 (λb o hb q=>?_) (λb hb=>?_)
   ·simp only [List.mem_cons,List.not_mem_nil,or_false,not_or] at hb
    obtain ⟨n1,n2,n3,n4,n5,n6⟩:=hb
    by_cases hbs:b=s.heap.objs.size
    ·subst hbs
     have q':(s.heap.push { cls:=.type "tuple",data:=.seq #[u,v,y] }).get? s.heap.objs.size=some o:=q
     rw [Heap.get?_push_at rfl rfl] at q'
     cases q'
     exact tup2
    ·have q':s.heap.get? b=some o:=(Heap.get?_push_ne _ _ _ hbs).symm.trans q
     exact (same.2 b n1).trans (w7 b o n1 n3 n4 n5 n6 q')
   ·obtain ⟨f0,f1,f2,f3,f4,f5⟩:=hf b hb
    exact ⟨by rw [frees b (low b hb)];exact f0,f1,f3,f4,f5⟩
  refine ⟨.ref s.heap.objs.size,_,I2,rfl,⟨_,_,_,_,I.hok.fresh (Nat.le_refl _),rfl,hx,hy,hz,rfl⟩,⟨u,v,y,e2,?_,?_,?_,?_,?_⟩,λb hb=>?_⟩
  ·exact (same.2 TI D.TIz).trans (w7 TI _ D.TIz D.TITO nI1 nI2 nI3 q2)
  ·exact (same.2 TO D.TOz).trans w2
  ·exact w3.at λo e=>(same.2 i1 n1z).trans e
  ·exact w4.at λo e=>(same.2 i2 n2z).trans e
  ·exact w5.at λo e=>(same.2 i3 n3z).trans e
  ·rw [frees b (low b hb)];exact (hf b hb).1
 done:=by
  intro X hP hw hK hc i pins s σ H E I hf st hg
  subst hP hw hK
  obtain ⟨d,e,f,q1,q2,q3,q4,q5,q6⟩:=st
  obtain ⟨hi,ha⟩:=hg
  obtain ⟨us,ru,pu,_⟩:=I.list ha
  have lr:=ru.length
  have ty:s.TypeIs (.ref z) "zip":=⟨_,q1,rfl⟩
  unfold pyNext
  refine wpAny_bind (wpAny_attempt (wpAny_callSpecial?_slot (name:=Str.ofString "__next__") ty PySem.F.slot_zip_next (wpAny_call_entry PySem.F.slot_zip_next ty PySem.F.entry_zip_next ?_ (PySem.F.args_zip_next_1 _))))
  refine yb (I.ok.hd hc) q1 q2 q3 q4 (show s.heap.IsList a us.toArray from pu.isList) (by simp;omega) D λh' e kk ⟨o,ho,hco⟩=>?_
  refine wpAny_bind (wpAny_isInstance (T:="StopIteration") (b:=true) ⟨o,ho,hco⟩ isSubtype_stop (wpAny_pure ⟨rfl,?_⟩))
  refine Inv.turnedL (s:=s) (h':=h') (its:=[z,i1]) (t':=s.toks) I (λb o hb q=>kk b o (λy=>hb (by simp [y])) (λy=>hb (by simp [y])) q) (λb hb=>?_)
  obtain ⟨f0,f1,f2,f3,f4,f5⟩:=hf b (by
   simp only [List.mem_cons,List.not_mem_nil,or_false] at hb
   rcases hb with rfl | rfl <;> simp)
  exact ⟨f0,f1,f3,f4,f5⟩
 self:=λA i s Q E ⟨_,_,_,q1,_⟩ q=>wpAny_pyIter_zip q1 q
noncomputable def D9 (K:PySem.W.Frag) (ta:TA):TI:=λσ H R=>ta σ H λvs H1=>∃ a b c xs ys zs,vs=[.ref a,.ref b,.ref c]/\SqL K H1 a xs/\SqL K H1 b ys/\SqL K H1 c zs/\R (It3 K a b c xs ys zs) H1
theorem Bu {b c:Expr} {c1} (hg:Gl X "zip") (hm:X.mg "zip"=none) (ha:PA X [a,b,c] ta) (hs:starEach [a,b,c] X.env=(false,eval a X.env)::starEach [b,c] X.env:=by rfl) (hpl:(backTo pos (starEach [b,c] X.env)).any (·.1)=false:=by rfl) :
  PI X (.Tuple elts c1 ps) (.Call (.Name "zip" p) [a,b,c] [] pos) (D9 X.K ta):=by
 intro pins s σ H R I h
 refine Call_ (jD I hg hm yE (PyProof.Rows.callWith_type1 (thn (ha pos pins s σ H _ I h) λus s1 ⟨vs,H1,I1,r1,q1⟩=>?_) hs hpl))
 obtain ⟨t1,t2,t3,xs,ys,zs,ev,hq1,hq2,hq3,q⟩:=q1
 subst ev
 cases r1 with
 | cons e1 rt =>
 cases rt with
 | cons e2 rt =>
  obtain ⟨u3,rfl,e3⟩:=gH rt
  cases e1
  cases e2
  cases e3
  obtain ⟨us,ru,pu,_⟩:=I1.list hq1
  obtain ⟨vs,rv,pv,_⟩:=I1.list hq2
  obtain ⟨ws,rw',pw,_⟩:=I1.list hq3
  have lt1:t1 < s1.heap.objs.size:=by obtain ⟨o,e,_⟩:=pu.isList;exact Heap.lt_size e
  have lt2:t2 < s1.heap.objs.size:=by obtain ⟨o,e,_⟩:=pv.isList;exact Heap.lt_size e
  have lt3:t3 < s1.heap.objs.size:=by obtain ⟨o,e,_⟩:=pw.isList;exact Heap.lt_size e
  refine xh pu.isList pv.isList pw.isList λh' z1 z2 z3 z4 z5 z6 kk=>?_
  refine wpAny_pyIter_zip (s:={ s1 with heap:=h' }) z1 ?_
  generalize hn:s1.heap.objs.size=n at *
  have lo:∀ {l:Nat},l < n->l≠n+5/\l≠n+4/\l≠n/\l≠n+1/\l≠n+2:=λh=>⟨by omega,by omega,by omega,by omega,by omega⟩
  have ap:Z3 (n+5) (n+3) (n+4) n (n+1) (n+2) t1 t2 t3 :=
   ⟨Nat.ne_of_lt (by omega),Nat.ne_of_lt (by omega),Nat.ne_of_lt (by omega),Nat.ne_of_lt (by omega),Nat.ne_of_lt (by omega),Nat.ne_of_lt (by omega),λi h=>by rcases h with rfl | rfl | rfl <;> exact ⟨Nat.ne_of_lt (by omega),Nat.ne_of_gt (by omega),Nat.ne_of_gt (by omega)⟩,λl h=>by rcases h with rfl | rfl | rfl;exact lo lt1;exact lo lt2;exact lo lt3⟩
  refine ⟨n+5,[n+5,n+3,n+4,n,n+1,n+2],_,_,H1,rfl,I1.kept (t':=s1.toks) kk,x9 t1 t2 t3 _ _ _ _ _ _ xs ys zs ap,⟨.none,.none,.none,z1,z2,z3,z4,z5,z6⟩,λb hb=>?_,q⟩
  have lb:s1.heap.objs.size≤b:=by
   simp only [List.mem_cons,List.not_mem_nil,or_false] at hb
   rw [hn]
   rcases hb with rfl | rfl | rfl | rfl | rfl | rfl
   ·exact Nat.le_add_right _ _
   ·exact Nat.le_add_right _ _
   ·exact Nat.le_add_right _ _
   ·exact Nat.le_refl _
   ·exact Nat.le_add_right _ _
   ·exact Nat.le_add_right _ _
  exact I1.fpOk lb (I1.hok.fresh lb)
end L2
namespace L2
open PySem PySem.Spec PyProof.Rows
section
variable {X:Cx}
noncomputable def tY (K:PySem.W.Frag) (neg:Bool):R2:=λx y H Q=>∃ l xs ds d,y=.ref l/\SqL K H l xs/\Dats K H ds xs/\Dat K H d x/\noLs ds=true/\noL d=true/\deepDs ds≤20/\Q (.bl (if neg then !(ds.any λe=>eqD e d) else ds.any λe=>eqD e d)) H
theorem sX {k:Nat} (hr:Room k X.A) {pins:List (Addr × Obj)} {σ:St} {H:Hp} {s:Shared} {x:V} {u:Value} {l:Addr} {xs:List V} {ds:List D} {d:D} (I:Inv X pins σ H s) (ru:RelV x u) (hq:SqL X.K H l xs) (hds:Dats X.K H ds xs) (hd:Dat X.K H d x) (n1:noLs ds=true) (n2:noL d=true) (dp:deepDs ds≤20) :
  ∃ (its:List Value) (eq:Value->Bool),s.heap.IsList l its.toArray/\(∀ w ∈ its.toArray,SeqAt.EqAt X.A.in1 s w u (eq w))/\its.toArray.any eq=ds.any λe=>eqD e d:=by
 obtain ⟨its,r,pl,hz⟩:=I.list hq
 have hl:=r.length
 have ll:=hds.length
 have item:∀ (m:Nat) (w:Value),its[m]?=some w->∃ g,ds[m]?=some g/\∃ xv,RelV xv w/\Dat X.K H g xv:=λm w hw=>by
  have hm:m < its.length:=(List.getElem?_eq_some_iff.mp hw).1
  obtain ⟨g,hg,dg⟩:=hds.getV (i:=m) (v:=xs[m]'(by omega)) (List.getElem?_eq_getElem (by omega))
  obtain ⟨w',hw',rr⟩:=r.get (i:=m) (x:=xs[m]'(by omega)) (List.getElem?_eq_getElem (by omega))
  rw [hw] at hw'
  cases hw'
  exact ⟨g,hg,_,rr,dg⟩
 have relInj:∀ {x1 x2:V} {w:Value},RelV x1 w->RelV x2 w->x1=x2:=λ{x1 x2 w} h1 h2=>RelV.inj h1 h2
 classical
 let eq:Value->Bool:=λw=>if hw:∃ m:Nat,its[m]?=some w then (match ds[Classical.choose hw]? with | some g=>eqD g d | none=>false) else false
 have eqAt:∀ (m:Nat) (w:Value) (g:D),its[m]?=some w->ds[m]?=some g->eq w=eqD g d:=λm w g hw hg=>by
  have hw':∃ m:Nat,its[m]?=some w:=⟨m,hw⟩
  show (if hw:∃ m:Nat,its[m]?=some w then _ else false)=_
  rw [dif_pos hw']
  have hc:=Classical.choose_spec hw'
  obtain ⟨g',hg',xv',r1,d1⟩:=item _ w hc
  obtain ⟨g2,hg2,xv,r2,d2⟩:=item m w hw
  rw [hg] at hg2
  cases hg2
  rw [hg']
  have ex:=relInj r1 r2
  subst ex
  have:=mK I g' g (fC n1 hg') d1 d2 (fC n1 hg)
  rw [this]
 have hu:X.A.in1.units+20+1 < cLine:=by
  have:=hr.un
  show X.A.units+1+20+1 < cLine
  omega
 refine ⟨its,eq,pl.isList,λw hw=>?_,?_⟩
 ·obtain ⟨m,hm,rfl⟩:=Array.getElem_of_mem hw
  have hm':m < its.length:=by simpa using hm
  have hw2:its[m]?=some (its[m]'hm'):=List.getElem?_eq_getElem hm'
  obtain ⟨g,hg,xv,r1,d1⟩:=item m _ hw2
  have z1:its.toArray[m]=its[m]'hm':=by simp
  rw [z1,eqAt m _ g hw2 hg]
  exact qE I 20 X.A.in1 g d xv x _ u hu (Nat.le_trans (iX hg) dp) (fC n1 hg) n2 d1 hd r1 ru
 ·rw [show its.toArray.any eq=its.any eq by simp]
  have em:its.map eq=ds.map λe=>eqD e d:=by
   apply List.ext_getElem?
   intro m
   rw [List.getElem?_map,List.getElem?_map]
   cases hw:its[m]? with
   | none =>
    have:its.length≤m:=List.getElem?_eq_none_iff.mp hw
    rw [List.getElem?_eq_none (by omega)]
    rfl
   | some w =>
    obtain ⟨g,hg,_⟩:=item m w hw
    rw [hg]
    show some (eq w)=some (eqD g d)
    rw [eqAt m w g hw hg]
  have e1:∀ {α:Type} (f:α->Bool) (l:List α),l.any f=(l.map f).any id:=λf l=>by rw [List.any_map];rfl
  rw [e1 eq its,em,← e1]
theorem rd {k:Nat} (hr:Room k X.A):OpR X (compareOp .In) (tY X.K false):=by
 intro pins s σ H x y v u Q I rx ry h
 obtain ⟨l,xs,ds,d,rfl,hq,hds,hd,n1,n2,dp,q⟩:=h
 cases ry
 obtain ⟨its,eq,pl,ea,ee⟩:=sX hr I rx hq hds hd n1 n2 dp
 exact SeqAt.in_listAt eq pl ea ⟨.bl _,H,I,rfl,by rw [ee];exact q⟩
theorem pV {k:Nat} (hr:Room k X.A):OpR X (compareOp .NotIn) (tY X.K true):=by
 intro pins s σ H x y v u Q I rx ry h
 obtain ⟨l,xs,ds,d,rfl,hq,hds,hd,n1,n2,dp,q⟩:=h
 cases ry
 obtain ⟨its,eq,pl,ea,ee⟩:=sX hr I rx hq hds hd n1 n2 dp
 exact SeqAt.notIn_listAt eq pl ea ⟨.bl _,H,I,rfl,by rw [ee];exact q⟩
end
section
variable {K:PySem.W.Frag} {σ:St} {H:Hp} {t ta tb:TE} {d:D} {ds:List D}
theorem iF {neg:Bool} (h1:RE K ta σ H d) (h2:RL K tb σ H ds) (n1:noLs ds=true) (n2:noL d=true) (dp:deepDs ds≤20):RE K (tOp (tY K neg) ta tb) σ H (.bl (if neg then !(ds.any λe=>eqD e d) else ds.any λe=>eqD e d)):=λH1 s Q q =>
 h1 H1 s _ λv H2 s2 q2=>h2 H2 (s.trans s2) _ λw H3 s3 q3=>by
  obtain ⟨a,xs,rfl,ha,da⟩:=q3
  exact ⟨a,xs,ds,d,rfl,ha.sqL,da,s3.dat q2,n1,n2,dp,q _ _ (s2.trans s3) (Dat.blI _)⟩
end
theorem yY {K:PySem.W.Frag} {a b c:Addr} {xs ys zs:List V} {g:TG} {tb:TS} {D:iV} {σ:St} {H:Hp} (Pv:Nat->St->Hp->Prop) (ll:xs.length=ys.length) (ll2:xs.length=zs.length) (h0:Pv 0 σ H) (hl:∀ i σ H,i≤xs.length->Pv i σ H->SqL K H a xs/\SqL K H b ys/\SqL K H c zs)
  (hs:∀ i u v y p σ H,xs[i]?=some u->ys[i]?=some v->zs[i]?=some y->H p=none->Pv i σ H->g (.ref p) σ (upd H p (.tup [u,v,y])) λσ2 H2=>tb { D with nx:=Pv (i+1),ct:=Pv (i+1),bk:=D.nx } σ2 H2) (hd:∀ σ H,Pv xs.length σ H->D.nx σ H) :
  ∃ W:Nat->Nat->St->Hp->Prop,(∃ m,W 0 m σ H)/\∀ i m σ H,W i m σ H ->
   ((It3 K a b c xs ys zs).stop i H/\D.nx σ H)\/((It3 K a b c xs ys zs).go i H/\∃ N:St->Hp->Prop,(∀ σ' H',N σ' H'->∃ m',m' < m/\W (i+1) m' σ' H')/\∀ x H',(It3 K a b c xs ys zs).yld i H x H'->g x σ H' λσ2 H2=>tb { D with nx:=N,ct:=N,bk:=D.nx } σ2 H2):=by
 refine ⟨λi m σ H=>m=xs.length - i/\i≤xs.length/\Pv i σ H,⟨xs.length,by simp,Nat.zero_le _,h0⟩,?_⟩
 rintro i m σ H ⟨rfl,hi,p⟩
 have q:=hl i σ H hi p
 by_cases hlt:i < xs.length
 ·refine .inr ⟨⟨hlt,by omega,by omega,q.1,q.2.1,q.2.2⟩,Pv (i+1),λσ' H' p'=>⟨xs.length - (i+1),by omega,rfl,hlt,p'⟩,λx H' yy=>?_⟩
  obtain ⟨r,u,v,y,hr,rfl,hu,hv,hy,rfl⟩:=yy
  exact hs i u v y r σ H hu hv hy hr p
 ·have e:i=xs.length:=by omega
  subst e
  exact .inl ⟨⟨rfl,q.1⟩,hd σ H p⟩
end L2
namespace My
open PySem L2 PyProof.Rows
noncomputable abbrev TL:List (Str × KTD.Dat):=[("num",.flat (.int 9999)),("arg",.flat (.int 3))]
noncomputable abbrev TB:List (Str × KTD.Dat):=[("add",.flat (.int 2)),("sub",.flat (.int 2)),("mul",.flat (.int 2)),("less",.flat (.int 2)),("pick",.flat (.int 3))]
noncomputable abbrev TM:List (Str × KTD.Dat):=[("hole",.flat (.int 2)),("gap",.flat (.int 3)),("slot",.flat (.int 2))]
noncomputable abbrev TF:List (Str × KTD.Dat):=[("low",.flat (.str "gap")),("high",.flat (.str "gap")),("arg",.flat (.str "slot"))]
noncomputable abbrev AHE:List D:=[.int 10,.int 11]
noncomputable abbrev STR:List D:=[.str "put",.str "far",.str "load",.str "add",.str "sub",.str "mul",.str "less",.str "more",.str "twice",.str "about"]
noncomputable abbrev BEH:List D:=[.int 8,.int 9]
noncomputable abbrev BAS:List D:=[.tup [.str "one",.tup [.str "gap",.int 0,.int 99],.tup [.int 1,.tup [.str "low",.int 0]]],.tup [.str "two",.tup [.str "gap",.int 0,.int 9999],.tup [.int 2,.tup [.str "low",.int 0],.tup [.str "high",.int 0]]],.tup [.str "slot",.tup [.str "slot",.int 0],.tup [.int 3,.tup [.str "arg",.int 0]]],.tup [.str "add",.tup [.str "add",.tup [.str "hole",.int 0],.tup [.str "hole",.int 1]],.tup [.int 4]],.tup [.str "sub",.tup [.str "sub",.tup [.str "hole",.int 0],.tup [.str "hole",.int 1]],.tup [.int 5]],.tup [.str "mul",.tup [.str "mul",.tup [.str "hole",.int 0],.tup [.str "hole",.int 1]],.tup [.int 6]],.tup [.str "less",.tup [.str "less",.tup [.str "hole",.int 0],.tup [.str "hole",.int 1]],.tup [.int 7]],.tup [.str "more",.tup [.str "add",.tup [.str "hole",.int 0],.tup [.str "gap",.int 0,.int 99]],.tup [.int 12,.tup [.str "low",.int 0]]]]
noncomputable abbrev INS:List D:=[.tup [.str "end",.int 0],.tup [.str "put",.int 1],.tup [.str "far",.int 2],.tup [.str "load",.int 1],.tup [.str "add",.int 0],.tup [.str "sub",.int 0],.tup [.str "mul",.int 0],.tup [.str "less",.int 0],.tup [.str "skip",.int 1],.tup [.str "jump",.int 2],.tup [.str "zero",.int 1],.tup [.str "none",.int 2],.tup [.str "more",.int 1],.tup [.str "twice",.int 0],.tup [.str "about",.int 0],.tup [.str "call",.int 2],.tup [.str "back",.int 0]]
noncomputable abbrev jg:Stmt:=top 9
theorem sc_is_whole:FnScope ["thing","low","high"] ["thing","low","high"] (aA jg):=.sc0
noncomputable abbrev iw:Stmt:=top 10
theorem sc_is_tagged:FnScope ["thing"] ["thing"] (aA iw):=.sc0
noncomputable abbrev jS:Stmt:=top 17
theorem sc_is_node:FnScope ["thing","kind"] ["thing"] (aA jS):=.sc0
noncomputable abbrev fM:Stmt:=top 18
theorem sc_trees_within:FnScope ["tree"] ["tree"] (aA fM):=.sc0
noncomputable abbrev iT:Stmt:=top 19
theorem sc_is_tree:FnScope ["thing","waiting","parts","part","deep"] ["thing"] (aA iT):=.sc0
noncomputable abbrev iz:Stmt:=top 20
theorem sc_need_tree:FnScope ["tree"] ["tree"] (aA iz):=.sc0
noncomputable abbrev kU:Stmt:=top 21
theorem sc_walked:FnScope ["tree","parts","within"] ["tree"] (aA kU):=.sc0
noncomputable abbrev iR:Stmt:=top 11
theorem sc_is_name:FnScope ["thing"] ["thing"] (aA iR):=.sc0
noncomputable abbrev eJ:Stmt:=top 25
theorem sc_instruction_at:FnScope ["cells","place","name","many","behind"] ["cells","place"] (aA eJ):=.sc0
noncomputable abbrev jR:Stmt:=top 35
theorem sc_is_mark:FnScope ["thing"] ["thing"] (aA jR):=.sc0
noncomputable abbrev dv:Stmt:=top 36
theorem sc_is_pattern_part:FnScope ["thing","deep"] ["thing","deep"] (aA dv):=.sc0
noncomputable abbrev ji:Stmt:=top 37
theorem sc_marks_in:FnScope ["pattern","kind","marks","within"] ["pattern","kind"] (aA ji):=.sc0
noncomputable abbrev fe:Stmt:=top 38
theorem sc_is_numbered:FnScope ["pattern","kind","numbers"] ["pattern","kind"] (aA fe):=.sc0
noncomputable abbrev fL:Stmt:=top 39
theorem sc_is_pattern:FnScope ["thing"] ["thing"] (aA fL):=.sc0
noncomputable abbrev gN:Stmt:=top 40
theorem sc_is_filling:FnScope ["thing","pattern"] ["thing","pattern"] (aA gN):=.sc0
noncomputable abbrev jQ:Stmt:=top 41
theorem sc_is_cell:FnScope ["thing","pattern"] ["thing","pattern"] (aA jQ):=.sc0
noncomputable abbrev de:Stmt:=top 42
theorem sc_are_instructions:FnScope ["cells","pattern","place","name","behind"] ["cells","pattern"] (aA de):=.sc0
noncomputable abbrev jf:Stmt:=top 43
theorem sc_is_piece:FnScope ["thing","name","pattern","cells"] ["thing"] (aA jf):=.sc0
noncomputable abbrev iS:Stmt:=top 44
theorem sc_is_set:FnScope ["thing"] ["thing"] (aA iS):=.sc0
noncomputable abbrev jk:Stmt:=top 45
theorem sc_need_set:FnScope ["some"] ["some"] (aA jk):=.sc0
noncomputable abbrev fh:Stmt:=top 46
theorem sc_may_stand_for:FnScope ["mark","tree"] ["mark","tree"] (aA fh):=.sc0
noncomputable abbrev jT:Stmt:=top 47
theorem sc_matches:FnScope ["pattern","tree","found","kind"] ["pattern","tree","found"] (aA jT):=.sc0
noncomputable abbrev je:Stmt:=top 48
theorem sc_found_in:FnScope ["piece","tree","found"] ["piece","tree"] (aA je):=.sc0
noncomputable abbrev gh:Stmt:=top 49
theorem sc_filled_cell:FnScope ["cell","nums","ks"] ["cell","nums","ks"] (aA gh):=.sc0
noncomputable abbrev ix:Stmt:=top 55
theorem sc_jump_over:FnScope ["many","kinds","near","far"] ["many","kinds"] (aA ix):=.sc0
noncomputable abbrev fg:Stmt:=top 56
theorem sc_jumps_of_pick:FnScope ["second","third","behind","ahead"] ["second","third"] (aA fg):=.sc0
noncomputable abbrev jU:Stmt:=top 57
theorem sc_ways_of:FnScope ["tree","some","ways","piece","found"] ["tree","some"] (aA jU):=.sc0
noncomputable abbrev iy:Stmt:=top 58
theorem sc_length_by:FnScope ["name","cells","lengths","own","ahead","behind"] ["name","cells","lengths"] (aA iy):=.sc0
noncomputable abbrev cE:Stmt:=top 59
theorem sc_best_by_ways:FnScope ["tree","some","done","bests","best","name","cells","trees","within","length"] ["tree","some","done","bests"] (aA cE):=.sc0
noncomputable abbrev ff:Stmt:=top 60
theorem sc_best_covering:FnScope ["tree","some","done","bests","part"] ["tree","some"] (aA ff):=.sc0
noncomputable abbrev gu:Stmt:=top 64
theorem sc_laid_pick:FnScope ["tree","some","cover","places","first","second","third","ahead","behind"] ["tree","some","cover","places"] (aA gu):=.sc0
noncomputable abbrev eK:Stmt:=top 65
theorem sc_laid_piece:FnScope ["tree","some","cover","places","name","within","piece","holes","nums","ks","cells","hole","inner"] ["tree","some","cover","places"] (aA eK):=.sc0
noncomputable abbrev gO:Stmt:=top 66
theorem sc_laid_cells:FnScope ["tree","some","cover","places","place"] ["tree","some","cover","places"] (aA gO):=.sc0
noncomputable abbrev jP:Stmt:=top 67
theorem sc_code_of:FnScope ["tree","some","length","cover"] ["tree","some"] (aA jP):=.sc0
noncomputable abbrev fw:Stmt:=top 72
theorem sc_are_parts:FnScope ["thing","tree","there"] ["thing","tree"] (aA fw):=.sc0
noncomputable abbrev gP:Stmt:=top 73
theorem sc_need_parts:FnScope ["parts","tree"] ["parts","tree"] (aA gP):=.sc0
noncomputable abbrev gQ:Stmt:=top 74
theorem sc_with_calls:FnScope ["tree","parts"] ["tree","parts"] (aA gQ):=.sc0
noncomputable abbrev cK:Stmt:=top 75
theorem sc_with_calls_within:FnScope ["tree","parts","within"] ["tree","parts"] (aA cK):=.sc0
noncomputable abbrev fz:Stmt:=top 76
theorem sc_code_once:FnScope ["tree","some","parts","roots","closings","bests","places","place","length","cover","code","root","closing"] ["tree","some","parts"] (aA fz):=.sc0
noncomputable abbrev rJ:Stmt:=top 78
theorem sc_gain:FnScope ["tree","some","part"] ["tree","some","part"] (aA rJ):=.sc0
noncomputable abbrev wG:Stmt:=top 68
theorem sc_lay:FnScope ["tree","some"] ["tree","some"] (aA wG):=.sc0
noncomputable abbrev jh:Stmt:=top 77
theorem sc_lay_once:FnScope ["tree","some","parts"] ["tree","some","parts"] (aA jh):=.sc0
noncomputable abbrev iq:Stmt:=top 80
theorem sc__law_draw:FnScope ["_law_script","_law_town","_law_many","_law_one","_law_at","_law_mixed"] ["_law_script","_law_town","_law_many"] (aA iq):=.sc0
noncomputable abbrev iu:Stmt:=top 81
theorem sc__law_pick:FnScope ["_law_script","_law_town","_law_some"] ["_law_script","_law_town","_law_some"] (aA iu):=.sc0
noncomputable abbrev gr:Stmt:=top 82
theorem sc__law_tree:FnScope ["_law_script","_law_town","_law_room","_law_leaf","_law_name","_law_many"] ["_law_script","_law_town","_law_room"] (aA gr):=.sc0
noncomputable abbrev gM:Stmt:=top 85
theorem sc__law_parts:FnScope ["_law_tree_here","_law_made","_law_one"] ["_law_tree_here"] (aA gM):=.sc0
noncomputable abbrev gb:Stmt:=top 86
theorem sc__law_pieces:FnScope ["_law_hole","_law_other","_law_gap","_law_made"] [] (aA gb):=.sc0
noncomputable abbrev hV:Stmt:=top 87
theorem sc__law_set:FnScope ["_law_script","_law_town","_law_more"] ["_law_script","_law_town"] (aA hV):=.sc0
noncomputable abbrev jd:Stmt:=top 88
theorem sc__law_fit:FnScope ["_law_pattern","_law_tree_here","_law_found"] ["_law_pattern","_law_tree_here","_law_found"] (aA jd):=.sc0
noncomputable abbrev ir:Stmt:=top 89
theorem sc__law_over:FnScope ["_law_cells"] ["_law_cells"] (aA ir):=.sc0
noncomputable abbrev gd:Stmt:=top 94
theorem sc__law_unlike:FnScope ["_law_script","_law_town","_law_tree_here","_law_many","_law_some","_law_k","_law_part"] ["_law_script","_law_town","_law_tree_here","_law_many"] (aA gd):=.sc0
noncomputable abbrev fK:Stmt:=top 95
theorem sc__law_heavy:FnScope ["_law_script","_law_town","_law_four"] ["_law_script","_law_town"] (aA fK):=.sc0
noncomputable abbrev fJ:Stmt:=top 96
theorem sc__law_doubled:FnScope ["_law_script","_law_town","_law_part","_law_other","_law_forms","_law_heavy_here","_law_more"] ["_law_script","_law_town"] (aA fJ):=.sc0
noncomputable abbrev fZ:Stmt:=top 97
theorem sc__law_hidden:FnScope ["_law_pattern","_law_tree_here","_law_calls","_law_top"] ["_law_pattern","_law_tree_here","_law_calls","_law_top"] (aA fZ):=.sc0
noncomputable abbrev dU:Stmt:=top 98
theorem sc__law_called:FnScope ["_law_tree_here","_law_some","_law_calls","_law_top","_law_three","_law_last","_law_lengths","_law_piece","_law_found"] ["_law_tree_here","_law_some","_law_calls","_law_top"] (aA dU):=.sc0
noncomputable abbrev uf:Stmt:=top 99
theorem sc_law:FnScope ["_law_script","_law_town","_law_tree_here","_law_some","_law_parts_here","_law_due","_law_part","_law_others","_law_alone"] ["_law_script"] (aA uf):=.sc0
set_option genInjectivity false in
set_option genSizeOfSpec false in
structure Txt (P:Program) (w:World) (K:PySem.W.Frag) (mg:Str->Option Value) where
 Gd:Addr
 Gg:FuncData
 Gj:Fun K "is_whole" "is_whole" jg Gd Gg
 Hj:mg "is_whole"=some (.ref Gd)
 Gz:Addr
 GE:FuncData
 Hn:Fun K "is_tagged" "is_tagged" iw Gz GE
 Jr:mg "is_tagged"=some (.ref Gz)
 IP:Addr
 IS:FuncData
 JD:Fun K "is_node" "is_node" jS IP IS
 KI:mg "is_node"=some (.ref IP)
 Fg:Addr
 Fi:FuncData
 Fo:Fun K "trees_within" "trees_within" fM Fg Fi
 FZ:mg "trees_within"=some (.ref Fg)
 IQ:Addr
 IT:FuncData
 JE:Fun K "is_tree" "is_tree" iT IQ IT
 KJ:mg "is_tree"=some (.ref IQ)
 GB:Addr
 GG:FuncData
 Ho:Fun K "need_tree" "need_tree" iz GB GG
 Js:mg "need_tree"=some (.ref GB)
 Io:Addr
 Iw:FuncData
 JF:Fun K "walked" "walked" kU Io Iw
 Ky:mg "walked"=some (.ref Io)
 Jw:Addr
 JA:FuncData
 Kc:Fun K "is_name" "is_name" iR Jw JA
 Li:mg "is_name"=some (.ref Jw)
 FV:Addr
 FX:FuncData
 GN:Fun K "instruction_at" "instruction_at" eJ FV FX
 JH:mg "instruction_at"=some (.ref FV)
 Jv:Addr
 Jz:FuncData
 Kb:Fun K "is_mark" "is_mark" jR Jv Jz
 Lh:mg "is_mark"=some (.ref Jv)
 Ff:Addr
 Fh:FuncData
 FK:Fun K "is_pattern_part" "is_pattern_part" dv Ff Fh
 HJ:mg "is_pattern_part"=some (.ref Ff)
 GA:Addr
 GF:FuncData
 HU:Fun K "marks_in" "marks_in" ji GA GF
 JS:mg "marks_in"=some (.ref GA)
 GW:Addr
 Ha:FuncData
 Ic:Fun K "is_numbered" "is_numbered" fe GW Ha
 Kk:mg "is_numbered"=some (.ref GW)
 Hw:Addr
 HB:FuncData
 IK:Fun K "is_pattern" "is_pattern" fL Hw HB
 Kw:mg "is_pattern"=some (.ref Hw)
 Hv:Addr
 HA:FuncData
 IJ:Fun K "is_filling" "is_filling" gN Hv HA
 Kv:mg "is_filling"=some (.ref Hv)
 Ju:Addr
 Jy:FuncData
 Ka:Fun K "is_cell" "is_cell" jQ Ju Jy
 Lg:mg "is_cell"=some (.ref Ju)
 Fy:Addr
 Fz:FuncData
 Gi:Fun K "are_instructions" "are_instructions" de Fy Fz
 Jj:mg "are_instructions"=some (.ref Fy)
 IY:Addr
 Je:FuncData
 JO:Fun K "is_piece" "is_piece" jf IY Je
 K7:mg "is_piece"=some (.ref IY)
 J0:Addr
 J1:FuncData
 Ku:Fun K "is_set" "is_set" iS J0 J1
 LG:mg "is_set"=some (.ref J0)
 Hg:Addr
 Hi:FuncData
 HV:Fun K "need_set" "need_set" jk Hg Hi
 JU:mg "need_set"=some (.ref Hg)
 Gm:Addr
 Gn:FuncData
 Hd:Fun K "may_stand_for" "may_stand_for" fh Gm Gn
 JX:mg "may_stand_for"=some (.ref Gm)
 HP:Addr
 HR:FuncData
 IU:Fun K "matches" "matches" jT HP HR
 Kg:mg "matches"=some (.ref HP)
 HN:Addr
 HQ:FuncData
 Jh:Fun K "found_in" "found_in" je HN HQ
 Ko:mg "found_in"=some (.ref HN)
 GV:Addr
 GZ:FuncData
 Ib:Fun K "filled_cell" "filled_cell" gh GV GZ
 Kj:mg "filled_cell"=some (.ref GV)
 Ik:Addr
 Ir:FuncData
 IA:Fun K "jump_over" "jump_over" ix Ik Ir
 J7:mg "jump_over"=some (.ref Ik)
 FF:Addr
 FH:FuncData
 Gq:Fun K "jumps_of_pick" "jumps_of_pick" fg FF FH
 II:mg "jumps_of_pick"=some (.ref FF)
 Jx:Addr
 JB:FuncData
 Kd:Fun K "ways_of" "ways_of" jU Jx JB
 Lj:mg "ways_of"=some (.ref Jx)
 Im:Addr
 Iv:FuncData
 Jq:Fun K "length_by" "length_by" iy Im Iv
 KP:mg "length_by"=some (.ref Im)
 Gy:Addr
 GD:FuncData
 HG:Fun K "best_by_ways" "best_by_ways" cE Gy GD
 J5:mg "best_by_ways"=some (.ref Gy)
 FE:Addr
 FG:FuncData
 Gp:Fun K "best_covering" "best_covering" ff FE FG
 IH:mg "best_covering"=some (.ref FE)
 Il:Addr
 Iu:FuncData
 Jp:Fun K "laid_pick" "laid_pick" gu Il Iu
 KO:mg "laid_pick"=some (.ref Il)
 Hx:Addr
 HC:FuncData
 IL:Fun K "laid_piece" "laid_piece" eK Hx HC
 Kx:mg "laid_piece"=some (.ref Hx)
 Fv:Addr
 Fw:FuncData
 Gk:Fun K "laid_cells" "laid_cells" gO Fv Fw
 HK:mg "laid_cells"=some (.ref Fv)
 IM:Addr
 IR:FuncData
 JC:Fun K "code_of" "code_of" jP IM IR
 KH:mg "code_of"=some (.ref IM)
 Ij:Addr
 Iq:FuncData
 Jo:Fun K "are_parts" "are_parts" fw Ij Iq
 KN:mg "are_parts"=some (.ref Ij)
 GL:Addr
 GM:FuncData
 HH:Fun K "need_parts" "need_parts" gP GL GM
 JT:mg "need_parts"=some (.ref GL)
 Ge:Addr
 Gh:FuncData
 HI:Fun K "with_calls" "with_calls" gQ Ge Gh
 JV:mg "with_calls"=some (.ref Ge)
 Fj:Addr
 Fk:FuncData
 Ft:Fun K "with_calls_within" "with_calls_within" cK Fj Fk
 GR:mg "with_calls_within"=some (.ref Fj)
 Hl:Addr
 Hm:FuncData
 Iz:Fun K "code_once" "code_once" fz Hl Hm
 J6:mg "code_once"=some (.ref Hl)
 K1:Addr
 K4:FuncData
 Lp:Fun K "gain" "gain" rJ K1 K4
 LW:mg "gain"=some (.ref K1)
 LA:Addr
 LC:FuncData
 LF:Fun K "lay" "lay" wG LA LC
 LX:mg "lay"=some (.ref LA)
 IZ:Addr
 Jf:FuncData
 Ji:Fun K "lay_once" "lay_once" jh IZ Jf
 Kp:mg "lay_once"=some (.ref IZ)
 F1:Addr
 F7:FuncData
 FJ:Fun K "_law_draw" "_law_draw" iq F1 F7
 GJ:mg "_law_draw"=some (.ref F1)
 F4:Addr
 F8:FuncData
 Ga:Fun K "_law_pick" "_law_pick" iu F4 F8
 Hs:mg "_law_pick"=some (.ref F4)
 F6:Addr
 F9:FuncData
 GH:Fun K "_law_tree" "_law_tree" gr F6 F9
 IB:mg "_law_tree"=some (.ref F6)
 Gc:Addr
 Gf:FuncData
 HF:Fun K "_law_parts" "_law_parts" gM Gc Gf
 JR:mg "_law_parts"=some (.ref Gc)
 GT:Addr
 GX:FuncData
 HZ:Fun K "_law_pieces" "_law_pieces" gb GT GX
 Kh:mg "_law_pieces"=some (.ref GT)
 IX:Addr
 Jd:FuncData
 JN:Fun K "_law_set" "_law_set" hV IX Jd
 K6:mg "_law_set"=some (.ref IX)
 Hf:Addr
 Hh:FuncData
 HS:Fun K "_law_fit" "_law_fit" jd Hf Hh
 JP:mg "_law_fit"=some (.ref Hf)
 Ii:Addr
 Ip:FuncData
 Iy:Fun K "_law_over" "_law_over" ir Ii Ip
 J4:mg "_law_over"=some (.ref Ii)
 GU:Addr
 GY:FuncData
 Ia:Fun K "_law_unlike" "_law_unlike" gd GU GY
 Ki:mg "_law_unlike"=some (.ref GU)
 Hu:Addr
 Hz:FuncData
 HE:Fun K "_law_heavy" "_law_heavy" fK Hu Hz
 JQ:mg "_law_heavy"=some (.ref Hu)
 Gx:Addr
 GC:FuncData
 HD:Fun K "_law_doubled" "_law_doubled" fJ Gx GC
 J3:mg "_law_doubled"=some (.ref Gx)
 FP:Addr
 FR:FuncData
 Gr:Fun K "_law_hidden" "_law_hidden" fZ FP FR
 Ie:mg "_law_hidden"=some (.ref FP)
 FO:Addr
 FQ:FuncData
 Fn:Fun K "_law_called" "_law_called" dU FO FQ
 FT:mg "_law_called"=some (.ref FO)
 Lz:Addr
 LO:FuncData
 Md:Fun K "law" "law" uf Lz LO
 Mi:mg "law"=some (.ref Lz)
 HM:Tok
 GP:mg "MOST_PARTS"=some (.int 40 HM)
 ID:Tok
 Hq:mg "MOST_DEEP"=some (.int 8 ID)
 GK:Tok
 FY:mg "LONGEST_NAME"=some (.int 8 GK)
 IC:Tok
 GI:mg "MOST_CELL"=some (.int 99 IC)
 Fu:Tok
 Fl:mg "MOST_PATTERN_DEEP"=some (.int 3 Fu)
 Jm:Tok
 HW:mg "MOST_GAP"=some (.int 9999 Jm)
 FD:Tok
 Fm:mg "MOST_PIECE_CELLS"=some (.int 12 FD)
 Hb:Tok
 Gs:mg "MOST_PIECES"=some (.int 16 Hb)
 IE:Tok
 Hr:mg "MOST_NEAR"=some (.int 9 IE)
 HL:Tok
 GO:mg "CALL_CELLS"=some (.int 3 HL)
 LH:Tok
 K5:mg "END"=some (.int 0 LH)
 La:Tok
 KG:mg "CALL"=some (.int 15 La)
 K9:Tok
 KF:mg "BACK"=some (.int 16 K9)
 Hc:Tok
 Gu:mg "MOST_SHARED"=some (.int 6 Hc)
 Gw:Addr
 FB:mg "MOST_IN_LEAF"=some (.ref Gw)
 FC:jW K Gw TL
 Fs:Addr
 Fb:mg "TREES_IN_BRANCH"=some (.ref Fs)
 Fc:jW K Fs TB
 Fx:Addr
 Fp:mg "MARK_LENGTHS"=some (.ref Fx)
 E9:jW K Fx TM
 GS:Addr
 FS:mg "FILLED_FROM"=some (.ref GS)
 FU:jW K GS TF
 Gv:Addr
 FA:mg "INSTRUCTIONS"=some (.ref Gv)
 Ja:fN K (.tup INS) (.ref Gv)=true
 JM:Addr
 HX:mg "STRAIGHT"=some (.ref JM)
 K2:fN K (.tup STR) (.ref JM)=true
 KU:Addr
 Ke:mg "AHEAD"=some (.ref KU)
 LM:fN K (.tup AHE) (.ref KU)=true
 Kt:Addr
 JG:mg "BEHIND"=some (.ref Kt)
 LB:fN K (.tup BEH) (.ref Kt)=true
 KW:Addr
 Kf:mg "BASIC"=some (.ref KW)
 LN:nI K BAS KW=true
 J2:yf P w K Fx ["hole","gap","slot"]
 Fq:mg "len"=none
 Fd:mg "isinstance"=none
 LZ:mg "int"=none
 LY:mg "bool"=none
 L0:mg "str"=none
 He:mg "tuple"=none
 Lq:mg "list"=none
 Kz:mg "range"=none
 KQ:mg "all"=none
 Me:mg "any"=none
 Mg:mg "set"=none
 L1:mg "sum"=none
 K8:mg "reversed"=none
 LP:mg "zip"=none
 KR:mg "enumerate"=none
 Mf:mg "min"=none
section
variable {P:Program} {w:World} {K:PySem.W.Frag} {mg:Str->Option Value} {base:Heap} {k:Nat}
theorem kO {α:Type} {us:List α} (h:us.length=1):∃ a0,us=[a0]:=match us,h with | [a0],_=>⟨a0,rfl⟩
theorem h8 {α:Type} {us:List α} (h:us.length=2):∃ a0 a1,us=[a0,a1]:=match us,h with | [a0,a1],_=>⟨a0,a1,rfl⟩
theorem nH {α:Type} {us:List α} (h:us.length=3):∃ a0 a1 a2,us=[a0,a1,a2]:=match us,h with | [a0,a1,a2],_=>⟨a0,a1,a2,rfl⟩
theorem uI {α:Type} {us:List α} (h:us.length=4):∃ a0 a1 a2 a3,us=[a0,a1,a2,a3]:=match us,h with | [a0,a1,a2,a3],_=>⟨a0,a1,a2,a3,rfl⟩
theorem fP (T:Txt P w K mg):Binds K T.Gg ["thing","low","high"] []:=T.Gj.binds λ_ _ _ _ _ _ us hl=>by obtain ⟨_,_,_,rfl⟩:=nH hl;rfl
theorem jw (T:Txt P w K mg):Binds K T.GE ["thing"] []:=T.Hn.binds λ_ _ _ _ _ _ us hl=>by obtain ⟨_,rfl⟩:=kO hl;rfl
theorem o9 (T:Txt P w K mg):Binds K T.IS ["thing"] []:=T.JD.binds λ_ _ _ _ _ _ us hl=>by obtain ⟨_,rfl⟩:=kO hl;rfl
theorem d8 (T:Txt P w K mg):Binds K T.Fi ["tree"] []:=T.Fo.binds λ_ _ _ _ _ _ us hl=>by obtain ⟨_,rfl⟩:=kO hl;rfl
theorem pd (T:Txt P w K mg):Binds K T.IT ["thing"] []:=T.JE.binds λ_ _ _ _ _ _ us hl=>by obtain ⟨_,rfl⟩:=kO hl;rfl
theorem jx (T:Txt P w K mg):Binds K T.GG ["tree"] []:=T.Ho.binds λ_ _ _ _ _ _ us hl=>by obtain ⟨_,rfl⟩:=kO hl;rfl
theorem ni (T:Txt P w K mg):Binds K T.Iw ["tree"] []:=T.JF.binds λ_ _ _ _ _ _ us hl=>by obtain ⟨_,rfl⟩:=kO hl;rfl
theorem wY (T:Txt P w K mg):Binds K T.JA ["thing"] []:=T.Kc.binds λ_ _ _ _ _ _ us hl=>by obtain ⟨_,rfl⟩:=kO hl;rfl
theorem kZ (T:Txt P w K mg):Binds K T.FX ["cells","place"] []:=T.GN.binds λ_ _ _ _ _ _ us hl=>by obtain ⟨_,_,rfl⟩:=h8 hl;rfl
theorem wX (T:Txt P w K mg):Binds K T.Jz ["thing"] []:=T.Kb.binds λ_ _ _ _ _ _ us hl=>by obtain ⟨_,rfl⟩:=kO hl;rfl
theorem ic (T:Txt P w K mg):Binds K T.Fh ["thing","deep"] []:=T.FK.binds λ_ _ _ _ _ _ us hl=>by obtain ⟨_,_,rfl⟩:=h8 hl;rfl
theorem kg (T:Txt P w K mg):Binds K T.GF ["pattern","kind"] []:=T.HU.binds λ_ _ _ _ _ _ us hl=>by obtain ⟨_,_,rfl⟩:=h8 hl;rfl
theorem oN (T:Txt P w K mg):Binds K T.Ha ["pattern","kind"] []:=T.Ic.binds λ_ _ _ _ _ _ us hl=>by obtain ⟨_,_,rfl⟩:=h8 hl;rfl
theorem qv (T:Txt P w K mg):Binds K T.HB ["thing"] []:=T.IK.binds λ_ _ _ _ _ _ us hl=>by obtain ⟨_,rfl⟩:=kO hl;rfl
theorem qu (T:Txt P w K mg):Binds K T.HA ["thing","pattern"] []:=T.IJ.binds λ_ _ _ _ _ _ us hl=>by obtain ⟨_,_,rfl⟩:=h8 hl;rfl
theorem wW (T:Txt P w K mg):Binds K T.Jy ["thing","pattern"] []:=T.Ka.binds λ_ _ _ _ _ _ us hl=>by obtain ⟨_,_,rfl⟩:=h8 hl;rfl
theorem j9 (T:Txt P w K mg):Binds K T.Fz ["cells","pattern"] []:=T.Gi.binds λ_ _ _ _ _ _ us hl=>by obtain ⟨_,_,rfl⟩:=h8 hl;rfl
theorem uy (T:Txt P w K mg):Binds K T.Je ["thing"] []:=T.JO.binds λ_ _ _ _ _ _ us hl=>by obtain ⟨_,rfl⟩:=kO hl;rfl
theorem yw (T:Txt P w K mg):Binds K T.J1 ["thing"] []:=T.Ku.binds λ_ _ _ _ _ _ us hl=>by obtain ⟨_,rfl⟩:=kO hl;rfl
theorem kh (T:Txt P w K mg):Binds K T.Hi ["some"] []:=T.HV.binds λ_ _ _ _ _ _ us hl=>by obtain ⟨_,rfl⟩:=kO hl;rfl
theorem my (T:Txt P w K mg):Binds K T.Gn ["mark","tree"] []:=T.Hd.binds λ_ _ _ _ _ _ us hl=>by obtain ⟨_,_,rfl⟩:=h8 hl;rfl
theorem lg (T:Txt P w K mg):Binds K T.HR ["pattern","tree","found"] []:=T.IU.binds λ_ _ _ _ _ _ us hl=>by obtain ⟨_,_,_,rfl⟩:=nH hl;rfl
theorem nc (T:Txt P w K mg):Binds K T.HQ ["piece","tree"] []:=T.Jh.binds λ_ _ _ _ _ _ us hl=>by obtain ⟨_,_,rfl⟩:=h8 hl;rfl
theorem oM (T:Txt P w K mg):Binds K T.GZ ["cell","nums","ks"] []:=T.Ib.binds λ_ _ _ _ _ _ us hl=>by obtain ⟨_,_,_,rfl⟩:=nH hl;rfl
theorem lZ (T:Txt P w K mg):Binds K T.Ir ["many","kinds"] []:=T.IA.binds λ_ _ _ _ _ _ us hl=>by obtain ⟨_,_,rfl⟩:=h8 hl;rfl
theorem jn (T:Txt P w K mg):Binds K T.FH ["second","third"] []:=T.Gq.binds λ_ _ _ _ _ _ us hl=>by obtain ⟨_,_,rfl⟩:=h8 hl;rfl
theorem wZ (T:Txt P w K mg):Binds K T.JB ["tree","some"] []:=T.Kd.binds λ_ _ _ _ _ _ us hl=>by obtain ⟨_,_,rfl⟩:=h8 hl;rfl
theorem si (T:Txt P w K mg):Binds K T.Iv ["name","cells","lengths"] []:=T.Jq.binds λ_ _ _ _ _ _ us hl=>by obtain ⟨_,_,_,rfl⟩:=nH hl;rfl
theorem m9 (T:Txt P w K mg):Binds K T.GD ["tree","some","done","bests"] []:=T.HG.binds λ_ _ _ _ _ _ us hl=>by obtain ⟨_,_,_,_,rfl⟩:=uI hl;rfl
theorem jm (T:Txt P w K mg):Binds K T.FG ["tree","some"] []:=T.Gp.binds λ_ _ _ _ _ _ us hl=>by obtain ⟨_,_,rfl⟩:=h8 hl;rfl
theorem r9 (T:Txt P w K mg):Binds K T.Iu ["tree","some","cover","places"] []:=T.Jp.binds λ_ _ _ _ _ _ us hl=>by obtain ⟨_,_,_,_,rfl⟩:=uI hl;rfl
theorem qw (T:Txt P w K mg):Binds K T.HC ["tree","some","cover","places"] []:=T.IL.binds λ_ _ _ _ _ _ us hl=>by obtain ⟨_,_,_,_,rfl⟩:=uI hl;rfl
theorem gI (T:Txt P w K mg):Binds K T.Fw ["tree","some","cover","places"] []:=T.Gk.binds λ_ _ _ _ _ _ us hl=>by obtain ⟨_,_,_,_,rfl⟩:=uI hl;rfl
theorem o8 (T:Txt P w K mg):Binds K T.IR ["tree","some"] []:=T.JC.binds λ_ _ _ _ _ _ us hl=>by obtain ⟨_,_,rfl⟩:=h8 hl;rfl
theorem r8 (T:Txt P w K mg):Binds K T.Iq ["thing","tree"] []:=T.Jo.binds λ_ _ _ _ _ _ us hl=>by obtain ⟨_,_,rfl⟩:=h8 hl;rfl
theorem kF (T:Txt P w K mg):Binds K T.GM ["parts","tree"] []:=T.HH.binds λ_ _ _ _ _ _ us hl=>by obtain ⟨_,_,rfl⟩:=h8 hl;rfl
theorem kG (T:Txt P w K mg):Binds K T.Gh ["tree","parts"] []:=T.HI.binds λ_ _ _ _ _ _ us hl=>by obtain ⟨_,_,rfl⟩:=h8 hl;rfl
theorem gB (T:Txt P w K mg):Binds K T.Fk ["tree","parts"] []:=T.Ft.binds λ_ _ _ _ _ _ us hl=>by obtain ⟨_,_,rfl⟩:=h8 hl;rfl
theorem lY (T:Txt P w K mg):Binds K T.Hm ["tree","some","parts"] []:=T.Iz.binds λ_ _ _ _ _ _ us hl=>by obtain ⟨_,_,_,rfl⟩:=nH hl;rfl
theorem CI (T:Txt P w K mg):Binds K T.K4 ["tree","some","part"] []:=T.Lp.binds λ_ _ _ _ _ _ us hl=>by obtain ⟨_,_,_,rfl⟩:=nH hl;rfl
theorem B2 (T:Txt P w K mg):Binds K T.LC ["tree","some"] []:=T.LF.binds λ_ _ _ _ _ _ us hl=>by obtain ⟨_,_,rfl⟩:=h8 hl;rfl
theorem ng (T:Txt P w K mg):Binds K T.Jf ["tree","some","parts"] []:=T.Ji.binds λ_ _ _ _ _ _ us hl=>by obtain ⟨_,_,_,rfl⟩:=nH hl;rfl
theorem fu (T:Txt P w K mg):Binds K T.F7 ["_law_script","_law_town","_law_many"] []:=T.FJ.binds λ_ _ _ _ _ _ us hl=>by obtain ⟨_,_,_,rfl⟩:=nH hl;rfl
theorem gi (T:Txt P w K mg):Binds K T.F8 ["_law_script","_law_town","_law_some"] []:=T.Ga.binds λ_ _ _ _ _ _ us hl=>by obtain ⟨_,_,_,rfl⟩:=nH hl;rfl
theorem ib (T:Txt P w K mg):Binds K T.F9 ["_law_script","_law_town","_law_room"] []:=T.GH.binds λ_ _ _ _ _ _ us hl=>by obtain ⟨_,_,_,rfl⟩:=nH hl;rfl
theorem kE (T:Txt P w K mg):Binds K T.Gf ["_law_tree_here"] []:=T.HF.binds λ_ _ _ _ _ _ us hl=>by obtain ⟨_,rfl⟩:=kO hl;rfl
theorem oJ (T:Txt P w K mg):Binds K T.GX [] []:=T.HZ.binds λ_ _ _ _ _ _ us hl=>match us,hl with | [],_=>rfl
theorem ux (T:Txt P w K mg):Binds K T.Jd ["_law_script","_law_town"] []:=T.JN.binds λ_ _ _ _ _ _ us hl=>by obtain ⟨_,_,rfl⟩:=h8 hl;rfl
theorem j8 (T:Txt P w K mg):Binds K T.Hh ["_law_pattern","_law_tree_here","_law_found"] []:=T.HS.binds λ_ _ _ _ _ _ us hl=>by obtain ⟨_,_,_,rfl⟩:=nH hl;rfl
theorem lX (T:Txt P w K mg):Binds K T.Ip ["_law_cells"] []:=T.Iy.binds λ_ _ _ _ _ _ us hl=>by obtain ⟨_,rfl⟩:=kO hl;rfl
theorem oK (T:Txt P w K mg):Binds K T.GY ["_law_script","_law_town","_law_tree_here","_law_many"] []:=T.Ia.binds λ_ _ _ _ _ _ us hl=>by obtain ⟨_,_,_,_,rfl⟩:=uI hl;rfl
theorem kD (T:Txt P w K mg):Binds K T.Hz ["_law_script","_law_town"] []:=T.HE.binds λ_ _ _ _ _ _ us hl=>by obtain ⟨_,_,rfl⟩:=h8 hl;rfl
theorem m8 (T:Txt P w K mg):Binds K T.GC ["_law_script","_law_town"] []:=T.HD.binds λ_ _ _ _ _ _ us hl=>by obtain ⟨_,_,rfl⟩:=h8 hl;rfl
theorem iB (T:Txt P w K mg):Binds K T.FR ["_law_pattern","_law_tree_here","_law_calls","_law_top"] []:=T.Gr.binds λ_ _ _ _ _ _ us hl=>by obtain ⟨_,_,_,_,rfl⟩:=uI hl;rfl
theorem dR (T:Txt P w K mg):Binds K T.FQ ["_law_tree_here","_law_some","_law_calls","_law_top"] []:=T.Fn.binds λ_ _ _ _ _ _ us hl=>by obtain ⟨_,_,_,_,rfl⟩:=uI hl;rfl
noncomputable def cT (d:D) (lo hi:Int):Bool:=match d with
 | .int i=>decide (lo≤i) && decide (i≤hi)
 | _=>false
noncomputable def gw (ds:List D) (d:D):Prop:=∃ x lo hi,ds=[x,.int lo,.int hi]/\d=.bl (cT x lo hi)
noncomputable def d6:D->Bool
 | .tup (.str _::_)=>true
 | _=>false
noncomputable def mJ (ds:List D) (d:D):Prop:=∃ x,ds=[x]/\d=.bl (d6 x)
noncomputable def kq (k:Str) (T:List (Str × KTD.Dat)):Int:=match KTD.datumAt k T with
 | some (.flat (.int i))=>i
 | _=>0
noncomputable def dD:D->Bool
 | .tup (.str k::r)=>if KTD.inKeys k TL=true then decide ((r.length:Int)+1=2) && cT (r.getD 0 .non) 0 (kq k TL) else KTD.inKeys k TB && decide ((r.length:Int)+1=1+kq k TB)
 | _=>false
noncomputable def yq (ds:List D) (d:D):Prop:=∃ x,ds=[x]/\d=.bl (dD x)
noncomputable def cy:D->List D
 | .tup (.str k::r)=>if KTD.inKeys k TB=true then r else []
 | _=>[]
noncomputable def fB (ds:List D) (d:D):Prop:=∃ k r,ds=[.tup (.str k::r)]/\d=.tup (cy (.tup (.str k::r)))
theorem EA {T:List (Str × KTD.Dat)} {k:Str} (hT:∀ p ∈ T,∃ i,p.2=.flat (.int i)) (h:KTD.inKeys k T=true):KTD.datumAt k T=some (.flat (.int (kq k T))):=by
 unfold kq
 cases e:KTD.datumAt k T with
 | none=>exact absurd e (KTD.at_of_mem h)
 | some d =>
  have all:∀ (T:List (Str × KTD.Dat)),(∀ p ∈ T,∃ i,p.2=.flat (.int i))->KTD.datumAt k T=some d->∃ i,d=.flat (.int i):=by
   intro T
   induction T with
   | nil=>intro _ e;simp [KTD.datumAt] at e
   | cons p r ih =>
    intro hp e
    obtain ⟨x,y⟩:=p
    have e':(if decide (k=x)=true then some y else KTD.datumAt k r)=some d:=e
    by_cases hx:k=x
    ·rw [if_pos (decide_eq_true hx)] at e'
     cases e'
     exact hp _ List.mem_cons_self
    ·rw [if_neg (by simp [hx])] at e'
     exact ih (λp hp'=>hp p (List.mem_cons_of_mem _ hp')) e'
  obtain ⟨i,rfl⟩:=all T hT e
  rfl
theorem CF:∀ p ∈ TL,∃ i,p.2=.flat (.int i):=by
 intro p hp
 simp only [TL,List.mem_cons,List.not_mem_nil,or_false] at hp
 rcases hp with rfl | rfl <;> exact ⟨_,rfl⟩
theorem CC:∀ p ∈ TB,∃ i,p.2=.flat (.int i):=by
 intro p hp
 simp only [TB,List.mem_cons,List.not_mem_nil,or_false] at hp
 rcases hp with rfl | rfl | rfl | rfl | rfl <;> exact ⟨_,rfl⟩
theorem tP (T:Txt P w K mg)  : FnOk P w K mg base CX0 (k+1) T.Gd T.Gg ["thing","low","high"] (spD K gw):=by
 refine T.Gj.ok sc_is_whole (λvs H Q E h=>?_) (λcdv A outer s H vs Q E hr h=>?_)
 ·obtain ⟨ds,d,hd,⟨x,lo,hi,rfl,rfl⟩,_⟩:=h;exact hd.length.symm
 have nd:=sc_is_whole.nd
 obtain ⟨ds,d,hd,⟨x,lo,hi,rfl,rfl⟩,post⟩:=h
 obtain ⟨v0,v1,v2,rfl,h0,h1,h2⟩:=vH hd
 have g1:=h1.intE
 have g2:=h2.intE
 subst g1 g2
 refine ⟨_,(au (aI (gz (aT (eA zk) rfl T.Fd bT (cq (pv 0) (cq (fD (v:=.ty "int") rfl T.LZ yA rfl) af))) (gz (Do (aT (eA A6) rfl T.Fd bT (cq (pv 0) (cq (fD (v:=.ty "bool") rfl T.LY AQ rfl) af)))) (fT (tU jr jr (pv 1) (pv 0) (pv 2))))))),?_⟩
 refine aW (K:=K) (d:=.bl (cT x lo hi)) ?_ post
 cases x with
 | int i=>exact RE.as (cR (cf (ae h0)) λ_=>cR (Aj (cf (ae h0))) λ_=>kS (ae h1) (ae h0) λ_=>ae h2) rfl
 | bl y=>exact RE.as (cR (c:=false) (cf (ae h0)) λ_=>RE.as (cR (c:=true) (Aj (cf (ae h0))) λz=>nomatch z) rfl) rfl
 | non=>exact RE.as (cR (c:=true) (cf (ae h0)) λz=>nomatch z) rfl
 | str y=>exact RE.as (cR (c:=true) (cf (ae h0)) λz=>nomatch z) rfl
 | tup y=>exact RE.as (cR (c:=true) (cf (ae h0)) λz=>nomatch z) rfl
 | lst=>exact RE.as (cR (c:=true) (cf (ae h0)) λz=>nomatch z) rfl
theorem qX (T:Txt P w K mg)  : FnOk P w K mg base CX0 (k+1) T.Gz T.GE ["thing"] (spD K mJ):=by
 refine T.Hn.ok sc_is_tagged (λvs H Q E h=>?_) (λcdv A outer s H vs Q E hr h=>?_)
 ·obtain ⟨ds,d,hd,⟨x,rfl,rfl⟩,_⟩:=h;exact hd.length.symm
 have nd:=sc_is_tagged.nd
 obtain ⟨ds,d,hd,⟨x,rfl,rfl⟩,post⟩:=h
 obtain ⟨v0,rfl,h0⟩:=gC hd
 refine ⟨_,(au (aI (gz (aT (eA kL) rfl T.Fd bT (cq (pv 0) (cq (fD (v:=.ty "tuple") rfl T.He d9 rfl) af))) (gz (cA pS (aT aU rfl T.Fq bP (ag (pv 0) af)) ak (aY _)) (fT (aT (eA zl) rfl T.Fd bT (cq (aN aS (pv 0) ak (λ_ _=>rfl)) (cq (fD (v:=.ty "str") rfl T.L0 yC rfl) af)))))))),?_⟩
 refine aW (K:=K) (d:=.bl (d6 x)) ?_ post
 cases x with
 | tup ds =>
  cases ds with
  | nil=>exact RE.as (cR (c:=false) (cf (ae h0)) λ_=>RE.as (cR (c:=true) (eR (eT (ae h0)) ao) λz=>nomatch z) rfl) rfl
  | cons y r =>
   have l:decide ((0:Int) < (((y::r).length:Nat):Int))=true:=decide_eq_true (by rw [List.length_cons];omega)
   refine RE.as (cR (cf (ae h0)) λ_=>cR (RE.as (eR (eT (ae h0)) ao) (congrArg D.bl l)) λ_=>cf (aQ (k:=0) (ae h0) ao (show (y::r)[0]?=some y from rfl))) ?_
   cases y <;> rfl
 | int i=>exact RE.as (cR (c:=true) (cf (ae h0)) λz=>nomatch z) rfl
 | bl y=>exact RE.as (cR (c:=true) (cf (ae h0)) λz=>nomatch z) rfl
 | non=>exact RE.as (cR (c:=true) (cf (ae h0)) λz=>nomatch z) rfl
 | str y=>exact RE.as (cR (c:=true) (cf (ae h0)) λz=>nomatch z) rfl
 | lst=>exact RE.as (cR (c:=true) (cf (ae h0)) λz=>nomatch z) rfl
theorem uQ (T:Txt P w K mg) (Ig:FnOk P w K mg base CX0 k T.Gz T.GE ["thing"] (spD K mJ)) (FN:FnOk P w K mg base CX0 k T.Gd T.Gg ["thing","low","high"] (spD K gw)):FnOk P w K mg base CX0 (k+1) T.IP T.IS ["thing"] (spD K yq):=by
 refine T.JD.ok sc_is_node (λvs H Q E h=>?_) (λcdv A outer s H vs Q E hr h=>?_)
 ·obtain ⟨ds,d,hd,⟨x,rfl,rfl⟩,_⟩:=h;exact hd.length.symm
 have nd:=sc_is_node.nd
 obtain ⟨ds,d,hd,⟨x,rfl,rfl⟩,post⟩:=h
 obtain ⟨v0,rfl,h0⟩:=gC hd
 refine ⟨_,(aj (bq (ck (br (ay Ig hr rfl T.Jr T.Hn.kp (jw T) .nil aO (ag (pv 0) af)) (λ_=>rfl))) (au (aI cu)) aR)
 (aj (bj (i:=1) nd rfl (Or.inl rfl) (aN aS (pv 0) ak (λ_ _=>rfl)))
 (aj (bq (aV kR (pv 1) (bL (v:=.ref T.Gw) rfl T.FB rfl) (by with_unfolding_all rfl)) (au (aI (gz (cA cF (aT aU rfl T.Fq bP (ag (pv 0) af)) ak (aY _)) (fT (ay FN hr rfl T.Hj T.Gj.kp (fP T) .nil aO (ag (aN aS (pv 0) ak (λ_ _=>rfl)) (ag ak (ag (aN zw (bL (v:=.ref T.Gw) rfl T.FB rfl) (pv 1) (λ_ _=>rfl)) af)))))))) aR)
 (au (aI (gz (cA kR (pv 1) (bL (v:=.ref T.Fs) rfl T.Fb rfl) (by with_unfolding_all rfl)) (fT (cA cF (aT aU rfl T.Fq bP (ag (pv 0) af)) (bu cM ak (aN zw (bL (v:=.ref T.Fs) rfl T.Fb rfl) (pv 1) (λ_ _=>rfl))) (aY _))))))))),?_⟩
 refine aK (K:=K) (b:=!d6 x) (bJ (aX (bg (ab (ae h0) av) ⟨x,rfl,rfl⟩))) (λc H1 s1=>?_) (λc H1 s1=>?_)
 ·refine aW (K:=K) (d:=.bl (dD x)) ?_ λv H' s q=>post v H' (s1.trans s) q
  have e:dD x=false:=by
   unfold dD
   split
   ·unfold d6 at c;simp at c
   ·rfl
  rw [e]
  exact cg
 ·have h0':=s1.dat h0
  have c':d6 x=true:=by simpa using c
  unfold d6 at c'
  split at c'
  ·rename_i kd r
   refine dt (K:=K) (d:=.str kd) (aQ (k:=0) (ae h0') ao rfl) λv1 H2 s2 q2=>?_
   have h2:=s2.dat h0'
   have ev:=q2.strE
   subst ev
   refine aK (K:=K) (b:=KTD.inKeys kd TL) (aD (gn (ae q2) T.FC)) (λcL H3 s3=>?_) (λcL H3 s3=>?_)
   ·have h3:=s3.dat h2
    have e:dD (.tup (.str kd::r))=(decide ((r.length:Int)+1=2) && cT (r.getD 0 .non) 0 (kq kd TL)):=by
     show (if KTD.inKeys kd TL=true then _ else _)=_
     rw [if_pos cL]
    refine aW (K:=K) (d:=.bl (dD (.tup (.str kd::r)))) ?_ λv H' s q=>post v H' (s1.trans (s2.trans (s3.trans s))) q
    rw [e]
    have el:((((D.str kd)::r).length:Nat):Int)=(r.length:Int)+1:=by rw [List.length_cons];omega
    have b1:=rA (K:=K) (eT (ae (σ:=(gD ["thing","kind"] [v0]).set 1 (some (.str kd))) (k:=0) h3)) (ao (i:=2))
    rw [el] at b1
    refine cR b1 λhl=>?_
    have hl':(r.length:Int)+1=2:=of_decide_eq_true hl
    obtain ⟨y,er⟩:∃ y,r=[y]:=by
     match r,hl' with
     | [],h=>simp at h
     | [y],_=>exact ⟨y,rfl⟩
     | _::_::_,h=>simp at h;omega
    subst er
    refine bg (E:=E0) (R:=gw) (ab (aQ (k:=1) (ae h3) ao rfl) (ab ao (ab (uc (ae (s3.dat q2)) T.FC (by rfl) (EA CF cL)) av))) ⟨y,0,kq kd TL,rfl,rfl⟩
   ·have h3:=s3.dat h2
    have e:dD (.tup (.str kd::r))=(KTD.inKeys kd TB && decide ((r.length:Int)+1=1+kq kd TB)):=by
     show (if KTD.inKeys kd TL=true then _ else _)=_
     rw [if_neg (by rw [cL];exact Bool.false_ne_true)]
    refine aW (K:=K) (d:=.bl (dD (.tup (.str kd::r)))) ?_ λv H' s q=>post v H' (s1.trans (s2.trans (s3.trans s))) q
    rw [e]
    have el:((((D.str kd)::r).length:Nat):Int)=(r.length:Int)+1:=by rw [List.length_cons];omega
    refine cR (gn (ae (s3.dat q2)) T.Fc) λcB=>?_
    have b1:=rA (K:=K) (eT (ae (σ:=(gD ["thing","kind"] [v0]).set 1 (some (.str kd))) (k:=0) h3)) (dC (ao (i:=1)) (uc (ae (σ:=(gD ["thing","kind"] [v0]).set 1 (some (.str kd))) (k:=1) (s3.dat q2)) T.Fc (by rfl) (EA CC cB)))
    rw [el] at b1
    exact b1
  ·cases c'
theorem mH (T:Txt P w K mg)  : FnOk P w K mg base CX0 (k+1) T.Fg T.Fi ["tree"] (spD K fB):=by
 refine T.Fo.ok sc_trees_within (λvs H Q E h=>?_) (λcdv A outer s H vs Q E hr h=>?_)
 ·obtain ⟨ds,d,hd,⟨kd,r,rfl,rfl⟩,_⟩:=h;exact hd.length.symm
 have nd:=sc_trees_within.nd
 obtain ⟨ds,d,hd,⟨kd,r,rfl,rfl⟩,post⟩:=h
 obtain ⟨v0,rfl,h0⟩:=gC hd
 refine ⟨_,(aj (bq (aV kR (aN aS (pv 0) ak (λ_ _=>rfl)) (bL (v:=.ref T.Fs) rfl T.Fb rfl) (by with_unfolding_all rfl)) (au (aI (hU lR (pv 0) (ik ak) jN))) aR)
 (au (aI (aM af)))),?_⟩
 refine aK (K:=K) (b:=KTD.inKeys kd TB) (aD (gn (aQ (k:=0) (ae h0) ao rfl) T.Fc)) (λc H1 s1=>?_) (λc H1 s1=>?_)
 ·refine aW (K:=K) (d:=.tup r) (iQ (ae (s1.dat h0))) λv H' s q=>post v H' (s1.trans s) ?_
  show Dat K H' (.tup (if KTD.inKeys kd TB=true then r else [])) v
  rw [if_pos c]
  exact q
 ·refine aW (K:=K) (σ:=gD ["tree"] [v0]) (d:=.tup []) (aP av) λv H' s q=>post v H' (s1.trans s) ?_
  show Dat K H' (.tup (if KTD.inKeys kd TB=true then r else [])) v
  rw [if_neg (by rw [c];exact Bool.false_ne_true)]
  exact q
theorem zU {ns:List Int} {k:Int} (h0:0≤k) (h1:k < (ns.length:Int)):∃ z,atI (ns.map V.int) k=some (.int z):=by
 have hk:k.toNat < ns.length:=by omega
 refine ⟨ns[k.toNat],?_⟩
 have e:k=((k.toNat:Nat):Int):=by omega
 have q:atI (ns.map V.int) ((k.toNat:Nat):Int)=some (.int ns[k.toNat]):=ia (by rw [List.getElem?_map,List.getElem?_eq_getElem hk] <;> rfl)
 rw [← e] at q
 exact q
theorem qR (T:Txt P w K mg)  : FnOk P w K mg base CX0 (k+1) T.F1 T.F7 ["_law_script","_law_town","_law_many"] (oA K):=by
 refine T.FJ.ok sc__law_draw (λvs H Q E h=>?_) (λcdv A outer s H vs Q E hr h=>?_)
 ·obtain ⟨a,t,ns,m,p,q,rest,rfl,_⟩:=h;rfl
 have nd:=sc__law_draw.nd
 obtain ⟨a,t,ns,m,p,q,rest,rfl,hS,hT,hp,hm,hm2,post⟩:=h
 refine ⟨_,(aj (bq (aV pS (aN bM (pv 1) ak (λ_ _=>rfl)) ak (aY _)) (aj (bj (i:=3) nd rfl (Or.inl rfl) (bu gy (aN bM (pv 1) ak (λ_ _=>rfl)) (pv 2)))
 (aj (fE (bu kQ (aN bM (pv 1) ak (λ_ _=>rfl)) (pv 2)) (zR (pv 1) ak kW))
 (au (aI (pv 3))))) aR)
 (aj (bj (i:=4) nd rfl (Or.inl rfl) (aN bM (pv 1) ak (λ_ _=>rfl)))
 (aj (wx (pv 1) ak sS ak nC kW)
 (aj (bq (aV (uU hr) (pv 0) (bA af) (aY _)) (au (aI (bu gy (pv 4) (pv 2)))) aR)
 (aj (bq (PW.pt (rp (aV pU (pv 4) (aT aU rfl T.Fq bP (ag (pv 0) af)) (aY _)) (mP (aV zM (aN bM (pv 0) (pv 4) (λ_ _=>rfl)) (bu rg ak ak) (aY _))))) (aj (fE (bu gy (bu kQ (aN bM (pv 0) (pv 4) (λ_ _=>rfl)) (pv 2)) (bu Bp (bu rg ak ak) (bu rg ak ak))) (zR (pv 1) ak kW))
 (au (aI (bu gy (aN bM (pv 0) (pv 4) (λ_ _=>rfl)) (pv 2))))) aR)
 (aj (bj (i:=5) nd rfl (Or.inl rfl) (bu gy (bu cM (bu cM (bu zO (aN bM (pv 0) (bu gy (pv 4) (aT aU rfl T.Fq bP (ag (pv 0) af))) (λ_ _=>rfl)) ak) (bu zO ak (pv 4))) ak) ak))
 (au (aI (bu gy (bu gy (bu gy (bu rg (pv 5) ak) ak) ak) (pv 2)))))))))),?_⟩
 refine ⟨_,rfl,t,_,1,_,rfl,rfl,SqL.of hT,at1,q,0,rfl,rfl,_,rfl,?_⟩
 refine oQ (λc=>?_) (λc=>?_)
 ·refine ⟨_,rfl,t,_,1,_,rfl,rfl,SqL.of hT,at1,_,rfl,q,m,rfl,rfl,hm,?_⟩
  refine ⟨_,rfl,t,_,1,_,rfl,rfl,SqL.of hT,at1,_,rfl,q,m,rfl,rfl,⟨hm,by omega⟩,?_⟩
  refine ⟨_,rfl,t,_,1,1,rfl,rfl,hT,ix1,?_⟩
  refine ⟨_,rfl,?_⟩
  exact post (q % m) _ p (q / m) (But.upd (Same.refl H).but) aq hp (Int.emod_nonneg _ (by omega)) (Int.emod_lt_of_pos _ hm)
 refine ⟨_,rfl,t,_,0,_,rfl,rfl,SqL.of hT,at0,?_⟩
 refine ⟨_,rfl,t,_,0,_,rfl,rfl,Int.le_refl 0,SqL.of hT,rfl,p,1,rfl,rfl,t,_,0,0,rfl,rfl,hT,ix0,?_⟩
 refine ⟨_,rfl,(by show 0≤sizeLine;decide),λl hl=>?_⟩
 have bt1:But t H (upd H t (.lst ((V.int p::.int q::rest).set 0 (.int (p+1))))):=But.upd (Same.refl H).but
 have hlt:l≠t:=λz=>by rw [z,aq] at hl;cases hl
 have bt3:=bt1.trans (aG hl (.lst [])).but
 have ht3:upd (upd H t (.lst ((V.int p::.int q::rest).set 0 (.int (p+1))))) l (.lst []) t=some (.lst (.int (p+1)::.int q::rest)):=by
  rw [aJ (Ne.symm hlt)];exact aq
 have hS3:=(hS.but bt3 hT).sqL
 have hlen:((ns.map V.int).length:Int)=(ns.length:Int):=by rw [List.length_map]
 refine ⟨a,l,_,[],ns.map D.int,[],rfl,rfl,hS3,SqL.of aq,pB ns,Dats.nil,lF ns,(by unfold noLs;rfl),(by rw [jy];decide),_,rfl,?_⟩
 show (if eqDs (ns.map D.int) []=true then _ else _)
 rw [yQ]
 refine oQ (λc0=>?_) (λc0=>?_)
 ·refine ⟨_,rfl,_,rfl,p,m,rfl,rfl,hm,?_⟩
  exact post _ _ (p+1) q bt3 ht3 (by omega) (Int.emod_nonneg _ (by omega)) (Int.emod_lt_of_pos _ hm)
 have hl0:(0:Int) < ((ns.map V.int).length:Int):=by
  rw [hlen]
  cases ns with
  | nil=>exact absurd rfl c0
  | cons n ns=>rw [List.length_cons];omega
 refine ⟨_,rfl,_,rfl,a,_,rfl,.inl hS3,p,_,rfl,rfl,_,rfl,?_⟩
 refine oQ (λc1=>?_) (λc1=>?_)
 ·have c1':p < ((ns.map V.int).length:Int):=of_decide_eq_true c1
  obtain ⟨z,hz⟩:=zU (ns:=ns) hp (by rw [← hlen];exact c1')
  refine ⟨_,rfl,_,rfl,a,_,p,_,rfl,rfl,hS3,hz,10,18,rfl,rfl,⟨by decide,by decide,by decide⟩,z,_,rfl,rfl,_,rfl,?_⟩
  refine oQ (λc2=>?_) (λc2=>?_)
  ·refine ⟨_,rfl,_,rfl,a,_,p,_,rfl,rfl,hS3,hz,_,rfl,z,m,rfl,rfl,⟨hm,by omega⟩,10,60,rfl,rfl,⟨by decide,by decide,by decide⟩,10,60,rfl,rfl,⟨by decide,by decide,by decide⟩,_,_,rfl,rfl,IntMulOk.of_bits (by decide +kernel) (by decide +kernel),_,_,rfl,rfl,(by show (0:Int) < 10 ^ (60:Int).toNat * 10 ^ (60:Int).toNat;decide +kernel),?_⟩
   refine ⟨_,rfl,t,_,1,1,rfl,rfl,ht3,ix1,?_⟩
   refine ⟨_,rfl,_,rfl,a,_,p,_,rfl,rfl,(hS.but bt3.upd hT).sqL,hz,_,rfl,z,m,rfl,rfl,hm,?_⟩
   exact post _ _ (p+1) _ bt3.upd aq (by omega) (Int.emod_nonneg _ (by omega)) (Int.emod_lt_of_pos _ hm)
  ·refine ⟨_,rfl,_,rfl,_,rfl,a,_,rfl,.inl hS3,p,_,rfl,rfl,hl0,?_⟩
   obtain ⟨z2,hz2⟩:=zU (ns:=ns) (Int.emod_nonneg p (by omega:((ns.map V.int).length:Int)≠0)) (by rw [← hlen];exact Int.emod_lt_of_pos p hl0)
   refine ⟨a,_,_,_,rfl,rfl,hS3,hz2,z2,1103515245,rfl,rfl,.inr ⟨by decide,by decide⟩,_,rfl,7919,p,rfl,rfl,.inl ⟨by decide,by decide⟩,_,_,rfl,rfl,_,_,rfl,rfl,_,_,rfl,rfl,(by show (0:Int) < 2147483647;decide),?_⟩
   have m1:=Int.emod_nonneg (z2 * 1103515245+7919 * p+12345) (by decide:(2147483647:Int)≠0)
   have m2:=Int.emod_lt_of_pos (z2 * 1103515245+7919 * p+12345) (by decide:(0:Int) < 2147483647)
   refine ⟨_,rfl,_,5,rfl,rfl,⟨by decide,by decide,by omega⟩,_,_,rfl,rfl,(by show (0:Int) < 2147483647;decide),_,_,rfl,rfl,(by show (0:Int) < 999983;decide),_,rfl,_,m,rfl,rfl,hm,?_⟩
   exact post _ _ (p+1) q bt3 ht3 (by omega) (Int.emod_nonneg _ (by omega)) (Int.emod_lt_of_pos _ hm)
 ·refine ⟨_,rfl,_,rfl,_,rfl,a,_,rfl,.inl hS3,p,_,rfl,rfl,hl0,?_⟩
  obtain ⟨z2,hz2⟩:=zU (ns:=ns) (Int.emod_nonneg p (by omega:((ns.map V.int).length:Int)≠0)) (by rw [← hlen];exact Int.emod_lt_of_pos p hl0)
  refine ⟨a,_,_,_,rfl,rfl,hS3,hz2,z2,1103515245,rfl,rfl,.inr ⟨by decide,by decide⟩,_,rfl,7919,p,rfl,rfl,.inl ⟨by decide,by decide⟩,_,_,rfl,rfl,_,_,rfl,rfl,_,_,rfl,rfl,(by show (0:Int) < 2147483647;decide),?_⟩
  have m1:=Int.emod_nonneg (z2 * 1103515245+7919 * p+12345) (by decide:(2147483647:Int)≠0)
  have m2:=Int.emod_lt_of_pos (z2 * 1103515245+7919 * p+12345) (by decide:(0:Int) < 2147483647)
  refine ⟨_,rfl,_,5,rfl,rfl,⟨by decide,by decide,by omega⟩,_,_,rfl,rfl,(by show (0:Int) < 2147483647;decide),_,_,rfl,rfl,(by show (0:Int) < 999983;decide),_,rfl,_,m,rfl,rfl,hm,?_⟩
  exact post _ _ (p+1) q bt3 ht3 (by omega) (Int.emod_nonneg _ (by omega)) (Int.emod_lt_of_pos _ hm)
noncomputable def oB (K:PySem.W.Frag):Sp:=λvs H Q _=>∃ (a t l:Addr) (ns:List Int) (xs:List V) (p q:Int) (rest:List V),vs=[.ref a,.ref t,.ref l]/\Scr K H a ns/\SqL K H l xs/\l≠t/\0 < xs.length/\xs.length≤1000000 /\
 H t=some (.lst (.int p::.int q::rest))/\0≤p/\∀ (i:Nat) (x:V) (H':Hp) (p' q':Int),But t H H'->H' t=some (.lst (.int p'::.int q'::rest))->0≤p'->xs[i]?=some x->Q x H'
theorem qT (T:Txt P w K mg) (FI:FnOk P w K mg base CX0 k T.F1 T.F7 ["_law_script","_law_town","_law_many"] (oA K)):FnOk P w K mg base CX0 (k+1) T.F4 T.F8 ["_law_script","_law_town","_law_some"] (oB K):=by
 refine T.Ga.ok sc__law_pick (λvs H Q E h=>?_) (λcdv A outer s H vs Q E hr h=>?_)
 ·obtain ⟨a,t,l,ns,xs,p,q,rest,rfl,_⟩:=h;rfl
 have nd:=sc__law_pick.nd
 obtain ⟨a,t,l,ns,xs,p,q,rest,rfl,hS,hL,hlt,hx0,hx1,hT,hp,post⟩:=h
 refine ⟨_,(au (aI (aN bM (pv 2) (ay FI hr rfl T.GJ T.FJ.kp (fu T) .nil aO (ag (pv 0) (ag (pv 1) (ag (aT aU rfl T.Fq bP (ag (pv 2) af)) af)))) (λ_ _=>rfl)))),?_⟩
 refine ⟨_,rfl,_,rfl,_,rfl,_,rfl,l,xs,rfl,.inl hL,a,t,ns,(xs.length:Int),p,q,rest,rfl,hS,hT,hp,by omega,by omega,λr H1 p1 q1 b1 t1 g1 r0 r1=>?_⟩
 have hr':r.toNat < xs.length:=by omega
 have er:r=((r.toNat:Nat):Int):=by omega
 have z:atI xs ((r.toNat:Nat):Int)=some xs[r.toNat]:=ia (List.getElem?_eq_getElem hr')
 rw [← er] at z
 exact ⟨l,xs,r,xs[r.toNat],rfl,rfl,b1.sqL hlt hL,z,post r.toNat _ H1 p1 q1 b1 t1 g1 (List.getElem?_eq_getElem hr')⟩
end
inductive Tr where
 | num (n:Int)
 | arg (k:Int)
 | two (o:Str) (a b:Tr)
 | pick (a b c:Tr)
 | call (k:Int)
noncomputable def toD:Tr->D
 | .num n=>.tup [.str "num",.int n]
 | .arg k=>.tup [.str "arg",.int k]
 | .two o a b=>.tup [.str o,toD a,toD b]
 | .pick a b c=>.tup [.str "pick",toD a,toD b,toD c]
 | .call k=>.tup [.str "call",.int k]
noncomputable def okT:Tr->Prop
 | .num n=>0≤n/\n≤9999
 | .arg k=>0≤k/\k≤3
 | .two o a b=>(o="add"\/o="sub"\/o="mul"\/o="less")/\okT a/\okT b
 | .pick a b c=>okT a/\okT b/\okT c
 | .call _=>False
noncomputable def okX:Tr->Prop
 | .num n=>0≤n/\n≤9999
 | .arg k=>0≤k/\k≤3
 | .two o a b=>(o="add"\/o="sub"\/o="mul"\/o="less")/\okX a/\okX b
 | .pick a b c=>okX a/\okX b/\okX c
 | .call k=>0≤k/\k≤9
theorem ig:∀ {t:Tr},okT t->okX t
 | .num _,h=>h
 | .arg _,h=>h
 | .two _ _ _,h=>⟨h.1,ig h.2.1,ig h.2.2⟩
 | .pick _ _ _,h=>⟨ig h.1,ig h.2.1,ig h.2.2⟩
 | .call _,h=>h.elim
noncomputable def aE:Tr->Nat
 | .num _=>1
 | .arg _=>1
 | .two _ a b=>max (aE a) (aE b)+1
 | .pick a b c=>max (aE a) (max (aE b) (aE c))+1
 | .call _=>1
noncomputable def aC:Tr->Nat
 | .num _=>1
 | .arg _=>1
 | .two _ a b=>aC a+aC b+1
 | .pick a b c=>aC a+aC b+aC c+1
 | .call _=>1
noncomputable def bh:Tr->List Tr
 | .num _=>[]
 | .arg _=>[]
 | .two _ a b=>[a,b]
 | .pick a b c=>[a,b,c]
 | .call _=>[]
noncomputable def ax:Tr->List Tr
 | .num n=>[.num n]
 | .arg k=>[.arg k]
 | .two o a b=>.two o a b::(ax a++ax b)
 | .pick a b c=>.pick a b c::(ax a++ax b++ax c)
 | .call k=>[.call k]
theorem bI:∀ t:Tr,(ax t).length=aC t
 | .num _=>rfl
 | .arg _=>rfl
 | .two _ a b=>by simp only [ax,aC,List.length_cons,List.length_append,bI a,bI b]
 | .pick a b c=>by simp only [ax,aC,List.length_cons,List.length_append,bI a,bI b,bI c]
 | .call _=>rfl
theorem cX (t:Tr):1≤aE t:=by cases t <;> simp [aE]
theorem tE {o:Str} (h:o="add"\/o="sub"\/o="mul"\/o="less"):KTD.inKeys o TL=false/\KTD.inKeys o TB=true/\kq o TB=2:=by
 rcases h with rfl | rfl | rfl | rfl <;> decide +kernel
theorem pR:KTD.inKeys ("pick":Str) TL=false/\KTD.inKeys ("pick":Str) TB=true/\kq ("pick":Str) TB=3:=by decide +kernel
theorem tD:KTD.inKeys ("num":Str) TL=true/\KTD.inKeys ("num":Str) TB=false/\kq ("num":Str) TL=9999:=by decide +kernel
theorem tw:KTD.inKeys ("arg":Str) TL=true/\KTD.inKeys ("arg":Str) TB=false/\kq ("arg":Str) TL=3:=by decide +kernel
variable {r:List D}
theorem nM {k:Str} (h:KTD.inKeys k TL=true):dD (.tup (.str k::r))=(decide ((r.length:Int)+1=2) && cT (r.getD 0 .non) 0 (kq k TL)):=by
 unfold dD
 dsimp only
 rw [if_pos h]
theorem nL {k:Str} (h:KTD.inKeys k TL=false):dD (.tup (.str k::r))=(KTD.inKeys k TB && decide ((r.length:Int)+1=1+kq k TB)):=by
 unfold dD
 dsimp only
 rw [if_neg (by rw [h];exact Bool.false_ne_true)]
theorem kN {k:Str} (h:KTD.inKeys k TB=true):cy (.tup (.str k::r))=r:=by
 unfold cy
 dsimp only
 rw [if_pos h]
theorem gU {k:Str} (h:KTD.inKeys k TB=false):cy (.tup (.str k::r))=[]:=by
 unfold cy
 dsimp only
 rw [if_neg (by rw [h];exact Bool.false_ne_true)]
theorem mM:∀ t:Tr,okT t->dD (toD t)=true/\cy (toD t)=(bh t).map toD
 | .num n,h=>by
  obtain ⟨h1,h2,h3⟩:=tD
  refine ⟨?_,gU h2⟩
  unfold toD
  rw [nM h1,h3]
  show (decide ((1:Int)+1=2) && (decide (0≤n) && decide (n≤9999)))=true
  simp [h.1,h.2]
 | .arg n,h=>by
  obtain ⟨h1,h2,h3⟩:=tw
  refine ⟨?_,gU h2⟩
  unfold toD
  rw [nM h1,h3]
  show (decide ((1:Int)+1=2) && (decide (0≤n) && decide (n≤3)))=true
  simp [h.1,h.2]
 | .two o a b,h=>by
  obtain ⟨h1,h2,h3⟩:=tE h.1
  refine ⟨?_,kN h2⟩
  unfold toD
  rw [nL h1,h2,h3]
  rfl
 | .pick a b c,h=>by
  obtain ⟨h1,h2,h3⟩:=pR
  refine ⟨?_,kN h2⟩
  unfold toD
  rw [nL h1,h2,h3]
  rfl
 | .call _,h=>h.elim
theorem xD:KTD.inKeys ("call":Str) TB=false:=by decide +kernel
theorem B5:∀ t:Tr,okX t->cy (toD t)=(bh t).map toD
 | .num _,_=>gU tD.2.1
 | .arg _,_=>gU tw.2.1
 | .two _ _ _,h=>kN (tE h.1).2.1
 | .pick _ _ _,_=>kN pR.2.1
 | .call _,_=>gU xD
noncomputable def j5:Nat->List (D × Int)->Int->Bool
 | 0,_,_=>false
 | _+1,[],_=>true
 | n+1,(d,dp)::st,p=>if (decide (40 < p+1) || (decide (8 < dp) || !dD d))=true then false else j5 n (((cy d).map λx=>(x,dp+1)).reverse++st) (p+1)
noncomputable def fW (d:D):Bool:=j5 50 [(d,1)] 0
theorem jM {n:Nat} {d:D} {dp:Int} {st:List (D × Int)} {p:Int} (h1:p+1≤40) (h2:dp≤8) (h3:dD d=true):j5 (n+1) ((d,dp)::st) p=j5 n (((cy d).map λx=>(x,dp+1)).reverse++st) (p+1):=by
 show (if _=true then false else _)=_
 rw [if_neg]
 simp [h3]
 omega
theorem gW:∀ (t:Tr),okT t->∀ (n:Nat) (dp:Int) (st:List (D × Int)) (p:Int),(aE t:Int)+dp≤9->p+(aC t:Int)≤40->j5 (n+aC t) ((toD t,dp)::st) p=j5 n st (p+aC t)
 | .num m,h,n,dp,st,p,h1,h2=>by
  obtain ⟨e1,e2⟩:=mM (.num m) h
  simp only [aE,aC] at h1 h2 ⊢
  rw [jM (by omega) (by omega) e1,e2]
  rfl
 | .arg m,h,n,dp,st,p,h1,h2=>by
  obtain ⟨e1,e2⟩:=mM (.arg m) h
  simp only [aE,aC] at h1 h2 ⊢
  rw [jM (by omega) (by omega) e1,e2]
  rfl
 | .two o a b,h,n,dp,st,p,h1,h2=>by
  obtain ⟨e1,e2⟩:=mM (.two o a b) h
  have d1:=cX a
  simp only [aE,aC] at h1 h2 ⊢
  have g1:(aE a:Int)+(dp+1)≤9:=by omega
  have g2:(aE b:Int)+(dp+1)≤9:=by omega
  rw [show n+(aC a+aC b+1)=(n+aC a+aC b)+1 by omega,jM (by omega) (by omega) e1,e2]
  show j5 (n+aC a+aC b) ((toD b,dp+1)::(toD a,dp+1)::st) (p+1)=_
  rw [gW b h.2.2 (n+aC a) (dp+1) ((toD a,dp+1)::st) (p+1) g2 (by omega),gW a h.2.1 n (dp+1) st _ g1 (by omega)]
  congr 1
  omega
 | .pick a b c,h,n,dp,st,p,h1,h2=>by
  obtain ⟨e1,e2⟩:=mM (.pick a b c) h
  have d1:=cX a
  simp only [aE,aC] at h1 h2 ⊢
  have g1:(aE a:Int)+(dp+1)≤9:=by omega
  have g2:(aE b:Int)+(dp+1)≤9:=by omega
  have g3:(aE c:Int)+(dp+1)≤9:=by omega
  rw [show n+(aC a+aC b+aC c+1)=(n+aC a+aC b+aC c)+1 by omega,jM (by omega) (by omega) e1,e2]
  show j5 (n+aC a+aC b+aC c) ((toD c,dp+1)::(toD b,dp+1)::(toD a,dp+1)::st) (p+1)=_
  rw [gW c h.2.2 (n+aC a+aC b) (dp+1) _ (p+1) g3 (by omega),gW b h.2.1 (n+aC a) (dp+1) _ _ g2 (by omega),gW a h.1 n (dp+1) st _ g1 (by omega)]
  congr 1
  omega
 | .call _,h,_,_,_,_,_,_=>h.elim
theorem mW {t:Tr} (h:okT t) (h1:aE t≤8) (h2:aC t≤40):fW (toD t)=true:=by
 have q:=gW t h (50 - aC t) 1 [] 0 (by omega) (by omega)
 rw [show 50 - aC t+aC t=50 by omega] at q
 unfold fW
 rw [q]
 obtain ⟨m,e⟩:∃ m,50 - aC t=m+1:=⟨50 - aC t - 1,by omega⟩
 rw [e]
 rfl
section
variable {P:Program} {w:World} {K:PySem.W.Frag} {mg:Str->Option Value} {base:Heap} {k:Nat}
noncomputable def mu2 (σ:L2.St) (_:Hp):Nat:=match σ[2]? with
 | some (some (V.int p))=>(50 - p).toNat
 | _=>0
noncomputable def mI (ds:List D) (d:D):Prop:=∃ x,ds=[x]/\d=.bl (fW x)
noncomputable abbrev pr (x:D × Int):D:=.tup [x.1,.int x.2]
variable {H:Hp}
theorem pC {K:PySem.W.Frag} {b:D}:∀ {as:List D} {vs:List V},Dats K H (as++[b]) vs->∃ us v,vs=us++[v]/\Dats K H as us/\Dat K H b v
 | [],vs,h=>by
  obtain ⟨v,e,q⟩:=gC h
  exact ⟨[],v,e,Dats.nil,q⟩
 | a::as,vs,h=>by
  obtain ⟨u,r,e,h1,h2⟩:=h.consE
  obtain ⟨us,v,e2,h3,h4⟩:=pC h2
  subst e2 e
  exact ⟨u::us,v,rfl,Dats.cons h1 h3,h4⟩
theorem BW (k:Str):kq k TB≤3:=by
 unfold kq
 split
 ·rename_i i e
  simp only [TB,KTD.datumAt] at e
  repeat' split at e
  all_goals first
   | (cases e;decide)
   | cases e
 ·decide
variable {d:D}
theorem nG (h:dD d=true):(cy d).length≤3:=by
 unfold dD at h
 split at h
 ·rename_i k r
  unfold cy
  dsimp only
  split
  ·rename_i hb
   split at h
   ·rw [Bool.and_eq_true] at h
    have z:=of_decide_eq_true h.1
    omega
   ·rw [Bool.and_eq_true] at h
    have z:=of_decide_eq_true h.2
    have z2:=BW k
    omega
  ·exact Nat.zero_le _
 ·cases h
theorem nN (h:dD d=true):∃ k r,d=.tup (.str k::r):=by
 unfold dD at h
 split at h
 ·exact ⟨_,_,rfl⟩
 ·cases h
theorem uR (T:Txt P w K mg) (KC:FnOk P w K mg base CX0 k T.IP T.IS ["thing"] (spD K yq)) (Fe:FnOk P w K mg base CX0 k T.Fg T.Fi ["tree"] (spD K fB)):FnOk P w K mg base CX0 (k+1) T.IQ T.IT ["thing"] (spD K mI):=by
 refine T.JE.ok sc_is_tree (λvs H Q E h=>?_) (λcdv A outer s H vs Q E hr h=>?_)
 ·obtain ⟨ds,d,hd,⟨x,rfl,rfl⟩,_⟩:=h;exact hd.length.symm
 have nd:=sc_is_tree.nd
 obtain ⟨ds,d,hd,⟨x,rfl,rfl⟩,post⟩:=h
 obtain ⟨v0,rfl,h0⟩:=gC hd
 refine ⟨_,(aj (bj (i:=1) nd rfl (Or.inl rfl) (bA (ag (aM (ag (pv 0) (ag ak af))) af)))
 (aj (bj (i:=2) nd rfl (Or.inl rfl) ak)
 (aj (tW PassesOwn.never (br (pv 1) (λ_=>rfl)) (aj (fE (Dm PySem.F.plainAttrs_list PySem.F.slot_list_pop PySem.F.type_list_pop Dd (pv 1)) (eE rfl (aZ (aL (i:=3) nd rfl (Or.inl rfl)) (aZ (aL (i:=4) nd rfl (Or.inr rfl)) cP))))
 (aj (rn (i:=2) nd rfl (Or.inl rfl) ak nC)
 (aj (bq (PW.pt (fF (aV pS (pv 2) (bL (v:=.int 40) rfl T.GP ⟨_,rfl⟩) (aY _)) (fF (aV pS (pv 4) (bL (v:=.int 8) rfl T.Hq ⟨_,rfl⟩) (aY _)) (fq (ck (br (ay KC hr rfl T.KI T.JD.kp (o9 T) .nil aO (ag (pv 3) af)) (λ_=>rfl))))))) (au (aI cu)) aR)
 (au (bE (dq PySem.F.plainAttrs_list PySem.F.slot_list_extend PySem.F.type_list_extend eH (pv 1) (ag (cO (own:=["within"]) (fr:=[4]) (N':=["within","deep"]) (iE (ay Fe hr rfl T.FZ T.Fo.kp (d8 T) .nil aO (ag (pv 3) af))) rfl (by show cj ["thing","waiting","parts","part","deep"] (λx=>(aA iT).names.lookup x) _ _ _ _=true;decide +kernel) rfl (λ_ _ _ _ _=>(aL (i:=0) (by show List.Nodup [("within":Str),("deep":Str)];decide +kernel) rfl (Or.inl rfl))) (λ_ _ _ _ _=>bO) (λ_ _ _ _ _=>(aM (ag (pv 0) (ag (bu cM (pv 1) ak) af))))) af))))))))
 (au (aI cu))))),?_⟩
 refine cZ (ot (K:=K) (ab (aP (ab (ae h0) (ab ao av))) av) λwl vs1 H1 s1 hw q1=>?_)
 have hw0:H wl=none:=s1.free hw
 have s1':Same H (upd H1 wl (.lst vs1)):=s1.trans (aG hw _)
 refine cZ (wD (cJ (uq (λσ G=>∃ (st:List (D × Int)) (p:Int) (n:Nat) (xs:List V) (z3 z4:Option V),σ=[some v0,some (.ref wl),some (.int p),z3,z4]/\G wl=some (.lst xs)/\Dats K G (st.reverse.map pr) xs/\Same H G/\j5 n st p=fW x/\0≤p/\p≤40/\(n:Int)=50 - p/\(xs.length:Int)≤1+3 * p)
  mu2 ?_ ?_ ?_)))
 ·refine ⟨[(x,1)],0,50,vs1,none,none,rfl,aq,(aG hw _).dats q1,s1',rfl,by decide,by decide,by decide,?_⟩
  rw [← q1.length]
  simp
 ·rintro σ G ⟨st,p,n,xs,z3,z4,rfl,hG,hd,sG,lp,p0,p1,en,lx⟩
  refine ⟨_,rfl,!xs.isEmpty,.inl ⟨xs,SqL.of hG,rfl⟩,?_⟩
  cases st with
  | nil =>
   have ex:=hd.nilE
   subst ex
   rw [if_neg (by simp)]
   obtain ⟨m,rfl⟩:∃ m,n=m+1:=⟨n - 1,by omega⟩
   have lp':fW x=true:=lp.symm
   refine post _ _ sG ?_
   rw [lp']
   exact Dat.blI _
  | cons e st =>
   obtain ⟨y,dp⟩:=e
   rw [List.reverse_cons,List.map_append] at hd
   obtain ⟨us,v,ex,hu,hv⟩:=pC hd
   subst ex
   obtain ⟨a,ws,ev,hq,hws⟩:=hv.tupE
   obtain ⟨vy,vd,ew,hy,hdp⟩:=gk hws
   have edp:=hdp.intE
   subst edp ew ev
   rw [if_pos (by simp)]
   refine ⟨_,rfl,.inl ⟨rfl,_,SqL.of hG⟩,wl,us++[.ref a],.ref a,rfl,rfl,hG,(by simp),?_⟩
   rw [List.dropLast_concat]
   have bt:But wl G (upd G wl (.lst us)):=But.upd (Same.refl G).but
   have g2:cW K G (upd G wl (.lst us)):=bt.grow hG aq
   refine ⟨a,[vy,.int dp],rfl,bt.sqT hG hq,rfl,vy,_,rfl,.int dp,_,rfl,rfl,?_⟩
   have s2:Same H (upd G wl (.lst us)):=λb o hb=>bt b o (az hb hw0) (sG b o hb)
   have hy2:=Dat.mono g2 _ hy
   have hu2:=Dats.mono g2 _ hu
   refine ⟨_,rfl,p,1,rfl,rfl,?_⟩
   dsimp only
   refine aK (K:=K) (b:=decide (40 < p+1) || (decide (8 < dp) || !dD y)) ?_ (λc H3 s3=>?_) (λc H3 s3=>?_)
   ·exact dJ (aD (eR (ae (K:=K) (Dat.intI (p+1))) ao)) λ_=>dJ (aD (eR (ae (K:=K) (Dat.intI dp)) ao)) λ_=>bJ (aX (bg (ab (ae hy2) av) ⟨y,rfl,rfl⟩))
   ·refine post _ _ (s2.trans s3) ?_
    obtain ⟨m,rfl⟩:∃ m,n=m+1:=⟨n - 1,by omega⟩
    have lp':fW x=false:=by
     rw [← lp]
     show (if (decide (40 < p+1) || (decide (8 < dp) || !dD y))=true then false else _)=false
     rw [if_pos c]
    rw [lp']
    exact Dat.blI _
   ·obtain ⟨m,rfl⟩:∃ m,n=m+1:=⟨n - 1,by omega⟩
    have lp':j5 m (((cy y).map λx=>(x,dp+1)).reverse++st) (p+1)=fW x:=by
     rw [← lp]
     show _=(if (decide (40 < p+1) || (decide (8 < dp) || !dD y))=true then false else _)
     rw [if_neg (by rw [c];exact Bool.false_ne_true)]
    simp only [Bool.or_eq_false_iff,decide_eq_false_iff_not,Bool.not_eq_false'] at c
    obtain ⟨c1,c2,c3⟩:=c
    obtain ⟨kd,r,ey⟩:=nN c3
    have few:=nG c3
    have hw3:=s3 _ _ (show upd G wl (.lst us) wl=some (.lst us) from aq)
    refine ⟨_,rfl,.inl ⟨rfl,_,SqL.of hw3⟩,?_⟩
    refine pZ (K:=K) (cs:=cy y) (bg (R:=fB) (ab (ae (s3.dat hy2)) av) ⟨kd,r,by rw [ey],by rw [ey]⟩) (by omega) ((cy y).map λz=>pr (z,dp+1)) (List.length_map _) rfl (λH4 i z vz d s4 hz hi hvz=>?_) (λl ys H5 hl s5 hl5 hd5=>?_)
    ·rw [List.getElem?_map,hz] at hi
     cases hi
     exact aP (ab (ae hvz) (ab (dC (ae (Dat.intI dp)) ao) av))
    ·have hw5:=s5 _ _ hw3
     have ly:ys.length=(cy y).length:=by rw [← hd5.length,List.length_map]
     have lu:us.length=st.length:=by rw [← hu.length,List.length_map,List.length_reverse]
     rw [List.length_append,List.length_singleton] at lx
     have b5:But wl H5 (upd H5 wl (.lst (us++ys))):=But.upd (Same.refl H5).but
     have g5:cW K H5 (upd H5 wl (.lst (us++ys))):=b5.grow hw5 aq
     refine ⟨wl,l,us,ys,rfl,rfl,hw5,hl5,cm (by omega),?_⟩
     refine ⟨⟨_,p+1,m,us++ys,_,_,rfl,aq,?_,?_,lp',by omega,by omega,by omega,?_⟩,?_⟩
     ·rw [List.reverse_append,List.reverse_reverse,List.map_append,List.map_map]
      exact Dats.append (Dats.mono g5 _ ((s3.trans s5).dats hu2)) (Dats.mono g5 _ hd5)
     ·exact λb o hb=>b5 b o (az hb hw0) (s5 _ _ (s3 _ _ (s2 _ _ hb)))
     ·rw [List.length_append]
      omega
     ·show (50 - (p+1)).toNat < (50 - p).toNat
      omega
 ·intro σ G Q1 Q2 hQ hc
  obtain ⟨v,e,k',tr,q⟩:=hc
  exact ⟨v,e,k',tr,hQ _ _ q⟩
theorem rb (T:Txt P w K mg) (KD:FnOk P w K mg base CX0 k T.IQ T.IT ["thing"] (spD K mI)):FnOk P w K mg base CX0 (k+1) T.GB T.GG ["tree"] (spD K λds d=>∃ x,ds=[x]/\fW x=true/\d=.non):=by
 refine T.Ho.ok sc_need_tree (λvs H Q E h=>?_) (λcdv A outer s H vs Q E hr h=>?_)
 ·obtain ⟨ds,d,hd,⟨x,rfl,_,rfl⟩,_⟩:=h;exact hd.length.symm
 have nd:=sc_need_tree.nd
 obtain ⟨ds,d,hd,⟨x,rfl,hx,rfl⟩,post⟩:=h
 obtain ⟨v0,rfl,h0⟩:=gC hd
 refine ⟨_,(au (bq (ck (br (ay KD hr rfl T.KJ T.JE.kp (pd T) .nil aO (ag (pv 0) af)) (λ_=>rfl))) (au iP) aR)),?_⟩
 refine js (b:=!fW x) (bJ (aX (bg (ab (ae h0) av) ⟨x,rfl,rfl⟩))) (λc H1 s1=>?_) (λc H1 s1=>?_)
 ·rw [hx] at c
  cases c
 ·exact post _ _ s1 Dat.nonI
noncomputable def fO (n:Nat) (ds es:List D):Prop:=∃ t,ds=[toD t]/\okX t/\aE t≤n/\aC t≤200/\es=(ax t).map toD
theorem dB (t:Tr):ax t=t::(bh t).flatMap ax:=by
 cases t <;> simp [ax,bh]
variable {t x:Tr}
theorem vY (h:okX t) (hx:x ∈ bh t):okX x/\aE x+1≤aE t/\aC x+1≤aC t:=by
 cases t with
 | num n=>simp [bh] at hx
 | arg n=>simp [bh] at hx
 | call n=>simp [bh] at hx
 | two o a b =>
  simp only [bh,List.mem_cons,List.not_mem_nil,or_false] at hx
  rcases hx with rfl | rfl
  ·exact ⟨h.2.1,by simp only [aE];omega,by simp only [aC];omega⟩
  ·exact ⟨h.2.2,by simp only [aE];omega,by simp only [aC];omega⟩
 | pick a b c =>
  simp only [bh,List.mem_cons,List.not_mem_nil,or_false] at hx
  rcases hx with rfl | rfl | rfl
  ·exact ⟨h.1,by simp only [aE];omega,by simp only [aC];omega⟩
  ·exact ⟨h.2.1,by simp only [aE];omega,by simp only [aC];omega⟩
  ·exact ⟨h.2.2,by simp only [aE];omega,by simp only [aC];omega⟩
noncomputable def rR (t:Tr) (i:Nat):List Tr:=t::((bh t).take i).flatMap ax
variable {i:Nat}
theorem qk (h:(bh t)[i]?=some x):rR t (i+1)=rR t i++ax x:=by
 unfold rR
 rw [List.take_add_one,h]
 simp
theorem uk (t:Tr):rR t (bh t).length=ax t:=by
 unfold rR
 rw [List.take_length,dB]
theorem wN (t:Tr) (i:Nat):(rR t i).length≤aC t:=by
 rw [← bI t,dB]
 unfold rR
 rw [List.length_cons,List.length_cons]
 have h:((bh t).take i).flatMap ax++((bh t).drop i).flatMap ax=(bh t).flatMap ax:=by
  rw [← List.flatMap_append,List.take_append_drop]
 have h2:=congrArg List.length h
 rw [List.length_append] at h2
 omega
theorem wM (t:Tr):∃ kd r,toD t=.tup (.str kd::r):=by
 cases t <;> exact ⟨_,_,rfl⟩
variable {n:Nat}
theorem xG (T:Txt P w K mg) (Fe:FnOk P w K mg base CX0 k T.Fg T.Fi ["tree"] (spD K fB)) (JZ:FnOk P w K mg base CX0 k T.Io T.Iw ["tree"] (iG K (fO n))):FnOk P w K mg base CX0 (k+1) T.Io T.Iw ["tree"] (iG K (fO (n+1))):=by
 refine T.JF.ok sc_walked (λvs H Q E h=>?_) (λcdv A outer s H vs Q E hr h=>?_)
 ·obtain ⟨ds,es,hd,⟨t,rfl,_⟩,_⟩:=h;exact hd.length.symm
 have nd:=sc_walked.nd
 obtain ⟨ds,es,hd,⟨t,rfl,ht,hn,hz,rfl⟩,post⟩:=h
 obtain ⟨v0,rfl,h0⟩:=gC hd
 refine ⟨_,(aj (bj (i:=1) nd rfl (Or.inl rfl) (bA (ag (pv 0) af)))
 (aj (gA PassesOwn.never rfl (iE (ay Fe hr rfl T.FZ T.Fo.kp (d8 T) .nil aO (ag (pv 0) af))) (aL (i:=2) nd rfl (Or.inl rfl)) (au (bE (dq PySem.F.plainAttrs_list PySem.F.slot_list_extend PySem.F.type_list_extend eH (pv 1) (ag (ay JZ hr rfl T.Ky T.JF.kp (ni T) .nil aO (ag (pv 2) af)) af)))))
 (au (aI (pv 1))))),?_⟩
 refine cZ (ot (K:=K) (ab (ae h0) av) λwl vs1 H1 s1 hw q1=>?_)
 have hw0:H wl=none:=s1.free hw
 have s1':Same H (upd H1 wl (.lst vs1)):=s1.trans (aG hw _)
 obtain ⟨kd,r,ek⟩:=wM t
 refine cJ (RE.use (bg (R:=fB) (d:=.tup (cy (toD t))) (ab (ae (K:=K) (k:=0) (s1'.dat h0)) av) ⟨kd,r,by rw [ek],by rw [ek]⟩) λv4 H4 s4 q4=>?_)
 rw [B5 t ht] at q4
 obtain ⟨a,vs,ea,hq,hds⟩:=q4.tupE
 subst ea
 have hl:=hds.length
 rw [List.length_map] at hl
 refine ⟨a,rfl,⟨vs,hq⟩,mL (xs:=vs) (λi σ G=>∃ (z:Option V) (ys:List V),σ=[some v0,some (.ref wl),z]/\Same H G/\SqT K G a vs/\Dats K G ((bh t).map toD) vs/\G wl=some (.lst ys)/\Dats K G ((rR t i).map toD) ys) ?_ (λi σ G _ zq=>by obtain ⟨z,ys,_,_,p,_⟩:=zq;exact p) ?_ ?_⟩
 ·exact ⟨none,vs1,rfl,s1'.trans s4,hq,hds,s4 _ _ aq,(show Dats K H4 ([t].map toD) vs1 from ((aG hw _).trans s4).dats q1)⟩
 ·rintro i vx σ G hi ⟨z,ys,rfl,sG,hqG,hdG,hwG,hyG⟩
  obtain ⟨dx,ex,hx⟩:=hdG.getV hi
  rw [List.getElem?_map] at ex
  cases hk:(bh t)[i]? with
  | none=>rw [hk] at ex;cases ex
  | some x =>
   rw [hk] at ex
   cases ex
   obtain ⟨k1,k2,k3⟩:=vY ht (List.mem_of_getElem? hk)
   refine ⟨_,rfl,.inl ⟨rfl,_,SqL.of hwG⟩,_,rfl,[toD x],_,(Dats.cons hx Dats.nil:Dats K G [toD x] [vx]),⟨x,rfl,k1,by omega,by omega,rfl⟩,λr us H5 s5 hr5 _ hd5=>?_⟩
   have hw5:=s5 _ _ hwG
   have b6:But wl H5 (upd H5 wl (.lst (ys++us))):=But.upd (Same.refl H5).but
   have g6:cW K H5 (upd H5 wl (.lst (ys++us))):=b6.grow hw5 aq
   have ly:ys.length≤aC t:=by rw [← hyG.length,List.length_map];exact wN t i
   have lu:us.length=aC x:=by rw [← hd5.length,List.length_map,bI]
   refine ⟨wl,r,ys,us,rfl,rfl,hw5,hr5,cm (by omega),some vx,ys++us,rfl,λb o hb=>b6 b o (az hb hw0) (s5 _ _ (sG _ _ hb)),g6.tup _ _ (s5.sqT hqG),Dats.mono g6 _ (s5.dats hdG),aq,?_⟩
   rw [qk hk,List.map_append]
   exact Dats.append (Dats.mono g6 _ (s5.dats hyG)) (Dats.mono g6 _ hd5)
 ·rintro σ G ⟨z,ys,rfl,sG,hqG,hdG,hwG,hyG⟩
  refine ⟨_,rfl,post wl ys G sG hwG hw0 ?_⟩
  rw [← hl,uk] at hyG
  exact hyG
theorem xZ (t:Tr) (ht:okX t):∃ kd r,toD t=.tup (.str kd::r)/\((bh t=[]/\∃ n,r=[.int n])\/r=(bh t).map toD):=by
 cases t with
 | num n=>exact ⟨_,_,rfl,.inl ⟨rfl,n,rfl⟩⟩
 | arg n=>exact ⟨_,_,rfl,.inl ⟨rfl,n,rfl⟩⟩
 | call n=>exact ⟨_,_,rfl,.inl ⟨rfl,n,rfl⟩⟩
 | two o a b=>exact ⟨_,_,rfl,.inr rfl⟩
 | pick a b c=>exact ⟨_,_,rfl,.inr rfl⟩
theorem oS (T:Txt P w K mg) (JJ:FnOk P w K mg base CX0 k T.Gc T.Gf ["_law_tree_here"] (iG K (fO n))):FnOk P w K mg base CX0 (k+1) T.Gc T.Gf ["_law_tree_here"] (iG K (fO (n+1))):=by
 refine T.HF.ok sc__law_parts (λvs H Q E h=>?_) (λcdv A outer s H vs Q E hr h=>?_)
 ·obtain ⟨ds,es,hd,⟨t,rfl,_⟩,_⟩:=h;exact hd.length.symm
 have nd:=sc__law_parts.nd
 obtain ⟨ds,es,hd,⟨t,rfl,ht,hn,hz,rfl⟩,post⟩:=h
 obtain ⟨v0,rfl,h0⟩:=gC hd
 refine ⟨_,(aj (bj (i:=1) nd rfl (Or.inl rfl) (bA (ag (pv 0) af)))
 (aj (gA PassesOwn.never rfl (iE (hU lR (pv 0) (ik ak) jN)) (aL (i:=2) nd rfl (Or.inl rfl)) (au (bq (br (aT (eA kL) rfl T.Fd bT (cq (pv 2) (cq (fD (v:=.ty "tuple") rfl T.He d9 rfl) af))) (λ_=>rfl)) (au (bj (i:=1) nd rfl (Or.inl rfl) (bu Dh (pv 1) (ay JJ hr rfl T.JR T.HF.kp (kE T) .nil aO (ag (pv 2) af))))) aR)))
 (au (aI (pv 1))))),?_⟩
 refine cZ (ot (K:=K) (ab (ae h0) av) λwl vs1 H1 s1 hw q1=>?_)
 have hw0:H wl=none:=s1.free hw
 have s1':Same H (upd H1 wl (.lst vs1)):=s1.trans (aG hw _)
 obtain ⟨kd,r,ek,hr2⟩:=xZ t ht
 have h0':=s1'.dat h0
 rw [ek] at h0'
 refine cJ (RE.use (iQ (ae (K:=K) (k:=0) h0')) λv4 H4 s4 q4=>?_)
 obtain ⟨a,vs,ea,hq,hds⟩:=q4.tupE
 subst ea
 have hl:=hds.length
 have d1:Dats K H4 ([t].map toD) vs1:=((aG hw _).trans s4).dats q1
 rcases hr2 with ⟨hk0,m,rfl⟩ | rfl
 ·obtain ⟨u,eu,hu⟩:=gC hds
  have hu':=hu.intE
  subst hu' eu
  refine ⟨a,rfl,⟨_,hq⟩,mL (xs:=[.int m]) (λi σ G=>∃ (z:Option V),σ=[some v0,some (.ref wl),z]/\Same H4 G) ?_ (λi σ G _ zq=>by obtain ⟨z,_,p⟩:=zq;exact p.sqT hq) ?_ ?_⟩
  ·exact ⟨none,rfl,Same.refl _⟩
  ·rintro i vx σ G hi ⟨z,rfl,sG⟩
   have ex:vx=.int m:=by
    match i,hi with
    | 0,hi=>simpa using hi.symm
    | i+1,hi=>simp at hi
   subst ex
   refine jc ?_
   dsimp only
   refine js (b:=false) ?_ (λc=>nomatch c) (λ_ H5 s5=>⟨_,rfl,sG.trans s5⟩)
   exact aX (RE.as (cf (ae (K:=K) (k:=2) (Dat.intI m))) rfl)
  ·rintro σ G ⟨z,rfl,sG⟩
   refine ⟨_,rfl,post wl vs1 G (s1'.trans (s4.trans sG)) (sG _ _ (s4 _ _ aq)) hw0 ?_⟩
   have e:ax t=[t]:=by rw [dB,hk0];rfl
   rw [e]
   exact sG.dats d1
 ·rw [List.length_map] at hl
  refine ⟨a,rfl,⟨vs,hq⟩,mL (xs:=vs) (λi σ G=>∃ (z:Option V) (l:Addr) (ys:List V),σ=[some v0,some (.ref l),z]/\Same H4 G/\G l=some (.lst ys)/\H l=none/\Dats K G ((rR t i).map toD) ys) ?_ (λi σ G _ zq=>by obtain ⟨z,l,ys,_,p,_⟩:=zq;exact p.sqT hq) ?_ ?_⟩
  ·exact ⟨none,wl,vs1,rfl,Same.refl _,s4 _ _ aq,hw0,d1⟩
  ·rintro i vx σ G hi ⟨z,l,ys,rfl,sG,hlG,hl0,hyG⟩
   obtain ⟨dx,ex,hx⟩:=hds.getV hi
   rw [List.getElem?_map] at ex
   cases hk:(bh t)[i]? with
   | none=>rw [hk] at ex;cases ex
   | some x =>
    rw [hk] at ex
    cases ex
    obtain ⟨k1,k2,k3⟩:=vY ht (List.mem_of_getElem? hk)
    obtain ⟨kx,rx,ekx⟩:=wM x
    have hxG:=sG.dat hx
    refine jc ?_
    dsimp only
    refine js (b:=true) ?_ (λ_ H5 s5=>?_) (λc=>nomatch c)
    ·exact aX (RE.as (cf (ae (K:=K) (k:=2) hxG)) (by rw [ekx];rfl))
    ·refine ⟨_,rfl,_,rfl,[toD x],_,(Dats.cons (s5.dat hxG) Dats.nil:Dats K H5 [toD x] [vx]),⟨x,rfl,k1,by omega,by omega,rfl⟩,λr us H6 s6 hr6 _ hd6=>?_⟩
     have ly:ys.length≤aC t:=by rw [← hyG.length,List.length_map];exact wN t i
     have lu:us.length=aC x:=by rw [← hd6.length,List.length_map,bI]
     refine ⟨l,r,ys,us,rfl,rfl,s6 _ _ (s5 _ _ hlG),hr6,cm (by omega),λp hp=>?_⟩
     have s7:=(s5.trans s6).trans (aG hp (.lst (ys++us)))
     refine ⟨some vx,p,ys++us,rfl,sG.trans s7,aq,?_,?_⟩
     ·exact (s1'.trans (s4.trans (sG.trans (s5.trans s6)))).free hp
     ·rw [qk hk,List.map_append]
      exact Dats.append (s7.dats hyG) ((aG hp _).dats hd6)
  ·rintro σ G ⟨z,l,ys,rfl,sG,hlG,hl0,hyG⟩
   refine ⟨_,rfl,post l ys G (s1'.trans (s4.trans sG)) hlG hl0 ?_⟩
   rw [← hl,uk] at hyG
   exact hyG
noncomputable def lV (K:PySem.W.Frag) (n:Nat):Sp:=λvs H Q _=>∃ (a t:Addr) (ns:List Int) (room p q c:Int),vs=[.ref a,.ref t,.int room]/\Scr K H a ns/\H t=some (.lst [.int p,.int q,.int c])/\0≤p/\0≤c/\c≤60/\room≤n/\1≤n /\
 ∀ (v:V) (H':Hp) (X:Tr) (p' q' c':Int),But t H H'->H' t=some (.lst [.int p',.int q',.int c'])->0≤p'->0≤c'->c'≤c->okT X->((aE X:Int)=1\/(aE X:Int)≤room)->(aC X:Int)≤1+3 * (c - c')->Dat K H' (toD X) v->Q v H'
noncomputable def uh (Ts:List Tr):Nat:=(Ts.map aC).sum
theorem xY (Ts:List Tr) (x:Tr):uh (Ts++[x])=uh Ts+aC x:=by simp [uh]
noncomputable def B6:Tr->Prop
 | .num n=>0≤n/\n≤9999
 | .arg k=>0≤k/\k≤3
 | _=>False
theorem Bd (h:B6 x):okT x/\aE x=1/\aC x=1:=by
 cases x with
 | num n=>exact ⟨h,rfl,rfl⟩
 | arg n=>exact ⟨h,rfl,rfl⟩
 | two o a b=>exact h.elim
 | pick a b c=>exact h.elim
 | call k=>exact h.elim
variable {nm:Str}
theorem Ax {Ts:List Tr} {room:Int} (hr:2≤room) (ok:∀ x ∈ Ts,okT x/\((aE x:Int)=1\/(aE x:Int)≤room - 1)) (h:(nm="pick"/\Ts.length=3)\/((nm="add"\/nm="sub"\/nm="mul"\/nm="less")/\Ts.length=2)) :
  ∃ X:Tr,toD X=.tup (.str nm::Ts.map toD)/\okT X/\(aE X:Int)≤room/\aC X=1+uh Ts:=by
 rcases h with ⟨rfl,hl⟩ | ⟨hn,hl⟩
 ·match Ts,hl with
  | [a,b,c],_ =>
   have h1:=ok a (by simp)
   have h2:=ok b (by simp)
   have h3:=ok c (by simp)
   refine ⟨.pick a b c,rfl,⟨h1.1,h2.1,h3.1⟩,?_,?_⟩
   ·simp only [aE];omega
   ·simp [aC,uh];omega
 ·match Ts,hl with
  | [a,b],_ =>
   have h1:=ok a (by simp)
   have h2:=ok b (by simp)
   refine ⟨.two nm a b,rfl,⟨hn,h1.1,h2.1⟩,?_,?_⟩
   ·simp only [aE];omega
   ·simp [aC,uh];omega
theorem qU (T:Txt P w K mg) (FI:FnOk P w K mg base CX0 k T.F1 T.F7 ["_law_script","_law_town","_law_many"] (oA K)) (F0:FnOk P w K mg base CX0 k T.F4 T.F8 ["_law_script","_law_town","_law_some"] (oB K)) (Hk:FnOk P w K mg base CX0 k T.F6 T.F9 ["_law_script","_law_town","_law_room"] (lV K n)):FnOk P w K mg base CX0 (k+1) T.F6 T.F9 ["_law_script","_law_town","_law_room"] (lV K (n+1)):=by
 refine T.GH.ok sc__law_tree (λvs H Q E h=>?_) (λcdv A outer s H vs Q E hr h=>?_)
 ·obtain ⟨a,t,ns,room,p,q,c,rfl,_⟩:=h;rfl
 have nd:=sc__law_tree.nd
 obtain ⟨a,t,ns,room,p,q,c,rfl,hS,hT,hp,hc,hc2,hroom,_,post⟩:=h
 refine ⟨_,(aj (bj (i:=3) nd rfl (Or.inl rfl) (aM (ag aH (ag (ay FI hr rfl T.GJ T.FJ.kp (fu T) .nil aO (ag (pv 0) (ag (pv 1) (ag ak af)))) af))))
 (aj (bq (aV cF (ay FI hr rfl T.GJ T.FJ.kp (fu T) .nil aO (ag (pv 0) (ag (pv 1) (ag ak af)))) ak (aY _)) (au (bj (i:=3) nd rfl (Or.inl rfl) (aM (ag aH (ag (ay F0 hr rfl T.Hs T.Ga.kp (gi T) .nil aO (ag (pv 0) (ag (pv 1) (ag (bA (ag ak (ag ak (ag ak (ag ak (ag ak (ag ak (ag ak (ag ak af))))))))) af)))) af))))) aR)
 (aj (bq (PW.pt (fF (aV pU (pv 2) ak (aY _)) (fF (aV pU (aN bM (pv 1) ak (λ_ _=>rfl)) ak (aY _)) (fq (aV cF (ay FI hr rfl T.GJ T.FJ.kp (fu T) .nil aO (ag (pv 0) (ag (pv 1) (ag ak af)))) ak (aY _)))))) (au (aI (pv 3))) aR)
 (aj (wx (pv 1) ak sS ak C4 kW)
 (aj (bj (i:=4) nd rfl (Or.inl rfl) (ay F0 hr rfl T.Hs T.Ga.kp (gi T) .nil aO (ag (pv 0) (ag (pv 1) (ag (bA (ag aH (ag aH (ag aH (ag aH (ag aH (ag aH af))))))) af)))))
 (aj (bj (i:=5) nd rfl (Or.inl rfl) (nW (aV cF (pv 4) aH (aY _)) ak ak))
 (au (aI (bu wm (aM (ag (pv 4) af)) (dS dA rfl T.He d9 (ag (cO (own:=["_law_k"]) (fr:=[0,1,2]) (N':=["_law_k","_law_script","_law_town","_law_room"]) (lK rfl T.Kz (ag (pv 5) af)) rfl (by show cj ["_law_script","_law_town","_law_room","_law_leaf","_law_name","_law_many"] (λx=>(aA gr).names.lookup x) _ _ _ _=true;decide +kernel) rfl (λ_ _ _ _ _=>(aL (i:=0) (by show List.Nodup [("_law_k":Str),("_law_script":Str),("_law_town":Str),("_law_room":Str)];decide +kernel) rfl (Or.inl rfl))) (λ_ _ _ _ _=>bO) (λ_ _ _ _ _=>(ay Hk hr rfl T.IB T.GH.kp (ib T) .nil aO (ag (pv 1) (ag (pv 2) (ag (bu rh (pv 3) ak) af)))))) af))))))))))),?_⟩
 refine cZ ⟨_,rfl,_,rfl,a,t,ns,4,p,q,[.int c],rfl,hS,hT,hp,by decide,by decide,λr1 H1 p1 q1 b1 t1 g1 r1a r1b=>⟨cm (by simp),λl1 hl1=>?_⟩⟩
 have ne1:l1≠t:=λz=>by rw [z,t1] at hl1;cases hl1
 have b2:=b1.trans (aG hl1 (.tup [.str "arg",.int r1])).but
 have t2:upd H1 l1 (.tup [.str "arg",.int r1]) t=some (.lst [.int p1,.int q1,.int c]):=by rw [aJ (Ne.symm ne1)];exact t1
 have d2:Dat K (upd H1 l1 (.tup [.str "arg",.int r1])) (toD (.arg r1)) (.ref l1):=Dat.tupI (SqT.of aq) (Dats.cons (Dat.strI _) (Dats.cons (Dat.intI _) Dats.nil))
 refine rF (λσ G=>∃ (vL:V) (L:Tr) (p q:Int),σ=[some (.ref a),some (.ref t),some (.int room),some vL,none,none]/\But t H G/\G t=some (.lst [.int p,.int q,.int c])/\0≤p/\B6 L/\Dat K G (toD L) vL) ?_ (λhrest=>?_)
 case refine_2 =>
  refine ⟨_,rfl,_,rfl,a,t,ns,2,p1,q1,[.int c],rfl,hS.but b2 hT,t2,g1,by decide,by decide,λr3 H3 p3 q3 b3 t3 g3 r3a r3b=>?_⟩
  refine ⟨rfl,_,rfl,?_⟩
  refine oQ (λcc=>?_) (λcc=>?_)
  ·refine ⟨_,rfl,_,rfl,cm (by decide),λl hl=>?_⟩
   have nel:l≠t:=λz=>by rw [z,t3] at hl;cases hl
   have b4:=(b2.trans b3).trans (aG hl (.lst [.int 0,.int 1,.int 2,.int 5,.int 99,.int 100,.int 1234,.int 9999])).but
   refine ⟨a,t,l,ns,_,p3,q3,[.int c],rfl,hS.but b4 hT,SqL.of aq,nel,by decide,by decide,(by rw [aJ (Ne.symm nel)];exact t3),g3,λi x H5 p5 q5 b5 t5 g5 hx=>⟨cm (by simp),λl6 hl6=>?_⟩⟩
   have ne6:l6≠t:=λz=>by rw [z,t5] at hl6;cases hl6
   obtain ⟨m,em,hm⟩:∃ m:Int,x=.int m/\0≤m/\m≤9999:=by
    have:=List.mem_of_getElem? hx
    simp only [List.mem_cons,List.not_mem_nil,or_false] at this
    rcases this with e | e | e | e | e | e | e | e <;> exact ⟨_,e,by decide,by decide⟩
   subst em
   exact hrest _ _ ⟨.ref l6,.num m,p5,q5,rfl,(b4.trans b5).trans (aG hl6 _).but,(by rw [aJ (Ne.symm ne6)];exact t5),g5,hm,Dat.tupI (SqT.of aq) (Dats.cons (Dat.strI _) (Dats.cons (Dat.intI _) Dats.nil))⟩
  ·exact hrest _ _ ⟨.ref l1,.arg r1,p3,q3,rfl,b2.trans b3,t3,g3,⟨r1a,by omega⟩,Dat.mono (b3.grow t2 t3) _ d2⟩
 rintro σ G ⟨vL,L,p,q,rfl,bG,tG,hp,hL,dL⟩
 obtain ⟨okL,dpL,szL⟩:=Bd hL
 have back:∀ (G':Hp) (p' q':Int),But t G G'->G' t=some (.lst [.int p',.int q',.int c])->0≤p'->Q vL G':=λG' p' q' b' t' g' =>
  post vL G' L p' q' c (bG.trans b') t' g' hc (Int.le_refl _) okL (.inl (by omega)) (by omega) (Dat.mono (b'.grow tG t') _ dL)
 refine cJ ⟨_,rfl,room,2,rfl,rfl,_,rfl,?_⟩
 refine oQ (λc1=>?_) (λc1=>?_)
 ·exact ⟨_,rfl,back G p q (Same.refl G).but tG hp⟩
 have c1':¬ room < 2:=of_decide_eq_false (Bool.eq_false_iff.mpr c1)
 refine ⟨_,rfl,t,_,2,_,rfl,rfl,SqL.of tG,at2,c,1,rfl,rfl,_,rfl,?_⟩
 refine oQ (λc2=>?_) (λc2=>?_)
 ·exact ⟨_,rfl,back G p q (Same.refl G).but tG hp⟩
 have c2':¬ c < 1:=of_decide_eq_false (Bool.eq_false_iff.mpr c2)
 refine ⟨_,rfl,_,rfl,a,t,ns,4,p,q,[.int c],rfl,hS.but bG hT,tG,hp,by decide,by decide,λr3 H3 p3 q3 b3 t3 g3 r3a r3b=>?_⟩
 refine ⟨rfl,_,rfl,?_⟩
 refine oQ (λc3=>?_) (λc3=>?_)
 ·exact ⟨_,rfl,back H3 p3 q3 b3 t3 g3⟩
 refine ⟨_,rfl,t,_,2,_,rfl,rfl,(by decide),SqL.of t3,rfl,c,1,rfl,rfl,t,_,2,2,rfl,rfl,t3,ix2,?_⟩
 have b4:But t H (upd H3 t (.lst [.int p3,.int q3,.int (c - 1)])):=But.upd (bG.trans b3)
 refine ⟨_,rfl,_,rfl,cm (by decide),λl hl=>?_⟩
 have nel:l≠t:=λz=>by rw [z,aq] at hl;cases hl
 have b5:=b4.trans (aG hl (.lst [.str "add",.str "add",.str "sub",.str "mul",.str "less",.str "pick"])).but
 refine ⟨a,t,l,ns,_,p3,q3,[.int (c - 1)],rfl,hS.but b5 hT,SqL.of aq,nel,by decide,by decide,(by rw [aJ (Ne.symm nel)];exact aq),g3,λi x H5 p5 q5 b6 t5 g5 hx=>?_⟩
 have bH:=b5.trans b6
 obtain ⟨nm,en,hnm⟩:∃ nm:Str,x=.str nm/\(nm="pick"\/(nm="add"\/nm="sub"\/nm="mul"\/nm="less")):=by
  have:=List.mem_of_getElem? hx
  simp only [List.mem_cons,List.not_mem_nil,or_false] at this
  rcases this with e | e | e | e | e | e
  ·exact ⟨_,e,.inr (.inl rfl)⟩
  ·exact ⟨_,e,.inr (.inl rfl)⟩
  ·exact ⟨_,e,.inr (.inr (.inl rfl))⟩
  ·exact ⟨_,e,.inr (.inr (.inr (.inl rfl)))⟩
  ·exact ⟨_,e,.inr (.inr (.inr (.inr rfl)))⟩
  ·exact ⟨_,e,.inl rfl⟩
 subst en
 obtain ⟨many,hmany,hif⟩:∃ many:Nat,((nm="pick"/\many=3)\/((nm="add"\/nm="sub"\/nm="mul"\/nm="less")/\many=2))/\∀ (A B:Prop),(A->many=3->False)->True:=by
  rcases hnm with h | h
  ·exact ⟨3,.inl ⟨h,rfl⟩,λ_ _ _=>trivial⟩
  ·exact ⟨2,.inr ⟨h,rfl⟩,λ_ _ _=>trivial⟩
 clear hif
 dsimp only
 refine rF (λσ G=>σ=[some (.ref a),some (.ref t),some (.int room),some vL,some (.str nm),some (.int many)]/\G=H5) ?_ (λhrest=>?_)
 case refine_2 =>
  refine ⟨_,rfl,rfl,_,rfl,?_⟩
  refine oQ (λcc=>?_) (λcc=>?_)
  ·have e:V.str nm=V.str "pick":=of_decide_eq_true cc
   injection e with e
   rcases hmany with ⟨_,rfl⟩ | ⟨h,_⟩
   ·exact hrest _ _ ⟨rfl,rfl⟩
   ·subst e
    exact absurd h (by decide +kernel)
  ·have e:¬ V.str nm=V.str "pick":=of_decide_eq_false (Bool.eq_false_iff.mpr cc)
   rcases hmany with ⟨h,_⟩ | ⟨_,rfl⟩
   ·exact absurd (by rw [h]) e
   ·exact hrest _ _ ⟨rfl,rfl⟩
 rintro σ G ⟨rfl,rfl⟩
 have many_le:2≤many/\many≤3:=by rcases hmany with ⟨_,h⟩ | ⟨_,h⟩ <;> omega
 refine ⟨_,rfl,cm (by simp),λe he=>?_⟩
 have nee:e≠t:=λz=>by rw [z,t5] at he;cases he
 have t6:upd G e (.tup [.str nm]) t=some (.lst [.int p5,.int q5,.int (c - 1)]):=by rw [aJ (Ne.symm nee)];exact t5
 have b7:=bH.trans (aG he (.tup [.str nm])).but
 dsimp only
 refine ip ?_
 refine om many (λR hR=>⟨_,rfl,hR⟩) (by omega) rfl
  (λl i G'=>∃ (Ts:List Tr) (ys:List V) (p' q' c':Int),But t (upd G e (.tup [.str nm])) G'/\G' t=some (.lst [.int p',.int q',.int c'])/\0≤p'/\0≤c'/\c'≤c - 1/\G' l=some (.lst ys)/\Ts.length=i/\(∀ x ∈ Ts,okT x/\((aE x:Int)=1\/(aE x:Int)≤room - 1))/\(uh Ts:Int)≤i+3 * (c - 1 - c')/\Dats K G' (Ts.map toD) ys) (λl hl=>?_) (λl i G' hl hi pn=>?_) (λl G' hl pn=>?_)
 ·have nl:l≠t:=λz=>by rw [z,t6] at hl;cases hl
  exact ⟨[],[],p5,q5,c - 1,(aG hl _).but,(by rw [aJ (Ne.symm nl)];exact t6),g5,by omega,Int.le_refl _,aq,rfl,(λx hx=>absurd hx (by simp)),by simp [uh],Dats.nil⟩
 ·obtain ⟨Ts,ys,p',q',c',bt,tt,gp,gc,gc2,hl',lT,okTs,sm,dT⟩:=pn
  have nl:l≠t:=λz=>by rw [z,t6] at hl;cases hl
  have ly:ys.length=i:=by rw [← dT.length,List.length_map,lT]
  refine ⟨_,rfl,_,rfl,_,rfl,room,1,rfl,rfl,a,t,ns,room - 1,p',q',c',rfl,hS.but (b7.trans bt) hT,tt,gp,gc,by omega,by omega,by omega,λv G2 X p2 q2 c2 bb t2 g2 h2 h2' okX dpX szX dX=>?_⟩
  have hl2:=bb l _ nl hl'
  have g1:cW K G' G2:=bb.grow tt t2
  have g3:cW K G2 (upd G2 l (.lst (ys++[v]))):=But.grow (t:=l) (But.upd (Same.refl G2).but) hl2 aq
  refine ⟨ys,hl2,cx (by omega),⟨_,rfl⟩,Ts++[X],ys++[v],p2,q2,c2,?_,?_,g2,h2,by omega,aq,by rw [List.length_append,lT];rfl,?_,?_,?_⟩
  ·intro b o hb hbo
   have nb:b≠l:=az hbo hl
   rw [aJ nb]
   exact bb b o hb (bt b o hb hbo)
  ·rw [aJ (Ne.symm nl)];exact t2
  ·intro x hx
   rcases List.mem_append.mp hx with hx | hx
   ·exact okTs x hx
   ·rw [List.mem_singleton.mp hx]
    exact ⟨okX,dpX⟩
  ·rw [xY]
   omega
  ·rw [List.map_append]
   exact Dats.append (Dats.mono g3 _ (Dats.mono g1 _ dT)) (Dats.cons (Dat.mono g3 _ dX) Dats.nil)
 ·obtain ⟨Ts,ys,p',q',c',bt,tt,gp,gc,gc2,hl',lT,okTs,sm,dT⟩:=pn
  have ly:ys.length=many:=by rw [← dT.length,List.length_map,lT]
  refine ⟨l,ys,rfl,.inl ⟨SqL.of hl',λu hu=>?_⟩⟩
  have nu:u≠t:=λz=>by rw [z,tt] at hu;cases hu
  have se:SqT K (upd G' u (.tup ys)) e [.str nm]:=(aG hu _).sqT (bt.sqT t6 (SqT.of aq))
  refine ⟨e,u,_,ys,rfl,rfl,se,SqT.of aq,(by simp),cm (by rw [List.length_singleton];omega),λz=>?_,λ_ x hx=>?_⟩
  ·rw [z] at ly
   simp at ly
   omega
  ·obtain ⟨X,eX,okX,dpX,szX⟩:=Ax (nm:=nm) (Ts:=Ts) (room:=room) (by omega) okTs (hmany.elim (λh=>.inl ⟨h.1,by omega⟩) (λh=>.inr ⟨h.1,by omega⟩))
   have nx:x≠t:=λz=>by rw [z,aJ (Ne.symm nu),tt] at hx;cases hx
   have s8:=(aG hu (.tup ys)).trans (aG hx (.tup ([.str nm]++ys)))
   refine post _ _ X p' q' c' ((b7.trans bt).trans s8.but) (s8 _ _ tt) gp gc (by omega) okX (.inr dpX) (by omega) ?_
   rw [eX]
   exact Dat.tupI (SqT.of aq) (Dats.cons (Dat.strI _) (s8.dats dT))
theorem iC {b:Bool} (h:(!b)=true):b=false:=by cases b with | true=>cases h | false=>rfl
theorem fj {b:Bool} (h:(!b)=false):b=true:=by cases b with | true=>rfl | false=>cases h
noncomputable def sgn (c:Nat):Bool:=(!decide (([c]:List Nat) < ("a":Str).cps.toList)) && !decide (("z":Str).cps.toList < ([c]:List Nat))
noncomputable def jI:D->Bool
 | .str x=>(decide (1≤(x.length:Int)) && decide ((x.length:Int)≤8)) && (x.cps.toList.map sgn).all id
 | _=>false
noncomputable def B9:D->Prop
 | .str x=>x.length≤sizeLine
 | _=>True
noncomputable def yp (ds:List D) (d:D):Prop:=∃ x,ds=[x]/\B9 x/\d=.bl (jI x)
theorem uG {x:D} (h:∀ y,x≠.str y):mE x "str"=false:=by
 cases x with
 | str y=>exact absurd rfl (h y)
 | _=>rfl
theorem zD {x:D} (h:∀ y,x≠.str y):jI x=false:=by
 cases x with
 | str y=>exact absurd rfl (h y)
 | _=>rfl
theorem uP (T:Txt P w K mg)  : FnOk P w K mg base CX0 (k+1) T.Jw T.JA ["thing"] (spD K yp):=by
 refine T.Kc.ok sc_is_name (λvs H Q E h=>?_) (λcdv A outer s H vs Q E hr h=>?_)
 ·obtain ⟨ds,d,hd,⟨x,rfl,_⟩,_⟩:=h;exact hd.length.symm
 have nd:=sc_is_name.nd
 obtain ⟨ds,d,hd,⟨x,rfl,hx,rfl⟩,post⟩:=h
 obtain ⟨v0,rfl,h0⟩:=gC hd
 refine ⟨_,(aj (bq (PW.pt (fF (ck (br (aT (eA zl) rfl T.Fd bT (cq (pv 0) (cq (fD (v:=.ty "str") rfl T.L0 yC rfl) af))) (λ_=>rfl))) (fq (ck (oj jr jr ak (aT qz rfl T.Fq bP (ag (pv 0) af)) (bL (v:=.int 8) rfl T.FY ⟨_,rfl⟩)))))) (au (aI cu)) aR)
 (au (aI (aT (gY rfl) rfl T.KQ kj (ag (cO (own:=["sign"]) (fr:=[]) (N':=["sign"]) (Dr (pv 0)) rfl (by show cj ["thing"] (λx=>(aA iR).names.lookup x) _ _ _ _=true;decide +kernel) rfl (λ_ _ _ _ _=>(aL (i:=0) (by show List.Nodup [("sign":Str)];decide +kernel) rfl (Or.inl rfl))) (λ_ _ _ _ _=>bO) (λ_ _ _ _ _=>(tU zN zN aH (pv 0) aH))) af))))),?_⟩
 by_cases hs:∃ y,x=.str y
 ·obtain ⟨y,rfl⟩:=hs
  have hx:y.length≤sizeLine:=hx
  refine aK (K:=K) (b:=!(decide (1≤(y.length:Int)) && decide ((y.length:Int)≤8))) ?_ (λc H1 s1=>?_) (λc H1 s1=>?_)
  ·exact RT.as (dJ (bJ (aX (cf (ae h0)))) λ_=>bJ (aD (kS (p:=λi j=>decide (i≤j)) (r:=λi j=>decide (i≤j)) ao (BG (ae h0) hx) λ_=>ao))) rfl
  ·refine aW (K:=K) (d:=.bl (jI (.str y))) ?_ λv H' s q=>post v H' (s1.trans s) q
   have e:jI (.str y)=false:=by
    show (_ && _)=false
    have c':=iC c
    rw [c',Bool.false_and]
   rw [e]
   exact cg
  ·have c':=fj c
   have hy:y.cps.size≤8:=by
    rw [Bool.and_eq_true] at c'
    have:=of_decide_eq_true c'.2
    have e:y.length=y.cps.size:=rfl
    omega
   refine aW (K:=K) (d:=.bl (jI (.str y))) ?_ λv H' s q=>post v H' (s1.trans s) q
   have e:jI (.str y)=(y.cps.toList.map sgn).all id:=by
    show (_ && _)=_
    rw [c',Bool.true_and]
   rw [e]
   refine i9 (bs:=y.cps.toList.map sgn) (Dx (ae (s1.dat h0)) (by omega) _ (by simp) rfl (λH2 i c d s2 hc hd2=>?_))
   rw [List.getElem?_map,List.getElem?_map] at hd2
   have hc':y.cps.toList[i]?=some c:=by simpa using hc
   rw [hc'] at hd2
   cases hd2
   refine RE.as (xN (p:=λi j=>!decide (j.cps.toList < i.cps.toList)) (q':=λi j=>!decide (j.cps.toList < i.cps.toList)) aB (ae (Dat.strI _)) λ_=>aB) rfl
 ·have hs':∀ y,x≠.str y:=λy e=>hs ⟨y,e⟩
  refine aK (K:=K) (b:=true) ?_ (λc H1 s1=>?_) (λc=>nomatch c)
  ·exact RT.as (dJ (b:=true) (c:=true) (RT.as (bJ (aX (cf (ae h0)))) (by rw [uG hs'];rfl)) λc=>nomatch c) rfl
  ·refine aW (K:=K) (d:=.bl (jI x)) ?_ λv H' s q=>post v H' (s1.trans s) q
   rw [zD hs']
   exact cg
theorem CG:∀ p ∈ TM,∃ i,p.2=.flat (.int i):=by
 intro p hp
 simp only [TM,List.mem_cons,List.not_mem_nil,or_false] at hp
 rcases hp with rfl | rfl | rfl <;> exact ⟨_,rfl⟩
noncomputable def eP:D->Bool
 | .tup (.str k::r)=>decide ((r.length:Int)+1=oC k TM 0) && (cT (r.getD 0 .non) 0 1 && (!decide (k="gap") || cT (r.getD 1 .non) 0 9999))
 | _=>false
theorem jE (k:Str) (r:List D):eP (.tup (.str k::r))=(decide ((r.length:Int)+1=oC k TM 0) && (cT (r.getD 0 .non) 0 1 && (!decide (k="gap") || cT (r.getD 1 .non) 0 9999))):=rfl
noncomputable def B0 (ds:List D) (d:D):Prop:=∃ x,ds=[x]/\d=.bl (eP x)
theorem tj (k:Str):oC k TM 0=0\/oC k TM 0=2\/(k="gap"/\oC k TM 0=3):=by
 unfold oC
 by_cases h1:k="hole"
 ·subst h1;exact .inr (.inl rfl)
 by_cases h2:k="gap"
 ·subst h2;exact .inr (.inr ⟨rfl,rfl⟩)
 by_cases h3:k="slot"
 ·subst h3;exact .inr (.inl rfl)
 have e:KTD.datumAt k TM=none:=by simp [TM,KTD.datumAt,h1,h2,h3]
 rw [e]
 exact .inl rfl
theorem DJ {x:D} (h:d6 x=false):eP x=false:=by
 unfold d6 at h
 unfold eP
 split at h
 ·cases h
 ·rename_i hn
  first
   | rfl
   | (split
      ·rename_i k r;exact absurd rfl (hn k r)
      ·rfl)
theorem uO (T:Txt P w K mg) (Ig:FnOk P w K mg base CX0 k T.Gz T.GE ["thing"] (spD K mJ)) (FN:FnOk P w K mg base CX0 k T.Gd T.Gg ["thing","low","high"] (spD K gw)):FnOk P w K mg base CX0 (k+1) T.Jv T.Jz ["thing"] (spD K B0):=by
 refine T.Kb.ok sc_is_mark (λvs H Q E h=>?_) (λcdv A outer s H vs Q E hr h=>?_)
 ·obtain ⟨ds,d,hd,⟨x,rfl,rfl⟩,_⟩:=h;exact hd.length.symm
 have nd:=sc_is_mark.nd
 obtain ⟨ds,d,hd,⟨x,rfl,rfl⟩,post⟩:=h
 obtain ⟨v0,rfl,h0⟩:=gC hd
 refine ⟨_,(aj (bq (PW.pt (fF (ck (br (ay Ig hr rfl T.Jr T.Hn.kp (jw T) .nil aO (ag (pv 0) af)) (λ_=>rfl))) (fq (aV nV (aT aU rfl T.Fq bP (ag (pv 0) af)) (xJ (bL (v:=.ref T.Fx) rfl T.Fp rfl) (aN aS (pv 0) ak (λ_ _=>rfl)) ak ⟨rfl,rfl,rfl,rfl⟩) (aY _))))) (au (aI cu)) aR)
 (aj (bq (ck (br (ay FN hr rfl T.Hj T.Gj.kp (fP T) .nil aO (ag (aN aS (pv 0) ak (λ_ _=>rfl)) (ag ak (ag ak af)))) (λ_=>rfl))) (au (aI cu)) aR)
 (au (aI (wq (cA nV (aN aS (pv 0) ak (λ_ _=>rfl)) aH (aY _)) (fT (ay FN hr rfl T.Hj T.Gj.kp (fP T) .nil aO (ag (aN aS (pv 0) ak (λ_ _=>rfl)) (ag ak (ag (bL (v:=.int 9999) rfl T.HW ⟨_,rfl⟩) af)))))))))),?_⟩
 cases ht:d6 x with
 | false =>
  refine aK (K:=K) (b:=true) ?_ (λc H1 s1=>?_) (λc=>nomatch c)
  ·exact RT.as (dJ (b:=true) (c:=true) (RT.as (bJ (aX (bg (ab (ae h0) av) ⟨x,rfl,rfl⟩))) (by rw [ht];rfl)) λc=>nomatch c) rfl
  ·refine aW (K:=K) (d:=.bl (eP x)) ?_ λv H' s q=>post v H' (s1.trans s) q
   rw [DJ ht]
   exact cg
 | true =>
  have ht':=ht
  unfold d6 at ht'
  split at ht'
  ·rename_i kd r
   have el:((((D.str kd)::r).length:Nat):Int)=(r.length:Int)+1:=by rw [List.length_cons];omega
   refine aK (K:=K) (b:=!decide ((r.length:Int)+1=oC kd TM 0)) ?_ (λc H1 s1=>?_) (λc H1 s1=>?_)
   ·have b1:=lO (K:=K) (eT (ae (σ:=gD ["thing"] [v0]) (k:=0) h0)) (xR (i:=0) T.E9 (aQ (k:=0) (ae (σ:=gD ["thing"] [v0]) (k:=0) h0) ao rfl) ao CG)
    rw [el] at b1
    exact RT.as (dJ (b:=false) (RT.as (bJ (aX (bg (ab (ae h0) av) ⟨_,rfl,rfl⟩))) (by rw [ht];rfl)) λ_=>aD b1) (Bool.false_or _)
   ·refine aW (K:=K) (d:=.bl (eP (.tup (.str kd::r)))) ?_ λv H' s q=>post v H' (s1.trans s) q
    have e:eP (.tup (.str kd::r))=false:=by
     rw [jE]
     rw [show decide ((r.length:Int)+1=oC kd TM 0)=false from iC c,Bool.false_and]
    rw [e]
    exact cg
   ·have c':decide ((r.length:Int)+1=oC kd TM 0)=true:=fj c
    have hl:=of_decide_eq_true c'
    have h1:=s1.dat h0
    obtain ⟨y,r',er⟩:∃ y r',r=y::r':=by
     cases r with
     | nil=>rcases tj kd with h | h | ⟨_,h⟩ <;> (rw [h] at hl;simp at hl)
     | cons y r'=>exact ⟨y,r',rfl⟩
    subst er
    refine aK (K:=K) (b:=!cT y 0 1) (bJ (aX (bg (R:=gw) (ab (aQ (k:=1) (ae h1) ao rfl) (ab ao (ab ao av))) ⟨y,0,1,rfl,rfl⟩))) (λc2 H2 s2=>?_) (λc2 H2 s2=>?_)
    ·refine aW (K:=K) (d:=.bl (eP (.tup (.str kd::y::r')))) ?_ λv H' s q=>post v H' (s1.trans (s2.trans s)) q
     have e:eP (.tup (.str kd::y::r'))=false:=by
      rw [jE,c',Bool.true_and]
      show (cT y 0 1 && _)=false
      rw [show cT y 0 1=false from iC c2,Bool.false_and]
     rw [e]
     exact cg
    ·refine aW (K:=K) (d:=.bl (eP (.tup (.str kd::y::r')))) ?_ λv H' s q=>post v H' (s1.trans (s2.trans s)) q
     have h2:=s2.dat h1
     have e:eP (.tup (.str kd::y::r'))=(!decide (kd="gap") || cT (r'.getD 0 .non) 0 9999):=by
      rw [jE,c',Bool.true_and]
      show (cT y 0 1 && (!decide (kd="gap") || cT (r'.getD 0 .non) 0 9999))=_
      rw [show cT y 0 1=true from fj c2,Bool.true_and]
     rw [e]
     refine ue (vc (aQ (k:=0) (ae h2) ao rfl) aB) λc3=>?_
     have hk:kd="gap":=by simpa using c3
     obtain ⟨z,er⟩:∃ z,r'=[z]:=by
      rcases tj kd with h | h | ⟨_,h⟩
      ·rw [h] at hl;simp at hl;omega
      ·rw [hk] at h;exact absurd h (by decide +kernel)
      ·rw [h] at hl
       match r',hl with
       | [z],_=>exact ⟨z,rfl⟩
       | [],h=>simp at h
       | _::_::_,h=>simp at h;omega
     subst er
     exact bg (E:=E0) (R:=gw) (ab (aQ (k:=2) (ae h2) ao rfl) (ab ao (ab ao av))) ⟨z,0,9999,rfl,rfl⟩
  ·cases ht'
noncomputable def kC:D->Bool
 | .tup (.str k::_)=>decide (k ∈ (["arg","pick"]:List Str))
 | _=>false
noncomputable def ppD:Nat->D->Bool
 | 0,_=>false
 | n+1,d=>eP d || (dD d && (!kC d && ((cy d).map (ppD n)).all id))
noncomputable def Rpp (n:Nat) (ds:List D) (d:D):Prop:=∃ x,ds=[x,.int (4 - (n:Int))]/\d=.bl (ppD n x)
noncomputable def B1:Nat->List D->D->Prop
 | 0=>λ_ _=>False
 | n+1=>Rpp n
theorem hE (T:Txt P w K mg) (LR:FnOk P w K mg base CX0 k T.Jv T.Jz ["thing"] (spD K B0)) (KC:FnOk P w K mg base CX0 k T.IP T.IS ["thing"] (spD K yq)) (Fe:FnOk P w K mg base CX0 k T.Fg T.Fi ["tree"] (spD K fB)) (Ht:FnOk P w K mg base CX0 k T.Ff T.Fh ["thing","deep"] (spD K (B1 n))):FnOk P w K mg base CX0 (k+1) T.Ff T.Fh ["thing","deep"] (spD K (Rpp n)):=by
 refine T.FK.ok sc_is_pattern_part (λvs H Q E h=>?_) (λcdv A outer s H vs Q E hr h=>?_)
 ·obtain ⟨ds,d,hd,⟨x,rfl,rfl⟩,_⟩:=h;exact hd.length.symm
 have nd:=sc_is_pattern_part.nd
 obtain ⟨ds,d,hd,⟨x,rfl,rfl⟩,post⟩:=h
 obtain ⟨v0,v1,rfl,h0,h1⟩:=gk hd
 refine ⟨_,(aj (bq (aV pS (pv 1) (bL (v:=.int 3) rfl T.Fl ⟨_,rfl⟩) (aY _)) (au (aI cu)) aR)
 (aj (bq (br (ay LR hr rfl T.Lh T.Kb.kp (wX T) .nil aO (ag (pv 0) af)) (λ_=>rfl)) (au (aI cu)) aR)
 (aj (bq (PW.pt (fF (ck (br (ay KC hr rfl T.KI T.JD.kp (o9 T) .nil aO (ag (pv 0) af)) (λ_=>rfl))) (fq (aV pT (aN aS (pv 0) ak (λ_ _=>rfl)) (aM (ag aH (ag aH af))) (by with_unfolding_all rfl))))) (au (aI cu)) aR)
 (au (aI (aT (gY rfl) rfl T.KQ kj (ag (cO (own:=["within"]) (fr:=[1]) (N':=["within","deep"]) (iE (ay Fe hr rfl T.FZ T.Fo.kp (d8 T) .nil aO (ag (pv 0) af))) rfl (by show cj ["thing","deep"] (λx=>(aA dv).names.lookup x) _ _ _ _=true;decide +kernel) rfl (λ_ _ _ _ _=>(aL (i:=0) (by show List.Nodup [("within":Str),("deep":Str)];decide +kernel) rfl (Or.inl rfl))) (λ_ _ _ _ _=>bO) (λ_ _ _ _ _=>(ay Ht hr rfl T.HJ T.FK.kp (ic T) .nil aO (ag (pv 0) (ag (bu cM (pv 1) ak) af))))) af))))))),?_⟩
 cases n with
 | zero =>
  refine aK (K:=K) (b:=true) (RT.as (aD (eR (p:=λi j=>decide (j < i)) (ae h1) ao)) rfl) (λc H1 s1=>?_) (λc=>nomatch c)
  exact aW (K:=K) (d:=.bl false) cg λv H' s q=>post v H' (s1.trans s) q
 | succ n =>
  refine aK (K:=K) (b:=false) (RT.as (aD (eR (p:=λi j=>decide (j < i)) (ae h1) ao)) (decide_eq_false (by omega))) (λc=>nomatch c) (λc H1 s1=>?_)
  have h0:=s1.dat h0
  have h1:=s1.dat h1
  refine aK (K:=K) (b:=eP x) (aX (bg (ab (ae h0) av) ⟨x,rfl,rfl⟩)) (λc H2 s2=>?_) (λc H2 s2=>?_)
  ·refine aW (K:=K) (d:=.bl true) cg λv H' s q=>post v H' (s1.trans (s2.trans s)) ?_
   have e:ppD (n+1) x=true:=by unfold ppD;rw [c];rfl
   rw [e]
   exact q
  have h0:=s2.dat h0
  have h1:=s2.dat h1
  have e1:ppD (n+1) x=(dD x && (!kC x && ((cy x).map (ppD n)).all id)):=by
   show (eP x || _)=_
   rw [c,Bool.false_or]
  cases hn:dD x with
  | false =>
   refine aK (K:=K) (b:=true) (RT.as (dJ (b:=true) (c:=true) (RT.as (bJ (aX (bg (ab (ae h0) av) ⟨x,rfl,rfl⟩))) (by rw [hn];rfl)) λc=>nomatch c) rfl) (λc H3 s3=>?_) (λc=>nomatch c)
   refine aW (K:=K) (d:=.bl false) cg λv H' s q=>post v H' (s1.trans (s2.trans (s3.trans s))) ?_
   rw [e1,hn]
   exact q
  | true =>
   obtain ⟨kd,r,ek⟩:=nN hn
   have few:=nG hn
   have h0':Dat K H2 (.tup (.str kd::r)) v0:=by rw [← ek];exact h0
   refine aK (K:=K) (b:=kC x) (RT.as (dJ (b:=false) (RT.as (bJ (aX (bg (ab (ae h0) av) ⟨x,rfl,rfl⟩))) (by rw [hn];rfl)) λ_=>aD (oq (ys:=["arg","pick"]) (aQ (k:=0) (ae h0') ao rfl) (aP (ab aB (ab aB av))))) (by rw [ek];exact Bool.false_or _)) (λc3 H3 s3=>?_) (λc3 H3 s3=>?_)
   ·refine aW (K:=K) (d:=.bl false) cg λv H' s q=>post v H' (s1.trans (s2.trans (s3.trans s))) ?_
    rw [e1,hn,c3]
    exact q
   ·have h1:=s3.dat h1
    refine aW (K:=K) (d:=.bl (((cy x).map (ppD n)).all id)) (i9 (lN (cs:=cy x) (bg (R:=fB) (ab (ae (s3.dat h0)) av) ⟨kd,r,by rw [ek],by rw [ek]⟩) (by omega) _ (by simp) rfl (λH4 i z vz d s4 hz hi hvz=>?_))) λv H' s q=>post v H' (s1.trans (s2.trans (s3.trans s))) ?_
    ·rw [List.getElem?_map,List.getElem?_map,hz] at hi
     cases hi
     exact bg (E:=E0) (R:=Rpp n) (ab (ae hvz) (ab (RE.as (dC (ae (s4.dat h1)) ao) (congrArg D.int (by omega:(4:Int) - ((n+1:Nat):Int)+1=4 - (n:Int)))) av)) ⟨z,rfl,rfl⟩
    ·rw [e1,hn,c3]
     exact q
noncomputable def lB (k:Str):D->Bool
 | .tup (.str h::_)=>decide (h=k)
 | _=>false
noncomputable def cC:Nat->Str->D->List D
 | 0,_,_=>[]
 | n+1,k,d=>if lB k d=true then [d] else (cy d).flatMap (cC n k)
noncomputable def jv (n:Nat) (ds es:List D):Prop:=∃ x k,ds=[x,.str k]/\n≤3/\ppD n x=true/\es=cC n k x
theorem tm (h:eP d=true):∃ k r,d=.tup (.str k::r):=by
 unfold eP at h
 split at h
 ·exact ⟨_,_,rfl⟩
 ·cases h
variable {r:List D}
theorem zC {k:Str} (h:eP (.tup (.str k::r))=true):k="hole"\/k="gap"\/k="slot":=by
 rw [jE,Bool.and_eq_true] at h
 have hl:=of_decide_eq_true h.1
 unfold oC at hl
 by_cases h1:k="hole"
 ·exact .inl h1
 by_cases h2:k="gap"
 ·exact .inr (.inl h2)
 by_cases h3:k="slot"
 ·exact .inr (.inr h3)
 have e:KTD.datumAt k TM=none:=by simp [TM,KTD.datumAt,h1,h2,h3]
 rw [e] at hl
 dsimp only at hl
 omega
theorem oF {k:Str} (h:k="hole"\/k="gap"\/k="slot"):KTD.inKeys k TB=false/\KTD.inKeys k TL=false:=by
 rcases h with rfl | rfl | rfl <;> decide +kernel
theorem xA (h:eP d=true):cy d=[]:=by
 obtain ⟨k,r,rfl⟩:=tm h
 exact gU (oF (zC h)).1
theorem uY (h:ppD n d=true):∃ k r,d=.tup (.str k::r):=by
 cases n with
 | zero=>cases h
 | succ n =>
  have h':(eP d || (dD d && (!kC d && ((cy d).map (ppD n)).all id)))=true:=h
  rw [Bool.or_eq_true] at h'
  rcases h' with h' | h'
  ·exact tm h'
  ·rw [Bool.and_eq_true] at h'
   exact nN h'.1
theorem rl (h:ppD (n+1) d=true):(cy d).length≤3/\∀ c ∈ cy d,ppD n c=true:=by
 have h':(eP d || (dD d && (!kC d && ((cy d).map (ppD n)).all id)))=true:=h
 rw [Bool.or_eq_true] at h'
 rcases h' with h' | h'
 ·rw [xA h']
  exact ⟨by simp,λc hc=>absurd hc (by simp)⟩
 ·rw [Bool.and_eq_true,Bool.and_eq_true] at h'
  refine ⟨nG h'.1,λc hc=>?_⟩
  have z:=List.all_eq_true.mp h'.2.2 (ppD n c) (List.mem_map.mpr ⟨c,hc,rfl⟩)
  exact z
theorem vQ {α β:Type} (f:α->List β) (m:Nat):∀ l:List α,(∀ x ∈ l,(f x).length≤m)->(l.flatMap f).length≤l.length * m
 | [],_=>by simp
 | x::l,h=>by
  have h1:=h x (by simp)
  have h2:=vQ f m l λy hy=>h y (by simp [hy])
  rw [List.flatMap_cons,List.length_append,List.length_cons,Nat.succ_mul]
  omega
theorem nJ (k:Str):∀ (n:Nat) (d:D),ppD n d=true->(cC n k d).length≤3 ^ n
 | 0,d,h=>by cases h
 | n+1,d,h=>by
  unfold cC
  split
  ·have:1≤3 ^ (n+1):=Nat.one_le_iff_ne_zero.mpr (by simp)
   simpa using this
  ·obtain ⟨h1,h2⟩:=rl h
   have z:=vQ (cC n k) (3 ^ n) (cy d) λc hc=>nJ k n c (h2 c hc)
   have z2:(cy d).length * 3 ^ n≤3 * 3 ^ n:=Nat.mul_le_mul_right _ h1
   rw [Nat.pow_succ,Nat.mul_comm (3 ^ n) 3]
   omega
theorem p3 (h:n≤3):3 ^ n≤27:=by
 match n,h with
 | 0,_=>decide
 | 1,_=>decide
 | 2,_=>decide
 | 3,_=>decide
theorem tR (T:Txt P w K mg) (Fe:FnOk P w K mg base CX0 k T.Fg T.Fi ["tree"] (spD K fB)) (IV:FnOk P w K mg base CX0 k T.GA T.GF ["pattern","kind"] (iG K (jv n))):FnOk P w K mg base CX0 (k+1) T.GA T.GF ["pattern","kind"] (iG K (jv (n+1))):=by
 refine T.HU.ok sc_marks_in (λvs H Q E h=>?_) (λcdv A outer s H vs Q E hr h=>?_)
 ·obtain ⟨ds,es,hd,⟨x,kk,rfl,_⟩,_⟩:=h;exact hd.length.symm
 have nd:=sc_marks_in.nd
 obtain ⟨ds,es,hd,⟨x,kk,rfl,hn3,hp,rfl⟩,post⟩:=h
 obtain ⟨v0,v1,rfl,h0,h1⟩:=gk hd
 refine ⟨_,(aj (bq (aV cF (aN aS (pv 0) ak (λ_ _=>rfl)) (pv 1) (aY _)) (au (aI (bA (ag (pv 0) af)))) aR)
 (aj (bj (i:=2) nd rfl (Or.inl rfl) (bA af))
 (aj (gA PassesOwn.never rfl (iE (ay Fe hr rfl T.FZ T.Fo.kp (d8 T) .nil aO (ag (pv 0) af))) (aL (i:=3) nd rfl (Or.inl rfl)) (au (bE (dq PySem.F.plainAttrs_list PySem.F.slot_list_extend PySem.F.type_list_extend eH (pv 2) (ag (ay IV hr rfl T.JS T.HU.kp (kg T) .nil aO (ag (pv 3) (ag (pv 1) af))) af)))))
 (au (aI (pv 2)))))),?_⟩
 obtain ⟨kd,r,ek⟩:=uY hp
 have h0':Dat K H (.tup (.str kd::r)) v0:=by rw [← ek];exact h0
 have eh:lB kk x=decide (kd=kk):=by rw [ek];rfl
 obtain ⟨few,kok⟩:=rl hp
 have cap:=nJ kk (n+1) x hp
 have cap3:=p3 hn3
 refine aK (K:=K) (b:=lB kk x) (RT.as (aD (bo (aQ (k:=0) (ae h0') ao rfl) (ae h1))) eh.symm) (λc H1 s1=>?_) (λc H1 s1=>?_)
 ·refine gq ((dW (K:=K) (es:=[x]) (ab (ae (s1.dat h0)) av)).use λl ys H2 hl s2 hy hd2=>?_)
  refine post l ys H2 (s1.trans s2) hy (s1.free hl) ?_
  unfold cC
  rw [if_pos c]
  exact hd2
 have em:cC (n+1) kk x=(cy x).flatMap (cC n kk):=by
  show (if lB kk x=true then _ else _)=_
  rw [if_neg (by rw [c];exact Bool.false_ne_true)]
 rw [em] at cap post
 have h0:=s1.dat h0
 have h1:=s1.dat h1
 have hk1:=h1.strE
 refine eI (K:=K) (es:=[]) (dW av) λwl ys0 H2 hw s2 hy0 hd0=>?_
 have hw0:H wl=none:=s1.free hw
 refine cJ (RE.use (bg (R:=fB) (d:=.tup (cy x)) (ab (ae (K:=K) (k:=0) (s2.dat h0)) av) ⟨kd,r,by rw [ek],by rw [ek]⟩) λv4 H4 s4 q4=>?_)
 obtain ⟨a,vs,ea,hq,hds⟩:=q4.tupE
 subst ea
 have hl:=hds.length
 refine ⟨a,rfl,⟨vs,hq⟩,mL (xs:=vs) (λi σ G=>∃ (z:Option V) (ys:List V),σ=[some v0,some v1,some (.ref wl),z]/\Same H G/\SqT K G a vs/\Dats K G (cy x) vs/\G wl=some (.lst ys)/\Dats K G (((cy x).take i).flatMap (cC n kk)) ys) ?_ (λi σ G _ zq=>by obtain ⟨z,ys,_,_,p,_⟩:=zq;exact p) ?_ ?_⟩
 ·exact ⟨none,ys0,rfl,s1.trans (s2.trans s4),hq,hds,s4 _ _ hy0,s4.dats hd0⟩
 ·rintro i vx σ G hi ⟨z,ys,rfl,sG,hqG,hdG,hwG,hyG⟩
  obtain ⟨dx,ex,hx⟩:=hdG.getV hi
  have hpx:=kok dx (List.mem_of_getElem? ex)
  subst hk1
  refine ⟨_,rfl,.inl ⟨rfl,_,SqL.of hwG⟩,_,rfl,_,rfl,[dx,.str kk],_,(Dats.cons hx (Dats.cons (Dat.strI _) Dats.nil):Dats K G [dx,.str kk] [vx,.str kk]),⟨dx,kk,rfl,by omega,hpx,rfl⟩,λr us H5 s5 hr5 _ hd5=>?_⟩
  have hw5:=s5 _ _ hwG
  have b6:But wl H5 (upd H5 wl (.lst (ys++us))):=But.upd (Same.refl H5).but
  have g6:cW K H5 (upd H5 wl (.lst (ys++us))):=b6.grow hw5 aq
  have et:((cy x).take (i+1)).flatMap (cC n kk)=((cy x).take i).flatMap (cC n kk)++cC n kk dx:=by
   rw [List.take_add_one,ex]
   simp
  have lt:(((cy x).take (i+1)).flatMap (cC n kk)).length≤27:=by
   have e2:((cy x).take (i+1)).flatMap (cC n kk)++((cy x).drop (i+1)).flatMap (cC n kk)=(cy x).flatMap (cC n kk):=by
    rw [← List.flatMap_append,List.take_append_drop]
   have:=congrArg List.length e2
   rw [List.length_append] at this
   omega
  have ly:=hyG.length
  have lu:=hd5.length
  rw [et,List.length_append] at lt
  refine ⟨wl,r,ys,us,rfl,rfl,hw5,hr5,cm (by omega),some vx,ys++us,rfl,λb o hb=>b6 b o (az hb hw0) (s5 _ _ (sG _ _ hb)),g6.tup _ _ (s5.sqT hqG),Dats.mono g6 _ (s5.dats hdG),aq,?_⟩
  rw [et]
  exact Dats.append (Dats.mono g6 _ (s5.dats hyG)) (Dats.mono g6 _ hd5)
 ·rintro σ G ⟨z,ys,rfl,sG,hqG,hdG,hwG,hyG⟩
  refine ⟨_,rfl,post wl ys G sG hwG hw0 ?_⟩
  rw [← hl,List.take_length] at hyG
  exact hyG
noncomputable def DE:D->D
 | .tup (_::y::_)=>y
 | _=>.non
theorem uK {k:Str} (h:eP (.tup (.str k::r))=true):∃ i r',r=.int i::r':=by
 rw [jE,Bool.and_eq_true,Bool.and_eq_true] at h
 have hw:=h.2.1
 cases r with
 | nil=>cases hw
 | cons y r' =>
  have hw':cT y 0 1=true:=hw
  cases y with
  | int i=>exact ⟨i,r',rfl⟩
  | _=>cases hw'
theorem jF {k:Str} (hk:k="hole"\/k="gap"\/k="slot"):∀ (n:Nat) (x m:D),ppD n x=true->m ∈ cC n k x->∃ i r,m=.tup (.str k::.int i::r)
 | 0,x,m,h,_=>by cases h
 | n+1,x,m,h,hm=>by
  unfold cC at hm
  split at hm
  ·rename_i hh
   have e:m=x:=by simpa using hm
   subst e
   obtain ⟨k',r,rfl⟩:=uY h
   have ek:k'=k:=of_decide_eq_true hh
   subst ek
   have h':(eP (.tup (.str k'::r)) || (dD (.tup (.str k'::r)) && _))=true:=h
   rw [Bool.or_eq_true] at h'
   rcases h' with h' | h'
   ·obtain ⟨i,r',rfl⟩:=uK h'
    exact ⟨i,r',rfl⟩
   ·rw [Bool.and_eq_true] at h'
    have z:=h'.1
    rw [nL (oF hk).2,(oF hk).1,Bool.false_and] at z
    cases z
  ·obtain ⟨c,hc,hm'⟩:=List.mem_flatMap.mp hm
   exact jF hk n c m ((rl h).2 c hc) hm'
noncomputable def Bi (k:Str) (x:D):Bool:=eqDs ((cC 3 k x).map DE) ((List.range (cC 3 k x).length).map λi:Nat=>D.int i)
noncomputable def Cz (ds:List D) (d:D):Prop:=∃ x k,ds=[x,.str k]/\ppD 3 x=true/\(k="hole"\/k="gap"\/k="slot")/\d=.bl (Bi k x)
variable {σ:L2.St} {l:Addr}
theorem mT {K:PySem.W.Frag} {k:Nat} {ys:List V} (hl:H l=some (.lst ys)) (e:σ[k]?=some (some (.ref l)):=by rfl):RE K (tCB (λxs H Q=>∃ p ys,xs=[.ref p]/\(SqL K H p ys\/SqT K H p ys)/\Q (.int ys.length) H) (bR (jl k) dQ)) σ H (.int ys.length):=λH1 s Q q =>
 ⟨.ref l,e,l,ys,rfl,.inl (SqL.of (s _ _ hl)),q _ _ (Same.refl _) (Dat.intI _)⟩
theorem nK {l:List D} (h:∀ d ∈ l,∃ i,d=.int i):noLs l=true/\deepDs l=0:=by
 induction l with
 | nil=>exact ⟨by unfold noLs;rfl,by unfold deepDs;rfl⟩
 | cons d l ih =>
  obtain ⟨i,rfl⟩:=h d (by simp)
  obtain ⟨h1,h2⟩:=ih λd hd=>h d (by simp [hd])
  refine ⟨?_,?_⟩
  ·unfold noLs;rw [h1];unfold noL;rfl
  ·unfold deepDs;rw [h2];unfold eU;rfl
theorem nT (T:Txt P w K mg) (IV:FnOk P w K mg base CX0 k T.GA T.GF ["pattern","kind"] (iG K (jv 3))):FnOk P w K mg base CX0 (k+1) T.GW T.Ha ["pattern","kind"] (spD K Cz):=by
 refine T.Ic.ok sc_is_numbered (λvs H Q E h=>?_) (λcdv A outer s H vs Q E hr h=>?_)
 ·obtain ⟨ds,d,hd,⟨x,kk,rfl,_⟩,_⟩:=h;exact hd.length.symm
 have nd:=sc_is_numbered.nd
 obtain ⟨ds,d,hd,⟨x,kk,rfl,hp,hk,rfl⟩,post⟩:=h
 obtain ⟨v0,v1,rfl,h0,h1⟩:=gk hd
 refine ⟨_,(aj (fm (i:=2) (own:=["mark"]) (fr:=[]) (N':=["mark"]) (di (ay IV hr rfl T.JS T.HU.kp (kg T) .nil aO (ag (pv 0) (ag (pv 1) af)))) rfl (by show cj ["pattern","kind","numbers"] (λx=>(aA fe).names.lookup x) _ _ _ _=true;decide +kernel) rfl (λ_ _ _ _ _=>(aL (i:=0) (by show List.Nodup [("mark":Str)];decide +kernel) rfl (Or.inl rfl))) (λ_ _ _ _ _=>bO) (λ_ _ _ _ _=>(aN (r:=tZ K) aS (pv 0) ak (λ_ _=>rfl))) nd rfl rfl rfl)
 (au (aI (cA (uU hr) (pv 2) (dS (oO rfl) rfl T.Lq qy (ag (dS yJ rfl T.Kz yB (ag (aT aU rfl T.Fq bP (ag (pv 2) af)) af)) af)) (aY _))))),?_⟩
 have cap:=nJ kk 3 x hp
 refine eI (K:=K) (es:=(cC 3 kk x).map DE) (Bz (cs:=cC 3 kk x) (i8 (R:=jv 3) (ab (ae h0) (ab (ae h1) av)) ⟨x,kk,rfl,by decide,hp,rfl⟩) (Nat.le_trans cap (by decide)) _ (by simp) rfl (λH1 i c v d s1 hc hi hv=>?_)) λl ys H2 hl s2 hy hd2=>?_
 ·rw [List.getElem?_map,hc] at hi
  cases hi
  obtain ⟨j,r,rfl⟩:=jF hk 3 x c hp (List.mem_of_getElem? hc)
  exact aQ (k:=1) (ae hv) ao rfl
 have ll:=hd2.length
 rw [List.length_map] at ll
 refine ⟨_,rfl,(rq (K:=K) (n:=ys.length) (mT (k:=2) hy) (by rw [← ll];exact Nat.le_trans cap (by decide))).use λl2 ys2 H3 hl2 s3 hy3 hd3=>?_⟩
 have i1:∀ d ∈ (cC 3 kk x).map DE,∃ i,d=.int i:=λd hdm=>by
  obtain ⟨m,hm,rfl⟩:=List.mem_map.mp hdm
  obtain ⟨j,r,rfl⟩:=jF hk 3 x m hp hm
  exact ⟨j,rfl⟩
 have i2:∀ d ∈ (List.range ys.length).map (λi:Nat=>D.int i),∃ i,d=.int i:=λd hdm=>by
  obtain ⟨m,hm,rfl⟩:=List.mem_map.mp hdm
  exact ⟨_,rfl⟩
 refine ⟨l,l2,ys,ys2,_,_,rfl,rfl,SqL.of (s3 _ _ hy),SqL.of hy3,s3.dats hd2,hd3,(nK i1).1,(nK i2).1,by rw [(nK i1).2];decide,?_⟩
 refine post _ _ (s2.trans s3) ?_
 unfold Bi
 rw [ll]
 exact Dat.blI _
noncomputable def rj (x:D):Bool:=ppD 3 x && (!lB "hole" x && ((["hole","gap","slot"]:List Str).map λk=>Bi k x).all id)
noncomputable def CA (ds:List D) (d:D):Prop:=∃ x,ds=[x]/\d=.bl (rj x)
theorem oU (T:Txt P w K mg) (Ht:FnOk P w K mg base CX0 k T.Ff T.Fh ["thing","deep"] (spD K (Rpp 3))) (Lf:FnOk P w K mg base CX0 k T.GW T.Ha ["pattern","kind"] (spD K Cz)):FnOk P w K mg base CX0 (k+1) T.Hw T.HB ["thing"] (spD K CA):=by
 refine T.IK.ok sc_is_pattern (λvs H Q E h=>?_) (λcdv A outer s H vs Q E hr h=>?_)
 ·obtain ⟨ds,d,hd,⟨x,rfl,rfl⟩,_⟩:=h;exact hd.length.symm
 have nd:=sc_is_pattern.nd
 obtain ⟨ds,d,hd,⟨x,rfl,rfl⟩,post⟩:=h
 obtain ⟨v0,rfl,h0⟩:=gC hd
 refine ⟨_,(aj (bq (PW.pt (fF (ck (br (ay Ht hr rfl T.HJ T.FK.kp (ic T) .nil aO (ag (pv 0) (ag ak af))) (λ_=>rfl))) (fq (aV cF (aN aS (pv 0) ak (λ_ _=>rfl)) aH (aY _))))) (au (aI cu)) aR)
 (au (aI (aT (gY rfl) rfl T.KQ kj (ag (cO (own:=["kind"]) (fr:=[0]) (N':=["kind","thing"]) (Ds (bL (v:=.ref T.Fx) rfl T.Fp rfl)) rfl (by show cj ["thing"] (λx=>(aA fL).names.lookup x) _ _ _ _=true;decide +kernel) rfl (λ_ _ _ _ _=>(aL (i:=0) (by show List.Nodup [("kind":Str),("thing":Str)];decide +kernel) rfl (Or.inl rfl))) (λ_ _ _ _ _=>bO) (λ_ _ _ _ _=>(ay Lf hr rfl T.Kk T.Ic.kp (oN T) .nil aO (ag (pv 1) (ag (pv 0) af))))) af))))),?_⟩
 cases hp:ppD 3 x with
 | false =>
  refine aK (K:=K) (b:=true) (RT.as (dJ (b:=true) (c:=true) (RT.as (bJ (aX (bg (R:=Rpp 3) (ab (ae h0) (ab ao av)) ⟨x,rfl,rfl⟩))) (by rw [hp];rfl)) λc=>nomatch c) rfl) (λc H3 s3=>?_) (λc=>nomatch c)
  refine aW (K:=K) (d:=.bl false) cg λv H' s q=>post v H' (s3.trans s) ?_
  unfold rj
  rw [hp]
  exact q
 | true =>
  obtain ⟨kd,r,ek⟩:=uY hp
  have h0':Dat K H (.tup (.str kd::r)) v0:=by rw [← ek];exact h0
  refine aK (K:=K) (b:=lB "hole" x) (RT.as (dJ (b:=false) (RT.as (bJ (aX (bg (R:=Rpp 3) (ab (ae h0) (ab ao av)) ⟨x,rfl,rfl⟩))) (by rw [hp];rfl)) λ_=>aD (bo (aQ (k:=0) (ae h0') ao rfl) aB)) (by rw [ek];exact Bool.false_or _)) (λc H1 s1=>?_) (λc H1 s1=>?_)
  ·refine aW (K:=K) (d:=.bl false) cg λv H' s q=>post v H' (s1.trans s) ?_
   unfold rj
   rw [hp,c]
   exact q
  ·refine aW (K:=K) (d:=.bl (((["hole","gap","slot"]:List Str).map λk=>Bi k x).all id)) (i9 (Dy T.J2 (by decide) _ rfl rfl (λH2 i kk d s2 hk hi=>?_))) λv H' s q=>post v H' (s1.trans s) ?_
   ·rw [List.getElem?_map,List.getElem?_map,hk] at hi
    cases hi
    refine bg (E:=E0) (R:=Cz) (ab (ae (s2.dat (s1.dat h0))) (ab (ae (Dat.strI kk)) av)) ⟨x,kk,rfl,hp,?_,rfl⟩
    have:=List.mem_of_getElem? hk
    simpa using this
   ·unfold rj
    rw [hp,c]
    exact q
noncomputable def qi (k:Str) (T:List (Str × KTD.Dat)):Str:=match KTD.datumAt k T with | some (.flat (.str z))=>z | _=>""
theorem CD {k:Str} (h:KTD.inKeys k TF=true):KTD.datumAt k TF=some (.flat (.str (qi k TF))):=by
 unfold qi
 by_cases h1:k="low"
 ·subst h1;rfl
 by_cases h2:k="high"
 ·subst h2;rfl
 by_cases h3:k="arg"
 ·subst h3;rfl
 have e:KTD.inKeys k TF=false:=by simp [TF,KTD.inKeys,h1,h2,h3]
 rw [e] at h
 cases h
noncomputable def nr (p:D):D->Bool
 | .tup (.str k::r)=>decide ((r.length:Int)+1=2) && (KTD.inKeys k TF && cT (r.getD 0 .non) 0 (((cC 3 (qi k TF) p).length:Int) - 1))
 | _=>false
theorem sI (p:D) (k:Str) (r:List D):nr p (.tup (.str k::r))=(decide ((r.length:Int)+1=2) && (KTD.inKeys k TF && cT (r.getD 0 .non) 0 (((cC 3 (qi k TF) p).length:Int) - 1))):=rfl
noncomputable def yl (ds:List D) (d:D):Prop:=∃ x p,ds=[x,p]/\ppD 3 p=true/\d=.bl (nr p x)
theorem A1 {p x:D} (h:d6 x=false):nr p x=false:=by
 unfold d6 at h
 unfold nr
 split at h
 ·cases h
 ·rename_i hn
  first
   | rfl
   | (split
      ·rename_i k r;exact absurd rfl (hn k r)
      ·rfl)
theorem oT (T:Txt P w K mg) (Ig:FnOk P w K mg base CX0 k T.Gz T.GE ["thing"] (spD K mJ)) (IV:FnOk P w K mg base CX0 k T.GA T.GF ["pattern","kind"] (iG K (jv 3))) (FN:FnOk P w K mg base CX0 k T.Gd T.Gg ["thing","low","high"] (spD K gw)):FnOk P w K mg base CX0 (k+1) T.Hv T.HA ["thing","pattern"] (spD K yl):=by
 refine T.IJ.ok sc_is_filling (λvs H Q E h=>?_) (λcdv A outer s H vs Q E hr h=>?_)
 ·obtain ⟨ds,d,hd,⟨x,p,rfl,_⟩,_⟩:=h;exact hd.length.symm
 have nd:=sc_is_filling.nd
 obtain ⟨ds,d,hd,⟨x,p,rfl,hp,rfl⟩,post⟩:=h
 obtain ⟨v0,v1,rfl,h0,h1⟩:=gk hd
 refine ⟨_,(aj (bq (PW.pt (fF (ck (br (ay Ig hr rfl T.Jr T.Hn.kp (jw T) .nil aO (ag (pv 0) af)) (λ_=>rfl))) (fF (aV nV (aT aU rfl T.Fq bP (ag (pv 0) af)) ak (aY _)) (fq (aV tT (aN aS (pv 0) ak (λ_ _=>rfl)) (bL (v:=.ref T.GS) rfl T.FS rfl) (by with_unfolding_all rfl)))))) (au (aI cu)) aR)
 (au (aI (ay FN hr rfl T.Hj T.Gj.kp (fP T) .nil aO (ag (aN aS (pv 0) ak (λ_ _=>rfl)) (ag ak (ag (bu rh (aT aU rfl T.Fq bP (ag (ay IV hr rfl T.JS T.HU.kp (kg T) .nil aO (ag (pv 1) (ag (aN Bb (bL (v:=.ref T.GS) rfl T.FS rfl) (aN aS (pv 0) ak (λ_ _=>rfl)) (λ_ _=>rfl)) af))) af)) ak) af))))))),?_⟩
 cases ht:d6 x with
 | false =>
  refine aK (K:=K) (b:=true) ?_ (λc H1 s1=>?_) (λc=>nomatch c)
  ·exact RT.as (dJ (b:=true) (c:=true) (RT.as (bJ (aX (bg (ab (ae h0) av) ⟨x,rfl,rfl⟩))) (by rw [ht];rfl)) λc=>nomatch c) rfl
  ·refine aW (K:=K) (d:=.bl (nr p x)) ?_ λv H' s q=>post v H' (s1.trans s) q
   rw [A1 ht]
   exact cg
 | true =>
  have ht':=ht
  unfold d6 at ht'
  split at ht'
  ·rename_i kd r
   have el:((((D.str kd)::r).length:Nat):Int)=(r.length:Int)+1:=by rw [List.length_cons];omega
   have b1:=lO (K:=K) (eT (ae (σ:=gD ["thing","pattern"] [v0,v1]) (k:=0) h0)) (ao (i:=2))
   rw [el] at b1
   refine aK (K:=K) (b:=!decide ((r.length:Int)+1=2) || !KTD.inKeys kd TF) (RT.as (dJ (b:=false) (RT.as (bJ (aX (bg (ab (ae h0) av) ⟨_,rfl,rfl⟩))) (by rw [ht];rfl)) λ_=>dJ (aD b1) λ_=>aD (ud (aQ (k:=0) (ae h0) ao rfl) T.FU)) (Bool.false_or _)) (λc H1 s1=>?_) (λc H1 s1=>?_)
   ·refine aW (K:=K) (d:=.bl false) cg λv H' s q=>post v H' (s1.trans s) ?_
    have e:nr p (.tup (.str kd::r))=false:=by
     rw [sI]
     cases h2:decide ((r.length:Int)+1=2) with
     | false=>rfl
     | true =>
      rw [h2] at c
      have h3:KTD.inKeys kd TF=false:=iC c
      rw [h3]
      rfl
    rw [e]
    exact q
   ·rw [Bool.or_eq_false_iff] at c
    have c1:=fj c.1
    have c2:=fj c.2
    obtain ⟨y,er⟩:∃ y,r=[y]:=by
     match r,of_decide_eq_true c1 with
     | [],h=>simp at h
     | [y],_=>exact ⟨y,rfl⟩
     | _::_::_,h=>simp at h;omega
    subst er
    have h0:=s1.dat h0
    have h1:=s1.dat h1
    refine aW (K:=K) (d:=.bl (cT y 0 (((cC 3 (qi kd TF) p).length:Int) - 1))) (bg (R:=gw) (ab (aQ (k:=1) (ae h0) ao rfl) (ab ao (ab (vi (BF (i8 (R:=jv 3) (ab (ae h1) (ab (xO (aQ (k:=0) (ae h0) ao rfl) T.FU (by rfl) (CD c2)) av)) ⟨p,qi kd TF,rfl,by decide,hp,rfl⟩)) ao) av))) ⟨y,0,_,rfl,rfl⟩) λv H' s q=>post v H' (s1.trans s) ?_
    rw [sI,c1,c2]
    exact q
  ·cases ht'
noncomputable def sx (p x:D):Bool:=cT x 0 99 || nr p x
noncomputable def yj (ds:List D) (d:D):Prop:=∃ x p,ds=[x,p]/\ppD 3 p=true/\d=.bl (sx p x)
theorem uN (T:Txt P w K mg) (FN:FnOk P w K mg base CX0 k T.Gd T.Gg ["thing","low","high"] (spD K gw)) (Lk:FnOk P w K mg base CX0 k T.Hv T.HA ["thing","pattern"] (spD K yl)):FnOk P w K mg base CX0 (k+1) T.Ju T.Jy ["thing","pattern"] (spD K yj):=by
 refine T.Ka.ok sc_is_cell (λvs H Q E h=>?_) (λcdv A outer s H vs Q E hr h=>?_)
 ·obtain ⟨ds,d,hd,⟨x,p,rfl,_⟩,_⟩:=h;exact hd.length.symm
 have nd:=sc_is_cell.nd
 obtain ⟨ds,d,hd,⟨x,p,rfl,hp,rfl⟩,post⟩:=h
 obtain ⟨v0,v1,rfl,h0,h1⟩:=gk hd
 refine ⟨_,(au (aI (wq (ay FN hr rfl T.Hj T.Gj.kp (fP T) .nil aO (ag (pv 0) (ag ak (ag (bL (v:=.int 99) rfl T.GI ⟨_,rfl⟩) af)))) (fT (ay Lk hr rfl T.Kv T.IJ.kp (qu T) .nil aO (ag (pv 0) (ag (pv 1) af))))))),?_⟩
 exact aW (K:=K) (d:=.bl (sx p x)) (ue (bg (R:=gw) (ab (ae h0) (ab ao (ab ao av))) ⟨x,0,99,rfl,rfl⟩) λ_=>bg (R:=yl) (ab (ae h0) (ab (ae h1) av)) ⟨x,p,rfl,hp,rfl⟩) post
noncomputable def pL (c:Int):Option (Str × Nat):=match INS[c.toNat]? with
 | some (.tup [.str nm,.int m])=>some (nm,m.toNat)
 | _=>none
variable {m:Nat}
theorem C3 {c:Int} (h:pL c=some (nm,m)):INS[c.toNat]?=some (.tup [.str nm,.int (m:Int)])/\c.toNat < 17:=by
 unfold pL at h
 have hlt:c.toNat < 17:=by
  by_cases hc:c.toNat < 17
  ·exact hc
  ·rw [List.getElem?_eq_none (by show (17:Nat)≤c.toNat;omega)] at h
   cases h
 refine ⟨?_,hlt⟩
 have all:∀ i:Nat,i < 17->∀ nm m,(match INS[i]? with | some (.tup [.str nm,.int m])=>some (nm,m.toNat) | _=>none)=some (nm,m)->INS[i]?=some (.tup [.str nm,.int (m:Int)]):=by
  intro i hi nm m e
  match i,hi with
  | 0,_=>cases e;rfl
  | 1,_=>cases e;rfl
  | 2,_=>cases e;rfl
  | 3,_=>cases e;rfl
  | 4,_=>cases e;rfl
  | 5,_=>cases e;rfl
  | 6,_=>cases e;rfl
  | 7,_=>cases e;rfl
  | 8,_=>cases e;rfl
  | 9,_=>cases e;rfl
  | 10,_=>cases e;rfl
  | 11,_=>cases e;rfl
  | 12,_=>cases e;rfl
  | 13,_=>cases e;rfl
  | 14,_=>cases e;rfl
  | 15,_=>cases e;rfl
  | 16,_=>cases e;rfl
  | n+17,h=>omega
 exact all c.toNat hlt nm m h
noncomputable def iW (cells:List D) (p m:Nat):List D:=(cells.drop (p+1)).take m
noncomputable def yn (ds:List D) (d:D):Prop:=∃ (cells:List D) (p:Nat) (c:Int) (nm:Str) (m:Nat),ds=[.tup cells,.int p]/\cells[p]?=some (.int c)/\0≤c/\pL c=some (nm,m)/\(iW cells p m).length=m/\d=.tup [.str nm,.tup (iW cells p m)]
theorem kP (T:Txt P w K mg)  : FnOk P w K mg base CX0 (k+1) T.FV T.FX ["cells","place"] (spD K yn):=by
 refine T.GN.ok sc_instruction_at (λvs H Q E h=>?_) (λcdv A outer s H vs Q E hr h=>?_)
 ·obtain ⟨ds,d,hd,⟨cells,p,c,nm,m,rfl,_⟩,_⟩:=h;exact hd.length.symm
 have nd:=sc_instruction_at.nd
 obtain ⟨ds,d,hd,⟨cells,p,c,nm,m,rfl,hc,c0,hi,hb,rfl⟩,post⟩:=h
 obtain ⟨v0,v1,rfl,h0,h1⟩:=gk hd
 refine ⟨_,(aj (bq (PW.pt (fF (aV zM (pv 1) (aT aU rfl T.Fq bP (ag (pv 0) af)) (aY _)) (fq (aV zM (aN aS (pv 0) (pv 1) (λ_ _=>rfl)) (aT aU rfl T.Fq bP (ag (bL (v:=.ref T.Gv) rfl T.FA rfl) af)) (aY _))))) (au iP) aR)
 (aj (fE (aN aS (bL (v:=.ref T.Gv) rfl T.FA rfl) (aN aS (pv 0) (pv 1) (λ_ _=>rfl)) (λ_ _=>rfl)) (eE rfl (aZ (aL (i:=2) nd rfl (Or.inl rfl)) (aZ (aL (i:=3) nd rfl (Or.inl rfl)) cP))))
 (aj (bj (i:=4) nd rfl (Or.inl rfl) (dS dA rfl T.He d9 (ag (hU lR (pv 0) (ik (bu cM (pv 1) ak)) (ik (bu cM (bu cM (pv 1) ak) (pv 3)))) af)))
 (aj (bq (aV pU (aT aU rfl T.Fq bP (ag (pv 4) af)) (pv 3) (aY _)) (au iP) aR)
 (au (aI (aM (ag (pv 2) (ag (pv 4) af))))))))),?_⟩
 obtain ⟨hi,h17⟩:=C3 hi
 have hp:p < cells.length:=(List.getElem?_eq_some_iff.mp hc).1
 have ec:c=((c.toNat:Nat):Int):=by omega
 refine aK (K:=K) (b:=false) (RT.as (dJ (b:=false) (c:=false) (RT.as (aD (eR (p:=λi j=>decide (j≤i)) (ae h1) (eT (ae h0)))) (decide_eq_false (by omega))) λ_=>RT.as (aD (eR (p:=λi j=>decide (j≤i)) (aQ (k:=p) (ae h0) (ae h1) hc) (eT (oo T.Ja)))) (decide_eq_false (by show ¬ (17:Int)≤c;omega))) rfl) (λc=>nomatch c) (λ_ H1 s1=>?_)
 have h0:=s1.dat h0
 have h1:=s1.dat h1
 refine kT (K:=K) (d:=.str nm) (e:=.int m) (aQ (k:=c.toNat) (oo T.Ja) (RE.as (aQ (k:=p) (ae h0) (ae h1) hc) (congrArg D.int ec)) hi) λv2 v3 H2 s2 h2 h3=>?_
 have h0:=s2.dat h0
 have h1:=s2.dat h1
 have el:(p:Int)+1=((p+1:Nat):Int):=by omega
 have eh:(p:Int)+1+(m:Int)=((p+1+m:Nat):Int):=by omega
 refine dt (K:=K) (d:=.tup (iW cells p m)) (RE.as (xS (Dz (lo:=p+1) (hi:=p+1+m) (ae h0) (RE.as (dC (ae h1) ao) (congrArg D.int el)) (RE.as (dC (dC (ae h1) ao) (ae h3)) (congrArg D.int eh)) (by omega) (by omega))) (by unfold iW;rw [show p+1+m - (p+1)=m by omega])) λv4 H3 s3 h4=>?_
 refine aK (K:=K) (b:=false) (RT.as (aD (eR (p:=λi j=>decide (i < j)) (eT (ae h4)) (ae (s3.dat h3)))) (decide_eq_false (by rw [hb];omega))) (λc=>nomatch c) (λ_ H4 s4=>?_)
 exact aW (K:=K) (d:=.tup [.str nm,.tup (iW cells p m)]) (aP (ab (ae (s4.dat (s3.dat h2))) (ab (ae (s4.dat h4)) av))) λv H' s q=>post v H' (s1.trans (s2.trans (s3.trans (s4.trans s)))) q
noncomputable abbrev SS:List Str:=["put","far","load","add","sub","mul","less","more","twice","about"]
noncomputable def Eb (rec:Nat->Option Bool) (pat:D) (cells:List D) (p:Nat):D->Option Bool
 | .int c=>(match pL c with
  | some (nm,m)=>if (iW cells p m).length=m then (if (!decide (nm ∈ SS) || !((iW cells p m).map (sx pat)).all id)=true then some false else rec (p+1+m)) else none
  | none=>none)
 | _=>none
noncomputable def m7:Nat->D->List D->Nat->Option Bool
 | 0,_,_,_=>none
 | n+1,pat,cells,p=>match cells[p]? with
  | none=>some true
  | some x=>if cT x 0 99=false then some false else Eb (m7 n pat cells) pat cells p x
noncomputable def Cu (ds:List D) (d:D):Prop:=∃ (cells:List D) (pat:D) (b:Bool),ds=[.tup cells,pat]/\ppD 3 pat=true/\cells.length≤100/\m7 (cells.length+1) pat cells 0=some b/\d=.bl b
noncomputable def E1 (σ:L2.St) (_:Hp):Nat:=match σ[2]? with
 | some (some (V.int p))=>(200 - p).toNat
 | _=>0
variable {cells:List D}
theorem CJ {p:Nat}:(iW cells p m).length≤cells.length:=by
 unfold iW
 rw [List.length_take,List.length_drop]
 omega
theorem AN {p:Nat} (h:(iW cells p m).length=m) (hp:p < cells.length):p+1+m≤cells.length:=by
 unfold iW at h
 rw [List.length_take,List.length_drop] at h
 omega
theorem jX (T:Txt P w K mg) (FN:FnOk P w K mg base CX0 k T.Gd T.Gg ["thing","low","high"] (spD K gw)) (KB:FnOk P w K mg base CX0 k T.FV T.FX ["cells","place"] (spD K yn)) (LQ:FnOk P w K mg base CX0 k T.Ju T.Jy ["thing","pattern"] (spD K yj)):FnOk P w K mg base CX0 (k+1) T.Fy T.Fz ["cells","pattern"] (spD K Cu):=by
 refine T.Gi.ok sc_are_instructions (λvs H Q E h=>?_) (λcdv A outer s H vs Q E hr h=>?_)
 ·obtain ⟨ds,d,hd,⟨cells,pat,bb,rfl,_⟩,_⟩:=h;exact hd.length.symm
 have nd:=sc_are_instructions.nd
 obtain ⟨ds,d,hd,⟨cells,pat,bb,rfl,hp,hl,hr2,rfl⟩,post⟩:=h
 obtain ⟨v0,v1,rfl,h0,h1⟩:=gk hd
 refine ⟨_,(aj (bj (i:=2) nd rfl (Or.inl rfl) ak)
 (aj (tW PassesOwn.never (aV pU (pv 2) (aT aU rfl T.Fq bP (ag (pv 0) af)) (aY _)) (aj (bq (ck (br (ay FN hr rfl T.Hj T.Gj.kp (fP T) .nil aO (ag (aN aS (pv 0) (pv 2) (λ_ _=>rfl)) (ag ak (ag (bL (v:=.int 99) rfl T.GI ⟨_,rfl⟩) af)))) (λ_=>rfl))) (au (aI cu)) aR)
 (aj (Bw (au (fE (ay KB hr rfl T.JH T.GN.kp (kZ T) .nil aO (ag (pv 0) (ag (pv 2) af))) (eE rfl (aZ (aL (i:=3) nd rfl (Or.inl rfl)) (aZ (aL (i:=4) nd rfl (Or.inl rfl)) cP))))))
 (aj (bq (PW.pt (fF (aV rf (pv 3) (bL (v:=.ref T.JM) rfl T.HX rfl) (by with_unfolding_all rfl)) (fq (ck (br (aT (gY rfl) rfl T.KQ kj (ag (cO (own:=["cell"]) (fr:=[1]) (N':=["cell","pattern"]) (iE (pv 4)) rfl (by show cj ["cells","pattern","place","name","behind"] (λx=>(aA de).names.lookup x) _ _ _ _=true;decide +kernel) rfl (λ_ _ _ _ _=>(aL (i:=0) (by show List.Nodup [("cell":Str),("pattern":Str)];decide +kernel) rfl (Or.inl rfl))) (λ_ _ _ _ _=>bO) (λ_ _ _ _ _=>(ay LQ hr rfl T.Lg T.Ka.kp (wW T) .nil aO (ag (pv 0) (ag (pv 1) af))))) af)) (λ_=>rfl)))))) (au (aI cu)) aR)
 (au (rn (i:=2) nd rfl (Or.inl rfl) (bu cM ak (aT aU rfl T.Fq bP (ag (pv 4) af))) nC))))))
 (au (aI cu)))),?_⟩
 refine cZ (wD (cJ (uq (λσ G=>∃ (p n:Nat) (z3 z4:Option V),σ=[some v0,some v1,some (.int p),z3,z4]/\Same H G/\m7 n pat cells p=some bb/\p≤cells.length) E1 ?_ ?_ ?_)))
 ·exact ⟨0,_,none,none,rfl,Same.refl _,hr2,Nat.zero_le _⟩
 ·rintro σ G ⟨p,n,z3,z4,rfl,sG,ha,hpl⟩
  have g0:=sG.dat h0
  have g1:=sG.dat h1
  refine RT.use (b:=decide ((p:Int) < (cells.length:Int))) (aD (eR (p:=λi j=>decide (i < j)) (ae (K:=K) (Dat.intI (p:Int))) (eT (ae g0)))) λG1 s1=>?_
  obtain ⟨n,rfl⟩:∃ m,n=m+1:=by
   cases n with
   | zero=>cases ha
   | succ m=>exact ⟨m,rfl⟩
  by_cases hlt:p < cells.length
  ·rw [decide_eq_true (by omega:(p:Int) < (cells.length:Int))]
   refine sY ?_
   have hx:cells[p]?=some cells[p]:=List.getElem?_eq_getElem hlt
   generalize cells[p]=x at hx
   have ha':(if cT x 0 99=false then some false else Eb (m7 n pat cells) pat cells p x)=some bb:=by
    have e:m7 (n+1) pat cells p=some bb:=ha
    unfold m7 at e
    rw [hx] at e
    exact e
   have g0:=s1.dat g0
   have g1:=s1.dat g1
   refine aK (K:=K) (b:=!cT x 0 99) (bJ (aX (bg (R:=gw) (ab (aQ (k:=p) (ae g0) (ae (Dat.intI (p:Int))) hx) (ab ao (ab ao av))) ⟨x,0,99,rfl,rfl⟩))) (λcB G2 s2=>?_) (λcB G2 s2=>?_)
   ·rw [if_pos (iC cB)] at ha'
    cases ha'
    exact post _ _ (sG.trans (s1.trans s2)) (Dat.blI _)
   ·have cw:=fj cB
    rw [if_neg (by rw [cw];exact λz=>nomatch z)] at ha'
    cases x with
    | int c =>
     have ha':(match pL c with
      | some (nm,m)=>if (iW cells p m).length=m then (if (!decide (nm ∈ SS) || !((iW cells p m).map (sx pat)).all id)=true then some false else m7 n pat cells (p+1+m)) else none
      | none=>none)=some bb:=ha'
     have c0:0≤c:=by
      have z:(decide (0≤c) && decide (c≤99))=true:=cw
      rw [Bool.and_eq_true] at z
      exact of_decide_eq_true z.1
     cases hin:pL c with
     | none=>rw [hin] at ha';cases ha'
     | some nm =>
      obtain ⟨nm,m⟩:=nm
      rw [hin] at ha'
      dsimp only at ha'
      by_cases hb:(iW cells p m).length=m
      ·rw [if_pos hb] at ha'
       have g0:=s2.dat g0
       have g1:=s2.dat g1
       refine kT (K:=K) (d:=.str nm) (e:=.tup (iW cells p m)) (bg (R:=yn) (ab (ae g0) (ab (ae (Dat.intI (p:Int))) av)) ⟨cells,p,c,nm,m,rfl,hx,c0,hin,hb,rfl⟩) λv3 v4 G3 s3 g3 g4=>?_
       have g1:=s3.dat g1
       have lb:=CJ (cells:=cells) (p:=p) (m:=m)
       refine aK (K:=K) (b:=!decide (nm ∈ SS) || !((iW cells p m).map (sx pat)).all id) (dJ (aD (xQ (ys:=SS) (ae g3) (oo T.K2))) λ_=>bJ (aX (i9 (lN (ae g4) (by omega) _ (by simp) rfl (λG4 i z vz d s4 hz hi hvz=>?_))))) (λc2 G4 s4=>?_) (λc2 G4 s4=>?_)
       ·rw [List.getElem?_map,List.getElem?_map,hz] at hi
        cases hi
        exact bg (E:=E0) (R:=yj) (ab (ae hvz) (ab (ae (s4.dat g1)) av)) ⟨z,pat,rfl,hp,rfl⟩
       ·rw [if_pos c2] at ha'
        cases ha'
        exact post _ _ (sG.trans (s1.trans (s2.trans (s3.trans s4)))) (Dat.blI _)
       ·rw [if_neg (by rw [c2];exact Bool.false_ne_true)] at ha'
        refine ⟨_,rfl,RE.use (dC (K:=K) ao (eT (ae (s4.dat g4)))) λv5 G5 s5 q5=>?_⟩
        refine ⟨p,1+((iW cells p m).length:Int),rfl,q5.intE,?_⟩
        have ep:(p:Int)+(1+((iW cells p m).length:Int))=((p+1+m:Nat):Int):=by rw [hb];omega
        have he:=AN hb hlt
        refine ⟨⟨p+1+m,n,some v3,some v4,by rw [← ep];rfl,sG.trans (s1.trans (s2.trans (s3.trans (s4.trans s5)))),ha',he⟩,?_⟩
        show (200 - ((p:Int)+(1+((iW cells p m).length:Int)))).toNat < (200 - (p:Int)).toNat
        omega
      ·rw [if_neg hb] at ha'
       cases ha'
    | _=>cases ha'
  ·rw [decide_eq_false (by omega:¬ (p:Int) < (cells.length:Int))]
   refine qM ?_
   have e:m7 (n+1) pat cells p=some true:=by
    unfold m7
    rw [List.getElem?_eq_none (by omega)]
   rw [e] at ha
   cases ha
   exact post _ _ (sG.trans s1) (Dat.blI _)
 ·intro σ G Q1 Q2 hQ hc
  obtain ⟨v,e,v',e',p,ys,e2,hq,i,j,e3,e4,b,e5,q⟩:=hc
  exact ⟨v,e,v',e',p,ys,e2,hq,i,j,e3,e4,b,e5,hQ _ _ q⟩
noncomputable def uF:D->Bool
 | .str x=>decide (x="pick")
 | _=>false
noncomputable def csD (pat:D):D->Option Bool
 | .tup l=>if (decide (1≤(l.length:Int)) && decide ((l.length:Int)≤12))=false then some false else m7 (l.length+1) pat l 0
 | _=>some false
noncomputable def nX:D->Option Bool
 | .tup [nm,pat,cs]=>if (!jI nm || (uF nm || !rj pat))=true then some false else csD pat cs
 | _=>some false
noncomputable def E2:D->Prop
 | .tup (nm::_)=>B9 nm
 | _=>True
noncomputable def uv (ds:List D) (d:D):Prop:=∃ (x:D) (b:Bool),ds=[x]/\E2 x/\nX x=some b/\d=.bl b
variable {te:TE} {us:TS} {En:iV} {j:Nat} {e:D}
theorem rH {K:PySem.W.Frag} {l:Nat} {f:D} (h:RE K te σ H (.tup [d,e,f])) (q:∀ v w x H',Same H H'->Dat K H' d v->Dat K H' e w->Dat K H' f x->us En (((σ.set i (some v)).set j (some w)).set l (some x)) H') :
  kY (o4 te (xp K 3 (jZ (cU i) (jZ (cU j) (jZ (cU l) yZ))))) us En σ H :=
 h.use λx H1 s1 q1=>by
  obtain ⟨a,vs,e1,hq,hd⟩:=q1.tupE
  obtain ⟨v,w,x,e2,hv,hw,hx⟩:=vH hd
  subst e1 e2
  exact ⟨a,_,rfl,hq,rfl,v,_,rfl,w,_,rfl,x,_,rfl,rfl,q v w x H1 s1 hv hw hx⟩
theorem nF {x:D} (h:∀ y,x≠.tup y):mE x "tuple"=false:=by
 cases x with
 | tup y=>exact absurd rfl (h y)
 | _=>rfl
theorem zW {x:D} (h:∀ a b c,x≠.tup [a,b,c]):nX x=some false:=by
 unfold nX
 split
 ·rename_i a b c;exact absurd rfl (h a b c)
 ·rfl
theorem Dl {x:D} (h:rj x=true):ppD 3 x=true:=by
 unfold rj at h
 rw [Bool.and_eq_true] at h
 exact h.1
theorem zE {x:D} (h:jI x=true):∃ y,x=.str y:=by
 cases x with
 | str y=>exact ⟨y,rfl⟩
 | _=>cases h
theorem tO (T:Txt P w K mg) (LS:FnOk P w K mg base CX0 k T.Jw T.JA ["thing"] (spD K yp)) (Ll:FnOk P w K mg base CX0 k T.Hw T.HB ["thing"] (spD K CA)) (Kl:FnOk P w K mg base CX0 k T.Fy T.Fz ["cells","pattern"] (spD K Cu)):FnOk P w K mg base CX0 (k+1) T.IY T.Je ["thing"] (spD K uv):=by
 refine T.JO.ok sc_is_piece (λvs H Q E h=>?_) (λcdv A outer s H vs Q E hr h=>?_)
 ·obtain ⟨ds,d,hd,⟨x,bb,rfl,_⟩,_⟩:=h;exact hd.length.symm
 have nd:=sc_is_piece.nd
 obtain ⟨ds,d,hd,⟨x,bb,rfl,hok,hpc,rfl⟩,post⟩:=h
 obtain ⟨v0,rfl,h0⟩:=gC hd
 refine ⟨_,(aj (bq (PW.pt (fF (ck (br (aT (eA kL) rfl T.Fd bT (cq (pv 0) (cq (fD (v:=.ty "tuple") rfl T.He d9 rfl) af))) (λ_=>rfl))) (fq (aV nV (aT aU rfl T.Fq bP (ag (pv 0) af)) ak (aY _))))) (au (aI cu)) aR)
 (aj (fE (pv 0) (eE rfl (aZ (aL (i:=1) nd rfl (Or.inl rfl)) (aZ (aL (i:=2) nd rfl (Or.inl rfl)) (aZ (aL (i:=3) nd rfl (Or.inl rfl)) cP)))))
 (aj (bq (PW.pt (fF (ck (br (ay LS hr rfl T.Li T.Kc.kp (wY T) .nil aO (ag (pv 1) af)) (λ_=>rfl))) (fF (aV cF (pv 1) aH (aY _)) (fq (ck (br (ay Ll hr rfl T.Kw T.IK.kp (qv T) .nil aO (ag (pv 2) af)) (λ_=>rfl))))))) (au (aI cu)) aR)
 (aj (bq (PW.pt (fF (ck (br (aT (eA kL) rfl T.Fd bT (cq (pv 3) (cq (fD (v:=.ty "tuple") rfl T.He d9 rfl) af))) (λ_=>rfl))) (fq (ck (oj jr jr ak (aT aU rfl T.Fq bP (ag (pv 3) af)) (bL (v:=.int 12) rfl T.Fm ⟨_,rfl⟩)))))) (au (aI cu)) aR)
 (au (aI (ay Kl hr rfl T.Jj T.Gi.kp (j9 T) .nil aO (ag (pv 3) (ag (pv 2) af))))))))),?_⟩
 by_cases h3:∃ a b c,x=.tup [a,b,c]
 ·obtain ⟨nm,pat,cs,rfl⟩:=h3
  refine aK (K:=K) (b:=false) (RT.as (dJ (b:=false) (c:=false) (RT.as (bJ (aX (cf (ae h0)))) rfl) λ_=>RT.as (aD (lO (eT (ae h0)) ao)) rfl) rfl) (λc=>nomatch c) (λ_ H1 s1=>?_)
  refine rH (K:=K) (d:=nm) (e:=pat) (f:=cs) (ae (s1.dat h0)) λv1 v2 v3 H2 s2 h1 h2 h3=>?_
  have hpc':(if (!jI nm || (uF nm || !rj pat))=true then some false else csD pat cs)=some bb:=hpc
  refine aK (K:=K) (b:=!jI nm || (uF nm || !rj pat)) (dJ (bJ (aX (bg (R:=yp) (ab (ae h1) av) ⟨nm,rfl,hok,rfl⟩))) λc=>dJ ?_ λ_=>bJ (aX (bg (R:=CA) (ab (ae h2) av) ⟨pat,rfl,rfl⟩))) (λc H3 s3=>?_) (λc H3 s3=>?_)
  ·obtain ⟨y,rfl⟩:=zE (fj c)
   exact aD (bo (ae h1) aB)
  ·rw [if_pos c] at hpc'
   cases hpc'
   exact aW (K:=K) (d:=.bl false) cg λv H' s q=>post v H' (s1.trans (s2.trans (s3.trans s))) q
  ·rw [if_neg (by rw [c];exact Bool.false_ne_true)] at hpc'
   rw [Bool.or_eq_false_iff,Bool.or_eq_false_iff] at c
   have hp:=Dl (fj c.2.2)
   have h2:=s3.dat h2
   have h3:=s3.dat h3
   have s13:=s1.trans (s2.trans s3)
   by_cases hc:∃ l,cs=.tup l
   ·obtain ⟨l,rfl⟩:=hc
    have hpc':(if (decide (1≤(l.length:Int)) && decide ((l.length:Int)≤12))=false then some false else m7 (l.length+1) pat l 0)=some bb:=hpc'
    refine aK (K:=K) (b:=!(decide (1≤(l.length:Int)) && decide ((l.length:Int)≤12))) (RT.as (dJ (b:=false) (RT.as (bJ (aX (cf (ae h3)))) rfl) λ_=>bJ (aD (kS (p:=λi j=>decide (i≤j)) (r:=λi j=>decide (i≤j)) ao (eT (ae h3)) λ_=>ao))) (Bool.false_or _)) (λc4 H4 s4=>?_) (λc4 H4 s4=>?_)
    ·rw [if_pos (iC c4)] at hpc'
     cases hpc'
     exact aW (K:=K) (d:=.bl false) cg λv H' s q=>post v H' (s13.trans (s4.trans s)) q
    ·have c5:=fj c4
     rw [if_neg (by rw [c5];exact λz=>nomatch z)] at hpc'
     rw [Bool.and_eq_true] at c5
     have l12:=of_decide_eq_true c5.2
     exact aW (K:=K) (d:=.bl bb) (bg (R:=Cu) (ab (ae (s4.dat h3)) (ab (ae (s4.dat h2)) av)) ⟨l,pat,bb,rfl,hp,by omega,hpc',rfl⟩) λv H' s q=>post v H' (s13.trans (s4.trans s)) q
   ·have hc':∀ y,cs≠.tup y:=λy e=>hc ⟨y,e⟩
    have e:bb=false:=by
     cases cs with
     | tup y=>exact absurd rfl (hc' y)
     | _=>cases hpc';rfl
    refine aK (K:=K) (b:=true) (RT.as (dJ (b:=true) (c:=true) (RT.as (bJ (aX (cf (ae h3)))) (by rw [nF hc'];rfl)) λc=>nomatch c) rfl) (λc4 H4 s4=>?_) (λc=>nomatch c)
    rw [e] at post
    exact aW (K:=K) (d:=.bl false) cg λv H' s q=>post v H' (s13.trans (s4.trans s)) q
 ·have h3':∀ a b c,x≠.tup [a,b,c]:=λa b c e=>h3 ⟨a,b,c,e⟩
  rw [zW h3'] at hpc
  cases hpc
  refine aK (K:=K) (b:=true) ?_ (λc H1 s1=>?_) (λc=>nomatch c)
  ·by_cases ht:∃ l,x=.tup l
   ·obtain ⟨l,rfl⟩:=ht
    refine RT.as (dJ (b:=false) (c:=true) (RT.as (bJ (aX (cf (ae h0)))) rfl) λ_=>RT.as (aD (lO (eT (ae h0)) ao)) ?_) rfl
    have:¬ (l.length:Int)=3:=λe=>by
     match l,e with
     | [a,b,c],_=>exact h3' a b c rfl
     | [],h=>simp at h
     | [_],h=>simp at h
     | [_,_],h=>simp at h
     | _::_::_::_::_,h=>simp at h;omega
    rw [decide_eq_false this]
    rfl
   ·have ht':∀ y,x≠.tup y:=λy e=>ht ⟨y,e⟩
    exact RT.as (dJ (b:=true) (c:=true) (RT.as (bJ (aX (cf (ae h0)))) (by rw [nF ht'];rfl)) λc=>nomatch c) rfl
  ·exact aW (K:=K) (d:=.bl false) cg λv H' s q=>post v H' (s1.trans s) q
variable {E:XK} {tA:TA} {Q:VK}
theorem eF {sp:Sp} {dvs:List V} (h:tA σ H λvs H1=>sp (vs++dvs) H1 Q E):mr sp dvs E tA σ H Q:=h
theorem cQ {Q:List V->Hp->Prop} (h:te σ H λx H1=>tA σ H1 λxs H2=>Q (x::xs) H2):bR te tA σ H Q:=h
inductive Pa where
 | hole (i:Int)
 | gap (i m:Int)
 | slot (i:Int)
 | num (n:Int)
 | two (o:Str) (a b:Pa)
noncomputable def toP:Pa->D
 | .hole i=>.tup [.str "hole",.int i]
 | .gap i m=>.tup [.str "gap",.int i,.int m]
 | .slot i=>.tup [.str "slot",.int i]
 | .num n=>.tup [.str "num",.int n]
 | .two o a b=>.tup [.str o,toP a,toP b]
noncomputable abbrev okB (o:Str):Prop:=o="add"\/o="sub"\/o="mul"\/o="less"
noncomputable def gZ:Pa->Prop
 | .num n=>0≤n/\n≤9999
 | .two o a b=>okB o/\gZ a/\gZ b
 | _=>True
noncomputable def cn:Pa->Nat
 | .two _ a b=>max (cn a) (cn b)+1
 | _=>1
theorem lq (p:Pa):1≤cn p:=by cases p <;> simp [cn]
noncomputable abbrev Fnd:Type:=List Tr × List Int × List Int
noncomputable def qA (f g:Fnd):Fnd:=(f.1++g.1,f.2.1++g.2.1,f.2.2++g.2.2)
noncomputable def bC:Pa->Tr->Option Fnd
 | .hole _,t=>some ([t],[],[])
 | .gap _ m,.num n=>if n≤m then some ([],[n],[]) else none
 | .gap _ _,_=>none
 | .slot _,.arg k=>some ([],[],[k])
 | .slot _,_=>none
 | .num n,.num m=>if m=n then some ([],[],[]) else none
 | .num _,_=>none
 | .two o a b,.two o' x y=>if o'=o then (match bC a x,bC b y with
  | some f,some g=>some (qA f g)
  | _,_=>none) else none
 | .two _ _ _,_=>none
noncomputable def EY:Pa->Bool
 | .hole _=>true
 | .gap _ _=>true
 | .slot _=>true
 | _=>false
theorem zj (t:Tr) (ht:okX t):∃ kd r,toD t=.tup (.str kd::r)/\(kd="num"↔∃ n,t=.num n)/\(kd="arg"↔∃ n,t=.arg n):=by
 cases t with
 | num n=>exact ⟨_,_,rfl,⟨λ_=>⟨n,rfl⟩,λ_=>rfl⟩,⟨λe=>absurd e (by decide +kernel),λ⟨m,e⟩=>nomatch e⟩⟩
 | arg n=>exact ⟨_,_,rfl,⟨λe=>absurd e (by decide +kernel),λ⟨m,e⟩=>nomatch e⟩,⟨λ_=>⟨n,rfl⟩,λ_=>rfl⟩⟩
 | two o a b =>
  have h:o="add"\/o="sub"\/o="mul"\/o="less":=ht.1
  refine ⟨_,_,rfl,⟨λe=>?_,λ⟨m,e⟩=>nomatch e⟩,⟨λe=>?_,λ⟨m,e⟩=>nomatch e⟩⟩
  ·subst e;exact absurd h (by decide +kernel)
  ·subst e;exact absurd h (by decide +kernel)
 | pick a b c=>exact ⟨_,_,rfl,⟨λe=>absurd e (by decide +kernel),λ⟨m,e⟩=>nomatch e⟩,⟨λe=>absurd e (by decide +kernel),λ⟨m,e⟩=>nomatch e⟩⟩
 | call n=>exact ⟨_,_,rfl,⟨λe=>absurd e (by decide +kernel),λ⟨m,e⟩=>nomatch e⟩,⟨λe=>absurd e (by decide +kernel),λ⟨m,e⟩=>nomatch e⟩⟩
noncomputable def ky (ds:List D) (d:D):Prop:=∃ p t,ds=[toP p,toD t]/\EY p=true/\okX t/\d=.bl (bC p t).isSome
theorem sR {i m:Int} (h:∀ n,t≠.num n):bC (.gap i m) t=none:=by
 cases t with
 | num n=>exact absurd rfl (h n)
 | _=>rfl
theorem qc {i:Int} (h:∀ n,t≠.arg n):bC (.slot i) t=none:=by
 cases t with
 | arg n=>exact absurd rfl (h n)
 | _=>rfl
theorem lI (T:Txt P w K mg)  : FnOk P w K mg base CX0 (k+1) T.Gm T.Gn ["mark","tree"] (spD K ky):=by
 refine T.Hd.ok sc_may_stand_for (λvs H Q E h=>?_) (λcdv A outer s H vs Q E hr h=>?_)
 ·obtain ⟨ds,d,hd,⟨p,t,rfl,_⟩,_⟩:=h;exact hd.length.symm
 have nd:=sc_may_stand_for.nd
 obtain ⟨ds,d,hd,⟨p,t,rfl,hm,ht,rfl⟩,post⟩:=h
 obtain ⟨v0,v1,rfl,h0,h1⟩:=gk hd
 refine ⟨_,(aj (bq (aV cF (aN aS (pv 0) ak (λ_ _=>rfl)) aH (aY _)) (au (aI (gz (cA cF (aN aS (pv 1) ak (λ_ _=>rfl)) aH (aY _)) (fT (cA jr (aN aS (pv 1) ak (λ_ _=>rfl)) (aN aS (pv 0) ak (λ_ _=>rfl)) (aY _)))))) aR)
 (au (aI (wq (cA cF (aN aS (pv 0) ak (λ_ _=>rfl)) aH (aY _)) (fT (cA cF (aN aS (pv 1) ak (λ_ _=>rfl)) aH (aY _))))))),?_⟩
 obtain ⟨kd,r,ek,hnum,harg⟩:=zj t ht
 have h1':Dat K H (.tup (.str kd::r)) v1:=by rw [← ek];exact h1
 cases p with
 | hole i =>
  have h0:Dat K H (.tup [.str "hole",.int i]) v0:=h0
  refine aK (K:=K) (b:=false) (RT.as (aD (bo (aQ (k:=0) (ae h0) ao rfl) aB)) (decide_eq_false (by decide +kernel))) (λc=>nomatch c) (λ_ H1 s1=>?_)
  exact aW (K:=K) (d:=.bl true) (RE.as (ue (b:=true) (c:=true) (RE.as (bo (aQ (k:=0) (ae (s1.dat h0)) ao rfl) aB) (congrArg D.bl (decide_eq_true rfl))) λc=>nomatch c) rfl) λv H' s q=>post v H' (s1.trans s) q
 | gap i m =>
  have h0:Dat K H (.tup [.str "gap",.int i,.int m]) v0:=h0
  refine aK (K:=K) (b:=true) (RT.as (aD (bo (aQ (k:=0) (ae h0) ao rfl) aB)) (decide_eq_true rfl)) (λ_ H1 s1=>?_) (λc=>nomatch c)
  by_cases hn:∃ n,t=.num n
  ·obtain ⟨n,rfl⟩:=hn
   have h1:Dat K H (.tup [.str "num",.int n]) v1:=h1
   refine aW (K:=K) (d:=.bl (decide (n≤m))) (RE.as (cR (b:=true) (RE.as (bo (aQ (k:=0) (ae (s1.dat h1)) ao rfl) aB) (congrArg D.bl (decide_eq_true rfl))) λ_=>eR (p:=λi j=>decide (i≤j)) (aQ (k:=1) (ae (s1.dat h1)) ao rfl) (aQ (k:=2) (ae (s1.dat h0)) ao rfl)) rfl) λv H' s q=>post v H' (s1.trans s) ?_
   have e:(bC (.gap i m) (.num n)).isSome=decide (n≤m):=by
    show (if n≤m then some _ else none).isSome=_
    by_cases z:n≤m
    ·rw [if_pos z,decide_eq_true z];rfl
    ·rw [if_neg z,decide_eq_false z];rfl
   rw [e]
   exact q
  ·refine aW (K:=K) (d:=.bl false) (RE.as (cR (b:=false) (c:=true) (RE.as (bo (aQ (k:=0) (ae (s1.dat h1')) ao rfl) aB) (congrArg D.bl (decide_eq_false (λe=>hn (hnum.mp e))))) λc=>nomatch c) rfl) λv H' s q=>post v H' (s1.trans s) ?_
   rw [sR λn e=>hn ⟨n,e⟩]
   exact q
 | slot i =>
  have h0:Dat K H (.tup [.str "slot",.int i]) v0:=h0
  refine aK (K:=K) (b:=false) (RT.as (aD (bo (aQ (k:=0) (ae h0) ao rfl) aB)) (decide_eq_false (by decide +kernel))) (λc=>nomatch c) (λ_ H1 s1=>?_)
  refine aW (K:=K) (d:=.bl (decide (kd="arg"))) (RE.as (ue (b:=false) (RE.as (bo (aQ (k:=0) (ae (s1.dat h0)) ao rfl) aB) (congrArg D.bl (decide_eq_false (by decide +kernel)))) λ_=>bo (aQ (k:=0) (ae (s1.dat h1')) ao rfl) aB) (congrArg D.bl (Bool.false_or _))) λv H' s q=>post v H' (s1.trans s) ?_
  by_cases ha:∃ n,t=.arg n
  ·rw [decide_eq_true (harg.mpr ha)] at q
   obtain ⟨n,rfl⟩:=ha
   exact q
  ·rw [decide_eq_false (λe=>ha (harg.mp e))] at q
   rw [qc λn e=>ha ⟨n,e⟩]
   exact q
 | num n=>cases hm
 | two o a b=>cases hm
noncomputable def j6 (K:PySem.W.Frag) (o:Addr->Addr->Addr->HO) (n:Nat):Sp:=λvs H Q _=>∃ (p:Pa) (t:Tr) (v0 v1:V) (f l0 l1 l2:Addr) (a b c:List V),vs=[v0,v1,.ref f]/\gZ p/\okX t/\aE t≤8/\cn p≤n/\n≤3/\Dat K H (toP p) v0/\Dat K H (toD t) v1 /\
 H f=some (o l0 l1 l2)/\f≠l0/\f≠l1/\f≠l2/\Tri l0 l1 l2 H a b c/\a.length+2 ^ n≤100/\b.length+2 ^ n≤100/\c.length+2 ^ n≤100 /\
 ∀ (H':Hp) (a' b' c':List V),But3 l0 l1 l2 H H'->Tri l0 l1 l2 H' (a++a') (b++b') (c++c')->a'.length≤2 ^ n->b'.length≤2 ^ n->c'.length≤2 ^ n ->
  (∀ fd:Fnd,bC p t=some fd->Dats K H' (fd.1.map toD) a'/\Dats K H' (fd.2.1.map D.int) b'/\Dats K H' (fd.2.2.map D.int) c')->Q (.bl (bC p t).isSome) H'
noncomputable def oD (l0 l1 l2:Addr):HO:=.dK [(Sum.inr "hole",.ref l0),(Sum.inr "gap",.ref l1),(Sum.inr "slot",.ref l2)]
theorem we (l0 l1 l2:Addr):kr ([(Sum.inr "hole",V.ref l0),(Sum.inr "gap",.ref l1),(Sum.inr "slot",.ref l2)]:List (Key × V)) (Sum.inr "hole")=some (.ref l0):=rfl
theorem zJ (l0 l1 l2:Addr):kr ([(Sum.inr "hole",V.ref l0),(Sum.inr "gap",.ref l1),(Sum.inr "slot",.ref l2)]:List (Key × V)) (Sum.inr "gap")=some (.ref l1):=rfl
theorem wg (l0 l1 l2:Addr):kr ([(Sum.inr "hole",V.ref l0),(Sum.inr "gap",.ref l1),(Sum.inr "slot",.ref l2)]:List (Key × V)) (Sum.inr "slot")=some (.ref l2):=rfl
theorem y0 {f:Addr} {kvs:List (Key × V)} {x:Str} {v:V} (h:H f=some (.dK kvs)) (e:kr kvs (Sum.inr x)=some v):DGet H f (.str x) (some v):=by
 have g:=DGet.k (k:=Sum.inr x) h
 rw [e] at g
 exact g
theorem oE {k:Str} (h:k="hole"\/k="gap"\/k="slot"):KTD.inKeys k TM=true:=by
 rcases h with rfl | rfl | rfl <;> decide +kernel
variable {o:Str}
theorem AM (h:okB o):KTD.inKeys o TM=false/\¬ o="num":=by
 rcases h with rfl | rfl | rfl | rfl <;> decide +kernel
theorem zX (n:Nat):1≤2 ^ n:=Nat.one_le_iff_ne_zero.mpr (by simp)
theorem lL {α:Type} {x y:List α} (h1:x.length≤2 ^ n) (h2:y.length≤2 ^ n):(x++y).length≤2 ^ (n+1):=by
 rw [List.length_append,Nat.pow_succ];omega
variable {a:Pa} {y:Tr} {fd:Fnd}
theorem dm {o':Str} {b:Pa} (h:bC (.two o a b) (.two o' x y)=some fd):o'=o/\∃ f g,bC a x=some f/\bC b y=some g/\fd=qA f g:=by
 unfold bC at h
 by_cases e:o'=o
 ·rw [if_pos e] at h
  cases h1:bC a x with
  | none=>rw [h1] at h;cases h
  | some f =>
   cases h2:bC b y with
   | none=>rw [h1,h2] at h;cases h
   | some g =>
    rw [h1,h2] at h
    cases h
    exact ⟨e,f,g,rfl,rfl,rfl⟩
 ·rw [if_neg e] at h;cases h
theorem ie {b:Pa} (h:bC a x=none):bC (.two o a b) (.two o x y)=none:=by
 unfold bC
 rw [if_pos rfl,h]
theorem nz {b:Pa} {f:Fnd} (h:bC a x=some f):(bC (.two o a b) (.two o x y)).isSome=(bC b y).isSome:=by
 show (if o=o then _ else none:Option Fnd).isSome=_
 rw [if_pos rfl,h]
 cases bC b y <;> rfl
variable {kd:Str}
theorem sN {b:Pa} (hp:okB o) (ek:toD t=.tup (.str kd::r)) (h:¬ kd=o):bC (.two o a b) t=none:=by
 cases t with
 | two o' x y =>
  unfold bC
  rw [if_neg]
  intro e
  apply h
  have z:toD (.two o' x y)=.tup [.str o',toD x,toD y]:=rfl
  rw [z] at ek
  injection ek with ek
  injection ek with ek _
  injection ek with ek
  rw [← ek,e]
 | _=>rfl
theorem sU (ho:okB o) (ek:toD t=.tup (.str kd::r)) (h:kd=o):∃ x y,t=.two o x y:=by
 subst h
 cases t with
 | two o' x y =>
  have z:toD (.two o' x y)=.tup [.str o',toD x,toD y]:=rfl
  rw [z] at ek
  injection ek with ek
  injection ek with ek _
  injection ek with ek
  subst ek
  exact ⟨x,y,rfl⟩
 | num n =>
  have z:toD (.num n)=.tup [.str "num",.int n]:=rfl
  rw [z] at ek
  injection ek with ek
  injection ek with ek _
  injection ek with ek
  subst ek
  exact absurd ho (by decide +kernel)
 | arg n =>
  have z:toD (.arg n)=.tup [.str "arg",.int n]:=rfl
  rw [z] at ek
  injection ek with ek
  injection ek with ek _
  injection ek with ek
  subst ek
  exact absurd ho (by decide +kernel)
 | call n =>
  have z:toD (.call n)=.tup [.str "call",.int n]:=rfl
  rw [z] at ek
  injection ek with ek
  injection ek with ek _
  injection ek with ek
  subst ek
  exact absurd ho (by decide +kernel)
 | pick x y u =>
  have z:toD (.pick x y u)=.tup [.str "pick",toD x,toD y,toD u]:=rfl
  rw [z] at ek
  injection ek with ek
  injection ek with ek _
  injection ek with ek
  subst ek
  exact absurd ho (by decide +kernel)
theorem wd {o:Addr->Addr->Addr->HO} (vs:List V) (H:Hp) (Q:VK) (E:XK):¬ j6 K o 0 vs H Q E:=λzq=>by
 obtain ⟨p,_,_,_,_,_,_,_,_,_,_,_,_,_,_,h,_⟩:=zq
 have:=lq p
 omega
theorem uS (T:Txt P w K mg) (KS:FnOk P w K mg base CX0 k T.Gm T.Gn ["mark","tree"] (spD K ky)) (J9:FnOk P w K mg base CX0 k T.HP T.HR ["pattern","tree","found"] (j6 K oD n)):FnOk P w K mg base CX0 (k+1) T.HP T.HR ["pattern","tree","found"] (j6 K oD (n+1)):=by
 refine T.IU.ok sc_matches (λvs H Q E h=>?_) (λcdv A outer s H vs Q E hr h=>?_)
 ·obtain ⟨p,t,v0,v1,f,l0,l1,l2,a,b,c,rfl,_⟩:=h;rfl
 have nd:=sc_matches.nd
 obtain ⟨p,t,v0,v1,f,l0,l1,l2,a,b,c,rfl,okp,okt,dpt,hn,hn3,h0,h1,hf,f0,f1,f2,tri,la,lb,lc,post⟩:=h
 refine ⟨_,(aj (bj (i:=3) nd rfl (Or.inl rfl) (aN aS (pv 0) ak (λ_ _=>rfl)))
 (aj (bq (aV kR (pv 3) (bL (v:=.ref T.Fx) rfl T.Fp rfl) (by with_unfolding_all rfl)) (aj (bq (ck (br (ay KS hr rfl T.JX T.Hd.kp (my T) .nil aO (ag (pv 0) (ag (pv 1) af))) (λ_=>rfl))) (au (aI cu)) aR)
 (aj (bE (dq PySem.F.plainAttrs_list PySem.F.slot_list_append PySem.F.type_list_append bQ (mO (vV hr) (pv 2) (pv 3) (λ_ _=>rfl)) (ag (nW (aV cF (pv 3) aH (aY _)) (pv 1) (aN aS (pv 1) ak (λ_ _=>rfl))) af)))
 (au (aI cu)))) aR)
 (aj (bq (aV nV (aN aS (pv 1) ak (λ_ _=>rfl)) (pv 3) (aY _)) (au (aI cu)) aR)
 (aj (bq (aV cF (pv 3) aH (aY _)) (au (aI (cA cF (aN aS (pv 1) ak (λ_ _=>rfl)) (aN aS (pv 0) ak (λ_ _=>rfl)) (aY _)))) aR)
 (au (aI (gz (ay J9 hr rfl T.Kg T.IU.kp (lg T) .nil aO (ag (aN aS (pv 0) ak (λ_ _=>rfl)) (ag (aN aS (pv 1) ak (λ_ _=>rfl)) (ag (pv 2) af)))) (fT (ay J9 hr rfl T.Kg T.IU.kp (lg T) .nil aO (ag (aN aS (pv 0) ak (λ_ _=>rfl)) (ag (aN aS (pv 1) ak (λ_ _=>rfl)) (ag (pv 2) af)))))))))))),?_⟩
 obtain ⟨kd,r,ek,hnum,harg⟩:=zj t okt
 have hf':∀ {G:Hp},But3 l0 l1 l2 H G->G f=some (oD l0 l1 l2):=λbb=>bb _ _ f0 f1 f2 hf
 have p1:=zX (n+1)
 have p2:2 ^ (n+1)=2 * 2 ^ n:=by rw [Nat.pow_succ,Nat.mul_comm]
 cases p with
 | hole i =>
  have h0:Dat K H (.tup [.str "hole",.int i]) v0:=h0
  refine dt (K:=K) (d:=.str "hole") (aQ (k:=0) (ae h0) ao rfl) λv3 H1 s1 q3=>?_
  have ev:=q3.strE
  subst ev
  refine aK (K:=K) (b:=true) (RT.as (aD (gn (ae q3) T.E9)) (oE (.inl rfl))) (λ_ H2 s2=>?_) (λc=>nomatch c)
  have s12:=s1.trans s2
  refine aK (K:=K) (b:=!true) (bJ (aX (bg (R:=ky) (d:=.bl true) (ab (ae (s12.dat h0)) (ab (ae (s12.dat h1)) av)) ⟨.hole i,t,rfl,rfl,okt,rfl⟩))) (λc=>nomatch c) (λ_ H3 s3=>?_)
  have s13:=s12.trans s3
  refine cJ ⟨_,rfl,_,rfl,f,.ref l0,rfl,y0 (s13 _ _ hf) (we l0 l1 l2),.inl ⟨rfl,_,SqL.of (s13 _ _ tri.h0)⟩,?_⟩
  refine RE.use (K:=K) (d:=toD t) (wA (b:=true) (RT.as (aD (K:=K) (bo (ae (Dat.strI "hole")) aB)) (decide_eq_true rfl)) (λ_=>ae (s13.dat h1)) (λc=>nomatch c)) λy H4 s4 q4=>?_
  have s14:=s13.trans s4
  have tri4:=tri.same s14
  refine ⟨l0,a,y,rfl,rfl,tri4.h0,cx (by omega),?_⟩
  obtain ⟨t5,b5⟩:=tri4.p0 (v:=y)
  refine post _ [y] [] [] (s14.but3.trans b5) t5 (by simpa using p1) (by simp) (by simp) λfd e=>?_
  cases e
  exact ⟨Dats.cons (Dat.mono (b5.grow tri4 t5) _ q4) Dats.nil,Dats.nil,Dats.nil⟩
 | gap i m =>
  have h0:Dat K H (.tup [.str "gap",.int i,.int m]) v0:=h0
  refine dt (K:=K) (d:=.str "gap") (aQ (k:=0) (ae h0) ao rfl) λv3 H1 s1 q3=>?_
  have ev:=q3.strE
  subst ev
  refine aK (K:=K) (b:=true) (RT.as (aD (gn (ae q3) T.E9)) (oE (.inr (.inl rfl)))) (λ_ H2 s2=>?_) (λc=>nomatch c)
  have s12:=s1.trans s2
  refine aK (K:=K) (b:=!(bC (.gap i m) t).isSome) (bJ (aX (bg (R:=ky) (ab (ae (s12.dat h0)) (ab (ae (s12.dat h1)) av)) ⟨.gap i m,t,rfl,rfl,okt,rfl⟩))) (λcN H3 s3=>?_) (λcS H3 s3=>?_)
  ·have s13:=s12.trans s3
   have e:(bC (.gap i m) t).isSome=false:=iC cN
   refine aW (K:=K) (d:=.bl false) cg λv H' s qq=>?_
   rw [qq.blE,← e]
   have s14:=s13.trans s
   exact post _ [] [] [] s14.but3 (tri.same s14).nil (by simp) (by simp) (by simp) λfd z=>by rw [z] at e;cases e
  ·have s13:=s12.trans s3
   obtain ⟨nn,rfl⟩:∃ nn,t=.num nn:=by
    have cS':=fj cS
    cases t with
    | num nn=>exact ⟨nn,rfl⟩
    | _=>cases cS'
   have h1:Dat K H (.tup [.str "num",.int nn]) v1:=h1
   refine cJ ⟨_,rfl,_,rfl,f,.ref l1,rfl,y0 (s13 _ _ hf) (zJ l0 l1 l2),.inl ⟨rfl,_,SqL.of (s13 _ _ tri.h1)⟩,?_⟩
   refine RE.use (K:=K) (d:=.int nn) (wA (b:=false) (RT.as (aD (K:=K) (bo (ae (Dat.strI "gap")) aB)) (decide_eq_false (by decide +kernel))) (λc=>nomatch c) (λ_=>aQ (k:=1) (ae (s13.dat h1)) ao rfl)) λy H4 s4 q4=>?_
   have s14:=s13.trans s4
   have tri4:=tri.same s14
   refine ⟨l1,b,y,rfl,rfl,tri4.h1,cx (by omega),?_⟩
   obtain ⟨t5,b5⟩:=tri4.p1 (v:=y)
   have e:=fj cS
   show Q (.bl true) _
   rw [← e]
   refine post _ [] [y] [] (s14.but3.trans b5) t5 (by simp) (by simpa using p1) (by simp) λfd z=>?_
   have z':(if nn≤m then some ([],[nn],[]) else none:Option Fnd)=some fd:=z
   by_cases hm:nn≤m
   ·rw [if_pos hm] at z'
    cases z'
    exact ⟨Dats.nil,Dats.cons (Dat.mono (b5.grow tri4 t5) _ q4) Dats.nil,Dats.nil⟩
   ·rw [if_neg hm] at z'
    cases z'
 | slot i =>
  have h0:Dat K H (.tup [.str "slot",.int i]) v0:=h0
  refine dt (K:=K) (d:=.str "slot") (aQ (k:=0) (ae h0) ao rfl) λv3 H1 s1 q3=>?_
  have ev:=q3.strE
  subst ev
  refine aK (K:=K) (b:=true) (RT.as (aD (gn (ae q3) T.E9)) (oE (.inr (.inr rfl)))) (λ_ H2 s2=>?_) (λc=>nomatch c)
  have s12:=s1.trans s2
  refine aK (K:=K) (b:=!(bC (.slot i) t).isSome) (bJ (aX (bg (R:=ky) (ab (ae (s12.dat h0)) (ab (ae (s12.dat h1)) av)) ⟨.slot i,t,rfl,rfl,okt,rfl⟩))) (λcN H3 s3=>?_) (λcS H3 s3=>?_)
  ·have s13:=s12.trans s3
   have e:(bC (.slot i) t).isSome=false:=iC cN
   refine aW (K:=K) (d:=.bl false) cg λv H' s qq=>?_
   rw [qq.blE,← e]
   have s14:=s13.trans s
   exact post _ [] [] [] s14.but3 (tri.same s14).nil (by simp) (by simp) (by simp) λfd z=>by rw [z] at e;cases e
  ·have s13:=s12.trans s3
   obtain ⟨nn,rfl⟩:∃ nn,t=.arg nn:=by
    have cS':=fj cS
    cases t with
    | arg nn=>exact ⟨nn,rfl⟩
    | _=>cases cS'
   have h1:Dat K H (.tup [.str "arg",.int nn]) v1:=h1
   refine cJ ⟨_,rfl,_,rfl,f,.ref l2,rfl,y0 (s13 _ _ hf) (wg l0 l1 l2),.inl ⟨rfl,_,SqL.of (s13 _ _ tri.h2)⟩,?_⟩
   refine RE.use (K:=K) (d:=.int nn) (wA (b:=false) (RT.as (aD (K:=K) (bo (ae (Dat.strI "slot")) aB)) (decide_eq_false (by decide +kernel))) (λc=>nomatch c) (λ_=>aQ (k:=1) (ae (s13.dat h1)) ao rfl)) λy H4 s4 q4=>?_
   have s14:=s13.trans s4
   have tri4:=tri.same s14
   refine ⟨l2,c,y,rfl,rfl,tri4.h2,cx (by omega),?_⟩
   obtain ⟨t5,b5⟩:=tri4.p2 (v:=y)
   have e:=fj cS
   show Q (.bl true) _
   rw [← e]
   refine post _ [] [] [y] (s14.but3.trans b5) t5 (by simp) (by simp) (by simpa using p1) λfd z=>?_
   cases z
   exact ⟨Dats.nil,Dats.nil,Dats.cons (Dat.mono (b5.grow tri4 t5) _ q4) Dats.nil⟩
 | num m =>
  have h0:Dat K H (.tup [.str "num",.int m]) v0:=h0
  have h1':Dat K H (.tup (.str kd::r)) v1:=by rw [← ek];exact h1
  refine dt (K:=K) (d:=.str "num") (aQ (k:=0) (ae h0) ao rfl) λv3 H1 s1 q3=>?_
  refine aK (K:=K) (b:=false) (RT.as (aD (gn (ae q3) T.E9)) (by decide +kernel)) (λc=>nomatch c) (λ_ H2 s2=>?_)
  have s12:=s1.trans s2
  refine aK (K:=K) (b:=!decide (kd="num")) (aD (vc (aQ (k:=0) (ae (s12.dat h1')) ao rfl) (ae (s2.dat q3)))) (λcN H3 s3=>?_) (λcS H3 s3=>?_)
  ·have s13:=s12.trans s3
   have hne:¬ kd="num":=of_decide_eq_false (iC cN)
   have e:bC (.num m) t=none:=by
    cases t with
    | num n=>exact absurd (hnum.mpr ⟨n,rfl⟩) hne
    | _=>rfl
   refine aW (K:=K) (d:=.bl false) cg λv H' s qq=>?_
   rw [qq.blE]
   have s14:=s13.trans s
   have pz:=post _ [] [] [] s14.but3 (tri.same s14).nil (by simp) (by simp) (by simp) λfd z=>by rw [e] at z;cases z
   rw [e] at pz
   exact pz
  ·have s13:=s12.trans s3
   obtain ⟨nn,rfl⟩:=hnum.mp (of_decide_eq_true (fj cS))
   have h1:Dat K H (.tup [.str "num",.int nn]) v1:=h1
   refine aK (K:=K) (b:=true) (RT.as (aD (bo (ae ((s2.trans s3).dat q3)) aB)) (decide_eq_true rfl)) (λ_ H4 s4=>?_) (λc=>nomatch c)
   have s14:=s13.trans s4
   refine aW (K:=K) (d:=.bl (decide (nn=m))) (rA (aQ (k:=1) (ae (s14.dat h1)) ao rfl) (aQ (k:=1) (ae (s14.dat h0)) ao rfl)) λv H' s qq=>?_
   rw [qq.blE]
   have s15:=s14.trans s
   have pz:=post _ [] [] [] s15.but3 (tri.same s15).nil (by simp) (by simp) (by simp) λfd z=>by
    have z':(if nn=m then some ([],[],[]) else none:Option Fnd)=some fd:=z
    by_cases hm:nn=m
    ·rw [if_pos hm] at z'
     cases z'
     exact ⟨Dats.nil,Dats.nil,Dats.nil⟩
    ·rw [if_neg hm] at z'
     cases z'
   have e:(bC (.num m) (.num nn)).isSome=decide (nn=m):=by
    show (if nn=m then some _ else none:Option Fnd).isSome=_
    by_cases hm:nn=m
    ·rw [if_pos hm,decide_eq_true hm];rfl
    ·rw [if_neg hm,decide_eq_false hm];rfl
   rw [e] at pz
   exact pz
 | two o pa pb =>
  have h0:Dat K H (.tup [.str o,toP pa,toP pb]) v0:=h0
  have h1':Dat K H (.tup (.str kd::r)) v1:=by rw [← ek];exact h1
  obtain ⟨b1,b2⟩:=AM okp.1
  refine dt (K:=K) (d:=.str o) (aQ (k:=0) (ae h0) ao rfl) λv3 H1 s1 q3=>?_
  refine aK (K:=K) (b:=false) (RT.as (aD (gn (ae q3) T.E9)) b1) (λc=>nomatch c) (λ_ H2 s2=>?_)
  have s12:=s1.trans s2
  refine aK (K:=K) (b:=!decide (kd=o)) (aD (vc (aQ (k:=0) (ae (s12.dat h1')) ao rfl) (ae (s2.dat q3)))) (λcN H3 s3=>?_) (λcS H3 s3=>?_)
  ·have s13:=s12.trans s3
   have e:=sN (a:=pa) (b:=pb) okp.1 ek (of_decide_eq_false (iC cN))
   refine aW (K:=K) (d:=.bl false) cg λv H' s qq=>?_
   rw [qq.blE]
   have s14:=s13.trans s
   have pz:=post _ [] [] [] s14.but3 (tri.same s14).nil (by simp) (by simp) (by simp) λfd z=>by rw [e] at z;cases z
   rw [e] at pz
   exact pz
  ·have s13:=s12.trans s3
   obtain ⟨x,y,rfl⟩:=sU okp.1 ek (of_decide_eq_true (fj cS))
   have h1:Dat K H (.tup [.str o,toD x,toD y]) v1:=h1
   refine aK (K:=K) (b:=false) (RT.as (aD (bo (ae ((s2.trans s3).dat q3)) aB)) (decide_eq_false b2)) (λc=>nomatch c) (λ_ H4 s4=>?_)
   have s14:=s13.trans s4
   have dpa:cn pa≤n:=by simp only [cn] at hn;omega
   have dpb:cn pb≤n:=by simp only [cn] at hn;omega
   have dpx:aE x≤8:=by simp only [aE] at dpt;omega
   have dpy:aE y≤8:=by simp only [aE] at dpt;omega
   refine RE.use (K:=K) (d:=toP pa) (aQ (k:=1) (ae (s14.dat h0)) ao rfl) λw0 H5 s5 q5=>?_
   refine RE.use (K:=K) (d:=toD x) (aQ (k:=1) (ae ((s14.trans s5).dat h1)) ao rfl) λw1 H6 s6 q6=>?_
   have s16:=s14.trans (s5.trans s6)
   have tri6:=tri.same s16
   refine ⟨_,rfl,pa,x,w0,w1,f,l0,l1,l2,a,b,c,rfl,okp.2.1,okt.2.1,dpx,dpa,by omega,s6.dat q5,q6,s16 _ _ hf,f0,f1,f2,tri6,by omega,by omega,by omega,λH7 a1 b1' c1 bb7 tri7 ka kb kc d7=>?_⟩
   refine ⟨_,rfl,?_⟩
   have n8:2 ^ n≤8:=by
    have:n≤3:=by omega
    match n,this with
    | 0,_=>decide
    | 1,_=>decide
    | 2,_=>decide
    | 3,_=>decide
   have g67:cW K H6 H7:=bb7.grow tri6 tri7
   have bb17:But3 l0 l1 l2 H H7:=s16.but3.trans bb7
   cases hfa:bC pa x with
   | none =>
    refine qM ?_
    have pz:=post H7 a1 b1' c1 bb17 tri7 (Nat.le_trans ka (Nat.pow_le_pow_right (by decide) (by omega))) (Nat.le_trans kb (Nat.pow_le_pow_right (by decide) (by omega))) (Nat.le_trans kc (Nat.pow_le_pow_right (by decide) (by omega))) λfd z=>by rw [ie hfa] at z;cases z
    rw [ie hfa] at pz
    exact pz
   | some fa =>
    refine sY ?_
    obtain ⟨da,db,dc⟩:=d7 fa hfa
    refine eF (cQ (RE.use (K:=K) (d:=toP pb) (aQ (k:=2) (ae (Dat.mono g67 _ (s16.dat h0))) ao rfl) λw2 H8 s8 q8=>?_))
    refine cQ (RE.use (K:=K) (d:=toD y) (aQ (k:=2) (ae (s8.dat (Dat.mono g67 _ (s16.dat h1)))) ao rfl) λw3 H9 s9 q9=>?_)
    have s79:=s8.trans s9
    have tri9:=tri7.same s79
    refine ⟨_,rfl,pb,y,w2,w3,f,l0,l1,l2,a++a1,b++b1',c++c1,rfl,okp.2.2,okt.2.2,dpy,dpb,by omega,s9.dat q8,q9,s79 _ _ (hf' bb17),f0,f1,f2,tri9,by rw [List.length_append];omega,by rw [List.length_append];omega,by rw [List.length_append];omega,λH10 a2 b2' c2 bb10 tri10 ma mb mc d10=>?_⟩
    have g:=bb10.grow (K:=K) tri9 tri10
    rw [List.append_assoc,List.append_assoc,List.append_assoc] at tri10
    have pz:=post H10 (a1++a2) (b1'++b2') (c1++c2) (bb17.trans (s79.but3.trans bb10)) tri10 (lL ka ma) (lL kb mb) (lL kc mc) λfd z=>by
     obtain ⟨_,f',g',e1,e2,e3⟩:=dm z
     rw [hfa] at e1
     cases e1
     obtain ⟨da2,db2,dc2⟩:=d10 g' e2
     subst e3
     refine ⟨?_,?_,?_⟩
     ·show Dats K H10 ((fa.1++g'.1).map toD) _
      rw [List.map_append]
      exact Dats.append (Dats.mono g _ (s79.dats da)) da2
     ·show Dats K H10 ((fa.2.1++g'.2.1).map D.int) _
      rw [List.map_append]
      exact Dats.append (Dats.mono g _ (s79.dats db)) db2
     ·show Dats K H10 ((fa.2.2++g'.2.2).map D.int) _
      rw [List.map_append]
      exact Dats.append (Dats.mono g _ (s79.dats dc)) dc2
    rw [nz hfa] at pz
    exact pz
noncomputable def fdD:Option Fnd->D
 | none=>.non
 | some f=>.tup [.tup (f.1.map toD),.tup (f.2.1.map D.int),.tup (f.2.2.map D.int)]
noncomputable def mZ (ds:List D) (d:D):Prop:=∃ nm p cs t,ds=[.tup [nm,toP p,cs],toD t]/\gZ p/\okX t/\aE t≤8/\cn p≤3/\d=fdD (bC p t)
theorem Dc (x y z:V):lE [] ([(Sum.inr (Str.ofString "hole"),x),(Sum.inr (Str.ofString "gap"),y),(Sum.inr (Str.ofString "slot"),z)]:List (Key × V))=[(Sum.inr (Str.ofString "hole"),x),(Sum.inr (Str.ofString "gap"),y),(Sum.inr (Str.ofString "slot"),z)]:=rfl
theorem Eo {K:PySem.W.Frag} {ts:TS} (h:te σ H λx H'=>∃ k,wU K x H' k/\if (!k)=true then ts { En with nx:=us En } σ H' else us En σ H'):kY (BV (DH (λσ H Q=>te σ H λx H'=>∃ k,wU K x H' k/\Q k H')) ts wK) us En σ H:=h
theorem tN (T:Txt P w K mg) (J9:FnOk P w K mg base CX0 k T.HP T.HR ["pattern","tree","found"] (j6 K oD 3)):FnOk P w K mg base CX0 (k+1) T.HN T.HQ ["piece","tree"] (spD K mZ):=by
 refine T.Jh.ok sc_found_in (λvs H Q E h=>?_) (λcdv A outer s H vs Q E hr h=>?_)
 ·obtain ⟨ds,d,hd,⟨nm,p,cs,t,rfl,_⟩,_⟩:=h;exact hd.length.symm
 have nd:=sc_found_in.nd
 obtain ⟨ds,d,hd,⟨nm,p,cs,t,rfl,okp,okt,dpt,dpp,rfl⟩,post⟩:=h
 obtain ⟨v0,v1,rfl,h0,h1⟩:=gk hd
 refine' ⟨_,?ybody,?yread⟩
 case ybody =>
  refine' aj ?y26 ?y27
  case y26 =>
   refine' bj (i:=2) ?y15 ?y16 ?y17 ?y18
   case y15=>exact nd
   case y16=>exact rfl
   case y17=>exact Or.inl rfl
   case y18 =>
    refine' Bs ?y10 ?y11 ?y12 ?y13 ?y14
    case y10 =>
     refine' oi ?y7 ?y8 ?y9
     case y7=>exact aH
     case y8=>exact (bA af)
     case y9 =>
      refine' oi ?y4 ?y5 ?y6
      case y4=>exact aH
      case y5=>exact (bA af)
      case y6 =>
       refine' oi ?y1 ?y2 ?y3
       case y1=>exact aH
       case y2=>exact (bA af)
       case y3=>exact Bv
    case y11=>exact rfl
    case y12=>exact rfl
    case y13=>simp
    case y14=>decide
  case y27 =>
   refine' aj ?y24 ?y25
   case y24 =>
    refine' bq ?y20 ?y21 ?y22
    case y20=>exact (ck (br (ay J9 hr rfl T.Kg T.IU.kp (lg T) .nil aO (ag (aN aS (pv 0) ak (λ_ _=>rfl)) (ag (pv 1) (ag (pv 2) af)))) (λ_=>rfl)))
    case y21 =>
     refine' au ?y19
     case y19=>exact (aI lJ)
    case y22=>exact aR
   case y25 =>
    refine' au ?y23
    case y23=>exact (aI (aM (ag (dS dA rfl T.He d9 (ag (mO (vV hr) (pv 2) aH (λ_ _=>rfl)) af)) (ag (dS dA rfl T.He d9 (ag (mO (vV hr) (pv 2) aH (λ_ _=>rfl)) af)) (ag (dS dA rfl T.He d9 (ag (mO (vV hr) (pv 2) aH (λ_ _=>rfl)) af)) af)))))
 case yread =>
  refine cZ (λf hf=>⟨cm (by decide),λl0 hl0=>⟨cm (by decide),λl1 hl1=>⟨cm (by decide),λl2 hl2=>⟨?_,[(Sum.inr "hole",.ref l0),(Sum.inr "gap",.ref l1),(Sum.inr "slot",.ref l2)],rfl,by simp,?_⟩⟩⟩⟩)
  ·rw [aJ (az (by rw [aJ (az (by rw [aJ (az aq hl0)];exact aq) hl1),aJ (az aq hl0)];exact aq) hl2),aJ (az (by rw [aJ (az aq hl0)];exact aq) hl1),aJ (az aq hl0)]
   exact aq
  rw [Dc]
  have n0f:f≠l0:=az aq hl0
  have n1f:f≠l1:=az (by rw [aJ n0f];exact aq) hl1
  have n10:l0≠l1:=az aq hl1
  have n2f:f≠l2:=az (by rw [aJ n1f,aJ n0f];exact aq) hl2
  have n20:l0≠l2:=az (by rw [aJ n10];exact aq) hl2
  have n21:l1≠l2:=az aq hl2
  generalize hG:upd (upd (upd (upd (upd H f (.dK [])) l0 (.lst [])) l1 (.lst [])) l2 (.lst [])) f (.dK [(Sum.inr "hole",V.ref l0),(Sum.inr "gap",.ref l1),(Sum.inr "slot",.ref l2)])=G
  have gf:G f=some (oD l0 l1 l2):=by rw [← hG];exact aq
  have tri:Tri l0 l1 l2 G [] [] []:=by
   rw [← hG]
   refine ⟨?_,?_,?_,n10,n20,n21⟩
   ·rw [aJ (Ne.symm n0f),aJ n20,aJ n10];exact aq
   ·rw [aJ (Ne.symm n1f),aJ n21];exact aq
   ·rw [aJ (Ne.symm n2f)];exact aq
  have sG:Same H G:=λx o hx=>by
   have zf:=az hx hf
   have z0:x≠l0:=az (by rw [aJ zf];exact hx) hl0
   have z1:x≠l1:=az (by rw [aJ z0,aJ zf];exact hx) hl1
   have z2:x≠l2:=az (by rw [aJ z1,aJ z0,aJ zf];exact hx) hl2
   rw [← hG,aJ zf,aJ z2,aJ z1,aJ z0,aJ zf]
   exact hx
  have free0:H l0=none:=by rw [aJ (Ne.symm n0f)] at hl0;exact hl0
  have free1:H l1=none:=by rw [aJ (Ne.symm n10),aJ (Ne.symm n1f)] at hl1;exact hl1
  have free2:H l2=none:=by rw [aJ (Ne.symm n21),aJ (Ne.symm n20),aJ (Ne.symm n2f)] at hl2;exact hl2
  refine Eo (K:=K) (eF (cQ (RE.use (K:=K) (d:=toP p) (aQ (k:=1) (ae (sG.dat h0)) ao rfl) λw0 G1 s1 q0=>?_)))
  refine ⟨_,rfl,_,rfl,p,t,w0,v1,f,l0,l1,l2,[],[],[],rfl,okp,okt,dpt,dpp,by decide,q0,(sG.trans s1).dat h1,s1 _ _ gf,n0f,n1f,n2f,tri.same s1,by decide,by decide,by decide,λH' a' b' c' bb tri' _ _ _ dd=>⟨_,rfl,?_⟩⟩
  have sm:Same H H':=λx o hx=>bb x o (az hx free0) (az hx free1) (az hx free2) (s1 _ _ (sG _ _ hx))
  cases hft:bC p t with
  | none =>
   refine sY ?_
   rw [hft] at post
   exact post _ _ sm Dat.nonI
  | some fd =>
   refine qM ?_
   obtain ⟨d0,d1,d2⟩:=dd fd hft
   have gf':H' f=some (.dK [(Sum.inr "hole",V.ref l0),(Sum.inr "gap",.ref l1),(Sum.inr "slot",.ref l2)]):=bb _ _ n0f n1f n2f (s1 _ _ gf)
   rw [hft] at post
   exact aW (K:=K) (d:=fdD (some fd)) (aP (ab (lP gf' (we l0 l1 l2) tri'.h0 d0) (ab (lP gf' (zJ l0 l1 l2) tri'.h1 d1) (ab (lP gf' (wg l0 l1 l2) tri'.h2 d2) av)))) λv H'' s qq=>post v H'' (sm.trans s) qq
noncomputable abbrev LPD:List D:=[.tup [.str "inc",.tup [.str "add",.tup [.str "hole",.int 0],.tup [.str "num",.int 1]],.tup [.int 12,.int 1]],
 .tup [.str "both",.tup [.str "add",.tup [.str "slot",.int 0],.tup [.str "slot",.int 1]],.tup [.int 3,.tup [.str "arg",.int 0],.int 3,.tup [.str "arg",.int 1],.int 4]],
 .tup [.str "twofold",.tup [.str "mul",.tup [.str "hole",.int 0],.tup [.str "num",.int 2]],.tup [.int 13,.int 4]],
 .tup [.str "fewer",.tup [.str "sub",.tup [.str "hole",.int 0],.tup [.str "gap",.int 0,.int 99]],.tup [.int 1,.tup [.str "low",.int 0],.int 5]],
 .tup [.str "addmul",.tup [.str "add",.tup [.str "mul",.tup [.str "hole",.int 0],.tup [.str "hole",.int 1]],.tup [.str "gap",.int 0,.int 99]],.tup [.int 6,.int 12,.tup [.str "low",.int 0]]],
 .tup [.str "turned",.tup [.str "less",.tup [.str "gap",.int 0,.int 99],.tup [.str "hole",.int 0]],.tup [.int 1,.tup [.str "low",.int 0],.int 14,.int 7]],
 .tup [.str "far",.tup [.str "add",.tup [.str "hole",.int 0],.tup [.str "gap",.int 0,.int 9999]],.tup [.int 2,.tup [.str "low",.int 0],.tup [.str "high",.int 0],.int 4]],
 .tup [.str "pair",.tup [.str "sub",.tup [.str "gap",.int 0,.int 99],.tup [.str "gap",.int 1,.int 99]],.tup [.int 1,.tup [.str "low",.int 0],.int 1,.tup [.str "low",.int 1],.int 5]]]
theorem nQ (T:Txt P w K mg)  : FnOk P w K mg base CX0 (k+1) T.GT T.GX [] (iG K λds es=>ds=[]/\es=LPD):=by
 refine T.HZ.ok sc__law_pieces (λvs H Q E h=>?_) (λcdv A outer s H vs Q E hr h=>?_)
 ·obtain ⟨ds,es,hd,⟨rfl,rfl⟩,_⟩:=h;exact hd.length.symm
 have nd:=sc__law_pieces.nd
 obtain ⟨ds,es,hd,⟨rfl,rfl⟩,post⟩:=h
 have ez:=hd.nilE
 subst ez
 refine' ⟨_,?ybody,?yread⟩
 case ybody =>
  refine' aj ?y278 ?y279
  case y278 =>
   refine' fE ?y35 ?y36 ?y37 ?y38
   case y35 =>
    refine' aM ?y34
    case y34 =>
     refine' ag ?y32 ?y33
     case y32=>exact (aM (ag aH (ag ak af)))
     case y33 =>
      refine' ag ?y30 ?y31
      case y30=>exact (aM (ag aH (ag ak af)))
      case y31 =>
       refine' ag ?y28 ?y29
       case y28=>exact (aM (ag aH (ag ak (ag ak af))))
       case y29=>exact af
   case y36=>exact (eE rfl (aZ (aL (i:=0) nd rfl (Or.inl rfl)) (aZ (aL (i:=1) nd rfl (Or.inl rfl)) (aZ (aL (i:=2) nd rfl (Or.inl rfl)) cP))))
   case y37=>rfl
   case y38=>kernel_rfl
  case y279 =>
   refine' aj ?y276 ?y277
   case y276 =>
    refine' bj (i:=3) ?y56 ?y57 ?y58 ?y59
    case y56=>exact nd
    case y57=>exact rfl
    case y58=>exact Or.inl rfl
    case y59 =>
     refine' bA ?y55
     case y55 =>
      refine' ag ?y53 ?y54
      case y53 =>
       refine' aM ?y52
       case y52 =>
        refine' ag ?y50 ?y51
        case y50=>exact aH
        case y51 =>
         refine' ag ?y48 ?y49
         case y48 =>
          refine' aM ?y45
          case y45 =>
           refine' ag ?y43 ?y44
           case y43=>exact aH
           case y44 =>
            refine' ag ?y41 ?y42
            case y41=>exact (pv 0)
            case y42 =>
             refine' ag ?y39 ?y40
             case y39=>exact (aM (ag aH (ag ak af)))
             case y40=>exact af
         case y49 =>
          refine' ag ?y46 ?y47
          case y46=>exact (aM (ag ak (ag ak af)))
          case y47=>exact af
      case y54=>exact af
   case y277 =>
    refine' aj ?y274 ?y275
    case y274 =>
     refine' bE ?y93
     case y93 =>
      refine' dq ?y87 ?y88 ?y89 ?y90 ?y91 ?y92
      case y87=>exact PySem.F.plainAttrs_list
      case y88=>exact PySem.F.slot_list_append
      case y89=>exact PySem.F.type_list_append
      case y90=>exact bQ
      case y91=>exact (pv 3)
      case y92 =>
       refine' ag ?y85 ?y86
       case y85 =>
        refine' aM ?y84
        case y84 =>
         refine' ag ?y82 ?y83
         case y82=>exact aH
         case y83 =>
          refine' ag ?y80 ?y81
          case y80 =>
           refine' aM ?y66
           case y66 =>
            refine' ag ?y64 ?y65
            case y64=>exact aH
            case y65 =>
             refine' ag ?y62 ?y63
             case y62=>exact (aM (ag aH (ag ak af)))
             case y63 =>
              refine' ag ?y60 ?y61
              case y60=>exact (aM (ag aH (ag ak af)))
              case y61=>exact af
          case y81 =>
           refine' ag ?y78 ?y79
           case y78 =>
            refine' aM ?y77
            case y77 =>
             refine' ag ?y75 ?y76
             case y75=>exact ak
             case y76 =>
              refine' ag ?y73 ?y74
              case y73=>exact (aM (ag aH (ag ak af)))
              case y74 =>
               refine' ag ?y71 ?y72
               case y71=>exact ak
               case y72 =>
                refine' ag ?y69 ?y70
                case y69=>exact (aM (ag aH (ag ak af)))
                case y70 =>
                 refine' ag ?y67 ?y68
                 case y67=>exact ak
                 case y68=>exact af
           case y79=>exact af
       case y86=>exact af
    case y275 =>
     refine' aj ?y272 ?y273
     case y272 =>
      refine' bE ?y116
      case y116 =>
       refine' dq ?y110 ?y111 ?y112 ?y113 ?y114 ?y115
       case y110=>exact PySem.F.plainAttrs_list
       case y111=>exact PySem.F.slot_list_append
       case y112=>exact PySem.F.type_list_append
       case y113=>exact bQ
       case y114=>exact (pv 3)
       case y115 =>
        refine' ag ?y108 ?y109
        case y108 =>
         refine' aM ?y107
         case y107 =>
          refine' ag ?y105 ?y106
          case y105=>exact aH
          case y106 =>
           refine' ag ?y103 ?y104
           case y103 =>
            refine' aM ?y100
            case y100 =>
             refine' ag ?y98 ?y99
             case y98=>exact aH
             case y99 =>
              refine' ag ?y96 ?y97
              case y96=>exact (pv 0)
              case y97 =>
               refine' ag ?y94 ?y95
               case y94=>exact (aM (ag aH (ag ak af)))
               case y95=>exact af
           case y104 =>
            refine' ag ?y101 ?y102
            case y101=>exact (aM (ag ak (ag ak af)))
            case y102=>exact af
        case y109=>exact af
     case y273 =>
      refine' aj ?y270 ?y271
      case y270 =>
       refine' bE ?y139
       case y139 =>
        refine' dq ?y133 ?y134 ?y135 ?y136 ?y137 ?y138
        case y133=>exact PySem.F.plainAttrs_list
        case y134=>exact PySem.F.slot_list_append
        case y135=>exact PySem.F.type_list_append
        case y136=>exact bQ
        case y137=>exact (pv 3)
        case y138 =>
         refine' ag ?y131 ?y132
         case y131 =>
          refine' aM ?y130
          case y130 =>
           refine' ag ?y128 ?y129
           case y128=>exact aH
           case y129 =>
            refine' ag ?y126 ?y127
            case y126=>exact (aM (ag aH (ag (pv 0) (ag (pv 2) af))))
            case y127 =>
             refine' ag ?y124 ?y125
             case y124 =>
              refine' aM ?y123
              case y123 =>
               refine' ag ?y121 ?y122
               case y121=>exact ak
               case y122 =>
                refine' ag ?y119 ?y120
                case y119=>exact (aM (ag aH (ag ak af)))
                case y120 =>
                 refine' ag ?y117 ?y118
                 case y117=>exact ak
                 case y118=>exact af
             case y125=>exact af
         case y132=>exact af
      case y271 =>
       refine' aj ?y268 ?y269
       case y268 =>
        refine' bE ?y169
        case y169 =>
         refine' dq ?y163 ?y164 ?y165 ?y166 ?y167 ?y168
         case y163=>exact PySem.F.plainAttrs_list
         case y164=>exact PySem.F.slot_list_append
         case y165=>exact PySem.F.type_list_append
         case y166=>exact bQ
         case y167=>exact (pv 3)
         case y168 =>
          refine' ag ?y161 ?y162
          case y161 =>
           refine' aM ?y160
           case y160 =>
            refine' ag ?y158 ?y159
            case y158=>exact aH
            case y159 =>
             refine' ag ?y156 ?y157
             case y156 =>
              refine' aM ?y146
              case y146 =>
               refine' ag ?y144 ?y145
               case y144=>exact aH
               case y145 =>
                refine' ag ?y142 ?y143
                case y142=>exact (aM (ag aH (ag (pv 0) (ag (pv 1) af))))
                case y143 =>
                 refine' ag ?y140 ?y141
                 case y140=>exact (pv 2)
                 case y141=>exact af
             case y157 =>
              refine' ag ?y154 ?y155
              case y154 =>
               refine' aM ?y153
               case y153 =>
                refine' ag ?y151 ?y152
                case y151=>exact ak
                case y152 =>
                 refine' ag ?y149 ?y150
                 case y149=>exact ak
                 case y150 =>
                  refine' ag ?y147 ?y148
                  case y147=>exact (aM (ag aH (ag ak af)))
                  case y148=>exact af
              case y155=>exact af
          case y162=>exact af
       case y269 =>
        refine' aj ?y266 ?y267
        case y266 =>
         refine' bE ?y194
         case y194 =>
          refine' dq ?y188 ?y189 ?y190 ?y191 ?y192 ?y193
          case y188=>exact PySem.F.plainAttrs_list
          case y189=>exact PySem.F.slot_list_append
          case y190=>exact PySem.F.type_list_append
          case y191=>exact bQ
          case y192=>exact (pv 3)
          case y193 =>
           refine' ag ?y186 ?y187
           case y186 =>
            refine' aM ?y185
            case y185 =>
             refine' ag ?y183 ?y184
             case y183=>exact aH
             case y184 =>
              refine' ag ?y181 ?y182
              case y181=>exact (aM (ag aH (ag (pv 2) (ag (pv 0) af))))
              case y182 =>
               refine' ag ?y179 ?y180
               case y179 =>
                refine' aM ?y178
                case y178 =>
                 refine' ag ?y176 ?y177
                 case y176=>exact ak
                 case y177 =>
                  refine' ag ?y174 ?y175
                  case y174=>exact (aM (ag aH (ag ak af)))
                  case y175 =>
                   refine' ag ?y172 ?y173
                   case y172=>exact ak
                   case y173 =>
                    refine' ag ?y170 ?y171
                    case y170=>exact ak
                    case y171=>exact af
               case y180=>exact af
           case y187=>exact af
        case y267 =>
         refine' aj ?y264 ?y265
         case y264 =>
          refine' bE ?y226
          case y226 =>
           refine' dq ?y220 ?y221 ?y222 ?y223 ?y224 ?y225
           case y220=>exact PySem.F.plainAttrs_list
           case y221=>exact PySem.F.slot_list_append
           case y222=>exact PySem.F.type_list_append
           case y223=>exact bQ
           case y224=>exact (pv 3)
           case y225 =>
            refine' ag ?y218 ?y219
            case y218 =>
             refine' aM ?y217
             case y217 =>
              refine' ag ?y215 ?y216
              case y215=>exact aH
              case y216 =>
               refine' ag ?y213 ?y214
               case y213 =>
                refine' aM ?y201
                case y201 =>
                 refine' ag ?y199 ?y200
                 case y199=>exact aH
                 case y200 =>
                  refine' ag ?y197 ?y198
                  case y197=>exact (pv 0)
                  case y198 =>
                   refine' ag ?y195 ?y196
                   case y195=>exact (aM (ag aH (ag ak (ag ak af))))
                   case y196=>exact af
               case y214 =>
                refine' ag ?y211 ?y212
                case y211 =>
                 refine' aM ?y210
                 case y210 =>
                  refine' ag ?y208 ?y209
                  case y208=>exact ak
                  case y209 =>
                   refine' ag ?y206 ?y207
                   case y206=>exact (aM (ag aH (ag ak af)))
                   case y207 =>
                    refine' ag ?y204 ?y205
                    case y204=>exact (aM (ag aH (ag ak af)))
                    case y205 =>
                     refine' ag ?y202 ?y203
                     case y202=>exact ak
                     case y203=>exact af
                case y212=>exact af
            case y219=>exact af
         case y265 =>
          refine' aj ?y262 ?y263
          case y262 =>
           refine' bE ?y260
           case y260 =>
            refine' dq ?y254 ?y255 ?y256 ?y257 ?y258 ?y259
            case y254=>exact PySem.F.plainAttrs_list
            case y255=>exact PySem.F.slot_list_append
            case y256=>exact PySem.F.type_list_append
            case y257=>exact bQ
            case y258=>exact (pv 3)
            case y259 =>
             refine' ag ?y252 ?y253
             case y252 =>
              refine' aM ?y251
              case y251 =>
               refine' ag ?y249 ?y250
               case y249=>exact aH
               case y250 =>
                refine' ag ?y247 ?y248
                case y247 =>
                 refine' aM ?y233
                 case y233 =>
                  refine' ag ?y231 ?y232
                  case y231=>exact aH
                  case y232 =>
                   refine' ag ?y229 ?y230
                   case y229=>exact (aM (ag aH (ag ak (ag ak af))))
                   case y230 =>
                    refine' ag ?y227 ?y228
                    case y227=>exact (aM (ag aH (ag ak (ag ak af))))
                    case y228=>exact af
                case y248 =>
                 refine' ag ?y245 ?y246
                 case y245 =>
                  refine' aM ?y244
                  case y244 =>
                   refine' ag ?y242 ?y243
                   case y242=>exact ak
                   case y243 =>
                    refine' ag ?y240 ?y241
                    case y240=>exact (aM (ag aH (ag ak af)))
                    case y241 =>
                     refine' ag ?y238 ?y239
                     case y238=>exact ak
                     case y239 =>
                      refine' ag ?y236 ?y237
                      case y236=>exact (aM (ag aH (ag ak af)))
                      case y237 =>
                       refine' ag ?y234 ?y235
                       case y234=>exact ak
                       case y235=>exact af
                 case y246=>exact af
             case y253=>exact af
          case y263 =>
           refine' au ?y261
           case y261=>exact (aI (pv 3))
 case yread =>
  refine rH (K:=K) (d:=.tup [.str "hole",.int 0]) (e:=.tup [.str "hole",.int 1]) (f:=.tup [.str "gap",.int 0,.int 99]) (aP (ab (aP (ab aB (ab ao av))) (ab (aP (ab aB (ab ao av))) (ab (aP (ab aB (ab ao (ab ao av)))) av)))) λvh vo vg H1 s1 dh do_ dg=>?_
  refine eI (K:=K) (dW (ab (aP (ab aB (ab (aP (ab aB (ab (ae dh) (ab (aP (ab aB (ab ao av))) av)))) (ab (aP (ab ao (ab ao av))) av)))) av)) λlb x0 G0 hb s2 h0 e0=>?_
  have hlb:H lb=none:=s1.free hb
  have dh:=s2.dat dh
  have do_:=s2.dat do_
  have dg:=s2.dat dg
  have bb0:But lb H G0:=(s1.trans s2).but
  have l0:=e0.length
  simp only [List.length_cons,List.length_nil,List.length_append] at l0
  refine gL (K:=K) (aP (ab aB (ab (aP (ab aB (ab (aP (ab aB (ab ao av))) (ab (aP (ab aB (ab ao av))) av)))) (ab (aP (ab ao (ab (aP (ab aB (ab ao av))) (ab ao (ab (aP (ab aB (ab ao av))) (ab ao av)))))) av)))) h0 (by first | omega | (simp only [List.length_append,List.length_cons,List.length_nil];omega)) λy1 G1 b1 h1 e1'=>?_
  have g1:cW K _ G1:=b1.grow h0 h1
  have dh:=Dat.mono g1 _ dh
  have do_:=Dat.mono g1 _ do_
  have dg:=Dat.mono g1 _ dg
  have e1:=Dats.append (Dats.mono g1 _ e0) (Dats.cons e1' Dats.nil)
  have l1:=e1.length
  have bb1:=bb0.trans b1
  simp only [List.length_cons,List.length_nil,List.length_append] at l1
  refine gL (K:=K) (aP (ab aB (ab (aP (ab aB (ab (ae dh) (ab (aP (ab aB (ab ao av))) av)))) (ab (aP (ab ao (ab ao av))) av)))) h1 (by first | omega | (simp only [List.length_append,List.length_cons,List.length_nil];omega)) λy2 G2 b2 h2 e2'=>?_
  have g2:cW K _ G2:=b2.grow h1 h2
  have dh:=Dat.mono g2 _ dh
  have do_:=Dat.mono g2 _ do_
  have dg:=Dat.mono g2 _ dg
  have e2:=Dats.append (Dats.mono g2 _ e1) (Dats.cons e2' Dats.nil)
  have l2:=e2.length
  have bb2:=bb1.trans b2
  simp only [List.length_cons,List.length_nil,List.length_append] at l2
  refine gL (K:=K) (aP (ab aB (ab (aP (ab aB (ab (ae dh) (ab (ae dg) av)))) (ab (aP (ab ao (ab (aP (ab aB (ab ao av))) (ab ao av)))) av)))) h2 (by first | omega | (simp only [List.length_append,List.length_cons,List.length_nil];omega)) λy3 G3 b3 h3 e3'=>?_
  have g3:cW K _ G3:=b3.grow h2 h3
  have dh:=Dat.mono g3 _ dh
  have do_:=Dat.mono g3 _ do_
  have dg:=Dat.mono g3 _ dg
  have e3:=Dats.append (Dats.mono g3 _ e2) (Dats.cons e3' Dats.nil)
  have l3:=e3.length
  have bb3:=bb2.trans b3
  simp only [List.length_cons,List.length_nil,List.length_append] at l3
  refine gL (K:=K) (aP (ab aB (ab (aP (ab aB (ab (aP (ab aB (ab (ae dh) (ab (ae do_) av)))) (ab (ae dg) av)))) (ab (aP (ab ao (ab ao (ab (aP (ab aB (ab ao av))) av)))) av)))) h3 (by first | omega | (simp only [List.length_append,List.length_cons,List.length_nil];omega)) λy4 G4 b4 h4 e4'=>?_
  have g4:cW K _ G4:=b4.grow h3 h4
  have dh:=Dat.mono g4 _ dh
  have do_:=Dat.mono g4 _ do_
  have dg:=Dat.mono g4 _ dg
  have e4:=Dats.append (Dats.mono g4 _ e3) (Dats.cons e4' Dats.nil)
  have l4:=e4.length
  have bb4:=bb3.trans b4
  simp only [List.length_cons,List.length_nil,List.length_append] at l4
  refine gL (K:=K) (aP (ab aB (ab (aP (ab aB (ab (ae dg) (ab (ae dh) av)))) (ab (aP (ab ao (ab (aP (ab aB (ab ao av))) (ab ao (ab ao av))))) av)))) h4 (by first | omega | (simp only [List.length_append,List.length_cons,List.length_nil];omega)) λy5 G5 b5 h5 e5'=>?_
  have g5:cW K _ G5:=b5.grow h4 h5
  have dh:=Dat.mono g5 _ dh
  have do_:=Dat.mono g5 _ do_
  have dg:=Dat.mono g5 _ dg
  have e5:=Dats.append (Dats.mono g5 _ e4) (Dats.cons e5' Dats.nil)
  have l5:=e5.length
  have bb5:=bb4.trans b5
  simp only [List.length_cons,List.length_nil,List.length_append] at l5
  refine gL (K:=K) (aP (ab aB (ab (aP (ab aB (ab (ae dh) (ab (aP (ab aB (ab ao (ab ao av)))) av)))) (ab (aP (ab ao (ab (aP (ab aB (ab ao av))) (ab (aP (ab aB (ab ao av))) (ab ao av))))) av)))) h5 (by first | omega | (simp only [List.length_append,List.length_cons,List.length_nil];omega)) λy6 G6 b6 h6 e6'=>?_
  have g6:cW K _ G6:=b6.grow h5 h6
  have dh:=Dat.mono g6 _ dh
  have do_:=Dat.mono g6 _ do_
  have dg:=Dat.mono g6 _ dg
  have e6:=Dats.append (Dats.mono g6 _ e5) (Dats.cons e6' Dats.nil)
  have l6:=e6.length
  have bb6:=bb5.trans b6
  simp only [List.length_cons,List.length_nil,List.length_append] at l6
  refine gL (K:=K) (aP (ab aB (ab (aP (ab aB (ab (aP (ab aB (ab ao (ab ao av)))) (ab (aP (ab aB (ab ao (ab ao av)))) av)))) (ab (aP (ab ao (ab (aP (ab aB (ab ao av))) (ab ao (ab (aP (ab aB (ab ao av))) (ab ao av)))))) av)))) h6 (by first | omega | (simp only [List.length_append,List.length_cons,List.length_nil];omega)) λy7 G7 b7 h7 e7'=>?_
  have g7:cW K _ G7:=b7.grow h6 h7
  have dh:=Dat.mono g7 _ dh
  have do_:=Dat.mono g7 _ do_
  have dg:=Dat.mono g7 _ dg
  have e7:=Dats.append (Dats.mono g7 _ e6) (Dats.cons e7' Dats.nil)
  have l7:=e7.length
  have bb7:=bb6.trans b7
  have sm:Same H G7:=λb o hbo=>bb7 b o (az hbo hlb) hbo
  exact ⟨_,rfl,post lb _ G7 sm h7 hlb e7⟩
structure Pc where
 nm:Str
 pt:Pa
 cs:List D
noncomputable def pcD (p:Pc):D:=.tup [.str p.nm,toP p.pt,.tup p.cs]
noncomputable def cz:Pa->Bool
 | .hole _=>false
 | _=>true
structure Bk (p:Pc):Prop where
 nm:p.nm≠"pick"
 ok:gZ p.pt
 dp:cn p.pt≤3
 cs:p.cs.length≤12
 nh:cz p.pt=true
structure Wy where
 nm:Str
 cs:List D
 ts:List Tr
noncomputable def wyD (w:Wy):D:=.tup [.str w.nm,.tup w.cs,.tup (w.ts.map toD)]
noncomputable def fk (t:Tr) (p:Pc):Option Wy:=(bC p.pt t).map λf=>⟨p.nm,p.cs,f.1⟩
noncomputable def nE:Tr->Bool
 | .pick _ _ _=>true
 | _=>false
noncomputable def ft (ps:List Pc) (t:Tr):List Wy:=if nE t=true then [⟨"pick",[],bh t⟩] else ps.filterMap (fk t)
noncomputable def iD (near far many:Int):List Int:=if many≤9 then [near,many] else [far,many % 100,many / 100]
noncomputable def eY (many:Int):Int:=if many≤9 then 2 else 3
theorem jB (near far many:Int):((iD near far many).length:Int)=eY many:=by
 unfold iD eY
 split <;> rfl
theorem zx (a:Int):2≤eY a/\eY a≤3:=by unfold eY;split <;> omega
noncomputable def wu (y z:Int):Int:=eY (y+eY z)+eY z
noncomputable def oZ (w:Wy) (ls:List Int):Int:=if w.nm="pick" then wu (ls.getD 1 0) (ls.getD 2 0) else (w.cs.length:Int)
noncomputable def dj (w:Wy) (ls:List Int):Int:=oZ w ls+ls.sum
noncomputable abbrev Bst:Type:=Option (Int × D)
noncomputable def bD:Bst->D
 | none=>.non
 | some b=>.tup [.int b.1,b.2]
noncomputable def eQ:List Bst->Option (List (Int × D))
 | []=>some []
 | none::_=>none
 | some b::r=>(eQ r).map (b::·)
noncomputable def cvD (nm:Str) (bs:List (Int × D)):D:=.tup [.str nm,.tup (bs.map (·.2))]
noncomputable def fQ (best:Bst) (l:Int) (c:D):Bst:=match best with
 | none=>some (l,c)
 | some b=>if l < b.1 then some (l,c) else some b
noncomputable def qg (best:Bst) (w:Wy):Option (List (Int × D))->Bst
 | none=>best
 | some bs=>fQ best (dj w (bs.map (·.1))) (cvD w.nm bs)
noncomputable def cV (f:Tr->Bst) (best:Bst) (w:Wy):Bst:=qg best w (eQ (w.ts.map f))
noncomputable def iM:Tr->Bool
 | .call _=>true
 | _=>false
noncomputable def dN (ps:List Pc) (f:Tr->Bst) (t:Tr):Bst:=if iM t=true then some (3,.tup []) else (ft ps t).foldl (cV f) none
variable {ps:List Pc} {f g:Tr->Bst}
theorem pe (h:(ft ps t).foldl (cV f) none=(ft ps t).foldl (cV g) none):dN ps f t=dN ps g t:=by
 unfold dN
 rw [h]
noncomputable def me (ps:List Pc):Nat->Tr->Bst
 | 0,_=>none
 | n+1,t=>dN ps (me ps n) t
noncomputable def bx (ps:List Pc) (t:Tr):Bst:=me ps (aC t) t
theorem qa (t:Tr):1≤aC t:=by cases t <;> simp [aC]
theorem qF:∀ (p:Pa) (t:Tr) (f:Fnd),bC p t=some f->∀ x ∈ f.1,x ∈ ax t
 | .hole i,t,f,h,x,hx=>by
  cases h
  simp at hx
  rw [hx,dB]
  exact List.mem_cons_self
 | .gap i m,t,f,h,x,hx=>by
  cases t with
  | num n =>
   have h':(if n≤m then some ([],[n],[]) else none:Option Fnd)=some f:=h
   by_cases z:n≤m
   ·rw [if_pos z] at h';cases h';simp at hx
   ·rw [if_neg z] at h';cases h'
  | _=>cases h
 | .slot i,t,f,h,x,hx=>by
  cases t with
  | arg n=>cases h;simp at hx
  | _=>cases h
 | .num m,t,f,h,x,hx=>by
  cases t with
  | num n =>
   have h':(if n=m then some ([],[],[]) else none:Option Fnd)=some f:=h
   by_cases z:n=m
   ·rw [if_pos z] at h';cases h';simp at hx
   ·rw [if_neg z] at h';cases h'
  | _=>cases h
 | .two o a b,t,f,h,x,hx=>by
  cases t with
  | two o' u v =>
   obtain ⟨_,f1,f2,e1,e2,e3⟩:=dm h
   subst e3
   have hx':x ∈ f1.1++f2.1:=hx
   simp only [ax,List.mem_cons,List.mem_append]
   rcases List.mem_append.mp hx' with hx | hx
   ·exact .inr (.inl (qF a u f1 e1 x hx))
   ·exact .inr (.inr (qF b v f2 e2 x hx))
  | _=>cases h
theorem jz {p:Pa} {f:Fnd} (hp:cz p=true) (h:bC p t=some f):∀ x ∈ f.1,x ∈ (bh t).flatMap ax:=by
 intro x hx
 cases p with
 | hole i=>cases hp
 | gap i m =>
  cases t with
  | num n =>
   have h':(if n≤m then some ([],[n],[]) else none:Option Fnd)=some f:=h
   by_cases z:n≤m
   ·rw [if_pos z] at h';cases h';simp at hx
   ·rw [if_neg z] at h';cases h'
  | _=>cases h
 | slot i =>
  cases t with
  | arg n=>cases h;simp at hx
  | _=>cases h
 | num m =>
  cases t with
  | num n =>
   have h':(if n=m then some ([],[],[]) else none:Option Fnd)=some f:=h
   by_cases z:n=m
   ·rw [if_pos z] at h';cases h';simp at hx
   ·rw [if_neg z] at h';cases h'
  | _=>cases h
 | two o a b =>
  cases t with
  | two o' u v =>
   obtain ⟨_,f1,f2,e1,e2,e3⟩:=dm h
   subst e3
   have hx':x ∈ f1.1++f2.1:=hx
   simp only [bh,List.flatMap_cons,List.flatMap_nil,List.append_nil,List.mem_append]
   rcases List.mem_append.mp hx' with hx | hx
   ·exact .inl (qF a u f1 e1 x hx)
   ·exact .inr (qF b v f2 e2 x hx)
  | _=>cases h
theorem xU (t:Tr):t ∈ ax t:=by rw [dB];exact List.mem_cons_self
theorem mX (hp:∀ p ∈ ps,cz p.pt=true) {w:Wy} (hw:w ∈ ft ps t):∀ x ∈ w.ts,x ∈ (bh t).flatMap ax:=by
 unfold ft at hw
 split at hw
 ·rw [List.mem_singleton.mp hw]
  intro x hx
  exact List.mem_flatMap.mpr ⟨x,hx,xU x⟩
 ·obtain ⟨p,h1,h2⟩:=List.mem_filterMap.mp hw
  unfold fk at h2
  cases e:bC p.pt t with
  | none=>rw [e] at h2;cases h2
  | some f =>
   rw [e] at h2
   cases h2
   exact jz (hp p h1) e
theorem bZ:∀ (t x:Tr),x ∈ ax t->aC x≤aC t/\aE x≤aE t
 | .num n,x,h=>by
  have e:x=.num n:=by simpa [ax] using h
  subst e;exact ⟨Nat.le_refl _,Nat.le_refl _⟩
 | .arg n,x,h=>by
  have e:x=.arg n:=by simpa [ax] using h
  subst e;exact ⟨Nat.le_refl _,Nat.le_refl _⟩
 | .call n,x,h=>by
  have e:x=.call n:=by simpa [ax] using h
  subst e;exact ⟨Nat.le_refl _,Nat.le_refl _⟩
 | .two o a b,x,h=>by
  simp only [ax,List.mem_cons,List.mem_append] at h
  rcases h with rfl | h | h
  ·exact ⟨Nat.le_refl _,Nat.le_refl _⟩
  ·have:=bZ a x h;simp only [aC,aE];omega
  ·have:=bZ b x h;simp only [aC,aE];omega
 | .pick a b c,x,h=>by
  simp only [ax,List.mem_cons,List.mem_append] at h
  rcases h with rfl | (h | h) | h
  ·exact ⟨Nat.le_refl _,Nat.le_refl _⟩
  ·have:=bZ a x h;simp only [aC,aE];omega
  ·have:=bZ b x h;simp only [aC,aE];omega
  ·have:=bZ c x h;simp only [aC,aE];omega
theorem ij:∀ (t x:Tr),okX t->x ∈ ax t->okX x
 | .num n,x,k,h=>by
  have e:x=.num n:=by simpa [ax] using h
  subst e;exact k
 | .arg n,x,k,h=>by
  have e:x=.arg n:=by simpa [ax] using h
  subst e;exact k
 | .call n,x,k,h=>by
  have e:x=.call n:=by simpa [ax] using h
  subst e;exact k
 | .two o a b,x,k,h=>by
  simp only [ax,List.mem_cons,List.mem_append] at h
  rcases h with rfl | h | h
  ·exact k
  ·exact ij a x k.2.1 h
  ·exact ij b x k.2.2 h
 | .pick a b c,x,k,h=>by
  simp only [ax,List.mem_cons,List.mem_append] at h
  rcases h with rfl | (h | h) | h
  ·exact k
  ·exact ij a x k.1 h
  ·exact ij b x k.2.1 h
  ·exact ij c x k.2.2 h
theorem pO (h:x ∈ bh t):aC x < aC t/\aE x < aE t:=by
 cases t with
 | num n=>simp [bh] at h
 | arg n=>simp [bh] at h
 | call n=>simp [bh] at h
 | two o a b =>
  simp only [bh,List.mem_cons,List.not_mem_nil,or_false] at h
  simp only [aC,aE]
  rcases h with rfl | rfl <;> omega
 | pick a b c =>
  simp only [bh,List.mem_cons,List.not_mem_nil,or_false] at h
  simp only [aC,aE]
  rcases h with rfl | rfl | rfl <;> omega
theorem fV (h:x ∈ (bh t).flatMap ax):aC x < aC t/\aE x < aE t:=by
 obtain ⟨k,h1,h2⟩:=List.mem_flatMap.mp h
 have:=pO h1
 have:=bZ k x h2
 omega
theorem iU (h:x ∈ (bh t).flatMap ax):x ∈ ax t:=by rw [dB];exact List.mem_cons_of_mem _ h
theorem vk {w:Wy} (h:∀ x ∈ w.ts,f x=g x) (b:Bst):cV f b w=cV g b w:=by
 unfold cV
 rw [List.map_congr_left h]
theorem kl:∀ (ws:List Wy) (b:Bst),(∀ w ∈ ws,∀ x ∈ w.ts,f x=g x)->ws.foldl (cV f) b=ws.foldl (cV g) b
 | [],_,_=>rfl
 | w::ws,b,h=>by
  rw [List.foldl_cons,List.foldl_cons,vk (h w List.mem_cons_self)]
  exact kl ws _ λw' hw=>h w' (List.mem_cons_of_mem _ hw)
theorem mf (hp:∀ p ∈ ps,cz p.pt=true):∀ (n:Nat) (t:Tr),aC t≤n->me ps (n+1) t=me ps n t
 | 0,t,h=>by have:=qa t;omega
 | n+1,t,h=>by
  show dN ps (me ps (n+1)) t=dN ps (me ps n) t
  refine pe (kl _ _ λw hw x hx=>mf hp n x ?_)
  have:=fV (mX hp hw x hx)
  omega
theorem sj (hp:∀ p ∈ ps,cz p.pt=true):∀ {n:Nat},aC t≤n->me ps n t=bx ps t:=by
 intro n
 induction n with
 | zero=>intro h;have:=qa t;omega
 | succ n ih =>
  intro h
  by_cases e:aC t=n+1
  ·unfold bx;rw [e]
  ·rw [mf hp n t (by omega)];exact ih (by omega)
theorem gj (hp:∀ p ∈ ps,cz p.pt=true) (t:Tr):bx ps t=dN ps (bx ps) t:=by
 rw [← sj hp (Nat.le_succ (aC t))]
 show dN ps (me ps (aC t)) t=_
 refine pe (kl _ _ λw hw x hx=>sj hp ?_)
 exact Nat.le_of_lt (fV (mX hp hw x hx)).1
variable {p:Pc}
theorem rS {f:Fnd} (hp:p ∈ ps) (ht:nE t=false) (h:bC p.pt t=some f):(⟨p.nm,p.cs,f.1⟩:Wy) ∈ ft ps t:=by
 unfold ft
 rw [if_neg (by rw [ht];exact Bool.false_ne_true)]
 exact List.mem_filterMap.mpr ⟨p,hp,by unfold fk;rw [h];rfl⟩
noncomputable def gx:Pa->Nat
 | .hole _=>1
 | .two _ a b=>gx a+gx b
 | _=>0
theorem lA:∀ (p:Pa) (t:Tr) (f:Fnd),bC p t=some f->f.1.length=gx p
 | .hole i,t,f,h=>by cases h;rfl
 | .gap i m,t,f,h=>by
  cases t with
  | num n =>
   have h':(if n≤m then some ([],[n],[]) else none:Option Fnd)=some f:=h
   by_cases z:n≤m
   ·rw [if_pos z] at h';cases h';rfl
   ·rw [if_neg z] at h';cases h'
  | _=>cases h
 | .slot i,t,f,h=>by
  cases t with
  | arg n=>cases h;rfl
  | _=>cases h
 | .num m,t,f,h=>by
  cases t with
  | num n =>
   have h':(if n=m then some ([],[],[]) else none:Option Fnd)=some f:=h
   by_cases z:n=m
   ·rw [if_pos z] at h';cases h';rfl
   ·rw [if_neg z] at h';cases h'
  | _=>cases h
 | .two o a b,t,f,h=>by
  cases t with
  | two o' u v =>
   obtain ⟨_,f1,f2,e1,e2,e3⟩:=dm h
   subst e3
   show (f1.1++f2.1).length=gx a+gx b
   rw [List.length_append,lA a u f1 e1,lA b v f2 e2]
  | _=>cases h
noncomputable abbrev EH:Pc:=⟨"add",.two "add" (.hole 0) (.hole 1),[.int 4]⟩
noncomputable abbrev BP:List Pc:=[⟨"one",.gap 0 99,[.int 1,.tup [.str "low",.int 0]]⟩,⟨"two",.gap 0 9999,[.int 2,.tup [.str "low",.int 0],.tup [.str "high",.int 0]]⟩,⟨"slot",.slot 0,[.int 3,.tup [.str "arg",.int 0]]⟩,
 EH,⟨"sub",.two "sub" (.hole 0) (.hole 1),[.int 5]⟩,⟨"mul",.two "mul" (.hole 0) (.hole 1),[.int 6]⟩,⟨"less",.two "less" (.hole 0) (.hole 1),[.int 7]⟩,⟨"more",.two "add" (.hole 0) (.gap 0 99),[.int 12,.tup [.str "low",.int 0]]⟩]
theorem CU (o:Str) (x y:Tr):bC (.two o (.hole 0) (.hole 1)) (.two o x y)=some ([x,y],[],[]):=by
 show (if o=o then _ else _)=_
 rw [if_pos rfl]
 rfl
theorem zP (h:okB o):∃ c:D,(⟨o,.two o (.hole 0) (.hole 1),[c]⟩:Pc) ∈ BP:=by
 rcases h with rfl | rfl | rfl | rfl
 ·exact ⟨.int 4,by simp [BP]⟩
 ·exact ⟨.int 5,by simp [BP]⟩
 ·exact ⟨.int 6,by simp [BP]⟩
 ·exact ⟨.int 7,by simp [BP]⟩
theorem sQ:∀ (ws:List Wy) (b x:Bst),ws.foldl (cV f) b=x->x=b\/∃ w ∈ ws,∃ bs,eQ (w.ts.map f)=some bs/\x=some (dj w (bs.map (·.1)),cvD w.nm bs)
 | [],b,x,h=>.inl h.symm
 | w::ws,b,x,h=>by
  rw [List.foldl_cons] at h
  rcases sQ ws _ x h with e | ⟨w',hw,r⟩
  ·unfold cV at e
   cases ea:eQ (w.ts.map f) with
   | none=>rw [ea] at e;exact .inl e
   | some bs =>
    rw [ea] at e
    have e:x=fQ b (dj w (bs.map (·.1))) (cvD w.nm bs):=e
    have two:fQ b (dj w (bs.map (·.1))) (cvD w.nm bs)=b\/fQ b (dj w (bs.map (·.1))) (cvD w.nm bs)=some (dj w (bs.map (·.1)),cvD w.nm bs):=by
     unfold fQ
     cases b with
     | none=>exact .inr rfl
     | some y =>
      dsimp only
      split
      ·exact .inr rfl
      ·exact .inl rfl
    rcases two with z | z
    ·exact .inl (e.trans z)
    ·exact .inr ⟨w,List.mem_cons_self,bs,ea,e.trans z⟩
  ·exact .inr ⟨w',List.mem_cons_of_mem _ hw,r⟩
theorem rZ:∀ {ts:List Tr} {bs:List (Int × D)},eQ (ts.map f)=some bs->ts.map f=bs.map some
 | [],bs,h=>by cases h;rfl
 | t::ts,bs,h=>by
  cases e:f t with
  | none=>rw [List.map_cons,e] at h;cases h
  | some b =>
   rw [List.map_cons,e] at h
   have h':(eQ (ts.map f)).map (b::·)=some bs:=h
   cases e2:eQ (ts.map f) with
   | none=>rw [e2] at h';cases h'
   | some r =>
    rw [e2] at h'
    cases h'
    rw [List.map_cons,List.map_cons,e,rZ e2]
theorem vn {b:Bst} {w:Wy} (h:b≠none):cV f b w≠none:=by
 unfold cV
 cases eQ (w.ts.map f) with
 | none=>exact h
 | some bs =>
  show fQ b _ _≠none
  unfold fQ
  cases b with
  | none=>exact λz=>nomatch z
  | some y=>dsimp only;split <;> exact λz=>nomatch z
theorem xW {b:Bst} {w:Wy} (h:eQ (w.ts.map f)≠none):cV f b w≠none:=by
 unfold cV
 cases e:eQ (w.ts.map f) with
 | none=>exact absurd e h
 | some bs =>
  show fQ b _ _≠none
  unfold fQ
  cases b with
  | none=>exact λz=>nomatch z
  | some y=>dsimp only;split <;> exact λz=>nomatch z
theorem nA:∀ (ws:List Wy) (b:Bst),b≠none->ws.foldl (cV f) b≠none
 | [],_,h=>h
 | _::ws,_,h=>nA ws _ (vn h)
theorem pH:∀ (ws:List Wy) (b:Bst) (w:Wy),w ∈ ws->eQ (w.ts.map f)≠none->ws.foldl (cV f) b≠none
 | w'::ws,b,w,hw,h=>by
  rcases List.mem_cons.mp hw with rfl | hw
  ·exact nA ws _ (xW h)
  ·exact pH ws _ w hw h
theorem kH (hp:∀ p ∈ ps,cz p.pt=true) {w:Wy} (hw:w ∈ ft ps t) (h:eQ (w.ts.map (bx ps))≠none):∃ b,bx ps t=some b:=by
 rw [gj hp]
 unfold dN
 split
 ·exact ⟨_,rfl⟩
 ·have z:=pH (f:=bx ps) (ft ps t) none w hw h
  cases e:(ft ps t).foldl (cV (bx ps)) none with
  | none=>exact absurd e z
  | some b=>exact ⟨b,rfl⟩
theorem gS (hp:∀ p ∈ ps,cz p.pt=true) (hb:∀ p ∈ BP,p ∈ ps):∀ t:Tr,okX t->∃ b,bx ps t=some b
 | .num n,h=>by
  have e:bC (.gap 0 9999) (.num n)=some ([],[n],[]):=by
   show (if n≤9999 then _ else _)=_
   rw [if_pos h.2]
  exact kH hp (rS (t:=.num n) (p:=⟨"two",.gap 0 9999,[.int 2,.tup [.str "low",.int 0],.tup [.str "high",.int 0]]⟩) (hb _ (by simp [BP])) rfl e) (λz=>nomatch z)
 | .arg k,h=>kH hp (rS (t:=.arg k) (p:=⟨"slot",.slot 0,[.int 3,.tup [.str "arg",.int 0]]⟩) (f:=([],[],[k])) (hb _ (by simp [BP])) rfl rfl) (λz=>nomatch z)
 | .two o a b,h=>by
  obtain ⟨x,hx⟩:=gS hp hb a h.2.1
  obtain ⟨y,hy⟩:=gS hp hb b h.2.2
  obtain ⟨c,hc⟩:=zP h.1
  refine kH hp (rS (t:=.two o a b) (hb _ hc) rfl (CU o a b)) ?_
  show eQ [bx ps a,bx ps b]≠none
  rw [hx,hy]
  exact λz=>nomatch z
 | .pick a b c,h=>by
  obtain ⟨x,hx⟩:=gS hp hb a h.1
  obtain ⟨y,hy⟩:=gS hp hb b h.2.1
  obtain ⟨z,hz⟩:=gS hp hb c h.2.2
  refine kH (w:=⟨"pick",[],[a,b,c]⟩) hp (List.mem_singleton.mpr rfl) ?_
  show eQ [bx ps a,bx ps b,bx ps c]≠none
  rw [hx,hy,hz]
  exact λz=>nomatch z
 | .call k,h=>⟨(3,.tup []),by rw [gj hp];rfl⟩
noncomputable def vA (ds es:List D):Prop:=∃ m n f,ds=[.int m,.tup [.int n,.int f]]/\es=(iD n f m).map D.int
theorem Cf (h:tA σ H λxs H1=>xs.length≤sizeLine/\∀ p,H1 p=none->Q (.ref p) (upd H1 p (.tup xs))):Av tA σ H Q:=h
theorem jO (h:En.nx σ H):wK En σ H:=h
theorem BM (h:En.ct σ H):Cn En σ H:=h
variable {G:Hp} {xs:List V}
theorem mU (h:RE K te σ G d) (hl:G l=some (.lst xs)) (hx:xs.length≤900)
  (q:∀ y G',But l G G'->G' l=some (.lst (xs++[y]))->Dat K G' d y->En.nx σ G') (hv:σ[j]?=some (some (.ref l)):=by rfl):mw (tBM K "list" mQ (jl j) (bR te dQ)) En σ G:=by
 refine ⟨_,hv,.inl ⟨rfl,_,SqL.of hl⟩,h.use λy H1 s1 q1=>?_⟩
 have hl1:=s1 _ _ hl
 refine ⟨l,xs,y,rfl,rfl,hl1,cx (by omega),?_⟩
 have b:But l H1 (upd H1 l (.lst (xs++[y]))):=But.upd (Same.refl _).but
 exact q y _ (s1.but.trans b) aq (Dat.mono (b.grow hl1 aq) _ q1)
theorem rG {k:Nat} (h:RE K te σ H d) (q:∀ v H',Same H H'->Dat K H' d v->En.nx (σ.set k (some v)) H'):o4 te (cU k) En σ H:=h.use q
theorem qY (T:Txt P w K mg)  : FnOk P w K mg base CX0 (k+1) T.Ik T.Ir ["many","kinds"] (iG K vA):=by
 refine T.IA.ok sc_jump_over (λvs H Q E h=>?_) (λcdv A outer s H vs Q E hr h=>?_)
 ·obtain ⟨ds,d,hd,⟨m,n,f,rfl,_⟩,_⟩:=h;exact hd.length.symm
 have nd:=sc_jump_over.nd
 obtain ⟨ds,es,hd,⟨m,n,f,rfl,rfl⟩,post⟩:=h
 obtain ⟨v0,v1,rfl,h0,h1⟩:=gk hd
 refine ⟨_,(aj (fE (pv 1) (eE rfl (aZ (aL (i:=2) nd rfl (Or.inl rfl)) (aZ (aL (i:=3) nd rfl (Or.inl rfl)) cP))))
 (aj (bq (aV jr (pv 0) (bL (v:=.int 9) rfl T.Hr ⟨_,rfl⟩) (aY _)) (au (aI (bA (ag (pv 2) (ag (pv 0) af))))) aR)
 (au (aI (bA (ag (pv 3) (ag (bu gy (pv 0) ak) (ag (bu kQ (pv 0) ak) af)))))))),?_⟩
 refine kT (K:=K) (ae h1) λv w H1 s1 q1 q2=>?_
 have h0:=s1.dat h0
 refine aK (K:=K) (b:=decide (m≤9)) (aD (eR (p:=λi j=>decide (i≤j)) (ae h0) ao)) (λc H2 s2=>?_) (λc H2 s2=>?_)
 ·have e:iD n f m=[n,m]:=by unfold iD;rw [if_pos (of_decide_eq_true c)]
  rw [e] at post
  exact gq (RC.use (K:=K) (dW (ab (ae (s2.dat q1)) (ab (ae (s2.dat h0)) av))) λl ys H' hl s hy hd=>post l ys H' (s1.trans (s2.trans s)) hy ((s1.trans s2).free hl) hd)
 ·have e:iD n f m=[f,m % 100,m / 100]:=by unfold iD;rw [if_neg (of_decide_eq_false c)]
  rw [e] at post
  exact gq (RC.use (K:=K) (dW (ab (ae (s2.dat q2)) (ab (u0 (ae (s2.dat h0)) ao (by decide)) (ab (rB (ae (s2.dat h0)) ao ⟨by decide,by decide⟩) av)))) λl ys H' hl s hy hd=>post l ys H' (s1.trans (s2.trans s)) hy ((s1.trans s2).free hl) hd)
noncomputable def rM (K:PySem.W.Frag):Sp:=λvs H Q _=>∃ y z:Int,vs=[.int y,.int z]/\∀ (p a b:Addr) (us ws:List V) (H':Hp),Same H H'->SqT K H' p [.ref a,.ref b]->H' a=some (.lst us)->H' b=some (.lst ws)->H a=none->H b=none->a≠b ->
 Dats K H' ((iD 10 11 (y+eY z)).map D.int) us->Dats K H' ((iD 8 9 z).map D.int) ws->Q (.ref p) H'
theorem lH (T:Txt P w K mg) (KM:FnOk P w K mg base CX0 k T.Ik T.Ir ["many","kinds"] (iG K vA)):FnOk P w K mg base CX0 (k+1) T.FF T.FH ["second","third"] (rM K):=by
 refine T.Gq.ok sc_jumps_of_pick (λvs H Q E h=>?_) (λcdv A outer s H vs Q E hr h=>?_)
 ·obtain ⟨y,z,rfl,_⟩:=h;rfl
 have nd:=sc_jumps_of_pick.nd
 obtain ⟨y,z,rfl,post⟩:=h
 refine ⟨_,(aj (bj (i:=2) nd rfl (Or.inl rfl) (ay KM hr rfl T.J7 T.IA.kp (lZ T) .nil aO (ag (pv 1) (ag (bL (v:=.ref T.Kt) rfl T.JG rfl) af))))
 (aj (bj (i:=3) nd rfl (Or.inl rfl) (ay KM hr rfl T.J7 T.IA.kp (lZ T) .nil aO (ag (bu cM (pv 0) (aT aU rfl T.Fq bP (ag (pv 2) af))) (ag (bL (v:=.ref T.KU) rfl T.Ke rfl) af))))
 (au (aI (aM (ag (pv 3) (ag (pv 2) af))))))),?_⟩
 refine eI (K:=K) (i8 (R:=vA) (ab (ae (k:=1) (Dat.intI z)) (ab (oo T.LB) av)) ⟨z,8,9,rfl,rfl⟩) λb ws H1 hb s1 hbs dws=>?_
 have el:(ws.length:Int)=eY z:=by rw [← dws.length,List.length_map,jB]
 have b1:=mT (K:=K) (σ:=(gD ["second","third","behind","ahead"] [.int y,.int z]).set 2 (some (.ref b))) (k:=2) hbs
 rw [el] at b1
 refine eI (K:=K) (i8 (R:=vA) (ab (dC (ae (k:=0) (Dat.intI y)) b1) (ab (oo T.LM) av)) ⟨_,10,11,rfl,rfl⟩) λa us H2 ha s2 has dus=>?_
 refine gq (Cf ⟨_,rfl,_,rfl,cm (by simp),λp hp=>?_⟩)
 have s3:Same H2 (upd H2 p (.tup [.ref a,.ref b])):=aG hp _
 have nab:a≠b:=Ne.symm (az hbs ha)
 exact post p a b us ws _ (s1.trans (s2.trans s3)) (SqT.of aq) (s3 _ _ has) (s3 _ _ (s2 _ _ hbs)) (s1.free ha) hb nab (s3.dats dus) ((s2.trans s3).dats dws)
theorem pY (h:o="num"\/o="arg"\/okB o):decide (o=("pick":Str))=false/\o≠"call":=by
 rcases h with rfl | rfl | rfl | rfl | rfl | rfl <;> exact ⟨by decide +kernel,by decide +kernel⟩
theorem zi (t:Tr) (ht:okX t):∃ kd r,toD t=.tup (.str kd::r)/\decide (kd="pick")=nE t/\(decide (kd="call")=iM t)/\(nE t=true->r=(bh t).map toD):=by
 cases t with
 | num n=>exact ⟨_,_,rfl,(pY (.inl rfl)).1,decide_eq_false (pY (.inl rfl)).2,λz=>nomatch z⟩
 | arg n=>exact ⟨_,_,rfl,(pY (.inr (.inl rfl))).1,decide_eq_false (pY (.inr (.inl rfl))).2,λz=>nomatch z⟩
 | two o a b=>exact ⟨_,_,rfl,(pY (.inr (.inr ht.1))).1,decide_eq_false (pY (.inr (.inr ht.1))).2,λz=>nomatch z⟩
 | pick a b c=>exact ⟨_,_,rfl,decide_eq_true rfl,decide_eq_false (by decide +kernel),λ_=>rfl⟩
 | call k=>exact ⟨_,_,rfl,decide_eq_false (by decide +kernel),decide_eq_true rfl,λz=>nomatch z⟩
structure mq (ps:List Pc):Prop where
 ok:∀ p ∈ ps,Bk p
 few:ps.length≤100
noncomputable def yr (as:List Ar) (es:List D):Prop:=∃ ps t,as=[.d (toD t),.l (ps.map pcD)]/\mq ps/\okX t/\aE t≤8/\es=(ft ps t).map wyD
theorem yU (f:Fnd):fdD (some f)=.tup [.tup (f.1.map toD),.tup (f.2.1.map D.int),.tup (f.2.2.map D.int)]:=rfl
theorem uT (T:Txt P w K mg) (Km:FnOk P w K mg base CX0 k T.HN T.HQ ["piece","tree"] (spD K mZ)):FnOk P w K mg base CX0 (k+1) T.Jx T.JB ["tree","some"] (gR K yr):=by
 refine T.Kd.ok sc_ways_of (λvs H Q E h=>?_) (λcdv A outer s H vs Q E hr h=>?_)
 ·obtain ⟨as,d,hd,⟨ps,t,rfl,_⟩,_⟩:=h;exact hd.length.symm
 have nd:=sc_ways_of.nd
 obtain ⟨as,es,hd,⟨ps,t,rfl,okS,okt,dpt,rfl⟩,post⟩:=h
 obtain ⟨v0,v1,rfl,h0,h1⟩:=qt hd
 have h0:Dat K H (toD t) v0:=h0
 have h1:LD K H (ps.map pcD) v1:=h1
 refine ⟨_,(aj (bq (aV cF (aN aS (pv 0) ak (λ_ _=>rfl)) aH (aY _)) (au (aI (bA (ag (aM (ag aH (ag (aM af) (ag (hU lR (pv 0) (ik ak) jN) af)))) af)))) aR)
 (aj (bj (i:=2) nd rfl (Or.inl rfl) (bA af))
 (aj (gA PassesOwn.never rfl (di (pv 1)) (aL (i:=3) nd rfl (Or.inl rfl)) (aj (bj (i:=4) nd rfl (Or.inl rfl) (ay Km hr rfl T.Ko T.Jh.kp (nc T) .nil aO (ag (pv 3) (ag (pv 0) af))))
 (au (bq (aV Bq (pv 4) lJ (aY _)) (au (bE (dq PySem.F.plainAttrs_list PySem.F.slot_list_append PySem.F.type_list_append bQ (pv 2) (ag (aM (ag (aN aS (pv 3) ak (λ_ _=>rfl)) (ag (aN aS (pv 3) ak (λ_ _=>rfl)) (ag (aN aS (pv 4) ak (λ_ _=>rfl)) af)))) af)))) aR))))
 (au (aI (pv 2)))))),?_⟩
 obtain ⟨kd,r,ek,hpk,_,hkids⟩:=zi t okt
 have h0':Dat K H (.tup (.str kd::r)) v0:=by rw [← ek];exact h0
 refine aK (K:=K) (b:=nE t) (RT.as (aD (bo (aQ (k:=0) (ae h0') ao rfl) aB)) hpk) (λc H1 s1=>?_) (λc H1 s1=>?_)
 ·have e:(ft ps t).map wyD=[.tup [.str "pick",.tup [],.tup r]]:=by
   unfold ft
   rw [if_pos c,hkids c]
   rfl
  rw [e] at post
  exact gq (RC.use (K:=K) (dW (ab (aP (ab aB (ab (aP av) (ab (iQ (ae (s1.dat h0'))) av)))) av)) λl ys H' hl s hy hd=>post l ys H' (s1.trans s) hy (s1.free hl) hd)
 have ew:ft ps t=ps.filterMap (fk t):=by unfold ft;rw [if_neg (by rw [c];exact Bool.false_ne_true)]
 rw [ew] at post
 refine cZ ⟨cm (by decide),λwl hwl=>?_⟩
 have s2:Same H1 (upd H1 wl (.lst [])):=aG hwl _
 have s12:=s1.trans s2
 obtain ⟨a,vs,rfl,ha,hda⟩:=h1
 have la:=hda.length
 rw [List.length_map] at la
 have hps:=okS.few
 have hwn:H wl=none:=s1.free hwl
 refine cJ ⟨_,rfl,a,rfl,⟨vs,(s12.aLst ha).sqL⟩,jA (xs:=vs) (λi σ G=>∃ (z3 z4:Option V) (ys:List V),σ=[some v0,some (.ref a),some (.ref wl),z3,z4]/\Same H G/\G wl=some (.lst ys)/\Dats K G (((ps.take i).filterMap (fk t)).map wyD) ys) ?_ (λi σ G _ zq=>by obtain ⟨_,_,_,_,p,_⟩:=zq;exact (p.aLst ha).sqL) ?_ ?_⟩
 ·exact ⟨none,none,[],rfl,s12,aq,by rw [List.take_zero];exact Dats.nil⟩
 ·rintro i vx σ G hi ⟨z3,z4,ys,rfl,sG,hwG,dy⟩
  obtain ⟨dx,ex,hx⟩:=(sG.dats hda).getV hi
  rw [List.getElem?_map] at ex
  cases hp:ps[i]? with
  | none=>rw [hp] at ex;cases ex
  | some p =>
   rw [hp] at ex
   cases ex
   have okp:=okS.ok p (List.mem_of_getElem? hp)
   have et:ps.take (i+1)=ps.take i++[p]:=by rw [List.take_add_one,hp];rfl
   have lys:ys.length≤100:=by
    have l1:=dy.length
    rw [List.length_map] at l1
    have l2:=List.length_filterMap_le (fk t) (ps.take i)
    rw [List.length_take] at l2
    omega
   refine jc ?_
   dsimp only
   refine dt (K:=K) (d:=fdD (bC p.pt t)) (bg (R:=mZ) (ab (ae (k:=3) hx) (ab (ae (k:=0) (sG.dat h0)) av)) ⟨.str p.nm,p.pt,.tup p.cs,t,rfl,okp.ok,okt,dpt,okp.dp,rfl⟩) λvf G2 s2 qf=>?_
   have hw2:=s2 _ _ hwG
   cases hft:bC p.pt t with
   | none =>
    have eW:fk t p=none:=by unfold fk;rw [hft];rfl
    rw [hft] at qf
    refine js (b:=false) (aD (wB (K:=K) (ae (k:=4) qf))) (λc=>nomatch c) (λ_ G3 s3=>jO ?_)
    refine ⟨_,_,ys,rfl,sG.trans (s2.trans s3),s3 _ _ hw2,?_⟩
    rw [et,List.filterMap_append]
    simp only [List.filterMap_cons,List.filterMap_nil,eW,List.append_nil]
    exact (s2.trans s3).dats dy
   | some f =>
    have eW:fk t p=some ⟨p.nm,p.cs,f.1⟩:=by unfold fk;rw [hft];rfl
    rw [hft,yU] at qf
    refine js (b:=true) (aD (wB (K:=K) (ae (k:=4) qf))) (λ_ G3 s3=>?_) (λc=>nomatch c)
    have hw3:=s3 _ _ hw2
    have hx3:=(s2.trans s3).dat hx
    refine mU (K:=K) (d:=.tup [.str p.nm,.tup p.cs,.tup (f.1.map toD)]) (aP (ab (aQ (k:=0) (ae (k:=3) hx3) ao rfl) (ab (aQ (k:=2) (ae (k:=3) hx3) ao rfl) (ab (aQ (k:=0) (ae (k:=4) (s3.dat qf)) ao rfl) av)))) hw3 (by omega) λy G4 b4 hw4 q4=>?_
    have g4:cW K G3 G4:=b4.grow hw3 hw4
    refine ⟨_,_,ys++[y],rfl,λx o hx=>b4 x o (az hx hwn) (s3 _ _ (s2 _ _ (sG _ _ hx))),hw4,?_⟩
    rw [et,List.filterMap_append,List.map_append]
    simp only [List.filterMap_cons,List.filterMap_nil,eW]
    exact Dats.append (Dats.mono g4 _ ((s2.trans s3).dats dy)) (Dats.cons q4 Dats.nil)
 ·rintro σ G ⟨z3,z4,ys,rfl,sG,hwG,dy⟩
  rw [← la,List.take_length] at dy
  exact ⟨_,rfl,post wl ys G sG hwG hwn dy⟩
theorem rE {g:TG} (h:te σ H λx H1=>g x σ H1 (us En)):kY (o4 te g) us En σ H:=h
noncomputable def Cy (as:List Ar) (d:D):Prop:=∃ (w:Wy) (ls:List Int),as=[.d (.str w.nm),.d (.tup w.cs),.l (ls.map D.int)]/\(w.nm="pick"->ls.length=3)/\d=.int (dj w ls)
theorem ra (T:Txt P w K mg) (IG:FnOk P w K mg base CX0 k T.FF T.FH ["second","third"] (rM K)):FnOk P w K mg base CX0 (k+1) T.Im T.Iv ["name","cells","lengths"] (spA K Cy):=by
 refine T.Jq.ok sc_length_by (λvs H Q E h=>?_) (λcdv A outer s H vs Q E hr h=>?_)
 ·obtain ⟨as,d,hd,⟨w,ls,rfl,_⟩,_⟩:=h;exact hd.length.symm
 have nd:=sc_length_by.nd
 obtain ⟨as,d,hd,⟨w,ls,rfl,h3,rfl⟩,post⟩:=h
 obtain ⟨v0,v1,v2,rfl,h0,h1,h2⟩:=yu hd
 have h0:Dat K H (.str w.nm) v0:=h0
 have h1:Dat K H (.tup w.cs) v1:=h1
 have h2:LD K H (ls.map D.int) v2:=h2
 refine ⟨_,(aj (bj (i:=3) nd rfl (Or.inl rfl) (aT aU rfl T.Fq bP (ag (pv 1) af)))
 (aj (bq (aV cF (pv 0) aH (aY _)) (aj (fE (ay IG hr rfl T.II T.Gq.kp (jn T) .nil aO (ag (aN bM (pv 2) ak (λ_ _=>rfl)) (ag (aN bM (pv 2) ak (λ_ _=>rfl)) af))) (eE rfl (aZ (aL (i:=4) nd rfl (Or.inl rfl)) (aZ (aL (i:=5) nd rfl (Or.inl rfl)) cP))))
 (au (bj (i:=3) nd rfl (Or.inl rfl) (bu cM (aT aU rfl T.Fq bP (ag (pv 4) af)) (aT aU rfl T.Fq bP (ag (pv 5) af)))))) aR)
 (au (aI (bu cM (pv 3) (aT (sv rfl) rfl T.L1 yD (ag (pv 2) af))))))),?_⟩
 refine dt (K:=K) (eT (ae h1)) λvo H1 s1 qo=>?_
 have eo:=qo.intE
 subst eo
 refine rF (λσ G=>∃ z4 z5:Option V,σ=[some v0,some v1,some v2,some (.int (oZ w ls)),z4,z5]/\Same H G) ?_ (λhrest=>?_)
 case refine_2 =>
  refine js (b:=decide (w.nm="pick")) (aD (bo (K:=K) (ae (k:=0) (s1.dat h0)) aB)) (λc H2 s2=>?_) (λc H2 s2=>?_)
  ·have cp:=of_decide_eq_true c
   obtain ⟨x,y,z,rfl⟩:∃ x y z,ls=[x,y,z]:=by
    match ls,h3 cp with
    | [x,y,z],_=>exact ⟨x,y,z,rfl⟩
   have h22:=(s1.trans s2).ld h2
   refine rE (eF (cQ (RE.use (K:=K) (d:=.int y) (fH (k:=1) (aF (k:=2) h22) ao rfl) λw1 H3 s3 q3=>cQ (RE.use (K:=K) (d:=.int z) (fH (k:=2) (aF (k:=2) (s3.ld h22)) ao rfl) λw2 H4 s4 q4=>?_))))
   have e3:=q3.intE
   have e4:=q4.intE
   subst e3 e4
   refine ⟨y,z,rfl,λp a b us ws H5 s5 hp ha hb _ _ _ dus dws=>?_⟩
   have lu:(us.length:Int)=eY (y+eY z):=by rw [← dus.length,List.length_map,jB]
   have lw:(ws.length:Int)=eY z:=by rw [← dws.length,List.length_map,jB]
   refine ⟨p,_,rfl,hp,rfl,_,_,rfl,_,_,rfl,rfl,?_⟩
   dsimp only
   refine rG (K:=K) (d:=.int (oZ w [x,y,z])) (RE.as (dC (mT (k:=4) ha) (mT (k:=5) hb)) ?_) λv H6 s6 q6=>?_
   ·rw [lu,lw]
    unfold oZ
    rw [if_pos cp]
    rfl
   ·have e6:=q6.intE
    subst e6
    exact hrest _ _ ⟨_,_,rfl,s1.trans (s2.trans (s3.trans (s4.trans (s5.trans s6))))⟩
  ·have cp:¬ w.nm="pick":=of_decide_eq_false c
   refine jO (hrest _ _ ⟨none,none,?_,s1.trans s2⟩)
   have e:oZ w ls=(w.cs.length:Int):=by unfold oZ;rw [if_neg cp]
   rw [e]
   rfl
 rintro σ G ⟨z4,z5,rfl,sG⟩
 exact aW (K:=K) (d:=.int (dj w ls)) (dC (ae (k:=3) (Dat.intI _)) (wC (aF (k:=2) (sG.ld h2)))) λv H' s q=>post v H' (sG.trans s) q
theorem Ef:¬ ("num":Str)="arg":=by decide +kernel
theorem DS:¬ ("arg":Str)="num":=by decide +kernel
variable {b:Tr}
theorem AZ {n:Int} (h:eqD (toD (.num n)) (toD b)=true):b=.num n:=by
 cases b with
 | num m =>
  simp only [toD,cI,bB,bX,bW,bV,cH,cG,Bool.and_false,Bool.and_true,Bool.and_eq_true,decide_eq_true_eq] at h
  rw [h.2]
 | arg m =>
  simp only [toD,cI,bB,bX,bW,bV,cH,cG,Bool.and_false,Bool.and_true,Bool.and_eq_true,decide_eq_true_eq] at h
  exact absurd h.1 Ef
 | two o x y =>
  simp only [toD,cI,bB,bX,bW,bV,cH,cG,Bool.and_false,Bool.and_true,Bool.and_eq_true,decide_eq_true_eq] at h
  cases h
 | pick x y z =>
  simp only [toD,cI,bB,bX,bW,bV,cH,cG,Bool.and_false,Bool.and_true,Bool.and_eq_true,decide_eq_true_eq] at h
  cases h
 | call m =>
  simp only [toD,cI,bB,bX,bW,bV,cH,cG,Bool.and_false,Bool.and_true,Bool.and_eq_true,decide_eq_true_eq] at h
  exact absurd h.1 (by decide +kernel)
theorem AY {n:Int} (h:eqD (toD (.arg n)) (toD b)=true):b=.arg n:=by
 cases b with
 | num m =>
  simp only [toD,cI,bB,bX,bW,bV,cH,cG,Bool.and_false,Bool.and_true,Bool.and_eq_true,decide_eq_true_eq] at h
  exact absurd h.1 DS
 | arg m =>
  simp only [toD,cI,bB,bX,bW,bV,cH,cG,Bool.and_false,Bool.and_true,Bool.and_eq_true,decide_eq_true_eq] at h
  rw [h.2]
 | two o x y =>
  simp only [toD,cI,bB,bX,bW,bV,cH,cG,Bool.and_false,Bool.and_true,Bool.and_eq_true,decide_eq_true_eq] at h
  cases h
 | pick x y z =>
  simp only [toD,cI,bB,bX,bW,bV,cH,cG,Bool.and_false,Bool.and_true,Bool.and_eq_true,decide_eq_true_eq] at h
  cases h
 | call m =>
  simp only [toD,cI,bB,bX,bW,bV,cH,cG,Bool.and_false,Bool.and_true,Bool.and_eq_true,decide_eq_true_eq] at h
  exact absurd h.1 (by decide +kernel)
theorem yS {n:Int} (h:eqD (toD (.call n)) (toD b)=true):b=.call n:=by
 cases b with
 | num m =>
  simp only [toD,cI,bB,bX,bW,bV,cH,cG,Bool.and_false,Bool.and_true,Bool.and_eq_true,decide_eq_true_eq] at h
  exact absurd h.1 (by decide +kernel)
 | arg m =>
  simp only [toD,cI,bB,bX,bW,bV,cH,cG,Bool.and_false,Bool.and_true,Bool.and_eq_true,decide_eq_true_eq] at h
  exact absurd h.1 (by decide +kernel)
 | two o x y =>
  simp only [toD,cI,bB,bX,bW,bV,cH,cG,Bool.and_false,Bool.and_true,Bool.and_eq_true,decide_eq_true_eq] at h
  cases h
 | pick x y z =>
  simp only [toD,cI,bB,bX,bW,bV,cH,cG,Bool.and_false,Bool.and_true,Bool.and_eq_true,decide_eq_true_eq] at h
  cases h
 | call m =>
  simp only [toD,cI,bB,bX,bW,bV,cH,cG,Bool.and_false,Bool.and_true,Bool.and_eq_true,decide_eq_true_eq] at h
  rw [h.2]
theorem A0 (h:eqD (toD (.two o x y)) (toD b)=true):∃ x' y',b=.two o x' y'/\eqD (toD x) (toD x')=true/\eqD (toD y) (toD y')=true:=by
 cases b with
 | num m =>
  simp only [toD,cI,bB,bX,bW,bV,cH,cG,Bool.and_false,Bool.and_true,Bool.and_eq_true,decide_eq_true_eq] at h
  cases h
 | arg m =>
  simp only [toD,cI,bB,bX,bW,bV,cH,cG,Bool.and_false,Bool.and_true,Bool.and_eq_true,decide_eq_true_eq] at h
  cases h
 | two o' x' y' =>
  simp only [toD,cI,bB,bX,bW,bV,cH,cG,Bool.and_false,Bool.and_true,Bool.and_eq_true,decide_eq_true_eq] at h
  exact ⟨x',y',by rw [h.1],h.2.1,h.2.2⟩
 | pick x y z =>
  simp only [toD,cI,bB,bX,bW,bV,cH,cG,Bool.and_false,Bool.and_true,Bool.and_eq_true,decide_eq_true_eq] at h
  cases h
 | call m =>
  simp only [toD,cI,bB,bX,bW,bV,cH,cG,Bool.and_false,Bool.and_true,Bool.and_eq_true,decide_eq_true_eq] at h
  cases h
theorem yT {z:Tr} (h:eqD (toD (.pick x y z)) (toD b)=true):∃ x' y' z',b=.pick x' y' z'/\eqD (toD x) (toD x')=true/\eqD (toD y) (toD y')=true/\eqD (toD z) (toD z')=true:=by
 cases b with
 | num m =>
  simp only [toD,cI,bB,bX,bW,bV,cH,cG,Bool.and_false,Bool.and_true,Bool.and_eq_true,decide_eq_true_eq] at h
  cases h
 | arg m =>
  simp only [toD,cI,bB,bX,bW,bV,cH,cG,Bool.and_false,Bool.and_true,Bool.and_eq_true,decide_eq_true_eq] at h
  cases h
 | two o' x' y' =>
  simp only [toD,cI,bB,bX,bW,bV,cH,cG,Bool.and_false,Bool.and_true,Bool.and_eq_true,decide_eq_true_eq] at h
  cases h
 | pick x' y' z' =>
  simp only [toD,cI,bB,bX,bW,bV,cH,cG,Bool.and_false,Bool.and_true,Bool.and_eq_true,decide_eq_true_eq] at h
  exact ⟨x',y',z',rfl,h.2.1,h.2.2.1,h.2.2.2⟩
 | call m =>
  simp only [toD,cI,bB,bX,bW,bV,cH,cG,Bool.and_false,Bool.and_true,Bool.and_eq_true,decide_eq_true_eq] at h
  cases h
theorem jV (a:Tr):∀ b:Tr,eqD (toD a) (toD b)=true->a=b:=by
 induction a with
 | num n=>intro b h;exact (AZ h).symm
 | arg n=>intro b h;exact (AY h).symm
 | call n=>intro b h;exact (yS h).symm
 | two o x y ihx ihy =>
  intro b h
  obtain ⟨x',y',rfl,h1,h2⟩:=A0 h
  rw [ihx x' h1,ihy y' h2]
 | pick x y z ihx ihy ihz =>
  intro b h
  obtain ⟨x',y',z',rfl,h1,h2,h3⟩:=yT h
  rw [ihx x' h1,ihy y' h2,ihz z' h3]
theorem gv:∀ t:Tr,eU (toD t)=aE t
 | .num n=>by unfold toD aE;simp [eU,deepDs]
 | .arg n=>by unfold toD aE;simp [eU,deepDs]
 | .call n=>by unfold toD aE;simp [eU,deepDs]
 | .two o a b=>by unfold toD aE;simp [eU,deepDs,gv a,gv b]
 | .pick a b c=>by unfold toD aE;simp [eU,deepDs,gv a,gv b,gv c]
theorem bN:∀ t:Tr,noL (toD t)=true
 | .num n=>by unfold toD;simp [noL,noLs]
 | .arg n=>by unfold toD;simp [noL,noLs]
 | .call n=>by unfold toD;simp [noL,noLs]
 | .two o a b=>by unfold toD;simp [noL,noLs,bN a,bN b]
 | .pick a b c=>by unfold toD;simp [noL,noLs,bN a,bN b,bN c]
theorem dE:∀ ts:List Tr,noLs (ts.map toD)=true
 | []=>by simp [noLs]
 | t::ts=>by simp [noLs,bN t,dE ts]
theorem gT:∀ ts:List Tr,(∀ x ∈ ts,aE x≤n)->deepDs (ts.map toD)≤n
 | [],_=>by simp [deepDs]
 | t::ts,h=>by
  have h1:=h t (by simp)
  have h2:=gT ts λx hx=>h x (by simp [hx])
  simp only [List.map_cons,deepDs,gv]
  omega
theorem sL:∀ {ts:List Tr},(∀ y ∈ ts,okX y)->okX x->x ∈ ts->∃ j:Nat,ts[j]?=some x/\∀ (m:Nat) e,m < j->(ts.map toD)[m]?=some e->eqD e (toD x)=false
 | [],_,_,h=>by simp at h
 | y::ts,hok,hx,h=>by
  by_cases e:eqD (toD y) (toD x)=true
  ·have:=jV y x e
   exact ⟨0,by rw [this];rfl,λm _ hm=>absurd hm (Nat.not_lt_zero m)⟩
  ·have hmem:x ∈ ts:=by
    rcases List.mem_cons.mp h with rfl | h
    ·exact absurd (eV _ (bN x)) e
    ·exact h
   obtain ⟨j,h1,h2⟩:=sL (λz hz=>hok z (List.mem_cons_of_mem _ hz)) hx hmem
   refine ⟨j+1,by simpa using h1,λm d hm hd=>?_⟩
   cases m with
   | zero =>
    have e':toD y=d:=by simpa using hd
    rw [← e']
    exact Bool.eq_false_iff.mpr e
   | succ m=>exact h2 m d (by omega) (by simpa using hd)
theorem rX:∀ bs:List Bst,(bs.map λb=>isN (bD b)).any id=(eQ bs).isNone
 | []=>rfl
 | none::bs=>rfl
 | some b::bs=>by
  have ih:=rX bs
  show (false || (bs.map λb=>isN (bD b)).any id)=((eQ bs).map (b::·)).isNone
  rw [ih,Bool.false_or]
  cases eQ bs <;> rfl
theorem r6:∀ {bs:List Bst} {cs:List (Int × D)},eQ bs=some cs->bs=cs.map some
 | [],cs,h=>by cases h;rfl
 | none::bs,cs,h=>by cases h
 | some b::bs,cs,h=>by
  have h':(eQ bs).map (b::·)=some cs:=h
  cases e:eQ bs with
  | none=>rw [e] at h';cases h'
  | some r =>
   rw [e] at h'
   cases h'
   rw [r6 e]
   rfl
theorem nB:∀ p:Pa,gx p≤2 ^ (cn p - 1)
 | .hole _=>by simp [gx,cn]
 | .gap _ _=>by simp [gx,cn]
 | .slot _=>by simp [gx,cn]
 | .num _=>by simp [gx,cn]
 | .two o a b=>by
  have h1:=nB a
  have h2:=nB b
  have d1:=lq a
  have d2:=lq b
  have e:cn (.two o a b) - 1=(max (cn a) (cn b) - 1)+1:=by simp only [cn];omega
  rw [e,Nat.pow_succ]
  have p1:2 ^ (cn a - 1)≤2 ^ (max (cn a) (cn b) - 1):=Nat.pow_le_pow_right (by decide) (by omega)
  have p2:2 ^ (cn b - 1)≤2 ^ (max (cn a) (cn b) - 1):=Nat.pow_le_pow_right (by decide) (by omega)
  simp only [gx]
  omega
noncomputable def yi (as:List Ar) (d:D):Prop:=∃ (ps:List Pc) (t:Tr) (f:Tr->Bst) (ts:List Tr),as=[.d (toD t),.l (ps.map pcD),.l (ts.map toD),.l (ts.map λx=>bD (f x))]/\mq ps/\okX t/\aE t≤8/\ts.length≤200/\(∀ x ∈ ts,okX x/\aE x≤8) /\
 (∀ w ∈ ft ps t,∀ x ∈ w.ts,x ∈ ts)/\d=bD (dN ps f t)
theorem AG (h:∀ p ∈ ps,Bk p) {w:Wy} (hw:w ∈ ft ps t):w.ts.length≤8/\(w.nm="pick"->w.ts.length=3):=by
 unfold ft at hw
 split at hw
 ·rename_i c
  rw [List.mem_singleton.mp hw]
  cases t with
  | pick a b c=>exact ⟨by simp [bh],λ_=>rfl⟩
  | _=>cases c
 ·obtain ⟨p,h1,h2⟩:=List.mem_filterMap.mp hw
  unfold fk at h2
  cases e:bC p.pt t with
  | none=>rw [e] at h2;cases h2
  | some f =>
   rw [e] at h2
   cases h2
   refine ⟨?_,λz=>absurd z (h p h1).nm⟩
   show f.1.length≤8
   rw [lA _ _ _ e]
   have:=nB p.pt
   have hd:=(h p h1).dp
   calc gx p.pt≤2 ^ (cn p.pt - 1):=this
    _≤2 ^ 2:=Nat.pow_le_pow_right (by decide) (by omega)
    _≤8:=by decide
theorem mG (T:Txt P w K mg) (LU:FnOk P w K mg base CX0 k T.Jx T.JB ["tree","some"] (gR K yr)) (Ly:FnOk P w K mg base CX0 k T.Im T.Iv ["name","cells","lengths"] (spA K Cy)):FnOk P w K mg base CX0 (k+1) T.Gy T.GD ["tree","some","done","bests"] (spA K yi):=by
 refine T.HG.ok sc_best_by_ways (λvs H Q E h=>?_) (λcdv A outer s H vs Q E hr h=>?_)
 ·obtain ⟨as,d,hd,⟨ps,t,f,ts,rfl,_⟩,_⟩:=h;exact hd.length.symm
 have nd:=sc_best_by_ways.nd
 obtain ⟨as,d,hd,⟨ps,t,f,ts,rfl,okS,okt,dpt,fts,okts,hts,rfl⟩,post⟩:=h
 obtain ⟨v0,v1,v2,v3,rfl,h0,h1,h2,h3⟩:=wV hd
 have h0:Dat K H (toD t) v0:=h0
 have h1:LD K H (ps.map pcD) v1:=h1
 have h2:LD K H (ts.map toD) v2:=h2
 have h3:LD K H (ts.map λx=>bD (f x)) v3:=h3
 refine ⟨_,(aj (bq (aV cF (aN aS (pv 0) ak (λ_ _=>rfl)) aH (aY _)) (au (aI (aM (ag (bL (v:=.int 3) rfl T.GO ⟨_,rfl⟩) (ag (aM af) af))))) aR)
 (aj (bj (i:=4) nd rfl (Or.inl rfl) lJ)
 (aj (gA PassesOwn.never rfl (di (ay LU hr rfl T.Lj T.Kd.kp (wZ T) .nil aO (ag (pv 0) (ag (pv 1) af)))) (eE rfl (aZ (aL (i:=5) nd rfl (Or.inl rfl)) (aZ (aL (i:=6) nd rfl (Or.inl rfl)) (aZ (aL (i:=7) nd rfl (Or.inl rfl)) cP)))) (aj (fm (i:=8) (own:=["one"]) (fr:=[2,3]) (N':=["one","done","bests"]) (iE (pv 7)) rfl (by show cj ["tree","some","done","bests","best","name","cells","trees","within","length"] (λx=>(aA cE).names.lookup x) _ _ _ _=true;decide +kernel) rfl (λ_ _ _ _ _=>(aL (i:=0) (by show List.Nodup [("one":Str),("done":Str),("bests":Str)];decide +kernel) rfl (Or.inl rfl))) (λ_ _ _ _ _=>bO) (λ_ _ _ _ _=>(aN (r:=zZ K) bM (pv 2) (Dn (r:=mS K) K rfl PySem.F.plainAttrs_list PySem.F.slot_list_index PySem.F.type_list_index (pP hr) (pv 1) (ag (pv 0) af)) (λ_ _=>rfl))) nd rfl rfl rfl)
 (aj (bq (br (aT (yI rfl) rfl T.Me CL (ag (cO (own:=["one"]) (fr:=[]) (N':=["one"]) (di (pv 8)) rfl (by show cj ["tree","some","done","bests","best","name","cells","trees","within","length"] (λx=>(aA cE).names.lookup x) _ _ _ _=true;decide +kernel) rfl (λ_ _ _ _ _=>(aL (i:=0) (by show List.Nodup [("one":Str)];decide +kernel) rfl (Or.inl rfl))) (λ_ _ _ _ _=>bO) (λ_ _ _ _ _=>(cA uV (pv 0) lJ (aY _)))) af)) (λ_=>rfl)) (au tV) aR)
 (aj (bj (i:=9) nd rfl (Or.inl rfl) (ay Ly hr rfl T.KP T.Jq.kp (si T) .nil aO (ag (pv 5) (ag (pv 6) (ag (cO (own:=["one"]) (fr:=[]) (N':=["one"]) (di (pv 8)) rfl (by show cj ["tree","some","done","bests","best","name","cells","trees","within","length"] (λx=>(aA cE).names.lookup x) _ _ _ _=true;decide +kernel) rfl (λ_ _ _ _ _=>(aL (i:=0) (by show List.Nodup [("one":Str)];decide +kernel) rfl (Or.inl rfl))) (λ_ _ _ _ _=>bO) (λ_ _ _ _ _=>(aN (r:=tZ K) aS (pv 0) ak (λ_ _=>rfl)))) af)))))
 (au (bq (PW.pt (fF (aV uV (pv 4) lJ (aY _)) (fq (aV pU (pv 9) (aN aS (pv 4) ak (λ_ _=>rfl)) (aY _))))) (au (bj (i:=4) nd rfl (Or.inl rfl) (aM (ag (pv 9) (ag (aM (ag (pv 5) (ag (dS dA rfl T.He d9 (ag (cO (own:=["one"]) (fr:=[]) (N':=["one"]) (di (pv 8)) rfl (by show cj ["tree","some","done","bests","best","name","cells","trees","within","length"] (λx=>(aA cE).names.lookup x) _ _ _ _=true;decide +kernel) rfl (λ_ _ _ _ _=>(aL (i:=0) (by show List.Nodup [("one":Str)];decide +kernel) rfl (Or.inl rfl))) (λ_ _ _ _ _=>bO) (λ_ _ _ _ _=>(aN (r:=tZ K) aS (pv 0) ak (λ_ _=>rfl)))) af)) af))) af))))) aR))))))
 (au (aI (pv 4)))))),?_⟩
 obtain ⟨kd,r,ek,hpk,hcall,hkids⟩:=zi t okt
 have h0':Dat K H (.tup (.str kd::r)) v0:=by rw [← ek];exact h0
 refine aK (K:=K) (b:=iM t) (RT.as (aD (bo (aQ (k:=0) (ae h0') ao rfl) aB)) hcall) (λc H1 s1=>?_) (λc H1 s1=>?_)
 ·have e:dN ps f t=some (3,.tup []):=by unfold dN;rw [if_pos c]
  rw [e] at post
  exact aW (K:=K) (d:=.tup [.int 3,.tup []]) (aP (ab ao (ab (aP av) av))) λv H' s q=>post v H' (s1.trans s) q
 have ebb:dN ps f t=(ft ps t).foldl (cV f) none:=by unfold dN;rw [if_neg (by rw [c];exact Bool.false_ne_true)]
 rw [ebb] at post
 refine cZ (wD ?_)
 refine cJ (RC.use (K:=K) (cD (R:=yr) (bY (ae (k:=0) (s1.dat h0)) (bS (aF (k:=1) (s1.ld h1)) bF)) ⟨ps,t,rfl,okS,okt,dpt,rfl⟩) λl ys H2 hl s2 hy hdy=>?_)
 have s12:=s1.trans s2
 have ly:=hdy.length
 rw [List.length_map] at ly
 refine ⟨l,rfl,⟨ys,SqL.of hy⟩,jA (xs:=ys) (λi σ G=>∃ (vb:V) (z5 z6 z7 z8 z9:Option V),σ=[some v0,some v1,some v2,some v3,some vb,z5,z6,z7,z8,z9]/\Same H2 G/\Dat K G (bD (((ft ps t).take i).foldl (cV f) none)) vb) ?_ (λi σ G _ zq=>by obtain ⟨_,_,_,_,_,_,_,p,_⟩:=zq;exact SqL.of (p _ _ hy)) ?_ ?_⟩
 ·exact ⟨.non,_,_,_,_,_,rfl,Same.refl _,Dat.nonI⟩
 ·rintro i vx σ G hi ⟨vb,z5,z6,z7,z8,z9,rfl,sG,hb⟩
  have sHG:=s12.trans sG
  obtain ⟨dx,ex,hx⟩:=(sG.dats hdy).getV hi
  rw [List.getElem?_map] at ex
  cases hw:(ft ps t)[i]? with
  | none=>rw [hw] at ex;cases ex
  | some w =>
   rw [hw] at ex
   cases ex
   have hwm:=List.mem_of_getElem? hw
   obtain ⟨few,few3⟩:=AG okS.ok hwm
   have et:(ft ps t).take (i+1)=(ft ps t).take i++[w]:=by rw [List.take_add_one,hw];rfl
   rw [et,List.foldl_append,List.foldl_cons,List.foldl_nil]
   generalize ((ft ps t).take i).foldl (cV f) none=best at hb ⊢
   obtain ⟨pa,us,rfl,hpa,hus⟩:=(show Dat K G (.tup [.str w.nm,.tup w.cs,.tup (w.ts.map toD)]) vx from hx).tupE
   obtain ⟨x5,x6,x7,rfl,k5,k6,k7⟩:=vH hus
   refine ⟨pa,_,rfl,hpa,rfl,_,_,rfl,_,_,rfl,_,_,rfl,rfl,?_⟩
   dsimp only
   refine eI (K:=K) (lN (ae (k:=7) k7) (by rw [List.length_map];omega) (w.ts.map λx=>bD (f x)) (by rw [List.length_map,List.length_map]) rfl (λG1 j c v d s1 hc hd hv=>?_)) λlw zs G2 hlw s2 hzs dzs=>?_
   ·rw [List.getElem?_map] at hc hd
    cases hx:w.ts[j]? with
    | none=>rw [hx] at hc;cases hc
    | some x =>
     rw [hx] at hc hd
     cases hc
     cases hd
     have hxt:=hts w hwm x (List.mem_of_getElem? hx)
     obtain ⟨m,hm1,hm2⟩:=sL (λy hy=>(okts y hy).1) (okts x hxt).1 hxt
     have sH1:=sHG.trans s1
     refine fH (k:=m) (aF (k:=2) (sH1.ld h3)) (ub (k:=1) (sH1.ld h2) (ae (k:=0) hv) (dE ts) (bN x) (Nat.le_trans (gT (n:=8) ts λy hy=>(okts y hy).2) (by decide)) (by rw [List.length_map];omega) ⟨toD x,by rw [List.getElem?_map,hm1];rfl,eV _ (bN x)⟩ hm2) (by rw [List.getElem?_map,hm1];rfl)
   have hL2:LD K G2 (w.ts.map λx=>bD (f x)) (.ref lw):=LD.of hzs dzs
   have eM:(w.ts.map λx=>bD (f x))=(w.ts.map f).map bD:=by rw [List.map_map];rfl
   have lM:(w.ts.map f).length≤8:=by rw [List.length_map];exact few
   rw [eM] at hL2
   generalize hfb:w.ts.map f=fb at hL2 lM
   have eS:∀ b,cV f b w=qg b w (eQ fb):=λb=>by unfold cV;rw [hfb]
   rw [eS]
   refine aK (K:=K) (b:=(eQ fb).isNone) (RT.as (aX (BC (bs:=fb.map λb=>isN (bD b)) (fG (aF (k:=8) hL2) (by rw [List.length_map];omega) _ (by simp) rfl (λG1 j c v d s1 hc hd hv=>?_)))) (rX fb)) (λcN G3 s3=>BM ?_) (λcS G3 s3=>?_)
   ·rw [List.getElem?_map] at hc hd
    rw [List.getElem?_map] at hd
    cases hx:fb[j]? with
    | none=>rw [hx] at hc;cases hc
    | some b =>
     rw [hx] at hc hd
     cases hc
     cases hd
     exact rC (ae (k:=0) hv)
   ·have eN:eQ fb=none:=by cases e:eQ fb with | none=>rfl | some _=>rw [e] at cN;cases cN
    refine ⟨vb,_,_,_,_,_,rfl,sG.trans (s2.trans s3),?_⟩
    rw [eN]
    exact (s2.trans s3).dat hb
   ·cases eb:eQ fb with
    | none=>rw [eb] at cS;cases cS
    | some bs =>
     have efb:=r6 eb
     have lbs:bs.length≤8:=by rw [efb,List.length_map] at lM;exact lM
     have lbw:bs.length=w.ts.length:=by
      have:=congrArg List.length hfb
      rw [efb,List.length_map,List.length_map] at this
      exact this.symm
     have hL3:=s3.ld hL2
     have s23:=s2.trans s3
     refine dt (K:=K) (d:=.int (dj w (bs.map (·.1)))) (bK (R:=Cy) (bY (ae (k:=5) (s23.dat k5)) (bY (ae (k:=6) (s23.dat k6)) (bS (ds:=(bs.map (·.1)).map D.int) (dI (fG (aF (k:=8) hL3) (by rw [List.length_map];omega) _ (by rw [efb];simp) rfl (λG1 j c v d s1 hc hd hv=>?_))) bF))) ⟨w,bs.map (·.1),rfl,λz=>by rw [List.length_map,lbw];exact few3 z,rfl⟩) λvl G4 s4 q4=>?_
     ·rw [efb] at hc
      simp only [List.getElem?_map] at hc hd
      cases hx:bs[j]? with
      | none=>rw [hx] at hc;cases hc
      | some b =>
       rw [hx] at hc hd
       cases hc
       cases hd
       exact aQ (k:=0) (ae (k:=0) hv) ao rfl
     have s24:=s23.trans s4
     have el:=q4.intE
     subst el
     have hb4:=s24.dat hb
     have new:∀ {G5:Hp},Same G4 G5->RE K (Av (bR (jl 9) (bR (Av (bR (jl 5) (bR (tCB (λxs H Q=>∃ p ys,xs=[.ref p]/\((SqL K H p ys/\∀ l,H l=none->Q (.ref l) (upd H l (.tup ys)))\/(SqT K H p ys/\Q (.ref p) H))) (bR (iA (pK K (jl 8)) (mkS ["one"] []) (cU 0) gE (tOp (tZ K) (jl 0) (tC (.int 1)))) dQ)) dQ))) dQ))) [some v0,some v1,some v2,some v3,some vb,some x5,some x6,some x7,some (.ref lw),some (.int (dj w (bs.map (·.1))))] G5 (.tup [.int (dj w (bs.map (·.1))),cvD w.nm bs]):=λ{G5} s5=>by
      refine aP (ab (ae (k:=9) (Dat.intI _)) (ab (aP (ab (ae (k:=5) ((s24.trans s5).dat k5)) (ab (p9 (es:=bs.map (·.2)) (fG (aF (k:=8) ((s4.trans s5).ld hL3)) (by rw [List.length_map];omega) _ (by rw [efb];simp) rfl (λG1 j c v d s1 hc hd hv=>?_))) av))) av))
      rw [efb] at hc
      simp only [List.getElem?_map] at hc hd
      cases hx:bs[j]? with
      | none=>rw [hx] at hc;cases hc
      | some b =>
       rw [hx] at hc hd
       cases hc
       cases hd
       exact aQ (k:=1) (ae (k:=0) hv) ao rfl
     have done:∀ {G5:Hp} {d:D},Same G4 G5->d=bD (fQ best (dj w (bs.map (·.1))) (cvD w.nm bs))->∀ v,Dat K G5 d v->∃ (vb:V) (z5 z6 z7 z8 z9:Option V),[some v0,some v1,some v2,some v3,some v,some x5,some x6,some x7,some (.ref lw),some (.int (dj w (bs.map (·.1))))]=[some v0,some v1,some v2,some v3,some vb,z5,z6,z7,z8,z9]/\Same H2 G5/\Dat K G5 (bD (fQ best (dj w (bs.map (·.1))) (cvD w.nm bs))) vb:=λ{G5 d} s5 e v hv =>
      ⟨v,_,_,_,_,_,rfl,sG.trans (s24.trans s5),e ▸ hv⟩
     cases best with
     | none =>
      refine js (b:=true) (RT.as (dJ (b:=true) (c:=true) (aD (rC (K:=K) (ae (k:=4) hb4))) λc=>nomatch c) rfl) (λ_ G5 s5=>?_) (λc=>nomatch c)
      exact rG (K:=K) (new s5) λv G6 s6 q6=>done (s5.trans s6) rfl v q6
     | some b0 =>
      have hb4':Dat K G4 (.tup [.int b0.1,b0.2]) vb:=hb4
      refine js (b:=decide (dj w (bs.map (·.1)) < b0.1)) (RT.as (dJ (b:=false) (aD (rC (K:=K) (ae (k:=4) hb4'))) λ_=>aD (eR (p:=λi j=>decide (i < j)) (ae (k:=9) (Dat.intI _)) (aQ (k:=0) (ae (k:=4) hb4') ao rfl))) (Bool.false_or _)) (λc G5 s5=>?_) (λc G5 s5=>jO ?_)
      ·refine rG (K:=K) (new s5) λv G6 s6 q6=>done (s5.trans s6) ?_ v q6
       show _=bD (if dj w (bs.map (·.1)) < b0.1 then _ else _)
       rw [if_pos (of_decide_eq_true c)]
       rfl
      ·refine done (d:=bD (some b0)) s5 ?_ vb (s5.dat hb4')
       show _=bD (if dj w (bs.map (·.1)) < b0.1 then _ else _)
       rw [if_neg (of_decide_eq_false c)]
 ·rintro σ G ⟨vb,z5,z6,z7,z8,z9,rfl,sG,hb⟩
  rw [← ly,List.take_length] at hb
  exact ⟨_,rfl,post vb G (s12.trans sG) hb⟩
theorem fR:∀ (t:Tr) (j:Nat) (x:Tr),(ax t)[j]?=some x->∃ r,(ax t).drop j=ax x++r
 | .num n,j,x,h=>by
  cases j with
  | zero=>cases h;exact ⟨[],rfl⟩
  | succ j=>simp [ax] at h
 | .arg n,j,x,h=>by
  cases j with
  | zero=>cases h;exact ⟨[],rfl⟩
  | succ j=>simp [ax] at h
 | .call n,j,x,h=>by
  cases j with
  | zero=>cases h;exact ⟨[],rfl⟩
  | succ j=>simp [ax] at h
 | .two o a b,j,x,h=>by
  cases j with
  | zero=>cases h;exact ⟨[],by rw [List.drop_zero,List.append_nil]⟩
  | succ j =>
   have h':(ax a++ax b)[j]?=some x:=by simpa [ax] using h
   show ∃ r,(ax a++ax b).drop j=ax x++r
   by_cases hj:j < (ax a).length
   ·rw [List.getElem?_append_left hj] at h'
    obtain ⟨r,e⟩:=fR a j x h'
    exact ⟨r++ax b,by rw [List.drop_append_of_le_length (Nat.le_of_lt hj),e,List.append_assoc]⟩
   ·rw [List.getElem?_append_right (by omega)] at h'
    obtain ⟨r,e⟩:=fR b _ x h'
    refine ⟨r,?_⟩
    rw [List.drop_append,List.drop_of_length_le (by omega),List.nil_append]
    exact e
 | .pick a b c,j,x,h=>by
  cases j with
  | zero=>cases h;exact ⟨[],by rw [List.drop_zero,List.append_nil]⟩
  | succ j =>
   have h':(ax a++(ax b++ax c))[j]?=some x:=by simpa [ax] using h
   show ∃ r,(ax a++ax b++ax c).drop j=ax x++r
   rw [List.append_assoc]
   by_cases hj:j < (ax a).length
   ·rw [List.getElem?_append_left hj] at h'
    obtain ⟨r,e⟩:=fR a j x h'
    exact ⟨r++(ax b++ax c),by rw [List.drop_append_of_le_length (Nat.le_of_lt hj),e,List.append_assoc]⟩
   ·rw [List.getElem?_append_right (by omega)] at h'
    rw [List.drop_append,List.drop_of_length_le (l:=ax a) (by omega),List.nil_append]
    generalize j - (ax a).length=i at h' ⊢
    by_cases hi:i < (ax b).length
    ·rw [List.getElem?_append_left hi] at h'
     obtain ⟨r,e⟩:=fR b i x h'
     exact ⟨r++ax c,by rw [List.drop_append_of_le_length (Nat.le_of_lt hi),e,List.append_assoc]⟩
    ·rw [List.getElem?_append_right (by omega)] at h'
     obtain ⟨r,e⟩:=fR c _ x h'
     refine ⟨r,?_⟩
     rw [List.drop_append,List.drop_of_length_le (by omega),List.nil_append]
     exact e
theorem o5 (hi:i < aC t) (h:(ax t)[aC t - 1 - i]?=some x) (hy:y ∈ (bh x).flatMap ax):y ∈ (ax t).reverse.take i:=by
 obtain ⟨r,e⟩:=fR t _ x h
 have e2:(ax t).drop (aC t - i)=(bh x).flatMap ax++r:=by
  have:aC t - i=aC t - 1 - i+1:=by omega
  rw [this,← List.drop_drop,e,dB x]
  rfl
 rw [List.take_reverse,List.mem_reverse,bI,e2]
 exact List.mem_append_left _ hy
theorem BJ {α:Type} {l:List α} (h:i < l.length):l.reverse[i]?=l[l.length - 1 - i]?:=List.getElem?_reverse h
noncomputable def yk (as:List Ar) (d:D):Prop:=∃ (ps:List Pc) (t:Tr) (b:Int × D),as=[.d (toD t),.l (ps.map pcD)]/\mq ps/\okX t/\aE t≤8/\aC t≤200/\bx ps t=some b/\d=.tup [.int b.1,b.2]
theorem Dv {ta:TA} {g:TG} {tb:TS} (h:ta σ H λvs H1=>∃ a xs,vs=[.ref a]/\SqL K H1 a xs/\∃ W:Nat->Nat->L2.St->Hp->Prop,(∃ m,W 0 m σ H1)/\∀ i m σ H,W i m σ H ->
   ((Itv K a xs).stop i H/\En.nx σ H)\/((Itv K a xs).go i H/\∃ N:L2.St->Hp->Prop,(∀ σ' H',N σ' H'->∃ m',m' < m/\W (i+1) m' σ' H')/\∀ x H',(Itv K a xs).yld i H x H'->g x σ H' λσ2 H2=>tb { En with nx:=N,ct:=N,bk:=En.nx } σ2 H2)):Ey (D5 K ta) g tb En σ H:=h
theorem B8 (h:mq ps):∀ p ∈ ps,cz p.pt=true:=λp hp=>(h.ok p hp).nh
theorem lG (T:Txt P w K mg) (JZ:FnOk P w K mg base CX0 k T.Io T.Iw ["tree"] (iG K (fO 8))) (KZ:FnOk P w K mg base CX0 k T.Gy T.GD ["tree","some","done","bests"] (spA K yi)):FnOk P w K mg base CX0 (k+1) T.FE T.FG ["tree","some"] (spA K yk):=by
 refine T.Gp.ok sc_best_covering (λvs H Q E h=>?_) (λcdv A outer s H vs Q E hr h=>?_)
 ·obtain ⟨as,d,hd,⟨ps,t,b,rfl,_⟩,_⟩:=h;exact hd.length.symm
 have nd:=sc_best_covering.nd
 obtain ⟨as,d,hd,⟨ps,t,b,rfl,okS,okt,dpt,szt,hbst,rfl⟩,post⟩:=h
 obtain ⟨v0,v1,rfl,h0,h1⟩:=qt hd
 have h0:Dat K H (toD t) v0:=h0
 have h1:LD K H (ps.map pcD) v1:=h1
 refine ⟨_,(aj (bj (i:=2) nd rfl (Or.inl rfl) (bA af))
 (aj (bj (i:=3) nd rfl (Or.inl rfl) (bA af))
 (aj (gA PassesOwn.never rfl (Dq rfl T.K8 (ag (ay JZ hr rfl T.Ky T.JF.kp (ni T) .nil aO (ag (pv 0) af)) af)) (aL (i:=4) nd rfl (Or.inl rfl)) (aj (bE (dq PySem.F.plainAttrs_list PySem.F.slot_list_append PySem.F.type_list_append bQ (pv 3) (ag (ay KZ hr rfl T.J5 T.HG.kp (m9 T) .nil aO (ag (pv 4) (ag (pv 1) (ag (pv 2) (ag (pv 3) af))))) af)))
 (au (bE (dq PySem.F.plainAttrs_list PySem.F.slot_list_append PySem.F.type_list_append bQ (pv 2) (ag (pv 4) af))))))
 (aj (bq (aV uV (aN bM (pv 3) (Ca AC ak) (λ_ _=>rfl)) lJ (aY _)) (au iP) aR)
 (au (aI (aN bM (pv 3) (Ca AC ak) (λ_ _=>rfl)))))))),?_⟩
 refine cZ ⟨cm (by decide),λld hld=>?_⟩
 refine cZ ⟨cm (by decide),λlb hlb=>?_⟩
 have ndb:ld≠lb:=az aq hlb
 have s1:Same H (upd (upd H ld (.lst [])) lb (.lst [])):=(aG hld _).trans (aG hlb _)
 have hlb0:H lb=none:=(aG hld _).free hlb
 have hd1:upd (upd H ld (.lst [])) lb (.lst []) ld=some (.lst []):=by rw [aJ ndb];exact aq
 have hb1:upd (upd H ld (.lst [])) lb (.lst []) lb=some (.lst []):=aq
 generalize upd (upd H ld (.lst [])) lb (.lst [])=G1 at s1 hd1 hb1 ⊢
 refine cJ (Dv (K:=K) (cQ (RC.use (K:=K) (i8 (R:=fO 8) (ab (ae (k:=0) (s1.dat h0)) av) ⟨t,rfl,okt,dpt,szt,rfl⟩) λlw xs G2 hlw s2 hxs dxs=>?_)))
 have nwd:ld≠lw:=az hd1 hlw
 have nwb:lb≠lw:=az hb1 hlw
 have lx:=dxs.length
 rw [List.length_map,bI] at lx
 refine ⟨lw,xs,rfl,SqL.of hxs,A2 (xs:=xs) (λi σ G=>∃ (z4:Option V) (us ws:List V),σ=[some v0,some v1,some (.ref ld),some (.ref lb),z4]/\Same H G/\G lw=some (.lst xs)/\Dats K G ((ax t).map toD) xs/\G ld=some (.lst us)/\Dats K G (((ax t).reverse.take i).map toD) us/\G lb=some (.lst ws)/\Dats K G (((ax t).reverse.take i).map λx=>bD (bx ps x)) ws) ?_ (λi σ G _ zq=>by obtain ⟨_,_,_,_,_,p,_⟩:=zq;exact SqL.of p) ?_ ?_⟩
 ·exact ⟨none,[],[],rfl,s1.trans s2,hxs,dxs,s2 _ _ hd1,Dats.nil,s2 _ _ hb1,Dats.nil⟩
 ·rintro i vx σ G hi hx ⟨z4,us,ws,rfl,sG,hwG,dxG,hdG,dus,hbG,dws⟩
  obtain ⟨dx,ex,hxd⟩:=dxG.getV hx
  rw [List.getElem?_map] at ex
  cases hp:(ax t)[xs.length - 1 - i]? with
  | none=>rw [hp] at ex;cases ex
  | some x =>
   rw [hp] at ex
   cases ex
   have hp':(ax t)[aC t - 1 - i]?=some x:=by rw [lx];exact hp
   have hxm:=List.mem_of_getElem? hp
   have okx:=ij t x okt hxm
   have dpx:=(bZ t x hxm).2
   have hi':i < (ax t).reverse.length:=by rw [List.length_reverse,bI];omega
   have ei:(ax t).reverse[i]?=some x:=by
    rw [BJ (by rw [bI];omega),bI]
    exact hp'
   have et:(ax t).reverse.take (i+1)=(ax t).reverse.take i++[x]:=by rw [List.take_add_one,ei];rfl
   have lus:us.length≤200:=by rw [← dus.length,List.length_map,List.length_take];omega
   have lws:ws.length≤200:=by rw [← dws.length,List.length_map,List.length_take];omega
   refine jc ?_
   dsimp only
   refine gL (K:=K) (d:=bD (bx ps x)) (bK (R:=yi) (bY (ae (k:=4) hxd) (bS (aF (k:=1) (sG.ld h1)) (bS (aF (k:=2) (LD.of hdG dus)) (bS (aF (k:=3) (LD.of hbG dws)) bF)))) ⟨ps,x,bx ps,(ax t).reverse.take i,rfl,okS,okx,by omega,by rw [List.length_take];rw [List.length_reverse,bI];omega,λy hy=>?_,λw hw y hy=>o5 (by omega) hp' (mX (B8 okS) hw y hy),by rw [← gj (B8 okS)]⟩) hbG (by omega) λy G3 b3 hb3 q3=>?_
   ·have hym:y ∈ ax t:=List.mem_reverse.mp (List.mem_of_mem_take hy)
    have:=(bZ t y hym).2
    exact ⟨ij t y okt hym,by omega⟩
   have g3:cW K G G3:=b3.grow hbG hb3
   have hd3:=b3 _ _ ndb hdG
   have hw3:=b3 _ _ (Ne.symm nwb) hwG
   refine mU (K:=K) (d:=toD x) (ae (k:=4) (Dat.mono g3 _ hxd)) hd3 (by omega) λy4 G4 b4 hd4 q4=>?_
   have g4:cW K G3 G4:=b4.grow hd3 hd4
   refine ⟨_,us++[y4],ws++[y],rfl,λa o ha=>b4 a o (az ha hld) (b3 a o (az ha hlb0) (sG _ _ ha)),b4 _ _ (Ne.symm nwd) hw3,Dats.mono g4 _ (Dats.mono g3 _ dxG),hd4,?_,b4 _ _ (Ne.symm ndb) hb3,?_⟩
   ·rw [et,List.map_append]
    exact Dats.append (Dats.mono g4 _ (Dats.mono g3 _ dus)) (Dats.cons q4 Dats.nil)
   ·rw [et,List.map_append]
    exact Dats.append (Dats.mono g4 _ (Dats.mono g3 _ dws)) (Dats.cons (Dat.mono g4 _ q3) Dats.nil)
 ·rintro σ G ⟨z4,us,ws,rfl,sG,hwG,dxG,hdG,dus,hbG,dws⟩
  have ea:((ax t).reverse.take xs.length).map (λx=>bD (bx ps x))=(((bh t).flatMap ax).reverse.map λx=>bD (bx ps x))++[bD (some b)]:=by
   rw [← lx,← bI,← List.length_reverse,List.take_length,dB,List.reverse_cons,List.map_append,List.map_cons,List.map_nil,hbst]
  rw [ea] at dws
  have hL:LD K G ((((bh t).flatMap ax).reverse.map λx=>bD (bx ps x))++[bD (some b)]) (.ref lb):=LD.of hbG dws
  refine aK (K:=K) (b:=false) (aD (rC (p6 (aF (k:=3) hL) (Ci ao)))) (λc=>nomatch c) (λ_ G3 s3=>?_)
  exact aW (K:=K) (d:=bD (some b)) (p6 (aF (k:=3) (s3.ld hL)) (Ci ao)) λv G4 s4 q4=>post v G4 (sG.trans (s3.trans s4)) q4
structure qI (ps:List Pc):Prop where
 lo:1≤ps.length
 hi:ps.length≤16
 pc:∀ p ∈ ps,nX (pcD p)=some true/\p.nm.length≤sizeLine
 nd:(ps.map (·.nm)).Nodup
noncomputable def CB (as:List Ar) (d:D):Prop:=∃ ps,as=[.l (ps.map pcD)]/\qI ps/\d=.bl true
theorem xF (T:Txt P w K mg) (LJ:FnOk P w K mg base CX0 k T.IY T.Je ["thing"] (spD K uv)):FnOk P w K mg base CX0 (k+1) T.J0 T.J1 ["thing"] (spA K CB):=by
 refine T.Ku.ok sc_is_set (λvs H Q E h=>?_) (λcdv A outer s H vs Q E hr h=>?_)
 ·obtain ⟨as,d,hd,⟨ps,rfl,_⟩,_⟩:=h;exact hd.length.symm
 have nd:=sc_is_set.nd
 obtain ⟨as,d,hd,⟨ps,rfl,hS,rfl⟩,post⟩:=h
 obtain ⟨v0,rfl,h0⟩:=CH hd
 have h0:LD K H (ps.map pcD) v0:=h0
 have hlo:=hS.lo
 have hhi:=hS.hi
 refine ⟨_,(aj (bq (PW.pt (fF (ck (br (aT (eA vU) rfl T.Fd bT (cq (pv 0) (cq (fD (v:=.ty "list") rfl T.Lq qy rfl) af))) (λ_=>rfl))) (fq (ck (oj jr jr ak (aT aU rfl T.Fq bP (ag (pv 0) af)) (bL (v:=.int 16) rfl T.Gs ⟨_,rfl⟩)))))) (au (aI cu)) aR)
 (aj (bq (ck (br (aT (gY rfl) rfl T.KQ kj (ag (cO (own:=["piece"]) (fr:=[]) (N':=["piece"]) (di (pv 0)) rfl (by show cj ["thing"] (λx=>(aA iS).names.lookup x) _ _ _ _=true;decide +kernel) rfl (λ_ _ _ _ _=>(aL (i:=0) (by show List.Nodup [("piece":Str)];decide +kernel) rfl (Or.inl rfl))) (λ_ _ _ _ _=>bO) (λ_ _ _ _ _=>(ay LJ hr rfl T.K7 T.JO.kp (uy T) .nil aO (ag (pv 0) af)))) af)) (λ_=>rfl))) (au (aI cu)) aR)
 (au (aI (cA cF (aT su rfl T.Fq bP (ag (dS (xg rfl) rfl T.Mg CN (ag (cO (own:=["piece"]) (fr:=[]) (N':=["piece"]) (di (pv 0)) rfl (by show cj ["thing"] (λx=>(aA iS).names.lookup x) _ _ _ _=true;decide +kernel) rfl (λ_ _ _ _ _=>(aL (i:=0) (by show List.Nodup [("piece":Str)];decide +kernel) rfl (Or.inl rfl))) (λ_ _ _ _ _=>bO) (λ_ _ _ _ _=>(aN (r:=tZ K) aS (pv 0) ak (λ_ _=>rfl)))) af)) af)) (aT aU rfl T.Fq bP (ag (pv 0) af)) (aY _)))))),?_⟩
 refine aK (K:=K) (b:=false) ?_ (λc=>nomatch c) (λ_ H1 s1=>?_)
 ·refine RT.as (dJ (b:=false) (RT.as (bJ (aX (cf (ae h0.lst)))) rfl) λ_=>bJ (aD (kS (p:=λi j=>decide (i≤j)) (r:=λi j=>decide (i≤j)) ao (fY (aF h0)) λ_=>ao))) ?_
  rw [List.length_map,Bool.false_or,decide_eq_true (show (1:Int)≤(ps.length:Int) by omega),decide_eq_true (show (ps.length:Int)≤16 by omega)]
  rfl
 have h0:=s1.ld h0
 refine aK (K:=K) (b:=false) ?_ (λc=>nomatch c) (λ_ H2 s2=>?_)
 ·refine RT.as (bJ (aX (i9 (bs:=ps.map λ_=>true) (fG (aF h0) (by rw [List.length_map];omega) _ (by simp) rfl (λG1 j c v d s1 hc hd hv=>?_))))) ?_
  ·simp only [List.getElem?_map] at hc hd
   cases hx:ps[j]? with
   | none=>rw [hx] at hc;cases hc
   | some p =>
    rw [hx] at hc hd
    cases hc
    cases hd
    obtain ⟨k1,k2⟩:=hS.pc p (List.mem_of_getElem? hx)
    exact bg (R:=uv) (ab (ae (k:=0) hv) av) ⟨pcD p,true,rfl,k2,k1,rfl⟩
  ·rw [List.all_map]
   simp
 have h0:=s2.ld h0
 refine aW (K:=K) (d:=.bl true) (RE.as (rA (xP (zs:=ps.map (·.nm)) (fG (aF h0) (by rw [List.length_map];omega) _ (by simp) rfl (λG1 j c v d s1 hc hd hv=>?_)) (by rw [List.length_map];omega)) (fY (aF h0))) ?_) λv H' s q=>post v H' (s1.trans (s2.trans s)) q
 ·simp only [List.getElem?_map] at hc hd
  cases hx:ps[j]? with
  | none=>rw [hx] at hc;cases hc
  | some p =>
   rw [hx] at hc hd
   cases hc
   cases hd
   exact aQ (k:=0) (ae (k:=0) hv) ao rfl
 ·rw [(AW _).mpr hS.nd,List.length_map,List.length_map]
  simp
noncomputable def j7 (as:List Ar) (d:D):Prop:=∃ ps,as=[.l (ps.map pcD)]/\qI ps/\d=.non
theorem tS (T:Txt P w K mg) (LV:FnOk P w K mg base CX0 k T.J0 T.J1 ["thing"] (spA K CB)):FnOk P w K mg base CX0 (k+1) T.Hg T.Hi ["some"] (spA K j7):=by
 refine T.HV.ok sc_need_set (λvs H Q E h=>?_) (λcdv A outer s H vs Q E hr h=>?_)
 ·obtain ⟨as,d,hd,⟨ps,rfl,_⟩,_⟩:=h;exact hd.length.symm
 have nd:=sc_need_set.nd
 obtain ⟨as,d,hd,⟨ps,rfl,hS,rfl⟩,post⟩:=h
 obtain ⟨v0,rfl,h0⟩:=CH hd
 have h0:LD K H (ps.map pcD) v0:=h0
 refine ⟨_,(au (bq (ck (br (ay LV hr rfl T.LG T.Ku.kp (yw T) .nil aO (ag (pv 0) af)) (λ_=>rfl))) (au iP) aR)),?_⟩
 exact js (b:=false) (bJ (aX (bK (K:=K) (R:=CB) (bS (aF h0) bF) ⟨ps,rfl,hS,rfl⟩))) (λc=>nomatch c) (λ_ H1 s1=>post _ H1 s1 Dat.nonI)
noncomputable def pJ:Pa->Nat
 | .gap _ _=>1
 | .two _ a b=>pJ a+pJ b
 | _=>0
noncomputable def lU:Pa->Nat
 | .slot _=>1
 | .two _ a b=>lU a+lU b
 | _=>0
theorem nv:∀ (p:Pa) (t:Tr) (f:Fnd),bC p t=some f->f.2.1.length=pJ p/\f.2.2.length=lU p
 | .hole i,t,f,h=>by cases h;exact ⟨rfl,rfl⟩
 | .gap i m,t,f,h=>by
  cases t with
  | num n =>
   have h':(if n≤m then some ([],[n],[]) else none:Option Fnd)=some f:=h
   by_cases z:n≤m
   ·rw [if_pos z] at h';cases h';exact ⟨rfl,rfl⟩
   ·rw [if_neg z] at h';cases h'
  | _=>cases h
 | .slot i,t,f,h=>by
  cases t with
  | arg n=>cases h;exact ⟨rfl,rfl⟩
  | _=>cases h
 | .num m,t,f,h=>by
  cases t with
  | num n =>
   have h':(if n=m then some ([],[],[]) else none:Option Fnd)=some f:=h
   by_cases z:n=m
   ·rw [if_pos z] at h';cases h';exact ⟨rfl,rfl⟩
   ·rw [if_neg z] at h';cases h'
  | _=>cases h
 | .two o a b,t,f,h=>by
  cases t with
  | two o' u v =>
   obtain ⟨_,f1,f2,e1,e2,e3⟩:=dm h
   subst e3
   have h1:=nv a u f1 e1
   have h2:=nv b v f2 e2
   refine ⟨?_,?_⟩
   ·show (f1.2.1++f2.2.1).length=pJ a+pJ b
    rw [List.length_append,h1.1,h2.1]
   ·show (f1.2.2++f2.2.2).length=lU a+lU b
    rw [List.length_append,h1.2,h2.2]
  | _=>cases h
inductive Cl where
 | n (i:Int)
 | arg (k:Nat)
 | low (k:Nat)
 | high (k:Nat)
noncomputable def clD:Cl->D
 | .n i=>.int i
 | .arg k=>.tup [.str "arg",.int k]
 | .low k=>.tup [.str "low",.int k]
 | .high k=>.tup [.str "high",.int k]
noncomputable def ju (g s:Nat):Cl->Bool
 | .n _=>true
 | .arg k=>decide (k < s)
 | .low k=>decide (k < g)
 | .high k=>decide (k < g)
noncomputable def vO (nums ks:List Int):Cl->Int
 | .n i=>i
 | .arg k=>ks.getD k 0
 | .low k=>nums.getD k 0 % 100
 | .high k=>nums.getD k 0 / 100
structure BZ (p:Pc) (cl:List Cl):Prop where
 eq:p.cs=cl.map clD
 ok:∀ c ∈ cl,ju (pJ p.pt) (lU p.pt) c=true
noncomputable def lD (near far:Int) (n:Nat):List D:=(iD near far n).map D.int
theorem kM (near far:Int) (n:Nat):((lD near far n).length:Int)=eY n:=by unfold lD;rw [List.length_map,jB]
noncomputable def fX (x y z:List D):List D:=x++lD 10 11 (y++lD 8 9 z.length).length++(y++lD 8 9 z.length)++z
noncomputable def eZ (xss:List (List D)) (f:Fnd) (cl:List Cl):List D:=xss.flatten++cl.map λc=>D.int (vO f.2.1 f.2.2 c)
noncomputable def mz:D->Option (Str × List D)
 | .tup [.str nm,.tup cs]=>some (nm,cs)
 | _=>none
theorem xj {c:D} {x:Str × List D} (h:mz c=some x):c=.tup [.str x.1,.tup x.2]:=by
 unfold mz at h
 split at h
 ·cases h;rfl
 ·cases h
structure Da (ps:List Pc):Prop where
 nd:(ps.map (·.nm)).Nodup
 nl:∀ p ∈ ps,noL (pcD p)=true/\eU (pcD p)≤19
noncomputable def Bg (nm:Str):D->Bool
 | .tup (.str x::_)=>decide (x=nm)
 | _=>false
theorem pE:∀ {ps:List Pc},(∀ p ∈ ps,p.nm≠nm)->(ps.map pcD).filter (Bg nm)=[]
 | [],_=>rfl
 | p::ps,h=>by
  rw [List.map_cons,List.filter_cons,if_neg]
  ·exact pE λq hq=>h q (List.mem_cons_of_mem _ hq)
  ·show ¬ decide (p.nm=nm)=true
   rw [decide_eq_false (h p List.mem_cons_self)]
   exact Bool.false_ne_true
theorem sJ:∀ {ps:List Pc},(ps.map (·.nm)).Nodup->p ∈ ps->(ps.map pcD).filter (Bg p.nm)=[pcD p]
 | [],_,h=>by cases h
 | q::ps,nd,h=>by
  rw [List.map_cons,List.nodup_cons] at nd
  rcases List.mem_cons.mp h with rfl | h
  ·rw [List.map_cons,List.filter_cons,if_pos (show Bg p.nm (pcD p)=true from decide_eq_true rfl),pE λx hx z=>nd.1 (List.mem_map.mpr ⟨x,hx,z⟩)]
  ·rw [List.map_cons,List.filter_cons,if_neg]
   ·exact sJ nd.2 h
   ·show ¬ decide (q.nm=p.nm)=true
    rw [decide_eq_false λz=>nd.1 (List.mem_map.mpr ⟨p,h,z.symm⟩)]
    exact Bool.false_ne_true
theorem zB {α:Type} {xss:List (List α)} (h:xss.flatten.length≤n):∀ {i:Nat} {x:List α},xss[i]?=some x->(xss.take i).flatten.length+x.length≤n:=by
 intro i x hx
 have e:xss.take (i+1)=xss.take i++[x]:=by rw [List.take_add_one,hx];rfl
 have l:(xss.take (i+1)).flatten.length≤xss.flatten.length:=by
  have z:xss=xss.take (i+1)++xss.drop (i+1):=(List.take_append_drop _ _).symm
  rw [congrArg List.flatten z,List.flatten_append,List.length_append]
  omega
 rw [e,List.flatten_append,List.length_append] at l
 simp only [List.flatten_cons,List.flatten_nil,List.append_nil] at l
 omega
noncomputable def EI:D->Cl
 | .tup [.str k,.int j]=>if k="arg" then .arg j.toNat else if k="low" then .low j.toNat else .high j.toNat
 | .int i=>.n i
 | _=>.n 0
noncomputable def bz (p:Pc):List Cl:=p.cs.map EI
noncomputable def ml (nm:Str) (ps:List Pc):Option Pc:=ps.find? λp=>decide (p.nm=nm)
noncomputable def qr:List (Option (List D))->Option (List (List D))
 | []=>some []
 | none::_=>none
 | some x::r=>(qr r).map (x::·)
noncomputable def e8 (f:Tr->D->Option (List D)) (ts:List Tr) (cs:List D):List (Option (List D)):=(ts.zip cs).map λp=>f p.1 p.2
noncomputable def C9:List (List D)->Option (List D)
 | [a,b,c]=>some (fX a b c)
 | _=>none
noncomputable def j0 (f:Tr->D->Option (List D)) (t:Tr) (cs:List D):Option (List D):=match t with
 | .pick a b d=>if cs.length=3 then (qr (e8 f [a,b,d] cs)).bind C9 else none
 | _=>none
noncomputable def jq (f:Tr->D->Option (List D)) (ps:List Pc) (t:Tr) (nm:Str) (cs:List D):Option (List D):=match ml nm ps with
 | none=>none
 | some p=>match bC p.pt t with
  | none=>none
  | some g=>if g.1.length=cs.length then (qr (e8 f g.1 cs)).map λxss=>eZ xss g (bz p) else none
noncomputable def jY (pl:List Int):Tr->List D
 | .call k=>[.int 15,.int (pl.getD k.toNat 0 % 100),.int (pl.getD k.toNat 0 / 100)]
 | _=>[]
noncomputable def cY (ps:List Pc) (pl:List Int):Nat->Tr->D->Option (List D)
 | 0,_,_=>none
 | n+1,t,c=>if iM t=true then some (jY pl t) else match mz c with
  | none=>none
  | some x=>if x.1="pick" then j0 (cY ps pl n) t x.2 else jq (cY ps pl n) ps t x.1 x.2
theorem o6:∀ {os:List (Option (List D))},os.any Option.isNone=true->qr os=none
 | [],h=>by cases h
 | none::os,_=>rfl
 | some x::os,h=>by
  rw [List.any_cons] at h
  have ih:=o6 (os:=os) (by simpa using h)
  show (qr os).map _=none
  rw [ih]
  rfl
theorem m5:∀ ess:List (List D),qr (ess.map some)=some ess
 | []=>rfl
 | x::ess=>by
  show (qr (ess.map some)).map _=_
  rw [m5 ess]
  rfl
variable {ts:List Tr} {cs:List D}
theorem xH {f:Tr->D->Option (List D)} {k:Nat} {c:D} {o:Option (List D)} (h1:ts[k]?=some t) (h2:cs[k]?=some c) (h3:(e8 f ts cs)[k]?=some o):o=f t c:=by
 unfold e8 at h3
 rw [List.getElem?_map,(List.getElem?_zip_eq_some (z:=(t,c))).mpr ⟨h1,h2⟩] at h3
 cases h3
 rfl
theorem xI {f:Tr->D->Option (List D)} (h:ts.length=cs.length):(e8 f ts cs).length=ts.length:=by
 unfold e8
 rw [List.length_map,List.length_zip]
 omega
theorem pX {f:Tr->D->Option (List D)} (hf:∀ t c es,f t c=some es->es.length≤12 * aC t):∀ {ts:List Tr} {cs:List D} {ess:List (List D)},ts.length=cs.length->e8 f ts cs=ess.map some->ess.flatten.length≤12 * (ts.map aC).sum
 | [],[],ess,_,h=>by
  have:ess=[]:=by cases ess with | nil=>rfl | cons _ _=>cases h
  subst this
  simp
 | t::ts,c::cs,ess,hl,h=>by
  cases ess with
  | nil=>cases h
  | cons x ess =>
   have h':f t c::e8 f ts cs=some x::ess.map some:=h
   injection h' with h1 h2
   have i1:=hf t c x h1
   have i2:=pX hf (ts:=ts) (cs:=cs) (by simpa using hl) h2
   rw [List.flatten_cons,List.length_append,List.map_cons,List.sum_cons]
   omega
 | [],c::cs,_,h,_=>by simp at h
 | t::ts,[],_,h,_=>by simp at h
structure Bc (ps:List Pc):Prop where
 ls:Da ps
 cl:∀ p ∈ ps,BZ p (bz p)
theorem qG:∀ (p:Pa) (t:Tr) (f:Fnd),bC p t=some f->(f.1.map aC).sum≤aC t/\(cz p=true->(f.1.map aC).sum+1≤aC t)
 | .hole i,t,f,h=>by cases h;exact ⟨by simp,λz=>nomatch z⟩
 | .gap i m,t,f,h=>by
  cases t with
  | num n =>
   have h':(if n≤m then some ([],[n],[]) else none:Option Fnd)=some f:=h
   by_cases z:n≤m
   ·rw [if_pos z] at h';cases h';exact ⟨by simp,λ_=>by simp [aC]⟩
   ·rw [if_neg z] at h';cases h'
  | _=>cases h
 | .slot i,t,f,h=>by
  cases t with
  | arg n=>cases h;exact ⟨by simp,λ_=>by simp [aC]⟩
  | _=>cases h
 | .num m,t,f,h=>by
  cases t with
  | num n =>
   have h':(if n=m then some ([],[],[]) else none:Option Fnd)=some f:=h
   by_cases z:n=m
   ·rw [if_pos z] at h';cases h';exact ⟨by simp,λ_=>by simp [aC]⟩
   ·rw [if_neg z] at h';cases h'
  | _=>cases h
 | .two o a b,t,f,h=>by
  cases t with
  | two o' u v =>
   obtain ⟨_,f1,f2,e1,e2,e3⟩:=dm h
   subst e3
   have h1:=(qG a u f1 e1).1
   have h2:=(qG b v f2 e2).1
   have e:((f1.1++f2.1).map aC).sum=(f1.1.map aC).sum+(f2.1.map aC).sum:=by simp
   refine ⟨?_,λ_=>?_⟩
   ·show ((f1.1++f2.1).map aC).sum≤_;simp only [aC];omega
   ·show ((f1.1++f2.1).map aC).sum+1≤_;simp only [aC];omega
  | _=>cases h
theorem iZ (h:ml nm ps=some p):p ∈ ps/\p.nm=nm:=by
 unfold ml at h
 have h0:decide (p.nm=nm)=true:=List.find?_some (p:=λp:Pc=>decide (p.nm=nm)) h
 exact ⟨List.mem_of_find?_eq_some h,of_decide_eq_true h0⟩
variable {es:List D}
theorem i4 {f:Tr->D->Option (List D)} (h:jq f ps t nm cs=some es):∃ p g ess,ml nm ps=some p/\bC p.pt t=some g/\g.1.length=cs.length/\e8 f g.1 cs=ess.map some/\es=eZ ess g (bz p):=by
 unfold jq at h
 cases e1:ml nm ps with
 | none=>rw [e1] at h;cases h
 | some p =>
  rw [e1] at h
  dsimp only at h
  cases e2:bC p.pt t with
  | none=>rw [e2] at h;cases h
  | some g =>
   rw [e2] at h
   dsimp only at h
   by_cases hl:g.1.length=cs.length
   ·rw [if_pos hl] at h
    cases ha:(e8 f g.1 cs).any Option.isNone with
    | true=>rw [o6 ha] at h;cases h
    | false =>
     obtain ⟨ess,e⟩:=o7 ha
     rw [e,m5] at h
     cases h
     exact ⟨p,g,ess,rfl,e2,hl,e,rfl⟩
   ·rw [if_neg hl] at h;cases h
theorem i5 {f:Tr->D->Option (List D)} (h:j0 f t cs=some es):∃ a b d ca cb cd xa xb xd,t=.pick a b d/\cs=[ca,cb,cd]/\f a ca=some xa/\f b cb=some xb/\f d cd=some xd/\es=fX xa xb xd:=by
 cases t with
 | pick a b d =>
  have h:(if cs.length=3 then (qr (e8 f [a,b,d] cs)).bind C9 else none)=some es:=h
  by_cases hl:cs.length=3
  ·rw [if_pos hl] at h
   match cs,hl with
   | [ca,cb,cd],_ =>
    have e:e8 f [a,b,d] [ca,cb,cd]=[f a ca,f b cb,f d cd]:=rfl
    rw [e] at h
    cases ea:f a ca with
    | none=>rw [ea] at h;cases h
    | some xa =>
     cases eb:f b cb with
     | none=>rw [ea,eb] at h;cases h
     | some xb =>
      cases ed:f d cd with
      | none=>rw [ea,eb,ed] at h;cases h
      | some xd =>
       rw [ea,eb,ed] at h
       have h:some (fX xa xb xd)=some es:=h
       cases h
       exact ⟨a,b,d,ca,cb,cd,xa,xb,xd,rfl,rfl,ea,eb,ed,rfl⟩
  ·rw [if_neg hl] at h;cases h
 | _=>cases h
variable {pl:List Int}
theorem iN (ok:∀ p ∈ ps,Bk p):∀ (n:Nat) (t:Tr) (c:D) (es:List D),cY ps pl n t c=some es->es.length≤12 * aC t
 | 0,_,_,_,h=>by cases h
 | n+1,t,c,es,h=>by
  have h:(if iM t=true then some (jY pl t) else match mz c with | none=>none | some x=>if x.1="pick" then j0 (cY ps pl n) t x.2 else jq (cY ps pl n) ps t x.1 x.2)=some es:=h
  by_cases hcl:iM t=true
  ·rw [if_pos hcl] at h
   cases t with
   | call k=>cases h;simp [jY,aC]
   | _=>cases hcl
  rw [if_neg hcl] at h
  cases ec:mz c with
  | none=>rw [ec] at h;cases h
  | some x =>
   rw [ec] at h
   dsimp only at h
   by_cases hp:x.1="pick"
   ·rw [if_pos hp] at h
    obtain ⟨a,b,d,ca,cb,cd,xa,xb,xd,rfl,_,la,lb,ld,rfl⟩:=i5 h
    have h1:=iN ok n a ca xa la
    have h2:=iN ok n b cb xb lb
    have h3:=iN ok n d cd xd ld
    have k1:=kM 8 9 xd.length
    have k2:=kM 10 11 (xb++lD 8 9 xd.length).length
    have j1:=zx (xd.length:Int)
    have j2:=zx ((xb++lD 8 9 xd.length).length:Int)
    have ll:(fX xa xb xd).length=xa.length+(lD 10 11 (xb++lD 8 9 xd.length).length).length+(xb.length+(lD 8 9 xd.length).length)+xd.length:=by unfold fX;simp only [List.length_append]
    simp only [aC]
    omega
   ·rw [if_neg hp] at h
    obtain ⟨p,g,ess,e1,e2,hl,e,rfl⟩:=i4 h
    have okp:=ok p (iZ e1).1
    have h1:=pX (iN ok n) hl e
    have h2:=(qG _ _ _ e2).2 okp.nh
    have h3:=okp.cs
    have z:(eZ ess g (bz p)).length=ess.flatten.length+p.cs.length:=by unfold eZ bz;rw [List.length_append,List.length_map,List.length_map]
    omega
theorem yX {p:Pa} (h:cz p=true) (a b c:Tr):bC p (.pick a b c)=none:=by
 cases p with
 | hole i=>cases h
 | _=>rfl
theorem pF:∀ {ps:List Pc},(ps.map (·.nm)).Nodup->p ∈ ps->ml p.nm ps=some p
 | [],_,h=>by cases h
 | q::ps,nd,h=>by
  rw [List.map_cons,List.nodup_cons] at nd
  unfold ml
  rcases List.mem_cons.mp h with rfl | h
  ·rw [List.find?_cons,decide_eq_true rfl]
  ·rw [List.find?_cons,decide_eq_false λz=>nd.1 (List.mem_map.mpr ⟨p,h,z.symm⟩)]
   exact pF nd.2 h
theorem wa (ih:∀ x b,aE x≤n->bx ps x=some b->∃ es,cY ps pl n x b.2=some es/\(es.length:Int)=b.1):∀ {ts:List Tr} {bs:List (Int × D)},(∀ x ∈ ts,aE x≤n)->ts.map (bx ps)=bs.map some ->
  ∃ xss:List (List D),e8 (cY ps pl n) ts (bs.map (·.2))=xss.map some/\(xss.flatten.length:Int)=(bs.map (·.1)).sum
 | [],[],_,_=>⟨[],rfl,rfl⟩
 | [],b::bs,_,h=>by cases h
 | t::ts,[],_,h=>by cases h
 | t::ts,b::bs,hd,h=>by
  rw [List.map_cons,List.map_cons] at h
  injection h with h1 h2
  obtain ⟨es,l1,l2⟩:=ih t b (hd t List.mem_cons_self) h1
  obtain ⟨xss,r1,r2⟩:=wa ih (λx hx=>hd x (List.mem_cons_of_mem _ hx)) h2
  refine ⟨es::xss,?_,?_⟩
  ·show cY ps pl n t b.2::e8 (cY ps pl n) ts (bs.map (·.2))=some es::xss.map some
   rw [l1,r1]
  ·rw [List.flatten_cons,List.length_append,List.map_cons,List.sum_cons]
   omega
theorem iI (pl:List Int) (hp:∀ p ∈ ps,cz p.pt=true/\p.nm≠"pick") (nd:(ps.map (·.nm)).Nodup):∀ (n:Nat) (t:Tr) (b:Int × D),aE t≤n->bx ps t=some b->∃ es,cY ps pl n t b.2=some es/\(es.length:Int)=b.1
 | 0,t,b,h,_=>by have:=cX t;omega
 | n+1,t,b,h,hb=>by
  have nh:∀ p ∈ ps,cz p.pt=true:=λp q=>(hp p q).1
  rw [gj nh] at hb
  unfold dN at hb
  by_cases hcl:iM t=true
  ·rw [if_pos hcl] at hb
   cases hb
   refine ⟨jY pl t,?_,?_⟩
   ·show (if iM t=true then some (jY pl t) else _)=_
    rw [if_pos hcl]
   ·cases t with
    | call k=>rfl
    | _=>cases hcl
  rw [if_neg hcl] at hb
  rcases sQ _ _ _ hb with e | ⟨w,hw,bs,ea,e⟩
  ·cases e
  injection e with e
  subst e
  have cm:∀ x ∈ w.ts,aE x≤n:=λx hx=>by
   have:=(fV (mX nh hw x hx)).2
   omega
  have em:=rZ ea
  obtain ⟨xss,r1,r2⟩:=wa (iI pl hp nd n) cm em
  have eL:∀ nm,cY ps pl (n+1) t (cvD nm bs)=if nm="pick" then j0 (cY ps pl n) t (bs.map (·.2)) else jq (cY ps pl n) ps t nm (bs.map (·.2)):=λnm=>by
   show (if iM t=true then some (jY pl t) else _)=_
   rw [if_neg hcl]
   rfl
  rw [show (dj w (bs.map (·.1)),cvD w.nm bs).2=cvD w.nm bs from rfl,eL]
  have lbs:bs.length=w.ts.length:=by have:=congrArg List.length em;rw [List.length_map,List.length_map] at this;exact this.symm
  unfold ft at hw
  split at hw
  ·rename_i c
   have ew:=List.mem_singleton.mp hw
   subst ew
   rw [if_pos rfl]
   cases t with
   | pick x y z =>
    match bs,lbs,r1,r2,em with
    | [b1,b2,b3],_,r1,r2,em =>
     have em:[bx ps x,bx ps y,bx ps z]=[some b1,some b2,some b3]:=em
     injection em with m1 em
     injection em with m2 em
     injection em with m3 _
     have lx:xss.length=3:=by have:=congrArg List.length r1;rw [List.length_map] at this;exact this.symm
     match xss,lx,r1,r2 with
     | [x1,x2,x3],_,r1,r2 =>
      have r1:[cY ps pl n x b1.2,cY ps pl n y b2.2,cY ps pl n z b3.2]=[some x1,some x2,some x3]:=r1
      injection r1 with i1 r1
      injection r1 with i2 r1
      injection r1 with i3 _
      obtain ⟨_,k1,j1⟩:=iI pl hp nd n x b1 (cm x (by simp [bh])) m1
      obtain ⟨_,k2,j2⟩:=iI pl hp nd n y b2 (cm y (by simp [bh])) m2
      obtain ⟨_,k3,j3⟩:=iI pl hp nd n z b3 (cm z (by simp [bh])) m3
      rw [i1] at k1
      rw [i2] at k2
      rw [i3] at k3
      cases k1
      cases k2
      cases k3
      refine ⟨fX x1 x2 x3,?_,?_⟩
      ·show (if ([b1,b2,b3].map (·.2)).length=3 then (qr [cY ps pl n x b1.2,cY ps pl n y b2.2,cY ps pl n z b3.2]).bind C9 else none)=_
       rw [i1,i2,i3]
       rfl
      ·show _=dj ⟨"pick",[],[x,y,z]⟩ [b1.1,b2.1,b3.1]
       have el:dj ⟨"pick",[],[x,y,z]⟩ [b1.1,b2.1,b3.1]=wu b2.1 b3.1+(b1.1+b2.1+b3.1):=by
        unfold dj oZ
        rw [if_pos rfl]
        simp
        omega
       rw [el]
       unfold fX wu
       have k1:=kM 8 9 x3.length
       have k2:=kM 10 11 (x2++lD 8 9 x3.length).length
       rw [List.length_append] at k2
       simp only [List.length_append]
       rw [j3] at k1
       have k3:((x2.length+(lD 8 9 x3.length).length:Nat):Int)=b2.1+eY b3.1:=by omega
       rw [k3] at k2
       omega
   | _=>cases c
  ·rename_i c
   obtain ⟨p,h1,h2⟩:=List.mem_filterMap.mp hw
   unfold fk at h2
   cases ef:bC p.pt t with
   | none=>rw [ef] at h2;cases h2
   | some f =>
    rw [ef] at h2
    cases h2
    have hnm:=(hp p h1).2
    rw [if_neg hnm]
    have lbs:bs.length=f.1.length:=lbs
    refine ⟨eZ xss f (bz p),?_,?_⟩
    ·unfold jq
     rw [pF nd h1]
     dsimp only
     rw [ef]
     dsimp only
     rw [if_pos (by rw [List.length_map];exact lbs.symm),r1,m5]
     rfl
    ·show ((xss.flatten++(bz p).map _).length:Int)=dj ⟨p.nm,p.cs,f.1⟩ (bs.map (·.1))
     have lc:(bz p).length=p.cs.length:=by unfold bz;rw [List.length_map]
     unfold dj oZ
     rw [if_neg hnm,List.length_append,List.length_map]
     show _=(p.cs.length:Int)+_
     omega
noncomputable def clN (m:Nat):Tr->Bool
 | .call k=>decide (0≤k) && decide (k.toNat < m)
 | .two _ a b=>clN m a && clN m b
 | .pick a b c=>clN m a && (clN m b && clN m c)
 | _=>true
theorem iK:∀ (t x:Tr),clN m t=true->x ∈ ax t->clN m x=true
 | .num n,x,k,h=>by
  have e:x=.num n:=by simpa [ax] using h
  subst e;exact k
 | .arg n,x,k,h=>by
  have e:x=.arg n:=by simpa [ax] using h
  subst e;exact k
 | .call n,x,k,h=>by
  have e:x=.call n:=by simpa [ax] using h
  subst e;exact k
 | .two o a b,x,k,h=>by
  have k':=k
  simp only [clN,Bool.and_eq_true] at k'
  simp only [ax,List.mem_cons,List.mem_append] at h
  rcases h with rfl | h | h
  ·exact k
  ·exact iK a x k'.1 h
  ·exact iK b x k'.2 h
 | .pick a b c,x,k,h=>by
  have k':=k
  simp only [clN,Bool.and_eq_true] at k'
  simp only [ax,List.mem_cons,List.mem_append] at h
  rcases h with rfl | (h | h) | h
  ·exact k
  ·exact iK a x k'.1 h
  ·exact iK b x k'.2.1 h
  ·exact iK c x k'.2.2 h
theorem mN {ns:List Int} {k:Nat} (h:k < ns.length):(ns.map D.int)[k]?=some (.int (ns.getD k 0)):=by
 rw [List.getElem?_map,List.getD_eq_getElem?_getD,List.getElem?_eq_getElem h]
 rfl
noncomputable def ur (ds:List D) (d:D):Prop:=∃ (c:Cl) (nums ks:List Int),ds=[clD c,.tup (nums.map D.int),.tup (ks.map D.int)]/\ju nums.length ks.length c=true/\d=.int (vO nums ks c)
theorem nS (T:Txt P w K mg)  : FnOk P w K mg base CX0 (k+1) T.GV T.GZ ["cell","nums","ks"] (spD K ur):=by
 refine T.Ib.ok sc_filled_cell (λvs H Q E h=>?_) (λcdv A outer s H vs Q E hr h=>?_)
 ·obtain ⟨ds,d,hd,⟨c,nums,ks,rfl,_⟩,_⟩:=h;exact hd.length.symm
 have nd:=sc_filled_cell.nd
 obtain ⟨ds,d,hd,⟨c,nums,ks,rfl,okc,rfl⟩,post⟩:=h
 obtain ⟨v0,v1,v2,rfl,h0,h1,h2⟩:=vH hd
 refine ⟨_,(aj (bq (br (aT (eA zk) rfl T.Fd bT (cq (pv 0) (cq (fD (v:=.ty "int") rfl T.LZ yA rfl) af))) (λ_=>rfl)) (au (aI (pv 0))) aR)
 (aj (bq (aV cF (aN aS (pv 0) ak (λ_ _=>rfl)) aH (aY _)) (au (aI (bu gy (aN aS (pv 1) (aN aS (pv 0) ak (λ_ _=>rfl)) (λ_ _=>rfl)) ak))) aR)
 (aj (bq (aV cF (aN aS (pv 0) ak (λ_ _=>rfl)) aH (aY _)) (au (aI (bu kQ (aN aS (pv 1) (aN aS (pv 0) ak (λ_ _=>rfl)) (λ_ _=>rfl)) ak))) aR)
 (au (aI (aN aS (pv 2) (aN aS (pv 0) ak (λ_ _=>rfl)) (λ_ _=>rfl))))))),?_⟩
 cases c with
 | n j =>
  have h0:Dat K H (.int j) v0:=h0
  refine aK (K:=K) (b:=true) (aX (cf (ae (k:=0) h0))) (λ_ H1 s1=>?_) (λc=>nomatch c)
  exact aW (K:=K) (d:=.int j) (ae (k:=0) (s1.dat h0)) λv H2 s2 q=>post v H2 (s1.trans s2) q
 | low j =>
  have h0:Dat K H (.tup [.str "low",.int j]) v0:=h0
  have okc:=of_decide_eq_true okc
  refine aK (K:=K) (b:=false) (aX (cf (ae (k:=0) h0))) (λc=>nomatch c) (λ_ H1 s1=>?_)
  refine aK (K:=K) (b:=true) (RT.as (aD (bo (aQ (k:=0) (ae (k:=0) (s1.dat h0)) ao rfl) aB)) (decide_eq_true rfl)) (λ_ H2 s2=>?_) (λc=>nomatch c)
  have s12:=s1.trans s2
  exact aW (K:=K) (d:=.int (nums.getD j 0 % 100)) (u0 (aQ (k:=j) (ae (k:=1) (s12.dat h1)) (aQ (k:=1) (ae (k:=0) (s12.dat h0)) ao rfl) (mN okc)) ao (by decide)) λv H3 s3 q=>post v H3 (s12.trans s3) q
 | high j =>
  have h0:Dat K H (.tup [.str "high",.int j]) v0:=h0
  have okc:=of_decide_eq_true okc
  refine aK (K:=K) (b:=false) (aX (cf (ae (k:=0) h0))) (λc=>nomatch c) (λ_ H1 s1=>?_)
  refine aK (K:=K) (b:=false) (RT.as (aD (bo (aQ (k:=0) (ae (k:=0) (s1.dat h0)) ao rfl) aB)) (decide_eq_false (by decide +kernel))) (λc=>nomatch c) (λ_ H2 s2=>?_)
  have s12:=s1.trans s2
  refine aK (K:=K) (b:=true) (RT.as (aD (bo (aQ (k:=0) (ae (k:=0) (s12.dat h0)) ao rfl) aB)) (decide_eq_true rfl)) (λ_ H3 s3=>?_) (λc=>nomatch c)
  have s13:=s12.trans s3
  exact aW (K:=K) (d:=.int (nums.getD j 0 / 100)) (rB (aQ (k:=j) (ae (k:=1) (s13.dat h1)) (aQ (k:=1) (ae (k:=0) (s13.dat h0)) ao rfl) (mN okc)) ao ⟨by decide,by decide⟩) λv H4 s4 q=>post v H4 (s13.trans s4) q
 | arg j =>
  have h0:Dat K H (.tup [.str "arg",.int j]) v0:=h0
  have okc:=of_decide_eq_true okc
  refine aK (K:=K) (b:=false) (aX (cf (ae (k:=0) h0))) (λc=>nomatch c) (λ_ H1 s1=>?_)
  refine aK (K:=K) (b:=false) (RT.as (aD (bo (aQ (k:=0) (ae (k:=0) (s1.dat h0)) ao rfl) aB)) (decide_eq_false (by decide +kernel))) (λc=>nomatch c) (λ_ H2 s2=>?_)
  have s12:=s1.trans s2
  refine aK (K:=K) (b:=false) (RT.as (aD (bo (aQ (k:=0) (ae (k:=0) (s12.dat h0)) ao rfl) aB)) (decide_eq_false (by decide +kernel))) (λc=>nomatch c) (λ_ H3 s3=>?_)
  have s13:=s12.trans s3
  exact aW (K:=K) (d:=.int (ks.getD j 0)) (aQ (k:=j) (ae (k:=2) (s13.dat h2)) (aQ (k:=1) (ae (k:=0) (s13.dat h0)) ao rfl) (mN okc)) λv H4 s4 q=>post v H4 (s13.trans s4) q
noncomputable def iH (n:Nat) (as:List Ar) (es:List D):Prop:=∃ (ps:List Pc) (pl:List Int) (t:Tr) (c:D),as=[.d (toD t),.l (ps.map pcD),.d c,.l (pl.map D.int)]/\mq ps/\(Bc ps/\clN pl.length t=true)/\okX t/\aE t≤n/\n≤8/\aC t≤40/\cY ps pl n t c=some es
noncomputable def Cw (n:Nat) (as:List Ar) (es:List D):Prop:=∃ (ps:List Pc) (pl:List Int) (a b d:Tr) (ca cb cd:D) (xa xb xd:List D),as=[.d (.tup [.str "pick",toD a,toD b,toD d]),.l (ps.map pcD),.d (.tup [.str "pick",.tup [ca,cb,cd]]),.l (pl.map D.int)]/\mq ps/\(Bc ps/\(clN pl.length a=true/\clN pl.length b=true/\clN pl.length d=true))/\(okX a/\okX b/\okX d)/\(aE a≤n/\aE b≤n/\aE d≤n)/\n≤8/\(aC a≤40/\aC b≤40/\aC d≤40) /\
 cY ps pl n a ca=some xa/\cY ps pl n b cb=some xb/\cY ps pl n d cd=some xd/\es.length≤900/\es=fX xa xb xd
noncomputable def Cv (n:Nat) (as:List Ar) (es:List D):Prop:=∃ (ps:List Pc) (pl:List Int) (t:Tr) (p:Pc) (cv:List D) (g:Fnd) (ess:List (List D)),as=[.d (toD t),.l (ps.map pcD),.d (.tup [.str p.nm,.tup cv]),.l (pl.map D.int)]/\mq ps/\(Bc ps/\clN pl.length t=true)/\okX t/\aE t≤n+1/\n+1≤8/\aC t≤40/\p ∈ ps/\bC p.pt t=some g/\g.1.length=cv.length/\e8 (cY ps pl n) g.1 cv=ess.map some/\es.length≤900/\es=eZ ess g (bz p)
theorem mn (x y z:List D):fX x y z=x++(iD 10 11 ((y.length:Int)+eY z.length)).map D.int++y++(iD 8 9 z.length).map D.int++z:=by
 unfold fX lD
 have e:((y++(iD 8 9 (z.length:Int)).map D.int).length:Int)=(y.length:Int)+eY z.length:=by
  rw [List.length_append,List.length_map]
  have:=jB 8 9 z.length
  omega
 rw [e]
 simp only [List.append_assoc]
theorem qZ (T:Txt P w K mg) (Gb:FnOk P w K mg base CX0 k T.Fv T.Fw ["tree","some","cover","places"] (gR K (iH n))) (IG:FnOk P w K mg base CX0 k T.FF T.FH ["second","third"] (rM K)):FnOk P w K mg base CX0 (k+1) T.Il T.Iu ["tree","some","cover","places"] (gR K (Cw n)):=by
 refine T.Jp.ok sc_laid_pick (λvs H Q E h=>?_) (λcdv A outer s H vs Q E hr h=>?_)
 ·obtain ⟨as,es,hd,⟨ps,pl,a,b,d,ca,cb,cd,xa,xb,xd,rfl,_⟩,_⟩:=h;exact hd.length.symm
 have nd:=sc_laid_pick.nd
 obtain ⟨as,es,hd,⟨ps,pl,a,b,d,ca,cb,cd,xa,xb,xd,rfl,okS,⟨laS,ha_,hb_,hd_⟩,⟨oa,ob,od⟩,⟨da,db,dd⟩,n8,⟨za,zb,zd⟩,la,lb,ld,l900,rfl⟩,post⟩:=h
 obtain ⟨v0,v1,v2,v3,rfl,h0,h1,h2,h3⟩:=wV hd
 have h0:Dat K H (.tup [.str "pick",toD a,toD b,toD d]) v0:=h0
 have h1:LD K H (ps.map pcD) v1:=h1
 have h2:Dat K H (.tup [.str "pick",.tup [ca,cb,cd]]) v2:=h2
 have h3:LD K H (pl.map D.int) v3:=h3
 rw [mn] at post l900
 refine ⟨_,(aj (fE (cO (own:=["one","within"]) (fr:=[1,3]) (N':=["one","within","some","places"]) (zT rfl T.LP (ag (hU lR (pv 0) (ik ak) jN) (ag (aN aS (pv 2) ak (λ_ _=>rfl)) af))) rfl (by show cj ["tree","some","cover","places","first","second","third","ahead","behind"] (λx=>(aA gu).names.lookup x) _ _ _ _=true;decide +kernel) rfl (λ_ _ _ _ _=>(wt (K:=K) (n:=2) rfl rfl (aZ (aL (i:=0) (by show List.Nodup [("one":Str),("within":Str),("some":Str),("places":Str)];decide +kernel) rfl (Or.inl rfl)) (aZ (aL (i:=1) (by show List.Nodup [("one":Str),("within":Str),("some":Str),("places":Str)];decide +kernel) rfl (Or.inl rfl)) cP)))) (λ_ _ _ _ _=>bO) (λ_ _ _ _ _=>(ay Gb hr rfl T.HK T.Gk.kp (gI T) .nil aO (ag (pv 0) (ag (pv 2) (ag (pv 1) (ag (pv 3) af))))))) (Bt rfl (aZ (aL (i:=4) nd rfl (Or.inl rfl)) (aZ (aL (i:=5) nd rfl (Or.inl rfl)) (aZ (aL (i:=6) nd rfl (Or.inl rfl)) cP)))))
 (aj (fE (ay IG hr rfl T.II T.Gq.kp (jn T) .nil aO (ag (aT aU rfl T.Fq bP (ag (pv 5) af)) (ag (aT aU rfl T.Fq bP (ag (pv 6) af)) af))) (eE rfl (aZ (aL (i:=7) nd rfl (Or.inl rfl)) (aZ (aL (i:=8) nd rfl (Or.inl rfl)) cP))))
 (au (aI (bu gJ (bu gJ (bu gJ (bu gJ (pv 4) (pv 7)) (pv 5)) (pv 8)) (pv 6)))))),?_⟩
 refine rE (RCL.use (K:=K) (BB (cs:=[toD a,toD b,toD d]) (ds:=[ca,cb,cd]) (ab (iQ (ae (k:=0) h0)) (ab (aQ (k:=1) (ae (k:=2) h2) ao rfl) av)) rfl (by simp) [xa,xb,xd] rfl (by decide) rfl (λG j x y z v w sG hx hy hz hv hw=>?_)) λl ys H1 hl s1 hy dy=>?_)
 ·have hL:=sG.ld h1
  have hP:=sG.ld h3
  match j,hx,hy,hz with
  | 0,hx,hy,hz=>cases hx;cases hy;cases hz;exact cD (R:=iH n) (bY (ae (k:=0) hv) (bS (aF (k:=2) hL) (bY (ae (k:=1) hw) (bS (aF (k:=3) hP) bF)))) ⟨ps,pl,a,ca,rfl,okS,⟨laS,ha_⟩,oa,da,n8,za,la⟩
  | 1,hx,hy,hz=>cases hx;cases hy;cases hz;exact cD (R:=iH n) (bY (ae (k:=0) hv) (bS (aF (k:=2) hL) (bY (ae (k:=1) hw) (bS (aF (k:=3) hP) bF)))) ⟨ps,pl,b,cb,rfl,okS,⟨laS,hb_⟩,ob,db,n8,zb,lb⟩
  | 2,hx,hy,hz=>cases hx;cases hy;cases hz;exact cD (R:=iH n) (bY (ae (k:=0) hv) (bS (aF (k:=2) hL) (bY (ae (k:=1) hw) (bS (aF (k:=3) hP) bF)))) ⟨ps,pl,d,cd,rfl,okS,⟨laS,hd_⟩,od,dd,n8,zd,ld⟩
  | j+3,hx,hy,hz=>cases hx
 obtain ⟨w4,w5,w6,rfl,k4,k5,k6⟩:∃ w4 w5 w6,ys=[w4,w5,w6]/\LD K H1 xa w4/\LD K H1 xb w5/\LD K H1 xd w6:=by
  cases dy with
  | cons k4 r =>
   cases r with
   | cons k5 r =>
    cases r with
    | cons k6 r =>
     cases r
     exact ⟨_,_,_,rfl,k4,k5,k6⟩
 refine ⟨l,_,rfl,SqL.of hy,rfl,_,_,rfl,_,_,rfl,_,_,rfl,rfl,?_⟩
 try dsimp only
 refine rE (eF (cQ (RE.use (K:=K) (d:=.int xb.length) (fY (aF (k:=5) k5)) λw1 H3 s3 q3=>cQ (RE.use (K:=K) (d:=.int xd.length) (fY (aF (k:=6) (s3.ld k6))) λw2 H4 s4 q4=>?_))))
 have e3:=q3.intE
 have e4:=q4.intE
 subst e3 e4
 refine ⟨_,_,rfl,λp aa bb us ws H5 s5 hp ha hb _ _ _ dus dws=>?_⟩
 refine ⟨p,_,rfl,hp,rfl,_,_,rfl,_,_,rfl,rfl,?_⟩
 try dsimp only
 have s15:=s3.trans (s4.trans s5)
 have kA:LD K H5 _ (.ref aa):=LD.of ha dus
 have kB:LD K H5 _ (.ref bb):=LD.of hb dws
 have ll:(xa++(iD 10 11 ((xb.length:Int)+eY xd.length)).map D.int++xb++(iD 8 9 xd.length).map D.int++xd).length=xa.length+((iD 10 11 ((xb.length:Int)+eY xd.length)).map D.int).length+xb.length+((iD 8 9 (xd.length:Int)).map D.int).length+xd.length:=by simp only [List.length_append]
 generalize (iD 10 11 ((xb.length:Int)+eY xd.length)).map D.int=ja at kA post ll l900
 generalize (iD 8 9 (xd.length:Int)).map D.int=jb at kB post ll l900
 exact gq (RC.use (K:=K) (gK (dI (gK (dI (gK (dI (gK (aF (k:=4) (s15.ld k4)) (aF (k:=7) kA) (by omega))) (aF (k:=5) (s15.ld k5)) (by rw [List.length_append];omega))) (aF (k:=8) kB) (by rw [List.length_append,List.length_append];omega))) (aF (k:=6) (s15.ld k6)) (by rw [List.length_append,List.length_append,List.length_append];omega)) λl3 us H7 hl3 s7 hu du=>post l3 us H7 (s1.trans (s15.trans s7)) hu ((s1.trans s15).free hl3) du)
theorem oW (T:Txt P w K mg) (Gb:FnOk P w K mg base CX0 k T.Fv T.Fw ["tree","some","cover","places"] (gR K (iH n))) (Km:FnOk P w K mg base CX0 k T.HN T.HQ ["piece","tree"] (spD K mZ)) (Le:FnOk P w K mg base CX0 k T.GV T.GZ ["cell","nums","ks"] (spD K ur)):FnOk P w K mg base CX0 (k+1) T.Hx T.HC ["tree","some","cover","places"] (gR K (Cv n)):=by
 refine T.IL.ok sc_laid_piece (λvs H Q E h=>?_) (λcdv A outer s H vs Q E hr h=>?_)
 ·obtain ⟨as,es,hd,⟨ps,pl,t,p,cv,g,ess,rfl,_⟩,_⟩:=h;exact hd.length.symm
 have nd:=sc_laid_piece.nd
 obtain ⟨as,es,hd,⟨ps,pl,t,p,cv,g,ess,rfl,okS,⟨laS,hcn⟩,okt,dpt,n8,szt,hp,hft,hlen,hpair,l900,rfl⟩,post⟩:=h
 obtain ⟨v0,v1,v2,v3,rfl,h0,h1,h2,h3⟩:=wV hd
 have h0:Dat K H (toD t) v0:=h0
 have h1:LD K H (ps.map pcD) v1:=h1
 have h2:Dat K H (.tup [.str p.nm,.tup cv]) v2:=h2
 have h3:LD K H (pl.map D.int) v3:=h3
 have okp:=okS.ok p hp
 have hcl:=laS.cl p hp
 have few:=okS.few
 refine ⟨_,(aj (fE (pv 2) (eE rfl (aZ (aL (i:=4) nd rfl (Or.inr rfl)) (aZ (aL (i:=5) nd rfl (Or.inl rfl)) cP))))
 (aj (bj (i:=6) nd rfl (Or.inl rfl) (aN bM (cO (own:=["one"]) (fr:=[4]) (N':=["one","name"]) (di (pv 1)) rfl (by show cj ["tree","some","cover","places","name","within","piece","holes","nums","ks","cells","hole","inner"] (λx=>(aA eK).names.lookup x) _ _ _ _=true;decide +kernel) rfl (λ_ _ _ _ _=>(aL (i:=0) (by show List.Nodup [("one":Str),("name":Str)];decide +kernel) rfl (Or.inl rfl))) (λ_ _ _ _ _=>(nY (aV cF (aN (r:=tZ K) aS (pv 0) ak (λ_ _=>rfl)) (pv 1) (aY _)))) (λ_ _ _ _ _=>(pv 0))) ak (λ_ _=>rfl)))
 (aj (fE (ay Km hr rfl T.Ko T.Jh.kp (nc T) .nil aO (ag (pv 6) (ag (pv 0) af))) (eE rfl (aZ (aL (i:=7) nd rfl (Or.inl rfl)) (aZ (aL (i:=8) nd rfl (Or.inr rfl)) (aZ (aL (i:=9) nd rfl (Or.inr rfl)) cP)))))
 (aj (bj (i:=10) nd rfl (Or.inl rfl) (bA af))
 (aj (gA PassesOwn.never rfl (zT rfl T.LP (ag (pv 7) (ag (pv 5) af))) (eE rfl (aZ (aL (i:=11) nd rfl (Or.inl rfl)) (aZ (aL (i:=12) nd rfl (Or.inl rfl)) cP))) (au (bE (dq PySem.F.plainAttrs_list PySem.F.slot_list_extend PySem.F.type_list_extend eH (pv 10) (ag (ay Gb hr rfl T.HK T.Gk.kp (gI T) .nil aO (ag (pv 11) (ag (pv 1) (ag (pv 12) (ag (pv 3) af))))) af)))))
 (au (aI (bu gJ (pv 10) (cO (own:=["cell"]) (fr:=[8,9]) (N':=["cell","nums","ks"]) (iE (aN aS (pv 6) ak (λ_ _=>rfl))) rfl (by show cj ["tree","some","cover","places","name","within","piece","holes","nums","ks","cells","hole","inner"] (λx=>(aA eK).names.lookup x) _ _ _ _=true;decide +kernel) rfl (λ_ _ _ _ _=>(aL (i:=0) (by show List.Nodup [("cell":Str),("nums":Str),("ks":Str)];decide +kernel) rfl (Or.inl rfl))) (λ_ _ _ _ _=>bO) (λ_ _ _ _ _=>(ay Le hr rfl T.Kj T.Ib.kp (oM T) .nil aO (ag (pv 0) (ag (pv 1) (ag (pv 2) af)))))))))))))),?_⟩
 refine kT (K:=K) (ae (k:=2) h2) λv4 v5 H1 s1 q4 q5=>?_
 refine dt (K:=K) (d:=pcD p) (fH (k:=0) (ds:=[pcD p]) (dI (RC.as (wz (aF (k:=1) (s1.ld h1)) (by rw [List.length_map];omega) (Bg p.nm) rfl (λG j c v sG hc hv=>?_)) (sJ laS.ls.nd hp))) ao rfl) λv6 H2 s2 q6=>?_
 ·rw [List.getElem?_map] at hc
  cases hq:ps[j]? with
  | none=>rw [hq] at hc;cases hc
  | some q =>
   rw [hq] at hc
   cases hc
   exact ⟨aD (bo (aQ (k:=0) (ae (k:=0) (show Dat K G (.tup [.str q.nm,toP q.pt,.tup q.cs]) v from hv)) ao rfl) (ae (k:=1) (sG.dat q4))),ae (k:=0) hv⟩
 have s12:=s1.trans s2
 have q6:Dat K H2 (.tup [.str p.nm,toP p.pt,.tup p.cs]) v6:=q6
 refine rH (K:=K) (RE.as (bg (R:=mZ) (d:=fdD (bC p.pt t)) (ab (ae (k:=6) q6) (ab (ae (k:=0) (s12.dat h0)) av)) ⟨.str p.nm,p.pt,.tup p.cs,t,rfl,okp.ok,okt,by omega,okp.dp,rfl⟩) (by rw [hft];rfl)) λv7 v8 v9 H3 s3 q7 q8 q9=>?_
 have s13:=s12.trans s3
 refine cZ ⟨cm (by decide),λlc hlc=>?_⟩
 have s4:Same H3 (upd H3 lc (.lst [])):=aG hlc _
 have s14:=s13.trans s4
 obtain ⟨ah,us,rfl,hah,dus⟩:=(s4.dat q7).tupE
 obtain ⟨aw,ws,rfl,haw,dws⟩:=((s2.trans (s3.trans s4)).dat q5).tupE
 have lu:=dus.length
 have lw:=dws.length
 rw [List.length_map] at lu
 have less:ess.length=g.1.length:=by have:=congrArg List.length hpair;rw [xI hlen,List.length_map] at this;exact this.symm
 have hlcn:H lc=none:=s13.free hlc
 have lle:ess.flatten.length+(bz p).length≤900:=by
  have z:(eZ ess g (bz p)).length=ess.flatten.length+(bz p).length:=by unfold eZ;rw [List.length_append,List.length_map]
  omega
 have lfl:ess.flatten.length≤900:=by omega
 generalize hG4:upd H3 lc (.lst [])=G4 at s4 s14 hah haw dus dws
 have hc4:G4 lc=some (.lst []):=by rw [← hG4];exact aq
 refine cJ ⟨_,rfl,_,rfl,ah,aw,us,ws,rfl,hah,haw,A3 (K:=K) (xs:=us) (ys:=ws) (λi σ G=>∃ (z11 z12:Option V) (zs:List V),σ=[some v0,some v1,some v2,some v3,some v4,some (.ref aw),some v6,some (.ref ah),some v8,some v9,some (.ref lc),z11,z12]/\Same H3 G/\SqT K G ah us/\SqT K G aw ws/\Dats K G (g.1.map toD) us/\Dats K G cv ws/\G lc=some (.lst zs)/\Dats K G (ess.take i).flatten zs) (by omega) ?_ (λi σ G _ ⟨_,_,_,_,_,p1,p2,_⟩=>⟨p1,p2⟩) ?_ ?_⟩
 ·exact ⟨none,none,[],rfl,s4,hah,haw,dus,dws,hc4,by rw [List.take_zero];exact Dats.nil⟩
 ·rintro i u w pp σ G hu hw hpp ⟨z11,z12,zs,rfl,sG,hahG,hawG,duG,dwG,hcG,dz⟩
  have sn:Same G (upd G pp (.tup [u,w])):=aG hpp _
  obtain ⟨du,edu,hdu⟩:=duG.getV hu
  obtain ⟨dw,edw,hdw⟩:=dwG.getV hw
  rw [List.getElem?_map] at edu
  cases hq:g.1[i]? with
  | none=>rw [hq] at edu;cases edu
  | some x =>
   rw [hq] at edu
   cases edu
   have hix:i < ess.length:=by rw [less];exact (List.getElem?_eq_some_iff.mp hq).1
   have hx:ess[i]?=some ess[i]:=List.getElem?_eq_getElem hix
   have lz:=zB lfl hx
   have hlx:cY ps pl n x dw=some ess[i]:=(xH hq edw (by rw [hpair,List.getElem?_map,hx];rfl)).symm
   have tail:=jz okp.nh hft x (List.mem_of_getElem? hq)
   have dsm:=fV tail
   refine ⟨pp,_,rfl,SqT.of aq,rfl,_,_,rfl,_,_,rfl,rfl,?_⟩
   dsimp only
   have sHG:=s13.trans (sG.trans sn)
   have lzs:=dz.length
   refine BN (K:=K) (cD (R:=iH n) (bY (ae (k:=11) (sn.dat hdu)) (bS (aF (k:=1) (sHG.ld h1)) (bY (ae (k:=12) (sn.dat hdw)) (bS (aF (k:=3) (sHG.ld h3)) bF)))) ⟨ps,pl,x,dw,rfl,okS,⟨laS,iK t x hcn (iU tail)⟩,ij t x okt (iU tail),by omega,by omega,by omega,hlx⟩) (sn _ _ hcG) (by omega) λys G2 b2 hc2 dy=>?_
   have g2:cW K (upd G pp (.tup [u,w])) G2:=b2.grow (sn _ _ hcG) hc2
   refine ⟨_,_,zs++ys,rfl,λa o ha=>b2 a o (az ha hlc) ((sG.trans sn) _ _ ha),g2.tup _ _ (sn.sqT hahG),g2.tup _ _ (sn.sqT hawG),Dats.mono g2 _ (sn.dats duG),Dats.mono g2 _ (sn.dats dwG),hc2,?_⟩
   rw [List.take_add_one,hx,List.flatten_append]
   simp only [Option.toList_some,List.flatten_cons,List.flatten_nil,List.append_nil]
   exact Dats.append (Dats.mono g2 _ (sn.dats dz)) dy
 ·rintro σ G ⟨z11,z12,zs,rfl,sG,hahG,hawG,duG,dwG,hcG,dz⟩
  rw [← lu,← less,List.take_length] at dz
  dsimp only
  have sHG:=s13.trans sG
  have q6G:Dat K G (.tup [.str p.nm,toP p.pt,.tup ((bz p).map clD)]) v6:=by
   have z:=(s3.trans sG).dat q6
   rw [hcl.eq] at z
   exact z
  obtain ⟨g1,g2⟩:=nv _ _ _ hft
  have lcl:(bz p).length≤12:=by have:=okp.cs;rw [hcl.eq,List.length_map] at this;exact this
  refine gq (RC.use (K:=K) (es:=eZ ess g (bz p)) (gK (aF (k:=10) (LD.of hcG dz)) (dI (lN (cs:=(bz p).map clD) (aQ (k:=2) (ae (k:=6) q6G) ao rfl) (by rw [List.length_map];omega) ((bz p).map λc=>D.int (vO g.2.1 g.2.2 c)) (by rw [List.length_map,List.length_map]) rfl (λG1 j c v d s1 hc hd hv=>?_))) (by rw [List.length_map];omega)) λl3 vs G2 hl3 s2 hw dw=>post l3 vs G2 (sHG.trans s2) hw (sHG.free hl3) dw)
  rw [List.getElem?_map] at hc hd
  cases hq:(bz p)[j]? with
  | none=>rw [hq] at hc;cases hc
  | some x =>
   rw [hq] at hc hd
   cases hc
   cases hd
   refine bg (R:=ur) (ab (ae (k:=0) hv) (ab (ae (k:=1) ((sG.trans s1).dat q8)) (ab (ae (k:=2) ((sG.trans s1).dat q9)) av))) ⟨x,g.2.1,g.2.2,rfl,?_,rfl⟩
   rw [g1,g2]
   exact hcl.ok x (List.mem_of_getElem? hq)
theorem oV (T:Txt P w K mg) (Lx:FnOk P w K mg base CX0 k T.Il T.Iu ["tree","some","cover","places"] (gR K (Cw n))) (Lm:FnOk P w K mg base CX0 k T.Hx T.HC ["tree","some","cover","places"] (gR K (Cv n))):FnOk P w K mg base CX0 (k+1) T.Fv T.Fw ["tree","some","cover","places"] (gR K (iH (n+1))):=by
 refine T.Gk.ok sc_laid_cells (λvs H Q E h=>?_) (λcdv A outer s H vs Q E hr h=>?_)
 ·obtain ⟨as,es,hd,⟨ps,pl,t,c,rfl,_⟩,_⟩:=h;exact hd.length.symm
 have nd:=sc_laid_cells.nd
 obtain ⟨as,es,hd,⟨ps,pl,t,c,rfl,okS,⟨laS,hcn⟩,okt,dpt,n8,szt,hlay⟩,post⟩:=h
 obtain ⟨v0,v1,v2,v3,rfl,h0,h1,h2,h3⟩:=wV hd
 have h0:Dat K H (toD t) v0:=h0
 have h1:LD K H (ps.map pcD) v1:=h1
 have h2:Dat K H c v2:=h2
 have h3:LD K H (pl.map D.int) v3:=h3
 have l900:es.length≤900:=by have:=iN okS.ok (n+1) t c es hlay;omega
 refine ⟨_,(aj (bq (aV cF (aN aS (pv 0) ak (λ_ _=>rfl)) aH (aY _)) (aj (bj (i:=4) nd rfl (Or.inl rfl) (aN bM (pv 3) (aN aS (pv 0) ak (λ_ _=>rfl)) (λ_ _=>rfl)))
 (au (aI (bA (ag (bL (v:=.int 15) rfl T.KG ⟨_,rfl⟩) (ag (bu gy (pv 4) ak) (ag (bu kQ (pv 4) ak) af))))))) aR)
 (aj (bq (aV cF (aN aS (pv 0) ak (λ_ _=>rfl)) aH (aY _)) (au (aI (ay Lx hr rfl T.KO T.Jp.kp (r9 T) .nil aO (ag (pv 0) (ag (pv 1) (ag (pv 2) (ag (pv 3) af))))))) aR)
 (au (aI (ay Lm hr rfl T.Kx T.IL.kp (qw T) .nil aO (ag (pv 0) (ag (pv 1) (ag (pv 2) (ag (pv 3) af))))))))),?_⟩
 obtain ⟨kd,r,ek,hpk,hcall,hkids⟩:=zi t okt
 have h0':Dat K H (.tup (.str kd::r)) v0:=by rw [← ek];exact h0
 have hlay:(if iM t=true then some (jY pl t) else match mz c with | none=>none | some x=>if x.1="pick" then j0 (cY ps pl n) t x.2 else jq (cY ps pl n) ps t x.1 x.2)=some es:=hlay
 refine aK (K:=K) (b:=iM t) (RT.as (aD (bo (aQ (k:=0) (ae (k:=0) h0') ao rfl) aB)) hcall) (λhcl H1 s1=>?_) (λhcl H1 s1=>?_)
 ·rw [if_pos hcl] at hlay
  cases t with
  | call k =>
   have h0:Dat K H (.tup [.str "call",.int k]) v0:=h0
   simp only [clN,Bool.and_eq_true,decide_eq_true_eq] at hcn
   have ek2:k=((k.toNat:Nat):Int):=by omega
   rw [ek2] at h0
   refine dt (K:=K) (d:=.int (pl.getD k.toNat 0)) (fH (k:=k.toNat) (aF (k:=3) (s1.ld h3)) (aQ (k:=1) (ae (k:=0) (s1.dat h0)) ao rfl) (mN hcn.2)) λv4 H2 s2 q4=>?_
   have s12:=s1.trans s2
   refine gq (RC.use (K:=K) (dW (ab ao (ab (u0 (ae (k:=4) q4) ao (by decide)) (ab (rB (ae (k:=4) q4) ao ⟨by decide,by decide⟩) av)))) λl ys H3 hl s3 hy dy=>post l ys H3 (s12.trans s3) hy (s12.free hl) ?_)
   cases hlay
   exact dy
  | _=>cases hcl
 rw [if_neg (by rw [hcl];exact Bool.false_ne_true)] at hlay
 obtain ⟨nm,cv,rfl⟩:∃ nm cv,c=.tup [.str nm,.tup cv]:=by
  cases e:mz c with
  | none =>
   have h:=hlay
   rw [e] at h
   cases h
  | some x=>exact ⟨x.1,x.2,xj e⟩
 have hlay:(if nm="pick" then j0 (cY ps pl n) t cv else jq (cY ps pl n) ps t nm cv)=some es:=hlay
 refine aK (K:=K) (b:=nE t) (RT.as (aD (bo (aQ (k:=0) (ae (k:=0) (s1.dat h0')) ao rfl) aB)) hpk) (λcp H2 s2=>?_) (λcp H2 s2=>?_)
 ·have s12:=s1.trans s2
  have hn:nm="pick":=by
   apply Classical.byContradiction
   intro z
   rw [if_neg z] at hlay
   obtain ⟨p,g,ess,e1,e2,_⟩:=i4 hlay
   cases t with
   | pick a b d=>rw [yX (okS.ok p (iZ e1).1).nh] at e2;cases e2
   | _=>cases cp
  subst hn
  rw [if_pos rfl] at hlay
  obtain ⟨a,b,d,ca,cb,cd,xa,xb,xd,rfl,rfl,la,lb,ld,rfl⟩:=i5 hlay
  simp only [aE] at dpt
  simp only [aC] at szt
  exact gq (RC.use (K:=K) (cD (R:=Cw n) (bY (ae (k:=0) (s12.dat h0)) (bS (aF (k:=1) (s12.ld h1)) (bY (ae (k:=2) (s12.dat h2)) (bS (aF (k:=3) (s12.ld h3)) bF)))) ⟨ps,pl,a,b,d,ca,cb,cd,xa,xb,xd,rfl,okS,⟨laS,by simp only [clN,Bool.and_eq_true] at hcn;exact hcn⟩,⟨okt.1,okt.2.1,okt.2.2⟩,⟨by omega,by omega,by omega⟩,by omega,⟨by omega,by omega,by omega⟩,la,lb,ld,l900,rfl⟩) λl ys H3 hl s3 hy dy=>post l ys H3 (s12.trans s3) hy (s12.free hl) dy)
 ·have s12:=s1.trans s2
  have hn:¬ nm="pick":=by
   intro z
   rw [if_pos z] at hlay
   obtain ⟨a,b,d,_,_,_,_,_,_,e,_⟩:=i5 hlay
   subst e
   cases cp
  rw [if_neg hn] at hlay
  obtain ⟨p,g,ess,e1,e2,hl,hpair,rfl⟩:=i4 hlay
  obtain ⟨hp,rfl⟩:=iZ e1
  exact gq (RC.use (K:=K) (cD (R:=Cv n) (bY (ae (k:=0) (s12.dat h0)) (bS (aF (k:=1) (s12.ld h1)) (bY (ae (k:=2) (s12.dat h2)) (bS (aF (k:=3) (s12.ld h3)) bF)))) ⟨ps,pl,t,p,cv,g,ess,rfl,okS,⟨laS,hcn⟩,okt,dpt,n8,szt,hp,e2,hl,hpair,l900,rfl⟩) λl ys H3 hl s3 hy dy=>post l ys H3 (s12.trans s3) hy (s12.free hl) dy)
noncomputable abbrev LPP:List Pc:=[⟨"inc",.two "add" (.hole 0) (.num 1),[.int 12,.int 1]⟩,⟨"both",.two "add" (.slot 0) (.slot 1),[.int 3,.tup [.str "arg",.int 0],.int 3,.tup [.str "arg",.int 1],.int 4]⟩,⟨"twofold",.two "mul" (.hole 0) (.num 2),[.int 13,.int 4]⟩,⟨"fewer",.two "sub" (.hole 0) (.gap 0 99),[.int 1,.tup [.str "low",.int 0],.int 5]⟩,⟨"addmul",.two "add" (.two "mul" (.hole 0) (.hole 1)) (.gap 0 99),[.int 6,.int 12,.tup [.str "low",.int 0]]⟩,⟨"turned",.two "less" (.gap 0 99) (.hole 0),[.int 1,.tup [.str "low",.int 0],.int 14,.int 7]⟩,⟨"far",.two "add" (.hole 0) (.gap 0 9999),[.int 2,.tup [.str "low",.int 0],.tup [.str "high",.int 0],.int 4]⟩,⟨"pair",.two "sub" (.gap 0 99) (.gap 1 99),[.int 1,.tup [.str "low",.int 0],.int 1,.tup [.str "low",.int 1],.int 5]⟩]
theorem EC:BP.map pcD=BAS:=rfl
noncomputable abbrev ALLP:List Pc:=BP++LPP
structure gdP (p:Pc):Prop where
 ok:Bk p
 pc:nX (pcD p)=some true/\p.nm.length≤sizeLine
 nl:noL (pcD p)=true/\eU (pcD p)≤19
 cl:BZ p (bz p)
theorem EM:gdP ⟨"one",.gap 0 99,[.int 1,.tup [.str "low",.int 0]]⟩:=⟨⟨by decide +kernel,by simp [gZ,okB],by decide,by decide,rfl⟩,⟨by decide +kernel,by decide⟩,⟨by decide +kernel,by decide +kernel⟩,by kernel_rfl,λc hc=>List.all_eq_true.mp (show List.all (bz _) (ju _ _)=true by decide +kernel) c hc⟩
theorem EN:gdP ⟨"two",.gap 0 9999,[.int 2,.tup [.str "low",.int 0],.tup [.str "high",.int 0]]⟩:=⟨⟨by decide +kernel,by simp [gZ,okB],by decide,by decide,rfl⟩,⟨by decide +kernel,by decide⟩,⟨by decide +kernel,by decide +kernel⟩,by kernel_rfl,λc hc=>List.all_eq_true.mp (show List.all (bz _) (ju _ _)=true by decide +kernel) c hc⟩
theorem EO:gdP ⟨"slot",.slot 0,[.int 3,.tup [.str "arg",.int 0]]⟩:=⟨⟨by decide +kernel,by simp [gZ,okB],by decide,by decide,rfl⟩,⟨by decide +kernel,by decide⟩,⟨by decide +kernel,by decide +kernel⟩,by kernel_rfl,λc hc=>List.all_eq_true.mp (show List.all (bz _) (ju _ _)=true by decide +kernel) c hc⟩
theorem ER:gdP ⟨"add",.two "add" (.hole 0) (.hole 1),[.int 4]⟩:=⟨⟨by decide +kernel,by simp [gZ,okB],by decide,by decide,rfl⟩,⟨by decide +kernel,by decide⟩,⟨by decide +kernel,by decide +kernel⟩,by kernel_rfl,λc hc=>List.all_eq_true.mp (show List.all (bz _) (ju _ _)=true by decide +kernel) c hc⟩
theorem ES:gdP ⟨"sub",.two "sub" (.hole 0) (.hole 1),[.int 5]⟩:=⟨⟨by decide +kernel,by simp [gZ,okB],by decide,by decide,rfl⟩,⟨by decide +kernel,by decide⟩,⟨by decide +kernel,by decide +kernel⟩,by kernel_rfl,λc hc=>List.all_eq_true.mp (show List.all (bz _) (ju _ _)=true by decide +kernel) c hc⟩
theorem ET:gdP ⟨"mul",.two "mul" (.hole 0) (.hole 1),[.int 6]⟩:=⟨⟨by decide +kernel,by simp [gZ,okB],by decide,by decide,rfl⟩,⟨by decide +kernel,by decide⟩,⟨by decide +kernel,by decide +kernel⟩,by kernel_rfl,λc hc=>List.all_eq_true.mp (show List.all (bz _) (ju _ _)=true by decide +kernel) c hc⟩
theorem EU:gdP ⟨"less",.two "less" (.hole 0) (.hole 1),[.int 7]⟩:=⟨⟨by decide +kernel,by simp [gZ,okB],by decide,by decide,rfl⟩,⟨by decide +kernel,by decide⟩,⟨by decide +kernel,by decide +kernel⟩,by kernel_rfl,λc hc=>List.all_eq_true.mp (show List.all (bz _) (ju _ _)=true by decide +kernel) c hc⟩
theorem EV:gdP ⟨"more",.two "add" (.hole 0) (.gap 0 99),[.int 12,.tup [.str "low",.int 0]]⟩:=⟨⟨by decide +kernel,by simp [gZ,okB],by decide,by decide,rfl⟩,⟨by decide +kernel,by decide⟩,⟨by decide +kernel,by decide +kernel⟩,by kernel_rfl,λc hc=>List.all_eq_true.mp (show List.all (bz _) (ju _ _)=true by decide +kernel) c hc⟩
theorem EW:gdP ⟨"inc",.two "add" (.hole 0) (.num 1),[.int 12,.int 1]⟩:=⟨⟨by decide +kernel,by simp [gZ,okB],by decide,by decide,rfl⟩,⟨by decide +kernel,by decide⟩,⟨by decide +kernel,by decide +kernel⟩,by kernel_rfl,λc hc=>List.all_eq_true.mp (show List.all (bz _) (ju _ _)=true by decide +kernel) c hc⟩
theorem EX:gdP ⟨"both",.two "add" (.slot 0) (.slot 1),[.int 3,.tup [.str "arg",.int 0],.int 3,.tup [.str "arg",.int 1],.int 4]⟩:=⟨⟨by decide +kernel,by simp [gZ,okB],by decide,by decide,rfl⟩,⟨by decide +kernel,by decide⟩,⟨by decide +kernel,by decide +kernel⟩,by kernel_rfl,λc hc=>List.all_eq_true.mp (show List.all (bz _) (ju _ _)=true by decide +kernel) c hc⟩
theorem DY:gdP ⟨"twofold",.two "mul" (.hole 0) (.num 2),[.int 13,.int 4]⟩:=⟨⟨by decide +kernel,by simp [gZ,okB],by decide,by decide,rfl⟩,⟨by decide +kernel,by decide⟩,⟨by decide +kernel,by decide +kernel⟩,by kernel_rfl,λc hc=>List.all_eq_true.mp (show List.all (bz _) (ju _ _)=true by decide +kernel) c hc⟩
theorem DZ:gdP ⟨"fewer",.two "sub" (.hole 0) (.gap 0 99),[.int 1,.tup [.str "low",.int 0],.int 5]⟩:=⟨⟨by decide +kernel,by simp [gZ,okB],by decide,by decide,rfl⟩,⟨by decide +kernel,by decide⟩,⟨by decide +kernel,by decide +kernel⟩,by kernel_rfl,λc hc=>List.all_eq_true.mp (show List.all (bz _) (ju _ _)=true by decide +kernel) c hc⟩
theorem D0:gdP ⟨"addmul",.two "add" (.two "mul" (.hole 0) (.hole 1)) (.gap 0 99),[.int 6,.int 12,.tup [.str "low",.int 0]]⟩:=⟨⟨by decide +kernel,by simp [gZ,okB],by decide,by decide,rfl⟩,⟨by decide +kernel,by decide⟩,⟨by decide +kernel,by decide +kernel⟩,by kernel_rfl,λc hc=>List.all_eq_true.mp (show List.all (bz _) (ju _ _)=true by decide +kernel) c hc⟩
theorem D1:gdP ⟨"turned",.two "less" (.gap 0 99) (.hole 0),[.int 1,.tup [.str "low",.int 0],.int 14,.int 7]⟩:=⟨⟨by decide +kernel,by simp [gZ,okB],by decide,by decide,rfl⟩,⟨by decide +kernel,by decide⟩,⟨by decide +kernel,by decide +kernel⟩,by kernel_rfl,λc hc=>List.all_eq_true.mp (show List.all (bz _) (ju _ _)=true by decide +kernel) c hc⟩
theorem D2:gdP ⟨"far",.two "add" (.hole 0) (.gap 0 9999),[.int 2,.tup [.str "low",.int 0],.tup [.str "high",.int 0],.int 4]⟩:=⟨⟨by decide +kernel,by simp [gZ,okB],by decide,by decide,rfl⟩,⟨by decide +kernel,by decide⟩,⟨by decide +kernel,by decide +kernel⟩,by kernel_rfl,λc hc=>List.all_eq_true.mp (show List.all (bz _) (ju _ _)=true by decide +kernel) c hc⟩
theorem D3:gdP ⟨"pair",.two "sub" (.gap 0 99) (.gap 1 99),[.int 1,.tup [.str "low",.int 0],.int 1,.tup [.str "low",.int 1],.int 5]⟩:=⟨⟨by decide +kernel,by simp [gZ,okB],by decide,by decide,rfl⟩,⟨by decide +kernel,by decide⟩,⟨by decide +kernel,by decide +kernel⟩,by kernel_rfl,λc hc=>List.all_eq_true.mp (show List.all (bz _) (ju _ _)=true by decide +kernel) c hc⟩
theorem CY:∀ p ∈ ALLP,gdP p:=by
 intro p hp
 simp only [ALLP,BP,LPP,List.cons_append,List.nil_append,List.append_nil,List.mem_cons,List.not_mem_nil,or_false] at hp
 rcases hp with rfl | rfl | rfl | rfl | rfl | rfl | rfl | rfl | rfl | rfl | rfl | rfl | rfl | rfl | rfl | rfl
 ·exact EM
 ·exact EN
 ·exact EO
 ·exact ER
 ·exact ES
 ·exact ET
 ·exact EU
 ·exact EV
 ·exact EW
 ·exact EX
 ·exact DY
 ·exact DZ
 ·exact D0
 ·exact D1
 ·exact D2
 ·exact D3
theorem Cr:(ALLP.map (·.nm)).Nodup:=by decide +kernel
structure gdS (ps:List Pc):Prop where
 gs:qI ps
 ok:mq ps
 la:Bc ps
 hp:∀ p ∈ ps,cz p.pt=true/\p.nm≠"pick"
 bp:∀ p ∈ BP,p ∈ ps
theorem A4 {sub:List Pc} (h:sub.Sublist LPP):gdS (BP++sub):=by
 have hs:(BP++sub).Sublist ALLP:=(List.Sublist.refl BP).append h
 have nd:=(hs.map (·.nm)).nodup Cr
 have l8:sub.length≤8:=h.length_le
 have g:∀ p ∈ BP++sub,gdP p:=λp hp=>CY p (hs.subset hp)
 exact ⟨⟨by rw [List.length_append];show 1≤8+sub.length;omega,by rw [List.length_append];show 8+sub.length≤16;omega,λp hp=>(g p hp).pc,nd⟩,⟨λp hp=>(g p hp).ok,by rw [List.length_append];show 8+sub.length≤100;omega⟩,⟨⟨nd,λp hp=>(g p hp).nl⟩,λp hp=>(g p hp).cl⟩,λp hp=>⟨(g p hp).ok.nh,(g p hp).ok.nm⟩,λp hp=>List.mem_append_left _ hp⟩
noncomputable def Ck (K:PySem.W.Frag):Sp:=λvs H Q _=>∃ (a t:Addr) (ns:List Int) (p q:Int) (rest:List V),vs=[.ref a,.ref t]/\Scr K H a ns/\H t=some (.lst (.int p::.int q::rest))/\0≤p /\
 ∀ (sub:List Pc) (l:Addr) (ys:List V) (H':Hp) (p' q':Int),But t H H'->H' t=some (.lst (.int p'::.int q'::rest))->0≤p'->sub.Sublist LPP->H l=none->H' l=some (.lst ys)->Dats K H' ((BP++sub).map pcD) ys->Q (.ref l) H'
theorem tM (T:Txt P w K mg) (Lc:FnOk P w K mg base CX0 k T.GT T.GX [] (iG K λds es=>ds=[]/\es=LPD)) (FI:FnOk P w K mg base CX0 k T.F1 T.F7 ["_law_script","_law_town","_law_many"] (oA K)):FnOk P w K mg base CX0 (k+1) T.IX T.Jd ["_law_script","_law_town"] (Ck K):=by
 refine T.JN.ok sc__law_set (λvs H Q E h=>?_) (λcdv A outer s H vs Q E hr h=>?_)
 ·obtain ⟨a,t,ns,p,q,rest,rfl,_⟩:=h;rfl
 have nd:=sc__law_set.nd
 obtain ⟨a,t,ns,p,q,rest,rfl,hS,hT,hp,post⟩:=h
 refine ⟨_,(aj (fm (i:=2) (own:=["_law_piece"]) (fr:=[0,1]) (N':=["_law_piece","_law_script","_law_town"]) (di (zQ Lc hr rfl T.Kh T.HZ.kp (oJ T) .nil aO)) rfl (by show cj ["_law_script","_law_town","_law_more"] (λx=>(aA hV).names.lookup x) _ _ _ _=true;decide +kernel) rfl (λ_ _ _ _ _=>(aL (i:=0) (by show List.Nodup [("_law_piece":Str),("_law_script":Str),("_law_town":Str)];decide +kernel) rfl (Or.inl rfl))) (λ_ _ _ _ _=>(nY (aV cF (ay FI hr rfl T.GJ T.FJ.kp (fu T) .nil aO (ag (pv 1) (ag (pv 2) (ag ak af)))) ak (aY _)))) (λ_ _ _ _ _=>(pv 0)) nd rfl rfl rfl)
 (au (aI (bu gJ (bL (v:=.ref T.KW) rfl T.Kf rfl) (pv 2))))),?_⟩
 refine cZ (ua (K:=K) (λr us H1=>Same H H1/\H r=none/\Dats K H1 LPD us) (λR hR=>⟨[],LPD,Dats.nil,⟨rfl,rfl⟩,λr us H1 s1 hr hr0 hd=>hR r us H1 hr ⟨s1,hr0,hd⟩⟩) rfl (λr us H1 l hr hM hl=>?_))
 obtain ⟨s1,hr0,hd⟩:=hM
 have hT1:=s1 _ _ hT
 have nrt:r≠t:=Ne.symm (az hT hr0)
 have nlt:l≠t:=Ne.symm (az hT1 hl)
 have nlr:r≠l:=az hr hl
 have lu:=hd.length
 have lu8:us.length=8:=by rw [← lu];rfl
 refine ⟨
  (λi G=>∃ (sub:List Pc) (ys:List V) (p' q':Int),But t H1 G/\G t=some (.lst (.int p'::.int q'::rest))/\0≤p'/\sub.Sublist (LPP.take i)/\G l=some (.lst ys)/\Dats K G (sub.map pcD) ys/\sub.length≤i),?_,(λi G hi zq=>by obtain ⟨_,_,_,_,b,_⟩:=zq;exact SqL.of (b _ _ nrt hr)),(λi G hi pn=>?_),(λG pn=>?_)⟩
 ·exact ⟨[],[],p,q,(aG hl _).but,by rw [aJ (Ne.symm nlt)];exact hT1,hp,List.nil_sublist _,aq,Dats.nil,Nat.le_refl _⟩
 ·obtain ⟨sub,ys,p',q',bG,tG,gp,hsub,hlG,dG,lsub⟩:=pn
  have ly:=dG.length
  rw [List.length_map] at ly
  have gG:cW K H1 G:=bG.grow hT1 tG
  have hdG:Dats K G LPD us:=Dats.mono gG _ hd
  obtain ⟨dx,ex,hx⟩:=hdG.getV (List.getElem?_eq_getElem hi)
  have hx':(LPP.map pcD)[i]?=some dx:=ex
  rw [List.getElem?_map] at hx'
  cases hpp:LPP[i]? with
  | none=>rw [hpp] at hx';cases hx'
  | some pp =>
   rw [hpp] at hx'
   cases hx'
   have et:LPP.take (i+1)=LPP.take i++[pp]:=by rw [List.take_add_one,hpp];rfl
   have hitem:us.getD i .non=us[i]:=by rw [List.getD_eq_getElem?_getD,List.getElem?_eq_getElem hi];rfl
   refine ⟨_,rfl,_,rfl,a,t,ns,2,p',q',rest,rfl,hS.but (s1.but.trans bG) hT,tG,gp,by decide,by decide,λr3 G3 p3 q3 b3 t3 g3 r3a r3b=>?_⟩
   refine ⟨rfl,_,rfl,?_⟩
   have hl3:=b3 _ _ nlt hlG
   have g3':cW K G G3:=b3.grow tG t3
   refine oQ (λc=>?_) (λc=>?_)
   ·refine ⟨_,rfl,ys,hl3,cx (by omega),⟨_,rfl⟩,?_⟩
    rw [hitem]
    have b4:But l G3 (upd G3 l (.lst (ys++[us[i]]))):=But.upd (Same.refl _).but
    have g4:cW K G3 (upd G3 l (.lst (ys++[us[i]]))):=b4.grow hl3 aq
    refine ⟨sub++[pp],ys++[us[i]],p3,q3,λb o nb hb=>b4 b o (az hb hl) (b3 b o nb (bG b o nb hb)),b4 _ _ (Ne.symm nlt) t3,g3,?_,aq,?_,?_⟩
    ·rw [et];exact hsub.append (List.Sublist.refl _)
    ·rw [List.map_append]
     exact Dats.append (Dats.mono g4 _ (Dats.mono g3' _ dG)) (Dats.cons (Dat.mono g4 _ (Dat.mono g3' _ hx)) Dats.nil)
    ·rw [List.length_append]
     simp
     omega
   ·refine ⟨⟨_,rfl⟩,sub,ys,p3,q3,bG.trans b3,t3,g3,?_,hl3,Dats.mono g3' _ dG,by omega⟩
    rw [et]
    exact hsub.trans (List.sublist_append_left _ _)
 ·obtain ⟨sub,ys,p',q',bG,tG,gp,hsub,hlG,dG,lsub⟩:=pn
  have hL:LD K G (sub.map pcD) (.ref l):=LD.of hlG dG
  have hsub':sub.Sublist LPP:=hsub.trans (List.take_sublist _ _)
  refine gq (RC.use (K:=K) (gK (DB T.LN) (aF (k:=2) hL) (by rw [List.length_map];show 8+sub.length≤1000;omega)) λlz zs G2 hlz s2 hzs dzs=>?_)
  refine post sub lz zs G2 p' q' ((s1.but.trans bG).trans s2.but) (s2 _ _ tG) gp hsub' ?_ hzs ?_
  ·cases h:H lz with
   | none=>rfl
   | some o =>
    have h1:=s1 _ _ h
    by_cases e:lz=t
    ·rw [e,tG] at hlz;cases hlz
    ·rw [bG _ _ e h1] at hlz;cases hlz
  ·rw [List.map_append,EC]
   exact dzs
noncomputable def oP (ps:List Tr) (t:Tr):Option Nat:=ps.findIdx? λx=>eqD (toD x) (toD t)
noncomputable def atC (ps:List Tr) (t t':Tr):Tr:=match oP ps t with
 | some i=>.call ((i:Int)+1)
 | none=>t'
noncomputable def wcT (ps:List Tr):Tr->Tr
 | .num n=>atC ps (.num n) (.num n)
 | .arg k=>atC ps (.arg k) (.arg k)
 | .two o a b=>atC ps (.two o a b) (.two o (wcT ps a) (wcT ps b))
 | .pick a b c=>atC ps (.pick a b c) (.pick (wcT ps a) (wcT ps b) (wcT ps c))
 | .call k=>atC ps (.call k) (.call k)
noncomputable def wwT (ps:List Tr):Tr->Tr
 | .two o a b=>.two o (wcT ps a) (wcT ps b)
 | .pick a b c=>.pick (wcT ps a) (wcT ps b) (wcT ps c)
 | t=>t
theorem AF (ps:List Tr) (t:Tr):wcT ps t=atC ps t (wwT ps t):=by cases t <;> rfl
theorem uD {ps:List Tr} (h:oP ps t=some i):i < ps.length/\ps[i]?=some t/\∀ m,m < i->ps[m]?≠some t:=by
 unfold oP at h
 obtain ⟨hl,h1,h2⟩:=List.findIdx?_eq_some_iff_getElem.mp h
 refine ⟨hl,?_,λm hm e=>?_⟩
 ·rw [List.getElem?_eq_getElem hl,jV _ _ h1]
 ·have hml:m < ps.length:=by omega
  rw [List.getElem?_eq_getElem hml] at e
  have:=h2 m hm
  rw [Option.some.inj e,eV _ (bN t)] at this
  exact this rfl
theorem sV {ps:List Tr} (h:oP ps t=none):(ps.map toD).any (λe=>eqD e (toD t))=false:=by
 unfold oP at h
 rw [List.findIdx?_eq_none_iff] at h
 rw [List.any_map,List.any_eq_false]
 intro x hx
 have:=h x hx
 show ¬ eqD (toD x) (toD t)=true
 rw [this]
 exact Bool.false_ne_true
theorem sW {ps:List Tr} (h:oP ps t=some i):(ps.map toD).any (λe=>eqD e (toD t))=true:=by
 obtain ⟨_,h1,_⟩:=uD h
 rw [List.any_map,List.any_eq_true]
 exact ⟨t,List.mem_of_getElem? h1,eV _ (bN t)⟩
structure okPs (ps:List Tr):Prop where
 ok:∀ p ∈ ps,okT p/\aE p≤8/\aC p≤40
 few:ps.length≤6
theorem vD {ps:List Tr} (h:ps.length≤6) {t':Tr} (d0:1≤aE t) (s0:1≤aC t) (h1:okX t') (h2:aE t'≤aE t) (h3:aC t'≤aC t) (h4:clN (ps.length+1) t'=true):okX (atC ps t t')/\aE (atC ps t t')≤aE t/\aC (atC ps t t')≤aC t/\clN (ps.length+1) (atC ps t t')=true:=by
 unfold atC
 cases e:oP ps t with
 | none=>exact ⟨h1,h2,h3,h4⟩
 | some i =>
  have:=(uD e).1
  refine ⟨⟨by omega,by omega⟩,d0,s0,?_⟩
  show (decide (0≤(i:Int)+1) && decide (((i:Int)+1).toNat < ps.length+1))=true
  rw [decide_eq_true (by omega),decide_eq_true (by omega)]
  rfl
theorem mx2 {a b c d:Nat} (h:a≤c) (k:b≤d):max a b+1≤max c d+1:=Nat.succ_le_succ (Nat.max_le.mpr ⟨Nat.le_trans h (Nat.le_max_left _ _),Nat.le_trans k (Nat.le_max_right _ _)⟩)
theorem mx3 {a b c d e f:Nat} (h:a≤d) (k:b≤e) (l:c≤f):max a (max b c)+1≤max d (max e f)+1:=mx2 h (Nat.le_of_succ_le_succ (mx2 k l))
theorem jt {ps:List Tr} (h:ps.length≤6):∀ t:Tr,okT t->okX (wcT ps t)/\aE (wcT ps t)≤aE t/\aC (wcT ps t)≤aC t/\clN (ps.length+1) (wcT ps t)=true
 | .num n,ht=>vD h (Nat.le_refl _) (Nat.le_refl _) ht (Nat.le_refl _) (Nat.le_refl _) rfl
 | .arg k,ht=>vD h (Nat.le_refl _) (Nat.le_refl _) ht (Nat.le_refl _) (Nat.le_refl _) rfl
 | .two o a b,ht=>by
  obtain ⟨a1,a2,a3,a4⟩:=jt h a ht.2.1
  obtain ⟨b1,b2,b3,b4⟩:=jt h b ht.2.2
  exact vD h (cX _) (by simp [aC]) ⟨ht.1,a1,b1⟩ (mx2 a2 b2) (Nat.succ_le_succ (Nat.add_le_add a3 b3)) (by simp only [clN,a4,b4,Bool.and_self])
 | .pick a b c,ht=>by
  obtain ⟨a1,a2,a3,a4⟩:=jt h a ht.1
  obtain ⟨b1,b2,b3,b4⟩:=jt h b ht.2.1
  obtain ⟨c1,c2,c3,c4⟩:=jt h c ht.2.2
  exact vD h (cX _) (by simp [aC]) ⟨a1,b1,c1⟩ (mx3 a2 b2 c2) (Nat.succ_le_succ (Nat.add_le_add (Nat.add_le_add a3 b3) c3)) (by simp only [clN,a4,b4,c4,Bool.and_self])
 | .call _,ht=>ht.elim
theorem Cq {ps:List Tr} (h:ps.length≤6):∀ t:Tr,okT t->okX (wwT ps t)/\aE (wwT ps t)≤aE t/\aC (wwT ps t)≤aC t/\clN (ps.length+1) (wwT ps t)=true
 | .num n,ht=>⟨ht,Nat.le_refl _,Nat.le_refl _,rfl⟩
 | .arg k,ht=>⟨ht,Nat.le_refl _,Nat.le_refl _,rfl⟩
 | .two o a b,ht=>by
  obtain ⟨a1,a2,a3,a4⟩:=jt h a ht.2.1
  obtain ⟨b1,b2,b3,b4⟩:=jt h b ht.2.2
  exact ⟨⟨ht.1,a1,b1⟩,mx2 a2 b2,Nat.succ_le_succ (Nat.add_le_add a3 b3),by simp only [wwT,clN,a4,b4,Bool.and_self]⟩
 | .pick a b c,ht=>by
  obtain ⟨a1,a2,a3,a4⟩:=jt h a ht.1
  obtain ⟨b1,b2,b3,b4⟩:=jt h b ht.2.1
  obtain ⟨c1,c2,c3,c4⟩:=jt h c ht.2.2
  exact ⟨⟨a1,b1,c1⟩,mx3 a2 b2 c2,Nat.succ_le_succ (Nat.add_le_add (Nat.add_le_add a3 b3) c3),by simp only [wwT,clN,a4,b4,c4,Bool.and_self]⟩
 | .call _,ht=>ht.elim
noncomputable def Rwc (n:Nat) (as:List Ar) (d:D):Prop:=∃ (t:Tr) (ps:List Tr),as=[.d (toD t),.l (ps.map toD)]/\okT t/\aE t≤n/\n≤8/\okPs ps/\d=toD (wcT ps t)
noncomputable def Rww (n:Nat) (as:List Ar) (d:D):Prop:=∃ (t:Tr) (ps:List Tr),as=[.d (toD t),.l (ps.map toD)]/\okT t/\aE t≤n+1/\n≤7/\okPs ps/\d=toD (wwT ps t)
theorem okPs.deep {ps:List Tr} (h:okPs ps):deepDs (ps.map toD)≤20:=Nat.le_trans (gT (n:=8) ps λx hx=>(h.ok x hx).2.1) (by decide)
variable {ds:List D}
theorem wF {t:TE} (h:RE K t σ H (.tup ds)):RT (λσ H Q=>t σ H λx H'=>∃ k,wU K x H' k/\Q k H') σ H (!ds.isEmpty):=λH1 s Q q=>h H1 s _ λv H2 s2 q2=>by
 obtain ⟨a,vs,rfl,hq,hd⟩:=q2.tupE
 refine ⟨!vs.isEmpty,.inr (.inl ⟨vs,hq,rfl⟩),?_⟩
 have e:vs.isEmpty=ds.isEmpty:=by
  have:=hd.length
  cases ds <;> cases vs <;> simp at this ⊢
 rw [e]
 exact q H2 s2
theorem oY (T:Txt P w K mg) (GQ:FnOk P w K mg base CX0 k T.Fj T.Fk ["tree","parts"] (spA K (Rww n))):FnOk P w K mg base CX0 (k+1) T.Ge T.Gh ["tree","parts"] (spA K (Rwc (n+1))):=by
 refine T.HI.ok sc_with_calls (λvs H Q E h=>?_) (λcdv A outer s H vs Q E hr h=>?_)
 ·obtain ⟨as,d,hd,⟨t,ps,rfl,_⟩,_⟩:=h;exact hd.length.symm
 have nd:=sc_with_calls.nd
 obtain ⟨as,d,hd,⟨t,ps,rfl,okt,dpt,n8,okp,rfl⟩,post⟩:=h
 obtain ⟨v0,v1,rfl,h0,h1⟩:=qt hd
 have h0:Dat K H (toD t) v0:=h0
 have h1:LD K H (ps.map toD) v1:=h1
 refine ⟨_,(aj (bq (aV (rd hr) (pv 0) (pv 1) (by with_unfolding_all rfl)) (au (aI (aM (ag aH (ag (bu cM (dq PySem.F.plainAttrs_list PySem.F.slot_list_index PySem.F.type_list_index (pP hr) (pv 1) (ag (pv 0) af)) ak) af))))) aR)
 (au (aI (ay GQ hr rfl T.GR T.Ft.kp (gB T) .nil aO (ag (pv 0) (ag (pv 1) af)))))),?_⟩
 rw [AF] at post
 unfold atC at post
 have few:=okp.few
 cases e:oP ps t with
 | some i =>
  rw [e] at post
  obtain ⟨hl,hi,hno⟩:=uD e
  refine aK (K:=K) (b:=true) (RT.as (aD (iF (neg:=false) (ae (k:=0) h0) (aF (k:=1) h1) (dE ps) (bN t) okp.deep)) (sW e)) (λ_ H1 s1=>?_) (λc=>nomatch c)
  refine aW (K:=K) (d:=.tup [.str "call",.int ((i:Int)+1)]) (aP (ab aB (ab (dC (ub (k:=1) (s1.ld h1) (ae (k:=0) (s1.dat h0)) (dE ps) (bN t) okp.deep (by rw [List.length_map];omega) ⟨toD t,by rw [List.getElem?_map,hi];rfl,eV _ (bN t)⟩ λm g hm hg=>?_) ao) av))) λv H' s q=>post v H' (s1.trans s) q
  rw [List.getElem?_map] at hg
  obtain ⟨x,hx,rfl⟩:=Option.map_eq_some_iff.mp hg
  cases hq:eqD (toD x) (toD t) with
  | false=>rfl
  | true=>rw [jV _ _ hq] at hx;exact absurd hx (hno m hm)
 | none =>
  rw [e] at post
  refine aK (K:=K) (b:=false) (RT.as (aD (iF (neg:=false) (ae (k:=0) h0) (aF (k:=1) h1) (dE ps) (bN t) okp.deep)) (sV e)) (λc=>nomatch c) (λ_ H1 s1=>?_)
  exact aW (K:=K) (d:=toD (wwT ps t)) (bK (R:=Rww n) (bY (ae (k:=0) (s1.dat h0)) (bS (aF (k:=1) (s1.ld h1)) bF)) ⟨t,ps,rfl,okt,dpt,by omega,okp,rfl⟩) λv H' s q=>post v H' (s1.trans s) q
theorem BY (h:okT t) (ps:List Tr):∃ kd r,toD t=.tup (.str kd::r)/\((bh t=[]/\wwT ps t=t)\/(bh t≠[]/\toD (wwT ps t)=.tup ([.str kd]++(bh t).map λx=>toD (wcT ps x)))):=by
 cases t with
 | num n=>exact ⟨_,_,rfl,.inl ⟨rfl,rfl⟩⟩
 | arg n=>exact ⟨_,_,rfl,.inl ⟨rfl,rfl⟩⟩
 | two o a b=>exact ⟨_,_,rfl,.inr ⟨λz=>(nomatch z),rfl⟩⟩
 | pick a b c=>exact ⟨_,_,rfl,.inr ⟨λz=>(nomatch z),rfl⟩⟩
 | call k=>exact h.elim
theorem gm (T:Txt P w K mg) (Fe:FnOk P w K mg base CX0 k T.Fg T.Fi ["tree"] (spD K fB)) (JL:FnOk P w K mg base CX0 k T.Ge T.Gh ["tree","parts"] (spA K (Rwc n))):FnOk P w K mg base CX0 (k+1) T.Fj T.Fk ["tree","parts"] (spA K (Rww n)):=by
 refine T.Ft.ok sc_with_calls_within (λvs H Q E h=>?_) (λcdv A outer s H vs Q E hr h=>?_)
 ·obtain ⟨as,d,hd,⟨t,ps,rfl,_⟩,_⟩:=h;exact hd.length.symm
 have nd:=sc_with_calls_within.nd
 obtain ⟨as,d,hd,⟨t,ps,rfl,okt,dpt,n8,okp,rfl⟩,post⟩:=h
 obtain ⟨v0,v1,rfl,h0,h1⟩:=qt hd
 have h0:Dat K H (toD t) v0:=h0
 have h1:LD K H (ps.map toD) v1:=h1
 refine ⟨_,(aj (bj (i:=2) nd rfl (Or.inl rfl) (ay Fe hr rfl T.FZ T.Fo.kp (d8 T) .nil aO (ag (pv 0) af)))
 (aj (bq (ck (br (pv 2) (λ_=>rfl))) (au (aI (pv 0))) aR)
 (au (aI (bu Bo (aM (ag (aN aS (pv 0) ak (λ_ _=>rfl)) af)) (dS dA rfl T.He d9 (ag (cO (own:=["one"]) (fr:=[1]) (N':=["one","parts"]) (iE (pv 2)) rfl (by show cj ["tree","parts","within"] (λx=>(aA cK).names.lookup x) _ _ _ _=true;decide +kernel) rfl (λ_ _ _ _ _=>(aL (i:=0) (by show List.Nodup [("one":Str),("parts":Str)];decide +kernel) rfl (Or.inl rfl))) (λ_ _ _ _ _=>bO) (λ_ _ _ _ _=>(ay JL hr rfl T.JV T.HI.kp (kG T) .nil aO (ag (pv 0) (ag (pv 1) af))))) af))))))),?_⟩
 obtain ⟨kd,r,ek,hw⟩:=BY okt ps
 have h0':Dat K H (.tup (.str kd::r)) v0:=by rw [← ek];exact h0
 refine dt (K:=K) (d:=.tup ((bh t).map toD)) (RE.as (bg (R:=fB) (ab (ae (k:=0) h0') av) ⟨kd,r,rfl,rfl⟩) (by rw [← ek,B5 t (ig okt)])) λv2 H1 s1 q2=>?_
 rcases hw with ⟨k0,ew⟩ | ⟨k0,ew⟩
 ·refine aK (K:=K) (b:=true) (RT.as (bJ (wF (ae (k:=2) q2))) (by rw [k0];rfl)) (λ_ H2 s2=>?_) (λc=>nomatch c)
  rw [ew] at post
  exact aW (K:=K) (d:=toD t) (ae (k:=0) ((s1.trans s2).dat h0)) λv H' s q=>post v H' (s1.trans (s2.trans s)) q
 ·have ke:((bh t).map toD).isEmpty=false:=by cases hk:bh t with | nil=>exact absurd hk k0 | cons _ _=>rfl
  refine aK (K:=K) (b:=false) (RT.as (bJ (wF (ae (k:=2) q2))) (by rw [ke];rfl)) (λc=>nomatch c) (λ_ H2 s2=>?_)
  have s12:=s1.trans s2
  rw [ew] at post
  have l3:(bh t).length≤3:=by cases t <;> simp [bh]
  refine aW (K:=K) (d:=.tup ([.str kd]++(bh t).map λx=>toD (wcT ps x))) (BD (aP (ab (aQ (k:=0) (ae (k:=0) (s12.dat h0')) ao rfl) av)) (p9 (lN (ae (k:=2) (s2.dat q2)) (by rw [List.length_map];omega) ((bh t).map λx=>toD (wcT ps x)) (by rw [List.length_map,List.length_map]) rfl (λG i c v d sG hc hd hv=>?_))) (by rw [List.length_map];show 1+_≤1000;omega)) λv H' s q=>post v H' (s12.trans s) q
  rw [List.getElem?_map] at hc hd
  cases hx:(bh t)[i]? with
  | none=>rw [hx] at hc;cases hc
  | some x =>
   rw [hx] at hc hd
   cases hc
   cases hd
   obtain ⟨k1,k2⟩:=pO (List.mem_of_getElem? hx)
   have okx:okT x:=by
    have hm:=List.mem_of_getElem? hx
    cases t with
    | num n=>simp [bh] at hm
    | arg n=>simp [bh] at hm
    | call n=>simp [bh] at hm
    | two o a b=>simp only [bh,List.mem_cons,List.not_mem_nil,or_false] at hm;rcases hm with rfl | rfl;exact okt.2.1;exact okt.2.2
    | pick a b c=>simp only [bh,List.mem_cons,List.not_mem_nil,or_false] at hm;rcases hm with rfl | rfl | rfl;exact okt.1;exact okt.2.1;exact okt.2.2
   exact bK (R:=Rwc n) (bY (ae (k:=0) hv) (bS (aF (k:=1) ((s12.trans sG).ld h1)) bF)) ⟨x,ps,rfl,okx,by omega,by omega,okp,rfl⟩
theorem BX (as:List Ar) (d:D):¬ Rwc 0 as d:=λzq=>by obtain ⟨t,_,_,_,h,_⟩:=zq;have:=cX t;omega
noncomputable def yh (as:List Ar) (d:D):Prop:=∃ (t:Tr) (ps:List Tr),as=[.l (ps.map toD),.d (toD t)]/\okT t/\aE t≤8/\aC t≤40/\okPs ps/\(∀ p ∈ ps,p ∈ ax t)/\ps.Nodup/\d=.bl true
theorem zu {l:List Tr} (h:x ∈ l):(l.map toD).any (λe=>eqD e (toD x))=true:=by
 rw [List.any_map,List.any_eq_true]
 exact ⟨x,h,eV _ (bN x)⟩
theorem tI {l:List Tr} (h:x ∉ l):(l.map toD).any (λe=>eqD e (toD x))=false:=by
 rw [List.any_map,List.any_eq_false]
 intro y hy z
 rw [jV y x z] at hy
 exact h hy
theorem Bf {l:List Tr} (h:l.Nodup) (hx:l[i]?=some x):x ∉ l.take i:=λhm=>by
 obtain ⟨j,hj⟩:=List.mem_iff_getElem?.mp hm
 have hji:j < i:=by
  have:=(List.getElem?_eq_some_iff.mp hj).1
  rw [List.length_take] at this
  omega
 rw [List.getElem?_take_of_lt hji] at hj
 have hil:=(List.getElem?_eq_some_iff.mp hx).1
 have hjl:=(List.getElem?_eq_some_iff.mp hj).1
 have e1:=(List.getElem?_eq_some_iff.mp hx).2
 have e2:=(List.getElem?_eq_some_iff.mp hj).2
 exact List.pairwise_iff_getElem.mp h j i hjl hil hji (e2.trans e1.symm)
theorem qV (T:Txt P w K mg) (KD:FnOk P w K mg base CX0 k T.IQ T.IT ["thing"] (spD K mI)) (JZ:FnOk P w K mg base CX0 k T.Io T.Iw ["tree"] (iG K (fO 8))):FnOk P w K mg base CX0 (k+1) T.Ij T.Iq ["thing","tree"] (spA K yh):=by
 refine T.Jo.ok sc_are_parts (λvs H Q E h=>?_) (λcdv A outer s H vs Q E hr h=>?_)
 ·obtain ⟨as,d,hd,⟨t,ps,rfl,_⟩,_⟩:=h;exact hd.length.symm
 have nd:=sc_are_parts.nd
 obtain ⟨as,d,hd,⟨t,ps,rfl,okt,dpt,szt,okp,hin,nod,rfl⟩,post⟩:=h
 obtain ⟨v0,v1,rfl,h0,h1⟩:=qt hd
 have h0:LD K H (ps.map toD) v0:=h0
 have h1:Dat K H (toD t) v1:=h1
 have few:=okp.few
 refine ⟨_,(aj (bq (PW.pt (fF (ck (br (aT (eA vU) rfl T.Fd bT (cq (pv 0) (cq (fD (v:=.ty "list") rfl T.Lq qy rfl) af))) (λ_=>rfl))) (fq (aV pS (aT aU rfl T.Fq bP (ag (pv 0) af)) (bL (v:=.int 6) rfl T.Gu ⟨_,rfl⟩) (aY _))))) (au (aI cu)) aR)
 (aj (bq (ck (br (aT (gY rfl) rfl T.KQ kj (ag (cO (own:=["part"]) (fr:=[]) (N':=["part"]) (di (pv 0)) rfl (by show cj ["thing","tree","there"] (λx=>(aA fw).names.lookup x) _ _ _ _=true;decide +kernel) rfl (λ_ _ _ _ _=>(aL (i:=0) (by show List.Nodup [("part":Str)];decide +kernel) rfl (Or.inl rfl))) (λ_ _ _ _ _=>bO) (λ_ _ _ _ _=>(ay KD hr rfl T.KJ T.JE.kp (pd T) .nil aO (ag (pv 0) af)))) af)) (λ_=>rfl))) (au (aI cu)) aR)
 (aj (bj (i:=2) nd rfl (Or.inr rfl) (ay JZ hr rfl T.Ky T.JF.kp (ni T) .nil aO (ag (pv 1) af)))
 (au (aI (aT (gY rfl) rfl T.KQ kj (ag (cO (own:=["at","part"]) (fr:=[0,2]) (N':=["at","part","thing","there"]) (zS rfl T.KR (ag (pv 0) af)) rfl (by show cj ["thing","tree","there"] (λx=>(aA fw).names.lookup x) _ _ _ _=true;decide +kernel) rfl (λ_ _ _ _ _=>(wt (K:=K) (n:=2) rfl rfl (aZ (aL (i:=0) (by show List.Nodup [("at":Str),("part":Str),("thing":Str),("there":Str)];decide +kernel) rfl (Or.inl rfl)) (aZ (aL (i:=1) (by show List.Nodup [("at":Str),("part":Str),("thing":Str),("there":Str)];decide +kernel) rfl (Or.inl rfl)) cP)))) (λ_ _ _ _ _=>bO) (λ_ _ _ _ _=>(gz (cA (show OpR _ _ (tY K false) from rd hr) (pv 1) (pv 3) (by with_unfolding_all rfl)) (fT (cA (show OpR _ _ (tY K true) from pV hr) (pv 1) (hU (show SlR _ (Dt K) from BR) (pv 2) jN (ik (pv 0))) (by with_unfolding_all rfl)))))) af))))))),?_⟩
 refine aK (K:=K) (b:=false) (RT.as (dJ (b:=false) (c:=false) (RT.as (bJ (aX (cf (ae (k:=0) h0.lst)))) rfl) λ_=>RT.as (aD (eR (p:=λi j=>decide (j < i)) (fY (aF (k:=0) h0)) ao)) (decide_eq_false (by rw [List.length_map];omega))) rfl) (λc=>nomatch c) (λ_ H1 s1=>?_)
 have h0:=s1.ld h0
 refine aK (K:=K) (b:=false) (RT.as (bJ (aX (i9 (bs:=ps.map λ_=>true) (fG (aF (k:=0) h0) (by rw [List.length_map];omega) _ (by simp) rfl (λG1 j c v d s1 hc hd hv=>?_))))) (by rw [List.all_map];simp)) (λc=>nomatch c) (λ_ H2 s2=>?_)
 ·simp only [List.getElem?_map] at hc hd
  cases hx:ps[j]? with
  | none=>rw [hx] at hc;cases hc
  | some p =>
   rw [hx] at hc hd
   cases hc
   cases hd
   obtain ⟨k1,k2,k3⟩:=okp.ok p (List.mem_of_getElem? hx)
   exact bg (R:=mI) (ab (ae (k:=0) hv) av) ⟨toD p,rfl,by rw [mW k1 k2 k3]⟩
 have h0:=s2.ld h0
 have h1:=(s1.trans s2).dat h1
 refine eI (K:=K) (i8 (R:=fO 8) (ab (ae (k:=1) h1) av) ⟨t,rfl,ig okt,dpt,by omega,rfl⟩) λlw xs H3 hlw s3 hxs dxs=>?_
 have dpp:deepDs ((ax t).map toD)≤20:=Nat.le_trans (gT (n:=8) _ λx hx=>Nat.le_trans (bZ t x hx).2 dpt) (by decide)
 have h0:=s3.ld h0
 refine aW (K:=K) (d:=.bl true) (RE.as (i9 (bs:=ps.map λ_=>true) (Ai (aF (k:=0) h0) (by rw [List.length_map];omega) _ (by simp) (by decide) rfl (λG j c e v s hc he hv=>?_))) (by rw [List.all_map];simp)) λv H' s q=>post v H' (s1.trans (s2.trans (s3.trans s))) q
 simp only [List.getElem?_map] at hc he
 cases hx:ps[j]? with
 | none=>rw [hx] at hc;cases hc
 | some p =>
  rw [hx] at hc he
  cases hc
  cases he
  have hm:=List.mem_of_getElem? hx
  have kt:=Bf nod hx
  refine RE.as (cR (b:=true) (c:=true) (RE.as (iF (neg:=false) (ae (k:=1) hv) (aF (k:=3) (s.ld (LD.of hxs dxs))) (dE _) (bN p) dpp) (congrArg D.bl (zu (hin p hm)))) λ_=>RE.as (iF (neg:=true) (ae (k:=1) hv) (dI (RC.as (Ah (n:=j) (aF (k:=2) (s.ld h0)) (ae (k:=0) (Dat.intI (j:Int)))) (List.map_take).symm)) (dE _) (bN p) (Nat.le_trans (gT (n:=8) _ λx hx=>(okp.ok x (List.mem_of_mem_take hx)).2.1) (by decide))) (congrArg D.bl (by rw [tI kt];rfl))) rfl
noncomputable def m4 (as:List Ar) (d:D):Prop:=∃ (t:Tr) (ps:List Tr),as=[.l (ps.map toD),.d (toD t)]/\okT t/\aE t≤8/\aC t≤40/\okPs ps/\(∀ p ∈ ps,p ∈ ax t)/\ps.Nodup/\d=.non
theorem oX (T:Txt P w K mg) (Lw:FnOk P w K mg base CX0 k T.Ij T.Iq ["thing","tree"] (spA K yh)):FnOk P w K mg base CX0 (k+1) T.GL T.GM ["parts","tree"] (spA K m4):=by
 refine T.HH.ok sc_need_parts (λvs H Q E h=>?_) (λcdv A outer s H vs Q E hr h=>?_)
 ·obtain ⟨as,d,hd,⟨t,ps,rfl,_⟩,_⟩:=h;exact hd.length.symm
 have nd:=sc_need_parts.nd
 obtain ⟨as,d,hd,⟨t,ps,rfl,okt,dpt,szt,okp,hin,nod,rfl⟩,post⟩:=h
 obtain ⟨v0,v1,rfl,h0,h1⟩:=qt hd
 have h0:LD K H (ps.map toD) v0:=h0
 have h1:Dat K H (toD t) v1:=h1
 refine ⟨_,(au (bq (ck (br (ay Lw hr rfl T.KN T.Jo.kp (r8 T) .nil aO (ag (pv 0) (ag (pv 1) af))) (λ_=>rfl))) (au iP) aR)),?_⟩
 exact js (b:=false) (bJ (aX (bK (K:=K) (R:=yh) (bS (aF (k:=0) h0) (bY (ae (k:=1) h1) bF)) ⟨t,ps,rfl,okt,dpt,szt,okp,hin,nod,rfl⟩))) (λc=>nomatch c) (λ_ H1 s1=>post _ H1 s1 Dat.nonI)
noncomputable def fU (ps:List Pc) (t:Tr):List D:=(match bx ps t with
 | some b=>(cY ps [] 8 t b.2).getD []
 | none=>[])++[.int 0]
noncomputable def ku (as:List Ar) (es:List D):Prop:=∃ (ps:List Pc) (t:Tr),as=[.d (toD t),.l (ps.map pcD)]/\gdS ps/\okT t/\aE t≤8/\aC t≤40/\es=fU ps t
theorem lj:∀ t:Tr,okT t->clN m t=true
 | .num n,_=>rfl
 | .arg n,_=>rfl
 | .two o a b,h=>by simp only [clN,lj a h.2.1,lj b h.2.2,Bool.and_self]
 | .pick a b c,h=>by simp only [clN,lj a h.1,lj b h.2.1,lj c h.2.2,Bool.and_self]
 | .call _,h=>h.elim
theorem vT (F:gdS ps) (pl:List Int) (h:okX t) (d:aE t≤8):∃ b es,bx ps t=some b/\cY ps pl 8 t b.2=some es/\(es.length:Int)=b.1/\es.length≤12 * aC t:=by
 obtain ⟨b,hb⟩:=gS (λp hp=>(F.hp p hp).1) F.bp t h
 obtain ⟨es,h1,h2⟩:=iI pl F.hp F.la.ls.nd 8 t b d hb
 exact ⟨b,es,hb,h1,h2,iN F.ok.ok 8 t b.2 es h1⟩
theorem uM (T:Txt P w K mg) (IF:FnOk P w K mg base CX0 k T.FE T.FG ["tree","some"] (spA K yk)) (Gb:FnOk P w K mg base CX0 k T.Fv T.Fw ["tree","some","cover","places"] (gR K (iH 8))):FnOk P w K mg base CX0 (k+1) T.IM T.IR ["tree","some"] (gR K ku):=by
 refine T.JC.ok sc_code_of (λvs H Q E h=>?_) (λcdv A outer s H vs Q E hr h=>?_)
 ·obtain ⟨as,es,hd,⟨ps,t,rfl,_⟩,_⟩:=h;exact hd.length.symm
 have nd:=sc_code_of.nd
 obtain ⟨as,es,hd,⟨ps,t,rfl,F,okt,dpt,szt,rfl⟩,post⟩:=h
 obtain ⟨v0,v1,rfl,h0,h1⟩:=qt hd
 have h0:Dat K H (toD t) v0:=h0
 have h1:LD K H (ps.map pcD) v1:=h1
 refine ⟨_,(aj (fE (ay IF hr rfl T.IH T.Gp.kp (jm T) .nil aO (ag (pv 0) (ag (pv 1) af))) (eE rfl (aZ (aL (i:=2) nd rfl (Or.inl rfl)) (aZ (aL (i:=3) nd rfl (Or.inl rfl)) cP))))
 (au (aI (bu gJ (ay Gb hr rfl T.HK T.Gk.kp (gI T) .nil aO (ag (pv 0) (ag (pv 1) (ag (pv 3) (ag (bA af) af))))) (bA (ag (bL (v:=.int 0) rfl T.K5 ⟨_,rfl⟩) af)))))),?_⟩
 obtain ⟨b,es,hb,hl,ll,l12⟩:=vT F [] (ig okt) dpt
 have e:fU ps t=es++[.int 0]:=by unfold fU;rw [hb];dsimp only;rw [hl];rfl
 rw [e] at post
 refine kT (K:=K) (d:=.int b.1) (e:=b.2) (bK (R:=yk) (bY (ae (k:=0) h0) (bS (aF (k:=1) h1) bF)) ⟨ps,t,b,rfl,F.ok,ig okt,dpt,by omega,hb,rfl⟩) λv2 v3 H1 s1 q2 q3=>?_
 exact gq (RC.use (K:=K) (gK (dI (cD (R:=iH 8) (bY (ae (k:=0) (s1.dat h0)) (bS (aF (k:=1) (s1.ld h1)) (bY (ae (k:=3) q3) (bS (dI (dW av)) bF)))) ⟨ps,[],t,b.2,rfl,F.ok,⟨F.la,lj t okt⟩,ig okt,dpt,by decide,szt,hl⟩)) (dI (dW (ab ao av))) (by show es.length+1≤1000;omega)) λl ys H2 hl2 s2 hy dy=>post l ys H2 (s1.trans s2) hy (s1.free hl2) dy)
noncomputable def dH (pa:List Tr) (t:Tr):List Tr:=wcT pa t::pa.map (wwT pa)
noncomputable def bOf (ps:List Pc) (r:Tr):Int × D:=(bx ps r).getD (0,.non)
noncomputable def pA (ls:List Int) (i:Nat):Int:=((ls.take i).map (·+1)).sum
noncomputable def i7 (ls:List Int):List Int:=(List.range ls.length).map (pA ls)
noncomputable def kI (n:Nat):List Int:=0::List.replicate n 16
noncomputable def iJ (ps:List Pc) (pl:List Int) (x:Tr × Int):List D:=(cY ps pl 8 x.1 (bOf ps x.1).2).getD []++[.int x.2]
noncomputable def iO (ps:List Pc) (pa:List Tr) (t:Tr):List D:=(((dH pa t).zip (kI pa.length)).map (iJ ps (i7 ((dH pa t).map λr=>(bOf ps r).1)))).flatten
variable {pa:List Tr}
theorem ou (h:okPs pa) (k1:okT t) (k2:aE t≤8) (k3:aC t≤40):∀ r ∈ dH pa t,okX r/\aE r≤8/\aC r≤40/\clN (pa.length+1) r=true:=λr hr=>by
 rcases List.mem_cons.mp hr with rfl | hr
 ·obtain ⟨a,b,c,d⟩:=jt h.few t k1
  exact ⟨a,by omega,by omega,d⟩
 ·obtain ⟨p,hp,rfl⟩:=List.mem_map.mp hr
  obtain ⟨q1,q2,q3⟩:=h.ok p hp
  obtain ⟨a,b,c,d⟩:=Cq h.few p q1
  exact ⟨a,by omega,by omega,d⟩
theorem lQ (pa:List Tr) (t:Tr):(dH pa t).length=pa.length+1:=by unfold dH;rw [List.length_cons,List.length_map]
theorem sC (n:Nat):(kI n).length=n+1:=by unfold kI;rw [List.length_cons,List.length_replicate]
theorem Br {ls:List Int} {x:Int} (h:ls[i]?=some x):pA ls (i+1)=pA ls i+(x+1):=by
 unfold pA
 rw [List.take_add_one,h,List.map_append,List.sum_append]
 simp
theorem i0 (F:gdS ps) (pl:List Int) (h:okX t) (d:aE t≤8):∃ es,bx ps t=some (bOf ps t)/\cY ps pl 8 t (bOf ps t).2=some es/\(es.length:Int)=(bOf ps t).1/\es.length≤12 * aC t:=by
 obtain ⟨b,es,h1,h2,h3,h4⟩:=vT F pl h d
 have e:bOf ps t=b:=by unfold bOf;rw [h1];rfl
 rw [e]
 exact ⟨es,h1,h2,h3,h4⟩
variable {ta tb:TE}
theorem BA (h1:RC K ta σ H ds) (h2:RE K tb σ H (.int n)) (hn:ds.length * n≤1000) (hb:n≤1000):RC K (tOp Ek ta tb) σ H (List.replicate n ds).flatten:=λH1 s Q q =>
 h1 H1 s _ λl xs H2 hl s2 hx dx=>h2 H2 (s.trans s2) _ λw H3 s3 q3=>by
  have ew:=q3.intE
  subst ew
  refine ⟨l,n,xs,rfl,rfl,s3 _ _ hx,by omega,by omega,cm (by rw [← dx.length,Int.toNat_natCast];exact hn),λp hp=>?_⟩
  rw [Int.toNat_natCast]
  refine q p _ _ ((s2.trans s3).free hp) (s2.trans (s3.trans (aG hp _))) aq ?_
  have dx:=(s3.trans (aG hp (.lst (List.replicate n xs).flatten))).dats dx
  have:∀ m,Dats K (upd H3 p (.lst (List.replicate n xs).flatten)) (List.replicate m ds).flatten (List.replicate m xs).flatten:=λm=>by
   induction m with
   | zero=>exact Dats.nil
   | succ m ih=>rw [List.replicate_succ,List.replicate_succ,List.flatten_cons,List.flatten_cons];exact Dats.append dx ih
  exact this n
theorem BL (h:RE K te σ G d) (hl:G l=some (.lst xs)) (hx:xs.length≤10000)
  (q:∀ y G',But l G G'->G' l=some (.lst (xs++[y]))->Dat K G' d y->En.nx σ G') (hv:σ[j]?=some (some (.ref l)):=by rfl):mw (tBM K "list" mQ (jl j) (bR te dQ)) En σ G:=by
 refine ⟨_,hv,.inl ⟨rfl,_,SqL.of hl⟩,h.use λy H1 s1 q1=>?_⟩
 have hl1:=s1 _ _ hl
 refine ⟨l,xs,y,rfl,rfl,hl1,Nat.lt_of_le_of_lt hx (by decide),?_⟩
 have b:But l H1 (upd H1 l (.lst (xs++[y]))):=But.upd (Same.refl _).but
 exact q y _ (s1.but.trans b) aq (Dat.mono (b.grow hl1 aq) _ q1)
theorem BO (h:RC K te σ G es) (hl:G l=some (.lst xs)) (hx:xs.length+es.length≤10000)
  (q:∀ ys G',But l G G'->G' l=some (.lst (xs++ys))->Dats K G' es ys->En.nx σ G') (hv:σ[j]?=some (some (.ref l)):=by rfl):mw (tBM K "list" mR (jl j) (bR te dQ)) En σ G:=by
 refine ⟨_,hv,.inl ⟨rfl,_,SqL.of hl⟩,h.use λp vs H1 hp s1 hv1 q1=>?_⟩
 have hl1:=s1 _ _ hl
 have lv:=q1.length
 refine ⟨l,p,xs,vs,rfl,rfl,hl1,hv1,Nat.le_trans (by omega:xs.length+vs.length≤10000) (by decide),?_⟩
 have b:But l H1 (upd H1 l (.lst (xs++vs))):=But.upd (Same.refl _).but
 exact q vs _ (s1.but.trans b) aq (Dats.mono (b.grow hl1 aq) _ q1)
noncomputable def rW (as:List Ar) (es:List D):Prop:=∃ (ps:List Pc) (pa:List Tr) (t:Tr),as=[.d (toD t),.l (ps.map pcD),.l (pa.map toD)]/\gdS ps/\okT t/\aE t≤8/\aC t≤40/\okPs pa/\es=iO ps pa t/\es.length≤10000
theorem qW (T:Txt P w K mg) (JL:FnOk P w K mg base CX0 k T.Ge T.Gh ["tree","parts"] (spA K (Rwc 8))) (GQ:FnOk P w K mg base CX0 k T.Fj T.Fk ["tree","parts"] (spA K (Rww 7))) (IF:FnOk P w K mg base CX0 k T.FE T.FG ["tree","some"] (spA K yk)) (Gb:FnOk P w K mg base CX0 k T.Fv T.Fw ["tree","some","cover","places"] (gR K (iH 8))):FnOk P w K mg base CX0 (k+1) T.Hl T.Hm ["tree","some","parts"] (gR K rW):=by
 refine T.Iz.ok sc_code_once (λvs H Q E h=>?_) (λcdv A outer s H vs Q E hr h=>?_)
 ·obtain ⟨as,es,hd,⟨ps,pa,t,rfl,_⟩,_⟩:=h;exact hd.length.symm
 have nd:=sc_code_once.nd
 obtain ⟨as,es,hd,⟨ps,pa,t,rfl,F,okt,dpt,szt,okp,rfl,len⟩,post⟩:=h
 obtain ⟨v0,v1,v2,rfl,h0,h1,h2⟩:=yu hd
 have h0:Dat K H (toD t) v0:=h0
 have h1:LD K H (ps.map pcD) v1:=h1
 have h2:LD K H (pa.map toD) v2:=h2
 have few:=okp.few
 have rok:=ou okp okt dpt szt
 refine ⟨_,(aj (bj (i:=3) nd rfl (Or.inl rfl) (bu gJ (bA (ag (ay JL hr rfl T.JV T.HI.kp (kG T) .nil aO (ag (pv 0) (ag (pv 2) af))) af)) (cO (own:=["part"]) (fr:=[2]) (N':=["part","parts"]) (di (pv 2)) rfl (by show cj ["tree","some","parts","roots","closings","bests","places","place","length","cover","code","root","closing"] (λx=>(aA fz).names.lookup x) _ _ _ _=true;decide +kernel) rfl (λ_ _ _ _ _=>(aL (i:=0) (by show List.Nodup [("part":Str),("parts":Str)];decide +kernel) rfl (Or.inl rfl))) (λ_ _ _ _ _=>bO) (λ_ _ _ _ _=>(ay GQ hr rfl T.GR T.Ft.kp (gB T) .nil aO (ag (pv 0) (ag (pv 1) af)))))))
 (aj (bj (i:=4) nd rfl (Or.inl rfl) (bu gJ (bA (ag (bL (v:=.int 0) rfl T.K5 ⟨_,rfl⟩) af)) (bu Dk (bA (ag (bL (v:=.int 16) rfl T.KF ⟨_,rfl⟩) af)) (aT aU rfl T.Fq bP (ag (pv 2) af)))))
 (aj (fm (i:=5) (own:=["root"]) (fr:=[1]) (N':=["root","some"]) (di (pv 3)) rfl (by show cj ["tree","some","parts","roots","closings","bests","places","place","length","cover","code","root","closing"] (λx=>(aA fz).names.lookup x) _ _ _ _=true;decide +kernel) rfl (λ_ _ _ _ _=>(aL (i:=0) (by show List.Nodup [("root":Str),("some":Str)];decide +kernel) rfl (Or.inl rfl))) (λ_ _ _ _ _=>bO) (λ_ _ _ _ _=>(ay IF hr rfl T.IH T.Gp.kp (jm T) .nil aO (ag (pv 0) (ag (pv 1) af)))) nd rfl rfl rfl)
 (aj (bj (i:=6) nd rfl (Or.inl rfl) (bA af))
 (aj (bj (i:=7) nd rfl (Or.inl rfl) ak)
 (aj (gA PassesOwn.never rfl (di (pv 5)) (eE rfl (aZ (aL (i:=8) nd rfl (Or.inl rfl)) (aZ (aL (i:=9) nd rfl (Or.inl rfl)) cP))) (aj (bE (dq PySem.F.plainAttrs_list PySem.F.slot_list_append PySem.F.type_list_append bQ (pv 6) (ag (pv 7) af)))
 (au (rn (i:=7) nd rfl (Or.inl rfl) (bu cM (pv 8) ak) nC))))
 (aj (bj (i:=10) nd rfl (Or.inl rfl) (bA af))
 (aj (gA PassesOwn.never rfl (Bu rfl T.LP (ag (pv 3) (ag (pv 5) (ag (pv 4) af)))) (eE rfl (aZ (aL (i:=11) nd rfl (Or.inl rfl)) (aZ (eE rfl (aZ (aL (i:=8) nd rfl (Or.inl rfl)) (aZ (aL (i:=9) nd rfl (Or.inl rfl)) cP))) (aZ (aL (i:=12) nd rfl (Or.inl rfl)) cP)))) (aj (bE (dq PySem.F.plainAttrs_list PySem.F.slot_list_extend PySem.F.type_list_extend eH (pv 10) (ag (ay Gb hr rfl T.HK T.Gk.kp (gI T) .nil aO (ag (pv 11) (ag (pv 1) (ag (pv 9) (ag (pv 6) af))))) af)))
 (au (bE (dq PySem.F.plainAttrs_list PySem.F.slot_list_append PySem.F.type_list_append bQ (pv 10) (ag (pv 12) af))))))
 (au (aI (pv 10))))))))))),?_⟩
 refine eI (K:=K) (gK (dI (dW (ab (bK (R:=Rwc 8) (bY (ae (k:=0) h0) (bS (aF (k:=2) h2) bF)) ⟨t,pa,rfl,okt,dpt,by omega,okp,rfl⟩) av))) (dI (fG (aF (k:=2) h2) (by rw [List.length_map];omega) (pa.map λp=>toD (wwT pa p)) (by rw [List.length_map,List.length_map]) rfl (λG j c v d s hc hd hv=>?_))) (by rw [List.length_map];show 1+_≤1000;omega)) λlr rv H1 hlr s1 hrv drv=>?_
 ·rw [List.getElem?_map] at hc hd
  cases hx:pa[j]? with
  | none=>rw [hx] at hc;cases hc
  | some p =>
   rw [hx] at hc hd
   cases hc
   cases hd
   obtain ⟨k1,k2,k3⟩:=okp.ok p (List.mem_of_getElem? hx)
   exact bK (R:=Rww 7) (bY (ae (k:=0) hv) (bS (aF (k:=1) (s.ld h2)) bF)) ⟨p,pa,rfl,k1,by omega,by omega,okp,rfl⟩
 have drv:Dats K H1 ((dH pa t).map toD) rv:=by
  have e:(dH pa t).map toD=[toD (wcT pa t)]++pa.map λp=>toD (wwT pa p):=by unfold dH;rw [List.map_cons,List.map_map];rfl
  rw [e];exact drv
 refine eI (K:=K) (gK (dI (dW (ab ao av))) (dI (BA (n:=pa.length) (dW (ab ao av)) (RE.as (fY (aF (k:=2) (s1.ld h2))) (by rw [List.length_map])) (by show 1 * _≤1000;omega) (by omega))) (by rw [wb];show 1+_ * 1≤1000;omega)) λlc cv H2 hlc s2 hcv dcv=>?_
 have dcv:Dats K H2 ((kI pa.length).map D.int) cv:=by
  have e:(kI pa.length).map D.int=[D.int 0]++(List.replicate pa.length [D.int 16]).flatten:=by
   unfold kI;rw [List.map_cons,List.map_replicate,List.flatten_replicate_singleton];rfl
  rw [e];exact dcv
 have lroots:=lQ pa t
 have lclos:=sC pa.length
 have s12:=s1.trans s2
 refine eI (K:=K) (fG (aF (k:=3) (s2.ld (LD.of hrv drv))) (by rw [List.length_map];omega) ((dH pa t).map λr=>.tup [.int (bOf ps r).1,(bOf ps r).2]) (by rw [List.length_map,List.length_map]) rfl (λG j c v d s hc hd hv=>?_)) λlb bv H3 hlb s3 hbv dbv=>?_
 ·rw [List.getElem?_map] at hc hd
  cases hx:(dH pa t)[j]? with
  | none=>rw [hx] at hc;cases hc
  | some r =>
   rw [hx] at hc hd
   cases hc
   cases hd
   obtain ⟨k1,k2,k3,k4⟩:=rok r (List.mem_of_getElem? hx)
   obtain ⟨_,hb,_,_,_⟩:=i0 F [] k1 k2
   exact bK (R:=yk) (bY (ae (k:=0) hv) (bS (aF (k:=1) ((s12.trans s).ld h1)) bF)) ⟨ps,r,_,rfl,F.ok,k1,k2,by omega,hb,rfl⟩
 have s13:=s12.trans s3
 refine cZ ⟨cm (by decide),λlp hlp=>?_⟩
 have s4:Same H3 (upd H3 lp (.lst [])):=aG hlp _
 refine cZ (wD ?_)
 generalize hls:(dH pa t).map (λr=>(bOf ps r).1)=ls
 have lls:ls.length=pa.length+1:=by rw [← hls,List.length_map];exact lroots
 have lbv:=dbv.length
 rw [List.length_map] at lbv
 generalize hG4:upd H3 lp (.lst [])=G4 at s4
 have hp4:G4 lp=some (.lst []):=by rw [← hG4];exact aq
 refine cJ ⟨_,rfl,lb,rfl,⟨bv,SqL.of (s4 _ _ hbv)⟩,jA (K:=K) (xs:=bv) (λi σ G=>∃ (z8 z9:Option V) (ys:List V),σ=[some v0,some v1,some v2,some (.ref lr),some (.ref lc),some (.ref lb),some (.ref lp),some (.int (pA ls i)),z8,z9,none,none,none]/\Same H3 G/\G lp=some (.lst ys)/\Dats K G ((List.range i).map λi=>D.int (pA ls i)) ys) ?_ (λi σ G _ zq=>by obtain ⟨_,_,_,_,p1,_⟩:=zq;exact SqL.of (p1 _ _ hbv)) ?_ ?_⟩
 ·exact ⟨none,none,[],rfl,s4,hp4,Dats.nil⟩
 ·rintro i x σ G hx ⟨z8,z9,ys,rfl,sG,hpG,dy⟩
  obtain ⟨d,ed,hd⟩:=(sG.dats dbv).getV hx
  rw [List.getElem?_map] at ed
  cases hr:(dH pa t)[i]? with
  | none=>rw [hr] at ed;cases ed
  | some r =>
   rw [hr] at ed
   cases ed
   obtain ⟨pp,us,rfl,hpp,dus⟩:=hd.tupE
   obtain ⟨u,c,rfl,hu,hc⟩:=gk dus
   have eu:=hu.intE
   subst eu
   refine ⟨pp,_,rfl,hpp,rfl,_,_,rfl,_,_,rfl,rfl,?_⟩
   dsimp only
   have il:i < pa.length+1:=by rw [← lroots];exact (List.getElem?_eq_some_iff.mp hr).1
   have ly:=dy.length
   rw [List.length_map,List.length_range] at ly
   refine gL (K:=K) (ae (k:=7) (Dat.intI _)) hpG (by omega) λy G2 b2 hp2 dy2=>?_
   have g2:cW K G G2:=b2.grow hpG hp2
   have eli:ls[i]?=some (bOf ps r).1:=by rw [← hls,List.getElem?_map,hr];rfl
   refine ⟨_,rfl,RE.use (K:=K) (dC (ae (k:=8) (Dat.intI _)) ao) λv7 G3 s3' q7=>⟨_,_,rfl,q7.intE,?_⟩⟩
   refine ⟨some (.int (bOf ps r).1),some c,ys++[y],by rw [Br eli];rfl,λa o ha=>s3' _ _ (b2 a o (az ha hlp) (sG _ _ ha)),s3' _ _ hp2,?_⟩
   rw [List.range_succ,List.map_append]
   exact s3'.dats (Dats.append (Dats.mono g2 _ dy) (Dats.cons dy2 Dats.nil))
 ·rintro σ G ⟨z8,z9,ys,rfl,sG,hpG,dy⟩
  dsimp only
  have ebl:bv.length=ls.length:=by omega
  rw [ebl] at dy
  have dy:Dats K G ((i7 ls).map D.int) ys:=by unfold i7;rw [List.map_map];exact dy
  have lpl:(i7 ls).length=pa.length+1:=by unfold i7;rw [List.length_map,List.length_range];exact lls
  refine cZ ⟨cm (by decide),λlk hlk=>?_⟩
  have s5:Same G (upd G lk (.lst [])):=aG hlk _
  generalize hG5:upd G lk (.lst [])=G5 at s5
  have hk5:G5 lk=some (.lst []):=by rw [← hG5];exact aq
  have lrv:=drv.length
  have lcv:=dcv.length
  rw [List.length_map] at lrv lcv
  have s35:=sG.trans s5
  have s25:=s3.trans s35
  have s15:=s2.trans s25
  unfold iO at post len
  rw [hls] at post len
  generalize hzs:(dH pa t).zip (kI pa.length)=zp at post len
  have ezp:∀ i,i≤zp.length->((zp.take i).map (iJ ps (i7 ls))).flatten.length≤((zp.map (iJ ps (i7 ls))).flatten).length:=λi _=>by
   have e:zp.map (iJ ps (i7 ls))=(zp.take i).map (iJ ps (i7 ls))++(zp.drop i).map (iJ ps (i7 ls)):=by rw [← List.map_append,List.take_append_drop]
   rw [e,List.flatten_append,List.length_append]
   omega
  have lzp:zp.length=pa.length+1:=by rw [← hzs,List.length_zip,lroots,lclos];omega
  refine cJ ⟨_,rfl,_,rfl,_,rfl,lr,lb,lc,rv,bv,cv,rfl,SqL.of (s15 _ _ hrv),SqL.of (s35 _ _ hbv),SqL.of (s25 _ _ hcv),yY (K:=K) (xs:=rv) (ys:=bv) (zs:=cv) (λi σ F=>∃ (z8 z9 z11 z12:Option V) (ks:List V),σ=[some v0,some v1,some v2,some (.ref lr),some (.ref lc),some (.ref lb),some (.ref lp),some (.int (pA ls bv.length)),z8,z9,some (.ref lk),z11,z12]/\Same G F/\F lk=some (.lst ks)/\Dats K F (((zp.take i).map (iJ ps (i7 ls))).flatten) ks) (by omega) (by omega) ?_ (λi σ F _ ⟨_,_,_,_,_,_,p1,_⟩=>⟨SqL.of ((s2.trans (s3.trans (sG.trans p1))) _ _ hrv),SqL.of ((sG.trans p1) _ _ hbv),SqL.of ((s3.trans (sG.trans p1)) _ _ hcv)⟩) ?_ ?_⟩
  ·exact ⟨z8,z9,none,none,[],rfl,s5,hk5,by rw [List.take_zero];exact Dats.nil⟩
  ·rintro i u w c pp σ F2 hu hw hc hpp ⟨z8,z9,z11,z12,ks,rfl,sF,hkF,dk⟩
   have sn:Same F2 (upd F2 pp (.tup [u,w,c])):=aG hpp _
   have sGn:=sF.trans sn
   have s3n:=sG.trans sGn
   have s2n:=s3.trans s3n
   have s1n:=s2.trans s2n
   obtain ⟨du,edu,hdu⟩:=(s1n.dats drv).getV hu
   obtain ⟨dw,edw,hdw⟩:=(s3n.dats dbv).getV hw
   obtain ⟨dc,edc,hdc⟩:=(s2n.dats dcv).getV hc
   rw [List.getElem?_map] at edu edw edc
   cases hr:(dH pa t)[i]? with
   | none=>rw [hr] at edu;cases edu
   | some r =>
   cases hci:(kI pa.length)[i]? with
   | none=>rw [hci] at edc;cases edc
   | some ci =>
    rw [hr] at edu edw
    rw [hci] at edc
    cases edu
    cases edw
    cases edc
    obtain ⟨qq,us,rfl,hqq,dus⟩:=hdw.tupE
    obtain ⟨u1,c1,rfl,hu1,hc1⟩:=gk dus
    obtain ⟨k1,k2,k3,k4⟩:=rok r (List.mem_of_getElem? hr)
    obtain ⟨es,hb,hlay,hle,l12⟩:=i0 F (i7 ls) k1 k2
    have hz:zp[i]?=some (r,ci):=by rw [← hzs,List.getElem?_zip_eq_some];exact ⟨hr,hci⟩
    have eb:iJ ps (i7 ls) (r,ci)=es++[.int ci]:=by unfold iJ;dsimp only;rw [hlay];rfl
    have et:((zp.take (i+1)).map (iJ ps (i7 ls))).flatten=((zp.take i).map (iJ ps (i7 ls))).flatten++(es++[.int ci]):=by
     rw [List.take_add_one,hz,List.map_append,List.flatten_append]
     simp only [Option.toList_some,List.map_cons,List.map_nil,List.flatten_cons,List.flatten_nil,List.append_nil,eb]
    have lt:=ezp (i+1) (List.getElem?_eq_some_iff.mp hz).1
    rw [et,List.length_append,List.length_append] at lt
    have lk1:=dk.length
    have l1:([D.int ci]:List D).length=1:=rfl
    have lks:ks.length+es.length+1≤10000:=by omega
    refine ⟨pp,_,rfl,SqT.of aq,rfl,_,_,rfl,_,_,rfl,qq,_,rfl,hqq,rfl,_,_,rfl,_,_,rfl,rfl,_,_,rfl,rfl,?_⟩
    dsimp only
    refine cJ (BO (K:=K) (cD (R:=iH 8) (bY (ae (k:=11) hdu) (bS (aF (k:=1) ((s1.trans s1n).ld h1)) (bY (ae (k:=9) hc1) (bS (aF (k:=6) (LD.of (sGn _ _ hpG) (sGn.dats dy))) bF)))) ⟨ps,i7 ls,r,_,rfl,F.ok,⟨F.la,by rw [lpl];exact k4⟩,k1,k2,by decide,k3,hlay⟩) (sn _ _ hkF) (by omega) λys2 G2 b2 hc2 dy2=>?_)
    have g2:cW K (upd F2 pp (.tup [u,.ref qq,c])) G2:=b2.grow (sn _ _ hkF) hc2
    have ly2:=dy2.length
    refine BL (K:=K) (ae (k:=12) (Dat.mono g2 _ hdc)) hc2 (by rw [List.length_append];omega) λy3 G3 b3 hc3 dy3=>?_
    have g3:cW K G2 G3:=b3.grow hc2 hc3
    refine ⟨_,_,_,_,ks++ys2++[y3],rfl,λa o ha=>b3 a o (az ha hlk) (b2 a o (az ha hlk) (sGn _ _ ha)),hc3,?_⟩
    rw [et,← List.append_assoc]
    exact Dats.append (Dats.mono g3 _ (Dats.append (Dats.mono g2 _ (sn.dats dk)) dy2)) (Dats.cons dy3 Dats.nil)
  ·rintro σ F2 ⟨z8,z9,z11,z12,ks,rfl,sF,hkF,dk⟩
   dsimp only
   rw [List.take_of_length_le (by omega)] at dk
   exact ⟨_,rfl,post lk ks F2 (s13.trans (sG.trans sF)) hkF ((s13.trans sG).free hlk) dk⟩
theorem e9:∀ (t x:Tr),okT t->x ∈ ax t->okT x
 | .num n,x,k,h=>by
  have e:x=.num n:=by simpa [ax] using h
  subst e;exact k
 | .arg n,x,k,h=>by
  have e:x=.arg n:=by simpa [ax] using h
  subst e;exact k
 | .call n,x,k,h=>k.elim
 | .two o a b,x,k,h=>by
  simp only [ax,List.mem_cons,List.mem_append] at h
  rcases h with rfl | h | h
  ·exact k
  ·exact e9 a x k.2.1 h
  ·exact e9 b x k.2.2 h
 | .pick a b c,x,k,h=>by
  simp only [ax,List.mem_cons,List.mem_append] at h
  rcases h with rfl | (h | h) | h
  ·exact k
  ·exact e9 a x k.1 h
  ·exact e9 b x k.2.1 h
  ·exact e9 c x k.2.2 h
theorem tJ {p:Tr} (k1:okT t) (k2:aE t≤8) (k3:aC t≤40) (h:p ∈ ax t):okPs [p]:=⟨λx hx=>by
 have e:=List.mem_singleton.mp hx
 subst e
 have:=bZ t x h
 exact ⟨e9 t x k1 h,by omega,by omega⟩,by simp⟩
theorem Bm (F:gdS ps) {p:Tr} (k1:okT t) (k2:aE t≤8) (k3:aC t≤40) (h:okPs [p]):(iO ps [p] t).length≤10000:=by
 have rok:=ou h k1 k2 k3
 unfold iO
 generalize i7 _=pl
 obtain ⟨a1,a2,a3,_⟩:=rok (wcT [p] t) (by simp [dH])
 obtain ⟨b1,b2,b3,_⟩:=rok (wwT [p] p) (by simp [dH])
 obtain ⟨e1,_,f1,_,g1⟩:=i0 F pl a1 a2
 obtain ⟨e2,_,f2,_,g2⟩:=i0 F pl b1 b2
 show (iJ ps pl (wcT [p] t,0)++(iJ ps pl (wwT [p] p,16)++[])).length≤10000
 unfold iJ
 dsimp only
 rw [f1,f2]
 simp only [Option.getD_some,List.length_append,List.length_cons,List.length_nil]
 omega
noncomputable def vS (ps:List Pc) (t p:Tr):Int:=((fU ps t).length:Int) - ((iO ps [p] t).length:Int)
noncomputable def ym (as:List Ar) (d:D):Prop:=∃ (ps:List Pc) (t p:Tr),as=[.d (toD t),.l (ps.map pcD),.d (toD p)]/\gdS ps/\okT t/\aE t≤8/\aC t≤40/\p ∈ ax t/\d=.int (vS ps t p)
noncomputable def wR (ds:List D) (d:D):Prop:=∃ x,ds=[x]/\fW x=true/\d=.non
theorem Bl (T:Txt P w K mg) (Ih:FnOk P w K mg base CX0 k T.GB T.GG ["tree"] (spD K wR)) (IW:FnOk P w K mg base CX0 k T.Hg T.Hi ["some"] (spA K j7)) (JK:FnOk P w K mg base CX0 k T.GL T.GM ["parts","tree"] (spA K m4)) (KA:FnOk P w K mg base CX0 k T.IM T.IR ["tree","some"] (gR K ku)) (JY:FnOk P w K mg base CX0 k T.Hl T.Hm ["tree","some","parts"] (gR K rW)):FnOk P w K mg base CX0 (k+1) T.K1 T.K4 ["tree","some","part"] (spA K ym):=by
 refine T.Lp.ok sc_gain (λvs H Q E h=>?_) (λcdv A outer s H vs Q E hr h=>?_)
 ·obtain ⟨as,d,hd,⟨ps,t,p,rfl,_⟩,_⟩:=h;exact hd.length.symm
 have nd:=sc_gain.nd
 obtain ⟨as,d,hd,⟨ps,t,p,rfl,F,okt,dpt,szt,hp,rfl⟩,post⟩:=h
 obtain ⟨v0,v1,v2,rfl,h0,h1,h2⟩:=yu hd
 have h0:Dat K H (toD t) v0:=h0
 have h1:LD K H (ps.map pcD) v1:=h1
 have h2:Dat K H (toD p) v2:=h2
 have okp:=tJ okt dpt szt hp
 refine ⟨_,(aj (bE (ay Ih hr rfl T.Js T.Ho.kp (jx T) .nil aO (ag (pv 0) af)))
 (aj (bE (ay IW hr rfl T.JU T.HV.kp (kh T) .nil aO (ag (pv 1) af)))
 (aj (bE (ay JK hr rfl T.JT T.HH.kp (kF T) .nil aO (ag (bA (ag (pv 2) af)) (ag (pv 0) af))))
 (au (aI (bu rh (aT aU rfl T.Fq bP (ag (ay KA hr rfl T.KH T.JC.kp (o8 T) .nil aO (ag (pv 0) (ag (pv 1) af))) af)) (aT aU rfl T.Fq bP (ag (ay JY hr rfl T.J6 T.Iz.kp (lY T) .nil aO (ag (pv 0) (ag (pv 1) (ag (bA (ag (pv 2) af)) af)))) af)))))))),?_⟩
 refine jJ (RE.use (bg (R:=wR) (d:=.non) (ab (ae (K:=K) (k:=0) h0) av) ⟨toD t,rfl,mW okt dpt szt,rfl⟩) λv4 H1 s1 _=>?_)
 refine jJ (RE.use (bK (R:=j7) (d:=.non) (bS (aF (K:=K) (k:=1) (s1.ld h1)) bF) ⟨ps,rfl,F.gs,rfl⟩) λv5 H2 s2 _=>?_)
 have s12:=s1.trans s2
 refine jJ (RE.use (bK (R:=m4) (d:=.non) (bS (dI (dW (ab (ae (K:=K) (k:=2) (s12.dat h2)) av))) (bY (ae (k:=0) (s12.dat h0)) bF)) ⟨t,[p],rfl,okt,dpt,szt,okp,λx hx=>by rw [List.mem_singleton.mp hx];exact hp,by simp,rfl⟩) λv6 H3 s3 _=>?_)
 have s13:=s12.trans s3
 exact aW (K:=K) (d:=.int (vS ps t p)) (vi (fY (dI (cD (R:=ku) (bY (ae (k:=0) (s13.dat h0)) (bS (aF (k:=1) (s13.ld h1)) bF)) ⟨ps,t,rfl,F,okt,dpt,szt,rfl⟩))) (fY (dI (cD (R:=rW) (bY (ae (k:=0) (s13.dat h0)) (bS (aF (k:=1) (s13.ld h1)) (bS (dI (dW (ab (ae (k:=2) (s13.dat h2)) av))) bF))) ⟨ps,[p],t,rfl,F,okt,dpt,szt,okp,rfl,Bm F okt dpt szt okp⟩)))) λv H' s q=>post v H' (s13.trans s) q
theorem DU (h:okT x) (d:aE x=1):aC x=1:=by
 cases x with
 | num n=>rfl
 | arg n=>rfl
 | call n=>rfl
 | two o a b=>have:=cX a;simp only [aE] at d;omega
 | pick a b c=>have:=cX a;simp only [aE] at d;omega
noncomputable def wI (K:PySem.W.Frag):Sp:=λvs H Q _=>∃ (a t:Addr) (ns:List Int) (p q c:Int),vs=[.ref a,.ref t]/\Scr K H a ns/\H t=some (.lst [.int p,.int q,.int c])/\0≤p/\0≤c/\c≤60 /\
 ∀ (v:V) (H':Hp) (X:Tr) (p' q' c':Int),But t H H'->H' t=some (.lst [.int p',.int q',.int c'])->0≤p'->0≤c'->c'≤c->okT X->aE X≤3->aC X≤7->Dat K H' (toD X) v->Q v H'
theorem oR (T:Txt P w K mg) (F0:FnOk P w K mg base CX0 k T.F4 T.F8 ["_law_script","_law_town","_law_some"] (oB K)) (Hk:FnOk P w K mg base CX0 k T.F6 T.F9 ["_law_script","_law_town","_law_room"] (lV K 4)):FnOk P w K mg base CX0 (k+1) T.Hu T.Hz ["_law_script","_law_town"] (wI K):=by
 refine T.HE.ok sc__law_heavy (λvs H Q E h=>?_) (λcdv A outer s H vs Q E hr h=>?_)
 ·obtain ⟨a,t,ns,p,q,c,rfl,_⟩:=h;rfl
 have nd:=sc__law_heavy.nd
 obtain ⟨a,t,ns,p,q,c,rfl,hS,hT,hp,hc,hc2,post⟩:=h
 refine ⟨_,(aj (fm (i:=2) (own:=["_law_k"]) (fr:=[0,1]) (N':=["_law_k","_law_script","_law_town"]) (lK rfl T.Kz (ag ak af)) rfl (by show cj ["_law_script","_law_town","_law_four"] (λx=>(aA fK).names.lookup x) _ _ _ _=true;decide +kernel) rfl (λ_ _ _ _ _=>(aL (i:=0) (by show List.Nodup [("_law_k":Str),("_law_script":Str),("_law_town":Str)];decide +kernel) rfl (Or.inl rfl))) (λ_ _ _ _ _=>bO) (λ_ _ _ _ _=>(ay Hk hr rfl T.IB T.GH.kp (ib T) .nil aO (ag (pv 1) (ag (pv 2) (ag ak af))))) nd rfl rfl rfl)
 (au (aI (aM (ag (ay F0 hr rfl T.Hs T.Ga.kp (gi T) .nil aO (ag (pv 0) (ag (pv 1) (ag (bA (ag aH (ag aH af))) af)))) (ag (aM (ag aH (ag (aN bM (pv 2) ak (λ_ _=>rfl)) (ag (aN bM (pv 2) ak (λ_ _=>rfl)) af)))) (ag (aM (ag aH (ag (aN bM (pv 2) ak (λ_ _=>rfl)) (ag (aN bM (pv 2) ak (λ_ _=>rfl)) af)))) af))))))),?_⟩
 refine cZ (om 4 (λR hR=>hR) (by decide) rfl
  (λl i G'=>∃ (Ts:List Tr) (ys:List V) (p' q' c':Int),But t H G'/\G' t=some (.lst [.int p',.int q',.int c'])/\0≤p'/\0≤c'/\c'≤c/\G' l=some (.lst ys)/\Ts.length=i/\(∀ x ∈ Ts,okT x/\aE x=1/\aC x=1)/\Dats K G' (Ts.map toD) ys) (λl hl=>?_) (λl i G' hl hi pn=>?_) (λl G' hl pn=>?_))
 ·have nl:l≠t:=λz=>by rw [z,hT] at hl;cases hl
  exact ⟨[],[],p,q,c,(aG hl _).but,(by rw [aJ (Ne.symm nl)];exact hT),hp,hc,Int.le_refl _,aq,rfl,(λx hx=>absurd hx (by simp)),Dats.nil⟩
 ·obtain ⟨Ts,ys,p',q',c',bt,tt,gp,gc,gc2,hl',lT,okTs,dT⟩:=pn
  have nl:l≠t:=λz=>by rw [z,hT] at hl;cases hl
  have ly:ys.length=i:=by rw [← dT.length,List.length_map,lT]
  refine ⟨_,rfl,_,rfl,a,t,ns,1,p',q',c',rfl,hS.but bt hT,tt,gp,gc,by omega,by decide,by decide,λv G2 X p2 q2 c2 bb t2 g2 h2 h2' okX dpX szX dX=>?_⟩
  have hl2:=bb l _ nl hl'
  have g1:cW K G' G2:=bb.grow tt t2
  have g3:cW K G2 (upd G2 l (.lst (ys++[v]))):=But.grow (t:=l) (But.upd (Same.refl G2).but) hl2 aq
  refine ⟨ys,hl2,cx (by omega),⟨_,rfl⟩,Ts++[X],ys++[v],p2,q2,c2,?_,?_,g2,h2,by omega,aq,by rw [List.length_append,lT];rfl,?_,?_⟩
  ·intro b o hb hbo
   have nb:b≠l:=az hbo hl
   rw [aJ nb]
   exact bb b o hb (bt b o hb hbo)
  ·rw [aJ (Ne.symm nl)];exact t2
  ·intro x hx
   rcases List.mem_append.mp hx with hx | hx
   ·exact okTs x hx
   ·rw [List.mem_singleton.mp hx]
    have:=cX X
    have d1:aE X=1:=by omega
    exact ⟨okX,d1,DU okX d1⟩
  ·rw [List.map_append]
   exact Dats.append (Dats.mono g3 _ (Dats.mono g1 _ dT)) (Dats.cons (Dat.mono g3 _ dX) Dats.nil)
 obtain ⟨Ts,ys,p',q',c',bt,tt,gp,gc,gc2,hl',lT,okTs,dT⟩:=pn
 match Ts,lT with
 | [a0,a1,a2,a3],_ =>
  obtain ⟨k0,d0,z0⟩:=okTs a0 (by simp)
  obtain ⟨k1,d1,z1⟩:=okTs a1 (by simp)
  obtain ⟨k2,d2,z2⟩:=okTs a2 (by simp)
  obtain ⟨k3,d3,z3⟩:=okTs a3 (by simp)
  have nl:l≠t:=λz=>by rw [z,hT] at hl;cases hl
  refine gq (Cf (cQ (eF ?_)))
  refine ⟨_,rfl,_,rfl,cm (by decide),λl2 hl2=>?_⟩
  have nel:l2≠t:=λz=>by rw [z,tt] at hl2;cases hl2
  have b4:=bt.trans (aG hl2 (.lst [.str "mul",.str "sub"])).but
  have n2:l≠l2:=az hl' hl2
  refine ⟨a,t,l2,ns,_,p',q',[.int c'],rfl,hS.but b4 hT,SqL.of aq,nel,by decide,by decide,(by rw [aJ (Ne.symm nel)];exact tt),gp,λi x H5 p5 q5 b5 t5 g5 hx=>?_⟩
  obtain ⟨nm,en,hnm⟩:∃ nm:Str,x=.str nm/\(nm="add"\/nm="sub"\/nm="mul"\/nm="less"):=by
   have:=List.mem_of_getElem? hx
   simp only [List.mem_cons,List.not_mem_nil,or_false] at this
   rcases this with e | e
   ·exact ⟨_,e,.inr (.inr (.inl rfl))⟩
   ·exact ⟨_,e,.inr (.inl rfl)⟩
  subst en
  have gG:cW K G' H5:=((aG hl2 (.lst [.str "mul",.str "sub"])).but.trans b5).grow tt t5
  have hl5:H5 l=some (.lst ys):=b5 _ _ nl (by rw [aJ n2];exact hl')
  have hL:LD K H5 ([a0,a1,a2,a3].map toD) (.ref l):=LD.of hl5 (Dats.mono gG _ dT)
  have rr:∀ {tA:TA} {σ:L2.St} {H:Hp} {ds:List D} {Q:List V->Hp->Prop},RA K tA σ H ds->(∀ vs H',Same H H'->Dats K H' ds vs->Q vs H')->tA σ H Q:=λh q=>h _ (Same.refl _) _ q
  refine rr (ds:=[.tup [.str "sub",toD a0,toD a1],.tup [.str "less",toD a2,toD a3]]) (ab (aP (ab aB (ab (fH (k:=0) (aF (k:=2) hL) ao rfl) (ab (fH (k:=1) (aF (k:=2) hL) ao rfl) av)))) (ab (aP (ab aB (ab (fH (k:=2) (aF (k:=2) hL) ao rfl) (ab (fH (k:=3) (aF (k:=2) hL) ao rfl) av)))) av)) λvs H6 s6 q6=>?_
  obtain ⟨u1,u2,rfl,e1,e2⟩:=gk q6
  refine ⟨cm (by simp),λu hu=>?_⟩
  have s7:=s6.trans (aG hu (.tup [.str nm,u1,u2]))
  refine post (.ref u) _ (.two nm (.two "sub" a0 a1) (.two "less" a2 a3)) p5 q5 c' ((b4.trans b5).trans s7.but) (s7 _ _ t5) g5 gc gc2 ⟨hnm,⟨.inr (.inl rfl),k0,k1⟩,⟨.inr (.inr (.inr rfl)),k2,k3⟩⟩ (by simp only [aE];omega) (by simp only [aC];omega) ?_
  exact Dat.tupI (SqT.of aq) (Dats.cons (Dat.strI _) ((aG hu _).dats q6))
noncomputable abbrev FM (X Y Z M:Tr):List Tr:=[(.two "add" X X),(.two "mul" (.two "sub" X Y) X),(.pick X Y X),(.two "less" Y X),(.two "add" (.two "mul" X X) (.two "sub" X Y)),(.two "sub" (.two "add" X (.num 1)) X),(.two "add" Z Z),(.two "add" (.two "mul" Z Z) (.two "sub" Z (.arg 0))),(.two "less" (.two "add" Z Z) (.two "sub" M M)),(.pick Z Z (.num 5))]
theorem dp2 {a:Tr} (h1:aE a≤n) (h2:aE b≤n):aE (.two o a b)≤n+1:=Nat.succ_le_succ (Nat.max_le.mpr ⟨h1,h2⟩)
theorem dp3 {a c:Tr} (h1:aE a≤n) (h2:aE b≤n) (h3:aE c≤n):aE (.pick a b c)≤n+1:=Nat.succ_le_succ (Nat.max_le.mpr ⟨h1,Nat.max_le.mpr ⟨h2,h3⟩⟩)
variable {X Y Z M:Tr}
theorem DL (x:aE X≤4) (y:aE Y≤4) (z:aE Z≤4) (m:aE M≤4):∀ W ∈ FM X Y Z M,aE W≤6:=by
 have k:∀ {W:Tr},aE W≤5->aE W≤6:=λh=>Nat.le_succ_of_le h
 have o:∀ n:Int,aE (.num n)≤4:=λ_=>by simp [aE]
 have r:∀ n:Int,aE (.arg n)≤4:=λ_=>by simp [aE]
 have j:∀ {W:Tr},aE W≤4->aE W≤5:=λh=>Nat.le_succ_of_le h
 intro W hW
 simp only [FM,List.mem_cons,List.not_mem_nil,or_false] at hW
 rcases hW with rfl | rfl | rfl | rfl | rfl | rfl | rfl | rfl | rfl | rfl
 ·exact k (dp2 x x)
 ·exact dp2 (dp2 x y) (j x)
 ·exact k (dp3 x y x)
 ·exact k (dp2 y x)
 ·exact dp2 (dp2 x x) (dp2 x y)
 ·exact dp2 (dp2 x (o 1)) (j x)
 ·exact k (dp2 z z)
 ·exact dp2 (dp2 z z) (dp2 z (r 0))
 ·exact dp2 (dp2 z z) (dp2 m m)
 ·exact k (dp3 z z (o 5))
theorem DN (sm:aC X+aC Y≤11) (z3:aC Z≤7) (m3:aC M≤7):∀ W ∈ FM X Y Z M,aC W≤40:=by
 have ny:1≤aC Y:=by cases Y <;> simp [aC]
 intro W hW
 simp only [FM,List.mem_cons,List.not_mem_nil,or_false] at hW
 rcases hW with rfl | rfl | rfl | rfl | rfl | rfl | rfl | rfl | rfl | rfl <;> simp only [aC] <;> omega
theorem DM (x1:okT X) (x2:aE X≤4) (y1:okT Y) (y2:aE Y≤4) (sm:aC X+aC Y≤11) (z1:okT Z) (z2:aE Z≤3) (z3:aC Z≤7) (m1:okT M) (m2:aE M≤3) (m3:aC M≤7):∀ W ∈ FM X Y Z M,okT W/\aE W≤8/\aC W≤40:=by
 intro W hW
 refine ⟨?_,Nat.le_trans (DL x2 y2 (Nat.le_succ_of_le z2) (Nat.le_succ_of_le m2) W hW) (by decide),DN sm z3 m3 W hW⟩
 simp only [FM,List.mem_cons,List.not_mem_nil,or_false] at hW
 rcases hW with rfl | rfl | rfl | rfl | rfl | rfl | rfl | rfl | rfl | rfl <;> simp [okT,x1,y1,z1,m1]
noncomputable def Am (K:PySem.W.Frag):Sp:=λvs H Q _=>∃ (a t:Addr) (ns:List Int) (p q c:Int),vs=[.ref a,.ref t]/\Scr K H a ns/\H t=some (.lst [.int p,.int q,.int c])/\0≤p/\0≤c/\c≤3 /\
 ∀ (v:V) (H':Hp) (X:Tr) (p' q' c':Int),But t H H'->H' t=some (.lst [.int p',.int q',.int c'])->0≤p'->0≤c'->c'≤c->okT X->aE X≤8->aC X≤40->Dat K H' (toD X) v->Q v H'
theorem mF (T:Txt P w K mg) (F0:FnOk P w K mg base CX0 k T.F4 T.F8 ["_law_script","_law_town","_law_some"] (oB K)) (Hk:FnOk P w K mg base CX0 k T.F6 T.F9 ["_law_script","_law_town","_law_room"] (lV K 4)) (Ks:FnOk P w K mg base CX0 k T.Hu T.Hz ["_law_script","_law_town"] (wI K)):FnOk P w K mg base CX0 (k+1) T.Gx T.GC ["_law_script","_law_town"] (Am K):=by
 refine T.HD.ok sc__law_doubled (λvs H Q E h=>?_) (λcdv A outer s H vs Q E hr h=>?_)
 ·obtain ⟨a,t,ns,p,q,c,rfl,_⟩:=h;rfl
 have nd:=sc__law_doubled.nd
 obtain ⟨a,t,ns,p,q,c,rfl,hS,hT,hp,hc,hc2,post⟩:=h
 refine ⟨_,(aj (uZ (i:=2) (j:=3) rfl nd rfl rfl (by decide) rfl rfl (ag (ay Hk hr rfl T.IB T.GH.kp (ib T) .nil aO (ag (pv 0) (ag (pv 1) (ag ak af)))) (ag (ay Hk hr rfl T.IB T.GH.kp (ib T) .nil aO (ag (pv 0) (ag (pv 1) (ag ak af)))) af)) (by kernel_rfl))
 (aj (bj (i:=4) nd rfl (Or.inl rfl) (bA (ag (aM (ag aH (ag (pv 2) (ag (pv 2) af)))) (ag (aM (ag aH (ag (aM (ag aH (ag (pv 2) (ag (pv 3) af)))) (ag (pv 2) af)))) (ag (aM (ag aH (ag (pv 2) (ag (pv 3) (ag (pv 2) af))))) af)))))
 (aj (bE (dq PySem.F.plainAttrs_list PySem.F.slot_list_extend PySem.F.type_list_extend eH (pv 4) (ag (bA (ag (aM (ag aH (ag (pv 3) (ag (pv 2) af)))) af)) af)))
 (aj (bE (dq PySem.F.plainAttrs_list PySem.F.slot_list_extend PySem.F.type_list_extend eH (pv 4) (ag (bA (ag (aM (ag aH (ag (aM (ag aH (ag (pv 2) (ag (pv 2) af)))) (ag (aM (ag aH (ag (pv 2) (ag (pv 3) af)))) af)))) (ag (aM (ag aH (ag (aM (ag aH (ag (pv 2) (ag (aM (ag aH (ag ak af))) af)))) (ag (pv 2) af)))) af))) af)))
 (aj (uZ (i:=5) (j:=6) rfl nd rfl rfl (by decide) rfl rfl (ag (ay Ks hr rfl T.JQ T.HE.kp (kD T) .nil aO (ag (pv 0) (ag (pv 1) af))) (ag (ay Ks hr rfl T.JQ T.HE.kp (kD T) .nil aO (ag (pv 0) (ag (pv 1) af))) af)) (by kernel_rfl))
 (aj (bE (dq PySem.F.plainAttrs_list PySem.F.slot_list_extend PySem.F.type_list_extend eH (pv 4) (ag (bA (ag (aM (ag aH (ag (pv 5) (ag (pv 5) af)))) (ag (aM (ag aH (ag (aM (ag aH (ag (pv 5) (ag (pv 5) af)))) (ag (aM (ag aH (ag (pv 5) (ag (aM (ag aH (ag ak af))) af)))) af)))) af))) af)))
 (aj (bE (dq PySem.F.plainAttrs_list PySem.F.slot_list_extend PySem.F.type_list_extend eH (pv 4) (ag (bA (ag (aM (ag aH (ag (aM (ag aH (ag (pv 5) (ag (pv 5) af)))) (ag (aM (ag aH (ag (pv 6) (ag (pv 6) af)))) af)))) (ag (aM (ag aH (ag (pv 5) (ag (pv 5) (ag (aM (ag aH (ag ak af))) af))))) af))) af)))
 (au (aI (ay F0 hr rfl T.Hs T.Ga.kp (gi T) .nil aO (ag (pv 0) (ag (pv 1) (ag (pv 4) af))))))))))))),?_⟩
 refine cJ (cQ (eF ?_))
 refine ⟨_,rfl,_,rfl,a,t,ns,4,p,q,c,rfl,hS,hT,hp,hc,by omega,by decide,by decide,λva G2 X p2 q2 c2 b2 t2 g2 gc2 gd2 okX dpX szX dX=>cQ (eF ?_)⟩
 refine ⟨_,rfl,_,rfl,a,t,ns,3,p2,q2,c2,rfl,hS.but b2 hT,t2,g2,gc2,by omega,by decide,by decide,λvb G3 Y p3 q3 c3 b3 t3 g3 gc3 gd3 okY dpY szY dY=>⟨va,vb,rfl,?_⟩⟩
 dsimp only
 have hX:=Dat.mono (b3.grow t2 t3) _ dX
 have hY:=dY
 have bt3:=b2.trans b3
 refine eI (K:=K) (es:=([(.two "add" X X),(.two "mul" (.two "sub" X Y) X),(.pick X Y X)]:List Tr).map toD) (dW (ab (aP (ab aB (ab (ae (k:=2) hX) (ab (ae (k:=2) hX) av)))) (ab (aP (ab aB (ab (aP (ab aB (ab (ae (k:=2) hX) (ab (ae (k:=3) hY) av)))) (ab (ae (k:=2) hX) av)))) (ab (aP (ab aB (ab (ae (k:=2) hX) (ab (ae (k:=3) hY) (ab (ae (k:=2) hX) av))))) av)))) λlf y1 G4 hlf s4 hf d1=>?_
 have nf:lf≠t:=λz=>by rw [z,t3] at hlf;cases hlf
 have l1:=d1.length
 have l1:3=y1.length:=l1
 have bt4:=bt3.trans s4.but
 have t4:=s4 _ _ t3
 have hX:=s4.dat hX
 have hY:=s4.dat hY
 refine mV (K:=K) (es:=([(.two "less" Y X)]:List Tr).map toD) (ab (aP (ab aB (ab (ae (k:=3) hY) (ab (ae (k:=2) hX) av)))) av) hf (by omega) λy2 G5 b5 hf5 d2=>?_
 have g5:cW K G4 G5:=b5.grow hf hf5
 have l2:=d2.length
 have l2:1=y2.length:=l2
 have hX:=Dat.mono g5 _ hX
 have hY:=Dat.mono g5 _ hY
 refine mV (K:=K) (es:=([(.two "add" (.two "mul" X X) (.two "sub" X Y)),(.two "sub" (.two "add" X (.num 1)) X)]:List Tr).map toD) (ab (aP (ab aB (ab (aP (ab aB (ab (ae (k:=2) hX) (ab (ae (k:=2) hX) av)))) (ab (aP (ab aB (ab (ae (k:=2) hX) (ab (ae (k:=3) hY) av)))) av)))) (ab (aP (ab aB (ab (aP (ab aB (ab (ae (k:=2) hX) (ab (aP (ab aB (ab ao av))) av)))) (ab (ae (k:=2) hX) av)))) av)) hf5 (by rw [List.length_append];omega) λy3 G6 b6 hf6 d3=>?_
 have g6:cW K G5 G6:=b6.grow hf5 hf6
 have l3:=d3.length
 have l3:2=y3.length:=l3
 have t6:=b6 _ _ (Ne.symm nf) (b5 _ _ (Ne.symm nf) t4)
 have d12:=Dats.append (Dats.mono g6 _ (Dats.append (Dats.mono g5 _ d1) d2)) d3
 have bt6:But t H G6:=λx o hx hxo=>by
  have z:=bt3 x o hx hxo
  have nx:x≠lf:=az z hlf
  exact b6 x o nx (b5 x o nx (s4 _ _ z))
 refine cJ (cQ (eF ?_))
 refine ⟨_,rfl,_,rfl,a,t,ns,p3,q3,c3,rfl,hS.but bt6 hT,t6,g3,gc3,by omega,λvz G7 Z p7 q7 c7 b7 t7 g7 gc7 gd7 okZ dpZ szZ dZ=>cQ (eF ?_)⟩
 have bt7:=bt6.trans b7
 refine ⟨_,rfl,_,rfl,a,t,ns,p7,q7,c7,rfl,hS.but bt7 hT,t7,g7,gc7,by omega,λvm G8 M p8 q8 c8 b8 t8 g8 gc8 gd8 okM dpM szM dM=>⟨vz,vm,rfl,?_⟩⟩
 dsimp only
 have bt8:=bt7.trans b8
 have hf8:=b8 _ _ nf (b7 _ _ nf hf6)
 have d12:=Dats.mono (b8.grow t7 t8) _ (Dats.mono (b7.grow t6 t7) _ d12)
 have hZ:=Dat.mono (b8.grow t7 t8) _ dZ
 have hM:=dM
 refine mV (K:=K) (es:=([(.two "add" Z Z),(.two "add" (.two "mul" Z Z) (.two "sub" Z (.arg 0)))]:List Tr).map toD) (ab (aP (ab aB (ab (ae (k:=5) hZ) (ab (ae (k:=5) hZ) av)))) (ab (aP (ab aB (ab (aP (ab aB (ab (ae (k:=5) hZ) (ab (ae (k:=5) hZ) av)))) (ab (aP (ab aB (ab (ae (k:=5) hZ) (ab (aP (ab aB (ab ao av))) av)))) av)))) av)) hf8 (by rw [List.length_append,List.length_append];omega) λy4 G9 b9 hf9 d4=>?_
 have g9:cW K G8 G9:=b9.grow hf8 hf9
 have l4:=d4.length
 have l4:2=y4.length:=l4
 have hZ:=Dat.mono g9 _ hZ
 have hM:=Dat.mono g9 _ hM
 refine mV (K:=K) (es:=([(.two "less" (.two "add" Z Z) (.two "sub" M M)),(.pick Z Z (.num 5))]:List Tr).map toD) (ab (aP (ab aB (ab (aP (ab aB (ab (ae (k:=5) hZ) (ab (ae (k:=5) hZ) av)))) (ab (aP (ab aB (ab (ae (k:=6) hM) (ab (ae (k:=6) hM) av)))) av)))) (ab (aP (ab aB (ab (ae (k:=5) hZ) (ab (ae (k:=5) hZ) (ab (aP (ab aB (ab ao av))) av))))) av)) hf9 (by rw [List.length_append,List.length_append,List.length_append];omega) λy5 G10 b10 hf10 d5=>?_
 have g10:cW K G9 G10:=b10.grow hf9 hf10
 have l5:=d5.length
 have l5:2=y5.length:=l5
 have t10:=b10 _ _ (Ne.symm nf) (b9 _ _ (Ne.symm nf) t8)
 have dF:Dats K G10 ((FM X Y Z M).map toD) (y1++y2++y3++y4++y5):=Dats.append (Dats.mono g10 _ (Dats.append (Dats.mono g9 _ d12) d4)) d5
 have bt10:But t H G10:=λx o hx hxo=>by
  have z:=bt3 x o hx hxo
  have nx:x≠lf:=az z hlf
  exact b10 x o nx (b9 x o nx (bt8 x o hx hxo))
 refine gq (eF ?_)
 refine ⟨_,rfl,_,rfl,_,rfl,a,t,lf,ns,_,p8,q8,[.int c8],rfl,hS.but bt10 hT,SqL.of hf10,nf,by rw [← dF.length];simp,by rw [← dF.length];simp,t10,g8,λi x G11 p11 q11 b11 t11 g11 hx=>?_⟩
 obtain ⟨d,ed,hd⟩:=dF.getV hx
 rw [List.getElem?_map] at ed
 cases hw:(FM X Y Z M)[i]? with
 | none=>rw [hw] at ed;cases ed
 | some W =>
  rw [hw] at ed
  cases ed
  obtain ⟨w1,w2,w3⟩:=DM okX (by omega) okY (by omega) (by omega) okZ dpZ szZ okM dpM szM W (List.mem_of_getElem? hw)
  exact post x G11 W p11 q11 c8 (bt10.trans b11) t11 g11 gc8 (by omega) w1 w2 w3 (Dat.mono (b11.grow t10 t11) _ hd)
noncomputable def dP (c:List Tr) (t:Tr):Bool:=(c.map toD).any λe=>eqD e (toD t)
variable {c:List Tr}
theorem mem_iff:dP c t=true↔t ∈ c:=by
 unfold dP
 rw [List.any_map,List.any_eq_true]
 exact ⟨λzq=>by obtain ⟨x,hx,e⟩:=zq;rw [← jV x t e];exact hx,λh=>⟨t,h,eV _ (bN t)⟩⟩
theorem wO (h:dP c t=true):∃ k,wcT c t=.call k:=by
 rw [AF]
 unfold atC
 cases e:oP c t with
 | some i=>exact ⟨_,rfl⟩
 | none=>rw [show dP c t=false from sV e] at h;cases h
theorem rT (h:dP c t=false):wcT c t=wwT c t:=by
 rw [AF]
 unfold atC
 cases e:oP c t with
 | some i=>rw [show dP c t=true from sW e] at h;cases h
 | none=>rfl
noncomputable def hid (c:List Tr):Pa->Tr->Bool->Bool
 | .hole _,_,_=>false
 | .two _ a b,.two o x y,top=>(dP c (.two o x y) && !top) || (hid c a x false || hid c b y false)
 | _,t,top=>dP c t && !top
noncomputable def gF (c:List Tr) (f:Fnd):Fnd:=(f.1.map (wcT c),f.2)
theorem CW (c:List Tr) (f g:Fnd):gF c (qA f g)=qA (gF c f) (gF c g):=by
 unfold gF qA
 simp
theorem yW (p:Pa) (k:Int) (h:cz p=true):bC p (.call k)=none:=by
 cases p with
 | hole i=>cases h
 | _=>rfl
theorem A7 {p:Pa} (h:dP c t=false):hid c p t false=hid c p t true:=by
 cases p with
 | hole i=>rfl
 | two o a b =>
  cases t with
  | two o' x y=>simp only [hid,h,Bool.false_and]
  | _=>simp only [hid,h,Bool.false_and]
 | _=>simp only [hid,h,Bool.false_and]
theorem CV (c:List Tr):∀ (p:Pa) (t:Tr),okT t->(bC p (wcT c t)=if hid c p t false=true then none else (bC p t).map (gF c))/\(cz p=true->bC p (wwT c t)=if hid c p t true=true then none else (bC p t).map (gF c)):=by
 have key:∀ (p:Pa) (t:Tr),okT t->(cz p=true->bC p (wwT c t)=if hid c p t true=true then none else (bC p t).map (gF c))->bC p (wcT c t)=if hid c p t false=true then none else (bC p t).map (gF c):=λp t ht h=>by
  by_cases hp:cz p=true
  ·cases hm:dP c t with
   | true =>
    obtain ⟨k,ek⟩:=wO hm
    have eh:hid c p t false=true:=by
     cases p with
     | hole i=>cases hp
     | two o a b=>cases t <;> simp only [hid,hm,Bool.not_false,Bool.and_self,Bool.true_or]
     | _=>simp only [hid,hm,Bool.not_false,Bool.and_self]
    rw [ek,yW p k hp,if_pos eh]
   | false=>rw [rT hm,A7 hm];exact h hp
  ·cases p with
   | hole i=>rfl
   | _=>exact absurd rfl hp
 intro p
 induction p with
 | hole i=>exact λt ht=>⟨key _ t ht λh=>(by cases h),λh=>(by cases h)⟩
 | gap i m =>
  intro t ht
  have z:bC (.gap i m) (wwT c t)=if hid c (.gap i m) t true=true then none else (bC (.gap i m) t).map (gF c):=by
   rw [show hid c (.gap i m) t true=false by simp [hid],if_neg Bool.false_ne_true]
   cases t with
   | num n =>
    show (if n≤m then some ([],[n],[]) else none:Option Fnd)=Option.map (gF c) (if n≤m then some ([],[n],[]) else none)
    split <;> rfl
   | _=>rfl
  exact ⟨key _ t ht λ_=>z,λ_=>z⟩
 | slot i =>
  intro t ht
  have z:bC (.slot i) (wwT c t)=if hid c (.slot i) t true=true then none else (bC (.slot i) t).map (gF c):=by
   rw [show hid c (.slot i) t true=false by simp [hid],if_neg Bool.false_ne_true]
   cases t <;> rfl
  exact ⟨key _ t ht λ_=>z,λ_=>z⟩
 | num m =>
  intro t ht
  have z:bC (.num m) (wwT c t)=if hid c (.num m) t true=true then none else (bC (.num m) t).map (gF c):=by
   rw [show hid c (.num m) t true=false by simp [hid],if_neg Bool.false_ne_true]
   cases t with
   | num n =>
    show (if n=m then some ([],[],[]) else none:Option Fnd)=Option.map (gF c) (if n=m then some ([],[],[]) else none)
    split <;> rfl
   | _=>rfl
  exact ⟨key _ t ht λ_=>z,λ_=>z⟩
 | two o a b iha ihb =>
  intro t ht
  have z:bC (.two o a b) (wwT c t)=if hid c (.two o a b) t true=true then none else (bC (.two o a b) t).map (gF c):=by
   cases t with
   | two o' x y =>
    have ea:=(iha x ht.2.1).1
    have eb:=(ihb y ht.2.2).1
    have eh:hid c (.two o a b) (.two o' x y) true=(hid c a x false || hid c b y false):=by
     show ((dP c (.two o' x y) && !true) || (hid c a x false || hid c b y false))=_
     rw [Bool.not_true,Bool.and_false,Bool.false_or]
    rw [eh]
    show (if o'=o then (match bC a (wcT c x),bC b (wcT c y) with | some f,some g=>some (qA f g) | _,_=>none) else none)=_
    rw [ea,eb]
    by_cases eo:o'=o
    ·have e2:bC (.two o a b) (.two o' x y)=(match bC a x,bC b y with | some f,some g=>some (qA f g) | _,_=>none):=by
      refine Eq.trans (show _=(if o'=o then _ else none) from rfl) ((if_pos eo).trans ?_)
      cases bC a x <;> cases bC b y <;> rfl
     rw [e2,if_pos eo]
     cases hid c a x false with
     | true=>rfl
     | false =>
      cases hid c b y false with
      | true =>
       rw [if_neg Bool.false_ne_true,if_pos rfl]
       cases bC a x <;> rfl
      | false =>
       rw [if_neg Bool.false_ne_true,if_neg Bool.false_ne_true,if_neg (by decide)]
       cases bC a x with
       | none=>rfl
       | some f =>
        cases bC b y with
        | none=>rfl
        | some g=>show some (qA (gF c f) (gF c g))=some (gF c (qA f g));rw [CW]
    ·have e2:bC (.two o a b) (.two o' x y)=none:=by
      show (if o'=o then _ else none)=_
      rw [if_neg eo]
     rw [e2,if_neg eo]
     split <;> rfl
   | call k=>exact ht.elim
   | num n=>rw [show hid c (.two o a b) (.num n) true=false by simp [hid],if_neg Bool.false_ne_true];rfl
   | arg n=>rw [show hid c (.two o a b) (.arg n) true=false by simp [hid],if_neg Bool.false_ne_true];rfl
   | pick x y u=>rw [show hid c (.two o a b) (.pick x y u) true=false by simp [hid],if_neg Bool.false_ne_true];rfl
  exact ⟨key _ t ht λ_=>z,λ_=>z⟩
noncomputable def wyC (c:List Tr) (w:Wy):Wy:=⟨w.nm,w.cs,w.ts.map (wcT c)⟩
noncomputable def mC (c:List Tr) (t:Tr) (p:Pc):Option Wy:=if hid c p.pt t true=true then none else fk t p
theorem vP (ht:okT t) (hp:cz p.pt=true):fk (wwT c t) p=(mC c t p).map (wyC c):=by
 unfold fk mC
 rw [(CV c p.pt t ht).2 hp]
 split
 ·rfl
 ·unfold fk
  cases bC p.pt t <;> rfl
theorem sM {c:List Tr} (ht:okT t):∀ {ps:List Pc},(∀ p ∈ ps,cz p.pt=true)->ps.filterMap (fk (wwT c t))=(ps.filterMap (mC c t)).map (wyC c)
 | [],_=>rfl
 | p::ps,h=>by
  have ih:=sM (c:=c) ht (ps:=ps) λq hq=>h q (List.mem_cons_of_mem _ hq)
  rw [List.filterMap_cons,List.filterMap_cons,vP ht (h p List.mem_cons_self)]
  cases mC c t p with
  | none=>exact ih
  | some w=>show wyC c w::_=wyC c w::_;rw [ih]
variable {c1 c2:List Tr}
theorem BS {b:Bst} {w:Wy} (h:∀ x ∈ w.ts,f (wcT c1 x)=f (wcT c2 x)):cV f b (wyC c1 w)=cV f b (wyC c2 w):=by
 unfold cV wyC
 have e:(w.ts.map (wcT c1)).map f=(w.ts.map (wcT c2)).map f:=by
  rw [List.map_map,List.map_map]
  exact List.map_congr_left h
 dsimp only
 rw [e]
 cases eQ ((w.ts.map (wcT c2)).map f) <;> rfl
theorem vR:∀ (ws:List Wy) (b:Bst),(∀ w ∈ ws,∀ x ∈ w.ts,f (wcT c1 x)=f (wcT c2 x))->(ws.map (wyC c1)).foldl (cV f) b=(ws.map (wyC c2)).foldl (cV f) b
 | [],_,_=>rfl
 | w::ws,b,h=>by
  rw [List.map_cons,List.map_cons,List.foldl_cons,List.foldl_cons,BS (h w List.mem_cons_self)]
  exact vR ws _ λw' hw=>h w' (List.mem_cons_of_mem _ hw)
theorem zo:∀ (p:Pa) (t:Tr) (top:Bool),(∀ x ∈ ax t,(x=t->top=false)->dP c1 x=dP c2 x)->hid c1 p t top=hid c2 p t top:=by
 intro p
 induction p with
 | hole i=>intros;rfl
 | two o a b iha ihb =>
  intro t top h
  have h0:(dP c1 t && !top)=(dP c2 t && !top):=by
   cases top with
   | true=>rw [Bool.not_true,Bool.and_false,Bool.and_false]
   | false=>rw [h t (by rw [dB];exact List.mem_cons_self) λ_=>rfl]
  cases t with
  | two o' x y =>
   have ka:hid c1 a x false=hid c2 a x false:=iha x false λz hz _=>h z (by simp [ax,hz]) λe=>by
    have:=(bZ x z hz).1
    rw [e] at this
    simp only [aC] at this
    omega
   have kb:hid c1 b y false=hid c2 b y false:=ihb y false λz hz _=>h z (by simp [ax,hz]) λe=>by
    have:=(bZ y z hz).1
    rw [e] at this
    simp only [aC] at this
    omega
   show ((dP c1 _ && !top) || (hid c1 a x false || hid c1 b y false))=((dP c2 _ && !top) || (hid c2 a x false || hid c2 b y false))
   rw [h0,ka,kb]
  | _=>exact h0
 | _ =>
  intro t top h
  have h0:(dP c1 t && !top)=(dP c2 t && !top):=by
   cases top with
   | true=>rw [Bool.not_true,Bool.and_false,Bool.and_false]
   | false=>rw [h t (by rw [dB];exact List.mem_cons_self) λ_=>rfl]
  exact h0
theorem sO {α β:Type} {f g:α->Option β}:∀ {l:List α},(∀ x ∈ l,f x=g x)->l.filterMap f=l.filterMap g
 | [],_=>rfl
 | x::l,h=>by
  rw [List.filterMap_cons,List.filterMap_cons,h x List.mem_cons_self,sO λy hy=>h y (List.mem_cons_of_mem _ hy)]
theorem fS:∀ (t x y:Tr),x ∈ ax t->y ∈ ax x->y ∈ ax t
 | .num n,x,y,h,k=>by
  have e:x=.num n:=by simpa [ax] using h
  subst e;exact k
 | .arg n,x,y,h,k=>by
  have e:x=.arg n:=by simpa [ax] using h
  subst e;exact k
 | .call n,x,y,h,k=>by
  have e:x=.call n:=by simpa [ax] using h
  subst e;exact k
 | .two o a b,x,y,h,k=>by
  have h':=h
  simp only [ax,List.mem_cons,List.mem_append] at h'
  rcases h' with rfl | h' | h'
  ·exact k
  ·simp only [ax,List.mem_cons,List.mem_append];exact .inr (.inl (fS a x y h' k))
  ·simp only [ax,List.mem_cons,List.mem_append];exact .inr (.inr (fS b x y h' k))
 | .pick a b c,x,y,h,k=>by
  have h':=h
  simp only [ax,List.mem_cons,List.mem_append] at h'
  rcases h' with rfl | (h' | h') | h'
  ·exact k
  ·simp only [ax,List.mem_cons,List.mem_append];exact .inr (.inl (.inl (fS a x y h' k)))
  ·simp only [ax,List.mem_cons,List.mem_append];exact .inr (.inl (.inr (fS b x y h' k)))
  ·simp only [ax,List.mem_cons,List.mem_append];exact .inr (.inr (fS c x y h' k))
theorem lh (nh:∀ p ∈ ps,cz p.pt=true) (k:Int):bx ps (.call k)=some (3,.tup []):=by
 rw [gj nh]
 unfold dN
 rw [if_pos (show iM (.call k)=true from rfl)]
theorem ki (hp:∀ p ∈ ps,cz p.pt=true) {a c:Tr}:bx ps (.pick a b c)=qg none ⟨"pick",[],[a,b,c]⟩ (eQ [bx ps a,bx ps b,bx ps c]):=by
 rw [gj hp]
 unfold dN
 rw [if_neg (show ¬ iM (.pick a b c)=true from Bool.false_ne_true)]
 unfold ft
 rw [if_pos (show nE (.pick a b c)=true from rfl),List.foldl_cons,List.foldl_nil]
 rfl
theorem An {b:Bst} {t1 t2:List Tr} {o:Option (List (Int × D))}:qg b ⟨nm,cs,t1⟩ o=qg b ⟨nm,cs,t2⟩ o:=by cases o <;> rfl
theorem uz (nh:∀ p ∈ ps,cz p.pt=true) (hm:dP c1 t=dP c2 t) (h:bx ps (wwT c1 t)=bx ps (wwT c2 t)):bx ps (wcT c1 t)=bx ps (wcT c2 t):=by
 cases e:dP c1 t with
 | true =>
  obtain ⟨k1,e1⟩:=wO e
  rw [e] at hm
  obtain ⟨k2,e2⟩:=wO hm.symm
  rw [e1,e2,lh nh,lh nh]
 | false =>
  rw [rT e,rT (by rw [← hm];exact e)]
  exact h
theorem AO (nh:∀ p ∈ ps,cz p.pt=true):∀ (n:Nat) (t:Tr),aE t≤n->okT t->(∀ x ∈ ax t,x≠t->dP c1 x=dP c2 x)->bx ps (wwT c1 t)=bx ps (wwT c2 t):=by
 intro n
 induction n with
 | zero=>intro t h;have:=cX t;omega
 | succ n ih =>
  intro t dp ok hm
  have sub:∀ x ∈ (bh t).flatMap ax,bx ps (wcT c1 x)=bx ps (wcT c2 x):=λx hx=>by
   have hs:=fV hx
   have hp:=iU hx
   refine uz nh (hm x hp λe=>by rw [e] at hs;omega) (ih x (by omega) (e9 t x ok hp) λy hy _=>?_)
   have sy:=bZ x y hy
   exact hm y (fS t x y hp hy) λe=>by rw [e] at sy;omega
  cases t with
  | num k=>rfl
  | arg k=>rfl
  | call k=>exact ok.elim
  | pick a b c =>
   show bx ps (.pick (wcT c1 a) (wcT c1 b) (wcT c1 c))=bx ps (.pick (wcT c2 a) (wcT c2 b) (wcT c2 c))
   have ma:a ∈ ax a:=by cases a <;> simp [ax]
   have mb:b ∈ ax b:=by cases b <;> simp [ax]
   have mc:c ∈ ax c:=by cases c <;> simp [ax]
   rw [ki nh,ki nh,sub a (by simp [bh,ma]),sub b (by simp [bh,mb]),sub c (by simp [bh,mc])]
   exact An
  | two o a b =>
   have e:∀ c:List Tr,bx ps (wwT c (.two o a b))=((ps.filterMap (mC c (.two o a b))).map (wyC c)).foldl (cV (bx ps)) none:=λc=>by
    rw [gj nh,← sM ok nh]
    unfold dN
    rw [if_neg (show ¬ iM (wwT c (.two o a b))=true by exact Bool.false_ne_true)]
    unfold ft
    rw [if_neg (show ¬ nE (wwT c (.two o a b))=true by exact Bool.false_ne_true)]
   have eh:ps.filterMap (mC c1 (.two o a b))=ps.filterMap (mC c2 (.two o a b)):=by
    refine sO λp hp=>?_
    unfold mC
    rw [zo p.pt (.two o a b) true λx hx hx2=>hm x hx λe=>nomatch hx2 e]
   rw [e c1,e c2,eh]
   refine vR _ _ λw hw x hx=>sub x ?_
   obtain ⟨p,hp,hf⟩:=List.mem_filterMap.mp hw
   unfold mC fk at hf
   split at hf
   ·cases hf
   ·cases ef:bC p.pt (.two o a b) with
    | none=>rw [ef] at hf;cases hf
    | some f =>
     rw [ef] at hf
     cases hf
     exact jz (nh p hp) ef x hx
theorem D4 (t:Tr):∃ kd y r,toD t=.tup (.str kd::y::r):=by
 cases t <;> exact ⟨_,_,_,rfl⟩
theorem Ce (h:ta σ H λx H1=>∃ c,x=.bl c/\if c=true then tb σ H1 Q else Q (.bl false) H1):Aq ta tb σ H Q:=h
noncomputable def oL (l0 l1 l2:Addr):HO:=.lst [.ref l0,.ref l1,.ref l2]
theorem CT (m:Int) (t:Tr) (ht:okX t):eqD (toD t) (toP (.num m))=(bC (.num m) t).isSome:=by
 cases t with
 | num n =>
  show eqD (.tup [.str "num",.int n]) (.tup [.str "num",.int m])=(if n=m then some _ else none:Option Fnd).isSome
  by_cases h:n=m
  ·rw [if_pos h];simp [eqD,eqDs,h]
  ·rw [if_neg h];simp [eqD,eqDs,h]
 | arg n=>exact rfl
 | call n=>exact rfl
 | two o a b =>
  have h:o="add"\/o="sub"\/o="mul"\/o="less":=ht.1
  show eqD (.tup [.str o,toD a,toD b]) (.tup [.str "num",.int m])=false
  unfold eqD eqDs eqD
  rcases h with rfl | rfl | rfl | rfl <;> rfl
 | pick a b c=>exact rfl
theorem tL (T:Txt P w K mg) (JI:FnOk P w K mg base CX0 k T.Hf T.Hh ["_law_pattern","_law_tree_here","_law_found"] (j6 K oL n)):FnOk P w K mg base CX0 (k+1) T.Hf T.Hh ["_law_pattern","_law_tree_here","_law_found"] (j6 K oL (n+1)):=by
 refine T.HS.ok sc__law_fit (λvs H Q E h=>?_) (λcdv A outer s H vs Q E hr h=>?_)
 ·obtain ⟨p,t,v0,v1,f,l0,l1,l2,a,b,c,rfl,_⟩:=h;rfl
 have nd:=sc__law_fit.nd
 obtain ⟨p,t,v0,v1,f,l0,l1,l2,a,b,c,rfl,okp,okt,dpt,hn,hn3,h0,h1,hf,f0,f1,f2,tri,la,lb,lc,post⟩:=h
 refine ⟨_,(aj (bq (aV cF (aN aS (pv 0) ak (λ_ _=>rfl)) aH (aY _)) (aj (bE (dq PySem.F.plainAttrs_list PySem.F.slot_list_append PySem.F.type_list_append bQ (aN bM (pv 2) ak (λ_ _=>rfl)) (ag (pv 1) af)))
 (au (aI cu))) aR)
 (aj (bq (aV cF (aN aS (pv 0) ak (λ_ _=>rfl)) aH (aY _)) (aj (bE (dq PySem.F.plainAttrs_list PySem.F.slot_list_append PySem.F.type_list_append bQ (aN bM (pv 2) ak (λ_ _=>rfl)) (ag (aN aS (pv 1) ak (λ_ _=>rfl)) af)))
 (au (aI (gz (cA cF (aN aS (pv 1) ak (λ_ _=>rfl)) aH (aY _)) (fT (cA jr (aN aS (pv 1) ak (λ_ _=>rfl)) (aN aS (pv 0) ak (λ_ _=>rfl)) (aY _))))))) aR)
 (aj (bq (aV cF (aN aS (pv 0) ak (λ_ _=>rfl)) aH (aY _)) (aj (bE (dq PySem.F.plainAttrs_list PySem.F.slot_list_append PySem.F.type_list_append bQ (aN bM (pv 2) ak (λ_ _=>rfl)) (ag (aN aS (pv 1) ak (λ_ _=>rfl)) af)))
 (au (aI (cA cF (aN aS (pv 1) ak (λ_ _=>rfl)) aH (aY _))))) aR)
 (aj (bq (aV cF (aN aS (pv 0) ak (λ_ _=>rfl)) aH (aY _)) (au (aI (cA (Di hr) (pv 1) (pv 0) (aY _)))) aR)
 (au (aI (gz (cA cF (aN aS (pv 1) ak (λ_ _=>rfl)) (aN aS (pv 0) ak (λ_ _=>rfl)) (aY _)) (gz (ay JI hr rfl T.JP T.HS.kp (j8 T) .nil aO (ag (aN aS (pv 0) ak (λ_ _=>rfl)) (ag (aN aS (pv 1) ak (λ_ _=>rfl)) (ag (pv 2) af)))) (fT (ay JI hr rfl T.JP T.HS.kp (j8 T) .nil aO (ag (aN aS (pv 0) ak (λ_ _=>rfl)) (ag (aN aS (pv 1) ak (λ_ _=>rfl)) (ag (pv 2) af))))))))))))),?_⟩
 obtain ⟨kd,y1,r,ek⟩:=D4 t
 obtain ⟨kd',r',ek',hnum,harg⟩:=zj t okt
 have ekk:kd'=kd:=by
  rw [ek] at ek'
  injection ek' with z
  injection z with z _
  injection z with z
  exact z.symm
 subst ekk
 have h1':Dat K H (.tup (.str kd'::y1::r)) v1:=by rw [← ek];exact h1
 have hf':∀ {G:Hp},But3 l0 l1 l2 H G->G f=some (oL l0 l1 l2):=λbb=>bb _ _ f0 f1 f2 hf
 have p1:=zX (n+1)
 have p2:2 ^ (n+1)=2 * 2 ^ n:=by rw [Nat.pow_succ,Nat.mul_comm]
 cases p with
 | hole i =>
  have h0:Dat K H (.tup [.str "hole",.int i]) v0:=h0
  refine aK (K:=K) (b:=true) (RT.as (aD (bo (aQ (k:=0) (ae h0) ao rfl) aB)) (decide_eq_true rfl)) (λ_ H1 s1=>?_) (λc=>nomatch c)
  refine cJ ⟨_,rfl,f,_,0,_,rfl,rfl,SqL.of (show H1 f=some (.lst [.ref l0,.ref l1,.ref l2]) from s1 _ _ hf),at0,.inl ⟨rfl,_,SqL.of (s1 _ _ tri.h0)⟩,_,rfl,?_⟩
  have tri1:=tri.same s1
  refine ⟨l0,a,v1,rfl,rfl,tri1.h0,cx (by omega),?_⟩
  obtain ⟨t5,b5⟩:=tri1.p0 (v:=v1)
  refine post _ [v1] [] [] (s1.but3.trans b5) t5 (by simpa using p1) (by simp) (by simp) λfd e=>?_
  cases e
  exact ⟨Dats.cons (Dat.mono (b5.grow tri1 t5) _ (s1.dat h1)) Dats.nil,Dats.nil,Dats.nil⟩
 | gap i m =>
  have h0:Dat K H (.tup [.str "gap",.int i,.int m]) v0:=h0
  refine aK (K:=K) (b:=false) (RT.as (aD (bo (aQ (k:=0) (ae h0) ao rfl) aB)) (decide_eq_false (by decide +kernel))) (λc=>nomatch c) (λ_ H1 s1=>?_)
  have h0:=s1.dat h0
  refine aK (K:=K) (b:=true) (RT.as (aD (bo (aQ (k:=0) (ae h0) ao rfl) aB)) (decide_eq_true rfl)) (λ_ H2 s2=>?_) (λc=>nomatch c)
  have h0:=s2.dat h0
  have s12:=s1.trans s2
  refine cJ ⟨_,rfl,f,_,1,_,rfl,rfl,SqL.of (show H2 f=some (.lst [.ref l0,.ref l1,.ref l2]) from s12 _ _ hf),at1,.inl ⟨rfl,_,SqL.of (s12 _ _ tri.h1)⟩,?_⟩
  refine cQ (RE.use (K:=K) (d:=y1) (aQ (k:=1) (ae (s12.dat h1')) ao rfl) λy H4 s4 q4=>?_)
  have s14:=s12.trans s4
  have tri4:=tri.same s14
  refine ⟨l1,b,y,rfl,rfl,tri4.h1,cx (by omega),?_⟩
  obtain ⟨t5,b5⟩:=tri4.p1 (v:=y)
  have g5:=b5.grow (K:=K) tri4 t5
  dsimp only
  by_cases hnn:∃ nn,t=.num nn
  ·obtain ⟨nn,rfl⟩:=hnn
   have h1:Dat K H (.tup [.str "num",.int nn]) v1:=h1
   have ey:y1=.int nn:=by
    have z:toD (.num nn)=.tup [.str "num",.int nn]:=rfl
    rw [z] at ek
    injection ek with ek
    injection ek with _ ek
    injection ek with ek _
    exact ek.symm
   subst ey
   have h5:=Dat.mono g5 _ (s14.dat h1)
   refine aW (K:=K) (d:=.bl (decide (nn≤m))) (RE.as (cR (b:=true) (RE.as (bo (aQ (k:=0) (ae h5) ao rfl) aB) (congrArg D.bl (decide_eq_true rfl))) λ_=>eR (p:=λi j=>decide (i≤j)) (aQ (k:=1) (ae h5) ao rfl) (aQ (k:=2) (ae (Dat.mono g5 _ (s4.dat h0))) ao rfl)) rfl) λv H' s qq=>?_
   rw [qq.blE]
   have pz:=post _ [] [y] [] ((s14.but3.trans b5).trans s.but3) (t5.same s) (by simp) (by simpa using p1) (by simp) λfd z=>by
    have z':(if nn≤m then some ([],[nn],[]) else none:Option Fnd)=some fd:=z
    by_cases hm:nn≤m
    ·rw [if_pos hm] at z'
     cases z'
     exact ⟨Dats.nil,Dats.cons (s.dat (Dat.mono g5 _ q4)) Dats.nil,Dats.nil⟩
    ·rw [if_neg hm] at z'
     cases z'
   have e:(bC (.gap i m) (.num nn)).isSome=decide (nn≤m):=by
    show (if nn≤m then some _ else none:Option Fnd).isSome=_
    by_cases hm:nn≤m
    ·rw [if_pos hm,decide_eq_true hm];rfl
    ·rw [if_neg hm,decide_eq_false hm];rfl
   rw [e] at pz
   exact pz
  ·have e:=sR (i:=i) (m:=m) λn z=>hnn ⟨n,z⟩
   refine aW (K:=K) (d:=.bl false) (RE.as (cR (b:=false) (c:=true) (RE.as (bo (aQ (k:=0) (ae (Dat.mono g5 _ (s14.dat h1'))) ao rfl) aB) (congrArg D.bl (decide_eq_false (λz=>hnn (hnum.mp z))))) λc=>nomatch c) rfl) λv H' s qq=>?_
   rw [qq.blE]
   have pz:=post _ [] [y] [] ((s14.but3.trans b5).trans s.but3) (t5.same s) (by simp) (by simpa using p1) (by simp) λfd z=>by rw [e] at z;cases z
   rw [e] at pz
   exact pz
 | slot i =>
  have h0:Dat K H (.tup [.str "slot",.int i]) v0:=h0
  refine aK (K:=K) (b:=false) (RT.as (aD (bo (aQ (k:=0) (ae h0) ao rfl) aB)) (decide_eq_false (by decide +kernel))) (λc=>nomatch c) (λ_ H1 s1=>?_)
  have h0:=s1.dat h0
  refine aK (K:=K) (b:=false) (RT.as (aD (bo (aQ (k:=0) (ae h0) ao rfl) aB)) (decide_eq_false (by decide +kernel))) (λc=>nomatch c) (λ_ H2 s2=>?_)
  have h0:=s2.dat h0
  refine aK (K:=K) (b:=true) (RT.as (aD (bo (aQ (k:=0) (ae h0) ao rfl) aB)) (decide_eq_true rfl)) (λ_ H3 s3=>?_) (λc=>nomatch c)
  have s13:=s1.trans (s2.trans s3)
  refine cJ ⟨_,rfl,f,_,2,_,rfl,rfl,SqL.of (show H3 f=some (.lst [.ref l0,.ref l1,.ref l2]) from s13 _ _ hf),at2,.inl ⟨rfl,_,SqL.of (s13 _ _ tri.h2)⟩,?_⟩
  refine cQ (RE.use (K:=K) (d:=y1) (aQ (k:=1) (ae (s13.dat h1')) ao rfl) λy H4 s4 q4=>?_)
  have s14:=s13.trans s4
  have tri4:=tri.same s14
  refine ⟨l2,c,y,rfl,rfl,tri4.h2,cx (by omega),?_⟩
  obtain ⟨t5,b5⟩:=tri4.p2 (v:=y)
  have g5:=b5.grow (K:=K) tri4 t5
  dsimp only
  refine aW (K:=K) (d:=.bl (decide (kd'="arg"))) (bo (aQ (k:=0) (ae (Dat.mono g5 _ (s14.dat h1'))) ao rfl) aB) λv H' s qq=>?_
  rw [qq.blE]
  have pz:=post _ [] [] [y] ((s14.but3.trans b5).trans s.but3) (t5.same s) (by simp) (by simp) (by simpa using p1) λfd z=>by
   cases t with
   | arg nn =>
    cases z
    have ey:y1=.int nn:=by
     have z:toD (.arg nn)=.tup [.str "arg",.int nn]:=rfl
     rw [z] at ek
     injection ek with ek
     injection ek with _ ek
     injection ek with ek _
     exact ek.symm
    subst ey
    exact ⟨Dats.nil,Dats.nil,Dats.cons (s.dat (Dat.mono g5 _ q4)) Dats.nil⟩
   | _=>cases z
  by_cases ha:∃ n,t=.arg n
  ·rw [decide_eq_true (harg.mpr ha)]
   obtain ⟨nn,rfl⟩:=ha
   exact pz
  ·rw [decide_eq_false (λz=>ha (harg.mp z))]
   rw [qc λn z=>ha ⟨n,z⟩] at pz
   exact pz
 | num m =>
  have h0:Dat K H (.tup [.str "num",.int m]) v0:=h0
  refine aK (K:=K) (b:=false) (RT.as (aD (bo (aQ (k:=0) (ae h0) ao rfl) aB)) (decide_eq_false (by decide +kernel))) (λc=>nomatch c) (λ_ H1 s1=>?_)
  have h0:=s1.dat h0
  refine aK (K:=K) (b:=false) (RT.as (aD (bo (aQ (k:=0) (ae h0) ao rfl) aB)) (decide_eq_false (by decide +kernel))) (λc=>nomatch c) (λ_ H2 s2=>?_)
  have h0:=s2.dat h0
  refine aK (K:=K) (b:=false) (RT.as (aD (bo (aQ (k:=0) (ae h0) ao rfl) aB)) (decide_eq_false (by decide +kernel))) (λc=>nomatch c) (λ_ H3 s3=>?_)
  have h0:=s3.dat h0
  refine aK (K:=K) (b:=true) (RT.as (aD (bo (aQ (k:=0) (ae h0) ao rfl) aB)) (decide_eq_true rfl)) (λ_ H4 s4=>?_) (λc=>nomatch c)
  have s14:=s1.trans (s2.trans (s3.trans s4))
  refine ⟨_,rfl,_,rfl,toD t,toP (.num m),s14.dat h1,s4.dat h0,bN t,by unfold toP;simp [noL,noLs],by rw [gv];omega,?_⟩
  show Q (.bl (eqD (toD t) (toP (.num m)))) _
  rw [CT m t okt]
  exact post _ [] [] [] s14.but3 (tri.same s14).nil (by simp) (by simp) (by simp) λfd z=>by
   cases t with
   | num nn =>
    have z':(if nn=m then some ([],[],[]) else none:Option Fnd)=some fd:=z
    by_cases hm:nn=m
    ·rw [if_pos hm] at z'
     cases z'
     exact ⟨Dats.nil,Dats.nil,Dats.nil⟩
    ·rw [if_neg hm] at z'
     cases z'
   | _=>cases z
 | two o pa pb =>
  have h0:Dat K H (.tup [.str o,toP pa,toP pb]) v0:=h0
  have ho:okB o:=okp.1
  refine aK (K:=K) (b:=false) (RT.as (aD (bo (aQ (k:=0) (ae h0) ao rfl) aB)) (decide_eq_false (by intro z;subst z;exact absurd ho (by decide +kernel)))) (λc=>nomatch c) (λ_ H1 s1=>?_)
  have h0:=s1.dat h0
  refine aK (K:=K) (b:=false) (RT.as (aD (bo (aQ (k:=0) (ae h0) ao rfl) aB)) (decide_eq_false (by intro z;subst z;exact absurd ho (by decide +kernel)))) (λc=>nomatch c) (λ_ H2 s2=>?_)
  have h0:=s2.dat h0
  refine aK (K:=K) (b:=false) (RT.as (aD (bo (aQ (k:=0) (ae h0) ao rfl) aB)) (decide_eq_false (by intro z;subst z;exact absurd ho (by decide +kernel)))) (λc=>nomatch c) (λ_ H3 s3=>?_)
  have h0:=s3.dat h0
  refine aK (K:=K) (b:=false) (RT.as (aD (bo (aQ (k:=0) (ae h0) ao rfl) aB)) (decide_eq_false (by intro z;subst z;exact absurd ho (by decide +kernel)))) (λc=>nomatch c) (λ_ H4 s4=>?_)
  have h0:=s4.dat h0
  have s14:=s1.trans (s2.trans (s3.trans s4))
  refine gq (Ce (RE.use (K:=K) (d:=.bl (decide (kd'=o))) (bo (aQ (k:=0) (ae (s14.dat h1')) ao rfl) (aQ (k:=0) (ae h0) ao rfl)) λvb G sG qb=>⟨_,qb.blE,?_⟩))
  have s1G:=s14.trans sG
  by_cases hk:kd'=o
  ·rw [decide_eq_true hk]
   refine sY ?_
   obtain ⟨x,y,rfl⟩:=sU ho ek hk
   have h1:Dat K H (.tup [.str o,toD x,toD y]) v1:=h1
   have dpa:cn pa≤n:=by simp only [cn] at hn;omega
   have dpb:cn pb≤n:=by simp only [cn] at hn;omega
   have dpx:aE x≤8:=by simp only [aE] at dpt;omega
   have dpy:aE y≤8:=by simp only [aE] at dpt;omega
   refine Ce (eF (cQ (RE.use (K:=K) (d:=toP pa) (aQ (k:=1) (ae (sG.dat h0)) ao rfl) λw0 H5 s5 q5=>?_)))
   refine cQ (RE.use (K:=K) (d:=toD x) (aQ (k:=1) (ae ((s1G.trans s5).dat h1)) ao rfl) λw1 H6 s6 q6=>?_)
   have s16:=s1G.trans (s5.trans s6)
   have tri6:=tri.same s16
   refine ⟨_,rfl,pa,x,w0,w1,f,l0,l1,l2,a,b,c,rfl,okp.2.1,okt.2.1,dpx,dpa,by omega,s6.dat q5,q6,s16 _ _ hf,f0,f1,f2,tri6,by omega,by omega,by omega,λH7 a1 b1' c1 bb7 tri7 ka kb kc d7=>?_⟩
   refine ⟨_,rfl,?_⟩
   have g67:cW K H6 H7:=bb7.grow tri6 tri7
   have bb17:But3 l0 l1 l2 H H7:=s16.but3.trans bb7
   cases hfa:bC pa x with
   | none =>
    refine qM ?_
    have pz:=post H7 a1 b1' c1 bb17 tri7 (Nat.le_trans ka (Nat.pow_le_pow_right (by decide) (by omega))) (Nat.le_trans kb (Nat.pow_le_pow_right (by decide) (by omega))) (Nat.le_trans kc (Nat.pow_le_pow_right (by decide) (by omega))) λfd z=>by rw [ie hfa] at z;cases z
    rw [ie hfa] at pz
    exact pz
   | some fa =>
    refine sY ?_
    obtain ⟨da,db,dc⟩:=d7 fa hfa
    refine eF (cQ (RE.use (K:=K) (d:=toP pb) (aQ (k:=2) (ae (Dat.mono g67 _ ((sG.trans (s5.trans s6)).dat h0))) ao rfl) λw2 H8 s8 q8=>?_))
    refine cQ (RE.use (K:=K) (d:=toD y) (aQ (k:=2) (ae (s8.dat (Dat.mono g67 _ (s16.dat h1)))) ao rfl) λw3 H9 s9 q9=>?_)
    have s79:=s8.trans s9
    have tri9:=tri7.same s79
    refine ⟨_,rfl,pb,y,w2,w3,f,l0,l1,l2,a++a1,b++b1',c++c1,rfl,okp.2.2,okt.2.2,dpy,dpb,by omega,s9.dat q8,q9,s79 _ _ (hf' bb17),f0,f1,f2,tri9,by rw [List.length_append];omega,by rw [List.length_append];omega,by rw [List.length_append];omega,λH10 a2 b2' c2 bb10 tri10 ma mb mc d10=>?_⟩
    have g:=bb10.grow (K:=K) tri9 tri10
    rw [List.append_assoc,List.append_assoc,List.append_assoc] at tri10
    have pz:=post H10 (a1++a2) (b1'++b2') (c1++c2) (bb17.trans (s79.but3.trans bb10)) tri10 (lL ka ma) (lL kb mb) (lL kc mc) λfd z=>by
     obtain ⟨_,f',g',e1,e2,e3⟩:=dm z
     rw [hfa] at e1
     cases e1
     obtain ⟨da2,db2,dc2⟩:=d10 g' e2
     subst e3
     refine ⟨?_,?_,?_⟩
     ·show Dats K H10 ((fa.1++g'.1).map toD) _
      rw [List.map_append]
      exact Dats.append (Dats.mono g _ (s79.dats da)) da2
     ·show Dats K H10 ((fa.2.1++g'.2.1).map D.int) _
      rw [List.map_append]
      exact Dats.append (Dats.mono g _ (s79.dats db)) db2
     ·show Dats K H10 ((fa.2.2++g'.2.2).map D.int) _
      rw [List.map_append]
      exact Dats.append (Dats.mono g _ (s79.dats dc)) dc2
    rw [nz hfa] at pz
    exact pz
  ·rw [decide_eq_false hk]
   refine qM ?_
   have e:=sN (a:=pa) (b:=pb) ho ek hk
   have pz:=post _ [] [] [] s1G.but3 (tri.same s1G).nil (by simp) (by simp) (by simp) λfd z=>by rw [e] at z;cases z
   rw [e] at pz
   exact pz
noncomputable def vB (ds:List D) (d:D):Prop:=∃ m,ds=[.int m]/\d=.int (eY m)
theorem qS (T:Txt P w K mg)  : FnOk P w K mg base CX0 (k+1) T.Ii T.Ip ["_law_cells"] (spD K vB):=by
 refine T.Iy.ok sc__law_over (λvs H Q E h=>?_) (λcdv A outer s H vs Q E hr h=>?_)
 ·obtain ⟨ds,d,hd,⟨m,rfl,rfl⟩,_⟩:=h;exact hd.length.symm
 have nd:=sc__law_over.nd
 obtain ⟨ds,d,hd,⟨m,rfl,rfl⟩,post⟩:=h
 obtain ⟨v0,rfl,h0⟩:=gC hd
 refine ⟨_,(au (aI (nW (aV jr (pv 0) ak (aY _)) ak ak))),?_⟩
 refine aW (K:=K) (d:=.int (eY m)) (wA (b:=decide (m≤9)) (aD (eR (p:=λi j=>decide (i≤j)) (ae h0) ao)) (λc=>RE.as ao ?_) (λc=>RE.as ao ?_)) post
 ·unfold eY;rw [if_pos (of_decide_eq_true c)]
 ·unfold eY;rw [if_neg (of_decide_eq_false c)]
structure New3 (F G:Hp) (f l0 l1 l2:Addr):Prop where
 s:Same F G
 hf:G f=some (oL l0 l1 l2)
 n0:f≠l0
 n1:f≠l1
 n2:f≠l2
 tri:Tri l0 l1 l2 G [] [] []
 f0:F l0=none
 f1:F l1=none
 f2:F l2=none
variable {F G':Hp} {l0 l1 l2:Addr}
theorem New3.mono {f:Addr} (h:New3 F G f l0 l1 l2) (s:Same G G'):New3 F G' f l0 l1 l2:=⟨h.s.trans s,s _ _ h.hf,h.n0,h.n1,h.n2,h.tri.same s,h.f0,h.f1,h.f2⟩
theorem Dw (q:∀ f l0 l1 l2 G,New3 F G f l0 l1 l2->Q (.ref f) G):ui (bR (ui dQ) (bR (ui dQ) (bR (ui dQ) dQ))) σ F Q:=by
 refine ⟨cm (by decide),λl0 hl0=>⟨cm (by decide),λl1 hl1=>⟨cm (by decide),λl2 hl2=>⟨cm (by simp),λf hf=>?_⟩⟩⟩⟩
 have n10:l0≠l1:=az aq hl1
 have n20:l0≠l2:=az (by rw [aJ n10];exact aq) hl2
 have n21:l1≠l2:=az aq hl2
 have nf0:l0≠f:=az (by rw [aJ n20,aJ n10];exact aq) hf
 have nf1:l1≠f:=az (by rw [aJ n21];exact aq) hf
 have nf2:l2≠f:=az aq hf
 refine q f l0 l1 l2 _ ⟨(aG hl0 _).trans ((aG hl1 _).trans ((aG hl2 _).trans (aG hf _))),aq,Ne.symm nf0,Ne.symm nf1,Ne.symm nf2,⟨?_,?_,?_,n10,n20,n21⟩,hl0,?_,?_⟩
 ·rw [aJ nf0,aJ n20,aJ n10];exact aq
 ·rw [aJ nf1,aJ n21];exact aq
 ·rw [aJ nf2];exact aq
 ·rw [aJ (Ne.symm n10)] at hl1;exact hl1
 ·rw [aJ (Ne.symm n21),aJ (Ne.symm n20)] at hl2;exact hl2
structure Full3 (K:PySem.W.Frag) (F G:Hp) (f l0 l1 l2:Addr) (fd:Fnd):Prop where
 hf:G f=some (.lst [.ref l0,.ref l1,.ref l2])
 h0:LD K G (fd.1.map toD) (.ref l0)
 h1:LD K G (fd.2.1.map D.int) (.ref l1)
 h2:LD K G (fd.2.2.map D.int) (.ref l2)
theorem Full3.mono {f:Addr} (h:Full3 K F G f l0 l1 l2 fd) (s:Same G G'):Full3 K F G' f l0 l1 l2 fd:=⟨s _ _ h.hf,s.ld h.h0,s.ld h.h1,s.ld h.h2⟩
theorem Em {tp tt:TE} {f:Addr} {p:Pa} (N:New3 F G f l0 l1 l2) (okp:gZ p) (okt:okX t) (dpt:aE t≤8) (dpp:cn p≤3) (hp:RE K tp σ G (toP p)) (ht:RE K tt σ G (toD t))
  (q:∀ G',Same F G'->(∀ fd,bC p t=some fd->Full3 K F G' f l0 l1 l2 fd)->Q (.bl (bC p t).isSome) G') (hv:σ[j]?=some (some (.ref f)):=by rfl):mr (j6 K oL 3) [] E (bR tp (bR tt (bR (jl j) dQ))) σ G Q:=by
 refine eF (cQ (hp.use λw0 G1 s1 q1=>cQ ((ht.mono s1).use λw1 G2 s2 q2=>?_)))
 have N2:=N.mono (s1.trans s2)
 refine ⟨_,hv,p,t,w0,w1,f,l0,l1,l2,[],[],[],rfl,okp,okt,dpt,dpp,by decide,s2.dat q1,q2,N2.hf,N2.n0,N2.n1,N2.n2,N2.tri,by decide,by decide,by decide,λG3 a' b' c' bb tri' _ _ _ dd=>?_⟩
 refine q G3 (λx o hx=>bb x o (az hx N2.f0) (az hx N2.f1) (az hx N2.f2) (N2.s _ _ hx)) λfd e=>?_
 obtain ⟨d0,d1,d2⟩:=dd fd e
 exact ⟨bb _ _ N2.n0 N2.n1 N2.n2 N2.hf,LD.of tri'.h0 d0,LD.of tri'.h1 d1,LD.of tri'.h2 d2⟩
theorem Er {k:Nat} {v:Nat} {f:Addr} {us:List V} (hf:H f=some (.lst us)) (hl:LD K H es (.ref l)) (h2:RE K tb σ H (.int (v:Nat))) (e:us[v]?=some (.ref l)) (hv:σ[k]?=some (some (.ref f)):=by rfl):RL K (tOp (zZ K) (jl k) tb) σ H es:=λH1 s Q q =>
 ⟨_,hv,h2 H1 s _ λw H3 s3 q3=>⟨f,us,v,.ref l,rfl,q3.intE,SqL.of ((s.trans s3) _ _ hf),ia e,q _ _ s3 ((s.trans s3).ld hl)⟩⟩
noncomputable def rV (n:Nat) (as:List Ar) (d:D):Prop:=∃ (c:List Tr) (p:Pa) (t:Tr) (top:Bool) (f:Fnd),as=[.d (toP p),.d (toD t),.l (c.map toD),.d (.bl top)]/\gZ p/\okT t/\cn p≤n/\bC p t=some f/\okPs c/\d=.bl (hid c p t top)
theorem nP (T:Txt P w K mg) (HY:FnOk P w K mg base CX0 k T.FP T.FR ["_law_pattern","_law_tree_here","_law_calls","_law_top"] (spA K (rV n))):FnOk P w K mg base CX0 (k+1) T.FP T.FR ["_law_pattern","_law_tree_here","_law_calls","_law_top"] (spA K (rV (n+1))):=by
 refine T.Gr.ok sc__law_hidden (λvs H Q E h=>?_) (λcdv A outer s H vs Q E hr h=>?_)
 ·obtain ⟨as,d,hd,⟨c,p,t,top,f,rfl,_⟩,_⟩:=h;exact hd.length.symm
 have nd:=sc__law_hidden.nd
 obtain ⟨as,d,hd,⟨c,p,t,top,f,rfl,okp,okt,dpp,hft,okc,rfl⟩,post⟩:=h
 obtain ⟨v0,v1,v2,v3,rfl,h0,h1,h2,h3⟩:=wV hd
 have h0:Dat K H (toP p) v0:=h0
 have h1:Dat K H (toD t) v1:=h1
 have h2:LD K H (c.map toD) v2:=h2
 have h3:Dat K H (.bl top) v3:=h3
 have e3:=h3.blE
 subst e3
 refine ⟨_,(aj (bq (aV cF (aN aS (pv 0) ak (λ_ _=>rfl)) aH (aY _)) (au (aI cu)) aR)
 (aj (bq (PW.pt (rp (aV (show OpR _ _ (tY K false) from rd hr) (pv 1) (pv 2) (by with_unfolding_all rfl)) (mP (ck (br (pv 3) (λ_=>rfl)))))) (au (aI cu)) aR)
 (aj (bq (aV pT (aN aS (pv 0) ak (λ_ _=>rfl)) (aM (ag aH (ag aH (ag aH af)))) (by with_unfolding_all rfl)) (au (aI cu)) aR)
 (au (aI (wq (ay HY hr rfl T.Ie T.Gr.kp (iB T) .nil aO (ag (aN aS (pv 0) ak (λ_ _=>rfl)) (ag (aN aS (pv 1) ak (λ_ _=>rfl)) (ag (pv 2) (ag cu af))))) (fT (ay HY hr rfl T.Ie T.Gr.kp (iB T) .nil aO (ag (aN aS (pv 0) ak (λ_ _=>rfl)) (ag (aN aS (pv 1) ak (λ_ _=>rfl)) (ag (pv 2) (ag cu af)))))))))))),?_⟩
 cases p with
 | hole i =>
  have h0:Dat K H (.tup [.str "hole",.int i]) v0:=h0
  refine aK (K:=K) (b:=true) (RT.as (aD (bo (aQ (k:=0) (ae (k:=0) h0) ao rfl) aB)) (by decide +kernel)) (λ_ H1 s1=>?_) (λc=>nomatch c)
  exact aW (K:=K) (d:=.bl false) cg λv H' s q=>post v H' (s1.trans s) (by
   have eh:hid c (.hole i) t top=false:=by simp only [hid]
   rw [eh];exact q)
 | gap i m =>
  have h0:Dat K H (.tup [.str "gap",.int i,.int m]) v0:=h0
  refine aK (K:=K) (b:=false) (RT.as (aD (bo (aQ (k:=0) (ae (k:=0) h0) ao rfl) aB)) (by decide +kernel)) (λc=>nomatch c) (λ_ H1 s1=>?_)
  have h0:=s1.dat h0
  have h1:=s1.dat h1
  have h2:=s1.ld h2
  refine aK (K:=K) (b:=dP c t && !top) (ow (aD (iF (neg:=false) (ae (k:=1) h1) (aF (k:=2) h2) (dE c) (bN t) okc.deep)) λ_=>bJ (aX (ae (k:=3) (Dat.blI top)))) (λe H2 s2=>?_) (λe H2 s2=>?_)
  ·exact aW (K:=K) (d:=.bl true) cg λv H' s q=>post v H' (s1.trans (s2.trans s)) (by
    have eh:hid c (.gap i m) t top=true:=by simp only [hid,e]
    rw [eh];exact q)
  refine aK (K:=K) (b:=true) (RT.as (aD (oq (ys:=["gap","slot","num"]) (aQ (k:=0) (ae (k:=0) (s2.dat h0)) ao rfl) (aP (ab aB (ab aB (ab aB av)))))) (by decide +kernel)) (λ_ H3 s3=>?_) (λc=>nomatch c)
  exact aW (K:=K) (d:=.bl false) cg λv H' s q=>post v H' (s1.trans (s2.trans (s3.trans s))) (by
   have eh:hid c (.gap i m) t top=false:=by simp only [hid,e]
   rw [eh];exact q)
 | slot i =>
  have h0:Dat K H (.tup [.str "slot",.int i]) v0:=h0
  refine aK (K:=K) (b:=false) (RT.as (aD (bo (aQ (k:=0) (ae (k:=0) h0) ao rfl) aB)) (by decide +kernel)) (λc=>nomatch c) (λ_ H1 s1=>?_)
  have h0:=s1.dat h0
  have h1:=s1.dat h1
  have h2:=s1.ld h2
  refine aK (K:=K) (b:=dP c t && !top) (ow (aD (iF (neg:=false) (ae (k:=1) h1) (aF (k:=2) h2) (dE c) (bN t) okc.deep)) λ_=>bJ (aX (ae (k:=3) (Dat.blI top)))) (λe H2 s2=>?_) (λe H2 s2=>?_)
  ·exact aW (K:=K) (d:=.bl true) cg λv H' s q=>post v H' (s1.trans (s2.trans s)) (by
    have eh:hid c (.slot i) t top=true:=by simp only [hid,e]
    rw [eh];exact q)
  refine aK (K:=K) (b:=true) (RT.as (aD (oq (ys:=["gap","slot","num"]) (aQ (k:=0) (ae (k:=0) (s2.dat h0)) ao rfl) (aP (ab aB (ab aB (ab aB av)))))) (by decide +kernel)) (λ_ H3 s3=>?_) (λc=>nomatch c)
  exact aW (K:=K) (d:=.bl false) cg λv H' s q=>post v H' (s1.trans (s2.trans (s3.trans s))) (by
   have eh:hid c (.slot i) t top=false:=by simp only [hid,e]
   rw [eh];exact q)
 | num m =>
  have h0:Dat K H (.tup [.str "num",.int m]) v0:=h0
  refine aK (K:=K) (b:=false) (RT.as (aD (bo (aQ (k:=0) (ae (k:=0) h0) ao rfl) aB)) (by decide +kernel)) (λc=>nomatch c) (λ_ H1 s1=>?_)
  have h0:=s1.dat h0
  have h1:=s1.dat h1
  have h2:=s1.ld h2
  refine aK (K:=K) (b:=dP c t && !top) (ow (aD (iF (neg:=false) (ae (k:=1) h1) (aF (k:=2) h2) (dE c) (bN t) okc.deep)) λ_=>bJ (aX (ae (k:=3) (Dat.blI top)))) (λe H2 s2=>?_) (λe H2 s2=>?_)
  ·exact aW (K:=K) (d:=.bl true) cg λv H' s q=>post v H' (s1.trans (s2.trans s)) (by
    have eh:hid c (.num m) t top=true:=by simp only [hid,e]
    rw [eh];exact q)
  refine aK (K:=K) (b:=true) (RT.as (aD (oq (ys:=["gap","slot","num"]) (aQ (k:=0) (ae (k:=0) (s2.dat h0)) ao rfl) (aP (ab aB (ab aB (ab aB av)))))) (by decide +kernel)) (λ_ H3 s3=>?_) (λc=>nomatch c)
  exact aW (K:=K) (d:=.bl false) cg λv H' s q=>post v H' (s1.trans (s2.trans (s3.trans s))) (by
   have eh:hid c (.num m) t top=false:=by simp only [hid,e]
   rw [eh];exact q)
 | two o a b =>
  cases t with
  | two o' x y =>
   obtain ⟨eo,f1,f2,e1,e2,_⟩:=dm hft
   have h0:Dat K H (.tup [.str o,toP a,toP b]) v0:=h0
   have hop:o="add"\/o="sub"\/o="mul"\/o="less":=by rw [← eo];exact okt.1
   refine aK (K:=K) (b:=false) (RT.as (aD (bo (aQ (k:=0) (ae (k:=0) h0) ao rfl) aB)) (by rcases hop with rfl | rfl | rfl | rfl <;> decide +kernel)) (λc=>nomatch c) (λ_ H1 s1=>?_)
   have h0:=s1.dat h0
   have h1:=s1.dat h1
   have h2:=s1.ld h2
   refine aK (K:=K) (b:=dP c (.two o' x y) && !top) (ow (aD (iF (neg:=false) (ae (k:=1) h1) (aF (k:=2) h2) (dE c) (bN _) okc.deep)) λ_=>bJ (aX (ae (k:=3) (Dat.blI top)))) (λe H2 s2=>?_) (λe H2 s2=>?_)
   ·exact aW (K:=K) (d:=.bl true) cg λv H' s q=>post v H' (s1.trans (s2.trans s)) (by
     have eh:hid c (.two o a b) (.two o' x y) top=true:=by simp only [hid,e,Bool.true_or]
     rw [eh];exact q)
   have h0:=s2.dat h0
   have h1:Dat K H2 (.tup [.str o',toD x,toD y]) v1:=s2.dat h1
   have h2:=s2.ld h2
   refine aK (K:=K) (b:=false) (RT.as (aD (oq (ys:=["gap","slot","num"]) (aQ (k:=0) (ae (k:=0) h0) ao rfl) (aP (ab aB (ab aB (ab aB av)))))) (by rcases hop with rfl | rfl | rfl | rfl <;> decide +kernel)) (λc=>nomatch c) (λ_ H3 s3=>?_)
   have h0:=s3.dat h0
   have h1:=s3.dat h1
   have h2:=s3.ld h2
   have da:cn a≤n:=by simp only [cn] at dpp;omega
   have db:cn b≤n:=by simp only [cn] at dpp;omega
   refine aW (K:=K) (d:=.bl (hid c a x false || hid c b y false)) (ue (bK (R:=rV n) (bY (aQ (k:=1) (ae (k:=0) h0) ao rfl) (bY (aQ (k:=1) (ae (k:=1) h1) ao rfl) (bS (aF (k:=2) h2) (bY cg bF)))) ⟨c,a,x,false,f1,rfl,okp.2.1,okt.2.1,da,e1,okc,rfl⟩) λ_=>bK (R:=rV n) (bY (aQ (k:=2) (ae (k:=0) h0) ao rfl) (bY (aQ (k:=2) (ae (k:=1) h1) ao rfl) (bS (aF (k:=2) h2) (bY cg bF)))) ⟨c,b,y,false,f2,rfl,okp.2.2,okt.2.2,db,e2,okc,rfl⟩) λv H' s q=>post v H' (s1.trans (s2.trans (s3.trans s))) ?_
   have eh:hid c (.two o a b) (.two o' x y) top=(hid c a x false || hid c b y false):=by
    show ((dP c (.two o' x y) && !top) || (hid c a x false || hid c b y false))=_
    rw [e,Bool.false_or]
   rw [eh];exact q
  | _=>cases hft
noncomputable def km (f:Tr->Bst) (w:Wy):Option Int:=(eQ (w.ts.map f)).map λbs=>dj w (bs.map (·.1))
theorem xx {w:Wy} {bs:List (Int × D)} (h:eQ (w.ts.map f)=some bs) (hn:w.nm≠"pick"):km f w=some ((w.cs.length:Int)+(bs.map (·.1)).sum):=by
 unfold km
 rw [h,Option.map_some]
 unfold dj oZ
 rw [if_neg hn]
noncomputable def mY (L:List Int):Bst->Prop
 | none=>L=[]
 | some x=>x.1 ∈ L/\∀ m ∈ L,x.1≤m
theorem Ao {L:List Int} {b:Bst} (w:Wy) (h:mY L b):mY (L++(km f w).toList) (cV f b w):=by
 unfold cV km
 cases e:eQ (w.ts.map f) with
 | none=>show mY (L++[]) b;rw [List.append_nil];exact h
 | some bs =>
  have h2:qg b w (some bs)=fQ b (dj w (bs.map (·.1))) (cvD w.nm bs):=rfl
  rw [h2,Option.map_some,Option.toList_some]
  generalize dj w (bs.map (·.1))=n
  unfold fQ
  cases b with
  | none =>
   have h:L=[]:=h
   subst h
   exact ⟨List.mem_singleton.mpr rfl,λm hm=>Int.le_of_eq (List.mem_singleton.mp hm).symm⟩
  | some x =>
   dsimp only
   have h:x.1 ∈ L/\∀ m ∈ L,x.1≤m:=h
   split
   ·rename_i lt
    refine ⟨List.mem_append_right _ (List.mem_singleton.mpr rfl),λm hm=>?_⟩
    rcases List.mem_append.mp hm with hm | hm
    ·have:=h.2 m hm;show n≤m;omega
    ·exact Int.le_of_eq (List.mem_singleton.mp hm).symm
   ·rename_i ge
    refine ⟨List.mem_append_left _ h.1,λm hm=>?_⟩
    rcases List.mem_append.mp hm with hm | hm
    ·exact h.2 m hm
    ·rw [List.mem_singleton.mp hm];omega
theorem sP {f:Tr->Bst}:∀ (ws:List Wy) (L:List Int) (b:Bst),mY L b->mY (L++ws.filterMap (km f)) (ws.foldl (cV f) b)
 | [],L,b,h=>by rw [List.filterMap_nil,List.append_nil];exact h
 | w::ws,L,b,h=>by
  have ih:=sP (f:=f) ws _ _ (Ao (f:=f) w h)
  rw [List.foldl_cons]
  rw [List.append_assoc] at ih
  have e:(w::ws).filterMap (km f)=(km f w).toList++ws.filterMap (km f):=by
   rw [List.filterMap_cons]
   cases km f w <;> rfl
  rw [e]
  exact ih
theorem xy (a b c:Tr) (x y z:Int × D):dj ⟨"pick",[],[a,b,c]⟩ ([x,y,z].map (·.1))=x.1+eY (y.1+eY z.1)+(y.1+eY z.1)+z.1:=by
 unfold dj oZ
 rw [if_pos rfl]
 simp
 unfold wu
 omega
theorem rY:∀ {l:List Tr},(∀ x ∈ l,bx ps x=some (bOf ps x))->eQ (l.map (bx ps))=some (l.map (bOf ps))
 | [],_=>rfl
 | x::l,h=>by
  rw [List.map_cons,List.map_cons,h x List.mem_cons_self]
  show (eQ (l.map (bx ps))).map (bOf ps x::·)=_
  rw [rY λy hy=>h y (List.mem_cons_of_mem _ hy)]
  rfl
noncomputable def clL (ps:List Pc) (c:List Tr) (t:Tr) (top:Bool):Int:=(bOf ps (if top=true then wwT c t else wcT c t)).1
theorem CO (nh:∀ p ∈ ps,cz p.pt=true) {top:Bool} (h:(dP c t && !top)=true):clL ps c t top=3:=by
 rw [Bool.and_eq_true] at h
 have ht:top=false:=by cases top with | true=>cases h.2 | false=>rfl
 subst ht
 obtain ⟨k,ek⟩:=wO h.1
 unfold clL
 rw [if_neg Bool.false_ne_true,ek]
 unfold bOf
 rw [lh nh]
 rfl
theorem AS {top:Bool} (h:(dP c t && !top)=false):clL ps c t top=(bOf ps (wwT c t)).1:=by
 unfold clL
 cases top with
 | true=>rw [if_pos rfl]
 | false =>
  rw [Bool.not_false,Bool.and_true] at h
  rw [if_neg Bool.false_ne_true,rT h]
noncomputable def eG (n:Nat) (as:List Ar) (d:D):Prop:=∃ (ps:List Pc) (c:List Tr) (t:Tr) (top:Bool),as=[.d (toD t),.l (ps.map pcD),.l (c.map toD),.d (.bl top)]/\gdS ps/\okPs c/\okT t/\aE t≤n/\n≤8/\d=.int (clL ps c t top)
theorem C1 (h:okT t):∃ kd r,toD t=.tup (.str kd::r)/\decide (kd="pick")=nE t:=by
 cases t with
 | num n=>exact ⟨_,_,rfl,show decide (("num":Str)="pick")=false by decide +kernel⟩
 | arg n=>exact ⟨_,_,rfl,show decide (("arg":Str)="pick")=false by decide +kernel⟩
 | call n=>exact h.elim
 | pick a b c=>exact ⟨_,_,rfl,show decide (("pick":Str)="pick")=true by decide +kernel⟩
 | two o a b =>
  refine ⟨_,_,rfl,?_⟩
  show decide (o="pick")=false
  have:=h.1
  rcases this with rfl | rfl | rfl | rfl <;> decide +kernel
theorem nO (T:Txt P w K mg) (FL:FnOk P w K mg base CX0 k T.FO T.FQ ["_law_tree_here","_law_some","_law_calls","_law_top"] (spA K (eG n))) (KL:FnOk P w K mg base CX0 k T.Ii T.Ip ["_law_cells"] (spD K vB)) (JI:FnOk P w K mg base CX0 k T.Hf T.Hh ["_law_pattern","_law_tree_here","_law_found"] (j6 K oL 3)) (HY:FnOk P w K mg base CX0 k T.FP T.FR ["_law_pattern","_law_tree_here","_law_calls","_law_top"] (spA K (rV 3))):FnOk P w K mg base CX0 (k+1) T.FO T.FQ ["_law_tree_here","_law_some","_law_calls","_law_top"] (spA K (eG (n+1))):=by
 refine T.Fn.ok sc__law_called (λvs H Q E h=>?_) (λcdv A outer s H vs Q E hr h=>?_)
 ·obtain ⟨as,d,hd,⟨ps,c,t,top,rfl,_⟩,_⟩:=h;exact hd.length.symm
 have nd:=sc__law_called.nd
 obtain ⟨as,d,hd,⟨ps,c,t,top,rfl,F,okc,okt,dpt,n8,rfl⟩,post⟩:=h
 obtain ⟨v0,v1,v2,v3,rfl,h0,h1,h2,h3⟩:=wV hd
 have h0:Dat K H (toD t) v0:=h0
 have h1:LD K H (ps.map pcD) v1:=h1
 have h2:LD K H (c.map toD) v2:=h2
 have h3:Dat K H (.bl top) v3:=h3
 have e3:=h3.blE
 subst e3
 have nh:∀ p ∈ ps,cz p.pt=true:=λp hp=>(F.hp p hp).1
 have okS:=F.ok
 have bsub:∀ x ∈ (bh t).flatMap ax,okT x/\aE x≤n/\bx ps (wcT c x)=some (bOf ps (wcT c x)):=λx hx=>by
  have hs:=fV hx
  have okx:=e9 t x okt (iU hx)
  obtain ⟨w1,w2,w3,_⟩:=jt okc.few x okx
  obtain ⟨_,hb,_⟩:=i0 F [] w1 (by omega)
  exact ⟨okx,by omega,hb⟩
 refine ⟨_,(aj (bq (PW.pt (rp (aV (show OpR _ _ (tY K false) from rd hr) (pv 0) (pv 2) (by with_unfolding_all rfl)) (mP (ck (br (pv 3) (λ_=>rfl)))))) (au (aI ak)) aR)
 (aj (bq (aV cF (aN aS (pv 0) ak (λ_ _=>rfl)) aH (aY _)) (aj (fm (i:=4) (own:=["_law_one"]) (fr:=[1,2]) (N':=["_law_one","_law_some","_law_calls"]) (iE (hU lR (pv 0) (ik ak) jN)) rfl (by show cj ["_law_tree_here","_law_some","_law_calls","_law_top","_law_three","_law_last","_law_lengths","_law_piece","_law_found"] (λx=>(aA dU).names.lookup x) _ _ _ _=true;decide +kernel) rfl (λ_ _ _ _ _=>(aL (i:=0) (by show List.Nodup [("_law_one":Str),("_law_some":Str),("_law_calls":Str)];decide +kernel) rfl (Or.inl rfl))) (λ_ _ _ _ _=>bO) (λ_ _ _ _ _=>(ay FL hr rfl T.FT T.Fn.kp (dR T) .nil aO (ag (pv 0) (ag (pv 1) (ag (pv 2) (ag cu af)))))) nd rfl rfl rfl)
 (aj (bj (i:=5) nd rfl (Or.inl rfl) (bu cM (aN bM (pv 4) ak (λ_ _=>rfl)) (ay KL hr rfl T.J4 T.Iy.kp (lX T) .nil aO (ag (aN bM (pv 4) ak (λ_ _=>rfl)) af))))
 (au (aI (bu cM (bu cM (bu cM (aN bM (pv 4) ak (λ_ _=>rfl)) (ay KL hr rfl T.J4 T.Iy.kp (lX T) .nil aO (ag (pv 5) af))) (pv 5)) (aN bM (pv 4) ak (λ_ _=>rfl))))))) aR)
 (aj (bj (i:=6) nd rfl (Or.inl rfl) (bA af))
 (aj (gA PassesOwn.never rfl (di (pv 1)) (aL (i:=7) nd rfl (Or.inl rfl)) (aj (bj (i:=8) nd rfl (Or.inl rfl) (bA (ag (bA af) (ag (bA af) (ag (bA af) af)))))
 (au (bq (PW.pt (rp (br (ay JI hr rfl T.JP T.HS.kp (j8 T) .nil aO (ag (aN aS (pv 7) ak (λ_ _=>rfl)) (ag (pv 0) (ag (pv 8) af)))) (λ_=>rfl)) (mP (ck (br (ay HY hr rfl T.Ie T.Gr.kp (iB T) .nil aO (ag (aN aS (pv 7) ak (λ_ _=>rfl)) (ag (pv 0) (ag (pv 2) (ag cu af))))) (λ_=>rfl)))))) (au (bE (dq PySem.F.plainAttrs_list PySem.F.slot_list_append PySem.F.type_list_append bQ (pv 6) (ag (bu cM (aT aU rfl T.Fq bP (ag (aN aS (pv 7) ak (λ_ _=>rfl)) af)) (aT (sv rfl) rfl T.L1 yD (ag (cO (own:=["_law_one"]) (fr:=[1,2]) (N':=["_law_one","_law_some","_law_calls"]) (di (aN bM (pv 8) ak (λ_ _=>rfl))) rfl (by show cj ["_law_tree_here","_law_some","_law_calls","_law_top","_law_three","_law_last","_law_lengths","_law_piece","_law_found"] (λx=>(aA dU).names.lookup x) _ _ _ _=true;decide +kernel) rfl (λ_ _ _ _ _=>(aL (i:=0) (by show List.Nodup [("_law_one":Str),("_law_some":Str),("_law_calls":Str)];decide +kernel) rfl (Or.inl rfl))) (λ_ _ _ _ _=>bO) (λ_ _ _ _ _=>(ay FL hr rfl T.FT T.Fn.kp (dR T) .nil aO (ag (pv 0) (ag (pv 1) (ag (pv 2) (ag cu af))))))) af))) af)))) aR))))
 (au (aI (aT (xc rfl) rfl T.Mf CM (ag (pv 6) af)))))))),?_⟩
 refine aK (K:=K) (b:=dP c t && !top) (ow (aD (iF (neg:=false) (ae (k:=0) h0) (aF (k:=2) h2) (dE c) (bN t) okc.deep)) λ_=>bJ (aX (ae (k:=3) (Dat.blI top)))) (λe H1 s1=>?_) (λe H1 s1=>?_)
 ·exact aW (K:=K) (d:=.int 3) ao λv H' s q=>post v H' (s1.trans s) (by rw [CO nh e];exact q)
 rw [AS e] at post
 have h0:=s1.dat h0
 have h1:=s1.ld h1
 have h2:=s1.ld h2
 obtain ⟨kd,r,ek,hpk⟩:=C1 okt
 have h0':Dat K H1 (.tup (.str kd::r)) v0:=by rw [← ek];exact h0
 refine aK (K:=K) (b:=nE t) (RT.as (aD (bo (aQ (k:=0) (ae (k:=0) h0') ao rfl) aB)) hpk) (λcp H2 s2=>?_) (λcp H2 s2=>?_)
 ·cases t with
  | pick a b d =>
   have h0:Dat K H1 (.tup [.str "pick",toD a,toD b,toD d]) v0:=h0
   have ma:a ∈ ax a:=by cases a <;> simp [ax]
   have mb:b ∈ ax b:=by cases b <;> simp [ax]
   have md:d ∈ ax d:=by cases d <;> simp [ax]
   obtain ⟨oa,da,ba⟩:=bsub a (by simp [bh,ma])
   obtain ⟨ob,db,bb⟩:=bsub b (by simp [bh,mb])
   obtain ⟨od,dd,bd⟩:=bsub d (by simp [bh,md])
   refine eI (K:=K) (lN (cs:=[toD a,toD b,toD d]) (iQ (ae (k:=0) (s2.dat h0))) (by simp) [.int (clL ps c a false),.int (clL ps c b false),.int (clL ps c d false)] rfl rfl (λG1 j x v e s3 hc hd hv=>?_)) λl ys G2 hl s3 hy dy=>?_
   ·have hL:=(s2.trans s3).ld h1
    have hC:=(s2.trans s3).ld h2
    match j,hc,hd with
    | 0,hc,hd=>cases hc;cases hd;exact bK (R:=eG n) (bY (ae (k:=0) hv) (bS (aF (k:=1) hL) (bS (aF (k:=2) hC) (bY cg bF)))) ⟨ps,c,a,false,rfl,F,okc,oa,da,by omega,rfl⟩
    | 1,hc,hd=>cases hc;cases hd;exact bK (R:=eG n) (bY (ae (k:=0) hv) (bS (aF (k:=1) hL) (bS (aF (k:=2) hC) (bY cg bF)))) ⟨ps,c,b,false,rfl,F,okc,ob,db,by omega,rfl⟩
    | 2,hc,hd=>cases hc;cases hd;exact bK (R:=eG n) (bY (ae (k:=0) hv) (bS (aF (k:=1) hL) (bS (aF (k:=2) hC) (bY cg bF)))) ⟨ps,c,d,false,rfl,F,okc,od,dd,by omega,rfl⟩
    | j+3,hc,hd=>cases hc
   have hL2:LD K G2 [.int (clL ps c a false),.int (clL ps c b false),.int (clL ps c d false)] (.ref l):=LD.of hy dy
   have ev:(bOf ps (wwT c (.pick a b d))).1=clL ps c a false+eY (clL ps c b false+eY (clL ps c d false))+(clL ps c b false+eY (clL ps c d false))+clL ps c d false:=by
    have e1:bx ps (wwT c (.pick a b d))=some (dj ⟨"pick",[],[wcT c a,wcT c b,wcT c d]⟩ ([bOf ps (wcT c a),bOf ps (wcT c b),bOf ps (wcT c d)].map (·.1)),cvD "pick" [bOf ps (wcT c a),bOf ps (wcT c b),bOf ps (wcT c d)]):=by
     show bx ps (.pick (wcT c a) (wcT c b) (wcT c d))=_
     rw [ki nh,ba,bb,bd]
     rfl
    unfold bOf
    rw [e1]
    exact xy _ _ _ _ _ _
   rw [ev] at post
   refine dt (K:=K) (d:=.int (clL ps c b false+eY (clL ps c d false))) (dC (fH (k:=1) (aF (k:=4) hL2) ao rfl) (bg (R:=vB) (ab (fH (k:=2) (aF (k:=4) hL2) ao rfl) av) ⟨_,rfl,rfl⟩)) λvl G4 s4 q4=>?_
   have hL4:=s4.ld hL2
   exact aW (K:=K) (dC (dC (dC (fH (k:=0) (aF (k:=4) hL4) ao rfl) (bg (R:=vB) (ab (ae (k:=5) q4) av) ⟨_,rfl,rfl⟩)) (ae (k:=5) q4)) (fH (k:=2) (aF (k:=4) hL4) ao rfl)) λv G5 s5 q5=>post v G5 (s1.trans (s2.trans (s3.trans (s4.trans s5)))) q5
  | _=>cases cp
 have wpk:nE (wwT c t)=false:=by cases t with | pick a b d=>cases cp | _=>rfl
 have wcl:iM (wwT c t)=false:=by cases t with | call k=>exact okt.elim | _=>rfl
 have ew:ft ps (wwT c t)=ps.filterMap (fk (wwT c t)):=by unfold ft;rw [if_neg (by rw [wpk];exact Bool.false_ne_true)]
 have lm:=sP (f:=bx ps) (ft ps (wwT c t)) [] none rfl
 rw [List.nil_append] at lm
 have eb:(ft ps (wwT c t)).foldl (cV (bx ps)) none=bx ps (wwT c t):=by
  rw [gj nh]
  unfold dN
  rw [if_neg (by rw [wcl];exact Bool.false_ne_true)]
 rw [eb,ew] at lm
 obtain ⟨wk1,wk2,wk3,_⟩:=Cq okc.few t okt
 obtain ⟨_,hbw,_⟩:=i0 F [] wk1 (by omega)
 rw [hbw] at lm
 have h0:=s2.dat h0
 have h2:=s2.ld h2
 obtain ⟨a,vs,rfl,ha,hda⟩:=s2.ld h1
 have la:=hda.length
 rw [List.length_map] at la
 have hps:=okS.few
 refine cZ ⟨cm (by decide),λll hll=>?_⟩
 have s3:Same H2 (upd H2 ll (.lst [])):=aG hll _
 refine cJ ⟨_,rfl,a,rfl,⟨vs,(s3.aLst ha).sqL⟩,jA (xs:=vs) (λi σ G=>∃ (z4 z5 z7 z8:Option V) (ys:List V),σ=[some v0,some (.ref a),some v2,some (.bl top),z4,z5,some (.ref ll),z7,z8]/\Same H2 G/\G ll=some (.lst ys)/\Dats K G ((((ps.take i).filterMap (fk (wwT c t))).filterMap (km (bx ps))).map D.int) ys) ?_ (λi σ G _ zq=>by obtain ⟨_,_,_,_,_,_,p,_⟩:=zq;exact (p.aLst ha).sqL) ?_ ?_⟩
 ·exact ⟨none,none,none,none,[],rfl,s3,aq,by rw [List.take_zero];exact Dats.nil⟩
 ·rintro i vx σ G hi ⟨z4,z5,z7,z8,ys,rfl,sG,hlG,dy⟩
  obtain ⟨dx,ex,hx⟩:=(sG.dats hda).getV hi
  rw [List.getElem?_map] at ex
  cases hp:ps[i]? with
  | none=>rw [hp] at ex;cases ex
  | some p =>
   rw [hp] at ex
   cases ex
   have hpm:=List.mem_of_getElem? hp
   have okp:=okS.ok p hpm
   have et:ps.take (i+1)=ps.take i++[p]:=by rw [List.take_add_one,hp];rfl
   have lys:ys.length≤100:=by
    have l1:=dy.length
    rw [List.length_map] at l1
    have l2:=List.length_filterMap_le (fk (wwT c t)) (ps.take i)
    have l3:=List.length_filterMap_le (km (bx ps)) ((ps.take i).filterMap (fk (wwT c t)))
    rw [List.length_take] at l2
    omega
   have efw:=vP (c:=c) okt (p:=p) (nh p hpm)
   refine jc ?_
   dsimp only
   refine cZ (Dw λf l0 l1 l2 G1 N=>?_)
   have hx1:Dat K G1 (.tup [.str p.nm,toP p.pt,.tup p.cs]) vx:=N.s.dat hx
   refine Em (K:=K) (j:=8) N okp.ok (ig okt) (by omega) okp.dp (aQ (k:=1) (ae (k:=7) hx1) ao rfl) (ae (k:=0) ((sG.trans N.s).dat h0)) λG2 s4 full=>?_
   have sH2:=sG.trans s4
   have hl2:=s4 _ _ hlG
   have same:∀ {G3:Hp} {z8:Option V},Same G2 G3->(fk (wwT c t) p=none)->∃ (z4' z5' z7' z8':Option V) (ys:List V),[some v0,some (.ref a),some v2,some (.bl top),z4,z5,some (.ref ll),some vx,z8]=[some v0,some (.ref a),some v2,some (.bl top),z4',z5',some (.ref ll),z7',z8']/\Same H2 G3/\G3 ll=some (.lst ys)/\Dats K G3 ((((ps.take (i+1)).filterMap (fk (wwT c t))).filterMap (km (bx ps))).map D.int) ys:=λ{G3 z8} s5 e=>by
    refine ⟨_,_,_,_,ys,rfl,sH2.trans s5,s5 _ _ hl2,?_⟩
    rw [et,List.filterMap_append,List.filterMap_append]
    have e2:([p].filterMap (fk (wwT c t))).filterMap (km (bx ps))=[]:=by simp [e]
    rw [e2,List.append_nil]
    exact (s4.trans s5).dats dy
   cases hft:bC p.pt t with
   | none =>
    have eW:fk (wwT c t) p=none:=by
     rw [efw]
     unfold mC fk
     rw [hft]
     split <;> rfl
    exact ⟨_,rfl,qM (qM (jO (same (Same.refl _) eW)))⟩
   | some fd =>
    have F3:=full fd hft
    have tail:=jz okp.nh hft
    have few:fd.1.length≤8:=by
     have hw:=rS (ps:=ps) hpm cp hft
     exact (AG okS.ok hw).1
    have hx2:Dat K G2 (.tup [.str p.nm,toP p.pt,.tup p.cs]) vx:=s4.dat hx
    refine ⟨_,rfl,sY ?_⟩
    refine (bJ (aX (bK (K:=K) (R:=rV 3) (bY (aQ (k:=1) (ae (k:=7) hx2) ao rfl) (bY (ae (k:=0) (sH2.dat h0)) (bS (aF (k:=2) (sH2.ld h2)) (bY cg bF)))) ⟨c,p.pt,t,true,fd,rfl,okp.ok,okt,okp.dp,hft,okc,rfl⟩))) G2 (Same.refl _) _ λG3 s5=>?_
    cases ehd:hid c p.pt t true with
    | true =>
     have eW:fk (wwT c t) p=none:=by
      rw [efw]
      unfold mC
      rw [if_pos ehd]
      rfl
     exact qM (jO (same s5 eW))
    | false =>
     have eW:fk (wwT c t) p=some ⟨p.nm,p.cs,fd.1.map (wcT c)⟩:=by
      rw [efw]
      unfold mC fk
      rw [if_neg (by rw [ehd];exact Bool.false_ne_true),hft]
      rfl
     refine sY ?_
     have F5:=F3.mono s5
     have sH5:=sH2.trans s5
     have hl5:=s5 _ _ hl2
     have ea:eQ ((fd.1.map (wcT c)).map (bx ps))=some ((fd.1.map (wcT c)).map (bOf ps)):=rY λx hx=>by
      obtain ⟨y,hy,rfl⟩:=List.mem_map.mp hx
      exact (bsub y (tail y hy)).2.2
     refine mU (K:=K) (d:=.int ((p.cs.length:Int)+(fd.1.map λy=>clL ps c y false).sum)) (dC (eT (aQ (k:=2) (ae (k:=7) (s5.dat hx2)) ao rfl)) (wC (dI (fG (cs:=fd.1.map toD) (Er (k:=8) (v:=0) F5.hf F5.h0 ao rfl) (by rw [List.length_map];omega) ((fd.1.map λy=>clL ps c y false).map D.int) (by rw [List.length_map,List.length_map,List.length_map]) rfl (λG6 j x v d s6 hc hd hv=>?_))))) hl5 (by omega) λy G6 b6 hl6 q6=>?_
     ·rw [List.getElem?_map] at hc
      rw [List.map_map,List.getElem?_map] at hd
      cases hx:fd.1[j]? with
      | none=>rw [hx] at hc;cases hc
      | some y =>
       rw [hx] at hc hd
       cases hc
       cases hd
       obtain ⟨oy,dy,_⟩:=bsub y (tail y (List.mem_of_getElem? hx))
       exact bK (R:=eG n) (bY (ae (k:=0) hv) (bS (aF (k:=1) ((sH5.trans s6).ld ⟨a,vs,rfl,ha,hda⟩)) (bS (aF (k:=2) ((sH5.trans s6).ld h2)) (bY cg bF)))) ⟨ps,c,y,false,rfl,F,okc,oy,dy,by omega,rfl⟩
     have g6:cW K G3 G6:=b6.grow hl5 hl6
     refine ⟨_,_,_,_,ys++[y],rfl,λx o hx=>b6 x o (az hx hll) (sH5 _ _ hx),hl6,?_⟩
     have e2:([p].filterMap (fk (wwT c t))).filterMap (km (bx ps))=[(p.cs.length:Int)+(fd.1.map λy=>clL ps c y false).sum]:=by
      have e3:km (bx ps) ⟨p.nm,p.cs,fd.1.map (wcT c)⟩=some ((p.cs.length:Int)+(((fd.1.map (wcT c)).map (bOf ps)).map (·.1)).sum):=xx (w:=⟨p.nm,p.cs,fd.1.map (wcT c)⟩) ea okp.nm
      rw [List.map_map,List.map_map] at e3
      rw [List.filterMap_cons,List.filterMap_nil,eW]
      show [_].filterMap _=_
      rw [List.filterMap_cons,List.filterMap_nil,e3]
      rfl
     rw [et,List.filterMap_append,List.filterMap_append,e2,List.map_append]
     exact Dats.append (Dats.mono g6 _ ((s4.trans s5).dats dy)) (Dats.cons q6 Dats.nil)
 ·rintro σ G ⟨z4,z5,z7,z8,ys,rfl,sG,hlG,dy⟩
  rw [← la,List.take_length] at dy
  dsimp only
  exact aW (K:=K) (BH (aF (k:=6) (LD.of hlG dy)) lm.1 lm.2) λv G2 s4 q4=>post v G2 (s1.trans (s2.trans (sG.trans s4))) q4
theorem pW {f:Tr->D->Option (List D)} (hf:∀ t c es,f t c=some es->∃ ns:List Int,es=ns.map D.int):∀ {ts:List Tr} {cs:List D} {ess:List (List D)},e8 f ts cs=ess.map some->∃ ns:List Int,ess.flatten=ns.map D.int
 | [],cs,ess,h=>by
  have:ess=[]:=by cases ess with | nil=>rfl | cons _ _=>cases h
  subst this
  exact ⟨[],rfl⟩
 | t::ts,[],ess,h=>by
  have:ess=[]:=by cases ess with | nil=>rfl | cons _ _=>cases h
  subst this
  exact ⟨[],rfl⟩
 | t::ts,c::cs,ess,h=>by
  cases ess with
  | nil=>cases h
  | cons x ess =>
   have h':f t c::e8 f ts cs=some x::ess.map some:=h
   injection h' with h1 h2
   obtain ⟨n1,e1⟩:=hf t c x h1
   obtain ⟨n2,e2⟩:=pW hf h2
   exact ⟨n1++n2,by rw [List.flatten_cons,e1,e2,List.map_append]⟩
theorem jC:∀ (n:Nat) (t:Tr) (c:D) (es:List D),cY ps pl n t c=some es->∃ ns:List Int,es=ns.map D.int
 | 0,_,_,_,h=>by cases h
 | n+1,t,c,es,h=>by
  have h:(if iM t=true then some (jY pl t) else match mz c with | none=>none | some x=>if x.1="pick" then j0 (cY ps pl n) t x.2 else jq (cY ps pl n) ps t x.1 x.2)=some es:=h
  by_cases hcl:iM t=true
  ·rw [if_pos hcl] at h
   cases t with
   | call k=>cases h;exact ⟨[15,pl.getD k.toNat 0 % 100,pl.getD k.toNat 0 / 100],rfl⟩
   | _=>cases hcl
  rw [if_neg hcl] at h
  cases ec:mz c with
  | none=>rw [ec] at h;cases h
  | some x =>
   rw [ec] at h
   dsimp only at h
   by_cases hp:x.1="pick"
   ·rw [if_pos hp] at h
    obtain ⟨a,b,d,ca,cb,cd,xa,xb,xd,rfl,_,la,lb,ld,rfl⟩:=i5 h
    obtain ⟨n1,e1⟩:=jC n a ca xa la
    obtain ⟨n2,e2⟩:=jC n b cb xb lb
    obtain ⟨n3,e3⟩:=jC n d cd xd ld
    rw [mn,e1,e2,e3]
    refine ⟨n1++iD 10 11 (((n2.map D.int).length:Int)+eY ((n3.map D.int).length:Int))++n2++iD 8 9 ((n3.map D.int).length:Int)++n3,?_⟩
    simp only [List.map_append]
   ·rw [if_neg hp] at h
    obtain ⟨p,g,ess,e1,e2,hl,e,rfl⟩:=i4 h
    obtain ⟨ns,en⟩:=pW (jC n) e
    unfold eZ
    rw [en]
    exact ⟨ns++(bz p).map (vO g.2.1 g.2.2),by rw [List.map_append,List.map_map];rfl⟩
theorem ko {f g:Tr->D->Option (List D)}:∀ {ts:List Tr} {cs:List D},(∀ x ∈ ts,∀ c,f x c=g x c)->e8 f ts cs=e8 g ts cs
 | [],cs,_=>rfl
 | t::ts,[],_=>rfl
 | t::ts,c::cs,h=>by
  show f t c::e8 f ts cs=g t c::e8 g ts cs
  rw [h t List.mem_cons_self c,ko λx hx=>h x (List.mem_cons_of_mem _ hx)]
theorem vZ (nh:∀ p ∈ ps,cz p.pt=true) {p1 p2:List Int}:∀ (n:Nat) (t:Tr) (c:D),okT t->cY ps p1 n t c=cY ps p2 n t c
 | 0,_,_,_=>rfl
 | n+1,t,c,ok=>by
  have ncl:¬ iM t=true:=by cases t with | call k=>exact ok.elim | _=>exact Bool.false_ne_true
  have sub:∀ x ∈ (bh t).flatMap ax,∀ c,cY ps p1 n x c=cY ps p2 n x c:=λx hx c=>vZ nh n x c (e9 t x ok (iU hx))
  show (if iM t=true then some (jY p1 t) else match mz c with | none=>none | some x=>if x.1="pick" then j0 (cY ps p1 n) t x.2 else jq (cY ps p1 n) ps t x.1 x.2)=(if iM t=true then some (jY p2 t) else match mz c with | none=>none | some x=>if x.1="pick" then j0 (cY ps p2 n) t x.2 else jq (cY ps p2 n) ps t x.1 x.2)
  rw [if_neg ncl,if_neg ncl]
  cases mz c with
  | none=>rfl
  | some x =>
   dsimp only
   split
   ·cases t with
    | pick a b d =>
     have ma:a ∈ ax a:=by cases a <;> simp [ax]
     have mb:b ∈ ax b:=by cases b <;> simp [ax]
     have md:d ∈ ax d:=by cases d <;> simp [ax]
     unfold j0
     dsimp only
     rw [ko (f:=cY ps p1 n) (g:=cY ps p2 n) (ts:=[a,b,d]) λx hx=>sub x (by
      simp only [List.mem_cons,List.not_mem_nil,or_false] at hx
      rcases hx with rfl | rfl | rfl
      ·simp [bh,ma]
      ·simp [bh,mb]
      ·simp [bh,md])]
    | _=>rfl
   ·unfold jq
    cases ef:ml x.1 ps with
    | none=>rfl
    | some p =>
     dsimp only
     cases eg:bC p.pt t with
     | none=>rfl
     | some g =>
      dsimp only
      rw [ko (f:=cY ps p1 n) (g:=cY ps p2 n) λx hx=>sub x (jz (nh p (iZ ef).1) eg x hx)]
theorem lW:∀ t:Tr,wcT [] t=t
 | .num _=>rfl
 | .arg _=>rfl
 | .call _=>rfl
 | .two o a b=>by show Tr.two o (wcT [] a) (wcT [] b)=_;rw [lW a,lW b]
 | .pick a b c=>by show Tr.pick (wcT [] a) (wcT [] b) (wcT [] c)=_;rw [lW a,lW b,lW c]
theorem zK:okPs []:=⟨λp hp=>(nomatch hp),by decide⟩
theorem zL (F:gdS ps) (ok:okT t) (dp:aE t≤8):iO ps [] t=fU ps t:=by
 unfold iO
 generalize i7 _=pl
 show iJ ps pl (wcT [] t,0)++[]=_
 rw [lW,List.append_nil]
 unfold iJ fU
 obtain ⟨es,hb,_,_⟩:=i0 F [] (ig ok) dp
 rw [hb]
 dsimp only
 rw [vZ (λp hp=>(F.hp p hp).1) (p1:=pl) (p2:=[]) 8 t _ ok]
theorem xK (F:gdS ps) (ok:okT t) (dp:aE t≤8):∃ ns:List Int,fU ps t=ns.map D.int:=by
 obtain ⟨es,hb,hl,_⟩:=i0 F [] (ig ok) dp
 obtain ⟨ns,rfl⟩:=jC 8 t _ es hl
 refine ⟨ns++[0],?_⟩
 unfold fU
 rw [hb]
 dsimp only
 rw [hl,List.map_append]
 rfl
theorem wQ (F:gdS ps) (pl:List Int):∀ {rs:List Tr} {cs:List Int},rs.length=cs.length->(∀ r ∈ rs,okX r/\aE r≤8/\aC r≤40)->((((rs.zip cs).map (iJ ps pl)).flatten.length:Nat):Int)=(rs.map λr=>(bOf ps r).1+1).sum/\((rs.zip cs).map (iJ ps pl)).flatten.length≤481 * rs.length
 | [],[],_,_=>⟨rfl,Nat.zero_le _⟩
 | [],c::cs,h,_=>by cases h
 | r::rs,[],h,_=>by cases h
 | r::rs,c::cs,h,ok=>by
  obtain ⟨k1,k2,k3⟩:=ok r List.mem_cons_self
  obtain ⟨es,_,hl,h1,h2⟩:=i0 F pl k1 k2
  obtain ⟨i1,i2⟩:=wQ F pl (rs:=rs) (cs:=cs) (by simpa using h) λx hx=>ok x (List.mem_cons_of_mem _ hx)
  have eb:iJ ps pl (r,c)=es++[.int c]:=by unfold iJ;dsimp only;rw [hl];rfl
  rw [List.zip_cons_cons,List.map_cons,List.flatten_cons,List.length_append,eb,List.length_append,List.map_cons,List.sum_cons]
  have l1:([D.int c]:List D).length=1:=rfl
  refine ⟨by omega,?_⟩
  show _≤481 * (rs.length+1)
  omega
theorem nU (F:gdS ps) (okp:okPs pa) (k1:okT t) (k2:aE t≤8) (k3:aC t≤40):((iO ps pa t).length:Int)=((dH pa t).map λr=>(bOf ps r).1+1).sum/\(iO ps pa t).length≤10000:=by
 have z:=wQ F (i7 ((dH pa t).map λr=>(bOf ps r).1)) (rs:=dH pa t) (cs:=kI pa.length) (by rw [lQ,sC]) λr hr=>by
  obtain ⟨a,b,c,_⟩:=ou okp k1 k2 k3 r hr
  exact ⟨a,b,c⟩
 have few:=okp.few
 rw [lQ] at z
 exact ⟨z.1,by unfold iO;omega⟩
noncomputable def qp (as:List Ar) (es:List D):Prop:=∃ (ps:List Pc) (pa:List Tr) (t:Tr),as=[.d (toD t),.l (ps.map pcD),.l (pa.map toD)]/\gdS ps/\okT t/\aE t≤8/\aC t≤40/\okPs pa/\(∀ p ∈ pa,p ∈ ax t)/\pa.Nodup/\es=iO ps pa t
theorem Dg (T:Txt P w K mg) (Ih:FnOk P w K mg base CX0 k T.GB T.GG ["tree"] (spD K wR)) (IW:FnOk P w K mg base CX0 k T.Hg T.Hi ["some"] (spA K j7)) (KA:FnOk P w K mg base CX0 k T.IM T.IR ["tree","some"] (gR K ku)):FnOk P w K mg base CX0 (k+1) T.LA T.LC ["tree","some"] (gR K ku):=by
 refine T.LF.ok sc_lay (λvs H Q E h=>?_) (λcdv A outer s H vs Q E hr h=>?_)
 ·obtain ⟨as,es,hd,⟨ps,t,rfl,_⟩,_⟩:=h;exact hd.length.symm
 have nd:=sc_lay.nd
 obtain ⟨as,es,hd,⟨ps,t,rfl,F,okt,dpt,szt,rfl⟩,post⟩:=h
 obtain ⟨v0,v1,rfl,h0,h1⟩:=qt hd
 have h0:Dat K H (toD t) v0:=h0
 have h1:LD K H (ps.map pcD) v1:=h1
 refine ⟨_,(aj (bE (ay Ih hr rfl T.Js T.Ho.kp (jx T) .nil aO (ag (pv 0) af)))
 (aj (bE (ay IW hr rfl T.JU T.HV.kp (kh T) .nil aO (ag (pv 1) af)))
 (au (aI (ay KA hr rfl T.KH T.JC.kp (o8 T) .nil aO (ag (pv 0) (ag (pv 1) af))))))),?_⟩
 refine jJ (RE.use (bg (R:=wR) (d:=.non) (ab (ae (K:=K) (k:=0) h0) av) ⟨toD t,rfl,mW okt dpt szt,rfl⟩) λv4 H1 s1 _=>?_)
 refine jJ (RE.use (bK (R:=j7) (d:=.non) (bS (aF (K:=K) (k:=1) (s1.ld h1)) bF) ⟨ps,rfl,F.gs,rfl⟩) λv5 H2 s2 _=>?_)
 have s12:=s1.trans s2
 exact gq (RC.use (K:=K) (cD (R:=ku) (bY (ae (k:=0) (s12.dat h0)) (bS (aF (k:=1) (s12.ld h1)) bF)) ⟨ps,t,rfl,F,okt,dpt,szt,rfl⟩) λl ys H3 hl s3 hy dy=>post l ys H3 (s12.trans s3) hy (s12.free hl) dy)
theorem tQ (T:Txt P w K mg) (Ih:FnOk P w K mg base CX0 k T.GB T.GG ["tree"] (spD K wR)) (IW:FnOk P w K mg base CX0 k T.Hg T.Hi ["some"] (spA K j7)) (JK:FnOk P w K mg base CX0 k T.GL T.GM ["parts","tree"] (spA K m4)) (JY:FnOk P w K mg base CX0 k T.Hl T.Hm ["tree","some","parts"] (gR K rW)):FnOk P w K mg base CX0 (k+1) T.IZ T.Jf ["tree","some","parts"] (gR K qp):=by
 refine T.Ji.ok sc_lay_once (λvs H Q E h=>?_) (λcdv A outer s H vs Q E hr h=>?_)
 ·obtain ⟨as,es,hd,⟨ps,pa,t,rfl,_⟩,_⟩:=h;exact hd.length.symm
 have nd:=sc_lay_once.nd
 obtain ⟨as,es,hd,⟨ps,pa,t,rfl,F,okt,dpt,szt,okp,hin,nod,rfl⟩,post⟩:=h
 obtain ⟨v0,v1,v2,rfl,h0,h1,h2⟩:=yu hd
 have h0:Dat K H (toD t) v0:=h0
 have h1:LD K H (ps.map pcD) v1:=h1
 have h2:LD K H (pa.map toD) v2:=h2
 refine ⟨_,(aj (bE (ay Ih hr rfl T.Js T.Ho.kp (jx T) .nil aO (ag (pv 0) af)))
 (aj (bE (ay IW hr rfl T.JU T.HV.kp (kh T) .nil aO (ag (pv 1) af)))
 (aj (bE (ay JK hr rfl T.JT T.HH.kp (kF T) .nil aO (ag (pv 2) (ag (pv 0) af))))
 (au (aI (ay JY hr rfl T.J6 T.Iz.kp (lY T) .nil aO (ag (pv 0) (ag (pv 1) (ag (pv 2) af))))))))),?_⟩
 refine jJ (RE.use (bg (R:=wR) (d:=.non) (ab (ae (K:=K) (k:=0) h0) av) ⟨toD t,rfl,mW okt dpt szt,rfl⟩) λv4 H1 s1 _=>?_)
 refine jJ (RE.use (bK (R:=j7) (d:=.non) (bS (aF (K:=K) (k:=1) (s1.ld h1)) bF) ⟨ps,rfl,F.gs,rfl⟩) λv5 H2 s2 _=>?_)
 have s12:=s1.trans s2
 refine jJ (RE.use (bK (R:=m4) (d:=.non) (bS (aF (K:=K) (k:=2) (s12.ld h2)) (bY (ae (k:=0) (s12.dat h0)) bF)) ⟨t,pa,rfl,okt,dpt,szt,okp,hin,nod,rfl⟩) λv6 H3 s3 _=>?_)
 have s13:=s12.trans s3
 exact gq (RC.use (K:=K) (cD (R:=rW) (bY (ae (k:=0) (s13.dat h0)) (bS (aF (k:=1) (s13.ld h1)) (bS (aF (k:=2) (s13.ld h2)) bF))) ⟨ps,pa,t,rfl,F,okt,dpt,szt,okp,rfl,(nU F okp okt dpt szt).2⟩) λl ys H4 hl s4 hy dy=>post l ys H4 (s13.trans s4) hy (s13.free hl) dy)
theorem gX:∀ t:Tr,(ax t).length=aC t
 | .num _=>rfl
 | .arg _=>rfl
 | .call _=>rfl
 | .two o a b=>by simp only [ax,aC,List.length_cons,List.length_append,gX a,gX b]
 | .pick a b c=>by simp only [ax,aC,List.length_cons,List.length_append,gX a,gX b,gX c]
noncomputable def Cm (K:PySem.W.Frag):Sp:=λvs H Q _=>∃ (a t:Addr) (ns:List Int) (X:Tr) (v2:V) (m:Nat) (p q:Int) (rest:List V),vs=[.ref a,.ref t,v2,.int m]/\Scr K H a ns/\Dat K H (toD X) v2/\okT X/\aE X≤8/\aC X≤40/\1≤m/\m≤3/\H t=some (.lst (.int p::.int q::rest))/\0≤p /\
 ∀ (pa:List Tr) (l:Addr) (ys:List V) (H':Hp) (p' q':Int),But t H H'->H' t=some (.lst (.int p'::.int q'::rest))->0≤p'->H l=none->H' l=some (.lst ys)->Dats K H' (pa.map toD) ys->(∀ x ∈ pa,x ∈ ax X)->pa.Nodup->1≤pa.length->pa.length≤3->Q (.ref l) H'
theorem uW (X:Tr) (h:aE X≤8) (hin:∀ x ∈ pa,x ∈ ax X):deepDs (pa.map toD)≤20:=Nat.le_trans (gT (n:=8) _ λx hx=>Nat.le_trans (bZ X x (hin x hx)).2 h) (by decide)
theorem nR (T:Txt P w K mg) (F0:FnOk P w K mg base CX0 k T.F4 T.F8 ["_law_script","_law_town","_law_some"] (oB K)) (JJ:FnOk P w K mg base CX0 k T.Gc T.Gf ["_law_tree_here"] (iG K (fO 8))):FnOk P w K mg base CX0 (k+1) T.GU T.GY ["_law_script","_law_town","_law_tree_here","_law_many"] (Cm K):=by
 refine T.Ia.ok sc__law_unlike (λvs H Q E h=>?_) (λcdv A outer s H vs Q E hr h=>?_)
 ·obtain ⟨a,t,ns,X,v2,m,p,q,rest,rfl,_⟩:=h;rfl
 have nd:=sc__law_unlike.nd
 obtain ⟨a,t,ns,X,v2,m,p,q,rest,rfl,hS,hX,okX,dpX,szX,m1,m3,hT,hp,post⟩:=h
 refine ⟨_,(aj (bj (i:=4) nd rfl (Or.inl rfl) (bA af))
 (aj (gA PassesOwn.never rfl (lK rfl T.Kz (ag (pv 3) af)) (aL (i:=5) nd rfl (Or.inl rfl)) (aj (bj (i:=6) nd rfl (Or.inl rfl) (ay F0 hr rfl T.Hs T.Ga.kp (gi T) .nil aO (ag (pv 0) (ag (pv 1) (ag (ay JJ hr rfl T.JR T.HF.kp (kE T) .nil aO (ag (pv 2) af)) af)))))
 (au (bq (aV (show OpR _ _ (tY K true) from pV hr) (pv 6) (pv 4) (by with_unfolding_all rfl)) (au (bE (dq PySem.F.plainAttrs_list PySem.F.slot_list_append PySem.F.type_list_append bQ (pv 4) (ag (pv 6) af)))) aR))))
 (au (aI (pv 4))))),?_⟩
 refine cZ ⟨cm (by decide),λl hl=>?_⟩
 have nl:l≠t:=λz=>by rw [z,hT] at hl;cases hl
 refine cJ ⟨_,rfl,(m:Int),rfl,by omega,by omega,?_⟩
 rw [Int.toNat_natCast]
 refine xo (n:=m) (λi σ G=>∃ (z5 z6:Option V) (pa:List Tr) (ys:List V) (p' q':Int),σ=[some (.ref a),some (.ref t),some v2,some (.int m),some (.ref l),z5,z6]/\But t H G/\G t=some (.lst (.int p'::.int q'::rest))/\0≤p'/\G l=some (.lst ys)/\Dats K G (pa.map toD) ys/\(∀ x ∈ pa,x ∈ ax X)/\pa.Nodup/\(0 < i->1≤pa.length)/\pa.length≤i) ?_ ?_ ?_
 ·exact ⟨none,none,[],[],p,q,rfl,(aG hl _).but,(by rw [aJ (Ne.symm nl)];exact hT),hp,aq,Dats.nil,(λx hx=>(nomatch hx)),List.nodup_nil,(λh=>absurd h (by decide)),Nat.le_refl _⟩
 ·rintro i σ G hi ⟨z5,z6,pa,ys,p',q',rfl,bG,tG,gp,hlG,dG,hin,nod,hpos,hle⟩
  refine jc ?_
  dsimp only
  have hXG:Dat K G (toD X) v2:=Dat.mono (bG.grow hT tG) _ hX
  refine cZ (eF ⟨_,rfl,_,rfl,cQ (RC.use (K:=K) (i8 (R:=fO 8) (ab (ae (k:=2) hXG) av) ⟨X,rfl,ig okX,dpX,by omega,rfl⟩) λlw xs G1 hlw s1 hxs dxs=>?_)⟩)
  have nlw:lw≠t:=λz=>by rw [z,tG] at hlw;cases hlw
  have nll:lw≠l:=λz=>by rw [z,hlG] at hlw;cases hlw
  have lx:=dxs.length
  rw [List.length_map,gX] at lx
  have sz1:1≤aC X:=by cases X <;> simp [aC]
  refine ⟨a,t,lw,ns,xs,p',q',rest,rfl,(hS.but bG hT).same s1,SqL.of hxs,nlw,by omega,by omega,s1 _ _ tG,gp,λj x G2 p2 q2 b2 t2 g2 hx=>?_⟩
  obtain ⟨d,ed,hd⟩:=dxs.getV hx
  rw [List.getElem?_map] at ed
  cases hr:(ax X)[j]? with
  | none=>rw [hr] at ed;cases ed
  | some y =>
   rw [hr] at ed
   cases ed
   have b12:=s1.but.trans b2
   have gg:cW K G G2:=b12.grow tG t2
   have hy2:Dat K G2 (toD y) x:=Dat.mono (b2.grow (s1 _ _ tG) t2) _ hd
   have hl2:=b2 _ _ nl (s1 _ _ hlG)
   have d2:=Dats.mono gg _ dG
   refine js (b:=!dP pa y) (RT.as (aD (iF (K:=K) (neg:=true) (ae (k:=6) hy2) (aF (k:=4) (LD.of hl2 d2)) (dE pa) (bN y) (uW X dpX hin))) rfl) (λe G3 s3=>?_) (λe G3 s3=>jO ?_)
   ·have ny:y ∉ pa:=λh=>by rw [mem_iff.mpr h] at e;cases e
    have hl3:=s3 _ _ hl2
    refine mU (K:=K) (ae (k:=6) (s3.dat hy2)) hl3 (by rw [← d2.length,List.length_map];omega) λz G4 b4 hl4 q4=>?_
    have g4:cW K G3 G4:=b4.grow hl3 hl4
    refine ⟨_,_,pa++[y],ys++[z],p2,q2,rfl,λu o hu ho=>?_,b4 _ _ (Ne.symm nl) (s3 _ _ t2),g2,hl4,?_,?_,?_,?_,?_⟩
    ·exact b4 u o (az ho hl) (s3 _ _ (b12 u o hu (bG u o hu ho)))
    ·rw [List.map_append];exact Dats.append (Dats.mono g4 _ (s3.dats d2)) (Dats.cons q4 Dats.nil)
    ·intro u hu
     rcases List.mem_append.mp hu with hu | hu
     ·exact hin u hu
     ·rw [List.mem_singleton.mp hu];exact List.mem_of_getElem? hr
    ·rw [List.nodup_append]
     refine ⟨nod,by simp,λu hu w hw e=>ny ?_⟩
     rw [← List.mem_singleton.mp hw,← e];exact hu
    ·intro _;rw [List.length_append];exact Nat.le_add_left _ _
    ·rw [List.length_append,List.length_singleton];omega
   ·have hy:y ∈ pa:=mem_iff.mp (by cases h:dP pa y with | true=>rfl | false=>rw [h] at e;cases e)
    refine ⟨_,_,pa,ys,p2,q2,rfl,bG.trans (b12.trans s3.but),s3 _ _ t2,g2,s3 _ _ hl2,s3.dats d2,hin,nod,λ_=>List.length_pos_of_mem hy,by omega⟩
 ·rintro σ G ⟨z5,z6,pa,ys,p',q',rfl,bG,tG,gp,hlG,dG,hin,nod,hpos,hle⟩
  dsimp only
  exact ⟨_,rfl,post pa l ys G p' q' bG tG gp hl hlG dG hin nod (hpos m1) (by omega)⟩
noncomputable def ug (K:PySem.W.Frag):Sp:=λvs H Q _=>∃ (a:Addr) (ns:List Int),vs=[.ref a]/\Scr K H a ns/\∀ H',Q (.bl true) H'
theorem wj (k1:okT t) (k2:aE t≤8) (k3:aC t≤40) (h:∀ x ∈ pa,x ∈ ax t) (l:pa.length≤6):okPs pa:=⟨λx hx=>by
 have:=bZ t x (h x hx)
 exact ⟨e9 t x k1 (h x hx),by omega,by omega⟩,l⟩
noncomputable abbrev oth (pa:List Tr) (p:Tr):List Tr:=pa.filter λx=>!eqD (toD x) (toD p)
theorem Be {p:Tr} (h:x≠p):dP pa x=dP (oth pa p) x:=by
 cases h1:dP pa x with
 | true =>
  refine (mem_iff.mpr (List.mem_filter.mpr ⟨mem_iff.mp h1,?_⟩)).symm
  cases hq:eqD (toD x) (toD p) with
  | false=>rfl
  | true=>exact absurd (jV _ _ hq) h
 | false =>
  cases h2:dP (oth pa p) x with
  | false=>rfl
  | true=>rw [mem_iff.mpr (List.mem_filter.mp (mem_iff.mp h2)).1] at h1;cases h1
theorem AR (F:gdS ps) {p:Tr} (ok:okT p) (dp:aE p≤8):clL ps (oth pa p) p true=(bOf ps (wwT pa p)).1:=by
 unfold clL
 rw [if_pos rfl]
 unfold bOf
 rw [AO (λq hq=>(F.hp q hq).1) (c1:=oth pa p) (c2:=pa) 8 p dp ok λx _ hx=>(Be hx).symm]
theorem yV (pa:List Tr) (p:Tr):(pa.map toD).filter (λd=>!eqD d (toD p))=(oth pa p).map toD:=by
 unfold oth
 rw [List.filter_map]
 rfl
theorem BI (h1:RE K ta σ H d) (h2:RE K tb σ H e) (n1:noL d=true) (n2:noL e=true) (dp:eU d≤20):RE K (tOp (Bx K true) ta tb) σ H (.bl (!eqD d e)):=λH1 s Q q =>
 h1 H1 s _ λv H2 s2 q2=>h2 H2 (s.trans s2) _ λw H3 s3 q3=>⟨d,e,s3.dat q2,q3,n1,n2,dp,q _ _ (s2.trans s3) (Dat.blI _)⟩
theorem BE (h1:RL K ta σ H ds) (h2:RL K tb σ H es) (n1:noLs ds=true) (n2:noLs es=true) (dp:deepDs ds≤20):RE K (tOp (Eh K false) ta tb) σ H (.bl (eqDs ds es)):=λH1 s Q q =>
 h1 H1 s _ λv H2 s2 q2=>h2 H2 (s.trans s2) _ λw H3 s3 q3=>by
  obtain ⟨a,xs,rfl,ha,da⟩:=s3.ld q2
  obtain ⟨b,ys,rfl,hb,db⟩:=q3
  exact ⟨a,b,xs,ys,ds,es,rfl,rfl,ha.sqL,hb.sqL,da,db,n1,n2,dp,q _ _ (s2.trans s3) (Dat.blI _)⟩
theorem xX (ps:List Pc) (pa l:List Tr) (p:Tr):((l++[p]).map λp=>(bOf ps (wwT pa p)).1+1).sum=(l.map λp=>(bOf ps (wwT pa p)).1+1).sum+((bOf ps (wwT pa p)).1+1):=by
 rw [List.map_append,List.sum_append]
 simp
noncomputable def Ap (ps:List Pc) (pa:List Tr) (l:List Tr):Int:=(l.map λp=>(bOf ps (wwT pa p)).1+1).sum
theorem Df (T:Txt P w K mg) (FI:FnOk P w K mg base CX0 k T.F1 T.F7 ["_law_script","_law_town","_law_many"] (oA K)) (KY:FnOk P w K mg base CX0 k T.Gx T.GC ["_law_script","_law_town"] (Am K)) (LI:FnOk P w K mg base CX0 k T.IX T.Jd ["_law_script","_law_town"] (Ck K)) (Ld:FnOk P w K mg base CX0 k T.GU T.GY ["_law_script","_law_town","_law_tree_here","_law_many"] (Cm K)) (FL:FnOk P w K mg base CX0 k T.FO T.FQ ["_law_tree_here","_law_some","_law_calls","_law_top"] (spA K (eG 8))) (Mc:FnOk P w K mg base CX0 k T.LA T.LC ["tree","some"] (gR K ku)) (K0:FnOk P w K mg base CX0 k T.IZ T.Jf ["tree","some","parts"] (gR K qp)) (Mh:FnOk P w K mg base CX0 k T.K1 T.K4 ["tree","some","part"] (spA K ym)):FnOk P w K mg base CX0 (k+1) T.Lz T.LO ["_law_script"] (ug K):=by
 refine T.Md.ok sc_law (λvs H Q E h=>?_) (λcdv A outer s H vs Q E hr h=>?_)
 ·obtain ⟨a,ns,rfl,_⟩:=h;rfl
 have nd:=sc_law.nd
 obtain ⟨a,ns,rfl,hS,post⟩:=h
 refine ⟨_,(aj (bj (i:=1) nd rfl (Or.inl rfl) (bA (ag ak (ag ak (ag ak af)))))
 (aj (uZ (i:=2) (j:=3) rfl nd rfl rfl (by decide) rfl rfl (ag (ay KY hr rfl T.J3 T.HD.kp (m8 T) .nil aO (ag (pv 0) (ag (pv 1) af))) (ag (ay LI hr rfl T.K6 T.JN.kp (ux T) .nil aO (ag (pv 0) (ag (pv 1) af))) af)) (by kernel_rfl))
 (aj (bj (i:=4) nd rfl (Or.inl rfl) (ay Ld hr rfl T.Ki T.Ia.kp (oK T) .nil aO (ag (pv 0) (ag (pv 1) (ag (pv 2) (ag (bu cM ak (ay FI hr rfl T.GJ T.FJ.kp (fu T) .nil aO (ag (pv 0) (ag (pv 1) (ag ak af))))) af))))))
 (aj (bj (i:=5) nd rfl (Or.inl rfl) (bu cM (ay FL hr rfl T.FT T.Fn.kp (dR T) .nil aO (ag (pv 2) (ag (pv 3) (ag (pv 4) (ag cu af))))) ak))
 (aj (gA PassesOwn.never rfl (di (pv 4)) (aL (i:=6) nd rfl (Or.inr rfl)) (aj (fm (i:=7) (own:=["_law_one"]) (fr:=[6]) (N':=["_law_one","_law_part"]) (di (pv 4)) rfl (by show cj ["_law_script","_law_town","_law_tree_here","_law_some","_law_parts_here","_law_due","_law_part","_law_others","_law_alone"] (λx=>(aA uf).names.lookup x) _ _ _ _=true;decide +kernel) rfl (λ_ _ _ _ _=>(aL (i:=0) (by show List.Nodup [("_law_one":Str),("_law_part":Str)];decide +kernel) rfl (Or.inl rfl))) (λ_ _ _ _ _=>(nY (aV (show OpR _ _ (Bx K true) from Dj hr) (pv 0) (pv 1) (aY _)))) (λ_ _ _ _ _=>(pv 0)) nd rfl rfl rfl)
 (au (rn (i:=5) nd rfl (Or.inl rfl) (bu cM (ay FL hr rfl T.FT T.Fn.kp (dR T) .nil aO (ag (pv 6) (ag (pv 3) (ag (pv 7) (ag cu af))))) ak) nC))))
 (aj (bq (aV nV (aT aU rfl T.Fq bP (ag (ay K0 hr rfl T.Kp T.Ji.kp (ng T) .nil aO (ag (pv 2) (ag (pv 3) (ag (pv 4) af)))) af)) (pv 5) (aY _)) (au (aI cu)) aR)
 (aj (bj (i:=6) nd rfl (Or.inr rfl) (aN bM (pv 4) ak (λ_ _=>rfl)))
 (aj (bj (i:=8) nd rfl (Or.inl rfl) (bu cM (bu cM (ay FL hr rfl T.FT T.Fn.kp (dR T) .nil aO (ag (pv 2) (ag (pv 3) (ag (bA (ag (pv 6) af)) (ag cu af))))) (ay FL hr rfl T.FT T.Fn.kp (dR T) .nil aO (ag (pv 6) (ag (pv 3) (ag (bA (ag (pv 6) af)) (ag cu af)))))) ak))
 (aj (bq (aV nV (ay Mh hr rfl T.LW T.Lp.kp (CI T) .nil aO (ag (pv 2) (ag (pv 3) (ag (pv 6) af)))) (bu rh (aT aU rfl T.Fq bP (ag (ay Mc hr rfl T.LX T.LF.kp (B2 T) .nil aO (ag (pv 2) (ag (pv 3) af))) af)) (pv 8)) (aY _)) (au (aI cu)) aR)
 (au (aI (cA (uU hr) (ay K0 hr rfl T.Kp T.Ji.kp (ng T) .nil aO (ag (pv 2) (ag (pv 3) (ag (bA af) af)))) (ay Mc hr rfl T.LX T.LF.kp (B2 T) .nil aO (ag (pv 2) (ag (pv 3) af))) (aY _))))))))))))),?_⟩
 refine cZ ⟨cm (by decide),λt ht=>?_⟩
 have hS0:=hS.same (aG ht (.lst [.int 0,.int 0,.int 3]))
 refine cJ (cQ (eF ?_))
 refine ⟨_,rfl,_,rfl,a,t,ns,0,0,3,rfl,hS0,aq,by decide,by decide,by decide,λv2 H1 X p1 q1 c1 b1 t1 g1 gc1 gd1 okX dpX szX dX=>cQ (eF ?_)⟩
 refine ⟨_,rfl,_,rfl,a,t,ns,p1,q1,[.int c1],rfl,hS0.but b1 aq,t1,g1,λsub l3 y3 H2 p2 q2 b2 t2 g2 hsub hl3 hy3 d3=>⟨v2,.ref l3,rfl,?_⟩⟩
 dsimp only
 have F:=A4 hsub
 have h2:Dat K H2 (toD X) v2:=Dat.mono (b2.grow t1 t2) _ dX
 have h3:LD K H2 ((BP++sub).map pcD) (.ref l3):=LD.of hy3 d3
 generalize BP++sub=ps at F h3 d3
 have hS2:=(hS0.but b1 aq).but b2 t1
 have n3:l3≠t:=Ne.symm (az t1 hl3)
 refine cZ (eF ⟨_,rfl,_,rfl,_,rfl,?_⟩)
 refine ⟨_,rfl,_,rfl,a,t,ns,3,p2,q2,[.int c1],rfl,hS2,t2,g2,by decide,by decide,λr3 H3 p3 q3 b3 t3 g3 r3a r3b=>?_⟩
 refine ⟨_,_,rfl,rfl,?_⟩
 have g23:cW K H2 H3:=b3.grow t2 t3
 have h2:=Dat.mono g23 _ h2
 have em:(1:Int)+r3=((1+r3.toNat:Nat):Int):=by omega
 refine ⟨a,t,ns,X,v2,1+r3.toNat,p3,q3,[.int c1],(show [V.ref a,V.ref t,v2,V.int (1+r3)]=_ by rw [em]),hS2.but b3 t2,h2,okX,dpX,szX,by omega,by omega,t3,g3,λpa l4 y4 H4 p4 q4 b4 t4 g4 hl4 hy4 d4 hin nod lp1 lp3=>?_⟩
 have g34:cW K H3 H4:=b4.grow t3 t4
 have h2:=Dat.mono g34 _ h2
 have hl34:=b4 _ _ n3 (b3 _ _ n3 hy3)
 have h3:LD K H4 (ps.map pcD) (.ref l3):=LD.of hl34 (Dats.mono g34 _ (Dats.mono g23 _ d3))
 have h4:LD K H4 (pa.map toD) (.ref l4):=LD.of hy4 d4
 have okp:=wj okX dpX szX hin (by omega)
 obtain ⟨os,_⟩:=nU F okp okX dpX szX
 dsimp only
 refine dt (K:=K) (d:=.int (clL ps pa X false+1)) (dC (bK (R:=eG 8) (bY (ae (k:=2) h2) (bS (aF (k:=3) h3) (bS (aF (k:=4) h4) (bY cg bF)))) ⟨ps,pa,X,false,rfl,F,okp,okX,dpX,by decide,rfl⟩) ao) λv5 H5 s5 q5=>?_
 have e5:=q5.intE
 subst e5
 have h2:=s5.dat h2
 have h3:=s5.ld h3
 have h4:=s5.ld h4
 have ly4:=d4.length
 rw [List.length_map] at ly4
 refine cJ ⟨_,rfl,l4,rfl,⟨y4,SqL.of (s5 _ _ hy4)⟩,jA (K:=K) (xs:=y4) (λi σ G=>∃ (z6 z7 z8:Option V),σ=[some (.ref a),some (.ref t),some v2,some (.ref l3),some (.ref l4),some (.int (clL ps pa X false+1+Ap ps pa (pa.take i))),z6,z7,z8]/\Same H5 G) ?_ (λi σ G _ zq=>by obtain ⟨_,_,_,_,p1⟩:=zq;exact SqL.of (p1 _ _ (s5 _ _ hy4))) ?_ ?_⟩
 ·exact ⟨none,none,none,by rw [List.take_zero,show Ap ps pa []=0 from rfl,Int.add_zero];rfl,Same.refl _⟩
 ·rintro i x σ G hx ⟨z6,z7,z8,rfl,sG⟩
  obtain ⟨d,ed,hd⟩:=((s5.trans sG).dats d4).getV hx
  rw [List.getElem?_map] at ed
  cases hr:pa[i]? with
  | none=>rw [hr] at ed;cases ed
  | some p =>
   rw [hr] at ed
   cases ed
   obtain ⟨k1,k2,k3⟩:=okp.ok p (List.mem_of_getElem? hr)
   refine jc ?_
   dsimp only
   have s4G:=s5.trans sG
   have h3G:=sG.ld h3
   refine eI (K:=K) (RC.as (wz (aF (k:=4) (sG.ld h4)) (by rw [List.length_map];omega) (λd=>!eqD d (toD p)) rfl (λG1 j c v s hc hv=>?_)) (yV pa p)) λlo yo G2 hlo s2 hyo dyo=>?_
   ·rw [List.getElem?_map] at hc
    cases hy:pa[j]? with
    | none=>rw [hy] at hc;cases hc
    | some y =>
     rw [hy] at hc
     cases hc
     obtain ⟨j1,j2,j3⟩:=okp.ok y (List.mem_of_getElem? hy)
     exact ⟨aD (BI (ae (k:=0) hv) (ae (k:=1) (s.dat hd)) (bN y) (bN p) (by rw [gv];omega)),ae (k:=0) hv⟩
   have oko:okPs (oth pa p):=wj okX dpX szX (λx hx=>hin x (List.mem_filter.mp hx).1) (by have:=List.length_filter_le (λx=>!eqD (toD x) (toD p)) pa;show (List.filter _ pa).length≤6;omega)
   refine ⟨_,rfl,RE.use (K:=K) (dC (bK (R:=eG 8) (bY (ae (k:=6) (s2.dat hd)) (bS (aF (k:=3) (s2.ld h3G)) (bS (aF (k:=7) (LD.of hyo dyo)) (bY cg bF)))) ⟨ps,oth pa p,p,true,rfl,F,oko,k1,k2,by decide,rfl⟩) ao) λv7 G3 s3' q7=>⟨_,_,rfl,q7.intE,?_⟩⟩
   refine ⟨some x,some (.ref lo),z8,?_,sG.trans (s2.trans s3')⟩
   have e:Ap ps pa (pa.take (i+1))=Ap ps pa (pa.take i)+(clL ps (oth pa p) p true+1):=by
    rw [List.take_add_one,hr,AR F k1 k2]
    exact xX ps pa (pa.take i) p
   rw [e,← Int.add_assoc]
   rfl
 ·rintro σ G ⟨z6,z7,z8,rfl,sG⟩
  dsimp only
  rw [List.take_of_length_le (by omega)]
  have h2:=sG.dat h2
  have h3:=sG.ld h3
  have h4:=sG.ld h4
  have eo:((iO ps pa X).length:Int)=clL ps pa X false+1+Ap ps pa pa:=by
   rw [os]
   unfold dH
   rw [List.map_cons,List.sum_cons,List.map_map]
   rfl
  refine aK (K:=K) (b:=false) (RT.as (aD (lO (fY (dI (cD (R:=qp) (bY (ae (k:=2) h2) (bS (aF (k:=3) h3) (bS (aF (k:=4) h4) bF))) ⟨ps,pa,X,rfl,F,okX,dpX,szX,okp,hin,nod,rfl⟩))) (ae (k:=5) (Dat.intI _)))) (by rw [decide_eq_true eo];rfl)) (λc=>nomatch c) (λ_ G2 s6=>?_)
  have h2:=s6.dat h2
  have h3:=s6.ld h3
  have h4:=s6.ld h4
  ·have hp0e:pa[0]?=some (pa[0]'(by omega)):=List.getElem?_eq_getElem (by omega)
   generalize pa[0]'(by omega)=p0 at hp0e
   have hp0:=hin p0 (List.mem_of_getElem? hp0e)
   refine dt (K:=K) (d:=toD p0) (fH (k:=0) (aF (k:=4) h4) ao (by rw [List.getElem?_map,hp0e];rfl)) λv6 G3 s7 q6=>?_
   have h2:=s7.dat h2
   have h3:=s7.ld h3
   have ok1:=tJ okX dpX szX hp0
   obtain ⟨k1,k2,k3⟩:=ok1.ok p0 List.mem_cons_self
   refine dt (K:=K) (d:=.int (clL ps [p0] X false+clL ps [p0] p0 true+2)) (dC (dC (bK (R:=eG 8) (bY (ae (k:=2) h2) (bS (aF (k:=3) h3) (bS (dI (dW (ab (ae (k:=6) q6) av))) (bY cg bF)))) ⟨ps,[p0],X,false,rfl,F,ok1,okX,dpX,by decide,rfl⟩) (bK (R:=eG 8) (bY (ae (k:=6) q6) (bS (aF (k:=3) h3) (bS (dI (dW (ab (ae (k:=6) q6) av))) (bY cg bF)))) ⟨ps,[p0],p0,true,rfl,F,ok1,k1,k2,by decide,rfl⟩)) ao) λv8 G4 s8 q8=>?_
   have h2:=s8.dat h2
   have h3:=s8.ld h3
   have q6:=s8.dat q6
   have eg:vS ps X p0=((fU ps X).length:Int) - (clL ps [p0] X false+clL ps [p0] p0 true+2):=by
    unfold vS
    have z:=(nU F ok1 okX dpX szX).1
    have z:((iO ps [p0] X).length:Int)=(clL ps [p0] X false+1)+((clL ps [p0] p0 true+1)+0):=z
    omega
   refine aK (K:=K) (b:=false) (RT.as (aD (lO (bK (R:=ym) (bY (ae (k:=2) h2) (bS (aF (k:=3) h3) (bY (ae (k:=6) q6) bF))) ⟨ps,X,p0,rfl,F,okX,dpX,szX,hp0,rfl⟩) (vi (fY (dI (cD (R:=ku) (bY (ae (k:=2) h2) (bS (aF (k:=3) h3) bF)) ⟨ps,X,rfl,F,okX,dpX,szX,rfl⟩))) (ae (k:=8) q8)))) (by rw [decide_eq_true eg];rfl)) (λc=>nomatch c) (λ_ G5 s9=>?_)
   have h2:=s9.dat h2
   have h3:=s9.ld h3
   obtain ⟨nn,en⟩:=xK F okX dpX
   have nl:noLs (fU ps X)=true:=by rw [en];exact lF _
   refine aW (K:=K) (d:=.bl true) (RE.as (BE (ds:=fU ps X) (es:=fU ps X) (dI (RC.as (cD (R:=qp) (bY (ae (k:=2) h2) (bS (aF (k:=3) h3) (bS (dI (dW av)) bF))) ⟨ps,[],X,rfl,F,okX,dpX,szX,zK,(λp hp=>(nomatch hp)),List.nodup_nil,rfl⟩) (zL F okX dpX))) (dI (cD (R:=ku) (bY (ae (k:=2) h2) (bS (aF (k:=3) h3) bF)) ⟨ps,X,rfl,F,okX,dpX,szX,rfl⟩)) nl nl (by rw [en,jy];decide)) ?_) λv H' s q=>?_
   ·have z:=eV (.tup (fU ps X)) (by simpa [noL] using nl)
    exact congrArg D.bl (by simpa [eqD] using z)
   ·have:=q.blE
    subst this
    exact post _
end
end My
end
namespace My
open PySem L2 PyProof.Rows
section
variable {P:Program} {w:World} {K:PySem.W.Frag} {mg:Str->Option Value} {base:Heap} {k:Nat}
theorem zI (vs:List V) (H:Hp) (Q:VK) (E:XK):¬ lV K 0 vs H Q E:=λzq=>by obtain ⟨a,t,ns,room,p,q,c,_,_,_,_,_,_,_,h,_⟩:=zq;omega
theorem xC (vs:List V) (H:Hp) (Q:VK) (E:XK):¬ iG K (jv 0) vs H Q E:=λ⟨ds,es,_,⟨x,k,_,_,h,_⟩,_⟩=>nomatch h
theorem zH (vs:List V) (H:Hp) (Q:VK) (E:XK):¬ spD K (B1 0) vs H Q E:=λ⟨ds,es,_,h,_⟩=>h
theorem pQ (vs:List V) (H:Hp) (Q:VK) (E:XK):¬ iG K (fO 0) vs H Q E:=λzq=>by obtain ⟨ds,es,_,⟨t,_,_,h,_⟩,_⟩:=zq;have:=cX t;omega
theorem zG (vs:List V) (H:Hp) (Q:VK) (E:XK):¬ gR K (iH 0) vs H Q E:=λzq=>by obtain ⟨as,es,_,⟨ps,pl,t,c,_,_,_,_,h,_⟩,_⟩:=zq;have:=cX t;omega
theorem De (vs:List V) (H:Hp) (Q:VK) (E:XK):¬ spA K (Rwc 0) vs H Q E:=λ⟨as,d,_,h,_⟩=>BX as d h
theorem Bh (vs:List V) (H:Hp) (Q:VK) (E:XK):¬ spA K (rV 0) vs H Q E:=λzq=>by
 obtain ⟨as,d,_,⟨c,p,t,top,f,_,_,_,h,_⟩,_⟩:=zq
 have:1≤cn p:=by cases p <;> simp [cn]
 omega
theorem uL (vs:List V) (H:Hp) (Q:VK) (E:XK):¬ spA K (eG 0) vs H Q E:=λzq=>by obtain ⟨as,d,_,⟨ps,c,t,top,_,_,_,_,h,_⟩,_⟩:=zq;have:=cX t;omega
theorem chain (T:Txt P w K mg):FnOk P w K mg base CX0 30 T.Lz T.LO ["_law_script"] (ug K):=by
 have w1:=tP (P:=P) (w:=w) (base:=base) (k:=0) T
 have g1:=qX (P:=P) (w:=w) (base:=base) (k:=0) T
 have n2:=uQ (k:=1) T g1 w1
 have wi:=mH (P:=P) (w:=w) (base:=base) (k:=0) T
 have it:=uR (k:=2) T n2 (wi.mono (by decide))
 have nt:=rb (k:=3) T it
 have wk:∀ n:Nat,FnOk P w K mg base CX0 (n+1) T.Io T.Iw ["tree"] (iG K (fO n)):=by
  intro n
  induction n with
  | zero=>exact eB pQ
  | succ n ih=>exact xG (k:=n+1) T (wi.mono (by omega)) ih
 have nm:=uP (P:=P) (w:=w) (base:=base) (k:=0) T
 have mk:=uO (k:=1) T g1 w1
 have pp:∀ n:Nat,FnOk P w K mg base CX0 (n+3) T.Ff T.Fh ["thing","deep"] (spD K (Rpp n)):=by
  intro n
  induction n with
  | zero=>exact hE (k:=2) (n:=0) T mk n2 (wi.mono (by decide)) (eB zH)
  | succ n ih=>exact hE (k:=n+3) (n:=n+1) T (mk.mono (by omega)) (n2.mono (by omega)) (wi.mono (by omega)) ih
 have ma:∀ n:Nat,FnOk P w K mg base CX0 (n+1) T.GA T.GF ["pattern","kind"] (iG K (jv n)):=by
  intro n
  induction n with
  | zero=>exact eB xC
  | succ n ih=>exact tR (k:=n+1) T (wi.mono (by omega)) ih
 have nu:=nT (k:=4) T (ma 3)
 have pa:=oU (k:=6) T (pp 3) (nu.mono (by decide))
 have fi:=oT (k:=4) T (g1.mono (by decide)) (ma 3) (w1.mono (by decide))
 have ce:=uN (k:=5) T (w1.mono (by decide)) fi
 have ins:=kP (P:=P) (w:=w) (base:=base) (k:=0) T
 have ai:=jX (k:=6) T (w1.mono (by decide)) (ins.mono (by decide)) ce
 have pc:=tO (k:=7) T (nm.mono (by decide)) pa ai
 have ms:=lI (P:=P) (w:=w) (base:=base) (k:=0) T
 have mt:∀ n:Nat,FnOk P w K mg base CX0 (n+1) T.HP T.HR ["pattern","tree","found"] (j6 K oD n):=by
  intro n
  induction n with
  | zero=>exact eB wd
  | succ n ih=>exact uS (k:=n+1) T (ms.mono (by omega)) ih
 have fo:=tN (k:=4) T (mt 3)
 have jo:=qY (P:=P) (w:=w) (base:=base) (k:=0) T
 have jp:=lH (k:=1) T jo
 have wo:=uT (k:=5) T fo
 have lb:=ra (k:=2) T jp
 have bw:=mG (k:=6) T wo (lb.mono (by decide))
 have bc:=lG (k:=9) T (wk 8) (bw.mono (by decide))
 have st:=xF (k:=9) T (pc.mono (by decide))
 have ns:=tS (k:=10) T st
 have fc:=nS (P:=P) (w:=w) (base:=base) (k:=0) T
 have lc:∀ n:Nat,FnOk P w K mg base CX0 (2 * n+6) T.Fv T.Fw ["tree","some","cover","places"] (gR K (iH n)):=by
  intro n
  induction n with
  | zero=>exact eB zG
  | succ n ih =>
   have pk:=qZ (k:=2 * n+6) T ih (jp.mono (by omega))
   have pp:=oW (k:=2 * n+6) T ih (fo.mono (by omega)) (fc.mono (by omega))
   exact oV (k:=2 * n+7) T pk pp
 have wc:∀ n:Nat,FnOk P w K mg base CX0 (2 * n+2) T.Ge T.Gh ["tree","parts"] (spA K (Rwc n)):=by
  intro n
  induction n with
  | zero=>exact eB De
  | succ n ih =>
   have ww:=gm (k:=2 * n+2) T (wi.mono (by omega)) ih
   exact oY (k:=2 * n+3) T ww
 have ww:=gm (k:=20) T (wi.mono (by decide)) ((wc 7).mono (by decide))
 have ap:=qV (k:=10) T (it.mono (by decide)) ((wk 8).mono (by decide))
 have npa:=oX (k:=11) T ap
 have co:=uM (k:=22) T (bc.mono (by decide)) (lc 8)
 have on:=qW (k:=22) T ((wc 8).mono (by decide)) (ww.mono (by decide)) (bc.mono (by decide)) (lc 8)
 have ga:=Bl (k:=23) T (nt.mono (by decide)) (ns.mono (by decide)) (npa.mono (by decide)) co on
 have ly:=Dg (k:=23) T (nt.mono (by decide)) (ns.mono (by decide)) co
 have lo1:=tQ (k:=23) T (nt.mono (by decide)) (ns.mono (by decide)) (npa.mono (by decide)) on
 have lf:∀ n:Nat,FnOk P w K mg base CX0 n T.Hf T.Hh ["_law_pattern","_law_tree_here","_law_found"] (j6 K oL n):=by
  intro n
  induction n with
  | zero=>exact eB wd
  | succ n ih=>exact tL (k:=n) T ih
 have ov:=qS (P:=P) (w:=w) (base:=base) (k:=0) T
 have hi:∀ n:Nat,FnOk P w K mg base CX0 (n+1) T.FP T.FR ["_law_pattern","_law_tree_here","_law_calls","_law_top"] (spA K (rV n)):=by
  intro n
  induction n with
  | zero=>exact eB Bh
  | succ n ih=>exact nP (k:=n+1) T ih
 have cd:∀ n:Nat,FnOk P w K mg base CX0 (n+5) T.FO T.FQ ["_law_tree_here","_law_some","_law_calls","_law_top"] (spA K (eG n)):=by
  intro n
  induction n with
  | zero=>exact eB uL
  | succ n ih=>exact nO (k:=n+5) T ih (ov.mono (by omega)) ((lf 3).mono (by omega)) ((hi 3).mono (by omega))
 have lp:=nQ (P:=P) (w:=w) (base:=base) (k:=0) T
 have dr:=qR (P:=P) (w:=w) (base:=base) (k:=0) T
 have pk:=qT (k:=1) T dr
 have tr:∀ n:Nat,FnOk P w K mg base CX0 (n+2) T.F6 T.F9 ["_law_script","_law_town","_law_room"] (lV K n):=by
  intro n
  induction n with
  | zero=>exact eB zI
  | succ n ih=>exact qU (k:=n+2) T (dr.mono (by omega)) (pk.mono (by omega)) ih
 have ls:=tM (k:=1) T (lp.mono (by decide)) (dr.mono (by decide))
 have he:=oR (k:=6) T (pk.mono (by decide)) (tr 4)
 have db:=mF (k:=7) T (pk.mono (by decide)) ((tr 4).mono (by decide)) he
 have lpa:∀ n:Nat,FnOk P w K mg base CX0 (n+1) T.Gc T.Gf ["_law_tree_here"] (iG K (fO n)):=by
  intro n
  induction n with
  | zero=>exact eB pQ
  | succ n ih=>exact oS (k:=n+1) T ih
 have un:=nR (k:=9) T (pk.mono (by decide)) (lpa 8)
 exact Df (k:=29) T (dr.mono (by decide)) (db.mono (by decide)) (ls.mono (by decide)) (un.mono (by decide)) ((cd 8).mono (by decide)) (ly.mono (by decide)) (lo1.mono (by decide)) (ga.mono (by decide))
end
noncomputable abbrev NsD (K:PySem.W.Frag) (n:Str) (f:Addr):Prop:=PySem.W.nsIn K mainGlobals n=some (some (.ref f))
noncomputable abbrev LkD (K:PySem.W.Frag) (n:Str) (st:Stmt) (f:Addr) (oc:Value) (od:Option Addr) (sl:Array (Option Value)) (kV dc pm:Value) (an:Option Addr) (cd ct:Value):Prop:=K.lookup f=some ⟨oc,od,.func (PySem.W.fnOf n n (kJ st) (jL st) (aA st) .none kV dc pm an cd ct),sl⟩
variable {l:PySem.W.OpenLaw}
theorem all_mk {w:World} {K:PySem.W.Frag} {h:Heap} {mg:Str->Option Value} {fa:Addr} (X:K.In h) (G:h.Ns mainGlobals mg) (hfa:mg "law"=some (.ref fa)) {f1 f2 f3 f4 f5 f6 f7 f8 f9 f10 f11 f12 f13 f14 f15 f16 f17 f18 f19 f20 f21 f22 f23 f24 f25 f26 f27 f28 f29 f30 f31 f32 f33 f34 f35 f36 f37 f38 f39 f40 f41 f42 f43 f44 f45 f46 f47 f48 f49 f50 f51 f52 f53 f54 f55 f56:Addr} {od1 od2 od3 od4 od5 od6 od7 od8 od9 od10 od11 od12 od13 od14 od15 od16 od17 od18 od19 od20 od21 od22 od23 od24 od25 od26 od27 od28 od29 od30 od31 od32 od33 od34 od35 od36 od37 od38 od39 od40 od41 od42 od43 od44 od45 od46 od47 od48 od49 od50 od51 od52 od53 od54 od55 od56 an1 an2 an3 an4 an5 an6 an7 an8 an9 an10 an11 an12 an13 an14 an15 an16 an17 an18 an19 an20 an21 an22 an23 an24 an25 an26 an27 an28 an29 an30 an31 an32 an33 an34 an35 an36 an37 an38 an39 an40 an41 an42 an43 an44 an45 an46 an47 an48 an49 an50 an51 an52 an53 an54 an55 an56:Option Addr} {sl1 sl2 sl3 sl4 sl5 sl6 sl7 sl8 sl9 sl10 sl11 sl12 sl13 sl14 sl15 sl16 sl17 sl18 sl19 sl20 sl21 sl22 sl23 sl24 sl25 sl26 sl27 sl28 sl29 sl30 sl31 sl32 sl33 sl34 sl35 sl36 sl37 sl38 sl39 sl40 sl41 sl42 sl43 sl44 sl45 sl46 sl47 sl48 sl49 sl50 sl51 sl52 sl53 sl54 sl55 sl56:Array (Option Value)} {oc1 oc2 oc3 oc4 oc5 oc6 oc7 oc8 oc9 oc10 oc11 oc12 oc13 oc14 oc15 oc16 oc17 oc18 oc19 oc20 oc21 oc22 oc23 oc24 oc25 oc26 oc27 oc28 oc29 oc30 oc31 oc32 oc33 oc34 oc35 oc36 oc37 oc38 oc39 oc40 oc41 oc42 oc43 oc44 oc45 oc46 oc47 oc48 oc49 oc50 oc51 oc52 oc53 oc54 oc55 oc56 kV1 kV2 kV3 kV4 kV5 kV6 kV7 kV8 kV9 kV10 kV11 kV12 kV13 kV14 kV15 kV16 kV17 kV18 kV19 kV20 kV21 kV22 kV23 kV24 kV25 kV26 kV27 kV28 kV29 kV30 kV31 kV32 kV33 kV34 kV35 kV36 kV37 kV38 kV39 kV40 kV41 kV42 kV43 kV44 kV45 kV46 kV47 kV48 kV49 kV50 kV51 kV52 kV53 kV54 kV55 kV56 dc1 dc2 dc3 dc4 dc5 dc6 dc7 dc8 dc9 dc10 dc11 dc12 dc13 dc14 dc15 dc16 dc17 dc18 dc19 dc20 dc21 dc22 dc23 dc24 dc25 dc26 dc27 dc28 dc29 dc30 dc31 dc32 dc33 dc34 dc35 dc36 dc37 dc38 dc39 dc40 dc41 dc42 dc43 dc44 dc45 dc46 dc47 dc48 dc49 dc50 dc51 dc52 dc53 dc54 dc55 dc56 pm1 pm2 pm3 pm4 pm5 pm6 pm7 pm8 pm9 pm10 pm11 pm12 pm13 pm14 pm15 pm16 pm17 pm18 pm19 pm20 pm21 pm22 pm23 pm24 pm25 pm26 pm27 pm28 pm29 pm30 pm31 pm32 pm33 pm34 pm35 pm36 pm37 pm38 pm39 pm40 pm41 pm42 pm43 pm44 pm45 pm46 pm47 pm48 pm49 pm50 pm51 pm52 pm53 pm54 pm55 pm56 cd1 cd2 cd3 cd4 cd5 cd6 cd7 cd8 cd9 cd10 cd11 cd12 cd13 cd14 cd15 cd16 cd17 cd18 cd19 cd20 cd21 cd22 cd23 cd24 cd25 cd26 cd27 cd28 cd29 cd30 cd31 cd32 cd33 cd34 cd35 cd36 cd37 cd38 cd39 cd40 cd41 cd42 cd43 cd44 cd45 cd46 cd47 cd48 cd49 cd50 cd51 cd52 cd53 cd54 cd55 cd56 ct1 ct2 ct3 ct4 ct5 ct6 ct7 ct8 ct9 ct10 ct11 ct12 ct13 ct14 ct15 ct16 ct17 ct18 ct19 ct20 ct21 ct22 ct23 ct24 ct25 ct26 ct27 ct28 ct29 ct30 ct31 ct32 ct33 ct34 ct35 ct36 ct37 ct38 ct39 ct40 ct41 ct42 ct43 ct44 ct45 ct46 ct47 ct48 ct49 ct50 ct51 ct52 ct53 ct54 ct55 ct56:Value} {HM:Tok} {ID:Tok} {GK:Tok} {IC:Tok} {Fu:Tok} {Jm:Tok} {FD:Tok} {Hb:Tok} {IE:Tok} {HL:Tok} {LH:Tok} {La:Tok} {K9:Tok} {Hc:Tok} {Jc:Addr} {Hy:Addr} {FW:Addr} {Jt:Addr} {Jb:Addr} {Kn:Addr} {Ln:Addr} {K3:Addr} {Lo:Addr} {ob_MARK_LENGTHS:Obj}
  (a1:NsD K "is_whole" f1) (l1:LkD K "is_whole" jg f1 oc1 od1 sl1 kV1 dc1 pm1 an1 cd1 ct1) (c1:PySem.W.codeIn K cd1 "is_whole"=true) (k1:PySem.W.keepIn K (.ref f1)=true)
  (a2:NsD K "is_tagged" f2) (l2:LkD K "is_tagged" iw f2 oc2 od2 sl2 kV2 dc2 pm2 an2 cd2 ct2) (c2:PySem.W.codeIn K cd2 "is_tagged"=true) (k2:PySem.W.keepIn K (.ref f2)=true)
  (a3:NsD K "is_node" f3) (l3:LkD K "is_node" jS f3 oc3 od3 sl3 kV3 dc3 pm3 an3 cd3 ct3) (c3:PySem.W.codeIn K cd3 "is_node"=true) (k3:PySem.W.keepIn K (.ref f3)=true)
  (a4:NsD K "trees_within" f4) (l4:LkD K "trees_within" fM f4 oc4 od4 sl4 kV4 dc4 pm4 an4 cd4 ct4) (c4:PySem.W.codeIn K cd4 "trees_within"=true) (k4:PySem.W.keepIn K (.ref f4)=true)
  (a5:NsD K "is_tree" f5) (l5:LkD K "is_tree" iT f5 oc5 od5 sl5 kV5 dc5 pm5 an5 cd5 ct5) (c5:PySem.W.codeIn K cd5 "is_tree"=true) (k5:PySem.W.keepIn K (.ref f5)=true)
  (a6:NsD K "need_tree" f6) (l6:LkD K "need_tree" iz f6 oc6 od6 sl6 kV6 dc6 pm6 an6 cd6 ct6) (c6:PySem.W.codeIn K cd6 "need_tree"=true) (k6:PySem.W.keepIn K (.ref f6)=true)
  (a7:NsD K "walked" f7) (l7:LkD K "walked" kU f7 oc7 od7 sl7 kV7 dc7 pm7 an7 cd7 ct7) (c7:PySem.W.codeIn K cd7 "walked"=true) (k7:PySem.W.keepIn K (.ref f7)=true)
  (a8:NsD K "is_name" f8) (l8:LkD K "is_name" iR f8 oc8 od8 sl8 kV8 dc8 pm8 an8 cd8 ct8) (c8:PySem.W.codeIn K cd8 "is_name"=true) (k8:PySem.W.keepIn K (.ref f8)=true)
  (a9:NsD K "instruction_at" f9) (l9:LkD K "instruction_at" eJ f9 oc9 od9 sl9 kV9 dc9 pm9 an9 cd9 ct9) (c9:PySem.W.codeIn K cd9 "instruction_at"=true) (k9:PySem.W.keepIn K (.ref f9)=true)
  (a10:NsD K "is_mark" f10) (l10:LkD K "is_mark" jR f10 oc10 od10 sl10 kV10 dc10 pm10 an10 cd10 ct10) (c10:PySem.W.codeIn K cd10 "is_mark"=true) (k10:PySem.W.keepIn K (.ref f10)=true)
  (a11:NsD K "is_pattern_part" f11) (l11:LkD K "is_pattern_part" dv f11 oc11 od11 sl11 kV11 dc11 pm11 an11 cd11 ct11) (c11:PySem.W.codeIn K cd11 "is_pattern_part"=true) (k11:PySem.W.keepIn K (.ref f11)=true)
  (a12:NsD K "marks_in" f12) (l12:LkD K "marks_in" ji f12 oc12 od12 sl12 kV12 dc12 pm12 an12 cd12 ct12) (c12:PySem.W.codeIn K cd12 "marks_in"=true) (k12:PySem.W.keepIn K (.ref f12)=true)
  (a13:NsD K "is_numbered" f13) (l13:LkD K "is_numbered" fe f13 oc13 od13 sl13 kV13 dc13 pm13 an13 cd13 ct13) (c13:PySem.W.codeIn K cd13 "is_numbered"=true) (k13:PySem.W.keepIn K (.ref f13)=true)
  (a14:NsD K "is_pattern" f14) (l14:LkD K "is_pattern" fL f14 oc14 od14 sl14 kV14 dc14 pm14 an14 cd14 ct14) (c14:PySem.W.codeIn K cd14 "is_pattern"=true) (k14:PySem.W.keepIn K (.ref f14)=true)
  (a15:NsD K "is_filling" f15) (l15:LkD K "is_filling" gN f15 oc15 od15 sl15 kV15 dc15 pm15 an15 cd15 ct15) (c15:PySem.W.codeIn K cd15 "is_filling"=true) (k15:PySem.W.keepIn K (.ref f15)=true)
  (a16:NsD K "is_cell" f16) (l16:LkD K "is_cell" jQ f16 oc16 od16 sl16 kV16 dc16 pm16 an16 cd16 ct16) (c16:PySem.W.codeIn K cd16 "is_cell"=true) (k16:PySem.W.keepIn K (.ref f16)=true)
  (a17:NsD K "are_instructions" f17) (l17:LkD K "are_instructions" de f17 oc17 od17 sl17 kV17 dc17 pm17 an17 cd17 ct17) (c17:PySem.W.codeIn K cd17 "are_instructions"=true) (k17:PySem.W.keepIn K (.ref f17)=true)
  (a18:NsD K "is_piece" f18) (l18:LkD K "is_piece" jf f18 oc18 od18 sl18 kV18 dc18 pm18 an18 cd18 ct18) (c18:PySem.W.codeIn K cd18 "is_piece"=true) (k18:PySem.W.keepIn K (.ref f18)=true)
  (a19:NsD K "is_set" f19) (l19:LkD K "is_set" iS f19 oc19 od19 sl19 kV19 dc19 pm19 an19 cd19 ct19) (c19:PySem.W.codeIn K cd19 "is_set"=true) (k19:PySem.W.keepIn K (.ref f19)=true)
  (a20:NsD K "need_set" f20) (l20:LkD K "need_set" jk f20 oc20 od20 sl20 kV20 dc20 pm20 an20 cd20 ct20) (c20:PySem.W.codeIn K cd20 "need_set"=true) (k20:PySem.W.keepIn K (.ref f20)=true)
  (a21:NsD K "may_stand_for" f21) (l21:LkD K "may_stand_for" fh f21 oc21 od21 sl21 kV21 dc21 pm21 an21 cd21 ct21) (c21:PySem.W.codeIn K cd21 "may_stand_for"=true) (k21:PySem.W.keepIn K (.ref f21)=true)
  (a22:NsD K "matches" f22) (l22:LkD K "matches" jT f22 oc22 od22 sl22 kV22 dc22 pm22 an22 cd22 ct22) (c22:PySem.W.codeIn K cd22 "matches"=true) (k22:PySem.W.keepIn K (.ref f22)=true)
  (a23:NsD K "found_in" f23) (l23:LkD K "found_in" je f23 oc23 od23 sl23 kV23 dc23 pm23 an23 cd23 ct23) (c23:PySem.W.codeIn K cd23 "found_in"=true) (k23:PySem.W.keepIn K (.ref f23)=true)
  (a24:NsD K "filled_cell" f24) (l24:LkD K "filled_cell" gh f24 oc24 od24 sl24 kV24 dc24 pm24 an24 cd24 ct24) (c24:PySem.W.codeIn K cd24 "filled_cell"=true) (k24:PySem.W.keepIn K (.ref f24)=true)
  (a25:NsD K "jump_over" f25) (l25:LkD K "jump_over" ix f25 oc25 od25 sl25 kV25 dc25 pm25 an25 cd25 ct25) (c25:PySem.W.codeIn K cd25 "jump_over"=true) (k25:PySem.W.keepIn K (.ref f25)=true)
  (a26:NsD K "jumps_of_pick" f26) (l26:LkD K "jumps_of_pick" fg f26 oc26 od26 sl26 kV26 dc26 pm26 an26 cd26 ct26) (c26:PySem.W.codeIn K cd26 "jumps_of_pick"=true) (k26:PySem.W.keepIn K (.ref f26)=true)
  (a27:NsD K "ways_of" f27) (l27:LkD K "ways_of" jU f27 oc27 od27 sl27 kV27 dc27 pm27 an27 cd27 ct27) (c27:PySem.W.codeIn K cd27 "ways_of"=true) (k27:PySem.W.keepIn K (.ref f27)=true)
  (a28:NsD K "length_by" f28) (l28:LkD K "length_by" iy f28 oc28 od28 sl28 kV28 dc28 pm28 an28 cd28 ct28) (c28:PySem.W.codeIn K cd28 "length_by"=true) (k28:PySem.W.keepIn K (.ref f28)=true)
  (a29:NsD K "best_by_ways" f29) (l29:LkD K "best_by_ways" cE f29 oc29 od29 sl29 kV29 dc29 pm29 an29 cd29 ct29) (c29:PySem.W.codeIn K cd29 "best_by_ways"=true) (k29:PySem.W.keepIn K (.ref f29)=true)
  (a30:NsD K "best_covering" f30) (l30:LkD K "best_covering" ff f30 oc30 od30 sl30 kV30 dc30 pm30 an30 cd30 ct30) (c30:PySem.W.codeIn K cd30 "best_covering"=true) (k30:PySem.W.keepIn K (.ref f30)=true)
  (a31:NsD K "laid_pick" f31) (l31:LkD K "laid_pick" gu f31 oc31 od31 sl31 kV31 dc31 pm31 an31 cd31 ct31) (c31:PySem.W.codeIn K cd31 "laid_pick"=true) (k31:PySem.W.keepIn K (.ref f31)=true)
  (a32:NsD K "laid_piece" f32) (l32:LkD K "laid_piece" eK f32 oc32 od32 sl32 kV32 dc32 pm32 an32 cd32 ct32) (c32:PySem.W.codeIn K cd32 "laid_piece"=true) (k32:PySem.W.keepIn K (.ref f32)=true)
  (a33:NsD K "laid_cells" f33) (l33:LkD K "laid_cells" gO f33 oc33 od33 sl33 kV33 dc33 pm33 an33 cd33 ct33) (c33:PySem.W.codeIn K cd33 "laid_cells"=true) (k33:PySem.W.keepIn K (.ref f33)=true)
  (a34:NsD K "code_of" f34) (l34:LkD K "code_of" jP f34 oc34 od34 sl34 kV34 dc34 pm34 an34 cd34 ct34) (c34:PySem.W.codeIn K cd34 "code_of"=true) (k34:PySem.W.keepIn K (.ref f34)=true)
  (a35:NsD K "are_parts" f35) (l35:LkD K "are_parts" fw f35 oc35 od35 sl35 kV35 dc35 pm35 an35 cd35 ct35) (c35:PySem.W.codeIn K cd35 "are_parts"=true) (k35:PySem.W.keepIn K (.ref f35)=true)
  (a36:NsD K "need_parts" f36) (l36:LkD K "need_parts" gP f36 oc36 od36 sl36 kV36 dc36 pm36 an36 cd36 ct36) (c36:PySem.W.codeIn K cd36 "need_parts"=true) (k36:PySem.W.keepIn K (.ref f36)=true)
  (a37:NsD K "with_calls" f37) (l37:LkD K "with_calls" gQ f37 oc37 od37 sl37 kV37 dc37 pm37 an37 cd37 ct37) (c37:PySem.W.codeIn K cd37 "with_calls"=true) (k37:PySem.W.keepIn K (.ref f37)=true)
  (a38:NsD K "with_calls_within" f38) (l38:LkD K "with_calls_within" cK f38 oc38 od38 sl38 kV38 dc38 pm38 an38 cd38 ct38) (c38:PySem.W.codeIn K cd38 "with_calls_within"=true) (k38:PySem.W.keepIn K (.ref f38)=true)
  (a39:NsD K "code_once" f39) (l39:LkD K "code_once" fz f39 oc39 od39 sl39 kV39 dc39 pm39 an39 cd39 ct39) (c39:PySem.W.codeIn K cd39 "code_once"=true) (k39:PySem.W.keepIn K (.ref f39)=true)
  (a40:NsD K "gain" f40) (l40:LkD K "gain" rJ f40 oc40 od40 sl40 kV40 dc40 pm40 an40 cd40 ct40) (c40:PySem.W.codeIn K cd40 "gain"=true) (k40:PySem.W.keepIn K (.ref f40)=true)
  (a41:NsD K "lay" f41) (l41:LkD K "lay" wG f41 oc41 od41 sl41 kV41 dc41 pm41 an41 cd41 ct41) (c41:PySem.W.codeIn K cd41 "lay"=true) (k41:PySem.W.keepIn K (.ref f41)=true)
  (a42:NsD K "lay_once" f42) (l42:LkD K "lay_once" jh f42 oc42 od42 sl42 kV42 dc42 pm42 an42 cd42 ct42) (c42:PySem.W.codeIn K cd42 "lay_once"=true) (k42:PySem.W.keepIn K (.ref f42)=true)
  (a43:NsD K "_law_draw" f43) (l43:LkD K "_law_draw" iq f43 oc43 od43 sl43 kV43 dc43 pm43 an43 cd43 ct43) (c43:PySem.W.codeIn K cd43 "_law_draw"=true) (k43:PySem.W.keepIn K (.ref f43)=true)
  (a44:NsD K "_law_pick" f44) (l44:LkD K "_law_pick" iu f44 oc44 od44 sl44 kV44 dc44 pm44 an44 cd44 ct44) (c44:PySem.W.codeIn K cd44 "_law_pick"=true) (k44:PySem.W.keepIn K (.ref f44)=true)
  (a45:NsD K "_law_tree" f45) (l45:LkD K "_law_tree" gr f45 oc45 od45 sl45 kV45 dc45 pm45 an45 cd45 ct45) (c45:PySem.W.codeIn K cd45 "_law_tree"=true) (k45:PySem.W.keepIn K (.ref f45)=true)
  (a46:NsD K "_law_parts" f46) (l46:LkD K "_law_parts" gM f46 oc46 od46 sl46 kV46 dc46 pm46 an46 cd46 ct46) (c46:PySem.W.codeIn K cd46 "_law_parts"=true) (k46:PySem.W.keepIn K (.ref f46)=true)
  (a47:NsD K "_law_pieces" f47) (l47:LkD K "_law_pieces" gb f47 oc47 od47 sl47 kV47 dc47 pm47 an47 cd47 ct47) (c47:PySem.W.codeIn K cd47 "_law_pieces"=true) (k47:PySem.W.keepIn K (.ref f47)=true)
  (a48:NsD K "_law_set" f48) (l48:LkD K "_law_set" hV f48 oc48 od48 sl48 kV48 dc48 pm48 an48 cd48 ct48) (c48:PySem.W.codeIn K cd48 "_law_set"=true) (k48:PySem.W.keepIn K (.ref f48)=true)
  (a49:NsD K "_law_fit" f49) (l49:LkD K "_law_fit" jd f49 oc49 od49 sl49 kV49 dc49 pm49 an49 cd49 ct49) (c49:PySem.W.codeIn K cd49 "_law_fit"=true) (k49:PySem.W.keepIn K (.ref f49)=true)
  (a50:NsD K "_law_over" f50) (l50:LkD K "_law_over" ir f50 oc50 od50 sl50 kV50 dc50 pm50 an50 cd50 ct50) (c50:PySem.W.codeIn K cd50 "_law_over"=true) (k50:PySem.W.keepIn K (.ref f50)=true)
  (a51:NsD K "_law_unlike" f51) (l51:LkD K "_law_unlike" gd f51 oc51 od51 sl51 kV51 dc51 pm51 an51 cd51 ct51) (c51:PySem.W.codeIn K cd51 "_law_unlike"=true) (k51:PySem.W.keepIn K (.ref f51)=true)
  (a52:NsD K "_law_heavy" f52) (l52:LkD K "_law_heavy" fK f52 oc52 od52 sl52 kV52 dc52 pm52 an52 cd52 ct52) (c52:PySem.W.codeIn K cd52 "_law_heavy"=true) (k52:PySem.W.keepIn K (.ref f52)=true)
  (a53:NsD K "_law_doubled" f53) (l53:LkD K "_law_doubled" fJ f53 oc53 od53 sl53 kV53 dc53 pm53 an53 cd53 ct53) (c53:PySem.W.codeIn K cd53 "_law_doubled"=true) (k53:PySem.W.keepIn K (.ref f53)=true)
  (a54:NsD K "_law_hidden" f54) (l54:LkD K "_law_hidden" fZ f54 oc54 od54 sl54 kV54 dc54 pm54 an54 cd54 ct54) (c54:PySem.W.codeIn K cd54 "_law_hidden"=true) (k54:PySem.W.keepIn K (.ref f54)=true)
  (a55:NsD K "_law_called" f55) (l55:LkD K "_law_called" dU f55 oc55 od55 sl55 kV55 dc55 pm55 an55 cd55 ct55) (c55:PySem.W.codeIn K cd55 "_law_called"=true) (k55:PySem.W.keepIn K (.ref f55)=true)
  (a56:NsD K "law" f56) (l56:LkD K "law" uf f56 oc56 od56 sl56 kV56 dc56 pm56 an56 cd56 ct56) (c56:PySem.W.codeIn K cd56 "law"=true) (k56:PySem.W.keepIn K (.ref f56)=true)
  (GP:PySem.W.nsIn K mainGlobals "MOST_PARTS"=some (some (.int 40 HM)))
  (Hq:PySem.W.nsIn K mainGlobals "MOST_DEEP"=some (some (.int 8 ID)))
  (FY:PySem.W.nsIn K mainGlobals "LONGEST_NAME"=some (some (.int 8 GK)))
  (GI:PySem.W.nsIn K mainGlobals "MOST_CELL"=some (some (.int 99 IC)))
  (Fl:PySem.W.nsIn K mainGlobals "MOST_PATTERN_DEEP"=some (some (.int 3 Fu)))
  (HW:PySem.W.nsIn K mainGlobals "MOST_GAP"=some (some (.int 9999 Jm)))
  (Fm:PySem.W.nsIn K mainGlobals "MOST_PIECE_CELLS"=some (some (.int 12 FD)))
  (Gs:PySem.W.nsIn K mainGlobals "MOST_PIECES"=some (some (.int 16 Hb)))
  (Hr:PySem.W.nsIn K mainGlobals "MOST_NEAR"=some (some (.int 9 IE)))
  (GO:PySem.W.nsIn K mainGlobals "CALL_CELLS"=some (some (.int 3 HL)))
  (K5:PySem.W.nsIn K mainGlobals "END"=some (some (.int 0 LH)))
  (KG:PySem.W.nsIn K mainGlobals "CALL"=some (some (.int 15 La)))
  (KF:PySem.W.nsIn K mainGlobals "BACK"=some (some (.int 16 K9)))
  (Gu:PySem.W.nsIn K mainGlobals "MOST_SHARED"=some (some (.int 6 Hc)))
  (FB:PySem.W.nsIn K mainGlobals "MOST_IN_LEAF"=some (some (.ref Jc))) (FC:KTD.tabLook (KTD.datLooks λb=>K.lookup b) (λb=>K.lookup b) Jc TL=true)
  (Fb:PySem.W.nsIn K mainGlobals "TREES_IN_BRANCH"=some (some (.ref Hy))) (Fc:KTD.tabLook (KTD.datLooks λb=>K.lookup b) (λb=>K.lookup b) Hy TB=true)
  (Fp:PySem.W.nsIn K mainGlobals "MARK_LENGTHS"=some (some (.ref FW))) (E9:KTD.tabLook (KTD.datLooks λb=>K.lookup b) (λb=>K.lookup b) FW TM=true)
  (FS:PySem.W.nsIn K mainGlobals "FILLED_FROM"=some (some (.ref Jt))) (FU:KTD.tabLook (KTD.datLooks λb=>K.lookup b) (λb=>K.lookup b) Jt TF=true)
  (FA:PySem.W.nsIn K mainGlobals "INSTRUCTIONS"=some (some (.ref Jb))) (Jn:fN K (.tup INS) (.ref Jb)=true)
  (HX:PySem.W.nsIn K mainGlobals "STRAIGHT"=some (some (.ref Kn))) (Kq:fN K (.tup STR) (.ref Kn)=true)
  (Ke:PySem.W.nsIn K mainGlobals "AHEAD"=some (some (.ref Ln))) (Lr:fN K (.tup AHE) (.ref Ln)=true)
  (JG:PySem.W.nsIn K mainGlobals "BEHIND"=some (some (.ref K3))) (Lb:fN K (.tup BEH) (.ref K3)=true)
  (Kf:PySem.W.nsIn K mainGlobals "BASIC"=some (some (.ref Lo))) (Ls:nI K BAS Lo=true)
  (Jk:K.lookup FW=some ob_MARK_LENGTHS) (Jg:KTD.tabLook KTD.flatLooks (λb=>K.lookup b) FW ([("hole",.int 2),("gap",.int 3),("slot",.int 2)]:List (Str × PyData))=true) (Jl:KTD.hashesOf (λb=>K.lookup b) FW=([("hole",.int 2),("gap",.int 3),("slot",.int 2)]:List (Str × PyData)).map λp=>(PySem.strKind l.prog w).hash p.1)
  (L6:PySem.W.nsIn K mainGlobals "len"=some none)
  (JW:PySem.W.nsIn K mainGlobals "isinstance"=some none)
  (L5:PySem.W.nsIn K mainGlobals "int"=some none)
  (LK:PySem.W.nsIn K mainGlobals "bool"=some none)
  (L9:PySem.W.nsIn K mainGlobals "str"=some none)
  (Lv:PySem.W.nsIn K mainGlobals "tuple"=some none)
  (LL:PySem.W.nsIn K mainGlobals "list"=some none)
  (Lu:PySem.W.nsIn K mainGlobals "range"=some none)
  (L3:PySem.W.nsIn K mainGlobals "all"=some none)
  (L4:PySem.W.nsIn K mainGlobals "any"=some none)
  (L8:PySem.W.nsIn K mainGlobals "set"=some none)
  (Ma:PySem.W.nsIn K mainGlobals "sum"=some none)
  (Kr:PySem.W.nsIn K mainGlobals "reversed"=some none)
  (Mb:PySem.W.nsIn K mainGlobals "zip"=some none)
  (J8:PySem.W.nsIn K mainGlobals "enumerate"=some none)
  (L7:PySem.W.nsIn K mainGlobals "min"=some none) :
  ∃ fd:FuncData,(∀ (s:Shared) (v:Value),BindsTo s fd ⟨[v],[]⟩ [("_law_script",v)])/\∀ base:Heap,K.In base->base.Ns mainGlobals mg->FnOk l.prog w K mg base CX0 30 fa fd ["_law_script"] (ug K):=by
 have M:∀ {n:Str} {v:Value},PySem.W.nsIn K mainGlobals n=some (some v)->mg n=some v:=PySem.W.mg_of X G
 have N:∀ {n:Str},PySem.W.nsIn K mainGlobals n=some none->mg n=none:=PySem.W.mg_none_of X G
 have e:=hfa.symm.trans (M a56)
 cases e
 let T:Txt l.prog w K mg :=
  {Gd:=f1,Gg:=_,Gj:=bf (st:=jg) l1 c1 k1,Hj:=M a1,
   Gz:=f2,GE:=_,Hn:=bf (st:=iw) l2 c2 k2,Jr:=M a2,
   IP:=f3,IS:=_,JD:=bf (st:=jS) l3 c3 k3,KI:=M a3,
   Fg:=f4,Fi:=_,Fo:=bf (st:=fM) l4 c4 k4,FZ:=M a4,
   IQ:=f5,IT:=_,JE:=bf (st:=iT) l5 c5 k5,KJ:=M a5,
   GB:=f6,GG:=_,Ho:=bf (st:=iz) l6 c6 k6,Js:=M a6,
   Io:=f7,Iw:=_,JF:=bf (st:=kU) l7 c7 k7,Ky:=M a7,
   Jw:=f8,JA:=_,Kc:=bf (st:=iR) l8 c8 k8,Li:=M a8,
   FV:=f9,FX:=_,GN:=bf (st:=eJ) l9 c9 k9,JH:=M a9,
   Jv:=f10,Jz:=_,Kb:=bf (st:=jR) l10 c10 k10,Lh:=M a10,
   Ff:=f11,Fh:=_,FK:=bf (st:=dv) l11 c11 k11,HJ:=M a11,
   GA:=f12,GF:=_,HU:=bf (st:=ji) l12 c12 k12,JS:=M a12,
   GW:=f13,Ha:=_,Ic:=bf (st:=fe) l13 c13 k13,Kk:=M a13,
   Hw:=f14,HB:=_,IK:=bf (st:=fL) l14 c14 k14,Kw:=M a14,
   Hv:=f15,HA:=_,IJ:=bf (st:=gN) l15 c15 k15,Kv:=M a15,
   Ju:=f16,Jy:=_,Ka:=bf (st:=jQ) l16 c16 k16,Lg:=M a16,
   Fy:=f17,Fz:=_,Gi:=bf (st:=de) l17 c17 k17,Jj:=M a17,
   IY:=f18,Je:=_,JO:=bf (st:=jf) l18 c18 k18,K7:=M a18,
   J0:=f19,J1:=_,Ku:=bf (st:=iS) l19 c19 k19,LG:=M a19,
   Hg:=f20,Hi:=_,HV:=bf (st:=jk) l20 c20 k20,JU:=M a20,
   Gm:=f21,Gn:=_,Hd:=bf (st:=fh) l21 c21 k21,JX:=M a21,
   HP:=f22,HR:=_,IU:=bf (st:=jT) l22 c22 k22,Kg:=M a22,
   HN:=f23,HQ:=_,Jh:=bf (st:=je) l23 c23 k23,Ko:=M a23,
   GV:=f24,GZ:=_,Ib:=bf (st:=gh) l24 c24 k24,Kj:=M a24,
   Ik:=f25,Ir:=_,IA:=bf (st:=ix) l25 c25 k25,J7:=M a25,
   FF:=f26,FH:=_,Gq:=bf (st:=fg) l26 c26 k26,II:=M a26,
   Jx:=f27,JB:=_,Kd:=bf (st:=jU) l27 c27 k27,Lj:=M a27,
   Im:=f28,Iv:=_,Jq:=bf (st:=iy) l28 c28 k28,KP:=M a28,
   Gy:=f29,GD:=_,HG:=bf (st:=cE) l29 c29 k29,J5:=M a29,
   FE:=f30,FG:=_,Gp:=bf (st:=ff) l30 c30 k30,IH:=M a30,
   Il:=f31,Iu:=_,Jp:=bf (st:=gu) l31 c31 k31,KO:=M a31,
   Hx:=f32,HC:=_,IL:=bf (st:=eK) l32 c32 k32,Kx:=M a32,
   Fv:=f33,Fw:=_,Gk:=bf (st:=gO) l33 c33 k33,HK:=M a33,
   IM:=f34,IR:=_,JC:=bf (st:=jP) l34 c34 k34,KH:=M a34,
   Ij:=f35,Iq:=_,Jo:=bf (st:=fw) l35 c35 k35,KN:=M a35,
   GL:=f36,GM:=_,HH:=bf (st:=gP) l36 c36 k36,JT:=M a36,
   Ge:=f37,Gh:=_,HI:=bf (st:=gQ) l37 c37 k37,JV:=M a37,
   Fj:=f38,Fk:=_,Ft:=bf (st:=cK) l38 c38 k38,GR:=M a38,
   Hl:=f39,Hm:=_,Iz:=bf (st:=fz) l39 c39 k39,J6:=M a39,
   K1:=f40,K4:=_,Lp:=bf (st:=rJ) l40 c40 k40,LW:=M a40,
   LA:=f41,LC:=_,LF:=bf (st:=wG) l41 c41 k41,LX:=M a41,
   IZ:=f42,Jf:=_,Ji:=bf (st:=jh) l42 c42 k42,Kp:=M a42,
   F1:=f43,F7:=_,FJ:=bf (st:=iq) l43 c43 k43,GJ:=M a43,
   F4:=f44,F8:=_,Ga:=bf (st:=iu) l44 c44 k44,Hs:=M a44,
   F6:=f45,F9:=_,GH:=bf (st:=gr) l45 c45 k45,IB:=M a45,
   Gc:=f46,Gf:=_,HF:=bf (st:=gM) l46 c46 k46,JR:=M a46,
   GT:=f47,GX:=_,HZ:=bf (st:=gb) l47 c47 k47,Kh:=M a47,
   IX:=f48,Jd:=_,JN:=bf (st:=hV) l48 c48 k48,K6:=M a48,
   Hf:=f49,Hh:=_,HS:=bf (st:=jd) l49 c49 k49,JP:=M a49,
   Ii:=f50,Ip:=_,Iy:=bf (st:=ir) l50 c50 k50,J4:=M a50,
   GU:=f51,GY:=_,Ia:=bf (st:=gd) l51 c51 k51,Ki:=M a51,
   Hu:=f52,Hz:=_,HE:=bf (st:=fK) l52 c52 k52,JQ:=M a52,
   Gx:=f53,GC:=_,HD:=bf (st:=fJ) l53 c53 k53,J3:=M a53,
   FP:=f54,FR:=_,Gr:=bf (st:=fZ) l54 c54 k54,Ie:=M a54,
   FO:=f55,FQ:=_,Fn:=bf (st:=dU) l55 c55 k55,FT:=M a55,
   Lz:=fa,LO:=_,Md:=bf (st:=uf) l56 c56 k56,Mi:=M a56,
   HM:=HM,GP:=M GP,
   ID:=ID,Hq:=M Hq,
   GK:=GK,FY:=M FY,
   IC:=IC,GI:=M GI,
   Fu:=Fu,Fl:=M Fl,
   Jm:=Jm,HW:=M HW,
   FD:=FD,Fm:=M Fm,
   Hb:=Hb,Gs:=M Gs,
   IE:=IE,Hr:=M Hr,
   HL:=HL,GO:=M GO,
   LH:=LH,K5:=M K5,
   La:=La,KG:=M KG,
   K9:=K9,KF:=M KF,
   Hc:=Hc,Gu:=M Gu,
   Gw:=Jc,FB:=M FB,FC:=λh x=>PySem.W.kt_text_in x FC,
   Fs:=Hy,Fb:=M Fb,Fc:=λh x=>PySem.W.kt_text_in x Fc,
   Fx:=FW,Fp:=M Fp,E9:=λh x=>PySem.W.kt_text_in x E9,
   GS:=Jt,FS:=M FS,FU:=λh x=>PySem.W.kt_text_in x FU,
   Gv:=Jb,FA:=M FA,Ja:=Jn,
   JM:=Kn,HX:=M HX,K2:=Kq,
   KU:=Ln,Ke:=M Ke,LM:=Lr,
   Kt:=K3,JG:=M JG,LB:=Lb,
   KW:=Lo,Kf:=M Kf,LN:=Ls,
   J2:=⟨⟨_,Jk⟩,λh x=>⟨_,PySem.W.kt_tab_in l.prog w x Jg (by decide +kernel) Jl,rfl⟩⟩,
   Fq:=N L6,
   Fd:=N JW,
   LZ:=N L5,
   LY:=N LK,
   L0:=N L9,
   He:=N Lv,
   Lq:=N LL,
   Kz:=N Lu,
   KQ:=N L3,
   Me:=N L4,
   Mg:=N L8,
   L1:=N Ma,
   K8:=N Kr,
   LP:=N Mb,
   KR:=N J8,
   Mf:=N L7 }
 exact ⟨_,λs v=>.of_eq rfl,λbase _ _=>chain T⟩
theorem walk {q:Program} {loose:List Str} {XP:(Str->Option Value)->Heap->Prop} {YP:World->Heap->Prop} {d:DefRec} {K:Params->PySem.W.Frag} (hn:l.most=some 63) (hdf:d.params.defaults=[])
  (hY:∀ (w:World) (h:Heap),YP w h->(K w.params).In h)
  (F:∀ (w:World) (mg:Str->Option Value) (fa:Addr) (h:Heap),(K w.params).In h->h.Ns mainGlobals mg->mg d.name=some (.ref fa) ->
   ∃ fd:FuncData,(∀ (s:Shared) (u:Value),BindsTo s fd ⟨[u],[]⟩ [("_law_script",u)])/\∀ base:Heap,(K w.params).In base->base.Ns mainGlobals mg->FnOk l.prog w (K w.params) mg base CX0 30 fa fd ["_law_script"] (ug (K w.params))) :
  PySem.W.WalkO q loose XP YP l.row.toRowW d [] (λf vs=>PySem.call f vs) :=
 L2.walk_of (n:=63) (k:=30) (x:="_law_script") (CX:=λ_=>CX0) (sp:=λw=>ug (K w.params)) hn (by decide) hdf ⟨rfl,by decide,by decide⟩ hY F (λ_ _ a ns hl hO hS=>⟨a,ns,rfl,DD hO hS,λ_=>rfl⟩) λ_ _ _ _ _ z=>z
end My
open PySem PySem.W PyProof.Rows
set_option maxRecDepth 100000 in
set_option maxHeartbeats 0 in
theorem PySem.Challenge.cw_piecelay_k19_whole_length_once_holds : PySem.Challenge.rw_piecelay_k19_whole_length_once.Holds := by
 w_on;o_law
 refine holds_open (q:=My.view) (loose:=My.loose) (Xt:=My.xt) (XP:=XL My.view []) (Yf:=Hook.obs (kHook My.k0.heap_1 My.kas My.kas_ok)) (Ya:=Hook.val (kHook My.k0.heap_1 My.kas My.kas_ok)) (YP:=Hook.says (kHook My.k0.heap_1 My.kas My.kas_ok)) (N:=My.NN) My.left (Hook.of (kHook My.k0.heap_1 My.kas My.kas_ok)) (Hook.keeps (kHook My.k0.heap_1 My.kas My.kas_ok)) (λs e=>xl_of s (Bool.and_eq_true_iff.mp e).1) XL.keeps (by rfl) (by rfl) (by rfl) (λs e=>recFacts_of (Bool.and_eq_true_iff.mp e).2) (by rfl) (by first | assumption | decide +kernel) (by decide +kernel) ⟨rfl,rfl,rfl,rfl,rfl,by decide +kernel⟩ ?hw ?hc
 case hw=>w_witness2
 k_fill
 refine My.walk (l:=PySem.Challenge.rw_piecelay_k19_whole_length_once) rfl rfl (λw h Y=>PySem.W.kIn_of Y) ?F
 case F =>
  intro w mg fa h KX G hmg
  refine' My.all_mk KX G hmg ?a1 ?l1 ?c1 ?k1 ?a2 ?l2 ?c2 ?k2 ?a3 ?l3 ?c3 ?k3 ?a4 ?l4 ?c4 ?k4 ?a5 ?l5 ?c5 ?k5 ?a6 ?l6 ?c6 ?k6 ?a7 ?l7 ?c7 ?k7 ?a8 ?l8 ?c8 ?k8 ?a9 ?l9 ?c9 ?k9 ?a10 ?l10 ?c10 ?k10 ?a11 ?l11 ?c11 ?k11 ?a12 ?l12 ?c12 ?k12 ?a13 ?l13 ?c13 ?k13 ?a14 ?l14 ?c14 ?k14 ?a15 ?l15 ?c15 ?k15 ?a16 ?l16 ?c16 ?k16 ?a17 ?l17 ?c17 ?k17 ?a18 ?l18 ?c18 ?k18 ?a19 ?l19 ?c19 ?k19 ?a20 ?l20 ?c20 ?k20 ?a21 ?l21 ?c21 ?k21 ?a22 ?l22 ?c22 ?k22 ?a23 ?l23 ?c23 ?k23 ?a24 ?l24 ?c24 ?k24 ?a25 ?l25 ?c25 ?k25 ?a26 ?l26 ?c26 ?k26 ?a27 ?l27 ?c27 ?k27 ?a28 ?l28 ?c28 ?k28 ?a29 ?l29 ?c29 ?k29 ?a30 ?l30 ?c30 ?k30 ?a31 ?l31 ?c31 ?k31 ?a32 ?l32 ?c32 ?k32 ?a33 ?l33 ?c33 ?k33 ?a34 ?l34 ?c34 ?k34 ?a35 ?l35 ?c35 ?k35 ?a36 ?l36 ?c36 ?k36 ?a37 ?l37 ?c37 ?k37 ?a38 ?l38 ?c38 ?k38 ?a39 ?l39 ?c39 ?k39 ?a40 ?l40 ?c40 ?k40 ?a41 ?l41 ?c41 ?k41 ?a42 ?l42 ?c42 ?k42 ?a43 ?l43 ?c43 ?k43 ?a44 ?l44 ?c44 ?k44 ?a45 ?l45 ?c45 ?k45 ?a46 ?l46 ?c46 ?k46 ?a47 ?l47 ?c47 ?k47 ?a48 ?l48 ?c48 ?k48 ?a49 ?l49 ?c49 ?k49 ?a50 ?l50 ?c50 ?k50 ?a51 ?l51 ?c51 ?k51 ?a52 ?l52 ?c52 ?k52 ?a53 ?l53 ?c53 ?k53 ?a54 ?l54 ?c54 ?k54 ?a55 ?l55 ?c55 ?k55 ?a56 ?l56 ?c56 ?k56 ?GP ?Hq ?FY ?GI ?Fl ?HW ?Fm ?Gs ?Hr ?GO ?K5 ?KG ?KF ?Gu ?FB ?FC ?Fb ?Fc ?Fp ?E9 ?FS ?FU ?FA ?Jn ?HX ?Kq ?Ke ?Lr ?JG ?Lb ?Kf ?Ls ?Jk ?Jg ?Jl ?L6 ?JW ?L5 ?LK ?L9 ?Lv ?LL ?Lu ?L3 ?L4 ?L8 ?Ma ?Kr ?Mb ?J8 ?L7
  case a1 | a2 | a3 | a4 | a5 | a6 | a7 | a8 | a9 | a10 | a11 | a12 | a13 | a14 | a15 | a16 | a17 | a18 | a19 | a20 | a21 | a22 | a23 | a24 | a25 | a26 | a27 | a28 | a29 | a30 | a31 | a32 | a33 | a34 | a35 | a36 | a37 | a38 | a39 | a40 | a41 | a42 | a43 | a44 | a45 | a46 | a47 | a48 | a49 | a50 | a51 | a52 | a53 | a54 | a55 | a56=>change _=_;k_is
  case l1 | l2 | l3 | l4 | l5 | l6 | l7 | l8 | l9 | l10 | l11 | l12 | l13 | l14 | l15 | l16 | l17 | l18 | l19 | l20 | l21 | l22 | l23 | l24 | l25 | l26 | l27 | l28 | l29 | l30 | l31 | l32 | l33 | l34 | l35 | l36 | l37 | l38 | l39 | l40 | l41 | l42 | l43 | l44 | l45 | l46 | l47 | l48 | l49 | l50 | l51 | l52 | l53 | l54 | l55 | l56=>change _=_;k_is
  case c1 | c2 | c3 | c4 | c5 | c6 | c7 | c8 | c9 | c10 | c11 | c12 | c13 | c14 | c15 | c16 | c17 | c18 | c19 | c20 | c21 | c22 | c23 | c24 | c25 | c26 | c27 | c28 | c29 | c30 | c31 | c32 | c33 | c34 | c35 | c36 | c37 | c38 | c39 | c40 | c41 | c42 | c43 | c44 | c45 | c46 | c47 | c48 | c49 | c50 | c51 | c52 | c53 | c54 | c55 | c56 | k1 | k2 | k3 | k4 | k5 | k6 | k7 | k8 | k9 | k10 | k11 | k12 | k13 | k14 | k15 | k16 | k17 | k18 | k19 | k20 | k21 | k22 | k23 | k24 | k25 | k26 | k27 | k28 | k29 | k30 | k31 | k32 | k33 | k34 | k35 | k36 | k37 | k38 | k39 | k40 | k41 | k42 | k43 | k44 | k45 | k46 | k47 | k48 | k49 | k50 | k51 | k52 | k53 | k54 | k55 | k56=>k_is
  case GP | Hq | FY | GI | Fl | HW | Fm | Gs | Hr | GO | K5 | KG | KF | Gu | FB | Fb | Fp | FS | FA | HX | Ke | JG | Kf | Jk | L6 | JW | L5 | LK | L9 | Lv | LL | Lu | L3 | L4 | L8 | Ma | Kr | Mb | J8 | L7=>k_is
  case FC | Fc | E9 | FU | Jn | Kq | Lr | Lb | Ls | Jg=>first | rfl | decide +kernel
  case Jl=>first | rfl | kernel_rfl | decide +kernel
