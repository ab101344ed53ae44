import PyProof.Rows.All
import Wide.All
import OpenK.AllK
import Wide.FinOn
import Lean
import PyProof.EqAt
import PyProof.EqKinds
import PyProof.TupleCall
import PyProof.NeKinds
import KE.KTab
import KE.KTops
import PyProof.FString5
import PyProof.ListRange
import KE.KRevIter
import PyProof.Rows.SumAny
import PyProof.Rows.SetFrom
import KE.KRevSl
import KE.KTryMore
import PyProof.ExcAttrAll.ValueError
import PyProof.Rows.CountFlat
import PyProof.ExcInit
import PyProof.InstStoreFacts
import PyProof.Draws
import PyProof.EnumMake
import PyProof.ZipIter
import PyProof.WalkInts
import PyProof.Rows.MinMaxN
import KE.KUnpack
import PyProof.StationsW
import PySem.Challenge.RW_piecelay_k14_whole_any_covering
set_option Elab.async false
set_option linter.all false
set_option maxRecDepth 100000
set_option maxHeartbeats 4000000
section
namespace LT
open PySem PySem.W PyProof.Rows
noncomputable def ran (p:Program) (w:World) (n₀:Nat) (ann:Option Value):Nat->SharedT->Thread->Option SharedT
 | 0,_,_=>none
 | k+1,s,t=>bif through t then some s else bif Fast.tw6613529449190102663 n₀ ann t then
   (Fast.tw10156331382660048174 (Fast.tw11892475500146522536 Fast.tw14364793385576792824) p w s t).bind λx=>ran p w n₀ ann k x.1 x.2
  else none
variable {p:Program}
theorem B2 {w:World} {n₀:Nat} {ann:Option Value} (k:Nat):∀ {s s':SharedT} {t:Thread},ran p w n₀ ann k s t=some s'->topRun treeTable p w n₀ ann k s.abs t=some s'.abs:=by
 induction k with
 | zero=>intro s s' t h;cases h
 | succ k ih =>
  intro s s' t h;unfold ran at h;rw [<- Fast.te6613529449190102663,<- Fast.te10156331382660048174,<- Fast.te11892475500146522536,<- Fast.te14364793385576792824] at h;unfold topRun;cases c1:through t
  ·cases c2:stepOk n₀ ann t
   ·rw [c1,c2] at h;cases h
   ·rw [c1,c2] at h;obtain ⟨x,hx,hr⟩:=Option.bind_eq_some_iff.mp (show (stepT (denote treeTable) p w s t).bind _=some s' from h);rw [stepT_spec (s':=x.1) (t':=x.2) hx];exact ih hr
  ·rw [c1] at h;cases h;rfl
noncomputable def yp (P:Params):BT:=((boot_heap P).objs.toList.foldl (λ(x:BT × Nat) o=>(x.1.ins x.2 o,x.2+1)) (BT.nil,0)).1
theorem yq:∀ P,absHeap (yp P) 11 {}=boot_heap P:=λP=>by kernel_rfl
noncomputable abbrev boot (P:Params) (os:OsState):SharedT:=⟨yp P,11,{},#[],boot_drawn,boot_toks,os⟩
theorem yr (P:Params) (os:OsState):(boot P os).abs=⟨boot_heap P,#[],boot_drawn,boot_toks,os⟩:=by show (⟨absHeap (yp P) 11 {},#[],boot_drawn,boot_toks,os⟩:Shared)=_;rw [yq]
noncomputable def CP (p q:Program) (loose:List Str) (Xt:Shared->Bool) (P:Params) (s:Shared) :=
 (staticsOk (Fast.tw5923862056798008813 p.main.body) (boot_heap P) s.heap && namesBound p s.heap && gensDone s && laidKept (boot_heap P) s.heap,Fast.tw4187177175401517315 q loose (Fast.tw5923862056798008813 p.main.body) Xt true s)
theorem Cj:∀ P:Params,((boot_heap P).isNs mainGlobals && (#[]:Array GenState).size == 0,(boot_heap P).objs.size,(boot_heap P).nsMap mainGlobals "__annotations__")=(true,11,some (.ref 6)):=λP=>by kernel_rfl
theorem left {q:Program} {loose:List Str} {Xt:Shared->Bool} {α:Type} {Yf:Shared->α} {Ya:World->α} {N:Nat} (e:opening p=plainProg p.main.scope.names) (hN:Nat.ble 600 N=true) (f:∀ s,fenceModules? p s=some s)
  (h:∀ (w:World) (os:OsState),(ran p w 11 (some (.ref 6)) N (boot w.params os) (topStub p)).map (λs=>(CP p q loose Xt w.params s.abs,Yf s.abs))=some ((true,openGood q loose),Ya w)):LeftO p q loose Xt Yf Ya N:=λw=>by
 obtain ⟨⟨h0,gs,d,k,os⟩,e,e'⟩:=Option.map_eq_some_iff.mp (boot_open e hN f w);obtain ⟨rfl,rfl,rfl,rfl⟩:h0=boot_heap w.params/\gs=Array.mk []/\d=boot_drawn/\k=boot_toks:=by simpa using e'
 obtain ⟨s1,hr,hs⟩:=Option.map_eq_some_iff.mp (h w os);have r:=B2 N hr;rw [yr] at r;obtain ⟨hs,hy⟩:=Prod.mk.inj hs;unfold CP at hs;rw [<- Fast.te4187177175401517315,<- Fast.te5923862056798008813] at hs;obtain ⟨hl,hg⟩:=Prod.mk.inj (show (staticsOk (importedModules p.main.body) (boot_heap w.params) s1.abs.heap && namesBound p s1.abs.heap && gensDone s1.abs && laidKept (boot_heap w.params) s1.abs.heap,openSeen q loose (importedModules p.main.body) Xt true s1.abs)=(true,openGood q loose) from hs);obtain ⟨z1,z2,z3⟩:_/\_/\_:=by simpa only [Prod.mk.injEq] using Cj w.params
 have t:topFrom treeTable p w N ⟨boot_heap w.params,Array.mk [],boot_drawn,boot_toks,os⟩=some s1.abs:=by unfold topFrom;dsimp only;rw [z1,z2,z3,r];show (match staticsOk (importedModules p.main.body) (boot_heap w.params) s1.abs.heap && namesBound p s1.abs.heap && gensDone s1.abs && laidKept (boot_heap w.params) s1.abs.heap with | true=>_ | false=>_)=_;rw [hl]
 unfold openEnds;rw [e];show (topFrom treeTable p w N _).map _=_;rw [t];exact congrArg some (Prod.ext hg hy)
end LT
namespace LT
section
universe u1 u2 u3 u4 u5 u6 u7 u8 u9
variable {S:Type u1} {A:Type u2} {B:Type u3} {C:Type u4} {D:Type u5} {E:Type u6} {F:Type u7} {R:Type u8} {V:Type u9}
def lot1 (x:A × B × C × D × E × F × R):A × B × C:=match x with | (a,b,c,_)=>(a,b,c)
def lot2 (x:A × B × C × D × E × F × R):D × E × R:=match x with | (_,_,_,d,e,_,r)=>(d,e,r)
def lot3 (x:A × B × C × D × E × F × R):F:=match x with | (_,_,_,_,_,f,_)=>f
theorem lots {o:Option S} {f:S->A × B × C × D × E × F × R} {y:A × B × C × D × E × F × R} {st:S->Bool} {ob:S->V} {v:V} (h1:o.map (λs=>lot1 (f s))=some (y.1,y.2.1,y.2.2.1)) (h2:o.map (λs=>lot2 (f s))=some (y.2.2.2.1,y.2.2.2.2.1,y.2.2.2.2.2.2))
  (h3:o.map (λs=>lot3 (f s))=some y.2.2.2.2.2.1) (h4:o.map (λs=>(st s,ob s))=some (true,v)):o.map (λs=>((st s,f s),ob s))=some ((true,y),v):=by
 cases o with
 | none=>cases h1
 | some s =>have k1:((f s).1,(f s).2.1,(f s).2.2.1)=(y.1,y.2.1,y.2.2.1):=Option.some.inj h1;have k2:((f s).2.2.2.1,(f s).2.2.2.2.1,(f s).2.2.2.2.2.2)=(y.2.2.2.1,y.2.2.2.2.1,y.2.2.2.2.2.2):=Option.some.inj h2;have k3:(f s).2.2.2.2.2.1=y.2.2.2.2.2.1:=Option.some.inj h3;have k4:(st s,ob s)=(true,v):=Option.some.inj h4;have ef:f s=y:=Prod.ext (congrArg (λz=>z.1) k1) (Prod.ext (congrArg (λz=>z.2.1) k1) (Prod.ext (congrArg (λz=>z.2.2) k1) (Prod.ext (congrArg (λz=>z.1) k2) (Prod.ext (congrArg (λz=>z.2.1) k2) (Prod.ext k3 (congrArg (λz=>z.2.2) k2))))));have e1:st s=true:=congrArg (λz=>z.1) k4;have e2:ob s=v:=congrArg (λz=>z.2) k4;show some ((st s,f s),ob s)=some ((true,y),v);rw [e1,e2,ef]
end
end LT
namespace My
open PySem
def top (i:Nat):Stmt:=PySem.Challenge.pw_piecelay_k14_whole_any_covering.main.body.getD i (.Pass ⟨0,0,0,0⟩)
end My
end
section
open PySem PySem.W PyProof.Rows
section
local macro_rules | `(tactic| o_head $H:term)=>`(tactic| (have _hook:=$H;assumption))
theorem My.k0 (h:PySem.Challenge.rw_piecelay_k14_whole_any_covering.row.Holds):PySem.Challenge.rw_piecelay_k14_whole_any_covering.row.Holds:=by
 k_head
end
namespace My
def view:Program:={ PySem.Challenge.pw_piecelay_k14_whole_any_covering with main:={ PySem.Challenge.pw_piecelay_k14_whole_any_covering.main with body:=[top 1,top 2,top 3,top 4,top 5,top 7,top 8,top 9,top 10,top 12,top 13,top 14,top 15,top 16,top 17,top 18,top 19,top 20,top 22,top 23,top 24,top 26,top 27,top 28,top 29,top 30,top 31,top 32,top 33,top 34,top 35,top 36,top 37,top 38,top 39,top 40,top 41,top 42,top 43,top 44,top 45,top 46,top 47,top 48,top 50,top 51,top 52,top 53,top 54,top 55,top 56,top 57,top 58,top 59,top 60,top 61,top 62,top 63,top 65,top 66,top 67,top 68,top 69,top 70,top 72,top 73,top 74,top 75,top 76,top 77,top 78,top 79,top 80,top 81,top 82,top 83,top 84,top 85,top 86,top 87,top 88,top 89,top 90,top 91,top 92,top 93,top 94] } }
abbrev PRG:Program:=PySem.Challenge.pw_piecelay_k14_whole_any_covering
abbrev loose:List Str:=["MOST_IN_LEAF","TREES_IN_BRANCH","MARK_LENGTHS","FILLED_FROM","BASIC"]
abbrev xt (s:Shared):Bool:=xlAt view [] s && recOk (RowW.records (OpenRow.toRowW (OpenLaw.row PySem.Challenge.rw_piecelay_k14_whole_any_covering))) s
abbrev kas:List Addr:=[2,3,15,22,23,24,25,28,35,36,37,40,47,48,49,52,59,60,61,64,71,73,74,76,77,78,79,80,83,85,86,88,89,90,92,93,95,96,97,100,101,102,103,104,106,107,109,110,111,113,114,116,117,118,121,122,123,125,126,128,129,130,132,133,135,136,137,138,139,140,141,142,143,144,145,146,147,148,149,150,151,152,153,154,155,157,158,160,161,162,163,164,165,166,167,168,169,170,171,172,173,174,175,176,177,178,179,180,181,182,183,184,185,186,187,188,189,190,191,192,193,194,195,196,197,198,199,200,201,202,203,204,205,207,208,210,211,212,215,216,217,219,220,222,223,224,227,228,229,232,233,234,236,237,239,240,241,243,244,246,247,248,251,252,253,255,256,258,259,260,263,264,265,267,268,270,271,272,274,275,277,278,279,281,282,284,285,286,288,289,291,292,293,295,296,298,299,300,301,302,304,305,307,308,309,311,312,314,315,316,318,319,321,322,323,325,326,328,329,330,333,334,335,337,338,340,341,342,344,345,347,348,349,352,353,354,356,357,359,360,361,363,364,366,367,368,371,372,373,376,377,378,380,381,383,384,385,387,388,390,391,392,394,395,397,398,399,401,402,404,405,406,409,410,411,414,415,416,418,419,421,422,423,425,426,428,429,430,432,433,435,436,437,439,440,442,443,444,446,447,449,450,451,453,454,456,457,458,460,461,463,464,465,467,468,470,471,472,475,476,477,479,480,482,483,484,487,488,489,491,492,494,495,508,510,511,513,514,515,517,518,520,521,522,525,526,527,530,531,532,534,535,537,538]
theorem kas_ok:∀ P,kas=(My.k0.heap_1 P).map (·.1):=λ_=>by kernel_rfl
noncomputable abbrev hk:Hook:=kHook My.k0.heap_1 kas kas_ok
abbrev NN:Nat:=9000
noncomputable abbrev Bn (w:World) (os:OsState):=LT.ran PRG w 11 (some (.ref 6)) NN (LT.boot w.params os) (topStub PRG)
noncomputable abbrev rO (P:Params) (s:SharedT):Bool:=staticsOk (Fast.tw5923862056798008813 PRG.main.body) (boot_heap P) s.abs.heap && namesBound PRG s.abs.heap && gensDone s.abs && laidKept (boot_heap P) s.abs.heap
noncomputable abbrev Ee (s:SharedT):=Fast.tw4187177175401517315 view loose (Fast.tw5923862056798008813 PRG.main.body) xt true s.abs
noncomputable abbrev ux:=openGood view loose
abbrev zU (w:World) (os:OsState):Prop:=(Bn w os).map (λs=>LT.lot1 (Ee s))=some (ux.1,ux.2.1,ux.2.2.1)
abbrev zV (w:World) (os:OsState):Prop:=(Bn w os).map (λs=>LT.lot2 (Ee s))=some (ux.2.2.2.1,ux.2.2.2.2.1,ux.2.2.2.2.2.2)
abbrev zW (w:World) (os:OsState):Prop:=(Bn w os).map (λs=>LT.lot3 (Ee s))=some ux.2.2.2.2.2.1
abbrev zX (w:World) (os:OsState):Prop:=(Bn w os).map (λs=>(rO w.params s,Hook.obs hk s.abs))=some (true,Hook.val hk w)
set_option maxHeartbeats 0 in
theorem ra1:∀ (w:World) (os:OsState),zU (w.withFollow "special-get-raises" false) os:=λw os=>by unfold zU;kernel_rfl
set_option maxHeartbeats 0 in
theorem rb1:∀ (w:World) (os:OsState),zU (w.withFollow "special-get-raises" true) os:=λw os=>by unfold zU;kernel_rfl
set_option maxHeartbeats 0 in
theorem ra2:∀ (w:World) (os:OsState),zV (w.withFollow "special-get-raises" false) os:=λw os=>by unfold zV;kernel_rfl
set_option maxHeartbeats 0 in
theorem rb2:∀ (w:World) (os:OsState),zV (w.withFollow "special-get-raises" true) os:=λw os=>by unfold zV;kernel_rfl
set_option maxHeartbeats 0 in
theorem ra3:∀ (w:World) (os:OsState),zW (w.withFollow "special-get-raises" false) os:=λw os=>by unfold zW;kernel_rfl
set_option maxHeartbeats 0 in
theorem rb3:∀ (w:World) (os:OsState),zW (w.withFollow "special-get-raises" true) os:=λw os=>by unfold zW;kernel_rfl
set_option maxHeartbeats 0 in
theorem ra4:∀ (w:World) (os:OsState),zX (w.withFollow "special-get-raises" false) os:=λw os=>by unfold zX;kernel_rfl
set_option maxHeartbeats 0 in
theorem rb4:∀ (w:World) (os:OsState),zX (w.withFollow "special-get-raises" true) os:=λw os=>by unfold zX;kernel_rfl
theorem left:LeftO PRG view loose xt (Hook.obs hk) (Hook.val hk) NN :=
 LT.left (by rfl) (by decide) (λs=>by rfl) λw os=>LT.lots (byRow2 "special-get-raises" (P:=λw=>zU w os) (λw=>ra1 w os) (λw=>rb1 w os) w) (byRow2 "special-get-raises" (P:=λw=>zV w os) (λw=>ra2 w os) (λw=>rb2 w os) w) (byRow2 "special-get-raises" (P:=λw=>zW w os) (λw=>ra3 w os) (λw=>rb3 w os) w) (byRow2 "special-get-raises" (P:=λw=>zX w os) (λw=>ra4 w os) (λw=>rb4 w os) w)
end My
end
section
namespace L2
open PySem PySem.Spec PyProof.Rows
abbrev Key:=Sum Int Str
def pE:Key->Value->Bool
 | .inl k,v=>Value.isInt k v
 | .inr x,v=>Value.isStrOf x v
def Fo (w:World):Key->Int
 | .inl k=>hashInt k
 | .inr x=>hashStr w x
theorem dj:∀ {k:Key} {v:Value},pE k v=true->(∃ i t,k=Sum.inl i/\v=Value.int i t)\/(∃ x t,k=Sum.inr x/\v=Value.str x t)
 | .inl i,v,h=>by obtain ⟨t,e⟩:=Value.isInt_shape (k:=i) (v:=v) h;exact .inl ⟨i,t,rfl,e⟩
 | .inr x,v,h=>by obtain ⟨t,e⟩:=Value.isStrOf_shape (x:=x) (v:=v) h;exact .inr ⟨x,t,rfl,e⟩
theorem wZ (i:Int) (t:Tok):pE (.inl i) (.int i t)=true:=by simp [pE,Value.isInt]
theorem xc (x:Str) (t:Tok):pE (.inr x) (.str x t)=true:=by simp [pE,Value.isStrOf]
theorem DA (a b:Int):decide ((Sum.inl a:Key)=Sum.inl b)=(a == b):=by
 by_cases e:a=b
 ·subst e;simp
 ·have h:¬ (Sum.inl a:Key)=Sum.inl b:=λq=>e (Sum.inl.inj q);rw [decide_eq_false h];exact (beq_eq_false_iff_ne.mpr e).symm
theorem DE (a b:Str):decide ((Sum.inr a:Key)=Sum.inr b)=decide (a=b):=by
 by_cases e:a=b
 ·subst e;simp
 ·have h:¬ (Sum.inr a:Key)=Sum.inr b:=λq=>e (Sum.inr.inj q);rw [decide_eq_false h,decide_eq_false e]
theorem DB (a:Int) (b:Str):decide ((Sum.inl a:Key)=Sum.inr b)=false:=decide_eq_false (λq=>nomatch q)
theorem DC (a:Str) (b:Int):decide ((Sum.inr a:Key)=Sum.inl b)=false:=decide_eq_false (λq=>nomatch q)
def dM (prog:Program) (w:World):PySem.KeyKind prog w Key where
 is:=pE
 hash:=Fo w
 inj:=λv a b ha hb=>by
  rcases dj ha with ⟨i,t,rfl,rfl⟩ | ⟨x,t,rfl,rfl⟩
  ·rcases dj hb with ⟨j,u,rfl,e⟩ | ⟨y,u,rfl,e⟩
   ·injection e with e1 _;rw [e1]
   ·exact nomatch e
  ·rcases dj hb with ⟨j,u,rfl,e⟩ | ⟨y,u,rfl,e⟩
   ·exact nomatch e
   ·injection e with e1 _;rw [e1]
 byValue:=λk v h=>by rcases dj h with ⟨i,t,rfl,rfl⟩ | ⟨x,t,rfl,rfl⟩ <;> rfl
 pyHash:=λhv h=>by
  rcases dj hv with ⟨i,t,rfl,rfl⟩ | ⟨x,t,rfl,rfl⟩
  ·exact wpAny_pyHash_int h
  ·exact wpAny_pyHash_str h
 eqBool:=λhu hv h=>by
  rcases dj hu with ⟨i,t,rfl,rfl⟩ | ⟨x,t,rfl,rfl⟩
  ·rcases dj hv with ⟨j,u,rfl,rfl⟩ | ⟨y,u,rfl,rfl⟩
   ·rw [DA] at h;exact wpAny_eqBool_int h
   ·rw [DB] at h;exact SeqAt.EqAt.int_str i t y u _ _ _ _ h
  ·rcases dj hv with ⟨j,u,rfl,rfl⟩ | ⟨y,u,rfl,rfl⟩
   ·rw [DC] at h;exact SeqAt.EqAt.str_int x t j u _ _ _ _ h
   ·rw [DE] at h;exact wpAny_eqBool_str h
 «strs»:=λk x t v h=>by
  rcases dj h with ⟨i,u,rfl,e⟩ | ⟨y,u,rfl,e⟩
  ·exact nomatch e
  ·injection e with e1 _;subst e1;cases v <;> rfl
theorem sO (prog:Program) (w:World) (i:Int) (t:Tok):(dM prog w).is (.inl i) (.int i t)=true:=wZ i t
theorem sP (prog:Program) (w:World) (x:Str) (t:Tok):(dM prog w).is (.inr x) (.str x t)=true:=xc x t
inductive V where
 | non | bl (b:Bool) | int (i:Int) | str (x:Str) | byt (b:Array UInt8) | flt (b:UInt64) | ref (a:Addr) | ty (n:String)
 deriving DecidableEq
def RelV:V->Value->Prop
 | .non,u=>u=Value.none
 | .bl b,u=>u=Value.bool b
 | .int i,u=>∃ t,u=Value.int i t
 | .str x,u=>∃ t,u=Value.str x t
 | .byt b,u=>∃ t,u=Value.bytes b t
 | .flt b,u=>∃ t,u=Value.float b t
 | .ref a,u=>u=Value.ref a
 | .ty n,u=>u=Value.type n
abbrev Vals:List V->List Value->Prop:=Paired RelV
variable {xs:List V} {us:List Value}
theorem Vals.length (r:Vals xs us):xs.length=us.length:=Paired.length r
theorem Vals.get:∀ {xs:List V} {us:List Value} {i:Nat} {x:V},Vals xs us->xs[i]?=some x->∃ u,us[i]?=some u/\RelV x u
 | _,_,_,_,.nil,e=>by simp at e
 | _,_,0,_,.cons r _,e=>by simp at e;subst e;exact ⟨_,rfl,r⟩
 | _,_,i+1,x,.cons _ t,e=>by obtain ⟨u,h1,h2⟩:=Vals.get (i:=i) (x:=x) t (by simpa using e);exact ⟨u,by simpa using h1,h2⟩
variable {u:Value}
theorem Vals.set {x:V} (r:RelV x u):∀ {xs:List V} {us:List Value} (i:Nat),Vals xs us->Vals (xs.set i x) (us.set i u)
 | _,_,_,.nil=>.nil
 | _,_,0,.cons _ t=>.cons r t
 | _,_,i+1,.cons q t=>.cons q (Vals.set r i t)
theorem Vals.append:∀ {xs ys:List V} {us ws:List Value},Vals xs us->Vals ys ws->Vals (xs++ys) (us++ws)
 | _,_,_,_,.nil,s=>s
 | _,_,_,_,.cons r t,s=>.cons r (Vals.append t s)
theorem Vals.take:∀ {xs:List V} {us:List Value} (n:Nat),Vals xs us->Vals (xs.take n) (us.take n)
 | _,_,0,_=>.nil
 | _,_,_+1,.nil=>.nil
 | _,_,n+1,.cons r t=>.cons r (Vals.take n t)
theorem Vals.drop:∀ {xs:List V} {us:List Value} (n:Nat),Vals xs us->Vals (xs.drop n) (us.drop n)
 | _,_,0,r=>r
 | _,_,_+1,.nil=>.nil
 | _,_,n+1,.cons _ t=>Vals.drop n t
def RelO:Option V->Option Value->Prop
 | some v,some u=>RelV v u
 | none,none=>True
 | _,_=>False
def KV {κ:Type}:List (κ × V)->List (κ × Value)->Prop:=Paired λ(p:κ × V) (q:κ × Value)=>p.1=q.1/\RelV p.2 q.2
def kV:Key->V
 | .inl i=>.int i
 | .inr x=>.str x
inductive HO where
 | lst (xs:List V)
 | tup (xs:List V)
 | dK (kvs:List (Key × V)) | dT (kvs:List (List Key × V))
 | set (S:Int->Bool) (n:Nat)
 | ins (C dx:Addr) (fs:List (Str × V))
 | own (x:Addr)
 | xd (fs:List (Str × V))
 | met (f x:Addr)
 | rng (lo hi:Int)
 | frz (o:Obj) (u:HO)
 | tbl (ps:Array Value)
 | ext (φ:Heap->Prop)
abbrev Hp:=Addr->Option HO
def upd (H:Hp) (a:Addr) (o:HO):Hp:=λb=>if b=a then some o else H b
variable {H:Hp} {a:Addr}
theorem aq {o:HO}:upd H a o a=some o:=by unfold upd;rw [if_pos rfl]
variable {b:Addr}
theorem aO {o:HO} (h:b≠a):upd H a o b=H b:=by unfold upd;rw [if_neg h]
theorem aB {o:HO} (h:H a=some o) (h':H b=none):a≠b:=by intro e;subst e;rw [h] at h';cases h'
section
variable (P:Program) (w:World)
def ObjOk (H:Hp) (h:Heap) (a:Addr):HO->Prop
 | .lst xs=>xs.length<=sizeLine/\∃ (its:List Value) (n:Nat),Vals xs its/\h.get? a=some { cls:=.type "list",data:=.seq its.toArray n }
 | .tup xs=>xs.length<=sizeLine/\∃ its:List Value,Vals xs its/\IsTup h a its.toArray
 | .dK kvs=>kvs.length<=sizeLine/\(a == sysModules)=false/\∃ vs,KV kvs vs/\h.DictOf (dM P w) a vs
 | .dT kvs=>kvs.length<=sizeLine/\(a == sysModules)=false/\∃ xs:List (List Key × Addr × Value),
   Paired (λ(p:List Key × V) (q:List Key × Addr × Value)=>p.1=q.1/\H q.2.1=some (.tup (p.1.map kV))/\RelV p.2 q.2.2) kvs xs /\
   ∃ o es ep,h.get? a=some o/\o.ExactDict/\o.data=.dict es ep/\es.toList=xs.map (entryOfKey (tupleKind (dM P w)))/\(xs.map (·.1)).Nodup
 | .set S n=>h.SetOf (intKind P w) a S n
 | .ins C dx fs=>H dx=some (.own a)/\fs.length<=1000/\dx≠a/\h.get? a=some (W.instObj C dx) /\
   ∃ mA,h.Ns1 dx mA/\(∀ f,RelO (fs.lookup f) (mA f))/\PySem.Within mA (fs.map (·.1))
 | .own _=>∃ o,h.get? a=some o
 | .xd fs=>∃ mA,h.Ns1 a mA/\∀ f,RelO (fs.lookup f) (mA f)
 | .rng lo hi=>∃ t u v,h.get? a=some { cls:=.type "range",data:=.fields #[.int lo t,.int hi u,.int 1 v] }
 | .frz o u=>h.get? a=some o/\ObjOk H h a u
 | .tbl ps=>h.get? a=some { cls:=.none,data:=.fields ps }
 | .met f x=>h.get? a=some (W.methodObj (.ref f) (.ref x))
 | .ext φ=>φ h/\(∃ o,h.get? a=some o)/\∀ h1 h2:Heap,φ h1->(∀ o,h1.get? a=some o->h2.get? a=some o)->φ h2
def HOk (H:Hp) (h:Heap):Prop:=∀ a o,H a=some o->ObjOk P w H h a o
end
section
variable {P:Program} {w:World} {H H':Hp} {h h':Heap} {a:Addr} {o:HO}
theorem ObjOk.lt (x:ObjOk P w H h a o):a < h.objs.size:=by
 cases o with
 | lst xs=>obtain ⟨_,_,_,_,e⟩:=x;exact Heap.lt_size e
 | tup xs=>obtain ⟨_,_,_,p⟩:=x;exact p.lt
 | dK kvs=>obtain ⟨_,_,_,_,o,_,_,e,_⟩:=x;exact Heap.lt_size e
 | dT kvs=>obtain ⟨_,_,_,_,o,_,_,e,_⟩:=x;exact Heap.lt_size e
 | set S n=>obtain ⟨o,_,_,_,e,_⟩:=x;exact Heap.lt_size e
 | ins C dx fs=>obtain ⟨_,_,_,e,_⟩:=x;exact Heap.lt_size e
 | own y=>obtain ⟨_,e⟩:=x;exact Heap.lt_size e
 | xd fs=>obtain ⟨_,⟨_,_,_,e,_⟩,_⟩:=x;exact Heap.lt_size e
 | rng lo hi=>obtain ⟨_,_,_,e⟩:=x;exact Heap.lt_size e
 | frz ob u=>obtain ⟨e,_⟩:=x;exact Heap.lt_size e
 | tbl ps=>exact Heap.lt_size (show h.get? a=some _ from x)
 | met f y=>exact Heap.lt_size (show h.get? a=some _ from x)
 | ext φ=>obtain ⟨_,⟨_,e⟩,_⟩:=x;exact Heap.lt_size e
theorem Paired.mapP {α β:Type} {F G:α->β->Prop}:∀ {l₁:List α} {l₂:List β},Paired F l₁ l₂->(∀ a b,F a b->G a b)->Paired G l₁ l₂
 | _,_,.nil,_=>.nil
 | _,_,.cons r t,f=>.cons (f _ _ r) (Paired.mapP t f)
theorem ObjOk.stay (x:ObjOk P w H h a o) (k:∀ b u,(b=a\/H b=some (.own a))->h.get? b=some u->h'.get? b=some u)
  (ho:∀ b,H b=some (.own a)->H' b=some (.own a)) (ht:∀ b xs,H b=some (.tup xs)->H' b=some (.tup xs)):ObjOk P w H' h' a o:=by
 induction o with
 | lst xs=>obtain ⟨z,its,n,r,e⟩:=x;exact ⟨z,its,n,r,k _ _ (.inl rfl) e⟩
 | tup xs=>obtain ⟨z,its,r,ob,e,c⟩:=x;exact ⟨z,its,r,ob,k _ _ (.inl rfl) e,c⟩
 | dK kvs=>obtain ⟨z,y,vs,r,ob,es,ep,e,c⟩:=x;exact ⟨z,y,vs,r,ob,es,ep,k _ _ (.inl rfl) e,c⟩
 | dT kvs =>obtain ⟨z,y,xs,r,ob,es,ep,e,c⟩:=x;exact ⟨z,y,xs,Paired.mapP r λp q z=>⟨z.1,ht _ _ z.2.1,z.2.2⟩,ob,es,ep,k _ _ (.inl rfl) e,c⟩
 | set S n=>obtain ⟨ob,es,ep,t,e,c⟩:=x;exact ⟨ob,es,ep,t,k _ _ (.inl rfl) e,c⟩
 | ins C dx fs =>obtain ⟨d,z,ne,e,mA,⟨od,es,ep,e2,c⟩,r⟩:=x;exact ⟨ho _ d,z,ne,k _ _ (.inl rfl) e,mA,⟨od,es,ep,k _ _ (.inr d) e2,c⟩,r⟩
 | own y=>obtain ⟨ob,e⟩:=x;exact ⟨ob,k _ _ (.inl rfl) e⟩
 | xd fs=>obtain ⟨mA,⟨od,es,ep,e,c⟩,r⟩:=x;exact ⟨mA,⟨od,es,ep,k _ _ (.inl rfl) e,c⟩,r⟩
 | rng lo hi=>obtain ⟨t,u,v,e⟩:=x;exact ⟨t,u,v,k _ _ (.inl rfl) e⟩
 | frz ob u ih=>obtain ⟨e,q⟩:=x;exact ⟨k _ _ (.inl rfl) e,ih q⟩
 | tbl ps =>have e:h.get? a=some { cls:=.none,data:=.fields ps }:=x;show h'.get? a=some { cls:=.none,data:=.fields ps };exact k a _ (.inl rfl) e
 | met f y =>have e:h.get? a=some (W.methodObj (.ref f) (.ref y)):=x;show h'.get? a=some (W.methodObj (.ref f) (.ref y));exact k a _ (.inl rfl) e
 | ext φ=>obtain ⟨p,⟨o,e⟩,st⟩:=x;exact ⟨st _ _ p λo q=>k _ _ (.inl rfl) q,⟨o,k _ _ (.inl rfl) e⟩,st⟩
theorem HOk.lt (x:HOk P w H h) (e:H a=some o):a < h.objs.size:=(x a o e).lt
theorem HOk.fresh (x:HOk P w H h) (e:h.objs.size<=a):H a=none:=by
 cases q:H a with
 | none=>rfl
 | some u=>exact absurd (Nat.lt_of_lt_of_le (x.lt q) e) (Nat.lt_irrefl _)
theorem HOk.kept (x:HOk P w H h) (k:∀ b u,h.get? b=some u->h'.get? b=some u):HOk P w H h':=λa o e =>
 (x a o e).stay (λb u _ q=>k b u q) (λ_ q=>q) λ_ _ q=>q
theorem HOk.laid (x:HOk P w H h) (k:∀ b u,h.get? b=some u->h'.get? b=some u) (hp:h.objs.size<=a) (new:ObjOk P w (upd H a o) h' a o):HOk P w (upd H a o) h':=λb u e=>by
 have hn:=x.fresh hp;by_cases hb:b=a
 ·subst hb;rw [aq] at e;cases e;exact new
 ·rw [aO hb] at e;exact (x b u e).stay (λc v _ q=>k c v q) (λc q=>by rw [aO (aB q hn)];exact q) λc xs q=>by rw [aO (aB q hn)];exact q
end
def Rd (H:Hp) (a:Addr) (u:HO):Prop:=H a=some u\/∃ o,H a=some (.frz o u)
variable {P:Program} {w:World} {h:Heap}
theorem Rd.ok {u:HO} (r:Rd H a u) (x:HOk P w H h):ObjOk P w H h a u:=by
 rcases r with r | ⟨o,r⟩
 ·exact x a u r
 ·obtain ⟨_,q⟩:=x a _ r;exact q
def Mut:Option HO->Prop
 | some (.lst _)=>True
 | some (.dK _)=>True
 | some (.dT _)=>True
 | some (.set _ _)=>True
 | some (.ins _ _ _)=>True
 | some (.ext _)=>True
 | _=>False
section
variable {P:Program} {w:World} {H:Hp} {h h':Heap} {x e:Addr} {o':HO}
theorem HOk.write (ok:HOk P w H h) (mu:Mut (H x)) (he:e=x\/H e=some (.own x)) (k:∀ b u,b≠e->h.get? b=some u->h'.get? b=some u) (heo:∃ u,h'.get? e=some u)
  (new:ObjOk P w (upd H x o') h' x o'):HOk P w (upd H x o') h':=λb u q=>by
 have nown:∀ c y,H c=some (.own y)->c≠x:=λc y r z=>by subst z;rw [r] at mu;exact mu
 have ntup:∀ c xs,H c=some (.tup xs)->c≠x:=λc xs r z=>by subst z;rw [r] at mu;exact mu
 by_cases hb:b=x
 ·subst hb;rw [aq] at q;cases q;exact new
 ·rw [aO hb] at q;by_cases hbe:b=e
  ·have q':H b=some (.own x):=by
    rcases he with z | z
    ·exact absurd (hbe.trans z) hb
    ·rw [hbe];exact z
   rw [q] at q';cases q';obtain ⟨v,hv⟩:=heo;exact ⟨v,by rw [hbe];exact hv⟩
  ·refine (ok b u q).stay (λc v hc r=>k c v ?_ r) (λc r=>by rw [aO (nown c b r)];exact r) λc xs r=>by rw [aO (ntup c xs r)];exact r
   rcases hc with rfl | hc
   ·exact hbe
   ·rintro rfl;rcases he with z | z
    ·exact nown c b hc z
    ·rw [hc] at z;cases z;exact hb rfl
end
structure Un (fs ex:List Addr) (H H':Hp) (h h':Heap):Prop where
 keep:∀ b o,h.get? b=some o->H b=none->b ∉ fs->b ∉ ex->h'.get? b=some o
 slot:∀ b o,h.get? b=some o->H b=none->b ∈ fs->b ∉ ex->∃ sl,h'.get? b=some { o with slots:=sl }
 free:∀ b o,h.get? b=some o->H b=none->b ∉ ex->H' b=none
 there:∀ b o,h.get? b=some o->b ∉ ex->∃ o',h'.get? b=some o'
 tups:∀ b xs,H b=some (.tup xs)->H' b=some (.tup xs)
 frzs:∀ b o u,H b=some (.frz o u)->H' b=some (.frz o u)
 tbls:∀ b ps,H b=some (.tbl ps)->∃ more,H' b=some (.tbl (ps++more))
section
variable {fs fs' ex ex':List Addr} {H H1 H2:Hp} {h h1 h2 h':Heap} {a x e:Addr} {o:HO}
theorem Un.any (u:Un fs ex H H1 h h1) {b:Addr} {ob:Obj} (q:h.get? b=some ob) (n:H b=none) (hx:b ∉ ex):∃ sl,h1.get? b=some { ob with slots:=sl }:=by
 by_cases hb:b ∈ fs
 ·exact u.slot b ob q n hb hx
 ·exact ⟨ob.slots,u.keep b ob q n hb hx⟩
theorem Un.kept (k:∀ b u,h.get? b=some u->h'.get? b=some u):Un fs ex H H h h' :=
 ⟨λb ob q _ _ _=>k b ob q,λb ob q _ _ _=>⟨ob.slots,k b ob q⟩,λ_ _ _ n _=>n,λb ob q _=>⟨ob,k b ob q⟩,λ_ _ q=>q,λ_ _ _ q=>q,λ_ ps q=>⟨#[],by rw [q];simp⟩⟩
theorem Un.refl:Un fs ex H H h h:=Un.kept λ_ _ q=>q
theorem Un.laid (k:∀ b u,h.get? b=some u->h'.get? b=some u) (hp:h.objs.size<=a) (hn:H a=none):Un fs ex H (upd H a o) h h' where
 keep:=λb u q _ _ _=>k b u q
 slot:=λb u q _ _ _=>⟨u.slots,k b u q⟩
 free:=λb u q n _=>by rw [aO (Nat.ne_of_lt (Nat.lt_of_lt_of_le (Heap.lt_size q) hp))];exact n
 there:=λb u q _=>⟨u,k b u q⟩
 tups:=λb xs q=>by rw [aO (aB q hn)];exact q
 frzs:=λb u xs q=>by rw [aO (aB q hn)];exact q
 tbls:=λb ps q=>⟨#[],by rw [aO (aB q hn),q];simp⟩
theorem Un.write (mu:Mut (H x)) (he:e=x\/H e=some (.own x)) (k:∀ b u,b≠e->h.get? b=some u->h'.get? b=some u) (heo:∃ u,h'.get? e=some u):Un fs ex H (upd H x o) h h':=by
 have hx:∀ b,H b=none->b≠x:=λb n z=>by subst z;rw [n] at mu;exact mu
 have hb:∀ b,H b=none->b≠e:=λb n z=>by
  subst z;rcases he with r | r
  ·exact hx b n r
  ·rw [n] at r;cases r
 have hm:∀ b u,H b=some u->¬ Mut (some u)->b≠x:=λb u q nm z=>by subst z;rw [q] at mu;exact nm mu
 refine ⟨λb u q n _ _=>k b u (hb b n) q,λb u q n _ _=>⟨u.slots,k b u (hb b n) q⟩,λb u q n _=>by rw [aO (hx b n)];exact n,λb u q _=>?_,
  λb xs q=>by rw [aO (hm b _ q λz=>z)];exact q,λb u xs q=>by rw [aO (hm b _ q λz=>z)];exact q,λb ps q=>⟨#[],by rw [aO (hm b _ q λz=>z),q];simp⟩⟩
 by_cases hbe:b=e
 ·subst hbe;exact heo
 ·exact ⟨u,k b u hbe q⟩
end
def trk (h:Heap) (H:Hp):List Addr:=(List.range h.objs.size).filter λa=>(H a).isSome
def qH (h:Heap) (H:Hp):Heap:=W.hideAll h (trk h H)
theorem wX (h:Heap) (H:Hp):(qH h H).objs.size=h.objs.size:=W.hideAll_size _ _
variable {o:Obj}
theorem yR (e:h.get? b=some o) (n:H b=none):(qH h H).get? b=some o :=
 W.hideAll_get _ e λhm=>by have q:(H b).isSome=true:=(List.mem_filter.mp hm).2;rw [n] at q;simp at q
theorem BG (e:(qH h H).get? b=some o):h.get? b=some o/\H b=none:=by
 have e':h.get? b=some o:=W.of_hideAll (trk h H) e;refine ⟨e',?_⟩
 cases q:H b with
 | none=>rfl
 | some x =>have hm:b ∈ trk h H:=List.mem_filter.mpr ⟨List.mem_range.mpr (Heap.lt_size e'),by simp [q]⟩;have z:(qH h H).get? b=none:=W.hideAll_none (trk h H) hm;rw [z] at e;cases e
structure Mod (K:W.Frag) (mg:Str->Option Value) (base:Heap):Prop where
 kin:K.In base
 glob:base.Ns mainGlobals mg
 blt:∃ mb,base.Ns builtinsNs mb/\∀ x:Str,x≠"__name__"->mb x=bootBuiltins x
 nolimit:base.NoLimit
structure Cx where
 prog:Program
 w:World
 K:W.Frag
 mg:Str->Option Value
 base:Heap
 A:Around
 N:List Str
 s₀:Shared
 H₀:Hp
 env:Env
 outer:List Env
 stack:List Env
 ex:List Addr
 fn:Str->Bool
 calm:Bool
 pn:List (Addr × Obj)
 xe:Value->Shared->Prop
def frs (l:List Env):List Addr:=l.filterMap (·.frame)
abbrev Cx.fs (X:Cx):List Addr:=frs X.outer
def Vis (sc:Scope) (x:Str):Prop:=sc.names.lookup x=some .local\/sc.names.lookup x=some .cell\/sc.names.lookup x=some .free
def Loc (sc:Scope) (x:Str):Prop:=sc.names.lookup x=some .local\/sc.names.lookup x=some .cell
def Fe (env:Env) (h:Heap) (m:Str->Option Value) (x:Str) (u:Value):Prop :=
 (env.kindOf x=some .local/\m x=some u)\/((env.kindOf x=some .cell\/env.kindOf x=some .free)/\∃ c,env.cells.lookup x=some c/\h.IsCell c (some u))
structure Cx.Ok (X:Cx):Prop where
 mod:Mod X.K X.mg X.base
 kind:X.env.scope.kind=.function
 glob:X.env.globals=mainGlobals
 blt:X.env.builtins=builtinsNs
 above:X.s₀.heap.objs.size<=X.env.locals
 inj:∀ x y c,X.env.cells.lookup x=some c->X.env.cells.lookup y=some c->x=y
 has:∀ x,(X.env.kindOf x=some .cell\/X.env.kindOf x=some .free)->∃ c,X.env.cells.lookup x=some c
 cab:∀ x c,X.fn x=true->X.env.cells.lookup x=some c->X.s₀.heap.objs.size<=c
 hd:X.calm=true->X.A.handled=none
 frames:X.A.frames=some X.stack
 stk:X.stack=X.outer\/(X.stack=X.env::X.outer/\X.env.frame=some X.env.locals)
 exf:∀ b ∈ X.ex,b≠X.env.locals/\∀ x c,X.env.cells.lookup x=some c->c≠b
 bs:∀ b o,X.base.get? b=some o->X.s₀.heap.get? b=some o/\X.H₀ b=none
 bsz:X.base.objs.size<=X.s₀.heap.objs.size
 noex:∀ b o,X.base.get? b=some o->b ∉ X.ex
 exfs:∀ b ∈ X.ex,b ∉ X.fs
 funs:X.s₀.heap.FunFrames X.base X.outer
 frf:∀ b ∈ X.fs,X.H₀ b=none
structure Inv (X:Cx) (pins:List (Addr × Obj)) (σ:List (Option V)) (H:Hp) (s:Shared):Prop where
 ok:X.Ok
 os:s.os=X.s₀.os
 bare:AllBare s.gens
 base:Un X.fs X.ex X.H₀ H X.s₀.heap s.heap
 loc:∃ m,s.heap.Ns X.env.locals m/\∀ (i:Nat) (x:Str) (v:V),X.N[i]?=some x->σ[i]?=some (some v)->Vis X.env.scope x->∃ u,RelV v u/\Fe X.env s.heap m x u
 cell:∀ x c,X.env.cells.lookup x=some c->∃ v,s.heap.IsCell c v
 free:H X.env.locals=none
 freeC:∀ x c,X.env.cells.lookup x=some c->H c=none
 pin:∀ p ∈ X.pn++pins,s.heap.get? p.1=some p.2/\H p.1=none/\p.1≠X.env.locals/\p.1 ∉ X.fs/\∀ v,p.2.data≠.cell v
 hok:HOk X.prog X.w H s.heap
 len:σ.length=X.N.length
section
variable {X:Cx} {pins:List (Addr × Obj)} {σ:List (Option V)} {H H':Hp} {s:Shared} {h':Heap}
theorem Cx.Ok.nofr (ok:X.Ok) {b:Addr} {o:Obj} (e:X.base.get? b=some o):b ∉ X.fs:=λhb=>by have:=(ok.funs.mem hb).1;rw [e] at this;cases this
theorem Inv.bs (I:Inv X pins σ H s):∀ b o,X.base.get? b=some o->s.heap.get? b=some o/\H b=none:=λb o e =>
 ⟨I.base.keep b o (I.ok.bs b o e).1 (I.ok.bs b o e).2 (I.ok.nofr e) (I.ok.noex b o e),I.base.free b o (I.ok.bs b o e).1 (I.ok.bs b o e).2 (I.ok.noex b o e)⟩
theorem Inv.bk (I:Inv X pins σ H s):∀ b o,X.base.get? b=some o->s.heap.get? b=some o:=λb o e=>(I.bs b o e).1
theorem Inv.mod (I:Inv X pins σ H s):Mod X.K X.mg X.base:=I.ok.mod
theorem Inv.kIn (I:Inv X pins σ H s):X.K.In s.heap:=I.ok.mod.kin.keeps I.bk
theorem Inv.lt (I:Inv X pins σ H s):X.env.locals < s.heap.objs.size:=let ⟨_,hn,_⟩:=I.loc;hn.lt
theorem Inv.sz (I:Inv X pins σ H s):X.s₀.heap.objs.size<=s.heap.objs.size:=Nat.le_trans I.ok.above (Nat.le_of_lt I.lt)
variable {a:Addr}
theorem Inv.nofs (I:Inv X pins σ H s) (h:s.heap.objs.size<=a):a ∉ X.fs:=λhb=>by obtain ⟨_,o,ho,_⟩:=I.ok.funs.mem hb;exact absurd (Nat.lt_of_lt_of_le (Heap.lt_size ho) (Nat.le_trans I.sz h)) (Nat.lt_irrefl _)
theorem Inv.cne (I:Inv X pins σ H s):∀ x c,X.env.cells.lookup x=some c->c≠X.env.locals:=λx c e z=>by obtain ⟨v,o,ho,hd⟩:=I.cell x c e;obtain ⟨m,⟨o',es,ep,ho',hd',_⟩,_⟩:=I.loc;rw [z,ho'] at ho;cases ho;rw [hd'] at hd;cases hd
theorem Inv.funs (I:Inv X pins σ H s):s.heap.FunFrames X.base X.outer:=by
 have all:∀ (l:List Env),(∀ b ∈ frs l,b ∈ X.fs)->X.s₀.heap.FunFrames X.base l->s.heap.FunFrames X.base l:=by
  intro l
  induction l with
  | nil=>intro _ _;trivial
  | cons env r ih =>intro hs hl;obtain ⟨hk,⟨L,o,hf,hn,ho,hd⟩,hr⟩:=hl;have hL:L ∈ X.fs:=hs L (by unfold frs;rw [List.filterMap_cons,hf];exact List.mem_cons_self);obtain ⟨sl,e⟩:=I.base.slot L o ho (I.ok.frf L hL) hL λz=>I.ok.exfs L z hL;exact ⟨hk,⟨L,_,hf,hn,e,hd⟩,ih (λb hb=>hs b (by unfold frs;rw [List.filterMap_cons,hf];exact List.mem_cons_of_mem _ hb)) hr⟩
 exact all X.outer (λ_ hb=>hb) I.ok.funs
theorem Inv.stack (I:Inv X pins σ H s):s.heap.FunFrames X.base X.stack:=by
 rcases I.ok.stk with e | ⟨e,hf⟩
 ·rw [e];exact I.funs
 ·rw [e];obtain ⟨m,hn,_⟩:=I.loc;refine .cons (by rw [I.ok.kind];decide) hf hn ?_ I.funs;exact Heap.get?_none_of_le (Nat.le_trans I.ok.bsz I.ok.above)
theorem Inv.stkSub (I:Inv X pins σ H s):∀ b ∈ frs X.stack,b ∈ X.env.locals::X.fs:=λb hb=>by
 rcases I.ok.stk with e | ⟨e,hf⟩
 ·rw [e] at hb;exact List.mem_cons_of_mem _ hb
 ·rw [e] at hb;unfold frs at hb;rw [List.filterMap_cons,hf] at hb;exact hb
theorem Inv.stkFree (I:Inv X pins σ H s):∀ b ∈ frs X.stack,H b=none:=λb hb=>by
 rcases List.mem_cons.mp (I.stkSub b hb) with e | hb
 ·rw [e];exact I.free
 ·obtain ⟨_,o,ho,_⟩:=I.ok.funs.mem hb;exact I.base.free b o ho (I.ok.frf b hb) λz=>I.ok.exfs b z hb
variable {g':Array GenState} {t':Nat} {d':Drawn} {ch:List Addr}
theorem Inv.step (I:Inv X pins σ H s)
  (hch:∀ b ∈ ch,(b ∈ X.ex\/X.s₀.heap.objs.size<=b)/\b≠X.env.locals/\(∀ x c,X.env.cells.lookup x=some c->c≠b)/\∀ p ∈ X.pn++pins,p.1≠b)
  (keep:∀ b o,b≠X.env.locals->b ∉ X.fs->b ∉ ch->s.heap.get? b=some o->H b=none->h'.get? b=some o)
  (slot:∀ b o,b≠X.env.locals->b ∈ X.fs->b ∉ ch->s.heap.get? b=some o->H b=none->∃ sl,h'.get? b=some { o with slots:=sl }) (free:∀ b o,b ∉ ch->s.heap.get? b=some o->H b=none->H' b=none)
  (there:∀ b o,b ∉ ch->s.heap.get? b=some o->∃ o',h'.get? b=some o')
  (tups:∀ b xs,H b=some (.tup xs)->H' b=some (.tup xs)) (frzs:∀ b o u,H b=some (.frz o u)->H' b=some (.frz o u)) (tbls:∀ b ps,H b=some (.tbl ps)->∃ more,H' b=some (.tbl (ps++more)))
  (ns:∀ m,s.heap.Ns X.env.locals m->h'.Ns X.env.locals m) (hok:HOk X.prog X.w H' h') (hg:AllBare g') :
  Inv X pins σ H' { s with heap:=h',gens:=g',drawn:=d',toks:=t' }:=by
 have neL:∀ b o,X.s₀.heap.get? b=some o->b≠X.env.locals:=λb o e=>Nat.ne_of_lt (Nat.lt_of_lt_of_le (Heap.lt_size e) I.ok.above)
 have neC:∀ b o,X.s₀.heap.get? b=some o->b ∉ X.ex->b ∉ ch:=λb o e hx hb=>by
  rcases (hch b hb).1 with z | z
  ·exact hx z
  ·exact absurd (Nat.lt_of_lt_of_le (Heap.lt_size e) z) (Nat.lt_irrefl _)
 have cellK:∀ x c,X.env.cells.lookup x=some c->∀ v,s.heap.IsCell c v->h'.IsCell c v:=λx c e v ⟨o,ho,hd⟩=>by
  have nch:c ∉ ch:=λz=>(hch c z).2.2.1 x c e rfl;by_cases hc:c ∈ X.fs
  ·obtain ⟨sl,q⟩:=slot c o (I.cne x c e) hc nch ho (I.freeC x c e);exact ⟨_,q,hd⟩
  ·exact ⟨o,keep c o (I.cne x c e) hc nch ho (I.freeC x c e),hd⟩
 refine ⟨I.ok,I.os,hg,⟨λb o e n hb hx=>?_,λb o e n hb hx=>?_,λb o e n hx=>?_,λb o e hx=>?_,λb xs e=>tups b xs (I.base.tups b xs e),λb o xs e=>frzs b o xs (I.base.frzs b o xs e),λb ps e=>?_⟩,?_,λx c e=>?_,?_,λx c e=>?_,λp hp=>?_,hok,I.len⟩
 ·exact keep b o (neL b o e) hb (neC b o e hx) (I.base.keep b o e n hb hx) (I.base.free b o e n hx)
 ·obtain ⟨sl,e1⟩:=I.base.slot b o e n hb hx;obtain ⟨sl',e2⟩:=slot b _ (neL b o e) hb (neC b o e hx) e1 (I.base.free b o e n hx);exact ⟨sl',e2⟩
 ·obtain ⟨o',e1⟩:=I.base.there b o e hx;exact free b o' (neC b o e hx) e1 (I.base.free b o e n hx)
 ·obtain ⟨o',e1⟩:=I.base.there b o e hx;exact there b o' (neC b o e hx) e1
 ·obtain ⟨m1,e1⟩:=I.base.tbls b ps e;obtain ⟨m2,e2⟩:=tbls b _ e1;exact ⟨m1++m2,by rw [e2,Array.append_assoc]⟩
 ·obtain ⟨m,hn,hl⟩:=I.loc;refine ⟨m,ns m hn,λi x v e1 e2 e3=>?_⟩;obtain ⟨u,r,l⟩:=hl i x v e1 e2 e3;refine ⟨u,r,?_⟩;rcases l with l | ⟨k,c,e,z⟩
  ·exact .inl l
  ·exact .inr ⟨k,c,e,cellK x c e _ z⟩
 ·obtain ⟨v,z⟩:=I.cell x c e;exact ⟨v,cellK x c e v z⟩
 ·obtain ⟨m,⟨o,_,_,ho,_⟩,_⟩:=I.loc;exact free _ o (λz=>(hch _ z).2.1 rfl) ho I.free
 ·obtain ⟨v,o,ho,hd⟩:=I.cell x c e;exact free c o (λz=>(hch c z).2.2.1 x c e rfl) ho (I.freeC x c e)
 ·obtain ⟨e,n,ne,nf,d⟩:=I.pin p hp;have nch:p.1 ∉ ch:=λz=>(hch p.1 z).2.2.2 p hp rfl;exact ⟨keep p.1 p.2 ne nf nch e n,free p.1 p.2 nch e n,ne,nf,d⟩
theorem Inv.un (I:Inv X pins σ H s) (u:Un X.fs [] H H' s.heap h') (hok:HOk X.prog X.w H' h'):Inv X pins σ H' { s with heap:=h',toks:=t' }:=by
 obtain ⟨m,⟨o,es,ep,ho,r⟩,_⟩:=id I.loc;obtain ⟨sl,hL⟩:=u.any ho I.free (by simp)
 exact I.step (g':=s.gens) (d':=s.drawn) (ch:=[]) (λ_ z=>nomatch z) (λb o _ hb _ e n=>u.keep b o e n hb (by simp)) (λb o _ hb _ e n=>u.slot b o e n hb (by simp)) (λb o _ e n=>u.free b o e n (by simp)) (λb o _ e=>u.there b o e (by simp)) u.tups u.frzs u.tbls (λm' hm=>by
  obtain ⟨o',es',ep',ho',r'⟩:=hm;rw [ho] at ho';cases ho';exact ⟨_,es',ep',hL,r'⟩) hok I.bare
theorem Inv.call (I:Inv X pins σ H s) (u:Un (frs X.stack) ch H H' s.heap h') (hok:HOk X.prog X.w H' h') (hg:AllBare g')
  (hch:∀ b ∈ ch,(b ∈ X.ex\/X.s₀.heap.objs.size<=b)/\b≠X.env.locals/\(∀ x c,X.env.cells.lookup x=some c->c≠b)/\∀ p ∈ X.pn++pins,p.1≠b) :
  Inv X pins σ H' { s with heap:=h',gens:=g',drawn:=d',toks:=t' }:=by
 obtain ⟨m,⟨o,es,ep,ho,r⟩,_⟩:=id I.loc;obtain ⟨sl,hL⟩:=u.any ho I.free λz=>(hch _ z).2.1 rfl
 exact I.step (ch:=ch) hch (λb o hL hb hc e n=>u.keep b o e n (λz=>(List.mem_cons.mp (I.stkSub b z)).elim hL hb) hc) (λb o _ _ hc e n=>u.any e n hc) (λb o hc e n=>u.free b o e n hc) (λb o hc e=>u.there b o e hc) u.tups u.frzs u.tbls (λm' hm=>by
  obtain ⟨o',es',ep',ho',r'⟩:=hm;rw [ho] at ho';cases ho';exact ⟨_,es',ep',hL,r'⟩) hok hg
theorem Inv.turned {it:Addr} (I:Inv X pins σ H s) (k:∀ b o,b≠it->s.heap.get? b=some o->h'.get? b=some o) (hn:H it=none) (hL:it≠X.env.locals)
  (h1:it ∈ X.ex\/X.s₀.heap.objs.size<=it) (h2:∀ x c,X.env.cells.lookup x=some c->c≠it) (h3:∀ p ∈ X.pn++pins,p.1≠it):Inv X pins σ H { s with heap:=h',toks:=t' }:=by
 have nit:∀ b u,H b=some u->b≠it:=λb u e z=>by rw [z,hn] at e;cases e
 refine I.step (g':=s.gens) (d':=s.drawn) (ch:=[it]) (λb hb=>?_) (λb o _ _ hc e _=>k b o (λz=>hc (by simp [z])) e) (λb o _ _ hc e _=>⟨o.slots,k b o (λz=>hc (by simp [z])) e⟩) (λ_ _ _ _ n=>n)
  (λb o hc e=>⟨o,k b o (λz=>hc (by simp [z])) e⟩) (λ_ _ e=>e) (λ_ _ _ e=>e) (λb ps e=>⟨#[],by rw [e];simp⟩) (λm hm=>?_) (λb u e=>?_) I.bare
 ·have e:b=it:=by simpa using hb
  subst e;exact ⟨h1,hL,h2,h3⟩
 ·obtain ⟨o,es,ep,ho,r⟩:=hm;exact ⟨o,es,ep,k _ o (Ne.symm hL) ho,r⟩
 ·refine (I.hok b u e).stay (λc v hc q=>k c v ?_ q) (λ_ q=>q) λ_ _ q=>q;rcases hc with z | z
  ·rw [z];exact nit b u e
  ·exact nit c _ z
theorem Inv.tok (I:Inv X pins σ H s) (t:Nat):Inv X pins σ H { s with toks:=t }:=I.un (h':=s.heap) (t':=t) Un.refl I.hok
theorem Inv.kept (I:Inv X pins σ H s) (k:∀ b u,s.heap.get? b=some u->h'.get? b=some u):Inv X pins σ H { s with heap:=h',toks:=t' }:=I.un (Un.kept k) (I.hok.kept k)
variable {o:HO}
theorem Inv.laid (I:Inv X pins σ H s) (k:∀ b u,s.heap.get? b=some u->h'.get? b=some u) (hp:s.heap.objs.size<=a) (new:ObjOk X.prog X.w (upd H a o) h' a o) :
  Inv X pins σ (upd H a o) { s with heap:=h',toks:=t' }:=I.un (Un.laid k hp (I.hok.fresh hp)) (I.hok.laid k hp new)
theorem Inv.write {x e:Addr} (I:Inv X pins σ H s) (mu:Mut (H x)) (he:e=x\/H e=some (.own x)) (k:∀ b u,b≠e->s.heap.get? b=some u->h'.get? b=some u) (heo:∃ u,h'.get? e=some u)
  (new:ObjOk X.prog X.w (upd H x o) h' x o):Inv X pins σ (upd H x o) { s with heap:=h',toks:=t' }:=I.un (Un.write mu he k heo) (I.hok.write mu he k heo new)
theorem Inv.pins_of {pins':List (Addr × Obj)} (I:Inv X pins σ H s) (h:∀ p ∈ pins',s.heap.get? p.1=some p.2/\H p.1=none/\p.1≠X.env.locals/\p.1 ∉ X.fs/\∀ v,p.2.data≠.cell v):Inv X pins' σ H s :=
 ⟨I.ok,I.os,I.bare,I.base,I.loc,I.cell,I.free,I.freeC,λp hp=>(List.mem_append.mp hp).elim (λz=>I.pin p (List.mem_append_left _ z)) (h p),I.hok,I.len⟩
variable {i:Nat} {x:Str}
theorem sR {N:List Str} (hN:N.Nodup) {j:Nat} (a:N[i]?=some x) (b:N[j]?=some x):i=j:=by obtain ⟨h1,e1⟩:=List.getElem?_eq_some_iff.mp a;obtain ⟨h2,e2⟩:=List.getElem?_eq_some_iff.mp b;exact (List.getElem_inj hN).mp (e1.trans e2.symm)
variable {M:Model} {A:Around} {v:V} {u:Value}
theorem pW {E:Value->Shared->Prop} {Q:Unit->Shared->Prop} (I:Inv X pins σ H s) (hN:X.N.Nodup) (hi:X.N[i]?=some x) (hx:Loc X.env.scope x) (r:RelV v u)
  (h:∀ s',Inv X pins (σ.set i (some v)) H s'->(∃ a,Heap.SameBut a s.heap s'.heap/\(a=X.env.locals\/X.env.cells.lookup x=some a))->Q () s') (hf:X.fn x=true\/X.env.scope.names.lookup x=some .local:=by first | exact .inl rfl | exact .inr rfl | assumption):wpAny M A (storeName X.env x u) Q E s:=by
 obtain ⟨m,hn,hl⟩:=id I.loc;have hcls:(X.env.scope.kind == .class || (X.env.scope.kind == .module && X.env.locals != X.env.globals))=false:=by rw [I.ok.kind];rfl
 have hiσ:i < σ.length:=by rw [I.len];exact (List.getElem?_eq_some_iff.mp hi).1
 have cne:=I.cne
 have tracked:∀ {a:Addr} {h':Heap},(∃ o,s.heap.get? a=some o/\H a=none)->Heap.SameBut a s.heap h'->HOk X.prog X.w H h':=λ{a h'} ha hs b ob e=>by
  obtain ⟨_,_,hfree⟩:=ha;refine (I.hok b ob e).stay (λc w' hc q=>(hs.2 c ?_).trans q) (λ_ q=>q) λ_ _ q=>q;rintro rfl;rcases hc with rfl | hc
  ·rw [hfree] at e;cases e
  ·rw [hfree] at hc;cases hc
 rcases hx with hk | hk
 ·refine wpAny_storeName_local hk hn (λh' hn' hs=>?_) hcls;obtain ⟨oL,_,_,hoL,_⟩:=id hn;refine h _ ⟨I.ok,I.os,I.bare,⟨λb o e n hb hx=>?_,λb o e n hb hx=>?_,I.base.free,λb o e hx=>?_,I.base.tups,I.base.frzs,I.base.tbls⟩,⟨_,hn',λj y v' e1 e2 e3=>?_⟩,λy c e=>?_,I.free,I.freeC,λp hp=>?_,tracked ⟨oL,hoL,I.free⟩ hs,by simpa using I.len⟩ ⟨_,hs,.inl rfl⟩
  ·exact (hs.2 b (Nat.ne_of_lt (Nat.lt_of_lt_of_le (Heap.lt_size e) I.ok.above))).trans (I.base.keep b o e n hb hx)
  ·obtain ⟨sl,e1⟩:=I.base.slot b o e n hb hx;exact ⟨sl,(hs.2 b (Nat.ne_of_lt (Nat.lt_of_lt_of_le (Heap.lt_size e) I.ok.above))).trans e1⟩
  ·obtain ⟨o',e1⟩:=I.base.there b o e hx;exact ⟨o',(hs.2 b (Nat.ne_of_lt (Nat.lt_of_lt_of_le (Heap.lt_size e) I.ok.above))).trans e1⟩
  ·by_cases hj:j=i
   ·subst hj;rw [hi] at e1;cases e1;rw [List.getElem?_set_self hiσ] at e2;cases e2;exact ⟨u,r,.inl ⟨hk,by simp⟩⟩
   ·rw [List.getElem?_set_ne (Ne.symm hj)] at e2;obtain ⟨u',r',q⟩:=hl j y v' e1 e2 e3;refine ⟨u',r',?_⟩;rcases q with ⟨k,e⟩ | ⟨k,c,e,z⟩
    ·refine .inl ⟨k,?_⟩;have:y≠x:=λe=>hj (sR hN e1 (e ▸ hi));simp [this,e]
    ·exact .inr ⟨k,c,e,z.sameBut hs (cne y c e)⟩
  ·obtain ⟨w',z⟩:=I.cell y c e;exact ⟨w',z.sameBut hs (cne y c e)⟩
  ·obtain ⟨e,n,ne,nf,d⟩:=I.pin p hp;exact ⟨(hs.2 p.1 ne).trans e,n,ne,nf,d⟩
 ·have hfn:X.fn x=true:=by
   rcases hf with z | z
   ·exact z
   ·rw [z] at hk;cases hk
  obtain ⟨c,hc⟩:=I.ok.has x (.inl hk);obtain ⟨w',z⟩:=I.cell x c hc;refine wpAny_storeName_cell I.ok.kind hk hc z (λh' hc' hs=>?_);obtain ⟨oc,hoc,hocd⟩:=id z;refine h { s with heap:=h' } ⟨I.ok,I.os,I.bare,⟨λb o e n hb hx=>?_,λb o e n hb hx=>?_,I.base.free,λb o e hx=>?_,I.base.tups,I.base.frzs,I.base.tbls⟩,⟨m,hn.sameBut hs (Ne.symm (cne x c hc)),λj y v' e1 e2 e3=>?_⟩,λy c' e=>?_,I.free,I.freeC,λp hp=>?_,tracked ⟨oc,hoc,I.freeC x c hc⟩ hs,by simpa using I.len⟩ ⟨c,hs,.inr hc⟩
  ·exact (hs.2 b (Nat.ne_of_lt (Nat.lt_of_lt_of_le (Heap.lt_size e) (I.ok.cab x c hfn hc)))).trans (I.base.keep b o e n hb hx)
  ·obtain ⟨sl,e1⟩:=I.base.slot b o e n hb hx;exact ⟨sl,(hs.2 b (Nat.ne_of_lt (Nat.lt_of_lt_of_le (Heap.lt_size e) (I.ok.cab x c hfn hc)))).trans e1⟩
  ·obtain ⟨o',e1⟩:=I.base.there b o e hx;exact ⟨o',(hs.2 b (Nat.ne_of_lt (Nat.lt_of_lt_of_le (Heap.lt_size e) (I.ok.cab x c hfn hc)))).trans e1⟩
  ·by_cases hj:j=i
   ·subst hj;rw [hi] at e1;cases e1;rw [List.getElem?_set_self hiσ] at e2;cases e2;exact ⟨u,r,.inr ⟨.inl hk,c,hc,hc'⟩⟩
   ·rw [List.getElem?_set_ne (Ne.symm hj)] at e2;obtain ⟨u',r',q⟩:=hl j y v' e1 e2 e3;refine ⟨u',r',?_⟩;rcases q with q | ⟨k,c',e,z'⟩
    ·exact .inl q
    ·refine .inr ⟨k,c',e,z'.sameBut hs ?_⟩;rintro rfl;exact hj (sR hN e1 (I.ok.inj _ _ _ e hc ▸ hi))
  ·by_cases hcc:c'=c
   ·subst hcc;exact ⟨_,hc'⟩
   ·obtain ⟨w2,z2⟩:=I.cell y c' e;exact ⟨w2,z2.sameBut hs hcc⟩
  ·obtain ⟨e,n,ne,nf,d⟩:=I.pin p hp;refine ⟨(hs.2 p.1 ?_).trans e,n,ne,nf,d⟩;intro q;rw [q,hoc] at e;have q':oc=p.2:=Option.some.inj e;exact d w' (by rw [<- q'];exact hocd)
theorem jw {E:Value->Shared->Prop} {Q:Unit->Shared->Prop} (I:Inv X pins σ H s) (hN:X.N.Nodup) (hi:X.N[i]?=some x) (hx:Loc X.env.scope x) (r:RelV v u)
  (h:∀ s',Inv X pins (σ.set i (some v)) H s'->Q () s') (hf:X.fn x=true\/X.env.scope.names.lookup x=some .local:=by first | exact .inl rfl | exact .inr rfl | assumption):wpAny M A (storeName X.env x u) Q E s :=
 pW I hN hi hx r (λs' I' _=>h s' I') hf
theorem Inv.call' {s':Shared} (I:Inv X pins σ H s) (ho:s'.os=s.os) (u:Un (frs X.stack) ch H H' s.heap s'.heap) (hok:HOk X.prog X.w H' s'.heap) (hg:AllBare s'.gens)
  (hch:∀ b ∈ ch,(b ∈ X.ex\/X.s₀.heap.objs.size<=b)/\b≠X.env.locals/\(∀ x c,X.env.cells.lookup x=some c->c≠b)/\∀ p ∈ X.pn++pins,p.1≠b):Inv X pins σ H' s':=by
 obtain ⟨h',g',d',t',o'⟩:=s';have e:o'=s.os:=ho;subst e;exact I.call (g':=g') (t':=t') (d':=d') u hok hg hch
end
abbrev XK:=Value->Option Addr->Hp->Prop
abbrev St:=List (Option V)
abbrev VK:=V->Hp->Prop
abbrev TE:=St->Hp->VK->Prop
abbrev TT:=St->Hp->(Bool->Hp->Prop)->Prop
abbrev TA:=St->Hp->(List V->Hp->Prop)->Prop
structure iU where
 nx:St->Hp->Prop
 rt:VK
 bk:St->Hp->Prop:=λ_ _=>False
 ct:St->Hp->Prop:=λ_ _=>False
abbrev TS:=iU->St->Hp->Prop
def EP (X:Cx) (pins:List (Addr × Obj)) (σ:St) (Q:VK) (u:Value) (s':Shared):Prop:=∃ v H',Inv X pins σ H' s'/\RelV v u/\Q v H'
def TP (X:Cx) (pins:List (Addr × Obj)) (σ:St) (Q:Bool->Hp->Prop) (b:Bool) (s':Shared):Prop:=∃ H',Inv X pins σ H' s'/\Q b H'
def AP (X:Cx) (pins:List (Addr × Obj)) (σ:St) (Q:List V->Hp->Prop) (us:List Value) (s':Shared):Prop:=∃ vs H',Inv X pins σ H' s'/\Vals vs us/\Q vs H'
def SP (X:Cx) (pins:List (Addr × Obj)) (D:iU) (f:Flow) (s':Shared):Prop :=
 match f with
 | .next=>∃ σ' H',Inv X pins σ' H' s'/\D.nx σ' H'
 | .brk=>∃ σ' H',Inv X pins σ' H' s'/\D.bk σ' H'
 | .cont=>∃ σ' H',Inv X pins σ' H' s'/\D.ct σ' H'
 | .ret u=>∃ v σ' H',Inv X pins σ' H' s'/\RelV v u/\D.rt v H'
def PE (X:Cx) (e:Expr) (t:TE):Prop :=
 ∀ (pins:List (Addr × Obj)) (s:Shared) (σ:St) (H:Hp) (Q:VK),Inv X pins σ H s->t σ H Q->wpAny (model X.prog X.w) X.A (eval e X.env) (EP X pins σ Q) X.xe s
def PT (X:Cx) (e:Expr) (t:TT):Prop :=
 ∀ (pins:List (Addr × Obj)) (s:Shared) (σ:St) (H:Hp) (Q:Bool->Hp->Prop),Inv X pins σ H s->t σ H Q->wpAny (model X.prog X.w) X.A (isTrue e X.env (eval e X.env)) (TP X pins σ Q) X.xe s
def PW (X:Cx) (e:Expr) (t:TT):Prop :=
 ∀ (whole:Sem Value) (pins:List (Addr × Obj)) (s:Shared) (σ:St) (H:Hp) (Q:Bool->Hp->Prop),Inv X pins σ H s->t σ H Q->wpAny (model X.prog X.w) X.A (isTrue e X.env whole) (TP X pins σ Q) X.xe s
variable {X:Cx}
theorem PW.pt {e:Expr} {t:TT} (h:PW X e t):PT X e t:=h _
def PA (X:Cx) (es:List Expr) (t:TA):Prop :=
 ∀ (pos:Pos) (pins:List (Addr × Obj)) (s:Shared) (σ:St) (H:Hp) (Q:List V->Hp->Prop),Inv X pins σ H s->t σ H Q->wpAny (model X.prog X.w) X.A (spliced (backTo pos (starEach es X.env))) (AP X pins σ Q) X.xe s
def PS (X:Cx) (st:Stmt) (t:TS):Prop :=
 ∀ (pins:List (Addr × Obj)) (s:Shared) (σ:St) (H:Hp) (D:iU),Inv X pins σ H s->t D σ H->wpAny (model X.prog X.w) X.A (exec st X.env) (SP X pins D) X.xe s
def PSs (X:Cx) (st:List Stmt) (t:TS):Prop :=
 ∀ (pins:List (Addr × Obj)) (s:Shared) (σ:St) (H:Hp) (D:iU),Inv X pins σ H s->t D σ H->wpAny (model X.prog X.w) X.A (execs st X.env) (SP X pins D) X.xe s
variable {M:Model} {A:Around} {s:Shared}
theorem thn {α:Type} {t:Sem α} {Q Q':α->Shared->Prop} {E:Value->Shared->Prop} (h:wpAny M A t Q E s) (hQ:∀ a s,Q a s->Q' a s):wpAny M A t Q' E s:=wpAny_mono h hQ λ_ _ x=>x
section
variable {X:Cx}
def fG (i:Nat):TE:=λσ H Q=>∃ v,σ[i]?=some (some v)/\Q v H
def tC (v:V):TE:=λ_ H Q=>Q v H
variable {x:Str}
theorem DQ {i:Nat} {pos:Pos} (hN:X.N[i]?=some x) (hv:Vis X.env.scope x) (hd:(x == ("__debug__":Str))=false:=by decide) (hcd:(x == ("__classdict__":Str))=false:=by decide):PE X (.Name x pos) (fG i):=by
 intro pins s σ H Q I h;obtain ⟨v,e,h⟩:=h;obtain ⟨m,hn,hl⟩:=I.loc;obtain ⟨u,r,l⟩:=hl i x v hN e hv;have fin:EP X pins σ Q u s:=⟨v,H,I,r,h⟩
 rcases l with ⟨hk,hm⟩ | ⟨hk,c,hc,hcell⟩
 ·exact wpAny_Name (wpAny_loadName_local I.ok.kind hk hn hm fin) hd
 ·rcases hk with hk | hk
  ·exact wpAny_Name (wpAny_loadName_cell I.ok.kind hk hc hcell fin) hd
  ·exact wpAny_Name (wpAny_loadName_free I.ok.kind hk hc hcell fin hcd) hd
theorem aj {i j pos}:PE X (.Constant (.int i) j pos) (tC (.int i)):=λ_ _ _ H _ I h=>wpAny_Constant_int ⟨.int i,H,I.tok _,⟨_,rfl⟩,h⟩
theorem ck {b j pos}:PE X (.Constant (.bool b) j pos) (tC (.bl b)):=λ_ _ _ H _ I h=>Constant_bool ⟨.bl b,H,I,rfl,h⟩
theorem dN {j pos}:PE X (.Constant .none j pos) (tC .non):=λ_ _ _ H _ I h=>Constant_none ⟨.non,H,I,rfl,h⟩
theorem aE {x j pos}:PE X (.Constant (.str x) j pos) (tC (.str x)):=λ_ _ _ H _ I h=>Calls.Constant_str ⟨.str x,H,I.tok _,⟨_,rfl⟩,h⟩
def Gl (X:Cx) (x:Str):Prop:=X.env.kindOf x=some .globalImplicit
variable {pins:List (Addr × Obj)} {s:Shared} {σ:St} {H:Hp} {u:Value}
theorem qK {E:Value->Shared->Prop} {pos:Pos} {Q:Value->Shared->Prop} (I:Inv X pins σ H s) (hg:Gl X x) (hm:X.mg x=some u) (h:Q u s)
  (hd:(x == ("__debug__":Str))=false:=by decide):wpAny (model X.prog X.w) X.A (eval (.Name x pos) X.env) Q E s :=
 Calls.Name_function_global I.ok.kind hg (Calls.loadGlobal_global (by rw [I.ok.glob];exact I.mod.glob.keeps I.bk) hm h) hd
theorem i8 {E:Value->Shared->Prop} {pos:Pos} {Q:Value->Shared->Prop} (I:Inv X pins σ H s) (hg:Gl X x) (hm:X.mg x=none) (hv:bootBuiltins x=some u) (h:Q u s)
  (hn:x≠"__name__":=by decide) (hd:(x == ("__debug__":Str))=false:=by decide):wpAny (model X.prog X.w) X.A (eval (.Name x pos) X.env) Q E s:=by
 obtain ⟨mb,h1,h2⟩:=I.mod.blt;exact Calls.Name_function_global I.ok.kind hg (Calls.loadGlobal_builtin (by rw [I.ok.glob];exact I.mod.glob.keeps I.bk) hm (by rw [I.ok.blt];exact h1.keeps I.bk) ((h2 x hn).trans hv) h) hd
variable {v:V}
theorem bL {pos:Pos} (hg:Gl X x) (hm:X.mg x=some u) (r:RelV v u) (hd:(x == ("__debug__":Str))=false:=by decide):PE X (.Name x pos) (tC v) :=
 λ_ _ _ H _ I h=>qK I hg hm ⟨v,H,I,r,h⟩ hd
theorem eB {pos:Pos} (hg:Gl X x) (hm:X.mg x=none) (hv:bootBuiltins x=some u) (r:RelV v u) (hn:x≠"__name__":=by decide) (hd:(x == ("__debug__":Str))=false:=by decide):PE X (.Name x pos) (tC v) :=
 λ_ _ _ H _ I h=>i8 I hg hm hv ⟨v,H,I,r,h⟩ hn hd
variable {a b:Expr} {ta tb:TE} {pos:Pos}
variable {tA tB':TT} {rest:List Expr}
def E3 (t u:TT):TT:=λσ H Q=>t σ H λc H1=>if c=true then u σ H1 Q else Q false H1
def tOr (t u:TT):TT:=λσ H Q=>t σ H λc H1=>if c=true then Q true H1 else u σ H1 Q
def Ei (t:TT):TT:=λσ H Q=>t σ H λc H1=>Q (!c) H1
theorem kE (ha:PT X a tA):PW X (.BoolOp .And [a] pos) tA:=by
 intro wh pins s σ H Q I h;refine isTrue_and (thn (ha pins s σ H Q I h) λc s1 e=>?_)
 cases c with
 | true=>exact isTrue_and_nil e
 | false=>exact e
theorem cP (ha:PT X a tA):PW X (.BoolOp .Or [a] pos) tA:=by
 intro wh pins s σ H Q I h;refine isTrue_or (thn (ha pins s σ H Q I h) λc s1 e=>?_)
 cases c with
 | false=>exact isTrue_or_nil e
 | true=>exact e
theorem nX (ha:PT X a tA) (hb:PW X (.BoolOp .And (b::rest) pos) tB'):PW X (.BoolOp .And (a::b::rest) pos) (E3 tA tB'):=by
 intro wh pins s σ H Q I h;refine isTrue_and (thn (ha pins s σ H _ I h) λc s1 ⟨H1,I1,q1⟩=>?_)
 cases c with
 | true=>exact hb wh pins s1 σ H1 Q I1 q1
 | false=>exact ⟨H1,I1,q1⟩
theorem cO (ha:PT X a tA) (hb:PW X (.BoolOp .Or (b::rest) pos) tB'):PW X (.BoolOp .Or (a::b::rest) pos) (tOr tA tB'):=by
 intro wh pins s σ H Q I h;refine isTrue_or (thn (ha pins s σ H _ I h) λc s1 ⟨H1,I1,q1⟩=>?_)
 cases c with
 | true=>exact ⟨H1,I1,q1⟩
 | false=>exact hb wh pins s1 σ H1 Q I1 q1
theorem bP (ha:PT X a tA):PT X (.UnaryOp .Not a pos) (Ei tA):=by intro pins s σ H Q I h;exact isTrue_not (ha pins s σ H (λc H1=>Q (!c) H1) I h)
def Ax (ta tb:TE):TE:=λσ H Q=>ta σ H λx H1=>∃ c,x=.bl c/\if c=true then tb σ H1 Q else Q (.bl false) H1
def E7 (ta tb:TE):TE:=λσ H Q=>ta σ H λx H1=>∃ c,x=.bl c/\if c=true then Q (.bl true) H1 else tb σ H1 Q
def CW (ta:TE):TE:=λσ H Q=>ta σ H λx H1=>∃ c,x=.bl c/\Q (.bl (!c)) H1
theorem gM {op} {t:TE} (h:PE X a t):PE X (.BoolOp op [a] pos) t:=λpins s σ H Q I hw=>BoolOp_one (h pins s σ H Q I hw)
theorem gL (ha:PE X a ta) (hb:PE X (.BoolOp .And (b::rest) pos) tb):PE X (.BoolOp .And (a::b::rest) pos) (Ax ta tb):=by
 intro pins s σ H Q I h;refine BoolOp_and (thn (ha pins s σ H _ I h) λv s1 ⟨x,H1,I1,r1,q1⟩=>?_);obtain ⟨c,rfl,q1⟩:=q1;cases r1;refine wpAny_truthy_bool ?_
 cases c with
 | true=>exact hb pins s1 σ H1 Q I1 q1
 | false=>exact ⟨.bl false,H1,I1,rfl,q1⟩
theorem zF (ha:PE X a ta) (hb:PE X (.BoolOp .Or (b::rest) pos) tb):PE X (.BoolOp .Or (a::b::rest) pos) (E7 ta tb):=by
 intro pins s σ H Q I h;refine BoolOp_or (thn (ha pins s σ H _ I h) λv s1 ⟨x,H1,I1,r1,q1⟩=>?_);obtain ⟨c,rfl,q1⟩:=q1;cases r1;refine wpAny_truthy_bool ?_
 cases c with
 | false=>exact hb pins s1 σ H1 Q I1 q1
 | true=>exact ⟨.bl true,H1,I1,rfl,q1⟩
theorem DP (ha:PE X a ta):PE X (.UnaryOp .Not a pos) (CW ta):=by intro pins s σ H Q I h;refine UnaryOp_ (thn (ha pins s σ H _ I h) λv s1 ⟨x,H1,I1,r1,q1⟩=>?_);obtain ⟨c,rfl,q1⟩:=q1;cases r1;exact not_of (wpAny_truthy_bool ⟨.bl (!c),H1,I1,rfl,q1⟩)
def tIf (t:TT) (ta tb:TE):TE:=λσ H Q=>t σ H λc H1=>if c=true then ta σ H1 Q else tb σ H1 Q
theorem dQ {c:Expr} (hc:PT X c tA) (ha:PE X a ta) (hb:PE X b tb):PE X (.IfExp c a b pos) (tIf tA ta tb):=by
 intro pins s σ H Q I h;refine wpAny_IfExp (thn (hc pins s σ H _ I h) λd s1 ⟨H1,I1,q1⟩=>?_)
 cases d with
 | true=>exact ha pins s1 σ H1 Q I1 q1
 | false=>exact hb pins s1 σ H1 Q I1 q1
end
def SqL (K:W.Frag) (H:Hp) (a:Addr) (xs:List V):Prop :=
 Rd H a (.lst xs) \/
  ∃ (o:Obj) (its:Array Value) (n:Nat),K.lookup a=some o/\o.cls=.type "list"/\o.dict=none/\o.data=.seq its n/\its.size<=sizeLine/\Vals xs its.toList
def SqT (K:W.Frag) (H:Hp) (a:Addr) (xs:List V):Prop :=
 Rd H a (.tup xs) \/
  ∃ (o:Obj) (its:Array Value) (n:Nat),K.lookup a=some o/\o.cls=.type "tuple"/\o.data=.seq its n/\its.size<=sizeLine/\Vals xs its.toList
def Fg:Value->Option V
 | .none=>some .non
 | .bool b=>some (.bl b)
 | .int i _=>some (.int i)
 | .str x _=>some (.str x)
 | .bytes b _=>some (.byt b)
 | .float b _=>some (.flt b)
 | .ref a=>some (.ref a)
 | .type n=>some (.ty n)
 | _=>none
theorem RelV.abs {x:V} (r:RelV x u):Fg u=some x:=by
 cases x with
 | non=>cases r;rfl
 | bl _=>cases r;rfl
 | int _=>obtain ⟨t,rfl⟩:=r;rfl
 | str _=>obtain ⟨t,rfl⟩:=r;rfl
 | byt _=>obtain ⟨t,rfl⟩:=r;rfl
 | flt _=>obtain ⟨t,rfl⟩:=r;rfl
 | ref _=>cases r;rfl
 | ty _=>cases r;rfl
theorem RelV.inj {x y:V} (r:RelV x u) (q:RelV y u):x=y:=Option.some.inj (r.abs.symm.trans q.abs)
theorem Vals.inj:∀ {xs ys:List V} {us:List Value},Vals xs us->Vals ys us->xs=ys
 | _,_,_,.nil,.nil=>rfl
 | _,_,_,.cons r t,.cons r' t'=>by rw [r.inj r',Vals.inj t t']
section
variable {X:Cx} {pins:List (Addr × Obj)} {σ:St} {H:Hp} {s:Shared} {a:Addr} {xs ys:List V}
variable {K:W.Frag}
theorem SqL.of (h:H a=some (.lst xs)):SqL K H a xs:=.inl (.inl h)
theorem SqT.of (h:H a=some (.tup xs)):SqT K H a xs:=.inl (.inl h)
theorem Inv.list (I:Inv X pins σ H s) (h:SqL X.K H a xs):∃ its:List Value,Vals xs its/\PlainL s.heap a its.toArray/\xs.length<=sizeLine:=by
 rcases h with h | ⟨o,its,n,hk,hc,hd,hs,hz,r⟩
 ·obtain ⟨z,its,n,r,e⟩:=h.ok I.hok;exact ⟨its,r,⟨_,n,e,rfl,rfl,rfl⟩,z⟩
 ·refine ⟨its.toList,r,⟨o,n,I.kIn a o hk,hc,hd,by simpa using hs⟩,?_⟩;have e:=r.length;simp only [Array.length_toList] at e;omega
theorem Inv.tuple (I:Inv X pins σ H s) (h:SqT X.K H a xs):∃ its:List Value,Vals xs its/\IsTup s.heap a its.toArray/\xs.length<=sizeLine:=by
 rcases h with h | ⟨o,its,n,hk,hc,hs,hz,r⟩
 ·obtain ⟨z,its,r,p⟩:=h.ok I.hok;exact ⟨its,r,p,z⟩
 ·refine ⟨its.toList,r,⟨o,I.kIn a o hk,hc,n,by simpa using hs⟩,?_⟩;have e:=r.length;simp only [Array.length_toList] at e;omega
theorem Inv.list_inj (I:Inv X pins σ H s) (h:SqL X.K H a xs) (h':SqL X.K H a ys):xs=ys:=by
 obtain ⟨its,r,⟨o,n,e,_,_,d⟩,_⟩:=I.list h;obtain ⟨its',r',⟨o',n',e',_,_,d'⟩,_⟩:=I.list h';rw [e] at e';cases e';rw [d] at d';injection d' with d1 _;have:its=its':=by simpa using congrArg Array.toList d1
 subst this;exact r.inj r'
theorem Inv.tuple_inj (I:Inv X pins σ H s) (h:SqT X.K H a xs) (h':SqT X.K H a ys):xs=ys:=by
 obtain ⟨its,r,⟨o,e,_,n,d⟩,_⟩:=I.tuple h;obtain ⟨its',r',⟨o',e',_,n',d'⟩,_⟩:=I.tuple h';rw [e] at e';cases e';rw [d] at d';injection d' with d1 _;have:its=its':=by simpa using congrArg Array.toList d1
 subst this;exact r.inj r'
end
abbrev Cx.wish (X:Cx) (E:Value->Shared->Prop):Cx:={ X with xe:=E }
abbrev Cx.nox (X:Cx):Cx:=X.wish λ_ _=>False
theorem Cx.Ok.wish (ok:X.Ok) (E:Value->Shared->Prop):(X.wish E).Ok :=
 ⟨ok.mod,ok.kind,ok.glob,ok.blt,ok.above,ok.inj,ok.has,ok.cab,ok.hd,ok.frames,ok.stk,ok.exf,ok.bs,ok.bsz,ok.noex,ok.exfs,ok.funs,ok.frf⟩
theorem Cx.Ok.unwish {E:Value->Shared->Prop} (ok:(X.wish E).Ok):X.Ok :=
 ⟨ok.mod,ok.kind,ok.glob,ok.blt,ok.above,ok.inj,ok.has,ok.cab,ok.hd,ok.frames,ok.stk,ok.exf,ok.bs,ok.bsz,ok.noex,ok.exfs,ok.funs,ok.frf⟩
section
variable {X:Cx} {pins:List (Addr × Obj)} {σ:St} {H:Hp} {s:Shared} {E:Value->Shared->Prop}
theorem Inv.wish (I:Inv X pins σ H s) (E:Value->Shared->Prop):Inv (X.wish E) pins σ H s:=⟨I.ok.wish E,I.os,I.bare,I.base,I.loc,I.cell,I.free,I.freeC,I.pin,I.hok,I.len⟩
theorem Inv.unwish (I:Inv (X.wish E) pins σ H s):Inv X pins σ H s:=⟨I.ok.unwish,I.os,I.bare,I.base,I.loc,I.cell,I.free,I.freeC,I.pin,I.hok,I.len⟩
theorem SP.unwish {D:iU} {f:Flow} {s':Shared} (h:SP (X.wish E) pins D f s'):SP X pins D f s':=by
 cases f with
 | next=>obtain ⟨σ',H',I,q⟩:=h;exact ⟨σ',H',I.unwish,q⟩
 | brk=>obtain ⟨σ',H',I,q⟩:=h;exact ⟨σ',H',I.unwish,q⟩
 | cont=>obtain ⟨σ',H',I,q⟩:=h;exact ⟨σ',H',I.unwish,q⟩
 | ret u=>obtain ⟨v,σ',H',I,r,q⟩:=h;exact ⟨v,σ',H',I.unwish,r,q⟩
theorem PSs.nox {st:List Stmt} {t:TS} (h:PSs X.nox st t):PSs X st t:=λpins s σ H D I hw =>
 wpAny_mono (h pins s σ H D (I.wish _) hw) (λ_ _ q=>q.unwish) λ_ _ z=>False.elim z
end
section
variable {X:Cx} {st:Stmt} {rest:List Stmt} {t u:TS} {e:Expr} {te:TE} {pos:Pos}
def wG:TS:=λD σ H=>D.nx σ H
def jK (t u:TS):TS:=λD σ H=>t { D with nx:=u D } σ H
theorem aL:PSs X [] wG:=λ_ _ σ H _ I h=>wpAny_execs_nil ⟨σ,H,I,h⟩
theorem ao (h1:PS X st t) (h2:PSs X rest u):PSs X (st::rest) (jK t u):=by
 intro pins s σ H D I h;refine wpAny_execs_cons (thn (h1 pins s σ H { D with nx:=u D } I h) λf s1 q=>?_)
 cases f with
 | next =>obtain ⟨σ',H',I',q⟩:=q;exact h2 pins s1 σ' H' D I' q
 | ret v=>exact q
 | brk=>exact q
 | cont=>exact q
theorem au (h1:PS X st t):PSs X [st] t:=by
 intro pins s σ H D I h;refine wpAny_execs_cons (thn (h1 pins s σ H D I h) λf s1 q=>?_)
 cases f with
 | next=>exact wpAny_execs_nil q
 | ret v=>exact q
 | brk=>exact q
 | cont=>exact q
def CU:TS:=λD σ H=>D.ct σ H
theorem tL:PS X (.Continue pos) CU:=λ_ _ σ H _ I h=>wpAny_Continue ⟨σ,H,I,h⟩
theorem Inv.quiet {pins:List (Addr × Obj)} {σ:St} {H:Hp} {s:Shared} (I:Inv X pins σ H s):interactive X.env=false:=by simp [interactive,I.ok.kind]
def oE (te:TE):TS:=λD σ H=>te σ H λ_ H1=>D.nx σ H1
theorem bu (he:PE X e te) (hs:swapsWith e none pos.line X.env=pure false:=by rfl):PS X (.Expr e pos) (oE te):=by intro pins s σ H D I h;exact wpAny_Expr_any (thn (he pins s σ H _ I h) λv s1 ⟨x,H1,I1,r1,q1⟩=>⟨σ,H1,I1,q1⟩) I.quiet hs
def Az (te:TE):TS:=λD σ H=>te σ H D.rt
theorem aF (he:PE X e te):PS X (.Return (some e) pos) (Az te):=by intro pins s σ H D I h;exact wpAny_Return_some (thn (he pins s σ H _ I h) λv s1 ⟨x,H1,I1,r1,q1⟩=>⟨x,σ,H1,I1,r1,q1⟩)
def Cp (c:TT) (t u:TS):TS:=λD σ H=>c σ H λb H1=>if b=true then t D σ H1 else u D σ H1
theorem a7 {c:Expr} {a b:List Stmt} {tc:TT} (hc:PT X c tc) (ha:PSs X a t) (hb:PSs X b u):PS X (.If c a b pos) (Cp tc t u):=by
 intro pins s σ H D I h;refine wpAny_If (thn (hc pins s σ H _ I h) λd s1 ⟨H1,I1,q1⟩=>?_)
 cases d with
 | true=>exact ha pins s1 σ H1 D I1 q1
 | false=>exact hb pins s1 σ H1 D I1 q1
def Eh:TS:=λ_ _ _=>False
theorem ir:PS X st Eh:=λ_ _ _ _ _ _ h=>h.elim
end
abbrev TG:=V->St->Hp->(St->Hp->Prop)->Prop
abbrev TGs:=List V->St->Hp->(St->Hp->Prop)->Prop
def PG (X:Cx) (target:Expr) (t:TG):Prop :=
 ∀ (pins:List (Addr × Obj)) (s:Shared) (σ:St) (H:Hp) (v:V) (u:Value) (Q:St->Hp->Prop),Inv X pins σ H s->RelV v u->t v σ H Q ->
  wpAny (model X.prog X.w) X.A (assign target X.env u) (λ_ s'=>∃ σ' H',Inv X pins σ' H' s'/\Q σ' H') X.xe s
def PGs (X:Cx) (ts:List Expr) (t:TGs):Prop :=
 ∀ (pins:List (Addr × Obj)) (s:Shared) (σ:St) (H:Hp) (vs:List V) (us:List Value) (Q:St->Hp->Prop),Inv X pins σ H s->Vals vs us->t vs σ H Q ->
  wpAny (model X.prog X.w) X.A (assignInOrder ((assignEach ts X.env).map (·.2)) us) (λ_ s'=>∃ σ' H',Inv X pins σ' H' s'/\Q σ' H') X.xe s
abbrev yc:=V->V->V->Hp->(Hp->Prop)->Prop
def C0 (X:Cx) (t:yc):Prop :=
 ∀ (pins:List (Addr × Obj)) (s:Shared) (σ:St) (H:Hp) (o i v:V) (ov iv u:Value) (Q:Hp->Prop),Inv X pins σ H s->RelV o ov->RelV i iv->RelV v u->t o i v H Q ->
  wpAny (model X.prog X.w) X.A (setItem ov iv u) (λ_ s'=>∃ H',Inv X pins σ H' s'/\Q H') X.xe s
abbrev TIp:=V->V->Hp->VK->Prop
def PIp (X:Cx) (op:Operator) (t:TIp):Prop :=
 ∀ (pins:List (Addr × Obj)) (s:Shared) (σ:St) (H:Hp) (x y:V) (v u:Value) (Q:VK),Inv X pins σ H s->RelV x v->RelV y u->t x y H Q ->
  wpAny (model X.prog X.w) X.A (inplaceOp op v u) (EP X pins σ Q) X.xe s
section
variable {X:Cx} {pos:Pos}
def bX (i:Nat):TG:=λv σ H Q=>Q (σ.set i (some v)) H
variable {i:Nat} {x:Str}
theorem aQ (hN:X.N.Nodup) (hi:X.N[i]?=some x) (hx:Loc X.env.scope x) (hf:X.fn x=true\/X.env.scope.names.lookup x=some .local:=by first | exact .inl rfl | exact .inr rfl | assumption):PG X (.Name x pos) (bX i):=by intro pins s σ H v u Q I r h;exact wpAny_assign_Name (jw I hN hi hx r (λs' I'=>⟨_,H,I',h⟩) hf)
def sy:TGs:=λvs σ H Q=>vs=[]/\Q σ H
def gx (t:TG) (u:TGs):TGs:=λvs σ H Q=>∃ v r,vs=v::r/\t v σ H λσ' H'=>u r σ' H' Q
theorem cu:PGs X [] sy:=by intro pins s σ H vs us Q I r h;obtain ⟨e,h⟩:=h;subst e;cases r;exact assignInOrder_nil ⟨σ,H,I,h⟩
variable {e:Expr} {es:List Expr}
theorem a8 {t:TG} {u:TGs} (h1:PG X e t) (h2:PGs X es u)
  (hs:(assignEach (e::es) X.env).map (·.2)=assign e X.env::(assignEach es X.env).map (·.2):=by rfl):PGs X (e::es) (gx t u):=by
 intro pins s σ H vs us Q I r h;obtain ⟨v,vr,e1,h⟩:=h;subst e1
 cases r with
 | cons r rr =>rw [hs];refine assignInOrder_cons (thn (h1 pins s σ H _ _ _ I r h) λ_ s1 ⟨σ1,H1,I1,q1⟩=>?_);exact h2 pins s1 σ1 H1 _ _ Q I1 rr q1
def qC (K:W.Frag) (n:Nat) (t:TGs):TG:=λv σ H Q=>∃ a xs,v=.ref a/\SqT K H a xs/\xs.length=n/\t xs σ H Q
theorem fe {k:Nat} {t:TGs} {n:Nat} (hc:X.calm=true) (h:PGs X es t)
  (hn:(assignEach es X.env).length=n:=by rfl) (hst:(assignEach es X.env).findIdx? (·.1)=none:=by rfl):PG X (.Tuple es k pos) (qC X.K n t):=by
 intro pins s σ H v u Q I r hw;obtain ⟨a,xs,e1,hq,hl,hw⟩:=hw;subst e1;cases r;obtain ⟨its,rv,ht,hz⟩:=I.tuple hq;refine assign_Tuple_tuple (I.ok.hd hc) ht (by simp [hn,<- hl,rv.length]) hst λh' hx=>?_;have I1:Inv X pins σ H { s with heap:=h' }:=I.kept (t':=s.toks) λb o e=>hx b o (Nat.ne_of_lt (Heap.lt_size e)) e;exact h pins _ σ H xs _ Q I1 (by simpa using rv) hw
def Fm (to ti:TE) (t:yc):TG:=λv σ H Q=>to σ H λo H1=>ti σ H1 λi H2=>t o i v H2 λH3=>Q σ H3
variable {o:Expr} {to ti:TE}
theorem rA {i:Expr} {t:yc} (ho:PE X o to) (hi:PE X i ti) (hs:C0 X t)
  (ha:∀ v,assign (.Subscript o i pos) X.env v=(do
   let ov <- holding [v] (eval o X.env);let iv <- holding [v,ov] (eval i X.env)
   standAt pos
   holding [v,ov,iv] (setItem ov iv v)
   release [v,ov,iv] []):=by intro _;rfl):PG X (.Subscript o i pos) (Fm to ti t):=by
 intro pins s σ H v u Q I r h;rw [ha];refine wpAny_bind (wpAny_holding (thn (ho pins s σ H _ I h) λov s1 ⟨x,H1,I1,r1,q1⟩=>?_));refine wpAny_bind (wpAny_holding (thn (hi pins s1 σ H1 _ I1 q1) λiv s2 ⟨y,H2,I2,r2,q2⟩=>?_));refine wpAny_bind (wpAny_standAt (wpAny_bind (wpAny_holding (thn (hs pins s2 σ H2 x y v ov iv u _ I2 r1 r2 r q2) λ_ s3 ⟨H3,I3,q3⟩=>?_))));exact wpAny_release ⟨σ,H3,I3,q3⟩
def oW (te:TE) (g:TG):TS:=λD σ H=>te σ H λx H1=>g x σ H1 D.nx
variable {te:TE}
theorem fC {tg:Expr} {g:TG} (he:PE X e te) (hg:PG X tg g) (hs:swapsWithSole [tg] e pos.line X.env=pure false:=by rfl) (hw:swappedStores [tg] e X.env=pure none:=by rfl)
  (h1:(assignEach [tg] X.env).map (·.2)=[assign tg X.env]:=by rfl):PS X (.Assign [tg] e pos) (oW te g):=by
 intro pins s σ H D I h;refine wpAny_Assign_stores (thn (he pins s σ H _ I h) λv s1 ⟨x,H1,I1,r1,q1⟩=>?_) hs hw;rw [h1];exact thn (hg pins s1 σ H1 x v _ I1 r1 q1) λ_ s2 q=>q
variable {pos':Pos}
theorem bo (hN:X.N.Nodup) (hi:X.N[i]?=some x) (hx:Loc X.env.scope x) (he:PE X e te) (hs:swapsWith e (some (.Name x pos')) pos.line X.env=pure false:=by rfl) (hf:X.fn x=true\/X.env.scope.names.lookup x=some .local:=by first | exact .inl rfl | exact .inr rfl | assumption) :
  PS X (.Assign [.Name x pos'] e pos) (oW te (bX i)):=by
 intro pins s σ H D I h;refine wpAny_Assign_Name (thn (he pins s σ H _ I h) λv s1 ⟨y,H1,I1,r1,q1⟩=>?_) hs;exact jw I1 hN hi hx r1 (λs2 I2=>⟨_,H1,I2,q1⟩) hf
def Ej (i j:Nat) (ta:TA):TS:=λD σ H=>ta σ H λvs H1=>∃ v w,vs=[v,w]/\D.nx ((σ.set i (some v)).set j (some w)) H1
theorem lH {j:Nat} {y:Str} {a b:Expr} {ta:TA} {px py pt:Pos} {kt k2 pt2} (hc:X.calm=true) (hN:X.N.Nodup) (hi:X.N[i]?=some x) (hj:X.N[j]?=some y) (hij:i≠j)
  (hx:X.env.scope.names.lookup x=some .local) (hy:X.env.scope.names.lookup y=some .local) (ha:PA X [a,b] ta)
  (hw:swappedStores [.Tuple [.Name x px,.Name y py] kt pt] (.Tuple [a,b] k2 pt2) X.env=pure (some [x,y]))
  (hs:swapsWithSole [.Tuple [.Name x px,.Name y py] kt pt] (.Tuple [a,b] k2 pt2) pos.line X.env=pure false:=by rfl) :
  PS X (.Assign [.Tuple [.Name x px,.Name y py] kt pt] (.Tuple [a,b] k2 pt2) pos) (Ej i j ta):=by
 intro pins s σ H D I h;rw [exec_Assign_arm];refine wpAny_bind (wpAny_standAt ?_);rw [hs];refine wpAny_bind (wpAny_pure ?_);rw [if_neg (by decide)];refine wpAny_bind (Tuple_ (thn (ha _ pins s σ H _ I h) λus s1 ⟨vs,H1,I1,r1,q1⟩=>?_));obtain ⟨v,w,e1,q1⟩:=q1;subst e1
 obtain ⟨u1,u2,rfl,rv,rw'⟩:∃ u1 u2,us=[u1,u2]/\RelV v u1/\RelV w u2:=by
  cases r1 with
  | cons p q =>
   cases q with
   | cons p' q' =>cases q';exact ⟨_,_,rfl,p,p'⟩
 refine wpAny_newObj_type ?_ (by show 2<=sizeLine;decide);have I2:Inv X pins σ H1 { s1 with heap:=s1.heap.push { cls:=.type "tuple",data:=.seq [u1,u2].toArray } }:=I1.kept (t':=s1.toks) λb o e=>Heap.get?_push_of_some _ e;rw [hw];refine wpAny_bind (wpAny_pure ?_);show wpAny (model X.prog X.w) X.A (do rule "assign.swapped-stores";let items <- unpackItems (.ref s1.heap.objs.size) 2 none;assignInOrder [λv=>bindName X.env y v,λv=>bindName X.env x v] items.reverse;pure Flow.next) _ _ _;refine wpAny_bind (wpAny_rule (wpAny_bind (unpackItems_tuple (items:=#[u1,u2]) (I.ok.hd hc) (IsTup.new s1.heap _) λh' hx'=>?_)));have I3:=I2.kept (h':=h') (t':=s1.toks) λb o e=>hx' b o (Nat.ne_of_lt (Heap.lt_size e)) e;show wpAny _ _ (assignInOrder [λv=>bindName X.env y v,λv=>bindName X.env x v] [u2,u1] >>= λ_=>pure Flow.next) _ _ _;refine wpAny_bind (assignInOrder_cons (wpAny_bindName (jw I3 hN hj (.inl hy) rw' (λs2 I4=>?_) (.inr hy))));refine assignInOrder_cons (wpAny_bindName (jw I4 hN hi (.inl hx) rv (λs3 I5=>assignInOrder_nil (wpAny_pure ?_)) (.inr hx)));rw [List.set_comm _ _ (Ne.symm hij)] at I5;exact ⟨_,H1,I5,q1⟩
def Fs (i:Nat) (te:TE) (ti:TIp):TS:=λD σ H=>∃ x,σ[i]?=some (some x)/\te σ H λy H1=>ti x y H1 λz H2=>D.nx (σ.set i (some z)) H2
variable {op:Operator}
theorem zO {ti:TIp} (hN:X.N.Nodup) (hi:X.N[i]?=some x) (hx:Loc X.env.scope x) (he:PE X e te) (ho:PIp X op ti) (hf:X.fn x=true\/X.env.scope.names.lookup x=some .local:=by first | exact .inl rfl | exact .inr rfl | assumption) :
  PS X (.AugAssign (.Name x pos') op e pos) (Fs i te ti):=by
 intro pins s σ H D I h;obtain ⟨v,e1,h⟩:=h;obtain ⟨m,hn,hl⟩:=I.loc;have vis:Vis X.env.scope x:=by rcases hx with k | k;exact .inl k;exact .inr (.inl k)
 obtain ⟨u,r,l⟩:=hl i x v hi e1 vis;refine wpAny_AugAssign_Name ?_
 have go:wpAny (model X.prog X.w) X.A (eval e X.env) (λw s₂=>wpAny (model X.prog X.w) X.A (inplaceOp op u w) (λr s₃=>wpAny (model X.prog X.w) X.A (storeName X.env x r) (λ_=>SP X pins D .next) X.xe s₃) X.xe s₂) X.xe s:=by refine thn (he pins s σ H _ I h) λw s1 ⟨y,H1,I1,r1,q1⟩=>?_;refine thn (ho pins s1 σ H1 v y u w _ I1 r r1 q1) λz s2 ⟨zv,H2,I2,r2,q2⟩=>?_;exact jw I2 hN hi hx r2 (λs3 I3=>⟨_,H2,I3,q2⟩) hf
 rcases l with ⟨hk,hm⟩ | ⟨hk,c,hc,hcell⟩
 ·exact wpAny_loadName_local I.ok.kind hk hn hm go
 ·rcases hk with hk | hk
  ·exact wpAny_loadName_cell I.ok.kind hk hc hcell go
  ·rcases hx with k | k
   ·have:X.env.scope.names.lookup x=some .free:=hk;rw [k] at this;cases this
   ·have:X.env.scope.names.lookup x=some .free:=hk;rw [k] at this;cases this
def E4 (to ti te:TE) (tget:V->V->Hp->VK->Prop) (tip:TIp) (tset:yc):TS:=λD σ H=>to σ H λo H1=>ti σ H1 λi H2=>tget o i H2 λx H3=>te σ H3 λy H4=>tip x y H4 λz H5=>tset o i z H5 λH6=>D.nx σ H6
def Es (X:Cx) (t:V->V->Hp->VK->Prop):Prop :=
 ∀ (pins:List (Addr × Obj)) (s:Shared) (σ:St) (H:Hp) (o i:V) (ov iv:Value) (Q:VK),Inv X pins σ H s->RelV o ov->RelV i iv->t o i H Q ->
  wpAny (model X.prog X.w) X.A (getItem ov iv) (EP X pins σ Q) X.xe s
theorem wg {i:Expr} {tget:V->V->Hp->VK->Prop} {tip:TIp} {tset:yc} {tpos:Pos} (ho:PE X o to) (hi:PE X i ti) (hg:Es X tget) (he:PE X e te) (hp:PIp X op tip) (hs:C0 X tset)
  (ha:∀ ov iv new,augStore i ov iv new=(do holding [new,ov,iv] (setItem ov iv new);release [new,ov,iv] [];pure .next):=by intros;rfl):PS X (.AugAssign (.Subscript o i tpos) op e pos) (E4 to ti te tget tip tset):=by
 intro pins s σ H D I h;refine wpAny_AugAssign_SubscriptAny (thn (ho pins s σ H _ I h) λov s1 ⟨x1,H1,I1,r1,q1⟩=>?_) ha;refine thn (hi pins s1 σ H1 _ I1 q1) λiv s2 ⟨x2,H2,I2,r2,q2⟩=>?_;refine thn (hg pins s2 σ H2 x1 x2 ov iv _ I2 r1 r2 q2) λold s3 ⟨x3,H3,I3,r3,q3⟩=>?_;refine thn (he pins s3 σ H3 _ I3 q3) λv s4 ⟨x4,H4,I4,r4,q4⟩=>?_;refine thn (hp pins s4 σ H4 x3 x4 old v _ I4 r3 r4 q4) λnew s5 ⟨x5,H5,I5,r5,q5⟩=>?_;exact thn (hs pins s5 σ H5 x1 x2 x5 ov iv new _ I5 r1 r2 r5 q5) λ_ s6 ⟨H6,I6,q6⟩=>⟨σ,H6,I6,q6⟩
def ipI (f:Int->Int->Int):TIp:=λx y H Q=>∃ i j,x=.int i/\y=.int j/\Q (.int (f i j)) H
theorem uy:PIp X .Add (ipI λi j=>i+j):=by intro pins s σ H x y v u Q I r1 r2 h;obtain ⟨i,j,e1,e2,q⟩:=h;subst e1;subst e2;obtain ⟨t,rfl⟩:=r1;obtain ⟨t',rfl⟩:=r2;exact iadd_int ⟨.int _,H,I.tok _,⟨_,rfl⟩,q⟩
theorem Dy:PIp X .Sub (ipI λi j=>i - j):=by intro pins s σ H x y v u Q I r1 r2 h;obtain ⟨i,j,e1,e2,q⟩:=h;subst e1;subst e2;obtain ⟨t,rfl⟩:=r1;obtain ⟨t',rfl⟩:=r2;exact isub_int ⟨.int _,H,I.tok _,⟨_,rfl⟩,q⟩
def AA (c:TT) (tb:TS):TS:=λD σ H=>∃ W:Nat->St->Hp->Prop,(∃ m,W m σ H)/\∀ m σ H,W m σ H ->
 c σ H λb H1=>if b=true then ∃ N:St->Hp->Prop,(∀ σ' H',N σ' H'->∃ m',m' < m/\W m' σ' H')/\tb { D with nx:=N,ct:=N,bk:=D.nx } σ H1 else D.nx σ H1
theorem tM {c:Expr} {body:List Stmt} {tc:TT} {tb:TS} (hp:PassesOwn (model X.prog X.w) X.A X.env X.xe) (hc:PT X c tc) (hb:PSs X body tb):PS X (.While c body [] pos) (AA tc tb):=by
 intro pins s σ H D I h;obtain ⟨W,⟨m0,w0⟩,turn⟩:=h;refine wpAny_While (codeAny_whileLoop (λn s'=>∃ σ' H',Inv X pins σ' H' s'/\W n σ' H') ?_ m0 ⟨σ,H,I,w0⟩);rintro n s1 ⟨σ1,H1,I1,w1⟩;refine wpAny_passesOwn hp (thn (hc pins s1 σ1 H1 _ I1 (turn n σ1 H1 w1)) λb s2 ⟨H2,I2,q2⟩=>?_)
 cases b with
 | true =>
  obtain ⟨N,hN,q2⟩:=q2;rw [if_pos rfl];refine wpAny_passesOwn hp (thn (hb pins s2 σ1 H2 _ I2 q2) λf s3 q3=>?_)
  cases f with
  | next =>obtain ⟨σ3,H3,I3,n3⟩:=q3;obtain ⟨m',hm,w3⟩:=hN σ3 H3 n3;exact ⟨m',hm,σ3,H3,I3,w3⟩
  | cont =>obtain ⟨σ3,H3,I3,n3⟩:=q3;obtain ⟨m',hm,w3⟩:=hN σ3 H3 n3;exact ⟨m',hm,σ3,H3,I3,w3⟩
  | brk=>exact q3
  | ret v=>exact q3
 | false =>rw [if_neg Bool.false_ne_true];exact wpAny_execs_nil ⟨σ1,H2,I2,q2⟩
end
structure It where
 go:Nat->Hp->Prop
 yld:Nat->Hp->V->Hp->Prop
 stop:Nat->Hp->Prop
def oI (X:Cx) (pins:List (Addr × Obj)) (H:Hp) (b:Addr):Prop :=
 H b=none/\b≠X.env.locals/\b ∉ X.fs/\(b ∈ X.ex\/X.s₀.heap.objs.size<=b)/\(∀ x c,X.env.cells.lookup x=some c->c≠b)/\∀ p ∈ X.pn++pins,p.1≠b
variable {σ:St}
theorem Inv.fpOk {pins:List (Addr × Obj)} {H':Hp} (I:Inv X pins σ H s) (hb:s.heap.objs.size<=b) (hn:H' b=none):oI X pins H' b:=by
 refine ⟨hn,Nat.ne_of_gt (Nat.lt_of_lt_of_le I.lt hb),I.nofs hb,.inr (Nat.le_trans I.sz hb),λx c e z=>?_,λp hp z=>?_⟩
 ·obtain ⟨v,q⟩:=I.cell x c e;exact absurd (Nat.lt_of_lt_of_le q.lt (by rw [z];exact hb)) (Nat.lt_irrefl _)
 ·exact absurd (Nat.lt_of_lt_of_le (Heap.lt_size (I.pin p hp).1) (by rw [z];exact hb)) (Nat.lt_irrefl _)
structure mD (P:Program) (w:World) (K:W.Frag) (tg:Expr) (J:It) (fp:List Addr) (it:Addr) (tn:Nat->Heap->Prop):Prop where
 mem:it ∈ fp
 obj:∀ i h,tn i h->∀ b ∈ fp,∃ o,h.get? b=some o/\∀ v,o.data≠.cell v
 keep:∀ i h h',tn i h->(∀ b ∈ fp,∀ o,h.get? b=some o->h'.get? b=some o)->tn i h'
 item:∀ (X:Cx),X.prog=P->X.w=w->X.K=K->X.calm=true->∀ (i:Nat) (pins:List (Addr × Obj)) (s:Shared) (σ:St) (H:Hp) (E:Value->Shared->Prop),Inv X pins σ H s->(∀ b ∈ fp,oI X pins H b)->tn i s.heap->J.go i H ->
  wpAny (model P w) X.A (pyNext (.ref it)) (λr s1=>∃ u,r=some u /\
   wpAny (model P w) X.A (letOwnedTupleGo tg (.ref it) u) (λ_ s2=>∃ x H',Inv X pins σ H' s2/\RelV x u/\J.yld i H x H'/\tn (i+1) s2.heap/\∀ b ∈ fp,H' b=none) E s1) E s
 done:∀ (X:Cx),X.prog=P->X.w=w->X.K=K->X.calm=true->∀ (i:Nat) (pins:List (Addr × Obj)) (s:Shared) (σ:St) (H:Hp) (E:Value->Shared->Prop),Inv X pins σ H s->(∀ b ∈ fp,oI X pins H b)->tn i s.heap->J.stop i H ->
  wpAny (model P w) X.A (pyNext (.ref it)) (λr s1=>r=none/\Inv X pins σ H s1) E s
 self:∀ (A:Around) (i:Nat) (s:Shared) (Q:Value->Shared->Prop) (E:Value->Shared->Prop),tn i s.heap->Q (.ref it) s->wpAny (model P w) A (pyIter (.ref it)) Q E s
abbrev TI:=St->Hp->(It->Hp->Prop)->Prop
def PIE (X:Cx) (pins:List (Addr × Obj)) (σ:St) (tg:Expr) (R:It->Hp->Prop) (itv:Value) (s2:Shared):Prop :=
 ∃ (it:Addr) (fp:List Addr) (tn:Nat->Heap->Prop) (J:It) (H':Hp),itv=.ref it/\Inv X pins σ H' s2/\mD X.prog X.w X.K tg J fp it tn/\tn 0 s2.heap/\(∀ b ∈ fp,oI X pins H' b)/\R J H'
def PI (X:Cx) (tg iter:Expr) (wi:TI):Prop :=
 ∀ (pins:List (Addr × Obj)) (s:Shared) (σ:St) (H:Hp) (R:It->Hp->Prop),Inv X pins σ H s->wi σ H R ->
  wpAny (model X.prog X.w) X.A (eval iter X.env) (λv s1=>wpAny (model X.prog X.w) X.A (pyIter v) (PIE X pins σ tg R) X.xe s1) X.xe s
variable {tg:Expr}
theorem sD {E:Value->Shared->Prop} {it:Addr} {n:String} {vs:Array Value} {Q:Unit->Shared->Prop} (ho:s.heap.get? it=some o) (hc:o.cls=.type n) (hd:o.data=.fields vs)
  (hn:["enumerate","zip","dict_itemiterator","dict_reverseitemiterator","odict_iterator","itertools.zip_longest","itertools.pairwise"].contains n=false) (hQ:Q () s):wpAny M A (letOwnedTupleGo tg (.ref it) u) Q E s:=by
 unfold letOwnedTupleGo
 cases tg <;> first
  | exact wpAny_pure hQ
  | (cases u <;> first
    | exact wpAny_pure hQ
    | (refine wpAny_bind (wpAny_load ho ?_)
       rw [hc,hd];show wpAny M A (if (["enumerate","zip","dict_itemiterator","dict_reverseitemiterator","odict_iterator","itertools.zip_longest","itertools.pairwise"].contains n && vs[0]? == some (rawInt _))=true then _ else _) Q E s;rw [if_neg (by intro h;rw [hn,Bool.false_and] at h;cases h)];exact wpAny_pure hQ))
def Itl (K:W.Frag) (a:Addr):It :=
 ⟨λi H=>∃ xs x,SqL K H a xs/\xs[i]?=some x,λi H x H'=>H'=H/\∀ xs,SqL K H a xs->xs[i]?=some x,λi H=>∃ xs,SqL K H a xs/\xs.length<=i⟩
def Itt (K:W.Frag) (a:Addr):It :=
 ⟨λi H=>∃ xs x,SqT K H a xs/\xs[i]?=some x,λi H x H'=>H'=H/\∀ xs,SqT K H a xs->xs[i]?=some x,λi H=>∃ xs,SqT K H a xs/\xs.length<=i⟩
def Itr (lo:Int) (n:Nat):It:=⟨λi _=>i < n,λi H x H'=>H'=H/\x=.int (lo+i),λi _=>n<=i⟩
variable {K:W.Frag}
theorem xN (a it:Addr):mD P w K tg (Itl K a) [it] it (λi h=>h.IsListIter it a i) where
 mem:=by simp
 obj:=λi h st b hb=>by
  have e:b=it:=by simpa using hb
  subst e;obtain ⟨o,e,c,d⟩:=st;exact ⟨o,e,λv z=>by rw [d] at z;cases z⟩
 keep:=λi h h' st k=>st.at λo e=>k it (by simp) o e
 item:=by intro X hP hw hK hc i pins s σ H E I hf st hg;subst hP hw hK;obtain ⟨xs,x,hq,hx⟩:=hg;obtain ⟨its,rv,p,hz⟩:=I.list hq;obtain ⟨u,hu,ru⟩:=rv.get hx;obtain ⟨f0,f1,f2,f3,f4,f5⟩:=hf it (by simp);refine wpAny_pyNext_list_item st p.isList (x:=u) (by simpa using hu) λh' st' sb=>?_;have I1:Inv X pins σ H { s with heap:=h' }:=I.turned (t':=s.toks) (λb o hb e=>(sb.2 b hb).trans e) f0 f1 f3 f4 f5;obtain ⟨o,e,c,d⟩:=id st';exact ⟨u,rfl,sD (s:={ s with heap:=h' }) e c d (by decide) ⟨x,H,I1,ru,⟨rfl,λys hy=>by rw [I.list_inj hy hq];exact hx⟩,st',λb hb=>(hf b hb).1⟩⟩
 done:=by intro X hP hw hK hc i pins s σ H E I hf st hg;subst hP hw hK;obtain ⟨xs,hq,hx⟩:=hg;obtain ⟨its,rv,p,hz⟩:=I.list hq;obtain ⟨f0,f1,f2,f3,f4,f5⟩:=hf it (by simp);have hl:=rv.length;exact wpAny_pyNext_list_end (I.ok.hd hc) st p.isList (by simp;omega) λh' eb=>⟨rfl,I.turned (t':=s.toks) (λb o hb e=>eb b o hb e) f0 f1 f3 f4 f5⟩
 self:=λ_ _ _ _ _ st h=>wpAny_pyIter_listiter st h
theorem vp (a it:Addr):mD P w K tg (Itt K a) [it] it (λi h=>h.IsTupleIter it a i) where
 mem:=by simp
 obj:=λi h st b hb=>by
  have e:b=it:=by simpa using hb
  subst e;obtain ⟨o,e,c,d⟩:=st;exact ⟨o,e,λv z=>by rw [d] at z;cases z⟩
 keep:=λi h h' st k=>st.at λo e=>k it (by simp) o e
 item:=by intro X hP hw hK hc i pins s σ H E I hf st hg;subst hP hw hK;obtain ⟨xs,x,hq,hx⟩:=hg;obtain ⟨its,rv,p,hz⟩:=I.tuple hq;obtain ⟨u,hu,ru⟩:=rv.get hx;obtain ⟨f0,f1,f2,f3,f4,f5⟩:=hf it (by simp);refine wpAny_pyNext_tuple_item st (show s.heap.IsTuple a its.toArray from p) (x:=u) (by simpa using hu) λh' st' sb=>?_;have I1:Inv X pins σ H { s with heap:=h' }:=I.turned (t':=s.toks) (λb o hb e=>(sb.2 b hb).trans e) f0 f1 f3 f4 f5;obtain ⟨o,e,c,d⟩:=id st';exact ⟨u,rfl,sD (s:={ s with heap:=h' }) e c d (by decide) ⟨x,H,I1,ru,⟨rfl,λys hy=>by rw [I.tuple_inj hy hq];exact hx⟩,st',λb hb=>(hf b hb).1⟩⟩
 done:=by intro X hP hw hK hc i pins s σ H E I hf st hg;subst hP hw hK;obtain ⟨xs,hq,hx⟩:=hg;obtain ⟨its,rv,p,hz⟩:=I.tuple hq;obtain ⟨f0,f1,f2,f3,f4,f5⟩:=hf it (by simp);have hl:=rv.length;exact wpAny_pyNext_tuple_end (I.ok.hd hc) st (show s.heap.IsTuple a its.toArray from p) (by simp;omega) λh' eb=>⟨rfl,I.turned (t':=s.toks) (λb o hb e=>eb b o hb e) f0 f1 f3 f4 f5⟩
 self:=λ_ _ _ _ _ st h=>wpAny_pyIter_tupleiter st h
theorem vn {K:PySem.W.Frag} (it:Addr) (lo:Int) (n:Nat):mD P w K tg (Itr lo n) [it] it (λi h=>IsRangeIter h it (lo+(i:Nat) * 1) ((n:Int) - (i:Nat)) 1) where
 mem:=by simp
 obj:=λi h st b hb=>by
  have e:b=it:=by simpa using hb
  subst e
  exact ⟨_,st,λv z=>by
   have z':Data.fields _=Data.cell v:=z;cases z'⟩
 keep:=λi h h' st k=>k it (by simp) _ st
 item:=by intro X hP hw hK hc i pins s σ H E I hf st hg;subst hP hw hK;obtain ⟨f0,f1,f2,f3,f4,f5⟩:=hf it (by simp);have W:=Walks.range (prog:=X.prog) (w:=X.w) (I.ok.hd hc) it lo 1 n;refine W.item i s _ _ hg st λv h' tk hv st' kk=>?_;obtain ⟨t,rfl⟩:=hv;have I1:Inv X pins σ H { s with heap:=h',toks:=tk }:=I.turned (λb o hb e=>kk b o (by simpa using hb) e) f0 f1 f3 f4 f5;refine ⟨_,rfl,sD (s:={ s with heap:=h',toks:=tk }) (n:="range_iterator") st' rfl rfl (by decide) ⟨.int (lo+i),H,I1,⟨t,?_⟩,⟨rfl,rfl⟩,st',λb hb=>(hf b hb).1⟩⟩;rw [Int.mul_one]
 done:=by intro X hP hw hK hc i pins s σ H E I hf st hg;subst hP hw hK;obtain ⟨f0,f1,f2,f3,f4,f5⟩:=hf it (by simp);exact wpAny_pyNext_range_end (I.ok.hd hc) st (by have:n<=i:=hg;omega) λh' eb=>⟨rfl,I.turned (t':=s.toks) (λb o hb e=>eb b o hb e) f0 f1 f3 f4 f5⟩
 self:=λ_ _ _ _ _ st h=>wpAny_pyIter_rangeiter st h
section
variable {X:Cx} {tg:Expr}
def pB (K:W.Frag) (tl:TE):TI:=λσ H R=>tl σ H λx H1=>∃ a,x=.ref a/\(∃ xs,SqL K H1 a xs)/\R (Itl K a) H1
def yT (K:W.Frag) (tl:TE):TI:=λσ H R=>tl σ H λx H1=>∃ a,x=.ref a/\(∃ xs,SqT K H1 a xs)/\R (Itt K a) H1
variable {l:Expr} {tl:TE}
theorem dO (hl:PE X l tl):PI X tg l (pB X.K tl):=by
 intro pins s σ H R I h;refine thn (hl pins s σ H _ I h) λv s1 ⟨x,H1,I1,r1,q1⟩=>?_;obtain ⟨a,e,⟨xs,hq⟩,q⟩:=q1;subst e;cases r1;obtain ⟨its,rv,p,hz⟩:=I1.list hq;refine wpAny_pyIter_list p.isList ?_;refine ⟨s1.heap.objs.size,[s1.heap.objs.size],_,_,H1,rfl,I1.kept (t':=s1.toks) λb o e=>Heap.get?_push_of_some _ e,xN a _,⟨_,Heap.get?_push_size _ rfl,rfl,rfl⟩,λb hb=>?_,q⟩;have e:b=s1.heap.objs.size:=by simpa using hb
 subst e;exact I1.fpOk (Nat.le_refl _) (I1.hok.fresh (Nat.le_refl _))
theorem iF (hl:PE X l tl):PI X tg l (yT X.K tl):=by
 intro pins s σ H R I h;refine thn (hl pins s σ H _ I h) λv s1 ⟨x,H1,I1,r1,q1⟩=>?_;obtain ⟨a,e,⟨xs,hq⟩,q⟩:=q1;subst e;cases r1;obtain ⟨its,rv,p,hz⟩:=I1.tuple hq;refine wpAny_pyIter_tuple (show s1.heap.IsTuple a its.toArray from p) ?_;refine ⟨s1.heap.objs.size,[s1.heap.objs.size],_,_,H1,rfl,I1.kept (t':=s1.toks) λb o e=>Heap.get?_push_of_some _ e,vp a _,⟨_,Heap.get?_push_size _ rfl,rfl,rfl⟩,λb hb=>?_,q⟩;have e:b=s1.heap.objs.size:=by simpa using hb
 subst e;exact I1.fpOk (Nat.le_refl _) (I1.hok.fresh (Nat.le_refl _))
variable {pins:List (Addr × Obj)} {σ:St} {H:Hp} {s:Shared}
theorem zZ {R:It->Hp->Prop} {E:Value->Shared->Prop} {lo hi:Int} {t u v:Tok} {tk:Nat} (I:Inv X pins σ H s) (h1:-(2 ^ 62)<=lo) (h2:lo < 2 ^ 62) (h3:-(2 ^ 62)<=hi) (h4:hi < 2 ^ 62)
  (q:R (Itr lo (hi - lo).toNat) H):wpAny (model X.prog X.w) X.A (pyIter (.ref s.heap.objs.size)) (PIE X pins σ tg R) E { s with heap:=s.heap.push { cls:=.type "range",data:=.fields #[.int lo t,.int hi u,.int 1 v] },toks:=tk }:=by
 refine wpAny_pyIter_range (IsRange.new ..) (small_one h1 h2 h3 h4) ?_;have I1:Inv X pins σ H { s with heap:=s.heap.push { cls:=.type "range",data:=.fields #[.int lo t,.int hi u,.int 1 v] },toks:=tk }:=I.kept λb o e=>Heap.get?_push_of_some _ e
 refine ⟨(s.heap.push { cls:=.type "range",data:=.fields #[.int lo t,.int hi u,.int 1 v] }).objs.size,[(s.heap.push { cls:=.type "range",data:=.fields #[.int lo t,.int hi u,.int 1 v] }).objs.size],_,_,H,rfl,
  I1.kept (t':=tk) λb o e=>Heap.get?_push_of_some _ e,vn _ lo (hi - lo).toNat,?_,λb hb=>?_,q⟩
 ·have e1:lo+((0:Nat):Int) * 1=lo:=by simp
  have e2:(((hi - lo).toNat:Nat):Int) - ((0:Nat):Int)=Builtin.Range.rangeSize lo hi 1:=by rw [rangeSize_one];split <;> omega
  show IsRangeIter _ _ (lo+((0:Nat):Int) * 1) ((((hi - lo).toNat:Nat):Int) - ((0:Nat):Int)) 1;rw [e1,e2];exact Heap.get?_push_size _ rfl
 ·have e:b=(s.heap.push { cls:=.type "range",data:=.fields #[.int lo t,.int hi u,.int 1 v] }).objs.size:=by simpa using hb
  subst e;exact I1.fpOk (Nat.le_refl _) (I1.hok.fresh (Nat.le_refl _))
def CB (ta:TA):TI:=λσ H R=>ta σ H λvs H1=>∃ j:Int,vs=[.int j]/\-(2 ^ 62)<=j/\j < 2 ^ 62/\R (Itr 0 j.toNat) H1
variable {pos:Pos}
theorem jD {a:Expr} {ta:TA} {p:Pos} (hg:Gl X "range") (hm:X.mg "range"=none) (ha:PA X [a] ta) (hs:starEach [a] X.env=[(false,eval a X.env)]:=by rfl):PI X tg (.Call (.Name "range" p) [a] [] pos) (CB ta):=by
 intro pins s σ H R I h;refine Call_ (i8 I hg hm boot_range (PyProof.Rows.callWith_type1 (thn (ha pos pins s σ H _ I h) λus s1 ⟨vs,H1,I1,r1,q1⟩=>?_) hs rfl));obtain ⟨j,e,q1,q2,q⟩:=q1;subst e
 cases r1 with
 | cons r rr =>cases rr;obtain ⟨t,rfl⟩:=r;exact call_range_1 (zZ I1 (by omega) (by omega) q1 q2 (by simpa using q))
def Eg (wi:TI) (g:TG) (tb:TS):TS:=λD σ H=>wi σ H λJ H1=>∃ W:Nat->Nat->St->Hp->Prop,(∃ m,W 0 m σ H1)/\∀ i m σ H,W i m σ H ->
 (J.stop i H/\D.nx σ H)\/(J.go i H/\∃ N:St->Hp->Prop,(∀ σ' H',N σ' H'->∃ m',m' < m/\W (i+1) m' σ' H')/\∀ x H',J.yld i H x H'->g x σ H' λσ2 H2=>tb { D with nx:=N,ct:=N,bk:=D.nx } σ2 H2)
def nU (fp:List Addr) (h:Heap):List (Addr × Obj):=fp.filterMap λb=>(h.get? b).map λo=>(b,o)
variable {fp:List Addr} {h:Heap}
theorem iD {b:Addr} {o:Obj} (hb:b ∈ fp) (e:h.get? b=some o):(b,o) ∈ nU fp h:=List.mem_filterMap.mpr ⟨b,hb,by rw [e];rfl⟩
theorem xn {p:Addr × Obj} (hp:p ∈ nU fp h):p.1 ∈ fp/\h.get? p.1=some p.2:=by
 obtain ⟨b,hb,e⟩:=List.mem_filterMap.mp hp
 cases q:h.get? b with
 | none=>rw [q] at e;cases e
 | some o =>rw [q] at e;have e':(b,o)=p:=Option.some.inj e;subst e';exact ⟨hb,q⟩
theorem Inv.pinned (I:Inv X pins σ H s) (hf:∀ b ∈ fp,oI X pins H b) (ho:∀ b ∈ fp,∃ o,s.heap.get? b=some o/\∀ v,o.data≠.cell v):Inv X (pins++nU fp s.heap) σ H s :=
 I.pins_of λp hp=>(List.mem_append.mp hp).elim (λz=>I.pin p (List.mem_append_right _ z)) λz=>by obtain ⟨hb,e⟩:=xn z;obtain ⟨f0,f1,f2,_⟩:=hf p.1 hb;obtain ⟨o,e',d⟩:=ho p.1 hb;rw [e] at e';cases e';exact ⟨e,f0,f1,f2,d⟩
theorem Inv.unpinned {pl:List (Addr × Obj)} (I:Inv X (pins++pl) σ H s):Inv X pins σ H s:=I.pins_of λp hp=>I.pin p (List.mem_append_right _ (List.mem_append_left _ hp))
theorem gu {iter:Expr} {body:List Stmt} {wi:TI} {g:TG} {tb:TS} (hp:PassesOwn (model X.prog X.w) X.A X.env X.xe) (hc:X.calm=true) (hi:PI X tg iter wi) (hg:PG X tg g) (hb:PSs X body tb)
  (hs:∀ x,foldedSetIterable iter X.env x=pure x:=by intro _;rfl):PS X (.For tg iter body [] pos) (Eg wi g tb):=by
 intro pins s σ H D I h;refine wpAny_For (thn (hi pins s σ H _ I h) λv s1 h1=>thn h1 λitv s2 h2=>?_) hs;obtain ⟨it,fp,tn,J,H2,e,I2,T,st2,f2,W,⟨m0,w0⟩,turn⟩:=h2;subst e;have rO:∀ {H':Hp},(∀ b ∈ fp,H' b=none)->∀ b ∈ fp,oI X pins H' b:=λhn b hb=>⟨hn b hb,(f2 b hb).2⟩
 refine codeAny_forLoop_any (λn s'=>∃ i σ' H',Inv X pins σ' H' s'/\tn i s'.heap/\(∀ b ∈ fp,H' b=none)/\W i n σ' H') ?_ m0 ⟨0,σ,H2,I2,st2,λb hb=>(f2 b hb).1,w0⟩;rintro n s3 ⟨i,σ3,H3,I3,st3,fr3,w3⟩;rcases turn i n σ3 H3 w3 with ⟨stop,qn⟩ | ⟨go,N,hN,step⟩
 ·refine wpAny_passesOwn hp (thn (T.done X rfl rfl rfl hc i pins s3 σ3 H3 X.xe I3 (rO fr3) st3 stop) λr s4 ⟨hr,I4⟩=>?_);subst hr;exact wpAny_execs_nil ⟨σ3,H3,I4,qn⟩
 ·refine wpAny_passesOwn hp (thn (T.item X rfl rfl rfl hc i pins s3 σ3 H3 X.xe I3 (rO fr3) st3 go) λr s4 ⟨u,hr,h4⟩=>?_);subst hr;refine wpAny_passesOwn hp (thn h4 λ_ s5 ⟨x,H5,I5,r5,y5,st5,fr5⟩=>?_);have I5':=I5.pinned (rO fr5) (T.obj _ _ st5);refine wpAny_passesOwn hp (thn (hg _ s5 σ3 H5 x u _ I5' r5 (step x H5 y5)) λ_ s6 ⟨σ6,H6,I6,q6⟩=>?_);refine wpAny_passesOwn hp (thn (hb _ s6 σ6 H6 _ I6 q6) λf s7 q7=>?_)
  have again:∀ {σ7:St} {H7:Hp},Inv X (pins++nU fp s5.heap) σ7 H7 s7->N σ7 H7->∃ m,m < n/\∃ i σ' H',Inv X pins σ' H' s7/\tn i s7.heap/\(∀ b ∈ fp,H' b=none)/\W i m σ' H':=λ{σ7 H7} I7 n7=>by obtain ⟨m',hm,w7⟩:=hN σ7 H7 n7;refine ⟨m',hm,i+1,σ7,H7,I7.unpinned,T.keep _ _ _ st5 λb hb o e=>(I7.pin (b,o) (List.mem_append_right _ (List.mem_append_right _ (iD hb e)))).1,λb hb=>?_,w7⟩;obtain ⟨o,e,d⟩:=T.obj _ _ st5 b hb;exact (I7.pin (b,o) (List.mem_append_right _ (List.mem_append_right _ (iD hb e)))).2.1
  cases f with
  | next=>obtain ⟨σ7,H7,I7,n7⟩:=q7;exact again I7 n7
  | cont=>obtain ⟨σ7,H7,I7,n7⟩:=q7;exact again I7 n7
  | brk=>obtain ⟨σ7,H7,I7,q7⟩:=q7;exact ⟨σ7,H7,I7.unpinned,q7⟩
  | ret v=>obtain ⟨x7,σ7,H7,I7,r7,q7⟩:=q7;exact ⟨x7,σ7,H7,I7.unpinned,r7,q7⟩
end
variable {g:TG} {tb:TS}
theorem i5 {K:PySem.W.Frag} {D:iU} (Pv:Nat->St->Hp->Prop) (h0:Pv 0 σ H) (hl:∀ i σ H,i<=xs.length->Pv i σ H->SqL K H a xs)
  (hs:∀ i x σ H,xs[i]?=some x->Pv i σ H->g x σ H λσ2 H2=>tb { D with nx:=Pv (i+1),ct:=Pv (i+1),bk:=D.nx } σ2 H2) (hd:∀ σ H,Pv xs.length σ H->D.nx σ H) :
  ∃ W:Nat->Nat->St->Hp->Prop,(∃ m,W 0 m σ H)/\∀ i m σ H,W i m σ H ->
   ((Itl K a).stop i H/\D.nx σ H)\/((Itl K a).go i H/\∃ N:St->Hp->Prop,(∀ σ' H',N σ' H'->∃ m',m' < m/\W (i+1) m' σ' H')/\∀ x H',(Itl K a).yld i H x H'->g x σ H' λσ2 H2=>tb { D with nx:=N,ct:=N,bk:=D.nx } σ2 H2):=by
 refine ⟨λi m σ H=>m=xs.length - i/\i<=xs.length/\Pv i σ H,⟨xs.length,by simp,Nat.zero_le _,h0⟩,?_⟩;rintro i m σ H ⟨rfl,hi,p⟩;have q:=hl i σ H hi p;by_cases hlt:i < xs.length
 ·refine .inr ⟨⟨xs,xs[i],q,by simp [hlt]⟩,Pv (i+1),λσ' H' p'=>⟨xs.length - (i+1),by omega,rfl,hlt,p'⟩,λx H' y=>?_⟩;obtain ⟨e,y⟩:=y;subst e;exact hs i x σ _ (y xs q) p
 ·have e:i=xs.length:=by omega
  subst e;exact .inl ⟨⟨xs,q,Nat.le_refl _⟩,hd σ H p⟩
theorem qB {K:PySem.W.Frag} {D:iU} (Pv:Nat->St->Hp->Prop) (h0:Pv 0 σ H) (hl:∀ i σ H,i<=xs.length->Pv i σ H->SqT K H a xs)
  (hs:∀ i x σ H,xs[i]?=some x->Pv i σ H->g x σ H λσ2 H2=>tb { D with nx:=Pv (i+1),ct:=Pv (i+1),bk:=D.nx } σ2 H2) (hd:∀ σ H,Pv xs.length σ H->D.nx σ H) :
  ∃ W:Nat->Nat->St->Hp->Prop,(∃ m,W 0 m σ H)/\∀ i m σ H,W i m σ H ->
   ((Itt K a).stop i H/\D.nx σ H)\/((Itt K a).go i H/\∃ N:St->Hp->Prop,(∀ σ' H',N σ' H'->∃ m',m' < m/\W (i+1) m' σ' H')/\∀ x H',(Itt K a).yld i H x H'->g x σ H' λσ2 H2=>tb { D with nx:=N,ct:=N,bk:=D.nx } σ2 H2):=by
 refine ⟨λi m σ H=>m=xs.length - i/\i<=xs.length/\Pv i σ H,⟨xs.length,by simp,Nat.zero_le _,h0⟩,?_⟩;rintro i m σ H ⟨rfl,hi,p⟩;have q:=hl i σ H hi p;by_cases hlt:i < xs.length
 ·refine .inr ⟨⟨xs,xs[i],q,by simp [hlt]⟩,Pv (i+1),λσ' H' p'=>⟨xs.length - (i+1),by omega,rfl,hlt,p'⟩,λx H' y=>?_⟩;obtain ⟨e,y⟩:=y;subst e;exact hs i x σ _ (y xs q) p
 ·have e:i=xs.length:=by omega
  subst e;exact .inl ⟨⟨xs,q,Nat.le_refl _⟩,hd σ H p⟩
variable {n:Nat}
theorem pw {lo:Int} {D:iU} (Pv:Nat->St->Hp->Prop) (h0:Pv 0 σ H)
  (hs:∀ i σ H,i < n->Pv i σ H->g (.int (lo+i)) σ H λσ2 H2=>tb { D with nx:=Pv (i+1),ct:=Pv (i+1),bk:=D.nx } σ2 H2) (hd:∀ σ H,Pv n σ H->D.nx σ H) :
  ∃ W:Nat->Nat->St->Hp->Prop,(∃ m,W 0 m σ H)/\∀ i m σ H,W i m σ H ->
   ((Itr lo n).stop i H/\D.nx σ H)\/((Itr lo n).go i H/\∃ N:St->Hp->Prop,(∀ σ' H',N σ' H'->∃ m',m' < m/\W (i+1) m' σ' H')/\∀ x H',(Itr lo n).yld i H x H'->g x σ H' λσ2 H2=>tb { D with nx:=N,ct:=N,bk:=D.nx } σ2 H2):=by
 refine ⟨λi m σ H=>m=n - i/\i<=n/\Pv i σ H,⟨n,by simp,Nat.zero_le _,h0⟩,?_⟩;rintro i m σ H ⟨rfl,hi,p⟩;by_cases hlt:i < n
 ·refine .inr ⟨hlt,Pv (i+1),λσ' H' p'=>⟨n - (i+1),by omega,rfl,hlt,p'⟩,λx H' y=>?_⟩;obtain ⟨e,y⟩:=y;subst e y;exact hs i σ _ hlt p
 ·have e:i=n:=by omega
  subst e;exact .inl ⟨Nat.le_refl _,hd σ H p⟩
theorem uf {c:TT} {D:iU} (Pv:St->Hp->Prop) (μ:St->Hp->Nat) (h0:Pv σ H)
  (hs:∀ σ H,Pv σ H->c σ H λb H1=>if b=true then tb { D with nx:=λσ' H'=>Pv σ' H'/\μ σ' H' < μ σ H,ct:=λσ' H'=>Pv σ' H'/\μ σ' H' < μ σ H,bk:=D.nx } σ H1 else D.nx σ H1)
  (mono:∀ σ H Q Q',(∀ b H1,Q b H1->Q' b H1)->c σ H Q->c σ H Q'):AA c tb D σ H:=by
 refine ⟨λm σ H=>m=μ σ H/\Pv σ H,⟨_,rfl,h0⟩,?_⟩;rintro m σ H ⟨rfl,p⟩;refine mono σ H _ _ (λb H1 q=>?_) (hs σ H p)
 cases b with
 | true=>exact ⟨_,λσ' H' ⟨p',l⟩=>⟨_,l,rfl,p'⟩,q⟩
 | false=>exact q
abbrev R2:=V->V->Hp->VK->Prop
def OpR (X:Cx) (f:Value->Value->Sem Value) (r:R2):Prop :=
 ∀ (pins:List (Addr × Obj)) (s:Shared) (σ:St) (H:Hp) (x y:V) (v u:Value) (Q:VK),Inv X pins σ H s->RelV x v->RelV y u->r x y H Q ->
  wpAny (model X.prog X.w) X.A (f v u) (EP X pins σ Q) X.xe s
def UnR (X:Cx) (f:Value->Sem Value) (r:V->Hp->VK->Prop):Prop :=
 ∀ (pins:List (Addr × Obj)) (s:Shared) (σ:St) (H:Hp) (x:V) (v:Value) (Q:VK),Inv X pins σ H s->RelV x v->r x H Q ->
  wpAny (model X.prog X.w) X.A (f v) (EP X pins σ Q) X.xe s
def hW (X:Cx) (f:Value) (r:List V->Hp->VK->Prop):Prop :=
 ∀ (pins:List (Addr × Obj)) (s:Shared) (σ:St) (H:Hp) (xs:List V) (us:List Value) (Q:VK),Inv X pins σ H s->Vals xs us->r xs H Q ->
  wpAny (model X.prog X.w) X.A (call f us) (EP X pins σ Q) X.xe s
def Ff (X:Cx) (r:V->Hp->(Bool->Hp->Prop)->Prop):Prop :=
 ∀ (pins:List (Addr × Obj)) (s:Shared) (σ:St) (H:Hp) (x:V) (v:Value) (Q:Bool->Hp->Prop),Inv X pins σ H s->RelV x v->r x H Q ->
  wpAny (model X.prog X.w) X.A (truthy v) (TP X pins σ Q) X.xe s
def tOp (r:R2) (ta tb:TE):TE:=λσ H Q=>ta σ H λx H1=>tb σ H1 λy H2=>r x y H2 Q
def tUn (r:V->Hp->VK->Prop) (ta:TE):TE:=λσ H Q=>ta σ H λx H1=>r x H1 Q
def rI (C:Int->Int->Prop) (g:Int->Int->V):R2:=λx y H Q=>∃ i j,x=.int i/\y=.int j/\C i j/\Q (g i j) H
def rI0 (g:Int->Int->V):R2:=λx y H Q=>∃ i j,x=.int i/\y=.int j/\Q (g i j) H
def rU (g:Int->V):V->Hp->VK->Prop:=λx H Q=>∃ i,x=.int i/\Q (g i) H
section
variable {X:Cx} {a b c:Expr} {ta tb tc:TE} {pos:Pos}
variable {f:Value->Value->Sem Value}
theorem Dk (ha:PE X a ta) (hb:PE X b tb) {pins:List (Addr × Obj)} {s:Shared} {σ:St} {H:Hp} {R:V->V->Hp->Prop} (I:Inv X pins σ H s)
  (h:ta σ H λx H1=>tb σ H1 λy H2=>R x y H2) {Q:Value->Shared->Prop}
  (hf:∀ v u s2 x y H2,Inv X pins σ H2 s2->RelV x v->RelV y u->R x y H2->wpAny (model X.prog X.w) X.A (f v u) Q X.xe s2) :
  wpAny (model X.prog X.w) X.A (eval a X.env) (λv s₁=>wpAny (model X.prog X.w) X.A (eval b X.env) (λu s₂=>wpAny (model X.prog X.w) X.A (f v u) Q X.xe s₂) X.xe s₁) X.xe s:=by
 refine thn (ha pins s σ H _ I h) λv s1 ⟨x,H1,I1,r1,q1⟩=>?_;refine thn (hb pins s1 σ H1 _ I1 q1) λu s2 ⟨y,H2,I2,r2,q2⟩=>?_;exact hf v u s2 x y H2 I2 r1 r2 q2
theorem ba {op:Operator} {r:R2} (ho:OpR X (binaryOp op) r) (ha:PE X a ta) (hb:PE X b tb):PE X (.BinOp a op b pos) (tOp r ta tb):=by intro pins s σ H Q I h;exact wpAny_BinOp (Dk ha hb I h λv u s2 x y H2 I2 rx ry q=>ho pins s2 σ H2 x y v u Q I2 rx ry q)
theorem zG {op:UnaryOp} {r:V->Hp->VK->Prop} (ho:UnR X (unaryOp op) r) (ha:PE X a ta):PE X (.UnaryOp op a pos) (tUn r ta):=by intro pins s σ H Q I h;exact UnaryOp_ (thn (ha pins s σ H _ I h) λv s1 ⟨x,H1,I1,r1,q1⟩=>ho pins s1 σ H1 x v Q I1 r1 q1)
variable {g:Int->Int->Int}
theorem opI {C:Int->Int->Prop}
  (rule:∀ (i j:Int) (t u:Tok) (s:Shared) (Q:Value->Shared->Prop) (E:Value->Shared->Prop),C i j->Q (.int (g i j) s.toks) { s with toks:=s.toks+1 }->wpAny (model X.prog X.w) X.A (f (.int i t) (.int j u)) Q E s) :
  OpR X f (rI C λi j=>.int (g i j)):=by
 intro pins s σ H x y v u Q I rx ry h;obtain ⟨i,j,rfl,rfl,hc,q⟩:=h;obtain ⟨t,rfl⟩:=rx;obtain ⟨t',rfl⟩:=ry;exact rule i j t t' s _ _ hc ⟨.int (g i j),H,I.tok _,⟨_,rfl⟩,q⟩
theorem EN
  (rule:∀ (i j:Int) (t u:Tok) (s:Shared) (Q:Value->Shared->Prop) (E:Value->Shared->Prop),Q (.int (g i j) s.toks) { s with toks:=s.toks+1 }->wpAny (model X.prog X.w) X.A (f (.int i t) (.int j u)) Q E s) :
  OpR X f (rI0 λi j=>.int (g i j)):=by
 intro pins s σ H x y v u Q I rx ry h;obtain ⟨i,j,rfl,rfl,q⟩:=h;obtain ⟨t,rfl⟩:=rx;obtain ⟨t',rfl⟩:=ry;exact rule i j t t' s _ _ ⟨.int (g i j),H,I.tok _,⟨_,rfl⟩,q⟩
theorem BK {g:Int->Int->Bool}
  (rule:∀ (i j:Int) (t u:Tok) (s:Shared) (Q:Value->Shared->Prop) (E:Value->Shared->Prop),Q (.bool (g i j)) s->wpAny (model X.prog X.w) X.A (f (.int i t) (.int j u)) Q E s) :
  OpR X f (rI0 λi j=>.bl (g i j)):=by
 intro pins s σ H x y v u Q I rx ry h;obtain ⟨i,j,rfl,rfl,q⟩:=h;obtain ⟨t,rfl⟩:=rx;obtain ⟨t',rfl⟩:=ry;exact rule i j t t' s _ _ ⟨.bl (g i j),H,I,rfl,q⟩
def CZ (i j:Int):Prop:=0 < j/\j < 1073741824
def Fd (i j:Int):Prop:=0<=j/\j<=1000000/\i.natAbs < 2 ^ 64
def CMul (i j:Int):Prop:=(-(2 ^ 64) < i/\i < 2 ^ 64)\/(-(2 ^ 64) < j/\j < 2 ^ 64)
theorem CMul.ok {i j:Int} (h:CMul i j):IntMulOk i j:=by
 rcases h with ⟨h1,h2⟩ | ⟨h1,h2⟩
 ·exact .of_left (intBits_le_64 h1 h2)
 ·exact .of_right (intBits_le_64 h1 h2)
theorem cX:OpR X (binaryOp .Add) (rI0 λi j=>.int (i+j)):=EN λ_ _ _ _ _ _ _ q=>add_int q
theorem rn:OpR X (binaryOp .Sub) (rI0 λi j=>.int (i - j)):=EN λ_ _ _ _ _ _ _ q=>sub_int q
theorem rg:OpR X (binaryOp .Mult) (rI CMul λi j=>.int (i * j)):=opI λ_ _ _ _ _ _ _ hc q=>mul_int q hc.ok
theorem iE:OpR X (binaryOp .FloorDiv) (rI CZ λi j=>.int (i / j)):=opI λi j _ _ _ _ _ hc q=>by have h1:(0:Int) < j:=hc.1;have h2:j < 1073741824:=hc.2;exact floordiv_int (by omega) (by rw [Int.fdiv_eq_ediv_of_nonneg i (by omega)];exact q) (.inl (PyProof.noPylong_small (by omega)))
theorem dD:OpR X (binaryOp .Mod) (rI (λ_ j=>0 < j) λi j=>.int (i % j)):=opI λi j _ _ _ _ _ hc q=>by have h1:(0:Int) < j:=hc;exact mod_int' (by omega) (by rw [Int.fmod_eq_emod_of_nonneg i (by omega)];exact q)
theorem rj:OpR X (binaryOp .Pow) (rI Fd λi j=>.int (i ^ j.toNat)):=opI λ_ _ _ _ _ _ _ hc q=>pow_int_small hc.1 hc.2.1 hc.2.2 q
theorem unI {f:Value->Sem Value} {g:Int->Int}
  (rule:∀ (i:Int) (t:Tok) (s:Shared) (Q:Value->Shared->Prop) (E:Value->Shared->Prop),Q (.int (g i) s.toks) { s with toks:=s.toks+1 }->wpAny (model X.prog X.w) X.A (f (.int i t)) Q E s) :
  UnR X f (rU λi=>.int (g i)):=by
 intro pins s σ H x v Q I rx h;obtain ⟨i,rfl,q⟩:=h;obtain ⟨t,rfl⟩:=rx;exact rule i t s _ _ ⟨.int (g i),H,I.tok _,⟨_,rfl⟩,q⟩
theorem vq:UnR X (unaryOp .USub) (rU λi=>.int (-i)):=unI λ_ _ _ _ _ q=>neg_int q
end
def E1:V->V->Bool
 | .non,.non=>true | .non,.int _=>true | .int _,.non=>true | .non,.bl _=>true | .bl _,.non=>true | .non,.str _=>true | .str _,.non=>true
 | .int _,.int _=>true | .bl _,.bl _=>true | .str _,.str _=>true | .byt _,.byt _=>true
 | .int _,.str _=>true | .str _,.int _=>true | .bl _,.str _=>true | .str _,.bl _=>true
 | _,_=>false
def rEq:R2:=λx y H Q=>E1 x y=true/\Q (.bl (decide (x=y))) H
def rNe:R2:=λx y H Q=>E1 x y=true/\Q (.bl (!decide (x=y))) H
theorem vI {i j:Int}:decide (V.int i=V.int j)=(i == j):=by rw [Bool.eq_iff_iff];simp
theorem yB {i j:Bool}:decide (V.bl i=V.bl j)=(i == j):=by rw [Bool.eq_iff_iff];simp
theorem vJ {i j:Str}:decide (V.str i=V.str j)=(i == j):=by rw [Bool.eq_iff_iff];simp
theorem vH {i j:Array UInt8}:decide (V.byt i=V.byt j)=(i.toList == j.toList):=by rw [Bool.eq_iff_iff];cases i;cases j;simp
section
variable {X:Cx} {a b c:Expr} {ta tb tc:TE} {pos:Pos}
theorem bO {pins:List (Addr × Obj)} {σ:St} {H:Hp} {s:Shared} {Q:VK} {k k':Bool} (I:Inv X pins σ H s) (q:Q (.bl k) H) (e:k=k'):EP X pins σ Q (.bool k') s:=by subst e;exact ⟨.bl k,H,I,rfl,q⟩
theorem bz:OpR X (compareOp .Eq) rEq:=by
 intro pins s σ H x y v u Q I rx ry h;obtain ⟨hs,q⟩:=h
 cases x with
 | non =>
  cases rx
  cases y with
  | non=>cases ry;exact PySem.EqNone.eq_none_none (bO I q (by simp))
  | bl j=>cases ry;exact PySem.EqNone.eq_none_bool (bO I q (by simp))
  | int j=>obtain ⟨t',rfl⟩:=ry;exact PySem.EqNone.eq_none_int (bO I q (by simp))
  | str j=>obtain ⟨t',rfl⟩:=ry;exact PySem.EqNone.eq_none_str (bO I q (by simp))
  | _=>exact absurd (show false=true from hs) Bool.false_ne_true
 | bl i =>
  cases rx
  cases y with
  | non=>cases ry;exact PySem.EqNone.eq_bool_none (bO I q (by simp))
  | bl j=>cases ry;exact eq_bool (bO I q yB)
  | str j=>obtain ⟨t',rfl⟩:=ry;exact PySem.EqMixed.eq_bool_str (bO I q (by simp))
  | _=>exact absurd (show false=true from hs) Bool.false_ne_true
 | int i =>
  obtain ⟨t,rfl⟩:=rx
  cases y with
  | non=>cases ry;exact PySem.EqNone.eq_int_none (bO I q (by simp))
  | int j=>obtain ⟨t',rfl⟩:=ry;exact eq_int (bO I q vI)
  | str j=>obtain ⟨t',rfl⟩:=ry;exact PySem.EqMixed.eq_int_str (bO I q (by simp))
  | _=>exact absurd (show false=true from hs) Bool.false_ne_true
 | str i =>
  obtain ⟨t,rfl⟩:=rx
  cases y with
  | non=>cases ry;exact PySem.EqNone.eq_str_none (bO I q (by simp))
  | bl j=>cases ry;exact PySem.EqMixed.eq_str_bool (bO I q (by simp))
  | int j=>obtain ⟨t',rfl⟩:=ry;exact PySem.EqMixed.eq_str_int (bO I q (by simp))
  | str j=>obtain ⟨t',rfl⟩:=ry;exact eq_str (bO I q vJ)
  | _=>exact absurd (show false=true from hs) Bool.false_ne_true
 | byt i =>
  obtain ⟨t,rfl⟩:=rx
  cases y with
  | byt j=>obtain ⟨t',rfl⟩:=ry;exact W.eq_bytes (bO I q vH)
  | _=>exact absurd (show false=true from hs) Bool.false_ne_true
 | _=>cases y <;> exact absurd (show false=true from hs) Bool.false_ne_true
theorem iP:OpR X (compareOp .NotEq) rNe:=by
 intro pins s σ H x y v u Q I rx ry h;obtain ⟨hs,q⟩:=h
 cases x with
 | non =>
  cases rx
  cases y with
  | non=>cases ry;exact PySem.EqNone.ne_none_none (bO I q (by simp))
  | bl j=>cases ry;exact PySem.EqNone.ne_none_bool (bO I q (by simp))
  | int j=>obtain ⟨t',rfl⟩:=ry;exact PySem.EqNone.ne_none_int (bO I q (by simp))
  | str j=>obtain ⟨t',rfl⟩:=ry;exact PySem.EqNone.ne_none_str (bO I q (by simp))
  | _=>exact absurd (show false=true from hs) Bool.false_ne_true
 | bl i =>
  cases rx
  cases y with
  | non=>cases ry;exact PySem.EqNone.ne_bool_none (bO I q (by simp))
  | bl j=>cases ry;exact ne_bool (bO I q (congrArg not yB))
  | str j=>obtain ⟨t',rfl⟩:=ry;exact PySem.EqMixed.ne_bool_str (bO I q (by simp))
  | _=>exact absurd (show false=true from hs) Bool.false_ne_true
 | int i =>
  obtain ⟨t,rfl⟩:=rx
  cases y with
  | non=>cases ry;exact PySem.EqNone.ne_int_none (bO I q (by simp))
  | int j=>obtain ⟨t',rfl⟩:=ry;exact ne_int (bO I q (congrArg not vI))
  | str j=>obtain ⟨t',rfl⟩:=ry;exact PySem.EqMixed.ne_int_str (bO I q (by simp))
  | _=>exact absurd (show false=true from hs) Bool.false_ne_true
 | str i =>
  obtain ⟨t,rfl⟩:=rx
  cases y with
  | non=>cases ry;exact PySem.EqNone.ne_str_none (bO I q (by simp))
  | bl j=>cases ry;exact PySem.EqMixed.ne_str_bool (bO I q (by simp))
  | int j=>obtain ⟨t',rfl⟩:=ry;exact PySem.EqMixed.ne_str_int (bO I q (by simp))
  | str j=>obtain ⟨t',rfl⟩:=ry;exact ne_str (bO I q (congrArg not vJ))
  | _=>exact absurd (show false=true from hs) Bool.false_ne_true
 | byt i =>
  obtain ⟨t,rfl⟩:=rx
  cases y with
  | byt j=>obtain ⟨t',rfl⟩:=ry;exact W.ne_bytes (bO I q (congrArg not vH))
  | _=>exact absurd (show false=true from hs) Bool.false_ne_true
 | _=>cases y <;> exact absurd (show false=true from hs) Bool.false_ne_true
theorem jg:OpR X (compareOp .Lt) (rI0 λi j=>.bl (decide (i < j))):=BK λ_ _ _ _ _ _ _ q=>lt_int q
theorem iO:OpR X (compareOp .LtE) (rI0 λi j=>.bl (decide (i<=j))):=BK λ_ _ _ _ _ _ _ q=>le_int q
theorem iN:OpR X (compareOp .Gt) (rI0 λi j=>.bl (decide (j < i))):=BK λ_ _ _ _ _ _ _ q=>gt_int q
theorem wb:OpR X (compareOp .GtE) (rI0 λi j=>.bl (decide (j<=i))):=BK λ_ _ _ _ _ _ _ q=>ge_int q
theorem rf:OpR X (compareOp .Is) (λx y H Q=>y=.non/\Q (.bl (decide (x=.non))) H):=by
 intro pins s σ H x y v u Q I rx ry h;obtain ⟨rfl,q⟩:=h;cases ry;refine is_none_gen (bO I q ?_)
 cases x <;> first
  | (cases rx;rfl)
  | (obtain ⟨t,rfl⟩:=rx;rfl)
theorem BN:OpR X (compareOp .IsNot) (λx y H Q=>y=.non/\Q (.bl (!decide (x=.non))) H):=by
 intro pins s σ H x y v u Q I rx ry h;obtain ⟨rfl,q⟩:=h;cases ry;refine isnot_none_gen (bO I q ?_)
 cases x <;> first
  | (cases rx;rfl)
  | (obtain ⟨t,rfl⟩:=rx;rfl)
variable {op:CmpOp}
theorem aJ (b:Expr) (h:op≠.In:=by decide) (h2:op≠.NotIn:=by decide):behindInMarks op b=false:=by
 have e1:(op == CmpOp.In)=false:=by cases op <;> first | rfl | exact absurd rfl h
 have e2:(op == CmpOp.NotIn)=false:=by cases op <;> first | rfl | exact absurd rfl h2
 cases b <;> simp [behindInMarks,e1,e2]
variable {r:R2}
theorem cR (ho:OpR X (compareOp op) r) (ha:PE X a ta) (hb:PE X b tb) (hm:behindInMarks op b=false):PE X (.Compare a [op] [b] pos) (tOp r ta tb):=by intro pins s σ H Q I h;exact wpAny_Compare1 (Dk ha hb I h λv u s2 x y H2 I2 rx ry q=>ho pins s2 σ H2 x y v u Q I2 rx ry q) hm
def tZ (t:TE):TT:=λσ H Q=>t σ H λx H'=>∃ k,x=.bl k/\Q k H'
theorem aC (ho:OpR X (compareOp op) r) (ha:PE X a ta) (hb:PE X b tb) (hm:behindInMarks op b=false):PT X (.Compare a [op] [b] pos) (tZ (tOp r ta tb)):=by
 intro pins s σ H Q I h
 refine wpAny_isTrue_Compare1 (thn (ha pins s σ H _ I h) λv s1 ⟨x,H1,I1,r1,q1⟩=>thn (hb pins s1 σ H1 _ I1 q1) λu s2 ⟨y,H2,I2,r2,q2⟩ =>
  thn (ho pins s2 σ H2 x y v u _ I2 r1 r2 q2) λc s3 ⟨z,H3,I3,r3,k,e,q3⟩=>?_) hm
 subst e;cases r3;exact wpAny_truthy_bool ⟨H3,I3,q3⟩
def rP (r r':R2) (ta tb tc:TE):TE:=λσ H Q=>ta σ H λx H1=>tb σ H1 λy H2=>r x y H2 λz H3=>∃ k,z=.bl k /\
 (if k=true then tc σ H3 λw' H4=>r' y w' H4 Q else Q (.bl false) H3)
variable {op':CmpOp} {r':R2}
theorem tH (ho:OpR X (compareOp op) r) (ho':OpR X (compareOp op') r') (ha:PE X a ta) (hb:PE X b tb) (hc:PE X c tc)
  (hm:lastMarks [op,op'] [b,c]=false:=by with_unfolding_all rfl):PE X (.Compare a [op,op'] [b,c] pos) (rP r r' ta tb tc):=by
 intro pins s σ H Q I h
 refine Compare_chain (thn (ha pins s σ H _ I h) λv s1 ⟨x,H1,I1,r1,q1⟩=>chain_link (thn (hb pins s1 σ H1 _ I1 q1) λu s2 ⟨y,H2,I2,r2,q2⟩ =>
  thn (ho pins s2 σ H2 x y v u _ I2 r1 r2 q2) λd s3 ⟨z,H3,I3,r3,k,e,q3⟩=>?_)) hm
 subst e;cases r3;refine wpAny_truthy_bool ?_
 cases k with
 | false=>exact ite_ff ⟨.bl false,H3,I3,rfl,q3⟩
 | true=>exact ite_tt (chain_last (thn (hc pins s3 σ H3 _ I3 q3) λw' s4 ⟨z',H4,I4,r4,q4⟩=>ho' pins s4 σ H4 y z' u w' Q I4 r2 r4 q4))
theorem nW (ho:OpR X (compareOp op) r) (ho':OpR X (compareOp op') r') (ha:PE X a ta) (hb:PE X b tb) (hc:PE X c tc)
  (hm:lastMarks [op,op'] [b,c]=false:=by with_unfolding_all rfl):PT X (.Compare a [op,op'] [b,c] pos) (tZ (rP r r' ta tb tc)):=by
 intro pins s σ H Q I h
 refine isTrue_chain (thn (ha pins s σ H _ I h) λv s1 ⟨x,H1,I1,r1,q1⟩=>test_link (thn (hb pins s1 σ H1 _ I1 q1) λu s2 ⟨y,H2,I2,r2,q2⟩ =>
  thn (ho pins s2 σ H2 x y v u _ I2 r1 r2 q2) λd s3 ⟨z,H3,I3,r3,k,e,q3⟩=>?_)) hm
 subst e;cases r3;refine wpAny_truthy_bool ?_
 cases k with
 | false =>obtain ⟨k',e',q'⟩:=q3;cases e';exact ite_ff ⟨H3,I3,q'⟩
 | true =>refine ite_tt (test_last (thn (hc pins s3 σ H3 _ I3 q3) λw' s4 ⟨z',H4,I4,r4,q4⟩=>thn (ho' pins s4 σ H4 y z' u w' _ I4 r2 r4 q4) λd' s5 ⟨z2,H5,I5,r5,k2,e2,q5⟩=>?_));subst e2;cases r5;exact wpAny_truthy_bool ⟨H5,I5,q5⟩
def yd (K:W.Frag) (x:V) (H:Hp) (k:Bool):Prop :=
 match x with
 | .non=>k=false
 | .bl b=>k=b
 | .int i=>k=(i != 0)
 | .str y=>y.length<=sizeLine/\k=((y.length:Int) != 0)
 | .byt y=>y.size<=sizeLine/\k=((y.size:Int) != 0)
 | .ref p=>(∃ xs,SqL K H p xs/\k=!xs.isEmpty)\/(∃ xs,SqT K H p xs/\k=!xs.isEmpty)\/∃ kvs,H p=some (.dK kvs)/\k=!kvs.isEmpty
 | _=>False
theorem uz {κ:Type} {kvs:List (κ × V)} {vs:List (κ × Value)} (r:KV kvs vs):(!vs.isEmpty)=!kvs.isEmpty:=by cases r <;> rfl
theorem ny {xs:List V} {its:List Value} (r:Vals xs its):(!its.toArray.isEmpty)=!xs.isEmpty:=by cases r <;> simp
theorem jZ:(sizeLine:Nat) < 2 ^ 63:=by rw [sizeLine_eq];decide
theorem Em:Ff X (λx H Q=>∃ k,yd X.K x H k/\Q k H):=by
 intro pins s σ H x v Q I rx h;obtain ⟨k,e,q⟩:=h;have hl:=jZ;have hs:sizeLine=16777216:=sizeLine_eq
 cases x with
 | non =>cases rx;have e':k=false:=e;subst e';exact truthy_none ⟨H,I,q⟩
 | bl b =>cases rx;have e':k=b:=e;subst e';exact wpAny_truthy_bool ⟨H,I,q⟩
 | int i =>obtain ⟨t,rfl⟩:=rx;have e':k=(i != 0):=e;subst e';exact PySem.P.truthy_int ⟨H,I,q⟩
 | str y =>obtain ⟨t,rfl⟩:=rx;obtain ⟨hy,e'⟩:y.length<=sizeLine/\k=((y.length:Int) != 0):=e;subst e';exact PySem.P.truthy_str (by omega) ⟨H,I.tok _,q⟩
 | byt y =>obtain ⟨t,rfl⟩:=rx;obtain ⟨hy,e'⟩:y.size<=sizeLine/\k=((y.size:Int) != 0):=e;subst e';exact W.truthy_bytes (by omega) ⟨H,I.tok _,q⟩
 | ref p =>
  cases rx;have e':(∃ xs,SqL X.K H p xs/\k=!xs.isEmpty)\/(∃ xs,SqT X.K H p xs/\k=!xs.isEmpty)\/∃ kvs,H p=some (.dK kvs)/\k=!kvs.isEmpty:=e;rcases e' with ⟨xs,hx,e'⟩ | ⟨xs,hx,e'⟩ | ⟨kvs,hx,e'⟩
  ·subst e';obtain ⟨its,r,pl,hz⟩:=I.list hx;have hlen:=r.length;exact wpAny_truthy_list pl.isList (by simp only [List.size_toArray];omega) ⟨H,I.tok _,by rw [ny r];exact q⟩
  ·subst e';obtain ⟨its,r,pl,hz⟩:=I.tuple hx;have hlen:=r.length;exact truthy_tuple pl (by simp only [List.size_toArray];omega) ⟨H,I.tok _,by rw [ny r];exact q⟩
  ·subst e';obtain ⟨hz,hS,vs,r,m⟩:kvs.length<=sizeLine/\(p == sysModules)=false/\∃ vs,KV kvs vs/\s.heap.DictOf (dM X.prog X.w) p vs:=I.hok p _ hx;have hlen:kvs.length=vs.length:=Paired.length r;exact wpAny_truthy_dict hS m (by omega) ⟨H,I.tok _,by rw [uz r];exact q⟩
 | _=>exact (show False from e).elim
theorem bg (ha:PE X a ta) (he:∀ whole,isTrue a X.env whole=(do let v <- whole;standAt a.pos;holding [v] (truthy v))) :
  PT X a (λσ H Q=>ta σ H λx H'=>∃ k,yd X.K x H' k/\Q k H'):=by
 intro pins s σ H Q I h;exact isTrue_plain (thn (ha pins s σ H _ I h) λv s1 ⟨x,H1,I1,r1,q1⟩=>Em pins s1 σ H1 x v Q I1 r1 q1) (he _)
variable {x:V} {us:List Value}
theorem gS (r:Vals [x] us):∃ u,us=[u]/\RelV x u:=by
 cases r with
 | cons r1 r2=>cases r2;exact ⟨_,rfl,r1⟩
theorem Fb {y:V} (r:Vals [x,y] us):∃ u w',us=[u,w']/\RelV x u/\RelV y w':=by
 cases r with
 | cons r1 r2 =>
  cases r2 with
  | cons r3 r4=>cases r4;exact ⟨_,_,rfl,r1,r3⟩
end
section
variable {prog:Program} {w:World} {A:Around} {E:Value->Shared->Prop} {s:Shared} {K:W.Frag} {x dx C f:Addr} {mA:Str->Option Value} {name:Str} {v:Value}
end
theorem RelO.some_of {v:V} {o:Option Value} (r:RelO (some v) o):∃ u,o=some u/\RelV v u:=by
 cases o with
 | none=>exact (show False from r).elim
 | some u=>exact ⟨u,rfl,r⟩
section
variable {P:Program} {w:World} {H H':Hp} {h h':Heap} {a C dx:Addr} {fs fs':List (Str × V)}
end
section
variable {X:Cx} {pins:List (Addr × Obj)} {σ:St} {H:Hp} {s:Shared} {a C dx:Addr} {fs:List (Str × V)} {f:Str} {v:V} {A:Around} {E:Value->Shared->Prop}
end
section
variable {X:Cx} {o e value:Expr} {f:Str} {pos pos' tpos:Pos} {ta tv:TE}
end
section
variable {X:Cx} {pins:List (Addr × Obj)} {σ:St} {H:Hp} {s:Shared} {A:Around} {E:Value->Shared->Prop} {Q:Value->Shared->Prop} {c:Value} {b:Bool}
end
structure Room (k:Nat) (A:Around):Prop where
 hd:A.handled=none
 dp:A.depth+3 * k+5 < recursionLimit
 un:A.units+16 * k+200 < cLine
variable {j:Nat}
theorem Room.mono {k:Nat} (r:Room k A) (h:j<=k):Room j A:=⟨r.hd,by have:=r.dp;omega,by have:=r.un;omega⟩
theorem Room.deeper {k:Nat} (r:Room (k+1) A) (env:Env):Room k (A.deeper env) :=
 ⟨r.hd,by have:=r.dp;show A.depth+1+3 * k+5 < _;omega,by have:=r.un;show A.units+3+16 * k+200 < _;omega⟩
theorem Room.depth {k:Nat} (r:Room k A):A.depth < recursionLimit:=by have:=r.dp;omega
theorem Room.units {k:Nat} (r:Room k A):A.units+64 < cLine:=by have:=r.un;omega
def c7:TA:=λ_ H Q=>Q [] H
def bC (ta:TE) (tr:TA):TA:=λσ H Q=>ta σ H λx H1=>tr σ H1 λxs H2=>Q (x::xs) H2
section
variable {X:Cx} {e:Expr} {es:List Expr} {te:TE} {t:TA} {pos:Pos}
theorem af:PA X [] c7:=λ_ _ _ _ H Q I h=>Calls.spliced_nil ⟨[],H,I,.nil,h⟩
theorem bM (ha:PE X e te) (hr:PA X es t) (hs:starEach (e::es) X.env=(false,eval e X.env)::starEach es X.env:=by rfl):PA X (e::es) (bC te t):=by intro pos pins s σ H Q I h;rw [hs];show wpAny _ _ (spliced ((false,eval e X.env)::backTo pos (starEach es X.env))) _ _ s;refine Calls.spliced_cons (thn (ha pins s σ H _ I h) λu s1 ⟨x,H1,I1,r1,q1⟩=>?_);exact thn (hr pos pins s1 σ H1 _ I1 q1) λus s2 ⟨xs,H2,I2,r2,q2⟩=>⟨x::xs,H2,I2,.cons r1 r2,q2⟩
def vi (t:TA):TE:=λσ H Q=>t σ H λxs H1=>xs.length<=sizeLine/\∀ p,H1 p=none->Q (.ref p) (upd H1 p (.tup xs))
def rQ (t:TA):TE:=λσ H Q=>t σ H λxs H1=>xs.length<=sizeLine/\∀ p,H1 p=none->Q (.ref p) (upd H1 p (.lst xs))
theorem aU {x1} (h:PA X es t):PE X (.Tuple es x1 pos) (vi t):=by intro pins s σ H Q I hq;refine wpAny_Tuple_spliced (thn (h pos pins s σ H _ I hq) λus s1 ⟨xs,H1,I1,r,z,q⟩=>⟨by rw [<- r.length];exact z,?_⟩);have hf:H1 s1.heap.objs.size=none:=I1.hok.fresh (Nat.le_refl _);refine ⟨.ref s1.heap.objs.size,upd H1 s1.heap.objs.size (.tup xs),I1.laid (t':=s1.toks) (λb u e=>Heap.get?_push_of_some _ e) (Nat.le_refl _) ?_,rfl,q _ hf⟩;exact ⟨z,us,r,⟨_,Heap.get?_push_size _ rfl,rfl,_,rfl⟩⟩
theorem bh (h:PA X es t):PE X (.List es pos) (rQ t):=by intro pins s σ H Q I hq;refine wpAny_List_spliced (thn (h pos pins s σ H _ I hq) λus s1 ⟨xs,H1,I1,r,z,q⟩=>⟨by rw [<- r.length];exact z,?_⟩);have hf:H1 s1.heap.objs.size=none:=I1.hok.fresh (Nat.le_refl _);refine ⟨.ref s1.heap.objs.size,upd H1 s1.heap.objs.size (.lst xs),I1.laid (t':=s1.toks) (λb u e=>Heap.get?_push_of_some _ e) (Nat.le_refl _) ?_,rfl,q _ hf⟩;exact ⟨z,us,0,r,Heap.get?_push_size _ rfl⟩
end
abbrev Sp:=List V->Hp->VK->XK->Prop
abbrev CXT:=List Env->Hp->Shared->XK->Value->Shared->Prop
structure AS (P:Program) (w:World) (K:W.Frag) (mg:Str->Option Value) (base:Heap) (A:Around) (outer:List Env) (s:Shared) (H:Hp):Prop where
 frames:A.frames=some outer
 mod:Mod K mg base
 bs:∀ b o,base.get? b=some o->s.heap.get? b=some o/\H b=none
 bsz:base.objs.size<=s.heap.objs.size
 funs:s.heap.FunFrames base outer
 frf:∀ b ∈ frs outer,H b=none
 hok:HOk P w H s.heap
 bare:AllBare s.gens
def CE (outer:List Env) (P:Program) (w:World) (H:Hp) (s:Shared) (Q:VK) (u:Value) (s':Shared):Prop :=
 ∃ v H',s'.os=s.os/\AllBare s'.gens/\Un (frs outer) [] H H' s.heap s'.heap/\HOk P w H' s'.heap/\RelV v u/\Q v H'
def CR (CX:CXT) (outer:List Env) (P:Program) (w:World) (H:Hp) (s:Shared) (Q:VK) (E:XK) (r:Result) (s':Shared):Prop :=
 match r with
 | .ok (.ret u)=>CE outer P w H s Q u s'
 | .ok _=>False
 | .error e=>CX outer H s E e s'
structure FnOk (P:Program) (w:World) (K:W.Frag) (mg:Str->Option Value) (base:Heap) (CX:CXT) (k:Nat) (f:Addr) (fd:FuncData) (ps:List Str) (sp:Sp):Prop where
 len:∀ vs H Q E,sp vs H Q E->vs.length=ps.length
 run:∀ (A:Around) (outer:List Env) (s:Shared) (H:Hp) (args:Args) (us:List Value) (vs:List V) (Q:VK) (E:XK),Room k A->AS P w K mg base A outer s H->BindsTo s fd args (ps.zip us)->Vals vs us->sp vs H Q E ->
  codeAny (model P w) A (.call (.ref f) args) (CR CX outer P w H s Q E) s
variable {mg:Str->Option Value} {base:Heap} {CX:CXT} {f:Addr} {fd:FuncData} {ps:List Str} {sp:Sp}
theorem FnOk.mono {k:Nat} (F:FnOk P w K mg base CX j f fd ps sp) (h:j<=k) :
  FnOk P w K mg base CX k f fd ps sp:=⟨F.len,λA outer s H args us vs Q E hr=>F.run A outer s H args us vs Q E (hr.mono h)⟩
section
variable {X:Cx} {pins:List (Addr × Obj)} {σ:St} {H:Hp} {s s':Shared}
theorem Inv.env0 (I:Inv X pins σ H s):AS X.prog X.w X.K X.mg X.base X.A X.stack s H :=
 ⟨I.ok.frames,I.ok.mod,I.bs,Nat.le_trans I.ok.bsz I.sz,I.stack,I.stkFree,I.hok,I.bare⟩
theorem Inv.after {Q:VK} {u:Value} (I:Inv X pins σ H s) (h:CE X.stack X.prog X.w H s Q u s'):EP X pins σ Q u s':=by obtain ⟨v,H',os,bare,un,hok,r,q⟩:=h;obtain ⟨hh,g,d,t,os'⟩:=s';obtain rfl:os'=s.os:=os;exact ⟨v,H',I.call (h':=hh) (g':=g) (d':=d) (t':=t) (ch:=[]) un hok bare (λb z=>absurd z (by simp)),r,q⟩
end
def iy (sp:Sp) (dvs:List V) (E:XK) (t:TA):TE:=λσ H Q=>t σ H λvs H1=>sp (vs++dvs) H1 Q E
def Binds (K:W.Frag) (fd:FuncData) (ps:List Str) (ds:List Value):Prop :=
 ∀ (s:Shared) (us:List Value),K.In s.heap->(us++ds).length=ps.length->BindsTo s fd ⟨us,[]⟩ (ps.zip (us++ds))
theorem Binds.all (h:∀ us:List Value,us.length=ps.length->bindArgs fd ⟨us,[]⟩=pure (ps.zip us)):Binds K fd ps []:=λs us _ hl=>by rw [List.append_nil] at hl ⊢;exact .of_eq (h us hl)
def qa (CX:CXT) (X:Cx) (E:XK):Prop:=∀ (pins:List (Addr × Obj)) (σ:St) (H:Hp) (s:Shared) (e:Value) (s':Shared),Inv X pins σ H s->CX X.stack H s E e s'->X.xe e s'
section
variable {X:Cx} {CX:CXT} {k:Nat} {f C:Addr} {fd:FuncData} {ps:List Str} {sp:Sp} {dvs:List V} {ds:List Value} {E:XK} {x m:Str} {p pos apos:Pos} {e o:Expr} {es:List Expr} {ta:TE} {t:TA}
theorem An {pins:List (Addr × Obj)} {σ:St} {H:Hp} {s:Shared} {Q:VK} {us:List Value} {vs:List V} (F:FnOk X.prog X.w X.K X.mg X.base CX k f fd ps sp) (hr:Room k X.A) (hb:Binds X.K fd ps ds) (hd:Vals dvs ds) (hx:qa CX X E)
  (I:Inv X pins σ H s) (r:Vals vs us) (h:sp (vs++dvs) H Q E):wpAny (model X.prog X.w) X.A (call (.ref f) us) (EP X pins σ Q) X.xe s:=by
 have r2:Vals (vs++dvs) (us++ds):=r.append hd;have hl:(us++ds).length=ps.length:=by rw [<- r2.length];exact F.len _ _ _ _ h
 refine wpAny_call (codeAny_mono (F.run X.A X.stack s H ⟨us,[]⟩ (us++ds) (vs++dvs) Q E hr I.env0 (hb s us I.kIn hl) r2 h) λr s' hq=>?_)
 cases r with
 | error e=>exact hx pins σ H s e s' I hq
 | ok fl =>
  cases fl with
  | ret u=>exact I.after hq
  | next=>exact False.elim hq
  | brk=>exact False.elim hq
  | cont=>exact False.elim hq
theorem BO (F:FnOk X.prog X.w X.K X.mg X.base CX k f fd ps sp) (hr:Room k X.A) (hg:Gl X x) (hm:X.mg x=some (.ref f)) (hk:W.keepIn X.K (.ref f)=true) (hb:Binds X.K fd ps ds) (hd:Vals dvs ds) (hx:qa CX X E)
  (ha:PA X (e::es) t) (hdb:(x == ("__debug__":Str))=false:=by decide) (he:starEach (e::es) X.env=(false,eval e X.env)::starEach es X.env:=by rfl) (hpl:(backTo pos (starEach es X.env)).any (·.1)=false:=by rfl) :
  PE X (.Call (.Name x p) (e::es) [] pos) (iy sp dvs E t):=by
 intro pins s σ H Q I h;refine wpAny_Call_Name_kw (qK I hg hm ?_ hdb);refine W.callWith_K (h₀:=X.base) I.ok.mod.kin hk (thn (ha pos pins s σ H _ I h) λus s1 ⟨vs,H1,I1,r,q⟩=>⟨I1.kIn,?_⟩) he hpl;exact An F hr hb hd hx I1 r q
theorem tF (F:FnOk X.prog X.w X.K X.mg X.base CX k f fd ps sp) (hr:Room k X.A) (hg:Gl X x) (hm:X.mg x=some (.ref f)) (hk:W.keepIn X.K (.ref f)=true) (hb:Binds X.K fd ps ds) (hd:Vals dvs ds) (hx:qa CX X E)
  (hdb:(x == ("__debug__":Str))=false:=by decide):PE X (.Call (.Name x p) [] [] pos) (iy sp dvs E c7):=by
 intro pins s σ H Q I h;refine wpAny_Call_Name_kw (qK I hg hm ?_ hdb);exact W.callWith_K0 I.kIn hk (An (us:=[]) F hr hb hd hx I .nil h)
end
section
variable {X:Cx} {CX:CXT} {k:Nat} {f C:Addr} {fd:FuncData} {ps ks:List Str} {sp:Sp} {E:XK} {x m:Str} {p pos apos kpos:Pos} {e o:Expr} {es:List Expr} {kws:List Keyword} {te ta:TE} {t tk:TA} {nm:Option Str}
variable {g:List Value->List Value->List Value} {gV:List V->List V->List V}
end
structure FnScope (N P:List Str) (sc:Scope):Prop where
 kind:sc.kind=.function
 co:sc.isCoroutine=false
 gen:sc.isGenerator=false
 nd:N.Nodup
 pre:N.take P.length=P
 par:∀ x ∈ P,sc.names.lookup x=some .local\/sc.names.lookup x=some .cell
 nofree:∀ y ∈ sc.names,y.2≠.free
theorem FnScope.sc0 {N P:List Str} {sc:Scope} (a:sc.kind=.function:=by rfl) (b:sc.isCoroutine=false:=by rfl) (c:sc.isGenerator=false:=by rfl) (d:N.Nodup:=by decide +kernel) (e:N.take P.length=P:=by rfl) (f:∀ x ∈ P,sc.names.lookup x=some .local\/sc.names.lookup x=some .cell:=by decide +kernel) (g:∀ y ∈ sc.names,y.2≠.free:=by decide +kernel):FnScope N P sc:=⟨a,b,c,d,e,f,g⟩
variable {kindOf:Str->Option NameKind} {x:Str}
theorem o6:∀ {binds:List (Str × Value)} {m:Str->Option Value},(∀ v,(x,v) ∉ binds)->bindL kindOf binds m x=m x
 | [],_,_=>rfl
 | (n,v)::r,m,h=>by
  unfold bindL;rw [o6 λw hw=>h w (List.mem_cons_of_mem _ hw)];split
  ·have:x≠n:=by rintro rfl;exact h v List.mem_cons_self
   simp [this]
  ·rfl
theorem o4:∀ {binds:List (Str × Value)} {m:Str->Option Value},(∀ v,(x,v) ∉ binds)->bindC kindOf binds m x=m x
 | [],_,_=>rfl
 | (n,v)::r,m,h=>by
  unfold bindC;rw [o4 λw hw=>h w (List.mem_cons_of_mem _ hw)];split
  ·rfl
  ·have:x≠n:=by rintro rfl;exact h v List.mem_cons_self
   simp [this]
variable {v:Value}
theorem o5:∀ {P:List Str} {vs:List Value} {i:Nat} {m:Str->Option Value},P.Nodup->P[i]?=some x->vs[i]?=some v->kindOf x=some .local ->
  bindL kindOf (P.zip vs) m x=some v
 | [],_,_,_,_,h,_,_=>by simp at h
 | _::_,[],_,_,_,_,h,_=>by simp at h
 | p::P,w::vs,0,m,nd,h1,h2,hk=>by simp at h1 h2;subst h1;subst h2;show bindL kindOf ((p,w)::P.zip vs) m p=_;unfold bindL;rw [o6 λv hv=>(List.nodup_cons.mp nd).1 (List.of_mem_zip hv).1,if_pos hk];simp
 | p::P,w::vs,i+1,m,nd,h1,h2,hk=>by show bindL kindOf ((p,w)::P.zip vs) m x=_;unfold bindL;exact o5 (i:=i) (List.nodup_cons.mp nd).2 (by simpa using h1) (by simpa using h2) hk
theorem o3:∀ {P:List Str} {vs:List Value} {i:Nat} {m:Str->Option Value},P.Nodup->P[i]?=some x->vs[i]?=some v->kindOf x≠some .local ->
  bindC kindOf (P.zip vs) m x=some v
 | [],_,_,_,_,h,_,_=>by simp at h
 | _::_,[],_,_,_,_,h,_=>by simp at h
 | p::P,w::vs,0,m,nd,h1,h2,hk=>by simp at h1 h2;subst h1;subst h2;show bindC kindOf ((p,w)::P.zip vs) m p=_;unfold bindC;rw [o4 λv hv=>(List.nodup_cons.mp nd).1 (List.of_mem_zip hv).1,if_neg hk];simp
 | p::P,w::vs,i+1,m,nd,h1,h2,hk=>by show bindC kindOf ((p,w)::P.zip vs) m x=_;unfold bindC;exact o3 (i:=i) (List.nodup_cons.mp nd).2 (by simpa using h1) (by simpa using h2) hk
def eG (N:List Str) (vs:List V):St:=vs.map some++List.replicate (N.length - vs.length) none
def wQ (CX:CXT) (P:Program) (w:World) (K:W.Frag) (mg:Str->Option Value) (base:Heap) (N:List Str) (qual:Str) (scope:Scope) (f:Addr) (cd:Value) (A:Around) (outer:List Env) (s:Shared) (H:Hp) (E:XK):Cx where
 prog:=P
 w:=w
 K:=K
 mg:=mg
 base:=base
 A:=A.deeper (envOfC qual scope s.heap.objs.size f cd)
 N:=N
 s₀:=s
 H₀:=H
 env:=envOfC qual scope s.heap.objs.size f cd
 outer:=outer
 stack:=envOfC qual scope s.heap.objs.size f cd::outer
 ex:=[]
 calm:=true
 fn:=λ_=>true
 pn:=[]
 xe:=λe s'=>wpAny (model P w) (A.deeper (envOfC qual scope s.heap.objs.size f cd)) (leaving (envOfC qual scope s.heap.objs.size f cd) e) (λ_ s''=>CX outer H s E e s'') (λe' s''=>CX outer H s E e' s'') s'
theorem r9 {sc:Scope} (h:sc.names.lookup x=some .cell):∃ c,(cellsFrom n sc.names []).lookup x=some c:=by have q:=W.cellsFrom_some sc.names n [] (.inl h);exact Option.isSome_iff_exists.mp q
variable {N:List Str} {qual:Str} {scope:Scope}
theorem wY {cd:Value} {outer:List Env} {s1:Shared} {E:XK} {vs:List V}
  (S:FnScope N ps scope) (hd:A.handled=none) (e0:AS P w K mg base A outer s H) (hl:vs.length=ps.length) (r:Vals vs us)
  (x:InCallC s s.heap.objs.size (bindL (envOfC qual scope s.heap.objs.size f cd).kindOf (ps.zip us) λ_=>none) (cellsFrom (s.heap.objs.size+1) scope.names []) (bindC (envOfC qual scope s.heap.objs.size f cd).kindOf (ps.zip us) λ_=>none) s1) :
  Inv (wQ CX P w K mg base N qual scope f cd A outer s H E) [] (eG N vs) H s1:=by
 have hpl:ps.length<=N.length:=by have:=congrArg List.length S.pre;rw [List.length_take] at this;omega
 obtain ⟨h1,tk,rfl,hk⟩:=x.done;have noA:∀ b:Addr,b ∉ (wQ CX P w K mg base N qual scope f cd A outer s H E).ex:=λb z=>absurd (show b ∈ ([]:List Addr) from z) (by simp)
 refine ⟨⟨e0.mod,S.kind,rfl,rfl,Nat.le_refl _,λy z c h1 h2=>?_,λy hy=>?_,λy c _ h=>?_,λ_=>hd,Around.frames_deeper e0.frames,.inr ⟨rfl,rfl⟩,λb z=>absurd z (noA b),e0.bs,e0.bsz,λb _ _=>noA b,λb z=>absurd z (noA b),e0.funs,e0.frf⟩,
  rfl,e0.bare,Un.kept hk,⟨_,x.toInCall.ns,λi y v h1 h2 h3=>?_⟩,λy c h=>⟨_,x.cell y c h⟩,e0.hok.fresh (Nat.le_refl _),λy c h=>?_,λp hp=>absurd (show p ∈ ([]:List (Addr × Obj)) from hp) (by simp),e0.hok.kept hk,?_⟩
 ·exact name_of_addr x.apart (PySem.mem_of_lookup h1) (PySem.mem_of_lookup h2)
 ·have hy:scope.names.lookup y=some .cell\/scope.names.lookup y=some .free:=hy;rcases hy with hy | hy
  ·exact r9 hy
  ·exact absurd rfl (S.nofree _ (PySem.mem_of_lookup hy))
 ·exact Nat.le_of_lt (x.above y c (PySem.mem_of_lookup h))
 ·have hi:i < vs.length:=by
   unfold eG at h2;by_cases hi:i < vs.length
   ·exact hi
   ·rw [List.getElem?_append_right (by simpa using hi)] at h2;rw [List.getElem?_replicate] at h2;split at h2 <;> cases h2
  have ha:vs[i]?=some v:=by
   unfold eG at h2;rw [List.getElem?_append_left (by simpa using hi),List.getElem?_map] at h2
   cases e:vs[i]? with
   | none=>rw [e] at h2;cases h2
   | some a=>rw [e] at h2;cases h2;rfl
  obtain ⟨u,hu,rv⟩:=r.get ha
  have hp:ps[i]?=some y:=by rw [<- S.pre,List.getElem?_take_of_lt (by omega)];exact h1
  have ndP:ps.Nodup:=by rw [<- S.pre];exact S.nd.sublist (List.take_sublist _ _)
  refine ⟨u,rv,?_⟩;rcases S.par y (List.mem_of_getElem? hp) with k | k
  ·exact .inl ⟨k,o5 ndP hp hu k⟩
  ·obtain ⟨c,e⟩:=r9 (n:=s.heap.objs.size+1) k;refine .inr ⟨.inl k,c,e,?_⟩;have q:=x.cell y c e;rw [o3 ndP hp hu (by show scope.names.lookup y≠_;rw [k];decide)] at q;exact q
 ·exact e0.hok.fresh (Nat.le_of_lt (x.above y c (PySem.mem_of_lookup h)))
 ·unfold eG;show _=N.length;rw [List.length_append,List.length_map,List.length_replicate];omega
theorem EB {k:Nat} {name:Str} {params:Arguments} {body:List Stmt} {dV kV doc pm cdv ct oc:Value} {an od:Option Addr} {osl:Array (Option Value)} (lk:K.lookup f=some ⟨oc,od,.func (W.fnOf name qual params body scope dV kV doc pm an cdv ct),osl⟩) (hcd:W.codeIn K cdv qual=true) (S:FnScope N ps scope)
  (len:∀ vs H Q E,sp vs H Q E->vs.length=ps.length)
  (hbody:∀ (A:Around) (outer:List Env) (s:Shared) (H:Hp) (vs:List V) (Q:VK) (E:XK),Room k (A.deeper (envOfC qual scope s.heap.objs.size f cdv))->sp vs H Q E ->
   ∃ t,PSs (wQ CX P w K mg base N qual scope f cdv A outer s H E) body t/\t { nx:=λ_ H'=>Q .non H',rt:=Q } (eG N vs) H) :
  FnOk P w K mg base CX (k+1) f (W.fnOf name qual params body scope dV kV doc pm an cdv ct) ps sp:=by
 refine ⟨len,λA outer s H args us vs Q E hr e0 hb r hsp=>?_⟩;have hl:=len _ _ _ _ hsp;have KX:K.In s.heap:=e0.mod.kin.keeps λb o e=>(e0.bs b o e).1;have lim:s.heap.NoLimit:=e0.mod.nolimit.keeps λb o e=>(e0.bs b o e).1
 have hkind:∀ y ∈ ps.zip us,scope.names.lookup y.1=some .local\/(scope.names.lookup y.1=some .cell/\((cellsFrom (s.heap.objs.size+1) scope.names []).lookup y.1).isSome=true):=λ⟨n,v⟩ hy=>by
  rcases S.par n (List.of_mem_zip hy).1 with q | q
  ·exact .inl q
  ·exact .inr ⟨q,W.cellsFrom_some _ _ _ (.inl q)⟩
 refine codeAny_call_function hr.depth (KX _ _ lk) rfl S.co S.gen rfl (W.codeRec_of KX hcd) (hb _ _ _ _ ?_);refine wpAny_newFunctionEnv_cells S.kind hkind λenv he s1 x=>?_;subst he;refine ⟨lim.keeps x.toInCall.keep,codeAny_func ?_⟩;obtain ⟨t,ht,hq⟩:=hbody A outer s H vs Q E (hr.deeper _) hsp;have I:Inv (wQ CX P w K mg base N qual scope f cdv A outer s H E) [] (eG N vs) H s1:=wY S hr.hd e0 hl r x;refine wpAny_mono (ht [] s1 (eG N vs) H _ I hq) (λfl s' hs=>?_) λe s' hs=>hs
 have fin:∀ {σ':St} {H':Hp} {v:V} {u:Value},Inv (wQ CX P w K mg base N qual scope f cdv A outer s H E) [] σ' H' s'->RelV v u->Q v H'->CE outer P w H s Q u s' :=
  λ{σ' H' v u} J rv q=>⟨v,H',J.os,J.bare,J.base,J.hok,rv,q⟩
 cases fl with
 | ret u =>obtain ⟨v,σ',H',J,rv,q⟩:=hs;exact fin J rv q
 | next =>obtain ⟨σ',H',J,q⟩:=hs;exact fin (v:=V.non) (u:=Value.none) J rfl q
 | brk =>obtain ⟨_,_,_,q⟩:=hs;exact False.elim q
 | cont =>obtain ⟨_,_,_,q⟩:=hs;exact False.elim q
section
variable {X:Cx} {x:Str} {p pos:Pos} {e:Expr} {es:List Expr} {t:TA} {id T:String} {r:List V->Hp->VK->Prop}
def tCB (r:List V->Hp->VK->Prop) (t:TA):TE:=λσ H Q=>t σ H λvs H1=>r vs H1 Q
theorem aP (hc:hW X (.builtin id) r) (hg:Gl X x) (hm:X.mg x=none) (hv:bootBuiltins x=some (.builtin id)) (ha:PA X (e::es) t) (hn:x≠"__name__":=by decide) (hdb:(x == ("__debug__":Str))=false:=by decide)
  (he:starEach (e::es) X.env=(false,eval e X.env)::starEach es X.env:=by rfl) (hpl:(backTo pos (starEach es X.env)).any (·.1)=false:=by rfl):PE X (.Call (.Name x p) (e::es) [] pos) (tCB r t):=by
 intro pins s σ H Q I h;refine wpAny_Call_Name_kw (i8 I hg hm hv ?_ hn hdb);exact PyProof.Rows.callWith_builtin1 (thn (ha pos pins s σ H _ I h) λus s1 ⟨vs,H1,I1,r1,q1⟩=>hc pins s1 σ H1 vs us Q I1 r1 q1) he hpl
theorem cI (hc:hW X (.type T) r) (hg:Gl X x) (hm:X.mg x=none) (hv:bootBuiltins x=some (.type T)) (ha:PA X (e::es) t) (hn:x≠"__name__":=by decide) (hdb:(x == ("__debug__":Str))=false:=by decide)
  (he:starEach (e::es) X.env=(false,eval e X.env)::starEach es X.env:=by rfl) (hpl:(backTo pos (starEach es X.env)).any (·.1)=false:=by rfl):PE X (.Call (.Name x p) (e::es) [] pos) (tCB r t):=by
 intro pins s σ H Q I h;refine wpAny_Call_Name_kw (i8 I hg hm hv ?_ hn hdb);exact PyProof.Rows.callWith_type1 (thn (ha pos pins s σ H _ I h) λus s1 ⟨vs,H1,I1,r1,q1⟩=>hc pins s1 σ H1 vs us Q I1 r1 q1) he hpl
end
end L2
namespace HT
open PySem PyProof.Rows
section
open PySem.SeqAt
open PySem.AutoSeq1 (wpAny_loadPart')
open PySem.MeetsSeq PySem.MeetsSeq2 PySem.MeetsSeq3
end
section
variable {prog:Program} {w:World} {A:Around} {E:Value->Shared->Prop} {s:Shared}
variable {t:Addr}
theorem cat_tup {b:Addr} {vs ws:List Value} {Q:Value->Shared->Prop} (ht:IsTup s.heap t vs.toArray) (hb:IsTup s.heap b ws.toArray) (hv:vs≠[])
  (h1:ws=[]->Q (.ref t) s) (h2:ws≠[]->Q (.ref s.heap.objs.size) { s with heap:=s.heap.push { cls:=.type "tuple",data:=.seq (vs++ws).toArray } })
  (hsz:vs.length+ws.length<=sizeLine):wpAny (model prog w) A (binaryOp .Add (.ref t) (.ref b)) Q E s:=by
 obtain ⟨⟨cls,dd,data,sl⟩,ho,hc,n,hd⟩:=id ht;obtain ⟨⟨cls2,dd2,data2,sl2⟩,ho2,hc2,n2,hd2⟩:=id hb;simp only at hc hd hc2 hd2;subst hc hd hc2 hd2;have e:vs.toArray++ws.toArray=(vs++ws).toArray:=by simp
 by_cases hw:ws=[]
 ·exact concat_meets ⟨_,ho,rfl⟩ ⟨_,ho2,rfl⟩ noFill_tuple_add seq_tuple_add F.slot_tuple_add F.entry_tuple_add (F.args_tuple_add_2 _ _)
   (tuple_addW1 t b vs.toArray ws.toArray n n2 dd dd2 sl sl2 (by simpa using hv) (by simp [hw])) ⟨ho,ho2,h1 hw⟩
 ·refine concat_meets ⟨_,ho,rfl⟩ ⟨_,ho2,rfl⟩ noFill_tuple_add seq_tuple_add F.slot_tuple_add F.entry_tuple_add (F.args_tuple_add_2 _ _)
   (tuple_addW2 t b vs.toArray ws.toArray n n2 dd dd2 sl sl2 (by simpa using hv) (by simpa using hw) (by rw [List.size_toArray,List.size_toArray];exact hsz)) ⟨ho,ho2,?_⟩
  rw [e];exact h2 hw
def sIx (n d:Nat):Option Int->Nat
 | none=>d
 | some v=>if v < 0 then (v+(n:Int)).toNat else min v.toNat n
theorem sIx_none (n d:Nat):sIx n d none=d:=rfl
theorem sIx_nat (n d k:Nat):sIx n d (some (k:Int))=min k n:=by show (if (k:Int) < 0 then ((k:Int)+(n:Int)).toNat else min (k:Int).toNat n)=min k n;rw [if_neg (by omega),Int.toNat_natCast]
theorem Eb (n d:Nat) (hd:d<=n) (o:Option Int):sIx n d o<=n:=by
 cases o with
 | none=>exact hd
 | some v =>
  show (if v < 0 then (v+(n:Int)).toNat else min v.toNat n)<=n;by_cases hv:v < 0
  ·rw [if_pos hv];omega
  ·rw [if_neg hv];exact Nat.min_le_right _ _
theorem vD (v:Int) (n d:Nat):(if v < 0 then max (v+(n:Int)) 0 else min v (n:Int))=((sIx n d (some v):Nat):Int):=by
 show (if v < 0 then max (v+(n:Int)) 0 else min v (n:Int))=(((if v < 0 then (v+(n:Int)).toNat else min v.toNat n):Nat):Int)
 by_cases hv:v < 0
 ·simp only [if_pos hv];omega
 ·simp only [if_neg hv];omega
theorem uo (lo hi:Option Int) (n:Nat):Builtin.Slice.sliceAdjust lo hi 1 (n:Int)=(((sIx n 0 lo:Nat):Int),((sIx n n hi:Nat):Int)):=by
 have h1:¬ ((1:Int) < 0):=by omega
 unfold Builtin.Slice.sliceAdjust;simp only [h1,if_false];refine Prod.ext ?_ ?_
 ·cases lo with
  | none=>rfl
  | some v=>exact vD v n 0
 ·cases hi with
  | none=>rfl
  | some v=>exact vD v n n
theorem uR (i j:Nat):Builtin.Slice.slicePlaces (i:Int) (j:Int) 1=j - i:=by
 unfold Builtin.Slice.slicePlaces;have h1:(1:Int) > 0:=by omega
 simp only [h1,if_true,Int.ediv_one];split <;> omega
theorem oz {v:Value} {o:Option Int} {Q:Option Int->Shared->Prop} (p:IsPart v o) (h:Q o s):wpAny (model prog w) A (Builtin.Slice.slicePartIndex v) Q E s:=by
 cases p with
 | none=>exact slicePart_none h
 | int i t=>exact slicePart_int h
variable {sl:Addr} {vl vu:Value} {lo hi:Option Int}
theorem lU {n:Nat} {Q:Int × Int × Nat->Shared->Prop} (hs:s.heap.IsSliceOf sl vl vu .none) (pl:IsPart vl lo) (pu:IsPart vu hi)
  (h:Q (((sIx n 0 lo:Nat):Int),1,sIx n n hi - sIx n 0 lo) s):wpAny (model prog w) A (Builtin.Slice.sliceApplied (.ref sl) (pure (n:Int))) Q E s:=by
 obtain ⟨os,hos,hcs,hds⟩:=id hs;unfold Builtin.Slice.sliceApplied Builtin.Slice.sliceFields;refine wpAny_bind (wpAny_bind (wpAny_field hos hds (x:=vl) rfl (wpAny_bind (wpAny_field hos hds (x:=vu) rfl (wpAny_bind (wpAny_field hos hds (x:=.none) rfl (wpAny_pure ?_)))))));refine wpAny_bind (slicePart_none ?_);show wpAny _ _ (if ((1:Int) == 0)=true then _ else _) _ _ s;rw [if_neg (by decide)];refine wpAny_bind (oz pl (wpAny_bind (oz pu (wpAny_bind (wpAny_pure ?_)))));show wpAny _ _ (match Builtin.Slice.sliceAdjust lo hi 1 (n:Int) with | (lo,hi)=>pure (lo,(1:Int),Builtin.Slice.slicePlaces lo hi 1)) _ _ s;rw [uo lo hi n];show wpAny _ _ (pure (((sIx n 0 lo:Nat):Int),(1:Int),Builtin.Slice.slicePlaces ((sIx n 0 lo:Nat):Int) ((sIx n n hi:Nat):Int) 1)) _ _ s;rw [uR];exact wpAny_pure h
theorem zL (xs:Array Value) (i k:Nat):((List.range k).filterMap λ(m:Nat)=>xs[((i:Int)+(m:Int) * 1).toNat]?).toArray=((xs.toList.drop i).take k).toArray:=by
 have e:(λ(m:Nat)=>xs[((i:Int)+(m:Int) * 1).toNat]?)=λm=>xs[i+m]?:=by
  funext m
  have:((i:Int)+(m:Int) * 1).toNat=i+m:=by omega
  rw [this]
 rw [e];have:=pick_run xs i k;rw [List.filterMap_map] at this;have e2:((λx=>xs[x]?) ∘ λx=>i+x)=λm=>xs[i+m]?:=rfl;rw [e2] at this;rw [this]
theorem getItem_tuple_cut {items:Array Value} {Q:Value->Shared->Prop} (ht:IsTup s.heap t items) (hs:s.heap.IsSliceOf sl vl vu .none) (pl:IsPart vl lo) (pu:IsPart vu hi)
  (hw:¬ (sIx items.size 0 lo=0/\sIx items.size items.size hi=items.size))
  (h:Q (.ref s.heap.objs.size) { s with heap:=s.heap.push { cls:=.type "tuple",data:=.seq ((items.toList.drop (sIx items.size 0 lo)).take (sIx items.size items.size hi - sIx items.size 0 lo)).toArray } })
  (hsz:items.size<=sizeLine):wpAny (model prog w) A (getItem (.ref t) (.ref sl)) Q E s:=by
 have htake:sizeOk (.seq ((items.toList.drop (sIx items.size 0 lo)).take (sIx items.size items.size hi - sIx items.size 0 lo)).toArray):=by show ((items.toList.drop (sIx items.size 0 lo)).take (sIx items.size items.size hi - sIx items.size 0 lo)).toArray.size<=sizeLine;rw [List.size_toArray,List.length_take,List.length_drop,Array.length_toList];omega
 have hj:sIx items.size items.size hi<=items.size:=Eb _ _ (Nat.le_refl _) hi;obtain ⟨os,hos,hcs,hds⟩:=id hs;have hTs:s.TypeIs (.ref sl) "slice":=⟨os,hos,hcs⟩
 unfold getItem
 try with_reducible refine wpAny_holding ?_
 first | refine wpAny_bind (wpAny_pure ?_) | skip
 refine wpAny_bind (wpAny_sequenceKey ht.typeIs (by decide) ?_)
 refine wpAny_bind (wpAny_callSpecial?_slot (name:=Str.ofString "__getitem__") ht.typeIs PyProof.Rows.slot_tuple_getitem
  (wpAny_call_entry PyProof.Rows.slot_tuple_getitem ht.typeIs entry_tuple_getitem ?_ (args_tuple_getitem _ _)))
 show wpAny _ _ (Builtin.Tuple.tupleItemsOf (.ref t) >>= _) _ _ s;refine wpAny_bind (tupleItemsOf_ ht ?_);refine wpAny_bind (wpAny_typeOf hTs ?_);rw [if_pos (by decide)];refine wpAny_bind (lU hs pl pu ?_)
 have hno:¬ ((((sIx items.size 0 lo:Nat):Int) == 0 && (1:Int) == 1 && (sIx items.size items.size hi - sIx items.size 0 lo) == items.size)=true):=by intro q;rw [Bool.and_eq_true,Bool.and_eq_true] at q;have q1:((sIx items.size 0 lo:Nat):Int)=0:=eq_of_beq q.1.1;have q2:sIx items.size items.size hi - sIx items.size 0 lo=items.size:=eq_of_beq q.2;exact hw ⟨by omega,by omega⟩
 show wpAny _ _ (if (((sIx items.size 0 lo:Nat):Int) == 0 && (1:Int) == 1 && (sIx items.size items.size hi - sIx items.size 0 lo) == items.size)=true then _ else _) _ _ s;rw [if_neg hno,zL]
 first
  | exact wpAny_bind (m:=Builtin.Tuple.tupleExact _) (wpAny_newObj_type (wpAny_pure ⟨_,rfl,wpAny_pure h⟩) htake)
  | exact wpAny_bind (m:=Builtin.Tuple.tupleExact _) (wpAny_newObj_type (wpAny_bind (wpAny_pure (wpAny_pure ⟨_,rfl,wpAny_pure h⟩))) htake)
  | exact wpAny_bind (wpAny_bind (m:=Builtin.Tuple.tupleExact _) (wpAny_newObj_type (wpAny_pure (wpAny_pure ⟨_,rfl,wpAny_pure h⟩)) htake))
  | exact wpAny_bind (wpAny_bind (m:=Builtin.Tuple.tupleExact _) (wpAny_newObj_type (wpAny_pure ⟨_,rfl,wpAny_pure h⟩) htake))
end
end HT
namespace L2
open PySem PySem.Spec PyProof.Rows
abbrev TO:=St->Hp->(Option Int->Hp->Prop)->Prop
def PO (X:Cx) (e:Option Expr) (t:TO):Prop :=
 ∀ (pins:List (Addr × Obj)) (s:Shared) (σ:St) (H:Hp) (Q:Option Int->Hp->Prop),Inv X pins σ H s->t σ H Q ->
  wpAny (model X.prog X.w) X.A (evalPart e X.env) (λu s'=>∃ o H',Inv X pins σ H' s'/\IsPart u o/\Q o H') X.xe s
def wH:TO:=λ_ H Q=>Q none H
def pY (t:TE):TO:=λσ H Q=>t σ H λx H1=>∃ i,x=.int i/\Q (some i) H1
section
variable {X:Cx} {e:Expr} {te:TE} {lo hi:Option Expr} {tl th:TO} {pos p2:Pos}
theorem kD:PO X none wH:=by intro pins s σ H Q I h;rw [evalPart_none];exact wpAny_pure ⟨none,H,I,.none,h⟩
theorem gA (h:PE X e te):PO X (some e) (pY te):=by intro pins s σ H Q I hw;rw [evalPart_some];refine thn (h pins s σ H _ I hw) λu s1 ⟨x,H1,I1,r1,q1⟩=>?_;obtain ⟨i,rfl,q⟩:=q1;obtain ⟨t,rfl⟩:=r1;exact ⟨some i,H1,I1,.int i t,q⟩
def SlR (X:Cx) (r:V->Option Int->Option Int->Hp->VK->Prop):Prop :=
 ∀ (pins:List (Addr × Obj)) (s:Shared) (σ:St) (H:Hp) (x:V) (v vl vu:Value) (lo hi:Option Int) (sl:Addr) (Q:VK),Inv X pins σ H s->RelV x v->s.heap.IsSliceOf sl vl vu .none->IsPart vl lo->IsPart vu hi->r x lo hi H Q ->
  ∃ T id,typeLookup (.type T) "__getitem__"=pure (some (.builtin id))/\s.TypeIs v T/\wpAny (model X.prog X.w) X.A (getItem v (.ref sl)) (EP X pins σ Q) X.xe s
def tSl (r:V->Option Int->Option Int->Hp->VK->Prop) (te:TE) (tl th:TO):TE:=λσ H Q=>te σ H λx H1=>tl σ H1 λl H2=>th σ H2 λu H3=>r x l u H3 Q
theorem gN {r:V->Option Int->Option Int->Hp->VK->Prop} (hr:SlR X r) (he:PE X e te) (hl:PO X lo tl) (hu:PO X hi th):PE X (.Subscript e (.Slice lo hi none p2) pos) (tSl r te tl th):=by intro pins s σ H Q I h;refine Subscript_ (thn (he pins s σ H _ I h) λv s1 ⟨x,H1,I1,r1,q1⟩=>?_);refine wpAny_Slice (thn (hl pins s1 σ H1 _ I1 q1) λvl s2 ⟨l,H2,I2,pl,q2⟩=>thn (hu pins s2 σ H2 _ I2 q2) λvu s3 ⟨u,H3,I3,pu,q3⟩=>?_);rw [evalPart_none];refine wpAny_pure ?_;have I4:Inv X pins σ H3 { s3 with heap:=s3.heap.push { cls:=.type "slice",data:=.fields #[vl,vu,.none] } }:=I3.kept (t':=s3.toks) λb ob q=>Heap.get?_push_of_some _ q;obtain ⟨T,id,hT,ht,hg⟩:=hr pins { s3 with heap:=s3.heap.push { cls:=.type "slice",data:=.fields #[vl,vu,.none] } } σ H3 x v vl vu l u s3.heap.objs.size Q I4 r1 (Heap.IsSliceOf.new ..) pl pu q3;show wpAny (model X.prog X.w) X.A (subscriptTail e (.Slice lo hi none p2) v (.ref s3.heap.objs.size)) (EP X pins σ Q) X.xe { s3 with heap:=s3.heap.push { cls:=.type "slice",data:=.fields #[vl,vu,.none] } };exact tail_any (ops:=[.ref s3.heap.objs.size,v]) ht hT hg (by with_unfolding_all rfl)
def oM (xs:List V) (lo hi:Option Int):List V:=(xs.drop (HT.sIx xs.length 0 lo)).take (HT.sIx xs.length xs.length hi - HT.sIx xs.length 0 lo)
theorem lZ (xs:List V) (lo hi:Option Int):(oM xs lo hi).length<=xs.length:=by unfold oM;rw [List.length_take,List.length_drop];omega
def D1 (K:W.Frag):V->Option Int->Option Int->Hp->VK->Prop:=λx lo hi H Q=>∃ a xs,x=.ref a/\SqT K H a xs /\
 ¬ (HT.sIx xs.length 0 lo=0/\HT.sIx xs.length xs.length hi=xs.length)/\∀ p,H p=none->Q (.ref p) (upd H p (.tup (oM xs lo hi)))
theorem lS:SlR X (D1 X.K):=by
 intro pins s σ H x v vl vu lo hi sl Q I rx hs pl pu h;obtain ⟨a,xs,rfl,hx,hw,q⟩:=h;cases rx;obtain ⟨its,r,ht,hz⟩:=I.tuple hx;have hlen:its.toArray.size=xs.length:=by rw [List.size_toArray];exact r.length.symm
 refine ⟨"tuple",_,PyProof.Rows.slot_tuple_getitem.lookup,ht.typeIs,?_⟩;refine HT.getItem_tuple_cut ht hs pl pu (by rw [hlen];exact hw) ?_ (by rw [hlen];exact hz);rw [hlen];refine ⟨.ref s.heap.objs.size,_,I.laid (t':=s.toks) (o:=.tup (oM xs lo hi)) (λb ob q=>Heap.get?_push_of_some _ q) (Nat.le_refl _) ?_,rfl,q _ (I.hok.fresh (Nat.le_refl _))⟩;exact ⟨Nat.le_trans (lZ xs lo hi) hz,_,(r.drop (HT.sIx xs.length 0 lo)).take (HT.sIx xs.length xs.length hi - HT.sIx xs.length 0 lo),IsTup.new _ _⟩
def EO (K:W.Frag):R2:=λx y H Q=>∃ a b xs ys,x=.ref a/\y=.ref b/\SqT K H a xs/\SqT K H b ys/\xs≠[]/\xs.length+ys.length<=sizeLine /\
 (ys=[]->Q (.ref a) H)/\(ys≠[]->∀ p,H p=none->Q (.ref p) (upd H p (.tup (xs++ys))))
theorem Vals.nil_iff {xs:List V} {us:List Value} (r:Vals xs us):us=[]↔xs=[]:=by
 cases r with
 | nil=>simp
 | cons _ _=>simp
theorem BL:OpR X (binaryOp .Add) (EO X.K):=by intro pins s σ H x y v u Q I rx ry h;obtain ⟨a,b,xs,ys,rfl,rfl,ha,hb,hx,hz,q1,q2⟩:=h;cases rx;cases ry;obtain ⟨its,r1,p1,_⟩:=I.tuple ha;obtain ⟨its2,r2,p2,_⟩:=I.tuple hb;refine HT.cat_tup p1 p2 (λz=>hx (r1.nil_iff.mp z)) (λz=>⟨.ref a,H,I,rfl,q1 (r2.nil_iff.mp z)⟩) (λz=>?_) (by rw [<- r1.length,<- r2.length];exact hz);refine ⟨.ref s.heap.objs.size,_,I.laid (t':=s.toks) (o:=.tup (xs++ys)) (λb ob q=>Heap.get?_push_of_some _ q) (Nat.le_refl _) ?_,rfl,q2 (λw=>z (r2.nil_iff.mpr w)) _ (I.hok.fresh (Nat.le_refl _))⟩;exact ⟨by rw [List.length_append];exact hz,_,r1.append r2,IsTup.new _ _⟩
end
def ixN (n:Nat) (i:Int):Option Nat:=if 0<=i then (if i < n then some i.toNat else none) else if -(n:Int)<=i then some (i+n).toNat else none
def atI {α:Type} (xs:List α) (i:Int):Option α:=(ixN xs.length i).bind λj=>xs[j]?
variable {i:Int} {j:Nat}
theorem vU {n:Nat} (h:ixN n i=some j):seqIndex? i n=some j/\j < n/\-(n:Int)<=i/\i < n:=by
 unfold ixN at h;by_cases h0:0<=i
 ·rw [if_pos h0] at h;by_cases h1:i < n
  ·rw [if_pos h1] at h;have e:i.toNat=j:=Option.some.inj h;exact ⟨by rw [seqIndex_of h0 h1,e],by omega,by omega,h1⟩
  ·rw [if_neg h1] at h;cases h
 ·rw [if_neg h0] at h;by_cases h1:-(n:Int)<=i
  ·rw [if_pos h1] at h;have e:(i+n).toNat=j:=Option.some.inj h;exact ⟨by rw [seqIndex_neg (by omega) h1,e],by omega,h1,by omega⟩
  ·rw [if_neg h1] at h;cases h
theorem vA {α:Type} {xs:List α} {v:α} (h:atI xs i=some v):∃ j,seqIndex? i xs.length=some j/\xs[j]?=some v/\j < xs.length/\-(xs.length:Int)<=i/\i < xs.length:=by
 unfold atI at h
 cases e:ixN xs.length i with
 | none=>rw [e] at h;cases h
 | some j =>rw [e] at h;obtain ⟨h1,h2,h3,h4⟩:=vU e;exact ⟨j,h1,h,h2,h3,h4⟩
theorem gz {α:Type} {xs:List α} {v:α} (h:xs[j]?=some v):atI xs (j:Int)=some v:=by
 have hj:j < xs.length:=(List.getElem?_eq_some_iff.mp h).1
 have e:ixN xs.length (j:Int)=some j:=by unfold ixN;rw [if_pos (by omega),if_pos (by omega)];simp
 unfold atI;rw [e];exact h
theorem yg {α:Type} (xs:List α) (v:α):atI (xs++[v]) (-1)=some v:=by
 have hl:(xs++[v]).length=xs.length+1:=by simp
 have e:ixN (xs++[v]).length (-1)=some xs.length:=by unfold ixN;rw [hl,if_neg (by decide),if_pos (by omega)];congr 1;omega
 unfold atI;rw [e];show (xs++[v])[xs.length]?=some v;simp
def AV (b:Expr):Prop:=∀ o i,subscripted b false o i=operate [o,i] (getItem o i)
def IxR (X:Cx) (r:R2):Prop :=
 ∀ (value slice:Expr) (pins:List (Addr × Obj)) (s:Shared) (σ:St) (H:Hp) (x y:V) (v u:Value) (Q:VK),Inv X pins σ H s->RelV x v->RelV y u->r x y H Q ->
  subscripted slice false v u=operate [v,u] (getItem v u)->wpAny (model X.prog X.w) X.A (subscriptTail value slice v u) (EP X pins σ Q) X.xe s
def MtR (X:Cx) (id:String) (r:V->List V->Hp->VK->Prop):Prop :=
 ∀ (pins:List (Addr × Obj)) (s:Shared) (σ:St) (H:Hp) (x:V) (xs:List V) (v:Value) (us:List Value) (Q:VK),Inv X pins σ H s->RelV x v->Vals xs us->r x xs H Q ->
  wpAny (model X.prog X.w) X.A (call (.builtin id) (v::us)) (EP X pins σ Q) X.xe s
section
variable {X:Cx} {a b:Expr} {ta tb:TE} {pos:Pos}
theorem aI {r:R2} (hr:IxR X r) (ha:PE X a ta) (hb:PE X b tb) (hs:AV b:=by exact λ_ _=>rfl):PE X (.Subscript a b pos) (tOp r ta tb):=by intro pins s σ H Q I h;exact Subscript_ (Dk ha hb I h λv u s2 x y H2 I2 rx ry q=>hr a b pins s2 σ H2 x y v u Q I2 rx ry q (hs _ _))
def uT (K:W.Frag):R2:=λx y H Q=>∃ p xs i v,x=.ref p/\y=.int i/\SqL K H p xs/\atI xs i=some v/\Q v H
def kG (K:W.Frag):R2:=λx y H Q=>∃ p xs i v,x=.ref p/\y=.int i/\SqT K H p xs/\atI xs i=some v/\Q v H
theorem bf:IxR X (uT X.K):=by
 intro value slice pins s σ H x y v u Q I rx ry h hs;obtain ⟨p,xs,i,z,rfl,rfl,hq,he,q⟩:=h;cases rx;obtain ⟨t,rfl⟩:=ry;obtain ⟨its,r,pl,hz⟩:=I.list hq;obtain ⟨j,h1,h2,h3,h4,h5⟩:=vA he;obtain ⟨w,ew,rw'⟩:=r.get h2;have hl:=r.length;have hn:=jZ;have fin:EP X pins σ Q w s:=⟨z,H,I,rw',q⟩
 by_cases h0:0<=i
 ·have hj:i.toNat=j:=by
   rw [seqIndex_of h0 h5] at h1;exact Option.some.inj h1
  exact item_listR pl.isList h0 (by omega) (by rw [hj];simpa using ew) fin hs
 ·have hj:(i+(its.toArray.size:Int)).toNat=j:=by
   rw [seqIndex_neg (by omega) h4] at h1;rw [List.size_toArray,<- hl];exact Option.some.inj h1
  exact subscriptTail_builtinR (x:=w) pl.isList.typeIs slot_list_getitem.lookup
   (wpAny_getItem_list_neg (Q:=λr s'=>r=w/\EP X pins σ Q r s') pl.isList (by omega) (by rw [List.size_toArray] <;> omega) (by omega) (by rw [hj];simpa using ew) ⟨rfl,fin⟩) hs
theorem aK:IxR X (kG X.K):=by
 intro value slice pins s σ H x y v u Q I rx ry h hs;obtain ⟨p,xs,i,z,rfl,rfl,hq,he,q⟩:=h;cases rx;obtain ⟨t,rfl⟩:=ry;obtain ⟨its,r,pl,hz⟩:=I.tuple hq;obtain ⟨j,h1,h2,h3,h4,h5⟩:=vA he;obtain ⟨w,ew,rw'⟩:=r.get h2;have hl:=r.length;have hn:=jZ;have fin:EP X pins σ Q w s:=⟨z,H,I,rw',q⟩
 exact subscriptTail_builtinR (x:=w) pl.typeIs slot_tuple_getitem.lookup
  (getItem_tuple (j:=j) (Q:=λr s'=>r=w/\EP X pins σ Q r s') pl (by omega) (by omega) (by rw [List.size_toArray,<- hl];exact h1) (by simpa using ew) ⟨rfl,fin⟩) hs
theorem uD (its:List Value) (n j:Nat) (u:Value):Obj.mapSeq (·.setIfInBounds j u) { cls:=.type "list",data:=.seq its.toArray n }={ cls:=.type "list",data:=.seq (its.set j u).toArray n }:=by simp [Obj.mapSeq]
variable {pins:List (Addr × Obj)} {σ:St} {H:Hp} {s:Shared} {p:Addr} {xs:List V}
theorem Inv.lst (I:Inv X pins σ H s) (h:H p=some (.lst xs)) :
  ∃ (its:List Value) (n:Nat),Vals xs its/\s.heap.get? p=some { cls:=.type "list",data:=.seq its.toArray n }/\xs.length<=sizeLine:=by
 obtain ⟨z,its,n,r,e⟩:=I.hok p _ h;exact ⟨its,n,r,e,z⟩
theorem Inv.lstUpd {ys:List V} {its its':List Value} {n n':Nat} {f:Obj->Obj} (I:Inv X pins σ H s) (h:H p=some (.lst xs))
  (ho:s.heap.get? p=some { cls:=.type "list",data:=.seq its.toArray n }) (hf:f { cls:=.type "list",data:=.seq its.toArray n }={ cls:=.type "list",data:=.seq its'.toArray n' }) (r:Vals ys its') (hz:ys.length<=sizeLine) (t:Nat) :
  Inv X pins σ (upd H p (.lst ys)) { s with heap:=s.heap.update p f,toks:=t }:=by
 have e:(s.heap.update p f).get? p=some { cls:=.type "list",data:=.seq its'.toArray n' }:=by rw [Heap.get?_update_self f ho (by rw [hf] <;> rfl),hf]
 refine I.write (x:=p) (e:=p) (by rw [h];trivial) (.inl rfl) (λb u hb q=>(Heap.get?_update_other _ _ (Ne.symm hb)).trans q) ⟨_,e⟩ ?_;exact ⟨hz,its',n',r,e⟩
def ET:V->V->V->Hp->(Hp->Prop)->Prop:=λo i v H Q=>∃ p xs k j,o=.ref p/\i=.int k/\H p=some (.lst xs)/\ixN xs.length k=some j/\Q (upd H p (.lst (xs.set j v)))
theorem kP:C0 X ET:=by
 intro pins s σ H o i v ov iv u Q I ro ri rv h;obtain ⟨p,xs,k,j,rfl,rfl,hp,hj,q⟩:=h;cases ro;obtain ⟨t,rfl⟩:=ri;obtain ⟨its,n,r,ho,hz⟩:=I.lst hp;obtain ⟨h1,h2,h3,h4⟩:=vU hj;have hl:=r.length;have hn:=jZ
 have I':Inv X pins σ (upd H p (.lst (xs.set j v))) { s with heap:=s.heap.update p (Obj.mapSeq (·.setIfInBounds j u)) } :=
  I.lstUpd hp ho (uD its n j u) (r.set rv j) (by rw [List.length_set];exact hz) s.toks
 by_cases h0:0<=k
 ·have hk:k.toNat=j:=by
   rw [seqIndex_of h0 h4] at h1;exact Option.some.inj h1
  exact W.ki_setAt ho h0 (by omega) (by rw [List.size_toArray,<- hl];exact h4) (by rw [hk];exact ⟨_,I',q⟩)
 ·have hk:(k+(its.toArray.size:Int)).toNat=j:=by
   rw [seqIndex_neg (by omega) h3] at h1;rw [List.size_toArray,<- hl];exact Option.some.inj h1
  exact W.ki_setBack ho (by omega) (by rw [List.size_toArray,<- hl];exact h3) (by omega) (by rw [hk];exact ⟨_,I',q⟩)
theorem rM (lo hi:Option Int) (n:Nat):(sliceBounds lo hi none n).1=((HT.sIx n 0 lo:Nat):Int)/\(sliceBounds lo hi none n).2.1=((HT.sIx n n hi:Nat):Int)/\(sliceBounds lo hi none n).2.2=1:=by
 refine ⟨?_,?_,rfl⟩
 ·cases lo with
  | none=>simp [sliceBounds,HT.sIx]
  | some i =>
   simp only [sliceBounds,HT.sIx,Option.getD_none,show (1:Int) > 0 by decide,if_true];by_cases h:i < 0
   ·simp only [h,if_true] <;> omega
   ·simp only [h,if_false] <;> omega
 ·cases hi with
  | none=>simp [sliceBounds,HT.sIx]
  | some i =>
   simp only [sliceBounds,HT.sIx,Option.getD_none,show (1:Int) > 0 by decide,if_true];by_cases h:i < 0
   ·simp only [h,if_true] <;> omega
   ·simp only [h,if_false] <;> omega
theorem oV (its:List Value) (lo hi:Option Int):slicePick its.toArray lo hi none=((its.drop (HT.sIx its.length 0 lo)).take (HT.sIx its.length its.length hi - HT.sIx its.length 0 lo)).toArray:=by obtain ⟨h1,h2,h3⟩:=rM lo hi its.toArray.size;unfold slicePick;rw [h1,h2,h3];simp only [sliceRange_one,pick_run,List.size_toArray] <;> rfl
def EU (K:W.Frag):V->Option Int->Option Int->Hp->VK->Prop:=λx lo hi H Q=>∃ a xs,x=.ref a/\SqL K H a xs/\∀ p,H p=none->Q (.ref p) (upd H p (.lst (oM xs lo hi)))
theorem Ck:SlR X (EU X.K):=by intro pins s σ H x v vl vu lo hi sl Q I rx hs pl pu h;obtain ⟨a,xs,rfl,hx,q⟩:=h;cases rx;obtain ⟨its,r,ht,hz⟩:=I.list hx;have hlen:=r.length;refine ⟨"list",_,slot_list_getitem.lookup,ht.isList.typeIs,?_⟩;refine wpAny_getItem_list_slice ht.isList hs pl pu .none (by simp) ?_ (by rw [List.size_toArray] <;> omega);rw [oV,<- hlen];refine ⟨.ref s.heap.objs.size,_,I.laid (t':=s.toks) (o:=.lst (oM xs lo hi)) (λb ob q=>Heap.get?_push_of_some _ q) (Nat.le_refl _) ?_,rfl,q _ (I.hok.fresh (Nat.le_refl _))⟩;exact ⟨Nat.le_trans (lZ xs lo hi) hz,_,0,(r.drop (HT.sIx xs.length 0 lo)).take (HT.sIx xs.length xs.length hi - HT.sIx xs.length 0 lo),Heap.get?_push_size _ rfl⟩
def jN:V->Bool
 | .non=>true
 | .bl _=>true
 | .int _=>true
 | .str _=>true
 | _=>false
def eqV:V->V->Bool
 | .non,.non=>true
 | .bl a,.bl b=>a == b
 | .bl a,.int b=>(if a then 1 else 0) == b
 | .int a,.bl b=>a == (if b then 1 else 0)
 | .int a,.int b=>a == b
 | .str a,.str b=>a == b
 | _,_=>false
variable {A:Around} {y x:V} {u v:Value}
theorem Dq (ry:RelV y u) (rx:RelV x v) (fy:jN y=true) (fx:jN x=true):SeqAt.EqAt A s u v (eqV y x):=by
 cases y with
 | non =>
  cases ry
  cases x with
  | non=>cases rx;exact SeqAt.EqAt.same _
  | bl b=>cases rx;exact SeqAt.EqAt.none_bool b
  | int b=>obtain ⟨t,rfl⟩:=rx;exact SeqAt.EqAt.none_int b t
  | str b=>obtain ⟨t,rfl⟩:=rx;exact SeqAt.EqAt.none_str b t
  | _=>exact absurd (show false=true from fx) Bool.false_ne_true
 | bl a =>
  cases ry
  cases x with
  | non=>cases rx;exact SeqAt.EqAt.bool_none a
  | bl b=>cases rx;exact SeqAt.EqAt.bool_bool a b
  | int b=>obtain ⟨t,rfl⟩:=rx;exact SeqAt.EqAt.bool_int a b t
  | str b=>obtain ⟨t,rfl⟩:=rx;exact SeqAt.EqAt.bool_str a b t
  | _=>exact absurd (show false=true from fx) Bool.false_ne_true
 | int a =>
  obtain ⟨t',rfl⟩:=ry
  cases x with
  | non=>cases rx;exact SeqAt.EqAt.int_none a t'
  | bl b=>cases rx;exact SeqAt.EqAt.int_bool a t' b
  | int b=>obtain ⟨t,rfl⟩:=rx;exact SeqAt.EqAt.int_int a t' b t
  | str b=>obtain ⟨t,rfl⟩:=rx;exact SeqAt.EqAt.int_str a t' b t
  | _=>exact absurd (show false=true from fx) Bool.false_ne_true
 | str a =>
  obtain ⟨t',rfl⟩:=ry
  cases x with
  | non=>cases rx;exact SeqAt.EqAt.str_none a t'
  | bl b=>cases rx;exact SeqAt.EqAt.str_bool a t' b
  | int b=>obtain ⟨t,rfl⟩:=rx;exact SeqAt.EqAt.str_int a t' b t
  | str b=>obtain ⟨t,rfl⟩:=rx;exact SeqAt.EqAt.str_str a t' b t
  | _=>exact absurd (show false=true from fx) Bool.false_ne_true
 | _=>exact absurd (show false=true from fy) Bool.false_ne_true
def eqU (x:V) (u:Value):Bool:=match u with
 | .none=>eqV .non x
 | .bool b=>eqV (.bl b) x
 | .int i _=>eqV (.int i) x
 | .str z _=>eqV (.str z) x
 | _=>false
theorem yF (r:RelV y u) (f:jN y=true):eqU x u=eqV y x:=by
 cases y with
 | non=>cases r;rfl
 | bl b=>cases r;rfl
 | int i=>obtain ⟨t,rfl⟩:=r;rfl
 | str z=>obtain ⟨t,rfl⟩:=r;rfl
 | _=>exact absurd (show false=true from f) Bool.false_ne_true
theorem j8:∀ {xs:List V} {us:List Value},Vals xs us->xs.all jN=true->us.any (eqU x)=xs.any λy=>eqV y x
 | _,_,.nil,_=>rfl
 | y::xs,u::us,.cons r t,f=>by rw [List.all_cons,Bool.and_eq_true] at f;rw [List.any_cons,List.any_cons,yF r f.1,j8 t f.2]
theorem jd (rx:RelV x v) (fx:jN x=true):∀ {xs:List V} {us:List Value},Vals xs us->xs.all jN=true->∀ u ∈ us,SeqAt.EqAt A s u v (eqU x u)
 | _,_,.nil,_=>λu hu=>by cases hu
 | y::xs,u::us,.cons r t,f=>λu' hu=>by
  rw [List.all_cons,Bool.and_eq_true] at f;rcases List.mem_cons.mp hu with rfl | hu
  ·rw [yF r f.1];exact Dq r rx f.1 fx
  ·exact jd rx fx t f.2 u' hu
def inV (x:V) (xs:List V):Bool:=xs.any λy=>eqV y x
def rIn (K:W.Frag) (neg:Bool):R2:=λx y H Q=>∃ p xs,y=.ref p/\(SqL K H p xs\/SqT K H p xs)/\jN x=true/\xs.all jN=true/\Q (.bl (if neg then !inV x xs else inV x xs)) H
theorem fq:OpR X (compareOp .In) (rIn X.K false):=by
 intro pins s σ H x y v u Q I rx ry h;obtain ⟨p,xs,rfl,hq,fx,fs,q⟩:=h;cases ry;rcases hq with hq | hq
 ·obtain ⟨its,r,pl,hz⟩:=I.list hq;refine SeqAt.in_listAt (eqU x) pl.isList (λw hw=>jd rx fx r fs w (by simpa using hw)) ⟨.bl _,H,I,rfl,?_⟩;rw [show its.toArray.any (eqU x)=its.any (eqU x) by simp,j8 r fs];exact q
 ·obtain ⟨its,r,pl,hz⟩:=I.tuple hq;refine SeqAt.in_tupleAt (eqU x) pl (λw hw=>jd rx fx r fs w (by simpa using hw)) ⟨.bl _,H,I,rfl,?_⟩;rw [show its.toArray.any (eqU x)=its.any (eqU x) by simp,j8 r fs];exact q
theorem rh:OpR X (compareOp .NotIn) (rIn X.K true):=by
 intro pins s σ H x y v u Q I rx ry h;obtain ⟨p,xs,rfl,hq,fx,fs,q⟩:=h;cases ry;rcases hq with hq | hq
 ·obtain ⟨its,r,pl,hz⟩:=I.list hq;refine SeqAt.notIn_listAt (eqU x) pl.isList (λw hw=>jd rx fx r fs w (by simpa using hw)) ⟨.bl _,H,I,rfl,?_⟩;rw [show its.toArray.any (eqU x)=its.any (eqU x) by simp,j8 r fs];exact q
 ·obtain ⟨its,r,pl,hz⟩:=I.tuple hq;refine SeqAt.notIn_tupleAt (eqU x) pl (λw hw=>jd rx fx r fs w (by simpa using hw)) ⟨.bl _,H,I,rfl,?_⟩;rw [show its.toArray.any (eqU x)=its.any (eqU x) by simp,j8 r fs];exact q
theorem aM:hW X (.builtin "len") (λxs H Q=>∃ p ys,xs=[.ref p]/\(SqL X.K H p ys\/SqT X.K H p ys)/\Q (.int ys.length) H):=by
 intro pins s σ H xs us Q I r h;obtain ⟨p,ys,rfl,hq,q⟩:=h;obtain ⟨u,rfl,rx⟩:=gS r;cases rx;have hn:=jZ;rcases hq with hq | hq
 ·obtain ⟨its,r',pl,hz⟩:=I.list hq;have hlen:=r'.length;exact Calls.call_len_list pl.isList (by simp only [List.size_toArray] <;> omega) ⟨.int ys.length,H,I.tok _,⟨s.toks+1,by rw [List.size_toArray,hlen]⟩,q⟩
 ·obtain ⟨its,r',pl,hz⟩:=I.tuple hq;have hlen:=r'.length;exact len_tuple pl (by simp only [List.size_toArray] <;> omega) ⟨.int ys.length,H,I.tok _,⟨s.toks+1,by rw [List.size_toArray,hlen]⟩,q⟩
theorem qk:hW X (.builtin "len") (λxs H Q=>∃ z,xs=[.str z]/\z.length<=sizeLine/\Q (.int z.length) H):=by intro pins s σ H xs us Q I r h;obtain ⟨z,rfl,hz,q⟩:=h;obtain ⟨u,rfl,t,rfl⟩:=gS r;have hn:=jZ;exact len_str (by omega) ⟨.int z.length,H,I.tok _,⟨_,rfl⟩,q⟩
theorem bV:hW X (.type "tuple") (λxs H Q=>∃ p ys,xs=[.ref p]/\((SqL X.K H p ys/\∀ l,H l=none->Q (.ref l) (upd H l (.tup ys)))\/(SqT X.K H p ys/\Q (.ref p) H))):=by
 intro pins s σ H xs us Q I r h;obtain ⟨p,ys,rfl,h⟩:=h;obtain ⟨u,rfl,rx⟩:=gS r;cases rx;rcases h with ⟨hq,q⟩ | ⟨hq,q⟩
 ·obtain ⟨its,r',pl,hz⟩:=I.list hq;have hlen:=r'.length;refine call_tuple_list pl.isList (λh' kp=>?_) (by simp only [List.size_toArray] <;> omega);have I1:Inv X pins σ H { s with heap:=h' }:=I.kept (t':=s.toks) kp
  have I2:Inv X pins σ (upd H h'.objs.size (.tup ys)) { s with heap:=h'.push { cls:=.type "tuple",data:=.seq its.toArray } } :=
   I1.laid (t':=s.toks) (λb o e=>Heap.get?_push_of_some _ e) (Nat.le_refl _) (show ObjOk X.prog X.w _ _ _ (.tup ys) from ⟨hz,its,r',IsTup.new _ _⟩)
  exact ⟨.ref h'.objs.size,_,I2,rfl,q _ (I1.hok.fresh (Nat.le_refl _))⟩
 ·obtain ⟨its,r',pl,hz⟩:=I.tuple hq;exact call_tuple_same pl ⟨.ref p,H,I,rfl,q⟩
def tyV (K:W.Frag) (T:String) (x:V) (H:Hp):Prop:=match x with
 | .str _=>T="str"
 | .int _=>T="int"
 | .ref p=>(T="list"/\∃ xs,SqL K H p xs)\/(T="tuple"/\∃ o,K.lookup p=some o/\o.cls=.type "tuple"/\o.dict=none) \/
   (T="dict"/\((∃ kvs,H p=some (.dK kvs))\/∃ kvs,H p=some (.dT kvs)))\/(T="set"/\∃ S n,H p=some (.set S n))
 | _=>False
theorem AJ {T:String} (I:Inv X pins σ H s) (r:RelV x v) (ty:tyV X.K T x H) :
  s.TypeIs v T/\∀ a,v=.ref a->∃ ob,s.heap.get? a=some ob/\ob.dict=none:=by
 cases x with
 | str z =>obtain ⟨t,rfl⟩:=r;cases (show T="str" from ty);exact ⟨typeIs_str s z t,λ_ e=>nomatch e⟩
 | int i =>obtain ⟨t,rfl⟩:=r;cases (show T="int" from ty);exact ⟨typeIs_int s i t,λ_ e=>nomatch e⟩
 | ref p =>
  cases r;rcases ty with ⟨rfl,xs,hq⟩ | ⟨rfl,o,hk,hc,hd⟩ | ⟨rfl,hk⟩ | ⟨rfl,S,n,hk⟩
  ·obtain ⟨its,_,pl,_⟩:=I.list hq;refine ⟨pl.isList.typeIs,λa e=>?_⟩;cases e;obtain ⟨o,n,e,c,hd,_⟩:=pl;exact ⟨o,e,hd⟩
  ·refine ⟨⟨o,I.kIn p o hk,hc⟩,λa e=>?_⟩;cases e;exact ⟨o,I.kIn _ o hk,hd⟩
  ·have z:∃ o,s.heap.get? p=some o/\o.ExactDict:=by
    rcases hk with ⟨kvs,hk⟩ | ⟨kvs,hk⟩
    ·obtain ⟨_,_,_,_,o,_,_,e,ex,_⟩:=I.hok p _ hk;exact ⟨o,e,ex⟩
    ·obtain ⟨_,_,_,_,o,_,_,e,ex,_⟩:=I.hok p _ hk;exact ⟨o,e,ex⟩
   obtain ⟨o,e,ex⟩:=z;refine ⟨⟨o,e,ex.1⟩,λa e2=>?_⟩;cases e2;exact ⟨o,e,ex.2.1⟩
  ·obtain ⟨o,_,_,_,e,ex,_⟩:=I.hok p _ hk;refine ⟨⟨o,e,ex.1⟩,λa e2=>?_⟩;cases e2;exact ⟨o,e,ex.2.1⟩
 | _=>exact False.elim ty
def E5 (K:W.Frag) (T:String) (r:V->List V->Hp->VK->Prop) (to:TE):TE:=λσ H Q=>to σ H λx H1=>tyV K T x H1/\r x [] H1 Q
def tBM (K:W.Frag) (T:String) (r:V->List V->Hp->VK->Prop) (to:TE) (t:TA):TE:=λσ H Q=>to σ H λx H1=>tyV K T x H1/\t σ H1 λxs H2=>r x xs H2 Q
variable {o e:Expr} {es:List Expr} {to:TE} {t:TA} {name:Str} {apos cpos:Pos} {T id:String} {r:V->List V->Hp->VK->Prop}
theorem lF (pa:PlainAttrs T) (slot:Slot T name id) (hty:typeOf (.builtin id)=pure (.type "method_descriptor")) (hm:MtR X id r) (ho:PE X o to)
  (hbase:attributeBase o name X.env (eval o X.env)=eval o X.env:=by rfl) (hline:(apos.endLine == cpos.line)=true:=by rfl):PE X (.Call (.Attribute o name apos) [] [] cpos) (E5 X.K T r to):=by
 intro pins s σ H Q I h;refine wpAny_Call_method0_late hbase hline (thn (ho pins s σ H _ I h) λv s1 ⟨x,H1,I1,r1,ty,q1⟩=>?_);obtain ⟨h1,h2⟩:=AJ I1 r1 ty;exact ⟨T,id,pa,slot,hty,h1,h2,Calls.callWith_builtin rfl (PySem.evalArgs_none (hm pins s1 σ H1 x [] v [] Q I1 r1 .nil q1))⟩
theorem dk (pa:PlainAttrs T) (slot:Slot T name id) (hty:typeOf (.builtin id)=pure (.type "method_descriptor")) (hm:MtR X id r) (ho:PE X o to) (ha:PA X (e::es) t)
  (hbase:attributeBase o name X.env (eval o X.env)=eval o X.env:=by rfl)
  (hfew:((backTo cpos (starEach (e::es) X.env)).all (λx=>!x.1) && (backToKw cpos (keywordEach [] X.env)).all (λx=>x.1.isSome)
   && decide ((e::es).length+([]:List Keyword).length+(if ([]:List Keyword).isEmpty then 0 else 1) < 30))=true:=by rfl)
  (hline:(apos.endLine == cpos.line)=true:=by rfl) (hs:starEach (e::es) X.env=(false,eval e X.env)::starEach es X.env:=by rfl) (hplain:(backTo cpos (starEach es X.env)).any (·.1)=false:=by rfl) :
  PE X (.Call (.Attribute o name apos) (e::es) [] cpos) (tBM X.K T r to t):=by
 intro pins s σ H Q I h;refine wpAny_Call_method_late hbase hfew hline rfl (thn (ho pins s σ H _ I h) λv s1 ⟨x,H1,I1,r1,ty,q1⟩=>?_);obtain ⟨h1,h2⟩:=AJ I1 r1 ty;refine ⟨T,id,pa,slot,hty,h1,h2,?_⟩;have hA:=ha cpos pins s1 σ H1 _ I1 q1;rw [hs] at hA ⊢;refine Calls.callWith_builtin (by show (false || (backTo cpos (starEach es X.env)).any (·.1))=false;rw [hplain] <;> rfl) (Calls.evalArgs_plain ?_);exact thn hA λus s2 ⟨vs,H2,I2,r2,q2⟩=>hm pins s2 σ H2 x vs v us Q I2 r1 r2 q2
end
def MtM (X:Cx) (id:String) (r:V->List V->Hp->VK->Prop):Prop :=
 ∀ (pins:List (Addr × Obj)) (s:Shared) (σ:St) (H:Hp) (x:V) (xs:List V) (v:Value) (us:List Value) (Q:VK),Inv X pins σ H s->RelV x v->Vals xs us->r x xs H Q ->
  wpAny (model X.prog X.w) X.A (call (.builtin id) (v::us)) (EP X pins σ Q) X.xe s
theorem Vals.one:∀ {x:V} {us:List Value},Vals [x] us->∃ u,us=[u]/\RelV x u
 | _,_,.cons r .nil=>⟨_,rfl,r⟩
theorem Vals.zero:∀ {us:List Value},Vals [] us->us=[]
 | _,.nil=>rfl
theorem Vals.dropLast {xs:List V} {us:List Value} (h:Vals xs us):Vals xs.dropLast us.dropLast:=by
 induction h with
 | nil=>exact .nil
 | cons r t ih =>
  cases t with
  | nil=>exact .nil
  | cons q t'=>exact .cons r ih
theorem uv {α:Type} (l:List α):l.eraseIdx (l.length - 1)=l.dropLast:=by
 induction l with
 | nil=>rfl
 | cons a r ih =>
  cases r with
  | nil=>rfl
  | cons b r =>
   have e:(a::b::r).length - 1=((b::r).length - 1)+1:=by have h1:(a::b::r).length=r.length+2:=rfl;have h2:(b::r).length=r.length+1:=rfl;omega
   rw [e,List.eraseIdx_cons_succ,ih]
   all_goals rfl
section
variable {X:Cx} {pins:List (Addr × Obj)} {σ:St} {H:Hp} {s:Shared} {l b:Addr} {xs ys zs:List V}
variable {its:List Value} {n t':Nat}
theorem Inv.lset {its':List Value} {f:Array Value->Array Value} (I:Inv X pins σ H s) (hH:H l=some (.lst xs))
  (e:s.heap.get? l=some { cls:=.type "list",data:=.seq its.toArray n }) (hf:f its.toArray=its'.toArray) (hv:Vals ys its') (hz:ys.length<=sizeLine) :
  Inv X pins σ (upd H l (.lst ys)) { s with heap:=s.heap.update l (Obj.mapSeq f),toks:=t' }:=by
 have q:=PySem.IsL.update e f;rw [hf] at q;refine I.write (x:=l) (e:=l) (by rw [hH];exact trivial) (.inl rfl) (λb' u hb hu=>(Heap.get?_update_other s.heap (Obj.mapSeq f) (Ne.symm hb)).trans hu) ⟨_,q⟩ ?_;exact ⟨hz,its',_,hv,q⟩
theorem Inv.lnew (I:Inv X pins σ H s) (hv:Vals ys its) (hz:ys.length<=sizeLine) :
  Inv X pins σ (upd H s.heap.objs.size (.lst ys)) { s with heap:=s.heap.push { cls:=.type "list",data:=.seq its.toArray },toks:=t' } :=
 I.laid (λ_ _ q=>Heap.get?_push_of_some _ q) (Nat.le_refl _) ⟨hz,its,0,hv,Heap.get?_push_size _ rfl⟩
theorem Inv.fresh (I:Inv X pins σ H s):H s.heap.objs.size=none:=I.hok.fresh (Nat.le_refl _)
theorem Inv.lstM (I:Inv X pins σ H s) (hH:H l=some (.lst xs)):xs.length<=sizeLine/\∃ (its:List Value) (n:Nat),Vals xs its/\xs.length=its.length/\s.heap.get? l=some { cls:=.type "list",data:=.seq its.toArray n }:=by obtain ⟨z,its,n,r,e⟩:=I.hok l _ hH;exact ⟨z,its,n,r,r.length,e⟩
theorem zz (h:n<=sizeLine):Builtin.List.listTooLong n=false:=by unfold Builtin.List.listTooLong;exact decide_eq_false (by omega)
end
section
variable {X:Cx}
def kF:V->List V->Hp->VK->Prop:=λx vs H Q=>∃ l xs y,x=.ref l/\vs=[y]/\H l=some (.lst xs)/\xs.length < sizeLine/\Q .non (upd H l (.lst (xs++[y])))
theorem br:MtM X "list.append" kF:=by intro pins s σ H x vs v us Q I rx rv h;obtain ⟨l,xs,y,rfl,rfl,hH,hz,q⟩:=h;cases rx;obtain ⟨u,rfl,ru⟩:=rv.one;obtain ⟨z,its,n,r,hl,e⟩:=I.lstM hH;refine call_meets F.slot_list_append ⟨_,e,rfl⟩ F.entry_list_append (F.args_list_append_2 _ _) (PySem.list_append l its.toArray n u (by rw [List.size_toArray];omega)) ⟨e,?_⟩;refine ⟨.non,_,I.lset (its':=its++[u]) hH e (by simp) (r.append (.cons ru .nil)) ?_,rfl,q⟩;rw [List.length_append,List.length_singleton];omega
def wm:V->List V->Hp->VK->Prop:=λx vs H Q=>∃ l b xs zs,x=.ref l/\vs=[.ref b]/\H l=some (.lst xs)/\H b=some (.lst zs)/\xs.length+zs.length<=sizeLine/\Q .non (upd H l (.lst (xs++zs)))
theorem ip:MtM X "list.extend" wm:=by
 intro pins s σ H x vs v us Q I rx rv h;obtain ⟨l,b,xs,zs,rfl,rfl,hH,hB,hz,q⟩:=h;cases rx;obtain ⟨u,rfl,ru⟩:=rv.one;cases ru;obtain ⟨z,its,n,r,hl,e⟩:=I.lstM hH;obtain ⟨z2,its2,n2,r2,hl2,e2⟩:=I.lstM hB;have hsz:its.toArray.size+its2.toArray.size<=sizeLine:=by rw [List.size_toArray,List.size_toArray];omega
 have hlong:¬ (!its.toArray.isEmpty && Builtin.List.listTooLong (its.toArray.size+its2.toArray.size))=true:=by rw [zz hsz,Bool.and_false];exact Bool.false_ne_true
 refine call_meets F.slot_list_extend ⟨_,e,rfl⟩ F.entry_list_extend (F.args_list_extend_2 _ _)
  (AutoSeq1.list_extend_list_list_0 l its.toArray n b its2.toArray n2 hlong (by rw [List.size_toArray];omega) (by omega)) ⟨e,e2,?_⟩
 refine ⟨.non,_,I.lset (its':=its++its2) hH e (by simp) (r.append r2) ?_,rfl,q⟩;rw [List.length_append];omega
def ES:V->List V->Hp->VK->Prop:=λx vs H Q=>∃ l xs y,x=.ref l/\vs=[]/\H l=some (.lst xs)/\xs[xs.length - 1]?=some y/\Q y (upd H l (.lst xs.dropLast))
theorem lA:MtM X "list.pop" ES:=by
 intro pins s σ H x vs v us Q I rx rv h;obtain ⟨l,xs,y,rfl,rfl,hH,hy,q⟩:=h;cases rx;have hus:=rv.zero;subst hus;obtain ⟨z,its,n,r,hl,e⟩:=I.lstM hH;obtain ⟨u,hu,ru⟩:=r.get hy
 have hy':its.toArray[its.toArray.size - 1]?=some u:=by show its.toArray[its.length - 1]?=some u;rw [<- Array.getElem?_toList,<- hl];exact hu
 refine call_meets F.slot_list_pop ⟨_,e,rfl⟩ F.entry_list_pop (F.args_list_pop_1 _) (MeetsSeq.list_pop_last l its.toArray n u hy' (by rw [List.size_toArray];omega)) ⟨e,?_⟩;refine ⟨y,_,I.lset (its':=its.dropLast) hH e ?_ r.dropLast ?_,ru,q⟩
 ·show its.toArray.eraseIdxIfInBounds (its.toArray.size - 1)=its.dropLast.toArray;rw [List.size_toArray,List.eraseIdxIfInBounds_toArray,uv]
 ·rw [List.length_dropLast];omega
end
section
variable {prog:Program} {w:World} {A:Around} {E:Value->Shared->Prop} {s:Shared}
end
section
variable {X:Cx}
end
section
variable {κ:Type} [DecidableEq κ]
def j5 (kvs:List (κ × V)) (k:κ):Option V:=(kvs.find? λkv=>decide (kv.1=k)).map (·.2)
def tN (kvs:List (κ × V)) (k:κ) (v:V):List (κ × V) :=
 if (kvs.any λkv=>decide (kv.1=k))=true then kvs.map (λkv=>if kv.1=k then (kv.1,v) else kv) else kvs++[(k,v)]
theorem ud {p:κ × V} {r:List (κ × V)} {k:κ} (e:p.1=k):j5 (p::r) k=some p.2:=by simp [j5,List.find?_cons,e]
theorem uc {p:κ × V} {r:List (κ × V)} {k:κ} (e:¬ p.1=k):j5 (p::r) k=j5 r k:=by simp [j5,List.find?_cons,e]
theorem sL (kvs:List (κ × V)) (k:κ) (v:V):(tN kvs k v).length<=kvs.length+1:=by
 unfold tN;split
 ·rw [List.length_map];omega
 ·rw [List.length_append,List.length_cons,List.length_nil];omega
theorem KV.val {kvs:List (κ × V)} {vs:List (κ × Value)} (r:KV kvs vs) (k:κ):RelO (j5 kvs k) (valueAt vs k):=by
 unfold KV at r
 induction r with
 | nil=>exact True.intro
 | @cons p q ps qs h t ih =>
  obtain ⟨h1,h2⟩:=h;by_cases e:p.1=k
  ·have e':q.1=k:=h1.symm.trans e;have b:valueAt (q::qs) k=some q.2:=by simp [valueAt,List.find?_cons,e']
   rw [ud e,b];exact h2
  ·have e':¬ q.1=k:=λz=>e (h1.trans z);have b:valueAt (q::qs) k=valueAt qs k:=by simp [valueAt,List.find?_cons,e']
   rw [uc e,b];exact ih
theorem KV.any {kvs:List (κ × V)} {vs:List (κ × Value)} (r:KV kvs vs) (k:κ):(kvs.any λkv=>decide (kv.1=k))=vs.any λkv=>decide (kv.1=k):=by
 unfold KV at r
 induction r with
 | nil=>rfl
 | cons h t ih=>rw [List.any_cons,List.any_cons,ih,h.1]
variable {y:V} {u:Value}
theorem KV.repl {kvs:List (κ × V)} {vs:List (κ × Value)} (r:KV kvs vs) (k:κ) (ry:RelV y u) :
  KV (kvs.map λkv=>if kv.1=k then (kv.1,y) else kv) (vs.map λkv=>if kv.1=k then (kv.1,u) else kv):=by
 unfold KV at r ⊢
 induction r with
 | nil=>exact .nil
 | @cons p q ps qs h t ih =>
  rw [List.map_cons,List.map_cons];refine .cons ?_ ih;obtain ⟨h1,h2⟩:=h;by_cases e:p.1=k
  ·rw [if_pos e,if_pos (h1.symm.trans e)];exact ⟨h1,ry⟩
  ·rw [if_neg e,if_neg (λz=>e (h1.trans z))];exact ⟨h1,h2⟩
theorem KV.put {kvs:List (κ × V)} {vs:List (κ × Value)} (r:KV kvs vs) (k:κ) (ry:RelV y u):KV (tN kvs k y) (stored vs k u):=by
 unfold tN stored;rw [r.any k];by_cases e:(vs.any λkv=>decide (kv.1=k))=true
 ·rw [if_pos e,if_pos e];exact r.repl k ry
 ·rw [if_neg e,if_neg e];exact Paired.snoc r ⟨rfl,ry⟩
end
variable {P:Program} {w:World}
theorem yW {k:Key} {u:Value} (r:RelV (kV k) u):(dM P w).is k u=true:=by
 cases k with
 | inl i=>obtain ⟨t,e⟩:=(show ∃ t,u=Value.int i t from r);subst e;exact sO P w i t
 | inr x=>obtain ⟨t,e⟩:=(show ∃ t,u=Value.str x t from r);subst e;exact sP P w x t
theorem pD:∀ {ks:List Key} {us:List Value},Vals (ks.map kV) us->ItemsAre (dM P w) ks us
 | [],_,r=>by rw [List.map_nil] at r;cases r;exact .nil
 | k::ks,_,r=>by
  rw [List.map_cons] at r
  cases r with
  | cons h t=>exact .cons (yW h) (pD t)
abbrev KT (H:Hp):List (List Key × V)->List (List Key × Addr × Value)->Prop:=Paired λp q=>p.1=q.1/\H q.2.1=some (.tup (p.1.map kV))/\RelV p.2 q.2.2
variable {H:Hp}
theorem KT.val {kvs:List (List Key × V)} {xs:List (List Key × Addr × Value)} (r:KT H kvs xs) (k:List Key):RelO (j5 kvs k) ((atKey xs k).map (·.2)):=by
 induction r with
 | nil=>exact True.intro
 | @cons p q ps qs h t ih =>
  obtain ⟨h1,_,h2⟩:=h;by_cases e:p.1=k
  ·have e':q.1=k:=h1.symm.trans e;have b:atKey (q::qs) k=some q.2:=by simp [atKey,List.find?_cons,e']
   rw [ud e,b];exact h2
  ·have e':¬ q.1=k:=λz=>e (h1.trans z);have b:atKey (q::qs) k=atKey qs k:=by simp [atKey,List.find?_cons,e']
   rw [uc e,b];exact ih
section
variable {P:Program} {w:World} {H:Hp} {h:Heap} {a:Addr}
theorem CN {u:HO} (ok:HOk P w H h) (e:Rd H a u):ObjOk P w H h a u:=e.ok ok
variable {kvs:List (Key × V)}
theorem yD (ok:HOk P w H h) (e:Rd H a (.dK kvs)):kvs.length<=sizeLine/\(a == sysModules)=false/\∃ vs,KV kvs vs/\h.DictOf (dM P w) a vs :=
 show ObjOk P w H h a (.dK kvs) from CN ok e
theorem EA (ok:HOk P w H h) (e:H a=some (.dK kvs)):kvs.length<=sizeLine/\(a == sysModules)=false/\∃ vs,KV kvs vs/\h.DictOf (dM P w) a vs:=yD ok (.inl e)
theorem yX {ks:List Key} (ok:HOk P w H h) (e:H a=some (.tup (ks.map kV))):(tupleKind (dM P w)).is h ks a:=by
 obtain ⟨_,its,r,o,h1,h2,n,h3⟩:=(show ObjOk P w H h a (.tup (ks.map kV)) from ok a _ e)
 exact ⟨o,its.toArray,n,h1,h2,h3,by simpa using pD r⟩
theorem CA {kvs:List (List Key × V)} (ok:HOk P w H h) (e:Rd H a (.dT kvs)):kvs.length<=sizeLine/\(a == sysModules)=false /\
  ∃ xs,KT H kvs xs/\h.DictOfH (tupleKind (dM P w)) a xs:=by
 obtain ⟨z,y,xs,r,o,es,ep,h1,h2,h3,h4,h5⟩:=(show ObjOk P w H h a (.dT kvs) from CN ok e)
 refine ⟨z,y,xs,r,o,es,ep,h1,h2,h3,h4,λx hx=>?_,h5⟩
 have all:∀ {l:List (List Key × V)} {m:List (List Key × Addr × Value)},KT H l m->∀ x ∈ m,(tupleKind (dM P w)).is h x.1 x.2.1:=by
  intro l m q
  induction q with
  | nil=>intro x hx;exact nomatch hx
  | @cons p q ps qs hq t ih =>
   intro x hx;rcases List.mem_cons.mp hx with e | hx
   ·subst e;exact yX ok (by rw [<- hq.1];exact hq.2.1)
   ·exact ih x hx
 exact all r x hx
end
def DGet (H:Hp) (a:Addr) (y:V) (r:Option V):Prop :=
 (∃ kvs k,Rd H a (.dK kvs)/\y=kV k/\r=j5 kvs k)\/∃ kvs k b,Rd H a (.dT kvs)/\y=.ref b/\H b=some (.tup (k.map kV))/\r=j5 kvs k
variable {a:Addr}
theorem DGet.k {kvs:List (Key × V)} {k:Key} (e:H a=some (.dK kvs)):DGet H a (kV k) (j5 kvs k):=.inl ⟨kvs,k,.inl e,rfl,rfl⟩
section
variable {X:Cx} {pins:List (Addr × Obj)} {σ:St} {H:Hp} {s:Shared} {a:Addr} {y v:V} {u r:Value} {o:Option V} {A:Around} {E:Value->Shared->Prop}
theorem Inv.big (I:Inv X pins σ H s):sysModules < s.heap.objs.size:=by have h:mainGlobals < s.heap.objs.size:=(I.mod.glob.keeps I.bk).lt;exact Nat.lt_trans (by decide) h
theorem wR {Q:Value->Shared->Prop} (hu:A.units+1 < cLine) (I:Inv X pins σ H s) (g:DGet H a y (some v)) (ry:RelV y u) (h:∀ w' s',Inv X pins σ H s'->RelV v w'->Q w' s') :
  wpAny (model X.prog X.w) A (getItem (.ref a) u) Q E s:=by
 rcases g with ⟨kvs,k,e,ey,l⟩ | ⟨kvs,k,b,e,ey,eb,l⟩
 ·subst ey;obtain ⟨z,hd,vs,rel,dd⟩:=yD I.hok e;obtain ⟨w',hw,rw'⟩:=RelO.some_of (v:=v) (o:=valueAt vs k) (by rw [l];exact rel.val k);exact wpAny_getItem_of (yW ry) dd.mapOf hw (h w' _ (I.tok _) rw')
 ·subst ey;cases (show u=Value.ref b from ry);obtain ⟨z,hd,xs,rel,dd⟩:=CA I.hok e;obtain ⟨w',hw,rw'⟩:=RelO.some_of (v:=v) (o:=(atKey xs k).map (·.2)) (by rw [l];exact rel.val k);obtain ⟨p,hp,hp2⟩:=Option.map_eq_some_iff.mp hw;refine wpAny_getItem_heap (tupleKind_room_in1 hu) (yX I.hok eb) dd hp ?_;rw [hp2];exact h w' _ (I.tok _) rw'
variable {h':Heap}
theorem A6 {t':Nat} {ob:HO} (I:Inv X pins σ H s) (mu:Mut (H a)) (hs:Heap.SameBut a s.heap h') (he:∃ q,h'.get? a=some q) (new:ObjOk X.prog X.w (upd H a ob) h' a ob) :
  Inv X pins σ (upd H a ob) { s with heap:=h',toks:=t' } :=
 I.write (x:=a) (e:=a) mu (.inl rfl) (λb q hb z=>(hs.2 b hb).trans z) he new
theorem Dp {P:Program} {w:World} {H':Hp} {kvs:List (Key × V)} {vs:List (Key × Value)} (z:kvs.length<=sizeLine) (hd:(a == sysModules)=false) (rel:KV kvs vs) (dd:h'.DictOf (dM P w) a vs) :
  ObjOk P w H' h' a (.dK kvs):=⟨z,hd,vs,rel,dd⟩
end
section
variable {X:Cx} {pins:List (Addr × Obj)} {σ:St} {H:Hp} {s:Shared} {a:Addr} {kvs:List (Key × V)} {k:Key} {u:Value} {A:Around} {E:Value->Shared->Prop}
end
def Er (i:Expr):Prop:=∀ ov iv,subscripted i false ov iv=operate [ov,iv] (getItem ov iv)
variable {s:Shared} {pos:Pos}
theorem Co {prog:Program} {A:Around} {E:Value->Shared->Prop} {env:Env} {value slice:Expr} {T id:String} {Q:Value->Shared->Prop}
  (hl:typeLookup (.type T) "__getitem__"=pure (some (.builtin id))) (hs:Er slice)
  (h:wpAny (model prog w) A (eval value env) (λo s₁=>wpAny (model prog w) A (eval slice env) (λi s₂=>s₂.TypeIs o T/\wpAny (model prog w) A (getItem o i) Q E s₂) E s₁) E s) :
  wpAny (model prog w) A (eval (.Subscript value slice pos) env) Q E s:=by
 refine Subscript_ (wpAny_mono h (λo s₁ h₁=>wpAny_mono h₁ (λi s₂ h₂=>?_) λ_ _ x=>x) λ_ _ x=>x);obtain ⟨hT,h₂⟩:=h₂;unfold subscriptTail;refine wpAny_bind ?_;rw [getitemInPython_of_ne hT.not_modules];refine wpAny_bind (wpAny_specialOf hT hl ?_)
 have fin:wpAny (model prog w) A (subscripted slice false o i) (λr s₃=>wpAny (model prog w) A (letTemporaryGo value o r >>= λ_=>pure r) Q E s₃) E s₂:=by rw [hs o i];exact wpAny_operating (wpAny_mono h₂ (λr s₃ h₃=>wpAny_bind (wpAny_letTemporaryGo (wpAny_pure h₃))) λ_ _ x=>x)
 first
  | exact wpAny_pure (wpAny_bind fin)
  | exact wpAny_bind (wpAny_pure (wpAny_bind fin))
  | exact wpAny_bind fin
variable {X:Cx}
theorem sk {pins:List (Addr × Obj)} {σ:St} {y:V} {o:Option V} (I:Inv X pins σ H s) (g:DGet H a y o):s.TypeIs (.ref a) "dict":=by
 rcases g with ⟨kvs,k,e,_,_⟩ | ⟨kvs,k,b,e,_,_,_⟩
 ·obtain ⟨_,_,vs,_,dd⟩:=yD I.hok e;exact dd.typeIs
 ·obtain ⟨_,_,xs,_,dd⟩:=CA I.hok e;exact dd.typeIs
def CV (td ty:TE):TE:=λσ H Q=>td σ H λx H1=>ty σ H1 λy H2=>∃ a v,x=.ref a/\DGet H2 a y (some v)/\Q v H2
section
variable {X:Cx} {o i e value:Expr} {pos pos' tpos:Pos} {td ty tv:TE}
theorem mI (hu:X.A.units+1 < cLine) (ho:PE X o td) (hi:PE X i ty) (hs:Er i):PE X (.Subscript o i pos) (CV td ty):=by intro pins s σ H Q I h;refine Co F.slot_dict_getitem.lookup hs (thn (ho pins s σ H _ I h) λu s1 ⟨x,H1,I1,rx,q1⟩=>thn (hi pins s1 σ H1 _ I1 q1) λiv s2 ⟨y,H2,I2,ry,a,v,ex,g,q2⟩=>?_);subst ex;obtain rfl:u=Value.ref a:=rx;exact ⟨sk I2 g,wR hu I2 g ry λw' s3 I3 rw'=>⟨v,H2,I3,rw',q2⟩⟩
end
theorem yC (h:Heap) (hb:sysModules < h.objs.size):ObjOk P w H (h.push { cls:=.type "dict",data:=.dict #[] }) h.objs.size (.dK []) :=
 ⟨Nat.zero_le _,beq_eq_false_iff_ne.mpr (Ne.symm (Nat.ne_of_lt hb)),[],.nil,Heap.DictOf.new h⟩
section
variable {X:Cx} {pos:Pos}
end
def ve:List (TE × TE)->St->Hp->(List (V × V)->Hp->Prop)->Prop
 | [],_,H,Q=>Q [] H
 | (tk,tv)::r,σ,H,Q=>tk σ H λx H1=>tv σ H1 λy H2=>ve r σ H2 λps H3=>Q ((x,y)::ps) H3
abbrev VV:List (V × V)->List (Value × Value)->Prop:=Paired λp q=>RelV p.1 q.1/\RelV p.2 q.2
def PPs (X:Cx) (pos:Pos) (keys:List (Option Expr)) (values:List Expr) (trs:List (TE × TE)):Prop :=
 ∀ (pins:List (Addr × Obj)) (s:Shared) (σ:St) (H:Hp) (Q:List (V × V)->Hp->Prop),Inv X pins σ H s->ve trs σ H Q ->
  wpAny (model X.prog X.w) X.A (evalPairs (pairTrees keys values X.env pos)) (λvs s'=>∃ ps H',Inv X pins σ H' s'/\VV ps vs/\Q ps H') X.xe s
theorem BZ:PPs X pos [] [] []:=λpins s σ H Q I h=>pairTrees_nil_walk ⟨[],H,I,.nil,h⟩
variable {trs:List (TE × TE)}
theorem nV {k v:Expr} {ks:List (Option Expr)} {vs:List Expr} {tk tv:TE} (hk:PE X k tk) (hv:PE X v tv) (hr:PPs X pos ks vs trs) :
  PPs X pos (some k::ks) (v::vs) ((tk,tv)::trs):=λpins s σ H Q I h =>
 pairTrees_cons_walk (thn (hk pins s σ H _ I h) λu s1 ⟨x,H1,I1,rx,q1⟩=>thn (hv pins s1 σ H1 _ I1 q1) λw2 s2 ⟨y,H2,I2,ry,q2⟩ =>
  thn (hr pins s2 σ H2 _ I2 q2) λws s3 ⟨ps,H3,I3,rel,q3⟩=>⟨(x,y)::ps,H3,I3,.cons ⟨rx,ry⟩ rel,q3⟩)
def lq (kvs more:List (Key × V)):List (Key × V):=more.foldl (λacc kv=>tN acc kv.1 kv.2) kvs
theorem KV.merge:∀ {more:List (Key × V)} {rs:List (Key × Value)} {kvs:List (Key × V)} {vs:List (Key × Value)},KV more rs->KV kvs vs->KV (lq kvs more) (merged vs rs):=by
 intro more rs kvs vs r;unfold KV at r
 induction r generalizing kvs vs with
 | nil=>intro q;exact q
 | @cons p q ps qs h t ih =>
  intro r0
  have e:KV (tN kvs p.1 p.2) (stored vs q.1 q.2):=by have:=r0.put p.1 h.2;rw [<- h.1];exact this
  exact ih e
theorem jO:∀ (more kvs:List (Key × V)),(lq kvs more).length<=kvs.length+more.length
 | [],kvs=>by show kvs.length<=kvs.length+0;omega
 | p::r,kvs=>by have h1:=jO r (tN kvs p.1 p.2);have h2:=sL kvs p.1 p.2;show (lq (tN kvs p.1 p.2) r).length<=_;rw [List.length_cons];omega
theorem mY {P:Program} {w:World}:∀ {kvs:List (Key × V)} {ws:List (Value × Value)},VV (kvs.map λkv=>(kV kv.1,kv.2)) ws->∃ rs,Carries (dM P w) ws rs/\KV kvs rs
 | [],_,r=>by rw [List.map_nil] at r;cases r;exact ⟨[],True.intro,.nil⟩
 | p::kvs,_,r=>by
  rw [List.map_cons] at r
  cases r with
  | @cons a b as bs h t =>obtain ⟨rs,c,q⟩:=mY (P:=P) (w:=w) t;obtain ⟨b1,b2⟩:=b;exact ⟨(p.1,b2)::rs,⟨yW h.1,rfl,c⟩,.cons ⟨rfl,h.2⟩ q⟩
def E6 (trs:List (TE × TE)):TE:=λσ H Q=>∀ p,H p=none->ve trs σ (upd H p (.dK [])) λps H2=>H2 p=some (.dK [])/\∃ kvs:List (Key × V),ps=kvs.map (λkv=>(kV kv.1,kv.2))/\kvs.length<=15/\Q (.ref p) (upd H2 p (.dK (lq [] kvs)))
theorem BQ {keys:List (Option Expr)} {values:List Expr} (h:PPs X pos keys values trs) (hall:keys.all (·.isSome)=true) (hl:keys.length=values.length) (h0:keys≠[])
  (h15:keys.length<=15):PE X (.Dict keys values pos) (E6 trs):=by
 intro pins s σ H Q I q;have hn:=I.hok.fresh (Nat.le_refl s.heap.objs.size);have I1:=I.laid (a:=s.heap.objs.size) (o:=.dK []) (h':=s.heap.push { cls:=.type "dict",data:=.dict #[] }) (t':=s.toks) (λ_ _ q=>Heap.get?_push_of_some _ q) (Nat.le_refl _) (yC s.heap I.big);refine wpAny_Dict_walk (knd:=dM X.prog X.w) hall hl h0 h15 (thn (h pins _ σ _ _ I1 (q _ hn)) λws s2 ⟨ps,H2,I2,rel,e,kvs,ep,lk,q2⟩=>?_);subst ep;obtain ⟨rs,c,rk⟩:=mY (P:=X.prog) (w:=X.w) rel;obtain ⟨z,hd,vs0,r0,dd⟩:=EA I2.hok e;cases r0;refine ⟨rs,c,dd,λh' dd' hs=>⟨.ref s.heap.objs.size,_,?_,rfl,q2⟩⟩
 have hz:(lq [] kvs).length<=sizeLine:=by have h1:=jO kvs [];rw [List.length_nil] at h1;rw [sizeLine_eq];omega
 have he:∃ q,h'.get? s.heap.objs.size=some q:=let ⟨q,_,_,hq,_⟩:=dd';⟨q,hq⟩;exact A6 I2 (by rw [e];exact True.intro) hs he (Dp hz hd (rk.merge .nil) dd')
structure M2 (X:Cx) (o:Expr) (m:Str) (apos:Pos) (e f:Expr) (cpos:Pos):Prop where
 base:attributeBase o m X.env (eval o X.env)=eval o X.env
 few:((backTo cpos (starEach [e,f] X.env)).all (λx=>!x.1) && (backToKw cpos (keywordEach [] X.env)).all (λx=>x.1.isSome)
  && decide (([e,f]:List Expr).length+([]:List Keyword).length+(if ([]:List Keyword).isEmpty then 0 else 1) < 30))=true
 line:(apos.endLine == cpos.line)=true
 trees:backTo cpos (starEach [e,f] X.env)=[(false,eval e X.env),(false,eval f X.env)]
section
variable {X:Cx} {pins:List (Addr × Obj)} {σ:St} {H:Hp} {s:Shared} {a:Addr} {y d:V} {u r:Value} {o:Option V} {A:Around} {E:Value->Shared->Prop}
end
section
variable {X:Cx} {o e f:Expr} {apos cpos:Pos} {td ty tx:TE}
end
section
variable {X:Cx} {pins:List (Addr × Obj)} {σ:St} {H:Hp} {s:Shared} {a:Addr} {kvs:List (Key × V)} {A:Around} {E:Value->Shared->Prop}
end
section
variable {X:Cx} {pins:List (Addr × Obj)} {σ:St} {H:Hp} {s:Shared} {a:Addr} {y:V} {u:Value} {A:Around} {E:Value->Shared->Prop}
end
end L2
namespace Att
open PySem PySem.W PySem.Calls PyProof.Rows
variable {P:Params} {h:Heap}
theorem mF:∀ (ns:List Int) (vs:List Value),WellAll P h vs (ns.map WData.int)->IntsAre vs ns:=by
 intro ns
 induction ns with
 | nil =>intro vs w;rw [List.map_nil] at w;cases w;exact .nil
 | cons n ns ih =>
  intro vs w;rw [List.map_cons] at w
  cases w with
  | cons a b =>cases a;exact .cons _ _ (ih _ b)
variable {l:OpenLaw} {n:Nat}
theorem xI (hn:l.most=some n) {args:List WData} {vals:List Value}
  (hpre:l.row.toRowW.claim.pre args=true) (hwl:WellAll P h vals args) :
  ∃ a vs ns,vals=[Value.ref a]/\args=[WData.list (ns.map WData.int)]/\h.get? a=some { cls:=.type "list",data:=.seq vs.toArray }/\IntsAre vs ns/\ns.length<=n:=by
 have hsh:WShape.hasAll [] args [.list .int]=true:=(pre_splitW hpre).1;have hc:l.pre.holds [] { args:=args }=true:=(pre_splitW hpre).2;obtain ⟨d,r,rfl,h1,h2⟩:=hasAllW_cons hsh;obtain rfl:=hasAllW_nil h2;obtain ⟨xs,rfl,h3⟩:=hasW_list h1;obtain ⟨ns,rfl⟩:=items_int h3
 have hlen:ns.length<=n:=by
  unfold OpenLaw.pre at hc
  have h4:(WTm.not (.lt (.lit (.int (n:Int))) (.len (.arg 0)))).holds [] { args:=[.list (ns.map .int)] }=true:=by have h4:=(holds_andW hc).1;rw [hn] at h4;exact h4
  have h5:=condW_of h4 (w_not (w_lt w_lit (w_len_list (w_arg rfl))));rw [List.length_map] at h5;refine Nat.le_of_not_lt λq=>?_;have q':(n:Int) < ((ns.length:Nat):Int):=by omega
  first
   | (rw [decide_eq_true q'] at h5;exact absurd h5 (by decide))
   | (simp at h5;omega)
 cases hwl with
 | cons w1 w2 =>
  cases w2
  cases w1 with
  | list ho hall=>exact ⟨_,_,ns,rfl,rfl,ho,mF ns _ hall,hlen⟩
theorem xy (l:OpenLaw) (args:List WData):l.row.toRowW.claim.post args (.bool true) args=true :=
 postW_of (r:=l.row.toRowW) (X:=(true == true))
  (show WShape.has [] (.bool true) .bool=true by first | rfl | decide | simp [WShape.has,WShape.arms,WShape.armsAll])
  (show (WTm.eq .res (.lit (.bool true))).value [] { args:=args,res:=some (.bool true),after:=args }=some (.bool (true == true)) from w_eq_bool (w_res rfl) w_lit) rfl
theorem attach_call {q:Program} {loose:List Str} {XP:(Str->Option Value)->Heap->Prop} {YP:World->Heap->Prop} {d:DefRec}
  (hn:l.most=some n) (hdf:d.params.defaults=[])
  (call:∀ (w:World) (s₀ s₁:Shared) (mg mb:Str->Option Value) (fa:Addr) (o:Obj) (pm cd doc:Value) (a:Addr) (vs:List Value) (ns:List Int),
   Ground q loose [] XP w s₀ mg mb s₁.heap->YP w s₁.heap ->
   s₁.heap.get? fa=some o->o.data=.func (docDef d.name d.params d.body d.scope pm cd doc)->s₁.heap.CodeRec cd d.name->mg d.name=some (.ref fa) ->
   s₁.heap.get? a=some { cls:=.type "list",data:=.seq vs.toArray }->IntsAre vs ns->ns.length<=n->s₁.gens=#[] ->
   codeAny (model l.prog w) callerA (.call (.ref fa) ⟨[.ref a],[]⟩) (λr s'=>r=.ok (.ret (.bool true))/\OldK s₁.heap s'.heap/\s'.os=s₁.os/\AllBare s'.gens) s₁) :
  WalkO q loose XP YP l.row.toRowW d [] (λf vs=>PySem.call f vs):=by
 intro w s₀ s₁ mg mb G Y fa o pm cd doc dV kV ho hd hcd hD hmg hg args vals as hpre hlay hrd hwl hlo;obtain rfl:dV=.none:=Dflts.none hD hdf;obtain rfl:kV=.none:=Dflts.noKw hD;obtain ⟨a,vs,ns,rfl,rfl,hobj,hints,hlen⟩:=xI hn hpre hwl;refine enter_call (codeAny_mono (call w s₀ s₁ mg mb fa o pm cd doc a vs ns G Y ho (fd_plain hd) hcd hmg hobj hints hlen hg) λr s' hq=>?_);obtain ⟨rfl,h2,h3,h4⟩:=hq;exact ⟨.inl ⟨.bool true,.bool true,[],rfl,λ_=>rfl,.bool true,xy l _,λ_=>⟨List.Pairwise.nil,λ_ hm=>(nomatch hm)⟩⟩,h2,h3,h4⟩
section
variable {prog:Program} {w:World} {A:Around} {E:Value->Shared->Prop} {s:Shared} {K:Frag}
end
end Att
namespace L2
open PySem PySem.Spec PyProof.Rows
theorem p6:∀ {vs:List Value} {ns:List Int},IntsAre vs ns->Vals (ns.map V.int) vs
 | _,_,.nil=>.nil
 | _,_,.cons n t h=>.cons ⟨t,rfl⟩ (p6 h)
def AU (H:Hp):Prop:=∀ b,H b=none\/∃ o xs,H b=some (.frz o (.lst xs))
variable {P:Program} {w:World} {K:W.Frag} {mg:Str->Option Value} {CX:CXT} {a:Addr} {fd:FuncData} {x:Str} {sp:Sp} {ns:List Int}
theorem yZ {mb:Str->Option Value} {k:Nat} {fa:Addr} {s₁:Shared} {vs:List Value}
  (KX:K.In s₁.heap) (hns:s₁.heap.Ns mainGlobals mg) (hb:s₁.heap.Ns builtinsNs mb) (hbb:∀ x:Str,x≠"__name__"->mb x=bootBuiltins x) (hlim:s₁.heap.NoLimit) (hg:s₁.gens=#[])
  (ha:s₁.heap.get? a=some { cls:=.type "list",data:=.seq vs.toArray }) (hi:IntsAre vs ns) (hl:ns.length<=sizeLine) (hr:Room k callerA)
  (F:∀ base:Heap,K.In base->base.Ns mainGlobals mg->FnOk P w K mg base CX k fa fd [x] sp) (hbind:∀ (s:Shared) (u:Value),BindsTo s fd ⟨[u],[]⟩ [(x,u)])
  (hsp:∀ H:Hp,AU H->SqL K H a (ns.map V.int)->sp [.ref a] H (λv _=>v=.bl true) λ_ _ _=>False)
  (hCX:∀ H e s',CX [] H s₁ (λ_ _ _=>False) e s'->False) :
  codeAny (model P w) callerA (.call (.ref fa) ⟨[.ref a],[]⟩) (λr s'=>r=.ok (.ret (.bool true))/\OldK s₁.heap s'.heap/\s'.os=s₁.os/\AllBare s'.gens) s₁:=by
 have rv:=p6 hi;have lenV:=hi.length
 have core:∀ H:Hp,AU H->SqL K H a (ns.map V.int)->HOk P w H s₁.heap->(∀ b,H b≠none->b=a)->(H a≠none->K.lookup a=none) ->
   codeAny (model P w) callerA (.call (.ref fa) ⟨[.ref a],[]⟩) (λr s'=>r=.ok (.ret (.bool true))/\OldK s₁.heap s'.heap/\s'.os=s₁.os/\AllBare s'.gens) s₁:=by
  intro H hO hS hok hA hK;have base_of:∀ {b:Addr} {o:Obj},s₁.heap.get? b=some o->H b=none->(qH s₁.heap H).get? b=some o:=λe n=>yR e n
  have noA:∀ {b:Addr} {o:Obj} {es:Array DictEntry} {ep:Nat},s₁.heap.get? b=some o->o.data=.dict es ep->H b=none:=λ{b o es ep} e d=>by
   cases q:H b with
   | none=>rfl
   | some u =>have e':b=a:=hA b (by rw [q];simp);subst e';rw [ha] at e;cases e;have d':Data.seq vs.toArray _=Data.dict es ep:=d;cases d'
  have nsK:∀ {b:Addr} {m:Str->Option Value},s₁.heap.Ns b m->(qH s₁.heap H).Ns b m:=λ{b m} ⟨o,es,ep,e,d,r⟩=>⟨o,es,ep,base_of e (noA e d),d,r⟩
  have hKb:K.In (qH s₁.heap H):=λb o e=>base_of (KX b o e) (by
   cases q:H b with
   | none=>rfl
   | some u =>have e':b=a:=hA b (by rw [q];simp);subst e';rw [hK (by rw [q];simp)] at e;cases e)
  have hM:Mod K mg (qH s₁.heap H):=⟨hKb,nsK hns,⟨mb,nsK hb,hbb⟩,let ⟨mc,h1,h2⟩:=hlim;⟨mc,nsK h1,h2⟩⟩
  have e0:AS P w K mg (qH s₁.heap H) callerA [] s₁ H:=⟨rfl,hM,λb o e=>BG e,Nat.le_of_eq (wX _ _),trivial,λb hb=>absurd (show b ∈ ([]:List Addr) from hb) (by simp),hok,.of_eq hg⟩
  refine codeAny_mono ((F _ hKb (nsK hns)).run callerA [] s₁ H ⟨[.ref a],[]⟩ [.ref a] [.ref a] _ _ hr e0 (hbind s₁ (.ref a)) (.cons rfl .nil) (hsp H hO hS)) λr s' h=>?_
  cases r with
  | error e=>exact (hCX H e s' h).elim
  | ok fl =>
   cases fl with
   | next=>exact False.elim h
   | brk=>exact False.elim h
   | cont=>exact False.elim h
   | ret u =>
    obtain ⟨v,H',os,bare,un,hok',r',q⟩:=h;have q':v=.bl true:=q;subst q';obtain rfl:u=Value.bool true:=r';refine ⟨rfl,OldK.of_keep λb o e=>?_,os,bare⟩
    cases q:H b with
    | none=>exact un.keep b o e q (by intro z;exact absurd (show b ∈ ([]:List Addr) from z) (by simp)) (by simp)
    | some u =>
     rcases hO b with z | ⟨ob,xs,z⟩
     ·rw [q] at z;cases z
     ·have z2:=un.frzs b ob _ z;obtain ⟨e1,_⟩:=hok b _ z;obtain ⟨e2,_⟩:=hok' b _ z2;rw [e] at e1;cases e1;exact e2
 cases hk:K.lookup a with
 | some o =>have e:=KX a o hk;rw [ha] at e;cases e;refine core (λ_=>none) (λ_=>.inl rfl) (.inr ⟨_,vs.toArray,_,hk,rfl,rfl,rfl,by rw [List.size_toArray,lenV];exact hl,by simpa using rv⟩) (λb u z=>by have z':(none:Option HO)=some u:=z;cases z') (λb z=>absurd rfl z) λz=>absurd rfl z
 | none =>
  refine core (λb=>if b=a then some (.frz { cls:=.type "list",data:=.seq vs.toArray } (.lst (ns.map V.int))) else none) (λb=>?_) (.inl (.inr ⟨{ cls:=.type "list",data:=.seq vs.toArray },if_pos rfl⟩)) (λb u z=>?_) (λb z=>?_) λ_=>hk
  ·by_cases hb:b=a
   ·exact .inr ⟨_,_,if_pos hb⟩
   ·exact .inl (if_neg hb)
  ·by_cases hb:b=a
   ·have z':=(if_pos hb).symm.trans z;cases z';subst hb;exact ⟨ha,by rw [List.length_map];exact hl,vs,_,rv,ha⟩
   ·have z':=(if_neg hb).symm.trans z;cases z'
  ·by_cases hb:b=a
   ·exact hb
   ·exact absurd (if_neg hb) z
variable {n:Nat}
theorem walk_of {l:W.OpenLaw} {k:Nat} {q:Program} {loose:List Str} {XP:(Str->Option Value)->Heap->Prop} {YP:World->Heap->Prop} {d:DefRec} {K:Params->W.Frag} {CX:World->CXT} {sp:World->Sp}
  (hn:l.most=some n) (hn2:n<=sizeLine) (hdf:d.params.defaults=[]) (hr:Room k callerA)
  (hY:∀ (w:World) (h:Heap),YP w h->(K w.params).In h)
  (F:∀ (w:World) (mg:Str->Option Value) (fa:Addr) (h:Heap),(K w.params).In h->h.Ns mainGlobals mg->mg d.name=some (.ref fa) ->
   ∃ fd:FuncData,(∀ (s:Shared) (u:Value),BindsTo s fd ⟨[u],[]⟩ [(x,u)]) /\
    ∀ base:Heap,(K w.params).In base->base.Ns mainGlobals mg->FnOk l.prog w (K w.params) mg base (CX w) k fa fd [x] (sp w))
  (hsp:∀ (w:World) (H:Hp) (a:Addr) (ns:List Int),ns.length<=n->AU H->SqL (K w.params) H a (ns.map V.int)->sp w [.ref a] H (λv _=>v=.bl true) λ_ _ _=>False)
  (hCX:∀ (w:World) (H:Hp) (s:Shared) (e:Value) (s':Shared),CX w [] H s (λ_ _ _=>False) e s'->False) :
  W.WalkO q loose XP YP l.row.toRowW d [] (λf vs=>PySem.call f vs):=by
 refine Att.attach_call hn hdf λw s₀ s₁ mg mb fa o pm cd doc a vs ns G Y ho hd hcd hmg hobj hints hlen hg=>?_;have KX:=hY w _ Y;obtain ⟨fd,hb,hF⟩:=F w mg fa _ KX G.T.g hmg;exact yZ KX G.T.g G.T.b G.T.builtins G.T.nolimit hg hobj hints (Nat.le_trans hlen hn2) hr hF hb (λH hO hS=>hsp w H a ns hlen hO hS) λH e s'=>hCX w H s₁ e s'
def kg (s:Stmt):Arguments:=match s with
 | .FunctionDef _ a _ _ _ _ _ _ _ _=>a
 | _=>{ posonlyargs:=[],args:=[],vararg:=none,kwonlyargs:=[],kw_defaults:=[],kwarg:=none,defaults:=[] }
def jz (s:Stmt):List Stmt:=match s with
 | .FunctionDef _ _ b _ _ _ _ _ _ _=>b
 | _=>[]
def aD (s:Stmt):Scope:=match s with
 | .FunctionDef _ _ _ _ _ _ sc _ _ _=>sc
 | _=>{ kind:=.function,names:=[],isGenerator:=false,isCoroutine:=false }
abbrev CX0:CXT:=λ_ _ _ _ _ _=>False
abbrev E0:XK:=λ_ _ _=>False
variable {X:Cx}
theorem zE:qa CX0 X E0:=λ_ _ _ _ _ _ _ h=>h.elim
structure Fun (K:W.Frag) (x qual:Str) (st:Stmt) (f:Addr) (fd:FuncData):Prop where
 ex:∃ (oc:Value) (od:Option Addr) (kV doc pm:Value) (an:Option Addr) (cdv ct:Value) (osl:Array (Option Value)),
  fd=W.fnOf x qual (kg st) (jz st) (aD st) .none kV doc pm an cdv ct/\K.lookup f=some ⟨oc,od,.func fd,osl⟩/\W.codeIn K cdv qual=true
 kp:W.keepIn K (.ref f)=true
section
variable {P:Program} {w:World} {K:W.Frag} {mg:Str->Option Value} {base:Heap}
variable {x qual:Str} {st:Stmt} {f:Addr}
theorem Fun.ok {fd:FuncData} {N ps:List Str} {k:Nat} {sp:Sp} (F:Fun K x qual st f fd) (S:FnScope N ps (aD st)) (len:∀ vs H Q E,sp vs H Q E->vs.length=ps.length)
  (hbody:∀ (cdv:Value) (A:Around) (outer:List Env) (s:Shared) (H:Hp) (vs:List V) (Q:VK) (E:XK),Room k (A.deeper (envOfC qual (aD st) s.heap.objs.size f cdv))->sp vs H Q E ->
   ∃ t,PSs (wQ CX0 P w K mg base N qual (aD st) f cdv A outer s H E).nox (jz st) t/\t { nx:=λ_ H'=>Q .non H',rt:=Q } (eG N vs) H):FnOk P w K mg base CX0 (k+1) f fd ps sp:=by
 obtain ⟨oc,od,kV,doc,pm,an,cdv,ct,osl,rfl,lk,hcd⟩:=F.ex;refine EB lk hcd S len λA outer s H vs Q E hr hsp=>?_;obtain ⟨t,h,q⟩:=hbody cdv A outer s H vs Q E hr hsp;exact ⟨t,h.nox,q⟩
theorem Dt {oc:Value} {od an:Option Addr} {osl:Array (Option Value)} {kV doc pm cdv ct:Value} (l:K.lookup f=some ⟨oc,od,.func (W.fnOf x qual (kg st) (jz st) (aD st) .none kV doc pm an cdv ct),osl⟩)
  (c:W.codeIn K cdv qual=true) (k:W.keepIn K (.ref f)=true):Fun K x qual st f (W.fnOf x qual (kg st) (jz st) (aD st) .none kV doc pm an cdv ct):=⟨⟨oc,od,kV,doc,pm,an,cdv,ct,osl,rfl,l,c⟩,k⟩
end
variable {A:Around}
theorem vQ {k:Nat} (hr:Room k A):A.units+1 < cLine:=Nat.lt_of_le_of_lt (Nat.add_le_add_left (by decide:1<=64) _) hr.units
theorem bx (h:n<=1000):n < sizeLine:=Nat.lt_of_le_of_lt h (by decide)
section
variable {X:Cx}
theorem pv (i:Nat) {x:Str} {pos:Pos} (hN:X.N[i]?=some x:=by rfl) (hv:Vis X.env.scope x:=by first | exact Or.inl rfl | exact Or.inr (Or.inl rfl) | exact Or.inr (Or.inr rfl)) (hd:(x == ("__debug__":Str))=false:=by decide)
  (hcd:(x == ("__classdict__":Str))=false:=by decide):PE X (.Name x pos) (fG i):=DQ hN hv hd hcd
end
theorem ik {A B:Prop} (h:B):if false=true then A else B:=by rw [if_neg Bool.false_ne_true];exact h
theorem gU {A B:Prop} (h:A):if true=true then A else B:=by rw [if_pos rfl];exact h
theorem oO {c A B:Prop} [Decidable c] (h1:c->A) (h2:¬ c->B):if c then A else B:=by
 by_cases h:c
 ·rw [if_pos h];exact h1 h
 ·rw [if_neg h];exact h2 h
def Same (H H':Hp):Prop:=∀ b o,H b=some o->H' b=some o
theorem Same.refl (H:Hp):Same H H:=λ_ _ h=>h
variable {H H1:Hp}
theorem Same.trans {H2:Hp} (a:Same H H1) (b:Same H1 H2):Same H H2:=λc o h=>b c o (a c o h)
variable {H':Hp} {l:Addr}
theorem Same.free (e:Same H H') (h:H' l=Option.none):H l=Option.none:=by
 cases q:H l with
 | none=>rfl
 | some o =>rw [e l o q] at h;cases h
variable {xs:List V}
theorem Same.seq (e:Same H H') (h:SqL K H a xs):SqL K H' a xs:=by
 rcases h with (h | ⟨o,h⟩) | h
 ·exact .inl (.inl (e _ _ h))
 ·exact .inl (.inr ⟨o,e _ _ h⟩)
 ·exact .inr h
section
variable {κ:Type} [DecidableEq κ]
end
def rk (env:Env) (x:Str) (k:NameKind):NameKind :=
 if (k == NameKind.free && env.scope.kind == .function && env.kindOf x == some .cell)=true then .cell else k
theorem rG (sc:Scope) (env:Env) (x:Str):(relabel sc env).names.lookup x=(sc.names.lookup x).map (rk env x):=by
 have all:∀ l:List (Str × NameKind),(l.map λ(n,k)=>if (k == NameKind.free && env.scope.kind == .function && env.kindOf n == some .cell) then (n,NameKind.cell) else (n,k)).lookup x=(l.lookup x).map (rk env x):=by
  intro l
  induction l with
  | nil=>rfl
  | cons p r ih =>
   obtain ⟨n,k⟩:=p;rw [List.map_cons]
   cases hx:x == n with
   | true =>
    have e:x=n:=by simpa using hx
    subst e;by_cases c:(k == NameKind.free && env.scope.kind == .function && env.kindOf x == some .cell)=true
    ·simp [List.lookup_cons,rk,c]
    ·simp [List.lookup_cons,rk,c]
   | false =>
    have e1:((n,k)::r).lookup x=r.lookup x:=by rw [List.lookup_cons,hx]
    rw [e1,<- ih];by_cases c:(k == NameKind.free && env.scope.kind == .function && env.kindOf n == some .cell)=true
    ·show List.lookup x ((if (k == NameKind.free && env.scope.kind == .function && env.kindOf n == some .cell)=true then (n,NameKind.cell) else (n,k))::_)=_;rw [if_pos c,List.lookup_cons,hx]
    ·show List.lookup x ((if (k == NameKind.free && env.scope.kind == .function && env.kindOf n == some .cell)=true then (n,NameKind.cell) else (n,k))::_)=_;rw [if_neg c,List.lookup_cons,hx]
 exact all sc.names
variable {env:Env}
theorem Ce:rk env x .free=.cell\/rk env x .free=.free:=by
 unfold rk;split
 ·exact .inl rfl
 ·exact .inr rfl
theorem D9 {k:NameKind} (h:k≠.free):rk env x k=k:=by
 unfold rk;rw [if_neg];intro c
 have:(k == NameKind.free)=true:=by
  cases q:(k == NameKind.free) with
  | true=>rfl
  | false=>rw [q] at c;simp at c
 exact h (by simpa using this)
def EJ:Option NameKind->Bool
 | some .free=>true
 | _=>false
def EI:Option NameKind->Bool
 | some .free=>true
 | some .cell=>true
 | _=>false
def EK:Option NameKind->Bool
 | some .local=>true
 | _=>false
variable {o:Option NameKind}
theorem Bs (h:EJ o=true):o=some .free:=by
 cases o with
 | none=>cases h
 | some k=>cases k <;> first | rfl | cases h
theorem Br (h:EI o=true):o=some .cell\/o=some .free:=by
 cases o with
 | none=>cases h
 | some k=>cases k <;> first | exact .inl rfl | exact .inr rfl | cases h
theorem Bt (h:EK o=true):o=some .local:=by
 cases o with
 | none=>cases h
 | some k=>cases k <;> first | rfl | cases h
def bW (N:List Str) (ok:Str->Option NameKind) (names:List (Str × NameKind)) (own:List Str) (fr:List Nat) (N':List Str):Bool :=
 decide (N'=own++fr.map λj=>N.getD j "") && (fr.all λj=>decide (j < N.length) && EJ (names.lookup (N.getD j ""))) &&
  names.all λp=>match p.2 with
   | .free=>EI (ok p.1)
   | .cell=>false
   | .local=>EK (names.lookup p.1)
   | _=>true
structure Blk (N:List Str) (ok:Str->Option NameKind) (names:List (Str × NameKind)) (own:List Str) (fr:List Nat) (N':List Str):Prop where
 eN:N'=own++fr.map λj=>N.getD j ""
 fr:∀ j ∈ fr,j < N.length/\names.lookup (N.getD j "")=some .free
 free:∀ p ∈ names,p.2=.free->ok p.1=some .cell\/ok p.1=some .free
 cell:∀ p ∈ names,p.2≠.cell
 loc:∀ p ∈ names,p.2=.local->names.lookup p.1=some .local
theorem yj {N:List Str} {ok:Str->Option NameKind} {names:List (Str × NameKind)} {own:List Str} {fr:List Nat} {N':List Str} (h:bW N ok names own fr N'=true):Blk N ok names own fr N':=by
 unfold bW at h;rw [Bool.and_eq_true,Bool.and_eq_true] at h;obtain ⟨⟨h1,h2⟩,h3⟩:=h;have h3':=List.all_eq_true.mp h3;refine ⟨of_decide_eq_true h1,λj hj=>?_,λp hp e=>?_,λp hp e=>?_,λp hp e=>?_⟩
 ·have q:=List.all_eq_true.mp h2 j hj;rw [Bool.and_eq_true] at q;exact ⟨of_decide_eq_true q.1,Bs q.2⟩
 ·have q:=h3' p hp;rw [e] at q;exact Br q
 ·have q:=h3' p hp;rw [e] at q;cases q
 ·have q:=h3' p hp;rw [e] at q;exact Bt q
def mkS (own:List Str) (fr:List Nat) (σ:St):St:=own.map (λ_=>none)++fr.map λj=>(σ[j]?).getD none
theorem Ey (sc:Scope) (env:Env) (h:∀ p ∈ sc.names,p.2=.free->∃ c,env.cells.lookup p.1=some c) :
  ∃ cl,closureFor sc env=pure cl/\(∀ x c,cl.lookup x=some c->env.cells.lookup x=some c)/\∀ p ∈ sc.names,p.2=.free->cl.lookup p.1=env.cells.lookup p.1:=by
 unfold closureFor
 have all:∀ (l:List (Str × NameKind)) (acc:List (Str × Addr)),(∀ p ∈ l,p.2=.free->∃ c,env.cells.lookup p.1=some c)->(∀ x c,acc.lookup x=some c->env.cells.lookup x=some c) ->
   ∃ cl,(forIn l acc λ(p:Str × NameKind) (r:List (Str × Addr))=>(match p with
    | (name,kind)=>if (kind == NameKind.free)=true then (do let a <- cellOf env name;pure (ForInStep.yield ((name,a)::r))) else pure (ForInStep.yield r):Sem (ForInStep (List (Str × Addr)))))=pure cl /\
    (∀ x c,cl.lookup x=some c->env.cells.lookup x=some c)/\(∀ p ∈ l,p.2=.free->cl.lookup p.1=env.cells.lookup p.1)/\∀ x,acc.lookup x=env.cells.lookup x->cl.lookup x=env.cells.lookup x:=by
  intro l
  induction l with
  | nil=>intro acc _ ha;exact ⟨acc,rfl,ha,λp hp=>(by simp at hp),λx e=>e⟩
  | cons p r ih =>
   intro acc hl ha;obtain ⟨n,k⟩:=p;rw [List.forIn_cons];by_cases hk:k=.free
   ·subst hk;obtain ⟨c,hc⟩:=hl (n,.free) List.mem_cons_self rfl;have hce:cellOf env n=pure c:=by unfold cellOf;rw [hc]
    obtain ⟨cl,e1,e2,e3,e4⟩:=ih ((n,c)::acc) (λp hp=>hl p (List.mem_cons_of_mem _ hp)) (λx c' e=>by
     rw [List.lookup_cons] at e
     cases hx:x == n with
     | true =>
      rw [hx] at e;have:x=n:=by simpa using hx
      subst this;cases e;exact hc
     | false=>rw [hx] at e;exact ha x c' e)
    refine ⟨cl,?_,e2,λp hp e=>?_,λx e=>e4 x ?_⟩
    ·simp only [beq_self_eq_true,if_true,hce];exact e1
    ·rcases List.mem_cons.mp hp with rfl | hp
     ·exact e4 n (by rw [List.lookup_cons];simp [hc])
     ·exact e3 p hp e
    ·rw [List.lookup_cons]
     cases hx:x == n with
     | true =>
      have:x=n:=by simpa using hx
      subst this;simp [hc]
     | false=>exact e
   ·have hb:(k == NameKind.free)=false:=by simpa using hk
    obtain ⟨cl,e1,e2,e3,e4⟩:=ih acc (λp hp=>hl p (List.mem_cons_of_mem _ hp)) ha;refine ⟨cl,?_,e2,λp hp e=>?_,e4⟩
    ·simp only [hb,Bool.false_eq_true,if_false];exact e1
    ·rcases List.mem_cons.mp hp with rfl | hp
     ·exact absurd e hk
     ·exact e3 p hp e
 obtain ⟨cl,e1,e2,e3,_⟩:=all sc.names [] h (λx c e=>by simp at e);refine ⟨cl,?_,e2,e3⟩;have e1':=congrArg (λt:Sem (List (Str × Addr))=>t >>= λcs=>pure cs) e1
 first
  | exact e1'
  | (simp only [pure_bind] at e1';exact e1')
  | (refine Eq.trans ?_ e1';rfl)
  | (dsimp only at e1' ⊢;exact e1')
def Cx.blk (X:Cx) (sc:Scope) (cl:List (Str × Addr)) (C:Addr) (N:List Str) (s:Shared) (H:Hp) (fp:List Addr):Cx where
 prog:=X.prog
 w:=X.w
 K:=X.K
 mg:=X.mg
 base:=X.base
 A:=X.A
 N:=N
 s₀:=s
 H₀:=H
 env:=compEnvC sc cl C X.env
 outer:=X.stack
 stack:=X.stack
 ex:=fp
 fn:=λ_=>false
 calm:=X.calm
 pn:=[]
 xe:=λ_ _=>False
section
variable {X:Cx} {pins:List (Addr × Obj)} {σ:St} {H:Hp} {s:Shared} {sc:Scope} {cl:List (Str × Addr)} {own:List Str} {fr:List Nat} {N':List Str} {fp:List Addr}
variable {C:Addr}
theorem wJ (I:Inv X pins σ H s) (B:Blk X.N X.env.kindOf sc.names own fr N') (hk:sc.kind=.function)
  (sub:∀ x c,cl.lookup x=some c->X.env.cells.lookup x=some c) (has:∀ p ∈ sc.names,p.2=.free->cl.lookup p.1=X.env.cells.lookup p.1)
  (f2:∀ b ∈ fp,oI X pins H b) (fo:∀ b ∈ fp,b < s.heap.objs.size) {h1:Heap} {tk:Nat} {D:Addr} {n:Nat} (eD:D=s.heap.objs.size) (eC:s.heap.objs.size < C)
  (hns:h1.Ns C (λ_=>none)) (old:∀ b o,s.heap.get? b=some o->h1.get? b=some o) (hD:h1.get? D=some { cls:=.type "list",data:=.seq ([]:List Value).toArray n }) :
  Inv (X.blk sc cl C N' s H fp) [] (mkS own fr σ) (upd H D (.lst [])) { s with heap:=h1,toks:=tk }:=by
 have hcells:∀ x c,cl.lookup x=some c->c < s.heap.objs.size:=λx c e=>by obtain ⟨v,q⟩:=I.cell x c (sub x c e);exact q.lt
 have hDn:H D=none:=I.hok.fresh (Nat.le_of_eq eD.symm);have kind:∀ x,(X.blk sc cl C N' s H fp).env.kindOf x=(sc.names.lookup x).map (rk X.env x):=λx=>rG sc X.env x
 refine ⟨⟨I.ok.mod,hk,I.ok.glob,I.ok.blt,Nat.le_of_lt eC,λx y c e1 e2=>I.ok.inj x y c (sub x c e1) (sub y c e2),λx hx=>?_,(λx c e=>nomatch (show false=true from e)),I.ok.hd,I.ok.frames,.inl rfl,λb hb=>⟨?_,λx c e=>?_⟩,I.bs,Nat.le_trans I.ok.bsz I.sz,λb o e hb=>?_,λb hb=>?_,I.stack,I.stkFree⟩,
  rfl,I.bare,Un.laid old (Nat.le_of_eq eD.symm) hDn,⟨_,hns,λi x v e1 e2 e3=>?_⟩,λx c e=>?_,?_,λx c e=>?_,λp hp=>?_,I.hok.laid old (Nat.le_of_eq eD.symm) ⟨Nat.zero_le _,[],n,.nil,hD⟩,?_⟩
 ·have hx':(sc.names.lookup x).map (rk X.env x)=some .cell\/(sc.names.lookup x).map (rk X.env x)=some .free:=by
   rw [<- kind x];exact hx
  cases q:sc.names.lookup x with
  | none=>rw [q] at hx';simp at hx'
  | some k =>
   have hm:=PySem.mem_of_lookup q;by_cases hf:k=.free
   ·subst hf;show ∃ c,cl.lookup x=some c;rw [has _ hm rfl];have z:=B.free _ hm rfl;exact I.ok.has x z
   ·rw [q] at hx';simp only [Option.map_some,D9 hf] at hx';rcases hx' with z | z
    ·exact absurd (Option.some.inj z) (B.cell _ hm)
    ·exact absurd (Option.some.inj z) hf
 ·exact Nat.ne_of_lt (Nat.lt_trans (fo b hb) eC)
 ·exact (f2 b hb).2.2.2.2.1 x c (sub x c e)
 ·rcases (f2 b hb).2.2.2.1 with z | z
  ·exact I.ok.noex b o e z
  ·exact absurd (Nat.lt_of_lt_of_le (Heap.lt_size e) (Nat.le_trans I.ok.bsz z)) (Nat.lt_irrefl _)
 ·intro z;rcases List.mem_cons.mp (I.stkSub b z) with e | e
  ·exact (f2 b hb).2.1 e
  ·exact (f2 b hb).2.2.1 e
 ·
  have e1':N'[i]?=some x:=e1
  have hi:¬ i < own.length:=λz=>by unfold mkS at e2;rw [List.getElem?_append_left (by simpa using z),List.getElem?_map,List.getElem?_eq_getElem z] at e2;cases e2
  unfold mkS at e2;rw [List.getElem?_append_right (by simpa using hi),List.length_map,List.getElem?_map] at e2;rw [B.eN,List.getElem?_append_right (by simpa using hi),List.getElem?_map] at e1'
  cases q:fr[i - own.length]? with
  | none=>rw [q] at e2;cases e2
  | some j =>
   rw [q] at e2 e1';simp only [Option.map_some,Option.some.injEq] at e2 e1';obtain ⟨hj,hfr⟩:=B.fr j (List.mem_of_getElem? q)
   have ej:X.N[j]?=some x:=by rw [<- e1',List.getD_eq_getElem?_getD,List.getElem?_eq_getElem hj];rfl
   have eσ:σ[j]?=some (some v):=by
    cases z:σ[j]? with
    | none=>rw [z] at e2;cases e2
    | some o=>rw [z] at e2;simp only [Option.getD_some] at e2;rw [e2]
   rw [e1'] at hfr;have hm:=PySem.mem_of_lookup hfr;have hok:=B.free _ hm rfl;obtain ⟨m0,hn0,hl0⟩:=I.loc
   have hv:Vis X.env.scope x:=by
    rcases hok with z | z
    ·exact .inr (.inl z)
    ·exact .inr (.inr z)
   obtain ⟨u,r,l⟩:=hl0 j x v ej eσ hv;refine ⟨u,r,?_⟩;rcases l with ⟨z,_⟩ | ⟨_,c,hc,o,ho,hd⟩
   ·have hok':X.env.kindOf x=some .cell\/X.env.kindOf x=some .free:=hok;rw [z] at hok';rcases hok' with y | y <;> cases y
   ·refine .inr ⟨?_,c,?_,o,old c o ho,hd⟩
    ·rw [kind x,hfr];rcases Ce (env:=X.env) (x:=x) with y | y
     ·exact .inl (by rw [Option.map_some,y])
     ·exact .inr (by rw [Option.map_some,y])
    ·show cl.lookup x=some c;have z:=has _ hm rfl;exact z.trans hc
 ·obtain ⟨v,o,ho,hd⟩:=I.cell x c (sub x c e);exact ⟨v,o,old c o ho,hd⟩
 ·show upd H D _ C=none;rw [aO (by rw [eD];exact Nat.ne_of_gt eC)];exact I.hok.fresh (Nat.le_of_lt eC)
 ·show upd H D _ c=none;rw [aO (by rw [eD];exact Nat.ne_of_lt (hcells x c e))];exact I.freeC x c (sub x c e)
 ·exact absurd (show p ∈ ([]:List (Addr × Obj)) from hp) (by simp)
 ·show (mkS own fr σ).length=N'.length;rw [B.eN];simp [mkS]
theorem vB {σ':St} {H':Hp} {s':Shared} (I:Inv X pins σ H s) (f2:∀ b ∈ fp,oI X pins H b) (J:Inv (X.blk sc cl C N' s H fp) [] σ' H' s'):Inv X pins σ H' s' :=
 I.call' (ch:=fp) J.os J.base J.hok J.bare λb hb=>⟨(f2 b hb).2.2.2.1,(f2 b hb).2.1,(f2 b hb).2.2.2.2.1,(f2 b hb).2.2.2.2.2⟩
theorem Inv.young {s0:Shared} {H0:Hp} {σ0:St} {h':Heap} (I0:Inv X pins σ0 H0 s0) (I:Inv X pins σ H s) (hC:s0.heap.objs.size<=C) (hn:H C=none) (hs:Heap.SameBut C s.heap h'):Inv X pins σ H { s with heap:=h' } :=
 I.turned (t':=s.toks) (λb o hb e=>(hs.2 b hb).trans e) hn (Nat.ne_of_gt (Nat.lt_of_lt_of_le I0.lt hC)) (.inr (Nat.le_trans I0.sz hC))
  (λx c e z=>by
   obtain ⟨v,q⟩:=I0.cell x c e;exact absurd (Nat.lt_of_lt_of_le q.lt (by rw [z];exact hC)) (Nat.lt_irrefl _))
  (λp hp z=>absurd (Nat.lt_of_lt_of_le (Heap.lt_size (I0.pin p hp).1) (by rw [z];exact hC)) (Nat.lt_irrefl _))
end
def xV (X:Cx) (ifs:List Expr) (t:TT):Prop :=
 ∀ (pins:List (Addr × Obj)) (s:Shared) (σ:St) (H:Hp) (Q:Bool->Hp->Prop),Inv X pins σ H s->t σ H Q ->
  wpAny (model X.prog X.w) X.A (forIn ifs true λc r=>if r=true then do let ok <- isTrue c X.env (eval c X.env);pure (ForInStep.yield ok) else pure (ForInStep.yield r)) (TP X pins σ Q) X.xe s
def dS:TT:=λ_ H Q=>Q true H
theorem bN:xV X [] dS:=λpins s σ H Q I h=>wpAny_tests_nil ⟨H,I,h⟩
theorem nT {c:Expr} {t:TT} (h:PT X c t):xV X [c] t:=λpins s σ H Q I hw=>wpAny_tests_one (h pins s σ H Q I hw)
section
variable {prog:Program} {w:World} {A:Around} {R:Result->Shared->Prop} {s:Shared}
theorem qm {elt target iter:Expr} {ifs:List Expr} {scope:Scope} {pos:Pos} {it acc:Value} {env:Env} (J:Nat->Shared->Prop)
  (turn:∀ n s,J n s->wpAny (model prog w) A (pyNext it) (λr s₁=>match r with
   | none=>R (.ok .next) s₁
   | some v=>wpAny (model prog w) A (letOwnedTupleGo target it v) (λ_ s₂=>wpAny (model prog w) A (assign target env v) (λ_ s₃ =>
     wpAny (model prog w) A (forIn ifs true λc r=>if r=true then do let ok <- isTrue c env (eval c env);pure (ForInStep.yield ok) else pure (ForInStep.yield r)) (λok s₄ =>
      if ok=true then wpAny (model prog w) A (eval elt env) (λx s₅=>wpAny (model prog w) A (call (.builtin "list.append") [acc,x]) (λ_ s₆=>∃ m,m < n/\J m s₆) (λ_ _=>False) s₅) (λ_ _=>False) s₄
      else ∃ m,m < n/\J m s₄) (λ_ _=>False) s₃) (λ_ _=>False) s₂) (λ_ _=>False) s₁) (λ_ _=>False) s)
  (n:Nat) (h:J n s):codeAny (model prog w) A (.compLoop (.ListComp elt [⟨target,iter,ifs,0⟩] scope pos) 0 it acc env) R s:=by
 refine codeAny_loop rfl J (λn s hJ=>?_) n h;show wpAny (model prog w) A ((compTurn (.ListComp elt [⟨target,iter,ifs,0⟩] scope pos) 0 it acc env).onRaise λx=>do noteFrame x env;theTreesLotGoes x) _ _ s;refine wpAny_noted (wpAny_noRaise ?_);rw [compTurn_list];refine wpAny_bind (wpAny_standAt (wpAny_bind (thn (turn n s hJ) λr s₁ h₁=>?_)))
 cases r with
 | none=>exact wpAny_pure h₁
 | some v =>
  refine wpAny_bind (thn h₁ λ_ s₂ h₂=>wpAny_bind (thn h₂ λ_ s₃ h₃=>wpAny_bind (thn h₃ λok s₄ h₄=>?_)))
  cases ok with
  | false=>exact wpAny_pure ⟨rfl,h₄⟩
  | true=>exact wpAny_bind (wpAny_bind (thn h₄ λx s₅ h₅=>wpAny_bind (thn h₅ λ_ s₆ h₆=>wpAny_pure (wpAny_pure ⟨rfl,h₆⟩))))
end
def fK (wi:TI) (mk:St->St) (g:TG) (tt:TT) (te:TE):TE:=λσ H Q=>wi σ H λJ H1=>∀ D,H1 D=none->∃ W:Nat->Nat->St->Hp->Prop,(∃ m,W 0 m (mk σ) (upd H1 D (.lst [])))/\∀ i m σ' H',W i m σ' H' ->
 (J.stop i H'/\Q (.ref D) H') \/
 (J.go i H'/\∃ Nx:St->Hp->Prop,(∀ σ'' H'',Nx σ'' H''->∃ m',m' < m/\W (i+1) m' σ'' H'')/\∀ x H'',J.yld i H' x H''->g x σ' H'' λσ2 H2=>tt σ2 H2 λb H3 =>
  if b=true then te σ2 H3 λv H4=>∃ ys,H4 D=some (.lst ys)/\ys.length < sizeLine/\Nx σ2 (upd H4 D (.lst (ys++[v]))) else Nx σ2 H3)
section
variable {X:Cx} {elt iter tg:Expr} {ifs:List Expr} {sc:Scope} {pos:Pos} {wi:TI} {own:List Str} {fr:List Nat} {N':List Str} {g:TG} {tt:TT} {te:TE}
theorem sf {pins:List (Addr × Obj)} {σ:St} {H:Hp} {s:Shared} {cl:List (Str × Addr)} {fp:List Addr} {it:Addr} {J:It} {tn:Nat->Heap->Prop} {E:Value->Shared->Prop} {Q:VK} {RR:Value->Addr->Result->Shared->Prop}
  (I:Inv X pins σ H s) (B:Blk X.N X.env.kindOf sc.names own fr N') (hk:sc.kind=.function) (hc:X.calm=true)
  (sub:∀ x c,cl.lookup x=some c->X.env.cells.lookup x=some c) (has:∀ p ∈ sc.names,p.2=.free->cl.lookup p.1=X.env.cells.lookup p.1)
  (T:mD X.prog X.w X.K tg J fp it tn) (st:tn 0 s.heap) (f2:∀ b ∈ fp,oI X pins H b)
  (hg:∀ cl C s H fp,PG (X.blk sc cl C N' s H fp) tg g) (ht:∀ cl C s H fp,xV (X.blk sc cl C N' s H fp) ifs tt) (he:∀ cl C s H fp,PE (X.blk sc cl C N' s H fp) elt te)
  (hw:∀ D,H D=none->∃ W:Nat->Nat->St->Hp->Prop,(∃ m,W 0 m (mkS own fr σ) (upd H D (.lst [])))/\∀ i m σ' H',W i m σ' H' ->
   (J.stop i H'/\Q (.ref D) H') \/
   (J.go i H'/\∃ Nx:St->Hp->Prop,(∀ σ'' H'',Nx σ'' H''->∃ m',m' < m/\W (i+1) m' σ'' H'')/\∀ x H'',J.yld i H' x H''->g x σ' H'' λσ2 H2=>tt σ2 H2 λb H3 =>
    if b=true then te σ2 H3 λv H4=>∃ ys,H4 D=some (.lst ys)/\ys.length < sizeLine/\Nx σ2 (upd H4 D (.lst (ys++[v]))) else Nx σ2 H3))
  (hRR:∀ D C σ' H' s',D=s.heap.objs.size->s.heap.objs.size<=C->Inv (X.blk sc cl C N' s H fp) [] σ' H' s'->Q (.ref D) H'->RR (.ref D) C (.ok .next) s') :
  wpAny (model X.prog X.w) X.A (newList []) (λacc s₃=>wpAny (model X.prog X.w) X.A (newFunctionEnv sc X.env.globals cl [] X.env.qual none .none (some X.env)) (λcenv s₄ =>
   codeAny (model X.prog X.w) X.A (.compStart (.ListComp elt [⟨tg,iter,ifs,0⟩] sc pos) 0 (.ref it) acc { cenv with scope:=relabel sc X.env }) (RR acc cenv.locals) s₄) E s₃) E s:=by
 have fo:∀ b ∈ fp,b < s.heap.objs.size:=λb hb=>by obtain ⟨o,e,_⟩:=T.obj _ _ st b hb;exact Heap.lt_size e
 refine wpAny_newObj_type (wpAny_newFunctionEnv B.cell (by intro y hy;simp at hy) (λh₁ hns₁ hsb₁=>?_) hk);dsimp only at hns₁ hsb₁ ⊢;generalize hH2:s.heap.push { cls:=.type "list",dict:=none,data:=.seq ([]:List Value).toArray }=G at hns₁ hsb₁ ⊢;have hG:G.objs.size=s.heap.objs.size+1:=by rw [<- hH2,Heap.size_push]
 have hlt:s.heap.objs.size < G.objs.size:=by rw [hG];exact Nat.lt_succ_self _
 have old:∀ b o,s.heap.get? b=some o->h₁.get? b=some o:=λb o e =>
  hsb₁.extBut b o (Nat.ne_of_lt (Nat.lt_trans (Heap.lt_size e) hlt)) (Heap.get?_push_of_some _ (hH2 ▸ Heap.get?_push_of_some _ e))
 have hacc:h₁.get? s.heap.objs.size=some { cls:=.type "list",data:=.seq ([]:List Value).toArray } :=
  hsb₁.extBut _ _ (Nat.ne_of_lt hlt) (Heap.get?_push_of_some _ (hH2 ▸ Heap.get?_push_size _ rfl))
 obtain ⟨W,⟨m0,w0⟩,turn⟩:=hw s.heap.objs.size (I.hok.fresh (Nat.le_refl _));have st₁:tn 0 h₁:=T.keep _ _ _ st λb _ o e=>old b o e
 have hns':h₁.Ns G.objs.size (λ_=>none):=by
  have e:(λx=>([]:List (Str × Value)).reverse.lookup x)=(λ_:Str=>(none:Option Value)):=by funext x;rfl
  first
   | exact hns₁
   | (rw [e] at hns₁;exact hns₁)
 have loop:∀ s₃:Shared,s₃={ s with heap:=h₁,toks:=s.toks+([]:List (Str × Value)).length } ->
   codeAny (model X.prog X.w) X.A (.compLoop (.ListComp elt [⟨tg,iter,ifs,0⟩] sc pos) 0 (.ref it) (.ref s.heap.objs.size) (compEnvC sc cl G.objs.size X.env)) (RR (.ref s.heap.objs.size) G.objs.size) s₃:=by
  rintro s₃ rfl;have I0:=wJ (tk:=s.toks+([]:List (Str × Value)).length) I B hk sub has f2 fo rfl hlt hns' old hacc
  have rO:∀ {pins':List (Addr × Obj)} {H':Hp},pins'=[]->(∀ b ∈ fp,H' b=none)->∀ b ∈ fp,oI (X.blk sc cl G.objs.size N' s H fp) pins' H' b:=λep hn b hb=>by
   subst ep;refine ⟨hn b hb,Nat.ne_of_lt (Nat.lt_trans (fo b hb) hlt),λz=>?_,.inl hb,λx c e=>(f2 b hb).2.2.2.2.1 x c (sub x c e),λp hp=>absurd (show p ∈ ([]:List (Addr × Obj)) from hp) (by simp)⟩;rcases List.mem_cons.mp (I.stkSub b z) with e | e
   ·exact (f2 b hb).2.1 e
   ·exact (f2 b hb).2.2.1 e
  have fr0:∀ b ∈ fp,upd H s.heap.objs.size (.lst []) b=none:=λb hb=>by rw [aO (Nat.ne_of_lt (fo b hb))];exact (f2 b hb).1
  refine qm (λn s'=>∃ i σ' H',Inv (X.blk sc cl G.objs.size N' s H fp) [] σ' H' s'/\tn i s'.heap/\(∀ b ∈ fp,H' b=none)/\W i n σ' H') ?_ m0 ⟨0,_,_,I0,st₁,fr0,w0⟩;rintro n s3 ⟨i,σ3,H3,I3,st3,fr3,w3⟩;rcases turn i n σ3 H3 w3 with ⟨stop,qn⟩ | ⟨go,Nx,hN,step⟩
  ·refine thn (T.done (X.blk sc cl G.objs.size N' s H fp) rfl rfl rfl hc i [] s3 σ3 H3 _ I3 (rO rfl fr3) st3 stop) λr s4 ⟨hr,I4⟩=>?_;subst hr;exact hRR _ _ _ _ _ rfl (Nat.le_of_lt hlt) I4 qn
  ·refine thn (T.item (X.blk sc cl G.objs.size N' s H fp) rfl rfl rfl hc i [] s3 σ3 H3 _ I3 (rO rfl fr3) st3 go) λr s4 ⟨u,hr,h4⟩=>?_;subst hr;refine thn h4 λ_ s5 ⟨x,H5,I5,r5,y5,st5,fr5⟩=>?_;have I5':=I5.pinned (rO rfl fr5) (T.obj _ _ st5);refine thn (hg cl G.objs.size s H fp _ s5 σ3 H5 x u _ I5' r5 (step x H5 y5)) λ_ s6 ⟨σ6,H6,I6,q6⟩=>?_;refine thn (ht cl G.objs.size s H fp _ s6 σ6 H6 _ I6 q6) λok s7 ⟨H7,I7,q7⟩=>?_
   have again:∀ {s8:Shared} {H8:Hp},Inv (X.blk sc cl G.objs.size N' s H fp) ([]++nU fp s5.heap) σ6 H8 s8->Nx σ6 H8 ->
     ∃ m,m < n/\∃ i σ' H',Inv (X.blk sc cl G.objs.size N' s H fp) [] σ' H' s8/\tn i s8.heap/\(∀ b ∈ fp,H' b=none)/\W i m σ' H':=λ{s8 H8} I8 n8=>by
    obtain ⟨m',hm,w8⟩:=hN σ6 H8 n8;refine ⟨m',hm,i+1,σ6,H8,I8.unpinned,T.keep _ _ _ st5 λb hb o e=>(I8.pin (b,o) (List.mem_append_right _ (List.mem_append_right _ (iD hb e)))).1,λb hb=>?_,w8⟩;obtain ⟨o,e,d⟩:=T.obj _ _ st5 b hb;exact (I8.pin (b,o) (List.mem_append_right _ (List.mem_append_right _ (iD hb e)))).2.1
   cases ok with
   | false =>rw [if_neg Bool.false_ne_true] at q7 ⊢;exact again I7 q7
   | true =>rw [if_pos rfl] at q7 ⊢;refine thn (he cl G.objs.size s H fp _ s7 σ6 H7 _ I7 q7) λy s8 ⟨v,H8,I8,rv,ys,hD8,hz,nx⟩=>?_;refine thn (br (X:=X.blk sc cl G.objs.size N' s H fp) _ s8 σ6 H8 (.ref s.heap.objs.size) [v] (.ref s.heap.objs.size) [y] (λ_ H9=>Nx σ6 H9) I8 rfl (.cons rv .nil) ⟨_,ys,v,rfl,rfl,hD8,hz,nx⟩) λ_ s9 ⟨_,H9,I9,_,n9⟩=>?_;exact again I9 n9
 exact codeAny_compStart_list (loop _ rfl) (T.self _ 0 _ _ _ st₁ (loop _ rfl))
theorem cq (hi:PI X tg iter wi) (hk:sc.kind=.function) (hb:bW X.N X.env.kindOf sc.names own fr N'=true) (hc:X.calm=true)
  (hg:∀ cl C s H fp,PG (X.blk sc cl C N' s H fp) tg g) (ht:∀ cl C s H fp,xV (X.blk sc cl C N' s H fp) ifs tt) (he:∀ cl C s H fp,PE (X.blk sc cl C N' s H fp) elt te)
  (hs:∀ x,foldedSetIterable iter X.env x=pure x:=by intro _;rfl):PE X (.ListComp elt [⟨tg,iter,ifs,0⟩] sc pos) (fK wi (mkS own fr) g tt te):=by
 intro pins s σ H Q I h;have B:=yj hb;obtain ⟨cl,hcl,sub,has⟩:=Ey sc X.env λp hp e=>I.ok.has p.1 (B.free p hp e);rw [eval_ListComp];refine wpAny_comprehension_free (use:=none) rfl hs hcl hk B.loc (thn (hi pins s σ H _ I h) λv s1 h1=>thn h1 λitv s2 h2=>?_);obtain ⟨it,fp,tn,J,H2,e,I2,T,st2,f2,body⟩:=h2;subst e;refine sf (RR:=λacc C=>compPost (model X.prog X.w) X.A X.xe none (EP X pins σ Q) acc C) I2 B hk hc sub has T st2 f2 hg ht he body ?_;intro D C σ' H' s' eD hC J' q;obtain ⟨m,hn,_⟩:=J'.loc;refine ⟨m,hn,λh' hs'=>⟨.ref D,H',?_,rfl,q⟩⟩;exact Inv.young I2 (vB I2 f2 J') hC J'.free hs'
theorem gO {i:Nat} {y:Str} {py spos:Pos} (hi:PI X tg iter wi) (hk:sc.kind=.function) (hb:bW X.N X.env.kindOf sc.names own fr N'=true) (hc:X.calm=true)
  (hg:∀ cl C s H fp,PG (X.blk sc cl C N' s H fp) tg g) (ht:∀ cl C s H fp,xV (X.blk sc cl C N' s H fp) ifs tt) (he:∀ cl C s H fp,PE (X.blk sc cl C N' s H fp) elt te)
  (hN:X.N.Nodup) (hy:X.N[i]?=some y) (hx:X.env.scope.names.lookup y=some .local)
  (hsw:swapsWith (.ListComp elt [⟨tg,iter,ifs,0⟩] sc pos) (some (.Name y py)) spos.line X.env=pure true)
  (hs:∀ x,foldedSetIterable iter X.env x=pure x:=by intro _;rfl):PS X (.Assign [.Name y py] (.ListComp elt [⟨tg,iter,ifs,0⟩] sc pos) spos) (oW (fK wi (mkS own fr) g tt te) (bX i)):=by
 intro pins s σ H D I h;have B:=yj hb;obtain ⟨cl,hcl,sub,has⟩:=Ey sc X.env λp hp e=>I.ok.has p.1 (B.free p hp e);rw [exec_Assign_Name_used _ _ _ _ hsw];refine wpAny_bind (wpAny_standAt (wpAny_bind ?_));show wpAny _ _ (do let _ <- comprehension (.ListComp elt [⟨tg,iter,ifs,0⟩] sc pos) sc X.env _ (newList []) false (eval iter X.env) (some (assign (.Name y py) X.env))) _ _ s
 refine wpAny_bind (wpAny_mono (wpAny_comprehension_free (use:=some (assign (.Name y py) X.env)) (Q:=λ_ s'=>SP X pins D .next s') rfl hs hcl hk B.loc
  (thn (hi pins s σ H _ I h) λv s1 h1=>thn h1 λitv s2 h2=>?_)) (λ_ s' hq=>wpAny_pure (wpAny_pure hq)) λ_ _ e=>e)
 obtain ⟨it,fp,tn,J,H2,e,I2,T,st2,f2,body⟩:=h2;subst e;refine sf (Q:=λv H'=>D.nx (σ.set i (some v)) H') (RR:=λacc C=>compPost (model X.prog X.w) X.A X.xe (some (assign (.Name y py) X.env)) (λ_ s'=>SP X pins D .next s') acc C) I2 B hk hc sub has T st2 f2 hg ht he body ?_;intro D' C σ' H' s' eD hC J' q;have I3:=vB I2 f2 J';show wpAny _ _ (assign (.Name y py) X.env (.ref D')) _ _ s';refine wpAny_assign_Name (pW I3 hN hy (.inl hx) (v:=.ref D') rfl (λs4 I4 ⟨a,hsb,ha⟩=>?_) (.inr hx));obtain ⟨m,hn,_⟩:=J'.loc
 have hCa:C≠a:=by
  rcases ha with e | e
  ·rw [e];exact Nat.ne_of_gt (Nat.lt_of_lt_of_le I2.lt hC)
  ·obtain ⟨v,z⟩:=I2.cell _ _ e;exact Nat.ne_of_gt (Nat.lt_of_lt_of_le z.lt hC)
 refine ⟨m,hn.sameBut hsb hCa,λh' hs'=>⟨_,H',?_,q⟩⟩;exact Inv.young I2 I4 hC J'.free hs'
end
inductive D where
 | non | bl (b:Bool) | int (i:Int) | str (x:Str) | tup (ds:List D)
 | lst
mutual
def Dat (K:W.Frag) (H:Hp):D->V->Prop
 | .non,v=>v=.non
 | .bl b,v=>v=.bl b
 | .int i,v=>v=.int i
 | .str x,v=>v=.str x
 | .tup ds,v=>∃ a vs,v=.ref a/\SqT K H a vs/\Dats K H ds vs
 | .lst,v=>∃ a vs,v=.ref a/\SqL K H a vs
def Dats (K:W.Frag) (H:Hp):List D->List V->Prop
 | [],vs=>vs=[]
 | d::ds,vs=>∃ v r,vs=v::r/\Dat K H d v/\Dats K H ds r
end
section
variable {K:W.Frag} {H H':Hp}
variable {a:Addr} {vs:List V} {ds:List D}
theorem Dat.tupI (h:SqT K H a vs) (r:Dats K H ds vs):Dat K H (.tup ds) (.ref a):=by unfold Dat;exact ⟨a,vs,rfl,h,r⟩
theorem Dats.nil:Dats K H [] []:=by unfold Dats;rfl
variable {d:D} {v:V}
theorem Dats.cons (h:Dat K H d v) (r:Dats K H ds vs):Dats K H (d::ds) (v::vs):=by unfold Dats;exact ⟨v,vs,rfl,h,r⟩
theorem Dat.intI (i:Int):Dat K H (.int i) (.int i):=by unfold Dat;rfl
theorem Dat.strI (x:Str):Dat K H (.str x) (.str x):=by unfold Dat;rfl
theorem Dat.blI (b:Bool):Dat K H (.bl b) (.bl b):=by unfold Dat;rfl
theorem Dat.nonI:Dat K H .non .non:=by unfold Dat;rfl
theorem Dat.lstI (h:SqL K H a vs):Dat K H .lst (.ref a):=by unfold Dat;exact ⟨a,vs,rfl,h⟩
theorem Dat.tupE (h:Dat K H (.tup ds) v):∃ a vs,v=.ref a/\SqT K H a vs/\Dats K H ds vs:=by unfold Dat at h;exact h
theorem Dat.intE {i:Int} (h:Dat K H (.int i) v):v=.int i:=by unfold Dat at h;exact h
theorem Dat.strE {x:Str} (h:Dat K H (.str x) v):v=.str x:=by unfold Dat at h;exact h
theorem Dat.blE {b:Bool} (h:Dat K H (.bl b) v):v=.bl b:=by unfold Dat at h;exact h
theorem Dat.nonE (h:Dat K H .non v):v=.non:=by unfold Dat at h;exact h
theorem Dat.lstE (h:Dat K H .lst v):∃ a vs,v=.ref a/\SqL K H a vs:=by unfold Dat at h;exact h
theorem Dats.nilE (h:Dats K H [] vs):vs=[]:=by unfold Dats at h;exact h
theorem Dats.consE (h:Dats K H (d::ds) vs):∃ v r,vs=v::r/\Dat K H d v/\Dats K H ds r:=by unfold Dats at h;exact h
structure dH (K:W.Frag) (H H':Hp):Prop where
 tup:∀ a xs,SqT K H a xs->SqT K H' a xs
 lst:∀ a xs,SqL K H a xs->∃ ys,SqL K H' a ys
mutual
theorem Dat.mono (g:dH K H H'):∀ (d:D) {v:V},Dat K H d v->Dat K H' d v
 | .non,v,h=>by unfold Dat at h ⊢;exact h
 | .bl b,v,h=>by unfold Dat at h ⊢;exact h
 | .int i,v,h=>by unfold Dat at h ⊢;exact h
 | .str x,v,h=>by unfold Dat at h ⊢;exact h
 | .tup ds,v,h=>by obtain ⟨a,vs,e,q,r⟩:=h.tupE;subst e;exact Dat.tupI (g.tup _ _ q) (Dats.mono g ds r)
 | .lst,v,h=>by obtain ⟨a,vs,e,q⟩:=h.lstE;subst e;obtain ⟨ys,q'⟩:=g.lst _ _ q;exact Dat.lstI q'
theorem Dats.mono (g:dH K H H'):∀ (ds:List D) {vs:List V},Dats K H ds vs->Dats K H' ds vs
 | [],vs,h=>by unfold Dats at h ⊢;exact h
 | d::ds,vs,h=>by obtain ⟨v,r,e,h1,h2⟩:=h.consE;subst e;exact Dats.cons (Dat.mono g d h1) (Dats.mono g ds h2)
end
theorem Dats.length:∀ {ds:List D} {vs:List V},Dats K H ds vs->ds.length=vs.length
 | [],vs,h=>by rw [h.nilE];rfl
 | d::ds,vs,h=>by obtain ⟨v,r,e,h1,h2⟩:=h.consE;subst e;rw [List.length_cons,List.length_cons,Dats.length h2]
theorem Dats.get:∀ {ds:List D} {vs:List V} {i:Nat} {d:D},Dats K H ds vs->ds[i]?=some d->∃ v,vs[i]?=some v/\Dat K H d v
 | [],_,i,d,_,e=>by simp at e
 | d0::ds,vs,0,d,h,e=>by obtain ⟨v,r,e1,h1,h2⟩:=h.consE;subst e1;simp at e;subst e;exact ⟨v,rfl,h1⟩
 | d0::ds,vs,i+1,d,h,e=>by obtain ⟨v,r,e1,h1,h2⟩:=h.consE;subst e1;obtain ⟨u,q1,q2⟩:=Dats.get (i:=i) (d:=d) h2 (by simpa using e);exact ⟨u,by simpa using q1,q2⟩
theorem Dats.getV:∀ {ds:List D} {vs:List V} {i:Nat} {v:V},Dats K H ds vs->vs[i]?=some v->∃ d,ds[i]?=some d/\Dat K H d v
 | [],vs,i,v,h,e=>by rw [h.nilE] at e;simp at e
 | d0::ds,vs,0,v,h,e=>by obtain ⟨u,r,e1,h1,h2⟩:=h.consE;subst e1;simp at e;subst e;exact ⟨d0,rfl,h1⟩
 | d0::ds,vs,i+1,v,h,e=>by obtain ⟨u,r,e1,h1,h2⟩:=h.consE;subst e1;obtain ⟨d,q1,q2⟩:=Dats.getV (i:=i) (v:=v) h2 (by simpa using e);exact ⟨d,by simpa using q1,q2⟩
theorem Dats.append:∀ {ds es:List D} {vs us:List V},Dats K H ds vs->Dats K H es us->Dats K H (ds++es) (vs++us)
 | [],es,vs,us,h,h'=>by rw [h.nilE];exact h'
 | d::ds,es,vs,us,h,h'=>by obtain ⟨v,r,e,h1,h2⟩:=h.consE;subst e;exact Dats.cons h1 (Dats.append h2 h')
end
mutual
def eqD:D->D->Bool
 | .non,.non=>true
 | .bl a,.bl b=>a == b
 | .int a,.int b=>a == b
 | .bl a,.int b=>(if a then 1 else 0) == b
 | .int a,.bl b=>a == (if b then 1 else 0)
 | .str a,.str b=>a == b
 | .tup a,.tup b=>eqDs a b
 | _,_=>false
def eqDs:List D->List D->Bool
 | [],[]=>true
 | a::r,b::q=>eqD a b && eqDs r q
 | _,_=>false
end
mutual
def eO:D->Nat
 | .tup ds=>deepDs ds+1
 | _=>0
def deepDs:List D->Nat
 | []=>0
 | d::ds=>max (eO d) (deepDs ds)
end
mutual
def noL:D->Bool
 | .tup ds=>noLs ds
 | .lst=>false
 | _=>true
def noLs:List D->Bool
 | []=>true
 | d::ds=>noL d && noLs ds
end
def eAt (a b:List D) (j:Nat):Bool:=match a[j]?,b[j]? with
 | some x,some y=>eqD x y
 | _,_=>false
theorem mT (n:Nat) (e:Nat->Bool):(List.range (n+1)).all e=(e 0 && (List.range n).all λj=>e (j+1)):=by rw [List.range_succ_eq_map,List.all_cons,List.all_map];rfl
theorem iC:∀ a b:List D,((List.range (min a.length b.length)).all (eAt a b) && a.length == b.length)=eqDs a b
 | [],[]=>by unfold eqDs;rfl
 | [],y::b=>by unfold eqDs;simp
 | x::a,[]=>by unfold eqDs;simp
 | x::a,y::b=>by
  have ih:=iC a b;unfold eqDs;rw [<- ih,List.length_cons,List.length_cons,Nat.succ_min_succ,mT];have e0:eAt (x::a) (y::b) 0=eqD x y:=rfl
  have e1:(λj=>eAt (x::a) (y::b) (j+1))=eAt a b:=by
   funext j
   simp [eAt]
  rw [e0,e1,Bool.and_assoc];congr 2;simp
theorem sr {a b:List D} (h:a.length=b.length):(List.range a.length).all (eAt a b)=eqDs a b:=by have q:=iC a b;rw [<- h,Nat.min_self] at q;rw [<- q];simp
mutual
theorem i4:∀ d:D,noL d=true->eqD d d=true
 | .non,_=>by unfold eqD;rfl
 | .bl b,_=>by unfold eqD;simp
 | .int i,_=>by unfold eqD;simp
 | .str x,_=>by unfold eqD;simp
 | .tup ds,h=>by unfold eqD;unfold noL at h;exact eqDs_refl ds h
 | .lst,h=>by unfold noL at h;cases h
theorem eqDs_refl:∀ ds:List D,noLs ds=true->eqDs ds ds=true
 | [],_=>by unfold eqDs;rfl
 | d::ds,h=>by unfold noLs at h;rw [Bool.and_eq_true] at h;unfold eqDs;rw [i4 d h.1,eqDs_refl ds h.2];rfl
end
section
variable {X:Cx} {pins:List (Addr × Obj)} {σ:St} {H:Hp} {s:Shared}
mutual
theorem qr (I:Inv X pins σ H s):∀ (d e:D) {v:V},noL d=true->Dat X.K H d v->Dat X.K H e v->noL e=true->d=e
 | .non,e,v,hn,h,h',hn'=>by
  have z:=h.nonE;subst z
  cases e with
  | non=>rfl
  | bl b=>exact nomatch h'.blE
  | int i=>exact nomatch h'.intE
  | str x=>exact nomatch h'.strE
  | tup ds=>obtain ⟨_,_,q,_⟩:=h'.tupE;exact nomatch q
  | lst=>obtain ⟨_,_,q,_⟩:=h'.lstE;exact nomatch q
 | .bl b,e,v,hn,h,h',hn'=>by
  have z:=h.blE;subst z
  cases e with
  | non=>exact nomatch h'.nonE
  | bl c=>have q:=h'.blE;injection q with q;rw [q]
  | int i=>exact nomatch h'.intE
  | str x=>exact nomatch h'.strE
  | tup ds=>obtain ⟨_,_,q,_⟩:=h'.tupE;exact nomatch q
  | lst=>obtain ⟨_,_,q,_⟩:=h'.lstE;exact nomatch q
 | .int i,e,v,hn,h,h',hn'=>by
  have z:=h.intE;subst z
  cases e with
  | non=>exact nomatch h'.nonE
  | bl c=>exact nomatch h'.blE
  | int j=>have q:=h'.intE;injection q with q;rw [q]
  | str x=>exact nomatch h'.strE
  | tup ds=>obtain ⟨_,_,q,_⟩:=h'.tupE;exact nomatch q
  | lst=>obtain ⟨_,_,q,_⟩:=h'.lstE;exact nomatch q
 | .str x,e,v,hn,h,h',hn'=>by
  have z:=h.strE;subst z
  cases e with
  | non=>exact nomatch h'.nonE
  | bl c=>exact nomatch h'.blE
  | int j=>exact nomatch h'.intE
  | str y=>have q:=h'.strE;injection q with q;rw [q]
  | tup ds=>obtain ⟨_,_,q,_⟩:=h'.tupE;exact nomatch q
  | lst=>obtain ⟨_,_,q,_⟩:=h'.lstE;exact nomatch q
 | .tup ds,e,v,hn,h,h',hn'=>by
  obtain ⟨a,vs,z,q,r⟩:=h.tupE;subst z
  cases e with
  | non=>exact nomatch h'.nonE
  | bl c=>exact nomatch h'.blE
  | int j=>exact nomatch h'.intE
  | str y=>exact nomatch h'.strE
  | tup es =>obtain ⟨a',vs',z,q',r'⟩:=h'.tupE;cases z;have ev:=I.tuple_inj q q';subst ev;unfold noL at hn hn';rw [dats_inj I ds es hn r r' hn']
  | lst=>unfold noL at hn';cases hn'
 | .lst,e,v,hn,h,h',hn'=>by unfold noL at hn;cases hn
theorem dats_inj (I:Inv X pins σ H s):∀ (ds es:List D) {vs:List V},noLs ds=true->Dats X.K H ds vs->Dats X.K H es vs->noLs es=true->ds=es
 | [],es,vs,_,h,h',_=>by
  have z:=h.nilE;subst z
  cases es with
  | nil=>rfl
  | cons e es=>obtain ⟨_,_,q,_⟩:=h'.consE;exact nomatch q
 | d::ds,es,vs,hn,h,h',hn'=>by
  obtain ⟨v,r,z,h1,h2⟩:=h.consE;subst z
  cases es with
  | nil=>exact nomatch h'.nilE
  | cons e es =>obtain ⟨v',r',z,h1',h2'⟩:=h'.consE;injection z with z1 z2;subst z1 z2;unfold noLs at hn hn';rw [Bool.and_eq_true] at hn hn';rw [qr I d e hn.1 h1 h1' hn'.1,dats_inj I ds es hn.2 h2 h2' hn'.2]
end
end
theorem lg (A:Around):A.in1.units=A.units+1:=rfl
section
variable {X:Cx} {pins:List (Addr × Obj)} {σ:St} {H:Hp} {s:Shared}
theorem jW:∀ {ds:List D} {j:Nat} {d:D},ds[j]?=some d->eO d<=deepDs ds
 | [],_,_,e=>by simp at e
 | d0::ds,0,d,e=>by simp at e;subst e;unfold deepDs;exact Nat.le_max_left _ _
 | d0::ds,j+1,d,e=>by have q:=jW (ds:=ds) (j:=j) (d:=d) (by simpa using e);unfold deepDs;exact Nat.le_trans q (Nat.le_max_right _ _)
theorem iq:∀ {ds:List D} {j:Nat} {d:D},noLs ds=true->ds[j]?=some d->noL d=true
 | [],_,_,_,e=>by simp at e
 | d0::ds,0,d,h,e=>by simp at e;subst e;unfold noLs at h;rw [Bool.and_eq_true] at h;exact h.1
 | d0::ds,j+1,d,h,e=>by unfold noLs at h;rw [Bool.and_eq_true] at h;exact iq (ds:=ds) (j:=j) (d:=d) h.2 (by simpa using e)
variable {A:Around} {ds es:List D} {xs ys:List V}
theorem m4 {us ws:List Value} (n:Nat)
  (all:∀ (d e:D) (x y:V) (u w:Value),eO d<=n->noL d=true->noL e=true->Dat X.K H d x->Dat X.K H e y->RelV x u->RelV y w->SeqAt.EqAt A s u w (eqD d e))
  (hn:deepDs ds<=n) (h1:noLs ds=true) (h2:noLs es=true) (r1:Dats X.K H ds xs) (r2:Dats X.K H es ys) (v1:Vals xs us) (v2:Vals ys ws) :
  ∀ j (k1:j < us.toArray.size) (k2:j < ws.toArray.size),SeqAt.EqAt A s us.toArray[j] ws.toArray[j] (eAt ds es j):=by
 intro j k1 k2;have l1:j < xs.length:=by rw [v1.length];simpa using k1
 have l2:j < ys.length:=by rw [v2.length];simpa using k2
 obtain ⟨u,eu,ru⟩:=v1.get (i:=j) (x:=xs[j]) (List.getElem?_eq_getElem l1);obtain ⟨w,ew,rw'⟩:=v2.get (i:=j) (x:=ys[j]) (List.getElem?_eq_getElem l2);obtain ⟨d,ed,qd⟩:=r1.getV (i:=j) (v:=xs[j]) (List.getElem?_eq_getElem l1);obtain ⟨e,ee,qe⟩:=r2.getV (i:=j) (v:=ys[j]) (List.getElem?_eq_getElem l2)
 have z1:us.toArray[j]=u:=by
  have:us[j]?=some u:=eu;have k1':j < us.length:=by simpa using k1
  rw [List.getElem?_eq_getElem k1'] at this;simpa using Option.some.inj this
 have z2:ws.toArray[j]=w:=by
  have:ws[j]?=some w:=ew;have k2':j < ws.length:=by simpa using k2
  rw [List.getElem?_eq_getElem k2'] at this;simpa using Option.some.inj this
 have z3:eAt ds es j=eqD d e:=by unfold eAt;rw [ed,ee]
 rw [z1,z2,z3];exact all d e _ _ u w (Nat.le_trans (jW ed) hn) (iq h1 ed) (iq h2 ee) qd qe ru rw'
theorem tO {a b:Addr} (I:Inv X pins σ H s) (hu:A.units < cLine) (n:Nat)
  (all:∀ (d e:D) (x y:V) (u w:Value),eO d<=n->noL d=true->noL e=true->Dat X.K H d x->Dat X.K H e y->RelV x u->RelV y w->SeqAt.EqAt A.in1 s u w (eqD d e))
  (hn:deepDs ds<=n) (h1:noLs ds=true) (h2:noLs es=true) (r1:Dats X.K H ds xs) (r2:Dats X.K H es ys) (q1:SqT X.K H a xs) (q2:SqT X.K H b ys) :
  SeqAt.RcAt A s (.ref a) (.ref b) (eqDs ds es)/\SeqAt.RcNeAt A s (.ref a) (.ref b) (!eqDs ds es):=by
 obtain ⟨us,v1,t1,_⟩:=I.tuple q1;obtain ⟨ws,v2,t2,_⟩:=I.tuple q2;have hi:=m4 (X:=X) (H:=H) (s:=s) n all hn h1 h2 r1 r2 v1 v2;have p:=SeqAt.RcAt.tuples (show s.heap.IsTuple a us.toArray from t1) (show s.heap.IsTuple b ws.toArray from t2) hu hi;have p':=SeqAt.RcNeAt.tuples (show s.heap.IsTuple a us.toArray from t1) (show s.heap.IsTuple b ws.toArray from t2) hu hi;have e1:us.toArray.size=ds.length:=by rw [List.size_toArray,<- v1.length,r1.length]
 have e2:ws.toArray.size=es.length:=by rw [List.size_toArray,<- v2.length,r2.length]
 rw [e1,e2,iC] at p p';exact ⟨p,p'⟩
theorem ur (I:Inv X pins σ H s):∀ (n:Nat) (A:Around) (d e:D) (x y:V) (u w:Value),A.units+n+1 < cLine->eO d<=n->noL d=true->noL e=true->Dat X.K H d x->Dat X.K H e y->RelV x u->RelV y w->SeqAt.EqAt A s u w (eqD d e):=by
 intro n
 induction n with
 | zero =>
  intro A d e x y u w hu hn h1 h2 q1 q2 r1 r2
  exact base I A d e x y u w (by omega) h1 h2 q1 q2 r1 r2 λds es a b xs ys ed ee=>by subst ed;unfold eO at hn;omega
 | succ n ih =>intro A d e x y u w hu hn h1 h2 q1 q2 r1 r2;refine base I A d e x y u w (by omega) h1 h2 q1 q2 r1 r2 λds es a b xs ys ed ee t1 t2 s1 s2 hne=>?_;subst ed ee;unfold eO at hn;unfold noL at h1 h2;have p:=(tO (A:=A) (ds:=ds) (es:=es) I (by omega) n (λd e x y u w k1 k2 k3 k4 k5 k6 k7=>ih A.in1 d e x y u w (by rw [lg];omega) k1 k2 k3 k4 k5 k6 k7) (by omega) h1 h2 t1 t2 s1 s2).1;unfold eqD;exact .of_refs hne p
where
 base (I:Inv X pins σ H s) (A:Around) (d e:D) (x y:V) (u w:Value) (hu:A.units < cLine) (h1:noL d=true) (h2:noL e=true) (q1:Dat X.K H d x) (q2:Dat X.K H e y) (r1:RelV x u) (r2:RelV y w)
   (tt:∀ (ds es:List D) (a b:Addr) (xs ys:List V),d=.tup ds->e=.tup es->Dats X.K H ds xs->Dats X.K H es ys->SqT X.K H a xs->SqT X.K H b ys->a≠b->SeqAt.EqAt A s (.ref a) (.ref b) (eqD (.tup ds) (.tup es))) :
   SeqAt.EqAt A s u w (eqD d e):=by
  cases d with
  | lst=>unfold noL at h1;cases h1
  | non =>
   have z:=q1.nonE;subst z;cases r1
   cases e with
   | lst=>unfold noL at h2;cases h2
   | non=>have z:=q2.nonE;subst z;cases r2;unfold eqD;exact SeqAt.EqAt.same _
   | bl b=>have z:=q2.blE;subst z;cases r2;unfold eqD;exact SeqAt.EqAt.none_bool b
   | int i=>have z:=q2.intE;subst z;obtain ⟨t,rfl⟩:=r2;unfold eqD;exact SeqAt.EqAt.none_int i t
   | str i=>have z:=q2.strE;subst z;obtain ⟨t,rfl⟩:=r2;unfold eqD;exact SeqAt.EqAt.none_str i t
   | tup es=>obtain ⟨b,ys,z,s2,t2⟩:=q2.tupE;subst z;cases r2;obtain ⟨ws,v2,p2,_⟩:=I.tuple s2;unfold eqD;exact SeqAt.EqAt.none_tuple (show s.heap.IsTuple b ws.toArray from p2) hu
  | bl c =>
   have z:=q1.blE;subst z;cases r1
   cases e with
   | lst=>unfold noL at h2;cases h2
   | non=>have z:=q2.nonE;subst z;cases r2;unfold eqD;exact SeqAt.EqAt.bool_none c
   | bl b=>have z:=q2.blE;subst z;cases r2;unfold eqD;exact SeqAt.EqAt.bool_bool c b
   | int i=>have z:=q2.intE;subst z;obtain ⟨t,rfl⟩:=r2;unfold eqD;exact SeqAt.EqAt.bool_int c i t
   | str i=>have z:=q2.strE;subst z;obtain ⟨t,rfl⟩:=r2;unfold eqD;exact SeqAt.EqAt.bool_str c i t
   | tup es=>obtain ⟨b,ys,z,s2,t2⟩:=q2.tupE;subst z;cases r2;obtain ⟨ws,v2,p2,_⟩:=I.tuple s2;unfold eqD;exact SeqAt.EqAt.bool_tuple c (show s.heap.IsTuple b ws.toArray from p2) hu
  | int c =>
   have z:=q1.intE;subst z;obtain ⟨tc,rfl⟩:=r1
   cases e with
   | lst=>unfold noL at h2;cases h2
   | non=>have z:=q2.nonE;subst z;cases r2;unfold eqD;exact SeqAt.EqAt.int_none c tc
   | bl b=>have z:=q2.blE;subst z;cases r2;unfold eqD;exact SeqAt.EqAt.int_bool c tc b
   | int i=>have z:=q2.intE;subst z;obtain ⟨t,rfl⟩:=r2;unfold eqD;exact SeqAt.EqAt.int_int c tc i t
   | str i=>have z:=q2.strE;subst z;obtain ⟨t,rfl⟩:=r2;unfold eqD;exact SeqAt.EqAt.int_str c tc i t
   | tup es=>obtain ⟨b,ys,z,s2,t2⟩:=q2.tupE;subst z;cases r2;obtain ⟨ws,v2,p2,_⟩:=I.tuple s2;unfold eqD;exact SeqAt.EqAt.int_tuple c tc (show s.heap.IsTuple b ws.toArray from p2) hu
  | str c =>
   have z:=q1.strE;subst z;obtain ⟨tc,rfl⟩:=r1
   cases e with
   | lst=>unfold noL at h2;cases h2
   | non=>have z:=q2.nonE;subst z;cases r2;unfold eqD;exact SeqAt.EqAt.str_none c tc
   | bl b=>have z:=q2.blE;subst z;cases r2;unfold eqD;exact SeqAt.EqAt.str_bool c tc b
   | int i=>have z:=q2.intE;subst z;obtain ⟨t,rfl⟩:=r2;unfold eqD;exact SeqAt.EqAt.str_int c tc i t
   | str i=>have z:=q2.strE;subst z;obtain ⟨t,rfl⟩:=r2;unfold eqD;exact SeqAt.EqAt.str_str c tc i t
   | tup es=>obtain ⟨b,ys,z,s2,t2⟩:=q2.tupE;subst z;cases r2;obtain ⟨ws,v2,p2,_⟩:=I.tuple s2;unfold eqD;exact SeqAt.EqAt.str_tuple c tc (show s.heap.IsTuple b ws.toArray from p2) hu
  | tup ds =>
   have q1':=q1
   obtain ⟨a,xs,z,s1,t1⟩:=q1.tupE;subst z;cases r1;obtain ⟨us,v1,p1,_⟩:=I.tuple s1
   have p1':s.heap.IsTuple a us.toArray:=p1
   cases e with
   | lst=>unfold noL at h2;cases h2
   | non=>have z:=q2.nonE;subst z;cases r2;unfold eqD;exact SeqAt.EqAt.tuple_none p1' hu
   | bl b=>have z:=q2.blE;subst z;cases r2;unfold eqD;exact SeqAt.EqAt.tuple_bool b p1' hu
   | int i=>have z:=q2.intE;subst z;obtain ⟨t,rfl⟩:=r2;unfold eqD;exact SeqAt.EqAt.tuple_int i t p1' hu
   | str i=>have z:=q2.strE;subst z;obtain ⟨t,rfl⟩:=r2;unfold eqD;exact SeqAt.EqAt.tuple_str i t p1' hu
   | tup es =>
    have q2':=q2
    obtain ⟨b,ys,z,s2,t2⟩:=q2.tupE;subst z;cases r2
    by_cases hab:a=b
    ·subst hab
     have ee:=qr I (.tup ds) (.tup es) h1 q1' q2' h2
     rw [<- ee,i4 _ h1]
     exact SeqAt.EqAt.same _
    ·exact tt ds es a b xs ys rfl rfl t1 t2 s1 s2 hab
theorem EW (I:Inv X pins σ H s) (n:Nat) (A:Around) (d e:D) (x y:V) (u w:Value) (hu:A.units+n+2 < cLine) (hn:eO d<=n+1) (h1:noL d=true) (h2:noL e=true) (q1:Dat X.K H d x) (q2:Dat X.K H e y) (r1:RelV x u) (r2:RelV y w) :
  SeqAt.RcAt A s u w (eqD d e)/\SeqAt.RcNeAt A s u w (!eqD d e):=by
 have hu':A.units < cLine:=by omega
 cases d with
 | lst=>unfold noL at h1;cases h1
 | non =>
  have z:=q1.nonE;subst z;cases r1
  cases e with
  | lst=>unfold noL at h2;cases h2
  | non=>have z:=q2.nonE;subst z;cases r2;unfold eqD;exact ⟨SeqAt.RcAt.none_none,SeqAt.RcNeAt.none_none⟩
  | bl b=>have z:=q2.blE;subst z;cases r2;unfold eqD;exact ⟨SeqAt.RcAt.none_bool b,SeqAt.RcNeAt.none_bool b⟩
  | int i=>have z:=q2.intE;subst z;obtain ⟨t,rfl⟩:=r2;unfold eqD;exact ⟨SeqAt.RcAt.none_int i t,SeqAt.RcNeAt.none_int i t⟩
  | str i=>have z:=q2.strE;subst z;obtain ⟨t,rfl⟩:=r2;unfold eqD;exact ⟨SeqAt.RcAt.none_str i t,SeqAt.RcNeAt.none_str i t⟩
  | tup es=>obtain ⟨b,ys,z,s2,t2⟩:=q2.tupE;subst z;cases r2;obtain ⟨ws,v2,p2,_⟩:=I.tuple s2;unfold eqD;exact ⟨SeqAt.RcAt.none_tuple (show s.heap.IsTuple b ws.toArray from p2) hu',SeqAt.RcNeAt.none_tuple (show s.heap.IsTuple b ws.toArray from p2) hu'⟩
 | bl c =>
  have z:=q1.blE;subst z;cases r1
  cases e with
  | lst=>unfold noL at h2;cases h2
  | non=>have z:=q2.nonE;subst z;cases r2;unfold eqD;exact ⟨SeqAt.RcAt.bool_none c,SeqAt.RcNeAt.bool_none c⟩
  | bl b=>have z:=q2.blE;subst z;cases r2;unfold eqD;exact ⟨SeqAt.RcAt.bool_bool c b,SeqAt.RcNeAt.bool_bool c b⟩
  | int i=>have z:=q2.intE;subst z;obtain ⟨t,rfl⟩:=r2;unfold eqD;exact ⟨SeqAt.RcAt.bool_int c i t,SeqAt.RcNeAt.bool_int c i t⟩
  | str i=>have z:=q2.strE;subst z;obtain ⟨t,rfl⟩:=r2;unfold eqD;exact ⟨SeqAt.RcAt.bool_str c i t,SeqAt.RcNeAt.bool_str c i t⟩
  | tup es=>obtain ⟨b,ys,z,s2,t2⟩:=q2.tupE;subst z;cases r2;obtain ⟨ws,v2,p2,_⟩:=I.tuple s2;unfold eqD;exact ⟨SeqAt.RcAt.bool_tuple c (show s.heap.IsTuple b ws.toArray from p2) hu',SeqAt.RcNeAt.bool_tuple c (show s.heap.IsTuple b ws.toArray from p2) hu'⟩
 | int c =>
  have z:=q1.intE;subst z;obtain ⟨tc,rfl⟩:=r1
  cases e with
  | lst=>unfold noL at h2;cases h2
  | non=>have z:=q2.nonE;subst z;cases r2;unfold eqD;exact ⟨SeqAt.RcAt.int_none c tc,SeqAt.RcNeAt.int_none c tc⟩
  | bl b=>have z:=q2.blE;subst z;cases r2;unfold eqD;exact ⟨SeqAt.RcAt.int_bool c tc b,SeqAt.RcNeAt.int_bool c tc b⟩
  | int i=>have z:=q2.intE;subst z;obtain ⟨t,rfl⟩:=r2;unfold eqD;exact ⟨SeqAt.RcAt.int_int c tc i t,SeqAt.RcNeAt.int_int c tc i t⟩
  | str i=>have z:=q2.strE;subst z;obtain ⟨t,rfl⟩:=r2;unfold eqD;exact ⟨SeqAt.RcAt.int_str c tc i t,SeqAt.RcNeAt.int_str c tc i t⟩
  | tup es=>obtain ⟨b,ys,z,s2,t2⟩:=q2.tupE;subst z;cases r2;obtain ⟨ws,v2,p2,_⟩:=I.tuple s2;unfold eqD;exact ⟨SeqAt.RcAt.int_tuple c tc (show s.heap.IsTuple b ws.toArray from p2) hu',SeqAt.RcNeAt.int_tuple c tc (show s.heap.IsTuple b ws.toArray from p2) hu'⟩
 | str c =>
  have z:=q1.strE;subst z;obtain ⟨tc,rfl⟩:=r1
  cases e with
  | lst=>unfold noL at h2;cases h2
  | non=>have z:=q2.nonE;subst z;cases r2;unfold eqD;exact ⟨SeqAt.RcAt.str_none c tc,SeqAt.RcNeAt.str_none c tc⟩
  | bl b=>have z:=q2.blE;subst z;cases r2;unfold eqD;exact ⟨SeqAt.RcAt.str_bool c tc b,SeqAt.RcNeAt.str_bool c tc b⟩
  | int i=>have z:=q2.intE;subst z;obtain ⟨t,rfl⟩:=r2;unfold eqD;exact ⟨SeqAt.RcAt.str_int c tc i t,SeqAt.RcNeAt.str_int c tc i t⟩
  | str i=>have z:=q2.strE;subst z;obtain ⟨t,rfl⟩:=r2;unfold eqD;exact ⟨SeqAt.RcAt.str_str c tc i t,SeqAt.RcNeAt.str_str c tc i t⟩
  | tup es=>obtain ⟨b,ys,z,s2,t2⟩:=q2.tupE;subst z;cases r2;obtain ⟨ws,v2,p2,_⟩:=I.tuple s2;unfold eqD;exact ⟨SeqAt.RcAt.str_tuple c tc (show s.heap.IsTuple b ws.toArray from p2) hu',SeqAt.RcNeAt.str_tuple c tc (show s.heap.IsTuple b ws.toArray from p2) hu'⟩
 | tup ds =>
  obtain ⟨a,xs,z,s1,t1⟩:=q1.tupE;subst z;cases r1;obtain ⟨us,v1,p1,_⟩:=I.tuple s1;have p1':s.heap.IsTuple a us.toArray:=p1
  cases e with
  | lst=>unfold noL at h2;cases h2
  | non=>have z:=q2.nonE;subst z;cases r2;unfold eqD;exact ⟨SeqAt.RcAt.tuple_none p1' hu',SeqAt.RcNeAt.tuple_none p1' hu'⟩
  | bl b=>have z:=q2.blE;subst z;cases r2;unfold eqD;exact ⟨SeqAt.RcAt.tuple_bool b p1' hu',SeqAt.RcNeAt.tuple_bool b p1' hu'⟩
  | int i=>have z:=q2.intE;subst z;obtain ⟨t,rfl⟩:=r2;unfold eqD;exact ⟨SeqAt.RcAt.tuple_int i t p1' hu',SeqAt.RcNeAt.tuple_int i t p1' hu'⟩
  | str i=>have z:=q2.strE;subst z;obtain ⟨t,rfl⟩:=r2;unfold eqD;exact ⟨SeqAt.RcAt.tuple_str i t p1' hu',SeqAt.RcNeAt.tuple_str i t p1' hu'⟩
  | tup es =>obtain ⟨b,ys,z,s2,t2⟩:=q2.tupE;subst z;cases r2;unfold eO at hn;unfold noL at h1 h2;unfold eqD;exact tO (A:=A) (ds:=ds) (es:=es) I hu' n (λd e x y u w k1 k2 k3 k4 k5 k6 k7=>ur I n A.in1 d e x y u w (by rw [lg];omega) k1 k2 k3 k4 k5 k6 k7) (by omega) h1 h2 t1 t2 s1 s2
theorem EX (I:Inv X pins σ H s) (n:Nat) (A:Around) (ds es:List D) (a b:Addr) (xs ys:List V) (hu:A.units+n+2 < cLine) (hn:deepDs ds<=n) (h1:noLs ds=true) (h2:noLs es=true) (q1:SqL X.K H a xs) (q2:SqL X.K H b ys) (r1:Dats X.K H ds xs) (r2:Dats X.K H es ys) :
  SeqAt.RcAt A s (.ref a) (.ref b) (eqDs ds es)/\SeqAt.RcNeAt A s (.ref a) (.ref b) (!eqDs ds es):=by
 have hu':A.units < cLine:=by omega
 obtain ⟨us,v1,p1,_⟩:=I.list q1;obtain ⟨ws,v2,p2,_⟩:=I.list q2;have e1:us.toArray.size=ds.length:=by rw [List.size_toArray,<- v1.length,r1.length]
 have e2:ws.toArray.size=es.length:=by rw [List.size_toArray,<- v2.length,r2.length]
 have hi:=m4 (X:=X) (H:=H) (s:=s) (A:=A.in1) n (λd e x y u w k1 k2 k3 k4 k5 k6 k7=>ur I n A.in1 d e x y u w (by rw [lg];omega) k1 k2 k3 k4 k5 k6 k7) hn h1 h2 r1 r2 v1 v2;by_cases hl:ds.length=es.length
 ·have hsz:us.toArray.size=ws.toArray.size:=by rw [e1,e2,hl]
  have p:=SeqAt.RcAt.lists p1.isList p2.isList hsz hu' hi;have p':=SeqAt.RcNeAt.lists p1.isList p2.isList hsz hu' hi;rw [e1,sr hl] at p p';exact ⟨p,p'⟩
 ·have hsz:(us.toArray.size != ws.toArray.size)=true:=by rw [e1,e2];simpa using hl
  have z:eqDs ds es=false:=by
   rw [<- iC];have:(ds.length == es.length)=false:=by simpa using hl
   rw [this,Bool.and_false]
  rw [z];exact ⟨SeqAt.RcAt.lists_lengths p1.isList p2.isList hsz hu',SeqAt.RcNeAt.lists_lengths p1.isList p2.isList hsz hu'⟩
end
section
variable {X:Cx} {k:Nat}
def D0 (K:W.Frag) (neg:Bool):R2:=λx y H Q=>∃ d e,Dat K H d x/\Dat K H e y/\noL d=true/\noL e=true/\eO d<=20/\Q (.bl (if neg then !eqD d e else eqD d e)) H
theorem DL (hr:Room k X.A):OpR X (compareOp .Eq) (D0 X.K false):=by
 intro pins s σ H x y v u Q I rx ry h;obtain ⟨d,e,q1,q2,h1,h2,hn,q⟩:=h;have hu:X.A.units+19+2 < cLine:=by have:=hr.un;omega
 exact (EW I 19 X.A d e x y v u hu (by omega) h1 h2 q1 q2 rx ry).1 _ _ _ _ ⟨.bl _,H,I,rfl,q⟩
theorem DM (hr:Room k X.A):OpR X (compareOp .NotEq) (D0 X.K true):=by
 intro pins s σ H x y v u Q I rx ry h;obtain ⟨d,e,q1,q2,h1,h2,hn,q⟩:=h;have hu:X.A.units+19+2 < cLine:=by have:=hr.un;omega
 exact (EW I 19 X.A d e x y v u hu (by omega) h1 h2 q1 q2 rx ry).2 _ _ _ _ ⟨.bl _,H,I,rfl,q⟩
def zQ (K:W.Frag) (neg:Bool):R2:=λx y H Q=>∃ a b xs ys ds es,x=.ref a/\y=.ref b/\SqL K H a xs/\SqL K H b ys/\Dats K H ds xs/\Dats K H es ys/\noLs ds=true/\noLs es=true/\deepDs ds<=20/\Q (.bl (if neg then !eqDs ds es else eqDs ds es)) H
theorem nQ (hr:Room k X.A):OpR X (compareOp .Eq) (zQ X.K false):=by
 intro pins s σ H x y v u Q I rx ry h;obtain ⟨a,b,xs,ys,ds,es,ex,ey,q1,q2,r1,r2,h1,h2,hn,q⟩:=h;subst ex ey;cases rx;cases ry;have hu:X.A.units+20+2 < cLine:=by have:=hr.un;omega
 exact (EX I 20 X.A ds es a b xs ys hu hn h1 h2 q1 q2 r1 r2).1 _ _ _ _ ⟨.bl _,H,I,rfl,q⟩
theorem zC (hr:Room k X.A):OpR X (compareOp .NotEq) (zQ X.K true):=by
 intro pins s σ H x y v u Q I rx ry h;obtain ⟨a,b,xs,ys,ds,es,ex,ey,q1,q2,r1,r2,h1,h2,hn,q⟩:=h;subst ex ey;cases rx;cases ry;have hu:X.A.units+20+2 < cLine:=by have:=hr.un;omega
 exact (EX I 20 X.A ds es a b xs ys hu hn h1 h2 q1 q2 r1 r2).2 _ _ _ _ ⟨.bl _,H,I,rfl,q⟩
theorem xr:OpR X (compareOp .IsNot) (λx y H Q=>∃ a b,x=.bl a/\y=.bl b/\Q (.bl (a != b)) H):=by intro pins s σ H x y v u Q I rx ry h;obtain ⟨a,b,ex,ey,q⟩:=h;subst ex ey;cases rx;cases ry;exact PyProof.Rows.isnot_bool ⟨.bl _,H,I,rfl,q⟩
def tyD:D->String
 | .non=>"NoneType"
 | .bl _=>"bool"
 | .int _=>"int"
 | .str _=>"str"
 | .tup _=>"tuple"
 | .lst=>"list"
def jY (d:D) (T:String):Bool:=tyD d == T || (tyD d == "bool" && T == "int")
theorem dB {T:String} (hk:∀ d:D,W.kitOne X.K (.type (tyD d)) (.type T)=some (jY d T)) :
  hW X (.builtin "isinstance") (λxs H Q=>∃ x d,xs=[x,.ty T]/\Dat X.K H d x/\Q (.bl (jY d T)) H):=by
 intro pins s σ H xs us Q I r h;obtain ⟨x,d,e,q,h⟩:=h;subst e;obtain ⟨u,c,e,ru,rc⟩:=Fb r;subst e;cases (show c=Value.type T from rc);have fin:∀ tk,EP X pins σ Q (.bool (jY d T)) { s with toks:=tk }:=λtk=>⟨.bl _,H,I.tok tk,rfl,h⟩
 have kd:=hk d
 cases d with
 | non=>have z:=q.nonE;subst z;cases ru;exact W.kia_one W.kitx_none I.kIn True.intro kd (λz=>nomatch z) fin
 | bl b=>have z:=q.blE;subst z;cases ru;exact W.kia_one W.kitx_bool I.kIn True.intro kd (λz=>nomatch z) fin
 | int i=>have z:=q.intE;subst z;obtain ⟨t,rfl⟩:=ru;exact W.kia_one W.kitx_int I.kIn True.intro kd (λz=>nomatch z) fin
 | str y=>have z:=q.strE;subst z;obtain ⟨t,rfl⟩:=ru;exact W.kia_one W.kitx_str I.kIn True.intro kd (λz=>nomatch z) fin
 | tup ds =>obtain ⟨a,vs,z,sq,_⟩:=q.tupE;subst z;cases ru;obtain ⟨its,_,⟨o,e1,e2,_⟩,_⟩:=I.tuple sq;exact W.kia_one W.kitx_tuple I.kIn ⟨o,e1,e2⟩ kd (λz=>nomatch z) fin
 | lst =>obtain ⟨a,vs,z,sq⟩:=q.lstE;subst z;cases ru;obtain ⟨its,_,⟨o,_,e1,e2,_⟩,_⟩:=I.list sq;exact W.kia_one W.kitx_list I.kIn ⟨o,e1,e2⟩ kd (λz=>nomatch z) fin
end
def jI (K:W.Frag) (a:Addr) (T:List (Str × KTD.Dat)):Prop:=∀ h:Heap,K.In h->KTD.TextTab h a T
section
variable {X:Cx}
theorem kz:OpR X (compareOp .In) (λx y H Q=>∃ k a T,x=.str k/\y=.ref a/\jI X.K a T/\Q (.bl (KTD.inKeys k T)) H):=by intro pins s σ H x y v u Q I rx ry h;obtain ⟨k,a,T,ex,ey,t,q⟩:=h;subst ex ey;obtain ⟨tk,rfl⟩:=rx;cases ry;exact KTD.in_text (h₀:=s.heap) ⟨t _ I.kIn,λ_ _ e=>e⟩ ⟨.bl _,H,I.tok _,rfl,q⟩
def zR (K:W.Frag):R2:=λx y H Q=>∃ a k T i,x=.ref a/\y=.str k/\jI K a T/\(T.all λp=>KTD.plain p.2)=true/\KTD.datumAt k T=some (.flat (.int i))/\Q (.int i) H
theorem yU:IxR X (zR X.K):=by
 intro value slice pins s σ H x y v u Q I rx ry h hs;obtain ⟨a,k,T,i,ex,ey,t,hp,hd,q⟩:=h;subst ex ey;obtain ⟨tk,rfl⟩:=ry;cases rx;have hm:KTD.inKeys k T=true:=by rw [<- KTD.isSome_datumAt,hd];rfl
 refine KTD.item_textA (h₀:=s.heap) ⟨t _ I.kIn,λ_ _ e=>e⟩ hp hm ?_ hs
 exact each T hd λv hv=>by obtain ⟨t',rfl⟩:=PyProof.V.Flat.int_inv hv;exact ⟨.int i,H,I.tok _,⟨t',rfl⟩,q⟩
where
 each {h:Heap} {k:Str} {P:Value->Prop} {i:Int}:∀ (T:List (Str × KTD.Dat)),KTD.datumAt k T=some (.flat (.int i))->(∀ v,PyProof.V.Flat v (.int i)->P v)->KTD.EachL h k P T
  | [],hd,_=>by simp [KTD.datumAt] at hd
  | (x,d)::T,hd,hP=>by
   have hd':(if decide (k=x)=true then some d else KTD.datumAt k T)=some (.flat (.int i)):=hd
   by_cases hx:k=x
   ·rw [if_pos (decide_eq_true hx)] at hd'
    cases hd'
    refine KTD.eachL_hit hx ?_
    exact opened hP
   ·rw [if_neg (by simp [hx])] at hd'
    exact KTD.eachL_miss hx (each T hd' hP)
 opened {h:Heap} {P:Value->Prop} {i:Int} (hP:∀ v,PyProof.V.Flat v (.int i)->P v):KTD.Opened h P (.flat (.int i)):=by
  first
   | exact KTD.opened_int λt=>hP _ (PyProof.V.Flat.int i t)
   | exact λt=>hP _ (PyProof.V.Flat.int i t)
end
section
variable {K:W.Frag} {H H' H2:Hp}
variable {a:Addr} {xs:List V}
theorem Same.sqT (e:Same H H') (h:SqT K H a xs):SqT K H' a xs:=by
 rcases h with (h | ⟨o,h⟩) | h
 ·exact .inl (.inl (e _ _ h))
 ·exact .inl (.inr ⟨o,e _ _ h⟩)
 ·exact .inr h
theorem Same.grow (e:Same H H'):dH K H H':=⟨λ_ _ h=>e.sqT h,λ_ xs h=>⟨xs,e.seq h⟩⟩
theorem Same.dat {d:D} {v:V} (e:Same H H') (h:Dat K H d v):Dat K H' d v:=Dat.mono e.grow d h
theorem Same.dats {ds:List D} {vs:List V} (e:Same H H') (h:Dats K H ds vs):Dats K H' ds vs:=Dats.mono e.grow ds h
theorem aG {p:Addr} (h:H p=none) (o:HO):Same H (upd H p o):=λb u q=>by rw [aO (aB q h)];exact q
def But (t:Addr) (H H':Hp):Prop:=∀ b o,b≠t->H b=some o->H' b=some o
variable {t:Addr}
theorem Same.but (e:Same H H'):But t H H':=λb o _ h=>e b o h
theorem But.trans (a:But t H H') (b:But t H' H2):But t H H2:=λc o n h=>b c o n (a c o n h)
theorem But.upd {o:HO} (a:But t H H'):But t H (upd H' t o):=λb u n h=>by rw [aO n];exact a b u n h
variable {zs:List V}
theorem But.sqT (e:But t H H') (ht:H t=some (.lst zs)) (h:SqT K H a xs):SqT K H' a xs:=by
 rcases h with (h | ⟨o,h⟩) | h
 ·exact .inl (.inl (e _ _ (λz=>by rw [z,ht] at h;cases h) h))
 ·exact .inl (.inr ⟨o,e _ _ (λz=>by rw [z,ht] at h;cases h) h⟩)
 ·exact .inr h
theorem But.sqL (e:But t H H') (n:a≠t) (h:SqL K H a xs):SqL K H' a xs:=by
 rcases h with (h | ⟨o,h⟩) | h
 ·exact .inl (.inl (e _ _ n h))
 ·exact .inl (.inr ⟨o,e _ _ n h⟩)
 ·exact .inr h
theorem But.grow {zs':List V} (e:But t H H') (ht:H t=some (.lst zs)) (ht':H' t=some (.lst zs')):dH K H H' :=
 ⟨λ_ _ h=>e.sqT ht h,λa xs h=>by
  by_cases n:a=t
  ·subst n;exact ⟨zs',SqL.of ht'⟩
  ·exact ⟨xs,e.sqL n h⟩⟩
end
section
variable {K:W.Frag}
theorem yP (d:D):W.kitOne K (.type (tyD d)) (.type "int")=some (jY d "int"):=by cases d <;> rfl
theorem Bo (d:D):W.kitOne K (.type (tyD d)) (.type "bool")=some (jY d "bool"):=by cases d <;> rfl
theorem yQ (d:D):W.kitOne K (.type (tyD d)) (.type "str")=some (jY d "str"):=by cases d <;> rfl
theorem gH (d:D):W.kitOne K (.type (tyD d)) (.type "tuple")=some (jY d "tuple"):=by cases d <;> rfl
theorem Bp (d:D):W.kitOne K (.type (tyD d)) (.type "list")=some (jY d "list"):=by cases d <;> rfl
end
def spD (K:W.Frag) (R:List D->D->Prop):Sp:=λvs H Q _=>∃ ds d,Dats K H ds vs/\R ds d/\∀ v H',Same H H'->Dat K H' d v->Q v H'
def hV (K:W.Frag) (R:List D->List D->Prop):Sp:=λvs H Q _=>∃ ds es,Dats K H ds vs/\R ds es/\∀ r us H',Same H H'->H' r=some (.lst us)->H r=none->Dats K H' es us->Q (.ref r) H'
variable {vs:List V}
theorem gW {a:D} (h:Dats K H [a] vs):∃ u,vs=[u]/\Dat K H a u:=by obtain ⟨u,r,e,h1,h⟩:=h.consE;have z:=h.nilE;subst z e;exact ⟨u,rfl,h1⟩
theorem fW {a b:D} (h:Dats K H [a,b] vs):∃ u v,vs=[u,v]/\Dat K H a u/\Dat K H b v:=by obtain ⟨u,r,e,h1,h⟩:=h.consE;obtain ⟨v,q,h2⟩:=gW h;subst q e;exact ⟨u,v,rfl,h1,h2⟩
theorem me {a b c:D} (h:Dats K H [a,b,c] vs):∃ u v w,vs=[u,v,w]/\Dat K H a u/\Dat K H b v/\Dat K H c w:=by obtain ⟨u,r,e,h1,h⟩:=h.consE;obtain ⟨v,w,q,h2⟩:=fW h;subst q e;exact ⟨u,v,w,rfl,h1,h2⟩
variable {σ:St} {j:Nat}
theorem kQ {z:Option V} {x:Option V}:(σ.set j z).set j x=σ.set j x:=by rw [List.set_set]
variable {J:It} {item:Nat->V} {te:TE} {σ0:St} {Q:VK}
theorem mZ (Ok:Hp->Prop)
  (go:∀ i H',Ok H'->i < n->J.go i H'/\∀ x H'',J.yld i H' x H''->H''=H'/\x=item i) (stop:∀ H',Ok H'->J.stop n H') (h0:σ0.set j none=σ0)
  (D:Addr) (Pn:Nat->Hp->Prop) (p0:Pn 0 (upd H1 D (.lst []))) (ok:∀ i H',i<=n->Pn i H'->Ok H')
  (turn:∀ i H',i < n->Pn i H'->te (σ0.set j (some (item i))) H' λv H4=>∃ ys,H4 D=some (.lst ys)/\ys.length < sizeLine/\(∃ z,σ0.set j (some (item i))=σ0.set j z)/\Pn (i+1) (upd H4 D (.lst (ys++[v]))))
  (fin:∀ H',Pn n H'->Q (.ref D) H') :
  ∃ W:Nat->Nat->St->Hp->Prop,(∃ m,W 0 m σ0 (upd H1 D (.lst [])))/\∀ i m σ' H',W i m σ' H' ->
   (J.stop i H'/\Q (.ref D) H') \/
   (J.go i H'/\∃ Nx:St->Hp->Prop,(∀ σ'' H'',Nx σ'' H''->∃ m',m' < m/\W (i+1) m' σ'' H'')/\∀ x H'',J.yld i H' x H''->bX j x σ' H'' λσ2 H2=>dS σ2 H2 λb H3 =>
    if b=true then te σ2 H3 λv H4=>∃ ys,H4 D=some (.lst ys)/\ys.length < sizeLine/\Nx σ2 (upd H4 D (.lst (ys++[v]))) else Nx σ2 H3):=by
 refine ⟨λi m σ' H'=>m=n - i/\i<=n/\(∃ z,σ'=σ0.set j z)/\Pn i H',⟨n,by omega,Nat.zero_le _,⟨none,h0.symm⟩,p0⟩,?_⟩;rintro i m σ' H' ⟨rfl,hi,⟨z,rfl⟩,p⟩;have o:=ok i H' hi p;by_cases hlt:i < n
 ·obtain ⟨g,y⟩:=go i H' o hlt;refine .inr ⟨g,λσ'' H''=>(∃ z,σ''=σ0.set j z)/\Pn (i+1) H'',λσ'' H'' q=>⟨n - (i+1),by omega,rfl,hlt,q.1,q.2⟩,λx H'' yx=>?_⟩;obtain ⟨e1,e2⟩:=y x H'' yx;subst e1 e2;simp only [bX,dS,if_true,kQ];exact turn i _ hlt p
 ·have e:i=n:=by omega
  subst e;exact .inl ⟨stop H' o,fin H' p⟩
theorem yM (i:Nat) (H':Hp) (h:SqT K H' a xs) (hi:i < xs.length):(Itt K a).go i H'/\∀ x H'',(Itt K a).yld i H' x H''->H''=H'/\x=xs.getD i .non:=by refine ⟨⟨xs,xs[i],h,List.getElem?_eq_getElem hi⟩,λx H'' y=>⟨y.1,?_⟩⟩;have q:=y.2 xs h;rw [List.getD_eq_getElem?_getD,q];rfl
theorem nj (i:Nat) (H':Hp) (h:SqL K H' a xs) (hi:i < xs.length):(Itl K a).go i H'/\∀ x H'',(Itl K a).yld i H' x H''->H''=H'/\x=xs.getD i .non:=by refine ⟨⟨xs,xs[i],h,List.getElem?_eq_getElem hi⟩,λx H'' y=>⟨y.1,?_⟩⟩;have q:=y.2 xs h;rw [List.getD_eq_getElem?_getD,q];rfl
theorem Dv (i:Nat) (H':Hp) (hi:i < n):(Itr 0 n).go i H'/\∀ x H'',(Itr 0 n).yld i H' x H''->H''=H'/\x=.int i:=by refine ⟨hi,λx H'' y=>⟨y.1,?_⟩⟩;have q:=y.2;rw [q];simp
section
variable {X:Cx}
def ER (K:W.Frag):V->V->Hp->VK->Prop:=λo i H Q=>∃ p xs k v,o=.ref p/\i=.int k/\0<=k/\SqL K H p xs/\xs[k.toNat]?=some v/\Q v H
theorem sC:Es X (ER X.K):=by intro pins s σ H o i ov iv Q I r1 r2 h;obtain ⟨p,xs,k,v,eo,ei,h0,hq,he,q⟩:=h;subst eo ei;cases r1;obtain ⟨t,rfl⟩:=r2;obtain ⟨its,r,pl,hz⟩:=I.list hq;obtain ⟨w,ew,rw'⟩:=r.get he;have hl:=r.length;have hlt:k.toNat < xs.length:=(List.getElem?_eq_some_iff.mp he).1;have hn:=jZ;exact wpAny_getItem_list pl.isList h0 (by omega) (by simpa using ew) ⟨v,H,I,rw',q⟩
theorem BM:OpR X (binaryOp .Mult) (rI IntMulOk λi j=>.int (i * j)):=opI λ_ _ _ _ _ _ _ hc q=>mul_int q hc
end
theorem qJ (h:j < n):ixN n (j:Int)=some j:=by unfold ixN;rw [if_pos (by omega),if_pos (by omega)];simp
theorem at0 {α:Type} {x:α} {r:List α}:atI (x::r) 0=some x:=gz (j:=0) rfl
theorem at1 {α:Type} {x y:α} {r:List α}:atI (x::y::r) 1=some y:=gz (j:=1) rfl
theorem at2 {α:Type} {x y z:α} {r:List α}:atI (x::y::z::r) 2=some z:=gz (j:=2) rfl
theorem ix0:ixN (n+1) 0=some 0:=qJ (j:=0) (by omega)
theorem ix1:ixN (n+2) 1=some 1:=qJ (j:=1) (by omega)
theorem ix2:ixN (n+3) 2=some 2:=qJ (j:=2) (by omega)
theorem dC:∀ ns:List Int,Dats K H (ns.map D.int) (ns.map V.int)
 | []=>Dats.nil
 | n::ns=>Dats.cons (Dat.intI n) (dC ns)
theorem gE:∀ ns:List Int,noLs (ns.map D.int)=true
 | []=>by unfold noLs;rfl
 | n::ns=>by show noLs (D.int n::ns.map D.int)=true;unfold noLs;rw [gE ns];unfold noL;rfl
theorem fX:∀ ns:List Int,deepDs (ns.map D.int)=0
 | []=>by unfold deepDs;rfl
 | n::ns=>by show deepDs (D.int n::ns.map D.int)=0;unfold deepDs;rw [fX ns];unfold eO;rfl
theorem yE (ns:List Int):eqDs (ns.map D.int) []=ns.isEmpty:=by
 cases ns with
 | nil=>unfold eqDs;rfl
 | cons n ns=>show eqDs (D.int n::ns.map D.int) []=false;unfold eqDs;rfl
theorem bU (h:n<=1000):n<=sizeLine:=Nat.le_of_lt (bx h)
def Scr (K:W.Frag) (H:Hp) (a:Addr) (ns:List Int):Prop:=(∃ o,H a=some (.frz o (.lst (ns.map V.int)))) \/
 ∃ (o:Obj) (its:Array Value) (n:Nat),K.lookup a=some o/\o.cls=.type "list"/\o.dict=none/\o.data=.seq its n/\its.size<=sizeLine/\Vals (ns.map V.int) its.toList
theorem Scr.sqL (h:Scr K H a ns):SqL K H a (ns.map V.int):=by
 rcases h with ⟨o,h⟩ | h
 ·exact .inl (.inr ⟨o,h⟩)
 ·exact .inr h
theorem Scr.but {t:Addr} {zs:List V} (h:Scr K H a ns) (e:But t H H') (ht:H t=some (.lst zs)):Scr K H' a ns:=by
 rcases h with ⟨o,h⟩ | h
 ·exact .inl ⟨o,e _ _ (λz=>by rw [z,ht] at h;cases h) h⟩
 ·exact .inr h
theorem Scr.same (h:Scr K H a ns) (e:Same H H'):Scr K H' a ns:=by
 rcases h with ⟨o,h⟩ | h
 ·exact .inl ⟨o,e _ _ h⟩
 ·exact .inr h
theorem Ec (hO:AU H) (h:SqL K H a (ns.map V.int)):Scr K H a ns:=by
 rcases h with (h | ⟨o,h⟩) | h
 ·rcases hO a with z | ⟨o,xs,z⟩
  ·rw [h] at z;cases z
  ·rw [h] at z;cases z
 ·exact .inl ⟨o,h⟩
 ·exact .inr h
def oA (K:W.Frag):Sp:=λvs H Q _=>∃ (a t:Addr) (ns:List Int) (m p q:Int) (rest:List V),vs=[.ref a,.ref t,.int m]/\Scr K H a ns/\H t=some (.lst (.int p::.int q::rest))/\0<=p/\0 < m/\m<=1000000 /\
 ∀ (r:Int) (H':Hp) (p' q':Int),But t H H'->H' t=some (.lst (.int p'::.int q'::rest))->0<=p'->0<=r->r < m->Q (.int r) H'
def RE (K:W.Frag) (t:TE) (σ:St) (H:Hp) (d:D):Prop:=∀ H1,Same H H1->∀ Q:VK,(∀ v H',Same H1 H'->Dat K H' d v->Q v H')->t σ H1 Q
def RT (t:TT) (σ:St) (H:Hp) (b:Bool):Prop:=∀ H1,Same H H1->∀ Q:Bool->Hp->Prop,(∀ H',Same H1 H'->Q b H')->t σ H1 Q
def RA (K:W.Frag) (t:TA) (σ:St) (H:Hp) (ds:List D):Prop:=∀ H1,Same H H1->∀ Q:List V->Hp->Prop,(∀ vs H',Same H1 H'->Dats K H' ds vs->Q vs H')->t σ H1 Q
section
variable {K:W.Frag} {σ:St} {H H':Hp} {d d':D} {ds:List D} {t u ta tb:TE} {tt uu:TT} {tA:TA} {i j:Int} {b c:Bool}
theorem RE.mono (h:RE K t σ H d) (e:Same H H'):RE K t σ H' d:=λH1 s Q q=>h H1 (e.trans s) Q q
theorem RA.mono (h:RA K tA σ H ds) (e:Same H H'):RA K tA σ H' ds:=λH1 s Q q=>h H1 (e.trans s) Q q
theorem RT.mono (h:RT tt σ H b) (e:Same H H'):RT tt σ H' b:=λH1 s Q q=>h H1 (e.trans s) Q q
theorem RE.as (h:RE K t σ H d) (e:d=d'):RE K t σ H d':=e ▸ h
theorem RT.as (h:RT tt σ H b) (e:b=c):RT tt σ H c:=e ▸ h
theorem RE.use {Q:VK} (h:RE K t σ H d) (q:∀ v H',Same H H'->Dat K H' d v->Q v H'):t σ H Q:=h H (Same.refl H) Q q
theorem RT.use {Q:Bool->Hp->Prop} (h:RT tt σ H b) (q:∀ H',Same H H'->Q b H'):tt σ H Q:=h H (Same.refl H) Q q
theorem RA.use {Q:List V->Hp->Prop} (h:RA K tA σ H ds) (q:∀ vs H',Same H H'->Dats K H' ds vs->Q vs H'):tA σ H Q:=h H (Same.refl H) Q q
theorem ak:RE K (tC (.int i)) σ H (.int i):=λH1 _ Q q=>q _ _ (Same.refl _) (Dat.intI i)
variable {x:Str}
theorem az:RE K (tC (.str x)) σ H (.str x):=λH1 _ Q q=>q _ _ (Same.refl _) (Dat.strI x)
theorem dJ:RE K (tC (.bl b)) σ H (.bl b):=λH1 _ Q q=>q _ _ (Same.refl _) (Dat.blI b)
theorem ji:RE K (tC .non) σ H .non:=λH1 _ Q q=>q _ _ (Same.refl _) Dat.nonI
theorem ab {k:Nat} {v:V} (h:Dat K H d v) (e:σ[k]?=some (some v):=by rfl):RE K (fG k) σ H d:=λH1 s Q q=>⟨v,e,q _ _ (Same.refl _) (s.dat h)⟩
theorem aA:RA K c7 σ H []:=λH1 _ Q q=>q _ _ (Same.refl _) Dats.nil
theorem ae (h:RE K t σ H d) (r:RA K tA σ H ds):RA K (bC t tA) σ H (d::ds):=λH1 s Q q =>
 h H1 s _ λv H2 s2 q2=>r H2 (s.trans s2) _ λvs H3 s3 q3=>q _ _ (s2.trans s3) (Dats.cons (s3.dat q2) q3)
theorem aZ (h:RA K tA σ H ds) (hl:ds.length<=1000:=by simp):RE K (vi tA) σ H (.tup ds):=λH1 s Q q =>
 h H1 s _ λvs H2 s2 q2=>⟨by rw [<- q2.length];exact bU hl,λp hp=>q _ _ (s2.trans (aG hp _)) (Dat.tupI (SqT.of aq) ((aG hp _).dats q2))⟩
theorem Ai {g:Int->Int} (h:RE K t σ H (.int i)):RE K (tUn (rU λi=>.int (g i)) t) σ H (.int (g i)):=λH1 s Q q =>
 h H1 s _ λv H2 s2 q2=>⟨i,q2.intE,q _ _ s2 (Dat.intI _)⟩
variable {g:Int->Int->V}
theorem uU (h1:RE K ta σ H (.int i)) (h2:RE K tb σ H (.int j)) (hd:∀ H,Dat K H d (g i j)):RE K (tOp (rI0 g) ta tb) σ H d:=λH1 s Q q =>
 h1 H1 s _ λv H2 s2 q2=>h2 H2 (s.trans s2) _ λw H3 s3 q3=>⟨i,j,q2.intE,q3.intE,q _ _ (s2.trans s3) (hd _)⟩
theorem uV {C:Int->Int->Prop} (h1:RE K ta σ H (.int i)) (h2:RE K tb σ H (.int j)) (hc:C i j) (hd:∀ H,Dat K H d (g i j)):RE K (tOp (rI C g) ta tb) σ H d:=λH1 s Q q =>
 h1 H1 s _ λv H2 s2 q2=>h2 H2 (s.trans s2) _ λw H3 s3 q3=>⟨i,j,q2.intE,q3.intE,hc,q _ _ (s2.trans s3) (hd _)⟩
theorem d6 (h1:RE K ta σ H (.int i)) (h2:RE K tb σ H (.int j)):RE K (tOp (rI0 λi j=>.int (i+j)) ta tb) σ H (.int (i+j)):=uU h1 h2 λ_=>Dat.intI _
theorem Ah (h1:RE K ta σ H (.int i)) (h2:RE K tb σ H (.int j)):RE K (tOp (rI0 λi j=>.int (i - j)) ta tb) σ H (.int (i - j)):=uU h1 h2 λ_=>Dat.intI _
variable {p:Int->Int->Bool}
theorem bT (h1:RE K ta σ H (.int i)) (h2:RE K tb σ H (.int j)):RE K (tOp (rI0 λi j=>.bl (p i j)) ta tb) σ H (.bl (p i j)):=uU h1 h2 λ_=>Dat.blI _
theorem n6 (h1:RE K ta σ H (.int i)) (h2:RE K tb σ H (.int j)):RE K (tOp rEq ta tb) σ H (.bl (decide (i=j))):=λH1 s Q q =>
 h1 H1 s _ λv H2 s2 q2=>h2 H2 (s.trans s2) _ λw H3 s3 q3=>by
  rw [q2.intE,q3.intE];refine ⟨rfl,?_⟩;have e:decide (V.int i=V.int j)=decide (i=j):=by by_cases z:i=j <;> simp [z]
  rw [e];exact q _ _ (s2.trans s3) (Dat.blI _)
theorem fN (h1:RE K ta σ H (.int i)) (h2:RE K tb σ H (.int j)):RE K (tOp rNe ta tb) σ H (.bl (!decide (i=j))):=λH1 s Q q =>
 h1 H1 s _ λv H2 s2 q2=>h2 H2 (s.trans s2) _ λw H3 s3 q3=>by
  rw [q2.intE,q3.intE];refine ⟨rfl,?_⟩;have e:decide (V.int i=V.int j)=decide (i=j):=by by_cases z:i=j <;> simp [z]
  rw [e];exact q _ _ (s2.trans s3) (Dat.blI _)
theorem aY {y:Str} (h1:RE K ta σ H (.str x)) (h2:RE K tb σ H (.str y)):RE K (tOp rEq ta tb) σ H (.bl (decide (x=y))):=λH1 s Q q =>
 h1 H1 s _ λv H2 s2 q2=>h2 H2 (s.trans s2) _ λw H3 s3 q3=>by
  rw [q2.strE,q3.strE];refine ⟨rfl,?_⟩;have e:decide (V.str x=V.str y)=decide (x=y):=by by_cases z:x=y <;> simp [z]
  rw [e];exact q _ _ (s2.trans s3) (Dat.blI _)
theorem xB (h1:RE K ta σ H (.bl b)) (h2:RE K tb σ H (.bl c)):RE K (tOp (λx y H Q=>∃ a b,x=.bl a/\y=.bl b/\Q (.bl (a != b)) H) ta tb) σ H (.bl (b != c)):=λH1 s Q q =>
 h1 H1 s _ λv H2 s2 q2=>h2 H2 (s.trans s2) _ λw H3 s3 q3=>⟨b,c,q2.blE,q3.blE,q _ _ (s2.trans s3) (Dat.blI _)⟩
theorem aN {k:Nat} (h1:RE K ta σ H (.tup ds)) (h2:RE K tb σ H (.int k)) (e:ds[k]?=some d):RE K (tOp (kG K) ta tb) σ H d:=λH1 s Q q =>
 h1 H1 s _ λv H2 s2 q2=>h2 H2 (s.trans s2) _ λw H3 s3 q3=>by obtain ⟨a,vs,ev,hq,hd⟩:=(s3.dat q2).tupE;obtain ⟨x,ex,hx⟩:=hd.get e;exact ⟨a,vs,k,x,ev,q3.intE,hq,gz ex,q _ _ (s2.trans s3) hx⟩
theorem cF (h:RE K t σ H (.tup ds)):RE K (tCB (λxs H Q=>∃ p ys,xs=[.ref p]/\(SqL K H p ys\/SqT K H p ys)/\Q (.int ys.length) H) (bC t c7)) σ H (.int ds.length):=λH1 s Q q =>
 h H1 s _ λv H2 s2 q2=>by obtain ⟨a,vs,ev,hq,hd⟩:=q2.tupE;subst ev;refine ⟨a,vs,rfl,.inr hq,?_⟩;rw [<- hd.length];exact q _ _ s2 (Dat.intI _)
theorem bA {T:String} (h:RE K t σ H d):RE K (tCB (λxs H Q=>∃ x d,xs=[x,.ty T]/\Dat K H d x/\Q (.bl (jY d T)) H) (bC t (bC (tC (.ty T)) c7))) σ H (.bl (jY d T)):=λH1 s Q q =>
 h H1 s _ λv H2 s2 q2=>⟨v,d,rfl,q2,q _ _ s2 (Dat.blI _)⟩
theorem a9 {R:List D->D->Prop} {E:XK} (h:RA K tA σ H ds) (e:R ds d):RE K (iy (spD K R) [] E tA) σ H d:=λH1 s Q q =>
 h H1 s _ λvs H2 s2 q2=>⟨ds,d,by rw [List.append_nil];exact q2,e,λv H3 s3 q3=>q _ _ (s2.trans s3) q3⟩
variable {a:Addr} {T:List (Str × KTD.Dat)}
theorem f9 {k:Str} (h:RE K t σ H (.str k)) (ht:jI K a T):RE K (tOp (λx y H Q=>∃ k a T,x=.str k/\y=.ref a/\jI K a T/\Q (.bl (KTD.inKeys k T)) H) t (tC (.ref a))) σ H (.bl (KTD.inKeys k T)):=λH1 s Q q =>
 h H1 s _ λv H2 s2 q2=>⟨k,a,T,q2.strE,rfl,ht,q _ _ s2 (Dat.blI _)⟩
theorem tQ {k:Str} (h:RE K t σ H (.str k)) (ht:jI K a T) (hp:(T.all λp=>KTD.plain p.2)=true) (e:KTD.datumAt k T=some (.flat (.int i))):RE K (tOp (zR K) (tC (.ref a)) t) σ H (.int i):=λH1 s Q q =>
 h H1 s _ λv H2 s2 q2=>⟨a,k,T,i,rfl,q2.strE,ht,hp,e,q _ _ s2 (Dat.intI _)⟩
theorem EZ {n:Nat}:HT.sIx (n+1) 0 (some 1)=1:=by have:=HT.sIx_nat (n+1) 0 1;simpa using this
theorem Fj (v:V) (r:List V):oM (v::r) (some 1) none=r:=by unfold oM;rw [List.length_cons,EZ,HT.sIx_none];simp
theorem iu (h:RE K t σ H (.tup (d'::ds))):RE K (tSl (D1 K) t (pY (tC (.int 1))) wH) σ H (.tup ds):=λH1 s Q q =>
 h H1 s _ λv H2 s2 q2=>by
  obtain ⟨a,vs,ev,hq,hd⟩:=q2.tupE;obtain ⟨w,r,er,h1,h2⟩:=hd.consE;subst ev er;refine ⟨1,rfl,a,w::r,rfl,hq,λz=>?_,λp hp=>?_⟩
  ·rw [List.length_cons,EZ] at z;exact absurd z.1 (by decide)
  ·rw [Fj];exact q _ _ (s2.trans (aG hp _)) (Dat.tupI (SqT.of aq) ((aG hp _).dats h2))
theorem cQ (h1:RE K ta σ H (.bl b)) (h2:b=true->RE K tb σ H (.bl c)):RE K (Ax ta tb) σ H (.bl (b && c)):=λH1 s Q q =>
 h1 H1 s _ λv H2 s2 q2=>⟨b,q2.blE,by
  cases b with
  | true=>rw [if_pos rfl];exact h2 rfl H2 (s.trans s2) _ λw H3 s3 q3=>q _ _ (s2.trans s3) q3
  | false=>rw [if_neg Bool.false_ne_true];exact q _ _ s2 (Dat.blI _)⟩
theorem wB (h1:RE K ta σ H (.bl b)) (h2:b=false->RE K tb σ H (.bl c)):RE K (E7 ta tb) σ H (.bl (b || c)):=λH1 s Q q =>
 h1 H1 s _ λv H2 s2 q2=>⟨b,q2.blE,by
  cases b with
  | true=>rw [if_pos rfl];exact q _ _ s2 (Dat.blI _)
  | false=>rw [if_neg Bool.false_ne_true];exact h2 rfl H2 (s.trans s2) _ λw H3 s3 q3=>q _ _ (s2.trans s3) q3⟩
theorem Ag (h:RE K t σ H (.bl b)):RE K (CW t) σ H (.bl (!b)):=λH1 s Q q =>
 h H1 s _ λv H2 s2 q2=>⟨b,q2.blE,q _ _ s2 (Dat.blI _)⟩
theorem kH {r:Int->Int->Bool} {k:Int} {tc:TE} (h1:RE K ta σ H (.int i)) (h2:RE K tb σ H (.int j)) (h3:p i j=true->RE K tc σ H (.int k)) :
  RE K (rP (rI0 λi j=>.bl (p i j)) (rI0 λi j=>.bl (r i j)) ta tb tc) σ H (.bl (p i j && r j k)):=λH1 s Q q =>
 h1 H1 s _ λv H2 s2 q2=>h2 H2 (s.trans s2) _ λw H3 s3 q3=>by
  refine ⟨i,j,q2.intE,q3.intE,p i j,rfl,?_⟩
  cases hp:p i j with
  | true =>simp only [if_true,Bool.true_and];exact h3 hp H3 (s.trans (s2.trans s3)) _ λz H4 s4 q4=>⟨j,k,q3.intE,q4.intE,q _ _ (s2.trans (s3.trans s4)) (by rw [hp];exact Dat.blI _)⟩
  | false =>simp only [Bool.false_eq_true,if_false,Bool.false_and];exact q _ _ (s2.trans s3) (by rw [hp];exact Dat.blI _)
theorem kJ (h:RT tt σ H b) (h1:b=true->RE K ta σ H d) (h2:b=false->RE K tb σ H d):RE K (tIf tt ta tb) σ H d:=λH1 s Q q =>
 h H1 s _ λH2 s2=>by
  cases b with
  | true=>rw [if_pos rfl];exact h1 rfl H2 (s.trans s2) _ λw H3 s3 q3=>q _ _ (s2.trans s3) q3
  | false=>rw [if_neg Bool.false_ne_true];exact h2 rfl H2 (s.trans s2) _ λw H3 s3 q3=>q _ _ (s2.trans s3) q3
theorem ay (h:RE K t σ H (.bl b)):RT (tZ t) σ H b:=λH1 s Q q=>h H1 s _ λv H2 s2 q2=>⟨b,q2.blE,q _ s2⟩
theorem aW (h:RE K t σ H (.bl b)):RT (λσ H Q=>t σ H λx H'=>∃ k,yd K x H' k/\Q k H') σ H b:=λH1 s Q q=>h H1 s _ λv H2 s2 q2=>by rw [q2.blE];exact ⟨b,rfl,q _ s2⟩
theorem bj (h:RT tt σ H b):RT (Ei tt) σ H (!b):=λH1 s Q q=>h H1 s _ λH2 s2=>q _ s2
theorem rK (h:RT tt σ H b) (h2:b=true->RT uu σ H c):RT (E3 tt uu) σ H (b && c):=λH1 s Q q=>h H1 s _ λH2 s2=>by
 cases b with
 | true=>rw [if_pos rfl];exact h2 rfl H2 (s.trans s2) _ λH3 s3=>q _ (s2.trans s3)
 | false=>rw [if_neg Bool.false_ne_true];exact q _ s2
theorem bJ (h:RT tt σ H b) (h2:b=false->RT uu σ H c):RT (tOr tt uu) σ H (b || c):=λH1 s Q q=>h H1 s _ λH2 s2=>by
 cases b with
 | true=>rw [if_pos rfl];exact q _ s2
 | false=>rw [if_neg Bool.false_ne_true];exact h2 rfl H2 (s.trans s2) _ λH3 s3=>q _ (s2.trans s3)
variable {En:iU}
theorem aX (h:RE K t σ H d) (q:∀ v H',Same H H'->Dat K H' d v->En.rt v H'):Az t En σ H:=h.use q
theorem gh {ts us:TS} (h:RT tt σ H b) (h1:b=true->∀ H',Same H H'->ts En σ H') (h2:b=false->∀ H',Same H H'->us En σ H'):Cp tt ts us En σ H:=h.use λH' s=>by
 cases b with
 | true=>rw [if_pos rfl];exact h1 rfl H' s
 | false=>rw [if_neg Bool.false_ne_true];exact h2 rfl H' s
end
theorem bq:bootBuiltins "len"=some (.builtin "len"):=by decide +kernel
theorem bF:bootBuiltins "isinstance"=some (.builtin "isinstance"):=by decide +kernel
theorem kX:bootBuiltins "all"=some (.builtin "all"):=by decide +kernel
theorem Dl:bootBuiltins "any"=some (.builtin "any"):=by decide +kernel
theorem yn:bootBuiltins "sum"=some (.builtin "sum"):=by decide +kernel
theorem yk:bootBuiltins "int"=some (.type "int"):=by decide +kernel
theorem A3:bootBuiltins "bool"=some (.type "bool"):=by decide +kernel
theorem ym:bootBuiltins "str"=some (.type "str"):=by decide +kernel
theorem cg:bootBuiltins "tuple"=some (.type "tuple"):=by decide +kernel
theorem vC:bootBuiltins "list"=some (.type "list"):=by decide +kernel
theorem yl:bootBuiltins "range"=some (.type "range"):=by decide +kernel
theorem Dm:bootBuiltins "set"=some (.type "set"):=by decide +kernel
theorem qj:bootBuiltins "enumerate"=some (.type "enumerate"):=by decide +kernel
theorem yo:bootBuiltins "zip"=some (.type "zip"):=by decide +kernel
theorem rY:bootBuiltins "reversed"=some (.type "reversed"):=by decide +kernel
variable {tA:TA} {ds:List D}
theorem uX (h:RA K tA σ H ds) (q:∀ p vs H1,Same H H1->H1 p=none->Dats K H1 ds vs->Q (.ref p) (upd H1 p (.lst vs))) (hl:ds.length<=1000:=by simp):rQ tA σ H Q :=
 h.use λvs H1 s1 q1=>⟨by rw [<- q1.length];exact bU hl,λp hp=>q p vs H1 s1 hp q1⟩
theorem ia {K:PySem.W.Frag} (go:∀ i H',Same H1 H'->i < n->J.go i H'/\∀ x H'',J.yld i H' x H''->H''=H'/\x=item i) (stop:∀ H',Same H1 H'->J.stop n H')
  (h0:σ0.set j none=σ0) (es:List D) (hn:es.length=n) (hb:n<=1000) (turn:∀ i d,es[i]?=some d->RE K te (σ0.set j (some (item i))) H1 d)
  (fin:∀ l ys H',H1 l=none->Same H1 H'->H' l=some (.lst ys)->Dats K H' es ys->Q (.ref l) H') (l:Addr) (hl:H1 l=none) :
  ∃ W:Nat->Nat->St->Hp->Prop,(∃ m,W 0 m σ0 (upd H1 l (.lst [])))/\∀ i m σ' H',W i m σ' H' ->
   (J.stop i H'/\Q (.ref l) H') \/
   (J.go i H'/\∃ Nx:St->Hp->Prop,(∀ σ'' H'',Nx σ'' H''->∃ m',m' < m/\W (i+1) m' σ'' H'')/\∀ x H'',J.yld i H' x H''->bX j x σ' H'' λσ2 H2=>dS σ2 H2 λb H3 =>
    if b=true then te σ2 H3 λv H4=>∃ ys,H4 l=some (.lst ys)/\ys.length < sizeLine/\Nx σ2 (upd H4 l (.lst (ys++[v]))) else Nx σ2 H3):=by
 refine mZ (λH'=>Same H1 H') go stop h0 l (λi H'=>Same H1 H'/\∃ ys,H' l=some (.lst ys)/\Dats K H' (es.take i) ys) ?_ ?_ ?_ ?_
 ·exact ⟨aG hl _,[],aq,by rw [List.take_zero];exact Dats.nil⟩
 ·intro i H' _ p;exact p.1
 ·intro i H' hi ⟨s1,ys,hy,hd⟩;have hi':i < es.length:=by omega
  refine ((turn i es[i] (List.getElem?_eq_getElem hi')).mono s1).use λv H4 s4 q4=>?_;have hy4:=s4 _ _ hy;have lys:ys.length=i:=by rw [<- hd.length,List.length_take];omega
  refine ⟨ys,hy4,bx (by omega),⟨_,rfl⟩,λb o hb=>?_,ys++[v],aq,?_⟩
  ·rw [aO (aB hb hl)];exact s4 _ _ (s1 _ _ hb)
  ·have g:dH K H4 (upd H4 l (.lst (ys++[v]))):=But.grow (t:=l) (But.upd (Same.refl H4).but) hy4 aq;rw [List.take_add_one,List.getElem?_eq_getElem hi'];exact Dats.append (Dats.mono g _ (s4.dats hd)) (Dats.cons (Dat.mono g _ q4) Dats.nil)
 ·intro H' ⟨s1,ys,hy,hd⟩;rw [List.take_of_length_le (by omega)] at hd;exact fin l ys H' hl s1 hy hd
variable {tt:TT} {En:iU} {ts us:TS}
theorem aH {K:W.Frag} {b:Bool} (h:RT tt σ H b) (h1:b=true->∀ H',Same H H'->ts { En with nx:=us En } σ H') (h2:b=false->∀ H',Same H H'->us En σ H'):jK (Cp tt ts wG) us En σ H :=
 gh h h1 h2
variable {d:D}
theorem eT {t:TE} {k:Nat} (h:RE K t σ H d) (q:∀ v H',Same H H'->Dat K H' d v->us En (σ.set k (some v)) H'):jK (oW t (bX k)) us En σ H:=h.use q
theorem c6 {k:Nat} (h:te σ H λx H1=>us En (σ.set k (some x)) H1):jK (oW te (bX k)) us En σ H:=h
theorem lP (h:te σ H λ_ H1=>us En σ H1):jK (oE te) us En σ H:=h
variable {v:V}
theorem wD (h:Q v H):tC v σ H Q:=h
theorem fE (h:te σ H En.rt):Az te En σ H:=h
theorem cf (h:ts { En with nx:=us En } σ H):jK ts us En σ H:=h
variable {tl:TE} {mk:St->St}
theorem pM {cs:List D} (h:RE K tl σ H (.tup cs)) (hc:cs.length<=1000) (es:List D) (hl:es.length=cs.length) (h0:(mk σ).set j none=mk σ)
  (turn:∀ H1 (i:Nat) c v d,Same H H1->cs[i]?=some c->es[i]?=some d->Dat K H1 c v->RE K te ((mk σ).set j (some v)) H1 d)
  (fin:∀ l ys H',H l=none->Same H H'->H' l=some (.lst ys)->Dats K H' es ys->Q (.ref l) H'):fK (yT K tl) mk (bX j) dS te σ H Q:=by
 refine h.use λv4 H4 s4 q4=>?_;obtain ⟨a,vs,e,hq,hd⟩:=q4.tupE;subst e;have l4:=hd.length;refine ⟨a,rfl,⟨vs,hq⟩,?_⟩;refine ia (K:=K) (Q:=Q) (n:=vs.length) (item:=λi=>vs.getD i .non) (λi H' s hi=>yM i H' (s.sqT hq) hi) (λH' s=>⟨vs,s.sqT hq,Nat.le_refl _⟩) h0 es (by omega) (by omega) (λi d hi=>?_) (λl ys H5 hl5 s5=>fin l ys H5 (s4.free hl5) (s4.trans s5));have hi':i < es.length:=(List.getElem?_eq_some_iff.mp hi).1;have hic:i < cs.length:=by omega
 obtain ⟨vz,ez,hz⟩:=hd.get (List.getElem?_eq_getElem hic);have q:=turn H4 i cs[i] vz d s4 (List.getElem?_eq_getElem hic) hi hz;rw [List.getD_eq_getElem?_getD,ez];exact q
theorem iI {Q:St->Hp->Prop} (h:Q (σ.set j (some v)) H):bX j v σ H Q:=h
theorem mO (M:St->Hp->Prop) (hr:∀ σ' H',M σ' H'->us En σ' H') (h:(∀ σ' H',M σ' H'->us En σ' H')->ts { En with nx:=us En } σ H):jK ts us En σ H:=h hr
theorem dZ {base:Heap} {k:Nat} {f:Addr} {ps:List Str} (no:∀ vs H Q E,¬ sp vs H Q E):FnOk P w K mg base CX k f fd ps sp :=
 ⟨λvs H Q E h=>absurd h (no vs H Q E),λA outer s H args us vs Q E _ _ _ _ h=>absurd h (no vs H Q E)⟩
theorem nY (n:Nat) (h:∀ R:List V->Hp->Prop,R [.int n] H->tA σ H R) (hc:n<=1000) (h0:(mk σ).set j none=mk σ) (Pn:Addr->Nat->Hp->Prop)
  (p0:∀ l,H l=none->Pn l 0 (upd H l (.lst [])))
  (turn:∀ l i G,H l=none->i < n->Pn l i G->te ((mk σ).set j (some (.int i))) G λv H4=>∃ ys,H4 l=some (.lst ys)/\ys.length < sizeLine/\(∃ z,(mk σ).set j (some (.int i))=(mk σ).set j z)/\Pn l (i+1) (upd H4 l (.lst (ys++[v]))))
  (fin:∀ l G,H l=none->Pn l n G->Q (.ref l) G):fK (CB tA) mk (bX j) dS te σ H Q:=by
 refine h _ ⟨n,rfl,by omega,by omega,λl hl=>?_⟩;rw [Int.toNat_natCast];exact mZ (λ_=>True) (item:=λi=>.int i) (λi H' _ hi=>Dv i H' hi) (λH' _=>Nat.le_refl _) h0 l (Pn l) (p0 l hl) (λ_ _ _ _=>trivial) (λi G hi p=>turn l i G hl hi p) (λG p=>fin l G hl p)
theorem f7 {ta:TE} {r:List V->Hp->VK->Prop} (h:ta σ H λx H1=>r [x] H1 Q):tCB r (bC ta c7) σ H Q:=h
variable {i:Nat}
theorem Al {e:D} (h:RA K tA σ H [d,e]) (q:∀ v w H',Same H H'->Dat K H' d v->Dat K H' e w->us En ((σ.set i (some v)).set j (some w)) H'):jK (Ej i j tA) us En σ H :=
 h.use λvs H1 s1 q1=>by obtain ⟨v,w,e,hv,hw⟩:=fW q1;exact ⟨v,w,e,q v w H1 s1 hv hw⟩
theorem mP {e:D} (h:RE K te σ H (.tup [d,e])) (q:∀ v w H',Same H H'->Dat K H' d v->Dat K H' e w->us En ((σ.set i (some v)).set j (some w)) H') :
  jK (oW te (qC K 2 (gx (bX i) (gx (bX j) sy)))) us En σ H :=
 h.use λx H1 s1 q1=>by obtain ⟨a,vs,e1,hq,hd⟩:=q1.tupE;obtain ⟨v,w,e2,hv,hw⟩:=fW hd;subst e1 e2;exact ⟨a,_,rfl,hq,rfl,v,_,rfl,w,_,rfl,rfl,q v w H1 s1 hv hw⟩
def CF:Expr->Bool
 | .Starred ..=>false
 | _=>true
variable {e:Expr} {es:List Expr}
theorem xK (h:CF e=true):starEach (e::es) env=(false,eval e env)::starEach es env:=by cases e <;> first | rfl | cases h
variable {t:TA}
theorem ag (ha:PE X e te) (hr:PA X es t) (h:CF e=true:=by rfl):PA X (e::es) (bC te t):=bM ha hr (xK h)
theorem oH {bs:List Bool} {us:List Value}:Vals (bs.map V.bl) us->us=bs.map Value.bool:=by
 intro h
 induction bs generalizing us with
 | nil=>cases h;rfl
 | cons b bs ih =>
  cases h with
  | cons r t=>cases r;rw [ih t];rfl
theorem zY (bs:List Bool) (d:Bool):(List.range bs.length).map (λi=>(bs[i]?).getD d)=bs:=by
 apply List.ext_getElem
 ·simp
 ·intro i h1 h2;simp at h1;simp [h1]
section
variable {X:Cx}
theorem h9 (hc:X.calm=true):hW X (.builtin "all") (λxs H Q=>∃ (l:Addr) (bs:List Bool),xs=[.ref l]/\SqL X.K H l (bs.map V.bl)/\Q (.bl (bs.all id)) H):=by
 intro pins s σ H xs us Q I r h;obtain ⟨l,bs,rfl,hq,q⟩:=h;obtain ⟨u,rfl,ru⟩:=gS r;cases ru;obtain ⟨its,rv,p,hz⟩:=I.list hq;have ei:=oH rv;have hl:=p.isList;have hlt:l < s.heap.objs.size:=by obtain ⟨_,e,_⟩:=hl;exact Heap.lt_size e
 refine call_all_walk (wpAny_pyIter_list hl ?_)
 refine ⟨s.heap.objs.size,[s.heap.objs.size,l],[s.heap.objs.size],its.toArray.size,_,_,λi=>(bs[i]?).getD true,rfl,Walks.list (A:=X.A.in1) (I.ok.hd hc) _ l (Nat.ne_of_lt hlt) its.toArray,
  ⟨⟨_,Heap.get?_push_size _ rfl,rfl,rfl⟩,hl.push _⟩,λi v s' Q' E' hP hQ=>?_,λh' tk hk=>?_⟩
 ·subst ei;have hP':(bs.map Value.bool)[i]?=some v:=by simpa using hP
  rw [List.getElem?_map] at hP'
  cases hb:bs[i]? with
  | none=>rw [hb] at hP';cases hP'
  | some b =>rw [hb] at hP';cases hP';simp only [hb,Option.getD_some] at hQ;exact wpAny_truthy_bool hQ
 ·have e:((List.range its.toArray.size).all λi=>(bs[i]?).getD true)=bs.all id:=by
   subst ei;rw [List.size_toArray,List.length_map]
   conv=>rhs;rw [<- zY bs true]
   rw [List.all_map];rfl
  rw [e];exact ⟨.bl _,H,I.kept (t':=tk) λb x e=>hk b x (λhm=>by rw [List.mem_singleton.mp hm] at e;exact Nat.lt_irrefl _ (Heap.lt_size e)) (Heap.get?_push_of_some _ e),rfl,q⟩
theorem yt (hc:X.calm=true):hW X (.builtin "any") (λxs H Q=>∃ (l:Addr) (bs:List Bool),xs=[.ref l]/\SqL X.K H l (bs.map V.bl)/\Q (.bl (bs.any id)) H):=by
 intro pins s σ H xs us Q I r h;obtain ⟨l,bs,rfl,hq,q⟩:=h;obtain ⟨u,rfl,ru⟩:=gS r;cases ru;obtain ⟨its,rv,p,hz⟩:=I.list hq;have ei:=oH rv;have hl:=p.isList;have hlt:l < s.heap.objs.size:=by obtain ⟨_,e,_⟩:=hl;exact Heap.lt_size e
 refine call_any_walk (wpAny_pyIter_list hl ?_)
 refine ⟨s.heap.objs.size,[s.heap.objs.size,l],[s.heap.objs.size],its.toArray.size,_,_,λi=>(bs[i]?).getD false,rfl,Walks.list (A:=X.A.in1) (I.ok.hd hc) _ l (Nat.ne_of_lt hlt) its.toArray,
  ⟨⟨_,Heap.get?_push_size _ rfl,rfl,rfl⟩,hl.push _⟩,λi v s' Q' E' hP hQ=>?_,λh' tk hk=>?_⟩
 ·subst ei;have hP':(bs.map Value.bool)[i]?=some v:=by simpa using hP
  rw [List.getElem?_map] at hP'
  cases hb:bs[i]? with
  | none=>rw [hb] at hP';cases hP'
  | some b =>rw [hb] at hP';cases hP';simp only [hb,Option.getD_some] at hQ;exact wpAny_truthy_bool hQ
 ·have e:((List.range its.toArray.size).any λi=>(bs[i]?).getD false)=bs.any id:=by
   subst ei;rw [List.size_toArray,List.length_map]
   conv=>rhs;rw [<- zY bs false]
   rw [List.any_map];rfl
  rw [e];exact ⟨.bl _,H,I.kept (t':=tk) λb x e=>hk b x (λhm=>by rw [List.mem_singleton.mp hm] at e;exact Nat.lt_irrefl _ (Heap.lt_size e)) (Heap.get?_push_of_some _ e),rfl,q⟩
end
section
variable {P:Program} {w:World} {K:W.Frag} {mg:Str->Option Value} {base:Heap}
end
section
variable {K:W.Frag} {σ:St} {H H':Hp} {d d':D} {ds:List D} {t u ta tb:TE} {tt uu:TT} {tA:TA} {i j:Int} {b c:Bool}
theorem iH (h1:RE K ta σ H (.int i)) (h2:RE K tb σ H (.int j)) (hj:0 < j):RE K (tOp (rI (λ_ j=>0 < j) λi j=>.int (i % j)) ta tb) σ H (.int (i % j)):=uV h1 h2 hj λ_=>Dat.intI _
theorem Ae (h1:RE K ta σ H (.int i)) (h2:RE K tb σ H (.int j)) (hc:CMul i j):RE K (tOp (rI CMul λi j=>.int (i * j)) ta tb) σ H (.int (i * j)):=uV h1 h2 hc λ_=>Dat.intI _
theorem mK (h1:RE K ta σ H (.int i)) (h2:RE K tb σ H (.int j)) (hc:CZ i j):RE K (tOp (rI CZ λi j=>.int (i / j)) ta tb) σ H (.int (i / j)):=uV h1 h2 hc λ_=>Dat.intI _
theorem yA:∀ {bs:List Bool} {vs:List V},Dats K H (bs.map D.bl) vs->vs=bs.map V.bl
 | [],vs,h=>by rw [Dats.nilE h];rfl
 | b::bs,vs,h=>by obtain ⟨v,r,e,h1,h2⟩:=h.consE;rw [e,h1.blE,yA h2];rfl
theorem vG:∀ {xs:List Str} {vs:List V},Dats K H (xs.map D.str) vs->vs=xs.map V.str
 | [],vs,h=>by rw [Dats.nilE h];rfl
 | x::xs,vs,h=>by obtain ⟨v,r,e,h1,h2⟩:=h.consE;rw [e,h1.strE,vG h2];rfl
theorem Ba (x y:Str):eqV (.str x) (.str y)=decide (x=y):=by unfold eqV;by_cases h:x=y <;> simp [h]
theorem qI (x:Str):∀ ys:List Str,inV (.str x) (ys.map V.str)=decide (x ∈ ys)
 | []=>by simp [inV]
 | y::ys=>by
  have ih:=qI x ys;unfold inV at ih ⊢;rw [List.map_cons,List.any_cons,ih,Ba];by_cases h:y=x
  ·subst h;simp
  ·have h':¬ x=y:=λz=>h z.symm;simp [h,h']
theorem pq (ys:List Str):(ys.map V.str).all jN=true:=by rw [List.all_eq_true];intro v hv;obtain ⟨y,_,rfl⟩:=List.mem_map.mp hv;rfl
variable {x:Str} {ys:List Str}
theorem lJ (h1:RE K ta σ H (.str x)) (h2:RE K tb σ H (.tup (ys.map D.str))):RE K (tOp (rIn K false) ta tb) σ H (.bl (decide (x ∈ ys))):=λH1 s Q q =>
 h1 H1 s _ λv H2 s2 q2=>h2 H2 (s.trans s2) _ λw H3 s3 q3=>by obtain ⟨a,vs,ev,hq,hd⟩:=q3.tupE;have e:=vG hd;subst e;rw [q2.strE];refine ⟨a,_,ev,.inr hq,rfl,pq ys,?_⟩;rw [qI];exact q _ _ (s2.trans s3) (Dat.blI _)
theorem xE (h1:RE K ta σ H (.str x)) (h2:RE K tb σ H (.tup (ys.map D.str))):RE K (tOp (rIn K true) ta tb) σ H (.bl (!decide (x ∈ ys))):=λH1 s Q q =>
 h1 H1 s _ λv H2 s2 q2=>h2 H2 (s.trans s2) _ λw H3 s3 q3=>by obtain ⟨a,vs,ev,hq,hd⟩:=q3.tupE;have e:=vG hd;subst e;rw [q2.strE];refine ⟨a,_,ev,.inr hq,rfl,pq ys,?_⟩;rw [qI];exact q _ _ (s2.trans s3) (Dat.blI _)
theorem rF {y:Str} (h1:RE K ta σ H (.str x)) (h2:RE K tb σ H (.str y)):RE K (tOp rNe ta tb) σ H (.bl (!decide (x=y))):=λH1 s Q q =>
 h1 H1 s _ λv H2 s2 q2=>h2 H2 (s.trans s2) _ λw H3 s3 q3=>by
  rw [q2.strE,q3.strE];refine ⟨rfl,?_⟩;have e:decide (V.str x=V.str y)=decide (x=y):=by by_cases z:x=y <;> simp [z]
  rw [e];exact q _ _ (s2.trans s3) (Dat.blI _)
end
section
variable {X:Cx}
theorem B0 {body:List Stmt} {t:TS} {h:ExceptHandler} {hs:List ExceptHandler} {pos:Pos} (hb:PSs X body t) (hx:X.xe=(λ_ _=>False):=by rfl):PS X (.Try body (h::hs) [] [] pos) t:=by
 intro pins s σ H D I q;have w:=hb pins s σ H D I q;rw [hx] at w;refine wpAny_Try_except (wpAny_mono w (λf s1 hf=>?_) λe s1 z=>z.elim)
 cases f with
 | next =>obtain ⟨σ',H',I',q'⟩:=hf;exact aL pins s1 σ' H' D I' q'
 | ret u=>exact hf
 | brk=>exact hf
 | cont=>exact hf
theorem zB:OpR X (compareOp .LtE) (λx y H Q=>∃ i j:Str,x=.str i/\y=.str j/\Q (.bl (!decide (j.cps.toList < i.cps.toList))) H):=by intro pins s σ H x y v u Q I rx ry h;obtain ⟨i,j,rfl,rfl,q⟩:=h;obtain ⟨t,rfl⟩:=rx;obtain ⟨t',rfl⟩:=ry;refine PySem.P.le_str ?_;exact ⟨.bl _,H,I,rfl,q⟩
def Its (x:Str):It:=⟨λi _=>i < x.cps.size,λi H v H'=>H'=H/\∃ c,x.cps[i]?=some c/\v=.str ⟨#[c]⟩,λi _=>i=x.cps.size⟩
theorem pZ {P:Program} {w:World} {K:PySem.W.Frag} {tg:Expr} {it:Addr} {n:String} {x:Str} {t:Tok} (hn:["enumerate","zip","dict_itemiterator","dict_reverseitemiterator","odict_iterator","itertools.zip_longest","itertools.pairwise"].contains n=false)
  (W:∀ A:Around,A.handled=none->Walks P w A it [it] [it] x.cps.size (SignAt x) (λi h=>h.IsStrIter it n x t i))
  (self:∀ (A:Around) (i:Nat) (s:Shared) (Q:Value->Shared->Prop) (E:Value->Shared->Prop),s.heap.IsStrIter it n x t i->Q (.ref it) s->wpAny (model P w) A (pyIter (.ref it)) Q E s) :
  mD P w K tg (Its x) [it] it (λi h=>h.IsStrIter it n x t i) where
 mem:=by simp
 obj:=λi h st b hb=>by
  have e:b=it:=by simpa using hb
  subst e;obtain ⟨o,e,c,d⟩:=st;exact ⟨o,e,λv z=>by rw [d] at z;cases z⟩
 keep:=λi h h' st k=>by obtain ⟨o,e,r⟩:=st;exact ⟨o,k it (by simp) o e,r⟩
 item:=by intro X hP hw hK hc i pins s σ H E I hf st hg;subst hP hw hK;obtain ⟨f0,f1,f2,f3,f4,f5⟩:=hf it (by simp);refine (W X.A (I.ok.hd hc)).item i s _ _ hg st λv h' tk hv st' kk=>?_;obtain ⟨c,u,hx,rfl⟩:=hv;have I1:Inv X pins σ H { s with heap:=h',toks:=tk }:=I.turned (λb o hb e=>kk b o (by simpa using hb) e) f0 f1 f3 f4 f5;obtain ⟨o,e,cc,d⟩:=id st';exact ⟨_,rfl,sD (s:={ s with heap:=h',toks:=tk }) e cc d hn ⟨.str ⟨#[c]⟩,H,I1,⟨u,rfl⟩,⟨rfl,c,hx,rfl⟩,st',λb hb=>(hf b hb).1⟩⟩
 done:=by intro X hP hw hK hc i pins s σ H E I hf st hg;subst hP hw hK;obtain ⟨f0,f1,f2,f3,f4,f5⟩:=hf it (by simp);have hg':i=x.cps.size:=hg;subst hg';exact (W X.A (I.ok.hd hc)).done s _ _ st λh' tk eb=>⟨rfl,I.turned (λb o hb e=>eb b o (by simpa using hb) e) f0 f1 f3 f4 f5⟩
 self:=self
variable {tg:Expr}
def EF (tl:TE):TI:=λσ H R=>tl σ H λv H1=>∃ x,v=.str x/\R (Its x) H1
theorem DY {l:Expr} {tl:TE} (hl:PE X l tl):PI X tg l (EF tl):=by
 intro pins s σ H R I h;refine thn (hl pins s σ H _ I h) λv s1 ⟨xv,H1,I1,r1,q1⟩=>?_;obtain ⟨x,e,q⟩:=q1;subst e;obtain ⟨t,rfl⟩:=r1
 have fin:∀ (o:Obj) (n:String),mD X.prog X.w X.K tg (Its x) [s1.heap.objs.size] s1.heap.objs.size (λi h=>h.IsStrIter s1.heap.objs.size n x t i)->(s1.heap.push o).IsStrIter s1.heap.objs.size n x t 0->PIE X pins σ tg R (.ref s1.heap.objs.size) { s1 with heap:=s1.heap.push o }:=by
  intro o n T st;refine ⟨s1.heap.objs.size,[s1.heap.objs.size],_,_,H1,rfl,I1.kept (t':=s1.toks) λb o e=>Heap.get?_push_of_some _ e,T,st,λb hb=>?_,q⟩;have e:b=s1.heap.objs.size:=by simpa using hb
  subst e;exact I1.fpOk (Nat.le_refl _) (I1.hok.fresh (Nat.le_refl _))
 cases ha:x.cps.all (· < 128)
 ·exact wpAny_pyIter_wide ha (fin _ "str_iterator" (pZ (by decide) (λA hA=>Walks.strWide hA _ x t) λA i s Q E st q=>wpAny_pyIter_striter_wide st q) ⟨_,Heap.get?_push_size _ rfl,rfl,rfl⟩)
 ·exact wpAny_pyIter_ascii ha (fin _ "str_ascii_iterator" (pZ (by decide) (λA hA=>Walks.strAscii hA _ x t) λA i s Q E st q=>wpAny_pyIter_striter_ascii st q) ⟨_,Heap.get?_push_size _ rfl,rfl,rfl⟩)
theorem tD:OpR X (compareOp .NotIn) (λx y H Q=>∃ k a T,x=.str k/\y=.ref a/\jI X.K a T/\Q (.bl (!KTD.inKeys k T)) H):=by intro pins s σ H x y v u Q I rx ry h;obtain ⟨k,a,T,ex,ey,t,q⟩:=h;subst ex ey;obtain ⟨tk,rfl⟩:=rx;cases ry;exact KTD.notin_text (h₀:=s.heap) ⟨t _ I.kIn,λ_ _ e=>e⟩ ⟨.bl _,H,I.tok _,rfl,q⟩
def wq (K:W.Frag):R2:=λx y H Q=>∃ a k T z,x=.ref a/\y=.str k/\jI K a T/\(T.all λp=>KTD.plain p.2)=true/\KTD.datumAt k T=some (.flat (.str z))/\Q (.str z) H
theorem Bu:IxR X (wq X.K):=by
 intro value slice pins s σ H x y v u Q I rx ry h hs;obtain ⟨a,k,T,z,ex,ey,t,hp,hd,q⟩:=h;subst ex ey;obtain ⟨tk,rfl⟩:=ry;cases rx;have hm:KTD.inKeys k T=true:=by rw [<- KTD.isSome_datumAt,hd];rfl
 refine KTD.item_textA (h₀:=s.heap) ⟨t _ I.kIn,λ_ _ e=>e⟩ hp hm ?_ hs;exact each T hd λt'=>⟨.str z,H,I.tok _,⟨t',rfl⟩,q⟩
where
 each {h:Heap} {k:Str} {P:Value->Prop} {z:Str}:∀ (T:List (Str × KTD.Dat)),KTD.datumAt k T=some (.flat (.str z))->(∀ t,P (.str z t))->KTD.EachL h k P T
  | [],hd,_=>by simp [KTD.datumAt] at hd
  | (x,d)::T,hd,hP=>by
   have hd':(if decide (k=x)=true then some d else KTD.datumAt k T)=some (.flat (.str z)):=hd
   by_cases hx:k=x
   ·rw [if_pos (decide_eq_true hx)] at hd'
    cases hd'
    exact KTD.eachL_hit hx (KTD.opened_str hP)
   ·rw [if_neg (by simp [hx])] at hd'
    exact KTD.eachL_miss hx (each T hd' hP)
def wI (K:W.Frag) (td ty tx:TE):TE:=λσ H Q=>td σ H λx H1=>∃ a T,x=.ref a/\jI K a T/\ty σ H1 λy H2=>tx σ H2 λz H3=>∃ k i,y=.str k/\z=.int i/\(∀ p ∈ T,∃ j,p.2=.flat (.int j)) /\
 Q (.int (match KTD.datumAt k T with | some (.flat (.int j))=>j | _=>i)) H3
theorem xu {o e f:Expr} {apos cpos:Pos} {td ty tx:TE} (ho:PE X o td) (he:PE X e ty) (hf:PE X f tx) (m:M2 X o "get" apos e f cpos):PE X (.Call (.Attribute o "get" apos) [e,f] [] cpos) (wI X.K td ty tx):=by
 intro pins s σ H Q I h;refine wpAny_Call_method m.base m.few m.line F.plainAttrs_dict F.slot_dict_get F.type_dict_get (thn (ho pins s σ H _ I h) λu s1 ⟨x,H1,I1,rx,a,T,ex,tk,q1⟩=>?_);subst ex;obtain rfl:u=Value.ref a:=rx;have t1:=tk _ I1.kIn;obtain ⟨lo,ob,es,ep,hob,hex,hdat,hrows⟩:=id t1;refine ⟨⟨ob,hob,hex.1⟩,λb eb=>?_,?_⟩
 ·cases eb;exact ⟨ob,hob,hex.2.1⟩
 rw [m.trees]
 refine Calls.callWith_builtin rfl (Calls.evalArgs_plain (Calls.spliced_cons (thn (he pins s1 σ H1 _ I1 q1) λiv s2 ⟨y,H2,I2,ry,q2⟩ =>
  Calls.spliced_cons (thn (hf pins s2 σ H2 _ I2 q2) λfv s3 ⟨z,H3,I3,rz,k,i,ey,ez,hT,q3⟩=>Calls.spliced_nil ?_))))
 subst ey ez;obtain ⟨tok1,rfl⟩:=ry;obtain ⟨tok2,rfl⟩:=rz;refine KTD.get2_text (h₀:=s3.heap) ⟨tk _ I3.kIn,λ_ _ e=>e⟩ ?_
 have fin:∀ (D:List (Str × KTD.Dat)),(∀ p ∈ D,∃ j,p.2=.flat (.int j))->Q (.int (match KTD.datumAt k D with | some (.flat (.int j))=>j | _=>i)) H3 ->
   KTD.Each s3.heap k (λv=>EP X pins σ Q v { s3 with toks:=s3.toks+1 }) (EP X pins σ Q (.int i tok2) { s3 with toks:=s3.toks+1 }) D:=by
  intro D
  induction D with
  | nil=>intro _ q;exact KTD.each_nil ⟨.int i,H3,I3.tok _,⟨_,rfl⟩,q⟩
  | cons p D ih =>
   intro hD q;obtain ⟨x,d⟩:=p;obtain ⟨j,ej⟩:=hD (x,d) List.mem_cons_self;have ej':d=.flat (.int j):=ej;subst ej';have ed:KTD.datumAt k ((x,KTD.Dat.flat (.int j))::D)=if decide (k=x)=true then some (.flat (.int j)) else KTD.datumAt k D:=rfl;rw [ed] at q;by_cases hx:k=x
   ·rw [if_pos (decide_eq_true hx)] at q;exact KTD.each_hit hx (KTD.opened_int λt=>⟨.int j,H3,I3.tok _,⟨t,rfl⟩,q⟩)
   ·rw [if_neg (by simp [hx])] at q;exact KTD.each_miss hx (ih (λp hp=>hD p (List.mem_cons_of_mem _ hp)) q)
 exact fin T hT q3
end
structure xU (P:Program) (w:World) (K:W.Frag) (a:Addr) (ks:List Str):Prop where
 lk:∃ o,K.lookup a=some o
 tb:∀ h:Heap,K.In h->∃ D,StrTab P w h a D/\D.map (·.1)=ks.map PyData.str
def Itk (ks:List Str):It:=⟨λi _=>i < ks.length,λi H v H'=>H'=H/\∃ k,ks[i]?=some k/\v=.str k,λi _=>i=ks.length⟩
variable {kvs:List (Str × Value)}
theorem wW {D:List (PyData × PyData)} {ks:List Str} (h:PyProof.V.FlatPairs PyData.str kvs D) (e:D.map (·.1)=ks.map PyData.str):kvs.map (·.1)=ks:=by
 induction h generalizing ks with
 | nil =>
  cases ks with
  | nil=>rfl
  | cons k ks=>simp at e
 | cons _ _ ih =>
  cases ks with
  | nil=>simp at e
  | cons k ks =>simp only [List.map_cons,List.cons.injEq] at e;obtain ⟨e1,e2⟩:=e;injection e1 with e1;rw [List.map_cons,ih e2,<- e1]
variable {it:Addr}
theorem AH {tg:Expr} {d:Addr} {ep:Nat} (hD:∀ h:Heap,K.In h->h.DictAt (strKind P w) d kvs ep) :
  mD P w K tg (Itk (kvs.map (·.1))) [it] it (λi h=>h.IsKeyIter it d i kvs.length ep) where
 mem:=by simp
 obj:=λi h st b hb=>by
  have e:b=it:=by simpa using hb
  subst e;obtain ⟨o,e,c,d⟩:=st;exact ⟨o,e,λv z=>by rw [d] at z;cases z⟩
 keep:=λi h h' st k=>by obtain ⟨o,e,r⟩:=st;exact ⟨o,k it (by simp) o e,r⟩
 item:=by
  intro X hP hw hK hc i pins s σ H E I hf st hg;subst hP hw hK;obtain ⟨f0,f1,f2,f3,f4,f5⟩:=hf it (by simp);have hi:i < kvs.length:=by have z:i < (kvs.map (·.1)).length:=hg;simpa using z
  refine wpAny_pyNext_dict_item st (hD _ I.kIn) (List.getElem?_eq_getElem hi) λkey h' hk st' sb=>?_;obtain ⟨t,rfl⟩:=Value.isStrOf_shape hk;have I1:Inv X pins σ H { s with heap:=h' }:=I.turned (t':=s.toks) (λb o hb e=>(sb.2 b hb).trans e) f0 f1 f3 f4 f5;refine ⟨_,rfl,PyProof.Rows.letGo_keyiter (s':={ s with heap:=h' }) st' ⟨.str (kvs[i]).1,H,I1,⟨t,rfl⟩,⟨rfl,(kvs[i]).1,?_,rfl⟩,st',λb hb=>(hf b hb).1⟩⟩;rw [List.getElem?_map,List.getElem?_eq_getElem hi];rfl
 done:=by
  intro X hP hw hK hc i pins s σ H E I hf st hg;subst hP hw hK;obtain ⟨f0,f1,f2,f3,f4,f5⟩:=hf it (by simp);have hi:i=kvs.length:=by have z:i=(kvs.map (·.1)).length:=hg;simpa using z
  exact wpAny_pyNext_dict_end (I.ok.hd hc) st (hD _ I.kIn) (by simp [hi]) λh' eb=>⟨rfl,I.turned (t':=s.toks) (λb o hb e=>eb b o hb e) f0 f1 f3 f4 f5⟩
 self:=λA i s Q E st q=>wpAny_pyIter_keyiter st q
section
variable {X:Cx} {tg:Expr}
def EG (P:Program) (w:World) (K:W.Frag) (tl:TE):TI:=λσ H R=>tl σ H λv H1=>∃ a ks,v=.ref a/\xU P w K a ks/\R (Itk ks) H1
theorem DZ {l:Expr} {tl:TE} (hl:PE X l tl):PI X tg l (EG X.prog X.w X.K tl):=by
 intro pins s σ H R I h;refine thn (hl pins s σ H _ I h) λv s1 ⟨xv,H1,I1,r1,q1⟩=>?_;obtain ⟨a,ks,e,hK,q⟩:=q1;subst e;cases r1;obtain ⟨D,T,hD⟩:=hK.tb _ I1.kIn;obtain ⟨o,ho⟩:=hK.lk;obtain ⟨lo,kvs,hdo,hf⟩:=T;obtain ⟨ep,hat⟩:=hdo.dictAt;have ek:=wW hf hD;subst ek
 have hall:∀ h:Heap,X.K.In h->h.DictAt (strKind X.prog X.w) a kvs ep:=λh x=>by obtain ⟨o',es,e1,r⟩:=hat;have z:=I1.kIn _ _ ho;rw [e1] at z;cases z;exact ⟨_,es,x _ _ ho,r⟩
 refine wpAny_pyIter_dict lo hat ?_;refine ⟨s1.heap.objs.size,[s1.heap.objs.size],_,_,H1,rfl,I1.kept (t':=s1.toks) λb o e=>Heap.get?_push_of_some _ e,AH hall,⟨_,Heap.get?_push_size _ rfl,rfl,rfl⟩,λb hb=>?_,q⟩;have e:b=s1.heap.objs.size:=by simpa using hb
 subst e;exact I1.fpOk (Nat.le_refl _) (I1.hok.fresh (Nat.le_refl _))
end
def RC (K:W.Frag) (t:TE) (σ:St) (H:Hp) (es:List D):Prop:=∀ H1,Same H H1->∀ Q:VK,(∀ l ys H',H1 l=none->Same H1 H'->H' l=some (.lst ys)->Dats K H' es ys->Q (.ref l) H')->t σ H1 Q
section
variable {K:W.Frag} {σ:St} {H H':Hp} {d d':D} {ds es:List D} {t u ta tb te tl:TE} {tt uu:TT} {tA:TA} {i j:Int} {b c:Bool} {mk:St->St} {jj:Nat}
theorem RC.mono (h:RC K t σ H es) (e:Same H H'):RC K t σ H' es:=λH1 s Q q=>h H1 (e.trans s) Q q
theorem RC.as (h:RC K t σ H es) (e:es=ds):RC K t σ H ds:=e ▸ h
theorem RC.use {Q:VK} (h:RC K t σ H es) (q:∀ l ys H',H l=none->Same H H'->H' l=some (.lst ys)->Dats K H' es ys->Q (.ref l) H'):t σ H Q:=h H (Same.refl H) Q q
theorem eK (h:RA K tA σ H es) (hl:es.length<=1000:=by simp):RC K (rQ tA) σ H es:=λH1 s Q q =>
 uX (h.mono s) (λp vs H2 s2 hp hd=>q p vs _ (s2.free hp) (s2.trans (aG hp _)) aq ((aG hp _).dats hd)) hl
variable {cs:List D}
theorem rE (h:RE K tl σ H (.tup cs)) (hc:cs.length<=1000) (es:List D) (hl:es.length=cs.length) (h0:(mk σ).set jj none=mk σ)
  (turn:∀ H1 (i:Nat) c v d,Same H H1->cs[i]?=some c->es[i]?=some d->Dat K H1 c v->RE K te ((mk σ).set jj (some v)) H1 d):RC K (fK (yT K tl) mk (bX jj) dS te) σ H es:=λH1 s Q q =>
 pM (K:=K) (h.mono s) hc es hl h0 (λH2 i c v d s2=>turn H2 i c v d (s.trans s2)) (λl ys H2 hl s2 hy hd=>q l ys H2 hl s2 hy hd)
variable {x:Str}
theorem D5 (h:RE K tl σ H (.str x)) (hc:x.cps.size<=1000) (es:List D) (hl:es.length=x.cps.size) (h0:(mk σ).set jj none=mk σ)
  (turn:∀ H1 (i:Nat) c d,Same H H1->x.cps[i]?=some c->es[i]?=some d->RE K te ((mk σ).set jj (some (.str ⟨#[c]⟩))) H1 d):RC K (fK (EF tl) mk (bX jj) dS te) σ H es:=λH1 s Q q=>by
 refine (h.mono s).use λv4 H4 s4 q4=>?_;have e:=q4.strE;subst e;refine ⟨x,rfl,?_⟩;refine ia (K:=K) (Q:=Q) (n:=x.cps.size) (item:=λi=>.str ⟨#[x.cps.getD i 0]⟩) (λi H' s hi=>⟨hi,λv H'' y=>⟨y.1,?_⟩⟩) (λH' s=>rfl) h0 es hl hc (λi d hi=>?_) (λl ys H5 hl5 s5=>q l ys H5 (s4.free hl5) (s4.trans s5))
 ·obtain ⟨_,c,hc,e⟩:=y;rw [e,Array.getD_eq_getD_getElem?,hc];rfl
 ·have hi':i < es.length:=(List.getElem?_eq_some_iff.mp hi).1
  have hc:x.cps[i]?=some (x.cps.getD i 0):=by rw [Array.getD_eq_getD_getElem?,Array.getElem?_eq_getElem (by omega)];rfl
  exact turn H4 i _ d (s.trans s4) hc hi
variable {a:Addr}
theorem D6 {P:Program} {w:World} {ks:List Str} (hK:xU P w K a ks) (hc:ks.length<=1000) (es:List D) (hl:es.length=ks.length) (h0:(mk σ).set jj none=mk σ)
  (turn:∀ H1 (i:Nat) k d,Same H H1->ks[i]?=some k->es[i]?=some d->RE K te ((mk σ).set jj (some (.str k))) H1 d):RC K (fK (EG P w K (tC (.ref a))) mk (bX jj) dS te) σ H es:=λH1 s Q q=>by
 refine ⟨a,ks,rfl,hK,?_⟩;refine ia (K:=K) (Q:=Q) (n:=ks.length) (item:=λi=>.str (ks.getD i "")) (λi H' s hi=>⟨hi,λv H'' y=>⟨y.1,?_⟩⟩) (λH' s=>rfl) h0 es hl hc (λi d hi=>?_) q
 ·obtain ⟨_,k,hk,e⟩:=y;rw [e,List.getD_eq_getElem?_getD,hk];rfl
 ·have hi':i < es.length:=(List.getElem?_eq_some_iff.mp hi).1
  have hk:ks[i]?=some (ks.getD i ""):=by rw [List.getD_eq_getElem?_getD,List.getElem?_eq_getElem (by omega)];rfl
  exact turn H1 i _ d s hk hi
theorem B4 (h:RC K tl σ H cs) (hc:cs.length<=1000) (es:List D) (hl:es.length=cs.length) (h0:(mk σ).set jj none=mk σ)
  (turn:∀ H1 (i:Nat) c v d,Same H H1->cs[i]?=some c->es[i]?=some d->Dat K H1 c v->RE K te ((mk σ).set jj (some v)) H1 d):RC K (fK (pB K tl) mk (bX jj) dS te) σ H es:=λH1 s Q q=>by
 refine (h.mono s).use λl4 ys4 H4 hl4 s4 hy4 hd4=>?_;have ll:=hd4.length;refine ⟨l4,rfl,⟨ys4,SqL.of hy4⟩,?_⟩;refine ia (K:=K) (Q:=Q) (n:=ys4.length) (item:=λi=>ys4.getD i .non) (λi H' s hi=>nj i H' (SqL.of (s _ _ hy4)) hi) (λH' s=>⟨ys4,SqL.of (s _ _ hy4),Nat.le_refl _⟩) h0 es (by omega) (by omega) (λi d hi=>?_) (λl ys H5 hl5 s5=>q l ys H5 (s4.free hl5) (s4.trans s5));have hi':i < es.length:=(List.getElem?_eq_some_iff.mp hi).1;have hic:i < cs.length:=by omega
 obtain ⟨vz,ez,hz⟩:=hd4.get (List.getElem?_eq_getElem hic);have q:=turn H4 i cs[i] vz d (s.trans s4) (List.getElem?_eq_getElem hic) hi hz;rw [List.getD_eq_getElem?_getD,ez];exact q
theorem iG {R:List D->List D->Prop} {E:XK} (h:RA K tA σ H ds) (e:R ds es):RC K (iy (hV K R) [] E tA) σ H es:=λH1 s Q q =>
 h H1 s _ λvs H2 s2 q2=>⟨ds,es,by rw [List.append_nil];exact q2,e,λr us H3 s3 hr hr0 hd=>q r us H3 (s2.free hr0) (s2.trans s3) hr hd⟩
theorem jE {bs:List Bool} (h:RC K t σ H (bs.map D.bl)):RE K (tCB (λxs H Q=>∃ (l:Addr) (bs:List Bool),xs=[.ref l]/\SqL K H l (bs.map V.bl)/\Q (.bl (bs.all id)) H) (bC t c7)) σ H (.bl (bs.all id)):=λH1 s Q q =>
 f7 ((h.mono s).use λl ys H' _ s' hy hd=>⟨l,bs,rfl,by rw [<- yA hd];exact SqL.of hy,q _ _ s' (Dat.blI _)⟩)
theorem B7 {bs:List Bool} (h:RC K t σ H (bs.map D.bl)):RE K (tCB (λxs H Q=>∃ (l:Addr) (bs:List Bool),xs=[.ref l]/\SqL K H l (bs.map V.bl)/\Q (.bl (bs.any id)) H) (bC t c7)) σ H (.bl (bs.any id)):=λH1 s Q q =>
 f7 ((h.mono s).use λl ys H' _ s' hy hd=>⟨l,bs,rfl,by rw [<- yA hd];exact SqL.of hy,q _ _ s' (Dat.blI _)⟩)
theorem xG (h:RC K t σ H es):RE K (tCB (λxs H Q=>∃ p ys,xs=[.ref p]/\((SqL K H p ys/\∀ l,H l=none->Q (.ref l) (upd H l (.tup ys)))\/(SqT K H p ys/\Q (.ref p) H))) (bC t c7)) σ H (.tup es):=λH1 s Q q =>
 f7 ((h.mono s).use λl ys H' _ s' hy hd=>⟨l,ys,rfl,.inl ⟨SqL.of hy,λp hp=>q _ _ (s'.trans (aG hp _)) (Dat.tupI (SqT.of aq) ((aG hp _).dats hd))⟩⟩)
theorem xH (h:RE K t σ H (.tup es)):RE K (tCB (λxs H Q=>∃ p ys,xs=[.ref p]/\((SqL K H p ys/\∀ l,H l=none->Q (.ref l) (upd H l (.tup ys)))\/(SqT K H p ys/\Q (.ref p) H))) (bC t c7)) σ H (.tup es):=λH1 s Q q =>
 f7 ((h.mono s).use λv H' s' hd=>by
  obtain ⟨a,vs,e,hq,hds⟩:=hd.tupE;subst e;exact ⟨a,vs,rfl,.inr ⟨hq,q _ _ s' (Dat.tupI hq hds)⟩⟩)
theorem B8 (h:RC K t σ H es):RE K (tCB (λxs H Q=>∃ p ys,xs=[.ref p]/\(SqL K H p ys\/SqT K H p ys)/\Q (.int ys.length) H) (bC t c7)) σ H (.int es.length):=λH1 s Q q =>
 f7 ((h.mono s).use λl ys H' _ s' hy hd=>⟨l,ys,rfl,.inl (SqL.of hy),by rw [<- hd.length];exact q _ _ s' (Dat.intI _)⟩)
theorem B9 (h:RE K t σ H (.str x)) (hx:x.length<=sizeLine):RE K (tCB (λxs H Q=>∃ z:Str,xs=[.str z]/\z.length<=sizeLine/\Q (.int z.length) H) (bC t c7)) σ H (.int x.length):=λH1 s Q q =>
 f7 ((h.mono s).use λv H' s' hd=>by
  rw [hd.strE];exact ⟨x,rfl,hx,q _ _ s' (Dat.intI _)⟩)
theorem fT {us:TS} {En:iU} {k:Nat} (h:RC K t σ H es) (q:∀ l ys H',H l=none->Same H H'->H' l=some (.lst ys)->Dats K H' es ys->us En (σ.set k (some (.ref l))) H'):jK (oW t (bX k)) us En σ H:=h.use q
variable {z:Str}
theorem xA {tc:TE} {y:Str} {p q':Str->Str->Bool} (h1:RE K ta σ H (.str x)) (h2:RE K tb σ H (.str y)) (h3:p x y=true->RE K tc σ H (.str z)) :
  RE K (rP (λu v H Q=>∃ i j:Str,u=.str i/\v=.str j/\Q (.bl (p i j)) H) (λu v H Q=>∃ i j:Str,u=.str i/\v=.str j/\Q (.bl (q' i j)) H) ta tb tc) σ H (.bl (p x y && q' y z)):=λH1 s Q q =>
 h1 H1 s _ λv H2 s2 q2=>h2 H2 (s.trans s2) _ λw H3 s3 q3=>by
  refine ⟨x,y,q2.strE,q3.strE,p x y,rfl,?_⟩
  cases hp:p x y with
  | true =>simp only [if_true,Bool.true_and];exact h3 hp H3 (s.trans (s2.trans s3)) _ λz' H4 s4 q4=>⟨y,z,q3.strE,q4.strE,q _ _ (s2.trans (s3.trans s4)) (by rw [hp];exact Dat.blI _)⟩
  | false =>simp only [Bool.false_eq_true,if_false,Bool.false_and];exact q _ _ (s2.trans s3) (by rw [hp];exact Dat.blI _)
variable {T:List (Str × KTD.Dat)}
theorem tR {k:Str} (h:RE K t σ H (.str k)) (ht:jI K a T):RE K (tOp (λx y H Q=>∃ k a T,x=.str k/\y=.ref a/\jI K a T/\Q (.bl (!KTD.inKeys k T)) H) t (tC (.ref a))) σ H (.bl (!KTD.inKeys k T)):=λH1 s Q q =>
 h H1 s _ λv H2 s2 q2=>⟨k,a,T,q2.strE,rfl,ht,q _ _ s2 (Dat.blI _)⟩
theorem xC {k:Str} (h:RE K t σ H (.str k)) (ht:jI K a T) (hp:(T.all λp=>KTD.plain p.2)=true) (e:KTD.datumAt k T=some (.flat (.str z))):RE K (tOp (wq K) (tC (.ref a)) t) σ H (.str z):=λH1 s Q q =>
 h H1 s _ λv H2 s2 q2=>⟨a,k,T,z,rfl,q2.strE,ht,hp,e,q _ _ s2 (Dat.strI _)⟩
def iz (k:Str) (T:List (Str × KTD.Dat)) (i:Int):Int:=match KTD.datumAt k T with | some (.flat (.int j))=>j | _=>i
theorem xF {k:Str} (ht:jI K a T) (h1:RE K ta σ H (.str k)) (h2:RE K tb σ H (.int i)) (hT:∀ p ∈ T,∃ j,p.2=.flat (.int j)):RE K (wI K (tC (.ref a)) ta tb) σ H (.int (iz k T i)):=λH1 s Q q =>
 ⟨a,T,rfl,ht,h1 H1 s _ λv H2 s2 q2=>h2 H2 (s.trans s2) _ λw H3 s3 q3=>⟨k,i,(s3.dat q2).strE,q3.intE,hT,q _ _ (s2.trans s3) (Dat.intI _)⟩⟩
variable {lo hi:Nat}
theorem vE {vs:List V}:oM vs (some (lo:Int)) (some (hi:Int))=(vs.drop lo).take (hi - lo):=by
 unfold oM;rw [HT.sIx_nat,HT.sIx_nat];apply List.ext_getElem?;intro i;simp only [List.getElem?_take,List.getElem?_drop];by_cases h1:i < hi - lo
 ·rw [if_pos h1];by_cases h2:i < min hi vs.length - min lo vs.length
  ·rw [if_pos h2];congr 1;omega
  ·rw [if_neg h2,List.getElem?_eq_none (by omega)]
 ·rw [if_neg h1,if_neg (by omega)]
theorem Dats.dropN:∀ {n:Nat} {ds:List D} {vs:List V},Dats K H ds vs->Dats K H (ds.drop n) (vs.drop n)
 | 0,_,_,h=>h
 | n+1,[],_,h=>by rw [h.nilE];exact Dats.nil
 | n+1,d::ds,_,h=>by obtain ⟨v,r,e,h1,h2⟩:=h.consE;subst e;exact Dats.dropN (n:=n) h2
theorem Dats.takeN:∀ {n:Nat} {ds:List D} {vs:List V},Dats K H ds vs->Dats K H (ds.take n) (vs.take n)
 | 0,_,_,h=>by rw [List.take_zero,List.take_zero];exact Dats.nil
 | n+1,[],_,h=>by rw [h.nilE];exact Dats.nil
 | n+1,d::ds,_,h=>by obtain ⟨v,r,e,h1,h2⟩:=h.consE;subst e;exact Dats.cons h1 (Dats.takeN (n:=n) h2)
theorem D8 (h:RE K t σ H (.tup ds)) (h1:RE K ta σ H (.int lo)) (h2:RE K tb σ H (.int hi)) (hl:1<=lo) (hd:0 < ds.length):RE K (tSl (D1 K) t (pY ta) (pY tb)) σ H (.tup ((ds.drop lo).take (hi - lo))):=λH1 s Q q =>
 h H1 s _ λv H2 s2 q2=>h1 H2 (s.trans s2) _ λv3 H3 s3 q3=>⟨lo,q3.intE,h2 H3 (s.trans (s2.trans s3)) _ λv4 H4 s4 q4=>⟨hi,q4.intE,by
  obtain ⟨a,vs,ev,hq,hds⟩:=((s3.trans s4).dat q2).tupE;have ll:=hds.length;refine ⟨a,vs,ev,hq,λz=>?_,λp hp=>?_⟩
  ·rw [HT.sIx_nat] at z;omega
  ·rw [vE];exact q _ _ (s2.trans (s3.trans (s4.trans (aG hp _)))) (Dat.tupI (SqT.of aq) ((aG hp _).dats (Dats.takeN (Dats.dropN hds))))⟩⟩
end
mutual
def fJ (K:W.Frag):D->Value->Bool
 | .non,u=>(match u with | .none=>true | _=>false)
 | .bl b,u=>(match u with | .bool c=>b == c | _=>false)
 | .int i,u=>(match u with | .int j _=>i == j | _=>false)
 | .str x,u=>(match u with | .str y _=>x == y | _=>false)
 | .tup ds,u=>(match u with | .ref a=>(match K.lookup a with | some ⟨.type "tuple",_,.seq its _,_⟩=>decide (its.size<=1000) && datsOk K ds its.toList | _=>false) | _=>false)
 | .lst,_=>false
def datsOk (K:W.Frag):List D->List Value->Bool
 | [],us=>us.isEmpty
 | d::ds,us=>(match us with | u::r=>fJ K d u && datsOk K ds r | []=>false)
end
mutual
variable {K:W.Frag}
theorem md (H:Hp):∀ (d:D) (u:Value),fJ K d u=true->∃ v,RelV v u/\Dat K H d v
 | .non,u,h=>by unfold fJ at h;cases u <;> first | (exact ⟨.non,rfl,Dat.nonI⟩) | cases h
 | .bl b,u,h=>by
  unfold fJ at h;cases u <;> first | cases h | skip
  rename_i c;have e:b=c:=by simpa using h
  subst e;exact ⟨.bl b,rfl,Dat.blI _⟩
 | .int i,u,h=>by
  unfold fJ at h;cases u <;> first | cases h | skip
  rename_i j t;have e:i=j:=by simpa using h
  subst e;exact ⟨.int i,⟨t,rfl⟩,Dat.intI _⟩
 | .str x,u,h=>by
  unfold fJ at h;cases u <;> first | cases h | skip
  rename_i y t;have e:x=y:=by simpa using h
  subst e;exact ⟨.str x,⟨t,rfl⟩,Dat.strI _⟩
 | .tup ds,u,h=>by
  unfold fJ at h;cases u <;> first | cases h | skip
  rename_i a;dsimp only at h;split at h
  ·rename_i od its n sl e;rw [Bool.and_eq_true] at h;obtain ⟨vs,r,hd⟩:=datsOk_sound H ds its.toList h.2;refine ⟨.ref a,rfl,Dat.tupI (.inr ⟨_,its,n,e,rfl,rfl,?_,r⟩) hd⟩;exact Nat.le_trans (of_decide_eq_true h.1) (by decide)
  ·cases h
 | .lst,u,h=>by unfold fJ at h;cases h
theorem datsOk_sound (H:Hp):∀ (ds:List D) (us:List Value),datsOk K ds us=true->∃ vs,Vals vs us/\Dats K H ds vs
 | [],us,h=>by
  unfold datsOk at h
  cases us with
  | nil=>exact ⟨[],.nil,Dats.nil⟩
  | cons u r=>cases h
 | d::ds,us,h=>by
  unfold datsOk at h
  cases us with
  | nil=>cases h
  | cons u r =>dsimp only at h;rw [Bool.and_eq_true] at h;obtain ⟨v,r1,h1⟩:=md H d u h.1;obtain ⟨vs,r2,h2⟩:=datsOk_sound H ds r h.2;exact ⟨v::vs,.cons r1 r2,Dats.cons h1 h2⟩
end
theorem Fk (h:fJ K (.tup ds) (.ref a)=true) (H:Hp):Dat K H (.tup ds) (.ref a):=by obtain ⟨v,r,hd⟩:=md H _ _ h;obtain ⟨b,vs,e,_⟩:=id hd.tupE;subst e;have z:Value.ref a=.ref b:=r;cases z;exact hd
theorem nZ (h:fJ K (.tup ds) (.ref a)=true):RE K (tC (.ref a)) σ H (.tup ds):=λH1 _ Q q=>q _ _ (Same.refl _) (Fk h H1)
section
variable {X:Cx}
theorem yu:hW X (.type "range") (λxs H Q=>∃ n:Nat,xs=[.int n]/\∀ p,H p=none->Q (.ref p) (upd H p (.rng 0 n))):=by intro pins s σ H xs us Q I r h;obtain ⟨n,rfl,q⟩:=h;obtain ⟨u,rfl,ru⟩:=gS r;obtain ⟨t,rfl⟩:=ru;refine call_range_1 ⟨.ref s.heap.objs.size,_,I.laid (λb o e=>Heap.get?_push_of_some _ e) (Nat.le_refl _) (show ObjOk X.prog X.w _ _ _ (.rng 0 n) from ⟨_,_,_,Heap.get?_push_size _ rfl⟩),rfl,q _ (I.hok.fresh (Nat.le_refl _))⟩
theorem AM {n:Nat} {acc:Array Value} (h:ItemsOf (λi v=>∃ t,v=.int ((0:Int)+(i:Nat) * 1) t) acc n):Vals ((List.range n).map λi:Nat=>V.int i) acc.toList:=by
 obtain ⟨hs,hi⟩:=h
 have all:∀ (l:List Value) (k:Nat),(∀ (j:Nat) (v:Value),l[j]?=some v->∃ t,v=Value.int ((0:Int)+((k+j:Nat):Int) * 1) t)->Vals ((List.range' k l.length).map λi:Nat=>V.int i) l:=by
  intro l
  induction l with
  | nil=>intro k _;exact .nil
  | cons u l ih =>
   intro k hj;rw [List.length_cons,List.range'_succ,List.map_cons];refine .cons ?_ (ih (k+1) λj v e=>?_)
   ·obtain ⟨t,e⟩:=hj 0 u rfl;refine ⟨t,?_⟩;rw [e];congr 1;simp
   ·obtain ⟨t,e'⟩:=hj (j+1) v (by simpa using e);refine ⟨t,?_⟩;rw [e'];congr 1;have:k+(j+1)=k+1+j:=by omega
    rw [this]
 have q:=all acc.toList 0 λj v e=>by rw [Nat.zero_add];exact hi j v (by simpa using e)
 rw [List.range_eq_range'];rw [Array.length_toList,hs] at q;exact q
theorem oK (hc:X.calm=true):hW X (.type "list") (λxs H Q=>∃ (p:Addr) (n:Nat),xs=[.ref p]/\H p=some (.rng 0 n)/\n<=1000/\∀ l,H l=none->Q (.ref l) (upd H l (.lst ((List.range n).map λi:Nat=>V.int i)))):=by
 intro pins s σ H xs us Q I r h;obtain ⟨p,n,rfl,hp,hn,q⟩:=h;obtain ⟨u,rfl,rx⟩:=gS r;cases rx;obtain ⟨t,u,v,e⟩:=(show ObjOk X.prog X.w H s.heap p (.rng 0 n) from I.hok p _ hp)
 refine call_list_range (n:=n) (I.ok.hd hc) (show IsRange s.heap p 0 n 1 t u v from e) (small_one (by omega) (by omega) (by omega) (by omega)) ?_ (by omega) λh' tk acc' c' kp e' hacc=>?_
 ·rw [rangeSize_one];split <;> omega
 ·have hv:=AM hacc;have hl:=hv.length;refine ⟨.ref s.heap.objs.size,_,I.laid kp (Nat.le_refl _) (show ObjOk X.prog X.w _ h' _ (.lst _) from ⟨?_,acc'.toList,c',hv,by simpa using e'⟩),rfl,q _ (I.hok.fresh (Nat.le_refl _))⟩;simp only [List.length_map,List.length_range];exact Nat.le_trans hn (by decide)
def Ep (K:W.Frag) (a:Addr) (xs:List V):Prop:=∃ (its:Array Value) (n:Nat),K.lookup a=some ⟨.type "list",none,.seq its n,#[]⟩/\its.size<=1000/\Vals xs its.toList
def aLst (K:W.Frag) (H:Hp) (a:Addr) (xs:List V):Prop:=H a=some (.lst xs)\/Ep K a xs
variable {H:Hp} {a:Addr} {xs:List V}
theorem aLst.sqL {K:W.Frag} (h:aLst K H a xs):SqL K H a xs:=by
 rcases h with h | ⟨its,n,e,hz,r⟩
 ·exact SqL.of h
 ·exact .inr ⟨_,its,n,e,rfl,rfl,rfl,Nat.le_trans hz (by decide),r⟩
theorem aLst.at {pins:List (Addr × Obj)} {σ:St} {s:Shared} (I:Inv X pins σ H s) (h:aLst X.K H a xs):∃ (its:List Value) (n:Nat),Vals xs its/\s.heap.get? a=some { cls:=.type "list",data:=.seq its.toArray n }:=by
 rcases h with h | ⟨its,n,e,hz,r⟩
 ·obtain ⟨z,its,n,r,hl,e⟩:=I.lstM h;exact ⟨its,n,r,e⟩
 ·exact ⟨its.toList,n,r,by simpa using I.kIn _ _ e⟩
def CJ (K:W.Frag):R2:=λx y H Q=>∃ l b xs zs,x=.ref l/\y=.ref b/\aLst K H l xs/\aLst K H b zs/\xs.length+zs.length<=1000/\∀ p,H p=none->Q (.ref p) (upd H p (.lst (xs++zs)))
theorem dt:OpR X (binaryOp .Add) (CJ X.K):=by
 intro pins s σ H x y v u Q I rx ry h;obtain ⟨l,b,xs,zs,rfl,rfl,hH,hB,hz,q⟩:=h;cases rx;cases ry;obtain ⟨its,n,r,e⟩:=hH.at I;obtain ⟨its2,n2,r2,e2⟩:=hB.at I;have l1:=r.length;have l2:=r2.length;have hz':xs.length+zs.length<=sizeLine:=Nat.le_trans hz (by decide);refine PySem.P.add_list e e2 ?_ (by rw [List.size_toArray,List.size_toArray];omega);have ea:its.toArray++its2.toArray=(its++its2).toArray:=by simp
 rw [ea];exact ⟨.ref _,_,I.lnew (t':=s.toks) (r.append r2) (by rw [List.length_append];omega),rfl,q _ I.fresh⟩
end
section
variable {K:W.Frag} {σ:St} {H:Hp} {t:TE} {n:Nat}
def nD (K:W.Frag) (ds:List D) (a:Addr):Bool:=match K.lookup a with
 | some ⟨.type "list",none,.seq its _,sl⟩=>decide (its.size<=1000) && (sl.isEmpty && datsOk K ds its.toList)
 | _=>false
theorem qL {K:W.Frag} {ds:List D} {a:Addr} (h:nD K ds a=true) (H:Hp):∃ vs,Ep K a vs/\Dats K H ds vs:=by
 unfold nD at h;split at h
 ·rename_i its n sl e;rw [Bool.and_eq_true,Bool.and_eq_true] at h;obtain ⟨vs,r,hd⟩:=datsOk_sound H ds its.toList h.2.2;have es:sl=#[]:=by simpa using h.2.1
  subst es;exact ⟨vs,⟨its,n,e,of_decide_eq_true h.1,r⟩,hd⟩
 ·cases h
theorem rD (h:RE K t σ H (.int n)) (hn:n<=1000):RC K (tCB (λxs H Q=>∃ (p:Addr) (n:Nat),xs=[.ref p]/\H p=some (.rng 0 n)/\n<=1000/\∀ l,H l=none->Q (.ref l) (upd H l (.lst ((List.range n).map λi:Nat=>V.int i))))
  (bC (tCB (λxs H Q=>∃ n:Nat,xs=[.int n]/\∀ p,H p=none->Q (.ref p) (upd H p (.rng 0 n))) (bC t c7)) c7)) σ H ((List.range n).map λi:Nat=>D.int i):=λH1 s Q q =>
 f7 (f7 ((h.mono s).use λv H2 s2 q2=>by
  rw [q2.intE];refine ⟨n,rfl,λp hp=>⟨p,n,rfl,aq,hn,λl hl=>?_⟩⟩;have s3:=s2.trans ((aG hp (.rng 0 n)).trans (aG hl (.lst ((List.range n).map λi:Nat=>V.int i))));refine q l _ _ ((s2.trans (aG hp _)).free hl) s3 aq ?_
  have z:∀ m:List Nat,Dats K (upd (upd H2 p (.rng 0 n)) l (.lst ((List.range n).map λi:Nat=>V.int i))) (m.map λi:Nat=>D.int i) (m.map λi:Nat=>V.int i):=by
   intro m
   induction m with
   | nil=>exact Dats.nil
   | cons a m ih=>exact Dats.cons (Dat.intI _) ih
  exact z _))
end
structure Tri (l0 l1 l2:Addr) (H:Hp) (a b c:List V):Prop where
 h0:H l0=some (.lst a)
 h1:H l1=some (.lst b)
 h2:H l2=some (.lst c)
 n01:l0≠l1
 n02:l0≠l2
 n12:l1≠l2
def But3 (l0 l1 l2:Addr) (H H':Hp):Prop:=∀ b o,b≠l0->b≠l1->b≠l2->H b=some o->H' b=some o
section
variable {K:W.Frag} {l0 l1 l2:Addr} {H H' H2:Hp} {a b c a' b' c':List V} {v:V}
theorem Same.but3 (e:Same H H'):But3 l0 l1 l2 H H':=λb o _ _ _ h=>e b o h
theorem But3.trans (x:But3 l0 l1 l2 H H') (y:But3 l0 l1 l2 H' H2):But3 l0 l1 l2 H H2:=λb o n0 n1 n2 h=>y b o n0 n1 n2 (x b o n0 n1 n2 h)
theorem Tri.same (t:Tri l0 l1 l2 H a b c) (e:Same H H'):Tri l0 l1 l2 H' a b c:=⟨e _ _ t.h0,e _ _ t.h1,e _ _ t.h2,t.n01,t.n02,t.n12⟩
theorem But3.grow (e:But3 l0 l1 l2 H H') (t:Tri l0 l1 l2 H a b c) (t':Tri l0 l1 l2 H' a' b' c'):dH K H H':=by
 have key:∀ (x:Addr) (o:HO),H x=some o->(∀ xs,o≠.lst xs)->H' x=some o:=λx o h ho =>
  e x o (λz=>by rw [z,t.h0] at h;cases h;exact ho _ rfl) (λz=>by rw [z,t.h1] at h;cases h;exact ho _ rfl) (λz=>by rw [z,t.h2] at h;cases h;exact ho _ rfl) h
 refine ⟨λx xs h=>?_,λx xs h=>?_⟩
 ·rcases h with (h | ⟨o,h⟩) | h
  ·exact .inl (.inl (key _ _ h (λ_ z=>by cases z)))
  ·exact .inl (.inr ⟨o,key _ _ h (λ_ z=>by cases z)⟩)
  ·exact .inr h
 ·by_cases z0:x=l0
  ·rw [z0];exact ⟨_,SqL.of t'.h0⟩
  by_cases z1:x=l1
  ·rw [z1];exact ⟨_,SqL.of t'.h1⟩
  by_cases z2:x=l2
  ·rw [z2];exact ⟨_,SqL.of t'.h2⟩
  refine ⟨xs,?_⟩;rcases h with (h | ⟨o,h⟩) | h
  ·exact .inl (.inl (e _ _ z0 z1 z2 h))
  ·exact .inl (.inr ⟨o,e _ _ z0 z1 z2 h⟩)
  ·exact .inr h
theorem Tri.p0 (t:Tri l0 l1 l2 H a b c):Tri l0 l1 l2 (upd H l0 (.lst (a++[v]))) (a++[v]) (b++[]) (c++[])/\But3 l0 l1 l2 H (upd H l0 (.lst (a++[v]))):=by rw [List.append_nil,List.append_nil];exact ⟨⟨aq,by rw [aO (Ne.symm t.n01)];exact t.h1,by rw [aO (Ne.symm t.n02)];exact t.h2,t.n01,t.n02,t.n12⟩,λx o n0 _ _ h=>by rw [aO n0];exact h⟩
theorem Tri.p1 (t:Tri l0 l1 l2 H a b c):Tri l0 l1 l2 (upd H l1 (.lst (b++[v]))) (a++[]) (b++[v]) (c++[])/\But3 l0 l1 l2 H (upd H l1 (.lst (b++[v]))):=by rw [List.append_nil,List.append_nil];exact ⟨⟨by rw [aO t.n01];exact t.h0,aq,by rw [aO (Ne.symm t.n12)];exact t.h2,t.n01,t.n02,t.n12⟩,λx o _ n1 _ h=>by rw [aO n1];exact h⟩
theorem Tri.p2 (t:Tri l0 l1 l2 H a b c):Tri l0 l1 l2 (upd H l2 (.lst (c++[v]))) (a++[]) (b++[]) (c++[v])/\But3 l0 l1 l2 H (upd H l2 (.lst (c++[v]))):=by rw [List.append_nil,List.append_nil];exact ⟨⟨by rw [aO t.n02];exact t.h0,by rw [aO t.n12];exact t.h1,aq,t.n01,t.n02,t.n12⟩,λx o _ _ n2 h=>by rw [aO n2];exact h⟩
theorem Tri.nil (t:Tri l0 l1 l2 H a b c):Tri l0 l1 l2 H (a++[]) (b++[]) (c++[]):=by rw [List.append_nil,List.append_nil,List.append_nil];exact t
variable {σ:St} {j:Nat} {l:Addr}
theorem gB {te:TE} {us:TS} {En:iU} {G:Hp} {xs:List V} {d:D} (h:RE K te σ G d) (hl:G l=some (.lst xs)) (hx:xs.length<=900)
  (q:∀ y G',But l G G'->G' l=some (.lst (xs++[y]))->Dat K G' d y->us En σ G') (hv:σ[j]?=some (some (.ref l)):=by rfl):jK (oE (tBM K "list" kF (fG j) (bC te c7))) us En σ G:=by
 refine ⟨_,hv,.inl ⟨rfl,_,SqL.of hl⟩,h.use λy H1 s1 q1=>?_⟩;have hl1:=s1 _ _ hl;refine ⟨l,xs,y,rfl,rfl,hl1,bx (by omega),?_⟩;have b:But l H1 (upd H1 l (.lst (xs++[y]))):=But.upd (Same.refl _).but;exact q y _ (s1.but.trans b) aq (Dat.mono (b.grow hl1 aq) _ q1)
theorem lO {f:Addr} {x:Str} {kvs:List (Key × V)} {ys:List V} {es:List D} (hf:H f=some (.dK kvs)) (hk:j5 kvs (Sum.inr x)=some (.ref l)) (hl:H l=some (.lst ys)) (hd:Dats K H es ys) (hv:σ[j]?=some (some (.ref f)):=by rfl) :
  RE K (tCB (λxs H Q=>∃ p ys,xs=[.ref p]/\((SqL K H p ys/\∀ l,H l=none->Q (.ref l) (upd H l (.tup ys)))\/(SqT K H p ys/\Q (.ref p) H))) (bC (CV (fG j) (tC (.str x))) c7)) σ H (.tup es):=λH1 s Q q =>
 ⟨_,hv,f,.ref l,rfl,by have g:=DGet.k (k:=Sum.inr x) (s _ _ hf);rw [hk] at g;exact g,l,ys,rfl,.inl ⟨SqL.of (s _ _ hl),λp hp=>q _ _ (aG hp _) (Dat.tupI (SqT.of aq) ((aG hp _).dats (s.dats hd)))⟩⟩
end
theorem vS:∀ {ns:List Int} {us:List Value},Vals (ns.map V.int) us->IntsAre us ns
 | [],us,h=>by cases h;exact .nil
 | n::ns,us,h=>by
  cases h with
  | cons r t =>obtain ⟨tk,rfl⟩:=r;exact .cons n tk (vS t)
section
variable {X:Cx}
theorem r6 (hc:X.calm=true):hW X (.builtin "sum") (λxs H Q=>∃ (l:Addr) (ns:List Int),xs=[.ref l]/\SqL X.K H l (ns.map V.int)/\Q (.int ns.sum) H):=by
 intro pins s σ H xs us Q I r h;obtain ⟨l,ns,rfl,hq,q⟩:=h;obtain ⟨u,rfl,ru⟩:=gS r;cases ru;obtain ⟨its,rv,p,hz⟩:=I.list hq;have hi:=vS rv;obtain ⟨zs,hzs⟩:=hi.allInts.items;refine sum_intListG (I.ok.hd hc) (show s.heap.IsList l (intItems zs) from hzs ▸ p.isList) λh' tk t' hk=>?_
 have a1:zs.toList.map (·.1)=ns:=by have z:=hi.numsOf;rw [show its=(intItems zs).toList by rw [<- hzs]] at z;rw [<- z,nums_intItems]
 have a2:preSum (numAt zs) zs.size=ns.sum:=by rw [preSum_eq,<- a1,List.take_of_length_le (by simp)]
 rw [a2];exact ⟨.int ns.sum,H,I.kept (t':=tk) hk,⟨t',rfl⟩,q⟩
def Itv (K:W.Frag) (a:Addr) (xs:List V):It:=⟨λi H=>i < xs.length/\SqL K H a xs,λi H x H'=>H'=H/\xs[xs.length - 1 - i]?=some x,λi _=>i=xs.length⟩
theorem AG {P:Program} {w:World} {K:W.Frag} {tg:Expr} (a it:Addr) (xs:List V):mD P w K tg (Itv K a xs) [it] it (λi h=>h.IsRevIter it a ((xs.length:Int) - 1 - (i:Int))) where
 mem:=by simp
 obj:=λi h st b hb=>by
  have e:b=it:=by simpa using hb
  subst e;obtain ⟨o,e,c,d⟩:=st;exact ⟨o,e,λv z=>by rw [d] at z;cases z⟩
 keep:=λi h h' st k=>by obtain ⟨o,e,r⟩:=st;exact ⟨o,k it (by simp) o e,r⟩
 item:=by
  intro X hP hw hK hc i pins s σ H E I hf st hg;subst hP hw hK;obtain ⟨hi,hq⟩:=hg;obtain ⟨its,rv,p,hz⟩:=I.list hq;obtain ⟨f0,f1,f2,f3,f4,f5⟩:=hf it (by simp);have lr:=rv.length;have hx:xs[xs.length - 1 - i]?=some (xs[xs.length - 1 - i]'(by omega)):=List.getElem?_eq_getElem (by omega);obtain ⟨u,hu,ru⟩:=rv.get hx;have e1:(xs.length:Int) - 1 - (i:Int)=((xs.length - 1 - i:Nat):Int):=by omega
  have st1:s.heap.IsRevIter it a ((xs.length - 1 - i:Nat):Int):=by rw [<- e1];exact st
  refine wpAny_pyNext_rev_item st1 p.isList (x:=u) (by simpa using hu) λh' st' sb=>?_;have e2:((xs.length - 1 - i:Nat):Int) - 1=(xs.length:Int) - 1 - ((i+1:Nat):Int):=by omega
  rw [e2] at st';have I1:Inv X pins σ H { s with heap:=h' }:=I.turned (t':=s.toks) (λb o hb e=>(sb.2 b hb).trans e) f0 f1 f3 f4 f5;obtain ⟨o,e,c,d⟩:=id st';exact ⟨u,rfl,sD (s:={ s with heap:=h' }) e c d (by decide) ⟨_,H,I1,ru,⟨rfl,hx⟩,st',λb hb=>(hf b hb).1⟩⟩
 done:=by
  intro X hP hw hK hc i pins s σ H E I hf st hg;subst hP hw hK;obtain ⟨f0,f1,f2,f3,f4,f5⟩:=hf it (by simp);have hg':i=xs.length:=hg;subst hg';have e1:(xs.length:Int) - 1 - (xs.length:Int)=-1:=by omega
  rw [e1] at st;exact wpAny_pyNext_rev_end (I.ok.hd hc) st λh' eb=>⟨rfl,I.turned (t':=s.toks) (λb o hb e=>eb b o hb e) f0 f1 f3 f4 f5⟩
 self:=λA i s Q E st q=>wpAny_pyIter_revIter st q
variable {tg:Expr}
def EE (K:W.Frag) (ta:TA):TI:=λσ H R=>ta σ H λvs H1=>∃ a xs,vs=[.ref a]/\SqL K H1 a xs/\R (Itv K a xs) H1
theorem DX {a:Expr} {ta:TA} {p pos:Pos} (hg:Gl X "reversed") (hm:X.mg "reversed"=none) (ha:PA X [a] ta) (hs:starEach [a] X.env=[(false,eval a X.env)]:=by rfl):PI X tg (.Call (.Name "reversed" p) [a] [] pos) (EE X.K ta):=by
 intro pins s σ H R I h;refine Call_ (i8 I hg hm rY (PyProof.Rows.callWith_type1 (thn (ha pos pins s σ H _ I h) λus s1 ⟨vs,H1,I1,r1,q1⟩=>?_) hs rfl));obtain ⟨l,xs,e,hq,q⟩:=q1;subst e;obtain ⟨u,rfl,ru⟩:=gS r1;cases ru;obtain ⟨its,rv,pl,hz⟩:=I1.list hq;have lr:=rv.length;refine call_reversed_list pl.isList ?_;have st:(s1.heap.push (revObj l ((its.toArray.size:Int) - 1))).IsRevIter s1.heap.objs.size l ((xs.length:Int) - 1 - ((0:Nat):Int)):=⟨_,Heap.get?_push_size _ rfl,rfl,by simp [revObj,lr]⟩
 refine wpAny_pyIter_revIter (s:={ s1 with heap:=s1.heap.push (revObj l ((its.toArray.size:Int) - 1)) }) st ?_;refine ⟨s1.heap.objs.size,[s1.heap.objs.size],_,_,H1,rfl,I1.kept (t':=s1.toks) λb o e=>Heap.get?_push_of_some _ e,AG l _ xs,st,λb hb=>?_,q⟩;have e:b=s1.heap.objs.size:=by simpa using hb
 subst e;exact I1.fpOk (Nat.le_refl _) (I1.hok.fresh (Nat.le_refl _))
end
def met (f:Nat->Str) (i:Nat):List Str:=((List.range i).map f).foldl step_dedup []
theorem je (f:Nat->Str) (i:Nat):met f (i+1)=step_dedup (met f i) (f i):=by unfold met;rw [List.range_succ,List.map_append,List.foldl_append];rfl
theorem qu (l:List Str) (x:Str):(step_dedup l x).length=if l.any (· == x) then l.length else l.length+1:=by unfold step_dedup;split <;> simp
theorem vK (l:List Str) (x y:Str):(step_dedup l x).any (· == y)=(l.any (· == y) || decide (y=x)):=by
 unfold step_dedup;split
 ·rename_i h;by_cases e:y=x
  ·subst e;rw [h];rfl
  ·rw [decide_eq_false e,Bool.or_false]
 ·rw [List.any_append];congr 1;by_cases e:y=x
  ·subst e;simp
  ·have e':¬ x=y:=λz=>e z.symm;simp [e,e']
theorem qM (f:Nat->Str):∀ i,(met f i).length<=i
 | 0=>by simp [met]
 | i+1=>by rw [je,qu];have:=qM f i;split <;> omega
theorem AK {R:Result->Shared->Prop} {fp wr:List Addr} {G:Array GenState->Array GenState->Prop} {Pv:Nat->Value->Prop} {St:Nat->Shared->Prop}
  (W:WalksS P w A.in1 it fp wr G n Pv St) (sa:Addr) (nsa:sa ∉ fp) (f:Nat->Str) (hf:∀ i v,Pv i v->∃ t,v=.str (f i) t) (few:n+1 < scanBound) :
  ∀ (m i:Nat) (s:Shared),n - i=m->i<=n->St i s->s.heap.SetOf (strKind P w) sa (λy=>(met f i).any (· == y)) (met f i).length ->
   (∀ s',Moved (sa::wr) G s s'->s'.heap.SetOf (strKind P w) sa (λy=>(met f n).any (· == y)) (met f n).length->R (.ok (.ret .none)) s')->codeAny (model P w) A (.builtin "set.update.loop" ⟨[.ref sa,.ref it],[]⟩) R s:=by
 have nw:sa ∉ wr:=λz=>nsa (W.sub _ z);have more:∀ b ∈ wr,b ∈ sa::wr:=λb z=>List.mem_cons_of_mem _ z;intro m
 induction m with
 | zero =>
  intro i s e1 e2 st so fin;obtain rfl:i=n:=by omega
  refine codeAny_builtin PyProof.Rows.F.entry_set_update_loop ?_;rw [Around.under_plainId PyProof.Rows.F.plain_set_update_loop _];show wpAny _ A.in1 (pyNext (.ref it) >>= _) _ _ s;refine wpAny_bind (W.done s _ _ st λs2 mv=>?_);show wpAny _ A.in1 (ret Value.none) _ _ s2;obtain ⟨o,es,ep,tb,g,rest⟩:=so;exact wpAny_pure (fin s2 (mv.mono more) ⟨o,es,ep,tb,mv.heap sa _ nw g,rest⟩)
 | succ m ih =>
  intro i s e1 e2 st so fin;have lt:i < n:=by omega
  refine codeAny_builtin PyProof.Rows.F.entry_set_update_loop ?_;rw [Around.under_plainId PyProof.Rows.F.plain_set_update_loop _];show wpAny _ A.in1 (pyNext (.ref it) >>= _) _ _ s;refine wpAny_bind (W.item i s _ _ lt st λv s2 pv st2 mv=>?_);obtain ⟨tk,rfl⟩:=hf i v pv;have so2:s2.heap.SetOf (strKind P w) sa (λy=>(met f i).any (· == y)) (met f i).length:=let ⟨o,es,ep,tb,g,rest⟩:=so;⟨o,es,ep,tb,mv.heap sa _ nw g,rest⟩;show wpAny _ A.in1 (holding [Value.str (f i) tk] (setAdd sa (.str (f i) tk)) >>= _) _ _ s2;refine wpAny_bind (wpAny_holding ?_);unfold setAdd;refine wpAny_holding (wpAny_bind ((strKind P w).pyHash (k:=f i) (strKind_is P w _ _) ?_));have rm:(met f i).length+1 < scanBound:=by have:=qM f i;omega
  refine wpAny_setAddHashed_of (knd:=strKind P w) (s:={ s2 with toks:=s2.toks+1 }) (strKind_is P w _ _) rfl so2 rm λh' sb so3=>?_;have so4:h'.SetOf (strKind P w) sa (λy=>(met f (i+1)).any (· == y)) (met f (i+1)).length:=SetOf_congr so3 (λy=>by rw [je,vK]) (by rw [je,qu]);refine wpAny_pure ⟨plainId_quiet PyProof.Rows.F.plain_set_update_loop _,ih (i+1) _ (by omega) lt (W.frame _ s2 _ _ st2 (Nat.le_succ _) λb z o g=>?_) so4 λs3 mv3 so5=>?_⟩
  ·rw [sb.2 b (λq:b=sa=>nsa (by rw [<- q];exact z))];exact g
  ·refine fin s3 (Moved.trans W.gtrans ((mv.mono more).then_heap (Nat.le_succ _) λb o z g=>?_) mv3) so5;rw [sb.2 b (λq:b=sa=>z (by rw [q];exact List.mem_cons_self))];exact g
abbrev rL (led:Bool):Obj:={ cls:=.type "set",dict:=none,data:=.set #[] 0 (.fresh 0 0 led) }
theorem wK {E:Value->Shared->Prop} {s:Shared} {items:Array Value} {f:Nat->Str} {Q:Value->Shared->Prop} (hh:A.handled=none) (hl:s.heap.IsList l items)
  (hi:∀ (i:Nat) (v:Value),items[i]?=some v->∃ t,v=.str (f i) t) (few:items.size+1 < scanBound)
  (fin:∀ (h':Heap) (tk:Nat),h'.SetOf (strKind P w) s.heap.objs.size (λy=>(met f items.size).any (· == y)) (met f items.size).length->(∀ b o,b < s.heap.objs.size->s.heap.get? b=some o->h'.get? b=some o)->Q (.ref s.heap.objs.size) { s with heap:=h',toks:=tk }) :
  wpAny (model P w) A (call (.type "set") [.ref l]) Q E s:=by
 obtain ⟨c,tl,mro⟩:=F.called_set.mro;have made:=F.called_set.made;have sub:=F.called_set.sub;refine wpAny_call (codeAny_of_tree ?_);show wpAny _ _ (callAny (.type "set") _) _ _ _;refine wpAny_pure ⟨Code.quiet_builtin _ (by decide +kernel),codeAny_builtin F.entry_type_call ?_⟩;rw [Around.under_plain (weight_type_call_type "set" [.ref l] []) rfl];have k1:=F.called_set.notType;have k2:=F.called_set.canCreate;have k3:=F.typeCall_set_1 (.ref l)
 repeat (any_goals (first | assumption | wp_step))
 refine codeAny_mono (code_set_new_1 (.ref l) (E:=E) (Q₁:=λobj s1=>∃ led:Bool,obj=.ref s.heap.objs.size/\s1={ s with heap:=s.heap.push (rL led) }) λled=>⟨led,rfl,rfl⟩) λr s1 hr=>?_
 cases r with
 | error e=>exact hr
 | ok fl =>
  cases fl with
  | ret obj =>
   obtain ⟨led,rfl,rfl⟩:=hr;have g0:(s.heap.push (rL led)).get? s.heap.objs.size=some (rL led):=Heap.get?_push_size _ rfl;have ty:Shared.TypeIs { s with heap:=s.heap.push (rL led) } (.ref s.heap.objs.size) "set":=⟨_,g0,rfl⟩
   have k4:=F.called_set.init.lookup;have k5:=F.called_set.init.bind (.ref s.heap.objs.size)
   repeat (any_goals (first | assumption | wp_step))
   refine codeAny_mono (codeAny_call_builtin (R:=wants (λr s2=>r=.none/\∃ h' tk,s2={ s with heap:=h',toks:=tk }/\h'.SetOf (strKind P w) s.heap.objs.size (λy=>(met f items.size).any (· == y)) (met f items.size).length /\
     (∀ b o,b < s.heap.objs.size->s.heap.get? b=some o->h'.get? b=some o)) E) F.called_set.init.plain F.entry_set_init (check_set_init_1 ty ?_)) λr2 s2 hr2=>?_
   ·obtain ⟨ol,g1,g2,nl,g3⟩:=hl;obtain ⟨oc,od,ob,os⟩:=ol;simp only at g2 g3;subst g2;subst g3;have g4:(s.heap.push (rL led)).get? l=some { cls:=.type "list",dict:=od,data:=.seq items nl,slots:=os }:=Heap.get?_push_of_some _ g1;have m1:=F.sub_list_set;have m2:=F.sub_list_frozenset;have m3:(Value.type "list" == Value.type "dict")=false:=by decide
    have il:(s.heap.push (rL led)).IsList l items:=⟨_,g4,rfl,nl,rfl⟩
    unfold Builtin.«set.__init__» noKeywords Builtin.Frozenset.updateFrom;generalize hPI:pyIter=PI
    wp_walk
    subst hPI;refine wpAny_pyIter_list il (wpAny_bind (wpAny_runValue ?_));have ll:l < s.heap.objs.size:=Heap.lt_size g1;have h3:A.in1.in1.in1.handled=none:=by simp [hh]
    have n1:l≠(s.heap.push (rL led)).objs.size:=by rw [Heap.size_push];exact Nat.ne_of_lt (Nat.lt_succ_of_lt ll)
    have n2:s.heap.objs.size ∉ [(s.heap.push (rL led)).objs.size,l]:=by rw [Heap.size_push];simp only [List.mem_cons,List.mem_singleton,List.not_mem_nil,or_false,not_or];exact ⟨Nat.ne_of_lt (Nat.lt_succ_self _),Nat.ne_of_gt ll⟩
    refine AK ((Walks.list h3 _ l n1 items).toS) s.heap.objs.size n2 f hi few (items.size - 0) 0 _ (by omega) (Nat.zero_le _) ⟨⟨_,Heap.get?_push_size _ rfl,rfl,rfl⟩,(il.push _)⟩ ?so ?fi
    case so=>exact SetOf_congr ((setObjOf_fresh (knd:=strKind P w) led).setOf (Heap.get?_push_of_some _ g0) (by unfold scanBound;omega)) (λ_=>rfl) rfl
    case fi =>
     intro s' mv so;obtain ⟨h',g',d',tk',os'⟩:=s';obtain rfl:g'=s.gens:=mv.gens;obtain rfl:d'=s.drawn:=mv.drawn;obtain rfl:os'=s.os:=mv.os;show wpAny _ _ _ _ _ _;refine wpAny_pure ?_;show wpAny _ _ (ret Value.none) _ _ _;refine wpAny_pure ⟨rfl,h',tk',rfl,so,λb o z g=>?_⟩;have z1:b≠s.heap.objs.size:=Nat.ne_of_lt z;have z2:b≠(s.heap.push (rL led)).objs.size:=by rw [Heap.size_push];exact Nat.ne_of_lt (Nat.lt_succ_of_lt z)
     exact mv.heap b o (by simp only [List.mem_cons,List.mem_singleton,List.not_mem_nil,or_false,not_or];exact ⟨z1,z2⟩) (Heap.get?_push_of_some _ (Heap.get?_push_of_some _ g))
   ·cases r2 with
    | error e=>exact hr2
    | ok fl2 =>
     cases fl2 with
     | ret r =>
      obtain ⟨rfl,h',tk,rfl,so,kp⟩:=hr2
      repeat (any_goals (first | assumption | wp_step))
      exact fin _ _ so kp
     | _=>exact hr2.elim
  | _=>exact hr.elim
def uY (a:Addr) (n:Nat) (h:Heap):Prop:=∃ o es ep t,h.get? a=some o/\o.ExactSet/\o.data=.set es ep t/\t.fits es.size=true/\es.size=n
section
variable {X:Cx}
theorem wF:∀ {zs:List Str} {us:List Value} (i:Nat) (v:Value),Vals (zs.map V.str) us->us[i]?=some v->∃ t,v=.str (zs.getD i "") t
 | [],us,i,v,h,e=>by cases h;simp at e
 | z::zs,us,i,v,h,e=>by
  cases h with
  | cons r t =>
   obtain ⟨tk,rfl⟩:=r
   cases i with
   | zero =>
    have e':Value.str z tk=v:=by simpa using e
    exact ⟨tk,e'.symm⟩
   | succ i =>obtain ⟨t',e'⟩:=wF (zs:=zs) i v t (by simpa using e);exact ⟨t',by simpa using e'⟩
def qt (zs:List Str):Nat:=(met (λi=>zs.getD i "") zs.length).length
theorem wL (hc:X.calm=true):hW X (.type "set") (λxs H Q=>∃ (l:Addr) (zs:List Str),xs=[.ref l]/\SqL X.K H l (zs.map V.str)/\zs.length<=100/\∀ p,H p=none->Q (.ref p) (upd H p (.ext (uY p (qt zs))))):=by
 intro pins s σ H xs us Q I r h;obtain ⟨l,zs,rfl,hq,hz,q⟩:=h;obtain ⟨u,rfl,ru⟩:=gS r;cases ru;obtain ⟨its,rv,p,_⟩:=I.list hq;have lr:=rv.length;rw [List.length_map] at lr;refine wK (f:=λi=>zs.getD i "") (I.ok.hd hc) p.isList (λi v e=>wF i v rv (by simpa using e)) (by unfold scanBound;simp;omega) λh' tk so kp=>?_
 have so':uY s.heap.objs.size (qt zs) h':=by obtain ⟨o,es,ep,t,a1,a2,a3,_,_,_,a4,a5⟩:=so;refine ⟨o,es,ep,t,a1,a2,a3,a4,?_⟩;rw [a5];unfold qt;rw [lr];simp
 refine ⟨.ref s.heap.objs.size,_,I.laid (t':=tk) (λb o e=>kp b o (Heap.lt_size e) e) (Nat.le_refl _) (show ObjOk X.prog X.w _ h' _ (.ext (uY s.heap.objs.size (qt zs))) from ⟨so',?_,λh1 h2 z k=>?_⟩),rfl,q _ (I.hok.fresh (Nat.le_refl _))⟩
 ·obtain ⟨o,_,_,_,a1,_⟩:=so';exact ⟨o,a1⟩
 ·obtain ⟨o,es,ep,t,a1,rest⟩:=z;exact ⟨o,es,ep,t,k _ a1,rest⟩
theorem rZ:hW X (.builtin "len") (λxs H Q=>∃ (p:Addr) (n:Nat),xs=[.ref p]/\H p=some (.ext (uY p n))/\n<=1000/\Q (.int n) H):=by
 intro pins s σ H xs us Q I r h;obtain ⟨p,n,rfl,hp,hn,q⟩:=h;obtain ⟨u,rfl,ru⟩:=gS r;cases ru;obtain ⟨⟨o,es,ep,t,a1,a2,a3,a4,a5⟩,_⟩:=(show ObjOk X.prog X.w H s.heap p (.ext (uY p n)) from I.hok p _ hp)
 subst a5;exact call_len_set a1 a2 a3 a4 (by omega) ⟨.int (es.size:Nat),H,I.tok _,⟨_,rfl⟩,q⟩
end
theorem Same.aLst (e:Same H H') (h:aLst K H a xs):aLst K H' a xs:=h.elim (λz=>.inl (e _ _ z)) .inr
def LD (K:W.Frag) (H:Hp) (ds:List D) (v:V):Prop:=∃ a vs,v=.ref a/\aLst K H a vs/\Dats K H ds vs
theorem Same.ld (e:Same H H') (h:LD K H ds v):LD K H' ds v:=by obtain ⟨a,vs,e1,h1,h2⟩:=h;exact ⟨a,vs,e1,e.aLst h1,e.dats h2⟩
theorem LD.lst (h:LD K H ds v):Dat K H .lst v:=by obtain ⟨a,vs,rfl,h1,_⟩:=h;exact Dat.lstI h1.sqL
theorem LD.of (h:H a=some (.lst vs)) (hd:Dats K H ds vs):LD K H ds (.ref a):=⟨a,vs,rfl,.inl h,hd⟩
inductive Ar where
 | d (x:D)
 | l (ds:List D)
def ArI (K:W.Frag) (H:Hp):Ar->V->Prop
 | .d x,v=>Dat K H x v
 | .l ds,v=>LD K H ds v
inductive Ars (K:W.Frag) (H:Hp):List Ar->List V->Prop
 | nil:Ars K H [] []
 | cons {a v as vs}:ArI K H a v->Ars K H as vs->Ars K H (a::as) (v::vs)
theorem Same.ari {a:Ar} (e:Same H H') (h:ArI K H a v):ArI K H' a v:=by
 cases a with
 | d x=>exact e.dat h
 | l ds=>exact e.ld h
theorem Ars.length {as:List Ar} (h:Ars K H as vs):as.length=vs.length:=by
 induction h with
 | nil=>rfl
 | cons _ _ ih=>simp [ih]
theorem Di {a:Ar} (h:Ars K H [a] vs):∃ u,vs=[u]/\ArI K H a u:=by
 cases h with
 | cons h1 h2=>cases h2;exact ⟨_,rfl,h1⟩
variable {b:Ar}
theorem yf {a:Ar} (h:Ars K H [a,b] vs):∃ u v,vs=[u,v]/\ArI K H a u/\ArI K H b v:=by
 cases h with
 | cons h1 h2=>obtain ⟨v,rfl,q⟩:=Di h2;exact ⟨_,v,rfl,h1,q⟩
variable {c:Ar}
theorem rX {a:Ar} (h:Ars K H [a,b,c] vs):∃ u v w,vs=[u,v,w]/\ArI K H a u/\ArI K H b v/\ArI K H c w:=by
 cases h with
 | cons h1 h2=>obtain ⟨v,w,rfl,q,q'⟩:=yf h2;exact ⟨_,v,w,rfl,h1,q,q'⟩
theorem AW {a d:Ar} (h:Ars K H [a,b,c,d] vs):∃ u v w x,vs=[u,v,w,x]/\ArI K H a u/\ArI K H b v/\ArI K H c w/\ArI K H d x:=by
 cases h with
 | cons h1 h2=>obtain ⟨v,w,x,rfl,q,q',q''⟩:=rX h2;exact ⟨_,v,w,x,rfl,h1,q,q',q''⟩
def spA (K:W.Frag) (R:List Ar->D->Prop):Sp:=λvs H Q _=>∃ as d,Ars K H as vs/\R as d/\∀ v H',Same H H'->Dat K H' d v->Q v H'
def iW (K:W.Frag) (R:List Ar->List D->Prop):Sp:=λvs H Q _=>∃ as es,Ars K H as vs/\R as es/\∀ r us H',Same H H'->H' r=some (.lst us)->H r=none->Dats K H' es us->Q (.ref r) H'
def RL (K:W.Frag) (t:TE) (σ:St) (H:Hp) (ds:List D):Prop:=∀ H1,Same H H1->∀ Q:VK,(∀ v H',Same H1 H'->LD K H' ds v->Q v H')->t σ H1 Q
def RB (K:W.Frag) (t:TA) (σ:St) (H:Hp) (as:List Ar):Prop:=∀ H1,Same H H1->∀ Q:List V->Hp->Prop,(∀ vs H',Same H1 H'->Ars K H' as vs->Q vs H')->t σ H1 Q
section
variable {K:W.Frag} {σ:St} {H H':Hp} {d d':D} {ds es:List D} {t u ta tb te tl:TE} {tt uu:TT} {tA:TA} {i j:Int} {b c:Bool} {mk:St->St} {jj:Nat} {ar:List Ar}
theorem RL.mono (h:RL K t σ H es) (e:Same H H'):RL K t σ H' es:=λH1 s Q q=>h H1 (e.trans s) Q q
theorem RL.use {Q:VK} (h:RL K t σ H es) (q:∀ v H',Same H H'->LD K H' es v->Q v H'):t σ H Q:=h H (Same.refl H) Q q
theorem bS:RB K c7 σ H []:=λH1 _ Q q=>q _ _ (Same.refl _) .nil
theorem cZ (h:RE K t σ H d) (r:RB K tA σ H ar):RB K (bC t tA) σ H (.d d::ar):=λH1 s Q q =>
 h H1 s _ λv H2 s2 q2=>r H2 (s.trans s2) _ λvs H3 s3 q3=>q _ _ (s2.trans s3) (.cons (s3.ari (a:=.d d) q2) q3)
theorem dI (h:RL K t σ H ds) (r:RB K tA σ H ar):RB K (bC t tA) σ H (.l ds::ar):=λH1 s Q q =>
 h H1 s _ λv H2 s2 q2=>r H2 (s.trans s2) _ λvs H3 s3 q3=>q _ _ (s2.trans s3) (.cons (s3.ari (a:=.l ds) q2) q3)
variable {v:V}
theorem aT {k:Nat} (h:LD K H ds v) (e:σ[k]?=some (some v):=by rfl):RL K (fG k) σ H ds:=λH1 s Q q=>⟨v,e,q _ _ (Same.refl _) (s.ld h)⟩
theorem eQ (h:RC K t σ H es):RL K t σ H es:=λH1 s Q q=>h H1 s _ λl ys H' _ s' hy hd=>q _ _ s' (LD.of hy hd)
theorem Ea {a:Addr} (h:nD K ds a=true):RL K (tC (.ref a)) σ H ds:=λH1 _ Q q=>by obtain ⟨vs,h1,h2⟩:=qL h H1;exact q _ _ (Same.refl _) ⟨a,vs,rfl,.inr h1,h2⟩
variable {E:XK}
theorem dE {R:List Ar->D->Prop} (h:RB K tA σ H ar) (e:R ar d):RE K (iy (spA K R) [] E tA) σ H d:=λH1 s Q q =>
 h H1 s _ λvs H2 s2 q2=>⟨ar,d,by rw [List.append_nil];exact q2,e,λv H3 s3 q3=>q _ _ (s2.trans s3) q3⟩
theorem d5 {R:List Ar->List D->Prop} (h:RB K tA σ H ar) (e:R ar es):RC K (iy (iW K R) [] E tA) σ H es:=λH1 s Q q =>
 h H1 s _ λvs H2 s2 q2=>⟨ar,es,by rw [List.append_nil];exact q2,e,λr us H3 s3 hr hr0 hd=>q r us H3 (s2.free hr0) (s2.trans s3) hr hd⟩
theorem gv {k:Nat} (h1:RL K ta σ H ds) (h2:RE K tb σ H (.int k)) (e:ds[k]?=some d):RE K (tOp (uT K) ta tb) σ H d:=λH1 s Q q =>
 h1 H1 s _ λv H2 s2 q2=>h2 H2 (s.trans s2) _ λw H3 s3 q3=>by obtain ⟨a,vs,ev,hq,hd⟩:=s3.ld q2;obtain ⟨x,ex,hx⟩:=hd.get e;exact ⟨a,vs,k,x,ev,q3.intE,hq.sqL,gz ex,q _ _ (s2.trans s3) hx⟩
theorem Dats.snocE {b:D}:∀ {as:List D} {vs:List V},Dats K H (as++[b]) vs->∃ us v,vs=us++[v]/\Dats K H as us/\Dat K H b v
 | [],vs,h=>by obtain ⟨v,rfl,q⟩:=gW h;exact ⟨[],v,rfl,Dats.nil,q⟩
 | a::as,vs,h=>by obtain ⟨v,r,rfl,h1,h2⟩:=h.consE;obtain ⟨us,w,rfl,q1,q2⟩:=Dats.snocE (as:=as) h2;exact ⟨v::us,w,rfl,Dats.cons h1 q1,q2⟩
theorem lN (h1:RL K ta σ H (ds++[d])) (h2:RE K tb σ H (.int (-1))):RE K (tOp (uT K) ta tb) σ H d:=λH1 s Q q =>
 h1 H1 s _ λv H2 s2 q2=>h2 H2 (s.trans s2) _ λw H3 s3 q3=>by obtain ⟨a,vs,ev,hq,hd⟩:=s3.ld q2;obtain ⟨us,x,rfl,hu,hx⟩:=hd.snocE;exact ⟨a,_,-1,x,ev,q3.intE,hq.sqL,yg us x,q _ _ (s2.trans s3) hx⟩
theorem cT (h:RL K t σ H es):RE K (tCB (λxs H Q=>∃ p ys,xs=[.ref p]/\(SqL K H p ys\/SqT K H p ys)/\Q (.int ys.length) H) (bC t c7)) σ H (.int es.length):=λH1 s Q q =>
 f7 ((h.mono s).use λv H' s' hd=>by
  obtain ⟨l,ys,rfl,hy,hd⟩:=hd;exact ⟨l,ys,rfl,.inl hy.sqL,by rw [<- hd.length];exact q _ _ s' (Dat.intI _)⟩)
theorem vF:∀ {ns:List Int} {vs:List V},Dats K H (ns.map D.int) vs->vs=ns.map V.int
 | [],vs,h=>by rw [Dats.nilE h];rfl
 | n::ns,vs,h=>by obtain ⟨v,r,e,h1,h2⟩:=h.consE;rw [e,h1.intE,vF h2];rfl
theorem wC {ns:List Int} (h:RL K t σ H (ns.map D.int)):RE K (tCB (λxs H Q=>∃ (l:Addr) (ns:List Int),xs=[.ref l]/\SqL K H l (ns.map V.int)/\Q (.int ns.sum) H) (bC t c7)) σ H (.int ns.sum):=λH1 s Q q =>
 f7 ((h.mono s).use λv H' s' hd=>by
  obtain ⟨l,ys,rfl,hy,hd⟩:=hd;exact ⟨l,ns,rfl,by rw [<- vF hd];exact hy.sqL,q _ _ s' (Dat.intI _)⟩)
def isN:D->Bool
 | .non=>true
 | _=>false
theorem vT (h:Dat K H d v):decide (v=.non)=isN d:=by
 cases d with
 | non=>rw [h.nonE];rfl
 | bl b=>rw [h.blE];rfl
 | int i=>rw [h.intE];rfl
 | str x=>rw [h.strE];rfl
 | tup ds=>obtain ⟨a,vs,e,_⟩:=h.tupE;rw [e];rfl
 | lst=>obtain ⟨a,vs,e,_⟩:=h.lstE;rw [e];rfl
theorem lK (h:RE K ta σ H d):RE K (tOp (λx y H Q=>y=.non/\Q (.bl (decide (x=.non))) H) ta (tC .non)) σ H (.bl (isN d)):=λH1 s Q q =>
 h H1 s _ λv H2 s2 q2=>⟨rfl,by rw [vT q2];exact q _ _ s2 (Dat.blI _)⟩
theorem wA (h:RE K ta σ H d):RE K (tOp (λx y H Q=>y=.non/\Q (.bl (!decide (x=.non))) H) ta (tC .non)) σ H (.bl (!isN d)):=λH1 s Q q =>
 h H1 s _ λv H2 s2 q2=>⟨rfl,by rw [vT q2];exact q _ _ s2 (Dat.blI _)⟩
theorem jh {cs:List D} (h:RL K tl σ H cs) (hc:cs.length<=1000) (es:List D) (hl:es.length=cs.length) (h0:(mk σ).set jj none=mk σ)
  (turn:∀ H1 (i:Nat) c v d,Same H H1->cs[i]?=some c->es[i]?=some d->Dat K H1 c v->RE K te ((mk σ).set jj (some v)) H1 d):RC K (fK (pB K tl) mk (bX jj) dS te) σ H es:=λH1 s Q q=>by
 refine (h.mono s).use λv4 H4 s4 q4=>?_;obtain ⟨l4,ys4,rfl,hy4,hd4⟩:=q4;have ll:=hd4.length;refine ⟨l4,rfl,⟨ys4,hy4.sqL⟩,?_⟩;refine ia (K:=K) (Q:=Q) (n:=ys4.length) (item:=λi=>ys4.getD i .non) (λi H' s hi=>nj i H' (s.seq hy4.sqL) hi) (λH' s=>⟨ys4,s.seq hy4.sqL,Nat.le_refl _⟩) h0 es (by omega) (by omega) (λi d hi=>?_) (λl ys H5 hl5 s5=>q l ys H5 (s4.free hl5) (s4.trans s5));have hi':i < es.length:=(List.getElem?_eq_some_iff.mp hi).1;have hic:i < cs.length:=by omega
 obtain ⟨vz,ez,hz⟩:=hd4.get (List.getElem?_eq_getElem hic);have q:=turn H4 i cs[i] vz d (s.trans s4) (List.getElem?_eq_getElem hic) hi hz;rw [List.getD_eq_getElem?_getD,ez];exact q
theorem dv (h1:RL K ta σ H ds) (h2:RL K tb σ H es) (hl:ds.length+es.length<=1000):RC K (tOp (CJ K) ta tb) σ H (ds++es):=λH1 s Q q =>
 h1 H1 s _ λv H2 s2 q2=>h2 H2 (s.trans s2) _ λw H3 s3 q3=>by obtain ⟨a,xs,rfl,ha,da⟩:=s3.ld q2;obtain ⟨b,ys,rfl,hb,db⟩:=q3;have l1:=da.length;have l2:=db.length;exact ⟨a,b,xs,ys,rfl,rfl,ha,hb,by omega,λp hp=>q p _ _ ((s2.trans s3).free hp) (s2.trans (s3.trans (aG hp _))) aq ((aG hp _).dats (Dats.append da db))⟩
end
section
variable {K:W.Frag} {σ:St} {H H':Hp} {d d':D} {ds es:List D} {t u ta tb te tl:TE}
theorem xD {zs:List Str} (h:RC K t σ H (zs.map D.str)) (hz:zs.length<=100):RE K (tCB (λxs H Q=>∃ (p:Addr) (n:Nat),xs=[.ref p]/\H p=some (.ext (uY p n))/\n<=1000/\Q (.int n) H)
  (bC (tCB (λxs H Q=>∃ (l:Addr) (zs:List Str),xs=[.ref l]/\SqL K H l (zs.map V.str)/\zs.length<=100/\∀ p,H p=none->Q (.ref p) (upd H p (.ext (uY p (qt zs))))) (bC t c7)) c7)) σ H (.int (qt zs)):=λH1 s Q q =>
 f7 (f7 ((h.mono s).use λl ys H2 _ s2 hy hd=>by
  refine ⟨l,zs,rfl,by rw [<- vG hd];exact SqL.of hy,hz,λp hp=>⟨p,qt zs,rfl,aq,?_,q _ _ (s2.trans (aG hp _)) (Dat.intI _)⟩⟩;have:=qM (λi=>zs.getD i "") zs.length;unfold qt;omega))
theorem vM (zs:List Str):∀ i,i<=zs.length->((∀ y,(met (λi=>zs.getD i "") i).any (· == y)=decide (y ∈ zs.take i))/\((met (λi=>zs.getD i "") i).length=i↔(zs.take i).Nodup))
 | 0,_=>⟨λy=>by simp [met],by simp [met]⟩
 | i+1,h=>by
  obtain ⟨i1,i2⟩:=vM zs i (by omega);have hle:=qM (λi=>zs.getD i "") i;have hi:i < zs.length:=h;have et:zs.take (i+1)=zs.take i++[zs[i]]:=by rw [List.take_add_one,List.getElem?_eq_getElem hi];rfl
  have eg:zs.getD i ""=zs[i]:=by rw [List.getD_eq_getElem?_getD,List.getElem?_eq_getElem hi];rfl
  refine ⟨λy=>?_,?_⟩
  ·rw [je,vK,i1,et];simp only [eg,List.mem_append,List.mem_singleton];by_cases h1:y ∈ zs.take i <;> by_cases h2:y=zs[i] <;> simp [h1,h2]
  ·rw [je,qu,i1,et];simp only [eg];rw [List.nodup_append];by_cases hm:zs[i] ∈ zs.take i
   ·rw [if_pos (decide_eq_true hm)];constructor
    ·intro z;omega
    ·rintro ⟨_,_,z⟩;exact absurd rfl (z _ hm _ (List.mem_singleton.mpr rfl))
   ·rw [if_neg (by simpa using hm)];constructor
    ·intro z;refine ⟨i2.mp (by omega),by simp,?_⟩;rintro a ha b hb rfl;rw [List.mem_singleton.mp hb] at ha;exact hm ha
    ·rintro ⟨z,_⟩;have:=i2.mpr z;omega
theorem A7 (zs:List Str):qt zs=zs.length↔zs.Nodup:=by have h:=(vM zs zs.length (Nat.le_refl _)).2;rw [List.take_length] at h;exact h
end
def mJ (K:W.Frag):V->List V->Hp->VK->Prop:=λx vs H Q=>∃ l xs y ds d j,x=.ref l/\vs=[y]/\aLst K H l xs/\Dats K H ds xs/\Dat K H d y/\noLs ds=true/\noL d=true/\deepDs ds<=20/\xs.length<=1000 /\
 (∃ e,ds[j]?=some e/\eqD e d=true)/\(∀ (m:Nat) e,m < j->ds[m]?=some e->eqD e d=false)/\Q (.int (j:Nat)) H
section
variable {X:Cx}
theorem xi {k:Nat} (hr:Room k X.A):MtM X "list.index" (mJ X.K):=by
 intro pins s σ H x vs v us Q I rx rv h;obtain ⟨l,xs,y,ds,d,j,rfl,rfl,hH,hds,hd,n1,n2,dp,hx,⟨e0,he0,hit⟩,hno,q⟩:=h;cases rx;obtain ⟨u,rfl,ru⟩:=gS rv;obtain ⟨its,n,r,e⟩:=hH.at I;have hl:=r.length;have ll:=hds.length
 have item:∀ (m:Nat) (w:Value),its[m]?=some w->∃ g,ds[m]?=some g/\∃ xv,RelV xv w/\Dat X.K H g xv:=λm w hw=>by have hm:m < its.length:=(List.getElem?_eq_some_iff.mp hw).1;obtain ⟨g,hg,dg⟩:=hds.getV (i:=m) (v:=xs[m]'(by omega)) (List.getElem?_eq_getElem (by omega));obtain ⟨w',hw',rr⟩:=r.get (i:=m) (x:=xs[m]'(by omega)) (List.getElem?_eq_getElem (by omega));rw [hw] at hw';cases hw';exact ⟨g,hg,_,rr,dg⟩
 have relInj:∀ {x1 x2:V} {w:Value},RelV x1 w->RelV x2 w->x1=x2:=λ{x1 x2 w} h1 h2=>RelV.inj h1 h2
 classical
 let eq:Value->Bool:=λw=>if hw:∃ m:Nat,its[m]?=some w then (match ds[Classical.choose hw]? with | some g=>eqD g d | none=>false) else false
 have eqAt:∀ (m:Nat) (w:Value) (g:D),its[m]?=some w->ds[m]?=some g->eq w=eqD g d:=λm w g hw hg=>by
  have hw':∃ m:Nat,its[m]?=some w:=⟨m,hw⟩
  show (if hw:∃ m:Nat,its[m]?=some w then _ else false)=_;rw [dif_pos hw'];have hc:=Classical.choose_spec hw';obtain ⟨g',hg',xv',r1,d1⟩:=item _ w hc;obtain ⟨g2,hg2,xv,r2,d2⟩:=item m w hw;rw [hg] at hg2;cases hg2;rw [hg'];have ex:=relInj r1 r2;subst ex;have:=qr I g' g (iq n1 hg') d1 d2 (iq n1 hg);rw [this]
 have hj:j < ds.length:=(List.getElem?_eq_some_iff.mp he0).1
 have hu:X.A.in1.units+20+1 < cLine:=by have:=hr.un;show X.A.units+1+20+1 < cLine;omega
 refine call_meets F.slot_list_index ⟨_,e,rfl⟩ F.entry_list_index (F.args_list_index_2 _ _) (SeqAt.list_indexAt l its.toArray n none #[] u eq j (by simp;omega) (by omega) ?_ ?_) ⟨e,?_,?_⟩
 ·have hw:its[j]?=some (its[j]'(by omega)):=List.getElem?_eq_getElem (by omega);have:=eqAt j _ e0 hw he0;simpa [this] using hit
 ·intro m hm hmj;have hm':m < its.length:=by simpa using hm
  have hw:its[m]?=some (its[m]'hm'):=List.getElem?_eq_getElem hm';obtain ⟨g,hg,_⟩:=item m _ hw;have:=eqAt m _ g hw hg;simpa [this] using hno m g hmj hg
 ·intro w hw;obtain ⟨m,hm,rfl⟩:=Array.getElem_of_mem hw;have hm':m < its.length:=by simpa using hm
  have hw2:its[m]?=some (its[m]'hm'):=List.getElem?_eq_getElem hm';obtain ⟨g,hg,xv,r1,d1⟩:=item m _ hw2;have z1:its.toArray[m]=its[m]'hm':=by simp
  rw [z1,eqAt m _ g hw2 hg];exact ur I 20 X.A.in1 g d xv y _ u hu (Nat.le_trans (jW hg) dp) (iq n1 hg) n2 d1 hd r1 ru
 ·exact ⟨.int (j:Nat),H,I.tok _,⟨_,rfl⟩,q⟩
theorem xj {k:Nat} (hr:Room k X.A):MtR X "list.index" (mJ X.K):=xi hr
end
section
variable {K:W.Frag} {σ:St} {H:Hp} {te:TE}
theorem Ad {k j:Nat} {v:V} {ds:List D} {d:D} (hv:LD K H ds v) (h:RE K te σ H d) (n1:noLs ds=true) (n2:noL d=true) (dp:deepDs ds<=20) (hl:ds.length<=1000) (h1:∃ e,ds[j]?=some e/\eqD e d=true) (h2:∀ (m:Nat) e,m < j->ds[m]?=some e->eqD e d=false) (e:σ[k]?=some (some v):=by rfl) :
  RE K (tBM K "list" (mJ K) (fG k) (bC te c7)) σ H (.int (j:Nat)):=λH1 s Q q=>by
 obtain ⟨a,vs,rfl,hq,hd⟩:=s.ld hv;have ll:=hd.length;refine ⟨_,e,.inl ⟨rfl,_,hq.sqL⟩,h H1 s _ λy H2 s2 q2=>?_⟩;exact ⟨a,vs,y,ds,d,j,rfl,rfl,s2.aLst hq,s2.dats hd,q2,n1,n2,dp,by omega,h1,h2,q _ _ s2 (Dat.intI _)⟩
end
theorem Bi {K:PySem.W.Frag} {g:TG} {tb:TS} {D:iU} (Pv:Nat->St->Hp->Prop) (h0:Pv 0 σ H) (hl:∀ i σ H,i<=xs.length->Pv i σ H->SqL K H a xs)
  (hs:∀ i x σ H,i < xs.length->xs[xs.length - 1 - i]?=some x->Pv i σ H->g x σ H λσ2 H2=>tb { D with nx:=Pv (i+1),ct:=Pv (i+1),bk:=D.nx } σ2 H2) (hd:∀ σ H,Pv xs.length σ H->D.nx σ H) :
  ∃ W:Nat->Nat->St->Hp->Prop,(∃ m,W 0 m σ H)/\∀ i m σ H,W i m σ H ->
   ((Itv K a xs).stop i H/\D.nx σ H)\/((Itv K a xs).go i H/\∃ N:St->Hp->Prop,(∀ σ' H',N σ' H'->∃ m',m' < m/\W (i+1) m' σ' H')/\∀ x H',(Itv K a xs).yld i H x H'->g x σ H' λσ2 H2=>tb { D with nx:=N,ct:=N,bk:=D.nx } σ2 H2):=by
 refine ⟨λi m σ H=>m=xs.length - i/\i<=xs.length/\Pv i σ H,⟨xs.length,by simp,Nat.zero_le _,h0⟩,?_⟩;rintro i m σ H ⟨rfl,hi,p⟩;have q:=hl i σ H hi p;by_cases hlt:i < xs.length
 ·refine .inr ⟨⟨hlt,q⟩,Pv (i+1),λσ' H' p'=>⟨xs.length - (i+1),by omega,rfl,hlt,p'⟩,λx H' y=>?_⟩;obtain ⟨e,y⟩:=y;subst e;exact hs i x σ _ hlt y p
 ·have e:i=xs.length:=by omega
  subst e;exact .inl ⟨rfl,hd σ H p⟩
theorem i0 (Ok:Hp->Prop)
  (go:∀ i H',Ok H'->i < n->J.go i H'/\∀ x H'',J.yld i H' x H''->H''=H'/\x=item i) (stop:∀ H',Ok H'->J.stop n H') (h0:σ0.set j none=σ0)
  (D:Addr) (Pn:Nat->Hp->Prop) (p0:Pn 0 (upd H1 D (.lst []))) (ok:∀ i H',i<=n->Pn i H'->Ok H')
  (turn:∀ i H',i < n->Pn i H'->tt (σ0.set j (some (item i))) H' λb H3=>if b=true then te (σ0.set j (some (item i))) H3 λv H4=>∃ ys,H4 D=some (.lst ys)/\ys.length < sizeLine/\(∃ z,σ0.set j (some (item i))=σ0.set j z)/\Pn (i+1) (upd H4 D (.lst (ys++[v]))) else (∃ z,σ0.set j (some (item i))=σ0.set j z)/\Pn (i+1) H3)
  (fin:∀ H',Pn n H'->Q (.ref D) H') :
  ∃ W:Nat->Nat->St->Hp->Prop,(∃ m,W 0 m σ0 (upd H1 D (.lst [])))/\∀ i m σ' H',W i m σ' H' ->
   (J.stop i H'/\Q (.ref D) H') \/
   (J.go i H'/\∃ Nx:St->Hp->Prop,(∀ σ'' H'',Nx σ'' H''->∃ m',m' < m/\W (i+1) m' σ'' H'')/\∀ x H'',J.yld i H' x H''->bX j x σ' H'' λσ2 H2=>tt σ2 H2 λb H3 =>
    if b=true then te σ2 H3 λv H4=>∃ ys,H4 D=some (.lst ys)/\ys.length < sizeLine/\Nx σ2 (upd H4 D (.lst (ys++[v]))) else Nx σ2 H3):=by
 refine ⟨λi m σ' H'=>m=n - i/\i<=n/\(∃ z,σ'=σ0.set j z)/\Pn i H',⟨n,by omega,Nat.zero_le _,⟨none,h0.symm⟩,p0⟩,?_⟩;rintro i m σ' H' ⟨rfl,hi,⟨z,rfl⟩,p⟩;have o:=ok i H' hi p;by_cases hlt:i < n
 ·obtain ⟨g,y⟩:=go i H' o hlt;refine .inr ⟨g,λσ'' H''=>(∃ z,σ''=σ0.set j z)/\Pn (i+1) H'',λσ'' H'' q=>⟨n - (i+1),by omega,rfl,hlt,q.1,q.2⟩,λx H'' yx=>?_⟩;obtain ⟨e1,e2⟩:=y x H'' yx;subst e1 e2;simp only [bX,kQ];exact turn i _ hlt p
 ·have e:i=n:=by omega
  subst e;exact .inl ⟨stop H' o,fin H' p⟩
theorem DO {o:Expr} {to:TE} {name:Str} {apos cpos:Pos} {T id:String} {r:V->List V->Hp->VK->Prop} (K:W.Frag) (hK:X.K=K) (pa:PlainAttrs T) (slot:Slot T name id) (hty:typeOf (.builtin id)=pure (.type "method_descriptor")) (hm:MtR X id r) (ho:PE X o to) (ha:PA X (e::es) t)
  (hbase:attributeBase o name X.env (eval o X.env)=eval o X.env:=by rfl)
  (hfew:((backTo cpos (starEach (e::es) X.env)).all (λx=>!x.1) && (backToKw cpos (keywordEach [] X.env)).all (λx=>x.1.isSome)
   && decide ((e::es).length+([]:List Keyword).length+(if ([]:List Keyword).isEmpty then 0 else 1) < 30))=true:=by rfl)
  (hline:(apos.endLine == cpos.line)=true:=by rfl) (hs:starEach (e::es) X.env=(false,eval e X.env)::starEach es X.env:=by rfl) (hplain:(backTo cpos (starEach es X.env)).any (·.1)=false:=by rfl) :
  PE X (.Call (.Attribute o name apos) (e::es) [] cpos) (tBM K T r to t):=by
 subst hK;exact dk pa slot hty hm ho ha hbase hfew hline hs hplain
theorem bY (a b:D) (r q:List D):eqDs (a::r) (b::q)=(eqD a b && eqDs r q):=by rw [eqDs]
theorem c9:eqDs [] []=true:=by rw [eqDs]
theorem dn (b:D) (q:List D):eqDs [] (b::q)=false:=by unfold eqDs;rfl
theorem c8 (a:D) (r:List D):eqDs (a::r) []=false:=by unfold eqDs;rfl
theorem eJ (a b:List D):eqD (.tup a) (.tup b)=eqDs a b:=by rw [eqD]
theorem eI (a b:Str):eqD (.str a) (.str b)=decide (a=b):=by unfold eqD;by_cases h:a=b <;> simp [h]
theorem eH (a b:Int):eqD (.int a) (.int b)=decide (a=b):=by unfold eqD;by_cases h:a=b <;> simp [h]
theorem tP (M:Addr->List V->Hp->Prop) (h:∀ R:VK,(∀ r us H1,H1 r=some (.lst us)->M r us H1->R (.ref r) H1)->tl σ H R) (h0:(mk σ).set j none=mk σ)
  (body:∀ r us H1 l,H1 r=some (.lst us)->M r us H1->H1 l=none->∃ Pn:Nat->Hp->Prop,Pn 0 (upd H1 l (.lst []))/\(∀ i G,i<=us.length->Pn i G->SqL K G r us) /\
   (∀ i G,i < us.length->Pn i G->tt ((mk σ).set j (some (us.getD i .non))) G λb H3=>if b=true then te ((mk σ).set j (some (us.getD i .non))) H3 λv H4=>∃ ys,H4 l=some (.lst ys)/\ys.length < sizeLine/\(∃ z,(mk σ).set j (some (us.getD i .non))=(mk σ).set j z)/\Pn (i+1) (upd H4 l (.lst (ys++[v]))) else (∃ z,(mk σ).set j (some (us.getD i .non))=(mk σ).set j z)/\Pn (i+1) H3) /\
   ∀ G,Pn us.length G->Q (.ref l) G):fK (pB K tl) mk (bX j) tt te σ H Q:=by
 refine h _ λr us H1 hr hM=>⟨r,rfl,⟨us,SqL.of hr⟩,λl hl=>?_⟩
 obtain ⟨Pn,b1,b2,b3,b4⟩:=body r us H1 l hr hM hl;exact i0 (J:=Itl K r) (n:=us.length) (item:=λi=>us.getD i .non) (λG=>SqL K G r us) (λi G o hi=>nj i G o hi) (λG o=>⟨us,o,Nat.le_refl _⟩) h0 l Pn b1 b2 b3 b4
section
variable {P:Program} {w:World} {H H':Hp} {h h1 h2:Heap} {a b T:Addr} {o:HO} {fs:List Addr}
end
section
variable {X:Cx} {pins:List (Addr × Obj)} {σ:St} {H:Hp} {s s':Shared} {E:XK} {e:Value}
end
section
variable {X:Cx} {CX:CXT} {k:Nat} {f C:Addr} {fd:FuncData} {ps:List Str} {sp:Sp} {dvs:List V} {ds:List Value} {E:St->XK} {x m:Str} {p pos apos:Pos} {e o:Expr} {es:List Expr} {ta:TE} {t:TA}
end
section
variable {X:Cx} {pins pins':List (Addr × Obj)} {σ:St} {H:Hp} {s:Shared} {xe:Value->Shared->Prop} {e:Value}
end
end L2
namespace L2
open PySem PySem.Spec PySem.Calls PyProof.Rows PySem.W PySem.Builtin PySem.Builtin.ObjectAttr PySem.Builtin.Getset_descriptor
section
variable {prog:Program} {w:World} {A:Around} {E:Value->Shared->Prop} {s:Shared} {K:Frag} {x D:Addr} {ox:Obj} {od:Option Obj} {name:Str}
end
section
variable {X:Cx} {pins:List (Addr × Obj)} {σ:St} {H H':Hp} {s s2:Shared} {a:Addr} {o:HO}
end
end L2
namespace L2
open PySem PySem.Spec PySem.Calls PyProof.Rows
section
variable {P:Program} {w:World} {K:W.Frag} {mg:Str->Option Value} {base:Heap}
end
section
variable {X:Cx} {k:Nat} {f:Addr} {fd:FuncData} {ps:List Str} {sp:Sp} {dvs:List V} {ds:List Value} {E:XK} {x:Str} {p pos:Pos} {e:Expr} {es:List Expr} {t:TA}
end
section
variable {X:Cx}
end
section
variable {P:Program} {w:World} {K:W.Frag} {mg:Str->Option Value} {base:Heap}
end
section
variable {X:Cx} {CX:CXT} {k:Nat} {f C:Addr} {fd:FuncData} {ps ks:List Str} {sp:Sp} {E:St->XK} {x m:Str} {p pos apos kpos:Pos} {e o:Expr} {es:List Expr} {kws:List Keyword} {te ta:TE} {t tk:TA} {nm:Option Str} {g:List Value->List Value->List Value} {gV:List V->List V->List V}
end
section
variable {K:W.Frag} {σ:St} {H:Hp} {tA tK:TA} {ds es fs:List D} {d e:D} {dvs:List V} {R:List D->D->Prop} {B:List D->Addr->Prop} {E:XK} {Q:VK} {C:Addr} {gV:List V->List V->List V} {ta tb:TE}
theorem Ca (h1:RE K ta σ H d) (h2:RE K tb σ H e) (n1:noL d=true) (n2:noL e=true) (dp:eO d<=20):RE K (tOp (D0 K true) ta tb) σ H (.bl (!eqD d e)):=λH1 s Q q =>
 h1 H1 s _ λv H2 s2 q2=>h2 H2 (s.trans s2) _ λw H3 s3 q3=>⟨d,e,s3.dat q2,q3,n1,n2,dp,q _ _ (s2.trans s3) (Dat.blI _)⟩
end
section
variable {X:Cx}
end
end L2
namespace L2
open PySem PySem.Spec PySem.Calls PyProof.Rows PySem.W PySem.Builtin PySem.Builtin.ObjectAttr
section
variable {prog:Program} {w:World} {A:Around} {E:Value->Shared->Prop} {K:Frag} {C fI:Addr} {us:List Value}
end
section
variable {h:Heap} {x b:Addr} {o:Obj} {vs:Array Value}
end
section
variable {prog:Program} {w:World} {A:Around} {E:Value->Shared->Prop} {s:Shared} {K:Frag} {x C:Addr} {ox:Obj} {name:Str} {v:Value} {vs:Array Value}
end
section
variable {X:Cx} {pins:List (Addr × Obj)} {σ:St} {H:Hp} {s s':Shared} {C fI e:Addr} {fd:FuncData} {k:Nat} {ps:List Str} {a0:Value}
end
end L2
namespace L2
open PySem PySem.Spec PySem.Calls PyProof.Rows
abbrev cV (h:Heap) (it t:Addr) (i:Nat):Prop:=h.get? it=some { cls:=.type "tuple_iterator",dict:=none,data:=.fields #[.ref t,rawInt i],slots:=#[] }
section
variable {prog:Program} {w:World} {A:Around} {E:Value->Shared->Prop} {s:Shared} {it t:Addr} {i:Nat} {items:Array Value}
theorem j3 {x:Value} {Q:Value->Shared->Prop} (a1:cV s.heap it t i) (a2:s.heap.IsTuple t items) (hx:items[i]?=some x)
  (q:∀ h',cV h' it t (i+1)->Heap.SameBut it s.heap h'->Q x { s with heap:=h' }):wpAny (model prog w) A (Builtin.SmallTypes.nextOf (.ref it)) Q E s:=by
 have ty:s.TypeIs (.ref it) "tuple_iterator":=⟨_,a1,rfl⟩
 obtain ⟨⟨c2,d2,dt2,s2⟩,a2,hc,n,hd⟩:=a2;obtain rfl:c2=.type "tuple":=hc;obtain rfl:dt2=.seq items n:=hd;unfold Builtin.SmallTypes.nextOf;refine wpAny_bind (wpAny_callSpecial?_slot (name:=Str.ofString "__next__") ty F.slot_tuple_iterator_next (wpAny_call_entry F.slot_tuple_iterator_next ty F.entry_tuple_iterator_next ?_ (F.args_tuple_iterator_next_1 _)));obtain ⟨h0,g0,d0,t0,o0⟩:=s;unfold cV rawInt at a1
 wp_walk
 rw [Int.toNat_natCast,hx];refine wpAny_bind (wpAny_setField_rec a1 (by simp) λh' b1 b2=>wpAny_pure ⟨x,rfl,wpAny_pure (q h' ?_ b2)⟩);show h'.get? it=some _;have e:((i+1:Nat):Int)=(i:Int)+1:=by omega
 rw [e];exact b1
theorem vj {Q:Value->Shared->Prop} (hh:A.handled=none) (a1:cV s.heap it t i) (a2:s.heap.IsTuple t items) (hx:items[i]?=none)
  (q:∀ h' e,Heap.ExtBut it s.heap h'->(∃ o,h'.get? e=some o/\o.cls=.type "StopIteration")->E (.ref e) { s with heap:=h' }):wpAny (model prog w) A (Builtin.SmallTypes.nextOf (.ref it)) Q E s:=by
 have ty:s.TypeIs (.ref it) "tuple_iterator":=⟨_,a1,rfl⟩
 obtain ⟨⟨c2,d2,dt2,s2⟩,a2,hc,n,hd⟩:=a2;obtain rfl:c2=.type "tuple":=hc;obtain rfl:dt2=.seq items n:=hd;unfold Builtin.SmallTypes.nextOf;refine wpAny_bind (wpAny_callSpecial?_slot (name:=Str.ofString "__next__") ty F.slot_tuple_iterator_next (wpAny_call_entry F.slot_tuple_iterator_next ty F.entry_tuple_iterator_next ?_ (F.args_tuple_iterator_next_1 _)));obtain ⟨h0,g0,d0,t0,o0⟩:=s;unfold cV rawInt at a1
 wp_walk
 rw [Int.toNat_natCast,hx];refine wpAny_bind (wpAny_rule (wpAny_bind (wpAny_setField_rec a1 (by simp) λh' b1 b2=>?_)));unfold Builtin.SmallTypes.stopIteration
 wp_walk
 exact wpAny_raiseNew_none hh (q _ _ ((b2.extBut.push _).push _) ⟨_,Heap.get?_push_size _ rfl,rfl⟩)
end
abbrev Ay (t:Addr):Obj:={ cls:=.type "tuple_iterator",data:=.fields #[.ref t,.int 0 0] }
abbrev pf (it:Addr):Obj:={ cls:=.type "enumerate",data:=.fields #[.none,.bool false,.ref it,rawInt 0,.none,.none] }
variable {X:Cx} {σ:St} {H:Hp} {s:Shared}
theorem Inv.turnedL {pins:List (Addr × Obj)} {h':Heap} {t':Nat} {its:List Addr} (I:Inv X pins σ H s) (k:∀ b o,b ∉ its->s.heap.get? b=some o->h'.get? b=some o)
  (ok:∀ b ∈ its,H b=none/\b≠X.env.locals/\(b ∈ X.ex\/X.s₀.heap.objs.size<=b)/\(∀ x c,X.env.cells.lookup x=some c->c≠b)/\∀ p ∈ X.pn++pins,p.1≠b):Inv X pins σ H { s with heap:=h',toks:=t' }:=by
 have out:∀ b u,H b=some u->b ∉ its:=λb u e z=>by rw [(ok b z).1] at e;cases e
 refine I.step (g':=s.gens) (d':=s.drawn) (ch:=its) (λb hb=>⟨(ok b hb).2.2.1,(ok b hb).2.1,(ok b hb).2.2.2⟩) (λb o _ _ hc e _=>k b o hc e) (λb o _ _ hc e _=>⟨o.slots,k b o hc e⟩) (λ_ _ _ _ n=>n)
  (λb o hc e=>⟨o,k b o hc e⟩) (λ_ _ e=>e) (λ_ _ _ e=>e) (λb ps e=>⟨#[],by rw [Array.append_empty];exact e⟩) (λm hm=>?_) (λb u e=>?_) I.bare
 ·obtain ⟨o,es,ep,ho,r⟩:=hm;exact ⟨o,es,ep,k _ o (λz=>(ok _ z).2.1 rfl) ho,r⟩
 ·refine (I.hok b u e).stay (λc v hc q=>k c v ?_ q) (λ_ q=>q) λ_ _ q=>q;rcases hc with z | z
  ·rw [z];exact out b u e
  ·exact out c _ z
section
variable {prog:Program} {w:World} {A:Around} {E:Value->Shared->Prop} {s:Shared} {z TI TO i1 i2 t1 t2:Addr} {k:Nat} {xs ys:Array Value}
variable {a b:Value}
theorem xT {x y:Value} {Q:Value->Shared->Prop} (hz:IsZip s.heap z TI TO .none) (hI:IsPair s.heap TI (.ref i1) (.ref i2)) (hO:IsPair s.heap TO a b) (h1:cV s.heap i1 t1 k) (h2:cV s.heap i2 t2 k)
  (l1:s.heap.IsTuple t1 xs) (l2:s.heap.IsTuple t2 ys) (hx:xs[k]?=some x) (hy:ys[k]?=some y) (D:ZipApart z TI TO i1 i2 t1 t2)
  (q:∀ h',IsZip h' z TI TO (rawInt s.heap.objs.size)->IsPair h' TO x y->cV h' i1 t1 (k+1)->cV h' i2 t2 (k+1)->h'.get? s.heap.objs.size=some { cls:=.type "tuple",data:=.seq #[x,y] } ->
   (∀ b o,b≠z->b≠TO->b≠i1->b≠i2->s.heap.get? b=some o->h'.get? b=some o)->Q (.ref s.heap.objs.size) { s with heap:=h' }):wpAny (model prog w) A (Builtin.«zip.__next__» ⟨[.ref z],[]⟩) (λfin s'=>∃ v,fin=.done (.ret v)/\Q v s') E s:=by
 show wpAny _ _ (field (.ref z) 2 >>= _) _ _ _;refine wpAny_bind (wpAny_field hz rfl rfl ?_);show wpAny _ _ (field (.ref z) 3 >>= _) _ _ _;refine wpAny_bind (wpAny_field hz rfl rfl ?_);refine wpAny_bind (wpAny_seqItems hI rfl ?_);refine wpAny_bind (wpAny_bind (wpAny_field hz rfl rfl (wpAny_pure ?_)));refine wpAny_bind (wpAny_rule ?_);refine wpAny_bind (wpAny_field hz rfl rfl ?_);refine wpAny_bind (wpAny_setField_rec hz (by simp) λha za sa=>?_)
 replace za:IsZip ha z TI TO .ellipsis:=za
 rw [show (#[Value.ref i1,Value.ref i2]:Array Value).toList.zipIdx=[(.ref i1,0),(.ref i2,1)] from rfl,List.forIn_cons];have h1a:cV ha i1 t1 k:=(sa.2 i1 D.i1z).trans h1;have h2a:cV ha i2 t2 k:=(sa.2 i2 D.i2z).trans h2;have l1a:ha.IsTuple t1 xs:=l1.extBut sa.extBut D.l1z;have l2a:ha.IsTuple t2 ys:=l2.extBut sa.extBut D.l2z;have hOa:IsPair ha TO a b:=(sa.2 TO D.TOz).trans hO;refine wpAny_bind (wpAny_bind (wpAny_bind (wpAny_onRaise (wpAny_bind (j3 (s:={ s with heap:=ha }) h1a l1a hx λhb h1b sb=>wpAny_pure ?_)))))
 replace sb:Heap.SameBut i1 ha hb:=sb
 have hOb:IsPair hb TO a b:=(sb.2 TO D.TOi1).trans hOa;refine wpAny_bind (wpAny_seqItems (s:={ s with heap:=hb }) hOb rfl ?_);refine wpAny_bind (wpAny_updateSeq_pair (s:={ s with heap:=hb }) hOb λhc hOc sc=>?_)
 replace sc:Heap.SameBut TO hb hc:=sc
 replace hOc:IsPair hc TO x b:=hOc
 refine wpAny_bind (wpAny_letGo (wpAny_pure ?_));have h2c:cV hc i2 t2 k:=(sc.2 i2 (Ne.symm D.TOi2)).trans ((sb.2 i2 (Ne.symm D.i12)).trans h2a);have l2c:hc.IsTuple t2 ys:=(l2a.extBut sb.extBut D.l2i1).extBut sc.extBut D.l2TO;show wpAny _ _ (forIn [(Value.ref i2,1)] _ _) _ _ _;rw [List.forIn_cons];refine wpAny_bind (wpAny_bind (wpAny_onRaise (wpAny_bind (j3 (s:={ s with heap:=hc }) h2c l2c hy λhd h2d sd=>wpAny_pure ?_))))
 replace sd:Heap.SameBut i2 hc hd:=sd
 have hOd:IsPair hd TO x b:=(sd.2 TO D.TOi2).trans hOc;refine wpAny_bind (wpAny_seqItems (s:={ s with heap:=hd }) hOd rfl ?_);refine wpAny_bind (wpAny_updateSeq_pair (s:={ s with heap:=hd }) hOd λhe hOe se=>?_)
 replace se:Heap.SameBut TO hd he:=se
 replace hOe:IsPair he TO x y:=hOe
 refine wpAny_bind (wpAny_letGo (wpAny_pure ?_));show wpAny _ _ (forIn [] _ _) _ _ _;rw [List.forIn_nil];refine wpAny_pure ?_;show wpAny _ _ (seqItems? (.ref TO) >>= _) _ _ _;refine wpAny_bind (wpAny_seqItems (s:={ s with heap:=he }) hOe rfl ?_);refine wpAny_bind (wpAny_newTuple ?_);have sze:he.objs.size=s.heap.objs.size:=by rw [se.1,sd.1,sc.1,sb.1,sa.1]
 have ze:IsZip he z TI TO .ellipsis:=(se.2 z (Ne.symm D.TOz)).trans ((sd.2 z (Ne.symm D.i2z)).trans ((sc.2 z (Ne.symm D.TOz)).trans ((sb.2 z (Ne.symm D.i1z)).trans za)));have zf:IsZip (he.push { cls:=.type "tuple",data:=.seq #[x,y] }) z TI TO .ellipsis:=Heap.get?_push_of_some _ ze;have tf:(he.push { cls:=.type "tuple",data:=.seq #[x,y] }).get? s.heap.objs.size=some { cls:=.type "tuple",data:=.seq #[x,y] }:=Heap.get?_push_at sze.symm rfl;have of:IsPair (he.push { cls:=.type "tuple",data:=.seq #[x,y] }) TO x y:=Heap.get?_push_of_some _ hOe;have f1:cV (he.push { cls:=.type "tuple",data:=.seq #[x,y] }) i1 t1 (k+1):=Heap.get?_push_of_some _ ((se.2 i1 (Ne.symm D.TOi1)).trans ((sd.2 i1 D.i12).trans ((sc.2 i1 (Ne.symm D.TOi1)).trans h1b)));have f2:cV (he.push { cls:=.type "tuple",data:=.seq #[x,y] }) i2 t2 (k+1):=Heap.get?_push_of_some _ ((se.2 i2 (Ne.symm D.TOi2)).trans h2d)
 have kf:∀ b o,b≠z->b≠TO->b≠i1->b≠i2->s.heap.get? b=some o->(he.push { cls:=.type "tuple",data:=.seq #[x,y] }).get? b=some o:=λb o n1 n2 n3 n4 e =>
  Heap.get?_push_of_some _ ((se.2 b n2).trans ((sd.2 b n4).trans ((sc.2 b n2).trans ((sb.2 b n3).trans ((sa.2 b n1).trans e)))))
 generalize he.push { cls:=.type "tuple",data:=.seq #[x,y] }=hf at zf tf of f1 f2 kf;have lz:z < s.heap.objs.size:=Heap.lt_size hz;show wpAny _ _ (Builtin.SmallTypes.ownedTupleHandOut (.ref z) (.ref he.objs.size) >>= _) _ _ _;rw [sze];refine wpAny_bind (wpAny_bind (wpAny_setField_rec (s:={ s with heap:=hf }) zf (by simp) λhg zg sg=>wpAny_setField_rec (s:={ s with heap:=hg }) zg (by simp) λhh zh sh=>wpAny_pure ⟨_,rfl,?_⟩))
 replace sg:Heap.SameBut z hf hg:=sg
 replace sh:Heap.SameBut z hg hh:=sh
 have on:∀ b,b≠z->hh.get? b=hf.get? b:=λb n=>(sh.2 b n).trans (sg.2 b n);refine q hh zh ?_ ?_ ?_ ?_ λb o n1 n2 n3 n4 e=>(on b n1).trans (kf b o n1 n2 n3 n4 e)
 ·exact (on TO D.TOz).trans of
 ·exact (on i1 D.i1z).trans f1
 ·exact (on i2 D.i2z).trans f2
 ·exact (on _ (Nat.ne_of_gt lz)).trans tf
theorem xS {Q:Fin->Shared->Prop} (hh:A.handled=none) (hz:IsZip s.heap z TI TO .none) (hI:IsPair s.heap TI (.ref i1) (.ref i2)) (hO:IsPair s.heap TO a b) (h1:cV s.heap i1 t1 k)
  (l1:s.heap.IsTuple t1 xs) (hx:xs[k]?=none) (D:ZipApart z TI TO i1 i2 t1 t2)
  (q:∀ h' e,(∀ b o,b≠z->b≠i1->s.heap.get? b=some o->h'.get? b=some o)->(∃ o,h'.get? e=some o/\o.cls=.type "StopIteration")->E (.ref e) { s with heap:=h' }):wpAny (model prog w) A (Builtin.«zip.__next__» ⟨[.ref z],[]⟩) Q E s:=by
 show wpAny _ _ (field (.ref z) 2 >>= _) _ _ _;refine wpAny_bind (wpAny_field hz rfl rfl ?_);show wpAny _ _ (field (.ref z) 3 >>= _) _ _ _;refine wpAny_bind (wpAny_field hz rfl rfl ?_);refine wpAny_bind (wpAny_seqItems hI rfl ?_);refine wpAny_bind (wpAny_bind (wpAny_field hz rfl rfl (wpAny_pure ?_)));refine wpAny_bind (wpAny_rule ?_);refine wpAny_bind (wpAny_field hz rfl rfl ?_);refine wpAny_bind (wpAny_setField_rec hz (by simp) λha za sa=>?_)
 replace za:IsZip ha z TI TO .ellipsis:=za
 rw [show (#[Value.ref i1,Value.ref i2]:Array Value).toList.zipIdx=[(.ref i1,0),(.ref i2,1)] from rfl,List.forIn_cons];have h1a:cV ha i1 t1 k:=(sa.2 i1 D.i1z).trans h1;have l1a:ha.IsTuple t1 xs:=l1.extBut sa.extBut D.l1z;refine wpAny_bind (wpAny_bind (wpAny_bind (wpAny_onRaise (wpAny_bind (vj (s:={ s with heap:=ha }) hh h1a l1a hx λhb e sb he=>?_)))))
 replace sb:Heap.ExtBut i1 ha hb:=sb
 have zb:IsZip hb z TI TO .ellipsis:=sb z _ (Ne.symm D.i1z) za;obtain ⟨oe,hoe,hce⟩:=he;have nez:e≠z:=λy=>by rw [y,zb] at hoe;cases hoe;simp at hce
 refine wpAny_setField_rec (s:={ s with heap:=hb }) zb (by simp) λhc zc sc=>q hc e (λb o n1 n2 hb'=>?_) ⟨oe,(sc.2 e nez).trans hoe,hce⟩;exact (sc.2 b n1).trans (sb b o n2 ((sa.2 b n1).trans hb'))
end
theorem AR (t1 t2:Addr) (xs ys:Array Value) :
  Meets (Builtin.«zip.__new__» ⟨[.type "zip",.ref t1,.ref t2],[]⟩) (λ_ R s=>s.heap.IsTuple t1 xs/\s.heap.IsTuple t2 ys /\
   ∀ h',IsZip h' (s.heap.objs.size+4) (s.heap.objs.size+2) (s.heap.objs.size+3) .none->IsPair h' (s.heap.objs.size+2) (.ref s.heap.objs.size) (.ref (s.heap.objs.size+1))->IsPair h' (s.heap.objs.size+3) .none .none ->
    cV h' s.heap.objs.size t1 0->cV h' (s.heap.objs.size+1) t2 0->(∀ b o,s.heap.get? b=some o->h'.get? b=some o)->R (.ok (.ret (.ref (s.heap.objs.size+4)))) { s with heap:=h' }) :=
 .of_wp λ_ _ _ _ s q=>by
  obtain ⟨h0,g0,d0,t0,o0⟩:=s;obtain ⟨a1,a2,q⟩:=q;have self1:=sub_zip;have b1:Heap.IsTuple (Shared.heap ⟨h0,g0,d0,t0,o0⟩) t1 xs:=a1;have b2:Heap.IsTuple (Shared.heap ⟨h0.push (Ay t1),g0,d0,t0,o0⟩) t2 ys:=Heap.IsTuple.push a2 _
  wp_walk using wpAny_pyIter_tuple b1,wpAny_pyIter_tuple b2
  refine ⟨_,rfl,?_⟩;have n1:(h0.push (Ay t1)).objs.size=h0.objs.size+1:=Heap.size_push _ _;simp only [Heap.size_push];refine q _ ?_ ?_ ?_ ?_ ?_ λb o e=>?_
  ·exact Heap.get?_push_at (by simp [Heap.size_push]) rfl
  ·exact Heap.get?_push_of_some _ (Heap.get?_push_of_some _ (Heap.get?_push_at (by simp [Heap.size_push]) rfl))
  ·exact Heap.get?_push_of_some _ (Heap.get?_push_at (by simp [Heap.size_push]) rfl)
  ·exact Heap.get?_push_of_some _ (Heap.get?_push_of_some _ (Heap.get?_push_of_some _ (Heap.get?_push_of_some _ (Heap.get?_push_at (by simp [Heap.size_push]) rfl))))
  ·exact Heap.get?_push_of_some _ (Heap.get?_push_of_some _ (Heap.get?_push_of_some _ (Heap.get?_push_at (by simp [Heap.size_push]) rfl)))
  ·exact Heap.get?_push_of_some _ (Heap.get?_push_of_some _ (Heap.get?_push_of_some _ (Heap.get?_push_of_some _ (Heap.get?_push_of_some _ e))))
variable {prog:Program} {w:World} {A:Around} {t1 t2:Addr} {xs ys:Array Value}
theorem wN {E:Value->Shared->Prop} {Q:Value->Shared->Prop} (a1:s.heap.IsTuple t1 xs) (a2:s.heap.IsTuple t2 ys)
  (q:∀ h',IsZip h' (s.heap.objs.size+4) (s.heap.objs.size+2) (s.heap.objs.size+3) .none->IsPair h' (s.heap.objs.size+2) (.ref s.heap.objs.size) (.ref (s.heap.objs.size+1))->IsPair h' (s.heap.objs.size+3) .none .none ->
   cV h' s.heap.objs.size t1 0->cV h' (s.heap.objs.size+1) t2 0->(∀ b o,s.heap.get? b=some o->h'.get? b=some o)->Q (.ref (s.heap.objs.size+4)) { s with heap:=h' }):wpAny (model prog w) A (call (.type "zip") [.ref t1,.ref t2]) Q E s :=
 callType_new F.called_zip (by decide) (F.typeCall_zip_2 _ _) (F.newCall_zip_2 _ _) (λo=>F.args_object_init_3 o _ _) F.entry_zip_new (AR t1 t2 xs ys) ⟨a1,a2,λh' z1 z2 z3 z4 z5 kk=>⟨⟨_,z1,rfl⟩,q h' z1 z2 z3 z4 z5 kk⟩⟩
def Itz (K:W.Frag) (a b:Addr) (xs ys:List V):It:=⟨λi H=>i < xs.length/\i < ys.length/\SqT K H a xs/\SqT K H b ys,λi H x H'=>∃ p u v,H p=none/\x=.ref p/\xs[i]?=some u/\ys[i]?=some v/\H'=upd H p (.tup [u,v]),λi H=>i=xs.length/\SqT K H a xs⟩
variable {P:Program} {K:W.Frag} {elts:List Expr} {ps:Pos}
theorem AI {c1} (a b z TI TO i1 i2:Addr) (xs ys:List V) (D:ZipApart z TI TO i1 i2 a b):mD P w K (.Tuple elts c1 ps) (Itz K a b xs ys) [z,TI,TO,i1,i2] z
  (λi h=>∃ c d,IsZip h z TI TO .none/\IsPair h TI (.ref i1) (.ref i2)/\IsPair h TO c d/\cV h i1 a i/\cV h i2 b i) where
 mem:=by simp
 obj:=λi h ⟨c,d,q1,q2,q3,q4,q5⟩ b hb=>by
  simp only [List.mem_cons,List.not_mem_nil,or_false] at hb;rcases hb with rfl | rfl | rfl | rfl | rfl
  ·exact ⟨_,q1,λv e=>by cases e⟩
  ·exact ⟨_,q2,λv e=>by cases e⟩
  ·exact ⟨_,q3,λv e=>by cases e⟩
  ·exact ⟨_,q4,λv e=>by cases e⟩
  ·exact ⟨_,q5,λv e=>by cases e⟩
 keep:=λi h h' ⟨c,d,q1,q2,q3,q4,q5⟩ k=>⟨c,d,k z (by simp) _ q1,k TI (by simp) _ q2,k TO (by simp) _ q3,k i1 (by simp) _ q4,k i2 (by simp) _ q5⟩
 item:=by
  intro X hP hw hK hc i pins s σ H E I hf st hg;subst hP hw hK;obtain ⟨c,d,q1,q2,q3,q4,q5⟩:=st;obtain ⟨hi,hj,ha,hb⟩:=hg;obtain ⟨us,ru,pu,_⟩:=I.tuple ha;obtain ⟨vs,rv,pv,_⟩:=I.tuple hb;have hx:xs[i]?=some xs[i]:=List.getElem?_eq_getElem hi;have hy:ys[i]?=some ys[i]:=List.getElem?_eq_getElem hj;obtain ⟨u,hu,r1⟩:=ru.get hx;obtain ⟨v,hv,r2⟩:=rv.get hy;have ty:s.TypeIs (.ref z) "zip":=⟨_,q1,rfl⟩
  unfold pyNext;refine wpAny_bind (wpAny_attempt (wpAny_callSpecial?_slot (name:=Str.ofString "__next__") ty F.slot_zip_next (wpAny_call_entry F.slot_zip_next ty F.entry_zip_next ?_ (F.args_zip_next_1 _))));refine xT (x:=u) (y:=v) q1 q2 q3 q4 q5 (show s.heap.IsTuple a us.toArray from pu) (show s.heap.IsTuple b vs.toArray from pv) (by simpa using hu) (by simpa using hv) D λh' w1 w2 w3 w4 w5 w6=>wpAny_pure ⟨_,rfl,?_⟩;refine wpAny_letOwnedTupleGo_zip (s:={ s with heap:=h' }) w1 λh2 e2 same=>?_
  replace same:Heap.SameBut z h' h2:=same
  have lz:z < s.heap.objs.size:=Heap.lt_size q1;have lTI:TI < s.heap.objs.size:=Heap.lt_size q2;have lTO:TO < s.heap.objs.size:=Heap.lt_size q3;have l1:i1 < s.heap.objs.size:=Heap.lt_size q4;have l2:i2 < s.heap.objs.size:=Heap.lt_size q5
  have low:∀ b ∈ [z,TI,TO,i1,i2],b < s.heap.objs.size:=λb hb=>by simp only [List.mem_cons,List.not_mem_nil,or_false] at hb;rcases hb with rfl | rfl | rfl | rfl | rfl <;> assumption
  have tup2:h2.get? s.heap.objs.size=some { cls:=.type "tuple",data:=.seq #[u,v] }:=(same.2 _ (Nat.ne_of_gt lz)).trans w5
  have I1:Inv X pins σ (upd H s.heap.objs.size (.tup [xs[i],ys[i]])) { s with heap:=s.heap.push { cls:=.type "tuple",data:=.seq #[u,v] },toks:=s.toks } :=
   I.laid (o:=.tup [xs[i],ys[i]]) (λb ob q=>Heap.get?_push_of_some _ q) (Nat.le_refl _) ⟨by rw [sizeLine_eq];simp,[u,v],.cons r1 (.cons r2 .nil),IsTup.new _ _⟩
  have frees:∀ b,b < s.heap.objs.size->upd H s.heap.objs.size (.tup [xs[i],ys[i]]) b=H b:=λb hb=>aO (Nat.ne_of_lt hb)
  have I2:Inv X pins σ (upd H s.heap.objs.size (.tup [xs[i],ys[i]])) { s with heap:=h2,toks:=s.toks }:=by
   refine Inv.turnedL (s:={ s with heap:=s.heap.push { cls:=.type "tuple",data:=.seq #[u,v] },toks:=s.toks }) (h':=h2) (its:=[z,TI,TO,i1,i2]) (t':=s.toks) I1 (λb o hb q=>?_) (λb hb=>?_)
   ·simp only [List.mem_cons,List.not_mem_nil,or_false,not_or] at hb;obtain ⟨n1,n2,n3,n4,n5⟩:=hb;by_cases hbs:b=s.heap.objs.size
    ·subst hbs;have q':(s.heap.push { cls:=.type "tuple",data:=.seq #[u,v] }).get? s.heap.objs.size=some o:=q;rw [Heap.get?_push_at rfl rfl] at q';cases q';exact tup2
    ·have q':s.heap.get? b=some o:=(Heap.get?_push_ne _ _ _ hbs).symm.trans q;exact (same.2 b n1).trans (w6 b o n1 n3 n4 n5 q')
   ·obtain ⟨f0,f1,f2,f3,f4,f5⟩:=hf b hb;exact ⟨by rw [frees b (low b hb)];exact f0,f1,f3,f4,f5⟩
  refine ⟨.ref s.heap.objs.size,_,I2,rfl,⟨_,_,_,I.hok.fresh (Nat.le_refl _),rfl,hx,hy,rfl⟩,⟨u,v,e2,?_,?_,?_,?_⟩,λb hb=>?_⟩
  ·exact (same.2 TI D.TIz).trans (w6 TI _ D.TIz D.TITO D.TIi1 D.TIi2 q2)
  ·exact (same.2 TO D.TOz).trans w2
  ·exact (same.2 i1 D.i1z).trans w3
  ·exact (same.2 i2 D.i2z).trans w4
  ·rw [frees b (low b hb)];exact (hf b hb).1
 done:=by
  intro X hP hw hK hc i pins s σ H E I hf st hg;subst hP hw hK;obtain ⟨c,d,q1,q2,q3,q4,q5⟩:=st;obtain ⟨hi,ha⟩:=hg;obtain ⟨us,ru,pu,_⟩:=I.tuple ha;have lr:=ru.length;have ty:s.TypeIs (.ref z) "zip":=⟨_,q1,rfl⟩
  unfold pyNext;refine wpAny_bind (wpAny_attempt (wpAny_callSpecial?_slot (name:=Str.ofString "__next__") ty F.slot_zip_next (wpAny_call_entry F.slot_zip_next ty F.entry_zip_next ?_ (F.args_zip_next_1 _))));refine xS (I.ok.hd hc) q1 q2 q3 q4 (show s.heap.IsTuple a us.toArray from pu) (by simp;omega) D λh' e kk ⟨o,ho,hco⟩=>?_;refine wpAny_bind (wpAny_isInstance (T:="StopIteration") (b:=true) ⟨o,ho,hco⟩ isSubtype_stop (wpAny_pure ⟨rfl,?_⟩));refine Inv.turnedL (s:=s) (h':=h') (its:=[z,i1]) (t':=s.toks) I (λb o hb q=>kk b o (λy=>hb (by simp [y])) (λy=>hb (by simp [y])) q) (λb hb=>?_)
  obtain ⟨f0,f1,f2,f3,f4,f5⟩:=hf b (by
   simp only [List.mem_cons,List.not_mem_nil,or_false] at hb;rcases hb with rfl | rfl <;> simp)
  exact ⟨f0,f1,f3,f4,f5⟩
 self:=λA i s Q E ⟨_,_,q1,_⟩ q=>wpAny_pyIter_zip q1 q
def Bq (K:W.Frag) (ta:TA):TI:=λσ H R=>ta σ H λvs H1=>∃ a b xs ys,vs=[.ref a,.ref b]/\SqT K H1 a xs/\SqT K H1 b ys/\R (Itz K a b xs ys) H1
variable {a b:Expr} {ta:TA} {p pos:Pos}
theorem rB {c1} (hg:Gl X "zip") (hm:X.mg "zip"=none) (ha:PA X [a,b] ta) (hs:starEach [a,b] X.env=(false,eval a X.env)::starEach [b] X.env:=by rfl) (hpl:(backTo pos (starEach [b] X.env)).any (·.1)=false:=by rfl) :
  PI X (.Tuple elts c1 ps) (.Call (.Name "zip" p) [a,b] [] pos) (Bq X.K ta):=by
 intro pins s σ H R I h;refine Call_ (i8 I hg hm yo (PyProof.Rows.callWith_type1 (thn (ha pos pins s σ H _ I h) λus s1 ⟨vs,H1,I1,r1,q1⟩=>?_) hs hpl));obtain ⟨t1,t2,xs,ys,ev,hq1,hq2,q⟩:=q1;subst ev
 cases r1 with
 | cons e1 rt =>
  obtain ⟨u2,rfl,e2⟩:=gS rt;cases e1;cases e2;obtain ⟨us,ru,pu,_⟩:=I1.tuple hq1;obtain ⟨vs,rv,pv,_⟩:=I1.tuple hq2;have lt1:t1 < s1.heap.objs.size:=pu.lt;have lt2:t2 < s1.heap.objs.size:=pv.lt;refine wN pu pv λh' z1 z2 z3 z4 z5 kk=>?_;refine wpAny_pyIter_zip (s:={ s1 with heap:=h' }) z1 ?_;have ne:∀ {x y:Nat},x < y->x≠y:=λh=>Nat.ne_of_lt h;have gt:∀ {x y:Nat},y < x->x≠y:=λh=>Nat.ne_of_gt h
  have ap:ZipApart (s1.heap.objs.size+4) (s1.heap.objs.size+2) (s1.heap.objs.size+3) s1.heap.objs.size (s1.heap.objs.size+1) t1 t2 :=
   ⟨ne (by omega),ne (by omega),ne (by omega),ne (by omega),ne (by omega),gt (by omega),gt (by omega),gt (by omega),gt (by omega),ne (by omega),ne (Nat.lt_of_lt_of_le lt1 (by omega)),ne (Nat.lt_of_lt_of_le lt1 (by omega)),ne lt1,ne (Nat.lt_of_lt_of_le lt1 (by omega)),
    ne (Nat.lt_of_lt_of_le lt2 (by omega)),ne (Nat.lt_of_lt_of_le lt2 (by omega)),ne lt2,ne (Nat.lt_of_lt_of_le lt2 (by omega))⟩
  refine ⟨s1.heap.objs.size+4,[s1.heap.objs.size+4,s1.heap.objs.size+2,s1.heap.objs.size+3,s1.heap.objs.size,s1.heap.objs.size+1],_,_,H1,rfl,I1.kept (t':=s1.toks) kk,AI t1 t2 _ _ _ _ _ xs ys ap,⟨.none,.none,z1,z2,z3,z4,z5⟩,λb hb=>?_,q⟩
  have lb:s1.heap.objs.size<=b:=by
   simp only [List.mem_cons,List.not_mem_nil,or_false] at hb;rcases hb with rfl | rfl | rfl | rfl | rfl
   ·exact Nat.le_add_right _ _
   ·exact Nat.le_add_right _ _
   ·exact Nat.le_add_right _ _
   ·exact Nat.le_refl _
   ·exact Nat.le_add_right _ _
  exact I1.fpOk lb (I1.hok.fresh lb)
abbrev yY (t:Addr):Obj:={ cls:=.type "list_iterator",data:=.fields #[.ref t,.int 0 0] }
section
variable {prog:Program} {w:World} {A:Around} {E:Value->Shared->Prop} {s:Shared} {z TI TO i1 i2 t1 t2:Addr} {k:Nat} {xs ys:Array Value}
variable {a b:Value}
theorem xR {x y:Value} {Q:Value->Shared->Prop} (hz:IsZip s.heap z TI TO .none) (hI:IsPair s.heap TI (.ref i1) (.ref i2)) (hO:IsPair s.heap TO a b) (h1:s.heap.IsListIter i1 t1 k) (h2:cV s.heap i2 t2 k)
  (l1:s.heap.IsList t1 xs) (l2:s.heap.IsTuple t2 ys) (hx:xs[k]?=some x) (hy:ys[k]?=some y) (D:ZipApart z TI TO i1 i2 t1 t2)
  (q:∀ h',IsZip h' z TI TO (rawInt s.heap.objs.size)->IsPair h' TO x y->h'.IsListIter i1 t1 (k+1)->cV h' i2 t2 (k+1)->h'.get? s.heap.objs.size=some { cls:=.type "tuple",data:=.seq #[x,y] } ->
   (∀ b o,b≠z->b≠TO->b≠i1->b≠i2->s.heap.get? b=some o->h'.get? b=some o)->Q (.ref s.heap.objs.size) { s with heap:=h' }):wpAny (model prog w) A (Builtin.«zip.__next__» ⟨[.ref z],[]⟩) (λfin s'=>∃ v,fin=.done (.ret v)/\Q v s') E s:=by
 show wpAny _ _ (field (.ref z) 2 >>= _) _ _ _;refine wpAny_bind (wpAny_field hz rfl rfl ?_);show wpAny _ _ (field (.ref z) 3 >>= _) _ _ _;refine wpAny_bind (wpAny_field hz rfl rfl ?_);refine wpAny_bind (wpAny_seqItems hI rfl ?_);refine wpAny_bind (wpAny_bind (wpAny_field hz rfl rfl (wpAny_pure ?_)));refine wpAny_bind (wpAny_rule ?_);refine wpAny_bind (wpAny_field hz rfl rfl ?_);refine wpAny_bind (wpAny_setField_rec hz (by simp) λha za sa=>?_)
 replace za:IsZip ha z TI TO .ellipsis:=za
 rw [show (#[Value.ref i1,Value.ref i2]:Array Value).toList.zipIdx=[(.ref i1,0),(.ref i2,1)] from rfl,List.forIn_cons];have h1a:ha.IsListIter i1 t1 k:=h1.at λo e=>(sa.2 i1 D.i1z).trans e;have h2a:cV ha i2 t2 k:=(sa.2 i2 D.i2z).trans h2;have l1a:ha.IsList t1 xs:=l1.extBut sa.extBut D.l1z;have l2a:ha.IsTuple t2 ys:=l2.extBut sa.extBut D.l2z;have hOa:IsPair ha TO a b:=(sa.2 TO D.TOz).trans hO;refine wpAny_bind (wpAny_bind (wpAny_bind (wpAny_onRaise (wpAny_bind (wpAny_nextOf_list_item (s:={ s with heap:=ha }) h1a l1a hx λhb h1b sb=>wpAny_pure ?_)))))
 replace sb:Heap.SameBut i1 ha hb:=sb
 have hOb:IsPair hb TO a b:=(sb.2 TO D.TOi1).trans hOa;refine wpAny_bind (wpAny_seqItems (s:={ s with heap:=hb }) hOb rfl ?_);refine wpAny_bind (wpAny_updateSeq_pair (s:={ s with heap:=hb }) hOb λhc hOc sc=>?_)
 replace sc:Heap.SameBut TO hb hc:=sc
 replace hOc:IsPair hc TO x b:=hOc
 refine wpAny_bind (wpAny_letGo (wpAny_pure ?_));have h2c:cV hc i2 t2 k:=(sc.2 i2 (Ne.symm D.TOi2)).trans ((sb.2 i2 (Ne.symm D.i12)).trans h2a);have l2c:hc.IsTuple t2 ys:=(l2a.extBut sb.extBut D.l2i1).extBut sc.extBut D.l2TO;show wpAny _ _ (forIn [(Value.ref i2,1)] _ _) _ _ _;rw [List.forIn_cons];refine wpAny_bind (wpAny_bind (wpAny_onRaise (wpAny_bind (j3 (s:={ s with heap:=hc }) h2c l2c hy λhd h2d sd=>wpAny_pure ?_))))
 replace sd:Heap.SameBut i2 hc hd:=sd
 have hOd:IsPair hd TO x b:=(sd.2 TO D.TOi2).trans hOc;refine wpAny_bind (wpAny_seqItems (s:={ s with heap:=hd }) hOd rfl ?_);refine wpAny_bind (wpAny_updateSeq_pair (s:={ s with heap:=hd }) hOd λhe hOe se=>?_)
 replace se:Heap.SameBut TO hd he:=se
 replace hOe:IsPair he TO x y:=hOe
 refine wpAny_bind (wpAny_letGo (wpAny_pure ?_));show wpAny _ _ (forIn [] _ _) _ _ _;rw [List.forIn_nil];refine wpAny_pure ?_;show wpAny _ _ (seqItems? (.ref TO) >>= _) _ _ _;refine wpAny_bind (wpAny_seqItems (s:={ s with heap:=he }) hOe rfl ?_);refine wpAny_bind (wpAny_newTuple ?_);have sze:he.objs.size=s.heap.objs.size:=by rw [se.1,sd.1,sc.1,sb.1,sa.1]
 have ze:IsZip he z TI TO .ellipsis:=(se.2 z (Ne.symm D.TOz)).trans ((sd.2 z (Ne.symm D.i2z)).trans ((sc.2 z (Ne.symm D.TOz)).trans ((sb.2 z (Ne.symm D.i1z)).trans za)));have zf:IsZip (he.push { cls:=.type "tuple",data:=.seq #[x,y] }) z TI TO .ellipsis:=Heap.get?_push_of_some _ ze;have tf:(he.push { cls:=.type "tuple",data:=.seq #[x,y] }).get? s.heap.objs.size=some { cls:=.type "tuple",data:=.seq #[x,y] }:=Heap.get?_push_at sze.symm rfl;have of:IsPair (he.push { cls:=.type "tuple",data:=.seq #[x,y] }) TO x y:=Heap.get?_push_of_some _ hOe;have f1:(he.push { cls:=.type "tuple",data:=.seq #[x,y] }).IsListIter i1 t1 (k+1):=h1b.at λo e=>Heap.get?_push_of_some _ ((se.2 i1 (Ne.symm D.TOi1)).trans ((sd.2 i1 D.i12).trans ((sc.2 i1 (Ne.symm D.TOi1)).trans e)));have f2:cV (he.push { cls:=.type "tuple",data:=.seq #[x,y] }) i2 t2 (k+1):=Heap.get?_push_of_some _ ((se.2 i2 (Ne.symm D.TOi2)).trans h2d)
 have kf:∀ b o,b≠z->b≠TO->b≠i1->b≠i2->s.heap.get? b=some o->(he.push { cls:=.type "tuple",data:=.seq #[x,y] }).get? b=some o:=λb o n1 n2 n3 n4 e =>
  Heap.get?_push_of_some _ ((se.2 b n2).trans ((sd.2 b n4).trans ((sc.2 b n2).trans ((sb.2 b n3).trans ((sa.2 b n1).trans e)))))
 generalize he.push { cls:=.type "tuple",data:=.seq #[x,y] }=hf at zf tf of f1 f2 kf;have lz:z < s.heap.objs.size:=Heap.lt_size hz;show wpAny _ _ (Builtin.SmallTypes.ownedTupleHandOut (.ref z) (.ref he.objs.size) >>= _) _ _ _;rw [sze];refine wpAny_bind (wpAny_bind (wpAny_setField_rec (s:={ s with heap:=hf }) zf (by simp) λhg zg sg=>wpAny_setField_rec (s:={ s with heap:=hg }) zg (by simp) λhh zh sh=>wpAny_pure ⟨_,rfl,?_⟩))
 replace sg:Heap.SameBut z hf hg:=sg
 replace sh:Heap.SameBut z hg hh:=sh
 have on:∀ b,b≠z->hh.get? b=hf.get? b:=λb n=>(sh.2 b n).trans (sg.2 b n);refine q hh zh ?_ ?_ ?_ ?_ λb o n1 n2 n3 n4 e=>(on b n1).trans (kf b o n1 n2 n3 n4 e)
 ·exact (on TO D.TOz).trans of
 ·exact f1.at λo e=>(on i1 D.i1z).trans e
 ·exact (on i2 D.i2z).trans f2
 ·exact (on _ (Nat.ne_of_gt lz)).trans tf
theorem xQ {Q:Fin->Shared->Prop} (hh:A.handled=none) (hz:IsZip s.heap z TI TO .none) (hI:IsPair s.heap TI (.ref i1) (.ref i2)) (hO:IsPair s.heap TO a b) (h1:s.heap.IsListIter i1 t1 k)
  (l1:s.heap.IsList t1 xs) (hx:xs[k]?=none) (D:ZipApart z TI TO i1 i2 t1 t2)
  (q:∀ h' e,(∀ b o,b≠z->b≠i1->s.heap.get? b=some o->h'.get? b=some o)->(∃ o,h'.get? e=some o/\o.cls=.type "StopIteration")->E (.ref e) { s with heap:=h' }):wpAny (model prog w) A (Builtin.«zip.__next__» ⟨[.ref z],[]⟩) Q E s:=by
 show wpAny _ _ (field (.ref z) 2 >>= _) _ _ _;refine wpAny_bind (wpAny_field hz rfl rfl ?_);show wpAny _ _ (field (.ref z) 3 >>= _) _ _ _;refine wpAny_bind (wpAny_field hz rfl rfl ?_);refine wpAny_bind (wpAny_seqItems hI rfl ?_);refine wpAny_bind (wpAny_bind (wpAny_field hz rfl rfl (wpAny_pure ?_)));refine wpAny_bind (wpAny_rule ?_);refine wpAny_bind (wpAny_field hz rfl rfl ?_);refine wpAny_bind (wpAny_setField_rec hz (by simp) λha za sa=>?_)
 replace za:IsZip ha z TI TO .ellipsis:=za
 rw [show (#[Value.ref i1,Value.ref i2]:Array Value).toList.zipIdx=[(.ref i1,0),(.ref i2,1)] from rfl,List.forIn_cons];have h1a:ha.IsListIter i1 t1 k:=h1.at λo e=>(sa.2 i1 D.i1z).trans e;have l1a:ha.IsList t1 xs:=l1.extBut sa.extBut D.l1z;refine wpAny_bind (wpAny_bind (wpAny_bind (wpAny_onRaise (wpAny_bind (wpAny_nextOf_list_end (s:={ s with heap:=ha }) hh h1a l1a hx λhb e sb he=>?_)))))
 replace sb:Heap.ExtBut i1 ha hb:=sb
 have zb:IsZip hb z TI TO .ellipsis:=sb z _ (Ne.symm D.i1z) za;obtain ⟨oe,hoe,hce⟩:=he;have nez:e≠z:=λy=>by rw [y,zb] at hoe;cases hoe;simp at hce
 refine wpAny_setField_rec (s:={ s with heap:=hb }) zb (by simp) λhc zc sc=>q hc e (λb o n1 n2 hb'=>?_) ⟨oe,(sc.2 e nez).trans hoe,hce⟩;exact (sc.2 b n1).trans (sb b o n2 ((sa.2 b n1).trans hb'))
end
theorem AQ (t1 t2:Addr) (xs ys:Array Value) :
  Meets (Builtin.«zip.__new__» ⟨[.type "zip",.ref t1,.ref t2],[]⟩) (λ_ R s=>s.heap.IsList t1 xs/\s.heap.IsTuple t2 ys /\
   ∀ h',IsZip h' (s.heap.objs.size+4) (s.heap.objs.size+2) (s.heap.objs.size+3) .none->IsPair h' (s.heap.objs.size+2) (.ref s.heap.objs.size) (.ref (s.heap.objs.size+1))->IsPair h' (s.heap.objs.size+3) .none .none ->
    h'.IsListIter s.heap.objs.size t1 0->cV h' (s.heap.objs.size+1) t2 0->(∀ b o,s.heap.get? b=some o->h'.get? b=some o)->R (.ok (.ret (.ref (s.heap.objs.size+4)))) { s with heap:=h' }) :=
 .of_wp λ_ _ _ _ s q=>by
  obtain ⟨h0,g0,d0,t0,o0⟩:=s;obtain ⟨a1,a2,q⟩:=q;have self1:=sub_zip;have b1:Heap.IsList (Shared.heap ⟨h0,g0,d0,t0,o0⟩) t1 xs:=a1;have b2:Heap.IsTuple (Shared.heap ⟨h0.push (yY t1),g0,d0,t0,o0⟩) t2 ys:=Heap.IsTuple.push a2 _
  wp_walk using wpAny_pyIter_list b1,wpAny_pyIter_tuple b2
  refine ⟨_,rfl,?_⟩;have n1:(h0.push (yY t1)).objs.size=h0.objs.size+1:=Heap.size_push _ _;simp only [Heap.size_push];refine q _ ?_ ?_ ?_ ?_ ?_ λb o e=>?_
  ·exact Heap.get?_push_at (by simp [Heap.size_push]) rfl
  ·exact Heap.get?_push_of_some _ (Heap.get?_push_of_some _ (Heap.get?_push_at (by simp [Heap.size_push]) rfl))
  ·exact Heap.get?_push_of_some _ (Heap.get?_push_at (by simp [Heap.size_push]) rfl)
  ·exact ⟨_,Heap.get?_push_of_some _ (Heap.get?_push_of_some _ (Heap.get?_push_of_some _ (Heap.get?_push_of_some _ (Heap.get?_push_at (by simp [Heap.size_push]) rfl)))),rfl,rfl⟩
  ·exact Heap.get?_push_of_some _ (Heap.get?_push_of_some _ (Heap.get?_push_of_some _ (Heap.get?_push_at (by simp [Heap.size_push]) rfl)))
  ·exact Heap.get?_push_of_some _ (Heap.get?_push_of_some _ (Heap.get?_push_of_some _ (Heap.get?_push_of_some _ (Heap.get?_push_of_some _ e))))
theorem wM {E:Value->Shared->Prop} {Q:Value->Shared->Prop} (a1:s.heap.IsList t1 xs) (a2:s.heap.IsTuple t2 ys)
  (q:∀ h',IsZip h' (s.heap.objs.size+4) (s.heap.objs.size+2) (s.heap.objs.size+3) .none->IsPair h' (s.heap.objs.size+2) (.ref s.heap.objs.size) (.ref (s.heap.objs.size+1))->IsPair h' (s.heap.objs.size+3) .none .none ->
   h'.IsListIter s.heap.objs.size t1 0->cV h' (s.heap.objs.size+1) t2 0->(∀ b o,s.heap.get? b=some o->h'.get? b=some o)->Q (.ref (s.heap.objs.size+4)) { s with heap:=h' }):wpAny (model prog w) A (call (.type "zip") [.ref t1,.ref t2]) Q E s :=
 callType_new F.called_zip (by decide) (F.typeCall_zip_2 _ _) (F.newCall_zip_2 _ _) (λo=>F.args_object_init_3 o _ _) F.entry_zip_new (AQ t1 t2 xs ys) ⟨a1,a2,λh' z1 z2 z3 z4 z5 kk=>⟨⟨_,z1,rfl⟩,q h' z1 z2 z3 z4 z5 kk⟩⟩
def Itm (K:W.Frag) (a b:Addr) (xs ys:List V):It:=⟨λi H=>i < xs.length/\i < ys.length/\SqL K H a xs/\SqT K H b ys,λi H x H'=>∃ p u v,H p=none/\x=.ref p/\xs[i]?=some u/\ys[i]?=some v/\H'=upd H p (.tup [u,v]),λi H=>i=xs.length/\SqL K H a xs⟩
theorem xO {c1} (a b z TI TO i1 i2:Addr) (xs ys:List V) (D:ZipApart z TI TO i1 i2 a b):mD P w K (.Tuple elts c1 ps) (Itm K a b xs ys) [z,TI,TO,i1,i2] z
  (λi h=>∃ c d,IsZip h z TI TO .none/\IsPair h TI (.ref i1) (.ref i2)/\IsPair h TO c d/\h.IsListIter i1 a i/\cV h i2 b i) where
 mem:=by simp
 obj:=λi h ⟨c,d,q1,q2,q3,q4,q5⟩ b hb=>by
  simp only [List.mem_cons,List.not_mem_nil,or_false] at hb;rcases hb with rfl | rfl | rfl | rfl | rfl
  ·exact ⟨_,q1,λv e=>by cases e⟩
  ·exact ⟨_,q2,λv e=>by cases e⟩
  ·exact ⟨_,q3,λv e=>by cases e⟩
  ·obtain ⟨o,e,c,d⟩:=q4;exact ⟨o,e,λv z=>by rw [d] at z;cases z⟩
  ·exact ⟨_,q5,λv e=>by cases e⟩
 keep:=λi h h' ⟨c,d,q1,q2,q3,q4,q5⟩ k=>⟨c,d,k z (by simp) _ q1,k TI (by simp) _ q2,k TO (by simp) _ q3,q4.at λo e=>k i1 (by simp) o e,k i2 (by simp) _ q5⟩
 item:=by
  intro X hP hw hK hc i pins s σ H E I hf st hg;subst hP hw hK;obtain ⟨c,d,q1,q2,q3,q4,q5⟩:=st;obtain ⟨hi,hj,ha,hb⟩:=hg;obtain ⟨us,ru,pu,_⟩:=I.list ha;obtain ⟨vs,rv,pv,_⟩:=I.tuple hb;have hx:xs[i]?=some xs[i]:=List.getElem?_eq_getElem hi;have hy:ys[i]?=some ys[i]:=List.getElem?_eq_getElem hj;obtain ⟨u,hu,r1⟩:=ru.get hx;obtain ⟨v,hv,r2⟩:=rv.get hy;have ty:s.TypeIs (.ref z) "zip":=⟨_,q1,rfl⟩
  unfold pyNext;refine wpAny_bind (wpAny_attempt (wpAny_callSpecial?_slot (name:=Str.ofString "__next__") ty F.slot_zip_next (wpAny_call_entry F.slot_zip_next ty F.entry_zip_next ?_ (F.args_zip_next_1 _))));refine xR (x:=u) (y:=v) q1 q2 q3 q4 q5 (show s.heap.IsList a us.toArray from pu.isList) (show s.heap.IsTuple b vs.toArray from pv) (by simpa using hu) (by simpa using hv) D λh' w1 w2 w3 w4 w5 w6=>wpAny_pure ⟨_,rfl,?_⟩;refine wpAny_letOwnedTupleGo_zip (s:={ s with heap:=h' }) w1 λh2 e2 same=>?_
  replace same:Heap.SameBut z h' h2:=same
  have lz:z < s.heap.objs.size:=Heap.lt_size q1;have lTI:TI < s.heap.objs.size:=Heap.lt_size q2;have lTO:TO < s.heap.objs.size:=Heap.lt_size q3;have l1:i1 < s.heap.objs.size:=by obtain ⟨o,e,_⟩:=q4;exact Heap.lt_size e
  have l2:i2 < s.heap.objs.size:=Heap.lt_size q5
  have low:∀ b ∈ [z,TI,TO,i1,i2],b < s.heap.objs.size:=λb hb=>by simp only [List.mem_cons,List.not_mem_nil,or_false] at hb;rcases hb with rfl | rfl | rfl | rfl | rfl <;> assumption
  have tup2:h2.get? s.heap.objs.size=some { cls:=.type "tuple",data:=.seq #[u,v] }:=(same.2 _ (Nat.ne_of_gt lz)).trans w5
  have I1:Inv X pins σ (upd H s.heap.objs.size (.tup [xs[i],ys[i]])) { s with heap:=s.heap.push { cls:=.type "tuple",data:=.seq #[u,v] },toks:=s.toks } :=
   I.laid (o:=.tup [xs[i],ys[i]]) (λb ob q=>Heap.get?_push_of_some _ q) (Nat.le_refl _) ⟨by rw [sizeLine_eq];simp,[u,v],.cons r1 (.cons r2 .nil),IsTup.new _ _⟩
  have frees:∀ b,b < s.heap.objs.size->upd H s.heap.objs.size (.tup [xs[i],ys[i]]) b=H b:=λb hb=>aO (Nat.ne_of_lt hb)
  have I2:Inv X pins σ (upd H s.heap.objs.size (.tup [xs[i],ys[i]])) { s with heap:=h2,toks:=s.toks }:=by
   refine Inv.turnedL (s:={ s with heap:=s.heap.push { cls:=.type "tuple",data:=.seq #[u,v] },toks:=s.toks }) (h':=h2) (its:=[z,TI,TO,i1,i2]) (t':=s.toks) I1 (λb o hb q=>?_) (λb hb=>?_)
   ·simp only [List.mem_cons,List.not_mem_nil,or_false,not_or] at hb;obtain ⟨n1,n2,n3,n4,n5⟩:=hb;by_cases hbs:b=s.heap.objs.size
    ·subst hbs;have q':(s.heap.push { cls:=.type "tuple",data:=.seq #[u,v] }).get? s.heap.objs.size=some o:=q;rw [Heap.get?_push_at rfl rfl] at q';cases q';exact tup2
    ·have q':s.heap.get? b=some o:=(Heap.get?_push_ne _ _ _ hbs).symm.trans q;exact (same.2 b n1).trans (w6 b o n1 n3 n4 n5 q')
   ·obtain ⟨f0,f1,f2,f3,f4,f5⟩:=hf b hb;exact ⟨by rw [frees b (low b hb)];exact f0,f1,f3,f4,f5⟩
  refine ⟨.ref s.heap.objs.size,_,I2,rfl,⟨_,_,_,I.hok.fresh (Nat.le_refl _),rfl,hx,hy,rfl⟩,⟨u,v,e2,?_,?_,?_,?_⟩,λb hb=>?_⟩
  ·exact (same.2 TI D.TIz).trans (w6 TI _ D.TIz D.TITO D.TIi1 D.TIi2 q2)
  ·exact (same.2 TO D.TOz).trans w2
  ·exact w3.at λo e=>(same.2 i1 D.i1z).trans e
  ·exact (same.2 i2 D.i2z).trans w4
  ·rw [frees b (low b hb)];exact (hf b hb).1
 done:=by
  intro X hP hw hK hc i pins s σ H E I hf st hg;subst hP hw hK;obtain ⟨c,d,q1,q2,q3,q4,q5⟩:=st;obtain ⟨hi,ha⟩:=hg;obtain ⟨us,ru,pu,_⟩:=I.list ha;have lr:=ru.length;have ty:s.TypeIs (.ref z) "zip":=⟨_,q1,rfl⟩
  unfold pyNext;refine wpAny_bind (wpAny_attempt (wpAny_callSpecial?_slot (name:=Str.ofString "__next__") ty F.slot_zip_next (wpAny_call_entry F.slot_zip_next ty F.entry_zip_next ?_ (F.args_zip_next_1 _))));refine xQ (I.ok.hd hc) q1 q2 q3 q4 (show s.heap.IsList a us.toArray from pu.isList) (by simp;omega) D λh' e kk ⟨o,ho,hco⟩=>?_;refine wpAny_bind (wpAny_isInstance (T:="StopIteration") (b:=true) ⟨o,ho,hco⟩ isSubtype_stop (wpAny_pure ⟨rfl,?_⟩));refine Inv.turnedL (s:=s) (h':=h') (its:=[z,i1]) (t':=s.toks) I (λb o hb q=>kk b o (λy=>hb (by simp [y])) (λy=>hb (by simp [y])) q) (λb hb=>?_)
  obtain ⟨f0,f1,f2,f3,f4,f5⟩:=hf b (by
   simp only [List.mem_cons,List.not_mem_nil,or_false] at hb;rcases hb with rfl | rfl <;> simp)
  exact ⟨f0,f1,f3,f4,f5⟩
 self:=λA i s Q E ⟨_,_,q1,_⟩ q=>wpAny_pyIter_zip q1 q
def CC (K:W.Frag) (ta:TA):TI:=λσ H R=>ta σ H λvs H1=>∃ a b xs ys,vs=[.ref a,.ref b]/\SqL K H1 a xs/\SqT K H1 b ys/\R (Itm K a b xs ys) H1
theorem BY {c1} (hg:Gl X "zip") (hm:X.mg "zip"=none) (ha:PA X [a,b] ta) (hs:starEach [a,b] X.env=(false,eval a X.env)::starEach [b] X.env:=by rfl) (hpl:(backTo pos (starEach [b] X.env)).any (·.1)=false:=by rfl) :
  PI X (.Tuple elts c1 ps) (.Call (.Name "zip" p) [a,b] [] pos) (CC X.K ta):=by
 intro pins s σ H R I h;refine Call_ (i8 I hg hm yo (PyProof.Rows.callWith_type1 (thn (ha pos pins s σ H _ I h) λus s1 ⟨vs,H1,I1,r1,q1⟩=>?_) hs hpl));obtain ⟨t1,t2,xs,ys,ev,hq1,hq2,q⟩:=q1;subst ev
 cases r1 with
 | cons e1 rt =>
  obtain ⟨u2,rfl,e2⟩:=gS rt;cases e1;cases e2;obtain ⟨us,ru,pu,_⟩:=I1.list hq1;obtain ⟨vs,rv,pv,_⟩:=I1.tuple hq2;have lt1:t1 < s1.heap.objs.size:=by obtain ⟨o,e,_⟩:=pu.isList;exact Heap.lt_size e
  have lt2:t2 < s1.heap.objs.size:=pv.lt;refine wM pu.isList pv λh' z1 z2 z3 z4 z5 kk=>?_;refine wpAny_pyIter_zip (s:={ s1 with heap:=h' }) z1 ?_;have ne:∀ {x y:Nat},x < y->x≠y:=λh=>Nat.ne_of_lt h;have gt:∀ {x y:Nat},y < x->x≠y:=λh=>Nat.ne_of_gt h
  have ap:ZipApart (s1.heap.objs.size+4) (s1.heap.objs.size+2) (s1.heap.objs.size+3) s1.heap.objs.size (s1.heap.objs.size+1) t1 t2 :=
   ⟨ne (by omega),ne (by omega),ne (by omega),ne (by omega),ne (by omega),gt (by omega),gt (by omega),gt (by omega),gt (by omega),ne (by omega),ne (Nat.lt_of_lt_of_le lt1 (by omega)),ne (Nat.lt_of_lt_of_le lt1 (by omega)),ne lt1,ne (Nat.lt_of_lt_of_le lt1 (by omega)),
    ne (Nat.lt_of_lt_of_le lt2 (by omega)),ne (Nat.lt_of_lt_of_le lt2 (by omega)),ne lt2,ne (Nat.lt_of_lt_of_le lt2 (by omega))⟩
  refine ⟨s1.heap.objs.size+4,[s1.heap.objs.size+4,s1.heap.objs.size+2,s1.heap.objs.size+3,s1.heap.objs.size,s1.heap.objs.size+1],_,_,H1,rfl,I1.kept (t':=s1.toks) kk,xO t1 t2 _ _ _ _ _ xs ys ap,⟨.none,.none,z1,z2,z3,z4,z5⟩,λb hb=>?_,q⟩
  have lb:s1.heap.objs.size<=b:=by
   simp only [List.mem_cons,List.not_mem_nil,or_false] at hb;rcases hb with rfl | rfl | rfl | rfl | rfl
   ·exact Nat.le_add_right _ _
   ·exact Nat.le_add_right _ _
   ·exact Nat.le_add_right _ _
   ·exact Nat.le_refl _
   ·exact Nat.le_add_right _ _
  exact I1.fpOk lb (I1.hok.fresh lb)
variable {i j:Nat}
theorem kR (σ:St) (ne:i≠j) (a b c d:Option V):((((σ.set i a).set j b).set i c).set j d)=(σ.set i c).set j d:=by rw [List.set_comm _ _ (Ne.symm ne),List.set_set,List.set_set]
theorem D7 {te:TE} {mk:St->St} {cs ds:List D} (h:RA K ta σ H [.tup cs,.tup ds]) (hl:cs.length=ds.length) (hc:cs.length<=1000) (es:List D) (hn:es.length=cs.length) (ne:i≠j)
  (h0:((mk σ).set i none).set j none=mk σ)
  (turn:∀ H1 (k:Nat) c d e v w,Same H H1->cs[k]?=some c->ds[k]?=some d->es[k]?=some e->Dat K H1 c v->Dat K H1 d w->RE K te (((mk σ).set i (some v)).set j (some w)) H1 e) :
  RC K (fK (Bq K ta) mk (qC K 2 (gx (bX i) (gx (bX j) sy))) dS te) σ H es:=λH1 s Q q=>by
 refine h H1 s _ λvs H2 s2 q2=>?_;obtain ⟨v1,v2,e,k1,k2⟩:=fW q2;subst e;obtain ⟨a,us,e1,ha,da⟩:=k1.tupE;obtain ⟨b,ws,e2,hb,db⟩:=k2.tupE;subst e1 e2;have lu:=da.length;have lw:=db.length;refine ⟨a,b,us,ws,rfl,ha,hb,λl hl2=>?_⟩;have s02:Same H H2:=s.trans s2;refine ⟨λn m σ' G=>m=us.length - n/\n<=us.length/\(∃ z1 z2,σ'=((mk σ).set i z1).set j z2)/\Same H2 G/\∃ ys,G l=some (.lst ys)/\Dats K G (es.take n) ys,⟨us.length,by omega,Nat.zero_le _,⟨none,none,h0.symm⟩,aG hl2 _,[],aq,by rw [List.take_zero];exact Dats.nil⟩,?_⟩;rintro n m σ' G ⟨rfl,hle,⟨z1,z2,rfl⟩,sG,ys,hy,dy⟩;by_cases hlt:n < us.length
 ·refine .inr ⟨⟨hlt,by omega,sG.sqT ha,sG.sqT hb⟩,λσ'' G'=>(∃ z1 z2,σ''=((mk σ).set i z1).set j z2)/\Same H2 G'/\∃ ys,G' l=some (.lst ys)/\Dats K G' (es.take (n+1)) ys,λσ'' G' w=>⟨us.length - (n+1),by omega,rfl,hlt,w.1,w.2⟩,λx G' y=>?_⟩;obtain ⟨p,u,w,hp,rfl,hu,hw,rfl⟩:=y;have sn:Same G (upd G p (.tup [u,w])):=aG hp _;have s2n:=sG.trans sn;obtain ⟨c,ec,hcv⟩:=da.getV hu;obtain ⟨d,ed,hdv⟩:=db.getV hw;have hne:n < es.length:=by omega
  refine ⟨p,[u,w],rfl,SqT.of aq,rfl,u,_,rfl,w,_,rfl,rfl,?_⟩;simp only [dS,if_true];rw [kR _ ne];refine RE.use (turn _ n c d es[n] u w (s02.trans s2n) ec ed (List.getElem?_eq_getElem hne) (s2n.dat hcv) (s2n.dat hdv)) λv G4 s4 q4=>?_;have hy4:=s4 _ _ (sn _ _ hy);have lys:ys.length=n:=by rw [<- dy.length,List.length_take];omega
  refine ⟨ys,hy4,bx (by omega),⟨_,_,rfl⟩,λx o hx=>?_,ys++[v],aq,?_⟩
  ·rw [aO (aB hx hl2)];exact s4 _ _ (s2n _ _ hx)
  ·have g:dH K G4 (upd G4 l (.lst (ys++[v]))):=But.grow (t:=l) (But.upd (Same.refl G4).but) hy4 aq;rw [List.take_add_one,List.getElem?_eq_getElem hne];exact Dats.append (Dats.mono g _ (s4.dats (sn.dats dy))) (Dats.cons (Dat.mono g _ q4) Dats.nil)
 ·have e:n=us.length:=by omega
  subst e;refine .inl ⟨⟨rfl,sG.sqT ha⟩,?_⟩;rw [List.take_of_length_le (by omega)] at dy;exact q l ys G (s2.free hl2) (s2.trans sG) hy dy
section
variable {K:W.Frag} {σ:St} {H:Hp} {tA:TA} {ar:List Ar} {d:D} {R:List Ar->D->Prop} {B:List Ar->Addr->Prop} {E:XK} {Q:VK} {C:Addr}
end
end L2
namespace L2
open PySem PySem.Spec PyProof.Rows
section
variable {X:Cx}
end
section
variable {K:W.Frag} {σ:St} {H H':Hp} {d d':D} {ds es:List D} {t u ta tb te tl:TE} {tA:TA} {mk:St->St} {jj:Nat}
inductive LDs (K:W.Frag) (H:Hp):List (List D)->List V->Prop
 | nil:LDs K H [] []
 | cons {es:List D} {v:V} {ess:List (List D)} {vs:List V}:LD K H es v->LDs K H ess vs->LDs K H (es::ess) (v::vs)
variable {ess:List (List D)} {vs:List V}
theorem LDs.length (h:LDs K H ess vs):ess.length=vs.length:=by
 induction h with
 | nil=>rfl
 | cons _ _ ih=>simp [ih]
theorem LDs.map (h:LDs K H ess vs) (f:∀ es v,LD K H es v->LD K H' es v):LDs K H' ess vs:=by
 induction h with
 | nil=>exact .nil
 | cons h1 _ ih=>exact .cons (f _ _ h1) ih
theorem Same.lds (e:Same H H') (h:LDs K H ess vs):LDs K H' ess vs:=h.map λ_ _ z=>e.ld z
theorem LDs.snoc {es:List D} {v:V} (h:LDs K H ess vs) (h1:LD K H es v):LDs K H (ess++[es]) (vs++[v]):=by
 induction h with
 | nil=>exact .cons h1 .nil
 | cons k _ ih=>exact .cons k ih
theorem LDs.get (h:LDs K H ess vs):∀ {i:Nat} {es:List D},ess[i]?=some es->∃ v,vs[i]?=some v/\LD K H es v:=by
 induction h with
 | nil=>intro i es e;cases e
 | cons k _ ih =>
  intro i es e
  cases i with
  | zero=>cases e;exact ⟨_,rfl,k⟩
  | succ i=>exact ih e
def RCL (K:W.Frag) (t:TE) (σ:St) (H:Hp) (ess:List (List D)):Prop:=∀ H1,Same H H1->∀ Q:VK,(∀ l ys H',H1 l=none->Same H1 H'->H' l=some (.lst ys)->LDs K H' ess ys->Q (.ref l) H')->t σ H1 Q
theorem RCL.use {Q:VK} (h:RCL K t σ H ess) (q:∀ l ys H',H l=none->Same H H'->H' l=some (.lst ys)->LDs K H' ess ys->Q (.ref l) H'):t σ H Q:=h H (Same.refl H) Q q
def Off (K:W.Frag) (H:Hp) (l:Addr) (vs:List V):Prop:=∀ v ∈ vs,v≠.ref l
variable {l:Addr}
theorem LDs.grown {zs zs':List V} (h:LDs K H ess vs) (off:Off K H l vs) (e:But l H H') (h1:H l=some (.lst zs)) (h2:H' l=some (.lst zs')):LDs K H' ess vs:=by
 have g:dH K H H':=e.grow h1 h2
 induction h with
 | nil=>exact .nil
 | cons k _ ih =>refine .cons ?_ (ih λv hv=>off v (List.mem_cons_of_mem _ hv));obtain ⟨a,us,rfl,ha,hd⟩:=k;have na:a≠l:=λz=>off _ List.mem_cons_self (by rw [z]);refine ⟨a,us,rfl,?_,Dats.mono g _ hd⟩;exact ha.elim (λz=>.inl (e _ _ na z)) .inr
theorem mM {k j:Nat} {ys:List V} (hl:H l=some (.lst ys)) (hd:LDs K H ess ys) (h2:RE K tb σ H (.int j)) (e:ess[j]?=some es) (hv:σ[k]?=some (some (.ref l)):=by rfl):RL K (tOp (uT K) (fG k) tb) σ H es:=λH1 s Q q =>
 ⟨_,hv,h2 H1 s _ λw H3 s3 q3=>by
  obtain ⟨v,ev,hx⟩:=((s.trans s3).lds hd).get e;exact ⟨l,ys,j,v,rfl,q3.intE,SqL.of ((s.trans s3) _ _ hl),gz ev,q _ _ s3 hx⟩⟩
end
end L2
namespace L2
open PySem PySem.Spec PySem.Calls PyProof.Rows
variable {K:W.Frag} {σ:St} {H:Hp} {ta:TA} {te:TE} {mk:St->St} {i j:Nat} {cs ds:List D}
theorem B5 (h:RA K ta σ H [.tup cs,.tup ds]) (hl:cs.length=ds.length) (hc:cs.length<=1000) (ess:List (List D)) (hn:ess.length=cs.length) (ne:i≠j)
  (h0:((mk σ).set i none).set j none=mk σ)
  (turn:∀ H1 (k:Nat) c d es v w,Same H H1->cs[k]?=some c->ds[k]?=some d->ess[k]?=some es->Dat K H1 c v->Dat K H1 d w->RC K te (((mk σ).set i (some v)).set j (some w)) H1 es) :
  RCL K (fK (Bq K ta) mk (qC K 2 (gx (bX i) (gx (bX j) sy))) dS te) σ H ess:=λH1 s Q q=>by
 refine h H1 s _ λvs H2 s2 q2=>?_;obtain ⟨v1,v2,e,k1,k2⟩:=fW q2;subst e;obtain ⟨a,us,e1,ha,da⟩:=k1.tupE;obtain ⟨b,ws,e2,hb,db⟩:=k2.tupE;subst e1 e2;have lu:=da.length;have lw:=db.length;refine ⟨a,b,us,ws,rfl,ha,hb,λl hl2=>?_⟩;have s02:Same H H2:=s.trans s2;refine ⟨λn m σ' G=>m=us.length - n/\n<=us.length/\(∃ z1 z2,σ'=((mk σ).set i z1).set j z2)/\Same H2 G/\∃ ys,G l=some (.lst ys)/\LDs K G (ess.take n) ys/\Off K G l ys,⟨us.length,by omega,Nat.zero_le _,⟨none,none,h0.symm⟩,aG hl2 _,[],aq,by rw [List.take_zero];exact .nil,λv hv=>by cases hv⟩,?_⟩;rintro n m σ' G ⟨rfl,hle,⟨z1,z2,rfl⟩,sG,ys,hy,dy,off⟩;by_cases hlt:n < us.length
 ·refine .inr ⟨⟨hlt,by omega,sG.sqT ha,sG.sqT hb⟩,λσ'' G'=>(∃ z1 z2,σ''=((mk σ).set i z1).set j z2)/\Same H2 G'/\∃ ys,G' l=some (.lst ys)/\LDs K G' (ess.take (n+1)) ys/\Off K G' l ys,λσ'' G' w=>⟨us.length - (n+1),by omega,rfl,hlt,w.1,w.2⟩,λx G' y=>?_⟩;obtain ⟨p,u,w,hp,rfl,hu,hw,rfl⟩:=y;have sn:Same G (upd G p (.tup [u,w])):=aG hp _;have s2n:=sG.trans sn;obtain ⟨c,ec,hcv⟩:=da.getV hu;obtain ⟨d,ed,hdv⟩:=db.getV hw;have hne:n < ess.length:=by omega
  refine ⟨p,[u,w],rfl,SqT.of aq,rfl,u,_,rfl,w,_,rfl,rfl,?_⟩;simp only [dS,if_true];rw [kR _ ne];refine RC.use (turn _ n c d ess[n] u w (s02.trans s2n) ec ed (List.getElem?_eq_getElem hne) (s2n.dat hcv) (s2n.dat hdv)) λr zs G4 hr s4 hz dz=>?_;have hy4:=s4 _ _ (sn _ _ hy);have nrl:r≠l:=λz=>by rw [z,sn _ _ hy] at hr;cases hr
  have lys:ys.length=n:=by rw [<- dy.length,List.length_take];omega
  refine ⟨ys,hy4,bx (by omega),⟨_,_,rfl⟩,λx o hx=>?_,ys++[.ref r],aq,?_,?_⟩
  ·rw [aO (aB hx hl2)];exact s4 _ _ (s2n _ _ hx)
  ·have bl:But l G4 (upd G4 l (.lst (ys++[.ref r]))):=But.upd (Same.refl G4).but;have g:dH K G4 (upd G4 l (.lst (ys++[.ref r]))):=bl.grow hy4 aq;rw [List.take_add_one,List.getElem?_eq_getElem hne];exact LDs.snoc (LDs.grown (s4.lds (sn.lds dy)) off bl hy4 aq) (LD.of (bl _ _ nrl hz) (Dats.mono g _ dz))
  ·intro v hv;rcases List.mem_append.mp hv with hv | hv
   ·exact off v hv
   ·rw [List.mem_singleton.mp hv];exact λz=>nrl (by injection z)
 ·have e:n=us.length:=by omega
  subst e;refine .inl ⟨⟨rfl,sG.sqT ha⟩,?_⟩;rw [List.take_of_length_le (by omega)] at dy;exact q l ys G (s2.free hl2) (s2.trans sG) hy dy
theorem wu {tl:TE} {tt:TT} {jj:Nat} (h:RL K tl σ H cs) (hc:cs.length<=1000) (p:D->Bool) (h0:(mk σ).set jj none=mk σ)
  (turn:∀ H1 (i:Nat) c v,Same H H1->cs[i]?=some c->Dat K H1 c v->RT tt ((mk σ).set jj (some v)) H1 (p c)/\RE K te ((mk σ).set jj (some v)) H1 c):RC K (fK (pB K tl) mk (bX jj) tt te) σ H (cs.filter p):=λH1 s Q q=>by
 refine (h.mono s).use λv4 H4 s4 q4=>?_;obtain ⟨l4,ys4,rfl,hy4,hd4⟩:=q4;have ll:=hd4.length;refine ⟨l4,rfl,⟨ys4,hy4.sqL⟩,λl hl=>?_⟩;refine i0 (J:=Itl K l4) (n:=ys4.length) (item:=λi=>ys4.getD i .non) (λG=>SqL K G l4 ys4) (λi G o hi=>nj i G o hi) (λG o=>⟨ys4,o,Nat.le_refl _⟩) h0 l (λi G=>Same H4 G/\∃ zs,G l=some (.lst zs)/\Dats K G ((cs.take i).filter p) zs) ⟨aG hl _,[],aq,by rw [List.take_zero];exact Dats.nil⟩ (λi G _ w=>w.1.seq hy4.sqL) (λi G hi w=>?_) (λG w=>?_)
 ·obtain ⟨sG,zs,hz,dz⟩:=w;have hic:i < cs.length:=by omega
  obtain ⟨vz,ez,hv⟩:=(sG.dats hd4).get (List.getElem?_eq_getElem hic);have e1:ys4.getD i .non=vz:=by rw [List.getD_eq_getElem?_getD,ez];rfl
  simp only [e1];obtain ⟨t1,t2⟩:=turn G i cs[i] vz (s.trans (s4.trans sG)) (List.getElem?_eq_getElem hic) hv;have et:cs.take (i+1)=cs.take i++[cs[i]]:=by rw [List.take_add_one,List.getElem?_eq_getElem hic];rfl
  have lz:zs.length<=1000:=by rw [<- dz.length];exact Nat.le_trans (List.length_filter_le _ _) (by rw [List.length_take];omega)
  have lz':zs.length < 1000:=by rw [<- dz.length];exact Nat.lt_of_le_of_lt (List.length_filter_le _ _) (by rw [List.length_take];omega)
  refine t1.use λG2 s2=>?_
  cases hp:p cs[i] with
  | true =>
   refine gU ((t2.mono s2).use λv3 G3 s3 q3=>?_);have hz3:=(s2.trans s3) _ _ hz;have bl:But l G3 (upd G3 l (.lst (zs++[v3]))):=But.upd (Same.refl G3).but;have g:dH K G3 (upd G3 l (.lst (zs++[v3]))):=bl.grow hz3 aq;refine ⟨zs,hz3,bx (by omega),⟨_,rfl⟩,λx o hx=>?_,zs++[v3],aq,?_⟩
   ·rw [aO (aB hx hl)];exact (s2.trans s3) _ _ (sG _ _ hx)
   ·rw [et,List.filter_append];have e2:[cs[i]].filter p=[cs[i]]:=by rw [List.filter_cons,if_pos hp];rfl
    rw [e2];exact Dats.append (Dats.mono g _ ((s2.trans s3).dats dz)) (Dats.cons (Dat.mono g _ q3) Dats.nil)
  | false =>
   refine ik ⟨⟨_,rfl⟩,sG.trans s2,zs,s2 _ _ hz,?_⟩;rw [et,List.filter_append];have e2:[cs[i]].filter p=[]:=by rw [List.filter_cons,if_neg (by rw [hp];exact Bool.false_ne_true)];rfl
   rw [e2,List.append_nil];exact s2.dats dz
 ·obtain ⟨sG,zs,hz,dz⟩:=w;rw [<- ll,List.take_length] at dz;exact q l zs G (s4.free hl) (s4.trans sG) hz dz
variable {X:Cx} {es:List Expr} {t:TGs} {n:Nat} {pos:Pos}
theorem kC {k:Nat} (hK:X.K=K) (hc:X.calm=true) (h:PGs X es t)
  (hn:(assignEach es X.env).length=n:=by rfl) (hst:(assignEach es X.env).findIdx? (·.1)=none:=by rfl):PG X (.Tuple es k pos) (qC K n t):=by
 subst hK;exact fe hc h hn hst
def OD (K:W.Frag) (H:Hp):Option (List D)->V->Prop
 | none,v=>v=.non
 | some es,v=>LD K H es v
inductive LOs (K:W.Frag) (H:Hp):List (Option (List D))->List V->Prop
 | nil:LOs K H [] []
 | cons {o:Option (List D)} {v:V} {os:List (Option (List D))} {vs:List V}:OD K H o v->LOs K H os vs->LOs K H (o::os) (v::vs)
section
variable {K:W.Frag} {σ:St} {H H':Hp} {d d':D} {ds es:List D} {t u ta tb te tl:TE} {tA:TA} {mk:St->St} {jj:Nat} {o:Option (List D)} {os:List (Option (List D))} {vs:List V} {ar:List Ar}
variable {v:V}
theorem Same.od (e:Same H H') (h:OD K H o v):OD K H' o v:=by
 cases o with
 | none=>exact h
 | some es=>exact e.ld h
theorem LOs.length (h:LOs K H os vs):os.length=vs.length:=by
 induction h with
 | nil=>rfl
 | cons _ _ ih=>simp [ih]
theorem Same.los (e:Same H H') (h:LOs K H os vs):LOs K H' os vs:=by
 induction h with
 | nil=>exact .nil
 | cons k _ ih=>exact .cons (e.od k) ih
theorem LOs.snoc (h:LOs K H os vs) (h1:OD K H o v):LOs K H (os++[o]) (vs++[v]):=by
 induction h with
 | nil=>exact .cons h1 .nil
 | cons k _ ih=>exact .cons k ih
variable {l:Addr}
theorem LOs.grown {zs zs':List V} (h:LOs K H os vs) (off:Off K H l vs) (e:But l H H') (h1:H l=some (.lst zs)) (h2:H' l=some (.lst zs')):LOs K H' os vs:=by
 have g:dH K H H':=e.grow h1 h2
 induction h with
 | nil=>exact .nil
 | @cons o v os vs k _ ih =>
  refine .cons ?_ (ih λv hv=>off v (List.mem_cons_of_mem _ hv))
  cases o with
  | none=>exact k
  | some es =>obtain ⟨a,us,rfl,ha,hd⟩:=k;have na:a≠l:=λz=>off _ List.mem_cons_self (by rw [z]);exact ⟨a,us,rfl,ha.elim (λz=>.inl (e _ _ na z)) .inr,Dats.mono g _ hd⟩
theorem LOs.all:∀ {ess:List (List D)} {vs:List V},LOs K H (ess.map some) vs->LDs K H ess vs
 | [],_,h=>by cases h;exact .nil
 | es::ess,_,h=>by
  cases h with
  | cons k r=>exact .cons k (LOs.all r)
theorem LOs.lst (h:LOs K H os vs):(∀ v ∈ vs,v=.non\/∃ a us,v=.ref a/\SqL K H a us)/\(vs.any λv=>decide (v=.non))=os.any Option.isNone:=by
 induction h with
 | nil=>exact ⟨(λv hv=>by cases hv),rfl⟩
 | @cons o v os vs k _ ih =>
  refine ⟨λx hx=>?_,?_⟩
  ·rcases List.mem_cons.mp hx with rfl | hx
   ·cases o with
    | none=>exact .inl k
    | some es=>obtain ⟨a,us,e,h1,_⟩:=k;exact .inr ⟨a,us,e,h1.sqL⟩
   ·exact ih.1 x hx
  ·rw [List.any_cons,List.any_cons,ih.2]
   cases o with
   | none=>rw [show v=.non from k];rfl
   | some es=>obtain ⟨a,us,e,_⟩:=k;rw [e];rfl
def RO (K:W.Frag) (t:TE) (σ:St) (H:Hp) (o:Option (List D)):Prop:=∀ H1,Same H H1->∀ Q:VK,(o=none->∀ H',Same H1 H'->Q .non H')->(∀ es,o=some es->∀ l ys H',H1 l=none->Same H1 H'->H' l=some (.lst ys)->Dats K H' es ys->Q (.ref l) H')->t σ H1 Q
def xJ (K:W.Frag) (R:List Ar->Option (List D)->Prop):Sp:=λvs H Q _=>∃ as o,Ars K H as vs/\R as o/\(o=none->∀ H',Same H H'->Q .non H')/\∀ es,o=some es->∀ r us H',Same H H'->H' r=some (.lst us)->H r=none->Dats K H' es us->Q (.ref r) H'
theorem jk {R:List Ar->Option (List D)->Prop} {E:XK} (h:RB K tA σ H ar) (e:R ar o):RO K (iy (xJ K R) [] E tA) σ H o:=λH1 s Q q0 q1 =>
 h H1 s _ λvs H2 s2 q2=>⟨ar,o,by rw [List.append_nil];exact q2,e,λz H3 s3=>q0 z H3 (s2.trans s3),λes z r us H3 s3 hr hr0 hd=>q1 es z r us H3 (s2.free hr0) (s2.trans s3) hr hd⟩
def RCO (K:W.Frag) (t:TE) (σ:St) (H:Hp) (os:List (Option (List D))):Prop:=∀ H1,Same H H1->∀ Q:VK,(∀ l ys H',H1 l=none->Same H1 H'->H' l=some (.lst ys)->LOs K H' os ys->Q (.ref l) H')->t σ H1 Q
theorem RCO.use {Q:VK} (h:RCO K t σ H os) (q:∀ l ys H',H l=none->Same H H'->H' l=some (.lst ys)->LOs K H' os ys->Q (.ref l) H'):t σ H Q:=h H (Same.refl H) Q q
def CK (K:W.Frag):R2:=λx y H Q=>∃ p xs,x=.non/\y=.ref p/\SqL K H p xs/\(∀ v ∈ xs,v=.non\/∃ a vs,v=.ref a/\SqL K H a vs)/\Q (.bl (xs.any λv=>decide (v=.non))) H
def kn:Value->Bool
 | .none=>true
 | _=>false
theorem wc {X:Cx} {k:Nat} (hr:Room k X.A):OpR X (compareOp .In) (CK X.K):=by
 intro pins s σ H x y v u Q I rx ry h;obtain ⟨p,xs,rfl,rfl,hq,hls,q⟩:=h;cases ry;cases rx;obtain ⟨its,r,pl,hz⟩:=I.list hq;have hu:X.A.in1.units < cLine:=by have:=hr.un;show X.A.units+1 < cLine;omega
 have each:∀ (zs:List V) (ws:List Value),Vals zs ws->(∀ v ∈ zs,v=.non\/∃ a vs,v=.ref a/\SqL X.K H a vs)->(∀ w ∈ ws,SeqAt.EqAt X.A.in1 s w .none (kn w))/\ws.any kn=zs.any λv=>decide (v=.non):=by
  intro zs ws rr
  induction rr with
  | nil=>intro _;exact ⟨(λw hw=>by cases hw),rfl⟩
  | cons r1 _ ih =>
   intro hv;have ih:=ih λv h=>hv v (List.mem_cons_of_mem _ h);rcases hv _ List.mem_cons_self with rfl | ⟨a,vs,rfl,hs⟩
   ·cases r1;refine ⟨λw hw=>?_,by rw [List.any_cons,List.any_cons,ih.2];rfl⟩;rcases List.mem_cons.mp hw with rfl | hw
    ·exact SeqAt.EqAt.same _
    ·exact ih.1 w hw
   ·obtain ⟨js,_,pj,_⟩:=I.list hs;cases r1;refine ⟨λw hw=>?_,by rw [List.any_cons,List.any_cons,ih.2];rfl⟩;rcases List.mem_cons.mp hw with rfl | hw
    ·exact SeqAt.EqAt.list_none pj.isList hu
    ·exact ih.1 w hw
 have ea:=each xs its r hls;refine SeqAt.in_listAt kn pl.isList (λw hw=>ea.1 w (by simpa using hw)) ⟨.bl _,H,I,rfl,?_⟩;rw [show its.toArray.any kn=its.any kn by simp,ea.2];exact q
theorem wz {k:Nat} {ys:List V} (hl:H l=some (.lst ys)) (hd:LOs K H os ys) (hv:σ[k]?=some (some (.ref l)):=by rfl):RE K (tOp (CK K) (tC .non) (fG k)) σ H (.bl (os.any Option.isNone)):=λH1 s Q q=>by have z:=(s.los hd).lst;exact ⟨_,hv,l,ys,rfl,rfl,SqL.of (s _ _ hl),z.1,by rw [z.2];exact q _ _ (Same.refl _) (Dat.blI _)⟩
theorem jy:∀ {os:List (Option (List D))},os.any Option.isNone=false->∃ ess:List (List D),os=ess.map some
 | [],_=>⟨[],rfl⟩
 | none::os,h=>by cases h
 | some es::os,h=>by rw [List.any_cons] at h;obtain ⟨ess,e⟩:=jy (os:=os) (by simpa using h);exact ⟨es::ess,by rw [e];rfl⟩
theorem Cg {En:iU} {G:Hp} {j:Nat} {xs:List V} (h:RC K te σ G es) (hl:G l=some (.lst xs)) (hx:xs.length+es.length<=1000)
  (q:∀ ys G',But l G G'->G' l=some (.lst (xs++ys))->Dats K G' es ys->En.nx σ G') (hv:σ[j]?=some (some (.ref l)):=by rfl):oE (tBM K "list" wm (fG j) (bC te c7)) En σ G:=by
 refine ⟨_,hv,.inl ⟨rfl,_,SqL.of hl⟩,h.use λp vs H1 hp s1 hv1 q1=>?_⟩;have hl1:=s1 _ _ hl;have lv:=q1.length;refine ⟨l,p,xs,vs,rfl,rfl,hl1,hv1,bU (by omega),?_⟩;have b:But l H1 (upd H1 l (.lst (xs++vs))):=But.upd (Same.refl _).but;exact q vs _ (s1.but.trans b) aq (Dats.mono (b.grow hl1 aq) _ q1)
end
theorem Bj {K:PySem.W.Frag} {a b:Addr} {xs ys:List V} {g:TG} {tb:TS} {D:iU} (Pv:Nat->St->Hp->Prop) (ll:xs.length=ys.length) (h0:Pv 0 σ H) (hl:∀ i σ H,i<=xs.length->Pv i σ H->SqT K H a xs/\SqT K H b ys)
  (hs:∀ i u v p σ H,xs[i]?=some u->ys[i]?=some v->H p=none->Pv i σ H->g (.ref p) σ (upd H p (.tup [u,v])) λσ2 H2=>tb { D with nx:=Pv (i+1),ct:=Pv (i+1),bk:=D.nx } σ2 H2) (hd:∀ σ H,Pv xs.length σ H->D.nx σ H) :
  ∃ W:Nat->Nat->St->Hp->Prop,(∃ m,W 0 m σ H)/\∀ i m σ H,W i m σ H ->
   ((Itz K a b xs ys).stop i H/\D.nx σ H)\/((Itz K a b xs ys).go i H/\∃ N:St->Hp->Prop,(∀ σ' H',N σ' H'->∃ m',m' < m/\W (i+1) m' σ' H')/\∀ x H',(Itz K a b xs ys).yld i H x H'->g x σ H' λσ2 H2=>tb { D with nx:=N,ct:=N,bk:=D.nx } σ2 H2):=by
 refine ⟨λi m σ H=>m=xs.length - i/\i<=xs.length/\Pv i σ H,⟨xs.length,by simp,Nat.zero_le _,h0⟩,?_⟩;rintro i m σ H ⟨rfl,hi,p⟩;have q:=hl i σ H hi p;by_cases hlt:i < xs.length
 ·refine .inr ⟨⟨hlt,by omega,q.1,q.2⟩,Pv (i+1),λσ' H' p'=>⟨xs.length - (i+1),by omega,rfl,hlt,p'⟩,λx H' y=>?_⟩;obtain ⟨r,u,v,hr,rfl,hu,hv,rfl⟩:=y;exact hs i u v r σ H hu hv hr p
 ·have e:i=xs.length:=by omega
  subst e;exact .inl ⟨⟨rfl,q.1⟩,hd σ H p⟩
def EC (K:W.Frag) (n:Nat) (t:TGs):TG:=λv σ H Q=>∃ a xs,v=.ref a/\SqL K H a xs/\xs.length=n/\t xs σ H Q
theorem BX {k:Nat} (hc:X.calm=true) (h:PGs X es t)
  (hn:(assignEach es X.env).length=n:=by rfl) (hst:(assignEach es X.env).findIdx? (·.1)=none:=by rfl):PG X (.Tuple es k pos) (EC X.K n t):=λpins s σ H v u Q I r ⟨a,xs,ev,hq,hl,hw⟩=>by
 subst ev;cases r;obtain ⟨its,rv,pl,hz⟩:=I.list hq;have en:(assignEach es X.env).length=its.toArray.size:=by rw [hn,<- hl,rv.length,List.size_toArray]
 rw [assign_Tuple];refine wpAny_bind (wpAny_standAt ?_);unfold unpack;rw [en,hst];refine wpAny_bind (wpAny_holding (W.kun_itemsOf (I.ok.hd hc) pl.isList λh' hx=>?_));exact h pins _ σ H xs _ Q (I.kept (t':=s.toks) λb o e=>hx b o (Nat.ne_of_lt (Heap.lt_size e)) e) (by simpa using rv) hw
theorem B6 (h:RA K ta σ H [.tup cs,.tup ds]) (hl:cs.length=ds.length) (hc:cs.length<=1000) (os:List (Option (List D))) (hn:os.length=cs.length) (ne:i≠j)
  (h0:((mk σ).set i none).set j none=mk σ)
  (turn:∀ H1 (k:Nat) c d o v w,Same H H1->cs[k]?=some c->ds[k]?=some d->os[k]?=some o->Dat K H1 c v->Dat K H1 d w->RO K te (((mk σ).set i (some v)).set j (some w)) H1 o) :
  RCO K (fK (Bq K ta) mk (qC K 2 (gx (bX i) (gx (bX j) sy))) dS te) σ H os:=λH1 s Q q=>by
 refine h H1 s _ λvs H2 s2 q2=>?_;obtain ⟨v1,v2,e,k1,k2⟩:=fW q2;subst e;obtain ⟨a,us,e1,ha,da⟩:=k1.tupE;obtain ⟨b,ws,e2,hb,db⟩:=k2.tupE;subst e1 e2;have lu:=da.length;have lw:=db.length;refine ⟨a,b,us,ws,rfl,ha,hb,λl hl2=>?_⟩;have s02:Same H H2:=s.trans s2;refine ⟨λn m σ' G=>m=us.length - n/\n<=us.length/\(∃ z1 z2,σ'=((mk σ).set i z1).set j z2)/\Same H2 G/\∃ ys,G l=some (.lst ys)/\LOs K G (os.take n) ys/\Off K G l ys,⟨us.length,by omega,Nat.zero_le _,⟨none,none,h0.symm⟩,aG hl2 _,[],aq,by rw [List.take_zero];exact .nil,λv hv=>by cases hv⟩,?_⟩;rintro n m σ' G ⟨rfl,hle,⟨z1,z2,rfl⟩,sG,ys,hy,dy,off⟩;by_cases hlt:n < us.length
 ·refine .inr ⟨⟨hlt,by omega,sG.sqT ha,sG.sqT hb⟩,λσ'' G'=>(∃ z1 z2,σ''=((mk σ).set i z1).set j z2)/\Same H2 G'/\∃ ys,G' l=some (.lst ys)/\LOs K G' (os.take (n+1)) ys/\Off K G' l ys,λσ'' G' w=>⟨us.length - (n+1),by omega,rfl,hlt,w.1,w.2⟩,λx G' y=>?_⟩;obtain ⟨p,u,w,hp,rfl,hu,hw,rfl⟩:=y;have sn:Same G (upd G p (.tup [u,w])):=aG hp _;have s2n:=sG.trans sn;obtain ⟨c,ec,hcv⟩:=da.getV hu;obtain ⟨d,ed,hdv⟩:=db.getV hw;have hne:n < os.length:=by omega
  refine ⟨p,[u,w],rfl,SqT.of aq,rfl,u,_,rfl,w,_,rfl,rfl,?_⟩;simp only [dS,if_true];rw [kR _ ne];have lys:ys.length=n:=by rw [<- dy.length,List.length_take];omega
  have fin:∀ (v:V) (G4:Hp),Same (upd G p (.tup [u,w])) G4->v≠.ref l->(∀ G5,But l G4 G5->(∃ zs,G5 l=some (.lst zs))->OD K G5 os[n] v)->∃ ys,G4 l=some (.lst ys)/\ys.length < sizeLine/\(∃ z1 z2,((mk σ).set i (some u)).set j (some w)=((mk σ).set i z1).set j z2)/\Same H2 (upd G4 l (.lst (ys++[v])))/\∃ ys',upd G4 l (.lst (ys++[v])) l=some (.lst ys')/\LOs K (upd G4 l (.lst (ys++[v]))) (os.take (n+1)) ys'/\Off K (upd G4 l (.lst (ys++[v]))) l ys':=λv G4 s4 nv od=>by
   have hy4:=s4 _ _ (sn _ _ hy);have bl:But l G4 (upd G4 l (.lst (ys++[v]))):=But.upd (Same.refl G4).but;refine ⟨ys,hy4,bx (by omega),⟨_,_,rfl⟩,λx o hx=>?_,ys++[v],aq,?_,?_⟩
   ·rw [aO (aB hx hl2)];exact s4 _ _ (s2n _ _ hx)
   ·rw [List.take_add_one,List.getElem?_eq_getElem hne];exact LOs.snoc (LOs.grown (s4.los (sn.los dy)) off bl hy4 aq) (od _ bl ⟨_,aq⟩)
   ·intro x hx;rcases List.mem_append.mp hx with hx | hx
    ·exact off x hx
    ·rw [List.mem_singleton.mp hx];exact nv
  refine turn _ n c d os[n] u w (s02.trans s2n) ec ed (List.getElem?_eq_getElem hne) (s2n.dat hcv) (s2n.dat hdv) _ (Same.refl _) _ (λeo G4 s4=>?_) (λes eo r zs G4 hr s4 hz dz=>?_)
  ·exact fin .non G4 s4 (by intro z;cases z) λG5 _ _=>by rw [eo];rfl
  ·have nrl:r≠l:=λz=>by rw [z,sn _ _ hy] at hr;cases hr
   refine fin (.ref r) G4 s4 (λz=>nrl (by injection z)) λG5 b5 ⟨z5,h5⟩=>?_;rw [eo];exact LD.of (b5 _ _ nrl hz) (Dats.mono (b5.grow (s4 _ _ (sn _ _ hy)) h5) _ dz)
 ·have e:n=us.length:=by omega
  subst e;refine .inl ⟨⟨rfl,sG.sqT ha⟩,?_⟩;rw [List.take_of_length_le (by omega)] at dy;exact q l ys G (s2.free hl2) (s2.trans sG) hy dy
theorem Ab (h:RB K ta σ H [.l cs,.d (.tup ds)]) (hl:cs.length=ds.length) (hc:cs.length<=1000) (os:List (Option (List D))) (hn:os.length=cs.length) (ne:i≠j)
  (h0:((mk σ).set i none).set j none=mk σ)
  (turn:∀ H1 (k:Nat) c d o v w,Same H H1->cs[k]?=some c->ds[k]?=some d->os[k]?=some o->Dat K H1 c v->Dat K H1 d w->RO K te (((mk σ).set i (some v)).set j (some w)) H1 o) :
  RCO K (fK (CC K ta) mk (qC K 2 (gx (bX i) (gx (bX j) sy))) dS te) σ H os:=λH1 s Q q=>by
 refine h H1 s _ λvs H2 s2 q2=>?_;obtain ⟨v1,v2,e,k1,k2⟩:=yf q2;subst e;obtain ⟨a,us,e1,ha,da⟩:=k1;obtain ⟨b,ws,e2,hb,db⟩:=Dat.tupE k2;subst e1 e2;have lu:=da.length;have lw:=db.length;refine ⟨a,b,us,ws,rfl,ha.sqL,hb,λl hl2=>?_⟩;have s02:Same H H2:=s.trans s2;refine ⟨λn m σ' G=>m=us.length - n/\n<=us.length/\(∃ z1 z2,σ'=((mk σ).set i z1).set j z2)/\Same H2 G/\∃ ys,G l=some (.lst ys)/\LOs K G (os.take n) ys/\Off K G l ys,⟨us.length,by omega,Nat.zero_le _,⟨none,none,h0.symm⟩,aG hl2 _,[],aq,by rw [List.take_zero];exact .nil,λv hv=>by cases hv⟩,?_⟩;rintro n m σ' G ⟨rfl,hle,⟨z1,z2,rfl⟩,sG,ys,hy,dy,off⟩;by_cases hlt:n < us.length
 ·refine .inr ⟨⟨hlt,by omega,(sG.aLst ha).sqL,sG.sqT hb⟩,λσ'' G'=>(∃ z1 z2,σ''=((mk σ).set i z1).set j z2)/\Same H2 G'/\∃ ys,G' l=some (.lst ys)/\LOs K G' (os.take (n+1)) ys/\Off K G' l ys,λσ'' G' w=>⟨us.length - (n+1),by omega,rfl,hlt,w.1,w.2⟩,λx G' y=>?_⟩;obtain ⟨p,u,w,hp,rfl,hu,hw,rfl⟩:=y;have sn:Same G (upd G p (.tup [u,w])):=aG hp _;have s2n:=sG.trans sn;obtain ⟨c,ec,hcv⟩:=da.getV hu;obtain ⟨d,ed,hdv⟩:=db.getV hw;have hne:n < os.length:=by omega
  refine ⟨p,[u,w],rfl,SqT.of aq,rfl,u,_,rfl,w,_,rfl,rfl,?_⟩;simp only [dS,if_true];rw [kR _ ne];have lys:ys.length=n:=by rw [<- dy.length,List.length_take];omega
  have fin:∀ (v:V) (G4:Hp),Same (upd G p (.tup [u,w])) G4->v≠.ref l->(∀ G5,But l G4 G5->(∃ zs,G5 l=some (.lst zs))->OD K G5 os[n] v)->∃ ys,G4 l=some (.lst ys)/\ys.length < sizeLine/\(∃ z1 z2,((mk σ).set i (some u)).set j (some w)=((mk σ).set i z1).set j z2)/\Same H2 (upd G4 l (.lst (ys++[v])))/\∃ ys',upd G4 l (.lst (ys++[v])) l=some (.lst ys')/\LOs K (upd G4 l (.lst (ys++[v]))) (os.take (n+1)) ys'/\Off K (upd G4 l (.lst (ys++[v]))) l ys':=λv G4 s4 nv od=>by
   have hy4:=s4 _ _ (sn _ _ hy);have bl:But l G4 (upd G4 l (.lst (ys++[v]))):=But.upd (Same.refl G4).but;refine ⟨ys,hy4,bx (by omega),⟨_,_,rfl⟩,λx o hx=>?_,ys++[v],aq,?_,?_⟩
   ·rw [aO (aB hx hl2)];exact s4 _ _ (s2n _ _ hx)
   ·rw [List.take_add_one,List.getElem?_eq_getElem hne];exact LOs.snoc (LOs.grown (s4.los (sn.los dy)) off bl hy4 aq) (od _ bl ⟨_,aq⟩)
   ·intro x hx;rcases List.mem_append.mp hx with hx | hx
    ·exact off x hx
    ·rw [List.mem_singleton.mp hx];exact nv
  refine turn _ n c d os[n] u w (s02.trans s2n) ec ed (List.getElem?_eq_getElem hne) (s2n.dat hcv) (s2n.dat hdv) _ (Same.refl _) _ (λeo G4 s4=>?_) (λes eo r zs G4 hr s4 hz dz=>?_)
  ·exact fin .non G4 s4 (by intro z;cases z) λG5 _ _=>by rw [eo];rfl
  ·have nrl:r≠l:=λz=>by rw [z,sn _ _ hy] at hr;cases hr
   refine fin (.ref r) G4 s4 (λz=>nrl (by injection z)) λG5 b5 ⟨z5,h5⟩=>?_;rw [eo];exact LD.of (b5 _ _ nrl hz) (Dats.mono (b5.grow (s4 _ _ (sn _ _ hy)) h5) _ dz)
 ·have e:n=us.length:=by omega
  subst e;refine .inl ⟨⟨rfl,(sG.aLst ha).sqL⟩,?_⟩;rw [List.take_of_length_le (by omega)] at dy;exact q l ys G (s2.free hl2) (s2.trans sG) hy dy
section
variable {prog:Program} {w:World} {A:Around} {E:Value->Shared->Prop} {s:Shared}
end
section
variable {K:W.Frag} {σ:St} {H H':Hp} {d:D} {ds es:List D} {t u ta tb te:TE} {n:Nat}
end
end L2
namespace L2
open PySem
end L2
namespace L2
open PySem PySem.Spec PySem.Calls PyProof.Rows PySem.W PySem.Builtin PySem.Builtin.ObjectAttr
section
variable {X:Cx} {pins:List (Addr × Obj)} {σ:St} {H:Hp} {s s':Shared} {E:XK} {e:Value}
end
section
variable {H:Hp} {e C dx b:Addr} {a0:Value} {f:Str} {v:V}
end
section
variable {X:Cx} {pins:List (Addr × Obj)} {σ:St} {H:Hp} {s s':Shared} {C fI e dx:Addr} {fd:FuncData} {k:Nat} {ps:List Str} {a0:Value} {f:Str} {v:V}
end
theorem B3 {K:W.Frag} {σ:St} {H:Hp} {t ta tb:TE} {ds:List D} {lo hi:Nat} (h:RL K t σ H ds) (h1:RE K ta σ H (.int lo)) (h2:RE K tb σ H (.int hi)):RC K (tSl (EU K) t (pY ta) (pY tb)) σ H ((ds.drop lo).take (hi - lo)):=λH1 s Q q =>
 h H1 s _ λv H2 s2 q2=>h1 H2 (s.trans s2) _ λv3 H3 s3 q3=>⟨lo,q3.intE,h2 H3 (s.trans (s2.trans s3)) _ λv4 H4 s4 q4=>⟨hi,q4.intE,by
  obtain ⟨a,vs,rfl,hq,hds⟩:=(s3.trans s4).ld q2;refine ⟨a,vs,rfl,hq.sqL,λp hp=>?_⟩;rw [vE];exact q p _ _ ((s2.trans (s3.trans s4)).free hp) (s2.trans (s3.trans (s4.trans (aG hp _)))) aq ((aG hp _).dats (Dats.takeN (Dats.dropN hds)))⟩⟩
section
variable {K:W.Frag} {σ:St} {H:Hp} {tA:TA} {ar:List Ar} {d:D} {f:Str} {es:List D} {R:List Ar->D->Prop} {RL:List Ar->List D->Prop} {B:List Ar->Addr->Int->Prop} {E:XK} {Q:VK} {C:Addr} {i:Int}
end
end L2
namespace L2
open PySem PySem.Spec PySem.Calls PyProof.Rows
section
variable {prog:Program} {w:World} {A:Around} {E:Value->Shared->Prop} {s:Shared} {it t:Addr} {items:Array Value}
end
section
variable {X:Cx} {tg:Expr}
end
section
variable {X:Cx} {pins:List (Addr × Obj)} {σ:St} {H:Hp} {a:Addr} {cls C:Value} {dx:Option Addr} {s:Shared} {D:iU} {x n:Str} {i:Nat} {np hpos:Pos} {b₀:Stmt} {suite:List Stmt} {rest:List ExceptHandler} {th:TS} {b:Bool}
end
abbrev mf (t:Addr):Obj:={ cls:=.type "list_iterator",data:=.fields #[.ref t,.int 0 0] }
theorem wU (t:Addr) (items:Array Value) (n:Nat) (d2:Option Addr) (s2:Array (Option Value)) :
  Meets (Builtin.«enumerate.__new__» ⟨[.type "enumerate",.ref t],[]⟩) (λ_ R s=>s.heap.get? t=some { cls:=.type "list",dict:=d2,data:=.seq items n,slots:=s2 } /\
   R (.ok (.ret (.ref (s.heap.push (mf t)).objs.size))) { s with heap:=(s.heap.push (mf t)).push (pf s.heap.objs.size) }) :=
 .of_wp λ_ _ _ _ s q=>by
  obtain ⟨h0,g0,d0,t0,o0⟩:=s;obtain ⟨a1,q⟩:=q;have isL:Heap.IsList (Shared.heap ⟨h0,g0,d0,t0,o0⟩) t items:=⟨_,a1,rfl,n,rfl⟩
  have self1:=sub_enumerate
  wp_walk
  refine wpAny_stack_any λrows=>?_;refine wpAny_pure ?_;split
  ·rename_i cl _ _ _ _ _;cases (cl == Value.type "enumerate") <;> (wp_walk using wpAny_pyIter_list isL;exact ⟨_,rfl,q⟩)
  ·wp_walk using wpAny_pyIter_list isL
   exact ⟨_,rfl,q⟩
variable {w:World}
theorem uq {prog:Program} {A:Around} {E:Value->Shared->Prop} {s:Shared} {t:Addr} {items:Array Value} {Q:Value->Shared->Prop} (a1:s.heap.IsList t items)
  (q:Q (.ref (s.heap.objs.size+1)) { s with heap:=(s.heap.push (mf t)).push (pf s.heap.objs.size) }):wpAny (model prog w) A (call (.type "enumerate") [.ref t]) Q E s:=by
 obtain ⟨⟨c2,d2,dt2,s2⟩,a1,hc,n,hd⟩:=a1;obtain rfl:c2=.type "list":=hc;obtain rfl:dt2=.seq items n:=hd;have sz:(s.heap.push (mf t)).objs.size=s.heap.objs.size+1:=Heap.size_push _ _;refine callType_new F.called_enumerate (by decide) (F.typeCall_enumerate_1 _) (F.newCall_enumerate_1 _) (λo=>F.args_object_init_2 o _) F.entry_enumerate_new (wU t items n d2 s2) ⟨a1,?_⟩;show _/\_;rw [sz];refine ⟨⟨pf s.heap.objs.size,?_,rfl⟩,q⟩;exact Heap.get?_push_at sz.symm rfl
def Eo (K:W.Frag) (a:Addr) (xs:List V):It:=⟨λi H=>i < xs.length/\SqL K H a xs,λi H x H'=>∃ p y,H p=none/\x=.ref p/\xs[i]?=some y/\H'=upd H p (.tup [.int i,y]),λi H=>i=xs.length/\SqL K H a xs⟩
variable {K:W.Frag} {elts:List Expr} {ps:Pos}
theorem vm {P:Program} {c1} (a e it:Addr) (xs:List V) (ne:e≠it):mD P w K (.Tuple elts c1 ps) (Eo K a xs) [e,it] e (λi h=>a≠it/\a≠e/\∃ old,IsEnum h e it i old/\h.IsListIter it a i) where
 mem:=by simp
 obj:=λi h st b hb=>by
  obtain ⟨_,_,old,q1,q2⟩:=st;rcases List.mem_cons.mp hb with z | z
  ·subst z;exact ⟨_,q1,λv z=>by cases z⟩
  ·have z:b=it:=by simpa using z
   subst z;obtain ⟨o,e,c,d⟩:=q2;exact ⟨o,e,λv z=>by rw [d] at z;cases z⟩
 keep:=λi h h' ⟨n1,n2,old,q1,q2⟩ k=>⟨n1,n2,old,k e (by simp) _ q1,q2.at λo z=>k it (by simp) o z⟩
 item:=by
  intro X hP hw hK hc i pins s σ H E I hf st hg;subst hP hw hK;obtain ⟨hi,hq⟩:=hg;obtain ⟨nai,nae,old,q1,q2⟩:=st;obtain ⟨its,rv,p,hz⟩:=I.list hq;have hx:xs[i]?=some xs[i]:=List.getElem?_eq_getElem hi;obtain ⟨u,hu,ru⟩:=rv.get hx;have isT:s.heap.IsList a its.toArray:=p.isList;have lr:=rv.length;refine wpAny_pyNext_enum_itemD (Draws.list (A:=X.A.in1) (I.ok.hd hc) it a nai its.toArray) q1 ⟨q2,isT⟩ (by rw [List.size_toArray];omega) ne (by simp [ne,Ne.symm nae]) λy h' tk hy out st' tup sz kk=>⟨_,rfl,?_⟩
  have ey:y=u:=by
   have h1:its[i]?=some y:=by simpa using hy
   rw [hu] at h1;exact (Option.some.inj h1).symm
  subst ey;refine wpAny_letOwnedTupleGo_enum (s:={ s with heap:=h',toks:=tk+1 }) out λh2 e2 same=>?_;have le:e < s.heap.objs.size:=Heap.lt_size q1;have li:it < s.heap.objs.size:=let ⟨_,z,_⟩:=q2;Heap.lt_size z;have tup2:h2.get? s.heap.objs.size=some { cls:=.type "tuple",data:=.seq #[.int i tk,y] }:=(same.2 _ (Nat.ne_of_gt le)).trans tup
  have I1:Inv X pins σ (upd H s.heap.objs.size (.tup [.int i,xs[i]])) { s with heap:=s.heap.push { cls:=.type "tuple",data:=.seq #[.int i tk,y] },toks:=s.toks } :=
   I.laid (o:=.tup [.int i,xs[i]]) (λb ob q=>Heap.get?_push_of_some _ q) (Nat.le_refl _) ⟨by rw [sizeLine_eq];simp,[.int i tk,y],.cons ⟨_,rfl⟩ (.cons ru .nil),IsTup.new _ _⟩
  have frees:∀ b,b < s.heap.objs.size->upd H s.heap.objs.size (.tup [.int i,xs[i]]) b=H b:=λb hb=>aO (Nat.ne_of_lt hb)
  have I2:Inv X pins σ (upd H s.heap.objs.size (.tup [.int i,xs[i]])) { s with heap:=h2,toks:=tk+1 }:=by
   refine Inv.turnedL (s:={ s with heap:=s.heap.push { cls:=.type "tuple",data:=.seq #[.int i tk,y] },toks:=s.toks }) (h':=h2) (its:=[e,it]) (t':=tk+1) I1 (λb o hb q=>?_) (λb hb=>?_)
   ·have h1:b≠e:=λz=>hb (by simp [z]);have h3:b≠it:=λz=>hb (by simp [z]);by_cases hbs:b=s.heap.objs.size
    ·subst hbs;have q':(s.heap.push { cls:=.type "tuple",data:=.seq #[.int i tk,y] }).get? s.heap.objs.size=some o:=q;rw [Heap.get?_push_at rfl rfl] at q';cases q';exact tup2
    ·have q':s.heap.get? b=some o:=by
      have lt:b < s.heap.objs.size:=by have l1:b < (s.heap.push { cls:=.type "tuple",data:=.seq #[.int i tk,y] }).objs.size:=Heap.lt_size q;rw [Heap.size_push] at l1;exact Nat.lt_of_le_of_ne (Nat.le_of_lt_succ l1) hbs
      exact (Heap.get?_push_ne _ _ _ hbs).symm.trans q
     exact (same.2 b h1).trans (kk b o h1 h3 q')
   ·have lb:b < s.heap.objs.size:=by
     rcases List.mem_cons.mp hb with z | z
     ·rw [z];exact le
     ·rw [show b=it by simpa using z];exact li
    obtain ⟨f0,f1,f2,f3,f4,f5⟩:=hf b hb;exact ⟨by rw [frees b lb];exact f0,f1,f3,f4,f5⟩
  refine ⟨.ref s.heap.objs.size,_,I2,rfl,⟨_,_,I.hok.fresh (Nat.le_refl _),rfl,hx,rfl⟩,⟨nai,nae,y,?_,?_⟩,λb hb=>?_⟩
  ·have ec:((i+1:Nat):Int)=(i:Int)+1:=by omega
   rw [ec];exact e2
  ·exact st'.1.at λo z=>(same.2 it (Ne.symm ne)).trans z
  ·have lb:b < s.heap.objs.size:=by
    rcases List.mem_cons.mp hb with z | z
    ·rw [z];exact le
    ·rw [show b=it by simpa using z];exact li
   rw [frees b lb];exact (hf b hb).1
 done:=by
  intro X hP hw hK hc i pins s σ H E I hf st hg;subst hP hw hK;obtain ⟨hi,hq⟩:=hg;obtain ⟨nai,nae,old,q1,q2⟩:=st;obtain ⟨its,rv,p,hz⟩:=I.list hq;have lr:=rv.length;have isT:s.heap.IsList a its.toArray:=p.isList;obtain ⟨f0,f1,f2,f3,f4,f5⟩:=hf it (by simp);refine wpAny_pyNext_enum_endD (Draws.list (A:=X.A.in1) (I.ok.hd hc) it a nai its.toArray) q1 (by rw [List.size_toArray,<- lr,<- hi];exact ⟨q2,isT⟩) λh' eb=>⟨rfl,?_⟩
  exact I.turned (t':=s.toks) (λb o hb q=>eb b o hb q) f0 f1 f3 f4 f5
 self:=λA i s Q E ⟨_,_,_,q1,_⟩ q=>wpAny_pyIter_enum q1 q
def yS (K:W.Frag) (ta:TA):TI:=λσ H R=>ta σ H λvs H1=>∃ a xs,vs=[.ref a]/\SqL K H1 a xs/\R (Eo K a xs) H1
theorem zI {X:Cx} {a:Expr} {ta:TA} {p pos:Pos} {c1} (hg:Gl X "enumerate") (hm:X.mg "enumerate"=none) (ha:PA X [a] ta) (hs:starEach [a] X.env=[(false,eval a X.env)]:=by rfl):PI X (.Tuple elts c1 ps) (.Call (.Name "enumerate" p) [a] [] pos) (yS X.K ta):=by
 intro pins s σ H R I h;refine Call_ (i8 I hg hm qj (PyProof.Rows.callWith_type1 (thn (ha pos pins s σ H _ I h) λus s1 ⟨vs,H1,I1,r1,q1⟩=>?_) hs rfl));obtain ⟨t,xs,ev,hq,q⟩:=q1;subst ev;obtain ⟨u,rfl,ru⟩:=gS r1;cases ru;obtain ⟨its,rv,pt,hz⟩:=I1.list hq;have lt:t < s1.heap.objs.size:=let ⟨_,z,_⟩:=pt.isList;Heap.lt_size z;refine uq pt.isList ?_;have sz:(s1.heap.push (mf t)).objs.size=s1.heap.objs.size+1:=Heap.size_push _ _;have q1:IsEnum ((s1.heap.push (mf t)).push (pf s1.heap.objs.size)) (s1.heap.objs.size+1) s1.heap.objs.size ((0:Nat):Int) .none:=Heap.get?_push_at sz.symm rfl;have q2:((s1.heap.push (mf t)).push (pf s1.heap.objs.size)).IsListIter s1.heap.objs.size t 0:=⟨_,Heap.get?_push_of_some _ (Heap.get?_push_at rfl rfl),rfl,rfl⟩
 refine wpAny_pyIter_enum (s:={ s1 with heap:=(s1.heap.push (mf t)).push (pf s1.heap.objs.size) }) q1 ?_;refine ⟨s1.heap.objs.size+1,[s1.heap.objs.size+1,s1.heap.objs.size],_,_,H1,rfl,I1.kept (t':=s1.toks) (λb o e=>Heap.get?_push_of_some _ (Heap.get?_push_of_some _ e)),vm t _ _ xs (Nat.ne_of_gt (Nat.lt_succ_self _)),⟨Nat.ne_of_lt lt,Nat.ne_of_lt (Nat.lt_succ_of_lt lt),.none,q1,q2⟩,λb hb=>?_,q⟩;rcases List.mem_cons.mp hb with z | z
 ·subst z;exact I1.fpOk (Nat.le_succ _) (I1.hok.fresh (Nat.le_succ _))
 ·have z:b=s1.heap.objs.size:=by simpa using z
  subst z;exact I1.fpOk (Nat.le_refl _) (I1.hok.fresh (Nat.le_refl _))
theorem Aa {σ:St} {H:Hp} {tl:TE} {te:TE} {mk:St->St} {i j:Nat} {cs:List D} (h:RL K tl σ H cs) (hc:cs.length<=1000) (es:List D) (hn:es.length=cs.length) (ne:i≠j)
  (h0:((mk σ).set i none).set j none=mk σ)
  (turn:∀ H1 (k:Nat) c e w,Same H H1->cs[k]?=some c->es[k]?=some e->Dat K H1 c w->RE K te (((mk σ).set i (some (.int k))).set j (some w)) H1 e) :
  RC K (fK (yS K (bC tl c7)) mk (qC K 2 (gx (bX i) (gx (bX j) sy))) dS te) σ H es:=λH1 s Q q=>by
 refine h H1 s _ λvs H2 s2 q2=>?_;obtain ⟨a,us,e1,ha,da⟩:=q2;subst e1;have lu:=da.length;refine ⟨a,us,rfl,ha.sqL,λl hl2=>?_⟩;have s02:Same H H2:=s.trans s2;refine ⟨λn m σ' G=>m=us.length - n/\n<=us.length/\(∃ z1 z2,σ'=((mk σ).set i z1).set j z2)/\Same H2 G/\∃ ys,G l=some (.lst ys)/\Dats K G (es.take n) ys,⟨us.length,by omega,Nat.zero_le _,⟨none,none,h0.symm⟩,aG hl2 _,[],aq,by rw [List.take_zero];exact Dats.nil⟩,?_⟩;rintro n m σ' G ⟨rfl,hle,⟨z1,z2,rfl⟩,sG,ys,hy,dy⟩;by_cases hlt:n < us.length
 ·refine .inr ⟨⟨hlt,(sG.aLst ha).sqL⟩,λσ'' G'=>(∃ z1 z2,σ''=((mk σ).set i z1).set j z2)/\Same H2 G'/\∃ ys,G' l=some (.lst ys)/\Dats K G' (es.take (n+1)) ys,λσ'' G' w=>⟨us.length - (n+1),by omega,rfl,hlt,w.1,w.2⟩,λx G' y=>?_⟩;obtain ⟨p,w,hp,rfl,hw,rfl⟩:=y;have sn:Same G (upd G p (.tup [.int n,w])):=aG hp _;have s2n:=sG.trans sn;obtain ⟨c,ec,hcv⟩:=da.getV hw;have hne:n < es.length:=by omega
  refine ⟨p,[.int n,w],rfl,SqT.of aq,rfl,.int n,_,rfl,w,_,rfl,rfl,?_⟩;simp only [dS,if_true];rw [kR _ ne];refine RE.use (turn _ n c es[n] w (s02.trans s2n) ec (List.getElem?_eq_getElem hne) (s2n.dat hcv)) λv G4 s4 q4=>?_;have hy4:=s4 _ _ (sn _ _ hy);have lys:ys.length=n:=by rw [<- dy.length,List.length_take];omega
  refine ⟨ys,hy4,bx (by omega),⟨_,_,rfl⟩,λx o hx=>?_,ys++[v],aq,?_⟩
  ·rw [aO (aB hx hl2)];exact s4 _ _ (s2n _ _ hx)
  ·have g:dH K G4 (upd G4 l (.lst (ys++[v]))):=But.grow (t:=l) (But.upd (Same.refl G4).but) hy4 aq;rw [List.take_add_one,List.getElem?_eq_getElem hne];exact Dats.append (Dats.mono g _ (s4.dats (sn.dats dy))) (Dats.cons (Dat.mono g _ q4) Dats.nil)
 ·have e:n=us.length:=by omega
  subst e;refine .inl ⟨⟨rfl,(sG.aLst ha).sqL⟩,?_⟩;rw [List.take_of_length_le (by omega)] at dy;exact q l ys G (s2.free hl2) (s2.trans sG) hy dy
section
variable {prog:Program} {w:World} {A:Around} {E:Value->Shared->Prop} {s:Shared} {z TI TO i1 i2 i3 l1 l2 l3:Addr} {k:Nat} {xs ys zs:Array Value}
end
end L2
namespace L2
open PySem PySem.Spec PyProof.Rows
section
variable {X:Cx}
end
section
variable {K:W.Frag} {σ:St} {H:Hp} {t ta tb:TE} {d:D} {ds:List D}
end
end L2
namespace My
open PySem L2 PyProof.Rows
abbrev TL:List (Str × KTD.Dat):=[("num",.flat (.int 9999)),("arg",.flat (.int 3))]
abbrev TB:List (Str × KTD.Dat):=[("add",.flat (.int 2)),("sub",.flat (.int 2)),("mul",.flat (.int 2)),("less",.flat (.int 2)),("pick",.flat (.int 3))]
abbrev TM:List (Str × KTD.Dat):=[("hole",.flat (.int 2)),("gap",.flat (.int 3)),("slot",.flat (.int 2))]
abbrev TF:List (Str × KTD.Dat):=[("low",.flat (.str "gap")),("high",.flat (.str "gap")),("arg",.flat (.str "slot"))]
abbrev AHE:List D:=[.int 10,.int 11]
abbrev INS:List D:=[.tup [.str "end",.int 0],.tup [.str "put",.int 1],.tup [.str "far",.int 2],.tup [.str "load",.int 1],.tup [.str "add",.int 0],.tup [.str "sub",.int 0],.tup [.str "mul",.int 0],.tup [.str "less",.int 0],.tup [.str "skip",.int 1],.tup [.str "jump",.int 2],.tup [.str "zero",.int 1],.tup [.str "none",.int 2],.tup [.str "more",.int 1],.tup [.str "twice",.int 0],.tup [.str "about",.int 0],.tup [.str "call",.int 2],.tup [.str "back",.int 0]]
abbrev BEH:List D:=[.int 8,.int 9]
abbrev STR:List D:=[.str "put",.str "far",.str "load",.str "add",.str "sub",.str "mul",.str "less",.str "more",.str "twice",.str "about"]
abbrev BAS:List D:=[.tup [.str "one",.tup [.str "gap",.int 0,.int 99],.tup [.int 1,.tup [.str "low",.int 0]]],.tup [.str "two",.tup [.str "gap",.int 0,.int 9999],.tup [.int 2,.tup [.str "low",.int 0],.tup [.str "high",.int 0]]],.tup [.str "slot",.tup [.str "slot",.int 0],.tup [.int 3,.tup [.str "arg",.int 0]]],.tup [.str "add",.tup [.str "add",.tup [.str "hole",.int 0],.tup [.str "hole",.int 1]],.tup [.int 4]],.tup [.str "sub",.tup [.str "sub",.tup [.str "hole",.int 0],.tup [.str "hole",.int 1]],.tup [.int 5]],.tup [.str "mul",.tup [.str "mul",.tup [.str "hole",.int 0],.tup [.str "hole",.int 1]],.tup [.int 6]],.tup [.str "less",.tup [.str "less",.tup [.str "hole",.int 0],.tup [.str "hole",.int 1]],.tup [.int 7]],.tup [.str "more",.tup [.str "add",.tup [.str "hole",.int 0],.tup [.str "gap",.int 0,.int 99]],.tup [.int 12,.tup [.str "low",.int 0]]]]
abbrev oq:Stmt:=top 8
theorem sc_is_whole:FnScope ["thing","low","high"] ["thing","low","high"] (aD oq):=.sc0
abbrev mx:Stmt:=top 9
theorem sc_is_tagged:FnScope ["thing"] ["thing"] (aD mx):=.sc0
abbrev pP:Stmt:=top 16
theorem sc_is_node:FnScope ["thing","kind"] ["thing"] (aD pP):=.sc0
abbrev jt:Stmt:=top 17
theorem sc_trees_within:FnScope ["tree"] ["tree"] (aD jt):=.sc0
abbrev lR:Stmt:=top 18
theorem sc_is_tree:FnScope ["thing","waiting","parts","part","deep"] ["thing"] (aD lR):=.sc0
abbrev mC:Stmt:=top 19
theorem sc_need_tree:FnScope ["tree"] ["tree"] (aD mC):=.sc0
abbrev tU:Stmt:=top 20
theorem sc_walked:FnScope ["tree","parts","within"] ["tree"] (aD tU):=.sc0
abbrev lQ:Stmt:=top 10
theorem sc_is_name:FnScope ["thing"] ["thing"] (aD lQ):=.sc0
abbrev iw:Stmt:=top 24
theorem sc_instruction_at:FnScope ["cells","place","name","many","behind"] ["cells","place"] (aD iw):=.sc0
abbrev pO:Stmt:=top 34
theorem sc_is_mark:FnScope ["thing"] ["thing"] (aD pO):=.sc0
abbrev fF:Stmt:=top 35
theorem sc_is_pattern_part:FnScope ["thing","deep"] ["thing","deep"] (aD fF):=.sc0
abbrev ow:Stmt:=top 36
theorem sc_marks_in:FnScope ["pattern","kind","marks","within"] ["pattern","kind"] (aD ow):=.sc0
abbrev hU:Stmt:=top 37
theorem sc_is_numbered:FnScope ["pattern","kind","numbers"] ["pattern","kind"] (aD hU):=.sc0
abbrev iL:Stmt:=top 38
theorem sc_is_pattern:FnScope ["thing"] ["thing"] (aD iL):=.sc0
abbrev kM:Stmt:=top 39
theorem sc_is_filling:FnScope ["thing","pattern"] ["thing","pattern"] (aD kM):=.sc0
abbrev pN:Stmt:=top 40
theorem sc_is_cell:FnScope ["thing","pattern"] ["thing","pattern"] (aD pN):=.sc0
abbrev ff:Stmt:=top 41
theorem sc_are_instructions:FnScope ["cells","pattern","place","name","behind"] ["cells","pattern"] (aD ff):=.sc0
abbrev oo:Stmt:=top 42
theorem sc_is_piece:FnScope ["thing","name","pattern","cells"] ["thing"] (aD oo):=.sc0
abbrev kN:Stmt:=top 43
theorem sc_is_set:FnScope ["thing"] ["thing"] (aD kN):=.sc0
abbrev oy:Stmt:=top 44
theorem sc_need_set:FnScope ["some"] ["some"] (aD oy):=.sc0
abbrev iT:Stmt:=top 45
theorem sc_may_stand_for:FnScope ["mark","tree"] ["mark","tree"] (aD iT):=.sc0
abbrev pQ:Stmt:=top 46
theorem sc_matches:FnScope ["pattern","tree","found","kind"] ["pattern","tree","found"] (aD pQ):=.sc0
abbrev om:Stmt:=top 47
theorem sc_found_in:FnScope ["piece","tree","found"] ["piece","tree"] (aD om):=.sc0
abbrev jT:Stmt:=top 48
theorem sc_filled_cell:FnScope ["cell","nums","ks"] ["cell","nums","ks"] (aD jT):=.sc0
abbrev my:Stmt:=top 54
theorem sc_jump_over:FnScope ["many","kinds","near","far"] ["many","kinds"] (aD my):=.sc0
abbrev iS:Stmt:=top 55
theorem sc_jumps_of_pick:FnScope ["second","third","behind","ahead"] ["second","third"] (aD iS):=.sc0
abbrev pR:Stmt:=top 56
theorem sc_ways_of:FnScope ["tree","some","ways","piece","found"] ["tree","some"] (aD pR):=.sc0
abbrev mz:Stmt:=top 57
theorem sc_length_by:FnScope ["name","cells","lengths","own","ahead","behind"] ["name","cells","lengths"] (aD mz):=.sc0
abbrev dF:Stmt:=top 58
theorem sc_best_by_ways:FnScope ["tree","some","done","bests","best","name","cells","trees","within","length"] ["tree","some","done","bests"] (aD dF):=.sc0
abbrev iQ:Stmt:=top 59
theorem sc_best_covering:FnScope ["tree","some","done","bests","part"] ["tree","some"] (aD iQ):=.sc0
abbrev iR:Stmt:=top 60
theorem sc_is_covered_by:FnScope ["tree","some","thing","name","cells","trees"] ["tree","some","thing"] (aD iR):=.sc0
abbrev fO:Stmt:=top 61
theorem sc_are_covered_by:FnScope ["trees","some","things"] ["trees","some","things"] (aD fO):=.sc0
abbrev mB:Stmt:=top 62
theorem sc_length_of:FnScope ["tree","some"] ["tree","some"] (aD mB):=.sc0
abbrev jU:Stmt:=top 63
theorem sc_is_covering:FnScope ["tree","some","thing"] ["tree","some","thing"] (aD jU):=.sc0
abbrev jr:Stmt:=top 67
theorem sc_laid_pick:FnScope ["tree","some","cover","places","first","second","third","ahead","behind"] ["tree","some","cover","places"] (aD jr):=.sc0
abbrev gC:Stmt:=top 68
theorem sc_laid_piece:FnScope ["tree","some","cover","places","name","within","piece","holes","nums","ks","cells","hole","inner"] ["tree","some","cover","places"] (aD gC):=.sc0
abbrev kO:Stmt:=top 69
theorem sc_laid_cells:FnScope ["tree","some","cover","places","place"] ["tree","some","cover","places"] (aD kO):=.sc0
abbrev Ao:Stmt:=top 70
theorem sc_laid:FnScope ["tree","some","thing"] ["tree","some","thing"] (aD Ao):=.sc0
abbrev ml:Stmt:=top 72
theorem sc__law_draw:FnScope ["_law_script","_law_town","_law_many","_law_one","_law_at","_law_mixed"] ["_law_script","_law_town","_law_many"] (aD ml):=.sc0
abbrev mr:Stmt:=top 73
theorem sc__law_pick:FnScope ["_law_script","_law_town","_law_some"] ["_law_script","_law_town","_law_some"] (aD mr):=.sc0
abbrev jq:Stmt:=top 74
theorem sc__law_tree:FnScope ["_law_script","_law_town","_law_room","_law_leaf","_law_name","_law_many"] ["_law_script","_law_town","_law_room"] (aD jq):=.sc0
abbrev jl:Stmt:=top 75
theorem sc__law_args:FnScope ["_law_script","_law_town","_law_base"] ["_law_script","_law_town","_law_base"] (aD jl):=.sc0
abbrev mw:Stmt:=top 76
theorem sc__law_size:FnScope ["_law_script","_law_town"] ["_law_script","_law_town"] (aD mw):=.sc0
abbrev oj:Stmt:=top 77
theorem sc__law_two:FnScope ["_law_name","_law_one","_law_other","_law_base"] ["_law_name","_law_one","_law_other","_law_base"] (aD oj):=.sc0
abbrev kL:Stmt:=top 78
theorem sc__law_worth:FnScope ["_law_tree_here","_law_args_here","_law_base"] ["_law_tree_here","_law_args_here","_law_base"] (aD kL):=.sc0
abbrev kK:Stmt:=top 79
theorem sc__law_names:FnScope ["_law_first"] [] (aD kK):=.sc0
abbrev jR:Stmt:=top 80
theorem sc__law_behind:FnScope ["_law_number"] ["_law_number"] (aD jR):=.sc0
abbrev mn:Stmt:=top 81
theorem sc__law_goes:FnScope ["_law_name","_law_number","_law_on","_law_pile","_law_ways"] ["_law_name","_law_number","_law_on","_law_pile","_law_ways"] (aD mn):=.sc0
abbrev mj:Stmt:=top 82
theorem sc__law_does:FnScope ["_law_name","_law_number","_law_pile","_law_args_here","_law_base","_law_other","_law_one"] ["_law_name","_law_number","_law_pile","_law_args_here","_law_base"] (aD mj):=.sc0
abbrev jn:Stmt:=top 84
theorem sc__law_from:FnScope ["_law_code","_law_args_here","_law_base","_law_most","_law_at","_law_ways","_law_pile","_law_did","_law_k","_law_name","_law_many","_law_cells","_law_number","_law_on","_law_now"] ["_law_code","_law_args_here","_law_base","_law_most","_law_at","_law_ways"] (aD jn):=.sc0
abbrev oi:Stmt:=top 83
theorem sc__law_run:FnScope ["_law_code","_law_args_here","_law_base","_law_most"] ["_law_code","_law_args_here","_law_base","_law_most"] (aD oi):=.sc0
abbrev jS:Stmt:=top 85
theorem sc__law_pieces:FnScope ["_law_hole","_law_other","_law_gap","_law_made"] [] (aD jS):=.sc0
abbrev j0:Stmt:=top 86
theorem sc__law_set:FnScope ["_law_script","_law_town","_law_more"] ["_law_script","_law_town"] (aD j0):=.sc0
abbrev oh:Stmt:=top 87
theorem sc__law_fit:FnScope ["_law_pattern","_law_tree_here","_law_found"] ["_law_pattern","_law_tree_here","_law_found"] (aD oh):=.sc0
abbrev mq:Stmt:=top 90
theorem sc__law_jump:FnScope ["_law_near","_law_far","_law_cells"] ["_law_near","_law_far","_law_cells"] (aD mq):=.sc0
abbrev mm:Stmt:=top 91
theorem sc__law_fill:FnScope ["_law_cells","_law_nums","_law_ks","_law_made","_law_cell"] ["_law_cells","_law_nums","_law_ks"] (aD mm):=.sc0
abbrev gP:Stmt:=top 92
theorem sc__law_lay:FnScope ["_law_tree_here","_law_some","_law_cover","_law_three","_law_last","_law_named","_law_found","_law_holes","_law_made","_law_cells"] ["_law_tree_here","_law_some","_law_cover"] (aD gP):=.sc0
abbrev iK:Stmt:=top 93
theorem sc__law_any:FnScope ["_law_script","_law_town","_law_tree_here","_law_some","_law_ways","_law_piece","_law_found","_law_name","_law_holes"] ["_law_script","_law_town","_law_tree_here","_law_some"] (aD iK):=.sc0
abbrev CO:Stmt:=top 94
theorem sc_law:FnScope ["_law_script","_law_town","_law_tree_here","_law_some","_law_cover","_law_code","_law_k","_law_base","_law_args_here"] ["_law_script"] (aD CO):=.sc0
structure Df (K:W.Frag) (mg:Str->Option Value) (n:Str) (st:Stmt) (ps:List Str) where
 a:Addr
 d:FuncData
 f:Fun K n n st a d
 m:mg n=some (.ref a)
 b:Binds K d ps []
abbrev Ok (P:Program) (w:World) (base:Heap) (k:Nat) {K:W.Frag} {mg:Str->Option Value} {n:Str} {st:Stmt} {ps:List Str} (D:Df K mg n st ps) (sp:Sp):Prop:=FnOk P w K mg base CX0 k D.a D.d ps sp
theorem pc {X:Cx} {k:Nat} {n:Str} {st:Stmt} {ps:List Str} {sp:Sp} {e:Expr} {es:List Expr} {t:TA} {p pos:Pos} {D:Df X.K X.mg n st ps} (F:FnOk X.prog X.w X.K X.mg X.base CX0 k D.a D.d ps sp) (hr:Room k X.A) (ha:PA X (e::es) t) (hg:Gl X n:=by rfl) (hdb:(n == ("__debug__":Str))=false:=by decide) (he:starEach (e::es) X.env=(false,eval e X.env)::starEach es X.env:=by rfl) (hpl:(backTo pos (starEach es X.env)).any (·.1)=false:=by rfl):PE X (.Call (.Name n p) (e::es) [] pos) (iy sp [] E0 t):=BO F hr hg D.m D.f.kp D.b .nil zE ha hdb he hpl
set_option genInjectivity false in
set_option genSizeOfSpec false in
structure Dfs (K:W.Frag) (mg:Str->Option Value) where
 FF:Df K mg "is_whole" oq ["thing","low","high"]
 FM:Df K mg "is_tagged" mx ["thing"]
 Hb:Df K mg "is_node" pP ["thing"]
 Fz:Df K mg "trees_within" jt ["tree"]
 HS:Df K mg "is_tree" lR ["thing"]
 F4:Df K mg "need_tree" mC ["tree"]
 Hm:Df K mg "walked" tU ["tree"]
 HR:Df K mg "is_name" lQ ["thing"]
 Gs:Df K mg "instruction_at" iw ["cells","place"]
 HQ:Df K mg "is_mark" pO ["thing"]
 FB:Df K mg "is_pattern_part" fF ["thing","deep"]
 F8:Df K mg "marks_in" ow ["pattern","kind"]
 GQ:Df K mg "is_numbered" hU ["pattern","kind"]
 GZ:Df K mg "is_pattern" iL ["thing"]
 GY:Df K mg "is_filling" kM ["thing","pattern"]
 HP:Df K mg "is_cell" pN ["thing","pattern"]
 F5:Df K mg "are_instructions" ff ["cells","pattern"]
 HF:Df K mg "is_piece" oo ["thing"]
 Ib:Df K mg "is_set" kN ["thing"]
 Gk:Df K mg "need_set" oy ["some"]
 Gx:Df K mg "may_stand_for" iT ["mark","tree"]
 GB:Df K mg "matches" pQ ["pattern","tree","found"]
 GM:Df K mg "found_in" om ["piece","tree"]
 GO:Df K mg "filled_cell" jT ["cell","nums","ks"]
 GW:Df K mg "jump_over" my ["many","kinds"]
 FU:Df K mg "jumps_of_pick" iS ["second","third"]
 Hc:Df K mg "ways_of" pR ["tree","some"]
 Hw:Df K mg "length_by" mz ["name","cells","lengths"]
 GH:Df K mg "best_by_ways" dF ["tree","some","done","bests"]
 Gw:Df K mg "best_covering" iQ ["tree","some"]
 FA:Df K mg "is_covered_by" iR ["tree","some","thing"]
 Gr:Df K mg "are_covered_by" fO ["trees","some","things"]
 Hx:Df K mg "length_of" mB ["tree","some"]
 GP:Df K mg "is_covering" jU ["tree","some","thing"]
 Hv:Df K mg "laid_pick" jr ["tree","some","cover","places"]
 Ha:Df K mg "laid_piece" gC ["tree","some","cover","places"]
 FL:Df K mg "laid_cells" kO ["tree","some","cover","places"]
 IR:Df K mg "laid" Ao ["tree","some","thing"]
 FD:Df K mg "_law_draw" ml ["_law_script","_law_town","_law_many"]
 FI:Df K mg "_law_pick" mr ["_law_script","_law_town","_law_some"]
 Gj:Df K mg "_law_tree" jq ["_law_script","_law_town","_law_room"]
 Ho:Df K mg "_law_args" jl ["_law_script","_law_town","_law_base"]
 Hu:Df K mg "_law_size" mw ["_law_script","_law_town"]
 GL:Df K mg "_law_two" oj ["_law_name","_law_one","_law_other","_law_base"]
 FG:Df K mg "_law_worth" kL ["_law_tree_here","_law_args_here","_law_base"]
 Gq:Df K mg "_law_names" kK []
 GN:Df K mg "_law_behind" jR ["_law_number"]
 Ht:Df K mg "_law_goes" mn ["_law_name","_law_number","_law_on","_law_pile","_law_ways"]
 Hq:Df K mg "_law_does" mj ["_law_name","_law_number","_law_pile","_law_args_here","_law_base"]
 Hs:Df K mg "_law_from" jn ["_law_code","_law_args_here","_law_base","_law_most","_law_at","_law_ways"]
 HD:Df K mg "_law_run" oi ["_law_code","_law_args_here","_law_base","_law_most"]
 Gb:Df K mg "_law_pieces" jS []
 HE:Df K mg "_law_set" j0 ["_law_script","_law_town"]
 FZ:Df K mg "_law_fit" oh ["_law_pattern","_law_tree_here","_law_found"]
 GV:Df K mg "_law_jump" mq ["_law_near","_law_far","_law_cells"]
 Hr:Df K mg "_law_fill" mm ["_law_cells","_law_nums","_law_ks"]
 Gi:Df K mg "_law_lay" gP ["_law_tree_here","_law_some","_law_cover"]
 Gh:Df K mg "_law_any" iK ["_law_script","_law_town","_law_tree_here","_law_some"]
 Jh:Df K mg "law" CO ["_law_script"]
set_option genInjectivity false in
set_option genSizeOfSpec false in
structure Txt (P:Program) (w:World) (K:W.Frag) (mg:Str->Option Value) extends Dfs K mg where
 GG:Tok
 Gp:mg "MOST_PARTS"=some (.int 40 GG)
 GT:Tok
 Gy:mg "MOST_DEEP"=some (.int 8 GT)
 Gg:Tok
 F1:mg "LONGEST_NAME"=some (.int 8 Gg)
 GS:Tok
 Gf:mg "MOST_CELL"=some (.int 99 GS)
 FK:Tok
 FC:mg "MOST_PATTERN_DEEP"=some (.int 3 FK)
 Hl:Tok
 GJ:mg "MOST_GAP"=some (.int 9999 Hl)
 FS:Tok
 FE:mg "MOST_PIECE_CELLS"=some (.int 12 FS)
 Gv:Tok
 Ga:mg "MOST_PIECES"=some (.int 16 Gv)
 GU:Tok
 Gz:mg "MOST_NEAR"=some (.int 9 GU)
 GF:Tok
 Gn:mg "CALL_CELLS"=some (.int 3 GF)
 Jg:Tok
 IH:mg "END"=some (.int 0 Jg)
 IA:Tok
 Ii:mg "CALL"=some (.int 15 IA)
 Ge:Addr
 FQ:mg "MOST_IN_LEAF"=some (.ref Ge)
 FR:jI K Ge TL
 FJ:Addr
 Fx:mg "TREES_IN_BRANCH"=some (.ref FJ)
 Fy:jI K FJ TB
 FO:Addr
 FH:mg "MARK_LENGTHS"=some (.ref FO)
 Fv:jI K FO TM
 Gu:Addr
 FX:mg "FILLED_FROM"=some (.ref Gu)
 FY:jI K Gu TF
 Gd:Addr
 FP:mg "INSTRUCTIONS"=some (.ref Gd)
 Hf:fJ K (.tup INS) (.ref Gd)=true
 HC:Addr
 GK:mg "STRAIGHT"=some (.ref HC)
 Iv:fJ K (.tup STR) (.ref HC)=true
 Ip:Addr
 HL:mg "AHEAD"=some (.ref Ip)
 Jo:fJ K (.tup AHE) (.ref Ip)=true
 Ia:Addr
 Hz:mg "BEHIND"=some (.ref Ia)
 Jf:fJ K (.tup BEH) (.ref Ia)=true
 Iq:Addr
 HM:mg "BASIC"=some (.ref Iq)
 Jp:nD K BAS Iq=true
 HI:xU P w K FO ["hole","gap","slot"]
 Fw:mg "len"=none
 Fu:mg "isinstance"=none
 Jx:mg "int"=none
 Jv:mg "bool"=none
 Jy:mg "str"=none
 FT:mg "tuple"=none
 Jl:mg "list"=none
 HN:mg "range"=none
 Iy:mg "all"=none
 JJ:mg "any"=none
 JK:mg "set"=none
 Jz:mg "sum"=none
 Iz:mg "reversed"=none
 II:mg "zip"=none
 Il:mg "enumerate"=none
section
variable {P:Program} {w:World} {K:W.Frag} {mg:Str->Option Value} {base:Heap} {k:Nat}
def cG (d:D) (lo hi:Int):Bool:=match d with
 | .int i=>decide (lo<=i) && decide (i<=hi)
 | _=>false
def gm (ds:List D) (d:D):Prop:=∃ x lo hi,ds=[x,.int lo,.int hi]/\d=.bl (cG x lo hi)
def cU:D->Bool
 | .tup (.str _::_)=>true
 | _=>false
def iA (ds:List D) (d:D):Prop:=∃ x,ds=[x]/\d=.bl (cU x)
def j4 (k:Str) (T:List (Str × KTD.Dat)):Int:=match KTD.datumAt k T with
 | some (.flat (.int i))=>i
 | _=>0
def dm:D->Bool
 | .tup (.str k::r)=>if KTD.inKeys k TL=true then decide ((r.length:Int)+1=2) && cG (r.getD 0 .non) 0 (j4 k TL) else KTD.inKeys k TB && decide ((r.length:Int)+1=1+j4 k TB)
 | _=>false
def ya (ds:List D) (d:D):Prop:=∃ x,ds=[x]/\d=.bl (dm x)
def bZ:D->List D
 | .tup (.str k::r)=>if KTD.inKeys k TB=true then r else []
 | _=>[]
def gy (ds:List D) (d:D):Prop:=∃ k r,ds=[.tup (.str k::r)]/\d=.tup (bZ (.tup (.str k::r)))
theorem E8 {T:List (Str × KTD.Dat)} {k:Str} (hT:∀ p ∈ T,∃ i,p.2=.flat (.int i)) (h:KTD.inKeys k T=true):KTD.datumAt k T=some (.flat (.int (j4 k T))):=by
 unfold j4
 cases e:KTD.datumAt k T with
 | none=>exact absurd e (KTD.at_of_mem h)
 | some d =>
  have all:∀ (T:List (Str × KTD.Dat)),(∀ p ∈ T,∃ i,p.2=.flat (.int i))->KTD.datumAt k T=some d->∃ i,d=.flat (.int i):=by
   intro T
   induction T with
   | nil=>intro _ e;simp [KTD.datumAt] at e
   | cons p r ih =>
    intro hp e;obtain ⟨x,y⟩:=p;have e':(if decide (k=x)=true then some y else KTD.datumAt k r)=some d:=e;by_cases hx:k=x
    ·rw [if_pos (decide_eq_true hx)] at e';cases e';exact hp _ List.mem_cons_self
    ·rw [if_neg (by simp [hx])] at e';exact ih (λp hp'=>hp p (List.mem_cons_of_mem _ hp')) e'
  obtain ⟨i,rfl⟩:=all T hT e;rfl
theorem De:∀ p ∈ TL,∃ i,p.2=.flat (.int i):=by intro p hp;simp only [TL,List.mem_cons,List.not_mem_nil,or_false] at hp;rcases hp with rfl | rfl <;> exact ⟨_,rfl⟩
theorem Dc:∀ p ∈ TB,∃ i,p.2=.flat (.int i):=by intro p hp;simp only [TB,List.mem_cons,List.not_mem_nil,or_false] at hp;rcases hp with rfl | rfl | rfl | rfl | rfl <;> exact ⟨_,rfl⟩
theorem tm (T:Txt P w K mg)  : Ok P w base (k+1) T.FF (spD K gm):=by
 refine T.FF.f.ok sc_is_whole (λvs H Q E h=>?_) (λcdv A outer s H vs Q E hr h=>?_)
 ·obtain ⟨ds,d,hd,⟨x,lo,hi,rfl,rfl⟩,_⟩:=h;exact hd.length.symm
 have nd:=sc_is_whole.nd;obtain ⟨ds,d,hd,⟨x,lo,hi,rfl,rfl⟩,post⟩:=h;obtain ⟨v0,v1,v2,rfl,h0,h1,h2⟩:=me hd;have g1:=h1.intE;have g2:=h2.intE;subst g1 g2;refine ⟨_,(au (aF (gL (aP (dB yP) rfl T.Fu bF (bM (pv 0) (bM (eB (v:=.ty "int") rfl T.Jx yk rfl) af))) (gL (DP (aP (dB Bo) rfl T.Fu bF (bM (pv 0) (bM (eB (v:=.ty "bool") rfl T.Jv A3 rfl) af)))) (gM (tH iO iO (pv 1) (pv 0) (pv 2))))))),?_⟩;refine aX (K:=K) (d:=.bl (cG x lo hi)) ?_ post
 cases x with
 | int i=>exact RE.as (cQ (bA (ab h0)) λ_=>cQ (Ag (bA (ab h0))) λ_=>kH (ab h1) (ab h0) λ_=>ab h2) rfl
 | bl y=>exact RE.as (cQ (c:=false) (bA (ab h0)) λ_=>RE.as (cQ (c:=true) (Ag (bA (ab h0))) λz=>nomatch z) rfl) rfl
 | non=>exact RE.as (cQ (c:=true) (bA (ab h0)) λz=>nomatch z) rfl
 | str y=>exact RE.as (cQ (c:=true) (bA (ab h0)) λz=>nomatch z) rfl
 | tup y=>exact RE.as (cQ (c:=true) (bA (ab h0)) λz=>nomatch z) rfl
 | lst=>exact RE.as (cQ (c:=true) (bA (ab h0)) λz=>nomatch z) rfl
theorem qX (T:Txt P w K mg)  : Ok P w base (k+1) T.FM (spD K iA):=by
 refine T.FM.f.ok sc_is_tagged (λvs H Q E h=>?_) (λcdv A outer s H vs Q E hr h=>?_)
 ·obtain ⟨ds,d,hd,⟨x,rfl,rfl⟩,_⟩:=h;exact hd.length.symm
 have nd:=sc_is_tagged.nd;obtain ⟨ds,d,hd,⟨x,rfl,rfl⟩,post⟩:=h;obtain ⟨v0,rfl,h0⟩:=gW hd;refine ⟨_,(au (aF (gL (aP (dB gH) rfl T.Fu bF (bM (pv 0) (bM (eB (v:=.ty "tuple") rfl T.FT cg rfl) af))) (gL (cR iN (aP aM rfl T.Fw bq (ag (pv 0) af)) aj (aJ _)) (gM (aP (dB yQ) rfl T.Fu bF (bM (aI aK (pv 0) aj) (bM (eB (v:=.ty "str") rfl T.Jy ym rfl) af)))))))),?_⟩;refine aX (K:=K) (d:=.bl (cU x)) ?_ post
 cases x with
 | tup ds =>
  cases ds with
  | nil=>exact RE.as (cQ (c:=false) (bA (ab h0)) λ_=>RE.as (cQ (c:=true) (bT (cF (ab h0)) ak) λz=>nomatch z) rfl) rfl
  | cons y r =>have l:decide ((0:Int) < (((y::r).length:Nat):Int))=true:=decide_eq_true (by rw [List.length_cons];omega);refine RE.as (cQ (bA (ab h0)) λ_=>cQ (RE.as (bT (cF (ab h0)) ak) (congrArg D.bl l)) λ_=>bA (aN (k:=0) (ab h0) ak (show (y::r)[0]?=some y from rfl))) ?_;cases y <;> rfl
 | int i=>exact RE.as (cQ (c:=true) (bA (ab h0)) λz=>nomatch z) rfl
 | bl y=>exact RE.as (cQ (c:=true) (bA (ab h0)) λz=>nomatch z) rfl
 | non=>exact RE.as (cQ (c:=true) (bA (ab h0)) λz=>nomatch z) rfl
 | str y=>exact RE.as (cQ (c:=true) (bA (ab h0)) λz=>nomatch z) rfl
 | lst=>exact RE.as (cQ (c:=true) (bA (ab h0)) λz=>nomatch z) rfl
theorem uK (T:Txt P w K mg) (Gc:Ok P w base k T.FM (spD K iA)) (FW:Ok P w base k T.FF (spD K gm)):Ok P w base (k+1) T.Hb (spD K ya):=by
 refine T.Hb.f.ok sc_is_node (λvs H Q E h=>?_) (λcdv A outer s H vs Q E hr h=>?_)
 ·obtain ⟨ds,d,hd,⟨x,rfl,rfl⟩,_⟩:=h;exact hd.length.symm
 have nd:=sc_is_node.nd;obtain ⟨ds,d,hd,⟨x,rfl,rfl⟩,post⟩:=h;obtain ⟨v0,rfl,h0⟩:=gW hd;refine ⟨_,(ao (a7 (bP (bg (pc (D:=T.FM) Gc hr (ag (pv 0) af)) (λ_=>rfl))) (au (aF ck)) aL)
 (ao (bo (i:=1) nd rfl (Or.inl rfl) (aI aK (pv 0) aj))
 (ao (a7 (aC kz (pv 1) (bL (v:=.ref T.Ge) rfl T.FQ rfl) (by with_unfolding_all rfl)) (au (aF (gL (cR bz (aP aM rfl T.Fw bq (ag (pv 0) af)) aj (aJ _)) (gM (pc (D:=T.FF) FW hr (ag (aI aK (pv 0) aj) (ag aj (ag (aI yU (bL (v:=.ref T.Ge) rfl T.FQ rfl) (pv 1)) af)))))))) aL)
 (au (aF (gL (cR kz (pv 1) (bL (v:=.ref T.FJ) rfl T.Fx rfl) (by with_unfolding_all rfl)) (gM (cR bz (aP aM rfl T.Fw bq (ag (pv 0) af)) (ba cX aj (aI yU (bL (v:=.ref T.FJ) rfl T.Fx rfl) (pv 1))) (aJ _))))))))),?_⟩
 refine aH (K:=K) (b:=!cU x) (bj (aW (a9 (ae (ab h0) aA) ⟨x,rfl,rfl⟩))) (λc H1 s1=>?_) (λc H1 s1=>?_)
 ·refine aX (K:=K) (d:=.bl (dm x)) ?_ λv H' s q=>post v H' (s1.trans s) q
  have e:dm x=false:=by
   unfold dm;split
   ·unfold cU at c;simp at c
   ·rfl
  rw [e];exact dJ
 ·have h0':=s1.dat h0;have c':cU x=true:=by simpa using c
  unfold cU at c';split at c'
  ·rename_i kd r;refine eT (K:=K) (d:=.str kd) (aN (k:=0) (ab h0') ak rfl) λv1 H2 s2 q2=>?_;have h2:=s2.dat h0';have ev:=q2.strE;subst ev;refine aH (K:=K) (b:=KTD.inKeys kd TL) (ay (f9 (ab q2) T.FR)) (λcL H3 s3=>?_) (λcL H3 s3=>?_)
   ·have h3:=s3.dat h2
    have e:dm (.tup (.str kd::r))=(decide ((r.length:Int)+1=2) && cG (r.getD 0 .non) 0 (j4 kd TL)):=by show (if KTD.inKeys kd TL=true then _ else _)=_;rw [if_pos cL]
    refine aX (K:=K) (d:=.bl (dm (.tup (.str kd::r)))) ?_ λv H' s q=>post v H' (s1.trans (s2.trans (s3.trans s))) q;rw [e];have el:((((D.str kd)::r).length:Nat):Int)=(r.length:Int)+1:=by rw [List.length_cons];omega
    have b1:=n6 (K:=K) (cF (ab (σ:=(eG ["thing","kind"] [v0]).set 1 (some (.str kd))) (k:=0) h3)) (ak (i:=2));rw [el] at b1;refine cQ b1 λhl=>?_;have hl':(r.length:Int)+1=2:=of_decide_eq_true hl
    obtain ⟨y,er⟩:∃ y,r=[y]:=by
     match r,hl' with
     | [],h=>simp at h
     | [y],_=>exact ⟨y,rfl⟩
     | _::_::_,h=>simp at h;omega
    subst er;refine a9 (E:=E0) (R:=gm) (ae (aN (k:=1) (ab h3) ak rfl) (ae ak (ae (tQ (ab (s3.dat q2)) T.FR (by rfl) (E8 De cL)) aA))) ⟨y,0,j4 kd TL,rfl,rfl⟩
   ·have h3:=s3.dat h2
    have e:dm (.tup (.str kd::r))=(KTD.inKeys kd TB && decide ((r.length:Int)+1=1+j4 kd TB)):=by show (if KTD.inKeys kd TL=true then _ else _)=_;rw [if_neg (by rw [cL];exact Bool.false_ne_true)]
    refine aX (K:=K) (d:=.bl (dm (.tup (.str kd::r)))) ?_ λv H' s q=>post v H' (s1.trans (s2.trans (s3.trans s))) q;rw [e];have el:((((D.str kd)::r).length:Nat):Int)=(r.length:Int)+1:=by rw [List.length_cons];omega
    refine cQ (f9 (ab (s3.dat q2)) T.Fy) λcB=>?_;have b1:=n6 (K:=K) (cF (ab (σ:=(eG ["thing","kind"] [v0]).set 1 (some (.str kd))) (k:=0) h3)) (d6 (ak (i:=1)) (tQ (ab (σ:=(eG ["thing","kind"] [v0]).set 1 (some (.str kd))) (k:=1) (s3.dat q2)) T.Fy (by rfl) (E8 Dc cB)));rw [el] at b1;exact b1
  ·cases c'
theorem mH (T:Txt P w K mg)  : Ok P w base (k+1) T.Fz (spD K gy):=by
 refine T.Fz.f.ok sc_trees_within (λvs H Q E h=>?_) (λcdv A outer s H vs Q E hr h=>?_)
 ·obtain ⟨ds,d,hd,⟨kd,r,rfl,rfl⟩,_⟩:=h;exact hd.length.symm
 have nd:=sc_trees_within.nd;obtain ⟨ds,d,hd,⟨kd,r,rfl,rfl⟩,post⟩:=h;obtain ⟨v0,rfl,h0⟩:=gW hd;refine ⟨_,(ao (a7 (aC kz (aI aK (pv 0) aj) (bL (v:=.ref T.FJ) rfl T.Fx rfl) (by with_unfolding_all rfl)) (au (aF (gN lS (pv 0) (gA aj) kD))) aL)
 (au (aF (aU af)))),?_⟩
 refine aH (K:=K) (b:=KTD.inKeys kd TB) (ay (f9 (aN (k:=0) (ab h0) ak rfl) T.Fy)) (λc H1 s1=>?_) (λc H1 s1=>?_)
 ·refine aX (K:=K) (d:=.tup r) (iu (ab (s1.dat h0))) λv H' s q=>post v H' (s1.trans s) ?_;show Dat K H' (.tup (if KTD.inKeys kd TB=true then r else [])) v;rw [if_pos c];exact q
 ·refine aX (K:=K) (σ:=eG ["tree"] [v0]) (d:=.tup []) (aZ aA) λv H' s q=>post v H' (s1.trans s) ?_;show Dat K H' (.tup (if KTD.inKeys kd TB=true then r else [])) v;rw [if_neg (by rw [c];exact Bool.false_ne_true)];exact q
theorem zJ {ns:List Int} {k:Int} (h0:0<=k) (h1:k < (ns.length:Int)):∃ z,atI (ns.map V.int) k=some (.int z):=by
 have hk:k.toNat < ns.length:=by omega
 refine ⟨ns[k.toNat],?_⟩;have e:k=((k.toNat:Nat):Int):=by omega
 have q:atI (ns.map V.int) ((k.toNat:Nat):Int)=some (.int ns[k.toNat]):=gz (by rw [List.getElem?_map,List.getElem?_eq_getElem hk] <;> rfl);rw [<- e] at q;exact q
theorem qP (T:Txt P w K mg)  : Ok P w base (k+1) T.FD (oA K):=by
 refine T.FD.f.ok sc__law_draw (λvs H Q E h=>?_) (λcdv A outer s H vs Q E hr h=>?_)
 ·obtain ⟨a,t,ns,m,p,q,rest,rfl,_⟩:=h;rfl
 have nd:=sc__law_draw.nd;obtain ⟨a,t,ns,m,p,q,rest,rfl,hS,hT,hp,hm,hm2,post⟩:=h;refine ⟨_,(ao (a7 (aC iN (aI bf (pv 1) aj) aj (aJ _)) (ao (bo (i:=3) nd rfl (Or.inl rfl) (ba dD (aI bf (pv 1) aj) (pv 2)))
 (ao (fC (ba iE (aI bf (pv 1) aj) (pv 2)) (rA (pv 1) aj kP))
 (au (aF (pv 3))))) aL)
 (ao (bo (i:=4) nd rfl (Or.inl rfl) (aI bf (pv 1) aj))
 (ao (wg (pv 1) aj sC aj uy kP)
 (ao (a7 (aC (nQ hr) (pv 0) (bh af) (aJ _)) (au (aF (ba dD (pv 4) (pv 2)))) aL)
 (ao (a7 (PW.pt (nX (aC jg (pv 4) (aP aM rfl T.Fw bq (ag (pv 0) af)) (aJ _)) (kE (aC wb (aI bf (pv 0) (pv 4)) (ba rj aj aj) (aJ _))))) (ao (fC (ba dD (ba iE (aI bf (pv 0) (pv 4)) (pv 2)) (ba BM (ba rj aj aj) (ba rj aj aj))) (rA (pv 1) aj kP))
 (au (aF (ba dD (aI bf (pv 0) (pv 4)) (pv 2))))) aL)
 (ao (bo (i:=5) nd rfl (Or.inl rfl) (ba dD (ba cX (ba cX (ba rg (aI bf (pv 0) (ba dD (pv 4) (aP aM rfl T.Fw bq (ag (pv 0) af)))) aj) (ba rg aj (pv 4))) aj) aj))
 (au (aF (ba dD (ba dD (ba dD (ba rj (pv 5) aj) aj) aj) (pv 2)))))))))),?_⟩
 refine ⟨_,rfl,t,_,1,_,rfl,rfl,SqL.of hT,at1,q,0,rfl,rfl,_,rfl,?_⟩;refine oO (λc=>?_) (λc=>?_)
 ·refine ⟨_,rfl,t,_,1,_,rfl,rfl,SqL.of hT,at1,_,rfl,q,m,rfl,rfl,hm,?_⟩;refine ⟨_,rfl,t,_,1,_,rfl,rfl,SqL.of hT,at1,_,rfl,q,m,rfl,rfl,⟨hm,by omega⟩,?_⟩;refine ⟨_,rfl,t,_,1,1,rfl,rfl,hT,ix1,?_⟩;refine ⟨_,rfl,?_⟩;exact post (q % m) _ p (q / m) (But.upd (Same.refl H).but) aq hp (Int.emod_nonneg _ (by omega)) (Int.emod_lt_of_pos _ hm)
 refine ⟨_,rfl,t,_,0,_,rfl,rfl,SqL.of hT,at0,?_⟩;refine ⟨_,rfl,t,_,0,_,rfl,rfl,Int.le_refl 0,SqL.of hT,rfl,p,1,rfl,rfl,t,_,0,0,rfl,rfl,hT,ix0,?_⟩;refine ⟨_,rfl,(by show 0<=sizeLine;decide),λl hl=>?_⟩;have bt1:But t H (upd H t (.lst ((V.int p::.int q::rest).set 0 (.int (p+1))))):=But.upd (Same.refl H).but;have hlt:l≠t:=λz=>by rw [z,aq] at hl;cases hl
 have bt3:=bt1.trans (aG hl (.lst [])).but
 have ht3:upd (upd H t (.lst ((V.int p::.int q::rest).set 0 (.int (p+1))))) l (.lst []) t=some (.lst (.int (p+1)::.int q::rest)):=by rw [aO (Ne.symm hlt)];exact aq
 have hS3:=(hS.but bt3 hT).sqL;have hlen:((ns.map V.int).length:Int)=(ns.length:Int):=by rw [List.length_map]
 refine ⟨a,l,_,[],ns.map D.int,[],rfl,rfl,hS3,SqL.of aq,dC ns,Dats.nil,gE ns,(by unfold noLs;rfl),(by rw [fX];decide),_,rfl,?_⟩;show (if eqDs (ns.map D.int) []=true then _ else _);rw [yE];refine oO (λc0=>?_) (λc0=>?_)
 ·refine ⟨_,rfl,_,rfl,p,m,rfl,rfl,hm,?_⟩;exact post _ _ (p+1) q bt3 ht3 (by omega) (Int.emod_nonneg _ (by omega)) (Int.emod_lt_of_pos _ hm)
 have hl0:(0:Int) < ((ns.map V.int).length:Int):=by
  rw [hlen]
  cases ns with
  | nil=>exact absurd rfl c0
  | cons n ns=>rw [List.length_cons];omega
 refine ⟨_,rfl,_,rfl,a,_,rfl,.inl hS3,p,_,rfl,rfl,_,rfl,?_⟩;refine oO (λc1=>?_) (λc1=>?_)
 ·have c1':p < ((ns.map V.int).length:Int):=of_decide_eq_true c1;obtain ⟨z,hz⟩:=zJ (ns:=ns) hp (by rw [<- hlen];exact c1');refine ⟨_,rfl,_,rfl,a,_,p,_,rfl,rfl,hS3,hz,10,18,rfl,rfl,⟨by decide,by decide,by decide⟩,z,_,rfl,rfl,_,rfl,?_⟩;refine oO (λc2=>?_) (λc2=>?_)
  ·refine ⟨_,rfl,_,rfl,a,_,p,_,rfl,rfl,hS3,hz,_,rfl,z,m,rfl,rfl,⟨hm,by omega⟩,10,60,rfl,rfl,⟨by decide,by decide,by decide⟩,10,60,rfl,rfl,⟨by decide,by decide,by decide⟩,_,_,rfl,rfl,IntMulOk.of_bits (by decide +kernel) (by decide +kernel),_,_,rfl,rfl,(by show (0:Int) < 10 ^ (60:Int).toNat * 10 ^ (60:Int).toNat;decide +kernel),?_⟩;refine ⟨_,rfl,t,_,1,1,rfl,rfl,ht3,ix1,?_⟩;refine ⟨_,rfl,_,rfl,a,_,p,_,rfl,rfl,(hS.but bt3.upd hT).sqL,hz,_,rfl,z,m,rfl,rfl,hm,?_⟩;exact post _ _ (p+1) _ bt3.upd aq (by omega) (Int.emod_nonneg _ (by omega)) (Int.emod_lt_of_pos _ hm)
  ·refine ⟨_,rfl,_,rfl,_,rfl,a,_,rfl,.inl hS3,p,_,rfl,rfl,hl0,?_⟩;obtain ⟨z2,hz2⟩:=zJ (ns:=ns) (Int.emod_nonneg p (by omega:((ns.map V.int).length:Int)≠0)) (by rw [<- hlen];exact Int.emod_lt_of_pos p hl0);refine ⟨a,_,_,_,rfl,rfl,hS3,hz2,z2,1103515245,rfl,rfl,.inr ⟨by decide,by decide⟩,_,rfl,7919,p,rfl,rfl,.inl ⟨by decide,by decide⟩,_,_,rfl,rfl,_,_,rfl,rfl,_,_,rfl,rfl,(by show (0:Int) < 2147483647;decide),?_⟩;have m1:=Int.emod_nonneg (z2 * 1103515245+7919 * p+12345) (by decide:(2147483647:Int)≠0);have m2:=Int.emod_lt_of_pos (z2 * 1103515245+7919 * p+12345) (by decide:(0:Int) < 2147483647);refine ⟨_,rfl,_,5,rfl,rfl,⟨by decide,by decide,by omega⟩,_,_,rfl,rfl,(by show (0:Int) < 2147483647;decide),_,_,rfl,rfl,(by show (0:Int) < 999983;decide),_,rfl,_,m,rfl,rfl,hm,?_⟩;exact post _ _ (p+1) q bt3 ht3 (by omega) (Int.emod_nonneg _ (by omega)) (Int.emod_lt_of_pos _ hm)
 ·refine ⟨_,rfl,_,rfl,_,rfl,a,_,rfl,.inl hS3,p,_,rfl,rfl,hl0,?_⟩;obtain ⟨z2,hz2⟩:=zJ (ns:=ns) (Int.emod_nonneg p (by omega:((ns.map V.int).length:Int)≠0)) (by rw [<- hlen];exact Int.emod_lt_of_pos p hl0);refine ⟨a,_,_,_,rfl,rfl,hS3,hz2,z2,1103515245,rfl,rfl,.inr ⟨by decide,by decide⟩,_,rfl,7919,p,rfl,rfl,.inl ⟨by decide,by decide⟩,_,_,rfl,rfl,_,_,rfl,rfl,_,_,rfl,rfl,(by show (0:Int) < 2147483647;decide),?_⟩;have m1:=Int.emod_nonneg (z2 * 1103515245+7919 * p+12345) (by decide:(2147483647:Int)≠0);have m2:=Int.emod_lt_of_pos (z2 * 1103515245+7919 * p+12345) (by decide:(0:Int) < 2147483647);refine ⟨_,rfl,_,5,rfl,rfl,⟨by decide,by decide,by omega⟩,_,_,rfl,rfl,(by show (0:Int) < 2147483647;decide),_,_,rfl,rfl,(by show (0:Int) < 999983;decide),_,rfl,_,m,rfl,rfl,hm,?_⟩;exact post _ _ (p+1) q bt3 ht3 (by omega) (Int.emod_nonneg _ (by omega)) (Int.emod_lt_of_pos _ hm)
def oB (K:W.Frag):Sp:=λvs H Q _=>∃ (a t l:Addr) (ns:List Int) (xs:List V) (p q:Int) (rest:List V),vs=[.ref a,.ref t,.ref l]/\Scr K H a ns/\SqL K H l xs/\l≠t/\0 < xs.length/\xs.length<=1000000 /\
 H t=some (.lst (.int p::.int q::rest))/\0<=p/\∀ (i:Nat) (x:V) (H':Hp) (p' q':Int),But t H H'->H' t=some (.lst (.int p'::.int q'::rest))->0<=p'->xs[i]?=some x->Q x H'
theorem qU (T:Txt P w K mg) (FV:Ok P w base k T.FD (oA K)):Ok P w base (k+1) T.FI (oB K):=by
 refine T.FI.f.ok sc__law_pick (λvs H Q E h=>?_) (λcdv A outer s H vs Q E hr h=>?_)
 ·obtain ⟨a,t,l,ns,xs,p,q,rest,rfl,_⟩:=h;rfl
 have nd:=sc__law_pick.nd;obtain ⟨a,t,l,ns,xs,p,q,rest,rfl,hS,hL,hlt,hx0,hx1,hT,hp,post⟩:=h;refine ⟨_,(au (aF (aI bf (pv 2) (pc (D:=T.FD) FV hr (ag (pv 0) (ag (pv 1) (ag (aP aM rfl T.Fw bq (ag (pv 2) af)) af))))))),?_⟩;refine ⟨_,rfl,_,rfl,_,rfl,_,rfl,l,xs,rfl,.inl hL,a,t,ns,(xs.length:Int),p,q,rest,rfl,hS,hT,hp,by omega,by omega,λr H1 p1 q1 b1 t1 g1 r0 r1=>?_⟩;have hr':r.toNat < xs.length:=by omega
 have er:r=((r.toNat:Nat):Int):=by omega
 have z:atI xs ((r.toNat:Nat):Int)=some xs[r.toNat]:=gz (List.getElem?_eq_getElem hr');rw [<- er] at z;exact ⟨l,xs,r,xs[r.toNat],rfl,rfl,b1.sqL hlt hL,z,post r.toNat _ H1 p1 q1 b1 t1 g1 (List.getElem?_eq_getElem hr')⟩
end
inductive Tr where
 | num (n:Int)
 | arg (k:Int)
 | two (o:Str) (a b:Tr)
 | pick (a b c:Tr)
def toD:Tr->D
 | .num n=>.tup [.str "num",.int n]
 | .arg k=>.tup [.str "arg",.int k]
 | .two o a b=>.tup [.str o,toD a,toD b]
 | .pick a b c=>.tup [.str "pick",toD a,toD b,toD c]
def okT:Tr->Prop
 | .num n=>0<=n/\n<=9999
 | .arg k=>0<=k/\k<=3
 | .two o a b=>(o="add"\/o="sub"\/o="mul"\/o="less")/\okT a/\okT b
 | .pick a b c=>okT a/\okT b/\okT c
def aS:Tr->Nat
 | .num _=>1
 | .arg _=>1
 | .two _ a b=>max (aS a) (aS b)+1
 | .pick a b c=>max (aS a) (max (aS b) (aS c))+1
def aR:Tr->Nat
 | .num _=>1
 | .arg _=>1
 | .two _ a b=>aR a+aR b+1
 | .pick a b c=>aR a+aR b+aR c+1
def bQ:Tr->List Tr
 | .num _=>[]
 | .arg _=>[]
 | .two _ a b=>[a,b]
 | .pick a b c=>[a,b,c]
def aV:Tr->List Tr
 | .num n=>[.num n]
 | .arg k=>[.arg k]
 | .two o a b=>.two o a b::(aV a++aV b)
 | .pick a b c=>.pick a b c::(aV a++aV b++aV c)
theorem bB:∀ t:Tr,(aV t).length=aR t
 | .num _=>rfl
 | .arg _=>rfl
 | .two _ a b=>by simp only [aV,aR,List.length_cons,List.length_append,bB a,bB b]
 | .pick a b c=>by simp only [aV,aR,List.length_cons,List.length_append,bB a,bB b,bB c]
theorem ie (t:Tr):1<=aS t:=by cases t <;> simp [aS]
theorem zy {o:Str} (h:o="add"\/o="sub"\/o="mul"\/o="less"):KTD.inKeys o TL=false/\KTD.inKeys o TB=true/\j4 o TB=2:=by rcases h with rfl | rfl | rfl | rfl <;> decide +kernel
theorem xm:KTD.inKeys ("pick":Str) TL=false/\KTD.inKeys ("pick":Str) TB=true/\j4 ("pick":Str) TB=3:=by decide +kernel
theorem zx:KTD.inKeys ("num":Str) TL=true/\KTD.inKeys ("num":Str) TB=false/\j4 ("num":Str) TL=9999:=by decide +kernel
theorem zw:KTD.inKeys ("arg":Str) TL=true/\KTD.inKeys ("arg":Str) TB=false/\j4 ("arg":Str) TL=3:=by decide +kernel
variable {r:List D}
theorem nI {k:Str} (h:KTD.inKeys k TL=true):dm (.tup (.str k::r))=(decide ((r.length:Int)+1=2) && cG (r.getD 0 .non) 0 (j4 k TL)):=by unfold dm;dsimp only;rw [if_pos h]
theorem nH {k:Str} (h:KTD.inKeys k TL=false):dm (.tup (.str k::r))=(KTD.inKeys k TB && decide ((r.length:Int)+1=1+j4 k TB)):=by unfold dm;dsimp only;rw [if_neg (by rw [h];exact Bool.false_ne_true)]
theorem sH {k:Str} (h:KTD.inKeys k TB=true):bZ (.tup (.str k::r))=r:=by unfold bZ;dsimp only;rw [if_pos h]
theorem lj {k:Str} (h:KTD.inKeys k TB=false):bZ (.tup (.str k::r))=[]:=by unfold bZ;dsimp only;rw [if_neg (by rw [h];exact Bool.false_ne_true)]
theorem kq:∀ t:Tr,okT t->dm (toD t)=true/\bZ (toD t)=(bQ t).map toD
 | .num n,h=>by obtain ⟨h1,h2,h3⟩:=zx;refine ⟨?_,lj h2⟩;unfold toD;rw [nI h1,h3];show (decide ((1:Int)+1=2) && (decide (0<=n) && decide (n<=9999)))=true;simp [h.1,h.2]
 | .arg n,h=>by obtain ⟨h1,h2,h3⟩:=zw;refine ⟨?_,lj h2⟩;unfold toD;rw [nI h1,h3];show (decide ((1:Int)+1=2) && (decide (0<=n) && decide (n<=3)))=true;simp [h.1,h.2]
 | .two o a b,h=>by obtain ⟨h1,h2,h3⟩:=zy h.1;refine ⟨?_,sH h2⟩;unfold toD;rw [nH h1,h2,h3];rfl
 | .pick a b c,h=>by obtain ⟨h1,h2,h3⟩:=xm;refine ⟨?_,sH h2⟩;unfold toD;rw [nH h1,h2,h3];rfl
def jP:Nat->List (D × Int)->Int->Bool
 | 0,_,_=>false
 | _+1,[],_=>true
 | n+1,(d,dp)::st,p=>if (decide (40 < p+1) || (decide (8 < dp) || !dm d))=true then false else jP n (((bZ d).map λx=>(x,dp+1)).reverse++st) (p+1)
def fR (d:D):Bool:=jP 50 [(d,1)] 0
theorem jB {n:Nat} {d:D} {dp:Int} {st:List (D × Int)} {p:Int} (h1:p+1<=40) (h2:dp<=8) (h3:dm d=true):jP (n+1) ((d,dp)::st) p=jP n (((bZ d).map λx=>(x,dp+1)).reverse++st) (p+1):=by show (if _=true then false else _)=_;rw [if_neg];simp [h3];omega
theorem gD:∀ (t:Tr),okT t->∀ (n:Nat) (dp:Int) (st:List (D × Int)) (p:Int),(aS t:Int)+dp<=9->p+(aR t:Int)<=40->jP (n+aR t) ((toD t,dp)::st) p=jP n st (p+aR t)
 | .num m,h,n,dp,st,p,h1,h2=>by obtain ⟨e1,e2⟩:=kq (.num m) h;simp only [aS,aR] at h1 h2 ⊢;rw [jB (by omega) (by omega) e1,e2];rfl
 | .arg m,h,n,dp,st,p,h1,h2=>by obtain ⟨e1,e2⟩:=kq (.arg m) h;simp only [aS,aR] at h1 h2 ⊢;rw [jB (by omega) (by omega) e1,e2];rfl
 | .two o a b,h,n,dp,st,p,h1,h2=>by
  obtain ⟨e1,e2⟩:=kq (.two o a b) h;have d1:=ie a;simp only [aS,aR] at h1 h2 ⊢;have g1:(aS a:Int)+(dp+1)<=9:=by omega
  have g2:(aS b:Int)+(dp+1)<=9:=by omega
  rw [show n+(aR a+aR b+1)=(n+aR a+aR b)+1 by omega,jB (by omega) (by omega) e1,e2];show jP (n+aR a+aR b) ((toD b,dp+1)::(toD a,dp+1)::st) (p+1)=_;rw [gD b h.2.2 (n+aR a) (dp+1) ((toD a,dp+1)::st) (p+1) g2 (by omega),gD a h.2.1 n (dp+1) st _ g1 (by omega)];congr 1;omega
 | .pick a b c,h,n,dp,st,p,h1,h2=>by
  obtain ⟨e1,e2⟩:=kq (.pick a b c) h;have d1:=ie a;simp only [aS,aR] at h1 h2 ⊢;have g1:(aS a:Int)+(dp+1)<=9:=by omega
  have g2:(aS b:Int)+(dp+1)<=9:=by omega
  have g3:(aS c:Int)+(dp+1)<=9:=by omega
  rw [show n+(aR a+aR b+aR c+1)=(n+aR a+aR b+aR c)+1 by omega,jB (by omega) (by omega) e1,e2];show jP (n+aR a+aR b+aR c) ((toD c,dp+1)::(toD b,dp+1)::(toD a,dp+1)::st) (p+1)=_;rw [gD c h.2.2 (n+aR a+aR b) (dp+1) _ (p+1) g3 (by omega),gD b h.2.1 (n+aR a) (dp+1) _ _ g2 (by omega),gD a h.1 n (dp+1) st _ g1 (by omega)];congr 1;omega
theorem rR {t:Tr} (h:okT t) (h1:aS t<=8) (h2:aR t<=40):fR (toD t)=true:=by
 have q:=gD t h (50 - aR t) 1 [] 0 (by omega) (by omega);rw [show 50 - aR t+aR t=50 by omega] at q;unfold fR;rw [q];obtain ⟨m,e⟩:∃ m,50 - aR t=m+1:=⟨50 - aR t - 1,by omega⟩
 rw [e];rfl
section
variable {P:Program} {w:World} {K:W.Frag} {mg:Str->Option Value} {base:Heap} {k:Nat}
def mu2 (σ:L2.St) (_:Hp):Nat:=match σ[2]? with
 | some (some (V.int p))=>(50 - p).toNat
 | _=>0
def vv (ds:List D) (d:D):Prop:=∃ x,ds=[x]/\d=.bl (fR x)
abbrev pr (x:D × Int):D:=.tup [x.1,.int x.2]
variable {H:Hp}
theorem o8 {K:W.Frag} {b:D}:∀ {as:List D} {vs:List V},Dats K H (as++[b]) vs->∃ us v,vs=us++[v]/\Dats K H as us/\Dat K H b v
 | [],vs,h=>by obtain ⟨v,e,q⟩:=gW h;exact ⟨[],v,e,Dats.nil,q⟩
 | a::as,vs,h=>by obtain ⟨u,r,e,h1,h2⟩:=h.consE;obtain ⟨us,v,e2,h3,h4⟩:=o8 h2;subst e2 e;exact ⟨u::us,v,rfl,Dats.cons h1 h3,h4⟩
theorem Cu (k:Str):j4 k TB<=3:=by
 unfold j4;split
 ·rename_i i e;simp only [TB,KTD.datumAt] at e
  repeat' split at e
  all_goals first
   | (cases e;decide)
   | cases e
 ·decide
variable {d:D}
theorem nA (h:dm d=true):(bZ d).length<=3:=by
 unfold dm at h;split at h
 ·rename_i k r;unfold bZ;dsimp only;split
  ·rename_i hb;split at h
   ·rw [Bool.and_eq_true] at h;have z:=of_decide_eq_true h.1;omega
   ·rw [Bool.and_eq_true] at h;have z:=of_decide_eq_true h.2;have z2:=Cu k;omega
  ·exact Nat.zero_le _
 ·cases h
theorem nJ (h:dm d=true):∃ k r,d=.tup (.str k::r):=by
 unfold dm at h;split at h
 ·exact ⟨_,_,rfl⟩
 ·cases h
theorem uL (T:Txt P w K mg) (Ig:Ok P w base k T.Hb (spD K ya)) (FN:Ok P w base k T.Fz (spD K gy)):Ok P w base (k+1) T.HS (spD K vv):=by
 refine T.HS.f.ok sc_is_tree (λvs H Q E h=>?_) (λcdv A outer s H vs Q E hr h=>?_)
 ·obtain ⟨ds,d,hd,⟨x,rfl,rfl⟩,_⟩:=h;exact hd.length.symm
 have nd:=sc_is_tree.nd;obtain ⟨ds,d,hd,⟨x,rfl,rfl⟩,post⟩:=h;obtain ⟨v0,rfl,h0⟩:=gW hd;refine ⟨_,(ao (bo (i:=1) nd rfl (Or.inl rfl) (bh (ag (aU (ag (pv 0) (ag aj af))) af)))
 (ao (bo (i:=2) nd rfl (Or.inl rfl) aj)
 (ao (tM PassesOwn.never (bg (pv 1) (λ_=>rfl)) (ao (fC (lF F.plainAttrs_list F.slot_list_pop F.type_list_pop lA (pv 1)) (fe rfl (a8 (aQ (i:=3) nd rfl (Or.inl rfl)) (a8 (aQ (i:=4) nd rfl (Or.inr rfl)) cu))))
 (ao (zO (i:=2) nd rfl (Or.inl rfl) aj uy)
 (ao (a7 (PW.pt (cO (aC iN (pv 2) (bL (v:=.int 40) rfl T.Gp ⟨_,rfl⟩) (aJ _)) (cO (aC iN (pv 4) (bL (v:=.int 8) rfl T.Gy ⟨_,rfl⟩) (aJ _)) (cP (bP (bg (pc (D:=T.Hb) Ig hr (ag (pv 3) af)) (λ_=>rfl))))))) (au (aF ck)) aL)
 (au (bu (dk F.plainAttrs_list F.slot_list_extend F.type_list_extend ip (pv 1) (ag (cq (own:=["within"]) (fr:=[4]) (N':=["within","deep"]) (iF (pc (D:=T.Fz) FN hr (ag (pv 3) af))) rfl (by show bW ["thing","waiting","parts","part","deep"] (λx=>(aD lR).names.lookup x) _ _ _ _=true;decide +kernel) rfl (λ_ _ _ _ _=>(aQ (i:=0) (by show List.Nodup [("within":Str),("deep":Str)];decide +kernel) rfl (Or.inl rfl))) (λ_ _ _ _ _=>bN) (λ_ _ _ _ _=>(aU (ag (pv 0) (ag (ba cX (pv 1) aj) af))))) af))))))))
 (au (aF ck))))),?_⟩
 refine c6 (uX (K:=K) (ae (aZ (ae (ab h0) (ae ak aA))) aA) λwl vs1 H1 s1 hw q1=>?_);have hw0:H wl=none:=s1.free hw;have s1':Same H (upd H1 wl (.lst vs1)):=s1.trans (aG hw _)
 refine c6 (wD (cf (uf (λσ G=>∃ (st:List (D × Int)) (p:Int) (n:Nat) (xs:List V) (z3 z4:Option V),σ=[some v0,some (.ref wl),some (.int p),z3,z4]/\G wl=some (.lst xs)/\Dats K G (st.reverse.map pr) xs/\Same H G/\jP n st p=fR x/\0<=p/\p<=40/\(n:Int)=50 - p/\(xs.length:Int)<=1+3 * p)
  mu2 ?_ ?_ ?_)))
 ·refine ⟨[(x,1)],0,50,vs1,none,none,rfl,aq,(aG hw _).dats q1,s1',rfl,by decide,by decide,by decide,?_⟩;rw [<- q1.length];simp
 ·rintro σ G ⟨st,p,n,xs,z3,z4,rfl,hG,hd,sG,lp,p0,p1,en,lx⟩;refine ⟨_,rfl,!xs.isEmpty,.inl ⟨xs,SqL.of hG,rfl⟩,?_⟩
  cases st with
  | nil =>
   have ex:=hd.nilE;subst ex;rw [if_neg (by simp)];obtain ⟨m,rfl⟩:∃ m,n=m+1:=⟨n - 1,by omega⟩
   have lp':fR x=true:=lp.symm;refine post _ _ sG ?_;rw [lp'];exact Dat.blI _
  | cons e st =>
   obtain ⟨y,dp⟩:=e;rw [List.reverse_cons,List.map_append] at hd;obtain ⟨us,v,ex,hu,hv⟩:=o8 hd;subst ex;obtain ⟨a,ws,ev,hq,hws⟩:=hv.tupE;obtain ⟨vy,vd,ew,hy,hdp⟩:=fW hws;have edp:=hdp.intE;subst edp ew ev;rw [if_pos (by simp)];refine ⟨_,rfl,.inl ⟨rfl,_,SqL.of hG⟩,wl,us++[.ref a],.ref a,rfl,rfl,hG,(by simp),?_⟩;rw [List.dropLast_concat];have bt:But wl G (upd G wl (.lst us)):=But.upd (Same.refl G).but;have g2:dH K G (upd G wl (.lst us)):=bt.grow hG aq;refine ⟨a,[vy,.int dp],rfl,bt.sqT hG hq,rfl,vy,_,rfl,.int dp,_,rfl,rfl,?_⟩;have s2:Same H (upd G wl (.lst us)):=λb o hb=>bt b o (aB hb hw0) (sG b o hb);have hy2:=Dat.mono g2 _ hy;have hu2:=Dats.mono g2 _ hu;refine ⟨_,rfl,p,1,rfl,rfl,?_⟩;dsimp only;refine aH (K:=K) (b:=decide (40 < p+1) || (decide (8 < dp) || !dm y)) ?_ (λc H3 s3=>?_) (λc H3 s3=>?_)
   ·exact bJ (ay (bT (ab (K:=K) (Dat.intI (p+1))) ak)) λ_=>bJ (ay (bT (ab (K:=K) (Dat.intI dp)) ak)) λ_=>bj (aW (a9 (ae (ab hy2) aA) ⟨y,rfl,rfl⟩))
   ·refine post _ _ (s2.trans s3) ?_;obtain ⟨m,rfl⟩:∃ m,n=m+1:=⟨n - 1,by omega⟩
    have lp':fR x=false:=by rw [<- lp];show (if (decide (40 < p+1) || (decide (8 < dp) || !dm y))=true then false else _)=false;rw [if_pos c]
    rw [lp'];exact Dat.blI _
   ·obtain ⟨m,rfl⟩:∃ m,n=m+1:=⟨n - 1,by omega⟩
    have lp':jP m (((bZ y).map λx=>(x,dp+1)).reverse++st) (p+1)=fR x:=by
     rw [<- lp];show _=(if (decide (40 < p+1) || (decide (8 < dp) || !dm y))=true then false else _)
     rw [if_neg (by rw [c];exact Bool.false_ne_true)]
    simp only [Bool.or_eq_false_iff,decide_eq_false_iff_not,Bool.not_eq_false'] at c;obtain ⟨c1,c2,c3⟩:=c;obtain ⟨kd,r,ey⟩:=nJ c3;have few:=nA c3;have hw3:=s3 _ _ (show upd G wl (.lst us) wl=some (.lst us) from aq);refine ⟨_,rfl,.inl ⟨rfl,_,SqL.of hw3⟩,?_⟩;refine pM (K:=K) (cs:=bZ y) (a9 (R:=gy) (ae (ab (s3.dat hy2)) aA) ⟨kd,r,by rw [ey],by rw [ey]⟩) (by omega) ((bZ y).map λz=>pr (z,dp+1)) (List.length_map _) rfl (λH4 i z vz d s4 hz hi hvz=>?_) (λl ys H5 hl s5 hl5 hd5=>?_)
    ·rw [List.getElem?_map,hz] at hi;cases hi;exact aZ (ae (ab hvz) (ae (d6 (ab (Dat.intI dp)) ak) aA))
    ·have hw5:=s5 _ _ hw3;have ly:ys.length=(bZ y).length:=by rw [<- hd5.length,List.length_map]
     have lu:us.length=st.length:=by rw [<- hu.length,List.length_map,List.length_reverse]
     rw [List.length_append,List.length_singleton] at lx;have b5:But wl H5 (upd H5 wl (.lst (us++ys))):=But.upd (Same.refl H5).but;have g5:dH K H5 (upd H5 wl (.lst (us++ys))):=b5.grow hw5 aq;refine ⟨wl,l,us,ys,rfl,rfl,hw5,hl5,bU (by omega),?_⟩;refine ⟨⟨_,p+1,m,us++ys,_,_,rfl,aq,?_,?_,lp',by omega,by omega,by omega,?_⟩,?_⟩
     ·rw [List.reverse_append,List.reverse_reverse,List.map_append,List.map_map];exact Dats.append (Dats.mono g5 _ ((s3.trans s5).dats hu2)) (Dats.mono g5 _ hd5)
     ·exact λb o hb=>b5 b o (aB hb hw0) (s5 _ _ (s3 _ _ (s2 _ _ hb)))
     ·rw [List.length_append];omega
     ·show (50 - (p+1)).toNat < (50 - p).toNat;omega
 ·intro σ G Q1 Q2 hQ hc;obtain ⟨v,e,k',tr,q⟩:=hc;exact ⟨v,e,k',tr,hQ _ _ q⟩
theorem rd (T:Txt P w K mg) (Jt:Ok P w base k T.HS (spD K vv)):Ok P w base (k+1) T.F4 (spD K λds d=>∃ x,ds=[x]/\fR x=true/\d=.non):=by
 refine T.F4.f.ok sc_need_tree (λvs H Q E h=>?_) (λcdv A outer s H vs Q E hr h=>?_)
 ·obtain ⟨ds,d,hd,⟨x,rfl,_,rfl⟩,_⟩:=h;exact hd.length.symm
 have nd:=sc_need_tree.nd;obtain ⟨ds,d,hd,⟨x,rfl,hx,rfl⟩,post⟩:=h;obtain ⟨v0,rfl,h0⟩:=gW hd;refine ⟨_,(au (a7 (bP (bg (pc (D:=T.HS) Jt hr (ag (pv 0) af)) (λ_=>rfl))) (au ir) aL)),?_⟩;refine gh (b:=!fR x) (bj (aW (a9 (ae (ab h0) aA) ⟨x,rfl,rfl⟩))) (λc H1 s1=>?_) (λc H1 s1=>?_)
 ·rw [hx] at c;cases c
 ·exact post _ _ s1 Dat.nonI
def kU (n:Nat) (ds es:List D):Prop:=∃ t,ds=[toD t]/\okT t/\aS t<=n/\aR t<=200/\es=(aV t).map toD
theorem e9 (t:Tr):aV t=t::(bQ t).flatMap aV:=by cases t <;> simp [aV,bQ]
variable {t x:Tr}
theorem Bv (h:okT t) (hx:x ∈ bQ t):okT x/\aS x+1<=aS t/\aR x+1<=aR t:=by
 cases t with
 | num n=>simp [bQ] at hx
 | arg n=>simp [bQ] at hx
 | two o a b =>
  simp only [bQ,List.mem_cons,List.not_mem_nil,or_false] at hx;rcases hx with rfl | rfl
  ·exact ⟨h.2.1,by simp only [aS];omega,by simp only [aR];omega⟩
  ·exact ⟨h.2.2,by simp only [aS];omega,by simp only [aR];omega⟩
 | pick a b c =>
  simp only [bQ,List.mem_cons,List.not_mem_nil,or_false] at hx;rcases hx with rfl | rfl | rfl
  ·exact ⟨h.1,by simp only [aS];omega,by simp only [aR];omega⟩
  ·exact ⟨h.2.1,by simp only [aS];omega,by simp only [aR];omega⟩
  ·exact ⟨h.2.2,by simp only [aS];omega,by simp only [aR];omega⟩
def t7 (t:Tr) (i:Nat):List Tr:=t::((bQ t).take i).flatMap aV
variable {i:Nat}
theorem xP (h:(bQ t)[i]?=some x):t7 t (i+1)=t7 t i++aV x:=by unfold t7;rw [List.take_add_one,h];simp
theorem AL (t:Tr):t7 t (bQ t).length=aV t:=by unfold t7;rw [List.take_length,e9]
theorem Ct (t:Tr) (i:Nat):(t7 t i).length<=aR t:=by
 rw [<- bB t,e9];unfold t7;rw [List.length_cons,List.length_cons]
 have h:((bQ t).take i).flatMap aV++((bQ t).drop i).flatMap aV=(bQ t).flatMap aV:=by rw [<- List.flatMap_append,List.take_append_drop]
 have h2:=congrArg List.length h;rw [List.length_append] at h2;omega
theorem Cr (t:Tr):∃ kd r,toD t=.tup (.str kd::r):=by cases t <;> exact ⟨_,_,rfl⟩
variable {n:Nat}
theorem xq (T:Txt P w K mg) (FN:Ok P w base k T.Fz (spD K gy)) (Iu:Ok P w base k T.Hm (hV K (kU n))):Ok P w base (k+1) T.Hm (hV K (kU (n+1))):=by
 refine T.Hm.f.ok sc_walked (λvs H Q E h=>?_) (λcdv A outer s H vs Q E hr h=>?_)
 ·obtain ⟨ds,es,hd,⟨t,rfl,_⟩,_⟩:=h;exact hd.length.symm
 have nd:=sc_walked.nd;obtain ⟨ds,es,hd,⟨t,rfl,ht,hn,hz,rfl⟩,post⟩:=h;obtain ⟨v0,rfl,h0⟩:=gW hd;refine ⟨_,(ao (bo (i:=1) nd rfl (Or.inl rfl) (bh (ag (pv 0) af)))
 (ao (gu PassesOwn.never rfl (iF (pc (D:=T.Fz) FN hr (ag (pv 0) af))) (aQ (i:=2) nd rfl (Or.inl rfl)) (au (bu (dk F.plainAttrs_list F.slot_list_extend F.type_list_extend ip (pv 1) (ag (pc (D:=T.Hm) Iu hr (ag (pv 2) af)) af)))))
 (au (aF (pv 1))))),?_⟩
 refine c6 (uX (K:=K) (ae (ab h0) aA) λwl vs1 H1 s1 hw q1=>?_);have hw0:H wl=none:=s1.free hw;have s1':Same H (upd H1 wl (.lst vs1)):=s1.trans (aG hw _);obtain ⟨kd,r,ek⟩:=Cr t;refine cf (RE.use (a9 (R:=gy) (d:=.tup (bZ (toD t))) (ae (ab (K:=K) (k:=0) (s1'.dat h0)) aA) ⟨kd,r,by rw [ek],by rw [ek]⟩) λv4 H4 s4 q4=>?_);rw [(kq t ht).2] at q4;obtain ⟨a,vs,ea,hq,hds⟩:=q4.tupE;subst ea;have hl:=hds.length;rw [List.length_map] at hl;refine ⟨a,rfl,⟨vs,hq⟩,qB (xs:=vs) (λi σ G=>∃ (z:Option V) (ys:List V),σ=[some v0,some (.ref wl),z]/\Same H G/\SqT K G a vs/\Dats K G ((bQ t).map toD) vs/\G wl=some (.lst ys)/\Dats K G ((t7 t i).map toD) ys) ?_ (λi σ G _ ⟨z,ys,_,_,p,_⟩=>p) ?_ ?_⟩
 ·exact ⟨none,vs1,rfl,s1'.trans s4,hq,hds,s4 _ _ aq,(show Dats K H4 ([t].map toD) vs1 from ((aG hw _).trans s4).dats q1)⟩
 ·rintro i vx σ G hi ⟨z,ys,rfl,sG,hqG,hdG,hwG,hyG⟩;obtain ⟨dx,ex,hx⟩:=hdG.getV hi;rw [List.getElem?_map] at ex
  cases hk:(bQ t)[i]? with
  | none=>rw [hk] at ex;cases ex
  | some x =>
   rw [hk] at ex;cases ex;obtain ⟨k1,k2,k3⟩:=Bv ht (List.mem_of_getElem? hk);refine ⟨_,rfl,.inl ⟨rfl,_,SqL.of hwG⟩,_,rfl,[toD x],_,(Dats.cons hx Dats.nil:Dats K G [toD x] [vx]),⟨x,rfl,k1,by omega,by omega,rfl⟩,λr us H5 s5 hr5 _ hd5=>?_⟩;have hw5:=s5 _ _ hwG;have b6:But wl H5 (upd H5 wl (.lst (ys++us))):=But.upd (Same.refl H5).but;have g6:dH K H5 (upd H5 wl (.lst (ys++us))):=b6.grow hw5 aq;have ly:ys.length<=aR t:=by rw [<- hyG.length,List.length_map];exact Ct t i
   have lu:us.length=aR x:=by rw [<- hd5.length,List.length_map,bB]
   refine ⟨wl,r,ys,us,rfl,rfl,hw5,hr5,bU (by omega),some vx,ys++us,rfl,λb o hb=>b6 b o (aB hb hw0) (s5 _ _ (sG _ _ hb)),g6.tup _ _ (s5.sqT hqG),Dats.mono g6 _ (s5.dats hdG),aq,?_⟩;rw [xP hk,List.map_append];exact Dats.append (Dats.mono g6 _ (s5.dats hyG)) (Dats.mono g6 _ hd5)
 ·rintro σ G ⟨z,ys,rfl,sG,hqG,hdG,hwG,hyG⟩;refine ⟨_,rfl,post wl ys G sG hwG hw0 ?_⟩;rw [<- hl,AL] at hyG;exact hyG
def oC (K:W.Frag) (n:Nat):Sp:=λvs H Q _=>∃ (a t:Addr) (ns:List Int) (room p q c:Int),vs=[.ref a,.ref t,.int room]/\Scr K H a ns/\H t=some (.lst [.int p,.int q,.int c])/\0<=p/\0<=c/\c<=60/\room<=n/\1<=n /\
 ∀ (v:V) (H':Hp) (X:Tr) (p' q' c':Int),But t H H'->H' t=some (.lst [.int p',.int q',.int c'])->0<=p'->0<=c'->c'<=c->okT X->((aS X:Int)=1\/(aS X:Int)<=room)->(aR X:Int)<=1+3 * (c - c')->Dat K H' (toD X) v->Q v H'
def tY (Ts:List Tr):Nat:=(Ts.map aR).sum
theorem xM (Ts:List Tr) (x:Tr):tY (Ts++[x])=tY Ts+aR x:=by simp [tY]
def CD:Tr->Prop
 | .num n=>0<=n/\n<=9999
 | .arg k=>0<=k/\k<=3
 | _=>False
theorem Bz (h:CD x):okT x/\aS x=1/\aR x=1:=by
 cases x with
 | num n=>exact ⟨h,rfl,rfl⟩
 | arg n=>exact ⟨h,rfl,rfl⟩
 | two o a b=>exact h.elim
 | pick a b c=>exact h.elim
variable {nm:Str}
theorem AC {Ts:List Tr} {room:Int} (hr:2<=room) (ok:∀ x ∈ Ts,okT x/\((aS x:Int)=1\/(aS x:Int)<=room - 1)) (h:(nm="pick"/\Ts.length=3)\/((nm="add"\/nm="sub"\/nm="mul"\/nm="less")/\Ts.length=2)) :
  ∃ X:Tr,toD X=.tup (.str nm::Ts.map toD)/\okT X/\(aS X:Int)<=room/\aR X=1+tY Ts:=by
 rcases h with ⟨rfl,hl⟩ | ⟨hn,hl⟩
 ·match Ts,hl with
  | [a,b,c],_ =>
   have h1:=ok a (by simp);have h2:=ok b (by simp);have h3:=ok c (by simp);refine ⟨.pick a b c,rfl,⟨h1.1,h2.1,h3.1⟩,?_,?_⟩
   ·simp only [aS];omega
   ·simp [aR,tY];omega
 ·match Ts,hl with
  | [a,b],_ =>
   have h1:=ok a (by simp);have h2:=ok b (by simp);refine ⟨.two nm a b,rfl,⟨hn,h1.1,h2.1⟩,?_,?_⟩
   ·simp only [aS];omega
   ·simp [aR,tY];omega
theorem qW (T:Txt P w K mg) (FV:Ok P w base k T.FD (oA K)) (F2:Ok P w base k T.FI (oB K)) (HH:Ok P w base k T.Gj (oC K n)):Ok P w base (k+1) T.Gj (oC K (n+1)):=by
 refine T.Gj.f.ok sc__law_tree (λvs H Q E h=>?_) (λcdv A outer s H vs Q E hr h=>?_)
 ·obtain ⟨a,t,ns,room,p,q,c,rfl,_⟩:=h;rfl
 have nd:=sc__law_tree.nd;obtain ⟨a,t,ns,room,p,q,c,rfl,hS,hT,hp,hc,hc2,hroom,_,post⟩:=h;refine ⟨_,(ao (bo (i:=3) nd rfl (Or.inl rfl) (aU (ag aE (ag (pc (D:=T.FD) FV hr (ag (pv 0) (ag (pv 1) (ag aj af)))) af))))
 (ao (a7 (aC bz (pc (D:=T.FD) FV hr (ag (pv 0) (ag (pv 1) (ag aj af)))) aj (aJ _)) (au (bo (i:=3) nd rfl (Or.inl rfl) (aU (ag aE (ag (pc (D:=T.FI) F2 hr (ag (pv 0) (ag (pv 1) (ag (bh (ag aj (ag aj (ag aj (ag aj (ag aj (ag aj (ag aj (ag aj af))))))))) af)))) af))))) aL)
 (ao (a7 (PW.pt (cO (aC jg (pv 2) aj (aJ _)) (cO (aC jg (aI bf (pv 1) aj) aj (aJ _)) (cP (aC bz (pc (D:=T.FD) FV hr (ag (pv 0) (ag (pv 1) (ag aj af)))) aj (aJ _)))))) (au (aF (pv 3))) aL)
 (ao (wg (pv 1) aj sC aj Dy kP)
 (ao (bo (i:=4) nd rfl (Or.inl rfl) (pc (D:=T.FI) F2 hr (ag (pv 0) (ag (pv 1) (ag (bh (ag aE (ag aE (ag aE (ag aE (ag aE (ag aE af))))))) af)))))
 (ao (bo (i:=5) nd rfl (Or.inl rfl) (dQ (aC bz (pv 4) aE (aJ _)) aj aj))
 (au (aF (ba BL (aU (ag (pv 4) af)) (cI bV rfl T.FT cg (ag (cq (own:=["_law_k"]) (fr:=[0,1,2]) (N':=["_law_k","_law_script","_law_town","_law_room"]) (jD rfl T.HN (ag (pv 5) af)) rfl (by show bW ["_law_script","_law_town","_law_room","_law_leaf","_law_name","_law_many"] (λx=>(aD jq).names.lookup x) _ _ _ _=true;decide +kernel) rfl (λ_ _ _ _ _=>(aQ (i:=0) (by show List.Nodup [("_law_k":Str),("_law_script":Str),("_law_town":Str),("_law_room":Str)];decide +kernel) rfl (Or.inl rfl))) (λ_ _ _ _ _=>bN) (λ_ _ _ _ _=>(pc (D:=T.Gj) HH hr (ag (pv 1) (ag (pv 2) (ag (ba rn (pv 3) aj) af)))))) af))))))))))),?_⟩
 refine c6 ⟨_,rfl,_,rfl,a,t,ns,4,p,q,[.int c],rfl,hS,hT,hp,by decide,by decide,λr1 H1 p1 q1 b1 t1 g1 r1a r1b=>⟨bU (by simp),λl1 hl1=>?_⟩⟩;have ne1:l1≠t:=λz=>by rw [z,t1] at hl1;cases hl1
 have b2:=b1.trans (aG hl1 (.tup [.str "arg",.int r1])).but;have t2:upd H1 l1 (.tup [.str "arg",.int r1]) t=some (.lst [.int p1,.int q1,.int c]):=by rw [aO (Ne.symm ne1)];exact t1
 have d2:Dat K (upd H1 l1 (.tup [.str "arg",.int r1])) (toD (.arg r1)) (.ref l1):=Dat.tupI (SqT.of aq) (Dats.cons (Dat.strI _) (Dats.cons (Dat.intI _) Dats.nil));refine mO (λσ G=>∃ (vL:V) (L:Tr) (p q:Int),σ=[some (.ref a),some (.ref t),some (.int room),some vL,none,none]/\But t H G/\G t=some (.lst [.int p,.int q,.int c])/\0<=p/\CD L/\Dat K G (toD L) vL) ?_ (λhrest=>?_)
 case refine_2 =>
  refine ⟨_,rfl,_,rfl,a,t,ns,2,p1,q1,[.int c],rfl,hS.but b2 hT,t2,g1,by decide,by decide,λr3 H3 p3 q3 b3 t3 g3 r3a r3b=>?_⟩;refine ⟨rfl,_,rfl,?_⟩;refine oO (λcc=>?_) (λcc=>?_)
  ·refine ⟨_,rfl,_,rfl,bU (by decide),λl hl=>?_⟩;have nel:l≠t:=λz=>by rw [z,t3] at hl;cases hl
   have b4:=(b2.trans b3).trans (aG hl (.lst [.int 0,.int 1,.int 2,.int 5,.int 99,.int 100,.int 1234,.int 9999])).but;refine ⟨a,t,l,ns,_,p3,q3,[.int c],rfl,hS.but b4 hT,SqL.of aq,nel,by decide,by decide,(by rw [aO (Ne.symm nel)];exact t3),g3,λi x H5 p5 q5 b5 t5 g5 hx=>⟨bU (by simp),λl6 hl6=>?_⟩⟩;have ne6:l6≠t:=λz=>by rw [z,t5] at hl6;cases hl6
   obtain ⟨m,em,hm⟩:∃ m:Int,x=.int m/\0<=m/\m<=9999:=by have:=List.mem_of_getElem? hx;simp only [List.mem_cons,List.not_mem_nil,or_false] at this;rcases this with e | e | e | e | e | e | e | e <;> exact ⟨_,e,by decide,by decide⟩
   subst em;exact hrest _ _ ⟨.ref l6,.num m,p5,q5,rfl,(b4.trans b5).trans (aG hl6 _).but,(by rw [aO (Ne.symm ne6)];exact t5),g5,hm,Dat.tupI (SqT.of aq) (Dats.cons (Dat.strI _) (Dats.cons (Dat.intI _) Dats.nil))⟩
  ·exact hrest _ _ ⟨.ref l1,.arg r1,p3,q3,rfl,b2.trans b3,t3,g3,⟨r1a,by omega⟩,Dat.mono (b3.grow t2 t3) _ d2⟩
 rintro σ G ⟨vL,L,p,q,rfl,bG,tG,hp,hL,dL⟩;obtain ⟨okL,dpL,szL⟩:=Bz hL
 have back:∀ (G':Hp) (p' q':Int),But t G G'->G' t=some (.lst [.int p',.int q',.int c])->0<=p'->Q vL G':=λG' p' q' b' t' g' =>
  post vL G' L p' q' c (bG.trans b') t' g' hc (Int.le_refl _) okL (.inl (by omega)) (by omega) (Dat.mono (b'.grow tG t') _ dL)
 refine cf ⟨_,rfl,room,2,rfl,rfl,_,rfl,?_⟩;refine oO (λc1=>?_) (λc1=>?_)
 ·exact ⟨_,rfl,back G p q (Same.refl G).but tG hp⟩
 have c1':¬ room < 2:=of_decide_eq_false (Bool.eq_false_iff.mpr c1);refine ⟨_,rfl,t,_,2,_,rfl,rfl,SqL.of tG,at2,c,1,rfl,rfl,_,rfl,?_⟩;refine oO (λc2=>?_) (λc2=>?_)
 ·exact ⟨_,rfl,back G p q (Same.refl G).but tG hp⟩
 have c2':¬ c < 1:=of_decide_eq_false (Bool.eq_false_iff.mpr c2);refine ⟨_,rfl,_,rfl,a,t,ns,4,p,q,[.int c],rfl,hS.but bG hT,tG,hp,by decide,by decide,λr3 H3 p3 q3 b3 t3 g3 r3a r3b=>?_⟩;refine ⟨rfl,_,rfl,?_⟩;refine oO (λc3=>?_) (λc3=>?_)
 ·exact ⟨_,rfl,back H3 p3 q3 b3 t3 g3⟩
 refine ⟨_,rfl,t,_,2,_,rfl,rfl,(by decide),SqL.of t3,rfl,c,1,rfl,rfl,t,_,2,2,rfl,rfl,t3,ix2,?_⟩;have b4:But t H (upd H3 t (.lst [.int p3,.int q3,.int (c - 1)])):=But.upd (bG.trans b3);refine ⟨_,rfl,_,rfl,bU (by decide),λl hl=>?_⟩;have nel:l≠t:=λz=>by rw [z,aq] at hl;cases hl
 have b5:=b4.trans (aG hl (.lst [.str "add",.str "add",.str "sub",.str "mul",.str "less",.str "pick"])).but;refine ⟨a,t,l,ns,_,p3,q3,[.int (c - 1)],rfl,hS.but b5 hT,SqL.of aq,nel,by decide,by decide,(by rw [aO (Ne.symm nel)];exact aq),g3,λi x H5 p5 q5 b6 t5 g5 hx=>?_⟩;have bH:=b5.trans b6
 obtain ⟨nm,en,hnm⟩:∃ nm:Str,x=.str nm/\(nm="pick"\/(nm="add"\/nm="sub"\/nm="mul"\/nm="less")):=by
  have:=List.mem_of_getElem? hx;simp only [List.mem_cons,List.not_mem_nil,or_false] at this;rcases this with e | e | e | e | e | e
  ·exact ⟨_,e,.inr (.inl rfl)⟩
  ·exact ⟨_,e,.inr (.inl rfl)⟩
  ·exact ⟨_,e,.inr (.inr (.inl rfl))⟩
  ·exact ⟨_,e,.inr (.inr (.inr (.inl rfl)))⟩
  ·exact ⟨_,e,.inr (.inr (.inr (.inr rfl)))⟩
  ·exact ⟨_,e,.inl rfl⟩
 subst en
 obtain ⟨many,hmany,hif⟩:∃ many:Nat,((nm="pick"/\many=3)\/((nm="add"\/nm="sub"\/nm="mul"\/nm="less")/\many=2))/\∀ (A B:Prop),(A->many=3->False)->True:=by
  rcases hnm with h | h
  ·exact ⟨3,.inl ⟨h,rfl⟩,λ_ _ _=>trivial⟩
  ·exact ⟨2,.inr ⟨h,rfl⟩,λ_ _ _=>trivial⟩
 clear hif;dsimp only;refine mO (λσ G=>σ=[some (.ref a),some (.ref t),some (.int room),some vL,some (.str nm),some (.int many)]/\G=H5) ?_ (λhrest=>?_)
 case refine_2 =>
  refine ⟨_,rfl,rfl,_,rfl,?_⟩;refine oO (λcc=>?_) (λcc=>?_)
  ·have e:V.str nm=V.str "pick":=of_decide_eq_true cc;injection e with e;rcases hmany with ⟨_,rfl⟩ | ⟨h,_⟩
   ·exact hrest _ _ ⟨rfl,rfl⟩
   ·subst e;exact absurd h (by decide +kernel)
  ·have e:¬ V.str nm=V.str "pick":=of_decide_eq_false (Bool.eq_false_iff.mpr cc);rcases hmany with ⟨h,_⟩ | ⟨_,rfl⟩
   ·exact absurd (by rw [h]) e
   ·exact hrest _ _ ⟨rfl,rfl⟩
 rintro σ G ⟨rfl,rfl⟩;have many_le:2<=many/\many<=3:=by rcases hmany with ⟨_,h⟩ | ⟨_,h⟩ <;> omega
 refine ⟨_,rfl,bU (by simp),λe he=>?_⟩;have nee:e≠t:=λz=>by rw [z,t5] at he;cases he
 have t6:upd G e (.tup [.str nm]) t=some (.lst [.int p5,.int q5,.int (c - 1)]):=by rw [aO (Ne.symm nee)];exact t5
 have b7:=bH.trans (aG he (.tup [.str nm])).but;dsimp only;refine f7 ?_
 refine nY many (λR hR=>⟨_,rfl,hR⟩) (by omega) rfl
  (λl i G'=>∃ (Ts:List Tr) (ys:List V) (p' q' c':Int),But t (upd G e (.tup [.str nm])) G'/\G' t=some (.lst [.int p',.int q',.int c'])/\0<=p'/\0<=c'/\c'<=c - 1/\G' l=some (.lst ys)/\Ts.length=i/\(∀ x ∈ Ts,okT x/\((aS x:Int)=1\/(aS x:Int)<=room - 1))/\(tY Ts:Int)<=i+3 * (c - 1 - c')/\Dats K G' (Ts.map toD) ys) (λl hl=>?_) (λl i G' hl hi pn=>?_) (λl G' hl pn=>?_)
 ·have nl:l≠t:=λz=>by rw [z,t6] at hl;cases hl
  exact ⟨[],[],p5,q5,c - 1,(aG hl _).but,(by rw [aO (Ne.symm nl)];exact t6),g5,by omega,Int.le_refl _,aq,rfl,(λx hx=>absurd hx (by simp)),by simp [tY],Dats.nil⟩
 ·obtain ⟨Ts,ys,p',q',c',bt,tt,gp,gc,gc2,hl',lT,okTs,sm,dT⟩:=pn;have nl:l≠t:=λz=>by rw [z,t6] at hl;cases hl
  have ly:ys.length=i:=by rw [<- dT.length,List.length_map,lT]
  refine ⟨_,rfl,_,rfl,_,rfl,room,1,rfl,rfl,a,t,ns,room - 1,p',q',c',rfl,hS.but (b7.trans bt) hT,tt,gp,gc,by omega,by omega,by omega,λv G2 X p2 q2 c2 bb t2 g2 h2 h2' okX dpX szX dX=>?_⟩;have hl2:=bb l _ nl hl';have g1:dH K G' G2:=bb.grow tt t2;have g3:dH K G2 (upd G2 l (.lst (ys++[v]))):=But.grow (t:=l) (But.upd (Same.refl G2).but) hl2 aq;refine ⟨ys,hl2,bx (by omega),⟨_,rfl⟩,Ts++[X],ys++[v],p2,q2,c2,?_,?_,g2,h2,by omega,aq,by rw [List.length_append,lT];rfl,?_,?_,?_⟩
  ·intro b o hb hbo;have nb:b≠l:=aB hbo hl;rw [aO nb];exact bb b o hb (bt b o hb hbo)
  ·rw [aO (Ne.symm nl)];exact t2
  ·intro x hx;rcases List.mem_append.mp hx with hx | hx
   ·exact okTs x hx
   ·rw [List.mem_singleton.mp hx];exact ⟨okX,dpX⟩
  ·rw [xM];omega
  ·rw [List.map_append];exact Dats.append (Dats.mono g3 _ (Dats.mono g1 _ dT)) (Dats.cons (Dat.mono g3 _ dX) Dats.nil)
 ·obtain ⟨Ts,ys,p',q',c',bt,tt,gp,gc,gc2,hl',lT,okTs,sm,dT⟩:=pn;have ly:ys.length=many:=by rw [<- dT.length,List.length_map,lT]
  refine ⟨l,ys,rfl,.inl ⟨SqL.of hl',λu hu=>?_⟩⟩;have nu:u≠t:=λz=>by rw [z,tt] at hu;cases hu
  have se:SqT K (upd G' u (.tup ys)) e [.str nm]:=(aG hu _).sqT (bt.sqT t6 (SqT.of aq));refine ⟨e,u,_,ys,rfl,rfl,se,SqT.of aq,(by simp),bU (by rw [List.length_singleton];omega),λz=>?_,λ_ x hx=>?_⟩
  ·rw [z] at ly;simp at ly;omega
  ·obtain ⟨X,eX,okX,dpX,szX⟩:=AC (nm:=nm) (Ts:=Ts) (room:=room) (by omega) okTs (hmany.elim (λh=>.inl ⟨h.1,by omega⟩) (λh=>.inr ⟨h.1,by omega⟩));have nx:x≠t:=λz=>by rw [z,aO (Ne.symm nu),tt] at hx;cases hx
   have s8:=(aG hu (.tup ys)).trans (aG hx (.tup ([.str nm]++ys)));refine post _ _ X p' q' c' ((b7.trans bt).trans s8.but) (s8 _ _ tt) gp gc (by omega) okX (.inr dpX) (by omega) ?_;rw [eX];exact Dat.tupI (SqT.of aq) (Dats.cons (Dat.strI _) (s8.dats dT))
theorem gZ {b:Bool} (h:(!b)=true):b=false:=by cases b with | true=>cases h | false=>rfl
theorem eU {b:Bool} (h:(!b)=false):b=true:=by cases b with | true=>rfl | false=>cases h
def sgn (c:Nat):Bool:=(!decide (([c]:List Nat) < ("a":Str).cps.toList)) && !decide (("z":Str).cps.toList < ([c]:List Nat))
def jf:D->Bool
 | .str x=>(decide (1<=(x.length:Int)) && decide ((x.length:Int)<=8)) && (x.cps.toList.map sgn).all id
 | _=>false
def CI:D->Prop
 | .str x=>x.length<=sizeLine
 | _=>True
def x9 (ds:List D) (d:D):Prop:=∃ x,ds=[x]/\CI x/\d=.bl (jf x)
theorem uC {x:D} (h:∀ y,x≠.str y):jY x "str"=false:=by
 cases x with
 | str y=>exact absurd rfl (h y)
 | _=>rfl
theorem zj {x:D} (h:∀ y,x≠.str y):jf x=false:=by
 cases x with
 | str y=>exact absurd rfl (h y)
 | _=>rfl
theorem uJ (T:Txt P w K mg)  : Ok P w base (k+1) T.HR (spD K x9):=by
 refine T.HR.f.ok sc_is_name (λvs H Q E h=>?_) (λcdv A outer s H vs Q E hr h=>?_)
 ·obtain ⟨ds,d,hd,⟨x,rfl,_⟩,_⟩:=h;exact hd.length.symm
 have nd:=sc_is_name.nd;obtain ⟨ds,d,hd,⟨x,rfl,hx,rfl⟩,post⟩:=h;obtain ⟨v0,rfl,h0⟩:=gW hd;refine ⟨_,(ao (a7 (PW.pt (cO (bP (bg (aP (dB yQ) rfl T.Fu bF (bM (pv 0) (bM (eB (v:=.ty "str") rfl T.Jy ym rfl) af))) (λ_=>rfl))) (cP (bP (nW iO iO aj (aP qk rfl T.Fw bq (ag (pv 0) af)) (bL (v:=.int 8) rfl T.F1 ⟨_,rfl⟩)))))) (au (aF ck)) aL)
 (au (aF (aP (h9 rfl) rfl T.Iy kX (ag (cq (own:=["sign"]) (fr:=[]) (N':=["sign"]) (DY (pv 0)) rfl (by show bW ["thing"] (λx=>(aD lQ).names.lookup x) _ _ _ _=true;decide +kernel) rfl (λ_ _ _ _ _=>(aQ (i:=0) (by show List.Nodup [("sign":Str)];decide +kernel) rfl (Or.inl rfl))) (λ_ _ _ _ _=>bN) (λ_ _ _ _ _=>(tH zB zB aE (pv 0) aE))) af))))),?_⟩
 by_cases hs:∃ y,x=.str y
 ·obtain ⟨y,rfl⟩:=hs;have hx:y.length<=sizeLine:=hx;refine aH (K:=K) (b:=!(decide (1<=(y.length:Int)) && decide ((y.length:Int)<=8))) ?_ (λc H1 s1=>?_) (λc H1 s1=>?_)
  ·exact RT.as (bJ (bj (aW (bA (ab h0)))) λ_=>bj (ay (kH (p:=λi j=>decide (i<=j)) (r:=λi j=>decide (i<=j)) ak (B9 (ab h0) hx) λ_=>ak))) rfl
  ·refine aX (K:=K) (d:=.bl (jf (.str y))) ?_ λv H' s q=>post v H' (s1.trans s) q
   have e:jf (.str y)=false:=by show (_ && _)=false;have c':=gZ c;rw [c',Bool.false_and]
   rw [e];exact dJ
  ·have c':=eU c
   have hy:y.cps.size<=8:=by rw [Bool.and_eq_true] at c';have:=of_decide_eq_true c'.2;have e:y.length=y.cps.size:=rfl;omega
   refine aX (K:=K) (d:=.bl (jf (.str y))) ?_ λv H' s q=>post v H' (s1.trans s) q
   have e:jf (.str y)=(y.cps.toList.map sgn).all id:=by show (_ && _)=_;rw [c',Bool.true_and]
   rw [e];refine jE (bs:=y.cps.toList.map sgn) (D5 (ab (s1.dat h0)) (by omega) _ (by simp) rfl (λH2 i c d s2 hc hd2=>?_));rw [List.getElem?_map,List.getElem?_map] at hd2;have hc':y.cps.toList[i]?=some c:=by simpa using hc
   rw [hc'] at hd2;cases hd2;refine RE.as (xA (p:=λi j=>!decide (j.cps.toList < i.cps.toList)) (q':=λi j=>!decide (j.cps.toList < i.cps.toList)) az (ab (Dat.strI _)) λ_=>az) rfl
 ·have hs':∀ y,x≠.str y:=λy e=>hs ⟨y,e⟩;refine aH (K:=K) (b:=true) ?_ (λc H1 s1=>?_) (λc=>nomatch c)
  ·exact RT.as (bJ (b:=true) (c:=true) (RT.as (bj (aW (bA (ab h0)))) (by rw [uC hs'];rfl)) λc=>nomatch c) rfl
  ·refine aX (K:=K) (d:=.bl (jf x)) ?_ λv H' s q=>post v H' (s1.trans s) q;rw [zj hs'];exact dJ
theorem Dg:∀ p ∈ TM,∃ i,p.2=.flat (.int i):=by intro p hp;simp only [TM,List.mem_cons,List.not_mem_nil,or_false] at hp;rcases hp with rfl | rfl | rfl <;> exact ⟨_,rfl⟩
def eF:D->Bool
 | .tup (.str k::r)=>decide ((r.length:Int)+1=iz k TM 0) && (cG (r.getD 0 .non) 0 1 && (!decide (k="gap") || cG (r.getD 1 .non) 0 9999))
 | _=>false
theorem i9 (k:Str) (r:List D):eF (.tup (.str k::r))=(decide ((r.length:Int)+1=iz k TM 0) && (cG (r.getD 0 .non) 0 1 && (!decide (k="gap") || cG (r.getD 1 .non) 0 9999))):=rfl
def Cy (ds:List D) (d:D):Prop:=∃ x,ds=[x]/\d=.bl (eF x)
theorem sM (k:Str):iz k TM 0=0\/iz k TM 0=2\/(k="gap"/\iz k TM 0=3):=by
 unfold iz;by_cases h1:k="hole"
 ·subst h1;exact .inr (.inl rfl)
 by_cases h2:k="gap"
 ·subst h2;exact .inr (.inr ⟨rfl,rfl⟩)
 by_cases h3:k="slot"
 ·subst h3;exact .inr (.inl rfl)
 have e:KTD.datumAt k TM=none:=by simp [TM,KTD.datumAt,h1,h2,h3]
 rw [e];exact .inl rfl
theorem El {x:D} (h:cU x=false):eF x=false:=by
 unfold cU at h;unfold eF;split at h
 ·cases h
 ·rename_i hn
  first
   | rfl
   | (split
      ·rename_i k r;exact absurd rfl (hn k r)
      ·rfl)
theorem uI (T:Txt P w K mg) (Gc:Ok P w base k T.FM (spD K iA)) (FW:Ok P w base k T.FF (spD K gm)):Ok P w base (k+1) T.HQ (spD K Cy):=by
 refine T.HQ.f.ok sc_is_mark (λvs H Q E h=>?_) (λcdv A outer s H vs Q E hr h=>?_)
 ·obtain ⟨ds,d,hd,⟨x,rfl,rfl⟩,_⟩:=h;exact hd.length.symm
 have nd:=sc_is_mark.nd;obtain ⟨ds,d,hd,⟨x,rfl,rfl⟩,post⟩:=h;obtain ⟨v0,rfl,h0⟩:=gW hd;refine ⟨_,(ao (a7 (PW.pt (cO (bP (bg (pc (D:=T.FM) Gc hr (ag (pv 0) af)) (λ_=>rfl))) (cP (aC iP (aP aM rfl T.Fw bq (ag (pv 0) af)) (xu (bL (v:=.ref T.FO) rfl T.FH rfl) (aI aK (pv 0) aj) aj ⟨rfl,rfl,rfl,rfl⟩) (aJ _))))) (au (aF ck)) aL)
 (ao (a7 (bP (bg (pc (D:=T.FF) FW hr (ag (aI aK (pv 0) aj) (ag aj (ag aj af)))) (λ_=>rfl))) (au (aF ck)) aL)
 (au (aF (zF (cR iP (aI aK (pv 0) aj) aE (aJ _)) (gM (pc (D:=T.FF) FW hr (ag (aI aK (pv 0) aj) (ag aj (ag (bL (v:=.int 9999) rfl T.GJ ⟨_,rfl⟩) af)))))))))),?_⟩
 cases ht:cU x with
 | false =>
  refine aH (K:=K) (b:=true) ?_ (λc H1 s1=>?_) (λc=>nomatch c)
  ·exact RT.as (bJ (b:=true) (c:=true) (RT.as (bj (aW (a9 (ae (ab h0) aA) ⟨x,rfl,rfl⟩))) (by rw [ht];rfl)) λc=>nomatch c) rfl
  ·refine aX (K:=K) (d:=.bl (eF x)) ?_ λv H' s q=>post v H' (s1.trans s) q;rw [El ht];exact dJ
 | true =>
  have ht':=ht;unfold cU at ht';split at ht'
  ·rename_i kd r;have el:((((D.str kd)::r).length:Nat):Int)=(r.length:Int)+1:=by rw [List.length_cons];omega
   refine aH (K:=K) (b:=!decide ((r.length:Int)+1=iz kd TM 0)) ?_ (λc H1 s1=>?_) (λc H1 s1=>?_)
   ·have b1:=fN (K:=K) (cF (ab (σ:=eG ["thing"] [v0]) (k:=0) h0)) (xF (i:=0) T.Fv (aN (k:=0) (ab (σ:=eG ["thing"] [v0]) (k:=0) h0) ak rfl) ak Dg);rw [el] at b1;exact RT.as (bJ (b:=false) (RT.as (bj (aW (a9 (ae (ab h0) aA) ⟨_,rfl,rfl⟩))) (by rw [ht];rfl)) λ_=>ay b1) (Bool.false_or _)
   ·refine aX (K:=K) (d:=.bl (eF (.tup (.str kd::r)))) ?_ λv H' s q=>post v H' (s1.trans s) q
    have e:eF (.tup (.str kd::r))=false:=by rw [i9];rw [show decide ((r.length:Int)+1=iz kd TM 0)=false from gZ c,Bool.false_and]
    rw [e];exact dJ
   ·have c':decide ((r.length:Int)+1=iz kd TM 0)=true:=eU c;have hl:=of_decide_eq_true c';have h1:=s1.dat h0
    obtain ⟨y,r',er⟩:∃ y r',r=y::r':=by
     cases r with
     | nil=>rcases sM kd with h | h | ⟨_,h⟩ <;> (rw [h] at hl;simp at hl)
     | cons y r'=>exact ⟨y,r',rfl⟩
    subst er;refine aH (K:=K) (b:=!cG y 0 1) (bj (aW (a9 (R:=gm) (ae (aN (k:=1) (ab h1) ak rfl) (ae ak (ae ak aA))) ⟨y,0,1,rfl,rfl⟩))) (λc2 H2 s2=>?_) (λc2 H2 s2=>?_)
    ·refine aX (K:=K) (d:=.bl (eF (.tup (.str kd::y::r')))) ?_ λv H' s q=>post v H' (s1.trans (s2.trans s)) q
     have e:eF (.tup (.str kd::y::r'))=false:=by rw [i9,c',Bool.true_and];show (cG y 0 1 && _)=false;rw [show cG y 0 1=false from gZ c2,Bool.false_and]
     rw [e];exact dJ
    ·refine aX (K:=K) (d:=.bl (eF (.tup (.str kd::y::r')))) ?_ λv H' s q=>post v H' (s1.trans (s2.trans s)) q;have h2:=s2.dat h1
     have e:eF (.tup (.str kd::y::r'))=(!decide (kd="gap") || cG (r'.getD 0 .non) 0 9999):=by rw [i9,c',Bool.true_and];show (cG y 0 1 && (!decide (kd="gap") || cG (r'.getD 0 .non) 0 9999))=_;rw [show cG y 0 1=true from eU c2,Bool.true_and]
     rw [e];refine wB (rF (aN (k:=0) (ab h2) ak rfl) az) λc3=>?_;have hk:kd="gap":=by simpa using c3
     obtain ⟨z,er⟩:∃ z,r'=[z]:=by
      rcases sM kd with h | h | ⟨_,h⟩
      ·rw [h] at hl;simp at hl;omega
      ·rw [hk] at h;exact absurd h (by decide +kernel)
      ·rw [h] at hl
       match r',hl with
       | [z],_=>exact ⟨z,rfl⟩
       | [],h=>simp at h
       | _::_::_,h=>simp at h;omega
     subst er;exact a9 (E:=E0) (R:=gm) (ae (aN (k:=2) (ab h2) ak rfl) (ae ak (ae ak aA))) ⟨z,0,9999,rfl,rfl⟩
  ·cases ht'
def j9:D->Bool
 | .tup (.str k::_)=>decide (k ∈ (["arg","pick"]:List Str))
 | _=>false
def ppD:Nat->D->Bool
 | 0,_=>false
 | n+1,d=>eF d || (dm d && (!j9 d && ((bZ d).map (ppD n)).all id))
def Rpp (n:Nat) (ds:List D) (d:D):Prop:=∃ x,ds=[x,.int (4 - (n:Int))]/\d=.bl (ppD n x)
def Cz:Nat->List D->D->Prop
 | 0=>λ_ _=>False
 | n+1=>Rpp n
theorem gJ (T:Txt P w K mg) (Jr:Ok P w base k T.HQ (spD K Cy)) (Ig:Ok P w base k T.Hb (spD K ya)) (FN:Ok P w base k T.Fz (spD K gy)) (GC:Ok P w base k T.FB (spD K (Cz n))):Ok P w base (k+1) T.FB (spD K (Rpp n)):=by
 refine T.FB.f.ok sc_is_pattern_part (λvs H Q E h=>?_) (λcdv A outer s H vs Q E hr h=>?_)
 ·obtain ⟨ds,d,hd,⟨x,rfl,rfl⟩,_⟩:=h;exact hd.length.symm
 have nd:=sc_is_pattern_part.nd;obtain ⟨ds,d,hd,⟨x,rfl,rfl⟩,post⟩:=h;obtain ⟨v0,v1,rfl,h0,h1⟩:=fW hd;refine ⟨_,(ao (a7 (aC iN (pv 1) (bL (v:=.int 3) rfl T.FC ⟨_,rfl⟩) (aJ _)) (au (aF ck)) aL)
 (ao (a7 (bg (pc (D:=T.HQ) Jr hr (ag (pv 0) af)) (λ_=>rfl)) (au (aF ck)) aL)
 (ao (a7 (PW.pt (cO (bP (bg (pc (D:=T.Hb) Ig hr (ag (pv 0) af)) (λ_=>rfl))) (cP (aC fq (aI aK (pv 0) aj) (aU (ag aE (ag aE af))) (by with_unfolding_all rfl))))) (au (aF ck)) aL)
 (au (aF (aP (h9 rfl) rfl T.Iy kX (ag (cq (own:=["within"]) (fr:=[1]) (N':=["within","deep"]) (iF (pc (D:=T.Fz) FN hr (ag (pv 0) af))) rfl (by show bW ["thing","deep"] (λx=>(aD fF).names.lookup x) _ _ _ _=true;decide +kernel) rfl (λ_ _ _ _ _=>(aQ (i:=0) (by show List.Nodup [("within":Str),("deep":Str)];decide +kernel) rfl (Or.inl rfl))) (λ_ _ _ _ _=>bN) (λ_ _ _ _ _=>(pc (D:=T.FB) GC hr (ag (pv 0) (ag (ba cX (pv 1) aj) af))))) af))))))),?_⟩
 cases n with
 | zero =>refine aH (K:=K) (b:=true) (RT.as (ay (bT (p:=λi j=>decide (j < i)) (ab h1) ak)) rfl) (λc H1 s1=>?_) (λc=>nomatch c);exact aX (K:=K) (d:=.bl false) dJ λv H' s q=>post v H' (s1.trans s) q
 | succ n =>
  refine aH (K:=K) (b:=false) (RT.as (ay (bT (p:=λi j=>decide (j < i)) (ab h1) ak)) (decide_eq_false (by omega))) (λc=>nomatch c) (λc H1 s1=>?_);have h0:=s1.dat h0;have h1:=s1.dat h1;refine aH (K:=K) (b:=eF x) (aW (a9 (ae (ab h0) aA) ⟨x,rfl,rfl⟩)) (λc H2 s2=>?_) (λc H2 s2=>?_)
  ·refine aX (K:=K) (d:=.bl true) dJ λv H' s q=>post v H' (s1.trans (s2.trans s)) ?_;have e:ppD (n+1) x=true:=by unfold ppD;rw [c];rfl
   rw [e];exact q
  have h0:=s2.dat h0;have h1:=s2.dat h1
  have e1:ppD (n+1) x=(dm x && (!j9 x && ((bZ x).map (ppD n)).all id)):=by show (eF x || _)=_;rw [c,Bool.false_or]
  cases hn:dm x with
  | false =>refine aH (K:=K) (b:=true) (RT.as (bJ (b:=true) (c:=true) (RT.as (bj (aW (a9 (ae (ab h0) aA) ⟨x,rfl,rfl⟩))) (by rw [hn];rfl)) λc=>nomatch c) rfl) (λc H3 s3=>?_) (λc=>nomatch c);refine aX (K:=K) (d:=.bl false) dJ λv H' s q=>post v H' (s1.trans (s2.trans (s3.trans s))) ?_;rw [e1,hn];exact q
  | true =>
   obtain ⟨kd,r,ek⟩:=nJ hn;have few:=nA hn;have h0':Dat K H2 (.tup (.str kd::r)) v0:=by rw [<- ek];exact h0
   refine aH (K:=K) (b:=j9 x) (RT.as (bJ (b:=false) (RT.as (bj (aW (a9 (ae (ab h0) aA) ⟨x,rfl,rfl⟩))) (by rw [hn];rfl)) λ_=>ay (lJ (ys:=["arg","pick"]) (aN (k:=0) (ab h0') ak rfl) (aZ (ae az (ae az aA))))) (by rw [ek];exact Bool.false_or _)) (λc3 H3 s3=>?_) (λc3 H3 s3=>?_)
   ·refine aX (K:=K) (d:=.bl false) dJ λv H' s q=>post v H' (s1.trans (s2.trans (s3.trans s))) ?_;rw [e1,hn,c3];exact q
   ·have h1:=s3.dat h1;refine aX (K:=K) (d:=.bl (((bZ x).map (ppD n)).all id)) (jE (rE (cs:=bZ x) (a9 (R:=gy) (ae (ab (s3.dat h0)) aA) ⟨kd,r,by rw [ek],by rw [ek]⟩) (by omega) _ (by simp) rfl (λH4 i z vz d s4 hz hi hvz=>?_))) λv H' s q=>post v H' (s1.trans (s2.trans (s3.trans s))) ?_
    ·rw [List.getElem?_map,List.getElem?_map,hz] at hi;cases hi;exact a9 (E:=E0) (R:=Rpp n) (ae (ab hvz) (ae (RE.as (d6 (ab (s4.dat h1)) ak) (congrArg D.int (by omega:(4:Int) - ((n+1:Nat):Int)+1=4 - (n:Int)))) aA)) ⟨z,rfl,rfl⟩
    ·rw [e1,hn,c3];exact q
def k9 (k:Str):D->Bool
 | .tup (.str h::_)=>decide (h=k)
 | _=>false
def cj:Nat->Str->D->List D
 | 0,_,_=>[]
 | n+1,k,d=>if k9 k d=true then [d] else (bZ d).flatMap (cj n k)
def iY (n:Nat) (ds es:List D):Prop:=∃ x k,ds=[x,.str k]/\n<=3/\ppD n x=true/\es=cj n k x
theorem sN (h:eF d=true):∃ k r,d=.tup (.str k::r):=by
 unfold eF at h;split at h
 ·exact ⟨_,_,rfl⟩
 ·cases h
variable {r:List D}
theorem zi {k:Str} (h:eF (.tup (.str k::r))=true):k="hole"\/k="gap"\/k="slot":=by
 rw [i9,Bool.and_eq_true] at h;have hl:=of_decide_eq_true h.1;unfold iz at hl;by_cases h1:k="hole"
 ·exact .inl h1
 by_cases h2:k="gap"
 ·exact .inr (.inl h2)
 by_cases h3:k="slot"
 ·exact .inr (.inr h3)
 have e:KTD.datumAt k TM=none:=by simp [TM,KTD.datumAt,h1,h2,h3]
 rw [e] at hl;dsimp only at hl;omega
theorem oG {k:Str} (h:k="hole"\/k="gap"\/k="slot"):KTD.inKeys k TB=false/\KTD.inKeys k TL=false:=by rcases h with rfl | rfl | rfl <;> decide +kernel
theorem xh (h:eF d=true):bZ d=[]:=by obtain ⟨k,r,rfl⟩:=sN h;exact lj (oG (zi h)).1
theorem uS (h:ppD n d=true):∃ k r,d=.tup (.str k::r):=by
 cases n with
 | zero=>cases h
 | succ n =>
  have h':(eF d || (dm d && (!j9 d && ((bZ d).map (ppD n)).all id)))=true:=h;rw [Bool.or_eq_true] at h';rcases h' with h' | h'
  ·exact sN h'
  ·rw [Bool.and_eq_true] at h';exact nJ h'.1
theorem rC (h:ppD (n+1) d=true):(bZ d).length<=3/\∀ c ∈ bZ d,ppD n c=true:=by
 have h':(eF d || (dm d && (!j9 d && ((bZ d).map (ppD n)).all id)))=true:=h;rw [Bool.or_eq_true] at h';rcases h' with h' | h'
 ·rw [xh h'];exact ⟨by simp,λc hc=>absurd hc (by simp)⟩
 ·rw [Bool.and_eq_true,Bool.and_eq_true] at h';refine ⟨nA h'.1,λc hc=>?_⟩;have z:=List.all_eq_true.mp h'.2.2 (ppD n c) (List.mem_map.mpr ⟨c,hc,rfl⟩);exact z
theorem vN {α β:Type} (f:α->List β) (m:Nat):∀ l:List α,(∀ x ∈ l,(f x).length<=m)->(l.flatMap f).length<=l.length * m
 | [],_=>by simp
 | x::l,h=>by have h1:=h x (by simp);have h2:=vN f m l λy hy=>h y (by simp [hy]);rw [List.flatMap_cons,List.length_append,List.length_cons,Nat.succ_mul];omega
theorem nE (k:Str):∀ (n:Nat) (d:D),ppD n d=true->(cj n k d).length<=3 ^ n
 | 0,d,h=>by cases h
 | n+1,d,h=>by
  unfold cj;split
  ·have:1<=3 ^ (n+1):=Nat.one_le_iff_ne_zero.mpr (by simp);simpa using this
  ·obtain ⟨h1,h2⟩:=rC h;have z:=vN (cj n k) (3 ^ n) (bZ d) λc hc=>nE k n c (h2 c hc);have z2:(bZ d).length * 3 ^ n<=3 * 3 ^ n:=Nat.mul_le_mul_right _ h1;rw [Nat.pow_succ,Nat.mul_comm (3 ^ n) 3];omega
theorem p3 (h:n<=3):3 ^ n<=27:=by
 match n,h with
 | 0,_=>decide
 | 1,_=>decide
 | 2,_=>decide
 | 3,_=>decide
theorem tq (T:Txt P w K mg) (FN:Ok P w base k T.Fz (spD K gy)) (Hd:Ok P w base k T.F8 (hV K (iY n))):Ok P w base (k+1) T.F8 (hV K (iY (n+1))):=by
 refine T.F8.f.ok sc_marks_in (λvs H Q E h=>?_) (λcdv A outer s H vs Q E hr h=>?_)
 ·obtain ⟨ds,es,hd,⟨x,kk,rfl,_⟩,_⟩:=h;exact hd.length.symm
 have nd:=sc_marks_in.nd;obtain ⟨ds,es,hd,⟨x,kk,rfl,hn3,hp,rfl⟩,post⟩:=h;obtain ⟨v0,v1,rfl,h0,h1⟩:=fW hd;refine ⟨_,(ao (a7 (aC bz (aI aK (pv 0) aj) (pv 1) (aJ _)) (au (aF (bh (ag (pv 0) af)))) aL)
 (ao (bo (i:=2) nd rfl (Or.inl rfl) (bh af))
 (ao (gu PassesOwn.never rfl (iF (pc (D:=T.Fz) FN hr (ag (pv 0) af))) (aQ (i:=3) nd rfl (Or.inl rfl)) (au (bu (dk F.plainAttrs_list F.slot_list_extend F.type_list_extend ip (pv 2) (ag (pc (D:=T.F8) Hd hr (ag (pv 3) (ag (pv 1) af))) af)))))
 (au (aF (pv 2)))))),?_⟩
 obtain ⟨kd,r,ek⟩:=uS hp;have h0':Dat K H (.tup (.str kd::r)) v0:=by rw [<- ek];exact h0
 have eh:k9 kk x=decide (kd=kk):=by rw [ek];rfl
 obtain ⟨few,kok⟩:=rC hp;have cap:=nE kk (n+1) x hp;have cap3:=p3 hn3;refine aH (K:=K) (b:=k9 kk x) (RT.as (ay (aY (aN (k:=0) (ab h0') ak rfl) (ab h1))) eh.symm) (λc H1 s1=>?_) (λc H1 s1=>?_)
 ·refine fE ((eK (K:=K) (es:=[x]) (ae (ab (s1.dat h0)) aA)).use λl ys H2 hl s2 hy hd2=>?_);refine post l ys H2 (s1.trans s2) hy (s1.free hl) ?_;unfold cj;rw [if_pos c];exact hd2
 have em:cj (n+1) kk x=(bZ x).flatMap (cj n kk):=by show (if k9 kk x=true then _ else _)=_;rw [if_neg (by rw [c];exact Bool.false_ne_true)]
 rw [em] at cap post;have h0:=s1.dat h0;have h1:=s1.dat h1;have hk1:=h1.strE;refine fT (K:=K) (es:=[]) (eK aA) λwl ys0 H2 hw s2 hy0 hd0=>?_;have hw0:H wl=none:=s1.free hw;refine cf (RE.use (a9 (R:=gy) (d:=.tup (bZ x)) (ae (ab (K:=K) (k:=0) (s2.dat h0)) aA) ⟨kd,r,by rw [ek],by rw [ek]⟩) λv4 H4 s4 q4=>?_);obtain ⟨a,vs,ea,hq,hds⟩:=q4.tupE;subst ea;have hl:=hds.length;refine ⟨a,rfl,⟨vs,hq⟩,qB (xs:=vs) (λi σ G=>∃ (z:Option V) (ys:List V),σ=[some v0,some v1,some (.ref wl),z]/\Same H G/\SqT K G a vs/\Dats K G (bZ x) vs/\G wl=some (.lst ys)/\Dats K G (((bZ x).take i).flatMap (cj n kk)) ys) ?_ (λi σ G _ ⟨z,ys,_,_,p,_⟩=>p) ?_ ?_⟩
 ·exact ⟨none,ys0,rfl,s1.trans (s2.trans s4),hq,hds,s4 _ _ hy0,s4.dats hd0⟩
 ·rintro i vx σ G hi ⟨z,ys,rfl,sG,hqG,hdG,hwG,hyG⟩;obtain ⟨dx,ex,hx⟩:=hdG.getV hi;have hpx:=kok dx (List.mem_of_getElem? ex);subst hk1;refine ⟨_,rfl,.inl ⟨rfl,_,SqL.of hwG⟩,_,rfl,_,rfl,[dx,.str kk],_,(Dats.cons hx (Dats.cons (Dat.strI _) Dats.nil):Dats K G [dx,.str kk] [vx,.str kk]),⟨dx,kk,rfl,by omega,hpx,rfl⟩,λr us H5 s5 hr5 _ hd5=>?_⟩;have hw5:=s5 _ _ hwG;have b6:But wl H5 (upd H5 wl (.lst (ys++us))):=But.upd (Same.refl H5).but;have g6:dH K H5 (upd H5 wl (.lst (ys++us))):=b6.grow hw5 aq
  have et:((bZ x).take (i+1)).flatMap (cj n kk)=((bZ x).take i).flatMap (cj n kk)++cj n kk dx:=by rw [List.take_add_one,ex];simp
  have lt:(((bZ x).take (i+1)).flatMap (cj n kk)).length<=27:=by
   have e2:((bZ x).take (i+1)).flatMap (cj n kk)++((bZ x).drop (i+1)).flatMap (cj n kk)=(bZ x).flatMap (cj n kk):=by rw [<- List.flatMap_append,List.take_append_drop]
   have:=congrArg List.length e2;rw [List.length_append] at this;omega
  have ly:=hyG.length;have lu:=hd5.length;rw [et,List.length_append] at lt;refine ⟨wl,r,ys,us,rfl,rfl,hw5,hr5,bU (by omega),some vx,ys++us,rfl,λb o hb=>b6 b o (aB hb hw0) (s5 _ _ (sG _ _ hb)),g6.tup _ _ (s5.sqT hqG),Dats.mono g6 _ (s5.dats hdG),aq,?_⟩;rw [et];exact Dats.append (Dats.mono g6 _ (s5.dats hyG)) (Dats.mono g6 _ hd5)
 ·rintro σ G ⟨z,ys,rfl,sG,hqG,hdG,hwG,hyG⟩;refine ⟨_,rfl,post wl ys G sG hwG hw0 ?_⟩;rw [<- hl,List.take_length] at hyG;exact hyG
def Ed:D->D
 | .tup (_::y::_)=>y
 | _=>.non
theorem uE {k:Str} (h:eF (.tup (.str k::r))=true):∃ i r',r=.int i::r':=by
 rw [i9,Bool.and_eq_true,Bool.and_eq_true] at h;have hw:=h.2.1
 cases r with
 | nil=>cases hw
 | cons y r' =>
  have hw':cG y 0 1=true:=hw
  cases y with
  | int i=>exact ⟨i,r',rfl⟩
  | _=>cases hw'
theorem jc {k:Str} (hk:k="hole"\/k="gap"\/k="slot"):∀ (n:Nat) (x m:D),ppD n x=true->m ∈ cj n k x->∃ i r,m=.tup (.str k::.int i::r)
 | 0,x,m,h,_=>by cases h
 | n+1,x,m,h,hm=>by
  unfold cj at hm;split at hm
  ·rename_i hh;have e:m=x:=by simpa using hm
   subst e;obtain ⟨k',r,rfl⟩:=uS h;have ek:k'=k:=of_decide_eq_true hh;subst ek;have h':(eF (.tup (.str k'::r)) || (dm (.tup (.str k'::r)) && _))=true:=h;rw [Bool.or_eq_true] at h';rcases h' with h' | h'
   ·obtain ⟨i,r',rfl⟩:=uE h';exact ⟨i,r',rfl⟩
   ·rw [Bool.and_eq_true] at h';have z:=h'.1;rw [nH (oG hk).2,(oG hk).1,Bool.false_and] at z;cases z
  ·obtain ⟨c,hc,hm'⟩:=List.mem_flatMap.mp hm;exact jc hk n c m ((rC h).2 c hc) hm'
def BE (k:Str) (x:D):Bool:=eqDs ((cj 3 k x).map Ed) ((List.range (cj 3 k x).length).map λi:Nat=>D.int i)
def C8 (ds:List D) (d:D):Prop:=∃ x k,ds=[x,.str k]/\ppD 3 x=true/\(k="hole"\/k="gap"\/k="slot")/\d=.bl (BE k x)
variable {σ:L2.St} {l:Addr} {ys:List V}
theorem mL {K:W.Frag} {k:Nat} (hl:H l=some (.lst ys)) (e:σ[k]?=some (some (.ref l)):=by rfl):RE K (tCB (λxs H Q=>∃ p ys,xs=[.ref p]/\(SqL K H p ys\/SqT K H p ys)/\Q (.int ys.length) H) (bC (fG k) c7)) σ H (.int ys.length):=λH1 s Q q =>
 ⟨.ref l,e,l,ys,rfl,.inl (SqL.of (s _ _ hl)),q _ _ (Same.refl _) (Dat.intI _)⟩
theorem nG {l:List D} (h:∀ d ∈ l,∃ i,d=.int i):noLs l=true/\deepDs l=0:=by
 induction l with
 | nil=>exact ⟨by unfold noLs;rfl,by unfold deepDs;rfl⟩
 | cons d l ih =>
  obtain ⟨i,rfl⟩:=h d (by simp);obtain ⟨h1,h2⟩:=ih λd hd=>h d (by simp [hd]);refine ⟨?_,?_⟩
  ·unfold noLs;rw [h1];unfold noL;rfl
  ·unfold deepDs;rw [h2];unfold eO;rfl
theorem nP (T:Txt P w K mg) (Hd:Ok P w base k T.F8 (hV K (iY 3))):Ok P w base (k+1) T.GQ (spD K C8):=by
 refine T.GQ.f.ok sc_is_numbered (λvs H Q E h=>?_) (λcdv A outer s H vs Q E hr h=>?_)
 ·obtain ⟨ds,d,hd,⟨x,kk,rfl,_⟩,_⟩:=h;exact hd.length.symm
 have nd:=sc_is_numbered.nd;obtain ⟨ds,d,hd,⟨x,kk,rfl,hp,hk,rfl⟩,post⟩:=h;obtain ⟨v0,v1,rfl,h0,h1⟩:=fW hd;refine ⟨_,(ao (gO (i:=2) (own:=["mark"]) (fr:=[]) (N':=["mark"]) (dO (pc (D:=T.F8) Hd hr (ag (pv 0) (ag (pv 1) af)))) rfl (by show bW ["pattern","kind","numbers"] (λx=>(aD hU).names.lookup x) _ _ _ _=true;decide +kernel) rfl (λ_ _ _ _ _=>(aQ (i:=0) (by show List.Nodup [("mark":Str)];decide +kernel) rfl (Or.inl rfl))) (λ_ _ _ _ _=>bN) (λ_ _ _ _ _=>(aI (r:=kG K) aK (pv 0) aj)) nd rfl rfl rfl)
 (au (aF (cR (nQ hr) (pv 2) (cI (oK rfl) rfl T.Jl vC (ag (cI yu rfl T.HN yl (ag (aP aM rfl T.Fw bq (ag (pv 2) af)) af)) af)) (aJ _))))),?_⟩
 have cap:=nE kk 3 x hp;refine fT (K:=K) (es:=(cj 3 kk x).map Ed) (B4 (cs:=cj 3 kk x) (iG (R:=iY 3) (ae (ab h0) (ae (ab h1) aA)) ⟨x,kk,rfl,by decide,hp,rfl⟩) (Nat.le_trans cap (by decide)) _ (by simp) rfl (λH1 i c v d s1 hc hi hv=>?_)) λl ys H2 hl s2 hy hd2=>?_
 ·rw [List.getElem?_map,hc] at hi;cases hi;obtain ⟨j,r,rfl⟩:=jc hk 3 x c hp (List.mem_of_getElem? hc);exact aN (k:=1) (ab hv) ak rfl
 have ll:=hd2.length;rw [List.length_map] at ll;refine ⟨_,rfl,(rD (K:=K) (n:=ys.length) (mL (k:=2) hy) (by rw [<- ll];exact Nat.le_trans cap (by decide))).use λl2 ys2 H3 hl2 s3 hy3 hd3=>?_⟩
 have i1:∀ d ∈ (cj 3 kk x).map Ed,∃ i,d=.int i:=λd hdm=>by obtain ⟨m,hm,rfl⟩:=List.mem_map.mp hdm;obtain ⟨j,r,rfl⟩:=jc hk 3 x m hp hm;exact ⟨j,rfl⟩
 have i2:∀ d ∈ (List.range ys.length).map (λi:Nat=>D.int i),∃ i,d=.int i:=λd hdm=>by obtain ⟨m,hm,rfl⟩:=List.mem_map.mp hdm;exact ⟨_,rfl⟩
 refine ⟨l,l2,ys,ys2,_,_,rfl,rfl,SqL.of (s3 _ _ hy),SqL.of hy3,s3.dats hd2,hd3,(nG i1).1,(nG i2).1,by rw [(nG i1).2];decide,?_⟩;refine post _ _ (s2.trans s3) ?_;unfold BE;rw [ll];exact Dat.blI _
def rq (x:D):Bool:=ppD 3 x && (!k9 "hole" x && ((["hole","gap","slot"]:List Str).map λk=>BE k x).all id)
def C9 (ds:List D) (d:D):Prop:=∃ x,ds=[x]/\d=.bl (rq x)
theorem oS (T:Txt P w K mg) (GC:Ok P w base k T.FB (spD K (Rpp 3))) (IG:Ok P w base k T.GQ (spD K C8)):Ok P w base (k+1) T.GZ (spD K C9):=by
 refine T.GZ.f.ok sc_is_pattern (λvs H Q E h=>?_) (λcdv A outer s H vs Q E hr h=>?_)
 ·obtain ⟨ds,d,hd,⟨x,rfl,rfl⟩,_⟩:=h;exact hd.length.symm
 have nd:=sc_is_pattern.nd;obtain ⟨ds,d,hd,⟨x,rfl,rfl⟩,post⟩:=h;obtain ⟨v0,rfl,h0⟩:=gW hd;refine ⟨_,(ao (a7 (PW.pt (cO (bP (bg (pc (D:=T.FB) GC hr (ag (pv 0) (ag aj af))) (λ_=>rfl))) (cP (aC bz (aI aK (pv 0) aj) aE (aJ _))))) (au (aF ck)) aL)
 (au (aF (aP (h9 rfl) rfl T.Iy kX (ag (cq (own:=["kind"]) (fr:=[0]) (N':=["kind","thing"]) (DZ (bL (v:=.ref T.FO) rfl T.FH rfl)) rfl (by show bW ["thing"] (λx=>(aD iL).names.lookup x) _ _ _ _=true;decide +kernel) rfl (λ_ _ _ _ _=>(aQ (i:=0) (by show List.Nodup [("kind":Str),("thing":Str)];decide +kernel) rfl (Or.inl rfl))) (λ_ _ _ _ _=>bN) (λ_ _ _ _ _=>(pc (D:=T.GQ) IG hr (ag (pv 1) (ag (pv 0) af))))) af))))),?_⟩
 cases hp:ppD 3 x with
 | false =>refine aH (K:=K) (b:=true) (RT.as (bJ (b:=true) (c:=true) (RT.as (bj (aW (a9 (R:=Rpp 3) (ae (ab h0) (ae ak aA)) ⟨x,rfl,rfl⟩))) (by rw [hp];rfl)) λc=>nomatch c) rfl) (λc H3 s3=>?_) (λc=>nomatch c);refine aX (K:=K) (d:=.bl false) dJ λv H' s q=>post v H' (s3.trans s) ?_;unfold rq;rw [hp];exact q
 | true =>
  obtain ⟨kd,r,ek⟩:=uS hp;have h0':Dat K H (.tup (.str kd::r)) v0:=by rw [<- ek];exact h0
  refine aH (K:=K) (b:=k9 "hole" x) (RT.as (bJ (b:=false) (RT.as (bj (aW (a9 (R:=Rpp 3) (ae (ab h0) (ae ak aA)) ⟨x,rfl,rfl⟩))) (by rw [hp];rfl)) λ_=>ay (aY (aN (k:=0) (ab h0') ak rfl) az)) (by rw [ek];exact Bool.false_or _)) (λc H1 s1=>?_) (λc H1 s1=>?_)
  ·refine aX (K:=K) (d:=.bl false) dJ λv H' s q=>post v H' (s1.trans s) ?_;unfold rq;rw [hp,c];exact q
  ·refine aX (K:=K) (d:=.bl (((["hole","gap","slot"]:List Str).map λk=>BE k x).all id)) (jE (D6 T.HI (by decide) _ rfl rfl (λH2 i kk d s2 hk hi=>?_))) λv H' s q=>post v H' (s1.trans s) ?_
   ·rw [List.getElem?_map,List.getElem?_map,hk] at hi;cases hi;refine a9 (E:=E0) (R:=C8) (ae (ab (s2.dat (s1.dat h0))) (ae (ab (Dat.strI kk)) aA)) ⟨x,kk,rfl,hp,?_,rfl⟩;have:=List.mem_of_getElem? hk;simpa using this
   ·unfold rq;rw [hp,c];exact q
def pX (k:Str) (T:List (Str × KTD.Dat)):Str:=match KTD.datumAt k T with | some (.flat (.str z))=>z | _=>""
theorem Dd {k:Str} (h:KTD.inKeys k TF=true):KTD.datumAt k TF=some (.flat (.str (pX k TF))):=by
 unfold pX;by_cases h1:k="low"
 ·subst h1;rfl
 by_cases h2:k="high"
 ·subst h2;rfl
 by_cases h3:k="arg"
 ·subst h3;rfl
 have e:KTD.inKeys k TF=false:=by simp [TF,KTD.inKeys,h1,h2,h3]
 rw [e] at h;cases h
def m5 (p:D):D->Bool
 | .tup (.str k::r)=>decide ((r.length:Int)+1=2) && (KTD.inKeys k TF && cG (r.getD 0 .non) 0 (((cj 3 (pX k TF) p).length:Int) - 1))
 | _=>false
theorem su (p:D) (k:Str) (r:List D):m5 p (.tup (.str k::r))=(decide ((r.length:Int)+1=2) && (KTD.inKeys k TF && cG (r.getD 0 .non) 0 (((cj 3 (pX k TF) p).length:Int) - 1))):=rfl
def xZ (ds:List D) (d:D):Prop:=∃ x p,ds=[x,p]/\ppD 3 p=true/\d=.bl (m5 p x)
theorem Bf {p x:D} (h:cU x=false):m5 p x=false:=by
 unfold cU at h;unfold m5;split at h
 ·cases h
 ·rename_i hn
  first
   | rfl
   | (split
      ·rename_i k r;exact absurd rfl (hn k r)
      ·rfl)
theorem oR (T:Txt P w K mg) (Gc:Ok P w base k T.FM (spD K iA)) (Hd:Ok P w base k T.F8 (hV K (iY 3))) (FW:Ok P w base k T.FF (spD K gm)):Ok P w base (k+1) T.GY (spD K xZ):=by
 refine T.GY.f.ok sc_is_filling (λvs H Q E h=>?_) (λcdv A outer s H vs Q E hr h=>?_)
 ·obtain ⟨ds,d,hd,⟨x,p,rfl,_⟩,_⟩:=h;exact hd.length.symm
 have nd:=sc_is_filling.nd;obtain ⟨ds,d,hd,⟨x,p,rfl,hp,rfl⟩,post⟩:=h;obtain ⟨v0,v1,rfl,h0,h1⟩:=fW hd;refine ⟨_,(ao (a7 (PW.pt (cO (bP (bg (pc (D:=T.FM) Gc hr (ag (pv 0) af)) (λ_=>rfl))) (cO (aC iP (aP aM rfl T.Fw bq (ag (pv 0) af)) aj (aJ _)) (cP (aC tD (aI aK (pv 0) aj) (bL (v:=.ref T.Gu) rfl T.FX rfl) (by with_unfolding_all rfl)))))) (au (aF ck)) aL)
 (au (aF (pc (D:=T.FF) FW hr (ag (aI aK (pv 0) aj) (ag aj (ag (ba rn (aP aM rfl T.Fw bq (ag (pc (D:=T.F8) Hd hr (ag (pv 1) (ag (aI Bu (bL (v:=.ref T.Gu) rfl T.FX rfl) (aI aK (pv 0) aj)) af))) af)) aj) af))))))),?_⟩
 cases ht:cU x with
 | false =>
  refine aH (K:=K) (b:=true) ?_ (λc H1 s1=>?_) (λc=>nomatch c)
  ·exact RT.as (bJ (b:=true) (c:=true) (RT.as (bj (aW (a9 (ae (ab h0) aA) ⟨x,rfl,rfl⟩))) (by rw [ht];rfl)) λc=>nomatch c) rfl
  ·refine aX (K:=K) (d:=.bl (m5 p x)) ?_ λv H' s q=>post v H' (s1.trans s) q;rw [Bf ht];exact dJ
 | true =>
  have ht':=ht;unfold cU at ht';split at ht'
  ·rename_i kd r;have el:((((D.str kd)::r).length:Nat):Int)=(r.length:Int)+1:=by rw [List.length_cons];omega
   have b1:=fN (K:=K) (cF (ab (σ:=eG ["thing","pattern"] [v0,v1]) (k:=0) h0)) (ak (i:=2));rw [el] at b1;refine aH (K:=K) (b:=!decide ((r.length:Int)+1=2) || !KTD.inKeys kd TF) (RT.as (bJ (b:=false) (RT.as (bj (aW (a9 (ae (ab h0) aA) ⟨_,rfl,rfl⟩))) (by rw [ht];rfl)) λ_=>bJ (ay b1) λ_=>ay (tR (aN (k:=0) (ab h0) ak rfl) T.FY)) (Bool.false_or _)) (λc H1 s1=>?_) (λc H1 s1=>?_)
   ·refine aX (K:=K) (d:=.bl false) dJ λv H' s q=>post v H' (s1.trans s) ?_
    have e:m5 p (.tup (.str kd::r))=false:=by
     rw [su]
     cases h2:decide ((r.length:Int)+1=2) with
     | false=>rfl
     | true =>rw [h2] at c;have h3:KTD.inKeys kd TF=false:=gZ c;rw [h3];rfl
    rw [e];exact q
   ·rw [Bool.or_eq_false_iff] at c;have c1:=eU c.1;have c2:=eU c.2
    obtain ⟨y,er⟩:∃ y,r=[y]:=by
     match r,of_decide_eq_true c1 with
     | [],h=>simp at h
     | [y],_=>exact ⟨y,rfl⟩
     | _::_::_,h=>simp at h;omega
    subst er;have h0:=s1.dat h0;have h1:=s1.dat h1;refine aX (K:=K) (d:=.bl (cG y 0 (((cj 3 (pX kd TF) p).length:Int) - 1))) (a9 (R:=gm) (ae (aN (k:=1) (ab h0) ak rfl) (ae ak (ae (Ah (B8 (iG (R:=iY 3) (ae (ab h1) (ae (xC (aN (k:=0) (ab h0) ak rfl) T.FY (by rfl) (Dd c2)) aA)) ⟨p,pX kd TF,rfl,by decide,hp,rfl⟩)) ak) aA))) ⟨y,0,_,rfl,rfl⟩) λv H' s q=>post v H' (s1.trans s) ?_;rw [su,c1,c2];exact q
  ·cases ht'
def r8 (p x:D):Bool:=cG x 0 99 || m5 p x
def xY (ds:List D) (d:D):Prop:=∃ x p,ds=[x,p]/\ppD 3 p=true/\d=.bl (r8 p x)
theorem uH (T:Txt P w K mg) (FW:Ok P w base k T.FF (spD K gm)) (IK:Ok P w base k T.GY (spD K xZ)):Ok P w base (k+1) T.HP (spD K xY):=by
 refine T.HP.f.ok sc_is_cell (λvs H Q E h=>?_) (λcdv A outer s H vs Q E hr h=>?_)
 ·obtain ⟨ds,d,hd,⟨x,p,rfl,_⟩,_⟩:=h;exact hd.length.symm
 have nd:=sc_is_cell.nd;obtain ⟨ds,d,hd,⟨x,p,rfl,hp,rfl⟩,post⟩:=h;obtain ⟨v0,v1,rfl,h0,h1⟩:=fW hd;refine ⟨_,(au (aF (zF (pc (D:=T.FF) FW hr (ag (pv 0) (ag aj (ag (bL (v:=.int 99) rfl T.Gf ⟨_,rfl⟩) af)))) (gM (pc (D:=T.GY) IK hr (ag (pv 0) (ag (pv 1) af))))))),?_⟩;exact aX (K:=K) (d:=.bl (r8 p x)) (wB (a9 (R:=gm) (ae (ab h0) (ae ak (ae ak aA))) ⟨x,0,99,rfl,rfl⟩) λ_=>a9 (R:=xZ) (ae (ab h0) (ae (ab h1) aA)) ⟨x,p,rfl,hp,rfl⟩) post
def pC (c:Int):Option (Str × Nat):=match INS[c.toNat]? with
 | some (.tup [.str nm,.int m])=>some (nm,m.toNat)
 | _=>none
variable {c:Int}
theorem Dw {m:Nat} (h:pC c=some (nm,m)):INS[c.toNat]?=some (.tup [.str nm,.int (m:Int)])/\c.toNat < 17:=by
 unfold pC at h
 have hlt:c.toNat < 17:=by
  by_cases hc:c.toNat < 17
  ·exact hc
  ·rw [List.getElem?_eq_none (by show (17:Nat)<=c.toNat;omega)] at h;cases h
 refine ⟨?_,hlt⟩
 have all:∀ i:Nat,i < 17->∀ nm m,(match INS[i]? with | some (.tup [.str nm,.int m])=>some (nm,m.toNat) | _=>none)=some (nm,m)->INS[i]?=some (.tup [.str nm,.int (m:Int)]):=by
  intro i hi nm m e
  match i,hi with
  | 0,_=>cases e;rfl
  | 1,_=>cases e;rfl
  | 2,_=>cases e;rfl
  | 3,_=>cases e;rfl
  | 4,_=>cases e;rfl
  | 5,_=>cases e;rfl
  | 6,_=>cases e;rfl
  | 7,_=>cases e;rfl
  | 8,_=>cases e;rfl
  | 9,_=>cases e;rfl
  | 10,_=>cases e;rfl
  | 11,_=>cases e;rfl
  | 12,_=>cases e;rfl
  | 13,_=>cases e;rfl
  | 14,_=>cases e;rfl
  | 15,_=>cases e;rfl
  | 16,_=>cases e;rfl
  | n+17,h=>omega
 exact all c.toNat hlt nm m h
def iB (cells:List D) (p m:Nat):List D:=(cells.drop (p+1)).take m
def x8 (ds:List D) (d:D):Prop:=∃ (cells:List D) (p:Nat) (c:Int) (nm:Str) (m:Nat),ds=[.tup cells,.int p]/\cells[p]?=some (.int c)/\0<=c/\pC c=some (nm,m)/\(iB cells p m).length=m/\d=.tup [.str nm,.tup (iB cells p m)]
theorem ky (T:Txt P w K mg)  : Ok P w base (k+1) T.Gs (spD K x8):=by
 refine T.Gs.f.ok sc_instruction_at (λvs H Q E h=>?_) (λcdv A outer s H vs Q E hr h=>?_)
 ·obtain ⟨ds,d,hd,⟨cells,p,c,nm,m,rfl,_⟩,_⟩:=h;exact hd.length.symm
 have nd:=sc_instruction_at.nd;obtain ⟨ds,d,hd,⟨cells,p,c,nm,m,rfl,hc,c0,hi,hb,rfl⟩,post⟩:=h;obtain ⟨v0,v1,rfl,h0,h1⟩:=fW hd;refine ⟨_,(ao (a7 (PW.pt (cO (aC wb (pv 1) (aP aM rfl T.Fw bq (ag (pv 0) af)) (aJ _)) (cP (aC wb (aI aK (pv 0) (pv 1)) (aP aM rfl T.Fw bq (ag (bL (v:=.ref T.Gd) rfl T.FP rfl) af)) (aJ _))))) (au ir) aL)
 (ao (fC (aI aK (bL (v:=.ref T.Gd) rfl T.FP rfl) (aI aK (pv 0) (pv 1))) (fe rfl (a8 (aQ (i:=2) nd rfl (Or.inl rfl)) (a8 (aQ (i:=3) nd rfl (Or.inl rfl)) cu))))
 (ao (bo (i:=4) nd rfl (Or.inl rfl) (cI bV rfl T.FT cg (ag (gN lS (pv 0) (gA (ba cX (pv 1) aj)) (gA (ba cX (ba cX (pv 1) aj) (pv 3)))) af)))
 (ao (a7 (aC jg (aP aM rfl T.Fw bq (ag (pv 4) af)) (pv 3) (aJ _)) (au ir) aL)
 (au (aF (aU (ag (pv 2) (ag (pv 4) af))))))))),?_⟩
 obtain ⟨hi,h17⟩:=Dw hi;have hp:p < cells.length:=(List.getElem?_eq_some_iff.mp hc).1;have ec:c=((c.toNat:Nat):Int):=by omega
 refine aH (K:=K) (b:=false) (RT.as (bJ (b:=false) (c:=false) (RT.as (ay (bT (p:=λi j=>decide (j<=i)) (ab h1) (cF (ab h0)))) (decide_eq_false (by omega))) λ_=>RT.as (ay (bT (p:=λi j=>decide (j<=i)) (aN (k:=p) (ab h0) (ab h1) hc) (cF (nZ T.Hf)))) (decide_eq_false (by show ¬ (17:Int)<=c;omega))) rfl) (λc=>nomatch c) (λ_ H1 s1=>?_);have h0:=s1.dat h0;have h1:=s1.dat h1;refine mP (K:=K) (d:=.str nm) (e:=.int m) (aN (k:=c.toNat) (nZ T.Hf) (RE.as (aN (k:=p) (ab h0) (ab h1) hc) (congrArg D.int ec)) hi) λv2 v3 H2 s2 h2 h3=>?_;have h0:=s2.dat h0;have h1:=s2.dat h1;have el:(p:Int)+1=((p+1:Nat):Int):=by omega
 have eh:(p:Int)+1+(m:Int)=((p+1+m:Nat):Int):=by omega
 refine eT (K:=K) (d:=.tup (iB cells p m)) (RE.as (xH (D8 (lo:=p+1) (hi:=p+1+m) (ab h0) (RE.as (d6 (ab h1) ak) (congrArg D.int el)) (RE.as (d6 (d6 (ab h1) ak) (ab h3)) (congrArg D.int eh)) (by omega) (by omega))) (by unfold iB;rw [show p+1+m - (p+1)=m by omega])) λv4 H3 s3 h4=>?_;refine aH (K:=K) (b:=false) (RT.as (ay (bT (p:=λi j=>decide (i < j)) (cF (ab h4)) (ab (s3.dat h3)))) (decide_eq_false (by rw [hb];omega))) (λc=>nomatch c) (λ_ H4 s4=>?_);exact aX (K:=K) (d:=.tup [.str nm,.tup (iB cells p m)]) (aZ (ae (ab (s4.dat (s3.dat h2))) (ae (ab (s4.dat h4)) aA))) λv H' s q=>post v H' (s1.trans (s2.trans (s3.trans (s4.trans s)))) q
abbrev SS:List Str:=["put","far","load","add","sub","mul","less","more","twice","about"]
def EH (rec:Nat->Option Bool) (pat:D) (cells:List D) (p:Nat):D->Option Bool
 | .int c=>(match pC c with
  | some (nm,m)=>if (iB cells p m).length=m then (if (!decide (nm ∈ SS) || !((iB cells p m).map (r8 pat)).all id)=true then some false else rec (p+1+m)) else none
  | none=>none)
 | _=>none
def mU:Nat->D->List D->Nat->Option Bool
 | 0,_,_,_=>none
 | n+1,pat,cells,p=>match cells[p]? with
  | none=>some true
  | some x=>if cG x 0 99=false then some false else EH (mU n pat cells) pat cells p x
def C1 (ds:List D) (d:D):Prop:=∃ (cells:List D) (pat:D) (b:Bool),ds=[.tup cells,pat]/\ppD 3 pat=true/\cells.length<=100/\mU (cells.length+1) pat cells 0=some b/\d=.bl b
def Fp (σ:L2.St) (_:Hp):Nat:=match σ[2]? with
 | some (some (V.int p))=>(200 - p).toNat
 | _=>0
variable {cells:List D} {p:Nat}
theorem Dj {m:Nat}:(iB cells p m).length<=cells.length:=by unfold iB;rw [List.length_take,List.length_drop];omega
theorem A0 {m:Nat} (h:(iB cells p m).length=m) (hp:p < cells.length):p+1+m<=cells.length:=by unfold iB at h;rw [List.length_take,List.length_drop] at h;omega
theorem jJ (T:Txt P w K mg) (FW:Ok P w base k T.FF (spD K gm)) (Ie:Ok P w base k T.Gs (spD K x8)) (Jq:Ok P w base k T.HP (spD K xY)):Ok P w base (k+1) T.F5 (spD K C1):=by
 refine T.F5.f.ok sc_are_instructions (λvs H Q E h=>?_) (λcdv A outer s H vs Q E hr h=>?_)
 ·obtain ⟨ds,d,hd,⟨cells,pat,bb,rfl,_⟩,_⟩:=h;exact hd.length.symm
 have nd:=sc_are_instructions.nd;obtain ⟨ds,d,hd,⟨cells,pat,bb,rfl,hp,hl,hr2,rfl⟩,post⟩:=h;obtain ⟨v0,v1,rfl,h0,h1⟩:=fW hd;refine ⟨_,(ao (bo (i:=2) nd rfl (Or.inl rfl) aj)
 (ao (tM PassesOwn.never (aC jg (pv 2) (aP aM rfl T.Fw bq (ag (pv 0) af)) (aJ _)) (ao (a7 (bP (bg (pc (D:=T.FF) FW hr (ag (aI aK (pv 0) (pv 2)) (ag aj (ag (bL (v:=.int 99) rfl T.Gf ⟨_,rfl⟩) af)))) (λ_=>rfl))) (au (aF ck)) aL)
 (ao (B0 (au (fC (pc (D:=T.Gs) Ie hr (ag (pv 0) (ag (pv 2) af))) (fe rfl (a8 (aQ (i:=3) nd rfl (Or.inl rfl)) (a8 (aQ (i:=4) nd rfl (Or.inl rfl)) cu))))))
 (ao (a7 (PW.pt (cO (aC rh (pv 3) (bL (v:=.ref T.HC) rfl T.GK rfl) (by with_unfolding_all rfl)) (cP (bP (bg (aP (h9 rfl) rfl T.Iy kX (ag (cq (own:=["cell"]) (fr:=[1]) (N':=["cell","pattern"]) (iF (pv 4)) rfl (by show bW ["cells","pattern","place","name","behind"] (λx=>(aD ff).names.lookup x) _ _ _ _=true;decide +kernel) rfl (λ_ _ _ _ _=>(aQ (i:=0) (by show List.Nodup [("cell":Str),("pattern":Str)];decide +kernel) rfl (Or.inl rfl))) (λ_ _ _ _ _=>bN) (λ_ _ _ _ _=>(pc (D:=T.HP) Jq hr (ag (pv 0) (ag (pv 1) af))))) af)) (λ_=>rfl)))))) (au (aF ck)) aL)
 (au (zO (i:=2) nd rfl (Or.inl rfl) (ba cX aj (aP aM rfl T.Fw bq (ag (pv 4) af))) uy))))))
 (au (aF ck)))),?_⟩
 refine c6 (wD (cf (uf (λσ G=>∃ (p n:Nat) (z3 z4:Option V),σ=[some v0,some v1,some (.int p),z3,z4]/\Same H G/\mU n pat cells p=some bb/\p<=cells.length) Fp ?_ ?_ ?_)))
 ·exact ⟨0,_,none,none,rfl,Same.refl _,hr2,Nat.zero_le _⟩
 ·rintro σ G ⟨p,n,z3,z4,rfl,sG,ha,hpl⟩;have g0:=sG.dat h0;have g1:=sG.dat h1;refine RT.use (b:=decide ((p:Int) < (cells.length:Int))) (ay (bT (p:=λi j=>decide (i < j)) (ab (K:=K) (Dat.intI (p:Int))) (cF (ab g0)))) λG1 s1=>?_
  obtain ⟨n,rfl⟩:∃ m,n=m+1:=by
   cases n with
   | zero=>cases ha
   | succ m=>exact ⟨m,rfl⟩
  by_cases hlt:p < cells.length
  ·rw [decide_eq_true (by omega:(p:Int) < (cells.length:Int))];refine gU ?_;have hx:cells[p]?=some cells[p]:=List.getElem?_eq_getElem hlt;generalize cells[p]=x at hx
   have ha':(if cG x 0 99=false then some false else EH (mU n pat cells) pat cells p x)=some bb:=by have e:mU (n+1) pat cells p=some bb:=ha;unfold mU at e;rw [hx] at e;exact e
   have g0:=s1.dat g0;have g1:=s1.dat g1;refine aH (K:=K) (b:=!cG x 0 99) (bj (aW (a9 (R:=gm) (ae (aN (k:=p) (ab g0) (ab (Dat.intI (p:Int))) hx) (ae ak (ae ak aA))) ⟨x,0,99,rfl,rfl⟩))) (λcB G2 s2=>?_) (λcB G2 s2=>?_)
   ·rw [if_pos (gZ cB)] at ha';cases ha';exact post _ _ (sG.trans (s1.trans s2)) (Dat.blI _)
   ·have cw:=eU cB;rw [if_neg (by rw [cw];exact λz=>nomatch z)] at ha'
    cases x with
    | int c =>
     have ha':(match pC c with
      | some (nm,m)=>if (iB cells p m).length=m then (if (!decide (nm ∈ SS) || !((iB cells p m).map (r8 pat)).all id)=true then some false else mU n pat cells (p+1+m)) else none
      | none=>none)=some bb:=ha'
     have c0:0<=c:=by have z:(decide (0<=c) && decide (c<=99))=true:=cw;rw [Bool.and_eq_true] at z;exact of_decide_eq_true z.1
     cases hin:pC c with
     | none=>rw [hin] at ha';cases ha'
     | some nm =>
      obtain ⟨nm,m⟩:=nm;rw [hin] at ha';dsimp only at ha';by_cases hb:(iB cells p m).length=m
      ·rw [if_pos hb] at ha';have g0:=s2.dat g0;have g1:=s2.dat g1;refine mP (K:=K) (d:=.str nm) (e:=.tup (iB cells p m)) (a9 (R:=x8) (ae (ab g0) (ae (ab (Dat.intI (p:Int))) aA)) ⟨cells,p,c,nm,m,rfl,hx,c0,hin,hb,rfl⟩) λv3 v4 G3 s3 g3 g4=>?_;have g1:=s3.dat g1;have lb:=Dj (cells:=cells) (p:=p) (m:=m);refine aH (K:=K) (b:=!decide (nm ∈ SS) || !((iB cells p m).map (r8 pat)).all id) (bJ (ay (xE (ys:=SS) (ab g3) (nZ T.Iv))) λ_=>bj (aW (jE (rE (ab g4) (by omega) _ (by simp) rfl (λG4 i z vz d s4 hz hi hvz=>?_))))) (λc2 G4 s4=>?_) (λc2 G4 s4=>?_)
       ·rw [List.getElem?_map,List.getElem?_map,hz] at hi;cases hi;exact a9 (E:=E0) (R:=xY) (ae (ab hvz) (ae (ab (s4.dat g1)) aA)) ⟨z,pat,rfl,hp,rfl⟩
       ·rw [if_pos c2] at ha';cases ha';exact post _ _ (sG.trans (s1.trans (s2.trans (s3.trans s4)))) (Dat.blI _)
       ·rw [if_neg (by rw [c2];exact Bool.false_ne_true)] at ha';refine ⟨_,rfl,RE.use (d6 (K:=K) ak (cF (ab (s4.dat g4)))) λv5 G5 s5 q5=>?_⟩;refine ⟨p,1+((iB cells p m).length:Int),rfl,q5.intE,?_⟩;have ep:(p:Int)+(1+((iB cells p m).length:Int))=((p+1+m:Nat):Int):=by rw [hb];omega
        have he:=A0 hb hlt;refine ⟨⟨p+1+m,n,some v3,some v4,by rw [<- ep];rfl,sG.trans (s1.trans (s2.trans (s3.trans (s4.trans s5)))),ha',he⟩,?_⟩;show (200 - ((p:Int)+(1+((iB cells p m).length:Int)))).toNat < (200 - (p:Int)).toNat;omega
      ·rw [if_neg hb] at ha';cases ha'
    | _=>cases ha'
  ·rw [decide_eq_false (by omega:¬ (p:Int) < (cells.length:Int))];refine ik ?_
   have e:mU (n+1) pat cells p=some true:=by unfold mU;rw [List.getElem?_eq_none (by omega)]
   rw [e] at ha;cases ha;exact post _ _ (sG.trans s1) (Dat.blI _)
 ·intro σ G Q1 Q2 hQ hc;obtain ⟨v,e,v',e',p,ys,e2,hq,i,j,e3,e4,b,e5,q⟩:=hc;exact ⟨v,e,v',e',p,ys,e2,hq,i,j,e3,e4,b,e5,hQ _ _ q⟩
def uB:D->Bool
 | .str x=>decide (x="pick")
 | _=>false
def csD (pat:D):D->Option Bool
 | .tup l=>if (decide (1<=(l.length:Int)) && decide ((l.length:Int)<=12))=false then some false else mU (l.length+1) pat l 0
 | _=>some false
def nS:D->Option Bool
 | .tup [nm,pat,cs]=>if (!jf nm || (uB nm || !rq pat))=true then some false else csD pat cs
 | _=>some false
def Fq:D->Prop
 | .tup (nm::_)=>CI nm
 | _=>True
def um (ds:List D) (d:D):Prop:=∃ (x:D) (b:Bool),ds=[x]/\Fq x/\nS x=some b/\d=.bl b
variable {te:TE} {us:TS} {En:iU} {j:Nat} {e:D}
theorem rJ {K:W.Frag} {l:Nat} {f:D} (h:RE K te σ H (.tup [d,e,f])) (q:∀ v w x H',Same H H'->Dat K H' d v->Dat K H' e w->Dat K H' f x->us En (((σ.set i (some v)).set j (some w)).set l (some x)) H') :
  jK (oW te (qC K 3 (gx (bX i) (gx (bX j) (gx (bX l) sy))))) us En σ H :=
 h.use λx H1 s1 q1=>by obtain ⟨a,vs,e1,hq,hd⟩:=q1.tupE;obtain ⟨v,w,x,e2,hv,hw,hx⟩:=me hd;subst e1 e2;exact ⟨a,_,rfl,hq,rfl,v,_,rfl,w,_,rfl,x,_,rfl,rfl,q v w x H1 s1 hv hw hx⟩
theorem nz {x:D} (h:∀ y,x≠.tup y):jY x "tuple"=false:=by
 cases x with
 | tup y=>exact absurd rfl (h y)
 | _=>rfl
theorem zM {x:D} (h:∀ a b c,x≠.tup [a,b,c]):nS x=some false:=by
 unfold nS;split
 ·rename_i a b c;exact absurd rfl (h a b c)
 ·rfl
theorem DN {x:D} (h:rq x=true):ppD 3 x=true:=by unfold rq at h;rw [Bool.and_eq_true] at h;exact h.1
theorem zk {x:D} (h:jf x=true):∃ y,x=.str y:=by
 cases x with
 | str y=>exact ⟨y,rfl⟩
 | _=>cases h
theorem tj (T:Txt P w K mg) (Js:Ok P w base k T.HR (spD K x9)) (IL:Ok P w base k T.GZ (spD K C9)) (HV:Ok P w base k T.F5 (spD K C1)):Ok P w base (k+1) T.HF (spD K um):=by
 refine T.HF.f.ok sc_is_piece (λvs H Q E h=>?_) (λcdv A outer s H vs Q E hr h=>?_)
 ·obtain ⟨ds,d,hd,⟨x,bb,rfl,_⟩,_⟩:=h;exact hd.length.symm
 have nd:=sc_is_piece.nd;obtain ⟨ds,d,hd,⟨x,bb,rfl,hok,hpc,rfl⟩,post⟩:=h;obtain ⟨v0,rfl,h0⟩:=gW hd;refine ⟨_,(ao (a7 (PW.pt (cO (bP (bg (aP (dB gH) rfl T.Fu bF (bM (pv 0) (bM (eB (v:=.ty "tuple") rfl T.FT cg rfl) af))) (λ_=>rfl))) (cP (aC iP (aP aM rfl T.Fw bq (ag (pv 0) af)) aj (aJ _))))) (au (aF ck)) aL)
 (ao (fC (pv 0) (fe rfl (a8 (aQ (i:=1) nd rfl (Or.inl rfl)) (a8 (aQ (i:=2) nd rfl (Or.inl rfl)) (a8 (aQ (i:=3) nd rfl (Or.inl rfl)) cu)))))
 (ao (a7 (PW.pt (cO (bP (bg (pc (D:=T.HR) Js hr (ag (pv 1) af)) (λ_=>rfl))) (cO (aC bz (pv 1) aE (aJ _)) (cP (bP (bg (pc (D:=T.GZ) IL hr (ag (pv 2) af)) (λ_=>rfl))))))) (au (aF ck)) aL)
 (ao (a7 (PW.pt (cO (bP (bg (aP (dB gH) rfl T.Fu bF (bM (pv 3) (bM (eB (v:=.ty "tuple") rfl T.FT cg rfl) af))) (λ_=>rfl))) (cP (bP (nW iO iO aj (aP aM rfl T.Fw bq (ag (pv 3) af)) (bL (v:=.int 12) rfl T.FE ⟨_,rfl⟩)))))) (au (aF ck)) aL)
 (au (aF (pc (D:=T.F5) HV hr (ag (pv 3) (ag (pv 2) af))))))))),?_⟩
 by_cases h3:∃ a b c,x=.tup [a,b,c]
 ·obtain ⟨nm,pat,cs,rfl⟩:=h3;refine aH (K:=K) (b:=false) (RT.as (bJ (b:=false) (c:=false) (RT.as (bj (aW (bA (ab h0)))) rfl) λ_=>RT.as (ay (fN (cF (ab h0)) ak)) rfl) rfl) (λc=>nomatch c) (λ_ H1 s1=>?_);refine rJ (K:=K) (d:=nm) (e:=pat) (f:=cs) (ab (s1.dat h0)) λv1 v2 v3 H2 s2 h1 h2 h3=>?_;have hpc':(if (!jf nm || (uB nm || !rq pat))=true then some false else csD pat cs)=some bb:=hpc;refine aH (K:=K) (b:=!jf nm || (uB nm || !rq pat)) (bJ (bj (aW (a9 (R:=x9) (ae (ab h1) aA) ⟨nm,rfl,hok,rfl⟩))) λc=>bJ ?_ λ_=>bj (aW (a9 (R:=C9) (ae (ab h2) aA) ⟨pat,rfl,rfl⟩))) (λc H3 s3=>?_) (λc H3 s3=>?_)
  ·obtain ⟨y,rfl⟩:=zk (eU c);exact ay (aY (ab h1) az)
  ·rw [if_pos c] at hpc';cases hpc';exact aX (K:=K) (d:=.bl false) dJ λv H' s q=>post v H' (s1.trans (s2.trans (s3.trans s))) q
  ·rw [if_neg (by rw [c];exact Bool.false_ne_true)] at hpc';rw [Bool.or_eq_false_iff,Bool.or_eq_false_iff] at c;have hp:=DN (eU c.2.2);have h2:=s3.dat h2;have h3:=s3.dat h3;have s13:=s1.trans (s2.trans s3);by_cases hc:∃ l,cs=.tup l
   ·obtain ⟨l,rfl⟩:=hc;have hpc':(if (decide (1<=(l.length:Int)) && decide ((l.length:Int)<=12))=false then some false else mU (l.length+1) pat l 0)=some bb:=hpc';refine aH (K:=K) (b:=!(decide (1<=(l.length:Int)) && decide ((l.length:Int)<=12))) (RT.as (bJ (b:=false) (RT.as (bj (aW (bA (ab h3)))) rfl) λ_=>bj (ay (kH (p:=λi j=>decide (i<=j)) (r:=λi j=>decide (i<=j)) ak (cF (ab h3)) λ_=>ak))) (Bool.false_or _)) (λc4 H4 s4=>?_) (λc4 H4 s4=>?_)
    ·rw [if_pos (gZ c4)] at hpc';cases hpc';exact aX (K:=K) (d:=.bl false) dJ λv H' s q=>post v H' (s13.trans (s4.trans s)) q
    ·have c5:=eU c4;rw [if_neg (by rw [c5];exact λz=>nomatch z)] at hpc';rw [Bool.and_eq_true] at c5;have l12:=of_decide_eq_true c5.2;exact aX (K:=K) (d:=.bl bb) (a9 (R:=C1) (ae (ab (s4.dat h3)) (ae (ab (s4.dat h2)) aA)) ⟨l,pat,bb,rfl,hp,by omega,hpc',rfl⟩) λv H' s q=>post v H' (s13.trans (s4.trans s)) q
   ·have hc':∀ y,cs≠.tup y:=λy e=>hc ⟨y,e⟩
    have e:bb=false:=by
     cases cs with
     | tup y=>exact absurd rfl (hc' y)
     | _=>cases hpc';rfl
    refine aH (K:=K) (b:=true) (RT.as (bJ (b:=true) (c:=true) (RT.as (bj (aW (bA (ab h3)))) (by rw [nz hc'];rfl)) λc=>nomatch c) rfl) (λc4 H4 s4=>?_) (λc=>nomatch c);rw [e] at post;exact aX (K:=K) (d:=.bl false) dJ λv H' s q=>post v H' (s13.trans (s4.trans s)) q
 ·have h3':∀ a b c,x≠.tup [a,b,c]:=λa b c e=>h3 ⟨a,b,c,e⟩;rw [zM h3'] at hpc;cases hpc;refine aH (K:=K) (b:=true) ?_ (λc H1 s1=>?_) (λc=>nomatch c)
  ·by_cases ht:∃ l,x=.tup l
   ·obtain ⟨l,rfl⟩:=ht;refine RT.as (bJ (b:=false) (c:=true) (RT.as (bj (aW (bA (ab h0)))) rfl) λ_=>RT.as (ay (fN (cF (ab h0)) ak)) ?_) rfl
    have:¬ (l.length:Int)=3:=λe=>by
     match l,e with
     | [a,b,c],_=>exact h3' a b c rfl
     | [],h=>simp at h
     | [_],h=>simp at h
     | [_,_],h=>simp at h
     | _::_::_::_::_,h=>simp at h;omega
    rw [decide_eq_false this];rfl
   ·have ht':∀ y,x≠.tup y:=λy e=>ht ⟨y,e⟩;exact RT.as (bJ (b:=true) (c:=true) (RT.as (bj (aW (bA (ab h0)))) (by rw [nz ht'];rfl)) λc=>nomatch c) rfl
  ·exact aX (K:=K) (d:=.bl false) dJ λv H' s q=>post v H' (s1.trans s) q
variable {E:XK} {tA:TA} {Q:VK}
theorem hE {sp:Sp} {dvs:List V} (h:tA σ H λvs H1=>sp (vs++dvs) H1 Q E):iy sp dvs E tA σ H Q:=h
theorem cx {Q:List V->Hp->Prop} (h:te σ H λx H1=>tA σ H1 λxs H2=>Q (x::xs) H2):bC te tA σ H Q:=h
inductive Pa where
 | hole (i:Int)
 | gap (i m:Int)
 | slot (i:Int)
 | num (n:Int)
 | two (o:Str) (a b:Pa)
def toP:Pa->D
 | .hole i=>.tup [.str "hole",.int i]
 | .gap i m=>.tup [.str "gap",.int i,.int m]
 | .slot i=>.tup [.str "slot",.int i]
 | .num n=>.tup [.str "num",.int n]
 | .two o a b=>.tup [.str o,toP a,toP b]
abbrev okB (o:Str):Prop:=o="add"\/o="sub"\/o="mul"\/o="less"
def uF:Pa->Prop
 | .num n=>0<=n/\n<=9999
 | .two o a b=>okB o/\uF a/\uF b
 | _=>True
def cH:Pa->Nat
 | .two _ a b=>max (cH a) (cH b)+1
 | _=>1
theorem kY (p:Pa):1<=cH p:=by cases p <;> simp [cH]
abbrev Fnd:Type:=List Tr × List Int × List Int
def Dn (f g:Fnd):Fnd:=(f.1++g.1,f.2.1++g.2.1,f.2.2++g.2.2)
def bI:Pa->Tr->Option Fnd
 | .hole _,t=>some ([t],[],[])
 | .gap _ m,.num n=>if n<=m then some ([],[n],[]) else none
 | .gap _ _,_=>none
 | .slot _,.arg k=>some ([],[],[k])
 | .slot _,_=>none
 | .num n,.num m=>if m=n then some ([],[],[]) else none
 | .num _,_=>none
 | .two o a b,.two o' x y=>if o'=o then (match bI a x,bI b y with
  | some f,some g=>some (Dn f g)
  | _,_=>none) else none
 | .two _ _ _,_=>none
def Fn:Pa->Bool
 | .hole _=>true
 | .gap _ _=>true
 | .slot _=>true
 | _=>false
theorem yO (t:Tr) (ht:okT t):∃ kd r,toD t=.tup (.str kd::r)/\(kd="num"↔∃ n,t=.num n)/\(kd="arg"↔∃ n,t=.arg n):=by
 cases t with
 | num n=>exact ⟨_,_,rfl,⟨λ_=>⟨n,rfl⟩,λ_=>rfl⟩,⟨λe=>absurd e (by decide +kernel),λ⟨m,e⟩=>nomatch e⟩⟩
 | arg n=>exact ⟨_,_,rfl,⟨λe=>absurd e (by decide +kernel),λ⟨m,e⟩=>nomatch e⟩,⟨λ_=>⟨n,rfl⟩,λ_=>rfl⟩⟩
 | two o a b =>
  have h:o="add"\/o="sub"\/o="mul"\/o="less":=ht.1;refine ⟨_,_,rfl,⟨λe=>?_,λ⟨m,e⟩=>nomatch e⟩,⟨λe=>?_,λ⟨m,e⟩=>nomatch e⟩⟩
  ·subst e;exact absurd h (by decide +kernel)
  ·subst e;exact absurd h (by decide +kernel)
 | pick a b c=>exact ⟨_,_,rfl,⟨λe=>absurd e (by decide +kernel),λ⟨m,e⟩=>nomatch e⟩,⟨λe=>absurd e (by decide +kernel),λ⟨m,e⟩=>nomatch e⟩⟩
def j6 (ds:List D) (d:D):Prop:=∃ p t,ds=[toP p,toD t]/\Fn p=true/\okT t/\d=.bl (bI p t).isSome
variable {m:Int}
theorem sA {i:Int} (h:∀ n,t≠.num n):bI (.gap i m) t=none:=by
 cases t with
 | num n=>exact absurd rfl (h n)
 | _=>rfl
theorem pU {i:Int} (h:∀ n,t≠.arg n):bI (.slot i) t=none:=by
 cases t with
 | arg n=>exact absurd rfl (h n)
 | _=>rfl
theorem lE (T:Txt P w K mg)  : Ok P w base (k+1) T.Gx (spD K j6):=by
 refine T.Gx.f.ok sc_may_stand_for (λvs H Q E h=>?_) (λcdv A outer s H vs Q E hr h=>?_)
 ·obtain ⟨ds,d,hd,⟨p,t,rfl,_⟩,_⟩:=h;exact hd.length.symm
 have nd:=sc_may_stand_for.nd;obtain ⟨ds,d,hd,⟨p,t,rfl,hm,ht,rfl⟩,post⟩:=h;obtain ⟨v0,v1,rfl,h0,h1⟩:=fW hd;refine ⟨_,(ao (a7 (aC bz (aI aK (pv 0) aj) aE (aJ _)) (au (aF (gL (cR bz (aI aK (pv 1) aj) aE (aJ _)) (gM (cR iO (aI aK (pv 1) aj) (aI aK (pv 0) aj) (aJ _)))))) aL)
 (au (aF (zF (cR bz (aI aK (pv 0) aj) aE (aJ _)) (gM (cR bz (aI aK (pv 1) aj) aE (aJ _))))))),?_⟩
 obtain ⟨kd,r,ek,hnum,harg⟩:=yO t ht;have h1':Dat K H (.tup (.str kd::r)) v1:=by rw [<- ek];exact h1
 cases p with
 | hole i =>have h0:Dat K H (.tup [.str "hole",.int i]) v0:=h0;refine aH (K:=K) (b:=false) (RT.as (ay (aY (aN (k:=0) (ab h0) ak rfl) az)) (decide_eq_false (by decide +kernel))) (λc=>nomatch c) (λ_ H1 s1=>?_);exact aX (K:=K) (d:=.bl true) (RE.as (wB (b:=true) (c:=true) (RE.as (aY (aN (k:=0) (ab (s1.dat h0)) ak rfl) az) (congrArg D.bl (decide_eq_true rfl))) λc=>nomatch c) rfl) λv H' s q=>post v H' (s1.trans s) q
 | gap i m =>
  have h0:Dat K H (.tup [.str "gap",.int i,.int m]) v0:=h0;refine aH (K:=K) (b:=true) (RT.as (ay (aY (aN (k:=0) (ab h0) ak rfl) az)) (decide_eq_true rfl)) (λ_ H1 s1=>?_) (λc=>nomatch c);by_cases hn:∃ n,t=.num n
  ·obtain ⟨n,rfl⟩:=hn;have h1:Dat K H (.tup [.str "num",.int n]) v1:=h1;refine aX (K:=K) (d:=.bl (decide (n<=m))) (RE.as (cQ (b:=true) (RE.as (aY (aN (k:=0) (ab (s1.dat h1)) ak rfl) az) (congrArg D.bl (decide_eq_true rfl))) λ_=>bT (p:=λi j=>decide (i<=j)) (aN (k:=1) (ab (s1.dat h1)) ak rfl) (aN (k:=2) (ab (s1.dat h0)) ak rfl)) rfl) λv H' s q=>post v H' (s1.trans s) ?_
   have e:(bI (.gap i m) (.num n)).isSome=decide (n<=m):=by
    show (if n<=m then some _ else none).isSome=_;by_cases z:n<=m
    ·rw [if_pos z,decide_eq_true z];rfl
    ·rw [if_neg z,decide_eq_false z];rfl
   rw [e];exact q
  ·refine aX (K:=K) (d:=.bl false) (RE.as (cQ (b:=false) (c:=true) (RE.as (aY (aN (k:=0) (ab (s1.dat h1')) ak rfl) az) (congrArg D.bl (decide_eq_false (λe=>hn (hnum.mp e))))) λc=>nomatch c) rfl) λv H' s q=>post v H' (s1.trans s) ?_;rw [sA λn e=>hn ⟨n,e⟩];exact q
 | slot i =>
  have h0:Dat K H (.tup [.str "slot",.int i]) v0:=h0;refine aH (K:=K) (b:=false) (RT.as (ay (aY (aN (k:=0) (ab h0) ak rfl) az)) (decide_eq_false (by decide +kernel))) (λc=>nomatch c) (λ_ H1 s1=>?_);refine aX (K:=K) (d:=.bl (decide (kd="arg"))) (RE.as (wB (b:=false) (RE.as (aY (aN (k:=0) (ab (s1.dat h0)) ak rfl) az) (congrArg D.bl (decide_eq_false (by decide +kernel)))) λ_=>aY (aN (k:=0) (ab (s1.dat h1')) ak rfl) az) (congrArg D.bl (Bool.false_or _))) λv H' s q=>post v H' (s1.trans s) ?_;by_cases ha:∃ n,t=.arg n
  ·rw [decide_eq_true (harg.mpr ha)] at q;obtain ⟨n,rfl⟩:=ha;exact q
  ·rw [decide_eq_false (λe=>ha (harg.mp e))] at q;rw [pU λn e=>ha ⟨n,e⟩];exact q
 | num n=>cases hm
 | two o a b=>cases hm
def jv (K:W.Frag) (o:Addr->Addr->Addr->HO) (n:Nat):Sp:=λvs H Q _=>∃ (p:Pa) (t:Tr) (v0 v1:V) (f l0 l1 l2:Addr) (a b c:List V),vs=[v0,v1,.ref f]/\uF p/\okT t/\aS t<=8/\cH p<=n/\n<=3/\Dat K H (toP p) v0/\Dat K H (toD t) v1 /\
 H f=some (o l0 l1 l2)/\f≠l0/\f≠l1/\f≠l2/\Tri l0 l1 l2 H a b c/\a.length+2 ^ n<=100/\b.length+2 ^ n<=100/\c.length+2 ^ n<=100 /\
 ∀ (H':Hp) (a' b' c':List V),But3 l0 l1 l2 H H'->Tri l0 l1 l2 H' (a++a') (b++b') (c++c')->a'.length<=2 ^ n->b'.length<=2 ^ n->c'.length<=2 ^ n ->
  (∀ fd:Fnd,bI p t=some fd->Dats K H' (fd.1.map toD) a'/\Dats K H' (fd.2.1.map D.int) b'/\Dats K H' (fd.2.2.map D.int) c')->Q (.bl (bI p t).isSome) H'
def oD (l0 l1 l2:Addr):HO:=.dK [(Sum.inr "hole",.ref l0),(Sum.inr "gap",.ref l1),(Sum.inr "slot",.ref l2)]
theorem vY (l0 l1 l2:Addr):j5 ([(Sum.inr "hole",V.ref l0),(Sum.inr "gap",.ref l1),(Sum.inr "slot",.ref l2)]:List (Key × V)) (Sum.inr "hole")=some (.ref l0):=rfl
theorem zA (l0 l1 l2:Addr):j5 ([(Sum.inr "hole",V.ref l0),(Sum.inr "gap",.ref l1),(Sum.inr "slot",.ref l2)]:List (Key × V)) (Sum.inr "gap")=some (.ref l1):=rfl
theorem vZ (l0 l1 l2:Addr):j5 ([(Sum.inr "hole",V.ref l0),(Sum.inr "gap",.ref l1),(Sum.inr "slot",.ref l2)]:List (Key × V)) (Sum.inr "slot")=some (.ref l2):=rfl
variable {v:V}
theorem yI {f:Addr} {kvs:List (Key × V)} {x:Str} (h:H f=some (.dK kvs)) (e:j5 kvs (Sum.inr x)=some v):DGet H f (.str x) (some v):=by have g:=DGet.k (k:=Sum.inr x) h;rw [e] at g;exact g
theorem oF {k:Str} (h:k="hole"\/k="gap"\/k="slot"):KTD.inKeys k TM=true:=by rcases h with rfl | rfl | rfl <;> decide +kernel
variable {o:Str}
theorem AX (h:okB o):KTD.inKeys o TM=false/\¬ o="num":=by rcases h with rfl | rfl | rfl | rfl <;> decide +kernel
theorem zP (n:Nat):1<=2 ^ n:=Nat.one_le_iff_ne_zero.mpr (by simp)
theorem lI {α:Type} {x y:List α} (h1:x.length<=2 ^ n) (h2:y.length<=2 ^ n):(x++y).length<=2 ^ (n+1):=by rw [List.length_append,Nat.pow_succ];omega
variable {y:Tr} {fd:Fnd}
theorem de {o':Str} {a b:Pa} (h:bI (.two o a b) (.two o' x y)=some fd):o'=o/\∃ f g,bI a x=some f/\bI b y=some g/\fd=Dn f g:=by
 unfold bI at h;by_cases e:o'=o
 ·rw [if_pos e] at h
  cases h1:bI a x with
  | none=>rw [h1] at h;cases h
  | some f =>
   cases h2:bI b y with
   | none=>rw [h1,h2] at h;cases h
   | some g =>rw [h1,h2] at h;cases h;exact ⟨e,f,g,rfl,rfl,rfl⟩
 ·rw [if_neg e] at h;cases h
theorem gX {a b:Pa} (h:bI a x=none):bI (.two o a b) (.two o x y)=none:=by unfold bI;rw [if_pos rfl,h]
theorem m9 {a b:Pa} {f:Fnd} (h:bI a x=some f):(bI (.two o a b) (.two o x y)).isSome=(bI b y).isSome:=by show (if o=o then _ else none:Option Fnd).isSome=_;rw [if_pos rfl,h];cases bI b y <;> rfl
variable {kd:Str}
theorem sx {a b:Pa} (hp:okB o) (ek:toD t=.tup (.str kd::r)) (h:¬ kd=o):bI (.two o a b) t=none:=by
 cases t with
 | two o' x y =>unfold bI;rw [if_neg];intro e;apply h;have z:toD (.two o' x y)=.tup [.str o',toD x,toD y]:=rfl;rw [z] at ek;injection ek with ek;injection ek with ek _;injection ek with ek;rw [<- ek,e]
 | _=>rfl
theorem sF (ho:okB o) (ek:toD t=.tup (.str kd::r)) (h:kd=o):∃ x y,t=.two o x y:=by
 subst h
 cases t with
 | two o' x y =>have z:toD (.two o' x y)=.tup [.str o',toD x,toD y]:=rfl;rw [z] at ek;injection ek with ek;injection ek with ek _;injection ek with ek;subst ek;exact ⟨x,y,rfl⟩
 | num n =>have z:toD (.num n)=.tup [.str "num",.int n]:=rfl;rw [z] at ek;injection ek with ek;injection ek with ek _;injection ek with ek;subst ek;exact absurd ho (by decide +kernel)
 | arg n =>have z:toD (.arg n)=.tup [.str "arg",.int n]:=rfl;rw [z] at ek;injection ek with ek;injection ek with ek _;injection ek with ek;subst ek;exact absurd ho (by decide +kernel)
 | pick x y u =>have z:toD (.pick x y u)=.tup [.str "pick",toD x,toD y,toD u]:=rfl;rw [z] at ek;injection ek with ek;injection ek with ek _;injection ek with ek;subst ek;exact absurd ho (by decide +kernel)
theorem vX {o:Addr->Addr->Addr->HO} (vs:List V) (H:Hp) (Q:VK) (E:XK):¬ jv K o 0 vs H Q E:=λ⟨p,_,_,_,_,_,_,_,_,_,_,_,_,_,_,h,_⟩=>by have:=kY p;omega
theorem uM (T:Txt P w K mg) (Io:Ok P w base k T.Gx (spD K j6)) (HK:Ok P w base k T.GB (jv K oD n)):Ok P w base (k+1) T.GB (jv K oD (n+1)):=by
 refine T.GB.f.ok sc_matches (λvs H Q E h=>?_) (λcdv A outer s H vs Q E hr h=>?_)
 ·obtain ⟨p,t,v0,v1,f,l0,l1,l2,a,b,c,rfl,_⟩:=h;rfl
 have nd:=sc_matches.nd;obtain ⟨p,t,v0,v1,f,l0,l1,l2,a,b,c,rfl,okp,okt,dpt,hn,hn3,h0,h1,hf,f0,f1,f2,tri,la,lb,lc,post⟩:=h;refine ⟨_,(ao (bo (i:=3) nd rfl (Or.inl rfl) (aI aK (pv 0) aj))
 (ao (a7 (aC kz (pv 3) (bL (v:=.ref T.FO) rfl T.FH rfl) (by with_unfolding_all rfl)) (ao (a7 (bP (bg (pc (D:=T.Gx) Io hr (ag (pv 0) (ag (pv 1) af))) (λ_=>rfl))) (au (aF ck)) aL)
 (ao (bu (dk F.plainAttrs_list F.slot_list_append F.type_list_append br (mI (vQ hr) (pv 2) (pv 3) (λ_ _=>rfl)) (ag (dQ (aC bz (pv 3) aE (aJ _)) (pv 1) (aI aK (pv 1) aj)) af)))
 (au (aF ck)))) aL)
 (ao (a7 (aC iP (aI aK (pv 1) aj) (pv 3) (aJ _)) (au (aF ck)) aL)
 (ao (a7 (aC bz (pv 3) aE (aJ _)) (au (aF (cR bz (aI aK (pv 1) aj) (aI aK (pv 0) aj) (aJ _)))) aL)
 (au (aF (gL (pc (D:=T.GB) HK hr (ag (aI aK (pv 0) aj) (ag (aI aK (pv 1) aj) (ag (pv 2) af)))) (gM (pc (D:=T.GB) HK hr (ag (aI aK (pv 0) aj) (ag (aI aK (pv 1) aj) (ag (pv 2) af)))))))))))),?_⟩
 obtain ⟨kd,r,ek,hnum,harg⟩:=yO t okt;have hf':∀ {G:Hp},But3 l0 l1 l2 H G->G f=some (oD l0 l1 l2):=λbb=>bb _ _ f0 f1 f2 hf;have p1:=zP (n+1);have p2:2 ^ (n+1)=2 * 2 ^ n:=by rw [Nat.pow_succ,Nat.mul_comm]
 cases p with
 | hole i =>have h0:Dat K H (.tup [.str "hole",.int i]) v0:=h0;refine eT (K:=K) (d:=.str "hole") (aN (k:=0) (ab h0) ak rfl) λv3 H1 s1 q3=>?_;have ev:=q3.strE;subst ev;refine aH (K:=K) (b:=true) (RT.as (ay (f9 (ab q3) T.Fv)) (oF (.inl rfl))) (λ_ H2 s2=>?_) (λc=>nomatch c);have s12:=s1.trans s2;refine aH (K:=K) (b:=!true) (bj (aW (a9 (R:=j6) (d:=.bl true) (ae (ab (s12.dat h0)) (ae (ab (s12.dat h1)) aA)) ⟨.hole i,t,rfl,rfl,okt,rfl⟩))) (λc=>nomatch c) (λ_ H3 s3=>?_);have s13:=s12.trans s3;refine cf ⟨_,rfl,_,rfl,f,.ref l0,rfl,yI (s13 _ _ hf) (vY l0 l1 l2),.inl ⟨rfl,_,SqL.of (s13 _ _ tri.h0)⟩,?_⟩;refine RE.use (K:=K) (d:=toD t) (kJ (b:=true) (RT.as (ay (K:=K) (aY (ab (Dat.strI "hole")) az)) (decide_eq_true rfl)) (λ_=>ab (s13.dat h1)) (λc=>nomatch c)) λy H4 s4 q4=>?_;have s14:=s13.trans s4;have tri4:=tri.same s14;refine ⟨l0,a,y,rfl,rfl,tri4.h0,bx (by omega),?_⟩;obtain ⟨t5,b5⟩:=tri4.p0 (v:=y);refine post _ [y] [] [] (s14.but3.trans b5) t5 (by simpa using p1) (by simp) (by simp) λfd e=>?_;cases e;exact ⟨Dats.cons (Dat.mono (b5.grow tri4 t5) _ q4) Dats.nil,Dats.nil,Dats.nil⟩
 | gap i m =>
  have h0:Dat K H (.tup [.str "gap",.int i,.int m]) v0:=h0;refine eT (K:=K) (d:=.str "gap") (aN (k:=0) (ab h0) ak rfl) λv3 H1 s1 q3=>?_;have ev:=q3.strE;subst ev;refine aH (K:=K) (b:=true) (RT.as (ay (f9 (ab q3) T.Fv)) (oF (.inr (.inl rfl)))) (λ_ H2 s2=>?_) (λc=>nomatch c);have s12:=s1.trans s2;refine aH (K:=K) (b:=!(bI (.gap i m) t).isSome) (bj (aW (a9 (R:=j6) (ae (ab (s12.dat h0)) (ae (ab (s12.dat h1)) aA)) ⟨.gap i m,t,rfl,rfl,okt,rfl⟩))) (λcN H3 s3=>?_) (λcS H3 s3=>?_)
  ·have s13:=s12.trans s3;have e:(bI (.gap i m) t).isSome=false:=gZ cN;refine aX (K:=K) (d:=.bl false) dJ λv H' s qq=>?_;rw [qq.blE,<- e];have s14:=s13.trans s;exact post _ [] [] [] s14.but3 (tri.same s14).nil (by simp) (by simp) (by simp) λfd z=>by rw [z] at e;cases e
  ·have s13:=s12.trans s3
   obtain ⟨nn,rfl⟩:∃ nn,t=.num nn:=by
    have cS':=eU cS
    cases t with
    | num nn=>exact ⟨nn,rfl⟩
    | _=>cases cS'
   have h1:Dat K H (.tup [.str "num",.int nn]) v1:=h1;refine cf ⟨_,rfl,_,rfl,f,.ref l1,rfl,yI (s13 _ _ hf) (zA l0 l1 l2),.inl ⟨rfl,_,SqL.of (s13 _ _ tri.h1)⟩,?_⟩;refine RE.use (K:=K) (d:=.int nn) (kJ (b:=false) (RT.as (ay (K:=K) (aY (ab (Dat.strI "gap")) az)) (decide_eq_false (by decide +kernel))) (λc=>nomatch c) (λ_=>aN (k:=1) (ab (s13.dat h1)) ak rfl)) λy H4 s4 q4=>?_;have s14:=s13.trans s4;have tri4:=tri.same s14;refine ⟨l1,b,y,rfl,rfl,tri4.h1,bx (by omega),?_⟩;obtain ⟨t5,b5⟩:=tri4.p1 (v:=y);have e:=eU cS;show Q (.bl true) _;rw [<- e];refine post _ [] [y] [] (s14.but3.trans b5) t5 (by simp) (by simpa using p1) (by simp) λfd z=>?_;have z':(if nn<=m then some ([],[nn],[]) else none:Option Fnd)=some fd:=z;by_cases hm:nn<=m
   ·rw [if_pos hm] at z';cases z';exact ⟨Dats.nil,Dats.cons (Dat.mono (b5.grow tri4 t5) _ q4) Dats.nil,Dats.nil⟩
   ·rw [if_neg hm] at z';cases z'
 | slot i =>
  have h0:Dat K H (.tup [.str "slot",.int i]) v0:=h0;refine eT (K:=K) (d:=.str "slot") (aN (k:=0) (ab h0) ak rfl) λv3 H1 s1 q3=>?_;have ev:=q3.strE;subst ev;refine aH (K:=K) (b:=true) (RT.as (ay (f9 (ab q3) T.Fv)) (oF (.inr (.inr rfl)))) (λ_ H2 s2=>?_) (λc=>nomatch c);have s12:=s1.trans s2;refine aH (K:=K) (b:=!(bI (.slot i) t).isSome) (bj (aW (a9 (R:=j6) (ae (ab (s12.dat h0)) (ae (ab (s12.dat h1)) aA)) ⟨.slot i,t,rfl,rfl,okt,rfl⟩))) (λcN H3 s3=>?_) (λcS H3 s3=>?_)
  ·have s13:=s12.trans s3;have e:(bI (.slot i) t).isSome=false:=gZ cN;refine aX (K:=K) (d:=.bl false) dJ λv H' s qq=>?_;rw [qq.blE,<- e];have s14:=s13.trans s;exact post _ [] [] [] s14.but3 (tri.same s14).nil (by simp) (by simp) (by simp) λfd z=>by rw [z] at e;cases e
  ·have s13:=s12.trans s3
   obtain ⟨nn,rfl⟩:∃ nn,t=.arg nn:=by
    have cS':=eU cS
    cases t with
    | arg nn=>exact ⟨nn,rfl⟩
    | _=>cases cS'
   have h1:Dat K H (.tup [.str "arg",.int nn]) v1:=h1;refine cf ⟨_,rfl,_,rfl,f,.ref l2,rfl,yI (s13 _ _ hf) (vZ l0 l1 l2),.inl ⟨rfl,_,SqL.of (s13 _ _ tri.h2)⟩,?_⟩;refine RE.use (K:=K) (d:=.int nn) (kJ (b:=false) (RT.as (ay (K:=K) (aY (ab (Dat.strI "slot")) az)) (decide_eq_false (by decide +kernel))) (λc=>nomatch c) (λ_=>aN (k:=1) (ab (s13.dat h1)) ak rfl)) λy H4 s4 q4=>?_;have s14:=s13.trans s4;have tri4:=tri.same s14;refine ⟨l2,c,y,rfl,rfl,tri4.h2,bx (by omega),?_⟩;obtain ⟨t5,b5⟩:=tri4.p2 (v:=y);have e:=eU cS;show Q (.bl true) _;rw [<- e];refine post _ [] [] [y] (s14.but3.trans b5) t5 (by simp) (by simp) (by simpa using p1) λfd z=>?_;cases z;exact ⟨Dats.nil,Dats.nil,Dats.cons (Dat.mono (b5.grow tri4 t5) _ q4) Dats.nil⟩
 | num m =>
  have h0:Dat K H (.tup [.str "num",.int m]) v0:=h0;have h1':Dat K H (.tup (.str kd::r)) v1:=by rw [<- ek];exact h1
  refine eT (K:=K) (d:=.str "num") (aN (k:=0) (ab h0) ak rfl) λv3 H1 s1 q3=>?_;refine aH (K:=K) (b:=false) (RT.as (ay (f9 (ab q3) T.Fv)) (by decide +kernel)) (λc=>nomatch c) (λ_ H2 s2=>?_);have s12:=s1.trans s2;refine aH (K:=K) (b:=!decide (kd="num")) (ay (rF (aN (k:=0) (ab (s12.dat h1')) ak rfl) (ab (s2.dat q3)))) (λcN H3 s3=>?_) (λcS H3 s3=>?_)
  ·have s13:=s12.trans s3;have hne:¬ kd="num":=of_decide_eq_false (gZ cN)
   have e:bI (.num m) t=none:=by
    cases t with
    | num n=>exact absurd (hnum.mpr ⟨n,rfl⟩) hne
    | _=>rfl
   refine aX (K:=K) (d:=.bl false) dJ λv H' s qq=>?_;rw [qq.blE];have s14:=s13.trans s;have pz:=post _ [] [] [] s14.but3 (tri.same s14).nil (by simp) (by simp) (by simp) λfd z=>by rw [e] at z;cases z
   rw [e] at pz;exact pz
  ·have s13:=s12.trans s3;obtain ⟨nn,rfl⟩:=hnum.mp (of_decide_eq_true (eU cS));have h1:Dat K H (.tup [.str "num",.int nn]) v1:=h1;refine aH (K:=K) (b:=true) (RT.as (ay (aY (ab ((s2.trans s3).dat q3)) az)) (decide_eq_true rfl)) (λ_ H4 s4=>?_) (λc=>nomatch c);have s14:=s13.trans s4;refine aX (K:=K) (d:=.bl (decide (nn=m))) (n6 (aN (k:=1) (ab (s14.dat h1)) ak rfl) (aN (k:=1) (ab (s14.dat h0)) ak rfl)) λv H' s qq=>?_;rw [qq.blE];have s15:=s14.trans s
   have pz:=post _ [] [] [] s15.but3 (tri.same s15).nil (by simp) (by simp) (by simp) λfd z=>by
    have z':(if nn=m then some ([],[],[]) else none:Option Fnd)=some fd:=z;by_cases hm:nn=m
    ·rw [if_pos hm] at z';cases z';exact ⟨Dats.nil,Dats.nil,Dats.nil⟩
    ·rw [if_neg hm] at z';cases z'
   have e:(bI (.num m) (.num nn)).isSome=decide (nn=m):=by
    show (if nn=m then some _ else none:Option Fnd).isSome=_;by_cases hm:nn=m
    ·rw [if_pos hm,decide_eq_true hm];rfl
    ·rw [if_neg hm,decide_eq_false hm];rfl
   rw [e] at pz;exact pz
 | two o pa pb =>
  have h0:Dat K H (.tup [.str o,toP pa,toP pb]) v0:=h0;have h1':Dat K H (.tup (.str kd::r)) v1:=by rw [<- ek];exact h1
  obtain ⟨b1,b2⟩:=AX okp.1;refine eT (K:=K) (d:=.str o) (aN (k:=0) (ab h0) ak rfl) λv3 H1 s1 q3=>?_;refine aH (K:=K) (b:=false) (RT.as (ay (f9 (ab q3) T.Fv)) b1) (λc=>nomatch c) (λ_ H2 s2=>?_);have s12:=s1.trans s2;refine aH (K:=K) (b:=!decide (kd=o)) (ay (rF (aN (k:=0) (ab (s12.dat h1')) ak rfl) (ab (s2.dat q3)))) (λcN H3 s3=>?_) (λcS H3 s3=>?_)
  ·have s13:=s12.trans s3;have e:=sx (a:=pa) (b:=pb) okp.1 ek (of_decide_eq_false (gZ cN));refine aX (K:=K) (d:=.bl false) dJ λv H' s qq=>?_;rw [qq.blE];have s14:=s13.trans s;have pz:=post _ [] [] [] s14.but3 (tri.same s14).nil (by simp) (by simp) (by simp) λfd z=>by rw [e] at z;cases z
   rw [e] at pz;exact pz
  ·have s13:=s12.trans s3;obtain ⟨x,y,rfl⟩:=sF okp.1 ek (of_decide_eq_true (eU cS));have h1:Dat K H (.tup [.str o,toD x,toD y]) v1:=h1;refine aH (K:=K) (b:=false) (RT.as (ay (aY (ab ((s2.trans s3).dat q3)) az)) (decide_eq_false b2)) (λc=>nomatch c) (λ_ H4 s4=>?_);have s14:=s13.trans s4;have dpa:cH pa<=n:=by simp only [cH] at hn;omega
   have dpb:cH pb<=n:=by simp only [cH] at hn;omega
   have dpx:aS x<=8:=by simp only [aS] at dpt;omega
   have dpy:aS y<=8:=by simp only [aS] at dpt;omega
   refine RE.use (K:=K) (d:=toP pa) (aN (k:=1) (ab (s14.dat h0)) ak rfl) λw0 H5 s5 q5=>?_;refine RE.use (K:=K) (d:=toD x) (aN (k:=1) (ab ((s14.trans s5).dat h1)) ak rfl) λw1 H6 s6 q6=>?_;have s16:=s14.trans (s5.trans s6);have tri6:=tri.same s16;refine ⟨_,rfl,pa,x,w0,w1,f,l0,l1,l2,a,b,c,rfl,okp.2.1,okt.2.1,dpx,dpa,by omega,s6.dat q5,q6,s16 _ _ hf,f0,f1,f2,tri6,by omega,by omega,by omega,λH7 a1 b1' c1 bb7 tri7 ka kb kc d7=>?_⟩;refine ⟨_,rfl,?_⟩
   have n8:2 ^ n<=8:=by
    have:n<=3:=by omega
    match n,this with
    | 0,_=>decide
    | 1,_=>decide
    | 2,_=>decide
    | 3,_=>decide
   have g67:dH K H6 H7:=bb7.grow tri6 tri7;have bb17:But3 l0 l1 l2 H H7:=s16.but3.trans bb7
   cases hfa:bI pa x with
   | none =>
    refine ik ?_;have pz:=post H7 a1 b1' c1 bb17 tri7 (Nat.le_trans ka (Nat.pow_le_pow_right (by decide) (by omega))) (Nat.le_trans kb (Nat.pow_le_pow_right (by decide) (by omega))) (Nat.le_trans kc (Nat.pow_le_pow_right (by decide) (by omega))) λfd z=>by rw [gX hfa] at z;cases z
    rw [gX hfa] at pz;exact pz
   | some fa =>
    refine gU ?_;obtain ⟨da,db,dc⟩:=d7 fa hfa;refine hE (cx (RE.use (K:=K) (d:=toP pb) (aN (k:=2) (ab (Dat.mono g67 _ (s16.dat h0))) ak rfl) λw2 H8 s8 q8=>?_));refine cx (RE.use (K:=K) (d:=toD y) (aN (k:=2) (ab (s8.dat (Dat.mono g67 _ (s16.dat h1)))) ak rfl) λw3 H9 s9 q9=>?_);have s79:=s8.trans s9;have tri9:=tri7.same s79;refine ⟨_,rfl,pb,y,w2,w3,f,l0,l1,l2,a++a1,b++b1',c++c1,rfl,okp.2.2,okt.2.2,dpy,dpb,by omega,s9.dat q8,q9,s79 _ _ (hf' bb17),f0,f1,f2,tri9,by rw [List.length_append];omega,by rw [List.length_append];omega,by rw [List.length_append];omega,λH10 a2 b2' c2 bb10 tri10 ma mb mc d10=>?_⟩;have g:=bb10.grow (K:=K) tri9 tri10;rw [List.append_assoc,List.append_assoc,List.append_assoc] at tri10
    have pz:=post H10 (a1++a2) (b1'++b2') (c1++c2) (bb17.trans (s79.but3.trans bb10)) tri10 (lI ka ma) (lI kb mb) (lI kc mc) λfd z=>by
     obtain ⟨_,f',g',e1,e2,e3⟩:=de z;rw [hfa] at e1;cases e1;obtain ⟨da2,db2,dc2⟩:=d10 g' e2;subst e3;refine ⟨?_,?_,?_⟩
     ·show Dats K H10 ((fa.1++g'.1).map toD) _;rw [List.map_append];exact Dats.append (Dats.mono g _ (s79.dats da)) da2
     ·show Dats K H10 ((fa.2.1++g'.2.1).map D.int) _;rw [List.map_append];exact Dats.append (Dats.mono g _ (s79.dats db)) db2
     ·show Dats K H10 ((fa.2.2++g'.2.2).map D.int) _;rw [List.map_append];exact Dats.append (Dats.mono g _ (s79.dats dc)) dc2
    rw [m9 hfa] at pz;exact pz
def fdD:Option Fnd->D
 | none=>.non
 | some f=>.tup [.tup (f.1.map toD),.tup (f.2.1.map D.int),.tup (f.2.2.map D.int)]
def mS (ds:List D) (d:D):Prop:=∃ nm p cs t,ds=[.tup [nm,toP p,cs],toD t]/\uF p/\okT t/\aS t<=8/\cH p<=3/\d=fdD (bI p t)
theorem DG (x y z:V):lq [] ([(Sum.inr (Str.ofString "hole"),x),(Sum.inr (Str.ofString "gap"),y),(Sum.inr (Str.ofString "slot"),z)]:List (Key × V))=[(Sum.inr (Str.ofString "hole"),x),(Sum.inr (Str.ofString "gap"),y),(Sum.inr (Str.ofString "slot"),z)]:=rfl
theorem EV {K:W.Frag} {ts:TS} (h:te σ H λx H'=>∃ k,yd K x H' k/\if (!k)=true then ts { En with nx:=us En } σ H' else us En σ H'):jK (Cp (Ei (λσ H Q=>te σ H λx H'=>∃ k,yd K x H' k/\Q k H')) ts wG) us En σ H:=h
theorem sZ (T:Txt P w K mg) (HK:Ok P w base k T.GB (jv K oD 3)):Ok P w base (k+1) T.GM (spD K mS):=by
 refine T.GM.f.ok sc_found_in (λvs H Q E h=>?_) (λcdv A outer s H vs Q E hr h=>?_)
 ·obtain ⟨ds,d,hd,⟨nm,p,cs,t,rfl,_⟩,_⟩:=h;exact hd.length.symm
 have nd:=sc_found_in.nd;obtain ⟨ds,d,hd,⟨nm,p,cs,t,rfl,okp,okt,dpt,dpp,rfl⟩,post⟩:=h;obtain ⟨v0,v1,rfl,h0,h1⟩:=fW hd;refine' ⟨_,?ybody,?yread⟩
 case ybody =>
  refine' ao ?y26 ?y27
  case y26 =>
   refine' bo (i:=2) ?y15 ?y16 ?y17 ?y18
   case y15=>exact nd
   case y16=>exact rfl
   case y17=>exact Or.inl rfl
   case y18 =>
    refine' BQ ?y10 ?y11 ?y12 ?y13 ?y14
    case y10 =>
     refine' nV ?y7 ?y8 ?y9
     case y7=>exact aE
     case y8=>exact (bh af)
     case y9 =>
      refine' nV ?y4 ?y5 ?y6
      case y4=>exact aE
      case y5=>exact (bh af)
      case y6 =>
       refine' nV ?y1 ?y2 ?y3
       case y1=>exact aE
       case y2=>exact (bh af)
       case y3=>exact BZ
    case y11=>exact rfl
    case y12=>exact rfl
    case y13=>simp
    case y14=>decide
  case y27 =>
   refine' ao ?y24 ?y25
   case y24 =>
    refine' a7 ?y20 ?y21 ?y22
    case y20=>exact (bP (bg (pc (D:=T.GB) HK hr (ag (aI aK (pv 0) aj) (ag (pv 1) (ag (pv 2) af)))) (λ_=>rfl)))
    case y21 =>
     refine' au ?y19
     case y19=>exact (aF dN)
    case y22=>exact aL
   case y25 =>
    refine' au ?y23
    case y23=>exact (aF (aU (ag (cI bV rfl T.FT cg (ag (mI (vQ hr) (pv 2) aE (λ_ _=>rfl)) af)) (ag (cI bV rfl T.FT cg (ag (mI (vQ hr) (pv 2) aE (λ_ _=>rfl)) af)) (ag (cI bV rfl T.FT cg (ag (mI (vQ hr) (pv 2) aE (λ_ _=>rfl)) af)) af)))))
 case yread =>
  refine c6 (λf hf=>⟨bU (by decide),λl0 hl0=>⟨bU (by decide),λl1 hl1=>⟨bU (by decide),λl2 hl2=>⟨?_,[(Sum.inr "hole",.ref l0),(Sum.inr "gap",.ref l1),(Sum.inr "slot",.ref l2)],rfl,by simp,?_⟩⟩⟩⟩)
  ·rw [aO (aB (by rw [aO (aB (by rw [aO (aB aq hl0)];exact aq) hl1),aO (aB aq hl0)];exact aq) hl2),aO (aB (by rw [aO (aB aq hl0)];exact aq) hl1),aO (aB aq hl0)];exact aq
  rw [DG];have n0f:f≠l0:=aB aq hl0;have n1f:f≠l1:=aB (by rw [aO n0f];exact aq) hl1;have n10:l0≠l1:=aB aq hl1;have n2f:f≠l2:=aB (by rw [aO n1f,aO n0f];exact aq) hl2;have n20:l0≠l2:=aB (by rw [aO n10];exact aq) hl2;have n21:l1≠l2:=aB aq hl2;generalize hG:upd (upd (upd (upd (upd H f (.dK [])) l0 (.lst [])) l1 (.lst [])) l2 (.lst [])) f (.dK [(Sum.inr "hole",V.ref l0),(Sum.inr "gap",.ref l1),(Sum.inr "slot",.ref l2)])=G;have gf:G f=some (oD l0 l1 l2):=by rw [<- hG];exact aq
  have tri:Tri l0 l1 l2 G [] [] []:=by
   rw [<- hG];refine ⟨?_,?_,?_,n10,n20,n21⟩
   ·rw [aO (Ne.symm n0f),aO n20,aO n10];exact aq
   ·rw [aO (Ne.symm n1f),aO n21];exact aq
   ·rw [aO (Ne.symm n2f)];exact aq
  have sG:Same H G:=λx o hx=>by have zf:=aB hx hf;have z0:x≠l0:=aB (by rw [aO zf];exact hx) hl0;have z1:x≠l1:=aB (by rw [aO z0,aO zf];exact hx) hl1;have z2:x≠l2:=aB (by rw [aO z1,aO z0,aO zf];exact hx) hl2;rw [<- hG,aO zf,aO z2,aO z1,aO z0,aO zf];exact hx
  have free0:H l0=none:=by rw [aO (Ne.symm n0f)] at hl0;exact hl0
  have free1:H l1=none:=by rw [aO (Ne.symm n10),aO (Ne.symm n1f)] at hl1;exact hl1
  have free2:H l2=none:=by rw [aO (Ne.symm n21),aO (Ne.symm n20),aO (Ne.symm n2f)] at hl2;exact hl2
  refine EV (K:=K) (hE (cx (RE.use (K:=K) (d:=toP p) (aN (k:=1) (ab (sG.dat h0)) ak rfl) λw0 G1 s1 q0=>?_)));refine ⟨_,rfl,_,rfl,p,t,w0,v1,f,l0,l1,l2,[],[],[],rfl,okp,okt,dpt,dpp,by decide,q0,(sG.trans s1).dat h1,s1 _ _ gf,n0f,n1f,n2f,tri.same s1,by decide,by decide,by decide,λH' a' b' c' bb tri' _ _ _ dd=>⟨_,rfl,?_⟩⟩;have sm:Same H H':=λx o hx=>bb x o (aB hx free0) (aB hx free1) (aB hx free2) (s1 _ _ (sG _ _ hx))
  cases hft:bI p t with
  | none =>refine gU ?_;rw [hft] at post;exact post _ _ sm Dat.nonI
  | some fd =>refine ik ?_;obtain ⟨d0,d1,d2⟩:=dd fd hft;have gf':H' f=some (.dK [(Sum.inr "hole",V.ref l0),(Sum.inr "gap",.ref l1),(Sum.inr "slot",.ref l2)]):=bb _ _ n0f n1f n2f (s1 _ _ gf);rw [hft] at post;exact aX (K:=K) (d:=fdD (some fd)) (aZ (ae (lO gf' (vY l0 l1 l2) tri'.h0 d0) (ae (lO gf' (zA l0 l1 l2) tri'.h1 d1) (ae (lO gf' (vZ l0 l1 l2) tri'.h2 d2) aA)))) λv H'' s qq=>post v H'' (sm.trans s) qq
abbrev oY (ds:List D) (d:D):Prop:=∃ x,ds=[x]/\fR x=true/\d=.non
abbrev LPD:List D:=[.tup [.str "inc",.tup [.str "add",.tup [.str "hole",.int 0],.tup [.str "num",.int 1]],.tup [.int 12,.int 1]],
 .tup [.str "both",.tup [.str "add",.tup [.str "slot",.int 0],.tup [.str "slot",.int 1]],.tup [.int 3,.tup [.str "arg",.int 0],.int 3,.tup [.str "arg",.int 1],.int 4]],
 .tup [.str "twofold",.tup [.str "mul",.tup [.str "hole",.int 0],.tup [.str "num",.int 2]],.tup [.int 13,.int 4]],
 .tup [.str "fewer",.tup [.str "sub",.tup [.str "hole",.int 0],.tup [.str "gap",.int 0,.int 99]],.tup [.int 1,.tup [.str "low",.int 0],.int 5]],
 .tup [.str "addmul",.tup [.str "add",.tup [.str "mul",.tup [.str "hole",.int 0],.tup [.str "hole",.int 1]],.tup [.str "gap",.int 0,.int 99]],.tup [.int 6,.int 12,.tup [.str "low",.int 0]]],
 .tup [.str "turned",.tup [.str "less",.tup [.str "gap",.int 0,.int 99],.tup [.str "hole",.int 0]],.tup [.int 1,.tup [.str "low",.int 0],.int 14,.int 7]],
 .tup [.str "far",.tup [.str "add",.tup [.str "hole",.int 0],.tup [.str "gap",.int 0,.int 9999]],.tup [.int 2,.tup [.str "low",.int 0],.tup [.str "high",.int 0],.int 4]],
 .tup [.str "pair",.tup [.str "sub",.tup [.str "gap",.int 0,.int 99],.tup [.str "gap",.int 1,.int 99]],.tup [.int 1,.tup [.str "low",.int 0],.int 1,.tup [.str "low",.int 1],.int 5]]]
theorem nM (T:Txt P w K mg)  : Ok P w base (k+1) T.Gb (hV K λds es=>ds=[]/\es=LPD):=by
 refine T.Gb.f.ok sc__law_pieces (λvs H Q E h=>?_) (λcdv A outer s H vs Q E hr h=>?_)
 ·obtain ⟨ds,es,hd,⟨rfl,rfl⟩,_⟩:=h;exact hd.length.symm
 have nd:=sc__law_pieces.nd;obtain ⟨ds,es,hd,⟨rfl,rfl⟩,post⟩:=h;have ez:=hd.nilE;subst ez;refine' ⟨_,?ybody,?yread⟩
 case ybody =>
  refine' ao ?y278 ?y279
  case y278 =>
   refine' fC ?y35 ?y36 ?y37 ?y38
   case y35 =>
    refine' aU ?y34
    case y34 =>
     refine' ag ?y32 ?y33
     case y32=>exact (aU (ag aE (ag aj af)))
     case y33 =>
      refine' ag ?y30 ?y31
      case y30=>exact (aU (ag aE (ag aj af)))
      case y31 =>
       refine' ag ?y28 ?y29
       case y28=>exact (aU (ag aE (ag aj (ag aj af))))
       case y29=>exact af
   case y36=>exact (fe rfl (a8 (aQ (i:=0) nd rfl (Or.inl rfl)) (a8 (aQ (i:=1) nd rfl (Or.inl rfl)) (a8 (aQ (i:=2) nd rfl (Or.inl rfl)) cu))))
   case y37=>rfl
   case y38=>kernel_rfl
  case y279 =>
   refine' ao ?y276 ?y277
   case y276 =>
    refine' bo (i:=3) ?y56 ?y57 ?y58 ?y59
    case y56=>exact nd
    case y57=>exact rfl
    case y58=>exact Or.inl rfl
    case y59 =>
     refine' bh ?y55
     case y55 =>
      refine' ag ?y53 ?y54
      case y53 =>
       refine' aU ?y52
       case y52 =>
        refine' ag ?y50 ?y51
        case y50=>exact aE
        case y51 =>
         refine' ag ?y48 ?y49
         case y48 =>
          refine' aU ?y45
          case y45 =>
           refine' ag ?y43 ?y44
           case y43=>exact aE
           case y44 =>
            refine' ag ?y41 ?y42
            case y41=>exact (pv 0)
            case y42 =>
             refine' ag ?y39 ?y40
             case y39=>exact (aU (ag aE (ag aj af)))
             case y40=>exact af
         case y49 =>
          refine' ag ?y46 ?y47
          case y46=>exact (aU (ag aj (ag aj af)))
          case y47=>exact af
      case y54=>exact af
   case y277 =>
    refine' ao ?y274 ?y275
    case y274 =>
     refine' bu ?y93
     case y93 =>
      refine' dk ?y87 ?y88 ?y89 ?y90 ?y91 ?y92
      case y87=>exact F.plainAttrs_list
      case y88=>exact F.slot_list_append
      case y89=>exact F.type_list_append
      case y90=>exact br
      case y91=>exact (pv 3)
      case y92 =>
       refine' ag ?y85 ?y86
       case y85 =>
        refine' aU ?y84
        case y84 =>
         refine' ag ?y82 ?y83
         case y82=>exact aE
         case y83 =>
          refine' ag ?y80 ?y81
          case y80 =>
           refine' aU ?y66
           case y66 =>
            refine' ag ?y64 ?y65
            case y64=>exact aE
            case y65 =>
             refine' ag ?y62 ?y63
             case y62=>exact (aU (ag aE (ag aj af)))
             case y63 =>
              refine' ag ?y60 ?y61
              case y60=>exact (aU (ag aE (ag aj af)))
              case y61=>exact af
          case y81 =>
           refine' ag ?y78 ?y79
           case y78 =>
            refine' aU ?y77
            case y77 =>
             refine' ag ?y75 ?y76
             case y75=>exact aj
             case y76 =>
              refine' ag ?y73 ?y74
              case y73=>exact (aU (ag aE (ag aj af)))
              case y74 =>
               refine' ag ?y71 ?y72
               case y71=>exact aj
               case y72 =>
                refine' ag ?y69 ?y70
                case y69=>exact (aU (ag aE (ag aj af)))
                case y70 =>
                 refine' ag ?y67 ?y68
                 case y67=>exact aj
                 case y68=>exact af
           case y79=>exact af
       case y86=>exact af
    case y275 =>
     refine' ao ?y272 ?y273
     case y272 =>
      refine' bu ?y116
      case y116 =>
       refine' dk ?y110 ?y111 ?y112 ?y113 ?y114 ?y115
       case y110=>exact F.plainAttrs_list
       case y111=>exact F.slot_list_append
       case y112=>exact F.type_list_append
       case y113=>exact br
       case y114=>exact (pv 3)
       case y115 =>
        refine' ag ?y108 ?y109
        case y108 =>
         refine' aU ?y107
         case y107 =>
          refine' ag ?y105 ?y106
          case y105=>exact aE
          case y106 =>
           refine' ag ?y103 ?y104
           case y103 =>
            refine' aU ?y100
            case y100 =>
             refine' ag ?y98 ?y99
             case y98=>exact aE
             case y99 =>
              refine' ag ?y96 ?y97
              case y96=>exact (pv 0)
              case y97 =>
               refine' ag ?y94 ?y95
               case y94=>exact (aU (ag aE (ag aj af)))
               case y95=>exact af
           case y104 =>
            refine' ag ?y101 ?y102
            case y101=>exact (aU (ag aj (ag aj af)))
            case y102=>exact af
        case y109=>exact af
     case y273 =>
      refine' ao ?y270 ?y271
      case y270 =>
       refine' bu ?y139
       case y139 =>
        refine' dk ?y133 ?y134 ?y135 ?y136 ?y137 ?y138
        case y133=>exact F.plainAttrs_list
        case y134=>exact F.slot_list_append
        case y135=>exact F.type_list_append
        case y136=>exact br
        case y137=>exact (pv 3)
        case y138 =>
         refine' ag ?y131 ?y132
         case y131 =>
          refine' aU ?y130
          case y130 =>
           refine' ag ?y128 ?y129
           case y128=>exact aE
           case y129 =>
            refine' ag ?y126 ?y127
            case y126=>exact (aU (ag aE (ag (pv 0) (ag (pv 2) af))))
            case y127 =>
             refine' ag ?y124 ?y125
             case y124 =>
              refine' aU ?y123
              case y123 =>
               refine' ag ?y121 ?y122
               case y121=>exact aj
               case y122 =>
                refine' ag ?y119 ?y120
                case y119=>exact (aU (ag aE (ag aj af)))
                case y120 =>
                 refine' ag ?y117 ?y118
                 case y117=>exact aj
                 case y118=>exact af
             case y125=>exact af
         case y132=>exact af
      case y271 =>
       refine' ao ?y268 ?y269
       case y268 =>
        refine' bu ?y169
        case y169 =>
         refine' dk ?y163 ?y164 ?y165 ?y166 ?y167 ?y168
         case y163=>exact F.plainAttrs_list
         case y164=>exact F.slot_list_append
         case y165=>exact F.type_list_append
         case y166=>exact br
         case y167=>exact (pv 3)
         case y168 =>
          refine' ag ?y161 ?y162
          case y161 =>
           refine' aU ?y160
           case y160 =>
            refine' ag ?y158 ?y159
            case y158=>exact aE
            case y159 =>
             refine' ag ?y156 ?y157
             case y156 =>
              refine' aU ?y146
              case y146 =>
               refine' ag ?y144 ?y145
               case y144=>exact aE
               case y145 =>
                refine' ag ?y142 ?y143
                case y142=>exact (aU (ag aE (ag (pv 0) (ag (pv 1) af))))
                case y143 =>
                 refine' ag ?y140 ?y141
                 case y140=>exact (pv 2)
                 case y141=>exact af
             case y157 =>
              refine' ag ?y154 ?y155
              case y154 =>
               refine' aU ?y153
               case y153 =>
                refine' ag ?y151 ?y152
                case y151=>exact aj
                case y152 =>
                 refine' ag ?y149 ?y150
                 case y149=>exact aj
                 case y150 =>
                  refine' ag ?y147 ?y148
                  case y147=>exact (aU (ag aE (ag aj af)))
                  case y148=>exact af
              case y155=>exact af
          case y162=>exact af
       case y269 =>
        refine' ao ?y266 ?y267
        case y266 =>
         refine' bu ?y194
         case y194 =>
          refine' dk ?y188 ?y189 ?y190 ?y191 ?y192 ?y193
          case y188=>exact F.plainAttrs_list
          case y189=>exact F.slot_list_append
          case y190=>exact F.type_list_append
          case y191=>exact br
          case y192=>exact (pv 3)
          case y193 =>
           refine' ag ?y186 ?y187
           case y186 =>
            refine' aU ?y185
            case y185 =>
             refine' ag ?y183 ?y184
             case y183=>exact aE
             case y184 =>
              refine' ag ?y181 ?y182
              case y181=>exact (aU (ag aE (ag (pv 2) (ag (pv 0) af))))
              case y182 =>
               refine' ag ?y179 ?y180
               case y179 =>
                refine' aU ?y178
                case y178 =>
                 refine' ag ?y176 ?y177
                 case y176=>exact aj
                 case y177 =>
                  refine' ag ?y174 ?y175
                  case y174=>exact (aU (ag aE (ag aj af)))
                  case y175 =>
                   refine' ag ?y172 ?y173
                   case y172=>exact aj
                   case y173 =>
                    refine' ag ?y170 ?y171
                    case y170=>exact aj
                    case y171=>exact af
               case y180=>exact af
           case y187=>exact af
        case y267 =>
         refine' ao ?y264 ?y265
         case y264 =>
          refine' bu ?y226
          case y226 =>
           refine' dk ?y220 ?y221 ?y222 ?y223 ?y224 ?y225
           case y220=>exact F.plainAttrs_list
           case y221=>exact F.slot_list_append
           case y222=>exact F.type_list_append
           case y223=>exact br
           case y224=>exact (pv 3)
           case y225 =>
            refine' ag ?y218 ?y219
            case y218 =>
             refine' aU ?y217
             case y217 =>
              refine' ag ?y215 ?y216
              case y215=>exact aE
              case y216 =>
               refine' ag ?y213 ?y214
               case y213 =>
                refine' aU ?y201
                case y201 =>
                 refine' ag ?y199 ?y200
                 case y199=>exact aE
                 case y200 =>
                  refine' ag ?y197 ?y198
                  case y197=>exact (pv 0)
                  case y198 =>
                   refine' ag ?y195 ?y196
                   case y195=>exact (aU (ag aE (ag aj (ag aj af))))
                   case y196=>exact af
               case y214 =>
                refine' ag ?y211 ?y212
                case y211 =>
                 refine' aU ?y210
                 case y210 =>
                  refine' ag ?y208 ?y209
                  case y208=>exact aj
                  case y209 =>
                   refine' ag ?y206 ?y207
                   case y206=>exact (aU (ag aE (ag aj af)))
                   case y207 =>
                    refine' ag ?y204 ?y205
                    case y204=>exact (aU (ag aE (ag aj af)))
                    case y205 =>
                     refine' ag ?y202 ?y203
                     case y202=>exact aj
                     case y203=>exact af
                case y212=>exact af
            case y219=>exact af
         case y265 =>
          refine' ao ?y262 ?y263
          case y262 =>
           refine' bu ?y260
           case y260 =>
            refine' dk ?y254 ?y255 ?y256 ?y257 ?y258 ?y259
            case y254=>exact F.plainAttrs_list
            case y255=>exact F.slot_list_append
            case y256=>exact F.type_list_append
            case y257=>exact br
            case y258=>exact (pv 3)
            case y259 =>
             refine' ag ?y252 ?y253
             case y252 =>
              refine' aU ?y251
              case y251 =>
               refine' ag ?y249 ?y250
               case y249=>exact aE
               case y250 =>
                refine' ag ?y247 ?y248
                case y247 =>
                 refine' aU ?y233
                 case y233 =>
                  refine' ag ?y231 ?y232
                  case y231=>exact aE
                  case y232 =>
                   refine' ag ?y229 ?y230
                   case y229=>exact (aU (ag aE (ag aj (ag aj af))))
                   case y230 =>
                    refine' ag ?y227 ?y228
                    case y227=>exact (aU (ag aE (ag aj (ag aj af))))
                    case y228=>exact af
                case y248 =>
                 refine' ag ?y245 ?y246
                 case y245 =>
                  refine' aU ?y244
                  case y244 =>
                   refine' ag ?y242 ?y243
                   case y242=>exact aj
                   case y243 =>
                    refine' ag ?y240 ?y241
                    case y240=>exact (aU (ag aE (ag aj af)))
                    case y241 =>
                     refine' ag ?y238 ?y239
                     case y238=>exact aj
                     case y239 =>
                      refine' ag ?y236 ?y237
                      case y236=>exact (aU (ag aE (ag aj af)))
                      case y237 =>
                       refine' ag ?y234 ?y235
                       case y234=>exact aj
                       case y235=>exact af
                 case y246=>exact af
             case y253=>exact af
          case y263 =>
           refine' au ?y261
           case y261=>exact (aF (pv 3))
 case yread =>refine rJ (K:=K) (d:=.tup [.str "hole",.int 0]) (e:=.tup [.str "hole",.int 1]) (f:=.tup [.str "gap",.int 0,.int 99]) (aZ (ae (aZ (ae az (ae ak aA))) (ae (aZ (ae az (ae ak aA))) (ae (aZ (ae az (ae ak (ae ak aA)))) aA)))) λvh vo vg H1 s1 dh do_ dg=>?_;refine fT (K:=K) (eK (ae (aZ (ae az (ae (aZ (ae az (ae (ab dh) (ae (aZ (ae az (ae ak aA))) aA)))) (ae (aZ (ae ak (ae ak aA))) aA)))) aA)) λlb x0 G0 hb s2 h0 e0=>?_;have hlb:H lb=none:=s1.free hb;have dh:=s2.dat dh;have do_:=s2.dat do_;have dg:=s2.dat dg;have bb0:But lb H G0:=(s1.trans s2).but;have l0:=e0.length;simp only [List.length_cons,List.length_nil,List.length_append] at l0;refine gB (K:=K) (aZ (ae az (ae (aZ (ae az (ae (aZ (ae az (ae ak aA))) (ae (aZ (ae az (ae ak aA))) aA)))) (ae (aZ (ae ak (ae (aZ (ae az (ae ak aA))) (ae ak (ae (aZ (ae az (ae ak aA))) (ae ak aA)))))) aA)))) h0 (by first | omega | (simp only [List.length_append,List.length_cons,List.length_nil];omega)) λy1 G1 b1 h1 e1'=>?_;have g1:dH K _ G1:=b1.grow h0 h1;have dh:=Dat.mono g1 _ dh;have do_:=Dat.mono g1 _ do_;have dg:=Dat.mono g1 _ dg;have e1:=Dats.append (Dats.mono g1 _ e0) (Dats.cons e1' Dats.nil);have l1:=e1.length;have bb1:=bb0.trans b1;simp only [List.length_cons,List.length_nil,List.length_append] at l1;refine gB (K:=K) (aZ (ae az (ae (aZ (ae az (ae (ab dh) (ae (aZ (ae az (ae ak aA))) aA)))) (ae (aZ (ae ak (ae ak aA))) aA)))) h1 (by first | omega | (simp only [List.length_append,List.length_cons,List.length_nil];omega)) λy2 G2 b2 h2 e2'=>?_;have g2:dH K _ G2:=b2.grow h1 h2;have dh:=Dat.mono g2 _ dh;have do_:=Dat.mono g2 _ do_;have dg:=Dat.mono g2 _ dg;have e2:=Dats.append (Dats.mono g2 _ e1) (Dats.cons e2' Dats.nil);have l2:=e2.length;have bb2:=bb1.trans b2;simp only [List.length_cons,List.length_nil,List.length_append] at l2;refine gB (K:=K) (aZ (ae az (ae (aZ (ae az (ae (ab dh) (ae (ab dg) aA)))) (ae (aZ (ae ak (ae (aZ (ae az (ae ak aA))) (ae ak aA)))) aA)))) h2 (by first | omega | (simp only [List.length_append,List.length_cons,List.length_nil];omega)) λy3 G3 b3 h3 e3'=>?_;have g3:dH K _ G3:=b3.grow h2 h3;have dh:=Dat.mono g3 _ dh;have do_:=Dat.mono g3 _ do_;have dg:=Dat.mono g3 _ dg;have e3:=Dats.append (Dats.mono g3 _ e2) (Dats.cons e3' Dats.nil);have l3:=e3.length;have bb3:=bb2.trans b3;simp only [List.length_cons,List.length_nil,List.length_append] at l3;refine gB (K:=K) (aZ (ae az (ae (aZ (ae az (ae (aZ (ae az (ae (ab dh) (ae (ab do_) aA)))) (ae (ab dg) aA)))) (ae (aZ (ae ak (ae ak (ae (aZ (ae az (ae ak aA))) aA)))) aA)))) h3 (by first | omega | (simp only [List.length_append,List.length_cons,List.length_nil];omega)) λy4 G4 b4 h4 e4'=>?_;have g4:dH K _ G4:=b4.grow h3 h4;have dh:=Dat.mono g4 _ dh;have do_:=Dat.mono g4 _ do_;have dg:=Dat.mono g4 _ dg;have e4:=Dats.append (Dats.mono g4 _ e3) (Dats.cons e4' Dats.nil);have l4:=e4.length;have bb4:=bb3.trans b4;simp only [List.length_cons,List.length_nil,List.length_append] at l4;refine gB (K:=K) (aZ (ae az (ae (aZ (ae az (ae (ab dg) (ae (ab dh) aA)))) (ae (aZ (ae ak (ae (aZ (ae az (ae ak aA))) (ae ak (ae ak aA))))) aA)))) h4 (by first | omega | (simp only [List.length_append,List.length_cons,List.length_nil];omega)) λy5 G5 b5 h5 e5'=>?_;have g5:dH K _ G5:=b5.grow h4 h5;have dh:=Dat.mono g5 _ dh;have do_:=Dat.mono g5 _ do_;have dg:=Dat.mono g5 _ dg;have e5:=Dats.append (Dats.mono g5 _ e4) (Dats.cons e5' Dats.nil);have l5:=e5.length;have bb5:=bb4.trans b5;simp only [List.length_cons,List.length_nil,List.length_append] at l5;refine gB (K:=K) (aZ (ae az (ae (aZ (ae az (ae (ab dh) (ae (aZ (ae az (ae ak (ae ak aA)))) aA)))) (ae (aZ (ae ak (ae (aZ (ae az (ae ak aA))) (ae (aZ (ae az (ae ak aA))) (ae ak aA))))) aA)))) h5 (by first | omega | (simp only [List.length_append,List.length_cons,List.length_nil];omega)) λy6 G6 b6 h6 e6'=>?_;have g6:dH K _ G6:=b6.grow h5 h6;have dh:=Dat.mono g6 _ dh;have do_:=Dat.mono g6 _ do_;have dg:=Dat.mono g6 _ dg;have e6:=Dats.append (Dats.mono g6 _ e5) (Dats.cons e6' Dats.nil);have l6:=e6.length;have bb6:=bb5.trans b6;simp only [List.length_cons,List.length_nil,List.length_append] at l6;refine gB (K:=K) (aZ (ae az (ae (aZ (ae az (ae (aZ (ae az (ae ak (ae ak aA)))) (ae (aZ (ae az (ae ak (ae ak aA)))) aA)))) (ae (aZ (ae ak (ae (aZ (ae az (ae ak aA))) (ae ak (ae (aZ (ae az (ae ak aA))) (ae ak aA)))))) aA)))) h6 (by first | omega | (simp only [List.length_append,List.length_cons,List.length_nil];omega)) λy7 G7 b7 h7 e7'=>?_;have g7:dH K _ G7:=b7.grow h6 h7;have dh:=Dat.mono g7 _ dh;have do_:=Dat.mono g7 _ do_;have dg:=Dat.mono g7 _ dg;have e7:=Dats.append (Dats.mono g7 _ e6) (Dats.cons e7' Dats.nil);have l7:=e7.length;have bb7:=bb6.trans b7;have sm:Same H G7:=λb o hbo=>bb7 b o (aB hbo hlb) hbo;exact ⟨_,rfl,post lb _ G7 sm h7 hlb e7⟩
structure Pc where
 nm:Str
 pt:Pa
 cs:List D
def pcD (p:Pc):D:=.tup [.str p.nm,toP p.pt,.tup p.cs]
def e8:Pa->Bool
 | .hole _=>false
 | _=>true
structure uG (p:Pc):Prop where
 nm:p.nm≠"pick"
 ok:uF p.pt
 dp:cH p.pt<=3
 cs:p.cs.length<=12
 nh:e8 p.pt=true
structure Wy where
 nm:Str
 cs:List D
 ts:List Tr
def wyD (w:Wy):D:=.tup [.str w.nm,.tup w.cs,.tup (w.ts.map toD)]
def gT (t:Tr) (p:Pc):Option Wy:=(bI p.pt t).map λf=>⟨p.nm,p.cs,f.1⟩
def ij:Tr->Bool
 | .pick _ _ _=>true
 | _=>false
def d8 (ps:List Pc) (t:Tr):List Wy:=if ij t=true then [⟨"pick",[],bQ t⟩] else ps.filterMap (gT t)
def cM (near far many:Int):List Int:=if many<=9 then [near,many] else [far,many % 100,many / 100]
def fz (many:Int):Int:=if many<=9 then 2 else 3
theorem fY (near far many:Int):((cM near far many).length:Int)=fz many:=by unfold cM fz;split <;> rfl
theorem vV {a b:Int} (h:a<=b):fz a<=fz b:=by unfold fz;split <;> split <;> omega
theorem yV (a:Int):2<=fz a/\fz a<=3:=by unfold fz;split <;> omega
def pK (y z:Int):Int:=fz (y+fz z)+fz z
theorem zK {a b d:Int} (h:a<=b) (h':c<=d):pK a c<=pK b d:=by unfold pK;have h1:=vV h';have h2:=vV (show a+fz c<=b+fz d by omega);omega
def rp (w:Wy) (ls:List Int):Int:=if w.nm="pick" then pK (ls.getD 1 0) (ls.getD 2 0) else (w.cs.length:Int)
def eE (w:Wy) (ls:List Int):Int:=rp w ls+ls.sum
abbrev Bst:Type:=Option (Int × D)
def bD:Bst->D
 | none=>.non
 | some b=>.tup [.int b.1,b.2]
def hZ:List Bst->Option (List (Int × D))
 | []=>some []
 | none::_=>none
 | some b::r=>(hZ r).map (b::·)
def cvD (nm:Str) (bs:List (Int × D)):D:=.tup [.str nm,.tup (bs.map (·.2))]
def mX (best:Bst) (l:Int) (c:D):Bst:=match best with
 | none=>some (l,c)
 | some b=>if l < b.1 then some (l,c) else some b
def CT (best:Bst) (w:Wy):Option (List (Int × D))->Bst
 | none=>best
 | some bs=>mX best (eE w (bs.map (·.1))) (cvD w.nm bs)
def ix (f:Tr->Bst) (best:Bst) (w:Wy):Bst:=CT best w (hZ (w.ts.map f))
def kW (ps:List Pc) (f:Tr->Bst) (t:Tr):Bst:=(d8 ps t).foldl (ix f) none
def ke (ps:List Pc):Nat->Tr->Bst
 | 0,_=>none
 | n+1,t=>kW ps (ke ps n) t
def fV (ps:List Pc) (t:Tr):Bst:=ke ps (aR t) t
theorem pT (t:Tr):1<=aR t:=by cases t <;> simp [aR]
theorem qy:∀ (p:Pa) (t:Tr) (f:Fnd),bI p t=some f->∀ x ∈ f.1,x ∈ aV t
 | .hole i,t,f,h,x,hx=>by cases h;simp at hx;rw [hx,e9];exact List.mem_cons_self
 | .gap i m,t,f,h,x,hx=>by
  cases t with
  | num n =>
   have h':(if n<=m then some ([],[n],[]) else none:Option Fnd)=some f:=h;by_cases z:n<=m
   ·rw [if_pos z] at h';cases h';simp at hx
   ·rw [if_neg z] at h';cases h'
  | _=>cases h
 | .slot i,t,f,h,x,hx=>by
  cases t with
  | arg n=>cases h;simp at hx
  | _=>cases h
 | .num m,t,f,h,x,hx=>by
  cases t with
  | num n =>
   have h':(if n=m then some ([],[],[]) else none:Option Fnd)=some f:=h;by_cases z:n=m
   ·rw [if_pos z] at h';cases h';simp at hx
   ·rw [if_neg z] at h';cases h'
  | _=>cases h
 | .two o a b,t,f,h,x,hx=>by
  cases t with
  | two o' u v =>
   obtain ⟨_,f1,f2,e1,e2,e3⟩:=de h;subst e3;have hx':x ∈ f1.1++f2.1:=hx;simp only [aV,List.mem_cons,List.mem_append];rcases List.mem_append.mp hx' with hx | hx
   ·exact .inr (.inl (qy a u f1 e1 x hx))
   ·exact .inr (.inr (qy b v f2 e2 x hx))
  | _=>cases h
theorem ig {p:Pa} {f:Fnd} (hp:e8 p=true) (h:bI p t=some f):∀ x ∈ f.1,x ∈ (bQ t).flatMap aV:=by
 intro x hx
 cases p with
 | hole i=>cases hp
 | gap i m =>
  cases t with
  | num n =>
   have h':(if n<=m then some ([],[n],[]) else none:Option Fnd)=some f:=h;by_cases z:n<=m
   ·rw [if_pos z] at h';cases h';simp at hx
   ·rw [if_neg z] at h';cases h'
  | _=>cases h
 | slot i =>
  cases t with
  | arg n=>cases h;simp at hx
  | _=>cases h
 | num m =>
  cases t with
  | num n =>
   have h':(if n=m then some ([],[],[]) else none:Option Fnd)=some f:=h;by_cases z:n=m
   ·rw [if_pos z] at h';cases h';simp at hx
   ·rw [if_neg z] at h';cases h'
  | _=>cases h
 | two o a b =>
  cases t with
  | two o' u v =>
   obtain ⟨_,f1,f2,e1,e2,e3⟩:=de h;subst e3;have hx':x ∈ f1.1++f2.1:=hx;simp only [bQ,List.flatMap_cons,List.flatMap_nil,List.append_nil,List.mem_append];rcases List.mem_append.mp hx' with hx | hx
   ·exact .inl (qy a u f1 e1 x hx)
   ·exact .inr (qy b v f2 e2 x hx)
  | _=>cases h
theorem pS (t:Tr):t ∈ aV t:=by rw [e9];exact List.mem_cons_self
variable {ps:List Pc}
theorem mR (hp:∀ p ∈ ps,e8 p.pt=true) {w:Wy} (hw:w ∈ d8 ps t):∀ x ∈ w.ts,x ∈ (bQ t).flatMap aV:=by
 unfold d8 at hw;split at hw
 ·rw [List.mem_singleton.mp hw];intro x hx;exact List.mem_flatMap.mpr ⟨x,hx,pS x⟩
 ·obtain ⟨p,h1,h2⟩:=List.mem_filterMap.mp hw;unfold gT at h2
  cases e:bI p.pt t with
  | none=>rw [e] at h2;cases h2
  | some f =>rw [e] at h2;cases h2;exact ig (hp p h1) e
theorem d4:∀ (t x:Tr),x ∈ aV t->aR x<=aR t/\aS x<=aS t
 | .num n,x,h=>by
  have e:x=.num n:=by simpa [aV] using h
  subst e;exact ⟨Nat.le_refl _,Nat.le_refl _⟩
 | .arg n,x,h=>by
  have e:x=.arg n:=by simpa [aV] using h
  subst e;exact ⟨Nat.le_refl _,Nat.le_refl _⟩
 | .two o a b,x,h=>by
  simp only [aV,List.mem_cons,List.mem_append] at h;rcases h with rfl | h | h
  ·exact ⟨Nat.le_refl _,Nat.le_refl _⟩
  ·have:=d4 a x h;simp only [aR,aS];omega
  ·have:=d4 b x h;simp only [aR,aS];omega
 | .pick a b c,x,h=>by
  simp only [aV,List.mem_cons,List.mem_append] at h;rcases h with rfl | (h | h) | h
  ·exact ⟨Nat.le_refl _,Nat.le_refl _⟩
  ·have:=d4 a x h;simp only [aR,aS];omega
  ·have:=d4 b x h;simp only [aR,aS];omega
  ·have:=d4 c x h;simp only [aR,aS];omega
theorem dW:∀ (t x:Tr),okT t->x ∈ aV t->okT x
 | .num n,x,k,h=>by
  have e:x=.num n:=by simpa [aV] using h
  subst e;exact k
 | .arg n,x,k,h=>by
  have e:x=.arg n:=by simpa [aV] using h
  subst e;exact k
 | .two o a b,x,k,h=>by
  simp only [aV,List.mem_cons,List.mem_append] at h;rcases h with rfl | h | h
  ·exact k
  ·exact dW a x k.2.1 h
  ·exact dW b x k.2.2 h
 | .pick a b c,x,k,h=>by
  simp only [aV,List.mem_cons,List.mem_append] at h;rcases h with rfl | (h | h) | h
  ·exact k
  ·exact dW a x k.1 h
  ·exact dW b x k.2.1 h
  ·exact dW c x k.2.2 h
theorem pF (h:x ∈ bQ t):aR x < aR t/\aS x < aS t:=by
 cases t with
 | num n=>simp [bQ] at h
 | arg n=>simp [bQ] at h
 | two o a b =>simp only [bQ,List.mem_cons,List.not_mem_nil,or_false] at h;simp only [aR,aS];rcases h with rfl | rfl <;> omega
 | pick a b c =>simp only [bQ,List.mem_cons,List.not_mem_nil,or_false] at h;simp only [aR,aS];rcases h with rfl | rfl | rfl <;> omega
theorem fh (h:x ∈ (bQ t).flatMap aV):aR x < aR t/\aS x < aS t:=by obtain ⟨k,h1,h2⟩:=List.mem_flatMap.mp h;have:=pF h1;have:=d4 k x h2;omega
theorem fP (h:x ∈ (bQ t).flatMap aV):x ∈ aV t:=by rw [e9];exact List.mem_cons_of_mem _ h
theorem u0 {f g:Tr->Bst} {w:Wy} (h:∀ x ∈ w.ts,f x=g x) (b:Bst):ix f b w=ix g b w:=by unfold ix;rw [List.map_congr_left h]
theorem jX {f g:Tr->Bst}:∀ (ws:List Wy) (b:Bst),(∀ w ∈ ws,∀ x ∈ w.ts,f x=g x)->ws.foldl (ix f) b=ws.foldl (ix g) b
 | [],_,_=>rfl
 | w::ws,b,h=>by rw [List.foldl_cons,List.foldl_cons,u0 (h w List.mem_cons_self)];exact jX ws _ λw' hw=>h w' (List.mem_cons_of_mem _ hw)
theorem lY (hp:∀ p ∈ ps,e8 p.pt=true):∀ (n:Nat) (t:Tr),aR t<=n->ke ps (n+1) t=ke ps n t
 | 0,t,h=>by have:=pT t;omega
 | n+1,t,h=>by show kW ps (ke ps (n+1)) t=kW ps (ke ps n) t;refine jX _ _ λw hw x hx=>lY hp n x ?_;have:=fh (mR hp hw x hx);omega
theorem mV (hp:∀ p ∈ ps,e8 p.pt=true):∀ {n:Nat},aR t<=n->ke ps n t=fV ps t:=by
 intro n
 induction n with
 | zero=>intro h;have:=pT t;omega
 | succ n ih =>
  intro h;by_cases e:aR t=n+1
  ·unfold fV;rw [e]
  ·rw [lY hp n t (by omega)];exact ih (by omega)
theorem yi (hp:∀ p ∈ ps,e8 p.pt=true) (t:Tr):fV ps t=kW ps (fV ps) t:=by rw [<- mV hp (Nat.le_succ (aR t))];show kW ps (ke ps (aR t)) t=_;refine jX _ _ λw hw x hx=>mV hp ?_;exact Nat.le_of_lt (fh (mR hp hw x hx)).1
inductive All2 {α β:Type} (R:α->β->Prop):List α->List β->Prop
 | nil:All2 R [] []
 | cons {a b as bs}:R a b->All2 R as bs->All2 R (a::as) (b::bs)
theorem All2.mono {α β:Type} {R S:α->β->Prop} (h:∀ a b,R a b->S a b):∀ {as:List α} {bs:List β},All2 R as bs->All2 S as bs:=by
 intro as bs q
 induction q with
 | nil=>exact .nil
 | cons r _ ih=>exact .cons (h _ _ r) ih
def p7 (ps:List Pc):Nat->Tr->Int->Prop
 | 0,_,_=>False
 | n+1,t,m=>∃ w ∈ d8 ps t,∃ ls,All2 (p7 ps n) w.ts ls/\m=eE w ls
def Least (S:Int->Prop):Bst->Prop
 | none=>∀ m,¬ S m
 | some x=>S x.1/\∀ m,S m->x.1<=m
theorem Ef:∀ {as bs:List Int},All2 (λa b=>a<=b) as bs->as.sum<=bs.sum:=by
 intro as bs h
 induction h with
 | nil=>exact Int.le_refl _
 | cons r _ ih=>simp only [List.sum_cons];omega
theorem vO:∀ {as bs:List Int},All2 (λa b=>a<=b) as bs->∀ i,as.getD i 0<=bs.getD i 0:=by
 intro as bs h
 induction h with
 | nil=>intro i;exact Int.le_refl _
 | cons r _ ih =>
  intro i
  cases i with
  | zero=>simpa using r
  | succ i=>simpa using ih i
theorem y0 (w:Wy) {as bs:List Int} (h:All2 (λa b=>a<=b) as bs):eE w as<=eE w bs:=by
 unfold eE rp;have h1:=Ef h;split
 ·have:=zK (vO h 1) (vO h 2);omega
 ·omega
theorem oZ {C:Tr->Int->Prop} {f:Tr->Bst} (hf:∀ t,Least (C t) (f t)):∀ {ts:List Tr},hZ (ts.map f)=none->∀ ls,¬ All2 C ts ls
 | [],h,ls=>by cases h
 | t::ts,h,ls=>by
  intro q
  cases q with
  | cons r q =>
   cases e:f t with
   | none =>have z:=hf t;rw [e] at z;exact z _ r
   | some b =>
    rw [List.map_cons,e] at h;have h':(hZ (ts.map f)).map (b::·)=none:=h
    cases e2:hZ (ts.map f) with
    | none=>exact oZ hf e2 _ q
    | some r=>rw [e2] at h';cases h'
theorem o2 {C:Tr->Int->Prop} {f:Tr->Bst} (hf:∀ t,Least (C t) (f t)):∀ {ts:List Tr} {bs:List (Int × D)},hZ (ts.map f)=some bs->All2 C ts (bs.map (·.1))/\∀ ls,All2 C ts ls->All2 (λa b=>a<=b) (bs.map (·.1)) ls
 | [],bs,h=>by cases h;exact ⟨.nil,λls q=>by cases q;exact .nil⟩
 | t::ts,bs,h=>by
  cases e:f t with
  | none=>rw [List.map_cons,e] at h;cases h
  | some b =>
   rw [List.map_cons,e] at h;have h':(hZ (ts.map f)).map (b::·)=some bs:=h
   cases e2:hZ (ts.map f) with
   | none=>rw [e2] at h';cases h'
   | some r =>
    rw [e2] at h';cases h';obtain ⟨i1,i2⟩:=o2 hf e2;have z:=hf t;rw [e] at z;refine ⟨.cons z.1 i1,λls q=>?_⟩
    cases q with
    | cons q1 q2=>exact .cons (z.2 _ q1) (i2 _ q2)
theorem va {C:Tr->Int->Prop} {f:Tr->Bst} (hf:∀ t,Least (C t) (f t)) {S:Int->Prop} {b:Bst} (w:Wy) (h:Least S b):Least (λm=>S m\/∃ ls,All2 C w.ts ls/\m=eE w ls) (ix f b w):=by
 unfold ix
 cases e:hZ (w.ts.map f) with
 | none =>
  have no:=oZ hf e
  cases b with
  | none=>exact λm z=>z.elim (h m) λ⟨ls,q,_⟩=>no ls q
  | some x=>exact ⟨.inl h.1,λm z=>z.elim (h.2 m) λ⟨ls,q,_⟩=>absurd q (no ls)⟩
 | some bs =>
  obtain ⟨i1,i2⟩:=o2 hf e;have lo:∀ ls,All2 C w.ts ls->eE w (bs.map (·.1))<=eE w ls:=λls q=>y0 w (i2 ls q);show Least _ (mX b _ _);unfold mX
  cases b with
  | none=>exact ⟨.inr ⟨_,i1,rfl⟩,λm z=>z.elim (λq=>absurd q (h m)) λ⟨ls,q,em⟩=>by rw [em];exact lo ls q⟩
  | some x =>
   dsimp only;split
   ·rename_i hlt;exact ⟨.inr ⟨_,i1,rfl⟩,λm z=>z.elim (λq=>Int.le_of_lt (Int.lt_of_lt_of_le hlt (h.2 m q))) λ⟨ls,q,em⟩=>by rw [em];exact lo ls q⟩
   ·rename_i hge;exact ⟨.inl h.1,λm z=>z.elim (h.2 m) λ⟨ls,q,em⟩=>by rw [em];have:=lo ls q;omega⟩
theorem Least.iff {S T:Int->Prop} {b:Bst} (h:Least S b) (e:∀ m,S m↔T m):Least T b:=by have z:S=T:=funext λm=>propext (e m);rw [<- z];exact h
theorem ni {C:Tr->Int->Prop} {f:Tr->Bst} (hf:∀ t,Least (C t) (f t)):∀ (ws:List Wy) (S:Int->Prop) (b:Bst),Least S b->Least (λm=>S m\/∃ w ∈ ws,∃ ls,All2 C w.ts ls/\m=eE w ls) (ws.foldl (ix f) b)
 | [],S,b,h=>h.iff λm=>⟨λq=>.inl q,λq=>q.elim id λ⟨w,hw,_⟩=>absurd hw (by simp)⟩
 | w::ws,S,b,h=>by
  rw [List.foldl_cons];refine (ni hf ws _ _ (va hf w h)).iff λm=>⟨λq=>?_,λq=>?_⟩
  ·rcases q with (q | q) | ⟨w',hw,q⟩
   ·exact .inl q
   ·exact .inr ⟨w,List.mem_cons_self,q⟩
   ·exact .inr ⟨w',List.mem_cons_of_mem _ hw,q⟩
  ·rcases q with q | ⟨w',hw,q⟩
   ·exact .inl (.inl q)
   ·rcases List.mem_cons.mp hw with rfl | hw
    ·exact .inl (.inr q)
    ·exact .inr ⟨w',hw,q⟩
theorem mW (ps:List Pc):∀ (n:Nat) (t:Tr),Least (p7 ps n t) (ke ps n t)
 | 0,t=>λm h=>h
 | n+1,t=>(ni (mW ps n) (d8 ps t) (λ_=>False) none (λm h=>h)).iff λm=>⟨λq=>q.elim False.elim id,λq=>.inr q⟩
theorem si:∀ (n:Nat) (t:Tr) (m:Int),p7 ps n t m->p7 ps (n+1) t m
 | 0,t,m,h=>h.elim
 | n+1,t,m,⟨w,hw,ls,q,e⟩=>⟨w,hw,ls,q.mono (si n),e⟩
theorem yy {k:Nat} (h:n<=k) (q:p7 ps n t m):p7 ps k t m:=by
 induction h with
 | refl=>exact q
 | step _ ih=>exact si _ _ _ ih
def Cov (ps:List Pc) (t:Tr) (m:Int):Prop:=∃ n,p7 ps n t m
theorem EL (hp:∀ p ∈ ps,e8 p.pt=true) (t:Tr):Least (Cov ps t) (fV ps t):=by
 have key:∀ n,Least (p7 ps (max n (aR t)) t) (fV ps t):=λn=>by have:=mW ps (max n (aR t)) t;rw [mV hp (Nat.le_max_right _ _)] at this;exact this
 cases e:fV ps t with
 | none =>rintro m ⟨n,q⟩;have k:=key n;rw [e] at k;exact k m (yy (Nat.le_max_left _ _) q)
 | some x =>
  refine ⟨?_,?_⟩
  ·have k:=key 0;rw [e] at k;exact ⟨_,k.1⟩
  ·rintro m ⟨n,q⟩;have k:=key n;rw [e] at k;exact k.2 m (yy (Nat.le_max_left _ _) q)
theorem vt {p:Pc} {f:Fnd} (hp:p ∈ ps) (ht:ij t=false) (h:bI p.pt t=some f):(⟨p.nm,p.cs,f.1⟩:Wy) ∈ d8 ps t:=by unfold d8;rw [if_neg (by rw [ht];exact Bool.false_ne_true)];exact List.mem_filterMap.mpr ⟨p,hp,by unfold gT;rw [h];rfl⟩
theorem AN {a b c:Tr}:d8 ps (.pick a b c)=[⟨"pick",[],[a,b,c]⟩]:=rfl
def fM:Pa->Nat
 | .hole _=>1
 | .two _ a b=>fM a+fM b
 | _=>0
theorem jA:∀ (p:Pa) (t:Tr) (f:Fnd),bI p t=some f->f.1.length=fM p
 | .hole i,t,f,h=>by cases h;rfl
 | .gap i m,t,f,h=>by
  cases t with
  | num n =>
   have h':(if n<=m then some ([],[n],[]) else none:Option Fnd)=some f:=h;by_cases z:n<=m
   ·rw [if_pos z] at h';cases h';rfl
   ·rw [if_neg z] at h';cases h'
  | _=>cases h
 | .slot i,t,f,h=>by
  cases t with
  | arg n=>cases h;rfl
  | _=>cases h
 | .num m,t,f,h=>by
  cases t with
  | num n =>
   have h':(if n=m then some ([],[],[]) else none:Option Fnd)=some f:=h;by_cases z:n=m
   ·rw [if_pos z] at h';cases h';rfl
   ·rw [if_neg z] at h';cases h'
  | _=>cases h
 | .two o a b,t,f,h=>by
  cases t with
  | two o' u v =>obtain ⟨_,f1,f2,e1,e2,e3⟩:=de h;subst e3;show (f1.1++f2.1).length=fM a+fM b;rw [List.length_append,jA a u f1 e1,jA b v f2 e2]
  | _=>cases h
abbrev Fh:Pc:=⟨"add",.two "add" (.hole 0) (.hole 1),[.int 4]⟩
abbrev BP:List Pc:=[⟨"one",.gap 0 99,[.int 1,.tup [.str "low",.int 0]]⟩,⟨"two",.gap 0 9999,[.int 2,.tup [.str "low",.int 0],.tup [.str "high",.int 0]]⟩,⟨"slot",.slot 0,[.int 3,.tup [.str "arg",.int 0]]⟩,
 Fh,⟨"sub",.two "sub" (.hole 0) (.hole 1),[.int 5]⟩,⟨"mul",.two "mul" (.hole 0) (.hole 1),[.int 6]⟩,⟨"less",.two "less" (.hole 0) (.hole 1),[.int 7]⟩,⟨"more",.two "add" (.hole 0) (.gap 0 99),[.int 12,.tup [.str "low",.int 0]]⟩]
theorem Ds (o:Str) (x y:Tr):bI (.two o (.hole 0) (.hole 1)) (.two o x y)=some ([x,y],[],[]):=by show (if o=o then _ else _)=_;rw [if_pos rfl];rfl
theorem zD (h:okB o):∃ c:D,(⟨o,.two o (.hole 0) (.hole 1),[c]⟩:Pc) ∈ BP:=by
 rcases h with rfl | rfl | rfl | rfl
 ·exact ⟨.int 4,by simp [BP]⟩
 ·exact ⟨.int 5,by simp [BP]⟩
 ·exact ⟨.int 6,by simp [BP]⟩
 ·exact ⟨.int 7,by simp [BP]⟩
def vw (ds es:List D):Prop:=∃ m n f,ds=[.int m,.tup [.int n,.int f]]/\es=(cM n f m).map D.int
theorem wt (h:tA σ H λxs H1=>xs.length<=sizeLine/\∀ p,H1 p=none->Q (.ref p) (upd H1 p (.tup xs))):vi tA σ H Q:=h
theorem jG (h:En.nx σ H):wG En σ H:=h
theorem Cf (h:En.ct σ H):CU En σ H:=h
variable {G:Hp} {xs:List V}
theorem jF (h:RE K te σ G d) (hl:G l=some (.lst xs)) (hx:xs.length<=900)
  (q:∀ y G',But l G G'->G' l=some (.lst (xs++[y]))->Dat K G' d y->En.nx σ G') (hv:σ[j]?=some (some (.ref l)):=by rfl):oE (tBM K "list" kF (fG j) (bC te c7)) En σ G:=by
 refine ⟨_,hv,.inl ⟨rfl,_,SqL.of hl⟩,h.use λy H1 s1 q1=>?_⟩;have hl1:=s1 _ _ hl;refine ⟨l,xs,y,rfl,rfl,hl1,bx (by omega),?_⟩;have b:But l H1 (upd H1 l (.lst (xs++[y]))):=But.upd (Same.refl _).but;exact q y _ (s1.but.trans b) aq (Dat.mono (b.grow hl1 aq) _ q1)
theorem rH {k:Nat} (h:RE K te σ H d) (q:∀ v H',Same H H'->Dat K H' d v->En.nx (σ.set k (some v)) H'):oW te (bX k) En σ H:=h.use q
theorem qY (T:Txt P w K mg)  : Ok P w base (k+1) T.GW (hV K vw):=by
 refine T.GW.f.ok sc_jump_over (λvs H Q E h=>?_) (λcdv A outer s H vs Q E hr h=>?_)
 ·obtain ⟨ds,d,hd,⟨m,n,f,rfl,_⟩,_⟩:=h;exact hd.length.symm
 have nd:=sc_jump_over.nd;obtain ⟨ds,es,hd,⟨m,n,f,rfl,rfl⟩,post⟩:=h;obtain ⟨v0,v1,rfl,h0,h1⟩:=fW hd;refine ⟨_,(ao (fC (pv 1) (fe rfl (a8 (aQ (i:=2) nd rfl (Or.inl rfl)) (a8 (aQ (i:=3) nd rfl (Or.inl rfl)) cu))))
 (ao (a7 (aC iO (pv 0) (bL (v:=.int 9) rfl T.Gz ⟨_,rfl⟩) (aJ _)) (au (aF (bh (ag (pv 2) (ag (pv 0) af))))) aL)
 (au (aF (bh (ag (pv 3) (ag (ba dD (pv 0) aj) (ag (ba iE (pv 0) aj) af)))))))),?_⟩
 refine mP (K:=K) (ab h1) λv w H1 s1 q1 q2=>?_;have h0:=s1.dat h0;refine aH (K:=K) (b:=decide (m<=9)) (ay (bT (p:=λi j=>decide (i<=j)) (ab h0) ak)) (λc H2 s2=>?_) (λc H2 s2=>?_)
 ·have e:cM n f m=[n,m]:=by unfold cM;rw [if_pos (of_decide_eq_true c)]
  rw [e] at post;exact fE (RC.use (K:=K) (eK (ae (ab (s2.dat q1)) (ae (ab (s2.dat h0)) aA))) λl ys H' hl s hy hd=>post l ys H' (s1.trans (s2.trans s)) hy ((s1.trans s2).free hl) hd)
 ·have e:cM n f m=[f,m % 100,m / 100]:=by unfold cM;rw [if_neg (of_decide_eq_false c)]
  rw [e] at post;exact fE (RC.use (K:=K) (eK (ae (ab (s2.dat q2)) (ae (iH (ab (s2.dat h0)) ak (by decide)) (ae (mK (ab (s2.dat h0)) ak ⟨by decide,by decide⟩) aA)))) λl ys H' hl s hy hd=>post l ys H' (s1.trans (s2.trans s)) hy ((s1.trans s2).free hl) hd)
def rN (K:W.Frag):Sp:=λvs H Q _=>∃ y z:Int,vs=[.int y,.int z]/\∀ (p a b:Addr) (us ws:List V) (H':Hp),Same H H'->SqT K H' p [.ref a,.ref b]->H' a=some (.lst us)->H' b=some (.lst ws)->H a=none->H b=none->a≠b ->
 Dats K H' ((cM 10 11 (y+fz z)).map D.int) us->Dats K H' ((cM 8 9 z).map D.int) ws->Q (.ref p) H'
theorem lD (T:Txt P w K mg) (Ik:Ok P w base k T.GW (hV K vw)):Ok P w base (k+1) T.FU (rN K):=by
 refine T.FU.f.ok sc_jumps_of_pick (λvs H Q E h=>?_) (λcdv A outer s H vs Q E hr h=>?_)
 ·obtain ⟨y,z,rfl,_⟩:=h;rfl
 have nd:=sc_jumps_of_pick.nd;obtain ⟨y,z,rfl,post⟩:=h;refine ⟨_,(ao (bo (i:=2) nd rfl (Or.inl rfl) (pc (D:=T.GW) Ik hr (ag (pv 1) (ag (bL (v:=.ref T.Ia) rfl T.Hz rfl) af))))
 (ao (bo (i:=3) nd rfl (Or.inl rfl) (pc (D:=T.GW) Ik hr (ag (ba cX (pv 0) (aP aM rfl T.Fw bq (ag (pv 2) af))) (ag (bL (v:=.ref T.Ip) rfl T.HL rfl) af))))
 (au (aF (aU (ag (pv 3) (ag (pv 2) af))))))),?_⟩
 refine fT (K:=K) (iG (R:=vw) (ae (ab (k:=1) (Dat.intI z)) (ae (nZ T.Jf) aA)) ⟨z,8,9,rfl,rfl⟩) λb ws H1 hb s1 hbs dws=>?_;have el:(ws.length:Int)=fz z:=by rw [<- dws.length,List.length_map,fY]
 have b1:=mL (K:=K) (σ:=(eG ["second","third","behind","ahead"] [.int y,.int z]).set 2 (some (.ref b))) (k:=2) hbs;rw [el] at b1;refine fT (K:=K) (iG (R:=vw) (ae (d6 (ab (k:=0) (Dat.intI y)) b1) (ae (nZ T.Jo) aA)) ⟨_,10,11,rfl,rfl⟩) λa us H2 ha s2 has dus=>?_;refine fE (wt ⟨_,rfl,_,rfl,bU (by simp),λp hp=>?_⟩);have s3:Same H2 (upd H2 p (.tup [.ref a,.ref b])):=aG hp _;have nab:a≠b:=Ne.symm (aB hbs ha);exact post p a b us ws _ (s1.trans (s2.trans s3)) (SqT.of aq) (s3 _ _ has) (s3 _ _ (s2 _ _ hbs)) (s1.free ha) hb nab (s3.dats dus) ((s2.trans s3).dats dws)
theorem pL (h:o="num"\/o="arg"\/okB o):decide (o=("pick":Str))=false/\o≠"call":=by rcases h with rfl | rfl | rfl | rfl | rfl | rfl <;> exact ⟨by decide +kernel,by decide +kernel⟩
theorem sE (t:Tr) (ht:okT t):∃ kd r,toD t=.tup (.str kd::r)/\decide (kd="pick")=ij t/\kd≠"call"/\(ij t=true->r=(bQ t).map toD):=by
 cases t with
 | num n=>exact ⟨_,_,rfl,(pL (.inl rfl)).1,(pL (.inl rfl)).2,λz=>nomatch z⟩
 | arg n=>exact ⟨_,_,rfl,(pL (.inr (.inl rfl))).1,(pL (.inr (.inl rfl))).2,λz=>nomatch z⟩
 | two o a b=>exact ⟨_,_,rfl,(pL (.inr (.inr ht.1))).1,(pL (.inr (.inr ht.1))).2,λz=>nomatch z⟩
 | pick a b c=>exact ⟨_,_,rfl,decide_eq_true rfl,by decide +kernel,λ_=>rfl⟩
structure gY (ps:List Pc):Prop where
 ok:∀ p ∈ ps,uG p
 few:ps.length<=100
def rT (as:List Ar) (es:List D):Prop:=∃ ps t,as=[.d (toD t),.l (ps.map pcD)]/\gY ps/\okT t/\aS t<=8/\es=(d8 ps t).map wyD
theorem yH (f:Fnd):fdD (some f)=.tup [.tup (f.1.map toD),.tup (f.2.1.map D.int),.tup (f.2.2.map D.int)]:=rfl
theorem uN (T:Txt P w K mg) (HW:Ok P w base k T.GM (spD K mS)):Ok P w base (k+1) T.Hc (iW K rT):=by
 refine T.Hc.f.ok sc_ways_of (λvs H Q E h=>?_) (λcdv A outer s H vs Q E hr h=>?_)
 ·obtain ⟨as,d,hd,⟨ps,t,rfl,_⟩,_⟩:=h;exact hd.length.symm
 have nd:=sc_ways_of.nd;obtain ⟨as,es,hd,⟨ps,t,rfl,okS,okt,dpt,rfl⟩,post⟩:=h;obtain ⟨v0,v1,rfl,h0,h1⟩:=yf hd;have h0:Dat K H (toD t) v0:=h0;have h1:LD K H (ps.map pcD) v1:=h1;refine ⟨_,(ao (a7 (aC bz (aI aK (pv 0) aj) aE (aJ _)) (au (aF (bh (ag (aU (ag aE (ag (aU af) (ag (gN lS (pv 0) (gA aj) kD) af)))) af)))) aL)
 (ao (bo (i:=2) nd rfl (Or.inl rfl) (bh af))
 (ao (gu PassesOwn.never rfl (dO (pv 1)) (aQ (i:=3) nd rfl (Or.inl rfl)) (ao (bo (i:=4) nd rfl (Or.inl rfl) (pc (D:=T.GM) HW hr (ag (pv 3) (ag (pv 0) af))))
 (au (a7 (aC BN (pv 4) dN (aJ _)) (au (bu (dk F.plainAttrs_list F.slot_list_append F.type_list_append br (pv 2) (ag (aU (ag (aI aK (pv 3) aj) (ag (aI aK (pv 3) aj) (ag (aI aK (pv 4) aj) af)))) af)))) aL))))
 (au (aF (pv 2)))))),?_⟩
 obtain ⟨kd,r,ek,hpk,_,hkids⟩:=sE t okt;have h0':Dat K H (.tup (.str kd::r)) v0:=by rw [<- ek];exact h0
 refine aH (K:=K) (b:=ij t) (RT.as (ay (aY (aN (k:=0) (ab h0') ak rfl) az)) hpk) (λc H1 s1=>?_) (λc H1 s1=>?_)
 ·have e:(d8 ps t).map wyD=[.tup [.str "pick",.tup [],.tup r]]:=by
   unfold d8;rw [if_pos c,hkids c];rfl
  rw [e] at post;exact fE (RC.use (K:=K) (eK (ae (aZ (ae az (ae (aZ aA) (ae (iu (ab (s1.dat h0'))) aA)))) aA)) λl ys H' hl s hy hd=>post l ys H' (s1.trans s) hy (s1.free hl) hd)
 have ew:d8 ps t=ps.filterMap (gT t):=by unfold d8;rw [if_neg (by rw [c];exact Bool.false_ne_true)]
 rw [ew] at post;refine c6 ⟨bU (by decide),λwl hwl=>?_⟩;have s2:Same H1 (upd H1 wl (.lst [])):=aG hwl _;have s12:=s1.trans s2;obtain ⟨a,vs,rfl,ha,hda⟩:=h1;have la:=hda.length;rw [List.length_map] at la;have hps:=okS.few;have hwn:H wl=none:=s1.free hwl;refine cf ⟨_,rfl,a,rfl,⟨vs,(s12.aLst ha).sqL⟩,i5 (xs:=vs) (λi σ G=>∃ (z3 z4:Option V) (ys:List V),σ=[some v0,some (.ref a),some (.ref wl),z3,z4]/\Same H G/\G wl=some (.lst ys)/\Dats K G (((ps.take i).filterMap (gT t)).map wyD) ys) ?_ (λi σ G _ ⟨_,_,_,_,p,_⟩=>(p.aLst ha).sqL) ?_ ?_⟩
 ·exact ⟨none,none,[],rfl,s12,aq,by rw [List.take_zero];exact Dats.nil⟩
 ·rintro i vx σ G hi ⟨z3,z4,ys,rfl,sG,hwG,dy⟩;obtain ⟨dx,ex,hx⟩:=(sG.dats hda).getV hi;rw [List.getElem?_map] at ex
  cases hp:ps[i]? with
  | none=>rw [hp] at ex;cases ex
  | some p =>
   rw [hp] at ex;cases ex;have okp:=okS.ok p (List.mem_of_getElem? hp);have et:ps.take (i+1)=ps.take i++[p]:=by rw [List.take_add_one,hp];rfl
   have lys:ys.length<=100:=by have l1:=dy.length;rw [List.length_map] at l1;have l2:=List.length_filterMap_le (gT t) (ps.take i);rw [List.length_take] at l2;omega
   refine iI ?_;dsimp only;refine eT (K:=K) (d:=fdD (bI p.pt t)) (a9 (R:=mS) (ae (ab (k:=3) hx) (ae (ab (k:=0) (sG.dat h0)) aA)) ⟨.str p.nm,p.pt,.tup p.cs,t,rfl,okp.ok,okt,dpt,okp.dp,rfl⟩) λvf G2 s2 qf=>?_;have hw2:=s2 _ _ hwG
   cases hft:bI p.pt t with
   | none =>
    have eW:gT t p=none:=by unfold gT;rw [hft];rfl
    rw [hft] at qf;refine gh (b:=false) (ay (wA (K:=K) (ab (k:=4) qf))) (λc=>nomatch c) (λ_ G3 s3=>jG ?_);refine ⟨_,_,ys,rfl,sG.trans (s2.trans s3),s3 _ _ hw2,?_⟩;rw [et,List.filterMap_append];simp only [List.filterMap_cons,List.filterMap_nil,eW,List.append_nil];exact (s2.trans s3).dats dy
   | some f =>
    have eW:gT t p=some ⟨p.nm,p.cs,f.1⟩:=by unfold gT;rw [hft];rfl
    rw [hft,yH] at qf;refine gh (b:=true) (ay (wA (K:=K) (ab (k:=4) qf))) (λ_ G3 s3=>?_) (λc=>nomatch c);have hw3:=s3 _ _ hw2;have hx3:=(s2.trans s3).dat hx;refine jF (K:=K) (d:=.tup [.str p.nm,.tup p.cs,.tup (f.1.map toD)]) (aZ (ae (aN (k:=0) (ab (k:=3) hx3) ak rfl) (ae (aN (k:=2) (ab (k:=3) hx3) ak rfl) (ae (aN (k:=0) (ab (k:=4) (s3.dat qf)) ak rfl) aA)))) hw3 (by omega) λy G4 b4 hw4 q4=>?_;have g4:dH K G3 G4:=b4.grow hw3 hw4;refine ⟨_,_,ys++[y],rfl,λx o hx=>b4 x o (aB hx hwn) (s3 _ _ (s2 _ _ (sG _ _ hx))),hw4,?_⟩;rw [et,List.filterMap_append,List.map_append];simp only [List.filterMap_cons,List.filterMap_nil,eW];exact Dats.append (Dats.mono g4 _ ((s2.trans s3).dats dy)) (Dats.cons q4 Dats.nil)
 ·rintro σ G ⟨z3,z4,ys,rfl,sG,hwG,dy⟩;rw [<- la,List.take_length] at dy;exact ⟨_,rfl,post wl ys G sG hwG hwn dy⟩
variable {g:TG}
theorem mN (h:te σ H λx H1=>g x σ H1 (us En)):jK (oW te g) us En σ H:=h
def C7 (as:List Ar) (d:D):Prop:=∃ (w:Wy) (ls:List Int),as=[.d (.str w.nm),.d (.tup w.cs),.l (ls.map D.int)]/\(w.nm="pick"->ls.length=3)/\d=.int (eE w ls)
theorem ra (T:Txt P w K mg) (GX:Ok P w base k T.FU (rN K)):Ok P w base (k+1) T.Hw (spA K C7):=by
 refine T.Hw.f.ok sc_length_by (λvs H Q E h=>?_) (λcdv A outer s H vs Q E hr h=>?_)
 ·obtain ⟨as,d,hd,⟨w,ls,rfl,_⟩,_⟩:=h;exact hd.length.symm
 have nd:=sc_length_by.nd;obtain ⟨as,d,hd,⟨w,ls,rfl,h3,rfl⟩,post⟩:=h;obtain ⟨v0,v1,v2,rfl,h0,h1,h2⟩:=rX hd;have h0:Dat K H (.str w.nm) v0:=h0;have h1:Dat K H (.tup w.cs) v1:=h1;have h2:LD K H (ls.map D.int) v2:=h2;refine ⟨_,(ao (bo (i:=3) nd rfl (Or.inl rfl) (aP aM rfl T.Fw bq (ag (pv 1) af)))
 (ao (a7 (aC bz (pv 0) aE (aJ _)) (ao (fC (pc (D:=T.FU) GX hr (ag (aI bf (pv 2) aj) (ag (aI bf (pv 2) aj) af))) (fe rfl (a8 (aQ (i:=4) nd rfl (Or.inl rfl)) (a8 (aQ (i:=5) nd rfl (Or.inl rfl)) cu))))
 (au (bo (i:=3) nd rfl (Or.inl rfl) (ba cX (aP aM rfl T.Fw bq (ag (pv 4) af)) (aP aM rfl T.Fw bq (ag (pv 5) af)))))) aL)
 (au (aF (ba cX (pv 3) (aP (r6 rfl) rfl T.Jz yn (ag (pv 2) af))))))),?_⟩
 refine eT (K:=K) (cF (ab h1)) λvo H1 s1 qo=>?_;have eo:=qo.intE;subst eo;refine mO (λσ G=>∃ z4 z5:Option V,σ=[some v0,some v1,some v2,some (.int (rp w ls)),z4,z5]/\Same H G) ?_ (λhrest=>?_)
 case refine_2 =>
  refine gh (b:=decide (w.nm="pick")) (ay (aY (K:=K) (ab (k:=0) (s1.dat h0)) az)) (λc H2 s2=>?_) (λc H2 s2=>?_)
  ·have cp:=of_decide_eq_true c
   obtain ⟨x,y,z,rfl⟩:∃ x y z,ls=[x,y,z]:=by
    match ls,h3 cp with
    | [x,y,z],_=>exact ⟨x,y,z,rfl⟩
   have h22:=(s1.trans s2).ld h2;refine mN (hE (cx (RE.use (K:=K) (d:=.int y) (gv (k:=1) (aT (k:=2) h22) ak rfl) λw1 H3 s3 q3=>cx (RE.use (K:=K) (d:=.int z) (gv (k:=2) (aT (k:=2) (s3.ld h22)) ak rfl) λw2 H4 s4 q4=>?_))));have e3:=q3.intE;have e4:=q4.intE;subst e3 e4;refine ⟨y,z,rfl,λp a b us ws H5 s5 hp ha hb _ _ _ dus dws=>?_⟩;have lu:(us.length:Int)=fz (y+fz z):=by rw [<- dus.length,List.length_map,fY]
   have lw:(ws.length:Int)=fz z:=by rw [<- dws.length,List.length_map,fY]
   refine ⟨p,_,rfl,hp,rfl,_,_,rfl,_,_,rfl,rfl,?_⟩;dsimp only;refine rH (K:=K) (d:=.int (rp w [x,y,z])) (RE.as (d6 (mL (k:=4) ha) (mL (k:=5) hb)) ?_) λv H6 s6 q6=>?_
   ·rw [lu,lw];unfold rp;rw [if_pos cp];rfl
   ·have e6:=q6.intE;subst e6;exact hrest _ _ ⟨_,_,rfl,s1.trans (s2.trans (s3.trans (s4.trans (s5.trans s6))))⟩
  ·have cp:¬ w.nm="pick":=of_decide_eq_false c;refine jG (hrest _ _ ⟨none,none,?_,s1.trans s2⟩);have e:rp w ls=(w.cs.length:Int):=by unfold rp;rw [if_neg cp]
   rw [e];rfl
 rintro σ G ⟨z4,z5,rfl,sG⟩;exact aX (K:=K) (d:=.int (eE w ls)) (d6 (ab (k:=3) (Dat.intI _)) (wC (aT (k:=2) (sG.ld h2)))) λv H' s q=>post v H' (sG.trans s) q
theorem EM:¬ ("num":Str)="arg":=by decide +kernel
theorem Et:¬ ("arg":Str)="num":=by decide +kernel
theorem Bc {n:Int} {b:Tr} (h:eqD (toD (.num n)) (toD b)=true):b=.num n:=by
 cases b with
 | num m =>simp only [toD,eJ,bY,c9,dn,c8,eI,eH,Bool.and_false,Bool.and_true,Bool.and_eq_true,decide_eq_true_eq] at h;rw [h.2]
 | arg m =>simp only [toD,eJ,bY,c9,dn,c8,eI,eH,Bool.and_false,Bool.and_true,Bool.and_eq_true,decide_eq_true_eq] at h;exact absurd h.1 EM
 | two o x y =>simp only [toD,eJ,bY,c9,dn,c8,eI,eH,Bool.and_false,Bool.and_true,Bool.and_eq_true,decide_eq_true_eq] at h;cases h
 | pick x y z =>simp only [toD,eJ,bY,c9,dn,c8,eI,eH,Bool.and_false,Bool.and_true,Bool.and_eq_true,decide_eq_true_eq] at h;cases h
theorem Bb {n:Int} {b:Tr} (h:eqD (toD (.arg n)) (toD b)=true):b=.arg n:=by
 cases b with
 | num m =>simp only [toD,eJ,bY,c9,dn,c8,eI,eH,Bool.and_false,Bool.and_true,Bool.and_eq_true,decide_eq_true_eq] at h;exact absurd h.1 Et
 | arg m =>simp only [toD,eJ,bY,c9,dn,c8,eI,eH,Bool.and_false,Bool.and_true,Bool.and_eq_true,decide_eq_true_eq] at h;rw [h.2]
 | two o x y =>simp only [toD,eJ,bY,c9,dn,c8,eI,eH,Bool.and_false,Bool.and_true,Bool.and_eq_true,decide_eq_true_eq] at h;cases h
 | pick x y z =>simp only [toD,eJ,bY,c9,dn,c8,eI,eH,Bool.and_false,Bool.and_true,Bool.and_eq_true,decide_eq_true_eq] at h;cases h
theorem Bd {b:Tr} (h:eqD (toD (.two o x y)) (toD b)=true):∃ x' y',b=.two o x' y'/\eqD (toD x) (toD x')=true/\eqD (toD y) (toD y')=true:=by
 cases b with
 | num m =>simp only [toD,eJ,bY,c9,dn,c8,eI,eH,Bool.and_false,Bool.and_true,Bool.and_eq_true,decide_eq_true_eq] at h;cases h
 | arg m =>simp only [toD,eJ,bY,c9,dn,c8,eI,eH,Bool.and_false,Bool.and_true,Bool.and_eq_true,decide_eq_true_eq] at h;cases h
 | two o' x' y' =>simp only [toD,eJ,bY,c9,dn,c8,eI,eH,Bool.and_false,Bool.and_true,Bool.and_eq_true,decide_eq_true_eq] at h;exact ⟨x',y',by rw [h.1],h.2.1,h.2.2⟩
 | pick x y z =>simp only [toD,eJ,bY,c9,dn,c8,eI,eH,Bool.and_false,Bool.and_true,Bool.and_eq_true,decide_eq_true_eq] at h;cases h
theorem yG {z b:Tr} (h:eqD (toD (.pick x y z)) (toD b)=true):∃ x' y' z',b=.pick x' y' z'/\eqD (toD x) (toD x')=true/\eqD (toD y) (toD y')=true/\eqD (toD z) (toD z')=true:=by
 cases b with
 | num m =>simp only [toD,eJ,bY,c9,dn,c8,eI,eH,Bool.and_false,Bool.and_true,Bool.and_eq_true,decide_eq_true_eq] at h;cases h
 | arg m =>simp only [toD,eJ,bY,c9,dn,c8,eI,eH,Bool.and_false,Bool.and_true,Bool.and_eq_true,decide_eq_true_eq] at h;cases h
 | two o' x' y' =>simp only [toD,eJ,bY,c9,dn,c8,eI,eH,Bool.and_false,Bool.and_true,Bool.and_eq_true,decide_eq_true_eq] at h;cases h
 | pick x' y' z' =>simp only [toD,eJ,bY,c9,dn,c8,eI,eH,Bool.and_false,Bool.and_true,Bool.and_eq_true,decide_eq_true_eq] at h;exact ⟨x',y',z',rfl,h.2.1,h.2.2.1,h.2.2.2⟩
theorem Cq (a:Tr):∀ b:Tr,eqD (toD a) (toD b)=true->a=b:=by
 induction a with
 | num n=>intro b h;exact (Bc h).symm
 | arg n=>intro b h;exact (Bb h).symm
 | two o x y ihx ihy =>intro b h;obtain ⟨x',y',rfl,h1,h2⟩:=Bd h;rw [ihx x' h1,ihy y' h2]
 | pick x y z ihx ihy ihz =>intro b h;obtain ⟨x',y',z',rfl,h1,h2,h3⟩:=yG h;rw [ihx x' h1,ihy y' h2,ihz z' h3]
theorem gQ:∀ t:Tr,eO (toD t)=aS t
 | .num n=>by unfold toD aS;simp [eO,deepDs]
 | .arg n=>by unfold toD aS;simp [eO,deepDs]
 | .two o a b=>by unfold toD aS;simp [eO,deepDs,gQ a,gQ b]
 | .pick a b c=>by unfold toD aS;simp [eO,deepDs,gQ a,gQ b,gQ c]
theorem fU:∀ t:Tr,noL (toD t)=true
 | .num n=>by unfold toD;simp [noL,noLs]
 | .arg n=>by unfold toD;simp [noL,noLs]
 | .two o a b=>by unfold toD;simp [noL,noLs,fU a,fU b]
 | .pick a b c=>by unfold toD;simp [noL,noLs,fU a,fU b,fU c]
theorem sQ:∀ ts:List Tr,noLs (ts.map toD)=true
 | []=>by simp [noLs]
 | t::ts=>by simp [noLs,fU t,sQ ts]
theorem o9:∀ ts:List Tr,(∀ x ∈ ts,aS x<=n)->deepDs (ts.map toD)<=n
 | [],_=>by simp [deepDs]
 | t::ts,h=>by have h1:=h t (by simp);have h2:=o9 ts λx hx=>h x (by simp [hx]);simp only [List.map_cons,deepDs,gQ];omega
theorem sv:∀ {ts:List Tr},(∀ y ∈ ts,okT y)->okT x->x ∈ ts->∃ j:Nat,ts[j]?=some x/\∀ (m:Nat) e,m < j->(ts.map toD)[m]?=some e->eqD e (toD x)=false
 | [],_,_,h=>by simp at h
 | y::ts,hok,hx,h=>by
  by_cases e:eqD (toD y) (toD x)=true
  ·have:=Cq y x e;exact ⟨0,by rw [this];rfl,λm _ hm=>absurd hm (Nat.not_lt_zero m)⟩
  ·have hmem:x ∈ ts:=by
    rcases List.mem_cons.mp h with rfl | h
    ·exact absurd (i4 _ (fU x)) e
    ·exact h
   obtain ⟨j,h1,h2⟩:=sv (λz hz=>hok z (List.mem_cons_of_mem _ hz)) hx hmem;refine ⟨j+1,by simpa using h1,λm d hm hd=>?_⟩
   cases m with
   | zero =>
    have e':toD y=d:=by simpa using hd
    rw [<- e'];exact Bool.eq_false_iff.mpr e
   | succ m=>exact h2 m d (by omega) (by simpa using hd)
theorem rV:∀ bs:List Bst,(bs.map λb=>isN (bD b)).any id=(hZ bs).isNone
 | []=>rfl
 | none::bs=>rfl
 | some b::bs=>by have ih:=rV bs;show (false || (bs.map λb=>isN (bD b)).any id)=((hZ bs).map (b::·)).isNone;rw [ih,Bool.false_or];cases hZ bs <;> rfl
theorem rW:∀ {bs:List Bst} {cs:List (Int × D)},hZ bs=some cs->bs=cs.map some
 | [],cs,h=>by cases h;rfl
 | none::bs,cs,h=>by cases h
 | some b::bs,cs,h=>by
  have h':(hZ bs).map (b::·)=some cs:=h
  cases e:hZ bs with
  | none=>rw [e] at h';cases h'
  | some r =>rw [e] at h';cases h';rw [rW e];rfl
theorem nr:∀ p:Pa,fM p<=2 ^ (cH p - 1)
 | .hole _=>by simp [fM,cH]
 | .gap _ _=>by simp [fM,cH]
 | .slot _=>by simp [fM,cH]
 | .num _=>by simp [fM,cH]
 | .two o a b=>by
  have h1:=nr a;have h2:=nr b;have d1:=kY a;have d2:=kY b;have e:cH (.two o a b) - 1=(max (cH a) (cH b) - 1)+1:=by simp only [cH];omega
  rw [e,Nat.pow_succ];have p1:2 ^ (cH a - 1)<=2 ^ (max (cH a) (cH b) - 1):=Nat.pow_le_pow_right (by decide) (by omega);have p2:2 ^ (cH b - 1)<=2 ^ (max (cH a) (cH b) - 1):=Nat.pow_le_pow_right (by decide) (by omega);simp only [fM];omega
def xX (as:List Ar) (d:D):Prop:=∃ (ps:List Pc) (t:Tr) (f:Tr->Bst) (ts:List Tr),as=[.d (toD t),.l (ps.map pcD),.l (ts.map toD),.l (ts.map λx=>bD (f x))]/\gY ps/\okT t/\aS t<=8/\ts.length<=200/\(∀ x ∈ ts,okT x/\aS x<=8) /\
 (∀ w ∈ d8 ps t,∀ x ∈ w.ts,x ∈ ts)/\d=bD (kW ps f t)
theorem rS (h:∀ p ∈ ps,uG p) {w:Wy} (hw:w ∈ d8 ps t):w.ts.length<=8/\(w.nm="pick"->w.ts.length=3):=by
 unfold d8 at hw;split at hw
 ·rename_i c;rw [List.mem_singleton.mp hw]
  cases t with
  | pick a b c=>exact ⟨by simp [bQ],λ_=>rfl⟩
  | _=>cases c
 ·obtain ⟨p,h1,h2⟩:=List.mem_filterMap.mp hw;unfold gT at h2
  cases e:bI p.pt t with
  | none=>rw [e] at h2;cases h2
  | some f =>
   rw [e] at h2;cases h2;refine ⟨?_,λz=>absurd z (h p h1).nm⟩;show f.1.length<=8;rw [jA _ _ _ e];have:=nr p.pt;have hd:=(h p h1).dp
   calc fM p.pt<=2 ^ (cH p.pt - 1):=this
    _<=2 ^ 2:=Nat.pow_le_pow_right (by decide) (by omega)
    _<=8:=by decide
theorem mG (T:Txt P w K mg) (Ih:Ok P w base k T.Hc (iW K rT)) (Jd:Ok P w base k T.Hw (spA K C7)):Ok P w base (k+1) T.GH (spA K xX):=by
 refine T.GH.f.ok sc_best_by_ways (λvs H Q E h=>?_) (λcdv A outer s H vs Q E hr h=>?_)
 ·obtain ⟨as,d,hd,⟨ps,t,f,ts,rfl,_⟩,_⟩:=h;exact hd.length.symm
 have nd:=sc_best_by_ways.nd;obtain ⟨as,d,hd,⟨ps,t,f,ts,rfl,okS,okt,dpt,fts,okts,hts,rfl⟩,post⟩:=h;obtain ⟨v0,v1,v2,v3,rfl,h0,h1,h2,h3⟩:=AW hd;have h0:Dat K H (toD t) v0:=h0;have h1:LD K H (ps.map pcD) v1:=h1;have h2:LD K H (ts.map toD) v2:=h2;have h3:LD K H (ts.map λx=>bD (f x)) v3:=h3;refine ⟨_,(ao (a7 (aC bz (aI aK (pv 0) aj) aE (aJ _)) (au (aF (aU (ag (bL (v:=.int 3) rfl T.Gn ⟨_,rfl⟩) (ag (aU af) af))))) aL)
 (ao (bo (i:=4) nd rfl (Or.inl rfl) dN)
 (ao (gu PassesOwn.never rfl (dO (pc (D:=T.Hc) Ih hr (ag (pv 0) (ag (pv 1) af)))) (fe rfl (a8 (aQ (i:=5) nd rfl (Or.inl rfl)) (a8 (aQ (i:=6) nd rfl (Or.inl rfl)) (a8 (aQ (i:=7) nd rfl (Or.inl rfl)) cu)))) (ao (gO (i:=8) (own:=["one"]) (fr:=[2,3]) (N':=["one","done","bests"]) (iF (pv 7)) rfl (by show bW ["tree","some","done","bests","best","name","cells","trees","within","length"] (λx=>(aD dF).names.lookup x) _ _ _ _=true;decide +kernel) rfl (λ_ _ _ _ _=>(aQ (i:=0) (by show List.Nodup [("one":Str),("done":Str),("bests":Str)];decide +kernel) rfl (Or.inl rfl))) (λ_ _ _ _ _=>bN) (λ_ _ _ _ _=>(aI (r:=uT K) bf (pv 2) (DO (r:=mJ K) K rfl F.plainAttrs_list F.slot_list_index F.type_list_index (xj hr) (pv 1) (ag (pv 0) af)))) nd rfl rfl rfl)
 (ao (a7 (bg (aP (yt rfl) rfl T.JJ Dl (ag (cq (own:=["one"]) (fr:=[]) (N':=["one"]) (dO (pv 8)) rfl (by show bW ["tree","some","done","bests","best","name","cells","trees","within","length"] (λx=>(aD dF).names.lookup x) _ _ _ _=true;decide +kernel) rfl (λ_ _ _ _ _=>(aQ (i:=0) (by show List.Nodup [("one":Str)];decide +kernel) rfl (Or.inl rfl))) (λ_ _ _ _ _=>bN) (λ_ _ _ _ _=>(cR rf (pv 0) dN (aJ _)))) af)) (λ_=>rfl)) (au tL) aL)
 (ao (bo (i:=9) nd rfl (Or.inl rfl) (pc (D:=T.Hw) Jd hr (ag (pv 5) (ag (pv 6) (ag (cq (own:=["one"]) (fr:=[]) (N':=["one"]) (dO (pv 8)) rfl (by show bW ["tree","some","done","bests","best","name","cells","trees","within","length"] (λx=>(aD dF).names.lookup x) _ _ _ _=true;decide +kernel) rfl (λ_ _ _ _ _=>(aQ (i:=0) (by show List.Nodup [("one":Str)];decide +kernel) rfl (Or.inl rfl))) (λ_ _ _ _ _=>bN) (λ_ _ _ _ _=>(aI (r:=kG K) aK (pv 0) aj))) af)))))
 (au (a7 (PW.pt (cO (aC rf (pv 4) dN (aJ _)) (cP (aC jg (pv 9) (aI aK (pv 4) aj) (aJ _))))) (au (bo (i:=4) nd rfl (Or.inl rfl) (aU (ag (pv 9) (ag (aU (ag (pv 5) (ag (cI bV rfl T.FT cg (ag (cq (own:=["one"]) (fr:=[]) (N':=["one"]) (dO (pv 8)) rfl (by show bW ["tree","some","done","bests","best","name","cells","trees","within","length"] (λx=>(aD dF).names.lookup x) _ _ _ _=true;decide +kernel) rfl (λ_ _ _ _ _=>(aQ (i:=0) (by show List.Nodup [("one":Str)];decide +kernel) rfl (Or.inl rfl))) (λ_ _ _ _ _=>bN) (λ_ _ _ _ _=>(aI (r:=kG K) aK (pv 0) aj))) af)) af))) af))))) aL))))))
 (au (aF (pv 4)))))),?_⟩
 obtain ⟨kd,r,ek,hpk,hcall,hkids⟩:=sE t okt;have h0':Dat K H (.tup (.str kd::r)) v0:=by rw [<- ek];exact h0
 refine aH (K:=K) (b:=false) (RT.as (ay (aY (aN (k:=0) (ab h0') ak rfl) az)) (decide_eq_false hcall)) (λc=>nomatch c) (λ_ H1 s1=>?_);refine c6 (wD ?_);refine cf (RC.use (K:=K) (d5 (R:=rT) (cZ (ab (k:=0) (s1.dat h0)) (dI (aT (k:=1) (s1.ld h1)) bS)) ⟨ps,t,rfl,okS,okt,dpt,rfl⟩) λl ys H2 hl s2 hy hdy=>?_);have s12:=s1.trans s2;have ly:=hdy.length;rw [List.length_map] at ly;refine ⟨l,rfl,⟨ys,SqL.of hy⟩,i5 (xs:=ys) (λi σ G=>∃ (vb:V) (z5 z6 z7 z8 z9:Option V),σ=[some v0,some v1,some v2,some v3,some vb,z5,z6,z7,z8,z9]/\Same H2 G/\Dat K G (bD (((d8 ps t).take i).foldl (ix f) none)) vb) ?_ (λi σ G _ ⟨_,_,_,_,_,_,_,p,_⟩=>SqL.of (p _ _ hy)) ?_ ?_⟩
 ·exact ⟨.non,_,_,_,_,_,rfl,Same.refl _,Dat.nonI⟩
 ·rintro i vx σ G hi ⟨vb,z5,z6,z7,z8,z9,rfl,sG,hb⟩;have sHG:=s12.trans sG;obtain ⟨dx,ex,hx⟩:=(sG.dats hdy).getV hi;rw [List.getElem?_map] at ex
  cases hw:(d8 ps t)[i]? with
  | none=>rw [hw] at ex;cases ex
  | some w =>
   rw [hw] at ex;cases ex;have hwm:=List.mem_of_getElem? hw;obtain ⟨few,few3⟩:=rS okS.ok hwm;have et:(d8 ps t).take (i+1)=(d8 ps t).take i++[w]:=by rw [List.take_add_one,hw];rfl
   rw [et,List.foldl_append,List.foldl_cons,List.foldl_nil];generalize ((d8 ps t).take i).foldl (ix f) none=best at hb ⊢;obtain ⟨pa,us,rfl,hpa,hus⟩:=(show Dat K G (.tup [.str w.nm,.tup w.cs,.tup (w.ts.map toD)]) vx from hx).tupE;obtain ⟨x5,x6,x7,rfl,k5,k6,k7⟩:=me hus;refine ⟨pa,_,rfl,hpa,rfl,_,_,rfl,_,_,rfl,_,_,rfl,rfl,?_⟩;dsimp only;refine fT (K:=K) (rE (ab (k:=7) k7) (by rw [List.length_map];omega) (w.ts.map λx=>bD (f x)) (by rw [List.length_map,List.length_map]) rfl (λG1 j c v d s1 hc hd hv=>?_)) λlw zs G2 hlw s2 hzs dzs=>?_
   ·rw [List.getElem?_map] at hc hd
    cases hx:w.ts[j]? with
    | none=>rw [hx] at hc;cases hc
    | some x =>rw [hx] at hc hd;cases hc;cases hd;have hxt:=hts w hwm x (List.mem_of_getElem? hx);obtain ⟨m,hm1,hm2⟩:=sv (λy hy=>(okts y hy).1) (okts x hxt).1 hxt;have sH1:=sHG.trans s1;refine gv (k:=m) (aT (k:=2) (sH1.ld h3)) (Ad (k:=1) (sH1.ld h2) (ab (k:=0) hv) (sQ ts) (fU x) (Nat.le_trans (o9 (n:=8) ts λy hy=>(okts y hy).2) (by decide)) (by rw [List.length_map];omega) ⟨toD x,by rw [List.getElem?_map,hm1];rfl,i4 _ (fU x)⟩ hm2) (by rw [List.getElem?_map,hm1];rfl)
   have hL2:LD K G2 (w.ts.map λx=>bD (f x)) (.ref lw):=LD.of hzs dzs;have eM:(w.ts.map λx=>bD (f x))=(w.ts.map f).map bD:=by rw [List.map_map];rfl
   have lM:(w.ts.map f).length<=8:=by rw [List.length_map];exact few
   rw [eM] at hL2;generalize hfb:w.ts.map f=fb at hL2 lM;have eS:∀ b,ix f b w=CT b w (hZ fb):=λb=>by unfold ix;rw [hfb]
   rw [eS];refine aH (K:=K) (b:=(hZ fb).isNone) (RT.as (aW (B7 (bs:=fb.map λb=>isN (bD b)) (jh (aT (k:=8) hL2) (by rw [List.length_map];omega) _ (by simp) rfl (λG1 j c v d s1 hc hd hv=>?_)))) (rV fb)) (λcN G3 s3=>Cf ?_) (λcS G3 s3=>?_)
   ·rw [List.getElem?_map] at hc hd;rw [List.getElem?_map] at hd
    cases hx:fb[j]? with
    | none=>rw [hx] at hc;cases hc
    | some b =>rw [hx] at hc hd;cases hc;cases hd;exact lK (ab (k:=0) hv)
   ·have eN:hZ fb=none:=by cases e:hZ fb with | none=>rfl | some _=>rw [e] at cN;cases cN
    refine ⟨vb,_,_,_,_,_,rfl,sG.trans (s2.trans s3),?_⟩;rw [eN];exact (s2.trans s3).dat hb
   ·cases eb:hZ fb with
    | none=>rw [eb] at cS;cases cS
    | some bs =>
     have efb:=rW eb;have lbs:bs.length<=8:=by rw [efb,List.length_map] at lM;exact lM
     have lbw:bs.length=w.ts.length:=by have:=congrArg List.length hfb;rw [efb,List.length_map,List.length_map] at this;exact this.symm
     have hL3:=s3.ld hL2;have s23:=s2.trans s3;refine eT (K:=K) (d:=.int (eE w (bs.map (·.1)))) (dE (R:=C7) (cZ (ab (k:=5) (s23.dat k5)) (cZ (ab (k:=6) (s23.dat k6)) (dI (ds:=(bs.map (·.1)).map D.int) (eQ (jh (aT (k:=8) hL3) (by rw [List.length_map];omega) _ (by rw [efb];simp) rfl (λG1 j c v d s1 hc hd hv=>?_))) bS))) ⟨w,bs.map (·.1),rfl,λz=>by rw [List.length_map,lbw];exact few3 z,rfl⟩) λvl G4 s4 q4=>?_
     ·rw [efb] at hc;simp only [List.getElem?_map] at hc hd
      cases hx:bs[j]? with
      | none=>rw [hx] at hc;cases hc
      | some b =>rw [hx] at hc hd;cases hc;cases hd;exact aN (k:=0) (ab (k:=0) hv) ak rfl
     have s24:=s23.trans s4;have el:=q4.intE;subst el;have hb4:=s24.dat hb
     have new:∀ {G5:Hp},Same G4 G5->RE K (vi (bC (fG 9) (bC (vi (bC (fG 5) (bC (tCB (λxs H Q=>∃ p ys,xs=[.ref p]/\((SqL K H p ys/\∀ l,H l=none->Q (.ref l) (upd H l (.tup ys)))\/(SqT K H p ys/\Q (.ref p) H))) (bC (fK (pB K (fG 8)) (mkS ["one"] []) (bX 0) dS (tOp (kG K) (fG 0) (tC (.int 1)))) c7)) c7))) c7))) [some v0,some v1,some v2,some v3,some vb,some x5,some x6,some x7,some (.ref lw),some (.int (eE w (bs.map (·.1))))] G5 (.tup [.int (eE w (bs.map (·.1))),cvD w.nm bs]):=λ{G5} s5=>by
      refine aZ (ae (ab (k:=9) (Dat.intI _)) (ae (aZ (ae (ab (k:=5) ((s24.trans s5).dat k5)) (ae (xG (es:=bs.map (·.2)) (jh (aT (k:=8) ((s4.trans s5).ld hL3)) (by rw [List.length_map];omega) _ (by rw [efb];simp) rfl (λG1 j c v d s1 hc hd hv=>?_))) aA))) aA));rw [efb] at hc;simp only [List.getElem?_map] at hc hd
      cases hx:bs[j]? with
      | none=>rw [hx] at hc;cases hc
      | some b =>rw [hx] at hc hd;cases hc;cases hd;exact aN (k:=1) (ab (k:=0) hv) ak rfl
     have done:∀ {G5:Hp} {d:D},Same G4 G5->d=bD (mX best (eE w (bs.map (·.1))) (cvD w.nm bs))->∀ v,Dat K G5 d v->∃ (vb:V) (z5 z6 z7 z8 z9:Option V),[some v0,some v1,some v2,some v3,some v,some x5,some x6,some x7,some (.ref lw),some (.int (eE w (bs.map (·.1))))]=[some v0,some v1,some v2,some v3,some vb,z5,z6,z7,z8,z9]/\Same H2 G5/\Dat K G5 (bD (mX best (eE w (bs.map (·.1))) (cvD w.nm bs))) vb:=λ{G5 d} s5 e v hv =>
      ⟨v,_,_,_,_,_,rfl,sG.trans (s24.trans s5),e ▸ hv⟩
     cases best with
     | none =>refine gh (b:=true) (RT.as (bJ (b:=true) (c:=true) (ay (lK (K:=K) (ab (k:=4) hb4))) λc=>nomatch c) rfl) (λ_ G5 s5=>?_) (λc=>nomatch c);exact rH (K:=K) (new s5) λv G6 s6 q6=>done (s5.trans s6) rfl v q6
     | some b0 =>
      have hb4':Dat K G4 (.tup [.int b0.1,b0.2]) vb:=hb4;refine gh (b:=decide (eE w (bs.map (·.1)) < b0.1)) (RT.as (bJ (b:=false) (ay (lK (K:=K) (ab (k:=4) hb4'))) λ_=>ay (bT (p:=λi j=>decide (i < j)) (ab (k:=9) (Dat.intI _)) (aN (k:=0) (ab (k:=4) hb4') ak rfl))) (Bool.false_or _)) (λc G5 s5=>?_) (λc G5 s5=>jG ?_)
      ·refine rH (K:=K) (new s5) λv G6 s6 q6=>done (s5.trans s6) ?_ v q6;show _=bD (if eE w (bs.map (·.1)) < b0.1 then _ else _);rw [if_pos (of_decide_eq_true c)];rfl
      ·refine done (d:=bD (some b0)) s5 ?_ vb (s5.dat hb4');show _=bD (if eE w (bs.map (·.1)) < b0.1 then _ else _);rw [if_neg (of_decide_eq_false c)]
 ·rintro σ G ⟨vb,z5,z6,z7,z8,z9,rfl,sG,hb⟩;rw [<- ly,List.take_length] at hb;exact ⟨_,rfl,post vb G (s12.trans sG) hb⟩
theorem fL:∀ (t:Tr) (j:Nat) (x:Tr),(aV t)[j]?=some x->∃ r,(aV t).drop j=aV x++r
 | .num n,j,x,h=>by
  cases j with
  | zero=>cases h;exact ⟨[],rfl⟩
  | succ j=>simp [aV] at h
 | .arg n,j,x,h=>by
  cases j with
  | zero=>cases h;exact ⟨[],rfl⟩
  | succ j=>simp [aV] at h
 | .two o a b,j,x,h=>by
  cases j with
  | zero=>cases h;exact ⟨[],by rw [List.drop_zero,List.append_nil]⟩
  | succ j =>
   have h':(aV a++aV b)[j]?=some x:=by simpa [aV] using h
   show ∃ r,(aV a++aV b).drop j=aV x++r;by_cases hj:j < (aV a).length
   ·rw [List.getElem?_append_left hj] at h';obtain ⟨r,e⟩:=fL a j x h';exact ⟨r++aV b,by rw [List.drop_append_of_le_length (Nat.le_of_lt hj),e,List.append_assoc]⟩
   ·rw [List.getElem?_append_right (by omega)] at h';obtain ⟨r,e⟩:=fL b _ x h';refine ⟨r,?_⟩;rw [List.drop_append,List.drop_of_length_le (by omega),List.nil_append];exact e
 | .pick a b c,j,x,h=>by
  cases j with
  | zero=>cases h;exact ⟨[],by rw [List.drop_zero,List.append_nil]⟩
  | succ j =>
   have h':(aV a++(aV b++aV c))[j]?=some x:=by simpa [aV] using h
   show ∃ r,(aV a++aV b++aV c).drop j=aV x++r;rw [List.append_assoc];by_cases hj:j < (aV a).length
   ·rw [List.getElem?_append_left hj] at h';obtain ⟨r,e⟩:=fL a j x h';exact ⟨r++(aV b++aV c),by rw [List.drop_append_of_le_length (Nat.le_of_lt hj),e,List.append_assoc]⟩
   ·rw [List.getElem?_append_right (by omega)] at h';rw [List.drop_append,List.drop_of_length_le (l:=aV a) (by omega),List.nil_append];generalize j - (aV a).length=i at h' ⊢;by_cases hi:i < (aV b).length
    ·rw [List.getElem?_append_left hi] at h';obtain ⟨r,e⟩:=fL b i x h';exact ⟨r++aV c,by rw [List.drop_append_of_le_length (Nat.le_of_lt hi),e,List.append_assoc]⟩
    ·rw [List.getElem?_append_right (by omega)] at h';obtain ⟨r,e⟩:=fL c _ x h';refine ⟨r,?_⟩;rw [List.drop_append,List.drop_of_length_le (by omega),List.nil_append];exact e
theorem oX (hi:i < aR t) (h:(aV t)[aR t - 1 - i]?=some x) (hy:y ∈ (bQ x).flatMap aV):y ∈ (aV t).reverse.take i:=by
 obtain ⟨r,e⟩:=fL t _ x h
 have e2:(aV t).drop (aR t - i)=(bQ x).flatMap aV++r:=by
  have:aR t - i=aR t - 1 - i+1:=by omega
  rw [this,<- List.drop_drop,e,e9 x];rfl
 rw [List.take_reverse,List.mem_reverse,bB,e2];exact List.mem_append_left _ hy
theorem Cd {α:Type} {l:List α} (h:i < l.length):l.reverse[i]?=l[l.length - 1 - i]?:=List.getElem?_reverse h
def C3 (as:List Ar) (d:D):Prop:=∃ (ps:List Pc) (t:Tr) (b:Int × D),as=[.d (toD t),.l (ps.map pcD)]/\gY ps/\okT t/\aS t<=8/\aR t<=200/\fV ps t=some b/\d=.tup [.int b.1,b.2]
theorem D2 {ta:TA} {tb:TS} (h:ta σ H λvs H1=>∃ a xs,vs=[.ref a]/\SqL K H1 a xs/\∃ W:Nat->Nat->L2.St->Hp->Prop,(∃ m,W 0 m σ H1)/\∀ i m σ H,W i m σ H ->
   ((Itv K a xs).stop i H/\En.nx σ H)\/((Itv K a xs).go i H/\∃ N:L2.St->Hp->Prop,(∀ σ' H',N σ' H'->∃ m',m' < m/\W (i+1) m' σ' H')/\∀ x H',(Itv K a xs).yld i H x H'->g x σ H' λσ2 H2=>tb { En with nx:=N,ct:=N,bk:=En.nx } σ2 H2)):Eg (EE K ta) g tb En σ H:=h
theorem zl (h:gY ps):∀ p ∈ ps,e8 p.pt=true:=λp hp=>(h.ok p hp).nh
theorem lB (T:Txt P w K mg) (Iu:Ok P w base k T.Hm (hV K (kU 8))) (Ir:Ok P w base k T.GH (spA K xX)):Ok P w base (k+1) T.Gw (spA K C3):=by
 refine T.Gw.f.ok sc_best_covering (λvs H Q E h=>?_) (λcdv A outer s H vs Q E hr h=>?_)
 ·obtain ⟨as,d,hd,⟨ps,t,b,rfl,_⟩,_⟩:=h;exact hd.length.symm
 have nd:=sc_best_covering.nd;obtain ⟨as,d,hd,⟨ps,t,b,rfl,okS,okt,dpt,szt,hbst,rfl⟩,post⟩:=h;obtain ⟨v0,v1,rfl,h0,h1⟩:=yf hd;have h0:Dat K H (toD t) v0:=h0;have h1:LD K H (ps.map pcD) v1:=h1;refine ⟨_,(ao (bo (i:=2) nd rfl (Or.inl rfl) (bh af))
 (ao (bo (i:=3) nd rfl (Or.inl rfl) (bh af))
 (ao (gu PassesOwn.never rfl (DX rfl T.Iz (ag (pc (D:=T.Hm) Iu hr (ag (pv 0) af)) af)) (aQ (i:=4) nd rfl (Or.inl rfl)) (ao (bu (dk F.plainAttrs_list F.slot_list_append F.type_list_append br (pv 3) (ag (pc (D:=T.GH) Ir hr (ag (pv 4) (ag (pv 1) (ag (pv 2) (ag (pv 3) af))))) af)))
 (au (bu (dk F.plainAttrs_list F.slot_list_append F.type_list_append br (pv 2) (ag (pv 4) af))))))
 (ao (a7 (aC rf (aI bf (pv 3) (zG vq aj)) dN (aJ _)) (au ir) aL)
 (au (aF (aI bf (pv 3) (zG vq aj)))))))),?_⟩
 refine c6 ⟨bU (by decide),λld hld=>?_⟩;refine c6 ⟨bU (by decide),λlb hlb=>?_⟩;have ndb:ld≠lb:=aB aq hlb;have s1:Same H (upd (upd H ld (.lst [])) lb (.lst [])):=(aG hld _).trans (aG hlb _);have hlb0:H lb=none:=(aG hld _).free hlb;have hd1:upd (upd H ld (.lst [])) lb (.lst []) ld=some (.lst []):=by rw [aO ndb];exact aq
 have hb1:upd (upd H ld (.lst [])) lb (.lst []) lb=some (.lst []):=aq;generalize upd (upd H ld (.lst [])) lb (.lst [])=G1 at s1 hd1 hb1 ⊢;refine cf (D2 (K:=K) (cx (RC.use (K:=K) (iG (R:=kU 8) (ae (ab (k:=0) (s1.dat h0)) aA) ⟨t,rfl,okt,dpt,szt,rfl⟩) λlw xs G2 hlw s2 hxs dxs=>?_)));have nwd:ld≠lw:=aB hd1 hlw;have nwb:lb≠lw:=aB hb1 hlw;have lx:=dxs.length;rw [List.length_map,bB] at lx;refine ⟨lw,xs,rfl,SqL.of hxs,Bi (xs:=xs) (λi σ G=>∃ (z4:Option V) (us ws:List V),σ=[some v0,some v1,some (.ref ld),some (.ref lb),z4]/\Same H G/\G lw=some (.lst xs)/\Dats K G ((aV t).map toD) xs/\G ld=some (.lst us)/\Dats K G (((aV t).reverse.take i).map toD) us/\G lb=some (.lst ws)/\Dats K G (((aV t).reverse.take i).map λx=>bD (fV ps x)) ws) ?_ (λi σ G _ ⟨_,_,_,_,_,p,_⟩=>SqL.of p) ?_ ?_⟩
 ·exact ⟨none,[],[],rfl,s1.trans s2,hxs,dxs,s2 _ _ hd1,Dats.nil,s2 _ _ hb1,Dats.nil⟩
 ·rintro i vx σ G hi hx ⟨z4,us,ws,rfl,sG,hwG,dxG,hdG,dus,hbG,dws⟩;obtain ⟨dx,ex,hxd⟩:=dxG.getV hx;rw [List.getElem?_map] at ex
  cases hp:(aV t)[xs.length - 1 - i]? with
  | none=>rw [hp] at ex;cases ex
  | some x =>
   rw [hp] at ex;cases ex;have hp':(aV t)[aR t - 1 - i]?=some x:=by rw [lx];exact hp
   have hxm:=List.mem_of_getElem? hp;have okx:=dW t x okt hxm;have dpx:=(d4 t x hxm).2;have hi':i < (aV t).reverse.length:=by rw [List.length_reverse,bB];omega
   have ei:(aV t).reverse[i]?=some x:=by rw [Cd (by rw [bB];omega),bB];exact hp'
   have et:(aV t).reverse.take (i+1)=(aV t).reverse.take i++[x]:=by rw [List.take_add_one,ei];rfl
   have lus:us.length<=200:=by rw [<- dus.length,List.length_map,List.length_take];omega
   have lws:ws.length<=200:=by rw [<- dws.length,List.length_map,List.length_take];omega
   refine iI ?_;dsimp only;refine gB (K:=K) (d:=bD (fV ps x)) (dE (R:=xX) (cZ (ab (k:=4) hxd) (dI (aT (k:=1) (sG.ld h1)) (dI (aT (k:=2) (LD.of hdG dus)) (dI (aT (k:=3) (LD.of hbG dws)) bS)))) ⟨ps,x,fV ps,(aV t).reverse.take i,rfl,okS,okx,by omega,by rw [List.length_take];rw [List.length_reverse,bB];omega,λy hy=>?_,λw hw y hy=>oX (by omega) hp' (mR (zl okS) hw y hy),by rw [<- yi (zl okS)]⟩) hbG (by omega) λy G3 b3 hb3 q3=>?_
   ·have hym:y ∈ aV t:=List.mem_reverse.mp (List.mem_of_mem_take hy);have:=(d4 t y hym).2;exact ⟨dW t y okt hym,by omega⟩
   have g3:dH K G G3:=b3.grow hbG hb3;have hd3:=b3 _ _ ndb hdG;have hw3:=b3 _ _ (Ne.symm nwb) hwG;refine jF (K:=K) (d:=toD x) (ab (k:=4) (Dat.mono g3 _ hxd)) hd3 (by omega) λy4 G4 b4 hd4 q4=>?_;have g4:dH K G3 G4:=b4.grow hd3 hd4;refine ⟨_,us++[y4],ws++[y],rfl,λa o ha=>b4 a o (aB ha hld) (b3 a o (aB ha hlb0) (sG _ _ ha)),b4 _ _ (Ne.symm nwd) hw3,Dats.mono g4 _ (Dats.mono g3 _ dxG),hd4,?_,b4 _ _ (Ne.symm ndb) hb3,?_⟩
   ·rw [et,List.map_append];exact Dats.append (Dats.mono g4 _ (Dats.mono g3 _ dus)) (Dats.cons q4 Dats.nil)
   ·rw [et,List.map_append];exact Dats.append (Dats.mono g4 _ (Dats.mono g3 _ dws)) (Dats.cons (Dat.mono g4 _ q3) Dats.nil)
 ·rintro σ G ⟨z4,us,ws,rfl,sG,hwG,dxG,hdG,dus,hbG,dws⟩
  have ea:((aV t).reverse.take xs.length).map (λx=>bD (fV ps x))=(((bQ t).flatMap aV).reverse.map λx=>bD (fV ps x))++[bD (some b)]:=by rw [<- lx,<- bB,<- List.length_reverse,List.take_length,e9,List.reverse_cons,List.map_append,List.map_cons,List.map_nil,hbst]
  rw [ea] at dws;have hL:LD K G ((((bQ t).flatMap aV).reverse.map λx=>bD (fV ps x))++[bD (some b)]) (.ref lb):=LD.of hbG dws;refine aH (K:=K) (b:=false) (ay (lK (lN (aT (k:=3) hL) (Ai ak)))) (λc=>nomatch c) (λ_ G3 s3=>?_);exact aX (K:=K) (d:=bD (some b)) (lN (aT (k:=3) (s3.ld hL)) (Ai ak)) λv G4 s4 q4=>post v G4 (sG.trans (s3.trans s4)) q4
structure km (ps:List Pc):Prop where
 lo:1<=ps.length
 hi:ps.length<=16
 pc:∀ p ∈ ps,nS (pcD p)=some true/\p.nm.length<=sizeLine
 nd:(ps.map (·.nm)).Nodup
def Da (as:List Ar) (d:D):Prop:=∃ ps,as=[.l (ps.map pcD)]/\km ps/\d=.bl true
theorem xp (T:Txt P w K mg) (Jk:Ok P w base k T.HF (spD K um)):Ok P w base (k+1) T.Ib (spA K Da):=by
 refine T.Ib.f.ok sc_is_set (λvs H Q E h=>?_) (λcdv A outer s H vs Q E hr h=>?_)
 ·obtain ⟨as,d,hd,⟨ps,rfl,_⟩,_⟩:=h;exact hd.length.symm
 have nd:=sc_is_set.nd;obtain ⟨as,d,hd,⟨ps,rfl,hS,rfl⟩,post⟩:=h;obtain ⟨v0,rfl,h0⟩:=Di hd;have h0:LD K H (ps.map pcD) v0:=h0;have hlo:=hS.lo;have hhi:=hS.hi;refine ⟨_,(ao (a7 (PW.pt (cO (bP (bg (aP (dB Bp) rfl T.Fu bF (bM (pv 0) (bM (eB (v:=.ty "list") rfl T.Jl vC rfl) af))) (λ_=>rfl))) (cP (bP (nW iO iO aj (aP aM rfl T.Fw bq (ag (pv 0) af)) (bL (v:=.int 16) rfl T.Ga ⟨_,rfl⟩)))))) (au (aF ck)) aL)
 (ao (a7 (bP (bg (aP (h9 rfl) rfl T.Iy kX (ag (cq (own:=["piece"]) (fr:=[]) (N':=["piece"]) (dO (pv 0)) rfl (by show bW ["thing"] (λx=>(aD kN).names.lookup x) _ _ _ _=true;decide +kernel) rfl (λ_ _ _ _ _=>(aQ (i:=0) (by show List.Nodup [("piece":Str)];decide +kernel) rfl (Or.inl rfl))) (λ_ _ _ _ _=>bN) (λ_ _ _ _ _=>(pc (D:=T.HF) Jk hr (ag (pv 0) af)))) af)) (λ_=>rfl))) (au (aF ck)) aL)
 (au (aF (cR bz (aP rZ rfl T.Fw bq (ag (cI (wL rfl) rfl T.JK Dm (ag (cq (own:=["piece"]) (fr:=[]) (N':=["piece"]) (dO (pv 0)) rfl (by show bW ["thing"] (λx=>(aD kN).names.lookup x) _ _ _ _=true;decide +kernel) rfl (λ_ _ _ _ _=>(aQ (i:=0) (by show List.Nodup [("piece":Str)];decide +kernel) rfl (Or.inl rfl))) (λ_ _ _ _ _=>bN) (λ_ _ _ _ _=>(aI (r:=kG K) aK (pv 0) aj))) af)) af)) (aP aM rfl T.Fw bq (ag (pv 0) af)) (aJ _)))))),?_⟩
 refine aH (K:=K) (b:=false) ?_ (λc=>nomatch c) (λ_ H1 s1=>?_)
 ·refine RT.as (bJ (b:=false) (RT.as (bj (aW (bA (ab h0.lst)))) rfl) λ_=>bj (ay (kH (p:=λi j=>decide (i<=j)) (r:=λi j=>decide (i<=j)) ak (cT (aT h0)) λ_=>ak))) ?_;rw [List.length_map,Bool.false_or,decide_eq_true (show (1:Int)<=(ps.length:Int) by omega),decide_eq_true (show (ps.length:Int)<=16 by omega)];rfl
 have h0:=s1.ld h0;refine aH (K:=K) (b:=false) ?_ (λc=>nomatch c) (λ_ H2 s2=>?_)
 ·refine RT.as (bj (aW (jE (bs:=ps.map λ_=>true) (jh (aT h0) (by rw [List.length_map];omega) _ (by simp) rfl (λG1 j c v d s1 hc hd hv=>?_))))) ?_
  ·simp only [List.getElem?_map] at hc hd
   cases hx:ps[j]? with
   | none=>rw [hx] at hc;cases hc
   | some p =>rw [hx] at hc hd;cases hc;cases hd;obtain ⟨k1,k2⟩:=hS.pc p (List.mem_of_getElem? hx);exact a9 (R:=um) (ae (ab (k:=0) hv) aA) ⟨pcD p,true,rfl,k2,k1,rfl⟩
  ·rw [List.all_map];simp
 have h0:=s2.ld h0;refine aX (K:=K) (d:=.bl true) (RE.as (n6 (xD (zs:=ps.map (·.nm)) (jh (aT h0) (by rw [List.length_map];omega) _ (by simp) rfl (λG1 j c v d s1 hc hd hv=>?_)) (by rw [List.length_map];omega)) (cT (aT h0))) ?_) λv H' s q=>post v H' (s1.trans (s2.trans s)) q
 ·simp only [List.getElem?_map] at hc hd
  cases hx:ps[j]? with
  | none=>rw [hx] at hc;cases hc
  | some p =>rw [hx] at hc hd;cases hc;cases hd;exact aN (k:=0) (ab (k:=0) hv) ak rfl
 ·rw [(A7 _).mpr hS.nd,List.length_map,List.length_map];simp
def jV (as:List Ar) (d:D):Prop:=∃ ps,as=[.l (ps.map pcD)]/\km ps/\d=.non
theorem tu (T:Txt P w K mg) (Ju:Ok P w base k T.Ib (spA K Da)):Ok P w base (k+1) T.Gk (spA K jV):=by
 refine T.Gk.f.ok sc_need_set (λvs H Q E h=>?_) (λcdv A outer s H vs Q E hr h=>?_)
 ·obtain ⟨as,d,hd,⟨ps,rfl,_⟩,_⟩:=h;exact hd.length.symm
 have nd:=sc_need_set.nd;obtain ⟨as,d,hd,⟨ps,rfl,hS,rfl⟩,post⟩:=h;obtain ⟨v0,rfl,h0⟩:=Di hd;have h0:LD K H (ps.map pcD) v0:=h0;refine ⟨_,(au (a7 (bP (bg (pc (D:=T.Ib) Ju hr (ag (pv 0) af)) (λ_=>rfl))) (au ir) aL)),?_⟩;exact gh (b:=false) (bj (aW (dE (K:=K) (R:=Da) (dI (aT h0) bS) ⟨ps,rfl,hS,rfl⟩))) (λc=>nomatch c) (λ_ H1 s1=>post _ H1 s1 Dat.nonI)
def qg (as:List Ar) (d:D):Prop:=∃ (ps:List Pc) (t:Tr) (b:Int × D),as=[.d (toD t),.l (ps.map pcD)]/\km ps/\gY ps/\okT t/\aS t<=8/\aR t<=40/\fV ps t=some b/\d=.int b.1
theorem rb (T:Txt P w K mg) (GR:Ok P w base k T.F4 (spD K oY)) (He:Ok P w base k T.Gk (spA K jV)) (Im:Ok P w base k T.Gw (spA K C3)):Ok P w base (k+1) T.Hx (spA K qg):=by
 refine T.Hx.f.ok sc_length_of (λvs H Q E h=>?_) (λcdv A outer s H vs Q E hr h=>?_)
 ·obtain ⟨as,d,hd,⟨ps,t,b,rfl,_⟩,_⟩:=h;exact hd.length.symm
 have nd:=sc_length_of.nd;obtain ⟨as,d,hd,⟨ps,t,b,rfl,hS,okS,okt,dpt,szt,hbst,rfl⟩,post⟩:=h;obtain ⟨v0,v1,rfl,h0,h1⟩:=yf hd;have h0:Dat K H (toD t) v0:=h0;have h1:LD K H (ps.map pcD) v1:=h1;refine ⟨_,(ao (bu (pc (D:=T.F4) GR hr (ag (pv 0) af)))
 (ao (bu (pc (D:=T.Gk) He hr (ag (pv 1) af)))
 (au (aF (aI aK (pc (D:=T.Gw) Im hr (ag (pv 0) (ag (pv 1) af))) aj))))),?_⟩
 refine lP (RE.use (a9 (R:=oY) (d:=.non) (ae (ab (K:=K) (k:=0) h0) aA) ⟨toD t,rfl,rR okt dpt szt,rfl⟩) λv4 H1 s1 _=>?_);refine lP (RE.use (dE (R:=jV) (d:=.non) (dI (aT (K:=K) (k:=1) (s1.ld h1)) bS) ⟨ps,rfl,hS,rfl⟩) λv5 H2 s2 _=>?_);have s12:=s1.trans s2;exact aX (K:=K) (d:=.int b.1) (aN (k:=0) (dE (R:=C3) (cZ (ab (k:=0) (s12.dat h0)) (dI (aT (k:=1) (s12.ld h1)) bS)) ⟨ps,t,b,rfl,okS,okt,dpt,by omega,hbst,rfl⟩) ak rfl) λv H' s q=>post v H' (s12.trans s) q
structure ug (ps:List Pc) (t:Tr):Prop where
 os:gY ps
 gs:km ps
 ot:okT t
 dp:aS t<=8
 sz:aR t<=40
def pA:Pa->Nat
 | .gap _ _=>1
 | .two _ a b=>pA a+pA b
 | _=>0
def lV:Pa->Nat
 | .slot _=>1
 | .two _ a b=>lV a+lV b
 | _=>0
theorem ki:∀ (p:Pa) (t:Tr) (f:Fnd),bI p t=some f->f.2.1.length=pA p/\f.2.2.length=lV p
 | .hole i,t,f,h=>by cases h;exact ⟨rfl,rfl⟩
 | .gap i m,t,f,h=>by
  cases t with
  | num n =>
   have h':(if n<=m then some ([],[n],[]) else none:Option Fnd)=some f:=h;by_cases z:n<=m
   ·rw [if_pos z] at h';cases h';exact ⟨rfl,rfl⟩
   ·rw [if_neg z] at h';cases h'
  | _=>cases h
 | .slot i,t,f,h=>by
  cases t with
  | arg n=>cases h;exact ⟨rfl,rfl⟩
  | _=>cases h
 | .num m,t,f,h=>by
  cases t with
  | num n =>
   have h':(if n=m then some ([],[],[]) else none:Option Fnd)=some f:=h;by_cases z:n=m
   ·rw [if_pos z] at h';cases h';exact ⟨rfl,rfl⟩
   ·rw [if_neg z] at h';cases h'
  | _=>cases h
 | .two o a b,t,f,h=>by
  cases t with
  | two o' u v =>
   obtain ⟨_,f1,f2,e1,e2,e3⟩:=de h;subst e3;have h1:=ki a u f1 e1;have h2:=ki b v f2 e2;refine ⟨?_,?_⟩
   ·show (f1.2.1++f2.2.1).length=pA a+pA b;rw [List.length_append,h1.1,h2.1]
   ·show (f1.2.2++f2.2.2).length=lV a+lV b;rw [List.length_append,h1.2,h2.2]
  | _=>cases h
inductive Cl where
 | n (i:Int)
 | arg (k:Nat)
 | low (k:Nat)
 | high (k:Nat)
def clD:Cl->D
 | .n i=>.int i
 | .arg k=>.tup [.str "arg",.int k]
 | .low k=>.tup [.str "low",.int k]
 | .high k=>.tup [.str "high",.int k]
def A4 (g s:Nat):Cl->Bool
 | .n _=>true
 | .arg k=>decide (k < s)
 | .low k=>decide (k < g)
 | .high k=>decide (k < g)
def iM (nums ks:List Int):Cl->Int
 | .n i=>i
 | .arg k=>ks.getD k 0
 | .low k=>nums.getD k 0 % 100
 | .high k=>nums.getD k 0 / 100
structure Cw (p:Pc) (cl:List Cl):Prop where
 eq:p.cs=cl.map clD
 ok:∀ c ∈ cl,A4 (pA p.pt) (lV p.pt) c=true
def di (near far:Int) (n:Nat):List D:=(cM near far n).map D.int
theorem ko (near far:Int) (n:Nat):((di near far n).length:Int)=fz n:=by unfold di;rw [List.length_map,fY]
def dq (x y z:List D):List D:=x++di 10 11 (y++di 8 9 z.length).length++(y++di 8 9 z.length)++z
def bR (xss:List (List D)) (f:Fnd) (cl:List Cl):List D:=xss.flatten++cl.map λc=>D.int (iM f.2.1 f.2.2 c)
theorem ED (t:Tr):∃ kd y r,toD t=.tup (.str kd::y::r):=by cases t <;> exact ⟨_,_,_,rfl⟩
variable {ta tb:TE}
theorem CL (h:ta σ H λx H1=>∃ c,x=.bl c/\if c=true then tb σ H1 Q else Q (.bl false) H1):Ax ta tb σ H Q:=h
def oL (l0 l1 l2:Addr):HO:=.lst [.ref l0,.ref l1,.ref l2]
theorem Dr (m:Int) (t:Tr) (ht:okT t):eqD (toD t) (toP (.num m))=(bI (.num m) t).isSome:=by
 cases t with
 | num n =>
  show eqD (.tup [.str "num",.int n]) (.tup [.str "num",.int m])=(if n=m then some _ else none:Option Fnd).isSome;by_cases h:n=m
  ·rw [if_pos h];simp [eqD,eqDs,h]
  ·rw [if_neg h];simp [eqD,eqDs,h]
 | arg n=>exact rfl
 | two o a b =>have h:o="add"\/o="sub"\/o="mul"\/o="less":=ht.1;show eqD (.tup [.str o,toD a,toD b]) (.tup [.str "num",.int m])=false;unfold eqD eqDs eqD;rcases h with rfl | rfl | rfl | rfl <;> rfl
 | pick a b c=>exact rfl
theorem sU (T:Txt P w K mg) (GI:Ok P w base k T.FZ (jv K oL n)):Ok P w base (k+1) T.FZ (jv K oL (n+1)):=by
 refine T.FZ.f.ok sc__law_fit (λvs H Q E h=>?_) (λcdv A outer s H vs Q E hr h=>?_)
 ·obtain ⟨p,t,v0,v1,f,l0,l1,l2,a,b,c,rfl,_⟩:=h;rfl
 have nd:=sc__law_fit.nd;obtain ⟨p,t,v0,v1,f,l0,l1,l2,a,b,c,rfl,okp,okt,dpt,hn,hn3,h0,h1,hf,f0,f1,f2,tri,la,lb,lc,post⟩:=h;refine ⟨_,(ao (a7 (aC bz (aI aK (pv 0) aj) aE (aJ _)) (ao (bu (dk F.plainAttrs_list F.slot_list_append F.type_list_append br (aI bf (pv 2) aj) (ag (pv 1) af)))
 (au (aF ck))) aL)
 (ao (a7 (aC bz (aI aK (pv 0) aj) aE (aJ _)) (ao (bu (dk F.plainAttrs_list F.slot_list_append F.type_list_append br (aI bf (pv 2) aj) (ag (aI aK (pv 1) aj) af)))
 (au (aF (gL (cR bz (aI aK (pv 1) aj) aE (aJ _)) (gM (cR iO (aI aK (pv 1) aj) (aI aK (pv 0) aj) (aJ _))))))) aL)
 (ao (a7 (aC bz (aI aK (pv 0) aj) aE (aJ _)) (ao (bu (dk F.plainAttrs_list F.slot_list_append F.type_list_append br (aI bf (pv 2) aj) (ag (aI aK (pv 1) aj) af)))
 (au (aF (cR bz (aI aK (pv 1) aj) aE (aJ _))))) aL)
 (ao (a7 (aC bz (aI aK (pv 0) aj) aE (aJ _)) (au (aF (cR (DL hr) (pv 1) (pv 0) (aJ _)))) aL)
 (au (aF (gL (cR bz (aI aK (pv 1) aj) (aI aK (pv 0) aj) (aJ _)) (gL (pc (D:=T.FZ) GI hr (ag (aI aK (pv 0) aj) (ag (aI aK (pv 1) aj) (ag (pv 2) af)))) (gM (pc (D:=T.FZ) GI hr (ag (aI aK (pv 0) aj) (ag (aI aK (pv 1) aj) (ag (pv 2) af))))))))))))),?_⟩
 obtain ⟨kd,y1,r,ek⟩:=ED t;obtain ⟨kd',r',ek',hnum,harg⟩:=yO t okt
 have ekk:kd'=kd:=by rw [ek] at ek';injection ek' with z;injection z with z _;injection z with z;exact z.symm
 subst ekk;have h1':Dat K H (.tup (.str kd'::y1::r)) v1:=by rw [<- ek];exact h1
 have hf':∀ {G:Hp},But3 l0 l1 l2 H G->G f=some (oL l0 l1 l2):=λbb=>bb _ _ f0 f1 f2 hf;have p1:=zP (n+1);have p2:2 ^ (n+1)=2 * 2 ^ n:=by rw [Nat.pow_succ,Nat.mul_comm]
 cases p with
 | hole i =>have h0:Dat K H (.tup [.str "hole",.int i]) v0:=h0;refine aH (K:=K) (b:=true) (RT.as (ay (aY (aN (k:=0) (ab h0) ak rfl) az)) (decide_eq_true rfl)) (λ_ H1 s1=>?_) (λc=>nomatch c);refine cf ⟨_,rfl,f,_,0,_,rfl,rfl,SqL.of (show H1 f=some (.lst [.ref l0,.ref l1,.ref l2]) from s1 _ _ hf),at0,.inl ⟨rfl,_,SqL.of (s1 _ _ tri.h0)⟩,_,rfl,?_⟩;have tri1:=tri.same s1;refine ⟨l0,a,v1,rfl,rfl,tri1.h0,bx (by omega),?_⟩;obtain ⟨t5,b5⟩:=tri1.p0 (v:=v1);refine post _ [v1] [] [] (s1.but3.trans b5) t5 (by simpa using p1) (by simp) (by simp) λfd e=>?_;cases e;exact ⟨Dats.cons (Dat.mono (b5.grow tri1 t5) _ (s1.dat h1)) Dats.nil,Dats.nil,Dats.nil⟩
 | gap i m =>
  have h0:Dat K H (.tup [.str "gap",.int i,.int m]) v0:=h0;refine aH (K:=K) (b:=false) (RT.as (ay (aY (aN (k:=0) (ab h0) ak rfl) az)) (decide_eq_false (by decide +kernel))) (λc=>nomatch c) (λ_ H1 s1=>?_);have h0:=s1.dat h0;refine aH (K:=K) (b:=true) (RT.as (ay (aY (aN (k:=0) (ab h0) ak rfl) az)) (decide_eq_true rfl)) (λ_ H2 s2=>?_) (λc=>nomatch c);have h0:=s2.dat h0;have s12:=s1.trans s2;refine cf ⟨_,rfl,f,_,1,_,rfl,rfl,SqL.of (show H2 f=some (.lst [.ref l0,.ref l1,.ref l2]) from s12 _ _ hf),at1,.inl ⟨rfl,_,SqL.of (s12 _ _ tri.h1)⟩,?_⟩;refine cx (RE.use (K:=K) (d:=y1) (aN (k:=1) (ab (s12.dat h1')) ak rfl) λy H4 s4 q4=>?_);have s14:=s12.trans s4;have tri4:=tri.same s14;refine ⟨l1,b,y,rfl,rfl,tri4.h1,bx (by omega),?_⟩;obtain ⟨t5,b5⟩:=tri4.p1 (v:=y);have g5:=b5.grow (K:=K) tri4 t5;dsimp only;by_cases hnn:∃ nn,t=.num nn
  ·obtain ⟨nn,rfl⟩:=hnn;have h1:Dat K H (.tup [.str "num",.int nn]) v1:=h1
   have ey:y1=.int nn:=by have z:toD (.num nn)=.tup [.str "num",.int nn]:=rfl;rw [z] at ek;injection ek with ek;injection ek with _ ek;injection ek with ek _;exact ek.symm
   subst ey;have h5:=Dat.mono g5 _ (s14.dat h1);refine aX (K:=K) (d:=.bl (decide (nn<=m))) (RE.as (cQ (b:=true) (RE.as (aY (aN (k:=0) (ab h5) ak rfl) az) (congrArg D.bl (decide_eq_true rfl))) λ_=>bT (p:=λi j=>decide (i<=j)) (aN (k:=1) (ab h5) ak rfl) (aN (k:=2) (ab (Dat.mono g5 _ (s4.dat h0))) ak rfl)) rfl) λv H' s qq=>?_;rw [qq.blE]
   have pz:=post _ [] [y] [] ((s14.but3.trans b5).trans s.but3) (t5.same s) (by simp) (by simpa using p1) (by simp) λfd z=>by
    have z':(if nn<=m then some ([],[nn],[]) else none:Option Fnd)=some fd:=z;by_cases hm:nn<=m
    ·rw [if_pos hm] at z';cases z';exact ⟨Dats.nil,Dats.cons (s.dat (Dat.mono g5 _ q4)) Dats.nil,Dats.nil⟩
    ·rw [if_neg hm] at z';cases z'
   have e:(bI (.gap i m) (.num nn)).isSome=decide (nn<=m):=by
    show (if nn<=m then some _ else none:Option Fnd).isSome=_;by_cases hm:nn<=m
    ·rw [if_pos hm,decide_eq_true hm];rfl
    ·rw [if_neg hm,decide_eq_false hm];rfl
   rw [e] at pz;exact pz
  ·have e:=sA (i:=i) (m:=m) λn z=>hnn ⟨n,z⟩;refine aX (K:=K) (d:=.bl false) (RE.as (cQ (b:=false) (c:=true) (RE.as (aY (aN (k:=0) (ab (Dat.mono g5 _ (s14.dat h1'))) ak rfl) az) (congrArg D.bl (decide_eq_false (λz=>hnn (hnum.mp z))))) λc=>nomatch c) rfl) λv H' s qq=>?_;rw [qq.blE];have pz:=post _ [] [y] [] ((s14.but3.trans b5).trans s.but3) (t5.same s) (by simp) (by simpa using p1) (by simp) λfd z=>by rw [e] at z;cases z
   rw [e] at pz;exact pz
 | slot i =>
  have h0:Dat K H (.tup [.str "slot",.int i]) v0:=h0;refine aH (K:=K) (b:=false) (RT.as (ay (aY (aN (k:=0) (ab h0) ak rfl) az)) (decide_eq_false (by decide +kernel))) (λc=>nomatch c) (λ_ H1 s1=>?_);have h0:=s1.dat h0;refine aH (K:=K) (b:=false) (RT.as (ay (aY (aN (k:=0) (ab h0) ak rfl) az)) (decide_eq_false (by decide +kernel))) (λc=>nomatch c) (λ_ H2 s2=>?_);have h0:=s2.dat h0;refine aH (K:=K) (b:=true) (RT.as (ay (aY (aN (k:=0) (ab h0) ak rfl) az)) (decide_eq_true rfl)) (λ_ H3 s3=>?_) (λc=>nomatch c);have s13:=s1.trans (s2.trans s3);refine cf ⟨_,rfl,f,_,2,_,rfl,rfl,SqL.of (show H3 f=some (.lst [.ref l0,.ref l1,.ref l2]) from s13 _ _ hf),at2,.inl ⟨rfl,_,SqL.of (s13 _ _ tri.h2)⟩,?_⟩;refine cx (RE.use (K:=K) (d:=y1) (aN (k:=1) (ab (s13.dat h1')) ak rfl) λy H4 s4 q4=>?_);have s14:=s13.trans s4;have tri4:=tri.same s14;refine ⟨l2,c,y,rfl,rfl,tri4.h2,bx (by omega),?_⟩;obtain ⟨t5,b5⟩:=tri4.p2 (v:=y);have g5:=b5.grow (K:=K) tri4 t5;dsimp only;refine aX (K:=K) (d:=.bl (decide (kd'="arg"))) (aY (aN (k:=0) (ab (Dat.mono g5 _ (s14.dat h1'))) ak rfl) az) λv H' s qq=>?_;rw [qq.blE]
  have pz:=post _ [] [] [y] ((s14.but3.trans b5).trans s.but3) (t5.same s) (by simp) (by simp) (by simpa using p1) λfd z=>by
   cases t with
   | arg nn =>
    cases z
    have ey:y1=.int nn:=by have z:toD (.arg nn)=.tup [.str "arg",.int nn]:=rfl;rw [z] at ek;injection ek with ek;injection ek with _ ek;injection ek with ek _;exact ek.symm
    subst ey;exact ⟨Dats.nil,Dats.nil,Dats.cons (s.dat (Dat.mono g5 _ q4)) Dats.nil⟩
   | _=>cases z
  by_cases ha:∃ n,t=.arg n
  ·rw [decide_eq_true (harg.mpr ha)];obtain ⟨nn,rfl⟩:=ha;exact pz
  ·rw [decide_eq_false (λz=>ha (harg.mp z))];rw [pU λn z=>ha ⟨n,z⟩] at pz;exact pz
 | num m =>
  have h0:Dat K H (.tup [.str "num",.int m]) v0:=h0;refine aH (K:=K) (b:=false) (RT.as (ay (aY (aN (k:=0) (ab h0) ak rfl) az)) (decide_eq_false (by decide +kernel))) (λc=>nomatch c) (λ_ H1 s1=>?_);have h0:=s1.dat h0;refine aH (K:=K) (b:=false) (RT.as (ay (aY (aN (k:=0) (ab h0) ak rfl) az)) (decide_eq_false (by decide +kernel))) (λc=>nomatch c) (λ_ H2 s2=>?_);have h0:=s2.dat h0;refine aH (K:=K) (b:=false) (RT.as (ay (aY (aN (k:=0) (ab h0) ak rfl) az)) (decide_eq_false (by decide +kernel))) (λc=>nomatch c) (λ_ H3 s3=>?_);have h0:=s3.dat h0;refine aH (K:=K) (b:=true) (RT.as (ay (aY (aN (k:=0) (ab h0) ak rfl) az)) (decide_eq_true rfl)) (λ_ H4 s4=>?_) (λc=>nomatch c);have s14:=s1.trans (s2.trans (s3.trans s4));refine ⟨_,rfl,_,rfl,toD t,toP (.num m),s14.dat h1,s4.dat h0,fU t,by unfold toP;simp [noL,noLs],by rw [gQ];omega,?_⟩;show Q (.bl (eqD (toD t) (toP (.num m)))) _;rw [Dr m t okt]
  exact post _ [] [] [] s14.but3 (tri.same s14).nil (by simp) (by simp) (by simp) λfd z=>by
   cases t with
   | num nn =>
    have z':(if nn=m then some ([],[],[]) else none:Option Fnd)=some fd:=z;by_cases hm:nn=m
    ·rw [if_pos hm] at z';cases z';exact ⟨Dats.nil,Dats.nil,Dats.nil⟩
    ·rw [if_neg hm] at z';cases z'
   | _=>cases z
 | two o pa pb =>
  have h0:Dat K H (.tup [.str o,toP pa,toP pb]) v0:=h0;have ho:okB o:=okp.1;refine aH (K:=K) (b:=false) (RT.as (ay (aY (aN (k:=0) (ab h0) ak rfl) az)) (decide_eq_false (by intro z;subst z;exact absurd ho (by decide +kernel)))) (λc=>nomatch c) (λ_ H1 s1=>?_);have h0:=s1.dat h0;refine aH (K:=K) (b:=false) (RT.as (ay (aY (aN (k:=0) (ab h0) ak rfl) az)) (decide_eq_false (by intro z;subst z;exact absurd ho (by decide +kernel)))) (λc=>nomatch c) (λ_ H2 s2=>?_);have h0:=s2.dat h0;refine aH (K:=K) (b:=false) (RT.as (ay (aY (aN (k:=0) (ab h0) ak rfl) az)) (decide_eq_false (by intro z;subst z;exact absurd ho (by decide +kernel)))) (λc=>nomatch c) (λ_ H3 s3=>?_);have h0:=s3.dat h0;refine aH (K:=K) (b:=false) (RT.as (ay (aY (aN (k:=0) (ab h0) ak rfl) az)) (decide_eq_false (by intro z;subst z;exact absurd ho (by decide +kernel)))) (λc=>nomatch c) (λ_ H4 s4=>?_);have h0:=s4.dat h0;have s14:=s1.trans (s2.trans (s3.trans s4));refine fE (CL (RE.use (K:=K) (d:=.bl (decide (kd'=o))) (aY (aN (k:=0) (ab (s14.dat h1')) ak rfl) (aN (k:=0) (ab h0) ak rfl)) λvb G sG qb=>⟨_,qb.blE,?_⟩));have s1G:=s14.trans sG;by_cases hk:kd'=o
  ·rw [decide_eq_true hk];refine gU ?_;obtain ⟨x,y,rfl⟩:=sF ho ek hk;have h1:Dat K H (.tup [.str o,toD x,toD y]) v1:=h1;have dpa:cH pa<=n:=by simp only [cH] at hn;omega
   have dpb:cH pb<=n:=by simp only [cH] at hn;omega
   have dpx:aS x<=8:=by simp only [aS] at dpt;omega
   have dpy:aS y<=8:=by simp only [aS] at dpt;omega
   refine CL (hE (cx (RE.use (K:=K) (d:=toP pa) (aN (k:=1) (ab (sG.dat h0)) ak rfl) λw0 H5 s5 q5=>?_)));refine cx (RE.use (K:=K) (d:=toD x) (aN (k:=1) (ab ((s1G.trans s5).dat h1)) ak rfl) λw1 H6 s6 q6=>?_);have s16:=s1G.trans (s5.trans s6);have tri6:=tri.same s16;refine ⟨_,rfl,pa,x,w0,w1,f,l0,l1,l2,a,b,c,rfl,okp.2.1,okt.2.1,dpx,dpa,by omega,s6.dat q5,q6,s16 _ _ hf,f0,f1,f2,tri6,by omega,by omega,by omega,λH7 a1 b1' c1 bb7 tri7 ka kb kc d7=>?_⟩;refine ⟨_,rfl,?_⟩;have g67:dH K H6 H7:=bb7.grow tri6 tri7;have bb17:But3 l0 l1 l2 H H7:=s16.but3.trans bb7
   cases hfa:bI pa x with
   | none =>
    refine ik ?_;have pz:=post H7 a1 b1' c1 bb17 tri7 (Nat.le_trans ka (Nat.pow_le_pow_right (by decide) (by omega))) (Nat.le_trans kb (Nat.pow_le_pow_right (by decide) (by omega))) (Nat.le_trans kc (Nat.pow_le_pow_right (by decide) (by omega))) λfd z=>by rw [gX hfa] at z;cases z
    rw [gX hfa] at pz;exact pz
   | some fa =>
    refine gU ?_;obtain ⟨da,db,dc⟩:=d7 fa hfa;refine hE (cx (RE.use (K:=K) (d:=toP pb) (aN (k:=2) (ab (Dat.mono g67 _ ((sG.trans (s5.trans s6)).dat h0))) ak rfl) λw2 H8 s8 q8=>?_));refine cx (RE.use (K:=K) (d:=toD y) (aN (k:=2) (ab (s8.dat (Dat.mono g67 _ (s16.dat h1)))) ak rfl) λw3 H9 s9 q9=>?_);have s79:=s8.trans s9;have tri9:=tri7.same s79;refine ⟨_,rfl,pb,y,w2,w3,f,l0,l1,l2,a++a1,b++b1',c++c1,rfl,okp.2.2,okt.2.2,dpy,dpb,by omega,s9.dat q8,q9,s79 _ _ (hf' bb17),f0,f1,f2,tri9,by rw [List.length_append];omega,by rw [List.length_append];omega,by rw [List.length_append];omega,λH10 a2 b2' c2 bb10 tri10 ma mb mc d10=>?_⟩;have g:=bb10.grow (K:=K) tri9 tri10;rw [List.append_assoc,List.append_assoc,List.append_assoc] at tri10
    have pz:=post H10 (a1++a2) (b1'++b2') (c1++c2) (bb17.trans (s79.but3.trans bb10)) tri10 (lI ka ma) (lI kb mb) (lI kc mc) λfd z=>by
     obtain ⟨_,f',g',e1,e2,e3⟩:=de z;rw [hfa] at e1;cases e1;obtain ⟨da2,db2,dc2⟩:=d10 g' e2;subst e3;refine ⟨?_,?_,?_⟩
     ·show Dats K H10 ((fa.1++g'.1).map toD) _;rw [List.map_append];exact Dats.append (Dats.mono g _ (s79.dats da)) da2
     ·show Dats K H10 ((fa.2.1++g'.2.1).map D.int) _;rw [List.map_append];exact Dats.append (Dats.mono g _ (s79.dats db)) db2
     ·show Dats K H10 ((fa.2.2++g'.2.2).map D.int) _;rw [List.map_append];exact Dats.append (Dats.mono g _ (s79.dats dc)) dc2
    rw [m9 hfa] at pz;exact pz
  ·rw [decide_eq_false hk];refine ik ?_;have e:=sx (a:=pa) (b:=pb) ho ek hk;have pz:=post _ [] [] [] s1G.but3 (tri.same s1G).nil (by simp) (by simp) (by simp) λfd z=>by rw [e] at z;cases z
   rw [e] at pz;exact pz
variable {tt:TT} {es:List D}
theorem EY {b:Bool} (h:RT tt σ H b) (h1:b=true->RC K ta σ H es) (h2:b=false->RC K tb σ H es):RC K (tIf tt ta tb) σ H es:=λH1 s Q q =>
 (h.mono s).use λH' s'=>by
  cases b with
  | true=>exact gU (h1 rfl H' (s.trans s') Q λl ys H2 hl s2=>q l ys H2 (s'.free hl) (s'.trans s2))
  | false=>exact ik (h2 rfl H' (s.trans s') Q λl ys H2 hl s2=>q l ys H2 (s'.free hl) (s'.trans s2))
def qc (ds es:List D):Prop:=∃ n f m,ds=[.int n,.int f,.int m]/\es=(cM n f m).map D.int
theorem qT (T:Txt P w K mg)  : Ok P w base (k+1) T.GV (hV K qc):=by
 refine T.GV.f.ok sc__law_jump (λvs H Q E h=>?_) (λcdv A outer s H vs Q E hr h=>?_)
 ·obtain ⟨ds,es,hd,⟨n,f,m,rfl,rfl⟩,_⟩:=h;exact hd.length.symm
 have nd:=sc__law_jump.nd;obtain ⟨ds,es,hd,⟨n,f,m,rfl,rfl⟩,post⟩:=h;obtain ⟨v0,v1,v2,rfl,h0,h1,h2⟩:=me hd;refine ⟨_,(au (aF (dQ (aC iO (pv 2) aj (aJ _)) (bh (ag (pv 0) (ag (pv 2) af))) (bh (ag (pv 1) (ag (ba dD (pv 2) aj) (ag (ba iE (pv 2) aj) af))))))),?_⟩;refine fE (RC.use (K:=K) (EY (b:=decide (m<=9)) (ay (bT (p:=λi j=>decide (i<=j)) (ab h2) ak)) (λc=>?_) (λc=>?_)) λl ys H' hl s hy hd=>post l ys H' s hy hl hd)
 ·have e:cM n f m=[n,m]:=by unfold cM;rw [if_pos (of_decide_eq_true c)]
  rw [e];exact eK (ae (ab h0) (ae (ab h2) aA))
 ·have e:cM n f m=[f,m % 100,m / 100]:=by unfold cM;rw [if_neg (of_decide_eq_false c)]
  rw [e];exact eK (ae (ab h1) (ae (iH (ab h2) ak (by decide)) (ae (mK (ab h2) ak ⟨by decide,by decide⟩) aA)))
theorem D3 {tb:TS} (h:te σ H λx H1=>∃ a,x=.ref a/\(∃ xs,SqT K H1 a xs)/\∃ W:Nat->Nat->L2.St->Hp->Prop,(∃ m,W 0 m σ H1)/\∀ i m σ H,W i m σ H ->
   ((Itt K a).stop i H/\En.nx σ H)\/((Itt K a).go i H/\∃ N:L2.St->Hp->Prop,(∀ σ' H',N σ' H'->∃ m',m' < m/\W (i+1) m' σ' H')/\∀ x H',(Itt K a).yld i H x H'->g x σ H' λσ2 H2=>tb { En with nx:=N,ct:=N,bk:=En.nx } σ2 H2)):Eg (yT K te) g tb En σ H:=h
def ui (as:List Ar) (es:List D):Prop:=∃ (cl:List Cl) (nums ks:List Int),as=[.d (.tup (cl.map clD)),.l (nums.map D.int),.l (ks.map D.int)]/\(∀ c ∈ cl,A4 nums.length ks.length c=true)/\cl.length<=12/\es=cl.map λc=>D.int (iM nums ks c)
variable {ns:List Int}
theorem jC {k:Nat} (h:k < ns.length):(ns.map D.int)[k]?=some (.int (ns.getD k 0)):=by rw [List.getElem?_map,List.getD_eq_getElem?_getD,List.getElem?_eq_getElem h];rfl
theorem qQ (T:Txt P w K mg)  : Ok P w base (k+1) T.Hr (iW K ui):=by
 refine T.Hr.f.ok sc__law_fill (λvs H Q E h=>?_) (λcdv A outer s H vs Q E hr h=>?_)
 ·obtain ⟨as,es,hd,⟨cl,nums,ks,rfl,_⟩,_⟩:=h;exact hd.length.symm
 have nd:=sc__law_fill.nd;obtain ⟨as,es,hd,⟨cl,nums,ks,rfl,okc,lc,rfl⟩,post⟩:=h;obtain ⟨v0,v1,v2,rfl,h0,h1,h2⟩:=rX hd;have h0:Dat K H (.tup (cl.map clD)) v0:=h0;have h1:LD K H (nums.map D.int) v1:=h1;have h2:LD K H (ks.map D.int) v2:=h2;obtain ⟨a,us,rfl,ha,hus⟩:=h0.tupE;have lu:=hus.length;rw [List.length_map] at lu;refine ⟨_,(ao (bo (i:=3) nd rfl (Or.inl rfl) (bh af))
 (ao (gu PassesOwn.never rfl (iF (pv 0)) (aQ (i:=4) nd rfl (Or.inl rfl)) (au (a7 (bP (bg (aP (dB gH) rfl T.Fu bF (bM (pv 4) (bM (eB (v:=.ty "tuple") rfl T.FT cg rfl) af))) (λ_=>rfl))) (au (bu (dk F.plainAttrs_list F.slot_list_append F.type_list_append br (pv 3) (ag (pv 4) af)))) (au (a7 (aC bz (aI aK (pv 4) aj) aE (aJ _)) (au (bu (dk F.plainAttrs_list F.slot_list_append F.type_list_append br (pv 3) (ag (aI bf (pv 2) (aI aK (pv 4) aj)) af)))) (au (bu (dk F.plainAttrs_list F.slot_list_append F.type_list_append br (pv 3) (ag (dQ (aC bz (aI aK (pv 4) aj) aE (aJ _)) (ba dD (aI bf (pv 1) (aI aK (pv 4) aj)) aj) (ba iE (aI bf (pv 1) (aI aK (pv 4) aj)) aj)) af)))))))))
 (au (aF (pv 3))))),?_⟩
 refine c6 ⟨bU (by decide),λl hl=>?_⟩;have s1:Same H (upd H l (.lst [])):=aG hl _;refine cf (D3 (K:=K) ⟨_,rfl,a,rfl,⟨us,s1.sqT ha⟩,qB (xs:=us) (λi σ G=>∃ (z:Option V) (ys:List V),σ=[some (.ref a),some v1,some v2,some (.ref l),z]/\Same H G/\G l=some (.lst ys)/\Dats K G ((cl.take i).map λc=>D.int (iM nums ks c)) ys) ?_ (λi σ G _ ⟨_,_,_,p,_⟩=>p.sqT ha) ?_ ?_⟩)
 ·exact ⟨none,[],rfl,s1,aq,by rw [List.take_zero];exact Dats.nil⟩
 ·rintro i vx σ G hi ⟨z,ys,rfl,sG,hlG,dy⟩;obtain ⟨dx,ex,hx⟩:=(sG.dats hus).getV hi;rw [List.getElem?_map] at ex
  cases hc:cl[i]? with
  | none=>rw [hc] at ex;cases ex
  | some c =>
   rw [hc] at ex;cases ex;have okc:=okc c (List.mem_of_getElem? hc);have et:cl.take (i+1)=cl.take i++[c]:=by rw [List.take_add_one,hc];rfl
   have lys:ys.length<=12:=by rw [<- dy.length,List.length_map,List.length_take];omega
   refine iI ?_;dsimp only
   have fin:∀ {G1 G2:Hp} {y:V} {b:Option V},Same G G1->But l G1 G2->G2 l=some (.lst (ys++[y]))->Dat K G2 (.int (iM nums ks c)) y->∃ (z:Option V) (ys:List V),[some (.ref a),some v1,some v2,some (.ref l),b]=[some (.ref a),some v1,some v2,some (.ref l),z]/\Same H G2/\G2 l=some (.lst ys)/\Dats K G2 ((cl.take (i+1)).map λc=>D.int (iM nums ks c)) ys:=λ{G1 G2 y b} s1 b2 h2 q2=>by have g2:dH K G1 G2:=b2.grow (s1 _ _ hlG) h2;refine ⟨_,ys++[y],rfl,λx o hx=>b2 x o (aB hx hl) (s1 _ _ (sG _ _ hx)),h2,?_⟩;rw [et,List.map_append];exact Dats.append (Dats.mono g2 _ (s1.dats dy)) (Dats.cons q2 Dats.nil)
   cases c with
   | n j =>have hx:Dat K G (.int j) vx:=hx;refine gh (b:=true) (bj (aW (bA (K:=K) (ab (k:=4) hx)))) (λ_ G1 s1=>?_) (λc=>nomatch c);exact jF (K:=K) (d:=.int j) (ab (k:=4) (s1.dat hx)) (s1 _ _ hlG) (by omega) λy G2 b2 h2 q2=>fin s1 b2 h2 q2
   | arg j =>have hx:Dat K G (.tup [.str "arg",.int j]) vx:=hx;have okc:=of_decide_eq_true okc;refine gh (b:=false) (bj (aW (bA (K:=K) (ab (k:=4) hx)))) (λc=>nomatch c) (λ_ G1 s1=>?_);have hx:=s1.dat hx;refine gh (b:=true) (RT.as (ay (aY (aN (k:=0) (ab (k:=4) hx) ak rfl) az)) (decide_eq_true rfl)) (λ_ G2 s2=>?_) (λc=>nomatch c);have s12:=s1.trans s2;exact jF (K:=K) (d:=.int (ks.getD j 0)) (gv (k:=j) (aT (k:=2) ((sG.trans s12).ld h2)) (aN (k:=1) (ab (k:=4) (s2.dat hx)) ak rfl) (jC okc)) (s12 _ _ hlG) (by omega) λy G3 b3 h3 q3=>fin s12 b3 h3 q3
   | low j =>have hx:Dat K G (.tup [.str "low",.int j]) vx:=hx;have okc:=of_decide_eq_true okc;refine gh (b:=false) (bj (aW (bA (K:=K) (ab (k:=4) hx)))) (λc=>nomatch c) (λ_ G1 s1=>?_);have hx:=s1.dat hx;refine gh (b:=false) (RT.as (ay (aY (aN (k:=0) (ab (k:=4) hx) ak rfl) az)) (decide_eq_false (by decide +kernel))) (λc=>nomatch c) (λ_ G2 s2=>?_);have s12:=s1.trans s2;have hx:=s2.dat hx;refine jF (K:=K) (d:=.int (nums.getD j 0 % 100)) (kJ (b:=true) (RT.as (ay (aY (aN (k:=0) (ab (k:=4) hx) ak rfl) az)) (decide_eq_true rfl)) (λ_=>iH (gv (k:=j) (aT (k:=1) ((sG.trans s12).ld h1)) (aN (k:=1) (ab (k:=4) hx) ak rfl) (jC okc)) ak (by decide)) (λc=>nomatch c)) (s12 _ _ hlG) (by omega) λy G3 b3 h3 q3=>fin s12 b3 h3 q3
   | high j =>have hx:Dat K G (.tup [.str "high",.int j]) vx:=hx;have okc:=of_decide_eq_true okc;refine gh (b:=false) (bj (aW (bA (K:=K) (ab (k:=4) hx)))) (λc=>nomatch c) (λ_ G1 s1=>?_);have hx:=s1.dat hx;refine gh (b:=false) (RT.as (ay (aY (aN (k:=0) (ab (k:=4) hx) ak rfl) az)) (decide_eq_false (by decide +kernel))) (λc=>nomatch c) (λ_ G2 s2=>?_);have s12:=s1.trans s2;have hx:=s2.dat hx;refine jF (K:=K) (d:=.int (nums.getD j 0 / 100)) (kJ (b:=false) (RT.as (ay (aY (aN (k:=0) (ab (k:=4) hx) ak rfl) az)) (decide_eq_false (by decide +kernel))) (λc=>nomatch c) (λ_=>mK (gv (k:=j) (aT (k:=1) ((sG.trans s12).ld h1)) (aN (k:=1) (ab (k:=4) hx) ak rfl) (jC okc)) ak ⟨by decide,by decide⟩)) (s12 _ _ hlG) (by omega) λy G3 b3 h3 q3=>fin s12 b3 h3 q3
 ·rintro σ G ⟨z,ys,rfl,sG,hlG,dy⟩;rw [<- lu,List.take_length] at dy;exact ⟨_,rfl,post l ys G sG hlG hl dy⟩
structure New3 (F G:Hp) (f l0 l1 l2:Addr):Prop where
 s:Same F G
 hf:G f=some (oL l0 l1 l2)
 n0:f≠l0
 n1:f≠l1
 n2:f≠l2
 tri:Tri l0 l1 l2 G [] [] []
 f0:F l0=none
 f1:F l1=none
 f2:F l2=none
variable {F G':Hp} {l0 l1 l2:Addr}
theorem New3.mono {f:Addr} (h:New3 F G f l0 l1 l2) (s:Same G G'):New3 F G' f l0 l1 l2:=⟨h.s.trans s,s _ _ h.hf,h.n0,h.n1,h.n2,h.tri.same s,h.f0,h.f1,h.f2⟩
theorem zS (q:∀ f l0 l1 l2 G,New3 F G f l0 l1 l2->Q (.ref f) G):rQ (bC (rQ c7) (bC (rQ c7) (bC (rQ c7) c7))) σ F Q:=by
 refine ⟨bU (by decide),λl0 hl0=>⟨bU (by decide),λl1 hl1=>⟨bU (by decide),λl2 hl2=>⟨bU (by simp),λf hf=>?_⟩⟩⟩⟩;have n10:l0≠l1:=aB aq hl1;have n20:l0≠l2:=aB (by rw [aO n10];exact aq) hl2;have n21:l1≠l2:=aB aq hl2;have nf0:l0≠f:=aB (by rw [aO n20,aO n10];exact aq) hf;have nf1:l1≠f:=aB (by rw [aO n21];exact aq) hf;have nf2:l2≠f:=aB aq hf;refine q f l0 l1 l2 _ ⟨(aG hl0 _).trans ((aG hl1 _).trans ((aG hl2 _).trans (aG hf _))),aq,Ne.symm nf0,Ne.symm nf1,Ne.symm nf2,⟨?_,?_,?_,n10,n20,n21⟩,hl0,?_,?_⟩
 ·rw [aO nf0,aO n20,aO n10];exact aq
 ·rw [aO nf1,aO n21];exact aq
 ·rw [aO nf2];exact aq
 ·rw [aO (Ne.symm n10)] at hl1;exact hl1
 ·rw [aO (Ne.symm n21),aO (Ne.symm n20)] at hl2;exact hl2
structure Full3 (K:W.Frag) (F G:Hp) (f l0 l1 l2:Addr) (fd:Fnd):Prop where
 hf:G f=some (.lst [.ref l0,.ref l1,.ref l2])
 h0:LD K G (fd.1.map toD) (.ref l0)
 h1:LD K G (fd.2.1.map D.int) (.ref l1)
 h2:LD K G (fd.2.2.map D.int) (.ref l2)
theorem Full3.mono {f:Addr} (h:Full3 K F G f l0 l1 l2 fd) (s:Same G G'):Full3 K F G' f l0 l1 l2 fd:=⟨s _ _ h.hf,s.ld h.h0,s.ld h.h1,s.ld h.h2⟩
theorem CM {tp tt:TE} {f:Addr} {p:Pa} (N:New3 F G f l0 l1 l2) (okp:uF p) (okt:okT t) (dpt:aS t<=8) (dpp:cH p<=3) (hp:RE K tp σ G (toP p)) (ht:RE K tt σ G (toD t))
  (q:∀ G',Same F G'->(∀ fd,bI p t=some fd->Full3 K F G' f l0 l1 l2 fd)->Q (.bl (bI p t).isSome) G') (hv:σ[j]?=some (some (.ref f)):=by rfl):iy (jv K oL 3) [] E (bC tp (bC tt (bC (fG j) c7))) σ G Q:=by
 refine hE (cx (hp.use λw0 G1 s1 q1=>cx ((ht.mono s1).use λw1 G2 s2 q2=>?_)));have N2:=N.mono (s1.trans s2);refine ⟨_,hv,p,t,w0,w1,f,l0,l1,l2,[],[],[],rfl,okp,okt,dpt,dpp,by decide,s2.dat q1,q2,N2.hf,N2.n0,N2.n1,N2.n2,N2.tri,by decide,by decide,by decide,λG3 a' b' c' bb tri' _ _ _ dd=>?_⟩;refine q G3 (λx o hx=>bb x o (aB hx N2.f0) (aB hx N2.f1) (aB hx N2.f2) (N2.s _ _ hx)) λfd e=>?_;obtain ⟨d0,d1,d2⟩:=dd fd e;exact ⟨bb _ _ N2.n0 N2.n1 N2.n2 N2.hf,LD.of tri'.h0 d0,LD.of tri'.h1 d1,LD.of tri'.h2 d2⟩
theorem tS {k:Nat} {v:Nat} {f:Addr} {us:List V} (hf:H f=some (.lst us)) (hl:LD K H es (.ref l)) (h2:RE K tb σ H (.int (v:Nat))) (e:us[v]?=some (.ref l)) (hv:σ[k]?=some (some (.ref f)):=by rfl):RL K (tOp (uT K) (fG k) tb) σ H es:=λH1 s Q q =>
 ⟨_,hv,h2 H1 s _ λw H3 s3 q3=>⟨f,us,v,.ref l,rfl,q3.intE,SqL.of ((s.trans s3) _ _ hf),gz e,q _ _ s3 ((s.trans s3).ld hl)⟩⟩
variable {ds:List D}
theorem Af {k:Nat} (hl:H l=some (.lst ys)) (hd:Dats K H ds ys) (n1:noLs ds=true) (dp:deepDs ds<=20) (hv:σ[k]?=some (some (.ref l)):=by rfl):RE K (tOp (zQ K true) (fG k) (rQ c7)) σ H (.bl (!eqDs ds [])):=λH1 s Q q =>
 ⟨_,hv,bU (by decide),λp hp=>by
  have sp:=aG hp (.lst []);exact ⟨l,p,ys,[],ds,[],rfl,rfl,SqL.of (sp _ _ (s _ _ hl)),SqL.of aq,sp.dats (s.dats hd),Dats.nil,n1,rfl,dp,q _ _ sp (Dat.blI _)⟩⟩
theorem pd:∀ l:List Int,deepDs (l.map D.int)<=1
 | []=>by simp [deepDs]
 | n::ns=>by have:=pd ns;simp only [List.map_cons,deepDs,eO];omega
def gK (f:Tr->D->Bool) (ts:List Tr) (cs:List D):List Bool:=(ts.zip cs).map λp=>f p.1 p.2
def h8 (f:Tr->D->Bool) (ts:List Tr) (cs:List D):Bool:=decide (ts.length=cs.length) && (gK f ts cs).all id
def eV:D->Option (Str × List D)
 | .tup [.str nm,.tup cs]=>some (nm,cs)
 | _=>none
def fw (ps:List Pc):Nat->Tr->D->Bool
 | 0,_,_=>false
 | n+1,t,c=>match eV c with
  | none=>false
  | some x=>match (d8 ps t).find? λw=>decide (w.nm=x.1) with
   | none=>false
   | some w=>h8 (fw ps n) w.ts x.2
def xW (n:Nat) (as:List Ar) (d:D):Prop:=∃ (ps:List Pc) (ts:List Tr) (cs:List D),as=[.d (.tup (ts.map toD)),.l (ps.map pcD),.d (.tup cs)]/\gY ps/\(∀ t ∈ ts,okT t/\aS t<=n)/\n<=8/\ts.length<=8/\d=.bl (h8 (fw ps n) ts cs)
def oJ (n:Nat) (as:List Ar) (d:D):Prop:=∃ (ps:List Pc) (t:Tr) (c:D),as=[.d (toD t),.l (ps.map pcD),.d c]/\gY ps/\okT t/\aS t<=n/\n<=8/\d=.bl (fw ps n t c)
theorem BB (as:List Ar) (d:D):¬ oJ 0 as d:=λ⟨ps,t,c,_,_,_,h,_⟩=>by
 have:1<=aS t:=by cases t <;> simp [aS]
 omega
variable {ts:List Tr} {cs:List D}
theorem Cv {c:D} (h1:ts[j]?=some t) (h2:cs[j]?=some c):(ts.zip cs)[j]?=some (t,c):=by rw [List.getElem?_zip_eq_some];exact ⟨h1,h2⟩
theorem kx (T:Txt P w K mg) (F9:Ok P w base k T.FA (spA K (oJ n))):Ok P w base (k+1) T.Gr (spA K (xW n)):=by
 refine T.Gr.f.ok sc_are_covered_by (λvs H Q E h=>?_) (λcdv A outer s H vs Q E hr h=>?_)
 ·obtain ⟨as,d,hd,⟨ps,ts,cs,rfl,_⟩,_⟩:=h;exact hd.length.symm
 have nd:=sc_are_covered_by.nd;obtain ⟨as,d,hd,⟨ps,ts,cs,rfl,okS,okts,n8,l8,rfl⟩,post⟩:=h;obtain ⟨v0,v1,v2,rfl,h0,h1,h2⟩:=rX hd;have h0:Dat K H (.tup (ts.map toD)) v0:=h0;have h1:LD K H (ps.map pcD) v1:=h1;have h2:Dat K H (.tup cs) v2:=h2;refine ⟨_,(ao (a7 (aC iP (aP aM rfl T.Fw bq (ag (pv 0) af)) (aP aM rfl T.Fw bq (ag (pv 2) af)) (aJ _)) (au (aF ck)) aL)
 (au (aF (aP (h9 rfl) rfl T.Iy kX (ag (cq (own:=["tree","thing"]) (fr:=[1]) (N':=["tree","thing","some"]) (rB rfl T.II (ag (pv 0) (ag (pv 2) af))) rfl (by show bW ["trees","some","things"] (λx=>(aD fO).names.lookup x) _ _ _ _=true;decide +kernel) rfl (λ_ _ _ _ _=>(kC (K:=K) (n:=2) rfl rfl (a8 (aQ (i:=0) (by show List.Nodup [("tree":Str),("thing":Str),("some":Str)];decide +kernel) rfl (Or.inl rfl)) (a8 (aQ (i:=1) (by show List.Nodup [("tree":Str),("thing":Str),("some":Str)];decide +kernel) rfl (Or.inl rfl)) cu)))) (λ_ _ _ _ _=>bN) (λ_ _ _ _ _=>(pc (D:=T.FA) F9 hr (ag (pv 0) (ag (pv 2) (ag (pv 1) af)))))) af))))),?_⟩
 have el:decide (((ts.map toD).length:Int)=(cs.length:Int))=decide (ts.length=cs.length):=by
  rw [List.length_map];by_cases z:ts.length=cs.length
  ·rw [decide_eq_true z,decide_eq_true (by omega)]
  ·rw [decide_eq_false z,decide_eq_false (by omega)]
 refine aH (K:=K) (b:=!decide (ts.length=cs.length)) (RT.as (ay (fN (cF (ab (k:=0) h0)) (cF (ab (k:=2) h2)))) (by rw [el])) (λc H1 s1=>?_) (λc H1 s1=>?_)
 ·refine aX (K:=K) (d:=.bl false) dJ λv H2 s2 q=>post v H2 (s1.trans s2) ?_
  have e:h8 (fw ps n) ts cs=false:=by
   unfold h8;have z:decide (ts.length=cs.length)=false:=by simpa using c
   rw [z];rfl
  rw [e];exact q
 ·have z:decide (ts.length=cs.length)=true:=by simpa using c
  have el:=of_decide_eq_true z
  have e:h8 (fw ps n) ts cs=(gK (fw ps n) ts cs).all id:=by unfold h8;rw [z];rfl
  rw [e] at post;refine aX (K:=K) (d:=.bl ((gK (fw ps n) ts cs).all id)) (jE (bs:=gK (fw ps n) ts cs) (D7 (cs:=ts.map toD) (ds:=cs) (ae (ab (k:=0) (s1.dat h0)) (ae (ab (k:=2) (s1.dat h2)) aA)) (by rw [List.length_map];exact el) (by rw [List.length_map];omega) _ (by unfold gK;rw [List.length_map,List.length_map,List.length_map,List.length_zip];omega) (by decide) rfl (λG j c d e v w s2 hc hd he hv hw=>?_))) λv H2 s2 q=>post v H2 (s1.trans s2) q;rw [List.getElem?_map] at hc
  cases ht:ts[j]? with
  | none=>rw [ht] at hc;cases hc
  | some t =>rw [ht] at hc;cases hc;unfold gK at he;rw [List.getElem?_map,List.getElem?_map,Cv ht hd] at he;cases he;have ok:=okts t (List.mem_of_getElem? ht);exact dE (R:=oJ n) (cZ (ab (k:=0) hv) (dI (aT (k:=2) ((s1.trans s2).ld h1)) (cZ (ab (k:=1) hw) bS))) ⟨ps,t,d,rfl,okS,ok.1,ok.2,n8,rfl⟩
theorem Bg {α:Type} {p:α->Bool} {l:List α} {x:α} (h:l[i]?=some x) (hx:p x=true) (hn:∀ y ∈ l.take i,p y=false):l.find? p=some x:=by rw [List.find?_eq_some_iff_getElem];have hi:i < l.length:=(List.getElem?_eq_some_iff.mp h).1;refine ⟨hx,i,hi,(List.getElem?_eq_some_iff.mp h).2,λj hj=>?_⟩;have hm:l[j] ∈ l.take i:=List.mem_take_iff_getElem.mpr ⟨j,by omega,rfl⟩;rw [hn _ hm];rfl
theorem Bh {α:Type} {p:α->Bool} {l:List α} (hn:∀ y ∈ l,p y=false):l.find? p=none:=by rw [List.find?_eq_none];intro y hy;rw [hn y hy];exact Bool.false_ne_true
theorem wO {c:D} (h:eV c=none):fw ps (n+1) t c=false:=by show (match eV c with | none=>false | some x=>_)=false;rw [h]
def qw (c:D):Bool:=!cU c || (match c with | .tup ds=>!decide ((ds.length:Int)=2) || !jY (ds.getD 1 .non) "tuple" | _=>true)
theorem m8 (c:D):qw c=(eV c).isNone:=by
 unfold qw
 match c with
 | .tup [.str nm,.tup cs]=>rfl
 | .tup []=>rfl
 | .tup [.str nm]=>rfl
 | .tup (.str nm::x::y::r) =>
  have e:(eV (.tup (.str nm::x::y::r))).isNone=true:=by cases x <;> rfl
  rw [e];show (false || (!decide ((((D.str nm)::x::y::r).length:Int)=2) || _))=true;have z:decide ((((D.str nm)::x::y::r).length:Int)=2)=false:=decide_eq_false (by simp only [List.length_cons];omega);rw [z];rfl
 | .tup [.str nm,.non]=>rfl
 | .tup [.str nm,.bl _]=>rfl
 | .tup [.str nm,.int _]=>rfl
 | .tup [.str nm,.str _]=>rfl
 | .tup [.str nm,.lst]=>rfl
 | .tup (.non::r)=>cases r <;> rfl
 | .tup (.bl _::r)=>cases r <;> rfl
 | .tup (.int _::r)=>cases r <;> rfl
 | .tup (.tup _::r)=>cases r <;> rfl
 | .tup (.lst::r)=>cases r <;> rfl
 | .non=>rfl
 | .bl _=>rfl
 | .int _=>rfl
 | .str _=>rfl
 | .lst=>rfl
theorem lC (T:Txt P w K mg) (Gc:Ok P w base k T.FM (spD K iA)) (Ih:Ok P w base k T.Hc (iW K rT)) (Ic:Ok P w base k T.Gr (spA K (xW n))):Ok P w base (k+1) T.FA (spA K (oJ (n+1))):=by
 refine T.FA.f.ok sc_is_covered_by (λvs H Q E h=>?_) (λcdv A outer s H vs Q E hr h=>?_)
 ·obtain ⟨as,d,hd,⟨ps,t,c,rfl,_⟩,_⟩:=h;exact hd.length.symm
 have nd:=sc_is_covered_by.nd;obtain ⟨as,d,hd,⟨ps,t,c,rfl,okS,okt,dpt,n8,rfl⟩,post⟩:=h;obtain ⟨v0,v1,v2,rfl,h0,h1,h2⟩:=rX hd;have h0:Dat K H (toD t) v0:=h0;have h1:LD K H (ps.map pcD) v1:=h1;have h2:Dat K H c v2:=h2;refine ⟨_,(ao (a7 (PW.pt (cO (bP (bg (pc (D:=T.FM) Gc hr (ag (pv 2) af)) (λ_=>rfl))) (cO (aC iP (aP aM rfl T.Fw bq (ag (pv 2) af)) aj (aJ _)) (cP (bP (bg (aP (dB gH) rfl T.Fu bF (bM (aI aK (pv 2) aj) (bM (eB (v:=.ty "tuple") rfl T.FT cg rfl) af))) (λ_=>rfl))))))) (au (aF ck)) aL)
 (ao (gu PassesOwn.never rfl (dO (pc (D:=T.Hc) Ih hr (ag (pv 0) (ag (pv 1) af)))) (fe rfl (a8 (aQ (i:=3) nd rfl (Or.inl rfl)) (a8 (aQ (i:=4) nd rfl (Or.inl rfl)) (a8 (aQ (i:=5) nd rfl (Or.inl rfl)) cu)))) (au (a7 (aC bz (pv 3) (aI aK (pv 2) aj) (aJ _)) (au (aF (pc (D:=T.Gr) Ic hr (ag (pv 5) (ag (pv 1) (ag (aI aK (pv 2) aj) af)))))) aL)))
 (au (aF ck)))),?_⟩
 have tg:RE K (iy (spD K iA) [] E0 (bC (fG 2) c7)) (eG ["tree","some","thing","name","cells","trees"] [v0,v1,v2]) H (.bl (cU c)):=a9 (R:=iA) (ae (ab (k:=2) h2) aA) ⟨c,rfl,rfl⟩;refine aH (K:=K) (b:=qw c) ?_ (λcn H1 s1=>?_) (λcs H1 s1=>?_)
 ·by_cases ht:cU c=true
  ·obtain ⟨nm,r,rfl⟩:∃ nm r,c=.tup (.str nm::r):=by
    match c,ht with
    | .tup (.str nm::r),_=>exact ⟨nm,r,rfl⟩
   by_cases hl:((D.str nm::r).length:Int)=2
   ·obtain ⟨x,rfl⟩:∃ x,r=[x]:=by
     match r,hl with
     | [x],_=>exact ⟨x,rfl⟩
     | [],hl=>simp at hl
     | x::y::r,hl=>simp only [List.length_cons] at hl;omega
    exact RT.as (bJ (bj (aW tg)) λ_=>bJ (ay (fN (cF (ab (k:=2) h2)) ak)) λ_=>bj (aW (bA (aN (k:=1) (ab (k:=2) h2) ak rfl)))) rfl
   ·refine RT.as (bJ (bj (aW tg)) λ_=>bJ (c:=true) (ay (fN (cF (ab (k:=2) h2)) ak)) λz=>?_) ?_
    ·rw [decide_eq_false hl] at z;cases z
    ·show (false || (!decide (((D.str nm::r).length:Int)=2) || true))=(false || (!decide (((D.str nm::r).length:Int)=2) || _))
     rw [decide_eq_false hl];rfl
  ·have ht:cU c=false:=by simpa using ht
   refine RT.as (bJ (c:=true) (bj (aW tg)) λz=>?_) ?_
   ·rw [ht] at z;cases z
   ·unfold qw;rw [ht];rfl
 ·rw [m8] at cn;refine aX (K:=K) (d:=.bl false) dJ λv H2 s2 q=>post v H2 (s1.trans s2) ?_;rw [wO (by cases e:eV c with | none=>rfl | some _=>rw [e] at cn;cases cn)];exact q
 rw [m8] at cs
 obtain ⟨nm,cv,rfl⟩:∃ nm cv,c=.tup [.str nm,.tup cv]:=by
  unfold eV at cs;split at cs
  ·exact ⟨_,_,rfl⟩
  ·cases cs
 have ec:fw ps (n+1) t (.tup [.str nm,.tup cv])=(match (d8 ps t).find? λw=>decide (w.nm=nm) with | none=>false | some w=>h8 (fw ps n) w.ts cv):=rfl;rw [ec] at post;refine cf (RC.use (K:=K) (d5 (R:=rT) (cZ (ab (k:=0) (s1.dat h0)) (dI (aT (k:=1) (s1.ld h1)) bS)) ⟨ps,t,rfl,okS,okt,by omega,rfl⟩) λl ys H2 hl s2 hy hdy=>?_);have s12:=s1.trans s2;have ly:=hdy.length;rw [List.length_map] at ly;refine ⟨l,rfl,⟨ys,SqL.of hy⟩,i5 (xs:=ys) (λi σ G=>∃ (z3 z4 z5:Option V),σ=[some v0,some v1,some v2,z3,z4,z5]/\Same H2 G/\∀ w ∈ (d8 ps t).take i,decide (w.nm=nm)=false) ?_ (λi σ G _ ⟨_,_,_,_,p,_⟩=>SqL.of (p _ _ hy)) ?_ ?_⟩
 ·exact ⟨none,none,none,rfl,Same.refl _,λw hw=>by simp at hw⟩
 ·rintro i vx σ G hi ⟨z3,z4,z5,rfl,sG,hno⟩;have sHG:=s12.trans sG;obtain ⟨dx,ex,hx⟩:=(sG.dats hdy).getV hi;rw [List.getElem?_map] at ex
  cases hw:(d8 ps t)[i]? with
  | none=>rw [hw] at ex;cases ex
  | some w =>
   rw [hw] at ex;cases ex;have hwm:=List.mem_of_getElem? hw;have et:(d8 ps t).take (i+1)=(d8 ps t).take i++[w]:=by rw [List.take_add_one,hw];rfl
   obtain ⟨pa,us,rfl,hpa,hus⟩:=(show Dat K G (.tup [.str w.nm,.tup w.cs,.tup (w.ts.map toD)]) vx from hx).tupE;obtain ⟨x3,x4,x5,rfl,k3,k4,k5⟩:=me hus;refine ⟨pa,_,rfl,hpa,rfl,_,_,rfl,_,_,rfl,_,_,rfl,rfl,?_⟩;dsimp only;have h2G:Dat K G (.tup [.str nm,.tup cv]) v2:=sHG.dat h2;refine gh (b:=decide (w.nm=nm)) (ay (aY (K:=K) (ab (k:=3) k3) (aN (k:=0) (ab (k:=2) h2G) ak rfl))) (λcY G1 t1=>?_) (λcN G1 t1=>jG ?_)
   ·rw [Bg hw cY hno] at post;have tail:=λx hx=>mR (zl okS) hwm x hx;refine aX (K:=K) (d:=.bl (h8 (fw ps n) w.ts cv)) (dE (R:=xW n) (cZ (ab (k:=5) (t1.dat k5)) (dI (aT (k:=1) ((sHG.trans t1).ld h1)) (cZ (aN (k:=1) (ab (k:=2) (t1.dat h2G)) ak rfl) bS))) ⟨ps,w.ts,cv,rfl,okS,λx hx=>⟨dW t x okt (fP (tail x hx)),?_⟩,by omega,(rS okS.ok hwm).1,rfl⟩) λv G2 t2 q=>post v G2 (sHG.trans (t1.trans t2)) q;have:=(fh (tail x hx)).2;omega
   ·refine ⟨_,_,_,rfl,sG.trans t1,λy hy=>?_⟩;rw [et] at hy;rcases List.mem_append.mp hy with hy | hy
    ·exact hno y hy
    ·rw [List.mem_singleton.mp hy];exact cN
 ·rintro σ G ⟨z3,z4,z5,rfl,sG,hno⟩;rw [<- ly,List.take_length] at hno;rw [Bh hno] at post;dsimp only;exact aX (K:=K) (d:=.bl false) dJ λv G2 t2 q=>post v G2 (s12.trans (sG.trans t2)) q
def C4 (as:List Ar) (d:D):Prop:=∃ (ps:List Pc) (t:Tr) (c:D),as=[.d (toD t),.l (ps.map pcD),.d c]/\ug ps t/\d=.bl (fw ps 8 t c)
theorem nO (T:Txt P w K mg) (GR:Ok P w base k T.F4 (spD K oY)) (He:Ok P w base k T.Gk (spA K jV)) (F9:Ok P w base k T.FA (spA K (oJ 8))):Ok P w base (k+1) T.GP (spA K C4):=by
 refine T.GP.f.ok sc_is_covering (λvs H Q E h=>?_) (λcdv A outer s H vs Q E hr h=>?_)
 ·obtain ⟨as,d,hd,⟨ps,t,c,rfl,_⟩,_⟩:=h;exact hd.length.symm
 have nd:=sc_is_covering.nd;obtain ⟨as,d,hd,⟨ps,t,c,rfl,gi,rfl⟩,post⟩:=h;obtain ⟨v0,v1,v2,rfl,h0,h1,h2⟩:=rX hd;have h0:Dat K H (toD t) v0:=h0;have h1:LD K H (ps.map pcD) v1:=h1;have h2:Dat K H c v2:=h2;refine ⟨_,(ao (bu (pc (D:=T.F4) GR hr (ag (pv 0) af)))
 (ao (bu (pc (D:=T.Gk) He hr (ag (pv 1) af)))
 (au (aF (pc (D:=T.FA) F9 hr (ag (pv 0) (ag (pv 1) (ag (pv 2) af)))))))),?_⟩
 refine lP (RE.use (a9 (R:=oY) (d:=.non) (ae (ab (K:=K) (k:=0) h0) aA) ⟨toD t,rfl,rR gi.ot gi.dp gi.sz,rfl⟩) λv4 H1 s1 _=>?_);refine lP (RE.use (dE (R:=jV) (d:=.non) (dI (aT (K:=K) (k:=1) (s1.ld h1)) bS) ⟨ps,rfl,gi.gs,rfl⟩) λv5 H2 s2 _=>?_);have s12:=s1.trans s2;exact aX (K:=K) (d:=.bl (fw ps 8 t c)) (dE (R:=oJ 8) (cZ (ab (k:=0) (s12.dat h0)) (dI (aT (k:=1) (s12.ld h1)) (cZ (ab (k:=2) (s12.dat h2)) bS))) ⟨ps,t,c,rfl,gi.os,gi.ot,gi.dp,by decide,rfl⟩) λv H' s q=>post v H' (s12.trans s) q
structure DF (ps:List Pc):Prop where
 nd:(ps.map (·.nm)).Nodup
 nl:∀ p ∈ ps,noL (pcD p)=true/\eO (pcD p)<=19
def zm (nm:Str):D->Bool
 | .tup (.str x::_)=>decide (x=nm)
 | _=>false
theorem k8:∀ {ps:List Pc},(∀ p ∈ ps,p.nm≠nm)->(ps.map pcD).filter (zm nm)=[]
 | [],_=>rfl
 | p::ps,h=>by
  rw [List.map_cons,List.filter_cons,if_neg]
  ·exact k8 λq hq=>h q (List.mem_cons_of_mem _ hq)
  ·show ¬ decide (p.nm=nm)=true;rw [decide_eq_false (h p List.mem_cons_self)];exact Bool.false_ne_true
theorem m6 {p:Pc}:∀ {ps:List Pc},(ps.map (·.nm)).Nodup->p ∈ ps->(ps.map pcD).filter (zm p.nm)=[pcD p]
 | [],_,h=>by cases h
 | q::ps,nd,h=>by
  rw [List.map_cons,List.nodup_cons] at nd;rcases List.mem_cons.mp h with rfl | h
  ·rw [List.map_cons,List.filter_cons,if_pos (show zm p.nm (pcD p)=true from decide_eq_true rfl),k8 λx hx z=>nd.1 (List.mem_map.mpr ⟨x,hx,z⟩)]
  ·rw [List.map_cons,List.filter_cons,if_neg]
   ·exact m6 nd.2 h
   ·show ¬ decide (q.nm=p.nm)=true;rw [decide_eq_false λz=>nd.1 (List.mem_map.mpr ⟨p,h,z.symm⟩)];exact Bool.false_ne_true
theorem kI {k:Nat} (hl:H l=some (.lst ys)) (hd:Dats K H ds ys) (n1:noLs ds=true) (dp:deepDs ds<=20) (hv:σ[k]?=some (some (.ref l)):=by rfl):RE K (tOp (zQ K false) (fG k) (rQ c7)) σ H (.bl (eqDs ds [])):=λH1 s Q q =>
 ⟨_,hv,bU (by decide),λp hp=>by
  have sp:=aG hp (.lst []);exact ⟨l,p,ys,[],ds,[],rfl,rfl,SqL.of (sp _ _ (s _ _ hl)),SqL.of aq,sp.dats (s.dats hd),Dats.nil,n1,rfl,dp,q _ _ sp (Dat.blI _)⟩⟩
theorem sJ {α:Type} {xss:List (List α)} (h:xss.flatten.length<=n):∀ {i:Nat} {x:List α},xss[i]?=some x->(xss.take i).flatten.length+x.length<=n:=by
 intro i x hx;have e:xss.take (i+1)=xss.take i++[x]:=by rw [List.take_add_one,hx];rfl
 have l:(xss.take (i+1)).flatten.length<=xss.flatten.length:=by have z:xss=xss.take (i+1)++xss.drop (i+1):=(List.take_append_drop _ _).symm;rw [congrArg List.flatten z,List.flatten_append,List.length_append];omega
 rw [e,List.flatten_append,List.length_append] at l;simp only [List.flatten_cons,List.flatten_nil,List.append_nil] at l;omega
def E2:D->Bool
 | .str _=>true
 | _=>false
def sS:Nat->D->Bool
 | 0,_=>true
 | n+1,c=>match c with
  | .tup [x,.tup cs]=>E2 x && cs.all (sS n)
  | _=>true
def Fi:D->Cl
 | .tup [.str k,.int j]=>if k="arg" then .arg j.toNat else if k="low" then .low j.toNat else .high j.toNat
 | .int i=>.n i
 | _=>.n 0
def bE (p:Pc):List Cl:=p.cs.map Fi
def gw (nm:Str) (ps:List Pc):Option Pc:=ps.find? λp=>decide (p.nm=nm)
def iZ:List (Option (List D))->Option (List (List D))
 | []=>some []
 | none::_=>none
 | some x::r=>(iZ r).map (x::·)
def cW (f:Tr->D->Option (List D)) (ts:List Tr) (cs:List D):List (Option (List D)):=(ts.zip cs).map λp=>f p.1 p.2
def xg:List (List D)->Option (List D)
 | [a,b,c]=>some (dq a b c)
 | _=>none
def gI (f:Tr->D->Option (List D)) (t:Tr) (cs:List D):Option (List D):=match t with
 | .pick a b d=>if cs.length=3 then (iZ (cW f [a,b,d] cs)).bind xg else none
 | _=>none
def dU (f:Tr->D->Option (List D)) (ps:List Pc) (t:Tr) (nm:Str) (cs:List D):Option (List D):=match gw nm ps with
 | none=>none
 | some p=>match bI p.pt t with
  | none=>none
  | some g=>if g.1.length=cs.length then (iZ (cW f g.1 cs)).map λxss=>bR xss g (bE p) else none
def bK (ps:List Pc):Nat->Tr->D->Option (List D)
 | 0,_,_=>none
 | n+1,t,c=>match eV c with
  | none=>none
  | some x=>if x.1="pick" then gI (bK ps n) t x.2 else dU (bK ps n) ps t x.1 x.2
theorem hX:∀ {os:List (Option (List D))},os.any Option.isNone=true->iZ os=none
 | [],h=>by cases h
 | none::os,_=>rfl
 | some x::os,h=>by rw [List.any_cons] at h;have ih:=hX (os:=os) (by simpa using h);show (iZ os).map _=none;rw [ih];rfl
theorem j7:∀ ess:List (List D),iZ (ess.map some)=some ess
 | []=>rfl
 | x::ess=>by show (iZ (ess.map some)).map _=_;rw [j7 ess];rfl
variable {f:Tr->D->Option (List D)}
theorem pG {k:Nat} {c:D} {o:Option (List D)} (h1:ts[k]?=some t) (h2:cs[k]?=some c) (h3:(cW f ts cs)[k]?=some o):o=f t c:=by unfold cW at h3;rw [List.getElem?_map,(List.getElem?_zip_eq_some (z:=(t,c))).mpr ⟨h1,h2⟩] at h3;cases h3;rfl
theorem pI (h:ts.length=cs.length):(cW f ts cs).length=ts.length:=by unfold cW;rw [List.length_map,List.length_zip];omega
theorem pJ (hf:∀ t c es,f t c=some es->es.length<=12 * aR t):∀ {ts:List Tr} {cs:List D} {ess:List (List D)},ts.length=cs.length->cW f ts cs=ess.map some->ess.flatten.length<=12 * (ts.map aR).sum
 | [],[],ess,_,h=>by
  have:ess=[]:=by cases ess with | nil=>rfl | cons _ _=>cases h
  subst this;simp
 | t::ts,c::cs,ess,hl,h=>by
  cases ess with
  | nil=>cases h
  | cons x ess =>have h':f t c::cW f ts cs=some x::ess.map some:=h;injection h' with h1 h2;have i1:=hf t c x h1;have i2:=pJ hf (ts:=ts) (cs:=cs) (by simpa using hl) h2;rw [List.flatten_cons,List.length_append,List.map_cons,List.sum_cons];omega
 | [],c::cs,_,h,_=>by simp at h
 | t::ts,[],_,h,_=>by simp at h
structure xf (ps:List Pc):Prop where
 ls:DF ps
 cl:∀ p ∈ ps,Cw p (bE p)
theorem qA:∀ (p:Pa) (t:Tr) (f:Fnd),bI p t=some f->(f.1.map aR).sum<=aR t/\(e8 p=true->(f.1.map aR).sum+1<=aR t)
 | .hole i,t,f,h=>by cases h;exact ⟨by simp,λz=>nomatch z⟩
 | .gap i m,t,f,h=>by
  cases t with
  | num n =>
   have h':(if n<=m then some ([],[n],[]) else none:Option Fnd)=some f:=h;by_cases z:n<=m
   ·rw [if_pos z] at h';cases h';exact ⟨by simp,λ_=>by simp [aR]⟩
   ·rw [if_neg z] at h';cases h'
  | _=>cases h
 | .slot i,t,f,h=>by
  cases t with
  | arg n=>cases h;exact ⟨by simp,λ_=>by simp [aR]⟩
  | _=>cases h
 | .num m,t,f,h=>by
  cases t with
  | num n =>
   have h':(if n=m then some ([],[],[]) else none:Option Fnd)=some f:=h;by_cases z:n=m
   ·rw [if_pos z] at h';cases h';exact ⟨by simp,λ_=>by simp [aR]⟩
   ·rw [if_neg z] at h';cases h'
  | _=>cases h
 | .two o a b,t,f,h=>by
  cases t with
  | two o' u v =>
   obtain ⟨_,f1,f2,e1,e2,e3⟩:=de h;subst e3;have h1:=(qA a u f1 e1).1;have h2:=(qA b v f2 e2).1;have e:((f1.1++f2.1).map aR).sum=(f1.1.map aR).sum+(f2.1.map aR).sum:=by simp
   refine ⟨?_,λ_=>?_⟩
   ·show ((f1.1++f2.1).map aR).sum<=_;simp only [aR];omega
   ·show ((f1.1++f2.1).map aR).sum+1<=_;simp only [aR];omega
  | _=>cases h
theorem cK {p:Pc} (h:gw nm ps=some p):p ∈ ps/\p.nm=nm:=by unfold gw at h;have h0:decide (p.nm=nm)=true:=List.find?_some (p:=λp:Pc=>decide (p.nm=nm)) h;exact ⟨List.mem_of_find?_eq_some h,of_decide_eq_true h0⟩
theorem m7 (h:gw nm ps=none):∀ p ∈ ps,p.nm≠nm:=λp hp e=>by unfold gw at h;rw [List.find?_eq_none] at h;exact absurd (decide_eq_true e) (h p hp)
theorem eY (h:dU f ps t nm cs=some es):∃ p g ess,gw nm ps=some p/\bI p.pt t=some g/\g.1.length=cs.length/\cW f g.1 cs=ess.map some/\es=bR ess g (bE p):=by
 unfold dU at h
 cases e1:gw nm ps with
 | none=>rw [e1] at h;cases h
 | some p =>
  rw [e1] at h;dsimp only at h
  cases e2:bI p.pt t with
  | none=>rw [e2] at h;cases h
  | some g =>
   rw [e2] at h;dsimp only at h;by_cases hl:g.1.length=cs.length
   ·rw [if_pos hl] at h
    cases ha:(cW f g.1 cs).any Option.isNone with
    | true=>rw [hX ha] at h;cases h
    | false =>obtain ⟨ess,e⟩:=jy ha;rw [e,j7] at h;cases h;exact ⟨p,g,ess,rfl,e2,hl,e,rfl⟩
   ·rw [if_neg hl] at h;cases h
theorem eZ (h:gI f t cs=some es):∃ a b d ca cb cd xa xb xd,t=.pick a b d/\cs=[ca,cb,cd]/\f a ca=some xa/\f b cb=some xb/\f d cd=some xd/\es=dq xa xb xd:=by
 cases t with
 | pick a b d =>
  have h:(if cs.length=3 then (iZ (cW f [a,b,d] cs)).bind xg else none)=some es:=h;by_cases hl:cs.length=3
  ·rw [if_pos hl] at h
   match cs,hl with
   | [ca,cb,cd],_ =>
    have e:cW f [a,b,d] [ca,cb,cd]=[f a ca,f b cb,f d cd]:=rfl;rw [e] at h
    cases ea:f a ca with
    | none=>rw [ea] at h;cases h
    | some xa =>
     cases eb:f b cb with
     | none=>rw [ea,eb] at h;cases h
     | some xb =>
      cases ed:f d cd with
      | none=>rw [ea,eb,ed] at h;cases h
      | some xd =>rw [ea,eb,ed] at h;have h:some (dq xa xb xd)=some es:=h;cases h;exact ⟨a,b,d,ca,cb,cd,xa,xb,xd,rfl,rfl,ea,eb,ed,rfl⟩
  ·rw [if_neg hl] at h;cases h
 | _=>cases h
theorem fZ (ok:∀ p ∈ ps,uG p):∀ (n:Nat) (t:Tr) (c:D) (es:List D),bK ps n t c=some es->es.length<=12 * aR t
 | 0,_,_,_,h=>by cases h
 | n+1,t,c,es,h=>by
  have h:(match eV c with | none=>none | some x=>if x.1="pick" then gI (bK ps n) t x.2 else dU (bK ps n) ps t x.1 x.2)=some es:=h
  cases ec:eV c with
  | none=>rw [ec] at h;cases h
  | some x =>
   rw [ec] at h;dsimp only at h;by_cases hp:x.1="pick"
   ·rw [if_pos hp] at h;obtain ⟨a,b,d,ca,cb,cd,xa,xb,xd,rfl,_,la,lb,ld,rfl⟩:=eZ h;have h1:=fZ ok n a ca xa la;have h2:=fZ ok n b cb xb lb;have h3:=fZ ok n d cd xd ld;have k1:=ko 8 9 xd.length;have k2:=ko 10 11 (xb++di 8 9 xd.length).length;have j1:=yV (xd.length:Int);have j2:=yV ((xb++di 8 9 xd.length).length:Int);have ll:(dq xa xb xd).length=xa.length+(di 10 11 (xb++di 8 9 xd.length).length).length+(xb.length+(di 8 9 xd.length).length)+xd.length:=by unfold dq;simp only [List.length_append]
    simp only [aR];omega
   ·rw [if_neg hp] at h;obtain ⟨p,g,ess,e1,e2,hl,e,rfl⟩:=eY h;have okp:=ok p (cK e1).1;have h1:=pJ (fZ ok n) hl e;have h2:=(qA _ _ _ e2).2 okp.nh;have h3:=okp.cs;have z:(bR ess g (bE p)).length=ess.flatten.length+p.cs.length:=by unfold bR bE;rw [List.length_append,List.length_map,List.length_map]
    omega
theorem kj {p:Pa} (h:e8 p=true) (a b c:Tr):bI p (.pick a b c)=none:=by
 cases p with
 | hole i=>cases h
 | _=>rfl
theorem nR {g:Tr->D->Bool} (h:∀ t c,g t c=(f t c).isSome):∀ (ts:List Tr) (cs:List D),(gK g ts cs).all id=!(cW f ts cs).any Option.isNone
 | [],cs=>by cases cs <;> rfl
 | t::ts,[]=>rfl
 | t::ts,c::cs=>by have ih:=nR h ts cs;show (id (g t c) && (gK g ts cs).all id)=!((f t c).isNone || (cW f ts cs).any Option.isNone);rw [ih,id,h t c];cases f t c <;> cases (cW f ts cs).any Option.isNone <;> rfl
theorem lX (os:List (Option (List D))):(iZ os).isSome=!os.any Option.isNone:=by
 cases h:os.any Option.isNone with
 | true=>rw [hX h];rfl
 | false=>obtain ⟨ess,rfl⟩:=jy h;rw [j7];rfl
theorem ue (hpk:ij t=false) (nd:(ps.map (·.nm)).Nodup) (nm:Str):(d8 ps t).find? (λw=>decide (w.nm=nm))=(gw nm ps).bind (gT t):=by
 unfold d8 gw;rw [if_neg (by rw [hpk];exact Bool.false_ne_true)]
 induction ps with
 | nil=>rfl
 | cons p ps ih =>
  rw [List.map_cons,List.nodup_cons] at nd;have ih:=ih nd.2;by_cases e:p.nm=nm
  ·have hn:ps.find? (λp=>decide (p.nm=nm))=none:=by
    rw [List.find?_eq_none];intro q hq z;exact nd.1 (List.mem_map.mpr ⟨q,hq,by rw [e];exact of_decide_eq_true z⟩)
   rw [hn] at ih;rw [List.find?_cons,decide_eq_true e];show _=gT t p;rw [List.filterMap_cons]
   cases hf:gT t p with
   | none=>exact ih
   | some w =>
    have ew:w.nm=nm:=by
     unfold gT at hf
     cases hg:bI p.pt t with
     | none=>rw [hg] at hf;cases hf
     | some g=>rw [hg] at hf;cases hf;exact e
    show List.find? _ (w::_)=_;rw [List.find?_cons,decide_eq_true ew]
  ·rw [List.find?_cons,decide_eq_false e];show _=(ps.find? λp=>decide (p.nm=nm)).bind (gT t);rw [<- ih,List.filterMap_cons]
   cases hf:gT t p with
   | none=>rfl
   | some w =>
    have ew:¬ w.nm=nm:=by
     unfold gT at hf
     cases hg:bI p.pt t with
     | none=>rw [hg] at hf;cases hf
     | some g=>rw [hg] at hf;cases hf;exact e
    show List.find? _ (w::_)=_;rw [List.find?_cons,decide_eq_false ew]
theorem qp (nd:(ps.map (·.nm)).Nodup) (ok:∀ p ∈ ps,uG p):∀ (n:Nat) (t:Tr) (c:D),fw ps n t c=(bK ps n t c).isSome
 | 0,_,_=>rfl
 | n+1,t,c=>by
  show (match eV c with | none=>false | some x=>match (d8 ps t).find? λw=>decide (w.nm=x.1) with | none=>false | some w=>h8 (fw ps n) w.ts x.2)=(match eV c with | none=>none | some x=>if x.1="pick" then gI (bK ps n) t x.2 else dU (bK ps n) ps t x.1 x.2).isSome
  cases ec:eV c with
  | none=>rfl
  | some x =>
   obtain ⟨nm,cs⟩:=x;dsimp only;have ih:=qp nd ok n;by_cases hpk:ij t=true
   ·cases t with
    | pick a b d =>
     rw [AN,List.find?_cons];by_cases hp:nm="pick"
     ·subst hp;rw [decide_eq_true rfl,if_pos rfl];show h8 (fw ps n) [a,b,d] cs=(if cs.length=3 then (iZ (cW (bK ps n) [a,b,d] cs)).bind xg else none).isSome;unfold h8;rw [nR ih];by_cases hl:cs.length=3
      ·rw [if_pos hl,decide_eq_true (show [a,b,d].length=cs.length by rw [hl];rfl),Bool.true_and,<- lX]
       match cs,hl with
       | [ca,cb,cd],_ =>show (iZ [bK ps n a ca,bK ps n b cb,bK ps n d cd]).isSome=((iZ [bK ps n a ca,bK ps n b cb,bK ps n d cd]).bind xg).isSome;cases bK ps n a ca <;> cases bK ps n b cb <;> cases bK ps n d cd <;> rfl
      ·rw [if_neg hl,decide_eq_false (λz=>hl (by rw [<- z];rfl))];rfl
     ·rw [decide_eq_false (λz=>hp z.symm),if_neg hp];show false=(dU (bK ps n) ps (.pick a b d) nm cs).isSome;unfold dU
      cases e1:gw nm ps with
      | none=>rfl
      | some p=>dsimp only;rw [kj (ok p (cK e1).1).nh];rfl
    | _=>cases hpk
   ·have hpk:ij t=false:=by simpa using hpk
    rw [ue hpk nd];by_cases hp:nm="pick"
    ·rw [if_pos hp]
     have hn:gw nm ps=none:=by
      cases e1:gw nm ps with
      | none=>rfl
      | some p=>have z:=cK e1;exact absurd (z.2.trans hp) (ok p z.1).nm
     rw [hn]
     cases t with
     | pick a b d=>cases hpk
     | _=>rfl
    ·rw [if_neg hp];unfold dU
     cases e1:gw nm ps with
     | none=>rfl
     | some p =>
      show (match gT t p with | none=>false | some w=>h8 (fw ps n) w.ts cs)=_;dsimp only;unfold gT
      cases e2:bI p.pt t with
      | none=>rfl
      | some g =>
       show h8 (fw ps n) g.1 cs=(if g.1.length=cs.length then (iZ (cW (bK ps n) g.1 cs)).map (λxss=>bR xss g (bE p)) else none).isSome;unfold h8;rw [nR ih];by_cases hl:g.1.length=cs.length
       ·rw [if_pos hl,decide_eq_true hl,Bool.true_and,<- lX,Option.isSome_map]
       ·rw [if_neg hl,decide_eq_false hl];rfl
def jL (n:Nat) (as:List Ar) (o:Option (List D)):Prop:=∃ (ps:List Pc) (t:Tr) (c:D),as=[.d (toD t),.l (ps.map pcD),.d c]/\gY ps/\xf ps/\okT t/\aS t<=n/\n<=8/\aR t<=40/\sS n c=true/\o=bK ps n t c
def Do (c:D):Bool:=!jY c "tuple" || (match c with | .tup ds=>!decide ((ds.length:Int)=2) || !jY (ds.getD 1 .non) "tuple" | _=>true)
theorem sj (c:D) (h:sS (n+1) c=true):Do c=(eV c).isNone:=by
 unfold Do
 match c,h with
 | .tup [.str nm,.tup cs],_=>rfl
 | .tup [],_=>rfl
 | .tup [x],_=>cases x <;> rfl
 | .tup (x::y::z::r),_ =>
  have e:(eV (.tup (x::y::z::r))).isNone=true:=by cases x <;> cases y <;> rfl
  rw [e];show (false || (!decide (((x::y::z::r).length:Int)=2) || _))=true;have d:decide (((x::y::z::r).length:Int)=2)=false:=decide_eq_false (by simp only [List.length_cons];omega);rw [d];rfl
 | .tup [x,.non],_=>cases x <;> rfl
 | .tup [x,.bl _],_=>cases x <;> rfl
 | .tup [x,.int _],_=>cases x <;> rfl
 | .tup [x,.str _],_=>cases x <;> rfl
 | .tup [x,.lst],_=>cases x <;> rfl
 | .tup [.non,.tup cs],h=>cases h
 | .tup [.bl _,.tup cs],h=>cases h
 | .tup [.int _,.tup cs],h=>cases h
 | .tup [.tup _,.tup cs],h=>cases h
 | .tup [.lst,.tup cs],h=>cases h
 | .non,_=>rfl
 | .bl _,_=>rfl
 | .int _,_=>rfl
 | .str _,_=>rfl
 | .lst,_=>rfl
theorem o7 {c:D} {x:Str × List D} (h:eV c=some x):c=.tup [.str x.1,.tup x.2]:=by
 unfold eV at h;split at h
 ·cases h;rfl
 ·cases h
theorem BH (h:sS (n+1) (.tup [.str nm,.tup cs])=true):∀ c ∈ cs,sS n c=true:=λc hc=>by have h:(true && cs.all (sS n))=true:=h;rw [Bool.true_and] at h;exact List.all_eq_true.mp h c hc
theorem sV (T:Txt P w K mg) (HB:Ok P w base k T.Gi (xJ K (jL n))) (Ij:Ok P w base k T.GV (hV K qc)) (GI:Ok P w base k T.FZ (jv K oL 3)) (IY:Ok P w base k T.Hr (iW K ui)):Ok P w base (k+1) T.Gi (xJ K (jL (n+1))):=by
 refine T.Gi.f.ok sc__law_lay (λvs H Q E h=>?_) (λcdv A outer s H vs Q E hr h=>?_)
 ·obtain ⟨as,o,hd,⟨ps,t,c,rfl,_⟩,_⟩:=h;exact hd.length.symm
 have nd:=sc__law_lay.nd;obtain ⟨as,o,hd,⟨ps,t,c,rfl,okS,laS,okt,dpt,n8,szt,okc,rfl⟩,post0,post1⟩:=h;obtain ⟨v0,v1,v2,rfl,h0,h1,h2⟩:=rX hd;have h0:Dat K H (toD t) v0:=h0;have h1:LD K H (ps.map pcD) v1:=h1;have h2:Dat K H c v2:=h2;refine ⟨_,(ao (a7 (PW.pt (cO (bP (bg (aP (dB gH) rfl T.Fu bF (bM (pv 2) (bM (eB (v:=.ty "tuple") rfl T.FT cg rfl) af))) (λ_=>rfl))) (cO (aC iP (aP aM rfl T.Fw bq (ag (pv 2) af)) aj (aJ _)) (cP (bP (bg (aP (dB gH) rfl T.Fu bF (bM (aI aK (pv 2) aj) (bM (eB (v:=.ty "tuple") rfl T.FT cg rfl) af))) (λ_=>rfl))))))) (au (aF dN)) aL)
 (ao (a7 (aC bz (aI aK (pv 2) aj) aE (aJ _)) (ao (a7 (PW.pt (cO (aC iP (aI aK (pv 0) aj) aE (aJ _)) (cP (aC iP (aP aM rfl T.Fw bq (ag (aI aK (pv 2) aj) af)) aj (aJ _))))) (au (aF dN)) aL)
 (ao (gO (i:=3) (own:=["_law_one","_law_inner"]) (fr:=[1]) (N':=["_law_one","_law_inner","_law_some"]) (rB rfl T.II (ag (gN lS (pv 0) (gA aj) kD) (ag (aI aK (pv 2) aj) af))) rfl (by show bW ["_law_tree_here","_law_some","_law_cover","_law_three","_law_last","_law_named","_law_found","_law_holes","_law_made","_law_cells"] (λx=>(aD gP).names.lookup x) _ _ _ _=true;decide +kernel) rfl (λ_ _ _ _ _=>(kC (K:=K) (n:=2) rfl rfl (a8 (aQ (i:=0) (by show List.Nodup [("_law_one":Str),("_law_inner":Str),("_law_some":Str)];decide +kernel) rfl (Or.inl rfl)) (a8 (aQ (i:=1) (by show List.Nodup [("_law_one":Str),("_law_inner":Str),("_law_some":Str)];decide +kernel) rfl (Or.inl rfl)) cu)))) (λ_ _ _ _ _=>bN) (λ_ _ _ _ _=>(pc (D:=T.Gi) HB hr (ag (pv 0) (ag (pv 2) (ag (pv 1) af))))) nd rfl rfl rfl)
 (ao (a7 (aC (wc hr) dN (pv 3) (by with_unfolding_all rfl)) (au (aF dN)) aL)
 (ao (bo (i:=4) nd rfl (Or.inl rfl) (ba dt (aI bf (pv 3) aj) (pc (D:=T.GV) Ij hr (ag aj (ag aj (ag (aP aM rfl T.Fw bq (ag (aI bf (pv 3) aj) af)) af))))))
 (au (aF (ba dt (ba dt (ba dt (aI bf (pv 3) aj) (pc (D:=T.GV) Ij hr (ag aj (ag aj (ag (aP aM rfl T.Fw bq (ag (pv 4) af)) af))))) (pv 4)) (aI bf (pv 3) aj)))))))) aL)
 (ao (lH (i:=5) (j:=6) rfl nd rfl rfl (by decide) rfl rfl (ag (cq (own:=["_law_piece"]) (fr:=[2]) (N':=["_law_piece","_law_cover"]) (dO (pv 1)) rfl (by show bW ["_law_tree_here","_law_some","_law_cover","_law_three","_law_last","_law_named","_law_found","_law_holes","_law_made","_law_cells"] (λx=>(aD gP).names.lookup x) _ _ _ _=true;decide +kernel) rfl (λ_ _ _ _ _=>(aQ (i:=0) (by show List.Nodup [("_law_piece":Str),("_law_cover":Str)];decide +kernel) rfl (Or.inl rfl))) (λ_ _ _ _ _=>(nT (aC bz (aI (r:=kG K) aK (pv 0) aj) (aI (r:=kG K) aK (pv 1) aj) (aJ _)))) (λ_ _ _ _ _=>(pv 0))) (ag (bh (ag (bh af) (ag (bh af) (ag (bh af) af)))) af)) (by kernel_rfl))
 (ao (a7 (PW.pt (cO (aC (nQ hr) (pv 5) (bh af) (aJ _)) (cO (bP (bg (pc (D:=T.FZ) GI hr (ag (aI aK (aI bf (pv 5) aj) aj) (ag (pv 0) (ag (pv 6) af)))) (λ_=>rfl))) (cP (aC iP (aP aM rfl T.Fw bq (ag (aI bf (pv 6) aj) af)) (aP aM rfl T.Fw bq (ag (aI aK (pv 2) aj) af)) (aJ _)))))) (au (aF dN)) aL)
 (ao (gO (i:=7) (own:=["_law_one","_law_inner"]) (fr:=[1]) (N':=["_law_one","_law_inner","_law_some"]) (BY rfl T.II (ag (aI bf (pv 6) aj) (ag (aI aK (pv 2) aj) af))) rfl (by show bW ["_law_tree_here","_law_some","_law_cover","_law_three","_law_last","_law_named","_law_found","_law_holes","_law_made","_law_cells"] (λx=>(aD gP).names.lookup x) _ _ _ _=true;decide +kernel) rfl (λ_ _ _ _ _=>(kC (K:=K) (n:=2) rfl rfl (a8 (aQ (i:=0) (by show List.Nodup [("_law_one":Str),("_law_inner":Str),("_law_some":Str)];decide +kernel) rfl (Or.inl rfl)) (a8 (aQ (i:=1) (by show List.Nodup [("_law_one":Str),("_law_inner":Str),("_law_some":Str)];decide +kernel) rfl (Or.inl rfl)) cu)))) (λ_ _ _ _ _=>bN) (λ_ _ _ _ _=>(pc (D:=T.Gi) HB hr (ag (pv 0) (ag (pv 2) (ag (pv 1) af))))) nd rfl rfl rfl)
 (ao (a7 (aC (wc hr) dN (pv 7) (by with_unfolding_all rfl)) (au (aF dN)) aL)
 (ao (bo (i:=8) nd rfl (Or.inl rfl) (bh af))
 (ao (gu PassesOwn.never rfl (dO (pv 7)) (aQ (i:=9) nd rfl (Or.inl rfl)) (au (bo (i:=8) nd rfl (Or.inl rfl) (ba dt (pv 8) (pv 9)))))
 (au (aF (ba dt (pv 8) (pc (D:=T.Hr) IY hr (ag (aI aK (aI bf (pv 5) aj) aj) (ag (aI bf (pv 6) aj) (ag (aI bf (pv 6) aj) af))))))))))))))),?_⟩
 refine aH (K:=K) (b:=Do c) ?_ (λcn H1 s1=>?_) (λcs H1 s1=>?_)
 ·cases c with
  | tup ds =>
   by_cases hl:(ds.length:Int)=2
   ·obtain ⟨x,y,rfl⟩:∃ x y,ds=[x,y]:=by
     match ds,hl with
     | [x,y],_=>exact ⟨x,y,rfl⟩
     | [],hl=>simp at hl
     | [x],hl=>simp at hl
     | x::y::z::r,hl=>simp only [List.length_cons] at hl;omega
    exact RT.as (bJ (bj (aW (bA (ab (k:=2) h2)))) λ_=>bJ (ay (fN (cF (ab (k:=2) h2)) ak)) λ_=>bj (aW (bA (aN (k:=1) (ab (k:=2) h2) ak rfl)))) rfl
   ·refine RT.as (bJ (bj (aW (bA (ab (k:=2) h2)))) λ_=>bJ (c:=true) (ay (fN (cF (ab (k:=2) h2)) ak)) λz=>?_) ?_
    ·rw [decide_eq_false hl] at z;cases z
    ·show (false || (!decide ((ds.length:Int)=2) || true))=(false || (!decide ((ds.length:Int)=2) || _))
     rw [decide_eq_false hl];rfl
  | non=>exact RT.as (bJ (c:=true) (bj (aW (bA (ab (k:=2) h2)))) λz=>nomatch z) rfl
  | bl y=>exact RT.as (bJ (c:=true) (bj (aW (bA (ab (k:=2) h2)))) λz=>nomatch z) rfl
  | int i=>exact RT.as (bJ (c:=true) (bj (aW (bA (ab (k:=2) h2)))) λz=>nomatch z) rfl
  | str y=>exact RT.as (bJ (c:=true) (bj (aW (bA (ab (k:=2) h2)))) λz=>nomatch z) rfl
  | lst=>exact RT.as (bJ (c:=true) (bj (aW (bA (ab (k:=2) h2)))) λz=>nomatch z) rfl
 ·rw [sj c okc] at cn;have e:eV c=none:=by cases e:eV c with | none=>rfl | some _=>rw [e] at cn;cases cn
  have e0:bK ps (n+1) t c=none:=by show (match eV c with | none=>none | some x=>_)=none;rw [e]
  exact aX (K:=K) (d:=.non) ji λv G s q=>by rw [q.nonE];exact post0 e0 G (s1.trans s)
 rw [sj c okc] at cs
 obtain ⟨nm,cv,rfl⟩:∃ nm cv,c=.tup [.str nm,.tup cv]:=by
  cases e:eV c with
  | none=>rw [e] at cs;cases cs
  | some x=>exact ⟨x.1,x.2,o7 e⟩
 have eL:bK ps (n+1) t (.tup [.str nm,.tup cv])=if nm="pick" then gI (bK ps n) t cv else dU (bK ps n) ps t nm cv:=rfl;have okcs:=BH okc;rw [eL] at post0 post1
 have l900:∀ es,(if nm="pick" then gI (bK ps n) t cv else dU (bK ps n) ps t nm cv)=some es->es.length<=900:=λes e=>by rw [<- eL] at e;have:=fZ okS.ok (n+1) t _ es e;omega
 by_cases hp:nm="pick"
 ·subst hp;rw [if_pos rfl] at post0 post1 l900;refine aH (K:=K) (b:=true) (RT.as (ay (aY (aN (k:=0) (ab (k:=2) (s1.dat h2)) ak rfl) az)) (decide_eq_true rfl)) (λ_ H2 s2=>?_) (λc=>nomatch c);have s12:=s1.trans s2;obtain ⟨kd,r,ek,hpk,hcall,hkids⟩:=sE t okt;have h0':Dat K H (.tup (.str kd::r)) v0:=by rw [<- ek];exact h0
  have t1:RT (tZ (tOp rNe (tOp (kG K) (fG 0) (tC (.int 0))) (tC (.str "pick")))) (eG ["_law_tree_here","_law_some","_law_cover","_law_three","_law_last","_law_named","_law_found","_law_holes","_law_made","_law_cells"] [v0,v1,v2]) H2 (!ij t):=RT.as (ay (rF (aN (k:=0) (ab (k:=0) (s12.dat h0')) ak rfl) az)) (by rw [hpk]);have t2:RT (tZ (tOp rNe (tCB (λxs H Q=>∃ p ys,xs=[.ref p]/\(SqL K H p ys\/SqT K H p ys)/\Q (.int ys.length) H) (bC (tOp (kG K) (fG 2) (tC (.int 1))) c7)) (tC (.int 3)))) (eG ["_law_tree_here","_law_some","_law_cover","_law_three","_law_last","_law_named","_law_found","_law_holes","_law_made","_law_cells"] [v0,v1,v2]) H2 (!decide ((cv.length:Int)=3)):=ay (fN (cF (aN (k:=1) (ab (k:=2) (s12.dat h2)) ak rfl)) ak);by_cases hpt:ij t=true
  ·cases t with
   | pick a b d =>
    have h0:Dat K H (.tup [.str "pick",toD a,toD b,toD d]) v0:=h0;by_cases h3:cv.length=3
    ·match cv,h3 with
     | [ca,cb,cd],_ =>
      refine aH (K:=K) (b:=false) (RT.as (bJ (RT.as t1 (c:=false) rfl) λ_=>t2) rfl) (λc=>nomatch c) (λ_ H3 s3=>?_);have s13:=s12.trans s3;have da:aS a<=n:=by simp only [aS] at dpt;omega
      have db:aS b<=n:=by simp only [aS] at dpt;omega
      have dd:aS d<=n:=by simp only [aS] at dpt;omega
      have za:aR a<=40:=by simp only [aR] at szt;omega
      have zb:aR b<=40:=by simp only [aR] at szt;omega
      have zd:aR d<=40:=by simp only [aR] at szt;omega
      refine c6 (RCO.use (K:=K) (B6 (cs:=[toD a,toD b,toD d]) (ds:=[ca,cb,cd]) (ae (iu (ab (k:=0) (s13.dat h0))) (ae (aN (k:=1) (ab (k:=2) (s13.dat h2)) ak rfl) aA)) rfl (by simp) [bK ps n a ca,bK ps n b cb,bK ps n d cd] rfl (by decide) rfl (λG j x y z v w sG hx hy hz hv hw=>?_)) λl ys H4 hl s4 hy dy=>?_)
      ·have hL:=(s13.trans sG).ld h1
       match j,hx,hy,hz with
       | 0,hx,hy,hz=>cases hx;cases hy;cases hz;exact jk (R:=jL n) (cZ (ab (k:=0) hv) (dI (aT (k:=2) hL) (cZ (ab (k:=1) hw) bS))) ⟨ps,a,ca,rfl,okS,laS,okt.1,da,by omega,za,okcs _ (by simp),rfl⟩
       | 1,hx,hy,hz=>cases hx;cases hy;cases hz;exact jk (R:=jL n) (cZ (ab (k:=0) hv) (dI (aT (k:=2) hL) (cZ (ab (k:=1) hw) bS))) ⟨ps,b,cb,rfl,okS,laS,okt.2.1,db,by omega,zb,okcs _ (by simp),rfl⟩
       | 2,hx,hy,hz=>cases hx;cases hy;cases hz;exact jk (R:=jL n) (cZ (ab (k:=0) hv) (dI (aT (k:=2) hL) (cZ (ab (k:=1) hw) bS))) ⟨ps,d,cd,rfl,okS,laS,okt.2.2,dd,by omega,zd,okcs _ (by simp),rfl⟩
       | j+3,hx,hy,hz=>cases hx
      have s14:=s13.trans s4;have e3:gI (bK ps n) (.pick a b d) [ca,cb,cd]=(iZ [bK ps n a ca,bK ps n b cb,bK ps n d cd]).bind xg:=rfl;rw [e3] at post0 post1 l900;generalize bK ps n a ca=oa at dy post0 post1 l900;generalize bK ps n b cb=ob at dy post0 post1 l900;generalize bK ps n d cd=od at dy post0 post1 l900;refine aH (K:=K) (b:=[oa,ob,od].any Option.isNone) (ay (wz (k:=3) hy dy)) (λcN H5 s5=>?_) (λcS H5 s5=>?_)
      ·have e0:(iZ [oa,ob,od]).bind xg=none:=by rw [hX cN];rfl
       exact aX (K:=K) (d:=.non) ji λv G s q=>by rw [q.nonE];exact post0 e0 G ((s14.trans s5).trans s)
      ·cases oa with
       | none=>cases cS
       | some xa =>
        cases ob with
        | none=>cases cS
        | some xb =>
         cases od with
         | none=>cases cS
         | some xd =>
          have dy:LDs K H4 [xa,xb,xd] ys:=LOs.all dy;have l900:(dq xa xb xd).length<=900:=l900 _ rfl;have ll:(dq xa xb xd).length=xa.length+(di 10 11 (xb++di 8 9 xd.length).length).length+(xb.length+(di 8 9 xd.length).length)+xd.length:=by unfold dq;simp only [List.length_append]
          have post1:∀ es,some (dq xa xb xd)=some es->_:=post1;have hy5:=s5 _ _ hy;have dy5:=s5.lds dy;refine fT (K:=K) (es:=xb++di 8 9 xd.length) (dv (mM (k:=3) (j:=1) hy5 dy5 ak rfl) (eQ (iG (R:=qc) (ae ak (ae ak (ae (cT (mM (k:=3) (j:=2) (es:=xd) hy5 dy5 ak rfl)) aA))) ⟨8,9,_,rfl,rfl⟩)) (by show xb.length+(di 8 9 xd.length).length<=1000;omega)) λl2 zs H6 hl2 s6 hz dz=>?_;have hy6:=s6 _ _ hy5;have dy6:=s6.lds dy5;have hL6:LD K H6 (xb++di 8 9 xd.length) (.ref l2):=LD.of hz dz;have lx:(xb++di 8 9 xd.length).length=xb.length+(di 8 9 xd.length).length:=List.length_append;refine fE (RC.use (K:=K) (es:=dq xa xb xd) (dv (eQ (dv (eQ (dv (mM (k:=3) (j:=0) hy6 dy6 ak rfl) (eQ (iG (R:=qc) (ae ak (ae ak (ae (cT (aT (k:=4) hL6)) aA))) ⟨10,11,_,rfl,rfl⟩)) (by show xa.length+(di 10 11 _).length<=1000;omega))) (aT (k:=4) hL6) ?_)) (mM (k:=3) (j:=2) hy6 dy6 ak rfl) ?_) λl3 us H7 hl3 s7 hu du=>post1 _ rfl l3 us H7 (s14.trans (s5.trans (s6.trans s7))) hu ((s14.trans (s5.trans s6)).free hl3) du)
          ·show (xa++di 10 11 (xb++di 8 9 xd.length).length).length+(xb++di 8 9 xd.length).length<=1000;have e1:(xa++di 10 11 (xb++di 8 9 xd.length).length).length=xa.length+(di 10 11 (xb++di 8 9 xd.length).length).length:=List.length_append;omega
          ·show (xa++di 10 11 (xb++di 8 9 xd.length).length++(xb++di 8 9 xd.length)).length+xd.length<=1000;have e1:(xa++di 10 11 (xb++di 8 9 xd.length).length).length=xa.length+(di 10 11 (xb++di 8 9 xd.length).length).length:=List.length_append;have e2:(xa++di 10 11 (xb++di 8 9 xd.length).length++(xb++di 8 9 xd.length)).length=(xa++di 10 11 (xb++di 8 9 xd.length).length).length+(xb++di 8 9 xd.length).length:=List.length_append;omega
    ·refine aH (K:=K) (b:=true) (RT.as (bJ (RT.as t1 (c:=false) rfl) λ_=>t2) (by rw [decide_eq_false (by omega)];rfl)) (λ_ H3 s3=>?_) (λc=>nomatch c)
     have e0:gI (bK ps n) (.pick a b d) cv=none:=by show (if cv.length=3 then _ else none)=none;rw [if_neg h3]
     exact aX (K:=K) (d:=.non) ji λv G s q=>by rw [q.nonE];exact post0 e0 G ((s12.trans s3).trans s)
   | _=>cases hpt
  ·have hpt:ij t=false:=by simpa using hpt
   refine aH (K:=K) (b:=true) (RT.as (bJ (c:=true) (RT.as t1 (c:=true) (by rw [hpt];rfl)) λz=>nomatch z) rfl) (λ_ H3 s3=>?_) (λc=>nomatch c)
   have e0:gI (bK ps n) t cv=none:=by
    cases t with
    | pick a b d=>cases hpt
    | _=>rfl
   exact aX (K:=K) (d:=.non) ji λv G s q=>by rw [q.nonE];exact post0 e0 G ((s12.trans s3).trans s)
 ·rw [if_neg hp] at post0 post1 l900;refine aH (K:=K) (b:=false) (RT.as (ay (aY (aN (k:=0) (ab (k:=2) (s1.dat h2)) ak rfl) az)) (decide_eq_false hp)) (λc=>nomatch c) (λ_ H2 s2=>?_);have s12:=s1.trans s2;have few:=okS.few;refine cf (cx (RC.use (K:=K) (wu (aT (k:=1) (s12.ld h1)) (by rw [List.length_map];omega) (zm nm) rfl (λG j c v sG hc hv=>?_)) λl ys H3 hl s3 hy dy=>cx (zS λfa l0 l1 l2 H4 N=>⟨_,_,rfl,?_⟩)))
  ·rw [List.getElem?_map] at hc
   cases hq:ps[j]? with
   | none=>rw [hq] at hc;cases hc
   | some q =>rw [hq] at hc;cases hc;exact ⟨ay (aY (aN (k:=0) (ab (k:=0) (show Dat K G (.tup [.str q.nm,toP q.pt,.tup q.cs]) v from hv)) ak rfl) (aN (k:=0) (ab (k:=1) ((s12.trans sG).dat h2)) ak rfl)),ab (k:=0) hv⟩
  have s14:=(s12.trans s3).trans N.s;have hy4:=N.s _ _ hy;have dy4:=N.s.dats dy
  cases hf:gw nm ps with
  | none =>
   rw [k8 (m7 hf)] at dy4;have e0:dU (bK ps n) ps t nm cv=none:=by unfold dU;rw [hf]
   refine cf (RT.use (b:=true) (RT.as (ay (kI (K:=K) (k:=5) hy4 dy4 (by simp [noLs]) (by simp [deepDs]))) c9) λH5 s5=>gU (gU ?_));exact aX (K:=K) (d:=.non) ji λv G s q=>by rw [q.nonE];exact post0 e0 G ((s14.trans s5).trans s)
  | some p =>
   obtain ⟨hp',hnm⟩:=cK hf;subst hnm;have okp:=okS.ok p hp';have hcl:=laS.cl p hp';rw [m6 laS.ls.nd hp'] at dy dy4;have hn4:LD K H4 [pcD p] (.ref l):=LD.of hy4 dy4;have pl:=laS.ls.nl p hp';refine cf (RT.use (b:=false) (RT.as (ay (kI (K:=K) (k:=5) hy4 dy4 (by simp [noLs,pl.1]) (by simp only [deepDs];omega))) (c8 _ _)) λH5 s5=>ik ?_);have N5:=N.mono s5;have s15:=s14.trans s5;refine CM (K:=K) (j:=6) N5 okp.ok okt (by omega) okp.dp (aN (ds:=[.str p.nm,toP p.pt,.tup p.cs]) (k:=1) (gv (k:=0) (aT (k:=5) (s5.ld hn4)) ak rfl) ak rfl) (ab (k:=0) (s15.dat h0)) λH6 s6 full=>?_;have hz6:Same H H6:=(s12.trans s3).trans s6;refine ⟨_,rfl,?_⟩
   cases hft:bI p.pt t with
   | none =>
    have e0:dU (bK ps n) ps t p.nm cv=none:=by unfold dU;rw [hf];dsimp only;rw [hft]
    refine gU (gU ?_);exact aX (K:=K) (d:=.non) ji λv G s q=>by rw [q.nonE];exact post0 e0 G (hz6.trans s)
   | some f =>
    refine ik ?_;have F6:=full f hft;have hn6:LD K H6 [pcD p] (.ref l):=s6.ld (LD.of hy dy)
    have few8:f.1.length<=8:=by
     by_cases hpk:ij t=true
     ·cases t with
      | pick a b c=>rw [kj okp.nh] at hft;cases hft
      | _=>cases hpk
     ·have hw:=vt (ps:=ps) hp' (by simpa using hpk) hft;exact (rS okS.ok hw).1
    have h26:=hz6.dat h2;by_cases lt:f.1.length=cv.length
    ·have eP:dU (bK ps n) ps t p.nm cv=(iZ (cW (bK ps n) f.1 cv)).map λxss=>bR xss f (bE p):=by unfold dU;rw [hf];dsimp only;rw [hft];dsimp only;rw [if_pos lt]
     rw [eP] at post0 post1 l900;refine RT.use (b:=false) (RT.as (ay (fN (cT (tS (K:=K) (k:=6) (v:=0) F6.hf F6.h0 ak rfl)) (cF (aN (k:=1) (ab (k:=2) h26) ak rfl)))) (by rw [List.length_map,lt,decide_eq_true rfl];rfl)) λH7 s7=>ik ?_;have F7:=F6.mono s7;have s17:=hz6.trans s7;refine c6 (RCO.use (K:=K) (Ab (cs:=f.1.map toD) (ds:=cv) (dI (tS (k:=6) (v:=0) F7.hf F7.h0 ak rfl) (cZ (aN (k:=1) (ab (k:=2) (s7.dat h26)) ak rfl) bS)) (by rw [List.length_map];exact lt) (by rw [List.length_map];omega) (cW (bK ps n) f.1 cv) (by rw [List.length_map];exact pI lt) (by decide) rfl (λG j x y z v w sG hx hy hz hv hw=>?_)) λlh zs H8 hlh s8 hzs dzs=>?_)
     ·rw [List.getElem?_map] at hx
      cases hq:f.1[j]? with
      | none=>rw [hq] at hx;cases hx
      | some u =>rw [hq] at hx;cases hx;have tail:=ig okp.nh hft u (List.mem_of_getElem? hq);have du:=fh tail;exact jk (R:=jL n) (cZ (ab (k:=0) hv) (dI (aT (k:=2) ((s17.trans sG).ld h1)) (cZ (ab (k:=1) hw) bS))) ⟨ps,u,y,rfl,okS,laS,dW t u okt (fP tail),by omega,by omega,by omega,okcs _ (List.mem_of_getElem? hy),pG hq hy hz⟩
     refine aH (K:=K) (b:=(cW (bK ps n) f.1 cv).any Option.isNone) (ay (wz (k:=7) hzs dzs)) (λcN H9 s9=>?_) (λcS H9 s9=>?_)
     ·have e0:(iZ (cW (bK ps n) f.1 cv)).map (λxss=>bR xss f (bE p))=none:=by rw [hX cN];rfl
      exact aX (K:=K) (d:=.non) ji λv G s q=>by rw [q.nonE];exact post0 e0 G ((s17.trans (s8.trans s9)).trans s)
     ·obtain ⟨xss,exs⟩:=jy cS;rw [exs] at dzs;rw [exs,j7] at post0 post1 l900;have dzs:LDs K H8 xss zs:=LOs.all dzs;generalize bE p=cl at post1 l900 hcl;have l900:(bR xss f cl).length<=900:=l900 _ rfl
      have lle:xss.flatten.length+cl.length<=900:=by
       have z:(bR xss f cl).length=xss.flatten.length+cl.length:=by unfold bR;rw [List.length_append,List.length_map]
       omega
      have lfl:xss.flatten.length<=900:=by omega
      have post1:∀ es,some (bR xss f cl)=some es->_:=post1;have hzs9:=s9 _ _ hzs;have dzs9:=s9.lds dzs;have s19:=s17.trans (s8.trans s9);have s79:=s8.trans s9;refine c6 ⟨bU (by decide),λm hm=>?_⟩;have sm:Same H9 (upd H9 m (.lst [])):=aG hm _;have lzs:=dzs9.length;refine cf ⟨_,rfl,lh,rfl,⟨zs,SqL.of (sm _ _ hzs9)⟩,i5 (xs:=zs) (λi σ G=>∃ (z9:Option V) (m:Addr) (us:List V),σ=[some v0,some v1,some v2,none,none,some (.ref l),some (.ref fa),some (.ref lh),some (.ref m),z9]/\Same H9 G/\G m=some (.lst us)/\Dats K G (xss.take i).flatten us) ?_ (λi σ G _ ⟨_,_,_,_,q,_⟩=>SqL.of (q _ _ hzs9)) ?_ ?_⟩
      ·exact ⟨none,m,[],rfl,sm,aq,by rw [List.take_zero];exact Dats.nil⟩
      ·rintro i vx σ G hi ⟨z9,m,us,rfl,sG,hmG,du⟩;have hix:i < xss.length:=by rw [lzs];exact (List.getElem?_eq_some_iff.mp hi).1
       have hx:xss[i]?=some xss[i]:=List.getElem?_eq_getElem hix;obtain ⟨v,ev,hv⟩:=(sG.lds dzs9).get hx;rw [hi] at ev;cases ev;have lz:=sJ lfl hx;refine iI ?_;dsimp only;refine RC.use (K:=K) (dv (aT (k:=8) (LD.of hmG du)) (aT (k:=9) hv) (by omega)) λm2 us2 G2 hm2 s2 hu2 du2=>?_;refine ⟨_,m2,us2,rfl,sG.trans s2,hu2,?_⟩;rw [List.take_add_one,hx,List.flatten_append];simp only [Option.toList_some,List.flatten_cons,List.flatten_nil,List.append_nil];exact du2
      ·rintro σ G ⟨z9,m,us,rfl,sG,hmG,du⟩;rw [<- lzs,List.take_length] at du;dsimp only;have sHG:=s19.trans sG;have F10:=F7.mono (s79.trans sG)
       have hn10:LD K G [.tup [.str p.nm,toP p.pt,.tup (cl.map clD)]] (.ref l):=by
        have z:=(s7.trans (s79.trans sG)).ld hn6;have e:pcD p=.tup [.str p.nm,toP p.pt,.tup (cl.map clD)]:=by unfold pcD;rw [hcl.eq]
        rw [e] at z;exact z
       obtain ⟨g1,g2⟩:=ki _ _ _ hft;have lcl:cl.length<=12:=by have:=okp.cs;rw [hcl.eq,List.length_map] at this;exact this
       refine fE (RC.use (K:=K) (es:=bR xss f cl) (dv (aT (k:=8) (LD.of hmG du)) (eQ (d5 (R:=ui) (cZ (aN (k:=2) (gv (k:=0) (aT (k:=5) hn10) ak rfl) ak rfl) (dI (tS (k:=6) (v:=1) F10.hf F10.h1 ak rfl) (dI (tS (k:=6) (v:=2) F10.hf F10.h2 ak rfl) bS))) ⟨cl,f.2.1,f.2.2,rfl,by rw [g1,g2];exact hcl.ok,lcl,rfl⟩)) (by rw [List.length_map];omega)) λl3 ws G2 hl3 s2 hw dw=>post1 _ rfl l3 ws G2 (sHG.trans s2) hw (sHG.free hl3) dw)
    ·have e0:dU (bK ps n) ps t p.nm cv=none:=by unfold dU;rw [hf];dsimp only;rw [hft];dsimp only;rw [if_neg lt]
     refine RT.use (b:=true) (RT.as (ay (fN (cT (tS (K:=K) (k:=6) (v:=0) F6.hf F6.h0 ak rfl)) (cF (aN (k:=1) (ab (k:=2) h26) ak rfl)))) (by rw [List.length_map,decide_eq_false (by omega)];rfl)) λH7 s7=>gU ?_;exact aX (K:=K) (d:=.non) ji λv G s q=>by rw [q.nonE];exact post0 e0 G ((hz6.trans s7).trans s)
def uh (ds:List D) (d:D):Prop:=∃ (c:Cl) (nums ks:List Int),ds=[clD c,.tup (nums.map D.int),.tup (ks.map D.int)]/\A4 nums.length ks.length c=true/\d=.int (iM nums ks c)
theorem nN (T:Txt P w K mg)  : Ok P w base (k+1) T.GO (spD K uh):=by
 refine T.GO.f.ok sc_filled_cell (λvs H Q E h=>?_) (λcdv A outer s H vs Q E hr h=>?_)
 ·obtain ⟨ds,d,hd,⟨c,nums,ks,rfl,_⟩,_⟩:=h;exact hd.length.symm
 have nd:=sc_filled_cell.nd;obtain ⟨ds,d,hd,⟨c,nums,ks,rfl,okc,rfl⟩,post⟩:=h;obtain ⟨v0,v1,v2,rfl,h0,h1,h2⟩:=me hd;refine ⟨_,(ao (a7 (bg (aP (dB yP) rfl T.Fu bF (bM (pv 0) (bM (eB (v:=.ty "int") rfl T.Jx yk rfl) af))) (λ_=>rfl)) (au (aF (pv 0))) aL)
 (ao (a7 (aC bz (aI aK (pv 0) aj) aE (aJ _)) (au (aF (ba dD (aI aK (pv 1) (aI aK (pv 0) aj)) aj))) aL)
 (ao (a7 (aC bz (aI aK (pv 0) aj) aE (aJ _)) (au (aF (ba iE (aI aK (pv 1) (aI aK (pv 0) aj)) aj))) aL)
 (au (aF (aI aK (pv 2) (aI aK (pv 0) aj))))))),?_⟩
 cases c with
 | n j =>have h0:Dat K H (.int j) v0:=h0;refine aH (K:=K) (b:=true) (aW (bA (ab (k:=0) h0))) (λ_ H1 s1=>?_) (λc=>nomatch c);exact aX (K:=K) (d:=.int j) (ab (k:=0) (s1.dat h0)) λv H2 s2 q=>post v H2 (s1.trans s2) q
 | low j =>have h0:Dat K H (.tup [.str "low",.int j]) v0:=h0;have okc:=of_decide_eq_true okc;refine aH (K:=K) (b:=false) (aW (bA (ab (k:=0) h0))) (λc=>nomatch c) (λ_ H1 s1=>?_);refine aH (K:=K) (b:=true) (RT.as (ay (aY (aN (k:=0) (ab (k:=0) (s1.dat h0)) ak rfl) az)) (decide_eq_true rfl)) (λ_ H2 s2=>?_) (λc=>nomatch c);have s12:=s1.trans s2;exact aX (K:=K) (d:=.int (nums.getD j 0 % 100)) (iH (aN (k:=j) (ab (k:=1) (s12.dat h1)) (aN (k:=1) (ab (k:=0) (s12.dat h0)) ak rfl) (jC okc)) ak (by decide)) λv H3 s3 q=>post v H3 (s12.trans s3) q
 | high j =>have h0:Dat K H (.tup [.str "high",.int j]) v0:=h0;have okc:=of_decide_eq_true okc;refine aH (K:=K) (b:=false) (aW (bA (ab (k:=0) h0))) (λc=>nomatch c) (λ_ H1 s1=>?_);refine aH (K:=K) (b:=false) (RT.as (ay (aY (aN (k:=0) (ab (k:=0) (s1.dat h0)) ak rfl) az)) (decide_eq_false (by decide +kernel))) (λc=>nomatch c) (λ_ H2 s2=>?_);have s12:=s1.trans s2;refine aH (K:=K) (b:=true) (RT.as (ay (aY (aN (k:=0) (ab (k:=0) (s12.dat h0)) ak rfl) az)) (decide_eq_true rfl)) (λ_ H3 s3=>?_) (λc=>nomatch c);have s13:=s12.trans s3;exact aX (K:=K) (d:=.int (nums.getD j 0 / 100)) (mK (aN (k:=j) (ab (k:=1) (s13.dat h1)) (aN (k:=1) (ab (k:=0) (s13.dat h0)) ak rfl) (jC okc)) ak ⟨by decide,by decide⟩) λv H4 s4 q=>post v H4 (s13.trans s4) q
 | arg j =>have h0:Dat K H (.tup [.str "arg",.int j]) v0:=h0;have okc:=of_decide_eq_true okc;refine aH (K:=K) (b:=false) (aW (bA (ab (k:=0) h0))) (λc=>nomatch c) (λ_ H1 s1=>?_);refine aH (K:=K) (b:=false) (RT.as (ay (aY (aN (k:=0) (ab (k:=0) (s1.dat h0)) ak rfl) az)) (decide_eq_false (by decide +kernel))) (λc=>nomatch c) (λ_ H2 s2=>?_);have s12:=s1.trans s2;refine aH (K:=K) (b:=false) (RT.as (ay (aY (aN (k:=0) (ab (k:=0) (s12.dat h0)) ak rfl) az)) (decide_eq_false (by decide +kernel))) (λc=>nomatch c) (λ_ H3 s3=>?_);have s13:=s12.trans s3;exact aX (K:=K) (d:=.int (ks.getD j 0)) (aN (k:=j) (ab (k:=2) (s13.dat h2)) (aN (k:=1) (ab (k:=0) (s13.dat h0)) ak rfl) (jC okc)) λv H4 s4 q=>post v H4 (s13.trans s4) q
def iX (n:Nat) (as:List Ar) (es:List D):Prop:=∃ (ps:List Pc) (t:Tr) (c:D),as=[.d (toD t),.l (ps.map pcD),.d c,.l []]/\gY ps/\xf ps/\okT t/\aS t<=n/\n<=8/\aR t<=40/\bK ps n t c=some es
def C6 (n:Nat) (as:List Ar) (es:List D):Prop:=∃ (ps:List Pc) (a b d:Tr) (ca cb cd:D) (xa xb xd:List D),as=[.d (.tup [.str "pick",toD a,toD b,toD d]),.l (ps.map pcD),.d (.tup [.str "pick",.tup [ca,cb,cd]]),.l []]/\gY ps/\xf ps/\(okT a/\okT b/\okT d)/\(aS a<=n/\aS b<=n/\aS d<=n)/\n<=8/\(aR a<=40/\aR b<=40/\aR d<=40) /\
 bK ps n a ca=some xa/\bK ps n b cb=some xb/\bK ps n d cd=some xd/\es.length<=900/\es=dq xa xb xd
def C5 (n:Nat) (as:List Ar) (es:List D):Prop:=∃ (ps:List Pc) (t:Tr) (p:Pc) (cv:List D) (g:Fnd) (ess:List (List D)),as=[.d (toD t),.l (ps.map pcD),.d (.tup [.str p.nm,.tup cv]),.l []]/\gY ps/\xf ps/\okT t/\aS t<=n+1/\n+1<=8/\aR t<=40/\p ∈ ps/\bI p.pt t=some g/\g.1.length=cv.length/\cW (bK ps n) g.1 cv=ess.map some/\es.length<=900/\es=bR ess g (bE p)
theorem mh (x y z:List D):dq x y z=x++(cM 10 11 ((y.length:Int)+fz z.length)).map D.int++y++(cM 8 9 z.length).map D.int++z:=by
 unfold dq di
 have e:((y++(cM 8 9 (z.length:Int)).map D.int).length:Int)=(y.length:Int)+fz z.length:=by rw [List.length_append,List.length_map];have:=fY 8 9 z.length;omega
 rw [e];simp only [List.append_assoc]
theorem qZ (T:Txt P w K mg) (GD:Ok P w base k T.FL (iW K (iX n))) (GX:Ok P w base k T.FU (rN K)):Ok P w base (k+1) T.Hv (iW K (C6 n)):=by
 refine T.Hv.f.ok sc_laid_pick (λvs H Q E h=>?_) (λcdv A outer s H vs Q E hr h=>?_)
 ·obtain ⟨as,es,hd,⟨ps,a,b,d,ca,cb,cd,xa,xb,xd,rfl,_⟩,_⟩:=h;exact hd.length.symm
 have nd:=sc_laid_pick.nd;obtain ⟨as,es,hd,⟨ps,a,b,d,ca,cb,cd,xa,xb,xd,rfl,okS,laS,⟨oa,ob,od⟩,⟨da,db,dd⟩,n8,⟨za,zb,zd⟩,la,lb,ld,l900,rfl⟩,post⟩:=h;obtain ⟨v0,v1,v2,v3,rfl,h0,h1,h2,h3⟩:=AW hd;have h0:Dat K H (.tup [.str "pick",toD a,toD b,toD d]) v0:=h0;have h1:LD K H (ps.map pcD) v1:=h1;have h2:Dat K H (.tup [.str "pick",.tup [ca,cb,cd]]) v2:=h2;have h3:LD K H [] v3:=h3;rw [mh] at post l900;refine ⟨_,(ao (fC (cq (own:=["one","within"]) (fr:=[1,3]) (N':=["one","within","some","places"]) (rB rfl T.II (ag (gN lS (pv 0) (gA aj) kD) (ag (aI aK (pv 2) aj) af))) rfl (by show bW ["tree","some","cover","places","first","second","third","ahead","behind"] (λx=>(aD jr).names.lookup x) _ _ _ _=true;decide +kernel) rfl (λ_ _ _ _ _=>(kC (K:=K) (n:=2) rfl rfl (a8 (aQ (i:=0) (by show List.Nodup [("one":Str),("within":Str),("some":Str),("places":Str)];decide +kernel) rfl (Or.inl rfl)) (a8 (aQ (i:=1) (by show List.Nodup [("one":Str),("within":Str),("some":Str),("places":Str)];decide +kernel) rfl (Or.inl rfl)) cu)))) (λ_ _ _ _ _=>bN) (λ_ _ _ _ _=>(pc (D:=T.FL) GD hr (ag (pv 0) (ag (pv 2) (ag (pv 1) (ag (pv 3) af))))))) (BX rfl (a8 (aQ (i:=4) nd rfl (Or.inl rfl)) (a8 (aQ (i:=5) nd rfl (Or.inl rfl)) (a8 (aQ (i:=6) nd rfl (Or.inl rfl)) cu)))))
 (ao (fC (pc (D:=T.FU) GX hr (ag (aP aM rfl T.Fw bq (ag (pv 5) af)) (ag (aP aM rfl T.Fw bq (ag (pv 6) af)) af))) (fe rfl (a8 (aQ (i:=7) nd rfl (Or.inl rfl)) (a8 (aQ (i:=8) nd rfl (Or.inl rfl)) cu))))
 (au (aF (ba dt (ba dt (ba dt (ba dt (pv 4) (pv 7)) (pv 5)) (pv 8)) (pv 6)))))),?_⟩
 refine mN (RCL.use (K:=K) (B5 (cs:=[toD a,toD b,toD d]) (ds:=[ca,cb,cd]) (ae (iu (ab (k:=0) h0)) (ae (aN (k:=1) (ab (k:=2) h2) ak rfl) aA)) rfl (by simp) [xa,xb,xd] rfl (by decide) rfl (λG j x y z v w sG hx hy hz hv hw=>?_)) λl ys H1 hl s1 hy dy=>?_)
 ·have hL:=sG.ld h1;have hP:=sG.ld h3
  match j,hx,hy,hz with
  | 0,hx,hy,hz=>cases hx;cases hy;cases hz;exact d5 (R:=iX n) (cZ (ab (k:=0) hv) (dI (aT (k:=2) hL) (cZ (ab (k:=1) hw) (dI (aT (k:=3) hP) bS)))) ⟨ps,a,ca,rfl,okS,laS,oa,da,n8,za,la⟩
  | 1,hx,hy,hz=>cases hx;cases hy;cases hz;exact d5 (R:=iX n) (cZ (ab (k:=0) hv) (dI (aT (k:=2) hL) (cZ (ab (k:=1) hw) (dI (aT (k:=3) hP) bS)))) ⟨ps,b,cb,rfl,okS,laS,ob,db,n8,zb,lb⟩
  | 2,hx,hy,hz=>cases hx;cases hy;cases hz;exact d5 (R:=iX n) (cZ (ab (k:=0) hv) (dI (aT (k:=2) hL) (cZ (ab (k:=1) hw) (dI (aT (k:=3) hP) bS)))) ⟨ps,d,cd,rfl,okS,laS,od,dd,n8,zd,ld⟩
  | j+3,hx,hy,hz=>cases hx
 obtain ⟨w4,w5,w6,rfl,k4,k5,k6⟩:∃ w4 w5 w6,ys=[w4,w5,w6]/\LD K H1 xa w4/\LD K H1 xb w5/\LD K H1 xd w6:=by
  cases dy with
  | cons k4 r =>
   cases r with
   | cons k5 r =>
    cases r with
    | cons k6 r =>cases r;exact ⟨_,_,_,rfl,k4,k5,k6⟩
 refine ⟨l,_,rfl,SqL.of hy,rfl,_,_,rfl,_,_,rfl,_,_,rfl,rfl,?_⟩
 try dsimp only
 refine mN (hE (cx (RE.use (K:=K) (d:=.int xb.length) (cT (aT (k:=5) k5)) λw1 H3 s3 q3=>cx (RE.use (K:=K) (d:=.int xd.length) (cT (aT (k:=6) (s3.ld k6))) λw2 H4 s4 q4=>?_))));have e3:=q3.intE;have e4:=q4.intE;subst e3 e4;refine ⟨_,_,rfl,λp aa bb us ws H5 s5 hp ha hb _ _ _ dus dws=>?_⟩;refine ⟨p,_,rfl,hp,rfl,_,_,rfl,_,_,rfl,rfl,?_⟩
 try dsimp only
 have s15:=s3.trans (s4.trans s5);have kA:LD K H5 _ (.ref aa):=LD.of ha dus;have kB:LD K H5 _ (.ref bb):=LD.of hb dws;have ll:(xa++(cM 10 11 ((xb.length:Int)+fz xd.length)).map D.int++xb++(cM 8 9 xd.length).map D.int++xd).length=xa.length+((cM 10 11 ((xb.length:Int)+fz xd.length)).map D.int).length+xb.length+((cM 8 9 (xd.length:Int)).map D.int).length+xd.length:=by simp only [List.length_append]
 generalize (cM 10 11 ((xb.length:Int)+fz xd.length)).map D.int=ja at kA post ll l900;generalize (cM 8 9 (xd.length:Int)).map D.int=jb at kB post ll l900;exact fE (RC.use (K:=K) (dv (eQ (dv (eQ (dv (eQ (dv (aT (k:=4) (s15.ld k4)) (aT (k:=7) kA) (by omega))) (aT (k:=5) (s15.ld k5)) (by rw [List.length_append];omega))) (aT (k:=8) kB) (by rw [List.length_append,List.length_append];omega))) (aT (k:=6) (s15.ld k6)) (by rw [List.length_append,List.length_append,List.length_append];omega)) λl3 us H7 hl3 s7 hu du=>post l3 us H7 (s1.trans (s15.trans s7)) hu ((s1.trans s15).free hl3) du)
theorem oU (T:Txt P w K mg) (GD:Ok P w base k T.FL (iW K (iX n))) (HW:Ok P w base k T.GM (spD K mS)) (IE:Ok P w base k T.GO (spD K uh)):Ok P w base (k+1) T.Ha (iW K (C5 n)):=by
 refine T.Ha.f.ok sc_laid_piece (λvs H Q E h=>?_) (λcdv A outer s H vs Q E hr h=>?_)
 ·obtain ⟨as,es,hd,⟨ps,t,p,cv,g,ess,rfl,_⟩,_⟩:=h;exact hd.length.symm
 have nd:=sc_laid_piece.nd;obtain ⟨as,es,hd,⟨ps,t,p,cv,g,ess,rfl,okS,laS,okt,dpt,n8,szt,hp,hft,hlen,hpair,l900,rfl⟩,post⟩:=h;obtain ⟨v0,v1,v2,v3,rfl,h0,h1,h2,h3⟩:=AW hd;have h0:Dat K H (toD t) v0:=h0;have h1:LD K H (ps.map pcD) v1:=h1;have h2:Dat K H (.tup [.str p.nm,.tup cv]) v2:=h2;have h3:LD K H [] v3:=h3;have okp:=okS.ok p hp;have hcl:=laS.cl p hp;have few:=okS.few;refine ⟨_,(ao (fC (pv 2) (fe rfl (a8 (aQ (i:=4) nd rfl (Or.inr rfl)) (a8 (aQ (i:=5) nd rfl (Or.inl rfl)) cu))))
 (ao (bo (i:=6) nd rfl (Or.inl rfl) (aI bf (cq (own:=["one"]) (fr:=[4]) (N':=["one","name"]) (dO (pv 1)) rfl (by show bW ["tree","some","cover","places","name","within","piece","holes","nums","ks","cells","hole","inner"] (λx=>(aD gC).names.lookup x) _ _ _ _=true;decide +kernel) rfl (λ_ _ _ _ _=>(aQ (i:=0) (by show List.Nodup [("one":Str),("name":Str)];decide +kernel) rfl (Or.inl rfl))) (λ_ _ _ _ _=>(nT (aC bz (aI (r:=kG K) aK (pv 0) aj) (pv 1) (aJ _)))) (λ_ _ _ _ _=>(pv 0))) aj))
 (ao (fC (pc (D:=T.GM) HW hr (ag (pv 6) (ag (pv 0) af))) (fe rfl (a8 (aQ (i:=7) nd rfl (Or.inl rfl)) (a8 (aQ (i:=8) nd rfl (Or.inr rfl)) (a8 (aQ (i:=9) nd rfl (Or.inr rfl)) cu)))))
 (ao (bo (i:=10) nd rfl (Or.inl rfl) (bh af))
 (ao (gu PassesOwn.never rfl (rB rfl T.II (ag (pv 7) (ag (pv 5) af))) (fe rfl (a8 (aQ (i:=11) nd rfl (Or.inl rfl)) (a8 (aQ (i:=12) nd rfl (Or.inl rfl)) cu))) (au (bu (dk F.plainAttrs_list F.slot_list_extend F.type_list_extend ip (pv 10) (ag (pc (D:=T.FL) GD hr (ag (pv 11) (ag (pv 1) (ag (pv 12) (ag (pv 3) af))))) af)))))
 (au (aF (ba dt (pv 10) (cq (own:=["cell"]) (fr:=[8,9]) (N':=["cell","nums","ks"]) (iF (aI aK (pv 6) aj)) rfl (by show bW ["tree","some","cover","places","name","within","piece","holes","nums","ks","cells","hole","inner"] (λx=>(aD gC).names.lookup x) _ _ _ _=true;decide +kernel) rfl (λ_ _ _ _ _=>(aQ (i:=0) (by show List.Nodup [("cell":Str),("nums":Str),("ks":Str)];decide +kernel) rfl (Or.inl rfl))) (λ_ _ _ _ _=>bN) (λ_ _ _ _ _=>(pc (D:=T.GO) IE hr (ag (pv 0) (ag (pv 1) (ag (pv 2) af)))))))))))))),?_⟩
 refine mP (K:=K) (ab (k:=2) h2) λv4 v5 H1 s1 q4 q5=>?_;refine eT (K:=K) (d:=pcD p) (gv (k:=0) (ds:=[pcD p]) (eQ (RC.as (wu (aT (k:=1) (s1.ld h1)) (by rw [List.length_map];omega) (zm p.nm) rfl (λG j c v sG hc hv=>?_)) (m6 laS.ls.nd hp))) ak rfl) λv6 H2 s2 q6=>?_
 ·rw [List.getElem?_map] at hc
  cases hq:ps[j]? with
  | none=>rw [hq] at hc;cases hc
  | some q =>rw [hq] at hc;cases hc;exact ⟨ay (aY (aN (k:=0) (ab (k:=0) (show Dat K G (.tup [.str q.nm,toP q.pt,.tup q.cs]) v from hv)) ak rfl) (ab (k:=1) (sG.dat q4))),ab (k:=0) hv⟩
 have s12:=s1.trans s2;have q6:Dat K H2 (.tup [.str p.nm,toP p.pt,.tup p.cs]) v6:=q6;refine rJ (K:=K) (RE.as (a9 (R:=mS) (d:=fdD (bI p.pt t)) (ae (ab (k:=6) q6) (ae (ab (k:=0) (s12.dat h0)) aA)) ⟨.str p.nm,p.pt,.tup p.cs,t,rfl,okp.ok,okt,by omega,okp.dp,rfl⟩) (by rw [hft];rfl)) λv7 v8 v9 H3 s3 q7 q8 q9=>?_;have s13:=s12.trans s3;refine c6 ⟨bU (by decide),λlc hlc=>?_⟩;have s4:Same H3 (upd H3 lc (.lst [])):=aG hlc _;have s14:=s13.trans s4;obtain ⟨ah,us,rfl,hah,dus⟩:=(s4.dat q7).tupE;obtain ⟨aw,ws,rfl,haw,dws⟩:=((s2.trans (s3.trans s4)).dat q5).tupE;have lu:=dus.length;have lw:=dws.length;rw [List.length_map] at lu;have less:ess.length=g.1.length:=by have:=congrArg List.length hpair;rw [pI hlen,List.length_map] at this;exact this.symm
 have hlcn:H lc=none:=s13.free hlc
 have lle:ess.flatten.length+(bE p).length<=900:=by
  have z:(bR ess g (bE p)).length=ess.flatten.length+(bE p).length:=by unfold bR;rw [List.length_append,List.length_map]
  omega
 have lfl:ess.flatten.length<=900:=by omega
 generalize hG4:upd H3 lc (.lst [])=G4 at s4 s14 hah haw dus dws;have hc4:G4 lc=some (.lst []):=by rw [<- hG4];exact aq
 refine cf ⟨_,rfl,_,rfl,ah,aw,us,ws,rfl,hah,haw,Bj (K:=K) (xs:=us) (ys:=ws) (λi σ G=>∃ (z11 z12:Option V) (zs:List V),σ=[some v0,some v1,some v2,some v3,some v4,some (.ref aw),some v6,some (.ref ah),some v8,some v9,some (.ref lc),z11,z12]/\Same H3 G/\SqT K G ah us/\SqT K G aw ws/\Dats K G (g.1.map toD) us/\Dats K G cv ws/\G lc=some (.lst zs)/\Dats K G (ess.take i).flatten zs) (by omega) ?_ (λi σ G _ ⟨_,_,_,_,_,p1,p2,_⟩=>⟨p1,p2⟩) ?_ ?_⟩
 ·exact ⟨none,none,[],rfl,s4,hah,haw,dus,dws,hc4,by rw [List.take_zero];exact Dats.nil⟩
 ·rintro i u w pp σ G hu hw hpp ⟨z11,z12,zs,rfl,sG,hahG,hawG,duG,dwG,hcG,dz⟩;have sn:Same G (upd G pp (.tup [u,w])):=aG hpp _;obtain ⟨du,edu,hdu⟩:=duG.getV hu;obtain ⟨dw,edw,hdw⟩:=dwG.getV hw;rw [List.getElem?_map] at edu
  cases hq:g.1[i]? with
  | none=>rw [hq] at edu;cases edu
  | some x =>
   rw [hq] at edu;cases edu;have hix:i < ess.length:=by rw [less];exact (List.getElem?_eq_some_iff.mp hq).1
   have hx:ess[i]?=some ess[i]:=List.getElem?_eq_getElem hix;have lz:=sJ lfl hx;have hlx:bK ps n x dw=some ess[i]:=(pG hq edw (by rw [hpair,List.getElem?_map,hx];rfl)).symm;have tail:=ig okp.nh hft x (List.mem_of_getElem? hq);have dsm:=fh tail;refine ⟨pp,_,rfl,SqT.of aq,rfl,_,_,rfl,_,_,rfl,rfl,?_⟩;dsimp only;have sHG:=s13.trans (sG.trans sn);have lzs:=dz.length;refine Cg (K:=K) (d5 (R:=iX n) (cZ (ab (k:=11) (sn.dat hdu)) (dI (aT (k:=1) (sHG.ld h1)) (cZ (ab (k:=12) (sn.dat hdw)) (dI (aT (k:=3) (sHG.ld h3)) bS)))) ⟨ps,x,dw,rfl,okS,laS,dW t x okt (fP tail),by omega,by omega,by omega,hlx⟩) (sn _ _ hcG) (by omega) λys G2 b2 hc2 dy=>?_;have g2:dH K (upd G pp (.tup [u,w])) G2:=b2.grow (sn _ _ hcG) hc2;refine ⟨_,_,zs++ys,rfl,λa o ha=>b2 a o (aB ha hlc) ((sG.trans sn) _ _ ha),g2.tup _ _ (sn.sqT hahG),g2.tup _ _ (sn.sqT hawG),Dats.mono g2 _ (sn.dats duG),Dats.mono g2 _ (sn.dats dwG),hc2,?_⟩;rw [List.take_add_one,hx,List.flatten_append];simp only [Option.toList_some,List.flatten_cons,List.flatten_nil,List.append_nil];exact Dats.append (Dats.mono g2 _ (sn.dats dz)) dy
 ·rintro σ G ⟨z11,z12,zs,rfl,sG,hahG,hawG,duG,dwG,hcG,dz⟩;rw [<- lu,<- less,List.take_length] at dz;dsimp only;have sHG:=s13.trans sG
  have q6G:Dat K G (.tup [.str p.nm,toP p.pt,.tup ((bE p).map clD)]) v6:=by have z:=(s3.trans sG).dat q6;rw [hcl.eq] at z;exact z
  obtain ⟨g1,g2⟩:=ki _ _ _ hft;have lcl:(bE p).length<=12:=by have:=okp.cs;rw [hcl.eq,List.length_map] at this;exact this
  refine fE (RC.use (K:=K) (es:=bR ess g (bE p)) (dv (aT (k:=10) (LD.of hcG dz)) (eQ (rE (cs:=(bE p).map clD) (aN (k:=2) (ab (k:=6) q6G) ak rfl) (by rw [List.length_map];omega) ((bE p).map λc=>D.int (iM g.2.1 g.2.2 c)) (by rw [List.length_map,List.length_map]) rfl (λG1 j c v d s1 hc hd hv=>?_))) (by rw [List.length_map];omega)) λl3 vs G2 hl3 s2 hw dw=>post l3 vs G2 (sHG.trans s2) hw (sHG.free hl3) dw);rw [List.getElem?_map] at hc hd
  cases hq:(bE p)[j]? with
  | none=>rw [hq] at hc;cases hc
  | some x =>rw [hq] at hc hd;cases hc;cases hd;refine a9 (R:=uh) (ae (ab (k:=0) hv) (ae (ab (k:=1) ((sG.trans s1).dat q8)) (ae (ab (k:=2) ((sG.trans s1).dat q9)) aA))) ⟨x,g.2.1,g.2.2,rfl,?_,rfl⟩;rw [g1,g2];exact hcl.ok x (List.mem_of_getElem? hq)
theorem oT (T:Txt P w K mg) (Jc:Ok P w base k T.Hv (iW K (C6 n))) (IM:Ok P w base k T.Ha (iW K (C5 n))):Ok P w base (k+1) T.FL (iW K (iX (n+1))):=by
 refine T.FL.f.ok sc_laid_cells (λvs H Q E h=>?_) (λcdv A outer s H vs Q E hr h=>?_)
 ·obtain ⟨as,es,hd,⟨ps,t,c,rfl,_⟩,_⟩:=h;exact hd.length.symm
 have nd:=sc_laid_cells.nd;obtain ⟨as,es,hd,⟨ps,t,c,rfl,okS,laS,okt,dpt,n8,szt,hlay⟩,post⟩:=h;obtain ⟨v0,v1,v2,v3,rfl,h0,h1,h2,h3⟩:=AW hd;have h0:Dat K H (toD t) v0:=h0;have h1:LD K H (ps.map pcD) v1:=h1;have h2:Dat K H c v2:=h2;have h3:LD K H [] v3:=h3;have l900:es.length<=900:=by have:=fZ okS.ok (n+1) t c es hlay;omega
 refine ⟨_,(ao (a7 (aC bz (aI aK (pv 0) aj) aE (aJ _)) (ao (bo (i:=4) nd rfl (Or.inl rfl) (aI bf (pv 3) (aI aK (pv 0) aj)))
 (au (aF (bh (ag (bL (v:=.int 15) rfl T.Ii ⟨_,rfl⟩) (ag (ba dD (pv 4) aj) (ag (ba iE (pv 4) aj) af))))))) aL)
 (ao (a7 (aC bz (aI aK (pv 0) aj) aE (aJ _)) (au (aF (pc (D:=T.Hv) Jc hr (ag (pv 0) (ag (pv 1) (ag (pv 2) (ag (pv 3) af))))))) aL)
 (au (aF (pc (D:=T.Ha) IM hr (ag (pv 0) (ag (pv 1) (ag (pv 2) (ag (pv 3) af))))))))),?_⟩
 obtain ⟨kd,r,ek,hpk,hcall,hkids⟩:=sE t okt;have h0':Dat K H (.tup (.str kd::r)) v0:=by rw [<- ek];exact h0
 refine aH (K:=K) (b:=false) (RT.as (ay (aY (aN (k:=0) (ab (k:=0) h0') ak rfl) az)) (decide_eq_false hcall)) (λc=>nomatch c) (λ_ H1 s1=>?_)
 obtain ⟨nm,cv,rfl⟩:∃ nm cv,c=.tup [.str nm,.tup cv]:=by
  cases e:eV c with
  | none =>have h:(match eV c with | none=>none | some x=>if x.1="pick" then gI (bK ps n) t x.2 else dU (bK ps n) ps t x.1 x.2)=some es:=hlay;rw [e] at h;cases h
  | some x=>exact ⟨x.1,x.2,o7 e⟩
 have hlay:(if nm="pick" then gI (bK ps n) t cv else dU (bK ps n) ps t nm cv)=some es:=hlay;refine aH (K:=K) (b:=ij t) (RT.as (ay (aY (aN (k:=0) (ab (k:=0) (s1.dat h0')) ak rfl) az)) hpk) (λcp H2 s2=>?_) (λcp H2 s2=>?_)
 ·have s12:=s1.trans s2
  have hn:nm="pick":=by
   apply Classical.byContradiction;intro z;rw [if_neg z] at hlay;obtain ⟨p,g,ess,e1,e2,_⟩:=eY hlay
   cases t with
   | pick a b d=>rw [kj (okS.ok p (cK e1).1).nh] at e2;cases e2
   | _=>cases cp
  subst hn;rw [if_pos rfl] at hlay;obtain ⟨a,b,d,ca,cb,cd,xa,xb,xd,rfl,rfl,la,lb,ld,rfl⟩:=eZ hlay;simp only [aS] at dpt;simp only [aR] at szt;exact fE (RC.use (K:=K) (d5 (R:=C6 n) (cZ (ab (k:=0) (s12.dat h0)) (dI (aT (k:=1) (s12.ld h1)) (cZ (ab (k:=2) (s12.dat h2)) (dI (aT (k:=3) (s12.ld h3)) bS)))) ⟨ps,a,b,d,ca,cb,cd,xa,xb,xd,rfl,okS,laS,⟨okt.1,okt.2.1,okt.2.2⟩,⟨by omega,by omega,by omega⟩,by omega,⟨by omega,by omega,by omega⟩,la,lb,ld,l900,rfl⟩) λl ys H3 hl s3 hy dy=>post l ys H3 (s12.trans s3) hy (s12.free hl) dy)
 ·have s12:=s1.trans s2
  have hn:¬ nm="pick":=by intro z;rw [if_pos z] at hlay;obtain ⟨a,b,d,_,_,_,_,_,_,e,_⟩:=eZ hlay;subst e;cases cp
  rw [if_neg hn] at hlay;obtain ⟨p,g,ess,e1,e2,hl,hpair,rfl⟩:=eY hlay;obtain ⟨hp,rfl⟩:=cK e1;exact fE (RC.use (K:=K) (d5 (R:=C5 n) (cZ (ab (k:=0) (s12.dat h0)) (dI (aT (k:=1) (s12.ld h1)) (cZ (ab (k:=2) (s12.dat h2)) (dI (aT (k:=3) (s12.ld h3)) bS)))) ⟨ps,t,p,cv,g,ess,rfl,okS,laS,okt,dpt,n8,szt,hp,e2,hl,hpair,l900,rfl⟩) λl ys H3 hl s3 hy dy=>post l ys H3 (s12.trans s3) hy (s12.free hl) dy)
def uj (as:List Ar) (es:List D):Prop:=∃ (ps:List Pc) (t:Tr) (c:D) (xs:List D),as=[.d (toD t),.l (ps.map pcD),.d c]/\ug ps t/\xf ps/\bK ps 8 t c=some xs/\es=xs++[.int 0]
theorem BI (T:Txt P w K mg) (GR:Ok P w base k T.F4 (spD K oY)) (He:Ok P w base k T.Gk (spA K jV)) (F9:Ok P w base k T.FA (spA K (oJ 8))) (GD:Ok P w base k T.FL (iW K (iX 8))):Ok P w base (k+1) T.IR (iW K uj):=by
 refine T.IR.f.ok sc_laid (λvs H Q E h=>?_) (λcdv A outer s H vs Q E hr h=>?_)
 ·obtain ⟨as,es,hd,⟨ps,t,c,xs,rfl,_⟩,_⟩:=h;exact hd.length.symm
 have nd:=sc_laid.nd;obtain ⟨as,es,hd,⟨ps,t,c,xs,rfl,gi,la,hl,rfl⟩,post⟩:=h;obtain ⟨v0,v1,v2,rfl,h0,h1,h2⟩:=rX hd;have h0:Dat K H (toD t) v0:=h0;have h1:LD K H (ps.map pcD) v1:=h1;have h2:Dat K H c v2:=h2;refine ⟨_,(ao (bu (pc (D:=T.F4) GR hr (ag (pv 0) af)))
 (ao (bu (pc (D:=T.Gk) He hr (ag (pv 1) af)))
 (ao (a7 (bP (bg (pc (D:=T.FA) F9 hr (ag (pv 0) (ag (pv 1) (ag (pv 2) af)))) (λ_=>rfl))) (au ir) aL)
 (au (aF (ba dt (pc (D:=T.FL) GD hr (ag (pv 0) (ag (pv 1) (ag (pv 2) (ag (bh af) af))))) (bh (ag (bL (v:=.int 0) rfl T.IH ⟨_,rfl⟩) af)))))))),?_⟩
 refine lP (RE.use (a9 (R:=oY) (d:=.non) (ae (ab (K:=K) (k:=0) h0) aA) ⟨toD t,rfl,rR gi.ot gi.dp gi.sz,rfl⟩) λv4 H1 s1 _=>?_);refine lP (RE.use (dE (R:=jV) (d:=.non) (dI (aT (K:=K) (k:=1) (s1.ld h1)) bS) ⟨ps,rfl,gi.gs,rfl⟩) λv5 H2 s2 _=>?_);have s12:=s1.trans s2;have cov:=qp la.ls.nd gi.os.ok 8 t c;rw [hl] at cov;have l9:=fZ gi.os.ok 8 t c xs hl;refine aH (K:=K) (b:=false) (RT.as (bj (aW (dE (R:=oJ 8) (cZ (ab (k:=0) (s12.dat h0)) (dI (aT (k:=1) (s12.ld h1)) (cZ (ab (k:=2) (s12.dat h2)) bS))) ⟨ps,t,c,rfl,gi.os,gi.ot,gi.dp,by decide,rfl⟩))) (by rw [cov];rfl)) (λc=>nomatch c) (λ_ H3 s3=>?_);have s13:=s12.trans s3;exact fE (RC.use (K:=K) (dv (eQ (d5 (R:=iX 8) (cZ (ab (k:=0) (s13.dat h0)) (dI (aT (k:=1) (s13.ld h1)) (cZ (ab (k:=2) (s13.dat h2)) (dI (eQ (eK aA)) bS)))) ⟨ps,t,c,rfl,gi.os,la,gi.ot,gi.dp,by decide,gi.sz,hl⟩)) (eQ (eK (ae ak aA))) (by have:=gi.sz;show xs.length+1<=1000;omega)) λl ys H4 hl4 s4 hy dy=>post l ys H4 (s13.trans s4) hy (s13.free hl4) dy)
theorem pH (hf:∀ t c es,f t c=some es->∃ ns:List Int,es=ns.map D.int):∀ {ts:List Tr} {cs:List D} {ess:List (List D)},cW f ts cs=ess.map some->∃ ns:List Int,ess.flatten=ns.map D.int
 | [],cs,ess,h=>by
  have:ess=[]:=by cases ess with | nil=>rfl | cons _ _=>cases h
  subst this;exact ⟨[],rfl⟩
 | t::ts,[],ess,h=>by
  have:ess=[]:=by cases ess with | nil=>rfl | cons _ _=>cases h
  subst this;exact ⟨[],rfl⟩
 | t::ts,c::cs,ess,h=>by
  cases ess with
  | nil=>cases h
  | cons x ess =>have h':f t c::cW f ts cs=some x::ess.map some:=h;injection h' with h1 h2;obtain ⟨n1,e1⟩:=hf t c x h1;obtain ⟨n2,e2⟩:=pH hf h2;exact ⟨n1++n2,by rw [List.flatten_cons,e1,e2,List.map_append]⟩
theorem i6:∀ (n:Nat) (t:Tr) (c:D) (es:List D),bK ps n t c=some es->∃ ns:List Int,es=ns.map D.int
 | 0,_,_,_,h=>by cases h
 | n+1,t,c,es,h=>by
  have h:(match eV c with | none=>none | some x=>if x.1="pick" then gI (bK ps n) t x.2 else dU (bK ps n) ps t x.1 x.2)=some es:=h
  cases ec:eV c with
  | none=>rw [ec] at h;cases h
  | some x =>
   rw [ec] at h;dsimp only at h;by_cases hp:x.1="pick"
   ·rw [if_pos hp] at h;obtain ⟨a,b,d,ca,cb,cd,xa,xb,xd,rfl,_,la,lb,ld,rfl⟩:=eZ h;obtain ⟨n1,e1⟩:=i6 n a ca xa la;obtain ⟨n2,e2⟩:=i6 n b cb xb lb;obtain ⟨n3,e3⟩:=i6 n d cd xd ld;rw [mh,e1,e2,e3];refine ⟨n1++cM 10 11 (((n2.map D.int).length:Int)+fz ((n3.map D.int).length:Int))++n2++cM 8 9 ((n3.map D.int).length:Int)++n3,?_⟩;simp only [List.map_append]
   ·rw [if_neg hp] at h;obtain ⟨p,g,ess,e1,e2,hl,e,rfl⟩:=eY h;obtain ⟨ns,en⟩:=pH (i6 n) e;unfold bR;rw [en];exact ⟨ns++(bE p).map (iM g.2.1 g.2.2),by rw [List.map_append,List.map_map];rfl⟩
variable {tl:TE}
theorem B1 {mk:L2.St->L2.St} (h:tl σ H λx H1=>∃ a,x=.ref a/\(∃ xs,SqT K H1 a xs)/\∀ D,H1 D=none->∃ W:Nat->Nat->L2.St->Hp->Prop,(∃ m,W 0 m (mk σ) (upd H1 D (.lst [])))/\∀ i m σ' H',W i m σ' H' ->
   ((Itt K a).stop i H'/\Q (.ref D) H')\/((Itt K a).go i H'/\∃ Nx:L2.St->Hp->Prop,(∀ σ'' H'',Nx σ'' H''->∃ m',m' < m/\W (i+1) m' σ'' H'')/\∀ x H'',(Itt K a).yld i H' x H''->g x σ' H'' λσ2 H2=>tt σ2 H2 λb H3 =>
    if b=true then te σ2 H3 λv H4=>∃ ys,H4 D=some (.lst ys)/\ys.length < sizeLine/\Nx σ2 (upd H4 D (.lst (ys++[v]))) else Nx σ2 H3)):fK (yT K tl) mk g tt te σ H Q:=h
theorem uP {g:Tr->D->Bool} {c:D} (h:ts.length=cs.length):gK g (ts++[x]) (cs++[c])=gK g ts cs++[g x c]:=by unfold gK;rw [List.zip_append h,List.map_append];rfl
theorem CG:∀ {ps:List Pc},(ps.map (·.nm)).Nodup->∀ p ∈ ps,∀ q ∈ ps,p.nm=q.nm->p=q
 | [],_,p,hp,_,_,_=>by cases hp
 | x::ps,nd,p,hp,q,hq,e=>by
  rw [List.map_cons,List.nodup_cons] at nd;rcases List.mem_cons.mp hp with e1 | h1
  ·rcases List.mem_cons.mp hq with e2 | h2
   ·rw [e1,e2]
   ·exact absurd (List.mem_map.mpr ⟨q,h2,by rw [<- e,e1]⟩) nd.1
  ·rcases List.mem_cons.mp hq with e2 | h2
   ·exact absurd (List.mem_map.mpr ⟨p,h1,by rw [e,e2]⟩) nd.1
   ·exact CG nd.2 p h1 q h2 e
def Wof (ps:List Pc) (X:Tr) (nm:Str) (ts:List Tr):Prop:=∃ p f,p ∈ ps/\p.nm=nm/\bI p.pt X=some f/\f.1=ts
variable {X:Tr}
theorem yz (cp:ij X=true) (hl:cs.length=(bQ X).length) (h:(gK (fw ps n) (bQ X) cs).all id=true):fw ps (n+1) X (.tup [.str "pick",.tup cs])=true:=by
 show (match (d8 ps X).find? (λw=>decide (w.nm=("pick":Str))) with | none=>false | some w=>h8 (fw ps n) w.ts cs)=true;have e:d8 ps X=[⟨"pick",[],bQ X⟩]:=by unfold d8;rw [if_pos cp]
 rw [e,List.find?_cons,decide_eq_true rfl];show h8 (fw ps n) (bQ X) cs=true;unfold h8;rw [h,decide_eq_true hl.symm];rfl
theorem A5 (cp:ij X=false) (nd:(ps.map (·.nm)).Nodup) (wo:Wof ps X nm ts) (hl:cs.length=ts.length) (h:(gK (fw ps n) ts cs).all id=true):fw ps (n+1) X (.tup [.str nm,.tup cs])=true:=by
 obtain ⟨p,f,hp,rfl,hf,rfl⟩:=wo;show (match (d8 ps X).find? (λw=>decide (w.nm=p.nm)) with | none=>false | some w=>h8 (fw ps n) w.ts cs)=true
 have e:gw p.nm ps=some p:=by
  cases e:gw p.nm ps with
  | none=>exact absurd rfl (m7 e p hp)
  | some q=>obtain ⟨hq,en⟩:=cK e;rw [CG nd q hq p hp en]
 have e2:gT X p=some ⟨p.nm,p.cs,f.1⟩:=by unfold gT;rw [hf];rfl
 rw [ue cp nd,e,Option.bind_some,e2];show h8 (fw ps n) f.1 cs=true;unfold h8;rw [h,decide_eq_true hl.symm];rfl
def shC:Nat->D->Prop
 | 0,_=>False
 | n+1,c=>∃ nm cs,c=.tup [.str nm,.tup cs]/\cs.length<=8/\∀ x ∈ cs,shC n x
abbrev vk (p q:Int) (rest:List V):HO:=.lst (.int p::.int q::rest)
variable {H':Hp} {zs zs':List V}
theorem LD.but {K:W.Frag} {t:Addr} (h:LD K H ds v) (n:v≠.ref t) (e:But t H H') (h1:H t=some (.lst zs)) (h2:H' t=some (.lst zs')):LD K H' ds v:=by obtain ⟨a,vs,rfl,ha,hd⟩:=h;have na:a≠t:=λz=>n (by rw [z]);exact ⟨a,vs,rfl,ha.elim (λz=>.inl (e _ _ na z)) .inr,Dats.mono (e.grow h1 h2) _ hd⟩
def tV (K:W.Frag) (n:Nat):Sp:=λvs H Q _=>∃ (a t:Addr) (ns:List Int) (X:Tr) (v2 v3:V) (ps:List Pc) (p q:Int) (rest:List V),vs=[.ref a,.ref t,v2,v3]/\Scr K H a ns/\H t=some (vk p q rest)/\0<=p/\gY ps/\((∀ p ∈ BP,p ∈ ps)/\(ps.map (·.nm)).Nodup)/\okT X/\aS X<=n/\n<=8/\Dat K H (toD X) v2/\LD K H (ps.map pcD) v3/\v3≠.ref t /\
 ∀ (v:V) (H':Hp) (c:D) (p' q':Int),But t H H'->H' t=some (vk p' q' rest)->0<=p'->(shC n c/\fw ps n X c=true)->Dat K H' c v->Q v H'
theorem BA (vs:List V) (H:Hp) (Q:VK) (E:XK):¬ tV K 0 vs H Q E:=λ⟨a,t,ns,X,v2,v3,ps,p,q,rest,_,_,_,_,_,_,_,h,_⟩=>by
 have:1<=aS X:=by cases X <;> simp [aS]
 omega
variable {H1:Hp}
theorem pe {K:PySem.W.Frag} {J:It} {us:List V} {σ0:L2.St} {t:Addr} {rest:List V} {p q:Int} {Q:Hp->Prop} {g:Tr->D->Bool} (Ok:Hp->Prop)
  (go:∀ i G,Ok G->i < us.length->J.go i G/\∀ x G',J.yld i G x G'->G'=G/\x=us.getD i .non) (stop:∀ G,Ok G->J.stop us.length G) (h0:σ0.set j none=σ0) (hl:H1 l=none) (hT:H1 t=some (vk p q rest)) (hp:0<=p) (lu:ts.length=us.length) (l8:ts.length<=8)
  (keep:∀ G,But t H1 G->Ok G)
  (turn:∀ (i:Nat) (x:Tr) (G:Hp) (p' q':Int) (R:VK),ts[i]?=some x->But t H1 G->G t=some (vk p' q' rest)->0<=p'->(∀ v G' c p'' q'',But t G G'->G' t=some (vk p'' q'' rest)->0<=p''->(shC n c/\g x c=true)->Dat K G' c v->R v G')->te (σ0.set j (some (us.getD i .non))) G R)
  (fin:∀ cs zs G p' q',But t H1 G->G t=some (vk p' q' rest)->0<=p'->G l=some (.lst zs)->Dats K G cs zs->cs.length=ts.length->((∀ c ∈ cs,shC n c)/\(gK g ts cs).all id=true)->Q G) :
  ∃ W:Nat->Nat->L2.St->Hp->Prop,(∃ m,W 0 m σ0 (upd H1 l (.lst [])))/\∀ i m σ' H',W i m σ' H' ->
   (J.stop i H'/\Q H') \/
   (J.go i H'/\∃ Nx:L2.St->Hp->Prop,(∀ σ'' H'',Nx σ'' H''->∃ m',m' < m/\W (i+1) m' σ'' H'')/\∀ x H'',J.yld i H' x H''->bX j x σ' H'' λσ2 H2=>dS σ2 H2 λb H3 =>
    if b=true then te σ2 H3 λv H4=>∃ ys,H4 l=some (.lst ys)/\ys.length < sizeLine/\Nx σ2 (upd H4 l (.lst (ys++[v]))) else Nx σ2 H3):=by
 have nlt:l≠t:=Ne.symm (aB hT hl);refine i0 (tt:=dS) (Q:=λ_ G=>Q G) Ok go stop h0 l (λi G=>∃ (cs:List D) (zs:List V) (p' q':Int),But t H1 G/\G t=some (vk p' q' rest)/\0<=p'/\G l=some (.lst zs)/\Dats K G cs zs/\cs.length=i/\(∀ c ∈ cs,shC n c)/\(gK g (ts.take i) cs).all id=true) ?_ (λi G _ ⟨_,_,_,_,b,_⟩=>keep G b) (λi G hi pn=>?_) (λG pn=>?_)
 ·exact ⟨[],[],p,q,(aG hl _).but,by rw [aO (Ne.symm nlt)];exact hT,hp,aq,Dats.nil,rfl,(λc hc=>by cases hc),by rw [List.take_zero];rfl⟩
 ·obtain ⟨cs,zs,p',q',bG,tG,gp,hlG,dG,lcs,hcs,hcp⟩:=pn;have hi':i < ts.length:=by omega
  simp only [dS,if_true];refine (turn i ts[i] G p' q' _ (List.getElem?_eq_getElem hi') bG tG gp λv G2 c p2 q2 b2 t2 g2 hc dc=>?_);have hl2:=b2 _ _ nlt hlG;have g12:dH K G G2:=b2.grow tG t2;have lz:=dG.length;have b3:But l G2 (upd G2 l (.lst (zs++[v]))):=But.upd (Same.refl _).but;have g23:dH K G2 (upd G2 l (.lst (zs++[v]))):=b3.grow hl2 aq;refine ⟨zs,hl2,bx (by omega),⟨_,rfl⟩,cs++[c],zs++[v],p2,q2,λb o nb hb=>b3 b o (aB hb hl) (b2 b o nb (bG b o nb hb)),b3 _ _ (Ne.symm nlt) t2,g2,aq,Dats.append (Dats.mono g23 _ (Dats.mono g12 _ dG)) (Dats.cons (Dat.mono g23 _ dc) Dats.nil),by rw [List.length_append,lcs];rfl,(λx hx=>?_),?_⟩
  ·rcases List.mem_append.mp hx with hx | hx
   ·exact hcs x hx
   ·rw [List.mem_singleton.mp hx];exact hc.1
  ·rw [List.take_add_one,List.getElem?_eq_getElem hi',Option.toList_some,uP (by rw [List.length_take];omega),List.all_append,hcp];simp only [List.all_cons,List.all_nil,id,hc.2,Bool.and_true]
 ·obtain ⟨cs,zs,p',q',bG,tG,gp,hlG,dG,lcs,hcs,hcp⟩:=pn;exact fin cs zs G p' q' bG tG gp hlG dG (by omega) ⟨hcs,by rw [List.take_of_length_le (by omega)] at hcp;exact hcp⟩
theorem yh (h:okT X) (hp:ij X=false):∃ p ∈ BP,∃ f,bI p.pt X=some f:=by
 cases X with
 | num n =>refine ⟨⟨"two",.gap 0 9999,[.int 2,.tup [.str "low",.int 0],.tup [.str "high",.int 0]]⟩,by simp [BP],([],[n],[]),?_⟩;show (if n<=9999 then _ else _)=_;rw [if_pos h.2]
 | arg k=>exact ⟨⟨"slot",.slot 0,[.int 3,.tup [.str "arg",.int 0]]⟩,by simp [BP],([],[],[k]),rfl⟩
 | two o a b =>obtain ⟨c,hc⟩:=zD h.1;exact ⟨_,hc,_,Ds o a b⟩
 | pick a b c=>cases hp
def WayL (K:W.Frag) (ps:List Pc) (G:Hp) (X:Tr) (lw t:Addr) (v:V):Prop:=∃ (pa l:Addr) (nm:Str) (ts:List Tr),v=.ref pa/\SqT K G pa [.str nm,.ref l]/\LD K G (ts.map toD) (.ref l)/\l≠lw/\l≠t/\(∀ x ∈ ts,x ∈ (bQ X).flatMap aV)/\ts.length<=8/\Wof ps X nm ts
variable {lw:Addr}
theorem WayL.same {K:W.Frag} {t:Addr} (h:WayL K ps G X lw t v) (s:Same G G'):WayL K ps G' X lw t v:=by obtain ⟨pa,l,nm,ts,e,h1,h2,r⟩:=h;exact ⟨pa,l,nm,ts,e,s.sqT h1,s.ld h2,r⟩
theorem WayL.but {K:W.Frag} {t x:Addr} (h:WayL K ps G X lw t v) (hx:x=lw\/x=t) (e:But x G G') (h1:G x=some (.lst zs)) (h2:G' x=some (.lst zs')):WayL K ps G' X lw t v:=by
 obtain ⟨pa,l,nm,ts,ev,k1,k2,n1,n2,r⟩:=h;refine ⟨pa,l,nm,ts,ev,e.sqT h1 k1,LD.but k2 (λz=>?_) e h1 h2,n1,n2,r⟩;have z:l=x:=by injection z
 rcases hx with rfl | rfl
 ·exact n1 z
 ·exact n2 z
theorem sT (T:Txt P w K mg) (HA:Ok P w base k T.Gh (tV K n)) (GI:Ok P w base k T.FZ (jv K oL 3)) (F2:Ok P w base k T.FI (oB K)):Ok P w base (k+1) T.Gh (tV K (n+1)):=by
 refine T.Gh.f.ok sc__law_any (λvs H Q E h=>?_) (λcdv A outer s H vs Q E hr h=>?_)
 ·obtain ⟨a,t,ns,X,v2,v3,ps,p,q,rest,rfl,_⟩:=h;rfl
 have nd:=sc__law_any.nd;obtain ⟨a,t,ns,X,v2,v3,ps,p,q,rest,rfl,hS,hT,hp,okS,hBP,okX,dpX,n8,h2,h3,n3,post⟩:=h;refine ⟨_,(ao (a7 (aC bz (aI aK (pv 2) aj) aE (aJ _)) (au (aF (aU (ag aE (ag (cI bV rfl T.FT cg (ag (cq (own:=["_law_one"]) (fr:=[0,1,3]) (N':=["_law_one","_law_script","_law_town","_law_some"]) (iF (gN lS (pv 2) (gA aj) kD)) rfl (by show bW ["_law_script","_law_town","_law_tree_here","_law_some","_law_ways","_law_piece","_law_found","_law_name","_law_holes"] (λx=>(aD iK).names.lookup x) _ _ _ _=true;decide +kernel) rfl (λ_ _ _ _ _=>(aQ (i:=0) (by show List.Nodup [("_law_one":Str),("_law_script":Str),("_law_town":Str),("_law_some":Str)];decide +kernel) rfl (Or.inl rfl))) (λ_ _ _ _ _=>bN) (λ_ _ _ _ _=>(pc (D:=T.Gh) HA hr (ag (pv 1) (ag (pv 2) (ag (pv 0) (ag (pv 3) af))))))) af)) af))))) aL)
 (ao (bo (i:=4) nd rfl (Or.inl rfl) (bh af))
 (ao (gu PassesOwn.never rfl (dO (pv 3)) (aQ (i:=5) nd rfl (Or.inl rfl)) (ao (bo (i:=6) nd rfl (Or.inl rfl) (bh (ag (bh af) (ag (bh af) (ag (bh af) af)))))
 (au (a7 (bg (pc (D:=T.FZ) GI hr (ag (aI aK (pv 5) aj) (ag (pv 2) (ag (pv 6) af)))) (λ_=>rfl)) (au (bu (dk F.plainAttrs_list F.slot_list_append F.type_list_append br (pv 4) (ag (aU (ag (aI aK (pv 5) aj) (ag (aI bf (pv 6) aj) af))) af)))) aL))))
 (ao (fC (pc (D:=T.FI) F2 hr (ag (pv 0) (ag (pv 1) (ag (pv 4) af)))) (fe rfl (a8 (aQ (i:=7) nd rfl (Or.inl rfl)) (a8 (aQ (i:=8) nd rfl (Or.inl rfl)) cu))))
 (au (aF (aU (ag (pv 7) (ag (cI bV rfl T.FT cg (ag (cq (own:=["_law_one"]) (fr:=[0,1,3]) (N':=["_law_one","_law_script","_law_town","_law_some"]) (dO (pv 8)) rfl (by show bW ["_law_script","_law_town","_law_tree_here","_law_some","_law_ways","_law_piece","_law_found","_law_name","_law_holes"] (λx=>(aD iK).names.lookup x) _ _ _ _=true;decide +kernel) rfl (λ_ _ _ _ _=>(aQ (i:=0) (by show List.Nodup [("_law_one":Str),("_law_script":Str),("_law_town":Str),("_law_some":Str)];decide +kernel) rfl (Or.inl rfl))) (λ_ _ _ _ _=>bN) (λ_ _ _ _ _=>(pc (D:=T.Gh) HA hr (ag (pv 1) (ag (pv 2) (ag (pv 0) (ag (pv 3) af))))))) af)) af))))))))),?_⟩
 obtain ⟨kd,r,ek,hpk,hcall,hkids⟩:=sE X okX;have h2':Dat K H (.tup (.str kd::r)) v2:=by rw [<- ek];exact h2
 refine aH (K:=K) (b:=ij X) (RT.as (ay (aY (aN (k:=0) (ab (k:=2) h2') ak rfl) az)) hpk) (λcp H1 s1=>?_) (λcp H1 s1=>?_)
 ·have er:=hkids cp;subst er;refine fE (wt (cx (wD (cx (f7 (B1 (K:=K) (RE.use (K:=K) (iu (ab (k:=2) (s1.dat h2'))) λvx H2 s2 qx=>?_)))))));obtain ⟨ax,us,rfl,hax,dus⟩:=qx.tupE;have lu:=dus.length;rw [List.length_map] at lu;have s12:=s1.trans s2;have hT2:=s12 _ _ hT
  have l3:(bQ X).length<=8:=by
   cases X with
   | pick a b c=>exact by simp [bQ]
   | _=>cases cp
  refine ⟨ax,rfl,⟨us,hax⟩,λl hl=>pe (K:=K) (n:=n) (g:=fw ps n) (ts:=bQ X) (us:=us) (λG=>SqT K G ax us) (λi G o hi=>yM i G o hi) (λG o=>⟨us,o,Nat.le_refl _⟩) rfl hl hT2 hp lu l3 (λG b=>b.sqT hT2 hax) (λi x G p' q' R hx bG tG gp hR=>?_) (λcs zs G p' q' bG tG gp hlG dG lcs hcs=>?_)⟩
  ·have hil:i < us.length:=by rw [<- lu];exact (List.getElem?_eq_some_iff.mp hx).1
   have hu:us[i]?=some us[i]:=List.getElem?_eq_getElem hil;have hui:us.getD i .non=us[i]:=by rw [List.getD_eq_getElem?_getD,hu];rfl
   have gG:dH K H2 G:=bG.grow hT2 tG;obtain ⟨dx,edx,hdx⟩:=(Dats.mono gG _ dus).getV hu;rw [List.getElem?_map,hx] at edx;cases edx;rw [hui];have ks:=pF (List.mem_of_getElem? hx);have okx:=dW X x okX (fP (List.mem_flatMap.mpr ⟨x,List.mem_of_getElem? hx,pS x⟩));refine hE ⟨_,rfl,_,rfl,_,rfl,_,rfl,a,t,ns,x,_,_,ps,p',q',rest,rfl,(hS.same s12).but bG hT2,tG,gp,okS,hBP,okx,by omega,by omega,hdx,LD.but (s12.ld h3) n3 bG hT2 tG,n3,hR⟩
  ·refine ⟨l,zs,rfl,.inl ⟨SqL.of hlG,λpt hpt=>⟨bU (by simp),λpu hpu=>?_⟩⟩⟩;have sa:Same G (upd G pt (.tup zs)):=aG hpt _;have sb:=aG hpu (.tup [.str "pick",.ref pt]);refine post _ _ (.tup [.str "pick",.tup cs]) p' q' (((s12.but.trans bG).trans sa.but).trans sb.but) (sb _ _ (sa _ _ tG)) gp ⟨⟨"pick",cs,rfl,by omega,hcs.1⟩,yz cp lcs hcs.2⟩ ?_;exact Dat.tupI (SqT.of aq) (Dats.cons (Dat.strI _) (Dats.cons (sb.dat (Dat.tupI (SqT.of aq) (sa.dats dG))) Dats.nil))
 ·obtain ⟨av,vs,rfl,hav,dvs⟩:=h3;have lv:=dvs.length;rw [List.length_map] at lv;refine c6 ⟨bU (by decide),λlw hlw=>?_⟩;have s2:Same H1 (upd H1 lw (.lst [])):=aG hlw _;have s12:=s1.trans s2;have hwn:H lw=none:=s1.free hlw;have nwt:lw≠t:=Ne.symm (aB hT hwn);refine cf ⟨_,rfl,av,rfl,⟨vs,(s12.aLst hav).sqL⟩,i5 (xs:=vs) (λi σ G=>∃ (z5 z6:Option V) (ys:List V),σ=[some (.ref a),some (.ref t),some v2,some (.ref av),some (.ref lw),z5,z6,none,none]/\Same H G/\G lw=some (.lst ys)/\ys.length<=i/\(∀ v ∈ ys,WayL K ps G X lw t v)/\((∃ p ∈ ps.take i,∃ f,bI p.pt X=some f)->0 < ys.length)) ?_ (λi σ G _ ⟨_,_,_,_,p,_⟩=>(p.aLst hav).sqL) ?_ ?_⟩
  ·exact ⟨none,none,[],rfl,s12,aq,Nat.le_refl _,(λv hv=>by cases hv),(λ⟨p,hp,_⟩=>by simp at hp)⟩
  ·rintro i vx σ G hi ⟨z5,z6,ys,rfl,sG,hwG,lys,hys,hne⟩;obtain ⟨dx,ex,hx⟩:=(sG.dats dvs).getV hi;rw [List.getElem?_map] at ex
   cases hpi:ps[i]? with
   | none=>rw [hpi] at ex;cases ex
   | some pi =>
    rw [hpi] at ex;cases ex;have okp:=okS.ok pi (List.mem_of_getElem? hpi);have few:=okS.few;have hil:i < vs.length:=(List.getElem?_eq_some_iff.mp hi).1;have et:ps.take (i+1)=ps.take i++[pi]:=by rw [List.take_add_one,hpi];rfl
    refine iI ?_;dsimp only;refine c6 (zS λf l0 l1 l2 G1 N=>?_);have hx1:Dat K G1 (.tup [.str pi.nm,toP pi.pt,.tup pi.cs]) vx:=N.s.dat hx;have hl0:∀ b o,G b=some o->b≠l0:=λb o hb=>aB hb N.f0;refine CM (K:=K) (j:=6) N okp.ok okX (by omega) okp.dp (aN (k:=1) (ab (k:=5) hx1) ak rfl) (ab (k:=2) ((sG.trans N.s).dat h2)) λG2 s2 full=>?_;have hwG2:=s2 _ _ hwG
    cases hft:bI pi.pt X with
    | none =>
     refine ⟨_,rfl,ik (jG ⟨_,_,ys,rfl,sG.trans s2,hwG2,by omega,λv hv=>(hys v hv).same s2,λ⟨q,hq,g,hg⟩=>?_⟩)⟩;rw [et] at hq;rcases List.mem_append.mp hq with hq | hq
     ·exact hne ⟨q,hq,g,hg⟩
     ·rw [List.mem_singleton.mp hq,hft] at hg;cases hg
    | some fd =>
     have F3:=full fd hft;refine ⟨_,rfl,gU ?_⟩;refine ⟨_,rfl,.inl ⟨rfl,_,SqL.of hwG2⟩,?_⟩;refine cx (wt (cx (RE.use (K:=K) (d:=.str pi.nm) (aN (k:=0) (ab (k:=5) (s2.dat hx)) ak rfl) λwn G3 s3 qn=>cx ?_)));have en:=qn.strE;subst en;refine ⟨_,rfl,f,_,0,.ref l0,rfl,rfl,SqL.of (s3 _ _ F3.hf),rfl,?_⟩;refine ⟨bU (by simp),λpa hpa=>?_⟩;have s4:Same G3 (upd G3 pa (.tup [.str pi.nm,.ref l0])):=aG hpa _;have s24:=s3.trans s4;have hw4:=s24 _ _ hwG2;refine ⟨lw,ys,_,rfl,rfl,hw4,bx (by omega),?_⟩;have b5:But lw (upd G3 pa (.tup [.str pi.nm,.ref l0])) (upd (upd G3 pa (.tup [.str pi.nm,.ref l0])) lw (.lst (ys++[.ref pa]))):=But.upd (Same.refl _).but;refine ⟨_,_,ys++[.ref pa],rfl,λb o hb=>b5 b o (aB hb hwn) ((s2.trans s24) _ _ (sG _ _ hb)),aq,by rw [List.length_append];simp;omega,λv hv=>?_,λ_=>by rw [List.length_append];simp⟩;rcases List.mem_append.mp hv with hv | hv
     ·exact ((hys v hv).same (s2.trans s24)).but (.inl rfl) b5 hw4 aq
     ·rw [List.mem_singleton.mp hv]
      have few8:fd.1.length<=8:=by have hw:=vt (ps:=ps) (List.mem_of_getElem? hpi) cp hft;exact (rS okS.ok hw).1
      exact WayL.but (x:=lw) ⟨pa,l0,pi.nm,fd.1,rfl,SqT.of aq,s24.ld F3.h0,Ne.symm (hl0 _ _ hwG),Ne.symm (hl0 _ _ (sG _ _ hT)),ig okp.nh hft,few8,pi,fd,List.mem_of_getElem? hpi,rfl,hft,rfl⟩ (.inl rfl) b5 hw4 aq
  ·rintro σ G ⟨z5,z6,ys,rfl,sG,hwG,lys,hys,hne⟩;dsimp only;have few:=okS.few
   have pos:0 < ys.length:=by obtain ⟨pb,hpb,fb,hfb⟩:=yh okX cp;exact hne ⟨pb,by rw [<- lv,List.take_length];exact hBP.1 pb hpb,fb,hfb⟩
   have hTG:=sG _ _ hT;refine mN (hE ⟨_,rfl,_,rfl,_,rfl,a,t,lw,ns,ys,p,q,rest,rfl,hS.same sG,SqL.of hwG,nwt,pos,by omega,hTG,hp,λi x G2 p2 q2 b2 t2 g2 hx=>?_⟩);obtain ⟨pa,l,nm,ts,rfl,hpa,hl,nlw,nlt,tail,few8⟩:=(hys x (List.mem_of_getElem? hx)).but (.inr rfl) b2 hTG t2;refine ⟨pa,_,rfl,hpa,rfl,_,_,rfl,_,_,rfl,rfl,?_⟩
   try dsimp only
   obtain ⟨al,us,eal,hal,dus⟩:=id hl;have lu:=dus.length;rw [List.length_map] at lu;refine fE (wt (cx ⟨_,rfl,cx (f7 ?_)⟩));have el:l=al:=by injection eal
   subst el;refine ⟨_,rfl,l,rfl,⟨us,hal.sqL⟩,λl4 hl4=>pe (K:=K) (n:=n) (g:=fw ps n) (ts:=ts) (us:=us) (λG=>SqL K G l us) (λi G o hi=>nj i G o hi) (λG o=>⟨us,o,Nat.le_refl _⟩) rfl hl4 t2 g2 lu few8.1 (λG b=>(hal.elim (λz=>.inl (b _ _ nlt z)) .inr:aLst K G l us).sqL) (λi x G3 p' q' R hx bG tG gp hR=>?_) (λcs zs G3 p' q' bG tG gp hlG dG lcs hcs=>?_)⟩
   ·have hil:i < us.length:=by rw [<- lu];exact (List.getElem?_eq_some_iff.mp hx).1
    have hu:us[i]?=some us[i]:=List.getElem?_eq_getElem hil;have hui:us.getD i .non=us[i]:=by rw [List.getD_eq_getElem?_getD,hu];rfl
    have gG:dH K G2 G3:=bG.grow t2 tG;obtain ⟨dx,edx,hdx⟩:=(Dats.mono gG _ dus).getV hu;rw [List.getElem?_map,hx] at edx;cases edx;rw [hui];have ks:=fh (tail x (List.mem_of_getElem? hx));have okx:=dW X x okX (fP (tail x (List.mem_of_getElem? hx)));have h3G:LD K G2 (ps.map pcD) (.ref av):=LD.but (sG.ld (show LD K H (ps.map pcD) (.ref av) from ⟨av,vs,rfl,hav,dvs⟩)) n3 b2 hTG t2;exact hE ⟨_,rfl,_,rfl,_,rfl,_,rfl,a,t,ns,x,_,_,ps,p',q',rest,rfl,((hS.same sG).but b2 hTG).but bG t2,tG,gp,okS,hBP,okx,by omega,by omega,hdx,LD.but h3G n3 bG t2 tG,n3,hR⟩
   ·refine ⟨l4,zs,rfl,.inl ⟨SqL.of hlG,λpt hpt=>⟨bU (by simp),λpu hpu=>?_⟩⟩⟩;have sa:Same G3 (upd G3 pt (.tup zs)):=aG hpt _;have sb:=aG hpu (.tup [.str nm,.ref pt]);refine post _ _ (.tup [.str nm,.tup cs]) p' q' ((((sG.but.trans b2).trans bG).trans sa.but).trans sb.but) (sb _ _ (sa _ _ tG)) gp ⟨⟨nm,cs,rfl,by omega,hcs.1⟩,A5 cp hBP.2 few8.2 lcs hcs.2⟩ ?_;exact Dat.tupI (SqT.of aq) (Dats.cons (Dat.strI _) (Dats.cons (sb.dat (Dat.tupI (SqT.of aq) (sa.dats dG))) Dats.nil))
abbrev LPP:List Pc:=[⟨"inc",.two "add" (.hole 0) (.num 1),[.int 12,.int 1]⟩,⟨"both",.two "add" (.slot 0) (.slot 1),[.int 3,.tup [.str "arg",.int 0],.int 3,.tup [.str "arg",.int 1],.int 4]⟩,⟨"twofold",.two "mul" (.hole 0) (.num 2),[.int 13,.int 4]⟩,⟨"fewer",.two "sub" (.hole 0) (.gap 0 99),[.int 1,.tup [.str "low",.int 0],.int 5]⟩,⟨"addmul",.two "add" (.two "mul" (.hole 0) (.hole 1)) (.gap 0 99),[.int 6,.int 12,.tup [.str "low",.int 0]]⟩,⟨"turned",.two "less" (.gap 0 99) (.hole 0),[.int 1,.tup [.str "low",.int 0],.int 14,.int 7]⟩,⟨"far",.two "add" (.hole 0) (.gap 0 9999),[.int 2,.tup [.str "low",.int 0],.tup [.str "high",.int 0],.int 4]⟩,⟨"pair",.two "sub" (.gap 0 99) (.gap 1 99),[.int 1,.tup [.str "low",.int 0],.int 1,.tup [.str "low",.int 1],.int 5]⟩]
theorem Fc:BP.map pcD=BAS:=rfl
abbrev ALLP:List Pc:=BP++LPP
structure gdP (p:Pc):Prop where
 ok:uG p
 pc:nS (pcD p)=some true/\p.nm.length<=sizeLine
 nl:noL (pcD p)=true/\eO (pcD p)<=19
 cl:Cw p (bE p)
theorem Du:∀ p ∈ ALLP,gdP p:=by intro p hp;simp only [ALLP,BP,LPP,List.cons_append,List.nil_append,List.append_nil,List.mem_cons,List.not_mem_nil,or_false] at hp;rcases hp with rfl | rfl | rfl | rfl | rfl | rfl | rfl | rfl | rfl | rfl | rfl | rfl | rfl | rfl | rfl | rfl <;> exact ⟨⟨by decide +kernel,by simp [uF,okB],by decide,by decide,rfl⟩,⟨by decide +kernel,by decide⟩,⟨by decide +kernel,by decide +kernel⟩,by kernel_rfl,λc hc=>List.all_eq_true.mp (show List.all (bE _) (A4 _ _)=true by decide +kernel) c hc⟩
theorem CY:(ALLP.map (·.nm)).Nodup:=by decide +kernel
structure gdS (ps:List Pc):Prop where
 gs:km ps
 ok:gY ps
 la:xf ps
 hp:∀ p ∈ ps,e8 p.pt=true/\p.nm≠"pick"
 bp:∀ p ∈ BP,p ∈ ps
theorem Bk {sub:List Pc} (h:sub.Sublist LPP):gdS (BP++sub):=by have hs:(BP++sub).Sublist ALLP:=(List.Sublist.refl BP).append h;have nd:=(hs.map (·.nm)).nodup CY;have l8:sub.length<=8:=h.length_le;have g:∀ p ∈ BP++sub,gdP p:=λp hp=>Du p (hs.subset hp);exact ⟨⟨by rw [List.length_append];show 1<=8+sub.length;omega,by rw [List.length_append];show 8+sub.length<=16;omega,λp hp=>(g p hp).pc,nd⟩,⟨λp hp=>(g p hp).ok,by rw [List.length_append];show 8+sub.length<=100;omega⟩,⟨⟨nd,λp hp=>(g p hp).nl⟩,λp hp=>(g p hp).cl⟩,λp hp=>⟨(g p hp).ok.nh,(g p hp).ok.nm⟩,λp hp=>List.mem_append_left _ hp⟩
def CS (K:W.Frag):Sp:=λvs H Q _=>∃ (a t:Addr) (ns:List Int) (p q:Int) (rest:List V),vs=[.ref a,.ref t]/\Scr K H a ns/\H t=some (.lst (.int p::.int q::rest))/\0<=p /\
 ∀ (sub:List Pc) (l:Addr) (ys:List V) (H':Hp) (p' q':Int),But t H H'->H' t=some (.lst (.int p'::.int q'::rest))->0<=p'->sub.Sublist LPP->H l=none->H' l=some (.lst ys)->Dats K H' ((BP++sub).map pcD) ys->Q (.ref l) H'
theorem sX (T:Txt P w K mg) (ID:Ok P w base k T.Gb (hV K λds es=>ds=[]/\es=LPD)) (FV:Ok P w base k T.FD (oA K)):Ok P w base (k+1) T.HE (CS K):=by
 refine T.HE.f.ok sc__law_set (λvs H Q E h=>?_) (λcdv A outer s H vs Q E hr h=>?_)
 ·obtain ⟨a,t,ns,p,q,rest,rfl,_⟩:=h;rfl
 have nd:=sc__law_set.nd;obtain ⟨a,t,ns,p,q,rest,rfl,hS,hT,hp,post⟩:=h;refine ⟨_,(ao (gO (i:=2) (own:=["_law_piece"]) (fr:=[0,1]) (N':=["_law_piece","_law_script","_law_town"]) (dO (tF ID hr rfl T.Gb.m T.Gb.f.kp T.Gb.b .nil zE)) rfl (by show bW ["_law_script","_law_town","_law_more"] (λx=>(aD j0).names.lookup x) _ _ _ _=true;decide +kernel) rfl (λ_ _ _ _ _=>(aQ (i:=0) (by show List.Nodup [("_law_piece":Str),("_law_script":Str),("_law_town":Str)];decide +kernel) rfl (Or.inl rfl))) (λ_ _ _ _ _=>(nT (aC bz (pc (D:=T.FD) FV hr (ag (pv 1) (ag (pv 2) (ag aj af)))) aj (aJ _)))) (λ_ _ _ _ _=>(pv 0)) nd rfl rfl rfl)
 (au (aF (ba dt (bL (v:=.ref T.Iq) rfl T.HM rfl) (pv 2))))),?_⟩
 refine c6 (tP (K:=K) (λr us H1=>Same H H1/\H r=none/\Dats K H1 LPD us) (λR hR=>⟨[],LPD,Dats.nil,⟨rfl,rfl⟩,λr us H1 s1 hr hr0 hd=>hR r us H1 hr ⟨s1,hr0,hd⟩⟩) rfl (λr us H1 l hr hM hl=>?_));obtain ⟨s1,hr0,hd⟩:=hM;have hT1:=s1 _ _ hT;have nrt:r≠t:=Ne.symm (aB hT hr0);have nlt:l≠t:=Ne.symm (aB hT1 hl);have nlr:r≠l:=aB hr hl;have lu:=hd.length;have lu8:us.length=8:=by rw [<- lu];rfl
 refine ⟨
  (λi G=>∃ (sub:List Pc) (ys:List V) (p' q':Int),But t H1 G/\G t=some (.lst (.int p'::.int q'::rest))/\0<=p'/\sub.Sublist (LPP.take i)/\G l=some (.lst ys)/\Dats K G (sub.map pcD) ys/\sub.length<=i),?_,(λi G hi ⟨_,_,_,_,b,_⟩=>SqL.of (b _ _ nrt hr)),(λi G hi pn=>?_),(λG pn=>?_)⟩
 ·exact ⟨[],[],p,q,(aG hl _).but,by rw [aO (Ne.symm nlt)];exact hT1,hp,List.nil_sublist _,aq,Dats.nil,Nat.le_refl _⟩
 ·obtain ⟨sub,ys,p',q',bG,tG,gp,hsub,hlG,dG,lsub⟩:=pn;have ly:=dG.length;rw [List.length_map] at ly;have gG:dH K H1 G:=bG.grow hT1 tG;have hdG:Dats K G LPD us:=Dats.mono gG _ hd;obtain ⟨dx,ex,hx⟩:=hdG.getV (List.getElem?_eq_getElem hi);have hx':(LPP.map pcD)[i]?=some dx:=ex;rw [List.getElem?_map] at hx'
  cases hpp:LPP[i]? with
  | none=>rw [hpp] at hx';cases hx'
  | some pp =>
   rw [hpp] at hx';cases hx';have et:LPP.take (i+1)=LPP.take i++[pp]:=by rw [List.take_add_one,hpp];rfl
   have hitem:us.getD i .non=us[i]:=by rw [List.getD_eq_getElem?_getD,List.getElem?_eq_getElem hi];rfl
   refine ⟨_,rfl,_,rfl,a,t,ns,2,p',q',rest,rfl,hS.but (s1.but.trans bG) hT,tG,gp,by decide,by decide,λr3 G3 p3 q3 b3 t3 g3 r3a r3b=>?_⟩;refine ⟨rfl,_,rfl,?_⟩;have hl3:=b3 _ _ nlt hlG;have g3':dH K G G3:=b3.grow tG t3;refine oO (λc=>?_) (λc=>?_)
   ·refine ⟨_,rfl,ys,hl3,bx (by omega),⟨_,rfl⟩,?_⟩;rw [hitem];have b4:But l G3 (upd G3 l (.lst (ys++[us[i]]))):=But.upd (Same.refl _).but;have g4:dH K G3 (upd G3 l (.lst (ys++[us[i]]))):=b4.grow hl3 aq;refine ⟨sub++[pp],ys++[us[i]],p3,q3,λb o nb hb=>b4 b o (aB hb hl) (b3 b o nb (bG b o nb hb)),b4 _ _ (Ne.symm nlt) t3,g3,?_,aq,?_,?_⟩
    ·rw [et];exact hsub.append (List.Sublist.refl _)
    ·rw [List.map_append];exact Dats.append (Dats.mono g4 _ (Dats.mono g3' _ dG)) (Dats.cons (Dat.mono g4 _ (Dat.mono g3' _ hx)) Dats.nil)
    ·rw [List.length_append];simp;omega
   ·refine ⟨⟨_,rfl⟩,sub,ys,p3,q3,bG.trans b3,t3,g3,?_,hl3,Dats.mono g3' _ dG,by omega⟩;rw [et];exact hsub.trans (List.sublist_append_left _ _)
 ·obtain ⟨sub,ys,p',q',bG,tG,gp,hsub,hlG,dG,lsub⟩:=pn;have hL:LD K G (sub.map pcD) (.ref l):=LD.of hlG dG;have hsub':sub.Sublist LPP:=hsub.trans (List.take_sublist _ _);refine fE (RC.use (K:=K) (dv (Ea T.Jp) (aT (k:=2) hL) (by rw [List.length_map];show 8+sub.length<=1000;omega)) λlz zs G2 hlz s2 hzs dzs=>?_);refine post sub lz zs G2 p' q' ((s1.but.trans bG).trans s2.but) (s2 _ _ tG) gp hsub' ?_ hzs ?_
  ·cases h:H lz with
   | none=>rfl
   | some o =>
    have h1:=s1 _ _ h;by_cases e:lz=t
    ·rw [e,tG] at hlz;cases hlz
    ·rw [bG _ _ e h1] at hlz;cases hlz
  ·rw [List.map_append,Fc];exact dzs
abbrev TTO:List (Str × KTD.Dat):=[("load",.flat (.int 3)),("skip",.flat (.int 9)),("zero",.flat (.int 9))]
abbrev NM:List Str:=["end","put","far","load","add","sub","mul","less","skip","jump","zero","none","more","twice","about","call","back"]
def eA (i:Int):Nat:=if i ∈ ([2,9,11,15]:List Int) then 2 else if i ∈ ([1,3,8,10,12]:List Int) then 1 else 0
structure okC (cs:List Int):Prop where
 l0:1<=cs.length
 l1:cs.length<=900
 c:∀ (i:Nat) (c:Int),cs[i]?=some c->0<=c/\c<=99
def nmC (c:Int):Str:=NM.getD c.toNat ""
def mE (cs:List Int) (p:Nat) (c:Int):Bool:=decide (16 < c) || decide (cs.length<=p+eA c)
def gq (ns:List Int):Int:=ns.foldr (λc acc=>acc * 100+c) 0
def two (o:Str) (x y b:Int):Int:=if o="less" then (if x < y then 1 else 0) else if o="add" then (x+y) % b else if o="sub" then (x - y) % b else x * y % b
def a6 (as:List Int) (b:Int):Tr->Int
 | .num n=>n % b
 | .arg k=>as.getD k.toNat 0
 | .two o x y=>two o (a6 as b x) (a6 as b y) b
 | .pick x y z=>if a6 as b x=0 then a6 as b z else a6 as b y
structure MS where
 pile:List Int
 place:Nat
 kept:List Nat
 ended:Bool
structure MC where
 cs:List Int
 as:List Int
 b:Int
structure xo (mc:MC):Prop where
 cs:okC mc.cs
 as:mc.as.length=4
 ai:∀ x ∈ mc.as,0<=x/\x < mc.b
 b2:2<=mc.b
 b9:mc.b<=10000
structure iV (mc:MC) (st:MS):Prop where
 p:∀ x ∈ st.pile,0<=x/\x < mc.b
 l:st.pile.length<=64
 k:st.kept.length<=16
def ft (st:MS):Option (Int × MS):=match st.pile with
 | []=>none
 | x::r=>some (x,{ st with pile:=r })
def dR (mc:MC) (n:Int) (st:MS):Option MS:=if st.pile.length=64 then none else some { st with pile:=(n % mc.b)::st.pile }
def kS (nm:Str) (num on:Nat) (st:MS):Option (Nat × MS) :=
 if nm ∈ (["skip","jump"]:List Str) then some (on+num,st)
 else if nm ∈ (["zero","none"]:List Str) then (ft st).map λp=>(if p.1=0 then on+num else on,p.2)
 else if nm="call" then (if st.kept.length=16 then none else some (num,{ st with kept:=on::st.kept }))
 else match st.kept with
  | []=>none
  | k::r=>some (k,{ st with kept:=r })
def kh (st:MS):Option MS:=if st.pile.length=1 then some { st with ended:=true } else none
def cC (mc:MC) (nm:Str) (num:Nat) (st:MS):Option MS :=
 if nm ∈ (["put","far"]:List Str) then dR mc num st
 else if nm="load" then dR mc (mc.as.getD num 0) st
 else (ft st).bind λu =>
  if nm="more" then dR mc (u.1+num) u.2
  else if nm="twice" then (dR mc u.1 u.2).bind λs=>dR mc u.1 s
  else if nm="about" then (ft u.2).bind λl=>(dR mc u.1 l.2).bind λs=>dR mc l.1 s
  else (ft u.2).bind λl=>dR mc (two nm l.1 u.1 mc.b) l.2
def nsC (cs:List Int) (p:Nat) (c:Int):List Int:=(cs.drop (p+1)).take (eA c)
def kr (cs:List Int) (p:Nat) (c:Int):Nat:=(gq (nsC cs p c)).toNat
def gj (nm:Str) (num:Nat):Bool:=decide (iz nm TTO num < (num:Int))
abbrev WS:List Str:=["skip","jump","zero","none","call","back"]
def doM (mc:MC) (nm:Str) (num on:Nat) (st:MS):Option MS :=
 if nm ∈ WS then (kS nm num on st).map λp=>{ p.2 with place:=p.1 }
 else if nm="end" then (kh st).map λs=>{ s with place:=on }
 else (cC mc nm num st).map λs=>{ s with place:=on }
def dY (mc:MC) (st:MS):Option MS:=match mc.cs[st.place]? with
 | none=>none
 | some c=>if mE mc.cs st.place c=true then none else if gj (nmC c) (kr mc.cs st.place c)=true then none
  else doM mc (nmC c) (kr mc.cs st.place c) (st.place+1+eA c) st
def pV (l:List Int):List V:=l.reverse.map V.int
def kpV (l:List Nat):List V:=l.reverse.map λ(n:Nat)=>V.int n
theorem fA (x:Int) (l:List Int):pV (x::l)=pV l++[.int x]:=by unfold pV;rw [List.reverse_cons,List.map_append];rfl
theorem sI (x:Nat) (l:List Nat):kpV (x::l)=kpV l++[.int x]:=by unfold kpV;rw [List.reverse_cons,List.map_append];rfl
theorem uO (l:List Int):(pV l).length=l.length:=by unfold pV;rw [List.length_map,List.length_reverse]
theorem Bw (l:List Nat):(kpV l).length=l.length:=by unfold kpV;rw [List.length_map,List.length_reverse]
inductive Res where
 | ends (v:Int)
 | fault (p:Nat)
 | late
 deriving DecidableEq
def iJ (mc:MC):Nat->MS->Res
 | 0,_=>.late
 | n+1,st=>match dY mc st with
  | none=>.fault st.place
  | some s=>if s.ended=true then .ends (s.pile.headD 0) else iJ mc n s
theorem gR {x y b:Int} (hb:2<=b):0<=two o x y b/\two o x y b < b:=by
 unfold two;split
 ·split <;> omega
 ·split
  ·exact ⟨Int.emod_nonneg _ (by omega),Int.emod_lt_of_pos _ (by omega)⟩
  ·split
   ·exact ⟨Int.emod_nonneg _ (by omega),Int.emod_lt_of_pos _ (by omega)⟩
   ·exact ⟨Int.emod_nonneg _ (by omega),Int.emod_lt_of_pos _ (by omega)⟩
inductive Go (mc:MC):Nat->MS->MS->Prop
 | nil {s:MS}:Go mc 0 s s
 | cons {n:Nat} {s s1 s2:MS}:dY mc s=some s1->s1.ended=false->Go mc n s1 s2->Go mc (n+1) s s2
variable {mc:MC} {s1 s2:MS}
theorem Go.trans {m:Nat} {s3:MS} (a:Go mc n s1 s2) (b:Go mc m s2 s3):Go mc (n+m) s1 s3:=by
 induction a with
 | nil=>rw [Nat.zero_add];exact b
 | cons e d _ ih=>rw [Nat.succ_add];exact .cons e d (ih b)
variable {s':MS}
theorem Go.run {s:MS} (a:Go mc n s s') (k:Nat):iJ mc (n+k) s=iJ mc k s':=by
 induction a with
 | nil=>rw [Nat.zero_add]
 | cons e d _ ih =>rw [Nat.succ_add];show (match dY mc _ with | none=>_ | some s=>_)=_;rw [e];dsimp only;rw [d,if_neg Bool.false_ne_true];exact ih
abbrev at_ (s:List Int) (p:Nat) (k:List Nat):MS:=⟨s,p,k,false⟩
variable {a b s:List Int}
theorem dP {args:List Int} {k:List Nat} (h:mc.cs=a++c::(args++b)) (hc:c<=16) (hl:args.length=eA c) :
  dY mc (at_ s a.length k)=if gj (nmC c) (gq args).toNat=true then none else doM mc (nmC c) (gq args).toNat (a.length+1+args.length) (at_ s a.length k):=by
 unfold dY
 have e1:mc.cs[(at_ s a.length k).place]?=some c:=by rw [h];show (a++c::(args++b))[a.length]?=some c;rw [List.getElem?_append_right (Nat.le_refl _),Nat.sub_self];rfl
 rw [e1]
 have e2:mE mc.cs (at_ s a.length k).place c=false:=by
  unfold mE
  rw [h,decide_eq_false (by omega),decide_eq_false (by
   show ¬ (a++c::(args++b)).length<=a.length+eA c;rw [List.length_append,List.length_cons,List.length_append];omega)]
  rfl
 have e3:kr mc.cs (at_ s a.length k).place c=(gq args).toNat:=by
  unfold kr nsC;rw [h];show (gq (((a++c::(args++b)).drop (a.length+1)).take (eA c))).toNat=_
  have e4:(a++c::(args++b)).drop (a.length+1)=args++b:=by rw [List.drop_append,List.drop_eq_nil_of_le (by omega),List.nil_append,show a.length+1 - a.length=1 by omega];rfl
  rw [e4,<- hl,List.take_left'];rfl
 dsimp only;rw [e2,e3,if_neg Bool.false_ne_true,hl]
theorem go1 {s:MS} (h:dY mc s=some s1) (e:s1.ended=false):Go mc 1 s s1:=.cons h e .nil
theorem eR {n:Int} {k:List Nat} (hs:s.length<=63):dR mc n (at_ s p k)=some (at_ (n % mc.b::s) p k):=by unfold dR;rw [if_neg (show ¬ s.length=64 by omega)]
theorem gn (h1:¬ nm="load") (h2:¬ nm="skip") (h3:¬ nm="zero"):¬ gj nm n=true:=by
 unfold gj iz
 have e:KTD.datumAt nm TTO=none:=by show (if decide (nm="load")=true then _ else if decide (nm="skip")=true then _ else if decide (nm="zero")=true then _ else _)=_;rw [if_neg (by simp [h1]),if_neg (by simp [h2]),if_neg (by simp [h3])];rfl
 rw [e];simp
theorem E9 (h:nm="skip"\/nm="zero") (hn:n<=9):¬ gj nm n=true:=by
 unfold gj;have e:iz nm TTO n=9:=by rcases h with rfl | rfl <;> kernel_rfl
 rw [e];simp;omega
theorem Ft (hn:n<=3):¬ gj "load" n=true:=by
 unfold gj;have e:iz "load" TTO n=3:=by kernel_rfl
 rw [e];simp;omega
theorem fH {x:Int} {k:List Nat}:ft (at_ (x::s) p k)=some (x,at_ s p k):=rfl
theorem nq {n:Int} {k:List Nat} (h:mc.cs=a++1::n::b) (h0:0<=n) (hs:s.length<=63):Go mc 1 (at_ s a.length k) (at_ (n % mc.b::s) (a.length+2) k):=by
 refine go1 ?_ rfl;rw [dP (args:=[n]) h (by decide) rfl,show nmC 1="put" from rfl,if_neg (gn (by decide +kernel) (by decide +kernel) (by decide +kernel))];unfold doM cC;rw [if_neg (by decide +kernel),if_neg (by decide +kernel),if_pos (by decide +kernel),eR hs];have e:(((gq [n]).toNat:Nat):Int)=n:=by simp [gq];omega
 rw [e];rfl
theorem yK {n:Int} {k:List Nat} (h:mc.cs=a++2::n::m::b) (h0:0<=n) (h1:0<=m) (hs:s.length<=63):Go mc 1 (at_ s a.length k) (at_ ((m * 100+n) % mc.b::s) (a.length+3) k):=by
 refine go1 ?_ rfl;rw [dP (args:=[n,m]) h (by decide) rfl,show nmC 2="far" from rfl,if_neg (gn (by decide +kernel) (by decide +kernel) (by decide +kernel))];unfold doM cC;rw [if_neg (by decide +kernel),if_neg (by decide +kernel),if_pos (by decide +kernel),eR hs];have e:(((gq [n,m]).toNat:Nat):Int)=m * 100+n:=by simp [gq];omega
 rw [e];rfl
theorem qF {n:Int} {k:List Nat} (h:mc.cs=a++3::n::b) (h0:0<=n) (h1:n<=3) (hs:s.length<=63):Go mc 1 (at_ s a.length k) (at_ (mc.as.getD n.toNat 0 % mc.b::s) (a.length+2) k):=by
 refine go1 ?_ rfl;have e:(gq [n]).toNat=n.toNat:=by simp [gq]
 rw [dP (args:=[n]) h (by decide) rfl,show nmC 3="load" from rfl,e,if_neg (Ft (by omega))];unfold doM cC;rw [if_neg (by decide +kernel),if_neg (by decide +kernel),if_neg (by decide +kernel),if_pos rfl,eR hs];rfl
theorem qE {x y:Int} {k:List Nat} (h:mc.cs=a++4::b) (hb:2<=mc.b) (hs:s.length<=63):Go mc 1 (at_ (y::x::s) a.length k) (at_ (two "add" x y mc.b::s) (a.length+1) k):=by refine go1 ?_ rfl;rw [dP (args:=[]) h (by decide) rfl,show nmC 4="add" from rfl,if_neg (gn (by decide +kernel) (by decide +kernel) (by decide +kernel))];unfold doM cC;rw [if_neg (by decide +kernel),if_neg (by decide +kernel),if_neg (by decide +kernel),if_neg (by decide +kernel),fH,Option.bind_some];dsimp only;rw [if_neg (by decide +kernel),if_neg (by decide +kernel),if_neg (by decide +kernel),fH,Option.bind_some];dsimp only;rw [eR hs,Int.emod_eq_of_lt (gR hb).1 (gR hb).2];rfl
theorem uw {x y:Int} {k:List Nat} (h:mc.cs=a++5::b) (hb:2<=mc.b) (hs:s.length<=63):Go mc 1 (at_ (y::x::s) a.length k) (at_ (two "sub" x y mc.b::s) (a.length+1) k):=by refine go1 ?_ rfl;rw [dP (args:=[]) h (by decide) rfl,show nmC 5="sub" from rfl,if_neg (gn (by decide +kernel) (by decide +kernel) (by decide +kernel))];unfold doM cC;rw [if_neg (by decide +kernel),if_neg (by decide +kernel),if_neg (by decide +kernel),if_neg (by decide +kernel),fH,Option.bind_some];dsimp only;rw [if_neg (by decide +kernel),if_neg (by decide +kernel),if_neg (by decide +kernel),fH,Option.bind_some];dsimp only;rw [eR hs,Int.emod_eq_of_lt (gR hb).1 (gR hb).2];rfl
theorem yL {x y:Int} {k:List Nat} (h:mc.cs=a++6::b) (hb:2<=mc.b) (hs:s.length<=63):Go mc 1 (at_ (y::x::s) a.length k) (at_ (two "mul" x y mc.b::s) (a.length+1) k):=by refine go1 ?_ rfl;rw [dP (args:=[]) h (by decide) rfl,show nmC 6="mul" from rfl,if_neg (gn (by decide +kernel) (by decide +kernel) (by decide +kernel))];unfold doM cC;rw [if_neg (by decide +kernel),if_neg (by decide +kernel),if_neg (by decide +kernel),if_neg (by decide +kernel),fH,Option.bind_some];dsimp only;rw [if_neg (by decide +kernel),if_neg (by decide +kernel),if_neg (by decide +kernel),fH,Option.bind_some];dsimp only;rw [eR hs,Int.emod_eq_of_lt (gR hb).1 (gR hb).2];rfl
theorem vP {x y:Int} {k:List Nat} (h:mc.cs=a++7::b) (hb:2<=mc.b) (hs:s.length<=63):Go mc 1 (at_ (y::x::s) a.length k) (at_ (two "less" x y mc.b::s) (a.length+1) k):=by refine go1 ?_ rfl;rw [dP (args:=[]) h (by decide) rfl,show nmC 7="less" from rfl,if_neg (gn (by decide +kernel) (by decide +kernel) (by decide +kernel))];unfold doM cC;rw [if_neg (by decide +kernel),if_neg (by decide +kernel),if_neg (by decide +kernel),if_neg (by decide +kernel),fH,Option.bind_some];dsimp only;rw [if_neg (by decide +kernel),if_neg (by decide +kernel),if_neg (by decide +kernel),fH,Option.bind_some];dsimp only;rw [eR hs,Int.emod_eq_of_lt (gR hb).1 (gR hb).2];rfl
theorem qG {n x:Int} {k:List Nat} (h:mc.cs=a++12::n::b) (h0:0<=n) (hs:s.length<=63):Go mc 1 (at_ (x::s) a.length k) (at_ ((x+n) % mc.b::s) (a.length+2) k):=by
 refine go1 ?_ rfl;rw [dP (args:=[n]) h (by decide) rfl,show nmC 12="more" from rfl,if_neg (gn (by decide +kernel) (by decide +kernel) (by decide +kernel))];have e:(((gq [n]).toNat:Nat):Int)=n:=by simp [gq];omega
 unfold doM cC;rw [if_neg (by decide +kernel),if_neg (by decide +kernel),if_neg (by decide +kernel),if_neg (by decide +kernel),fH,Option.bind_some];dsimp only;rw [if_pos rfl,e,eR hs];rfl
theorem yN {x:Int} {k:List Nat} (h:mc.cs=a++13::b) (hx:0<=x/\x < mc.b) (hs:s.length<=62):Go mc 1 (at_ (x::s) a.length k) (at_ (x::x::s) (a.length+1) k):=by refine go1 ?_ rfl;rw [dP (args:=[]) h (by decide) rfl,show nmC 13="twice" from rfl,if_neg (gn (by decide +kernel) (by decide +kernel) (by decide +kernel))];unfold doM cC;rw [if_neg (by decide +kernel),if_neg (by decide +kernel),if_neg (by decide +kernel),if_neg (by decide +kernel),fH,Option.bind_some];dsimp only;rw [if_neg (by decide +kernel),if_pos rfl,eR (by omega),Option.bind_some];rw [eR (by rw [List.length_cons];omega),Int.emod_eq_of_lt hx.1 hx.2];rfl
theorem yJ {x y:Int} {k:List Nat} (h:mc.cs=a++14::b) (hx:0<=x/\x < mc.b) (hy:0<=y/\y < mc.b) (hs:s.length<=62):Go mc 1 (at_ (y::x::s) a.length k) (at_ (x::y::s) (a.length+1) k):=by refine go1 ?_ rfl;rw [dP (args:=[]) h (by decide) rfl,show nmC 14="about" from rfl,if_neg (gn (by decide +kernel) (by decide +kernel) (by decide +kernel))];unfold doM cC;rw [if_neg (by decide +kernel),if_neg (by decide +kernel),if_neg (by decide +kernel),if_neg (by decide +kernel),fH,Option.bind_some];dsimp only;rw [if_neg (by decide +kernel),if_neg (by decide +kernel),if_pos rfl,fH,Option.bind_some];dsimp only;rw [eR (by omega),Option.bind_some];rw [eR (by rw [List.length_cons];omega),Int.emod_eq_of_lt hx.1 hx.2,Int.emod_eq_of_lt hy.1 hy.2];rfl
theorem Bl {k:List Nat} (h:mc.cs=a++(cM 8 9 n++b)):Go mc 1 (at_ s a.length k) (at_ s (a.length+(cM 8 9 n).length+n) k):=by
 refine go1 (s1:=at_ s (a.length+(cM 8 9 n).length+n) k) ?_ rfl;unfold cM at h ⊢;by_cases c:(n:Int)<=9
 ·rw [if_pos c] at h ⊢;have e:(gq [(n:Int)]).toNat=n:=by simp [gq]
  rw [dP (args:=[(n:Int)]) h (by decide) rfl,show nmC 8="skip" from rfl,e,if_neg (E9 (.inl rfl) (by omega))];unfold doM kS;rw [if_pos (by decide +kernel),if_pos (by decide +kernel)];rfl
 ·rw [if_neg c] at h ⊢;have e:(gq [(n:Int) % 100,(n:Int) / 100]).toNat=n:=by simp [gq];omega
  rw [dP (args:=[(n:Int) % 100,(n:Int) / 100]) h (by decide) rfl,show nmC 9="jump" from rfl,e,if_neg (gn (by decide +kernel) (by decide +kernel) (by decide +kernel))];unfold doM kS;rw [if_pos (by decide +kernel),if_pos (by decide +kernel)];rfl
theorem Bm {x:Int} {k:List Nat} (h:mc.cs=a++(cM 10 11 n++b)):Go mc 1 (at_ (x::s) a.length k) (at_ s (a.length+(cM 10 11 n).length+if x=0 then n else 0) k):=by
 refine go1 (s1:=at_ s (a.length+(cM 10 11 n).length+if x=0 then n else 0) k) ?_ rfl;unfold cM at h ⊢;by_cases c:(n:Int)<=9
 ·rw [if_pos c] at h ⊢;have e:(gq [(n:Int)]).toNat=n:=by simp [gq]
  rw [dP (args:=[(n:Int)]) h (by decide) rfl,show nmC 10="zero" from rfl,e,if_neg (E9 (.inr rfl) (by omega))];unfold doM kS;rw [if_pos (by decide +kernel),if_neg (by decide +kernel),if_pos (by decide +kernel),fH];by_cases hx:x=0
  ·rw [if_pos hx];simp [hx]
  ·rw [if_neg hx];simp [hx]
 ·rw [if_neg c] at h ⊢;have e:(gq [(n:Int) % 100,(n:Int) / 100]).toNat=n:=by simp [gq];omega
  rw [dP (args:=[(n:Int) % 100,(n:Int) / 100]) h (by decide) rfl,show nmC 11="none" from rfl,e,if_neg (gn (by decide +kernel) (by decide +kernel) (by decide +kernel))];unfold doM kS;rw [if_pos (by decide +kernel),if_neg (by decide +kernel),if_pos (by decide +kernel),fH];by_cases hx:x=0
  ·rw [if_pos hx];simp [hx]
  ·rw [if_neg hx];simp [hx]
theorem fQ {i:Int} {f:Fnd} (h:bI (.gap i m) t=some f):∃ n,t=.num n/\n<=m/\f=([],[n],[]):=by
 cases t with
 | num n =>
  have h:(if n<=m then some ([],[n],[]) else none:Option Fnd)=some f:=h;by_cases c:n<=m
  ·rw [if_pos c] at h;cases h;exact ⟨n,rfl,c,rfl⟩
  ·rw [if_neg c] at h;cases h
 | _=>cases h
theorem kl {i:Int} {f:Fnd} (h:bI (.slot i) t=some f):∃ n,t=.arg n/\f=([],[],[n]):=by
 cases t with
 | arg n=>cases h;exact ⟨n,rfl,rfl⟩
 | _=>cases h
theorem qz {f:Fnd} (h:bI (.num m) t=some f):t=.num m/\f=([],[],[]):=by
 cases t with
 | num n =>
  have h:(if n=m then some ([],[],[]) else none:Option Fnd)=some f:=h;by_cases c:n=m
  ·rw [if_pos c] at h;cases h;exact ⟨by rw [c],rfl⟩
  ·rw [if_neg c] at h;cases h
 | _=>cases h
theorem cy {i:Int} {f:Fnd} (h:bI (.hole i) t=some f):f=([t],[],[]):=by cases h;rfl
theorem gF {a b:Pa} {f:Fnd} (h:bI (.two o a b) t=some f):∃ x y f1 f2,t=.two o x y/\bI a x=some f1/\bI b y=some f2/\f=Dn f1 f2:=by
 cases t with
 | two o' x y=>obtain ⟨e,f1,f2,h1,h2,h3⟩:=de h;subst e;exact ⟨x,y,f1,f2,rfl,h1,h2,h3⟩
 | _=>cases h
structure okA (mc:MC):Prop where
 len:mc.as.length=4
 ar:∀ x ∈ mc.as,0<=x/\x < mc.b
 b2:2<=mc.b
theorem qh (h:okA mc) {n:Int} (h0:0<=n) (h1:n<=3):mc.as.getD n.toNat 0 % mc.b=mc.as.getD n.toNat 0:=by
 have l:=h.len;have hn:n.toNat < mc.as.length:=by omega
 have e:mc.as.getD n.toNat 0=mc.as[n.toNat]:=by rw [List.getD_eq_getElem?_getD,List.getElem?_eq_getElem hn];rfl
 have:=h.ar _ (List.getElem_mem hn);rw [e];exact Int.emod_eq_of_lt this.1 this.2
theorem jx (h:okA mc):∀ t:Tr,okT t->0<=a6 mc.as mc.b t/\a6 mc.as mc.b t < mc.b
 | .num n,_=>⟨Int.emod_nonneg _ (by have:=h.b2;omega),Int.emod_lt_of_pos _ (by have:=h.b2;omega)⟩
 | .arg k,ht=>by show 0<=mc.as.getD k.toNat 0/\mc.as.getD k.toNat 0 < mc.b;rw [<- qh h ht.1 ht.2];exact ⟨Int.emod_nonneg _ (by have:=h.b2;omega),Int.emod_lt_of_pos _ (by have:=h.b2;omega)⟩
 | .two o x y,_=>gR h.b2
 | .pick x y z,ht=>by
  show 0<=(if a6 mc.as mc.b x=0 then a6 mc.as mc.b z else a6 mc.as mc.b y)/\(if a6 mc.as mc.b x=0 then a6 mc.as mc.b z else a6 mc.as mc.b y) < mc.b;split
  ·exact jx h z ht.2.2
  ·exact jx h y ht.2.1
def cE (p:Pc):Prop:=∀ (mc:MC) (t:Tr) (f:Fnd) (a b s:List Int) (k:List Nat),okA mc->okT t->bI p.pt t=some f->mc.cs=a++((bE p).map (iM f.2.1 f.2.2)++b)->s.length<=61 ->
 ∃ m,m<=(bE p).length/\Go mc m (at_ ((f.1.map (a6 mc.as mc.b)).reverse++s) a.length k) (at_ (a6 mc.as mc.b t::s) (a.length+(bE p).length) k)
theorem fm {s s2':MS} (h:Go mc n s s') (e1:s=s2) (e2:s'=s2'):Go mc n s2 s2':=by subst e1 e2;exact h
theorem cJ {s':List Int} {p':Nat} {k:List Nat} (h1:s=s') (h2:p=p'):at_ s p k=at_ s' p' k:=by rw [h1,h2]
theorem mQ (x y b:Int):two "add" x y b=(x+y) % b:=by unfold two;rw [if_neg (by decide +kernel),if_pos rfl]
theorem Cs (x y b:Int):two "mul" x y b=x * y % b:=by unfold two;rw [if_neg (by decide +kernel),if_neg (by decide +kernel),if_neg (by decide +kernel)]
theorem DV:cE ⟨"one",.gap 0 99,[.int 1,.tup [.str "low",.int 0]]⟩:=by
 intro mc t f a b s k hA ht hf hc hs;have l3:s.length<=63:=by omega
 have l2:s.length<=62:=by omega
 obtain ⟨n,rfl,hn,rfl⟩:=fQ hf;have hc:mc.cs=a++1::(n % 100)::b:=hc;have e:n % 100=n:=Int.emod_eq_of_lt ht.1 (by omega);rw [e] at hc;exact ⟨1,by decide,nq (s:=s) hc ht.1 l3⟩
theorem DW:cE ⟨"two",.gap 0 9999,[.int 2,.tup [.str "low",.int 0],.tup [.str "high",.int 0]]⟩:=by
 intro mc t f a b s k hA ht hf hc hs;have l3:s.length<=63:=by omega
 have l2:s.length<=62:=by omega
 obtain ⟨n,rfl,hn,rfl⟩:=fQ hf;have hc:mc.cs=a++2::(n % 100)::(n / 100)::b:=hc;have h0:=ht.1;exact ⟨1,by decide,fm (yK (s:=s) hc (by omega) (by omega) l3) rfl (cJ (congrArg (· % mc.b::s) (by omega)) rfl)⟩
theorem BW:cE ⟨"slot",.slot 0,[.int 3,.tup [.str "arg",.int 0]]⟩:=by
 intro mc t f a b s k hA ht hf hc hs;have l3:s.length<=63:=by omega
 have l2:s.length<=62:=by omega
 obtain ⟨n,rfl,rfl⟩:=kl hf;have hc:mc.cs=a++3::n::b:=hc;exact ⟨1,by decide,fm (qF (s:=s) hc ht.1 ht.2 l3) rfl (cJ (congrArg (·::s) (qh hA ht.1 ht.2)) rfl)⟩
theorem DR:cE ⟨"add",.two "add" (.hole 0) (.hole 1),[.int 4]⟩:=by
 intro mc t f a b s k hA ht hf hc hs;have l3:s.length<=63:=by omega
 have l2:s.length<=62:=by omega
 obtain ⟨x,y,f1,f2,rfl,h1,h2,rfl⟩:=gF hf;cases cy h1;cases cy h2;have hc:mc.cs=a++4::b:=hc;exact ⟨1,by decide,qE (s:=s) hc hA.b2 l3⟩
theorem rA:cE ⟨"sub",.two "sub" (.hole 0) (.hole 1),[.int 5]⟩:=by
 intro mc t f a b s k hA ht hf hc hs;have l3:s.length<=63:=by omega
 have l2:s.length<=62:=by omega
 obtain ⟨x,y,f1,f2,rfl,h1,h2,rfl⟩:=gF hf;cases cy h1;cases cy h2;have hc:mc.cs=a++5::b:=hc;exact ⟨1,by decide,uw (s:=s) hc hA.b2 l3⟩
theorem DU:cE ⟨"mul",.two "mul" (.hole 0) (.hole 1),[.int 6]⟩:=by
 intro mc t f a b s k hA ht hf hc hs;have l3:s.length<=63:=by omega
 have l2:s.length<=62:=by omega
 obtain ⟨x,y,f1,f2,rfl,h1,h2,rfl⟩:=gF hf;cases cy h1;cases cy h2;have hc:mc.cs=a++6::b:=hc;exact ⟨1,by decide,yL (s:=s) hc hA.b2 l3⟩
theorem BS:cE ⟨"less",.two "less" (.hole 0) (.hole 1),[.int 7]⟩:=by
 intro mc t f a b s k hA ht hf hc hs;have l3:s.length<=63:=by omega
 have l2:s.length<=62:=by omega
 obtain ⟨x,y,f1,f2,rfl,h1,h2,rfl⟩:=gF hf;cases cy h1;cases cy h2;have hc:mc.cs=a++7::b:=hc;exact ⟨1,by decide,vP (s:=s) hc hA.b2 l3⟩
theorem BU:cE ⟨"more",.two "add" (.hole 0) (.gap 0 99),[.int 12,.tup [.str "low",.int 0]]⟩:=by
 intro mc t f a b s k hA ht hf hc hs;have l3:s.length<=63:=by omega
 have l2:s.length<=62:=by omega
 obtain ⟨x,y,f1,f2,rfl,h1,h2,rfl⟩:=gF hf;cases cy h1;obtain ⟨n,rfl,hn,rfl⟩:=fQ h2;have n0:0<=n:=ht.2.2.1;have e:n % 100=n:=Int.emod_eq_of_lt n0 (by omega);have hc:mc.cs=a++12::(n % 100)::b:=hc;rw [e] at hc;exact ⟨1,by decide,fm (qG (s:=s) hc n0 l3) rfl (cJ (congrArg (·::s) (by show (a6 mc.as mc.b x+n) % mc.b=two "add" (a6 mc.as mc.b x) (n % mc.b) mc.b;rw [mQ];simp [Int.add_emod])) rfl)⟩
theorem DT:cE ⟨"inc",.two "add" (.hole 0) (.num 1),[.int 12,.int 1]⟩:=by
 intro mc t f a b s k hA ht hf hc hs;have l3:s.length<=63:=by omega
 have l2:s.length<=62:=by omega
 obtain ⟨x,y,f1,f2,rfl,h1,h2,rfl⟩:=gF hf;cases cy h1;obtain ⟨rfl,rfl⟩:=qz h2;have hc:mc.cs=a++12::1::b:=hc;exact ⟨1,by decide,fm (qG (s:=s) hc (by decide) l3) rfl (cJ (congrArg (·::s) (by show (a6 mc.as mc.b x+1) % mc.b=two "add" (a6 mc.as mc.b x) (1 % mc.b) mc.b;rw [mQ];simp [Int.add_emod])) rfl)⟩
theorem BR:cE ⟨"both",.two "add" (.slot 0) (.slot 1),[.int 3,.tup [.str "arg",.int 0],.int 3,.tup [.str "arg",.int 1],.int 4]⟩:=by
 intro mc t f a b s k hA ht hf hc hs;have l3:s.length<=63:=by omega
 have l2:s.length<=62:=by omega
 obtain ⟨x,y,f1,f2,rfl,h1,h2,rfl⟩:=gF hf;obtain ⟨n,rfl,rfl⟩:=kl h1;obtain ⟨m,rfl,rfl⟩:=kl h2;have hc1:mc.cs=a++3::n::(3::m::4::b):=hc;have hc2:mc.cs=(a++[3,n])++3::m::(4::b):=by rw [hc1];simp
 have hc3:mc.cs=(a++[3,n,3,m])++4::b:=by rw [hc1];simp
 have g1:=qF (s:=s) (k:=k) hc1 ht.2.1.1 ht.2.1.2 l3;have g2:=qF (s:=mc.as.getD n.toNat 0 % mc.b::s) (k:=k) hc2 ht.2.2.1 ht.2.2.2 (by rw [List.length_cons];omega);have g3:=qE (x:=mc.as.getD n.toNat 0 % mc.b) (y:=mc.as.getD m.toNat 0 % mc.b) (s:=s) (k:=k) hc3 hA.b2 l3;rw [qh hA ht.2.1.1 ht.2.1.2] at g1 g2 g3;rw [qh hA ht.2.2.1 ht.2.2.2] at g2 g3;exact ⟨3,by decide,(g1.trans (fm g2 (cJ rfl (by simp)) rfl)).trans (fm g3 (cJ rfl (by simp)) (cJ rfl (by rw [List.length_append];rfl)))⟩
theorem uQ:cE ⟨"twofold",.two "mul" (.hole 0) (.num 2),[.int 13,.int 4]⟩:=by
 intro mc t f a b s k hA ht hf hc hs;have l3:s.length<=63:=by omega
 have l2:s.length<=62:=by omega
 obtain ⟨x,y,f1,f2,rfl,h1,h2,rfl⟩:=gF hf;cases cy h1;obtain ⟨rfl,rfl⟩:=qz h2;have hc1:mc.cs=a++13::(4::b):=hc;have hc2:mc.cs=(a++[13])++4::b:=by rw [hc1];simp
 have g1:=yN (s:=s) (k:=k) hc1 (jx hA x ht.2.1) l2;have g2:=qE (x:=a6 mc.as mc.b x) (y:=a6 mc.as mc.b x) (s:=s) (k:=k) hc2 hA.b2 l3;refine ⟨2,by decide,g1.trans (fm g2 (cJ rfl (by simp)) (cJ (congrArg (·::s) ?_) (by rw [List.length_append];rfl)))⟩;show two "add" _ _ _=two "mul" (a6 mc.as mc.b x) (2 % mc.b) mc.b;rw [mQ,Cs,show a6 mc.as mc.b x+a6 mc.as mc.b x=a6 mc.as mc.b x * 2 by omega];simp [Int.mul_emod]
theorem zH:cE ⟨"fewer",.two "sub" (.hole 0) (.gap 0 99),[.int 1,.tup [.str "low",.int 0],.int 5]⟩:=by
 intro mc t f a b s k hA ht hf hc hs;have l3:s.length<=63:=by omega
 have l2:s.length<=62:=by omega
 obtain ⟨x,y,f1,f2,rfl,h1,h2,rfl⟩:=gF hf;cases cy h1;obtain ⟨n,rfl,hn,rfl⟩:=fQ h2;have n0:0<=n:=ht.2.2.1;have e:n % 100=n:=Int.emod_eq_of_lt n0 (by omega);have hc1:mc.cs=a++1::(n % 100)::(5::b):=hc;rw [e] at hc1;have hc2:mc.cs=(a++[1,n])++5::b:=by rw [hc1];simp
 have g1:=nq (s:=a6 mc.as mc.b x::s) (k:=k) hc1 n0 (by rw [List.length_cons];omega);have g2:=uw (x:=a6 mc.as mc.b x) (y:=n % mc.b) (s:=s) (k:=k) hc2 hA.b2 l3;exact ⟨2,by decide,g1.trans (fm g2 (cJ rfl (by simp)) (cJ rfl (by rw [List.length_append];rfl)))⟩
theorem DS:cE ⟨"far",.two "add" (.hole 0) (.gap 0 9999),[.int 2,.tup [.str "low",.int 0],.tup [.str "high",.int 0],.int 4]⟩:=by
 intro mc t f a b s k hA ht hf hc hs;have l3:s.length<=63:=by omega
 have l2:s.length<=62:=by omega
 obtain ⟨x,y,f1,f2,rfl,h1,h2,rfl⟩:=gF hf;cases cy h1;obtain ⟨n,rfl,hn,rfl⟩:=fQ h2;have n0:0<=n:=ht.2.2.1;have hc1:mc.cs=a++2::(n % 100)::(n / 100)::(4::b):=hc;have hc2:mc.cs=(a++[2,n % 100,n / 100])++4::b:=by rw [hc1];simp
 have g1:=yK (s:=a6 mc.as mc.b x::s) (k:=k) hc1 (by omega) (by omega) (by rw [List.length_cons];omega);rw [show n / 100 * 100+n % 100=n by omega] at g1;have g2:=qE (x:=a6 mc.as mc.b x) (y:=n % mc.b) (s:=s) (k:=k) hc2 hA.b2 l3;exact ⟨2,by decide,g1.trans (fm g2 (cJ rfl (by simp)) (cJ rfl (by rw [List.length_append];rfl)))⟩
theorem xw:cE ⟨"addmul",.two "add" (.two "mul" (.hole 0) (.hole 1)) (.gap 0 99),[.int 6,.int 12,.tup [.str "low",.int 0]]⟩:=by
 intro mc t f a b s k hA ht hf hc hs;have l3:s.length<=63:=by omega
 have l2:s.length<=62:=by omega
 obtain ⟨u,y,f1,f2,rfl,h1,h2,rfl⟩:=gF hf;obtain ⟨x,z,f3,f4,rfl,h3,h4,rfl⟩:=gF h1;cases cy h3;cases cy h4;obtain ⟨n,rfl,hn,rfl⟩:=fQ h2;have n0:0<=n:=ht.2.2.1;have e:n % 100=n:=Int.emod_eq_of_lt n0 (by omega);have hc1:mc.cs=a++6::(12::(n % 100)::b):=hc;rw [e] at hc1;have hc2:mc.cs=(a++[6])++12::n::b:=by rw [hc1];simp
 have g1:=yL (x:=a6 mc.as mc.b x) (y:=a6 mc.as mc.b z) (s:=s) (k:=k) hc1 hA.b2 l3;have g2:=qG (x:=two "mul" (a6 mc.as mc.b x) (a6 mc.as mc.b z) mc.b) (s:=s) (k:=k) hc2 n0 l3;refine ⟨2,by decide,g1.trans (fm g2 (cJ rfl (by simp)) (cJ (congrArg (·::s) ?_) (by rw [List.length_append];rfl)))⟩;show _=two "add" (two "mul" (a6 mc.as mc.b x) (a6 mc.as mc.b z) mc.b) (n % mc.b) mc.b;rw [mQ];simp [Int.add_emod]
theorem xx:cE ⟨"turned",.two "less" (.gap 0 99) (.hole 0),[.int 1,.tup [.str "low",.int 0],.int 14,.int 7]⟩:=by
 intro mc t f a b s k hA ht hf hc hs;have l3:s.length<=63:=by omega
 have l2:s.length<=62:=by omega
 obtain ⟨y,x,f1,f2,rfl,h1,h2,rfl⟩:=gF hf;cases cy h2;obtain ⟨n,rfl,hn,rfl⟩:=fQ h1;have n0:0<=n:=ht.2.1.1;have e:n % 100=n:=Int.emod_eq_of_lt n0 (by omega);have hc1:mc.cs=a++1::(n % 100)::(14::7::b):=hc;rw [e] at hc1;have hc2:mc.cs=(a++[1,n])++14::(7::b):=by rw [hc1];simp
 have hc3:mc.cs=(a++[1,n,14])++7::b:=by rw [hc1];simp
 have g1:=nq (s:=a6 mc.as mc.b x::s) (k:=k) hc1 n0 (by rw [List.length_cons];omega);have g2:=yJ (x:=a6 mc.as mc.b x) (y:=n % mc.b) (s:=s) (k:=k) hc2 (jx hA x ht.2.2) (jx hA (.num n) ht.2.1) l2;have g3:=vP (x:=n % mc.b) (y:=a6 mc.as mc.b x) (s:=s) (k:=k) hc3 hA.b2 l3;exact ⟨3,by decide,(g1.trans (fm g2 (cJ rfl (by simp)) rfl)).trans (fm g3 (cJ rfl (by simp)) (cJ rfl (by rw [List.length_append];rfl)))⟩
theorem BV:cE ⟨"pair",.two "sub" (.gap 0 99) (.gap 1 99),[.int 1,.tup [.str "low",.int 0],.int 1,.tup [.str "low",.int 1],.int 5]⟩:=by
 intro mc t f a b s k hA ht hf hc hs;have l3:s.length<=63:=by omega
 have l2:s.length<=62:=by omega
 obtain ⟨x,y,f1,f2,rfl,h1,h2,rfl⟩:=gF hf;obtain ⟨m,rfl,hm,rfl⟩:=fQ h1;obtain ⟨n,rfl,hn,rfl⟩:=fQ h2;have n0:0<=n:=ht.2.2.1;have e:n % 100=n:=Int.emod_eq_of_lt n0 (by omega);have m0:0<=m:=ht.2.1.1;have e2:m % 100=m:=Int.emod_eq_of_lt m0 (by omega);have hc1:mc.cs=a++1::(m % 100)::(1::(n % 100)::5::b):=hc;rw [e,e2] at hc1;have hc2:mc.cs=(a++[1,m])++1::n::(5::b):=by rw [hc1];simp
 have hc3:mc.cs=(a++[1,m,1,n])++5::b:=by rw [hc1];simp
 have g1:=nq (s:=s) (k:=k) hc1 m0 l3;have g2:=nq (s:=m % mc.b::s) (k:=k) hc2 n0 (by rw [List.length_cons];omega);have g3:=uw (x:=m % mc.b) (y:=n % mc.b) (s:=s) (k:=k) hc3 hA.b2 l3;exact ⟨3,by decide,(g1.trans (fm g2 (cJ rfl (by simp)) rfl)).trans (fm g3 (cJ rfl (by simp)) (cJ rfl (by rw [List.length_append];rfl)))⟩
def RunsTo (mc:MC) (t:Tr) (ns:List Int) (d:Nat):Prop:=∀ (a b s:List Int) (k:List Nat),mc.cs=a++(ns++b)->s.length+d<=61->∃ m,m<=ns.length/\Go mc m (at_ s a.length k) (at_ (a6 mc.as mc.b t::s) (a.length+ns.length) k)
theorem RunsTo.mono {d e:Nat} (h:RunsTo mc t ns d) (l:d<=e):RunsTo mc t ns e:=λa b s k hc hs=>h a b s k hc (by omega)
theorem Ap {d:Nat}:∀ (l:List (Tr × List Int)),(∀ x ∈ l,RunsTo mc x.1 x.2 d)->∀ (a b s:List Int) (k:List Nat),mc.cs=a++((l.map (·.2)).flatten++b)->s.length+l.length+d<=62 ->
  ∃ m,m<=(l.map (·.2)).flatten.length/\Go mc m (at_ s a.length k) (at_ ((l.map λx=>a6 mc.as mc.b x.1).reverse++s) (a.length+(l.map (·.2)).flatten.length) k)
 | [],_,a,b,s,k,_,_=>⟨0,Nat.le_refl _,.nil⟩
 | x::l,h,a,b,s,k,hc,hs=>by
  rw [List.map_cons,List.flatten_cons,List.append_assoc] at hc;rw [List.length_cons] at hs;obtain ⟨m1,l1,g1⟩:=h x List.mem_cons_self a _ s k hc (by omega);obtain ⟨m2,l2,g2⟩:=Ap l (λy hy=>h y (List.mem_cons_of_mem _ hy)) (a++x.2) b (a6 mc.as mc.b x.1::s) k (by rw [hc,List.append_assoc]) (by rw [List.length_cons];omega);refine ⟨m1+m2,by rw [List.map_cons,List.flatten_cons,List.length_append];omega,g1.trans (fm g2 (cJ rfl (by rw [List.length_append])) (cJ ?_ ?_))⟩
  ·rw [List.map_cons,List.reverse_cons,List.append_assoc];rfl
  ·rw [List.map_cons,List.flatten_cons,List.length_append,List.length_append];omega
theorem wd {mc:MC} {d:Nat} {f:Tr->D->Option (List D)}:∀ {ts:List Tr} {cs:List D} {ess:List (List D)},ts.length=cs.length->cW f ts cs=ess.map some->(∀ t ∈ ts,∀ c es,f t c=some es->∃ ns:List Int,es=ns.map D.int/\RunsTo mc t ns d) ->
  ∃ l:List (Tr × List Int),l.map (·.1)=ts/\ess.flatten=((l.map (·.2)).flatten).map D.int/\∀ x ∈ l,RunsTo mc x.1 x.2 d
 | [],[],ess,_,h,_=>by
  have:ess=[]:=by cases ess with | nil=>rfl | cons _ _=>cases h
  subst this;exact ⟨[],rfl,rfl,λx hx=>(nomatch hx)⟩
 | [],c::cs,_,h,_,_=>by cases h
 | t::ts,[],_,h,_,_=>by cases h
 | t::ts,c::cs,ess,hl,h,hf=>by
  cases ess with
  | nil=>cases h
  | cons x ess =>
   have h':f t c::cW f ts cs=some x::ess.map some:=h;injection h' with h1 h2;obtain ⟨ns,e1,r1⟩:=hf t List.mem_cons_self c x h1;obtain ⟨l,e2,e3,r2⟩:=wd (mc:=mc) (d:=d) (f:=f) (ts:=ts) (cs:=cs) (ess:=ess) (by simpa using hl) h2 λt ht=>hf t (List.mem_cons_of_mem _ ht);refine ⟨(t,ns)::l,by rw [List.map_cons,e2],by rw [List.flatten_cons,e1,e3,List.map_cons,List.flatten_cons,List.map_append],λy hy=>?_⟩;rcases List.mem_cons.mp hy with rfl | hy
   ·exact r1
   ·exact r2 y hy
theorem nB {mc:MC} (hA:okA mc) (hp:∀ p ∈ ps,e8 p.pt=true/\cE p/\∀ t f,bI p.pt t=some f->f.1.length<=2):∀ (n:Nat) (t:Tr) (c:D) (es:List D),okT t->bK ps n t c=some es->∃ ns:List Int,es=ns.map D.int/\RunsTo mc t ns (2 * aS t)
 | 0,_,_,_,_,h=>by cases h
 | n+1,t,c,es,ok,h=>by
  have h:(match eV c with | none=>none | some x=>if x.1="pick" then gI (bK ps n) t x.2 else dU (bK ps n) ps t x.1 x.2)=some es:=h
  cases ec:eV c with
  | none=>rw [ec] at h;cases h
  | some x =>
   rw [ec] at h;dsimp only at h;by_cases hpk:x.1="pick"
   ·rw [if_pos hpk] at h;obtain ⟨t1,t2,t3,ca,cb,cd,xa,xb,xd,rfl,_,la,lb,ld,rfl⟩:=eZ h;obtain ⟨n1,e1,r1⟩:=nB hA hp n t1 ca xa ok.1 la;obtain ⟨n2,e2,r2⟩:=nB hA hp n t2 cb xb ok.2.1 lb;obtain ⟨n3,e3,r3⟩:=nB hA hp n t3 cd xd ok.2.2 ld;subst e1 e2 e3;have hj:=fY 8 9 (n3.length:Int);let L:=n2++cM 8 9 (n3.length:Int);refine ⟨n1++(cM 10 11 (L.length:Int)++(L++n3)),?_,?_⟩
    ·unfold dq di;have eL:((n2.map D.int++(cM 8 9 ((n3.map D.int).length:Int)).map D.int).length:Int)=(L.length:Int):=by simp [L]
     rw [eL,List.length_map];simp [L]
    ·intro a b s k hc hs;have d1:aS t1+1<=aS (.pick t1 t2 t3):=by simp only [aS];omega
     have d2:aS t2+1<=aS (.pick t1 t2 t3):=by simp only [aS];omega
     have d3:aS t3+1<=aS (.pick t1 t2 t3):=by simp only [aS];omega
     obtain ⟨m1,l1,g1⟩:=r1 a (cM 10 11 (L.length:Int)++(L++n3)++b) s k (by rw [hc];simp) (by omega);have g2:=Bm (mc:=mc) (a:=a++n1) (b:=L++n3++b) (n:=L.length) (x:=a6 mc.as mc.b t1) (s:=s) (k:=k) (by rw [hc];simp);have g12:=g1.trans (fm g2 (cJ rfl (by rw [List.length_append])) rfl);by_cases hz:a6 mc.as mc.b t1=0
     ·rw [if_pos hz] at g12;obtain ⟨m3,l3,g3⟩:=r3 (a++n1++cM 10 11 (L.length:Int)++L) b s k (by rw [hc];simp) (by omega);refine ⟨m1+1+m3,?_,g12.trans (fm g3 (cJ rfl ?_) (cJ ?_ ?_))⟩
      ·have:=fY 10 11 (L.length:Int);have j2:(2:Int)<=fz L.length:=by unfold fz;split <;> omega
       simp only [List.length_append];omega
      ·simp only [List.length_append]
      ·show a6 mc.as mc.b t3::s=(if a6 mc.as mc.b t1=0 then a6 mc.as mc.b t3 else a6 mc.as mc.b t2)::s;rw [if_pos hz]
      ·simp only [List.length_append];omega
     ·rw [if_neg hz] at g12;obtain ⟨m3,l3,g3⟩:=r2 (a++n1++cM 10 11 (L.length:Int)) (cM 8 9 (n3.length:Int)++n3++b) s k (by rw [hc];simp [L]) (by omega);have g4:=Bl (mc:=mc) (a:=a++n1++cM 10 11 (L.length:Int)++n2) (b:=n3++b) (n:=n3.length) (s:=a6 mc.as mc.b t2::s) (k:=k) (by rw [hc];simp [L]);refine ⟨m1+1+(m3+1),?_,g12.trans ((fm g3 (cJ rfl ?_) rfl).trans (fm g4 (cJ rfl ?_) (cJ ?_ ?_)))⟩
      ·have:=fY 10 11 (L.length:Int);have j2:(2:Int)<=fz L.length:=by unfold fz;split <;> omega
       have lL:L.length=n2.length+(cM 8 9 (n3.length:Int)).length:=List.length_append;simp only [List.length_append];omega
      ·simp only [List.length_append];omega
      ·simp only [List.length_append]
      ·show a6 mc.as mc.b t2::s=(if a6 mc.as mc.b t1=0 then a6 mc.as mc.b t3 else a6 mc.as mc.b t2)::s;rw [if_neg hz]
      ·have lL:L.length=n2.length+(cM 8 9 (n3.length:Int)).length:=List.length_append;simp only [List.length_append];omega
   ·rw [if_neg hpk] at h;obtain ⟨p,g,ess,e1,e2,hl,e,rfl⟩:=eY h;have hpm:=(cK e1).1;obtain ⟨nh,pg,two⟩:=hp p hpm;have tail:=ig nh e2
    obtain ⟨l,f1,f2,r⟩:=wd (mc:=mc) (d:=2 * aS t - 2) (f:=bK ps n) hl e λx hx c es hq=>by have hs:=(fh (tail x hx)).2;obtain ⟨ns,q1,q2⟩:=nB hA hp n x c es (dW t x ok (fP (tail x hx))) hq;exact ⟨ns,q1,q2.mono (by omega)⟩
    refine ⟨(l.map (·.2)).flatten++(bE p).map (iM g.2.1 g.2.2),?_,?_⟩
    ·unfold bR;rw [f2,List.map_append,List.map_map];rfl
    ·intro a b s k hc hs
     have ll:l.length<=2:=by have:=congrArg List.length f1;rw [List.length_map] at this;have:=two t g e2;omega
     have dp:=ie t;obtain ⟨m1,l1,g1⟩:=Ap l r a ((bE p).map (iM g.2.1 g.2.2)++b) s k (by rw [hc,List.append_assoc]) (by omega);obtain ⟨m2,l2,g2⟩:=pg mc t g (a++(l.map (·.2)).flatten) b s k hA ok e2 (by rw [hc];simp) (by omega);have el:(l.map λx=>a6 mc.as mc.b x.1)=g.1.map (a6 mc.as mc.b):=by rw [<- f1,List.map_map];rfl
     rw [el] at g1;refine ⟨m1+m2,by rw [List.length_append,List.length_map];omega,g1.trans (fm g2 (cJ rfl (by rw [List.length_append])) (cJ rfl ?_))⟩;rw [List.length_append,List.length_append,List.length_map];omega
theorem A8 {x:Int} (h:mc.cs=a++0::b):iJ mc (n+1) (at_ [x] a.length [])=.ends x:=by
 have e:dY mc (at_ [x] a.length [])=some ⟨[x],a.length+1,[],true⟩:=by rw [dP (args:=[]) h (by decide) rfl,show nmC 0="end" from rfl,if_neg (gn (by decide +kernel) (by decide +kernel) (by decide +kernel))];unfold doM;rw [if_neg (by decide +kernel),if_pos rfl];rfl
 show (match dY mc _ with | none=>_ | some s=>_)=_;rw [e];rfl
theorem By (hA:okA mc) (hp:∀ p ∈ ps,e8 p.pt=true/\cE p/\∀ t f,bI p.pt t=some f->f.1.length<=2) {c:D} (ok:okT t) (dp:aS t<=8) (h:bK ps n t c=some es) (hc:mc.cs.map D.int=es++[.int 0]) {N:Nat} (hN:mc.cs.length<=N):iJ mc N ⟨[],0,[],false⟩=.ends (a6 mc.as mc.b t):=by
 obtain ⟨ns,rfl,r⟩:=nB hA hp n t c es ok h
 have inj:∀ (u v:List Int),u.map D.int=v.map D.int->u=v:=by
  intro u
  induction u with
  | nil=>intro v e;cases v with | nil=>rfl | cons _ _=>cases e
  | cons x u ih =>
   intro v e
   cases v with
   | nil=>cases e
   | cons y v =>rw [List.map_cons,List.map_cons] at e;injection e with e1 e2;injection e1 with e1;rw [e1,ih v e2]
 have ec:mc.cs=ns++[0]:=inj _ _ (by rw [hc,List.map_append];rfl);obtain ⟨m,l,g⟩:=r [] [0] [] [] (by rw [ec];rfl) (by show 0+2 * aS t<=61;omega);rw [ec,List.length_append] at hN;have l1:([0]:List Int).length=1:=rfl;obtain ⟨j,rfl⟩:∃ j,N=m+(j+1):=⟨N - m - 1,by omega⟩
 have e2:=g.run (j+1);refine Eq.trans e2 ?_;have z:([]:List Int).length+ns.length=ns.length:=by simp
 rw [z];exact A8 ec
theorem hl2 {p:Pc} (h:fM p.pt<=2):∀ t f,bI p.pt t=some f->f.1.length<=2:=λt f e=>by rw [jA _ _ _ e];exact h
def qi (as:List Int) (b:Int):Prop:=as.length=4/\(∀ x ∈ as,0<=x/\x < b)/\2<=b/\b<=10000
def okO (o:Str):Prop:=o="add"\/o="sub"\/o="mul"\/o="less"
theorem DI (h:okO o):¬ o="num"/\¬ o="arg"/\¬ o="pick":=by rcases h with rfl | rfl | rfl | rfl <;> decide +kernel
theorem ye {as:List Int} {b k:Int} (h:qi as b) (h0:0<=k) (h1:k<=3):as[k.toNat]?=some (as.getD k.toNat 0):=by
 have hl:=h.1;have hk:k.toNat < as.length:=by omega
 rw [List.getD_eq_getElem?_getD,List.getElem?_eq_getElem hk];rfl
theorem kT {as:List Int} {b:Int} (h:qi as b):∀ t:Tr,okT t->0<=a6 as b t/\a6 as b t < b
 | .num n,_=>⟨Int.emod_nonneg _ (by have:=h.2.2.1;omega),Int.emod_lt_of_pos _ (by have:=h.2.2.1;omega)⟩
 | .arg k,ht=>h.2.1 _ (List.mem_of_getElem? (ye h ht.1 ht.2))
 | .two o x y,_=>gR h.2.2.1
 | .pick x y z,ht=>by
  unfold a6;split
  ·exact kT h z ht.2.2
  ·exact kT h y ht.2.1
def jM (n:Nat) (ds:List D) (d:D):Prop:=∃ t as b,ds=[toD t,.tup (as.map D.int),.int b]/\okT t/\aS t<=n/\qi as b/\d=.int (a6 as b t)
theorem Ez {K:W.Frag} {a b c:D} {vs:List V} (h:Dats K H [a,b,c,e] vs):∃ u v w x,vs=[u,v,w,x]/\Dat K H a u/\Dat K H b v/\Dat K H c w/\Dat K H e x:=by obtain ⟨u,r,e,h1,h⟩:=h.consE;obtain ⟨v,w,x,q,h2⟩:=me h;subst q e;exact ⟨u,v,w,x,rfl,h1,h2⟩
theorem AB {x y:Str} (h:x=y):decide (x=y)=true:=decide_eq_true h
theorem ph {x y:Str} (h:¬ x=y):decide (x=y)=false:=decide_eq_false h
def Aw (K:W.Frag):Sp:=λvs H Q _=>∃ (a t:Addr) (ns:List Int) (p q:Int) (rest:List V),vs=[.ref a,.ref t]/\Scr K H a ns/\H t=some (.lst (.int p::.int q::rest))/\0<=p /\
 ∀ (b:Int) (H':Hp) (p' q':Int),But t H H'->H' t=some (.lst (.int p'::.int q'::rest))->0<=p'->2<=b->b<=10000->Q (.int b) H'
def Aq (K:W.Frag):Sp:=λvs H Q _=>∃ (a t:Addr) (ns:List Int) (b p q:Int) (rest:List V),vs=[.ref a,.ref t,.int b]/\Scr K H a ns/\H t=some (.lst (.int p::.int q::rest))/\0<=p/\2<=b/\b<=10000 /\
 ∀ (v:V) (H':Hp) (as:List Int) (p' q':Int),But t H H'->H' t=some (.lst (.int p'::.int q'::rest))->0<=p'->qi as b->Dat K H' (.tup (as.map D.int)) v->Q v H'
theorem qV (T:Txt P w K mg) (F2:Ok P w base k T.FI (oB K)):Ok P w base (k+1) T.Hu (Aw K):=by
 refine T.Hu.f.ok sc__law_size (λvs H Q E h=>?_) (λcdv A outer s H vs Q E hr h=>?_)
 ·obtain ⟨a,t,ns,p,q,rest,rfl,_⟩:=h;rfl
 have nd:=sc__law_size.nd;obtain ⟨a,t,ns,p,q,rest,rfl,hS,hT,hp,post⟩:=h;refine ⟨_,(au (aF (pc (D:=T.FI) F2 hr (ag (pv 0) (ag (pv 1) (ag (bh (ag aj (ag aj (ag aj (ag aj (ag aj (ag aj af))))))) af)))))),?_⟩;refine ⟨_,rfl,_,rfl,bU (by decide),λl hl=>?_⟩;have nel:l≠t:=λz=>by rw [z,hT] at hl;cases hl
 have s1:Same H (upd H l (.lst [.int 2,.int 3,.int 5,.int 10,.int 256,.int 10000])):=aG hl _;refine ⟨a,t,l,ns,_,p,q,rest,rfl,hS.same s1,SqL.of aq,nel,by decide,by decide,s1 _ _ hT,hp,λi x H5 p5 q5 b5 t5 g5 hx=>?_⟩
 obtain ⟨m,em,hm⟩:∃ m:Int,x=.int m/\2<=m/\m<=10000:=by have:=List.mem_of_getElem? hx;simp only [List.mem_cons,List.not_mem_nil,or_false] at this;rcases this with e | e | e | e | e | e <;> exact ⟨_,e,by decide,by decide⟩
 subst em;exact post m H5 p5 q5 (s1.but.trans b5) t5 g5 hm.1 hm.2
theorem qN (T:Txt P w K mg) (FV:Ok P w base k T.FD (oA K)) (F2:Ok P w base k T.FI (oB K)):Ok P w base (k+1) T.Ho (Aq K):=by
 refine T.Ho.f.ok sc__law_args (λvs H Q E h=>?_) (λcdv A outer s H vs Q E hr h=>?_)
 ·obtain ⟨a,t,ns,b,p,q,rest,rfl,_⟩:=h;rfl
 have nd:=sc__law_args.nd;obtain ⟨a,t,ns,b,p,q,rest,rfl,hS,hT,hp,hb,hb2,post⟩:=h;refine ⟨_,(au (aF (cI bV rfl T.FT cg (ag (cq (own:=["_law_k"]) (fr:=[0,1,2]) (N':=["_law_k","_law_script","_law_town","_law_base"]) (jD rfl T.HN (ag aj af)) rfl (by show bW ["_law_script","_law_town","_law_base"] (λx=>(aD jl).names.lookup x) _ _ _ _=true;decide +kernel) rfl (λ_ _ _ _ _=>(aQ (i:=0) (by show List.Nodup [("_law_k":Str),("_law_script":Str),("_law_town":Str),("_law_base":Str)];decide +kernel) rfl (Or.inl rfl))) (λ_ _ _ _ _=>bN) (λ_ _ _ _ _=>(pc (D:=T.FI) F2 hr (ag (pv 1) (ag (pv 2) (ag (bh (ag aj (ag aj (ag (ba rn (pv 3) aj) (ag (pc (D:=T.FD) FV hr (ag (pv 1) (ag (pv 2) (ag (pv 3) af)))) af))))) af)))))) af)))),?_⟩;refine fE (f7 ?_)
 refine nY 4 (λR hR=>hR) (by decide) rfl
  (λl i G'=>∃ (as:List Int) (p' q':Int),But t H G'/\G' t=some (.lst (.int p'::.int q'::rest))/\0<=p'/\G' l=some (.lst (as.map V.int))/\as.length=i/\(∀ x ∈ as,0<=x/\x < b)) (λl hl=>?_) (λl i G' hl hi pn=>?_) (λl G' hl pn=>?_)
 ·have nl:l≠t:=λz=>by rw [z,hT] at hl;cases hl
  exact ⟨[],p,q,(aG hl _).but,(aG hl _) _ _ hT,hp,aq,rfl,λx hx=>absurd hx (by simp)⟩
 ·obtain ⟨as,p',q',bt,tt,gp,hl',la,oka⟩:=pn;have nl:l≠t:=λz=>by rw [z,hT] at hl;cases hl
  refine ⟨_,rfl,_,rfl,_,rfl,b,1,rfl,rfl,_,rfl,_,rfl,_,rfl,a,t,ns,b,p',q',rest,rfl,hS.but bt hT,tt,gp,by omega,by omega,λr H1 p1 q1 b1 t1 g1 r0 r1=>⟨bU (by simp),λm hm=>?_⟩⟩;have nm:m≠t:=λz=>by rw [z,t1] at hm;cases hm
  have hl1:=b1 l _ nl hl';have nml:m≠l:=λz=>by rw [z,hl1] at hm;cases hm
  have s2:Same H1 (upd H1 m (.lst [.int 0,.int 1,.int (b - 1),.int r])):=aG hm _;have bt2:=(bt.trans b1).trans s2.but;refine ⟨a,t,m,ns,_,p1,q1,rest,rfl,hS.but bt2 hT,SqL.of aq,nm,by simp,by simp,s2 _ _ t1,g1,λj x H5 p5 q5 b5 t5 g5 hx=>?_⟩
  obtain ⟨y,ey,hy⟩:∃ y:Int,x=.int y/\0<=y/\y < b:=by
   have:=List.mem_of_getElem? hx;simp only [List.mem_cons,List.not_mem_nil,or_false] at this;rcases this with e | e | e | e
   ·exact ⟨_,e,by omega,by omega⟩
   ·exact ⟨_,e,by omega,by omega⟩
   ·exact ⟨_,e,by omega,by omega⟩
   ·exact ⟨_,e,by omega,by omega⟩
  subst ey;have hl5:=b5 l _ nl (s2 _ _ hl1);refine ⟨as.map V.int,hl5,bx (by rw [List.length_map];omega),⟨_,rfl⟩,as++[y],p5,q5,?_,?_,g5,?_,by simp [la],?_⟩
  ·intro c o hc hco;have nc:c≠l:=aB hco hl;rw [aO nc];exact b5 c o hc (bt2 c o hc hco)
  ·rw [aO (Ne.symm nl)];exact t5
  ·rw [aq,List.map_append];rfl
  ·intro z hz;rcases List.mem_append.mp hz with hz | hz
   ·exact oka z hz
   ·rw [List.mem_singleton.mp hz];exact hy
 ·obtain ⟨as,p',q',bt,tt,gp,hl',la,oka⟩:=pn;refine ⟨l,as.map V.int,rfl,.inl ⟨SqL.of hl',λu hu=>?_⟩⟩;have nu:u≠t:=λz=>by rw [z,tt] at hu;cases hu
  have s8:Same G' (upd G' u (.tup (as.map V.int))):=aG hu _;exact post _ _ as p' q' (bt.trans s8.but) (s8 _ _ tt) gp ⟨la,oka,hb,hb2⟩ (Dat.tupI (SqT.of aq) (dC as))
def yb (ds:List D) (d:D):Prop:=∃ o x y b,ds=[.str o,.int x,.int y,.int b]/\okO o/\2<=b/\b<=10000/\0<=x/\x < b/\0<=y/\y < b/\d=.int (two o x y b)
theorem sY (T:Txt P w K mg)  : Ok P w base (k+1) T.GL (spD K yb):=by
 refine T.GL.f.ok sc__law_two (λvs H Q E h=>?_) (λcdv A outer s H vs Q E hr h=>?_)
 ·obtain ⟨ds,d,hd,⟨o,x,y,b,rfl,_⟩,_⟩:=h;exact hd.length.symm
 have nd:=sc__law_two.nd;obtain ⟨ds,d,hd,⟨o,x,y,b,rfl,ho,hb,hb2,hx,hx2,hy,hy2,rfl⟩,post⟩:=h;obtain ⟨v0,v1,v2,v3,rfl,q0,q1,q2,q3⟩:=Ez hd;refine ⟨_,(ao (a7 (aC bz (pv 0) aE (aJ _)) (au (aF (ba dD (ba cX (pv 1) (pv 2)) (pv 3)))) aL)
 (ao (a7 (aC bz (pv 0) aE (aJ _)) (au (aF (ba dD (ba rn (pv 1) (pv 2)) (pv 3)))) aL)
 (ao (a7 (aC bz (pv 0) aE (aJ _)) (au (aF (ba dD (ba rg (pv 1) (pv 2)) (pv 3)))) aL)
 (au (aF (dQ (aC jg (pv 1) (pv 2) (aJ _)) aj aj)))))),?_⟩
 refine aH (K:=K) (b:=decide (o="add")) (ay (aY (ab q0) az)) (λc H1 s1=>?_) (λc H1 s1=>?_)
 ·refine aX (K:=K) (d:=.int (two o x y b)) ?_ λv H' s q=>post v H' (s1.trans s) q;have e:two o x y b=(x+y) % b:=by rw [of_decide_eq_true c];rfl
  rw [e];exact iH (d6 (ab (s1.dat q1)) (ab (s1.dat q2))) (ab (s1.dat q3)) (by omega)
 have q0:=s1.dat q0;have q1:=s1.dat q1;have q2:=s1.dat q2;have q3:=s1.dat q3;have n1:=of_decide_eq_false c;refine aH (K:=K) (b:=decide (o="sub")) (ay (aY (ab q0) az)) (λc H2 s2=>?_) (λc H2 s2=>?_)
 ·refine aX (K:=K) (d:=.int (two o x y b)) ?_ λv H' s q=>post v H' (s1.trans (s2.trans s)) q;have e:two o x y b=(x - y) % b:=by rw [of_decide_eq_true c];rfl
  rw [e];exact iH (Ah (ab (s2.dat q1)) (ab (s2.dat q2))) (ab (s2.dat q3)) (by omega)
 have q0:=s2.dat q0;have q1:=s2.dat q1;have q2:=s2.dat q2;have q3:=s2.dat q3;have n2:=of_decide_eq_false c;refine aH (K:=K) (b:=decide (o="mul")) (ay (aY (ab q0) az)) (λc H3 s3=>?_) (λc H3 s3=>?_)
 ·refine aX (K:=K) (d:=.int (two o x y b)) ?_ λv H' s q=>post v H' (s1.trans (s2.trans (s3.trans s))) q;have e:two o x y b=x * y % b:=by rw [of_decide_eq_true c];rfl
  rw [e];exact iH (Ae (ab (s3.dat q1)) (ab (s3.dat q2)) (.inr ⟨by omega,by omega⟩)) (ab (s3.dat q3)) (by omega)
 have n3:=of_decide_eq_false c;refine aX (K:=K) (d:=.int (two o x y b)) ?_ λv H' s q=>post v H' (s1.trans (s2.trans (s3.trans s))) q
 have eo:o="less":=by
  rcases ho with h | h | h | h
  ·exact absurd h n1
  ·exact absurd h n2
  ·exact absurd h n3
  ·exact h
 have e:two o x y b=if x < y then 1 else 0:=by rw [eo];rfl
 rw [e];refine kJ (b:=decide (x < y)) (ay (bT (p:=λi j=>decide (i < j)) (ab (s3.dat q1)) (ab (s3.dat q2)))) (λc2=>?_) (λc2=>?_)
 ·rw [if_pos (of_decide_eq_true c2)];exact ak
 ·rw [if_neg (of_decide_eq_false c2)];exact ak
theorem oQ (T:Txt P w K mg) (HU:Ok P w base k T.GL (spD K yb)) (Gm:Ok P w base k T.FG (spD K (jM n))):Ok P w base (k+1) T.FG (spD K (jM (n+1))):=by
 refine T.FG.f.ok sc__law_worth (λvs H Q E h=>?_) (λcdv A outer s H vs Q E hr h=>?_)
 ·obtain ⟨ds,d,hd,⟨t,as,b,rfl,_⟩,_⟩:=h;exact hd.length.symm
 have nd:=sc__law_worth.nd;obtain ⟨ds,d,hd,⟨t,as,b,rfl,ht,hn,ha,rfl⟩,post⟩:=h;obtain ⟨v0,v1,v2,rfl,q0,q1,q2⟩:=me hd;refine ⟨_,(ao (a7 (aC bz (aI aK (pv 0) aj) aE (aJ _)) (au (aF (ba dD (aI aK (pv 0) aj) (pv 2)))) aL)
 (ao (a7 (aC bz (aI aK (pv 0) aj) aE (aJ _)) (au (aF (aI aK (pv 1) (aI aK (pv 0) aj)))) aL)
 (ao (a7 (aC bz (aI aK (pv 0) aj) aE (aJ _)) (au (aF (pc (D:=T.FG) Gm hr (ag (dQ (aC bz (pc (D:=T.FG) Gm hr (ag (aI aK (pv 0) aj) (ag (pv 1) (ag (pv 2) af)))) aj (aJ _)) (aI aK (pv 0) aj) (aI aK (pv 0) aj)) (ag (pv 1) (ag (pv 2) af)))))) aL)
 (au (aF (pc (D:=T.GL) HU hr (ag (aI aK (pv 0) aj) (ag (pc (D:=T.FG) Gm hr (ag (aI aK (pv 0) aj) (ag (pv 1) (ag (pv 2) af)))) (ag (pc (D:=T.FG) Gm hr (ag (aI aK (pv 0) aj) (ag (pv 1) (ag (pv 2) af)))) (ag (pv 2) af)))))))))),?_⟩
 have hb0:0 < b:=by have:=ha.2.2.1;omega
 cases t with
 | num m =>have q0:Dat K H (.tup [.str "num",.int m]) v0:=q0;refine aH (K:=K) (b:=true) (RT.as (ay (aY (aN (k:=0) (ab q0) ak rfl) az)) (AB rfl)) (λc H2 s2=>?_) (λc=>nomatch c);exact aX (K:=K) (d:=.int (m % b)) (iH (aN (k:=1) (ab (s2.dat q0)) ak rfl) (ab (s2.dat q2)) hb0) λv H' s q=>post v H' (s2.trans s) q
 | arg m =>
  have q0:Dat K H (.tup [.str "arg",.int m]) v0:=q0;refine aH (K:=K) (b:=false) (RT.as (ay (aY (aN (k:=0) (ab q0) ak rfl) az)) (ph (by decide +kernel))) (λc=>nomatch c) (λc H2 s2=>?_);refine aH (K:=K) (b:=true) (RT.as (ay (aY (aN (k:=0) (ab (s2.dat q0)) ak rfl) az)) (AB rfl)) (λc H3 s3=>?_) (λc=>nomatch c);have s13:=s2.trans s3;have em:m=((m.toNat:Nat):Int):=by have:=ht.1;omega
  refine aX (K:=K) (d:=.int (as.getD m.toNat 0)) (aN (k:=m.toNat) (ds:=as.map D.int) (ab (s13.dat q1)) (RE.as (aN (k:=1) (ab (s13.dat q0)) ak rfl) (congrArg D.int em)) ?_) λv H' s q=>post v H' (s13.trans s) q;rw [List.getElem?_map,ye ha ht.1 ht.2];rfl
 | two o x y =>
  have q0:Dat K H (.tup [.str o,toD x,toD y]) v0:=q0;obtain ⟨n1,n2,n3⟩:=DI ht.1;have dx:aS x<=n:=by simp only [aS] at hn;omega
  have dy:aS y<=n:=by simp only [aS] at hn;omega
  refine aH (K:=K) (b:=false) (RT.as (ay (aY (aN (k:=0) (ab q0) ak rfl) az)) (ph n1)) (λc=>nomatch c) (λc H1 s1=>?_);refine aH (K:=K) (b:=false) (RT.as (ay (aY (aN (k:=0) (ab (s1.dat q0)) ak rfl) az)) (ph n2)) (λc=>nomatch c) (λc H2 s2=>?_);have s12:=s1.trans s2;refine aH (K:=K) (b:=false) (RT.as (ay (aY (aN (k:=0) (ab (s12.dat q0)) ak rfl) az)) (ph n3)) (λc=>nomatch c) (λc H3 s3=>?_);have s13:=s12.trans s3;have q0:=s13.dat q0;have q1:=s13.dat q1;have q2:=s13.dat q2;have wx:=kT ha x ht.2.1;have wy:=kT ha y ht.2.2;refine aX (K:=K) (d:=.int (two o (a6 as b x) (a6 as b y) b)) (a9 (R:=yb) (ae (aN (k:=0) (ab q0) ak rfl) (ae (a9 (R:=jM n) (d:=.int (a6 as b x)) (ae (aN (k:=1) (ab q0) ak rfl) (ae (ab q1) (ae (ab q2) aA))) ⟨x,as,b,rfl,ht.2.1,dx,ha,rfl⟩) (ae (a9 (R:=jM n) (d:=.int (a6 as b y)) (ae (aN (k:=2) (ab q0) ak rfl) (ae (ab q1) (ae (ab q2) aA))) ⟨y,as,b,rfl,ht.2.2,dy,ha,rfl⟩) (ae (ab q2) aA)))) ⟨o,_,_,b,rfl,ht.1,ha.2.2.1,ha.2.2.2,wx.1,wx.2,wy.1,wy.2,rfl⟩) λv H' s q=>post v H' (s13.trans s) q
 | pick x y z =>
  have q0:Dat K H (.tup [.str "pick",toD x,toD y,toD z]) v0:=q0;have dx:aS x<=n:=by simp only [aS] at hn;omega
  have dy:aS y<=n:=by simp only [aS] at hn;omega
  have dz:aS z<=n:=by simp only [aS] at hn;omega
  refine aH (K:=K) (b:=false) (RT.as (ay (aY (aN (k:=0) (ab q0) ak rfl) az)) (ph (by decide +kernel))) (λc=>nomatch c) (λc H1 s1=>?_);refine aH (K:=K) (b:=false) (RT.as (ay (aY (aN (k:=0) (ab (s1.dat q0)) ak rfl) az)) (ph (by decide +kernel))) (λc=>nomatch c) (λc H2 s2=>?_);have s12:=s1.trans s2;refine aH (K:=K) (b:=true) (RT.as (ay (aY (aN (k:=0) (ab (s12.dat q0)) ak rfl) az)) (AB rfl)) (λc H3 s3=>?_) (λc=>nomatch c);have s13:=s12.trans s3;have q0:=s13.dat q0;have q1:=s13.dat q1;have q2:=s13.dat q2;refine aX (K:=K) (d:=.int (if a6 as b x=0 then a6 as b z else a6 as b y)) (a9 (R:=jM n) (ds:=[toD (if a6 as b x=0 then z else y),.tup (as.map D.int),.int b]) (ae (kJ (b:=decide (a6 as b x=0)) (ay (n6 (a9 (R:=jM n) (d:=.int (a6 as b x)) (ae (aN (k:=1) (ab q0) ak rfl) (ae (ab q1) (ae (ab q2) aA))) ⟨x,as,b,rfl,ht.1,dx,ha,rfl⟩) ak)) (λc=>?_) (λc=>?_)) (ae (ab q1) (ae (ab q2) aA))) ?_) λv H' s q=>post v H' (s13.trans s) q
  ·rw [if_pos (of_decide_eq_true c)];exact aN (k:=3) (ab q0) ak rfl
  ·rw [if_neg (of_decide_eq_false c)];exact aN (k:=2) (ab q0) ak rfl
  ·by_cases hz:a6 as b x=0
   ·rw [if_pos hz,if_pos hz];exact ⟨z,as,b,rfl,ht.2.2,dz,ha,rfl⟩
   ·rw [if_neg hz,if_neg hz];exact ⟨y,as,b,rfl,ht.2.1,dy,ha,rfl⟩
def uk (ds es:List D):Prop:=ds=[]/\es=NM.map D.str
theorem oP (T:Txt P w K mg)  : Ok P w base (k+1) T.Gq (hV K uk):=by
 refine T.Gq.f.ok sc__law_names (λvs H Q E h=>?_) (λcdv A outer s H vs Q E hr h=>?_)
 ·obtain ⟨ds,es,hd,⟨rfl,_⟩,_⟩:=h;exact hd.length.symm
 have nd:=sc__law_names.nd;obtain ⟨ds,es,hd,⟨rfl,rfl⟩,post⟩:=h;have e0:=hd.nilE;subst e0;refine' ⟨_,?ybody,?yread⟩
 case ybody =>
  refine' ao ?y33 ?y34
  case y33 =>
   refine' bo (i:=0) ?y28 ?y29 ?y30 ?y31
   case y28=>exact nd
   case y29=>exact rfl
   case y30=>exact Or.inl rfl
   case y31 =>
    refine' bh ?y27
    case y27 =>
     refine' ag ?y25 ?y26
     case y25=>exact aE
     case y26 =>
      refine' ag ?y23 ?y24
      case y23=>exact aE
      case y24 =>
       refine' ag ?y21 ?y22
       case y21=>exact aE
       case y22 =>
        refine' ag ?y19 ?y20
        case y19=>exact aE
        case y20 =>
         refine' ag ?y17 ?y18
         case y17=>exact aE
         case y18 =>
          refine' ag ?y15 ?y16
          case y15=>exact aE
          case y16 =>
           refine' ag ?y13 ?y14
           case y13=>exact aE
           case y14 =>
            refine' ag ?y11 ?y12
            case y11=>exact aE
            case y12 =>
             refine' ag ?y9 ?y10
             case y9=>exact aE
             case y10 =>
              refine' ag ?y7 ?y8
              case y7=>exact aE
              case y8 =>
               refine' ag ?y5 ?y6
               case y5=>exact aE
               case y6 =>
                refine' ag ?y3 ?y4
                case y3=>exact aE
                case y4 =>
                 refine' ag ?y1 ?y2
                 case y1=>exact aE
                 case y2=>exact af
  case y34 =>
   refine' au ?y32
   case y32=>exact (aF (ba dt (pv 0) (bh (ag aE (ag aE (ag aE (ag aE af)))))))
 case yread =>refine fT (K:=K) (eK (ae az (ae az (ae az (ae az (ae az (ae az (ae az (ae az (ae az (ae az (ae az (ae az (ae az aA)))))))))))))) λl ys H1 hl s1 hy dy=>?_;refine fE (RC.use (K:=K) (dv (aT (k:=0) (LD.of hy dy)) (eQ (eK (ae az (ae az (ae az (ae az aA)))))) (by decide)) λl2 zs H2 hl2 s2 hz dz=>post l2 zs H2 (s1.trans s2) hz (s1.free hl2) ?_);exact dz
theorem A9 (x y:Int):eqV (.int x) (.int y)=decide (x=y):=by unfold eqV;by_cases h:x=y <;> simp [h]
theorem vR (x:Int):∀ ys:List Int,inV (.int x) (ys.map V.int)=decide (x ∈ ys)
 | []=>by simp [inV]
 | y::ys=>by
  have ih:=vR x ys;unfold inV at ih ⊢;rw [List.map_cons,List.any_cons,ih,A9];by_cases h:y=x
  ·subst h;simp
  ·have h':¬ x=y:=λz=>h z.symm;simp [h,h']
theorem wV (ys:List Int):(ys.map V.int).all jN=true:=by rw [List.all_eq_true];intro v hv;obtain ⟨y,_,rfl⟩:=List.mem_map.mp hv;rfl
theorem Ac {x:Int} {ys:List Int} (h1:RE K ta σ H (.int x)) (h2:RE K tb σ H (.tup (ys.map D.int))):RE K (tOp (rIn K false) ta tb) σ H (.bl (decide (x ∈ ys))):=λH1 s Q q =>
 h1 H1 s _ λv H2 s2 q2=>h2 H2 (s.trans s2) _ λw H3 s3 q3=>by obtain ⟨a,vs,ev,hq,hd⟩:=q3.tupE;have e:=vF hd;subst e;rw [q2.intE];refine ⟨a,_,ev,.inr hq,rfl,wV ys,?_⟩;rw [vR];exact q _ _ (s2.trans s3) (Dat.blI _)
def C2 (ds:List D) (d:D):Prop:=∃ i:Int,ds=[.int i]/\d=.int (eA i)
theorem nK (T:Txt P w K mg)  : Ok P w base (k+1) T.GN (spD K C2):=by
 refine T.GN.f.ok sc__law_behind (λvs H Q E h=>?_) (λcdv A outer s H vs Q E hr h=>?_)
 ·obtain ⟨ds,d,hd,⟨i,rfl,rfl⟩,_⟩:=h;exact hd.length.symm
 have nd:=sc__law_behind.nd;obtain ⟨ds,d,hd,⟨i,rfl,rfl⟩,post⟩:=h;obtain ⟨v0,rfl,h0⟩:=gW hd;refine ⟨_,(ao (a7 (aC fq (pv 0) (aU (ag aj (ag aj (ag aj (ag aj af))))) (by with_unfolding_all rfl)) (au (aF aj)) aL)
 (au (aF (dQ (aC fq (pv 0) (aU (ag aj (ag aj (ag aj (ag aj (ag aj af)))))) (by with_unfolding_all rfl)) aj aj)))),?_⟩
 refine aH (K:=K) (b:=decide (i ∈ ([2,9,11,15]:List Int))) (ay (Ac (ys:=[2,9,11,15]) (ab h0) (aZ (ae ak (ae ak (ae ak (ae ak aA))))))) (λc H1 s1=>?_) (λc H1 s1=>?_)
 ·have e:eA i=2:=by unfold eA;rw [if_pos (of_decide_eq_true c)]
  rw [e] at post;exact aX (K:=K) (d:=.int 2) ak λv H2 s2 q=>post v H2 (s1.trans s2) q
 ·have c:=of_decide_eq_false c;refine aX (K:=K) (d:=.int (eA i)) (kJ (b:=decide (i ∈ ([1,3,8,10,12]:List Int))) (ay (Ac (ys:=[1,3,8,10,12]) (ab (s1.dat h0)) (aZ (ae ak (ae ak (ae ak (ae ak (ae ak aA)))))))) (λc2=>RE.as ak ?_) (λc2=>RE.as ak ?_)) λv H2 s2 q=>post v H2 (s1.trans s2) q
  ·unfold eA;rw [if_neg c,if_pos (of_decide_eq_true c2)];rfl
  ·unfold eA;rw [if_neg c,if_neg (of_decide_eq_false c2)];rfl
theorem kZ (ds:List D):eqDs ds []=ds.isEmpty:=by cases ds <;> rfl
def But2 (a b:Addr) (H H':Hp):Prop:=∀ x o,x≠a->x≠b->H x=some o->H' x=some o
theorem mi {a b:Addr} (s:Same H H'):But2 a b H H':=λx o _ _ e=>s x o e
theorem But2.trans {a b:Addr} {H2:Hp} (x:But2 a b H H1) (y:But2 a b H1 H2):But2 a b H H2:=λc o n1 n2 e=>y c o n1 n2 (x c o n1 n2 e)
theorem ib {p q:Prop} [Decidable p] [Decidable q] (h:p↔q):decide p=decide q:=decide_eq_decide.mpr h
theorem vW (l:List Nat):kpV l=(l.reverse.map λ(n:Nat)=>(n:Int)).map V.int:=by unfold kpV;rw [List.map_map];rfl
theorem Ek {n:Int} (h1:¬ nm="load") (h2:¬ nm="skip") (h3:¬ nm="zero"):iz nm TTO n=n:=by
 unfold iz
 have e:KTD.datumAt nm TTO=none:=by show (if decide (nm="load")=true then _ else if decide (nm="skip")=true then _ else if decide (nm="zero")=true then _ else _)=_;rw [if_neg (by simp [h1]),if_neg (by simp [h2]),if_neg (by simp [h3])];rfl
 rw [e]
theorem lW (h1:¬ nm="load") (h2:¬ nm="skip") (h3:¬ nm="zero"):gj nm n=false:=by unfold gj;rw [Ek h1 h2 h3];exact decide_eq_false (by omega)
theorem AF:gj "zero" n=decide (9 < n):=by unfold gj;rw [show iz "zero" TTO n=9 by kernel_rfl];exact ib (by omega)
theorem AE:gj "skip" n=decide (9 < n):=by unfold gj;rw [show iz "skip" TTO n=9 by kernel_rfl];exact ib (by omega)
theorem AD:gj "load" n=decide (3 < n):=by unfold gj;rw [show iz "load" TTO n=3 by kernel_rfl];exact ib (by omega)
def goR (nm:Str) (num on:Nat) (st:MS):Option (Nat × MS):=if gj nm num=true then none else kS nm num on st
def Av (K:W.Frag):Sp:=λvs H Q _=>∃ (nm:Str) (num on:Nat) (lp lk:Addr) (st:MS),vs=[.str nm,.int num,.int on,.ref lp,.ref lk]/\nm ∈ WS/\H lp=some (.lst (pV st.pile))/\H lk=some (.lst (kpV st.kept))/\lp≠lk/\st.kept.length<=16 /\
 (∀ p,goR nm num on st=some p->∀ H',But2 lp lk H H'->H' lp=some (.lst (pV p.2.pile))->H' lk=some (.lst (kpV p.2.kept))->Q (.int p.1) H') /\
 (goR nm num on st=none->∀ H' zs ws,But2 lp lk H H'->H' lp=some (.lst zs)->H' lk=some (.lst ws)->Q .non H')
theorem qS (T:Txt P w K mg)  : Ok P w base (k+1) T.Ht (Av K):=by
 refine T.Ht.f.ok sc__law_goes (λvs H Q E h=>?_) (λcdv A outer s H vs Q E hr h=>?_)
 ·obtain ⟨nm,num,on,lp,lk,st,rfl,_⟩:=h;rfl
 have nd:=sc__law_goes.nd;obtain ⟨nm,num,on,lp,lk,st,rfl,hws,hp,hk,ne,k16,ok,bad⟩:=h;refine ⟨_,(ao (a7 (aC fq (pv 0) (aU (ag aE (ag aE af))) (by with_unfolding_all rfl)) (ao (a7 (PW.pt (cO (aC (nQ hr) (pv 3) (bh af) (aJ _)) (cP (PW.pt (nX (aC bz (pv 0) aE (aJ _)) (kE (aC iN (pv 1) aj (aJ _)))))))) (au (aF dN)) aL)
 (au (aF (dQ (aC bz (lF F.plainAttrs_list F.slot_list_pop F.type_list_pop lA (pv 3)) aj (aJ _)) (ba cX (pv 2) (pv 1)) (pv 2))))) aL)
 (ao (a7 (aC fq (pv 0) (aU (ag aE (ag aE af))) (by with_unfolding_all rfl)) (au (aF (dQ (PW.pt (nX (aC bz (pv 0) aE (aJ _)) (kE (aC iN (pv 1) aj (aJ _))))) dN (ba cX (pv 2) (pv 1))))) aL)
 (ao (a7 (aC bz (pv 0) aE (aJ _)) (ao (a7 (aC iN (aP aM rfl T.Fw bq (ag (pv 4) af)) aj (aJ _)) (au (aF dN)) aL)
 (ao (bu (dk F.plainAttrs_list F.slot_list_append F.type_list_append br (pv 4) (ag (pv 2) af)))
 (au (aF (pv 1))))) aL)
 (au (aF (dQ (aC (zC hr) (pv 4) (bh af) (aJ _)) (lF F.plainAttrs_list F.slot_list_pop F.type_list_pop lA (pv 4)) dN)))))),?_⟩
 have dp:Dats K H (st.pile.reverse.map D.int) (pV st.pile):=dC _;refine aH (K:=K) (b:=decide (nm ∈ (["zero","none"]:List Str))) (ay (lJ (ys:=["zero","none"]) (ab (K:=K) (k:=0) (Dat.strI nm)) (aZ (ae az (ae az aA))))) (λc H1 s1=>?_) (λc H1 s1=>?_)
 ·have c:=of_decide_eq_true c;have hp1:=s1 _ _ hp;have hk1:=s1 _ _ hk
  have et:gj nm num=(decide (nm="zero") && decide ((9:Int) < num)):=by
   rcases List.mem_cons.mp c with rfl | c
   ·rw [AF,decide_eq_true (rfl:("zero":Str)="zero"),Bool.true_and];exact ib (by omega)
   ·obtain rfl:=List.mem_singleton.mp c;rw [lW (by decide +kernel) (by decide +kernel) (by decide +kernel),decide_eq_false (by decide +kernel:¬ ("none":Str)="zero")];rfl
  have ew:kS nm num on st=(ft st).map λp=>(if p.1=0 then on+num else on,p.2):=by unfold kS;rw [if_neg (by rcases List.mem_cons.mp c with rfl | c;exact (by decide +kernel);obtain rfl:=List.mem_singleton.mp c;exact (by decide +kernel)),if_pos c]
  have hn:=kI (K:=K) (k:=3) (σ:=eG ["_law_name","_law_number","_law_on","_law_pile","_law_ways"] [.str nm,.int num,.int on,.ref lp,.ref lk]) hp1 (s1.dats dp) (gE _) (by rw [fX];decide);rw [kZ] at hn;refine aH (K:=K) (b:=(st.pile.reverse.map D.int).isEmpty || (decide (nm="zero") && decide ((9:Int) < num))) (bJ (ay hn) λ_=>rK (ay (aY (ab (K:=K) (k:=0) (Dat.strI nm)) az)) λ_=>ay (bT (p:=λi j=>decide (j < i)) (ab (K:=K) (k:=1) (Dat.intI (num:Int))) ak)) (λcb H2 s2=>?_) (λcb H2 s2=>?_)
  ·refine bad ?_ H2 _ _ (mi (s1.trans s2)) (s2 _ _ hp1) (s2 _ _ hk1);unfold goR;rw [et]
   cases hz:(decide (nm="zero") && decide ((9:Int) < num)) with
   | true=>rfl
   | false =>
    rw [hz,Bool.or_false] at cb
    have hpn:st.pile=[]:=by
     cases hq:st.pile with
     | nil=>rfl
     | cons x r=>rw [hq] at cb;simp at cb
    rw [if_neg Bool.false_ne_true,ew];unfold ft;rw [hpn];rfl
  ·rw [Bool.or_eq_false_iff] at cb
   obtain ⟨x,r,hx⟩:∃ x r,st.pile=x::r:=by
    cases hq:st.pile with
    | nil=>rw [hq] at cb;exact nomatch cb.1
    | cons x r=>exact ⟨x,r,rfl⟩
   have hp2:H2 lp=some (.lst (pV r++[.int x])):=by rw [<- fA,<- hx];exact s2 _ _ hp1
   have hk2:=s2 _ _ hk1
   have eg:∀ p,(if x=0 then on+num else on,{ st with pile:=r })=p->goR nm num on st=some p:=λp e=>by unfold goR;rw [et,cb.2,if_neg Bool.false_ne_true,ew];unfold ft;rw [hx];exact congrArg some e
   refine ⟨_,rfl,.inl ⟨rfl,_,SqL.of hp2⟩,lp,_,.int x,rfl,rfl,hp2,by simp,?_⟩;rw [List.dropLast_concat];have b3:But2 lp lk H (upd H2 lp (.lst (pV r))):=(mi (s1.trans s2)).trans λy o n _ e=>by rw [aO n];exact e
   have k3:upd H2 lp (.lst (pV r)) lk=some (.lst (kpV st.kept)):=by rw [aO (Ne.symm ne)];exact hk2
   refine ⟨rfl,_,rfl,?_⟩;have es:decide (V.int x=V.int 0)=decide (x=0):=ib ⟨λz=>V.int.inj z,λz=>by rw [z]⟩;rw [es];by_cases hz:x=0
   ·rw [decide_eq_true hz];refine gU ⟨_,rfl,_,rfl,on,num,rfl,rfl,?_⟩;have:=ok _ (eg _ rfl) _ b3 aq k3;rw [if_pos hz,Int.natCast_add] at this;exact this
   ·rw [decide_eq_false hz];refine ik ⟨_,rfl,?_⟩;have:=ok _ (eg _ rfl) _ b3 aq k3;rw [if_neg hz] at this;exact this
 have n1:=of_decide_eq_false c;have hp1:=s1 _ _ hp;have hk1:=s1 _ _ hk;refine aH (K:=K) (b:=decide (nm ∈ (["skip","jump"]:List Str))) (ay (lJ (ys:=["skip","jump"]) (ab (K:=K) (k:=0) (Dat.strI nm)) (aZ (ae az (ae az aA))))) (λc H2 s2=>?_) (λc H2 s2=>?_)
 ·have c:=of_decide_eq_true c
  have et:gj nm num=(decide (nm="skip") && decide ((9:Int) < num)):=by
   rcases List.mem_cons.mp c with rfl | c
   ·rw [AE,decide_eq_true (rfl:("skip":Str)="skip"),Bool.true_and];exact ib (by omega)
   ·obtain rfl:=List.mem_singleton.mp c;rw [lW (by decide +kernel) (by decide +kernel) (by decide +kernel),decide_eq_false (by decide +kernel:¬ ("jump":Str)="skip")];rfl
  have ew:kS nm num on st=some (on+num,st):=by unfold kS;rw [if_pos c]
  refine RT.use (b:=decide (nm="skip") && decide ((9:Int) < num)) (rK (ay (aY (ab (K:=K) (k:=0) (Dat.strI nm)) az)) λ_=>ay (bT (p:=λi j=>decide (j < i)) (ab (K:=K) (k:=1) (Dat.intI (num:Int))) ak)) λH3 s3=>?_;have s13:=s1.trans (s2.trans s3)
  cases hz:(decide (nm="skip") && decide ((9:Int) < num)) with
  | true=>exact gU (bad (by unfold goR;rw [et,hz];rfl) H3 _ _ (mi s13) (s13 _ _ hp) (s13 _ _ hk))
  | false =>refine ik ⟨_,rfl,_,rfl,on,num,rfl,rfl,?_⟩;have:=ok (on+num,st) (by unfold goR;rw [et,hz,ew];rfl) H3 (mi s13) (s13 _ _ hp) (s13 _ _ hk);rw [Int.natCast_add] at this;exact this
 have n2:=of_decide_eq_false c;have hp2:=s2 _ _ hp1;have hk2:=s2 _ _ hk1;have s12:=s1.trans s2;have et:gj nm num=false:=lW (λz=>by rw [z] at hws;revert hws;decide +kernel) (λz=>n2 (by rw [z];decide +kernel)) (λz=>n1 (by rw [z];decide +kernel));refine aH (K:=K) (b:=decide (nm="call")) (ay (aY (ab (K:=K) (k:=0) (Dat.strI nm)) az)) (λc H3 s3=>?_) (λc H3 s3=>?_)
 ·have c:=of_decide_eq_true c;have hp3:=s3 _ _ hp2;have hk3:=s3 _ _ hk2;have s13:=s12.trans s3;have ew:goR nm num on st=if st.kept.length=16 then none else some (num,{ st with kept:=on::st.kept }):=by unfold goR kS;rw [et,if_neg n2,if_neg n1,if_pos c];rfl
  have LK:LD K H3 ((st.kept.reverse.map λ(n:Nat)=>(n:Int)).map D.int) (.ref lk):=LD.of (hk3.trans (by rw [vW])) (dC _);refine aH (K:=K) (b:=decide (st.kept.length=16)) (RT.as (ay (bT (p:=λi j=>decide (j < i)) (cT (aT (k:=4) LK)) ak)) (ib (by rw [List.length_map,List.length_map,List.length_reverse];omega))) (λc2 H4 s4=>?_) (λc2 H4 s4=>?_)
  ·exact bad (by rw [ew,if_pos (of_decide_eq_true c2)]) H4 _ _ (mi (s13.trans s4)) (s4 _ _ hp3) (s4 _ _ hk3)
  ·have c2:=of_decide_eq_false c2;have hk4:=s4 _ _ hk3;have ll:=Bw st.kept;refine gB (K:=K) (d:=.int (on:Int)) (ab (k:=2) (Dat.intI (on:Int))) hk4 (by omega) λy G5 b5 hk5 dy5=>?_;rw [dy5.intE] at hk5;refine ⟨_,rfl,ok (num,{ st with kept:=on::st.kept }) (by rw [ew,if_neg c2]) G5 ((mi (s13.trans s4)).trans λx o _ n e=>b5 x o n e) (b5 _ _ ne (s4 _ _ hp3)) (by rw [sI];exact hk5)⟩
 have n3:=of_decide_eq_false c;have hp3:=s3 _ _ hp2;have hk3:=s3 _ _ hk2;have s13:=s12.trans s3;have hn:=Af (K:=K) (k:=4) (σ:=eG ["_law_name","_law_number","_law_on","_law_pile","_law_ways"] [.str nm,.int num,.int on,.ref lp,.ref lk]) hk3 (by rw [vW];exact dC (st.kept.reverse.map λ(n:Nat)=>(n:Int))) (gE _) (by rw [fX];decide);rw [kZ] at hn;refine RT.use (ay hn) λH4 s4=>?_;have hp4:=s4 _ _ hp3;have hk4:=s4 _ _ hk3;have s14:=s13.trans s4
 have ew:goR nm num on st=match st.kept with
  | []=>none
  | k::r=>some (k,{ st with kept:=r }):=by unfold goR kS;rw [et,if_neg n2,if_neg n1,if_neg n3];rfl
 cases hq:st.kept with
 | nil =>rw [hq] at ew hk4;exact ik (bad ew H4 _ _ (mi s14) hp4 hk4)
 | cons x r =>
  rw [hq] at ew;have hk5:H4 lk=some (.lst (kpV r++[.int x])):=by rw [<- sI,<- hq];exact hk4
  have eb:(!((((x::r).reverse.map λ(n:Nat)=>(n:Int)).map D.int).isEmpty))=true:=by simp
  rw [eb];refine gU ⟨_,rfl,.inl ⟨rfl,_,SqL.of hk5⟩,lk,_,.int x,rfl,rfl,hk5,by simp,?_⟩;rw [List.dropLast_concat];exact ok (x,{ st with kept:=r }) ew _ ((mi s14).trans λy o _ n e=>by rw [aO n];exact e) (by rw [aO ne];exact hp4) aq
abbrev S10:List Str:=["put","far","load","add","sub","mul","less","more","twice","about"]
theorem og (h:RE K te σ G d) (hl:G l=some (.lst xs)) (hx:xs.length<=1000)
  (q:∀ y G',But l G G'->G' l=some (.lst (xs++[y]))->Dat K G' d y->En.nx σ G') (hv:σ[j]?=some (some (.ref l)):=by rfl):oE (tBM K "list" kF (fG j) (bC te c7)) En σ G:=by
 refine ⟨_,hv,.inl ⟨rfl,_,SqL.of hl⟩,h.use λy H1 s1 q1=>?_⟩;have hl1:=s1 _ _ hl;refine ⟨l,xs,y,rfl,rfl,hl1,bx hx,?_⟩;have b:But l H1 (upd H1 l (.lst (xs++[y]))):=But.upd (Same.refl _).but;exact q y _ (s1.but.trans b) aq (Dat.mono (b.grow hl1 aq) _ q1)
theorem Ak (h:RE K te σ G d) (hl:G l=some (.lst xs)) (hx:xs.length<=1000)
  (q:∀ y G',But l G G'->G' l=some (.lst (xs++[y]))->Dat K G' d y->us En σ G') (hv:σ[j]?=some (some (.ref l)):=by rfl):jK (oE (tBM K "list" kF (fG j) (bC te c7))) us En σ G:=cf (og h hl hx q hv)
def doR (mc:MC) (nm:Str) (num:Nat) (st:MS):Option MS:=if gj nm num=true then none else cC mc nm num st
def As (K:W.Frag):Sp:=λvs H Q _=>∃ (nm:Str) (num:Nat) (lp:Addr) (vg:V) (mc:MC) (st:MS),vs=[.str nm,.int num,.ref lp,vg,.int mc.b]/\nm ∈ S10/\H lp=some (.lst (pV st.pile))/\Dat K H (.tup (mc.as.map D.int)) vg/\xo mc/\iV mc st /\
 (∀ s,doR mc nm num st=some s->∀ H',But lp H H'->H' lp=some (.lst (pV s.pile))->Q (.bl true) H')/\(doR mc nm num st=none->∀ H' zs,But lp H H'->H' lp=some (.lst zs)->Q (.bl false) H')
theorem zT {z:V} (hl:H l=some (.lst (ys++[z]))) (q:Q z (upd H l (.lst ys))) (e:σ[j]?=some (some (.ref l)):=by rfl):E5 K "list" ES (fG j) σ H Q :=
 ⟨_,e,.inl ⟨rfl,_,SqL.of hl⟩,l,_,z,rfl,rfl,hl,by simp,by rw [List.dropLast_concat];exact q⟩
variable {st:MS}
theorem f6 {n:Int} (h:st.pile.length≠64):dR mc n st=some { st with pile:=n % mc.b::st.pile }:=by unfold dR;rw [if_neg h]
theorem wj {n:Int} (h:st.pile.length=64):dR mc n st=none:=by unfold dR;rw [if_pos h]
theorem fu {x:Int} {r:List Int} (h:st.pile=x::r):ft st=some (x,{ st with pile:=r }):=by unfold ft;rw [h]
theorem nF {x b:Int} (h0:0<=x) (h1:x < b):x % b=x:=Int.emod_eq_of_lt h0 h1
theorem qO (T:Txt P w K mg) (HU:Ok P w base k T.GL (spD K yb)):Ok P w base (k+1) T.Hq (As K):=by
 refine T.Hq.f.ok sc__law_does (λvs H Q E h=>?_) (λcdv A outer s H vs Q E hr h=>?_)
 ·obtain ⟨nm,num,lp,vg,mc,st,rfl,_⟩:=h;rfl
 have nd:=sc__law_does.nd;obtain ⟨nm,num,lp,vg,mc,st,rfl,hss,hp,hg,oc,os,ok,bad⟩:=h;refine ⟨_,(ao (a7 (aC fq (pv 0) (aU (ag aE (ag aE (ag aE af)))) (by with_unfolding_all rfl)) (ao (a7 (PW.pt (cO (aC iN (aP aM rfl T.Fw bq (ag (pv 2) af)) aj (aJ _)) (cP (PW.pt (nX (aC bz (pv 0) aE (aJ _)) (kE (aC iN (pv 1) aj (aJ _)))))))) (au (aF ck)) aL)
 (au (bu (dk F.plainAttrs_list F.slot_list_append F.type_list_append br (pv 2) (ag (dQ (aC bz (pv 0) aE (aJ _)) (aI aK (pv 3) (pv 1)) (ba dD (pv 1) (pv 4))) af))))) (au (a7 (aC fq (pv 0) (aU (ag aE (ag aE af))) (by with_unfolding_all rfl)) (ao (a7 (PW.pt (cO (aC (nQ hr) (pv 2) (bh af) (aJ _)) (cP (PW.pt (nX (aC bz (pv 0) aE (aJ _)) (kE (aC iN (aP aM rfl T.Fw bq (ag (pv 2) af)) aj (aJ _)))))))) (au (aF ck)) aL)
 (au (bu (dk F.plainAttrs_list F.slot_list_append F.type_list_append br (pv 2) (ag (dQ (aC bz (pv 0) aE (aJ _)) (aI bf (pv 2) (zG vq aj)) (ba dD (ba cX (lF F.plainAttrs_list F.slot_list_pop F.type_list_pop lA (pv 2)) (pv 1)) (pv 4))) af))))) (ao (a7 (aC jg (aP aM rfl T.Fw bq (ag (pv 2) af)) aj (aJ _)) (au (aF ck)) aL)
 (ao (lH (i:=5) (j:=6) rfl nd rfl rfl (by decide) rfl rfl (ag (lF F.plainAttrs_list F.slot_list_pop F.type_list_pop lA (pv 2)) (ag (lF F.plainAttrs_list F.slot_list_pop F.type_list_pop lA (pv 2)) af)) (by kernel_rfl))
 (au (a7 (aC bz (pv 0) aE (aJ _)) (au (bu (dk F.plainAttrs_list F.slot_list_extend F.type_list_extend ip (pv 2) (ag (bh (ag (pv 5) (ag (pv 6) af))) af)))) (au (bu (dk F.plainAttrs_list F.slot_list_append F.type_list_append br (pv 2) (ag (pc (D:=T.GL) HU hr (ag (pv 0) (ag (pv 6) (ag (pv 5) (ag (pv 4) af))))) af)))))))))))
 (au (aF ck))),?_⟩
 have b2:=oc.b2;have l64:=os.l;have ll:=uO st.pile;have LP:∀ {G:Hp},G lp=some (.lst (pV st.pile))->LD K G (st.pile.reverse.map D.int) (.ref lp):=λh=>LD.of h (dC _);refine cf (RT.use (b:=decide (nm ∈ (["put","far","load"]:List Str))) (ay (lJ (ys:=["put","far","load"]) (ab (K:=K) (k:=0) (Dat.strI nm)) (aZ (ae az (ae az (ae az aA)))))) λH1 s1=>?_);have hp1:=s1 _ _ hp;by_cases cA:nm ∈ (["put","far","load"]:List Str)
 ·rw [decide_eq_true cA]
  have et:gj nm num=(decide (nm="load") && decide ((3:Int) < num)):=by
   by_cases hz:nm="load"
   ·subst hz;rw [AD,decide_eq_true (rfl:("load":Str)="load"),Bool.true_and];exact ib (by omega)
   ·rw [lW hz (λz=>by rw [z] at cA;revert cA;decide +kernel) (λz=>by rw [z] at cA;revert cA;decide +kernel),decide_eq_false hz];rfl
  have ew:cC mc nm num st=dR mc (if nm="load" then mc.as.getD num 0 else num) st:=by
   unfold cC;by_cases hz:nm="load"
   ·rw [if_neg (by rw [hz];decide +kernel),if_pos hz,if_pos hz]
   ·rw [if_pos (by rcases List.mem_cons.mp cA with z | z;rw [z];exact List.mem_cons_self;rcases List.mem_cons.mp z with z | z;rw [z];exact List.mem_cons_of_mem _ List.mem_cons_self;exact absurd (List.mem_singleton.mp z) hz),if_neg hz]
  refine gU (aH (K:=K) (b:=decide (st.pile.length=64) || (decide (nm="load") && decide ((3:Int) < num))) (bJ (RT.as (ay (bT (p:=λi j=>decide (j < i)) (cT (aT (k:=2) (LP hp1))) ak)) (ib (by rw [List.length_map,List.length_reverse];omega))) λ_=>rK (ay (aY (ab (K:=K) (k:=0) (Dat.strI nm)) az)) λ_=>ay (bT (p:=λi j=>decide (j < i)) (ab (K:=K) (k:=1) (Dat.intI (num:Int))) ak)) (λc H2 s2=>?_) (λc H2 s2=>?_))
  ·refine bad ?_ H2 _ (s1.trans s2).but (s2 _ _ hp1);unfold doR;rw [et]
   cases hz:(decide (nm="load") && decide ((3:Int) < num)) with
   | true=>rfl
   | false =>rw [hz,Bool.or_false] at c;rw [if_neg Bool.false_ne_true,ew,wj (of_decide_eq_true c)]
  ·rw [Bool.or_eq_false_iff] at c;have nl:=of_decide_eq_false c.1
   have ed:doR mc nm num st=some { st with pile:=(if nm="load" then mc.as.getD num 0 else (num:Int) % mc.b)::st.pile }:=by
    unfold doR;rw [et,c.2,if_neg Bool.false_ne_true,ew,f6 nl];by_cases hz:nm="load"
    ·rw [if_pos hz,if_pos hz]
     have h3:num<=3:=by rw [decide_eq_true hz,Bool.true_and] at c;have:=of_decide_eq_false c.2;omega
     have hm:=oc.ai (mc.as.getD num 0) (by
      rw [List.getD_eq_getElem?_getD,List.getElem?_eq_getElem (by have:=oc.as;omega:num < mc.as.length)];exact List.getElem_mem _)
     rw [nF hm.1 hm.2]
    ·rw [if_neg hz,if_neg hz]
   refine og (K:=K) (d:=.int (if nm="load" then mc.as.getD num 0 else (num:Int) % mc.b)) (kJ (b:=decide (nm="load")) (ay (aY (ab (K:=K) (k:=0) (Dat.strI nm)) az)) (λcz=>?_) (λcz=>?_)) (s2 _ _ hp1) (by omega) λy G b hG dy=>?_
   ·have cz:=of_decide_eq_true cz;rw [if_pos cz]
    have h3:num<=3:=by rw [decide_eq_true cz,Bool.true_and] at c;have:=of_decide_eq_false c.2;omega
    have la:=oc.as
    exact aN (k:=num) (ab (k:=3) ((s1.trans s2).dat hg)) (ab (k:=1) (Dat.intI (num:Int))) (by
     rw [List.getElem?_map,List.getElem?_eq_getElem (by omega:num < mc.as.length),List.getD_eq_getElem?_getD,List.getElem?_eq_getElem (by omega:num < mc.as.length)];rfl)
   ·rw [if_neg (of_decide_eq_false cz)];exact iH (ab (k:=1) (Dat.intI (num:Int))) (ab (k:=4) (Dat.intI mc.b)) (by omega)
   ·rw [dy.intE] at hG;exact ok _ ed G ((s1.trans s2).but.trans b) (by rw [fA];exact hG)
 rw [decide_eq_false cA];have et:gj nm num=false:=lW (λz=>cA (by rw [z];decide +kernel)) (λz=>by rw [z] at hss;revert hss;decide +kernel) (λz=>by rw [z] at hss;revert hss;decide +kernel)
 have ew:doR mc nm num st=(ft st).bind λu =>
  if nm="more" then dR mc (u.1+num) u.2
  else if nm="twice" then (dR mc u.1 u.2).bind λs=>dR mc u.1 s
  else if nm="about" then (ft u.2).bind λl=>(dR mc u.1 l.2).bind λs=>dR mc l.1 s
  else (ft u.2).bind λl=>dR mc (two nm l.1 u.1 mc.b) l.2:=by
  unfold doR cC;rw [et,if_neg Bool.false_ne_true,if_neg (λz=>cA (by rcases List.mem_cons.mp z with z | z;rw [z];exact List.mem_cons_self;rw [List.mem_singleton.mp z];decide +kernel)),if_neg (λz=>cA (by rw [z];decide +kernel))]
 rw [ew] at ok bad;refine ik (RT.use (b:=decide (nm ∈ (["more","twice"]:List Str))) (ay (lJ (ys:=["more","twice"]) (ab (K:=K) (k:=0) (Dat.strI nm)) (aZ (ae az (ae az aA))))) λH2 s2=>?_);have hp2:=s2 _ _ hp1;have s12:=s1.trans s2;by_cases cB:nm ∈ (["more","twice"]:List Str)
 ·rw [decide_eq_true cB];have hn:=kI (K:=K) (k:=2) (σ:=eG ["_law_name","_law_number","_law_pile","_law_args_here","_law_base","_law_other","_law_one"] [.str nm,.int num,.ref lp,vg,.int mc.b]) hp2 (dC st.pile.reverse) (gE _) (by rw [fX];decide);rw [kZ] at hn;refine gU (aH (K:=K) (b:=(st.pile.reverse.map D.int).isEmpty || (decide (nm="twice") && decide (st.pile.length=64))) (bJ (ay hn) λ_=>rK (ay (aY (ab (K:=K) (k:=0) (Dat.strI nm)) az)) λ_=>RT.as (ay (bT (p:=λi j=>decide (j < i)) (cT (aT (k:=2) (LP hp2))) ak)) (ib (by rw [List.length_map,List.length_reverse];omega))) (λc H3 s3=>?_) (λc H3 s3=>?_))
  ·refine bad ?_ H3 _ (s12.trans s3).but (s3 _ _ hp2)
   cases hq:st.pile with
   | nil=>unfold ft;rw [hq];rfl
   | cons x r =>
    rw [hq] at c;have e0:((x::r).reverse.map D.int).isEmpty=false:=by simp
    rw [e0,Bool.false_or,Bool.and_eq_true] at c;have ct:=of_decide_eq_true c.1;have cl:r.length+1=64:=of_decide_eq_true c.2;rw [fu hq,Option.bind_some,if_neg (by rw [ct];decide +kernel),if_pos ct,f6 (by show r.length≠64;omega),Option.bind_some,wj (by show r.length+1=64;exact cl)]
  ·rw [Bool.or_eq_false_iff] at c
   obtain ⟨x,r,hx⟩:∃ x r,st.pile=x::r:=by
    cases hq:st.pile with
    | nil=>rw [hq] at c;exact nomatch c.1
    | cons x r=>exact ⟨x,r,rfl⟩
   have xb:=os.p x (by rw [hx];exact List.mem_cons_self);have rl:r.length+1<=64:=by rw [hx] at l64;exact l64
   have hp3:H3 lp=some (.lst (pV r++[.int x])):=by rw [<- fA,<- hx];exact s3 _ _ hp2
   have s13:=s12.trans s3;have lr:=uO r;refine ⟨_,rfl,.inl ⟨rfl,_,SqL.of hp3⟩,RT.use (b:=decide (nm="twice")) (ay (aY (ab (K:=K) (k:=0) (Dat.strI nm)) az)) λH4 s4=>?_⟩;have hp4:=s4 _ _ hp3;by_cases ct:nm="twice"
   ·rw [decide_eq_true ct]
    have c64:r.length+1≠64:=by rw [decide_eq_true ct,Bool.true_and,hx] at c;exact of_decide_eq_false c.2
    refine gU (RE.use (lN (d:=.int x) (ds:=r.reverse.map D.int) (aT (K:=K) (k:=2) (LD.of hp4 (Dats.append (dC r.reverse) (Dats.cons (Dat.intI x) Dats.nil)))) (Ai ak)) λv H5 s5 qv=>?_);rw [qv.intE];refine ⟨lp,_,_,rfl,rfl,s5 _ _ hp4,bx (by rw [List.length_append];show (pV r).length+1<=1000;omega),?_⟩;refine ok { st with pile:=x::x::r } ?_ _ ((s13.trans (s4.trans s5)).but.trans (But.upd (Same.refl _).but)) (by rw [aq,fA,fA]);rw [fu hx,Option.bind_some,if_neg (by rw [ct];decide +kernel),if_pos ct,f6 (by show r.length≠64;omega),Option.bind_some,f6 (by show r.length+1≠64;exact c64),nF xb.1 xb.2]
   ·rw [decide_eq_false ct]
    have cm:nm="more":=by
     rcases List.mem_cons.mp cB with z | z
     ·exact z
     ·exact absurd (List.mem_singleton.mp z) ct
    refine ik (zT hp4 ⟨_,rfl,x,num,rfl,rfl,_,rfl,x+num,mc.b,rfl,rfl,by show 0 < mc.b;omega,lp,pV r,_,rfl,rfl,aq,bx (by omega),?_⟩);refine ok { st with pile:=(x+num) % mc.b::r } ?_ _ ((s13.trans s4).but.trans (But.upd (But.upd (Same.refl _).but))) (by rw [aq,fA]);rw [fu hx,Option.bind_some,if_pos cm,f6 (by show r.length≠64;omega)]
 rw [decide_eq_false cB];have nm1:¬ nm="more":=λz=>cB (by rw [z];decide +kernel);have nm2:¬ nm="twice":=λz=>cB (by rw [z];decide +kernel);refine ik (aH (K:=K) (b:=decide (st.pile.length < 2)) (RT.as (ay (bT (p:=λi j=>decide (i < j)) (cT (aT (k:=2) (LP hp2))) ak)) (ib (by rw [List.length_map,List.length_reverse];omega))) (λc H3 s3=>?_) (λc H3 s3=>?_))
 ·have c:=of_decide_eq_true c;refine bad ?_ H3 _ (s12.trans s3).but (s3 _ _ hp2)
  match hq:st.pile,c with
  | [],_=>unfold ft;rw [hq];rfl
  | [x],_ =>rw [fu hq,Option.bind_some,if_neg nm1,if_neg nm2];have e:ft { st with pile:=[] }=none:=rfl;split <;> (rw [e];rfl)
  | _::_::_,c=>exact absurd c (by simp)
 ·have c:=of_decide_eq_false c
  obtain ⟨u,l,r,hx⟩:∃ u l r,st.pile=u::l::r:=by
   match hq:st.pile,c with
   | [],c=>exact absurd c (by simp)
   | [x],c=>exact absurd c (by simp)
   | u::l::r,_=>exact ⟨u,l,r,rfl⟩
  have ub:=os.p u (by rw [hx];exact List.mem_cons_self);have lb:=os.p l (by rw [hx];exact List.mem_cons_of_mem _ List.mem_cons_self);have rl:r.length+2<=64:=by rw [hx] at l64;exact l64
  have lr:=uO r;have s13:=s12.trans s3;have hp3:H3 lp=some (.lst ((pV r++[.int l])++[.int u])):=by rw [<- fA,<- fA,<- hx];exact s3 _ _ hp2
  refine zT hp3 (zT aq ⟨_,_,rfl,?_⟩);generalize e5:upd (upd H3 lp _) lp (.lst (pV r))=H5;have hp5:H5 lp=some (.lst (pV r)):=by rw [<- e5];exact aq
  have b5:But lp H H5:=by rw [<- e5];exact s13.but.trans (But.upd (But.upd (Same.refl _).but))
  refine RT.use (b:=decide (nm="about")) (ay (aY (ab (K:=K) (k:=0) (Dat.strI nm)) az)) λH6 s6=>?_;have hp6:=s6 _ _ hp5;have b6:=b5.trans s6.but;by_cases ca:nm="about"
  ·rw [decide_eq_true ca];refine gU ⟨_,rfl,.inl ⟨rfl,_,SqL.of hp6⟩,_,rfl,_,rfl,bU (show 2<=1000 by decide),λlb2 nb=>?_⟩;have nlb:lp≠lb2:=λz=>by rw [<- z,hp6] at nb;cases nb
   refine ⟨lp,lb2,_,_,rfl,rfl,by rw [aO nlb];exact hp6,aq,bU (by show (pV r).length+2<=1000;omega),?_⟩;refine ok { st with pile:=l::u::r } ?_ _ ((b6.trans (aG nb _).but).trans (But.upd (Same.refl _).but)) (by rw [aq,fA,fA,List.append_assoc];rfl);rw [fu hx,Option.bind_some,if_neg nm1,if_neg nm2,if_pos ca,fu (st:={ st with pile:=l::r }) rfl,Option.bind_some,f6 (by show r.length≠64;omega),Option.bind_some,f6 (by show r.length+1≠64;omega),nF ub.1 ub.2,nF lb.1 lb.2]
  ·rw [decide_eq_false ca]
   have okO:okO nm:=by
    have h:=hss;simp only [S10,List.mem_cons,List.not_mem_nil,or_false] at h;rcases h with h | h | h | h | h | h | h | h | h | h
    ·exact absurd (by rw [h];decide +kernel) cA
    ·exact absurd (by rw [h];decide +kernel) cA
    ·exact absurd (by rw [h];decide +kernel) cA
    ·exact .inl h
    ·exact .inr (.inl h)
    ·exact .inr (.inr (.inl h))
    ·exact .inr (.inr (.inr h))
    ·exact absurd h nm1
    ·exact absurd h nm2
    ·exact absurd h ca
   have tw:=gR (o:=nm) (x:=l) (y:=u) b2;refine ik (og (K:=K) (d:=.int (two nm l u mc.b)) (a9 (R:=yb) (ae (ab (k:=0) (Dat.strI nm)) (ae (ab (k:=6) (Dat.intI l)) (ae (ab (k:=5) (Dat.intI u)) (ae (ab (k:=4) (Dat.intI mc.b)) aA)))) ⟨nm,l,u,mc.b,rfl,okO,b2,oc.b9,lb.1,lb.2,ub.1,ub.2,rfl⟩) hp6 (by omega) λy G b hG dy=>?_);rw [dy.intE] at hG;refine ok { st with pile:=two nm l u mc.b::r } ?_ G (b6.trans b) (by rw [fA];exact hG);rw [fu hx,Option.bind_some,if_neg nm1,if_neg nm2,if_neg ca,fu (st:={ st with pile:=l::r }) rfl,Option.bind_some,f6 (by show r.length≠64;omega),nF tw.1 tw.2]
def Cc:Res->D
 | .ends v=>.tup [.str "ends",.int v]
 | .fault p=>.tup [.str "fault",.int p]
 | .late=>.tup [.str "late",.int 0]
theorem Aj:RL K (iy (hV K uk) [] E c7) σ H (NM.map D.str):=eQ λH1 s Q q=>⟨[],_,Dats.nil,⟨rfl,rfl⟩,λr us H' s' h n d=>q r us H' n s' h d⟩
abbrev cD (cs:List Int):List D:=cs.map D.int
theorem Ex {cs:List Int} (h:cs[p]?=some c):(cD cs)[p]?=some (.int c):=by rw [List.getElem?_map,h];rfl
section
variable {mc:MC} {st:MS}
theorem jH {p:Int × MS} (h:ft st=some p):p.2.place=st.place/\p.2.kept=st.kept/\st.pile=p.1::p.2.pile/\p.2.ended=st.ended:=by
 unfold ft at h;split at h
 ·cases h
 ·rename_i x r e;cases h;exact ⟨rfl,rfl,e,rfl⟩
theorem fS {n:Int} {s:MS} (h:dR mc n st=some s):s.place=st.place/\s.kept=st.kept/\s.pile=n % mc.b::st.pile/\st.pile.length≠64/\s.ended=st.ended:=by
 unfold dR at h;split at h
 ·cases h
 ·rename_i hl;cases h;exact ⟨rfl,rfl,rfl,hl,rfl⟩
end
section
variable {mc:MC} {st:MS} {n:Int}
theorem wa {p:Int × MS} (o:iV mc st) (h:ft st=some p):iV mc p.2/\0<=p.1/\p.1 < mc.b/\p.2.pile.length+1=st.pile.length:=by obtain ⟨_,hk,hp,_⟩:=jH h;have l:=o.l;rw [hp,List.length_cons] at l;refine ⟨⟨λx hx=>o.p x (by rw [hp];exact List.mem_cons_of_mem _ hx),by omega,by rw [hk];exact o.k⟩,?_⟩;have:=o.p p.1 (by rw [hp];exact List.mem_cons_self);exact ⟨this.1,this.2,by rw [hp,List.length_cons]⟩
theorem BJ {s:MS} (b2:2<=mc.b) (o:iV mc st) (h:dR mc n st=some s):iV mc s:=by
 obtain ⟨_,hk,hp,hl,_⟩:=fS h;have l:=o.l;refine ⟨λx hx=>?_,by rw [hp,List.length_cons];omega,by rw [hk];exact o.k⟩;rw [hp] at hx;rcases List.mem_cons.mp hx with z | z
 ·rw [z];exact ⟨Int.emod_nonneg _ (by omega),Int.emod_lt_of_pos _ (by omega)⟩
 ·exact o.p x z
theorem AO {p:Nat × MS} (o:iV mc st) (h:kS nm num on st=some p):iV mc p.2/\p.2.ended=st.ended:=by
 unfold kS at h;split at h
 ·cases h;exact ⟨o,rfl⟩
 ·split at h
  ·obtain ⟨q,hq,e⟩:=Option.map_eq_some_iff.mp h;cases e;exact ⟨(wa o hq).1,(jH hq).2.2.2⟩
  ·split at h
   ·split at h
    ·cases h
    ·rename_i hl;cases h;have:=o.k;exact ⟨⟨o.p,o.l,by show st.kept.length+1<=16;omega⟩,rfl⟩
   ·split at h
    ·cases h
    ·rename_i k r e;cases h;have:=o.k;rw [e,List.length_cons] at this;exact ⟨⟨o.p,o.l,by show r.length<=16;omega⟩,rfl⟩
theorem yw (b2:2<=mc.b) (o:iV mc st) (h:cC mc nm num st=some s):iV mc s/\s.ended=st.ended:=by
 have pu:∀ {n:Int} {a b:MS},iV mc a->dR mc n a=some b->iV mc b/\b.ended=a.ended:=λoa hb=>⟨BJ b2 oa hb,(fS hb).2.2.2.2⟩
 have tk:∀ {p:Int × MS} {a:MS},iV mc a->ft a=some p->iV mc p.2/\p.2.ended=a.ended:=λoa hb=>⟨(wa oa hb).1,(jH hb).2.2.2⟩
 unfold cC at h;split at h
 ·exact pu o h
 ·split at h
  ·exact pu o h
  ·obtain ⟨u,hu,h⟩:=Option.bind_eq_some_iff.mp h;obtain ⟨ou,eu⟩:=tk o hu;split at h
   ·obtain ⟨a,b⟩:=pu ou h;exact ⟨a,b.trans eu⟩
   ·split at h
    ·obtain ⟨s1,h1,h2⟩:=Option.bind_eq_some_iff.mp h;obtain ⟨o1,e1⟩:=pu ou h1;obtain ⟨a,b⟩:=pu o1 h2;exact ⟨a,b.trans (e1.trans eu)⟩
    ·split at h
     ·obtain ⟨l,hl,h⟩:=Option.bind_eq_some_iff.mp h;obtain ⟨ol,el⟩:=tk ou hl;obtain ⟨s1,h1,h2⟩:=Option.bind_eq_some_iff.mp h;obtain ⟨o1,e1⟩:=pu ol h1;obtain ⟨a,b⟩:=pu o1 h2;exact ⟨a,b.trans (e1.trans (el.trans eu))⟩
     ·obtain ⟨l,hl,h⟩:=Option.bind_eq_some_iff.mp h;obtain ⟨ol,el⟩:=tk ou hl;obtain ⟨a,b⟩:=pu ol h;exact ⟨a,b.trans (el.trans eu)⟩
theorem Cn (oc:xo mc) (o:iV mc st) (h:dY mc st=some s):iV mc s/\(st.ended=false->s.ended=true->s.pile.length=1):=by
 unfold dY at h;split at h
 ·cases h
 ·split at h
  ·cases h
  ·split at h
   ·cases h
   ·unfold doM at h;split at h
    ·obtain ⟨p,hp,e⟩:=Option.map_eq_some_iff.mp h;cases e;obtain ⟨a,b⟩:=AO o hp;exact ⟨⟨a.p,a.l,a.k⟩,λz w=>by rw [show p.2.ended=true from w,z] at b;cases b⟩
    ·split at h
     ·obtain ⟨p,hp,e⟩:=Option.map_eq_some_iff.mp h;cases e;unfold kh at hp;split at hp
      ·rename_i hl;cases hp;exact ⟨⟨o.p,o.l,o.k⟩,λ_ _=>hl⟩
      ·cases hp
     ·obtain ⟨p,hp,e⟩:=Option.map_eq_some_iff.mp h;cases e;obtain ⟨a,b⟩:=yw oc.b2 o hp;exact ⟨⟨a.p,a.l,a.k⟩,λz w=>by rw [show p.ended=true from w,z] at b;cases b⟩
end
def tT (st:MS):D:=.tup [.int st.place,.tup (st.pile.reverse.map D.int)]
def fj (mc:MC):Nat->MS->List D
 | 0,_=>[]
 | n+1,st=>match dY mc st with
  | none=>[]
  | some s=>tT st::if s.ended=true then [] else fj mc n s
theorem Dx:∀ i:Nat,i < 17->NM[i]?=some (NM.getD i ""):=by
 intro i hi
 match i,hi with
 | 0,_=>rfl
 | 1,_=>rfl
 | 2,_=>rfl
 | 3,_=>rfl
 | 4,_=>rfl
 | 5,_=>rfl
 | 6,_=>rfl
 | 7,_=>rfl
 | 8,_=>rfl
 | 9,_=>rfl
 | 10,_=>rfl
 | 11,_=>rfl
 | 12,_=>rfl
 | 13,_=>rfl
 | 14,_=>rfl
 | 15,_=>rfl
 | 16,_=>rfl
 | n+17,h=>omega
def Ew (cs:List Int) (p m:Nat):List D:=((cD cs).drop (p+1)).take m
theorem A1 (c:Int):eA c<=2:=by
 unfold eA;split
 ·exact Nat.le_refl _
 ·split <;> omega
theorem AZ (cs:List Int) (p:Nat) (c:Int):Ew cs p (eA c)=(nsC cs p c).map D.int:=by unfold Ew nsC;rw [List.map_take,List.map_drop]
theorem DH:ns.length<=2->(∀ n ∈ ns,0<=n/\n<=99)->0<=gq ns/\gq ns<=9999:=by
 intro h2 h
 match ns,h2 with
 | [],_=>exact ⟨Int.le_refl _,by decide⟩
 | [a],_ =>have ha:=h a (by simp);show 0<=(0:Int) * 100+a/\(0:Int) * 100+a<=9999;omega
 | [a,b],_ =>have ha:=h a (by simp);have hb:=h b (by simp);show 0<=((0:Int) * 100+b) * 100+a/\((0:Int) * 100+b) * 100+a<=9999;omega
theorem CH {cs:List Int} (ok:okC cs):(nsC cs p c).length<=2/\∀ n ∈ nsC cs p c,0<=n/\n<=99:=by unfold nsC;refine ⟨by rw [List.length_take];have:=A1 c;omega,λn hn=>?_⟩;obtain ⟨i,hi⟩:=List.mem_iff_getElem?.mp (List.mem_of_mem_drop (List.mem_of_mem_take hn));exact ok.c i n hi
theorem BF {cs:List Int} (ok:okC cs):gq (nsC cs p c)=((kr cs p c:Nat):Int)/\kr cs p c<=9999:=by obtain ⟨h1,h2⟩:=CH (p:=p) (c:=c) ok;have:=DH h1 h2;unfold kr;omega
theorem Eu {cs:List Int} (h:mE cs p c=false):c<=16/\p+eA c < cs.length:=by unfold mE at h;rw [Bool.or_eq_false_iff] at h;have h1:=of_decide_eq_false h.1;have h2:=of_decide_eq_false h.2;omega
def AY (cs:List Int) (p:Nat):Bool:=match cs[p]? with
 | none=>true
 | some c=>mE cs p c
theorem tX (h:AY mc.cs st.place=true):dY mc st=none:=by
 unfold dY
 cases hc:mc.cs[st.place]? with
 | none=>rfl
 | some c =>
  have h':mE mc.cs st.place c=true:=by unfold AY at h;rw [hc] at h;exact h
  exact if_pos h'
theorem uW {t:TE} (h:RL K t σ H es):RE K (tCB (λxs H Q=>∃ p ys,xs=[.ref p]/\((SqL K H p ys/\∀ l,H l=none->Q (.ref l) (upd H l (.tup ys)))\/(SqT K H p ys/\Q (.ref p) H))) (bC t c7)) σ H (.tup es):=λH1 s Q q =>
 f7 ((h.mono s).use λv H' s' hd=>by
  obtain ⟨l,ys,rfl,hy,hd⟩:=hd;exact ⟨l,ys,rfl,.inl ⟨hy.sqL,λp hp=>q _ _ (s'.trans (aG hp _)) (Dat.tupI (SqT.of aq) ((aG hp _).dats hd))⟩⟩)
theorem zp:∀ i:Fin 17,NM.getD i ""="end"\/NM.getD i "" ∈ WS\/NM.getD i "" ∈ S10:=by decide +kernel
theorem zo (h0:0<=c) (h1:c<=16):nmC c="end"\/nmC c ∈ WS\/nmC c ∈ S10:=zp ⟨c.toNat,by omega⟩
theorem Cm (hc:mc.cs[st.place]?=some c) (hb:mE mc.cs st.place c=false):dY mc st =
  if nmC c="end" then (kh st).map λs=>{ s with place:=st.place+1+eA c }
  else if nmC c ∈ WS then (goR (nmC c) (kr mc.cs st.place c) (st.place+1+eA c) st).map λp=>{ p.2 with place:=p.1 }
  else (doR mc (nmC c) (kr mc.cs st.place c) st).map λs=>{ s with place:=st.place+1+eA c }:=by
 have e:dY mc st=if gj (nmC c) (kr mc.cs st.place c)=true then none else doM mc (nmC c) (kr mc.cs st.place c) (st.place+1+eA c) st:=by unfold dY;rw [hc];dsimp only;rw [if_neg (by rw [hb];exact Bool.false_ne_true)]
 rw [e];by_cases he:nmC c="end"
 ·rw [if_pos he,if_neg (by rw [he,lW (by decide +kernel) (by decide +kernel) (by decide +kernel)];exact Bool.false_ne_true)];unfold doM;rw [if_neg (by rw [he];decide +kernel),if_pos he]
 ·rw [if_neg he];by_cases hw:nmC c ∈ WS
  ·rw [if_pos hw];unfold goR doM;by_cases ht:gj (nmC c) (kr mc.cs st.place c)=true
   ·rw [if_pos ht,if_pos ht];rfl
   ·rw [if_neg ht,if_neg ht,if_pos hw]
  ·rw [if_neg hw];unfold doR doM;by_cases ht:gj (nmC c) (kr mc.cs st.place c)=true
   ·rw [if_pos ht,if_pos ht];rfl
   ·rw [if_neg ht,if_neg ht,if_neg hw,if_neg he]
theorem But2.grow {a b:Addr} {xs' ys':List V} (t:But2 a b H H') (h1:H a=some (.lst xs)) (h2:H b=some (.lst ys)) (h3:H' a=some (.lst xs')) (h4:H' b=some (.lst ys')):dH K H H':=by
 have nt:∀ {c:Addr} {o:HO},H c=some o->(∀ xs,o≠.lst xs)->H' c=some o:=λ{c o} e n =>
  t c o (λz=>n _ (by rw [z,h1] at e;cases e;rfl)) (λz=>n _ (by rw [z,h2] at e;cases e;rfl)) e
 refine ⟨λc xs q=>?_,λc zs q=>?_⟩
 ·rcases q with (q | ⟨u,q⟩) | q
  ·exact .inl (.inl (nt q (λ_ z=>by cases z)))
  ·exact .inl (.inr ⟨u,nt q (λ_ z=>by cases z)⟩)
  ·exact .inr q
 ·rcases q with (q | ⟨u,q⟩) | q
  ·by_cases e1:c=a
   ·exact ⟨_,SqL.of (by rw [e1];exact h3)⟩
   ·by_cases e2:c=b
    ·exact ⟨_,SqL.of (by rw [e2];exact h4)⟩
    ·exact ⟨zs,.inl (.inl (t c _ e1 e2 q))⟩
  ·exact ⟨zs,.inl (.inr ⟨u,nt q (λ_ z=>by cases z)⟩)⟩
  ·exact ⟨zs,.inr q⟩
theorem yv {s:MS} {num:Nat} (h:cC mc nm num st=some s):s.kept=st.kept:=by
 unfold cC at h;split at h
 ·exact (fS h).2.1
 ·split at h
  ·exact (fS h).2.1
  ·obtain ⟨u,hu,h⟩:=Option.bind_eq_some_iff.mp h;have ku:=(jH hu).2.1;split at h
   ·exact (fS h).2.1.trans ku
   ·split at h
    ·obtain ⟨s1,h1,h2⟩:=Option.bind_eq_some_iff.mp h;exact (fS h2).2.1.trans ((fS h1).2.1.trans ku)
    ·split at h
     ·obtain ⟨l,hl,h⟩:=Option.bind_eq_some_iff.mp h;obtain ⟨s1,h1,h2⟩:=Option.bind_eq_some_iff.mp h;exact (fS h2).2.1.trans ((fS h1).2.1.trans ((jH hl).2.1.trans ku))
     ·obtain ⟨l,hl,h⟩:=Option.bind_eq_some_iff.mp h;exact (fS h).2.1.trans ((jH hl).2.1.trans ku)
def jQ:Nat->List Int->List Int
 | _,[]=>[]
 | i,c::r=>c * ([1,100].getD i 0)::jQ (i+1) r
theorem tJ:∀ (i:Nat) (ns:List Int),(jQ i ns).length=ns.length
 | _,[]=>rfl
 | i,c::r=>by rw [jQ,List.length_cons,List.length_cons,tJ]
theorem tI:∀ (ns:List Int) (i k:Nat),(jQ i ns)[k]?=ns[k]?.map λc=>c * ([1,100].getD (i+k) 0)
 | [],_,_=>by simp [jQ]
 | c::r,i,0=>by simp [jQ]
 | c::r,i,k+1=>by
  rw [jQ,List.getElem?_cons_succ,List.getElem?_cons_succ,tI r (i+1) k];congr 2
  funext c
  rw [show i+1+k=i+(k+1) by omega]
theorem zN:ns.length<=2->(jQ 0 ns).sum=gq ns:=by
 intro h
 match ns,h with
 | [],_=>rfl
 | [a],_=>show a * 1+0=(0:Int) * 100+a;omega
 | [a,b],_=>show a * 1+(b * 100+0)=((0:Int) * 100+b) * 100+a;omega
theorem Ci (h1:RE K te σ G d) (h2:RC K tl σ G es)
  (q:∀ v G1,Same G G1->Dat K G1 d v->∀ l ys G2,Same G1 G2->G2 l=some (.lst ys)->Dats K G2 es ys->∀ p,G2 p=none->En.rt (.ref p) (upd G2 p (.tup [v,.ref l]))):Az (vi (bC te (bC tl c7))) En σ G :=
 h1.use λv G1 s q1=>(h2.mono s).use λl ys G2 n s2 hy dy=>⟨bU (show 2<=1000 by decide),λp np=>q v G1 s q1 l ys G2 s2 hy dy p np⟩
theorem Am {tk:TE} {fs:List D} (h:RC K tl σ H es) (h2:RC K tk σ H fs)
  (q:∀ l ys H1,H l=none->Same H H1->H1 l=some (.lst ys)->Dats K H1 es ys->∀ l2 zs H2,H1 l2=none->Same H1 H2->H2 l2=some (.lst zs)->Dats K H2 fs zs->us En ((σ.set i (some (.ref l))).set j (some (.ref l2))) H2):jK (Ej i j (bC tl (bC tk c7))) us En σ H :=
 h.use λl ys H1 n s hy dy=>(h2.mono s).use λl2 zs H2 n2 s2 hz dz=>⟨_,_,rfl,q l ys H1 n s hy dy l2 zs H2 n2 s2 hz dz⟩
def Au (K:W.Frag):Sp:=λvs H Q _=>∃ (lc lk:Addr) (vg:V) (mc:MC) (n:Nat) (s0:MS),vs=[.ref lc,vg,.int mc.b,.int n,.int s0.place,.ref lk]/\xo mc/\iV mc s0/\s0.pile=[]/\s0.ended=false/\H lc=some (.lst (mc.cs.map V.int))/\H lk=some (.lst (kpV s0.kept))/\lc≠lk/\Dat K H (.tup (mc.as.map D.int)) vg/\n<=1000 /\
 ∀ (p:Addr) (v1:V) (ld:Addr) (ys:List V) (H':Hp),But lk H H'->H' p=some (.tup [v1,.ref ld])->Dat K H' (Cc (iJ mc n s0)) v1->H' ld=some (.lst ys)->Dats K H' (fj mc n s0) ys->Q (.ref p) H'
theorem qR (T:Txt P w K mg) (IJ:Ok P w base k T.Gq (hV K uk)) (IC:Ok P w base k T.GN (spD K C2)) (Ja:Ok P w base k T.Ht (Av K)) (IX:Ok P w base k T.Hq (As K)):Ok P w base (k+1) T.Hs (Au K):=by
 refine T.Hs.f.ok sc__law_from (λvs H Q E h=>?_) (λcdv A outer s H vs Q E hr h=>?_)
 ·obtain ⟨lc,lk,vg,mc,n,s0,rfl,_⟩:=h;rfl
 have nd:=sc__law_from.nd;obtain ⟨lc,lk,vg,mc,n,s0,rfl,oc,os,hpl,hen,hc,hk,nck,hg,n9,post⟩:=h;refine ⟨_,(ao (lH (i:=6) (j:=7) rfl nd rfl rfl (by decide) rfl rfl (ag (bh af) (ag (bh af) af)) (by kernel_rfl))
 (ao (gu PassesOwn.never rfl (jD rfl T.HN (ag (pv 3) af)) (aQ (i:=8) nd rfl (Or.inl rfl)) (ao (a7 (PW.pt (cO (aC jg (pv 4) aj (aJ _)) (cO (aC wb (pv 4) (aP aM rfl T.Fw bq (ag (pv 0) af)) (aJ _)) (cP (aC iN (aI bf (pv 0) (pv 4)) aj (aJ _)))))) (au (aF (aU (ag (aU (ag aE (ag (pv 4) af))) (ag (pv 7) af))))) aL)
 (ao (lH (i:=9) (j:=10) rfl nd rfl rfl (by decide) rfl rfl (ag (aI bf (tF IJ hr rfl T.Gq.m T.Gq.f.kp T.Gq.b .nil zE) (aI bf (pv 0) (pv 4))) (ag (pc (D:=T.GN) IC hr (ag (aI bf (pv 0) (pv 4)) af)) af)) (by kernel_rfl))
 (ao (bo (i:=11) nd rfl (Or.inl rfl) (gN Ck (pv 0) (gA (ba cX (pv 4) aj)) (gA (ba cX (ba cX (pv 4) aj) (pv 10)))))
 (ao (a7 (aC jg (aP aM rfl T.Fw bq (ag (pv 11) af)) (pv 10) (aJ _)) (au (aF (aU (ag (aU (ag aE (ag (pv 4) af))) (ag (pv 7) af))))) aL)
 (ao (bo (i:=12) nd rfl (Or.inl rfl) (aP (r6 rfl) rfl T.Jz yn (ag (cq (own:=["_law_spot","_law_cell"]) (fr:=[]) (N':=["_law_spot","_law_cell"]) (zI rfl T.Il (ag (pv 11) af)) rfl (by show bW ["_law_code","_law_args_here","_law_base","_law_most","_law_at","_law_ways","_law_pile","_law_did","_law_k","_law_name","_law_many","_law_cells","_law_number","_law_on","_law_now"] (λx=>(aD jn).names.lookup x) _ _ _ _=true;decide +kernel) rfl (λ_ _ _ _ _=>(kC (K:=K) (n:=2) rfl rfl (a8 (aQ (i:=0) (by show List.Nodup [("_law_spot":Str),("_law_cell":Str)];decide +kernel) rfl (Or.inl rfl)) (a8 (aQ (i:=1) (by show List.Nodup [("_law_spot":Str),("_law_cell":Str)];decide +kernel) rfl (Or.inl rfl)) cu)))) (λ_ _ _ _ _=>bN) (λ_ _ _ _ _=>(ba rg (pv 1) (aI (r:=kG K) aK (aU (ag aj (ag aj af))) (pv 0))))) af)))
 (ao (lH (i:=13) (j:=14) rfl nd rfl rfl (by decide) rfl rfl (ag (ba cX (ba cX (pv 4) aj) (aP aM rfl T.Fw bq (ag (pv 11) af))) (ag (aU (ag (pv 4) (ag (cI bV rfl T.FT cg (ag (pv 6) af)) af))) af)) (by kernel_rfl))
 (ao (a7 (aC bz (pv 9) aE (aJ _)) (ao (a7 (aC iP (aP aM rfl T.Fw bq (ag (pv 6) af)) aj (aJ _)) (au (aF (aU (ag (aU (ag aE (ag (pv 4) af))) (ag (pv 7) af))))) aL)
 (au (aF (aU (ag (aU (ag aE (ag (aI bf (pv 6) aj) af))) (ag (ba dt (pv 7) (bh (ag (pv 14) af))) af)))))) aL)
 (ao (a7 (aC fq (pv 9) (aU (ag aE (ag aE (ag aE (ag aE (ag aE (ag aE af))))))) (by with_unfolding_all rfl)) (au (bo (i:=13) nd rfl (Or.inl rfl) (pc (D:=T.Ht) Ja hr (ag (pv 9) (ag (pv 12) (ag (pv 13) (ag (pv 6) (ag (pv 5) af)))))))) (au (a7 (bP (bg (pc (D:=T.Hq) IX hr (ag (pv 9) (ag (pv 12) (ag (pv 6) (ag (pv 1) (ag (pv 2) af)))))) (λ_=>rfl))) (au (bo (i:=13) nd rfl (Or.inl rfl) dN)) aL)))
 (ao (a7 (aC rf (pv 13) dN (aJ _)) (au (aF (aU (ag (aU (ag aE (ag (pv 4) af))) (ag (pv 7) af))))) aL)
 (ao (bu (dk PySem.F.plainAttrs_list PySem.F.slot_list_append PySem.F.type_list_append br (pv 7) (ag (pv 14) af)))
 (au (bo (i:=4) nd rfl (Or.inl rfl) (pv 13))))))))))))))
 (au (aF (aU (ag (aU (ag aE (ag aj af))) (ag (pv 7) af))))))),?_⟩
 have okc:=oc.cs;have l1:=okc.l1;refine Am (K:=K) (es:=[]) (fs:=[]) (eK aA) (eK aA) λlp ysp H1 nlp t1 hyp dyp ld ysd H2 nld t2 hyd dyd=>?_;obtain rfl:=dyp.nilE;obtain rfl:=dyd.nilE;have t12:=t1.trans t2;have JN:lp≠lk:=λz=>by rw [z,hk] at nlp;cases nlp
 have JI:lp≠lc:=λz=>by rw [z,hc] at nlp;cases nlp
 have JM:ld≠lk:=λz=>by rw [z,t1 _ _ hk] at nld;cases nld
 have JO:ld≠lc:=λz=>by rw [z,t1 _ _ hc] at nld;cases nld
 have Jw:ld≠lp:=λz=>by rw [z,hyp] at nld;cases nld
 have hlp0:H lp=none:=nlp;have hld0:H ld=none:=t1.free nld
 have fin:∀ {te:TE} {σ:L2.St} {G:Hp} {xs:List V} (r:Res),RE K te σ G (Cc r)->iJ mc n s0=r->G ld=some (.lst xs)->Dats K G (fj mc n s0) xs->But lk H G->σ[7]?=some (some (.ref ld))->Az (vi (bC te (bC (fG 7) c7))) { nx:=λ_ H'=>Q .non H',rt:=Q } σ G:=λ{te σ G xs} r h1 h2 h3 h4 h5 h6 =>
  h1.use λv G1 u1 q1=>⟨_,h6,bU (show 2<=1000 by decide),λp np=>post p v ld xs _ ((h5.trans u1.but).trans (aG np _).but) aq (by rw [h2];exact (aG np _).dat q1) ((aG np _) _ _ (u1 _ _ h3)) ((u1.trans (aG np _)).dats h4)⟩
 refine cf ⟨_,rfl,(n:Int),rfl,by omega,by omega,pw (n:=(n:Int).toNat) (λi σ G=>∃ (st:MS) (xs:List V) (rows:List D) (z8 z9 z10 z11 z12 z13 z14:Option V),σ=[some (.ref lc),some vg,some (.int mc.b),some (.int n),some (.int st.place),some (.ref lk),some (.ref lp),some (.ref ld),z8,z9,z10,z11,z12,z13,z14] /\
  G lc=some (.lst (mc.cs.map V.int))/\Dat K G (.tup (mc.as.map D.int)) vg/\G lp=some (.lst (pV st.pile))/\G lk=some (.lst (kpV st.kept))/\G ld=some (.lst xs)/\Dats K G rows xs/\iV mc st/\st.ended=false/\But lk H G/\iJ mc n s0=iJ mc (n - i) st/\rows++fj mc (n - i) st=fj mc n s0/\rows.length=i) ?_ ?_ ?_⟩
 ·exact ⟨s0,[],[],none,none,none,none,none,none,none,rfl,t12 _ _ hc,t12.dat hg,by rw [hpl];exact t2 _ _ hyp,t12 _ _ hk,hyd,Dats.nil,os,hen,t12.but,rfl,rfl,rfl⟩
 ·rintro i σ G hi ⟨st,xs,rows,z8,z9,z10,z11,z12,z13,z14,rfl,gc,gg,gp,gk,gd,dG,os,he,bG,hr2,ht2,lrow⟩;refine iI ?_;dsimp only;obtain ⟨k',ek⟩:∃ k',n - i=k'+1:=⟨n - i - 1,by omega⟩
  have ek2:n - (i+1)=k':=by omega
  rw [ek] at hr2 ht2;have ll:=dG.length;have hin:i < n:=by omega
  have LC:∀ {F:Hp},Same G F->LD K F (cD mc.cs) (.ref lc):=λs=>LD.of (s _ _ gc) (dC _)
  cases hcs:mc.cs[st.place]? with
  | none =>
   have hp:mc.cs.length<=st.place:=List.getElem?_eq_none_iff.mp hcs;have e:dY mc st=none:=by unfold dY;rw [hcs]
   refine aH (K:=K) (b:=true) (RT.as (bJ (b:=false) (c:=true) (RT.as (ay (bT (p:=λi j=>decide (i < j)) (ab (K:=K) (k:=4) (Dat.intI (st.place:Int))) ak)) (decide_eq_false (by omega))) λ_=>RT.as (bJ (b:=true) (c:=true) (RT.as (ay (bT (p:=λi j=>decide (j<=i)) (ab (K:=K) (k:=4) (Dat.intI (st.place:Int))) (cT (aT (k:=0) (LC (Same.refl _)))))) (decide_eq_true (by rw [List.length_map];omega))) λz=>nomatch z) rfl) rfl) (λ_ G1 u1=>?_) (λc=>nomatch c);exact fin (.fault st.place) (aZ (ae az (ae (ab (K:=K) (k:=4) (Dat.intI (st.place:Int))) aA))) (by rw [hr2,iJ,e]) (u1 _ _ gd) (by rw [fj,e] at ht2;dsimp only at ht2;rw [List.append_nil] at ht2;rw [<- ht2];exact u1.dats dG) (bG.trans u1.but) rfl
  | some c =>
  have hp:st.place < mc.cs.length:=(List.getElem?_eq_some_iff.mp hcs).1;obtain ⟨c0,c99⟩:=okc.c _ _ hcs;have hx':=Ex hcs;have rc:∀ {F:Hp} {w8 w9 w10 w11 w12 w13 w14:Option V},Same G F->RE K (tOp (uT K) (fG 0) (fG 4)) [some (.ref lc),some vg,some (.int mc.b),some (.int n),some (.int st.place),some (.ref lk),some (.ref lp),some (.ref ld),w8,w9,w10,w11,w12,w13,w14] F (.int c):=λs=>gv (k:=st.place) (aT (k:=0) (LC s)) (ab (K:=K) (k:=4) (Dat.intI (st.place:Int))) hx';refine aH (K:=K) (b:=decide (16 < c)) (RT.as (bJ (b:=false) (c:=decide (16 < c)) (RT.as (ay (bT (p:=λi j=>decide (i < j)) (ab (K:=K) (k:=4) (Dat.intI (st.place:Int))) ak)) (decide_eq_false (by omega))) λ_=>RT.as (bJ (b:=false) (c:=decide (16 < c)) (RT.as (ay (bT (p:=λi j=>decide (j<=i)) (ab (K:=K) (k:=4) (Dat.intI (st.place:Int))) (cT (aT (k:=0) (LC (Same.refl _)))))) (decide_eq_false (by rw [List.length_map];omega))) λ_=>ay (bT (p:=λi j=>decide (j < i)) (rc (Same.refl _)) ak)) rfl) rfl) (λc16 G1 u1=>?_) (λc16 G1 u1=>?_)
  ·have e:dY mc st=none:=tX (by unfold AY;rw [hcs];show mE _ _ _=true;unfold mE;rw [c16];rfl);exact fin (.fault st.place) (aZ (ae az (ae (ab (K:=K) (k:=4) (Dat.intI (st.place:Int))) aA))) (by rw [hr2,iJ,e]) (u1 _ _ gd) (by rw [fj,e] at ht2;dsimp only at ht2;rw [List.append_nil] at ht2;rw [<- ht2];exact u1.dats dG) (bG.trans u1.but) rfl
  ·have c16:=of_decide_eq_false c16;have hn:(NM.map D.str)[c.toNat]?=some (.str (nmC c)):=by rw [List.getElem?_map,Dx c.toNat (by omega)];rfl
   have ec:c=((c.toNat:Nat):Int):=by omega
   refine Al (K:=K) (d:=.str (nmC c)) (e:=.int (eA c)) (ae (gv (k:=c.toNat) Aj (RE.as (rc u1) (congrArg D.int ec)) hn) (ae (a9 (R:=C2) (ae (rc u1) aA) ⟨c,rfl,rfl⟩) aA)) λv9 v10 G2 u2 d9 d10=>?_;obtain rfl:=d9.strE;obtain rfl:=d10.intE;have u12:=u1.trans u2;have el:(st.place:Int)+1=((st.place+1:Nat):Int):=by omega
   have eh:(st.place:Int)+1+(eA c:Int)=((st.place+1+eA c:Nat):Int):=by omega
   refine fT (K:=K) (es:=(nsC mc.cs st.place c).map D.int) (RC.as (B3 (lo:=st.place+1) (hi:=st.place+1+eA c) (aT (k:=0) (LC u12)) (RE.as (d6 (ab (K:=K) (k:=4) (Dat.intI (st.place:Int))) ak) (congrArg D.int el)) (RE.as (d6 (d6 (ab (K:=K) (k:=4) (Dat.intI (st.place:Int))) ak) (ab (k:=10) (Dat.intI (eA c:Int)))) (congrArg D.int eh))) (by rw [show st.place+1+eA c - (st.place+1)=eA c by omega];exact AZ mc.cs st.place c)) λl11 ys11 G3 n11 u3 hy11 dy11=>?_;have u13:=u12.trans u3;have L11:LD K G3 ((nsC mc.cs st.place c).map D.int) (.ref l11):=LD.of hy11 dy11;have lns:(nsC mc.cs st.place c).length=min (eA c) (mc.cs.length - (st.place+1)):=by unfold nsC;rw [List.length_take,List.length_drop]
   refine aH (K:=K) (b:=mE mc.cs st.place c) (RT.as (ay (bT (p:=λi j=>decide (i < j)) (cT (aT (k:=11) L11)) (ab (k:=10) (Dat.intI (eA c:Int))))) ?_) (λhb G4 u4=>?_) (λhb G4 u4=>?_)
   ·unfold mE;rw [decide_eq_false c16,Bool.false_or,List.length_map,lns];exact ib (by omega)
   ·have e:dY mc st=none:=tX (by unfold AY;rw [hcs];exact hb);exact fin (.fault st.place) (aZ (ae az (ae (ab (K:=K) (k:=4) (Dat.intI (st.place:Int))) aA))) (by rw [hr2,iJ,e]) ((u13.trans u4) _ _ gd) (by rw [fj,e] at ht2;dsimp only at ht2;rw [List.append_nil] at ht2;rw [<- ht2];exact (u13.trans u4).dats dG) (bG.trans (u13.trans u4).but) rfl
   have u14:=u13.trans u4;have L11:=u4.ld L11;obtain ⟨h16,hlb⟩:=Eu hb;obtain ⟨en,n99⟩:=BF (p:=st.place) (c:=c) okc;obtain ⟨l2,nsb⟩:=CH (p:=st.place) (c:=c) okc;have lnb:(nsC mc.cs st.place c).length=eA c:=by rw [lns];omega
   have se:=Cm hcs hb;have nmc:=zo c0 h16;generalize nmC c=nm at *;generalize hnum:kr mc.cs st.place c=num at *;refine eT (K:=K) (d:=.int num) (RE.as (wC (ns:=jQ 0 (nsC mc.cs st.place c)) (eQ (Aa (aT (k:=11) L11) (by rw [List.length_map];omega) ((jQ 0 (nsC mc.cs st.place c)).map D.int) (by rw [List.length_map,List.length_map,tJ]) (by decide) rfl (λF k cc e w s hcc hee hw=>?_)))) (by rw [zN l2,en])) λv12 G5 u5 d12=>?_
   ·rw [List.getElem?_map] at hcc hee;rw [tI] at hee;obtain ⟨x,hx,rfl⟩:=Option.map_eq_some_iff.mp hcc;rw [hx] at hee;have ee:D.int (x * ([1,100]:List Int).getD (0+k) 0)=e:=Option.some.inj hee;subst ee;have xb:=nsb x (List.mem_of_getElem? hx);have k2:k < 2:=by have:=(List.getElem?_eq_some_iff.mp hx).1;omega
    have hg2:([.int 1,.int 100]:List D)[k]?=some (.int (([1,100]:List Int).getD (0+k) 0)):=by
     match k,k2 with
     | 0,_=>rfl
     | 1,_=>rfl
    have gb:([1,100]:List Int).getD (0+k) 0=1\/([1,100]:List Int).getD (0+k) 0=100:=by
     match k,k2 with
     | 0,_=>exact .inl rfl
     | 1,_=>exact .inr rfl
    exact Ae (ab (k:=1) hw) (aN (k:=k) (aZ (ae ak (ae ak aA))) (ab (k:=0) (Dat.intI (k:Int))) hg2) (.inr ⟨by omega,by omega⟩)
   obtain rfl:=d12.intE;have u15:=u14.trans u5;have eo:(st.place:Int)+1+(((nsC mc.cs st.place c).map D.int).length:Int)=((st.place+1+eA c:Nat):Int):=by rw [List.length_map,lnb];omega
   have LP:∀ {F:Hp},F lp=some (.lst (pV st.pile))->LD K F (st.pile.reverse.map D.int) (.ref lp):=λh=>LD.of h (dC _);refine Al (K:=K) (d:=.int ((st.place+1+eA c:Nat):Int)) (e:=tT st) (ae (RE.as (d6 (d6 (ab (K:=K) (k:=4) (Dat.intI (st.place:Int))) ak) (cT (aT (k:=11) (u5.ld L11)))) (congrArg D.int eo)) (ae (aZ (ae (ab (K:=K) (k:=4) (Dat.intI (st.place:Int))) (ae (uW (aT (k:=6) (LP (u15 _ _ gp)))) aA))) aA)) λv13 v14 G6 u6 d13 d14=>?_;obtain rfl:=d13.intE;have u16:=u15.trans u6;generalize st.place+1+eA c=on at *;refine aH (K:=K) (b:=decide (nm="end")) (ay (aY (ab (K:=K) (k:=9) (Dat.strI nm)) az)) (λce G7 u7=>?_) (λce G7 u7=>?_)
   ·have ce:=of_decide_eq_true ce;rw [if_pos ce] at se;have u17:=u16.trans u7;refine aH (K:=K) (b:=!decide (st.pile.length=1)) (RT.as (ay (fN (cT (aT (k:=6) (LP (u17 _ _ gp)))) ak)) (congrArg Bool.not (ib (by rw [List.length_map,List.length_reverse];omega)))) (λcl G8 u8=>?_) (λcl G8 u8=>?_)
    ·have cl:=of_decide_eq_false ((Bool.not_eq_true' _).mp cl);have e:dY mc st=none:=by rw [se];unfold kh;rw [if_neg cl];rfl
     exact fin (.fault st.place) (aZ (ae az (ae (ab (K:=K) (k:=4) (Dat.intI (st.place:Int))) aA))) (by rw [hr2,iJ,e]) ((u17.trans u8) _ _ gd) (by rw [fj,e] at ht2;dsimp only at ht2;rw [List.append_nil] at ht2;rw [<- ht2];exact (u17.trans u8).dats dG) (bG.trans (u17.trans u8).but) rfl
    ·have cl:=of_decide_eq_true ((Bool.not_eq_false' _).mp cl)
     obtain ⟨x,hx⟩:∃ x,st.pile=[x]:=by
      match hq:st.pile,cl with
      | [x],_=>exact ⟨x,rfl⟩
     have e:dY mc st=some { st with ended:=true,place:=on }:=by rw [se];unfold kh;rw [if_pos cl];rfl
     have u18:=u17.trans u8
     have hrE:iJ mc n s0=.ends x:=by rw [hr2,iJ,e];show (if true=true then Res.ends (st.pile.headD 0) else _)=_;rw [if_pos rfl,hx];rfl
     have htE:rows++[tT st]=fj mc n s0:=by rw [<- ht2,fj,e];rfl
     have LDd:∀ {F:Hp},Same G F->LD K F rows (.ref ld):=λs=>LD.of (s _ _ gd) (s.dats dG);refine Ci (K:=K) (d:=.tup [.str "ends",.int x]) (aZ (ae az (ae (gv (k:=0) (aT (k:=6) (LP (u18 _ _ gp))) ak (by rw [hx];rfl)) aA))) (dv (aT (k:=7) (LDd u18)) (eQ (eK (ae (ab (k:=14) ((u7.trans u8).dat d14)) aA))) (by show rows.length+1<=1000;omega)) λv1 G9 u9 q9 l2 ys2 GA ua hya dya p np=>?_;have u19:=u18.trans u9;have uA:=(u19.trans ua).trans (aG np (.tup [v1,.ref l2]));refine post p v1 l2 ys2 _ (bG.trans uA.but) aq ?_ ((aG np _) _ _ hya) ?_
     ·rw [hrE];exact (ua.trans (aG np _)).dat q9
     ·rw [<- htE];exact (aG np _).dats dya
   have ce:=of_decide_eq_false ce;rw [if_neg ce] at se;have u17:=u16.trans u7;have d14:=u7.dat d14
   have nmc:nm ∈ WS\/nm ∈ S10:=by
    rcases nmc with h | h | h
    ·exact absurd h ce
    ·exact .inl h
    ·exact .inr h
   refine mO (λσ' G'=>∃ w13:V,σ'=[some (.ref lc),some vg,some (.int mc.b),some (.int n),some (.int st.place),some (.ref lk),some (.ref lp),some (.ref ld),some (.int (0+(i:Int))),some (.str nm),some (.int (eA c)),some (.ref l11),some (.int num),some w13,some v14] /\
    G' lc=some (.lst (mc.cs.map V.int))/\Dat K G' (.tup (mc.as.map D.int)) vg/\G' ld=some (.lst xs)/\Dats K G' rows xs/\Dat K G' (tT st) v14/\But lk H G' /\
    ((w13=.non/\dY mc st=none)\/∃ s',dY mc st=some s'/\s'.ended=false/\w13=.int s'.place/\G' lp=some (.lst (pV s'.pile))/\G' lk=some (.lst (kpV s'.kept)))) ?_ ?_
   ·rintro σ' G' ⟨w13,rfl,fc,fg,fd,fD,f14,fB,hor⟩;rcases hor with ⟨rfl,e⟩ | ⟨s',e,es,rfl,fp,fk⟩
    ·refine aH (K:=K) (b:=true) (RT.as (ay (lK (K:=K) (d:=.non) (ab (k:=13) Dat.nonI))) rfl) (λ_ G8 u8=>?_) (λc=>nomatch c);exact fin (.fault st.place) (aZ (ae az (ae (ab (K:=K) (k:=4) (Dat.intI (st.place:Int))) aA))) (by rw [hr2,iJ,e]) (u8 _ _ fd) (by rw [fj,e] at ht2;dsimp only at ht2;rw [List.append_nil] at ht2;rw [<- ht2];exact u8.dats fD) (fB.trans u8.but) rfl
    ·refine aH (K:=K) (b:=false) (RT.as (ay (lK (K:=K) (d:=.int (s'.place:Int)) (ab (k:=13) (Dat.intI _)))) rfl) (λc=>nomatch c) (λ_ G8 u8=>?_);obtain ⟨os2,_⟩:=Cn oc os e;have fd8:=u8 _ _ fd;refine Ak (K:=K) (d:=tT st) (ab (k:=14) (u8.dat f14)) fd8 (by omega) λy G9 b9 fd9 dy9=>?_;have gr:=b9.grow (K:=K) fd8 fd9;refine ⟨_,rfl,s',xs++[y],rows++[tT st],_,_,_,_,_,_,_,rfl,b9 _ _ (Ne.symm JO) (u8 _ _ fc),Dat.mono gr _ (u8.dat fg),b9 _ _ (Ne.symm Jw) (u8 _ _ fp),b9 _ _ (Ne.symm JM) (u8 _ _ fk),fd9,Dats.append (Dats.mono gr _ (u8.dats fD)) (Dats.cons dy9 Dats.nil),os2,es,λx o nx ex=>b9 x o (λz=>by rw [z,hld0] at ex;cases ex) (u8 _ _ (fB x o nx ex)),?_,?_,by rw [List.length_append,lrow];rfl⟩
     ·rw [hr2,iJ,e,ek2];show (if s'.ended=true then _ else _)=_;rw [es,if_neg Bool.false_ne_true]
     ·rw [<- ht2,fj,e,ek2,List.append_assoc];show _++([tT st]++_)=_++(tT st::if s'.ended=true then _ else _)
      rw [es,if_neg Bool.false_ne_true];rfl
   ·intro J;refine RT.use (b:=decide (nm ∈ WS)) (ay (lJ (ys:=["skip","jump","zero","none","call","back"]) (ab (K:=K) (k:=9) (Dat.strI nm)) (aZ (ae az (ae az (ae az (ae az (ae az (ae az aA))))))))) λG8 u8=>?_;have u18:=u17.trans u8;have d14:=u8.dat d14;have gp8:=u18 _ _ gp;have gk8:=u18 _ _ gk;by_cases hw:nm ∈ WS
    ·rw [decide_eq_true hw];rw [if_pos hw] at se;refine gU ⟨_,rfl,_,rfl,_,rfl,_,rfl,_,rfl,nm,num,on,lp,lk,st,rfl,hw,gp8,gk8,JN,os.k,λp hp9 G9 b9 fp fk=>?_,λhn9 G9 zs ws b9 fp fk=>?_⟩
     ·have gr:=b9.grow (K:=K) gp8 gk8 fp fk;refine J _ G9 ⟨_,rfl,b9 _ _ (Ne.symm JI) nck (u18 _ _ gc),Dat.mono gr _ (u18.dat gg),b9 _ _ Jw JM (u18 _ _ gd),Dats.mono gr _ (u18.dats dG),Dat.mono gr _ d14,λx o nx ex=>b9 x o (λz=>by rw [z,hlp0] at ex;cases ex) nx (u18 _ _ (bG x o nx ex)),.inr ⟨{ p.2 with place:=p.1 },by rw [se,hp9];rfl,?_,rfl,fp,fk⟩⟩;show p.2.ended=false;unfold goR at hp9;split at hp9
      ·cases hp9
      ·rw [(AO os hp9).2];exact he
     ·have gr:=b9.grow (K:=K) gp8 gk8 fp fk;exact J _ G9 ⟨_,rfl,b9 _ _ (Ne.symm JI) nck (u18 _ _ gc),Dat.mono gr _ (u18.dat gg),b9 _ _ Jw JM (u18 _ _ gd),Dats.mono gr _ (u18.dats dG),Dat.mono gr _ d14,λx o nx ex=>b9 x o (λz=>by rw [z,hlp0] at ex;cases ex) nx (u18 _ _ (bG x o nx ex)),.inl ⟨rfl,by rw [se,hn9];rfl⟩⟩
    ·rw [decide_eq_false hw];rw [if_neg hw] at se;have hss:nm ∈ S10:=nmc.resolve_left hw;refine ik ⟨_,rfl,_,rfl,_,rfl,_,rfl,_,rfl,nm,num,lp,vg,mc,st,rfl,hss,gp8,u18.dat gg,oc,os,λs' hs9 G9 b9 fp=>⟨true,rfl,?_⟩,λhn9 G9 zs b9 fp=>⟨false,rfl,?_⟩⟩
     ·have gr:=b9.grow (K:=K) gp8 fp;refine ik (J _ G9 ⟨_,rfl,b9 _ _ (Ne.symm JI) (u18 _ _ gc),Dat.mono gr _ (u18.dat gg),b9 _ _ Jw (u18 _ _ gd),Dats.mono gr _ (u18.dats dG),Dat.mono gr _ d14,λx o nx ex=>b9 x o (λz=>by rw [z,hlp0] at ex;cases ex) (u18 _ _ (bG x o nx ex)),.inr ⟨{ s' with place:=on },by rw [se,hs9];rfl,?_,rfl,fp,?_⟩⟩)
      ·show s'.ended=false;unfold doR at hs9;split at hs9
       ·cases hs9
       ·rw [(yw oc.b2 os hs9).2];exact he
      ·show G9 lk=some (.lst (kpV s'.kept))
       have ekk:s'.kept=st.kept:=by
        unfold doR at hs9;split at hs9
        ·cases hs9
        ·exact yv hs9
       rw [ekk];exact b9 _ _ (Ne.symm JN) gk8
     ·have gr:=b9.grow (K:=K) gp8 fp;exact gU (J _ G9 ⟨_,rfl,b9 _ _ (Ne.symm JI) (u18 _ _ gc),Dat.mono gr _ (u18.dat gg),b9 _ _ Jw (u18 _ _ gd),Dats.mono gr _ (u18.dats dG),Dat.mono gr _ d14,λx o nx ex=>b9 x o (λz=>by rw [z,hlp0] at ex;cases ex) (u18 _ _ (bG x o nx ex)),.inl ⟨rfl,by rw [se,hn9];rfl⟩⟩)
 ·rintro σ G ⟨st,xs,rows,z8,z9,z10,z11,z12,z13,z14,rfl,gc,gg,gp,gk,gd,dG,os,he,bG,hr2,ht2,lrow⟩;have e0:n - (n:Int).toNat=0:=by omega
  rw [e0] at hr2 ht2;have ht2:rows++[]=fj mc n s0:=ht2;rw [List.append_nil] at ht2;exact fin .late (aZ (ae az (ae ak aA))) hr2 gd (by rw [<- ht2];exact dG) bG rfl
abbrev st0:MS:=⟨[],0,[],false⟩
theorem DK:iV mc st0:=⟨(λ_ h=>by cases h),by show 0<=64;decide,by show 0<=16;decide⟩
def uZ (K:W.Frag):Sp:=λvs H Q _=>∃ (lc:Addr) (vg:V) (mc:MC) (n:Nat),vs=[.ref lc,vg,.int mc.b,.int n]/\xo mc/\H lc=some (.lst (mc.cs.map V.int))/\Dat K H (.tup (mc.as.map D.int)) vg/\n<=1000 /\
 ∀ (p:Addr) (v1:V) (ld:Addr) (ys:List V) (H':Hp),Same H H'->H' p=some (.tup [v1,.ref ld])->Dat K H' (Cc (iJ mc n st0)) v1->H' ld=some (.lst ys)->Dats K H' (fj mc n st0) ys->Q (.ref p) H'
theorem sW (T:Txt P w K mg) (IZ:Ok P w base k T.Hs (Au K)):Ok P w base (k+1) T.HD (uZ K):=by
 refine T.HD.f.ok sc__law_run (λvs H Q E h=>?_) (λcdv A outer s H vs Q E hr h=>?_)
 ·obtain ⟨lc,vg,mc,n,rfl,_⟩:=h;rfl
 have nd:=sc__law_run.nd;obtain ⟨lc,vg,mc,n,rfl,oc,hc,hg,n9,post⟩:=h;refine ⟨_,(au (aF (pc (D:=T.Hs) IZ hr (ag (pv 0) (ag (pv 1) (ag (pv 2) (ag (pv 3) (ag aj (ag (bh af) af))))))))),?_⟩;refine ⟨_,rfl,_,rfl,_,rfl,_,rfl,bU (by decide),λlk nk=>?_⟩;have ne:lc≠lk:=λz=>by rw [<- z,hc] at nk;cases nk
 have s1:=aG nk (.lst []);refine ⟨lc,lk,vg,mc,n,st0,rfl,oc,DK,rfl,rfl,s1 _ _ hc,aq,ne,s1.dat hg,n9,λp v1 ld ys H' b h1 h2 h3 h4=>post p v1 ld ys H' (λx o e=>b x o (λz=>by rw [z,nk] at e;cases e) (s1 x o e)) h1 h2 h3 h4⟩
abbrev oN (x:Int):Prop:=0<=x/\x<=99
theorem ng:∀ (p:Pa) (t:Tr) (f:Fnd),okT t->bI p t=some f->(∀ x ∈ f.2.1,0<=x/\x<=9999)/\∀ x ∈ f.2.2,0<=x/\x<=3
 | .hole i,t,f,_,h=>by cases h;exact ⟨λx hx=>(nomatch hx),λx hx=>(nomatch hx)⟩
 | .gap i m,t,f,ok,h=>by obtain ⟨n,rfl,_,rfl⟩:=fQ h;exact ⟨λx hx=>by rw [List.mem_singleton.mp hx];exact ok,λx hx=>(nomatch hx)⟩
 | .slot i,t,f,ok,h=>by obtain ⟨n,rfl,rfl⟩:=kl h;exact ⟨λx hx=>(nomatch hx),λx hx=>by rw [List.mem_singleton.mp hx];exact ok⟩
 | .num m,t,f,ok,h=>by obtain ⟨rfl,rfl⟩:=qz h;exact ⟨λx hx=>(nomatch hx),λx hx=>(nomatch hx)⟩
 | .two o a b,t,f,ok,h=>by obtain ⟨x,y,f1,f2,rfl,h1,h2,rfl⟩:=gF h;obtain ⟨a1,a2⟩:=ng a x f1 ok.2.1 h1;obtain ⟨b1,b2⟩:=ng b y f2 ok.2.2 h2;exact ⟨λz hz=>(List.mem_append.mp hz).elim (a1 z) (b1 z),λz hz=>(List.mem_append.mp hz).elim (a2 z) (b2 z)⟩
def ql:Cl->Bool
 | .n i=>decide (0<=i) && decide (i<=99)
 | _=>true
theorem qD {l:List Int} (h:∀ x ∈ l,0<=x/\x<=m) (hm:0<=m) (k:Nat):0<=l.getD k 0/\l.getD k 0<=m:=by
 rw [List.getD_eq_getElem?_getD]
 cases e:l[k]? with
 | none=>exact ⟨Int.le_refl _,hm⟩
 | some x=>exact h x (List.mem_of_getElem? e)
theorem Be {nums ks:List Int} (h1:∀ x ∈ nums,0<=x/\x<=9999) (h2:∀ x ∈ ks,0<=x/\x<=3) {c:Cl} (hc:ql c=true):oN (iM nums ks c):=by
 cases c with
 | n i=>simp only [ql,Bool.and_eq_true,decide_eq_true_eq] at hc;exact hc
 | arg k=>have:=qD h2 (by decide) k;exact ⟨this.1,by show ks.getD k 0<=99;omega⟩
 | low k=>have:=qD h1 (by decide) k;show 0<=nums.getD k 0 % 100/\nums.getD k 0 % 100<=99;omega
 | high k=>have:=qD h1 (by decide) k;show 0<=nums.getD k 0 / 100/\nums.getD k 0 / 100<=99;omega
theorem Dz {a f:Int} {m:Nat} (ha:oN a) (hf:oN f) (hm:m<=9999):∀ x ∈ cM a f m,oN x:=by
 unfold cM;intro x hx;split at hx
 ·simp only [List.mem_cons,List.not_mem_nil,or_false] at hx;rcases hx with rfl | rfl
  ·exact ha
  ·exact ⟨by omega,by omega⟩
 ·simp only [List.mem_cons,List.not_mem_nil,or_false] at hx;rcases hx with rfl | rfl | rfl
  ·exact hf
  ·exact ⟨by omega,by omega⟩
  ·exact ⟨by omega,by omega⟩
theorem we:∀ {ts:List Tr} {cs:List D} {ess:List (List D)},cW f ts cs=ess.map some->(∀ t ∈ ts,∀ c es,f t c=some es->es.length<=999->∀ x,D.int x ∈ es->oN x)->ess.flatten.length<=999->∀ x,D.int x ∈ ess.flatten->oN x
 | [],cs,ess,h,_,_=>by
  have:ess=[]:=by cases ess with | nil=>rfl | cons _ _=>cases h
  subst this;intro x hx;cases hx
 | t::ts,[],ess,h,_,_=>by
  have:ess=[]:=by cases ess with | nil=>rfl | cons _ _=>cases h
  subst this;intro x hx;cases hx
 | t::ts,c::cs,ess,h,hf,hl=>by
  cases ess with
  | nil=>cases h
  | cons y ess =>
   have h':f t c::cW f ts cs=some y::ess.map some:=h;injection h' with h1 h2;rw [List.flatten_cons,List.length_append] at hl;intro x hx;rw [List.flatten_cons] at hx;rcases List.mem_append.mp hx with hx | hx
   ·exact hf t List.mem_cons_self c y h1 (by omega) x hx
   ·exact we h2 (λt ht=>hf t (List.mem_cons_of_mem _ ht)) (by omega) x hx
theorem nC (hp:∀ p ∈ ps,e8 p.pt=true/\(bE p).all ql=true):∀ (n:Nat) (t:Tr) (c:D) (es:List D),okT t->bK ps n t c=some es->es.length<=999->∀ x,D.int x ∈ es->oN x
 | 0,_,_,_,_,h,_=>by cases h
 | n+1,t,c,es,ok,h,hl=>by
  have h:(match eV c with | none=>none | some x=>if x.1="pick" then gI (bK ps n) t x.2 else dU (bK ps n) ps t x.1 x.2)=some es:=h
  cases ec:eV c with
  | none=>rw [ec] at h;cases h
  | some y =>
   rw [ec] at h;dsimp only at h;intro x hx;by_cases hpk:y.1="pick"
   ·rw [if_pos hpk] at h;obtain ⟨t1,t2,t3,ca,cb,cd,xa,xb,xd,rfl,_,la,lb,ld,rfl⟩:=eZ h;unfold dq di at hx hl;simp only [List.length_append] at hl;have q1:=nC hp n t1 ca xa ok.1 la (by omega) x;have q2:=nC hp n t2 cb xb ok.2.1 lb (by omega) x;have q3:=nC hp n t3 cd xd ok.2.2 ld (by omega) x
    have jm:∀ {a f:Int} {m:Nat},oN a->oN f->m<=9999->D.int x ∈ (cM a f m).map D.int->oN x:=λha hf hm h=>by obtain ⟨z,hz,e⟩:=List.mem_map.mp h;injection e with e;subst e;exact Dz ha hf hm z hz
    rcases List.mem_append.mp hx with hx | hx
    ·rcases List.mem_append.mp hx with hx | hx
     ·rcases List.mem_append.mp hx with hx | hx
      ·exact q1 hx
      ·exact jm (by decide) (by decide) (by rw [List.length_append];omega) hx
     ·rcases List.mem_append.mp hx with hx | hx
      ·exact q2 hx
      ·exact jm (by decide) (by decide) (by omega) hx
    ·exact q3 hx
   ·rw [if_neg hpk] at h;obtain ⟨p,g,ess,e1,e2,hlen,e,rfl⟩:=eY h;obtain ⟨nh,ci⟩:=hp p (cK e1).1;have tail:=ig nh e2;unfold bR at hx hl;rw [List.length_append] at hl;rcases List.mem_append.mp hx with hx | hx
    ·exact we e (λu hu c es q l=>nC hp n u c es (dW t u ok (fP (tail u hu))) q l) (by omega) x hx
    ·obtain ⟨z,hz,ez⟩:=List.mem_map.mp hx;injection ez with ez;subst ez;obtain ⟨v1,v2⟩:=ng p.pt t g ok e2;exact Be v1 v2 (List.all_eq_true.mp ci z hz)
structure goP (p:Pc):Prop where
 nh:e8 p.pt=true
 pg:cE p
 hl:∀ t f,bI p.pt t=some f->f.1.length<=2
 ci:(bE p).all ql=true
theorem Dh:∀ p ∈ ALLP,goP p:=by
 intro p hp;simp only [ALLP,BP,LPP,List.cons_append,List.nil_append,List.append_nil,List.mem_cons,List.not_mem_nil,or_false] at hp;rcases hp with rfl | rfl | rfl | rfl | rfl | rfl | rfl | rfl | rfl | rfl | rfl | rfl | rfl | rfl | rfl | rfl
 ·exact ⟨rfl,DV,hl2 (by decide),by decide +kernel⟩
 ·exact ⟨rfl,DW,hl2 (by decide),by decide +kernel⟩
 ·exact ⟨rfl,BW,hl2 (by decide),by decide +kernel⟩
 ·exact ⟨rfl,DR,hl2 (by decide),by decide +kernel⟩
 ·exact ⟨rfl,rA,hl2 (by decide),by decide +kernel⟩
 ·exact ⟨rfl,DU,hl2 (by decide),by decide +kernel⟩
 ·exact ⟨rfl,BS,hl2 (by decide),by decide +kernel⟩
 ·exact ⟨rfl,BU,hl2 (by decide),by decide +kernel⟩
 ·exact ⟨rfl,DT,hl2 (by decide),by decide +kernel⟩
 ·exact ⟨rfl,BR,hl2 (by decide),by decide +kernel⟩
 ·exact ⟨rfl,uQ,hl2 (by decide),by decide +kernel⟩
 ·exact ⟨rfl,zH,hl2 (by decide),by decide +kernel⟩
 ·exact ⟨rfl,xw,hl2 (by decide),by decide +kernel⟩
 ·exact ⟨rfl,xx,hl2 (by decide),by decide +kernel⟩
 ·exact ⟨rfl,DS,hl2 (by decide),by decide +kernel⟩
 ·exact ⟨rfl,BV,hl2 (by decide),by decide +kernel⟩
theorem tE {C:Tr->Int->Prop} (h:∀ t c es,f t c=some es->C t es.length):∀ {ts:List Tr} {cs:List D} {ess:List (List D)},ts.length=cs.length->cW f ts cs=ess.map some->All2 C ts (ess.map λe=>(e.length:Int))/\(ess.map λe=>(e.length:Int)).sum=ess.flatten.length
 | [],[],ess,_,e=>by
  have:ess=[]:=by cases ess with | nil=>rfl | cons _ _=>cases e
  subst this;exact ⟨.nil,rfl⟩
 | t::ts,c::cs,ess,l,e=>by
  cases ess with
  | nil=>cases e
  | cons y ess =>have e':f t c::cW f ts cs=some y::ess.map some:=e;injection e' with e1 e2;have ih:=tE h (by simpa using l) e2;refine ⟨.cons (h t c y e1) ih.1,?_⟩;rw [List.map_cons,List.sum_cons,ih.2,List.flatten_cons,List.length_append];omega
 | [],_::_,_,l,_=>by cases l
 | _::_,[],_,l,_=>by cases l
theorem i7 (ok:∀ p ∈ ps,uG p):∀ (n:Nat) (t:Tr) (c:D) (es:List D),bK ps n t c=some es->p7 ps n t es.length
 | 0,_,_,_,h=>by cases h
 | n+1,t,c,es,h=>by
  have h:(match eV c with | none=>none | some x=>if x.1="pick" then gI (bK ps n) t x.2 else dU (bK ps n) ps t x.1 x.2)=some es:=h
  cases ec:eV c with
  | none=>rw [ec] at h;cases h
  | some y =>
   rw [ec] at h;dsimp only at h;by_cases hpk:y.1="pick"
   ·rw [if_pos hpk] at h;obtain ⟨t1,t2,t3,ca,cb,cd,xa,xb,xd,rfl,_,la,lb,ld,rfl⟩:=eZ h;refine ⟨⟨"pick",[],[t1,t2,t3]⟩,by unfold d8;rw [if_pos (show ij (.pick t1 t2 t3)=true from rfl)];exact List.mem_singleton.mpr rfl,[(xa.length:Int),xb.length,xd.length],.cons (i7 ok n t1 ca xa la) (.cons (i7 ok n t2 cb xb lb) (.cons (i7 ok n t3 cd xd ld) .nil)),?_⟩;unfold dq eE rp;rw [if_pos rfl];show _=pK xb.length xd.length+_;unfold pK;have j1:=ko 8 9 xd.length;have j2:=ko 10 11 (xb++di 8 9 xd.length).length;rw [List.length_append] at j2;have e2:((xb.length+(di 8 9 xd.length).length:Nat):Int)=xb.length+fz xd.length:=by rw [Int.natCast_add,j1]
    rw [e2] at j2;simp only [List.length_append,List.sum_cons,List.sum_nil] at *;omega
   ·rw [if_neg hpk] at h;obtain ⟨p,g,ess,e1,e2,hlen,e,rfl⟩:=eY h;have okp:=ok p (cK e1).1
    have hp:ij t=false:=by
     cases hq:ij t with
     | false=>rfl
     | true =>
      cases t with
      | pick a b c=>rw [kj okp.nh] at e2;cases e2
      | _=>cases hq
    obtain ⟨a2,sm⟩:=tE (i7 ok n) hlen e;refine ⟨_,vt (cK e1).1 hp e2,_,a2,?_⟩;unfold bR eE rp;rw [if_neg okp.nm,sm,List.length_append,List.length_map];show _=(p.cs.length:Int)+_;have:(bE p).length=p.cs.length:=List.length_map ..;omega
theorem A2 (ok:∀ p ∈ ps,uG p) {c:D} (h:bK ps n t c=some es):∃ b,fV ps t=some b/\b.1<=es.length:=by
 have L:=EL (λp hp=>(ok p hp).nh) t;have C:Cov ps t es.length:=⟨n,i7 ok n t c es h⟩
 cases e:fV ps t with
 | none=>rw [e] at L;exact absurd C (L _)
 | some b=>rw [e] at L;exact ⟨b,rfl,L.2 _ C⟩
theorem CQ:∀ (n:Nat) (c:D),shC n c->sS n c=true
 | 0,_,_=>rfl
 | n+1,c,⟨nm,cs,e,_,h⟩=>by subst e;show (E2 (.str nm) && cs.all (sS n))=true;rw [List.all_eq_true.mpr (λx hx=>CQ n x (h x hx))];rfl
theorem Bx (hp:∀ p ∈ ps,goP p) {c:D} {nn:List Int} (ok:okT t) (h:bK ps n t c=some (nn.map D.int)) (l:nn.length<=800):okC (nn++[0]):=by
 refine ⟨by simp,by simp;omega,λi x hx=>?_⟩;rcases List.mem_append.mp (List.mem_of_getElem? hx) with hm | hm
 ·exact nC (λp h=>⟨(hp p h).nh,(hp p h).ci⟩) n t c _ ok h (by rw [List.length_map];omega) x (List.mem_map.mpr ⟨x,hm,rfl⟩)
 ·rw [List.mem_singleton.mp hm];decide
theorem D4 (h:RO K te σ H (some es)):RC K te σ H es:=λH1 s Q q=>h H1 s Q (λz=>nomatch z) (λes' e l ys H' a b c d=>by cases e;exact q l ys H' a b c d)
theorem Cb {lc:Addr} {vg:V} (oc:xo mc) (hc:H lc=some (.lst (mc.cs.map V.int))) (hg:Dat K H (.tup (mc.as.map D.int)) vg) (n9:n<=1000)
  (hA:∀ H1 Q,Q [V.ref lc,vg,V.int mc.b,V.int n] H1->tA σ H1 Q):RE K (tOp (kG K) (iy (uZ K) [] E tA) (tC (.int 0))) σ H (Cc (iJ mc n st0)):=λH1 s Q q =>
 hA H1 _ ⟨lc,vg,mc,n,rfl,oc,s _ _ hc,s.dat hg,n9,λp v1 ld ys H' s' hp d1 _ _=>⟨p,[v1,.ref ld],0,v1,rfl,rfl,SqT.of hp,rfl,q v1 H' s' d1⟩⟩
section
variable {σ:L2.St} {H:Hp} {ta tb:TE} {ds:List D}
theorem Fl (neg:Bool) (h1:RL K ta σ H ds) (h2:RL K tb σ H ds) (n:noLs ds=true) (d:deepDs ds<=20):RE K (tOp (zQ K neg) ta tb) σ H (.bl (!neg)):=λH1 s Q q =>
 h1 H1 s _ λv H2 s2 q2=>h2 H2 (s.trans s2) _ λw H3 s3 q3=>by
  obtain ⟨a,xs,rfl,ha,da⟩:=s3.ld q2;obtain ⟨b,ys,rfl,hb,db⟩:=q3;refine ⟨a,b,xs,ys,ds,ds,rfl,rfl,ha.sqL,hb.sqL,da,db,n,n,d,?_⟩;rw [eqDs_refl ds n];have e2:(if neg=true then !true else true)=!neg:=by cases neg <;> rfl
  rw [e2];exact q _ _ (s2.trans s3) (Dat.blI _)
end
def tW (K:W.Frag):Sp:=λvs H Q _=>∃ (a:Addr) (ns:List Int),vs=[.ref a]/\Scr K H a ns/\∀ H',Q (.bl true) H'
theorem DJ (T:Txt P w K mg) (HH:Ok P w base k T.Gj (oC K 6)) (Jj:Ok P w base k T.HE (CS K)) (HA:Ok P w base k T.Gh (tV K 8)) (JL:Ok P w base k T.IR (iW K uj)) (IF:Ok P w base k T.GP (spA K C4)) (HB:Ok P w base k T.Gi (xJ K (jL 8))) (Je:Ok P w base k T.Hx (spA K qg)) (Jb:Ok P w base k T.Hu (Aw K)) (IW:Ok P w base k T.Ho (Aq K)) (Ji:Ok P w base k T.HD (uZ K)) (Gm:Ok P w base k T.FG (spD K (jM 8))):Ok P w base (k+1) T.Jh (tW K):=by
 refine T.Jh.f.ok sc_law (λvs H Q E h=>?_) (λcdv A outer s H vs Q E hr h=>?_)
 ·obtain ⟨a,ns,rfl,_⟩:=h;rfl
 have nd:=sc_law.nd;obtain ⟨a,ns,rfl,hS,post⟩:=h;refine' ⟨_,?ybody,?yread⟩
 case ybody =>
  refine' ao ?y22 ?y23
  case y22=>exact (bo (i:=1) nd rfl (Or.inl rfl) (bh (ag aj (ag aj (ag aj af)))))
  case y23 =>
   refine' ao ?y20 ?y21
   case y20=>exact (lH (i:=2) (j:=3) rfl nd rfl rfl (by decide) rfl rfl (ag (pc (D:=T.Gj) HH hr (ag (pv 0) (ag (pv 1) (ag aj af)))) (ag (pc (D:=T.HE) Jj hr (ag (pv 0) (ag (pv 1) af))) af)) (by kernel_rfl))
   case y21 =>
    refine' ao ?y18 ?y19
    case y18=>exact (bo (i:=4) nd rfl (Or.inl rfl) (pc (D:=T.Gh) HA hr (ag (pv 0) (ag (pv 1) (ag (pv 2) (ag (pv 3) af))))))
    case y19 =>
     refine' ao ?y16 ?y17
     case y16=>exact (bo (i:=5) nd rfl (Or.inl rfl) (pc (D:=T.IR) JL hr (ag (pv 2) (ag (pv 3) (ag (pv 4) af)))))
     case y17 =>
      refine' ao ?y14 ?y15
      case y14 =>
       refine' a7 ?y2 ?y3 ?y4
       case y2=>exact (PW.pt (cO (aC xr (pc (D:=T.GP) IF hr (ag (pv 2) (ag (pv 3) (ag (pv 4) af)))) ck (aJ _)) (cP (aC (zC hr) (pv 5) (ba dt (pc (D:=T.Gi) HB hr (ag (pv 2) (ag (pv 3) (ag (pv 4) af)))) (bh (ag aj af))) (aJ _)))))
       case y3 =>
        refine' au ?y1
        case y1=>exact (aF ck)
       case y4=>exact aL
      case y15 =>
       refine' ao ?y12 ?y13
       case y12 =>
        refine' a7 ?y6 ?y7 ?y8
        case y6=>exact (aC jg (aP aM rfl T.Fw bq (ag (pv 5) af)) (ba cX (pc (D:=T.Hx) Je hr (ag (pv 2) (ag (pv 3) af))) aj) (aJ _))
        case y7 =>
         refine' au ?y5
         case y5=>exact (aF ck)
        case y8=>exact aL
       case y13 =>
        refine' ao ?y10 ?y11
        case y10=>exact (gu PassesOwn.never rfl (jD rfl T.HN (ag aj af)) (aQ (i:=6) nd rfl (Or.inl rfl)) (ao (bo (i:=7) nd rfl (Or.inl rfl) (pc (D:=T.Hu) Jb hr (ag (pv 0) (ag (pv 1) af))))
 (ao (bo (i:=8) nd rfl (Or.inl rfl) (pc (D:=T.Ho) IW hr (ag (pv 0) (ag (pv 1) (ag (pv 7) af)))))
 (au (a7 (aC (DM hr) (aI aK (pc (D:=T.HD) Ji hr (ag (pv 5) (ag (pv 8) (ag (pv 7) (ag aj af))))) aj) (aU (ag aE (ag (pc (D:=T.FG) Gm hr (ag (pv 2) (ag (pv 8) (ag (pv 7) af)))) af))) (aJ _)) (au (aF ck)) aL)))))
        case y11 =>
         refine' au ?y9
         case y9=>exact (aF ck)
 case yread =>
  refine c6 ⟨bU (by decide),λt ht=>?_⟩;have hS0:=hS.same (aG ht (.lst [.int 0,.int 0,.int 8]));refine cf ?_;refine ⟨_,rfl,_,rfl,a,t,ns,6,0,0,8,rfl,hS0,aq,by decide,by decide,by decide,by decide,by decide,λv1 H1 X p1 q1 c1 b1 t1 g1 gc1 gd1 okX dp1 sz1 dX=>?_⟩;refine ⟨_,rfl,_,rfl,a,t,ns,p1,q1,[.int c1],rfl,hS0.but b1 aq,t1,g1,λsub l ys H3 p3 q3 b3 t3 g3 hsub hl hy dy=>⟨v1,.ref l,rfl,?_⟩⟩;have hS3:=(hS0.but b1 aq).but b3 t1;have dX3:Dat K H3 (toD X) v1:=Dat.mono (b3.grow t1 t3) _ dX;have dp8:aS X<=8:=by omega
  have sz25:aR X<=25:=by omega
  have sz40:aR X<=40:=by omega
  have nlt:l≠t:=Ne.symm (aB t1 hl);have hps:(BP++sub).Sublist ALLP:=(List.Sublist.refl BP).append hsub;have F:=Bk hsub;generalize BP++sub=ps at hps dy F;have gi:ug ps X:=⟨F.ok,F.gs,okX,dp8,sz40⟩
  have hL:LD K H3 (ps.map pcD) (.ref l):=LD.of hy dy;have nv:V.ref l≠.ref t:=λz=>nlt (by injection z);have go:∀ p ∈ ps,goP p:=λp hp=>Dh p (hps.subset hp);dsimp only;refine c6 ⟨_,rfl,_,rfl,_,rfl,_,rfl,a,t,ns,X,v1,.ref l,ps,p3,q3,[.int c1],rfl,hS3,t3,g3,F.ok,⟨F.bp,F.la.ls.nd⟩,okX,dp8,by decide,dX3,hL,nv,λvc H4 c p4 q4 b4 t4 g4 hsh dc=>?_⟩
  obtain ⟨es,eS⟩:∃ es,bK ps 8 X c=some es:=by have e:=qp F.la.ls.nd F.ok.ok 8 X c;rw [hsh.2] at e;exact Option.isSome_iff_exists.mp e.symm
  obtain ⟨nn,rfl⟩:=i6 8 X c es eS;have l3:nn.length<=300:=by have:=fZ F.ok.ok 8 X c _ eS;rw [List.length_map] at this;omega
  have hS4:=hS3.but b4 t3;have dX4:Dat K H4 (toD X) v1:=Dat.mono (b4.grow t3 t4) _ dX3;have hL4:LD K H4 (ps.map pcD) (.ref l):=LD.but hL nv b4 t3 t4;have ec:(nn++[0]).map D.int=nn.map D.int++[D.int 0]:=by simp
  refine fT (K:=K) (d5 (R:=uj) (cZ (ab (k:=2) dX4) (dI (aT (k:=3) hL4) (cZ (ab (k:=4) dc) bS))) ⟨ps,X,c,_,rfl,gi,F.la,eS,rfl⟩) λl5 y5 H5 hl5 s5 hy5 dy5=>?_;have dX5:=s5.dat dX4;have hL5:=s5.ld hL4;have dc5:=s5.dat dc;have LC:LD K H5 (nn.map D.int++[.int 0]) (.ref l5):=LD.of hy5 dy5;rw [<- ec] at dy5;have y5e:=vF dy5;subst y5e;have nl5:l5≠t:=Ne.symm (aB t4 hl5);have nL:noLs (nn.map D.int++[D.int 0])=true:=by rw [<- ec];exact gE _
  have dL:deepDs (nn.map D.int++[D.int 0])<=20:=by rw [<- ec];exact Nat.le_trans (pd _) (by decide)
  refine aH (K:=K) (b:=false) (RT.as (bJ (b:=false) (c:=false) (RT.as (ay (xB (dE (R:=C4) (d:=.bl true) (cZ (ab (k:=2) dX5) (dI (aT (k:=3) hL5) (cZ (ab (k:=4) dc5) bS))) ⟨ps,X,c,rfl,gi,by rw [hsh.2]⟩) dJ)) rfl) λ_=>ay (Fl true (aT (k:=5) LC) (eQ (dv (eQ (D4 (jk (R:=jL 8) (cZ (ab (k:=2) dX5) (dI (aT (k:=3) hL5) (cZ (ab (k:=4) dc5) bS))) ⟨ps,X,c,rfl,F.ok,F.la,okX,dp8,by decide,sz40,CQ 8 c hsh.1,eS.symm⟩))) (eQ (eK (ae ak aA))) (by rw [List.length_map];show nn.length+1<=1000;omega))) nL dL)) rfl) (λc=>nomatch c) (λ_ H6 s6=>?_);obtain ⟨bb,hbb,hle⟩:=A2 F.ok.ok eS;rw [List.length_map] at hle;refine aH (K:=K) (b:=false) (RT.as (ay (bT (p:=λi j=>decide (i < j)) (cT (aT (k:=5) (s6.ld LC))) (d6 (dE (R:=qg) (d:=.int bb.1) (cZ (ab (k:=2) (s6.dat dX5)) (dI (aT (k:=3) (s6.ld hL5)) bS)) ⟨ps,X,bb,rfl,F.gs,F.ok,okX,dp8,sz40,hbb,rfl⟩) ak))) (decide_eq_false (by rw [List.length_append,List.length_map];show ¬ ((nn.length+1:Nat):Int) < _;omega))) (λc=>nomatch c) (λ_ H7 s7=>?_);have s57:=s5.trans (s6.trans s7);refine cf ⟨2,rfl,by decide,by decide,pw (n:=2) (λi σ G=>∃ (z6 z7 z8:Option V) (p q:Int),σ=[some (.ref a),some (.ref t),some v1,some (.ref l),some vc,some (.ref l5),z6,z7,z8]/\Scr K G a ns/\G t=some (.lst [.int p,.int q,.int c1])/\0<=p/\Dat K G (toD X) v1/\G l5=some (.lst ((nn++[0]).map V.int))) ?_ ?_ ?_⟩
  ·exact ⟨none,none,none,p4,q4,rfl,hS4.same s57,s57 _ _ t4,g4,(s6.trans s7).dat dX5,(s6.trans s7) _ _ hy5⟩
  ·rintro i σ G hi ⟨z6,z7,z8,p,q,rfl,hSG,tG,gp,dG,lG⟩;refine iI ?_;dsimp only;refine c6 ⟨_,rfl,_,rfl,a,t,ns,p,q,[.int c1],rfl,hSG,tG,gp,λb H8 p8 q8 b8 t8 g8 hb hb2=>?_⟩;refine c6 ⟨_,rfl,_,rfl,_,rfl,a,t,ns,b,p8,q8,[.int c1],rfl,hSG.but b8 tG,t8,g8,hb,hb2,λu H9 as p9 q9 b9 t9 g9 ha dA=>?_⟩;have dX9:=Dat.mono (b9.grow t8 t9) _ (Dat.mono (b8.grow tG t8) _ dG);have l9:=b9 _ _ nl5 (b8 _ _ nl5 lG);have oc:xo ⟨nn++[0],as,b⟩:=⟨Bx go okX eS (by omega),ha.1,ha.2.1,ha.2.2.1,ha.2.2.2⟩
   have run:=By (mc:=⟨nn++[0],as,b⟩) ⟨ha.1,ha.2.1,ha.2.2.1⟩ (λp hp=>⟨(go p hp).nh,(go p hp).pg,(go p hp).hl⟩) okX dp8 eS ec (N:=1000) (by show (nn++[0]).length<=1000;rw [List.length_append];show nn.length+1<=1000;omega);refine gh (b:=false) (RT.as (ay (Ca (K:=K) (d:=.tup [.str "ends",.int (a6 as b X)]) (e:=.tup [.str "ends",.int (a6 as b X)]) (RE.as (Cb (mc:=⟨nn++[0],as,b⟩) (n:=1000) oc l9 dA (by decide) (λ_ _ q=>⟨_,rfl,_,rfl,_,rfl,q⟩)) (by rw [run];rfl)) (aZ (ae az (ae (a9 (R:=jM 8) (ae (ab (k:=2) dX9) (ae (ab (k:=8) dA) (ae (ab (k:=7) (Dat.intI b)) aA))) ⟨X,as,b,rfl,okX,dp8,ha,rfl⟩) aA))) rfl rfl (show 1<=20 by decide))) (by rw [i4 _ rfl];rfl)) (λc=>nomatch c) (λ_ H10 s10=>?_);exact jG ⟨_,_,_,p9,q9,rfl,((hSG.but b8 tG).but b9 t8).same s10,s10 _ _ t9,g9,s10.dat dX9,s10 _ _ l9⟩
  rintro σ G ⟨z6,z7,z8,p,q,rfl,_⟩;exact post G
end
end My
end
namespace My
open PySem L2 PyProof.Rows
section
variable {P:Program} {w:World} {K:W.Frag} {mg:Str->Option Value} {base:Heap} {k:Nat}
theorem zu (vs:List V) (H:Hp) (Q:VK) (E:XK):¬ oC K 0 vs H Q E:=λ⟨a,t,ns,room,p,q,c,_,_,_,_,_,_,_,h,_⟩=>by omega
theorem xk (vs:List V) (H:Hp) (Q:VK) (E:XK):¬ hV K (iY 0) vs H Q E:=λ⟨ds,es,_,⟨x,k,_,_,h,_⟩,_⟩=>nomatch h
theorem zr (vs:List V) (H:Hp) (Q:VK) (E:XK):¬ spD K (Cz 0) vs H Q E:=λ⟨ds,es,_,h,_⟩=>h
theorem xl (vs:List V) (H:Hp) (Q:VK) (E:XK):¬ hV K (kU 0) vs H Q E:=λ⟨ds,es,_,⟨t,_,_,h,_⟩,_⟩=>by have:=ie t;omega
theorem BD (vs:List V) (H:Hp) (Q:VK) (E:XK):¬ xJ K (jL 0) vs H Q E:=λ⟨as,o,_,⟨ps,t,c,_,_,_,_,h,_⟩,_⟩=>by
 have:1<=aS t:=by cases t <;> simp [aS]
 omega
theorem zq (vs:List V) (H:Hp) (Q:VK) (E:XK):¬ iW K (iX 0) vs H Q E:=λ⟨as,es,_,⟨ps,t,c,_,_,_,_,h,_⟩,_⟩=>by
 have:1<=aS t:=by cases t <;> simp [aS]
 omega
theorem BC (vs:List V) (H:Hp) (Q:VK) (E:XK):¬ spA K (oJ 0) vs H Q E:=λ⟨as,d,_,h,_⟩=>BB as d h
theorem zt (vs:List V) (H:Hp) (Q:VK) (E:XK):¬ spD K (jM 0) vs H Q E:=λ⟨ds,es,_,⟨t,_,_,_,_,h,_⟩,_⟩=>by have:=ie t;omega
theorem chain (T:Txt P w K mg):Ok P w base 25 T.Jh (tW K):=by
 have w1:=tm (P:=P) (w:=w) (base:=base) (k:=0) T;have g1:=qX (P:=P) (w:=w) (base:=base) (k:=0) T;have n2:=uK (k:=1) T g1 w1;have wi:=mH (P:=P) (w:=w) (base:=base) (k:=0) T;have it:=uL (k:=2) T n2 (wi.mono (by decide));have nt:=rd (k:=3) T it
 have wk:∀ n:Nat,Ok P w base (n+1) T.Hm (hV K (kU n)):=by
  intro n
  induction n with
  | zero=>exact dZ xl
  | succ n ih=>exact xq (k:=n+1) T (wi.mono (by omega)) ih
 have nm:=uJ (P:=P) (w:=w) (base:=base) (k:=0) T;have mk:=uI (k:=1) T g1 w1
 have pp:∀ n:Nat,Ok P w base (n+3) T.FB (spD K (Rpp n)):=by
  intro n
  induction n with
  | zero=>exact gJ (k:=2) (n:=0) T mk n2 (wi.mono (by decide)) (dZ zr)
  | succ n ih=>exact gJ (k:=n+3) (n:=n+1) T (mk.mono (by omega)) (n2.mono (by omega)) (wi.mono (by omega)) ih
 have ma:∀ n:Nat,Ok P w base (n+1) T.F8 (hV K (iY n)):=by
  intro n
  induction n with
  | zero=>exact dZ xk
  | succ n ih=>exact tq (k:=n+1) T (wi.mono (by omega)) ih
 have nu:=nP (k:=4) T (ma 3);have pa:=oS (k:=6) T (pp 3) (nu.mono (by decide));have fi:=oR (k:=4) T (g1.mono (by decide)) (ma 3) (w1.mono (by decide));have ce:=uH (k:=5) T (w1.mono (by decide)) fi;have ins:=ky (P:=P) (w:=w) (base:=base) (k:=0) T;have ai:=jJ (k:=6) T (w1.mono (by decide)) (ins.mono (by decide)) ce;have pc:=tj (k:=7) T (nm.mono (by decide)) pa ai;have ms:=lE (P:=P) (w:=w) (base:=base) (k:=0) T
 have mt:∀ n:Nat,Ok P w base (n+1) T.GB (jv K oD n):=by
  intro n
  induction n with
  | zero=>exact dZ vX
  | succ n ih=>exact uM (k:=n+1) T (ms.mono (by omega)) ih
 have fo:=sZ (k:=4) T (mt 3)
 have lf:∀ n:Nat,Ok P w base n T.FZ (jv K oL n):=by
  intro n
  induction n with
  | zero=>exact dZ vX
  | succ n ih=>exact sU (k:=n) T ih
 have jo:=qY (P:=P) (w:=w) (base:=base) (k:=0) T;have jp:=lD (k:=1) T jo;have wo:=uN (k:=5) T fo;have lb:=ra (k:=2) T jp;have bw:=mG (k:=6) T wo (lb.mono (by decide));have bc:=lB (k:=9) T (wk 8) (bw.mono (by decide));have st:=xp (k:=9) T (pc.mono (by decide));have ns:=tu (k:=10) T st;have lo:=rb (k:=11) T (nt.mono (by decide)) ns (bc.mono (by decide))
 have cv:∀ n:Nat,Ok P w base (2 * n+6) T.FA (spA K (oJ n)):=by
  intro n
  induction n with
  | zero=>exact dZ BC
  | succ n ih =>have ar:=kx (k:=2 * n+6) T ih;exact lC (k:=2 * n+7) T (g1.mono (by omega)) (wo.mono (by omega)) ar
 have ic:=nO (k:=22) T (nt.mono (by decide)) (ns.mono (by decide)) (cv 8);have fc:=nN (P:=P) (w:=w) (base:=base) (k:=0) T
 have lc:∀ n:Nat,Ok P w base (2 * n+6) T.FL (iW K (iX n)):=by
  intro n
  induction n with
  | zero=>exact dZ zq
  | succ n ih =>have pk:=qZ (k:=2 * n+6) T ih (jp.mono (by omega));have pp:=oU (k:=2 * n+6) T ih (fo.mono (by omega)) (fc.mono (by omega));exact oT (k:=2 * n+7) T pk pp
 have ld:=BI (k:=22) T (nt.mono (by decide)) (ns.mono (by decide)) (cv 8) (lc 8);have ju:=qT (P:=P) (w:=w) (base:=base) (k:=0) T;have fl:=qQ (P:=P) (w:=w) (base:=base) (k:=0) T
 have la:∀ n:Nat,Ok P w base (n+3) T.Gi (xJ K (jL n)):=by
  intro n
  induction n with
  | zero=>exact dZ BD
  | succ n ih=>exact sV (k:=n+3) T ih (ju.mono (by omega)) ((lf 3).mono (by omega)) (fl.mono (by omega))
 have lp:=nM (P:=P) (w:=w) (base:=base) (k:=0) T;have dr:=qP (P:=P) (w:=w) (base:=base) (k:=0) T;have pk:=qU (k:=1) T dr
 have tr:∀ n:Nat,Ok P w base (n+2) T.Gj (oC K n):=by
  intro n
  induction n with
  | zero=>exact dZ zu
  | succ n ih=>exact qW (k:=n+2) T (dr.mono (by omega)) (pk.mono (by omega)) ih
 have an:∀ n:Nat,Ok P w base (n+3) T.Gh (tV K n):=by
  intro n
  induction n with
  | zero=>exact dZ BA
  | succ n ih=>exact sT (k:=n+3) T ih ((lf 3).mono (by omega)) (pk.mono (by omega))
 have ls:=sX (k:=1) T (lp.mono (by decide)) (dr.mono (by decide));have lsz:=qV (k:=2) T pk;have lar:=qN (k:=2) T (dr.mono (by decide)) pk;have ltw:=sY (P:=P) (w:=w) (base:=base) (k:=0) T
 have lw:∀ n:Nat,Ok P w base (n+1) T.FG (spD K (jM n)):=by
  intro n
  induction n with
  | zero=>exact dZ zt
  | succ n ih=>exact oQ (k:=n+1) T (ltw.mono (by omega)) ih
 have lnm:=oP (P:=P) (w:=w) (base:=base) (k:=0) T;have lbe:=nK (P:=P) (w:=w) (base:=base) (k:=0) T;have lgo:=qS (P:=P) (w:=w) (base:=base) (k:=0) T;have lds:=qO (k:=1) T ltw;have lfr:=qR (k:=2) T (lnm.mono (by decide)) (lbe.mono (by decide)) (lgo.mono (by decide)) lds;have lru:=sW (k:=3) T lfr;exact DJ (k:=24) T ((tr 6).mono (by decide)) (ls.mono (by decide)) ((an 8).mono (by decide)) (ld.mono (by decide)) (ic.mono (by decide)) ((la 8).mono (by decide)) (lo.mono (by decide)) (lsz.mono (by decide)) (lar.mono (by decide)) (lru.mono (by decide)) ((lw 8).mono (by decide))
end
def df_mk {K:W.Frag} {h:Heap} {mg:Str->Option Value} {n:Str} {st:Stmt} {ps:List Str} {f:Addr} {oc:Value} {od an:Option Addr} {osl:Array (Option Value)} {kV doc pm cdv ct:Value} (X:K.In h) (G:h.Ns mainGlobals mg) (a:W.nsIn K mainGlobals n=some (some (.ref f))) (l:K.lookup f=some ⟨oc,od,.func (W.fnOf n n (kg st) (jz st) (aD st) .none kV doc pm an cdv ct),osl⟩) (c:W.codeIn K cdv n=true) (k:W.keepIn K (.ref f)=true)
  (hb:∀ us:List Value,us.length=ps.length->bindArgs (W.fnOf n n (kg st) (jz st) (aD st) .none kV doc pm an cdv ct) ⟨us,[]⟩=pure (ps.zip us)):Df K mg n st ps:=⟨f,_,Dt l c k,W.mg_of X G a,.all hb⟩
variable {l:W.OpenLaw}
theorem all_mk {w:World} {K:W.Frag} {h:Heap} {mg:Str->Option Value} {fa:Addr} (X:K.In h) (G:h.Ns mainGlobals mg) (hfa:mg "law"=some (.ref fa)) (DD:Dfs K mg) {GG:Tok} {GT:Tok} {Gg:Tok} {GS:Tok} {FK:Tok} {Hl:Tok} {FS:Tok} {Gv:Tok} {GU:Tok} {GF:Tok} {Jg:Tok} {IA:Tok} {Hh:Addr} {GE:Addr} {F0:Addr} {Hy:Addr} {Hg:Addr} {HX:Addr} {IP:Addr} {Iw:Addr} {IQ:Addr} {ob_MARK_LENGTHS:Obj}
  (Gp:W.nsIn K mainGlobals "MOST_PARTS"=some (some (.int 40 GG)))
  (Gy:W.nsIn K mainGlobals "MOST_DEEP"=some (some (.int 8 GT)))
  (F1:W.nsIn K mainGlobals "LONGEST_NAME"=some (some (.int 8 Gg)))
  (Gf:W.nsIn K mainGlobals "MOST_CELL"=some (some (.int 99 GS)))
  (FC:W.nsIn K mainGlobals "MOST_PATTERN_DEEP"=some (some (.int 3 FK)))
  (GJ:W.nsIn K mainGlobals "MOST_GAP"=some (some (.int 9999 Hl)))
  (FE:W.nsIn K mainGlobals "MOST_PIECE_CELLS"=some (some (.int 12 FS)))
  (Ga:W.nsIn K mainGlobals "MOST_PIECES"=some (some (.int 16 Gv)))
  (Gz:W.nsIn K mainGlobals "MOST_NEAR"=some (some (.int 9 GU)))
  (Gn:W.nsIn K mainGlobals "CALL_CELLS"=some (some (.int 3 GF)))
  (IH:W.nsIn K mainGlobals "END"=some (some (.int 0 Jg)))
  (Ii:W.nsIn K mainGlobals "CALL"=some (some (.int 15 IA)))
  (FQ:W.nsIn K mainGlobals "MOST_IN_LEAF"=some (some (.ref Hh))) (FR:KTD.tabLook (KTD.datLooks λb=>K.lookup b) (λb=>K.lookup b) Hh TL=true)
  (Fx:W.nsIn K mainGlobals "TREES_IN_BRANCH"=some (some (.ref GE))) (Fy:KTD.tabLook (KTD.datLooks λb=>K.lookup b) (λb=>K.lookup b) GE TB=true)
  (FH:W.nsIn K mainGlobals "MARK_LENGTHS"=some (some (.ref F0))) (Fv:KTD.tabLook (KTD.datLooks λb=>K.lookup b) (λb=>K.lookup b) F0 TM=true)
  (FX:W.nsIn K mainGlobals "FILLED_FROM"=some (some (.ref Hy))) (FY:KTD.tabLook (KTD.datLooks λb=>K.lookup b) (λb=>K.lookup b) Hy TF=true)
  (FP:W.nsIn K mainGlobals "INSTRUCTIONS"=some (some (.ref Hg))) (Hn:fJ K (.tup INS) (.ref Hg)=true)
  (GK:W.nsIn K mainGlobals "STRAIGHT"=some (some (.ref HX))) (HY:fJ K (.tup STR) (.ref HX)=true)
  (HL:W.nsIn K mainGlobals "AHEAD"=some (some (.ref IP))) (IS:fJ K (.tup AHE) (.ref IP)=true)
  (Hz:W.nsIn K mainGlobals "BEHIND"=some (some (.ref Iw))) (IB:fJ K (.tup BEH) (.ref Iw)=true)
  (HM:W.nsIn K mainGlobals "BASIC"=some (some (.ref IQ))) (IT:nD K BAS IQ=true)
  (Hj:K.lookup F0=some ob_MARK_LENGTHS) (Hi:KTD.tabLook KTD.flatLooks (λb=>K.lookup b) F0 ([("hole",.int 2),("gap",.int 3),("slot",.int 2)]:List (Str × PyData))=true) (Hk:KTD.hashesOf (λb=>K.lookup b) F0=([("hole",.int 2),("gap",.int 3),("slot",.int 2)]:List (Str × PyData)).map λp=>(PySem.strKind l.prog w).hash p.1)
  (JD:W.nsIn K mainGlobals "len"=some none)
  (HG:W.nsIn K mainGlobals "isinstance"=some none)
  (JC:W.nsIn K mainGlobals "int"=some none)
  (Jm:W.nsIn K mainGlobals "bool"=some none)
  (JF:W.nsIn K mainGlobals "str"=some none)
  (IV:W.nsIn K mainGlobals "tuple"=some none)
  (Jn:W.nsIn K mainGlobals "list"=some none)
  (IU:W.nsIn K mainGlobals "range"=some none)
  (JA:W.nsIn K mainGlobals "all"=some none)
  (JB:W.nsIn K mainGlobals "any"=some none)
  (JE:W.nsIn K mainGlobals "set"=some none)
  (JG:W.nsIn K mainGlobals "sum"=some none)
  (HZ:W.nsIn K mainGlobals "reversed"=some none)
  (JH:W.nsIn K mainGlobals "zip"=some none)
  (HJ:W.nsIn K mainGlobals "enumerate"=some none) :
  ∃ fd:FuncData,(∀ (s:Shared) (v:Value),BindsTo s fd ⟨[v],[]⟩ [("_law_script",v)])/\∀ base:Heap,K.In base->base.Ns mainGlobals mg->FnOk l.prog w K mg base CX0 25 fa fd ["_law_script"] (tW K):=by
 have M:∀ {n:Str} {v:Value},W.nsIn K mainGlobals n=some (some v)->mg n=some v:=W.mg_of X G;have N:∀ {n:Str},W.nsIn K mainGlobals n=some none->mg n=none:=W.mg_none_of X G;have e:=hfa.symm.trans DD.Jh.m;cases e
 let T:Txt l.prog w K mg :=
  {toDfs:=DD,
   GG:=GG,Gp:=M Gp,
   GT:=GT,Gy:=M Gy,
   Gg:=Gg,F1:=M F1,
   GS:=GS,Gf:=M Gf,
   FK:=FK,FC:=M FC,
   Hl:=Hl,GJ:=M GJ,
   FS:=FS,FE:=M FE,
   Gv:=Gv,Ga:=M Ga,
   GU:=GU,Gz:=M Gz,
   GF:=GF,Gn:=M Gn,
   Jg:=Jg,IH:=M IH,
   IA:=IA,Ii:=M Ii,
   Ge:=Hh,FQ:=M FQ,FR:=λh x=>W.kt_text_in x FR,
   FJ:=GE,Fx:=M Fx,Fy:=λh x=>W.kt_text_in x Fy,
   FO:=F0,FH:=M FH,Fv:=λh x=>W.kt_text_in x Fv,
   Gu:=Hy,FX:=M FX,FY:=λh x=>W.kt_text_in x FY,
   Gd:=Hg,FP:=M FP,Hf:=Hn,
   HC:=HX,GK:=M GK,Iv:=HY,
   Ip:=IP,HL:=M HL,Jo:=IS,
   Ia:=Iw,Hz:=M Hz,Jf:=IB,
   Iq:=IQ,HM:=M HM,Jp:=IT,
   HI:=⟨⟨_,Hj⟩,λh x=>⟨_,W.kt_tab_in l.prog w x Hi (by decide +kernel) Hk,rfl⟩⟩,
   Fw:=N JD,
   Fu:=N HG,
   Jx:=N JC,
   Jv:=N Jm,
   Jy:=N JF,
   FT:=N IV,
   Jl:=N Jn,
   HN:=N IU,
   Iy:=N JA,
   JJ:=N JB,
   JK:=N JE,
   Jz:=N JG,
   Iz:=N HZ,
   II:=N JH,
   Il:=N HJ }
 obtain ⟨_,_,_,_,_,_,_,_,_,e,_⟩:=DD.Jh.f.ex;exact ⟨_,λs v=>by rw [e];exact .of_eq rfl,λbase _ _=>chain T⟩
theorem walk {q:Program} {loose:List Str} {XP:(Str->Option Value)->Heap->Prop} {YP:World->Heap->Prop} {d:DefRec} {K:Params->W.Frag} (hn:l.most=some 63) (hdf:d.params.defaults=[])
  (hY:∀ (w:World) (h:Heap),YP w h->(K w.params).In h)
  (F:∀ (w:World) (mg:Str->Option Value) (fa:Addr) (h:Heap),(K w.params).In h->h.Ns mainGlobals mg->mg d.name=some (.ref fa) ->
   ∃ fd:FuncData,(∀ (s:Shared) (u:Value),BindsTo s fd ⟨[u],[]⟩ [("_law_script",u)])/\∀ base:Heap,(K w.params).In base->base.Ns mainGlobals mg->FnOk l.prog w (K w.params) mg base CX0 25 fa fd ["_law_script"] (tW (K w.params))) :
  W.WalkO q loose XP YP l.row.toRowW d [] (λf vs=>PySem.call f vs) :=
 L2.walk_of (n:=63) (k:=25) (x:="_law_script") (CX:=λ_=>CX0) (sp:=λw=>tW (K w.params)) hn (by decide) hdf ⟨rfl,by decide,by decide⟩ hY F (λ_ _ a ns hl hO hS=>⟨a,ns,rfl,Ec hO hS,λ_=>rfl⟩) λ_ _ _ _ _ z=>z
end My
open PySem PySem.W PyProof.Rows
set_option maxRecDepth 100000 in
set_option maxHeartbeats 0 in
theorem My.said:OpenLaw.wellSaid PySem.Challenge.rw_piecelay_k14_whole_any_covering=true:=by kernel_rfl
set_option maxRecDepth 100000 in
set_option maxHeartbeats 0 in
theorem PySem.Challenge.cw_piecelay_k14_whole_any_covering_holds : PySem.Challenge.rw_piecelay_k14_whole_any_covering.Holds := by
 w_on;refine holds_law My.said λsaid=>?_
 refine holds_open (q:=My.view) (loose:=My.loose) (Xt:=My.xt) (XP:=XL My.view []) (Yf:=Hook.obs (kHook My.k0.heap_1 My.kas My.kas_ok)) (Ya:=Hook.val (kHook My.k0.heap_1 My.kas My.kas_ok)) (YP:=Hook.says (kHook My.k0.heap_1 My.kas My.kas_ok)) (N:=My.NN) My.left (Hook.of (kHook My.k0.heap_1 My.kas My.kas_ok)) (Hook.keeps (kHook My.k0.heap_1 My.kas My.kas_ok)) (λs e=>xl_of s (Bool.and_eq_true_iff.mp e).1) XL.keeps (by rfl) (by rfl) (by rfl) (λs e=>recFacts_of (Bool.and_eq_true_iff.mp e).2) (by rfl) (by first | assumption | decide +kernel) (by decide +kernel) ⟨rfl,rfl,rfl,rfl,rfl,by decide +kernel⟩ ?hw ?hc
 case hw=>w_witness2
 k_fill
 refine My.walk (l:=PySem.Challenge.rw_piecelay_k14_whole_any_covering) rfl rfl (λw h Y=>PySem.W.kIn_of Y) ?F
 case F =>
  intro w mg fa h KX G hmg;refine' My.all_mk KX G hmg ?DD  ?Gp ?Gy ?F1 ?Gf ?FC ?GJ ?FE ?Ga ?Gz ?Gn ?IH ?Ii ?FQ ?FR ?Fx ?Fy ?FH ?Fv ?FX ?FY ?FP ?Hn ?GK ?HY ?HL ?IS ?Hz ?IB ?HM ?IT ?Hj ?Hi ?Hk ?JD ?HG ?JC ?Jm ?JF ?IV ?Jn ?IU ?JA ?JB ?JE ?JG ?HZ ?JH ?HJ
  case DD =>
   constructor
   all_goals
    refine' My.df_mk KX G ?a ?l ?c ?k ?b
    case a=>k_is
    case l=>change _=_;k_is
    case c=>k_is
    case k=>k_is
    case b=>exact λus hl=>by first | (match us,hl with | [],_=>rfl) | (match us,hl with | [_],_=>rfl) | (match us,hl with | [_,_],_=>rfl) | (match us,hl with | [_,_,_],_=>rfl) | (match us,hl with | [_,_,_,_],_=>rfl) | (match us,hl with | [_,_,_,_,_],_=>rfl) | (match us,hl with | [_,_,_,_,_,_],_=>rfl)
  case Gp | Gy | F1 | Gf | FC | GJ | FE | Ga | Gz | Gn | IH | Ii | FQ | Fx | FH | FX | FP | GK | HL | Hz | HM | Hj | JD | HG | JC | Jm | JF | IV | Jn | IU | JA | JB | JE | JG | HZ | JH | HJ=>k_is
  case FR | Fy | Fv | FY | Hn | HY | IS | IB | IT | Hi=>first | rfl | decide +kernel
  case Hk=>first | rfl | kernel_rfl | decide +kernel
