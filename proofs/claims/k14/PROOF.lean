import PyProof.Rows.All
import Wide.All
import OpenK.AllK
import Wide.FinOn
import Lean
import PyProof.EqAt
import PyProof.EqKinds
import PyProof.TupleCall
import PyProof.NeKinds
import KE.KTab
import KE.KTops
import PyProof.FString5
import PyProof.ListRange
import KE.KRevIter
import PyProof.Rows.SumAny
import PyProof.Rows.SetFrom
import KE.KRevSl
import KE.KTryMore
import PyProof.ExcAttrAll.ValueError
import PyProof.Rows.CountFlat
import PyProof.ExcInit
import PyProof.InstStoreFacts
import PyProof.Draws
import PyProof.EnumMake
import PyProof.ZipIter
import PyProof.WalkInts
import PyProof.Rows.MinMaxN
import KE.KUnpack
import PyProof.StationsW
import PySem.Challenge.RW_piecelay_k14_whole_any_covering
set_option Elab.async false
set_option linter.all false
set_option maxRecDepth 100000
set_option maxHeartbeats 4000000
section
namespace LT
open PySem PySem.W PyProof.Rows
noncomputable def ran (p:Program) (w:World) (n₀:Nat) (ann:Option Value):Nat->SharedT->Thread->Option SharedT
 | 0,_,_=>none
 | k+1,s,t=>bif through t then some s else bif Fast.tw6613529449190102663 n₀ ann t then
   (Fast.tw10156331382660048174 (Fast.tw11892475500146522536 Fast.tw14364793385576792824) p w s t).bind λx=>ran p w n₀ ann k x.1 x.2
  else none
variable {p:Program}
theorem Dl {w:World} {n₀:Nat} {ann:Option Value} (k:Nat):∀ {s s':SharedT} {t:Thread},ran p w n₀ ann k s t=some s'->topRun treeTable p w n₀ ann k s.abs t=some s'.abs:=by
 induction k with
 | zero=>intro s s' t h;cases h
 | succ k ih =>
  intro s s' t h;unfold ran at h;rw [<- Fast.te6613529449190102663,<- Fast.te10156331382660048174,<- Fast.te11892475500146522536,<- Fast.te14364793385576792824] at h;unfold topRun;cases c1:through t
  ·cases c2:stepOk n₀ ann t
   ·rw [c1,c2] at h;cases h
   ·rw [c1,c2] at h;obtain ⟨x,hx,hr⟩:=Option.bind_eq_some_iff.mp (show (stepT (denote treeTable) p w s t).bind _=some s' from h);rw [stepT_spec (s':=x.1) (t':=x.2) hx];exact ih hr
  ·rw [c1] at h;cases h;rfl
noncomputable def zW (P:Params):BT:=((boot_heap P).objs.toList.foldl (λ(x:BT × Nat) o=>(x.1.ins x.2 o,x.2+1)) (BT.nil,0)).1
theorem zX:∀ P,absHeap (zW P) 11 {}=boot_heap P:=λP=>by kernel_rfl
noncomputable abbrev boot (P:Params) (os:OsState):SharedT:=⟨zW P,11,{},#[],boot_drawn,boot_toks,os⟩
theorem zY (P:Params) (os:OsState):(boot P os).abs=⟨boot_heap P,#[],boot_drawn,boot_toks,os⟩:=by show (⟨absHeap (zW P) 11 {},#[],boot_drawn,boot_toks,os⟩:Shared)=_;rw [zX]
noncomputable def D5 (p q:Program) (loose:List Str) (Xt:Shared->Bool) (P:Params) (s:Shared) :=
 (staticsOk (Fast.tw5923862056798008813 p.main.body) (boot_heap P) s.heap && namesBound p s.heap && gensDone s && laidKept (boot_heap P) s.heap,Fast.tw4187177175401517315 q loose (Fast.tw5923862056798008813 p.main.body) Xt true s)
theorem DB:∀ P:Params,((boot_heap P).isNs mainGlobals && (#[]:Array GenState).size == 0,(boot_heap P).objs.size,(boot_heap P).nsMap mainGlobals "__annotations__")=(true,11,some (.ref 6)):=λP=>by kernel_rfl
theorem left {q:Program} {loose:List Str} {Xt:Shared->Bool} {α:Type} {Yf:Shared->α} {Ya:World->α} {N:Nat} (e:opening p=plainProg p.main.scope.names) (hN:Nat.ble 600 N=true) (f:∀ s,fenceModules? p s=some s)
  (h:∀ (w:World) (os:OsState),(ran p w 11 (some (.ref 6)) N (boot w.params os) (topStub p)).map (λs=>(D5 p q loose Xt w.params s.abs,Yf s.abs))=some ((true,openGood q loose),Ya w)):LeftO p q loose Xt Yf Ya N:=λw=>by
 obtain ⟨⟨h0,gs,d,k,os⟩,e,e'⟩:=Option.map_eq_some_iff.mp (boot_open e hN f w);obtain ⟨rfl,rfl,rfl,rfl⟩:h0=boot_heap w.params/\gs=Array.mk []/\d=boot_drawn/\k=boot_toks:=by simpa using e'
 obtain ⟨s1,hr,hs⟩:=Option.map_eq_some_iff.mp (h w os);have r:=Dl N hr;rw [zY] at r;obtain ⟨hs,hy⟩:=Prod.mk.inj hs;unfold D5 at hs;rw [<- Fast.te4187177175401517315,<- Fast.te5923862056798008813] at hs;obtain ⟨hl,hg⟩:=Prod.mk.inj (show (staticsOk (importedModules p.main.body) (boot_heap w.params) s1.abs.heap && namesBound p s1.abs.heap && gensDone s1.abs && laidKept (boot_heap w.params) s1.abs.heap,openSeen q loose (importedModules p.main.body) Xt true s1.abs)=(true,openGood q loose) from hs);obtain ⟨z1,z2,z3⟩:_/\_/\_:=by simpa only [Prod.mk.injEq] using DB w.params
 have t:topFrom treeTable p w N ⟨boot_heap w.params,Array.mk [],boot_drawn,boot_toks,os⟩=some s1.abs:=by unfold topFrom;dsimp only;rw [z1,z2,z3,r];show (match staticsOk (importedModules p.main.body) (boot_heap w.params) s1.abs.heap && namesBound p s1.abs.heap && gensDone s1.abs && laidKept (boot_heap w.params) s1.abs.heap with | true=>_ | false=>_)=_;rw [hl]
 unfold openEnds;rw [e];show (topFrom treeTable p w N _).map _=_;rw [t];exact congrArg some (Prod.ext hg hy)
end LT
namespace LT
section
universe u1 u2 u3 u4 u5 u6 u7 u8 u9
variable {S:Type u1} {A:Type u2} {B:Type u3} {C:Type u4} {D:Type u5} {E:Type u6} {F:Type u7} {R:Type u8} {V:Type u9}
noncomputable def lot1 (x:A × B × C × D × E × F × R):A × B × C:=match x with | (a,b,c,_)=>(a,b,c)
noncomputable def lot2 (x:A × B × C × D × E × F × R):D × E × R:=match x with | (_,_,_,d,e,_,r)=>(d,e,r)
noncomputable def lot3 (x:A × B × C × D × E × F × R):F:=match x with | (_,_,_,_,_,f,_)=>f
theorem lots {o:Option S} {f:S->A × B × C × D × E × F × R} {y:A × B × C × D × E × F × R} {st:S->Bool} {ob:S->V} {v:V} (h1:o.map (λs=>lot1 (f s))=some (y.1,y.2.1,y.2.2.1)) (h2:o.map (λs=>lot2 (f s))=some (y.2.2.2.1,y.2.2.2.2.1,y.2.2.2.2.2.2))
  (h3:o.map (λs=>lot3 (f s))=some y.2.2.2.2.2.1) (h4:o.map (λs=>(st s,ob s))=some (true,v)):o.map (λs=>((st s,f s),ob s))=some ((true,y),v):=by
 cases o with
 | none=>cases h1
 | some s =>have k1:((f s).1,(f s).2.1,(f s).2.2.1)=(y.1,y.2.1,y.2.2.1):=Option.some.inj h1;have k2:((f s).2.2.2.1,(f s).2.2.2.2.1,(f s).2.2.2.2.2.2)=(y.2.2.2.1,y.2.2.2.2.1,y.2.2.2.2.2.2):=Option.some.inj h2;have k3:(f s).2.2.2.2.2.1=y.2.2.2.2.2.1:=Option.some.inj h3;have k4:(st s,ob s)=(true,v):=Option.some.inj h4;have ef:f s=y:=Prod.ext (congrArg (λz=>z.1) k1) (Prod.ext (congrArg (λz=>z.2.1) k1) (Prod.ext (congrArg (λz=>z.2.2) k1) (Prod.ext (congrArg (λz=>z.1) k2) (Prod.ext (congrArg (λz=>z.2.1) k2) (Prod.ext k3 (congrArg (λz=>z.2.2) k2))))));have e1:st s=true:=congrArg (λz=>z.1) k4;have e2:ob s=v:=congrArg (λz=>z.2) k4;show some ((st s,f s),ob s)=some ((true,y),v);rw [e1,e2,ef]
end
end LT
namespace My
open PySem
noncomputable def top (i:Nat):Stmt:=PySem.Challenge.pw_piecelay_k14_whole_any_covering.main.body.getD i (.Pass ⟨0,0,0,0⟩)
end My
section
open PySem PySem.W PyProof.Rows
set_option maxRecDepth 100000 in
set_option maxHeartbeats 0 in
theorem My.said:OpenLaw.wellSaid PySem.Challenge.rw_piecelay_k14_whole_any_covering=true:=by kernel_rfl
end
end
section
open PySem PySem.W PyProof.Rows
section
local macro_rules | `(tactic| o_head $H:term)=>`(tactic| (have _hook:=$H;assumption))
theorem My.k0 (h:PySem.Challenge.rw_piecelay_k14_whole_any_covering.row.Holds):PySem.Challenge.rw_piecelay_k14_whole_any_covering.row.Holds:=by
 k_head
end
namespace My
noncomputable def view:Program:={ PySem.Challenge.pw_piecelay_k14_whole_any_covering with main:={ PySem.Challenge.pw_piecelay_k14_whole_any_covering.main with body:=[top 1,top 2,top 3,top 4,top 5,top 7,top 8,top 9,top 10,top 12,top 13,top 14,top 15,top 16,top 17,top 18,top 19,top 20,top 22,top 23,top 24,top 26,top 27,top 28,top 29,top 30,top 31,top 32,top 33,top 34,top 35,top 36,top 37,top 38,top 39,top 40,top 41,top 42,top 43,top 44,top 45,top 46,top 47,top 48,top 50,top 51,top 52,top 53,top 54,top 55,top 56,top 57,top 58,top 59,top 60,top 61,top 62,top 63,top 65,top 66,top 67,top 68,top 69,top 70,top 72,top 73,top 74,top 75,top 76,top 77,top 78,top 79,top 80,top 81,top 82,top 83,top 84,top 85,top 86,top 87,top 88,top 89,top 90,top 91,top 92,top 93,top 94] } }
noncomputable abbrev PRG:Program:=PySem.Challenge.pw_piecelay_k14_whole_any_covering
noncomputable abbrev loose:List Str:=["MOST_IN_LEAF","TREES_IN_BRANCH","MARK_LENGTHS","FILLED_FROM","BASIC"]
noncomputable abbrev xt (s:Shared):Bool:=xlAt view [] s && recOk (RowW.records (OpenRow.toRowW (OpenLaw.row PySem.Challenge.rw_piecelay_k14_whole_any_covering))) s
noncomputable abbrev kas:List Addr:=[2,3,15,22,23,24,25,28,35,36,37,40,47,48,49,52,59,60,61,64,71,73,74,76,77,78,79,80,83,85,86,88,89,90,92,93,95,96,97,100,101,102,103,104,106,107,109,110,111,113,114,116,117,118,121,122,123,125,126,128,129,130,132,133,135,136,137,138,139,140,141,142,143,144,145,146,147,148,149,150,151,152,153,154,155,157,158,160,161,162,163,164,165,166,167,168,169,170,171,172,173,174,175,176,177,178,179,180,181,182,183,184,185,186,187,188,189,190,191,192,193,194,195,196,197,198,199,200,201,202,203,204,205,207,208,210,211,212,215,216,217,219,220,222,223,224,227,228,229,232,233,234,236,237,239,240,241,243,244,246,247,248,251,252,253,255,256,258,259,260,263,264,265,267,268,270,271,272,274,275,277,278,279,281,282,284,285,286,288,289,291,292,293,295,296,298,299,300,301,302,304,305,307,308,309,311,312,314,315,316,318,319,321,322,323,325,326,328,329,330,333,334,335,337,338,340,341,342,344,345,347,348,349,352,353,354,356,357,359,360,361,363,364,366,367,368,371,372,373,376,377,378,380,381,383,384,385,387,388,390,391,392,394,395,397,398,399,401,402,404,405,406,409,410,411,414,415,416,418,419,421,422,423,425,426,428,429,430,432,433,435,436,437,439,440,442,443,444,446,447,449,450,451,453,454,456,457,458,460,461,463,464,465,467,468,470,471,472,475,476,477,479,480,482,483,484,487,488,489,491,492,494,495,508,510,511,513,514,515,517,518,520,521,522,525,526,527,530,531,532,534,535,537,538]
theorem kas_ok:∀ P,kas=(My.k0.heap_1 P).map (·.1):=λ_=>by kernel_rfl
noncomputable abbrev hk:Hook:=kHook My.k0.heap_1 kas kas_ok
noncomputable abbrev NN:Nat:=9000
noncomputable abbrev CD (w:World) (os:OsState):=LT.ran PRG w 11 (some (.ref 6)) NN (LT.boot w.params os) (topStub PRG)
noncomputable abbrev ud (P:Params) (s:SharedT):Bool:=staticsOk (Fast.tw5923862056798008813 PRG.main.body) (boot_heap P) s.abs.heap && namesBound PRG s.abs.heap && gensDone s.abs && laidKept (boot_heap P) s.abs.heap
noncomputable abbrev Fx (s:SharedT):=Fast.tw4187177175401517315 view loose (Fast.tw5923862056798008813 PRG.main.body) xt true s.abs
noncomputable abbrev wm:=openGood view loose
abbrev Bj (w:World) (os:OsState):Prop:=(CD w os).map (λs=>LT.lot1 (Fx s))=some (wm.1,wm.2.1,wm.2.2.1)
abbrev Bk (w:World) (os:OsState):Prop:=(CD w os).map (λs=>LT.lot2 (Fx s))=some (wm.2.2.2.1,wm.2.2.2.2.1,wm.2.2.2.2.2.2)
abbrev Bl (w:World) (os:OsState):Prop:=(CD w os).map (λs=>LT.lot3 (Fx s))=some wm.2.2.2.2.2.1
abbrev Bm (w:World) (os:OsState):Prop:=(CD w os).map (λs=>(ud w.params s,Hook.obs hk s.abs))=some (true,Hook.val hk w)
set_option maxHeartbeats 0 in
theorem ra1:∀ (w:World) (os:OsState),Bj (w.withFollow "special-get-raises" false) os:=λw os=>by unfold Bj;kernel_rfl
set_option maxHeartbeats 0 in
theorem rb1:∀ (w:World) (os:OsState),Bj (w.withFollow "special-get-raises" true) os:=λw os=>by unfold Bj;kernel_rfl
set_option maxHeartbeats 0 in
theorem ra2:∀ (w:World) (os:OsState),Bk (w.withFollow "special-get-raises" false) os:=λw os=>by unfold Bk;kernel_rfl
set_option maxHeartbeats 0 in
theorem rb2:∀ (w:World) (os:OsState),Bk (w.withFollow "special-get-raises" true) os:=λw os=>by unfold Bk;kernel_rfl
set_option maxHeartbeats 0 in
theorem ra3:∀ (w:World) (os:OsState),Bl (w.withFollow "special-get-raises" false) os:=λw os=>by unfold Bl;kernel_rfl
set_option maxHeartbeats 0 in
theorem rb3:∀ (w:World) (os:OsState),Bl (w.withFollow "special-get-raises" true) os:=λw os=>by unfold Bl;kernel_rfl
set_option maxHeartbeats 0 in
theorem ra4:∀ (w:World) (os:OsState),Bm (w.withFollow "special-get-raises" false) os:=λw os=>by unfold Bm;kernel_rfl
set_option maxHeartbeats 0 in
theorem rb4:∀ (w:World) (os:OsState),Bm (w.withFollow "special-get-raises" true) os:=λw os=>by unfold Bm;kernel_rfl
theorem left:LeftO PRG view loose xt (Hook.obs hk) (Hook.val hk) NN :=
 LT.left (by rfl) (by decide) (λs=>by rfl) λw os=>LT.lots (byRow2 "special-get-raises" (P:=λw=>Bj w os) (λw=>ra1 w os) (λw=>rb1 w os) w) (byRow2 "special-get-raises" (P:=λw=>Bk w os) (λw=>ra2 w os) (λw=>rb2 w os) w) (byRow2 "special-get-raises" (P:=λw=>Bl w os) (λw=>ra3 w os) (λw=>rb3 w os) w) (byRow2 "special-get-raises" (P:=λw=>Bm w os) (λw=>ra4 w os) (λw=>rb4 w os) w)
end My
end
section
namespace L2
open PySem PySem.Spec PyProof.Rows
noncomputable abbrev Key:=Sum Int Str
noncomputable def rp:Key->Value->Bool
 | .inl k,v=>Value.isInt k v
 | .inr x,v=>Value.isStrOf x v
noncomputable def GH (w:World):Key->Int
 | .inl k=>hashInt k
 | .inr x=>hashStr w x
theorem eO:∀ {k:Key} {v:Value},rp k v=true->(∃ i t,k=Sum.inl i/\v=Value.int i t)\/(∃ x t,k=Sum.inr x/\v=Value.str x t)
 | .inl i,v,h=>by obtain ⟨t,e⟩:=Value.isInt_shape (k:=i) (v:=v) h;exact .inl ⟨i,t,rfl,e⟩
 | .inr x,v,h=>by obtain ⟨t,e⟩:=Value.isStrOf_shape (x:=x) (v:=v) h;exact .inr ⟨x,t,rfl,e⟩
theorem yD (i:Int) (t:Tok):rp (.inl i) (.int i t)=true:=by simp [rp,Value.isInt]
theorem yE (x:Str) (t:Tok):rp (.inr x) (.str x t)=true:=by simp [rp,Value.isStrOf]
theorem ER (a b:Int):decide ((Sum.inl a:Key)=Sum.inl b)=(a == b):=by
 by_cases e:a=b
 ·subst e;simp
 ·have h:¬ (Sum.inl a:Key)=Sum.inl b:=λq=>e (Sum.inl.inj q);rw [decide_eq_false h];exact (beq_eq_false_iff_ne.mpr e).symm
theorem EU (a b:Str):decide ((Sum.inr a:Key)=Sum.inr b)=decide (a=b):=by
 by_cases e:a=b
 ·subst e;simp
 ·have h:¬ (Sum.inr a:Key)=Sum.inr b:=λq=>e (Sum.inr.inj q);rw [decide_eq_false h,decide_eq_false e]
theorem ES (a:Int) (b:Str):decide ((Sum.inl a:Key)=Sum.inr b)=false:=decide_eq_false (λq=>nomatch q)
theorem ET (a:Str) (b:Int):decide ((Sum.inr a:Key)=Sum.inl b)=false:=decide_eq_false (λq=>nomatch q)
noncomputable def fH (prog:Program) (w:World):PySem.KeyKind prog w Key where
 is:=rp
 hash:=GH w
 inj:=λv a b ha hb=>by
  rcases eO ha with ⟨i,t,rfl,rfl⟩ | ⟨x,t,rfl,rfl⟩
  ·rcases eO hb with ⟨j,u,rfl,e⟩ | ⟨y,u,rfl,e⟩
   ·injection e with e1 _;rw [e1]
   ·exact nomatch e
  ·rcases eO hb with ⟨j,u,rfl,e⟩ | ⟨y,u,rfl,e⟩
   ·exact nomatch e
   ·injection e with e1 _;rw [e1]
 byValue:=λk v h=>by rcases eO h with ⟨i,t,rfl,rfl⟩ | ⟨x,t,rfl,rfl⟩ <;> rfl
 pyHash:=λhv h=>by
  rcases eO hv with ⟨i,t,rfl,rfl⟩ | ⟨x,t,rfl,rfl⟩
  ·exact wpAny_pyHash_int h
  ·exact wpAny_pyHash_str h
 eqBool:=λhu hv h=>by
  rcases eO hu with ⟨i,t,rfl,rfl⟩ | ⟨x,t,rfl,rfl⟩
  ·rcases eO hv with ⟨j,u,rfl,rfl⟩ | ⟨y,u,rfl,rfl⟩
   ·rw [ER] at h;exact wpAny_eqBool_int h
   ·rw [ES] at h;exact SeqAt.EqAt.int_str i t y u _ _ _ _ h
  ·rcases eO hv with ⟨j,u,rfl,rfl⟩ | ⟨y,u,rfl,rfl⟩
   ·rw [ET] at h;exact SeqAt.EqAt.str_int x t j u _ _ _ _ h
   ·rw [EU] at h;exact wpAny_eqBool_str h
 «strs»:=λk x t v h=>by
  rcases eO h with ⟨i,u,rfl,e⟩ | ⟨y,u,rfl,e⟩
  ·exact nomatch e
  ·injection e with e1 _;subst e1;cases v <;> rfl
theorem uS (prog:Program) (w:World) (i:Int) (t:Tok):(fH prog w).is (.inl i) (.int i t)=true:=yD i t
theorem uT (prog:Program) (w:World) (x:Str) (t:Tok):(fH prog w).is (.inr x) (.str x t)=true:=yE x t
inductive V where
 | non | bl (b:Bool) | int (i:Int) | str (x:Str) | byt (b:Array UInt8) | flt (b:UInt64) | ref (a:Addr) | ty (n:String)
 deriving DecidableEq
def RelV:V->Value->Prop
 | .non,u=>u=Value.none
 | .bl b,u=>u=Value.bool b
 | .int i,u=>∃ t,u=Value.int i t
 | .str x,u=>∃ t,u=Value.str x t
 | .byt b,u=>∃ t,u=Value.bytes b t
 | .flt b,u=>∃ t,u=Value.float b t
 | .ref a,u=>u=Value.ref a
 | .ty n,u=>u=Value.type n
abbrev Vals:List V->List Value->Prop:=Paired RelV
variable {xs:List V} {us:List Value}
theorem Vals.length (r:Vals xs us):xs.length=us.length:=Paired.length r
theorem Vals.get:∀ {xs:List V} {us:List Value} {i:Nat} {x:V},Vals xs us->xs[i]?=some x->∃ u,us[i]?=some u/\RelV x u
 | _,_,_,_,.nil,e=>by simp at e
 | _,_,0,_,.cons r _,e=>by simp at e;subst e;exact ⟨_,rfl,r⟩
 | _,_,i+1,x,.cons _ t,e=>by obtain ⟨u,h1,h2⟩:=Vals.get (i:=i) (x:=x) t (by simpa using e);exact ⟨u,by simpa using h1,h2⟩
variable {u:Value}
theorem Vals.set {x:V} (r:RelV x u):∀ {xs:List V} {us:List Value} (i:Nat),Vals xs us->Vals (xs.set i x) (us.set i u)
 | _,_,_,.nil=>.nil
 | _,_,0,.cons _ t=>.cons r t
 | _,_,i+1,.cons q t=>.cons q (Vals.set r i t)
theorem Vals.append:∀ {xs ys:List V} {us ws:List Value},Vals xs us->Vals ys ws->Vals (xs++ys) (us++ws)
 | _,_,_,_,.nil,s=>s
 | _,_,_,_,.cons r t,s=>.cons r (Vals.append t s)
theorem Vals.take:∀ {xs:List V} {us:List Value} (n:Nat),Vals xs us->Vals (xs.take n) (us.take n)
 | _,_,0,_=>.nil
 | _,_,_+1,.nil=>.nil
 | _,_,n+1,.cons r t=>.cons r (Vals.take n t)
theorem Vals.drop:∀ {xs:List V} {us:List Value} (n:Nat),Vals xs us->Vals (xs.drop n) (us.drop n)
 | _,_,0,r=>r
 | _,_,_+1,.nil=>.nil
 | _,_,n+1,.cons _ t=>Vals.drop n t
def RelO:Option V->Option Value->Prop
 | some v,some u=>RelV v u
 | none,none=>True
 | _,_=>False
def KV {κ:Type}:List (κ × V)->List (κ × Value)->Prop:=Paired λ(p:κ × V) (q:κ × Value)=>p.1=q.1/\RelV p.2 q.2
noncomputable def kV:Key->V
 | .inl i=>.int i
 | .inr x=>.str x
inductive HO where
 | lst (xs:List V)
 | tup (xs:List V)
 | dK (kvs:List (Key × V)) | dT (kvs:List (List Key × V))
 | set (S:Int->Bool) (n:Nat)
 | ins (C dx:Addr) (fs:List (Str × V))
 | own (x:Addr)
 | xd (fs:List (Str × V))
 | met (f x:Addr)
 | rng (lo hi:Int)
 | frz (o:Obj) (u:HO)
 | tbl (ps:Array Value)
 | ext (φ:Heap->Prop)
noncomputable abbrev Hp:=Addr->Option HO
noncomputable def upd (H:Hp) (a:Addr) (o:HO):Hp:=λb=>if b=a then some o else H b
variable {H:Hp} {a:Addr}
theorem aH {o:HO}:upd H a o a=some o:=by unfold upd;rw [if_pos rfl]
variable {b:Addr}
theorem aZ {o:HO} (h:b≠a):upd H a o b=H b:=by unfold upd;rw [if_neg h]
theorem aM {o:HO} (h:H a=some o) (h':H b=none):a≠b:=by intro e;subst e;rw [h] at h';cases h'
section
variable (P:Program) (w:World)
def ObjOk (H:Hp) (h:Heap) (a:Addr):HO->Prop
 | .lst xs=>xs.length<=sizeLine/\∃ (its:List Value) (n:Nat),Vals xs its/\h.get? a=some { cls:=.type "list",data:=.seq its.toArray n }
 | .tup xs=>xs.length<=sizeLine/\∃ its:List Value,Vals xs its/\IsTup h a its.toArray
 | .dK kvs=>kvs.length<=sizeLine/\(a == sysModules)=false/\∃ vs,KV kvs vs/\h.DictOf (fH P w) a vs
 | .dT kvs=>kvs.length<=sizeLine/\(a == sysModules)=false/\∃ xs:List (List Key × Addr × Value),
   Paired (λ(p:List Key × V) (q:List Key × Addr × Value)=>p.1=q.1/\H q.2.1=some (.tup (p.1.map kV))/\RelV p.2 q.2.2) kvs xs /\
   ∃ o es ep,h.get? a=some o/\o.ExactDict/\o.data=.dict es ep/\es.toList=xs.map (entryOfKey (tupleKind (fH P w)))/\(xs.map (·.1)).Nodup
 | .set S n=>h.SetOf (intKind P w) a S n
 | .ins C dx fs=>H dx=some (.own a)/\fs.length<=1000/\dx≠a/\h.get? a=some (W.instObj C dx) /\
   ∃ mA,h.Ns1 dx mA/\(∀ f,RelO (fs.lookup f) (mA f))/\PySem.Within mA (fs.map (·.1))
 | .own _=>∃ o,h.get? a=some o
 | .xd fs=>∃ mA,h.Ns1 a mA/\∀ f,RelO (fs.lookup f) (mA f)
 | .rng lo hi=>∃ t u v,h.get? a=some { cls:=.type "range",data:=.fields #[.int lo t,.int hi u,.int 1 v] }
 | .frz o u=>h.get? a=some o/\ObjOk H h a u
 | .tbl ps=>h.get? a=some { cls:=.none,data:=.fields ps }
 | .met f x=>h.get? a=some (W.methodObj (.ref f) (.ref x))
 | .ext φ=>φ h/\(∃ o,h.get? a=some o)/\∀ h1 h2:Heap,φ h1->(∀ o,h1.get? a=some o->h2.get? a=some o)->φ h2
def HOk (H:Hp) (h:Heap):Prop:=∀ a o,H a=some o->ObjOk P w H h a o
end
section
variable {P:Program} {w:World} {H H':Hp} {h h':Heap} {a:Addr} {o:HO}
theorem ObjOk.lt (x:ObjOk P w H h a o):a < h.objs.size:=by
 cases o with
 | lst xs=>obtain ⟨_,_,_,_,e⟩:=x;exact Heap.lt_size e
 | tup xs=>obtain ⟨_,_,_,p⟩:=x;exact p.lt
 | dK kvs=>obtain ⟨_,_,_,_,o,_,_,e,_⟩:=x;exact Heap.lt_size e
 | dT kvs=>obtain ⟨_,_,_,_,o,_,_,e,_⟩:=x;exact Heap.lt_size e
 | set S n=>obtain ⟨o,_,_,_,e,_⟩:=x;exact Heap.lt_size e
 | ins C dx fs=>obtain ⟨_,_,_,e,_⟩:=x;exact Heap.lt_size e
 | own y=>obtain ⟨_,e⟩:=x;exact Heap.lt_size e
 | xd fs=>obtain ⟨_,⟨_,_,_,e,_⟩,_⟩:=x;exact Heap.lt_size e
 | rng lo hi=>obtain ⟨_,_,_,e⟩:=x;exact Heap.lt_size e
 | frz ob u=>obtain ⟨e,_⟩:=x;exact Heap.lt_size e
 | tbl ps=>exact Heap.lt_size (show h.get? a=some _ from x)
 | met f y=>exact Heap.lt_size (show h.get? a=some _ from x)
 | ext φ=>obtain ⟨_,⟨_,e⟩,_⟩:=x;exact Heap.lt_size e
theorem Paired.mapP {α β:Type} {F G:α->β->Prop}:∀ {l₁:List α} {l₂:List β},Paired F l₁ l₂->(∀ a b,F a b->G a b)->Paired G l₁ l₂
 | _,_,.nil,_=>.nil
 | _,_,.cons r t,f=>.cons (f _ _ r) (Paired.mapP t f)
theorem ObjOk.stay (x:ObjOk P w H h a o) (k:∀ b u,(b=a\/H b=some (.own a))->h.get? b=some u->h'.get? b=some u)
  (ho:∀ b,H b=some (.own a)->H' b=some (.own a)) (ht:∀ b xs,H b=some (.tup xs)->H' b=some (.tup xs)):ObjOk P w H' h' a o:=by
 induction o with
 | lst xs=>obtain ⟨z,its,n,r,e⟩:=x;exact ⟨z,its,n,r,k _ _ (.inl rfl) e⟩
 | tup xs=>obtain ⟨z,its,r,ob,e,c⟩:=x;exact ⟨z,its,r,ob,k _ _ (.inl rfl) e,c⟩
 | dK kvs=>obtain ⟨z,y,vs,r,ob,es,ep,e,c⟩:=x;exact ⟨z,y,vs,r,ob,es,ep,k _ _ (.inl rfl) e,c⟩
 | dT kvs =>obtain ⟨z,y,xs,r,ob,es,ep,e,c⟩:=x;exact ⟨z,y,xs,Paired.mapP r λp q z=>⟨z.1,ht _ _ z.2.1,z.2.2⟩,ob,es,ep,k _ _ (.inl rfl) e,c⟩
 | set S n=>obtain ⟨ob,es,ep,t,e,c⟩:=x;exact ⟨ob,es,ep,t,k _ _ (.inl rfl) e,c⟩
 | ins C dx fs =>obtain ⟨d,z,ne,e,mA,⟨od,es,ep,e2,c⟩,r⟩:=x;exact ⟨ho _ d,z,ne,k _ _ (.inl rfl) e,mA,⟨od,es,ep,k _ _ (.inr d) e2,c⟩,r⟩
 | own y=>obtain ⟨ob,e⟩:=x;exact ⟨ob,k _ _ (.inl rfl) e⟩
 | xd fs=>obtain ⟨mA,⟨od,es,ep,e,c⟩,r⟩:=x;exact ⟨mA,⟨od,es,ep,k _ _ (.inl rfl) e,c⟩,r⟩
 | rng lo hi=>obtain ⟨t,u,v,e⟩:=x;exact ⟨t,u,v,k _ _ (.inl rfl) e⟩
 | frz ob u ih=>obtain ⟨e,q⟩:=x;exact ⟨k _ _ (.inl rfl) e,ih q⟩
 | tbl ps =>have e:h.get? a=some { cls:=.none,data:=.fields ps }:=x;show h'.get? a=some { cls:=.none,data:=.fields ps };exact k a _ (.inl rfl) e
 | met f y =>have e:h.get? a=some (W.methodObj (.ref f) (.ref y)):=x;show h'.get? a=some (W.methodObj (.ref f) (.ref y));exact k a _ (.inl rfl) e
 | ext φ=>obtain ⟨p,⟨o,e⟩,st⟩:=x;exact ⟨st _ _ p λo q=>k _ _ (.inl rfl) q,⟨o,k _ _ (.inl rfl) e⟩,st⟩
theorem HOk.lt (x:HOk P w H h) (e:H a=some o):a < h.objs.size:=(x a o e).lt
theorem HOk.fresh (x:HOk P w H h) (e:h.objs.size<=a):H a=none:=by
 cases q:H a with
 | none=>rfl
 | some u=>exact absurd (Nat.lt_of_lt_of_le (x.lt q) e) (Nat.lt_irrefl _)
theorem HOk.kept (x:HOk P w H h) (k:∀ b u,h.get? b=some u->h'.get? b=some u):HOk P w H h':=λa o e =>
 (x a o e).stay (λb u _ q=>k b u q) (λ_ q=>q) λ_ _ q=>q
theorem HOk.laid (x:HOk P w H h) (k:∀ b u,h.get? b=some u->h'.get? b=some u) (hp:h.objs.size<=a) (new:ObjOk P w (upd H a o) h' a o):HOk P w (upd H a o) h':=λb u e=>by
 have hn:=x.fresh hp;by_cases hb:b=a
 ·subst hb;rw [aH] at e;cases e;exact new
 ·rw [aZ hb] at e;exact (x b u e).stay (λc v _ q=>k c v q) (λc q=>by rw [aZ (aM q hn)];exact q) λc xs q=>by rw [aZ (aM q hn)];exact q
end
def Rd (H:Hp) (a:Addr) (u:HO):Prop:=H a=some u\/∃ o,H a=some (.frz o u)
variable {P:Program} {w:World} {h:Heap}
theorem Rd.ok {u:HO} (r:Rd H a u) (x:HOk P w H h):ObjOk P w H h a u:=by
 rcases r with r | ⟨o,r⟩
 ·exact x a u r
 ·obtain ⟨_,q⟩:=x a _ r;exact q
def Mut:Option HO->Prop
 | some (.lst _)=>True
 | some (.dK _)=>True
 | some (.dT _)=>True
 | some (.set _ _)=>True
 | some (.ins _ _ _)=>True
 | some (.ext _)=>True
 | _=>False
section
variable {P:Program} {w:World} {H:Hp} {h h':Heap} {x e:Addr} {o':HO}
theorem HOk.write (ok:HOk P w H h) (mu:Mut (H x)) (he:e=x\/H e=some (.own x)) (k:∀ b u,b≠e->h.get? b=some u->h'.get? b=some u) (heo:∃ u,h'.get? e=some u)
  (new:ObjOk P w (upd H x o') h' x o'):HOk P w (upd H x o') h':=λb u q=>by
 have nown:∀ c y,H c=some (.own y)->c≠x:=λc y r z=>by subst z;rw [r] at mu;exact mu
 have ntup:∀ c xs,H c=some (.tup xs)->c≠x:=λc xs r z=>by subst z;rw [r] at mu;exact mu
 by_cases hb:b=x
 ·subst hb;rw [aH] at q;cases q;exact new
 ·rw [aZ hb] at q;by_cases hbe:b=e
  ·have q':H b=some (.own x):=by
    rcases he with z | z
    ·exact absurd (hbe.trans z) hb
    ·rw [hbe];exact z
   rw [q] at q';cases q';obtain ⟨v,hv⟩:=heo;exact ⟨v,by rw [hbe];exact hv⟩
  ·refine (ok b u q).stay (λc v hc r=>k c v ?_ r) (λc r=>by rw [aZ (nown c b r)];exact r) λc xs r=>by rw [aZ (ntup c xs r)];exact r
   rcases hc with rfl | hc
   ·exact hbe
   ·rintro rfl;rcases he with z | z
    ·exact nown c b hc z
    ·rw [hc] at z;cases z;exact hb rfl
end
structure Un (fs ex:List Addr) (H H':Hp) (h h':Heap):Prop where
 keep:∀ b o,h.get? b=some o->H b=none->b ∉ fs->b ∉ ex->h'.get? b=some o
 slot:∀ b o,h.get? b=some o->H b=none->b ∈ fs->b ∉ ex->∃ sl,h'.get? b=some { o with slots:=sl }
 free:∀ b o,h.get? b=some o->H b=none->b ∉ ex->H' b=none
 there:∀ b o,h.get? b=some o->b ∉ ex->∃ o',h'.get? b=some o'
 tups:∀ b xs,H b=some (.tup xs)->H' b=some (.tup xs)
 frzs:∀ b o u,H b=some (.frz o u)->H' b=some (.frz o u)
 tbls:∀ b ps,H b=some (.tbl ps)->∃ more,H' b=some (.tbl (ps++more))
section
variable {fs fs' ex ex':List Addr} {H H1 H2:Hp} {h h1 h2 h':Heap} {a x e:Addr} {o:HO}
theorem Un.any (u:Un fs ex H H1 h h1) {b:Addr} {ob:Obj} (q:h.get? b=some ob) (n:H b=none) (hx:b ∉ ex):∃ sl,h1.get? b=some { ob with slots:=sl }:=by
 by_cases hb:b ∈ fs
 ·exact u.slot b ob q n hb hx
 ·exact ⟨ob.slots,u.keep b ob q n hb hx⟩
theorem Un.kept (k:∀ b u,h.get? b=some u->h'.get? b=some u):Un fs ex H H h h' :=
 ⟨λb ob q _ _ _=>k b ob q,λb ob q _ _ _=>⟨ob.slots,k b ob q⟩,λ_ _ _ n _=>n,λb ob q _=>⟨ob,k b ob q⟩,λ_ _ q=>q,λ_ _ _ q=>q,λ_ ps q=>⟨#[],by rw [q];simp⟩⟩
theorem Un.refl:Un fs ex H H h h:=Un.kept λ_ _ q=>q
theorem Un.laid (k:∀ b u,h.get? b=some u->h'.get? b=some u) (hp:h.objs.size<=a) (hn:H a=none):Un fs ex H (upd H a o) h h' where
 keep:=λb u q _ _ _=>k b u q
 slot:=λb u q _ _ _=>⟨u.slots,k b u q⟩
 free:=λb u q n _=>by rw [aZ (Nat.ne_of_lt (Nat.lt_of_lt_of_le (Heap.lt_size q) hp))];exact n
 there:=λb u q _=>⟨u,k b u q⟩
 tups:=λb xs q=>by rw [aZ (aM q hn)];exact q
 frzs:=λb u xs q=>by rw [aZ (aM q hn)];exact q
 tbls:=λb ps q=>⟨#[],by rw [aZ (aM q hn),q];simp⟩
theorem Un.write (mu:Mut (H x)) (he:e=x\/H e=some (.own x)) (k:∀ b u,b≠e->h.get? b=some u->h'.get? b=some u) (heo:∃ u,h'.get? e=some u):Un fs ex H (upd H x o) h h':=by
 have hx:∀ b,H b=none->b≠x:=λb n z=>by subst z;rw [n] at mu;exact mu
 have hb:∀ b,H b=none->b≠e:=λb n z=>by
  subst z;rcases he with r | r
  ·exact hx b n r
  ·rw [n] at r;cases r
 have hm:∀ b u,H b=some u->¬ Mut (some u)->b≠x:=λb u q nm z=>by subst z;rw [q] at mu;exact nm mu
 refine ⟨λb u q n _ _=>k b u (hb b n) q,λb u q n _ _=>⟨u.slots,k b u (hb b n) q⟩,λb u q n _=>by rw [aZ (hx b n)];exact n,λb u q _=>?_,
  λb xs q=>by rw [aZ (hm b _ q λz=>z)];exact q,λb u xs q=>by rw [aZ (hm b _ q λz=>z)];exact q,λb ps q=>⟨#[],by rw [aZ (hm b _ q λz=>z),q];simp⟩⟩
 by_cases hbe:b=e
 ·subst hbe;exact heo
 ·exact ⟨u,k b u hbe q⟩
end
noncomputable def trk (h:Heap) (H:Hp):List Addr:=(List.range h.objs.size).filter λa=>(H a).isSome
noncomputable def sL (h:Heap) (H:Hp):Heap:=W.hideAll h (trk h H)
theorem yB (h:Heap) (H:Hp):(sL h H).objs.size=h.objs.size:=W.hideAll_size _ _
variable {o:Obj}
theorem Ay (e:h.get? b=some o) (n:H b=none):(sL h H).get? b=some o :=
 W.hideAll_get _ e λhm=>by have q:(H b).isSome=true:=(List.mem_filter.mp hm).2;rw [n] at q;simp at q
theorem CZ (e:(sL h H).get? b=some o):h.get? b=some o/\H b=none:=by
 have e':h.get? b=some o:=W.of_hideAll (trk h H) e;refine ⟨e',?_⟩
 cases q:H b with
 | none=>rfl
 | some x =>have hm:b ∈ trk h H:=List.mem_filter.mpr ⟨List.mem_range.mpr (Heap.lt_size e'),by simp [q]⟩;have z:(sL h H).get? b=none:=W.hideAll_none (trk h H) hm;rw [z] at e;cases e
structure Mod (K:W.Frag) (mg:Str->Option Value) (base:Heap):Prop where
 kin:K.In base
 glob:base.Ns mainGlobals mg
 blt:∃ mb,base.Ns builtinsNs mb/\∀ x:Str,x≠"__name__"->mb x=bootBuiltins x
 nolimit:base.NoLimit
structure Cx where
 prog:Program
 w:World
 K:W.Frag
 mg:Str->Option Value
 base:Heap
 A:Around
 N:List Str
 s₀:Shared
 H₀:Hp
 env:Env
 outer:List Env
 stack:List Env
 ex:List Addr
 fn:Str->Bool
 calm:Bool
 pn:List (Addr × Obj)
 xe:Value->Shared->Prop
noncomputable def frs (l:List Env):List Addr:=l.filterMap (·.frame)
noncomputable abbrev Cx.fs (X:Cx):List Addr:=frs X.outer
def Vis (sc:Scope) (x:Str):Prop:=sc.names.lookup x=some .local\/sc.names.lookup x=some .cell\/sc.names.lookup x=some .free
def Loc (sc:Scope) (x:Str):Prop:=sc.names.lookup x=some .local\/sc.names.lookup x=some .cell
def Gw (env:Env) (h:Heap) (m:Str->Option Value) (x:Str) (u:Value):Prop :=
 (env.kindOf x=some .local/\m x=some u)\/((env.kindOf x=some .cell\/env.kindOf x=some .free)/\∃ c,env.cells.lookup x=some c/\h.IsCell c (some u))
structure Cx.Ok (X:Cx):Prop where
 mod:Mod X.K X.mg X.base
 kind:X.env.scope.kind=.function
 glob:X.env.globals=mainGlobals
 blt:X.env.builtins=builtinsNs
 above:X.s₀.heap.objs.size<=X.env.locals
 inj:∀ x y c,X.env.cells.lookup x=some c->X.env.cells.lookup y=some c->x=y
 has:∀ x,(X.env.kindOf x=some .cell\/X.env.kindOf x=some .free)->∃ c,X.env.cells.lookup x=some c
 cab:∀ x c,X.fn x=true->X.env.cells.lookup x=some c->X.s₀.heap.objs.size<=c
 hd:X.calm=true->X.A.handled=none
 frames:X.A.frames=some X.stack
 stk:X.stack=X.outer\/(X.stack=X.env::X.outer/\X.env.frame=some X.env.locals)
 exf:∀ b ∈ X.ex,b≠X.env.locals/\∀ x c,X.env.cells.lookup x=some c->c≠b
 bs:∀ b o,X.base.get? b=some o->X.s₀.heap.get? b=some o/\X.H₀ b=none
 bsz:X.base.objs.size<=X.s₀.heap.objs.size
 noex:∀ b o,X.base.get? b=some o->b ∉ X.ex
 exfs:∀ b ∈ X.ex,b ∉ X.fs
 funs:X.s₀.heap.FunFrames X.base X.outer
 frf:∀ b ∈ X.fs,X.H₀ b=none
structure Inv (X:Cx) (pins:List (Addr × Obj)) (σ:List (Option V)) (H:Hp) (s:Shared):Prop where
 ok:X.Ok
 os:s.os=X.s₀.os
 bare:AllBare s.gens
 base:Un X.fs X.ex X.H₀ H X.s₀.heap s.heap
 loc:∃ m,s.heap.Ns X.env.locals m/\∀ (i:Nat) (x:Str) (v:V),X.N[i]?=some x->σ[i]?=some (some v)->Vis X.env.scope x->∃ u,RelV v u/\Gw X.env s.heap m x u
 cell:∀ x c,X.env.cells.lookup x=some c->∃ v,s.heap.IsCell c v
 free:H X.env.locals=none
 freeC:∀ x c,X.env.cells.lookup x=some c->H c=none
 pin:∀ p ∈ X.pn++pins,s.heap.get? p.1=some p.2/\H p.1=none/\p.1≠X.env.locals/\p.1 ∉ X.fs/\∀ v,p.2.data≠.cell v
 hok:HOk X.prog X.w H s.heap
 len:σ.length=X.N.length
section
variable {X:Cx} {pins:List (Addr × Obj)} {σ:List (Option V)} {H H':Hp} {s:Shared} {h':Heap}
theorem Cx.Ok.nofr (ok:X.Ok) {b:Addr} {o:Obj} (e:X.base.get? b=some o):b ∉ X.fs:=λhb=>by have:=(ok.funs.mem hb).1;rw [e] at this;cases this
theorem Inv.bs (I:Inv X pins σ H s):∀ b o,X.base.get? b=some o->s.heap.get? b=some o/\H b=none:=λb o e =>
 ⟨I.base.keep b o (I.ok.bs b o e).1 (I.ok.bs b o e).2 (I.ok.nofr e) (I.ok.noex b o e),I.base.free b o (I.ok.bs b o e).1 (I.ok.bs b o e).2 (I.ok.noex b o e)⟩
theorem Inv.bk (I:Inv X pins σ H s):∀ b o,X.base.get? b=some o->s.heap.get? b=some o:=λb o e=>(I.bs b o e).1
theorem Inv.mod (I:Inv X pins σ H s):Mod X.K X.mg X.base:=I.ok.mod
theorem Inv.kIn (I:Inv X pins σ H s):X.K.In s.heap:=I.ok.mod.kin.keeps I.bk
theorem Inv.lt (I:Inv X pins σ H s):X.env.locals < s.heap.objs.size:=let ⟨_,hn,_⟩:=I.loc;hn.lt
theorem Inv.sz (I:Inv X pins σ H s):X.s₀.heap.objs.size<=s.heap.objs.size:=Nat.le_trans I.ok.above (Nat.le_of_lt I.lt)
variable {a:Addr}
theorem Inv.nofs (I:Inv X pins σ H s) (h:s.heap.objs.size<=a):a ∉ X.fs:=λhb=>by obtain ⟨_,o,ho,_⟩:=I.ok.funs.mem hb;exact absurd (Nat.lt_of_lt_of_le (Heap.lt_size ho) (Nat.le_trans I.sz h)) (Nat.lt_irrefl _)
theorem Inv.cne (I:Inv X pins σ H s):∀ x c,X.env.cells.lookup x=some c->c≠X.env.locals:=λx c e z=>by obtain ⟨v,o,ho,hd⟩:=I.cell x c e;obtain ⟨m,⟨o',es,ep,ho',hd',_⟩,_⟩:=I.loc;rw [z,ho'] at ho;cases ho;rw [hd'] at hd;cases hd
theorem Inv.funs (I:Inv X pins σ H s):s.heap.FunFrames X.base X.outer:=by
 have all:∀ (l:List Env),(∀ b ∈ frs l,b ∈ X.fs)->X.s₀.heap.FunFrames X.base l->s.heap.FunFrames X.base l:=by
  intro l
  induction l with
  | nil=>intro _ _;trivial
  | cons env r ih =>intro hs hl;obtain ⟨hk,⟨L,o,hf,hn,ho,hd⟩,hr⟩:=hl;have hL:L ∈ X.fs:=hs L (by unfold frs;rw [List.filterMap_cons,hf];exact List.mem_cons_self);obtain ⟨sl,e⟩:=I.base.slot L o ho (I.ok.frf L hL) hL λz=>I.ok.exfs L z hL;exact ⟨hk,⟨L,_,hf,hn,e,hd⟩,ih (λb hb=>hs b (by unfold frs;rw [List.filterMap_cons,hf];exact List.mem_cons_of_mem _ hb)) hr⟩
 exact all X.outer (λ_ hb=>hb) I.ok.funs
theorem Inv.stack (I:Inv X pins σ H s):s.heap.FunFrames X.base X.stack:=by
 rcases I.ok.stk with e | ⟨e,hf⟩
 ·rw [e];exact I.funs
 ·rw [e];obtain ⟨m,hn,_⟩:=I.loc;refine .cons (by rw [I.ok.kind];decide) hf hn ?_ I.funs;exact Heap.get?_none_of_le (Nat.le_trans I.ok.bsz I.ok.above)
theorem Inv.stkSub (I:Inv X pins σ H s):∀ b ∈ frs X.stack,b ∈ X.env.locals::X.fs:=λb hb=>by
 rcases I.ok.stk with e | ⟨e,hf⟩
 ·rw [e] at hb;exact List.mem_cons_of_mem _ hb
 ·rw [e] at hb;unfold frs at hb;rw [List.filterMap_cons,hf] at hb;exact hb
theorem Inv.stkFree (I:Inv X pins σ H s):∀ b ∈ frs X.stack,H b=none:=λb hb=>by
 rcases List.mem_cons.mp (I.stkSub b hb) with e | hb
 ·rw [e];exact I.free
 ·obtain ⟨_,o,ho,_⟩:=I.ok.funs.mem hb;exact I.base.free b o ho (I.ok.frf b hb) λz=>I.ok.exfs b z hb
variable {g':Array GenState} {t':Nat} {d':Drawn} {ch:List Addr}
theorem Inv.step (I:Inv X pins σ H s)
  (hch:∀ b ∈ ch,(b ∈ X.ex\/X.s₀.heap.objs.size<=b)/\b≠X.env.locals/\(∀ x c,X.env.cells.lookup x=some c->c≠b)/\∀ p ∈ X.pn++pins,p.1≠b)
  (keep:∀ b o,b≠X.env.locals->b ∉ X.fs->b ∉ ch->s.heap.get? b=some o->H b=none->h'.get? b=some o)
  (slot:∀ b o,b≠X.env.locals->b ∈ X.fs->b ∉ ch->s.heap.get? b=some o->H b=none->∃ sl,h'.get? b=some { o with slots:=sl }) (free:∀ b o,b ∉ ch->s.heap.get? b=some o->H b=none->H' b=none)
  (there:∀ b o,b ∉ ch->s.heap.get? b=some o->∃ o',h'.get? b=some o')
  (tups:∀ b xs,H b=some (.tup xs)->H' b=some (.tup xs)) (frzs:∀ b o u,H b=some (.frz o u)->H' b=some (.frz o u)) (tbls:∀ b ps,H b=some (.tbl ps)->∃ more,H' b=some (.tbl (ps++more)))
  (ns:∀ m,s.heap.Ns X.env.locals m->h'.Ns X.env.locals m) (hok:HOk X.prog X.w H' h') (hg:AllBare g') :
  Inv X pins σ H' { s with heap:=h',gens:=g',drawn:=d',toks:=t' }:=by
 have neL:∀ b o,X.s₀.heap.get? b=some o->b≠X.env.locals:=λb o e=>Nat.ne_of_lt (Nat.lt_of_lt_of_le (Heap.lt_size e) I.ok.above)
 have neC:∀ b o,X.s₀.heap.get? b=some o->b ∉ X.ex->b ∉ ch:=λb o e hx hb=>by
  rcases (hch b hb).1 with z | z
  ·exact hx z
  ·exact absurd (Nat.lt_of_lt_of_le (Heap.lt_size e) z) (Nat.lt_irrefl _)
 have cellK:∀ x c,X.env.cells.lookup x=some c->∀ v,s.heap.IsCell c v->h'.IsCell c v:=λx c e v ⟨o,ho,hd⟩=>by
  have nch:c ∉ ch:=λz=>(hch c z).2.2.1 x c e rfl;by_cases hc:c ∈ X.fs
  ·obtain ⟨sl,q⟩:=slot c o (I.cne x c e) hc nch ho (I.freeC x c e);exact ⟨_,q,hd⟩
  ·exact ⟨o,keep c o (I.cne x c e) hc nch ho (I.freeC x c e),hd⟩
 refine ⟨I.ok,I.os,hg,⟨λb o e n hb hx=>?_,λb o e n hb hx=>?_,λb o e n hx=>?_,λb o e hx=>?_,λb xs e=>tups b xs (I.base.tups b xs e),λb o xs e=>frzs b o xs (I.base.frzs b o xs e),λb ps e=>?_⟩,?_,λx c e=>?_,?_,λx c e=>?_,λp hp=>?_,hok,I.len⟩
 ·exact keep b o (neL b o e) hb (neC b o e hx) (I.base.keep b o e n hb hx) (I.base.free b o e n hx)
 ·obtain ⟨sl,e1⟩:=I.base.slot b o e n hb hx;obtain ⟨sl',e2⟩:=slot b _ (neL b o e) hb (neC b o e hx) e1 (I.base.free b o e n hx);exact ⟨sl',e2⟩
 ·obtain ⟨o',e1⟩:=I.base.there b o e hx;exact free b o' (neC b o e hx) e1 (I.base.free b o e n hx)
 ·obtain ⟨o',e1⟩:=I.base.there b o e hx;exact there b o' (neC b o e hx) e1
 ·obtain ⟨m1,e1⟩:=I.base.tbls b ps e;obtain ⟨m2,e2⟩:=tbls b _ e1;exact ⟨m1++m2,by rw [e2,Array.append_assoc]⟩
 ·obtain ⟨m,hn,hl⟩:=I.loc;refine ⟨m,ns m hn,λi x v e1 e2 e3=>?_⟩;obtain ⟨u,r,l⟩:=hl i x v e1 e2 e3;refine ⟨u,r,?_⟩;rcases l with l | ⟨k,c,e,z⟩
  ·exact .inl l
  ·exact .inr ⟨k,c,e,cellK x c e _ z⟩
 ·obtain ⟨v,z⟩:=I.cell x c e;exact ⟨v,cellK x c e v z⟩
 ·obtain ⟨m,⟨o,_,_,ho,_⟩,_⟩:=I.loc;exact free _ o (λz=>(hch _ z).2.1 rfl) ho I.free
 ·obtain ⟨v,o,ho,hd⟩:=I.cell x c e;exact free c o (λz=>(hch c z).2.2.1 x c e rfl) ho (I.freeC x c e)
 ·obtain ⟨e,n,ne,nf,d⟩:=I.pin p hp;have nch:p.1 ∉ ch:=λz=>(hch p.1 z).2.2.2 p hp rfl;exact ⟨keep p.1 p.2 ne nf nch e n,free p.1 p.2 nch e n,ne,nf,d⟩
theorem Inv.un (I:Inv X pins σ H s) (u:Un X.fs [] H H' s.heap h') (hok:HOk X.prog X.w H' h'):Inv X pins σ H' { s with heap:=h',toks:=t' }:=by
 obtain ⟨m,⟨o,es,ep,ho,r⟩,_⟩:=id I.loc;obtain ⟨sl,hL⟩:=u.any ho I.free (by simp)
 exact I.step (g':=s.gens) (d':=s.drawn) (ch:=[]) (λ_ z=>nomatch z) (λb o _ hb _ e n=>u.keep b o e n hb (by simp)) (λb o _ hb _ e n=>u.slot b o e n hb (by simp)) (λb o _ e n=>u.free b o e n (by simp)) (λb o _ e=>u.there b o e (by simp)) u.tups u.frzs u.tbls (λm' hm=>by
  obtain ⟨o',es',ep',ho',r'⟩:=hm;rw [ho] at ho';cases ho';exact ⟨_,es',ep',hL,r'⟩) hok I.bare
theorem Inv.call (I:Inv X pins σ H s) (u:Un (frs X.stack) ch H H' s.heap h') (hok:HOk X.prog X.w H' h') (hg:AllBare g')
  (hch:∀ b ∈ ch,(b ∈ X.ex\/X.s₀.heap.objs.size<=b)/\b≠X.env.locals/\(∀ x c,X.env.cells.lookup x=some c->c≠b)/\∀ p ∈ X.pn++pins,p.1≠b) :
  Inv X pins σ H' { s with heap:=h',gens:=g',drawn:=d',toks:=t' }:=by
 obtain ⟨m,⟨o,es,ep,ho,r⟩,_⟩:=id I.loc;obtain ⟨sl,hL⟩:=u.any ho I.free λz=>(hch _ z).2.1 rfl
 exact I.step (ch:=ch) hch (λb o hL hb hc e n=>u.keep b o e n (λz=>(List.mem_cons.mp (I.stkSub b z)).elim hL hb) hc) (λb o _ _ hc e n=>u.any e n hc) (λb o hc e n=>u.free b o e n hc) (λb o hc e=>u.there b o e hc) u.tups u.frzs u.tbls (λm' hm=>by
  obtain ⟨o',es',ep',ho',r'⟩:=hm;rw [ho] at ho';cases ho';exact ⟨_,es',ep',hL,r'⟩) hok hg
theorem Inv.turned {it:Addr} (I:Inv X pins σ H s) (k:∀ b o,b≠it->s.heap.get? b=some o->h'.get? b=some o) (hn:H it=none) (hL:it≠X.env.locals)
  (h1:it ∈ X.ex\/X.s₀.heap.objs.size<=it) (h2:∀ x c,X.env.cells.lookup x=some c->c≠it) (h3:∀ p ∈ X.pn++pins,p.1≠it):Inv X pins σ H { s with heap:=h',toks:=t' }:=by
 have nit:∀ b u,H b=some u->b≠it:=λb u e z=>by rw [z,hn] at e;cases e
 refine I.step (g':=s.gens) (d':=s.drawn) (ch:=[it]) (λb hb=>?_) (λb o _ _ hc e _=>k b o (λz=>hc (by simp [z])) e) (λb o _ _ hc e _=>⟨o.slots,k b o (λz=>hc (by simp [z])) e⟩) (λ_ _ _ _ n=>n)
  (λb o hc e=>⟨o,k b o (λz=>hc (by simp [z])) e⟩) (λ_ _ e=>e) (λ_ _ _ e=>e) (λb ps e=>⟨#[],by rw [e];simp⟩) (λm hm=>?_) (λb u e=>?_) I.bare
 ·have e:b=it:=by simpa using hb
  subst e;exact ⟨h1,hL,h2,h3⟩
 ·obtain ⟨o,es,ep,ho,r⟩:=hm;exact ⟨o,es,ep,k _ o (Ne.symm hL) ho,r⟩
 ·refine (I.hok b u e).stay (λc v hc q=>k c v ?_ q) (λ_ q=>q) λ_ _ q=>q;rcases hc with z | z
  ·rw [z];exact nit b u e
  ·exact nit c _ z
theorem Inv.tok (I:Inv X pins σ H s) (t:Nat):Inv X pins σ H { s with toks:=t }:=I.un (h':=s.heap) (t':=t) Un.refl I.hok
theorem Inv.kept (I:Inv X pins σ H s) (k:∀ b u,s.heap.get? b=some u->h'.get? b=some u):Inv X pins σ H { s with heap:=h',toks:=t' }:=I.un (Un.kept k) (I.hok.kept k)
variable {o:HO}
theorem Inv.laid (I:Inv X pins σ H s) (k:∀ b u,s.heap.get? b=some u->h'.get? b=some u) (hp:s.heap.objs.size<=a) (new:ObjOk X.prog X.w (upd H a o) h' a o) :
  Inv X pins σ (upd H a o) { s with heap:=h',toks:=t' }:=I.un (Un.laid k hp (I.hok.fresh hp)) (I.hok.laid k hp new)
theorem Inv.write {x e:Addr} (I:Inv X pins σ H s) (mu:Mut (H x)) (he:e=x\/H e=some (.own x)) (k:∀ b u,b≠e->s.heap.get? b=some u->h'.get? b=some u) (heo:∃ u,h'.get? e=some u)
  (new:ObjOk X.prog X.w (upd H x o) h' x o):Inv X pins σ (upd H x o) { s with heap:=h',toks:=t' }:=I.un (Un.write mu he k heo) (I.hok.write mu he k heo new)
theorem Inv.pins_of {pins':List (Addr × Obj)} (I:Inv X pins σ H s) (h:∀ p ∈ pins',s.heap.get? p.1=some p.2/\H p.1=none/\p.1≠X.env.locals/\p.1 ∉ X.fs/\∀ v,p.2.data≠.cell v):Inv X pins' σ H s :=
 ⟨I.ok,I.os,I.bare,I.base,I.loc,I.cell,I.free,I.freeC,λp hp=>(List.mem_append.mp hp).elim (λz=>I.pin p (List.mem_append_left _ z)) (h p),I.hok,I.len⟩
variable {i:Nat} {x:Str}
theorem uV {N:List Str} (hN:N.Nodup) {j:Nat} (a:N[i]?=some x) (b:N[j]?=some x):i=j:=by obtain ⟨h1,e1⟩:=List.getElem?_eq_some_iff.mp a;obtain ⟨h2,e2⟩:=List.getElem?_eq_some_iff.mp b;exact (List.getElem_inj hN).mp (e1.trans e2.symm)
variable {M:Model} {A:Around} {v:V} {u:Value}
theorem rQ {E:Value->Shared->Prop} {Q:Unit->Shared->Prop} (I:Inv X pins σ H s) (hN:X.N.Nodup) (hi:X.N[i]?=some x) (hx:Loc X.env.scope x) (r:RelV v u)
  (h:∀ s',Inv X pins (σ.set i (some v)) H s'->(∃ a,Heap.SameBut a s.heap s'.heap/\(a=X.env.locals\/X.env.cells.lookup x=some a))->Q () s') (hf:X.fn x=true\/X.env.scope.names.lookup x=some .local:=by first | exact .inl rfl | exact .inr rfl | assumption):wpAny M A (storeName X.env x u) Q E s:=by
 obtain ⟨m,hn,hl⟩:=id I.loc;have hcls:(X.env.scope.kind == .class || (X.env.scope.kind == .module && X.env.locals != X.env.globals))=false:=by rw [I.ok.kind];rfl
 have hiσ:i < σ.length:=by rw [I.len];exact (List.getElem?_eq_some_iff.mp hi).1
 have cne:=I.cne
 have tracked:∀ {a:Addr} {h':Heap},(∃ o,s.heap.get? a=some o/\H a=none)->Heap.SameBut a s.heap h'->HOk X.prog X.w H h':=λ{a h'} ha hs b ob e=>by
  obtain ⟨_,_,hfree⟩:=ha;refine (I.hok b ob e).stay (λc w' hc q=>(hs.2 c ?_).trans q) (λ_ q=>q) λ_ _ q=>q;rintro rfl;rcases hc with rfl | hc
  ·rw [hfree] at e;cases e
  ·rw [hfree] at hc;cases hc
 rcases hx with hk | hk
 ·refine wpAny_storeName_local hk hn (λh' hn' hs=>?_) hcls;obtain ⟨oL,_,_,hoL,_⟩:=id hn;refine h _ ⟨I.ok,I.os,I.bare,⟨λb o e n hb hx=>?_,λb o e n hb hx=>?_,I.base.free,λb o e hx=>?_,I.base.tups,I.base.frzs,I.base.tbls⟩,⟨_,hn',λj y v' e1 e2 e3=>?_⟩,λy c e=>?_,I.free,I.freeC,λp hp=>?_,tracked ⟨oL,hoL,I.free⟩ hs,by simpa using I.len⟩ ⟨_,hs,.inl rfl⟩
  ·exact (hs.2 b (Nat.ne_of_lt (Nat.lt_of_lt_of_le (Heap.lt_size e) I.ok.above))).trans (I.base.keep b o e n hb hx)
  ·obtain ⟨sl,e1⟩:=I.base.slot b o e n hb hx;exact ⟨sl,(hs.2 b (Nat.ne_of_lt (Nat.lt_of_lt_of_le (Heap.lt_size e) I.ok.above))).trans e1⟩
  ·obtain ⟨o',e1⟩:=I.base.there b o e hx;exact ⟨o',(hs.2 b (Nat.ne_of_lt (Nat.lt_of_lt_of_le (Heap.lt_size e) I.ok.above))).trans e1⟩
  ·by_cases hj:j=i
   ·subst hj;rw [hi] at e1;cases e1;rw [List.getElem?_set_self hiσ] at e2;cases e2;exact ⟨u,r,.inl ⟨hk,by simp⟩⟩
   ·rw [List.getElem?_set_ne (Ne.symm hj)] at e2;obtain ⟨u',r',q⟩:=hl j y v' e1 e2 e3;refine ⟨u',r',?_⟩;rcases q with ⟨k,e⟩ | ⟨k,c,e,z⟩
    ·refine .inl ⟨k,?_⟩;have:y≠x:=λe=>hj (uV hN e1 (e ▸ hi));simp [this,e]
    ·exact .inr ⟨k,c,e,z.sameBut hs (cne y c e)⟩
  ·obtain ⟨w',z⟩:=I.cell y c e;exact ⟨w',z.sameBut hs (cne y c e)⟩
  ·obtain ⟨e,n,ne,nf,d⟩:=I.pin p hp;exact ⟨(hs.2 p.1 ne).trans e,n,ne,nf,d⟩
 ·have hfn:X.fn x=true:=by
   rcases hf with z | z
   ·exact z
   ·rw [z] at hk;cases hk
  obtain ⟨c,hc⟩:=I.ok.has x (.inl hk);obtain ⟨w',z⟩:=I.cell x c hc;refine wpAny_storeName_cell I.ok.kind hk hc z (λh' hc' hs=>?_);obtain ⟨oc,hoc,hocd⟩:=id z;refine h { s with heap:=h' } ⟨I.ok,I.os,I.bare,⟨λb o e n hb hx=>?_,λb o e n hb hx=>?_,I.base.free,λb o e hx=>?_,I.base.tups,I.base.frzs,I.base.tbls⟩,⟨m,hn.sameBut hs (Ne.symm (cne x c hc)),λj y v' e1 e2 e3=>?_⟩,λy c' e=>?_,I.free,I.freeC,λp hp=>?_,tracked ⟨oc,hoc,I.freeC x c hc⟩ hs,by simpa using I.len⟩ ⟨c,hs,.inr hc⟩
  ·exact (hs.2 b (Nat.ne_of_lt (Nat.lt_of_lt_of_le (Heap.lt_size e) (I.ok.cab x c hfn hc)))).trans (I.base.keep b o e n hb hx)
  ·obtain ⟨sl,e1⟩:=I.base.slot b o e n hb hx;exact ⟨sl,(hs.2 b (Nat.ne_of_lt (Nat.lt_of_lt_of_le (Heap.lt_size e) (I.ok.cab x c hfn hc)))).trans e1⟩
  ·obtain ⟨o',e1⟩:=I.base.there b o e hx;exact ⟨o',(hs.2 b (Nat.ne_of_lt (Nat.lt_of_lt_of_le (Heap.lt_size e) (I.ok.cab x c hfn hc)))).trans e1⟩
  ·by_cases hj:j=i
   ·subst hj;rw [hi] at e1;cases e1;rw [List.getElem?_set_self hiσ] at e2;cases e2;exact ⟨u,r,.inr ⟨.inl hk,c,hc,hc'⟩⟩
   ·rw [List.getElem?_set_ne (Ne.symm hj)] at e2;obtain ⟨u',r',q⟩:=hl j y v' e1 e2 e3;refine ⟨u',r',?_⟩;rcases q with q | ⟨k,c',e,z'⟩
    ·exact .inl q
    ·refine .inr ⟨k,c',e,z'.sameBut hs ?_⟩;rintro rfl;exact hj (uV hN e1 (I.ok.inj _ _ _ e hc ▸ hi))
  ·by_cases hcc:c'=c
   ·subst hcc;exact ⟨_,hc'⟩
   ·obtain ⟨w2,z2⟩:=I.cell y c' e;exact ⟨w2,z2.sameBut hs hcc⟩
  ·obtain ⟨e,n,ne,nf,d⟩:=I.pin p hp;refine ⟨(hs.2 p.1 ?_).trans e,n,ne,nf,d⟩;intro q;rw [q,hoc] at e;have q':oc=p.2:=Option.some.inj e;exact d w' (by rw [<- q'];exact hocd)
theorem kY {E:Value->Shared->Prop} {Q:Unit->Shared->Prop} (I:Inv X pins σ H s) (hN:X.N.Nodup) (hi:X.N[i]?=some x) (hx:Loc X.env.scope x) (r:RelV v u)
  (h:∀ s',Inv X pins (σ.set i (some v)) H s'->Q () s') (hf:X.fn x=true\/X.env.scope.names.lookup x=some .local:=by first | exact .inl rfl | exact .inr rfl | assumption):wpAny M A (storeName X.env x u) Q E s :=
 rQ I hN hi hx r (λs' I' _=>h s' I') hf
theorem Inv.call' {s':Shared} (I:Inv X pins σ H s) (ho:s'.os=s.os) (u:Un (frs X.stack) ch H H' s.heap s'.heap) (hok:HOk X.prog X.w H' s'.heap) (hg:AllBare s'.gens)
  (hch:∀ b ∈ ch,(b ∈ X.ex\/X.s₀.heap.objs.size<=b)/\b≠X.env.locals/\(∀ x c,X.env.cells.lookup x=some c->c≠b)/\∀ p ∈ X.pn++pins,p.1≠b):Inv X pins σ H' s':=by
 obtain ⟨h',g',d',t',o'⟩:=s';have e:o'=s.os:=ho;subst e;exact I.call (g':=g') (t':=t') (d':=d') u hok hg hch
end
abbrev XK:=Value->Option Addr->Hp->Prop
noncomputable abbrev St:=List (Option V)
abbrev VK:=V->Hp->Prop
abbrev TE:=St->Hp->VK->Prop
abbrev TT:=St->Hp->(Bool->Hp->Prop)->Prop
abbrev TA:=St->Hp->(List V->Hp->Prop)->Prop
structure ko where
 nx:St->Hp->Prop
 rt:VK
 bk:St->Hp->Prop:=λ_ _=>False
 ct:St->Hp->Prop:=λ_ _=>False
abbrev TS:=ko->St->Hp->Prop
def EP (X:Cx) (pins:List (Addr × Obj)) (σ:St) (Q:VK) (u:Value) (s':Shared):Prop:=∃ v H',Inv X pins σ H' s'/\RelV v u/\Q v H'
def TP (X:Cx) (pins:List (Addr × Obj)) (σ:St) (Q:Bool->Hp->Prop) (b:Bool) (s':Shared):Prop:=∃ H',Inv X pins σ H' s'/\Q b H'
def AP (X:Cx) (pins:List (Addr × Obj)) (σ:St) (Q:List V->Hp->Prop) (us:List Value) (s':Shared):Prop:=∃ vs H',Inv X pins σ H' s'/\Vals vs us/\Q vs H'
def SP (X:Cx) (pins:List (Addr × Obj)) (D:ko) (f:Flow) (s':Shared):Prop :=
 match f with
 | .next=>∃ σ' H',Inv X pins σ' H' s'/\D.nx σ' H'
 | .brk=>∃ σ' H',Inv X pins σ' H' s'/\D.bk σ' H'
 | .cont=>∃ σ' H',Inv X pins σ' H' s'/\D.ct σ' H'
 | .ret u=>∃ v σ' H',Inv X pins σ' H' s'/\RelV v u/\D.rt v H'
def PE (X:Cx) (e:Expr) (t:TE):Prop :=
 ∀ (pins:List (Addr × Obj)) (s:Shared) (σ:St) (H:Hp) (Q:VK),Inv X pins σ H s->t σ H Q->wpAny (model X.prog X.w) X.A (eval e X.env) (EP X pins σ Q) X.xe s
def PT (X:Cx) (e:Expr) (t:TT):Prop :=
 ∀ (pins:List (Addr × Obj)) (s:Shared) (σ:St) (H:Hp) (Q:Bool->Hp->Prop),Inv X pins σ H s->t σ H Q->wpAny (model X.prog X.w) X.A (isTrue e X.env (eval e X.env)) (TP X pins σ Q) X.xe s
def PW (X:Cx) (e:Expr) (t:TT):Prop :=
 ∀ (whole:Sem Value) (pins:List (Addr × Obj)) (s:Shared) (σ:St) (H:Hp) (Q:Bool->Hp->Prop),Inv X pins σ H s->t σ H Q->wpAny (model X.prog X.w) X.A (isTrue e X.env whole) (TP X pins σ Q) X.xe s
variable {X:Cx}
theorem PW.pt {e:Expr} {t:TT} (h:PW X e t):PT X e t:=h _
def PA (X:Cx) (es:List Expr) (t:TA):Prop :=
 ∀ (pos:Pos) (pins:List (Addr × Obj)) (s:Shared) (σ:St) (H:Hp) (Q:List V->Hp->Prop),Inv X pins σ H s->t σ H Q->wpAny (model X.prog X.w) X.A (spliced (backTo pos (starEach es X.env))) (AP X pins σ Q) X.xe s
def PS (X:Cx) (st:Stmt) (t:TS):Prop :=
 ∀ (pins:List (Addr × Obj)) (s:Shared) (σ:St) (H:Hp) (D:ko),Inv X pins σ H s->t D σ H->wpAny (model X.prog X.w) X.A (exec st X.env) (SP X pins D) X.xe s
def PSs (X:Cx) (st:List Stmt) (t:TS):Prop :=
 ∀ (pins:List (Addr × Obj)) (s:Shared) (σ:St) (H:Hp) (D:ko),Inv X pins σ H s->t D σ H->wpAny (model X.prog X.w) X.A (execs st X.env) (SP X pins D) X.xe s
variable {M:Model} {A:Around} {s:Shared}
theorem thn {α:Type} {t:Sem α} {Q Q':α->Shared->Prop} {E:Value->Shared->Prop} (h:wpAny M A t Q E s) (hQ:∀ a s,Q a s->Q' a s):wpAny M A t Q' E s:=wpAny_mono h hQ λ_ _ x=>x
section
variable {X:Cx}
noncomputable def hW (i:Nat):TE:=λσ H Q=>∃ v,σ[i]?=some (some v)/\Q v H
noncomputable def tC (v:V):TE:=λ_ H Q=>Q v H
variable {x:Str}
theorem E7 {i:Nat} {pos:Pos} (hN:X.N[i]?=some x) (hv:Vis X.env.scope x) (hd:(x == ("__debug__":Str))=false:=by decide) (hcd:(x == ("__classdict__":Str))=false:=by decide):PE X (.Name x pos) (hW i):=by
 intro pins s σ H Q I h;obtain ⟨v,e,h⟩:=h;obtain ⟨m,hn,hl⟩:=I.loc;obtain ⟨u,r,l⟩:=hl i x v hN e hv;have fin:EP X pins σ Q u s:=⟨v,H,I,r,h⟩
 rcases l with ⟨hk,hm⟩ | ⟨hk,c,hc,hcell⟩
 ·exact wpAny_Name (wpAny_loadName_local I.ok.kind hk hn hm fin) hd
 ·rcases hk with hk | hk
  ·exact wpAny_Name (wpAny_loadName_cell I.ok.kind hk hc hcell fin) hd
  ·exact wpAny_Name (wpAny_loadName_free I.ok.kind hk hc hcell fin hcd) hd
theorem aE {i j pos}:PE X (.Constant (.int i) j pos) (tC (.int i)):=λ_ _ _ H _ I h=>wpAny_Constant_int ⟨.int i,H,I.tok _,⟨_,rfl⟩,h⟩
theorem dD {b j pos}:PE X (.Constant (.bool b) j pos) (tC (.bl b)):=λ_ _ _ H _ I h=>Constant_bool ⟨.bl b,H,I,rfl,h⟩
theorem fJ {j pos}:PE X (.Constant .none j pos) (tC .non):=λ_ _ _ H _ I h=>Constant_none ⟨.non,H,I,rfl,h⟩
theorem aP {x j pos}:PE X (.Constant (.str x) j pos) (tC (.str x)):=λ_ _ _ H _ I h=>Calls.Constant_str ⟨.str x,H,I.tok _,⟨_,rfl⟩,h⟩
def Gl (X:Cx) (x:Str):Prop:=X.env.kindOf x=some .globalImplicit
variable {pins:List (Addr × Obj)} {s:Shared} {σ:St} {H:Hp} {u:Value}
theorem sO {E:Value->Shared->Prop} {pos:Pos} {Q:Value->Shared->Prop} (I:Inv X pins σ H s) (hg:Gl X x) (hm:X.mg x=some u) (h:Q u s)
  (hd:(x == ("__debug__":Str))=false:=by decide):wpAny (model X.prog X.w) X.A (eval (.Name x pos) X.env) Q E s :=
 Calls.Name_function_global I.ok.kind hg (Calls.loadGlobal_global (by rw [I.ok.glob];exact I.mod.glob.keeps I.bk) hm h) hd
theorem kH {E:Value->Shared->Prop} {pos:Pos} {Q:Value->Shared->Prop} (I:Inv X pins σ H s) (hg:Gl X x) (hm:X.mg x=none) (hv:bootBuiltins x=some u) (h:Q u s)
  (hn:x≠"__name__":=by decide) (hd:(x == ("__debug__":Str))=false:=by decide):wpAny (model X.prog X.w) X.A (eval (.Name x pos) X.env) Q E s:=by
 obtain ⟨mb,h1,h2⟩:=I.mod.blt;exact Calls.Name_function_global I.ok.kind hg (Calls.loadGlobal_builtin (by rw [I.ok.glob];exact I.mod.glob.keeps I.bk) hm (by rw [I.ok.blt];exact h1.keeps I.bk) ((h2 x hn).trans hv) h) hd
variable {v:V}
theorem cK {pos:Pos} (hg:Gl X x) (hm:X.mg x=some u) (r:RelV v u) (hd:(x == ("__debug__":Str))=false:=by decide):PE X (.Name x pos) (tC v) :=
 λ_ _ _ H _ I h=>sO I hg hm ⟨v,H,I,r,h⟩ hd
theorem fY {pos:Pos} (hg:Gl X x) (hm:X.mg x=none) (hv:bootBuiltins x=some u) (r:RelV v u) (hn:x≠"__name__":=by decide) (hd:(x == ("__debug__":Str))=false:=by decide):PE X (.Name x pos) (tC v) :=
 λ_ _ _ H _ I h=>kH I hg hm hv ⟨v,H,I,r,h⟩ hn hd
variable {a b:Expr} {ta tb:TE} {pos:Pos}
variable {tA tB':TT} {rest:List Expr}
noncomputable def Gj (t u:TT):TT:=λσ H Q=>t σ H λc H1=>if c=true then u σ H1 Q else Q false H1
noncomputable def tOr (t u:TT):TT:=λσ H Q=>t σ H λc H1=>if c=true then Q true H1 else u σ H1 Q
noncomputable def FB (t:TT):TT:=λσ H Q=>t σ H λc H1=>Q (!c) H1
theorem mL (ha:PT X a tA):PW X (.BoolOp .And [a] pos) tA:=by
 intro wh pins s σ H Q I h;refine isTrue_and (thn (ha pins s σ H Q I h) λc s1 e=>?_)
 cases c with
 | true=>exact isTrue_and_nil e
 | false=>exact e
theorem dY (ha:PT X a tA):PW X (.BoolOp .Or [a] pos) tA:=by
 intro wh pins s σ H Q I h;refine isTrue_or (thn (ha pins s σ H Q I h) λc s1 e=>?_)
 cases c with
 | false=>exact isTrue_or_nil e
 | true=>exact e
theorem pW (ha:PT X a tA) (hb:PW X (.BoolOp .And (b::rest) pos) tB'):PW X (.BoolOp .And (a::b::rest) pos) (Gj tA tB'):=by
 intro wh pins s σ H Q I h;refine isTrue_and (thn (ha pins s σ H _ I h) λc s1 ⟨H1,I1,q1⟩=>?_)
 cases c with
 | true=>exact hb wh pins s1 σ H1 Q I1 q1
 | false=>exact ⟨H1,I1,q1⟩
theorem dW (ha:PT X a tA) (hb:PW X (.BoolOp .Or (b::rest) pos) tB'):PW X (.BoolOp .Or (a::b::rest) pos) (tOr tA tB'):=by
 intro wh pins s σ H Q I h;refine isTrue_or (thn (ha pins s σ H _ I h) λc s1 ⟨H1,I1,q1⟩=>?_)
 cases c with
 | true=>exact ⟨H1,I1,q1⟩
 | false=>exact hb wh pins s1 σ H1 Q I1 q1
theorem cQ (ha:PT X a tA):PT X (.UnaryOp .Not a pos) (FB tA):=by intro pins s σ H Q I h;exact isTrue_not (ha pins s σ H (λc H1=>Q (!c) H1) I h)
noncomputable def BK (ta tb:TE):TE:=λσ H Q=>ta σ H λx H1=>∃ c,x=.bl c/\if c=true then tb σ H1 Q else Q (.bl false) H1
noncomputable def Gp (ta tb:TE):TE:=λσ H Q=>ta σ H λx H1=>∃ c,x=.bl c/\if c=true then Q (.bl true) H1 else tb σ H1 Q
noncomputable def Eb (ta:TE):TE:=λσ H Q=>ta σ H λx H1=>∃ c,x=.bl c/\Q (.bl (!c)) H1
theorem jh {op} {t:TE} (h:PE X a t):PE X (.BoolOp op [a] pos) t:=λpins s σ H Q I hw=>BoolOp_one (h pins s σ H Q I hw)
theorem jg (ha:PE X a ta) (hb:PE X (.BoolOp .And (b::rest) pos) tb):PE X (.BoolOp .And (a::b::rest) pos) (BK ta tb):=by
 intro pins s σ H Q I h;refine BoolOp_and (thn (ha pins s σ H _ I h) λv s1 ⟨x,H1,I1,r1,q1⟩=>?_);obtain ⟨c,rfl,q1⟩:=q1;cases r1;refine wpAny_truthy_bool ?_
 cases c with
 | true=>exact hb pins s1 σ H1 Q I1 q1
 | false=>exact ⟨.bl false,H1,I1,rfl,q1⟩
theorem A4 (ha:PE X a ta) (hb:PE X (.BoolOp .Or (b::rest) pos) tb):PE X (.BoolOp .Or (a::b::rest) pos) (Gp ta tb):=by
 intro pins s σ H Q I h;refine BoolOp_or (thn (ha pins s σ H _ I h) λv s1 ⟨x,H1,I1,r1,q1⟩=>?_);obtain ⟨c,rfl,q1⟩:=q1;cases r1;refine wpAny_truthy_bool ?_
 cases c with
 | false=>exact hb pins s1 σ H1 Q I1 q1
 | true=>exact ⟨.bl true,H1,I1,rfl,q1⟩
theorem E6 (ha:PE X a ta):PE X (.UnaryOp .Not a pos) (Eb ta):=by intro pins s σ H Q I h;refine UnaryOp_ (thn (ha pins s σ H _ I h) λv s1 ⟨x,H1,I1,r1,q1⟩=>?_);obtain ⟨c,rfl,q1⟩:=q1;cases r1;exact not_of (wpAny_truthy_bool ⟨.bl (!c),H1,I1,rfl,q1⟩)
noncomputable def tIf (t:TT) (ta tb:TE):TE:=λσ H Q=>t σ H λc H1=>if c=true then ta σ H1 Q else tb σ H1 Q
theorem fM {c:Expr} (hc:PT X c tA) (ha:PE X a ta) (hb:PE X b tb):PE X (.IfExp c a b pos) (tIf tA ta tb):=by
 intro pins s σ H Q I h;refine wpAny_IfExp (thn (hc pins s σ H _ I h) λd s1 ⟨H1,I1,q1⟩=>?_)
 cases d with
 | true=>exact ha pins s1 σ H1 Q I1 q1
 | false=>exact hb pins s1 σ H1 Q I1 q1
end
def SqL (K:W.Frag) (H:Hp) (a:Addr) (xs:List V):Prop :=
 Rd H a (.lst xs) \/
  ∃ (o:Obj) (its:Array Value) (n:Nat),K.lookup a=some o/\o.cls=.type "list"/\o.dict=none/\o.data=.seq its n/\its.size<=sizeLine/\Vals xs its.toList
def SqT (K:W.Frag) (H:Hp) (a:Addr) (xs:List V):Prop :=
 Rd H a (.tup xs) \/
  ∃ (o:Obj) (its:Array Value) (n:Nat),K.lookup a=some o/\o.cls=.type "tuple"/\o.data=.seq its n/\its.size<=sizeLine/\Vals xs its.toList
noncomputable def Gy:Value->Option V
 | .none=>some .non
 | .bool b=>some (.bl b)
 | .int i _=>some (.int i)
 | .str x _=>some (.str x)
 | .bytes b _=>some (.byt b)
 | .float b _=>some (.flt b)
 | .ref a=>some (.ref a)
 | .type n=>some (.ty n)
 | _=>none
theorem RelV.abs {x:V} (r:RelV x u):Gy u=some x:=by
 cases x with
 | non=>cases r;rfl
 | bl _=>cases r;rfl
 | int _=>obtain ⟨t,rfl⟩:=r;rfl
 | str _=>obtain ⟨t,rfl⟩:=r;rfl
 | byt _=>obtain ⟨t,rfl⟩:=r;rfl
 | flt _=>obtain ⟨t,rfl⟩:=r;rfl
 | ref _=>cases r;rfl
 | ty _=>cases r;rfl
theorem RelV.inj {x y:V} (r:RelV x u) (q:RelV y u):x=y:=Option.some.inj (r.abs.symm.trans q.abs)
theorem Vals.inj:∀ {xs ys:List V} {us:List Value},Vals xs us->Vals ys us->xs=ys
 | _,_,_,.nil,.nil=>rfl
 | _,_,_,.cons r t,.cons r' t'=>by rw [r.inj r',Vals.inj t t']
section
variable {X:Cx} {pins:List (Addr × Obj)} {σ:St} {H:Hp} {s:Shared} {a:Addr} {xs ys:List V}
variable {K:W.Frag}
theorem SqL.of (h:H a=some (.lst xs)):SqL K H a xs:=.inl (.inl h)
theorem SqT.of (h:H a=some (.tup xs)):SqT K H a xs:=.inl (.inl h)
theorem Inv.list (I:Inv X pins σ H s) (h:SqL X.K H a xs):∃ its:List Value,Vals xs its/\PlainL s.heap a its.toArray/\xs.length<=sizeLine:=by
 rcases h with h | ⟨o,its,n,hk,hc,hd,hs,hz,r⟩
 ·obtain ⟨z,its,n,r,e⟩:=h.ok I.hok;exact ⟨its,r,⟨_,n,e,rfl,rfl,rfl⟩,z⟩
 ·refine ⟨its.toList,r,⟨o,n,I.kIn a o hk,hc,hd,by simpa using hs⟩,?_⟩;have e:=r.length;simp only [Array.length_toList] at e;omega
theorem Inv.tuple (I:Inv X pins σ H s) (h:SqT X.K H a xs):∃ its:List Value,Vals xs its/\IsTup s.heap a its.toArray/\xs.length<=sizeLine:=by
 rcases h with h | ⟨o,its,n,hk,hc,hs,hz,r⟩
 ·obtain ⟨z,its,r,p⟩:=h.ok I.hok;exact ⟨its,r,p,z⟩
 ·refine ⟨its.toList,r,⟨o,I.kIn a o hk,hc,n,by simpa using hs⟩,?_⟩;have e:=r.length;simp only [Array.length_toList] at e;omega
theorem Inv.list_inj (I:Inv X pins σ H s) (h:SqL X.K H a xs) (h':SqL X.K H a ys):xs=ys:=by
 obtain ⟨its,r,⟨o,n,e,_,_,d⟩,_⟩:=I.list h;obtain ⟨its',r',⟨o',n',e',_,_,d'⟩,_⟩:=I.list h';rw [e] at e';cases e';rw [d] at d';injection d' with d1 _;have:its=its':=by simpa using congrArg Array.toList d1
 subst this;exact r.inj r'
theorem Inv.tuple_inj (I:Inv X pins σ H s) (h:SqT X.K H a xs) (h':SqT X.K H a ys):xs=ys:=by
 obtain ⟨its,r,⟨o,e,_,n,d⟩,_⟩:=I.tuple h;obtain ⟨its',r',⟨o',e',_,n',d'⟩,_⟩:=I.tuple h';rw [e] at e';cases e';rw [d] at d';injection d' with d1 _;have:its=its':=by simpa using congrArg Array.toList d1
 subst this;exact r.inj r'
end
abbrev Cx.wish (X:Cx) (E:Value->Shared->Prop):Cx:={ X with xe:=E }
noncomputable abbrev Cx.nox (X:Cx):Cx:=X.wish λ_ _=>False
theorem Cx.Ok.wish (ok:X.Ok) (E:Value->Shared->Prop):(X.wish E).Ok :=
 ⟨ok.mod,ok.kind,ok.glob,ok.blt,ok.above,ok.inj,ok.has,ok.cab,ok.hd,ok.frames,ok.stk,ok.exf,ok.bs,ok.bsz,ok.noex,ok.exfs,ok.funs,ok.frf⟩
theorem Cx.Ok.unwish {E:Value->Shared->Prop} (ok:(X.wish E).Ok):X.Ok :=
 ⟨ok.mod,ok.kind,ok.glob,ok.blt,ok.above,ok.inj,ok.has,ok.cab,ok.hd,ok.frames,ok.stk,ok.exf,ok.bs,ok.bsz,ok.noex,ok.exfs,ok.funs,ok.frf⟩
section
variable {X:Cx} {pins:List (Addr × Obj)} {σ:St} {H:Hp} {s:Shared} {E:Value->Shared->Prop}
theorem Inv.wish (I:Inv X pins σ H s) (E:Value->Shared->Prop):Inv (X.wish E) pins σ H s:=⟨I.ok.wish E,I.os,I.bare,I.base,I.loc,I.cell,I.free,I.freeC,I.pin,I.hok,I.len⟩
theorem Inv.unwish (I:Inv (X.wish E) pins σ H s):Inv X pins σ H s:=⟨I.ok.unwish,I.os,I.bare,I.base,I.loc,I.cell,I.free,I.freeC,I.pin,I.hok,I.len⟩
theorem SP.unwish {D:ko} {f:Flow} {s':Shared} (h:SP (X.wish E) pins D f s'):SP X pins D f s':=by
 cases f with
 | next=>obtain ⟨σ',H',I,q⟩:=h;exact ⟨σ',H',I.unwish,q⟩
 | brk=>obtain ⟨σ',H',I,q⟩:=h;exact ⟨σ',H',I.unwish,q⟩
 | cont=>obtain ⟨σ',H',I,q⟩:=h;exact ⟨σ',H',I.unwish,q⟩
 | ret u=>obtain ⟨v,σ',H',I,r,q⟩:=h;exact ⟨v,σ',H',I.unwish,r,q⟩
theorem PSs.nox {st:List Stmt} {t:TS} (h:PSs X.nox st t):PSs X st t:=λpins s σ H D I hw =>
 wpAny_mono (h pins s σ H D (I.wish _) hw) (λ_ _ q=>q.unwish) λ_ _ z=>False.elim z
end
section
variable {X:Cx} {st:Stmt} {rest:List Stmt} {t u:TS} {e:Expr} {te:TE} {pos:Pos}
noncomputable def yl:TS:=λD σ H=>D.nx σ H
noncomputable def lI (t u:TS):TS:=λD σ H=>t { D with nx:=u D } σ H
theorem aW:PSs X [] yl:=λ_ _ σ H _ I h=>wpAny_execs_nil ⟨σ,H,I,h⟩
theorem aG (h1:PS X st t) (h2:PSs X rest u):PSs X (st::rest) (lI t u):=by
 intro pins s σ H D I h;refine wpAny_execs_cons (thn (h1 pins s σ H { D with nx:=u D } I h) λf s1 q=>?_)
 cases f with
 | next =>obtain ⟨σ',H',I',q⟩:=q;exact h2 pins s1 σ' H' D I' q
 | ret v=>exact q
 | brk=>exact q
 | cont=>exact q
theorem aI (h1:PS X st t):PSs X [st] t:=by
 intro pins s σ H D I h;refine wpAny_execs_cons (thn (h1 pins s σ H D I h) λf s1 q=>?_)
 cases f with
 | next=>exact wpAny_execs_nil q
 | ret v=>exact q
 | brk=>exact q
 | cont=>exact q
noncomputable def D9:TS:=λD σ H=>D.ct σ H
theorem vB:PS X (.Continue pos) D9:=λ_ _ σ H _ I h=>wpAny_Continue ⟨σ,H,I,h⟩
theorem Inv.quiet {pins:List (Addr × Obj)} {σ:St} {H:Hp} {s:Shared} (I:Inv X pins σ H s):interactive X.env=false:=by simp [interactive,I.ok.kind]
noncomputable def qt (te:TE):TS:=λD σ H=>te σ H λ_ H1=>D.nx σ H1
theorem bW (he:PE X e te) (hs:swapsWith e none pos.line X.env=pure false:=by rfl):PS X (.Expr e pos) (qt te):=by intro pins s σ H D I h;exact wpAny_Expr_any (thn (he pins s σ H _ I h) λv s1 ⟨x,H1,I1,r1,q1⟩=>⟨σ,H1,I1,q1⟩) I.quiet hs
noncomputable def BM (te:TE):TS:=λD σ H=>te σ H D.rt
theorem aQ (he:PE X e te):PS X (.Return (some e) pos) (BM te):=by intro pins s σ H D I h;exact wpAny_Return_some (thn (he pins s σ H _ I h) λv s1 ⟨x,H1,I1,r1,q1⟩=>⟨x,σ,H1,I1,r1,q1⟩)
noncomputable def DH (c:TT) (t u:TS):TS:=λD σ H=>c σ H λb H1=>if b=true then t D σ H1 else u D σ H1
theorem bL {c:Expr} {a b:List Stmt} {tc:TT} (hc:PT X c tc) (ha:PSs X a t) (hb:PSs X b u):PS X (.If c a b pos) (DH tc t u):=by
 intro pins s σ H D I h;refine wpAny_If (thn (hc pins s σ H _ I h) λd s1 ⟨H1,I1,q1⟩=>?_)
 cases d with
 | true=>exact ha pins s1 σ H1 D I1 q1
 | false=>exact hb pins s1 σ H1 D I1 q1
noncomputable def FA:TS:=λ_ _ _=>False
theorem jQ:PS X st FA:=λ_ _ _ _ _ _ h=>h.elim
end
abbrev TG:=V->St->Hp->(St->Hp->Prop)->Prop
abbrev TGs:=List V->St->Hp->(St->Hp->Prop)->Prop
def PG (X:Cx) (target:Expr) (t:TG):Prop :=
 ∀ (pins:List (Addr × Obj)) (s:Shared) (σ:St) (H:Hp) (v:V) (u:Value) (Q:St->Hp->Prop),Inv X pins σ H s->RelV v u->t v σ H Q ->
  wpAny (model X.prog X.w) X.A (assign target X.env u) (λ_ s'=>∃ σ' H',Inv X pins σ' H' s'/\Q σ' H') X.xe s
def PGs (X:Cx) (ts:List Expr) (t:TGs):Prop :=
 ∀ (pins:List (Addr × Obj)) (s:Shared) (σ:St) (H:Hp) (vs:List V) (us:List Value) (Q:St->Hp->Prop),Inv X pins σ H s->Vals vs us->t vs σ H Q ->
  wpAny (model X.prog X.w) X.A (assignInOrder ((assignEach ts X.env).map (·.2)) us) (λ_ s'=>∃ σ' H',Inv X pins σ' H' s'/\Q σ' H') X.xe s
abbrev zJ:=V->V->V->Hp->(Hp->Prop)->Prop
def Ee (X:Cx) (t:zJ):Prop :=
 ∀ (pins:List (Addr × Obj)) (s:Shared) (σ:St) (H:Hp) (o i v:V) (ov iv u:Value) (Q:Hp->Prop),Inv X pins σ H s->RelV o ov->RelV i iv->RelV v u->t o i v H Q ->
  wpAny (model X.prog X.w) X.A (setItem ov iv u) (λ_ s'=>∃ H',Inv X pins σ H' s'/\Q H') X.xe s
abbrev TIp:=V->V->Hp->VK->Prop
def PIp (X:Cx) (op:Operator) (t:TIp):Prop :=
 ∀ (pins:List (Addr × Obj)) (s:Shared) (σ:St) (H:Hp) (x y:V) (v u:Value) (Q:VK),Inv X pins σ H s->RelV x v->RelV y u->t x y H Q ->
  wpAny (model X.prog X.w) X.A (inplaceOp op v u) (EP X pins σ Q) X.xe s
section
variable {X:Cx} {pos:Pos}
noncomputable def c6 (i:Nat):TG:=λv σ H Q=>Q (σ.set i (some v)) H
variable {i:Nat} {x:Str}
theorem a7 (hN:X.N.Nodup) (hi:X.N[i]?=some x) (hx:Loc X.env.scope x) (hf:X.fn x=true\/X.env.scope.names.lookup x=some .local:=by first | exact .inl rfl | exact .inr rfl | assumption):PG X (.Name x pos) (c6 i):=by intro pins s σ H v u Q I r h;exact wpAny_assign_Name (kY I hN hi hx r (λs' I'=>⟨_,H,I',h⟩) hf)
noncomputable def uG:TGs:=λvs σ H Q=>vs=[]/\Q σ H
noncomputable def iY (t:TG) (u:TGs):TGs:=λvs σ H Q=>∃ v r,vs=v::r/\t v σ H λσ' H'=>u r σ' H' Q
theorem dF:PGs X [] uG:=by intro pins s σ H vs us Q I r h;obtain ⟨e,h⟩:=h;subst e;cases r;exact assignInOrder_nil ⟨σ,H,I,h⟩
variable {e:Expr} {es:List Expr}
theorem bM {t:TG} {u:TGs} (h1:PG X e t) (h2:PGs X es u)
  (hs:(assignEach (e::es) X.env).map (·.2)=assign e X.env::(assignEach es X.env).map (·.2):=by rfl):PGs X (e::es) (iY t u):=by
 intro pins s σ H vs us Q I r h;obtain ⟨v,vr,e1,h⟩:=h;subst e1
 cases r with
 | cons r rr =>rw [hs];refine assignInOrder_cons (thn (h1 pins s σ H _ _ _ I r h) λ_ s1 ⟨σ1,H1,I1,q1⟩=>?_);exact h2 pins s1 σ1 H1 _ _ Q I1 rr q1
noncomputable def sE (K:W.Frag) (n:Nat) (t:TGs):TG:=λv σ H Q=>∃ a xs,v=.ref a/\SqT K H a xs/\xs.length=n/\t xs σ H Q
theorem gO {k:Nat} {t:TGs} {n:Nat} (hc:X.calm=true) (h:PGs X es t)
  (hn:(assignEach es X.env).length=n:=by rfl) (hst:(assignEach es X.env).findIdx? (·.1)=none:=by rfl):PG X (.Tuple es k pos) (sE X.K n t):=by
 intro pins s σ H v u Q I r hw;obtain ⟨a,xs,e1,hq,hl,hw⟩:=hw;subst e1;cases r;obtain ⟨its,rv,ht,hz⟩:=I.tuple hq;refine assign_Tuple_tuple (I.ok.hd hc) ht (by simp [hn,<- hl,rv.length]) hst λh' hx=>?_;have I1:Inv X pins σ H { s with heap:=h' }:=I.kept (t':=s.toks) λb o e=>hx b o (Nat.ne_of_lt (Heap.lt_size e)) e;exact h pins _ σ H xs _ Q I1 (by simpa using rv) hw
noncomputable def GF (to ti:TE) (t:zJ):TG:=λv σ H Q=>to σ H λo H1=>ti σ H1 λi H2=>t o i v H2 λH3=>Q σ H3
variable {o:Expr} {to ti:TE}
theorem tP {i:Expr} {t:zJ} (ho:PE X o to) (hi:PE X i ti) (hs:Ee X t)
  (ha:∀ v,assign (.Subscript o i pos) X.env v=(do
   let ov <- holding [v] (eval o X.env);let iv <- holding [v,ov] (eval i X.env)
   standAt pos
   holding [v,ov,iv] (setItem ov iv v)
   release [v,ov,iv] []):=by intro _;rfl):PG X (.Subscript o i pos) (GF to ti t):=by
 intro pins s σ H v u Q I r h;rw [ha];refine wpAny_bind (wpAny_holding (thn (ho pins s σ H _ I h) λov s1 ⟨x,H1,I1,r1,q1⟩=>?_));refine wpAny_bind (wpAny_holding (thn (hi pins s1 σ H1 _ I1 q1) λiv s2 ⟨y,H2,I2,r2,q2⟩=>?_));refine wpAny_bind (wpAny_standAt (wpAny_bind (wpAny_holding (thn (hs pins s2 σ H2 x y v ov iv u _ I2 r1 r2 r q2) λ_ s3 ⟨H3,I3,q3⟩=>?_))));exact wpAny_release ⟨σ,H3,I3,q3⟩
noncomputable def qM (te:TE) (g:TG):TS:=λD σ H=>te σ H λx H1=>g x σ H1 D.nx
variable {te:TE}
theorem hE {tg:Expr} {g:TG} (he:PE X e te) (hg:PG X tg g) (hs:swapsWithSole [tg] e pos.line X.env=pure false:=by rfl) (hw:swappedStores [tg] e X.env=pure none:=by rfl)
  (h1:(assignEach [tg] X.env).map (·.2)=[assign tg X.env]:=by rfl):PS X (.Assign [tg] e pos) (qM te g):=by
 intro pins s σ H D I h;refine wpAny_Assign_stores (thn (he pins s σ H _ I h) λv s1 ⟨x,H1,I1,r1,q1⟩=>?_) hs hw;rw [h1];exact thn (hg pins s1 σ H1 x v _ I1 r1 q1) λ_ s2 q=>q
variable {pos':Pos}
theorem bT (hN:X.N.Nodup) (hi:X.N[i]?=some x) (hx:Loc X.env.scope x) (he:PE X e te) (hs:swapsWith e (some (.Name x pos')) pos.line X.env=pure false:=by rfl) (hf:X.fn x=true\/X.env.scope.names.lookup x=some .local:=by first | exact .inl rfl | exact .inr rfl | assumption) :
  PS X (.Assign [.Name x pos'] e pos) (qM te (c6 i)):=by
 intro pins s σ H D I h;refine wpAny_Assign_Name (thn (he pins s σ H _ I h) λv s1 ⟨y,H1,I1,r1,q1⟩=>?_) hs;exact kY I1 hN hi hx r1 (λs2 I2=>⟨_,H1,I2,q1⟩) hf
noncomputable def FC (i j:Nat) (ta:TA):TS:=λD σ H=>ta σ H λvs H1=>∃ v w,vs=[v,w]/\D.nx ((σ.set i (some v)).set j (some w)) H1
theorem nE {j:Nat} {y:Str} {a b:Expr} {ta:TA} {px py pt:Pos} {kt k2 pt2} (hc:X.calm=true) (hN:X.N.Nodup) (hi:X.N[i]?=some x) (hj:X.N[j]?=some y) (hij:i≠j)
  (hx:X.env.scope.names.lookup x=some .local) (hy:X.env.scope.names.lookup y=some .local) (ha:PA X [a,b] ta)
  (hw:swappedStores [.Tuple [.Name x px,.Name y py] kt pt] (.Tuple [a,b] k2 pt2) X.env=pure (some [x,y]))
  (hs:swapsWithSole [.Tuple [.Name x px,.Name y py] kt pt] (.Tuple [a,b] k2 pt2) pos.line X.env=pure false:=by rfl) :
  PS X (.Assign [.Tuple [.Name x px,.Name y py] kt pt] (.Tuple [a,b] k2 pt2) pos) (FC i j ta):=by
 intro pins s σ H D I h;rw [exec_Assign_arm];refine wpAny_bind (wpAny_standAt ?_);rw [hs];refine wpAny_bind (wpAny_pure ?_);rw [if_neg (by decide)];refine wpAny_bind (Tuple_ (thn (ha _ pins s σ H _ I h) λus s1 ⟨vs,H1,I1,r1,q1⟩=>?_));obtain ⟨v,w,e1,q1⟩:=q1;subst e1
 obtain ⟨u1,u2,rfl,rv,rw'⟩:∃ u1 u2,us=[u1,u2]/\RelV v u1/\RelV w u2:=by
  cases r1 with
  | cons p q =>
   cases q with
   | cons p' q' =>cases q';exact ⟨_,_,rfl,p,p'⟩
 refine wpAny_newObj_type ?_ (by show 2<=sizeLine;decide);have I2:Inv X pins σ H1 { s1 with heap:=s1.heap.push { cls:=.type "tuple",data:=.seq [u1,u2].toArray } }:=I1.kept (t':=s1.toks) λb o e=>Heap.get?_push_of_some _ e;rw [hw];refine wpAny_bind (wpAny_pure ?_);show wpAny (model X.prog X.w) X.A (do rule "assign.swapped-stores";let items <- unpackItems (.ref s1.heap.objs.size) 2 none;assignInOrder [λv=>bindName X.env y v,λv=>bindName X.env x v] items.reverse;pure Flow.next) _ _ _;refine wpAny_bind (wpAny_rule (wpAny_bind (unpackItems_tuple (items:=#[u1,u2]) (I.ok.hd hc) (IsTup.new s1.heap _) λh' hx'=>?_)));have I3:=I2.kept (h':=h') (t':=s1.toks) λb o e=>hx' b o (Nat.ne_of_lt (Heap.lt_size e)) e;show wpAny _ _ (assignInOrder [λv=>bindName X.env y v,λv=>bindName X.env x v] [u2,u1] >>= λ_=>pure Flow.next) _ _ _;refine wpAny_bind (assignInOrder_cons (wpAny_bindName (kY I3 hN hj (.inl hy) rw' (λs2 I4=>?_) (.inr hy))));refine assignInOrder_cons (wpAny_bindName (kY I4 hN hi (.inl hx) rv (λs3 I5=>assignInOrder_nil (wpAny_pure ?_)) (.inr hx)));rw [List.set_comm _ _ (Ne.symm hij)] at I5;exact ⟨_,H1,I5,q1⟩
noncomputable def GK (i:Nat) (te:TE) (ti:TIp):TS:=λD σ H=>∃ x,σ[i]?=some (some x)/\te σ H λy H1=>ti x y H1 λz H2=>D.nx (σ.set i (some z)) H2
variable {op:Operator}
theorem Bd {ti:TIp} (hN:X.N.Nodup) (hi:X.N[i]?=some x) (hx:Loc X.env.scope x) (he:PE X e te) (ho:PIp X op ti) (hf:X.fn x=true\/X.env.scope.names.lookup x=some .local:=by first | exact .inl rfl | exact .inr rfl | assumption) :
  PS X (.AugAssign (.Name x pos') op e pos) (GK i te ti):=by
 intro pins s σ H D I h;obtain ⟨v,e1,h⟩:=h;obtain ⟨m,hn,hl⟩:=I.loc;have vis:Vis X.env.scope x:=by rcases hx with k | k;exact .inl k;exact .inr (.inl k)
 obtain ⟨u,r,l⟩:=hl i x v hi e1 vis;refine wpAny_AugAssign_Name ?_
 have go:wpAny (model X.prog X.w) X.A (eval e X.env) (λw s₂=>wpAny (model X.prog X.w) X.A (inplaceOp op u w) (λr s₃=>wpAny (model X.prog X.w) X.A (storeName X.env x r) (λ_=>SP X pins D .next) X.xe s₃) X.xe s₂) X.xe s:=by refine thn (he pins s σ H _ I h) λw s1 ⟨y,H1,I1,r1,q1⟩=>?_;refine thn (ho pins s1 σ H1 v y u w _ I1 r r1 q1) λz s2 ⟨zv,H2,I2,r2,q2⟩=>?_;exact kY I2 hN hi hx r2 (λs3 I3=>⟨_,H2,I3,q2⟩) hf
 rcases l with ⟨hk,hm⟩ | ⟨hk,c,hc,hcell⟩
 ·exact wpAny_loadName_local I.ok.kind hk hn hm go
 ·rcases hk with hk | hk
  ·exact wpAny_loadName_cell I.ok.kind hk hc hcell go
  ·rcases hx with k | k
   ·have:X.env.scope.names.lookup x=some .free:=hk;rw [k] at this;cases this
   ·have:X.env.scope.names.lookup x=some .free:=hk;rw [k] at this;cases this
def Gk (to ti te:TE) (tget:V->V->Hp->VK->Prop) (tip:TIp) (tset:zJ):TS:=λD σ H=>to σ H λo H1=>ti σ H1 λi H2=>tget o i H2 λx H3=>te σ H3 λy H4=>tip x y H4 λz H5=>tset o i z H5 λH6=>D.nx σ H6
def FJ (X:Cx) (t:V->V->Hp->VK->Prop):Prop :=
 ∀ (pins:List (Addr × Obj)) (s:Shared) (σ:St) (H:Hp) (o i:V) (ov iv:Value) (Q:VK),Inv X pins σ H s->RelV o ov->RelV i iv->t o i H Q ->
  wpAny (model X.prog X.w) X.A (getItem ov iv) (EP X pins σ Q) X.xe s
theorem x9 {i:Expr} {tget:V->V->Hp->VK->Prop} {tip:TIp} {tset:zJ} {tpos:Pos} (ho:PE X o to) (hi:PE X i ti) (hg:FJ X tget) (he:PE X e te) (hp:PIp X op tip) (hs:Ee X tset)
  (ha:∀ ov iv new,augStore i ov iv new=(do holding [new,ov,iv] (setItem ov iv new);release [new,ov,iv] [];pure .next):=by intros;rfl):PS X (.AugAssign (.Subscript o i tpos) op e pos) (Gk to ti te tget tip tset):=by
 intro pins s σ H D I h;refine wpAny_AugAssign_SubscriptAny (thn (ho pins s σ H _ I h) λov s1 ⟨x1,H1,I1,r1,q1⟩=>?_) ha;refine thn (hi pins s1 σ H1 _ I1 q1) λiv s2 ⟨x2,H2,I2,r2,q2⟩=>?_;refine thn (hg pins s2 σ H2 x1 x2 ov iv _ I2 r1 r2 q2) λold s3 ⟨x3,H3,I3,r3,q3⟩=>?_;refine thn (he pins s3 σ H3 _ I3 q3) λv s4 ⟨x4,H4,I4,r4,q4⟩=>?_;refine thn (hp pins s4 σ H4 x3 x4 old v _ I4 r3 r4 q4) λnew s5 ⟨x5,H5,I5,r5,q5⟩=>?_;exact thn (hs pins s5 σ H5 x1 x2 x5 ov iv new _ I5 r1 r2 r5 q5) λ_ s6 ⟨H6,I6,q6⟩=>⟨σ,H6,I6,q6⟩
noncomputable def ipI (f:Int->Int->Int):TIp:=λx y H Q=>∃ i j,x=.int i/\y=.int j/\Q (.int (f i j)) H
theorem wq:PIp X .Add (ipI λi j=>i+j):=by intro pins s σ H x y v u Q I r1 r2 h;obtain ⟨i,j,e1,e2,q⟩:=h;subst e1;subst e2;obtain ⟨t,rfl⟩:=r1;obtain ⟨t',rfl⟩:=r2;exact iadd_int ⟨.int _,H,I.tok _,⟨_,rfl⟩,q⟩
theorem EN:PIp X .Sub (ipI λi j=>i - j):=by intro pins s σ H x y v u Q I r1 r2 h;obtain ⟨i,j,e1,e2,q⟩:=h;subst e1;subst e2;obtain ⟨t,rfl⟩:=r1;obtain ⟨t',rfl⟩:=r2;exact isub_int ⟨.int _,H,I.tok _,⟨_,rfl⟩,q⟩
def BN (c:TT) (tb:TS):TS:=λD σ H=>∃ W:Nat->St->Hp->Prop,(∃ m,W m σ H)/\∀ m σ H,W m σ H ->
 c σ H λb H1=>if b=true then ∃ N:St->Hp->Prop,(∀ σ' H',N σ' H'->∃ m',m' < m/\W m' σ' H')/\tb { D with nx:=N,ct:=N,bk:=D.nx } σ H1 else D.nx σ H1
theorem vC {c:Expr} {body:List Stmt} {tc:TT} {tb:TS} (hp:PassesOwn (model X.prog X.w) X.A X.env X.xe) (hc:PT X c tc) (hb:PSs X body tb):PS X (.While c body [] pos) (BN tc tb):=by
 intro pins s σ H D I h;obtain ⟨W,⟨m0,w0⟩,turn⟩:=h;refine wpAny_While (codeAny_whileLoop (λn s'=>∃ σ' H',Inv X pins σ' H' s'/\W n σ' H') ?_ m0 ⟨σ,H,I,w0⟩);rintro n s1 ⟨σ1,H1,I1,w1⟩;refine wpAny_passesOwn hp (thn (hc pins s1 σ1 H1 _ I1 (turn n σ1 H1 w1)) λb s2 ⟨H2,I2,q2⟩=>?_)
 cases b with
 | true =>
  obtain ⟨N,hN,q2⟩:=q2;rw [if_pos rfl];refine wpAny_passesOwn hp (thn (hb pins s2 σ1 H2 _ I2 q2) λf s3 q3=>?_)
  cases f with
  | next =>obtain ⟨σ3,H3,I3,n3⟩:=q3;obtain ⟨m',hm,w3⟩:=hN σ3 H3 n3;exact ⟨m',hm,σ3,H3,I3,w3⟩
  | cont =>obtain ⟨σ3,H3,I3,n3⟩:=q3;obtain ⟨m',hm,w3⟩:=hN σ3 H3 n3;exact ⟨m',hm,σ3,H3,I3,w3⟩
  | brk=>exact q3
  | ret v=>exact q3
 | false =>rw [if_neg Bool.false_ne_true];exact wpAny_execs_nil ⟨σ1,H2,I2,q2⟩
end
structure It where
 go:Nat->Hp->Prop
 yld:Nat->Hp->V->Hp->Prop
 stop:Nat->Hp->Prop
def qz (X:Cx) (pins:List (Addr × Obj)) (H:Hp) (b:Addr):Prop :=
 H b=none/\b≠X.env.locals/\b ∉ X.fs/\(b ∈ X.ex\/X.s₀.heap.objs.size<=b)/\(∀ x c,X.env.cells.lookup x=some c->c≠b)/\∀ p ∈ X.pn++pins,p.1≠b
variable {σ:St}
theorem Inv.fpOk {pins:List (Addr × Obj)} {H':Hp} (I:Inv X pins σ H s) (hb:s.heap.objs.size<=b) (hn:H' b=none):qz X pins H' b:=by
 refine ⟨hn,Nat.ne_of_gt (Nat.lt_of_lt_of_le I.lt hb),I.nofs hb,.inr (Nat.le_trans I.sz hb),λx c e z=>?_,λp hp z=>?_⟩
 ·obtain ⟨v,q⟩:=I.cell x c e;exact absurd (Nat.lt_of_lt_of_le q.lt (by rw [z];exact hb)) (Nat.lt_irrefl _)
 ·exact absurd (Nat.lt_of_lt_of_le (Heap.lt_size (I.pin p hp).1) (by rw [z];exact hb)) (Nat.lt_irrefl _)
structure oB (P:Program) (w:World) (K:W.Frag) (tg:Expr) (J:It) (fp:List Addr) (it:Addr) (tn:Nat->Heap->Prop):Prop where
 mem:it ∈ fp
 obj:∀ i h,tn i h->∀ b ∈ fp,∃ o,h.get? b=some o/\∀ v,o.data≠.cell v
 keep:∀ i h h',tn i h->(∀ b ∈ fp,∀ o,h.get? b=some o->h'.get? b=some o)->tn i h'
 item:∀ (X:Cx),X.prog=P->X.w=w->X.K=K->X.calm=true->∀ (i:Nat) (pins:List (Addr × Obj)) (s:Shared) (σ:St) (H:Hp) (E:Value->Shared->Prop),Inv X pins σ H s->(∀ b ∈ fp,qz X pins H b)->tn i s.heap->J.go i H ->
  wpAny (model P w) X.A (pyNext (.ref it)) (λr s1=>∃ u,r=some u /\
   wpAny (model P w) X.A (letOwnedTupleGo tg (.ref it) u) (λ_ s2=>∃ x H',Inv X pins σ H' s2/\RelV x u/\J.yld i H x H'/\tn (i+1) s2.heap/\∀ b ∈ fp,H' b=none) E s1) E s
 done:∀ (X:Cx),X.prog=P->X.w=w->X.K=K->X.calm=true->∀ (i:Nat) (pins:List (Addr × Obj)) (s:Shared) (σ:St) (H:Hp) (E:Value->Shared->Prop),Inv X pins σ H s->(∀ b ∈ fp,qz X pins H b)->tn i s.heap->J.stop i H ->
  wpAny (model P w) X.A (pyNext (.ref it)) (λr s1=>r=none/\Inv X pins σ H s1) E s
 self:∀ (A:Around) (i:Nat) (s:Shared) (Q:Value->Shared->Prop) (E:Value->Shared->Prop),tn i s.heap->Q (.ref it) s->wpAny (model P w) A (pyIter (.ref it)) Q E s
abbrev TI:=St->Hp->(It->Hp->Prop)->Prop
def PIE (X:Cx) (pins:List (Addr × Obj)) (σ:St) (tg:Expr) (R:It->Hp->Prop) (itv:Value) (s2:Shared):Prop :=
 ∃ (it:Addr) (fp:List Addr) (tn:Nat->Heap->Prop) (J:It) (H':Hp),itv=.ref it/\Inv X pins σ H' s2/\oB X.prog X.w X.K tg J fp it tn/\tn 0 s2.heap/\(∀ b ∈ fp,qz X pins H' b)/\R J H'
def PI (X:Cx) (tg iter:Expr) (wi:TI):Prop :=
 ∀ (pins:List (Addr × Obj)) (s:Shared) (σ:St) (H:Hp) (R:It->Hp->Prop),Inv X pins σ H s->wi σ H R ->
  wpAny (model X.prog X.w) X.A (eval iter X.env) (λv s1=>wpAny (model X.prog X.w) X.A (pyIter v) (PIE X pins σ tg R) X.xe s1) X.xe s
variable {tg:Expr}
theorem uJ {E:Value->Shared->Prop} {it:Addr} {n:String} {vs:Array Value} {Q:Unit->Shared->Prop} (ho:s.heap.get? it=some o) (hc:o.cls=.type n) (hd:o.data=.fields vs)
  (hn:["enumerate","zip","dict_itemiterator","dict_reverseitemiterator","odict_iterator","itertools.zip_longest","itertools.pairwise"].contains n=false) (hQ:Q () s):wpAny M A (letOwnedTupleGo tg (.ref it) u) Q E s:=by
 unfold letOwnedTupleGo
 cases tg <;> first
  | exact wpAny_pure hQ
  | (cases u <;> first
    | exact wpAny_pure hQ
    | (refine wpAny_bind (wpAny_load ho ?_)
       rw [hc,hd];show wpAny M A (if (["enumerate","zip","dict_itemiterator","dict_reverseitemiterator","odict_iterator","itertools.zip_longest","itertools.pairwise"].contains n && vs[0]? == some (rawInt _))=true then _ else _) Q E s;rw [if_neg (by intro h;rw [hn,Bool.false_and] at h;cases h)];exact wpAny_pure hQ))
noncomputable def Itl (K:W.Frag) (a:Addr):It :=
 ⟨λi H=>∃ xs x,SqL K H a xs/\xs[i]?=some x,λi H x H'=>H'=H/\∀ xs,SqL K H a xs->xs[i]?=some x,λi H=>∃ xs,SqL K H a xs/\xs.length<=i⟩
noncomputable def Itt (K:W.Frag) (a:Addr):It :=
 ⟨λi H=>∃ xs x,SqT K H a xs/\xs[i]?=some x,λi H x H'=>H'=H/\∀ xs,SqT K H a xs->xs[i]?=some x,λi H=>∃ xs,SqT K H a xs/\xs.length<=i⟩
noncomputable def Itr (lo:Int) (n:Nat):It:=⟨λi _=>i < n,λi H x H'=>H'=H/\x=.int (lo+i),λi _=>n<=i⟩
variable {K:W.Frag}
theorem zq (a it:Addr):oB P w K tg (Itl K a) [it] it (λi h=>h.IsListIter it a i) where
 mem:=by simp
 obj:=λi h st b hb=>by
  have e:b=it:=by simpa using hb
  subst e;obtain ⟨o,e,c,d⟩:=st;exact ⟨o,e,λv z=>by rw [d] at z;cases z⟩
 keep:=λi h h' st k=>st.at λo e=>k it (by simp) o e
 item:=by intro X hP hw hK hc i pins s σ H E I hf st hg;subst hP hw hK;obtain ⟨xs,x,hq,hx⟩:=hg;obtain ⟨its,rv,p,hz⟩:=I.list hq;obtain ⟨u,hu,ru⟩:=rv.get hx;obtain ⟨f0,f1,f2,f3,f4,f5⟩:=hf it (by simp);refine wpAny_pyNext_list_item st p.isList (x:=u) (by simpa using hu) λh' st' sb=>?_;have I1:Inv X pins σ H { s with heap:=h' }:=I.turned (t':=s.toks) (λb o hb e=>(sb.2 b hb).trans e) f0 f1 f3 f4 f5;obtain ⟨o,e,c,d⟩:=id st';exact ⟨u,rfl,uJ (s:={ s with heap:=h' }) e c d (by decide) ⟨x,H,I1,ru,⟨rfl,λys hy=>by rw [I.list_inj hy hq];exact hx⟩,st',λb hb=>(hf b hb).1⟩⟩
 done:=by intro X hP hw hK hc i pins s σ H E I hf st hg;subst hP hw hK;obtain ⟨xs,hq,hx⟩:=hg;obtain ⟨its,rv,p,hz⟩:=I.list hq;obtain ⟨f0,f1,f2,f3,f4,f5⟩:=hf it (by simp);have hl:=rv.length;exact wpAny_pyNext_list_end (I.ok.hd hc) st p.isList (by simp;omega) λh' eb=>⟨rfl,I.turned (t':=s.toks) (λb o hb e=>eb b o hb e) f0 f1 f3 f4 f5⟩
 self:=λ_ _ _ _ _ st h=>wpAny_pyIter_listiter st h
theorem xn (a it:Addr):oB P w K tg (Itt K a) [it] it (λi h=>h.IsTupleIter it a i) where
 mem:=by simp
 obj:=λi h st b hb=>by
  have e:b=it:=by simpa using hb
  subst e;obtain ⟨o,e,c,d⟩:=st;exact ⟨o,e,λv z=>by rw [d] at z;cases z⟩
 keep:=λi h h' st k=>st.at λo e=>k it (by simp) o e
 item:=by intro X hP hw hK hc i pins s σ H E I hf st hg;subst hP hw hK;obtain ⟨xs,x,hq,hx⟩:=hg;obtain ⟨its,rv,p,hz⟩:=I.tuple hq;obtain ⟨u,hu,ru⟩:=rv.get hx;obtain ⟨f0,f1,f2,f3,f4,f5⟩:=hf it (by simp);refine wpAny_pyNext_tuple_item st (show s.heap.IsTuple a its.toArray from p) (x:=u) (by simpa using hu) λh' st' sb=>?_;have I1:Inv X pins σ H { s with heap:=h' }:=I.turned (t':=s.toks) (λb o hb e=>(sb.2 b hb).trans e) f0 f1 f3 f4 f5;obtain ⟨o,e,c,d⟩:=id st';exact ⟨u,rfl,uJ (s:={ s with heap:=h' }) e c d (by decide) ⟨x,H,I1,ru,⟨rfl,λys hy=>by rw [I.tuple_inj hy hq];exact hx⟩,st',λb hb=>(hf b hb).1⟩⟩
 done:=by intro X hP hw hK hc i pins s σ H E I hf st hg;subst hP hw hK;obtain ⟨xs,hq,hx⟩:=hg;obtain ⟨its,rv,p,hz⟩:=I.tuple hq;obtain ⟨f0,f1,f2,f3,f4,f5⟩:=hf it (by simp);have hl:=rv.length;exact wpAny_pyNext_tuple_end (I.ok.hd hc) st (show s.heap.IsTuple a its.toArray from p) (by simp;omega) λh' eb=>⟨rfl,I.turned (t':=s.toks) (λb o hb e=>eb b o hb e) f0 f1 f3 f4 f5⟩
 self:=λ_ _ _ _ _ st h=>wpAny_pyIter_tupleiter st h
theorem xm {K:PySem.W.Frag} (it:Addr) (lo:Int) (n:Nat):oB P w K tg (Itr lo n) [it] it (λi h=>IsRangeIter h it (lo+(i:Nat) * 1) ((n:Int) - (i:Nat)) 1) where
 mem:=by simp
 obj:=λi h st b hb=>by
  have e:b=it:=by simpa using hb
  subst e
  exact ⟨_,st,λv z=>by
   have z':Data.fields _=Data.cell v:=z;cases z'⟩
 keep:=λi h h' st k=>k it (by simp) _ st
 item:=by intro X hP hw hK hc i pins s σ H E I hf st hg;subst hP hw hK;obtain ⟨f0,f1,f2,f3,f4,f5⟩:=hf it (by simp);have W:=Walks.range (prog:=X.prog) (w:=X.w) (I.ok.hd hc) it lo 1 n;refine W.item i s _ _ hg st λv h' tk hv st' kk=>?_;obtain ⟨t,rfl⟩:=hv;have I1:Inv X pins σ H { s with heap:=h',toks:=tk }:=I.turned (λb o hb e=>kk b o (by simpa using hb) e) f0 f1 f3 f4 f5;refine ⟨_,rfl,uJ (s:={ s with heap:=h',toks:=tk }) (n:="range_iterator") st' rfl rfl (by decide) ⟨.int (lo+i),H,I1,⟨t,?_⟩,⟨rfl,rfl⟩,st',λb hb=>(hf b hb).1⟩⟩;rw [Int.mul_one]
 done:=by intro X hP hw hK hc i pins s σ H E I hf st hg;subst hP hw hK;obtain ⟨f0,f1,f2,f3,f4,f5⟩:=hf it (by simp);exact wpAny_pyNext_range_end (I.ok.hd hc) st (by have:n<=i:=hg;omega) λh' eb=>⟨rfl,I.turned (t':=s.toks) (λb o hb e=>eb b o hb e) f0 f1 f3 f4 f5⟩
 self:=λ_ _ _ _ _ st h=>wpAny_pyIter_rangeiter st h
section
variable {X:Cx} {tg:Expr}
noncomputable def rh (K:W.Frag) (tl:TE):TI:=λσ H R=>tl σ H λx H1=>∃ a,x=.ref a/\(∃ xs,SqL K H1 a xs)/\R (Itl K a) H1
noncomputable def AA (K:W.Frag) (tl:TE):TI:=λσ H R=>tl σ H λx H1=>∃ a,x=.ref a/\(∃ xs,SqT K H1 a xs)/\R (Itt K a) H1
variable {l:Expr} {tl:TE}
theorem fK (hl:PE X l tl):PI X tg l (rh X.K tl):=by
 intro pins s σ H R I h;refine thn (hl pins s σ H _ I h) λv s1 ⟨x,H1,I1,r1,q1⟩=>?_;obtain ⟨a,e,⟨xs,hq⟩,q⟩:=q1;subst e;cases r1;obtain ⟨its,rv,p,hz⟩:=I1.list hq;refine wpAny_pyIter_list p.isList ?_;refine ⟨s1.heap.objs.size,[s1.heap.objs.size],_,_,H1,rfl,I1.kept (t':=s1.toks) λb o e=>Heap.get?_push_of_some _ e,zq a _,⟨_,Heap.get?_push_size _ rfl,rfl,rfl⟩,λb hb=>?_,q⟩;have e:b=s1.heap.objs.size:=by simpa using hb
 subst e;exact I1.fpOk (Nat.le_refl _) (I1.hok.fresh (Nat.le_refl _))
theorem j3 (hl:PE X l tl):PI X tg l (AA X.K tl):=by
 intro pins s σ H R I h;refine thn (hl pins s σ H _ I h) λv s1 ⟨x,H1,I1,r1,q1⟩=>?_;obtain ⟨a,e,⟨xs,hq⟩,q⟩:=q1;subst e;cases r1;obtain ⟨its,rv,p,hz⟩:=I1.tuple hq;refine wpAny_pyIter_tuple (show s1.heap.IsTuple a its.toArray from p) ?_;refine ⟨s1.heap.objs.size,[s1.heap.objs.size],_,_,H1,rfl,I1.kept (t':=s1.toks) λb o e=>Heap.get?_push_of_some _ e,xn a _,⟨_,Heap.get?_push_size _ rfl,rfl,rfl⟩,λb hb=>?_,q⟩;have e:b=s1.heap.objs.size:=by simpa using hb
 subst e;exact I1.fpOk (Nat.le_refl _) (I1.hok.fresh (Nat.le_refl _))
variable {pins:List (Addr × Obj)} {σ:St} {H:Hp} {s:Shared}
theorem Bo {R:It->Hp->Prop} {E:Value->Shared->Prop} {lo hi:Int} {t u v:Tok} {tk:Nat} (I:Inv X pins σ H s) (h1:-(2 ^ 62)<=lo) (h2:lo < 2 ^ 62) (h3:-(2 ^ 62)<=hi) (h4:hi < 2 ^ 62)
  (q:R (Itr lo (hi - lo).toNat) H):wpAny (model X.prog X.w) X.A (pyIter (.ref s.heap.objs.size)) (PIE X pins σ tg R) E { s with heap:=s.heap.push { cls:=.type "range",data:=.fields #[.int lo t,.int hi u,.int 1 v] },toks:=tk }:=by
 refine wpAny_pyIter_range (IsRange.new ..) (small_one h1 h2 h3 h4) ?_;have I1:Inv X pins σ H { s with heap:=s.heap.push { cls:=.type "range",data:=.fields #[.int lo t,.int hi u,.int 1 v] },toks:=tk }:=I.kept λb o e=>Heap.get?_push_of_some _ e
 refine ⟨(s.heap.push { cls:=.type "range",data:=.fields #[.int lo t,.int hi u,.int 1 v] }).objs.size,[(s.heap.push { cls:=.type "range",data:=.fields #[.int lo t,.int hi u,.int 1 v] }).objs.size],_,_,H,rfl,
  I1.kept (t':=tk) λb o e=>Heap.get?_push_of_some _ e,xm _ lo (hi - lo).toNat,?_,λb hb=>?_,q⟩
 ·have e1:lo+((0:Nat):Int) * 1=lo:=by simp
  have e2:(((hi - lo).toNat:Nat):Int) - ((0:Nat):Int)=Builtin.Range.rangeSize lo hi 1:=by rw [rangeSize_one];split <;> omega
  show IsRangeIter _ _ (lo+((0:Nat):Int) * 1) ((((hi - lo).toNat:Nat):Int) - ((0:Nat):Int)) 1;rw [e1,e2];exact Heap.get?_push_size _ rfl
 ·have e:b=(s.heap.push { cls:=.type "range",data:=.fields #[.int lo t,.int hi u,.int 1 v] }).objs.size:=by simpa using hb
  subst e;exact I1.fpOk (Nat.le_refl _) (I1.hok.fresh (Nat.le_refl _))
noncomputable def DS (ta:TA):TI:=λσ H R=>ta σ H λvs H1=>∃ j:Int,vs=[.int j]/\-(2 ^ 62)<=j/\j < 2 ^ 62/\R (Itr 0 j.toNat) H1
variable {pos:Pos}
theorem lA {a:Expr} {ta:TA} {p:Pos} (hg:Gl X "range") (hm:X.mg "range"=none) (ha:PA X [a] ta) (hs:starEach [a] X.env=[(false,eval a X.env)]:=by rfl):PI X tg (.Call (.Name "range" p) [a] [] pos) (DS ta):=by
 intro pins s σ H R I h;refine Call_ (kH I hg hm boot_range (PyProof.Rows.callWith_type1 (thn (ha pos pins s σ H _ I h) λus s1 ⟨vs,H1,I1,r1,q1⟩=>?_) hs rfl));obtain ⟨j,e,q1,q2,q⟩:=q1;subst e
 cases r1 with
 | cons r rr =>cases rr;obtain ⟨t,rfl⟩:=r;exact call_range_1 (Bo I1 (by omega) (by omega) q1 q2 (by simpa using q))
def Fz (wi:TI) (g:TG) (tb:TS):TS:=λD σ H=>wi σ H λJ H1=>∃ W:Nat->Nat->St->Hp->Prop,(∃ m,W 0 m σ H1)/\∀ i m σ H,W i m σ H ->
 (J.stop i H/\D.nx σ H)\/(J.go i H/\∃ N:St->Hp->Prop,(∀ σ' H',N σ' H'->∃ m',m' < m/\W (i+1) m' σ' H')/\∀ x H',J.yld i H x H'->g x σ H' λσ2 H2=>tb { D with nx:=N,ct:=N,bk:=D.nx } σ2 H2)
noncomputable def pS (fp:List Addr) (h:Heap):List (Addr × Obj):=fp.filterMap λb=>(h.get? b).map λo=>(b,o)
variable {fp:List Addr} {h:Heap}
theorem jZ {b:Addr} {o:Obj} (hb:b ∈ fp) (e:h.get? b=some o):(b,o) ∈ pS fp h:=List.mem_filterMap.mpr ⟨b,hb,by rw [e];rfl⟩
theorem yN {p:Addr × Obj} (hp:p ∈ pS fp h):p.1 ∈ fp/\h.get? p.1=some p.2:=by
 obtain ⟨b,hb,e⟩:=List.mem_filterMap.mp hp
 cases q:h.get? b with
 | none=>rw [q] at e;cases e
 | some o =>rw [q] at e;have e':(b,o)=p:=Option.some.inj e;subst e';exact ⟨hb,q⟩
theorem Inv.pinned (I:Inv X pins σ H s) (hf:∀ b ∈ fp,qz X pins H b) (ho:∀ b ∈ fp,∃ o,s.heap.get? b=some o/\∀ v,o.data≠.cell v):Inv X (pins++pS fp s.heap) σ H s :=
 I.pins_of λp hp=>(List.mem_append.mp hp).elim (λz=>I.pin p (List.mem_append_right _ z)) λz=>by obtain ⟨hb,e⟩:=yN z;obtain ⟨f0,f1,f2,_⟩:=hf p.1 hb;obtain ⟨o,e',d⟩:=ho p.1 hb;rw [e] at e';cases e';exact ⟨e,f0,f1,f2,d⟩
theorem Inv.unpinned {pl:List (Addr × Obj)} (I:Inv X (pins++pl) σ H s):Inv X pins σ H s:=I.pins_of λp hp=>I.pin p (List.mem_append_right _ (List.mem_append_left _ hp))
theorem iV {iter:Expr} {body:List Stmt} {wi:TI} {g:TG} {tb:TS} (hp:PassesOwn (model X.prog X.w) X.A X.env X.xe) (hc:X.calm=true) (hi:PI X tg iter wi) (hg:PG X tg g) (hb:PSs X body tb)
  (hs:∀ x,foldedSetIterable iter X.env x=pure x:=by intro _;rfl):PS X (.For tg iter body [] pos) (Fz wi g tb):=by
 intro pins s σ H D I h;refine wpAny_For (thn (hi pins s σ H _ I h) λv s1 h1=>thn h1 λitv s2 h2=>?_) hs;obtain ⟨it,fp,tn,J,H2,e,I2,T,st2,f2,W,⟨m0,w0⟩,turn⟩:=h2;subst e;have ud:∀ {H':Hp},(∀ b ∈ fp,H' b=none)->∀ b ∈ fp,qz X pins H' b:=λhn b hb=>⟨hn b hb,(f2 b hb).2⟩
 refine codeAny_forLoop_any (λn s'=>∃ i σ' H',Inv X pins σ' H' s'/\tn i s'.heap/\(∀ b ∈ fp,H' b=none)/\W i n σ' H') ?_ m0 ⟨0,σ,H2,I2,st2,λb hb=>(f2 b hb).1,w0⟩;rintro n s3 ⟨i,σ3,H3,I3,st3,fr3,w3⟩;rcases turn i n σ3 H3 w3 with ⟨stop,qn⟩ | ⟨go,N,hN,step⟩
 ·refine wpAny_passesOwn hp (thn (T.done X rfl rfl rfl hc i pins s3 σ3 H3 X.xe I3 (ud fr3) st3 stop) λr s4 ⟨hr,I4⟩=>?_);subst hr;exact wpAny_execs_nil ⟨σ3,H3,I4,qn⟩
 ·refine wpAny_passesOwn hp (thn (T.item X rfl rfl rfl hc i pins s3 σ3 H3 X.xe I3 (ud fr3) st3 go) λr s4 ⟨u,hr,h4⟩=>?_);subst hr;refine wpAny_passesOwn hp (thn h4 λ_ s5 ⟨x,H5,I5,r5,y5,st5,fr5⟩=>?_);have I5':=I5.pinned (ud fr5) (T.obj _ _ st5);refine wpAny_passesOwn hp (thn (hg _ s5 σ3 H5 x u _ I5' r5 (step x H5 y5)) λ_ s6 ⟨σ6,H6,I6,q6⟩=>?_);refine wpAny_passesOwn hp (thn (hb _ s6 σ6 H6 _ I6 q6) λf s7 q7=>?_)
  have again:∀ {σ7:St} {H7:Hp},Inv X (pins++pS fp s5.heap) σ7 H7 s7->N σ7 H7->∃ m,m < n/\∃ i σ' H',Inv X pins σ' H' s7/\tn i s7.heap/\(∀ b ∈ fp,H' b=none)/\W i m σ' H':=λ{σ7 H7} I7 n7=>by obtain ⟨m',hm,w7⟩:=hN σ7 H7 n7;refine ⟨m',hm,i+1,σ7,H7,I7.unpinned,T.keep _ _ _ st5 λb hb o e=>(I7.pin (b,o) (List.mem_append_right _ (List.mem_append_right _ (jZ hb e)))).1,λb hb=>?_,w7⟩;obtain ⟨o,e,d⟩:=T.obj _ _ st5 b hb;exact (I7.pin (b,o) (List.mem_append_right _ (List.mem_append_right _ (jZ hb e)))).2.1
  cases f with
  | next=>obtain ⟨σ7,H7,I7,n7⟩:=q7;exact again I7 n7
  | cont=>obtain ⟨σ7,H7,I7,n7⟩:=q7;exact again I7 n7
  | brk=>obtain ⟨σ7,H7,I7,q7⟩:=q7;exact ⟨σ7,H7,I7.unpinned,q7⟩
  | ret v=>obtain ⟨x7,σ7,H7,I7,r7,q7⟩:=q7;exact ⟨x7,σ7,H7,I7.unpinned,r7,q7⟩
end
variable {g:TG} {tb:TS}
theorem kE {K:PySem.W.Frag} {D:ko} (Pv:Nat->St->Hp->Prop) (h0:Pv 0 σ H) (hl:∀ i σ H,i<=xs.length->Pv i σ H->SqL K H a xs)
  (hs:∀ i x σ H,xs[i]?=some x->Pv i σ H->g x σ H λσ2 H2=>tb { D with nx:=Pv (i+1),ct:=Pv (i+1),bk:=D.nx } σ2 H2) (hd:∀ σ H,Pv xs.length σ H->D.nx σ H) :
  ∃ W:Nat->Nat->St->Hp->Prop,(∃ m,W 0 m σ H)/\∀ i m σ H,W i m σ H ->
   ((Itl K a).stop i H/\D.nx σ H)\/((Itl K a).go i H/\∃ N:St->Hp->Prop,(∀ σ' H',N σ' H'->∃ m',m' < m/\W (i+1) m' σ' H')/\∀ x H',(Itl K a).yld i H x H'->g x σ H' λσ2 H2=>tb { D with nx:=N,ct:=N,bk:=D.nx } σ2 H2):=by
 refine ⟨λi m σ H=>m=xs.length - i/\i<=xs.length/\Pv i σ H,⟨xs.length,by simp,Nat.zero_le _,h0⟩,?_⟩;rintro i m σ H ⟨rfl,hi,p⟩;have q:=hl i σ H hi p;by_cases hlt:i < xs.length
 ·refine .inr ⟨⟨xs,xs[i],q,by simp [hlt]⟩,Pv (i+1),λσ' H' p'=>⟨xs.length - (i+1),by omega,rfl,hlt,p'⟩,λx H' y=>?_⟩;obtain ⟨e,y⟩:=y;subst e;exact hs i x σ _ (y xs q) p
 ·have e:i=xs.length:=by omega
  subst e;exact .inl ⟨⟨xs,q,Nat.le_refl _⟩,hd σ H p⟩
theorem sD {K:PySem.W.Frag} {D:ko} (Pv:Nat->St->Hp->Prop) (h0:Pv 0 σ H) (hl:∀ i σ H,i<=xs.length->Pv i σ H->SqT K H a xs)
  (hs:∀ i x σ H,xs[i]?=some x->Pv i σ H->g x σ H λσ2 H2=>tb { D with nx:=Pv (i+1),ct:=Pv (i+1),bk:=D.nx } σ2 H2) (hd:∀ σ H,Pv xs.length σ H->D.nx σ H) :
  ∃ W:Nat->Nat->St->Hp->Prop,(∃ m,W 0 m σ H)/\∀ i m σ H,W i m σ H ->
   ((Itt K a).stop i H/\D.nx σ H)\/((Itt K a).go i H/\∃ N:St->Hp->Prop,(∀ σ' H',N σ' H'->∃ m',m' < m/\W (i+1) m' σ' H')/\∀ x H',(Itt K a).yld i H x H'->g x σ H' λσ2 H2=>tb { D with nx:=N,ct:=N,bk:=D.nx } σ2 H2):=by
 refine ⟨λi m σ H=>m=xs.length - i/\i<=xs.length/\Pv i σ H,⟨xs.length,by simp,Nat.zero_le _,h0⟩,?_⟩;rintro i m σ H ⟨rfl,hi,p⟩;have q:=hl i σ H hi p;by_cases hlt:i < xs.length
 ·refine .inr ⟨⟨xs,xs[i],q,by simp [hlt]⟩,Pv (i+1),λσ' H' p'=>⟨xs.length - (i+1),by omega,rfl,hlt,p'⟩,λx H' y=>?_⟩;obtain ⟨e,y⟩:=y;subst e;exact hs i x σ _ (y xs q) p
 ·have e:i=xs.length:=by omega
  subst e;exact .inl ⟨⟨xs,q,Nat.le_refl _⟩,hd σ H p⟩
variable {n:Nat}
theorem rf {lo:Int} {D:ko} (Pv:Nat->St->Hp->Prop) (h0:Pv 0 σ H)
  (hs:∀ i σ H,i < n->Pv i σ H->g (.int (lo+i)) σ H λσ2 H2=>tb { D with nx:=Pv (i+1),ct:=Pv (i+1),bk:=D.nx } σ2 H2) (hd:∀ σ H,Pv n σ H->D.nx σ H) :
  ∃ W:Nat->Nat->St->Hp->Prop,(∃ m,W 0 m σ H)/\∀ i m σ H,W i m σ H ->
   ((Itr lo n).stop i H/\D.nx σ H)\/((Itr lo n).go i H/\∃ N:St->Hp->Prop,(∀ σ' H',N σ' H'->∃ m',m' < m/\W (i+1) m' σ' H')/\∀ x H',(Itr lo n).yld i H x H'->g x σ H' λσ2 H2=>tb { D with nx:=N,ct:=N,bk:=D.nx } σ2 H2):=by
 refine ⟨λi m σ H=>m=n - i/\i<=n/\Pv i σ H,⟨n,by simp,Nat.zero_le _,h0⟩,?_⟩;rintro i m σ H ⟨rfl,hi,p⟩;by_cases hlt:i < n
 ·refine .inr ⟨hlt,Pv (i+1),λσ' H' p'=>⟨n - (i+1),by omega,rfl,hlt,p'⟩,λx H' y=>?_⟩;obtain ⟨e,y⟩:=y;subst e y;exact hs i σ _ hlt p
 ·have e:i=n:=by omega
  subst e;exact .inl ⟨Nat.le_refl _,hd σ H p⟩
theorem vV {c:TT} {D:ko} (Pv:St->Hp->Prop) (μ:St->Hp->Nat) (h0:Pv σ H)
  (hs:∀ σ H,Pv σ H->c σ H λb H1=>if b=true then tb { D with nx:=λσ' H'=>Pv σ' H'/\μ σ' H' < μ σ H,ct:=λσ' H'=>Pv σ' H'/\μ σ' H' < μ σ H,bk:=D.nx } σ H1 else D.nx σ H1)
  (mono:∀ σ H Q Q',(∀ b H1,Q b H1->Q' b H1)->c σ H Q->c σ H Q'):BN c tb D σ H:=by
 refine ⟨λm σ H=>m=μ σ H/\Pv σ H,⟨_,rfl,h0⟩,?_⟩;rintro m σ H ⟨rfl,p⟩;refine mono σ H _ _ (λb H1 q=>?_) (hs σ H p)
 cases b with
 | true=>exact ⟨_,λσ' H' ⟨p',l⟩=>⟨_,l,rfl,p'⟩,q⟩
 | false=>exact q
abbrev R2:=V->V->Hp->VK->Prop
def OpR (X:Cx) (f:Value->Value->Sem Value) (r:R2):Prop :=
 ∀ (pins:List (Addr × Obj)) (s:Shared) (σ:St) (H:Hp) (x y:V) (v u:Value) (Q:VK),Inv X pins σ H s->RelV x v->RelV y u->r x y H Q ->
  wpAny (model X.prog X.w) X.A (f v u) (EP X pins σ Q) X.xe s
def UnR (X:Cx) (f:Value->Sem Value) (r:V->Hp->VK->Prop):Prop :=
 ∀ (pins:List (Addr × Obj)) (s:Shared) (σ:St) (H:Hp) (x:V) (v:Value) (Q:VK),Inv X pins σ H s->RelV x v->r x H Q ->
  wpAny (model X.prog X.w) X.A (f v) (EP X pins σ Q) X.xe s
def jD (X:Cx) (f:Value) (r:List V->Hp->VK->Prop):Prop :=
 ∀ (pins:List (Addr × Obj)) (s:Shared) (σ:St) (H:Hp) (xs:List V) (us:List Value) (Q:VK),Inv X pins σ H s->Vals xs us->r xs H Q ->
  wpAny (model X.prog X.w) X.A (call f us) (EP X pins σ Q) X.xe s
def Gx (X:Cx) (r:V->Hp->(Bool->Hp->Prop)->Prop):Prop :=
 ∀ (pins:List (Addr × Obj)) (s:Shared) (σ:St) (H:Hp) (x:V) (v:Value) (Q:Bool->Hp->Prop),Inv X pins σ H s->RelV x v->r x H Q ->
  wpAny (model X.prog X.w) X.A (truthy v) (TP X pins σ Q) X.xe s
noncomputable def tOp (r:R2) (ta tb:TE):TE:=λσ H Q=>ta σ H λx H1=>tb σ H1 λy H2=>r x y H2 Q
def tUn (r:V->Hp->VK->Prop) (ta:TE):TE:=λσ H Q=>ta σ H λx H1=>r x H1 Q
def rI (C:Int->Int->Prop) (g:Int->Int->V):R2:=λx y H Q=>∃ i j,x=.int i/\y=.int j/\C i j/\Q (g i j) H
noncomputable def rI0 (g:Int->Int->V):R2:=λx y H Q=>∃ i j,x=.int i/\y=.int j/\Q (g i j) H
def rU (g:Int->V):V->Hp->VK->Prop:=λx H Q=>∃ i,x=.int i/\Q (g i) H
section
variable {X:Cx} {a b c:Expr} {ta tb tc:TE} {pos:Pos}
variable {f:Value->Value->Sem Value}
theorem Ez (ha:PE X a ta) (hb:PE X b tb) {pins:List (Addr × Obj)} {s:Shared} {σ:St} {H:Hp} {R:V->V->Hp->Prop} (I:Inv X pins σ H s)
  (h:ta σ H λx H1=>tb σ H1 λy H2=>R x y H2) {Q:Value->Shared->Prop}
  (hf:∀ v u s2 x y H2,Inv X pins σ H2 s2->RelV x v->RelV y u->R x y H2->wpAny (model X.prog X.w) X.A (f v u) Q X.xe s2) :
  wpAny (model X.prog X.w) X.A (eval a X.env) (λv s₁=>wpAny (model X.prog X.w) X.A (eval b X.env) (λu s₂=>wpAny (model X.prog X.w) X.A (f v u) Q X.xe s₂) X.xe s₁) X.xe s:=by
 refine thn (ha pins s σ H _ I h) λv s1 ⟨x,H1,I1,r1,q1⟩=>?_;refine thn (hb pins s1 σ H1 _ I1 q1) λu s2 ⟨y,H2,I2,r2,q2⟩=>?_;exact hf v u s2 x y H2 I2 r1 r2 q2
theorem bO {op:Operator} {r:R2} (ho:OpR X (binaryOp op) r) (ha:PE X a ta) (hb:PE X b tb):PE X (.BinOp a op b pos) (tOp r ta tb):=by intro pins s σ H Q I h;exact wpAny_BinOp (Ez ha hb I h λv u s2 x y H2 I2 rx ry q=>ho pins s2 σ H2 x y v u Q I2 rx ry q)
theorem A5 {op:UnaryOp} {r:V->Hp->VK->Prop} (ho:UnR X (unaryOp op) r) (ha:PE X a ta):PE X (.UnaryOp op a pos) (tUn r ta):=by intro pins s σ H Q I h;exact UnaryOp_ (thn (ha pins s σ H _ I h) λv s1 ⟨x,H1,I1,r1,q1⟩=>ho pins s1 σ H1 x v Q I1 r1 q1)
variable {g:Int->Int->Int}
theorem opI {C:Int->Int->Prop}
  (rule:∀ (i j:Int) (t u:Tok) (s:Shared) (Q:Value->Shared->Prop) (E:Value->Shared->Prop),C i j->Q (.int (g i j) s.toks) { s with toks:=s.toks+1 }->wpAny (model X.prog X.w) X.A (f (.int i t) (.int j u)) Q E s) :
  OpR X f (rI C λi j=>.int (g i j)):=by
 intro pins s σ H x y v u Q I rx ry h;obtain ⟨i,j,rfl,rfl,hc,q⟩:=h;obtain ⟨t,rfl⟩:=rx;obtain ⟨t',rfl⟩:=ry;exact rule i j t t' s _ _ hc ⟨.int (g i j),H,I.tok _,⟨_,rfl⟩,q⟩
theorem F4
  (rule:∀ (i j:Int) (t u:Tok) (s:Shared) (Q:Value->Shared->Prop) (E:Value->Shared->Prop),Q (.int (g i j) s.toks) { s with toks:=s.toks+1 }->wpAny (model X.prog X.w) X.A (f (.int i t) (.int j u)) Q E s) :
  OpR X f (rI0 λi j=>.int (g i j)):=by
 intro pins s σ H x y v u Q I rx ry h;obtain ⟨i,j,rfl,rfl,q⟩:=h;obtain ⟨t,rfl⟩:=rx;obtain ⟨t',rfl⟩:=ry;exact rule i j t t' s _ _ ⟨.int (g i j),H,I.tok _,⟨_,rfl⟩,q⟩
theorem C3 {g:Int->Int->Bool}
  (rule:∀ (i j:Int) (t u:Tok) (s:Shared) (Q:Value->Shared->Prop) (E:Value->Shared->Prop),Q (.bool (g i j)) s->wpAny (model X.prog X.w) X.A (f (.int i t) (.int j u)) Q E s) :
  OpR X f (rI0 λi j=>.bl (g i j)):=by
 intro pins s σ H x y v u Q I rx ry h;obtain ⟨i,j,rfl,rfl,q⟩:=h;obtain ⟨t,rfl⟩:=rx;obtain ⟨t',rfl⟩:=ry;exact rule i j t t' s _ _ ⟨.bl (g i j),H,I,rfl,q⟩
def Ed (i j:Int):Prop:=0 < j/\j < 1073741824
def Gv (i j:Int):Prop:=0<=j/\j<=1000000/\i.natAbs < 2 ^ 64
def CMul (i j:Int):Prop:=(-(2 ^ 64) < i/\i < 2 ^ 64)\/(-(2 ^ 64) < j/\j < 2 ^ 64)
theorem CMul.ok {i j:Int} (h:CMul i j):IntMulOk i j:=by
 rcases h with ⟨h1,h2⟩ | ⟨h1,h2⟩
 ·exact .of_left (intBits_le_64 h1 h2)
 ·exact .of_right (intBits_le_64 h1 h2)
theorem eB:OpR X (binaryOp .Add) (rI0 λi j=>.int (i+j)):=F4 λ_ _ _ _ _ _ _ q=>add_int q
theorem tM:OpR X (binaryOp .Sub) (rI0 λi j=>.int (i - j)):=F4 λ_ _ _ _ _ _ _ q=>sub_int q
theorem tI:OpR X (binaryOp .Mult) (rI CMul λi j=>.int (i * j)):=opI λ_ _ _ _ _ _ _ hc q=>mul_int q hc.ok
theorem j0:OpR X (binaryOp .FloorDiv) (rI Ed λi j=>.int (i / j)):=opI λi j _ _ _ _ _ hc q=>by have h1:(0:Int) < j:=hc.1;have h2:j < 1073741824:=hc.2;exact floordiv_int (by omega) (by rw [Int.fdiv_eq_ediv_of_nonneg i (by omega)];exact q) (.inl (PyProof.noPylong_small (by omega)))
theorem e9:OpR X (binaryOp .Mod) (rI (λ_ j=>0 < j) λi j=>.int (i % j)):=opI λi j _ _ _ _ _ hc q=>by have h1:(0:Int) < j:=hc;exact mod_int' (by omega) (by rw [Int.fmod_eq_emod_of_nonneg i (by omega)];exact q)
theorem tL:OpR X (binaryOp .Pow) (rI Gv λi j=>.int (i ^ j.toNat)):=opI λ_ _ _ _ _ _ _ hc q=>pow_int_small hc.1 hc.2.1 hc.2.2 q
theorem unI {f:Value->Sem Value} {g:Int->Int}
  (rule:∀ (i:Int) (t:Tok) (s:Shared) (Q:Value->Shared->Prop) (E:Value->Shared->Prop),Q (.int (g i) s.toks) { s with toks:=s.toks+1 }->wpAny (model X.prog X.w) X.A (f (.int i t)) Q E s) :
  UnR X f (rU λi=>.int (g i)):=by
 intro pins s σ H x v Q I rx h;obtain ⟨i,rfl,q⟩:=h;obtain ⟨t,rfl⟩:=rx;exact rule i t s _ _ ⟨.int (g i),H,I.tok _,⟨_,rfl⟩,q⟩
theorem xo:UnR X (unaryOp .USub) (rU λi=>.int (-i)):=unI λ_ _ _ _ _ q=>neg_int q
end
noncomputable def Gh:V->V->Bool
 | .non,.non=>true | .non,.int _=>true | .int _,.non=>true | .non,.bl _=>true | .bl _,.non=>true | .non,.str _=>true | .str _,.non=>true
 | .int _,.int _=>true | .bl _,.bl _=>true | .str _,.str _=>true | .byt _,.byt _=>true
 | .int _,.str _=>true | .str _,.int _=>true | .bl _,.str _=>true | .str _,.bl _=>true
 | _,_=>false
noncomputable def rEq:R2:=λx y H Q=>Gh x y=true/\Q (.bl (decide (x=y))) H
noncomputable def rNe:R2:=λx y H Q=>Gh x y=true/\Q (.bl (!decide (x=y))) H
theorem xE {i j:Int}:decide (V.int i=V.int j)=(i == j):=by rw [Bool.eq_iff_iff];simp
theorem Ag {i j:Bool}:decide (V.bl i=V.bl j)=(i == j):=by rw [Bool.eq_iff_iff];simp
theorem xF {i j:Str}:decide (V.str i=V.str j)=(i == j):=by rw [Bool.eq_iff_iff];simp
theorem xD {i j:Array UInt8}:decide (V.byt i=V.byt j)=(i.toList == j.toList):=by rw [Bool.eq_iff_iff];cases i;cases j;simp
section
variable {X:Cx} {a b c:Expr} {ta tb tc:TE} {pos:Pos}
theorem cP {pins:List (Addr × Obj)} {σ:St} {H:Hp} {s:Shared} {Q:VK} {k k':Bool} (I:Inv X pins σ H s) (q:Q (.bl k) H) (e:k=k'):EP X pins σ Q (.bool k') s:=by subst e;exact ⟨.bl k,H,I,rfl,q⟩
theorem bY:OpR X (compareOp .Eq) rEq:=by
 intro pins s σ H x y v u Q I rx ry h;obtain ⟨hs,q⟩:=h
 cases x with
 | non =>
  cases rx
  cases y with
  | non=>cases ry;exact PySem.EqNone.eq_none_none (cP I q (by simp))
  | bl j=>cases ry;exact PySem.EqNone.eq_none_bool (cP I q (by simp))
  | int j=>obtain ⟨t',rfl⟩:=ry;exact PySem.EqNone.eq_none_int (cP I q (by simp))
  | str j=>obtain ⟨t',rfl⟩:=ry;exact PySem.EqNone.eq_none_str (cP I q (by simp))
  | _=>exact absurd (show false=true from hs) Bool.false_ne_true
 | bl i =>
  cases rx
  cases y with
  | non=>cases ry;exact PySem.EqNone.eq_bool_none (cP I q (by simp))
  | bl j=>cases ry;exact eq_bool (cP I q Ag)
  | str j=>obtain ⟨t',rfl⟩:=ry;exact PySem.EqMixed.eq_bool_str (cP I q (by simp))
  | _=>exact absurd (show false=true from hs) Bool.false_ne_true
 | int i =>
  obtain ⟨t,rfl⟩:=rx
  cases y with
  | non=>cases ry;exact PySem.EqNone.eq_int_none (cP I q (by simp))
  | int j=>obtain ⟨t',rfl⟩:=ry;exact eq_int (cP I q xE)
  | str j=>obtain ⟨t',rfl⟩:=ry;exact PySem.EqMixed.eq_int_str (cP I q (by simp))
  | _=>exact absurd (show false=true from hs) Bool.false_ne_true
 | str i =>
  obtain ⟨t,rfl⟩:=rx
  cases y with
  | non=>cases ry;exact PySem.EqNone.eq_str_none (cP I q (by simp))
  | bl j=>cases ry;exact PySem.EqMixed.eq_str_bool (cP I q (by simp))
  | int j=>obtain ⟨t',rfl⟩:=ry;exact PySem.EqMixed.eq_str_int (cP I q (by simp))
  | str j=>obtain ⟨t',rfl⟩:=ry;exact eq_str (cP I q xF)
  | _=>exact absurd (show false=true from hs) Bool.false_ne_true
 | byt i =>
  obtain ⟨t,rfl⟩:=rx
  cases y with
  | byt j=>obtain ⟨t',rfl⟩:=ry;exact W.eq_bytes (cP I q xD)
  | _=>exact absurd (show false=true from hs) Bool.false_ne_true
 | _=>cases y <;> exact absurd (show false=true from hs) Bool.false_ne_true
theorem ki:OpR X (compareOp .NotEq) rNe:=by
 intro pins s σ H x y v u Q I rx ry h;obtain ⟨hs,q⟩:=h
 cases x with
 | non =>
  cases rx
  cases y with
  | non=>cases ry;exact PySem.EqNone.ne_none_none (cP I q (by simp))
  | bl j=>cases ry;exact PySem.EqNone.ne_none_bool (cP I q (by simp))
  | int j=>obtain ⟨t',rfl⟩:=ry;exact PySem.EqNone.ne_none_int (cP I q (by simp))
  | str j=>obtain ⟨t',rfl⟩:=ry;exact PySem.EqNone.ne_none_str (cP I q (by simp))
  | _=>exact absurd (show false=true from hs) Bool.false_ne_true
 | bl i =>
  cases rx
  cases y with
  | non=>cases ry;exact PySem.EqNone.ne_bool_none (cP I q (by simp))
  | bl j=>cases ry;exact ne_bool (cP I q (congrArg not Ag))
  | str j=>obtain ⟨t',rfl⟩:=ry;exact PySem.EqMixed.ne_bool_str (cP I q (by simp))
  | _=>exact absurd (show false=true from hs) Bool.false_ne_true
 | int i =>
  obtain ⟨t,rfl⟩:=rx
  cases y with
  | non=>cases ry;exact PySem.EqNone.ne_int_none (cP I q (by simp))
  | int j=>obtain ⟨t',rfl⟩:=ry;exact ne_int (cP I q (congrArg not xE))
  | str j=>obtain ⟨t',rfl⟩:=ry;exact PySem.EqMixed.ne_int_str (cP I q (by simp))
  | _=>exact absurd (show false=true from hs) Bool.false_ne_true
 | str i =>
  obtain ⟨t,rfl⟩:=rx
  cases y with
  | non=>cases ry;exact PySem.EqNone.ne_str_none (cP I q (by simp))
  | bl j=>cases ry;exact PySem.EqMixed.ne_str_bool (cP I q (by simp))
  | int j=>obtain ⟨t',rfl⟩:=ry;exact PySem.EqMixed.ne_str_int (cP I q (by simp))
  | str j=>obtain ⟨t',rfl⟩:=ry;exact ne_str (cP I q (congrArg not xF))
  | _=>exact absurd (show false=true from hs) Bool.false_ne_true
 | byt i =>
  obtain ⟨t,rfl⟩:=rx
  cases y with
  | byt j=>obtain ⟨t',rfl⟩:=ry;exact W.ne_bytes (cP I q (congrArg not xD))
  | _=>exact absurd (show false=true from hs) Bool.false_ne_true
 | _=>cases y <;> exact absurd (show false=true from hs) Bool.false_ne_true
theorem kN:OpR X (compareOp .Lt) (rI0 λi j=>.bl (decide (i < j))):=C3 λ_ _ _ _ _ _ _ q=>lt_int q
theorem kh:OpR X (compareOp .LtE) (rI0 λi j=>.bl (decide (i<=j))):=C3 λ_ _ _ _ _ _ _ q=>le_int q
theorem kg:OpR X (compareOp .Gt) (rI0 λi j=>.bl (decide (j < i))):=C3 λ_ _ _ _ _ _ _ q=>gt_int q
theorem xX:OpR X (compareOp .GtE) (rI0 λi j=>.bl (decide (j<=i))):=C3 λ_ _ _ _ _ _ _ q=>ge_int q
theorem tH:OpR X (compareOp .Is) (λx y H Q=>y=.non/\Q (.bl (decide (x=.non))) H):=by
 intro pins s σ H x y v u Q I rx ry h;obtain ⟨rfl,q⟩:=h;cases ry;refine is_none_gen (cP I q ?_)
 cases x <;> first
  | (cases rx;rfl)
  | (obtain ⟨t,rfl⟩:=rx;rfl)
theorem C6:OpR X (compareOp .IsNot) (λx y H Q=>y=.non/\Q (.bl (!decide (x=.non))) H):=by
 intro pins s σ H x y v u Q I rx ry h;obtain ⟨rfl,q⟩:=h;cases ry;refine isnot_none_gen (cP I q ?_)
 cases x <;> first
  | (cases rx;rfl)
  | (obtain ⟨t,rfl⟩:=rx;rfl)
variable {op:CmpOp}
theorem aU (b:Expr) (h:op≠.In:=by decide) (h2:op≠.NotIn:=by decide):behindInMarks op b=false:=by
 have e1:(op == CmpOp.In)=false:=by cases op <;> first | rfl | exact absurd rfl h
 have e2:(op == CmpOp.NotIn)=false:=by cases op <;> first | rfl | exact absurd rfl h2
 cases b <;> simp [behindInMarks,e1,e2]
variable {r:R2}
theorem d4 (ho:OpR X (compareOp op) r) (ha:PE X a ta) (hb:PE X b tb) (hm:behindInMarks op b=false):PE X (.Compare a [op] [b] pos) (tOp r ta tb):=by intro pins s σ H Q I h;exact wpAny_Compare1 (Ez ha hb I h λv u s2 x y H2 I2 rx ry q=>ho pins s2 σ H2 x y v u Q I2 rx ry q) hm
noncomputable def vQ (t:TE):TT:=λσ H Q=>t σ H λx H'=>∃ k,x=.bl k/\Q k H'
theorem aN (ho:OpR X (compareOp op) r) (ha:PE X a ta) (hb:PE X b tb) (hm:behindInMarks op b=false):PT X (.Compare a [op] [b] pos) (vQ (tOp r ta tb)):=by
 intro pins s σ H Q I h
 refine wpAny_isTrue_Compare1 (thn (ha pins s σ H _ I h) λv s1 ⟨x,H1,I1,r1,q1⟩=>thn (hb pins s1 σ H1 _ I1 q1) λu s2 ⟨y,H2,I2,r2,q2⟩ =>
  thn (ho pins s2 σ H2 x y v u _ I2 r1 r2 q2) λc s3 ⟨z,H3,I3,r3,k,e,q3⟩=>?_) hm
 subst e;cases r3;exact wpAny_truthy_bool ⟨H3,I3,q3⟩
noncomputable def ue (r r':R2) (ta tb tc:TE):TE:=λσ H Q=>ta σ H λx H1=>tb σ H1 λy H2=>r x y H2 λz H3=>∃ k,z=.bl k /\
 (if k=true then tc σ H3 λw' H4=>r' y w' H4 Q else Q (.bl false) H3)
variable {op':CmpOp} {r':R2}
theorem vv (ho:OpR X (compareOp op) r) (ho':OpR X (compareOp op') r') (ha:PE X a ta) (hb:PE X b tb) (hc:PE X c tc)
  (hm:lastMarks [op,op'] [b,c]=false:=by with_unfolding_all rfl):PE X (.Compare a [op,op'] [b,c] pos) (ue r r' ta tb tc):=by
 intro pins s σ H Q I h
 refine Compare_chain (thn (ha pins s σ H _ I h) λv s1 ⟨x,H1,I1,r1,q1⟩=>chain_link (thn (hb pins s1 σ H1 _ I1 q1) λu s2 ⟨y,H2,I2,r2,q2⟩ =>
  thn (ho pins s2 σ H2 x y v u _ I2 r1 r2 q2) λd s3 ⟨z,H3,I3,r3,k,e,q3⟩=>?_)) hm
 subst e;cases r3;refine wpAny_truthy_bool ?_
 cases k with
 | false=>exact ite_ff ⟨.bl false,H3,I3,rfl,q3⟩
 | true=>exact ite_tt (chain_last (thn (hc pins s3 σ H3 _ I3 q3) λw' s4 ⟨z',H4,I4,r4,q4⟩=>ho' pins s4 σ H4 y z' u w' Q I4 r2 r4 q4))
theorem pU (ho:OpR X (compareOp op) r) (ho':OpR X (compareOp op') r') (ha:PE X a ta) (hb:PE X b tb) (hc:PE X c tc)
  (hm:lastMarks [op,op'] [b,c]=false:=by with_unfolding_all rfl):PT X (.Compare a [op,op'] [b,c] pos) (vQ (ue r r' ta tb tc)):=by
 intro pins s σ H Q I h
 refine isTrue_chain (thn (ha pins s σ H _ I h) λv s1 ⟨x,H1,I1,r1,q1⟩=>test_link (thn (hb pins s1 σ H1 _ I1 q1) λu s2 ⟨y,H2,I2,r2,q2⟩ =>
  thn (ho pins s2 σ H2 x y v u _ I2 r1 r2 q2) λd s3 ⟨z,H3,I3,r3,k,e,q3⟩=>?_)) hm
 subst e;cases r3;refine wpAny_truthy_bool ?_
 cases k with
 | false =>obtain ⟨k',e',q'⟩:=q3;cases e';exact ite_ff ⟨H3,I3,q'⟩
 | true =>refine ite_tt (test_last (thn (hc pins s3 σ H3 _ I3 q3) λw' s4 ⟨z',H4,I4,r4,q4⟩=>thn (ho' pins s4 σ H4 y z' u w' _ I4 r2 r4 q4) λd' s5 ⟨z2,H5,I5,r5,k2,e2,q5⟩=>?_));subst e2;cases r5;exact wpAny_truthy_bool ⟨H5,I5,q5⟩
def zK (K:W.Frag) (x:V) (H:Hp) (k:Bool):Prop :=
 match x with
 | .non=>k=false
 | .bl b=>k=b
 | .int i=>k=(i != 0)
 | .str y=>y.length<=sizeLine/\k=((y.length:Int) != 0)
 | .byt y=>y.size<=sizeLine/\k=((y.size:Int) != 0)
 | .ref p=>(∃ xs,SqL K H p xs/\k=!xs.isEmpty)\/(∃ xs,SqT K H p xs/\k=!xs.isEmpty)\/∃ kvs,H p=some (.dK kvs)/\k=!kvs.isEmpty
 | _=>False
theorem wt {κ:Type} {kvs:List (κ × V)} {vs:List (κ × Value)} (r:KV kvs vs):(!vs.isEmpty)=!kvs.isEmpty:=by cases r <;> rfl
theorem ph {xs:List V} {its:List Value} (r:Vals xs its):(!its.toArray.isEmpty)=!xs.isEmpty:=by cases r <;> simp
theorem md:(sizeLine:Nat) < 2 ^ 63:=by rw [sizeLine_eq];decide
theorem FF:Gx X (λx H Q=>∃ k,zK X.K x H k/\Q k H):=by
 intro pins s σ H x v Q I rx h;obtain ⟨k,e,q⟩:=h;have hl:=md;have hs:sizeLine=16777216:=sizeLine_eq
 cases x with
 | non =>cases rx;have e':k=false:=e;subst e';exact truthy_none ⟨H,I,q⟩
 | bl b =>cases rx;have e':k=b:=e;subst e';exact wpAny_truthy_bool ⟨H,I,q⟩
 | int i =>obtain ⟨t,rfl⟩:=rx;have e':k=(i != 0):=e;subst e';exact PySem.P.truthy_int ⟨H,I,q⟩
 | str y =>obtain ⟨t,rfl⟩:=rx;obtain ⟨hy,e'⟩:y.length<=sizeLine/\k=((y.length:Int) != 0):=e;subst e';exact PySem.P.truthy_str (by omega) ⟨H,I.tok _,q⟩
 | byt y =>obtain ⟨t,rfl⟩:=rx;obtain ⟨hy,e'⟩:y.size<=sizeLine/\k=((y.size:Int) != 0):=e;subst e';exact W.truthy_bytes (by omega) ⟨H,I.tok _,q⟩
 | ref p =>
  cases rx;have e':(∃ xs,SqL X.K H p xs/\k=!xs.isEmpty)\/(∃ xs,SqT X.K H p xs/\k=!xs.isEmpty)\/∃ kvs,H p=some (.dK kvs)/\k=!kvs.isEmpty:=e;rcases e' with ⟨xs,hx,e'⟩ | ⟨xs,hx,e'⟩ | ⟨kvs,hx,e'⟩
  ·subst e';obtain ⟨its,r,pl,hz⟩:=I.list hx;have hlen:=r.length;exact wpAny_truthy_list pl.isList (by simp only [List.size_toArray];omega) ⟨H,I.tok _,by rw [ph r];exact q⟩
  ·subst e';obtain ⟨its,r,pl,hz⟩:=I.tuple hx;have hlen:=r.length;exact truthy_tuple pl (by simp only [List.size_toArray];omega) ⟨H,I.tok _,by rw [ph r];exact q⟩
  ·subst e';obtain ⟨hz,hS,vs,r,m⟩:kvs.length<=sizeLine/\(p == sysModules)=false/\∃ vs,KV kvs vs/\s.heap.DictOf (fH X.prog X.w) p vs:=I.hok p _ hx;have hlen:kvs.length=vs.length:=Paired.length r;exact wpAny_truthy_dict hS m (by omega) ⟨H,I.tok _,by rw [wt r];exact q⟩
 | _=>exact (show False from e).elim
theorem bQ (ha:PE X a ta) (he:∀ whole,isTrue a X.env whole=(do let v <- whole;standAt a.pos;holding [v] (truthy v))) :
  PT X a (λσ H Q=>ta σ H λx H'=>∃ k,zK X.K x H' k/\Q k H'):=by
 intro pins s σ H Q I h;exact isTrue_plain (thn (ha pins s σ H _ I h) λv s1 ⟨x,H1,I1,r1,q1⟩=>FF pins s1 σ H1 x v Q I1 r1 q1) (he _)
variable {x:V} {us:List Value}
theorem jr (r:Vals [x] us):∃ u,us=[u]/\RelV x u:=by
 cases r with
 | cons r1 r2=>cases r2;exact ⟨_,rfl,r1⟩
theorem Gs {y:V} (r:Vals [x,y] us):∃ u w',us=[u,w']/\RelV x u/\RelV y w':=by
 cases r with
 | cons r1 r2 =>
  cases r2 with
  | cons r3 r4=>cases r4;exact ⟨_,_,rfl,r1,r3⟩
end
section
variable {prog:Program} {w:World} {A:Around} {E:Value->Shared->Prop} {s:Shared} {K:W.Frag} {x dx C f:Addr} {mA:Str->Option Value} {name:Str} {v:Value}
end
theorem RelO.some_of {v:V} {o:Option Value} (r:RelO (some v) o):∃ u,o=some u/\RelV v u:=by
 cases o with
 | none=>exact (show False from r).elim
 | some u=>exact ⟨u,rfl,r⟩
section
variable {P:Program} {w:World} {H H':Hp} {h h':Heap} {a C dx:Addr} {fs fs':List (Str × V)}
end
section
variable {X:Cx} {pins:List (Addr × Obj)} {σ:St} {H:Hp} {s:Shared} {a C dx:Addr} {fs:List (Str × V)} {f:Str} {v:V} {A:Around} {E:Value->Shared->Prop}
end
section
variable {X:Cx} {o e value:Expr} {f:Str} {pos pos' tpos:Pos} {ta tv:TE}
end
section
variable {X:Cx} {pins:List (Addr × Obj)} {σ:St} {H:Hp} {s:Shared} {A:Around} {E:Value->Shared->Prop} {Q:Value->Shared->Prop} {c:Value} {b:Bool}
end
structure Room (k:Nat) (A:Around):Prop where
 hd:A.handled=none
 dp:A.depth+3 * k+5 < recursionLimit
 un:A.units+16 * k+200 < cLine
variable {j:Nat}
theorem Room.mono {k:Nat} (r:Room k A) (h:j<=k):Room j A:=⟨r.hd,by have:=r.dp;omega,by have:=r.un;omega⟩
theorem Room.deeper {k:Nat} (r:Room (k+1) A) (env:Env):Room k (A.deeper env) :=
 ⟨r.hd,by have:=r.dp;show A.depth+1+3 * k+5 < _;omega,by have:=r.un;show A.units+3+16 * k+200 < _;omega⟩
theorem Room.depth {k:Nat} (r:Room k A):A.depth < recursionLimit:=by have:=r.dp;omega
theorem Room.units {k:Nat} (r:Room k A):A.units+64 < cLine:=by have:=r.un;omega
noncomputable def eG:TA:=λ_ H Q=>Q [] H
noncomputable def cE (ta:TE) (tr:TA):TA:=λσ H Q=>ta σ H λx H1=>tr σ H1 λxs H2=>Q (x::xs) H2
section
variable {X:Cx} {e:Expr} {es:List Expr} {te:TE} {t:TA} {pos:Pos}
theorem aC:PA X [] eG:=λ_ _ _ _ H Q I h=>Calls.spliced_nil ⟨[],H,I,.nil,h⟩
theorem cM (ha:PE X e te) (hr:PA X es t) (hs:starEach (e::es) X.env=(false,eval e X.env)::starEach es X.env:=by rfl):PA X (e::es) (cE te t):=by intro pos pins s σ H Q I h;rw [hs];show wpAny _ _ (spliced ((false,eval e X.env)::backTo pos (starEach es X.env))) _ _ s;refine Calls.spliced_cons (thn (ha pins s σ H _ I h) λu s1 ⟨x,H1,I1,r1,q1⟩=>?_);exact thn (hr pos pins s1 σ H1 _ I1 q1) λus s2 ⟨xs,H2,I2,r2,q2⟩=>⟨x::xs,H2,I2,.cons r1 r2,q2⟩
noncomputable def xi (t:TA):TE:=λσ H Q=>t σ H λxs H1=>xs.length<=sizeLine/\∀ p,H1 p=none->Q (.ref p) (upd H1 p (.tup xs))
noncomputable def uf (t:TA):TE:=λσ H Q=>t σ H λxs H1=>xs.length<=sizeLine/\∀ p,H1 p=none->Q (.ref p) (upd H1 p (.lst xs))
theorem bB {x1} (h:PA X es t):PE X (.Tuple es x1 pos) (xi t):=by intro pins s σ H Q I hq;refine wpAny_Tuple_spliced (thn (h pos pins s σ H _ I hq) λus s1 ⟨xs,H1,I1,r,z,q⟩=>⟨by rw [<- r.length];exact z,?_⟩);have hf:H1 s1.heap.objs.size=none:=I1.hok.fresh (Nat.le_refl _);refine ⟨.ref s1.heap.objs.size,upd H1 s1.heap.objs.size (.tup xs),I1.laid (t':=s1.toks) (λb u e=>Heap.get?_push_of_some _ e) (Nat.le_refl _) ?_,rfl,q _ hf⟩;exact ⟨z,us,r,⟨_,Heap.get?_push_size _ rfl,rfl,_,rfl⟩⟩
theorem bR (h:PA X es t):PE X (.List es pos) (uf t):=by intro pins s σ H Q I hq;refine wpAny_List_spliced (thn (h pos pins s σ H _ I hq) λus s1 ⟨xs,H1,I1,r,z,q⟩=>⟨by rw [<- r.length];exact z,?_⟩);have hf:H1 s1.heap.objs.size=none:=I1.hok.fresh (Nat.le_refl _);refine ⟨.ref s1.heap.objs.size,upd H1 s1.heap.objs.size (.lst xs),I1.laid (t':=s1.toks) (λb u e=>Heap.get?_push_of_some _ e) (Nat.le_refl _) ?_,rfl,q _ hf⟩;exact ⟨z,us,0,r,Heap.get?_push_size _ rfl⟩
end
abbrev Sp:=List V->Hp->VK->XK->Prop
abbrev CXT:=List Env->Hp->Shared->XK->Value->Shared->Prop
structure B6 (P:Program) (w:World) (K:W.Frag) (mg:Str->Option Value) (base:Heap) (A:Around) (outer:List Env) (s:Shared) (H:Hp):Prop where
 frames:A.frames=some outer
 mod:Mod K mg base
 bs:∀ b o,base.get? b=some o->s.heap.get? b=some o/\H b=none
 bsz:base.objs.size<=s.heap.objs.size
 funs:s.heap.FunFrames base outer
 frf:∀ b ∈ frs outer,H b=none
 hok:HOk P w H s.heap
 bare:AllBare s.gens
def CE (outer:List Env) (P:Program) (w:World) (H:Hp) (s:Shared) (Q:VK) (u:Value) (s':Shared):Prop :=
 ∃ v H',s'.os=s.os/\AllBare s'.gens/\Un (frs outer) [] H H' s.heap s'.heap/\HOk P w H' s'.heap/\RelV v u/\Q v H'
def CR (CX:CXT) (outer:List Env) (P:Program) (w:World) (H:Hp) (s:Shared) (Q:VK) (E:XK) (r:Result) (s':Shared):Prop :=
 match r with
 | .ok (.ret u)=>CE outer P w H s Q u s'
 | .ok _=>False
 | .error e=>CX outer H s E e s'
structure FnOk (P:Program) (w:World) (K:W.Frag) (mg:Str->Option Value) (base:Heap) (CX:CXT) (k:Nat) (f:Addr) (fd:FuncData) (ps:List Str) (sp:Sp):Prop where
 len:∀ vs H Q E,sp vs H Q E->vs.length=ps.length
 run:∀ (A:Around) (outer:List Env) (s:Shared) (H:Hp) (args:Args) (us:List Value) (vs:List V) (Q:VK) (E:XK),Room k A->B6 P w K mg base A outer s H->BindsTo s fd args (ps.zip us)->Vals vs us->sp vs H Q E ->
  codeAny (model P w) A (.call (.ref f) args) (CR CX outer P w H s Q E) s
variable {mg:Str->Option Value} {base:Heap} {CX:CXT} {f:Addr} {fd:FuncData} {ps:List Str} {sp:Sp}
theorem FnOk.mono {k:Nat} (F:FnOk P w K mg base CX j f fd ps sp) (h:j<=k) :
  FnOk P w K mg base CX k f fd ps sp:=⟨F.len,λA outer s H args us vs Q E hr=>F.run A outer s H args us vs Q E (hr.mono h)⟩
section
variable {X:Cx} {pins:List (Addr × Obj)} {σ:St} {H:Hp} {s s':Shared}
theorem Inv.env0 (I:Inv X pins σ H s):B6 X.prog X.w X.K X.mg X.base X.A X.stack s H :=
 ⟨I.ok.frames,I.ok.mod,I.bs,Nat.le_trans I.ok.bsz I.sz,I.stack,I.stkFree,I.hok,I.bare⟩
theorem Inv.after {Q:VK} {u:Value} (I:Inv X pins σ H s) (h:CE X.stack X.prog X.w H s Q u s'):EP X pins σ Q u s':=by obtain ⟨v,H',os,bare,un,hok,r,q⟩:=h;obtain ⟨hh,g,d,t,os'⟩:=s';obtain rfl:os'=s.os:=os;exact ⟨v,H',I.call (h':=hh) (g':=g) (d':=d) (t':=t) (ch:=[]) un hok bare (λb z=>absurd z (by simp)),r,q⟩
end
def jU (sp:Sp) (dvs:List V) (E:XK) (t:TA):TE:=λσ H Q=>t σ H λvs H1=>sp (vs++dvs) H1 Q E
def Binds (K:W.Frag) (fd:FuncData) (ps:List Str) (ds:List Value):Prop :=
 ∀ (s:Shared) (us:List Value),K.In s.heap->(us++ds).length=ps.length->BindsTo s fd ⟨us,[]⟩ (ps.zip (us++ds))
theorem Binds.all (h:∀ us:List Value,us.length=ps.length->bindArgs fd ⟨us,[]⟩=pure (ps.zip us)):Binds K fd ps []:=λs us _ hl=>by rw [List.append_nil] at hl ⊢;exact .of_eq (h us hl)
def rX (CX:CXT) (X:Cx) (E:XK):Prop:=∀ (pins:List (Addr × Obj)) (σ:St) (H:Hp) (s:Shared) (e:Value) (s':Shared),Inv X pins σ H s->CX X.stack H s E e s'->X.xe e s'
section
variable {X:Cx} {CX:CXT} {k:Nat} {f C:Addr} {fd:FuncData} {ps:List Str} {sp:Sp} {dvs:List V} {ds:List Value} {E:XK} {x m:Str} {p pos apos:Pos} {e o:Expr} {es:List Expr} {ta:TE} {t:TA}
theorem BC {pins:List (Addr × Obj)} {σ:St} {H:Hp} {s:Shared} {Q:VK} {us:List Value} {vs:List V} (F:FnOk X.prog X.w X.K X.mg X.base CX k f fd ps sp) (hr:Room k X.A) (hb:Binds X.K fd ps ds) (hd:Vals dvs ds) (hx:rX CX X E)
  (I:Inv X pins σ H s) (r:Vals vs us) (h:sp (vs++dvs) H Q E):wpAny (model X.prog X.w) X.A (call (.ref f) us) (EP X pins σ Q) X.xe s:=by
 have r2:Vals (vs++dvs) (us++ds):=r.append hd;have hl:(us++ds).length=ps.length:=by rw [<- r2.length];exact F.len _ _ _ _ h
 refine wpAny_call (codeAny_mono (F.run X.A X.stack s H ⟨us,[]⟩ (us++ds) (vs++dvs) Q E hr I.env0 (hb s us I.kIn hl) r2 h) λr s' hq=>?_)
 cases r with
 | error e=>exact hx pins σ H s e s' I hq
 | ok fl =>
  cases fl with
  | ret u=>exact I.after hq
  | next=>exact False.elim hq
  | brk=>exact False.elim hq
  | cont=>exact False.elim hq
theorem C7 (F:FnOk X.prog X.w X.K X.mg X.base CX k f fd ps sp) (hr:Room k X.A) (hg:Gl X x) (hm:X.mg x=some (.ref f)) (hk:W.keepIn X.K (.ref f)=true) (hb:Binds X.K fd ps ds) (hd:Vals dvs ds) (hx:rX CX X E)
  (ha:PA X (e::es) t) (hdb:(x == ("__debug__":Str))=false:=by decide) (he:starEach (e::es) X.env=(false,eval e X.env)::starEach es X.env:=by rfl) (hpl:(backTo pos (starEach es X.env)).any (·.1)=false:=by rfl) :
  PE X (.Call (.Name x p) (e::es) [] pos) (jU sp dvs E t):=by
 intro pins s σ H Q I h;refine wpAny_Call_Name_kw (sO I hg hm ?_ hdb);refine W.callWith_K (h₀:=X.base) I.ok.mod.kin hk (thn (ha pos pins s σ H _ I h) λus s1 ⟨vs,H1,I1,r,q⟩=>⟨I1.kIn,?_⟩) he hpl;exact BC F hr hb hd hx I1 r q
theorem vt (F:FnOk X.prog X.w X.K X.mg X.base CX k f fd ps sp) (hr:Room k X.A) (hg:Gl X x) (hm:X.mg x=some (.ref f)) (hk:W.keepIn X.K (.ref f)=true) (hb:Binds X.K fd ps ds) (hd:Vals dvs ds) (hx:rX CX X E)
  (hdb:(x == ("__debug__":Str))=false:=by decide):PE X (.Call (.Name x p) [] [] pos) (jU sp dvs E eG):=by
 intro pins s σ H Q I h;refine wpAny_Call_Name_kw (sO I hg hm ?_ hdb);exact W.callWith_K0 I.kIn hk (BC (us:=[]) F hr hb hd hx I .nil h)
end
section
variable {X:Cx} {CX:CXT} {k:Nat} {f C:Addr} {fd:FuncData} {ps ks:List Str} {sp:Sp} {E:XK} {x m:Str} {p pos apos kpos:Pos} {e o:Expr} {es:List Expr} {kws:List Keyword} {te ta:TE} {t tk:TA} {nm:Option Str}
variable {g:List Value->List Value->List Value} {gV:List V->List V->List V}
end
structure FnScope (N P:List Str) (sc:Scope):Prop where
 kind:sc.kind=.function
 co:sc.isCoroutine=false
 gen:sc.isGenerator=false
 nd:N.Nodup
 pre:N.take P.length=P
 par:∀ x ∈ P,sc.names.lookup x=some .local\/sc.names.lookup x=some .cell
 nofree:∀ y ∈ sc.names,y.2≠.free
theorem FnScope.sc0 {N P:List Str} {sc:Scope} (a:sc.kind=.function:=by rfl) (b:sc.isCoroutine=false:=by rfl) (c:sc.isGenerator=false:=by rfl) (d:N.Nodup:=by decide +kernel) (e:N.take P.length=P:=by rfl) (f:∀ x ∈ P,sc.names.lookup x=some .local\/sc.names.lookup x=some .cell:=by decide +kernel) (g:∀ y ∈ sc.names,y.2≠.free:=by decide +kernel):FnScope N P sc:=⟨a,b,c,d,e,f,g⟩
variable {kindOf:Str->Option NameKind} {x:Str}
theorem qU:∀ {binds:List (Str × Value)} {m:Str->Option Value},(∀ v,(x,v) ∉ binds)->bindL kindOf binds m x=m x
 | [],_,_=>rfl
 | (n,v)::r,m,h=>by
  unfold bindL;rw [qU λw hw=>h w (List.mem_cons_of_mem _ hw)];split
  ·have:x≠n:=by rintro rfl;exact h v List.mem_cons_self
   simp [this]
  ·rfl
theorem qS:∀ {binds:List (Str × Value)} {m:Str->Option Value},(∀ v,(x,v) ∉ binds)->bindC kindOf binds m x=m x
 | [],_,_=>rfl
 | (n,v)::r,m,h=>by
  unfold bindC;rw [qS λw hw=>h w (List.mem_cons_of_mem _ hw)];split
  ·rfl
  ·have:x≠n:=by rintro rfl;exact h v List.mem_cons_self
   simp [this]
variable {v:Value}
theorem qT:∀ {P:List Str} {vs:List Value} {i:Nat} {m:Str->Option Value},P.Nodup->P[i]?=some x->vs[i]?=some v->kindOf x=some .local ->
  bindL kindOf (P.zip vs) m x=some v
 | [],_,_,_,_,h,_,_=>by simp at h
 | _::_,[],_,_,_,_,h,_=>by simp at h
 | p::P,w::vs,0,m,nd,h1,h2,hk=>by simp at h1 h2;subst h1;subst h2;show bindL kindOf ((p,w)::P.zip vs) m p=_;unfold bindL;rw [qU λv hv=>(List.nodup_cons.mp nd).1 (List.of_mem_zip hv).1,if_pos hk];simp
 | p::P,w::vs,i+1,m,nd,h1,h2,hk=>by show bindL kindOf ((p,w)::P.zip vs) m x=_;unfold bindL;exact qT (i:=i) (List.nodup_cons.mp nd).2 (by simpa using h1) (by simpa using h2) hk
theorem qR:∀ {P:List Str} {vs:List Value} {i:Nat} {m:Str->Option Value},P.Nodup->P[i]?=some x->vs[i]?=some v->kindOf x≠some .local ->
  bindC kindOf (P.zip vs) m x=some v
 | [],_,_,_,_,h,_,_=>by simp at h
 | _::_,[],_,_,_,_,h,_=>by simp at h
 | p::P,w::vs,0,m,nd,h1,h2,hk=>by simp at h1 h2;subst h1;subst h2;show bindC kindOf ((p,w)::P.zip vs) m p=_;unfold bindC;rw [qS λv hv=>(List.nodup_cons.mp nd).1 (List.of_mem_zip hv).1,if_neg hk];simp
 | p::P,w::vs,i+1,m,nd,h1,h2,hk=>by show bindC kindOf ((p,w)::P.zip vs) m x=_;unfold bindC;exact qR (i:=i) (List.nodup_cons.mp nd).2 (by simpa using h1) (by simpa using h2) hk
noncomputable def f7 (N:List Str) (vs:List V):St:=vs.map some++List.replicate (N.length - vs.length) none
noncomputable def yv (CX:CXT) (P:Program) (w:World) (K:W.Frag) (mg:Str->Option Value) (base:Heap) (N:List Str) (qual:Str) (scope:Scope) (f:Addr) (cd:Value) (A:Around) (outer:List Env) (s:Shared) (H:Hp) (E:XK):Cx where
 prog:=P
 w:=w
 K:=K
 mg:=mg
 base:=base
 A:=A.deeper (envOfC qual scope s.heap.objs.size f cd)
 N:=N
 s₀:=s
 H₀:=H
 env:=envOfC qual scope s.heap.objs.size f cd
 outer:=outer
 stack:=envOfC qual scope s.heap.objs.size f cd::outer
 ex:=[]
 calm:=true
 fn:=λ_=>true
 pn:=[]
 xe:=λe s'=>wpAny (model P w) (A.deeper (envOfC qual scope s.heap.objs.size f cd)) (leaving (envOfC qual scope s.heap.objs.size f cd) e) (λ_ s''=>CX outer H s E e s'') (λe' s''=>CX outer H s E e' s'') s'
theorem uw {sc:Scope} (h:sc.names.lookup x=some .cell):∃ c,(cellsFrom n sc.names []).lookup x=some c:=by have q:=W.cellsFrom_some sc.names n [] (.inl h);exact Option.isSome_iff_exists.mp q
variable {N:List Str} {qual:Str} {scope:Scope}
theorem yC {cd:Value} {outer:List Env} {s1:Shared} {E:XK} {vs:List V}
  (S:FnScope N ps scope) (hd:A.handled=none) (e0:B6 P w K mg base A outer s H) (hl:vs.length=ps.length) (r:Vals vs us)
  (x:InCallC s s.heap.objs.size (bindL (envOfC qual scope s.heap.objs.size f cd).kindOf (ps.zip us) λ_=>none) (cellsFrom (s.heap.objs.size+1) scope.names []) (bindC (envOfC qual scope s.heap.objs.size f cd).kindOf (ps.zip us) λ_=>none) s1) :
  Inv (yv CX P w K mg base N qual scope f cd A outer s H E) [] (f7 N vs) H s1:=by
 have hpl:ps.length<=N.length:=by have:=congrArg List.length S.pre;rw [List.length_take] at this;omega
 obtain ⟨h1,tk,rfl,hk⟩:=x.done;have noA:∀ b:Addr,b ∉ (yv CX P w K mg base N qual scope f cd A outer s H E).ex:=λb z=>absurd (show b ∈ ([]:List Addr) from z) (by simp)
 refine ⟨⟨e0.mod,S.kind,rfl,rfl,Nat.le_refl _,λy z c h1 h2=>?_,λy hy=>?_,λy c _ h=>?_,λ_=>hd,Around.frames_deeper e0.frames,.inr ⟨rfl,rfl⟩,λb z=>absurd z (noA b),e0.bs,e0.bsz,λb _ _=>noA b,λb z=>absurd z (noA b),e0.funs,e0.frf⟩,
  rfl,e0.bare,Un.kept hk,⟨_,x.toInCall.ns,λi y v h1 h2 h3=>?_⟩,λy c h=>⟨_,x.cell y c h⟩,e0.hok.fresh (Nat.le_refl _),λy c h=>?_,λp hp=>absurd (show p ∈ ([]:List (Addr × Obj)) from hp) (by simp),e0.hok.kept hk,?_⟩
 ·exact name_of_addr x.apart (PySem.mem_of_lookup h1) (PySem.mem_of_lookup h2)
 ·have hy:scope.names.lookup y=some .cell\/scope.names.lookup y=some .free:=hy;rcases hy with hy | hy
  ·exact uw hy
  ·exact absurd rfl (S.nofree _ (PySem.mem_of_lookup hy))
 ·exact Nat.le_of_lt (x.above y c (PySem.mem_of_lookup h))
 ·have hi:i < vs.length:=by
   unfold f7 at h2;by_cases hi:i < vs.length
   ·exact hi
   ·rw [List.getElem?_append_right (by simpa using hi)] at h2;rw [List.getElem?_replicate] at h2;split at h2 <;> cases h2
  have ha:vs[i]?=some v:=by
   unfold f7 at h2;rw [List.getElem?_append_left (by simpa using hi),List.getElem?_map] at h2
   cases e:vs[i]? with
   | none=>rw [e] at h2;cases h2
   | some a=>rw [e] at h2;cases h2;rfl
  obtain ⟨u,hu,rv⟩:=r.get ha
  have hp:ps[i]?=some y:=by rw [<- S.pre,List.getElem?_take_of_lt (by omega)];exact h1
  have ndP:ps.Nodup:=by rw [<- S.pre];exact S.nd.sublist (List.take_sublist _ _)
  refine ⟨u,rv,?_⟩;rcases S.par y (List.mem_of_getElem? hp) with k | k
  ·exact .inl ⟨k,qT ndP hp hu k⟩
  ·obtain ⟨c,e⟩:=uw (n:=s.heap.objs.size+1) k;refine .inr ⟨.inl k,c,e,?_⟩;have q:=x.cell y c e;rw [qR ndP hp hu (by show scope.names.lookup y≠_;rw [k];decide)] at q;exact q
 ·exact e0.hok.fresh (Nat.le_of_lt (x.above y c (PySem.mem_of_lookup h)))
 ·unfold f7;show _=N.length;rw [List.length_append,List.length_map,List.length_replicate];omega
theorem FR {k:Nat} {name:Str} {params:Arguments} {body:List Stmt} {dV kV doc pm cdv ct oc:Value} {an od:Option Addr} {osl:Array (Option Value)} (lk:K.lookup f=some ⟨oc,od,.func (W.fnOf name qual params body scope dV kV doc pm an cdv ct),osl⟩) (hcd:W.codeIn K cdv qual=true) (S:FnScope N ps scope)
  (len:∀ vs H Q E,sp vs H Q E->vs.length=ps.length)
  (hbody:∀ (A:Around) (outer:List Env) (s:Shared) (H:Hp) (vs:List V) (Q:VK) (E:XK),Room k (A.deeper (envOfC qual scope s.heap.objs.size f cdv))->sp vs H Q E ->
   ∃ t,PSs (yv CX P w K mg base N qual scope f cdv A outer s H E) body t/\t { nx:=λ_ H'=>Q .non H',rt:=Q } (f7 N vs) H) :
  FnOk P w K mg base CX (k+1) f (W.fnOf name qual params body scope dV kV doc pm an cdv ct) ps sp:=by
 refine ⟨len,λA outer s H args us vs Q E hr e0 hb r hsp=>?_⟩;have hl:=len _ _ _ _ hsp;have KX:K.In s.heap:=e0.mod.kin.keeps λb o e=>(e0.bs b o e).1;have lim:s.heap.NoLimit:=e0.mod.nolimit.keeps λb o e=>(e0.bs b o e).1
 have hkind:∀ y ∈ ps.zip us,scope.names.lookup y.1=some .local\/(scope.names.lookup y.1=some .cell/\((cellsFrom (s.heap.objs.size+1) scope.names []).lookup y.1).isSome=true):=λ⟨n,v⟩ hy=>by
  rcases S.par n (List.of_mem_zip hy).1 with q | q
  ·exact .inl q
  ·exact .inr ⟨q,W.cellsFrom_some _ _ _ (.inl q)⟩
 refine codeAny_call_function hr.depth (KX _ _ lk) rfl S.co S.gen rfl (W.codeRec_of KX hcd) (hb _ _ _ _ ?_);refine wpAny_newFunctionEnv_cells S.kind hkind λenv he s1 x=>?_;subst he;refine ⟨lim.keeps x.toInCall.keep,codeAny_func ?_⟩;obtain ⟨t,ht,hq⟩:=hbody A outer s H vs Q E (hr.deeper _) hsp;have I:Inv (yv CX P w K mg base N qual scope f cdv A outer s H E) [] (f7 N vs) H s1:=yC S hr.hd e0 hl r x;refine wpAny_mono (ht [] s1 (f7 N vs) H _ I hq) (λfl s' hs=>?_) λe s' hs=>hs
 have fin:∀ {σ':St} {H':Hp} {v:V} {u:Value},Inv (yv CX P w K mg base N qual scope f cdv A outer s H E) [] σ' H' s'->RelV v u->Q v H'->CE outer P w H s Q u s' :=
  λ{σ' H' v u} J rv q=>⟨v,H',J.os,J.bare,J.base,J.hok,rv,q⟩
 cases fl with
 | ret u =>obtain ⟨v,σ',H',J,rv,q⟩:=hs;exact fin J rv q
 | next =>obtain ⟨σ',H',J,q⟩:=hs;exact fin (v:=V.non) (u:=Value.none) J rfl q
 | brk =>obtain ⟨_,_,_,q⟩:=hs;exact False.elim q
 | cont =>obtain ⟨_,_,_,q⟩:=hs;exact False.elim q
section
variable {X:Cx} {x:Str} {p pos:Pos} {e:Expr} {es:List Expr} {t:TA} {id T:String} {r:List V->Hp->VK->Prop}
def tCB (r:List V->Hp->VK->Prop) (t:TA):TE:=λσ H Q=>t σ H λvs H1=>r vs H1 Q
theorem a6 (hc:jD X (.builtin id) r) (hg:Gl X x) (hm:X.mg x=none) (hv:bootBuiltins x=some (.builtin id)) (ha:PA X (e::es) t) (hn:x≠"__name__":=by decide) (hdb:(x == ("__debug__":Str))=false:=by decide)
  (he:starEach (e::es) X.env=(false,eval e X.env)::starEach es X.env:=by rfl) (hpl:(backTo pos (starEach es X.env)).any (·.1)=false:=by rfl):PE X (.Call (.Name x p) (e::es) [] pos) (tCB r t):=by
 intro pins s σ H Q I h;refine wpAny_Call_Name_kw (kH I hg hm hv ?_ hn hdb);exact PyProof.Rows.callWith_builtin1 (thn (ha pos pins s σ H _ I h) λus s1 ⟨vs,H1,I1,r1,q1⟩=>hc pins s1 σ H1 vs us Q I1 r1 q1) he hpl
theorem dQ (hc:jD X (.type T) r) (hg:Gl X x) (hm:X.mg x=none) (hv:bootBuiltins x=some (.type T)) (ha:PA X (e::es) t) (hn:x≠"__name__":=by decide) (hdb:(x == ("__debug__":Str))=false:=by decide)
  (he:starEach (e::es) X.env=(false,eval e X.env)::starEach es X.env:=by rfl) (hpl:(backTo pos (starEach es X.env)).any (·.1)=false:=by rfl):PE X (.Call (.Name x p) (e::es) [] pos) (tCB r t):=by
 intro pins s σ H Q I h;refine wpAny_Call_Name_kw (kH I hg hm hv ?_ hn hdb);exact PyProof.Rows.callWith_type1 (thn (ha pos pins s σ H _ I h) λus s1 ⟨vs,H1,I1,r1,q1⟩=>hc pins s1 σ H1 vs us Q I1 r1 q1) he hpl
end
end L2
namespace HT
open PySem PyProof.Rows
section
open PySem.SeqAt
open PySem.AutoSeq1 (wpAny_loadPart')
open PySem.MeetsSeq PySem.MeetsSeq2 PySem.MeetsSeq3
end
section
variable {prog:Program} {w:World} {A:Around} {E:Value->Shared->Prop} {s:Shared}
variable {t:Addr}
theorem cat_tup {b:Addr} {vs ws:List Value} {Q:Value->Shared->Prop} (ht:IsTup s.heap t vs.toArray) (hb:IsTup s.heap b ws.toArray) (hv:vs≠[])
  (h1:ws=[]->Q (.ref t) s) (h2:ws≠[]->Q (.ref s.heap.objs.size) { s with heap:=s.heap.push { cls:=.type "tuple",data:=.seq (vs++ws).toArray } })
  (hsz:vs.length+ws.length<=sizeLine):wpAny (model prog w) A (binaryOp .Add (.ref t) (.ref b)) Q E s:=by
 obtain ⟨⟨cls,dd,data,sl⟩,ho,hc,n,hd⟩:=id ht;obtain ⟨⟨cls2,dd2,data2,sl2⟩,ho2,hc2,n2,hd2⟩:=id hb;simp only at hc hd hc2 hd2;subst hc hd hc2 hd2;have e:vs.toArray++ws.toArray=(vs++ws).toArray:=by simp
 by_cases hw:ws=[]
 ·exact concat_meets ⟨_,ho,rfl⟩ ⟨_,ho2,rfl⟩ noFill_tuple_add seq_tuple_add F.slot_tuple_add F.entry_tuple_add (F.args_tuple_add_2 _ _)
   (tuple_addW1 t b vs.toArray ws.toArray n n2 dd dd2 sl sl2 (by simpa using hv) (by simp [hw])) ⟨ho,ho2,h1 hw⟩
 ·refine concat_meets ⟨_,ho,rfl⟩ ⟨_,ho2,rfl⟩ noFill_tuple_add seq_tuple_add F.slot_tuple_add F.entry_tuple_add (F.args_tuple_add_2 _ _)
   (tuple_addW2 t b vs.toArray ws.toArray n n2 dd dd2 sl sl2 (by simpa using hv) (by simpa using hw) (by rw [List.size_toArray,List.size_toArray];exact hsz)) ⟨ho,ho2,?_⟩
  rw [e];exact h2 hw
noncomputable def sIx (n d:Nat):Option Int->Nat
 | none=>d
 | some v=>if v < 0 then (v+(n:Int)).toNat else min v.toNat n
theorem sIx_none (n d:Nat):sIx n d none=d:=rfl
theorem sIx_nat (n d k:Nat):sIx n d (some (k:Int))=min k n:=by show (if (k:Int) < 0 then ((k:Int)+(n:Int)).toNat else min (k:Int).toNat n)=min k n;rw [if_neg (by omega),Int.toNat_natCast]
theorem Fu (n d:Nat) (hd:d<=n) (o:Option Int):sIx n d o<=n:=by
 cases o with
 | none=>exact hd
 | some v =>
  show (if v < 0 then (v+(n:Int)).toNat else min v.toNat n)<=n;by_cases hv:v < 0
  ·rw [if_pos hv];omega
  ·rw [if_neg hv];exact Nat.min_le_right _ _
theorem xy (v:Int) (n d:Nat):(if v < 0 then max (v+(n:Int)) 0 else min v (n:Int))=((sIx n d (some v):Nat):Int):=by
 show (if v < 0 then max (v+(n:Int)) 0 else min v (n:Int))=(((if v < 0 then (v+(n:Int)).toNat else min v.toNat n):Nat):Int)
 by_cases hv:v < 0
 ·simp only [if_pos hv];omega
 ·simp only [if_neg hv];omega
theorem wc (lo hi:Option Int) (n:Nat):Builtin.Slice.sliceAdjust lo hi 1 (n:Int)=(((sIx n 0 lo:Nat):Int),((sIx n n hi:Nat):Int)):=by
 have h1:¬ ((1:Int) < 0):=by omega
 unfold Builtin.Slice.sliceAdjust;simp only [h1,if_false];refine Prod.ext ?_ ?_
 ·cases lo with
  | none=>rfl
  | some v=>exact xy v n 0
 ·cases hi with
  | none=>rfl
  | some v=>exact xy v n n
theorem wQ (i j:Nat):Builtin.Slice.slicePlaces (i:Int) (j:Int) 1=j - i:=by
 unfold Builtin.Slice.slicePlaces;have h1:(1:Int) > 0:=by omega
 simp only [h1,if_true,Int.ediv_one];split <;> omega
theorem ql {v:Value} {o:Option Int} {Q:Option Int->Shared->Prop} (p:IsPart v o) (h:Q o s):wpAny (model prog w) A (Builtin.Slice.slicePartIndex v) Q E s:=by
 cases p with
 | none=>exact slicePart_none h
 | int i t=>exact slicePart_int h
variable {sl:Addr} {vl vu:Value} {lo hi:Option Int}
theorem nP {n:Nat} {Q:Int × Int × Nat->Shared->Prop} (hs:s.heap.IsSliceOf sl vl vu .none) (pl:IsPart vl lo) (pu:IsPart vu hi)
  (h:Q (((sIx n 0 lo:Nat):Int),1,sIx n n hi - sIx n 0 lo) s):wpAny (model prog w) A (Builtin.Slice.sliceApplied (.ref sl) (pure (n:Int))) Q E s:=by
 obtain ⟨os,hos,hcs,hds⟩:=id hs;unfold Builtin.Slice.sliceApplied Builtin.Slice.sliceFields;refine wpAny_bind (wpAny_bind (wpAny_field hos hds (x:=vl) rfl (wpAny_bind (wpAny_field hos hds (x:=vu) rfl (wpAny_bind (wpAny_field hos hds (x:=.none) rfl (wpAny_pure ?_)))))));refine wpAny_bind (slicePart_none ?_);show wpAny _ _ (if ((1:Int) == 0)=true then _ else _) _ _ s;rw [if_neg (by decide)];refine wpAny_bind (ql pl (wpAny_bind (ql pu (wpAny_bind (wpAny_pure ?_)))));show wpAny _ _ (match Builtin.Slice.sliceAdjust lo hi 1 (n:Int) with | (lo,hi)=>pure (lo,(1:Int),Builtin.Slice.slicePlaces lo hi 1)) _ _ s;rw [wc lo hi n];show wpAny _ _ (pure (((sIx n 0 lo:Nat):Int),(1:Int),Builtin.Slice.slicePlaces ((sIx n 0 lo:Nat):Int) ((sIx n n hi:Nat):Int) 1)) _ _ s;rw [wQ];exact wpAny_pure h
theorem Ba (xs:Array Value) (i k:Nat):((List.range k).filterMap λ(m:Nat)=>xs[((i:Int)+(m:Int) * 1).toNat]?).toArray=((xs.toList.drop i).take k).toArray:=by
 have e:(λ(m:Nat)=>xs[((i:Int)+(m:Int) * 1).toNat]?)=λm=>xs[i+m]?:=by
  funext m
  have:((i:Int)+(m:Int) * 1).toNat=i+m:=by omega
  rw [this]
 rw [e];have:=pick_run xs i k;rw [List.filterMap_map] at this;have e2:((λx=>xs[x]?) ∘ λx=>i+x)=λm=>xs[i+m]?:=rfl;rw [e2] at this;rw [this]
theorem getItem_tuple_cut {items:Array Value} {Q:Value->Shared->Prop} (ht:IsTup s.heap t items) (hs:s.heap.IsSliceOf sl vl vu .none) (pl:IsPart vl lo) (pu:IsPart vu hi)
  (hw:¬ (sIx items.size 0 lo=0/\sIx items.size items.size hi=items.size))
  (h:Q (.ref s.heap.objs.size) { s with heap:=s.heap.push { cls:=.type "tuple",data:=.seq ((items.toList.drop (sIx items.size 0 lo)).take (sIx items.size items.size hi - sIx items.size 0 lo)).toArray } })
  (hsz:items.size<=sizeLine):wpAny (model prog w) A (getItem (.ref t) (.ref sl)) Q E s:=by
 have htake:sizeOk (.seq ((items.toList.drop (sIx items.size 0 lo)).take (sIx items.size items.size hi - sIx items.size 0 lo)).toArray):=by show ((items.toList.drop (sIx items.size 0 lo)).take (sIx items.size items.size hi - sIx items.size 0 lo)).toArray.size<=sizeLine;rw [List.size_toArray,List.length_take,List.length_drop,Array.length_toList];omega
 have hj:sIx items.size items.size hi<=items.size:=Fu _ _ (Nat.le_refl _) hi;obtain ⟨os,hos,hcs,hds⟩:=id hs;have hTs:s.TypeIs (.ref sl) "slice":=⟨os,hos,hcs⟩
 unfold getItem
 try with_reducible refine wpAny_holding ?_
 first | refine wpAny_bind (wpAny_pure ?_) | skip
 refine wpAny_bind (wpAny_sequenceKey ht.typeIs (by decide) ?_)
 refine wpAny_bind (wpAny_callSpecial?_slot (name:=Str.ofString "__getitem__") ht.typeIs PyProof.Rows.slot_tuple_getitem
  (wpAny_call_entry PyProof.Rows.slot_tuple_getitem ht.typeIs entry_tuple_getitem ?_ (args_tuple_getitem _ _)))
 show wpAny _ _ (Builtin.Tuple.tupleItemsOf (.ref t) >>= _) _ _ s;refine wpAny_bind (tupleItemsOf_ ht ?_);refine wpAny_bind (wpAny_typeOf hTs ?_);rw [if_pos (by decide)];refine wpAny_bind (nP hs pl pu ?_)
 have hno:¬ ((((sIx items.size 0 lo:Nat):Int) == 0 && (1:Int) == 1 && (sIx items.size items.size hi - sIx items.size 0 lo) == items.size)=true):=by intro q;rw [Bool.and_eq_true,Bool.and_eq_true] at q;have q1:((sIx items.size 0 lo:Nat):Int)=0:=eq_of_beq q.1.1;have q2:sIx items.size items.size hi - sIx items.size 0 lo=items.size:=eq_of_beq q.2;exact hw ⟨by omega,by omega⟩
 show wpAny _ _ (if (((sIx items.size 0 lo:Nat):Int) == 0 && (1:Int) == 1 && (sIx items.size items.size hi - sIx items.size 0 lo) == items.size)=true then _ else _) _ _ s;rw [if_neg hno,Ba]
 first
  | exact wpAny_bind (m:=Builtin.Tuple.tupleExact _) (wpAny_newObj_type (wpAny_pure ⟨_,rfl,wpAny_pure h⟩) htake)
  | exact wpAny_bind (m:=Builtin.Tuple.tupleExact _) (wpAny_newObj_type (wpAny_bind (wpAny_pure (wpAny_pure ⟨_,rfl,wpAny_pure h⟩))) htake)
  | exact wpAny_bind (wpAny_bind (m:=Builtin.Tuple.tupleExact _) (wpAny_newObj_type (wpAny_pure (wpAny_pure ⟨_,rfl,wpAny_pure h⟩)) htake))
  | exact wpAny_bind (wpAny_bind (m:=Builtin.Tuple.tupleExact _) (wpAny_newObj_type (wpAny_pure ⟨_,rfl,wpAny_pure h⟩) htake))
end
end HT
namespace L2
open PySem PySem.Spec PyProof.Rows
abbrev TO:=St->Hp->(Option Int->Hp->Prop)->Prop
def PO (X:Cx) (e:Option Expr) (t:TO):Prop :=
 ∀ (pins:List (Addr × Obj)) (s:Shared) (σ:St) (H:Hp) (Q:Option Int->Hp->Prop),Inv X pins σ H s->t σ H Q ->
  wpAny (model X.prog X.w) X.A (evalPart e X.env) (λu s'=>∃ o H',Inv X pins σ H' s'/\IsPart u o/\Q o H') X.xe s
noncomputable def ym:TO:=λ_ H Q=>Q none H
noncomputable def rS (t:TE):TO:=λσ H Q=>t σ H λx H1=>∃ i,x=.int i/\Q (some i) H1
section
variable {X:Cx} {e:Expr} {te:TE} {lo hi:Option Expr} {tl th:TO} {pos p2:Pos}
theorem mK:PO X none ym:=by intro pins s σ H Q I h;rw [evalPart_none];exact wpAny_pure ⟨none,H,I,.none,h⟩
theorem i4 (h:PE X e te):PO X (some e) (rS te):=by intro pins s σ H Q I hw;rw [evalPart_some];refine thn (h pins s σ H _ I hw) λu s1 ⟨x,H1,I1,r1,q1⟩=>?_;obtain ⟨i,rfl,q⟩:=q1;obtain ⟨t,rfl⟩:=r1;exact ⟨some i,H1,I1,.int i t,q⟩
def SlR (X:Cx) (r:V->Option Int->Option Int->Hp->VK->Prop):Prop :=
 ∀ (pins:List (Addr × Obj)) (s:Shared) (σ:St) (H:Hp) (x:V) (v vl vu:Value) (lo hi:Option Int) (sl:Addr) (Q:VK),Inv X pins σ H s->RelV x v->s.heap.IsSliceOf sl vl vu .none->IsPart vl lo->IsPart vu hi->r x lo hi H Q ->
  ∃ T id,typeLookup (.type T) "__getitem__"=pure (some (.builtin id))/\s.TypeIs v T/\wpAny (model X.prog X.w) X.A (getItem v (.ref sl)) (EP X pins σ Q) X.xe s
def tSl (r:V->Option Int->Option Int->Hp->VK->Prop) (te:TE) (tl th:TO):TE:=λσ H Q=>te σ H λx H1=>tl σ H1 λl H2=>th σ H2 λu H3=>r x l u H3 Q
theorem ji {r:V->Option Int->Option Int->Hp->VK->Prop} (hr:SlR X r) (he:PE X e te) (hl:PO X lo tl) (hu:PO X hi th):PE X (.Subscript e (.Slice lo hi none p2) pos) (tSl r te tl th):=by intro pins s σ H Q I h;refine Subscript_ (thn (he pins s σ H _ I h) λv s1 ⟨x,H1,I1,r1,q1⟩=>?_);refine wpAny_Slice (thn (hl pins s1 σ H1 _ I1 q1) λvl s2 ⟨l,H2,I2,pl,q2⟩=>thn (hu pins s2 σ H2 _ I2 q2) λvu s3 ⟨u,H3,I3,pu,q3⟩=>?_);rw [evalPart_none];refine wpAny_pure ?_;have I4:Inv X pins σ H3 { s3 with heap:=s3.heap.push { cls:=.type "slice",data:=.fields #[vl,vu,.none] } }:=I3.kept (t':=s3.toks) λb ob q=>Heap.get?_push_of_some _ q;obtain ⟨T,id,hT,ht,hg⟩:=hr pins { s3 with heap:=s3.heap.push { cls:=.type "slice",data:=.fields #[vl,vu,.none] } } σ H3 x v vl vu l u s3.heap.objs.size Q I4 r1 (Heap.IsSliceOf.new ..) pl pu q3;show wpAny (model X.prog X.w) X.A (subscriptTail e (.Slice lo hi none p2) v (.ref s3.heap.objs.size)) (EP X pins σ Q) X.xe { s3 with heap:=s3.heap.push { cls:=.type "slice",data:=.fields #[vl,vu,.none] } };exact tail_any (ops:=[.ref s3.heap.objs.size,v]) ht hT hg (by with_unfolding_all rfl)
noncomputable def qC (xs:List V) (lo hi:Option Int):List V:=(xs.drop (HT.sIx xs.length 0 lo)).take (HT.sIx xs.length xs.length hi - HT.sIx xs.length 0 lo)
theorem nU (xs:List V) (lo hi:Option Int):(qC xs lo hi).length<=xs.length:=by unfold qC;rw [List.length_take,List.length_drop];omega
def Fj (K:W.Frag):V->Option Int->Option Int->Hp->VK->Prop:=λx lo hi H Q=>∃ a xs,x=.ref a/\SqT K H a xs /\
 ¬ (HT.sIx xs.length 0 lo=0/\HT.sIx xs.length xs.length hi=xs.length)/\∀ p,H p=none->Q (.ref p) (upd H p (.tup (qC xs lo hi)))
theorem nO:SlR X (Fj X.K):=by
 intro pins s σ H x v vl vu lo hi sl Q I rx hs pl pu h;obtain ⟨a,xs,rfl,hx,hw,q⟩:=h;cases rx;obtain ⟨its,r,ht,hz⟩:=I.tuple hx;have hlen:its.toArray.size=xs.length:=by rw [List.size_toArray];exact r.length.symm
 refine ⟨"tuple",_,PyProof.Rows.slot_tuple_getitem.lookup,ht.typeIs,?_⟩;refine HT.getItem_tuple_cut ht hs pl pu (by rw [hlen];exact hw) ?_ (by rw [hlen];exact hz);rw [hlen];refine ⟨.ref s.heap.objs.size,_,I.laid (t':=s.toks) (o:=.tup (qC xs lo hi)) (λb ob q=>Heap.get?_push_of_some _ q) (Nat.le_refl _) ?_,rfl,q _ (I.hok.fresh (Nat.le_refl _))⟩;exact ⟨Nat.le_trans (nU xs lo hi) hz,_,(r.drop (HT.sIx xs.length 0 lo)).take (HT.sIx xs.length xs.length hi - HT.sIx xs.length 0 lo),IsTup.new _ _⟩
noncomputable def F5 (K:W.Frag):R2:=λx y H Q=>∃ a b xs ys,x=.ref a/\y=.ref b/\SqT K H a xs/\SqT K H b ys/\xs≠[]/\xs.length+ys.length<=sizeLine /\
 (ys=[]->Q (.ref a) H)/\(ys≠[]->∀ p,H p=none->Q (.ref p) (upd H p (.tup (xs++ys))))
theorem Vals.nil_iff {xs:List V} {us:List Value} (r:Vals xs us):us=[]↔xs=[]:=by
 cases r with
 | nil=>simp
 | cons _ _=>simp
theorem C4:OpR X (binaryOp .Add) (F5 X.K):=by intro pins s σ H x y v u Q I rx ry h;obtain ⟨a,b,xs,ys,rfl,rfl,ha,hb,hx,hz,q1,q2⟩:=h;cases rx;cases ry;obtain ⟨its,r1,p1,_⟩:=I.tuple ha;obtain ⟨its2,r2,p2,_⟩:=I.tuple hb;refine HT.cat_tup p1 p2 (λz=>hx (r1.nil_iff.mp z)) (λz=>⟨.ref a,H,I,rfl,q1 (r2.nil_iff.mp z)⟩) (λz=>?_) (by rw [<- r1.length,<- r2.length];exact hz);refine ⟨.ref s.heap.objs.size,_,I.laid (t':=s.toks) (o:=.tup (xs++ys)) (λb ob q=>Heap.get?_push_of_some _ q) (Nat.le_refl _) ?_,rfl,q2 (λw=>z (r2.nil_iff.mpr w)) _ (I.hok.fresh (Nat.le_refl _))⟩;exact ⟨by rw [List.length_append];exact hz,_,r1.append r2,IsTup.new _ _⟩
end
noncomputable def ixN (n:Nat) (i:Int):Option Nat:=if 0<=i then (if i < n then some i.toNat else none) else if -(n:Int)<=i then some (i+n).toNat else none
noncomputable def atI {α:Type} (xs:List α) (i:Int):Option α:=(ixN xs.length i).bind λj=>xs[j]?
variable {i:Int} {j:Nat}
theorem xQ {n:Nat} (h:ixN n i=some j):seqIndex? i n=some j/\j < n/\-(n:Int)<=i/\i < n:=by
 unfold ixN at h;by_cases h0:0<=i
 ·rw [if_pos h0] at h;by_cases h1:i < n
  ·rw [if_pos h1] at h;have e:i.toNat=j:=Option.some.inj h;exact ⟨by rw [seqIndex_of h0 h1,e],by omega,by omega,h1⟩
  ·rw [if_neg h1] at h;cases h
 ·rw [if_neg h0] at h;by_cases h1:-(n:Int)<=i
  ·rw [if_pos h1] at h;have e:(i+n).toNat=j:=Option.some.inj h;exact ⟨by rw [seqIndex_neg (by omega) h1,e],by omega,h1,by omega⟩
  ·rw [if_neg h1] at h;cases h
theorem xu {α:Type} {xs:List α} {v:α} (h:atI xs i=some v):∃ j,seqIndex? i xs.length=some j/\xs[j]?=some v/\j < xs.length/\-(xs.length:Int)<=i/\i < xs.length:=by
 unfold atI at h
 cases e:ixN xs.length i with
 | none=>rw [e] at h;cases h
 | some j =>rw [e] at h;obtain ⟨h1,h2,h3,h4⟩:=xQ e;exact ⟨j,h1,h,h2,h3,h4⟩
theorem i0 {α:Type} {xs:List α} {v:α} (h:xs[j]?=some v):atI xs (j:Int)=some v:=by
 have hj:j < xs.length:=(List.getElem?_eq_some_iff.mp h).1
 have e:ixN xs.length (j:Int)=some j:=by unfold ixN;rw [if_pos (by omega),if_pos (by omega)];simp
 unfold atI;rw [e];exact h
theorem zN {α:Type} (xs:List α) (v:α):atI (xs++[v]) (-1)=some v:=by
 have hl:(xs++[v]).length=xs.length+1:=by simp
 have e:ixN (xs++[v]).length (-1)=some xs.length:=by unfold ixN;rw [hl,if_neg (by decide),if_pos (by omega)];congr 1;omega
 unfold atI;rw [e];show (xs++[v])[xs.length]?=some v;simp
def B8 (b:Expr):Prop:=∀ o i,subscripted b false o i=operate [o,i] (getItem o i)
def IxR (X:Cx) (r:R2):Prop :=
 ∀ (value slice:Expr) (pins:List (Addr × Obj)) (s:Shared) (σ:St) (H:Hp) (x y:V) (v u:Value) (Q:VK),Inv X pins σ H s->RelV x v->RelV y u->r x y H Q ->
  subscripted slice false v u=operate [v,u] (getItem v u)->wpAny (model X.prog X.w) X.A (subscriptTail value slice v u) (EP X pins σ Q) X.xe s
def MtR (X:Cx) (id:String) (r:V->List V->Hp->VK->Prop):Prop :=
 ∀ (pins:List (Addr × Obj)) (s:Shared) (σ:St) (H:Hp) (x:V) (xs:List V) (v:Value) (us:List Value) (Q:VK),Inv X pins σ H s->RelV x v->Vals xs us->r x xs H Q ->
  wpAny (model X.prog X.w) X.A (call (.builtin id) (v::us)) (EP X pins σ Q) X.xe s
section
variable {X:Cx} {a b:Expr} {ta tb:TE} {pos:Pos}
theorem aT {r:R2} (hr:IxR X r) (ha:PE X a ta) (hb:PE X b tb) (hs:B8 b:=by exact λ_ _=>rfl):PE X (.Subscript a b pos) (tOp r ta tb):=by intro pins s σ H Q I h;exact Subscript_ (Ez ha hb I h λv u s2 x y H2 I2 rx ry q=>hr a b pins s2 σ H2 x y v u Q I2 rx ry q (hs _ _))
noncomputable def wU (K:W.Frag):R2:=λx y H Q=>∃ p xs i v,x=.ref p/\y=.int i/\SqL K H p xs/\atI xs i=some v/\Q v H
noncomputable def mN (K:W.Frag):R2:=λx y H Q=>∃ p xs i v,x=.ref p/\y=.int i/\SqT K H p xs/\atI xs i=some v/\Q v H
theorem bP:IxR X (wU X.K):=by
 intro value slice pins s σ H x y v u Q I rx ry h hs;obtain ⟨p,xs,i,z,rfl,rfl,hq,he,q⟩:=h;cases rx;obtain ⟨t,rfl⟩:=ry;obtain ⟨its,r,pl,hz⟩:=I.list hq;obtain ⟨j,h1,h2,h3,h4,h5⟩:=xu he;obtain ⟨w,ew,rw'⟩:=r.get h2;have hl:=r.length;have hn:=md;have fin:EP X pins σ Q w s:=⟨z,H,I,rw',q⟩
 by_cases h0:0<=i
 ·have hj:i.toNat=j:=by
   rw [seqIndex_of h0 h5] at h1;exact Option.some.inj h1
  exact item_listR pl.isList h0 (by omega) (by rw [hj];simpa using ew) fin hs
 ·have hj:(i+(its.toArray.size:Int)).toNat=j:=by
   rw [seqIndex_neg (by omega) h4] at h1;rw [List.size_toArray,<- hl];exact Option.some.inj h1
  exact subscriptTail_builtinR (x:=w) pl.isList.typeIs slot_list_getitem.lookup
   (wpAny_getItem_list_neg (Q:=λr s'=>r=w/\EP X pins σ Q r s') pl.isList (by omega) (by rw [List.size_toArray] <;> omega) (by omega) (by rw [hj];simpa using ew) ⟨rfl,fin⟩) hs
theorem aV:IxR X (mN X.K):=by
 intro value slice pins s σ H x y v u Q I rx ry h hs;obtain ⟨p,xs,i,z,rfl,rfl,hq,he,q⟩:=h;cases rx;obtain ⟨t,rfl⟩:=ry;obtain ⟨its,r,pl,hz⟩:=I.tuple hq;obtain ⟨j,h1,h2,h3,h4,h5⟩:=xu he;obtain ⟨w,ew,rw'⟩:=r.get h2;have hl:=r.length;have hn:=md;have fin:EP X pins σ Q w s:=⟨z,H,I,rw',q⟩
 exact subscriptTail_builtinR (x:=w) pl.typeIs slot_tuple_getitem.lookup
  (getItem_tuple (j:=j) (Q:=λr s'=>r=w/\EP X pins σ Q r s') pl (by omega) (by omega) (by rw [List.size_toArray,<- hl];exact h1) (by simpa using ew) ⟨rfl,fin⟩) hs
theorem wA (its:List Value) (n j:Nat) (u:Value):Obj.mapSeq (·.setIfInBounds j u) { cls:=.type "list",data:=.seq its.toArray n }={ cls:=.type "list",data:=.seq (its.set j u).toArray n }:=by simp [Obj.mapSeq]
variable {pins:List (Addr × Obj)} {σ:St} {H:Hp} {s:Shared} {p:Addr} {xs:List V}
theorem Inv.lst (I:Inv X pins σ H s) (h:H p=some (.lst xs)) :
  ∃ (its:List Value) (n:Nat),Vals xs its/\s.heap.get? p=some { cls:=.type "list",data:=.seq its.toArray n }/\xs.length<=sizeLine:=by
 obtain ⟨z,its,n,r,e⟩:=I.hok p _ h;exact ⟨its,n,r,e,z⟩
theorem Inv.lstUpd {ys:List V} {its its':List Value} {n n':Nat} {f:Obj->Obj} (I:Inv X pins σ H s) (h:H p=some (.lst xs))
  (ho:s.heap.get? p=some { cls:=.type "list",data:=.seq its.toArray n }) (hf:f { cls:=.type "list",data:=.seq its.toArray n }={ cls:=.type "list",data:=.seq its'.toArray n' }) (r:Vals ys its') (hz:ys.length<=sizeLine) (t:Nat) :
  Inv X pins σ (upd H p (.lst ys)) { s with heap:=s.heap.update p f,toks:=t }:=by
 have e:(s.heap.update p f).get? p=some { cls:=.type "list",data:=.seq its'.toArray n' }:=by rw [Heap.get?_update_self f ho (by rw [hf] <;> rfl),hf]
 refine I.write (x:=p) (e:=p) (by rw [h];trivial) (.inl rfl) (λb u hb q=>(Heap.get?_update_other _ _ (Ne.symm hb)).trans q) ⟨_,e⟩ ?_;exact ⟨hz,its',n',r,e⟩
def Ga:V->V->V->Hp->(Hp->Prop)->Prop:=λo i v H Q=>∃ p xs k j,o=.ref p/\i=.int k/\H p=some (.lst xs)/\ixN xs.length k=some j/\Q (upd H p (.lst (xs.set j v)))
theorem mW:Ee X Ga:=by
 intro pins s σ H o i v ov iv u Q I ro ri rv h;obtain ⟨p,xs,k,j,rfl,rfl,hp,hj,q⟩:=h;cases ro;obtain ⟨t,rfl⟩:=ri;obtain ⟨its,n,r,ho,hz⟩:=I.lst hp;obtain ⟨h1,h2,h3,h4⟩:=xQ hj;have hl:=r.length;have hn:=md
 have I':Inv X pins σ (upd H p (.lst (xs.set j v))) { s with heap:=s.heap.update p (Obj.mapSeq (·.setIfInBounds j u)) } :=
  I.lstUpd hp ho (wA its n j u) (r.set rv j) (by rw [List.length_set];exact hz) s.toks
 by_cases h0:0<=k
 ·have hk:k.toNat=j:=by
   rw [seqIndex_of h0 h4] at h1;exact Option.some.inj h1
  exact W.ki_setAt ho h0 (by omega) (by rw [List.size_toArray,<- hl];exact h4) (by rw [hk];exact ⟨_,I',q⟩)
 ·have hk:(k+(its.toArray.size:Int)).toNat=j:=by
   rw [seqIndex_neg (by omega) h3] at h1;rw [List.size_toArray,<- hl];exact Option.some.inj h1
  exact W.ki_setBack ho (by omega) (by rw [List.size_toArray,<- hl];exact h3) (by omega) (by rw [hk];exact ⟨_,I',q⟩)
theorem t7 (lo hi:Option Int) (n:Nat):(sliceBounds lo hi none n).1=((HT.sIx n 0 lo:Nat):Int)/\(sliceBounds lo hi none n).2.1=((HT.sIx n n hi:Nat):Int)/\(sliceBounds lo hi none n).2.2=1:=by
 refine ⟨?_,?_,rfl⟩
 ·cases lo with
  | none=>simp [sliceBounds,HT.sIx]
  | some i =>
   simp only [sliceBounds,HT.sIx,Option.getD_none,show (1:Int) > 0 by decide,if_true];by_cases h:i < 0
   ·simp only [h,if_true] <;> omega
   ·simp only [h,if_false] <;> omega
 ·cases hi with
  | none=>simp [sliceBounds,HT.sIx]
  | some i =>
   simp only [sliceBounds,HT.sIx,Option.getD_none,show (1:Int) > 0 by decide,if_true];by_cases h:i < 0
   ·simp only [h,if_true] <;> omega
   ·simp only [h,if_false] <;> omega
theorem qL (its:List Value) (lo hi:Option Int):slicePick its.toArray lo hi none=((its.drop (HT.sIx its.length 0 lo)).take (HT.sIx its.length its.length hi - HT.sIx its.length 0 lo)).toArray:=by obtain ⟨h1,h2,h3⟩:=t7 lo hi its.toArray.size;unfold slicePick;rw [h1,h2,h3];simp only [sliceRange_one,pick_run,List.size_toArray] <;> rfl
def Gb (K:W.Frag):V->Option Int->Option Int->Hp->VK->Prop:=λx lo hi H Q=>∃ a xs,x=.ref a/\SqL K H a xs/\∀ p,H p=none->Q (.ref p) (upd H p (.lst (qC xs lo hi)))
theorem DC:SlR X (Gb X.K):=by intro pins s σ H x v vl vu lo hi sl Q I rx hs pl pu h;obtain ⟨a,xs,rfl,hx,q⟩:=h;cases rx;obtain ⟨its,r,ht,hz⟩:=I.list hx;have hlen:=r.length;refine ⟨"list",_,slot_list_getitem.lookup,ht.isList.typeIs,?_⟩;refine wpAny_getItem_list_slice ht.isList hs pl pu .none (by simp) ?_ (by rw [List.size_toArray] <;> omega);rw [qL,<- hlen];refine ⟨.ref s.heap.objs.size,_,I.laid (t':=s.toks) (o:=.lst (qC xs lo hi)) (λb ob q=>Heap.get?_push_of_some _ q) (Nat.le_refl _) ?_,rfl,q _ (I.hok.fresh (Nat.le_refl _))⟩;exact ⟨Nat.le_trans (nU xs lo hi) hz,_,0,(r.drop (HT.sIx xs.length 0 lo)).take (HT.sIx xs.length xs.length hi - HT.sIx xs.length 0 lo),Heap.get?_push_size _ rfl⟩
noncomputable def lN:V->Bool
 | .non=>true
 | .bl _=>true
 | .int _=>true
 | .str _=>true
 | _=>false
noncomputable def eqV:V->V->Bool
 | .non,.non=>true
 | .bl a,.bl b=>a == b
 | .bl a,.int b=>(if a then 1 else 0) == b
 | .int a,.bl b=>a == (if b then 1 else 0)
 | .int a,.int b=>a == b
 | .str a,.str b=>a == b
 | _,_=>false
variable {A:Around} {y x:V} {u v:Value}
theorem EF (ry:RelV y u) (rx:RelV x v) (fy:lN y=true) (fx:lN x=true):SeqAt.EqAt A s u v (eqV y x):=by
 cases y with
 | non =>
  cases ry
  cases x with
  | non=>cases rx;exact SeqAt.EqAt.same _
  | bl b=>cases rx;exact SeqAt.EqAt.none_bool b
  | int b=>obtain ⟨t,rfl⟩:=rx;exact SeqAt.EqAt.none_int b t
  | str b=>obtain ⟨t,rfl⟩:=rx;exact SeqAt.EqAt.none_str b t
  | _=>exact absurd (show false=true from fx) Bool.false_ne_true
 | bl a =>
  cases ry
  cases x with
  | non=>cases rx;exact SeqAt.EqAt.bool_none a
  | bl b=>cases rx;exact SeqAt.EqAt.bool_bool a b
  | int b=>obtain ⟨t,rfl⟩:=rx;exact SeqAt.EqAt.bool_int a b t
  | str b=>obtain ⟨t,rfl⟩:=rx;exact SeqAt.EqAt.bool_str a b t
  | _=>exact absurd (show false=true from fx) Bool.false_ne_true
 | int a =>
  obtain ⟨t',rfl⟩:=ry
  cases x with
  | non=>cases rx;exact SeqAt.EqAt.int_none a t'
  | bl b=>cases rx;exact SeqAt.EqAt.int_bool a t' b
  | int b=>obtain ⟨t,rfl⟩:=rx;exact SeqAt.EqAt.int_int a t' b t
  | str b=>obtain ⟨t,rfl⟩:=rx;exact SeqAt.EqAt.int_str a t' b t
  | _=>exact absurd (show false=true from fx) Bool.false_ne_true
 | str a =>
  obtain ⟨t',rfl⟩:=ry
  cases x with
  | non=>cases rx;exact SeqAt.EqAt.str_none a t'
  | bl b=>cases rx;exact SeqAt.EqAt.str_bool a t' b
  | int b=>obtain ⟨t,rfl⟩:=rx;exact SeqAt.EqAt.str_int a t' b t
  | str b=>obtain ⟨t,rfl⟩:=rx;exact SeqAt.EqAt.str_str a t' b t
  | _=>exact absurd (show false=true from fx) Bool.false_ne_true
 | _=>exact absurd (show false=true from fy) Bool.false_ne_true
noncomputable def eqU (x:V) (u:Value):Bool:=match u with
 | .none=>eqV .non x
 | .bool b=>eqV (.bl b) x
 | .int i _=>eqV (.int i) x
 | .str z _=>eqV (.str z) x
 | _=>false
theorem Ak (r:RelV y u) (f:lN y=true):eqU x u=eqV y x:=by
 cases y with
 | non=>cases r;rfl
 | bl b=>cases r;rfl
 | int i=>obtain ⟨t,rfl⟩:=r;rfl
 | str z=>obtain ⟨t,rfl⟩:=r;rfl
 | _=>exact absurd (show false=true from f) Bool.false_ne_true
theorem mm:∀ {xs:List V} {us:List Value},Vals xs us->xs.all lN=true->us.any (eqU x)=xs.any λy=>eqV y x
 | _,_,.nil,_=>rfl
 | y::xs,u::us,.cons r t,f=>by rw [List.all_cons,Bool.and_eq_true] at f;rw [List.any_cons,List.any_cons,Ak r f.1,mm t f.2]
theorem kK (rx:RelV x v) (fx:lN x=true):∀ {xs:List V} {us:List Value},Vals xs us->xs.all lN=true->∀ u ∈ us,SeqAt.EqAt A s u v (eqU x u)
 | _,_,.nil,_=>λu hu=>by cases hu
 | y::xs,u::us,.cons r t,f=>λu' hu=>by
  rw [List.all_cons,Bool.and_eq_true] at f;rcases List.mem_cons.mp hu with rfl | hu
  ·rw [Ak r f.1];exact EF r rx f.1 fx
  ·exact kK rx fx t f.2 u' hu
noncomputable def inV (x:V) (xs:List V):Bool:=xs.any λy=>eqV y x
noncomputable def rIn (K:W.Frag) (neg:Bool):R2:=λx y H Q=>∃ p xs,y=.ref p/\(SqL K H p xs\/SqT K H p xs)/\lN x=true/\xs.all lN=true/\Q (.bl (if neg then !inV x xs else inV x xs)) H
theorem gT:OpR X (compareOp .In) (rIn X.K false):=by
 intro pins s σ H x y v u Q I rx ry h;obtain ⟨p,xs,rfl,hq,fx,fs,q⟩:=h;cases ry;rcases hq with hq | hq
 ·obtain ⟨its,r,pl,hz⟩:=I.list hq;refine SeqAt.in_listAt (eqU x) pl.isList (λw hw=>kK rx fx r fs w (by simpa using hw)) ⟨.bl _,H,I,rfl,?_⟩;rw [show its.toArray.any (eqU x)=its.any (eqU x) by simp,mm r fs];exact q
 ·obtain ⟨its,r,pl,hz⟩:=I.tuple hq;refine SeqAt.in_tupleAt (eqU x) pl (λw hw=>kK rx fx r fs w (by simpa using hw)) ⟨.bl _,H,I,rfl,?_⟩;rw [show its.toArray.any (eqU x)=its.any (eqU x) by simp,mm r fs];exact q
theorem tJ:OpR X (compareOp .NotIn) (rIn X.K true):=by
 intro pins s σ H x y v u Q I rx ry h;obtain ⟨p,xs,rfl,hq,fx,fs,q⟩:=h;cases ry;rcases hq with hq | hq
 ·obtain ⟨its,r,pl,hz⟩:=I.list hq;refine SeqAt.notIn_listAt (eqU x) pl.isList (λw hw=>kK rx fx r fs w (by simpa using hw)) ⟨.bl _,H,I,rfl,?_⟩;rw [show its.toArray.any (eqU x)=its.any (eqU x) by simp,mm r fs];exact q
 ·obtain ⟨its,r,pl,hz⟩:=I.tuple hq;refine SeqAt.notIn_tupleAt (eqU x) pl (λw hw=>kK rx fx r fs w (by simpa using hw)) ⟨.bl _,H,I,rfl,?_⟩;rw [show its.toArray.any (eqU x)=its.any (eqU x) by simp,mm r fs];exact q
theorem aX:jD X (.builtin "len") (λxs H Q=>∃ p ys,xs=[.ref p]/\(SqL X.K H p ys\/SqT X.K H p ys)/\Q (.int ys.length) H):=by
 intro pins s σ H xs us Q I r h;obtain ⟨p,ys,rfl,hq,q⟩:=h;obtain ⟨u,rfl,rx⟩:=jr r;cases rx;have hn:=md;rcases hq with hq | hq
 ·obtain ⟨its,r',pl,hz⟩:=I.list hq;have hlen:=r'.length;exact Calls.call_len_list pl.isList (by simp only [List.size_toArray] <;> omega) ⟨.int ys.length,H,I.tok _,⟨s.toks+1,by rw [List.size_toArray,hlen]⟩,q⟩
 ·obtain ⟨its,r',pl,hz⟩:=I.tuple hq;have hlen:=r'.length;exact len_tuple pl (by simp only [List.size_toArray] <;> omega) ⟨.int ys.length,H,I.tok _,⟨s.toks+1,by rw [List.size_toArray,hlen]⟩,q⟩
theorem sf:jD X (.builtin "len") (λxs H Q=>∃ z,xs=[.str z]/\z.length<=sizeLine/\Q (.int z.length) H):=by intro pins s σ H xs us Q I r h;obtain ⟨z,rfl,hz,q⟩:=h;obtain ⟨u,rfl,t,rfl⟩:=jr r;have hn:=md;exact len_str (by omega) ⟨.int z.length,H,I.tok _,⟨_,rfl⟩,q⟩
theorem cX:jD X (.type "tuple") (λxs H Q=>∃ p ys,xs=[.ref p]/\((SqL X.K H p ys/\∀ l,H l=none->Q (.ref l) (upd H l (.tup ys)))\/(SqT X.K H p ys/\Q (.ref p) H))):=by
 intro pins s σ H xs us Q I r h;obtain ⟨p,ys,rfl,h⟩:=h;obtain ⟨u,rfl,rx⟩:=jr r;cases rx;rcases h with ⟨hq,q⟩ | ⟨hq,q⟩
 ·obtain ⟨its,r',pl,hz⟩:=I.list hq;have hlen:=r'.length;refine call_tuple_list pl.isList (λh' kp=>?_) (by simp only [List.size_toArray] <;> omega);have I1:Inv X pins σ H { s with heap:=h' }:=I.kept (t':=s.toks) kp
  have I2:Inv X pins σ (upd H h'.objs.size (.tup ys)) { s with heap:=h'.push { cls:=.type "tuple",data:=.seq its.toArray } } :=
   I1.laid (t':=s.toks) (λb o e=>Heap.get?_push_of_some _ e) (Nat.le_refl _) (show ObjOk X.prog X.w _ _ _ (.tup ys) from ⟨hz,its,r',IsTup.new _ _⟩)
  exact ⟨.ref h'.objs.size,_,I2,rfl,q _ (I1.hok.fresh (Nat.le_refl _))⟩
 ·obtain ⟨its,r',pl,hz⟩:=I.tuple hq;exact call_tuple_same pl ⟨.ref p,H,I,rfl,q⟩
def tyV (K:W.Frag) (T:String) (x:V) (H:Hp):Prop:=match x with
 | .str _=>T="str"
 | .int _=>T="int"
 | .ref p=>(T="list"/\∃ xs,SqL K H p xs)\/(T="tuple"/\∃ o,K.lookup p=some o/\o.cls=.type "tuple"/\o.dict=none) \/
   (T="dict"/\((∃ kvs,H p=some (.dK kvs))\/∃ kvs,H p=some (.dT kvs)))\/(T="set"/\∃ S n,H p=some (.set S n))
 | _=>False
theorem BY {T:String} (I:Inv X pins σ H s) (r:RelV x v) (ty:tyV X.K T x H) :
  s.TypeIs v T/\∀ a,v=.ref a->∃ ob,s.heap.get? a=some ob/\ob.dict=none:=by
 cases x with
 | str z =>obtain ⟨t,rfl⟩:=r;cases (show T="str" from ty);exact ⟨typeIs_str s z t,λ_ e=>nomatch e⟩
 | int i =>obtain ⟨t,rfl⟩:=r;cases (show T="int" from ty);exact ⟨typeIs_int s i t,λ_ e=>nomatch e⟩
 | ref p =>
  cases r;rcases ty with ⟨rfl,xs,hq⟩ | ⟨rfl,o,hk,hc,hd⟩ | ⟨rfl,hk⟩ | ⟨rfl,S,n,hk⟩
  ·obtain ⟨its,_,pl,_⟩:=I.list hq;refine ⟨pl.isList.typeIs,λa e=>?_⟩;cases e;obtain ⟨o,n,e,c,hd,_⟩:=pl;exact ⟨o,e,hd⟩
  ·refine ⟨⟨o,I.kIn p o hk,hc⟩,λa e=>?_⟩;cases e;exact ⟨o,I.kIn _ o hk,hd⟩
  ·have z:∃ o,s.heap.get? p=some o/\o.ExactDict:=by
    rcases hk with ⟨kvs,hk⟩ | ⟨kvs,hk⟩
    ·obtain ⟨_,_,_,_,o,_,_,e,ex,_⟩:=I.hok p _ hk;exact ⟨o,e,ex⟩
    ·obtain ⟨_,_,_,_,o,_,_,e,ex,_⟩:=I.hok p _ hk;exact ⟨o,e,ex⟩
   obtain ⟨o,e,ex⟩:=z;refine ⟨⟨o,e,ex.1⟩,λa e2=>?_⟩;cases e2;exact ⟨o,e,ex.2.1⟩
  ·obtain ⟨o,_,_,_,e,ex,_⟩:=I.hok p _ hk;refine ⟨⟨o,e,ex.1⟩,λa e2=>?_⟩;cases e2;exact ⟨o,e,ex.2.1⟩
 | _=>exact False.elim ty
def Gm (K:W.Frag) (T:String) (r:V->List V->Hp->VK->Prop) (to:TE):TE:=λσ H Q=>to σ H λx H1=>tyV K T x H1/\r x [] H1 Q
def tBM (K:W.Frag) (T:String) (r:V->List V->Hp->VK->Prop) (to:TE) (t:TA):TE:=λσ H Q=>to σ H λx H1=>tyV K T x H1/\t σ H1 λxs H2=>r x xs H2 Q
variable {o e:Expr} {es:List Expr} {to:TE} {t:TA} {name:Str} {apos cpos:Pos} {T id:String} {r:V->List V->Hp->VK->Prop}
theorem nD (pa:PlainAttrs T) (slot:Slot T name id) (hty:typeOf (.builtin id)=pure (.type "method_descriptor")) (hm:MtR X id r) (ho:PE X o to)
  (hbase:attributeBase o name X.env (eval o X.env)=eval o X.env:=by rfl) (hline:(apos.endLine == cpos.line)=true:=by rfl):PE X (.Call (.Attribute o name apos) [] [] cpos) (Gm X.K T r to):=by
 intro pins s σ H Q I h;refine wpAny_Call_method0_late hbase hline (thn (ho pins s σ H _ I h) λv s1 ⟨x,H1,I1,r1,ty,q1⟩=>?_);obtain ⟨h1,h2⟩:=BY I1 r1 ty;exact ⟨T,id,pa,slot,hty,h1,h2,Calls.callWith_builtin rfl (PySem.evalArgs_none (hm pins s1 σ H1 x [] v [] Q I1 r1 .nil q1))⟩
theorem eQ (pa:PlainAttrs T) (slot:Slot T name id) (hty:typeOf (.builtin id)=pure (.type "method_descriptor")) (hm:MtR X id r) (ho:PE X o to) (ha:PA X (e::es) t)
  (hbase:attributeBase o name X.env (eval o X.env)=eval o X.env:=by rfl)
  (hfew:((backTo cpos (starEach (e::es) X.env)).all (λx=>!x.1) && (backToKw cpos (keywordEach [] X.env)).all (λx=>x.1.isSome)
   && decide ((e::es).length+([]:List Keyword).length+(if ([]:List Keyword).isEmpty then 0 else 1) < 30))=true:=by rfl)
  (hline:(apos.endLine == cpos.line)=true:=by rfl) (hs:starEach (e::es) X.env=(false,eval e X.env)::starEach es X.env:=by rfl) (hplain:(backTo cpos (starEach es X.env)).any (·.1)=false:=by rfl) :
  PE X (.Call (.Attribute o name apos) (e::es) [] cpos) (tBM X.K T r to t):=by
 intro pins s σ H Q I h;refine wpAny_Call_method_late hbase hfew hline rfl (thn (ho pins s σ H _ I h) λv s1 ⟨x,H1,I1,r1,ty,q1⟩=>?_);obtain ⟨h1,h2⟩:=BY I1 r1 ty;refine ⟨T,id,pa,slot,hty,h1,h2,?_⟩;have hA:=ha cpos pins s1 σ H1 _ I1 q1;rw [hs] at hA ⊢;refine Calls.callWith_builtin (by show (false || (backTo cpos (starEach es X.env)).any (·.1))=false;rw [hplain] <;> rfl) (Calls.evalArgs_plain ?_);exact thn hA λus s2 ⟨vs,H2,I2,r2,q2⟩=>hm pins s2 σ H2 x vs v us Q I2 r1 r2 q2
end
def MtM (X:Cx) (id:String) (r:V->List V->Hp->VK->Prop):Prop :=
 ∀ (pins:List (Addr × Obj)) (s:Shared) (σ:St) (H:Hp) (x:V) (xs:List V) (v:Value) (us:List Value) (Q:VK),Inv X pins σ H s->RelV x v->Vals xs us->r x xs H Q ->
  wpAny (model X.prog X.w) X.A (call (.builtin id) (v::us)) (EP X pins σ Q) X.xe s
theorem Vals.one:∀ {x:V} {us:List Value},Vals [x] us->∃ u,us=[u]/\RelV x u
 | _,_,.cons r .nil=>⟨_,rfl,r⟩
theorem Vals.zero:∀ {us:List Value},Vals [] us->us=[]
 | _,.nil=>rfl
theorem Vals.dropLast {xs:List V} {us:List Value} (h:Vals xs us):Vals xs.dropLast us.dropLast:=by
 induction h with
 | nil=>exact .nil
 | cons r t ih =>
  cases t with
  | nil=>exact .nil
  | cons q t'=>exact .cons r ih
theorem wg {α:Type} (l:List α):l.eraseIdx (l.length - 1)=l.dropLast:=by
 induction l with
 | nil=>rfl
 | cons a r ih =>
  cases r with
  | nil=>rfl
  | cons b r =>
   have e:(a::b::r).length - 1=((b::r).length - 1)+1:=by have h1:(a::b::r).length=r.length+2:=rfl;have h2:(b::r).length=r.length+1:=rfl;omega
   rw [e,List.eraseIdx_cons_succ,ih]
   all_goals rfl
section
variable {X:Cx} {pins:List (Addr × Obj)} {σ:St} {H:Hp} {s:Shared} {l b:Addr} {xs ys zs:List V}
variable {its:List Value} {n t':Nat}
theorem Inv.lset {its':List Value} {f:Array Value->Array Value} (I:Inv X pins σ H s) (hH:H l=some (.lst xs))
  (e:s.heap.get? l=some { cls:=.type "list",data:=.seq its.toArray n }) (hf:f its.toArray=its'.toArray) (hv:Vals ys its') (hz:ys.length<=sizeLine) :
  Inv X pins σ (upd H l (.lst ys)) { s with heap:=s.heap.update l (Obj.mapSeq f),toks:=t' }:=by
 have q:=PySem.IsL.update e f;rw [hf] at q;refine I.write (x:=l) (e:=l) (by rw [hH];exact trivial) (.inl rfl) (λb' u hb hu=>(Heap.get?_update_other s.heap (Obj.mapSeq f) (Ne.symm hb)).trans hu) ⟨_,q⟩ ?_;exact ⟨hz,its',_,hv,q⟩
theorem Inv.lnew (I:Inv X pins σ H s) (hv:Vals ys its) (hz:ys.length<=sizeLine) :
  Inv X pins σ (upd H s.heap.objs.size (.lst ys)) { s with heap:=s.heap.push { cls:=.type "list",data:=.seq its.toArray },toks:=t' } :=
 I.laid (λ_ _ q=>Heap.get?_push_of_some _ q) (Nat.le_refl _) ⟨hz,its,0,hv,Heap.get?_push_size _ rfl⟩
theorem Inv.fresh (I:Inv X pins σ H s):H s.heap.objs.size=none:=I.hok.fresh (Nat.le_refl _)
theorem Inv.lstM (I:Inv X pins σ H s) (hH:H l=some (.lst xs)):xs.length<=sizeLine/\∃ (its:List Value) (n:Nat),Vals xs its/\xs.length=its.length/\s.heap.get? l=some { cls:=.type "list",data:=.seq its.toArray n }:=by obtain ⟨z,its,n,r,e⟩:=I.hok l _ hH;exact ⟨z,its,n,r,r.length,e⟩
theorem AY (h:n<=sizeLine):Builtin.List.listTooLong n=false:=by unfold Builtin.List.listTooLong;exact decide_eq_false (by omega)
end
section
variable {X:Cx}
def mM:V->List V->Hp->VK->Prop:=λx vs H Q=>∃ l xs y,x=.ref l/\vs=[y]/\H l=some (.lst xs)/\xs.length < sizeLine/\Q .non (upd H l (.lst (xs++[y])))
theorem bV:MtM X "list.append" mM:=by intro pins s σ H x vs v us Q I rx rv h;obtain ⟨l,xs,y,rfl,rfl,hH,hz,q⟩:=h;cases rx;obtain ⟨u,rfl,ru⟩:=rv.one;obtain ⟨z,its,n,r,hl,e⟩:=I.lstM hH;refine call_meets F.slot_list_append ⟨_,e,rfl⟩ F.entry_list_append (F.args_list_append_2 _ _) (PySem.list_append l its.toArray n u (by rw [List.size_toArray];omega)) ⟨e,?_⟩;refine ⟨.non,_,I.lset (its':=its++[u]) hH e (by simp) (r.append (.cons ru .nil)) ?_,rfl,q⟩;rw [List.length_append,List.length_singleton];omega
def yb:V->List V->Hp->VK->Prop:=λx vs H Q=>∃ l b xs zs,x=.ref l/\vs=[.ref b]/\H l=some (.lst xs)/\H b=some (.lst zs)/\xs.length+zs.length<=sizeLine/\Q .non (upd H l (.lst (xs++zs)))
theorem jO:MtM X "list.extend" yb:=by
 intro pins s σ H x vs v us Q I rx rv h;obtain ⟨l,b,xs,zs,rfl,rfl,hH,hB,hz,q⟩:=h;cases rx;obtain ⟨u,rfl,ru⟩:=rv.one;cases ru;obtain ⟨z,its,n,r,hl,e⟩:=I.lstM hH;obtain ⟨z2,its2,n2,r2,hl2,e2⟩:=I.lstM hB;have hsz:its.toArray.size+its2.toArray.size<=sizeLine:=by rw [List.size_toArray,List.size_toArray];omega
 have hlong:¬ (!its.toArray.isEmpty && Builtin.List.listTooLong (its.toArray.size+its2.toArray.size))=true:=by rw [AY hsz,Bool.and_false];exact Bool.false_ne_true
 refine call_meets F.slot_list_extend ⟨_,e,rfl⟩ F.entry_list_extend (F.args_list_extend_2 _ _)
  (AutoSeq1.list_extend_list_list_0 l its.toArray n b its2.toArray n2 hlong (by rw [List.size_toArray];omega) (by omega)) ⟨e,e2,?_⟩
 refine ⟨.non,_,I.lset (its':=its++its2) hH e (by simp) (r.append r2) ?_,rfl,q⟩;rw [List.length_append];omega
def F9:V->List V->Hp->VK->Prop:=λx vs H Q=>∃ l xs y,x=.ref l/\vs=[]/\H l=some (.lst xs)/\xs[xs.length - 1]?=some y/\Q y (upd H l (.lst xs.dropLast))
theorem ny:MtM X "list.pop" F9:=by
 intro pins s σ H x vs v us Q I rx rv h;obtain ⟨l,xs,y,rfl,rfl,hH,hy,q⟩:=h;cases rx;have hus:=rv.zero;subst hus;obtain ⟨z,its,n,r,hl,e⟩:=I.lstM hH;obtain ⟨u,hu,ru⟩:=r.get hy
 have hy':its.toArray[its.toArray.size - 1]?=some u:=by show its.toArray[its.length - 1]?=some u;rw [<- Array.getElem?_toList,<- hl];exact hu
 refine call_meets F.slot_list_pop ⟨_,e,rfl⟩ F.entry_list_pop (F.args_list_pop_1 _) (MeetsSeq.list_pop_last l its.toArray n u hy' (by rw [List.size_toArray];omega)) ⟨e,?_⟩;refine ⟨y,_,I.lset (its':=its.dropLast) hH e ?_ r.dropLast ?_,ru,q⟩
 ·show its.toArray.eraseIdxIfInBounds (its.toArray.size - 1)=its.dropLast.toArray;rw [List.size_toArray,List.eraseIdxIfInBounds_toArray,wg]
 ·rw [List.length_dropLast];omega
end
section
variable {prog:Program} {w:World} {A:Around} {E:Value->Shared->Prop} {s:Shared}
end
section
variable {X:Cx}
end
section
variable {κ:Type} [DecidableEq κ]
noncomputable def mi (kvs:List (κ × V)) (k:κ):Option V:=(kvs.find? λkv=>decide (kv.1=k)).map (·.2)
noncomputable def vD (kvs:List (κ × V)) (k:κ) (v:V):List (κ × V) :=
 if (kvs.any λkv=>decide (kv.1=k))=true then kvs.map (λkv=>if kv.1=k then (kv.1,v) else kv) else kvs++[(k,v)]
theorem vT {p:κ × V} {r:List (κ × V)} {k:κ} (e:p.1=k):mi (p::r) k=some p.2:=by simp [mi,List.find?_cons,e]
theorem vS {p:κ × V} {r:List (κ × V)} {k:κ} (e:¬ p.1=k):mi (p::r) k=mi r k:=by simp [mi,List.find?_cons,e]
theorem uP (kvs:List (κ × V)) (k:κ) (v:V):(vD kvs k v).length<=kvs.length+1:=by
 unfold vD;split
 ·rw [List.length_map];omega
 ·rw [List.length_append,List.length_cons,List.length_nil];omega
theorem KV.val {kvs:List (κ × V)} {vs:List (κ × Value)} (r:KV kvs vs) (k:κ):RelO (mi kvs k) (valueAt vs k):=by
 unfold KV at r
 induction r with
 | nil=>exact True.intro
 | @cons p q ps qs h t ih =>
  obtain ⟨h1,h2⟩:=h;by_cases e:p.1=k
  ·have e':q.1=k:=h1.symm.trans e;have b:valueAt (q::qs) k=some q.2:=by simp [valueAt,List.find?_cons,e']
   rw [vT e,b];exact h2
  ·have e':¬ q.1=k:=λz=>e (h1.trans z);have b:valueAt (q::qs) k=valueAt qs k:=by simp [valueAt,List.find?_cons,e']
   rw [vS e,b];exact ih
theorem KV.any {kvs:List (κ × V)} {vs:List (κ × Value)} (r:KV kvs vs) (k:κ):(kvs.any λkv=>decide (kv.1=k))=vs.any λkv=>decide (kv.1=k):=by
 unfold KV at r
 induction r with
 | nil=>rfl
 | cons h t ih=>rw [List.any_cons,List.any_cons,ih,h.1]
variable {y:V} {u:Value}
theorem KV.repl {kvs:List (κ × V)} {vs:List (κ × Value)} (r:KV kvs vs) (k:κ) (ry:RelV y u) :
  KV (kvs.map λkv=>if kv.1=k then (kv.1,y) else kv) (vs.map λkv=>if kv.1=k then (kv.1,u) else kv):=by
 unfold KV at r ⊢
 induction r with
 | nil=>exact .nil
 | @cons p q ps qs h t ih =>
  rw [List.map_cons,List.map_cons];refine .cons ?_ ih;obtain ⟨h1,h2⟩:=h;by_cases e:p.1=k
  ·rw [if_pos e,if_pos (h1.symm.trans e)];exact ⟨h1,ry⟩
  ·rw [if_neg e,if_neg (λz=>e (h1.trans z))];exact ⟨h1,h2⟩
theorem KV.put {kvs:List (κ × V)} {vs:List (κ × Value)} (r:KV kvs vs) (k:κ) (ry:RelV y u):KV (vD kvs k y) (stored vs k u):=by
 unfold vD stored;rw [r.any k];by_cases e:(vs.any λkv=>decide (kv.1=k))=true
 ·rw [if_pos e,if_pos e];exact r.repl k ry
 ·rw [if_neg e,if_neg e];exact Paired.snoc r ⟨rfl,ry⟩
end
variable {P:Program} {w:World}
theorem AD {k:Key} {u:Value} (r:RelV (kV k) u):(fH P w).is k u=true:=by
 cases k with
 | inl i=>obtain ⟨t,e⟩:=(show ∃ t,u=Value.int i t from r);subst e;exact uS P w i t
 | inr x=>obtain ⟨t,e⟩:=(show ∃ t,u=Value.str x t from r);subst e;exact uT P w x t
theorem rn:∀ {ks:List Key} {us:List Value},Vals (ks.map kV) us->ItemsAre (fH P w) ks us
 | [],_,r=>by rw [List.map_nil] at r;cases r;exact .nil
 | k::ks,_,r=>by
  rw [List.map_cons] at r
  cases r with
  | cons h t=>exact .cons (AD h) (rn t)
abbrev KT (H:Hp):List (List Key × V)->List (List Key × Addr × Value)->Prop:=Paired λp q=>p.1=q.1/\H q.2.1=some (.tup (p.1.map kV))/\RelV p.2 q.2.2
variable {H:Hp}
theorem KT.val {kvs:List (List Key × V)} {xs:List (List Key × Addr × Value)} (r:KT H kvs xs) (k:List Key):RelO (mi kvs k) ((atKey xs k).map (·.2)):=by
 induction r with
 | nil=>exact True.intro
 | @cons p q ps qs h t ih =>
  obtain ⟨h1,_,h2⟩:=h;by_cases e:p.1=k
  ·have e':q.1=k:=h1.symm.trans e;have b:atKey (q::qs) k=some q.2:=by simp [atKey,List.find?_cons,e']
   rw [vT e,b];exact h2
  ·have e':¬ q.1=k:=λz=>e (h1.trans z);have b:atKey (q::qs) k=atKey qs k:=by simp [atKey,List.find?_cons,e']
   rw [vS e,b];exact ih
section
variable {P:Program} {w:World} {H:Hp} {h:Heap} {a:Addr}
theorem D3 {u:HO} (ok:HOk P w H h) (e:Rd H a u):ObjOk P w H h a u:=e.ok ok
variable {kvs:List (Key × V)}
theorem Ai (ok:HOk P w H h) (e:Rd H a (.dK kvs)):kvs.length<=sizeLine/\(a == sysModules)=false/\∃ vs,KV kvs vs/\h.DictOf (fH P w) a vs :=
 show ObjOk P w H h a (.dK kvs) from D3 ok e
theorem FQ (ok:HOk P w H h) (e:H a=some (.dK kvs)):kvs.length<=sizeLine/\(a == sysModules)=false/\∃ vs,KV kvs vs/\h.DictOf (fH P w) a vs:=Ai ok (.inl e)
theorem AE {ks:List Key} (ok:HOk P w H h) (e:H a=some (.tup (ks.map kV))):(tupleKind (fH P w)).is h ks a:=by
 obtain ⟨_,its,r,o,h1,h2,n,h3⟩:=(show ObjOk P w H h a (.tup (ks.map kV)) from ok a _ e)
 exact ⟨o,its.toArray,n,h1,h2,h3,by simpa using rn r⟩
theorem DR {kvs:List (List Key × V)} (ok:HOk P w H h) (e:Rd H a (.dT kvs)):kvs.length<=sizeLine/\(a == sysModules)=false /\
  ∃ xs,KT H kvs xs/\h.DictOfH (tupleKind (fH P w)) a xs:=by
 obtain ⟨z,y,xs,r,o,es,ep,h1,h2,h3,h4,h5⟩:=(show ObjOk P w H h a (.dT kvs) from D3 ok e)
 refine ⟨z,y,xs,r,o,es,ep,h1,h2,h3,h4,λx hx=>?_,h5⟩
 have all:∀ {l:List (List Key × V)} {m:List (List Key × Addr × Value)},KT H l m->∀ x ∈ m,(tupleKind (fH P w)).is h x.1 x.2.1:=by
  intro l m q
  induction q with
  | nil=>intro x hx;exact nomatch hx
  | @cons p q ps qs hq t ih =>
   intro x hx;rcases List.mem_cons.mp hx with e | hx
   ·subst e;exact AE ok (by rw [<- hq.1];exact hq.2.1)
   ·exact ih x hx
 exact all r x hx
end
def DGet (H:Hp) (a:Addr) (y:V) (r:Option V):Prop :=
 (∃ kvs k,Rd H a (.dK kvs)/\y=kV k/\r=mi kvs k)\/∃ kvs k b,Rd H a (.dT kvs)/\y=.ref b/\H b=some (.tup (k.map kV))/\r=mi kvs k
variable {a:Addr}
theorem DGet.k {kvs:List (Key × V)} {k:Key} (e:H a=some (.dK kvs)):DGet H a (kV k) (mi kvs k):=.inl ⟨kvs,k,.inl e,rfl,rfl⟩
section
variable {X:Cx} {pins:List (Addr × Obj)} {σ:St} {H:Hp} {s:Shared} {a:Addr} {y v:V} {u r:Value} {o:Option V} {A:Around} {E:Value->Shared->Prop}
theorem Inv.big (I:Inv X pins σ H s):sysModules < s.heap.objs.size:=by have h:mainGlobals < s.heap.objs.size:=(I.mod.glob.keeps I.bk).lt;exact Nat.lt_trans (by decide) h
theorem yw {Q:Value->Shared->Prop} (hu:A.units+1 < cLine) (I:Inv X pins σ H s) (g:DGet H a y (some v)) (ry:RelV y u) (h:∀ w' s',Inv X pins σ H s'->RelV v w'->Q w' s') :
  wpAny (model X.prog X.w) A (getItem (.ref a) u) Q E s:=by
 rcases g with ⟨kvs,k,e,ey,l⟩ | ⟨kvs,k,b,e,ey,eb,l⟩
 ·subst ey;obtain ⟨z,hd,vs,rel,dd⟩:=Ai I.hok e;obtain ⟨w',hw,rw'⟩:=RelO.some_of (v:=v) (o:=valueAt vs k) (by rw [l];exact rel.val k);exact wpAny_getItem_of (AD ry) dd.mapOf hw (h w' _ (I.tok _) rw')
 ·subst ey;cases (show u=Value.ref b from ry);obtain ⟨z,hd,xs,rel,dd⟩:=DR I.hok e;obtain ⟨w',hw,rw'⟩:=RelO.some_of (v:=v) (o:=(atKey xs k).map (·.2)) (by rw [l];exact rel.val k);obtain ⟨p,hp,hp2⟩:=Option.map_eq_some_iff.mp hw;refine wpAny_getItem_heap (tupleKind_room_in1 hu) (AE I.hok eb) dd hp ?_;rw [hp2];exact h w' _ (I.tok _) rw'
variable {h':Heap}
theorem Ck {t':Nat} {ob:HO} (I:Inv X pins σ H s) (mu:Mut (H a)) (hs:Heap.SameBut a s.heap h') (he:∃ q,h'.get? a=some q) (new:ObjOk X.prog X.w (upd H a ob) h' a ob) :
  Inv X pins σ (upd H a ob) { s with heap:=h',toks:=t' } :=
 I.write (x:=a) (e:=a) mu (.inl rfl) (λb q hb z=>(hs.2 b hb).trans z) he new
theorem EE {P:Program} {w:World} {H':Hp} {kvs:List (Key × V)} {vs:List (Key × Value)} (z:kvs.length<=sizeLine) (hd:(a == sysModules)=false) (rel:KV kvs vs) (dd:h'.DictOf (fH P w) a vs) :
  ObjOk P w H' h' a (.dK kvs):=⟨z,hd,vs,rel,dd⟩
end
section
variable {X:Cx} {pins:List (Addr × Obj)} {σ:St} {H:Hp} {s:Shared} {a:Addr} {kvs:List (Key × V)} {k:Key} {u:Value} {A:Around} {E:Value->Shared->Prop}
end
def FI (i:Expr):Prop:=∀ ov iv,subscripted i false ov iv=operate [ov,iv] (getItem ov iv)
variable {s:Shared} {pos:Pos}
theorem DG {prog:Program} {A:Around} {E:Value->Shared->Prop} {env:Env} {value slice:Expr} {T id:String} {Q:Value->Shared->Prop}
  (hl:typeLookup (.type T) "__getitem__"=pure (some (.builtin id))) (hs:FI slice)
  (h:wpAny (model prog w) A (eval value env) (λo s₁=>wpAny (model prog w) A (eval slice env) (λi s₂=>s₂.TypeIs o T/\wpAny (model prog w) A (getItem o i) Q E s₂) E s₁) E s) :
  wpAny (model prog w) A (eval (.Subscript value slice pos) env) Q E s:=by
 refine Subscript_ (wpAny_mono h (λo s₁ h₁=>wpAny_mono h₁ (λi s₂ h₂=>?_) λ_ _ x=>x) λ_ _ x=>x);obtain ⟨hT,h₂⟩:=h₂;unfold subscriptTail;refine wpAny_bind ?_;rw [getitemInPython_of_ne hT.not_modules];refine wpAny_bind (wpAny_specialOf hT hl ?_)
 have fin:wpAny (model prog w) A (subscripted slice false o i) (λr s₃=>wpAny (model prog w) A (letTemporaryGo value o r >>= λ_=>pure r) Q E s₃) E s₂:=by rw [hs o i];exact wpAny_operating (wpAny_mono h₂ (λr s₃ h₃=>wpAny_bind (wpAny_letTemporaryGo (wpAny_pure h₃))) λ_ _ x=>x)
 first
  | exact wpAny_pure (wpAny_bind fin)
  | exact wpAny_bind (wpAny_pure (wpAny_bind fin))
  | exact wpAny_bind fin
variable {X:Cx}
theorem uB {pins:List (Addr × Obj)} {σ:St} {y:V} {o:Option V} (I:Inv X pins σ H s) (g:DGet H a y o):s.TypeIs (.ref a) "dict":=by
 rcases g with ⟨kvs,k,e,_,_⟩ | ⟨kvs,k,b,e,_,_,_⟩
 ·obtain ⟨_,_,vs,_,dd⟩:=Ai I.hok e;exact dd.typeIs
 ·obtain ⟨_,_,xs,_,dd⟩:=DR I.hok e;exact dd.typeIs
noncomputable def Ea (td ty:TE):TE:=λσ H Q=>td σ H λx H1=>ty σ H1 λy H2=>∃ a v,x=.ref a/\DGet H2 a y (some v)/\Q v H2
section
variable {X:Cx} {o i e value:Expr} {pos pos' tpos:Pos} {td ty tv:TE}
theorem oH (hu:X.A.units+1 < cLine) (ho:PE X o td) (hi:PE X i ty) (hs:FI i):PE X (.Subscript o i pos) (Ea td ty):=by intro pins s σ H Q I h;refine DG F.slot_dict_getitem.lookup hs (thn (ho pins s σ H _ I h) λu s1 ⟨x,H1,I1,rx,q1⟩=>thn (hi pins s1 σ H1 _ I1 q1) λiv s2 ⟨y,H2,I2,ry,a,v,ex,g,q2⟩=>?_);subst ex;obtain rfl:u=Value.ref a:=rx;exact ⟨uB I2 g,yw hu I2 g ry λw' s3 I3 rw'=>⟨v,H2,I3,rw',q2⟩⟩
end
theorem Ah (h:Heap) (hb:sysModules < h.objs.size):ObjOk P w H (h.push { cls:=.type "dict",data:=.dict #[] }) h.objs.size (.dK []) :=
 ⟨Nat.zero_le _,beq_eq_false_iff_ne.mpr (Ne.symm (Nat.ne_of_lt hb)),[],.nil,Heap.DictOf.new h⟩
section
variable {X:Cx} {pos:Pos}
end
def xh:List (TE × TE)->St->Hp->(List (V × V)->Hp->Prop)->Prop
 | [],_,H,Q=>Q [] H
 | (tk,tv)::r,σ,H,Q=>tk σ H λx H1=>tv σ H1 λy H2=>xh r σ H2 λps H3=>Q ((x,y)::ps) H3
abbrev VV:List (V × V)->List (Value × Value)->Prop:=Paired λp q=>RelV p.1 q.1/\RelV p.2 q.2
def PPs (X:Cx) (pos:Pos) (keys:List (Option Expr)) (values:List Expr) (trs:List (TE × TE)):Prop :=
 ∀ (pins:List (Addr × Obj)) (s:Shared) (σ:St) (H:Hp) (Q:List (V × V)->Hp->Prop),Inv X pins σ H s->xh trs σ H Q ->
  wpAny (model X.prog X.w) X.A (evalPairs (pairTrees keys values X.env pos)) (λvs s'=>∃ ps H',Inv X pins σ H' s'/\VV ps vs/\Q ps H') X.xe s
theorem Di:PPs X pos [] [] []:=λpins s σ H Q I h=>pairTrees_nil_walk ⟨[],H,I,.nil,h⟩
variable {trs:List (TE × TE)}
theorem pT {k v:Expr} {ks:List (Option Expr)} {vs:List Expr} {tk tv:TE} (hk:PE X k tk) (hv:PE X v tv) (hr:PPs X pos ks vs trs) :
  PPs X pos (some k::ks) (v::vs) ((tk,tv)::trs):=λpins s σ H Q I h =>
 pairTrees_cons_walk (thn (hk pins s σ H _ I h) λu s1 ⟨x,H1,I1,rx,q1⟩=>thn (hv pins s1 σ H1 _ I1 q1) λw2 s2 ⟨y,H2,I2,ry,q2⟩ =>
  thn (hr pins s2 σ H2 _ I2 q2) λws s3 ⟨ps,H3,I3,rel,q3⟩=>⟨(x,y)::ps,H3,I3,.cons ⟨rx,ry⟩ rel,q3⟩)
noncomputable def nr (kvs more:List (Key × V)):List (Key × V):=more.foldl (λacc kv=>vD acc kv.1 kv.2) kvs
theorem KV.merge:∀ {more:List (Key × V)} {rs:List (Key × Value)} {kvs:List (Key × V)} {vs:List (Key × Value)},KV more rs->KV kvs vs->KV (nr kvs more) (merged vs rs):=by
 intro more rs kvs vs r;unfold KV at r
 induction r generalizing kvs vs with
 | nil=>intro q;exact q
 | @cons p q ps qs h t ih =>
  intro r0
  have e:KV (vD kvs p.1 p.2) (stored vs q.1 q.2):=by have:=r0.put p.1 h.2;rw [<- h.1];exact this
  exact ih e
theorem lO:∀ (more kvs:List (Key × V)),(nr kvs more).length<=kvs.length+more.length
 | [],kvs=>by show kvs.length<=kvs.length+0;omega
 | p::r,kvs=>by have h1:=lO r (vD kvs p.1 p.2);have h2:=uP kvs p.1 p.2;show (nr (vD kvs p.1 p.2) r).length<=_;rw [List.length_cons];omega
theorem oY {P:Program} {w:World}:∀ {kvs:List (Key × V)} {ws:List (Value × Value)},VV (kvs.map λkv=>(kV kv.1,kv.2)) ws->∃ rs,Carries (fH P w) ws rs/\KV kvs rs
 | [],_,r=>by rw [List.map_nil] at r;cases r;exact ⟨[],True.intro,.nil⟩
 | p::kvs,_,r=>by
  rw [List.map_cons] at r
  cases r with
  | @cons a b as bs h t =>obtain ⟨rs,c,q⟩:=oY (P:=P) (w:=w) t;obtain ⟨b1,b2⟩:=b;exact ⟨(p.1,b2)::rs,⟨AD h.1,rfl,c⟩,.cons ⟨rfl,h.2⟩ q⟩
noncomputable def Gn (trs:List (TE × TE)):TE:=λσ H Q=>∀ p,H p=none->xh trs σ (upd H p (.dK [])) λps H2=>H2 p=some (.dK [])/\∃ kvs:List (Key × V),ps=kvs.map (λkv=>(kV kv.1,kv.2))/\kvs.length<=15/\Q (.ref p) (upd H2 p (.dK (nr [] kvs)))
theorem C8 {keys:List (Option Expr)} {values:List Expr} (h:PPs X pos keys values trs) (hall:keys.all (·.isSome)=true) (hl:keys.length=values.length) (h0:keys≠[])
  (h15:keys.length<=15):PE X (.Dict keys values pos) (Gn trs):=by
 intro pins s σ H Q I q;have hn:=I.hok.fresh (Nat.le_refl s.heap.objs.size);have I1:=I.laid (a:=s.heap.objs.size) (o:=.dK []) (h':=s.heap.push { cls:=.type "dict",data:=.dict #[] }) (t':=s.toks) (λ_ _ q=>Heap.get?_push_of_some _ q) (Nat.le_refl _) (Ah s.heap I.big);refine wpAny_Dict_walk (knd:=fH X.prog X.w) hall hl h0 h15 (thn (h pins _ σ _ _ I1 (q _ hn)) λws s2 ⟨ps,H2,I2,rel,e,kvs,ep,lk,q2⟩=>?_);subst ep;obtain ⟨rs,c,rk⟩:=oY (P:=X.prog) (w:=X.w) rel;obtain ⟨z,hd,vs0,r0,dd⟩:=FQ I2.hok e;cases r0;refine ⟨rs,c,dd,λh' dd' hs=>⟨.ref s.heap.objs.size,_,?_,rfl,q2⟩⟩
 have hz:(nr [] kvs).length<=sizeLine:=by have h1:=lO kvs [];rw [List.length_nil] at h1;rw [sizeLine_eq];omega
 have he:∃ q,h'.get? s.heap.objs.size=some q:=let ⟨q,_,_,hq,_⟩:=dd';⟨q,hq⟩;exact Ck I2 (by rw [e];exact True.intro) hs he (EE hz hd (rk.merge .nil) dd')
structure M2 (X:Cx) (o:Expr) (m:Str) (apos:Pos) (e f:Expr) (cpos:Pos):Prop where
 base:attributeBase o m X.env (eval o X.env)=eval o X.env
 few:((backTo cpos (starEach [e,f] X.env)).all (λx=>!x.1) && (backToKw cpos (keywordEach [] X.env)).all (λx=>x.1.isSome)
  && decide (([e,f]:List Expr).length+([]:List Keyword).length+(if ([]:List Keyword).isEmpty then 0 else 1) < 30))=true
 line:(apos.endLine == cpos.line)=true
 trees:backTo cpos (starEach [e,f] X.env)=[(false,eval e X.env),(false,eval f X.env)]
section
variable {X:Cx} {pins:List (Addr × Obj)} {σ:St} {H:Hp} {s:Shared} {a:Addr} {y d:V} {u r:Value} {o:Option V} {A:Around} {E:Value->Shared->Prop}
end
section
variable {X:Cx} {o e f:Expr} {apos cpos:Pos} {td ty tx:TE}
end
section
variable {X:Cx} {pins:List (Addr × Obj)} {σ:St} {H:Hp} {s:Shared} {a:Addr} {kvs:List (Key × V)} {A:Around} {E:Value->Shared->Prop}
end
section
variable {X:Cx} {pins:List (Addr × Obj)} {σ:St} {H:Hp} {s:Shared} {a:Addr} {y:V} {u:Value} {A:Around} {E:Value->Shared->Prop}
end
end L2
namespace Att
open PySem PySem.W PySem.Calls PyProof.Rows
variable {P:Params} {h:Heap}
theorem oE:∀ (ns:List Int) (vs:List Value),WellAll P h vs (ns.map WData.int)->IntsAre vs ns:=by
 intro ns
 induction ns with
 | nil =>intro vs w;rw [List.map_nil] at w;cases w;exact .nil
 | cons n ns ih =>
  intro vs w;rw [List.map_cons] at w
  cases w with
  | cons a b =>cases a;exact .cons _ _ (ih _ b)
variable {l:OpenLaw} {n:Nat}
theorem zl (hn:l.most=some n) {args:List WData} {vals:List Value}
  (hpre:l.row.toRowW.claim.pre args=true) (hwl:WellAll P h vals args) :
  ∃ a vs ns,vals=[Value.ref a]/\args=[WData.list (ns.map WData.int)]/\h.get? a=some { cls:=.type "list",data:=.seq vs.toArray }/\IntsAre vs ns/\ns.length<=n:=by
 have hsh:WShape.hasAll [] args [.list .int]=true:=(pre_splitW hpre).1;have hc:l.pre.holds [] { args:=args }=true:=(pre_splitW hpre).2;obtain ⟨d,r,rfl,h1,h2⟩:=hasAllW_cons hsh;obtain rfl:=hasAllW_nil h2;obtain ⟨xs,rfl,h3⟩:=hasW_list h1;obtain ⟨ns,rfl⟩:=items_int h3
 have hlen:ns.length<=n:=by
  unfold OpenLaw.pre at hc
  have h4:(WTm.not (.lt (.lit (.int (n:Int))) (.len (.arg 0)))).holds [] { args:=[.list (ns.map .int)] }=true:=by have h4:=(holds_andW hc).1;rw [hn] at h4;exact h4
  have h5:=condW_of h4 (w_not (w_lt w_lit (w_len_list (w_arg rfl))));rw [List.length_map] at h5;refine Nat.le_of_not_lt λq=>?_;have q':(n:Int) < ((ns.length:Nat):Int):=by omega
  first
   | (rw [decide_eq_true q'] at h5;exact absurd h5 (by decide))
   | (simp at h5;omega)
 cases hwl with
 | cons w1 w2 =>
  cases w2
  cases w1 with
  | list ho hall=>exact ⟨_,_,ns,rfl,rfl,ho,oE ns _ hall,hlen⟩
theorem yV (l:OpenLaw) (args:List WData):l.row.toRowW.claim.post args (.bool true) args=true :=
 postW_of (r:=l.row.toRowW) (X:=(true == true))
  (show WShape.has [] (.bool true) .bool=true by first | rfl | decide | simp [WShape.has,WShape.arms,WShape.armsAll])
  (show (WTm.eq .res (.lit (.bool true))).value [] { args:=args,res:=some (.bool true),after:=args }=some (.bool (true == true)) from w_eq_bool (w_res rfl) w_lit) rfl
theorem attach_call {q:Program} {loose:List Str} {XP:(Str->Option Value)->Heap->Prop} {YP:World->Heap->Prop} {d:DefRec}
  (hn:l.most=some n) (hdf:d.params.defaults=[])
  (call:∀ (w:World) (s₀ s₁:Shared) (mg mb:Str->Option Value) (fa:Addr) (o:Obj) (pm cd doc:Value) (a:Addr) (vs:List Value) (ns:List Int),
   Ground q loose [] XP w s₀ mg mb s₁.heap->YP w s₁.heap ->
   s₁.heap.get? fa=some o->o.data=.func (docDef d.name d.params d.body d.scope pm cd doc)->s₁.heap.CodeRec cd d.name->mg d.name=some (.ref fa) ->
   s₁.heap.get? a=some { cls:=.type "list",data:=.seq vs.toArray }->IntsAre vs ns->ns.length<=n->s₁.gens=#[] ->
   codeAny (model l.prog w) callerA (.call (.ref fa) ⟨[.ref a],[]⟩) (λr s'=>r=.ok (.ret (.bool true))/\OldK s₁.heap s'.heap/\s'.os=s₁.os/\AllBare s'.gens) s₁) :
  WalkO q loose XP YP l.row.toRowW d [] (λf vs=>PySem.call f vs):=by
 intro w s₀ s₁ mg mb G Y fa o pm cd doc dV kV ho hd hcd hD hmg hg args vals as hpre hlay hrd hwl hlo;obtain rfl:dV=.none:=Dflts.none hD hdf;obtain rfl:kV=.none:=Dflts.noKw hD;obtain ⟨a,vs,ns,rfl,rfl,hobj,hints,hlen⟩:=zl hn hpre hwl;refine enter_call (codeAny_mono (call w s₀ s₁ mg mb fa o pm cd doc a vs ns G Y ho (fd_plain hd) hcd hmg hobj hints hlen hg) λr s' hq=>?_);obtain ⟨rfl,h2,h3,h4⟩:=hq;exact ⟨.inl ⟨.bool true,.bool true,[],rfl,λ_=>rfl,.bool true,yV l _,λ_=>⟨List.Pairwise.nil,λ_ hm=>(nomatch hm)⟩⟩,h2,h3,h4⟩
section
variable {prog:Program} {w:World} {A:Around} {E:Value->Shared->Prop} {s:Shared} {K:Frag}
end
end Att
namespace L2
open PySem PySem.Spec PyProof.Rows
theorem rV:∀ {vs:List Value} {ns:List Int},IntsAre vs ns->Vals (ns.map V.int) vs
 | _,_,.nil=>.nil
 | _,_,.cons n t h=>.cons ⟨t,rfl⟩ (rV h)
def B7 (H:Hp):Prop:=∀ b,H b=none\/∃ o xs,H b=some (.frz o (.lst xs))
variable {P:Program} {w:World} {K:W.Frag} {mg:Str->Option Value} {CX:CXT} {a:Addr} {fd:FuncData} {x:Str} {sp:Sp} {ns:List Int}
theorem AG {mb:Str->Option Value} {k:Nat} {fa:Addr} {s₁:Shared} {vs:List Value}
  (KX:K.In s₁.heap) (hns:s₁.heap.Ns mainGlobals mg) (hb:s₁.heap.Ns builtinsNs mb) (hbb:∀ x:Str,x≠"__name__"->mb x=bootBuiltins x) (hlim:s₁.heap.NoLimit) (hg:s₁.gens=#[])
  (ha:s₁.heap.get? a=some { cls:=.type "list",data:=.seq vs.toArray }) (hi:IntsAre vs ns) (hl:ns.length<=sizeLine) (hr:Room k callerA)
  (F:∀ base:Heap,K.In base->base.Ns mainGlobals mg->FnOk P w K mg base CX k fa fd [x] sp) (hbind:∀ (s:Shared) (u:Value),BindsTo s fd ⟨[u],[]⟩ [(x,u)])
  (hsp:∀ H:Hp,B7 H->SqL K H a (ns.map V.int)->sp [.ref a] H (λv _=>v=.bl true) λ_ _ _=>False)
  (hCX:∀ H e s',CX [] H s₁ (λ_ _ _=>False) e s'->False) :
  codeAny (model P w) callerA (.call (.ref fa) ⟨[.ref a],[]⟩) (λr s'=>r=.ok (.ret (.bool true))/\OldK s₁.heap s'.heap/\s'.os=s₁.os/\AllBare s'.gens) s₁:=by
 have rv:=rV hi;have lenV:=hi.length
 have core:∀ H:Hp,B7 H->SqL K H a (ns.map V.int)->HOk P w H s₁.heap->(∀ b,H b≠none->b=a)->(H a≠none->K.lookup a=none) ->
   codeAny (model P w) callerA (.call (.ref fa) ⟨[.ref a],[]⟩) (λr s'=>r=.ok (.ret (.bool true))/\OldK s₁.heap s'.heap/\s'.os=s₁.os/\AllBare s'.gens) s₁:=by
  intro H hO hS hok hA hK;have base_of:∀ {b:Addr} {o:Obj},s₁.heap.get? b=some o->H b=none->(sL s₁.heap H).get? b=some o:=λe n=>Ay e n
  have noA:∀ {b:Addr} {o:Obj} {es:Array DictEntry} {ep:Nat},s₁.heap.get? b=some o->o.data=.dict es ep->H b=none:=λ{b o es ep} e d=>by
   cases q:H b with
   | none=>rfl
   | some u =>have e':b=a:=hA b (by rw [q];simp);subst e';rw [ha] at e;cases e;have d':Data.seq vs.toArray _=Data.dict es ep:=d;cases d'
  have nsK:∀ {b:Addr} {m:Str->Option Value},s₁.heap.Ns b m->(sL s₁.heap H).Ns b m:=λ{b m} ⟨o,es,ep,e,d,r⟩=>⟨o,es,ep,base_of e (noA e d),d,r⟩
  have hKb:K.In (sL s₁.heap H):=λb o e=>base_of (KX b o e) (by
   cases q:H b with
   | none=>rfl
   | some u =>have e':b=a:=hA b (by rw [q];simp);subst e';rw [hK (by rw [q];simp)] at e;cases e)
  have hM:Mod K mg (sL s₁.heap H):=⟨hKb,nsK hns,⟨mb,nsK hb,hbb⟩,let ⟨mc,h1,h2⟩:=hlim;⟨mc,nsK h1,h2⟩⟩
  have e0:B6 P w K mg (sL s₁.heap H) callerA [] s₁ H:=⟨rfl,hM,λb o e=>CZ e,Nat.le_of_eq (yB _ _),trivial,λb hb=>absurd (show b ∈ ([]:List Addr) from hb) (by simp),hok,.of_eq hg⟩
  refine codeAny_mono ((F _ hKb (nsK hns)).run callerA [] s₁ H ⟨[.ref a],[]⟩ [.ref a] [.ref a] _ _ hr e0 (hbind s₁ (.ref a)) (.cons rfl .nil) (hsp H hO hS)) λr s' h=>?_
  cases r with
  | error e=>exact (hCX H e s' h).elim
  | ok fl =>
   cases fl with
   | next=>exact False.elim h
   | brk=>exact False.elim h
   | cont=>exact False.elim h
   | ret u =>
    obtain ⟨v,H',os,bare,un,hok',r',q⟩:=h;have q':v=.bl true:=q;subst q';obtain rfl:u=Value.bool true:=r';refine ⟨rfl,OldK.of_keep λb o e=>?_,os,bare⟩
    cases q:H b with
    | none=>exact un.keep b o e q (by intro z;exact absurd (show b ∈ ([]:List Addr) from z) (by simp)) (by simp)
    | some u =>
     rcases hO b with z | ⟨ob,xs,z⟩
     ·rw [q] at z;cases z
     ·have z2:=un.frzs b ob _ z;obtain ⟨e1,_⟩:=hok b _ z;obtain ⟨e2,_⟩:=hok' b _ z2;rw [e] at e1;cases e1;exact e2
 cases hk:K.lookup a with
 | some o =>have e:=KX a o hk;rw [ha] at e;cases e;refine core (λ_=>none) (λ_=>.inl rfl) (.inr ⟨_,vs.toArray,_,hk,rfl,rfl,rfl,by rw [List.size_toArray,lenV];exact hl,by simpa using rv⟩) (λb u z=>by have z':(none:Option HO)=some u:=z;cases z') (λb z=>absurd rfl z) λz=>absurd rfl z
 | none =>
  refine core (λb=>if b=a then some (.frz { cls:=.type "list",data:=.seq vs.toArray } (.lst (ns.map V.int))) else none) (λb=>?_) (.inl (.inr ⟨{ cls:=.type "list",data:=.seq vs.toArray },if_pos rfl⟩)) (λb u z=>?_) (λb z=>?_) λ_=>hk
  ·by_cases hb:b=a
   ·exact .inr ⟨_,_,if_pos hb⟩
   ·exact .inl (if_neg hb)
  ·by_cases hb:b=a
   ·have z':=(if_pos hb).symm.trans z;cases z';subst hb;exact ⟨ha,by rw [List.length_map];exact hl,vs,_,rv,ha⟩
   ·have z':=(if_neg hb).symm.trans z;cases z'
  ·by_cases hb:b=a
   ·exact hb
   ·exact absurd (if_neg hb) z
variable {n:Nat}
theorem walk_of {l:W.OpenLaw} {k:Nat} {q:Program} {loose:List Str} {XP:(Str->Option Value)->Heap->Prop} {YP:World->Heap->Prop} {d:DefRec} {K:Params->W.Frag} {CX:World->CXT} {sp:World->Sp}
  (hn:l.most=some n) (hn2:n<=sizeLine) (hdf:d.params.defaults=[]) (hr:Room k callerA)
  (hY:∀ (w:World) (h:Heap),YP w h->(K w.params).In h)
  (F:∀ (w:World) (mg:Str->Option Value) (fa:Addr) (h:Heap),(K w.params).In h->h.Ns mainGlobals mg->mg d.name=some (.ref fa) ->
   ∃ fd:FuncData,(∀ (s:Shared) (u:Value),BindsTo s fd ⟨[u],[]⟩ [(x,u)]) /\
    ∀ base:Heap,(K w.params).In base->base.Ns mainGlobals mg->FnOk l.prog w (K w.params) mg base (CX w) k fa fd [x] (sp w))
  (hsp:∀ (w:World) (H:Hp) (a:Addr) (ns:List Int),ns.length<=n->B7 H->SqL (K w.params) H a (ns.map V.int)->sp w [.ref a] H (λv _=>v=.bl true) λ_ _ _=>False)
  (hCX:∀ (w:World) (H:Hp) (s:Shared) (e:Value) (s':Shared),CX w [] H s (λ_ _ _=>False) e s'->False) :
  W.WalkO q loose XP YP l.row.toRowW d [] (λf vs=>PySem.call f vs):=by
 refine Att.attach_call hn hdf λw s₀ s₁ mg mb fa o pm cd doc a vs ns G Y ho hd hcd hmg hobj hints hlen hg=>?_;have KX:=hY w _ Y;obtain ⟨fd,hb,hF⟩:=F w mg fa _ KX G.T.g hmg;exact AG KX G.T.g G.T.b G.T.builtins G.T.nolimit hg hobj hints (Nat.le_trans hlen hn2) hr hF hb (λH hO hS=>hsp w H a ns hlen hO hS) λH e s'=>hCX w H s₁ e s'
noncomputable def mr (s:Stmt):Arguments:=match s with
 | .FunctionDef _ a _ _ _ _ _ _ _ _=>a
 | _=>{ posonlyargs:=[],args:=[],vararg:=none,kwonlyargs:=[],kw_defaults:=[],kwarg:=none,defaults:=[] }
noncomputable def k9 (s:Stmt):List Stmt:=match s with
 | .FunctionDef _ _ b _ _ _ _ _ _ _=>b
 | _=>[]
noncomputable def aO (s:Stmt):Scope:=match s with
 | .FunctionDef _ _ _ _ _ _ sc _ _ _=>sc
 | _=>{ kind:=.function,names:=[],isGenerator:=false,isCoroutine:=false }
noncomputable abbrev CX0:CXT:=λ_ _ _ _ _ _=>False
noncomputable abbrev E0:XK:=λ_ _ _=>False
variable {X:Cx}
theorem A3:rX CX0 X E0:=λ_ _ _ _ _ _ _ h=>h.elim
structure Fun (K:W.Frag) (x qual:Str) (st:Stmt) (f:Addr) (fd:FuncData):Prop where
 ex:∃ (oc:Value) (od:Option Addr) (kV doc pm:Value) (an:Option Addr) (cdv ct:Value) (osl:Array (Option Value)),
  fd=W.fnOf x qual (mr st) (k9 st) (aO st) .none kV doc pm an cdv ct/\K.lookup f=some ⟨oc,od,.func fd,osl⟩/\W.codeIn K cdv qual=true
 kp:W.keepIn K (.ref f)=true
section
variable {P:Program} {w:World} {K:W.Frag} {mg:Str->Option Value} {base:Heap}
variable {x qual:Str} {st:Stmt} {f:Addr}
theorem Fun.ok {fd:FuncData} {N ps:List Str} {k:Nat} {sp:Sp} (F:Fun K x qual st f fd) (S:FnScope N ps (aO st)) (len:∀ vs H Q E,sp vs H Q E->vs.length=ps.length)
  (hbody:∀ (cdv:Value) (A:Around) (outer:List Env) (s:Shared) (H:Hp) (vs:List V) (Q:VK) (E:XK),Room k (A.deeper (envOfC qual (aO st) s.heap.objs.size f cdv))->sp vs H Q E ->
   ∃ t,PSs (yv CX0 P w K mg base N qual (aO st) f cdv A outer s H E).nox (k9 st) t/\t { nx:=λ_ H'=>Q .non H',rt:=Q } (f7 N vs) H):FnOk P w K mg base CX0 (k+1) f fd ps sp:=by
 obtain ⟨oc,od,kV,doc,pm,an,cdv,ct,osl,rfl,lk,hcd⟩:=F.ex;refine FR lk hcd S len λA outer s H vs Q E hr hsp=>?_;obtain ⟨t,h,q⟩:=hbody cdv A outer s H vs Q E hr hsp;exact ⟨t,h.nox,q⟩
theorem EI {oc:Value} {od an:Option Addr} {osl:Array (Option Value)} {kV doc pm cdv ct:Value} (l:K.lookup f=some ⟨oc,od,.func (W.fnOf x qual (mr st) (k9 st) (aO st) .none kV doc pm an cdv ct),osl⟩)
  (c:W.codeIn K cdv qual=true) (k:W.keepIn K (.ref f)=true):Fun K x qual st f (W.fnOf x qual (mr st) (k9 st) (aO st) .none kV doc pm an cdv ct):=⟨⟨oc,od,kV,doc,pm,an,cdv,ct,osl,rfl,l,c⟩,k⟩
end
variable {A:Around}
theorem xM {k:Nat} (hr:Room k A):A.units+1 < cLine:=Nat.lt_of_le_of_lt (Nat.add_le_add_left (by decide:1<=64) _) hr.units
theorem bX (h:n<=1000):n < sizeLine:=Nat.lt_of_le_of_lt h (by decide)
section
variable {X:Cx}
theorem pv (i:Nat) {x:Str} {pos:Pos} (hN:X.N[i]?=some x:=by rfl) (hv:Vis X.env.scope x:=by first | exact Or.inl rfl | exact Or.inr (Or.inl rfl) | exact Or.inr (Or.inr rfl)) (hd:(x == ("__debug__":Str))=false:=by decide)
  (hcd:(x == ("__classdict__":Str))=false:=by decide):PE X (.Name x pos) (hW i):=E7 hN hv hd hcd
end
theorem jN {A B:Prop} (h:B):if false=true then A else B:=by rw [if_neg Bool.false_ne_true];exact h
theorem jv {A B:Prop} (h:A):if true=true then A else B:=by rw [if_pos rfl];exact h
theorem qE {c A B:Prop} [Decidable c] (h1:c->A) (h2:¬ c->B):if c then A else B:=by
 by_cases h:c
 ·rw [if_pos h];exact h1 h
 ·rw [if_neg h];exact h2 h
def Same (H H':Hp):Prop:=∀ b o,H b=some o->H' b=some o
theorem Same.refl (H:Hp):Same H H:=λ_ _ h=>h
variable {H H1:Hp}
theorem Same.trans {H2:Hp} (a:Same H H1) (b:Same H1 H2):Same H H2:=λc o h=>b c o (a c o h)
variable {H':Hp} {l:Addr}
theorem Same.free (e:Same H H') (h:H' l=Option.none):H l=Option.none:=by
 cases q:H l with
 | none=>rfl
 | some o =>rw [e l o q] at h;cases h
variable {xs:List V}
theorem Same.seq (e:Same H H') (h:SqL K H a xs):SqL K H' a xs:=by
 rcases h with (h | ⟨o,h⟩) | h
 ·exact .inl (.inl (e _ _ h))
 ·exact .inl (.inr ⟨o,e _ _ h⟩)
 ·exact .inr h
section
variable {κ:Type} [DecidableEq κ]
end
noncomputable def rk (env:Env) (x:Str) (k:NameKind):NameKind :=
 if (k == NameKind.free && env.scope.kind == .function && env.kindOf x == some .cell)=true then .cell else k
theorem tV (sc:Scope) (env:Env) (x:Str):(relabel sc env).names.lookup x=(sc.names.lookup x).map (rk env x):=by
 have all:∀ l:List (Str × NameKind),(l.map λ(n,k)=>if (k == NameKind.free && env.scope.kind == .function && env.kindOf n == some .cell) then (n,NameKind.cell) else (n,k)).lookup x=(l.lookup x).map (rk env x):=by
  intro l
  induction l with
  | nil=>rfl
  | cons p r ih =>
   obtain ⟨n,k⟩:=p;rw [List.map_cons]
   cases hx:x == n with
   | true =>
    have e:x=n:=by simpa using hx
    subst e;by_cases c:(k == NameKind.free && env.scope.kind == .function && env.kindOf x == some .cell)=true
    ·simp [List.lookup_cons,rk,c]
    ·simp [List.lookup_cons,rk,c]
   | false =>
    have e1:((n,k)::r).lookup x=r.lookup x:=by rw [List.lookup_cons,hx]
    rw [e1,<- ih];by_cases c:(k == NameKind.free && env.scope.kind == .function && env.kindOf n == some .cell)=true
    ·show List.lookup x ((if (k == NameKind.free && env.scope.kind == .function && env.kindOf n == some .cell)=true then (n,NameKind.cell) else (n,k))::_)=_;rw [if_pos c,List.lookup_cons,hx]
    ·show List.lookup x ((if (k == NameKind.free && env.scope.kind == .function && env.kindOf n == some .cell)=true then (n,NameKind.cell) else (n,k))::_)=_;rw [if_neg c,List.lookup_cons,hx]
 exact all sc.names
variable {env:Env}
theorem Dx:rk env x .free=.cell\/rk env x .free=.free:=by
 unfold rk;split
 ·exact .inl rfl
 ·exact .inr rfl
theorem Fs {k:NameKind} (h:k≠.free):rk env x k=k:=by
 unfold rk;rw [if_neg];intro c
 have:(k == NameKind.free)=true:=by
  cases q:(k == NameKind.free) with
  | true=>rfl
  | false=>rw [q] at c;simp at c
 exact h (by simpa using this)
noncomputable def FZ:Option NameKind->Bool
 | some .free=>true
 | _=>false
noncomputable def FY:Option NameKind->Bool
 | some .free=>true
 | some .cell=>true
 | _=>false
noncomputable def F0:Option NameKind->Bool
 | some .local=>true
 | _=>false
variable {o:Option NameKind}
theorem CJ (h:FZ o=true):o=some .free:=by
 cases o with
 | none=>cases h
 | some k=>cases k <;> first | rfl | cases h
theorem CI (h:FY o=true):o=some .cell\/o=some .free:=by
 cases o with
 | none=>cases h
 | some k=>cases k <;> first | exact .inl rfl | exact .inr rfl | cases h
theorem CK (h:F0 o=true):o=some .local:=by
 cases o with
 | none=>cases h
 | some k=>cases k <;> first | rfl | cases h
noncomputable def cZ (N:List Str) (ok:Str->Option NameKind) (names:List (Str × NameKind)) (own:List Str) (fr:List Nat) (N':List Str):Bool :=
 decide (N'=own++fr.map λj=>N.getD j "") && (fr.all λj=>decide (j < N.length) && FZ (names.lookup (N.getD j ""))) &&
  names.all λp=>match p.2 with
   | .free=>FY (ok p.1)
   | .cell=>false
   | .local=>F0 (names.lookup p.1)
   | _=>true
structure Blk (N:List Str) (ok:Str->Option NameKind) (names:List (Str × NameKind)) (own:List Str) (fr:List Nat) (N':List Str):Prop where
 eN:N'=own++fr.map λj=>N.getD j ""
 fr:∀ j ∈ fr,j < N.length/\names.lookup (N.getD j "")=some .free
 free:∀ p ∈ names,p.2=.free->ok p.1=some .cell\/ok p.1=some .free
 cell:∀ p ∈ names,p.2≠.cell
 loc:∀ p ∈ names,p.2=.local->names.lookup p.1=some .local
theorem zQ {N:List Str} {ok:Str->Option NameKind} {names:List (Str × NameKind)} {own:List Str} {fr:List Nat} {N':List Str} (h:cZ N ok names own fr N'=true):Blk N ok names own fr N':=by
 unfold cZ at h;rw [Bool.and_eq_true,Bool.and_eq_true] at h;obtain ⟨⟨h1,h2⟩,h3⟩:=h;have h3':=List.all_eq_true.mp h3;refine ⟨of_decide_eq_true h1,λj hj=>?_,λp hp e=>?_,λp hp e=>?_,λp hp e=>?_⟩
 ·have q:=List.all_eq_true.mp h2 j hj;rw [Bool.and_eq_true] at q;exact ⟨of_decide_eq_true q.1,CJ q.2⟩
 ·have q:=h3' p hp;rw [e] at q;exact CI q
 ·have q:=h3' p hp;rw [e] at q;cases q
 ·have q:=h3' p hp;rw [e] at q;exact CK q
noncomputable def mkS (own:List Str) (fr:List Nat) (σ:St):St:=own.map (λ_=>none)++fr.map λj=>(σ[j]?).getD none
theorem FO (sc:Scope) (env:Env) (h:∀ p ∈ sc.names,p.2=.free->∃ c,env.cells.lookup p.1=some c) :
  ∃ cl,closureFor sc env=pure cl/\(∀ x c,cl.lookup x=some c->env.cells.lookup x=some c)/\∀ p ∈ sc.names,p.2=.free->cl.lookup p.1=env.cells.lookup p.1:=by
 unfold closureFor
 have all:∀ (l:List (Str × NameKind)) (acc:List (Str × Addr)),(∀ p ∈ l,p.2=.free->∃ c,env.cells.lookup p.1=some c)->(∀ x c,acc.lookup x=some c->env.cells.lookup x=some c) ->
   ∃ cl,(forIn l acc λ(p:Str × NameKind) (r:List (Str × Addr))=>(match p with
    | (name,kind)=>if (kind == NameKind.free)=true then (do let a <- cellOf env name;pure (ForInStep.yield ((name,a)::r))) else pure (ForInStep.yield r):Sem (ForInStep (List (Str × Addr)))))=pure cl /\
    (∀ x c,cl.lookup x=some c->env.cells.lookup x=some c)/\(∀ p ∈ l,p.2=.free->cl.lookup p.1=env.cells.lookup p.1)/\∀ x,acc.lookup x=env.cells.lookup x->cl.lookup x=env.cells.lookup x:=by
  intro l
  induction l with
  | nil=>intro acc _ ha;exact ⟨acc,rfl,ha,λp hp=>(by simp at hp),λx e=>e⟩
  | cons p r ih =>
   intro acc hl ha;obtain ⟨n,k⟩:=p;rw [List.forIn_cons];by_cases hk:k=.free
   ·subst hk;obtain ⟨c,hc⟩:=hl (n,.free) List.mem_cons_self rfl;have hce:cellOf env n=pure c:=by unfold cellOf;rw [hc]
    obtain ⟨cl,e1,e2,e3,e4⟩:=ih ((n,c)::acc) (λp hp=>hl p (List.mem_cons_of_mem _ hp)) (λx c' e=>by
     rw [List.lookup_cons] at e
     cases hx:x == n with
     | true =>
      rw [hx] at e;have:x=n:=by simpa using hx
      subst this;cases e;exact hc
     | false=>rw [hx] at e;exact ha x c' e)
    refine ⟨cl,?_,e2,λp hp e=>?_,λx e=>e4 x ?_⟩
    ·simp only [beq_self_eq_true,if_true,hce];exact e1
    ·rcases List.mem_cons.mp hp with rfl | hp
     ·exact e4 n (by rw [List.lookup_cons];simp [hc])
     ·exact e3 p hp e
    ·rw [List.lookup_cons]
     cases hx:x == n with
     | true =>
      have:x=n:=by simpa using hx
      subst this;simp [hc]
     | false=>exact e
   ·have hb:(k == NameKind.free)=false:=by simpa using hk
    obtain ⟨cl,e1,e2,e3,e4⟩:=ih acc (λp hp=>hl p (List.mem_cons_of_mem _ hp)) ha;refine ⟨cl,?_,e2,λp hp e=>?_,e4⟩
    ·simp only [hb,Bool.false_eq_true,if_false];exact e1
    ·rcases List.mem_cons.mp hp with rfl | hp
     ·exact absurd e hk
     ·exact e3 p hp e
 obtain ⟨cl,e1,e2,e3,_⟩:=all sc.names [] h (λx c e=>by simp at e);refine ⟨cl,?_,e2,e3⟩;have e1':=congrArg (λt:Sem (List (Str × Addr))=>t >>= λcs=>pure cs) e1
 first
  | exact e1'
  | (simp only [pure_bind] at e1';exact e1')
  | (refine Eq.trans ?_ e1';rfl)
  | (dsimp only at e1' ⊢;exact e1')
noncomputable def Cx.blk (X:Cx) (sc:Scope) (cl:List (Str × Addr)) (C:Addr) (N:List Str) (s:Shared) (H:Hp) (fp:List Addr):Cx where
 prog:=X.prog
 w:=X.w
 K:=X.K
 mg:=X.mg
 base:=X.base
 A:=X.A
 N:=N
 s₀:=s
 H₀:=H
 env:=compEnvC sc cl C X.env
 outer:=X.stack
 stack:=X.stack
 ex:=fp
 fn:=λ_=>false
 calm:=X.calm
 pn:=[]
 xe:=λ_ _=>False
section
variable {X:Cx} {pins:List (Addr × Obj)} {σ:St} {H:Hp} {s:Shared} {sc:Scope} {cl:List (Str × Addr)} {own:List Str} {fr:List Nat} {N':List Str} {fp:List Addr}
variable {C:Addr}
theorem yo (I:Inv X pins σ H s) (B:Blk X.N X.env.kindOf sc.names own fr N') (hk:sc.kind=.function)
  (sub:∀ x c,cl.lookup x=some c->X.env.cells.lookup x=some c) (has:∀ p ∈ sc.names,p.2=.free->cl.lookup p.1=X.env.cells.lookup p.1)
  (f2:∀ b ∈ fp,qz X pins H b) (fo:∀ b ∈ fp,b < s.heap.objs.size) {h1:Heap} {tk:Nat} {D:Addr} {n:Nat} (eD:D=s.heap.objs.size) (eC:s.heap.objs.size < C)
  (hns:h1.Ns C (λ_=>none)) (old:∀ b o,s.heap.get? b=some o->h1.get? b=some o) (hD:h1.get? D=some { cls:=.type "list",data:=.seq ([]:List Value).toArray n }) :
  Inv (X.blk sc cl C N' s H fp) [] (mkS own fr σ) (upd H D (.lst [])) { s with heap:=h1,toks:=tk }:=by
 have hcells:∀ x c,cl.lookup x=some c->c < s.heap.objs.size:=λx c e=>by obtain ⟨v,q⟩:=I.cell x c (sub x c e);exact q.lt
 have hDn:H D=none:=I.hok.fresh (Nat.le_of_eq eD.symm);have kind:∀ x,(X.blk sc cl C N' s H fp).env.kindOf x=(sc.names.lookup x).map (rk X.env x):=λx=>tV sc X.env x
 refine ⟨⟨I.ok.mod,hk,I.ok.glob,I.ok.blt,Nat.le_of_lt eC,λx y c e1 e2=>I.ok.inj x y c (sub x c e1) (sub y c e2),λx hx=>?_,(λx c e=>nomatch (show false=true from e)),I.ok.hd,I.ok.frames,.inl rfl,λb hb=>⟨?_,λx c e=>?_⟩,I.bs,Nat.le_trans I.ok.bsz I.sz,λb o e hb=>?_,λb hb=>?_,I.stack,I.stkFree⟩,
  rfl,I.bare,Un.laid old (Nat.le_of_eq eD.symm) hDn,⟨_,hns,λi x v e1 e2 e3=>?_⟩,λx c e=>?_,?_,λx c e=>?_,λp hp=>?_,I.hok.laid old (Nat.le_of_eq eD.symm) ⟨Nat.zero_le _,[],n,.nil,hD⟩,?_⟩
 ·have hx':(sc.names.lookup x).map (rk X.env x)=some .cell\/(sc.names.lookup x).map (rk X.env x)=some .free:=by
   rw [<- kind x];exact hx
  cases q:sc.names.lookup x with
  | none=>rw [q] at hx';simp at hx'
  | some k =>
   have hm:=PySem.mem_of_lookup q;by_cases hf:k=.free
   ·subst hf;show ∃ c,cl.lookup x=some c;rw [has _ hm rfl];have z:=B.free _ hm rfl;exact I.ok.has x z
   ·rw [q] at hx';simp only [Option.map_some,Fs hf] at hx';rcases hx' with z | z
    ·exact absurd (Option.some.inj z) (B.cell _ hm)
    ·exact absurd (Option.some.inj z) hf
 ·exact Nat.ne_of_lt (Nat.lt_trans (fo b hb) eC)
 ·exact (f2 b hb).2.2.2.2.1 x c (sub x c e)
 ·rcases (f2 b hb).2.2.2.1 with z | z
  ·exact I.ok.noex b o e z
  ·exact absurd (Nat.lt_of_lt_of_le (Heap.lt_size e) (Nat.le_trans I.ok.bsz z)) (Nat.lt_irrefl _)
 ·intro z;rcases List.mem_cons.mp (I.stkSub b z) with e | e
  ·exact (f2 b hb).2.1 e
  ·exact (f2 b hb).2.2.1 e
 ·
  have e1':N'[i]?=some x:=e1
  have hi:¬ i < own.length:=λz=>by unfold mkS at e2;rw [List.getElem?_append_left (by simpa using z),List.getElem?_map,List.getElem?_eq_getElem z] at e2;cases e2
  unfold mkS at e2;rw [List.getElem?_append_right (by simpa using hi),List.length_map,List.getElem?_map] at e2;rw [B.eN,List.getElem?_append_right (by simpa using hi),List.getElem?_map] at e1'
  cases q:fr[i - own.length]? with
  | none=>rw [q] at e2;cases e2
  | some j =>
   rw [q] at e2 e1';simp only [Option.map_some,Option.some.injEq] at e2 e1';obtain ⟨hj,hfr⟩:=B.fr j (List.mem_of_getElem? q)
   have ej:X.N[j]?=some x:=by rw [<- e1',List.getD_eq_getElem?_getD,List.getElem?_eq_getElem hj];rfl
   have eσ:σ[j]?=some (some v):=by
    cases z:σ[j]? with
    | none=>rw [z] at e2;cases e2
    | some o=>rw [z] at e2;simp only [Option.getD_some] at e2;rw [e2]
   rw [e1'] at hfr;have hm:=PySem.mem_of_lookup hfr;have hok:=B.free _ hm rfl;obtain ⟨m0,hn0,hl0⟩:=I.loc
   have hv:Vis X.env.scope x:=by
    rcases hok with z | z
    ·exact .inr (.inl z)
    ·exact .inr (.inr z)
   obtain ⟨u,r,l⟩:=hl0 j x v ej eσ hv;refine ⟨u,r,?_⟩;rcases l with ⟨z,_⟩ | ⟨_,c,hc,o,ho,hd⟩
   ·have hok':X.env.kindOf x=some .cell\/X.env.kindOf x=some .free:=hok;rw [z] at hok';rcases hok' with y | y <;> cases y
   ·refine .inr ⟨?_,c,?_,o,old c o ho,hd⟩
    ·rw [kind x,hfr];rcases Dx (env:=X.env) (x:=x) with y | y
     ·exact .inl (by rw [Option.map_some,y])
     ·exact .inr (by rw [Option.map_some,y])
    ·show cl.lookup x=some c;have z:=has _ hm rfl;exact z.trans hc
 ·obtain ⟨v,o,ho,hd⟩:=I.cell x c (sub x c e);exact ⟨v,o,old c o ho,hd⟩
 ·show upd H D _ C=none;rw [aZ (by rw [eD];exact Nat.ne_of_gt eC)];exact I.hok.fresh (Nat.le_of_lt eC)
 ·show upd H D _ c=none;rw [aZ (by rw [eD];exact Nat.ne_of_lt (hcells x c e))];exact I.freeC x c (sub x c e)
 ·exact absurd (show p ∈ ([]:List (Addr × Obj)) from hp) (by simp)
 ·show (mkS own fr σ).length=N'.length;rw [B.eN];simp [mkS]
theorem xw {σ':St} {H':Hp} {s':Shared} (I:Inv X pins σ H s) (f2:∀ b ∈ fp,qz X pins H b) (J:Inv (X.blk sc cl C N' s H fp) [] σ' H' s'):Inv X pins σ H' s' :=
 I.call' (ch:=fp) J.os J.base J.hok J.bare λb hb=>⟨(f2 b hb).2.2.2.1,(f2 b hb).2.1,(f2 b hb).2.2.2.2.1,(f2 b hb).2.2.2.2.2⟩
theorem Inv.young {s0:Shared} {H0:Hp} {σ0:St} {h':Heap} (I0:Inv X pins σ0 H0 s0) (I:Inv X pins σ H s) (hC:s0.heap.objs.size<=C) (hn:H C=none) (hs:Heap.SameBut C s.heap h'):Inv X pins σ H { s with heap:=h' } :=
 I.turned (t':=s.toks) (λb o hb e=>(hs.2 b hb).trans e) hn (Nat.ne_of_gt (Nat.lt_of_lt_of_le I0.lt hC)) (.inr (Nat.le_trans I0.sz hC))
  (λx c e z=>by
   obtain ⟨v,q⟩:=I0.cell x c e;exact absurd (Nat.lt_of_lt_of_le q.lt (by rw [z];exact hC)) (Nat.lt_irrefl _))
  (λp hp z=>absurd (Nat.lt_of_lt_of_le (Heap.lt_size (I0.pin p hp).1) (by rw [z];exact hC)) (Nat.lt_irrefl _))
end
def zA (X:Cx) (ifs:List Expr) (t:TT):Prop :=
 ∀ (pins:List (Addr × Obj)) (s:Shared) (σ:St) (H:Hp) (Q:Bool->Hp->Prop),Inv X pins σ H s->t σ H Q ->
  wpAny (model X.prog X.w) X.A (forIn ifs true λc r=>if r=true then do let ok <- isTrue c X.env (eval c X.env);pure (ForInStep.yield ok) else pure (ForInStep.yield r)) (TP X pins σ Q) X.xe s
noncomputable def fO:TT:=λ_ H Q=>Q true H
theorem cO:zA X [] fO:=λpins s σ H Q I h=>wpAny_tests_nil ⟨H,I,h⟩
theorem pR {c:Expr} {t:TT} (h:PT X c t):zA X [c] t:=λpins s σ H Q I hw=>wpAny_tests_one (h pins s σ H Q I hw)
section
variable {prog:Program} {w:World} {A:Around} {R:Result->Shared->Prop} {s:Shared}
theorem sj {elt target iter:Expr} {ifs:List Expr} {scope:Scope} {pos:Pos} {it acc:Value} {env:Env} (J:Nat->Shared->Prop)
  (turn:∀ n s,J n s->wpAny (model prog w) A (pyNext it) (λr s₁=>match r with
   | none=>R (.ok .next) s₁
   | some v=>wpAny (model prog w) A (letOwnedTupleGo target it v) (λ_ s₂=>wpAny (model prog w) A (assign target env v) (λ_ s₃ =>
     wpAny (model prog w) A (forIn ifs true λc r=>if r=true then do let ok <- isTrue c env (eval c env);pure (ForInStep.yield ok) else pure (ForInStep.yield r)) (λok s₄ =>
      if ok=true then wpAny (model prog w) A (eval elt env) (λx s₅=>wpAny (model prog w) A (call (.builtin "list.append") [acc,x]) (λ_ s₆=>∃ m,m < n/\J m s₆) (λ_ _=>False) s₅) (λ_ _=>False) s₄
      else ∃ m,m < n/\J m s₄) (λ_ _=>False) s₃) (λ_ _=>False) s₂) (λ_ _=>False) s₁) (λ_ _=>False) s)
  (n:Nat) (h:J n s):codeAny (model prog w) A (.compLoop (.ListComp elt [⟨target,iter,ifs,0⟩] scope pos) 0 it acc env) R s:=by
 refine codeAny_loop rfl J (λn s hJ=>?_) n h;show wpAny (model prog w) A ((compTurn (.ListComp elt [⟨target,iter,ifs,0⟩] scope pos) 0 it acc env).onRaise λx=>do noteFrame x env;theTreesLotGoes x) _ _ s;refine wpAny_noted (wpAny_noRaise ?_);rw [compTurn_list];refine wpAny_bind (wpAny_standAt (wpAny_bind (thn (turn n s hJ) λr s₁ h₁=>?_)))
 cases r with
 | none=>exact wpAny_pure h₁
 | some v =>
  refine wpAny_bind (thn h₁ λ_ s₂ h₂=>wpAny_bind (thn h₂ λ_ s₃ h₃=>wpAny_bind (thn h₃ λok s₄ h₄=>?_)))
  cases ok with
  | false=>exact wpAny_pure ⟨rfl,h₄⟩
  | true=>exact wpAny_bind (wpAny_bind (thn h₄ λx s₅ h₅=>wpAny_bind (thn h₅ λ_ s₆ h₆=>wpAny_pure (wpAny_pure ⟨rfl,h₆⟩))))
end
def h8 (wi:TI) (mk:St->St) (g:TG) (tt:TT) (te:TE):TE:=λσ H Q=>wi σ H λJ H1=>∀ D,H1 D=none->∃ W:Nat->Nat->St->Hp->Prop,(∃ m,W 0 m (mk σ) (upd H1 D (.lst [])))/\∀ i m σ' H',W i m σ' H' ->
 (J.stop i H'/\Q (.ref D) H') \/
 (J.go i H'/\∃ Nx:St->Hp->Prop,(∀ σ'' H'',Nx σ'' H''->∃ m',m' < m/\W (i+1) m' σ'' H'')/\∀ x H'',J.yld i H' x H''->g x σ' H'' λσ2 H2=>tt σ2 H2 λb H3 =>
  if b=true then te σ2 H3 λv H4=>∃ ys,H4 D=some (.lst ys)/\ys.length < sizeLine/\Nx σ2 (upd H4 D (.lst (ys++[v]))) else Nx σ2 H3)
section
variable {X:Cx} {elt iter tg:Expr} {ifs:List Expr} {sc:Scope} {pos:Pos} {wi:TI} {own:List Str} {fr:List Nat} {N':List Str} {g:TG} {tt:TT} {te:TE}
theorem ux {pins:List (Addr × Obj)} {σ:St} {H:Hp} {s:Shared} {cl:List (Str × Addr)} {fp:List Addr} {it:Addr} {J:It} {tn:Nat->Heap->Prop} {E:Value->Shared->Prop} {Q:VK} {RR:Value->Addr->Result->Shared->Prop}
  (I:Inv X pins σ H s) (B:Blk X.N X.env.kindOf sc.names own fr N') (hk:sc.kind=.function) (hc:X.calm=true)
  (sub:∀ x c,cl.lookup x=some c->X.env.cells.lookup x=some c) (has:∀ p ∈ sc.names,p.2=.free->cl.lookup p.1=X.env.cells.lookup p.1)
  (T:oB X.prog X.w X.K tg J fp it tn) (st:tn 0 s.heap) (f2:∀ b ∈ fp,qz X pins H b)
  (hg:∀ cl C s H fp,PG (X.blk sc cl C N' s H fp) tg g) (ht:∀ cl C s H fp,zA (X.blk sc cl C N' s H fp) ifs tt) (he:∀ cl C s H fp,PE (X.blk sc cl C N' s H fp) elt te)
  (hw:∀ D,H D=none->∃ W:Nat->Nat->St->Hp->Prop,(∃ m,W 0 m (mkS own fr σ) (upd H D (.lst [])))/\∀ i m σ' H',W i m σ' H' ->
   (J.stop i H'/\Q (.ref D) H') \/
   (J.go i H'/\∃ Nx:St->Hp->Prop,(∀ σ'' H'',Nx σ'' H''->∃ m',m' < m/\W (i+1) m' σ'' H'')/\∀ x H'',J.yld i H' x H''->g x σ' H'' λσ2 H2=>tt σ2 H2 λb H3 =>
    if b=true then te σ2 H3 λv H4=>∃ ys,H4 D=some (.lst ys)/\ys.length < sizeLine/\Nx σ2 (upd H4 D (.lst (ys++[v]))) else Nx σ2 H3))
  (hRR:∀ D C σ' H' s',D=s.heap.objs.size->s.heap.objs.size<=C->Inv (X.blk sc cl C N' s H fp) [] σ' H' s'->Q (.ref D) H'->RR (.ref D) C (.ok .next) s') :
  wpAny (model X.prog X.w) X.A (newList []) (λacc s₃=>wpAny (model X.prog X.w) X.A (newFunctionEnv sc X.env.globals cl [] X.env.qual none .none (some X.env)) (λcenv s₄ =>
   codeAny (model X.prog X.w) X.A (.compStart (.ListComp elt [⟨tg,iter,ifs,0⟩] sc pos) 0 (.ref it) acc { cenv with scope:=relabel sc X.env }) (RR acc cenv.locals) s₄) E s₃) E s:=by
 have fo:∀ b ∈ fp,b < s.heap.objs.size:=λb hb=>by obtain ⟨o,e,_⟩:=T.obj _ _ st b hb;exact Heap.lt_size e
 refine wpAny_newObj_type (wpAny_newFunctionEnv B.cell (by intro y hy;simp at hy) (λh₁ hns₁ hsb₁=>?_) hk);dsimp only at hns₁ hsb₁ ⊢;generalize hH2:s.heap.push { cls:=.type "list",dict:=none,data:=.seq ([]:List Value).toArray }=G at hns₁ hsb₁ ⊢;have hG:G.objs.size=s.heap.objs.size+1:=by rw [<- hH2,Heap.size_push]
 have hlt:s.heap.objs.size < G.objs.size:=by rw [hG];exact Nat.lt_succ_self _
 have old:∀ b o,s.heap.get? b=some o->h₁.get? b=some o:=λb o e =>
  hsb₁.extBut b o (Nat.ne_of_lt (Nat.lt_trans (Heap.lt_size e) hlt)) (Heap.get?_push_of_some _ (hH2 ▸ Heap.get?_push_of_some _ e))
 have hacc:h₁.get? s.heap.objs.size=some { cls:=.type "list",data:=.seq ([]:List Value).toArray } :=
  hsb₁.extBut _ _ (Nat.ne_of_lt hlt) (Heap.get?_push_of_some _ (hH2 ▸ Heap.get?_push_size _ rfl))
 obtain ⟨W,⟨m0,w0⟩,turn⟩:=hw s.heap.objs.size (I.hok.fresh (Nat.le_refl _));have st₁:tn 0 h₁:=T.keep _ _ _ st λb _ o e=>old b o e
 have hns':h₁.Ns G.objs.size (λ_=>none):=by
  have e:(λx=>([]:List (Str × Value)).reverse.lookup x)=(λ_:Str=>(none:Option Value)):=by funext x;rfl
  first
   | exact hns₁
   | (rw [e] at hns₁;exact hns₁)
 have loop:∀ s₃:Shared,s₃={ s with heap:=h₁,toks:=s.toks+([]:List (Str × Value)).length } ->
   codeAny (model X.prog X.w) X.A (.compLoop (.ListComp elt [⟨tg,iter,ifs,0⟩] sc pos) 0 (.ref it) (.ref s.heap.objs.size) (compEnvC sc cl G.objs.size X.env)) (RR (.ref s.heap.objs.size) G.objs.size) s₃:=by
  rintro s₃ rfl;have I0:=yo (tk:=s.toks+([]:List (Str × Value)).length) I B hk sub has f2 fo rfl hlt hns' old hacc
  have ud:∀ {pins':List (Addr × Obj)} {H':Hp},pins'=[]->(∀ b ∈ fp,H' b=none)->∀ b ∈ fp,qz (X.blk sc cl G.objs.size N' s H fp) pins' H' b:=λep hn b hb=>by
   subst ep;refine ⟨hn b hb,Nat.ne_of_lt (Nat.lt_trans (fo b hb) hlt),λz=>?_,.inl hb,λx c e=>(f2 b hb).2.2.2.2.1 x c (sub x c e),λp hp=>absurd (show p ∈ ([]:List (Addr × Obj)) from hp) (by simp)⟩;rcases List.mem_cons.mp (I.stkSub b z) with e | e
   ·exact (f2 b hb).2.1 e
   ·exact (f2 b hb).2.2.1 e
  have fr0:∀ b ∈ fp,upd H s.heap.objs.size (.lst []) b=none:=λb hb=>by rw [aZ (Nat.ne_of_lt (fo b hb))];exact (f2 b hb).1
  refine sj (λn s'=>∃ i σ' H',Inv (X.blk sc cl G.objs.size N' s H fp) [] σ' H' s'/\tn i s'.heap/\(∀ b ∈ fp,H' b=none)/\W i n σ' H') ?_ m0 ⟨0,_,_,I0,st₁,fr0,w0⟩;rintro n s3 ⟨i,σ3,H3,I3,st3,fr3,w3⟩;rcases turn i n σ3 H3 w3 with ⟨stop,qn⟩ | ⟨go,Nx,hN,step⟩
  ·refine thn (T.done (X.blk sc cl G.objs.size N' s H fp) rfl rfl rfl hc i [] s3 σ3 H3 _ I3 (ud rfl fr3) st3 stop) λr s4 ⟨hr,I4⟩=>?_;subst hr;exact hRR _ _ _ _ _ rfl (Nat.le_of_lt hlt) I4 qn
  ·refine thn (T.item (X.blk sc cl G.objs.size N' s H fp) rfl rfl rfl hc i [] s3 σ3 H3 _ I3 (ud rfl fr3) st3 go) λr s4 ⟨u,hr,h4⟩=>?_;subst hr;refine thn h4 λ_ s5 ⟨x,H5,I5,r5,y5,st5,fr5⟩=>?_;have I5':=I5.pinned (ud rfl fr5) (T.obj _ _ st5);refine thn (hg cl G.objs.size s H fp _ s5 σ3 H5 x u _ I5' r5 (step x H5 y5)) λ_ s6 ⟨σ6,H6,I6,q6⟩=>?_;refine thn (ht cl G.objs.size s H fp _ s6 σ6 H6 _ I6 q6) λok s7 ⟨H7,I7,q7⟩=>?_
   have again:∀ {s8:Shared} {H8:Hp},Inv (X.blk sc cl G.objs.size N' s H fp) ([]++pS fp s5.heap) σ6 H8 s8->Nx σ6 H8 ->
     ∃ m,m < n/\∃ i σ' H',Inv (X.blk sc cl G.objs.size N' s H fp) [] σ' H' s8/\tn i s8.heap/\(∀ b ∈ fp,H' b=none)/\W i m σ' H':=λ{s8 H8} I8 n8=>by
    obtain ⟨m',hm,w8⟩:=hN σ6 H8 n8;refine ⟨m',hm,i+1,σ6,H8,I8.unpinned,T.keep _ _ _ st5 λb hb o e=>(I8.pin (b,o) (List.mem_append_right _ (List.mem_append_right _ (jZ hb e)))).1,λb hb=>?_,w8⟩;obtain ⟨o,e,d⟩:=T.obj _ _ st5 b hb;exact (I8.pin (b,o) (List.mem_append_right _ (List.mem_append_right _ (jZ hb e)))).2.1
   cases ok with
   | false =>rw [if_neg Bool.false_ne_true] at q7 ⊢;exact again I7 q7
   | true =>rw [if_pos rfl] at q7 ⊢;refine thn (he cl G.objs.size s H fp _ s7 σ6 H7 _ I7 q7) λy s8 ⟨v,H8,I8,rv,ys,hD8,hz,nx⟩=>?_;refine thn (bV (X:=X.blk sc cl G.objs.size N' s H fp) _ s8 σ6 H8 (.ref s.heap.objs.size) [v] (.ref s.heap.objs.size) [y] (λ_ H9=>Nx σ6 H9) I8 rfl (.cons rv .nil) ⟨_,ys,v,rfl,rfl,hD8,hz,nx⟩) λ_ s9 ⟨_,H9,I9,_,n9⟩=>?_;exact again I9 n9
 exact codeAny_compStart_list (loop _ rfl) (T.self _ 0 _ _ _ st₁ (loop _ rfl))
theorem dE (hi:PI X tg iter wi) (hk:sc.kind=.function) (hb:cZ X.N X.env.kindOf sc.names own fr N'=true) (hc:X.calm=true)
  (hg:∀ cl C s H fp,PG (X.blk sc cl C N' s H fp) tg g) (ht:∀ cl C s H fp,zA (X.blk sc cl C N' s H fp) ifs tt) (he:∀ cl C s H fp,PE (X.blk sc cl C N' s H fp) elt te)
  (hs:∀ x,foldedSetIterable iter X.env x=pure x:=by intro _;rfl):PE X (.ListComp elt [⟨tg,iter,ifs,0⟩] sc pos) (h8 wi (mkS own fr) g tt te):=by
 intro pins s σ H Q I h;have B:=zQ hb;obtain ⟨cl,hcl,sub,has⟩:=FO sc X.env λp hp e=>I.ok.has p.1 (B.free p hp e);rw [eval_ListComp];refine wpAny_comprehension_free (use:=none) rfl hs hcl hk B.loc (thn (hi pins s σ H _ I h) λv s1 h1=>thn h1 λitv s2 h2=>?_);obtain ⟨it,fp,tn,J,H2,e,I2,T,st2,f2,body⟩:=h2;subst e;refine ux (RR:=λacc C=>compPost (model X.prog X.w) X.A X.xe none (EP X pins σ Q) acc C) I2 B hk hc sub has T st2 f2 hg ht he body ?_;intro D C σ' H' s' eD hC J' q;obtain ⟨m,hn,_⟩:=J'.loc;refine ⟨m,hn,λh' hs'=>⟨.ref D,H',?_,rfl,q⟩⟩;exact Inv.young I2 (xw I2 f2 J') hC J'.free hs'
theorem jk {i:Nat} {y:Str} {py spos:Pos} (hi:PI X tg iter wi) (hk:sc.kind=.function) (hb:cZ X.N X.env.kindOf sc.names own fr N'=true) (hc:X.calm=true)
  (hg:∀ cl C s H fp,PG (X.blk sc cl C N' s H fp) tg g) (ht:∀ cl C s H fp,zA (X.blk sc cl C N' s H fp) ifs tt) (he:∀ cl C s H fp,PE (X.blk sc cl C N' s H fp) elt te)
  (hN:X.N.Nodup) (hy:X.N[i]?=some y) (hx:X.env.scope.names.lookup y=some .local)
  (hsw:swapsWith (.ListComp elt [⟨tg,iter,ifs,0⟩] sc pos) (some (.Name y py)) spos.line X.env=pure true)
  (hs:∀ x,foldedSetIterable iter X.env x=pure x:=by intro _;rfl):PS X (.Assign [.Name y py] (.ListComp elt [⟨tg,iter,ifs,0⟩] sc pos) spos) (qM (h8 wi (mkS own fr) g tt te) (c6 i)):=by
 intro pins s σ H D I h;have B:=zQ hb;obtain ⟨cl,hcl,sub,has⟩:=FO sc X.env λp hp e=>I.ok.has p.1 (B.free p hp e);rw [exec_Assign_Name_used _ _ _ _ hsw];refine wpAny_bind (wpAny_standAt (wpAny_bind ?_));show wpAny _ _ (do let _ <- comprehension (.ListComp elt [⟨tg,iter,ifs,0⟩] sc pos) sc X.env _ (newList []) false (eval iter X.env) (some (assign (.Name y py) X.env))) _ _ s
 refine wpAny_bind (wpAny_mono (wpAny_comprehension_free (use:=some (assign (.Name y py) X.env)) (Q:=λ_ s'=>SP X pins D .next s') rfl hs hcl hk B.loc
  (thn (hi pins s σ H _ I h) λv s1 h1=>thn h1 λitv s2 h2=>?_)) (λ_ s' hq=>wpAny_pure (wpAny_pure hq)) λ_ _ e=>e)
 obtain ⟨it,fp,tn,J,H2,e,I2,T,st2,f2,body⟩:=h2;subst e;refine ux (Q:=λv H'=>D.nx (σ.set i (some v)) H') (RR:=λacc C=>compPost (model X.prog X.w) X.A X.xe (some (assign (.Name y py) X.env)) (λ_ s'=>SP X pins D .next s') acc C) I2 B hk hc sub has T st2 f2 hg ht he body ?_;intro D' C σ' H' s' eD hC J' q;have I3:=xw I2 f2 J';show wpAny _ _ (assign (.Name y py) X.env (.ref D')) _ _ s';refine wpAny_assign_Name (rQ I3 hN hy (.inl hx) (v:=.ref D') rfl (λs4 I4 ⟨a,hsb,ha⟩=>?_) (.inr hx));obtain ⟨m,hn,_⟩:=J'.loc
 have hCa:C≠a:=by
  rcases ha with e | e
  ·rw [e];exact Nat.ne_of_gt (Nat.lt_of_lt_of_le I2.lt hC)
  ·obtain ⟨v,z⟩:=I2.cell _ _ e;exact Nat.ne_of_gt (Nat.lt_of_lt_of_le z.lt hC)
 refine ⟨m,hn.sameBut hsb hCa,λh' hs'=>⟨_,H',?_,q⟩⟩;exact Inv.young I2 I4 hC J'.free hs'
end
inductive D where
 | non | bl (b:Bool) | int (i:Int) | str (x:Str) | tup (ds:List D)
 | lst
mutual
def Dat (K:W.Frag) (H:Hp):D->V->Prop
 | .non,v=>v=.non
 | .bl b,v=>v=.bl b
 | .int i,v=>v=.int i
 | .str x,v=>v=.str x
 | .tup ds,v=>∃ a vs,v=.ref a/\SqT K H a vs/\Dats K H ds vs
 | .lst,v=>∃ a vs,v=.ref a/\SqL K H a vs
def Dats (K:W.Frag) (H:Hp):List D->List V->Prop
 | [],vs=>vs=[]
 | d::ds,vs=>∃ v r,vs=v::r/\Dat K H d v/\Dats K H ds r
end
section
variable {K:W.Frag} {H H':Hp}
variable {a:Addr} {vs:List V} {ds:List D}
theorem Dat.tupI (h:SqT K H a vs) (r:Dats K H ds vs):Dat K H (.tup ds) (.ref a):=by unfold Dat;exact ⟨a,vs,rfl,h,r⟩
theorem Dats.nil:Dats K H [] []:=by unfold Dats;rfl
variable {d:D} {v:V}
theorem Dats.cons (h:Dat K H d v) (r:Dats K H ds vs):Dats K H (d::ds) (v::vs):=by unfold Dats;exact ⟨v,vs,rfl,h,r⟩
theorem Dat.intI (i:Int):Dat K H (.int i) (.int i):=by unfold Dat;rfl
theorem Dat.strI (x:Str):Dat K H (.str x) (.str x):=by unfold Dat;rfl
theorem Dat.blI (b:Bool):Dat K H (.bl b) (.bl b):=by unfold Dat;rfl
theorem Dat.nonI:Dat K H .non .non:=by unfold Dat;rfl
theorem Dat.lstI (h:SqL K H a vs):Dat K H .lst (.ref a):=by unfold Dat;exact ⟨a,vs,rfl,h⟩
theorem Dat.tupE (h:Dat K H (.tup ds) v):∃ a vs,v=.ref a/\SqT K H a vs/\Dats K H ds vs:=by unfold Dat at h;exact h
theorem Dat.intE {i:Int} (h:Dat K H (.int i) v):v=.int i:=by unfold Dat at h;exact h
theorem Dat.strE {x:Str} (h:Dat K H (.str x) v):v=.str x:=by unfold Dat at h;exact h
theorem Dat.blE {b:Bool} (h:Dat K H (.bl b) v):v=.bl b:=by unfold Dat at h;exact h
theorem Dat.nonE (h:Dat K H .non v):v=.non:=by unfold Dat at h;exact h
theorem Dat.lstE (h:Dat K H .lst v):∃ a vs,v=.ref a/\SqL K H a vs:=by unfold Dat at h;exact h
theorem Dats.nilE (h:Dats K H [] vs):vs=[]:=by unfold Dats at h;exact h
theorem Dats.consE (h:Dats K H (d::ds) vs):∃ v r,vs=v::r/\Dat K H d v/\Dats K H ds r:=by unfold Dats at h;exact h
structure fE (K:W.Frag) (H H':Hp):Prop where
 tup:∀ a xs,SqT K H a xs->SqT K H' a xs
 lst:∀ a xs,SqL K H a xs->∃ ys,SqL K H' a ys
mutual
theorem Dat.mono (g:fE K H H'):∀ (d:D) {v:V},Dat K H d v->Dat K H' d v
 | .non,v,h=>by unfold Dat at h ⊢;exact h
 | .bl b,v,h=>by unfold Dat at h ⊢;exact h
 | .int i,v,h=>by unfold Dat at h ⊢;exact h
 | .str x,v,h=>by unfold Dat at h ⊢;exact h
 | .tup ds,v,h=>by obtain ⟨a,vs,e,q,r⟩:=h.tupE;subst e;exact Dat.tupI (g.tup _ _ q) (Dats.mono g ds r)
 | .lst,v,h=>by obtain ⟨a,vs,e,q⟩:=h.lstE;subst e;obtain ⟨ys,q'⟩:=g.lst _ _ q;exact Dat.lstI q'
theorem Dats.mono (g:fE K H H'):∀ (ds:List D) {vs:List V},Dats K H ds vs->Dats K H' ds vs
 | [],vs,h=>by unfold Dats at h ⊢;exact h
 | d::ds,vs,h=>by obtain ⟨v,r,e,h1,h2⟩:=h.consE;subst e;exact Dats.cons (Dat.mono g d h1) (Dats.mono g ds h2)
end
theorem Dats.length:∀ {ds:List D} {vs:List V},Dats K H ds vs->ds.length=vs.length
 | [],vs,h=>by rw [h.nilE];rfl
 | d::ds,vs,h=>by obtain ⟨v,r,e,h1,h2⟩:=h.consE;subst e;rw [List.length_cons,List.length_cons,Dats.length h2]
theorem Dats.get:∀ {ds:List D} {vs:List V} {i:Nat} {d:D},Dats K H ds vs->ds[i]?=some d->∃ v,vs[i]?=some v/\Dat K H d v
 | [],_,i,d,_,e=>by simp at e
 | d0::ds,vs,0,d,h,e=>by obtain ⟨v,r,e1,h1,h2⟩:=h.consE;subst e1;simp at e;subst e;exact ⟨v,rfl,h1⟩
 | d0::ds,vs,i+1,d,h,e=>by obtain ⟨v,r,e1,h1,h2⟩:=h.consE;subst e1;obtain ⟨u,q1,q2⟩:=Dats.get (i:=i) (d:=d) h2 (by simpa using e);exact ⟨u,by simpa using q1,q2⟩
theorem Dats.getV:∀ {ds:List D} {vs:List V} {i:Nat} {v:V},Dats K H ds vs->vs[i]?=some v->∃ d,ds[i]?=some d/\Dat K H d v
 | [],vs,i,v,h,e=>by rw [h.nilE] at e;simp at e
 | d0::ds,vs,0,v,h,e=>by obtain ⟨u,r,e1,h1,h2⟩:=h.consE;subst e1;simp at e;subst e;exact ⟨d0,rfl,h1⟩
 | d0::ds,vs,i+1,v,h,e=>by obtain ⟨u,r,e1,h1,h2⟩:=h.consE;subst e1;obtain ⟨d,q1,q2⟩:=Dats.getV (i:=i) (v:=v) h2 (by simpa using e);exact ⟨d,by simpa using q1,q2⟩
theorem Dats.append:∀ {ds es:List D} {vs us:List V},Dats K H ds vs->Dats K H es us->Dats K H (ds++es) (vs++us)
 | [],es,vs,us,h,h'=>by rw [h.nilE];exact h'
 | d::ds,es,vs,us,h,h'=>by obtain ⟨v,r,e,h1,h2⟩:=h.consE;subst e;exact Dats.cons h1 (Dats.append h2 h')
end
mutual
noncomputable def eqD:D->D->Bool
 | .non,.non=>true
 | .bl a,.bl b=>a == b
 | .int a,.int b=>a == b
 | .bl a,.int b=>(if a then 1 else 0) == b
 | .int a,.bl b=>a == (if b then 1 else 0)
 | .str a,.str b=>a == b
 | .tup a,.tup b=>eqDs a b
 | _,_=>false
noncomputable def eqDs:List D->List D->Bool
 | [],[]=>true
 | a::r,b::q=>eqD a b && eqDs r q
 | _,_=>false
end
mutual
noncomputable def gD:D->Nat
 | .tup ds=>deepDs ds+1
 | _=>0
noncomputable def deepDs:List D->Nat
 | []=>0
 | d::ds=>max (gD d) (deepDs ds)
end
mutual
noncomputable def noL:D->Bool
 | .tup ds=>noLs ds
 | .lst=>false
 | _=>true
noncomputable def noLs:List D->Bool
 | []=>true
 | d::ds=>noL d && noLs ds
end
noncomputable def eAt (a b:List D) (j:Nat):Bool:=match a[j]?,b[j]? with
 | some x,some y=>eqD x y
 | _,_=>false
theorem oT (n:Nat) (e:Nat->Bool):(List.range (n+1)).all e=(e 0 && (List.range n).all λj=>e (j+1)):=by rw [List.range_succ_eq_map,List.all_cons,List.all_map];rfl
theorem jY:∀ a b:List D,((List.range (min a.length b.length)).all (eAt a b) && a.length == b.length)=eqDs a b
 | [],[]=>by unfold eqDs;rfl
 | [],y::b=>by unfold eqDs;simp
 | x::a,[]=>by unfold eqDs;simp
 | x::a,y::b=>by
  have ih:=jY a b;unfold eqDs;rw [<- ih,List.length_cons,List.length_cons,Nat.succ_min_succ,oT];have e0:eAt (x::a) (y::b) 0=eqD x y:=rfl
  have e1:(λj=>eAt (x::a) (y::b) (j+1))=eAt a b:=by
   funext j
   simp [eAt]
  rw [e0,e1,Bool.and_assoc];congr 2;simp
theorem uC {a b:List D} (h:a.length=b.length):(List.range a.length).all (eAt a b)=eqDs a b:=by have q:=jY a b;rw [<- h,Nat.min_self] at q;rw [<- q];simp
mutual
theorem kD:∀ d:D,noL d=true->eqD d d=true
 | .non,_=>by unfold eqD;rfl
 | .bl b,_=>by unfold eqD;simp
 | .int i,_=>by unfold eqD;simp
 | .str x,_=>by unfold eqD;simp
 | .tup ds,h=>by unfold eqD;unfold noL at h;exact eqDs_refl ds h
 | .lst,h=>by unfold noL at h;cases h
theorem eqDs_refl:∀ ds:List D,noLs ds=true->eqDs ds ds=true
 | [],_=>by unfold eqDs;rfl
 | d::ds,h=>by unfold noLs at h;rw [Bool.and_eq_true] at h;unfold eqDs;rw [kD d h.1,eqDs_refl ds h.2];rfl
end
section
variable {X:Cx} {pins:List (Addr × Obj)} {σ:St} {H:Hp} {s:Shared}
mutual
theorem sr (I:Inv X pins σ H s):∀ (d e:D) {v:V},noL d=true->Dat X.K H d v->Dat X.K H e v->noL e=true->d=e
 | .non,e,v,hn,h,h',hn'=>by
  have z:=h.nonE;subst z
  cases e with
  | non=>rfl
  | bl b=>exact nomatch h'.blE
  | int i=>exact nomatch h'.intE
  | str x=>exact nomatch h'.strE
  | tup ds=>obtain ⟨_,_,q,_⟩:=h'.tupE;exact nomatch q
  | lst=>obtain ⟨_,_,q,_⟩:=h'.lstE;exact nomatch q
 | .bl b,e,v,hn,h,h',hn'=>by
  have z:=h.blE;subst z
  cases e with
  | non=>exact nomatch h'.nonE
  | bl c=>have q:=h'.blE;injection q with q;rw [q]
  | int i=>exact nomatch h'.intE
  | str x=>exact nomatch h'.strE
  | tup ds=>obtain ⟨_,_,q,_⟩:=h'.tupE;exact nomatch q
  | lst=>obtain ⟨_,_,q,_⟩:=h'.lstE;exact nomatch q
 | .int i,e,v,hn,h,h',hn'=>by
  have z:=h.intE;subst z
  cases e with
  | non=>exact nomatch h'.nonE
  | bl c=>exact nomatch h'.blE
  | int j=>have q:=h'.intE;injection q with q;rw [q]
  | str x=>exact nomatch h'.strE
  | tup ds=>obtain ⟨_,_,q,_⟩:=h'.tupE;exact nomatch q
  | lst=>obtain ⟨_,_,q,_⟩:=h'.lstE;exact nomatch q
 | .str x,e,v,hn,h,h',hn'=>by
  have z:=h.strE;subst z
  cases e with
  | non=>exact nomatch h'.nonE
  | bl c=>exact nomatch h'.blE
  | int j=>exact nomatch h'.intE
  | str y=>have q:=h'.strE;injection q with q;rw [q]
  | tup ds=>obtain ⟨_,_,q,_⟩:=h'.tupE;exact nomatch q
  | lst=>obtain ⟨_,_,q,_⟩:=h'.lstE;exact nomatch q
 | .tup ds,e,v,hn,h,h',hn'=>by
  obtain ⟨a,vs,z,q,r⟩:=h.tupE;subst z
  cases e with
  | non=>exact nomatch h'.nonE
  | bl c=>exact nomatch h'.blE
  | int j=>exact nomatch h'.intE
  | str y=>exact nomatch h'.strE
  | tup es =>obtain ⟨a',vs',z,q',r'⟩:=h'.tupE;cases z;have ev:=I.tuple_inj q q';subst ev;unfold noL at hn hn';rw [dats_inj I ds es hn r r' hn']
  | lst=>unfold noL at hn';cases hn'
 | .lst,e,v,hn,h,h',hn'=>by unfold noL at hn;cases hn
theorem dats_inj (I:Inv X pins σ H s):∀ (ds es:List D) {vs:List V},noLs ds=true->Dats X.K H ds vs->Dats X.K H es vs->noLs es=true->ds=es
 | [],es,vs,_,h,h',_=>by
  have z:=h.nilE;subst z
  cases es with
  | nil=>rfl
  | cons e es=>obtain ⟨_,_,q,_⟩:=h'.consE;exact nomatch q
 | d::ds,es,vs,hn,h,h',hn'=>by
  obtain ⟨v,r,z,h1,h2⟩:=h.consE;subst z
  cases es with
  | nil=>exact nomatch h'.nilE
  | cons e es =>obtain ⟨v',r',z,h1',h2'⟩:=h'.consE;injection z with z1 z2;subst z1 z2;unfold noLs at hn hn';rw [Bool.and_eq_true] at hn hn';rw [sr I d e hn.1 h1 h1' hn'.1,dats_inj I ds es hn.2 h2 h2' hn'.2]
end
end
theorem nj (A:Around):A.in1.units=A.units+1:=rfl
section
variable {X:Cx} {pins:List (Addr × Obj)} {σ:St} {H:Hp} {s:Shared}
theorem lX:∀ {ds:List D} {j:Nat} {d:D},ds[j]?=some d->gD d<=deepDs ds
 | [],_,_,e=>by simp at e
 | d0::ds,0,d,e=>by simp at e;subst e;unfold deepDs;exact Nat.le_max_left _ _
 | d0::ds,j+1,d,e=>by have q:=lX (ds:=ds) (j:=j) (d:=d) (by simpa using e);unfold deepDs;exact Nat.le_trans q (Nat.le_max_right _ _)
theorem jP:∀ {ds:List D} {j:Nat} {d:D},noLs ds=true->ds[j]?=some d->noL d=true
 | [],_,_,_,e=>by simp at e
 | d0::ds,0,d,h,e=>by simp at e;subst e;unfold noLs at h;rw [Bool.and_eq_true] at h;exact h.1
 | d0::ds,j+1,d,h,e=>by unfold noLs at h;rw [Bool.and_eq_true] at h;exact jP (ds:=ds) (j:=j) (d:=d) h.2 (by simpa using e)
variable {A:Around} {ds es:List D} {xs ys:List V}
theorem o2 {us ws:List Value} (n:Nat)
  (all:∀ (d e:D) (x y:V) (u w:Value),gD d<=n->noL d=true->noL e=true->Dat X.K H d x->Dat X.K H e y->RelV x u->RelV y w->SeqAt.EqAt A s u w (eqD d e))
  (hn:deepDs ds<=n) (h1:noLs ds=true) (h2:noLs es=true) (r1:Dats X.K H ds xs) (r2:Dats X.K H es ys) (v1:Vals xs us) (v2:Vals ys ws) :
  ∀ j (k1:j < us.toArray.size) (k2:j < ws.toArray.size),SeqAt.EqAt A s us.toArray[j] ws.toArray[j] (eAt ds es j):=by
 intro j k1 k2;have l1:j < xs.length:=by rw [v1.length];simpa using k1
 have l2:j < ys.length:=by rw [v2.length];simpa using k2
 obtain ⟨u,eu,ru⟩:=v1.get (i:=j) (x:=xs[j]) (List.getElem?_eq_getElem l1);obtain ⟨w,ew,rw'⟩:=v2.get (i:=j) (x:=ys[j]) (List.getElem?_eq_getElem l2);obtain ⟨d,ed,qd⟩:=r1.getV (i:=j) (v:=xs[j]) (List.getElem?_eq_getElem l1);obtain ⟨e,ee,qe⟩:=r2.getV (i:=j) (v:=ys[j]) (List.getElem?_eq_getElem l2)
 have z1:us.toArray[j]=u:=by
  have:us[j]?=some u:=eu;have k1':j < us.length:=by simpa using k1
  rw [List.getElem?_eq_getElem k1'] at this;simpa using Option.some.inj this
 have z2:ws.toArray[j]=w:=by
  have:ws[j]?=some w:=ew;have k2':j < ws.length:=by simpa using k2
  rw [List.getElem?_eq_getElem k2'] at this;simpa using Option.some.inj this
 have z3:eAt ds es j=eqD d e:=by unfold eAt;rw [ed,ee]
 rw [z1,z2,z3];exact all d e _ _ u w (Nat.le_trans (lX ed) hn) (jP h1 ed) (jP h2 ee) qd qe ru rw'
theorem vE {a b:Addr} (I:Inv X pins σ H s) (hu:A.units < cLine) (n:Nat)
  (all:∀ (d e:D) (x y:V) (u w:Value),gD d<=n->noL d=true->noL e=true->Dat X.K H d x->Dat X.K H e y->RelV x u->RelV y w->SeqAt.EqAt A.in1 s u w (eqD d e))
  (hn:deepDs ds<=n) (h1:noLs ds=true) (h2:noLs es=true) (r1:Dats X.K H ds xs) (r2:Dats X.K H es ys) (q1:SqT X.K H a xs) (q2:SqT X.K H b ys) :
  SeqAt.RcAt A s (.ref a) (.ref b) (eqDs ds es)/\SeqAt.RcNeAt A s (.ref a) (.ref b) (!eqDs ds es):=by
 obtain ⟨us,v1,t1,_⟩:=I.tuple q1;obtain ⟨ws,v2,t2,_⟩:=I.tuple q2;have hi:=o2 (X:=X) (H:=H) (s:=s) n all hn h1 h2 r1 r2 v1 v2;have p:=SeqAt.RcAt.tuples (show s.heap.IsTuple a us.toArray from t1) (show s.heap.IsTuple b ws.toArray from t2) hu hi;have p':=SeqAt.RcNeAt.tuples (show s.heap.IsTuple a us.toArray from t1) (show s.heap.IsTuple b ws.toArray from t2) hu hi;have e1:us.toArray.size=ds.length:=by rw [List.size_toArray,<- v1.length,r1.length]
 have e2:ws.toArray.size=es.length:=by rw [List.size_toArray,<- v2.length,r2.length]
 rw [e1,e2,jY] at p p';exact ⟨p,p'⟩
theorem we (I:Inv X pins σ H s):∀ (n:Nat) (A:Around) (d e:D) (x y:V) (u w:Value),A.units+n+1 < cLine->gD d<=n->noL d=true->noL e=true->Dat X.K H d x->Dat X.K H e y->RelV x u->RelV y w->SeqAt.EqAt A s u w (eqD d e):=by
 intro n
 induction n with
 | zero =>
  intro A d e x y u w hu hn h1 h2 q1 q2 r1 r2
  exact base I A d e x y u w (by omega) h1 h2 q1 q2 r1 r2 λds es a b xs ys ed ee=>by subst ed;unfold gD at hn;omega
 | succ n ih =>intro A d e x y u w hu hn h1 h2 q1 q2 r1 r2;refine base I A d e x y u w (by omega) h1 h2 q1 q2 r1 r2 λds es a b xs ys ed ee t1 t2 s1 s2 hne=>?_;subst ed ee;unfold gD at hn;unfold noL at h1 h2;have p:=(vE (A:=A) (ds:=ds) (es:=es) I (by omega) n (λd e x y u w k1 k2 k3 k4 k5 k6 k7=>ih A.in1 d e x y u w (by rw [nj];omega) k1 k2 k3 k4 k5 k6 k7) (by omega) h1 h2 t1 t2 s1 s2).1;unfold eqD;exact .of_refs hne p
where
 base (I:Inv X pins σ H s) (A:Around) (d e:D) (x y:V) (u w:Value) (hu:A.units < cLine) (h1:noL d=true) (h2:noL e=true) (q1:Dat X.K H d x) (q2:Dat X.K H e y) (r1:RelV x u) (r2:RelV y w)
   (tt:∀ (ds es:List D) (a b:Addr) (xs ys:List V),d=.tup ds->e=.tup es->Dats X.K H ds xs->Dats X.K H es ys->SqT X.K H a xs->SqT X.K H b ys->a≠b->SeqAt.EqAt A s (.ref a) (.ref b) (eqD (.tup ds) (.tup es))) :
   SeqAt.EqAt A s u w (eqD d e):=by
  cases d with
  | lst=>unfold noL at h1;cases h1
  | non =>
   have z:=q1.nonE;subst z;cases r1
   cases e with
   | lst=>unfold noL at h2;cases h2
   | non=>have z:=q2.nonE;subst z;cases r2;unfold eqD;exact SeqAt.EqAt.same _
   | bl b=>have z:=q2.blE;subst z;cases r2;unfold eqD;exact SeqAt.EqAt.none_bool b
   | int i=>have z:=q2.intE;subst z;obtain ⟨t,rfl⟩:=r2;unfold eqD;exact SeqAt.EqAt.none_int i t
   | str i=>have z:=q2.strE;subst z;obtain ⟨t,rfl⟩:=r2;unfold eqD;exact SeqAt.EqAt.none_str i t
   | tup es=>obtain ⟨b,ys,z,s2,t2⟩:=q2.tupE;subst z;cases r2;obtain ⟨ws,v2,p2,_⟩:=I.tuple s2;unfold eqD;exact SeqAt.EqAt.none_tuple (show s.heap.IsTuple b ws.toArray from p2) hu
  | bl c =>
   have z:=q1.blE;subst z;cases r1
   cases e with
   | lst=>unfold noL at h2;cases h2
   | non=>have z:=q2.nonE;subst z;cases r2;unfold eqD;exact SeqAt.EqAt.bool_none c
   | bl b=>have z:=q2.blE;subst z;cases r2;unfold eqD;exact SeqAt.EqAt.bool_bool c b
   | int i=>have z:=q2.intE;subst z;obtain ⟨t,rfl⟩:=r2;unfold eqD;exact SeqAt.EqAt.bool_int c i t
   | str i=>have z:=q2.strE;subst z;obtain ⟨t,rfl⟩:=r2;unfold eqD;exact SeqAt.EqAt.bool_str c i t
   | tup es=>obtain ⟨b,ys,z,s2,t2⟩:=q2.tupE;subst z;cases r2;obtain ⟨ws,v2,p2,_⟩:=I.tuple s2;unfold eqD;exact SeqAt.EqAt.bool_tuple c (show s.heap.IsTuple b ws.toArray from p2) hu
  | int c =>
   have z:=q1.intE;subst z;obtain ⟨tc,rfl⟩:=r1
   cases e with
   | lst=>unfold noL at h2;cases h2
   | non=>have z:=q2.nonE;subst z;cases r2;unfold eqD;exact SeqAt.EqAt.int_none c tc
   | bl b=>have z:=q2.blE;subst z;cases r2;unfold eqD;exact SeqAt.EqAt.int_bool c tc b
   | int i=>have z:=q2.intE;subst z;obtain ⟨t,rfl⟩:=r2;unfold eqD;exact SeqAt.EqAt.int_int c tc i t
   | str i=>have z:=q2.strE;subst z;obtain ⟨t,rfl⟩:=r2;unfold eqD;exact SeqAt.EqAt.int_str c tc i t
   | tup es=>obtain ⟨b,ys,z,s2,t2⟩:=q2.tupE;subst z;cases r2;obtain ⟨ws,v2,p2,_⟩:=I.tuple s2;unfold eqD;exact SeqAt.EqAt.int_tuple c tc (show s.heap.IsTuple b ws.toArray from p2) hu
  | str c =>
   have z:=q1.strE;subst z;obtain ⟨tc,rfl⟩:=r1
   cases e with
   | lst=>unfold noL at h2;cases h2
   | non=>have z:=q2.nonE;subst z;cases r2;unfold eqD;exact SeqAt.EqAt.str_none c tc
   | bl b=>have z:=q2.blE;subst z;cases r2;unfold eqD;exact SeqAt.EqAt.str_bool c tc b
   | int i=>have z:=q2.intE;subst z;obtain ⟨t,rfl⟩:=r2;unfold eqD;exact SeqAt.EqAt.str_int c tc i t
   | str i=>have z:=q2.strE;subst z;obtain ⟨t,rfl⟩:=r2;unfold eqD;exact SeqAt.EqAt.str_str c tc i t
   | tup es=>obtain ⟨b,ys,z,s2,t2⟩:=q2.tupE;subst z;cases r2;obtain ⟨ws,v2,p2,_⟩:=I.tuple s2;unfold eqD;exact SeqAt.EqAt.str_tuple c tc (show s.heap.IsTuple b ws.toArray from p2) hu
  | tup ds =>
   have q1':=q1
   obtain ⟨a,xs,z,s1,t1⟩:=q1.tupE;subst z;cases r1;obtain ⟨us,v1,p1,_⟩:=I.tuple s1
   have p1':s.heap.IsTuple a us.toArray:=p1
   cases e with
   | lst=>unfold noL at h2;cases h2
   | non=>have z:=q2.nonE;subst z;cases r2;unfold eqD;exact SeqAt.EqAt.tuple_none p1' hu
   | bl b=>have z:=q2.blE;subst z;cases r2;unfold eqD;exact SeqAt.EqAt.tuple_bool b p1' hu
   | int i=>have z:=q2.intE;subst z;obtain ⟨t,rfl⟩:=r2;unfold eqD;exact SeqAt.EqAt.tuple_int i t p1' hu
   | str i=>have z:=q2.strE;subst z;obtain ⟨t,rfl⟩:=r2;unfold eqD;exact SeqAt.EqAt.tuple_str i t p1' hu
   | tup es =>
    have q2':=q2
    obtain ⟨b,ys,z,s2,t2⟩:=q2.tupE;subst z;cases r2
    by_cases hab:a=b
    ·subst hab
     have ee:=sr I (.tup ds) (.tup es) h1 q1' q2' h2
     rw [<- ee,kD _ h1]
     exact SeqAt.EqAt.same _
    ·exact tt ds es a b xs ys rfl rfl t1 t2 s1 s2 hab
theorem Gd (I:Inv X pins σ H s) (n:Nat) (A:Around) (d e:D) (x y:V) (u w:Value) (hu:A.units+n+2 < cLine) (hn:gD d<=n+1) (h1:noL d=true) (h2:noL e=true) (q1:Dat X.K H d x) (q2:Dat X.K H e y) (r1:RelV x u) (r2:RelV y w) :
  SeqAt.RcAt A s u w (eqD d e)/\SeqAt.RcNeAt A s u w (!eqD d e):=by
 have hu':A.units < cLine:=by omega
 cases d with
 | lst=>unfold noL at h1;cases h1
 | non =>
  have z:=q1.nonE;subst z;cases r1
  cases e with
  | lst=>unfold noL at h2;cases h2
  | non=>have z:=q2.nonE;subst z;cases r2;unfold eqD;exact ⟨SeqAt.RcAt.none_none,SeqAt.RcNeAt.none_none⟩
  | bl b=>have z:=q2.blE;subst z;cases r2;unfold eqD;exact ⟨SeqAt.RcAt.none_bool b,SeqAt.RcNeAt.none_bool b⟩
  | int i=>have z:=q2.intE;subst z;obtain ⟨t,rfl⟩:=r2;unfold eqD;exact ⟨SeqAt.RcAt.none_int i t,SeqAt.RcNeAt.none_int i t⟩
  | str i=>have z:=q2.strE;subst z;obtain ⟨t,rfl⟩:=r2;unfold eqD;exact ⟨SeqAt.RcAt.none_str i t,SeqAt.RcNeAt.none_str i t⟩
  | tup es=>obtain ⟨b,ys,z,s2,t2⟩:=q2.tupE;subst z;cases r2;obtain ⟨ws,v2,p2,_⟩:=I.tuple s2;unfold eqD;exact ⟨SeqAt.RcAt.none_tuple (show s.heap.IsTuple b ws.toArray from p2) hu',SeqAt.RcNeAt.none_tuple (show s.heap.IsTuple b ws.toArray from p2) hu'⟩
 | bl c =>
  have z:=q1.blE;subst z;cases r1
  cases e with
  | lst=>unfold noL at h2;cases h2
  | non=>have z:=q2.nonE;subst z;cases r2;unfold eqD;exact ⟨SeqAt.RcAt.bool_none c,SeqAt.RcNeAt.bool_none c⟩
  | bl b=>have z:=q2.blE;subst z;cases r2;unfold eqD;exact ⟨SeqAt.RcAt.bool_bool c b,SeqAt.RcNeAt.bool_bool c b⟩
  | int i=>have z:=q2.intE;subst z;obtain ⟨t,rfl⟩:=r2;unfold eqD;exact ⟨SeqAt.RcAt.bool_int c i t,SeqAt.RcNeAt.bool_int c i t⟩
  | str i=>have z:=q2.strE;subst z;obtain ⟨t,rfl⟩:=r2;unfold eqD;exact ⟨SeqAt.RcAt.bool_str c i t,SeqAt.RcNeAt.bool_str c i t⟩
  | tup es=>obtain ⟨b,ys,z,s2,t2⟩:=q2.tupE;subst z;cases r2;obtain ⟨ws,v2,p2,_⟩:=I.tuple s2;unfold eqD;exact ⟨SeqAt.RcAt.bool_tuple c (show s.heap.IsTuple b ws.toArray from p2) hu',SeqAt.RcNeAt.bool_tuple c (show s.heap.IsTuple b ws.toArray from p2) hu'⟩
 | int c =>
  have z:=q1.intE;subst z;obtain ⟨tc,rfl⟩:=r1
  cases e with
  | lst=>unfold noL at h2;cases h2
  | non=>have z:=q2.nonE;subst z;cases r2;unfold eqD;exact ⟨SeqAt.RcAt.int_none c tc,SeqAt.RcNeAt.int_none c tc⟩
  | bl b=>have z:=q2.blE;subst z;cases r2;unfold eqD;exact ⟨SeqAt.RcAt.int_bool c tc b,SeqAt.RcNeAt.int_bool c tc b⟩
  | int i=>have z:=q2.intE;subst z;obtain ⟨t,rfl⟩:=r2;unfold eqD;exact ⟨SeqAt.RcAt.int_int c tc i t,SeqAt.RcNeAt.int_int c tc i t⟩
  | str i=>have z:=q2.strE;subst z;obtain ⟨t,rfl⟩:=r2;unfold eqD;exact ⟨SeqAt.RcAt.int_str c tc i t,SeqAt.RcNeAt.int_str c tc i t⟩
  | tup es=>obtain ⟨b,ys,z,s2,t2⟩:=q2.tupE;subst z;cases r2;obtain ⟨ws,v2,p2,_⟩:=I.tuple s2;unfold eqD;exact ⟨SeqAt.RcAt.int_tuple c tc (show s.heap.IsTuple b ws.toArray from p2) hu',SeqAt.RcNeAt.int_tuple c tc (show s.heap.IsTuple b ws.toArray from p2) hu'⟩
 | str c =>
  have z:=q1.strE;subst z;obtain ⟨tc,rfl⟩:=r1
  cases e with
  | lst=>unfold noL at h2;cases h2
  | non=>have z:=q2.nonE;subst z;cases r2;unfold eqD;exact ⟨SeqAt.RcAt.str_none c tc,SeqAt.RcNeAt.str_none c tc⟩
  | bl b=>have z:=q2.blE;subst z;cases r2;unfold eqD;exact ⟨SeqAt.RcAt.str_bool c tc b,SeqAt.RcNeAt.str_bool c tc b⟩
  | int i=>have z:=q2.intE;subst z;obtain ⟨t,rfl⟩:=r2;unfold eqD;exact ⟨SeqAt.RcAt.str_int c tc i t,SeqAt.RcNeAt.str_int c tc i t⟩
  | str i=>have z:=q2.strE;subst z;obtain ⟨t,rfl⟩:=r2;unfold eqD;exact ⟨SeqAt.RcAt.str_str c tc i t,SeqAt.RcNeAt.str_str c tc i t⟩
  | tup es=>obtain ⟨b,ys,z,s2,t2⟩:=q2.tupE;subst z;cases r2;obtain ⟨ws,v2,p2,_⟩:=I.tuple s2;unfold eqD;exact ⟨SeqAt.RcAt.str_tuple c tc (show s.heap.IsTuple b ws.toArray from p2) hu',SeqAt.RcNeAt.str_tuple c tc (show s.heap.IsTuple b ws.toArray from p2) hu'⟩
 | tup ds =>
  obtain ⟨a,xs,z,s1,t1⟩:=q1.tupE;subst z;cases r1;obtain ⟨us,v1,p1,_⟩:=I.tuple s1;have p1':s.heap.IsTuple a us.toArray:=p1
  cases e with
  | lst=>unfold noL at h2;cases h2
  | non=>have z:=q2.nonE;subst z;cases r2;unfold eqD;exact ⟨SeqAt.RcAt.tuple_none p1' hu',SeqAt.RcNeAt.tuple_none p1' hu'⟩
  | bl b=>have z:=q2.blE;subst z;cases r2;unfold eqD;exact ⟨SeqAt.RcAt.tuple_bool b p1' hu',SeqAt.RcNeAt.tuple_bool b p1' hu'⟩
  | int i=>have z:=q2.intE;subst z;obtain ⟨t,rfl⟩:=r2;unfold eqD;exact ⟨SeqAt.RcAt.tuple_int i t p1' hu',SeqAt.RcNeAt.tuple_int i t p1' hu'⟩
  | str i=>have z:=q2.strE;subst z;obtain ⟨t,rfl⟩:=r2;unfold eqD;exact ⟨SeqAt.RcAt.tuple_str i t p1' hu',SeqAt.RcNeAt.tuple_str i t p1' hu'⟩
  | tup es =>obtain ⟨b,ys,z,s2,t2⟩:=q2.tupE;subst z;cases r2;unfold gD at hn;unfold noL at h1 h2;unfold eqD;exact vE (A:=A) (ds:=ds) (es:=es) I hu' n (λd e x y u w k1 k2 k3 k4 k5 k6 k7=>we I n A.in1 d e x y u w (by rw [nj];omega) k1 k2 k3 k4 k5 k6 k7) (by omega) h1 h2 t1 t2 s1 s2
theorem Ge (I:Inv X pins σ H s) (n:Nat) (A:Around) (ds es:List D) (a b:Addr) (xs ys:List V) (hu:A.units+n+2 < cLine) (hn:deepDs ds<=n) (h1:noLs ds=true) (h2:noLs es=true) (q1:SqL X.K H a xs) (q2:SqL X.K H b ys) (r1:Dats X.K H ds xs) (r2:Dats X.K H es ys) :
  SeqAt.RcAt A s (.ref a) (.ref b) (eqDs ds es)/\SeqAt.RcNeAt A s (.ref a) (.ref b) (!eqDs ds es):=by
 have hu':A.units < cLine:=by omega
 obtain ⟨us,v1,p1,_⟩:=I.list q1;obtain ⟨ws,v2,p2,_⟩:=I.list q2;have e1:us.toArray.size=ds.length:=by rw [List.size_toArray,<- v1.length,r1.length]
 have e2:ws.toArray.size=es.length:=by rw [List.size_toArray,<- v2.length,r2.length]
 have hi:=o2 (X:=X) (H:=H) (s:=s) (A:=A.in1) n (λd e x y u w k1 k2 k3 k4 k5 k6 k7=>we I n A.in1 d e x y u w (by rw [nj];omega) k1 k2 k3 k4 k5 k6 k7) hn h1 h2 r1 r2 v1 v2;by_cases hl:ds.length=es.length
 ·have hsz:us.toArray.size=ws.toArray.size:=by rw [e1,e2,hl]
  have p:=SeqAt.RcAt.lists p1.isList p2.isList hsz hu' hi;have p':=SeqAt.RcNeAt.lists p1.isList p2.isList hsz hu' hi;rw [e1,uC hl] at p p';exact ⟨p,p'⟩
 ·have hsz:(us.toArray.size != ws.toArray.size)=true:=by rw [e1,e2];simpa using hl
  have z:eqDs ds es=false:=by
   rw [<- jY];have:(ds.length == es.length)=false:=by simpa using hl
   rw [this,Bool.and_false]
  rw [z];exact ⟨SeqAt.RcAt.lists_lengths p1.isList p2.isList hsz hu',SeqAt.RcNeAt.lists_lengths p1.isList p2.isList hsz hu'⟩
end
section
variable {X:Cx} {k:Nat}
noncomputable def Fi (K:W.Frag) (neg:Bool):R2:=λx y H Q=>∃ d e,Dat K H d x/\Dat K H e y/\noL d=true/\noL e=true/\gD d<=20/\Q (.bl (if neg then !eqD d e else eqD d e)) H
theorem E2 (hr:Room k X.A):OpR X (compareOp .Eq) (Fi X.K false):=by
 intro pins s σ H x y v u Q I rx ry h;obtain ⟨d,e,q1,q2,h1,h2,hn,q⟩:=h;have hu:X.A.units+19+2 < cLine:=by have:=hr.un;omega
 exact (Gd I 19 X.A d e x y v u hu (by omega) h1 h2 q1 q2 rx ry).1 _ _ _ _ ⟨.bl _,H,I,rfl,q⟩
theorem E3 (hr:Room k X.A):OpR X (compareOp .NotEq) (Fi X.K true):=by
 intro pins s σ H x y v u Q I rx ry h;obtain ⟨d,e,q1,q2,h1,h2,hn,q⟩:=h;have hu:X.A.units+19+2 < cLine:=by have:=hr.un;omega
 exact (Gd I 19 X.A d e x y v u hu (by omega) h1 h2 q1 q2 rx ry).2 _ _ _ _ ⟨.bl _,H,I,rfl,q⟩
noncomputable def Bf (K:W.Frag) (neg:Bool):R2:=λx y H Q=>∃ a b xs ys ds es,x=.ref a/\y=.ref b/\SqL K H a xs/\SqL K H b ys/\Dats K H ds xs/\Dats K H es ys/\noLs ds=true/\noLs es=true/\deepDs ds<=20/\Q (.bl (if neg then !eqDs ds es else eqDs ds es)) H
theorem pO (hr:Room k X.A):OpR X (compareOp .Eq) (Bf X.K false):=by
 intro pins s σ H x y v u Q I rx ry h;obtain ⟨a,b,xs,ys,ds,es,ex,ey,q1,q2,r1,r2,h1,h2,hn,q⟩:=h;subst ex ey;cases rx;cases ry;have hu:X.A.units+20+2 < cLine:=by have:=hr.un;omega
 exact (Ge I 20 X.A ds es a b xs ys hu hn h1 h2 q1 q2 r1 r2).1 _ _ _ _ ⟨.bl _,H,I,rfl,q⟩
theorem A1 (hr:Room k X.A):OpR X (compareOp .NotEq) (Bf X.K true):=by
 intro pins s σ H x y v u Q I rx ry h;obtain ⟨a,b,xs,ys,ds,es,ex,ey,q1,q2,r1,r2,h1,h2,hn,q⟩:=h;subst ex ey;cases rx;cases ry;have hu:X.A.units+20+2 < cLine:=by have:=hr.un;omega
 exact (Ge I 20 X.A ds es a b xs ys hu hn h1 h2 q1 q2 r1 r2).2 _ _ _ _ ⟨.bl _,H,I,rfl,q⟩
theorem yR:OpR X (compareOp .IsNot) (λx y H Q=>∃ a b,x=.bl a/\y=.bl b/\Q (.bl (a != b)) H):=by intro pins s σ H x y v u Q I rx ry h;obtain ⟨a,b,ex,ey,q⟩:=h;subst ex ey;cases rx;cases ry;exact PyProof.Rows.isnot_bool ⟨.bl _,H,I,rfl,q⟩
noncomputable def tyD:D->String
 | .non=>"NoneType"
 | .bl _=>"bool"
 | .int _=>"int"
 | .str _=>"str"
 | .tup _=>"tuple"
 | .lst=>"list"
noncomputable def lZ (d:D) (T:String):Bool:=tyD d == T || (tyD d == "bool" && T == "int")
theorem eZ {T:String} (hk:∀ d:D,W.kitOne X.K (.type (tyD d)) (.type T)=some (lZ d T)) :
  jD X (.builtin "isinstance") (λxs H Q=>∃ x d,xs=[x,.ty T]/\Dat X.K H d x/\Q (.bl (lZ d T)) H):=by
 intro pins s σ H xs us Q I r h;obtain ⟨x,d,e,q,h⟩:=h;subst e;obtain ⟨u,c,e,ru,rc⟩:=Gs r;subst e;cases (show c=Value.type T from rc);have fin:∀ tk,EP X pins σ Q (.bool (lZ d T)) { s with toks:=tk }:=λtk=>⟨.bl _,H,I.tok tk,rfl,h⟩
 have kd:=hk d
 cases d with
 | non=>have z:=q.nonE;subst z;cases ru;exact W.kia_one W.kitx_none I.kIn True.intro kd (λz=>nomatch z) fin
 | bl b=>have z:=q.blE;subst z;cases ru;exact W.kia_one W.kitx_bool I.kIn True.intro kd (λz=>nomatch z) fin
 | int i=>have z:=q.intE;subst z;obtain ⟨t,rfl⟩:=ru;exact W.kia_one W.kitx_int I.kIn True.intro kd (λz=>nomatch z) fin
 | str y=>have z:=q.strE;subst z;obtain ⟨t,rfl⟩:=ru;exact W.kia_one W.kitx_str I.kIn True.intro kd (λz=>nomatch z) fin
 | tup ds =>obtain ⟨a,vs,z,sq,_⟩:=q.tupE;subst z;cases ru;obtain ⟨its,_,⟨o,e1,e2,_⟩,_⟩:=I.tuple sq;exact W.kia_one W.kitx_tuple I.kIn ⟨o,e1,e2⟩ kd (λz=>nomatch z) fin
 | lst =>obtain ⟨a,vs,z,sq⟩:=q.lstE;subst z;cases ru;obtain ⟨its,_,⟨o,_,e1,e2,_⟩,_⟩:=I.list sq;exact W.kia_one W.kitx_list I.kIn ⟨o,e1,e2⟩ kd (λz=>nomatch z) fin
end
def lF (K:W.Frag) (a:Addr) (T:List (Str × KTD.Dat)):Prop:=∀ h:Heap,K.In h->KTD.TextTab h a T
section
variable {X:Cx}
theorem mI:OpR X (compareOp .In) (λx y H Q=>∃ k a T,x=.str k/\y=.ref a/\lF X.K a T/\Q (.bl (KTD.inKeys k T)) H):=by intro pins s σ H x y v u Q I rx ry h;obtain ⟨k,a,T,ex,ey,t,q⟩:=h;subst ex ey;obtain ⟨tk,rfl⟩:=rx;cases ry;exact KTD.in_text (h₀:=s.heap) ⟨t _ I.kIn,λ_ _ e=>e⟩ ⟨.bl _,H,I.tok _,rfl,q⟩
noncomputable def Bg (K:W.Frag):R2:=λx y H Q=>∃ a k T i,x=.ref a/\y=.str k/\lF K a T/\(T.all λp=>KTD.plain p.2)=true/\KTD.datumAt k T=some (.flat (.int i))/\Q (.int i) H
theorem AB:IxR X (Bg X.K):=by
 intro value slice pins s σ H x y v u Q I rx ry h hs;obtain ⟨a,k,T,i,ex,ey,t,hp,hd,q⟩:=h;subst ex ey;obtain ⟨tk,rfl⟩:=ry;cases rx;have hm:KTD.inKeys k T=true:=by rw [<- KTD.isSome_datumAt,hd];rfl
 refine KTD.item_textA (h₀:=s.heap) ⟨t _ I.kIn,λ_ _ e=>e⟩ hp hm ?_ hs
 exact each T hd λv hv=>by obtain ⟨t',rfl⟩:=PyProof.V.Flat.int_inv hv;exact ⟨.int i,H,I.tok _,⟨t',rfl⟩,q⟩
where
 each {h:Heap} {k:Str} {P:Value->Prop} {i:Int}:∀ (T:List (Str × KTD.Dat)),KTD.datumAt k T=some (.flat (.int i))->(∀ v,PyProof.V.Flat v (.int i)->P v)->KTD.EachL h k P T
  | [],hd,_=>by simp [KTD.datumAt] at hd
  | (x,d)::T,hd,hP=>by
   have hd':(if decide (k=x)=true then some d else KTD.datumAt k T)=some (.flat (.int i)):=hd
   by_cases hx:k=x
   ·rw [if_pos (decide_eq_true hx)] at hd'
    cases hd'
    refine KTD.eachL_hit hx ?_
    exact opened hP
   ·rw [if_neg (by simp [hx])] at hd'
    exact KTD.eachL_miss hx (each T hd' hP)
 opened {h:Heap} {P:Value->Prop} {i:Int} (hP:∀ v,PyProof.V.Flat v (.int i)->P v):KTD.Opened h P (.flat (.int i)):=by
  first
   | exact KTD.opened_int λt=>hP _ (PyProof.V.Flat.int i t)
   | exact λt=>hP _ (PyProof.V.Flat.int i t)
end
section
variable {K:W.Frag} {H H' H2:Hp}
variable {a:Addr} {xs:List V}
theorem Same.sqT (e:Same H H') (h:SqT K H a xs):SqT K H' a xs:=by
 rcases h with (h | ⟨o,h⟩) | h
 ·exact .inl (.inl (e _ _ h))
 ·exact .inl (.inr ⟨o,e _ _ h⟩)
 ·exact .inr h
theorem Same.grow (e:Same H H'):fE K H H':=⟨λ_ _ h=>e.sqT h,λ_ xs h=>⟨xs,e.seq h⟩⟩
theorem Same.dat {d:D} {v:V} (e:Same H H') (h:Dat K H d v):Dat K H' d v:=Dat.mono e.grow d h
theorem Same.dats {ds:List D} {vs:List V} (e:Same H H') (h:Dats K H ds vs):Dats K H' ds vs:=Dats.mono e.grow ds h
theorem aR {p:Addr} (h:H p=none) (o:HO):Same H (upd H p o):=λb u q=>by rw [aZ (aM q h)];exact q
def But (t:Addr) (H H':Hp):Prop:=∀ b o,b≠t->H b=some o->H' b=some o
variable {t:Addr}
theorem Same.but (e:Same H H'):But t H H':=λb o _ h=>e b o h
theorem But.trans (a:But t H H') (b:But t H' H2):But t H H2:=λc o n h=>b c o n (a c o n h)
theorem But.upd {o:HO} (a:But t H H'):But t H (upd H' t o):=λb u n h=>by rw [aZ n];exact a b u n h
variable {zs:List V}
theorem But.sqT (e:But t H H') (ht:H t=some (.lst zs)) (h:SqT K H a xs):SqT K H' a xs:=by
 rcases h with (h | ⟨o,h⟩) | h
 ·exact .inl (.inl (e _ _ (λz=>by rw [z,ht] at h;cases h) h))
 ·exact .inl (.inr ⟨o,e _ _ (λz=>by rw [z,ht] at h;cases h) h⟩)
 ·exact .inr h
theorem But.sqL (e:But t H H') (n:a≠t) (h:SqL K H a xs):SqL K H' a xs:=by
 rcases h with (h | ⟨o,h⟩) | h
 ·exact .inl (.inl (e _ _ n h))
 ·exact .inl (.inr ⟨o,e _ _ n h⟩)
 ·exact .inr h
theorem But.grow {zs':List V} (e:But t H H') (ht:H t=some (.lst zs)) (ht':H' t=some (.lst zs')):fE K H H' :=
 ⟨λ_ _ h=>e.sqT ht h,λa xs h=>by
  by_cases n:a=t
  ·subst n;exact ⟨zs',SqL.of ht'⟩
  ·exact ⟨xs,e.sqL n h⟩⟩
end
section
variable {K:W.Frag}
theorem Aw (d:D):W.kitOne K (.type (tyD d)) (.type "int")=some (lZ d "int"):=by cases d <;> rfl
theorem CF (d:D):W.kitOne K (.type (tyD d)) (.type "bool")=some (lZ d "bool"):=by cases d <;> rfl
theorem Ax (d:D):W.kitOne K (.type (tyD d)) (.type "str")=some (lZ d "str"):=by cases d <;> rfl
theorem jc (d:D):W.kitOne K (.type (tyD d)) (.type "tuple")=some (lZ d "tuple"):=by cases d <;> rfl
theorem CG (d:D):W.kitOne K (.type (tyD d)) (.type "list")=some (lZ d "list"):=by cases d <;> rfl
end
def spD (K:W.Frag) (R:List D->D->Prop):Sp:=λvs H Q _=>∃ ds d,Dats K H ds vs/\R ds d/\∀ v H',Same H H'->Dat K H' d v->Q v H'
def jC (K:W.Frag) (R:List D->List D->Prop):Sp:=λvs H Q _=>∃ ds es,Dats K H ds vs/\R ds es/\∀ r us H',Same H H'->H' r=some (.lst us)->H r=none->Dats K H' es us->Q (.ref r) H'
variable {vs:List V}
theorem jw {a:D} (h:Dats K H [a] vs):∃ u,vs=[u]/\Dat K H a u:=by obtain ⟨u,r,e,h1,h⟩:=h.consE;have z:=h.nilE;subst z e;exact ⟨u,rfl,h1⟩
theorem iJ {a b:D} (h:Dats K H [a,b] vs):∃ u v,vs=[u,v]/\Dat K H a u/\Dat K H b v:=by obtain ⟨u,r,e,h1,h⟩:=h.consE;obtain ⟨v,q,h2⟩:=jw h;subst q e;exact ⟨u,v,rfl,h1,h2⟩
theorem nW {a b c:D} (h:Dats K H [a,b,c] vs):∃ u v w,vs=[u,v,w]/\Dat K H a u/\Dat K H b v/\Dat K H c w:=by obtain ⟨u,r,e,h1,h⟩:=h.consE;obtain ⟨v,w,q,h2⟩:=iJ h;subst q e;exact ⟨u,v,w,rfl,h1,h2⟩
variable {σ:St} {j:Nat}
theorem mX {z:Option V} {x:Option V}:(σ.set j z).set j x=σ.set j x:=by rw [List.set_set]
variable {J:It} {item:Nat->V} {te:TE} {σ0:St} {Q:VK}
theorem oZ (Ok:Hp->Prop)
  (go:∀ i H',Ok H'->i < n->J.go i H'/\∀ x H'',J.yld i H' x H''->H''=H'/\x=item i) (stop:∀ H',Ok H'->J.stop n H') (h0:σ0.set j none=σ0)
  (D:Addr) (Pn:Nat->Hp->Prop) (p0:Pn 0 (upd H1 D (.lst []))) (ok:∀ i H',i<=n->Pn i H'->Ok H')
  (turn:∀ i H',i < n->Pn i H'->te (σ0.set j (some (item i))) H' λv H4=>∃ ys,H4 D=some (.lst ys)/\ys.length < sizeLine/\(∃ z,σ0.set j (some (item i))=σ0.set j z)/\Pn (i+1) (upd H4 D (.lst (ys++[v]))))
  (fin:∀ H',Pn n H'->Q (.ref D) H') :
  ∃ W:Nat->Nat->St->Hp->Prop,(∃ m,W 0 m σ0 (upd H1 D (.lst [])))/\∀ i m σ' H',W i m σ' H' ->
   (J.stop i H'/\Q (.ref D) H') \/
   (J.go i H'/\∃ Nx:St->Hp->Prop,(∀ σ'' H'',Nx σ'' H''->∃ m',m' < m/\W (i+1) m' σ'' H'')/\∀ x H'',J.yld i H' x H''->c6 j x σ' H'' λσ2 H2=>fO σ2 H2 λb H3 =>
    if b=true then te σ2 H3 λv H4=>∃ ys,H4 D=some (.lst ys)/\ys.length < sizeLine/\Nx σ2 (upd H4 D (.lst (ys++[v]))) else Nx σ2 H3):=by
 refine ⟨λi m σ' H'=>m=n - i/\i<=n/\(∃ z,σ'=σ0.set j z)/\Pn i H',⟨n,by omega,Nat.zero_le _,⟨none,h0.symm⟩,p0⟩,?_⟩;rintro i m σ' H' ⟨rfl,hi,⟨z,rfl⟩,p⟩;have o:=ok i H' hi p;by_cases hlt:i < n
 ·obtain ⟨g,y⟩:=go i H' o hlt;refine .inr ⟨g,λσ'' H''=>(∃ z,σ''=σ0.set j z)/\Pn (i+1) H'',λσ'' H'' q=>⟨n - (i+1),by omega,rfl,hlt,q.1,q.2⟩,λx H'' yx=>?_⟩;obtain ⟨e1,e2⟩:=y x H'' yx;subst e1 e2;simp only [c6,fO,if_true,mX];exact turn i _ hlt p
 ·have e:i=n:=by omega
  subst e;exact .inl ⟨stop H' o,fin H' p⟩
theorem As (i:Nat) (H':Hp) (h:SqT K H' a xs) (hi:i < xs.length):(Itt K a).go i H'/\∀ x H'',(Itt K a).yld i H' x H''->H''=H'/\x=xs.getD i .non:=by refine ⟨⟨xs,xs[i],h,List.getElem?_eq_getElem hi⟩,λx H'' y=>⟨y.1,?_⟩⟩;have q:=y.2 xs h;rw [List.getD_eq_getElem?_getD,q];rfl
theorem pd (i:Nat) (H':Hp) (h:SqL K H' a xs) (hi:i < xs.length):(Itl K a).go i H'/\∀ x H'',(Itl K a).yld i H' x H''->H''=H'/\x=xs.getD i .non:=by refine ⟨⟨xs,xs[i],h,List.getElem?_eq_getElem hi⟩,λx H'' y=>⟨y.1,?_⟩⟩;have q:=y.2 xs h;rw [List.getD_eq_getElem?_getD,q];rfl
theorem EK (i:Nat) (H':Hp) (hi:i < n):(Itr 0 n).go i H'/\∀ x H'',(Itr 0 n).yld i H' x H''->H''=H'/\x=.int i:=by refine ⟨hi,λx H'' y=>⟨y.1,?_⟩⟩;have q:=y.2;rw [q];simp
section
variable {X:Cx}
def F8 (K:W.Frag):V->V->Hp->VK->Prop:=λo i H Q=>∃ p xs k v,o=.ref p/\i=.int k/\0<=k/\SqL K H p xs/\xs[k.toNat]?=some v/\Q v H
theorem uI:FJ X (F8 X.K):=by intro pins s σ H o i ov iv Q I r1 r2 h;obtain ⟨p,xs,k,v,eo,ei,h0,hq,he,q⟩:=h;subst eo ei;cases r1;obtain ⟨t,rfl⟩:=r2;obtain ⟨its,r,pl,hz⟩:=I.list hq;obtain ⟨w,ew,rw'⟩:=r.get he;have hl:=r.length;have hlt:k.toNat < xs.length:=(List.getElem?_eq_some_iff.mp he).1;have hn:=md;exact wpAny_getItem_list pl.isList h0 (by omega) (by simpa using ew) ⟨v,H,I,rw',q⟩
theorem C5:OpR X (binaryOp .Mult) (rI IntMulOk λi j=>.int (i * j)):=opI λ_ _ _ _ _ _ _ hc q=>mul_int q hc
end
theorem sN (h:j < n):ixN n (j:Int)=some j:=by unfold ixN;rw [if_pos (by omega),if_pos (by omega)];simp
theorem at0 {α:Type} {x:α} {r:List α}:atI (x::r) 0=some x:=i0 (j:=0) rfl
theorem at1 {α:Type} {x y:α} {r:List α}:atI (x::y::r) 1=some y:=i0 (j:=1) rfl
theorem at2 {α:Type} {x y z:α} {r:List α}:atI (x::y::z::r) 2=some z:=i0 (j:=2) rfl
theorem ix0:ixN (n+1) 0=some 0:=sN (j:=0) (by omega)
theorem ix1:ixN (n+2) 1=some 1:=sN (j:=1) (by omega)
theorem ix2:ixN (n+3) 2=some 2:=sN (j:=2) (by omega)
theorem e8:∀ ns:List Int,Dats K H (ns.map D.int) (ns.map V.int)
 | []=>Dats.nil
 | n::ns=>Dats.cons (Dat.intI n) (e8 ns)
theorem i8:∀ ns:List Int,noLs (ns.map D.int)=true
 | []=>by unfold noLs;rfl
 | n::ns=>by show noLs (D.int n::ns.map D.int)=true;unfold noLs;rw [i8 ns];unfold noL;rfl
theorem iK:∀ ns:List Int,deepDs (ns.map D.int)=0
 | []=>by unfold deepDs;rfl
 | n::ns=>by show deepDs (D.int n::ns.map D.int)=0;unfold deepDs;rw [iK ns];unfold gD;rfl
theorem Aj (ns:List Int):eqDs (ns.map D.int) []=ns.isEmpty:=by
 cases ns with
 | nil=>unfold eqDs;rfl
 | cons n ns=>show eqDs (D.int n::ns.map D.int) []=false;unfold eqDs;rfl
theorem cW (h:n<=1000):n<=sizeLine:=Nat.le_of_lt (bX h)
def Scr (K:W.Frag) (H:Hp) (a:Addr) (ns:List Int):Prop:=(∃ o,H a=some (.frz o (.lst (ns.map V.int)))) \/
 ∃ (o:Obj) (its:Array Value) (n:Nat),K.lookup a=some o/\o.cls=.type "list"/\o.dict=none/\o.data=.seq its n/\its.size<=sizeLine/\Vals (ns.map V.int) its.toList
theorem Scr.sqL (h:Scr K H a ns):SqL K H a (ns.map V.int):=by
 rcases h with ⟨o,h⟩ | h
 ·exact .inl (.inr ⟨o,h⟩)
 ·exact .inr h
theorem Scr.but {t:Addr} {zs:List V} (h:Scr K H a ns) (e:But t H H') (ht:H t=some (.lst zs)):Scr K H' a ns:=by
 rcases h with ⟨o,h⟩ | h
 ·exact .inl ⟨o,e _ _ (λz=>by rw [z,ht] at h;cases h) h⟩
 ·exact .inr h
theorem Scr.same (h:Scr K H a ns) (e:Same H H'):Scr K H' a ns:=by
 rcases h with ⟨o,h⟩ | h
 ·exact .inl ⟨o,e _ _ h⟩
 ·exact .inr h
theorem Fv (hO:B7 H) (h:SqL K H a (ns.map V.int)):Scr K H a ns:=by
 rcases h with (h | ⟨o,h⟩) | h
 ·rcases hO a with z | ⟨o,xs,z⟩
  ·rw [h] at z;cases z
  ·rw [h] at z;cases z
 ·exact .inl ⟨o,h⟩
 ·exact .inr h
def qm (K:W.Frag):Sp:=λvs H Q _=>∃ (a t:Addr) (ns:List Int) (m p q:Int) (rest:List V),vs=[.ref a,.ref t,.int m]/\Scr K H a ns/\H t=some (.lst (.int p::.int q::rest))/\0<=p/\0 < m/\m<=1000000 /\
 ∀ (r:Int) (H':Hp) (p' q':Int),But t H H'->H' t=some (.lst (.int p'::.int q'::rest))->0<=p'->0<=r->r < m->Q (.int r) H'
def RE (K:W.Frag) (t:TE) (σ:St) (H:Hp) (d:D):Prop:=∀ H1,Same H H1->∀ Q:VK,(∀ v H',Same H1 H'->Dat K H' d v->Q v H')->t σ H1 Q
def RT (t:TT) (σ:St) (H:Hp) (b:Bool):Prop:=∀ H1,Same H H1->∀ Q:Bool->Hp->Prop,(∀ H',Same H1 H'->Q b H')->t σ H1 Q
def RA (K:W.Frag) (t:TA) (σ:St) (H:Hp) (ds:List D):Prop:=∀ H1,Same H H1->∀ Q:List V->Hp->Prop,(∀ vs H',Same H1 H'->Dats K H' ds vs->Q vs H')->t σ H1 Q
section
variable {K:W.Frag} {σ:St} {H H':Hp} {d d':D} {ds:List D} {t u ta tb:TE} {tt uu:TT} {tA:TA} {i j:Int} {b c:Bool}
theorem RE.mono (h:RE K t σ H d) (e:Same H H'):RE K t σ H' d:=λH1 s Q q=>h H1 (e.trans s) Q q
theorem RA.mono (h:RA K tA σ H ds) (e:Same H H'):RA K tA σ H' ds:=λH1 s Q q=>h H1 (e.trans s) Q q
theorem RT.mono (h:RT tt σ H b) (e:Same H H'):RT tt σ H' b:=λH1 s Q q=>h H1 (e.trans s) Q q
theorem RE.as (h:RE K t σ H d) (e:d=d'):RE K t σ H d':=e ▸ h
theorem RT.as (h:RT tt σ H b) (e:b=c):RT tt σ H c:=e ▸ h
theorem RE.use {Q:VK} (h:RE K t σ H d) (q:∀ v H',Same H H'->Dat K H' d v->Q v H'):t σ H Q:=h H (Same.refl H) Q q
theorem RT.use {Q:Bool->Hp->Prop} (h:RT tt σ H b) (q:∀ H',Same H H'->Q b H'):tt σ H Q:=h H (Same.refl H) Q q
theorem RA.use {Q:List V->Hp->Prop} (h:RA K tA σ H ds) (q:∀ vs H',Same H H'->Dats K H' ds vs->Q vs H'):tA σ H Q:=h H (Same.refl H) Q q
theorem aF:RE K (tC (.int i)) σ H (.int i):=λH1 _ Q q=>q _ _ (Same.refl _) (Dat.intI i)
variable {x:Str}
theorem aK:RE K (tC (.str x)) σ H (.str x):=λH1 _ Q q=>q _ _ (Same.refl _) (Dat.strI x)
theorem fG:RE K (tC (.bl b)) σ H (.bl b):=λH1 _ Q q=>q _ _ (Same.refl _) (Dat.blI b)
theorem kP:RE K (tC .non) σ H .non:=λH1 _ Q q=>q _ _ (Same.refl _) Dat.nonI
theorem aA {k:Nat} {v:V} (h:Dat K H d v) (e:σ[k]?=some (some v):=by rfl):RE K (hW k) σ H d:=λH1 s Q q=>⟨v,e,q _ _ (Same.refl _) (s.dat h)⟩
theorem aL:RA K eG σ H []:=λH1 _ Q q=>q _ _ (Same.refl _) Dats.nil
theorem aB (h:RE K t σ H d) (r:RA K tA σ H ds):RA K (cE t tA) σ H (d::ds):=λH1 s Q q =>
 h H1 s _ λv H2 s2 q2=>r H2 (s.trans s2) _ λvs H3 s3 q3=>q _ _ (s2.trans s3) (Dats.cons (s3.dat q2) q3)
theorem bJ (h:RA K tA σ H ds) (hl:ds.length<=1000:=by simp):RE K (xi tA) σ H (.tup ds):=λH1 s Q q =>
 h H1 s _ λvs H2 s2 q2=>⟨by rw [<- q2.length];exact cW hl,λp hp=>q _ _ (s2.trans (aR hp _)) (Dat.tupI (SqT.of aH) ((aR hp _).dats q2))⟩
theorem Bx {g:Int->Int} (h:RE K t σ H (.int i)):RE K (tUn (rU λi=>.int (g i)) t) σ H (.int (g i)):=λH1 s Q q =>
 h H1 s _ λv H2 s2 q2=>⟨i,q2.intE,q _ _ s2 (Dat.intI _)⟩
variable {g:Int->Int->V}
theorem wV (h1:RE K ta σ H (.int i)) (h2:RE K tb σ H (.int j)) (hd:∀ H,Dat K H d (g i j)):RE K (tOp (rI0 g) ta tb) σ H d:=λH1 s Q q =>
 h1 H1 s _ λv H2 s2 q2=>h2 H2 (s.trans s2) _ λw H3 s3 q3=>⟨i,j,q2.intE,q3.intE,q _ _ (s2.trans s3) (hd _)⟩
theorem wW {C:Int->Int->Prop} (h1:RE K ta σ H (.int i)) (h2:RE K tb σ H (.int j)) (hc:C i j) (hd:∀ H,Dat K H d (g i j)):RE K (tOp (rI C g) ta tb) σ H d:=λH1 s Q q =>
 h1 H1 s _ λv H2 s2 q2=>h2 H2 (s.trans s2) _ λw H3 s3 q3=>⟨i,j,q2.intE,q3.intE,hc,q _ _ (s2.trans s3) (hd _)⟩
theorem fV (h1:RE K ta σ H (.int i)) (h2:RE K tb σ H (.int j)):RE K (tOp (rI0 λi j=>.int (i+j)) ta tb) σ H (.int (i+j)):=wV h1 h2 λ_=>Dat.intI _
theorem Bw (h1:RE K ta σ H (.int i)) (h2:RE K tb σ H (.int j)):RE K (tOp (rI0 λi j=>.int (i - j)) ta tb) σ H (.int (i - j)):=wV h1 h2 λ_=>Dat.intI _
variable {p:Int->Int->Bool}
theorem cV (h1:RE K ta σ H (.int i)) (h2:RE K tb σ H (.int j)):RE K (tOp (rI0 λi j=>.bl (p i j)) ta tb) σ H (.bl (p i j)):=wV h1 h2 λ_=>Dat.blI _
theorem pZ (h1:RE K ta σ H (.int i)) (h2:RE K tb σ H (.int j)):RE K (tOp rEq ta tb) σ H (.bl (decide (i=j))):=λH1 s Q q =>
 h1 H1 s _ λv H2 s2 q2=>h2 H2 (s.trans s2) _ λw H3 s3 q3=>by
  rw [q2.intE,q3.intE];refine ⟨rfl,?_⟩;have e:decide (V.int i=V.int j)=decide (i=j):=by by_cases z:i=j <;> simp [z]
  rw [e];exact q _ _ (s2.trans s3) (Dat.blI _)
theorem iA (h1:RE K ta σ H (.int i)) (h2:RE K tb σ H (.int j)):RE K (tOp rNe ta tb) σ H (.bl (!decide (i=j))):=λH1 s Q q =>
 h1 H1 s _ λv H2 s2 q2=>h2 H2 (s.trans s2) _ λw H3 s3 q3=>by
  rw [q2.intE,q3.intE];refine ⟨rfl,?_⟩;have e:decide (V.int i=V.int j)=decide (i=j):=by by_cases z:i=j <;> simp [z]
  rw [e];exact q _ _ (s2.trans s3) (Dat.blI _)
theorem bI {y:Str} (h1:RE K ta σ H (.str x)) (h2:RE K tb σ H (.str y)):RE K (tOp rEq ta tb) σ H (.bl (decide (x=y))):=λH1 s Q q =>
 h1 H1 s _ λv H2 s2 q2=>h2 H2 (s.trans s2) _ λw H3 s3 q3=>by
  rw [q2.strE,q3.strE];refine ⟨rfl,?_⟩;have e:decide (V.str x=V.str y)=decide (x=y):=by by_cases z:x=y <;> simp [z]
  rw [e];exact q _ _ (s2.trans s3) (Dat.blI _)
theorem yX (h1:RE K ta σ H (.bl b)) (h2:RE K tb σ H (.bl c)):RE K (tOp (λx y H Q=>∃ a b,x=.bl a/\y=.bl b/\Q (.bl (a != b)) H) ta tb) σ H (.bl (b != c)):=λH1 s Q q =>
 h1 H1 s _ λv H2 s2 q2=>h2 H2 (s.trans s2) _ λw H3 s3 q3=>⟨b,c,q2.blE,q3.blE,q _ _ (s2.trans s3) (Dat.blI _)⟩
theorem aY {k:Nat} (h1:RE K ta σ H (.tup ds)) (h2:RE K tb σ H (.int k)) (e:ds[k]?=some d):RE K (tOp (mN K) ta tb) σ H d:=λH1 s Q q =>
 h1 H1 s _ λv H2 s2 q2=>h2 H2 (s.trans s2) _ λw H3 s3 q3=>by obtain ⟨a,vs,ev,hq,hd⟩:=(s3.dat q2).tupE;obtain ⟨x,ex,hx⟩:=hd.get e;exact ⟨a,vs,k,x,ev,q3.intE,hq,i0 ex,q _ _ (s2.trans s3) hx⟩
theorem dN (h:RE K t σ H (.tup ds)):RE K (tCB (λxs H Q=>∃ p ys,xs=[.ref p]/\(SqL K H p ys\/SqT K H p ys)/\Q (.int ys.length) H) (cE t eG)) σ H (.int ds.length):=λH1 s Q q =>
 h H1 s _ λv H2 s2 q2=>by obtain ⟨a,vs,ev,hq,hd⟩:=q2.tupE;subst ev;refine ⟨a,vs,rfl,.inr hq,?_⟩;rw [<- hd.length];exact q _ _ s2 (Dat.intI _)
theorem bZ {T:String} (h:RE K t σ H d):RE K (tCB (λxs H Q=>∃ x d,xs=[x,.ty T]/\Dat K H d x/\Q (.bl (lZ d T)) H) (cE t (cE (tC (.ty T)) eG))) σ H (.bl (lZ d T)):=λH1 s Q q =>
 h H1 s _ λv H2 s2 q2=>⟨v,d,rfl,q2,q _ _ s2 (Dat.blI _)⟩
theorem bN {R:List D->D->Prop} {E:XK} (h:RA K tA σ H ds) (e:R ds d):RE K (jU (spD K R) [] E tA) σ H d:=λH1 s Q q =>
 h H1 s _ λvs H2 s2 q2=>⟨ds,d,by rw [List.append_nil];exact q2,e,λv H3 s3 q3=>q _ _ (s2.trans s3) q3⟩
variable {a:Addr} {T:List (Str × KTD.Dat)}
theorem iP {k:Str} (h:RE K t σ H (.str k)) (ht:lF K a T):RE K (tOp (λx y H Q=>∃ k a T,x=.str k/\y=.ref a/\lF K a T/\Q (.bl (KTD.inKeys k T)) H) t (tC (.ref a))) σ H (.bl (KTD.inKeys k T)):=λH1 s Q q =>
 h H1 s _ λv H2 s2 q2=>⟨k,a,T,q2.strE,rfl,ht,q _ _ s2 (Dat.blI _)⟩
theorem vG {k:Str} (h:RE K t σ H (.str k)) (ht:lF K a T) (hp:(T.all λp=>KTD.plain p.2)=true) (e:KTD.datumAt k T=some (.flat (.int i))):RE K (tOp (Bg K) (tC (.ref a)) t) σ H (.int i):=λH1 s Q q =>
 h H1 s _ λv H2 s2 q2=>⟨a,k,T,i,rfl,q2.strE,ht,hp,e,q _ _ s2 (Dat.intI _)⟩
theorem Gg {n:Nat}:HT.sIx (n+1) 0 (some 1)=1:=by have:=HT.sIx_nat (n+1) 0 1;simpa using this
theorem GC (v:V) (r:List V):qC (v::r) (some 1) none=r:=by unfold qC;rw [List.length_cons,Gg,HT.sIx_none];simp
theorem jR (h:RE K t σ H (.tup (d'::ds))):RE K (tSl (Fj K) t (rS (tC (.int 1))) ym) σ H (.tup ds):=λH1 s Q q =>
 h H1 s _ λv H2 s2 q2=>by
  obtain ⟨a,vs,ev,hq,hd⟩:=q2.tupE;obtain ⟨w,r,er,h1,h2⟩:=hd.consE;subst ev er;refine ⟨1,rfl,a,w::r,rfl,hq,λz=>?_,λp hp=>?_⟩
  ·rw [List.length_cons,Gg] at z;exact absurd z.1 (by decide)
  ·rw [GC];exact q _ _ (s2.trans (aR hp _)) (Dat.tupI (SqT.of aH) ((aR hp _).dats h2))
theorem dZ (h1:RE K ta σ H (.bl b)) (h2:b=true->RE K tb σ H (.bl c)):RE K (BK ta tb) σ H (.bl (b && c)):=λH1 s Q q =>
 h1 H1 s _ λv H2 s2 q2=>⟨b,q2.blE,by
  cases b with
  | true=>rw [if_pos rfl];exact h2 rfl H2 (s.trans s2) _ λw H3 s3 q3=>q _ _ (s2.trans s3) q3
  | false=>rw [if_neg Bool.false_ne_true];exact q _ _ s2 (Dat.blI _)⟩
theorem yh (h1:RE K ta σ H (.bl b)) (h2:b=false->RE K tb σ H (.bl c)):RE K (Gp ta tb) σ H (.bl (b || c)):=λH1 s Q q =>
 h1 H1 s _ λv H2 s2 q2=>⟨b,q2.blE,by
  cases b with
  | true=>rw [if_pos rfl];exact q _ _ s2 (Dat.blI _)
  | false=>rw [if_neg Bool.false_ne_true];exact h2 rfl H2 (s.trans s2) _ λw H3 s3 q3=>q _ _ (s2.trans s3) q3⟩
theorem Bv (h:RE K t σ H (.bl b)):RE K (Eb t) σ H (.bl (!b)):=λH1 s Q q =>
 h H1 s _ λv H2 s2 q2=>⟨b,q2.blE,q _ _ s2 (Dat.blI _)⟩
theorem mO {r:Int->Int->Bool} {k:Int} {tc:TE} (h1:RE K ta σ H (.int i)) (h2:RE K tb σ H (.int j)) (h3:p i j=true->RE K tc σ H (.int k)) :
  RE K (ue (rI0 λi j=>.bl (p i j)) (rI0 λi j=>.bl (r i j)) ta tb tc) σ H (.bl (p i j && r j k)):=λH1 s Q q =>
 h1 H1 s _ λv H2 s2 q2=>h2 H2 (s.trans s2) _ λw H3 s3 q3=>by
  refine ⟨i,j,q2.intE,q3.intE,p i j,rfl,?_⟩
  cases hp:p i j with
  | true =>simp only [if_true,Bool.true_and];exact h3 hp H3 (s.trans (s2.trans s3)) _ λz H4 s4 q4=>⟨j,k,q3.intE,q4.intE,q _ _ (s2.trans (s3.trans s4)) (by rw [hp];exact Dat.blI _)⟩
  | false =>simp only [Bool.false_eq_true,if_false,Bool.false_and];exact q _ _ (s2.trans s3) (by rw [hp];exact Dat.blI _)
theorem mQ (h:RT tt σ H b) (h1:b=true->RE K ta σ H d) (h2:b=false->RE K tb σ H d):RE K (tIf tt ta tb) σ H d:=λH1 s Q q =>
 h H1 s _ λH2 s2=>by
  cases b with
  | true=>rw [if_pos rfl];exact h1 rfl H2 (s.trans s2) _ λw H3 s3 q3=>q _ _ (s2.trans s3) q3
  | false=>rw [if_neg Bool.false_ne_true];exact h2 rfl H2 (s.trans s2) _ λw H3 s3 q3=>q _ _ (s2.trans s3) q3
theorem aJ (h:RE K t σ H (.bl b)):RT (vQ t) σ H b:=λH1 s Q q=>h H1 s _ λv H2 s2 q2=>⟨b,q2.blE,q _ s2⟩
theorem bE (h:RE K t σ H (.bl b)):RT (λσ H Q=>t σ H λx H'=>∃ k,zK K x H' k/\Q k H') σ H b:=λH1 s Q q=>h H1 s _ λv H2 s2 q2=>by rw [q2.blE];exact ⟨b,rfl,q _ s2⟩
theorem bS (h:RT tt σ H b):RT (FB tt) σ H (!b):=λH1 s Q q=>h H1 s _ λH2 s2=>q _ s2
theorem tY (h:RT tt σ H b) (h2:b=true->RT uu σ H c):RT (Gj tt uu) σ H (b && c):=λH1 s Q q=>h H1 s _ λH2 s2=>by
 cases b with
 | true=>rw [if_pos rfl];exact h2 rfl H2 (s.trans s2) _ λH3 s3=>q _ (s2.trans s3)
 | false=>rw [if_neg Bool.false_ne_true];exact q _ s2
theorem cI (h:RT tt σ H b) (h2:b=false->RT uu σ H c):RT (tOr tt uu) σ H (b || c):=λH1 s Q q=>h H1 s _ λH2 s2=>by
 cases b with
 | true=>rw [if_pos rfl];exact q _ s2
 | false=>rw [if_neg Bool.false_ne_true];exact h2 rfl H2 (s.trans s2) _ λH3 s3=>q _ (s2.trans s3)
variable {En:ko}
theorem bF (h:RE K t σ H d) (q:∀ v H',Same H H'->Dat K H' d v->En.rt v H'):BM t En σ H:=h.use q
theorem iQ {ts us:TS} (h:RT tt σ H b) (h1:b=true->∀ H',Same H H'->ts En σ H') (h2:b=false->∀ H',Same H H'->us En σ H'):DH tt ts us En σ H:=h.use λH' s=>by
 cases b with
 | true=>rw [if_pos rfl];exact h1 rfl H' s
 | false=>rw [if_neg Bool.false_ne_true];exact h2 rfl H' s
end
theorem bU:bootBuiltins "len"=some (.builtin "len"):=by decide +kernel
theorem cG:bootBuiltins "isinstance"=some (.builtin "isinstance"):=by decide +kernel
theorem m7:bootBuiltins "all"=some (.builtin "all"):=by decide +kernel
theorem EA:bootBuiltins "any"=some (.builtin "any"):=by decide +kernel
theorem zU:bootBuiltins "sum"=some (.builtin "sum"):=by decide +kernel
theorem zR:bootBuiltins "int"=some (.type "int"):=by decide +kernel
theorem Cg:bootBuiltins "bool"=some (.type "bool"):=by decide +kernel
theorem zT:bootBuiltins "str"=some (.type "str"):=by decide +kernel
theorem dB:bootBuiltins "tuple"=some (.type "tuple"):=by decide +kernel
theorem xx:bootBuiltins "list"=some (.type "list"):=by decide +kernel
theorem zS:bootBuiltins "range"=some (.type "range"):=by decide +kernel
theorem EB:bootBuiltins "set"=some (.type "set"):=by decide +kernel
theorem r9:bootBuiltins "enumerate"=some (.type "enumerate"):=by decide +kernel
theorem zV:bootBuiltins "zip"=some (.type "zip"):=by decide +kernel
theorem uo:bootBuiltins "reversed"=some (.type "reversed"):=by decide +kernel
variable {tA:TA} {ds:List D}
theorem wY (h:RA K tA σ H ds) (q:∀ p vs H1,Same H H1->H1 p=none->Dats K H1 ds vs->Q (.ref p) (upd H1 p (.lst vs))) (hl:ds.length<=1000:=by simp):uf tA σ H Q :=
 h.use λvs H1 s1 q1=>⟨by rw [<- q1.length];exact cW hl,λp hp=>q p vs H1 s1 hp q1⟩
theorem jI {K:PySem.W.Frag} (go:∀ i H',Same H1 H'->i < n->J.go i H'/\∀ x H'',J.yld i H' x H''->H''=H'/\x=item i) (stop:∀ H',Same H1 H'->J.stop n H')
  (h0:σ0.set j none=σ0) (es:List D) (hn:es.length=n) (hb:n<=1000) (turn:∀ i d,es[i]?=some d->RE K te (σ0.set j (some (item i))) H1 d)
  (fin:∀ l ys H',H1 l=none->Same H1 H'->H' l=some (.lst ys)->Dats K H' es ys->Q (.ref l) H') (l:Addr) (hl:H1 l=none) :
  ∃ W:Nat->Nat->St->Hp->Prop,(∃ m,W 0 m σ0 (upd H1 l (.lst [])))/\∀ i m σ' H',W i m σ' H' ->
   (J.stop i H'/\Q (.ref l) H') \/
   (J.go i H'/\∃ Nx:St->Hp->Prop,(∀ σ'' H'',Nx σ'' H''->∃ m',m' < m/\W (i+1) m' σ'' H'')/\∀ x H'',J.yld i H' x H''->c6 j x σ' H'' λσ2 H2=>fO σ2 H2 λb H3 =>
    if b=true then te σ2 H3 λv H4=>∃ ys,H4 l=some (.lst ys)/\ys.length < sizeLine/\Nx σ2 (upd H4 l (.lst (ys++[v]))) else Nx σ2 H3):=by
 refine oZ (λH'=>Same H1 H') go stop h0 l (λi H'=>Same H1 H'/\∃ ys,H' l=some (.lst ys)/\Dats K H' (es.take i) ys) ?_ ?_ ?_ ?_
 ·exact ⟨aR hl _,[],aH,by rw [List.take_zero];exact Dats.nil⟩
 ·intro i H' _ p;exact p.1
 ·intro i H' hi ⟨s1,ys,hy,hd⟩;have hi':i < es.length:=by omega
  refine ((turn i es[i] (List.getElem?_eq_getElem hi')).mono s1).use λv H4 s4 q4=>?_;have hy4:=s4 _ _ hy;have lys:ys.length=i:=by rw [<- hd.length,List.length_take];omega
  refine ⟨ys,hy4,bX (by omega),⟨_,rfl⟩,λb o hb=>?_,ys++[v],aH,?_⟩
  ·rw [aZ (aM hb hl)];exact s4 _ _ (s1 _ _ hb)
  ·have g:fE K H4 (upd H4 l (.lst (ys++[v]))):=But.grow (t:=l) (But.upd (Same.refl H4).but) hy4 aH;rw [List.take_add_one,List.getElem?_eq_getElem hi'];exact Dats.append (Dats.mono g _ (s4.dats hd)) (Dats.cons (Dat.mono g _ q4) Dats.nil)
 ·intro H' ⟨s1,ys,hy,hd⟩;rw [List.take_of_length_le (by omega)] at hd;exact fin l ys H' hl s1 hy hd
variable {tt:TT} {En:ko} {ts us:TS}
theorem aS {K:W.Frag} {b:Bool} (h:RT tt σ H b) (h1:b=true->∀ H',Same H H'->ts { En with nx:=us En } σ H') (h2:b=false->∀ H',Same H H'->us En σ H'):lI (DH tt ts yl) us En σ H :=
 iQ h h1 h2
variable {d:D}
theorem gH {t:TE} {k:Nat} (h:RE K t σ H d) (q:∀ v H',Same H H'->Dat K H' d v->us En (σ.set k (some v)) H'):lI (qM t (c6 k)) us En σ H:=h.use q
theorem eF {k:Nat} (h:te σ H λx H1=>us En (σ.set k (some x)) H1):lI (qM te (c6 k)) us En σ H:=h
theorem nK (h:te σ H λ_ H1=>us En σ H1):lI (qt te) us En σ H:=h
variable {v:V}
theorem yj (h:Q v H):tC v σ H Q:=h
theorem hU (h:te σ H En.rt):BM te En σ H:=h
theorem c9 (h:ts { En with nx:=us En } σ H):lI ts us En σ H:=h
variable {tl:TE} {mk:St->St}
theorem rG {cs:List D} (h:RE K tl σ H (.tup cs)) (hc:cs.length<=1000) (es:List D) (hl:es.length=cs.length) (h0:(mk σ).set j none=mk σ)
  (turn:∀ H1 (i:Nat) c v d,Same H H1->cs[i]?=some c->es[i]?=some d->Dat K H1 c v->RE K te ((mk σ).set j (some v)) H1 d)
  (fin:∀ l ys H',H l=none->Same H H'->H' l=some (.lst ys)->Dats K H' es ys->Q (.ref l) H'):h8 (AA K tl) mk (c6 j) fO te σ H Q:=by
 refine h.use λv4 H4 s4 q4=>?_;obtain ⟨a,vs,e,hq,hd⟩:=q4.tupE;subst e;have l4:=hd.length;refine ⟨a,rfl,⟨vs,hq⟩,?_⟩;refine jI (K:=K) (Q:=Q) (n:=vs.length) (item:=λi=>vs.getD i .non) (λi H' s hi=>As i H' (s.sqT hq) hi) (λH' s=>⟨vs,s.sqT hq,Nat.le_refl _⟩) h0 es (by omega) (by omega) (λi d hi=>?_) (λl ys H5 hl5 s5=>fin l ys H5 (s4.free hl5) (s4.trans s5));have hi':i < es.length:=(List.getElem?_eq_some_iff.mp hi).1;have hic:i < cs.length:=by omega
 obtain ⟨vz,ez,hz⟩:=hd.get (List.getElem?_eq_getElem hic);have q:=turn H4 i cs[i] vz d s4 (List.getElem?_eq_getElem hic) hi hz;rw [List.getD_eq_getElem?_getD,ez];exact q
theorem j6 {Q:St->Hp->Prop} (h:Q (σ.set j (some v)) H):c6 j v σ H Q:=h
theorem oO (M:St->Hp->Prop) (hr:∀ σ' H',M σ' H'->us En σ' H') (h:(∀ σ' H',M σ' H'->us En σ' H')->ts { En with nx:=us En } σ H):lI ts us En σ H:=h hr
theorem fS {base:Heap} {k:Nat} {f:Addr} {ps:List Str} (no:∀ vs H Q E,¬ sp vs H Q E):FnOk P w K mg base CX k f fd ps sp :=
 ⟨λvs H Q E h=>absurd h (no vs H Q E),λA outer s H args us vs Q E _ _ _ _ h=>absurd h (no vs H Q E)⟩
theorem pX (n:Nat) (h:∀ R:List V->Hp->Prop,R [.int n] H->tA σ H R) (hc:n<=1000) (h0:(mk σ).set j none=mk σ) (Pn:Addr->Nat->Hp->Prop)
  (p0:∀ l,H l=none->Pn l 0 (upd H l (.lst [])))
  (turn:∀ l i G,H l=none->i < n->Pn l i G->te ((mk σ).set j (some (.int i))) G λv H4=>∃ ys,H4 l=some (.lst ys)/\ys.length < sizeLine/\(∃ z,(mk σ).set j (some (.int i))=(mk σ).set j z)/\Pn l (i+1) (upd H4 l (.lst (ys++[v]))))
  (fin:∀ l G,H l=none->Pn l n G->Q (.ref l) G):h8 (DS tA) mk (c6 j) fO te σ H Q:=by
 refine h _ ⟨n,rfl,by omega,by omega,λl hl=>?_⟩;rw [Int.toNat_natCast];exact oZ (λ_=>True) (item:=λi=>.int i) (λi H' _ hi=>EK i H' hi) (λH' _=>Nat.le_refl _) h0 l (Pn l) (p0 l hl) (λ_ _ _ _=>trivial) (λi G hi p=>turn l i G hl hi p) (λG p=>fin l G hl p)
theorem iO {ta:TE} {r:List V->Hp->VK->Prop} (h:ta σ H λx H1=>r [x] H1 Q):tCB r (cE ta eG) σ H Q:=h
variable {i:Nat}
theorem BA {e:D} (h:RA K tA σ H [d,e]) (q:∀ v w H',Same H H'->Dat K H' d v->Dat K H' e w->us En ((σ.set i (some v)).set j (some w)) H'):lI (FC i j tA) us En σ H :=
 h.use λvs H1 s1 q1=>by obtain ⟨v,w,e,hv,hw⟩:=iJ q1;exact ⟨v,w,e,q v w H1 s1 hv hw⟩
theorem oP {e:D} (h:RE K te σ H (.tup [d,e])) (q:∀ v w H',Same H H'->Dat K H' d v->Dat K H' e w->us En ((σ.set i (some v)).set j (some w)) H') :
  lI (qM te (sE K 2 (iY (c6 i) (iY (c6 j) uG)))) us En σ H :=
 h.use λx H1 s1 q1=>by obtain ⟨a,vs,e1,hq,hd⟩:=q1.tupE;obtain ⟨v,w,e2,hv,hw⟩:=iJ hd;subst e1 e2;exact ⟨a,_,rfl,hq,rfl,v,_,rfl,w,_,rfl,rfl,q v w H1 s1 hv hw⟩
noncomputable def DV:Expr->Bool
 | .Starred ..=>false
 | _=>true
variable {e:Expr} {es:List Expr}
theorem zo (h:DV e=true):starEach (e::es) env=(false,eval e env)::starEach es env:=by cases e <;> first | rfl | cases h
variable {t:TA}
theorem aD (ha:PE X e te) (hr:PA X es t) (h:DV e=true:=by rfl):PA X (e::es) (cE te t):=cM ha hr (zo h)
theorem qy {bs:List Bool} {us:List Value}:Vals (bs.map V.bl) us->us=bs.map Value.bool:=by
 intro h
 induction bs generalizing us with
 | nil=>cases h;rfl
 | cons b bs ih =>
  cases h with
  | cons r t=>cases r;rw [ih t];rfl
theorem Bn (bs:List Bool) (d:Bool):(List.range bs.length).map (λi=>(bs[i]?).getD d)=bs:=by
 apply List.ext_getElem
 ·simp
 ·intro i h1 h2;simp at h1;simp [h1]
section
variable {X:Cx}
theorem jH (hc:X.calm=true):jD X (.builtin "all") (λxs H Q=>∃ (l:Addr) (bs:List Bool),xs=[.ref l]/\SqL X.K H l (bs.map V.bl)/\Q (.bl (bs.all id)) H):=by
 intro pins s σ H xs us Q I r h;obtain ⟨l,bs,rfl,hq,q⟩:=h;obtain ⟨u,rfl,ru⟩:=jr r;cases ru;obtain ⟨its,rv,p,hz⟩:=I.list hq;have ei:=qy rv;have hl:=p.isList;have hlt:l < s.heap.objs.size:=by obtain ⟨_,e,_⟩:=hl;exact Heap.lt_size e
 refine call_all_walk (wpAny_pyIter_list hl ?_)
 refine ⟨s.heap.objs.size,[s.heap.objs.size,l],[s.heap.objs.size],its.toArray.size,_,_,λi=>(bs[i]?).getD true,rfl,Walks.list (A:=X.A.in1) (I.ok.hd hc) _ l (Nat.ne_of_lt hlt) its.toArray,
  ⟨⟨_,Heap.get?_push_size _ rfl,rfl,rfl⟩,hl.push _⟩,λi v s' Q' E' hP hQ=>?_,λh' tk hk=>?_⟩
 ·subst ei;have hP':(bs.map Value.bool)[i]?=some v:=by simpa using hP
  rw [List.getElem?_map] at hP'
  cases hb:bs[i]? with
  | none=>rw [hb] at hP';cases hP'
  | some b =>rw [hb] at hP';cases hP';simp only [hb,Option.getD_some] at hQ;exact wpAny_truthy_bool hQ
 ·have e:((List.range its.toArray.size).all λi=>(bs[i]?).getD true)=bs.all id:=by
   subst ei;rw [List.size_toArray,List.length_map]
   conv=>rhs;rw [<- Bn bs true]
   rw [List.all_map];rfl
  rw [e];exact ⟨.bl _,H,I.kept (t':=tk) λb x e=>hk b x (λhm=>by rw [List.mem_singleton.mp hm] at e;exact Nat.lt_irrefl _ (Heap.lt_size e)) (Heap.get?_push_of_some _ e),rfl,q⟩
theorem zZ (hc:X.calm=true):jD X (.builtin "any") (λxs H Q=>∃ (l:Addr) (bs:List Bool),xs=[.ref l]/\SqL X.K H l (bs.map V.bl)/\Q (.bl (bs.any id)) H):=by
 intro pins s σ H xs us Q I r h;obtain ⟨l,bs,rfl,hq,q⟩:=h;obtain ⟨u,rfl,ru⟩:=jr r;cases ru;obtain ⟨its,rv,p,hz⟩:=I.list hq;have ei:=qy rv;have hl:=p.isList;have hlt:l < s.heap.objs.size:=by obtain ⟨_,e,_⟩:=hl;exact Heap.lt_size e
 refine call_any_walk (wpAny_pyIter_list hl ?_)
 refine ⟨s.heap.objs.size,[s.heap.objs.size,l],[s.heap.objs.size],its.toArray.size,_,_,λi=>(bs[i]?).getD false,rfl,Walks.list (A:=X.A.in1) (I.ok.hd hc) _ l (Nat.ne_of_lt hlt) its.toArray,
  ⟨⟨_,Heap.get?_push_size _ rfl,rfl,rfl⟩,hl.push _⟩,λi v s' Q' E' hP hQ=>?_,λh' tk hk=>?_⟩
 ·subst ei;have hP':(bs.map Value.bool)[i]?=some v:=by simpa using hP
  rw [List.getElem?_map] at hP'
  cases hb:bs[i]? with
  | none=>rw [hb] at hP';cases hP'
  | some b =>rw [hb] at hP';cases hP';simp only [hb,Option.getD_some] at hQ;exact wpAny_truthy_bool hQ
 ·have e:((List.range its.toArray.size).any λi=>(bs[i]?).getD false)=bs.any id:=by
   subst ei;rw [List.size_toArray,List.length_map]
   conv=>rhs;rw [<- Bn bs false]
   rw [List.any_map];rfl
  rw [e];exact ⟨.bl _,H,I.kept (t':=tk) λb x e=>hk b x (λhm=>by rw [List.mem_singleton.mp hm] at e;exact Nat.lt_irrefl _ (Heap.lt_size e)) (Heap.get?_push_of_some _ e),rfl,q⟩
end
section
variable {P:Program} {w:World} {K:W.Frag} {mg:Str->Option Value} {base:Heap}
end
section
variable {K:W.Frag} {σ:St} {H H':Hp} {d d':D} {ds:List D} {t u ta tb:TE} {tt uu:TT} {tA:TA} {i j:Int} {b c:Bool}
theorem j5 (h1:RE K ta σ H (.int i)) (h2:RE K tb σ H (.int j)) (hj:0 < j):RE K (tOp (rI (λ_ j=>0 < j) λi j=>.int (i % j)) ta tb) σ H (.int (i % j)):=wW h1 h2 hj λ_=>Dat.intI _
theorem Bt (h1:RE K ta σ H (.int i)) (h2:RE K tb σ H (.int j)) (hc:CMul i j):RE K (tOp (rI CMul λi j=>.int (i * j)) ta tb) σ H (.int (i * j)):=wW h1 h2 hc λ_=>Dat.intI _
theorem oJ (h1:RE K ta σ H (.int i)) (h2:RE K tb σ H (.int j)) (hc:Ed i j):RE K (tOp (rI Ed λi j=>.int (i / j)) ta tb) σ H (.int (i / j)):=wW h1 h2 hc λ_=>Dat.intI _
theorem Af:∀ {bs:List Bool} {vs:List V},Dats K H (bs.map D.bl) vs->vs=bs.map V.bl
 | [],vs,h=>by rw [Dats.nilE h];rfl
 | b::bs,vs,h=>by obtain ⟨v,r,e,h1,h2⟩:=h.consE;rw [e,h1.blE,Af h2];rfl
theorem xC:∀ {xs:List Str} {vs:List V},Dats K H (xs.map D.str) vs->vs=xs.map V.str
 | [],vs,h=>by rw [Dats.nilE h];rfl
 | x::xs,vs,h=>by obtain ⟨v,r,e,h1,h2⟩:=h.consE;rw [e,h1.strE,xC h2];rfl
theorem Cp (x y:Str):eqV (.str x) (.str y)=decide (x=y):=by unfold eqV;by_cases h:x=y <;> simp [h]
theorem sM (x:Str):∀ ys:List Str,inV (.str x) (ys.map V.str)=decide (x ∈ ys)
 | []=>by simp [inV]
 | y::ys=>by
  have ih:=sM x ys;unfold inV at ih ⊢;rw [List.map_cons,List.any_cons,ih,Cp];by_cases h:y=x
  ·subst h;simp
  ·have h':¬ x=y:=λz=>h z.symm;simp [h,h']
theorem rd (ys:List Str):(ys.map V.str).all lN=true:=by rw [List.all_eq_true];intro v hv;obtain ⟨y,_,rfl⟩:=List.mem_map.mp hv;rfl
variable {x:Str} {ys:List Str}
theorem nG (h1:RE K ta σ H (.str x)) (h2:RE K tb σ H (.tup (ys.map D.str))):RE K (tOp (rIn K false) ta tb) σ H (.bl (decide (x ∈ ys))):=λH1 s Q q =>
 h1 H1 s _ λv H2 s2 q2=>h2 H2 (s.trans s2) _ λw H3 s3 q3=>by obtain ⟨a,vs,ev,hq,hd⟩:=q3.tupE;have e:=xC hd;subst e;rw [q2.strE];refine ⟨a,_,ev,.inr hq,rfl,rd ys,?_⟩;rw [sM];exact q _ _ (s2.trans s3) (Dat.blI _)
theorem y0 (h1:RE K ta σ H (.str x)) (h2:RE K tb σ H (.tup (ys.map D.str))):RE K (tOp (rIn K true) ta tb) σ H (.bl (!decide (x ∈ ys))):=λH1 s Q q =>
 h1 H1 s _ λv H2 s2 q2=>h2 H2 (s.trans s2) _ λw H3 s3 q3=>by obtain ⟨a,vs,ev,hq,hd⟩:=q3.tupE;have e:=xC hd;subst e;rw [q2.strE];refine ⟨a,_,ev,.inr hq,rfl,rd ys,?_⟩;rw [sM];exact q _ _ (s2.trans s3) (Dat.blI _)
theorem tU {y:Str} (h1:RE K ta σ H (.str x)) (h2:RE K tb σ H (.str y)):RE K (tOp rNe ta tb) σ H (.bl (!decide (x=y))):=λH1 s Q q =>
 h1 H1 s _ λv H2 s2 q2=>h2 H2 (s.trans s2) _ λw H3 s3 q3=>by
  rw [q2.strE,q3.strE];refine ⟨rfl,?_⟩;have e:decide (V.str x=V.str y)=decide (x=y):=by by_cases z:x=y <;> simp [z]
  rw [e];exact q _ _ (s2.trans s3) (Dat.blI _)
end
section
variable {X:Cx}
theorem Dj {body:List Stmt} {t:TS} {h:ExceptHandler} {hs:List ExceptHandler} {pos:Pos} (hb:PSs X body t) (hx:X.xe=(λ_ _=>False):=by rfl):PS X (.Try body (h::hs) [] [] pos) t:=by
 intro pins s σ H D I q;have w:=hb pins s σ H D I q;rw [hx] at w;refine wpAny_Try_except (wpAny_mono w (λf s1 hf=>?_) λe s1 z=>z.elim)
 cases f with
 | next =>obtain ⟨σ',H',I',q'⟩:=hf;exact aW pins s1 σ' H' D I' q'
 | ret u=>exact hf
 | brk=>exact hf
 | cont=>exact hf
theorem A0:OpR X (compareOp .LtE) (λx y H Q=>∃ i j:Str,x=.str i/\y=.str j/\Q (.bl (!decide (j.cps.toList < i.cps.toList))) H):=by intro pins s σ H x y v u Q I rx ry h;obtain ⟨i,j,rfl,rfl,q⟩:=h;obtain ⟨t,rfl⟩:=rx;obtain ⟨t',rfl⟩:=ry;refine PySem.P.le_str ?_;exact ⟨.bl _,H,I,rfl,q⟩
noncomputable def Its (x:Str):It:=⟨λi _=>i < x.cps.size,λi H v H'=>H'=H/\∃ c,x.cps[i]?=some c/\v=.str ⟨#[c]⟩,λi _=>i=x.cps.size⟩
theorem rT {P:Program} {w:World} {K:PySem.W.Frag} {tg:Expr} {it:Addr} {n:String} {x:Str} {t:Tok} (hn:["enumerate","zip","dict_itemiterator","dict_reverseitemiterator","odict_iterator","itertools.zip_longest","itertools.pairwise"].contains n=false)
  (W:∀ A:Around,A.handled=none->Walks P w A it [it] [it] x.cps.size (SignAt x) (λi h=>h.IsStrIter it n x t i))
  (self:∀ (A:Around) (i:Nat) (s:Shared) (Q:Value->Shared->Prop) (E:Value->Shared->Prop),s.heap.IsStrIter it n x t i->Q (.ref it) s->wpAny (model P w) A (pyIter (.ref it)) Q E s) :
  oB P w K tg (Its x) [it] it (λi h=>h.IsStrIter it n x t i) where
 mem:=by simp
 obj:=λi h st b hb=>by
  have e:b=it:=by simpa using hb
  subst e;obtain ⟨o,e,c,d⟩:=st;exact ⟨o,e,λv z=>by rw [d] at z;cases z⟩
 keep:=λi h h' st k=>by obtain ⟨o,e,r⟩:=st;exact ⟨o,k it (by simp) o e,r⟩
 item:=by intro X hP hw hK hc i pins s σ H E I hf st hg;subst hP hw hK;obtain ⟨f0,f1,f2,f3,f4,f5⟩:=hf it (by simp);refine (W X.A (I.ok.hd hc)).item i s _ _ hg st λv h' tk hv st' kk=>?_;obtain ⟨c,u,hx,rfl⟩:=hv;have I1:Inv X pins σ H { s with heap:=h',toks:=tk }:=I.turned (λb o hb e=>kk b o (by simpa using hb) e) f0 f1 f3 f4 f5;obtain ⟨o,e,cc,d⟩:=id st';exact ⟨_,rfl,uJ (s:={ s with heap:=h',toks:=tk }) e cc d hn ⟨.str ⟨#[c]⟩,H,I1,⟨u,rfl⟩,⟨rfl,c,hx,rfl⟩,st',λb hb=>(hf b hb).1⟩⟩
 done:=by intro X hP hw hK hc i pins s σ H E I hf st hg;subst hP hw hK;obtain ⟨f0,f1,f2,f3,f4,f5⟩:=hf it (by simp);have hg':i=x.cps.size:=hg;subst hg';exact (W X.A (I.ok.hd hc)).done s _ _ st λh' tk eb=>⟨rfl,I.turned (λb o hb e=>eb b o (by simpa using hb) e) f0 f1 f3 f4 f5⟩
 self:=self
variable {tg:Expr}
noncomputable def FV (tl:TE):TI:=λσ H R=>tl σ H λv H1=>∃ x,v=.str x/\R (Its x) H1
theorem Fg {l:Expr} {tl:TE} (hl:PE X l tl):PI X tg l (FV tl):=by
 intro pins s σ H R I h;refine thn (hl pins s σ H _ I h) λv s1 ⟨xv,H1,I1,r1,q1⟩=>?_;obtain ⟨x,e,q⟩:=q1;subst e;obtain ⟨t,rfl⟩:=r1
 have fin:∀ (o:Obj) (n:String),oB X.prog X.w X.K tg (Its x) [s1.heap.objs.size] s1.heap.objs.size (λi h=>h.IsStrIter s1.heap.objs.size n x t i)->(s1.heap.push o).IsStrIter s1.heap.objs.size n x t 0->PIE X pins σ tg R (.ref s1.heap.objs.size) { s1 with heap:=s1.heap.push o }:=by
  intro o n T st;refine ⟨s1.heap.objs.size,[s1.heap.objs.size],_,_,H1,rfl,I1.kept (t':=s1.toks) λb o e=>Heap.get?_push_of_some _ e,T,st,λb hb=>?_,q⟩;have e:b=s1.heap.objs.size:=by simpa using hb
  subst e;exact I1.fpOk (Nat.le_refl _) (I1.hok.fresh (Nat.le_refl _))
 cases ha:x.cps.all (· < 128)
 ·exact wpAny_pyIter_wide ha (fin _ "str_iterator" (rT (by decide) (λA hA=>Walks.strWide hA _ x t) λA i s Q E st q=>wpAny_pyIter_striter_wide st q) ⟨_,Heap.get?_push_size _ rfl,rfl,rfl⟩)
 ·exact wpAny_pyIter_ascii ha (fin _ "str_ascii_iterator" (rT (by decide) (λA hA=>Walks.strAscii hA _ x t) λA i s Q E st q=>wpAny_pyIter_striter_ascii st q) ⟨_,Heap.get?_push_size _ rfl,rfl,rfl⟩)
theorem vp:OpR X (compareOp .NotIn) (λx y H Q=>∃ k a T,x=.str k/\y=.ref a/\lF X.K a T/\Q (.bl (!KTD.inKeys k T)) H):=by intro pins s σ H x y v u Q I rx ry h;obtain ⟨k,a,T,ex,ey,t,q⟩:=h;subst ex ey;obtain ⟨tk,rfl⟩:=rx;cases ry;exact KTD.notin_text (h₀:=s.heap) ⟨t _ I.kIn,λ_ _ e=>e⟩ ⟨.bl _,H,I.tok _,rfl,q⟩
noncomputable def yc (K:W.Frag):R2:=λx y H Q=>∃ a k T z,x=.ref a/\y=.str k/\lF K a T/\(T.all λp=>KTD.plain p.2)=true/\KTD.datumAt k T=some (.flat (.str z))/\Q (.str z) H
theorem CL:IxR X (yc X.K):=by
 intro value slice pins s σ H x y v u Q I rx ry h hs;obtain ⟨a,k,T,z,ex,ey,t,hp,hd,q⟩:=h;subst ex ey;obtain ⟨tk,rfl⟩:=ry;cases rx;have hm:KTD.inKeys k T=true:=by rw [<- KTD.isSome_datumAt,hd];rfl
 refine KTD.item_textA (h₀:=s.heap) ⟨t _ I.kIn,λ_ _ e=>e⟩ hp hm ?_ hs;exact each T hd λt'=>⟨.str z,H,I.tok _,⟨t',rfl⟩,q⟩
where
 each {h:Heap} {k:Str} {P:Value->Prop} {z:Str}:∀ (T:List (Str × KTD.Dat)),KTD.datumAt k T=some (.flat (.str z))->(∀ t,P (.str z t))->KTD.EachL h k P T
  | [],hd,_=>by simp [KTD.datumAt] at hd
  | (x,d)::T,hd,hP=>by
   have hd':(if decide (k=x)=true then some d else KTD.datumAt k T)=some (.flat (.str z)):=hd
   by_cases hx:k=x
   ·rw [if_pos (decide_eq_true hx)] at hd'
    cases hd'
    exact KTD.eachL_hit hx (KTD.opened_str hP)
   ·rw [if_neg (by simp [hx])] at hd'
    exact KTD.eachL_miss hx (each T hd' hP)
noncomputable def yn (K:W.Frag) (td ty tx:TE):TE:=λσ H Q=>td σ H λx H1=>∃ a T,x=.ref a/\lF K a T/\ty σ H1 λy H2=>tx σ H2 λz H3=>∃ k i,y=.str k/\z=.int i/\(∀ p ∈ T,∃ j,p.2=.flat (.int j)) /\
 Q (.int (match KTD.datumAt k T with | some (.flat (.int j))=>j | _=>i)) H3
theorem yS {o e f:Expr} {apos cpos:Pos} {td ty tx:TE} (ho:PE X o td) (he:PE X e ty) (hf:PE X f tx) (m:M2 X o "get" apos e f cpos):PE X (.Call (.Attribute o "get" apos) [e,f] [] cpos) (yn X.K td ty tx):=by
 intro pins s σ H Q I h;refine wpAny_Call_method m.base m.few m.line F.plainAttrs_dict F.slot_dict_get F.type_dict_get (thn (ho pins s σ H _ I h) λu s1 ⟨x,H1,I1,rx,a,T,ex,tk,q1⟩=>?_);subst ex;obtain rfl:u=Value.ref a:=rx;have t1:=tk _ I1.kIn;obtain ⟨lo,ob,es,ep,hob,hex,hdat,hrows⟩:=id t1;refine ⟨⟨ob,hob,hex.1⟩,λb eb=>?_,?_⟩
 ·cases eb;exact ⟨ob,hob,hex.2.1⟩
 rw [m.trees]
 refine Calls.callWith_builtin rfl (Calls.evalArgs_plain (Calls.spliced_cons (thn (he pins s1 σ H1 _ I1 q1) λiv s2 ⟨y,H2,I2,ry,q2⟩ =>
  Calls.spliced_cons (thn (hf pins s2 σ H2 _ I2 q2) λfv s3 ⟨z,H3,I3,rz,k,i,ey,ez,hT,q3⟩=>Calls.spliced_nil ?_))))
 subst ey ez;obtain ⟨tok1,rfl⟩:=ry;obtain ⟨tok2,rfl⟩:=rz;refine KTD.get2_text (h₀:=s3.heap) ⟨tk _ I3.kIn,λ_ _ e=>e⟩ ?_
 have fin:∀ (D:List (Str × KTD.Dat)),(∀ p ∈ D,∃ j,p.2=.flat (.int j))->Q (.int (match KTD.datumAt k D with | some (.flat (.int j))=>j | _=>i)) H3 ->
   KTD.Each s3.heap k (λv=>EP X pins σ Q v { s3 with toks:=s3.toks+1 }) (EP X pins σ Q (.int i tok2) { s3 with toks:=s3.toks+1 }) D:=by
  intro D
  induction D with
  | nil=>intro _ q;exact KTD.each_nil ⟨.int i,H3,I3.tok _,⟨_,rfl⟩,q⟩
  | cons p D ih =>
   intro hD q;obtain ⟨x,d⟩:=p;obtain ⟨j,ej⟩:=hD (x,d) List.mem_cons_self;have ej':d=.flat (.int j):=ej;subst ej';have ed:KTD.datumAt k ((x,KTD.Dat.flat (.int j))::D)=if decide (k=x)=true then some (.flat (.int j)) else KTD.datumAt k D:=rfl;rw [ed] at q;by_cases hx:k=x
   ·rw [if_pos (decide_eq_true hx)] at q;exact KTD.each_hit hx (KTD.opened_int λt=>⟨.int j,H3,I3.tok _,⟨t,rfl⟩,q⟩)
   ·rw [if_neg (by simp [hx])] at q;exact KTD.each_miss hx (ih (λp hp=>hD p (List.mem_cons_of_mem _ hp)) q)
 exact fin T hT q3
end
structure zz (P:Program) (w:World) (K:W.Frag) (a:Addr) (ks:List Str):Prop where
 lk:∃ o,K.lookup a=some o
 tb:∀ h:Heap,K.In h->∃ D,StrTab P w h a D/\D.map (·.1)=ks.map PyData.str
noncomputable def Itk (ks:List Str):It:=⟨λi _=>i < ks.length,λi H v H'=>H'=H/\∃ k,ks[i]?=some k/\v=.str k,λi _=>i=ks.length⟩
variable {kvs:List (Str × Value)}
theorem yA {D:List (PyData × PyData)} {ks:List Str} (h:PyProof.V.FlatPairs PyData.str kvs D) (e:D.map (·.1)=ks.map PyData.str):kvs.map (·.1)=ks:=by
 induction h generalizing ks with
 | nil =>
  cases ks with
  | nil=>rfl
  | cons k ks=>simp at e
 | cons _ _ ih =>
  cases ks with
  | nil=>simp at e
  | cons k ks =>simp only [List.map_cons,List.cons.injEq] at e;obtain ⟨e1,e2⟩:=e;injection e1 with e1;rw [List.map_cons,ih e2,<- e1]
variable {it:Addr}
theorem BW {tg:Expr} {d:Addr} {ep:Nat} (hD:∀ h:Heap,K.In h->h.DictAt (strKind P w) d kvs ep) :
  oB P w K tg (Itk (kvs.map (·.1))) [it] it (λi h=>h.IsKeyIter it d i kvs.length ep) where
 mem:=by simp
 obj:=λi h st b hb=>by
  have e:b=it:=by simpa using hb
  subst e;obtain ⟨o,e,c,d⟩:=st;exact ⟨o,e,λv z=>by rw [d] at z;cases z⟩
 keep:=λi h h' st k=>by obtain ⟨o,e,r⟩:=st;exact ⟨o,k it (by simp) o e,r⟩
 item:=by
  intro X hP hw hK hc i pins s σ H E I hf st hg;subst hP hw hK;obtain ⟨f0,f1,f2,f3,f4,f5⟩:=hf it (by simp);have hi:i < kvs.length:=by have z:i < (kvs.map (·.1)).length:=hg;simpa using z
  refine wpAny_pyNext_dict_item st (hD _ I.kIn) (List.getElem?_eq_getElem hi) λkey h' hk st' sb=>?_;obtain ⟨t,rfl⟩:=Value.isStrOf_shape hk;have I1:Inv X pins σ H { s with heap:=h' }:=I.turned (t':=s.toks) (λb o hb e=>(sb.2 b hb).trans e) f0 f1 f3 f4 f5;refine ⟨_,rfl,PyProof.Rows.letGo_keyiter (s':={ s with heap:=h' }) st' ⟨.str (kvs[i]).1,H,I1,⟨t,rfl⟩,⟨rfl,(kvs[i]).1,?_,rfl⟩,st',λb hb=>(hf b hb).1⟩⟩;rw [List.getElem?_map,List.getElem?_eq_getElem hi];rfl
 done:=by
  intro X hP hw hK hc i pins s σ H E I hf st hg;subst hP hw hK;obtain ⟨f0,f1,f2,f3,f4,f5⟩:=hf it (by simp);have hi:i=kvs.length:=by have z:i=(kvs.map (·.1)).length:=hg;simpa using z
  exact wpAny_pyNext_dict_end (I.ok.hd hc) st (hD _ I.kIn) (by simp [hi]) λh' eb=>⟨rfl,I.turned (t':=s.toks) (λb o hb e=>eb b o hb e) f0 f1 f3 f4 f5⟩
 self:=λA i s Q E st q=>wpAny_pyIter_keyiter st q
section
variable {X:Cx} {tg:Expr}
noncomputable def FW (P:Program) (w:World) (K:W.Frag) (tl:TE):TI:=λσ H R=>tl σ H λv H1=>∃ a ks,v=.ref a/\zz P w K a ks/\R (Itk ks) H1
theorem Fh {l:Expr} {tl:TE} (hl:PE X l tl):PI X tg l (FW X.prog X.w X.K tl):=by
 intro pins s σ H R I h;refine thn (hl pins s σ H _ I h) λv s1 ⟨xv,H1,I1,r1,q1⟩=>?_;obtain ⟨a,ks,e,hK,q⟩:=q1;subst e;cases r1;obtain ⟨D,T,hD⟩:=hK.tb _ I1.kIn;obtain ⟨o,ho⟩:=hK.lk;obtain ⟨lo,kvs,hdo,hf⟩:=T;obtain ⟨ep,hat⟩:=hdo.dictAt;have ek:=yA hf hD;subst ek
 have hall:∀ h:Heap,X.K.In h->h.DictAt (strKind X.prog X.w) a kvs ep:=λh x=>by obtain ⟨o',es,e1,r⟩:=hat;have z:=I1.kIn _ _ ho;rw [e1] at z;cases z;exact ⟨_,es,x _ _ ho,r⟩
 refine wpAny_pyIter_dict lo hat ?_;refine ⟨s1.heap.objs.size,[s1.heap.objs.size],_,_,H1,rfl,I1.kept (t':=s1.toks) λb o e=>Heap.get?_push_of_some _ e,BW hall,⟨_,Heap.get?_push_size _ rfl,rfl,rfl⟩,λb hb=>?_,q⟩;have e:b=s1.heap.objs.size:=by simpa using hb
 subst e;exact I1.fpOk (Nat.le_refl _) (I1.hok.fresh (Nat.le_refl _))
end
def RC (K:W.Frag) (t:TE) (σ:St) (H:Hp) (es:List D):Prop:=∀ H1,Same H H1->∀ Q:VK,(∀ l ys H',H1 l=none->Same H1 H'->H' l=some (.lst ys)->Dats K H' es ys->Q (.ref l) H')->t σ H1 Q
section
variable {K:W.Frag} {σ:St} {H H':Hp} {d d':D} {ds es:List D} {t u ta tb te tl:TE} {tt uu:TT} {tA:TA} {i j:Int} {b c:Bool} {mk:St->St} {jj:Nat}
theorem RC.mono (h:RC K t σ H es) (e:Same H H'):RC K t σ H' es:=λH1 s Q q=>h H1 (e.trans s) Q q
theorem RC.as (h:RC K t σ H es) (e:es=ds):RC K t σ H ds:=e ▸ h
theorem RC.use {Q:VK} (h:RC K t σ H es) (q:∀ l ys H',H l=none->Same H H'->H' l=some (.lst ys)->Dats K H' es ys->Q (.ref l) H'):t σ H Q:=h H (Same.refl H) Q q
theorem gC (h:RA K tA σ H es) (hl:es.length<=1000:=by simp):RC K (uf tA) σ H es:=λH1 s Q q =>
 wY (h.mono s) (λp vs H2 s2 hp hd=>q p vs _ (s2.free hp) (s2.trans (aR hp _)) aH ((aR hp _).dats hd)) hl
variable {cs:List D}
theorem tT (h:RE K tl σ H (.tup cs)) (hc:cs.length<=1000) (es:List D) (hl:es.length=cs.length) (h0:(mk σ).set jj none=mk σ)
  (turn:∀ H1 (i:Nat) c v d,Same H H1->cs[i]?=some c->es[i]?=some d->Dat K H1 c v->RE K te ((mk σ).set jj (some v)) H1 d):RC K (h8 (AA K tl) mk (c6 jj) fO te) σ H es:=λH1 s Q q =>
 rG (K:=K) (h.mono s) hc es hl h0 (λH2 i c v d s2=>turn H2 i c v d (s.trans s2)) (λl ys H2 hl s2 hy hd=>q l ys H2 hl s2 hy hd)
variable {x:Str}
theorem Fn (h:RE K tl σ H (.str x)) (hc:x.cps.size<=1000) (es:List D) (hl:es.length=x.cps.size) (h0:(mk σ).set jj none=mk σ)
  (turn:∀ H1 (i:Nat) c d,Same H H1->x.cps[i]?=some c->es[i]?=some d->RE K te ((mk σ).set jj (some (.str ⟨#[c]⟩))) H1 d):RC K (h8 (FV tl) mk (c6 jj) fO te) σ H es:=λH1 s Q q=>by
 refine (h.mono s).use λv4 H4 s4 q4=>?_;have e:=q4.strE;subst e;refine ⟨x,rfl,?_⟩;refine jI (K:=K) (Q:=Q) (n:=x.cps.size) (item:=λi=>.str ⟨#[x.cps.getD i 0]⟩) (λi H' s hi=>⟨hi,λv H'' y=>⟨y.1,?_⟩⟩) (λH' s=>rfl) h0 es hl hc (λi d hi=>?_) (λl ys H5 hl5 s5=>q l ys H5 (s4.free hl5) (s4.trans s5))
 ·obtain ⟨_,c,hc,e⟩:=y;rw [e,Array.getD_eq_getD_getElem?,hc];rfl
 ·have hi':i < es.length:=(List.getElem?_eq_some_iff.mp hi).1
  have hc:x.cps[i]?=some (x.cps.getD i 0):=by rw [Array.getD_eq_getD_getElem?,Array.getElem?_eq_getElem (by omega)];rfl
  exact turn H4 i _ d (s.trans s4) hc hi
variable {a:Addr}
theorem Fo {P:Program} {w:World} {ks:List Str} (hK:zz P w K a ks) (hc:ks.length<=1000) (es:List D) (hl:es.length=ks.length) (h0:(mk σ).set jj none=mk σ)
  (turn:∀ H1 (i:Nat) k d,Same H H1->ks[i]?=some k->es[i]?=some d->RE K te ((mk σ).set jj (some (.str k))) H1 d):RC K (h8 (FW P w K (tC (.ref a))) mk (c6 jj) fO te) σ H es:=λH1 s Q q=>by
 refine ⟨a,ks,rfl,hK,?_⟩;refine jI (K:=K) (Q:=Q) (n:=ks.length) (item:=λi=>.str (ks.getD i "")) (λi H' s hi=>⟨hi,λv H'' y=>⟨y.1,?_⟩⟩) (λH' s=>rfl) h0 es hl hc (λi d hi=>?_) q
 ·obtain ⟨_,k,hk,e⟩:=y;rw [e,List.getD_eq_getElem?_getD,hk];rfl
 ·have hi':i < es.length:=(List.getElem?_eq_some_iff.mp hi).1
  have hk:ks[i]?=some (ks.getD i ""):=by rw [List.getD_eq_getElem?_getD,List.getElem?_eq_getElem (by omega)];rfl
  exact turn H1 i _ d s hk hi
theorem Dn (h:RC K tl σ H cs) (hc:cs.length<=1000) (es:List D) (hl:es.length=cs.length) (h0:(mk σ).set jj none=mk σ)
  (turn:∀ H1 (i:Nat) c v d,Same H H1->cs[i]?=some c->es[i]?=some d->Dat K H1 c v->RE K te ((mk σ).set jj (some v)) H1 d):RC K (h8 (rh K tl) mk (c6 jj) fO te) σ H es:=λH1 s Q q=>by
 refine (h.mono s).use λl4 ys4 H4 hl4 s4 hy4 hd4=>?_;have ll:=hd4.length;refine ⟨l4,rfl,⟨ys4,SqL.of hy4⟩,?_⟩;refine jI (K:=K) (Q:=Q) (n:=ys4.length) (item:=λi=>ys4.getD i .non) (λi H' s hi=>pd i H' (SqL.of (s _ _ hy4)) hi) (λH' s=>⟨ys4,SqL.of (s _ _ hy4),Nat.le_refl _⟩) h0 es (by omega) (by omega) (λi d hi=>?_) (λl ys H5 hl5 s5=>q l ys H5 (s4.free hl5) (s4.trans s5));have hi':i < es.length:=(List.getElem?_eq_some_iff.mp hi).1;have hic:i < cs.length:=by omega
 obtain ⟨vz,ez,hz⟩:=hd4.get (List.getElem?_eq_getElem hic);have q:=turn H4 i cs[i] vz d (s.trans s4) (List.getElem?_eq_getElem hic) hi hz;rw [List.getD_eq_getElem?_getD,ez];exact q
theorem j4 {R:List D->List D->Prop} {E:XK} (h:RA K tA σ H ds) (e:R ds es):RC K (jU (jC K R) [] E tA) σ H es:=λH1 s Q q =>
 h H1 s _ λvs H2 s2 q2=>⟨ds,es,by rw [List.append_nil];exact q2,e,λr us H3 s3 hr hr0 hd=>q r us H3 (s2.free hr0) (s2.trans s3) hr hd⟩
theorem lB {bs:List Bool} (h:RC K t σ H (bs.map D.bl)):RE K (tCB (λxs H Q=>∃ (l:Addr) (bs:List Bool),xs=[.ref l]/\SqL K H l (bs.map V.bl)/\Q (.bl (bs.all id)) H) (cE t eG)) σ H (.bl (bs.all id)):=λH1 s Q q =>
 iO ((h.mono s).use λl ys H' _ s' hy hd=>⟨l,bs,rfl,by rw [<- Af hd];exact SqL.of hy,q _ _ s' (Dat.blI _)⟩)
theorem Dq {bs:List Bool} (h:RC K t σ H (bs.map D.bl)):RE K (tCB (λxs H Q=>∃ (l:Addr) (bs:List Bool),xs=[.ref l]/\SqL K H l (bs.map V.bl)/\Q (.bl (bs.any id)) H) (cE t eG)) σ H (.bl (bs.any id)):=λH1 s Q q =>
 iO ((h.mono s).use λl ys H' _ s' hy hd=>⟨l,bs,rfl,by rw [<- Af hd];exact SqL.of hy,q _ _ s' (Dat.blI _)⟩)
theorem zj (h:RC K t σ H es):RE K (tCB (λxs H Q=>∃ p ys,xs=[.ref p]/\((SqL K H p ys/\∀ l,H l=none->Q (.ref l) (upd H l (.tup ys)))\/(SqT K H p ys/\Q (.ref p) H))) (cE t eG)) σ H (.tup es):=λH1 s Q q =>
 iO ((h.mono s).use λl ys H' _ s' hy hd=>⟨l,ys,rfl,.inl ⟨SqL.of hy,λp hp=>q _ _ (s'.trans (aR hp _)) (Dat.tupI (SqT.of aH) ((aR hp _).dats hd))⟩⟩)
theorem zk (h:RE K t σ H (.tup es)):RE K (tCB (λxs H Q=>∃ p ys,xs=[.ref p]/\((SqL K H p ys/\∀ l,H l=none->Q (.ref l) (upd H l (.tup ys)))\/(SqT K H p ys/\Q (.ref p) H))) (cE t eG)) σ H (.tup es):=λH1 s Q q =>
 iO ((h.mono s).use λv H' s' hd=>by
  obtain ⟨a,vs,e,hq,hds⟩:=hd.tupE;subst e;exact ⟨a,vs,rfl,.inr ⟨hq,q _ _ s' (Dat.tupI hq hds)⟩⟩)
theorem Dr (h:RC K t σ H es):RE K (tCB (λxs H Q=>∃ p ys,xs=[.ref p]/\(SqL K H p ys\/SqT K H p ys)/\Q (.int ys.length) H) (cE t eG)) σ H (.int es.length):=λH1 s Q q =>
 iO ((h.mono s).use λl ys H' _ s' hy hd=>⟨l,ys,rfl,.inl (SqL.of hy),by rw [<- hd.length];exact q _ _ s' (Dat.intI _)⟩)
theorem Ds (h:RE K t σ H (.str x)) (hx:x.length<=sizeLine):RE K (tCB (λxs H Q=>∃ z:Str,xs=[.str z]/\z.length<=sizeLine/\Q (.int z.length) H) (cE t eG)) σ H (.int x.length):=λH1 s Q q =>
 iO ((h.mono s).use λv H' s' hd=>by
  rw [hd.strE];exact ⟨x,rfl,hx,q _ _ s' (Dat.intI _)⟩)
theorem iG {us:TS} {En:ko} {k:Nat} (h:RC K t σ H es) (q:∀ l ys H',H l=none->Same H H'->H' l=some (.lst ys)->Dats K H' es ys->us En (σ.set k (some (.ref l))) H'):lI (qM t (c6 k)) us En σ H:=h.use q
variable {z:Str}
theorem yW {tc:TE} {y:Str} {p q':Str->Str->Bool} (h1:RE K ta σ H (.str x)) (h2:RE K tb σ H (.str y)) (h3:p x y=true->RE K tc σ H (.str z)) :
  RE K (ue (λu v H Q=>∃ i j:Str,u=.str i/\v=.str j/\Q (.bl (p i j)) H) (λu v H Q=>∃ i j:Str,u=.str i/\v=.str j/\Q (.bl (q' i j)) H) ta tb tc) σ H (.bl (p x y && q' y z)):=λH1 s Q q =>
 h1 H1 s _ λv H2 s2 q2=>h2 H2 (s.trans s2) _ λw H3 s3 q3=>by
  refine ⟨x,y,q2.strE,q3.strE,p x y,rfl,?_⟩
  cases hp:p x y with
  | true =>simp only [if_true,Bool.true_and];exact h3 hp H3 (s.trans (s2.trans s3)) _ λz' H4 s4 q4=>⟨y,z,q3.strE,q4.strE,q _ _ (s2.trans (s3.trans s4)) (by rw [hp];exact Dat.blI _)⟩
  | false =>simp only [Bool.false_eq_true,if_false,Bool.false_and];exact q _ _ (s2.trans s3) (by rw [hp];exact Dat.blI _)
variable {T:List (Str × KTD.Dat)}
theorem vH {k:Str} (h:RE K t σ H (.str k)) (ht:lF K a T):RE K (tOp (λx y H Q=>∃ k a T,x=.str k/\y=.ref a/\lF K a T/\Q (.bl (!KTD.inKeys k T)) H) t (tC (.ref a))) σ H (.bl (!KTD.inKeys k T)):=λH1 s Q q =>
 h H1 s _ λv H2 s2 q2=>⟨k,a,T,q2.strE,rfl,ht,q _ _ s2 (Dat.blI _)⟩
theorem yY {k:Str} (h:RE K t σ H (.str k)) (ht:lF K a T) (hp:(T.all λp=>KTD.plain p.2)=true) (e:KTD.datumAt k T=some (.flat (.str z))):RE K (tOp (yc K) (tC (.ref a)) t) σ H (.str z):=λH1 s Q q =>
 h H1 s _ λv H2 s2 q2=>⟨a,k,T,z,rfl,q2.strE,ht,hp,e,q _ _ s2 (Dat.strI _)⟩
noncomputable def jV (k:Str) (T:List (Str × KTD.Dat)) (i:Int):Int:=match KTD.datumAt k T with | some (.flat (.int j))=>j | _=>i
theorem zi {k:Str} (ht:lF K a T) (h1:RE K ta σ H (.str k)) (h2:RE K tb σ H (.int i)) (hT:∀ p ∈ T,∃ j,p.2=.flat (.int j)):RE K (yn K (tC (.ref a)) ta tb) σ H (.int (jV k T i)):=λH1 s Q q =>
 ⟨a,T,rfl,ht,h1 H1 s _ λv H2 s2 q2=>h2 H2 (s.trans s2) _ λw H3 s3 q3=>⟨k,i,(s3.dat q2).strE,q3.intE,hT,q _ _ (s2.trans s3) (Dat.intI _)⟩⟩
variable {lo hi:Nat}
theorem xA {vs:List V}:qC vs (some (lo:Int)) (some (hi:Int))=(vs.drop lo).take (hi - lo):=by
 unfold qC;rw [HT.sIx_nat,HT.sIx_nat];apply List.ext_getElem?;intro i;simp only [List.getElem?_take,List.getElem?_drop];by_cases h1:i < hi - lo
 ·rw [if_pos h1];by_cases h2:i < min hi vs.length - min lo vs.length
  ·rw [if_pos h2];congr 1;omega
  ·rw [if_neg h2,List.getElem?_eq_none (by omega)]
 ·rw [if_neg h1,if_neg (by omega)]
theorem Dats.dropN:∀ {n:Nat} {ds:List D} {vs:List V},Dats K H ds vs->Dats K H (ds.drop n) (vs.drop n)
 | 0,_,_,h=>h
 | n+1,[],_,h=>by rw [h.nilE];exact Dats.nil
 | n+1,d::ds,_,h=>by obtain ⟨v,r,e,h1,h2⟩:=h.consE;subst e;exact Dats.dropN (n:=n) h2
theorem Dats.takeN:∀ {n:Nat} {ds:List D} {vs:List V},Dats K H ds vs->Dats K H (ds.take n) (vs.take n)
 | 0,_,_,h=>by rw [List.take_zero,List.take_zero];exact Dats.nil
 | n+1,[],_,h=>by rw [h.nilE];exact Dats.nil
 | n+1,d::ds,_,h=>by obtain ⟨v,r,e,h1,h2⟩:=h.consE;subst e;exact Dats.cons h1 (Dats.takeN (n:=n) h2)
theorem Fq (h:RE K t σ H (.tup ds)) (h1:RE K ta σ H (.int lo)) (h2:RE K tb σ H (.int hi)) (hl:1<=lo) (hd:0 < ds.length):RE K (tSl (Fj K) t (rS ta) (rS tb)) σ H (.tup ((ds.drop lo).take (hi - lo))):=λH1 s Q q =>
 h H1 s _ λv H2 s2 q2=>h1 H2 (s.trans s2) _ λv3 H3 s3 q3=>⟨lo,q3.intE,h2 H3 (s.trans (s2.trans s3)) _ λv4 H4 s4 q4=>⟨hi,q4.intE,by
  obtain ⟨a,vs,ev,hq,hds⟩:=((s3.trans s4).dat q2).tupE;have ll:=hds.length;refine ⟨a,vs,ev,hq,λz=>?_,λp hp=>?_⟩
  ·rw [HT.sIx_nat] at z;omega
  ·rw [xA];exact q _ _ (s2.trans (s3.trans (s4.trans (aR hp _)))) (Dat.tupI (SqT.of aH) ((aR hp _).dats (Dats.takeN (Dats.dropN hds))))⟩⟩
end
mutual
noncomputable def hZ (K:W.Frag):D->Value->Bool
 | .non,u=>(match u with | .none=>true | _=>false)
 | .bl b,u=>(match u with | .bool c=>b == c | _=>false)
 | .int i,u=>(match u with | .int j _=>i == j | _=>false)
 | .str x,u=>(match u with | .str y _=>x == y | _=>false)
 | .tup ds,u=>(match u with | .ref a=>(match K.lookup a with | some ⟨.type "tuple",_,.seq its _,_⟩=>decide (its.size<=1000) && datsOk K ds its.toList | _=>false) | _=>false)
 | .lst,_=>false
noncomputable def datsOk (K:W.Frag):List D->List Value->Bool
 | [],us=>us.isEmpty
 | d::ds,us=>(match us with | u::r=>hZ K d u && datsOk K ds r | []=>false)
end
mutual
variable {K:W.Frag}
theorem nV (H:Hp):∀ (d:D) (u:Value),hZ K d u=true->∃ v,RelV v u/\Dat K H d v
 | .non,u,h=>by unfold hZ at h;cases u <;> first | (exact ⟨.non,rfl,Dat.nonI⟩) | cases h
 | .bl b,u,h=>by
  unfold hZ at h;cases u <;> first | cases h | skip
  rename_i c;have e:b=c:=by simpa using h
  subst e;exact ⟨.bl b,rfl,Dat.blI _⟩
 | .int i,u,h=>by
  unfold hZ at h;cases u <;> first | cases h | skip
  rename_i j t;have e:i=j:=by simpa using h
  subst e;exact ⟨.int i,⟨t,rfl⟩,Dat.intI _⟩
 | .str x,u,h=>by
  unfold hZ at h;cases u <;> first | cases h | skip
  rename_i y t;have e:x=y:=by simpa using h
  subst e;exact ⟨.str x,⟨t,rfl⟩,Dat.strI _⟩
 | .tup ds,u,h=>by
  unfold hZ at h;cases u <;> first | cases h | skip
  rename_i a;dsimp only at h;split at h
  ·rename_i od its n sl e;rw [Bool.and_eq_true] at h;obtain ⟨vs,r,hd⟩:=datsOk_sound H ds its.toList h.2;refine ⟨.ref a,rfl,Dat.tupI (.inr ⟨_,its,n,e,rfl,rfl,?_,r⟩) hd⟩;exact Nat.le_trans (of_decide_eq_true h.1) (by decide)
  ·cases h
 | .lst,u,h=>by unfold hZ at h;cases h
theorem datsOk_sound (H:Hp):∀ (ds:List D) (us:List Value),datsOk K ds us=true->∃ vs,Vals vs us/\Dats K H ds vs
 | [],us,h=>by
  unfold datsOk at h
  cases us with
  | nil=>exact ⟨[],.nil,Dats.nil⟩
  | cons u r=>cases h
 | d::ds,us,h=>by
  unfold datsOk at h
  cases us with
  | nil=>cases h
  | cons u r =>dsimp only at h;rw [Bool.and_eq_true] at h;obtain ⟨v,r1,h1⟩:=nV H d u h.1;obtain ⟨vs,r2,h2⟩:=datsOk_sound H ds r h.2;exact ⟨v::vs,.cons r1 r2,Dats.cons h1 h2⟩
end
theorem GD (h:hZ K (.tup ds) (.ref a)=true) (H:Hp):Dat K H (.tup ds) (.ref a):=by obtain ⟨v,r,hd⟩:=nV H _ _ h;obtain ⟨b,vs,e,_⟩:=id hd.tupE;subst e;have z:Value.ref a=.ref b:=r;cases z;exact hd
theorem pY (h:hZ K (.tup ds) (.ref a)=true):RE K (tC (.ref a)) σ H (.tup ds):=λH1 _ Q q=>q _ _ (Same.refl _) (GD h H1)
section
variable {X:Cx}
theorem Aa:jD X (.type "range") (λxs H Q=>∃ n:Nat,xs=[.int n]/\∀ p,H p=none->Q (.ref p) (upd H p (.rng 0 n))):=by intro pins s σ H xs us Q I r h;obtain ⟨n,rfl,q⟩:=h;obtain ⟨u,rfl,ru⟩:=jr r;obtain ⟨t,rfl⟩:=ru;refine call_range_1 ⟨.ref s.heap.objs.size,_,I.laid (λb o e=>Heap.get?_push_of_some _ e) (Nat.le_refl _) (show ObjOk X.prog X.w _ _ _ (.rng 0 n) from ⟨_,_,_,Heap.get?_push_size _ rfl⟩),rfl,q _ (I.hok.fresh (Nat.le_refl _))⟩
theorem B1 {n:Nat} {acc:Array Value} (h:ItemsOf (λi v=>∃ t,v=.int ((0:Int)+(i:Nat) * 1) t) acc n):Vals ((List.range n).map λi:Nat=>V.int i) acc.toList:=by
 obtain ⟨hs,hi⟩:=h
 have all:∀ (l:List Value) (k:Nat),(∀ (j:Nat) (v:Value),l[j]?=some v->∃ t,v=Value.int ((0:Int)+((k+j:Nat):Int) * 1) t)->Vals ((List.range' k l.length).map λi:Nat=>V.int i) l:=by
  intro l
  induction l with
  | nil=>intro k _;exact .nil
  | cons u l ih =>
   intro k hj;rw [List.length_cons,List.range'_succ,List.map_cons];refine .cons ?_ (ih (k+1) λj v e=>?_)
   ·obtain ⟨t,e⟩:=hj 0 u rfl;refine ⟨t,?_⟩;rw [e];congr 1;simp
   ·obtain ⟨t,e'⟩:=hj (j+1) v (by simpa using e);refine ⟨t,?_⟩;rw [e'];congr 1;have:k+(j+1)=k+1+j:=by omega
    rw [this]
 have q:=all acc.toList 0 λj v e=>by rw [Nat.zero_add];exact hi j v (by simpa using e)
 rw [List.range_eq_range'];rw [Array.length_toList,hs] at q;exact q
theorem qB (hc:X.calm=true):jD X (.type "list") (λxs H Q=>∃ (p:Addr) (n:Nat),xs=[.ref p]/\H p=some (.rng 0 n)/\n<=1000/\∀ l,H l=none->Q (.ref l) (upd H l (.lst ((List.range n).map λi:Nat=>V.int i)))):=by
 intro pins s σ H xs us Q I r h;obtain ⟨p,n,rfl,hp,hn,q⟩:=h;obtain ⟨u,rfl,rx⟩:=jr r;cases rx;obtain ⟨t,u,v,e⟩:=(show ObjOk X.prog X.w H s.heap p (.rng 0 n) from I.hok p _ hp)
 refine call_list_range (n:=n) (I.ok.hd hc) (show IsRange s.heap p 0 n 1 t u v from e) (small_one (by omega) (by omega) (by omega) (by omega)) ?_ (by omega) λh' tk acc' c' kp e' hacc=>?_
 ·rw [rangeSize_one];split <;> omega
 ·have hv:=B1 hacc;have hl:=hv.length;refine ⟨.ref s.heap.objs.size,_,I.laid kp (Nat.le_refl _) (show ObjOk X.prog X.w _ h' _ (.lst _) from ⟨?_,acc'.toList,c',hv,by simpa using e'⟩),rfl,q _ (I.hok.fresh (Nat.le_refl _))⟩;simp only [List.length_map,List.length_range];exact Nat.le_trans hn (by decide)
def FH (K:W.Frag) (a:Addr) (xs:List V):Prop:=∃ (its:Array Value) (n:Nat),K.lookup a=some ⟨.type "list",none,.seq its n,#[]⟩/\its.size<=1000/\Vals xs its.toList
def aLst (K:W.Frag) (H:Hp) (a:Addr) (xs:List V):Prop:=H a=some (.lst xs)\/FH K a xs
variable {H:Hp} {a:Addr} {xs:List V}
theorem aLst.sqL {K:W.Frag} (h:aLst K H a xs):SqL K H a xs:=by
 rcases h with h | ⟨its,n,e,hz,r⟩
 ·exact SqL.of h
 ·exact .inr ⟨_,its,n,e,rfl,rfl,rfl,Nat.le_trans hz (by decide),r⟩
theorem aLst.at {pins:List (Addr × Obj)} {σ:St} {s:Shared} (I:Inv X pins σ H s) (h:aLst X.K H a xs):∃ (its:List Value) (n:Nat),Vals xs its/\s.heap.get? a=some { cls:=.type "list",data:=.seq its.toArray n }:=by
 rcases h with h | ⟨its,n,e,hz,r⟩
 ·obtain ⟨z,its,n,r,hl,e⟩:=I.lstM h;exact ⟨its,n,r,e⟩
 ·exact ⟨its.toList,n,r,by simpa using I.kIn _ _ e⟩
noncomputable def DZ (K:W.Frag):R2:=λx y H Q=>∃ l b xs zs,x=.ref l/\y=.ref b/\aLst K H l xs/\aLst K H b zs/\xs.length+zs.length<=1000/\∀ p,H p=none->Q (.ref p) (upd H p (.lst (xs++zs)))
theorem eV:OpR X (binaryOp .Add) (DZ X.K):=by
 intro pins s σ H x y v u Q I rx ry h;obtain ⟨l,b,xs,zs,rfl,rfl,hH,hB,hz,q⟩:=h;cases rx;cases ry;obtain ⟨its,n,r,e⟩:=hH.at I;obtain ⟨its2,n2,r2,e2⟩:=hB.at I;have l1:=r.length;have l2:=r2.length;have hz':xs.length+zs.length<=sizeLine:=Nat.le_trans hz (by decide);refine PySem.P.add_list e e2 ?_ (by rw [List.size_toArray,List.size_toArray];omega);have ea:its.toArray++its2.toArray=(its++its2).toArray:=by simp
 rw [ea];exact ⟨.ref _,_,I.lnew (t':=s.toks) (r.append r2) (by rw [List.length_append];omega),rfl,q _ I.fresh⟩
end
section
variable {K:W.Frag} {σ:St} {H:Hp} {t:TE} {n:Nat}
noncomputable def pC (K:W.Frag) (ds:List D) (a:Addr):Bool:=match K.lookup a with
 | some ⟨.type "list",none,.seq its _,sl⟩=>decide (its.size<=1000) && (sl.isEmpty && datsOk K ds its.toList)
 | _=>false
theorem sP {K:W.Frag} {ds:List D} {a:Addr} (h:pC K ds a=true) (H:Hp):∃ vs,FH K a vs/\Dats K H ds vs:=by
 unfold pC at h;split at h
 ·rename_i its n sl e;rw [Bool.and_eq_true,Bool.and_eq_true] at h;obtain ⟨vs,r,hd⟩:=datsOk_sound H ds its.toList h.2.2;have es:sl=#[]:=by simpa using h.2.1
  subst es;exact ⟨vs,⟨its,n,e,of_decide_eq_true h.1,r⟩,hd⟩
 ·cases h
theorem tS (h:RE K t σ H (.int n)) (hn:n<=1000):RC K (tCB (λxs H Q=>∃ (p:Addr) (n:Nat),xs=[.ref p]/\H p=some (.rng 0 n)/\n<=1000/\∀ l,H l=none->Q (.ref l) (upd H l (.lst ((List.range n).map λi:Nat=>V.int i))))
  (cE (tCB (λxs H Q=>∃ n:Nat,xs=[.int n]/\∀ p,H p=none->Q (.ref p) (upd H p (.rng 0 n))) (cE t eG)) eG)) σ H ((List.range n).map λi:Nat=>D.int i):=λH1 s Q q =>
 iO (iO ((h.mono s).use λv H2 s2 q2=>by
  rw [q2.intE];refine ⟨n,rfl,λp hp=>⟨p,n,rfl,aH,hn,λl hl=>?_⟩⟩;have s3:=s2.trans ((aR hp (.rng 0 n)).trans (aR hl (.lst ((List.range n).map λi:Nat=>V.int i))));refine q l _ _ ((s2.trans (aR hp _)).free hl) s3 aH ?_
  have z:∀ m:List Nat,Dats K (upd (upd H2 p (.rng 0 n)) l (.lst ((List.range n).map λi:Nat=>V.int i))) (m.map λi:Nat=>D.int i) (m.map λi:Nat=>V.int i):=by
   intro m
   induction m with
   | nil=>exact Dats.nil
   | cons a m ih=>exact Dats.cons (Dat.intI _) ih
  exact z _))
end
structure Tri (l0 l1 l2:Addr) (H:Hp) (a b c:List V):Prop where
 h0:H l0=some (.lst a)
 h1:H l1=some (.lst b)
 h2:H l2=some (.lst c)
 n01:l0≠l1
 n02:l0≠l2
 n12:l1≠l2
def But3 (l0 l1 l2:Addr) (H H':Hp):Prop:=∀ b o,b≠l0->b≠l1->b≠l2->H b=some o->H' b=some o
section
variable {K:W.Frag} {l0 l1 l2:Addr} {H H' H2:Hp} {a b c a' b' c':List V} {v:V}
theorem Same.but3 (e:Same H H'):But3 l0 l1 l2 H H':=λb o _ _ _ h=>e b o h
theorem But3.trans (x:But3 l0 l1 l2 H H') (y:But3 l0 l1 l2 H' H2):But3 l0 l1 l2 H H2:=λb o n0 n1 n2 h=>y b o n0 n1 n2 (x b o n0 n1 n2 h)
theorem Tri.same (t:Tri l0 l1 l2 H a b c) (e:Same H H'):Tri l0 l1 l2 H' a b c:=⟨e _ _ t.h0,e _ _ t.h1,e _ _ t.h2,t.n01,t.n02,t.n12⟩
theorem But3.grow (e:But3 l0 l1 l2 H H') (t:Tri l0 l1 l2 H a b c) (t':Tri l0 l1 l2 H' a' b' c'):fE K H H':=by
 have key:∀ (x:Addr) (o:HO),H x=some o->(∀ xs,o≠.lst xs)->H' x=some o:=λx o h ho =>
  e x o (λz=>by rw [z,t.h0] at h;cases h;exact ho _ rfl) (λz=>by rw [z,t.h1] at h;cases h;exact ho _ rfl) (λz=>by rw [z,t.h2] at h;cases h;exact ho _ rfl) h
 refine ⟨λx xs h=>?_,λx xs h=>?_⟩
 ·rcases h with (h | ⟨o,h⟩) | h
  ·exact .inl (.inl (key _ _ h (λ_ z=>by cases z)))
  ·exact .inl (.inr ⟨o,key _ _ h (λ_ z=>by cases z)⟩)
  ·exact .inr h
 ·by_cases z0:x=l0
  ·rw [z0];exact ⟨_,SqL.of t'.h0⟩
  by_cases z1:x=l1
  ·rw [z1];exact ⟨_,SqL.of t'.h1⟩
  by_cases z2:x=l2
  ·rw [z2];exact ⟨_,SqL.of t'.h2⟩
  refine ⟨xs,?_⟩;rcases h with (h | ⟨o,h⟩) | h
  ·exact .inl (.inl (e _ _ z0 z1 z2 h))
  ·exact .inl (.inr ⟨o,e _ _ z0 z1 z2 h⟩)
  ·exact .inr h
theorem Tri.p0 (t:Tri l0 l1 l2 H a b c):Tri l0 l1 l2 (upd H l0 (.lst (a++[v]))) (a++[v]) (b++[]) (c++[])/\But3 l0 l1 l2 H (upd H l0 (.lst (a++[v]))):=by rw [List.append_nil,List.append_nil];exact ⟨⟨aH,by rw [aZ (Ne.symm t.n01)];exact t.h1,by rw [aZ (Ne.symm t.n02)];exact t.h2,t.n01,t.n02,t.n12⟩,λx o n0 _ _ h=>by rw [aZ n0];exact h⟩
theorem Tri.p1 (t:Tri l0 l1 l2 H a b c):Tri l0 l1 l2 (upd H l1 (.lst (b++[v]))) (a++[]) (b++[v]) (c++[])/\But3 l0 l1 l2 H (upd H l1 (.lst (b++[v]))):=by rw [List.append_nil,List.append_nil];exact ⟨⟨by rw [aZ t.n01];exact t.h0,aH,by rw [aZ (Ne.symm t.n12)];exact t.h2,t.n01,t.n02,t.n12⟩,λx o _ n1 _ h=>by rw [aZ n1];exact h⟩
theorem Tri.p2 (t:Tri l0 l1 l2 H a b c):Tri l0 l1 l2 (upd H l2 (.lst (c++[v]))) (a++[]) (b++[]) (c++[v])/\But3 l0 l1 l2 H (upd H l2 (.lst (c++[v]))):=by rw [List.append_nil,List.append_nil];exact ⟨⟨by rw [aZ t.n02];exact t.h0,by rw [aZ t.n12];exact t.h1,aH,t.n01,t.n02,t.n12⟩,λx o _ _ n2 h=>by rw [aZ n2];exact h⟩
theorem Tri.nil (t:Tri l0 l1 l2 H a b c):Tri l0 l1 l2 H (a++[]) (b++[]) (c++[]):=by rw [List.append_nil,List.append_nil,List.append_nil];exact t
variable {σ:St} {j:Nat} {l:Addr}
theorem i5 {te:TE} {us:TS} {En:ko} {G:Hp} {xs:List V} {d:D} (h:RE K te σ G d) (hl:G l=some (.lst xs)) (hx:xs.length<=900)
  (q:∀ y G',But l G G'->G' l=some (.lst (xs++[y]))->Dat K G' d y->us En σ G') (hv:σ[j]?=some (some (.ref l)):=by rfl):lI (qt (tBM K "list" mM (hW j) (cE te eG))) us En σ G:=by
 refine ⟨_,hv,.inl ⟨rfl,_,SqL.of hl⟩,h.use λy H1 s1 q1=>?_⟩;have hl1:=s1 _ _ hl;refine ⟨l,xs,y,rfl,rfl,hl1,bX (by omega),?_⟩;have b:But l H1 (upd H1 l (.lst (xs++[y]))):=But.upd (Same.refl _).but;exact q y _ (s1.but.trans b) aH (Dat.mono (b.grow hl1 aH) _ q1)
theorem nJ {f:Addr} {x:Str} {kvs:List (Key × V)} {ys:List V} {es:List D} (hf:H f=some (.dK kvs)) (hk:mi kvs (Sum.inr x)=some (.ref l)) (hl:H l=some (.lst ys)) (hd:Dats K H es ys) (hv:σ[j]?=some (some (.ref f)):=by rfl) :
  RE K (tCB (λxs H Q=>∃ p ys,xs=[.ref p]/\((SqL K H p ys/\∀ l,H l=none->Q (.ref l) (upd H l (.tup ys)))\/(SqT K H p ys/\Q (.ref p) H))) (cE (Ea (hW j) (tC (.str x))) eG)) σ H (.tup es):=λH1 s Q q =>
 ⟨_,hv,f,.ref l,rfl,by have g:=DGet.k (k:=Sum.inr x) (s _ _ hf);rw [hk] at g;exact g,l,ys,rfl,.inl ⟨SqL.of (s _ _ hl),λp hp=>q _ _ (aR hp _) (Dat.tupI (SqT.of aH) ((aR hp _).dats (s.dats hd)))⟩⟩
end
theorem xO:∀ {ns:List Int} {us:List Value},Vals (ns.map V.int) us->IntsAre us ns
 | [],us,h=>by cases h;exact .nil
 | n::ns,us,h=>by
  cases h with
  | cons r t =>obtain ⟨tk,rfl⟩:=r;exact .cons n tk (xO t)
section
variable {X:Cx}
theorem ur (hc:X.calm=true):jD X (.builtin "sum") (λxs H Q=>∃ (l:Addr) (ns:List Int),xs=[.ref l]/\SqL X.K H l (ns.map V.int)/\Q (.int ns.sum) H):=by
 intro pins s σ H xs us Q I r h;obtain ⟨l,ns,rfl,hq,q⟩:=h;obtain ⟨u,rfl,ru⟩:=jr r;cases ru;obtain ⟨its,rv,p,hz⟩:=I.list hq;have hi:=xO rv;obtain ⟨zs,hzs⟩:=hi.allInts.items;refine sum_intListG (I.ok.hd hc) (show s.heap.IsList l (intItems zs) from hzs ▸ p.isList) λh' tk t' hk=>?_
 have a1:zs.toList.map (·.1)=ns:=by have z:=hi.numsOf;rw [show its=(intItems zs).toList by rw [<- hzs]] at z;rw [<- z,nums_intItems]
 have a2:preSum (numAt zs) zs.size=ns.sum:=by rw [preSum_eq,<- a1,List.take_of_length_le (by simp)]
 rw [a2];exact ⟨.int ns.sum,H,I.kept (t':=tk) hk,⟨t',rfl⟩,q⟩
noncomputable def Itv (K:W.Frag) (a:Addr) (xs:List V):It:=⟨λi H=>i < xs.length/\SqL K H a xs,λi H x H'=>H'=H/\xs[xs.length - 1 - i]?=some x,λi _=>i=xs.length⟩
theorem BV {P:Program} {w:World} {K:W.Frag} {tg:Expr} (a it:Addr) (xs:List V):oB P w K tg (Itv K a xs) [it] it (λi h=>h.IsRevIter it a ((xs.length:Int) - 1 - (i:Int))) where
 mem:=by simp
 obj:=λi h st b hb=>by
  have e:b=it:=by simpa using hb
  subst e;obtain ⟨o,e,c,d⟩:=st;exact ⟨o,e,λv z=>by rw [d] at z;cases z⟩
 keep:=λi h h' st k=>by obtain ⟨o,e,r⟩:=st;exact ⟨o,k it (by simp) o e,r⟩
 item:=by
  intro X hP hw hK hc i pins s σ H E I hf st hg;subst hP hw hK;obtain ⟨hi,hq⟩:=hg;obtain ⟨its,rv,p,hz⟩:=I.list hq;obtain ⟨f0,f1,f2,f3,f4,f5⟩:=hf it (by simp);have lr:=rv.length;have hx:xs[xs.length - 1 - i]?=some (xs[xs.length - 1 - i]'(by omega)):=List.getElem?_eq_getElem (by omega);obtain ⟨u,hu,ru⟩:=rv.get hx;have e1:(xs.length:Int) - 1 - (i:Int)=((xs.length - 1 - i:Nat):Int):=by omega
  have st1:s.heap.IsRevIter it a ((xs.length - 1 - i:Nat):Int):=by rw [<- e1];exact st
  refine wpAny_pyNext_rev_item st1 p.isList (x:=u) (by simpa using hu) λh' st' sb=>?_;have e2:((xs.length - 1 - i:Nat):Int) - 1=(xs.length:Int) - 1 - ((i+1:Nat):Int):=by omega
  rw [e2] at st';have I1:Inv X pins σ H { s with heap:=h' }:=I.turned (t':=s.toks) (λb o hb e=>(sb.2 b hb).trans e) f0 f1 f3 f4 f5;obtain ⟨o,e,c,d⟩:=id st';exact ⟨u,rfl,uJ (s:={ s with heap:=h' }) e c d (by decide) ⟨_,H,I1,ru,⟨rfl,hx⟩,st',λb hb=>(hf b hb).1⟩⟩
 done:=by
  intro X hP hw hK hc i pins s σ H E I hf st hg;subst hP hw hK;obtain ⟨f0,f1,f2,f3,f4,f5⟩:=hf it (by simp);have hg':i=xs.length:=hg;subst hg';have e1:(xs.length:Int) - 1 - (xs.length:Int)=-1:=by omega
  rw [e1] at st;exact wpAny_pyNext_rev_end (I.ok.hd hc) st λh' eb=>⟨rfl,I.turned (t':=s.toks) (λb o hb e=>eb b o hb e) f0 f1 f3 f4 f5⟩
 self:=λA i s Q E st q=>wpAny_pyIter_revIter st q
variable {tg:Expr}
noncomputable def FU (K:W.Frag) (ta:TA):TI:=λσ H R=>ta σ H λvs H1=>∃ a xs,vs=[.ref a]/\SqL K H1 a xs/\R (Itv K a xs) H1
theorem Ff {a:Expr} {ta:TA} {p pos:Pos} (hg:Gl X "reversed") (hm:X.mg "reversed"=none) (ha:PA X [a] ta) (hs:starEach [a] X.env=[(false,eval a X.env)]:=by rfl):PI X tg (.Call (.Name "reversed" p) [a] [] pos) (FU X.K ta):=by
 intro pins s σ H R I h;refine Call_ (kH I hg hm uo (PyProof.Rows.callWith_type1 (thn (ha pos pins s σ H _ I h) λus s1 ⟨vs,H1,I1,r1,q1⟩=>?_) hs rfl));obtain ⟨l,xs,e,hq,q⟩:=q1;subst e;obtain ⟨u,rfl,ru⟩:=jr r1;cases ru;obtain ⟨its,rv,pl,hz⟩:=I1.list hq;have lr:=rv.length;refine call_reversed_list pl.isList ?_;have st:(s1.heap.push (revObj l ((its.toArray.size:Int) - 1))).IsRevIter s1.heap.objs.size l ((xs.length:Int) - 1 - ((0:Nat):Int)):=⟨_,Heap.get?_push_size _ rfl,rfl,by simp [revObj,lr]⟩
 refine wpAny_pyIter_revIter (s:={ s1 with heap:=s1.heap.push (revObj l ((its.toArray.size:Int) - 1)) }) st ?_;refine ⟨s1.heap.objs.size,[s1.heap.objs.size],_,_,H1,rfl,I1.kept (t':=s1.toks) λb o e=>Heap.get?_push_of_some _ e,BV l _ xs,st,λb hb=>?_,q⟩;have e:b=s1.heap.objs.size:=by simpa using hb
 subst e;exact I1.fpOk (Nat.le_refl _) (I1.hok.fresh (Nat.le_refl _))
end
noncomputable def met (f:Nat->Str) (i:Nat):List Str:=((List.range i).map f).foldl step_dedup []
theorem kL (f:Nat->Str) (i:Nat):met f (i+1)=step_dedup (met f i) (f i):=by unfold met;rw [List.range_succ,List.map_append,List.foldl_append];rfl
theorem sv (l:List Str) (x:Str):(step_dedup l x).length=if l.any (· == x) then l.length else l.length+1:=by unfold step_dedup;split <;> simp
theorem xG (l:List Str) (x y:Str):(step_dedup l x).any (· == y)=(l.any (· == y) || decide (y=x)):=by
 unfold step_dedup;split
 ·rename_i h;by_cases e:y=x
  ·subst e;rw [h];rfl
  ·rw [decide_eq_false e,Bool.or_false]
 ·rw [List.any_append];congr 1;by_cases e:y=x
  ·subst e;simp
  ·have e':¬ x=y:=λz=>e z.symm;simp [e,e']
theorem sQ (f:Nat->Str):∀ i,(met f i).length<=i
 | 0=>by simp [met]
 | i+1=>by rw [kL,sv];have:=sQ f i;split <;> omega
theorem BZ {R:Result->Shared->Prop} {fp wr:List Addr} {G:Array GenState->Array GenState->Prop} {Pv:Nat->Value->Prop} {St:Nat->Shared->Prop}
  (W:WalksS P w A.in1 it fp wr G n Pv St) (sa:Addr) (nsa:sa ∉ fp) (f:Nat->Str) (hf:∀ i v,Pv i v->∃ t,v=.str (f i) t) (few:n+1 < scanBound) :
  ∀ (m i:Nat) (s:Shared),n - i=m->i<=n->St i s->s.heap.SetOf (strKind P w) sa (λy=>(met f i).any (· == y)) (met f i).length ->
   (∀ s',Moved (sa::wr) G s s'->s'.heap.SetOf (strKind P w) sa (λy=>(met f n).any (· == y)) (met f n).length->R (.ok (.ret .none)) s')->codeAny (model P w) A (.builtin "set.update.loop" ⟨[.ref sa,.ref it],[]⟩) R s:=by
 have nw:sa ∉ wr:=λz=>nsa (W.sub _ z);have more:∀ b ∈ wr,b ∈ sa::wr:=λb z=>List.mem_cons_of_mem _ z;intro m
 induction m with
 | zero =>
  intro i s e1 e2 st so fin;obtain rfl:i=n:=by omega
  refine codeAny_builtin PyProof.Rows.F.entry_set_update_loop ?_;rw [Around.under_plainId PyProof.Rows.F.plain_set_update_loop _];show wpAny _ A.in1 (pyNext (.ref it) >>= _) _ _ s;refine wpAny_bind (W.done s _ _ st λs2 mv=>?_);show wpAny _ A.in1 (ret Value.none) _ _ s2;obtain ⟨o,es,ep,tb,g,rest⟩:=so;exact wpAny_pure (fin s2 (mv.mono more) ⟨o,es,ep,tb,mv.heap sa _ nw g,rest⟩)
 | succ m ih =>
  intro i s e1 e2 st so fin;have lt:i < n:=by omega
  refine codeAny_builtin PyProof.Rows.F.entry_set_update_loop ?_;rw [Around.under_plainId PyProof.Rows.F.plain_set_update_loop _];show wpAny _ A.in1 (pyNext (.ref it) >>= _) _ _ s;refine wpAny_bind (W.item i s _ _ lt st λv s2 pv st2 mv=>?_);obtain ⟨tk,rfl⟩:=hf i v pv;have so2:s2.heap.SetOf (strKind P w) sa (λy=>(met f i).any (· == y)) (met f i).length:=let ⟨o,es,ep,tb,g,rest⟩:=so;⟨o,es,ep,tb,mv.heap sa _ nw g,rest⟩;show wpAny _ A.in1 (holding [Value.str (f i) tk] (setAdd sa (.str (f i) tk)) >>= _) _ _ s2;refine wpAny_bind (wpAny_holding ?_);unfold setAdd;refine wpAny_holding (wpAny_bind ((strKind P w).pyHash (k:=f i) (strKind_is P w _ _) ?_));have rm:(met f i).length+1 < scanBound:=by have:=sQ f i;omega
  refine wpAny_setAddHashed_of (knd:=strKind P w) (s:={ s2 with toks:=s2.toks+1 }) (strKind_is P w _ _) rfl so2 rm λh' sb so3=>?_;have so4:h'.SetOf (strKind P w) sa (λy=>(met f (i+1)).any (· == y)) (met f (i+1)).length:=SetOf_congr so3 (λy=>by rw [kL,xG]) (by rw [kL,sv]);refine wpAny_pure ⟨plainId_quiet PyProof.Rows.F.plain_set_update_loop _,ih (i+1) _ (by omega) lt (W.frame _ s2 _ _ st2 (Nat.le_succ _) λb z o g=>?_) so4 λs3 mv3 so5=>?_⟩
  ·rw [sb.2 b (λq:b=sa=>nsa (by rw [<- q];exact z))];exact g
  ·refine fin s3 (Moved.trans W.gtrans ((mv.mono more).then_heap (Nat.le_succ _) λb o z g=>?_) mv3) so5;rw [sb.2 b (λq:b=sa=>z (by rw [q];exact List.mem_cons_self))];exact g
noncomputable abbrev tZ (led:Bool):Obj:={ cls:=.type "set",dict:=none,data:=.set #[] 0 (.fresh 0 0 led) }
theorem yp {E:Value->Shared->Prop} {s:Shared} {items:Array Value} {f:Nat->Str} {Q:Value->Shared->Prop} (hh:A.handled=none) (hl:s.heap.IsList l items)
  (hi:∀ (i:Nat) (v:Value),items[i]?=some v->∃ t,v=.str (f i) t) (few:items.size+1 < scanBound)
  (fin:∀ (h':Heap) (tk:Nat),h'.SetOf (strKind P w) s.heap.objs.size (λy=>(met f items.size).any (· == y)) (met f items.size).length->(∀ b o,b < s.heap.objs.size->s.heap.get? b=some o->h'.get? b=some o)->Q (.ref s.heap.objs.size) { s with heap:=h',toks:=tk }) :
  wpAny (model P w) A (call (.type "set") [.ref l]) Q E s:=by
 obtain ⟨c,tl,mro⟩:=F.called_set.mro;have made:=F.called_set.made;have sub:=F.called_set.sub;refine wpAny_call (codeAny_of_tree ?_);show wpAny _ _ (callAny (.type "set") _) _ _ _;refine wpAny_pure ⟨Code.quiet_builtin _ (by decide +kernel),codeAny_builtin F.entry_type_call ?_⟩;rw [Around.under_plain (weight_type_call_type "set" [.ref l] []) rfl];have k1:=F.called_set.notType;have k2:=F.called_set.canCreate;have k3:=F.typeCall_set_1 (.ref l)
 repeat (any_goals (first | assumption | wp_step))
 refine codeAny_mono (code_set_new_1 (.ref l) (E:=E) (Q₁:=λobj s1=>∃ led:Bool,obj=.ref s.heap.objs.size/\s1={ s with heap:=s.heap.push (tZ led) }) λled=>⟨led,rfl,rfl⟩) λr s1 hr=>?_
 cases r with
 | error e=>exact hr
 | ok fl =>
  cases fl with
  | ret obj =>
   obtain ⟨led,rfl,rfl⟩:=hr;have g0:(s.heap.push (tZ led)).get? s.heap.objs.size=some (tZ led):=Heap.get?_push_size _ rfl;have ty:Shared.TypeIs { s with heap:=s.heap.push (tZ led) } (.ref s.heap.objs.size) "set":=⟨_,g0,rfl⟩
   have k4:=F.called_set.init.lookup;have k5:=F.called_set.init.bind (.ref s.heap.objs.size)
   repeat (any_goals (first | assumption | wp_step))
   refine codeAny_mono (codeAny_call_builtin (R:=wants (λr s2=>r=.none/\∃ h' tk,s2={ s with heap:=h',toks:=tk }/\h'.SetOf (strKind P w) s.heap.objs.size (λy=>(met f items.size).any (· == y)) (met f items.size).length /\
     (∀ b o,b < s.heap.objs.size->s.heap.get? b=some o->h'.get? b=some o)) E) F.called_set.init.plain F.entry_set_init (check_set_init_1 ty ?_)) λr2 s2 hr2=>?_
   ·obtain ⟨ol,g1,g2,nl,g3⟩:=hl;obtain ⟨oc,od,ob,os⟩:=ol;simp only at g2 g3;subst g2;subst g3;have g4:(s.heap.push (tZ led)).get? l=some { cls:=.type "list",dict:=od,data:=.seq items nl,slots:=os }:=Heap.get?_push_of_some _ g1;have m1:=F.sub_list_set;have m2:=F.sub_list_frozenset;have m3:(Value.type "list" == Value.type "dict")=false:=by decide
    have il:(s.heap.push (tZ led)).IsList l items:=⟨_,g4,rfl,nl,rfl⟩
    unfold Builtin.«set.__init__» noKeywords Builtin.Frozenset.updateFrom;generalize hPI:pyIter=PI
    wp_walk
    subst hPI;refine wpAny_pyIter_list il (wpAny_bind (wpAny_runValue ?_));have ll:l < s.heap.objs.size:=Heap.lt_size g1;have h3:A.in1.in1.in1.handled=none:=by simp [hh]
    have n1:l≠(s.heap.push (tZ led)).objs.size:=by rw [Heap.size_push];exact Nat.ne_of_lt (Nat.lt_succ_of_lt ll)
    have n2:s.heap.objs.size ∉ [(s.heap.push (tZ led)).objs.size,l]:=by rw [Heap.size_push];simp only [List.mem_cons,List.mem_singleton,List.not_mem_nil,or_false,not_or];exact ⟨Nat.ne_of_lt (Nat.lt_succ_self _),Nat.ne_of_gt ll⟩
    refine BZ ((Walks.list h3 _ l n1 items).toS) s.heap.objs.size n2 f hi few (items.size - 0) 0 _ (by omega) (Nat.zero_le _) ⟨⟨_,Heap.get?_push_size _ rfl,rfl,rfl⟩,(il.push _)⟩ ?so ?fi
    case so=>exact SetOf_congr ((setObjOf_fresh (knd:=strKind P w) led).setOf (Heap.get?_push_of_some _ g0) (by unfold scanBound;omega)) (λ_=>rfl) rfl
    case fi =>
     intro s' mv so;obtain ⟨h',g',d',tk',os'⟩:=s';obtain rfl:g'=s.gens:=mv.gens;obtain rfl:d'=s.drawn:=mv.drawn;obtain rfl:os'=s.os:=mv.os;show wpAny _ _ _ _ _ _;refine wpAny_pure ?_;show wpAny _ _ (ret Value.none) _ _ _;refine wpAny_pure ⟨rfl,h',tk',rfl,so,λb o z g=>?_⟩;have z1:b≠s.heap.objs.size:=Nat.ne_of_lt z;have z2:b≠(s.heap.push (tZ led)).objs.size:=by rw [Heap.size_push];exact Nat.ne_of_lt (Nat.lt_succ_of_lt z)
     exact mv.heap b o (by simp only [List.mem_cons,List.mem_singleton,List.not_mem_nil,or_false,not_or];exact ⟨z1,z2⟩) (Heap.get?_push_of_some _ (Heap.get?_push_of_some _ g))
   ·cases r2 with
    | error e=>exact hr2
    | ok fl2 =>
     cases fl2 with
     | ret r =>
      obtain ⟨rfl,h',tk,rfl,so,kp⟩:=hr2
      repeat (any_goals (first | assumption | wp_step))
      exact fin _ _ so kp
     | _=>exact hr2.elim
  | _=>exact hr.elim
def wZ (a:Addr) (n:Nat) (h:Heap):Prop:=∃ o es ep t,h.get? a=some o/\o.ExactSet/\o.data=.set es ep t/\t.fits es.size=true/\es.size=n
section
variable {X:Cx}
theorem yk:∀ {zs:List Str} {us:List Value} (i:Nat) (v:Value),Vals (zs.map V.str) us->us[i]?=some v->∃ t,v=.str (zs.getD i "") t
 | [],us,i,v,h,e=>by cases h;simp at e
 | z::zs,us,i,v,h,e=>by
  cases h with
  | cons r t =>
   obtain ⟨tk,rfl⟩:=r
   cases i with
   | zero =>
    have e':Value.str z tk=v:=by simpa using e
    exact ⟨tk,e'.symm⟩
   | succ i =>obtain ⟨t',e'⟩:=yk (zs:=zs) i v t (by simpa using e);exact ⟨t',by simpa using e'⟩
noncomputable def su (zs:List Str):Nat:=(met (λi=>zs.getD i "") zs.length).length
theorem yq (hc:X.calm=true):jD X (.type "set") (λxs H Q=>∃ (l:Addr) (zs:List Str),xs=[.ref l]/\SqL X.K H l (zs.map V.str)/\zs.length<=100/\∀ p,H p=none->Q (.ref p) (upd H p (.ext (wZ p (su zs))))):=by
 intro pins s σ H xs us Q I r h;obtain ⟨l,zs,rfl,hq,hz,q⟩:=h;obtain ⟨u,rfl,ru⟩:=jr r;cases ru;obtain ⟨its,rv,p,_⟩:=I.list hq;have lr:=rv.length;rw [List.length_map] at lr;refine yp (f:=λi=>zs.getD i "") (I.ok.hd hc) p.isList (λi v e=>yk i v rv (by simpa using e)) (by unfold scanBound;simp;omega) λh' tk so kp=>?_
 have so':wZ s.heap.objs.size (su zs) h':=by obtain ⟨o,es,ep,t,a1,a2,a3,_,_,_,a4,a5⟩:=so;refine ⟨o,es,ep,t,a1,a2,a3,a4,?_⟩;rw [a5];unfold su;rw [lr];simp
 refine ⟨.ref s.heap.objs.size,_,I.laid (t':=tk) (λb o e=>kp b o (Heap.lt_size e) e) (Nat.le_refl _) (show ObjOk X.prog X.w _ h' _ (.ext (wZ s.heap.objs.size (su zs))) from ⟨so',?_,λh1 h2 z k=>?_⟩),rfl,q _ (I.hok.fresh (Nat.le_refl _))⟩
 ·obtain ⟨o,_,_,_,a1,_⟩:=so';exact ⟨o,a1⟩
 ·obtain ⟨o,es,ep,t,a1,rest⟩:=z;exact ⟨o,es,ep,t,k _ a1,rest⟩
theorem uq:jD X (.builtin "len") (λxs H Q=>∃ (p:Addr) (n:Nat),xs=[.ref p]/\H p=some (.ext (wZ p n))/\n<=1000/\Q (.int n) H):=by
 intro pins s σ H xs us Q I r h;obtain ⟨p,n,rfl,hp,hn,q⟩:=h;obtain ⟨u,rfl,ru⟩:=jr r;cases ru;obtain ⟨⟨o,es,ep,t,a1,a2,a3,a4,a5⟩,_⟩:=(show ObjOk X.prog X.w H s.heap p (.ext (wZ p n)) from I.hok p _ hp)
 subst a5;exact call_len_set a1 a2 a3 a4 (by omega) ⟨.int (es.size:Nat),H,I.tok _,⟨_,rfl⟩,q⟩
end
theorem Same.aLst (e:Same H H') (h:aLst K H a xs):aLst K H' a xs:=h.elim (λz=>.inl (e _ _ z)) .inr
def LD (K:W.Frag) (H:Hp) (ds:List D) (v:V):Prop:=∃ a vs,v=.ref a/\aLst K H a vs/\Dats K H ds vs
theorem Same.ld (e:Same H H') (h:LD K H ds v):LD K H' ds v:=by obtain ⟨a,vs,e1,h1,h2⟩:=h;exact ⟨a,vs,e1,e.aLst h1,e.dats h2⟩
theorem LD.lst (h:LD K H ds v):Dat K H .lst v:=by obtain ⟨a,vs,rfl,h1,_⟩:=h;exact Dat.lstI h1.sqL
theorem LD.of (h:H a=some (.lst vs)) (hd:Dats K H ds vs):LD K H ds (.ref a):=⟨a,vs,rfl,.inl h,hd⟩
inductive Ar where
 | d (x:D)
 | l (ds:List D)
def ArI (K:W.Frag) (H:Hp):Ar->V->Prop
 | .d x,v=>Dat K H x v
 | .l ds,v=>LD K H ds v
inductive Ars (K:W.Frag) (H:Hp):List Ar->List V->Prop
 | nil:Ars K H [] []
 | cons {a v as vs}:ArI K H a v->Ars K H as vs->Ars K H (a::as) (v::vs)
theorem Same.ari {a:Ar} (e:Same H H') (h:ArI K H a v):ArI K H' a v:=by
 cases a with
 | d x=>exact e.dat h
 | l ds=>exact e.ld h
theorem Ars.length {as:List Ar} (h:Ars K H as vs):as.length=vs.length:=by
 induction h with
 | nil=>rfl
 | cons _ _ ih=>simp [ih]
theorem Ex {a:Ar} (h:Ars K H [a] vs):∃ u,vs=[u]/\ArI K H a u:=by
 cases h with
 | cons h1 h2=>cases h2;exact ⟨_,rfl,h1⟩
variable {b:Ar}
theorem zM {a:Ar} (h:Ars K H [a,b] vs):∃ u v,vs=[u,v]/\ArI K H a u/\ArI K H b v:=by
 cases h with
 | cons h1 h2=>obtain ⟨v,rfl,q⟩:=Ex h2;exact ⟨_,v,rfl,h1,q⟩
variable {c:Ar}
theorem um {a:Ar} (h:Ars K H [a,b,c] vs):∃ u v w,vs=[u,v,w]/\ArI K H a u/\ArI K H b v/\ArI K H c w:=by
 cases h with
 | cons h1 h2=>obtain ⟨v,w,rfl,q,q'⟩:=zM h2;exact ⟨_,v,w,rfl,h1,q,q'⟩
theorem B9 {a d:Ar} (h:Ars K H [a,b,c,d] vs):∃ u v w x,vs=[u,v,w,x]/\ArI K H a u/\ArI K H b v/\ArI K H c w/\ArI K H d x:=by
 cases h with
 | cons h1 h2=>obtain ⟨v,w,x,rfl,q,q',q''⟩:=um h2;exact ⟨_,v,w,x,rfl,h1,q,q',q''⟩
def spA (K:W.Frag) (R:List Ar->D->Prop):Sp:=λvs H Q _=>∃ as d,Ars K H as vs/\R as d/\∀ v H',Same H H'->Dat K H' d v->Q v H'
def kr (K:W.Frag) (R:List Ar->List D->Prop):Sp:=λvs H Q _=>∃ as es,Ars K H as vs/\R as es/\∀ r us H',Same H H'->H' r=some (.lst us)->H r=none->Dats K H' es us->Q (.ref r) H'
def RL (K:W.Frag) (t:TE) (σ:St) (H:Hp) (ds:List D):Prop:=∀ H1,Same H H1->∀ Q:VK,(∀ v H',Same H1 H'->LD K H' ds v->Q v H')->t σ H1 Q
def RB (K:W.Frag) (t:TA) (σ:St) (H:Hp) (as:List Ar):Prop:=∀ H1,Same H H1->∀ Q:List V->Hp->Prop,(∀ vs H',Same H1 H'->Ars K H' as vs->Q vs H')->t σ H1 Q
section
variable {K:W.Frag} {σ:St} {H H':Hp} {d d':D} {ds es:List D} {t u ta tb te tl:TE} {tt uu:TT} {tA:TA} {i j:Int} {b c:Bool} {mk:St->St} {jj:Nat} {ar:List Ar}
theorem RL.mono (h:RL K t σ H es) (e:Same H H'):RL K t σ H' es:=λH1 s Q q=>h H1 (e.trans s) Q q
theorem RL.use {Q:VK} (h:RL K t σ H es) (q:∀ v H',Same H H'->LD K H' es v->Q v H'):t σ H Q:=h H (Same.refl H) Q q
theorem cU:RB K eG σ H []:=λH1 _ Q q=>q _ _ (Same.refl _) .nil
theorem eE (h:RE K t σ H d) (r:RB K tA σ H ar):RB K (cE t tA) σ H (.d d::ar):=λH1 s Q q =>
 h H1 s _ λv H2 s2 q2=>r H2 (s.trans s2) _ λvs H3 s3 q3=>q _ _ (s2.trans s3) (.cons (s3.ari (a:=.d d) q2) q3)
theorem fF (h:RL K t σ H ds) (r:RB K tA σ H ar):RB K (cE t tA) σ H (.l ds::ar):=λH1 s Q q =>
 h H1 s _ λv H2 s2 q2=>r H2 (s.trans s2) _ λvs H3 s3 q3=>q _ _ (s2.trans s3) (.cons (s3.ari (a:=.l ds) q2) q3)
variable {v:V}
theorem bA {k:Nat} (h:LD K H ds v) (e:σ[k]?=some (some v):=by rfl):RL K (hW k) σ H ds:=λH1 s Q q=>⟨v,e,q _ _ (Same.refl _) (s.ld h)⟩
theorem gE (h:RC K t σ H es):RL K t σ H es:=λH1 s Q q=>h H1 s _ λl ys H' _ s' hy hd=>q _ _ s' (LD.of hy hd)
theorem Ft {a:Addr} (h:pC K ds a=true):RL K (tC (.ref a)) σ H ds:=λH1 _ Q q=>by obtain ⟨vs,h1,h2⟩:=sP h H1;exact q _ _ (Same.refl _) ⟨a,vs,rfl,.inr h1,h2⟩
variable {E:XK}
theorem fA {R:List Ar->D->Prop} (h:RB K tA σ H ar) (e:R ar d):RE K (jU (spA K R) [] E tA) σ H d:=λH1 s Q q =>
 h H1 s _ λvs H2 s2 q2=>⟨ar,d,by rw [List.append_nil];exact q2,e,λv H3 s3 q3=>q _ _ (s2.trans s3) q3⟩
theorem fU {R:List Ar->List D->Prop} (h:RB K tA σ H ar) (e:R ar es):RC K (jU (kr K R) [] E tA) σ H es:=λH1 s Q q =>
 h H1 s _ λvs H2 s2 q2=>⟨ar,es,by rw [List.append_nil];exact q2,e,λr us H3 s3 hr hr0 hd=>q r us H3 (s2.free hr0) (s2.trans s3) hr hd⟩
theorem iW {k:Nat} (h1:RL K ta σ H ds) (h2:RE K tb σ H (.int k)) (e:ds[k]?=some d):RE K (tOp (wU K) ta tb) σ H d:=λH1 s Q q =>
 h1 H1 s _ λv H2 s2 q2=>h2 H2 (s.trans s2) _ λw H3 s3 q3=>by obtain ⟨a,vs,ev,hq,hd⟩:=s3.ld q2;obtain ⟨x,ex,hx⟩:=hd.get e;exact ⟨a,vs,k,x,ev,q3.intE,hq.sqL,i0 ex,q _ _ (s2.trans s3) hx⟩
theorem Dats.snocE {b:D}:∀ {as:List D} {vs:List V},Dats K H (as++[b]) vs->∃ us v,vs=us++[v]/\Dats K H as us/\Dat K H b v
 | [],vs,h=>by obtain ⟨v,rfl,q⟩:=jw h;exact ⟨[],v,rfl,Dats.nil,q⟩
 | a::as,vs,h=>by obtain ⟨v,r,rfl,h1,h2⟩:=h.consE;obtain ⟨us,w,rfl,q1,q2⟩:=Dats.snocE (as:=as) h2;exact ⟨v::us,w,rfl,Dats.cons h1 q1,q2⟩
theorem nI (h1:RL K ta σ H (ds++[d])) (h2:RE K tb σ H (.int (-1))):RE K (tOp (wU K) ta tb) σ H d:=λH1 s Q q =>
 h1 H1 s _ λv H2 s2 q2=>h2 H2 (s.trans s2) _ λw H3 s3 q3=>by obtain ⟨a,vs,ev,hq,hd⟩:=s3.ld q2;obtain ⟨us,x,rfl,hu,hx⟩:=hd.snocE;exact ⟨a,_,-1,x,ev,q3.intE,hq.sqL,zN us x,q _ _ (s2.trans s3) hx⟩
theorem d5 (h:RL K t σ H es):RE K (tCB (λxs H Q=>∃ p ys,xs=[.ref p]/\(SqL K H p ys\/SqT K H p ys)/\Q (.int ys.length) H) (cE t eG)) σ H (.int es.length):=λH1 s Q q =>
 iO ((h.mono s).use λv H' s' hd=>by
  obtain ⟨l,ys,rfl,hy,hd⟩:=hd;exact ⟨l,ys,rfl,.inl hy.sqL,by rw [<- hd.length];exact q _ _ s' (Dat.intI _)⟩)
theorem xB:∀ {ns:List Int} {vs:List V},Dats K H (ns.map D.int) vs->vs=ns.map V.int
 | [],vs,h=>by rw [Dats.nilE h];rfl
 | n::ns,vs,h=>by obtain ⟨v,r,e,h1,h2⟩:=h.consE;rw [e,h1.intE,xB h2];rfl
theorem yi {ns:List Int} (h:RL K t σ H (ns.map D.int)):RE K (tCB (λxs H Q=>∃ (l:Addr) (ns:List Int),xs=[.ref l]/\SqL K H l (ns.map V.int)/\Q (.int ns.sum) H) (cE t eG)) σ H (.int ns.sum):=λH1 s Q q =>
 iO ((h.mono s).use λv H' s' hd=>by
  obtain ⟨l,ys,rfl,hy,hd⟩:=hd;exact ⟨l,ns,rfl,by rw [<- xB hd];exact hy.sqL,q _ _ s' (Dat.intI _)⟩)
noncomputable def isN:D->Bool
 | .non=>true
 | _=>false
theorem xP (h:Dat K H d v):decide (v=.non)=isN d:=by
 cases d with
 | non=>rw [h.nonE];rfl
 | bl b=>rw [h.blE];rfl
 | int i=>rw [h.intE];rfl
 | str x=>rw [h.strE];rfl
 | tup ds=>obtain ⟨a,vs,e,_⟩:=h.tupE;rw [e];rfl
 | lst=>obtain ⟨a,vs,e,_⟩:=h.lstE;rw [e];rfl
theorem nH (h:RE K ta σ H d):RE K (tOp (λx y H Q=>y=.non/\Q (.bl (decide (x=.non))) H) ta (tC .non)) σ H (.bl (isN d)):=λH1 s Q q =>
 h H1 s _ λv H2 s2 q2=>⟨rfl,by rw [xP q2];exact q _ _ s2 (Dat.blI _)⟩
theorem yg (h:RE K ta σ H d):RE K (tOp (λx y H Q=>y=.non/\Q (.bl (!decide (x=.non))) H) ta (tC .non)) σ H (.bl (!isN d)):=λH1 s Q q =>
 h H1 s _ λv H2 s2 q2=>⟨rfl,by rw [xP q2];exact q _ _ s2 (Dat.blI _)⟩
theorem kO {cs:List D} (h:RL K tl σ H cs) (hc:cs.length<=1000) (es:List D) (hl:es.length=cs.length) (h0:(mk σ).set jj none=mk σ)
  (turn:∀ H1 (i:Nat) c v d,Same H H1->cs[i]?=some c->es[i]?=some d->Dat K H1 c v->RE K te ((mk σ).set jj (some v)) H1 d):RC K (h8 (rh K tl) mk (c6 jj) fO te) σ H es:=λH1 s Q q=>by
 refine (h.mono s).use λv4 H4 s4 q4=>?_;obtain ⟨l4,ys4,rfl,hy4,hd4⟩:=q4;have ll:=hd4.length;refine ⟨l4,rfl,⟨ys4,hy4.sqL⟩,?_⟩;refine jI (K:=K) (Q:=Q) (n:=ys4.length) (item:=λi=>ys4.getD i .non) (λi H' s hi=>pd i H' (s.seq hy4.sqL) hi) (λH' s=>⟨ys4,s.seq hy4.sqL,Nat.le_refl _⟩) h0 es (by omega) (by omega) (λi d hi=>?_) (λl ys H5 hl5 s5=>q l ys H5 (s4.free hl5) (s4.trans s5));have hi':i < es.length:=(List.getElem?_eq_some_iff.mp hi).1;have hic:i < cs.length:=by omega
 obtain ⟨vz,ez,hz⟩:=hd4.get (List.getElem?_eq_getElem hic);have q:=turn H4 i cs[i] vz d (s.trans s4) (List.getElem?_eq_getElem hic) hi hz;rw [List.getD_eq_getElem?_getD,ez];exact q
theorem eY (h1:RL K ta σ H ds) (h2:RL K tb σ H es) (hl:ds.length+es.length<=1000):RC K (tOp (DZ K) ta tb) σ H (ds++es):=λH1 s Q q =>
 h1 H1 s _ λv H2 s2 q2=>h2 H2 (s.trans s2) _ λw H3 s3 q3=>by obtain ⟨a,xs,rfl,ha,da⟩:=s3.ld q2;obtain ⟨b,ys,rfl,hb,db⟩:=q3;have l1:=da.length;have l2:=db.length;exact ⟨a,b,xs,ys,rfl,rfl,ha,hb,by omega,λp hp=>q p _ _ ((s2.trans s3).free hp) (s2.trans (s3.trans (aR hp _))) aH ((aR hp _).dats (Dats.append da db))⟩
end
section
variable {K:W.Frag} {σ:St} {H H':Hp} {d d':D} {ds es:List D} {t u ta tb te tl:TE}
theorem yZ {zs:List Str} (h:RC K t σ H (zs.map D.str)) (hz:zs.length<=100):RE K (tCB (λxs H Q=>∃ (p:Addr) (n:Nat),xs=[.ref p]/\H p=some (.ext (wZ p n))/\n<=1000/\Q (.int n) H)
  (cE (tCB (λxs H Q=>∃ (l:Addr) (zs:List Str),xs=[.ref l]/\SqL K H l (zs.map V.str)/\zs.length<=100/\∀ p,H p=none->Q (.ref p) (upd H p (.ext (wZ p (su zs))))) (cE t eG)) eG)) σ H (.int (su zs)):=λH1 s Q q =>
 iO (iO ((h.mono s).use λl ys H2 _ s2 hy hd=>by
  refine ⟨l,zs,rfl,by rw [<- xC hd];exact SqL.of hy,hz,λp hp=>⟨p,su zs,rfl,aH,?_,q _ _ (s2.trans (aR hp _)) (Dat.intI _)⟩⟩;have:=sQ (λi=>zs.getD i "") zs.length;unfold su;omega))
theorem xH (zs:List Str):∀ i,i<=zs.length->((∀ y,(met (λi=>zs.getD i "") i).any (· == y)=decide (y ∈ zs.take i))/\((met (λi=>zs.getD i "") i).length=i↔(zs.take i).Nodup))
 | 0,_=>⟨λy=>by simp [met],by simp [met]⟩
 | i+1,h=>by
  obtain ⟨i1,i2⟩:=xH zs i (by omega);have hle:=sQ (λi=>zs.getD i "") i;have hi:i < zs.length:=h;have et:zs.take (i+1)=zs.take i++[zs[i]]:=by rw [List.take_add_one,List.getElem?_eq_getElem hi];rfl
  have eg:zs.getD i ""=zs[i]:=by rw [List.getD_eq_getElem?_getD,List.getElem?_eq_getElem hi];rfl
  refine ⟨λy=>?_,?_⟩
  ·rw [kL,xG,i1,et];simp only [eg,List.mem_append,List.mem_singleton];by_cases h1:y ∈ zs.take i <;> by_cases h2:y=zs[i] <;> simp [h1,h2]
  ·rw [kL,sv,i1,et];simp only [eg];rw [List.nodup_append];by_cases hm:zs[i] ∈ zs.take i
   ·rw [if_pos (decide_eq_true hm)];constructor
    ·intro z;omega
    ·rintro ⟨_,_,z⟩;exact absurd rfl (z _ hm _ (List.mem_singleton.mpr rfl))
   ·rw [if_neg (by simpa using hm)];constructor
    ·intro z;refine ⟨i2.mp (by omega),by simp,?_⟩;rintro a ha b hb rfl;rw [List.mem_singleton.mp hb] at ha;exact hm ha
    ·rintro ⟨z,_⟩;have:=i2.mpr z;omega
theorem Cm (zs:List Str):su zs=zs.length↔zs.Nodup:=by have h:=(xH zs zs.length (Nat.le_refl _)).2;rw [List.take_length] at h;exact h
end
def oI (K:W.Frag):V->List V->Hp->VK->Prop:=λx vs H Q=>∃ l xs y ds d j,x=.ref l/\vs=[y]/\aLst K H l xs/\Dats K H ds xs/\Dat K H d y/\noLs ds=true/\noL d=true/\deepDs ds<=20/\xs.length<=1000 /\
 (∃ e,ds[j]?=some e/\eqD e d=true)/\(∀ (m:Nat) e,m < j->ds[m]?=some e->eqD e d=false)/\Q (.int (j:Nat)) H
section
variable {X:Cx}
theorem yI {k:Nat} (hr:Room k X.A):MtM X "list.index" (oI X.K):=by
 intro pins s σ H x vs v us Q I rx rv h;obtain ⟨l,xs,y,ds,d,j,rfl,rfl,hH,hds,hd,n1,n2,dp,hx,⟨e0,he0,hit⟩,hno,q⟩:=h;cases rx;obtain ⟨u,rfl,ru⟩:=jr rv;obtain ⟨its,n,r,e⟩:=hH.at I;have hl:=r.length;have ll:=hds.length
 have item:∀ (m:Nat) (w:Value),its[m]?=some w->∃ g,ds[m]?=some g/\∃ xv,RelV xv w/\Dat X.K H g xv:=λm w hw=>by have hm:m < its.length:=(List.getElem?_eq_some_iff.mp hw).1;obtain ⟨g,hg,dg⟩:=hds.getV (i:=m) (v:=xs[m]'(by omega)) (List.getElem?_eq_getElem (by omega));obtain ⟨w',hw',rr⟩:=r.get (i:=m) (x:=xs[m]'(by omega)) (List.getElem?_eq_getElem (by omega));rw [hw] at hw';cases hw';exact ⟨g,hg,_,rr,dg⟩
 have relInj:∀ {x1 x2:V} {w:Value},RelV x1 w->RelV x2 w->x1=x2:=λ{x1 x2 w} h1 h2=>RelV.inj h1 h2
 classical
 let eq:Value->Bool:=λw=>if hw:∃ m:Nat,its[m]?=some w then (match ds[Classical.choose hw]? with | some g=>eqD g d | none=>false) else false
 have eqAt:∀ (m:Nat) (w:Value) (g:D),its[m]?=some w->ds[m]?=some g->eq w=eqD g d:=λm w g hw hg=>by
  have hw':∃ m:Nat,its[m]?=some w:=⟨m,hw⟩
  show (if hw:∃ m:Nat,its[m]?=some w then _ else false)=_;rw [dif_pos hw'];have hc:=Classical.choose_spec hw';obtain ⟨g',hg',xv',r1,d1⟩:=item _ w hc;obtain ⟨g2,hg2,xv,r2,d2⟩:=item m w hw;rw [hg] at hg2;cases hg2;rw [hg'];have ex:=relInj r1 r2;subst ex;have:=sr I g' g (jP n1 hg') d1 d2 (jP n1 hg);rw [this]
 have hj:j < ds.length:=(List.getElem?_eq_some_iff.mp he0).1
 have hu:X.A.in1.units+20+1 < cLine:=by have:=hr.un;show X.A.units+1+20+1 < cLine;omega
 refine call_meets F.slot_list_index ⟨_,e,rfl⟩ F.entry_list_index (F.args_list_index_2 _ _) (SeqAt.list_indexAt l its.toArray n none #[] u eq j (by simp;omega) (by omega) ?_ ?_) ⟨e,?_,?_⟩
 ·have hw:its[j]?=some (its[j]'(by omega)):=List.getElem?_eq_getElem (by omega);have:=eqAt j _ e0 hw he0;simpa [this] using hit
 ·intro m hm hmj;have hm':m < its.length:=by simpa using hm
  have hw:its[m]?=some (its[m]'hm'):=List.getElem?_eq_getElem hm';obtain ⟨g,hg,_⟩:=item m _ hw;have:=eqAt m _ g hw hg;simpa [this] using hno m g hmj hg
 ·intro w hw;obtain ⟨m,hm,rfl⟩:=Array.getElem_of_mem hw;have hm':m < its.length:=by simpa using hm
  have hw2:its[m]?=some (its[m]'hm'):=List.getElem?_eq_getElem hm';obtain ⟨g,hg,xv,r1,d1⟩:=item m _ hw2;have z1:its.toArray[m]=its[m]'hm':=by simp
  rw [z1,eqAt m _ g hw2 hg];exact we I 20 X.A.in1 g d xv y _ u hu (Nat.le_trans (lX hg) dp) (jP n1 hg) n2 d1 hd r1 ru
 ·exact ⟨.int (j:Nat),H,I.tok _,⟨_,rfl⟩,q⟩
theorem yJ {k:Nat} (hr:Room k X.A):MtR X "list.index" (oI X.K):=yI hr
end
section
variable {K:W.Frag} {σ:St} {H:Hp} {te:TE}
theorem Bs {k j:Nat} {v:V} {ds:List D} {d:D} (hv:LD K H ds v) (h:RE K te σ H d) (n1:noLs ds=true) (n2:noL d=true) (dp:deepDs ds<=20) (hl:ds.length<=1000) (h1:∃ e,ds[j]?=some e/\eqD e d=true) (h2:∀ (m:Nat) e,m < j->ds[m]?=some e->eqD e d=false) (e:σ[k]?=some (some v):=by rfl) :
  RE K (tBM K "list" (oI K) (hW k) (cE te eG)) σ H (.int (j:Nat)):=λH1 s Q q=>by
 obtain ⟨a,vs,rfl,hq,hd⟩:=s.ld hv;have ll:=hd.length;refine ⟨_,e,.inl ⟨rfl,_,hq.sqL⟩,h H1 s _ λy H2 s2 q2=>?_⟩;exact ⟨a,vs,y,ds,d,j,rfl,rfl,s2.aLst hq,s2.dats hd,q2,n1,n2,dp,by omega,h1,h2,q _ _ s2 (Dat.intI _)⟩
end
theorem Cy {K:PySem.W.Frag} {g:TG} {tb:TS} {D:ko} (Pv:Nat->St->Hp->Prop) (h0:Pv 0 σ H) (hl:∀ i σ H,i<=xs.length->Pv i σ H->SqL K H a xs)
  (hs:∀ i x σ H,i < xs.length->xs[xs.length - 1 - i]?=some x->Pv i σ H->g x σ H λσ2 H2=>tb { D with nx:=Pv (i+1),ct:=Pv (i+1),bk:=D.nx } σ2 H2) (hd:∀ σ H,Pv xs.length σ H->D.nx σ H) :
  ∃ W:Nat->Nat->St->Hp->Prop,(∃ m,W 0 m σ H)/\∀ i m σ H,W i m σ H ->
   ((Itv K a xs).stop i H/\D.nx σ H)\/((Itv K a xs).go i H/\∃ N:St->Hp->Prop,(∀ σ' H',N σ' H'->∃ m',m' < m/\W (i+1) m' σ' H')/\∀ x H',(Itv K a xs).yld i H x H'->g x σ H' λσ2 H2=>tb { D with nx:=N,ct:=N,bk:=D.nx } σ2 H2):=by
 refine ⟨λi m σ H=>m=xs.length - i/\i<=xs.length/\Pv i σ H,⟨xs.length,by simp,Nat.zero_le _,h0⟩,?_⟩;rintro i m σ H ⟨rfl,hi,p⟩;have q:=hl i σ H hi p;by_cases hlt:i < xs.length
 ·refine .inr ⟨⟨hlt,q⟩,Pv (i+1),λσ' H' p'=>⟨xs.length - (i+1),by omega,rfl,hlt,p'⟩,λx H' y=>?_⟩;obtain ⟨e,y⟩:=y;subst e;exact hs i x σ _ hlt y p
 ·have e:i=xs.length:=by omega
  subst e;exact .inl ⟨rfl,hd σ H p⟩
theorem kC (Ok:Hp->Prop)
  (go:∀ i H',Ok H'->i < n->J.go i H'/\∀ x H'',J.yld i H' x H''->H''=H'/\x=item i) (stop:∀ H',Ok H'->J.stop n H') (h0:σ0.set j none=σ0)
  (D:Addr) (Pn:Nat->Hp->Prop) (p0:Pn 0 (upd H1 D (.lst []))) (ok:∀ i H',i<=n->Pn i H'->Ok H')
  (turn:∀ i H',i < n->Pn i H'->tt (σ0.set j (some (item i))) H' λb H3=>if b=true then te (σ0.set j (some (item i))) H3 λv H4=>∃ ys,H4 D=some (.lst ys)/\ys.length < sizeLine/\(∃ z,σ0.set j (some (item i))=σ0.set j z)/\Pn (i+1) (upd H4 D (.lst (ys++[v]))) else (∃ z,σ0.set j (some (item i))=σ0.set j z)/\Pn (i+1) H3)
  (fin:∀ H',Pn n H'->Q (.ref D) H') :
  ∃ W:Nat->Nat->St->Hp->Prop,(∃ m,W 0 m σ0 (upd H1 D (.lst [])))/\∀ i m σ' H',W i m σ' H' ->
   (J.stop i H'/\Q (.ref D) H') \/
   (J.go i H'/\∃ Nx:St->Hp->Prop,(∀ σ'' H'',Nx σ'' H''->∃ m',m' < m/\W (i+1) m' σ'' H'')/\∀ x H'',J.yld i H' x H''->c6 j x σ' H'' λσ2 H2=>tt σ2 H2 λb H3 =>
    if b=true then te σ2 H3 λv H4=>∃ ys,H4 D=some (.lst ys)/\ys.length < sizeLine/\Nx σ2 (upd H4 D (.lst (ys++[v]))) else Nx σ2 H3):=by
 refine ⟨λi m σ' H'=>m=n - i/\i<=n/\(∃ z,σ'=σ0.set j z)/\Pn i H',⟨n,by omega,Nat.zero_le _,⟨none,h0.symm⟩,p0⟩,?_⟩;rintro i m σ' H' ⟨rfl,hi,⟨z,rfl⟩,p⟩;have o:=ok i H' hi p;by_cases hlt:i < n
 ·obtain ⟨g,y⟩:=go i H' o hlt;refine .inr ⟨g,λσ'' H''=>(∃ z,σ''=σ0.set j z)/\Pn (i+1) H'',λσ'' H'' q=>⟨n - (i+1),by omega,rfl,hlt,q.1,q.2⟩,λx H'' yx=>?_⟩;obtain ⟨e1,e2⟩:=y x H'' yx;subst e1 e2;simp only [c6,mX];exact turn i _ hlt p
 ·have e:i=n:=by omega
  subst e;exact .inl ⟨stop H' o,fin H' p⟩
theorem E5 {o:Expr} {to:TE} {name:Str} {apos cpos:Pos} {T id:String} {r:V->List V->Hp->VK->Prop} (K:W.Frag) (hK:X.K=K) (pa:PlainAttrs T) (slot:Slot T name id) (hty:typeOf (.builtin id)=pure (.type "method_descriptor")) (hm:MtR X id r) (ho:PE X o to) (ha:PA X (e::es) t)
  (hbase:attributeBase o name X.env (eval o X.env)=eval o X.env:=by rfl)
  (hfew:((backTo cpos (starEach (e::es) X.env)).all (λx=>!x.1) && (backToKw cpos (keywordEach [] X.env)).all (λx=>x.1.isSome)
   && decide ((e::es).length+([]:List Keyword).length+(if ([]:List Keyword).isEmpty then 0 else 1) < 30))=true:=by rfl)
  (hline:(apos.endLine == cpos.line)=true:=by rfl) (hs:starEach (e::es) X.env=(false,eval e X.env)::starEach es X.env:=by rfl) (hplain:(backTo cpos (starEach es X.env)).any (·.1)=false:=by rfl) :
  PE X (.Call (.Attribute o name apos) (e::es) [] cpos) (tBM K T r to t):=by
 subst hK;exact eQ pa slot hty hm ho ha hbase hfew hline hs hplain
theorem c7 (a b:D) (r q:List D):eqDs (a::r) (b::q)=(eqD a b && eqDs r q):=by rw [eqDs]
theorem eI:eqDs [] []=true:=by rw [eqDs]
theorem eT (b:D) (q:List D):eqDs [] (b::q)=false:=by unfold eqDs;rfl
theorem eH (a:D) (r:List D):eqDs (a::r) []=false:=by unfold eqDs;rfl
theorem gB (a b:List D):eqD (.tup a) (.tup b)=eqDs a b:=by rw [eqD]
theorem gA (a b:Str):eqD (.str a) (.str b)=decide (a=b):=by unfold eqD;by_cases h:a=b <;> simp [h]
theorem f9 (a b:Int):eqD (.int a) (.int b)=decide (a=b):=by unfold eqD;by_cases h:a=b <;> simp [h]
theorem vF (M:Addr->List V->Hp->Prop) (h:∀ R:VK,(∀ r us H1,H1 r=some (.lst us)->M r us H1->R (.ref r) H1)->tl σ H R) (h0:(mk σ).set j none=mk σ)
  (body:∀ r us H1 l,H1 r=some (.lst us)->M r us H1->H1 l=none->∃ Pn:Nat->Hp->Prop,Pn 0 (upd H1 l (.lst []))/\(∀ i G,i<=us.length->Pn i G->SqL K G r us) /\
   (∀ i G,i < us.length->Pn i G->tt ((mk σ).set j (some (us.getD i .non))) G λb H3=>if b=true then te ((mk σ).set j (some (us.getD i .non))) H3 λv H4=>∃ ys,H4 l=some (.lst ys)/\ys.length < sizeLine/\(∃ z,(mk σ).set j (some (us.getD i .non))=(mk σ).set j z)/\Pn (i+1) (upd H4 l (.lst (ys++[v]))) else (∃ z,(mk σ).set j (some (us.getD i .non))=(mk σ).set j z)/\Pn (i+1) H3) /\
   ∀ G,Pn us.length G->Q (.ref l) G):h8 (rh K tl) mk (c6 j) tt te σ H Q:=by
 refine h _ λr us H1 hr hM=>⟨r,rfl,⟨us,SqL.of hr⟩,λl hl=>?_⟩
 obtain ⟨Pn,b1,b2,b3,b4⟩:=body r us H1 l hr hM hl;exact kC (J:=Itl K r) (n:=us.length) (item:=λi=>us.getD i .non) (λG=>SqL K G r us) (λi G o hi=>pd i G o hi) (λG o=>⟨us,o,Nat.le_refl _⟩) h0 l Pn b1 b2 b3 b4
section
variable {P:Program} {w:World} {H H':Hp} {h h1 h2:Heap} {a b T:Addr} {o:HO} {fs:List Addr}
end
section
variable {X:Cx} {pins:List (Addr × Obj)} {σ:St} {H:Hp} {s s':Shared} {E:XK} {e:Value}
end
section
variable {X:Cx} {CX:CXT} {k:Nat} {f C:Addr} {fd:FuncData} {ps:List Str} {sp:Sp} {dvs:List V} {ds:List Value} {E:St->XK} {x m:Str} {p pos apos:Pos} {e o:Expr} {es:List Expr} {ta:TE} {t:TA}
end
section
variable {X:Cx} {pins pins':List (Addr × Obj)} {σ:St} {H:Hp} {s:Shared} {xe:Value->Shared->Prop} {e:Value}
end
end L2
namespace L2
open PySem PySem.Spec PySem.Calls PyProof.Rows PySem.W PySem.Builtin PySem.Builtin.ObjectAttr PySem.Builtin.Getset_descriptor
section
variable {prog:Program} {w:World} {A:Around} {E:Value->Shared->Prop} {s:Shared} {K:Frag} {x D:Addr} {ox:Obj} {od:Option Obj} {name:Str}
end
section
variable {X:Cx} {pins:List (Addr × Obj)} {σ:St} {H H':Hp} {s s2:Shared} {a:Addr} {o:HO}
end
end L2
namespace L2
open PySem PySem.Spec PySem.Calls PyProof.Rows
section
variable {P:Program} {w:World} {K:W.Frag} {mg:Str->Option Value} {base:Heap}
end
section
variable {X:Cx} {k:Nat} {f:Addr} {fd:FuncData} {ps:List Str} {sp:Sp} {dvs:List V} {ds:List Value} {E:XK} {x:Str} {p pos:Pos} {e:Expr} {es:List Expr} {t:TA}
end
section
variable {X:Cx}
end
section
variable {P:Program} {w:World} {K:W.Frag} {mg:Str->Option Value} {base:Heap}
end
section
variable {X:Cx} {CX:CXT} {k:Nat} {f C:Addr} {fd:FuncData} {ps ks:List Str} {sp:Sp} {E:St->XK} {x m:Str} {p pos apos kpos:Pos} {e o:Expr} {es:List Expr} {kws:List Keyword} {te ta:TE} {t tk:TA} {nm:Option Str} {g:List Value->List Value->List Value} {gV:List V->List V->List V}
end
section
variable {K:W.Frag} {σ:St} {H:Hp} {tA tK:TA} {ds es fs:List D} {d e:D} {dvs:List V} {R:List D->D->Prop} {B:List D->Addr->Prop} {E:XK} {Q:VK} {C:Addr} {gV:List V->List V->List V} {ta tb:TE}
theorem Dt (h1:RE K ta σ H d) (h2:RE K tb σ H e) (n1:noL d=true) (n2:noL e=true) (dp:gD d<=20):RE K (tOp (Fi K true) ta tb) σ H (.bl (!eqD d e)):=λH1 s Q q =>
 h1 H1 s _ λv H2 s2 q2=>h2 H2 (s.trans s2) _ λw H3 s3 q3=>⟨d,e,s3.dat q2,q3,n1,n2,dp,q _ _ (s2.trans s3) (Dat.blI _)⟩
end
section
variable {X:Cx}
end
end L2
namespace L2
open PySem PySem.Spec PySem.Calls PyProof.Rows PySem.W PySem.Builtin PySem.Builtin.ObjectAttr
section
variable {prog:Program} {w:World} {A:Around} {E:Value->Shared->Prop} {K:Frag} {C fI:Addr} {us:List Value}
end
section
variable {h:Heap} {x b:Addr} {o:Obj} {vs:Array Value}
end
section
variable {prog:Program} {w:World} {A:Around} {E:Value->Shared->Prop} {s:Shared} {K:Frag} {x C:Addr} {ox:Obj} {name:Str} {v:Value} {vs:Array Value}
end
section
variable {X:Cx} {pins:List (Addr × Obj)} {σ:St} {H:Hp} {s s':Shared} {C fI e:Addr} {fd:FuncData} {k:Nat} {ps:List Str} {a0:Value}
end
end L2
namespace L2
open PySem PySem.Spec PySem.Calls PyProof.Rows
abbrev d8 (h:Heap) (it t:Addr) (i:Nat):Prop:=h.get? it=some { cls:=.type "tuple_iterator",dict:=none,data:=.fields #[.ref t,rawInt i],slots:=#[] }
section
variable {prog:Program} {w:World} {A:Around} {E:Value->Shared->Prop} {s:Shared} {it t:Addr} {i:Nat} {items:Array Value}
theorem mf {x:Value} {Q:Value->Shared->Prop} (a1:d8 s.heap it t i) (a2:s.heap.IsTuple t items) (hx:items[i]?=some x)
  (q:∀ h',d8 h' it t (i+1)->Heap.SameBut it s.heap h'->Q x { s with heap:=h' }):wpAny (model prog w) A (Builtin.SmallTypes.nextOf (.ref it)) Q E s:=by
 have ty:s.TypeIs (.ref it) "tuple_iterator":=⟨_,a1,rfl⟩
 obtain ⟨⟨c2,d2,dt2,s2⟩,a2,hc,n,hd⟩:=a2;obtain rfl:c2=.type "tuple":=hc;obtain rfl:dt2=.seq items n:=hd;unfold Builtin.SmallTypes.nextOf;refine wpAny_bind (wpAny_callSpecial?_slot (name:=Str.ofString "__next__") ty F.slot_tuple_iterator_next (wpAny_call_entry F.slot_tuple_iterator_next ty F.entry_tuple_iterator_next ?_ (F.args_tuple_iterator_next_1 _)));obtain ⟨h0,g0,d0,t0,o0⟩:=s;unfold d8 rawInt at a1
 wp_walk
 rw [Int.toNat_natCast,hx];refine wpAny_bind (wpAny_setField_rec a1 (by simp) λh' b1 b2=>wpAny_pure ⟨x,rfl,wpAny_pure (q h' ?_ b2)⟩);show h'.get? it=some _;have e:((i+1:Nat):Int)=(i:Int)+1:=by omega
 rw [e];exact b1
theorem xj {Q:Value->Shared->Prop} (hh:A.handled=none) (a1:d8 s.heap it t i) (a2:s.heap.IsTuple t items) (hx:items[i]?=none)
  (q:∀ h' e,Heap.ExtBut it s.heap h'->(∃ o,h'.get? e=some o/\o.cls=.type "StopIteration")->E (.ref e) { s with heap:=h' }):wpAny (model prog w) A (Builtin.SmallTypes.nextOf (.ref it)) Q E s:=by
 have ty:s.TypeIs (.ref it) "tuple_iterator":=⟨_,a1,rfl⟩
 obtain ⟨⟨c2,d2,dt2,s2⟩,a2,hc,n,hd⟩:=a2;obtain rfl:c2=.type "tuple":=hc;obtain rfl:dt2=.seq items n:=hd;unfold Builtin.SmallTypes.nextOf;refine wpAny_bind (wpAny_callSpecial?_slot (name:=Str.ofString "__next__") ty F.slot_tuple_iterator_next (wpAny_call_entry F.slot_tuple_iterator_next ty F.entry_tuple_iterator_next ?_ (F.args_tuple_iterator_next_1 _)));obtain ⟨h0,g0,d0,t0,o0⟩:=s;unfold d8 rawInt at a1
 wp_walk
 rw [Int.toNat_natCast,hx];refine wpAny_bind (wpAny_rule (wpAny_bind (wpAny_setField_rec a1 (by simp) λh' b1 b2=>?_)));unfold Builtin.SmallTypes.stopIteration
 wp_walk
 exact wpAny_raiseNew_none hh (q _ _ ((b2.extBut.push _).push _) ⟨_,Heap.get?_push_size _ rfl,rfl⟩)
end
noncomputable abbrev BL (t:Addr):Obj:={ cls:=.type "tuple_iterator",data:=.fields #[.ref t,.int 0 0] }
noncomputable abbrev ra (it:Addr):Obj:={ cls:=.type "enumerate",data:=.fields #[.none,.bool false,.ref it,rawInt 0,.none,.none] }
variable {X:Cx} {σ:St} {H:Hp} {s:Shared}
theorem Inv.turnedL {pins:List (Addr × Obj)} {h':Heap} {t':Nat} {its:List Addr} (I:Inv X pins σ H s) (k:∀ b o,b ∉ its->s.heap.get? b=some o->h'.get? b=some o)
  (ok:∀ b ∈ its,H b=none/\b≠X.env.locals/\(b ∈ X.ex\/X.s₀.heap.objs.size<=b)/\(∀ x c,X.env.cells.lookup x=some c->c≠b)/\∀ p ∈ X.pn++pins,p.1≠b):Inv X pins σ H { s with heap:=h',toks:=t' }:=by
 have out:∀ b u,H b=some u->b ∉ its:=λb u e z=>by rw [(ok b z).1] at e;cases e
 refine I.step (g':=s.gens) (d':=s.drawn) (ch:=its) (λb hb=>⟨(ok b hb).2.2.1,(ok b hb).2.1,(ok b hb).2.2.2⟩) (λb o _ _ hc e _=>k b o hc e) (λb o _ _ hc e _=>⟨o.slots,k b o hc e⟩) (λ_ _ _ _ n=>n)
  (λb o hc e=>⟨o,k b o hc e⟩) (λ_ _ e=>e) (λ_ _ _ e=>e) (λb ps e=>⟨#[],by rw [Array.append_empty];exact e⟩) (λm hm=>?_) (λb u e=>?_) I.bare
 ·obtain ⟨o,es,ep,ho,r⟩:=hm;exact ⟨o,es,ep,k _ o (λz=>(ok _ z).2.1 rfl) ho,r⟩
 ·refine (I.hok b u e).stay (λc v hc q=>k c v ?_ q) (λ_ q=>q) λ_ _ q=>q;rcases hc with z | z
  ·rw [z];exact out b u e
  ·exact out c _ z
section
variable {prog:Program} {w:World} {A:Around} {E:Value->Shared->Prop} {s:Shared} {z TI TO i1 i2 t1 t2:Addr} {k:Nat} {xs ys:Array Value}
variable {a b:Value}
theorem zy {x y:Value} {Q:Value->Shared->Prop} (hz:IsZip s.heap z TI TO .none) (hI:IsPair s.heap TI (.ref i1) (.ref i2)) (hO:IsPair s.heap TO a b) (h1:d8 s.heap i1 t1 k) (h2:d8 s.heap i2 t2 k)
  (l1:s.heap.IsTuple t1 xs) (l2:s.heap.IsTuple t2 ys) (hx:xs[k]?=some x) (hy:ys[k]?=some y) (D:ZipApart z TI TO i1 i2 t1 t2)
  (q:∀ h',IsZip h' z TI TO (rawInt s.heap.objs.size)->IsPair h' TO x y->d8 h' i1 t1 (k+1)->d8 h' i2 t2 (k+1)->h'.get? s.heap.objs.size=some { cls:=.type "tuple",data:=.seq #[x,y] } ->
   (∀ b o,b≠z->b≠TO->b≠i1->b≠i2->s.heap.get? b=some o->h'.get? b=some o)->Q (.ref s.heap.objs.size) { s with heap:=h' }):wpAny (model prog w) A (Builtin.«zip.__next__» ⟨[.ref z],[]⟩) (λfin s'=>∃ v,fin=.done (.ret v)/\Q v s') E s:=by
 show wpAny _ _ (field (.ref z) 2 >>= _) _ _ _;refine wpAny_bind (wpAny_field hz rfl rfl ?_);show wpAny _ _ (field (.ref z) 3 >>= _) _ _ _;refine wpAny_bind (wpAny_field hz rfl rfl ?_);refine wpAny_bind (wpAny_seqItems hI rfl ?_);refine wpAny_bind (wpAny_bind (wpAny_field hz rfl rfl (wpAny_pure ?_)));refine wpAny_bind (wpAny_rule ?_);refine wpAny_bind (wpAny_field hz rfl rfl ?_);refine wpAny_bind (wpAny_setField_rec hz (by simp) λha za sa=>?_)
 replace za:IsZip ha z TI TO .ellipsis:=za
 rw [show (#[Value.ref i1,Value.ref i2]:Array Value).toList.zipIdx=[(.ref i1,0),(.ref i2,1)] from rfl,List.forIn_cons];have h1a:d8 ha i1 t1 k:=(sa.2 i1 D.i1z).trans h1;have h2a:d8 ha i2 t2 k:=(sa.2 i2 D.i2z).trans h2;have l1a:ha.IsTuple t1 xs:=l1.extBut sa.extBut D.l1z;have l2a:ha.IsTuple t2 ys:=l2.extBut sa.extBut D.l2z;have hOa:IsPair ha TO a b:=(sa.2 TO D.TOz).trans hO;refine wpAny_bind (wpAny_bind (wpAny_bind (wpAny_onRaise (wpAny_bind (mf (s:={ s with heap:=ha }) h1a l1a hx λhb h1b sb=>wpAny_pure ?_)))))
 replace sb:Heap.SameBut i1 ha hb:=sb
 have hOb:IsPair hb TO a b:=(sb.2 TO D.TOi1).trans hOa;refine wpAny_bind (wpAny_seqItems (s:={ s with heap:=hb }) hOb rfl ?_);refine wpAny_bind (wpAny_updateSeq_pair (s:={ s with heap:=hb }) hOb λhc hOc sc=>?_)
 replace sc:Heap.SameBut TO hb hc:=sc
 replace hOc:IsPair hc TO x b:=hOc
 refine wpAny_bind (wpAny_letGo (wpAny_pure ?_));have h2c:d8 hc i2 t2 k:=(sc.2 i2 (Ne.symm D.TOi2)).trans ((sb.2 i2 (Ne.symm D.i12)).trans h2a);have l2c:hc.IsTuple t2 ys:=(l2a.extBut sb.extBut D.l2i1).extBut sc.extBut D.l2TO;show wpAny _ _ (forIn [(Value.ref i2,1)] _ _) _ _ _;rw [List.forIn_cons];refine wpAny_bind (wpAny_bind (wpAny_onRaise (wpAny_bind (mf (s:={ s with heap:=hc }) h2c l2c hy λhd h2d sd=>wpAny_pure ?_))))
 replace sd:Heap.SameBut i2 hc hd:=sd
 have hOd:IsPair hd TO x b:=(sd.2 TO D.TOi2).trans hOc;refine wpAny_bind (wpAny_seqItems (s:={ s with heap:=hd }) hOd rfl ?_);refine wpAny_bind (wpAny_updateSeq_pair (s:={ s with heap:=hd }) hOd λhe hOe se=>?_)
 replace se:Heap.SameBut TO hd he:=se
 replace hOe:IsPair he TO x y:=hOe
 refine wpAny_bind (wpAny_letGo (wpAny_pure ?_));show wpAny _ _ (forIn [] _ _) _ _ _;rw [List.forIn_nil];refine wpAny_pure ?_;show wpAny _ _ (seqItems? (.ref TO) >>= _) _ _ _;refine wpAny_bind (wpAny_seqItems (s:={ s with heap:=he }) hOe rfl ?_);refine wpAny_bind (wpAny_newTuple ?_);have sze:he.objs.size=s.heap.objs.size:=by rw [se.1,sd.1,sc.1,sb.1,sa.1]
 have ze:IsZip he z TI TO .ellipsis:=(se.2 z (Ne.symm D.TOz)).trans ((sd.2 z (Ne.symm D.i2z)).trans ((sc.2 z (Ne.symm D.TOz)).trans ((sb.2 z (Ne.symm D.i1z)).trans za)));have zf:IsZip (he.push { cls:=.type "tuple",data:=.seq #[x,y] }) z TI TO .ellipsis:=Heap.get?_push_of_some _ ze;have tf:(he.push { cls:=.type "tuple",data:=.seq #[x,y] }).get? s.heap.objs.size=some { cls:=.type "tuple",data:=.seq #[x,y] }:=Heap.get?_push_at sze.symm rfl;have of:IsPair (he.push { cls:=.type "tuple",data:=.seq #[x,y] }) TO x y:=Heap.get?_push_of_some _ hOe;have f1:d8 (he.push { cls:=.type "tuple",data:=.seq #[x,y] }) i1 t1 (k+1):=Heap.get?_push_of_some _ ((se.2 i1 (Ne.symm D.TOi1)).trans ((sd.2 i1 D.i12).trans ((sc.2 i1 (Ne.symm D.TOi1)).trans h1b)));have f2:d8 (he.push { cls:=.type "tuple",data:=.seq #[x,y] }) i2 t2 (k+1):=Heap.get?_push_of_some _ ((se.2 i2 (Ne.symm D.TOi2)).trans h2d)
 have kf:∀ b o,b≠z->b≠TO->b≠i1->b≠i2->s.heap.get? b=some o->(he.push { cls:=.type "tuple",data:=.seq #[x,y] }).get? b=some o:=λb o n1 n2 n3 n4 e =>
  Heap.get?_push_of_some _ ((se.2 b n2).trans ((sd.2 b n4).trans ((sc.2 b n2).trans ((sb.2 b n3).trans ((sa.2 b n1).trans e)))))
 generalize he.push { cls:=.type "tuple",data:=.seq #[x,y] }=hf at zf tf of f1 f2 kf;have lz:z < s.heap.objs.size:=Heap.lt_size hz;show wpAny _ _ (Builtin.SmallTypes.ownedTupleHandOut (.ref z) (.ref he.objs.size) >>= _) _ _ _;rw [sze];refine wpAny_bind (wpAny_bind (wpAny_setField_rec (s:={ s with heap:=hf }) zf (by simp) λhg zg sg=>wpAny_setField_rec (s:={ s with heap:=hg }) zg (by simp) λhh zh sh=>wpAny_pure ⟨_,rfl,?_⟩))
 replace sg:Heap.SameBut z hf hg:=sg
 replace sh:Heap.SameBut z hg hh:=sh
 have on:∀ b,b≠z->hh.get? b=hf.get? b:=λb n=>(sh.2 b n).trans (sg.2 b n);refine q hh zh ?_ ?_ ?_ ?_ λb o n1 n2 n3 n4 e=>(on b n1).trans (kf b o n1 n2 n3 n4 e)
 ·exact (on TO D.TOz).trans of
 ·exact (on i1 D.i1z).trans f1
 ·exact (on i2 D.i2z).trans f2
 ·exact (on _ (Nat.ne_of_gt lz)).trans tf
theorem zx {Q:Fin->Shared->Prop} (hh:A.handled=none) (hz:IsZip s.heap z TI TO .none) (hI:IsPair s.heap TI (.ref i1) (.ref i2)) (hO:IsPair s.heap TO a b) (h1:d8 s.heap i1 t1 k)
  (l1:s.heap.IsTuple t1 xs) (hx:xs[k]?=none) (D:ZipApart z TI TO i1 i2 t1 t2)
  (q:∀ h' e,(∀ b o,b≠z->b≠i1->s.heap.get? b=some o->h'.get? b=some o)->(∃ o,h'.get? e=some o/\o.cls=.type "StopIteration")->E (.ref e) { s with heap:=h' }):wpAny (model prog w) A (Builtin.«zip.__next__» ⟨[.ref z],[]⟩) Q E s:=by
 show wpAny _ _ (field (.ref z) 2 >>= _) _ _ _;refine wpAny_bind (wpAny_field hz rfl rfl ?_);show wpAny _ _ (field (.ref z) 3 >>= _) _ _ _;refine wpAny_bind (wpAny_field hz rfl rfl ?_);refine wpAny_bind (wpAny_seqItems hI rfl ?_);refine wpAny_bind (wpAny_bind (wpAny_field hz rfl rfl (wpAny_pure ?_)));refine wpAny_bind (wpAny_rule ?_);refine wpAny_bind (wpAny_field hz rfl rfl ?_);refine wpAny_bind (wpAny_setField_rec hz (by simp) λha za sa=>?_)
 replace za:IsZip ha z TI TO .ellipsis:=za
 rw [show (#[Value.ref i1,Value.ref i2]:Array Value).toList.zipIdx=[(.ref i1,0),(.ref i2,1)] from rfl,List.forIn_cons];have h1a:d8 ha i1 t1 k:=(sa.2 i1 D.i1z).trans h1;have l1a:ha.IsTuple t1 xs:=l1.extBut sa.extBut D.l1z;refine wpAny_bind (wpAny_bind (wpAny_bind (wpAny_onRaise (wpAny_bind (xj (s:={ s with heap:=ha }) hh h1a l1a hx λhb e sb he=>?_)))))
 replace sb:Heap.ExtBut i1 ha hb:=sb
 have zb:IsZip hb z TI TO .ellipsis:=sb z _ (Ne.symm D.i1z) za;obtain ⟨oe,hoe,hce⟩:=he;have nez:e≠z:=λy=>by rw [y,zb] at hoe;cases hoe;simp at hce
 refine wpAny_setField_rec (s:={ s with heap:=hb }) zb (by simp) λhc zc sc=>q hc e (λb o n1 n2 hb'=>?_) ⟨oe,(sc.2 e nez).trans hoe,hce⟩;exact (sc.2 b n1).trans (sb b o n2 ((sa.2 b n1).trans hb'))
end
theorem B5 (t1 t2:Addr) (xs ys:Array Value) :
  Meets (Builtin.«zip.__new__» ⟨[.type "zip",.ref t1,.ref t2],[]⟩) (λ_ R s=>s.heap.IsTuple t1 xs/\s.heap.IsTuple t2 ys /\
   ∀ h',IsZip h' (s.heap.objs.size+4) (s.heap.objs.size+2) (s.heap.objs.size+3) .none->IsPair h' (s.heap.objs.size+2) (.ref s.heap.objs.size) (.ref (s.heap.objs.size+1))->IsPair h' (s.heap.objs.size+3) .none .none ->
    d8 h' s.heap.objs.size t1 0->d8 h' (s.heap.objs.size+1) t2 0->(∀ b o,s.heap.get? b=some o->h'.get? b=some o)->R (.ok (.ret (.ref (s.heap.objs.size+4)))) { s with heap:=h' }) :=
 .of_wp λ_ _ _ _ s q=>by
  obtain ⟨h0,g0,d0,t0,o0⟩:=s;obtain ⟨a1,a2,q⟩:=q;have self1:=sub_zip;have b1:Heap.IsTuple (Shared.heap ⟨h0,g0,d0,t0,o0⟩) t1 xs:=a1;have b2:Heap.IsTuple (Shared.heap ⟨h0.push (BL t1),g0,d0,t0,o0⟩) t2 ys:=Heap.IsTuple.push a2 _
  wp_walk using wpAny_pyIter_tuple b1,wpAny_pyIter_tuple b2
  refine ⟨_,rfl,?_⟩;have n1:(h0.push (BL t1)).objs.size=h0.objs.size+1:=Heap.size_push _ _;simp only [Heap.size_push];refine q _ ?_ ?_ ?_ ?_ ?_ λb o e=>?_
  ·exact Heap.get?_push_at (by simp [Heap.size_push]) rfl
  ·exact Heap.get?_push_of_some _ (Heap.get?_push_of_some _ (Heap.get?_push_at (by simp [Heap.size_push]) rfl))
  ·exact Heap.get?_push_of_some _ (Heap.get?_push_at (by simp [Heap.size_push]) rfl)
  ·exact Heap.get?_push_of_some _ (Heap.get?_push_of_some _ (Heap.get?_push_of_some _ (Heap.get?_push_of_some _ (Heap.get?_push_at (by simp [Heap.size_push]) rfl))))
  ·exact Heap.get?_push_of_some _ (Heap.get?_push_of_some _ (Heap.get?_push_of_some _ (Heap.get?_push_at (by simp [Heap.size_push]) rfl)))
  ·exact Heap.get?_push_of_some _ (Heap.get?_push_of_some _ (Heap.get?_push_of_some _ (Heap.get?_push_of_some _ (Heap.get?_push_of_some _ e))))
variable {prog:Program} {w:World} {A:Around} {t1 t2:Addr} {xs ys:Array Value}
theorem yt {E:Value->Shared->Prop} {Q:Value->Shared->Prop} (a1:s.heap.IsTuple t1 xs) (a2:s.heap.IsTuple t2 ys)
  (q:∀ h',IsZip h' (s.heap.objs.size+4) (s.heap.objs.size+2) (s.heap.objs.size+3) .none->IsPair h' (s.heap.objs.size+2) (.ref s.heap.objs.size) (.ref (s.heap.objs.size+1))->IsPair h' (s.heap.objs.size+3) .none .none ->
   d8 h' s.heap.objs.size t1 0->d8 h' (s.heap.objs.size+1) t2 0->(∀ b o,s.heap.get? b=some o->h'.get? b=some o)->Q (.ref (s.heap.objs.size+4)) { s with heap:=h' }):wpAny (model prog w) A (call (.type "zip") [.ref t1,.ref t2]) Q E s :=
 callType_new F.called_zip (by decide) (F.typeCall_zip_2 _ _) (F.newCall_zip_2 _ _) (λo=>F.args_object_init_3 o _ _) F.entry_zip_new (B5 t1 t2 xs ys) ⟨a1,a2,λh' z1 z2 z3 z4 z5 kk=>⟨⟨_,z1,rfl⟩,q h' z1 z2 z3 z4 z5 kk⟩⟩
noncomputable def Itz (K:W.Frag) (a b:Addr) (xs ys:List V):It:=⟨λi H=>i < xs.length/\i < ys.length/\SqT K H a xs/\SqT K H b ys,λi H x H'=>∃ p u v,H p=none/\x=.ref p/\xs[i]?=some u/\ys[i]?=some v/\H'=upd H p (.tup [u,v]),λi H=>i=xs.length/\SqT K H a xs⟩
variable {P:Program} {K:W.Frag} {elts:List Expr} {ps:Pos}
theorem BX {c1} (a b z TI TO i1 i2:Addr) (xs ys:List V) (D:ZipApart z TI TO i1 i2 a b):oB P w K (.Tuple elts c1 ps) (Itz K a b xs ys) [z,TI,TO,i1,i2] z
  (λi h=>∃ c d,IsZip h z TI TO .none/\IsPair h TI (.ref i1) (.ref i2)/\IsPair h TO c d/\d8 h i1 a i/\d8 h i2 b i) where
 mem:=by simp
 obj:=λi h ⟨c,d,q1,q2,q3,q4,q5⟩ b hb=>by
  simp only [List.mem_cons,List.not_mem_nil,or_false] at hb;rcases hb with rfl | rfl | rfl | rfl | rfl
  ·exact ⟨_,q1,λv e=>by cases e⟩
  ·exact ⟨_,q2,λv e=>by cases e⟩
  ·exact ⟨_,q3,λv e=>by cases e⟩
  ·exact ⟨_,q4,λv e=>by cases e⟩
  ·exact ⟨_,q5,λv e=>by cases e⟩
 keep:=λi h h' ⟨c,d,q1,q2,q3,q4,q5⟩ k=>⟨c,d,k z (by simp) _ q1,k TI (by simp) _ q2,k TO (by simp) _ q3,k i1 (by simp) _ q4,k i2 (by simp) _ q5⟩
 item:=by
  intro X hP hw hK hc i pins s σ H E I hf st hg;subst hP hw hK;obtain ⟨c,d,q1,q2,q3,q4,q5⟩:=st;obtain ⟨hi,hj,ha,hb⟩:=hg;obtain ⟨us,ru,pu,_⟩:=I.tuple ha;obtain ⟨vs,rv,pv,_⟩:=I.tuple hb;have hx:xs[i]?=some xs[i]:=List.getElem?_eq_getElem hi;have hy:ys[i]?=some ys[i]:=List.getElem?_eq_getElem hj;obtain ⟨u,hu,r1⟩:=ru.get hx;obtain ⟨v,hv,r2⟩:=rv.get hy;have ty:s.TypeIs (.ref z) "zip":=⟨_,q1,rfl⟩
  unfold pyNext;refine wpAny_bind (wpAny_attempt (wpAny_callSpecial?_slot (name:=Str.ofString "__next__") ty F.slot_zip_next (wpAny_call_entry F.slot_zip_next ty F.entry_zip_next ?_ (F.args_zip_next_1 _))));refine zy (x:=u) (y:=v) q1 q2 q3 q4 q5 (show s.heap.IsTuple a us.toArray from pu) (show s.heap.IsTuple b vs.toArray from pv) (by simpa using hu) (by simpa using hv) D λh' w1 w2 w3 w4 w5 w6=>wpAny_pure ⟨_,rfl,?_⟩;refine wpAny_letOwnedTupleGo_zip (s:={ s with heap:=h' }) w1 λh2 e2 same=>?_
  replace same:Heap.SameBut z h' h2:=same
  have lz:z < s.heap.objs.size:=Heap.lt_size q1;have lTI:TI < s.heap.objs.size:=Heap.lt_size q2;have lTO:TO < s.heap.objs.size:=Heap.lt_size q3;have l1:i1 < s.heap.objs.size:=Heap.lt_size q4;have l2:i2 < s.heap.objs.size:=Heap.lt_size q5
  have low:∀ b ∈ [z,TI,TO,i1,i2],b < s.heap.objs.size:=λb hb=>by simp only [List.mem_cons,List.not_mem_nil,or_false] at hb;rcases hb with rfl | rfl | rfl | rfl | rfl <;> assumption
  have tup2:h2.get? s.heap.objs.size=some { cls:=.type "tuple",data:=.seq #[u,v] }:=(same.2 _ (Nat.ne_of_gt lz)).trans w5
  have I1:Inv X pins σ (upd H s.heap.objs.size (.tup [xs[i],ys[i]])) { s with heap:=s.heap.push { cls:=.type "tuple",data:=.seq #[u,v] },toks:=s.toks } :=
   I.laid (o:=.tup [xs[i],ys[i]]) (λb ob q=>Heap.get?_push_of_some _ q) (Nat.le_refl _) ⟨by rw [sizeLine_eq];simp,[u,v],.cons r1 (.cons r2 .nil),IsTup.new _ _⟩
  have frees:∀ b,b < s.heap.objs.size->upd H s.heap.objs.size (.tup [xs[i],ys[i]]) b=H b:=λb hb=>aZ (Nat.ne_of_lt hb)
  have I2:Inv X pins σ (upd H s.heap.objs.size (.tup [xs[i],ys[i]])) { s with heap:=h2,toks:=s.toks }:=by
   refine Inv.turnedL (s:={ s with heap:=s.heap.push { cls:=.type "tuple",data:=.seq #[u,v] },toks:=s.toks }) (h':=h2) (its:=[z,TI,TO,i1,i2]) (t':=s.toks) I1 (λb o hb q=>?_) (λb hb=>?_)
   ·simp only [List.mem_cons,List.not_mem_nil,or_false,not_or] at hb;obtain ⟨n1,n2,n3,n4,n5⟩:=hb;by_cases hbs:b=s.heap.objs.size
    ·subst hbs;have q':(s.heap.push { cls:=.type "tuple",data:=.seq #[u,v] }).get? s.heap.objs.size=some o:=q;rw [Heap.get?_push_at rfl rfl] at q';cases q';exact tup2
    ·have q':s.heap.get? b=some o:=(Heap.get?_push_ne _ _ _ hbs).symm.trans q;exact (same.2 b n1).trans (w6 b o n1 n3 n4 n5 q')
   ·obtain ⟨f0,f1,f2,f3,f4,f5⟩:=hf b hb;exact ⟨by rw [frees b (low b hb)];exact f0,f1,f3,f4,f5⟩
  refine ⟨.ref s.heap.objs.size,_,I2,rfl,⟨_,_,_,I.hok.fresh (Nat.le_refl _),rfl,hx,hy,rfl⟩,⟨u,v,e2,?_,?_,?_,?_⟩,λb hb=>?_⟩
  ·exact (same.2 TI D.TIz).trans (w6 TI _ D.TIz D.TITO D.TIi1 D.TIi2 q2)
  ·exact (same.2 TO D.TOz).trans w2
  ·exact (same.2 i1 D.i1z).trans w3
  ·exact (same.2 i2 D.i2z).trans w4
  ·rw [frees b (low b hb)];exact (hf b hb).1
 done:=by
  intro X hP hw hK hc i pins s σ H E I hf st hg;subst hP hw hK;obtain ⟨c,d,q1,q2,q3,q4,q5⟩:=st;obtain ⟨hi,ha⟩:=hg;obtain ⟨us,ru,pu,_⟩:=I.tuple ha;have lr:=ru.length;have ty:s.TypeIs (.ref z) "zip":=⟨_,q1,rfl⟩
  unfold pyNext;refine wpAny_bind (wpAny_attempt (wpAny_callSpecial?_slot (name:=Str.ofString "__next__") ty F.slot_zip_next (wpAny_call_entry F.slot_zip_next ty F.entry_zip_next ?_ (F.args_zip_next_1 _))));refine zx (I.ok.hd hc) q1 q2 q3 q4 (show s.heap.IsTuple a us.toArray from pu) (by simp;omega) D λh' e kk ⟨o,ho,hco⟩=>?_;refine wpAny_bind (wpAny_isInstance (T:="StopIteration") (b:=true) ⟨o,ho,hco⟩ isSubtype_stop (wpAny_pure ⟨rfl,?_⟩));refine Inv.turnedL (s:=s) (h':=h') (its:=[z,i1]) (t':=s.toks) I (λb o hb q=>kk b o (λy=>hb (by simp [y])) (λy=>hb (by simp [y])) q) (λb hb=>?_)
  obtain ⟨f0,f1,f2,f3,f4,f5⟩:=hf b (by
   simp only [List.mem_cons,List.not_mem_nil,or_false] at hb;rcases hb with rfl | rfl <;> simp)
  exact ⟨f0,f1,f3,f4,f5⟩
 self:=λA i s Q E ⟨_,_,q1,_⟩ q=>wpAny_pyIter_zip q1 q
noncomputable def CH (K:W.Frag) (ta:TA):TI:=λσ H R=>ta σ H λvs H1=>∃ a b xs ys,vs=[.ref a,.ref b]/\SqT K H1 a xs/\SqT K H1 b ys/\R (Itz K a b xs ys) H1
variable {a b:Expr} {ta:TA} {p pos:Pos}
theorem tQ {c1} (hg:Gl X "zip") (hm:X.mg "zip"=none) (ha:PA X [a,b] ta) (hs:starEach [a,b] X.env=(false,eval a X.env)::starEach [b] X.env:=by rfl) (hpl:(backTo pos (starEach [b] X.env)).any (·.1)=false:=by rfl) :
  PI X (.Tuple elts c1 ps) (.Call (.Name "zip" p) [a,b] [] pos) (CH X.K ta):=by
 intro pins s σ H R I h;refine Call_ (kH I hg hm zV (PyProof.Rows.callWith_type1 (thn (ha pos pins s σ H _ I h) λus s1 ⟨vs,H1,I1,r1,q1⟩=>?_) hs hpl));obtain ⟨t1,t2,xs,ys,ev,hq1,hq2,q⟩:=q1;subst ev
 cases r1 with
 | cons e1 rt =>
  obtain ⟨u2,rfl,e2⟩:=jr rt;cases e1;cases e2;obtain ⟨us,ru,pu,_⟩:=I1.tuple hq1;obtain ⟨vs,rv,pv,_⟩:=I1.tuple hq2;have lt1:t1 < s1.heap.objs.size:=pu.lt;have lt2:t2 < s1.heap.objs.size:=pv.lt;refine yt pu pv λh' z1 z2 z3 z4 z5 kk=>?_;refine wpAny_pyIter_zip (s:={ s1 with heap:=h' }) z1 ?_;have ne:∀ {x y:Nat},x < y->x≠y:=λh=>Nat.ne_of_lt h;have gt:∀ {x y:Nat},y < x->x≠y:=λh=>Nat.ne_of_gt h
  have ap:ZipApart (s1.heap.objs.size+4) (s1.heap.objs.size+2) (s1.heap.objs.size+3) s1.heap.objs.size (s1.heap.objs.size+1) t1 t2 :=
   ⟨ne (by omega),ne (by omega),ne (by omega),ne (by omega),ne (by omega),gt (by omega),gt (by omega),gt (by omega),gt (by omega),ne (by omega),ne (Nat.lt_of_lt_of_le lt1 (by omega)),ne (Nat.lt_of_lt_of_le lt1 (by omega)),ne lt1,ne (Nat.lt_of_lt_of_le lt1 (by omega)),
    ne (Nat.lt_of_lt_of_le lt2 (by omega)),ne (Nat.lt_of_lt_of_le lt2 (by omega)),ne lt2,ne (Nat.lt_of_lt_of_le lt2 (by omega))⟩
  refine ⟨s1.heap.objs.size+4,[s1.heap.objs.size+4,s1.heap.objs.size+2,s1.heap.objs.size+3,s1.heap.objs.size,s1.heap.objs.size+1],_,_,H1,rfl,I1.kept (t':=s1.toks) kk,BX t1 t2 _ _ _ _ _ xs ys ap,⟨.none,.none,z1,z2,z3,z4,z5⟩,λb hb=>?_,q⟩
  have lb:s1.heap.objs.size<=b:=by
   simp only [List.mem_cons,List.not_mem_nil,or_false] at hb;rcases hb with rfl | rfl | rfl | rfl | rfl
   ·exact Nat.le_add_right _ _
   ·exact Nat.le_add_right _ _
   ·exact Nat.le_add_right _ _
   ·exact Nat.le_refl _
   ·exact Nat.le_add_right _ _
  exact I1.fpOk lb (I1.hok.fresh lb)
noncomputable abbrev AF (t:Addr):Obj:={ cls:=.type "list_iterator",data:=.fields #[.ref t,.int 0 0] }
section
variable {prog:Program} {w:World} {A:Around} {E:Value->Shared->Prop} {s:Shared} {z TI TO i1 i2 t1 t2:Addr} {k:Nat} {xs ys:Array Value}
variable {a b:Value}
theorem zw {x y:Value} {Q:Value->Shared->Prop} (hz:IsZip s.heap z TI TO .none) (hI:IsPair s.heap TI (.ref i1) (.ref i2)) (hO:IsPair s.heap TO a b) (h1:s.heap.IsListIter i1 t1 k) (h2:d8 s.heap i2 t2 k)
  (l1:s.heap.IsList t1 xs) (l2:s.heap.IsTuple t2 ys) (hx:xs[k]?=some x) (hy:ys[k]?=some y) (D:ZipApart z TI TO i1 i2 t1 t2)
  (q:∀ h',IsZip h' z TI TO (rawInt s.heap.objs.size)->IsPair h' TO x y->h'.IsListIter i1 t1 (k+1)->d8 h' i2 t2 (k+1)->h'.get? s.heap.objs.size=some { cls:=.type "tuple",data:=.seq #[x,y] } ->
   (∀ b o,b≠z->b≠TO->b≠i1->b≠i2->s.heap.get? b=some o->h'.get? b=some o)->Q (.ref s.heap.objs.size) { s with heap:=h' }):wpAny (model prog w) A (Builtin.«zip.__next__» ⟨[.ref z],[]⟩) (λfin s'=>∃ v,fin=.done (.ret v)/\Q v s') E s:=by
 show wpAny _ _ (field (.ref z) 2 >>= _) _ _ _;refine wpAny_bind (wpAny_field hz rfl rfl ?_);show wpAny _ _ (field (.ref z) 3 >>= _) _ _ _;refine wpAny_bind (wpAny_field hz rfl rfl ?_);refine wpAny_bind (wpAny_seqItems hI rfl ?_);refine wpAny_bind (wpAny_bind (wpAny_field hz rfl rfl (wpAny_pure ?_)));refine wpAny_bind (wpAny_rule ?_);refine wpAny_bind (wpAny_field hz rfl rfl ?_);refine wpAny_bind (wpAny_setField_rec hz (by simp) λha za sa=>?_)
 replace za:IsZip ha z TI TO .ellipsis:=za
 rw [show (#[Value.ref i1,Value.ref i2]:Array Value).toList.zipIdx=[(.ref i1,0),(.ref i2,1)] from rfl,List.forIn_cons];have h1a:ha.IsListIter i1 t1 k:=h1.at λo e=>(sa.2 i1 D.i1z).trans e;have h2a:d8 ha i2 t2 k:=(sa.2 i2 D.i2z).trans h2;have l1a:ha.IsList t1 xs:=l1.extBut sa.extBut D.l1z;have l2a:ha.IsTuple t2 ys:=l2.extBut sa.extBut D.l2z;have hOa:IsPair ha TO a b:=(sa.2 TO D.TOz).trans hO;refine wpAny_bind (wpAny_bind (wpAny_bind (wpAny_onRaise (wpAny_bind (wpAny_nextOf_list_item (s:={ s with heap:=ha }) h1a l1a hx λhb h1b sb=>wpAny_pure ?_)))))
 replace sb:Heap.SameBut i1 ha hb:=sb
 have hOb:IsPair hb TO a b:=(sb.2 TO D.TOi1).trans hOa;refine wpAny_bind (wpAny_seqItems (s:={ s with heap:=hb }) hOb rfl ?_);refine wpAny_bind (wpAny_updateSeq_pair (s:={ s with heap:=hb }) hOb λhc hOc sc=>?_)
 replace sc:Heap.SameBut TO hb hc:=sc
 replace hOc:IsPair hc TO x b:=hOc
 refine wpAny_bind (wpAny_letGo (wpAny_pure ?_));have h2c:d8 hc i2 t2 k:=(sc.2 i2 (Ne.symm D.TOi2)).trans ((sb.2 i2 (Ne.symm D.i12)).trans h2a);have l2c:hc.IsTuple t2 ys:=(l2a.extBut sb.extBut D.l2i1).extBut sc.extBut D.l2TO;show wpAny _ _ (forIn [(Value.ref i2,1)] _ _) _ _ _;rw [List.forIn_cons];refine wpAny_bind (wpAny_bind (wpAny_onRaise (wpAny_bind (mf (s:={ s with heap:=hc }) h2c l2c hy λhd h2d sd=>wpAny_pure ?_))))
 replace sd:Heap.SameBut i2 hc hd:=sd
 have hOd:IsPair hd TO x b:=(sd.2 TO D.TOi2).trans hOc;refine wpAny_bind (wpAny_seqItems (s:={ s with heap:=hd }) hOd rfl ?_);refine wpAny_bind (wpAny_updateSeq_pair (s:={ s with heap:=hd }) hOd λhe hOe se=>?_)
 replace se:Heap.SameBut TO hd he:=se
 replace hOe:IsPair he TO x y:=hOe
 refine wpAny_bind (wpAny_letGo (wpAny_pure ?_));show wpAny _ _ (forIn [] _ _) _ _ _;rw [List.forIn_nil];refine wpAny_pure ?_;show wpAny _ _ (seqItems? (.ref TO) >>= _) _ _ _;refine wpAny_bind (wpAny_seqItems (s:={ s with heap:=he }) hOe rfl ?_);refine wpAny_bind (wpAny_newTuple ?_);have sze:he.objs.size=s.heap.objs.size:=by rw [se.1,sd.1,sc.1,sb.1,sa.1]
 have ze:IsZip he z TI TO .ellipsis:=(se.2 z (Ne.symm D.TOz)).trans ((sd.2 z (Ne.symm D.i2z)).trans ((sc.2 z (Ne.symm D.TOz)).trans ((sb.2 z (Ne.symm D.i1z)).trans za)));have zf:IsZip (he.push { cls:=.type "tuple",data:=.seq #[x,y] }) z TI TO .ellipsis:=Heap.get?_push_of_some _ ze;have tf:(he.push { cls:=.type "tuple",data:=.seq #[x,y] }).get? s.heap.objs.size=some { cls:=.type "tuple",data:=.seq #[x,y] }:=Heap.get?_push_at sze.symm rfl;have of:IsPair (he.push { cls:=.type "tuple",data:=.seq #[x,y] }) TO x y:=Heap.get?_push_of_some _ hOe;have f1:(he.push { cls:=.type "tuple",data:=.seq #[x,y] }).IsListIter i1 t1 (k+1):=h1b.at λo e=>Heap.get?_push_of_some _ ((se.2 i1 (Ne.symm D.TOi1)).trans ((sd.2 i1 D.i12).trans ((sc.2 i1 (Ne.symm D.TOi1)).trans e)));have f2:d8 (he.push { cls:=.type "tuple",data:=.seq #[x,y] }) i2 t2 (k+1):=Heap.get?_push_of_some _ ((se.2 i2 (Ne.symm D.TOi2)).trans h2d)
 have kf:∀ b o,b≠z->b≠TO->b≠i1->b≠i2->s.heap.get? b=some o->(he.push { cls:=.type "tuple",data:=.seq #[x,y] }).get? b=some o:=λb o n1 n2 n3 n4 e =>
  Heap.get?_push_of_some _ ((se.2 b n2).trans ((sd.2 b n4).trans ((sc.2 b n2).trans ((sb.2 b n3).trans ((sa.2 b n1).trans e)))))
 generalize he.push { cls:=.type "tuple",data:=.seq #[x,y] }=hf at zf tf of f1 f2 kf;have lz:z < s.heap.objs.size:=Heap.lt_size hz;show wpAny _ _ (Builtin.SmallTypes.ownedTupleHandOut (.ref z) (.ref he.objs.size) >>= _) _ _ _;rw [sze];refine wpAny_bind (wpAny_bind (wpAny_setField_rec (s:={ s with heap:=hf }) zf (by simp) λhg zg sg=>wpAny_setField_rec (s:={ s with heap:=hg }) zg (by simp) λhh zh sh=>wpAny_pure ⟨_,rfl,?_⟩))
 replace sg:Heap.SameBut z hf hg:=sg
 replace sh:Heap.SameBut z hg hh:=sh
 have on:∀ b,b≠z->hh.get? b=hf.get? b:=λb n=>(sh.2 b n).trans (sg.2 b n);refine q hh zh ?_ ?_ ?_ ?_ λb o n1 n2 n3 n4 e=>(on b n1).trans (kf b o n1 n2 n3 n4 e)
 ·exact (on TO D.TOz).trans of
 ·exact f1.at λo e=>(on i1 D.i1z).trans e
 ·exact (on i2 D.i2z).trans f2
 ·exact (on _ (Nat.ne_of_gt lz)).trans tf
theorem zu {Q:Fin->Shared->Prop} (hh:A.handled=none) (hz:IsZip s.heap z TI TO .none) (hI:IsPair s.heap TI (.ref i1) (.ref i2)) (hO:IsPair s.heap TO a b) (h1:s.heap.IsListIter i1 t1 k)
  (l1:s.heap.IsList t1 xs) (hx:xs[k]?=none) (D:ZipApart z TI TO i1 i2 t1 t2)
  (q:∀ h' e,(∀ b o,b≠z->b≠i1->s.heap.get? b=some o->h'.get? b=some o)->(∃ o,h'.get? e=some o/\o.cls=.type "StopIteration")->E (.ref e) { s with heap:=h' }):wpAny (model prog w) A (Builtin.«zip.__next__» ⟨[.ref z],[]⟩) Q E s:=by
 show wpAny _ _ (field (.ref z) 2 >>= _) _ _ _;refine wpAny_bind (wpAny_field hz rfl rfl ?_);show wpAny _ _ (field (.ref z) 3 >>= _) _ _ _;refine wpAny_bind (wpAny_field hz rfl rfl ?_);refine wpAny_bind (wpAny_seqItems hI rfl ?_);refine wpAny_bind (wpAny_bind (wpAny_field hz rfl rfl (wpAny_pure ?_)));refine wpAny_bind (wpAny_rule ?_);refine wpAny_bind (wpAny_field hz rfl rfl ?_);refine wpAny_bind (wpAny_setField_rec hz (by simp) λha za sa=>?_)
 replace za:IsZip ha z TI TO .ellipsis:=za
 rw [show (#[Value.ref i1,Value.ref i2]:Array Value).toList.zipIdx=[(.ref i1,0),(.ref i2,1)] from rfl,List.forIn_cons];have h1a:ha.IsListIter i1 t1 k:=h1.at λo e=>(sa.2 i1 D.i1z).trans e;have l1a:ha.IsList t1 xs:=l1.extBut sa.extBut D.l1z;refine wpAny_bind (wpAny_bind (wpAny_bind (wpAny_onRaise (wpAny_bind (wpAny_nextOf_list_end (s:={ s with heap:=ha }) hh h1a l1a hx λhb e sb he=>?_)))))
 replace sb:Heap.ExtBut i1 ha hb:=sb
 have zb:IsZip hb z TI TO .ellipsis:=sb z _ (Ne.symm D.i1z) za;obtain ⟨oe,hoe,hce⟩:=he;have nez:e≠z:=λy=>by rw [y,zb] at hoe;cases hoe;simp at hce
 refine wpAny_setField_rec (s:={ s with heap:=hb }) zb (by simp) λhc zc sc=>q hc e (λb o n1 n2 hb'=>?_) ⟨oe,(sc.2 e nez).trans hoe,hce⟩;exact (sc.2 b n1).trans (sb b o n2 ((sa.2 b n1).trans hb'))
end
theorem B4 (t1 t2:Addr) (xs ys:Array Value) :
  Meets (Builtin.«zip.__new__» ⟨[.type "zip",.ref t1,.ref t2],[]⟩) (λ_ R s=>s.heap.IsList t1 xs/\s.heap.IsTuple t2 ys /\
   ∀ h',IsZip h' (s.heap.objs.size+4) (s.heap.objs.size+2) (s.heap.objs.size+3) .none->IsPair h' (s.heap.objs.size+2) (.ref s.heap.objs.size) (.ref (s.heap.objs.size+1))->IsPair h' (s.heap.objs.size+3) .none .none ->
    h'.IsListIter s.heap.objs.size t1 0->d8 h' (s.heap.objs.size+1) t2 0->(∀ b o,s.heap.get? b=some o->h'.get? b=some o)->R (.ok (.ret (.ref (s.heap.objs.size+4)))) { s with heap:=h' }) :=
 .of_wp λ_ _ _ _ s q=>by
  obtain ⟨h0,g0,d0,t0,o0⟩:=s;obtain ⟨a1,a2,q⟩:=q;have self1:=sub_zip;have b1:Heap.IsList (Shared.heap ⟨h0,g0,d0,t0,o0⟩) t1 xs:=a1;have b2:Heap.IsTuple (Shared.heap ⟨h0.push (AF t1),g0,d0,t0,o0⟩) t2 ys:=Heap.IsTuple.push a2 _
  wp_walk using wpAny_pyIter_list b1,wpAny_pyIter_tuple b2
  refine ⟨_,rfl,?_⟩;have n1:(h0.push (AF t1)).objs.size=h0.objs.size+1:=Heap.size_push _ _;simp only [Heap.size_push];refine q _ ?_ ?_ ?_ ?_ ?_ λb o e=>?_
  ·exact Heap.get?_push_at (by simp [Heap.size_push]) rfl
  ·exact Heap.get?_push_of_some _ (Heap.get?_push_of_some _ (Heap.get?_push_at (by simp [Heap.size_push]) rfl))
  ·exact Heap.get?_push_of_some _ (Heap.get?_push_at (by simp [Heap.size_push]) rfl)
  ·exact ⟨_,Heap.get?_push_of_some _ (Heap.get?_push_of_some _ (Heap.get?_push_of_some _ (Heap.get?_push_of_some _ (Heap.get?_push_at (by simp [Heap.size_push]) rfl)))),rfl,rfl⟩
  ·exact Heap.get?_push_of_some _ (Heap.get?_push_of_some _ (Heap.get?_push_of_some _ (Heap.get?_push_at (by simp [Heap.size_push]) rfl)))
  ·exact Heap.get?_push_of_some _ (Heap.get?_push_of_some _ (Heap.get?_push_of_some _ (Heap.get?_push_of_some _ (Heap.get?_push_of_some _ e))))
theorem yr {E:Value->Shared->Prop} {Q:Value->Shared->Prop} (a1:s.heap.IsList t1 xs) (a2:s.heap.IsTuple t2 ys)
  (q:∀ h',IsZip h' (s.heap.objs.size+4) (s.heap.objs.size+2) (s.heap.objs.size+3) .none->IsPair h' (s.heap.objs.size+2) (.ref s.heap.objs.size) (.ref (s.heap.objs.size+1))->IsPair h' (s.heap.objs.size+3) .none .none ->
   h'.IsListIter s.heap.objs.size t1 0->d8 h' (s.heap.objs.size+1) t2 0->(∀ b o,s.heap.get? b=some o->h'.get? b=some o)->Q (.ref (s.heap.objs.size+4)) { s with heap:=h' }):wpAny (model prog w) A (call (.type "zip") [.ref t1,.ref t2]) Q E s :=
 callType_new F.called_zip (by decide) (F.typeCall_zip_2 _ _) (F.newCall_zip_2 _ _) (λo=>F.args_object_init_3 o _ _) F.entry_zip_new (B4 t1 t2 xs ys) ⟨a1,a2,λh' z1 z2 z3 z4 z5 kk=>⟨⟨_,z1,rfl⟩,q h' z1 z2 z3 z4 z5 kk⟩⟩
noncomputable def Itm (K:W.Frag) (a b:Addr) (xs ys:List V):It:=⟨λi H=>i < xs.length/\i < ys.length/\SqL K H a xs/\SqT K H b ys,λi H x H'=>∃ p u v,H p=none/\x=.ref p/\xs[i]?=some u/\ys[i]?=some v/\H'=upd H p (.tup [u,v]),λi H=>i=xs.length/\SqL K H a xs⟩
theorem zr {c1} (a b z TI TO i1 i2:Addr) (xs ys:List V) (D:ZipApart z TI TO i1 i2 a b):oB P w K (.Tuple elts c1 ps) (Itm K a b xs ys) [z,TI,TO,i1,i2] z
  (λi h=>∃ c d,IsZip h z TI TO .none/\IsPair h TI (.ref i1) (.ref i2)/\IsPair h TO c d/\h.IsListIter i1 a i/\d8 h i2 b i) where
 mem:=by simp
 obj:=λi h ⟨c,d,q1,q2,q3,q4,q5⟩ b hb=>by
  simp only [List.mem_cons,List.not_mem_nil,or_false] at hb;rcases hb with rfl | rfl | rfl | rfl | rfl
  ·exact ⟨_,q1,λv e=>by cases e⟩
  ·exact ⟨_,q2,λv e=>by cases e⟩
  ·exact ⟨_,q3,λv e=>by cases e⟩
  ·obtain ⟨o,e,c,d⟩:=q4;exact ⟨o,e,λv z=>by rw [d] at z;cases z⟩
  ·exact ⟨_,q5,λv e=>by cases e⟩
 keep:=λi h h' ⟨c,d,q1,q2,q3,q4,q5⟩ k=>⟨c,d,k z (by simp) _ q1,k TI (by simp) _ q2,k TO (by simp) _ q3,q4.at λo e=>k i1 (by simp) o e,k i2 (by simp) _ q5⟩
 item:=by
  intro X hP hw hK hc i pins s σ H E I hf st hg;subst hP hw hK;obtain ⟨c,d,q1,q2,q3,q4,q5⟩:=st;obtain ⟨hi,hj,ha,hb⟩:=hg;obtain ⟨us,ru,pu,_⟩:=I.list ha;obtain ⟨vs,rv,pv,_⟩:=I.tuple hb;have hx:xs[i]?=some xs[i]:=List.getElem?_eq_getElem hi;have hy:ys[i]?=some ys[i]:=List.getElem?_eq_getElem hj;obtain ⟨u,hu,r1⟩:=ru.get hx;obtain ⟨v,hv,r2⟩:=rv.get hy;have ty:s.TypeIs (.ref z) "zip":=⟨_,q1,rfl⟩
  unfold pyNext;refine wpAny_bind (wpAny_attempt (wpAny_callSpecial?_slot (name:=Str.ofString "__next__") ty F.slot_zip_next (wpAny_call_entry F.slot_zip_next ty F.entry_zip_next ?_ (F.args_zip_next_1 _))));refine zw (x:=u) (y:=v) q1 q2 q3 q4 q5 (show s.heap.IsList a us.toArray from pu.isList) (show s.heap.IsTuple b vs.toArray from pv) (by simpa using hu) (by simpa using hv) D λh' w1 w2 w3 w4 w5 w6=>wpAny_pure ⟨_,rfl,?_⟩;refine wpAny_letOwnedTupleGo_zip (s:={ s with heap:=h' }) w1 λh2 e2 same=>?_
  replace same:Heap.SameBut z h' h2:=same
  have lz:z < s.heap.objs.size:=Heap.lt_size q1;have lTI:TI < s.heap.objs.size:=Heap.lt_size q2;have lTO:TO < s.heap.objs.size:=Heap.lt_size q3;have l1:i1 < s.heap.objs.size:=by obtain ⟨o,e,_⟩:=q4;exact Heap.lt_size e
  have l2:i2 < s.heap.objs.size:=Heap.lt_size q5
  have low:∀ b ∈ [z,TI,TO,i1,i2],b < s.heap.objs.size:=λb hb=>by simp only [List.mem_cons,List.not_mem_nil,or_false] at hb;rcases hb with rfl | rfl | rfl | rfl | rfl <;> assumption
  have tup2:h2.get? s.heap.objs.size=some { cls:=.type "tuple",data:=.seq #[u,v] }:=(same.2 _ (Nat.ne_of_gt lz)).trans w5
  have I1:Inv X pins σ (upd H s.heap.objs.size (.tup [xs[i],ys[i]])) { s with heap:=s.heap.push { cls:=.type "tuple",data:=.seq #[u,v] },toks:=s.toks } :=
   I.laid (o:=.tup [xs[i],ys[i]]) (λb ob q=>Heap.get?_push_of_some _ q) (Nat.le_refl _) ⟨by rw [sizeLine_eq];simp,[u,v],.cons r1 (.cons r2 .nil),IsTup.new _ _⟩
  have frees:∀ b,b < s.heap.objs.size->upd H s.heap.objs.size (.tup [xs[i],ys[i]]) b=H b:=λb hb=>aZ (Nat.ne_of_lt hb)
  have I2:Inv X pins σ (upd H s.heap.objs.size (.tup [xs[i],ys[i]])) { s with heap:=h2,toks:=s.toks }:=by
   refine Inv.turnedL (s:={ s with heap:=s.heap.push { cls:=.type "tuple",data:=.seq #[u,v] },toks:=s.toks }) (h':=h2) (its:=[z,TI,TO,i1,i2]) (t':=s.toks) I1 (λb o hb q=>?_) (λb hb=>?_)
   ·simp only [List.mem_cons,List.not_mem_nil,or_false,not_or] at hb;obtain ⟨n1,n2,n3,n4,n5⟩:=hb;by_cases hbs:b=s.heap.objs.size
    ·subst hbs;have q':(s.heap.push { cls:=.type "tuple",data:=.seq #[u,v] }).get? s.heap.objs.size=some o:=q;rw [Heap.get?_push_at rfl rfl] at q';cases q';exact tup2
    ·have q':s.heap.get? b=some o:=(Heap.get?_push_ne _ _ _ hbs).symm.trans q;exact (same.2 b n1).trans (w6 b o n1 n3 n4 n5 q')
   ·obtain ⟨f0,f1,f2,f3,f4,f5⟩:=hf b hb;exact ⟨by rw [frees b (low b hb)];exact f0,f1,f3,f4,f5⟩
  refine ⟨.ref s.heap.objs.size,_,I2,rfl,⟨_,_,_,I.hok.fresh (Nat.le_refl _),rfl,hx,hy,rfl⟩,⟨u,v,e2,?_,?_,?_,?_⟩,λb hb=>?_⟩
  ·exact (same.2 TI D.TIz).trans (w6 TI _ D.TIz D.TITO D.TIi1 D.TIi2 q2)
  ·exact (same.2 TO D.TOz).trans w2
  ·exact w3.at λo e=>(same.2 i1 D.i1z).trans e
  ·exact (same.2 i2 D.i2z).trans w4
  ·rw [frees b (low b hb)];exact (hf b hb).1
 done:=by
  intro X hP hw hK hc i pins s σ H E I hf st hg;subst hP hw hK;obtain ⟨c,d,q1,q2,q3,q4,q5⟩:=st;obtain ⟨hi,ha⟩:=hg;obtain ⟨us,ru,pu,_⟩:=I.list ha;have lr:=ru.length;have ty:s.TypeIs (.ref z) "zip":=⟨_,q1,rfl⟩
  unfold pyNext;refine wpAny_bind (wpAny_attempt (wpAny_callSpecial?_slot (name:=Str.ofString "__next__") ty F.slot_zip_next (wpAny_call_entry F.slot_zip_next ty F.entry_zip_next ?_ (F.args_zip_next_1 _))));refine zu (I.ok.hd hc) q1 q2 q3 q4 (show s.heap.IsList a us.toArray from pu.isList) (by simp;omega) D λh' e kk ⟨o,ho,hco⟩=>?_;refine wpAny_bind (wpAny_isInstance (T:="StopIteration") (b:=true) ⟨o,ho,hco⟩ isSubtype_stop (wpAny_pure ⟨rfl,?_⟩));refine Inv.turnedL (s:=s) (h':=h') (its:=[z,i1]) (t':=s.toks) I (λb o hb q=>kk b o (λy=>hb (by simp [y])) (λy=>hb (by simp [y])) q) (λb hb=>?_)
  obtain ⟨f0,f1,f2,f3,f4,f5⟩:=hf b (by
   simp only [List.mem_cons,List.not_mem_nil,or_false] at hb;rcases hb with rfl | rfl <;> simp)
  exact ⟨f0,f1,f3,f4,f5⟩
 self:=λA i s Q E ⟨_,_,q1,_⟩ q=>wpAny_pyIter_zip q1 q
noncomputable def DT (K:W.Frag) (ta:TA):TI:=λσ H R=>ta σ H λvs H1=>∃ a b xs ys,vs=[.ref a,.ref b]/\SqL K H1 a xs/\SqT K H1 b ys/\R (Itm K a b xs ys) H1
theorem Dh {c1} (hg:Gl X "zip") (hm:X.mg "zip"=none) (ha:PA X [a,b] ta) (hs:starEach [a,b] X.env=(false,eval a X.env)::starEach [b] X.env:=by rfl) (hpl:(backTo pos (starEach [b] X.env)).any (·.1)=false:=by rfl) :
  PI X (.Tuple elts c1 ps) (.Call (.Name "zip" p) [a,b] [] pos) (DT X.K ta):=by
 intro pins s σ H R I h;refine Call_ (kH I hg hm zV (PyProof.Rows.callWith_type1 (thn (ha pos pins s σ H _ I h) λus s1 ⟨vs,H1,I1,r1,q1⟩=>?_) hs hpl));obtain ⟨t1,t2,xs,ys,ev,hq1,hq2,q⟩:=q1;subst ev
 cases r1 with
 | cons e1 rt =>
  obtain ⟨u2,rfl,e2⟩:=jr rt;cases e1;cases e2;obtain ⟨us,ru,pu,_⟩:=I1.list hq1;obtain ⟨vs,rv,pv,_⟩:=I1.tuple hq2;have lt1:t1 < s1.heap.objs.size:=by obtain ⟨o,e,_⟩:=pu.isList;exact Heap.lt_size e
  have lt2:t2 < s1.heap.objs.size:=pv.lt;refine yr pu.isList pv λh' z1 z2 z3 z4 z5 kk=>?_;refine wpAny_pyIter_zip (s:={ s1 with heap:=h' }) z1 ?_;have ne:∀ {x y:Nat},x < y->x≠y:=λh=>Nat.ne_of_lt h;have gt:∀ {x y:Nat},y < x->x≠y:=λh=>Nat.ne_of_gt h
  have ap:ZipApart (s1.heap.objs.size+4) (s1.heap.objs.size+2) (s1.heap.objs.size+3) s1.heap.objs.size (s1.heap.objs.size+1) t1 t2 :=
   ⟨ne (by omega),ne (by omega),ne (by omega),ne (by omega),ne (by omega),gt (by omega),gt (by omega),gt (by omega),gt (by omega),ne (by omega),ne (Nat.lt_of_lt_of_le lt1 (by omega)),ne (Nat.lt_of_lt_of_le lt1 (by omega)),ne lt1,ne (Nat.lt_of_lt_of_le lt1 (by omega)),
    ne (Nat.lt_of_lt_of_le lt2 (by omega)),ne (Nat.lt_of_lt_of_le lt2 (by omega)),ne lt2,ne (Nat.lt_of_lt_of_le lt2 (by omega))⟩
  refine ⟨s1.heap.objs.size+4,[s1.heap.objs.size+4,s1.heap.objs.size+2,s1.heap.objs.size+3,s1.heap.objs.size,s1.heap.objs.size+1],_,_,H1,rfl,I1.kept (t':=s1.toks) kk,zr t1 t2 _ _ _ _ _ xs ys ap,⟨.none,.none,z1,z2,z3,z4,z5⟩,λb hb=>?_,q⟩
  have lb:s1.heap.objs.size<=b:=by
   simp only [List.mem_cons,List.not_mem_nil,or_false] at hb;rcases hb with rfl | rfl | rfl | rfl | rfl
   ·exact Nat.le_add_right _ _
   ·exact Nat.le_add_right _ _
   ·exact Nat.le_add_right _ _
   ·exact Nat.le_refl _
   ·exact Nat.le_add_right _ _
  exact I1.fpOk lb (I1.hok.fresh lb)
variable {i j:Nat}
theorem mY (σ:St) (ne:i≠j) (a b c d:Option V):((((σ.set i a).set j b).set i c).set j d)=(σ.set i c).set j d:=by rw [List.set_comm _ _ (Ne.symm ne),List.set_set,List.set_set]
theorem Fp {te:TE} {mk:St->St} {cs ds:List D} (h:RA K ta σ H [.tup cs,.tup ds]) (hl:cs.length=ds.length) (hc:cs.length<=1000) (es:List D) (hn:es.length=cs.length) (ne:i≠j)
  (h0:((mk σ).set i none).set j none=mk σ)
  (turn:∀ H1 (k:Nat) c d e v w,Same H H1->cs[k]?=some c->ds[k]?=some d->es[k]?=some e->Dat K H1 c v->Dat K H1 d w->RE K te (((mk σ).set i (some v)).set j (some w)) H1 e) :
  RC K (h8 (CH K ta) mk (sE K 2 (iY (c6 i) (iY (c6 j) uG))) fO te) σ H es:=λH1 s Q q=>by
 refine h H1 s _ λvs H2 s2 q2=>?_;obtain ⟨v1,v2,e,k1,k2⟩:=iJ q2;subst e;obtain ⟨a,us,e1,ha,da⟩:=k1.tupE;obtain ⟨b,ws,e2,hb,db⟩:=k2.tupE;subst e1 e2;have lu:=da.length;have lw:=db.length;refine ⟨a,b,us,ws,rfl,ha,hb,λl hl2=>?_⟩;have s02:Same H H2:=s.trans s2;refine ⟨λn m σ' G=>m=us.length - n/\n<=us.length/\(∃ z1 z2,σ'=((mk σ).set i z1).set j z2)/\Same H2 G/\∃ ys,G l=some (.lst ys)/\Dats K G (es.take n) ys,⟨us.length,by omega,Nat.zero_le _,⟨none,none,h0.symm⟩,aR hl2 _,[],aH,by rw [List.take_zero];exact Dats.nil⟩,?_⟩;rintro n m σ' G ⟨rfl,hle,⟨z1,z2,rfl⟩,sG,ys,hy,dy⟩;by_cases hlt:n < us.length
 ·refine .inr ⟨⟨hlt,by omega,sG.sqT ha,sG.sqT hb⟩,λσ'' G'=>(∃ z1 z2,σ''=((mk σ).set i z1).set j z2)/\Same H2 G'/\∃ ys,G' l=some (.lst ys)/\Dats K G' (es.take (n+1)) ys,λσ'' G' w=>⟨us.length - (n+1),by omega,rfl,hlt,w.1,w.2⟩,λx G' y=>?_⟩;obtain ⟨p,u,w,hp,rfl,hu,hw,rfl⟩:=y;have sn:Same G (upd G p (.tup [u,w])):=aR hp _;have s2n:=sG.trans sn;obtain ⟨c,ec,hcv⟩:=da.getV hu;obtain ⟨d,ed,hdv⟩:=db.getV hw;have hne:n < es.length:=by omega
  refine ⟨p,[u,w],rfl,SqT.of aH,rfl,u,_,rfl,w,_,rfl,rfl,?_⟩;simp only [fO,if_true];rw [mY _ ne];refine RE.use (turn _ n c d es[n] u w (s02.trans s2n) ec ed (List.getElem?_eq_getElem hne) (s2n.dat hcv) (s2n.dat hdv)) λv G4 s4 q4=>?_;have hy4:=s4 _ _ (sn _ _ hy);have lys:ys.length=n:=by rw [<- dy.length,List.length_take];omega
  refine ⟨ys,hy4,bX (by omega),⟨_,_,rfl⟩,λx o hx=>?_,ys++[v],aH,?_⟩
  ·rw [aZ (aM hx hl2)];exact s4 _ _ (s2n _ _ hx)
  ·have g:fE K G4 (upd G4 l (.lst (ys++[v]))):=But.grow (t:=l) (But.upd (Same.refl G4).but) hy4 aH;rw [List.take_add_one,List.getElem?_eq_getElem hne];exact Dats.append (Dats.mono g _ (s4.dats (sn.dats dy))) (Dats.cons (Dat.mono g _ q4) Dats.nil)
 ·have e:n=us.length:=by omega
  subst e;refine .inl ⟨⟨rfl,sG.sqT ha⟩,?_⟩;rw [List.take_of_length_le (by omega)] at dy;exact q l ys G (s2.free hl2) (s2.trans sG) hy dy
section
variable {K:W.Frag} {σ:St} {H:Hp} {tA:TA} {ar:List Ar} {d:D} {R:List Ar->D->Prop} {B:List Ar->Addr->Prop} {E:XK} {Q:VK} {C:Addr}
end
end L2
namespace L2
open PySem PySem.Spec PyProof.Rows
section
variable {X:Cx}
end
section
variable {K:W.Frag} {σ:St} {H H':Hp} {d d':D} {ds es:List D} {t u ta tb te tl:TE} {tA:TA} {mk:St->St} {jj:Nat}
inductive LDs (K:W.Frag) (H:Hp):List (List D)->List V->Prop
 | nil:LDs K H [] []
 | cons {es:List D} {v:V} {ess:List (List D)} {vs:List V}:LD K H es v->LDs K H ess vs->LDs K H (es::ess) (v::vs)
variable {ess:List (List D)} {vs:List V}
theorem LDs.length (h:LDs K H ess vs):ess.length=vs.length:=by
 induction h with
 | nil=>rfl
 | cons _ _ ih=>simp [ih]
theorem LDs.map (h:LDs K H ess vs) (f:∀ es v,LD K H es v->LD K H' es v):LDs K H' ess vs:=by
 induction h with
 | nil=>exact .nil
 | cons h1 _ ih=>exact .cons (f _ _ h1) ih
theorem Same.lds (e:Same H H') (h:LDs K H ess vs):LDs K H' ess vs:=h.map λ_ _ z=>e.ld z
theorem LDs.snoc {es:List D} {v:V} (h:LDs K H ess vs) (h1:LD K H es v):LDs K H (ess++[es]) (vs++[v]):=by
 induction h with
 | nil=>exact .cons h1 .nil
 | cons k _ ih=>exact .cons k ih
theorem LDs.get (h:LDs K H ess vs):∀ {i:Nat} {es:List D},ess[i]?=some es->∃ v,vs[i]?=some v/\LD K H es v:=by
 induction h with
 | nil=>intro i es e;cases e
 | cons k _ ih =>
  intro i es e
  cases i with
  | zero=>cases e;exact ⟨_,rfl,k⟩
  | succ i=>exact ih e
def RCL (K:W.Frag) (t:TE) (σ:St) (H:Hp) (ess:List (List D)):Prop:=∀ H1,Same H H1->∀ Q:VK,(∀ l ys H',H1 l=none->Same H1 H'->H' l=some (.lst ys)->LDs K H' ess ys->Q (.ref l) H')->t σ H1 Q
theorem RCL.use {Q:VK} (h:RCL K t σ H ess) (q:∀ l ys H',H l=none->Same H H'->H' l=some (.lst ys)->LDs K H' ess ys->Q (.ref l) H'):t σ H Q:=h H (Same.refl H) Q q
def Off (K:W.Frag) (H:Hp) (l:Addr) (vs:List V):Prop:=∀ v ∈ vs,v≠.ref l
variable {l:Addr}
theorem LDs.grown {zs zs':List V} (h:LDs K H ess vs) (off:Off K H l vs) (e:But l H H') (h1:H l=some (.lst zs)) (h2:H' l=some (.lst zs')):LDs K H' ess vs:=by
 have g:fE K H H':=e.grow h1 h2
 induction h with
 | nil=>exact .nil
 | cons k _ ih =>refine .cons ?_ (ih λv hv=>off v (List.mem_cons_of_mem _ hv));obtain ⟨a,us,rfl,ha,hd⟩:=k;have na:a≠l:=λz=>off _ List.mem_cons_self (by rw [z]);refine ⟨a,us,rfl,?_,Dats.mono g _ hd⟩;exact ha.elim (λz=>.inl (e _ _ na z)) .inr
theorem oM {k j:Nat} {ys:List V} (hl:H l=some (.lst ys)) (hd:LDs K H ess ys) (h2:RE K tb σ H (.int j)) (e:ess[j]?=some es) (hv:σ[k]?=some (some (.ref l)):=by rfl):RL K (tOp (wU K) (hW k) tb) σ H es:=λH1 s Q q =>
 ⟨_,hv,h2 H1 s _ λw H3 s3 q3=>by
  obtain ⟨v,ev,hx⟩:=((s.trans s3).lds hd).get e;exact ⟨l,ys,j,v,rfl,q3.intE,SqL.of ((s.trans s3) _ _ hl),i0 ev,q _ _ s3 hx⟩⟩
end
end L2
namespace L2
open PySem PySem.Spec PySem.Calls PyProof.Rows
variable {K:W.Frag} {σ:St} {H:Hp} {ta:TA} {te:TE} {mk:St->St} {i j:Nat} {cs ds:List D}
theorem Do (h:RA K ta σ H [.tup cs,.tup ds]) (hl:cs.length=ds.length) (hc:cs.length<=1000) (ess:List (List D)) (hn:ess.length=cs.length) (ne:i≠j)
  (h0:((mk σ).set i none).set j none=mk σ)
  (turn:∀ H1 (k:Nat) c d es v w,Same H H1->cs[k]?=some c->ds[k]?=some d->ess[k]?=some es->Dat K H1 c v->Dat K H1 d w->RC K te (((mk σ).set i (some v)).set j (some w)) H1 es) :
  RCL K (h8 (CH K ta) mk (sE K 2 (iY (c6 i) (iY (c6 j) uG))) fO te) σ H ess:=λH1 s Q q=>by
 refine h H1 s _ λvs H2 s2 q2=>?_;obtain ⟨v1,v2,e,k1,k2⟩:=iJ q2;subst e;obtain ⟨a,us,e1,ha,da⟩:=k1.tupE;obtain ⟨b,ws,e2,hb,db⟩:=k2.tupE;subst e1 e2;have lu:=da.length;have lw:=db.length;refine ⟨a,b,us,ws,rfl,ha,hb,λl hl2=>?_⟩;have s02:Same H H2:=s.trans s2;refine ⟨λn m σ' G=>m=us.length - n/\n<=us.length/\(∃ z1 z2,σ'=((mk σ).set i z1).set j z2)/\Same H2 G/\∃ ys,G l=some (.lst ys)/\LDs K G (ess.take n) ys/\Off K G l ys,⟨us.length,by omega,Nat.zero_le _,⟨none,none,h0.symm⟩,aR hl2 _,[],aH,by rw [List.take_zero];exact .nil,λv hv=>by cases hv⟩,?_⟩;rintro n m σ' G ⟨rfl,hle,⟨z1,z2,rfl⟩,sG,ys,hy,dy,off⟩;by_cases hlt:n < us.length
 ·refine .inr ⟨⟨hlt,by omega,sG.sqT ha,sG.sqT hb⟩,λσ'' G'=>(∃ z1 z2,σ''=((mk σ).set i z1).set j z2)/\Same H2 G'/\∃ ys,G' l=some (.lst ys)/\LDs K G' (ess.take (n+1)) ys/\Off K G' l ys,λσ'' G' w=>⟨us.length - (n+1),by omega,rfl,hlt,w.1,w.2⟩,λx G' y=>?_⟩;obtain ⟨p,u,w,hp,rfl,hu,hw,rfl⟩:=y;have sn:Same G (upd G p (.tup [u,w])):=aR hp _;have s2n:=sG.trans sn;obtain ⟨c,ec,hcv⟩:=da.getV hu;obtain ⟨d,ed,hdv⟩:=db.getV hw;have hne:n < ess.length:=by omega
  refine ⟨p,[u,w],rfl,SqT.of aH,rfl,u,_,rfl,w,_,rfl,rfl,?_⟩;simp only [fO,if_true];rw [mY _ ne];refine RC.use (turn _ n c d ess[n] u w (s02.trans s2n) ec ed (List.getElem?_eq_getElem hne) (s2n.dat hcv) (s2n.dat hdv)) λr zs G4 hr s4 hz dz=>?_;have hy4:=s4 _ _ (sn _ _ hy);have nrl:r≠l:=λz=>by rw [z,sn _ _ hy] at hr;cases hr
  have lys:ys.length=n:=by rw [<- dy.length,List.length_take];omega
  refine ⟨ys,hy4,bX (by omega),⟨_,_,rfl⟩,λx o hx=>?_,ys++[.ref r],aH,?_,?_⟩
  ·rw [aZ (aM hx hl2)];exact s4 _ _ (s2n _ _ hx)
  ·have bl:But l G4 (upd G4 l (.lst (ys++[.ref r]))):=But.upd (Same.refl G4).but;have g:fE K G4 (upd G4 l (.lst (ys++[.ref r]))):=bl.grow hy4 aH;rw [List.take_add_one,List.getElem?_eq_getElem hne];exact LDs.snoc (LDs.grown (s4.lds (sn.lds dy)) off bl hy4 aH) (LD.of (bl _ _ nrl hz) (Dats.mono g _ dz))
  ·intro v hv;rcases List.mem_append.mp hv with hv | hv
   ·exact off v hv
   ·rw [List.mem_singleton.mp hv];exact λz=>nrl (by injection z)
 ·have e:n=us.length:=by omega
  subst e;refine .inl ⟨⟨rfl,sG.sqT ha⟩,?_⟩;rw [List.take_of_length_le (by omega)] at dy;exact q l ys G (s2.free hl2) (s2.trans sG) hy dy
theorem ye {tl:TE} {tt:TT} {jj:Nat} (h:RL K tl σ H cs) (hc:cs.length<=1000) (p:D->Bool) (h0:(mk σ).set jj none=mk σ)
  (turn:∀ H1 (i:Nat) c v,Same H H1->cs[i]?=some c->Dat K H1 c v->RT tt ((mk σ).set jj (some v)) H1 (p c)/\RE K te ((mk σ).set jj (some v)) H1 c):RC K (h8 (rh K tl) mk (c6 jj) tt te) σ H (cs.filter p):=λH1 s Q q=>by
 refine (h.mono s).use λv4 H4 s4 q4=>?_;obtain ⟨l4,ys4,rfl,hy4,hd4⟩:=q4;have ll:=hd4.length;refine ⟨l4,rfl,⟨ys4,hy4.sqL⟩,λl hl=>?_⟩;refine kC (J:=Itl K l4) (n:=ys4.length) (item:=λi=>ys4.getD i .non) (λG=>SqL K G l4 ys4) (λi G o hi=>pd i G o hi) (λG o=>⟨ys4,o,Nat.le_refl _⟩) h0 l (λi G=>Same H4 G/\∃ zs,G l=some (.lst zs)/\Dats K G ((cs.take i).filter p) zs) ⟨aR hl _,[],aH,by rw [List.take_zero];exact Dats.nil⟩ (λi G _ w=>w.1.seq hy4.sqL) (λi G hi w=>?_) (λG w=>?_)
 ·obtain ⟨sG,zs,hz,dz⟩:=w;have hic:i < cs.length:=by omega
  obtain ⟨vz,ez,hv⟩:=(sG.dats hd4).get (List.getElem?_eq_getElem hic);have e1:ys4.getD i .non=vz:=by rw [List.getD_eq_getElem?_getD,ez];rfl
  simp only [e1];obtain ⟨t1,t2⟩:=turn G i cs[i] vz (s.trans (s4.trans sG)) (List.getElem?_eq_getElem hic) hv;have et:cs.take (i+1)=cs.take i++[cs[i]]:=by rw [List.take_add_one,List.getElem?_eq_getElem hic];rfl
  have lz:zs.length<=1000:=by rw [<- dz.length];exact Nat.le_trans (List.length_filter_le _ _) (by rw [List.length_take];omega)
  have lz':zs.length < 1000:=by rw [<- dz.length];exact Nat.lt_of_le_of_lt (List.length_filter_le _ _) (by rw [List.length_take];omega)
  refine t1.use λG2 s2=>?_
  cases hp:p cs[i] with
  | true =>
   refine jv ((t2.mono s2).use λv3 G3 s3 q3=>?_);have hz3:=(s2.trans s3) _ _ hz;have bl:But l G3 (upd G3 l (.lst (zs++[v3]))):=But.upd (Same.refl G3).but;have g:fE K G3 (upd G3 l (.lst (zs++[v3]))):=bl.grow hz3 aH;refine ⟨zs,hz3,bX (by omega),⟨_,rfl⟩,λx o hx=>?_,zs++[v3],aH,?_⟩
   ·rw [aZ (aM hx hl)];exact (s2.trans s3) _ _ (sG _ _ hx)
   ·rw [et,List.filter_append];have e2:[cs[i]].filter p=[cs[i]]:=by rw [List.filter_cons,if_pos hp];rfl
    rw [e2];exact Dats.append (Dats.mono g _ ((s2.trans s3).dats dz)) (Dats.cons (Dat.mono g _ q3) Dats.nil)
  | false =>
   refine jN ⟨⟨_,rfl⟩,sG.trans s2,zs,s2 _ _ hz,?_⟩;rw [et,List.filter_append];have e2:[cs[i]].filter p=[]:=by rw [List.filter_cons,if_neg (by rw [hp];exact Bool.false_ne_true)];rfl
   rw [e2,List.append_nil];exact s2.dats dz
 ·obtain ⟨sG,zs,hz,dz⟩:=w;rw [<- ll,List.take_length] at dz;exact q l zs G (s4.free hl) (s4.trans sG) hz dz
variable {X:Cx} {es:List Expr} {t:TGs} {n:Nat} {pos:Pos}
theorem mJ {k:Nat} (hK:X.K=K) (hc:X.calm=true) (h:PGs X es t)
  (hn:(assignEach es X.env).length=n:=by rfl) (hst:(assignEach es X.env).findIdx? (·.1)=none:=by rfl):PG X (.Tuple es k pos) (sE K n t):=by
 subst hK;exact gO hc h hn hst
def OD (K:W.Frag) (H:Hp):Option (List D)->V->Prop
 | none,v=>v=.non
 | some es,v=>LD K H es v
inductive LOs (K:W.Frag) (H:Hp):List (Option (List D))->List V->Prop
 | nil:LOs K H [] []
 | cons {o:Option (List D)} {v:V} {os:List (Option (List D))} {vs:List V}:OD K H o v->LOs K H os vs->LOs K H (o::os) (v::vs)
section
variable {K:W.Frag} {σ:St} {H H':Hp} {d d':D} {ds es:List D} {t u ta tb te tl:TE} {tA:TA} {mk:St->St} {jj:Nat} {o:Option (List D)} {os:List (Option (List D))} {vs:List V} {ar:List Ar}
variable {v:V}
theorem Same.od (e:Same H H') (h:OD K H o v):OD K H' o v:=by
 cases o with
 | none=>exact h
 | some es=>exact e.ld h
theorem LOs.length (h:LOs K H os vs):os.length=vs.length:=by
 induction h with
 | nil=>rfl
 | cons _ _ ih=>simp [ih]
theorem Same.los (e:Same H H') (h:LOs K H os vs):LOs K H' os vs:=by
 induction h with
 | nil=>exact .nil
 | cons k _ ih=>exact .cons (e.od k) ih
theorem LOs.snoc (h:LOs K H os vs) (h1:OD K H o v):LOs K H (os++[o]) (vs++[v]):=by
 induction h with
 | nil=>exact .cons h1 .nil
 | cons k _ ih=>exact .cons k ih
variable {l:Addr}
theorem LOs.grown {zs zs':List V} (h:LOs K H os vs) (off:Off K H l vs) (e:But l H H') (h1:H l=some (.lst zs)) (h2:H' l=some (.lst zs')):LOs K H' os vs:=by
 have g:fE K H H':=e.grow h1 h2
 induction h with
 | nil=>exact .nil
 | @cons o v os vs k _ ih =>
  refine .cons ?_ (ih λv hv=>off v (List.mem_cons_of_mem _ hv))
  cases o with
  | none=>exact k
  | some es =>obtain ⟨a,us,rfl,ha,hd⟩:=k;have na:a≠l:=λz=>off _ List.mem_cons_self (by rw [z]);exact ⟨a,us,rfl,ha.elim (λz=>.inl (e _ _ na z)) .inr,Dats.mono g _ hd⟩
theorem LOs.all:∀ {ess:List (List D)} {vs:List V},LOs K H (ess.map some) vs->LDs K H ess vs
 | [],_,h=>by cases h;exact .nil
 | es::ess,_,h=>by
  cases h with
  | cons k r=>exact .cons k (LOs.all r)
theorem LOs.lst (h:LOs K H os vs):(∀ v ∈ vs,v=.non\/∃ a us,v=.ref a/\SqL K H a us)/\(vs.any λv=>decide (v=.non))=os.any Option.isNone:=by
 induction h with
 | nil=>exact ⟨(λv hv=>by cases hv),rfl⟩
 | @cons o v os vs k _ ih =>
  refine ⟨λx hx=>?_,?_⟩
  ·rcases List.mem_cons.mp hx with rfl | hx
   ·cases o with
    | none=>exact .inl k
    | some es=>obtain ⟨a,us,e,h1,_⟩:=k;exact .inr ⟨a,us,e,h1.sqL⟩
   ·exact ih.1 x hx
  ·rw [List.any_cons,List.any_cons,ih.2]
   cases o with
   | none=>rw [show v=.non from k];rfl
   | some es=>obtain ⟨a,us,e,_⟩:=k;rw [e];rfl
def RO (K:W.Frag) (t:TE) (σ:St) (H:Hp) (o:Option (List D)):Prop:=∀ H1,Same H H1->∀ Q:VK,(o=none->∀ H',Same H1 H'->Q .non H')->(∀ es,o=some es->∀ l ys H',H1 l=none->Same H1 H'->H' l=some (.lst ys)->Dats K H' es ys->Q (.ref l) H')->t σ H1 Q
def zm (K:W.Frag) (R:List Ar->Option (List D)->Prop):Sp:=λvs H Q _=>∃ as o,Ars K H as vs/\R as o/\(o=none->∀ H',Same H H'->Q .non H')/\∀ es,o=some es->∀ r us H',Same H H'->H' r=some (.lst us)->H r=none->Dats K H' es us->Q (.ref r) H'
theorem kQ {R:List Ar->Option (List D)->Prop} {E:XK} (h:RB K tA σ H ar) (e:R ar o):RO K (jU (zm K R) [] E tA) σ H o:=λH1 s Q q0 q1 =>
 h H1 s _ λvs H2 s2 q2=>⟨ar,o,by rw [List.append_nil];exact q2,e,λz H3 s3=>q0 z H3 (s2.trans s3),λes z r us H3 s3 hr hr0 hd=>q1 es z r us H3 (s2.free hr0) (s2.trans s3) hr hd⟩
def RCO (K:W.Frag) (t:TE) (σ:St) (H:Hp) (os:List (Option (List D))):Prop:=∀ H1,Same H H1->∀ Q:VK,(∀ l ys H',H1 l=none->Same H1 H'->H' l=some (.lst ys)->LOs K H' os ys->Q (.ref l) H')->t σ H1 Q
theorem RCO.use {Q:VK} (h:RCO K t σ H os) (q:∀ l ys H',H l=none->Same H H'->H' l=some (.lst ys)->LOs K H' os ys->Q (.ref l) H'):t σ H Q:=h H (Same.refl H) Q q
noncomputable def D0 (K:W.Frag):R2:=λx y H Q=>∃ p xs,x=.non/\y=.ref p/\SqL K H p xs/\(∀ v ∈ xs,v=.non\/∃ a vs,v=.ref a/\SqL K H a vs)/\Q (.bl (xs.any λv=>decide (v=.non))) H
noncomputable def mC:Value->Bool
 | .none=>true
 | _=>false
theorem xY {X:Cx} {k:Nat} (hr:Room k X.A):OpR X (compareOp .In) (D0 X.K):=by
 intro pins s σ H x y v u Q I rx ry h;obtain ⟨p,xs,rfl,rfl,hq,hls,q⟩:=h;cases ry;cases rx;obtain ⟨its,r,pl,hz⟩:=I.list hq;have hu:X.A.in1.units < cLine:=by have:=hr.un;show X.A.units+1 < cLine;omega
 have each:∀ (zs:List V) (ws:List Value),Vals zs ws->(∀ v ∈ zs,v=.non\/∃ a vs,v=.ref a/\SqL X.K H a vs)->(∀ w ∈ ws,SeqAt.EqAt X.A.in1 s w .none (mC w))/\ws.any mC=zs.any λv=>decide (v=.non):=by
  intro zs ws rr
  induction rr with
  | nil=>intro _;exact ⟨(λw hw=>by cases hw),rfl⟩
  | cons r1 _ ih =>
   intro hv;have ih:=ih λv h=>hv v (List.mem_cons_of_mem _ h);rcases hv _ List.mem_cons_self with rfl | ⟨a,vs,rfl,hs⟩
   ·cases r1;refine ⟨λw hw=>?_,by rw [List.any_cons,List.any_cons,ih.2];rfl⟩;rcases List.mem_cons.mp hw with rfl | hw
    ·exact SeqAt.EqAt.same _
    ·exact ih.1 w hw
   ·obtain ⟨js,_,pj,_⟩:=I.list hs;cases r1;refine ⟨λw hw=>?_,by rw [List.any_cons,List.any_cons,ih.2];rfl⟩;rcases List.mem_cons.mp hw with rfl | hw
    ·exact SeqAt.EqAt.list_none pj.isList hu
    ·exact ih.1 w hw
 have ea:=each xs its r hls;refine SeqAt.in_listAt mC pl.isList (λw hw=>ea.1 w (by simpa using hw)) ⟨.bl _,H,I,rfl,?_⟩;rw [show its.toArray.any mC=its.any mC by simp,ea.2];exact q
theorem yf {k:Nat} {ys:List V} (hl:H l=some (.lst ys)) (hd:LOs K H os ys) (hv:σ[k]?=some (some (.ref l)):=by rfl):RE K (tOp (D0 K) (tC .non) (hW k)) σ H (.bl (os.any Option.isNone)):=λH1 s Q q=>by have z:=(s.los hd).lst;exact ⟨_,hv,l,ys,rfl,rfl,SqL.of (s _ _ hl),z.1,by rw [z.2];exact q _ _ (Same.refl _) (Dat.blI _)⟩
theorem k8:∀ {os:List (Option (List D))},os.any Option.isNone=false->∃ ess:List (List D),os=ess.map some
 | [],_=>⟨[],rfl⟩
 | none::os,h=>by cases h
 | some es::os,h=>by rw [List.any_cons] at h;obtain ⟨ess,e⟩:=k8 (os:=os) (by simpa using h);exact ⟨es::ess,by rw [e];rfl⟩
theorem Dz {En:ko} {G:Hp} {j:Nat} {xs:List V} (h:RC K te σ G es) (hl:G l=some (.lst xs)) (hx:xs.length+es.length<=1000)
  (q:∀ ys G',But l G G'->G' l=some (.lst (xs++ys))->Dats K G' es ys->En.nx σ G') (hv:σ[j]?=some (some (.ref l)):=by rfl):qt (tBM K "list" yb (hW j) (cE te eG)) En σ G:=by
 refine ⟨_,hv,.inl ⟨rfl,_,SqL.of hl⟩,h.use λp vs H1 hp s1 hv1 q1=>?_⟩;have hl1:=s1 _ _ hl;have lv:=q1.length;refine ⟨l,p,xs,vs,rfl,rfl,hl1,hv1,cW (by omega),?_⟩;have b:But l H1 (upd H1 l (.lst (xs++vs))):=But.upd (Same.refl _).but;exact q vs _ (s1.but.trans b) aH (Dats.mono (b.grow hl1 aH) _ q1)
end
theorem Cz {K:PySem.W.Frag} {a b:Addr} {xs ys:List V} {g:TG} {tb:TS} {D:ko} (Pv:Nat->St->Hp->Prop) (ll:xs.length=ys.length) (h0:Pv 0 σ H) (hl:∀ i σ H,i<=xs.length->Pv i σ H->SqT K H a xs/\SqT K H b ys)
  (hs:∀ i u v p σ H,xs[i]?=some u->ys[i]?=some v->H p=none->Pv i σ H->g (.ref p) σ (upd H p (.tup [u,v])) λσ2 H2=>tb { D with nx:=Pv (i+1),ct:=Pv (i+1),bk:=D.nx } σ2 H2) (hd:∀ σ H,Pv xs.length σ H->D.nx σ H) :
  ∃ W:Nat->Nat->St->Hp->Prop,(∃ m,W 0 m σ H)/\∀ i m σ H,W i m σ H ->
   ((Itz K a b xs ys).stop i H/\D.nx σ H)\/((Itz K a b xs ys).go i H/\∃ N:St->Hp->Prop,(∀ σ' H',N σ' H'->∃ m',m' < m/\W (i+1) m' σ' H')/\∀ x H',(Itz K a b xs ys).yld i H x H'->g x σ H' λσ2 H2=>tb { D with nx:=N,ct:=N,bk:=D.nx } σ2 H2):=by
 refine ⟨λi m σ H=>m=xs.length - i/\i<=xs.length/\Pv i σ H,⟨xs.length,by simp,Nat.zero_le _,h0⟩,?_⟩;rintro i m σ H ⟨rfl,hi,p⟩;have q:=hl i σ H hi p;by_cases hlt:i < xs.length
 ·refine .inr ⟨⟨hlt,by omega,q.1,q.2⟩,Pv (i+1),λσ' H' p'=>⟨xs.length - (i+1),by omega,rfl,hlt,p'⟩,λx H' y=>?_⟩;obtain ⟨r,u,v,hr,rfl,hu,hv,rfl⟩:=y;exact hs i u v r σ H hu hv hr p
 ·have e:i=xs.length:=by omega
  subst e;exact .inl ⟨⟨rfl,q.1⟩,hd σ H p⟩
noncomputable def FS (K:W.Frag) (n:Nat) (t:TGs):TG:=λv σ H Q=>∃ a xs,v=.ref a/\SqL K H a xs/\xs.length=n/\t xs σ H Q
theorem Dg {k:Nat} (hc:X.calm=true) (h:PGs X es t)
  (hn:(assignEach es X.env).length=n:=by rfl) (hst:(assignEach es X.env).findIdx? (·.1)=none:=by rfl):PG X (.Tuple es k pos) (FS X.K n t):=λpins s σ H v u Q I r ⟨a,xs,ev,hq,hl,hw⟩=>by
 subst ev;cases r;obtain ⟨its,rv,pl,hz⟩:=I.list hq;have en:(assignEach es X.env).length=its.toArray.size:=by rw [hn,<- hl,rv.length,List.size_toArray]
 rw [assign_Tuple];refine wpAny_bind (wpAny_standAt ?_);unfold unpack;rw [en,hst];refine wpAny_bind (wpAny_holding (W.kun_itemsOf (I.ok.hd hc) pl.isList λh' hx=>?_));exact h pins _ σ H xs _ Q (I.kept (t':=s.toks) λb o e=>hx b o (Nat.ne_of_lt (Heap.lt_size e)) e) (by simpa using rv) hw
theorem Dp (h:RA K ta σ H [.tup cs,.tup ds]) (hl:cs.length=ds.length) (hc:cs.length<=1000) (os:List (Option (List D))) (hn:os.length=cs.length) (ne:i≠j)
  (h0:((mk σ).set i none).set j none=mk σ)
  (turn:∀ H1 (k:Nat) c d o v w,Same H H1->cs[k]?=some c->ds[k]?=some d->os[k]?=some o->Dat K H1 c v->Dat K H1 d w->RO K te (((mk σ).set i (some v)).set j (some w)) H1 o) :
  RCO K (h8 (CH K ta) mk (sE K 2 (iY (c6 i) (iY (c6 j) uG))) fO te) σ H os:=λH1 s Q q=>by
 refine h H1 s _ λvs H2 s2 q2=>?_;obtain ⟨v1,v2,e,k1,k2⟩:=iJ q2;subst e;obtain ⟨a,us,e1,ha,da⟩:=k1.tupE;obtain ⟨b,ws,e2,hb,db⟩:=k2.tupE;subst e1 e2;have lu:=da.length;have lw:=db.length;refine ⟨a,b,us,ws,rfl,ha,hb,λl hl2=>?_⟩;have s02:Same H H2:=s.trans s2;refine ⟨λn m σ' G=>m=us.length - n/\n<=us.length/\(∃ z1 z2,σ'=((mk σ).set i z1).set j z2)/\Same H2 G/\∃ ys,G l=some (.lst ys)/\LOs K G (os.take n) ys/\Off K G l ys,⟨us.length,by omega,Nat.zero_le _,⟨none,none,h0.symm⟩,aR hl2 _,[],aH,by rw [List.take_zero];exact .nil,λv hv=>by cases hv⟩,?_⟩;rintro n m σ' G ⟨rfl,hle,⟨z1,z2,rfl⟩,sG,ys,hy,dy,off⟩;by_cases hlt:n < us.length
 ·refine .inr ⟨⟨hlt,by omega,sG.sqT ha,sG.sqT hb⟩,λσ'' G'=>(∃ z1 z2,σ''=((mk σ).set i z1).set j z2)/\Same H2 G'/\∃ ys,G' l=some (.lst ys)/\LOs K G' (os.take (n+1)) ys/\Off K G' l ys,λσ'' G' w=>⟨us.length - (n+1),by omega,rfl,hlt,w.1,w.2⟩,λx G' y=>?_⟩;obtain ⟨p,u,w,hp,rfl,hu,hw,rfl⟩:=y;have sn:Same G (upd G p (.tup [u,w])):=aR hp _;have s2n:=sG.trans sn;obtain ⟨c,ec,hcv⟩:=da.getV hu;obtain ⟨d,ed,hdv⟩:=db.getV hw;have hne:n < os.length:=by omega
  refine ⟨p,[u,w],rfl,SqT.of aH,rfl,u,_,rfl,w,_,rfl,rfl,?_⟩;simp only [fO,if_true];rw [mY _ ne];have lys:ys.length=n:=by rw [<- dy.length,List.length_take];omega
  have fin:∀ (v:V) (G4:Hp),Same (upd G p (.tup [u,w])) G4->v≠.ref l->(∀ G5,But l G4 G5->(∃ zs,G5 l=some (.lst zs))->OD K G5 os[n] v)->∃ ys,G4 l=some (.lst ys)/\ys.length < sizeLine/\(∃ z1 z2,((mk σ).set i (some u)).set j (some w)=((mk σ).set i z1).set j z2)/\Same H2 (upd G4 l (.lst (ys++[v])))/\∃ ys',upd G4 l (.lst (ys++[v])) l=some (.lst ys')/\LOs K (upd G4 l (.lst (ys++[v]))) (os.take (n+1)) ys'/\Off K (upd G4 l (.lst (ys++[v]))) l ys':=λv G4 s4 nv od=>by
   have hy4:=s4 _ _ (sn _ _ hy);have bl:But l G4 (upd G4 l (.lst (ys++[v]))):=But.upd (Same.refl G4).but;refine ⟨ys,hy4,bX (by omega),⟨_,_,rfl⟩,λx o hx=>?_,ys++[v],aH,?_,?_⟩
   ·rw [aZ (aM hx hl2)];exact s4 _ _ (s2n _ _ hx)
   ·rw [List.take_add_one,List.getElem?_eq_getElem hne];exact LOs.snoc (LOs.grown (s4.los (sn.los dy)) off bl hy4 aH) (od _ bl ⟨_,aH⟩)
   ·intro x hx;rcases List.mem_append.mp hx with hx | hx
    ·exact off x hx
    ·rw [List.mem_singleton.mp hx];exact nv
  refine turn _ n c d os[n] u w (s02.trans s2n) ec ed (List.getElem?_eq_getElem hne) (s2n.dat hcv) (s2n.dat hdv) _ (Same.refl _) _ (λeo G4 s4=>?_) (λes eo r zs G4 hr s4 hz dz=>?_)
  ·exact fin .non G4 s4 (by intro z;cases z) λG5 _ _=>by rw [eo];rfl
  ·have nrl:r≠l:=λz=>by rw [z,sn _ _ hy] at hr;cases hr
   refine fin (.ref r) G4 s4 (λz=>nrl (by injection z)) λG5 b5 ⟨z5,h5⟩=>?_;rw [eo];exact LD.of (b5 _ _ nrl hz) (Dats.mono (b5.grow (s4 _ _ (sn _ _ hy)) h5) _ dz)
 ·have e:n=us.length:=by omega
  subst e;refine .inl ⟨⟨rfl,sG.sqT ha⟩,?_⟩;rw [List.take_of_length_le (by omega)] at dy;exact q l ys G (s2.free hl2) (s2.trans sG) hy dy
theorem Bq (h:RB K ta σ H [.l cs,.d (.tup ds)]) (hl:cs.length=ds.length) (hc:cs.length<=1000) (os:List (Option (List D))) (hn:os.length=cs.length) (ne:i≠j)
  (h0:((mk σ).set i none).set j none=mk σ)
  (turn:∀ H1 (k:Nat) c d o v w,Same H H1->cs[k]?=some c->ds[k]?=some d->os[k]?=some o->Dat K H1 c v->Dat K H1 d w->RO K te (((mk σ).set i (some v)).set j (some w)) H1 o) :
  RCO K (h8 (DT K ta) mk (sE K 2 (iY (c6 i) (iY (c6 j) uG))) fO te) σ H os:=λH1 s Q q=>by
 refine h H1 s _ λvs H2 s2 q2=>?_;obtain ⟨v1,v2,e,k1,k2⟩:=zM q2;subst e;obtain ⟨a,us,e1,ha,da⟩:=k1;obtain ⟨b,ws,e2,hb,db⟩:=Dat.tupE k2;subst e1 e2;have lu:=da.length;have lw:=db.length;refine ⟨a,b,us,ws,rfl,ha.sqL,hb,λl hl2=>?_⟩;have s02:Same H H2:=s.trans s2;refine ⟨λn m σ' G=>m=us.length - n/\n<=us.length/\(∃ z1 z2,σ'=((mk σ).set i z1).set j z2)/\Same H2 G/\∃ ys,G l=some (.lst ys)/\LOs K G (os.take n) ys/\Off K G l ys,⟨us.length,by omega,Nat.zero_le _,⟨none,none,h0.symm⟩,aR hl2 _,[],aH,by rw [List.take_zero];exact .nil,λv hv=>by cases hv⟩,?_⟩;rintro n m σ' G ⟨rfl,hle,⟨z1,z2,rfl⟩,sG,ys,hy,dy,off⟩;by_cases hlt:n < us.length
 ·refine .inr ⟨⟨hlt,by omega,(sG.aLst ha).sqL,sG.sqT hb⟩,λσ'' G'=>(∃ z1 z2,σ''=((mk σ).set i z1).set j z2)/\Same H2 G'/\∃ ys,G' l=some (.lst ys)/\LOs K G' (os.take (n+1)) ys/\Off K G' l ys,λσ'' G' w=>⟨us.length - (n+1),by omega,rfl,hlt,w.1,w.2⟩,λx G' y=>?_⟩;obtain ⟨p,u,w,hp,rfl,hu,hw,rfl⟩:=y;have sn:Same G (upd G p (.tup [u,w])):=aR hp _;have s2n:=sG.trans sn;obtain ⟨c,ec,hcv⟩:=da.getV hu;obtain ⟨d,ed,hdv⟩:=db.getV hw;have hne:n < os.length:=by omega
  refine ⟨p,[u,w],rfl,SqT.of aH,rfl,u,_,rfl,w,_,rfl,rfl,?_⟩;simp only [fO,if_true];rw [mY _ ne];have lys:ys.length=n:=by rw [<- dy.length,List.length_take];omega
  have fin:∀ (v:V) (G4:Hp),Same (upd G p (.tup [u,w])) G4->v≠.ref l->(∀ G5,But l G4 G5->(∃ zs,G5 l=some (.lst zs))->OD K G5 os[n] v)->∃ ys,G4 l=some (.lst ys)/\ys.length < sizeLine/\(∃ z1 z2,((mk σ).set i (some u)).set j (some w)=((mk σ).set i z1).set j z2)/\Same H2 (upd G4 l (.lst (ys++[v])))/\∃ ys',upd G4 l (.lst (ys++[v])) l=some (.lst ys')/\LOs K (upd G4 l (.lst (ys++[v]))) (os.take (n+1)) ys'/\Off K (upd G4 l (.lst (ys++[v]))) l ys':=λv G4 s4 nv od=>by
   have hy4:=s4 _ _ (sn _ _ hy);have bl:But l G4 (upd G4 l (.lst (ys++[v]))):=But.upd (Same.refl G4).but;refine ⟨ys,hy4,bX (by omega),⟨_,_,rfl⟩,λx o hx=>?_,ys++[v],aH,?_,?_⟩
   ·rw [aZ (aM hx hl2)];exact s4 _ _ (s2n _ _ hx)
   ·rw [List.take_add_one,List.getElem?_eq_getElem hne];exact LOs.snoc (LOs.grown (s4.los (sn.los dy)) off bl hy4 aH) (od _ bl ⟨_,aH⟩)
   ·intro x hx;rcases List.mem_append.mp hx with hx | hx
    ·exact off x hx
    ·rw [List.mem_singleton.mp hx];exact nv
  refine turn _ n c d os[n] u w (s02.trans s2n) ec ed (List.getElem?_eq_getElem hne) (s2n.dat hcv) (s2n.dat hdv) _ (Same.refl _) _ (λeo G4 s4=>?_) (λes eo r zs G4 hr s4 hz dz=>?_)
  ·exact fin .non G4 s4 (by intro z;cases z) λG5 _ _=>by rw [eo];rfl
  ·have nrl:r≠l:=λz=>by rw [z,sn _ _ hy] at hr;cases hr
   refine fin (.ref r) G4 s4 (λz=>nrl (by injection z)) λG5 b5 ⟨z5,h5⟩=>?_;rw [eo];exact LD.of (b5 _ _ nrl hz) (Dats.mono (b5.grow (s4 _ _ (sn _ _ hy)) h5) _ dz)
 ·have e:n=us.length:=by omega
  subst e;refine .inl ⟨⟨rfl,(sG.aLst ha).sqL⟩,?_⟩;rw [List.take_of_length_le (by omega)] at dy;exact q l ys G (s2.free hl2) (s2.trans sG) hy dy
section
variable {prog:Program} {w:World} {A:Around} {E:Value->Shared->Prop} {s:Shared}
end
section
variable {K:W.Frag} {σ:St} {H H':Hp} {d:D} {ds es:List D} {t u ta tb te:TE} {n:Nat}
end
end L2
namespace L2
open PySem
end L2
namespace L2
open PySem PySem.Spec PySem.Calls PyProof.Rows PySem.W PySem.Builtin PySem.Builtin.ObjectAttr
section
variable {X:Cx} {pins:List (Addr × Obj)} {σ:St} {H:Hp} {s s':Shared} {E:XK} {e:Value}
end
section
variable {H:Hp} {e C dx b:Addr} {a0:Value} {f:Str} {v:V}
end
section
variable {X:Cx} {pins:List (Addr × Obj)} {σ:St} {H:Hp} {s s':Shared} {C fI e dx:Addr} {fd:FuncData} {k:Nat} {ps:List Str} {a0:Value} {f:Str} {v:V}
end
theorem Dm {K:W.Frag} {σ:St} {H:Hp} {t ta tb:TE} {ds:List D} {lo hi:Nat} (h:RL K t σ H ds) (h1:RE K ta σ H (.int lo)) (h2:RE K tb σ H (.int hi)):RC K (tSl (Gb K) t (rS ta) (rS tb)) σ H ((ds.drop lo).take (hi - lo)):=λH1 s Q q =>
 h H1 s _ λv H2 s2 q2=>h1 H2 (s.trans s2) _ λv3 H3 s3 q3=>⟨lo,q3.intE,h2 H3 (s.trans (s2.trans s3)) _ λv4 H4 s4 q4=>⟨hi,q4.intE,by
  obtain ⟨a,vs,rfl,hq,hds⟩:=(s3.trans s4).ld q2;refine ⟨a,vs,rfl,hq.sqL,λp hp=>?_⟩;rw [xA];exact q p _ _ ((s2.trans (s3.trans s4)).free hp) (s2.trans (s3.trans (s4.trans (aR hp _)))) aH ((aR hp _).dats (Dats.takeN (Dats.dropN hds)))⟩⟩
section
variable {K:W.Frag} {σ:St} {H:Hp} {tA:TA} {ar:List Ar} {d:D} {f:Str} {es:List D} {R:List Ar->D->Prop} {RL:List Ar->List D->Prop} {B:List Ar->Addr->Int->Prop} {E:XK} {Q:VK} {C:Addr} {i:Int}
end
end L2
namespace L2
open PySem PySem.Spec PySem.Calls PyProof.Rows
section
variable {prog:Program} {w:World} {A:Around} {E:Value->Shared->Prop} {s:Shared} {it t:Addr} {items:Array Value}
end
section
variable {X:Cx} {tg:Expr}
end
section
variable {X:Cx} {pins:List (Addr × Obj)} {σ:St} {H:Hp} {a:Addr} {cls C:Value} {dx:Option Addr} {s:Shared} {D:ko} {x n:Str} {i:Nat} {np hpos:Pos} {b₀:Stmt} {suite:List Stmt} {rest:List ExceptHandler} {th:TS} {b:Bool}
end
noncomputable abbrev nX (t:Addr):Obj:={ cls:=.type "list_iterator",data:=.fields #[.ref t,.int 0 0] }
theorem yy (t:Addr) (items:Array Value) (n:Nat) (d2:Option Addr) (s2:Array (Option Value)) :
  Meets (Builtin.«enumerate.__new__» ⟨[.type "enumerate",.ref t],[]⟩) (λ_ R s=>s.heap.get? t=some { cls:=.type "list",dict:=d2,data:=.seq items n,slots:=s2 } /\
   R (.ok (.ret (.ref (s.heap.push (nX t)).objs.size))) { s with heap:=(s.heap.push (nX t)).push (ra s.heap.objs.size) }) :=
 .of_wp λ_ _ _ _ s q=>by
  obtain ⟨h0,g0,d0,t0,o0⟩:=s;obtain ⟨a1,q⟩:=q;have isL:Heap.IsList (Shared.heap ⟨h0,g0,d0,t0,o0⟩) t items:=⟨_,a1,rfl,n,rfl⟩
  have self1:=sub_enumerate
  wp_walk
  refine wpAny_stack_any λrows=>?_;refine wpAny_pure ?_;split
  ·rename_i cl _ _ _ _ _;cases (cl == Value.type "enumerate") <;> (wp_walk using wpAny_pyIter_list isL;exact ⟨_,rfl,q⟩)
  ·wp_walk using wpAny_pyIter_list isL
   exact ⟨_,rfl,q⟩
variable {w:World}
theorem wd {prog:Program} {A:Around} {E:Value->Shared->Prop} {s:Shared} {t:Addr} {items:Array Value} {Q:Value->Shared->Prop} (a1:s.heap.IsList t items)
  (q:Q (.ref (s.heap.objs.size+1)) { s with heap:=(s.heap.push (nX t)).push (ra s.heap.objs.size) }):wpAny (model prog w) A (call (.type "enumerate") [.ref t]) Q E s:=by
 obtain ⟨⟨c2,d2,dt2,s2⟩,a1,hc,n,hd⟩:=a1;obtain rfl:c2=.type "list":=hc;obtain rfl:dt2=.seq items n:=hd;have sz:(s.heap.push (nX t)).objs.size=s.heap.objs.size+1:=Heap.size_push _ _;refine callType_new F.called_enumerate (by decide) (F.typeCall_enumerate_1 _) (F.newCall_enumerate_1 _) (λo=>F.args_object_init_2 o _) F.entry_enumerate_new (yy t items n d2 s2) ⟨a1,?_⟩;show _/\_;rw [sz];refine ⟨⟨ra s.heap.objs.size,?_,rfl⟩,q⟩;exact Heap.get?_push_at sz.symm rfl
noncomputable def FG (K:W.Frag) (a:Addr) (xs:List V):It:=⟨λi H=>i < xs.length/\SqL K H a xs,λi H x H'=>∃ p y,H p=none/\x=.ref p/\xs[i]?=some y/\H'=upd H p (.tup [.int i,y]),λi H=>i=xs.length/\SqL K H a xs⟩
variable {K:W.Frag} {elts:List Expr} {ps:Pos}
theorem xl {P:Program} {c1} (a e it:Addr) (xs:List V) (ne:e≠it):oB P w K (.Tuple elts c1 ps) (FG K a xs) [e,it] e (λi h=>a≠it/\a≠e/\∃ old,IsEnum h e it i old/\h.IsListIter it a i) where
 mem:=by simp
 obj:=λi h st b hb=>by
  obtain ⟨_,_,old,q1,q2⟩:=st;rcases List.mem_cons.mp hb with z | z
  ·subst z;exact ⟨_,q1,λv z=>by cases z⟩
  ·have z:b=it:=by simpa using z
   subst z;obtain ⟨o,e,c,d⟩:=q2;exact ⟨o,e,λv z=>by rw [d] at z;cases z⟩
 keep:=λi h h' ⟨n1,n2,old,q1,q2⟩ k=>⟨n1,n2,old,k e (by simp) _ q1,q2.at λo z=>k it (by simp) o z⟩
 item:=by
  intro X hP hw hK hc i pins s σ H E I hf st hg;subst hP hw hK;obtain ⟨hi,hq⟩:=hg;obtain ⟨nai,nae,old,q1,q2⟩:=st;obtain ⟨its,rv,p,hz⟩:=I.list hq;have hx:xs[i]?=some xs[i]:=List.getElem?_eq_getElem hi;obtain ⟨u,hu,ru⟩:=rv.get hx;have isT:s.heap.IsList a its.toArray:=p.isList;have lr:=rv.length;refine wpAny_pyNext_enum_itemD (Draws.list (A:=X.A.in1) (I.ok.hd hc) it a nai its.toArray) q1 ⟨q2,isT⟩ (by rw [List.size_toArray];omega) ne (by simp [ne,Ne.symm nae]) λy h' tk hy out st' tup sz kk=>⟨_,rfl,?_⟩
  have ey:y=u:=by
   have h1:its[i]?=some y:=by simpa using hy
   rw [hu] at h1;exact (Option.some.inj h1).symm
  subst ey;refine wpAny_letOwnedTupleGo_enum (s:={ s with heap:=h',toks:=tk+1 }) out λh2 e2 same=>?_;have le:e < s.heap.objs.size:=Heap.lt_size q1;have li:it < s.heap.objs.size:=let ⟨_,z,_⟩:=q2;Heap.lt_size z;have tup2:h2.get? s.heap.objs.size=some { cls:=.type "tuple",data:=.seq #[.int i tk,y] }:=(same.2 _ (Nat.ne_of_gt le)).trans tup
  have I1:Inv X pins σ (upd H s.heap.objs.size (.tup [.int i,xs[i]])) { s with heap:=s.heap.push { cls:=.type "tuple",data:=.seq #[.int i tk,y] },toks:=s.toks } :=
   I.laid (o:=.tup [.int i,xs[i]]) (λb ob q=>Heap.get?_push_of_some _ q) (Nat.le_refl _) ⟨by rw [sizeLine_eq];simp,[.int i tk,y],.cons ⟨_,rfl⟩ (.cons ru .nil),IsTup.new _ _⟩
  have frees:∀ b,b < s.heap.objs.size->upd H s.heap.objs.size (.tup [.int i,xs[i]]) b=H b:=λb hb=>aZ (Nat.ne_of_lt hb)
  have I2:Inv X pins σ (upd H s.heap.objs.size (.tup [.int i,xs[i]])) { s with heap:=h2,toks:=tk+1 }:=by
   refine Inv.turnedL (s:={ s with heap:=s.heap.push { cls:=.type "tuple",data:=.seq #[.int i tk,y] },toks:=s.toks }) (h':=h2) (its:=[e,it]) (t':=tk+1) I1 (λb o hb q=>?_) (λb hb=>?_)
   ·have h1:b≠e:=λz=>hb (by simp [z]);have h3:b≠it:=λz=>hb (by simp [z]);by_cases hbs:b=s.heap.objs.size
    ·subst hbs;have q':(s.heap.push { cls:=.type "tuple",data:=.seq #[.int i tk,y] }).get? s.heap.objs.size=some o:=q;rw [Heap.get?_push_at rfl rfl] at q';cases q';exact tup2
    ·have q':s.heap.get? b=some o:=by
      have lt:b < s.heap.objs.size:=by have l1:b < (s.heap.push { cls:=.type "tuple",data:=.seq #[.int i tk,y] }).objs.size:=Heap.lt_size q;rw [Heap.size_push] at l1;exact Nat.lt_of_le_of_ne (Nat.le_of_lt_succ l1) hbs
      exact (Heap.get?_push_ne _ _ _ hbs).symm.trans q
     exact (same.2 b h1).trans (kk b o h1 h3 q')
   ·have lb:b < s.heap.objs.size:=by
     rcases List.mem_cons.mp hb with z | z
     ·rw [z];exact le
     ·rw [show b=it by simpa using z];exact li
    obtain ⟨f0,f1,f2,f3,f4,f5⟩:=hf b hb;exact ⟨by rw [frees b lb];exact f0,f1,f3,f4,f5⟩
  refine ⟨.ref s.heap.objs.size,_,I2,rfl,⟨_,_,I.hok.fresh (Nat.le_refl _),rfl,hx,rfl⟩,⟨nai,nae,y,?_,?_⟩,λb hb=>?_⟩
  ·have ec:((i+1:Nat):Int)=(i:Int)+1:=by omega
   rw [ec];exact e2
  ·exact st'.1.at λo z=>(same.2 it (Ne.symm ne)).trans z
  ·have lb:b < s.heap.objs.size:=by
    rcases List.mem_cons.mp hb with z | z
    ·rw [z];exact le
    ·rw [show b=it by simpa using z];exact li
   rw [frees b lb];exact (hf b hb).1
 done:=by
  intro X hP hw hK hc i pins s σ H E I hf st hg;subst hP hw hK;obtain ⟨hi,hq⟩:=hg;obtain ⟨nai,nae,old,q1,q2⟩:=st;obtain ⟨its,rv,p,hz⟩:=I.list hq;have lr:=rv.length;have isT:s.heap.IsList a its.toArray:=p.isList;obtain ⟨f0,f1,f2,f3,f4,f5⟩:=hf it (by simp);refine wpAny_pyNext_enum_endD (Draws.list (A:=X.A.in1) (I.ok.hd hc) it a nai its.toArray) q1 (by rw [List.size_toArray,<- lr,<- hi];exact ⟨q2,isT⟩) λh' eb=>⟨rfl,?_⟩
  exact I.turned (t':=s.toks) (λb o hb q=>eb b o hb q) f0 f1 f3 f4 f5
 self:=λA i s Q E ⟨_,_,_,q1,_⟩ q=>wpAny_pyIter_enum q1 q
noncomputable def Az (K:W.Frag) (ta:TA):TI:=λσ H R=>ta σ H λvs H1=>∃ a xs,vs=[.ref a]/\SqL K H1 a xs/\R (FG K a xs) H1
theorem A7 {X:Cx} {a:Expr} {ta:TA} {p pos:Pos} {c1} (hg:Gl X "enumerate") (hm:X.mg "enumerate"=none) (ha:PA X [a] ta) (hs:starEach [a] X.env=[(false,eval a X.env)]:=by rfl):PI X (.Tuple elts c1 ps) (.Call (.Name "enumerate" p) [a] [] pos) (Az X.K ta):=by
 intro pins s σ H R I h;refine Call_ (kH I hg hm r9 (PyProof.Rows.callWith_type1 (thn (ha pos pins s σ H _ I h) λus s1 ⟨vs,H1,I1,r1,q1⟩=>?_) hs rfl));obtain ⟨t,xs,ev,hq,q⟩:=q1;subst ev;obtain ⟨u,rfl,ru⟩:=jr r1;cases ru;obtain ⟨its,rv,pt,hz⟩:=I1.list hq;have lt:t < s1.heap.objs.size:=let ⟨_,z,_⟩:=pt.isList;Heap.lt_size z;refine wd pt.isList ?_;have sz:(s1.heap.push (nX t)).objs.size=s1.heap.objs.size+1:=Heap.size_push _ _;have q1:IsEnum ((s1.heap.push (nX t)).push (ra s1.heap.objs.size)) (s1.heap.objs.size+1) s1.heap.objs.size ((0:Nat):Int) .none:=Heap.get?_push_at sz.symm rfl;have q2:((s1.heap.push (nX t)).push (ra s1.heap.objs.size)).IsListIter s1.heap.objs.size t 0:=⟨_,Heap.get?_push_of_some _ (Heap.get?_push_at rfl rfl),rfl,rfl⟩
 refine wpAny_pyIter_enum (s:={ s1 with heap:=(s1.heap.push (nX t)).push (ra s1.heap.objs.size) }) q1 ?_;refine ⟨s1.heap.objs.size+1,[s1.heap.objs.size+1,s1.heap.objs.size],_,_,H1,rfl,I1.kept (t':=s1.toks) (λb o e=>Heap.get?_push_of_some _ (Heap.get?_push_of_some _ e)),xl t _ _ xs (Nat.ne_of_gt (Nat.lt_succ_self _)),⟨Nat.ne_of_lt lt,Nat.ne_of_lt (Nat.lt_succ_of_lt lt),.none,q1,q2⟩,λb hb=>?_,q⟩;rcases List.mem_cons.mp hb with z | z
 ·subst z;exact I1.fpOk (Nat.le_succ _) (I1.hok.fresh (Nat.le_succ _))
 ·have z:b=s1.heap.objs.size:=by simpa using z
  subst z;exact I1.fpOk (Nat.le_refl _) (I1.hok.fresh (Nat.le_refl _))
theorem Bp {σ:St} {H:Hp} {tl:TE} {te:TE} {mk:St->St} {i j:Nat} {cs:List D} (h:RL K tl σ H cs) (hc:cs.length<=1000) (es:List D) (hn:es.length=cs.length) (ne:i≠j)
  (h0:((mk σ).set i none).set j none=mk σ)
  (turn:∀ H1 (k:Nat) c e w,Same H H1->cs[k]?=some c->es[k]?=some e->Dat K H1 c w->RE K te (((mk σ).set i (some (.int k))).set j (some w)) H1 e) :
  RC K (h8 (Az K (cE tl eG)) mk (sE K 2 (iY (c6 i) (iY (c6 j) uG))) fO te) σ H es:=λH1 s Q q=>by
 refine h H1 s _ λvs H2 s2 q2=>?_;obtain ⟨a,us,e1,ha,da⟩:=q2;subst e1;have lu:=da.length;refine ⟨a,us,rfl,ha.sqL,λl hl2=>?_⟩;have s02:Same H H2:=s.trans s2;refine ⟨λn m σ' G=>m=us.length - n/\n<=us.length/\(∃ z1 z2,σ'=((mk σ).set i z1).set j z2)/\Same H2 G/\∃ ys,G l=some (.lst ys)/\Dats K G (es.take n) ys,⟨us.length,by omega,Nat.zero_le _,⟨none,none,h0.symm⟩,aR hl2 _,[],aH,by rw [List.take_zero];exact Dats.nil⟩,?_⟩;rintro n m σ' G ⟨rfl,hle,⟨z1,z2,rfl⟩,sG,ys,hy,dy⟩;by_cases hlt:n < us.length
 ·refine .inr ⟨⟨hlt,(sG.aLst ha).sqL⟩,λσ'' G'=>(∃ z1 z2,σ''=((mk σ).set i z1).set j z2)/\Same H2 G'/\∃ ys,G' l=some (.lst ys)/\Dats K G' (es.take (n+1)) ys,λσ'' G' w=>⟨us.length - (n+1),by omega,rfl,hlt,w.1,w.2⟩,λx G' y=>?_⟩;obtain ⟨p,w,hp,rfl,hw,rfl⟩:=y;have sn:Same G (upd G p (.tup [.int n,w])):=aR hp _;have s2n:=sG.trans sn;obtain ⟨c,ec,hcv⟩:=da.getV hw;have hne:n < es.length:=by omega
  refine ⟨p,[.int n,w],rfl,SqT.of aH,rfl,.int n,_,rfl,w,_,rfl,rfl,?_⟩;simp only [fO,if_true];rw [mY _ ne];refine RE.use (turn _ n c es[n] w (s02.trans s2n) ec (List.getElem?_eq_getElem hne) (s2n.dat hcv)) λv G4 s4 q4=>?_;have hy4:=s4 _ _ (sn _ _ hy);have lys:ys.length=n:=by rw [<- dy.length,List.length_take];omega
  refine ⟨ys,hy4,bX (by omega),⟨_,_,rfl⟩,λx o hx=>?_,ys++[v],aH,?_⟩
  ·rw [aZ (aM hx hl2)];exact s4 _ _ (s2n _ _ hx)
  ·have g:fE K G4 (upd G4 l (.lst (ys++[v]))):=But.grow (t:=l) (But.upd (Same.refl G4).but) hy4 aH;rw [List.take_add_one,List.getElem?_eq_getElem hne];exact Dats.append (Dats.mono g _ (s4.dats (sn.dats dy))) (Dats.cons (Dat.mono g _ q4) Dats.nil)
 ·have e:n=us.length:=by omega
  subst e;refine .inl ⟨⟨rfl,(sG.aLst ha).sqL⟩,?_⟩;rw [List.take_of_length_le (by omega)] at dy;exact q l ys G (s2.free hl2) (s2.trans sG) hy dy
section
variable {prog:Program} {w:World} {A:Around} {E:Value->Shared->Prop} {s:Shared} {z TI TO i1 i2 i3 l1 l2 l3:Addr} {k:Nat} {xs ys zs:Array Value}
end
end L2
namespace L2
open PySem PySem.Spec PyProof.Rows
section
variable {X:Cx}
end
section
variable {K:W.Frag} {σ:St} {H:Hp} {t ta tb:TE} {d:D} {ds:List D}
end
end L2
namespace My
open PySem L2 PyProof.Rows
noncomputable abbrev TL:List (Str × KTD.Dat):=[("num",.flat (.int 9999)),("arg",.flat (.int 3))]
noncomputable abbrev TB:List (Str × KTD.Dat):=[("add",.flat (.int 2)),("sub",.flat (.int 2)),("mul",.flat (.int 2)),("less",.flat (.int 2)),("pick",.flat (.int 3))]
noncomputable abbrev TM:List (Str × KTD.Dat):=[("hole",.flat (.int 2)),("gap",.flat (.int 3)),("slot",.flat (.int 2))]
noncomputable abbrev TF:List (Str × KTD.Dat):=[("low",.flat (.str "gap")),("high",.flat (.str "gap")),("arg",.flat (.str "slot"))]
noncomputable abbrev AHE:List D:=[.int 10,.int 11]
noncomputable abbrev BAS:List D:=[.tup [.str "one",.tup [.str "gap",.int 0,.int 99],.tup [.int 1,.tup [.str "low",.int 0]]],.tup [.str "two",.tup [.str "gap",.int 0,.int 9999],.tup [.int 2,.tup [.str "low",.int 0],.tup [.str "high",.int 0]]],.tup [.str "slot",.tup [.str "slot",.int 0],.tup [.int 3,.tup [.str "arg",.int 0]]],.tup [.str "add",.tup [.str "add",.tup [.str "hole",.int 0],.tup [.str "hole",.int 1]],.tup [.int 4]],.tup [.str "sub",.tup [.str "sub",.tup [.str "hole",.int 0],.tup [.str "hole",.int 1]],.tup [.int 5]],.tup [.str "mul",.tup [.str "mul",.tup [.str "hole",.int 0],.tup [.str "hole",.int 1]],.tup [.int 6]],.tup [.str "less",.tup [.str "less",.tup [.str "hole",.int 0],.tup [.str "hole",.int 1]],.tup [.int 7]],.tup [.str "more",.tup [.str "add",.tup [.str "hole",.int 0],.tup [.str "gap",.int 0,.int 99]],.tup [.int 12,.tup [.str "low",.int 0]]]]
noncomputable abbrev BEH:List D:=[.int 8,.int 9]
noncomputable abbrev INS:List D:=[.tup [.str "end",.int 0],.tup [.str "put",.int 1],.tup [.str "far",.int 2],.tup [.str "load",.int 1],.tup [.str "add",.int 0],.tup [.str "sub",.int 0],.tup [.str "mul",.int 0],.tup [.str "less",.int 0],.tup [.str "skip",.int 1],.tup [.str "jump",.int 2],.tup [.str "zero",.int 1],.tup [.str "none",.int 2],.tup [.str "more",.int 1],.tup [.str "twice",.int 0],.tup [.str "about",.int 0],.tup [.str "call",.int 2],.tup [.str "back",.int 0]]
noncomputable abbrev STR:List D:=[.str "put",.str "far",.str "load",.str "add",.str "sub",.str "mul",.str "less",.str "more",.str "twice",.str "about"]
noncomputable abbrev qi:Stmt:=top 8
theorem sc_is_whole:FnScope ["thing","low","high"] ["thing","low","high"] (aO qi):=.sc0
noncomputable abbrev oq:Stmt:=top 9
theorem sc_is_tagged:FnScope ["thing"] ["thing"] (aO oq):=.sc0
noncomputable abbrev rK:Stmt:=top 16
theorem sc_is_node:FnScope ["thing","kind"] ["thing"] (aO rK):=.sc0
noncomputable abbrev kW:Stmt:=top 17
theorem sc_trees_within:FnScope ["tree"] ["tree"] (aO kW):=.sc0
noncomputable abbrev nN:Stmt:=top 18
theorem sc_is_tree:FnScope ["thing","waiting","parts","part","deep"] ["thing"] (aO nN):=.sc0
noncomputable abbrev oA:Stmt:=top 19
theorem sc_need_tree:FnScope ["tree"] ["tree"] (aO oA):=.sc0
noncomputable abbrev vK:Stmt:=top 20
theorem sc_walked:FnScope ["tree","parts","within"] ["tree"] (aO vK):=.sc0
noncomputable abbrev nM:Stmt:=top 10
theorem sc_is_name:FnScope ["thing"] ["thing"] (aO nM):=.sc0
noncomputable abbrev jS:Stmt:=top 24
theorem sc_instruction_at:FnScope ["cells","place","name","many","behind"] ["cells","place"] (aO jS):=.sc0
noncomputable abbrev rJ:Stmt:=top 34
theorem sc_is_mark:FnScope ["thing"] ["thing"] (aO rJ):=.sc0
noncomputable abbrev hV:Stmt:=top 35
theorem sc_is_pattern_part:FnScope ["thing","deep"] ["thing","deep"] (aO hV):=.sc0
noncomputable abbrev qj:Stmt:=top 36
theorem sc_marks_in:FnScope ["pattern","kind","marks","within"] ["pattern","kind"] (aO qj):=.sc0
noncomputable abbrev jB:Stmt:=top 37
theorem sc_is_numbered:FnScope ["pattern","kind","numbers"] ["pattern","kind"] (aO jB):=.sc0
noncomputable abbrev j9:Stmt:=top 38
theorem sc_is_pattern:FnScope ["thing"] ["thing"] (aO j9):=.sc0
noncomputable abbrev mT:Stmt:=top 39
theorem sc_is_filling:FnScope ["thing","pattern"] ["thing","pattern"] (aO mT):=.sc0
noncomputable abbrev rH:Stmt:=top 40
theorem sc_is_cell:FnScope ["thing","pattern"] ["thing","pattern"] (aO rH):=.sc0
noncomputable abbrev gP:Stmt:=top 41
theorem sc_are_instructions:FnScope ["cells","pattern","place","name","behind"] ["cells","pattern"] (aO gP):=.sc0
noncomputable abbrev qh:Stmt:=top 42
theorem sc_is_piece:FnScope ["thing","name","pattern","cells"] ["thing"] (aO qh):=.sc0
noncomputable abbrev mU:Stmt:=top 43
theorem sc_is_set:FnScope ["thing"] ["thing"] (aO mU):=.sc0
noncomputable abbrev qk:Stmt:=top 44
theorem sc_need_set:FnScope ["some"] ["some"] (aO qk):=.sc0
noncomputable abbrev kn:Stmt:=top 45
theorem sc_may_stand_for:FnScope ["mark","tree"] ["mark","tree"] (aO kn):=.sc0
noncomputable abbrev rL:Stmt:=top 46
theorem sc_matches:FnScope ["pattern","tree","found","kind"] ["pattern","tree","found"] (aO rL):=.sc0
noncomputable abbrev qg:Stmt:=top 47
theorem sc_found_in:FnScope ["piece","tree","found"] ["piece","tree"] (aO qg):=.sc0
noncomputable abbrev lU:Stmt:=top 48
theorem sc_filled_cell:FnScope ["cell","nums","ks"] ["cell","nums","ks"] (aO lU):=.sc0
noncomputable abbrev ow:Stmt:=top 54
theorem sc_jump_over:FnScope ["many","kinds","near","far"] ["many","kinds"] (aO ow):=.sc0
noncomputable abbrev km:Stmt:=top 55
theorem sc_jumps_of_pick:FnScope ["second","third","behind","ahead"] ["second","third"] (aO km):=.sc0
noncomputable abbrev rM:Stmt:=top 56
theorem sc_ways_of:FnScope ["tree","some","ways","piece","found"] ["tree","some"] (aO rM):=.sc0
noncomputable abbrev oy:Stmt:=top 57
theorem sc_length_by:FnScope ["name","cells","lengths","own","ahead","behind"] ["name","cells","lengths"] (aO oy):=.sc0
noncomputable abbrev fC:Stmt:=top 58
theorem sc_best_by_ways:FnScope ["tree","some","done","bests","best","name","cells","trees","within","length"] ["tree","some","done","bests"] (aO fC):=.sc0
noncomputable abbrev kj:Stmt:=top 59
theorem sc_best_covering:FnScope ["tree","some","done","bests","part"] ["tree","some"] (aO kj):=.sc0
noncomputable abbrev kl:Stmt:=top 60
theorem sc_is_covered_by:FnScope ["tree","some","thing","name","cells","trees"] ["tree","some","thing"] (aO kl):=.sc0
noncomputable abbrev iB:Stmt:=top 61
theorem sc_are_covered_by:FnScope ["trees","some","things"] ["trees","some","things"] (aO iB):=.sc0
noncomputable abbrev oz:Stmt:=top 62
theorem sc_length_of:FnScope ["tree","some"] ["tree","some"] (aO oz):=.sc0
noncomputable abbrev lV:Stmt:=top 63
theorem sc_is_covering:FnScope ["tree","some","thing"] ["tree","some","thing"] (aO lV):=.sc0
noncomputable abbrev kU:Stmt:=top 67
theorem sc_laid_pick:FnScope ["tree","some","cover","places","first","second","third","ahead","behind"] ["tree","some","cover","places"] (aO kU):=.sc0
noncomputable abbrev i6:Stmt:=top 68
theorem sc_laid_piece:FnScope ["tree","some","cover","places","name","within","piece","holes","nums","ks","cells","hole","inner"] ["tree","some","cover","places"] (aO i6):=.sc0
noncomputable abbrev mV:Stmt:=top 69
theorem sc_laid_cells:FnScope ["tree","some","cover","places","place"] ["tree","some","cover","places"] (aO mV):=.sc0
noncomputable abbrev BD:Stmt:=top 70
theorem sc_laid:FnScope ["tree","some","thing"] ["tree","some","thing"] (aO BD):=.sc0
noncomputable abbrev og:Stmt:=top 72
theorem sc__law_draw:FnScope ["_law_script","_law_town","_law_many","_law_one","_law_at","_law_mixed"] ["_law_script","_law_town","_law_many"] (aO og):=.sc0
noncomputable abbrev om:Stmt:=top 73
theorem sc__law_pick:FnScope ["_law_script","_law_town","_law_some"] ["_law_script","_law_town","_law_some"] (aO om):=.sc0
noncomputable abbrev kT:Stmt:=top 74
theorem sc__law_tree:FnScope ["_law_script","_law_town","_law_room","_law_leaf","_law_name","_law_many"] ["_law_script","_law_town","_law_room"] (aO kT):=.sc0
noncomputable abbrev kR:Stmt:=top 75
theorem sc__law_args:FnScope ["_law_script","_law_town","_law_base"] ["_law_script","_law_town","_law_base"] (aO kR):=.sc0
noncomputable abbrev oo:Stmt:=top 76
theorem sc__law_size:FnScope ["_law_script","_law_town"] ["_law_script","_law_town"] (aO oo):=.sc0
noncomputable abbrev qc:Stmt:=top 77
theorem sc__law_two:FnScope ["_law_name","_law_one","_law_other","_law_base"] ["_law_name","_law_one","_law_other","_law_base"] (aO qc):=.sc0
noncomputable abbrev mS:Stmt:=top 78
theorem sc__law_worth:FnScope ["_law_tree_here","_law_args_here","_law_base"] ["_law_tree_here","_law_args_here","_law_base"] (aO mS):=.sc0
noncomputable abbrev mR:Stmt:=top 79
theorem sc__law_names:FnScope ["_law_first"] [] (aO mR):=.sc0
noncomputable abbrev lR:Stmt:=top 80
theorem sc__law_behind:FnScope ["_law_number"] ["_law_number"] (aO lR):=.sc0
noncomputable abbrev oi:Stmt:=top 81
theorem sc__law_goes:FnScope ["_law_name","_law_number","_law_on","_law_pile","_law_ways"] ["_law_name","_law_number","_law_on","_law_pile","_law_ways"] (aO oi):=.sc0
noncomputable abbrev n6:Stmt:=top 82
theorem sc__law_does:FnScope ["_law_name","_law_number","_law_pile","_law_args_here","_law_base","_law_other","_law_one"] ["_law_name","_law_number","_law_pile","_law_args_here","_law_base"] (aO n6):=.sc0
noncomputable abbrev kS:Stmt:=top 84
theorem sc__law_from:FnScope ["_law_code","_law_args_here","_law_base","_law_most","_law_at","_law_ways","_law_pile","_law_did","_law_k","_law_name","_law_many","_law_cells","_law_number","_law_on","_law_now"] ["_law_code","_law_args_here","_law_base","_law_most","_law_at","_law_ways"] (aO kS):=.sc0
noncomputable abbrev qa:Stmt:=top 83
theorem sc__law_run:FnScope ["_law_code","_law_args_here","_law_base","_law_most"] ["_law_code","_law_args_here","_law_base","_law_most"] (aO qa):=.sc0
noncomputable abbrev lS:Stmt:=top 85
theorem sc__law_pieces:FnScope ["_law_hole","_law_other","_law_gap","_law_made"] [] (aO lS):=.sc0
noncomputable abbrev me:Stmt:=top 86
theorem sc__law_set:FnScope ["_law_script","_law_town","_law_more"] ["_law_script","_law_town"] (aO me):=.sc0
noncomputable abbrev p7:Stmt:=top 87
theorem sc__law_fit:FnScope ["_law_pattern","_law_tree_here","_law_found"] ["_law_pattern","_law_tree_here","_law_found"] (aO p7):=.sc0
noncomputable abbrev oj:Stmt:=top 90
theorem sc__law_jump:FnScope ["_law_near","_law_far","_law_cells"] ["_law_near","_law_far","_law_cells"] (aO oj):=.sc0
noncomputable abbrev oh:Stmt:=top 91
theorem sc__law_fill:FnScope ["_law_cells","_law_nums","_law_ks","_law_made","_law_cell"] ["_law_cells","_law_nums","_law_ks"] (aO oh):=.sc0
noncomputable abbrev jl:Stmt:=top 92
theorem sc__law_lay:FnScope ["_law_tree_here","_law_some","_law_cover","_law_three","_law_last","_law_named","_law_found","_law_holes","_law_made","_law_cells"] ["_law_tree_here","_law_some","_law_cover"] (aO jl):=.sc0
noncomputable abbrev j8:Stmt:=top 93
theorem sc__law_any:FnScope ["_law_script","_law_town","_law_tree_here","_law_some","_law_ways","_law_piece","_law_found","_law_name","_law_holes"] ["_law_script","_law_town","_law_tree_here","_law_some"] (aO j8):=.sc0
noncomputable abbrev D4:Stmt:=top 94
theorem sc_law:FnScope ["_law_script","_law_town","_law_tree_here","_law_some","_law_cover","_law_code","_law_k","_law_base","_law_args_here"] ["_law_script"] (aO D4):=.sc0
structure Df (K:W.Frag) (mg:Str->Option Value) (n:Str) (st:Stmt) (ps:List Str) where
 a:Addr
 d:FuncData
 f:Fun K n n st a d
 m:mg n=some (.ref a)
 b:Binds K d ps []
abbrev Ok (P:Program) (w:World) (base:Heap) (k:Nat) {K:W.Frag} {mg:Str->Option Value} {n:Str} {st:Stmt} {ps:List Str} (D:Df K mg n st ps) (sp:Sp):Prop:=FnOk P w K mg base CX0 k D.a D.d ps sp
theorem pc {X:Cx} {k:Nat} {n:Str} {st:Stmt} {ps:List Str} {sp:Sp} {e:Expr} {es:List Expr} {t:TA} {p pos:Pos} {D:Df X.K X.mg n st ps} (F:FnOk X.prog X.w X.K X.mg X.base CX0 k D.a D.d ps sp) (hr:Room k X.A) (ha:PA X (e::es) t) (hg:Gl X n:=by rfl) (hdb:(n == ("__debug__":Str))=false:=by decide) (he:starEach (e::es) X.env=(false,eval e X.env)::starEach es X.env:=by rfl) (hpl:(backTo pos (starEach es X.env)).any (·.1)=false:=by rfl):PE X (.Call (.Name n p) (e::es) [] pos) (jU sp [] E0 t):=C7 F hr hg D.m D.f.kp D.b .nil A3 ha hdb he hpl
set_option genInjectivity false in
set_option genSizeOfSpec false in
structure Dfs (K:W.Frag) (mg:Str->Option Value) where
 GX:Df K mg "is_whole" qi ["thing","low","high"]
 He:Df K mg "is_tagged" oq ["thing"]
 IF:Df K mg "is_node" rK ["thing"]
 GR:Df K mg "trees_within" kW ["tree"]
 Jw:Df K mg "is_tree" nN ["thing"]
 Hw:Df K mg "need_tree" oA ["tree"]
 IS:Df K mg "walked" vK ["tree"]
 Jv:Df K mg "is_name" nM ["thing"]
 HR:Df K mg "instruction_at" jS ["cells","place"]
 Ju:Df K mg "is_mark" rJ ["thing"]
 GT:Df K mg "is_pattern_part" hV ["thing","deep"]
 Hy:Df K mg "marks_in" qj ["pattern","kind"]
 Ir:Df K mg "is_numbered" jB ["pattern","kind"]
 ID:Df K mg "is_pattern" j9 ["thing"]
 IC:Df K mg "is_filling" mT ["thing","pattern"]
 Jt:Df K mg "is_cell" rH ["thing","pattern"]
 Hx:Df K mg "are_instructions" gP ["cells","pattern"]
 Jk:Df K mg "is_piece" qh ["thing"]
 JE:Df K mg "is_set" mU ["thing"]
 HK:Df K mg "need_set" qk ["some"]
 HW:Df K mg "may_stand_for" kn ["mark","tree"]
 HZ:Df K mg "matches" rL ["pattern","tree","found"]
 Im:Df K mg "found_in" qg ["piece","tree"]
 Ip:Df K mg "filled_cell" lU ["cell","nums","ks"]
 IA:Df K mg "jump_over" ow ["many","kinds"]
 Hm:Df K mg "jumps_of_pick" km ["second","third"]
 IG:Df K mg "ways_of" rM ["tree","some"]
 Jb:Df K mg "length_by" oy ["name","cells","lengths"]
 Ih:Df K mg "best_by_ways" fC ["tree","some","done","bests"]
 HV:Df K mg "best_covering" kj ["tree","some"]
 GS:Df K mg "is_covered_by" kl ["tree","some","thing"]
 HQ:Df K mg "are_covered_by" iB ["trees","some","things"]
 Jc:Df K mg "length_of" oz ["tree","some"]
 Iq:Df K mg "is_covering" lV ["tree","some","thing"]
 Ja:Df K mg "laid_pick" kU ["tree","some","cover","places"]
 IE:Df K mg "laid_piece" i6 ["tree","some","cover","places"]
 Hd:Df K mg "laid_cells" mV ["tree","some","cover","places"]
 Kc:Df K mg "laid" BD ["tree","some","thing"]
 GV:Df K mg "_law_draw" og ["_law_script","_law_town","_law_many"]
 Ha:Df K mg "_law_pick" om ["_law_script","_law_town","_law_some"]
 HJ:Df K mg "_law_tree" kT ["_law_script","_law_town","_law_room"]
 IU:Df K mg "_law_args" kR ["_law_script","_law_town","_law_base"]
 IZ:Df K mg "_law_size" oo ["_law_script","_law_town"]
 Il:Df K mg "_law_two" qc ["_law_name","_law_one","_law_other","_law_base"]
 GY:Df K mg "_law_worth" mS ["_law_tree_here","_law_args_here","_law_base"]
 HP:Df K mg "_law_names" mR []
 Io:Df K mg "_law_behind" lR ["_law_number"]
 IY:Df K mg "_law_goes" oi ["_law_name","_law_number","_law_on","_law_pile","_law_ways"]
 IV:Df K mg "_law_does" n6 ["_law_name","_law_number","_law_pile","_law_args_here","_law_base"]
 IX:Df K mg "_law_from" kS ["_law_code","_law_args_here","_law_base","_law_most","_law_at","_law_ways"]
 Ji:Df K mg "_law_run" qa ["_law_code","_law_args_here","_law_base","_law_most"]
 HB:Df K mg "_law_pieces" lS []
 Jj:Df K mg "_law_set" me ["_law_script","_law_town"]
 Hs:Df K mg "_law_fit" p7 ["_law_pattern","_law_tree_here","_law_found"]
 Iz:Df K mg "_law_jump" oj ["_law_near","_law_far","_law_cells"]
 IW:Df K mg "_law_fill" oh ["_law_cells","_law_nums","_law_ks"]
 HI:Df K mg "_law_lay" jl ["_law_tree_here","_law_some","_law_cover"]
 HH:Df K mg "_law_any" j8 ["_law_script","_law_town","_law_tree_here","_law_some"]
 Ks:Df K mg "law" D4 ["_law_script"]
set_option genInjectivity false in
set_option genSizeOfSpec false in
structure Txt (P:Program) (w:World) (K:W.Frag) (mg:Str->Option Value) extends Dfs K mg where
 Ig:Tok
 HN:mg "MOST_PARTS"=some (.int 40 Ig)
 Iw:Tok
 HX:mg "MOST_DEEP"=some (.int 8 Iw)
 HG:Tok
 Hu:mg "LONGEST_NAME"=some (.int 8 HG)
 Iv:Tok
 HF:mg "MOST_CELL"=some (.int 99 Iv)
 Hc:Tok
 GU:mg "MOST_PATTERN_DEEP"=some (.int 3 Hc)
 IR:Tok
 Ij:mg "MOST_GAP"=some (.int 9999 IR)
 Hk:Tok
 GW:mg "MOST_PIECE_CELLS"=some (.int 12 Hk)
 HU:Tok
 HA:mg "MOST_PIECES"=some (.int 16 HU)
 Iy:Tok
 HY:mg "MOST_NEAR"=some (.int 9 Iy)
 Ie:Tok
 HM:mg "CALL_CELLS"=some (.int 3 Ie)
 Kr:Tok
 J4:mg "END"=some (.int 0 Kr)
 JX:Tok
 JJ:mg "CALL"=some (.int 15 JX)
 HE:Addr
 Hi:mg "MOST_IN_LEAF"=some (.ref HE)
 Hj:lF K HE TL
 Hb:Addr
 GP:mg "TREES_IN_BRANCH"=some (.ref Hb)
 GQ:lF K Hb TB
 Hg:Addr
 GZ:mg "MARK_LENGTHS"=some (.ref Hg)
 GN:lF K Hg TM
 HS:Addr
 Hq:mg "FILLED_FROM"=some (.ref HS)
 Hr:lF K HS TF
 HD:Addr
 Hh:mg "INSTRUCTIONS"=some (.ref HD)
 IJ:hZ K (.tup INS) (.ref HD)=true
 Jh:Addr
 Ik:mg "STRAIGHT"=some (.ref Jh)
 JT:hZ K (.tup STR) (.ref Jh)=true
 JP:Addr
 Jq:mg "AHEAD"=some (.ref JP)
 Kz:hZ K (.tup AHE) (.ref JP)=true
 JD:Addr
 Je:mg "BEHIND"=some (.ref JD)
 Kq:hZ K (.tup BEH) (.ref JD)=true
 JQ:Addr
 Jr:mg "BASIC"=some (.ref JQ)
 KA:pC K BAS JQ=true
 Jn:zz P w K Hg ["hole","gap","slot"]
 GO:mg "len"=none
 GM:mg "isinstance"=none
 KJ:mg "int"=none
 KH:mg "bool"=none
 KL:mg "str"=none
 Hl:mg "tuple"=none
 Kw:mg "list"=none
 Js:mg "range"=none
 JV:mg "all"=none
 KZ:mg "any"=none
 K0:mg "set"=none
 KM:mg "sum"=none
 JW:mg "reversed"=none
 J5:mg "zip"=none
 JM:mg "enumerate"=none
section
variable {P:Program} {w:World} {K:W.Frag} {mg:Str->Option Value} {base:Heap} {k:Nat}
noncomputable def dO (d:D) (lo hi:Int):Bool:=match d with
 | .int i=>decide (lo<=i) && decide (i<=hi)
 | _=>false
def iS (ds:List D) (d:D):Prop:=∃ x lo hi,ds=[x,.int lo,.int hi]/\d=.bl (dO x lo hi)
noncomputable def d6:D->Bool
 | .tup (.str _::_)=>true
 | _=>false
def jW (ds:List D) (d:D):Prop:=∃ x,ds=[x]/\d=.bl (d6 x)
noncomputable def mh (k:Str) (T:List (Str × KTD.Dat)):Int:=match KTD.datumAt k T with
 | some (.flat (.int i))=>i
 | _=>0
noncomputable def eR:D->Bool
 | .tup (.str k::r)=>if KTD.inKeys k TL=true then decide ((r.length:Int)+1=2) && dO (r.getD 0 .non) 0 (mh k TL) else KTD.inKeys k TB && decide ((r.length:Int)+1=1+mh k TB)
 | _=>false
def zH (ds:List D) (d:D):Prop:=∃ x,ds=[x]/\d=.bl (eR x)
noncomputable def c8:D->List D
 | .tup (.str k::r)=>if KTD.inKeys k TB=true then r else []
 | _=>[]
def iZ (ds:List D) (d:D):Prop:=∃ k r,ds=[.tup (.str k::r)]/\d=.tup (c8 (.tup (.str k::r)))
theorem Gq {T:List (Str × KTD.Dat)} {k:Str} (hT:∀ p ∈ T,∃ i,p.2=.flat (.int i)) (h:KTD.inKeys k T=true):KTD.datumAt k T=some (.flat (.int (mh k T))):=by
 unfold mh
 cases e:KTD.datumAt k T with
 | none=>exact absurd e (KTD.at_of_mem h)
 | some d =>
  have all:∀ (T:List (Str × KTD.Dat)),(∀ p ∈ T,∃ i,p.2=.flat (.int i))->KTD.datumAt k T=some d->∃ i,d=.flat (.int i):=by
   intro T
   induction T with
   | nil=>intro _ e;simp [KTD.datumAt] at e
   | cons p r ih =>
    intro hp e;obtain ⟨x,y⟩:=p;have e':(if decide (k=x)=true then some y else KTD.datumAt k r)=some d:=e;by_cases hx:k=x
    ·rw [if_pos (decide_eq_true hx)] at e';cases e';exact hp _ List.mem_cons_self
    ·rw [if_neg (by simp [hx])] at e';exact ih (λp hp'=>hp p (List.mem_cons_of_mem _ hp')) e'
  obtain ⟨i,rfl⟩:=all T hT e;rfl
theorem Et:∀ p ∈ TL,∃ i,p.2=.flat (.int i):=by intro p hp;simp only [TL,List.mem_cons,List.not_mem_nil,or_false] at hp;rcases hp with rfl | rfl <;> exact ⟨_,rfl⟩
theorem Er:∀ p ∈ TB,∃ i,p.2=.flat (.int i):=by intro p hp;simp only [TB,List.mem_cons,List.not_mem_nil,or_false] at hp;rcases hp with rfl | rfl | rfl | rfl | rfl <;> exact ⟨_,rfl⟩
theorem vk (T:Txt P w K mg)  : Ok P w base (k+1) T.GX (spD K iS):=by
 refine T.GX.f.ok sc_is_whole (λvs H Q E h=>?_) (λcdv A outer s H vs Q E hr h=>?_)
 ·obtain ⟨ds,d,hd,⟨x,lo,hi,rfl,rfl⟩,_⟩:=h;exact hd.length.symm
 have nd:=sc_is_whole.nd;obtain ⟨ds,d,hd,⟨x,lo,hi,rfl,rfl⟩,post⟩:=h;obtain ⟨v0,v1,v2,rfl,h0,h1,h2⟩:=nW hd;have g1:=h1.intE;have g2:=h2.intE;subst g1 g2;refine ⟨_,(aI (aQ (jg (a6 (eZ Aw) rfl T.GM cG (cM (pv 0) (cM (fY (v:=.ty "int") rfl T.KJ zR rfl) aC))) (jg (E6 (a6 (eZ CF) rfl T.GM cG (cM (pv 0) (cM (fY (v:=.ty "bool") rfl T.KH Cg rfl) aC)))) (jh (vv kh kh (pv 1) (pv 0) (pv 2))))))),?_⟩;refine bF (K:=K) (d:=.bl (dO x lo hi)) ?_ post
 cases x with
 | int i=>exact RE.as (dZ (bZ (aA h0)) λ_=>dZ (Bv (bZ (aA h0))) λ_=>mO (aA h1) (aA h0) λ_=>aA h2) rfl
 | bl y=>exact RE.as (dZ (c:=false) (bZ (aA h0)) λ_=>RE.as (dZ (c:=true) (Bv (bZ (aA h0))) λz=>nomatch z) rfl) rfl
 | non=>exact RE.as (dZ (c:=true) (bZ (aA h0)) λz=>nomatch z) rfl
 | str y=>exact RE.as (dZ (c:=true) (bZ (aA h0)) λz=>nomatch z) rfl
 | tup y=>exact RE.as (dZ (c:=true) (bZ (aA h0)) λz=>nomatch z) rfl
 | lst=>exact RE.as (dZ (c:=true) (bZ (aA h0)) λz=>nomatch z) rfl
theorem tm (T:Txt P w K mg)  : Ok P w base (k+1) T.He (spD K jW):=by
 refine T.He.f.ok sc_is_tagged (λvs H Q E h=>?_) (λcdv A outer s H vs Q E hr h=>?_)
 ·obtain ⟨ds,d,hd,⟨x,rfl,rfl⟩,_⟩:=h;exact hd.length.symm
 have nd:=sc_is_tagged.nd;obtain ⟨ds,d,hd,⟨x,rfl,rfl⟩,post⟩:=h;obtain ⟨v0,rfl,h0⟩:=jw hd;refine ⟨_,(aI (aQ (jg (a6 (eZ jc) rfl T.GM cG (cM (pv 0) (cM (fY (v:=.ty "tuple") rfl T.Hl dB rfl) aC))) (jg (d4 kg (a6 aX rfl T.GO bU (aD (pv 0) aC)) aE (aU _)) (jh (a6 (eZ Ax) rfl T.GM cG (cM (aT aV (pv 0) aE) (cM (fY (v:=.ty "str") rfl T.KL zT rfl) aC)))))))),?_⟩;refine bF (K:=K) (d:=.bl (d6 x)) ?_ post
 cases x with
 | tup ds =>
  cases ds with
  | nil=>exact RE.as (dZ (c:=false) (bZ (aA h0)) λ_=>RE.as (dZ (c:=true) (cV (dN (aA h0)) aF) λz=>nomatch z) rfl) rfl
  | cons y r =>have l:decide ((0:Int) < (((y::r).length:Nat):Int))=true:=decide_eq_true (by rw [List.length_cons];omega);refine RE.as (dZ (bZ (aA h0)) λ_=>dZ (RE.as (cV (dN (aA h0)) aF) (congrArg D.bl l)) λ_=>bZ (aY (k:=0) (aA h0) aF (show (y::r)[0]?=some y from rfl))) ?_;cases y <;> rfl
 | int i=>exact RE.as (dZ (c:=true) (bZ (aA h0)) λz=>nomatch z) rfl
 | bl y=>exact RE.as (dZ (c:=true) (bZ (aA h0)) λz=>nomatch z) rfl
 | non=>exact RE.as (dZ (c:=true) (bZ (aA h0)) λz=>nomatch z) rfl
 | str y=>exact RE.as (dZ (c:=true) (bZ (aA h0)) λz=>nomatch z) rfl
 | lst=>exact RE.as (dZ (c:=true) (bZ (aA h0)) λz=>nomatch z) rfl
theorem wI (T:Txt P w K mg) (HC:Ok P w base k T.He (spD K jW)) (Ho:Ok P w base k T.GX (spD K iS)):Ok P w base (k+1) T.IF (spD K zH):=by
 refine T.IF.f.ok sc_is_node (λvs H Q E h=>?_) (λcdv A outer s H vs Q E hr h=>?_)
 ·obtain ⟨ds,d,hd,⟨x,rfl,rfl⟩,_⟩:=h;exact hd.length.symm
 have nd:=sc_is_node.nd;obtain ⟨ds,d,hd,⟨x,rfl,rfl⟩,post⟩:=h;obtain ⟨v0,rfl,h0⟩:=jw hd;refine ⟨_,(aG (bL (cQ (bQ (pc (D:=T.He) HC hr (aD (pv 0) aC)) (λ_=>rfl))) (aI (aQ dD)) aW)
 (aG (bT (i:=1) nd rfl (Or.inl rfl) (aT aV (pv 0) aE))
 (aG (bL (aN mI (pv 1) (cK (v:=.ref T.HE) rfl T.Hi rfl) (by with_unfolding_all rfl)) (aI (aQ (jg (d4 bY (a6 aX rfl T.GO bU (aD (pv 0) aC)) aE (aU _)) (jh (pc (D:=T.GX) Ho hr (aD (aT aV (pv 0) aE) (aD aE (aD (aT AB (cK (v:=.ref T.HE) rfl T.Hi rfl) (pv 1)) aC)))))))) aW)
 (aI (aQ (jg (d4 mI (pv 1) (cK (v:=.ref T.Hb) rfl T.GP rfl) (by with_unfolding_all rfl)) (jh (d4 bY (a6 aX rfl T.GO bU (aD (pv 0) aC)) (bO eB aE (aT AB (cK (v:=.ref T.Hb) rfl T.GP rfl) (pv 1))) (aU _))))))))),?_⟩
 refine aS (K:=K) (b:=!d6 x) (bS (bE (bN (aB (aA h0) aL) ⟨x,rfl,rfl⟩))) (λc H1 s1=>?_) (λc H1 s1=>?_)
 ·refine bF (K:=K) (d:=.bl (eR x)) ?_ λv H' s q=>post v H' (s1.trans s) q
  have e:eR x=false:=by
   unfold eR;split
   ·unfold d6 at c;simp at c
   ·rfl
  rw [e];exact fG
 ·have h0':=s1.dat h0;have c':d6 x=true:=by simpa using c
  unfold d6 at c';split at c'
  ·rename_i kd r;refine gH (K:=K) (d:=.str kd) (aY (k:=0) (aA h0') aF rfl) λv1 H2 s2 q2=>?_;have h2:=s2.dat h0';have ev:=q2.strE;subst ev;refine aS (K:=K) (b:=KTD.inKeys kd TL) (aJ (iP (aA q2) T.Hj)) (λcL H3 s3=>?_) (λcL H3 s3=>?_)
   ·have h3:=s3.dat h2
    have e:eR (.tup (.str kd::r))=(decide ((r.length:Int)+1=2) && dO (r.getD 0 .non) 0 (mh kd TL)):=by show (if KTD.inKeys kd TL=true then _ else _)=_;rw [if_pos cL]
    refine bF (K:=K) (d:=.bl (eR (.tup (.str kd::r)))) ?_ λv H' s q=>post v H' (s1.trans (s2.trans (s3.trans s))) q;rw [e];have el:((((D.str kd)::r).length:Nat):Int)=(r.length:Int)+1:=by rw [List.length_cons];omega
    have b1:=pZ (K:=K) (dN (aA (σ:=(f7 ["thing","kind"] [v0]).set 1 (some (.str kd))) (k:=0) h3)) (aF (i:=2));rw [el] at b1;refine dZ b1 λhl=>?_;have hl':(r.length:Int)+1=2:=of_decide_eq_true hl
    obtain ⟨y,er⟩:∃ y,r=[y]:=by
     match r,hl' with
     | [],h=>simp at h
     | [y],_=>exact ⟨y,rfl⟩
     | _::_::_,h=>simp at h;omega
    subst er;refine bN (E:=E0) (R:=iS) (aB (aY (k:=1) (aA h3) aF rfl) (aB aF (aB (vG (aA (s3.dat q2)) T.Hj (by rfl) (Gq Et cL)) aL))) ⟨y,0,mh kd TL,rfl,rfl⟩
   ·have h3:=s3.dat h2
    have e:eR (.tup (.str kd::r))=(KTD.inKeys kd TB && decide ((r.length:Int)+1=1+mh kd TB)):=by show (if KTD.inKeys kd TL=true then _ else _)=_;rw [if_neg (by rw [cL];exact Bool.false_ne_true)]
    refine bF (K:=K) (d:=.bl (eR (.tup (.str kd::r)))) ?_ λv H' s q=>post v H' (s1.trans (s2.trans (s3.trans s))) q;rw [e];have el:((((D.str kd)::r).length:Nat):Int)=(r.length:Int)+1:=by rw [List.length_cons];omega
    refine dZ (iP (aA (s3.dat q2)) T.GQ) λcB=>?_;have b1:=pZ (K:=K) (dN (aA (σ:=(f7 ["thing","kind"] [v0]).set 1 (some (.str kd))) (k:=0) h3)) (fV (aF (i:=1)) (vG (aA (σ:=(f7 ["thing","kind"] [v0]).set 1 (some (.str kd))) (k:=1) (s3.dat q2)) T.GQ (by rfl) (Gq Er cB)));rw [el] at b1;exact b1
  ·cases c'
theorem oG (T:Txt P w K mg)  : Ok P w base (k+1) T.GR (spD K iZ):=by
 refine T.GR.f.ok sc_trees_within (λvs H Q E h=>?_) (λcdv A outer s H vs Q E hr h=>?_)
 ·obtain ⟨ds,d,hd,⟨kd,r,rfl,rfl⟩,_⟩:=h;exact hd.length.symm
 have nd:=sc_trees_within.nd;obtain ⟨ds,d,hd,⟨kd,r,rfl,rfl⟩,post⟩:=h;obtain ⟨v0,rfl,h0⟩:=jw hd;refine ⟨_,(aG (bL (aN mI (aT aV (pv 0) aE) (cK (v:=.ref T.Hb) rfl T.GP rfl) (by with_unfolding_all rfl)) (aI (aQ (ji nO (pv 0) (i4 aE) mK))) aW)
 (aI (aQ (bB aC)))),?_⟩
 refine aS (K:=K) (b:=KTD.inKeys kd TB) (aJ (iP (aY (k:=0) (aA h0) aF rfl) T.GQ)) (λc H1 s1=>?_) (λc H1 s1=>?_)
 ·refine bF (K:=K) (d:=.tup r) (jR (aA (s1.dat h0))) λv H' s q=>post v H' (s1.trans s) ?_;show Dat K H' (.tup (if KTD.inKeys kd TB=true then r else [])) v;rw [if_pos c];exact q
 ·refine bF (K:=K) (σ:=f7 ["tree"] [v0]) (d:=.tup []) (bJ aL) λv H' s q=>post v H' (s1.trans s) ?_;show Dat K H' (.tup (if KTD.inKeys kd TB=true then r else [])) v;rw [if_neg (by rw [c];exact Bool.false_ne_true)];exact q
theorem A8 {ns:List Int} {k:Int} (h0:0<=k) (h1:k < (ns.length:Int)):∃ z,atI (ns.map V.int) k=some (.int z):=by
 have hk:k.toNat < ns.length:=by omega
 refine ⟨ns[k.toNat],?_⟩;have e:k=((k.toNat:Nat):Int):=by omega
 have q:atI (ns.map V.int) ((k.toNat:Nat):Int)=some (.int ns[k.toNat]):=i0 (by rw [List.getElem?_map,List.getElem?_eq_getElem hk] <;> rfl);rw [<- e] at q;exact q
theorem sT (T:Txt P w K mg)  : Ok P w base (k+1) T.GV (qm K):=by
 refine T.GV.f.ok sc__law_draw (λvs H Q E h=>?_) (λcdv A outer s H vs Q E hr h=>?_)
 ·obtain ⟨a,t,ns,m,p,q,rest,rfl,_⟩:=h;rfl
 have nd:=sc__law_draw.nd;obtain ⟨a,t,ns,m,p,q,rest,rfl,hS,hT,hp,hm,hm2,post⟩:=h;refine ⟨_,(aG (bL (aN kg (aT bP (pv 1) aE) aE (aU _)) (aG (bT (i:=3) nd rfl (Or.inl rfl) (bO e9 (aT bP (pv 1) aE) (pv 2)))
 (aG (hE (bO j0 (aT bP (pv 1) aE) (pv 2)) (tP (pv 1) aE mW))
 (aI (aQ (pv 3))))) aW)
 (aG (bT (i:=4) nd rfl (Or.inl rfl) (aT bP (pv 1) aE))
 (aG (x9 (pv 1) aE uI aE wq mW)
 (aG (bL (aN (pO hr) (pv 0) (bR aC) (aU _)) (aI (aQ (bO e9 (pv 4) (pv 2)))) aW)
 (aG (bL (PW.pt (pW (aN kN (pv 4) (a6 aX rfl T.GO bU (aD (pv 0) aC)) (aU _)) (mL (aN xX (aT bP (pv 0) (pv 4)) (bO tL aE aE) (aU _))))) (aG (hE (bO e9 (bO j0 (aT bP (pv 0) (pv 4)) (pv 2)) (bO C5 (bO tL aE aE) (bO tL aE aE))) (tP (pv 1) aE mW))
 (aI (aQ (bO e9 (aT bP (pv 0) (pv 4)) (pv 2))))) aW)
 (aG (bT (i:=5) nd rfl (Or.inl rfl) (bO e9 (bO eB (bO eB (bO tI (aT bP (pv 0) (bO e9 (pv 4) (a6 aX rfl T.GO bU (aD (pv 0) aC)))) aE) (bO tI aE (pv 4))) aE) aE))
 (aI (aQ (bO e9 (bO e9 (bO e9 (bO tL (pv 5) aE) aE) aE) (pv 2)))))))))),?_⟩
 refine ⟨_,rfl,t,_,1,_,rfl,rfl,SqL.of hT,at1,q,0,rfl,rfl,_,rfl,?_⟩;refine qE (λc=>?_) (λc=>?_)
 ·refine ⟨_,rfl,t,_,1,_,rfl,rfl,SqL.of hT,at1,_,rfl,q,m,rfl,rfl,hm,?_⟩;refine ⟨_,rfl,t,_,1,_,rfl,rfl,SqL.of hT,at1,_,rfl,q,m,rfl,rfl,⟨hm,by omega⟩,?_⟩;refine ⟨_,rfl,t,_,1,1,rfl,rfl,hT,ix1,?_⟩;refine ⟨_,rfl,?_⟩;exact post (q % m) _ p (q / m) (But.upd (Same.refl H).but) aH hp (Int.emod_nonneg _ (by omega)) (Int.emod_lt_of_pos _ hm)
 refine ⟨_,rfl,t,_,0,_,rfl,rfl,SqL.of hT,at0,?_⟩;refine ⟨_,rfl,t,_,0,_,rfl,rfl,Int.le_refl 0,SqL.of hT,rfl,p,1,rfl,rfl,t,_,0,0,rfl,rfl,hT,ix0,?_⟩;refine ⟨_,rfl,(by show 0<=sizeLine;decide),λl hl=>?_⟩;have bt1:But t H (upd H t (.lst ((V.int p::.int q::rest).set 0 (.int (p+1))))):=But.upd (Same.refl H).but;have hlt:l≠t:=λz=>by rw [z,aH] at hl;cases hl
 have bt3:=bt1.trans (aR hl (.lst [])).but
 have ht3:upd (upd H t (.lst ((V.int p::.int q::rest).set 0 (.int (p+1))))) l (.lst []) t=some (.lst (.int (p+1)::.int q::rest)):=by rw [aZ (Ne.symm hlt)];exact aH
 have hS3:=(hS.but bt3 hT).sqL;have hlen:((ns.map V.int).length:Int)=(ns.length:Int):=by rw [List.length_map]
 refine ⟨a,l,_,[],ns.map D.int,[],rfl,rfl,hS3,SqL.of aH,e8 ns,Dats.nil,i8 ns,(by unfold noLs;rfl),(by rw [iK];decide),_,rfl,?_⟩;show (if eqDs (ns.map D.int) []=true then _ else _);rw [Aj];refine qE (λc0=>?_) (λc0=>?_)
 ·refine ⟨_,rfl,_,rfl,p,m,rfl,rfl,hm,?_⟩;exact post _ _ (p+1) q bt3 ht3 (by omega) (Int.emod_nonneg _ (by omega)) (Int.emod_lt_of_pos _ hm)
 have hl0:(0:Int) < ((ns.map V.int).length:Int):=by
  rw [hlen]
  cases ns with
  | nil=>exact absurd rfl c0
  | cons n ns=>rw [List.length_cons];omega
 refine ⟨_,rfl,_,rfl,a,_,rfl,.inl hS3,p,_,rfl,rfl,_,rfl,?_⟩;refine qE (λc1=>?_) (λc1=>?_)
 ·have c1':p < ((ns.map V.int).length:Int):=of_decide_eq_true c1;obtain ⟨z,hz⟩:=A8 (ns:=ns) hp (by rw [<- hlen];exact c1');refine ⟨_,rfl,_,rfl,a,_,p,_,rfl,rfl,hS3,hz,10,18,rfl,rfl,⟨by decide,by decide,by decide⟩,z,_,rfl,rfl,_,rfl,?_⟩;refine qE (λc2=>?_) (λc2=>?_)
  ·refine ⟨_,rfl,_,rfl,a,_,p,_,rfl,rfl,hS3,hz,_,rfl,z,m,rfl,rfl,⟨hm,by omega⟩,10,60,rfl,rfl,⟨by decide,by decide,by decide⟩,10,60,rfl,rfl,⟨by decide,by decide,by decide⟩,_,_,rfl,rfl,IntMulOk.of_bits (by decide +kernel) (by decide +kernel),_,_,rfl,rfl,(by show (0:Int) < 10 ^ (60:Int).toNat * 10 ^ (60:Int).toNat;decide +kernel),?_⟩;refine ⟨_,rfl,t,_,1,1,rfl,rfl,ht3,ix1,?_⟩;refine ⟨_,rfl,_,rfl,a,_,p,_,rfl,rfl,(hS.but bt3.upd hT).sqL,hz,_,rfl,z,m,rfl,rfl,hm,?_⟩;exact post _ _ (p+1) _ bt3.upd aH (by omega) (Int.emod_nonneg _ (by omega)) (Int.emod_lt_of_pos _ hm)
  ·refine ⟨_,rfl,_,rfl,_,rfl,a,_,rfl,.inl hS3,p,_,rfl,rfl,hl0,?_⟩;obtain ⟨z2,hz2⟩:=A8 (ns:=ns) (Int.emod_nonneg p (by omega:((ns.map V.int).length:Int)≠0)) (by rw [<- hlen];exact Int.emod_lt_of_pos p hl0);refine ⟨a,_,_,_,rfl,rfl,hS3,hz2,z2,1103515245,rfl,rfl,.inr ⟨by decide,by decide⟩,_,rfl,7919,p,rfl,rfl,.inl ⟨by decide,by decide⟩,_,_,rfl,rfl,_,_,rfl,rfl,_,_,rfl,rfl,(by show (0:Int) < 2147483647;decide),?_⟩;have m1:=Int.emod_nonneg (z2 * 1103515245+7919 * p+12345) (by decide:(2147483647:Int)≠0);have m2:=Int.emod_lt_of_pos (z2 * 1103515245+7919 * p+12345) (by decide:(0:Int) < 2147483647);refine ⟨_,rfl,_,5,rfl,rfl,⟨by decide,by decide,by omega⟩,_,_,rfl,rfl,(by show (0:Int) < 2147483647;decide),_,_,rfl,rfl,(by show (0:Int) < 999983;decide),_,rfl,_,m,rfl,rfl,hm,?_⟩;exact post _ _ (p+1) q bt3 ht3 (by omega) (Int.emod_nonneg _ (by omega)) (Int.emod_lt_of_pos _ hm)
 ·refine ⟨_,rfl,_,rfl,_,rfl,a,_,rfl,.inl hS3,p,_,rfl,rfl,hl0,?_⟩;obtain ⟨z2,hz2⟩:=A8 (ns:=ns) (Int.emod_nonneg p (by omega:((ns.map V.int).length:Int)≠0)) (by rw [<- hlen];exact Int.emod_lt_of_pos p hl0);refine ⟨a,_,_,_,rfl,rfl,hS3,hz2,z2,1103515245,rfl,rfl,.inr ⟨by decide,by decide⟩,_,rfl,7919,p,rfl,rfl,.inl ⟨by decide,by decide⟩,_,_,rfl,rfl,_,_,rfl,rfl,_,_,rfl,rfl,(by show (0:Int) < 2147483647;decide),?_⟩;have m1:=Int.emod_nonneg (z2 * 1103515245+7919 * p+12345) (by decide:(2147483647:Int)≠0);have m2:=Int.emod_lt_of_pos (z2 * 1103515245+7919 * p+12345) (by decide:(0:Int) < 2147483647);refine ⟨_,rfl,_,5,rfl,rfl,⟨by decide,by decide,by omega⟩,_,_,rfl,rfl,(by show (0:Int) < 2147483647;decide),_,_,rfl,rfl,(by show (0:Int) < 999983;decide),_,rfl,_,m,rfl,rfl,hm,?_⟩;exact post _ _ (p+1) q bt3 ht3 (by omega) (Int.emod_nonneg _ (by omega)) (Int.emod_lt_of_pos _ hm)
def qp (K:W.Frag):Sp:=λvs H Q _=>∃ (a t l:Addr) (ns:List Int) (xs:List V) (p q:Int) (rest:List V),vs=[.ref a,.ref t,.ref l]/\Scr K H a ns/\SqL K H l xs/\l≠t/\0 < xs.length/\xs.length<=1000000 /\
 H t=some (.lst (.int p::.int q::rest))/\0<=p/\∀ (i:Nat) (x:V) (H':Hp) (p' q':Int),But t H H'->H' t=some (.lst (.int p'::.int q'::rest))->0<=p'->xs[i]?=some x->Q x H'
theorem sY (T:Txt P w K mg) (Hn:Ok P w base k T.GV (qm K)):Ok P w base (k+1) T.Ha (qp K):=by
 refine T.Ha.f.ok sc__law_pick (λvs H Q E h=>?_) (λcdv A outer s H vs Q E hr h=>?_)
 ·obtain ⟨a,t,l,ns,xs,p,q,rest,rfl,_⟩:=h;rfl
 have nd:=sc__law_pick.nd;obtain ⟨a,t,l,ns,xs,p,q,rest,rfl,hS,hL,hlt,hx0,hx1,hT,hp,post⟩:=h;refine ⟨_,(aI (aQ (aT bP (pv 2) (pc (D:=T.GV) Hn hr (aD (pv 0) (aD (pv 1) (aD (a6 aX rfl T.GO bU (aD (pv 2) aC)) aC))))))),?_⟩;refine ⟨_,rfl,_,rfl,_,rfl,_,rfl,l,xs,rfl,.inl hL,a,t,ns,(xs.length:Int),p,q,rest,rfl,hS,hT,hp,by omega,by omega,λr H1 p1 q1 b1 t1 g1 r0 r1=>?_⟩;have hr':r.toNat < xs.length:=by omega
 have er:r=((r.toNat:Nat):Int):=by omega
 have z:atI xs ((r.toNat:Nat):Int)=some xs[r.toNat]:=i0 (List.getElem?_eq_getElem hr');rw [<- er] at z;exact ⟨l,xs,r,xs[r.toNat],rfl,rfl,b1.sqL hlt hL,z,post r.toNat _ H1 p1 q1 b1 t1 g1 (List.getElem?_eq_getElem hr')⟩
end
inductive Tr where
 | num (n:Int)
 | arg (k:Int)
 | two (o:Str) (a b:Tr)
 | pick (a b c:Tr)
noncomputable def toD:Tr->D
 | .num n=>.tup [.str "num",.int n]
 | .arg k=>.tup [.str "arg",.int k]
 | .two o a b=>.tup [.str o,toD a,toD b]
 | .pick a b c=>.tup [.str "pick",toD a,toD b,toD c]
def okT:Tr->Prop
 | .num n=>0<=n/\n<=9999
 | .arg k=>0<=k/\k<=3
 | .two o a b=>(o="add"\/o="sub"\/o="mul"\/o="less")/\okT a/\okT b
 | .pick a b c=>okT a/\okT b/\okT c
noncomputable def a9:Tr->Nat
 | .num _=>1
 | .arg _=>1
 | .two _ a b=>max (a9 a) (a9 b)+1
 | .pick a b c=>max (a9 a) (max (a9 b) (a9 c))+1
noncomputable def a8:Tr->Nat
 | .num _=>1
 | .arg _=>1
 | .two _ a b=>a8 a+a8 b+1
 | .pick a b c=>a8 a+a8 b+a8 c+1
noncomputable def cR:Tr->List Tr
 | .num _=>[]
 | .arg _=>[]
 | .two _ a b=>[a,b]
 | .pick a b c=>[a,b,c]
noncomputable def bC:Tr->List Tr
 | .num n=>[.num n]
 | .arg k=>[.arg k]
 | .two o a b=>.two o a b::(bC a++bC b)
 | .pick a b c=>.pick a b c::(bC a++bC b++bC c)
theorem cC:∀ t:Tr,(bC t).length=a8 t
 | .num _=>rfl
 | .arg _=>rfl
 | .two _ a b=>by simp only [bC,a8,List.length_cons,List.length_append,cC a,cC b]
 | .pick a b c=>by simp only [bC,a8,List.length_cons,List.length_append,cC a,cC b,cC c]
theorem jK (t:Tr):1<=a9 t:=by cases t <;> simp [a9]
theorem AX {o:Str} (h:o="add"\/o="sub"\/o="mul"\/o="less"):KTD.inKeys o TL=false/\KTD.inKeys o TB=true/\mh o TB=2:=by rcases h with rfl | rfl | rfl | rfl <;> decide +kernel
theorem yM:KTD.inKeys ("pick":Str) TL=false/\KTD.inKeys ("pick":Str) TB=true/\mh ("pick":Str) TB=3:=by decide +kernel
theorem AW:KTD.inKeys ("num":Str) TL=true/\KTD.inKeys ("num":Str) TB=false/\mh ("num":Str) TL=9999:=by decide +kernel
theorem AV:KTD.inKeys ("arg":Str) TL=true/\KTD.inKeys ("arg":Str) TB=false/\mh ("arg":Str) TL=3:=by decide +kernel
variable {r:List D}
theorem pH {k:Str} (h:KTD.inKeys k TL=true):eR (.tup (.str k::r))=(decide ((r.length:Int)+1=2) && dO (r.getD 0 .non) 0 (mh k TL)):=by unfold eR;dsimp only;rw [if_pos h]
theorem pG {k:Str} (h:KTD.inKeys k TL=false):eR (.tup (.str k::r))=(KTD.inKeys k TB && decide ((r.length:Int)+1=1+mh k TB)):=by unfold eR;dsimp only;rw [if_neg (by rw [h];exact Bool.false_ne_true)]
theorem uM {k:Str} (h:KTD.inKeys k TB=true):c8 (.tup (.str k::r))=r:=by unfold c8;dsimp only;rw [if_pos h]
theorem nq {k:Str} (h:KTD.inKeys k TB=false):c8 (.tup (.str k::r))=[]:=by unfold c8;dsimp only;rw [if_neg (by rw [h];exact Bool.false_ne_true)]
theorem mE:∀ t:Tr,okT t->eR (toD t)=true/\c8 (toD t)=(cR t).map toD
 | .num n,h=>by obtain ⟨h1,h2,h3⟩:=AW;refine ⟨?_,nq h2⟩;unfold toD;rw [pH h1,h3];show (decide ((1:Int)+1=2) && (decide (0<=n) && decide (n<=9999)))=true;simp [h.1,h.2]
 | .arg n,h=>by obtain ⟨h1,h2,h3⟩:=AV;refine ⟨?_,nq h2⟩;unfold toD;rw [pH h1,h3];show (decide ((1:Int)+1=2) && (decide (0<=n) && decide (n<=3)))=true;simp [h.1,h.2]
 | .two o a b,h=>by obtain ⟨h1,h2,h3⟩:=AX h.1;refine ⟨?_,uM h2⟩;unfold toD;rw [pG h1,h2,h3];rfl
 | .pick a b c,h=>by obtain ⟨h1,h2,h3⟩:=yM;refine ⟨?_,uM h2⟩;unfold toD;rw [pG h1,h2,h3];rfl
noncomputable def lP:Nat->List (D × Int)->Int->Bool
 | 0,_,_=>false
 | _+1,[],_=>true
 | n+1,(d,dp)::st,p=>if (decide (40 < p+1) || (decide (8 < dp) || !eR d))=true then false else lP n (((c8 d).map λx=>(x,dp+1)).reverse++st) (p+1)
noncomputable def iE (d:D):Bool:=lP 50 [(d,1)] 0
theorem lj {n:Nat} {d:D} {dp:Int} {st:List (D × Int)} {p:Int} (h1:p+1<=40) (h2:dp<=8) (h3:eR d=true):lP (n+1) ((d,dp)::st) p=lP n (((c8 d).map λx=>(x,dp+1)).reverse++st) (p+1):=by show (if _=true then false else _)=_;rw [if_neg];simp [h3];omega
theorem i7:∀ (t:Tr),okT t->∀ (n:Nat) (dp:Int) (st:List (D × Int)) (p:Int),(a9 t:Int)+dp<=9->p+(a8 t:Int)<=40->lP (n+a8 t) ((toD t,dp)::st) p=lP n st (p+a8 t)
 | .num m,h,n,dp,st,p,h1,h2=>by obtain ⟨e1,e2⟩:=mE (.num m) h;simp only [a9,a8] at h1 h2 ⊢;rw [lj (by omega) (by omega) e1,e2];rfl
 | .arg m,h,n,dp,st,p,h1,h2=>by obtain ⟨e1,e2⟩:=mE (.arg m) h;simp only [a9,a8] at h1 h2 ⊢;rw [lj (by omega) (by omega) e1,e2];rfl
 | .two o a b,h,n,dp,st,p,h1,h2=>by
  obtain ⟨e1,e2⟩:=mE (.two o a b) h;have d1:=jK a;simp only [a9,a8] at h1 h2 ⊢;have g1:(a9 a:Int)+(dp+1)<=9:=by omega
  have g2:(a9 b:Int)+(dp+1)<=9:=by omega
  rw [show n+(a8 a+a8 b+1)=(n+a8 a+a8 b)+1 by omega,lj (by omega) (by omega) e1,e2];show lP (n+a8 a+a8 b) ((toD b,dp+1)::(toD a,dp+1)::st) (p+1)=_;rw [i7 b h.2.2 (n+a8 a) (dp+1) ((toD a,dp+1)::st) (p+1) g2 (by omega),i7 a h.2.1 n (dp+1) st _ g1 (by omega)];congr 1;omega
 | .pick a b c,h,n,dp,st,p,h1,h2=>by
  obtain ⟨e1,e2⟩:=mE (.pick a b c) h;have d1:=jK a;simp only [a9,a8] at h1 h2 ⊢;have g1:(a9 a:Int)+(dp+1)<=9:=by omega
  have g2:(a9 b:Int)+(dp+1)<=9:=by omega
  have g3:(a9 c:Int)+(dp+1)<=9:=by omega
  rw [show n+(a8 a+a8 b+a8 c+1)=(n+a8 a+a8 b+a8 c)+1 by omega,lj (by omega) (by omega) e1,e2];show lP (n+a8 a+a8 b+a8 c) ((toD c,dp+1)::(toD b,dp+1)::(toD a,dp+1)::st) (p+1)=_;rw [i7 c h.2.2 (n+a8 a+a8 b) (dp+1) _ (p+1) g3 (by omega),i7 b h.2.1 (n+a8 a) (dp+1) _ _ g2 (by omega),i7 a h.1 n (dp+1) st _ g1 (by omega)];congr 1;omega
theorem ug {t:Tr} (h:okT t) (h1:a9 t<=8) (h2:a8 t<=40):iE (toD t)=true:=by
 have q:=i7 t h (50 - a8 t) 1 [] 0 (by omega) (by omega);rw [show 50 - a8 t+a8 t=50 by omega] at q;unfold iE;rw [q];obtain ⟨m,e⟩:∃ m,50 - a8 t=m+1:=⟨50 - a8 t - 1,by omega⟩
 rw [e];rfl
section
variable {P:Program} {w:World} {K:W.Frag} {mg:Str->Option Value} {base:Heap} {k:Nat}
noncomputable def mu2 (σ:L2.St) (_:Hp):Nat:=match σ[2]? with
 | some (some (V.int p))=>(50 - p).toNat
 | _=>0
def xq (ds:List D) (d:D):Prop:=∃ x,ds=[x]/\d=.bl (iE x)
noncomputable abbrev pr (x:D × Int):D:=.tup [x.1,.int x.2]
variable {H:Hp}
theorem qW {K:W.Frag} {b:D}:∀ {as:List D} {vs:List V},Dats K H (as++[b]) vs->∃ us v,vs=us++[v]/\Dats K H as us/\Dat K H b v
 | [],vs,h=>by obtain ⟨v,e,q⟩:=jw h;exact ⟨[],v,e,Dats.nil,q⟩
 | a::as,vs,h=>by obtain ⟨u,r,e,h1,h2⟩:=h.consE;obtain ⟨us,v,e2,h3,h4⟩:=qW h2;subst e2 e;exact ⟨u::us,v,rfl,Dats.cons h1 h3,h4⟩
theorem DM (k:Str):mh k TB<=3:=by
 unfold mh;split
 ·rename_i i e;simp only [TB,KTD.datumAt] at e
  repeat' split at e
  all_goals first
   | (cases e;decide)
   | cases e
 ·decide
variable {d:D}
theorem pw (h:eR d=true):(c8 d).length<=3:=by
 unfold eR at h;split at h
 ·rename_i k r;unfold c8;dsimp only;split
  ·rename_i hb;split at h
   ·rw [Bool.and_eq_true] at h;have z:=of_decide_eq_true h.1;omega
   ·rw [Bool.and_eq_true] at h;have z:=of_decide_eq_true h.2;have z2:=DM k;omega
  ·exact Nat.zero_le _
 ·cases h
theorem pI (h:eR d=true):∃ k r,d=.tup (.str k::r):=by
 unfold eR at h;split at h
 ·exact ⟨_,_,rfl⟩
 ·cases h
theorem wJ (T:Txt P w K mg) (JH:Ok P w base k T.IF (spD K zH)) (Hf:Ok P w base k T.GR (spD K iZ)):Ok P w base (k+1) T.Jw (spD K xq):=by
 refine T.Jw.f.ok sc_is_tree (λvs H Q E h=>?_) (λcdv A outer s H vs Q E hr h=>?_)
 ·obtain ⟨ds,d,hd,⟨x,rfl,rfl⟩,_⟩:=h;exact hd.length.symm
 have nd:=sc_is_tree.nd;obtain ⟨ds,d,hd,⟨x,rfl,rfl⟩,post⟩:=h;obtain ⟨v0,rfl,h0⟩:=jw hd;refine ⟨_,(aG (bT (i:=1) nd rfl (Or.inl rfl) (bR (aD (bB (aD (pv 0) (aD aE aC))) aC)))
 (aG (bT (i:=2) nd rfl (Or.inl rfl) aE)
 (aG (vC PassesOwn.never (bQ (pv 1) (λ_=>rfl)) (aG (hE (nD F.plainAttrs_list F.slot_list_pop F.type_list_pop ny (pv 1)) (gO rfl (bM (a7 (i:=3) nd rfl (Or.inl rfl)) (bM (a7 (i:=4) nd rfl (Or.inr rfl)) dF))))
 (aG (Bd (i:=2) nd rfl (Or.inl rfl) aE wq)
 (aG (bL (PW.pt (dW (aN kg (pv 2) (cK (v:=.int 40) rfl T.HN ⟨_,rfl⟩) (aU _)) (dW (aN kg (pv 4) (cK (v:=.int 8) rfl T.HX ⟨_,rfl⟩) (aU _)) (dY (cQ (bQ (pc (D:=T.IF) JH hr (aD (pv 3) aC)) (λ_=>rfl))))))) (aI (aQ dD)) aW)
 (aI (bW (eQ F.plainAttrs_list F.slot_list_extend F.type_list_extend jO (pv 1) (aD (dE (own:=["within"]) (fr:=[4]) (N':=["within","deep"]) (j3 (pc (D:=T.GR) Hf hr (aD (pv 3) aC))) rfl (by show cZ ["thing","waiting","parts","part","deep"] (λx=>(aO nN).names.lookup x) _ _ _ _=true;decide +kernel) rfl (λ_ _ _ _ _=>(a7 (i:=0) (by show List.Nodup [("within":Str),("deep":Str)];decide +kernel) rfl (Or.inl rfl))) (λ_ _ _ _ _=>cO) (λ_ _ _ _ _=>(bB (aD (pv 0) (aD (bO eB (pv 1) aE) aC))))) aC))))))))
 (aI (aQ dD))))),?_⟩
 refine eF (wY (K:=K) (aB (bJ (aB (aA h0) (aB aF aL))) aL) λwl vs1 H1 s1 hw q1=>?_);have hw0:H wl=none:=s1.free hw;have s1':Same H (upd H1 wl (.lst vs1)):=s1.trans (aR hw _)
 refine eF (yj (c9 (vV (λσ G=>∃ (st:List (D × Int)) (p:Int) (n:Nat) (xs:List V) (z3 z4:Option V),σ=[some v0,some (.ref wl),some (.int p),z3,z4]/\G wl=some (.lst xs)/\Dats K G (st.reverse.map pr) xs/\Same H G/\lP n st p=iE x/\0<=p/\p<=40/\(n:Int)=50 - p/\(xs.length:Int)<=1+3 * p)
  mu2 ?_ ?_ ?_)))
 ·refine ⟨[(x,1)],0,50,vs1,none,none,rfl,aH,(aR hw _).dats q1,s1',rfl,by decide,by decide,by decide,?_⟩;rw [<- q1.length];simp
 ·rintro σ G ⟨st,p,n,xs,z3,z4,rfl,hG,hd,sG,lp,p0,p1,en,lx⟩;refine ⟨_,rfl,!xs.isEmpty,.inl ⟨xs,SqL.of hG,rfl⟩,?_⟩
  cases st with
  | nil =>
   have ex:=hd.nilE;subst ex;rw [if_neg (by simp)];obtain ⟨m,rfl⟩:∃ m,n=m+1:=⟨n - 1,by omega⟩
   have lp':iE x=true:=lp.symm;refine post _ _ sG ?_;rw [lp'];exact Dat.blI _
  | cons e st =>
   obtain ⟨y,dp⟩:=e;rw [List.reverse_cons,List.map_append] at hd;obtain ⟨us,v,ex,hu,hv⟩:=qW hd;subst ex;obtain ⟨a,ws,ev,hq,hws⟩:=hv.tupE;obtain ⟨vy,vd,ew,hy,hdp⟩:=iJ hws;have edp:=hdp.intE;subst edp ew ev;rw [if_pos (by simp)];refine ⟨_,rfl,.inl ⟨rfl,_,SqL.of hG⟩,wl,us++[.ref a],.ref a,rfl,rfl,hG,(by simp),?_⟩;rw [List.dropLast_concat];have bt:But wl G (upd G wl (.lst us)):=But.upd (Same.refl G).but;have g2:fE K G (upd G wl (.lst us)):=bt.grow hG aH;refine ⟨a,[vy,.int dp],rfl,bt.sqT hG hq,rfl,vy,_,rfl,.int dp,_,rfl,rfl,?_⟩;have s2:Same H (upd G wl (.lst us)):=λb o hb=>bt b o (aM hb hw0) (sG b o hb);have hy2:=Dat.mono g2 _ hy;have hu2:=Dats.mono g2 _ hu;refine ⟨_,rfl,p,1,rfl,rfl,?_⟩;dsimp only;refine aS (K:=K) (b:=decide (40 < p+1) || (decide (8 < dp) || !eR y)) ?_ (λc H3 s3=>?_) (λc H3 s3=>?_)
   ·exact cI (aJ (cV (aA (K:=K) (Dat.intI (p+1))) aF)) λ_=>cI (aJ (cV (aA (K:=K) (Dat.intI dp)) aF)) λ_=>bS (bE (bN (aB (aA hy2) aL) ⟨y,rfl,rfl⟩))
   ·refine post _ _ (s2.trans s3) ?_;obtain ⟨m,rfl⟩:∃ m,n=m+1:=⟨n - 1,by omega⟩
    have lp':iE x=false:=by rw [<- lp];show (if (decide (40 < p+1) || (decide (8 < dp) || !eR y))=true then false else _)=false;rw [if_pos c]
    rw [lp'];exact Dat.blI _
   ·obtain ⟨m,rfl⟩:∃ m,n=m+1:=⟨n - 1,by omega⟩
    have lp':lP m (((c8 y).map λx=>(x,dp+1)).reverse++st) (p+1)=iE x:=by
     rw [<- lp];show _=(if (decide (40 < p+1) || (decide (8 < dp) || !eR y))=true then false else _)
     rw [if_neg (by rw [c];exact Bool.false_ne_true)]
    simp only [Bool.or_eq_false_iff,decide_eq_false_iff_not,Bool.not_eq_false'] at c;obtain ⟨c1,c2,c3⟩:=c;obtain ⟨kd,r,ey⟩:=pI c3;have few:=pw c3;have hw3:=s3 _ _ (show upd G wl (.lst us) wl=some (.lst us) from aH);refine ⟨_,rfl,.inl ⟨rfl,_,SqL.of hw3⟩,?_⟩;refine rG (K:=K) (cs:=c8 y) (bN (R:=iZ) (aB (aA (s3.dat hy2)) aL) ⟨kd,r,by rw [ey],by rw [ey]⟩) (by omega) ((c8 y).map λz=>pr (z,dp+1)) (List.length_map _) rfl (λH4 i z vz d s4 hz hi hvz=>?_) (λl ys H5 hl s5 hl5 hd5=>?_)
    ·rw [List.getElem?_map,hz] at hi;cases hi;exact bJ (aB (aA hvz) (aB (fV (aA (Dat.intI dp)) aF) aL))
    ·have hw5:=s5 _ _ hw3;have ly:ys.length=(c8 y).length:=by rw [<- hd5.length,List.length_map]
     have lu:us.length=st.length:=by rw [<- hu.length,List.length_map,List.length_reverse]
     rw [List.length_append,List.length_singleton] at lx;have b5:But wl H5 (upd H5 wl (.lst (us++ys))):=But.upd (Same.refl H5).but;have g5:fE K H5 (upd H5 wl (.lst (us++ys))):=b5.grow hw5 aH;refine ⟨wl,l,us,ys,rfl,rfl,hw5,hl5,cW (by omega),?_⟩;refine ⟨⟨_,p+1,m,us++ys,_,_,rfl,aH,?_,?_,lp',by omega,by omega,by omega,?_⟩,?_⟩
     ·rw [List.reverse_append,List.reverse_reverse,List.map_append,List.map_map];exact Dats.append (Dats.mono g5 _ ((s3.trans s5).dats hu2)) (Dats.mono g5 _ hd5)
     ·exact λb o hb=>b5 b o (aM hb hw0) (s5 _ _ (s3 _ _ (s2 _ _ hb)))
     ·rw [List.length_append];omega
     ·show (50 - (p+1)).toNat < (50 - p).toNat;omega
 ·intro σ G Q1 Q2 hQ hc;obtain ⟨v,e,k',tr,q⟩:=hc;exact ⟨v,e,k',tr,hQ _ _ q⟩
theorem tF (T:Txt P w K mg) (KF:Ok P w base k T.Jw (spD K xq)):Ok P w base (k+1) T.Hw (spD K λds d=>∃ x,ds=[x]/\iE x=true/\d=.non):=by
 refine T.Hw.f.ok sc_need_tree (λvs H Q E h=>?_) (λcdv A outer s H vs Q E hr h=>?_)
 ·obtain ⟨ds,d,hd,⟨x,rfl,_,rfl⟩,_⟩:=h;exact hd.length.symm
 have nd:=sc_need_tree.nd;obtain ⟨ds,d,hd,⟨x,rfl,hx,rfl⟩,post⟩:=h;obtain ⟨v0,rfl,h0⟩:=jw hd;refine ⟨_,(aI (bL (cQ (bQ (pc (D:=T.Jw) KF hr (aD (pv 0) aC)) (λ_=>rfl))) (aI jQ) aW)),?_⟩;refine iQ (b:=!iE x) (bS (bE (bN (aB (aA h0) aL) ⟨x,rfl,rfl⟩))) (λc H1 s1=>?_) (λc H1 s1=>?_)
 ·rw [hx] at c;cases c
 ·exact post _ _ s1 Dat.nonI
def m5 (n:Nat) (ds es:List D):Prop:=∃ t,ds=[toD t]/\okT t/\a9 t<=n/\a8 t<=200/\es=(bC t).map toD
theorem gN (t:Tr):bC t=t::(cR t).flatMap bC:=by cases t <;> simp [bC,cR]
variable {t x:Tr}
theorem CM (h:okT t) (hx:x ∈ cR t):okT x/\a9 x+1<=a9 t/\a8 x+1<=a8 t:=by
 cases t with
 | num n=>simp [cR] at hx
 | arg n=>simp [cR] at hx
 | two o a b =>
  simp only [cR,List.mem_cons,List.not_mem_nil,or_false] at hx;rcases hx with rfl | rfl
  ·exact ⟨h.2.1,by simp only [a9];omega,by simp only [a8];omega⟩
  ·exact ⟨h.2.2,by simp only [a9];omega,by simp only [a8];omega⟩
 | pick a b c =>
  simp only [cR,List.mem_cons,List.not_mem_nil,or_false] at hx;rcases hx with rfl | rfl | rfl
  ·exact ⟨h.1,by simp only [a9];omega,by simp only [a8];omega⟩
  ·exact ⟨h.2.1,by simp only [a9];omega,by simp only [a8];omega⟩
  ·exact ⟨h.2.2,by simp only [a9];omega,by simp only [a8];omega⟩
noncomputable def vR (t:Tr) (i:Nat):List Tr:=t::((cR t).take i).flatMap bC
variable {i:Nat}
theorem zt (h:(cR t)[i]?=some x):vR t (i+1)=vR t i++bC x:=by unfold vR;rw [List.take_add_one,h];simp
theorem B0 (t:Tr):vR t (cR t).length=bC t:=by unfold vR;rw [List.take_length,gN]
theorem DL (t:Tr) (i:Nat):(vR t i).length<=a8 t:=by
 rw [<- cC t,gN];unfold vR;rw [List.length_cons,List.length_cons]
 have h:((cR t).take i).flatMap bC++((cR t).drop i).flatMap bC=(cR t).flatMap bC:=by rw [<- List.flatMap_append,List.take_append_drop]
 have h2:=congrArg List.length h;rw [List.length_append] at h2;omega
theorem DJ (t:Tr):∃ kd r,toD t=.tup (.str kd::r):=by cases t <;> exact ⟨_,_,rfl⟩
variable {n:Nat}
theorem yQ (T:Txt P w K mg) (Hf:Ok P w base k T.GR (spD K iZ)) (JS:Ok P w base k T.IS (jC K (m5 n))):Ok P w base (k+1) T.IS (jC K (m5 (n+1))):=by
 refine T.IS.f.ok sc_walked (λvs H Q E h=>?_) (λcdv A outer s H vs Q E hr h=>?_)
 ·obtain ⟨ds,es,hd,⟨t,rfl,_⟩,_⟩:=h;exact hd.length.symm
 have nd:=sc_walked.nd;obtain ⟨ds,es,hd,⟨t,rfl,ht,hn,hz,rfl⟩,post⟩:=h;obtain ⟨v0,rfl,h0⟩:=jw hd;refine ⟨_,(aG (bT (i:=1) nd rfl (Or.inl rfl) (bR (aD (pv 0) aC)))
 (aG (iV PassesOwn.never rfl (j3 (pc (D:=T.GR) Hf hr (aD (pv 0) aC))) (a7 (i:=2) nd rfl (Or.inl rfl)) (aI (bW (eQ F.plainAttrs_list F.slot_list_extend F.type_list_extend jO (pv 1) (aD (pc (D:=T.IS) JS hr (aD (pv 2) aC)) aC)))))
 (aI (aQ (pv 1))))),?_⟩
 refine eF (wY (K:=K) (aB (aA h0) aL) λwl vs1 H1 s1 hw q1=>?_);have hw0:H wl=none:=s1.free hw;have s1':Same H (upd H1 wl (.lst vs1)):=s1.trans (aR hw _);obtain ⟨kd,r,ek⟩:=DJ t;refine c9 (RE.use (bN (R:=iZ) (d:=.tup (c8 (toD t))) (aB (aA (K:=K) (k:=0) (s1'.dat h0)) aL) ⟨kd,r,by rw [ek],by rw [ek]⟩) λv4 H4 s4 q4=>?_);rw [(mE t ht).2] at q4;obtain ⟨a,vs,ea,hq,hds⟩:=q4.tupE;subst ea;have hl:=hds.length;rw [List.length_map] at hl;refine ⟨a,rfl,⟨vs,hq⟩,sD (xs:=vs) (λi σ G=>∃ (z:Option V) (ys:List V),σ=[some v0,some (.ref wl),z]/\Same H G/\SqT K G a vs/\Dats K G ((cR t).map toD) vs/\G wl=some (.lst ys)/\Dats K G ((vR t i).map toD) ys) ?_ (λi σ G _ ⟨z,ys,_,_,p,_⟩=>p) ?_ ?_⟩
 ·exact ⟨none,vs1,rfl,s1'.trans s4,hq,hds,s4 _ _ aH,(show Dats K H4 ([t].map toD) vs1 from ((aR hw _).trans s4).dats q1)⟩
 ·rintro i vx σ G hi ⟨z,ys,rfl,sG,hqG,hdG,hwG,hyG⟩;obtain ⟨dx,ex,hx⟩:=hdG.getV hi;rw [List.getElem?_map] at ex
  cases hk:(cR t)[i]? with
  | none=>rw [hk] at ex;cases ex
  | some x =>
   rw [hk] at ex;cases ex;obtain ⟨k1,k2,k3⟩:=CM ht (List.mem_of_getElem? hk);refine ⟨_,rfl,.inl ⟨rfl,_,SqL.of hwG⟩,_,rfl,[toD x],_,(Dats.cons hx Dats.nil:Dats K G [toD x] [vx]),⟨x,rfl,k1,by omega,by omega,rfl⟩,λr us H5 s5 hr5 _ hd5=>?_⟩;have hw5:=s5 _ _ hwG;have b6:But wl H5 (upd H5 wl (.lst (ys++us))):=But.upd (Same.refl H5).but;have g6:fE K H5 (upd H5 wl (.lst (ys++us))):=b6.grow hw5 aH;have ly:ys.length<=a8 t:=by rw [<- hyG.length,List.length_map];exact DL t i
   have lu:us.length=a8 x:=by rw [<- hd5.length,List.length_map,cC]
   refine ⟨wl,r,ys,us,rfl,rfl,hw5,hr5,cW (by omega),some vx,ys++us,rfl,λb o hb=>b6 b o (aM hb hw0) (s5 _ _ (sG _ _ hb)),g6.tup _ _ (s5.sqT hqG),Dats.mono g6 _ (s5.dats hdG),aH,?_⟩;rw [zt hk,List.map_append];exact Dats.append (Dats.mono g6 _ (s5.dats hyG)) (Dats.mono g6 _ hd5)
 ·rintro σ G ⟨z,ys,rfl,sG,hqG,hdG,hwG,hyG⟩;refine ⟨_,rfl,post wl ys G sG hwG hw0 ?_⟩;rw [<- hl,B0] at hyG;exact hyG
def qr (K:W.Frag) (n:Nat):Sp:=λvs H Q _=>∃ (a t:Addr) (ns:List Int) (room p q c:Int),vs=[.ref a,.ref t,.int room]/\Scr K H a ns/\H t=some (.lst [.int p,.int q,.int c])/\0<=p/\0<=c/\c<=60/\room<=n/\1<=n /\
 ∀ (v:V) (H':Hp) (X:Tr) (p' q' c':Int),But t H H'->H' t=some (.lst [.int p',.int q',.int c'])->0<=p'->0<=c'->c'<=c->okT X->((a9 X:Int)=1\/(a9 X:Int)<=room)->(a8 X:Int)<=1+3 * (c - c')->Dat K H' (toD X) v->Q v H'
noncomputable def vP (Ts:List Tr):Nat:=(Ts.map a8).sum
theorem zp (Ts:List Tr) (x:Tr):vP (Ts++[x])=vP Ts+a8 x:=by simp [vP]
def DU:Tr->Prop
 | .num n=>0<=n/\n<=9999
 | .arg k=>0<=k/\k<=3
 | _=>False
theorem CQ (h:DU x):okT x/\a9 x=1/\a8 x=1:=by
 cases x with
 | num n=>exact ⟨h,rfl,rfl⟩
 | arg n=>exact ⟨h,rfl,rfl⟩
 | two o a b=>exact h.elim
 | pick a b c=>exact h.elim
variable {nm:Str}
theorem BQ {Ts:List Tr} {room:Int} (hr:2<=room) (ok:∀ x ∈ Ts,okT x/\((a9 x:Int)=1\/(a9 x:Int)<=room - 1)) (h:(nm="pick"/\Ts.length=3)\/((nm="add"\/nm="sub"\/nm="mul"\/nm="less")/\Ts.length=2)) :
  ∃ X:Tr,toD X=.tup (.str nm::Ts.map toD)/\okT X/\(a9 X:Int)<=room/\a8 X=1+vP Ts:=by
 rcases h with ⟨rfl,hl⟩ | ⟨hn,hl⟩
 ·match Ts,hl with
  | [a,b,c],_ =>
   have h1:=ok a (by simp);have h2:=ok b (by simp);have h3:=ok c (by simp);refine ⟨.pick a b c,rfl,⟨h1.1,h2.1,h3.1⟩,?_,?_⟩
   ·simp only [a9];omega
   ·simp [a8,vP];omega
 ·match Ts,hl with
  | [a,b],_ =>
   have h1:=ok a (by simp);have h2:=ok b (by simp);refine ⟨.two nm a b,rfl,⟨hn,h1.1,h2.1⟩,?_,?_⟩
   ·simp only [a9];omega
   ·simp [a8,vP];omega
theorem tj (T:Txt P w K mg) (Hn:Ok P w base k T.GV (qm K)) (Hv:Ok P w base k T.Ha (qp K)) (Jm:Ok P w base k T.HJ (qr K n)):Ok P w base (k+1) T.HJ (qr K (n+1)):=by
 refine T.HJ.f.ok sc__law_tree (λvs H Q E h=>?_) (λcdv A outer s H vs Q E hr h=>?_)
 ·obtain ⟨a,t,ns,room,p,q,c,rfl,_⟩:=h;rfl
 have nd:=sc__law_tree.nd;obtain ⟨a,t,ns,room,p,q,c,rfl,hS,hT,hp,hc,hc2,hroom,_,post⟩:=h;refine ⟨_,(aG (bT (i:=3) nd rfl (Or.inl rfl) (bB (aD aP (aD (pc (D:=T.GV) Hn hr (aD (pv 0) (aD (pv 1) (aD aE aC)))) aC))))
 (aG (bL (aN bY (pc (D:=T.GV) Hn hr (aD (pv 0) (aD (pv 1) (aD aE aC)))) aE (aU _)) (aI (bT (i:=3) nd rfl (Or.inl rfl) (bB (aD aP (aD (pc (D:=T.Ha) Hv hr (aD (pv 0) (aD (pv 1) (aD (bR (aD aE (aD aE (aD aE (aD aE (aD aE (aD aE (aD aE (aD aE aC))))))))) aC)))) aC))))) aW)
 (aG (bL (PW.pt (dW (aN kN (pv 2) aE (aU _)) (dW (aN kN (aT bP (pv 1) aE) aE (aU _)) (dY (aN bY (pc (D:=T.GV) Hn hr (aD (pv 0) (aD (pv 1) (aD aE aC)))) aE (aU _)))))) (aI (aQ (pv 3))) aW)
 (aG (x9 (pv 1) aE uI aE EN mW)
 (aG (bT (i:=4) nd rfl (Or.inl rfl) (pc (D:=T.Ha) Hv hr (aD (pv 0) (aD (pv 1) (aD (bR (aD aP (aD aP (aD aP (aD aP (aD aP (aD aP aC))))))) aC)))))
 (aG (bT (i:=5) nd rfl (Or.inl rfl) (fM (aN bY (pv 4) aP (aU _)) aE aE))
 (aI (aQ (bO C4 (bB (aD (pv 4) aC)) (dQ cX rfl T.Hl dB (aD (dE (own:=["_law_k"]) (fr:=[0,1,2]) (N':=["_law_k","_law_script","_law_town","_law_room"]) (lA rfl T.Js (aD (pv 5) aC)) rfl (by show cZ ["_law_script","_law_town","_law_room","_law_leaf","_law_name","_law_many"] (λx=>(aO kT).names.lookup x) _ _ _ _=true;decide +kernel) rfl (λ_ _ _ _ _=>(a7 (i:=0) (by show List.Nodup [("_law_k":Str),("_law_script":Str),("_law_town":Str),("_law_room":Str)];decide +kernel) rfl (Or.inl rfl))) (λ_ _ _ _ _=>cO) (λ_ _ _ _ _=>(pc (D:=T.HJ) Jm hr (aD (pv 1) (aD (pv 2) (aD (bO tM (pv 3) aE) aC)))))) aC))))))))))),?_⟩
 refine eF ⟨_,rfl,_,rfl,a,t,ns,4,p,q,[.int c],rfl,hS,hT,hp,by decide,by decide,λr1 H1 p1 q1 b1 t1 g1 r1a r1b=>⟨cW (by simp),λl1 hl1=>?_⟩⟩;have ne1:l1≠t:=λz=>by rw [z,t1] at hl1;cases hl1
 have b2:=b1.trans (aR hl1 (.tup [.str "arg",.int r1])).but;have t2:upd H1 l1 (.tup [.str "arg",.int r1]) t=some (.lst [.int p1,.int q1,.int c]):=by rw [aZ (Ne.symm ne1)];exact t1
 have d2:Dat K (upd H1 l1 (.tup [.str "arg",.int r1])) (toD (.arg r1)) (.ref l1):=Dat.tupI (SqT.of aH) (Dats.cons (Dat.strI _) (Dats.cons (Dat.intI _) Dats.nil));refine oO (λσ G=>∃ (vL:V) (L:Tr) (p q:Int),σ=[some (.ref a),some (.ref t),some (.int room),some vL,none,none]/\But t H G/\G t=some (.lst [.int p,.int q,.int c])/\0<=p/\DU L/\Dat K G (toD L) vL) ?_ (λhrest=>?_)
 case refine_2 =>
  refine ⟨_,rfl,_,rfl,a,t,ns,2,p1,q1,[.int c],rfl,hS.but b2 hT,t2,g1,by decide,by decide,λr3 H3 p3 q3 b3 t3 g3 r3a r3b=>?_⟩;refine ⟨rfl,_,rfl,?_⟩;refine qE (λcc=>?_) (λcc=>?_)
  ·refine ⟨_,rfl,_,rfl,cW (by decide),λl hl=>?_⟩;have nel:l≠t:=λz=>by rw [z,t3] at hl;cases hl
   have b4:=(b2.trans b3).trans (aR hl (.lst [.int 0,.int 1,.int 2,.int 5,.int 99,.int 100,.int 1234,.int 9999])).but;refine ⟨a,t,l,ns,_,p3,q3,[.int c],rfl,hS.but b4 hT,SqL.of aH,nel,by decide,by decide,(by rw [aZ (Ne.symm nel)];exact t3),g3,λi x H5 p5 q5 b5 t5 g5 hx=>⟨cW (by simp),λl6 hl6=>?_⟩⟩;have ne6:l6≠t:=λz=>by rw [z,t5] at hl6;cases hl6
   obtain ⟨m,em,hm⟩:∃ m:Int,x=.int m/\0<=m/\m<=9999:=by have:=List.mem_of_getElem? hx;simp only [List.mem_cons,List.not_mem_nil,or_false] at this;rcases this with e | e | e | e | e | e | e | e <;> exact ⟨_,e,by decide,by decide⟩
   subst em;exact hrest _ _ ⟨.ref l6,.num m,p5,q5,rfl,(b4.trans b5).trans (aR hl6 _).but,(by rw [aZ (Ne.symm ne6)];exact t5),g5,hm,Dat.tupI (SqT.of aH) (Dats.cons (Dat.strI _) (Dats.cons (Dat.intI _) Dats.nil))⟩
  ·exact hrest _ _ ⟨.ref l1,.arg r1,p3,q3,rfl,b2.trans b3,t3,g3,⟨r1a,by omega⟩,Dat.mono (b3.grow t2 t3) _ d2⟩
 rintro σ G ⟨vL,L,p,q,rfl,bG,tG,hp,hL,dL⟩;obtain ⟨okL,dpL,szL⟩:=CQ hL
 have back:∀ (G':Hp) (p' q':Int),But t G G'->G' t=some (.lst [.int p',.int q',.int c])->0<=p'->Q vL G':=λG' p' q' b' t' g' =>
  post vL G' L p' q' c (bG.trans b') t' g' hc (Int.le_refl _) okL (.inl (by omega)) (by omega) (Dat.mono (b'.grow tG t') _ dL)
 refine c9 ⟨_,rfl,room,2,rfl,rfl,_,rfl,?_⟩;refine qE (λc1=>?_) (λc1=>?_)
 ·exact ⟨_,rfl,back G p q (Same.refl G).but tG hp⟩
 have c1':¬ room < 2:=of_decide_eq_false (Bool.eq_false_iff.mpr c1);refine ⟨_,rfl,t,_,2,_,rfl,rfl,SqL.of tG,at2,c,1,rfl,rfl,_,rfl,?_⟩;refine qE (λc2=>?_) (λc2=>?_)
 ·exact ⟨_,rfl,back G p q (Same.refl G).but tG hp⟩
 have c2':¬ c < 1:=of_decide_eq_false (Bool.eq_false_iff.mpr c2);refine ⟨_,rfl,_,rfl,a,t,ns,4,p,q,[.int c],rfl,hS.but bG hT,tG,hp,by decide,by decide,λr3 H3 p3 q3 b3 t3 g3 r3a r3b=>?_⟩;refine ⟨rfl,_,rfl,?_⟩;refine qE (λc3=>?_) (λc3=>?_)
 ·exact ⟨_,rfl,back H3 p3 q3 b3 t3 g3⟩
 refine ⟨_,rfl,t,_,2,_,rfl,rfl,(by decide),SqL.of t3,rfl,c,1,rfl,rfl,t,_,2,2,rfl,rfl,t3,ix2,?_⟩;have b4:But t H (upd H3 t (.lst [.int p3,.int q3,.int (c - 1)])):=But.upd (bG.trans b3);refine ⟨_,rfl,_,rfl,cW (by decide),λl hl=>?_⟩;have nel:l≠t:=λz=>by rw [z,aH] at hl;cases hl
 have b5:=b4.trans (aR hl (.lst [.str "add",.str "add",.str "sub",.str "mul",.str "less",.str "pick"])).but;refine ⟨a,t,l,ns,_,p3,q3,[.int (c - 1)],rfl,hS.but b5 hT,SqL.of aH,nel,by decide,by decide,(by rw [aZ (Ne.symm nel)];exact aH),g3,λi x H5 p5 q5 b6 t5 g5 hx=>?_⟩;have bH:=b5.trans b6
 obtain ⟨nm,en,hnm⟩:∃ nm:Str,x=.str nm/\(nm="pick"\/(nm="add"\/nm="sub"\/nm="mul"\/nm="less")):=by
  have:=List.mem_of_getElem? hx;simp only [List.mem_cons,List.not_mem_nil,or_false] at this;rcases this with e | e | e | e | e | e
  ·exact ⟨_,e,.inr (.inl rfl)⟩
  ·exact ⟨_,e,.inr (.inl rfl)⟩
  ·exact ⟨_,e,.inr (.inr (.inl rfl))⟩
  ·exact ⟨_,e,.inr (.inr (.inr (.inl rfl)))⟩
  ·exact ⟨_,e,.inr (.inr (.inr (.inr rfl)))⟩
  ·exact ⟨_,e,.inl rfl⟩
 subst en
 obtain ⟨many,hmany,hif⟩:∃ many:Nat,((nm="pick"/\many=3)\/((nm="add"\/nm="sub"\/nm="mul"\/nm="less")/\many=2))/\∀ (A B:Prop),(A->many=3->False)->True:=by
  rcases hnm with h | h
  ·exact ⟨3,.inl ⟨h,rfl⟩,λ_ _ _=>trivial⟩
  ·exact ⟨2,.inr ⟨h,rfl⟩,λ_ _ _=>trivial⟩
 clear hif;dsimp only;refine oO (λσ G=>σ=[some (.ref a),some (.ref t),some (.int room),some vL,some (.str nm),some (.int many)]/\G=H5) ?_ (λhrest=>?_)
 case refine_2 =>
  refine ⟨_,rfl,rfl,_,rfl,?_⟩;refine qE (λcc=>?_) (λcc=>?_)
  ·have e:V.str nm=V.str "pick":=of_decide_eq_true cc;injection e with e;rcases hmany with ⟨_,rfl⟩ | ⟨h,_⟩
   ·exact hrest _ _ ⟨rfl,rfl⟩
   ·subst e;exact absurd h (by decide +kernel)
  ·have e:¬ V.str nm=V.str "pick":=of_decide_eq_false (Bool.eq_false_iff.mpr cc);rcases hmany with ⟨h,_⟩ | ⟨_,rfl⟩
   ·exact absurd (by rw [h]) e
   ·exact hrest _ _ ⟨rfl,rfl⟩
 rintro σ G ⟨rfl,rfl⟩;have many_le:2<=many/\many<=3:=by rcases hmany with ⟨_,h⟩ | ⟨_,h⟩ <;> omega
 refine ⟨_,rfl,cW (by simp),λe he=>?_⟩;have nee:e≠t:=λz=>by rw [z,t5] at he;cases he
 have t6:upd G e (.tup [.str nm]) t=some (.lst [.int p5,.int q5,.int (c - 1)]):=by rw [aZ (Ne.symm nee)];exact t5
 have b7:=bH.trans (aR he (.tup [.str nm])).but;dsimp only;refine iO ?_
 refine pX many (λR hR=>⟨_,rfl,hR⟩) (by omega) rfl
  (λl i G'=>∃ (Ts:List Tr) (ys:List V) (p' q' c':Int),But t (upd G e (.tup [.str nm])) G'/\G' t=some (.lst [.int p',.int q',.int c'])/\0<=p'/\0<=c'/\c'<=c - 1/\G' l=some (.lst ys)/\Ts.length=i/\(∀ x ∈ Ts,okT x/\((a9 x:Int)=1\/(a9 x:Int)<=room - 1))/\(vP Ts:Int)<=i+3 * (c - 1 - c')/\Dats K G' (Ts.map toD) ys) (λl hl=>?_) (λl i G' hl hi pn=>?_) (λl G' hl pn=>?_)
 ·have nl:l≠t:=λz=>by rw [z,t6] at hl;cases hl
  exact ⟨[],[],p5,q5,c - 1,(aR hl _).but,(by rw [aZ (Ne.symm nl)];exact t6),g5,by omega,Int.le_refl _,aH,rfl,(λx hx=>absurd hx (by simp)),by simp [vP],Dats.nil⟩
 ·obtain ⟨Ts,ys,p',q',c',bt,tt,gp,gc,gc2,hl',lT,okTs,sm,dT⟩:=pn;have nl:l≠t:=λz=>by rw [z,t6] at hl;cases hl
  have ly:ys.length=i:=by rw [<- dT.length,List.length_map,lT]
  refine ⟨_,rfl,_,rfl,_,rfl,room,1,rfl,rfl,a,t,ns,room - 1,p',q',c',rfl,hS.but (b7.trans bt) hT,tt,gp,gc,by omega,by omega,by omega,λv G2 X p2 q2 c2 bb t2 g2 h2 h2' okX dpX szX dX=>?_⟩;have hl2:=bb l _ nl hl';have g1:fE K G' G2:=bb.grow tt t2;have g3:fE K G2 (upd G2 l (.lst (ys++[v]))):=But.grow (t:=l) (But.upd (Same.refl G2).but) hl2 aH;refine ⟨ys,hl2,bX (by omega),⟨_,rfl⟩,Ts++[X],ys++[v],p2,q2,c2,?_,?_,g2,h2,by omega,aH,by rw [List.length_append,lT];rfl,?_,?_,?_⟩
  ·intro b o hb hbo;have nb:b≠l:=aM hbo hl;rw [aZ nb];exact bb b o hb (bt b o hb hbo)
  ·rw [aZ (Ne.symm nl)];exact t2
  ·intro x hx;rcases List.mem_append.mp hx with hx | hx
   ·exact okTs x hx
   ·rw [List.mem_singleton.mp hx];exact ⟨okX,dpX⟩
  ·rw [zp];omega
  ·rw [List.map_append];exact Dats.append (Dats.mono g3 _ (Dats.mono g1 _ dT)) (Dats.cons (Dat.mono g3 _ dX) Dats.nil)
 ·obtain ⟨Ts,ys,p',q',c',bt,tt,gp,gc,gc2,hl',lT,okTs,sm,dT⟩:=pn;have ly:ys.length=many:=by rw [<- dT.length,List.length_map,lT]
  refine ⟨l,ys,rfl,.inl ⟨SqL.of hl',λu hu=>?_⟩⟩;have nu:u≠t:=λz=>by rw [z,tt] at hu;cases hu
  have se:SqT K (upd G' u (.tup ys)) e [.str nm]:=(aR hu _).sqT (bt.sqT t6 (SqT.of aH));refine ⟨e,u,_,ys,rfl,rfl,se,SqT.of aH,(by simp),cW (by rw [List.length_singleton];omega),λz=>?_,λ_ x hx=>?_⟩
  ·rw [z] at ly;simp at ly;omega
  ·obtain ⟨X,eX,okX,dpX,szX⟩:=BQ (nm:=nm) (Ts:=Ts) (room:=room) (by omega) okTs (hmany.elim (λh=>.inl ⟨h.1,by omega⟩) (λh=>.inr ⟨h.1,by omega⟩));have nx:x≠t:=λz=>by rw [z,aZ (Ne.symm nu),tt] at hx;cases hx
   have s8:=(aR hu (.tup ys)).trans (aR hx (.tup ([.str nm]++ys)));refine post _ _ X p' q' c' ((b7.trans bt).trans s8.but) (s8 _ _ tt) gp gc (by omega) okX (.inr dpX) (by omega) ?_;rw [eX];exact Dat.tupI (SqT.of aH) (Dats.cons (Dat.strI _) (s8.dats dT))
theorem jz {b:Bool} (h:(!b)=true):b=false:=by cases b with | true=>cases h | false=>rfl
theorem gI {b:Bool} (h:(!b)=false):b=true:=by cases b with | true=>rfl | false=>cases h
noncomputable def sgn (c:Nat):Bool:=(!decide (([c]:List Nat) < ("a":Str).cps.toList)) && !decide (("z":Str).cps.toList < ([c]:List Nat))
noncomputable def kM:D->Bool
 | .str x=>(decide (1<=(x.length:Int)) && decide ((x.length:Int)<=8)) && (x.cps.toList.map sgn).all id
 | _=>false
def DY:D->Prop
 | .str x=>x.length<=sizeLine
 | _=>True
def zG (ds:List D) (d:D):Prop:=∃ x,ds=[x]/\DY x/\d=.bl (kM x)
theorem wz {x:D} (h:∀ y,x≠.str y):lZ x "str"=false:=by
 cases x with
 | str y=>exact absurd rfl (h y)
 | _=>rfl
theorem AJ {x:D} (h:∀ y,x≠.str y):kM x=false:=by
 cases x with
 | str y=>exact absurd rfl (h y)
 | _=>rfl
theorem wH (T:Txt P w K mg)  : Ok P w base (k+1) T.Jv (spD K zG):=by
 refine T.Jv.f.ok sc_is_name (λvs H Q E h=>?_) (λcdv A outer s H vs Q E hr h=>?_)
 ·obtain ⟨ds,d,hd,⟨x,rfl,_⟩,_⟩:=h;exact hd.length.symm
 have nd:=sc_is_name.nd;obtain ⟨ds,d,hd,⟨x,rfl,hx,rfl⟩,post⟩:=h;obtain ⟨v0,rfl,h0⟩:=jw hd;refine ⟨_,(aG (bL (PW.pt (dW (cQ (bQ (a6 (eZ Ax) rfl T.GM cG (cM (pv 0) (cM (fY (v:=.ty "str") rfl T.KL zT rfl) aC))) (λ_=>rfl))) (dY (cQ (pU kh kh aE (a6 sf rfl T.GO bU (aD (pv 0) aC)) (cK (v:=.int 8) rfl T.Hu ⟨_,rfl⟩)))))) (aI (aQ dD)) aW)
 (aI (aQ (a6 (jH rfl) rfl T.JV m7 (aD (dE (own:=["sign"]) (fr:=[]) (N':=["sign"]) (Fg (pv 0)) rfl (by show cZ ["thing"] (λx=>(aO nM).names.lookup x) _ _ _ _=true;decide +kernel) rfl (λ_ _ _ _ _=>(a7 (i:=0) (by show List.Nodup [("sign":Str)];decide +kernel) rfl (Or.inl rfl))) (λ_ _ _ _ _=>cO) (λ_ _ _ _ _=>(vv A0 A0 aP (pv 0) aP))) aC))))),?_⟩
 by_cases hs:∃ y,x=.str y
 ·obtain ⟨y,rfl⟩:=hs;have hx:y.length<=sizeLine:=hx;refine aS (K:=K) (b:=!(decide (1<=(y.length:Int)) && decide ((y.length:Int)<=8))) ?_ (λc H1 s1=>?_) (λc H1 s1=>?_)
  ·exact RT.as (cI (bS (bE (bZ (aA h0)))) λ_=>bS (aJ (mO (p:=λi j=>decide (i<=j)) (r:=λi j=>decide (i<=j)) aF (Ds (aA h0) hx) λ_=>aF))) rfl
  ·refine bF (K:=K) (d:=.bl (kM (.str y))) ?_ λv H' s q=>post v H' (s1.trans s) q
   have e:kM (.str y)=false:=by show (_ && _)=false;have c':=jz c;rw [c',Bool.false_and]
   rw [e];exact fG
  ·have c':=gI c
   have hy:y.cps.size<=8:=by rw [Bool.and_eq_true] at c';have:=of_decide_eq_true c'.2;have e:y.length=y.cps.size:=rfl;omega
   refine bF (K:=K) (d:=.bl (kM (.str y))) ?_ λv H' s q=>post v H' (s1.trans s) q
   have e:kM (.str y)=(y.cps.toList.map sgn).all id:=by show (_ && _)=_;rw [c',Bool.true_and]
   rw [e];refine lB (bs:=y.cps.toList.map sgn) (Fn (aA (s1.dat h0)) (by omega) _ (by simp) rfl (λH2 i c d s2 hc hd2=>?_));rw [List.getElem?_map,List.getElem?_map] at hd2;have hc':y.cps.toList[i]?=some c:=by simpa using hc
   rw [hc'] at hd2;cases hd2;refine RE.as (yW (p:=λi j=>!decide (j.cps.toList < i.cps.toList)) (q':=λi j=>!decide (j.cps.toList < i.cps.toList)) aK (aA (Dat.strI _)) λ_=>aK) rfl
 ·have hs':∀ y,x≠.str y:=λy e=>hs ⟨y,e⟩;refine aS (K:=K) (b:=true) ?_ (λc H1 s1=>?_) (λc=>nomatch c)
  ·exact RT.as (cI (b:=true) (c:=true) (RT.as (bS (bE (bZ (aA h0)))) (by rw [wz hs'];rfl)) λc=>nomatch c) rfl
  ·refine bF (K:=K) (d:=.bl (kM x)) ?_ λv H' s q=>post v H' (s1.trans s) q;rw [AJ hs'];exact fG
theorem Eu:∀ p ∈ TM,∃ i,p.2=.flat (.int i):=by intro p hp;simp only [TM,List.mem_cons,List.not_mem_nil,or_false] at hp;rcases hp with rfl | rfl | rfl <;> exact ⟨_,rfl⟩
noncomputable def f6:D->Bool
 | .tup (.str k::r)=>decide ((r.length:Int)+1=jV k TM 0) && (dO (r.getD 0 .non) 0 1 && (!decide (k="gap") || dO (r.getD 1 .non) 0 9999))
 | _=>false
theorem kI (k:Str) (r:List D):f6 (.tup (.str k::r))=(decide ((r.length:Int)+1=jV k TM 0) && (dO (r.getD 0 .non) 0 1 && (!decide (k="gap") || dO (r.getD 1 .non) 0 9999))):=rfl
def DP (ds:List D) (d:D):Prop:=∃ x,ds=[x]/\d=.bl (f6 x)
theorem uQ (k:Str):jV k TM 0=0\/jV k TM 0=2\/(k="gap"/\jV k TM 0=3):=by
 unfold jV;by_cases h1:k="hole"
 ·subst h1;exact .inr (.inl rfl)
 by_cases h2:k="gap"
 ·subst h2;exact .inr (.inr ⟨rfl,rfl⟩)
 by_cases h3:k="slot"
 ·subst h3;exact .inr (.inl rfl)
 have e:KTD.datumAt k TM=none:=by simp [TM,KTD.datumAt,h1,h2,h3]
 rw [e];exact .inl rfl
theorem FE {x:D} (h:d6 x=false):f6 x=false:=by
 unfold d6 at h;unfold f6;split at h
 ·cases h
 ·rename_i hn
  first
   | rfl
   | (split
      ·rename_i k r;exact absurd rfl (hn k r)
      ·rfl)
theorem wG (T:Txt P w K mg) (HC:Ok P w base k T.He (spD K jW)) (Ho:Ok P w base k T.GX (spD K iS)):Ok P w base (k+1) T.Ju (spD K DP):=by
 refine T.Ju.f.ok sc_is_mark (λvs H Q E h=>?_) (λcdv A outer s H vs Q E hr h=>?_)
 ·obtain ⟨ds,d,hd,⟨x,rfl,rfl⟩,_⟩:=h;exact hd.length.symm
 have nd:=sc_is_mark.nd;obtain ⟨ds,d,hd,⟨x,rfl,rfl⟩,post⟩:=h;obtain ⟨v0,rfl,h0⟩:=jw hd;refine ⟨_,(aG (bL (PW.pt (dW (cQ (bQ (pc (D:=T.He) HC hr (aD (pv 0) aC)) (λ_=>rfl))) (dY (aN ki (a6 aX rfl T.GO bU (aD (pv 0) aC)) (yS (cK (v:=.ref T.Hg) rfl T.GZ rfl) (aT aV (pv 0) aE) aE ⟨rfl,rfl,rfl,rfl⟩) (aU _))))) (aI (aQ dD)) aW)
 (aG (bL (cQ (bQ (pc (D:=T.GX) Ho hr (aD (aT aV (pv 0) aE) (aD aE (aD aE aC)))) (λ_=>rfl))) (aI (aQ dD)) aW)
 (aI (aQ (A4 (d4 ki (aT aV (pv 0) aE) aP (aU _)) (jh (pc (D:=T.GX) Ho hr (aD (aT aV (pv 0) aE) (aD aE (aD (cK (v:=.int 9999) rfl T.Ij ⟨_,rfl⟩) aC)))))))))),?_⟩
 cases ht:d6 x with
 | false =>
  refine aS (K:=K) (b:=true) ?_ (λc H1 s1=>?_) (λc=>nomatch c)
  ·exact RT.as (cI (b:=true) (c:=true) (RT.as (bS (bE (bN (aB (aA h0) aL) ⟨x,rfl,rfl⟩))) (by rw [ht];rfl)) λc=>nomatch c) rfl
  ·refine bF (K:=K) (d:=.bl (f6 x)) ?_ λv H' s q=>post v H' (s1.trans s) q;rw [FE ht];exact fG
 | true =>
  have ht':=ht;unfold d6 at ht';split at ht'
  ·rename_i kd r;have el:((((D.str kd)::r).length:Nat):Int)=(r.length:Int)+1:=by rw [List.length_cons];omega
   refine aS (K:=K) (b:=!decide ((r.length:Int)+1=jV kd TM 0)) ?_ (λc H1 s1=>?_) (λc H1 s1=>?_)
   ·have b1:=iA (K:=K) (dN (aA (σ:=f7 ["thing"] [v0]) (k:=0) h0)) (zi (i:=0) T.GN (aY (k:=0) (aA (σ:=f7 ["thing"] [v0]) (k:=0) h0) aF rfl) aF Eu);rw [el] at b1;exact RT.as (cI (b:=false) (RT.as (bS (bE (bN (aB (aA h0) aL) ⟨_,rfl,rfl⟩))) (by rw [ht];rfl)) λ_=>aJ b1) (Bool.false_or _)
   ·refine bF (K:=K) (d:=.bl (f6 (.tup (.str kd::r)))) ?_ λv H' s q=>post v H' (s1.trans s) q
    have e:f6 (.tup (.str kd::r))=false:=by rw [kI];rw [show decide ((r.length:Int)+1=jV kd TM 0)=false from jz c,Bool.false_and]
    rw [e];exact fG
   ·have c':decide ((r.length:Int)+1=jV kd TM 0)=true:=gI c;have hl:=of_decide_eq_true c';have h1:=s1.dat h0
    obtain ⟨y,r',er⟩:∃ y r',r=y::r':=by
     cases r with
     | nil=>rcases uQ kd with h | h | ⟨_,h⟩ <;> (rw [h] at hl;simp at hl)
     | cons y r'=>exact ⟨y,r',rfl⟩
    subst er;refine aS (K:=K) (b:=!dO y 0 1) (bS (bE (bN (R:=iS) (aB (aY (k:=1) (aA h1) aF rfl) (aB aF (aB aF aL))) ⟨y,0,1,rfl,rfl⟩))) (λc2 H2 s2=>?_) (λc2 H2 s2=>?_)
    ·refine bF (K:=K) (d:=.bl (f6 (.tup (.str kd::y::r')))) ?_ λv H' s q=>post v H' (s1.trans (s2.trans s)) q
     have e:f6 (.tup (.str kd::y::r'))=false:=by rw [kI,c',Bool.true_and];show (dO y 0 1 && _)=false;rw [show dO y 0 1=false from jz c2,Bool.false_and]
     rw [e];exact fG
    ·refine bF (K:=K) (d:=.bl (f6 (.tup (.str kd::y::r')))) ?_ λv H' s q=>post v H' (s1.trans (s2.trans s)) q;have h2:=s2.dat h1
     have e:f6 (.tup (.str kd::y::r'))=(!decide (kd="gap") || dO (r'.getD 0 .non) 0 9999):=by rw [kI,c',Bool.true_and];show (dO y 0 1 && (!decide (kd="gap") || dO (r'.getD 0 .non) 0 9999))=_;rw [show dO y 0 1=true from gI c2,Bool.true_and]
     rw [e];refine yh (tU (aY (k:=0) (aA h2) aF rfl) aK) λc3=>?_;have hk:kd="gap":=by simpa using c3
     obtain ⟨z,er⟩:∃ z,r'=[z]:=by
      rcases uQ kd with h | h | ⟨_,h⟩
      ·rw [h] at hl;simp at hl;omega
      ·rw [hk] at h;exact absurd h (by decide +kernel)
      ·rw [h] at hl
       match r',hl with
       | [z],_=>exact ⟨z,rfl⟩
       | [],h=>simp at h
       | _::_::_,h=>simp at h;omega
     subst er;exact bN (E:=E0) (R:=iS) (aB (aY (k:=2) (aA h2) aF rfl) (aB aF (aB aF aL))) ⟨z,0,9999,rfl,rfl⟩
  ·cases ht'
noncomputable def mn:D->Bool
 | .tup (.str k::_)=>decide (k ∈ (["arg","pick"]:List Str))
 | _=>false
noncomputable def ppD:Nat->D->Bool
 | 0,_=>false
 | n+1,d=>f6 d || (eR d && (!mn d && ((c8 d).map (ppD n)).all id))
def Rpp (n:Nat) (ds:List D) (d:D):Prop:=∃ x,ds=[x,.int (4 - (n:Int))]/\d=.bl (ppD n x)
def DQ:Nat->List D->D->Prop
 | 0=>λ_ _=>False
 | n+1=>Rpp n
theorem je (T:Txt P w K mg) (KC:Ok P w base k T.Ju (spD K DP)) (JH:Ok P w base k T.IF (spD K zH)) (Hf:Ok P w base k T.GR (spD K iZ)) (Ia:Ok P w base k T.GT (spD K (DQ n))):Ok P w base (k+1) T.GT (spD K (Rpp n)):=by
 refine T.GT.f.ok sc_is_pattern_part (λvs H Q E h=>?_) (λcdv A outer s H vs Q E hr h=>?_)
 ·obtain ⟨ds,d,hd,⟨x,rfl,rfl⟩,_⟩:=h;exact hd.length.symm
 have nd:=sc_is_pattern_part.nd;obtain ⟨ds,d,hd,⟨x,rfl,rfl⟩,post⟩:=h;obtain ⟨v0,v1,rfl,h0,h1⟩:=iJ hd;refine ⟨_,(aG (bL (aN kg (pv 1) (cK (v:=.int 3) rfl T.GU ⟨_,rfl⟩) (aU _)) (aI (aQ dD)) aW)
 (aG (bL (bQ (pc (D:=T.Ju) KC hr (aD (pv 0) aC)) (λ_=>rfl)) (aI (aQ dD)) aW)
 (aG (bL (PW.pt (dW (cQ (bQ (pc (D:=T.IF) JH hr (aD (pv 0) aC)) (λ_=>rfl))) (dY (aN gT (aT aV (pv 0) aE) (bB (aD aP (aD aP aC))) (by with_unfolding_all rfl))))) (aI (aQ dD)) aW)
 (aI (aQ (a6 (jH rfl) rfl T.JV m7 (aD (dE (own:=["within"]) (fr:=[1]) (N':=["within","deep"]) (j3 (pc (D:=T.GR) Hf hr (aD (pv 0) aC))) rfl (by show cZ ["thing","deep"] (λx=>(aO hV).names.lookup x) _ _ _ _=true;decide +kernel) rfl (λ_ _ _ _ _=>(a7 (i:=0) (by show List.Nodup [("within":Str),("deep":Str)];decide +kernel) rfl (Or.inl rfl))) (λ_ _ _ _ _=>cO) (λ_ _ _ _ _=>(pc (D:=T.GT) Ia hr (aD (pv 0) (aD (bO eB (pv 1) aE) aC))))) aC))))))),?_⟩
 cases n with
 | zero =>refine aS (K:=K) (b:=true) (RT.as (aJ (cV (p:=λi j=>decide (j < i)) (aA h1) aF)) rfl) (λc H1 s1=>?_) (λc=>nomatch c);exact bF (K:=K) (d:=.bl false) fG λv H' s q=>post v H' (s1.trans s) q
 | succ n =>
  refine aS (K:=K) (b:=false) (RT.as (aJ (cV (p:=λi j=>decide (j < i)) (aA h1) aF)) (decide_eq_false (by omega))) (λc=>nomatch c) (λc H1 s1=>?_);have h0:=s1.dat h0;have h1:=s1.dat h1;refine aS (K:=K) (b:=f6 x) (bE (bN (aB (aA h0) aL) ⟨x,rfl,rfl⟩)) (λc H2 s2=>?_) (λc H2 s2=>?_)
  ·refine bF (K:=K) (d:=.bl true) fG λv H' s q=>post v H' (s1.trans (s2.trans s)) ?_;have e:ppD (n+1) x=true:=by unfold ppD;rw [c];rfl
   rw [e];exact q
  have h0:=s2.dat h0;have h1:=s2.dat h1
  have e1:ppD (n+1) x=(eR x && (!mn x && ((c8 x).map (ppD n)).all id)):=by show (f6 x || _)=_;rw [c,Bool.false_or]
  cases hn:eR x with
  | false =>refine aS (K:=K) (b:=true) (RT.as (cI (b:=true) (c:=true) (RT.as (bS (bE (bN (aB (aA h0) aL) ⟨x,rfl,rfl⟩))) (by rw [hn];rfl)) λc=>nomatch c) rfl) (λc H3 s3=>?_) (λc=>nomatch c);refine bF (K:=K) (d:=.bl false) fG λv H' s q=>post v H' (s1.trans (s2.trans (s3.trans s))) ?_;rw [e1,hn];exact q
  | true =>
   obtain ⟨kd,r,ek⟩:=pI hn;have few:=pw hn;have h0':Dat K H2 (.tup (.str kd::r)) v0:=by rw [<- ek];exact h0
   refine aS (K:=K) (b:=mn x) (RT.as (cI (b:=false) (RT.as (bS (bE (bN (aB (aA h0) aL) ⟨x,rfl,rfl⟩))) (by rw [hn];rfl)) λ_=>aJ (nG (ys:=["arg","pick"]) (aY (k:=0) (aA h0') aF rfl) (bJ (aB aK (aB aK aL))))) (by rw [ek];exact Bool.false_or _)) (λc3 H3 s3=>?_) (λc3 H3 s3=>?_)
   ·refine bF (K:=K) (d:=.bl false) fG λv H' s q=>post v H' (s1.trans (s2.trans (s3.trans s))) ?_;rw [e1,hn,c3];exact q
   ·have h1:=s3.dat h1;refine bF (K:=K) (d:=.bl (((c8 x).map (ppD n)).all id)) (lB (tT (cs:=c8 x) (bN (R:=iZ) (aB (aA (s3.dat h0)) aL) ⟨kd,r,by rw [ek],by rw [ek]⟩) (by omega) _ (by simp) rfl (λH4 i z vz d s4 hz hi hvz=>?_))) λv H' s q=>post v H' (s1.trans (s2.trans (s3.trans s))) ?_
    ·rw [List.getElem?_map,List.getElem?_map,hz] at hi;cases hi;exact bN (E:=E0) (R:=Rpp n) (aB (aA hvz) (aB (RE.as (fV (aA (s4.dat h1)) aF) (congrArg D.int (by omega:(4:Int) - ((n+1:Nat):Int)+1=4 - (n:Int)))) aL)) ⟨z,rfl,rfl⟩
    ·rw [e1,hn,c3];exact q
noncomputable def ni (k:Str):D->Bool
 | .tup (.str h::_)=>decide (h=k)
 | _=>false
noncomputable def dC:Nat->Str->D->List D
 | 0,_,_=>[]
 | n+1,k,d=>if ni k d=true then [d] else (c8 d).flatMap (dC n k)
def ky (n:Nat) (ds es:List D):Prop:=∃ x k,ds=[x,.str k]/\n<=3/\ppD n x=true/\es=dC n k x
theorem uR (h:f6 d=true):∃ k r,d=.tup (.str k::r):=by
 unfold f6 at h;split at h
 ·exact ⟨_,_,rfl⟩
 ·cases h
variable {r:List D}
theorem AI {k:Str} (h:f6 (.tup (.str k::r))=true):k="hole"\/k="gap"\/k="slot":=by
 rw [kI,Bool.and_eq_true] at h;have hl:=of_decide_eq_true h.1;unfold jV at hl;by_cases h1:k="hole"
 ·exact .inl h1
 by_cases h2:k="gap"
 ·exact .inr (.inl h2)
 by_cases h3:k="slot"
 ·exact .inr (.inr h3)
 have e:KTD.datumAt k TM=none:=by simp [TM,KTD.datumAt,h1,h2,h3]
 rw [e] at hl;dsimp only at hl;omega
theorem qw {k:Str} (h:k="hole"\/k="gap"\/k="slot"):KTD.inKeys k TB=false/\KTD.inKeys k TL=false:=by rcases h with rfl | rfl | rfl <;> decide +kernel
theorem yH (h:f6 d=true):c8 d=[]:=by obtain ⟨k,r,rfl⟩:=uR h;exact nq (qw (AI h)).1
theorem wR (h:ppD n d=true):∃ k r,d=.tup (.str k::r):=by
 cases n with
 | zero=>cases h
 | succ n =>
  have h':(f6 d || (eR d && (!mn d && ((c8 d).map (ppD n)).all id)))=true:=h;rw [Bool.or_eq_true] at h';rcases h' with h' | h'
  ·exact uR h'
  ·rw [Bool.and_eq_true] at h';exact pI h'.1
theorem tR (h:ppD (n+1) d=true):(c8 d).length<=3/\∀ c ∈ c8 d,ppD n c=true:=by
 have h':(f6 d || (eR d && (!mn d && ((c8 d).map (ppD n)).all id)))=true:=h;rw [Bool.or_eq_true] at h';rcases h' with h' | h'
 ·rw [yH h'];exact ⟨by simp,λc hc=>absurd hc (by simp)⟩
 ·rw [Bool.and_eq_true,Bool.and_eq_true] at h';refine ⟨pw h'.1,λc hc=>?_⟩;have z:=List.all_eq_true.mp h'.2.2 (ppD n c) (List.mem_map.mpr ⟨c,hc,rfl⟩);exact z
theorem xI {α β:Type} (f:α->List β) (m:Nat):∀ l:List α,(∀ x ∈ l,(f x).length<=m)->(l.flatMap f).length<=l.length * m
 | [],_=>by simp
 | x::l,h=>by have h1:=h x (by simp);have h2:=xI f m l λy hy=>h y (by simp [hy]);rw [List.flatMap_cons,List.length_append,List.length_cons,Nat.succ_mul];omega
theorem pD (k:Str):∀ (n:Nat) (d:D),ppD n d=true->(dC n k d).length<=3 ^ n
 | 0,d,h=>by cases h
 | n+1,d,h=>by
  unfold dC;split
  ·have:1<=3 ^ (n+1):=Nat.one_le_iff_ne_zero.mpr (by simp);simpa using this
  ·obtain ⟨h1,h2⟩:=tR h;have z:=xI (dC n k) (3 ^ n) (c8 d) λc hc=>pD k n c (h2 c hc);have z2:(c8 d).length * 3 ^ n<=3 * 3 ^ n:=Nat.mul_le_mul_right _ h1;rw [Nat.pow_succ,Nat.mul_comm (3 ^ n) 3];omega
theorem p3 (h:n<=3):3 ^ n<=27:=by
 match n,h with
 | 0,_=>decide
 | 1,_=>decide
 | 2,_=>decide
 | 3,_=>decide
theorem vm (T:Txt P w K mg) (Hf:Ok P w base k T.GR (spD K iZ)) (IH:Ok P w base k T.Hy (jC K (ky n))):Ok P w base (k+1) T.Hy (jC K (ky (n+1))):=by
 refine T.Hy.f.ok sc_marks_in (λvs H Q E h=>?_) (λcdv A outer s H vs Q E hr h=>?_)
 ·obtain ⟨ds,es,hd,⟨x,kk,rfl,_⟩,_⟩:=h;exact hd.length.symm
 have nd:=sc_marks_in.nd;obtain ⟨ds,es,hd,⟨x,kk,rfl,hn3,hp,rfl⟩,post⟩:=h;obtain ⟨v0,v1,rfl,h0,h1⟩:=iJ hd;refine ⟨_,(aG (bL (aN bY (aT aV (pv 0) aE) (pv 1) (aU _)) (aI (aQ (bR (aD (pv 0) aC)))) aW)
 (aG (bT (i:=2) nd rfl (Or.inl rfl) (bR aC))
 (aG (iV PassesOwn.never rfl (j3 (pc (D:=T.GR) Hf hr (aD (pv 0) aC))) (a7 (i:=3) nd rfl (Or.inl rfl)) (aI (bW (eQ F.plainAttrs_list F.slot_list_extend F.type_list_extend jO (pv 2) (aD (pc (D:=T.Hy) IH hr (aD (pv 3) (aD (pv 1) aC))) aC)))))
 (aI (aQ (pv 2)))))),?_⟩
 obtain ⟨kd,r,ek⟩:=wR hp;have h0':Dat K H (.tup (.str kd::r)) v0:=by rw [<- ek];exact h0
 have eh:ni kk x=decide (kd=kk):=by rw [ek];rfl
 obtain ⟨few,kok⟩:=tR hp;have cap:=pD kk (n+1) x hp;have cap3:=p3 hn3;refine aS (K:=K) (b:=ni kk x) (RT.as (aJ (bI (aY (k:=0) (aA h0') aF rfl) (aA h1))) eh.symm) (λc H1 s1=>?_) (λc H1 s1=>?_)
 ·refine hU ((gC (K:=K) (es:=[x]) (aB (aA (s1.dat h0)) aL)).use λl ys H2 hl s2 hy hd2=>?_);refine post l ys H2 (s1.trans s2) hy (s1.free hl) ?_;unfold dC;rw [if_pos c];exact hd2
 have em:dC (n+1) kk x=(c8 x).flatMap (dC n kk):=by show (if ni kk x=true then _ else _)=_;rw [if_neg (by rw [c];exact Bool.false_ne_true)]
 rw [em] at cap post;have h0:=s1.dat h0;have h1:=s1.dat h1;have hk1:=h1.strE;refine iG (K:=K) (es:=[]) (gC aL) λwl ys0 H2 hw s2 hy0 hd0=>?_;have hw0:H wl=none:=s1.free hw;refine c9 (RE.use (bN (R:=iZ) (d:=.tup (c8 x)) (aB (aA (K:=K) (k:=0) (s2.dat h0)) aL) ⟨kd,r,by rw [ek],by rw [ek]⟩) λv4 H4 s4 q4=>?_);obtain ⟨a,vs,ea,hq,hds⟩:=q4.tupE;subst ea;have hl:=hds.length;refine ⟨a,rfl,⟨vs,hq⟩,sD (xs:=vs) (λi σ G=>∃ (z:Option V) (ys:List V),σ=[some v0,some v1,some (.ref wl),z]/\Same H G/\SqT K G a vs/\Dats K G (c8 x) vs/\G wl=some (.lst ys)/\Dats K G (((c8 x).take i).flatMap (dC n kk)) ys) ?_ (λi σ G _ ⟨z,ys,_,_,p,_⟩=>p) ?_ ?_⟩
 ·exact ⟨none,ys0,rfl,s1.trans (s2.trans s4),hq,hds,s4 _ _ hy0,s4.dats hd0⟩
 ·rintro i vx σ G hi ⟨z,ys,rfl,sG,hqG,hdG,hwG,hyG⟩;obtain ⟨dx,ex,hx⟩:=hdG.getV hi;have hpx:=kok dx (List.mem_of_getElem? ex);subst hk1;refine ⟨_,rfl,.inl ⟨rfl,_,SqL.of hwG⟩,_,rfl,_,rfl,[dx,.str kk],_,(Dats.cons hx (Dats.cons (Dat.strI _) Dats.nil):Dats K G [dx,.str kk] [vx,.str kk]),⟨dx,kk,rfl,by omega,hpx,rfl⟩,λr us H5 s5 hr5 _ hd5=>?_⟩;have hw5:=s5 _ _ hwG;have b6:But wl H5 (upd H5 wl (.lst (ys++us))):=But.upd (Same.refl H5).but;have g6:fE K H5 (upd H5 wl (.lst (ys++us))):=b6.grow hw5 aH
  have et:((c8 x).take (i+1)).flatMap (dC n kk)=((c8 x).take i).flatMap (dC n kk)++dC n kk dx:=by rw [List.take_add_one,ex];simp
  have lt:(((c8 x).take (i+1)).flatMap (dC n kk)).length<=27:=by
   have e2:((c8 x).take (i+1)).flatMap (dC n kk)++((c8 x).drop (i+1)).flatMap (dC n kk)=(c8 x).flatMap (dC n kk):=by rw [<- List.flatMap_append,List.take_append_drop]
   have:=congrArg List.length e2;rw [List.length_append] at this;omega
  have ly:=hyG.length;have lu:=hd5.length;rw [et,List.length_append] at lt;refine ⟨wl,r,ys,us,rfl,rfl,hw5,hr5,cW (by omega),some vx,ys++us,rfl,λb o hb=>b6 b o (aM hb hw0) (s5 _ _ (sG _ _ hb)),g6.tup _ _ (s5.sqT hqG),Dats.mono g6 _ (s5.dats hdG),aH,?_⟩;rw [et];exact Dats.append (Dats.mono g6 _ (s5.dats hyG)) (Dats.mono g6 _ hd5)
 ·rintro σ G ⟨z,ys,rfl,sG,hqG,hdG,hwG,hyG⟩;refine ⟨_,rfl,post wl ys G sG hwG hw0 ?_⟩;rw [<- hl,List.take_length] at hyG;exact hyG
noncomputable def Fw:D->D
 | .tup (_::y::_)=>y
 | _=>.non
theorem wB {k:Str} (h:f6 (.tup (.str k::r))=true):∃ i r',r=.int i::r':=by
 rw [kI,Bool.and_eq_true,Bool.and_eq_true] at h;have hw:=h.2.1
 cases r with
 | nil=>cases hw
 | cons y r' =>
  have hw':dO y 0 1=true:=hw
  cases y with
  | int i=>exact ⟨i,r',rfl⟩
  | _=>cases hw'
theorem kJ {k:Str} (hk:k="hole"\/k="gap"\/k="slot"):∀ (n:Nat) (x m:D),ppD n x=true->m ∈ dC n k x->∃ i r,m=.tup (.str k::.int i::r)
 | 0,x,m,h,_=>by cases h
 | n+1,x,m,h,hm=>by
  unfold dC at hm;split at hm
  ·rename_i hh;have e:m=x:=by simpa using hm
   subst e;obtain ⟨k',r,rfl⟩:=wR h;have ek:k'=k:=of_decide_eq_true hh;subst ek;have h':(f6 (.tup (.str k'::r)) || (eR (.tup (.str k'::r)) && _))=true:=h;rw [Bool.or_eq_true] at h';rcases h' with h' | h'
   ·obtain ⟨i,r',rfl⟩:=wB h';exact ⟨i,r',rfl⟩
   ·rw [Bool.and_eq_true] at h';have z:=h'.1;rw [pG (qw hk).2,(qw hk).1,Bool.false_and] at z;cases z
  ·obtain ⟨c,hc,hm'⟩:=List.mem_flatMap.mp hm;exact kJ hk n c m ((tR h).2 c hc) hm'
noncomputable def CW (k:Str) (x:D):Bool:=eqDs ((dC 3 k x).map Fw) ((List.range (dC 3 k x).length).map λi:Nat=>D.int i)
def Em (ds:List D) (d:D):Prop:=∃ x k,ds=[x,.str k]/\ppD 3 x=true/\(k="hole"\/k="gap"\/k="slot")/\d=.bl (CW k x)
variable {σ:L2.St} {l:Addr} {ys:List V}
theorem oK {K:W.Frag} {k:Nat} (hl:H l=some (.lst ys)) (e:σ[k]?=some (some (.ref l)):=by rfl):RE K (tCB (λxs H Q=>∃ p ys,xs=[.ref p]/\(SqL K H p ys\/SqT K H p ys)/\Q (.int ys.length) H) (cE (hW k) eG)) σ H (.int ys.length):=λH1 s Q q =>
 ⟨.ref l,e,l,ys,rfl,.inl (SqL.of (s _ _ hl)),q _ _ (Same.refl _) (Dat.intI _)⟩
theorem pF {l:List D} (h:∀ d ∈ l,∃ i,d=.int i):noLs l=true/\deepDs l=0:=by
 induction l with
 | nil=>exact ⟨by unfold noLs;rfl,by unfold deepDs;rfl⟩
 | cons d l ih =>
  obtain ⟨i,rfl⟩:=h d (by simp);obtain ⟨h1,h2⟩:=ih λd hd=>h d (by simp [hd]);refine ⟨?_,?_⟩
  ·unfold noLs;rw [h1];unfold noL;rfl
  ·unfold deepDs;rw [h2];unfold gD;rfl
theorem pN (T:Txt P w K mg) (IH:Ok P w base k T.Hy (jC K (ky 3))):Ok P w base (k+1) T.Ir (spD K Em):=by
 refine T.Ir.f.ok sc_is_numbered (λvs H Q E h=>?_) (λcdv A outer s H vs Q E hr h=>?_)
 ·obtain ⟨ds,d,hd,⟨x,kk,rfl,_⟩,_⟩:=h;exact hd.length.symm
 have nd:=sc_is_numbered.nd;obtain ⟨ds,d,hd,⟨x,kk,rfl,hp,hk,rfl⟩,post⟩:=h;obtain ⟨v0,v1,rfl,h0,h1⟩:=iJ hd;refine ⟨_,(aG (jk (i:=2) (own:=["mark"]) (fr:=[]) (N':=["mark"]) (fK (pc (D:=T.Hy) IH hr (aD (pv 0) (aD (pv 1) aC)))) rfl (by show cZ ["pattern","kind","numbers"] (λx=>(aO jB).names.lookup x) _ _ _ _=true;decide +kernel) rfl (λ_ _ _ _ _=>(a7 (i:=0) (by show List.Nodup [("mark":Str)];decide +kernel) rfl (Or.inl rfl))) (λ_ _ _ _ _=>cO) (λ_ _ _ _ _=>(aT (r:=mN K) aV (pv 0) aE)) nd rfl rfl rfl)
 (aI (aQ (d4 (pO hr) (pv 2) (dQ (qB rfl) rfl T.Kw xx (aD (dQ Aa rfl T.Js zS (aD (a6 aX rfl T.GO bU (aD (pv 2) aC)) aC)) aC)) (aU _))))),?_⟩
 have cap:=pD kk 3 x hp;refine iG (K:=K) (es:=(dC 3 kk x).map Fw) (Dn (cs:=dC 3 kk x) (j4 (R:=ky 3) (aB (aA h0) (aB (aA h1) aL)) ⟨x,kk,rfl,by decide,hp,rfl⟩) (Nat.le_trans cap (by decide)) _ (by simp) rfl (λH1 i c v d s1 hc hi hv=>?_)) λl ys H2 hl s2 hy hd2=>?_
 ·rw [List.getElem?_map,hc] at hi;cases hi;obtain ⟨j,r,rfl⟩:=kJ hk 3 x c hp (List.mem_of_getElem? hc);exact aY (k:=1) (aA hv) aF rfl
 have ll:=hd2.length;rw [List.length_map] at ll;refine ⟨_,rfl,(tS (K:=K) (n:=ys.length) (oK (k:=2) hy) (by rw [<- ll];exact Nat.le_trans cap (by decide))).use λl2 ys2 H3 hl2 s3 hy3 hd3=>?_⟩
 have i1:∀ d ∈ (dC 3 kk x).map Fw,∃ i,d=.int i:=λd hdm=>by obtain ⟨m,hm,rfl⟩:=List.mem_map.mp hdm;obtain ⟨j,r,rfl⟩:=kJ hk 3 x m hp hm;exact ⟨j,rfl⟩
 have i2:∀ d ∈ (List.range ys.length).map (λi:Nat=>D.int i),∃ i,d=.int i:=λd hdm=>by obtain ⟨m,hm,rfl⟩:=List.mem_map.mp hdm;exact ⟨_,rfl⟩
 refine ⟨l,l2,ys,ys2,_,_,rfl,rfl,SqL.of (s3 _ _ hy),SqL.of hy3,s3.dats hd2,hd3,(pF i1).1,(pF i2).1,by rw [(pF i1).2];decide,?_⟩;refine post _ _ (s2.trans s3) ?_;unfold CW;rw [ll];exact Dat.blI _
noncomputable def tO (x:D):Bool:=ppD 3 x && (!ni "hole" x && ((["hole","gap","slot"]:List Str).map λk=>CW k x).all id)
def Eo (ds:List D) (d:D):Prop:=∃ x,ds=[x]/\d=.bl (tO x)
theorem qI (T:Txt P w K mg) (Ia:Ok P w base k T.GT (spD K (Rpp 3))) (J3:Ok P w base k T.Ir (spD K Em)):Ok P w base (k+1) T.ID (spD K Eo):=by
 refine T.ID.f.ok sc_is_pattern (λvs H Q E h=>?_) (λcdv A outer s H vs Q E hr h=>?_)
 ·obtain ⟨ds,d,hd,⟨x,rfl,rfl⟩,_⟩:=h;exact hd.length.symm
 have nd:=sc_is_pattern.nd;obtain ⟨ds,d,hd,⟨x,rfl,rfl⟩,post⟩:=h;obtain ⟨v0,rfl,h0⟩:=jw hd;refine ⟨_,(aG (bL (PW.pt (dW (cQ (bQ (pc (D:=T.GT) Ia hr (aD (pv 0) (aD aE aC))) (λ_=>rfl))) (dY (aN bY (aT aV (pv 0) aE) aP (aU _))))) (aI (aQ dD)) aW)
 (aI (aQ (a6 (jH rfl) rfl T.JV m7 (aD (dE (own:=["kind"]) (fr:=[0]) (N':=["kind","thing"]) (Fh (cK (v:=.ref T.Hg) rfl T.GZ rfl)) rfl (by show cZ ["thing"] (λx=>(aO j9).names.lookup x) _ _ _ _=true;decide +kernel) rfl (λ_ _ _ _ _=>(a7 (i:=0) (by show List.Nodup [("kind":Str),("thing":Str)];decide +kernel) rfl (Or.inl rfl))) (λ_ _ _ _ _=>cO) (λ_ _ _ _ _=>(pc (D:=T.Ir) J3 hr (aD (pv 1) (aD (pv 0) aC))))) aC))))),?_⟩
 cases hp:ppD 3 x with
 | false =>refine aS (K:=K) (b:=true) (RT.as (cI (b:=true) (c:=true) (RT.as (bS (bE (bN (R:=Rpp 3) (aB (aA h0) (aB aF aL)) ⟨x,rfl,rfl⟩))) (by rw [hp];rfl)) λc=>nomatch c) rfl) (λc H3 s3=>?_) (λc=>nomatch c);refine bF (K:=K) (d:=.bl false) fG λv H' s q=>post v H' (s3.trans s) ?_;unfold tO;rw [hp];exact q
 | true =>
  obtain ⟨kd,r,ek⟩:=wR hp;have h0':Dat K H (.tup (.str kd::r)) v0:=by rw [<- ek];exact h0
  refine aS (K:=K) (b:=ni "hole" x) (RT.as (cI (b:=false) (RT.as (bS (bE (bN (R:=Rpp 3) (aB (aA h0) (aB aF aL)) ⟨x,rfl,rfl⟩))) (by rw [hp];rfl)) λ_=>aJ (bI (aY (k:=0) (aA h0') aF rfl) aK)) (by rw [ek];exact Bool.false_or _)) (λc H1 s1=>?_) (λc H1 s1=>?_)
  ·refine bF (K:=K) (d:=.bl false) fG λv H' s q=>post v H' (s1.trans s) ?_;unfold tO;rw [hp,c];exact q
  ·refine bF (K:=K) (d:=.bl (((["hole","gap","slot"]:List Str).map λk=>CW k x).all id)) (lB (Fo T.Jn (by decide) _ rfl rfl (λH2 i kk d s2 hk hi=>?_))) λv H' s q=>post v H' (s1.trans s) ?_
   ·rw [List.getElem?_map,List.getElem?_map,hk] at hi;cases hi;refine bN (E:=E0) (R:=Em) (aB (aA (s2.dat (s1.dat h0))) (aB (aA (Dat.strI kk)) aL)) ⟨x,kk,rfl,hp,?_,rfl⟩;have:=List.mem_of_getElem? hk;simpa using this
   ·unfold tO;rw [hp,c];exact q
noncomputable def rR (k:Str) (T:List (Str × KTD.Dat)):Str:=match KTD.datumAt k T with | some (.flat (.str z))=>z | _=>""
theorem Es {k:Str} (h:KTD.inKeys k TF=true):KTD.datumAt k TF=some (.flat (.str (rR k TF))):=by
 unfold rR;by_cases h1:k="low"
 ·subst h1;rfl
 by_cases h2:k="high"
 ·subst h2;rfl
 by_cases h3:k="arg"
 ·subst h3;rfl
 have e:KTD.inKeys k TF=false:=by simp [TF,KTD.inKeys,h1,h2,h3]
 rw [e] at h;cases h
noncomputable def o3 (p:D):D->Bool
 | .tup (.str k::r)=>decide ((r.length:Int)+1=2) && (KTD.inKeys k TF && dO (r.getD 0 .non) 0 (((dC 3 (rR k TF) p).length:Int) - 1))
 | _=>false
theorem uD (p:D) (k:Str) (r:List D):o3 p (.tup (.str k::r))=(decide ((r.length:Int)+1=2) && (KTD.inKeys k TF && dO (r.getD 0 .non) 0 (((dC 3 (rR k TF) p).length:Int) - 1))):=rfl
def zE (ds:List D) (d:D):Prop:=∃ x p,ds=[x,p]/\ppD 3 p=true/\d=.bl (o3 p x)
theorem Cu {p x:D} (h:d6 x=false):o3 p x=false:=by
 unfold d6 at h;unfold o3;split at h
 ·cases h
 ·rename_i hn
  first
   | rfl
   | (split
      ·rename_i k r;exact absurd rfl (hn k r)
      ·rfl)
theorem qH (T:Txt P w K mg) (HC:Ok P w base k T.He (spD K jW)) (IH:Ok P w base k T.Hy (jC K (ky 3))) (Ho:Ok P w base k T.GX (spD K iS)):Ok P w base (k+1) T.IC (spD K zE):=by
 refine T.IC.f.ok sc_is_filling (λvs H Q E h=>?_) (λcdv A outer s H vs Q E hr h=>?_)
 ·obtain ⟨ds,d,hd,⟨x,p,rfl,_⟩,_⟩:=h;exact hd.length.symm
 have nd:=sc_is_filling.nd;obtain ⟨ds,d,hd,⟨x,p,rfl,hp,rfl⟩,post⟩:=h;obtain ⟨v0,v1,rfl,h0,h1⟩:=iJ hd;refine ⟨_,(aG (bL (PW.pt (dW (cQ (bQ (pc (D:=T.He) HC hr (aD (pv 0) aC)) (λ_=>rfl))) (dW (aN ki (a6 aX rfl T.GO bU (aD (pv 0) aC)) aE (aU _)) (dY (aN vp (aT aV (pv 0) aE) (cK (v:=.ref T.HS) rfl T.Hq rfl) (by with_unfolding_all rfl)))))) (aI (aQ dD)) aW)
 (aI (aQ (pc (D:=T.GX) Ho hr (aD (aT aV (pv 0) aE) (aD aE (aD (bO tM (a6 aX rfl T.GO bU (aD (pc (D:=T.Hy) IH hr (aD (pv 1) (aD (aT CL (cK (v:=.ref T.HS) rfl T.Hq rfl) (aT aV (pv 0) aE)) aC))) aC)) aE) aC))))))),?_⟩
 cases ht:d6 x with
 | false =>
  refine aS (K:=K) (b:=true) ?_ (λc H1 s1=>?_) (λc=>nomatch c)
  ·exact RT.as (cI (b:=true) (c:=true) (RT.as (bS (bE (bN (aB (aA h0) aL) ⟨x,rfl,rfl⟩))) (by rw [ht];rfl)) λc=>nomatch c) rfl
  ·refine bF (K:=K) (d:=.bl (o3 p x)) ?_ λv H' s q=>post v H' (s1.trans s) q;rw [Cu ht];exact fG
 | true =>
  have ht':=ht;unfold d6 at ht';split at ht'
  ·rename_i kd r;have el:((((D.str kd)::r).length:Nat):Int)=(r.length:Int)+1:=by rw [List.length_cons];omega
   have b1:=iA (K:=K) (dN (aA (σ:=f7 ["thing","pattern"] [v0,v1]) (k:=0) h0)) (aF (i:=2));rw [el] at b1;refine aS (K:=K) (b:=!decide ((r.length:Int)+1=2) || !KTD.inKeys kd TF) (RT.as (cI (b:=false) (RT.as (bS (bE (bN (aB (aA h0) aL) ⟨_,rfl,rfl⟩))) (by rw [ht];rfl)) λ_=>cI (aJ b1) λ_=>aJ (vH (aY (k:=0) (aA h0) aF rfl) T.Hr)) (Bool.false_or _)) (λc H1 s1=>?_) (λc H1 s1=>?_)
   ·refine bF (K:=K) (d:=.bl false) fG λv H' s q=>post v H' (s1.trans s) ?_
    have e:o3 p (.tup (.str kd::r))=false:=by
     rw [uD]
     cases h2:decide ((r.length:Int)+1=2) with
     | false=>rfl
     | true =>rw [h2] at c;have h3:KTD.inKeys kd TF=false:=jz c;rw [h3];rfl
    rw [e];exact q
   ·rw [Bool.or_eq_false_iff] at c;have c1:=gI c.1;have c2:=gI c.2
    obtain ⟨y,er⟩:∃ y,r=[y]:=by
     match r,of_decide_eq_true c1 with
     | [],h=>simp at h
     | [y],_=>exact ⟨y,rfl⟩
     | _::_::_,h=>simp at h;omega
    subst er;have h0:=s1.dat h0;have h1:=s1.dat h1;refine bF (K:=K) (d:=.bl (dO y 0 (((dC 3 (rR kd TF) p).length:Int) - 1))) (bN (R:=iS) (aB (aY (k:=1) (aA h0) aF rfl) (aB aF (aB (Bw (Dr (j4 (R:=ky 3) (aB (aA h1) (aB (yY (aY (k:=0) (aA h0) aF rfl) T.Hr (by rfl) (Es c2)) aL)) ⟨p,rR kd TF,rfl,by decide,hp,rfl⟩)) aF) aL))) ⟨y,0,_,rfl,rfl⟩) λv H' s q=>post v H' (s1.trans s) ?_;rw [uD,c1,c2];exact q
  ·cases ht'
noncomputable def uv (p x:D):Bool:=dO x 0 99 || o3 p x
def zD (ds:List D) (d:D):Prop:=∃ x p,ds=[x,p]/\ppD 3 p=true/\d=.bl (uv p x)
theorem wF (T:Txt P w K mg) (Ho:Ok P w base k T.GX (spD K iS)) (J7:Ok P w base k T.IC (spD K zE)):Ok P w base (k+1) T.Jt (spD K zD):=by
 refine T.Jt.f.ok sc_is_cell (λvs H Q E h=>?_) (λcdv A outer s H vs Q E hr h=>?_)
 ·obtain ⟨ds,d,hd,⟨x,p,rfl,_⟩,_⟩:=h;exact hd.length.symm
 have nd:=sc_is_cell.nd;obtain ⟨ds,d,hd,⟨x,p,rfl,hp,rfl⟩,post⟩:=h;obtain ⟨v0,v1,rfl,h0,h1⟩:=iJ hd;refine ⟨_,(aI (aQ (A4 (pc (D:=T.GX) Ho hr (aD (pv 0) (aD aE (aD (cK (v:=.int 99) rfl T.HF ⟨_,rfl⟩) aC)))) (jh (pc (D:=T.IC) J7 hr (aD (pv 0) (aD (pv 1) aC))))))),?_⟩;exact bF (K:=K) (d:=.bl (uv p x)) (yh (bN (R:=iS) (aB (aA h0) (aB aF (aB aF aL))) ⟨x,0,99,rfl,rfl⟩) λ_=>bN (R:=zE) (aB (aA h0) (aB (aA h1) aL)) ⟨x,p,rfl,hp,rfl⟩) post
noncomputable def rj (c:Int):Option (Str × Nat):=match INS[c.toNat]? with
 | some (.tup [.str nm,.int m])=>some (nm,m.toNat)
 | _=>none
variable {c:Int}
theorem EL {m:Nat} (h:rj c=some (nm,m)):INS[c.toNat]?=some (.tup [.str nm,.int (m:Int)])/\c.toNat < 17:=by
 unfold rj at h
 have hlt:c.toNat < 17:=by
  by_cases hc:c.toNat < 17
  ·exact hc
  ·rw [List.getElem?_eq_none (by show (17:Nat)<=c.toNat;omega)] at h;cases h
 refine ⟨?_,hlt⟩
 have all:∀ i:Nat,i < 17->∀ nm m,(match INS[i]? with | some (.tup [.str nm,.int m])=>some (nm,m.toNat) | _=>none)=some (nm,m)->INS[i]?=some (.tup [.str nm,.int (m:Int)]):=by
  intro i hi nm m e
  match i,hi with
  | 0,_=>cases e;rfl
  | 1,_=>cases e;rfl
  | 2,_=>cases e;rfl
  | 3,_=>cases e;rfl
  | 4,_=>cases e;rfl
  | 5,_=>cases e;rfl
  | 6,_=>cases e;rfl
  | 7,_=>cases e;rfl
  | 8,_=>cases e;rfl
  | 9,_=>cases e;rfl
  | 10,_=>cases e;rfl
  | 11,_=>cases e;rfl
  | 12,_=>cases e;rfl
  | 13,_=>cases e;rfl
  | 14,_=>cases e;rfl
  | 15,_=>cases e;rfl
  | 16,_=>cases e;rfl
  | n+17,h=>omega
 exact all c.toNat hlt nm m h
noncomputable def jX (cells:List D) (p m:Nat):List D:=(cells.drop (p+1)).take m
def zF (ds:List D) (d:D):Prop:=∃ (cells:List D) (p:Nat) (c:Int) (nm:Str) (m:Nat),ds=[.tup cells,.int p]/\cells[p]?=some (.int c)/\0<=c/\rj c=some (nm,m)/\(jX cells p m).length=m/\d=.tup [.str nm,.tup (jX cells p m)]
theorem mH (T:Txt P w K mg)  : Ok P w base (k+1) T.HR (spD K zF):=by
 refine T.HR.f.ok sc_instruction_at (λvs H Q E h=>?_) (λcdv A outer s H vs Q E hr h=>?_)
 ·obtain ⟨ds,d,hd,⟨cells,p,c,nm,m,rfl,_⟩,_⟩:=h;exact hd.length.symm
 have nd:=sc_instruction_at.nd;obtain ⟨ds,d,hd,⟨cells,p,c,nm,m,rfl,hc,c0,hi,hb,rfl⟩,post⟩:=h;obtain ⟨v0,v1,rfl,h0,h1⟩:=iJ hd;refine ⟨_,(aG (bL (PW.pt (dW (aN xX (pv 1) (a6 aX rfl T.GO bU (aD (pv 0) aC)) (aU _)) (dY (aN xX (aT aV (pv 0) (pv 1)) (a6 aX rfl T.GO bU (aD (cK (v:=.ref T.HD) rfl T.Hh rfl) aC)) (aU _))))) (aI jQ) aW)
 (aG (hE (aT aV (cK (v:=.ref T.HD) rfl T.Hh rfl) (aT aV (pv 0) (pv 1))) (gO rfl (bM (a7 (i:=2) nd rfl (Or.inl rfl)) (bM (a7 (i:=3) nd rfl (Or.inl rfl)) dF))))
 (aG (bT (i:=4) nd rfl (Or.inl rfl) (dQ cX rfl T.Hl dB (aD (ji nO (pv 0) (i4 (bO eB (pv 1) aE)) (i4 (bO eB (bO eB (pv 1) aE) (pv 3)))) aC)))
 (aG (bL (aN kN (a6 aX rfl T.GO bU (aD (pv 4) aC)) (pv 3) (aU _)) (aI jQ) aW)
 (aI (aQ (bB (aD (pv 2) (aD (pv 4) aC))))))))),?_⟩
 obtain ⟨hi,h17⟩:=EL hi;have hp:p < cells.length:=(List.getElem?_eq_some_iff.mp hc).1;have ec:c=((c.toNat:Nat):Int):=by omega
 refine aS (K:=K) (b:=false) (RT.as (cI (b:=false) (c:=false) (RT.as (aJ (cV (p:=λi j=>decide (j<=i)) (aA h1) (dN (aA h0)))) (decide_eq_false (by omega))) λ_=>RT.as (aJ (cV (p:=λi j=>decide (j<=i)) (aY (k:=p) (aA h0) (aA h1) hc) (dN (pY T.IJ)))) (decide_eq_false (by show ¬ (17:Int)<=c;omega))) rfl) (λc=>nomatch c) (λ_ H1 s1=>?_);have h0:=s1.dat h0;have h1:=s1.dat h1;refine oP (K:=K) (d:=.str nm) (e:=.int m) (aY (k:=c.toNat) (pY T.IJ) (RE.as (aY (k:=p) (aA h0) (aA h1) hc) (congrArg D.int ec)) hi) λv2 v3 H2 s2 h2 h3=>?_;have h0:=s2.dat h0;have h1:=s2.dat h1;have el:(p:Int)+1=((p+1:Nat):Int):=by omega
 have eh:(p:Int)+1+(m:Int)=((p+1+m:Nat):Int):=by omega
 refine gH (K:=K) (d:=.tup (jX cells p m)) (RE.as (zk (Fq (lo:=p+1) (hi:=p+1+m) (aA h0) (RE.as (fV (aA h1) aF) (congrArg D.int el)) (RE.as (fV (fV (aA h1) aF) (aA h3)) (congrArg D.int eh)) (by omega) (by omega))) (by unfold jX;rw [show p+1+m - (p+1)=m by omega])) λv4 H3 s3 h4=>?_;refine aS (K:=K) (b:=false) (RT.as (aJ (cV (p:=λi j=>decide (i < j)) (dN (aA h4)) (aA (s3.dat h3)))) (decide_eq_false (by rw [hb];omega))) (λc=>nomatch c) (λ_ H4 s4=>?_);exact bF (K:=K) (d:=.tup [.str nm,.tup (jX cells p m)]) (bJ (aB (aA (s4.dat (s3.dat h2))) (aB (aA (s4.dat h4)) aL))) λv H' s q=>post v H' (s1.trans (s2.trans (s3.trans (s4.trans s)))) q
noncomputable abbrev SS:List Str:=["put","far","load","add","sub","mul","less","more","twice","about"]
noncomputable def FX (rec:Nat->Option Bool) (pat:D) (cells:List D) (p:Nat):D->Option Bool
 | .int c=>(match rj c with
  | some (nm,m)=>if (jX cells p m).length=m then (if (!decide (nm ∈ SS) || !((jX cells p m).map (uv pat)).all id)=true then some false else rec (p+1+m)) else none
  | none=>none)
 | _=>none
noncomputable def oU:Nat->D->List D->Nat->Option Bool
 | 0,_,_,_=>none
 | n+1,pat,cells,p=>match cells[p]? with
  | none=>some true
  | some x=>if dO x 0 99=false then some false else FX (oU n pat cells) pat cells p x
def Ef (ds:List D) (d:D):Prop:=∃ (cells:List D) (pat:D) (b:Bool),ds=[.tup cells,pat]/\ppD 3 pat=true/\cells.length<=100/\oU (cells.length+1) pat cells 0=some b/\d=.bl b
noncomputable def GI (σ:L2.St) (_:Hp):Nat:=match σ[2]? with
 | some (some (V.int p))=>(200 - p).toNat
 | _=>0
variable {cells:List D} {p:Nat}
theorem Ey {m:Nat}:(jX cells p m).length<=cells.length:=by unfold jX;rw [List.length_take,List.length_drop];omega
theorem Cd {m:Nat} (h:(jX cells p m).length=m) (hp:p < cells.length):p+1+m<=cells.length:=by unfold jX at h;rw [List.length_take,List.length_drop] at h;omega
theorem lH (T:Txt P w K mg) (Ho:Ok P w base k T.GX (spD K iS)) (JG:Ok P w base k T.HR (spD K zF)) (KB:Ok P w base k T.Jt (spD K zD)):Ok P w base (k+1) T.Hx (spD K Ef):=by
 refine T.Hx.f.ok sc_are_instructions (λvs H Q E h=>?_) (λcdv A outer s H vs Q E hr h=>?_)
 ·obtain ⟨ds,d,hd,⟨cells,pat,bb,rfl,_⟩,_⟩:=h;exact hd.length.symm
 have nd:=sc_are_instructions.nd;obtain ⟨ds,d,hd,⟨cells,pat,bb,rfl,hp,hl,hr2,rfl⟩,post⟩:=h;obtain ⟨v0,v1,rfl,h0,h1⟩:=iJ hd;refine ⟨_,(aG (bT (i:=2) nd rfl (Or.inl rfl) aE)
 (aG (vC PassesOwn.never (aN kN (pv 2) (a6 aX rfl T.GO bU (aD (pv 0) aC)) (aU _)) (aG (bL (cQ (bQ (pc (D:=T.GX) Ho hr (aD (aT aV (pv 0) (pv 2)) (aD aE (aD (cK (v:=.int 99) rfl T.HF ⟨_,rfl⟩) aC)))) (λ_=>rfl))) (aI (aQ dD)) aW)
 (aG (Dj (aI (hE (pc (D:=T.HR) JG hr (aD (pv 0) (aD (pv 2) aC))) (gO rfl (bM (a7 (i:=3) nd rfl (Or.inl rfl)) (bM (a7 (i:=4) nd rfl (Or.inl rfl)) dF))))))
 (aG (bL (PW.pt (dW (aN tJ (pv 3) (cK (v:=.ref T.Jh) rfl T.Ik rfl) (by with_unfolding_all rfl)) (dY (cQ (bQ (a6 (jH rfl) rfl T.JV m7 (aD (dE (own:=["cell"]) (fr:=[1]) (N':=["cell","pattern"]) (j3 (pv 4)) rfl (by show cZ ["cells","pattern","place","name","behind"] (λx=>(aO gP).names.lookup x) _ _ _ _=true;decide +kernel) rfl (λ_ _ _ _ _=>(a7 (i:=0) (by show List.Nodup [("cell":Str),("pattern":Str)];decide +kernel) rfl (Or.inl rfl))) (λ_ _ _ _ _=>cO) (λ_ _ _ _ _=>(pc (D:=T.Jt) KB hr (aD (pv 0) (aD (pv 1) aC))))) aC)) (λ_=>rfl)))))) (aI (aQ dD)) aW)
 (aI (Bd (i:=2) nd rfl (Or.inl rfl) (bO eB aE (a6 aX rfl T.GO bU (aD (pv 4) aC))) wq))))))
 (aI (aQ dD)))),?_⟩
 refine eF (yj (c9 (vV (λσ G=>∃ (p n:Nat) (z3 z4:Option V),σ=[some v0,some v1,some (.int p),z3,z4]/\Same H G/\oU n pat cells p=some bb/\p<=cells.length) GI ?_ ?_ ?_)))
 ·exact ⟨0,_,none,none,rfl,Same.refl _,hr2,Nat.zero_le _⟩
 ·rintro σ G ⟨p,n,z3,z4,rfl,sG,ha,hpl⟩;have g0:=sG.dat h0;have g1:=sG.dat h1;refine RT.use (b:=decide ((p:Int) < (cells.length:Int))) (aJ (cV (p:=λi j=>decide (i < j)) (aA (K:=K) (Dat.intI (p:Int))) (dN (aA g0)))) λG1 s1=>?_
  obtain ⟨n,rfl⟩:∃ m,n=m+1:=by
   cases n with
   | zero=>cases ha
   | succ m=>exact ⟨m,rfl⟩
  by_cases hlt:p < cells.length
  ·rw [decide_eq_true (by omega:(p:Int) < (cells.length:Int))];refine jv ?_;have hx:cells[p]?=some cells[p]:=List.getElem?_eq_getElem hlt;generalize cells[p]=x at hx
   have ha':(if dO x 0 99=false then some false else FX (oU n pat cells) pat cells p x)=some bb:=by have e:oU (n+1) pat cells p=some bb:=ha;unfold oU at e;rw [hx] at e;exact e
   have g0:=s1.dat g0;have g1:=s1.dat g1;refine aS (K:=K) (b:=!dO x 0 99) (bS (bE (bN (R:=iS) (aB (aY (k:=p) (aA g0) (aA (Dat.intI (p:Int))) hx) (aB aF (aB aF aL))) ⟨x,0,99,rfl,rfl⟩))) (λcB G2 s2=>?_) (λcB G2 s2=>?_)
   ·rw [if_pos (jz cB)] at ha';cases ha';exact post _ _ (sG.trans (s1.trans s2)) (Dat.blI _)
   ·have cw:=gI cB;rw [if_neg (by rw [cw];exact λz=>nomatch z)] at ha'
    cases x with
    | int c =>
     have ha':(match rj c with
      | some (nm,m)=>if (jX cells p m).length=m then (if (!decide (nm ∈ SS) || !((jX cells p m).map (uv pat)).all id)=true then some false else oU n pat cells (p+1+m)) else none
      | none=>none)=some bb:=ha'
     have c0:0<=c:=by have z:(decide (0<=c) && decide (c<=99))=true:=cw;rw [Bool.and_eq_true] at z;exact of_decide_eq_true z.1
     cases hin:rj c with
     | none=>rw [hin] at ha';cases ha'
     | some nm =>
      obtain ⟨nm,m⟩:=nm;rw [hin] at ha';dsimp only at ha';by_cases hb:(jX cells p m).length=m
      ·rw [if_pos hb] at ha';have g0:=s2.dat g0;have g1:=s2.dat g1;refine oP (K:=K) (d:=.str nm) (e:=.tup (jX cells p m)) (bN (R:=zF) (aB (aA g0) (aB (aA (Dat.intI (p:Int))) aL)) ⟨cells,p,c,nm,m,rfl,hx,c0,hin,hb,rfl⟩) λv3 v4 G3 s3 g3 g4=>?_;have g1:=s3.dat g1;have lb:=Ey (cells:=cells) (p:=p) (m:=m);refine aS (K:=K) (b:=!decide (nm ∈ SS) || !((jX cells p m).map (uv pat)).all id) (cI (aJ (y0 (ys:=SS) (aA g3) (pY T.JT))) λ_=>bS (bE (lB (tT (aA g4) (by omega) _ (by simp) rfl (λG4 i z vz d s4 hz hi hvz=>?_))))) (λc2 G4 s4=>?_) (λc2 G4 s4=>?_)
       ·rw [List.getElem?_map,List.getElem?_map,hz] at hi;cases hi;exact bN (E:=E0) (R:=zD) (aB (aA hvz) (aB (aA (s4.dat g1)) aL)) ⟨z,pat,rfl,hp,rfl⟩
       ·rw [if_pos c2] at ha';cases ha';exact post _ _ (sG.trans (s1.trans (s2.trans (s3.trans s4)))) (Dat.blI _)
       ·rw [if_neg (by rw [c2];exact Bool.false_ne_true)] at ha';refine ⟨_,rfl,RE.use (fV (K:=K) aF (dN (aA (s4.dat g4)))) λv5 G5 s5 q5=>?_⟩;refine ⟨p,1+((jX cells p m).length:Int),rfl,q5.intE,?_⟩;have ep:(p:Int)+(1+((jX cells p m).length:Int))=((p+1+m:Nat):Int):=by rw [hb];omega
        have he:=Cd hb hlt;refine ⟨⟨p+1+m,n,some v3,some v4,by rw [<- ep];rfl,sG.trans (s1.trans (s2.trans (s3.trans (s4.trans s5)))),ha',he⟩,?_⟩;show (200 - ((p:Int)+(1+((jX cells p m).length:Int)))).toNat < (200 - (p:Int)).toNat;omega
      ·rw [if_neg hb] at ha';cases ha'
    | _=>cases ha'
  ·rw [decide_eq_false (by omega:¬ (p:Int) < (cells.length:Int))];refine jN ?_
   have e:oU (n+1) pat cells p=some true:=by unfold oU;rw [List.getElem?_eq_none (by omega)]
   rw [e] at ha;cases ha;exact post _ _ (sG.trans s1) (Dat.blI _)
 ·intro σ G Q1 Q2 hQ hc;obtain ⟨v,e,v',e',p,ys,e2,hq,i,j,e3,e4,b,e5,q⟩:=hc;exact ⟨v,e,v',e',p,ys,e2,hq,i,j,e3,e4,b,e5,hQ _ _ q⟩
noncomputable def wu:D->Bool
 | .str x=>decide (x="pick")
 | _=>false
noncomputable def csD (pat:D):D->Option Bool
 | .tup l=>if (decide (1<=(l.length:Int)) && decide ((l.length:Int)<=12))=false then some false else oU (l.length+1) pat l 0
 | _=>some false
noncomputable def pQ:D->Option Bool
 | .tup [nm,pat,cs]=>if (!kM nm || (wu nm || !tO pat))=true then some false else csD pat cs
 | _=>some false
def GJ:D->Prop
 | .tup (nm::_)=>DY nm
 | _=>True
def wb (ds:List D) (d:D):Prop:=∃ (x:D) (b:Bool),ds=[x]/\GJ x/\pQ x=some b/\d=.bl b
variable {te:TE} {us:TS} {En:ko} {j:Nat} {e:D}
theorem tX {K:W.Frag} {l:Nat} {f:D} (h:RE K te σ H (.tup [d,e,f])) (q:∀ v w x H',Same H H'->Dat K H' d v->Dat K H' e w->Dat K H' f x->us En (((σ.set i (some v)).set j (some w)).set l (some x)) H') :
  lI (qM te (sE K 3 (iY (c6 i) (iY (c6 j) (iY (c6 l) uG))))) us En σ H :=
 h.use λx H1 s1 q1=>by obtain ⟨a,vs,e1,hq,hd⟩:=q1.tupE;obtain ⟨v,w,x,e2,hv,hw,hx⟩:=nW hd;subst e1 e2;exact ⟨a,_,rfl,hq,rfl,v,_,rfl,w,_,rfl,x,_,rfl,rfl,q v w x H1 s1 hv hw hx⟩
theorem pq {x:D} (h:∀ y,x≠.tup y):lZ x "tuple"=false:=by
 cases x with
 | tup y=>exact absurd rfl (h y)
 | _=>rfl
theorem Bb {x:D} (h:∀ a b c,x≠.tup [a,b,c]):pQ x=some false:=by
 unfold pQ;split
 ·rename_i a b c;exact absurd rfl (h a b c)
 ·rfl
theorem E4 {x:D} (h:tO x=true):ppD 3 x=true:=by unfold tO at h;rw [Bool.and_eq_true] at h;exact h.1
theorem AK {x:D} (h:kM x=true):∃ y,x=.str y:=by
 cases x with
 | str y=>exact ⟨y,rfl⟩
 | _=>cases h
theorem vj (T:Txt P w K mg) (KD:Ok P w base k T.Jv (spD K zG)) (J8:Ok P w base k T.ID (spD K Eo)) (Jy:Ok P w base k T.Hx (spD K Ef)):Ok P w base (k+1) T.Jk (spD K wb):=by
 refine T.Jk.f.ok sc_is_piece (λvs H Q E h=>?_) (λcdv A outer s H vs Q E hr h=>?_)
 ·obtain ⟨ds,d,hd,⟨x,bb,rfl,_⟩,_⟩:=h;exact hd.length.symm
 have nd:=sc_is_piece.nd;obtain ⟨ds,d,hd,⟨x,bb,rfl,hok,hpc,rfl⟩,post⟩:=h;obtain ⟨v0,rfl,h0⟩:=jw hd;refine ⟨_,(aG (bL (PW.pt (dW (cQ (bQ (a6 (eZ jc) rfl T.GM cG (cM (pv 0) (cM (fY (v:=.ty "tuple") rfl T.Hl dB rfl) aC))) (λ_=>rfl))) (dY (aN ki (a6 aX rfl T.GO bU (aD (pv 0) aC)) aE (aU _))))) (aI (aQ dD)) aW)
 (aG (hE (pv 0) (gO rfl (bM (a7 (i:=1) nd rfl (Or.inl rfl)) (bM (a7 (i:=2) nd rfl (Or.inl rfl)) (bM (a7 (i:=3) nd rfl (Or.inl rfl)) dF)))))
 (aG (bL (PW.pt (dW (cQ (bQ (pc (D:=T.Jv) KD hr (aD (pv 1) aC)) (λ_=>rfl))) (dW (aN bY (pv 1) aP (aU _)) (dY (cQ (bQ (pc (D:=T.ID) J8 hr (aD (pv 2) aC)) (λ_=>rfl))))))) (aI (aQ dD)) aW)
 (aG (bL (PW.pt (dW (cQ (bQ (a6 (eZ jc) rfl T.GM cG (cM (pv 3) (cM (fY (v:=.ty "tuple") rfl T.Hl dB rfl) aC))) (λ_=>rfl))) (dY (cQ (pU kh kh aE (a6 aX rfl T.GO bU (aD (pv 3) aC)) (cK (v:=.int 12) rfl T.GW ⟨_,rfl⟩)))))) (aI (aQ dD)) aW)
 (aI (aQ (pc (D:=T.Hx) Jy hr (aD (pv 3) (aD (pv 2) aC))))))))),?_⟩
 by_cases h3:∃ a b c,x=.tup [a,b,c]
 ·obtain ⟨nm,pat,cs,rfl⟩:=h3;refine aS (K:=K) (b:=false) (RT.as (cI (b:=false) (c:=false) (RT.as (bS (bE (bZ (aA h0)))) rfl) λ_=>RT.as (aJ (iA (dN (aA h0)) aF)) rfl) rfl) (λc=>nomatch c) (λ_ H1 s1=>?_);refine tX (K:=K) (d:=nm) (e:=pat) (f:=cs) (aA (s1.dat h0)) λv1 v2 v3 H2 s2 h1 h2 h3=>?_;have hpc':(if (!kM nm || (wu nm || !tO pat))=true then some false else csD pat cs)=some bb:=hpc;refine aS (K:=K) (b:=!kM nm || (wu nm || !tO pat)) (cI (bS (bE (bN (R:=zG) (aB (aA h1) aL) ⟨nm,rfl,hok,rfl⟩))) λc=>cI ?_ λ_=>bS (bE (bN (R:=Eo) (aB (aA h2) aL) ⟨pat,rfl,rfl⟩))) (λc H3 s3=>?_) (λc H3 s3=>?_)
  ·obtain ⟨y,rfl⟩:=AK (gI c);exact aJ (bI (aA h1) aK)
  ·rw [if_pos c] at hpc';cases hpc';exact bF (K:=K) (d:=.bl false) fG λv H' s q=>post v H' (s1.trans (s2.trans (s3.trans s))) q
  ·rw [if_neg (by rw [c];exact Bool.false_ne_true)] at hpc';rw [Bool.or_eq_false_iff,Bool.or_eq_false_iff] at c;have hp:=E4 (gI c.2.2);have h2:=s3.dat h2;have h3:=s3.dat h3;have s13:=s1.trans (s2.trans s3);by_cases hc:∃ l,cs=.tup l
   ·obtain ⟨l,rfl⟩:=hc;have hpc':(if (decide (1<=(l.length:Int)) && decide ((l.length:Int)<=12))=false then some false else oU (l.length+1) pat l 0)=some bb:=hpc';refine aS (K:=K) (b:=!(decide (1<=(l.length:Int)) && decide ((l.length:Int)<=12))) (RT.as (cI (b:=false) (RT.as (bS (bE (bZ (aA h3)))) rfl) λ_=>bS (aJ (mO (p:=λi j=>decide (i<=j)) (r:=λi j=>decide (i<=j)) aF (dN (aA h3)) λ_=>aF))) (Bool.false_or _)) (λc4 H4 s4=>?_) (λc4 H4 s4=>?_)
    ·rw [if_pos (jz c4)] at hpc';cases hpc';exact bF (K:=K) (d:=.bl false) fG λv H' s q=>post v H' (s13.trans (s4.trans s)) q
    ·have c5:=gI c4;rw [if_neg (by rw [c5];exact λz=>nomatch z)] at hpc';rw [Bool.and_eq_true] at c5;have l12:=of_decide_eq_true c5.2;exact bF (K:=K) (d:=.bl bb) (bN (R:=Ef) (aB (aA (s4.dat h3)) (aB (aA (s4.dat h2)) aL)) ⟨l,pat,bb,rfl,hp,by omega,hpc',rfl⟩) λv H' s q=>post v H' (s13.trans (s4.trans s)) q
   ·have hc':∀ y,cs≠.tup y:=λy e=>hc ⟨y,e⟩
    have e:bb=false:=by
     cases cs with
     | tup y=>exact absurd rfl (hc' y)
     | _=>cases hpc';rfl
    refine aS (K:=K) (b:=true) (RT.as (cI (b:=true) (c:=true) (RT.as (bS (bE (bZ (aA h3)))) (by rw [pq hc'];rfl)) λc=>nomatch c) rfl) (λc4 H4 s4=>?_) (λc=>nomatch c);rw [e] at post;exact bF (K:=K) (d:=.bl false) fG λv H' s q=>post v H' (s13.trans (s4.trans s)) q
 ·have h3':∀ a b c,x≠.tup [a,b,c]:=λa b c e=>h3 ⟨a,b,c,e⟩;rw [Bb h3'] at hpc;cases hpc;refine aS (K:=K) (b:=true) ?_ (λc H1 s1=>?_) (λc=>nomatch c)
  ·by_cases ht:∃ l,x=.tup l
   ·obtain ⟨l,rfl⟩:=ht;refine RT.as (cI (b:=false) (c:=true) (RT.as (bS (bE (bZ (aA h0)))) rfl) λ_=>RT.as (aJ (iA (dN (aA h0)) aF)) ?_) rfl
    have:¬ (l.length:Int)=3:=λe=>by
     match l,e with
     | [a,b,c],_=>exact h3' a b c rfl
     | [],h=>simp at h
     | [_],h=>simp at h
     | [_,_],h=>simp at h
     | _::_::_::_::_,h=>simp at h;omega
    rw [decide_eq_false this];rfl
   ·have ht':∀ y,x≠.tup y:=λy e=>ht ⟨y,e⟩;exact RT.as (cI (b:=true) (c:=true) (RT.as (bS (bE (bZ (aA h0)))) (by rw [pq ht'];rfl)) λc=>nomatch c) rfl
  ·exact bF (K:=K) (d:=.bl false) fG λv H' s q=>post v H' (s1.trans s) q
variable {E:XK} {tA:TA} {Q:VK}
theorem jA {sp:Sp} {dvs:List V} (h:tA σ H λvs H1=>sp (vs++dvs) H1 Q E):jU sp dvs E tA σ H Q:=h
theorem dH {Q:List V->Hp->Prop} (h:te σ H λx H1=>tA σ H1 λxs H2=>Q (x::xs) H2):cE te tA σ H Q:=h
inductive Pa where
 | hole (i:Int)
 | gap (i m:Int)
 | slot (i:Int)
 | num (n:Int)
 | two (o:Str) (a b:Pa)
noncomputable def toP:Pa->D
 | .hole i=>.tup [.str "hole",.int i]
 | .gap i m=>.tup [.str "gap",.int i,.int m]
 | .slot i=>.tup [.str "slot",.int i]
 | .num n=>.tup [.str "num",.int n]
 | .two o a b=>.tup [.str o,toP a,toP b]
abbrev okB (o:Str):Prop:=o="add"\/o="sub"\/o="mul"\/o="less"
def wC:Pa->Prop
 | .num n=>0<=n/\n<=9999
 | .two o a b=>okB o/\wC a/\wC b
 | _=>True
noncomputable def dP:Pa->Nat
 | .two _ a b=>max (dP a) (dP b)+1
 | _=>1
theorem m8 (p:Pa):1<=dP p:=by cases p <;> simp [dP]
noncomputable abbrev Fnd:Type:=List Tr × List Int × List Int
noncomputable def EC (f g:Fnd):Fnd:=(f.1++g.1,f.2.1++g.2.1,f.2.2++g.2.2)
noncomputable def cH:Pa->Tr->Option Fnd
 | .hole _,t=>some ([t],[],[])
 | .gap _ m,.num n=>if n<=m then some ([],[n],[]) else none
 | .gap _ _,_=>none
 | .slot _,.arg k=>some ([],[],[k])
 | .slot _,_=>none
 | .num n,.num m=>if m=n then some ([],[],[]) else none
 | .num _,_=>none
 | .two o a b,.two o' x y=>if o'=o then (match cH a x,cH b y with
  | some f,some g=>some (EC f g)
  | _,_=>none) else none
 | .two _ _ _,_=>none
noncomputable def GG:Pa->Bool
 | .hole _=>true
 | .gap _ _=>true
 | .slot _=>true
 | _=>false
theorem Av (t:Tr) (ht:okT t):∃ kd r,toD t=.tup (.str kd::r)/\(kd="num"↔∃ n,t=.num n)/\(kd="arg"↔∃ n,t=.arg n):=by
 cases t with
 | num n=>exact ⟨_,_,rfl,⟨λ_=>⟨n,rfl⟩,λ_=>rfl⟩,⟨λe=>absurd e (by decide +kernel),λ⟨m,e⟩=>nomatch e⟩⟩
 | arg n=>exact ⟨_,_,rfl,⟨λe=>absurd e (by decide +kernel),λ⟨m,e⟩=>nomatch e⟩,⟨λ_=>⟨n,rfl⟩,λ_=>rfl⟩⟩
 | two o a b =>
  have h:o="add"\/o="sub"\/o="mul"\/o="less":=ht.1;refine ⟨_,_,rfl,⟨λe=>?_,λ⟨m,e⟩=>nomatch e⟩,⟨λe=>?_,λ⟨m,e⟩=>nomatch e⟩⟩
  ·subst e;exact absurd h (by decide +kernel)
  ·subst e;exact absurd h (by decide +kernel)
 | pick a b c=>exact ⟨_,_,rfl,⟨λe=>absurd e (by decide +kernel),λ⟨m,e⟩=>nomatch e⟩,⟨λe=>absurd e (by decide +kernel),λ⟨m,e⟩=>nomatch e⟩⟩
def mj (ds:List D) (d:D):Prop:=∃ p t,ds=[toP p,toD t]/\GG p=true/\okT t/\d=.bl (cH p t).isSome
variable {m:Int}
theorem uH {i:Int} (h:∀ n,t≠.num n):cH (.gap i m) t=none:=by
 cases t with
 | num n=>exact absurd rfl (h n)
 | _=>rfl
theorem rP {i:Int} (h:∀ n,t≠.arg n):cH (.slot i) t=none:=by
 cases t with
 | arg n=>exact absurd rfl (h n)
 | _=>rfl
theorem nC (T:Txt P w K mg)  : Ok P w base (k+1) T.HW (spD K mj):=by
 refine T.HW.f.ok sc_may_stand_for (λvs H Q E h=>?_) (λcdv A outer s H vs Q E hr h=>?_)
 ·obtain ⟨ds,d,hd,⟨p,t,rfl,_⟩,_⟩:=h;exact hd.length.symm
 have nd:=sc_may_stand_for.nd;obtain ⟨ds,d,hd,⟨p,t,rfl,hm,ht,rfl⟩,post⟩:=h;obtain ⟨v0,v1,rfl,h0,h1⟩:=iJ hd;refine ⟨_,(aG (bL (aN bY (aT aV (pv 0) aE) aP (aU _)) (aI (aQ (jg (d4 bY (aT aV (pv 1) aE) aP (aU _)) (jh (d4 kh (aT aV (pv 1) aE) (aT aV (pv 0) aE) (aU _)))))) aW)
 (aI (aQ (A4 (d4 bY (aT aV (pv 0) aE) aP (aU _)) (jh (d4 bY (aT aV (pv 1) aE) aP (aU _))))))),?_⟩
 obtain ⟨kd,r,ek,hnum,harg⟩:=Av t ht;have h1':Dat K H (.tup (.str kd::r)) v1:=by rw [<- ek];exact h1
 cases p with
 | hole i =>have h0:Dat K H (.tup [.str "hole",.int i]) v0:=h0;refine aS (K:=K) (b:=false) (RT.as (aJ (bI (aY (k:=0) (aA h0) aF rfl) aK)) (decide_eq_false (by decide +kernel))) (λc=>nomatch c) (λ_ H1 s1=>?_);exact bF (K:=K) (d:=.bl true) (RE.as (yh (b:=true) (c:=true) (RE.as (bI (aY (k:=0) (aA (s1.dat h0)) aF rfl) aK) (congrArg D.bl (decide_eq_true rfl))) λc=>nomatch c) rfl) λv H' s q=>post v H' (s1.trans s) q
 | gap i m =>
  have h0:Dat K H (.tup [.str "gap",.int i,.int m]) v0:=h0;refine aS (K:=K) (b:=true) (RT.as (aJ (bI (aY (k:=0) (aA h0) aF rfl) aK)) (decide_eq_true rfl)) (λ_ H1 s1=>?_) (λc=>nomatch c);by_cases hn:∃ n,t=.num n
  ·obtain ⟨n,rfl⟩:=hn;have h1:Dat K H (.tup [.str "num",.int n]) v1:=h1;refine bF (K:=K) (d:=.bl (decide (n<=m))) (RE.as (dZ (b:=true) (RE.as (bI (aY (k:=0) (aA (s1.dat h1)) aF rfl) aK) (congrArg D.bl (decide_eq_true rfl))) λ_=>cV (p:=λi j=>decide (i<=j)) (aY (k:=1) (aA (s1.dat h1)) aF rfl) (aY (k:=2) (aA (s1.dat h0)) aF rfl)) rfl) λv H' s q=>post v H' (s1.trans s) ?_
   have e:(cH (.gap i m) (.num n)).isSome=decide (n<=m):=by
    show (if n<=m then some _ else none).isSome=_;by_cases z:n<=m
    ·rw [if_pos z,decide_eq_true z];rfl
    ·rw [if_neg z,decide_eq_false z];rfl
   rw [e];exact q
  ·refine bF (K:=K) (d:=.bl false) (RE.as (dZ (b:=false) (c:=true) (RE.as (bI (aY (k:=0) (aA (s1.dat h1')) aF rfl) aK) (congrArg D.bl (decide_eq_false (λe=>hn (hnum.mp e))))) λc=>nomatch c) rfl) λv H' s q=>post v H' (s1.trans s) ?_;rw [uH λn e=>hn ⟨n,e⟩];exact q
 | slot i =>
  have h0:Dat K H (.tup [.str "slot",.int i]) v0:=h0;refine aS (K:=K) (b:=false) (RT.as (aJ (bI (aY (k:=0) (aA h0) aF rfl) aK)) (decide_eq_false (by decide +kernel))) (λc=>nomatch c) (λ_ H1 s1=>?_);refine bF (K:=K) (d:=.bl (decide (kd="arg"))) (RE.as (yh (b:=false) (RE.as (bI (aY (k:=0) (aA (s1.dat h0)) aF rfl) aK) (congrArg D.bl (decide_eq_false (by decide +kernel)))) λ_=>bI (aY (k:=0) (aA (s1.dat h1')) aF rfl) aK) (congrArg D.bl (Bool.false_or _))) λv H' s q=>post v H' (s1.trans s) ?_;by_cases ha:∃ n,t=.arg n
  ·rw [decide_eq_true (harg.mpr ha)] at q;obtain ⟨n,rfl⟩:=ha;exact q
  ·rw [decide_eq_false (λe=>ha (harg.mp e))] at q;rw [rP λn e=>ha ⟨n,e⟩];exact q
 | num n=>cases hm
 | two o a b=>cases hm
def kX (K:W.Frag) (o:Addr->Addr->Addr->HO) (n:Nat):Sp:=λvs H Q _=>∃ (p:Pa) (t:Tr) (v0 v1:V) (f l0 l1 l2:Addr) (a b c:List V),vs=[v0,v1,.ref f]/\wC p/\okT t/\a9 t<=8/\dP p<=n/\n<=3/\Dat K H (toP p) v0/\Dat K H (toD t) v1 /\
 H f=some (o l0 l1 l2)/\f≠l0/\f≠l1/\f≠l2/\Tri l0 l1 l2 H a b c/\a.length+2 ^ n<=100/\b.length+2 ^ n<=100/\c.length+2 ^ n<=100 /\
 ∀ (H':Hp) (a' b' c':List V),But3 l0 l1 l2 H H'->Tri l0 l1 l2 H' (a++a') (b++b') (c++c')->a'.length<=2 ^ n->b'.length<=2 ^ n->c'.length<=2 ^ n ->
  (∀ fd:Fnd,cH p t=some fd->Dats K H' (fd.1.map toD) a'/\Dats K H' (fd.2.1.map D.int) b'/\Dats K H' (fd.2.2.map D.int) c')->Q (.bl (cH p t).isSome) H'
noncomputable def oD (l0 l1 l2:Addr):HO:=.dK [(Sum.inr "hole",.ref l0),(Sum.inr "gap",.ref l1),(Sum.inr "slot",.ref l2)]
theorem xU (l0 l1 l2:Addr):mi ([(Sum.inr "hole",V.ref l0),(Sum.inr "gap",.ref l1),(Sum.inr "slot",.ref l2)]:List (Key × V)) (Sum.inr "hole")=some (.ref l0):=rfl
theorem AZ (l0 l1 l2:Addr):mi ([(Sum.inr "hole",V.ref l0),(Sum.inr "gap",.ref l1),(Sum.inr "slot",.ref l2)]:List (Key × V)) (Sum.inr "gap")=some (.ref l1):=rfl
theorem xV (l0 l1 l2:Addr):mi ([(Sum.inr "hole",V.ref l0),(Sum.inr "gap",.ref l1),(Sum.inr "slot",.ref l2)]:List (Key × V)) (Sum.inr "slot")=some (.ref l2):=rfl
variable {v:V}
theorem An {f:Addr} {kvs:List (Key × V)} {x:Str} (h:H f=some (.dK kvs)) (e:mi kvs (Sum.inr x)=some v):DGet H f (.str x) (some v):=by have g:=DGet.k (k:=Sum.inr x) h;rw [e] at g;exact g
theorem qu {k:Str} (h:k="hole"\/k="gap"\/k="slot"):KTD.inKeys k TM=true:=by rcases h with rfl | rfl | rfl <;> decide +kernel
variable {o:Str}
theorem Ca (h:okB o):KTD.inKeys o TM=false/\¬ o="num":=by rcases h with rfl | rfl | rfl | rfl <;> decide +kernel
theorem Be (n:Nat):1<=2 ^ n:=Nat.one_le_iff_ne_zero.mpr (by simp)
theorem nF {α:Type} {x y:List α} (h1:x.length<=2 ^ n) (h2:y.length<=2 ^ n):(x++y).length<=2 ^ (n+1):=by rw [List.length_append,Nat.pow_succ];omega
variable {y:Tr} {fd:Fnd}
theorem eJ {o':Str} {a b:Pa} (h:cH (.two o a b) (.two o' x y)=some fd):o'=o/\∃ f g,cH a x=some f/\cH b y=some g/\fd=EC f g:=by
 unfold cH at h;by_cases e:o'=o
 ·rw [if_pos e] at h
  cases h1:cH a x with
  | none=>rw [h1] at h;cases h
  | some f =>
   cases h2:cH b y with
   | none=>rw [h1,h2] at h;cases h
   | some g =>rw [h1,h2] at h;cases h;exact ⟨e,f,g,rfl,rfl,rfl⟩
 ·rw [if_neg e] at h;cases h
theorem jx {a b:Pa} (h:cH a x=none):cH (.two o a b) (.two o x y)=none:=by unfold cH;rw [if_pos rfl,h]
theorem o7 {a b:Pa} {f:Fnd} (h:cH a x=some f):(cH (.two o a b) (.two o x y)).isSome=(cH b y).isSome:=by show (if o=o then _ else none:Option Fnd).isSome=_;rw [if_pos rfl,h];cases cH b y <;> rfl
variable {kd:Str}
theorem uF {a b:Pa} (hp:okB o) (ek:toD t=.tup (.str kd::r)) (h:¬ kd=o):cH (.two o a b) t=none:=by
 cases t with
 | two o' x y =>unfold cH;rw [if_neg];intro e;apply h;have z:toD (.two o' x y)=.tup [.str o',toD x,toD y]:=rfl;rw [z] at ek;injection ek with ek;injection ek with ek _;injection ek with ek;rw [<- ek,e]
 | _=>rfl
theorem uL (ho:okB o) (ek:toD t=.tup (.str kd::r)) (h:kd=o):∃ x y,t=.two o x y:=by
 subst h
 cases t with
 | two o' x y =>have z:toD (.two o' x y)=.tup [.str o',toD x,toD y]:=rfl;rw [z] at ek;injection ek with ek;injection ek with ek _;injection ek with ek;subst ek;exact ⟨x,y,rfl⟩
 | num n =>have z:toD (.num n)=.tup [.str "num",.int n]:=rfl;rw [z] at ek;injection ek with ek;injection ek with ek _;injection ek with ek;subst ek;exact absurd ho (by decide +kernel)
 | arg n =>have z:toD (.arg n)=.tup [.str "arg",.int n]:=rfl;rw [z] at ek;injection ek with ek;injection ek with ek _;injection ek with ek;subst ek;exact absurd ho (by decide +kernel)
 | pick x y u =>have z:toD (.pick x y u)=.tup [.str "pick",toD x,toD y,toD u]:=rfl;rw [z] at ek;injection ek with ek;injection ek with ek _;injection ek with ek;subst ek;exact absurd ho (by decide +kernel)
theorem xT {o:Addr->Addr->Addr->HO} (vs:List V) (H:Hp) (Q:VK) (E:XK):¬ kX K o 0 vs H Q E:=λ⟨p,_,_,_,_,_,_,_,_,_,_,_,_,_,_,h,_⟩=>by have:=m8 p;omega
theorem wK (T:Txt P w K mg) (JO:Ok P w base k T.HW (spD K mj)) (Jp:Ok P w base k T.HZ (kX K oD n)):Ok P w base (k+1) T.HZ (kX K oD (n+1)):=by
 refine T.HZ.f.ok sc_matches (λvs H Q E h=>?_) (λcdv A outer s H vs Q E hr h=>?_)
 ·obtain ⟨p,t,v0,v1,f,l0,l1,l2,a,b,c,rfl,_⟩:=h;rfl
 have nd:=sc_matches.nd;obtain ⟨p,t,v0,v1,f,l0,l1,l2,a,b,c,rfl,okp,okt,dpt,hn,hn3,h0,h1,hf,f0,f1,f2,tri,la,lb,lc,post⟩:=h;refine ⟨_,(aG (bT (i:=3) nd rfl (Or.inl rfl) (aT aV (pv 0) aE))
 (aG (bL (aN mI (pv 3) (cK (v:=.ref T.Hg) rfl T.GZ rfl) (by with_unfolding_all rfl)) (aG (bL (cQ (bQ (pc (D:=T.HW) JO hr (aD (pv 0) (aD (pv 1) aC))) (λ_=>rfl))) (aI (aQ dD)) aW)
 (aG (bW (eQ F.plainAttrs_list F.slot_list_append F.type_list_append bV (oH (xM hr) (pv 2) (pv 3) (λ_ _=>rfl)) (aD (fM (aN bY (pv 3) aP (aU _)) (pv 1) (aT aV (pv 1) aE)) aC)))
 (aI (aQ dD)))) aW)
 (aG (bL (aN ki (aT aV (pv 1) aE) (pv 3) (aU _)) (aI (aQ dD)) aW)
 (aG (bL (aN bY (pv 3) aP (aU _)) (aI (aQ (d4 bY (aT aV (pv 1) aE) (aT aV (pv 0) aE) (aU _)))) aW)
 (aI (aQ (jg (pc (D:=T.HZ) Jp hr (aD (aT aV (pv 0) aE) (aD (aT aV (pv 1) aE) (aD (pv 2) aC)))) (jh (pc (D:=T.HZ) Jp hr (aD (aT aV (pv 0) aE) (aD (aT aV (pv 1) aE) (aD (pv 2) aC)))))))))))),?_⟩
 obtain ⟨kd,r,ek,hnum,harg⟩:=Av t okt;have hf':∀ {G:Hp},But3 l0 l1 l2 H G->G f=some (oD l0 l1 l2):=λbb=>bb _ _ f0 f1 f2 hf;have p1:=Be (n+1);have p2:2 ^ (n+1)=2 * 2 ^ n:=by rw [Nat.pow_succ,Nat.mul_comm]
 cases p with
 | hole i =>have h0:Dat K H (.tup [.str "hole",.int i]) v0:=h0;refine gH (K:=K) (d:=.str "hole") (aY (k:=0) (aA h0) aF rfl) λv3 H1 s1 q3=>?_;have ev:=q3.strE;subst ev;refine aS (K:=K) (b:=true) (RT.as (aJ (iP (aA q3) T.GN)) (qu (.inl rfl))) (λ_ H2 s2=>?_) (λc=>nomatch c);have s12:=s1.trans s2;refine aS (K:=K) (b:=!true) (bS (bE (bN (R:=mj) (d:=.bl true) (aB (aA (s12.dat h0)) (aB (aA (s12.dat h1)) aL)) ⟨.hole i,t,rfl,rfl,okt,rfl⟩))) (λc=>nomatch c) (λ_ H3 s3=>?_);have s13:=s12.trans s3;refine c9 ⟨_,rfl,_,rfl,f,.ref l0,rfl,An (s13 _ _ hf) (xU l0 l1 l2),.inl ⟨rfl,_,SqL.of (s13 _ _ tri.h0)⟩,?_⟩;refine RE.use (K:=K) (d:=toD t) (mQ (b:=true) (RT.as (aJ (K:=K) (bI (aA (Dat.strI "hole")) aK)) (decide_eq_true rfl)) (λ_=>aA (s13.dat h1)) (λc=>nomatch c)) λy H4 s4 q4=>?_;have s14:=s13.trans s4;have tri4:=tri.same s14;refine ⟨l0,a,y,rfl,rfl,tri4.h0,bX (by omega),?_⟩;obtain ⟨t5,b5⟩:=tri4.p0 (v:=y);refine post _ [y] [] [] (s14.but3.trans b5) t5 (by simpa using p1) (by simp) (by simp) λfd e=>?_;cases e;exact ⟨Dats.cons (Dat.mono (b5.grow tri4 t5) _ q4) Dats.nil,Dats.nil,Dats.nil⟩
 | gap i m =>
  have h0:Dat K H (.tup [.str "gap",.int i,.int m]) v0:=h0;refine gH (K:=K) (d:=.str "gap") (aY (k:=0) (aA h0) aF rfl) λv3 H1 s1 q3=>?_;have ev:=q3.strE;subst ev;refine aS (K:=K) (b:=true) (RT.as (aJ (iP (aA q3) T.GN)) (qu (.inr (.inl rfl)))) (λ_ H2 s2=>?_) (λc=>nomatch c);have s12:=s1.trans s2;refine aS (K:=K) (b:=!(cH (.gap i m) t).isSome) (bS (bE (bN (R:=mj) (aB (aA (s12.dat h0)) (aB (aA (s12.dat h1)) aL)) ⟨.gap i m,t,rfl,rfl,okt,rfl⟩))) (λcN H3 s3=>?_) (λcS H3 s3=>?_)
  ·have s13:=s12.trans s3;have e:(cH (.gap i m) t).isSome=false:=jz cN;refine bF (K:=K) (d:=.bl false) fG λv H' s qq=>?_;rw [qq.blE,<- e];have s14:=s13.trans s;exact post _ [] [] [] s14.but3 (tri.same s14).nil (by simp) (by simp) (by simp) λfd z=>by rw [z] at e;cases e
  ·have s13:=s12.trans s3
   obtain ⟨nn,rfl⟩:∃ nn,t=.num nn:=by
    have cS':=gI cS
    cases t with
    | num nn=>exact ⟨nn,rfl⟩
    | _=>cases cS'
   have h1:Dat K H (.tup [.str "num",.int nn]) v1:=h1;refine c9 ⟨_,rfl,_,rfl,f,.ref l1,rfl,An (s13 _ _ hf) (AZ l0 l1 l2),.inl ⟨rfl,_,SqL.of (s13 _ _ tri.h1)⟩,?_⟩;refine RE.use (K:=K) (d:=.int nn) (mQ (b:=false) (RT.as (aJ (K:=K) (bI (aA (Dat.strI "gap")) aK)) (decide_eq_false (by decide +kernel))) (λc=>nomatch c) (λ_=>aY (k:=1) (aA (s13.dat h1)) aF rfl)) λy H4 s4 q4=>?_;have s14:=s13.trans s4;have tri4:=tri.same s14;refine ⟨l1,b,y,rfl,rfl,tri4.h1,bX (by omega),?_⟩;obtain ⟨t5,b5⟩:=tri4.p1 (v:=y);have e:=gI cS;show Q (.bl true) _;rw [<- e];refine post _ [] [y] [] (s14.but3.trans b5) t5 (by simp) (by simpa using p1) (by simp) λfd z=>?_;have z':(if nn<=m then some ([],[nn],[]) else none:Option Fnd)=some fd:=z;by_cases hm:nn<=m
   ·rw [if_pos hm] at z';cases z';exact ⟨Dats.nil,Dats.cons (Dat.mono (b5.grow tri4 t5) _ q4) Dats.nil,Dats.nil⟩
   ·rw [if_neg hm] at z';cases z'
 | slot i =>
  have h0:Dat K H (.tup [.str "slot",.int i]) v0:=h0;refine gH (K:=K) (d:=.str "slot") (aY (k:=0) (aA h0) aF rfl) λv3 H1 s1 q3=>?_;have ev:=q3.strE;subst ev;refine aS (K:=K) (b:=true) (RT.as (aJ (iP (aA q3) T.GN)) (qu (.inr (.inr rfl)))) (λ_ H2 s2=>?_) (λc=>nomatch c);have s12:=s1.trans s2;refine aS (K:=K) (b:=!(cH (.slot i) t).isSome) (bS (bE (bN (R:=mj) (aB (aA (s12.dat h0)) (aB (aA (s12.dat h1)) aL)) ⟨.slot i,t,rfl,rfl,okt,rfl⟩))) (λcN H3 s3=>?_) (λcS H3 s3=>?_)
  ·have s13:=s12.trans s3;have e:(cH (.slot i) t).isSome=false:=jz cN;refine bF (K:=K) (d:=.bl false) fG λv H' s qq=>?_;rw [qq.blE,<- e];have s14:=s13.trans s;exact post _ [] [] [] s14.but3 (tri.same s14).nil (by simp) (by simp) (by simp) λfd z=>by rw [z] at e;cases e
  ·have s13:=s12.trans s3
   obtain ⟨nn,rfl⟩:∃ nn,t=.arg nn:=by
    have cS':=gI cS
    cases t with
    | arg nn=>exact ⟨nn,rfl⟩
    | _=>cases cS'
   have h1:Dat K H (.tup [.str "arg",.int nn]) v1:=h1;refine c9 ⟨_,rfl,_,rfl,f,.ref l2,rfl,An (s13 _ _ hf) (xV l0 l1 l2),.inl ⟨rfl,_,SqL.of (s13 _ _ tri.h2)⟩,?_⟩;refine RE.use (K:=K) (d:=.int nn) (mQ (b:=false) (RT.as (aJ (K:=K) (bI (aA (Dat.strI "slot")) aK)) (decide_eq_false (by decide +kernel))) (λc=>nomatch c) (λ_=>aY (k:=1) (aA (s13.dat h1)) aF rfl)) λy H4 s4 q4=>?_;have s14:=s13.trans s4;have tri4:=tri.same s14;refine ⟨l2,c,y,rfl,rfl,tri4.h2,bX (by omega),?_⟩;obtain ⟨t5,b5⟩:=tri4.p2 (v:=y);have e:=gI cS;show Q (.bl true) _;rw [<- e];refine post _ [] [] [y] (s14.but3.trans b5) t5 (by simp) (by simp) (by simpa using p1) λfd z=>?_;cases z;exact ⟨Dats.nil,Dats.nil,Dats.cons (Dat.mono (b5.grow tri4 t5) _ q4) Dats.nil⟩
 | num m =>
  have h0:Dat K H (.tup [.str "num",.int m]) v0:=h0;have h1':Dat K H (.tup (.str kd::r)) v1:=by rw [<- ek];exact h1
  refine gH (K:=K) (d:=.str "num") (aY (k:=0) (aA h0) aF rfl) λv3 H1 s1 q3=>?_;refine aS (K:=K) (b:=false) (RT.as (aJ (iP (aA q3) T.GN)) (by decide +kernel)) (λc=>nomatch c) (λ_ H2 s2=>?_);have s12:=s1.trans s2;refine aS (K:=K) (b:=!decide (kd="num")) (aJ (tU (aY (k:=0) (aA (s12.dat h1')) aF rfl) (aA (s2.dat q3)))) (λcN H3 s3=>?_) (λcS H3 s3=>?_)
  ·have s13:=s12.trans s3;have hne:¬ kd="num":=of_decide_eq_false (jz cN)
   have e:cH (.num m) t=none:=by
    cases t with
    | num n=>exact absurd (hnum.mpr ⟨n,rfl⟩) hne
    | _=>rfl
   refine bF (K:=K) (d:=.bl false) fG λv H' s qq=>?_;rw [qq.blE];have s14:=s13.trans s;have pz:=post _ [] [] [] s14.but3 (tri.same s14).nil (by simp) (by simp) (by simp) λfd z=>by rw [e] at z;cases z
   rw [e] at pz;exact pz
  ·have s13:=s12.trans s3;obtain ⟨nn,rfl⟩:=hnum.mp (of_decide_eq_true (gI cS));have h1:Dat K H (.tup [.str "num",.int nn]) v1:=h1;refine aS (K:=K) (b:=true) (RT.as (aJ (bI (aA ((s2.trans s3).dat q3)) aK)) (decide_eq_true rfl)) (λ_ H4 s4=>?_) (λc=>nomatch c);have s14:=s13.trans s4;refine bF (K:=K) (d:=.bl (decide (nn=m))) (pZ (aY (k:=1) (aA (s14.dat h1)) aF rfl) (aY (k:=1) (aA (s14.dat h0)) aF rfl)) λv H' s qq=>?_;rw [qq.blE];have s15:=s14.trans s
   have pz:=post _ [] [] [] s15.but3 (tri.same s15).nil (by simp) (by simp) (by simp) λfd z=>by
    have z':(if nn=m then some ([],[],[]) else none:Option Fnd)=some fd:=z;by_cases hm:nn=m
    ·rw [if_pos hm] at z';cases z';exact ⟨Dats.nil,Dats.nil,Dats.nil⟩
    ·rw [if_neg hm] at z';cases z'
   have e:(cH (.num m) (.num nn)).isSome=decide (nn=m):=by
    show (if nn=m then some _ else none:Option Fnd).isSome=_;by_cases hm:nn=m
    ·rw [if_pos hm,decide_eq_true hm];rfl
    ·rw [if_neg hm,decide_eq_false hm];rfl
   rw [e] at pz;exact pz
 | two o pa pb =>
  have h0:Dat K H (.tup [.str o,toP pa,toP pb]) v0:=h0;have h1':Dat K H (.tup (.str kd::r)) v1:=by rw [<- ek];exact h1
  obtain ⟨b1,b2⟩:=Ca okp.1;refine gH (K:=K) (d:=.str o) (aY (k:=0) (aA h0) aF rfl) λv3 H1 s1 q3=>?_;refine aS (K:=K) (b:=false) (RT.as (aJ (iP (aA q3) T.GN)) b1) (λc=>nomatch c) (λ_ H2 s2=>?_);have s12:=s1.trans s2;refine aS (K:=K) (b:=!decide (kd=o)) (aJ (tU (aY (k:=0) (aA (s12.dat h1')) aF rfl) (aA (s2.dat q3)))) (λcN H3 s3=>?_) (λcS H3 s3=>?_)
  ·have s13:=s12.trans s3;have e:=uF (a:=pa) (b:=pb) okp.1 ek (of_decide_eq_false (jz cN));refine bF (K:=K) (d:=.bl false) fG λv H' s qq=>?_;rw [qq.blE];have s14:=s13.trans s;have pz:=post _ [] [] [] s14.but3 (tri.same s14).nil (by simp) (by simp) (by simp) λfd z=>by rw [e] at z;cases z
   rw [e] at pz;exact pz
  ·have s13:=s12.trans s3;obtain ⟨x,y,rfl⟩:=uL okp.1 ek (of_decide_eq_true (gI cS));have h1:Dat K H (.tup [.str o,toD x,toD y]) v1:=h1;refine aS (K:=K) (b:=false) (RT.as (aJ (bI (aA ((s2.trans s3).dat q3)) aK)) (decide_eq_false b2)) (λc=>nomatch c) (λ_ H4 s4=>?_);have s14:=s13.trans s4;have dpa:dP pa<=n:=by simp only [dP] at hn;omega
   have dpb:dP pb<=n:=by simp only [dP] at hn;omega
   have dpx:a9 x<=8:=by simp only [a9] at dpt;omega
   have dpy:a9 y<=8:=by simp only [a9] at dpt;omega
   refine RE.use (K:=K) (d:=toP pa) (aY (k:=1) (aA (s14.dat h0)) aF rfl) λw0 H5 s5 q5=>?_;refine RE.use (K:=K) (d:=toD x) (aY (k:=1) (aA ((s14.trans s5).dat h1)) aF rfl) λw1 H6 s6 q6=>?_;have s16:=s14.trans (s5.trans s6);have tri6:=tri.same s16;refine ⟨_,rfl,pa,x,w0,w1,f,l0,l1,l2,a,b,c,rfl,okp.2.1,okt.2.1,dpx,dpa,by omega,s6.dat q5,q6,s16 _ _ hf,f0,f1,f2,tri6,by omega,by omega,by omega,λH7 a1 b1' c1 bb7 tri7 ka kb kc d7=>?_⟩;refine ⟨_,rfl,?_⟩
   have n8:2 ^ n<=8:=by
    have:n<=3:=by omega
    match n,this with
    | 0,_=>decide
    | 1,_=>decide
    | 2,_=>decide
    | 3,_=>decide
   have g67:fE K H6 H7:=bb7.grow tri6 tri7;have bb17:But3 l0 l1 l2 H H7:=s16.but3.trans bb7
   cases hfa:cH pa x with
   | none =>
    refine jN ?_;have pz:=post H7 a1 b1' c1 bb17 tri7 (Nat.le_trans ka (Nat.pow_le_pow_right (by decide) (by omega))) (Nat.le_trans kb (Nat.pow_le_pow_right (by decide) (by omega))) (Nat.le_trans kc (Nat.pow_le_pow_right (by decide) (by omega))) λfd z=>by rw [jx hfa] at z;cases z
    rw [jx hfa] at pz;exact pz
   | some fa =>
    refine jv ?_;obtain ⟨da,db,dc⟩:=d7 fa hfa;refine jA (dH (RE.use (K:=K) (d:=toP pb) (aY (k:=2) (aA (Dat.mono g67 _ (s16.dat h0))) aF rfl) λw2 H8 s8 q8=>?_));refine dH (RE.use (K:=K) (d:=toD y) (aY (k:=2) (aA (s8.dat (Dat.mono g67 _ (s16.dat h1)))) aF rfl) λw3 H9 s9 q9=>?_);have s79:=s8.trans s9;have tri9:=tri7.same s79;refine ⟨_,rfl,pb,y,w2,w3,f,l0,l1,l2,a++a1,b++b1',c++c1,rfl,okp.2.2,okt.2.2,dpy,dpb,by omega,s9.dat q8,q9,s79 _ _ (hf' bb17),f0,f1,f2,tri9,by rw [List.length_append];omega,by rw [List.length_append];omega,by rw [List.length_append];omega,λH10 a2 b2' c2 bb10 tri10 ma mb mc d10=>?_⟩;have g:=bb10.grow (K:=K) tri9 tri10;rw [List.append_assoc,List.append_assoc,List.append_assoc] at tri10
    have pz:=post H10 (a1++a2) (b1'++b2') (c1++c2) (bb17.trans (s79.but3.trans bb10)) tri10 (nF ka ma) (nF kb mb) (nF kc mc) λfd z=>by
     obtain ⟨_,f',g',e1,e2,e3⟩:=eJ z;rw [hfa] at e1;cases e1;obtain ⟨da2,db2,dc2⟩:=d10 g' e2;subst e3;refine ⟨?_,?_,?_⟩
     ·show Dats K H10 ((fa.1++g'.1).map toD) _;rw [List.map_append];exact Dats.append (Dats.mono g _ (s79.dats da)) da2
     ·show Dats K H10 ((fa.2.1++g'.2.1).map D.int) _;rw [List.map_append];exact Dats.append (Dats.mono g _ (s79.dats db)) db2
     ·show Dats K H10 ((fa.2.2++g'.2.2).map D.int) _;rw [List.map_append];exact Dats.append (Dats.mono g _ (s79.dats dc)) dc2
    rw [o7 hfa] at pz;exact pz
noncomputable def fdD:Option Fnd->D
 | none=>.non
 | some f=>.tup [.tup (f.1.map toD),.tup (f.2.1.map D.int),.tup (f.2.2.map D.int)]
def oS (ds:List D) (d:D):Prop:=∃ nm p cs t,ds=[.tup [nm,toP p,cs],toD t]/\wC p/\okT t/\a9 t<=8/\dP p<=3/\d=fdD (cH p t)
theorem EW (x y z:V):nr [] ([(Sum.inr (Str.ofString "hole"),x),(Sum.inr (Str.ofString "gap"),y),(Sum.inr (Str.ofString "slot"),z)]:List (Key × V))=[(Sum.inr (Str.ofString "hole"),x),(Sum.inr (Str.ofString "gap"),y),(Sum.inr (Str.ofString "slot"),z)]:=rfl
theorem Gc {K:W.Frag} {ts:TS} (h:te σ H λx H'=>∃ k,zK K x H' k/\if (!k)=true then ts { En with nx:=us En } σ H' else us En σ H'):lI (DH (FB (λσ H Q=>te σ H λx H'=>∃ k,zK K x H' k/\Q k H')) ts yl) us En σ H:=h
theorem vi (T:Txt P w K mg) (Jp:Ok P w base k T.HZ (kX K oD 3)):Ok P w base (k+1) T.Im (spD K oS):=by
 refine T.Im.f.ok sc_found_in (λvs H Q E h=>?_) (λcdv A outer s H vs Q E hr h=>?_)
 ·obtain ⟨ds,d,hd,⟨nm,p,cs,t,rfl,_⟩,_⟩:=h;exact hd.length.symm
 have nd:=sc_found_in.nd;obtain ⟨ds,d,hd,⟨nm,p,cs,t,rfl,okp,okt,dpt,dpp,rfl⟩,post⟩:=h;obtain ⟨v0,v1,rfl,h0,h1⟩:=iJ hd;refine' ⟨_,?ybody,?yread⟩
 case' ybody=>refine' aG ?a ?b
 case' a=>refine' bT (i:=2) ?c ?d ?e ?f
 case c=>exact nd
 case d=>exact rfl
 case e=>exact Or.inl rfl
 case' f=>refine' C8 ?g ?h ?i ?j ?k
 case' g=>refine' pT ?l ?m ?n
 case l=>exact aP
 case m=>exact (bR aC)
 case' n=>refine' pT ?o ?p ?q
 case o=>exact aP
 case p=>exact (bR aC)
 case' q=>refine' pT ?r ?s ?t
 case r=>exact aP
 case s=>exact (bR aC)
 case t=>exact Di
 case h=>exact rfl
 case i=>exact rfl
 case j=>simp
 case k=>decide
 case' b=>refine' aG ?u ?v
 case' u=>refine' bL ?w ?x ?y
 case w=>exact (cQ (bQ (pc (D:=T.HZ) Jp hr (aD (aT aV (pv 0) aE) (aD (pv 1) (aD (pv 2) aC)))) (λ_=>rfl)))
 case' x=>refine' aI ?z
 case z=>exact (aQ fJ)
 case y=>exact aW
 case' v=>refine' aI ?aa
 case aa=>exact (aQ (bB (aD (dQ cX rfl T.Hl dB (aD (oH (xM hr) (pv 2) aP (λ_ _=>rfl)) aC)) (aD (dQ cX rfl T.Hl dB (aD (oH (xM hr) (pv 2) aP (λ_ _=>rfl)) aC)) (aD (dQ cX rfl T.Hl dB (aD (oH (xM hr) (pv 2) aP (λ_ _=>rfl)) aC)) aC)))))
 refine eF (λf hf=>⟨cW (by decide),λl0 hl0=>⟨cW (by decide),λl1 hl1=>⟨cW (by decide),λl2 hl2=>⟨?_,[(Sum.inr "hole",.ref l0),(Sum.inr "gap",.ref l1),(Sum.inr "slot",.ref l2)],rfl,by simp,?_⟩⟩⟩⟩)
 ·rw [aZ (aM (by rw [aZ (aM (by rw [aZ (aM aH hl0)];exact aH) hl1),aZ (aM aH hl0)];exact aH) hl2),aZ (aM (by rw [aZ (aM aH hl0)];exact aH) hl1),aZ (aM aH hl0)];exact aH
 rw [EW];have n0f:f≠l0:=aM aH hl0;have n1f:f≠l1:=aM (by rw [aZ n0f];exact aH) hl1;have n10:l0≠l1:=aM aH hl1;have n2f:f≠l2:=aM (by rw [aZ n1f,aZ n0f];exact aH) hl2;have n20:l0≠l2:=aM (by rw [aZ n10];exact aH) hl2;have n21:l1≠l2:=aM aH hl2;generalize hG:upd (upd (upd (upd (upd H f (.dK [])) l0 (.lst [])) l1 (.lst [])) l2 (.lst [])) f (.dK [(Sum.inr "hole",V.ref l0),(Sum.inr "gap",.ref l1),(Sum.inr "slot",.ref l2)])=G;have gf:G f=some (oD l0 l1 l2):=by rw [<- hG];exact aH
 have tri:Tri l0 l1 l2 G [] [] []:=by
  rw [<- hG];refine ⟨?_,?_,?_,n10,n20,n21⟩
  ·rw [aZ (Ne.symm n0f),aZ n20,aZ n10];exact aH
  ·rw [aZ (Ne.symm n1f),aZ n21];exact aH
  ·rw [aZ (Ne.symm n2f)];exact aH
 have sG:Same H G:=λx o hx=>by have zf:=aM hx hf;have z0:x≠l0:=aM (by rw [aZ zf];exact hx) hl0;have z1:x≠l1:=aM (by rw [aZ z0,aZ zf];exact hx) hl1;have z2:x≠l2:=aM (by rw [aZ z1,aZ z0,aZ zf];exact hx) hl2;rw [<- hG,aZ zf,aZ z2,aZ z1,aZ z0,aZ zf];exact hx
 have free0:H l0=none:=by rw [aZ (Ne.symm n0f)] at hl0;exact hl0
 have free1:H l1=none:=by rw [aZ (Ne.symm n10),aZ (Ne.symm n1f)] at hl1;exact hl1
 have free2:H l2=none:=by rw [aZ (Ne.symm n21),aZ (Ne.symm n20),aZ (Ne.symm n2f)] at hl2;exact hl2
 refine Gc (K:=K) (jA (dH (RE.use (K:=K) (d:=toP p) (aY (k:=1) (aA (sG.dat h0)) aF rfl) λw0 G1 s1 q0=>?_)));refine ⟨_,rfl,_,rfl,p,t,w0,v1,f,l0,l1,l2,[],[],[],rfl,okp,okt,dpt,dpp,by decide,q0,(sG.trans s1).dat h1,s1 _ _ gf,n0f,n1f,n2f,tri.same s1,by decide,by decide,by decide,λH' a' b' c' bb tri' _ _ _ dd=>⟨_,rfl,?_⟩⟩;have sm:Same H H':=λx o hx=>bb x o (aM hx free0) (aM hx free1) (aM hx free2) (s1 _ _ (sG _ _ hx))
 cases hft:cH p t with
 | none =>refine jv ?_;rw [hft] at post;exact post _ _ sm Dat.nonI
 | some fd =>refine jN ?_;obtain ⟨d0,d1,d2⟩:=dd fd hft;have gf':H' f=some (.dK [(Sum.inr "hole",V.ref l0),(Sum.inr "gap",.ref l1),(Sum.inr "slot",.ref l2)]):=bb _ _ n0f n1f n2f (s1 _ _ gf);rw [hft] at post;exact bF (K:=K) (d:=fdD (some fd)) (bJ (aB (nJ gf' (xU l0 l1 l2) tri'.h0 d0) (aB (nJ gf' (AZ l0 l1 l2) tri'.h1 d1) (aB (nJ gf' (xV l0 l1 l2) tri'.h2 d2) aL)))) λv H'' s qq=>post v H'' (sm.trans s) qq
abbrev qO (ds:List D) (d:D):Prop:=∃ x,ds=[x]/\iE x=true/\d=.non
noncomputable abbrev LPD:List D:=[.tup [.str "inc",.tup [.str "add",.tup [.str "hole",.int 0],.tup [.str "num",.int 1]],.tup [.int 12,.int 1]],
 .tup [.str "both",.tup [.str "add",.tup [.str "slot",.int 0],.tup [.str "slot",.int 1]],.tup [.int 3,.tup [.str "arg",.int 0],.int 3,.tup [.str "arg",.int 1],.int 4]],
 .tup [.str "twofold",.tup [.str "mul",.tup [.str "hole",.int 0],.tup [.str "num",.int 2]],.tup [.int 13,.int 4]],
 .tup [.str "fewer",.tup [.str "sub",.tup [.str "hole",.int 0],.tup [.str "gap",.int 0,.int 99]],.tup [.int 1,.tup [.str "low",.int 0],.int 5]],
 .tup [.str "addmul",.tup [.str "add",.tup [.str "mul",.tup [.str "hole",.int 0],.tup [.str "hole",.int 1]],.tup [.str "gap",.int 0,.int 99]],.tup [.int 6,.int 12,.tup [.str "low",.int 0]]],
 .tup [.str "turned",.tup [.str "less",.tup [.str "gap",.int 0,.int 99],.tup [.str "hole",.int 0]],.tup [.int 1,.tup [.str "low",.int 0],.int 14,.int 7]],
 .tup [.str "far",.tup [.str "add",.tup [.str "hole",.int 0],.tup [.str "gap",.int 0,.int 9999]],.tup [.int 2,.tup [.str "low",.int 0],.tup [.str "high",.int 0],.int 4]],
 .tup [.str "pair",.tup [.str "sub",.tup [.str "gap",.int 0,.int 99],.tup [.str "gap",.int 1,.int 99]],.tup [.int 1,.tup [.str "low",.int 0],.int 1,.tup [.str "low",.int 1],.int 5]]]
theorem pK (T:Txt P w K mg)  : Ok P w base (k+1) T.HB (jC K λds es=>ds=[]/\es=LPD):=by
 refine T.HB.f.ok sc__law_pieces (λvs H Q E h=>?_) (λcdv A outer s H vs Q E hr h=>?_)
 ·obtain ⟨ds,es,hd,⟨rfl,rfl⟩,_⟩:=h;exact hd.length.symm
 have nd:=sc__law_pieces.nd;obtain ⟨ds,es,hd,⟨rfl,rfl⟩,post⟩:=h;have ez:=hd.nilE;subst ez;refine' ⟨_,?ybody,?yread⟩
 case' ybody=>refine' aG ?a ?b
 case' a=>refine' hE ?c ?d ?e ?f
 case' c=>refine' bB ?g
 case' g=>refine' aD ?h ?i
 case h=>exact (bB (aD aP (aD aE aC)))
 case' i=>refine' aD ?j ?k
 case j=>exact (bB (aD aP (aD aE aC)))
 case' k=>refine' aD ?l ?m
 case l=>exact (bB (aD aP (aD aE (aD aE aC))))
 case m=>exact aC
 case d=>exact (gO rfl (bM (a7 (i:=0) nd rfl (Or.inl rfl)) (bM (a7 (i:=1) nd rfl (Or.inl rfl)) (bM (a7 (i:=2) nd rfl (Or.inl rfl)) dF))))
 case e=>rfl
 case f=>kernel_rfl
 case' b=>refine' aG ?n ?o
 case' n=>refine' bT (i:=3) ?p ?q ?r ?s
 case p=>exact nd
 case q=>exact rfl
 case r=>exact Or.inl rfl
 case' s=>refine' bR ?t
 case' t=>refine' aD ?u ?v
 case' u=>refine' bB ?w
 case' w=>refine' aD ?x ?y
 case x=>exact aP
 case' y=>refine' aD ?z ?aa
 case' z=>refine' bB ?ab
 case' ab=>refine' aD ?ac ?ad
 case ac=>exact aP
 case' ad=>refine' aD ?ae ?af
 case ae=>exact (pv 0)
 case' af=>refine' aD ?ag ?ah
 case ag=>exact (bB (aD aP (aD aE aC)))
 case ah=>exact aC
 case' aa=>refine' aD ?ai ?aj
 case ai=>exact (bB (aD aE (aD aE aC)))
 case aj=>exact aC
 case v=>exact aC
 case' o=>refine' aG ?ak ?al
 case' ak=>refine' bW ?am
 case' am=>refine' eQ ?an ?ao ?ap ?aq ?ar ?au
 case an=>exact F.plainAttrs_list
 case ao=>exact F.slot_list_append
 case ap=>exact F.type_list_append
 case aq=>exact bV
 case ar=>exact (pv 3)
 case' au=>refine' aD ?av ?aw
 case' av=>refine' bB ?ax
 case' ax=>refine' aD ?ay ?az
 case ay=>exact aP
 case' az=>refine' aD ?ba ?bb
 case' ba=>refine' bB ?bc
 case' bc=>refine' aD ?bd ?be
 case bd=>exact aP
 case' be=>refine' aD ?bf ?bg
 case bf=>exact (bB (aD aP (aD aE aC)))
 case' bg=>refine' aD ?bh ?bi
 case bh=>exact (bB (aD aP (aD aE aC)))
 case bi=>exact aC
 case' bb=>refine' aD ?bj ?bk
 case' bj=>refine' bB ?bl
 case' bl=>refine' aD ?bm ?bn
 case bm=>exact aE
 case' bn=>refine' aD ?bo ?bp
 case bo=>exact (bB (aD aP (aD aE aC)))
 case' bp=>refine' aD ?bq ?br
 case bq=>exact aE
 case' br=>refine' aD ?bs ?bt
 case bs=>exact (bB (aD aP (aD aE aC)))
 case' bt=>refine' aD ?bu ?bv
 case bu=>exact aE
 case bv=>exact aC
 case bk=>exact aC
 case aw=>exact aC
 case' al=>refine' aG ?bw ?bx
 case' bw=>refine' bW ?bz
 case' bz=>refine' eQ ?ca ?cb ?cc ?cd ?ce ?cf
 case ca=>exact F.plainAttrs_list
 case cb=>exact F.slot_list_append
 case cc=>exact F.type_list_append
 case cd=>exact bV
 case ce=>exact (pv 3)
 case' cf=>refine' aD ?cg ?ch
 case' cg=>refine' bB ?ci
 case' ci=>refine' aD ?cj ?ck
 case cj=>exact aP
 case' ck=>refine' aD ?cl ?cm
 case' cl=>refine' bB ?cn
 case' cn=>refine' aD ?co ?cp
 case co=>exact aP
 case' cp=>refine' aD ?cq ?cr
 case cq=>exact (pv 0)
 case' cr=>refine' aD ?cs ?ct
 case cs=>exact (bB (aD aP (aD aE aC)))
 case ct=>exact aC
 case' cm=>refine' aD ?cu ?cv
 case cu=>exact (bB (aD aE (aD aE aC)))
 case cv=>exact aC
 case ch=>exact aC
 case' bx=>refine' aG ?cw ?cx
 case' cw=>refine' bW ?cy
 case' cy=>refine' eQ ?cz ?da ?db ?dc ?dd ?de
 case cz=>exact F.plainAttrs_list
 case da=>exact F.slot_list_append
 case db=>exact F.type_list_append
 case dc=>exact bV
 case dd=>exact (pv 3)
 case' de=>refine' aD ?df ?dg
 case' df=>refine' bB ?dh
 case' dh=>refine' aD ?di ?dj
 case di=>exact aP
 case' dj=>refine' aD ?dk ?dl
 case dk=>exact (bB (aD aP (aD (pv 0) (aD (pv 2) aC))))
 case' dl=>refine' aD ?dm ?dn
 case' dm=>refine' bB ?dp
 case' dp=>refine' aD ?dq ?dr
 case dq=>exact aE
 case' dr=>refine' aD ?ds ?dt
 case ds=>exact (bB (aD aP (aD aE aC)))
 case' dt=>refine' aD ?du ?dv
 case du=>exact aE
 case dv=>exact aC
 case dn=>exact aC
 case dg=>exact aC
 case' cx=>refine' aG ?dw ?dx
 case' dw=>refine' bW ?dy
 case' dy=>refine' eQ ?dz ?ea ?eb ?ec ?ed ?ee
 case dz=>exact F.plainAttrs_list
 case ea=>exact F.slot_list_append
 case eb=>exact F.type_list_append
 case ec=>exact bV
 case ed=>exact (pv 3)
 case' ee=>refine' aD ?ef ?eg
 case' ef=>refine' bB ?eh
 case' eh=>refine' aD ?ei ?ej
 case ei=>exact aP
 case' ej=>refine' aD ?ek ?el
 case' ek=>refine' bB ?em
 case' em=>refine' aD ?en ?eo
 case en=>exact aP
 case' eo=>refine' aD ?ep ?eq
 case ep=>exact (bB (aD aP (aD (pv 0) (aD (pv 1) aC))))
 case' eq=>refine' aD ?er ?es
 case er=>exact (pv 2)
 case es=>exact aC
 case' el=>refine' aD ?et ?eu
 case' et=>refine' bB ?ev
 case' ev=>refine' aD ?ew ?ex
 case ew=>exact aE
 case' ex=>refine' aD ?ey ?ez
 case ey=>exact aE
 case' ez=>refine' aD ?fa ?fb
 case fa=>exact (bB (aD aP (aD aE aC)))
 case fb=>exact aC
 case eu=>exact aC
 case eg=>exact aC
 case' dx=>refine' aG ?fc ?fd
 case' fc=>refine' bW ?fe
 case' fe=>refine' eQ ?ff ?fg ?fh ?fi ?fj ?fk
 case ff=>exact F.plainAttrs_list
 case fg=>exact F.slot_list_append
 case fh=>exact F.type_list_append
 case fi=>exact bV
 case fj=>exact (pv 3)
 case' fk=>refine' aD ?fl ?fm
 case' fl=>refine' bB ?fn
 case' fn=>refine' aD ?fo ?fp
 case fo=>exact aP
 case' fp=>refine' aD ?fq ?fr
 case fq=>exact (bB (aD aP (aD (pv 2) (aD (pv 0) aC))))
 case' fr=>refine' aD ?fs ?ft
 case' fs=>refine' bB ?fu
 case' fu=>refine' aD ?fv ?fw
 case fv=>exact aE
 case' fw=>refine' aD ?fx ?fy
 case fx=>exact (bB (aD aP (aD aE aC)))
 case' fy=>refine' aD ?fz ?ga
 case fz=>exact aE
 case' ga=>refine' aD ?gb ?gc
 case gb=>exact aE
 case gc=>exact aC
 case ft=>exact aC
 case fm=>exact aC
 case' fd=>refine' aG ?gd ?ge
 case' gd=>refine' bW ?gf
 case' gf=>refine' eQ ?gg ?gh ?gi ?gj ?gk ?gl
 case gg=>exact F.plainAttrs_list
 case gh=>exact F.slot_list_append
 case gi=>exact F.type_list_append
 case gj=>exact bV
 case gk=>exact (pv 3)
 case' gl=>refine' aD ?gm ?gn
 case' gm=>refine' bB ?go
 case' go=>refine' aD ?gp ?gq
 case gp=>exact aP
 case' gq=>refine' aD ?gr ?gs
 case' gr=>refine' bB ?gt
 case' gt=>refine' aD ?gu ?gv
 case gu=>exact aP
 case' gv=>refine' aD ?gw ?gx
 case gw=>exact (pv 0)
 case' gx=>refine' aD ?gy ?gz
 case gy=>exact (bB (aD aP (aD aE (aD aE aC))))
 case gz=>exact aC
 case' gs=>refine' aD ?ha ?hb
 case' ha=>refine' bB ?hc
 case' hc=>refine' aD ?hd ?he
 case hd=>exact aE
 case' he=>refine' aD ?hf ?hg
 case hf=>exact (bB (aD aP (aD aE aC)))
 case' hg=>refine' aD ?hh ?hi
 case hh=>exact (bB (aD aP (aD aE aC)))
 case' hi=>refine' aD ?hj ?hk
 case hj=>exact aE
 case hk=>exact aC
 case hb=>exact aC
 case gn=>exact aC
 case' ge=>refine' aG ?hl ?hm
 case' hl=>refine' bW ?hn
 case' hn=>refine' eQ ?ho ?hp ?hq ?hr ?hs ?ht
 case ho=>exact F.plainAttrs_list
 case hp=>exact F.slot_list_append
 case hq=>exact F.type_list_append
 case hr=>exact bV
 case hs=>exact (pv 3)
 case' ht=>refine' aD ?hu ?hv
 case' hu=>refine' bB ?hw
 case' hw=>refine' aD ?hx ?hy
 case hx=>exact aP
 case' hy=>refine' aD ?hz ?ia
 case' hz=>refine' bB ?ib
 case' ib=>refine' aD ?ic ?id
 case ic=>exact aP
 case' id=>refine' aD ?ie ?ig
 case ie=>exact (bB (aD aP (aD aE (aD aE aC))))
 case' ig=>refine' aD ?ih ?ii
 case ih=>exact (bB (aD aP (aD aE (aD aE aC))))
 case ii=>exact aC
 case' ia=>refine' aD ?ij ?ik
 case' ij=>refine' bB ?il
 case' il=>refine' aD ?im ?io
 case im=>exact aE
 case' io=>refine' aD ?ip ?iq
 case ip=>exact (bB (aD aP (aD aE aC)))
 case' iq=>refine' aD ?ir ?it
 case ir=>exact aE
 case' it=>refine' aD ?iu ?iv
 case iu=>exact (bB (aD aP (aD aE aC)))
 case' iv=>refine' aD ?iw ?ix
 case iw=>exact aE
 case ix=>exact aC
 case ik=>exact aC
 case hv=>exact aC
 case' hm=>refine' aI ?iy
 case iy=>exact (aQ (pv 3))
 refine tX (K:=K) (d:=.tup [.str "hole",.int 0]) (e:=.tup [.str "hole",.int 1]) (f:=.tup [.str "gap",.int 0,.int 99]) (bJ (aB (bJ (aB aK (aB aF aL))) (aB (bJ (aB aK (aB aF aL))) (aB (bJ (aB aK (aB aF (aB aF aL)))) aL)))) λvh vo vg H1 s1 dh do_ dg=>?_;refine iG (K:=K) (gC (aB (bJ (aB aK (aB (bJ (aB aK (aB (aA dh) (aB (bJ (aB aK (aB aF aL))) aL)))) (aB (bJ (aB aF (aB aF aL))) aL)))) aL)) λlb x0 G0 hb s2 h0 e0=>?_;have hlb:H lb=none:=s1.free hb;have dh:=s2.dat dh;have do_:=s2.dat do_;have dg:=s2.dat dg;have bb0:But lb H G0:=(s1.trans s2).but;have l0:=e0.length;simp only [List.length_cons,List.length_nil,List.length_append] at l0;refine i5 (K:=K) (bJ (aB aK (aB (bJ (aB aK (aB (bJ (aB aK (aB aF aL))) (aB (bJ (aB aK (aB aF aL))) aL)))) (aB (bJ (aB aF (aB (bJ (aB aK (aB aF aL))) (aB aF (aB (bJ (aB aK (aB aF aL))) (aB aF aL)))))) aL)))) h0 (by first | omega | (simp only [List.length_append,List.length_cons,List.length_nil];omega)) λy1 G1 b1 h1 e1'=>?_;have g1:fE K _ G1:=b1.grow h0 h1;have dh:=Dat.mono g1 _ dh;have do_:=Dat.mono g1 _ do_;have dg:=Dat.mono g1 _ dg;have e1:=Dats.append (Dats.mono g1 _ e0) (Dats.cons e1' Dats.nil);have l1:=e1.length;have bb1:=bb0.trans b1;simp only [List.length_cons,List.length_nil,List.length_append] at l1;refine i5 (K:=K) (bJ (aB aK (aB (bJ (aB aK (aB (aA dh) (aB (bJ (aB aK (aB aF aL))) aL)))) (aB (bJ (aB aF (aB aF aL))) aL)))) h1 (by first | omega | (simp only [List.length_append,List.length_cons,List.length_nil];omega)) λy2 G2 b2 h2 e2'=>?_;have g2:fE K _ G2:=b2.grow h1 h2;have dh:=Dat.mono g2 _ dh;have do_:=Dat.mono g2 _ do_;have dg:=Dat.mono g2 _ dg;have e2:=Dats.append (Dats.mono g2 _ e1) (Dats.cons e2' Dats.nil);have l2:=e2.length;have bb2:=bb1.trans b2;simp only [List.length_cons,List.length_nil,List.length_append] at l2;refine i5 (K:=K) (bJ (aB aK (aB (bJ (aB aK (aB (aA dh) (aB (aA dg) aL)))) (aB (bJ (aB aF (aB (bJ (aB aK (aB aF aL))) (aB aF aL)))) aL)))) h2 (by first | omega | (simp only [List.length_append,List.length_cons,List.length_nil];omega)) λy3 G3 b3 h3 e3'=>?_;have g3:fE K _ G3:=b3.grow h2 h3;have dh:=Dat.mono g3 _ dh;have do_:=Dat.mono g3 _ do_;have dg:=Dat.mono g3 _ dg;have e3:=Dats.append (Dats.mono g3 _ e2) (Dats.cons e3' Dats.nil);have l3:=e3.length;have bb3:=bb2.trans b3;simp only [List.length_cons,List.length_nil,List.length_append] at l3;refine i5 (K:=K) (bJ (aB aK (aB (bJ (aB aK (aB (bJ (aB aK (aB (aA dh) (aB (aA do_) aL)))) (aB (aA dg) aL)))) (aB (bJ (aB aF (aB aF (aB (bJ (aB aK (aB aF aL))) aL)))) aL)))) h3 (by first | omega | (simp only [List.length_append,List.length_cons,List.length_nil];omega)) λy4 G4 b4 h4 e4'=>?_;have g4:fE K _ G4:=b4.grow h3 h4;have dh:=Dat.mono g4 _ dh;have do_:=Dat.mono g4 _ do_;have dg:=Dat.mono g4 _ dg;have e4:=Dats.append (Dats.mono g4 _ e3) (Dats.cons e4' Dats.nil);have l4:=e4.length;have bb4:=bb3.trans b4;simp only [List.length_cons,List.length_nil,List.length_append] at l4;refine i5 (K:=K) (bJ (aB aK (aB (bJ (aB aK (aB (aA dg) (aB (aA dh) aL)))) (aB (bJ (aB aF (aB (bJ (aB aK (aB aF aL))) (aB aF (aB aF aL))))) aL)))) h4 (by first | omega | (simp only [List.length_append,List.length_cons,List.length_nil];omega)) λy5 G5 b5 h5 e5'=>?_;have g5:fE K _ G5:=b5.grow h4 h5;have dh:=Dat.mono g5 _ dh;have do_:=Dat.mono g5 _ do_;have dg:=Dat.mono g5 _ dg;have e5:=Dats.append (Dats.mono g5 _ e4) (Dats.cons e5' Dats.nil);have l5:=e5.length;have bb5:=bb4.trans b5;simp only [List.length_cons,List.length_nil,List.length_append] at l5;refine i5 (K:=K) (bJ (aB aK (aB (bJ (aB aK (aB (aA dh) (aB (bJ (aB aK (aB aF (aB aF aL)))) aL)))) (aB (bJ (aB aF (aB (bJ (aB aK (aB aF aL))) (aB (bJ (aB aK (aB aF aL))) (aB aF aL))))) aL)))) h5 (by first | omega | (simp only [List.length_append,List.length_cons,List.length_nil];omega)) λy6 G6 b6 h6 e6'=>?_;have g6:fE K _ G6:=b6.grow h5 h6;have dh:=Dat.mono g6 _ dh;have do_:=Dat.mono g6 _ do_;have dg:=Dat.mono g6 _ dg;have e6:=Dats.append (Dats.mono g6 _ e5) (Dats.cons e6' Dats.nil);have l6:=e6.length;have bb6:=bb5.trans b6;simp only [List.length_cons,List.length_nil,List.length_append] at l6;refine i5 (K:=K) (bJ (aB aK (aB (bJ (aB aK (aB (bJ (aB aK (aB aF (aB aF aL)))) (aB (bJ (aB aK (aB aF (aB aF aL)))) aL)))) (aB (bJ (aB aF (aB (bJ (aB aK (aB aF aL))) (aB aF (aB (bJ (aB aK (aB aF aL))) (aB aF aL)))))) aL)))) h6 (by first | omega | (simp only [List.length_append,List.length_cons,List.length_nil];omega)) λy7 G7 b7 h7 e7'=>?_;have g7:fE K _ G7:=b7.grow h6 h7;have dh:=Dat.mono g7 _ dh;have do_:=Dat.mono g7 _ do_;have dg:=Dat.mono g7 _ dg;have e7:=Dats.append (Dats.mono g7 _ e6) (Dats.cons e7' Dats.nil);have l7:=e7.length;have bb7:=bb6.trans b7;have sm:Same H G7:=λb o hbo=>bb7 b o (aM hbo hlb) hbo;exact ⟨_,rfl,post lb _ G7 sm h7 hlb e7⟩
structure Pc where
 nm:Str
 pt:Pa
 cs:List D
noncomputable def pcD (p:Pc):D:=.tup [.str p.nm,toP p.pt,.tup p.cs]
noncomputable def gM:Pa->Bool
 | .hole _=>false
 | _=>true
structure wD (p:Pc):Prop where
 nm:p.nm≠"pick"
 ok:wC p.pt
 dp:dP p.pt<=3
 cs:p.cs.length<=12
 nh:gM p.pt=true
structure Wy where
 nm:Str
 cs:List D
 ts:List Tr
noncomputable def wyD (w:Wy):D:=.tup [.str w.nm,.tup w.cs,.tup (w.ts.map toD)]
noncomputable def jt (t:Tr) (p:Pc):Option Wy:=(cH p.pt t).map λf=>⟨p.nm,p.cs,f.1⟩
noncomputable def jM:Tr->Bool
 | .pick _ _ _=>true
 | _=>false
noncomputable def fW (ps:List Pc) (t:Tr):List Wy:=if jM t=true then [⟨"pick",[],cR t⟩] else ps.filterMap (jt t)
noncomputable def dU (near far many:Int):List Int:=if many<=9 then [near,many] else [far,many % 100,many / 100]
noncomputable def gY (many:Int):Int:=if many<=9 then 2 else 3
theorem iL (near far many:Int):((dU near far many).length:Int)=gY many:=by unfold dU gY;split <;> rfl
theorem xR {a b:Int} (h:a<=b):gY a<=gY b:=by unfold gY;split <;> split <;> omega
theorem AC (a:Int):2<=gY a/\gY a<=3:=by unfold gY;split <;> omega
noncomputable def rE (y z:Int):Int:=gY (y+gY z)+gY z
theorem A9 {a b d:Int} (h:a<=b) (h':c<=d):rE a c<=rE b d:=by unfold rE;have h1:=xR h';have h2:=xR (show a+gY c<=b+gY d by omega);omega
noncomputable def tN (w:Wy) (ls:List Int):Int:=if w.nm="pick" then rE (ls.getD 1 0) (ls.getD 2 0) else (w.cs.length:Int)
noncomputable def fZ (w:Wy) (ls:List Int):Int:=tN w ls+ls.sum
noncomputable abbrev Bst:Type:=Option (Int × D)
noncomputable def bD:Bst->D
 | none=>.non
 | some b=>.tup [.int b.1,b.2]
noncomputable def jF:List Bst->Option (List (Int × D))
 | []=>some []
 | none::_=>none
 | some b::r=>(jF r).map (b::·)
noncomputable def cvD (nm:Str) (bs:List (Int × D)):D:=.tup [.str nm,.tup (bs.map (·.2))]
noncomputable def oX (best:Bst) (l:Int) (c:D):Bst:=match best with
 | none=>some (l,c)
 | some b=>if l < b.1 then some (l,c) else some b
noncomputable def D8 (best:Bst) (w:Wy):Option (List (Int × D))->Bst
 | none=>best
 | some bs=>oX best (fZ w (bs.map (·.1))) (cvD w.nm bs)
noncomputable def jT (f:Tr->Bst) (best:Bst) (w:Wy):Bst:=D8 best w (jF (w.ts.map f))
noncomputable def m6 (ps:List Pc) (f:Tr->Bst) (t:Tr):Bst:=(fW ps t).foldl (jT f) none
noncomputable def mq (ps:List Pc):Nat->Tr->Bst
 | 0,_=>none
 | n+1,t=>m6 ps (mq ps n) t
noncomputable def iI (ps:List Pc) (t:Tr):Bst:=mq ps (a8 t) t
theorem rO (t:Tr):1<=a8 t:=by cases t <;> simp [a8]
theorem sy:∀ (p:Pa) (t:Tr) (f:Fnd),cH p t=some f->∀ x ∈ f.1,x ∈ bC t
 | .hole i,t,f,h,x,hx=>by cases h;simp at hx;rw [hx,gN];exact List.mem_cons_self
 | .gap i m,t,f,h,x,hx=>by
  cases t with
  | num n =>
   have h':(if n<=m then some ([],[n],[]) else none:Option Fnd)=some f:=h;by_cases z:n<=m
   ·rw [if_pos z] at h';cases h';simp at hx
   ·rw [if_neg z] at h';cases h'
  | _=>cases h
 | .slot i,t,f,h,x,hx=>by
  cases t with
  | arg n=>cases h;simp at hx
  | _=>cases h
 | .num m,t,f,h,x,hx=>by
  cases t with
  | num n =>
   have h':(if n=m then some ([],[],[]) else none:Option Fnd)=some f:=h;by_cases z:n=m
   ·rw [if_pos z] at h';cases h';simp at hx
   ·rw [if_neg z] at h';cases h'
  | _=>cases h
 | .two o a b,t,f,h,x,hx=>by
  cases t with
  | two o' u v =>
   obtain ⟨_,f1,f2,e1,e2,e3⟩:=eJ h;subst e3;have hx':x ∈ f1.1++f2.1:=hx;simp only [bC,List.mem_cons,List.mem_append];rcases List.mem_append.mp hx' with hx | hx
   ·exact .inr (.inl (sy a u f1 e1 x hx))
   ·exact .inr (.inr (sy b v f2 e2 x hx))
  | _=>cases h
theorem jL {p:Pa} {f:Fnd} (hp:gM p=true) (h:cH p t=some f):∀ x ∈ f.1,x ∈ (cR t).flatMap bC:=by
 intro x hx
 cases p with
 | hole i=>cases hp
 | gap i m =>
  cases t with
  | num n =>
   have h':(if n<=m then some ([],[n],[]) else none:Option Fnd)=some f:=h;by_cases z:n<=m
   ·rw [if_pos z] at h';cases h';simp at hx
   ·rw [if_neg z] at h';cases h'
  | _=>cases h
 | slot i =>
  cases t with
  | arg n=>cases h;simp at hx
  | _=>cases h
 | num m =>
  cases t with
  | num n =>
   have h':(if n=m then some ([],[],[]) else none:Option Fnd)=some f:=h;by_cases z:n=m
   ·rw [if_pos z] at h';cases h';simp at hx
   ·rw [if_neg z] at h';cases h'
  | _=>cases h
 | two o a b =>
  cases t with
  | two o' u v =>
   obtain ⟨_,f1,f2,e1,e2,e3⟩:=eJ h;subst e3;have hx':x ∈ f1.1++f2.1:=hx;simp only [cR,List.flatMap_cons,List.flatMap_nil,List.append_nil,List.mem_append];rcases List.mem_append.mp hx' with hx | hx
   ·exact .inl (sy a u f1 e1 x hx)
   ·exact .inr (sy b v f2 e2 x hx)
  | _=>cases h
theorem rN (t:Tr):t ∈ bC t:=by rw [gN];exact List.mem_cons_self
variable {ps:List Pc}
theorem oR (hp:∀ p ∈ ps,gM p.pt=true) {w:Wy} (hw:w ∈ fW ps t):∀ x ∈ w.ts,x ∈ (cR t).flatMap bC:=by
 unfold fW at hw;split at hw
 ·rw [List.mem_singleton.mp hw];intro x hx;exact List.mem_flatMap.mpr ⟨x,hx,rN x⟩
 ·obtain ⟨p,h1,h2⟩:=List.mem_filterMap.mp hw;unfold jt at h2
  cases e:cH p.pt t with
  | none=>rw [e] at h2;cases h2
  | some f =>rw [e] at h2;cases h2;exact jL (hp p h1) e
theorem fT:∀ (t x:Tr),x ∈ bC t->a8 x<=a8 t/\a9 x<=a9 t
 | .num n,x,h=>by
  have e:x=.num n:=by simpa [bC] using h
  subst e;exact ⟨Nat.le_refl _,Nat.le_refl _⟩
 | .arg n,x,h=>by
  have e:x=.arg n:=by simpa [bC] using h
  subst e;exact ⟨Nat.le_refl _,Nat.le_refl _⟩
 | .two o a b,x,h=>by
  simp only [bC,List.mem_cons,List.mem_append] at h;rcases h with rfl | h | h
  ·exact ⟨Nat.le_refl _,Nat.le_refl _⟩
  ·have:=fT a x h;simp only [a8,a9];omega
  ·have:=fT b x h;simp only [a8,a9];omega
 | .pick a b c,x,h=>by
  simp only [bC,List.mem_cons,List.mem_append] at h;rcases h with rfl | (h | h) | h
  ·exact ⟨Nat.le_refl _,Nat.le_refl _⟩
  ·have:=fT a x h;simp only [a8,a9];omega
  ·have:=fT b x h;simp only [a8,a9];omega
  ·have:=fT c x h;simp only [a8,a9];omega
theorem fQ:∀ (t x:Tr),okT t->x ∈ bC t->okT x
 | .num n,x,k,h=>by
  have e:x=.num n:=by simpa [bC] using h
  subst e;exact k
 | .arg n,x,k,h=>by
  have e:x=.arg n:=by simpa [bC] using h
  subst e;exact k
 | .two o a b,x,k,h=>by
  simp only [bC,List.mem_cons,List.mem_append] at h;rcases h with rfl | h | h
  ·exact k
  ·exact fQ a x k.2.1 h
  ·exact fQ b x k.2.2 h
 | .pick a b c,x,k,h=>by
  simp only [bC,List.mem_cons,List.mem_append] at h;rcases h with rfl | (h | h) | h
  ·exact k
  ·exact fQ a x k.1 h
  ·exact fQ b x k.2.1 h
  ·exact fQ c x k.2.2 h
theorem rq (h:x ∈ cR t):a8 x < a8 t/\a9 x < a9 t:=by
 cases t with
 | num n=>simp [cR] at h
 | arg n=>simp [cR] at h
 | two o a b =>simp only [cR,List.mem_cons,List.not_mem_nil,or_false] at h;simp only [a8,a9];rcases h with rfl | rfl <;> omega
 | pick a b c =>simp only [cR,List.mem_cons,List.not_mem_nil,or_false] at h;simp only [a8,a9];rcases h with rfl | rfl | rfl <;> omega
theorem gQ (h:x ∈ (cR t).flatMap bC):a8 x < a8 t/\a9 x < a9 t:=by obtain ⟨k,h1,h2⟩:=List.mem_flatMap.mp h;have:=rq h1;have:=fT k x h2;omega
theorem iC (h:x ∈ (cR t).flatMap bC):x ∈ bC t:=by rw [gN];exact List.mem_cons_of_mem _ h
theorem xf {f g:Tr->Bst} {w:Wy} (h:∀ x ∈ w.ts,f x=g x) (b:Bst):jT f b w=jT g b w:=by unfold jT;rw [List.map_congr_left h]
theorem lY {f g:Tr->Bst}:∀ (ws:List Wy) (b:Bst),(∀ w ∈ ws,∀ x ∈ w.ts,f x=g x)->ws.foldl (jT f) b=ws.foldl (jT g) b
 | [],_,_=>rfl
 | w::ws,b,h=>by rw [List.foldl_cons,List.foldl_cons,xf (h w List.mem_cons_self)];exact lY ws _ λw' hw=>h w' (List.mem_cons_of_mem _ hw)
theorem nT (hp:∀ p ∈ ps,gM p.pt=true):∀ (n:Nat) (t:Tr),a8 t<=n->mq ps (n+1) t=mq ps n t
 | 0,t,h=>by have:=rO t;omega
 | n+1,t,h=>by show m6 ps (mq ps (n+1)) t=m6 ps (mq ps n) t;refine lY _ _ λw hw x hx=>nT hp n x ?_;have:=gQ (oR hp hw x hx);omega
theorem oV (hp:∀ p ∈ ps,gM p.pt=true):∀ {n:Nat},a8 t<=n->mq ps n t=iI ps t:=by
 intro n
 induction n with
 | zero=>intro h;have:=rO t;omega
 | succ n ih =>
  intro h;by_cases e:a8 t=n+1
  ·unfold iI;rw [e]
  ·rw [nT hp n t (by omega)];exact ih (by omega)
theorem zP (hp:∀ p ∈ ps,gM p.pt=true) (t:Tr):iI ps t=m6 ps (iI ps) t:=by rw [<- oV hp (Nat.le_succ (a8 t))];show m6 ps (mq ps (a8 t)) t=_;refine lY _ _ λw hw x hx=>oV hp ?_;exact Nat.le_of_lt (gQ (oR hp hw x hx)).1
inductive All2 {α β:Type} (R:α->β->Prop):List α->List β->Prop
 | nil:All2 R [] []
 | cons {a b as bs}:R a b->All2 R as bs->All2 R (a::as) (b::bs)
theorem All2.mono {α β:Type} {R S:α->β->Prop} (h:∀ a b,R a b->S a b):∀ {as:List α} {bs:List β},All2 R as bs->All2 S as bs:=by
 intro as bs q
 induction q with
 | nil=>exact .nil
 | cons r _ ih=>exact .cons (h _ _ r) ih
def rW (ps:List Pc):Nat->Tr->Int->Prop
 | 0,_,_=>False
 | n+1,t,m=>∃ w ∈ fW ps t,∃ ls,All2 (rW ps n) w.ts ls/\m=fZ w ls
def Least (S:Int->Prop):Bst->Prop
 | none=>∀ m,¬ S m
 | some x=>S x.1/\∀ m,S m->x.1<=m
theorem Fy:∀ {as bs:List Int},All2 (λa b=>a<=b) as bs->as.sum<=bs.sum:=by
 intro as bs h
 induction h with
 | nil=>exact Int.le_refl _
 | cons r _ ih=>simp only [List.sum_cons];omega
theorem xJ:∀ {as bs:List Int},All2 (λa b=>a<=b) as bs->∀ i,as.getD i 0<=bs.getD i 0:=by
 intro as bs h
 induction h with
 | nil=>intro i;exact Int.le_refl _
 | cons r _ ih =>
  intro i
  cases i with
  | zero=>simpa using r
  | succ i=>simpa using ih i
theorem AH (w:Wy) {as bs:List Int} (h:All2 (λa b=>a<=b) as bs):fZ w as<=fZ w bs:=by
 unfold fZ tN;have h1:=Fy h;split
 ·have:=A9 (xJ h 1) (xJ h 2);omega
 ·omega
theorem qP {C:Tr->Int->Prop} {f:Tr->Bst} (hf:∀ t,Least (C t) (f t)):∀ {ts:List Tr},jF (ts.map f)=none->∀ ls,¬ All2 C ts ls
 | [],h,ls=>by cases h
 | t::ts,h,ls=>by
  intro q
  cases q with
  | cons r q =>
   cases e:f t with
   | none =>have z:=hf t;rw [e] at z;exact z _ r
   | some b =>
    rw [List.map_cons,e] at h;have h':(jF (ts.map f)).map (b::·)=none:=h
    cases e2:jF (ts.map f) with
    | none=>exact qP hf e2 _ q
    | some r=>rw [e2] at h';cases h'
theorem qQ {C:Tr->Int->Prop} {f:Tr->Bst} (hf:∀ t,Least (C t) (f t)):∀ {ts:List Tr} {bs:List (Int × D)},jF (ts.map f)=some bs->All2 C ts (bs.map (·.1))/\∀ ls,All2 C ts ls->All2 (λa b=>a<=b) (bs.map (·.1)) ls
 | [],bs,h=>by cases h;exact ⟨.nil,λls q=>by cases q;exact .nil⟩
 | t::ts,bs,h=>by
  cases e:f t with
  | none=>rw [List.map_cons,e] at h;cases h
  | some b =>
   rw [List.map_cons,e] at h;have h':(jF (ts.map f)).map (b::·)=some bs:=h
   cases e2:jF (ts.map f) with
   | none=>rw [e2] at h';cases h'
   | some r =>
    rw [e2] at h';cases h';obtain ⟨i1,i2⟩:=qQ hf e2;have z:=hf t;rw [e] at z;refine ⟨.cons z.1 i1,λls q=>?_⟩
    cases q with
    | cons q1 q2=>exact .cons (z.2 _ q1) (i2 _ q2)
theorem xg {C:Tr->Int->Prop} {f:Tr->Bst} (hf:∀ t,Least (C t) (f t)) {S:Int->Prop} {b:Bst} (w:Wy) (h:Least S b):Least (λm=>S m\/∃ ls,All2 C w.ts ls/\m=fZ w ls) (jT f b w):=by
 unfold jT
 cases e:jF (w.ts.map f) with
 | none =>
  have no:=qP hf e
  cases b with
  | none=>exact λm z=>z.elim (h m) λ⟨ls,q,_⟩=>no ls q
  | some x=>exact ⟨.inl h.1,λm z=>z.elim (h.2 m) λ⟨ls,q,_⟩=>absurd q (no ls)⟩
 | some bs =>
  obtain ⟨i1,i2⟩:=qQ hf e;have lo:∀ ls,All2 C w.ts ls->fZ w (bs.map (·.1))<=fZ w ls:=λls q=>AH w (i2 ls q);show Least _ (oX b _ _);unfold oX
  cases b with
  | none=>exact ⟨.inr ⟨_,i1,rfl⟩,λm z=>z.elim (λq=>absurd q (h m)) λ⟨ls,q,em⟩=>by rw [em];exact lo ls q⟩
  | some x =>
   dsimp only;split
   ·rename_i hlt;exact ⟨.inr ⟨_,i1,rfl⟩,λm z=>z.elim (λq=>Int.le_of_lt (Int.lt_of_lt_of_le hlt (h.2 m q))) λ⟨ls,q,em⟩=>by rw [em];exact lo ls q⟩
   ·rename_i hge;exact ⟨.inl h.1,λm z=>z.elim (h.2 m) λ⟨ls,q,em⟩=>by rw [em];have:=lo ls q;omega⟩
theorem Least.iff {S T:Int->Prop} {b:Bst} (h:Least S b) (e:∀ m,S m↔T m):Least T b:=by have z:S=T:=funext λm=>propext (e m);rw [<- z];exact h
theorem o9 {C:Tr->Int->Prop} {f:Tr->Bst} (hf:∀ t,Least (C t) (f t)):∀ (ws:List Wy) (S:Int->Prop) (b:Bst),Least S b->Least (λm=>S m\/∃ w ∈ ws,∃ ls,All2 C w.ts ls/\m=fZ w ls) (ws.foldl (jT f) b)
 | [],S,b,h=>h.iff λm=>⟨λq=>.inl q,λq=>q.elim id λ⟨w,hw,_⟩=>absurd hw (by simp)⟩
 | w::ws,S,b,h=>by
  rw [List.foldl_cons];refine (o9 hf ws _ _ (xg hf w h)).iff λm=>⟨λq=>?_,λq=>?_⟩
  ·rcases q with (q | q) | ⟨w',hw,q⟩
   ·exact .inl q
   ·exact .inr ⟨w,List.mem_cons_self,q⟩
   ·exact .inr ⟨w',List.mem_cons_of_mem _ hw,q⟩
  ·rcases q with q | ⟨w',hw,q⟩
   ·exact .inl (.inl q)
   ·rcases List.mem_cons.mp hw with rfl | hw
    ·exact .inl (.inr q)
    ·exact .inr ⟨w',hw,q⟩
theorem oW (ps:List Pc):∀ (n:Nat) (t:Tr),Least (rW ps n t) (mq ps n t)
 | 0,t=>λm h=>h
 | n+1,t=>(o9 (oW ps n) (fW ps t) (λ_=>False) none (λm h=>h)).iff λm=>⟨λq=>q.elim False.elim id,λq=>.inr q⟩
theorem uy:∀ (n:Nat) (t:Tr) (m:Int),rW ps n t m->rW ps (n+1) t m
 | 0,t,m,h=>h.elim
 | n+1,t,m,⟨w,hw,ls,q,e⟩=>⟨w,hw,ls,q.mono (uy n),e⟩
theorem Ad {k:Nat} (h:n<=k) (q:rW ps n t m):rW ps k t m:=by
 induction h with
 | refl=>exact q
 | step _ ih=>exact uy _ _ _ ih
def Cov (ps:List Pc) (t:Tr) (m:Int):Prop:=∃ n,rW ps n t m
theorem F1 (hp:∀ p ∈ ps,gM p.pt=true) (t:Tr):Least (Cov ps t) (iI ps t):=by
 have key:∀ n,Least (rW ps (max n (a8 t)) t) (iI ps t):=λn=>by have:=oW ps (max n (a8 t)) t;rw [oV hp (Nat.le_max_right _ _)] at this;exact this
 cases e:iI ps t with
 | none =>rintro m ⟨n,q⟩;have k:=key n;rw [e] at k;exact k m (Ad (Nat.le_max_left _ _) q)
 | some x =>
  refine ⟨?_,?_⟩
  ·have k:=key 0;rw [e] at k;exact ⟨_,k.1⟩
  ·rintro m ⟨n,q⟩;have k:=key n;rw [e] at k;exact k.2 m (Ad (Nat.le_max_left _ _) q)
theorem xp {p:Pc} {f:Fnd} (hp:p ∈ ps) (ht:jM t=false) (h:cH p.pt t=some f):(⟨p.nm,p.cs,f.1⟩:Wy) ∈ fW ps t:=by unfold fW;rw [if_neg (by rw [ht];exact Bool.false_ne_true)];exact List.mem_filterMap.mpr ⟨p,hp,by unfold jt;rw [h];rfl⟩
theorem B2 {a b c:Tr}:fW ps (.pick a b c)=[⟨"pick",[],[a,b,c]⟩]:=rfl
noncomputable def iz:Pa->Nat
 | .hole _=>1
 | .two _ a b=>iz a+iz b
 | _=>0
theorem lg:∀ (p:Pa) (t:Tr) (f:Fnd),cH p t=some f->f.1.length=iz p
 | .hole i,t,f,h=>by cases h;rfl
 | .gap i m,t,f,h=>by
  cases t with
  | num n =>
   have h':(if n<=m then some ([],[n],[]) else none:Option Fnd)=some f:=h;by_cases z:n<=m
   ·rw [if_pos z] at h';cases h';rfl
   ·rw [if_neg z] at h';cases h'
  | _=>cases h
 | .slot i,t,f,h=>by
  cases t with
  | arg n=>cases h;rfl
  | _=>cases h
 | .num m,t,f,h=>by
  cases t with
  | num n =>
   have h':(if n=m then some ([],[],[]) else none:Option Fnd)=some f:=h;by_cases z:n=m
   ·rw [if_pos z] at h';cases h';rfl
   ·rw [if_neg z] at h';cases h'
  | _=>cases h
 | .two o a b,t,f,h=>by
  cases t with
  | two o' u v =>obtain ⟨_,f1,f2,e1,e2,e3⟩:=eJ h;subst e3;show (f1.1++f2.1).length=iz a+iz b;rw [List.length_append,lg a u f1 e1,lg b v f2 e2]
  | _=>cases h
noncomputable abbrev Gz:Pc:=⟨"add",.two "add" (.hole 0) (.hole 1),[.int 4]⟩
noncomputable abbrev BP:List Pc:=[⟨"one",.gap 0 99,[.int 1,.tup [.str "low",.int 0]]⟩,⟨"two",.gap 0 9999,[.int 2,.tup [.str "low",.int 0],.tup [.str "high",.int 0]]⟩,⟨"slot",.slot 0,[.int 3,.tup [.str "arg",.int 0]]⟩,
 Gz,⟨"sub",.two "sub" (.hole 0) (.hole 1),[.int 5]⟩,⟨"mul",.two "mul" (.hole 0) (.hole 1),[.int 6]⟩,⟨"less",.two "less" (.hole 0) (.hole 1),[.int 7]⟩,⟨"more",.two "add" (.hole 0) (.gap 0 99),[.int 12,.tup [.str "low",.int 0]]⟩]
theorem EH (o:Str) (x y:Tr):cH (.two o (.hole 0) (.hole 1)) (.two o x y)=some ([x,y],[],[]):=by show (if o=o then _ else _)=_;rw [if_pos rfl];rfl
theorem A2 (h:okB o):∃ c:D,(⟨o,.two o (.hole 0) (.hole 1),[c]⟩:Pc) ∈ BP:=by
 rcases h with rfl | rfl | rfl | rfl
 ·exact ⟨.int 4,by simp [BP]⟩
 ·exact ⟨.int 5,by simp [BP]⟩
 ·exact ⟨.int 6,by simp [BP]⟩
 ·exact ⟨.int 7,by simp [BP]⟩
def xr (ds es:List D):Prop:=∃ m n f,ds=[.int m,.tup [.int n,.int f]]/\es=(dU n f m).map D.int
theorem yd (h:tA σ H λxs H1=>xs.length<=sizeLine/\∀ p,H1 p=none->Q (.ref p) (upd H1 p (.tup xs))):xi tA σ H Q:=h
theorem lD (h:En.nx σ H):yl En σ H:=h
theorem Dy (h:En.ct σ H):D9 En σ H:=h
variable {G:Hp} {xs:List V}
theorem lC (h:RE K te σ G d) (hl:G l=some (.lst xs)) (hx:xs.length<=900)
  (q:∀ y G',But l G G'->G' l=some (.lst (xs++[y]))->Dat K G' d y->En.nx σ G') (hv:σ[j]?=some (some (.ref l)):=by rfl):qt (tBM K "list" mM (hW j) (cE te eG)) En σ G:=by
 refine ⟨_,hv,.inl ⟨rfl,_,SqL.of hl⟩,h.use λy H1 s1 q1=>?_⟩;have hl1:=s1 _ _ hl;refine ⟨l,xs,y,rfl,rfl,hl1,bX (by omega),?_⟩;have b:But l H1 (upd H1 l (.lst (xs++[y]))):=But.upd (Same.refl _).but;exact q y _ (s1.but.trans b) aH (Dat.mono (b.grow hl1 aH) _ q1)
theorem tW {k:Nat} (h:RE K te σ H d) (q:∀ v H',Same H H'->Dat K H' d v->En.nx (σ.set k (some v)) H'):qM te (c6 k) En σ H:=h.use q
theorem tq (T:Txt P w K mg)  : Ok P w base (k+1) T.IA (jC K xr):=by
 refine T.IA.f.ok sc_jump_over (λvs H Q E h=>?_) (λcdv A outer s H vs Q E hr h=>?_)
 ·obtain ⟨ds,d,hd,⟨m,n,f,rfl,_⟩,_⟩:=h;exact hd.length.symm
 have nd:=sc_jump_over.nd;obtain ⟨ds,es,hd,⟨m,n,f,rfl,rfl⟩,post⟩:=h;obtain ⟨v0,v1,rfl,h0,h1⟩:=iJ hd;refine ⟨_,(aG (hE (pv 1) (gO rfl (bM (a7 (i:=2) nd rfl (Or.inl rfl)) (bM (a7 (i:=3) nd rfl (Or.inl rfl)) dF))))
 (aG (bL (aN kh (pv 0) (cK (v:=.int 9) rfl T.HY ⟨_,rfl⟩) (aU _)) (aI (aQ (bR (aD (pv 2) (aD (pv 0) aC))))) aW)
 (aI (aQ (bR (aD (pv 3) (aD (bO e9 (pv 0) aE) (aD (bO j0 (pv 0) aE) aC)))))))),?_⟩
 refine oP (K:=K) (aA h1) λv w H1 s1 q1 q2=>?_;have h0:=s1.dat h0;refine aS (K:=K) (b:=decide (m<=9)) (aJ (cV (p:=λi j=>decide (i<=j)) (aA h0) aF)) (λc H2 s2=>?_) (λc H2 s2=>?_)
 ·have e:dU n f m=[n,m]:=by unfold dU;rw [if_pos (of_decide_eq_true c)]
  rw [e] at post;exact hU (RC.use (K:=K) (gC (aB (aA (s2.dat q1)) (aB (aA (s2.dat h0)) aL))) λl ys H' hl s hy hd=>post l ys H' (s1.trans (s2.trans s)) hy ((s1.trans s2).free hl) hd)
 ·have e:dU n f m=[f,m % 100,m / 100]:=by unfold dU;rw [if_neg (of_decide_eq_false c)]
  rw [e] at post;exact hU (RC.use (K:=K) (gC (aB (aA (s2.dat q2)) (aB (j5 (aA (s2.dat h0)) aF (by decide)) (aB (oJ (aA (s2.dat h0)) aF ⟨by decide,by decide⟩) aL)))) λl ys H' hl s hy hd=>post l ys H' (s1.trans (s2.trans s)) hy ((s1.trans s2).free hl) hd)
def uc (K:W.Frag):Sp:=λvs H Q _=>∃ y z:Int,vs=[.int y,.int z]/\∀ (p a b:Addr) (us ws:List V) (H':Hp),Same H H'->SqT K H' p [.ref a,.ref b]->H' a=some (.lst us)->H' b=some (.lst ws)->H a=none->H b=none->a≠b ->
 Dats K H' ((dU 10 11 (y+gY z)).map D.int) us->Dats K H' ((dU 8 9 z).map D.int) ws->Q (.ref p) H'
theorem nB (T:Txt P w K mg) (JL:Ok P w base k T.IA (jC K xr)):Ok P w base (k+1) T.Hm (uc K):=by
 refine T.Hm.f.ok sc_jumps_of_pick (λvs H Q E h=>?_) (λcdv A outer s H vs Q E hr h=>?_)
 ·obtain ⟨y,z,rfl,_⟩:=h;rfl
 have nd:=sc_jumps_of_pick.nd;obtain ⟨y,z,rfl,post⟩:=h;refine ⟨_,(aG (bT (i:=2) nd rfl (Or.inl rfl) (pc (D:=T.IA) JL hr (aD (pv 1) (aD (cK (v:=.ref T.JD) rfl T.Je rfl) aC))))
 (aG (bT (i:=3) nd rfl (Or.inl rfl) (pc (D:=T.IA) JL hr (aD (bO eB (pv 0) (a6 aX rfl T.GO bU (aD (pv 2) aC))) (aD (cK (v:=.ref T.JP) rfl T.Jq rfl) aC))))
 (aI (aQ (bB (aD (pv 3) (aD (pv 2) aC))))))),?_⟩
 refine iG (K:=K) (j4 (R:=xr) (aB (aA (k:=1) (Dat.intI z)) (aB (pY T.Kq) aL)) ⟨z,8,9,rfl,rfl⟩) λb ws H1 hb s1 hbs dws=>?_;have el:(ws.length:Int)=gY z:=by rw [<- dws.length,List.length_map,iL]
 have b1:=oK (K:=K) (σ:=(f7 ["second","third","behind","ahead"] [.int y,.int z]).set 2 (some (.ref b))) (k:=2) hbs;rw [el] at b1;refine iG (K:=K) (j4 (R:=xr) (aB (fV (aA (k:=0) (Dat.intI y)) b1) (aB (pY T.Kz) aL)) ⟨_,10,11,rfl,rfl⟩) λa us H2 ha s2 has dus=>?_;refine hU (yd ⟨_,rfl,_,rfl,cW (by simp),λp hp=>?_⟩);have s3:Same H2 (upd H2 p (.tup [.ref a,.ref b])):=aR hp _;have nab:a≠b:=Ne.symm (aM hbs ha);exact post p a b us ws _ (s1.trans (s2.trans s3)) (SqT.of aH) (s3 _ _ has) (s3 _ _ (s2 _ _ hbs)) (s1.free ha) hb nab (s3.dats dus) ((s2.trans s3).dats dws)
theorem rF (h:o="num"\/o="arg"\/okB o):decide (o=("pick":Str))=false/\o≠"call":=by rcases h with rfl | rfl | rfl | rfl | rfl | rfl <;> exact ⟨by decide +kernel,by decide +kernel⟩
theorem uK (t:Tr) (ht:okT t):∃ kd r,toD t=.tup (.str kd::r)/\decide (kd="pick")=jM t/\kd≠"call"/\(jM t=true->r=(cR t).map toD):=by
 cases t with
 | num n=>exact ⟨_,_,rfl,(rF (.inl rfl)).1,(rF (.inl rfl)).2,λz=>nomatch z⟩
 | arg n=>exact ⟨_,_,rfl,(rF (.inr (.inl rfl))).1,(rF (.inr (.inl rfl))).2,λz=>nomatch z⟩
 | two o a b=>exact ⟨_,_,rfl,(rF (.inr (.inr ht.1))).1,(rF (.inr (.inr ht.1))).2,λz=>nomatch z⟩
 | pick a b c=>exact ⟨_,_,rfl,decide_eq_true rfl,by decide +kernel,λ_=>rfl⟩
structure jy (ps:List Pc):Prop where
 ok:∀ p ∈ ps,wD p
 few:ps.length<=100
def ui (as:List Ar) (es:List D):Prop:=∃ ps t,as=[.d (toD t),.l (ps.map pcD)]/\jy ps/\okT t/\a9 t<=8/\es=(fW ps t).map wyD
theorem Am (f:Fnd):fdD (some f)=.tup [.tup (f.1.map toD),.tup (f.2.1.map D.int),.tup (f.2.2.map D.int)]:=rfl
theorem wL (T:Txt P w K mg) (Jz:Ok P w base k T.Im (spD K oS)):Ok P w base (k+1) T.IG (kr K ui):=by
 refine T.IG.f.ok sc_ways_of (λvs H Q E h=>?_) (λcdv A outer s H vs Q E hr h=>?_)
 ·obtain ⟨as,d,hd,⟨ps,t,rfl,_⟩,_⟩:=h;exact hd.length.symm
 have nd:=sc_ways_of.nd;obtain ⟨as,es,hd,⟨ps,t,rfl,okS,okt,dpt,rfl⟩,post⟩:=h;obtain ⟨v0,v1,rfl,h0,h1⟩:=zM hd;have h0:Dat K H (toD t) v0:=h0;have h1:LD K H (ps.map pcD) v1:=h1;refine ⟨_,(aG (bL (aN bY (aT aV (pv 0) aE) aP (aU _)) (aI (aQ (bR (aD (bB (aD aP (aD (bB aC) (aD (ji nO (pv 0) (i4 aE) mK) aC)))) aC)))) aW)
 (aG (bT (i:=2) nd rfl (Or.inl rfl) (bR aC))
 (aG (iV PassesOwn.never rfl (fK (pv 1)) (a7 (i:=3) nd rfl (Or.inl rfl)) (aG (bT (i:=4) nd rfl (Or.inl rfl) (pc (D:=T.Im) Jz hr (aD (pv 3) (aD (pv 0) aC))))
 (aI (bL (aN C6 (pv 4) fJ (aU _)) (aI (bW (eQ F.plainAttrs_list F.slot_list_append F.type_list_append bV (pv 2) (aD (bB (aD (aT aV (pv 3) aE) (aD (aT aV (pv 3) aE) (aD (aT aV (pv 4) aE) aC)))) aC)))) aW))))
 (aI (aQ (pv 2)))))),?_⟩
 obtain ⟨kd,r,ek,hpk,_,hkids⟩:=uK t okt;have h0':Dat K H (.tup (.str kd::r)) v0:=by rw [<- ek];exact h0
 refine aS (K:=K) (b:=jM t) (RT.as (aJ (bI (aY (k:=0) (aA h0') aF rfl) aK)) hpk) (λc H1 s1=>?_) (λc H1 s1=>?_)
 ·have e:(fW ps t).map wyD=[.tup [.str "pick",.tup [],.tup r]]:=by
   unfold fW;rw [if_pos c,hkids c];rfl
  rw [e] at post;exact hU (RC.use (K:=K) (gC (aB (bJ (aB aK (aB (bJ aL) (aB (jR (aA (s1.dat h0'))) aL)))) aL)) λl ys H' hl s hy hd=>post l ys H' (s1.trans s) hy (s1.free hl) hd)
 have ew:fW ps t=ps.filterMap (jt t):=by unfold fW;rw [if_neg (by rw [c];exact Bool.false_ne_true)]
 rw [ew] at post;refine eF ⟨cW (by decide),λwl hwl=>?_⟩;have s2:Same H1 (upd H1 wl (.lst [])):=aR hwl _;have s12:=s1.trans s2;obtain ⟨a,vs,rfl,ha,hda⟩:=h1;have la:=hda.length;rw [List.length_map] at la;have hps:=okS.few;have hwn:H wl=none:=s1.free hwl;refine c9 ⟨_,rfl,a,rfl,⟨vs,(s12.aLst ha).sqL⟩,kE (xs:=vs) (λi σ G=>∃ (z3 z4:Option V) (ys:List V),σ=[some v0,some (.ref a),some (.ref wl),z3,z4]/\Same H G/\G wl=some (.lst ys)/\Dats K G (((ps.take i).filterMap (jt t)).map wyD) ys) ?_ (λi σ G _ ⟨_,_,_,_,p,_⟩=>(p.aLst ha).sqL) ?_ ?_⟩
 ·exact ⟨none,none,[],rfl,s12,aH,by rw [List.take_zero];exact Dats.nil⟩
 ·rintro i vx σ G hi ⟨z3,z4,ys,rfl,sG,hwG,dy⟩;obtain ⟨dx,ex,hx⟩:=(sG.dats hda).getV hi;rw [List.getElem?_map] at ex
  cases hp:ps[i]? with
  | none=>rw [hp] at ex;cases ex
  | some p =>
   rw [hp] at ex;cases ex;have okp:=okS.ok p (List.mem_of_getElem? hp);have et:ps.take (i+1)=ps.take i++[p]:=by rw [List.take_add_one,hp];rfl
   have lys:ys.length<=100:=by have l1:=dy.length;rw [List.length_map] at l1;have l2:=List.length_filterMap_le (jt t) (ps.take i);rw [List.length_take] at l2;omega
   refine j6 ?_;dsimp only;refine gH (K:=K) (d:=fdD (cH p.pt t)) (bN (R:=oS) (aB (aA (k:=3) hx) (aB (aA (k:=0) (sG.dat h0)) aL)) ⟨.str p.nm,p.pt,.tup p.cs,t,rfl,okp.ok,okt,dpt,okp.dp,rfl⟩) λvf G2 s2 qf=>?_;have hw2:=s2 _ _ hwG
   cases hft:cH p.pt t with
   | none =>
    have eW:jt t p=none:=by unfold jt;rw [hft];rfl
    rw [hft] at qf;refine iQ (b:=false) (aJ (yg (K:=K) (aA (k:=4) qf))) (λc=>nomatch c) (λ_ G3 s3=>lD ?_);refine ⟨_,_,ys,rfl,sG.trans (s2.trans s3),s3 _ _ hw2,?_⟩;rw [et,List.filterMap_append];simp only [List.filterMap_cons,List.filterMap_nil,eW,List.append_nil];exact (s2.trans s3).dats dy
   | some f =>
    have eW:jt t p=some ⟨p.nm,p.cs,f.1⟩:=by unfold jt;rw [hft];rfl
    rw [hft,Am] at qf;refine iQ (b:=true) (aJ (yg (K:=K) (aA (k:=4) qf))) (λ_ G3 s3=>?_) (λc=>nomatch c);have hw3:=s3 _ _ hw2;have hx3:=(s2.trans s3).dat hx;refine lC (K:=K) (d:=.tup [.str p.nm,.tup p.cs,.tup (f.1.map toD)]) (bJ (aB (aY (k:=0) (aA (k:=3) hx3) aF rfl) (aB (aY (k:=2) (aA (k:=3) hx3) aF rfl) (aB (aY (k:=0) (aA (k:=4) (s3.dat qf)) aF rfl) aL)))) hw3 (by omega) λy G4 b4 hw4 q4=>?_;have g4:fE K G3 G4:=b4.grow hw3 hw4;refine ⟨_,_,ys++[y],rfl,λx o hx=>b4 x o (aM hx hwn) (s3 _ _ (s2 _ _ (sG _ _ hx))),hw4,?_⟩;rw [et,List.filterMap_append,List.map_append];simp only [List.filterMap_cons,List.filterMap_nil,eW];exact Dats.append (Dats.mono g4 _ ((s2.trans s3).dats dy)) (Dats.cons q4 Dats.nil)
 ·rintro σ G ⟨z3,z4,ys,rfl,sG,hwG,dy⟩;rw [<- la,List.take_length] at dy;exact ⟨_,rfl,post wl ys G sG hwG hwn dy⟩
variable {g:TG}
theorem oN (h:te σ H λx H1=>g x σ H1 (us En)):lI (qM te g) us En σ H:=h
def El (as:List Ar) (d:D):Prop:=∃ (w:Wy) (ls:List Int),as=[.d (.str w.nm),.d (.tup w.cs),.l (ls.map D.int)]/\(w.nm="pick"->ls.length=3)/\d=.int (fZ w ls)
theorem tD (T:Txt P w K mg) (IB:Ok P w base k T.Hm (uc K)):Ok P w base (k+1) T.Jb (spA K El):=by
 refine T.Jb.f.ok sc_length_by (λvs H Q E h=>?_) (λcdv A outer s H vs Q E hr h=>?_)
 ·obtain ⟨as,d,hd,⟨w,ls,rfl,_⟩,_⟩:=h;exact hd.length.symm
 have nd:=sc_length_by.nd;obtain ⟨as,d,hd,⟨w,ls,rfl,h3,rfl⟩,post⟩:=h;obtain ⟨v0,v1,v2,rfl,h0,h1,h2⟩:=um hd;have h0:Dat K H (.str w.nm) v0:=h0;have h1:Dat K H (.tup w.cs) v1:=h1;have h2:LD K H (ls.map D.int) v2:=h2;refine ⟨_,(aG (bT (i:=3) nd rfl (Or.inl rfl) (a6 aX rfl T.GO bU (aD (pv 1) aC)))
 (aG (bL (aN bY (pv 0) aP (aU _)) (aG (hE (pc (D:=T.Hm) IB hr (aD (aT bP (pv 2) aE) (aD (aT bP (pv 2) aE) aC))) (gO rfl (bM (a7 (i:=4) nd rfl (Or.inl rfl)) (bM (a7 (i:=5) nd rfl (Or.inl rfl)) dF))))
 (aI (bT (i:=3) nd rfl (Or.inl rfl) (bO eB (a6 aX rfl T.GO bU (aD (pv 4) aC)) (a6 aX rfl T.GO bU (aD (pv 5) aC)))))) aW)
 (aI (aQ (bO eB (pv 3) (a6 (ur rfl) rfl T.KM zU (aD (pv 2) aC))))))),?_⟩
 refine gH (K:=K) (dN (aA h1)) λvo H1 s1 qo=>?_;have eo:=qo.intE;subst eo;refine oO (λσ G=>∃ z4 z5:Option V,σ=[some v0,some v1,some v2,some (.int (tN w ls)),z4,z5]/\Same H G) ?_ (λhrest=>?_)
 case refine_2 =>
  refine iQ (b:=decide (w.nm="pick")) (aJ (bI (K:=K) (aA (k:=0) (s1.dat h0)) aK)) (λc H2 s2=>?_) (λc H2 s2=>?_)
  ·have cp:=of_decide_eq_true c
   obtain ⟨x,y,z,rfl⟩:∃ x y z,ls=[x,y,z]:=by
    match ls,h3 cp with
    | [x,y,z],_=>exact ⟨x,y,z,rfl⟩
   have h22:=(s1.trans s2).ld h2;refine oN (jA (dH (RE.use (K:=K) (d:=.int y) (iW (k:=1) (bA (k:=2) h22) aF rfl) λw1 H3 s3 q3=>dH (RE.use (K:=K) (d:=.int z) (iW (k:=2) (bA (k:=2) (s3.ld h22)) aF rfl) λw2 H4 s4 q4=>?_))));have e3:=q3.intE;have e4:=q4.intE;subst e3 e4;refine ⟨y,z,rfl,λp a b us ws H5 s5 hp ha hb _ _ _ dus dws=>?_⟩;have lu:(us.length:Int)=gY (y+gY z):=by rw [<- dus.length,List.length_map,iL]
   have lw:(ws.length:Int)=gY z:=by rw [<- dws.length,List.length_map,iL]
   refine ⟨p,_,rfl,hp,rfl,_,_,rfl,_,_,rfl,rfl,?_⟩;dsimp only;refine tW (K:=K) (d:=.int (tN w [x,y,z])) (RE.as (fV (oK (k:=4) ha) (oK (k:=5) hb)) ?_) λv H6 s6 q6=>?_
   ·rw [lu,lw];unfold tN;rw [if_pos cp];rfl
   ·have e6:=q6.intE;subst e6;exact hrest _ _ ⟨_,_,rfl,s1.trans (s2.trans (s3.trans (s4.trans (s5.trans s6))))⟩
  ·have cp:¬ w.nm="pick":=of_decide_eq_false c;refine lD (hrest _ _ ⟨none,none,?_,s1.trans s2⟩);have e:tN w ls=(w.cs.length:Int):=by unfold tN;rw [if_neg cp]
   rw [e];rfl
 rintro σ G ⟨z4,z5,rfl,sG⟩;exact bF (K:=K) (d:=.int (fZ w ls)) (fV (aA (k:=3) (Dat.intI _)) (yi (bA (k:=2) (sG.ld h2)))) λv H' s q=>post v H' (sG.trans s) q
theorem F2:¬ ("num":Str)="arg":=by decide +kernel
theorem FK:¬ ("arg":Str)="num":=by decide +kernel
theorem Cr {n:Int} {b:Tr} (h:eqD (toD (.num n)) (toD b)=true):b=.num n:=by
 cases b with
 | num m =>simp only [toD,gB,c7,eI,eT,eH,gA,f9,Bool.and_false,Bool.and_true,Bool.and_eq_true,decide_eq_true_eq] at h;rw [h.2]
 | arg m =>simp only [toD,gB,c7,eI,eT,eH,gA,f9,Bool.and_false,Bool.and_true,Bool.and_eq_true,decide_eq_true_eq] at h;exact absurd h.1 F2
 | two o x y =>simp only [toD,gB,c7,eI,eT,eH,gA,f9,Bool.and_false,Bool.and_true,Bool.and_eq_true,decide_eq_true_eq] at h;cases h
 | pick x y z =>simp only [toD,gB,c7,eI,eT,eH,gA,f9,Bool.and_false,Bool.and_true,Bool.and_eq_true,decide_eq_true_eq] at h;cases h
theorem Cq {n:Int} {b:Tr} (h:eqD (toD (.arg n)) (toD b)=true):b=.arg n:=by
 cases b with
 | num m =>simp only [toD,gB,c7,eI,eT,eH,gA,f9,Bool.and_false,Bool.and_true,Bool.and_eq_true,decide_eq_true_eq] at h;exact absurd h.1 FK
 | arg m =>simp only [toD,gB,c7,eI,eT,eH,gA,f9,Bool.and_false,Bool.and_true,Bool.and_eq_true,decide_eq_true_eq] at h;rw [h.2]
 | two o x y =>simp only [toD,gB,c7,eI,eT,eH,gA,f9,Bool.and_false,Bool.and_true,Bool.and_eq_true,decide_eq_true_eq] at h;cases h
 | pick x y z =>simp only [toD,gB,c7,eI,eT,eH,gA,f9,Bool.and_false,Bool.and_true,Bool.and_eq_true,decide_eq_true_eq] at h;cases h
theorem Cs {b:Tr} (h:eqD (toD (.two o x y)) (toD b)=true):∃ x' y',b=.two o x' y'/\eqD (toD x) (toD x')=true/\eqD (toD y) (toD y')=true:=by
 cases b with
 | num m =>simp only [toD,gB,c7,eI,eT,eH,gA,f9,Bool.and_false,Bool.and_true,Bool.and_eq_true,decide_eq_true_eq] at h;cases h
 | arg m =>simp only [toD,gB,c7,eI,eT,eH,gA,f9,Bool.and_false,Bool.and_true,Bool.and_eq_true,decide_eq_true_eq] at h;cases h
 | two o' x' y' =>simp only [toD,gB,c7,eI,eT,eH,gA,f9,Bool.and_false,Bool.and_true,Bool.and_eq_true,decide_eq_true_eq] at h;exact ⟨x',y',by rw [h.1],h.2.1,h.2.2⟩
 | pick x y z =>simp only [toD,gB,c7,eI,eT,eH,gA,f9,Bool.and_false,Bool.and_true,Bool.and_eq_true,decide_eq_true_eq] at h;cases h
theorem Al {z b:Tr} (h:eqD (toD (.pick x y z)) (toD b)=true):∃ x' y' z',b=.pick x' y' z'/\eqD (toD x) (toD x')=true/\eqD (toD y) (toD y')=true/\eqD (toD z) (toD z')=true:=by
 cases b with
 | num m =>simp only [toD,gB,c7,eI,eT,eH,gA,f9,Bool.and_false,Bool.and_true,Bool.and_eq_true,decide_eq_true_eq] at h;cases h
 | arg m =>simp only [toD,gB,c7,eI,eT,eH,gA,f9,Bool.and_false,Bool.and_true,Bool.and_eq_true,decide_eq_true_eq] at h;cases h
 | two o' x' y' =>simp only [toD,gB,c7,eI,eT,eH,gA,f9,Bool.and_false,Bool.and_true,Bool.and_eq_true,decide_eq_true_eq] at h;cases h
 | pick x' y' z' =>simp only [toD,gB,c7,eI,eT,eH,gA,f9,Bool.and_false,Bool.and_true,Bool.and_eq_true,decide_eq_true_eq] at h;exact ⟨x',y',z',rfl,h.2.1,h.2.2.1,h.2.2.2⟩
theorem DI (a:Tr):∀ b:Tr,eqD (toD a) (toD b)=true->a=b:=by
 induction a with
 | num n=>intro b h;exact (Cr h).symm
 | arg n=>intro b h;exact (Cq h).symm
 | two o x y ihx ihy =>intro b h;obtain ⟨x',y',rfl,h1,h2⟩:=Cs h;rw [ihx x' h1,ihy y' h2]
 | pick x y z ihx ihy ihz =>intro b h;obtain ⟨x',y',z',rfl,h1,h2,h3⟩:=Al h;rw [ihx x' h1,ihy y' h2,ihz z' h3]
theorem jn:∀ t:Tr,gD (toD t)=a9 t
 | .num n=>by unfold toD a9;simp [gD,deepDs]
 | .arg n=>by unfold toD a9;simp [gD,deepDs]
 | .two o a b=>by unfold toD a9;simp [gD,deepDs,jn a,jn b]
 | .pick a b c=>by unfold toD a9;simp [gD,deepDs,jn a,jn b,jn c]
theorem iH:∀ t:Tr,noL (toD t)=true
 | .num n=>by unfold toD;simp [noL,noLs]
 | .arg n=>by unfold toD;simp [noL,noLs]
 | .two o a b=>by unfold toD;simp [noL,noLs,iH a,iH b]
 | .pick a b c=>by unfold toD;simp [noL,noLs,iH a,iH b,iH c]
theorem uU:∀ ts:List Tr,noLs (ts.map toD)=true
 | []=>by simp [noLs]
 | t::ts=>by simp [noLs,iH t,uU ts]
theorem qX:∀ ts:List Tr,(∀ x ∈ ts,a9 x<=n)->deepDs (ts.map toD)<=n
 | [],_=>by simp [deepDs]
 | t::ts,h=>by have h1:=h t (by simp);have h2:=qX ts λx hx=>h x (by simp [hx]);simp only [List.map_cons,deepDs,jn];omega
theorem uE:∀ {ts:List Tr},(∀ y ∈ ts,okT y)->okT x->x ∈ ts->∃ j:Nat,ts[j]?=some x/\∀ (m:Nat) e,m < j->(ts.map toD)[m]?=some e->eqD e (toD x)=false
 | [],_,_,h=>by simp at h
 | y::ts,hok,hx,h=>by
  by_cases e:eqD (toD y) (toD x)=true
  ·have:=DI y x e;exact ⟨0,by rw [this];rfl,λm _ hm=>absurd hm (Nat.not_lt_zero m)⟩
  ·have hmem:x ∈ ts:=by
    rcases List.mem_cons.mp h with rfl | h
    ·exact absurd (kD _ (iH x)) e
    ·exact h
   obtain ⟨j,h1,h2⟩:=uE (λz hz=>hok z (List.mem_cons_of_mem _ hz)) hx hmem;refine ⟨j+1,by simpa using h1,λm d hm hd=>?_⟩
   cases m with
   | zero =>
    have e':toD y=d:=by simpa using hd
    rw [<- e'];exact Bool.eq_false_iff.mpr e
   | succ m=>exact h2 m d (by omega) (by simpa using hd)
theorem uj:∀ bs:List Bst,(bs.map λb=>isN (bD b)).any id=(jF bs).isNone
 | []=>rfl
 | none::bs=>rfl
 | some b::bs=>by have ih:=uj bs;show (false || (bs.map λb=>isN (bD b)).any id)=((jF bs).map (b::·)).isNone;rw [ih,Bool.false_or];cases jF bs <;> rfl
theorem uk:∀ {bs:List Bst} {cs:List (Int × D)},jF bs=some cs->bs=cs.map some
 | [],cs,h=>by cases h;rfl
 | none::bs,cs,h=>by cases h
 | some b::bs,cs,h=>by
  have h':(jF bs).map (b::·)=some cs:=h
  cases e:jF bs with
  | none=>rw [e] at h';cases h'
  | some r =>rw [e] at h';cases h';rw [uk e];rfl
theorem pf:∀ p:Pa,iz p<=2 ^ (dP p - 1)
 | .hole _=>by simp [iz,dP]
 | .gap _ _=>by simp [iz,dP]
 | .slot _=>by simp [iz,dP]
 | .num _=>by simp [iz,dP]
 | .two o a b=>by
  have h1:=pf a;have h2:=pf b;have d1:=m8 a;have d2:=m8 b;have e:dP (.two o a b) - 1=(max (dP a) (dP b) - 1)+1:=by simp only [dP];omega
  rw [e,Nat.pow_succ];have p1:2 ^ (dP a - 1)<=2 ^ (max (dP a) (dP b) - 1):=Nat.pow_le_pow_right (by decide) (by omega);have p2:2 ^ (dP b - 1)<=2 ^ (max (dP a) (dP b) - 1):=Nat.pow_le_pow_right (by decide) (by omega);simp only [iz];omega
def zC (as:List Ar) (d:D):Prop:=∃ (ps:List Pc) (t:Tr) (f:Tr->Bst) (ts:List Tr),as=[.d (toD t),.l (ps.map pcD),.l (ts.map toD),.l (ts.map λx=>bD (f x))]/\jy ps/\okT t/\a9 t<=8/\ts.length<=200/\(∀ x ∈ ts,okT x/\a9 x<=8) /\
 (∀ w ∈ fW ps t,∀ x ∈ w.ts,x ∈ ts)/\d=bD (m6 ps f t)
theorem uh (h:∀ p ∈ ps,wD p) {w:Wy} (hw:w ∈ fW ps t):w.ts.length<=8/\(w.nm="pick"->w.ts.length=3):=by
 unfold fW at hw;split at hw
 ·rename_i c;rw [List.mem_singleton.mp hw]
  cases t with
  | pick a b c=>exact ⟨by simp [cR],λ_=>rfl⟩
  | _=>cases c
 ·obtain ⟨p,h1,h2⟩:=List.mem_filterMap.mp hw;unfold jt at h2
  cases e:cH p.pt t with
  | none=>rw [e] at h2;cases h2
  | some f =>
   rw [e] at h2;cases h2;refine ⟨?_,λz=>absurd z (h p h1).nm⟩;show f.1.length<=8;rw [lg _ _ _ e];have:=pf p.pt;have hd:=(h p h1).dp
   calc iz p.pt<=2 ^ (dP p.pt - 1):=this
    _<=2 ^ 2:=Nat.pow_le_pow_right (by decide) (by omega)
    _<=8:=by decide
theorem oF (T:Txt P w K mg) (JI:Ok P w base k T.IG (kr K ui)) (Ko:Ok P w base k T.Jb (spA K El)):Ok P w base (k+1) T.Ih (spA K zC):=by
 refine T.Ih.f.ok sc_best_by_ways (λvs H Q E h=>?_) (λcdv A outer s H vs Q E hr h=>?_)
 ·obtain ⟨as,d,hd,⟨ps,t,f,ts,rfl,_⟩,_⟩:=h;exact hd.length.symm
 have nd:=sc_best_by_ways.nd;obtain ⟨as,d,hd,⟨ps,t,f,ts,rfl,okS,okt,dpt,fts,okts,hts,rfl⟩,post⟩:=h;obtain ⟨v0,v1,v2,v3,rfl,h0,h1,h2,h3⟩:=B9 hd;have h0:Dat K H (toD t) v0:=h0;have h1:LD K H (ps.map pcD) v1:=h1;have h2:LD K H (ts.map toD) v2:=h2;have h3:LD K H (ts.map λx=>bD (f x)) v3:=h3;refine ⟨_,(aG (bL (aN bY (aT aV (pv 0) aE) aP (aU _)) (aI (aQ (bB (aD (cK (v:=.int 3) rfl T.HM ⟨_,rfl⟩) (aD (bB aC) aC))))) aW)
 (aG (bT (i:=4) nd rfl (Or.inl rfl) fJ)
 (aG (iV PassesOwn.never rfl (fK (pc (D:=T.IG) JI hr (aD (pv 0) (aD (pv 1) aC)))) (gO rfl (bM (a7 (i:=5) nd rfl (Or.inl rfl)) (bM (a7 (i:=6) nd rfl (Or.inl rfl)) (bM (a7 (i:=7) nd rfl (Or.inl rfl)) dF)))) (aG (jk (i:=8) (own:=["one"]) (fr:=[2,3]) (N':=["one","done","bests"]) (j3 (pv 7)) rfl (by show cZ ["tree","some","done","bests","best","name","cells","trees","within","length"] (λx=>(aO fC).names.lookup x) _ _ _ _=true;decide +kernel) rfl (λ_ _ _ _ _=>(a7 (i:=0) (by show List.Nodup [("one":Str),("done":Str),("bests":Str)];decide +kernel) rfl (Or.inl rfl))) (λ_ _ _ _ _=>cO) (λ_ _ _ _ _=>(aT (r:=wU K) bP (pv 2) (E5 (r:=oI K) K rfl F.plainAttrs_list F.slot_list_index F.type_list_index (yJ hr) (pv 1) (aD (pv 0) aC)))) nd rfl rfl rfl)
 (aG (bL (bQ (a6 (zZ rfl) rfl T.KZ EA (aD (dE (own:=["one"]) (fr:=[]) (N':=["one"]) (fK (pv 8)) rfl (by show cZ ["tree","some","done","bests","best","name","cells","trees","within","length"] (λx=>(aO fC).names.lookup x) _ _ _ _=true;decide +kernel) rfl (λ_ _ _ _ _=>(a7 (i:=0) (by show List.Nodup [("one":Str)];decide +kernel) rfl (Or.inl rfl))) (λ_ _ _ _ _=>cO) (λ_ _ _ _ _=>(d4 tH (pv 0) fJ (aU _)))) aC)) (λ_=>rfl)) (aI vB) aW)
 (aG (bT (i:=9) nd rfl (Or.inl rfl) (pc (D:=T.Jb) Ko hr (aD (pv 5) (aD (pv 6) (aD (dE (own:=["one"]) (fr:=[]) (N':=["one"]) (fK (pv 8)) rfl (by show cZ ["tree","some","done","bests","best","name","cells","trees","within","length"] (λx=>(aO fC).names.lookup x) _ _ _ _=true;decide +kernel) rfl (λ_ _ _ _ _=>(a7 (i:=0) (by show List.Nodup [("one":Str)];decide +kernel) rfl (Or.inl rfl))) (λ_ _ _ _ _=>cO) (λ_ _ _ _ _=>(aT (r:=mN K) aV (pv 0) aE))) aC)))))
 (aI (bL (PW.pt (dW (aN tH (pv 4) fJ (aU _)) (dY (aN kN (pv 9) (aT aV (pv 4) aE) (aU _))))) (aI (bT (i:=4) nd rfl (Or.inl rfl) (bB (aD (pv 9) (aD (bB (aD (pv 5) (aD (dQ cX rfl T.Hl dB (aD (dE (own:=["one"]) (fr:=[]) (N':=["one"]) (fK (pv 8)) rfl (by show cZ ["tree","some","done","bests","best","name","cells","trees","within","length"] (λx=>(aO fC).names.lookup x) _ _ _ _=true;decide +kernel) rfl (λ_ _ _ _ _=>(a7 (i:=0) (by show List.Nodup [("one":Str)];decide +kernel) rfl (Or.inl rfl))) (λ_ _ _ _ _=>cO) (λ_ _ _ _ _=>(aT (r:=mN K) aV (pv 0) aE))) aC)) aC))) aC))))) aW))))))
 (aI (aQ (pv 4)))))),?_⟩
 obtain ⟨kd,r,ek,hpk,hcall,hkids⟩:=uK t okt;have h0':Dat K H (.tup (.str kd::r)) v0:=by rw [<- ek];exact h0
 refine aS (K:=K) (b:=false) (RT.as (aJ (bI (aY (k:=0) (aA h0') aF rfl) aK)) (decide_eq_false hcall)) (λc=>nomatch c) (λ_ H1 s1=>?_);refine eF (yj ?_);refine c9 (RC.use (K:=K) (fU (R:=ui) (eE (aA (k:=0) (s1.dat h0)) (fF (bA (k:=1) (s1.ld h1)) cU)) ⟨ps,t,rfl,okS,okt,dpt,rfl⟩) λl ys H2 hl s2 hy hdy=>?_);have s12:=s1.trans s2;have ly:=hdy.length;rw [List.length_map] at ly;refine ⟨l,rfl,⟨ys,SqL.of hy⟩,kE (xs:=ys) (λi σ G=>∃ (vb:V) (z5 z6 z7 z8 z9:Option V),σ=[some v0,some v1,some v2,some v3,some vb,z5,z6,z7,z8,z9]/\Same H2 G/\Dat K G (bD (((fW ps t).take i).foldl (jT f) none)) vb) ?_ (λi σ G _ ⟨_,_,_,_,_,_,_,p,_⟩=>SqL.of (p _ _ hy)) ?_ ?_⟩
 ·exact ⟨.non,_,_,_,_,_,rfl,Same.refl _,Dat.nonI⟩
 ·rintro i vx σ G hi ⟨vb,z5,z6,z7,z8,z9,rfl,sG,hb⟩;have sHG:=s12.trans sG;obtain ⟨dx,ex,hx⟩:=(sG.dats hdy).getV hi;rw [List.getElem?_map] at ex
  cases hw:(fW ps t)[i]? with
  | none=>rw [hw] at ex;cases ex
  | some w =>
   rw [hw] at ex;cases ex;have hwm:=List.mem_of_getElem? hw;obtain ⟨few,few3⟩:=uh okS.ok hwm;have et:(fW ps t).take (i+1)=(fW ps t).take i++[w]:=by rw [List.take_add_one,hw];rfl
   rw [et,List.foldl_append,List.foldl_cons,List.foldl_nil];generalize ((fW ps t).take i).foldl (jT f) none=best at hb ⊢;obtain ⟨pa,us,rfl,hpa,hus⟩:=(show Dat K G (.tup [.str w.nm,.tup w.cs,.tup (w.ts.map toD)]) vx from hx).tupE;obtain ⟨x5,x6,x7,rfl,k5,k6,k7⟩:=nW hus;refine ⟨pa,_,rfl,hpa,rfl,_,_,rfl,_,_,rfl,_,_,rfl,rfl,?_⟩;dsimp only;refine iG (K:=K) (tT (aA (k:=7) k7) (by rw [List.length_map];omega) (w.ts.map λx=>bD (f x)) (by rw [List.length_map,List.length_map]) rfl (λG1 j c v d s1 hc hd hv=>?_)) λlw zs G2 hlw s2 hzs dzs=>?_
   ·rw [List.getElem?_map] at hc hd
    cases hx:w.ts[j]? with
    | none=>rw [hx] at hc;cases hc
    | some x =>rw [hx] at hc hd;cases hc;cases hd;have hxt:=hts w hwm x (List.mem_of_getElem? hx);obtain ⟨m,hm1,hm2⟩:=uE (λy hy=>(okts y hy).1) (okts x hxt).1 hxt;have sH1:=sHG.trans s1;refine iW (k:=m) (bA (k:=2) (sH1.ld h3)) (Bs (k:=1) (sH1.ld h2) (aA (k:=0) hv) (uU ts) (iH x) (Nat.le_trans (qX (n:=8) ts λy hy=>(okts y hy).2) (by decide)) (by rw [List.length_map];omega) ⟨toD x,by rw [List.getElem?_map,hm1];rfl,kD _ (iH x)⟩ hm2) (by rw [List.getElem?_map,hm1];rfl)
   have hL2:LD K G2 (w.ts.map λx=>bD (f x)) (.ref lw):=LD.of hzs dzs;have eM:(w.ts.map λx=>bD (f x))=(w.ts.map f).map bD:=by rw [List.map_map];rfl
   have lM:(w.ts.map f).length<=8:=by rw [List.length_map];exact few
   rw [eM] at hL2;generalize hfb:w.ts.map f=fb at hL2 lM;have eS:∀ b,jT f b w=D8 b w (jF fb):=λb=>by unfold jT;rw [hfb]
   rw [eS];refine aS (K:=K) (b:=(jF fb).isNone) (RT.as (bE (Dq (bs:=fb.map λb=>isN (bD b)) (kO (bA (k:=8) hL2) (by rw [List.length_map];omega) _ (by simp) rfl (λG1 j c v d s1 hc hd hv=>?_)))) (uj fb)) (λcN G3 s3=>Dy ?_) (λcS G3 s3=>?_)
   ·rw [List.getElem?_map] at hc hd;rw [List.getElem?_map] at hd
    cases hx:fb[j]? with
    | none=>rw [hx] at hc;cases hc
    | some b =>rw [hx] at hc hd;cases hc;cases hd;exact nH (aA (k:=0) hv)
   ·have eN:jF fb=none:=by cases e:jF fb with | none=>rfl | some _=>rw [e] at cN;cases cN
    refine ⟨vb,_,_,_,_,_,rfl,sG.trans (s2.trans s3),?_⟩;rw [eN];exact (s2.trans s3).dat hb
   ·cases eb:jF fb with
    | none=>rw [eb] at cS;cases cS
    | some bs =>
     have efb:=uk eb;have lbs:bs.length<=8:=by rw [efb,List.length_map] at lM;exact lM
     have lbw:bs.length=w.ts.length:=by have:=congrArg List.length hfb;rw [efb,List.length_map,List.length_map] at this;exact this.symm
     have hL3:=s3.ld hL2;have s23:=s2.trans s3;refine gH (K:=K) (d:=.int (fZ w (bs.map (·.1)))) (fA (R:=El) (eE (aA (k:=5) (s23.dat k5)) (eE (aA (k:=6) (s23.dat k6)) (fF (ds:=(bs.map (·.1)).map D.int) (gE (kO (bA (k:=8) hL3) (by rw [List.length_map];omega) _ (by rw [efb];simp) rfl (λG1 j c v d s1 hc hd hv=>?_))) cU))) ⟨w,bs.map (·.1),rfl,λz=>by rw [List.length_map,lbw];exact few3 z,rfl⟩) λvl G4 s4 q4=>?_
     ·rw [efb] at hc;simp only [List.getElem?_map] at hc hd
      cases hx:bs[j]? with
      | none=>rw [hx] at hc;cases hc
      | some b =>rw [hx] at hc hd;cases hc;cases hd;exact aY (k:=0) (aA (k:=0) hv) aF rfl
     have s24:=s23.trans s4;have el:=q4.intE;subst el;have hb4:=s24.dat hb
     have new:∀ {G5:Hp},Same G4 G5->RE K (xi (cE (hW 9) (cE (xi (cE (hW 5) (cE (tCB (λxs H Q=>∃ p ys,xs=[.ref p]/\((SqL K H p ys/\∀ l,H l=none->Q (.ref l) (upd H l (.tup ys)))\/(SqT K H p ys/\Q (.ref p) H))) (cE (h8 (rh K (hW 8)) (mkS ["one"] []) (c6 0) fO (tOp (mN K) (hW 0) (tC (.int 1)))) eG)) eG))) eG))) [some v0,some v1,some v2,some v3,some vb,some x5,some x6,some x7,some (.ref lw),some (.int (fZ w (bs.map (·.1))))] G5 (.tup [.int (fZ w (bs.map (·.1))),cvD w.nm bs]):=λ{G5} s5=>by
      refine bJ (aB (aA (k:=9) (Dat.intI _)) (aB (bJ (aB (aA (k:=5) ((s24.trans s5).dat k5)) (aB (zj (es:=bs.map (·.2)) (kO (bA (k:=8) ((s4.trans s5).ld hL3)) (by rw [List.length_map];omega) _ (by rw [efb];simp) rfl (λG1 j c v d s1 hc hd hv=>?_))) aL))) aL));rw [efb] at hc;simp only [List.getElem?_map] at hc hd
      cases hx:bs[j]? with
      | none=>rw [hx] at hc;cases hc
      | some b =>rw [hx] at hc hd;cases hc;cases hd;exact aY (k:=1) (aA (k:=0) hv) aF rfl
     have done:∀ {G5:Hp} {d:D},Same G4 G5->d=bD (oX best (fZ w (bs.map (·.1))) (cvD w.nm bs))->∀ v,Dat K G5 d v->∃ (vb:V) (z5 z6 z7 z8 z9:Option V),[some v0,some v1,some v2,some v3,some v,some x5,some x6,some x7,some (.ref lw),some (.int (fZ w (bs.map (·.1))))]=[some v0,some v1,some v2,some v3,some vb,z5,z6,z7,z8,z9]/\Same H2 G5/\Dat K G5 (bD (oX best (fZ w (bs.map (·.1))) (cvD w.nm bs))) vb:=λ{G5 d} s5 e v hv =>
      ⟨v,_,_,_,_,_,rfl,sG.trans (s24.trans s5),e ▸ hv⟩
     cases best with
     | none =>refine iQ (b:=true) (RT.as (cI (b:=true) (c:=true) (aJ (nH (K:=K) (aA (k:=4) hb4))) λc=>nomatch c) rfl) (λ_ G5 s5=>?_) (λc=>nomatch c);exact tW (K:=K) (new s5) λv G6 s6 q6=>done (s5.trans s6) rfl v q6
     | some b0 =>
      have hb4':Dat K G4 (.tup [.int b0.1,b0.2]) vb:=hb4;refine iQ (b:=decide (fZ w (bs.map (·.1)) < b0.1)) (RT.as (cI (b:=false) (aJ (nH (K:=K) (aA (k:=4) hb4'))) λ_=>aJ (cV (p:=λi j=>decide (i < j)) (aA (k:=9) (Dat.intI _)) (aY (k:=0) (aA (k:=4) hb4') aF rfl))) (Bool.false_or _)) (λc G5 s5=>?_) (λc G5 s5=>lD ?_)
      ·refine tW (K:=K) (new s5) λv G6 s6 q6=>done (s5.trans s6) ?_ v q6;show _=bD (if fZ w (bs.map (·.1)) < b0.1 then _ else _);rw [if_pos (of_decide_eq_true c)];rfl
      ·refine done (d:=bD (some b0)) s5 ?_ vb (s5.dat hb4');show _=bD (if fZ w (bs.map (·.1)) < b0.1 then _ else _);rw [if_neg (of_decide_eq_false c)]
 ·rintro σ G ⟨vb,z5,z6,z7,z8,z9,rfl,sG,hb⟩;rw [<- ly,List.take_length] at hb;exact ⟨_,rfl,post vb G (s12.trans sG) hb⟩
theorem h9:∀ (t:Tr) (j:Nat) (x:Tr),(bC t)[j]?=some x->∃ r,(bC t).drop j=bC x++r
 | .num n,j,x,h=>by
  cases j with
  | zero=>cases h;exact ⟨[],rfl⟩
  | succ j=>simp [bC] at h
 | .arg n,j,x,h=>by
  cases j with
  | zero=>cases h;exact ⟨[],rfl⟩
  | succ j=>simp [bC] at h
 | .two o a b,j,x,h=>by
  cases j with
  | zero=>cases h;exact ⟨[],by rw [List.drop_zero,List.append_nil]⟩
  | succ j =>
   have h':(bC a++bC b)[j]?=some x:=by simpa [bC] using h
   show ∃ r,(bC a++bC b).drop j=bC x++r;by_cases hj:j < (bC a).length
   ·rw [List.getElem?_append_left hj] at h';obtain ⟨r,e⟩:=h9 a j x h';exact ⟨r++bC b,by rw [List.drop_append_of_le_length (Nat.le_of_lt hj),e,List.append_assoc]⟩
   ·rw [List.getElem?_append_right (by omega)] at h';obtain ⟨r,e⟩:=h9 b _ x h';refine ⟨r,?_⟩;rw [List.drop_append,List.drop_of_length_le (by omega),List.nil_append];exact e
 | .pick a b c,j,x,h=>by
  cases j with
  | zero=>cases h;exact ⟨[],by rw [List.drop_zero,List.append_nil]⟩
  | succ j =>
   have h':(bC a++(bC b++bC c))[j]?=some x:=by simpa [bC] using h
   show ∃ r,(bC a++bC b++bC c).drop j=bC x++r;rw [List.append_assoc];by_cases hj:j < (bC a).length
   ·rw [List.getElem?_append_left hj] at h';obtain ⟨r,e⟩:=h9 a j x h';exact ⟨r++(bC b++bC c),by rw [List.drop_append_of_le_length (Nat.le_of_lt hj),e,List.append_assoc]⟩
   ·rw [List.getElem?_append_right (by omega)] at h';rw [List.drop_append,List.drop_of_length_le (l:=bC a) (by omega),List.nil_append];generalize j - (bC a).length=i at h' ⊢;by_cases hi:i < (bC b).length
    ·rw [List.getElem?_append_left hi] at h';obtain ⟨r,e⟩:=h9 b i x h';exact ⟨r++bC c,by rw [List.drop_append_of_le_length (Nat.le_of_lt hi),e,List.append_assoc]⟩
    ·rw [List.getElem?_append_right (by omega)] at h';obtain ⟨r,e⟩:=h9 c _ x h';refine ⟨r,?_⟩;rw [List.drop_append,List.drop_of_length_le (by omega),List.nil_append];exact e
theorem qN (hi:i < a8 t) (h:(bC t)[a8 t - 1 - i]?=some x) (hy:y ∈ (cR x).flatMap bC):y ∈ (bC t).reverse.take i:=by
 obtain ⟨r,e⟩:=h9 t _ x h
 have e2:(bC t).drop (a8 t - i)=(cR x).flatMap bC++r:=by
  have:a8 t - i=a8 t - 1 - i+1:=by omega
  rw [this,<- List.drop_drop,e,gN x];rfl
 rw [List.take_reverse,List.mem_reverse,cC,e2];exact List.mem_append_left _ hy
theorem Dw {α:Type} {l:List α} (h:i < l.length):l.reverse[i]?=l[l.length - 1 - i]?:=List.getElem?_reverse h
def Eh (as:List Ar) (d:D):Prop:=∃ (ps:List Pc) (t:Tr) (b:Int × D),as=[.d (toD t),.l (ps.map pcD)]/\jy ps/\okT t/\a9 t<=8/\a8 t<=200/\iI ps t=some b/\d=.tup [.int b.1,b.2]
theorem Fk {ta:TA} {tb:TS} (h:ta σ H λvs H1=>∃ a xs,vs=[.ref a]/\SqL K H1 a xs/\∃ W:Nat->Nat->L2.St->Hp->Prop,(∃ m,W 0 m σ H1)/\∀ i m σ H,W i m σ H ->
   ((Itv K a xs).stop i H/\En.nx σ H)\/((Itv K a xs).go i H/\∃ N:L2.St->Hp->Prop,(∀ σ' H',N σ' H'->∃ m',m' < m/\W (i+1) m' σ' H')/\∀ x H',(Itv K a xs).yld i H x H'->g x σ H' λσ2 H2=>tb { En with nx:=N,ct:=N,bk:=En.nx } σ2 H2)):Fz (FU K ta) g tb En σ H:=h
theorem AL (h:jy ps):∀ p ∈ ps,gM p.pt=true:=λp hp=>(h.ok p hp).nh
theorem nz (T:Txt P w K mg) (JS:Ok P w base k T.IS (jC K (m5 8))) (JR:Ok P w base k T.Ih (spA K zC)):Ok P w base (k+1) T.HV (spA K Eh):=by
 refine T.HV.f.ok sc_best_covering (λvs H Q E h=>?_) (λcdv A outer s H vs Q E hr h=>?_)
 ·obtain ⟨as,d,hd,⟨ps,t,b,rfl,_⟩,_⟩:=h;exact hd.length.symm
 have nd:=sc_best_covering.nd;obtain ⟨as,d,hd,⟨ps,t,b,rfl,okS,okt,dpt,szt,hbst,rfl⟩,post⟩:=h;obtain ⟨v0,v1,rfl,h0,h1⟩:=zM hd;have h0:Dat K H (toD t) v0:=h0;have h1:LD K H (ps.map pcD) v1:=h1;refine ⟨_,(aG (bT (i:=2) nd rfl (Or.inl rfl) (bR aC))
 (aG (bT (i:=3) nd rfl (Or.inl rfl) (bR aC))
 (aG (iV PassesOwn.never rfl (Ff rfl T.JW (aD (pc (D:=T.IS) JS hr (aD (pv 0) aC)) aC)) (a7 (i:=4) nd rfl (Or.inl rfl)) (aG (bW (eQ F.plainAttrs_list F.slot_list_append F.type_list_append bV (pv 3) (aD (pc (D:=T.Ih) JR hr (aD (pv 4) (aD (pv 1) (aD (pv 2) (aD (pv 3) aC))))) aC)))
 (aI (bW (eQ F.plainAttrs_list F.slot_list_append F.type_list_append bV (pv 2) (aD (pv 4) aC))))))
 (aG (bL (aN tH (aT bP (pv 3) (A5 xo aE)) fJ (aU _)) (aI jQ) aW)
 (aI (aQ (aT bP (pv 3) (A5 xo aE)))))))),?_⟩
 refine eF ⟨cW (by decide),λld hld=>?_⟩;refine eF ⟨cW (by decide),λlb hlb=>?_⟩;have ndb:ld≠lb:=aM aH hlb;have s1:Same H (upd (upd H ld (.lst [])) lb (.lst [])):=(aR hld _).trans (aR hlb _);have hlb0:H lb=none:=(aR hld _).free hlb;have hd1:upd (upd H ld (.lst [])) lb (.lst []) ld=some (.lst []):=by rw [aZ ndb];exact aH
 have hb1:upd (upd H ld (.lst [])) lb (.lst []) lb=some (.lst []):=aH;generalize upd (upd H ld (.lst [])) lb (.lst [])=G1 at s1 hd1 hb1 ⊢;refine c9 (Fk (K:=K) (dH (RC.use (K:=K) (j4 (R:=m5 8) (aB (aA (k:=0) (s1.dat h0)) aL) ⟨t,rfl,okt,dpt,szt,rfl⟩) λlw xs G2 hlw s2 hxs dxs=>?_)));have nwd:ld≠lw:=aM hd1 hlw;have nwb:lb≠lw:=aM hb1 hlw;have lx:=dxs.length;rw [List.length_map,cC] at lx;refine ⟨lw,xs,rfl,SqL.of hxs,Cy (xs:=xs) (λi σ G=>∃ (z4:Option V) (us ws:List V),σ=[some v0,some v1,some (.ref ld),some (.ref lb),z4]/\Same H G/\G lw=some (.lst xs)/\Dats K G ((bC t).map toD) xs/\G ld=some (.lst us)/\Dats K G (((bC t).reverse.take i).map toD) us/\G lb=some (.lst ws)/\Dats K G (((bC t).reverse.take i).map λx=>bD (iI ps x)) ws) ?_ (λi σ G _ ⟨_,_,_,_,_,p,_⟩=>SqL.of p) ?_ ?_⟩
 ·exact ⟨none,[],[],rfl,s1.trans s2,hxs,dxs,s2 _ _ hd1,Dats.nil,s2 _ _ hb1,Dats.nil⟩
 ·rintro i vx σ G hi hx ⟨z4,us,ws,rfl,sG,hwG,dxG,hdG,dus,hbG,dws⟩;obtain ⟨dx,ex,hxd⟩:=dxG.getV hx;rw [List.getElem?_map] at ex
  cases hp:(bC t)[xs.length - 1 - i]? with
  | none=>rw [hp] at ex;cases ex
  | some x =>
   rw [hp] at ex;cases ex;have hp':(bC t)[a8 t - 1 - i]?=some x:=by rw [lx];exact hp
   have hxm:=List.mem_of_getElem? hp;have okx:=fQ t x okt hxm;have dpx:=(fT t x hxm).2;have hi':i < (bC t).reverse.length:=by rw [List.length_reverse,cC];omega
   have ei:(bC t).reverse[i]?=some x:=by rw [Dw (by rw [cC];omega),cC];exact hp'
   have et:(bC t).reverse.take (i+1)=(bC t).reverse.take i++[x]:=by rw [List.take_add_one,ei];rfl
   have lus:us.length<=200:=by rw [<- dus.length,List.length_map,List.length_take];omega
   have lws:ws.length<=200:=by rw [<- dws.length,List.length_map,List.length_take];omega
   refine j6 ?_;dsimp only;refine i5 (K:=K) (d:=bD (iI ps x)) (fA (R:=zC) (eE (aA (k:=4) hxd) (fF (bA (k:=1) (sG.ld h1)) (fF (bA (k:=2) (LD.of hdG dus)) (fF (bA (k:=3) (LD.of hbG dws)) cU)))) ⟨ps,x,iI ps,(bC t).reverse.take i,rfl,okS,okx,by omega,by rw [List.length_take];rw [List.length_reverse,cC];omega,λy hy=>?_,λw hw y hy=>qN (by omega) hp' (oR (AL okS) hw y hy),by rw [<- zP (AL okS)]⟩) hbG (by omega) λy G3 b3 hb3 q3=>?_
   ·have hym:y ∈ bC t:=List.mem_reverse.mp (List.mem_of_mem_take hy);have:=(fT t y hym).2;exact ⟨fQ t y okt hym,by omega⟩
   have g3:fE K G G3:=b3.grow hbG hb3;have hd3:=b3 _ _ ndb hdG;have hw3:=b3 _ _ (Ne.symm nwb) hwG;refine lC (K:=K) (d:=toD x) (aA (k:=4) (Dat.mono g3 _ hxd)) hd3 (by omega) λy4 G4 b4 hd4 q4=>?_;have g4:fE K G3 G4:=b4.grow hd3 hd4;refine ⟨_,us++[y4],ws++[y],rfl,λa o ha=>b4 a o (aM ha hld) (b3 a o (aM ha hlb0) (sG _ _ ha)),b4 _ _ (Ne.symm nwd) hw3,Dats.mono g4 _ (Dats.mono g3 _ dxG),hd4,?_,b4 _ _ (Ne.symm ndb) hb3,?_⟩
   ·rw [et,List.map_append];exact Dats.append (Dats.mono g4 _ (Dats.mono g3 _ dus)) (Dats.cons q4 Dats.nil)
   ·rw [et,List.map_append];exact Dats.append (Dats.mono g4 _ (Dats.mono g3 _ dws)) (Dats.cons (Dat.mono g4 _ q3) Dats.nil)
 ·rintro σ G ⟨z4,us,ws,rfl,sG,hwG,dxG,hdG,dus,hbG,dws⟩
  have ea:((bC t).reverse.take xs.length).map (λx=>bD (iI ps x))=(((cR t).flatMap bC).reverse.map λx=>bD (iI ps x))++[bD (some b)]:=by rw [<- lx,<- cC,<- List.length_reverse,List.take_length,gN,List.reverse_cons,List.map_append,List.map_cons,List.map_nil,hbst]
  rw [ea] at dws;have hL:LD K G ((((cR t).flatMap bC).reverse.map λx=>bD (iI ps x))++[bD (some b)]) (.ref lb):=LD.of hbG dws;refine aS (K:=K) (b:=false) (aJ (nH (nI (bA (k:=3) hL) (Bx aF)))) (λc=>nomatch c) (λ_ G3 s3=>?_);exact bF (K:=K) (d:=bD (some b)) (nI (bA (k:=3) (s3.ld hL)) (Bx aF)) λv G4 s4 q4=>post v G4 (sG.trans (s3.trans s4)) q4
structure mB (ps:List Pc):Prop where
 lo:1<=ps.length
 hi:ps.length<=16
 pc:∀ p ∈ ps,pQ (pcD p)=some true/\p.nm.length<=sizeLine
 nd:(ps.map (·.nm)).Nodup
def Ep (as:List Ar) (d:D):Prop:=∃ ps,as=[.l (ps.map pcD)]/\mB ps/\d=.bl true
theorem yP (T:Txt P w K mg) (Kv:Ok P w base k T.Jk (spD K wb)):Ok P w base (k+1) T.JE (spA K Ep):=by
 refine T.JE.f.ok sc_is_set (λvs H Q E h=>?_) (λcdv A outer s H vs Q E hr h=>?_)
 ·obtain ⟨as,d,hd,⟨ps,rfl,_⟩,_⟩:=h;exact hd.length.symm
 have nd:=sc_is_set.nd;obtain ⟨as,d,hd,⟨ps,rfl,hS,rfl⟩,post⟩:=h;obtain ⟨v0,rfl,h0⟩:=Ex hd;have h0:LD K H (ps.map pcD) v0:=h0;have hlo:=hS.lo;have hhi:=hS.hi;refine ⟨_,(aG (bL (PW.pt (dW (cQ (bQ (a6 (eZ CG) rfl T.GM cG (cM (pv 0) (cM (fY (v:=.ty "list") rfl T.Kw xx rfl) aC))) (λ_=>rfl))) (dY (cQ (pU kh kh aE (a6 aX rfl T.GO bU (aD (pv 0) aC)) (cK (v:=.int 16) rfl T.HA ⟨_,rfl⟩)))))) (aI (aQ dD)) aW)
 (aG (bL (cQ (bQ (a6 (jH rfl) rfl T.JV m7 (aD (dE (own:=["piece"]) (fr:=[]) (N':=["piece"]) (fK (pv 0)) rfl (by show cZ ["thing"] (λx=>(aO mU).names.lookup x) _ _ _ _=true;decide +kernel) rfl (λ_ _ _ _ _=>(a7 (i:=0) (by show List.Nodup [("piece":Str)];decide +kernel) rfl (Or.inl rfl))) (λ_ _ _ _ _=>cO) (λ_ _ _ _ _=>(pc (D:=T.Jk) Kv hr (aD (pv 0) aC)))) aC)) (λ_=>rfl))) (aI (aQ dD)) aW)
 (aI (aQ (d4 bY (a6 uq rfl T.GO bU (aD (dQ (yq rfl) rfl T.K0 EB (aD (dE (own:=["piece"]) (fr:=[]) (N':=["piece"]) (fK (pv 0)) rfl (by show cZ ["thing"] (λx=>(aO mU).names.lookup x) _ _ _ _=true;decide +kernel) rfl (λ_ _ _ _ _=>(a7 (i:=0) (by show List.Nodup [("piece":Str)];decide +kernel) rfl (Or.inl rfl))) (λ_ _ _ _ _=>cO) (λ_ _ _ _ _=>(aT (r:=mN K) aV (pv 0) aE))) aC)) aC)) (a6 aX rfl T.GO bU (aD (pv 0) aC)) (aU _)))))),?_⟩
 refine aS (K:=K) (b:=false) ?_ (λc=>nomatch c) (λ_ H1 s1=>?_)
 ·refine RT.as (cI (b:=false) (RT.as (bS (bE (bZ (aA h0.lst)))) rfl) λ_=>bS (aJ (mO (p:=λi j=>decide (i<=j)) (r:=λi j=>decide (i<=j)) aF (d5 (bA h0)) λ_=>aF))) ?_;rw [List.length_map,Bool.false_or,decide_eq_true (show (1:Int)<=(ps.length:Int) by omega),decide_eq_true (show (ps.length:Int)<=16 by omega)];rfl
 have h0:=s1.ld h0;refine aS (K:=K) (b:=false) ?_ (λc=>nomatch c) (λ_ H2 s2=>?_)
 ·refine RT.as (bS (bE (lB (bs:=ps.map λ_=>true) (kO (bA h0) (by rw [List.length_map];omega) _ (by simp) rfl (λG1 j c v d s1 hc hd hv=>?_))))) ?_
  ·simp only [List.getElem?_map] at hc hd
   cases hx:ps[j]? with
   | none=>rw [hx] at hc;cases hc
   | some p =>rw [hx] at hc hd;cases hc;cases hd;obtain ⟨k1,k2⟩:=hS.pc p (List.mem_of_getElem? hx);exact bN (R:=wb) (aB (aA (k:=0) hv) aL) ⟨pcD p,true,rfl,k2,k1,rfl⟩
  ·rw [List.all_map];simp
 have h0:=s2.ld h0;refine bF (K:=K) (d:=.bl true) (RE.as (pZ (yZ (zs:=ps.map (·.nm)) (kO (bA h0) (by rw [List.length_map];omega) _ (by simp) rfl (λG1 j c v d s1 hc hd hv=>?_)) (by rw [List.length_map];omega)) (d5 (bA h0))) ?_) λv H' s q=>post v H' (s1.trans (s2.trans s)) q
 ·simp only [List.getElem?_map] at hc hd
  cases hx:ps[j]? with
  | none=>rw [hx] at hc;cases hc
  | some p =>rw [hx] at hc hd;cases hc;cases hd;exact aY (k:=0) (aA (k:=0) hv) aF rfl
 ·rw [(Cm _).mpr hS.nd,List.length_map,List.length_map];simp
def lW (as:List Ar) (d:D):Prop:=∃ ps,as=[.l (ps.map pcD)]/\mB ps/\d=.non
theorem vn (T:Txt P w K mg) (KG:Ok P w base k T.JE (spA K Ep)):Ok P w base (k+1) T.HK (spA K lW):=by
 refine T.HK.f.ok sc_need_set (λvs H Q E h=>?_) (λcdv A outer s H vs Q E hr h=>?_)
 ·obtain ⟨as,d,hd,⟨ps,rfl,_⟩,_⟩:=h;exact hd.length.symm
 have nd:=sc_need_set.nd;obtain ⟨as,d,hd,⟨ps,rfl,hS,rfl⟩,post⟩:=h;obtain ⟨v0,rfl,h0⟩:=Ex hd;have h0:LD K H (ps.map pcD) v0:=h0;refine ⟨_,(aI (bL (cQ (bQ (pc (D:=T.JE) KG hr (aD (pv 0) aC)) (λ_=>rfl))) (aI jQ) aW)),?_⟩;exact iQ (b:=false) (bS (bE (fA (K:=K) (R:=Ep) (fF (bA h0) cU) ⟨ps,rfl,hS,rfl⟩))) (λc=>nomatch c) (λ_ H1 s1=>post _ H1 s1 Dat.nonI)
def rZ (as:List Ar) (d:D):Prop:=∃ (ps:List Pc) (t:Tr) (b:Int × D),as=[.d (toD t),.l (ps.map pcD)]/\mB ps/\jy ps/\okT t/\a9 t<=8/\a8 t<=40/\iI ps t=some b/\d=.int b.1
theorem tE (T:Txt P w K mg) (Iu:Ok P w base k T.Hw (spD K qO)) (II:Ok P w base k T.HK (spA K lW)) (JN:Ok P w base k T.HV (spA K Eh)):Ok P w base (k+1) T.Jc (spA K rZ):=by
 refine T.Jc.f.ok sc_length_of (λvs H Q E h=>?_) (λcdv A outer s H vs Q E hr h=>?_)
 ·obtain ⟨as,d,hd,⟨ps,t,b,rfl,_⟩,_⟩:=h;exact hd.length.symm
 have nd:=sc_length_of.nd;obtain ⟨as,d,hd,⟨ps,t,b,rfl,hS,okS,okt,dpt,szt,hbst,rfl⟩,post⟩:=h;obtain ⟨v0,v1,rfl,h0,h1⟩:=zM hd;have h0:Dat K H (toD t) v0:=h0;have h1:LD K H (ps.map pcD) v1:=h1;refine ⟨_,(aG (bW (pc (D:=T.Hw) Iu hr (aD (pv 0) aC)))
 (aG (bW (pc (D:=T.HK) II hr (aD (pv 1) aC)))
 (aI (aQ (aT aV (pc (D:=T.HV) JN hr (aD (pv 0) (aD (pv 1) aC))) aE))))),?_⟩
 refine nK (RE.use (bN (R:=qO) (d:=.non) (aB (aA (K:=K) (k:=0) h0) aL) ⟨toD t,rfl,ug okt dpt szt,rfl⟩) λv4 H1 s1 _=>?_);refine nK (RE.use (fA (R:=lW) (d:=.non) (fF (bA (K:=K) (k:=1) (s1.ld h1)) cU) ⟨ps,rfl,hS,rfl⟩) λv5 H2 s2 _=>?_);have s12:=s1.trans s2;exact bF (K:=K) (d:=.int b.1) (aY (k:=0) (fA (R:=Eh) (eE (aA (k:=0) (s12.dat h0)) (fF (bA (k:=1) (s12.ld h1)) cU)) ⟨ps,t,b,rfl,okS,okt,dpt,by omega,hbst,rfl⟩) aF rfl) λv H' s q=>post v H' (s12.trans s) q
structure vW (ps:List Pc) (t:Tr):Prop where
 os:jy ps
 gs:mB ps
 ot:okT t
 dp:a9 t<=8
 sz:a8 t<=40
noncomputable def rg:Pa->Nat
 | .gap _ _=>1
 | .two _ a b=>rg a+rg b
 | _=>0
noncomputable def nQ:Pa->Nat
 | .slot _=>1
 | .two _ a b=>nQ a+nQ b
 | _=>0
theorem mx:∀ (p:Pa) (t:Tr) (f:Fnd),cH p t=some f->f.2.1.length=rg p/\f.2.2.length=nQ p
 | .hole i,t,f,h=>by cases h;exact ⟨rfl,rfl⟩
 | .gap i m,t,f,h=>by
  cases t with
  | num n =>
   have h':(if n<=m then some ([],[n],[]) else none:Option Fnd)=some f:=h;by_cases z:n<=m
   ·rw [if_pos z] at h';cases h';exact ⟨rfl,rfl⟩
   ·rw [if_neg z] at h';cases h'
  | _=>cases h
 | .slot i,t,f,h=>by
  cases t with
  | arg n=>cases h;exact ⟨rfl,rfl⟩
  | _=>cases h
 | .num m,t,f,h=>by
  cases t with
  | num n =>
   have h':(if n=m then some ([],[],[]) else none:Option Fnd)=some f:=h;by_cases z:n=m
   ·rw [if_pos z] at h';cases h';exact ⟨rfl,rfl⟩
   ·rw [if_neg z] at h';cases h'
  | _=>cases h
 | .two o a b,t,f,h=>by
  cases t with
  | two o' u v =>
   obtain ⟨_,f1,f2,e1,e2,e3⟩:=eJ h;subst e3;have h1:=mx a u f1 e1;have h2:=mx b v f2 e2;refine ⟨?_,?_⟩
   ·show (f1.2.1++f2.2.1).length=rg a+rg b;rw [List.length_append,h1.1,h2.1]
   ·show (f1.2.2++f2.2.2).length=nQ a+nQ b;rw [List.length_append,h1.2,h2.2]
  | _=>cases h
inductive Cl where
 | n (i:Int)
 | arg (k:Nat)
 | low (k:Nat)
 | high (k:Nat)
noncomputable def clD:Cl->D
 | .n i=>.int i
 | .arg k=>.tup [.str "arg",.int k]
 | .low k=>.tup [.str "low",.int k]
 | .high k=>.tup [.str "high",.int k]
noncomputable def Ci (g s:Nat):Cl->Bool
 | .n _=>true
 | .arg k=>decide (k < s)
 | .low k=>decide (k < g)
 | .high k=>decide (k < g)
noncomputable def ke (nums ks:List Int):Cl->Int
 | .n i=>i
 | .arg k=>ks.getD k 0
 | .low k=>nums.getD k 0 % 100
 | .high k=>nums.getD k 0 / 100
structure DO (p:Pc) (cl:List Cl):Prop where
 eq:p.cs=cl.map clD
 ok:∀ c ∈ cl,Ci (rg p.pt) (nQ p.pt) c=true
noncomputable def eK (near far:Int) (n:Nat):List D:=(dU near far n).map D.int
theorem mD (near far:Int) (n:Nat):((eK near far n).length:Int)=gY n:=by unfold eK;rw [List.length_map,iL]
noncomputable def eU (x y z:List D):List D:=x++eK 10 11 (y++eK 8 9 z.length).length++(y++eK 8 9 z.length)++z
noncomputable def cT (xss:List (List D)) (f:Fnd) (cl:List Cl):List D:=xss.flatten++cl.map λc=>D.int (ke f.2.1 f.2.2 c)
theorem FT (t:Tr):∃ kd y r,toD t=.tup (.str kd::y::r):=by cases t <;> exact ⟨_,_,_,rfl⟩
variable {ta tb:TE}
theorem D1 (h:ta σ H λx H1=>∃ c,x=.bl c/\if c=true then tb σ H1 Q else Q (.bl false) H1):BK ta tb σ H Q:=h
noncomputable def oL (l0 l1 l2:Addr):HO:=.lst [.ref l0,.ref l1,.ref l2]
theorem EG (m:Int) (t:Tr) (ht:okT t):eqD (toD t) (toP (.num m))=(cH (.num m) t).isSome:=by
 cases t with
 | num n =>
  show eqD (.tup [.str "num",.int n]) (.tup [.str "num",.int m])=(if n=m then some _ else none:Option Fnd).isSome;by_cases h:n=m
  ·rw [if_pos h];simp [eqD,eqDs,h]
  ·rw [if_neg h];simp [eqD,eqDs,h]
 | arg n=>exact rfl
 | two o a b =>have h:o="add"\/o="sub"\/o="mul"\/o="less":=ht.1;show eqD (.tup [.str o,toD a,toD b]) (.tup [.str "num",.int m])=false;unfold eqD eqDs eqD;rcases h with rfl | rfl | rfl | rfl <;> rfl
 | pick a b c=>exact rfl
theorem uY (T:Txt P w K mg) (Ii:Ok P w base k T.Hs (kX K oL n)):Ok P w base (k+1) T.Hs (kX K oL (n+1)):=by
 refine T.Hs.f.ok sc__law_fit (λvs H Q E h=>?_) (λcdv A outer s H vs Q E hr h=>?_)
 ·obtain ⟨p,t,v0,v1,f,l0,l1,l2,a,b,c,rfl,_⟩:=h;rfl
 have nd:=sc__law_fit.nd;obtain ⟨p,t,v0,v1,f,l0,l1,l2,a,b,c,rfl,okp,okt,dpt,hn,hn3,h0,h1,hf,f0,f1,f2,tri,la,lb,lc,post⟩:=h;refine ⟨_,(aG (bL (aN bY (aT aV (pv 0) aE) aP (aU _)) (aG (bW (eQ F.plainAttrs_list F.slot_list_append F.type_list_append bV (aT bP (pv 2) aE) (aD (pv 1) aC)))
 (aI (aQ dD))) aW)
 (aG (bL (aN bY (aT aV (pv 0) aE) aP (aU _)) (aG (bW (eQ F.plainAttrs_list F.slot_list_append F.type_list_append bV (aT bP (pv 2) aE) (aD (aT aV (pv 1) aE) aC)))
 (aI (aQ (jg (d4 bY (aT aV (pv 1) aE) aP (aU _)) (jh (d4 kh (aT aV (pv 1) aE) (aT aV (pv 0) aE) (aU _))))))) aW)
 (aG (bL (aN bY (aT aV (pv 0) aE) aP (aU _)) (aG (bW (eQ F.plainAttrs_list F.slot_list_append F.type_list_append bV (aT bP (pv 2) aE) (aD (aT aV (pv 1) aE) aC)))
 (aI (aQ (d4 bY (aT aV (pv 1) aE) aP (aU _))))) aW)
 (aG (bL (aN bY (aT aV (pv 0) aE) aP (aU _)) (aI (aQ (d4 (E2 hr) (pv 1) (pv 0) (aU _)))) aW)
 (aI (aQ (jg (d4 bY (aT aV (pv 1) aE) (aT aV (pv 0) aE) (aU _)) (jg (pc (D:=T.Hs) Ii hr (aD (aT aV (pv 0) aE) (aD (aT aV (pv 1) aE) (aD (pv 2) aC)))) (jh (pc (D:=T.Hs) Ii hr (aD (aT aV (pv 0) aE) (aD (aT aV (pv 1) aE) (aD (pv 2) aC))))))))))))),?_⟩
 obtain ⟨kd,y1,r,ek⟩:=FT t;obtain ⟨kd',r',ek',hnum,harg⟩:=Av t okt
 have ekk:kd'=kd:=by rw [ek] at ek';injection ek' with z;injection z with z _;injection z with z;exact z.symm
 subst ekk;have h1':Dat K H (.tup (.str kd'::y1::r)) v1:=by rw [<- ek];exact h1
 have hf':∀ {G:Hp},But3 l0 l1 l2 H G->G f=some (oL l0 l1 l2):=λbb=>bb _ _ f0 f1 f2 hf;have p1:=Be (n+1);have p2:2 ^ (n+1)=2 * 2 ^ n:=by rw [Nat.pow_succ,Nat.mul_comm]
 cases p with
 | hole i =>have h0:Dat K H (.tup [.str "hole",.int i]) v0:=h0;refine aS (K:=K) (b:=true) (RT.as (aJ (bI (aY (k:=0) (aA h0) aF rfl) aK)) (decide_eq_true rfl)) (λ_ H1 s1=>?_) (λc=>nomatch c);refine c9 ⟨_,rfl,f,_,0,_,rfl,rfl,SqL.of (show H1 f=some (.lst [.ref l0,.ref l1,.ref l2]) from s1 _ _ hf),at0,.inl ⟨rfl,_,SqL.of (s1 _ _ tri.h0)⟩,_,rfl,?_⟩;have tri1:=tri.same s1;refine ⟨l0,a,v1,rfl,rfl,tri1.h0,bX (by omega),?_⟩;obtain ⟨t5,b5⟩:=tri1.p0 (v:=v1);refine post _ [v1] [] [] (s1.but3.trans b5) t5 (by simpa using p1) (by simp) (by simp) λfd e=>?_;cases e;exact ⟨Dats.cons (Dat.mono (b5.grow tri1 t5) _ (s1.dat h1)) Dats.nil,Dats.nil,Dats.nil⟩
 | gap i m =>
  have h0:Dat K H (.tup [.str "gap",.int i,.int m]) v0:=h0;refine aS (K:=K) (b:=false) (RT.as (aJ (bI (aY (k:=0) (aA h0) aF rfl) aK)) (decide_eq_false (by decide +kernel))) (λc=>nomatch c) (λ_ H1 s1=>?_);have h0:=s1.dat h0;refine aS (K:=K) (b:=true) (RT.as (aJ (bI (aY (k:=0) (aA h0) aF rfl) aK)) (decide_eq_true rfl)) (λ_ H2 s2=>?_) (λc=>nomatch c);have h0:=s2.dat h0;have s12:=s1.trans s2;refine c9 ⟨_,rfl,f,_,1,_,rfl,rfl,SqL.of (show H2 f=some (.lst [.ref l0,.ref l1,.ref l2]) from s12 _ _ hf),at1,.inl ⟨rfl,_,SqL.of (s12 _ _ tri.h1)⟩,?_⟩;refine dH (RE.use (K:=K) (d:=y1) (aY (k:=1) (aA (s12.dat h1')) aF rfl) λy H4 s4 q4=>?_);have s14:=s12.trans s4;have tri4:=tri.same s14;refine ⟨l1,b,y,rfl,rfl,tri4.h1,bX (by omega),?_⟩;obtain ⟨t5,b5⟩:=tri4.p1 (v:=y);have g5:=b5.grow (K:=K) tri4 t5;dsimp only;by_cases hnn:∃ nn,t=.num nn
  ·obtain ⟨nn,rfl⟩:=hnn;have h1:Dat K H (.tup [.str "num",.int nn]) v1:=h1
   have ey:y1=.int nn:=by have z:toD (.num nn)=.tup [.str "num",.int nn]:=rfl;rw [z] at ek;injection ek with ek;injection ek with _ ek;injection ek with ek _;exact ek.symm
   subst ey;have h5:=Dat.mono g5 _ (s14.dat h1);refine bF (K:=K) (d:=.bl (decide (nn<=m))) (RE.as (dZ (b:=true) (RE.as (bI (aY (k:=0) (aA h5) aF rfl) aK) (congrArg D.bl (decide_eq_true rfl))) λ_=>cV (p:=λi j=>decide (i<=j)) (aY (k:=1) (aA h5) aF rfl) (aY (k:=2) (aA (Dat.mono g5 _ (s4.dat h0))) aF rfl)) rfl) λv H' s qq=>?_;rw [qq.blE]
   have pz:=post _ [] [y] [] ((s14.but3.trans b5).trans s.but3) (t5.same s) (by simp) (by simpa using p1) (by simp) λfd z=>by
    have z':(if nn<=m then some ([],[nn],[]) else none:Option Fnd)=some fd:=z;by_cases hm:nn<=m
    ·rw [if_pos hm] at z';cases z';exact ⟨Dats.nil,Dats.cons (s.dat (Dat.mono g5 _ q4)) Dats.nil,Dats.nil⟩
    ·rw [if_neg hm] at z';cases z'
   have e:(cH (.gap i m) (.num nn)).isSome=decide (nn<=m):=by
    show (if nn<=m then some _ else none:Option Fnd).isSome=_;by_cases hm:nn<=m
    ·rw [if_pos hm,decide_eq_true hm];rfl
    ·rw [if_neg hm,decide_eq_false hm];rfl
   rw [e] at pz;exact pz
  ·have e:=uH (i:=i) (m:=m) λn z=>hnn ⟨n,z⟩;refine bF (K:=K) (d:=.bl false) (RE.as (dZ (b:=false) (c:=true) (RE.as (bI (aY (k:=0) (aA (Dat.mono g5 _ (s14.dat h1'))) aF rfl) aK) (congrArg D.bl (decide_eq_false (λz=>hnn (hnum.mp z))))) λc=>nomatch c) rfl) λv H' s qq=>?_;rw [qq.blE];have pz:=post _ [] [y] [] ((s14.but3.trans b5).trans s.but3) (t5.same s) (by simp) (by simpa using p1) (by simp) λfd z=>by rw [e] at z;cases z
   rw [e] at pz;exact pz
 | slot i =>
  have h0:Dat K H (.tup [.str "slot",.int i]) v0:=h0;refine aS (K:=K) (b:=false) (RT.as (aJ (bI (aY (k:=0) (aA h0) aF rfl) aK)) (decide_eq_false (by decide +kernel))) (λc=>nomatch c) (λ_ H1 s1=>?_);have h0:=s1.dat h0;refine aS (K:=K) (b:=false) (RT.as (aJ (bI (aY (k:=0) (aA h0) aF rfl) aK)) (decide_eq_false (by decide +kernel))) (λc=>nomatch c) (λ_ H2 s2=>?_);have h0:=s2.dat h0;refine aS (K:=K) (b:=true) (RT.as (aJ (bI (aY (k:=0) (aA h0) aF rfl) aK)) (decide_eq_true rfl)) (λ_ H3 s3=>?_) (λc=>nomatch c);have s13:=s1.trans (s2.trans s3);refine c9 ⟨_,rfl,f,_,2,_,rfl,rfl,SqL.of (show H3 f=some (.lst [.ref l0,.ref l1,.ref l2]) from s13 _ _ hf),at2,.inl ⟨rfl,_,SqL.of (s13 _ _ tri.h2)⟩,?_⟩;refine dH (RE.use (K:=K) (d:=y1) (aY (k:=1) (aA (s13.dat h1')) aF rfl) λy H4 s4 q4=>?_);have s14:=s13.trans s4;have tri4:=tri.same s14;refine ⟨l2,c,y,rfl,rfl,tri4.h2,bX (by omega),?_⟩;obtain ⟨t5,b5⟩:=tri4.p2 (v:=y);have g5:=b5.grow (K:=K) tri4 t5;dsimp only;refine bF (K:=K) (d:=.bl (decide (kd'="arg"))) (bI (aY (k:=0) (aA (Dat.mono g5 _ (s14.dat h1'))) aF rfl) aK) λv H' s qq=>?_;rw [qq.blE]
  have pz:=post _ [] [] [y] ((s14.but3.trans b5).trans s.but3) (t5.same s) (by simp) (by simp) (by simpa using p1) λfd z=>by
   cases t with
   | arg nn =>
    cases z
    have ey:y1=.int nn:=by have z:toD (.arg nn)=.tup [.str "arg",.int nn]:=rfl;rw [z] at ek;injection ek with ek;injection ek with _ ek;injection ek with ek _;exact ek.symm
    subst ey;exact ⟨Dats.nil,Dats.nil,Dats.cons (s.dat (Dat.mono g5 _ q4)) Dats.nil⟩
   | _=>cases z
  by_cases ha:∃ n,t=.arg n
  ·rw [decide_eq_true (harg.mpr ha)];obtain ⟨nn,rfl⟩:=ha;exact pz
  ·rw [decide_eq_false (λz=>ha (harg.mp z))];rw [rP λn z=>ha ⟨n,z⟩] at pz;exact pz
 | num m =>
  have h0:Dat K H (.tup [.str "num",.int m]) v0:=h0;refine aS (K:=K) (b:=false) (RT.as (aJ (bI (aY (k:=0) (aA h0) aF rfl) aK)) (decide_eq_false (by decide +kernel))) (λc=>nomatch c) (λ_ H1 s1=>?_);have h0:=s1.dat h0;refine aS (K:=K) (b:=false) (RT.as (aJ (bI (aY (k:=0) (aA h0) aF rfl) aK)) (decide_eq_false (by decide +kernel))) (λc=>nomatch c) (λ_ H2 s2=>?_);have h0:=s2.dat h0;refine aS (K:=K) (b:=false) (RT.as (aJ (bI (aY (k:=0) (aA h0) aF rfl) aK)) (decide_eq_false (by decide +kernel))) (λc=>nomatch c) (λ_ H3 s3=>?_);have h0:=s3.dat h0;refine aS (K:=K) (b:=true) (RT.as (aJ (bI (aY (k:=0) (aA h0) aF rfl) aK)) (decide_eq_true rfl)) (λ_ H4 s4=>?_) (λc=>nomatch c);have s14:=s1.trans (s2.trans (s3.trans s4));refine ⟨_,rfl,_,rfl,toD t,toP (.num m),s14.dat h1,s4.dat h0,iH t,by unfold toP;simp [noL,noLs],by rw [jn];omega,?_⟩;show Q (.bl (eqD (toD t) (toP (.num m)))) _;rw [EG m t okt]
  exact post _ [] [] [] s14.but3 (tri.same s14).nil (by simp) (by simp) (by simp) λfd z=>by
   cases t with
   | num nn =>
    have z':(if nn=m then some ([],[],[]) else none:Option Fnd)=some fd:=z;by_cases hm:nn=m
    ·rw [if_pos hm] at z';cases z';exact ⟨Dats.nil,Dats.nil,Dats.nil⟩
    ·rw [if_neg hm] at z';cases z'
   | _=>cases z
 | two o pa pb =>
  have h0:Dat K H (.tup [.str o,toP pa,toP pb]) v0:=h0;have ho:okB o:=okp.1;refine aS (K:=K) (b:=false) (RT.as (aJ (bI (aY (k:=0) (aA h0) aF rfl) aK)) (decide_eq_false (by intro z;subst z;exact absurd ho (by decide +kernel)))) (λc=>nomatch c) (λ_ H1 s1=>?_);have h0:=s1.dat h0;refine aS (K:=K) (b:=false) (RT.as (aJ (bI (aY (k:=0) (aA h0) aF rfl) aK)) (decide_eq_false (by intro z;subst z;exact absurd ho (by decide +kernel)))) (λc=>nomatch c) (λ_ H2 s2=>?_);have h0:=s2.dat h0;refine aS (K:=K) (b:=false) (RT.as (aJ (bI (aY (k:=0) (aA h0) aF rfl) aK)) (decide_eq_false (by intro z;subst z;exact absurd ho (by decide +kernel)))) (λc=>nomatch c) (λ_ H3 s3=>?_);have h0:=s3.dat h0;refine aS (K:=K) (b:=false) (RT.as (aJ (bI (aY (k:=0) (aA h0) aF rfl) aK)) (decide_eq_false (by intro z;subst z;exact absurd ho (by decide +kernel)))) (λc=>nomatch c) (λ_ H4 s4=>?_);have h0:=s4.dat h0;have s14:=s1.trans (s2.trans (s3.trans s4));refine hU (D1 (RE.use (K:=K) (d:=.bl (decide (kd'=o))) (bI (aY (k:=0) (aA (s14.dat h1')) aF rfl) (aY (k:=0) (aA h0) aF rfl)) λvb G sG qb=>⟨_,qb.blE,?_⟩));have s1G:=s14.trans sG;by_cases hk:kd'=o
  ·rw [decide_eq_true hk];refine jv ?_;obtain ⟨x,y,rfl⟩:=uL ho ek hk;have h1:Dat K H (.tup [.str o,toD x,toD y]) v1:=h1;have dpa:dP pa<=n:=by simp only [dP] at hn;omega
   have dpb:dP pb<=n:=by simp only [dP] at hn;omega
   have dpx:a9 x<=8:=by simp only [a9] at dpt;omega
   have dpy:a9 y<=8:=by simp only [a9] at dpt;omega
   refine D1 (jA (dH (RE.use (K:=K) (d:=toP pa) (aY (k:=1) (aA (sG.dat h0)) aF rfl) λw0 H5 s5 q5=>?_)));refine dH (RE.use (K:=K) (d:=toD x) (aY (k:=1) (aA ((s1G.trans s5).dat h1)) aF rfl) λw1 H6 s6 q6=>?_);have s16:=s1G.trans (s5.trans s6);have tri6:=tri.same s16;refine ⟨_,rfl,pa,x,w0,w1,f,l0,l1,l2,a,b,c,rfl,okp.2.1,okt.2.1,dpx,dpa,by omega,s6.dat q5,q6,s16 _ _ hf,f0,f1,f2,tri6,by omega,by omega,by omega,λH7 a1 b1' c1 bb7 tri7 ka kb kc d7=>?_⟩;refine ⟨_,rfl,?_⟩;have g67:fE K H6 H7:=bb7.grow tri6 tri7;have bb17:But3 l0 l1 l2 H H7:=s16.but3.trans bb7
   cases hfa:cH pa x with
   | none =>
    refine jN ?_;have pz:=post H7 a1 b1' c1 bb17 tri7 (Nat.le_trans ka (Nat.pow_le_pow_right (by decide) (by omega))) (Nat.le_trans kb (Nat.pow_le_pow_right (by decide) (by omega))) (Nat.le_trans kc (Nat.pow_le_pow_right (by decide) (by omega))) λfd z=>by rw [jx hfa] at z;cases z
    rw [jx hfa] at pz;exact pz
   | some fa =>
    refine jv ?_;obtain ⟨da,db,dc⟩:=d7 fa hfa;refine jA (dH (RE.use (K:=K) (d:=toP pb) (aY (k:=2) (aA (Dat.mono g67 _ ((sG.trans (s5.trans s6)).dat h0))) aF rfl) λw2 H8 s8 q8=>?_));refine dH (RE.use (K:=K) (d:=toD y) (aY (k:=2) (aA (s8.dat (Dat.mono g67 _ (s16.dat h1)))) aF rfl) λw3 H9 s9 q9=>?_);have s79:=s8.trans s9;have tri9:=tri7.same s79;refine ⟨_,rfl,pb,y,w2,w3,f,l0,l1,l2,a++a1,b++b1',c++c1,rfl,okp.2.2,okt.2.2,dpy,dpb,by omega,s9.dat q8,q9,s79 _ _ (hf' bb17),f0,f1,f2,tri9,by rw [List.length_append];omega,by rw [List.length_append];omega,by rw [List.length_append];omega,λH10 a2 b2' c2 bb10 tri10 ma mb mc d10=>?_⟩;have g:=bb10.grow (K:=K) tri9 tri10;rw [List.append_assoc,List.append_assoc,List.append_assoc] at tri10
    have pz:=post H10 (a1++a2) (b1'++b2') (c1++c2) (bb17.trans (s79.but3.trans bb10)) tri10 (nF ka ma) (nF kb mb) (nF kc mc) λfd z=>by
     obtain ⟨_,f',g',e1,e2,e3⟩:=eJ z;rw [hfa] at e1;cases e1;obtain ⟨da2,db2,dc2⟩:=d10 g' e2;subst e3;refine ⟨?_,?_,?_⟩
     ·show Dats K H10 ((fa.1++g'.1).map toD) _;rw [List.map_append];exact Dats.append (Dats.mono g _ (s79.dats da)) da2
     ·show Dats K H10 ((fa.2.1++g'.2.1).map D.int) _;rw [List.map_append];exact Dats.append (Dats.mono g _ (s79.dats db)) db2
     ·show Dats K H10 ((fa.2.2++g'.2.2).map D.int) _;rw [List.map_append];exact Dats.append (Dats.mono g _ (s79.dats dc)) dc2
    rw [o7 hfa] at pz;exact pz
  ·rw [decide_eq_false hk];refine jN ?_;have e:=uF (a:=pa) (b:=pb) ho ek hk;have pz:=post _ [] [] [] s1G.but3 (tri.same s1G).nil (by simp) (by simp) (by simp) λfd z=>by rw [e] at z;cases z
   rw [e] at pz;exact pz
variable {tt:TT} {es:List D}
theorem Gf {b:Bool} (h:RT tt σ H b) (h1:b=true->RC K ta σ H es) (h2:b=false->RC K tb σ H es):RC K (tIf tt ta tb) σ H es:=λH1 s Q q =>
 (h.mono s).use λH' s'=>by
  cases b with
  | true=>exact jv (h1 rfl H' (s.trans s') Q λl ys H2 hl s2=>q l ys H2 (s'.free hl) (s'.trans s2))
  | false=>exact jN (h2 rfl H' (s.trans s') Q λl ys H2 hl s2=>q l ys H2 (s'.free hl) (s'.trans s2))
def rY (ds es:List D):Prop:=∃ n f m,ds=[.int n,.int f,.int m]/\es=(dU n f m).map D.int
theorem sX (T:Txt P w K mg)  : Ok P w base (k+1) T.Iz (jC K rY):=by
 refine T.Iz.f.ok sc__law_jump (λvs H Q E h=>?_) (λcdv A outer s H vs Q E hr h=>?_)
 ·obtain ⟨ds,es,hd,⟨n,f,m,rfl,rfl⟩,_⟩:=h;exact hd.length.symm
 have nd:=sc__law_jump.nd;obtain ⟨ds,es,hd,⟨n,f,m,rfl,rfl⟩,post⟩:=h;obtain ⟨v0,v1,v2,rfl,h0,h1,h2⟩:=nW hd;refine ⟨_,(aI (aQ (fM (aN kh (pv 2) aE (aU _)) (bR (aD (pv 0) (aD (pv 2) aC))) (bR (aD (pv 1) (aD (bO e9 (pv 2) aE) (aD (bO j0 (pv 2) aE) aC))))))),?_⟩;refine hU (RC.use (K:=K) (Gf (b:=decide (m<=9)) (aJ (cV (p:=λi j=>decide (i<=j)) (aA h2) aF)) (λc=>?_) (λc=>?_)) λl ys H' hl s hy hd=>post l ys H' s hy hl hd)
 ·have e:dU n f m=[n,m]:=by unfold dU;rw [if_pos (of_decide_eq_true c)]
  rw [e];exact gC (aB (aA h0) (aB (aA h2) aL))
 ·have e:dU n f m=[f,m % 100,m / 100]:=by unfold dU;rw [if_neg (of_decide_eq_false c)]
  rw [e];exact gC (aB (aA h1) (aB (j5 (aA h2) aF (by decide)) (aB (oJ (aA h2) aF ⟨by decide,by decide⟩) aL)))
theorem Fl {tb:TS} (h:te σ H λx H1=>∃ a,x=.ref a/\(∃ xs,SqT K H1 a xs)/\∃ W:Nat->Nat->L2.St->Hp->Prop,(∃ m,W 0 m σ H1)/\∀ i m σ H,W i m σ H ->
   ((Itt K a).stop i H/\En.nx σ H)\/((Itt K a).go i H/\∃ N:L2.St->Hp->Prop,(∀ σ' H',N σ' H'->∃ m',m' < m/\W (i+1) m' σ' H')/\∀ x H',(Itt K a).yld i H x H'->g x σ H' λσ2 H2=>tb { En with nx:=N,ct:=N,bk:=En.nx } σ2 H2)):Fz (AA K te) g tb En σ H:=h
def vY (as:List Ar) (es:List D):Prop:=∃ (cl:List Cl) (nums ks:List Int),as=[.d (.tup (cl.map clD)),.l (nums.map D.int),.l (ks.map D.int)]/\(∀ c ∈ cl,Ci nums.length ks.length c=true)/\cl.length<=12/\es=cl.map λc=>D.int (ke nums ks c)
variable {ns:List Int}
theorem lq {k:Nat} (h:k < ns.length):(ns.map D.int)[k]?=some (.int (ns.getD k 0)):=by rw [List.getElem?_map,List.getD_eq_getElem?_getD,List.getElem?_eq_getElem h];rfl
theorem sU (T:Txt P w K mg)  : Ok P w base (k+1) T.IW (kr K vY):=by
 refine T.IW.f.ok sc__law_fill (λvs H Q E h=>?_) (λcdv A outer s H vs Q E hr h=>?_)
 ·obtain ⟨as,es,hd,⟨cl,nums,ks,rfl,_⟩,_⟩:=h;exact hd.length.symm
 have nd:=sc__law_fill.nd;obtain ⟨as,es,hd,⟨cl,nums,ks,rfl,okc,lc,rfl⟩,post⟩:=h;obtain ⟨v0,v1,v2,rfl,h0,h1,h2⟩:=um hd;have h0:Dat K H (.tup (cl.map clD)) v0:=h0;have h1:LD K H (nums.map D.int) v1:=h1;have h2:LD K H (ks.map D.int) v2:=h2;obtain ⟨a,us,rfl,ha,hus⟩:=h0.tupE;have lu:=hus.length;rw [List.length_map] at lu;refine ⟨_,(aG (bT (i:=3) nd rfl (Or.inl rfl) (bR aC))
 (aG (iV PassesOwn.never rfl (j3 (pv 0)) (a7 (i:=4) nd rfl (Or.inl rfl)) (aI (bL (cQ (bQ (a6 (eZ jc) rfl T.GM cG (cM (pv 4) (cM (fY (v:=.ty "tuple") rfl T.Hl dB rfl) aC))) (λ_=>rfl))) (aI (bW (eQ F.plainAttrs_list F.slot_list_append F.type_list_append bV (pv 3) (aD (pv 4) aC)))) (aI (bL (aN bY (aT aV (pv 4) aE) aP (aU _)) (aI (bW (eQ F.plainAttrs_list F.slot_list_append F.type_list_append bV (pv 3) (aD (aT bP (pv 2) (aT aV (pv 4) aE)) aC)))) (aI (bW (eQ F.plainAttrs_list F.slot_list_append F.type_list_append bV (pv 3) (aD (fM (aN bY (aT aV (pv 4) aE) aP (aU _)) (bO e9 (aT bP (pv 1) (aT aV (pv 4) aE)) aE) (bO j0 (aT bP (pv 1) (aT aV (pv 4) aE)) aE)) aC)))))))))
 (aI (aQ (pv 3))))),?_⟩
 refine eF ⟨cW (by decide),λl hl=>?_⟩;have s1:Same H (upd H l (.lst [])):=aR hl _;refine c9 (Fl (K:=K) ⟨_,rfl,a,rfl,⟨us,s1.sqT ha⟩,sD (xs:=us) (λi σ G=>∃ (z:Option V) (ys:List V),σ=[some (.ref a),some v1,some v2,some (.ref l),z]/\Same H G/\G l=some (.lst ys)/\Dats K G ((cl.take i).map λc=>D.int (ke nums ks c)) ys) ?_ (λi σ G _ ⟨_,_,_,p,_⟩=>p.sqT ha) ?_ ?_⟩)
 ·exact ⟨none,[],rfl,s1,aH,by rw [List.take_zero];exact Dats.nil⟩
 ·rintro i vx σ G hi ⟨z,ys,rfl,sG,hlG,dy⟩;obtain ⟨dx,ex,hx⟩:=(sG.dats hus).getV hi;rw [List.getElem?_map] at ex
  cases hc:cl[i]? with
  | none=>rw [hc] at ex;cases ex
  | some c =>
   rw [hc] at ex;cases ex;have okc:=okc c (List.mem_of_getElem? hc);have et:cl.take (i+1)=cl.take i++[c]:=by rw [List.take_add_one,hc];rfl
   have lys:ys.length<=12:=by rw [<- dy.length,List.length_map,List.length_take];omega
   refine j6 ?_;dsimp only
   have fin:∀ {G1 G2:Hp} {y:V} {b:Option V},Same G G1->But l G1 G2->G2 l=some (.lst (ys++[y]))->Dat K G2 (.int (ke nums ks c)) y->∃ (z:Option V) (ys:List V),[some (.ref a),some v1,some v2,some (.ref l),b]=[some (.ref a),some v1,some v2,some (.ref l),z]/\Same H G2/\G2 l=some (.lst ys)/\Dats K G2 ((cl.take (i+1)).map λc=>D.int (ke nums ks c)) ys:=λ{G1 G2 y b} s1 b2 h2 q2=>by have g2:fE K G1 G2:=b2.grow (s1 _ _ hlG) h2;refine ⟨_,ys++[y],rfl,λx o hx=>b2 x o (aM hx hl) (s1 _ _ (sG _ _ hx)),h2,?_⟩;rw [et,List.map_append];exact Dats.append (Dats.mono g2 _ (s1.dats dy)) (Dats.cons q2 Dats.nil)
   cases c with
   | n j =>have hx:Dat K G (.int j) vx:=hx;refine iQ (b:=true) (bS (bE (bZ (K:=K) (aA (k:=4) hx)))) (λ_ G1 s1=>?_) (λc=>nomatch c);exact lC (K:=K) (d:=.int j) (aA (k:=4) (s1.dat hx)) (s1 _ _ hlG) (by omega) λy G2 b2 h2 q2=>fin s1 b2 h2 q2
   | arg j =>have hx:Dat K G (.tup [.str "arg",.int j]) vx:=hx;have okc:=of_decide_eq_true okc;refine iQ (b:=false) (bS (bE (bZ (K:=K) (aA (k:=4) hx)))) (λc=>nomatch c) (λ_ G1 s1=>?_);have hx:=s1.dat hx;refine iQ (b:=true) (RT.as (aJ (bI (aY (k:=0) (aA (k:=4) hx) aF rfl) aK)) (decide_eq_true rfl)) (λ_ G2 s2=>?_) (λc=>nomatch c);have s12:=s1.trans s2;exact lC (K:=K) (d:=.int (ks.getD j 0)) (iW (k:=j) (bA (k:=2) ((sG.trans s12).ld h2)) (aY (k:=1) (aA (k:=4) (s2.dat hx)) aF rfl) (lq okc)) (s12 _ _ hlG) (by omega) λy G3 b3 h3 q3=>fin s12 b3 h3 q3
   | low j =>have hx:Dat K G (.tup [.str "low",.int j]) vx:=hx;have okc:=of_decide_eq_true okc;refine iQ (b:=false) (bS (bE (bZ (K:=K) (aA (k:=4) hx)))) (λc=>nomatch c) (λ_ G1 s1=>?_);have hx:=s1.dat hx;refine iQ (b:=false) (RT.as (aJ (bI (aY (k:=0) (aA (k:=4) hx) aF rfl) aK)) (decide_eq_false (by decide +kernel))) (λc=>nomatch c) (λ_ G2 s2=>?_);have s12:=s1.trans s2;have hx:=s2.dat hx;refine lC (K:=K) (d:=.int (nums.getD j 0 % 100)) (mQ (b:=true) (RT.as (aJ (bI (aY (k:=0) (aA (k:=4) hx) aF rfl) aK)) (decide_eq_true rfl)) (λ_=>j5 (iW (k:=j) (bA (k:=1) ((sG.trans s12).ld h1)) (aY (k:=1) (aA (k:=4) hx) aF rfl) (lq okc)) aF (by decide)) (λc=>nomatch c)) (s12 _ _ hlG) (by omega) λy G3 b3 h3 q3=>fin s12 b3 h3 q3
   | high j =>have hx:Dat K G (.tup [.str "high",.int j]) vx:=hx;have okc:=of_decide_eq_true okc;refine iQ (b:=false) (bS (bE (bZ (K:=K) (aA (k:=4) hx)))) (λc=>nomatch c) (λ_ G1 s1=>?_);have hx:=s1.dat hx;refine iQ (b:=false) (RT.as (aJ (bI (aY (k:=0) (aA (k:=4) hx) aF rfl) aK)) (decide_eq_false (by decide +kernel))) (λc=>nomatch c) (λ_ G2 s2=>?_);have s12:=s1.trans s2;have hx:=s2.dat hx;refine lC (K:=K) (d:=.int (nums.getD j 0 / 100)) (mQ (b:=false) (RT.as (aJ (bI (aY (k:=0) (aA (k:=4) hx) aF rfl) aK)) (decide_eq_false (by decide +kernel))) (λc=>nomatch c) (λ_=>oJ (iW (k:=j) (bA (k:=1) ((sG.trans s12).ld h1)) (aY (k:=1) (aA (k:=4) hx) aF rfl) (lq okc)) aF ⟨by decide,by decide⟩)) (s12 _ _ hlG) (by omega) λy G3 b3 h3 q3=>fin s12 b3 h3 q3
 ·rintro σ G ⟨z,ys,rfl,sG,hlG,dy⟩;rw [<- lu,List.take_length] at dy;exact ⟨_,rfl,post l ys G sG hlG hl dy⟩
structure New3 (F G:Hp) (f l0 l1 l2:Addr):Prop where
 s:Same F G
 hf:G f=some (oL l0 l1 l2)
 n0:f≠l0
 n1:f≠l1
 n2:f≠l2
 tri:Tri l0 l1 l2 G [] [] []
 f0:F l0=none
 f1:F l1=none
 f2:F l2=none
variable {F G':Hp} {l0 l1 l2:Addr}
theorem New3.mono {f:Addr} (h:New3 F G f l0 l1 l2) (s:Same G G'):New3 F G' f l0 l1 l2:=⟨h.s.trans s,s _ _ h.hf,h.n0,h.n1,h.n2,h.tri.same s,h.f0,h.f1,h.f2⟩
theorem Bh (q:∀ f l0 l1 l2 G,New3 F G f l0 l1 l2->Q (.ref f) G):uf (cE (uf eG) (cE (uf eG) (cE (uf eG) eG))) σ F Q:=by
 refine ⟨cW (by decide),λl0 hl0=>⟨cW (by decide),λl1 hl1=>⟨cW (by decide),λl2 hl2=>⟨cW (by simp),λf hf=>?_⟩⟩⟩⟩;have n10:l0≠l1:=aM aH hl1;have n20:l0≠l2:=aM (by rw [aZ n10];exact aH) hl2;have n21:l1≠l2:=aM aH hl2;have nf0:l0≠f:=aM (by rw [aZ n20,aZ n10];exact aH) hf;have nf1:l1≠f:=aM (by rw [aZ n21];exact aH) hf;have nf2:l2≠f:=aM aH hf;refine q f l0 l1 l2 _ ⟨(aR hl0 _).trans ((aR hl1 _).trans ((aR hl2 _).trans (aR hf _))),aH,Ne.symm nf0,Ne.symm nf1,Ne.symm nf2,⟨?_,?_,?_,n10,n20,n21⟩,hl0,?_,?_⟩
 ·rw [aZ nf0,aZ n20,aZ n10];exact aH
 ·rw [aZ nf1,aZ n21];exact aH
 ·rw [aZ nf2];exact aH
 ·rw [aZ (Ne.symm n10)] at hl1;exact hl1
 ·rw [aZ (Ne.symm n21),aZ (Ne.symm n20)] at hl2;exact hl2
structure Full3 (K:W.Frag) (F G:Hp) (f l0 l1 l2:Addr) (fd:Fnd):Prop where
 hf:G f=some (.lst [.ref l0,.ref l1,.ref l2])
 h0:LD K G (fd.1.map toD) (.ref l0)
 h1:LD K G (fd.2.1.map D.int) (.ref l1)
 h2:LD K G (fd.2.2.map D.int) (.ref l2)
theorem Full3.mono {f:Addr} (h:Full3 K F G f l0 l1 l2 fd) (s:Same G G'):Full3 K F G' f l0 l1 l2 fd:=⟨s _ _ h.hf,s.ld h.h0,s.ld h.h1,s.ld h.h2⟩
theorem D2 {tp tt:TE} {f:Addr} {p:Pa} (N:New3 F G f l0 l1 l2) (okp:wC p) (okt:okT t) (dpt:a9 t<=8) (dpp:dP p<=3) (hp:RE K tp σ G (toP p)) (ht:RE K tt σ G (toD t))
  (q:∀ G',Same F G'->(∀ fd,cH p t=some fd->Full3 K F G' f l0 l1 l2 fd)->Q (.bl (cH p t).isSome) G') (hv:σ[j]?=some (some (.ref f)):=by rfl):jU (kX K oL 3) [] E (cE tp (cE tt (cE (hW j) eG))) σ G Q:=by
 refine jA (dH (hp.use λw0 G1 s1 q1=>dH ((ht.mono s1).use λw1 G2 s2 q2=>?_)));have N2:=N.mono (s1.trans s2);refine ⟨_,hv,p,t,w0,w1,f,l0,l1,l2,[],[],[],rfl,okp,okt,dpt,dpp,by decide,s2.dat q1,q2,N2.hf,N2.n0,N2.n1,N2.n2,N2.tri,by decide,by decide,by decide,λG3 a' b' c' bb tri' _ _ _ dd=>?_⟩;refine q G3 (λx o hx=>bb x o (aM hx N2.f0) (aM hx N2.f1) (aM hx N2.f2) (N2.s _ _ hx)) λfd e=>?_;obtain ⟨d0,d1,d2⟩:=dd fd e;exact ⟨bb _ _ N2.n0 N2.n1 N2.n2 N2.hf,LD.of tri'.h0 d0,LD.of tri'.h1 d1,LD.of tri'.h2 d2⟩
theorem vI {k:Nat} {v:Nat} {f:Addr} {us:List V} (hf:H f=some (.lst us)) (hl:LD K H es (.ref l)) (h2:RE K tb σ H (.int (v:Nat))) (e:us[v]?=some (.ref l)) (hv:σ[k]?=some (some (.ref f)):=by rfl):RL K (tOp (wU K) (hW k) tb) σ H es:=λH1 s Q q =>
 ⟨_,hv,h2 H1 s _ λw H3 s3 q3=>⟨f,us,v,.ref l,rfl,q3.intE,SqL.of ((s.trans s3) _ _ hf),i0 e,q _ _ s3 ((s.trans s3).ld hl)⟩⟩
variable {ds:List D}
theorem Bu {k:Nat} (hl:H l=some (.lst ys)) (hd:Dats K H ds ys) (n1:noLs ds=true) (dp:deepDs ds<=20) (hv:σ[k]?=some (some (.ref l)):=by rfl):RE K (tOp (Bf K true) (hW k) (uf eG)) σ H (.bl (!eqDs ds [])):=λH1 s Q q =>
 ⟨_,hv,cW (by decide),λp hp=>by
  have sp:=aR hp (.lst []);exact ⟨l,p,ys,[],ds,[],rfl,rfl,SqL.of (sp _ _ (s _ _ hl)),SqL.of aH,sp.dats (s.dats hd),Dats.nil,n1,rfl,dp,q _ _ sp (Dat.blI _)⟩⟩
theorem qY:∀ l:List Int,deepDs (l.map D.int)<=1
 | []=>by simp [deepDs]
 | n::ns=>by have:=qY ns;simp only [List.map_cons,deepDs,gD];omega
noncomputable def jf (f:Tr->D->Bool) (ts:List Tr) (cs:List D):List Bool:=(ts.zip cs).map λp=>f p.1 p.2
noncomputable def jG (f:Tr->D->Bool) (ts:List Tr) (cs:List D):Bool:=decide (ts.length=cs.length) && (jf f ts cs).all id
noncomputable def gJ:D->Option (Str × List D)
 | .tup [.str nm,.tup cs]=>some (nm,cs)
 | _=>none
noncomputable def gX (ps:List Pc):Nat->Tr->D->Bool
 | 0,_,_=>false
 | n+1,t,c=>match gJ c with
  | none=>false
  | some x=>match (fW ps t).find? λw=>decide (w.nm=x.1) with
   | none=>false
   | some w=>jG (gX ps n) w.ts x.2
def zB (n:Nat) (as:List Ar) (d:D):Prop:=∃ (ps:List Pc) (ts:List Tr) (cs:List D),as=[.d (.tup (ts.map toD)),.l (ps.map pcD),.d (.tup cs)]/\jy ps/\(∀ t ∈ ts,okT t/\a9 t<=n)/\n<=8/\ts.length<=8/\d=.bl (jG (gX ps n) ts cs)
def qA (n:Nat) (as:List Ar) (d:D):Prop:=∃ (ps:List Pc) (t:Tr) (c:D),as=[.d (toD t),.l (ps.map pcD),.d c]/\jy ps/\okT t/\a9 t<=n/\n<=8/\d=.bl (gX ps n t c)
theorem CT (as:List Ar) (d:D):¬ qA 0 as d:=λ⟨ps,t,c,_,_,_,h,_⟩=>by
 have:1<=a9 t:=by cases t <;> simp [a9]
 omega
variable {ts:List Tr} {cs:List D}
theorem DN {c:D} (h1:ts[j]?=some t) (h2:cs[j]?=some c):(ts.zip cs)[j]?=some (t,c):=by rw [List.getElem?_zip_eq_some];exact ⟨h1,h2⟩
theorem mG (T:Txt P w K mg) (Hz:Ok P w base k T.GS (spA K (qA n))):Ok P w base (k+1) T.HQ (spA K (zB n)):=by
 refine T.HQ.f.ok sc_are_covered_by (λvs H Q E h=>?_) (λcdv A outer s H vs Q E hr h=>?_)
 ·obtain ⟨as,d,hd,⟨ps,ts,cs,rfl,_⟩,_⟩:=h;exact hd.length.symm
 have nd:=sc_are_covered_by.nd;obtain ⟨as,d,hd,⟨ps,ts,cs,rfl,okS,okts,n8,l8,rfl⟩,post⟩:=h;obtain ⟨v0,v1,v2,rfl,h0,h1,h2⟩:=um hd;have h0:Dat K H (.tup (ts.map toD)) v0:=h0;have h1:LD K H (ps.map pcD) v1:=h1;have h2:Dat K H (.tup cs) v2:=h2;refine ⟨_,(aG (bL (aN ki (a6 aX rfl T.GO bU (aD (pv 0) aC)) (a6 aX rfl T.GO bU (aD (pv 2) aC)) (aU _)) (aI (aQ dD)) aW)
 (aI (aQ (a6 (jH rfl) rfl T.JV m7 (aD (dE (own:=["tree","thing"]) (fr:=[1]) (N':=["tree","thing","some"]) (tQ rfl T.J5 (aD (pv 0) (aD (pv 2) aC))) rfl (by show cZ ["trees","some","things"] (λx=>(aO iB).names.lookup x) _ _ _ _=true;decide +kernel) rfl (λ_ _ _ _ _=>(mJ (K:=K) (n:=2) rfl rfl (bM (a7 (i:=0) (by show List.Nodup [("tree":Str),("thing":Str),("some":Str)];decide +kernel) rfl (Or.inl rfl)) (bM (a7 (i:=1) (by show List.Nodup [("tree":Str),("thing":Str),("some":Str)];decide +kernel) rfl (Or.inl rfl)) dF)))) (λ_ _ _ _ _=>cO) (λ_ _ _ _ _=>(pc (D:=T.GS) Hz hr (aD (pv 0) (aD (pv 2) (aD (pv 1) aC)))))) aC))))),?_⟩
 have el:decide (((ts.map toD).length:Int)=(cs.length:Int))=decide (ts.length=cs.length):=by
  rw [List.length_map];by_cases z:ts.length=cs.length
  ·rw [decide_eq_true z,decide_eq_true (by omega)]
  ·rw [decide_eq_false z,decide_eq_false (by omega)]
 refine aS (K:=K) (b:=!decide (ts.length=cs.length)) (RT.as (aJ (iA (dN (aA (k:=0) h0)) (dN (aA (k:=2) h2)))) (by rw [el])) (λc H1 s1=>?_) (λc H1 s1=>?_)
 ·refine bF (K:=K) (d:=.bl false) fG λv H2 s2 q=>post v H2 (s1.trans s2) ?_
  have e:jG (gX ps n) ts cs=false:=by
   unfold jG;have z:decide (ts.length=cs.length)=false:=by simpa using c
   rw [z];rfl
  rw [e];exact q
 ·have z:decide (ts.length=cs.length)=true:=by simpa using c
  have el:=of_decide_eq_true z
  have e:jG (gX ps n) ts cs=(jf (gX ps n) ts cs).all id:=by unfold jG;rw [z];rfl
  rw [e] at post;refine bF (K:=K) (d:=.bl ((jf (gX ps n) ts cs).all id)) (lB (bs:=jf (gX ps n) ts cs) (Fp (cs:=ts.map toD) (ds:=cs) (aB (aA (k:=0) (s1.dat h0)) (aB (aA (k:=2) (s1.dat h2)) aL)) (by rw [List.length_map];exact el) (by rw [List.length_map];omega) _ (by unfold jf;rw [List.length_map,List.length_map,List.length_map,List.length_zip];omega) (by decide) rfl (λG j c d e v w s2 hc hd he hv hw=>?_))) λv H2 s2 q=>post v H2 (s1.trans s2) q;rw [List.getElem?_map] at hc
  cases ht:ts[j]? with
  | none=>rw [ht] at hc;cases hc
  | some t =>rw [ht] at hc;cases hc;unfold jf at he;rw [List.getElem?_map,List.getElem?_map,DN ht hd] at he;cases he;have ok:=okts t (List.mem_of_getElem? ht);exact fA (R:=qA n) (eE (aA (k:=0) hv) (fF (bA (k:=2) ((s1.trans s2).ld h1)) (eE (aA (k:=1) hw) cU))) ⟨ps,t,d,rfl,okS,ok.1,ok.2,n8,rfl⟩
theorem Cv {α:Type} {p:α->Bool} {l:List α} {x:α} (h:l[i]?=some x) (hx:p x=true) (hn:∀ y ∈ l.take i,p y=false):l.find? p=some x:=by rw [List.find?_eq_some_iff_getElem];have hi:i < l.length:=(List.getElem?_eq_some_iff.mp h).1;refine ⟨hx,i,hi,(List.getElem?_eq_some_iff.mp h).2,λj hj=>?_⟩;have hm:l[j] ∈ l.take i:=List.mem_take_iff_getElem.mpr ⟨j,by omega,rfl⟩;rw [hn _ hm];rfl
theorem Cw {α:Type} {p:α->Bool} {l:List α} (hn:∀ y ∈ l,p y=false):l.find? p=none:=by rw [List.find?_eq_none];intro y hy;rw [hn y hy];exact Bool.false_ne_true
theorem yu {c:D} (h:gJ c=none):gX ps (n+1) t c=false:=by show (match gJ c with | none=>false | some x=>_)=false;rw [h]
noncomputable def sx (c:D):Bool:=!d6 c || (match c with | .tup ds=>!decide ((ds.length:Int)=2) || !lZ (ds.getD 1 .non) "tuple" | _=>true)
theorem o6 (c:D):sx c=(gJ c).isNone:=by
 unfold sx
 match c with
 | .tup [.str nm,.tup cs]=>rfl
 | .tup []=>rfl
 | .tup [.str nm]=>rfl
 | .tup (.str nm::x::y::r) =>
  have e:(gJ (.tup (.str nm::x::y::r))).isNone=true:=by cases x <;> rfl
  rw [e];show (false || (!decide ((((D.str nm)::x::y::r).length:Int)=2) || _))=true;have z:decide ((((D.str nm)::x::y::r).length:Int)=2)=false:=decide_eq_false (by simp only [List.length_cons];omega);rw [z];rfl
 | .tup [.str nm,.non]=>rfl
 | .tup [.str nm,.bl _]=>rfl
 | .tup [.str nm,.int _]=>rfl
 | .tup [.str nm,.str _]=>rfl
 | .tup [.str nm,.lst]=>rfl
 | .tup (.non::r)=>cases r <;> rfl
 | .tup (.bl _::r)=>cases r <;> rfl
 | .tup (.int _::r)=>cases r <;> rfl
 | .tup (.tup _::r)=>cases r <;> rfl
 | .tup (.lst::r)=>cases r <;> rfl
 | .non=>rfl
 | .bl _=>rfl
 | .int _=>rfl
 | .str _=>rfl
 | .lst=>rfl
theorem nA (T:Txt P w K mg) (HC:Ok P w base k T.He (spD K jW)) (JI:Ok P w base k T.IG (kr K ui)) (JF:Ok P w base k T.HQ (spA K (zB n))):Ok P w base (k+1) T.GS (spA K (qA (n+1))):=by
 refine T.GS.f.ok sc_is_covered_by (λvs H Q E h=>?_) (λcdv A outer s H vs Q E hr h=>?_)
 ·obtain ⟨as,d,hd,⟨ps,t,c,rfl,_⟩,_⟩:=h;exact hd.length.symm
 have nd:=sc_is_covered_by.nd;obtain ⟨as,d,hd,⟨ps,t,c,rfl,okS,okt,dpt,n8,rfl⟩,post⟩:=h;obtain ⟨v0,v1,v2,rfl,h0,h1,h2⟩:=um hd;have h0:Dat K H (toD t) v0:=h0;have h1:LD K H (ps.map pcD) v1:=h1;have h2:Dat K H c v2:=h2;refine ⟨_,(aG (bL (PW.pt (dW (cQ (bQ (pc (D:=T.He) HC hr (aD (pv 2) aC)) (λ_=>rfl))) (dW (aN ki (a6 aX rfl T.GO bU (aD (pv 2) aC)) aE (aU _)) (dY (cQ (bQ (a6 (eZ jc) rfl T.GM cG (cM (aT aV (pv 2) aE) (cM (fY (v:=.ty "tuple") rfl T.Hl dB rfl) aC))) (λ_=>rfl))))))) (aI (aQ dD)) aW)
 (aG (iV PassesOwn.never rfl (fK (pc (D:=T.IG) JI hr (aD (pv 0) (aD (pv 1) aC)))) (gO rfl (bM (a7 (i:=3) nd rfl (Or.inl rfl)) (bM (a7 (i:=4) nd rfl (Or.inl rfl)) (bM (a7 (i:=5) nd rfl (Or.inl rfl)) dF)))) (aI (bL (aN bY (pv 3) (aT aV (pv 2) aE) (aU _)) (aI (aQ (pc (D:=T.HQ) JF hr (aD (pv 5) (aD (pv 1) (aD (aT aV (pv 2) aE) aC)))))) aW)))
 (aI (aQ dD)))),?_⟩
 have tg:RE K (jU (spD K jW) [] E0 (cE (hW 2) eG)) (f7 ["tree","some","thing","name","cells","trees"] [v0,v1,v2]) H (.bl (d6 c)):=bN (R:=jW) (aB (aA (k:=2) h2) aL) ⟨c,rfl,rfl⟩;refine aS (K:=K) (b:=sx c) ?_ (λcn H1 s1=>?_) (λcs H1 s1=>?_)
 ·by_cases ht:d6 c=true
  ·obtain ⟨nm,r,rfl⟩:∃ nm r,c=.tup (.str nm::r):=by
    match c,ht with
    | .tup (.str nm::r),_=>exact ⟨nm,r,rfl⟩
   by_cases hl:((D.str nm::r).length:Int)=2
   ·obtain ⟨x,rfl⟩:∃ x,r=[x]:=by
     match r,hl with
     | [x],_=>exact ⟨x,rfl⟩
     | [],hl=>simp at hl
     | x::y::r,hl=>simp only [List.length_cons] at hl;omega
    exact RT.as (cI (bS (bE tg)) λ_=>cI (aJ (iA (dN (aA (k:=2) h2)) aF)) λ_=>bS (bE (bZ (aY (k:=1) (aA (k:=2) h2) aF rfl)))) rfl
   ·refine RT.as (cI (bS (bE tg)) λ_=>cI (c:=true) (aJ (iA (dN (aA (k:=2) h2)) aF)) λz=>?_) ?_
    ·rw [decide_eq_false hl] at z;cases z
    ·show (false || (!decide (((D.str nm::r).length:Int)=2) || true))=(false || (!decide (((D.str nm::r).length:Int)=2) || _))
     rw [decide_eq_false hl];rfl
  ·have ht:d6 c=false:=by simpa using ht
   refine RT.as (cI (c:=true) (bS (bE tg)) λz=>?_) ?_
   ·rw [ht] at z;cases z
   ·unfold sx;rw [ht];rfl
 ·rw [o6] at cn;refine bF (K:=K) (d:=.bl false) fG λv H2 s2 q=>post v H2 (s1.trans s2) ?_;rw [yu (by cases e:gJ c with | none=>rfl | some _=>rw [e] at cn;cases cn)];exact q
 rw [o6] at cs
 obtain ⟨nm,cv,rfl⟩:∃ nm cv,c=.tup [.str nm,.tup cv]:=by
  unfold gJ at cs;split at cs
  ·exact ⟨_,_,rfl⟩
  ·cases cs
 have ec:gX ps (n+1) t (.tup [.str nm,.tup cv])=(match (fW ps t).find? λw=>decide (w.nm=nm) with | none=>false | some w=>jG (gX ps n) w.ts cv):=rfl;rw [ec] at post;refine c9 (RC.use (K:=K) (fU (R:=ui) (eE (aA (k:=0) (s1.dat h0)) (fF (bA (k:=1) (s1.ld h1)) cU)) ⟨ps,t,rfl,okS,okt,by omega,rfl⟩) λl ys H2 hl s2 hy hdy=>?_);have s12:=s1.trans s2;have ly:=hdy.length;rw [List.length_map] at ly;refine ⟨l,rfl,⟨ys,SqL.of hy⟩,kE (xs:=ys) (λi σ G=>∃ (z3 z4 z5:Option V),σ=[some v0,some v1,some v2,z3,z4,z5]/\Same H2 G/\∀ w ∈ (fW ps t).take i,decide (w.nm=nm)=false) ?_ (λi σ G _ ⟨_,_,_,_,p,_⟩=>SqL.of (p _ _ hy)) ?_ ?_⟩
 ·exact ⟨none,none,none,rfl,Same.refl _,λw hw=>by simp at hw⟩
 ·rintro i vx σ G hi ⟨z3,z4,z5,rfl,sG,hno⟩;have sHG:=s12.trans sG;obtain ⟨dx,ex,hx⟩:=(sG.dats hdy).getV hi;rw [List.getElem?_map] at ex
  cases hw:(fW ps t)[i]? with
  | none=>rw [hw] at ex;cases ex
  | some w =>
   rw [hw] at ex;cases ex;have hwm:=List.mem_of_getElem? hw;have et:(fW ps t).take (i+1)=(fW ps t).take i++[w]:=by rw [List.take_add_one,hw];rfl
   obtain ⟨pa,us,rfl,hpa,hus⟩:=(show Dat K G (.tup [.str w.nm,.tup w.cs,.tup (w.ts.map toD)]) vx from hx).tupE;obtain ⟨x3,x4,x5,rfl,k3,k4,k5⟩:=nW hus;refine ⟨pa,_,rfl,hpa,rfl,_,_,rfl,_,_,rfl,_,_,rfl,rfl,?_⟩;dsimp only;have h2G:Dat K G (.tup [.str nm,.tup cv]) v2:=sHG.dat h2;refine iQ (b:=decide (w.nm=nm)) (aJ (bI (K:=K) (aA (k:=3) k3) (aY (k:=0) (aA (k:=2) h2G) aF rfl))) (λcY G1 t1=>?_) (λcN G1 t1=>lD ?_)
   ·rw [Cv hw cY hno] at post;have tail:=λx hx=>oR (AL okS) hwm x hx;refine bF (K:=K) (d:=.bl (jG (gX ps n) w.ts cv)) (fA (R:=zB n) (eE (aA (k:=5) (t1.dat k5)) (fF (bA (k:=1) ((sHG.trans t1).ld h1)) (eE (aY (k:=1) (aA (k:=2) (t1.dat h2G)) aF rfl) cU))) ⟨ps,w.ts,cv,rfl,okS,λx hx=>⟨fQ t x okt (iC (tail x hx)),?_⟩,by omega,(uh okS.ok hwm).1,rfl⟩) λv G2 t2 q=>post v G2 (sHG.trans (t1.trans t2)) q;have:=(gQ (tail x hx)).2;omega
   ·refine ⟨_,_,_,rfl,sG.trans t1,λy hy=>?_⟩;rw [et] at hy;rcases List.mem_append.mp hy with hy | hy
    ·exact hno y hy
    ·rw [List.mem_singleton.mp hy];exact cN
 ·rintro σ G ⟨z3,z4,z5,rfl,sG,hno⟩;rw [<- ly,List.take_length] at hno;rw [Cw hno] at post;dsimp only;exact bF (K:=K) (d:=.bl false) fG λv G2 t2 q=>post v G2 (s12.trans (sG.trans t2)) q
def Ei (as:List Ar) (d:D):Prop:=∃ (ps:List Pc) (t:Tr) (c:D),as=[.d (toD t),.l (ps.map pcD),.d c]/\vW ps t/\d=.bl (gX ps 8 t c)
theorem pM (T:Txt P w K mg) (Iu:Ok P w base k T.Hw (spD K qO)) (II:Ok P w base k T.HK (spA K lW)) (Hz:Ok P w base k T.GS (spA K (qA 8))):Ok P w base (k+1) T.Iq (spA K Ei):=by
 refine T.Iq.f.ok sc_is_covering (λvs H Q E h=>?_) (λcdv A outer s H vs Q E hr h=>?_)
 ·obtain ⟨as,d,hd,⟨ps,t,c,rfl,_⟩,_⟩:=h;exact hd.length.symm
 have nd:=sc_is_covering.nd;obtain ⟨as,d,hd,⟨ps,t,c,rfl,gi,rfl⟩,post⟩:=h;obtain ⟨v0,v1,v2,rfl,h0,h1,h2⟩:=um hd;have h0:Dat K H (toD t) v0:=h0;have h1:LD K H (ps.map pcD) v1:=h1;have h2:Dat K H c v2:=h2;refine ⟨_,(aG (bW (pc (D:=T.Hw) Iu hr (aD (pv 0) aC)))
 (aG (bW (pc (D:=T.HK) II hr (aD (pv 1) aC)))
 (aI (aQ (pc (D:=T.GS) Hz hr (aD (pv 0) (aD (pv 1) (aD (pv 2) aC)))))))),?_⟩
 refine nK (RE.use (bN (R:=qO) (d:=.non) (aB (aA (K:=K) (k:=0) h0) aL) ⟨toD t,rfl,ug gi.ot gi.dp gi.sz,rfl⟩) λv4 H1 s1 _=>?_);refine nK (RE.use (fA (R:=lW) (d:=.non) (fF (bA (K:=K) (k:=1) (s1.ld h1)) cU) ⟨ps,rfl,gi.gs,rfl⟩) λv5 H2 s2 _=>?_);have s12:=s1.trans s2;exact bF (K:=K) (d:=.bl (gX ps 8 t c)) (fA (R:=qA 8) (eE (aA (k:=0) (s12.dat h0)) (fF (bA (k:=1) (s12.ld h1)) (eE (aA (k:=2) (s12.dat h2)) cU))) ⟨ps,t,c,rfl,gi.os,gi.ot,gi.dp,by decide,rfl⟩) λv H' s q=>post v H' (s12.trans s) q
structure EV (ps:List Pc):Prop where
 nd:(ps.map (·.nm)).Nodup
 nl:∀ p ∈ ps,noL (pcD p)=true/\gD (pcD p)<=19
noncomputable def AM (nm:Str):D->Bool
 | .tup (.str x::_)=>decide (x=nm)
 | _=>false
theorem ng:∀ {ps:List Pc},(∀ p ∈ ps,p.nm≠nm)->(ps.map pcD).filter (AM nm)=[]
 | [],_=>rfl
 | p::ps,h=>by
  rw [List.map_cons,List.filter_cons,if_neg]
  ·exact ng λq hq=>h q (List.mem_cons_of_mem _ hq)
  ·show ¬ decide (p.nm=nm)=true;rw [decide_eq_false (h p List.mem_cons_self)];exact Bool.false_ne_true
theorem o4 {p:Pc}:∀ {ps:List Pc},(ps.map (·.nm)).Nodup->p ∈ ps->(ps.map pcD).filter (AM p.nm)=[pcD p]
 | [],_,h=>by cases h
 | q::ps,nd,h=>by
  rw [List.map_cons,List.nodup_cons] at nd;rcases List.mem_cons.mp h with rfl | h
  ·rw [List.map_cons,List.filter_cons,if_pos (show AM p.nm (pcD p)=true from decide_eq_true rfl),ng λx hx z=>nd.1 (List.mem_map.mpr ⟨x,hx,z⟩)]
  ·rw [List.map_cons,List.filter_cons,if_neg]
   ·exact o4 nd.2 h
   ·show ¬ decide (q.nm=p.nm)=true;rw [decide_eq_false λz=>nd.1 (List.mem_map.mpr ⟨p,h,z.symm⟩)];exact Bool.false_ne_true
theorem mP {k:Nat} (hl:H l=some (.lst ys)) (hd:Dats K H ds ys) (n1:noLs ds=true) (dp:deepDs ds<=20) (hv:σ[k]?=some (some (.ref l)):=by rfl):RE K (tOp (Bf K false) (hW k) (uf eG)) σ H (.bl (eqDs ds [])):=λH1 s Q q =>
 ⟨_,hv,cW (by decide),λp hp=>by
  have sp:=aR hp (.lst []);exact ⟨l,p,ys,[],ds,[],rfl,rfl,SqL.of (sp _ _ (s _ _ hl)),SqL.of aH,sp.dats (s.dats hd),Dats.nil,n1,rfl,dp,q _ _ sp (Dat.blI _)⟩⟩
theorem uO {α:Type} {xss:List (List α)} (h:xss.flatten.length<=n):∀ {i:Nat} {x:List α},xss[i]?=some x->(xss.take i).flatten.length+x.length<=n:=by
 intro i x hx;have e:xss.take (i+1)=xss.take i++[x]:=by rw [List.take_add_one,hx];rfl
 have l:(xss.take (i+1)).flatten.length<=xss.flatten.length:=by have z:xss=xss.take (i+1)++xss.drop (i+1):=(List.take_append_drop _ _).symm;rw [congrArg List.flatten z,List.flatten_append,List.length_append];omega
 rw [e,List.flatten_append,List.length_append] at l;simp only [List.flatten_cons,List.flatten_nil,List.append_nil] at l;omega
noncomputable def Gi:D->Bool
 | .str _=>true
 | _=>false
noncomputable def uW:Nat->D->Bool
 | 0,_=>true
 | n+1,c=>match c with
  | .tup [x,.tup cs]=>Gi x && cs.all (uW n)
  | _=>true
noncomputable def GB:D->Cl
 | .tup [.str k,.int j]=>if k="arg" then .arg j.toNat else if k="low" then .low j.toNat else .high j.toNat
 | .int i=>.n i
 | _=>.n 0
noncomputable def cF (p:Pc):List Cl:=p.cs.map GB
noncomputable def iX (nm:Str) (ps:List Pc):Option Pc:=ps.find? λp=>decide (p.nm=nm)
noncomputable def kz:List (Option (List D))->Option (List (List D))
 | []=>some []
 | none::_=>none
 | some x::r=>(kz r).map (x::·)
noncomputable def eA (f:Tr->D->Option (List D)) (ts:List Tr) (cs:List D):List (Option (List D)):=(ts.zip cs).map λp=>f p.1 p.2
noncomputable def yG:List (List D)->Option (List D)
 | [a,b,c]=>some (eU a b c)
 | _=>none
noncomputable def jd (f:Tr->D->Option (List D)) (t:Tr) (cs:List D):Option (List D):=match t with
 | .pick a b d=>if cs.length=3 then (kz (eA f [a,b,d] cs)).bind yG else none
 | _=>none
noncomputable def fP (f:Tr->D->Option (List D)) (ps:List Pc) (t:Tr) (nm:Str) (cs:List D):Option (List D):=match iX nm ps with
 | none=>none
 | some p=>match cH p.pt t with
  | none=>none
  | some g=>if g.1.length=cs.length then (kz (eA f g.1 cs)).map λxss=>cT xss g (cF p) else none
noncomputable def cJ (ps:List Pc):Nat->Tr->D->Option (List D)
 | 0,_,_=>none
 | n+1,t,c=>match gJ c with
  | none=>none
  | some x=>if x.1="pick" then jd (cJ ps n) t x.2 else fP (cJ ps n) ps t x.1 x.2
theorem jE:∀ {os:List (Option (List D))},os.any Option.isNone=true->kz os=none
 | [],h=>by cases h
 | none::os,_=>rfl
 | some x::os,h=>by rw [List.any_cons] at h;have ih:=jE (os:=os) (by simpa using h);show (kz os).map _=none;rw [ih];rfl
theorem ml:∀ ess:List (List D),kz (ess.map some)=some ess
 | []=>rfl
 | x::ess=>by show (kz (ess.map some)).map _=_;rw [ml ess];rfl
variable {f:Tr->D->Option (List D)}
theorem rA {k:Nat} {c:D} {o:Option (List D)} (h1:ts[k]?=some t) (h2:cs[k]?=some c) (h3:(eA f ts cs)[k]?=some o):o=f t c:=by unfold eA at h3;rw [List.getElem?_map,(List.getElem?_zip_eq_some (z:=(t,c))).mpr ⟨h1,h2⟩] at h3;cases h3;rfl
theorem rC (h:ts.length=cs.length):(eA f ts cs).length=ts.length:=by unfold eA;rw [List.length_map,List.length_zip];omega
theorem rD (hf:∀ t c es,f t c=some es->es.length<=12 * a8 t):∀ {ts:List Tr} {cs:List D} {ess:List (List D)},ts.length=cs.length->eA f ts cs=ess.map some->ess.flatten.length<=12 * (ts.map a8).sum
 | [],[],ess,_,h=>by
  have:ess=[]:=by cases ess with | nil=>rfl | cons _ _=>cases h
  subst this;simp
 | t::ts,c::cs,ess,hl,h=>by
  cases ess with
  | nil=>cases h
  | cons x ess =>have h':f t c::eA f ts cs=some x::ess.map some:=h;injection h' with h1 h2;have i1:=hf t c x h1;have i2:=rD hf (ts:=ts) (cs:=cs) (by simpa using hl) h2;rw [List.flatten_cons,List.length_append,List.map_cons,List.sum_cons];omega
 | [],c::cs,_,h,_=>by simp at h
 | t::ts,[],_,h,_=>by simp at h
structure yF (ps:List Pc):Prop where
 ls:EV ps
 cl:∀ p ∈ ps,DO p (cF p)
theorem sC:∀ (p:Pa) (t:Tr) (f:Fnd),cH p t=some f->(f.1.map a8).sum<=a8 t/\(gM p=true->(f.1.map a8).sum+1<=a8 t)
 | .hole i,t,f,h=>by cases h;exact ⟨by simp,λz=>nomatch z⟩
 | .gap i m,t,f,h=>by
  cases t with
  | num n =>
   have h':(if n<=m then some ([],[n],[]) else none:Option Fnd)=some f:=h;by_cases z:n<=m
   ·rw [if_pos z] at h';cases h';exact ⟨by simp,λ_=>by simp [a8]⟩
   ·rw [if_neg z] at h';cases h'
  | _=>cases h
 | .slot i,t,f,h=>by
  cases t with
  | arg n=>cases h;exact ⟨by simp,λ_=>by simp [a8]⟩
  | _=>cases h
 | .num m,t,f,h=>by
  cases t with
  | num n =>
   have h':(if n=m then some ([],[],[]) else none:Option Fnd)=some f:=h;by_cases z:n=m
   ·rw [if_pos z] at h';cases h';exact ⟨by simp,λ_=>by simp [a8]⟩
   ·rw [if_neg z] at h';cases h'
  | _=>cases h
 | .two o a b,t,f,h=>by
  cases t with
  | two o' u v =>
   obtain ⟨_,f1,f2,e1,e2,e3⟩:=eJ h;subst e3;have h1:=(sC a u f1 e1).1;have h2:=(sC b v f2 e2).1;have e:((f1.1++f2.1).map a8).sum=(f1.1.map a8).sum+(f2.1.map a8).sum:=by simp
   refine ⟨?_,λ_=>?_⟩
   ·show ((f1.1++f2.1).map a8).sum<=_;simp only [a8];omega
   ·show ((f1.1++f2.1).map a8).sum+1<=_;simp only [a8];omega
  | _=>cases h
theorem dS {p:Pc} (h:iX nm ps=some p):p ∈ ps/\p.nm=nm:=by unfold iX at h;have h0:decide (p.nm=nm)=true:=List.find?_some (p:=λp:Pc=>decide (p.nm=nm)) h;exact ⟨List.mem_of_find?_eq_some h,of_decide_eq_true h0⟩
theorem o5 (h:iX nm ps=none):∀ p ∈ ps,p.nm≠nm:=λp hp e=>by unfold iX at h;rw [List.find?_eq_none] at h;exact absurd (decide_eq_true e) (h p hp)
theorem gK (h:fP f ps t nm cs=some es):∃ p g ess,iX nm ps=some p/\cH p.pt t=some g/\g.1.length=cs.length/\eA f g.1 cs=ess.map some/\es=cT ess g (cF p):=by
 unfold fP at h
 cases e1:iX nm ps with
 | none=>rw [e1] at h;cases h
 | some p =>
  rw [e1] at h;dsimp only at h
  cases e2:cH p.pt t with
  | none=>rw [e2] at h;cases h
  | some g =>
   rw [e2] at h;dsimp only at h;by_cases hl:g.1.length=cs.length
   ·rw [if_pos hl] at h
    cases ha:(eA f g.1 cs).any Option.isNone with
    | true=>rw [jE ha] at h;cases h
    | false =>obtain ⟨ess,e⟩:=k8 ha;rw [e,ml] at h;cases h;exact ⟨p,g,ess,rfl,e2,hl,e,rfl⟩
   ·rw [if_neg hl] at h;cases h
theorem gL (h:jd f t cs=some es):∃ a b d ca cb cd xa xb xd,t=.pick a b d/\cs=[ca,cb,cd]/\f a ca=some xa/\f b cb=some xb/\f d cd=some xd/\es=eU xa xb xd:=by
 cases t with
 | pick a b d =>
  have h:(if cs.length=3 then (kz (eA f [a,b,d] cs)).bind yG else none)=some es:=h;by_cases hl:cs.length=3
  ·rw [if_pos hl] at h
   match cs,hl with
   | [ca,cb,cd],_ =>
    have e:eA f [a,b,d] [ca,cb,cd]=[f a ca,f b cb,f d cd]:=rfl;rw [e] at h
    cases ea:f a ca with
    | none=>rw [ea] at h;cases h
    | some xa =>
     cases eb:f b cb with
     | none=>rw [ea,eb] at h;cases h
     | some xb =>
      cases ed:f d cd with
      | none=>rw [ea,eb,ed] at h;cases h
      | some xd =>rw [ea,eb,ed] at h;have h:some (eU xa xb xd)=some es:=h;cases h;exact ⟨a,b,d,ca,cb,cd,xa,xb,xd,rfl,rfl,ea,eb,ed,rfl⟩
  ·rw [if_neg hl] at h;cases h
 | _=>cases h
theorem iM (ok:∀ p ∈ ps,wD p):∀ (n:Nat) (t:Tr) (c:D) (es:List D),cJ ps n t c=some es->es.length<=12 * a8 t
 | 0,_,_,_,h=>by cases h
 | n+1,t,c,es,h=>by
  have h:(match gJ c with | none=>none | some x=>if x.1="pick" then jd (cJ ps n) t x.2 else fP (cJ ps n) ps t x.1 x.2)=some es:=h
  cases ec:gJ c with
  | none=>rw [ec] at h;cases h
  | some x =>
   rw [ec] at h;dsimp only at h;by_cases hp:x.1="pick"
   ·rw [if_pos hp] at h;obtain ⟨a,b,d,ca,cb,cd,xa,xb,xd,rfl,_,la,lb,ld,rfl⟩:=gL h;have h1:=iM ok n a ca xa la;have h2:=iM ok n b cb xb lb;have h3:=iM ok n d cd xd ld;have k1:=mD 8 9 xd.length;have k2:=mD 10 11 (xb++eK 8 9 xd.length).length;have j1:=AC (xd.length:Int);have j2:=AC ((xb++eK 8 9 xd.length).length:Int);have ll:(eU xa xb xd).length=xa.length+(eK 10 11 (xb++eK 8 9 xd.length).length).length+(xb.length+(eK 8 9 xd.length).length)+xd.length:=by unfold eU;simp only [List.length_append]
    simp only [a8];omega
   ·rw [if_neg hp] at h;obtain ⟨p,g,ess,e1,e2,hl,e,rfl⟩:=gK h;have okp:=ok p (dS e1).1;have h1:=rD (iM ok n) hl e;have h2:=(sC _ _ _ e2).2 okp.nh;have h3:=okp.cs;have z:(cT ess g (cF p)).length=ess.flatten.length+p.cs.length:=by unfold cT cF;rw [List.length_append,List.length_map,List.length_map]
    omega
theorem my {p:Pa} (h:gM p=true) (a b c:Tr):cH p (.pick a b c)=none:=by
 cases p with
 | hole i=>cases h
 | _=>rfl
theorem pP {g:Tr->D->Bool} (h:∀ t c,g t c=(f t c).isSome):∀ (ts:List Tr) (cs:List D),(jf g ts cs).all id=!(eA f ts cs).any Option.isNone
 | [],cs=>by cases cs <;> rfl
 | t::ts,[]=>rfl
 | t::ts,c::cs=>by have ih:=pP h ts cs;show (id (g t c) && (jf g ts cs).all id)=!((f t c).isNone || (eA f ts cs).any Option.isNone);rw [ih,id,h t c];cases f t c <;> cases (eA f ts cs).any Option.isNone <;> rfl
theorem nS (os:List (Option (List D))):(kz os).isSome=!os.any Option.isNone:=by
 cases h:os.any Option.isNone with
 | true=>rw [jE h];rfl
 | false=>obtain ⟨ess,rfl⟩:=k8 h;rw [ml];rfl
theorem vU (hpk:jM t=false) (nd:(ps.map (·.nm)).Nodup) (nm:Str):(fW ps t).find? (λw=>decide (w.nm=nm))=(iX nm ps).bind (jt t):=by
 unfold fW iX;rw [if_neg (by rw [hpk];exact Bool.false_ne_true)]
 induction ps with
 | nil=>rfl
 | cons p ps ih =>
  rw [List.map_cons,List.nodup_cons] at nd;have ih:=ih nd.2;by_cases e:p.nm=nm
  ·have hn:ps.find? (λp=>decide (p.nm=nm))=none:=by
    rw [List.find?_eq_none];intro q hq z;exact nd.1 (List.mem_map.mpr ⟨q,hq,by rw [e];exact of_decide_eq_true z⟩)
   rw [hn] at ih;rw [List.find?_cons,decide_eq_true e];show _=jt t p;rw [List.filterMap_cons]
   cases hf:jt t p with
   | none=>exact ih
   | some w =>
    have ew:w.nm=nm:=by
     unfold jt at hf
     cases hg:cH p.pt t with
     | none=>rw [hg] at hf;cases hf
     | some g=>rw [hg] at hf;cases hf;exact e
    show List.find? _ (w::_)=_;rw [List.find?_cons,decide_eq_true ew]
  ·rw [List.find?_cons,decide_eq_false e];show _=(ps.find? λp=>decide (p.nm=nm)).bind (jt t);rw [<- ih,List.filterMap_cons]
   cases hf:jt t p with
   | none=>rfl
   | some w =>
    have ew:¬ w.nm=nm:=by
     unfold jt at hf
     cases hg:cH p.pt t with
     | none=>rw [hg] at hf;cases hf
     | some g=>rw [hg] at hf;cases hf;exact e
    show List.find? _ (w::_)=_;rw [List.find?_cons,decide_eq_false ew]
theorem sk (nd:(ps.map (·.nm)).Nodup) (ok:∀ p ∈ ps,wD p):∀ (n:Nat) (t:Tr) (c:D),gX ps n t c=(cJ ps n t c).isSome
 | 0,_,_=>rfl
 | n+1,t,c=>by
  show (match gJ c with | none=>false | some x=>match (fW ps t).find? λw=>decide (w.nm=x.1) with | none=>false | some w=>jG (gX ps n) w.ts x.2)=(match gJ c with | none=>none | some x=>if x.1="pick" then jd (cJ ps n) t x.2 else fP (cJ ps n) ps t x.1 x.2).isSome
  cases ec:gJ c with
  | none=>rfl
  | some x =>
   obtain ⟨nm,cs⟩:=x;dsimp only;have ih:=sk nd ok n;by_cases hpk:jM t=true
   ·cases t with
    | pick a b d =>
     rw [B2,List.find?_cons];by_cases hp:nm="pick"
     ·subst hp;rw [decide_eq_true rfl,if_pos rfl];show jG (gX ps n) [a,b,d] cs=(if cs.length=3 then (kz (eA (cJ ps n) [a,b,d] cs)).bind yG else none).isSome;unfold jG;rw [pP ih];by_cases hl:cs.length=3
      ·rw [if_pos hl,decide_eq_true (show [a,b,d].length=cs.length by rw [hl];rfl),Bool.true_and,<- nS]
       match cs,hl with
       | [ca,cb,cd],_ =>show (kz [cJ ps n a ca,cJ ps n b cb,cJ ps n d cd]).isSome=((kz [cJ ps n a ca,cJ ps n b cb,cJ ps n d cd]).bind yG).isSome;cases cJ ps n a ca <;> cases cJ ps n b cb <;> cases cJ ps n d cd <;> rfl
      ·rw [if_neg hl,decide_eq_false (λz=>hl (by rw [<- z];rfl))];rfl
     ·rw [decide_eq_false (λz=>hp z.symm),if_neg hp];show false=(fP (cJ ps n) ps (.pick a b d) nm cs).isSome;unfold fP
      cases e1:iX nm ps with
      | none=>rfl
      | some p=>dsimp only;rw [my (ok p (dS e1).1).nh];rfl
    | _=>cases hpk
   ·have hpk:jM t=false:=by simpa using hpk
    rw [vU hpk nd];by_cases hp:nm="pick"
    ·rw [if_pos hp]
     have hn:iX nm ps=none:=by
      cases e1:iX nm ps with
      | none=>rfl
      | some p=>have z:=dS e1;exact absurd (z.2.trans hp) (ok p z.1).nm
     rw [hn]
     cases t with
     | pick a b d=>cases hpk
     | _=>rfl
    ·rw [if_neg hp];unfold fP
     cases e1:iX nm ps with
     | none=>rfl
     | some p =>
      show (match jt t p with | none=>false | some w=>jG (gX ps n) w.ts cs)=_;dsimp only;unfold jt
      cases e2:cH p.pt t with
      | none=>rfl
      | some g =>
       show jG (gX ps n) g.1 cs=(if g.1.length=cs.length then (kz (eA (cJ ps n) g.1 cs)).map (λxss=>cT xss g (cF p)) else none).isSome;unfold jG;rw [pP ih];by_cases hl:g.1.length=cs.length
       ·rw [if_pos hl,decide_eq_true hl,Bool.true_and,<- nS,Option.isSome_map]
       ·rw [if_neg hl,decide_eq_false hl];rfl
def lJ (n:Nat) (as:List Ar) (o:Option (List D)):Prop:=∃ (ps:List Pc) (t:Tr) (c:D),as=[.d (toD t),.l (ps.map pcD),.d c]/\jy ps/\yF ps/\okT t/\a9 t<=n/\n<=8/\a8 t<=40/\uW n c=true/\o=cJ ps n t c
noncomputable def ED (c:D):Bool:=!lZ c "tuple" || (match c with | .tup ds=>!decide ((ds.length:Int)=2) || !lZ (ds.getD 1 .non) "tuple" | _=>true)
theorem uz (c:D) (h:uW (n+1) c=true):ED c=(gJ c).isNone:=by
 unfold ED
 match c,h with
 | .tup [.str nm,.tup cs],_=>rfl
 | .tup [],_=>rfl
 | .tup [x],_=>cases x <;> rfl
 | .tup (x::y::z::r),_ =>
  have e:(gJ (.tup (x::y::z::r))).isNone=true:=by cases x <;> cases y <;> rfl
  rw [e];show (false || (!decide (((x::y::z::r).length:Int)=2) || _))=true;have d:decide (((x::y::z::r).length:Int)=2)=false:=decide_eq_false (by simp only [List.length_cons];omega);rw [d];rfl
 | .tup [x,.non],_=>cases x <;> rfl
 | .tup [x,.bl _],_=>cases x <;> rfl
 | .tup [x,.int _],_=>cases x <;> rfl
 | .tup [x,.str _],_=>cases x <;> rfl
 | .tup [x,.lst],_=>cases x <;> rfl
 | .tup [.non,.tup cs],h=>cases h
 | .tup [.bl _,.tup cs],h=>cases h
 | .tup [.int _,.tup cs],h=>cases h
 | .tup [.tup _,.tup cs],h=>cases h
 | .tup [.lst,.tup cs],h=>cases h
 | .non,_=>rfl
 | .bl _,_=>rfl
 | .int _,_=>rfl
 | .str _,_=>rfl
 | .lst,_=>rfl
theorem qV {c:D} {x:Str × List D} (h:gJ c=some x):c=.tup [.str x.1,.tup x.2]:=by
 unfold gJ at h;split at h
 ·cases h;rfl
 ·cases h
theorem C0 (h:uW (n+1) (.tup [.str nm,.tup cs])=true):∀ c ∈ cs,uW n c=true:=λc hc=>by have h:(true && cs.all (uW n))=true:=h;rw [Bool.true_and] at h;exact List.all_eq_true.mp h c hc
theorem uZ (T:Txt P w K mg) (Jg:Ok P w base k T.HI (zm K (lJ n))) (JK:Ok P w base k T.Iz (jC K rY)) (Ii:Ok P w base k T.Hs (kX K oL 3)) (Kj:Ok P w base k T.IW (kr K vY)):Ok P w base (k+1) T.HI (zm K (lJ (n+1))):=by
 refine T.HI.f.ok sc__law_lay (λvs H Q E h=>?_) (λcdv A outer s H vs Q E hr h=>?_)
 ·obtain ⟨as,o,hd,⟨ps,t,c,rfl,_⟩,_⟩:=h;exact hd.length.symm
 have nd:=sc__law_lay.nd;obtain ⟨as,o,hd,⟨ps,t,c,rfl,okS,laS,okt,dpt,n8,szt,okc,rfl⟩,post0,post1⟩:=h;obtain ⟨v0,v1,v2,rfl,h0,h1,h2⟩:=um hd;have h0:Dat K H (toD t) v0:=h0;have h1:LD K H (ps.map pcD) v1:=h1;have h2:Dat K H c v2:=h2;refine ⟨_,(aG (bL (PW.pt (dW (cQ (bQ (a6 (eZ jc) rfl T.GM cG (cM (pv 2) (cM (fY (v:=.ty "tuple") rfl T.Hl dB rfl) aC))) (λ_=>rfl))) (dW (aN ki (a6 aX rfl T.GO bU (aD (pv 2) aC)) aE (aU _)) (dY (cQ (bQ (a6 (eZ jc) rfl T.GM cG (cM (aT aV (pv 2) aE) (cM (fY (v:=.ty "tuple") rfl T.Hl dB rfl) aC))) (λ_=>rfl))))))) (aI (aQ fJ)) aW)
 (aG (bL (aN bY (aT aV (pv 2) aE) aP (aU _)) (aG (bL (PW.pt (dW (aN ki (aT aV (pv 0) aE) aP (aU _)) (dY (aN ki (a6 aX rfl T.GO bU (aD (aT aV (pv 2) aE) aC)) aE (aU _))))) (aI (aQ fJ)) aW)
 (aG (jk (i:=3) (own:=["_law_one","_law_inner"]) (fr:=[1]) (N':=["_law_one","_law_inner","_law_some"]) (tQ rfl T.J5 (aD (ji nO (pv 0) (i4 aE) mK) (aD (aT aV (pv 2) aE) aC))) rfl (by show cZ ["_law_tree_here","_law_some","_law_cover","_law_three","_law_last","_law_named","_law_found","_law_holes","_law_made","_law_cells"] (λx=>(aO jl).names.lookup x) _ _ _ _=true;decide +kernel) rfl (λ_ _ _ _ _=>(mJ (K:=K) (n:=2) rfl rfl (bM (a7 (i:=0) (by show List.Nodup [("_law_one":Str),("_law_inner":Str),("_law_some":Str)];decide +kernel) rfl (Or.inl rfl)) (bM (a7 (i:=1) (by show List.Nodup [("_law_one":Str),("_law_inner":Str),("_law_some":Str)];decide +kernel) rfl (Or.inl rfl)) dF)))) (λ_ _ _ _ _=>cO) (λ_ _ _ _ _=>(pc (D:=T.HI) Jg hr (aD (pv 0) (aD (pv 2) (aD (pv 1) aC))))) nd rfl rfl rfl)
 (aG (bL (aN (xY hr) fJ (pv 3) (by with_unfolding_all rfl)) (aI (aQ fJ)) aW)
 (aG (bT (i:=4) nd rfl (Or.inl rfl) (bO eV (aT bP (pv 3) aE) (pc (D:=T.Iz) JK hr (aD aE (aD aE (aD (a6 aX rfl T.GO bU (aD (aT bP (pv 3) aE) aC)) aC))))))
 (aI (aQ (bO eV (bO eV (bO eV (aT bP (pv 3) aE) (pc (D:=T.Iz) JK hr (aD aE (aD aE (aD (a6 aX rfl T.GO bU (aD (pv 4) aC)) aC))))) (pv 4)) (aT bP (pv 3) aE)))))))) aW)
 (aG (nE (i:=5) (j:=6) rfl nd rfl rfl (by decide) rfl rfl (aD (dE (own:=["_law_piece"]) (fr:=[2]) (N':=["_law_piece","_law_cover"]) (fK (pv 1)) rfl (by show cZ ["_law_tree_here","_law_some","_law_cover","_law_three","_law_last","_law_named","_law_found","_law_holes","_law_made","_law_cells"] (λx=>(aO jl).names.lookup x) _ _ _ _=true;decide +kernel) rfl (λ_ _ _ _ _=>(a7 (i:=0) (by show List.Nodup [("_law_piece":Str),("_law_cover":Str)];decide +kernel) rfl (Or.inl rfl))) (λ_ _ _ _ _=>(pR (aN bY (aT (r:=mN K) aV (pv 0) aE) (aT (r:=mN K) aV (pv 1) aE) (aU _)))) (λ_ _ _ _ _=>(pv 0))) (aD (bR (aD (bR aC) (aD (bR aC) (aD (bR aC) aC)))) aC)) (by kernel_rfl))
 (aG (bL (PW.pt (dW (aN (pO hr) (pv 5) (bR aC) (aU _)) (dW (cQ (bQ (pc (D:=T.Hs) Ii hr (aD (aT aV (aT bP (pv 5) aE) aE) (aD (pv 0) (aD (pv 6) aC)))) (λ_=>rfl))) (dY (aN ki (a6 aX rfl T.GO bU (aD (aT bP (pv 6) aE) aC)) (a6 aX rfl T.GO bU (aD (aT aV (pv 2) aE) aC)) (aU _)))))) (aI (aQ fJ)) aW)
 (aG (jk (i:=7) (own:=["_law_one","_law_inner"]) (fr:=[1]) (N':=["_law_one","_law_inner","_law_some"]) (Dh rfl T.J5 (aD (aT bP (pv 6) aE) (aD (aT aV (pv 2) aE) aC))) rfl (by show cZ ["_law_tree_here","_law_some","_law_cover","_law_three","_law_last","_law_named","_law_found","_law_holes","_law_made","_law_cells"] (λx=>(aO jl).names.lookup x) _ _ _ _=true;decide +kernel) rfl (λ_ _ _ _ _=>(mJ (K:=K) (n:=2) rfl rfl (bM (a7 (i:=0) (by show List.Nodup [("_law_one":Str),("_law_inner":Str),("_law_some":Str)];decide +kernel) rfl (Or.inl rfl)) (bM (a7 (i:=1) (by show List.Nodup [("_law_one":Str),("_law_inner":Str),("_law_some":Str)];decide +kernel) rfl (Or.inl rfl)) dF)))) (λ_ _ _ _ _=>cO) (λ_ _ _ _ _=>(pc (D:=T.HI) Jg hr (aD (pv 0) (aD (pv 2) (aD (pv 1) aC))))) nd rfl rfl rfl)
 (aG (bL (aN (xY hr) fJ (pv 7) (by with_unfolding_all rfl)) (aI (aQ fJ)) aW)
 (aG (bT (i:=8) nd rfl (Or.inl rfl) (bR aC))
 (aG (iV PassesOwn.never rfl (fK (pv 7)) (a7 (i:=9) nd rfl (Or.inl rfl)) (aI (bT (i:=8) nd rfl (Or.inl rfl) (bO eV (pv 8) (pv 9)))))
 (aI (aQ (bO eV (pv 8) (pc (D:=T.IW) Kj hr (aD (aT aV (aT bP (pv 5) aE) aE) (aD (aT bP (pv 6) aE) (aD (aT bP (pv 6) aE) aC))))))))))))))),?_⟩
 refine aS (K:=K) (b:=ED c) ?_ (λcn H1 s1=>?_) (λcs H1 s1=>?_)
 ·cases c with
  | tup ds =>
   by_cases hl:(ds.length:Int)=2
   ·obtain ⟨x,y,rfl⟩:∃ x y,ds=[x,y]:=by
     match ds,hl with
     | [x,y],_=>exact ⟨x,y,rfl⟩
     | [],hl=>simp at hl
     | [x],hl=>simp at hl
     | x::y::z::r,hl=>simp only [List.length_cons] at hl;omega
    exact RT.as (cI (bS (bE (bZ (aA (k:=2) h2)))) λ_=>cI (aJ (iA (dN (aA (k:=2) h2)) aF)) λ_=>bS (bE (bZ (aY (k:=1) (aA (k:=2) h2) aF rfl)))) rfl
   ·refine RT.as (cI (bS (bE (bZ (aA (k:=2) h2)))) λ_=>cI (c:=true) (aJ (iA (dN (aA (k:=2) h2)) aF)) λz=>?_) ?_
    ·rw [decide_eq_false hl] at z;cases z
    ·show (false || (!decide ((ds.length:Int)=2) || true))=(false || (!decide ((ds.length:Int)=2) || _))
     rw [decide_eq_false hl];rfl
  | non=>exact RT.as (cI (c:=true) (bS (bE (bZ (aA (k:=2) h2)))) λz=>nomatch z) rfl
  | bl y=>exact RT.as (cI (c:=true) (bS (bE (bZ (aA (k:=2) h2)))) λz=>nomatch z) rfl
  | int i=>exact RT.as (cI (c:=true) (bS (bE (bZ (aA (k:=2) h2)))) λz=>nomatch z) rfl
  | str y=>exact RT.as (cI (c:=true) (bS (bE (bZ (aA (k:=2) h2)))) λz=>nomatch z) rfl
  | lst=>exact RT.as (cI (c:=true) (bS (bE (bZ (aA (k:=2) h2)))) λz=>nomatch z) rfl
 ·rw [uz c okc] at cn;have e:gJ c=none:=by cases e:gJ c with | none=>rfl | some _=>rw [e] at cn;cases cn
  have e0:cJ ps (n+1) t c=none:=by show (match gJ c with | none=>none | some x=>_)=none;rw [e]
  exact bF (K:=K) (d:=.non) kP λv G s q=>by rw [q.nonE];exact post0 e0 G (s1.trans s)
 rw [uz c okc] at cs
 obtain ⟨nm,cv,rfl⟩:∃ nm cv,c=.tup [.str nm,.tup cv]:=by
  cases e:gJ c with
  | none=>rw [e] at cs;cases cs
  | some x=>exact ⟨x.1,x.2,qV e⟩
 have eL:cJ ps (n+1) t (.tup [.str nm,.tup cv])=if nm="pick" then jd (cJ ps n) t cv else fP (cJ ps n) ps t nm cv:=rfl;have okcs:=C0 okc;rw [eL] at post0 post1
 have l900:∀ es,(if nm="pick" then jd (cJ ps n) t cv else fP (cJ ps n) ps t nm cv)=some es->es.length<=900:=λes e=>by rw [<- eL] at e;have:=iM okS.ok (n+1) t _ es e;omega
 by_cases hp:nm="pick"
 ·subst hp;rw [if_pos rfl] at post0 post1 l900;refine aS (K:=K) (b:=true) (RT.as (aJ (bI (aY (k:=0) (aA (k:=2) (s1.dat h2)) aF rfl) aK)) (decide_eq_true rfl)) (λ_ H2 s2=>?_) (λc=>nomatch c);have s12:=s1.trans s2;obtain ⟨kd,r,ek,hpk,hcall,hkids⟩:=uK t okt;have h0':Dat K H (.tup (.str kd::r)) v0:=by rw [<- ek];exact h0
  have t1:RT (vQ (tOp rNe (tOp (mN K) (hW 0) (tC (.int 0))) (tC (.str "pick")))) (f7 ["_law_tree_here","_law_some","_law_cover","_law_three","_law_last","_law_named","_law_found","_law_holes","_law_made","_law_cells"] [v0,v1,v2]) H2 (!jM t):=RT.as (aJ (tU (aY (k:=0) (aA (k:=0) (s12.dat h0')) aF rfl) aK)) (by rw [hpk]);have t2:RT (vQ (tOp rNe (tCB (λxs H Q=>∃ p ys,xs=[.ref p]/\(SqL K H p ys\/SqT K H p ys)/\Q (.int ys.length) H) (cE (tOp (mN K) (hW 2) (tC (.int 1))) eG)) (tC (.int 3)))) (f7 ["_law_tree_here","_law_some","_law_cover","_law_three","_law_last","_law_named","_law_found","_law_holes","_law_made","_law_cells"] [v0,v1,v2]) H2 (!decide ((cv.length:Int)=3)):=aJ (iA (dN (aY (k:=1) (aA (k:=2) (s12.dat h2)) aF rfl)) aF);by_cases hpt:jM t=true
  ·cases t with
   | pick a b d =>
    have h0:Dat K H (.tup [.str "pick",toD a,toD b,toD d]) v0:=h0;by_cases h3:cv.length=3
    ·match cv,h3 with
     | [ca,cb,cd],_ =>
      refine aS (K:=K) (b:=false) (RT.as (cI (RT.as t1 (c:=false) rfl) λ_=>t2) rfl) (λc=>nomatch c) (λ_ H3 s3=>?_);have s13:=s12.trans s3;have da:a9 a<=n:=by simp only [a9] at dpt;omega
      have db:a9 b<=n:=by simp only [a9] at dpt;omega
      have dd:a9 d<=n:=by simp only [a9] at dpt;omega
      have za:a8 a<=40:=by simp only [a8] at szt;omega
      have zb:a8 b<=40:=by simp only [a8] at szt;omega
      have zd:a8 d<=40:=by simp only [a8] at szt;omega
      refine eF (RCO.use (K:=K) (Dp (cs:=[toD a,toD b,toD d]) (ds:=[ca,cb,cd]) (aB (jR (aA (k:=0) (s13.dat h0))) (aB (aY (k:=1) (aA (k:=2) (s13.dat h2)) aF rfl) aL)) rfl (by simp) [cJ ps n a ca,cJ ps n b cb,cJ ps n d cd] rfl (by decide) rfl (λG j x y z v w sG hx hy hz hv hw=>?_)) λl ys H4 hl s4 hy dy=>?_)
      ·have hL:=(s13.trans sG).ld h1
       match j,hx,hy,hz with
       | 0,hx,hy,hz=>cases hx;cases hy;cases hz;exact kQ (R:=lJ n) (eE (aA (k:=0) hv) (fF (bA (k:=2) hL) (eE (aA (k:=1) hw) cU))) ⟨ps,a,ca,rfl,okS,laS,okt.1,da,by omega,za,okcs _ (by simp),rfl⟩
       | 1,hx,hy,hz=>cases hx;cases hy;cases hz;exact kQ (R:=lJ n) (eE (aA (k:=0) hv) (fF (bA (k:=2) hL) (eE (aA (k:=1) hw) cU))) ⟨ps,b,cb,rfl,okS,laS,okt.2.1,db,by omega,zb,okcs _ (by simp),rfl⟩
       | 2,hx,hy,hz=>cases hx;cases hy;cases hz;exact kQ (R:=lJ n) (eE (aA (k:=0) hv) (fF (bA (k:=2) hL) (eE (aA (k:=1) hw) cU))) ⟨ps,d,cd,rfl,okS,laS,okt.2.2,dd,by omega,zd,okcs _ (by simp),rfl⟩
       | j+3,hx,hy,hz=>cases hx
      have s14:=s13.trans s4;have e3:jd (cJ ps n) (.pick a b d) [ca,cb,cd]=(kz [cJ ps n a ca,cJ ps n b cb,cJ ps n d cd]).bind yG:=rfl;rw [e3] at post0 post1 l900;generalize cJ ps n a ca=oa at dy post0 post1 l900;generalize cJ ps n b cb=ob at dy post0 post1 l900;generalize cJ ps n d cd=od at dy post0 post1 l900;refine aS (K:=K) (b:=[oa,ob,od].any Option.isNone) (aJ (yf (k:=3) hy dy)) (λcN H5 s5=>?_) (λcS H5 s5=>?_)
      ·have e0:(kz [oa,ob,od]).bind yG=none:=by rw [jE cN];rfl
       exact bF (K:=K) (d:=.non) kP λv G s q=>by rw [q.nonE];exact post0 e0 G ((s14.trans s5).trans s)
      ·cases oa with
       | none=>cases cS
       | some xa =>
        cases ob with
        | none=>cases cS
        | some xb =>
         cases od with
         | none=>cases cS
         | some xd =>
          have dy:LDs K H4 [xa,xb,xd] ys:=LOs.all dy;have l900:(eU xa xb xd).length<=900:=l900 _ rfl;have ll:(eU xa xb xd).length=xa.length+(eK 10 11 (xb++eK 8 9 xd.length).length).length+(xb.length+(eK 8 9 xd.length).length)+xd.length:=by unfold eU;simp only [List.length_append]
          have post1:∀ es,some (eU xa xb xd)=some es->_:=post1;have hy5:=s5 _ _ hy;have dy5:=s5.lds dy;refine iG (K:=K) (es:=xb++eK 8 9 xd.length) (eY (oM (k:=3) (j:=1) hy5 dy5 aF rfl) (gE (j4 (R:=rY) (aB aF (aB aF (aB (d5 (oM (k:=3) (j:=2) (es:=xd) hy5 dy5 aF rfl)) aL))) ⟨8,9,_,rfl,rfl⟩)) (by show xb.length+(eK 8 9 xd.length).length<=1000;omega)) λl2 zs H6 hl2 s6 hz dz=>?_;have hy6:=s6 _ _ hy5;have dy6:=s6.lds dy5;have hL6:LD K H6 (xb++eK 8 9 xd.length) (.ref l2):=LD.of hz dz;have lx:(xb++eK 8 9 xd.length).length=xb.length+(eK 8 9 xd.length).length:=List.length_append;refine hU (RC.use (K:=K) (es:=eU xa xb xd) (eY (gE (eY (gE (eY (oM (k:=3) (j:=0) hy6 dy6 aF rfl) (gE (j4 (R:=rY) (aB aF (aB aF (aB (d5 (bA (k:=4) hL6)) aL))) ⟨10,11,_,rfl,rfl⟩)) (by show xa.length+(eK 10 11 _).length<=1000;omega))) (bA (k:=4) hL6) ?_)) (oM (k:=3) (j:=2) hy6 dy6 aF rfl) ?_) λl3 us H7 hl3 s7 hu du=>post1 _ rfl l3 us H7 (s14.trans (s5.trans (s6.trans s7))) hu ((s14.trans (s5.trans s6)).free hl3) du)
          ·show (xa++eK 10 11 (xb++eK 8 9 xd.length).length).length+(xb++eK 8 9 xd.length).length<=1000;have e1:(xa++eK 10 11 (xb++eK 8 9 xd.length).length).length=xa.length+(eK 10 11 (xb++eK 8 9 xd.length).length).length:=List.length_append;omega
          ·show (xa++eK 10 11 (xb++eK 8 9 xd.length).length++(xb++eK 8 9 xd.length)).length+xd.length<=1000;have e1:(xa++eK 10 11 (xb++eK 8 9 xd.length).length).length=xa.length+(eK 10 11 (xb++eK 8 9 xd.length).length).length:=List.length_append;have e2:(xa++eK 10 11 (xb++eK 8 9 xd.length).length++(xb++eK 8 9 xd.length)).length=(xa++eK 10 11 (xb++eK 8 9 xd.length).length).length+(xb++eK 8 9 xd.length).length:=List.length_append;omega
    ·refine aS (K:=K) (b:=true) (RT.as (cI (RT.as t1 (c:=false) rfl) λ_=>t2) (by rw [decide_eq_false (by omega)];rfl)) (λ_ H3 s3=>?_) (λc=>nomatch c)
     have e0:jd (cJ ps n) (.pick a b d) cv=none:=by show (if cv.length=3 then _ else none)=none;rw [if_neg h3]
     exact bF (K:=K) (d:=.non) kP λv G s q=>by rw [q.nonE];exact post0 e0 G ((s12.trans s3).trans s)
   | _=>cases hpt
  ·have hpt:jM t=false:=by simpa using hpt
   refine aS (K:=K) (b:=true) (RT.as (cI (c:=true) (RT.as t1 (c:=true) (by rw [hpt];rfl)) λz=>nomatch z) rfl) (λ_ H3 s3=>?_) (λc=>nomatch c)
   have e0:jd (cJ ps n) t cv=none:=by
    cases t with
    | pick a b d=>cases hpt
    | _=>rfl
   exact bF (K:=K) (d:=.non) kP λv G s q=>by rw [q.nonE];exact post0 e0 G ((s12.trans s3).trans s)
 ·rw [if_neg hp] at post0 post1 l900;refine aS (K:=K) (b:=false) (RT.as (aJ (bI (aY (k:=0) (aA (k:=2) (s1.dat h2)) aF rfl) aK)) (decide_eq_false hp)) (λc=>nomatch c) (λ_ H2 s2=>?_);have s12:=s1.trans s2;have few:=okS.few;refine c9 (dH (RC.use (K:=K) (ye (bA (k:=1) (s12.ld h1)) (by rw [List.length_map];omega) (AM nm) rfl (λG j c v sG hc hv=>?_)) λl ys H3 hl s3 hy dy=>dH (Bh λfa l0 l1 l2 H4 N=>⟨_,_,rfl,?_⟩)))
  ·rw [List.getElem?_map] at hc
   cases hq:ps[j]? with
   | none=>rw [hq] at hc;cases hc
   | some q =>rw [hq] at hc;cases hc;exact ⟨aJ (bI (aY (k:=0) (aA (k:=0) (show Dat K G (.tup [.str q.nm,toP q.pt,.tup q.cs]) v from hv)) aF rfl) (aY (k:=0) (aA (k:=1) ((s12.trans sG).dat h2)) aF rfl)),aA (k:=0) hv⟩
  have s14:=(s12.trans s3).trans N.s;have hy4:=N.s _ _ hy;have dy4:=N.s.dats dy
  cases hf:iX nm ps with
  | none =>
   rw [ng (o5 hf)] at dy4;have e0:fP (cJ ps n) ps t nm cv=none:=by unfold fP;rw [hf]
   refine c9 (RT.use (b:=true) (RT.as (aJ (mP (K:=K) (k:=5) hy4 dy4 (by simp [noLs]) (by simp [deepDs]))) eI) λH5 s5=>jv (jv ?_));exact bF (K:=K) (d:=.non) kP λv G s q=>by rw [q.nonE];exact post0 e0 G ((s14.trans s5).trans s)
  | some p =>
   obtain ⟨hp',hnm⟩:=dS hf;subst hnm;have okp:=okS.ok p hp';have hcl:=laS.cl p hp';rw [o4 laS.ls.nd hp'] at dy dy4;have hn4:LD K H4 [pcD p] (.ref l):=LD.of hy4 dy4;have pl:=laS.ls.nl p hp';refine c9 (RT.use (b:=false) (RT.as (aJ (mP (K:=K) (k:=5) hy4 dy4 (by simp [noLs,pl.1]) (by simp only [deepDs];omega))) (eH _ _)) λH5 s5=>jN ?_);have N5:=N.mono s5;have s15:=s14.trans s5;refine D2 (K:=K) (j:=6) N5 okp.ok okt (by omega) okp.dp (aY (ds:=[.str p.nm,toP p.pt,.tup p.cs]) (k:=1) (iW (k:=0) (bA (k:=5) (s5.ld hn4)) aF rfl) aF rfl) (aA (k:=0) (s15.dat h0)) λH6 s6 full=>?_;have hz6:Same H H6:=(s12.trans s3).trans s6;refine ⟨_,rfl,?_⟩
   cases hft:cH p.pt t with
   | none =>
    have e0:fP (cJ ps n) ps t p.nm cv=none:=by unfold fP;rw [hf];dsimp only;rw [hft]
    refine jv (jv ?_);exact bF (K:=K) (d:=.non) kP λv G s q=>by rw [q.nonE];exact post0 e0 G (hz6.trans s)
   | some f =>
    refine jN ?_;have F6:=full f hft;have hn6:LD K H6 [pcD p] (.ref l):=s6.ld (LD.of hy dy)
    have few8:f.1.length<=8:=by
     by_cases hpk:jM t=true
     ·cases t with
      | pick a b c=>rw [my okp.nh] at hft;cases hft
      | _=>cases hpk
     ·have hw:=xp (ps:=ps) hp' (by simpa using hpk) hft;exact (uh okS.ok hw).1
    have h26:=hz6.dat h2;by_cases lt:f.1.length=cv.length
    ·have eP:fP (cJ ps n) ps t p.nm cv=(kz (eA (cJ ps n) f.1 cv)).map λxss=>cT xss f (cF p):=by unfold fP;rw [hf];dsimp only;rw [hft];dsimp only;rw [if_pos lt]
     rw [eP] at post0 post1 l900;refine RT.use (b:=false) (RT.as (aJ (iA (d5 (vI (K:=K) (k:=6) (v:=0) F6.hf F6.h0 aF rfl)) (dN (aY (k:=1) (aA (k:=2) h26) aF rfl)))) (by rw [List.length_map,lt,decide_eq_true rfl];rfl)) λH7 s7=>jN ?_;have F7:=F6.mono s7;have s17:=hz6.trans s7;refine eF (RCO.use (K:=K) (Bq (cs:=f.1.map toD) (ds:=cv) (fF (vI (k:=6) (v:=0) F7.hf F7.h0 aF rfl) (eE (aY (k:=1) (aA (k:=2) (s7.dat h26)) aF rfl) cU)) (by rw [List.length_map];exact lt) (by rw [List.length_map];omega) (eA (cJ ps n) f.1 cv) (by rw [List.length_map];exact rC lt) (by decide) rfl (λG j x y z v w sG hx hy hz hv hw=>?_)) λlh zs H8 hlh s8 hzs dzs=>?_)
     ·rw [List.getElem?_map] at hx
      cases hq:f.1[j]? with
      | none=>rw [hq] at hx;cases hx
      | some u =>rw [hq] at hx;cases hx;have tail:=jL okp.nh hft u (List.mem_of_getElem? hq);have du:=gQ tail;exact kQ (R:=lJ n) (eE (aA (k:=0) hv) (fF (bA (k:=2) ((s17.trans sG).ld h1)) (eE (aA (k:=1) hw) cU))) ⟨ps,u,y,rfl,okS,laS,fQ t u okt (iC tail),by omega,by omega,by omega,okcs _ (List.mem_of_getElem? hy),rA hq hy hz⟩
     refine aS (K:=K) (b:=(eA (cJ ps n) f.1 cv).any Option.isNone) (aJ (yf (k:=7) hzs dzs)) (λcN H9 s9=>?_) (λcS H9 s9=>?_)
     ·have e0:(kz (eA (cJ ps n) f.1 cv)).map (λxss=>cT xss f (cF p))=none:=by rw [jE cN];rfl
      exact bF (K:=K) (d:=.non) kP λv G s q=>by rw [q.nonE];exact post0 e0 G ((s17.trans (s8.trans s9)).trans s)
     ·obtain ⟨xss,exs⟩:=k8 cS;rw [exs] at dzs;rw [exs,ml] at post0 post1 l900;have dzs:LDs K H8 xss zs:=LOs.all dzs;generalize cF p=cl at post1 l900 hcl;have l900:(cT xss f cl).length<=900:=l900 _ rfl
      have lle:xss.flatten.length+cl.length<=900:=by
       have z:(cT xss f cl).length=xss.flatten.length+cl.length:=by unfold cT;rw [List.length_append,List.length_map]
       omega
      have lfl:xss.flatten.length<=900:=by omega
      have post1:∀ es,some (cT xss f cl)=some es->_:=post1;have hzs9:=s9 _ _ hzs;have dzs9:=s9.lds dzs;have s19:=s17.trans (s8.trans s9);have s79:=s8.trans s9;refine eF ⟨cW (by decide),λm hm=>?_⟩;have sm:Same H9 (upd H9 m (.lst [])):=aR hm _;have lzs:=dzs9.length;refine c9 ⟨_,rfl,lh,rfl,⟨zs,SqL.of (sm _ _ hzs9)⟩,kE (xs:=zs) (λi σ G=>∃ (z9:Option V) (m:Addr) (us:List V),σ=[some v0,some v1,some v2,none,none,some (.ref l),some (.ref fa),some (.ref lh),some (.ref m),z9]/\Same H9 G/\G m=some (.lst us)/\Dats K G (xss.take i).flatten us) ?_ (λi σ G _ ⟨_,_,_,_,q,_⟩=>SqL.of (q _ _ hzs9)) ?_ ?_⟩
      ·exact ⟨none,m,[],rfl,sm,aH,by rw [List.take_zero];exact Dats.nil⟩
      ·rintro i vx σ G hi ⟨z9,m,us,rfl,sG,hmG,du⟩;have hix:i < xss.length:=by rw [lzs];exact (List.getElem?_eq_some_iff.mp hi).1
       have hx:xss[i]?=some xss[i]:=List.getElem?_eq_getElem hix;obtain ⟨v,ev,hv⟩:=(sG.lds dzs9).get hx;rw [hi] at ev;cases ev;have lz:=uO lfl hx;refine j6 ?_;dsimp only;refine RC.use (K:=K) (eY (bA (k:=8) (LD.of hmG du)) (bA (k:=9) hv) (by omega)) λm2 us2 G2 hm2 s2 hu2 du2=>?_;refine ⟨_,m2,us2,rfl,sG.trans s2,hu2,?_⟩;rw [List.take_add_one,hx,List.flatten_append];simp only [Option.toList_some,List.flatten_cons,List.flatten_nil,List.append_nil];exact du2
      ·rintro σ G ⟨z9,m,us,rfl,sG,hmG,du⟩;rw [<- lzs,List.take_length] at du;dsimp only;have sHG:=s19.trans sG;have F10:=F7.mono (s79.trans sG)
       have hn10:LD K G [.tup [.str p.nm,toP p.pt,.tup (cl.map clD)]] (.ref l):=by
        have z:=(s7.trans (s79.trans sG)).ld hn6;have e:pcD p=.tup [.str p.nm,toP p.pt,.tup (cl.map clD)]:=by unfold pcD;rw [hcl.eq]
        rw [e] at z;exact z
       obtain ⟨g1,g2⟩:=mx _ _ _ hft;have lcl:cl.length<=12:=by have:=okp.cs;rw [hcl.eq,List.length_map] at this;exact this
       refine hU (RC.use (K:=K) (es:=cT xss f cl) (eY (bA (k:=8) (LD.of hmG du)) (gE (fU (R:=vY) (eE (aY (k:=2) (iW (k:=0) (bA (k:=5) hn10) aF rfl) aF rfl) (fF (vI (k:=6) (v:=1) F10.hf F10.h1 aF rfl) (fF (vI (k:=6) (v:=2) F10.hf F10.h2 aF rfl) cU))) ⟨cl,f.2.1,f.2.2,rfl,by rw [g1,g2];exact hcl.ok,lcl,rfl⟩)) (by rw [List.length_map];omega)) λl3 ws G2 hl3 s2 hw dw=>post1 _ rfl l3 ws G2 (sHG.trans s2) hw (sHG.free hl3) dw)
    ·have e0:fP (cJ ps n) ps t p.nm cv=none:=by unfold fP;rw [hf];dsimp only;rw [hft];dsimp only;rw [if_neg lt]
     refine RT.use (b:=true) (RT.as (aJ (iA (d5 (vI (K:=K) (k:=6) (v:=0) F6.hf F6.h0 aF rfl)) (dN (aY (k:=1) (aA (k:=2) h26) aF rfl)))) (by rw [List.length_map,decide_eq_false (by omega)];rfl)) λH7 s7=>jv ?_;exact bF (K:=K) (d:=.non) kP λv G s q=>by rw [q.nonE];exact post0 e0 G ((hz6.trans s7).trans s)
def vX (ds:List D) (d:D):Prop:=∃ (c:Cl) (nums ks:List Int),ds=[clD c,.tup (nums.map D.int),.tup (ks.map D.int)]/\Ci nums.length ks.length c=true/\d=.int (ke nums ks c)
theorem pL (T:Txt P w K mg)  : Ok P w base (k+1) T.Ip (spD K vX):=by
 refine T.Ip.f.ok sc_filled_cell (λvs H Q E h=>?_) (λcdv A outer s H vs Q E hr h=>?_)
 ·obtain ⟨ds,d,hd,⟨c,nums,ks,rfl,_⟩,_⟩:=h;exact hd.length.symm
 have nd:=sc_filled_cell.nd;obtain ⟨ds,d,hd,⟨c,nums,ks,rfl,okc,rfl⟩,post⟩:=h;obtain ⟨v0,v1,v2,rfl,h0,h1,h2⟩:=nW hd;refine ⟨_,(aG (bL (bQ (a6 (eZ Aw) rfl T.GM cG (cM (pv 0) (cM (fY (v:=.ty "int") rfl T.KJ zR rfl) aC))) (λ_=>rfl)) (aI (aQ (pv 0))) aW)
 (aG (bL (aN bY (aT aV (pv 0) aE) aP (aU _)) (aI (aQ (bO e9 (aT aV (pv 1) (aT aV (pv 0) aE)) aE))) aW)
 (aG (bL (aN bY (aT aV (pv 0) aE) aP (aU _)) (aI (aQ (bO j0 (aT aV (pv 1) (aT aV (pv 0) aE)) aE))) aW)
 (aI (aQ (aT aV (pv 2) (aT aV (pv 0) aE))))))),?_⟩
 cases c with
 | n j =>have h0:Dat K H (.int j) v0:=h0;refine aS (K:=K) (b:=true) (bE (bZ (aA (k:=0) h0))) (λ_ H1 s1=>?_) (λc=>nomatch c);exact bF (K:=K) (d:=.int j) (aA (k:=0) (s1.dat h0)) λv H2 s2 q=>post v H2 (s1.trans s2) q
 | low j =>have h0:Dat K H (.tup [.str "low",.int j]) v0:=h0;have okc:=of_decide_eq_true okc;refine aS (K:=K) (b:=false) (bE (bZ (aA (k:=0) h0))) (λc=>nomatch c) (λ_ H1 s1=>?_);refine aS (K:=K) (b:=true) (RT.as (aJ (bI (aY (k:=0) (aA (k:=0) (s1.dat h0)) aF rfl) aK)) (decide_eq_true rfl)) (λ_ H2 s2=>?_) (λc=>nomatch c);have s12:=s1.trans s2;exact bF (K:=K) (d:=.int (nums.getD j 0 % 100)) (j5 (aY (k:=j) (aA (k:=1) (s12.dat h1)) (aY (k:=1) (aA (k:=0) (s12.dat h0)) aF rfl) (lq okc)) aF (by decide)) λv H3 s3 q=>post v H3 (s12.trans s3) q
 | high j =>have h0:Dat K H (.tup [.str "high",.int j]) v0:=h0;have okc:=of_decide_eq_true okc;refine aS (K:=K) (b:=false) (bE (bZ (aA (k:=0) h0))) (λc=>nomatch c) (λ_ H1 s1=>?_);refine aS (K:=K) (b:=false) (RT.as (aJ (bI (aY (k:=0) (aA (k:=0) (s1.dat h0)) aF rfl) aK)) (decide_eq_false (by decide +kernel))) (λc=>nomatch c) (λ_ H2 s2=>?_);have s12:=s1.trans s2;refine aS (K:=K) (b:=true) (RT.as (aJ (bI (aY (k:=0) (aA (k:=0) (s12.dat h0)) aF rfl) aK)) (decide_eq_true rfl)) (λ_ H3 s3=>?_) (λc=>nomatch c);have s13:=s12.trans s3;exact bF (K:=K) (d:=.int (nums.getD j 0 / 100)) (oJ (aY (k:=j) (aA (k:=1) (s13.dat h1)) (aY (k:=1) (aA (k:=0) (s13.dat h0)) aF rfl) (lq okc)) aF ⟨by decide,by decide⟩) λv H4 s4 q=>post v H4 (s13.trans s4) q
 | arg j =>have h0:Dat K H (.tup [.str "arg",.int j]) v0:=h0;have okc:=of_decide_eq_true okc;refine aS (K:=K) (b:=false) (bE (bZ (aA (k:=0) h0))) (λc=>nomatch c) (λ_ H1 s1=>?_);refine aS (K:=K) (b:=false) (RT.as (aJ (bI (aY (k:=0) (aA (k:=0) (s1.dat h0)) aF rfl) aK)) (decide_eq_false (by decide +kernel))) (λc=>nomatch c) (λ_ H2 s2=>?_);have s12:=s1.trans s2;refine aS (K:=K) (b:=false) (RT.as (aJ (bI (aY (k:=0) (aA (k:=0) (s12.dat h0)) aF rfl) aK)) (decide_eq_false (by decide +kernel))) (λc=>nomatch c) (λ_ H3 s3=>?_);have s13:=s12.trans s3;exact bF (K:=K) (d:=.int (ks.getD j 0)) (aY (k:=j) (aA (k:=2) (s13.dat h2)) (aY (k:=1) (aA (k:=0) (s13.dat h0)) aF rfl) (lq okc)) λv H4 s4 q=>post v H4 (s13.trans s4) q
def kx (n:Nat) (as:List Ar) (es:List D):Prop:=∃ (ps:List Pc) (t:Tr) (c:D),as=[.d (toD t),.l (ps.map pcD),.d c,.l []]/\jy ps/\yF ps/\okT t/\a9 t<=n/\n<=8/\a8 t<=40/\cJ ps n t c=some es
def Ek (n:Nat) (as:List Ar) (es:List D):Prop:=∃ (ps:List Pc) (a b d:Tr) (ca cb cd:D) (xa xb xd:List D),as=[.d (.tup [.str "pick",toD a,toD b,toD d]),.l (ps.map pcD),.d (.tup [.str "pick",.tup [ca,cb,cd]]),.l []]/\jy ps/\yF ps/\(okT a/\okT b/\okT d)/\(a9 a<=n/\a9 b<=n/\a9 d<=n)/\n<=8/\(a8 a<=40/\a8 b<=40/\a8 d<=40) /\
 cJ ps n a ca=some xa/\cJ ps n b cb=some xb/\cJ ps n d cd=some xd/\es.length<=900/\es=eU xa xb xd
def Ej (n:Nat) (as:List Ar) (es:List D):Prop:=∃ (ps:List Pc) (t:Tr) (p:Pc) (cv:List D) (g:Fnd) (ess:List (List D)),as=[.d (toD t),.l (ps.map pcD),.d (.tup [.str p.nm,.tup cv]),.l []]/\jy ps/\yF ps/\okT t/\a9 t<=n+1/\n+1<=8/\a8 t<=40/\p ∈ ps/\cH p.pt t=some g/\g.1.length=cv.length/\eA (cJ ps n) g.1 cv=ess.map some/\es.length<=900/\es=cT ess g (cF p)
theorem nY (x y z:List D):eU x y z=x++(dU 10 11 ((y.length:Int)+gY z.length)).map D.int++y++(dU 8 9 z.length).map D.int++z:=by
 unfold eU eK
 have e:((y++(dU 8 9 (z.length:Int)).map D.int).length:Int)=(y.length:Int)+gY z.length:=by rw [List.length_append,List.length_map];have:=iL 8 9 z.length;omega
 rw [e];simp only [List.append_assoc]
theorem tu (T:Txt P w K mg) (Ib:Ok P w base k T.Hd (kr K (kx n))) (IB:Ok P w base k T.Hm (uc K)):Ok P w base (k+1) T.Ja (kr K (Ek n)):=by
 refine T.Ja.f.ok sc_laid_pick (λvs H Q E h=>?_) (λcdv A outer s H vs Q E hr h=>?_)
 ·obtain ⟨as,es,hd,⟨ps,a,b,d,ca,cb,cd,xa,xb,xd,rfl,_⟩,_⟩:=h;exact hd.length.symm
 have nd:=sc_laid_pick.nd;obtain ⟨as,es,hd,⟨ps,a,b,d,ca,cb,cd,xa,xb,xd,rfl,okS,laS,⟨oa,ob,od⟩,⟨da,db,dd⟩,n8,⟨za,zb,zd⟩,la,lb,ld,l900,rfl⟩,post⟩:=h;obtain ⟨v0,v1,v2,v3,rfl,h0,h1,h2,h3⟩:=B9 hd;have h0:Dat K H (.tup [.str "pick",toD a,toD b,toD d]) v0:=h0;have h1:LD K H (ps.map pcD) v1:=h1;have h2:Dat K H (.tup [.str "pick",.tup [ca,cb,cd]]) v2:=h2;have h3:LD K H [] v3:=h3;rw [nY] at post l900;refine ⟨_,(aG (hE (dE (own:=["one","within"]) (fr:=[1,3]) (N':=["one","within","some","places"]) (tQ rfl T.J5 (aD (ji nO (pv 0) (i4 aE) mK) (aD (aT aV (pv 2) aE) aC))) rfl (by show cZ ["tree","some","cover","places","first","second","third","ahead","behind"] (λx=>(aO kU).names.lookup x) _ _ _ _=true;decide +kernel) rfl (λ_ _ _ _ _=>(mJ (K:=K) (n:=2) rfl rfl (bM (a7 (i:=0) (by show List.Nodup [("one":Str),("within":Str),("some":Str),("places":Str)];decide +kernel) rfl (Or.inl rfl)) (bM (a7 (i:=1) (by show List.Nodup [("one":Str),("within":Str),("some":Str),("places":Str)];decide +kernel) rfl (Or.inl rfl)) dF)))) (λ_ _ _ _ _=>cO) (λ_ _ _ _ _=>(pc (D:=T.Hd) Ib hr (aD (pv 0) (aD (pv 2) (aD (pv 1) (aD (pv 3) aC))))))) (Dg rfl (bM (a7 (i:=4) nd rfl (Or.inl rfl)) (bM (a7 (i:=5) nd rfl (Or.inl rfl)) (bM (a7 (i:=6) nd rfl (Or.inl rfl)) dF)))))
 (aG (hE (pc (D:=T.Hm) IB hr (aD (a6 aX rfl T.GO bU (aD (pv 5) aC)) (aD (a6 aX rfl T.GO bU (aD (pv 6) aC)) aC))) (gO rfl (bM (a7 (i:=7) nd rfl (Or.inl rfl)) (bM (a7 (i:=8) nd rfl (Or.inl rfl)) dF))))
 (aI (aQ (bO eV (bO eV (bO eV (bO eV (pv 4) (pv 7)) (pv 5)) (pv 8)) (pv 6)))))),?_⟩
 refine oN (RCL.use (K:=K) (Do (cs:=[toD a,toD b,toD d]) (ds:=[ca,cb,cd]) (aB (jR (aA (k:=0) h0)) (aB (aY (k:=1) (aA (k:=2) h2) aF rfl) aL)) rfl (by simp) [xa,xb,xd] rfl (by decide) rfl (λG j x y z v w sG hx hy hz hv hw=>?_)) λl ys H1 hl s1 hy dy=>?_)
 ·have hL:=sG.ld h1;have hP:=sG.ld h3
  match j,hx,hy,hz with
  | 0,hx,hy,hz=>cases hx;cases hy;cases hz;exact fU (R:=kx n) (eE (aA (k:=0) hv) (fF (bA (k:=2) hL) (eE (aA (k:=1) hw) (fF (bA (k:=3) hP) cU)))) ⟨ps,a,ca,rfl,okS,laS,oa,da,n8,za,la⟩
  | 1,hx,hy,hz=>cases hx;cases hy;cases hz;exact fU (R:=kx n) (eE (aA (k:=0) hv) (fF (bA (k:=2) hL) (eE (aA (k:=1) hw) (fF (bA (k:=3) hP) cU)))) ⟨ps,b,cb,rfl,okS,laS,ob,db,n8,zb,lb⟩
  | 2,hx,hy,hz=>cases hx;cases hy;cases hz;exact fU (R:=kx n) (eE (aA (k:=0) hv) (fF (bA (k:=2) hL) (eE (aA (k:=1) hw) (fF (bA (k:=3) hP) cU)))) ⟨ps,d,cd,rfl,okS,laS,od,dd,n8,zd,ld⟩
  | j+3,hx,hy,hz=>cases hx
 obtain ⟨w4,w5,w6,rfl,k4,k5,k6⟩:∃ w4 w5 w6,ys=[w4,w5,w6]/\LD K H1 xa w4/\LD K H1 xb w5/\LD K H1 xd w6:=by
  cases dy with
  | cons k4 r =>
   cases r with
   | cons k5 r =>
    cases r with
    | cons k6 r =>cases r;exact ⟨_,_,_,rfl,k4,k5,k6⟩
 refine ⟨l,_,rfl,SqL.of hy,rfl,_,_,rfl,_,_,rfl,_,_,rfl,rfl,?_⟩
 try dsimp only
 refine oN (jA (dH (RE.use (K:=K) (d:=.int xb.length) (d5 (bA (k:=5) k5)) λw1 H3 s3 q3=>dH (RE.use (K:=K) (d:=.int xd.length) (d5 (bA (k:=6) (s3.ld k6))) λw2 H4 s4 q4=>?_))));have e3:=q3.intE;have e4:=q4.intE;subst e3 e4;refine ⟨_,_,rfl,λp aa bb us ws H5 s5 hp ha hb _ _ _ dus dws=>?_⟩;refine ⟨p,_,rfl,hp,rfl,_,_,rfl,_,_,rfl,rfl,?_⟩
 try dsimp only
 have s15:=s3.trans (s4.trans s5);have kA:LD K H5 _ (.ref aa):=LD.of ha dus;have kB:LD K H5 _ (.ref bb):=LD.of hb dws;have ll:(xa++(dU 10 11 ((xb.length:Int)+gY xd.length)).map D.int++xb++(dU 8 9 xd.length).map D.int++xd).length=xa.length+((dU 10 11 ((xb.length:Int)+gY xd.length)).map D.int).length+xb.length+((dU 8 9 (xd.length:Int)).map D.int).length+xd.length:=by simp only [List.length_append]
 generalize (dU 10 11 ((xb.length:Int)+gY xd.length)).map D.int=ja at kA post ll l900;generalize (dU 8 9 (xd.length:Int)).map D.int=jb at kB post ll l900;exact hU (RC.use (K:=K) (eY (gE (eY (gE (eY (gE (eY (bA (k:=4) (s15.ld k4)) (bA (k:=7) kA) (by omega))) (bA (k:=5) (s15.ld k5)) (by rw [List.length_append];omega))) (bA (k:=8) kB) (by rw [List.length_append,List.length_append];omega))) (bA (k:=6) (s15.ld k6)) (by rw [List.length_append,List.length_append,List.length_append];omega)) λl3 us H7 hl3 s7 hu du=>post l3 us H7 (s1.trans (s15.trans s7)) hu ((s1.trans s15).free hl3) du)
theorem qK (T:Txt P w K mg) (Ib:Ok P w base k T.Hd (kr K (kx n))) (Jz:Ok P w base k T.Im (spD K oS)) (J1:Ok P w base k T.Ip (spD K vX)):Ok P w base (k+1) T.IE (kr K (Ej n)):=by
 refine T.IE.f.ok sc_laid_piece (λvs H Q E h=>?_) (λcdv A outer s H vs Q E hr h=>?_)
 ·obtain ⟨as,es,hd,⟨ps,t,p,cv,g,ess,rfl,_⟩,_⟩:=h;exact hd.length.symm
 have nd:=sc_laid_piece.nd;obtain ⟨as,es,hd,⟨ps,t,p,cv,g,ess,rfl,okS,laS,okt,dpt,n8,szt,hp,hft,hlen,hpair,l900,rfl⟩,post⟩:=h;obtain ⟨v0,v1,v2,v3,rfl,h0,h1,h2,h3⟩:=B9 hd;have h0:Dat K H (toD t) v0:=h0;have h1:LD K H (ps.map pcD) v1:=h1;have h2:Dat K H (.tup [.str p.nm,.tup cv]) v2:=h2;have h3:LD K H [] v3:=h3;have okp:=okS.ok p hp;have hcl:=laS.cl p hp;have few:=okS.few;refine ⟨_,(aG (hE (pv 2) (gO rfl (bM (a7 (i:=4) nd rfl (Or.inr rfl)) (bM (a7 (i:=5) nd rfl (Or.inl rfl)) dF))))
 (aG (bT (i:=6) nd rfl (Or.inl rfl) (aT bP (dE (own:=["one"]) (fr:=[4]) (N':=["one","name"]) (fK (pv 1)) rfl (by show cZ ["tree","some","cover","places","name","within","piece","holes","nums","ks","cells","hole","inner"] (λx=>(aO i6).names.lookup x) _ _ _ _=true;decide +kernel) rfl (λ_ _ _ _ _=>(a7 (i:=0) (by show List.Nodup [("one":Str),("name":Str)];decide +kernel) rfl (Or.inl rfl))) (λ_ _ _ _ _=>(pR (aN bY (aT (r:=mN K) aV (pv 0) aE) (pv 1) (aU _)))) (λ_ _ _ _ _=>(pv 0))) aE))
 (aG (hE (pc (D:=T.Im) Jz hr (aD (pv 6) (aD (pv 0) aC))) (gO rfl (bM (a7 (i:=7) nd rfl (Or.inl rfl)) (bM (a7 (i:=8) nd rfl (Or.inr rfl)) (bM (a7 (i:=9) nd rfl (Or.inr rfl)) dF)))))
 (aG (bT (i:=10) nd rfl (Or.inl rfl) (bR aC))
 (aG (iV PassesOwn.never rfl (tQ rfl T.J5 (aD (pv 7) (aD (pv 5) aC))) (gO rfl (bM (a7 (i:=11) nd rfl (Or.inl rfl)) (bM (a7 (i:=12) nd rfl (Or.inl rfl)) dF))) (aI (bW (eQ F.plainAttrs_list F.slot_list_extend F.type_list_extend jO (pv 10) (aD (pc (D:=T.Hd) Ib hr (aD (pv 11) (aD (pv 1) (aD (pv 12) (aD (pv 3) aC))))) aC)))))
 (aI (aQ (bO eV (pv 10) (dE (own:=["cell"]) (fr:=[8,9]) (N':=["cell","nums","ks"]) (j3 (aT aV (pv 6) aE)) rfl (by show cZ ["tree","some","cover","places","name","within","piece","holes","nums","ks","cells","hole","inner"] (λx=>(aO i6).names.lookup x) _ _ _ _=true;decide +kernel) rfl (λ_ _ _ _ _=>(a7 (i:=0) (by show List.Nodup [("cell":Str),("nums":Str),("ks":Str)];decide +kernel) rfl (Or.inl rfl))) (λ_ _ _ _ _=>cO) (λ_ _ _ _ _=>(pc (D:=T.Ip) J1 hr (aD (pv 0) (aD (pv 1) (aD (pv 2) aC)))))))))))))),?_⟩
 refine oP (K:=K) (aA (k:=2) h2) λv4 v5 H1 s1 q4 q5=>?_;refine gH (K:=K) (d:=pcD p) (iW (k:=0) (ds:=[pcD p]) (gE (RC.as (ye (bA (k:=1) (s1.ld h1)) (by rw [List.length_map];omega) (AM p.nm) rfl (λG j c v sG hc hv=>?_)) (o4 laS.ls.nd hp))) aF rfl) λv6 H2 s2 q6=>?_
 ·rw [List.getElem?_map] at hc
  cases hq:ps[j]? with
  | none=>rw [hq] at hc;cases hc
  | some q =>rw [hq] at hc;cases hc;exact ⟨aJ (bI (aY (k:=0) (aA (k:=0) (show Dat K G (.tup [.str q.nm,toP q.pt,.tup q.cs]) v from hv)) aF rfl) (aA (k:=1) (sG.dat q4))),aA (k:=0) hv⟩
 have s12:=s1.trans s2;have q6:Dat K H2 (.tup [.str p.nm,toP p.pt,.tup p.cs]) v6:=q6;refine tX (K:=K) (RE.as (bN (R:=oS) (d:=fdD (cH p.pt t)) (aB (aA (k:=6) q6) (aB (aA (k:=0) (s12.dat h0)) aL)) ⟨.str p.nm,p.pt,.tup p.cs,t,rfl,okp.ok,okt,by omega,okp.dp,rfl⟩) (by rw [hft];rfl)) λv7 v8 v9 H3 s3 q7 q8 q9=>?_;have s13:=s12.trans s3;refine eF ⟨cW (by decide),λlc hlc=>?_⟩;have s4:Same H3 (upd H3 lc (.lst [])):=aR hlc _;have s14:=s13.trans s4;obtain ⟨ah,us,rfl,hah,dus⟩:=(s4.dat q7).tupE;obtain ⟨aw,ws,rfl,haw,dws⟩:=((s2.trans (s3.trans s4)).dat q5).tupE;have lu:=dus.length;have lw:=dws.length;rw [List.length_map] at lu;have less:ess.length=g.1.length:=by have:=congrArg List.length hpair;rw [rC hlen,List.length_map] at this;exact this.symm
 have hlcn:H lc=none:=s13.free hlc
 have lle:ess.flatten.length+(cF p).length<=900:=by
  have z:(cT ess g (cF p)).length=ess.flatten.length+(cF p).length:=by unfold cT;rw [List.length_append,List.length_map]
  omega
 have lfl:ess.flatten.length<=900:=by omega
 generalize hG4:upd H3 lc (.lst [])=G4 at s4 s14 hah haw dus dws;have hc4:G4 lc=some (.lst []):=by rw [<- hG4];exact aH
 refine c9 ⟨_,rfl,_,rfl,ah,aw,us,ws,rfl,hah,haw,Cz (K:=K) (xs:=us) (ys:=ws) (λi σ G=>∃ (z11 z12:Option V) (zs:List V),σ=[some v0,some v1,some v2,some v3,some v4,some (.ref aw),some v6,some (.ref ah),some v8,some v9,some (.ref lc),z11,z12]/\Same H3 G/\SqT K G ah us/\SqT K G aw ws/\Dats K G (g.1.map toD) us/\Dats K G cv ws/\G lc=some (.lst zs)/\Dats K G (ess.take i).flatten zs) (by omega) ?_ (λi σ G _ ⟨_,_,_,_,_,p1,p2,_⟩=>⟨p1,p2⟩) ?_ ?_⟩
 ·exact ⟨none,none,[],rfl,s4,hah,haw,dus,dws,hc4,by rw [List.take_zero];exact Dats.nil⟩
 ·rintro i u w pp σ G hu hw hpp ⟨z11,z12,zs,rfl,sG,hahG,hawG,duG,dwG,hcG,dz⟩;have sn:Same G (upd G pp (.tup [u,w])):=aR hpp _;obtain ⟨du,edu,hdu⟩:=duG.getV hu;obtain ⟨dw,edw,hdw⟩:=dwG.getV hw;rw [List.getElem?_map] at edu
  cases hq:g.1[i]? with
  | none=>rw [hq] at edu;cases edu
  | some x =>
   rw [hq] at edu;cases edu;have hix:i < ess.length:=by rw [less];exact (List.getElem?_eq_some_iff.mp hq).1
   have hx:ess[i]?=some ess[i]:=List.getElem?_eq_getElem hix;have lz:=uO lfl hx;have hlx:cJ ps n x dw=some ess[i]:=(rA hq edw (by rw [hpair,List.getElem?_map,hx];rfl)).symm;have tail:=jL okp.nh hft x (List.mem_of_getElem? hq);have dsm:=gQ tail;refine ⟨pp,_,rfl,SqT.of aH,rfl,_,_,rfl,_,_,rfl,rfl,?_⟩;dsimp only;have sHG:=s13.trans (sG.trans sn);have lzs:=dz.length;refine Dz (K:=K) (fU (R:=kx n) (eE (aA (k:=11) (sn.dat hdu)) (fF (bA (k:=1) (sHG.ld h1)) (eE (aA (k:=12) (sn.dat hdw)) (fF (bA (k:=3) (sHG.ld h3)) cU)))) ⟨ps,x,dw,rfl,okS,laS,fQ t x okt (iC tail),by omega,by omega,by omega,hlx⟩) (sn _ _ hcG) (by omega) λys G2 b2 hc2 dy=>?_;have g2:fE K (upd G pp (.tup [u,w])) G2:=b2.grow (sn _ _ hcG) hc2;refine ⟨_,_,zs++ys,rfl,λa o ha=>b2 a o (aM ha hlc) ((sG.trans sn) _ _ ha),g2.tup _ _ (sn.sqT hahG),g2.tup _ _ (sn.sqT hawG),Dats.mono g2 _ (sn.dats duG),Dats.mono g2 _ (sn.dats dwG),hc2,?_⟩;rw [List.take_add_one,hx,List.flatten_append];simp only [Option.toList_some,List.flatten_cons,List.flatten_nil,List.append_nil];exact Dats.append (Dats.mono g2 _ (sn.dats dz)) dy
 ·rintro σ G ⟨z11,z12,zs,rfl,sG,hahG,hawG,duG,dwG,hcG,dz⟩;rw [<- lu,<- less,List.take_length] at dz;dsimp only;have sHG:=s13.trans sG
  have q6G:Dat K G (.tup [.str p.nm,toP p.pt,.tup ((cF p).map clD)]) v6:=by have z:=(s3.trans sG).dat q6;rw [hcl.eq] at z;exact z
  obtain ⟨g1,g2⟩:=mx _ _ _ hft;have lcl:(cF p).length<=12:=by have:=okp.cs;rw [hcl.eq,List.length_map] at this;exact this
  refine hU (RC.use (K:=K) (es:=cT ess g (cF p)) (eY (bA (k:=10) (LD.of hcG dz)) (gE (tT (cs:=(cF p).map clD) (aY (k:=2) (aA (k:=6) q6G) aF rfl) (by rw [List.length_map];omega) ((cF p).map λc=>D.int (ke g.2.1 g.2.2 c)) (by rw [List.length_map,List.length_map]) rfl (λG1 j c v d s1 hc hd hv=>?_))) (by rw [List.length_map];omega)) λl3 vs G2 hl3 s2 hw dw=>post l3 vs G2 (sHG.trans s2) hw (sHG.free hl3) dw);rw [List.getElem?_map] at hc hd
  cases hq:(cF p)[j]? with
  | none=>rw [hq] at hc;cases hc
  | some x =>rw [hq] at hc hd;cases hc;cases hd;refine bN (R:=vX) (aB (aA (k:=0) hv) (aB (aA (k:=1) ((sG.trans s1).dat q8)) (aB (aA (k:=2) ((sG.trans s1).dat q9)) aL))) ⟨x,g.2.1,g.2.2,rfl,?_,rfl⟩;rw [g1,g2];exact hcl.ok x (List.mem_of_getElem? hq)
theorem qJ (T:Txt P w K mg) (Kn:Ok P w base k T.Ja (kr K (Ek n))) (J9:Ok P w base k T.IE (kr K (Ej n))):Ok P w base (k+1) T.Hd (kr K (kx (n+1))):=by
 refine T.Hd.f.ok sc_laid_cells (λvs H Q E h=>?_) (λcdv A outer s H vs Q E hr h=>?_)
 ·obtain ⟨as,es,hd,⟨ps,t,c,rfl,_⟩,_⟩:=h;exact hd.length.symm
 have nd:=sc_laid_cells.nd;obtain ⟨as,es,hd,⟨ps,t,c,rfl,okS,laS,okt,dpt,n8,szt,hlay⟩,post⟩:=h;obtain ⟨v0,v1,v2,v3,rfl,h0,h1,h2,h3⟩:=B9 hd;have h0:Dat K H (toD t) v0:=h0;have h1:LD K H (ps.map pcD) v1:=h1;have h2:Dat K H c v2:=h2;have h3:LD K H [] v3:=h3;have l900:es.length<=900:=by have:=iM okS.ok (n+1) t c es hlay;omega
 refine ⟨_,(aG (bL (aN bY (aT aV (pv 0) aE) aP (aU _)) (aG (bT (i:=4) nd rfl (Or.inl rfl) (aT bP (pv 3) (aT aV (pv 0) aE)))
 (aI (aQ (bR (aD (cK (v:=.int 15) rfl T.JJ ⟨_,rfl⟩) (aD (bO e9 (pv 4) aE) (aD (bO j0 (pv 4) aE) aC))))))) aW)
 (aG (bL (aN bY (aT aV (pv 0) aE) aP (aU _)) (aI (aQ (pc (D:=T.Ja) Kn hr (aD (pv 0) (aD (pv 1) (aD (pv 2) (aD (pv 3) aC))))))) aW)
 (aI (aQ (pc (D:=T.IE) J9 hr (aD (pv 0) (aD (pv 1) (aD (pv 2) (aD (pv 3) aC))))))))),?_⟩
 obtain ⟨kd,r,ek,hpk,hcall,hkids⟩:=uK t okt;have h0':Dat K H (.tup (.str kd::r)) v0:=by rw [<- ek];exact h0
 refine aS (K:=K) (b:=false) (RT.as (aJ (bI (aY (k:=0) (aA (k:=0) h0') aF rfl) aK)) (decide_eq_false hcall)) (λc=>nomatch c) (λ_ H1 s1=>?_)
 obtain ⟨nm,cv,rfl⟩:∃ nm cv,c=.tup [.str nm,.tup cv]:=by
  cases e:gJ c with
  | none =>have h:(match gJ c with | none=>none | some x=>if x.1="pick" then jd (cJ ps n) t x.2 else fP (cJ ps n) ps t x.1 x.2)=some es:=hlay;rw [e] at h;cases h
  | some x=>exact ⟨x.1,x.2,qV e⟩
 have hlay:(if nm="pick" then jd (cJ ps n) t cv else fP (cJ ps n) ps t nm cv)=some es:=hlay;refine aS (K:=K) (b:=jM t) (RT.as (aJ (bI (aY (k:=0) (aA (k:=0) (s1.dat h0')) aF rfl) aK)) hpk) (λcp H2 s2=>?_) (λcp H2 s2=>?_)
 ·have s12:=s1.trans s2
  have hn:nm="pick":=by
   apply Classical.byContradiction;intro z;rw [if_neg z] at hlay;obtain ⟨p,g,ess,e1,e2,_⟩:=gK hlay
   cases t with
   | pick a b d=>rw [my (okS.ok p (dS e1).1).nh] at e2;cases e2
   | _=>cases cp
  subst hn;rw [if_pos rfl] at hlay;obtain ⟨a,b,d,ca,cb,cd,xa,xb,xd,rfl,rfl,la,lb,ld,rfl⟩:=gL hlay;simp only [a9] at dpt;simp only [a8] at szt;exact hU (RC.use (K:=K) (fU (R:=Ek n) (eE (aA (k:=0) (s12.dat h0)) (fF (bA (k:=1) (s12.ld h1)) (eE (aA (k:=2) (s12.dat h2)) (fF (bA (k:=3) (s12.ld h3)) cU)))) ⟨ps,a,b,d,ca,cb,cd,xa,xb,xd,rfl,okS,laS,⟨okt.1,okt.2.1,okt.2.2⟩,⟨by omega,by omega,by omega⟩,by omega,⟨by omega,by omega,by omega⟩,la,lb,ld,l900,rfl⟩) λl ys H3 hl s3 hy dy=>post l ys H3 (s12.trans s3) hy (s12.free hl) dy)
 ·have s12:=s1.trans s2
  have hn:¬ nm="pick":=by intro z;rw [if_pos z] at hlay;obtain ⟨a,b,d,_,_,_,_,_,_,e,_⟩:=gL hlay;subst e;cases cp
  rw [if_neg hn] at hlay;obtain ⟨p,g,ess,e1,e2,hl,hpair,rfl⟩:=gK hlay;obtain ⟨hp,rfl⟩:=dS e1;exact hU (RC.use (K:=K) (fU (R:=Ej n) (eE (aA (k:=0) (s12.dat h0)) (fF (bA (k:=1) (s12.ld h1)) (eE (aA (k:=2) (s12.dat h2)) (fF (bA (k:=3) (s12.ld h3)) cU)))) ⟨ps,t,p,cv,g,ess,rfl,okS,laS,okt,dpt,n8,szt,hp,e2,hl,hpair,l900,rfl⟩) λl ys H3 hl s3 hy dy=>post l ys H3 (s12.trans s3) hy (s12.free hl) dy)
def vZ (as:List Ar) (es:List D):Prop:=∃ (ps:List Pc) (t:Tr) (c:D) (xs:List D),as=[.d (toD t),.l (ps.map pcD),.d c]/\vW ps t/\yF ps/\cJ ps 8 t c=some xs/\es=xs++[.int 0]
theorem C1 (T:Txt P w K mg) (Iu:Ok P w base k T.Hw (spD K qO)) (II:Ok P w base k T.HK (spA K lW)) (Hz:Ok P w base k T.GS (spA K (qA 8))) (Ib:Ok P w base k T.Hd (kr K (kx 8))):Ok P w base (k+1) T.Kc (kr K vZ):=by
 refine T.Kc.f.ok sc_laid (λvs H Q E h=>?_) (λcdv A outer s H vs Q E hr h=>?_)
 ·obtain ⟨as,es,hd,⟨ps,t,c,xs,rfl,_⟩,_⟩:=h;exact hd.length.symm
 have nd:=sc_laid.nd;obtain ⟨as,es,hd,⟨ps,t,c,xs,rfl,gi,la,hl,rfl⟩,post⟩:=h;obtain ⟨v0,v1,v2,rfl,h0,h1,h2⟩:=um hd;have h0:Dat K H (toD t) v0:=h0;have h1:LD K H (ps.map pcD) v1:=h1;have h2:Dat K H c v2:=h2;refine ⟨_,(aG (bW (pc (D:=T.Hw) Iu hr (aD (pv 0) aC)))
 (aG (bW (pc (D:=T.HK) II hr (aD (pv 1) aC)))
 (aG (bL (cQ (bQ (pc (D:=T.GS) Hz hr (aD (pv 0) (aD (pv 1) (aD (pv 2) aC)))) (λ_=>rfl))) (aI jQ) aW)
 (aI (aQ (bO eV (pc (D:=T.Hd) Ib hr (aD (pv 0) (aD (pv 1) (aD (pv 2) (aD (bR aC) aC))))) (bR (aD (cK (v:=.int 0) rfl T.J4 ⟨_,rfl⟩) aC)))))))),?_⟩
 refine nK (RE.use (bN (R:=qO) (d:=.non) (aB (aA (K:=K) (k:=0) h0) aL) ⟨toD t,rfl,ug gi.ot gi.dp gi.sz,rfl⟩) λv4 H1 s1 _=>?_);refine nK (RE.use (fA (R:=lW) (d:=.non) (fF (bA (K:=K) (k:=1) (s1.ld h1)) cU) ⟨ps,rfl,gi.gs,rfl⟩) λv5 H2 s2 _=>?_);have s12:=s1.trans s2;have cov:=sk la.ls.nd gi.os.ok 8 t c;rw [hl] at cov;have l9:=iM gi.os.ok 8 t c xs hl;refine aS (K:=K) (b:=false) (RT.as (bS (bE (fA (R:=qA 8) (eE (aA (k:=0) (s12.dat h0)) (fF (bA (k:=1) (s12.ld h1)) (eE (aA (k:=2) (s12.dat h2)) cU))) ⟨ps,t,c,rfl,gi.os,gi.ot,gi.dp,by decide,rfl⟩))) (by rw [cov];rfl)) (λc=>nomatch c) (λ_ H3 s3=>?_);have s13:=s12.trans s3;exact hU (RC.use (K:=K) (eY (gE (fU (R:=kx 8) (eE (aA (k:=0) (s13.dat h0)) (fF (bA (k:=1) (s13.ld h1)) (eE (aA (k:=2) (s13.dat h2)) (fF (gE (gC aL)) cU)))) ⟨ps,t,c,rfl,gi.os,la,gi.ot,gi.dp,by decide,gi.sz,hl⟩)) (gE (gC (aB aF aL))) (by have:=gi.sz;show xs.length+1<=1000;omega)) λl ys H4 hl4 s4 hy dy=>post l ys H4 (s13.trans s4) hy (s13.free hl4) dy)
theorem rB (hf:∀ t c es,f t c=some es->∃ ns:List Int,es=ns.map D.int):∀ {ts:List Tr} {cs:List D} {ess:List (List D)},eA f ts cs=ess.map some->∃ ns:List Int,ess.flatten=ns.map D.int
 | [],cs,ess,h=>by
  have:ess=[]:=by cases ess with | nil=>rfl | cons _ _=>cases h
  subst this;exact ⟨[],rfl⟩
 | t::ts,[],ess,h=>by
  have:ess=[]:=by cases ess with | nil=>rfl | cons _ _=>cases h
  subst this;exact ⟨[],rfl⟩
 | t::ts,c::cs,ess,h=>by
  cases ess with
  | nil=>cases h
  | cons x ess =>have h':f t c::eA f ts cs=some x::ess.map some:=h;injection h' with h1 h2;obtain ⟨n1,e1⟩:=hf t c x h1;obtain ⟨n2,e2⟩:=rB hf h2;exact ⟨n1++n2,by rw [List.flatten_cons,e1,e2,List.map_append]⟩
theorem kF:∀ (n:Nat) (t:Tr) (c:D) (es:List D),cJ ps n t c=some es->∃ ns:List Int,es=ns.map D.int
 | 0,_,_,_,h=>by cases h
 | n+1,t,c,es,h=>by
  have h:(match gJ c with | none=>none | some x=>if x.1="pick" then jd (cJ ps n) t x.2 else fP (cJ ps n) ps t x.1 x.2)=some es:=h
  cases ec:gJ c with
  | none=>rw [ec] at h;cases h
  | some x =>
   rw [ec] at h;dsimp only at h;by_cases hp:x.1="pick"
   ·rw [if_pos hp] at h;obtain ⟨a,b,d,ca,cb,cd,xa,xb,xd,rfl,_,la,lb,ld,rfl⟩:=gL h;obtain ⟨n1,e1⟩:=kF n a ca xa la;obtain ⟨n2,e2⟩:=kF n b cb xb lb;obtain ⟨n3,e3⟩:=kF n d cd xd ld;rw [nY,e1,e2,e3];refine ⟨n1++dU 10 11 (((n2.map D.int).length:Int)+gY ((n3.map D.int).length:Int))++n2++dU 8 9 ((n3.map D.int).length:Int)++n3,?_⟩;simp only [List.map_append]
   ·rw [if_neg hp] at h;obtain ⟨p,g,ess,e1,e2,hl,e,rfl⟩:=gK h;obtain ⟨ns,en⟩:=rB (kF n) e;unfold cT;rw [en];exact ⟨ns++(cF p).map (ke g.2.1 g.2.2),by rw [List.map_append,List.map_map];rfl⟩
variable {tl:TE}
theorem Dk {mk:L2.St->L2.St} (h:tl σ H λx H1=>∃ a,x=.ref a/\(∃ xs,SqT K H1 a xs)/\∀ D,H1 D=none->∃ W:Nat->Nat->L2.St->Hp->Prop,(∃ m,W 0 m (mk σ) (upd H1 D (.lst [])))/\∀ i m σ' H',W i m σ' H' ->
   ((Itt K a).stop i H'/\Q (.ref D) H')\/((Itt K a).go i H'/\∃ Nx:L2.St->Hp->Prop,(∀ σ'' H'',Nx σ'' H''->∃ m',m' < m/\W (i+1) m' σ'' H'')/\∀ x H'',(Itt K a).yld i H' x H''->g x σ' H'' λσ2 H2=>tt σ2 H2 λb H3 =>
    if b=true then te σ2 H3 λv H4=>∃ ys,H4 D=some (.lst ys)/\ys.length < sizeLine/\Nx σ2 (upd H4 D (.lst (ys++[v]))) else Nx σ2 H3)):h8 (AA K tl) mk g tt te σ H Q:=h
theorem wN {g:Tr->D->Bool} {c:D} (h:ts.length=cs.length):jf g (ts++[x]) (cs++[c])=jf g ts cs++[g x c]:=by unfold jf;rw [List.zip_append h,List.map_append];rfl
theorem DW:∀ {ps:List Pc},(ps.map (·.nm)).Nodup->∀ p ∈ ps,∀ q ∈ ps,p.nm=q.nm->p=q
 | [],_,p,hp,_,_,_=>by cases hp
 | x::ps,nd,p,hp,q,hq,e=>by
  rw [List.map_cons,List.nodup_cons] at nd;rcases List.mem_cons.mp hp with e1 | h1
  ·rcases List.mem_cons.mp hq with e2 | h2
   ·rw [e1,e2]
   ·exact absurd (List.mem_map.mpr ⟨q,h2,by rw [<- e,e1]⟩) nd.1
  ·rcases List.mem_cons.mp hq with e2 | h2
   ·exact absurd (List.mem_map.mpr ⟨p,h1,by rw [e,e2]⟩) nd.1
   ·exact DW nd.2 p h1 q h2 e
def Wof (ps:List Pc) (X:Tr) (nm:Str) (ts:List Tr):Prop:=∃ p f,p ∈ ps/\p.nm=nm/\cH p.pt X=some f/\f.1=ts
variable {X:Tr}
theorem Ae (cp:jM X=true) (hl:cs.length=(cR X).length) (h:(jf (gX ps n) (cR X) cs).all id=true):gX ps (n+1) X (.tup [.str "pick",.tup cs])=true:=by
 show (match (fW ps X).find? (λw=>decide (w.nm=("pick":Str))) with | none=>false | some w=>jG (gX ps n) w.ts cs)=true;have e:fW ps X=[⟨"pick",[],cR X⟩]:=by unfold fW;rw [if_pos cp]
 rw [e,List.find?_cons,decide_eq_true rfl];show jG (gX ps n) (cR X) cs=true;unfold jG;rw [h,decide_eq_true hl.symm];rfl
theorem Cj (cp:jM X=false) (nd:(ps.map (·.nm)).Nodup) (wo:Wof ps X nm ts) (hl:cs.length=ts.length) (h:(jf (gX ps n) ts cs).all id=true):gX ps (n+1) X (.tup [.str nm,.tup cs])=true:=by
 obtain ⟨p,f,hp,rfl,hf,rfl⟩:=wo;show (match (fW ps X).find? (λw=>decide (w.nm=p.nm)) with | none=>false | some w=>jG (gX ps n) w.ts cs)=true
 have e:iX p.nm ps=some p:=by
  cases e:iX p.nm ps with
  | none=>exact absurd rfl (o5 e p hp)
  | some q=>obtain ⟨hq,en⟩:=dS e;rw [DW nd q hq p hp en]
 have e2:jt X p=some ⟨p.nm,p.cs,f.1⟩:=by unfold jt;rw [hf];rfl
 rw [vU cp nd,e,Option.bind_some,e2];show jG (gX ps n) f.1 cs=true;unfold jG;rw [h,decide_eq_true hl.symm];rfl
def shC:Nat->D->Prop
 | 0,_=>False
 | n+1,c=>∃ nm cs,c=.tup [.str nm,.tup cs]/\cs.length<=8/\∀ x ∈ cs,shC n x
noncomputable abbrev xk (p q:Int) (rest:List V):HO:=.lst (.int p::.int q::rest)
variable {H':Hp} {zs zs':List V}
theorem LD.but {K:W.Frag} {t:Addr} (h:LD K H ds v) (n:v≠.ref t) (e:But t H H') (h1:H t=some (.lst zs)) (h2:H' t=some (.lst zs')):LD K H' ds v:=by obtain ⟨a,vs,rfl,ha,hd⟩:=h;have na:a≠t:=λz=>n (by rw [z]);exact ⟨a,vs,rfl,ha.elim (λz=>.inl (e _ _ na z)) .inr,Dats.mono (e.grow h1 h2) _ hd⟩
def vM (K:W.Frag) (n:Nat):Sp:=λvs H Q _=>∃ (a t:Addr) (ns:List Int) (X:Tr) (v2 v3:V) (ps:List Pc) (p q:Int) (rest:List V),vs=[.ref a,.ref t,v2,v3]/\Scr K H a ns/\H t=some (xk p q rest)/\0<=p/\jy ps/\((∀ p ∈ BP,p ∈ ps)/\(ps.map (·.nm)).Nodup)/\okT X/\a9 X<=n/\n<=8/\Dat K H (toD X) v2/\LD K H (ps.map pcD) v3/\v3≠.ref t /\
 ∀ (v:V) (H':Hp) (c:D) (p' q':Int),But t H H'->H' t=some (xk p' q' rest)->0<=p'->(shC n c/\gX ps n X c=true)->Dat K H' c v->Q v H'
theorem CS (vs:List V) (H:Hp) (Q:VK) (E:XK):¬ vM K 0 vs H Q E:=λ⟨a,t,ns,X,v2,v3,ps,p,q,rest,_,_,_,_,_,_,_,h,_⟩=>by
 have:1<=a9 X:=by cases X <;> simp [a9]
 omega
variable {H1:Hp}
theorem qZ {K:PySem.W.Frag} {J:It} {us:List V} {σ0:L2.St} {t:Addr} {rest:List V} {p q:Int} {Q:Hp->Prop} {g:Tr->D->Bool} (Ok:Hp->Prop)
  (go:∀ i G,Ok G->i < us.length->J.go i G/\∀ x G',J.yld i G x G'->G'=G/\x=us.getD i .non) (stop:∀ G,Ok G->J.stop us.length G) (h0:σ0.set j none=σ0) (hl:H1 l=none) (hT:H1 t=some (xk p q rest)) (hp:0<=p) (lu:ts.length=us.length) (l8:ts.length<=8)
  (keep:∀ G,But t H1 G->Ok G)
  (turn:∀ (i:Nat) (x:Tr) (G:Hp) (p' q':Int) (R:VK),ts[i]?=some x->But t H1 G->G t=some (xk p' q' rest)->0<=p'->(∀ v G' c p'' q'',But t G G'->G' t=some (xk p'' q'' rest)->0<=p''->(shC n c/\g x c=true)->Dat K G' c v->R v G')->te (σ0.set j (some (us.getD i .non))) G R)
  (fin:∀ cs zs G p' q',But t H1 G->G t=some (xk p' q' rest)->0<=p'->G l=some (.lst zs)->Dats K G cs zs->cs.length=ts.length->((∀ c ∈ cs,shC n c)/\(jf g ts cs).all id=true)->Q G) :
  ∃ W:Nat->Nat->L2.St->Hp->Prop,(∃ m,W 0 m σ0 (upd H1 l (.lst [])))/\∀ i m σ' H',W i m σ' H' ->
   (J.stop i H'/\Q H') \/
   (J.go i H'/\∃ Nx:L2.St->Hp->Prop,(∀ σ'' H'',Nx σ'' H''->∃ m',m' < m/\W (i+1) m' σ'' H'')/\∀ x H'',J.yld i H' x H''->c6 j x σ' H'' λσ2 H2=>fO σ2 H2 λb H3 =>
    if b=true then te σ2 H3 λv H4=>∃ ys,H4 l=some (.lst ys)/\ys.length < sizeLine/\Nx σ2 (upd H4 l (.lst (ys++[v]))) else Nx σ2 H3):=by
 have nlt:l≠t:=Ne.symm (aM hT hl);refine kC (tt:=fO) (Q:=λ_ G=>Q G) Ok go stop h0 l (λi G=>∃ (cs:List D) (zs:List V) (p' q':Int),But t H1 G/\G t=some (xk p' q' rest)/\0<=p'/\G l=some (.lst zs)/\Dats K G cs zs/\cs.length=i/\(∀ c ∈ cs,shC n c)/\(jf g (ts.take i) cs).all id=true) ?_ (λi G _ ⟨_,_,_,_,b,_⟩=>keep G b) (λi G hi pn=>?_) (λG pn=>?_)
 ·exact ⟨[],[],p,q,(aR hl _).but,by rw [aZ (Ne.symm nlt)];exact hT,hp,aH,Dats.nil,rfl,(λc hc=>by cases hc),by rw [List.take_zero];rfl⟩
 ·obtain ⟨cs,zs,p',q',bG,tG,gp,hlG,dG,lcs,hcs,hcp⟩:=pn;have hi':i < ts.length:=by omega
  simp only [fO,if_true];refine (turn i ts[i] G p' q' _ (List.getElem?_eq_getElem hi') bG tG gp λv G2 c p2 q2 b2 t2 g2 hc dc=>?_);have hl2:=b2 _ _ nlt hlG;have g12:fE K G G2:=b2.grow tG t2;have lz:=dG.length;have b3:But l G2 (upd G2 l (.lst (zs++[v]))):=But.upd (Same.refl _).but;have g23:fE K G2 (upd G2 l (.lst (zs++[v]))):=b3.grow hl2 aH;refine ⟨zs,hl2,bX (by omega),⟨_,rfl⟩,cs++[c],zs++[v],p2,q2,λb o nb hb=>b3 b o (aM hb hl) (b2 b o nb (bG b o nb hb)),b3 _ _ (Ne.symm nlt) t2,g2,aH,Dats.append (Dats.mono g23 _ (Dats.mono g12 _ dG)) (Dats.cons (Dat.mono g23 _ dc) Dats.nil),by rw [List.length_append,lcs];rfl,(λx hx=>?_),?_⟩
  ·rcases List.mem_append.mp hx with hx | hx
   ·exact hcs x hx
   ·rw [List.mem_singleton.mp hx];exact hc.1
  ·rw [List.take_add_one,List.getElem?_eq_getElem hi',Option.toList_some,wN (by rw [List.length_take];omega),List.all_append,hcp];simp only [List.all_cons,List.all_nil,id,hc.2,Bool.and_true]
 ·obtain ⟨cs,zs,p',q',bG,tG,gp,hlG,dG,lcs,hcs,hcp⟩:=pn;exact fin cs zs G p' q' bG tG gp hlG dG (by omega) ⟨hcs,by rw [List.take_of_length_le (by omega)] at hcp;exact hcp⟩
theorem zO (h:okT X) (hp:jM X=false):∃ p ∈ BP,∃ f,cH p.pt X=some f:=by
 cases X with
 | num n =>refine ⟨⟨"two",.gap 0 9999,[.int 2,.tup [.str "low",.int 0],.tup [.str "high",.int 0]]⟩,by simp [BP],([],[n],[]),?_⟩;show (if n<=9999 then _ else _)=_;rw [if_pos h.2]
 | arg k=>exact ⟨⟨"slot",.slot 0,[.int 3,.tup [.str "arg",.int 0]]⟩,by simp [BP],([],[],[k]),rfl⟩
 | two o a b =>obtain ⟨c,hc⟩:=A2 h.1;exact ⟨_,hc,_,EH o a b⟩
 | pick a b c=>cases hp
def WayL (K:W.Frag) (ps:List Pc) (G:Hp) (X:Tr) (lw t:Addr) (v:V):Prop:=∃ (pa l:Addr) (nm:Str) (ts:List Tr),v=.ref pa/\SqT K G pa [.str nm,.ref l]/\LD K G (ts.map toD) (.ref l)/\l≠lw/\l≠t/\(∀ x ∈ ts,x ∈ (cR X).flatMap bC)/\ts.length<=8/\Wof ps X nm ts
variable {lw:Addr}
theorem WayL.same {K:W.Frag} {t:Addr} (h:WayL K ps G X lw t v) (s:Same G G'):WayL K ps G' X lw t v:=by obtain ⟨pa,l,nm,ts,e,h1,h2,r⟩:=h;exact ⟨pa,l,nm,ts,e,s.sqT h1,s.ld h2,r⟩
theorem WayL.but {K:W.Frag} {t x:Addr} (h:WayL K ps G X lw t v) (hx:x=lw\/x=t) (e:But x G G') (h1:G x=some (.lst zs)) (h2:G' x=some (.lst zs')):WayL K ps G' X lw t v:=by
 obtain ⟨pa,l,nm,ts,ev,k1,k2,n1,n2,r⟩:=h;refine ⟨pa,l,nm,ts,ev,e.sqT h1 k1,LD.but k2 (λz=>?_) e h1 h2,n1,n2,r⟩;have z:l=x:=by injection z
 rcases hx with rfl | rfl
 ·exact n1 z
 ·exact n2 z
theorem uX (T:Txt P w K mg) (Jf:Ok P w base k T.HH (vM K n)) (Ii:Ok P w base k T.Hs (kX K oL 3)) (Hv:Ok P w base k T.Ha (qp K)):Ok P w base (k+1) T.HH (vM K (n+1)):=by
 refine T.HH.f.ok sc__law_any (λvs H Q E h=>?_) (λcdv A outer s H vs Q E hr h=>?_)
 ·obtain ⟨a,t,ns,X,v2,v3,ps,p,q,rest,rfl,_⟩:=h;rfl
 have nd:=sc__law_any.nd;obtain ⟨a,t,ns,X,v2,v3,ps,p,q,rest,rfl,hS,hT,hp,okS,hBP,okX,dpX,n8,h2,h3,n3,post⟩:=h;refine ⟨_,(aG (bL (aN bY (aT aV (pv 2) aE) aP (aU _)) (aI (aQ (bB (aD aP (aD (dQ cX rfl T.Hl dB (aD (dE (own:=["_law_one"]) (fr:=[0,1,3]) (N':=["_law_one","_law_script","_law_town","_law_some"]) (j3 (ji nO (pv 2) (i4 aE) mK)) rfl (by show cZ ["_law_script","_law_town","_law_tree_here","_law_some","_law_ways","_law_piece","_law_found","_law_name","_law_holes"] (λx=>(aO j8).names.lookup x) _ _ _ _=true;decide +kernel) rfl (λ_ _ _ _ _=>(a7 (i:=0) (by show List.Nodup [("_law_one":Str),("_law_script":Str),("_law_town":Str),("_law_some":Str)];decide +kernel) rfl (Or.inl rfl))) (λ_ _ _ _ _=>cO) (λ_ _ _ _ _=>(pc (D:=T.HH) Jf hr (aD (pv 1) (aD (pv 2) (aD (pv 0) (aD (pv 3) aC))))))) aC)) aC))))) aW)
 (aG (bT (i:=4) nd rfl (Or.inl rfl) (bR aC))
 (aG (iV PassesOwn.never rfl (fK (pv 3)) (a7 (i:=5) nd rfl (Or.inl rfl)) (aG (bT (i:=6) nd rfl (Or.inl rfl) (bR (aD (bR aC) (aD (bR aC) (aD (bR aC) aC)))))
 (aI (bL (bQ (pc (D:=T.Hs) Ii hr (aD (aT aV (pv 5) aE) (aD (pv 2) (aD (pv 6) aC)))) (λ_=>rfl)) (aI (bW (eQ F.plainAttrs_list F.slot_list_append F.type_list_append bV (pv 4) (aD (bB (aD (aT aV (pv 5) aE) (aD (aT bP (pv 6) aE) aC))) aC)))) aW))))
 (aG (hE (pc (D:=T.Ha) Hv hr (aD (pv 0) (aD (pv 1) (aD (pv 4) aC)))) (gO rfl (bM (a7 (i:=7) nd rfl (Or.inl rfl)) (bM (a7 (i:=8) nd rfl (Or.inl rfl)) dF))))
 (aI (aQ (bB (aD (pv 7) (aD (dQ cX rfl T.Hl dB (aD (dE (own:=["_law_one"]) (fr:=[0,1,3]) (N':=["_law_one","_law_script","_law_town","_law_some"]) (fK (pv 8)) rfl (by show cZ ["_law_script","_law_town","_law_tree_here","_law_some","_law_ways","_law_piece","_law_found","_law_name","_law_holes"] (λx=>(aO j8).names.lookup x) _ _ _ _=true;decide +kernel) rfl (λ_ _ _ _ _=>(a7 (i:=0) (by show List.Nodup [("_law_one":Str),("_law_script":Str),("_law_town":Str),("_law_some":Str)];decide +kernel) rfl (Or.inl rfl))) (λ_ _ _ _ _=>cO) (λ_ _ _ _ _=>(pc (D:=T.HH) Jf hr (aD (pv 1) (aD (pv 2) (aD (pv 0) (aD (pv 3) aC))))))) aC)) aC))))))))),?_⟩
 obtain ⟨kd,r,ek,hpk,hcall,hkids⟩:=uK X okX;have h2':Dat K H (.tup (.str kd::r)) v2:=by rw [<- ek];exact h2
 refine aS (K:=K) (b:=jM X) (RT.as (aJ (bI (aY (k:=0) (aA (k:=2) h2') aF rfl) aK)) hpk) (λcp H1 s1=>?_) (λcp H1 s1=>?_)
 ·have er:=hkids cp;subst er;refine hU (yd (dH (yj (dH (iO (Dk (K:=K) (RE.use (K:=K) (jR (aA (k:=2) (s1.dat h2'))) λvx H2 s2 qx=>?_)))))));obtain ⟨ax,us,rfl,hax,dus⟩:=qx.tupE;have lu:=dus.length;rw [List.length_map] at lu;have s12:=s1.trans s2;have hT2:=s12 _ _ hT
  have l3:(cR X).length<=8:=by
   cases X with
   | pick a b c=>exact by simp [cR]
   | _=>cases cp
  refine ⟨ax,rfl,⟨us,hax⟩,λl hl=>qZ (K:=K) (n:=n) (g:=gX ps n) (ts:=cR X) (us:=us) (λG=>SqT K G ax us) (λi G o hi=>As i G o hi) (λG o=>⟨us,o,Nat.le_refl _⟩) rfl hl hT2 hp lu l3 (λG b=>b.sqT hT2 hax) (λi x G p' q' R hx bG tG gp hR=>?_) (λcs zs G p' q' bG tG gp hlG dG lcs hcs=>?_)⟩
  ·have hil:i < us.length:=by rw [<- lu];exact (List.getElem?_eq_some_iff.mp hx).1
   have hu:us[i]?=some us[i]:=List.getElem?_eq_getElem hil;have hui:us.getD i .non=us[i]:=by rw [List.getD_eq_getElem?_getD,hu];rfl
   have gG:fE K H2 G:=bG.grow hT2 tG;obtain ⟨dx,edx,hdx⟩:=(Dats.mono gG _ dus).getV hu;rw [List.getElem?_map,hx] at edx;cases edx;rw [hui];have ks:=rq (List.mem_of_getElem? hx);have okx:=fQ X x okX (iC (List.mem_flatMap.mpr ⟨x,List.mem_of_getElem? hx,rN x⟩));refine jA ⟨_,rfl,_,rfl,_,rfl,_,rfl,a,t,ns,x,_,_,ps,p',q',rest,rfl,(hS.same s12).but bG hT2,tG,gp,okS,hBP,okx,by omega,by omega,hdx,LD.but (s12.ld h3) n3 bG hT2 tG,n3,hR⟩
  ·refine ⟨l,zs,rfl,.inl ⟨SqL.of hlG,λpt hpt=>⟨cW (by simp),λpu hpu=>?_⟩⟩⟩;have sa:Same G (upd G pt (.tup zs)):=aR hpt _;have sb:=aR hpu (.tup [.str "pick",.ref pt]);refine post _ _ (.tup [.str "pick",.tup cs]) p' q' (((s12.but.trans bG).trans sa.but).trans sb.but) (sb _ _ (sa _ _ tG)) gp ⟨⟨"pick",cs,rfl,by omega,hcs.1⟩,Ae cp lcs hcs.2⟩ ?_;exact Dat.tupI (SqT.of aH) (Dats.cons (Dat.strI _) (Dats.cons (sb.dat (Dat.tupI (SqT.of aH) (sa.dats dG))) Dats.nil))
 ·obtain ⟨av,vs,rfl,hav,dvs⟩:=h3;have lv:=dvs.length;rw [List.length_map] at lv;refine eF ⟨cW (by decide),λlw hlw=>?_⟩;have s2:Same H1 (upd H1 lw (.lst [])):=aR hlw _;have s12:=s1.trans s2;have hwn:H lw=none:=s1.free hlw;have nwt:lw≠t:=Ne.symm (aM hT hwn);refine c9 ⟨_,rfl,av,rfl,⟨vs,(s12.aLst hav).sqL⟩,kE (xs:=vs) (λi σ G=>∃ (z5 z6:Option V) (ys:List V),σ=[some (.ref a),some (.ref t),some v2,some (.ref av),some (.ref lw),z5,z6,none,none]/\Same H G/\G lw=some (.lst ys)/\ys.length<=i/\(∀ v ∈ ys,WayL K ps G X lw t v)/\((∃ p ∈ ps.take i,∃ f,cH p.pt X=some f)->0 < ys.length)) ?_ (λi σ G _ ⟨_,_,_,_,p,_⟩=>(p.aLst hav).sqL) ?_ ?_⟩
  ·exact ⟨none,none,[],rfl,s12,aH,Nat.le_refl _,(λv hv=>by cases hv),(λ⟨p,hp,_⟩=>by simp at hp)⟩
  ·rintro i vx σ G hi ⟨z5,z6,ys,rfl,sG,hwG,lys,hys,hne⟩;obtain ⟨dx,ex,hx⟩:=(sG.dats dvs).getV hi;rw [List.getElem?_map] at ex
   cases hpi:ps[i]? with
   | none=>rw [hpi] at ex;cases ex
   | some pi =>
    rw [hpi] at ex;cases ex;have okp:=okS.ok pi (List.mem_of_getElem? hpi);have few:=okS.few;have hil:i < vs.length:=(List.getElem?_eq_some_iff.mp hi).1;have et:ps.take (i+1)=ps.take i++[pi]:=by rw [List.take_add_one,hpi];rfl
    refine j6 ?_;dsimp only;refine eF (Bh λf l0 l1 l2 G1 N=>?_);have hx1:Dat K G1 (.tup [.str pi.nm,toP pi.pt,.tup pi.cs]) vx:=N.s.dat hx;have hl0:∀ b o,G b=some o->b≠l0:=λb o hb=>aM hb N.f0;refine D2 (K:=K) (j:=6) N okp.ok okX (by omega) okp.dp (aY (k:=1) (aA (k:=5) hx1) aF rfl) (aA (k:=2) ((sG.trans N.s).dat h2)) λG2 s2 full=>?_;have hwG2:=s2 _ _ hwG
    cases hft:cH pi.pt X with
    | none =>
     refine ⟨_,rfl,jN (lD ⟨_,_,ys,rfl,sG.trans s2,hwG2,by omega,λv hv=>(hys v hv).same s2,λ⟨q,hq,g,hg⟩=>?_⟩)⟩;rw [et] at hq;rcases List.mem_append.mp hq with hq | hq
     ·exact hne ⟨q,hq,g,hg⟩
     ·rw [List.mem_singleton.mp hq,hft] at hg;cases hg
    | some fd =>
     have F3:=full fd hft;refine ⟨_,rfl,jv ?_⟩;refine ⟨_,rfl,.inl ⟨rfl,_,SqL.of hwG2⟩,?_⟩;refine dH (yd (dH (RE.use (K:=K) (d:=.str pi.nm) (aY (k:=0) (aA (k:=5) (s2.dat hx)) aF rfl) λwn G3 s3 qn=>dH ?_)));have en:=qn.strE;subst en;refine ⟨_,rfl,f,_,0,.ref l0,rfl,rfl,SqL.of (s3 _ _ F3.hf),rfl,?_⟩;refine ⟨cW (by simp),λpa hpa=>?_⟩;have s4:Same G3 (upd G3 pa (.tup [.str pi.nm,.ref l0])):=aR hpa _;have s24:=s3.trans s4;have hw4:=s24 _ _ hwG2;refine ⟨lw,ys,_,rfl,rfl,hw4,bX (by omega),?_⟩;have b5:But lw (upd G3 pa (.tup [.str pi.nm,.ref l0])) (upd (upd G3 pa (.tup [.str pi.nm,.ref l0])) lw (.lst (ys++[.ref pa]))):=But.upd (Same.refl _).but;refine ⟨_,_,ys++[.ref pa],rfl,λb o hb=>b5 b o (aM hb hwn) ((s2.trans s24) _ _ (sG _ _ hb)),aH,by rw [List.length_append];simp;omega,λv hv=>?_,λ_=>by rw [List.length_append];simp⟩;rcases List.mem_append.mp hv with hv | hv
     ·exact ((hys v hv).same (s2.trans s24)).but (.inl rfl) b5 hw4 aH
     ·rw [List.mem_singleton.mp hv]
      have few8:fd.1.length<=8:=by have hw:=xp (ps:=ps) (List.mem_of_getElem? hpi) cp hft;exact (uh okS.ok hw).1
      exact WayL.but (x:=lw) ⟨pa,l0,pi.nm,fd.1,rfl,SqT.of aH,s24.ld F3.h0,Ne.symm (hl0 _ _ hwG),Ne.symm (hl0 _ _ (sG _ _ hT)),jL okp.nh hft,few8,pi,fd,List.mem_of_getElem? hpi,rfl,hft,rfl⟩ (.inl rfl) b5 hw4 aH
  ·rintro σ G ⟨z5,z6,ys,rfl,sG,hwG,lys,hys,hne⟩;dsimp only;have few:=okS.few
   have pos:0 < ys.length:=by obtain ⟨pb,hpb,fb,hfb⟩:=zO okX cp;exact hne ⟨pb,by rw [<- lv,List.take_length];exact hBP.1 pb hpb,fb,hfb⟩
   have hTG:=sG _ _ hT;refine oN (jA ⟨_,rfl,_,rfl,_,rfl,a,t,lw,ns,ys,p,q,rest,rfl,hS.same sG,SqL.of hwG,nwt,pos,by omega,hTG,hp,λi x G2 p2 q2 b2 t2 g2 hx=>?_⟩);obtain ⟨pa,l,nm,ts,rfl,hpa,hl,nlw,nlt,tail,few8⟩:=(hys x (List.mem_of_getElem? hx)).but (.inr rfl) b2 hTG t2;refine ⟨pa,_,rfl,hpa,rfl,_,_,rfl,_,_,rfl,rfl,?_⟩
   try dsimp only
   obtain ⟨al,us,eal,hal,dus⟩:=id hl;have lu:=dus.length;rw [List.length_map] at lu;refine hU (yd (dH ⟨_,rfl,dH (iO ?_)⟩));have el:l=al:=by injection eal
   subst el;refine ⟨_,rfl,l,rfl,⟨us,hal.sqL⟩,λl4 hl4=>qZ (K:=K) (n:=n) (g:=gX ps n) (ts:=ts) (us:=us) (λG=>SqL K G l us) (λi G o hi=>pd i G o hi) (λG o=>⟨us,o,Nat.le_refl _⟩) rfl hl4 t2 g2 lu few8.1 (λG b=>(hal.elim (λz=>.inl (b _ _ nlt z)) .inr:aLst K G l us).sqL) (λi x G3 p' q' R hx bG tG gp hR=>?_) (λcs zs G3 p' q' bG tG gp hlG dG lcs hcs=>?_)⟩
   ·have hil:i < us.length:=by rw [<- lu];exact (List.getElem?_eq_some_iff.mp hx).1
    have hu:us[i]?=some us[i]:=List.getElem?_eq_getElem hil;have hui:us.getD i .non=us[i]:=by rw [List.getD_eq_getElem?_getD,hu];rfl
    have gG:fE K G2 G3:=bG.grow t2 tG;obtain ⟨dx,edx,hdx⟩:=(Dats.mono gG _ dus).getV hu;rw [List.getElem?_map,hx] at edx;cases edx;rw [hui];have ks:=gQ (tail x (List.mem_of_getElem? hx));have okx:=fQ X x okX (iC (tail x (List.mem_of_getElem? hx)));have h3G:LD K G2 (ps.map pcD) (.ref av):=LD.but (sG.ld (show LD K H (ps.map pcD) (.ref av) from ⟨av,vs,rfl,hav,dvs⟩)) n3 b2 hTG t2;exact jA ⟨_,rfl,_,rfl,_,rfl,_,rfl,a,t,ns,x,_,_,ps,p',q',rest,rfl,((hS.same sG).but b2 hTG).but bG t2,tG,gp,okS,hBP,okx,by omega,by omega,hdx,LD.but h3G n3 bG t2 tG,n3,hR⟩
   ·refine ⟨l4,zs,rfl,.inl ⟨SqL.of hlG,λpt hpt=>⟨cW (by simp),λpu hpu=>?_⟩⟩⟩;have sa:Same G3 (upd G3 pt (.tup zs)):=aR hpt _;have sb:=aR hpu (.tup [.str nm,.ref pt]);refine post _ _ (.tup [.str nm,.tup cs]) p' q' ((((sG.but.trans b2).trans bG).trans sa.but).trans sb.but) (sb _ _ (sa _ _ tG)) gp ⟨⟨nm,cs,rfl,by omega,hcs.1⟩,Cj cp hBP.2 few8.2 lcs hcs.2⟩ ?_;exact Dat.tupI (SqT.of aH) (Dats.cons (Dat.strI _) (Dats.cons (sb.dat (Dat.tupI (SqT.of aH) (sa.dats dG))) Dats.nil))
noncomputable abbrev LPP:List Pc:=[⟨"inc",.two "add" (.hole 0) (.num 1),[.int 12,.int 1]⟩,⟨"both",.two "add" (.slot 0) (.slot 1),[.int 3,.tup [.str "arg",.int 0],.int 3,.tup [.str "arg",.int 1],.int 4]⟩,⟨"twofold",.two "mul" (.hole 0) (.num 2),[.int 13,.int 4]⟩,⟨"fewer",.two "sub" (.hole 0) (.gap 0 99),[.int 1,.tup [.str "low",.int 0],.int 5]⟩,⟨"addmul",.two "add" (.two "mul" (.hole 0) (.hole 1)) (.gap 0 99),[.int 6,.int 12,.tup [.str "low",.int 0]]⟩,⟨"turned",.two "less" (.gap 0 99) (.hole 0),[.int 1,.tup [.str "low",.int 0],.int 14,.int 7]⟩,⟨"far",.two "add" (.hole 0) (.gap 0 9999),[.int 2,.tup [.str "low",.int 0],.tup [.str "high",.int 0],.int 4]⟩,⟨"pair",.two "sub" (.gap 0 99) (.gap 1 99),[.int 1,.tup [.str "low",.int 0],.int 1,.tup [.str "low",.int 1],.int 5]⟩]
theorem Gu:BP.map pcD=BAS:=rfl
noncomputable abbrev ALLP:List Pc:=BP++LPP
structure gdP (p:Pc):Prop where
 ok:wD p
 pc:pQ (pcD p)=some true/\p.nm.length<=sizeLine
 nl:noL (pcD p)=true/\gD (pcD p)<=19
 cl:DO p (cF p)
theorem EJ:∀ p ∈ ALLP,gdP p:=by intro p hp;simp only [ALLP,BP,LPP,List.cons_append,List.nil_append,List.append_nil,List.mem_cons,List.not_mem_nil,or_false] at hp;rcases hp with rfl | rfl | rfl | rfl | rfl | rfl | rfl | rfl | rfl | rfl | rfl | rfl | rfl | rfl | rfl | rfl <;> exact ⟨⟨by decide +kernel,by simp [wC,okB],by decide,by decide,rfl⟩,⟨by decide +kernel,by decide⟩,⟨by decide +kernel,by decide +kernel⟩,by kernel_rfl,λc hc=>List.all_eq_true.mp (show List.all (cF _) (Ci _ _)=true by decide +kernel) c hc⟩
theorem Ec:(ALLP.map (·.nm)).Nodup:=by decide +kernel
structure gdS (ps:List Pc):Prop where
 gs:mB ps
 ok:jy ps
 la:yF ps
 hp:∀ p ∈ ps,gM p.pt=true/\p.nm≠"pick"
 bp:∀ p ∈ BP,p ∈ ps
theorem CA {sub:List Pc} (h:sub.Sublist LPP):gdS (BP++sub):=by have hs:(BP++sub).Sublist ALLP:=(List.Sublist.refl BP).append h;have nd:=(hs.map (·.nm)).nodup Ec;have l8:sub.length<=8:=h.length_le;have g:∀ p ∈ BP++sub,gdP p:=λp hp=>EJ p (hs.subset hp);exact ⟨⟨by rw [List.length_append];show 1<=8+sub.length;omega,by rw [List.length_append];show 8+sub.length<=16;omega,λp hp=>(g p hp).pc,nd⟩,⟨λp hp=>(g p hp).ok,by rw [List.length_append];show 8+sub.length<=100;omega⟩,⟨⟨nd,λp hp=>(g p hp).nl⟩,λp hp=>(g p hp).cl⟩,λp hp=>⟨(g p hp).ok.nh,(g p hp).ok.nm⟩,λp hp=>List.mem_append_left _ hp⟩
def D7 (K:W.Frag):Sp:=λvs H Q _=>∃ (a t:Addr) (ns:List Int) (p q:Int) (rest:List V),vs=[.ref a,.ref t]/\Scr K H a ns/\H t=some (.lst (.int p::.int q::rest))/\0<=p /\
 ∀ (sub:List Pc) (l:Addr) (ys:List V) (H':Hp) (p' q':Int),But t H H'->H' t=some (.lst (.int p'::.int q'::rest))->0<=p'->sub.Sublist LPP->H l=none->H' l=some (.lst ys)->Dats K H' ((BP++sub).map pcD) ys->Q (.ref l) H'
theorem va (T:Txt P w K mg) (J0:Ok P w base k T.HB (jC K λds es=>ds=[]/\es=LPD)) (Hn:Ok P w base k T.GV (qm K)):Ok P w base (k+1) T.Jj (D7 K):=by
 refine T.Jj.f.ok sc__law_set (λvs H Q E h=>?_) (λcdv A outer s H vs Q E hr h=>?_)
 ·obtain ⟨a,t,ns,p,q,rest,rfl,_⟩:=h;rfl
 have nd:=sc__law_set.nd;obtain ⟨a,t,ns,p,q,rest,rfl,hS,hT,hp,post⟩:=h;refine ⟨_,(aG (jk (i:=2) (own:=["_law_piece"]) (fr:=[0,1]) (N':=["_law_piece","_law_script","_law_town"]) (fK (vt J0 hr rfl T.HB.m T.HB.f.kp T.HB.b .nil A3)) rfl (by show cZ ["_law_script","_law_town","_law_more"] (λx=>(aO me).names.lookup x) _ _ _ _=true;decide +kernel) rfl (λ_ _ _ _ _=>(a7 (i:=0) (by show List.Nodup [("_law_piece":Str),("_law_script":Str),("_law_town":Str)];decide +kernel) rfl (Or.inl rfl))) (λ_ _ _ _ _=>(pR (aN bY (pc (D:=T.GV) Hn hr (aD (pv 1) (aD (pv 2) (aD aE aC)))) aE (aU _)))) (λ_ _ _ _ _=>(pv 0)) nd rfl rfl rfl)
 (aI (aQ (bO eV (cK (v:=.ref T.JQ) rfl T.Jr rfl) (pv 2))))),?_⟩
 refine eF (vF (K:=K) (λr us H1=>Same H H1/\H r=none/\Dats K H1 LPD us) (λR hR=>⟨[],LPD,Dats.nil,⟨rfl,rfl⟩,λr us H1 s1 hr hr0 hd=>hR r us H1 hr ⟨s1,hr0,hd⟩⟩) rfl (λr us H1 l hr hM hl=>?_));obtain ⟨s1,hr0,hd⟩:=hM;have hT1:=s1 _ _ hT;have nrt:r≠t:=Ne.symm (aM hT hr0);have nlt:l≠t:=Ne.symm (aM hT1 hl);have nlr:r≠l:=aM hr hl;have lu:=hd.length;have lu8:us.length=8:=by rw [<- lu];rfl
 refine ⟨
  (λi G=>∃ (sub:List Pc) (ys:List V) (p' q':Int),But t H1 G/\G t=some (.lst (.int p'::.int q'::rest))/\0<=p'/\sub.Sublist (LPP.take i)/\G l=some (.lst ys)/\Dats K G (sub.map pcD) ys/\sub.length<=i),?_,(λi G hi ⟨_,_,_,_,b,_⟩=>SqL.of (b _ _ nrt hr)),(λi G hi pn=>?_),(λG pn=>?_)⟩
 ·exact ⟨[],[],p,q,(aR hl _).but,by rw [aZ (Ne.symm nlt)];exact hT1,hp,List.nil_sublist _,aH,Dats.nil,Nat.le_refl _⟩
 ·obtain ⟨sub,ys,p',q',bG,tG,gp,hsub,hlG,dG,lsub⟩:=pn;have ly:=dG.length;rw [List.length_map] at ly;have gG:fE K H1 G:=bG.grow hT1 tG;have hdG:Dats K G LPD us:=Dats.mono gG _ hd;obtain ⟨dx,ex,hx⟩:=hdG.getV (List.getElem?_eq_getElem hi);have hx':(LPP.map pcD)[i]?=some dx:=ex;rw [List.getElem?_map] at hx'
  cases hpp:LPP[i]? with
  | none=>rw [hpp] at hx';cases hx'
  | some pp =>
   rw [hpp] at hx';cases hx';have et:LPP.take (i+1)=LPP.take i++[pp]:=by rw [List.take_add_one,hpp];rfl
   have hitem:us.getD i .non=us[i]:=by rw [List.getD_eq_getElem?_getD,List.getElem?_eq_getElem hi];rfl
   refine ⟨_,rfl,_,rfl,a,t,ns,2,p',q',rest,rfl,hS.but (s1.but.trans bG) hT,tG,gp,by decide,by decide,λr3 G3 p3 q3 b3 t3 g3 r3a r3b=>?_⟩;refine ⟨rfl,_,rfl,?_⟩;have hl3:=b3 _ _ nlt hlG;have g3':fE K G G3:=b3.grow tG t3;refine qE (λc=>?_) (λc=>?_)
   ·refine ⟨_,rfl,ys,hl3,bX (by omega),⟨_,rfl⟩,?_⟩;rw [hitem];have b4:But l G3 (upd G3 l (.lst (ys++[us[i]]))):=But.upd (Same.refl _).but;have g4:fE K G3 (upd G3 l (.lst (ys++[us[i]]))):=b4.grow hl3 aH;refine ⟨sub++[pp],ys++[us[i]],p3,q3,λb o nb hb=>b4 b o (aM hb hl) (b3 b o nb (bG b o nb hb)),b4 _ _ (Ne.symm nlt) t3,g3,?_,aH,?_,?_⟩
    ·rw [et];exact hsub.append (List.Sublist.refl _)
    ·rw [List.map_append];exact Dats.append (Dats.mono g4 _ (Dats.mono g3' _ dG)) (Dats.cons (Dat.mono g4 _ (Dat.mono g3' _ hx)) Dats.nil)
    ·rw [List.length_append];simp;omega
   ·refine ⟨⟨_,rfl⟩,sub,ys,p3,q3,bG.trans b3,t3,g3,?_,hl3,Dats.mono g3' _ dG,by omega⟩;rw [et];exact hsub.trans (List.sublist_append_left _ _)
 ·obtain ⟨sub,ys,p',q',bG,tG,gp,hsub,hlG,dG,lsub⟩:=pn;have hL:LD K G (sub.map pcD) (.ref l):=LD.of hlG dG;have hsub':sub.Sublist LPP:=hsub.trans (List.take_sublist _ _);refine hU (RC.use (K:=K) (eY (Ft T.KA) (bA (k:=2) hL) (by rw [List.length_map];show 8+sub.length<=1000;omega)) λlz zs G2 hlz s2 hzs dzs=>?_);refine post sub lz zs G2 p' q' ((s1.but.trans bG).trans s2.but) (s2 _ _ tG) gp hsub' ?_ hzs ?_
  ·cases h:H lz with
   | none=>rfl
   | some o =>
    have h1:=s1 _ _ h;by_cases e:lz=t
    ·rw [e,tG] at hlz;cases hlz
    ·rw [bG _ _ e h1] at hlz;cases hlz
  ·rw [List.map_append,Gu];exact dzs
noncomputable abbrev TTO:List (Str × KTD.Dat):=[("load",.flat (.int 3)),("skip",.flat (.int 9)),("zero",.flat (.int 9))]
noncomputable abbrev NM:List Str:=["end","put","far","load","add","sub","mul","less","skip","jump","zero","none","more","twice","about","call","back"]
noncomputable def fX (i:Int):Nat:=if i ∈ ([2,9,11,15]:List Int) then 2 else if i ∈ ([1,3,8,10,12]:List Int) then 1 else 0
structure okC (cs:List Int):Prop where
 l0:1<=cs.length
 l1:cs.length<=900
 c:∀ (i:Nat) (c:Int),cs[i]?=some c->0<=c/\c<=99
noncomputable def nmC (c:Int):Str:=NM.getD c.toNat ""
noncomputable def oC (cs:List Int) (p:Nat) (c:Int):Bool:=decide (16 < c) || decide (cs.length<=p+fX c)
noncomputable def iU (ns:List Int):Int:=ns.foldr (λc acc=>acc * 100+c) 0
noncomputable def two (o:Str) (x y b:Int):Int:=if o="less" then (if x < y then 1 else 0) else if o="add" then (x+y) % b else if o="sub" then (x - y) % b else x * y % b
noncomputable def bK (as:List Int) (b:Int):Tr->Int
 | .num n=>n % b
 | .arg k=>as.getD k.toNat 0
 | .two o x y=>two o (bK as b x) (bK as b y) b
 | .pick x y z=>if bK as b x=0 then bK as b z else bK as b y
structure MS where
 pile:List Int
 place:Nat
 kept:List Nat
 ended:Bool
structure MC where
 cs:List Int
 as:List Int
 b:Int
structure yO (mc:MC):Prop where
 cs:okC mc.cs
 as:mc.as.length=4
 ai:∀ x ∈ mc.as,0<=x/\x < mc.b
 b2:2<=mc.b
 b9:mc.b<=10000
structure kq (mc:MC) (st:MS):Prop where
 p:∀ x ∈ st.pile,0<=x/\x < mc.b
 l:st.pile.length<=64
 k:st.kept.length<=16
noncomputable def gU (st:MS):Option (Int × MS):=match st.pile with
 | []=>none
 | x::r=>some (x,{ st with pile:=r })
noncomputable def fN (mc:MC) (n:Int) (st:MS):Option MS:=if st.pile.length=64 then none else some { st with pile:=(n % mc.b)::st.pile }
noncomputable def mZ (nm:Str) (num on:Nat) (st:MS):Option (Nat × MS) :=
 if nm ∈ (["skip","jump"]:List Str) then some (on+num,st)
 else if nm ∈ (["zero","none"]:List Str) then (gU st).map λp=>(if p.1=0 then on+num else on,p.2)
 else if nm="call" then (if st.kept.length=16 then none else some (num,{ st with kept:=on::st.kept }))
 else match st.kept with
  | []=>none
  | k::r=>some (k,{ st with kept:=r })
noncomputable def mw (st:MS):Option MS:=if st.pile.length=1 then some { st with ended:=true } else none
noncomputable def dJ (mc:MC) (nm:Str) (num:Nat) (st:MS):Option MS :=
 if nm ∈ (["put","far"]:List Str) then fN mc num st
 else if nm="load" then fN mc (mc.as.getD num 0) st
 else (gU st).bind λu =>
  if nm="more" then fN mc (u.1+num) u.2
  else if nm="twice" then (fN mc u.1 u.2).bind λs=>fN mc u.1 s
  else if nm="about" then (gU u.2).bind λl=>(fN mc u.1 l.2).bind λs=>fN mc l.1 s
  else (gU u.2).bind λl=>fN mc (two nm l.1 u.1 mc.b) l.2
noncomputable def nsC (cs:List Int) (p:Nat) (c:Int):List Int:=(cs.drop (p+1)).take (fX c)
noncomputable def mF (cs:List Int) (p:Nat) (c:Int):Nat:=(iU (nsC cs p c)).toNat
noncomputable def iR (nm:Str) (num:Nat):Bool:=decide (jV nm TTO num < (num:Int))
noncomputable abbrev WS:List Str:=["skip","jump","zero","none","call","back"]
noncomputable def doM (mc:MC) (nm:Str) (num on:Nat) (st:MS):Option MS :=
 if nm ∈ WS then (mZ nm num on st).map λp=>{ p.2 with place:=p.1 }
 else if nm="end" then (mw st).map λs=>{ s with place:=on }
 else (dJ mc nm num st).map λs=>{ s with place:=on }
noncomputable def fR (mc:MC) (st:MS):Option MS:=match mc.cs[st.place]? with
 | none=>none
 | some c=>if oC mc.cs st.place c=true then none else if iR (nmC c) (mF mc.cs st.place c)=true then none
  else doM mc (nmC c) (mF mc.cs st.place c) (st.place+1+fX c) st
noncomputable def pV (l:List Int):List V:=l.reverse.map V.int
noncomputable def kpV (l:List Nat):List V:=l.reverse.map λ(n:Nat)=>V.int n
theorem gZ (x:Int) (l:List Int):pV (x::l)=pV l++[.int x]:=by unfold pV;rw [List.reverse_cons,List.map_append];rfl
theorem uN (x:Nat) (l:List Nat):kpV (x::l)=kpV l++[.int x]:=by unfold kpV;rw [List.reverse_cons,List.map_append];rfl
theorem wM (l:List Int):(pV l).length=l.length:=by unfold pV;rw [List.length_map,List.length_reverse]
theorem CN (l:List Nat):(kpV l).length=l.length:=by unfold kpV;rw [List.length_map,List.length_reverse]
inductive Res where
 | ends (v:Int)
 | fault (p:Nat)
 | late
 deriving DecidableEq
noncomputable def j7 (mc:MC):Nat->MS->Res
 | 0,_=>.late
 | n+1,st=>match fR mc st with
  | none=>.fault st.place
  | some s=>if s.ended=true then .ends (s.pile.headD 0) else j7 mc n s
theorem jq {x y b:Int} (hb:2<=b):0<=two o x y b/\two o x y b < b:=by
 unfold two;split
 ·split <;> omega
 ·split
  ·exact ⟨Int.emod_nonneg _ (by omega),Int.emod_lt_of_pos _ (by omega)⟩
  ·split
   ·exact ⟨Int.emod_nonneg _ (by omega),Int.emod_lt_of_pos _ (by omega)⟩
   ·exact ⟨Int.emod_nonneg _ (by omega),Int.emod_lt_of_pos _ (by omega)⟩
inductive Go (mc:MC):Nat->MS->MS->Prop
 | nil {s:MS}:Go mc 0 s s
 | cons {n:Nat} {s s1 s2:MS}:fR mc s=some s1->s1.ended=false->Go mc n s1 s2->Go mc (n+1) s s2
variable {mc:MC} {s1 s2:MS}
theorem Go.trans {m:Nat} {s3:MS} (a:Go mc n s1 s2) (b:Go mc m s2 s3):Go mc (n+m) s1 s3:=by
 induction a with
 | nil=>rw [Nat.zero_add];exact b
 | cons e d _ ih=>rw [Nat.succ_add];exact .cons e d (ih b)
variable {s':MS}
theorem Go.run {s:MS} (a:Go mc n s s') (k:Nat):j7 mc (n+k) s=j7 mc k s':=by
 induction a with
 | nil=>rw [Nat.zero_add]
 | cons e d _ ih =>rw [Nat.succ_add];show (match fR mc _ with | none=>_ | some s=>_)=_;rw [e];dsimp only;rw [d,if_neg Bool.false_ne_true];exact ih
noncomputable abbrev at_ (s:List Int) (p:Nat) (k:List Nat):MS:=⟨s,p,k,false⟩
variable {a b s:List Int}
theorem fL {args:List Int} {k:List Nat} (h:mc.cs=a++c::(args++b)) (hc:c<=16) (hl:args.length=fX c) :
  fR mc (at_ s a.length k)=if iR (nmC c) (iU args).toNat=true then none else doM mc (nmC c) (iU args).toNat (a.length+1+args.length) (at_ s a.length k):=by
 unfold fR
 have e1:mc.cs[(at_ s a.length k).place]?=some c:=by rw [h];show (a++c::(args++b))[a.length]?=some c;rw [List.getElem?_append_right (Nat.le_refl _),Nat.sub_self];rfl
 rw [e1]
 have e2:oC mc.cs (at_ s a.length k).place c=false:=by
  unfold oC
  rw [h,decide_eq_false (by omega),decide_eq_false (by
   show ¬ (a++c::(args++b)).length<=a.length+fX c;rw [List.length_append,List.length_cons,List.length_append];omega)]
  rfl
 have e3:mF mc.cs (at_ s a.length k).place c=(iU args).toNat:=by
  unfold mF nsC;rw [h];show (iU (((a++c::(args++b)).drop (a.length+1)).take (fX c))).toNat=_
  have e4:(a++c::(args++b)).drop (a.length+1)=args++b:=by rw [List.drop_append,List.drop_eq_nil_of_le (by omega),List.nil_append,show a.length+1 - a.length=1 by omega];rfl
  rw [e4,<- hl,List.take_left'];rfl
 dsimp only;rw [e2,e3,if_neg Bool.false_ne_true,hl]
theorem go1 {s:MS} (h:fR mc s=some s1) (e:s1.ended=false):Go mc 1 s s1:=.cons h e .nil
theorem gF {n:Int} {k:List Nat} (hs:s.length<=63):fN mc n (at_ s p k)=some (at_ (n % mc.b::s) p k):=by unfold fN;rw [if_neg (show ¬ s.length=64 by omega)]
theorem iT (h1:¬ nm="load") (h2:¬ nm="skip") (h3:¬ nm="zero"):¬ iR nm n=true:=by
 unfold iR jV
 have e:KTD.datumAt nm TTO=none:=by show (if decide (nm="load")=true then _ else if decide (nm="skip")=true then _ else if decide (nm="zero")=true then _ else _)=_;rw [if_neg (by simp [h1]),if_neg (by simp [h2]),if_neg (by simp [h3])];rfl
 rw [e];simp
theorem Gr (h:nm="skip"\/nm="zero") (hn:n<=9):¬ iR nm n=true:=by
 unfold iR;have e:jV nm TTO n=9:=by rcases h with rfl | rfl <;> kernel_rfl
 rw [e];simp;omega
theorem GL (hn:n<=3):¬ iR "load" n=true:=by
 unfold iR;have e:jV "load" TTO n=3:=by kernel_rfl
 rw [e];simp;omega
theorem hX {x:Int} {k:List Nat}:gU (at_ (x::s) p k)=some (x,at_ s p k):=rfl
theorem pe {n:Int} {k:List Nat} (h:mc.cs=a++1::n::b) (h0:0<=n) (hs:s.length<=63):Go mc 1 (at_ s a.length k) (at_ (n % mc.b::s) (a.length+2) k):=by
 refine go1 ?_ rfl;rw [fL (args:=[n]) h (by decide) rfl,show nmC 1="put" from rfl,if_neg (iT (by decide +kernel) (by decide +kernel) (by decide +kernel))];unfold doM dJ;rw [if_neg (by decide +kernel),if_neg (by decide +kernel),if_pos (by decide +kernel),gF hs];have e:(((iU [n]).toNat:Nat):Int)=n:=by simp [iU];omega
 rw [e];rfl
theorem Ap {n:Int} {k:List Nat} (h:mc.cs=a++2::n::m::b) (h0:0<=n) (h1:0<=m) (hs:s.length<=63):Go mc 1 (at_ s a.length k) (at_ ((m * 100+n) % mc.b::s) (a.length+3) k):=by
 refine go1 ?_ rfl;rw [fL (args:=[n,m]) h (by decide) rfl,show nmC 2="far" from rfl,if_neg (iT (by decide +kernel) (by decide +kernel) (by decide +kernel))];unfold doM dJ;rw [if_neg (by decide +kernel),if_neg (by decide +kernel),if_pos (by decide +kernel),gF hs];have e:(((iU [n,m]).toNat:Nat):Int)=m * 100+n:=by simp [iU];omega
 rw [e];rfl
theorem sI {n:Int} {k:List Nat} (h:mc.cs=a++3::n::b) (h0:0<=n) (h1:n<=3) (hs:s.length<=63):Go mc 1 (at_ s a.length k) (at_ (mc.as.getD n.toNat 0 % mc.b::s) (a.length+2) k):=by
 refine go1 ?_ rfl;have e:(iU [n]).toNat=n.toNat:=by simp [iU]
 rw [fL (args:=[n]) h (by decide) rfl,show nmC 3="load" from rfl,e,if_neg (GL (by omega))];unfold doM dJ;rw [if_neg (by decide +kernel),if_neg (by decide +kernel),if_neg (by decide +kernel),if_pos rfl,gF hs];rfl
theorem sH {x y:Int} {k:List Nat} (h:mc.cs=a++4::b) (hb:2<=mc.b) (hs:s.length<=63):Go mc 1 (at_ (y::x::s) a.length k) (at_ (two "add" x y mc.b::s) (a.length+1) k):=by refine go1 ?_ rfl;rw [fL (args:=[]) h (by decide) rfl,show nmC 4="add" from rfl,if_neg (iT (by decide +kernel) (by decide +kernel) (by decide +kernel))];unfold doM dJ;rw [if_neg (by decide +kernel),if_neg (by decide +kernel),if_neg (by decide +kernel),if_neg (by decide +kernel),hX,Option.bind_some];dsimp only;rw [if_neg (by decide +kernel),if_neg (by decide +kernel),if_neg (by decide +kernel),hX,Option.bind_some];dsimp only;rw [gF hs,Int.emod_eq_of_lt (jq hb).1 (jq hb).2];rfl
theorem wj {x y:Int} {k:List Nat} (h:mc.cs=a++5::b) (hb:2<=mc.b) (hs:s.length<=63):Go mc 1 (at_ (y::x::s) a.length k) (at_ (two "sub" x y mc.b::s) (a.length+1) k):=by refine go1 ?_ rfl;rw [fL (args:=[]) h (by decide) rfl,show nmC 5="sub" from rfl,if_neg (iT (by decide +kernel) (by decide +kernel) (by decide +kernel))];unfold doM dJ;rw [if_neg (by decide +kernel),if_neg (by decide +kernel),if_neg (by decide +kernel),if_neg (by decide +kernel),hX,Option.bind_some];dsimp only;rw [if_neg (by decide +kernel),if_neg (by decide +kernel),if_neg (by decide +kernel),hX,Option.bind_some];dsimp only;rw [gF hs,Int.emod_eq_of_lt (jq hb).1 (jq hb).2];rfl
theorem Aq {x y:Int} {k:List Nat} (h:mc.cs=a++6::b) (hb:2<=mc.b) (hs:s.length<=63):Go mc 1 (at_ (y::x::s) a.length k) (at_ (two "mul" x y mc.b::s) (a.length+1) k):=by refine go1 ?_ rfl;rw [fL (args:=[]) h (by decide) rfl,show nmC 6="mul" from rfl,if_neg (iT (by decide +kernel) (by decide +kernel) (by decide +kernel))];unfold doM dJ;rw [if_neg (by decide +kernel),if_neg (by decide +kernel),if_neg (by decide +kernel),if_neg (by decide +kernel),hX,Option.bind_some];dsimp only;rw [if_neg (by decide +kernel),if_neg (by decide +kernel),if_neg (by decide +kernel),hX,Option.bind_some];dsimp only;rw [gF hs,Int.emod_eq_of_lt (jq hb).1 (jq hb).2];rfl
theorem xK {x y:Int} {k:List Nat} (h:mc.cs=a++7::b) (hb:2<=mc.b) (hs:s.length<=63):Go mc 1 (at_ (y::x::s) a.length k) (at_ (two "less" x y mc.b::s) (a.length+1) k):=by refine go1 ?_ rfl;rw [fL (args:=[]) h (by decide) rfl,show nmC 7="less" from rfl,if_neg (iT (by decide +kernel) (by decide +kernel) (by decide +kernel))];unfold doM dJ;rw [if_neg (by decide +kernel),if_neg (by decide +kernel),if_neg (by decide +kernel),if_neg (by decide +kernel),hX,Option.bind_some];dsimp only;rw [if_neg (by decide +kernel),if_neg (by decide +kernel),if_neg (by decide +kernel),hX,Option.bind_some];dsimp only;rw [gF hs,Int.emod_eq_of_lt (jq hb).1 (jq hb).2];rfl
theorem sJ {n x:Int} {k:List Nat} (h:mc.cs=a++12::n::b) (h0:0<=n) (hs:s.length<=63):Go mc 1 (at_ (x::s) a.length k) (at_ ((x+n) % mc.b::s) (a.length+2) k):=by
 refine go1 ?_ rfl;rw [fL (args:=[n]) h (by decide) rfl,show nmC 12="more" from rfl,if_neg (iT (by decide +kernel) (by decide +kernel) (by decide +kernel))];have e:(((iU [n]).toNat:Nat):Int)=n:=by simp [iU];omega
 unfold doM dJ;rw [if_neg (by decide +kernel),if_neg (by decide +kernel),if_neg (by decide +kernel),if_neg (by decide +kernel),hX,Option.bind_some];dsimp only;rw [if_pos rfl,e,gF hs];rfl
theorem Au {x:Int} {k:List Nat} (h:mc.cs=a++13::b) (hx:0<=x/\x < mc.b) (hs:s.length<=62):Go mc 1 (at_ (x::s) a.length k) (at_ (x::x::s) (a.length+1) k):=by refine go1 ?_ rfl;rw [fL (args:=[]) h (by decide) rfl,show nmC 13="twice" from rfl,if_neg (iT (by decide +kernel) (by decide +kernel) (by decide +kernel))];unfold doM dJ;rw [if_neg (by decide +kernel),if_neg (by decide +kernel),if_neg (by decide +kernel),if_neg (by decide +kernel),hX,Option.bind_some];dsimp only;rw [if_neg (by decide +kernel),if_pos rfl,gF (by omega),Option.bind_some];rw [gF (by rw [List.length_cons];omega),Int.emod_eq_of_lt hx.1 hx.2];rfl
theorem Ao {x y:Int} {k:List Nat} (h:mc.cs=a++14::b) (hx:0<=x/\x < mc.b) (hy:0<=y/\y < mc.b) (hs:s.length<=62):Go mc 1 (at_ (y::x::s) a.length k) (at_ (x::y::s) (a.length+1) k):=by refine go1 ?_ rfl;rw [fL (args:=[]) h (by decide) rfl,show nmC 14="about" from rfl,if_neg (iT (by decide +kernel) (by decide +kernel) (by decide +kernel))];unfold doM dJ;rw [if_neg (by decide +kernel),if_neg (by decide +kernel),if_neg (by decide +kernel),if_neg (by decide +kernel),hX,Option.bind_some];dsimp only;rw [if_neg (by decide +kernel),if_neg (by decide +kernel),if_pos rfl,hX,Option.bind_some];dsimp only;rw [gF (by omega),Option.bind_some];rw [gF (by rw [List.length_cons];omega),Int.emod_eq_of_lt hx.1 hx.2,Int.emod_eq_of_lt hy.1 hy.2];rfl
theorem CB {k:List Nat} (h:mc.cs=a++(dU 8 9 n++b)):Go mc 1 (at_ s a.length k) (at_ s (a.length+(dU 8 9 n).length+n) k):=by
 refine go1 (s1:=at_ s (a.length+(dU 8 9 n).length+n) k) ?_ rfl;unfold dU at h ⊢;by_cases c:(n:Int)<=9
 ·rw [if_pos c] at h ⊢;have e:(iU [(n:Int)]).toNat=n:=by simp [iU]
  rw [fL (args:=[(n:Int)]) h (by decide) rfl,show nmC 8="skip" from rfl,e,if_neg (Gr (.inl rfl) (by omega))];unfold doM mZ;rw [if_pos (by decide +kernel),if_pos (by decide +kernel)];rfl
 ·rw [if_neg c] at h ⊢;have e:(iU [(n:Int) % 100,(n:Int) / 100]).toNat=n:=by simp [iU];omega
  rw [fL (args:=[(n:Int) % 100,(n:Int) / 100]) h (by decide) rfl,show nmC 9="jump" from rfl,e,if_neg (iT (by decide +kernel) (by decide +kernel) (by decide +kernel))];unfold doM mZ;rw [if_pos (by decide +kernel),if_pos (by decide +kernel)];rfl
theorem CC {x:Int} {k:List Nat} (h:mc.cs=a++(dU 10 11 n++b)):Go mc 1 (at_ (x::s) a.length k) (at_ s (a.length+(dU 10 11 n).length+if x=0 then n else 0) k):=by
 refine go1 (s1:=at_ s (a.length+(dU 10 11 n).length+if x=0 then n else 0) k) ?_ rfl;unfold dU at h ⊢;by_cases c:(n:Int)<=9
 ·rw [if_pos c] at h ⊢;have e:(iU [(n:Int)]).toNat=n:=by simp [iU]
  rw [fL (args:=[(n:Int)]) h (by decide) rfl,show nmC 10="zero" from rfl,e,if_neg (Gr (.inr rfl) (by omega))];unfold doM mZ;rw [if_pos (by decide +kernel),if_neg (by decide +kernel),if_pos (by decide +kernel),hX];by_cases hx:x=0
  ·rw [if_pos hx];simp [hx]
  ·rw [if_neg hx];simp [hx]
 ·rw [if_neg c] at h ⊢;have e:(iU [(n:Int) % 100,(n:Int) / 100]).toNat=n:=by simp [iU];omega
  rw [fL (args:=[(n:Int) % 100,(n:Int) / 100]) h (by decide) rfl,show nmC 11="none" from rfl,e,if_neg (iT (by decide +kernel) (by decide +kernel) (by decide +kernel))];unfold doM mZ;rw [if_pos (by decide +kernel),if_neg (by decide +kernel),if_pos (by decide +kernel),hX];by_cases hx:x=0
  ·rw [if_pos hx];simp [hx]
  ·rw [if_neg hx];simp [hx]
theorem iD {i:Int} {f:Fnd} (h:cH (.gap i m) t=some f):∃ n,t=.num n/\n<=m/\f=([],[n],[]):=by
 cases t with
 | num n =>
  have h:(if n<=m then some ([],[n],[]) else none:Option Fnd)=some f:=h;by_cases c:n<=m
  ·rw [if_pos c] at h;cases h;exact ⟨n,rfl,c,rfl⟩
  ·rw [if_neg c] at h;cases h
 | _=>cases h
theorem mz {i:Int} {f:Fnd} (h:cH (.slot i) t=some f):∃ n,t=.arg n/\f=([],[],[n]):=by
 cases t with
 | arg n=>cases h;exact ⟨n,rfl,rfl⟩
 | _=>cases h
theorem sA {f:Fnd} (h:cH (.num m) t=some f):t=.num m/\f=([],[],[]):=by
 cases t with
 | num n =>
  have h:(if n=m then some ([],[],[]) else none:Option Fnd)=some f:=h;by_cases c:n=m
  ·rw [if_pos c] at h;cases h;exact ⟨by rw [c],rfl⟩
  ·rw [if_neg c] at h;cases h
 | _=>cases h
theorem dI {i:Int} {f:Fnd} (h:cH (.hole i) t=some f):f=([t],[],[]):=by cases h;rfl
theorem i9 {a b:Pa} {f:Fnd} (h:cH (.two o a b) t=some f):∃ x y f1 f2,t=.two o x y/\cH a x=some f1/\cH b y=some f2/\f=EC f1 f2:=by
 cases t with
 | two o' x y=>obtain ⟨e,f1,f2,h1,h2,h3⟩:=eJ h;subst e;exact ⟨x,y,f1,f2,rfl,h1,h2,h3⟩
 | _=>cases h
structure okA (mc:MC):Prop where
 len:mc.as.length=4
 ar:∀ x ∈ mc.as,0<=x/\x < mc.b
 b2:2<=mc.b
theorem r6 (h:okA mc) {n:Int} (h0:0<=n) (h1:n<=3):mc.as.getD n.toNat 0 % mc.b=mc.as.getD n.toNat 0:=by
 have l:=h.len;have hn:n.toNat < mc.as.length:=by omega
 have e:mc.as.getD n.toNat 0=mc.as[n.toNat]:=by rw [List.getD_eq_getElem?_getD,List.getElem?_eq_getElem hn];rfl
 have:=h.ar _ (List.getElem_mem hn);rw [e];exact Int.emod_eq_of_lt this.1 this.2
theorem kZ (h:okA mc):∀ t:Tr,okT t->0<=bK mc.as mc.b t/\bK mc.as mc.b t < mc.b
 | .num n,_=>⟨Int.emod_nonneg _ (by have:=h.b2;omega),Int.emod_lt_of_pos _ (by have:=h.b2;omega)⟩
 | .arg k,ht=>by show 0<=mc.as.getD k.toNat 0/\mc.as.getD k.toNat 0 < mc.b;rw [<- r6 h ht.1 ht.2];exact ⟨Int.emod_nonneg _ (by have:=h.b2;omega),Int.emod_lt_of_pos _ (by have:=h.b2;omega)⟩
 | .two o x y,_=>jq h.b2
 | .pick x y z,ht=>by
  show 0<=(if bK mc.as mc.b x=0 then bK mc.as mc.b z else bK mc.as mc.b y)/\(if bK mc.as mc.b x=0 then bK mc.as mc.b z else bK mc.as mc.b y) < mc.b;split
  ·exact kZ h z ht.2.2
  ·exact kZ h y ht.2.1
def dM (p:Pc):Prop:=∀ (mc:MC) (t:Tr) (f:Fnd) (a b s:List Int) (k:List Nat),okA mc->okT t->cH p.pt t=some f->mc.cs=a++((cF p).map (ke f.2.1 f.2.2)++b)->s.length<=61 ->
 ∃ m,m<=(cF p).length/\Go mc m (at_ ((f.1.map (bK mc.as mc.b)).reverse++s) a.length k) (at_ (bK mc.as mc.b t::s) (a.length+(cF p).length) k)
theorem gS {s s2':MS} (h:Go mc n s s') (e1:s=s2) (e2:s'=s2'):Go mc n s2 s2':=by subst e1 e2;exact h
theorem dR {s':List Int} {p':Nat} {k:List Nat} (h1:s=s') (h2:p=p'):at_ s p k=at_ s' p' k:=by rw [h1,h2]
theorem oQ (x y b:Int):two "add" x y b=(x+y) % b:=by unfold two;rw [if_neg (by decide +kernel),if_pos rfl]
theorem DK (x y b:Int):two "mul" x y b=x * y % b:=by unfold two;rw [if_neg (by decide +kernel),if_neg (by decide +kernel),if_neg (by decide +kernel)]
theorem Fd:dM ⟨"one",.gap 0 99,[.int 1,.tup [.str "low",.int 0]]⟩:=by
 intro mc t f a b s k hA ht hf hc hs;have l3:s.length<=63:=by omega
 have l2:s.length<=62:=by omega
 obtain ⟨n,rfl,hn,rfl⟩:=iD hf;have hc:mc.cs=a++1::(n % 100)::b:=hc;have e:n % 100=n:=Int.emod_eq_of_lt ht.1 (by omega);rw [e] at hc;exact ⟨1,by decide,pe (s:=s) hc ht.1 l3⟩
theorem Fe:dM ⟨"two",.gap 0 9999,[.int 2,.tup [.str "low",.int 0],.tup [.str "high",.int 0]]⟩:=by
 intro mc t f a b s k hA ht hf hc hs;have l3:s.length<=63:=by omega
 have l2:s.length<=62:=by omega
 obtain ⟨n,rfl,hn,rfl⟩:=iD hf;have hc:mc.cs=a++2::(n % 100)::(n / 100)::b:=hc;have h0:=ht.1;exact ⟨1,by decide,gS (Ap (s:=s) hc (by omega) (by omega) l3) rfl (dR (congrArg (· % mc.b::s) (by omega)) rfl)⟩
theorem De:dM ⟨"slot",.slot 0,[.int 3,.tup [.str "arg",.int 0]]⟩:=by
 intro mc t f a b s k hA ht hf hc hs;have l3:s.length<=63:=by omega
 have l2:s.length<=62:=by omega
 obtain ⟨n,rfl,rfl⟩:=mz hf;have hc:mc.cs=a++3::n::b:=hc;exact ⟨1,by decide,gS (sI (s:=s) hc ht.1 ht.2 l3) rfl (dR (congrArg (·::s) (r6 hA ht.1 ht.2)) rfl)⟩
theorem E8:dM ⟨"add",.two "add" (.hole 0) (.hole 1),[.int 4]⟩:=by
 intro mc t f a b s k hA ht hf hc hs;have l3:s.length<=63:=by omega
 have l2:s.length<=62:=by omega
 obtain ⟨x,y,f1,f2,rfl,h1,h2,rfl⟩:=i9 hf;cases dI h1;cases dI h2;have hc:mc.cs=a++4::b:=hc;exact ⟨1,by decide,sH (s:=s) hc hA.b2 l3⟩
theorem tP:dM ⟨"sub",.two "sub" (.hole 0) (.hole 1),[.int 5]⟩:=by
 intro mc t f a b s k hA ht hf hc hs;have l3:s.length<=63:=by omega
 have l2:s.length<=62:=by omega
 obtain ⟨x,y,f1,f2,rfl,h1,h2,rfl⟩:=i9 hf;cases dI h1;cases dI h2;have hc:mc.cs=a++5::b:=hc;exact ⟨1,by decide,wj (s:=s) hc hA.b2 l3⟩
theorem Fc:dM ⟨"mul",.two "mul" (.hole 0) (.hole 1),[.int 6]⟩:=by
 intro mc t f a b s k hA ht hf hc hs;have l3:s.length<=63:=by omega
 have l2:s.length<=62:=by omega
 obtain ⟨x,y,f1,f2,rfl,h1,h2,rfl⟩:=i9 hf;cases dI h1;cases dI h2;have hc:mc.cs=a++6::b:=hc;exact ⟨1,by decide,Aq (s:=s) hc hA.b2 l3⟩
theorem Da:dM ⟨"less",.two "less" (.hole 0) (.hole 1),[.int 7]⟩:=by
 intro mc t f a b s k hA ht hf hc hs;have l3:s.length<=63:=by omega
 have l2:s.length<=62:=by omega
 obtain ⟨x,y,f1,f2,rfl,h1,h2,rfl⟩:=i9 hf;cases dI h1;cases dI h2;have hc:mc.cs=a++7::b:=hc;exact ⟨1,by decide,xK (s:=s) hc hA.b2 l3⟩
theorem Dc:dM ⟨"more",.two "add" (.hole 0) (.gap 0 99),[.int 12,.tup [.str "low",.int 0]]⟩:=by
 intro mc t f a b s k hA ht hf hc hs;have l3:s.length<=63:=by omega
 have l2:s.length<=62:=by omega
 obtain ⟨x,y,f1,f2,rfl,h1,h2,rfl⟩:=i9 hf;cases dI h1;obtain ⟨n,rfl,hn,rfl⟩:=iD h2;have n0:0<=n:=ht.2.2.1;have e:n % 100=n:=Int.emod_eq_of_lt n0 (by omega);have hc:mc.cs=a++12::(n % 100)::b:=hc;rw [e] at hc;exact ⟨1,by decide,gS (sJ (s:=s) hc n0 l3) rfl (dR (congrArg (·::s) (by show (bK mc.as mc.b x+n) % mc.b=two "add" (bK mc.as mc.b x) (n % mc.b) mc.b;rw [oQ];simp [Int.add_emod])) rfl)⟩
theorem Fb:dM ⟨"inc",.two "add" (.hole 0) (.num 1),[.int 12,.int 1]⟩:=by
 intro mc t f a b s k hA ht hf hc hs;have l3:s.length<=63:=by omega
 have l2:s.length<=62:=by omega
 obtain ⟨x,y,f1,f2,rfl,h1,h2,rfl⟩:=i9 hf;cases dI h1;obtain ⟨rfl,rfl⟩:=sA h2;have hc:mc.cs=a++12::1::b:=hc;exact ⟨1,by decide,gS (sJ (s:=s) hc (by decide) l3) rfl (dR (congrArg (·::s) (by show (bK mc.as mc.b x+1) % mc.b=two "add" (bK mc.as mc.b x) (1 % mc.b) mc.b;rw [oQ];simp [Int.add_emod])) rfl)⟩
theorem C9:dM ⟨"both",.two "add" (.slot 0) (.slot 1),[.int 3,.tup [.str "arg",.int 0],.int 3,.tup [.str "arg",.int 1],.int 4]⟩:=by
 intro mc t f a b s k hA ht hf hc hs;have l3:s.length<=63:=by omega
 have l2:s.length<=62:=by omega
 obtain ⟨x,y,f1,f2,rfl,h1,h2,rfl⟩:=i9 hf;obtain ⟨n,rfl,rfl⟩:=mz h1;obtain ⟨m,rfl,rfl⟩:=mz h2;have hc1:mc.cs=a++3::n::(3::m::4::b):=hc;have hc2:mc.cs=(a++[3,n])++3::m::(4::b):=by rw [hc1];simp
 have hc3:mc.cs=(a++[3,n,3,m])++4::b:=by rw [hc1];simp
 have g1:=sI (s:=s) (k:=k) hc1 ht.2.1.1 ht.2.1.2 l3;have g2:=sI (s:=mc.as.getD n.toNat 0 % mc.b::s) (k:=k) hc2 ht.2.2.1 ht.2.2.2 (by rw [List.length_cons];omega);have g3:=sH (x:=mc.as.getD n.toNat 0 % mc.b) (y:=mc.as.getD m.toNat 0 % mc.b) (s:=s) (k:=k) hc3 hA.b2 l3;rw [r6 hA ht.2.1.1 ht.2.1.2] at g1 g2 g3;rw [r6 hA ht.2.2.1 ht.2.2.2] at g2 g3;exact ⟨3,by decide,(g1.trans (gS g2 (dR rfl (by simp)) rfl)).trans (gS g3 (dR rfl (by simp)) (dR rfl (by rw [List.length_append];rfl)))⟩
theorem wO:dM ⟨"twofold",.two "mul" (.hole 0) (.num 2),[.int 13,.int 4]⟩:=by
 intro mc t f a b s k hA ht hf hc hs;have l3:s.length<=63:=by omega
 have l2:s.length<=62:=by omega
 obtain ⟨x,y,f1,f2,rfl,h1,h2,rfl⟩:=i9 hf;cases dI h1;obtain ⟨rfl,rfl⟩:=sA h2;have hc1:mc.cs=a++13::(4::b):=hc;have hc2:mc.cs=(a++[13])++4::b:=by rw [hc1];simp
 have g1:=Au (s:=s) (k:=k) hc1 (kZ hA x ht.2.1) l2;have g2:=sH (x:=bK mc.as mc.b x) (y:=bK mc.as mc.b x) (s:=s) (k:=k) hc2 hA.b2 l3;refine ⟨2,by decide,g1.trans (gS g2 (dR rfl (by simp)) (dR (congrArg (·::s) ?_) (by rw [List.length_append];rfl)))⟩;show two "add" _ _ _=two "mul" (bK mc.as mc.b x) (2 % mc.b) mc.b;rw [oQ,DK,show bK mc.as mc.b x+bK mc.as mc.b x=bK mc.as mc.b x * 2 by omega];simp [Int.mul_emod]
theorem A6:dM ⟨"fewer",.two "sub" (.hole 0) (.gap 0 99),[.int 1,.tup [.str "low",.int 0],.int 5]⟩:=by
 intro mc t f a b s k hA ht hf hc hs;have l3:s.length<=63:=by omega
 have l2:s.length<=62:=by omega
 obtain ⟨x,y,f1,f2,rfl,h1,h2,rfl⟩:=i9 hf;cases dI h1;obtain ⟨n,rfl,hn,rfl⟩:=iD h2;have n0:0<=n:=ht.2.2.1;have e:n % 100=n:=Int.emod_eq_of_lt n0 (by omega);have hc1:mc.cs=a++1::(n % 100)::(5::b):=hc;rw [e] at hc1;have hc2:mc.cs=(a++[1,n])++5::b:=by rw [hc1];simp
 have g1:=pe (s:=bK mc.as mc.b x::s) (k:=k) hc1 n0 (by rw [List.length_cons];omega);have g2:=wj (x:=bK mc.as mc.b x) (y:=n % mc.b) (s:=s) (k:=k) hc2 hA.b2 l3;exact ⟨2,by decide,g1.trans (gS g2 (dR rfl (by simp)) (dR rfl (by rw [List.length_append];rfl)))⟩
theorem E9:dM ⟨"far",.two "add" (.hole 0) (.gap 0 9999),[.int 2,.tup [.str "low",.int 0],.tup [.str "high",.int 0],.int 4]⟩:=by
 intro mc t f a b s k hA ht hf hc hs;have l3:s.length<=63:=by omega
 have l2:s.length<=62:=by omega
 obtain ⟨x,y,f1,f2,rfl,h1,h2,rfl⟩:=i9 hf;cases dI h1;obtain ⟨n,rfl,hn,rfl⟩:=iD h2;have n0:0<=n:=ht.2.2.1;have hc1:mc.cs=a++2::(n % 100)::(n / 100)::(4::b):=hc;have hc2:mc.cs=(a++[2,n % 100,n / 100])++4::b:=by rw [hc1];simp
 have g1:=Ap (s:=bK mc.as mc.b x::s) (k:=k) hc1 (by omega) (by omega) (by rw [List.length_cons];omega);rw [show n / 100 * 100+n % 100=n by omega] at g1;have g2:=sH (x:=bK mc.as mc.b x) (y:=n % mc.b) (s:=s) (k:=k) hc2 hA.b2 l3;exact ⟨2,by decide,g1.trans (gS g2 (dR rfl (by simp)) (dR rfl (by rw [List.length_append];rfl)))⟩
theorem yT:dM ⟨"addmul",.two "add" (.two "mul" (.hole 0) (.hole 1)) (.gap 0 99),[.int 6,.int 12,.tup [.str "low",.int 0]]⟩:=by
 intro mc t f a b s k hA ht hf hc hs;have l3:s.length<=63:=by omega
 have l2:s.length<=62:=by omega
 obtain ⟨u,y,f1,f2,rfl,h1,h2,rfl⟩:=i9 hf;obtain ⟨x,z,f3,f4,rfl,h3,h4,rfl⟩:=i9 h1;cases dI h3;cases dI h4;obtain ⟨n,rfl,hn,rfl⟩:=iD h2;have n0:0<=n:=ht.2.2.1;have e:n % 100=n:=Int.emod_eq_of_lt n0 (by omega);have hc1:mc.cs=a++6::(12::(n % 100)::b):=hc;rw [e] at hc1;have hc2:mc.cs=(a++[6])++12::n::b:=by rw [hc1];simp
 have g1:=Aq (x:=bK mc.as mc.b x) (y:=bK mc.as mc.b z) (s:=s) (k:=k) hc1 hA.b2 l3;have g2:=sJ (x:=two "mul" (bK mc.as mc.b x) (bK mc.as mc.b z) mc.b) (s:=s) (k:=k) hc2 n0 l3;refine ⟨2,by decide,g1.trans (gS g2 (dR rfl (by simp)) (dR (congrArg (·::s) ?_) (by rw [List.length_append];rfl)))⟩;show _=two "add" (two "mul" (bK mc.as mc.b x) (bK mc.as mc.b z) mc.b) (n % mc.b) mc.b;rw [oQ];simp [Int.add_emod]
theorem yU:dM ⟨"turned",.two "less" (.gap 0 99) (.hole 0),[.int 1,.tup [.str "low",.int 0],.int 14,.int 7]⟩:=by
 intro mc t f a b s k hA ht hf hc hs;have l3:s.length<=63:=by omega
 have l2:s.length<=62:=by omega
 obtain ⟨y,x,f1,f2,rfl,h1,h2,rfl⟩:=i9 hf;cases dI h2;obtain ⟨n,rfl,hn,rfl⟩:=iD h1;have n0:0<=n:=ht.2.1.1;have e:n % 100=n:=Int.emod_eq_of_lt n0 (by omega);have hc1:mc.cs=a++1::(n % 100)::(14::7::b):=hc;rw [e] at hc1;have hc2:mc.cs=(a++[1,n])++14::(7::b):=by rw [hc1];simp
 have hc3:mc.cs=(a++[1,n,14])++7::b:=by rw [hc1];simp
 have g1:=pe (s:=bK mc.as mc.b x::s) (k:=k) hc1 n0 (by rw [List.length_cons];omega);have g2:=Ao (x:=bK mc.as mc.b x) (y:=n % mc.b) (s:=s) (k:=k) hc2 (kZ hA x ht.2.2) (kZ hA (.num n) ht.2.1) l2;have g3:=xK (x:=n % mc.b) (y:=bK mc.as mc.b x) (s:=s) (k:=k) hc3 hA.b2 l3;exact ⟨3,by decide,(g1.trans (gS g2 (dR rfl (by simp)) rfl)).trans (gS g3 (dR rfl (by simp)) (dR rfl (by rw [List.length_append];rfl)))⟩
theorem Dd:dM ⟨"pair",.two "sub" (.gap 0 99) (.gap 1 99),[.int 1,.tup [.str "low",.int 0],.int 1,.tup [.str "low",.int 1],.int 5]⟩:=by
 intro mc t f a b s k hA ht hf hc hs;have l3:s.length<=63:=by omega
 have l2:s.length<=62:=by omega
 obtain ⟨x,y,f1,f2,rfl,h1,h2,rfl⟩:=i9 hf;obtain ⟨m,rfl,hm,rfl⟩:=iD h1;obtain ⟨n,rfl,hn,rfl⟩:=iD h2;have n0:0<=n:=ht.2.2.1;have e:n % 100=n:=Int.emod_eq_of_lt n0 (by omega);have m0:0<=m:=ht.2.1.1;have e2:m % 100=m:=Int.emod_eq_of_lt m0 (by omega);have hc1:mc.cs=a++1::(m % 100)::(1::(n % 100)::5::b):=hc;rw [e,e2] at hc1;have hc2:mc.cs=(a++[1,m])++1::n::(5::b):=by rw [hc1];simp
 have hc3:mc.cs=(a++[1,m,1,n])++5::b:=by rw [hc1];simp
 have g1:=pe (s:=s) (k:=k) hc1 m0 l3;have g2:=pe (s:=m % mc.b::s) (k:=k) hc2 n0 (by rw [List.length_cons];omega);have g3:=wj (x:=m % mc.b) (y:=n % mc.b) (s:=s) (k:=k) hc3 hA.b2 l3;exact ⟨3,by decide,(g1.trans (gS g2 (dR rfl (by simp)) rfl)).trans (gS g3 (dR rfl (by simp)) (dR rfl (by rw [List.length_append];rfl)))⟩
def RunsTo (mc:MC) (t:Tr) (ns:List Int) (d:Nat):Prop:=∀ (a b s:List Int) (k:List Nat),mc.cs=a++(ns++b)->s.length+d<=61->∃ m,m<=ns.length/\Go mc m (at_ s a.length k) (at_ (bK mc.as mc.b t::s) (a.length+ns.length) k)
theorem RunsTo.mono {d e:Nat} (h:RunsTo mc t ns d) (l:d<=e):RunsTo mc t ns e:=λa b s k hc hs=>h a b s k hc (by omega)
theorem BE {d:Nat}:∀ (l:List (Tr × List Int)),(∀ x ∈ l,RunsTo mc x.1 x.2 d)->∀ (a b s:List Int) (k:List Nat),mc.cs=a++((l.map (·.2)).flatten++b)->s.length+l.length+d<=62 ->
  ∃ m,m<=(l.map (·.2)).flatten.length/\Go mc m (at_ s a.length k) (at_ ((l.map λx=>bK mc.as mc.b x.1).reverse++s) (a.length+(l.map (·.2)).flatten.length) k)
 | [],_,a,b,s,k,_,_=>⟨0,Nat.le_refl _,.nil⟩
 | x::l,h,a,b,s,k,hc,hs=>by
  rw [List.map_cons,List.flatten_cons,List.append_assoc] at hc;rw [List.length_cons] at hs;obtain ⟨m1,l1,g1⟩:=h x List.mem_cons_self a _ s k hc (by omega);obtain ⟨m2,l2,g2⟩:=BE l (λy hy=>h y (List.mem_cons_of_mem _ hy)) (a++x.2) b (bK mc.as mc.b x.1::s) k (by rw [hc,List.append_assoc]) (by rw [List.length_cons];omega);refine ⟨m1+m2,by rw [List.map_cons,List.flatten_cons,List.length_append];omega,g1.trans (gS g2 (dR rfl (by rw [List.length_append])) (dR ?_ ?_))⟩
  ·rw [List.map_cons,List.reverse_cons,List.append_assoc];rfl
  ·rw [List.map_cons,List.flatten_cons,List.length_append,List.length_append];omega
theorem xZ {mc:MC} {d:Nat} {f:Tr->D->Option (List D)}:∀ {ts:List Tr} {cs:List D} {ess:List (List D)},ts.length=cs.length->eA f ts cs=ess.map some->(∀ t ∈ ts,∀ c es,f t c=some es->∃ ns:List Int,es=ns.map D.int/\RunsTo mc t ns d) ->
  ∃ l:List (Tr × List Int),l.map (·.1)=ts/\ess.flatten=((l.map (·.2)).flatten).map D.int/\∀ x ∈ l,RunsTo mc x.1 x.2 d
 | [],[],ess,_,h,_=>by
  have:ess=[]:=by cases ess with | nil=>rfl | cons _ _=>cases h
  subst this;exact ⟨[],rfl,rfl,λx hx=>(nomatch hx)⟩
 | [],c::cs,_,h,_,_=>by cases h
 | t::ts,[],_,h,_,_=>by cases h
 | t::ts,c::cs,ess,hl,h,hf=>by
  cases ess with
  | nil=>cases h
  | cons x ess =>
   have h':f t c::eA f ts cs=some x::ess.map some:=h;injection h' with h1 h2;obtain ⟨ns,e1,r1⟩:=hf t List.mem_cons_self c x h1;obtain ⟨l,e2,e3,r2⟩:=xZ (mc:=mc) (d:=d) (f:=f) (ts:=ts) (cs:=cs) (ess:=ess) (by simpa using hl) h2 λt ht=>hf t (List.mem_cons_of_mem _ ht);refine ⟨(t,ns)::l,by rw [List.map_cons,e2],by rw [List.flatten_cons,e1,e3,List.map_cons,List.flatten_cons,List.map_append],λy hy=>?_⟩;rcases List.mem_cons.mp hy with rfl | hy
   ·exact r1
   ·exact r2 y hy
theorem pA {mc:MC} (hA:okA mc) (hp:∀ p ∈ ps,gM p.pt=true/\dM p/\∀ t f,cH p.pt t=some f->f.1.length<=2):∀ (n:Nat) (t:Tr) (c:D) (es:List D),okT t->cJ ps n t c=some es->∃ ns:List Int,es=ns.map D.int/\RunsTo mc t ns (2 * a9 t)
 | 0,_,_,_,_,h=>by cases h
 | n+1,t,c,es,ok,h=>by
  have h:(match gJ c with | none=>none | some x=>if x.1="pick" then jd (cJ ps n) t x.2 else fP (cJ ps n) ps t x.1 x.2)=some es:=h
  cases ec:gJ c with
  | none=>rw [ec] at h;cases h
  | some x =>
   rw [ec] at h;dsimp only at h;by_cases hpk:x.1="pick"
   ·rw [if_pos hpk] at h;obtain ⟨t1,t2,t3,ca,cb,cd,xa,xb,xd,rfl,_,la,lb,ld,rfl⟩:=gL h;obtain ⟨n1,e1,r1⟩:=pA hA hp n t1 ca xa ok.1 la;obtain ⟨n2,e2,r2⟩:=pA hA hp n t2 cb xb ok.2.1 lb;obtain ⟨n3,e3,r3⟩:=pA hA hp n t3 cd xd ok.2.2 ld;subst e1 e2 e3;have hj:=iL 8 9 (n3.length:Int);let L:=n2++dU 8 9 (n3.length:Int);refine ⟨n1++(dU 10 11 (L.length:Int)++(L++n3)),?_,?_⟩
    ·unfold eU eK;have eL:((n2.map D.int++(dU 8 9 ((n3.map D.int).length:Int)).map D.int).length:Int)=(L.length:Int):=by simp [L]
     rw [eL,List.length_map];simp [L]
    ·intro a b s k hc hs;have d1:a9 t1+1<=a9 (.pick t1 t2 t3):=by simp only [a9];omega
     have d2:a9 t2+1<=a9 (.pick t1 t2 t3):=by simp only [a9];omega
     have d3:a9 t3+1<=a9 (.pick t1 t2 t3):=by simp only [a9];omega
     obtain ⟨m1,l1,g1⟩:=r1 a (dU 10 11 (L.length:Int)++(L++n3)++b) s k (by rw [hc];simp) (by omega);have g2:=CC (mc:=mc) (a:=a++n1) (b:=L++n3++b) (n:=L.length) (x:=bK mc.as mc.b t1) (s:=s) (k:=k) (by rw [hc];simp);have g12:=g1.trans (gS g2 (dR rfl (by rw [List.length_append])) rfl);by_cases hz:bK mc.as mc.b t1=0
     ·rw [if_pos hz] at g12;obtain ⟨m3,l3,g3⟩:=r3 (a++n1++dU 10 11 (L.length:Int)++L) b s k (by rw [hc];simp) (by omega);refine ⟨m1+1+m3,?_,g12.trans (gS g3 (dR rfl ?_) (dR ?_ ?_))⟩
      ·have:=iL 10 11 (L.length:Int);have j2:(2:Int)<=gY L.length:=by unfold gY;split <;> omega
       simp only [List.length_append];omega
      ·simp only [List.length_append]
      ·show bK mc.as mc.b t3::s=(if bK mc.as mc.b t1=0 then bK mc.as mc.b t3 else bK mc.as mc.b t2)::s;rw [if_pos hz]
      ·simp only [List.length_append];omega
     ·rw [if_neg hz] at g12;obtain ⟨m3,l3,g3⟩:=r2 (a++n1++dU 10 11 (L.length:Int)) (dU 8 9 (n3.length:Int)++n3++b) s k (by rw [hc];simp [L]) (by omega);have g4:=CB (mc:=mc) (a:=a++n1++dU 10 11 (L.length:Int)++n2) (b:=n3++b) (n:=n3.length) (s:=bK mc.as mc.b t2::s) (k:=k) (by rw [hc];simp [L]);refine ⟨m1+1+(m3+1),?_,g12.trans ((gS g3 (dR rfl ?_) rfl).trans (gS g4 (dR rfl ?_) (dR ?_ ?_)))⟩
      ·have:=iL 10 11 (L.length:Int);have j2:(2:Int)<=gY L.length:=by unfold gY;split <;> omega
       have lL:L.length=n2.length+(dU 8 9 (n3.length:Int)).length:=List.length_append;simp only [List.length_append];omega
      ·simp only [List.length_append];omega
      ·simp only [List.length_append]
      ·show bK mc.as mc.b t2::s=(if bK mc.as mc.b t1=0 then bK mc.as mc.b t3 else bK mc.as mc.b t2)::s;rw [if_neg hz]
      ·have lL:L.length=n2.length+(dU 8 9 (n3.length:Int)).length:=List.length_append;simp only [List.length_append];omega
   ·rw [if_neg hpk] at h;obtain ⟨p,g,ess,e1,e2,hl,e,rfl⟩:=gK h;have hpm:=(dS e1).1;obtain ⟨nh,pg,two⟩:=hp p hpm;have tail:=jL nh e2
    obtain ⟨l,f1,f2,r⟩:=xZ (mc:=mc) (d:=2 * a9 t - 2) (f:=cJ ps n) hl e λx hx c es hq=>by have hs:=(gQ (tail x hx)).2;obtain ⟨ns,q1,q2⟩:=pA hA hp n x c es (fQ t x ok (iC (tail x hx))) hq;exact ⟨ns,q1,q2.mono (by omega)⟩
    refine ⟨(l.map (·.2)).flatten++(cF p).map (ke g.2.1 g.2.2),?_,?_⟩
    ·unfold cT;rw [f2,List.map_append,List.map_map];rfl
    ·intro a b s k hc hs
     have ll:l.length<=2:=by have:=congrArg List.length f1;rw [List.length_map] at this;have:=two t g e2;omega
     have dp:=jK t;obtain ⟨m1,l1,g1⟩:=BE l r a ((cF p).map (ke g.2.1 g.2.2)++b) s k (by rw [hc,List.append_assoc]) (by omega);obtain ⟨m2,l2,g2⟩:=pg mc t g (a++(l.map (·.2)).flatten) b s k hA ok e2 (by rw [hc];simp) (by omega);have el:(l.map λx=>bK mc.as mc.b x.1)=g.1.map (bK mc.as mc.b):=by rw [<- f1,List.map_map];rfl
     rw [el] at g1;refine ⟨m1+m2,by rw [List.length_append,List.length_map];omega,g1.trans (gS g2 (dR rfl (by rw [List.length_append])) (dR rfl ?_))⟩;rw [List.length_append,List.length_append,List.length_map];omega
theorem Cn {x:Int} (h:mc.cs=a++0::b):j7 mc (n+1) (at_ [x] a.length [])=.ends x:=by
 have e:fR mc (at_ [x] a.length [])=some ⟨[x],a.length+1,[],true⟩:=by rw [fL (args:=[]) h (by decide) rfl,show nmC 0="end" from rfl,if_neg (iT (by decide +kernel) (by decide +kernel) (by decide +kernel))];unfold doM;rw [if_neg (by decide +kernel),if_pos rfl];rfl
 show (match fR mc _ with | none=>_ | some s=>_)=_;rw [e];rfl
theorem CP (hA:okA mc) (hp:∀ p ∈ ps,gM p.pt=true/\dM p/\∀ t f,cH p.pt t=some f->f.1.length<=2) {c:D} (ok:okT t) (dp:a9 t<=8) (h:cJ ps n t c=some es) (hc:mc.cs.map D.int=es++[.int 0]) {N:Nat} (hN:mc.cs.length<=N):j7 mc N ⟨[],0,[],false⟩=.ends (bK mc.as mc.b t):=by
 obtain ⟨ns,rfl,r⟩:=pA hA hp n t c es ok h
 have inj:∀ (u v:List Int),u.map D.int=v.map D.int->u=v:=by
  intro u
  induction u with
  | nil=>intro v e;cases v with | nil=>rfl | cons _ _=>cases e
  | cons x u ih =>
   intro v e
   cases v with
   | nil=>cases e
   | cons y v =>rw [List.map_cons,List.map_cons] at e;injection e with e1 e2;injection e1 with e1;rw [e1,ih v e2]
 have ec:mc.cs=ns++[0]:=inj _ _ (by rw [hc,List.map_append];rfl);obtain ⟨m,l,g⟩:=r [] [0] [] [] (by rw [ec];rfl) (by show 0+2 * a9 t<=61;omega);rw [ec,List.length_append] at hN;have l1:([0]:List Int).length=1:=rfl;obtain ⟨j,rfl⟩:∃ j,N=m+(j+1):=⟨N - m - 1,by omega⟩
 have e2:=g.run (j+1);refine Eq.trans e2 ?_;have z:([]:List Int).length+ns.length=ns.length:=by simp
 rw [z];exact Cn ec
theorem hl2 {p:Pc} (h:iz p.pt<=2):∀ t f,cH p.pt t=some f->f.1.length<=2:=λt f e=>by rw [lg _ _ _ e];exact h
def r8 (as:List Int) (b:Int):Prop:=as.length=4/\(∀ x ∈ as,0<=x/\x < b)/\2<=b/\b<=10000
def okO (o:Str):Prop:=o="add"\/o="sub"\/o="mul"\/o="less"
theorem EY (h:okO o):¬ o="num"/\¬ o="arg"/\¬ o="pick":=by rcases h with rfl | rfl | rfl | rfl <;> decide +kernel
theorem zL {as:List Int} {b k:Int} (h:r8 as b) (h0:0<=k) (h1:k<=3):as[k.toNat]?=some (as.getD k.toNat 0):=by
 have hl:=h.1;have hk:k.toNat < as.length:=by omega
 rw [List.getD_eq_getElem?_getD,List.getElem?_eq_getElem hk];rfl
theorem m4 {as:List Int} {b:Int} (h:r8 as b):∀ t:Tr,okT t->0<=bK as b t/\bK as b t < b
 | .num n,_=>⟨Int.emod_nonneg _ (by have:=h.2.2.1;omega),Int.emod_lt_of_pos _ (by have:=h.2.2.1;omega)⟩
 | .arg k,ht=>h.2.1 _ (List.mem_of_getElem? (zL h ht.1 ht.2))
 | .two o x y,_=>jq h.2.2.1
 | .pick x y z,ht=>by
  unfold bK;split
  ·exact m4 h z ht.2.2
  ·exact m4 h y ht.2.1
def lK (n:Nat) (ds:List D) (d:D):Prop:=∃ t as b,ds=[toD t,.tup (as.map D.int),.int b]/\okT t/\a9 t<=n/\r8 as b/\d=.int (bK as b t)
theorem FP {K:W.Frag} {a b c:D} {vs:List V} (h:Dats K H [a,b,c,e] vs):∃ u v w x,vs=[u,v,w,x]/\Dat K H a u/\Dat K H b v/\Dat K H c w/\Dat K H e x:=by obtain ⟨u,r,e,h1,h⟩:=h.consE;obtain ⟨v,w,x,q,h2⟩:=nW h;subst q e;exact ⟨u,v,w,x,rfl,h1,h2⟩
theorem BO {x y:Str} (h:x=y):decide (x=y)=true:=decide_eq_true h
theorem rb {x y:Str} (h:¬ x=y):decide (x=y)=false:=decide_eq_false h
def BJ (K:W.Frag):Sp:=λvs H Q _=>∃ (a t:Addr) (ns:List Int) (p q:Int) (rest:List V),vs=[.ref a,.ref t]/\Scr K H a ns/\H t=some (.lst (.int p::.int q::rest))/\0<=p /\
 ∀ (b:Int) (H':Hp) (p' q':Int),But t H H'->H' t=some (.lst (.int p'::.int q'::rest))->0<=p'->2<=b->b<=10000->Q (.int b) H'
def BF (K:W.Frag):Sp:=λvs H Q _=>∃ (a t:Addr) (ns:List Int) (b p q:Int) (rest:List V),vs=[.ref a,.ref t,.int b]/\Scr K H a ns/\H t=some (.lst (.int p::.int q::rest))/\0<=p/\2<=b/\b<=10000 /\
 ∀ (v:V) (H':Hp) (as:List Int) (p' q':Int),But t H H'->H' t=some (.lst (.int p'::.int q'::rest))->0<=p'->r8 as b->Dat K H' (.tup (as.map D.int)) v->Q v H'
theorem sZ (T:Txt P w K mg) (Hv:Ok P w base k T.Ha (qp K)):Ok P w base (k+1) T.IZ (BJ K):=by
 refine T.IZ.f.ok sc__law_size (λvs H Q E h=>?_) (λcdv A outer s H vs Q E hr h=>?_)
 ·obtain ⟨a,t,ns,p,q,rest,rfl,_⟩:=h;rfl
 have nd:=sc__law_size.nd;obtain ⟨a,t,ns,p,q,rest,rfl,hS,hT,hp,post⟩:=h;refine ⟨_,(aI (aQ (pc (D:=T.Ha) Hv hr (aD (pv 0) (aD (pv 1) (aD (bR (aD aE (aD aE (aD aE (aD aE (aD aE (aD aE aC))))))) aC)))))),?_⟩;refine ⟨_,rfl,_,rfl,cW (by decide),λl hl=>?_⟩;have nel:l≠t:=λz=>by rw [z,hT] at hl;cases hl
 have s1:Same H (upd H l (.lst [.int 2,.int 3,.int 5,.int 10,.int 256,.int 10000])):=aR hl _;refine ⟨a,t,l,ns,_,p,q,rest,rfl,hS.same s1,SqL.of aH,nel,by decide,by decide,s1 _ _ hT,hp,λi x H5 p5 q5 b5 t5 g5 hx=>?_⟩
 obtain ⟨m,em,hm⟩:∃ m:Int,x=.int m/\2<=m/\m<=10000:=by have:=List.mem_of_getElem? hx;simp only [List.mem_cons,List.not_mem_nil,or_false] at this;rcases this with e | e | e | e | e | e <;> exact ⟨_,e,by decide,by decide⟩
 subst em;exact post m H5 p5 q5 (s1.but.trans b5) t5 g5 hm.1 hm.2
theorem sR (T:Txt P w K mg) (Hn:Ok P w base k T.GV (qm K)) (Hv:Ok P w base k T.Ha (qp K)):Ok P w base (k+1) T.IU (BF K):=by
 refine T.IU.f.ok sc__law_args (λvs H Q E h=>?_) (λcdv A outer s H vs Q E hr h=>?_)
 ·obtain ⟨a,t,ns,b,p,q,rest,rfl,_⟩:=h;rfl
 have nd:=sc__law_args.nd;obtain ⟨a,t,ns,b,p,q,rest,rfl,hS,hT,hp,hb,hb2,post⟩:=h;refine ⟨_,(aI (aQ (dQ cX rfl T.Hl dB (aD (dE (own:=["_law_k"]) (fr:=[0,1,2]) (N':=["_law_k","_law_script","_law_town","_law_base"]) (lA rfl T.Js (aD aE aC)) rfl (by show cZ ["_law_script","_law_town","_law_base"] (λx=>(aO kR).names.lookup x) _ _ _ _=true;decide +kernel) rfl (λ_ _ _ _ _=>(a7 (i:=0) (by show List.Nodup [("_law_k":Str),("_law_script":Str),("_law_town":Str),("_law_base":Str)];decide +kernel) rfl (Or.inl rfl))) (λ_ _ _ _ _=>cO) (λ_ _ _ _ _=>(pc (D:=T.Ha) Hv hr (aD (pv 1) (aD (pv 2) (aD (bR (aD aE (aD aE (aD (bO tM (pv 3) aE) (aD (pc (D:=T.GV) Hn hr (aD (pv 1) (aD (pv 2) (aD (pv 3) aC)))) aC))))) aC)))))) aC)))),?_⟩;refine hU (iO ?_)
 refine pX 4 (λR hR=>hR) (by decide) rfl
  (λl i G'=>∃ (as:List Int) (p' q':Int),But t H G'/\G' t=some (.lst (.int p'::.int q'::rest))/\0<=p'/\G' l=some (.lst (as.map V.int))/\as.length=i/\(∀ x ∈ as,0<=x/\x < b)) (λl hl=>?_) (λl i G' hl hi pn=>?_) (λl G' hl pn=>?_)
 ·have nl:l≠t:=λz=>by rw [z,hT] at hl;cases hl
  exact ⟨[],p,q,(aR hl _).but,(aR hl _) _ _ hT,hp,aH,rfl,λx hx=>absurd hx (by simp)⟩
 ·obtain ⟨as,p',q',bt,tt,gp,hl',la,oka⟩:=pn;have nl:l≠t:=λz=>by rw [z,hT] at hl;cases hl
  refine ⟨_,rfl,_,rfl,_,rfl,b,1,rfl,rfl,_,rfl,_,rfl,_,rfl,a,t,ns,b,p',q',rest,rfl,hS.but bt hT,tt,gp,by omega,by omega,λr H1 p1 q1 b1 t1 g1 r0 r1=>⟨cW (by simp),λm hm=>?_⟩⟩;have nm:m≠t:=λz=>by rw [z,t1] at hm;cases hm
  have hl1:=b1 l _ nl hl';have nml:m≠l:=λz=>by rw [z,hl1] at hm;cases hm
  have s2:Same H1 (upd H1 m (.lst [.int 0,.int 1,.int (b - 1),.int r])):=aR hm _;have bt2:=(bt.trans b1).trans s2.but;refine ⟨a,t,m,ns,_,p1,q1,rest,rfl,hS.but bt2 hT,SqL.of aH,nm,by simp,by simp,s2 _ _ t1,g1,λj x H5 p5 q5 b5 t5 g5 hx=>?_⟩
  obtain ⟨y,ey,hy⟩:∃ y:Int,x=.int y/\0<=y/\y < b:=by
   have:=List.mem_of_getElem? hx;simp only [List.mem_cons,List.not_mem_nil,or_false] at this;rcases this with e | e | e | e
   ·exact ⟨_,e,by omega,by omega⟩
   ·exact ⟨_,e,by omega,by omega⟩
   ·exact ⟨_,e,by omega,by omega⟩
   ·exact ⟨_,e,by omega,by omega⟩
  subst ey;have hl5:=b5 l _ nl (s2 _ _ hl1);refine ⟨as.map V.int,hl5,bX (by rw [List.length_map];omega),⟨_,rfl⟩,as++[y],p5,q5,?_,?_,g5,?_,by simp [la],?_⟩
  ·intro c o hc hco;have nc:c≠l:=aM hco hl;rw [aZ nc];exact b5 c o hc (bt2 c o hc hco)
  ·rw [aZ (Ne.symm nl)];exact t5
  ·rw [aH,List.map_append];rfl
  ·intro z hz;rcases List.mem_append.mp hz with hz | hz
   ·exact oka z hz
   ·rw [List.mem_singleton.mp hz];exact hy
 ·obtain ⟨as,p',q',bt,tt,gp,hl',la,oka⟩:=pn;refine ⟨l,as.map V.int,rfl,.inl ⟨SqL.of hl',λu hu=>?_⟩⟩;have nu:u≠t:=λz=>by rw [z,tt] at hu;cases hu
  have s8:Same G' (upd G' u (.tup (as.map V.int))):=aR hu _;exact post _ _ as p' q' (bt.trans s8.but) (s8 _ _ tt) gp ⟨la,oka,hb,hb2⟩ (Dat.tupI (SqT.of aH) (e8 as))
def zI (ds:List D) (d:D):Prop:=∃ o x y b,ds=[.str o,.int x,.int y,.int b]/\okO o/\2<=b/\b<=10000/\0<=x/\x < b/\0<=y/\y < b/\d=.int (two o x y b)
theorem ve (T:Txt P w K mg)  : Ok P w base (k+1) T.Il (spD K zI):=by
 refine T.Il.f.ok sc__law_two (λvs H Q E h=>?_) (λcdv A outer s H vs Q E hr h=>?_)
 ·obtain ⟨ds,d,hd,⟨o,x,y,b,rfl,_⟩,_⟩:=h;exact hd.length.symm
 have nd:=sc__law_two.nd;obtain ⟨ds,d,hd,⟨o,x,y,b,rfl,ho,hb,hb2,hx,hx2,hy,hy2,rfl⟩,post⟩:=h;obtain ⟨v0,v1,v2,v3,rfl,q0,q1,q2,q3⟩:=FP hd;refine ⟨_,(aG (bL (aN bY (pv 0) aP (aU _)) (aI (aQ (bO e9 (bO eB (pv 1) (pv 2)) (pv 3)))) aW)
 (aG (bL (aN bY (pv 0) aP (aU _)) (aI (aQ (bO e9 (bO tM (pv 1) (pv 2)) (pv 3)))) aW)
 (aG (bL (aN bY (pv 0) aP (aU _)) (aI (aQ (bO e9 (bO tI (pv 1) (pv 2)) (pv 3)))) aW)
 (aI (aQ (fM (aN kN (pv 1) (pv 2) (aU _)) aE aE)))))),?_⟩
 refine aS (K:=K) (b:=decide (o="add")) (aJ (bI (aA q0) aK)) (λc H1 s1=>?_) (λc H1 s1=>?_)
 ·refine bF (K:=K) (d:=.int (two o x y b)) ?_ λv H' s q=>post v H' (s1.trans s) q;have e:two o x y b=(x+y) % b:=by rw [of_decide_eq_true c];rfl
  rw [e];exact j5 (fV (aA (s1.dat q1)) (aA (s1.dat q2))) (aA (s1.dat q3)) (by omega)
 have q0:=s1.dat q0;have q1:=s1.dat q1;have q2:=s1.dat q2;have q3:=s1.dat q3;have n1:=of_decide_eq_false c;refine aS (K:=K) (b:=decide (o="sub")) (aJ (bI (aA q0) aK)) (λc H2 s2=>?_) (λc H2 s2=>?_)
 ·refine bF (K:=K) (d:=.int (two o x y b)) ?_ λv H' s q=>post v H' (s1.trans (s2.trans s)) q;have e:two o x y b=(x - y) % b:=by rw [of_decide_eq_true c];rfl
  rw [e];exact j5 (Bw (aA (s2.dat q1)) (aA (s2.dat q2))) (aA (s2.dat q3)) (by omega)
 have q0:=s2.dat q0;have q1:=s2.dat q1;have q2:=s2.dat q2;have q3:=s2.dat q3;have n2:=of_decide_eq_false c;refine aS (K:=K) (b:=decide (o="mul")) (aJ (bI (aA q0) aK)) (λc H3 s3=>?_) (λc H3 s3=>?_)
 ·refine bF (K:=K) (d:=.int (two o x y b)) ?_ λv H' s q=>post v H' (s1.trans (s2.trans (s3.trans s))) q;have e:two o x y b=x * y % b:=by rw [of_decide_eq_true c];rfl
  rw [e];exact j5 (Bt (aA (s3.dat q1)) (aA (s3.dat q2)) (.inr ⟨by omega,by omega⟩)) (aA (s3.dat q3)) (by omega)
 have n3:=of_decide_eq_false c;refine bF (K:=K) (d:=.int (two o x y b)) ?_ λv H' s q=>post v H' (s1.trans (s2.trans (s3.trans s))) q
 have eo:o="less":=by
  rcases ho with h | h | h | h
  ·exact absurd h n1
  ·exact absurd h n2
  ·exact absurd h n3
  ·exact h
 have e:two o x y b=if x < y then 1 else 0:=by rw [eo];rfl
 rw [e];refine mQ (b:=decide (x < y)) (aJ (cV (p:=λi j=>decide (i < j)) (aA (s3.dat q1)) (aA (s3.dat q2)))) (λc2=>?_) (λc2=>?_)
 ·rw [if_pos (of_decide_eq_true c2)];exact aF
 ·rw [if_neg (of_decide_eq_false c2)];exact aF
theorem qG (T:Txt P w K mg) (Jx:Ok P w base k T.Il (spD K zI)) (HL:Ok P w base k T.GY (spD K (lK n))):Ok P w base (k+1) T.GY (spD K (lK (n+1))):=by
 refine T.GY.f.ok sc__law_worth (λvs H Q E h=>?_) (λcdv A outer s H vs Q E hr h=>?_)
 ·obtain ⟨ds,d,hd,⟨t,as,b,rfl,_⟩,_⟩:=h;exact hd.length.symm
 have nd:=sc__law_worth.nd;obtain ⟨ds,d,hd,⟨t,as,b,rfl,ht,hn,ha,rfl⟩,post⟩:=h;obtain ⟨v0,v1,v2,rfl,q0,q1,q2⟩:=nW hd;refine ⟨_,(aG (bL (aN bY (aT aV (pv 0) aE) aP (aU _)) (aI (aQ (bO e9 (aT aV (pv 0) aE) (pv 2)))) aW)
 (aG (bL (aN bY (aT aV (pv 0) aE) aP (aU _)) (aI (aQ (aT aV (pv 1) (aT aV (pv 0) aE)))) aW)
 (aG (bL (aN bY (aT aV (pv 0) aE) aP (aU _)) (aI (aQ (pc (D:=T.GY) HL hr (aD (fM (aN bY (pc (D:=T.GY) HL hr (aD (aT aV (pv 0) aE) (aD (pv 1) (aD (pv 2) aC)))) aE (aU _)) (aT aV (pv 0) aE) (aT aV (pv 0) aE)) (aD (pv 1) (aD (pv 2) aC)))))) aW)
 (aI (aQ (pc (D:=T.Il) Jx hr (aD (aT aV (pv 0) aE) (aD (pc (D:=T.GY) HL hr (aD (aT aV (pv 0) aE) (aD (pv 1) (aD (pv 2) aC)))) (aD (pc (D:=T.GY) HL hr (aD (aT aV (pv 0) aE) (aD (pv 1) (aD (pv 2) aC)))) (aD (pv 2) aC)))))))))),?_⟩
 have hb0:0 < b:=by have:=ha.2.2.1;omega
 cases t with
 | num m =>have q0:Dat K H (.tup [.str "num",.int m]) v0:=q0;refine aS (K:=K) (b:=true) (RT.as (aJ (bI (aY (k:=0) (aA q0) aF rfl) aK)) (BO rfl)) (λc H2 s2=>?_) (λc=>nomatch c);exact bF (K:=K) (d:=.int (m % b)) (j5 (aY (k:=1) (aA (s2.dat q0)) aF rfl) (aA (s2.dat q2)) hb0) λv H' s q=>post v H' (s2.trans s) q
 | arg m =>
  have q0:Dat K H (.tup [.str "arg",.int m]) v0:=q0;refine aS (K:=K) (b:=false) (RT.as (aJ (bI (aY (k:=0) (aA q0) aF rfl) aK)) (rb (by decide +kernel))) (λc=>nomatch c) (λc H2 s2=>?_);refine aS (K:=K) (b:=true) (RT.as (aJ (bI (aY (k:=0) (aA (s2.dat q0)) aF rfl) aK)) (BO rfl)) (λc H3 s3=>?_) (λc=>nomatch c);have s13:=s2.trans s3;have em:m=((m.toNat:Nat):Int):=by have:=ht.1;omega
  refine bF (K:=K) (d:=.int (as.getD m.toNat 0)) (aY (k:=m.toNat) (ds:=as.map D.int) (aA (s13.dat q1)) (RE.as (aY (k:=1) (aA (s13.dat q0)) aF rfl) (congrArg D.int em)) ?_) λv H' s q=>post v H' (s13.trans s) q;rw [List.getElem?_map,zL ha ht.1 ht.2];rfl
 | two o x y =>
  have q0:Dat K H (.tup [.str o,toD x,toD y]) v0:=q0;obtain ⟨n1,n2,n3⟩:=EY ht.1;have dx:a9 x<=n:=by simp only [a9] at hn;omega
  have dy:a9 y<=n:=by simp only [a9] at hn;omega
  refine aS (K:=K) (b:=false) (RT.as (aJ (bI (aY (k:=0) (aA q0) aF rfl) aK)) (rb n1)) (λc=>nomatch c) (λc H1 s1=>?_);refine aS (K:=K) (b:=false) (RT.as (aJ (bI (aY (k:=0) (aA (s1.dat q0)) aF rfl) aK)) (rb n2)) (λc=>nomatch c) (λc H2 s2=>?_);have s12:=s1.trans s2;refine aS (K:=K) (b:=false) (RT.as (aJ (bI (aY (k:=0) (aA (s12.dat q0)) aF rfl) aK)) (rb n3)) (λc=>nomatch c) (λc H3 s3=>?_);have s13:=s12.trans s3;have q0:=s13.dat q0;have q1:=s13.dat q1;have q2:=s13.dat q2;have wx:=m4 ha x ht.2.1;have wy:=m4 ha y ht.2.2;refine bF (K:=K) (d:=.int (two o (bK as b x) (bK as b y) b)) (bN (R:=zI) (aB (aY (k:=0) (aA q0) aF rfl) (aB (bN (R:=lK n) (d:=.int (bK as b x)) (aB (aY (k:=1) (aA q0) aF rfl) (aB (aA q1) (aB (aA q2) aL))) ⟨x,as,b,rfl,ht.2.1,dx,ha,rfl⟩) (aB (bN (R:=lK n) (d:=.int (bK as b y)) (aB (aY (k:=2) (aA q0) aF rfl) (aB (aA q1) (aB (aA q2) aL))) ⟨y,as,b,rfl,ht.2.2,dy,ha,rfl⟩) (aB (aA q2) aL)))) ⟨o,_,_,b,rfl,ht.1,ha.2.2.1,ha.2.2.2,wx.1,wx.2,wy.1,wy.2,rfl⟩) λv H' s q=>post v H' (s13.trans s) q
 | pick x y z =>
  have q0:Dat K H (.tup [.str "pick",toD x,toD y,toD z]) v0:=q0;have dx:a9 x<=n:=by simp only [a9] at hn;omega
  have dy:a9 y<=n:=by simp only [a9] at hn;omega
  have dz:a9 z<=n:=by simp only [a9] at hn;omega
  refine aS (K:=K) (b:=false) (RT.as (aJ (bI (aY (k:=0) (aA q0) aF rfl) aK)) (rb (by decide +kernel))) (λc=>nomatch c) (λc H1 s1=>?_);refine aS (K:=K) (b:=false) (RT.as (aJ (bI (aY (k:=0) (aA (s1.dat q0)) aF rfl) aK)) (rb (by decide +kernel))) (λc=>nomatch c) (λc H2 s2=>?_);have s12:=s1.trans s2;refine aS (K:=K) (b:=true) (RT.as (aJ (bI (aY (k:=0) (aA (s12.dat q0)) aF rfl) aK)) (BO rfl)) (λc H3 s3=>?_) (λc=>nomatch c);have s13:=s12.trans s3;have q0:=s13.dat q0;have q1:=s13.dat q1;have q2:=s13.dat q2;refine bF (K:=K) (d:=.int (if bK as b x=0 then bK as b z else bK as b y)) (bN (R:=lK n) (ds:=[toD (if bK as b x=0 then z else y),.tup (as.map D.int),.int b]) (aB (mQ (b:=decide (bK as b x=0)) (aJ (pZ (bN (R:=lK n) (d:=.int (bK as b x)) (aB (aY (k:=1) (aA q0) aF rfl) (aB (aA q1) (aB (aA q2) aL))) ⟨x,as,b,rfl,ht.1,dx,ha,rfl⟩) aF)) (λc=>?_) (λc=>?_)) (aB (aA q1) (aB (aA q2) aL))) ?_) λv H' s q=>post v H' (s13.trans s) q
  ·rw [if_pos (of_decide_eq_true c)];exact aY (k:=3) (aA q0) aF rfl
  ·rw [if_neg (of_decide_eq_false c)];exact aY (k:=2) (aA q0) aF rfl
  ·by_cases hz:bK as b x=0
   ·rw [if_pos hz,if_pos hz];exact ⟨z,as,b,rfl,ht.2.2,dz,ha,rfl⟩
   ·rw [if_neg hz,if_neg hz];exact ⟨y,as,b,rfl,ht.2.1,dy,ha,rfl⟩
def wa (ds es:List D):Prop:=ds=[]/\es=NM.map D.str
theorem qF (T:Txt P w K mg)  : Ok P w base (k+1) T.HP (jC K wa):=by
 refine T.HP.f.ok sc__law_names (λvs H Q E h=>?_) (λcdv A outer s H vs Q E hr h=>?_)
 ·obtain ⟨ds,es,hd,⟨rfl,_⟩,_⟩:=h;exact hd.length.symm
 have nd:=sc__law_names.nd;obtain ⟨ds,es,hd,⟨rfl,rfl⟩,post⟩:=h;have e0:=hd.nilE;subst e0;refine' ⟨_,?ybody,?yread⟩
 case' ybody=>refine' aG ?a ?b
 case' a=>refine' bT (i:=0) ?c ?d ?e ?f
 case c=>exact nd
 case d=>exact rfl
 case e=>exact Or.inl rfl
 case' f=>refine' bR ?g
 case' g=>refine' aD ?h ?i
 case h=>exact aP
 case' i=>refine' aD ?j ?k
 case j=>exact aP
 case' k=>refine' aD ?l ?m
 case l=>exact aP
 case' m=>refine' aD ?n ?o
 case n=>exact aP
 case' o=>refine' aD ?p ?q
 case p=>exact aP
 case' q=>refine' aD ?r ?s
 case r=>exact aP
 case' s=>refine' aD ?t ?u
 case t=>exact aP
 case' u=>refine' aD ?v ?w
 case v=>exact aP
 case' w=>refine' aD ?x ?y
 case x=>exact aP
 case' y=>refine' aD ?z ?aa
 case z=>exact aP
 case' aa=>refine' aD ?ab ?ac
 case ab=>exact aP
 case' ac=>refine' aD ?ad ?ae
 case ad=>exact aP
 case' ae=>refine' aD ?af ?ag
 case af=>exact aP
 case ag=>exact aC
 case' b=>refine' aI ?ah
 case ah=>exact (aQ (bO eV (pv 0) (bR (aD aP (aD aP (aD aP (aD aP aC)))))))
 refine iG (K:=K) (gC (aB aK (aB aK (aB aK (aB aK (aB aK (aB aK (aB aK (aB aK (aB aK (aB aK (aB aK (aB aK (aB aK aL)))))))))))))) λl ys H1 hl s1 hy dy=>?_;refine hU (RC.use (K:=K) (eY (bA (k:=0) (LD.of hy dy)) (gE (gC (aB aK (aB aK (aB aK (aB aK aL)))))) (by decide)) λl2 zs H2 hl2 s2 hz dz=>post l2 zs H2 (s1.trans s2) hz (s1.free hl2) ?_);exact dz
theorem Co (x y:Int):eqV (.int x) (.int y)=decide (x=y):=by unfold eqV;by_cases h:x=y <;> simp [h]
theorem xN (x:Int):∀ ys:List Int,inV (.int x) (ys.map V.int)=decide (x ∈ ys)
 | []=>by simp [inV]
 | y::ys=>by
  have ih:=xN x ys;unfold inV at ih ⊢;rw [List.map_cons,List.any_cons,ih,Co];by_cases h:y=x
  ·subst h;simp
  ·have h':¬ x=y:=λz=>h z.symm;simp [h,h']
theorem yz (ys:List Int):(ys.map V.int).all lN=true:=by rw [List.all_eq_true];intro v hv;obtain ⟨y,_,rfl⟩:=List.mem_map.mp hv;rfl
theorem Br {x:Int} {ys:List Int} (h1:RE K ta σ H (.int x)) (h2:RE K tb σ H (.tup (ys.map D.int))):RE K (tOp (rIn K false) ta tb) σ H (.bl (decide (x ∈ ys))):=λH1 s Q q =>
 h1 H1 s _ λv H2 s2 q2=>h2 H2 (s.trans s2) _ λw H3 s3 q3=>by obtain ⟨a,vs,ev,hq,hd⟩:=q3.tupE;have e:=xB hd;subst e;rw [q2.intE];refine ⟨a,_,ev,.inr hq,rfl,yz ys,?_⟩;rw [xN];exact q _ _ (s2.trans s3) (Dat.blI _)
def Eg (ds:List D) (d:D):Prop:=∃ i:Int,ds=[.int i]/\d=.int (fX i)
theorem pJ (T:Txt P w K mg)  : Ok P w base (k+1) T.Io (spD K Eg):=by
 refine T.Io.f.ok sc__law_behind (λvs H Q E h=>?_) (λcdv A outer s H vs Q E hr h=>?_)
 ·obtain ⟨ds,d,hd,⟨i,rfl,rfl⟩,_⟩:=h;exact hd.length.symm
 have nd:=sc__law_behind.nd;obtain ⟨ds,d,hd,⟨i,rfl,rfl⟩,post⟩:=h;obtain ⟨v0,rfl,h0⟩:=jw hd;refine ⟨_,(aG (bL (aN gT (pv 0) (bB (aD aE (aD aE (aD aE (aD aE aC))))) (by with_unfolding_all rfl)) (aI (aQ aE)) aW)
 (aI (aQ (fM (aN gT (pv 0) (bB (aD aE (aD aE (aD aE (aD aE (aD aE aC)))))) (by with_unfolding_all rfl)) aE aE)))),?_⟩
 refine aS (K:=K) (b:=decide (i ∈ ([2,9,11,15]:List Int))) (aJ (Br (ys:=[2,9,11,15]) (aA h0) (bJ (aB aF (aB aF (aB aF (aB aF aL))))))) (λc H1 s1=>?_) (λc H1 s1=>?_)
 ·have e:fX i=2:=by unfold fX;rw [if_pos (of_decide_eq_true c)]
  rw [e] at post;exact bF (K:=K) (d:=.int 2) aF λv H2 s2 q=>post v H2 (s1.trans s2) q
 ·have c:=of_decide_eq_false c;refine bF (K:=K) (d:=.int (fX i)) (mQ (b:=decide (i ∈ ([1,3,8,10,12]:List Int))) (aJ (Br (ys:=[1,3,8,10,12]) (aA (s1.dat h0)) (bJ (aB aF (aB aF (aB aF (aB aF (aB aF aL)))))))) (λc2=>RE.as aF ?_) (λc2=>RE.as aF ?_)) λv H2 s2 q=>post v H2 (s1.trans s2) q
  ·unfold fX;rw [if_neg c,if_pos (of_decide_eq_true c2)];rfl
  ·unfold fX;rw [if_neg c,if_neg (of_decide_eq_false c2)];rfl
theorem m9 (ds:List D):eqDs ds []=ds.isEmpty:=by cases ds <;> rfl
def But2 (a b:Addr) (H H':Hp):Prop:=∀ x o,x≠a->x≠b->H x=some o->H' x=some o
theorem nZ {a b:Addr} (s:Same H H'):But2 a b H H':=λx o _ _ e=>s x o e
theorem But2.trans {a b:Addr} {H2:Hp} (x:But2 a b H H1) (y:But2 a b H1 H2):But2 a b H H2:=λc o n1 n2 e=>y c o n1 n2 (x c o n1 n2 e)
theorem jJ {p q:Prop} [Decidable p] [Decidable q] (h:p↔q):decide p=decide q:=decide_eq_decide.mpr h
theorem xS (l:List Nat):kpV l=(l.reverse.map λ(n:Nat)=>(n:Int)).map V.int:=by unfold kpV;rw [List.map_map];rfl
theorem FD {n:Int} (h1:¬ nm="load") (h2:¬ nm="skip") (h3:¬ nm="zero"):jV nm TTO n=n:=by
 unfold jV
 have e:KTD.datumAt nm TTO=none:=by show (if decide (nm="load")=true then _ else if decide (nm="skip")=true then _ else if decide (nm="zero")=true then _ else _)=_;rw [if_neg (by simp [h1]),if_neg (by simp [h2]),if_neg (by simp [h3])];rfl
 rw [e]
theorem nR (h1:¬ nm="load") (h2:¬ nm="skip") (h3:¬ nm="zero"):iR nm n=false:=by unfold iR;rw [FD h1 h2 h3];exact decide_eq_false (by omega)
theorem BU:iR "zero" n=decide (9 < n):=by unfold iR;rw [show jV "zero" TTO n=9 by kernel_rfl];exact jJ (by omega)
theorem BS:iR "skip" n=decide (9 < n):=by unfold iR;rw [show jV "skip" TTO n=9 by kernel_rfl];exact jJ (by omega)
theorem BR:iR "load" n=decide (3 < n):=by unfold iR;rw [show jV "load" TTO n=3 by kernel_rfl];exact jJ (by omega)
noncomputable def goR (nm:Str) (num on:Nat) (st:MS):Option (Nat × MS):=if iR nm num=true then none else mZ nm num on st
def BI (K:W.Frag):Sp:=λvs H Q _=>∃ (nm:Str) (num on:Nat) (lp lk:Addr) (st:MS),vs=[.str nm,.int num,.int on,.ref lp,.ref lk]/\nm ∈ WS/\H lp=some (.lst (pV st.pile))/\H lk=some (.lst (kpV st.kept))/\lp≠lk/\st.kept.length<=16 /\
 (∀ p,goR nm num on st=some p->∀ H',But2 lp lk H H'->H' lp=some (.lst (pV p.2.pile))->H' lk=some (.lst (kpV p.2.kept))->Q (.int p.1) H') /\
 (goR nm num on st=none->∀ H' zs ws,But2 lp lk H H'->H' lp=some (.lst zs)->H' lk=some (.lst ws)->Q .non H')
theorem sW (T:Txt P w K mg)  : Ok P w base (k+1) T.IY (BI K):=by
 refine T.IY.f.ok sc__law_goes (λvs H Q E h=>?_) (λcdv A outer s H vs Q E hr h=>?_)
 ·obtain ⟨nm,num,on,lp,lk,st,rfl,_⟩:=h;rfl
 have nd:=sc__law_goes.nd;obtain ⟨nm,num,on,lp,lk,st,rfl,hws,hp,hk,ne,k16,ok,bad⟩:=h;refine ⟨_,(aG (bL (aN gT (pv 0) (bB (aD aP (aD aP aC))) (by with_unfolding_all rfl)) (aG (bL (PW.pt (dW (aN (pO hr) (pv 3) (bR aC) (aU _)) (dY (PW.pt (pW (aN bY (pv 0) aP (aU _)) (mL (aN kg (pv 1) aE (aU _)))))))) (aI (aQ fJ)) aW)
 (aI (aQ (fM (aN bY (nD F.plainAttrs_list F.slot_list_pop F.type_list_pop ny (pv 3)) aE (aU _)) (bO eB (pv 2) (pv 1)) (pv 2))))) aW)
 (aG (bL (aN gT (pv 0) (bB (aD aP (aD aP aC))) (by with_unfolding_all rfl)) (aI (aQ (fM (PW.pt (pW (aN bY (pv 0) aP (aU _)) (mL (aN kg (pv 1) aE (aU _))))) fJ (bO eB (pv 2) (pv 1))))) aW)
 (aG (bL (aN bY (pv 0) aP (aU _)) (aG (bL (aN kg (a6 aX rfl T.GO bU (aD (pv 4) aC)) aE (aU _)) (aI (aQ fJ)) aW)
 (aG (bW (eQ F.plainAttrs_list F.slot_list_append F.type_list_append bV (pv 4) (aD (pv 2) aC)))
 (aI (aQ (pv 1))))) aW)
 (aI (aQ (fM (aN (A1 hr) (pv 4) (bR aC) (aU _)) (nD F.plainAttrs_list F.slot_list_pop F.type_list_pop ny (pv 4)) fJ)))))),?_⟩
 have dp:Dats K H (st.pile.reverse.map D.int) (pV st.pile):=e8 _;refine aS (K:=K) (b:=decide (nm ∈ (["zero","none"]:List Str))) (aJ (nG (ys:=["zero","none"]) (aA (K:=K) (k:=0) (Dat.strI nm)) (bJ (aB aK (aB aK aL))))) (λc H1 s1=>?_) (λc H1 s1=>?_)
 ·have c:=of_decide_eq_true c;have hp1:=s1 _ _ hp;have hk1:=s1 _ _ hk
  have et:iR nm num=(decide (nm="zero") && decide ((9:Int) < num)):=by
   rcases List.mem_cons.mp c with rfl | c
   ·rw [BU,decide_eq_true (rfl:("zero":Str)="zero"),Bool.true_and];exact jJ (by omega)
   ·obtain rfl:=List.mem_singleton.mp c;rw [nR (by decide +kernel) (by decide +kernel) (by decide +kernel),decide_eq_false (by decide +kernel:¬ ("none":Str)="zero")];rfl
  have ew:mZ nm num on st=(gU st).map λp=>(if p.1=0 then on+num else on,p.2):=by unfold mZ;rw [if_neg (by rcases List.mem_cons.mp c with rfl | c;exact (by decide +kernel);obtain rfl:=List.mem_singleton.mp c;exact (by decide +kernel)),if_pos c]
  have hn:=mP (K:=K) (k:=3) (σ:=f7 ["_law_name","_law_number","_law_on","_law_pile","_law_ways"] [.str nm,.int num,.int on,.ref lp,.ref lk]) hp1 (s1.dats dp) (i8 _) (by rw [iK];decide);rw [m9] at hn;refine aS (K:=K) (b:=(st.pile.reverse.map D.int).isEmpty || (decide (nm="zero") && decide ((9:Int) < num))) (cI (aJ hn) λ_=>tY (aJ (bI (aA (K:=K) (k:=0) (Dat.strI nm)) aK)) λ_=>aJ (cV (p:=λi j=>decide (j < i)) (aA (K:=K) (k:=1) (Dat.intI (num:Int))) aF)) (λcb H2 s2=>?_) (λcb H2 s2=>?_)
  ·refine bad ?_ H2 _ _ (nZ (s1.trans s2)) (s2 _ _ hp1) (s2 _ _ hk1);unfold goR;rw [et]
   cases hz:(decide (nm="zero") && decide ((9:Int) < num)) with
   | true=>rfl
   | false =>
    rw [hz,Bool.or_false] at cb
    have hpn:st.pile=[]:=by
     cases hq:st.pile with
     | nil=>rfl
     | cons x r=>rw [hq] at cb;simp at cb
    rw [if_neg Bool.false_ne_true,ew];unfold gU;rw [hpn];rfl
  ·rw [Bool.or_eq_false_iff] at cb
   obtain ⟨x,r,hx⟩:∃ x r,st.pile=x::r:=by
    cases hq:st.pile with
    | nil=>rw [hq] at cb;exact nomatch cb.1
    | cons x r=>exact ⟨x,r,rfl⟩
   have hp2:H2 lp=some (.lst (pV r++[.int x])):=by rw [<- gZ,<- hx];exact s2 _ _ hp1
   have hk2:=s2 _ _ hk1
   have eg:∀ p,(if x=0 then on+num else on,{ st with pile:=r })=p->goR nm num on st=some p:=λp e=>by unfold goR;rw [et,cb.2,if_neg Bool.false_ne_true,ew];unfold gU;rw [hx];exact congrArg some e
   refine ⟨_,rfl,.inl ⟨rfl,_,SqL.of hp2⟩,lp,_,.int x,rfl,rfl,hp2,by simp,?_⟩;rw [List.dropLast_concat];have b3:But2 lp lk H (upd H2 lp (.lst (pV r))):=(nZ (s1.trans s2)).trans λy o n _ e=>by rw [aZ n];exact e
   have k3:upd H2 lp (.lst (pV r)) lk=some (.lst (kpV st.kept)):=by rw [aZ (Ne.symm ne)];exact hk2
   refine ⟨rfl,_,rfl,?_⟩;have es:decide (V.int x=V.int 0)=decide (x=0):=jJ ⟨λz=>V.int.inj z,λz=>by rw [z]⟩;rw [es];by_cases hz:x=0
   ·rw [decide_eq_true hz];refine jv ⟨_,rfl,_,rfl,on,num,rfl,rfl,?_⟩;have:=ok _ (eg _ rfl) _ b3 aH k3;rw [if_pos hz,Int.natCast_add] at this;exact this
   ·rw [decide_eq_false hz];refine jN ⟨_,rfl,?_⟩;have:=ok _ (eg _ rfl) _ b3 aH k3;rw [if_neg hz] at this;exact this
 have n1:=of_decide_eq_false c;have hp1:=s1 _ _ hp;have hk1:=s1 _ _ hk;refine aS (K:=K) (b:=decide (nm ∈ (["skip","jump"]:List Str))) (aJ (nG (ys:=["skip","jump"]) (aA (K:=K) (k:=0) (Dat.strI nm)) (bJ (aB aK (aB aK aL))))) (λc H2 s2=>?_) (λc H2 s2=>?_)
 ·have c:=of_decide_eq_true c
  have et:iR nm num=(decide (nm="skip") && decide ((9:Int) < num)):=by
   rcases List.mem_cons.mp c with rfl | c
   ·rw [BS,decide_eq_true (rfl:("skip":Str)="skip"),Bool.true_and];exact jJ (by omega)
   ·obtain rfl:=List.mem_singleton.mp c;rw [nR (by decide +kernel) (by decide +kernel) (by decide +kernel),decide_eq_false (by decide +kernel:¬ ("jump":Str)="skip")];rfl
  have ew:mZ nm num on st=some (on+num,st):=by unfold mZ;rw [if_pos c]
  refine RT.use (b:=decide (nm="skip") && decide ((9:Int) < num)) (tY (aJ (bI (aA (K:=K) (k:=0) (Dat.strI nm)) aK)) λ_=>aJ (cV (p:=λi j=>decide (j < i)) (aA (K:=K) (k:=1) (Dat.intI (num:Int))) aF)) λH3 s3=>?_;have s13:=s1.trans (s2.trans s3)
  cases hz:(decide (nm="skip") && decide ((9:Int) < num)) with
  | true=>exact jv (bad (by unfold goR;rw [et,hz];rfl) H3 _ _ (nZ s13) (s13 _ _ hp) (s13 _ _ hk))
  | false =>refine jN ⟨_,rfl,_,rfl,on,num,rfl,rfl,?_⟩;have:=ok (on+num,st) (by unfold goR;rw [et,hz,ew];rfl) H3 (nZ s13) (s13 _ _ hp) (s13 _ _ hk);rw [Int.natCast_add] at this;exact this
 have n2:=of_decide_eq_false c;have hp2:=s2 _ _ hp1;have hk2:=s2 _ _ hk1;have s12:=s1.trans s2;have et:iR nm num=false:=nR (λz=>by rw [z] at hws;revert hws;decide +kernel) (λz=>n2 (by rw [z];decide +kernel)) (λz=>n1 (by rw [z];decide +kernel));refine aS (K:=K) (b:=decide (nm="call")) (aJ (bI (aA (K:=K) (k:=0) (Dat.strI nm)) aK)) (λc H3 s3=>?_) (λc H3 s3=>?_)
 ·have c:=of_decide_eq_true c;have hp3:=s3 _ _ hp2;have hk3:=s3 _ _ hk2;have s13:=s12.trans s3;have ew:goR nm num on st=if st.kept.length=16 then none else some (num,{ st with kept:=on::st.kept }):=by unfold goR mZ;rw [et,if_neg n2,if_neg n1,if_pos c];rfl
  have LK:LD K H3 ((st.kept.reverse.map λ(n:Nat)=>(n:Int)).map D.int) (.ref lk):=LD.of (hk3.trans (by rw [xS])) (e8 _);refine aS (K:=K) (b:=decide (st.kept.length=16)) (RT.as (aJ (cV (p:=λi j=>decide (j < i)) (d5 (bA (k:=4) LK)) aF)) (jJ (by rw [List.length_map,List.length_map,List.length_reverse];omega))) (λc2 H4 s4=>?_) (λc2 H4 s4=>?_)
  ·exact bad (by rw [ew,if_pos (of_decide_eq_true c2)]) H4 _ _ (nZ (s13.trans s4)) (s4 _ _ hp3) (s4 _ _ hk3)
  ·have c2:=of_decide_eq_false c2;have hk4:=s4 _ _ hk3;have ll:=CN st.kept;refine i5 (K:=K) (d:=.int (on:Int)) (aA (k:=2) (Dat.intI (on:Int))) hk4 (by omega) λy G5 b5 hk5 dy5=>?_;rw [dy5.intE] at hk5;refine ⟨_,rfl,ok (num,{ st with kept:=on::st.kept }) (by rw [ew,if_neg c2]) G5 ((nZ (s13.trans s4)).trans λx o _ n e=>b5 x o n e) (b5 _ _ ne (s4 _ _ hp3)) (by rw [uN];exact hk5)⟩
 have n3:=of_decide_eq_false c;have hp3:=s3 _ _ hp2;have hk3:=s3 _ _ hk2;have s13:=s12.trans s3;have hn:=Bu (K:=K) (k:=4) (σ:=f7 ["_law_name","_law_number","_law_on","_law_pile","_law_ways"] [.str nm,.int num,.int on,.ref lp,.ref lk]) hk3 (by rw [xS];exact e8 (st.kept.reverse.map λ(n:Nat)=>(n:Int))) (i8 _) (by rw [iK];decide);rw [m9] at hn;refine RT.use (aJ hn) λH4 s4=>?_;have hp4:=s4 _ _ hp3;have hk4:=s4 _ _ hk3;have s14:=s13.trans s4
 have ew:goR nm num on st=match st.kept with
  | []=>none
  | k::r=>some (k,{ st with kept:=r }):=by unfold goR mZ;rw [et,if_neg n2,if_neg n1,if_neg n3];rfl
 cases hq:st.kept with
 | nil =>rw [hq] at ew hk4;exact jN (bad ew H4 _ _ (nZ s14) hp4 hk4)
 | cons x r =>
  rw [hq] at ew;have hk5:H4 lk=some (.lst (kpV r++[.int x])):=by rw [<- uN,<- hq];exact hk4
  have eb:(!((((x::r).reverse.map λ(n:Nat)=>(n:Int)).map D.int).isEmpty))=true:=by simp
  rw [eb];refine jv ⟨_,rfl,.inl ⟨rfl,_,SqL.of hk5⟩,lk,_,.int x,rfl,rfl,hk5,by simp,?_⟩;rw [List.dropLast_concat];exact ok (x,{ st with kept:=r }) ew _ ((nZ s14).trans λy o _ n e=>by rw [aZ n];exact e) (by rw [aZ ne];exact hp4) aH
noncomputable abbrev S10:List Str:=["put","far","load","add","sub","mul","less","more","twice","about"]
theorem p6 (h:RE K te σ G d) (hl:G l=some (.lst xs)) (hx:xs.length<=1000)
  (q:∀ y G',But l G G'->G' l=some (.lst (xs++[y]))->Dat K G' d y->En.nx σ G') (hv:σ[j]?=some (some (.ref l)):=by rfl):qt (tBM K "list" mM (hW j) (cE te eG)) En σ G:=by
 refine ⟨_,hv,.inl ⟨rfl,_,SqL.of hl⟩,h.use λy H1 s1 q1=>?_⟩;have hl1:=s1 _ _ hl;refine ⟨l,xs,y,rfl,rfl,hl1,bX hx,?_⟩;have b:But l H1 (upd H1 l (.lst (xs++[y]))):=But.upd (Same.refl _).but;exact q y _ (s1.but.trans b) aH (Dat.mono (b.grow hl1 aH) _ q1)
theorem Bz (h:RE K te σ G d) (hl:G l=some (.lst xs)) (hx:xs.length<=1000)
  (q:∀ y G',But l G G'->G' l=some (.lst (xs++[y]))->Dat K G' d y->us En σ G') (hv:σ[j]?=some (some (.ref l)):=by rfl):lI (qt (tBM K "list" mM (hW j) (cE te eG))) us En σ G:=c9 (p6 h hl hx q hv)
noncomputable def doR (mc:MC) (nm:Str) (num:Nat) (st:MS):Option MS:=if iR nm num=true then none else dJ mc nm num st
def BG (K:W.Frag):Sp:=λvs H Q _=>∃ (nm:Str) (num:Nat) (lp:Addr) (vg:V) (mc:MC) (st:MS),vs=[.str nm,.int num,.ref lp,vg,.int mc.b]/\nm ∈ S10/\H lp=some (.lst (pV st.pile))/\Dat K H (.tup (mc.as.map D.int)) vg/\yO mc/\kq mc st /\
 (∀ s,doR mc nm num st=some s->∀ H',But lp H H'->H' lp=some (.lst (pV s.pile))->Q (.bl true) H')/\(doR mc nm num st=none->∀ H' zs,But lp H H'->H' lp=some (.lst zs)->Q (.bl false) H')
theorem Bi {z:V} (hl:H l=some (.lst (ys++[z]))) (q:Q z (upd H l (.lst ys))) (e:σ[j]?=some (some (.ref l)):=by rfl):Gm K "list" F9 (hW j) σ H Q :=
 ⟨_,e,.inl ⟨rfl,_,SqL.of hl⟩,l,_,z,rfl,rfl,hl,by simp,by rw [List.dropLast_concat];exact q⟩
variable {st:MS}
theorem iN {n:Int} (h:st.pile.length≠64):fN mc n st=some { st with pile:=n % mc.b::st.pile }:=by unfold fN;rw [if_neg h]
theorem ya {n:Int} (h:st.pile.length=64):fN mc n st=none:=by unfold fN;rw [if_pos h]
theorem gW {x:Int} {r:List Int} (h:st.pile=x::r):gU st=some (x,{ st with pile:=r }):=by unfold gU;rw [h]
theorem pE {x b:Int} (h0:0<=x) (h1:x < b):x % b=x:=Int.emod_eq_of_lt h0 h1
theorem sS (T:Txt P w K mg) (Jx:Ok P w base k T.Il (spD K zI)):Ok P w base (k+1) T.IV (BG K):=by
 refine T.IV.f.ok sc__law_does (λvs H Q E h=>?_) (λcdv A outer s H vs Q E hr h=>?_)
 ·obtain ⟨nm,num,lp,vg,mc,st,rfl,_⟩:=h;rfl
 have nd:=sc__law_does.nd;obtain ⟨nm,num,lp,vg,mc,st,rfl,hss,hp,hg,oc,os,ok,bad⟩:=h;refine ⟨_,(aG (bL (aN gT (pv 0) (bB (aD aP (aD aP (aD aP aC)))) (by with_unfolding_all rfl)) (aG (bL (PW.pt (dW (aN kg (a6 aX rfl T.GO bU (aD (pv 2) aC)) aE (aU _)) (dY (PW.pt (pW (aN bY (pv 0) aP (aU _)) (mL (aN kg (pv 1) aE (aU _)))))))) (aI (aQ dD)) aW)
 (aI (bW (eQ F.plainAttrs_list F.slot_list_append F.type_list_append bV (pv 2) (aD (fM (aN bY (pv 0) aP (aU _)) (aT aV (pv 3) (pv 1)) (bO e9 (pv 1) (pv 4))) aC))))) (aI (bL (aN gT (pv 0) (bB (aD aP (aD aP aC))) (by with_unfolding_all rfl)) (aG (bL (PW.pt (dW (aN (pO hr) (pv 2) (bR aC) (aU _)) (dY (PW.pt (pW (aN bY (pv 0) aP (aU _)) (mL (aN kg (a6 aX rfl T.GO bU (aD (pv 2) aC)) aE (aU _)))))))) (aI (aQ dD)) aW)
 (aI (bW (eQ F.plainAttrs_list F.slot_list_append F.type_list_append bV (pv 2) (aD (fM (aN bY (pv 0) aP (aU _)) (aT bP (pv 2) (A5 xo aE)) (bO e9 (bO eB (nD F.plainAttrs_list F.slot_list_pop F.type_list_pop ny (pv 2)) (pv 1)) (pv 4))) aC))))) (aG (bL (aN kN (a6 aX rfl T.GO bU (aD (pv 2) aC)) aE (aU _)) (aI (aQ dD)) aW)
 (aG (nE (i:=5) (j:=6) rfl nd rfl rfl (by decide) rfl rfl (aD (nD F.plainAttrs_list F.slot_list_pop F.type_list_pop ny (pv 2)) (aD (nD F.plainAttrs_list F.slot_list_pop F.type_list_pop ny (pv 2)) aC)) (by kernel_rfl))
 (aI (bL (aN bY (pv 0) aP (aU _)) (aI (bW (eQ F.plainAttrs_list F.slot_list_extend F.type_list_extend jO (pv 2) (aD (bR (aD (pv 5) (aD (pv 6) aC))) aC)))) (aI (bW (eQ F.plainAttrs_list F.slot_list_append F.type_list_append bV (pv 2) (aD (pc (D:=T.Il) Jx hr (aD (pv 0) (aD (pv 6) (aD (pv 5) (aD (pv 4) aC))))) aC)))))))))))
 (aI (aQ dD))),?_⟩
 have b2:=oc.b2;have l64:=os.l;have ll:=wM st.pile;have LP:∀ {G:Hp},G lp=some (.lst (pV st.pile))->LD K G (st.pile.reverse.map D.int) (.ref lp):=λh=>LD.of h (e8 _);refine c9 (RT.use (b:=decide (nm ∈ (["put","far","load"]:List Str))) (aJ (nG (ys:=["put","far","load"]) (aA (K:=K) (k:=0) (Dat.strI nm)) (bJ (aB aK (aB aK (aB aK aL)))))) λH1 s1=>?_);have hp1:=s1 _ _ hp;by_cases cA:nm ∈ (["put","far","load"]:List Str)
 ·rw [decide_eq_true cA]
  have et:iR nm num=(decide (nm="load") && decide ((3:Int) < num)):=by
   by_cases hz:nm="load"
   ·subst hz;rw [BR,decide_eq_true (rfl:("load":Str)="load"),Bool.true_and];exact jJ (by omega)
   ·rw [nR hz (λz=>by rw [z] at cA;revert cA;decide +kernel) (λz=>by rw [z] at cA;revert cA;decide +kernel),decide_eq_false hz];rfl
  have ew:dJ mc nm num st=fN mc (if nm="load" then mc.as.getD num 0 else num) st:=by
   unfold dJ;by_cases hz:nm="load"
   ·rw [if_neg (by rw [hz];decide +kernel),if_pos hz,if_pos hz]
   ·rw [if_pos (by rcases List.mem_cons.mp cA with z | z;rw [z];exact List.mem_cons_self;rcases List.mem_cons.mp z with z | z;rw [z];exact List.mem_cons_of_mem _ List.mem_cons_self;exact absurd (List.mem_singleton.mp z) hz),if_neg hz]
  refine jv (aS (K:=K) (b:=decide (st.pile.length=64) || (decide (nm="load") && decide ((3:Int) < num))) (cI (RT.as (aJ (cV (p:=λi j=>decide (j < i)) (d5 (bA (k:=2) (LP hp1))) aF)) (jJ (by rw [List.length_map,List.length_reverse];omega))) λ_=>tY (aJ (bI (aA (K:=K) (k:=0) (Dat.strI nm)) aK)) λ_=>aJ (cV (p:=λi j=>decide (j < i)) (aA (K:=K) (k:=1) (Dat.intI (num:Int))) aF)) (λc H2 s2=>?_) (λc H2 s2=>?_))
  ·refine bad ?_ H2 _ (s1.trans s2).but (s2 _ _ hp1);unfold doR;rw [et]
   cases hz:(decide (nm="load") && decide ((3:Int) < num)) with
   | true=>rfl
   | false =>rw [hz,Bool.or_false] at c;rw [if_neg Bool.false_ne_true,ew,ya (of_decide_eq_true c)]
  ·rw [Bool.or_eq_false_iff] at c;have nl:=of_decide_eq_false c.1
   have ed:doR mc nm num st=some { st with pile:=(if nm="load" then mc.as.getD num 0 else (num:Int) % mc.b)::st.pile }:=by
    unfold doR;rw [et,c.2,if_neg Bool.false_ne_true,ew,iN nl];by_cases hz:nm="load"
    ·rw [if_pos hz,if_pos hz]
     have h3:num<=3:=by rw [decide_eq_true hz,Bool.true_and] at c;have:=of_decide_eq_false c.2;omega
     have hm:=oc.ai (mc.as.getD num 0) (by
      rw [List.getD_eq_getElem?_getD,List.getElem?_eq_getElem (by have:=oc.as;omega:num < mc.as.length)];exact List.getElem_mem _)
     rw [pE hm.1 hm.2]
    ·rw [if_neg hz,if_neg hz]
   refine p6 (K:=K) (d:=.int (if nm="load" then mc.as.getD num 0 else (num:Int) % mc.b)) (mQ (b:=decide (nm="load")) (aJ (bI (aA (K:=K) (k:=0) (Dat.strI nm)) aK)) (λcz=>?_) (λcz=>?_)) (s2 _ _ hp1) (by omega) λy G b hG dy=>?_
   ·have cz:=of_decide_eq_true cz;rw [if_pos cz]
    have h3:num<=3:=by rw [decide_eq_true cz,Bool.true_and] at c;have:=of_decide_eq_false c.2;omega
    have la:=oc.as
    exact aY (k:=num) (aA (k:=3) ((s1.trans s2).dat hg)) (aA (k:=1) (Dat.intI (num:Int))) (by
     rw [List.getElem?_map,List.getElem?_eq_getElem (by omega:num < mc.as.length),List.getD_eq_getElem?_getD,List.getElem?_eq_getElem (by omega:num < mc.as.length)];rfl)
   ·rw [if_neg (of_decide_eq_false cz)];exact j5 (aA (k:=1) (Dat.intI (num:Int))) (aA (k:=4) (Dat.intI mc.b)) (by omega)
   ·rw [dy.intE] at hG;exact ok _ ed G ((s1.trans s2).but.trans b) (by rw [gZ];exact hG)
 rw [decide_eq_false cA];have et:iR nm num=false:=nR (λz=>cA (by rw [z];decide +kernel)) (λz=>by rw [z] at hss;revert hss;decide +kernel) (λz=>by rw [z] at hss;revert hss;decide +kernel)
 have ew:doR mc nm num st=(gU st).bind λu =>
  if nm="more" then fN mc (u.1+num) u.2
  else if nm="twice" then (fN mc u.1 u.2).bind λs=>fN mc u.1 s
  else if nm="about" then (gU u.2).bind λl=>(fN mc u.1 l.2).bind λs=>fN mc l.1 s
  else (gU u.2).bind λl=>fN mc (two nm l.1 u.1 mc.b) l.2:=by
  unfold doR dJ;rw [et,if_neg Bool.false_ne_true,if_neg (λz=>cA (by rcases List.mem_cons.mp z with z | z;rw [z];exact List.mem_cons_self;rw [List.mem_singleton.mp z];decide +kernel)),if_neg (λz=>cA (by rw [z];decide +kernel))]
 rw [ew] at ok bad;refine jN (RT.use (b:=decide (nm ∈ (["more","twice"]:List Str))) (aJ (nG (ys:=["more","twice"]) (aA (K:=K) (k:=0) (Dat.strI nm)) (bJ (aB aK (aB aK aL))))) λH2 s2=>?_);have hp2:=s2 _ _ hp1;have s12:=s1.trans s2;by_cases cB:nm ∈ (["more","twice"]:List Str)
 ·rw [decide_eq_true cB];have hn:=mP (K:=K) (k:=2) (σ:=f7 ["_law_name","_law_number","_law_pile","_law_args_here","_law_base","_law_other","_law_one"] [.str nm,.int num,.ref lp,vg,.int mc.b]) hp2 (e8 st.pile.reverse) (i8 _) (by rw [iK];decide);rw [m9] at hn;refine jv (aS (K:=K) (b:=(st.pile.reverse.map D.int).isEmpty || (decide (nm="twice") && decide (st.pile.length=64))) (cI (aJ hn) λ_=>tY (aJ (bI (aA (K:=K) (k:=0) (Dat.strI nm)) aK)) λ_=>RT.as (aJ (cV (p:=λi j=>decide (j < i)) (d5 (bA (k:=2) (LP hp2))) aF)) (jJ (by rw [List.length_map,List.length_reverse];omega))) (λc H3 s3=>?_) (λc H3 s3=>?_))
  ·refine bad ?_ H3 _ (s12.trans s3).but (s3 _ _ hp2)
   cases hq:st.pile with
   | nil=>unfold gU;rw [hq];rfl
   | cons x r =>
    rw [hq] at c;have e0:((x::r).reverse.map D.int).isEmpty=false:=by simp
    rw [e0,Bool.false_or,Bool.and_eq_true] at c;have ct:=of_decide_eq_true c.1;have cl:r.length+1=64:=of_decide_eq_true c.2;rw [gW hq,Option.bind_some,if_neg (by rw [ct];decide +kernel),if_pos ct,iN (by show r.length≠64;omega),Option.bind_some,ya (by show r.length+1=64;exact cl)]
  ·rw [Bool.or_eq_false_iff] at c
   obtain ⟨x,r,hx⟩:∃ x r,st.pile=x::r:=by
    cases hq:st.pile with
    | nil=>rw [hq] at c;exact nomatch c.1
    | cons x r=>exact ⟨x,r,rfl⟩
   have xb:=os.p x (by rw [hx];exact List.mem_cons_self);have rl:r.length+1<=64:=by rw [hx] at l64;exact l64
   have hp3:H3 lp=some (.lst (pV r++[.int x])):=by rw [<- gZ,<- hx];exact s3 _ _ hp2
   have s13:=s12.trans s3;have lr:=wM r;refine ⟨_,rfl,.inl ⟨rfl,_,SqL.of hp3⟩,RT.use (b:=decide (nm="twice")) (aJ (bI (aA (K:=K) (k:=0) (Dat.strI nm)) aK)) λH4 s4=>?_⟩;have hp4:=s4 _ _ hp3;by_cases ct:nm="twice"
   ·rw [decide_eq_true ct]
    have c64:r.length+1≠64:=by rw [decide_eq_true ct,Bool.true_and,hx] at c;exact of_decide_eq_false c.2
    refine jv (RE.use (nI (d:=.int x) (ds:=r.reverse.map D.int) (bA (K:=K) (k:=2) (LD.of hp4 (Dats.append (e8 r.reverse) (Dats.cons (Dat.intI x) Dats.nil)))) (Bx aF)) λv H5 s5 qv=>?_);rw [qv.intE];refine ⟨lp,_,_,rfl,rfl,s5 _ _ hp4,bX (by rw [List.length_append];show (pV r).length+1<=1000;omega),?_⟩;refine ok { st with pile:=x::x::r } ?_ _ ((s13.trans (s4.trans s5)).but.trans (But.upd (Same.refl _).but)) (by rw [aH,gZ,gZ]);rw [gW hx,Option.bind_some,if_neg (by rw [ct];decide +kernel),if_pos ct,iN (by show r.length≠64;omega),Option.bind_some,iN (by show r.length+1≠64;exact c64),pE xb.1 xb.2]
   ·rw [decide_eq_false ct]
    have cm:nm="more":=by
     rcases List.mem_cons.mp cB with z | z
     ·exact z
     ·exact absurd (List.mem_singleton.mp z) ct
    refine jN (Bi hp4 ⟨_,rfl,x,num,rfl,rfl,_,rfl,x+num,mc.b,rfl,rfl,by show 0 < mc.b;omega,lp,pV r,_,rfl,rfl,aH,bX (by omega),?_⟩);refine ok { st with pile:=(x+num) % mc.b::r } ?_ _ ((s13.trans s4).but.trans (But.upd (But.upd (Same.refl _).but))) (by rw [aH,gZ]);rw [gW hx,Option.bind_some,if_pos cm,iN (by show r.length≠64;omega)]
 rw [decide_eq_false cB];have nm1:¬ nm="more":=λz=>cB (by rw [z];decide +kernel);have nm2:¬ nm="twice":=λz=>cB (by rw [z];decide +kernel);refine jN (aS (K:=K) (b:=decide (st.pile.length < 2)) (RT.as (aJ (cV (p:=λi j=>decide (i < j)) (d5 (bA (k:=2) (LP hp2))) aF)) (jJ (by rw [List.length_map,List.length_reverse];omega))) (λc H3 s3=>?_) (λc H3 s3=>?_))
 ·have c:=of_decide_eq_true c;refine bad ?_ H3 _ (s12.trans s3).but (s3 _ _ hp2)
  match hq:st.pile,c with
  | [],_=>unfold gU;rw [hq];rfl
  | [x],_ =>rw [gW hq,Option.bind_some,if_neg nm1,if_neg nm2];have e:gU { st with pile:=[] }=none:=rfl;split <;> (rw [e];rfl)
  | _::_::_,c=>exact absurd c (by simp)
 ·have c:=of_decide_eq_false c
  obtain ⟨u,l,r,hx⟩:∃ u l r,st.pile=u::l::r:=by
   match hq:st.pile,c with
   | [],c=>exact absurd c (by simp)
   | [x],c=>exact absurd c (by simp)
   | u::l::r,_=>exact ⟨u,l,r,rfl⟩
  have ub:=os.p u (by rw [hx];exact List.mem_cons_self);have lb:=os.p l (by rw [hx];exact List.mem_cons_of_mem _ List.mem_cons_self);have rl:r.length+2<=64:=by rw [hx] at l64;exact l64
  have lr:=wM r;have s13:=s12.trans s3;have hp3:H3 lp=some (.lst ((pV r++[.int l])++[.int u])):=by rw [<- gZ,<- gZ,<- hx];exact s3 _ _ hp2
  refine Bi hp3 (Bi aH ⟨_,_,rfl,?_⟩);generalize e5:upd (upd H3 lp _) lp (.lst (pV r))=H5;have hp5:H5 lp=some (.lst (pV r)):=by rw [<- e5];exact aH
  have b5:But lp H H5:=by rw [<- e5];exact s13.but.trans (But.upd (But.upd (Same.refl _).but))
  refine RT.use (b:=decide (nm="about")) (aJ (bI (aA (K:=K) (k:=0) (Dat.strI nm)) aK)) λH6 s6=>?_;have hp6:=s6 _ _ hp5;have b6:=b5.trans s6.but;by_cases ca:nm="about"
  ·rw [decide_eq_true ca];refine jv ⟨_,rfl,.inl ⟨rfl,_,SqL.of hp6⟩,_,rfl,_,rfl,cW (show 2<=1000 by decide),λlb2 nb=>?_⟩;have nlb:lp≠lb2:=λz=>by rw [<- z,hp6] at nb;cases nb
   refine ⟨lp,lb2,_,_,rfl,rfl,by rw [aZ nlb];exact hp6,aH,cW (by show (pV r).length+2<=1000;omega),?_⟩;refine ok { st with pile:=l::u::r } ?_ _ ((b6.trans (aR nb _).but).trans (But.upd (Same.refl _).but)) (by rw [aH,gZ,gZ,List.append_assoc];rfl);rw [gW hx,Option.bind_some,if_neg nm1,if_neg nm2,if_pos ca,gW (st:={ st with pile:=l::r }) rfl,Option.bind_some,iN (by show r.length≠64;omega),Option.bind_some,iN (by show r.length+1≠64;omega),pE ub.1 ub.2,pE lb.1 lb.2]
  ·rw [decide_eq_false ca]
   have okO:okO nm:=by
    have h:=hss;simp only [S10,List.mem_cons,List.not_mem_nil,or_false] at h;rcases h with h | h | h | h | h | h | h | h | h | h
    ·exact absurd (by rw [h];decide +kernel) cA
    ·exact absurd (by rw [h];decide +kernel) cA
    ·exact absurd (by rw [h];decide +kernel) cA
    ·exact .inl h
    ·exact .inr (.inl h)
    ·exact .inr (.inr (.inl h))
    ·exact .inr (.inr (.inr h))
    ·exact absurd h nm1
    ·exact absurd h nm2
    ·exact absurd h ca
   have tw:=jq (o:=nm) (x:=l) (y:=u) b2;refine jN (p6 (K:=K) (d:=.int (two nm l u mc.b)) (bN (R:=zI) (aB (aA (k:=0) (Dat.strI nm)) (aB (aA (k:=6) (Dat.intI l)) (aB (aA (k:=5) (Dat.intI u)) (aB (aA (k:=4) (Dat.intI mc.b)) aL)))) ⟨nm,l,u,mc.b,rfl,okO,b2,oc.b9,lb.1,lb.2,ub.1,ub.2,rfl⟩) hp6 (by omega) λy G b hG dy=>?_);rw [dy.intE] at hG;refine ok { st with pile:=two nm l u mc.b::r } ?_ G (b6.trans b) (by rw [gZ];exact hG);rw [gW hx,Option.bind_some,if_neg nm1,if_neg nm2,if_neg ca,gW (st:={ st with pile:=l::r }) rfl,Option.bind_some,iN (by show r.length≠64;omega),pE tw.1 tw.2]
noncomputable def Dv:Res->D
 | .ends v=>.tup [.str "ends",.int v]
 | .fault p=>.tup [.str "fault",.int p]
 | .late=>.tup [.str "late",.int 0]
theorem By:RL K (jU (jC K wa) [] E eG) σ H (NM.map D.str):=gE λH1 s Q q=>⟨[],_,Dats.nil,⟨rfl,rfl⟩,λr us H' s' h n d=>q r us H' n s' h d⟩
noncomputable abbrev cD (cs:List Int):List D:=cs.map D.int
theorem FN {cs:List Int} (h:cs[p]?=some c):(cD cs)[p]?=some (.int c):=by rw [List.getElem?_map,h];rfl
section
variable {mc:MC} {st:MS}
theorem lE {p:Int × MS} (h:gU st=some p):p.2.place=st.place/\p.2.kept=st.kept/\st.pile=p.1::p.2.pile/\p.2.ended=st.ended:=by
 unfold gU at h;split at h
 ·cases h
 ·rename_i x r e;cases h;exact ⟨rfl,rfl,e,rfl⟩
theorem iF {n:Int} {s:MS} (h:fN mc n st=some s):s.place=st.place/\s.kept=st.kept/\s.pile=n % mc.b::st.pile/\st.pile.length≠64/\s.ended=st.ended:=by
 unfold fN at h;split at h
 ·cases h
 ·rename_i hl;cases h;exact ⟨rfl,rfl,rfl,hl,rfl⟩
end
section
variable {mc:MC} {st s:MS} {n:Int} {nm:Str} {num on:Nat}
theorem xW {p:Int × MS} (o:kq mc st) (h:gU st=some p):kq mc p.2/\0<=p.1/\p.1 < mc.b/\p.2.pile.length+1=st.pile.length:=by obtain ⟨_,hk,hp,_⟩:=lE h;have l:=o.l;rw [hp,List.length_cons] at l;refine ⟨⟨λx hx=>o.p x (by rw [hp];exact List.mem_cons_of_mem _ hx),by omega,by rw [hk];exact o.k⟩,?_⟩;have:=o.p p.1 (by rw [hp];exact List.mem_cons_self);exact ⟨this.1,this.2,by rw [hp,List.length_cons]⟩
theorem C2 {s:MS} (b2:2<=mc.b) (o:kq mc st) (h:fN mc n st=some s):kq mc s:=by
 obtain ⟨_,hk,hp,hl,_⟩:=iF h;have l:=o.l;refine ⟨λx hx=>?_,by rw [hp,List.length_cons];omega,by rw [hk];exact o.k⟩;rw [hp] at hx;rcases List.mem_cons.mp hx with z | z
 ·rw [z];exact ⟨Int.emod_nonneg _ (by omega),Int.emod_lt_of_pos _ (by omega)⟩
 ·exact o.p x z
theorem B3 {p:Nat × MS} (o:kq mc st) (h:mZ nm num on st=some p):kq mc p.2/\p.2.ended=st.ended:=by
 unfold mZ at h;split at h
 ·cases h;exact ⟨o,rfl⟩
 ·split at h
  ·obtain ⟨q,hq,e⟩:=Option.map_eq_some_iff.mp h;cases e;exact ⟨(xW o hq).1,(lE hq).2.2.2⟩
  ·split at h
   ·split at h
    ·cases h
    ·rename_i hl;cases h;have:=o.k;exact ⟨⟨o.p,o.l,by show st.kept.length+1<=16;omega⟩,rfl⟩
   ·split at h
    ·cases h
    ·rename_i k r e;cases h;have:=o.k;rw [e,List.length_cons] at this;exact ⟨⟨o.p,o.l,by show r.length<=16;omega⟩,rfl⟩
theorem Ac (b2:2<=mc.b) (o:kq mc st) (h:dJ mc nm num st=some s):kq mc s/\s.ended=st.ended:=by
 have pu:∀ {n:Int} {a b:MS},kq mc a->fN mc n a=some b->kq mc b/\b.ended=a.ended:=λoa hb=>⟨C2 b2 oa hb,(iF hb).2.2.2.2⟩
 have tk:∀ {p:Int × MS} {a:MS},kq mc a->gU a=some p->kq mc p.2/\p.2.ended=a.ended:=λoa hb=>⟨(xW oa hb).1,(lE hb).2.2.2⟩
 unfold dJ at h;split at h
 ·exact pu o h
 ·split at h
  ·exact pu o h
  ·obtain ⟨u,hu,h⟩:=Option.bind_eq_some_iff.mp h;obtain ⟨ou,eu⟩:=tk o hu;split at h
   ·obtain ⟨a,b⟩:=pu ou h;exact ⟨a,b.trans eu⟩
   ·split at h
    ·obtain ⟨s1,h1,h2⟩:=Option.bind_eq_some_iff.mp h;obtain ⟨o1,e1⟩:=pu ou h1;obtain ⟨a,b⟩:=pu o1 h2;exact ⟨a,b.trans (e1.trans eu)⟩
    ·split at h
     ·obtain ⟨l,hl,h⟩:=Option.bind_eq_some_iff.mp h;obtain ⟨ol,el⟩:=tk ou hl;obtain ⟨s1,h1,h2⟩:=Option.bind_eq_some_iff.mp h;obtain ⟨o1,e1⟩:=pu ol h1;obtain ⟨a,b⟩:=pu o1 h2;exact ⟨a,b.trans (e1.trans (el.trans eu))⟩
     ·obtain ⟨l,hl,h⟩:=Option.bind_eq_some_iff.mp h;obtain ⟨ol,el⟩:=tk ou hl;obtain ⟨a,b⟩:=pu ol h;exact ⟨a,b.trans (el.trans eu)⟩
theorem DF (oc:yO mc) (o:kq mc st) (h:fR mc st=some s):kq mc s/\(st.ended=false->s.ended=true->s.pile.length=1):=by
 unfold fR at h;split at h
 ·cases h
 ·split at h
  ·cases h
  ·split at h
   ·cases h
   ·unfold doM at h;split at h
    ·obtain ⟨p,hp,e⟩:=Option.map_eq_some_iff.mp h;cases e;obtain ⟨a,b⟩:=B3 o hp;exact ⟨⟨a.p,a.l,a.k⟩,λz w=>by rw [show p.2.ended=true from w,z] at b;cases b⟩
    ·split at h
     ·obtain ⟨p,hp,e⟩:=Option.map_eq_some_iff.mp h;cases e;unfold mw at hp;split at hp
      ·rename_i hl;cases hp;exact ⟨⟨o.p,o.l,o.k⟩,λ_ _=>hl⟩
      ·cases hp
     ·obtain ⟨p,hp,e⟩:=Option.map_eq_some_iff.mp h;cases e;obtain ⟨a,b⟩:=Ac oc.b2 o hp;exact ⟨⟨a.p,a.l,a.k⟩,λz w=>by rw [show p.ended=true from w,z] at b;cases b⟩
end
noncomputable def vJ (st:MS):D:=.tup [.int st.place,.tup (st.pile.reverse.map D.int)]
noncomputable def gR (mc:MC):Nat->MS->List D
 | 0,_=>[]
 | n+1,st=>match fR mc st with
  | none=>[]
  | some s=>vJ st::if s.ended=true then [] else gR mc n s
theorem EM:∀ i:Nat,i < 17->NM[i]?=some (NM.getD i ""):=by
 intro i hi
 match i,hi with
 | 0,_=>rfl
 | 1,_=>rfl
 | 2,_=>rfl
 | 3,_=>rfl
 | 4,_=>rfl
 | 5,_=>rfl
 | 6,_=>rfl
 | 7,_=>rfl
 | 8,_=>rfl
 | 9,_=>rfl
 | 10,_=>rfl
 | 11,_=>rfl
 | 12,_=>rfl
 | 13,_=>rfl
 | 14,_=>rfl
 | 15,_=>rfl
 | 16,_=>rfl
 | n+17,h=>omega
noncomputable def FM (cs:List Int) (p m:Nat):List D:=((cD cs).drop (p+1)).take m
theorem Ce (c:Int):fX c<=2:=by
 unfold fX;split
 ·exact Nat.le_refl _
 ·split <;> omega
theorem Cc (cs:List Int) (p:Nat) (c:Int):FM cs p (fX c)=(nsC cs p c).map D.int:=by unfold FM nsC;rw [List.map_take,List.map_drop]
theorem EX:ns.length<=2->(∀ n ∈ ns,0<=n/\n<=99)->0<=iU ns/\iU ns<=9999:=by
 intro h2 h
 match ns,h2 with
 | [],_=>exact ⟨Int.le_refl _,by decide⟩
 | [a],_ =>have ha:=h a (by simp);show 0<=(0:Int) * 100+a/\(0:Int) * 100+a<=9999;omega
 | [a,b],_ =>have ha:=h a (by simp);have hb:=h b (by simp);show 0<=((0:Int) * 100+b) * 100+a/\((0:Int) * 100+b) * 100+a<=9999;omega
theorem DX {cs:List Int} (ok:okC cs):(nsC cs p c).length<=2/\∀ n ∈ nsC cs p c,0<=n/\n<=99:=by unfold nsC;refine ⟨by rw [List.length_take];have:=Ce c;omega,λn hn=>?_⟩;obtain ⟨i,hi⟩:=List.mem_iff_getElem?.mp (List.mem_of_mem_drop (List.mem_of_mem_take hn));exact ok.c i n hi
theorem CY {cs:List Int} (ok:okC cs):iU (nsC cs p c)=((mF cs p c:Nat):Int)/\mF cs p c<=9999:=by obtain ⟨h1,h2⟩:=DX (p:=p) (c:=c) ok;have:=EX h1 h2;unfold mF;omega
theorem FL {cs:List Int} (h:oC cs p c=false):c<=16/\p+fX c < cs.length:=by unfold oC at h;rw [Bool.or_eq_false_iff] at h;have h1:=of_decide_eq_false h.1;have h2:=of_decide_eq_false h.2;omega
noncomputable def Cb (cs:List Int) (p:Nat):Bool:=match cs[p]? with
 | none=>true
 | some c=>oC cs p c
theorem vO (h:Cb mc.cs st.place=true):fR mc st=none:=by
 unfold fR
 cases hc:mc.cs[st.place]? with
 | none=>rfl
 | some c =>
  have h':oC mc.cs st.place c=true:=by unfold Cb at h;rw [hc] at h;exact h
  exact if_pos h'
theorem wX {t:TE} (h:RL K t σ H es):RE K (tCB (λxs H Q=>∃ p ys,xs=[.ref p]/\((SqL K H p ys/\∀ l,H l=none->Q (.ref l) (upd H l (.tup ys)))\/(SqT K H p ys/\Q (.ref p) H))) (cE t eG)) σ H (.tup es):=λH1 s Q q =>
 iO ((h.mono s).use λv H' s' hd=>by
  obtain ⟨l,ys,rfl,hy,hd⟩:=hd;exact ⟨l,ys,rfl,.inl ⟨hy.sqL,λp hp=>q _ _ (s'.trans (aR hp _)) (Dat.tupI (SqT.of aH) ((aR hp _).dats hd))⟩⟩)
theorem AO:∀ i:Fin 17,NM.getD i ""="end"\/NM.getD i "" ∈ WS\/NM.getD i "" ∈ S10:=by decide +kernel
theorem AN (h0:0<=c) (h1:c<=16):nmC c="end"\/nmC c ∈ WS\/nmC c ∈ S10:=AO ⟨c.toNat,by omega⟩
theorem DE (hc:mc.cs[st.place]?=some c) (hb:oC mc.cs st.place c=false):fR mc st =
  if nmC c="end" then (mw st).map λs=>{ s with place:=st.place+1+fX c }
  else if nmC c ∈ WS then (goR (nmC c) (mF mc.cs st.place c) (st.place+1+fX c) st).map λp=>{ p.2 with place:=p.1 }
  else (doR mc (nmC c) (mF mc.cs st.place c) st).map λs=>{ s with place:=st.place+1+fX c }:=by
 have e:fR mc st=if iR (nmC c) (mF mc.cs st.place c)=true then none else doM mc (nmC c) (mF mc.cs st.place c) (st.place+1+fX c) st:=by unfold fR;rw [hc];dsimp only;rw [if_neg (by rw [hb];exact Bool.false_ne_true)]
 rw [e];by_cases he:nmC c="end"
 ·rw [if_pos he,if_neg (by rw [he,nR (by decide +kernel) (by decide +kernel) (by decide +kernel)];exact Bool.false_ne_true)];unfold doM;rw [if_neg (by rw [he];decide +kernel),if_pos he]
 ·rw [if_neg he];by_cases hw:nmC c ∈ WS
  ·rw [if_pos hw];unfold goR doM;by_cases ht:iR (nmC c) (mF mc.cs st.place c)=true
   ·rw [if_pos ht,if_pos ht];rfl
   ·rw [if_neg ht,if_neg ht,if_pos hw]
  ·rw [if_neg hw];unfold doR doM;by_cases ht:iR (nmC c) (mF mc.cs st.place c)=true
   ·rw [if_pos ht,if_pos ht];rfl
   ·rw [if_neg ht,if_neg ht,if_neg hw,if_neg he]
theorem But2.grow {a b:Addr} {xs' ys':List V} (t:But2 a b H H') (h1:H a=some (.lst xs)) (h2:H b=some (.lst ys)) (h3:H' a=some (.lst xs')) (h4:H' b=some (.lst ys')):fE K H H':=by
 have nt:∀ {c:Addr} {o:HO},H c=some o->(∀ xs,o≠.lst xs)->H' c=some o:=λ{c o} e n =>
  t c o (λz=>n _ (by rw [z,h1] at e;cases e;rfl)) (λz=>n _ (by rw [z,h2] at e;cases e;rfl)) e
 refine ⟨λc xs q=>?_,λc zs q=>?_⟩
 ·rcases q with (q | ⟨u,q⟩) | q
  ·exact .inl (.inl (nt q (λ_ z=>by cases z)))
  ·exact .inl (.inr ⟨u,nt q (λ_ z=>by cases z)⟩)
  ·exact .inr q
 ·rcases q with (q | ⟨u,q⟩) | q
  ·by_cases e1:c=a
   ·exact ⟨_,SqL.of (by rw [e1];exact h3)⟩
   ·by_cases e2:c=b
    ·exact ⟨_,SqL.of (by rw [e2];exact h4)⟩
    ·exact ⟨zs,.inl (.inl (t c _ e1 e2 q))⟩
  ·exact ⟨zs,.inl (.inr ⟨u,nt q (λ_ z=>by cases z)⟩)⟩
  ·exact ⟨zs,.inr q⟩
theorem Ab {s:MS} {num:Nat} (h:dJ mc nm num st=some s):s.kept=st.kept:=by
 unfold dJ at h;split at h
 ·exact (iF h).2.1
 ·split at h
  ·exact (iF h).2.1
  ·obtain ⟨u,hu,h⟩:=Option.bind_eq_some_iff.mp h;have ku:=(lE hu).2.1;split at h
   ·exact (iF h).2.1.trans ku
   ·split at h
    ·obtain ⟨s1,h1,h2⟩:=Option.bind_eq_some_iff.mp h;exact (iF h2).2.1.trans ((iF h1).2.1.trans ku)
    ·split at h
     ·obtain ⟨l,hl,h⟩:=Option.bind_eq_some_iff.mp h;obtain ⟨s1,h1,h2⟩:=Option.bind_eq_some_iff.mp h;exact (iF h2).2.1.trans ((iF h1).2.1.trans ((lE hl).2.1.trans ku))
     ·obtain ⟨l,hl,h⟩:=Option.bind_eq_some_iff.mp h;exact (iF h).2.1.trans ((lE hl).2.1.trans ku)
noncomputable def lQ:Nat->List Int->List Int
 | _,[]=>[]
 | i,c::r=>c * ([1,100].getD i 0)::lQ (i+1) r
theorem vA:∀ (i:Nat) (ns:List Int),(lQ i ns).length=ns.length
 | _,[]=>rfl
 | i,c::r=>by rw [lQ,List.length_cons,List.length_cons,vA]
theorem vw:∀ (ns:List Int) (i k:Nat),(lQ i ns)[k]?=ns[k]?.map λc=>c * ([1,100].getD (i+k) 0)
 | [],_,_=>by simp [lQ]
 | c::r,i,0=>by simp [lQ]
 | c::r,i,k+1=>by
  rw [lQ,List.getElem?_cons_succ,List.getElem?_cons_succ,vw r (i+1) k];congr 2
  funext c
  rw [show i+1+k=i+(k+1) by omega]
theorem Bc:ns.length<=2->(lQ 0 ns).sum=iU ns:=by
 intro h
 match ns,h with
 | [],_=>rfl
 | [a],_=>show a * 1+0=(0:Int) * 100+a;omega
 | [a,b],_=>show a * 1+(b * 100+0)=((0:Int) * 100+b) * 100+a;omega
theorem DA (h1:RE K te σ G d) (h2:RC K tl σ G es)
  (q:∀ v G1,Same G G1->Dat K G1 d v->∀ l ys G2,Same G1 G2->G2 l=some (.lst ys)->Dats K G2 es ys->∀ p,G2 p=none->En.rt (.ref p) (upd G2 p (.tup [v,.ref l]))):BM (xi (cE te (cE tl eG))) En σ G :=
 h1.use λv G1 s q1=>(h2.mono s).use λl ys G2 n s2 hy dy=>⟨cW (show 2<=1000 by decide),λp np=>q v G1 s q1 l ys G2 s2 hy dy p np⟩
theorem BB {tk:TE} {fs:List D} (h:RC K tl σ H es) (h2:RC K tk σ H fs)
  (q:∀ l ys H1,H l=none->Same H H1->H1 l=some (.lst ys)->Dats K H1 es ys->∀ l2 zs H2,H1 l2=none->Same H1 H2->H2 l2=some (.lst zs)->Dats K H2 fs zs->us En ((σ.set i (some (.ref l))).set j (some (.ref l2))) H2):lI (FC i j (cE tl (cE tk eG))) us En σ H :=
 h.use λl ys H1 n s hy dy=>(h2.mono s).use λl2 zs H2 n2 s2 hz dz=>⟨_,_,rfl,q l ys H1 n s hy dy l2 zs H2 n2 s2 hz dz⟩
def BH (K:W.Frag):Sp:=λvs H Q _=>∃ (lc lk:Addr) (vg:V) (mc:MC) (n:Nat) (s0:MS),vs=[.ref lc,vg,.int mc.b,.int n,.int s0.place,.ref lk]/\yO mc/\kq mc s0/\s0.pile=[]/\s0.ended=false/\H lc=some (.lst (mc.cs.map V.int))/\H lk=some (.lst (kpV s0.kept))/\lc≠lk/\Dat K H (.tup (mc.as.map D.int)) vg/\n<=1000 /\
 ∀ (p:Addr) (v1:V) (ld:Addr) (ys:List V) (H':Hp),But lk H H'->H' p=some (.tup [v1,.ref ld])->Dat K H' (Dv (j7 mc n s0)) v1->H' ld=some (.lst ys)->Dats K H' (gR mc n s0) ys->Q (.ref p) H'
theorem sV (T:Txt P w K mg) (J6:Ok P w base k T.HP (jC K wa)) (JZ:Ok P w base k T.Io (spD K Eg)) (Kl:Ok P w base k T.IY (BI K)) (Ki:Ok P w base k T.IV (BG K)):Ok P w base (k+1) T.IX (BH K):=by
 refine T.IX.f.ok sc__law_from (λvs H Q E h=>?_) (λcdv A outer s H vs Q E hr h=>?_)
 ·obtain ⟨lc,lk,vg,mc,n,s0,rfl,_⟩:=h;rfl
 have nd:=sc__law_from.nd;obtain ⟨lc,lk,vg,mc,n,s0,rfl,oc,os,hpl,hen,hc,hk,nck,hg,n9,post⟩:=h;refine ⟨_,(aG (nE (i:=6) (j:=7) rfl nd rfl rfl (by decide) rfl rfl (aD (bR aC) (aD (bR aC) aC)) (by kernel_rfl))
 (aG (iV PassesOwn.never rfl (lA rfl T.Js (aD (pv 3) aC)) (a7 (i:=8) nd rfl (Or.inl rfl)) (aG (bL (PW.pt (dW (aN kN (pv 4) aE (aU _)) (dW (aN xX (pv 4) (a6 aX rfl T.GO bU (aD (pv 0) aC)) (aU _)) (dY (aN kg (aT bP (pv 0) (pv 4)) aE (aU _)))))) (aI (aQ (bB (aD (bB (aD aP (aD (pv 4) aC))) (aD (pv 7) aC))))) aW)
 (aG (nE (i:=9) (j:=10) rfl nd rfl rfl (by decide) rfl rfl (aD (aT bP (vt J6 hr rfl T.HP.m T.HP.f.kp T.HP.b .nil A3) (aT bP (pv 0) (pv 4))) (aD (pc (D:=T.Io) JZ hr (aD (aT bP (pv 0) (pv 4)) aC)) aC)) (by kernel_rfl))
 (aG (bT (i:=11) nd rfl (Or.inl rfl) (ji DC (pv 0) (i4 (bO eB (pv 4) aE)) (i4 (bO eB (bO eB (pv 4) aE) (pv 10)))))
 (aG (bL (aN kN (a6 aX rfl T.GO bU (aD (pv 11) aC)) (pv 10) (aU _)) (aI (aQ (bB (aD (bB (aD aP (aD (pv 4) aC))) (aD (pv 7) aC))))) aW)
 (aG (bT (i:=12) nd rfl (Or.inl rfl) (a6 (ur rfl) rfl T.KM zU (aD (dE (own:=["_law_spot","_law_cell"]) (fr:=[]) (N':=["_law_spot","_law_cell"]) (A7 rfl T.JM (aD (pv 11) aC)) rfl (by show cZ ["_law_code","_law_args_here","_law_base","_law_most","_law_at","_law_ways","_law_pile","_law_did","_law_k","_law_name","_law_many","_law_cells","_law_number","_law_on","_law_now"] (λx=>(aO kS).names.lookup x) _ _ _ _=true;decide +kernel) rfl (λ_ _ _ _ _=>(mJ (K:=K) (n:=2) rfl rfl (bM (a7 (i:=0) (by show List.Nodup [("_law_spot":Str),("_law_cell":Str)];decide +kernel) rfl (Or.inl rfl)) (bM (a7 (i:=1) (by show List.Nodup [("_law_spot":Str),("_law_cell":Str)];decide +kernel) rfl (Or.inl rfl)) dF)))) (λ_ _ _ _ _=>cO) (λ_ _ _ _ _=>(bO tI (pv 1) (aT (r:=mN K) aV (bB (aD aE (aD aE aC))) (pv 0))))) aC)))
 (aG (nE (i:=13) (j:=14) rfl nd rfl rfl (by decide) rfl rfl (aD (bO eB (bO eB (pv 4) aE) (a6 aX rfl T.GO bU (aD (pv 11) aC))) (aD (bB (aD (pv 4) (aD (dQ cX rfl T.Hl dB (aD (pv 6) aC)) aC))) aC)) (by kernel_rfl))
 (aG (bL (aN bY (pv 9) aP (aU _)) (aG (bL (aN ki (a6 aX rfl T.GO bU (aD (pv 6) aC)) aE (aU _)) (aI (aQ (bB (aD (bB (aD aP (aD (pv 4) aC))) (aD (pv 7) aC))))) aW)
 (aI (aQ (bB (aD (bB (aD aP (aD (aT bP (pv 6) aE) aC))) (aD (bO eV (pv 7) (bR (aD (pv 14) aC))) aC)))))) aW)
 (aG (bL (aN gT (pv 9) (bB (aD aP (aD aP (aD aP (aD aP (aD aP (aD aP aC))))))) (by with_unfolding_all rfl)) (aI (bT (i:=13) nd rfl (Or.inl rfl) (pc (D:=T.IY) Kl hr (aD (pv 9) (aD (pv 12) (aD (pv 13) (aD (pv 6) (aD (pv 5) aC)))))))) (aI (bL (cQ (bQ (pc (D:=T.IV) Ki hr (aD (pv 9) (aD (pv 12) (aD (pv 6) (aD (pv 1) (aD (pv 2) aC)))))) (λ_=>rfl))) (aI (bT (i:=13) nd rfl (Or.inl rfl) fJ)) aW)))
 (aG (bL (aN tH (pv 13) fJ (aU _)) (aI (aQ (bB (aD (bB (aD aP (aD (pv 4) aC))) (aD (pv 7) aC))))) aW)
 (aG (bW (eQ PySem.F.plainAttrs_list PySem.F.slot_list_append PySem.F.type_list_append bV (pv 7) (aD (pv 14) aC)))
 (aI (bT (i:=4) nd rfl (Or.inl rfl) (pv 13))))))))))))))
 (aI (aQ (bB (aD (bB (aD aP (aD aE aC))) (aD (pv 7) aC))))))),?_⟩
 have okc:=oc.cs;have l1:=okc.l1;refine BB (K:=K) (es:=[]) (fs:=[]) (gC aL) (gC aL) λlp ysp H1 nlp t1 hyp dyp ld ysd H2 nld t2 hyd dyd=>?_;obtain rfl:=dyp.nilE;obtain rfl:=dyd.nilE;have t12:=t1.trans t2;have K3:lp≠lk:=λz=>by rw [z,hk] at nlp;cases nlp
 have KY:lp≠lc:=λz=>by rw [z,hc] at nlp;cases nlp
 have K2:ld≠lk:=λz=>by rw [z,t1 _ _ hk] at nld;cases nld
 have K4:ld≠lc:=λz=>by rw [z,t1 _ _ hc] at nld;cases nld
 have KI:ld≠lp:=λz=>by rw [z,hyp] at nld;cases nld
 have hlp0:H lp=none:=nlp;have hld0:H ld=none:=t1.free nld
 have fin:∀ {te:TE} {σ:L2.St} {G:Hp} {xs:List V} (r:Res),RE K te σ G (Dv r)->j7 mc n s0=r->G ld=some (.lst xs)->Dats K G (gR mc n s0) xs->But lk H G->σ[7]?=some (some (.ref ld))->BM (xi (cE te (cE (hW 7) eG))) { nx:=λ_ H'=>Q .non H',rt:=Q } σ G:=λ{te σ G xs} r h1 h2 h3 h4 h5 h6 =>
  h1.use λv G1 u1 q1=>⟨_,h6,cW (show 2<=1000 by decide),λp np=>post p v ld xs _ ((h5.trans u1.but).trans (aR np _).but) aH (by rw [h2];exact (aR np _).dat q1) ((aR np _) _ _ (u1 _ _ h3)) ((u1.trans (aR np _)).dats h4)⟩
 refine c9 ⟨_,rfl,(n:Int),rfl,by omega,by omega,rf (n:=(n:Int).toNat) (λi σ G=>∃ (st:MS) (xs:List V) (rows:List D) (z8 z9 z10 z11 z12 z13 z14:Option V),σ=[some (.ref lc),some vg,some (.int mc.b),some (.int n),some (.int st.place),some (.ref lk),some (.ref lp),some (.ref ld),z8,z9,z10,z11,z12,z13,z14] /\
  G lc=some (.lst (mc.cs.map V.int))/\Dat K G (.tup (mc.as.map D.int)) vg/\G lp=some (.lst (pV st.pile))/\G lk=some (.lst (kpV st.kept))/\G ld=some (.lst xs)/\Dats K G rows xs/\kq mc st/\st.ended=false/\But lk H G/\j7 mc n s0=j7 mc (n - i) st/\rows++gR mc (n - i) st=gR mc n s0/\rows.length=i) ?_ ?_ ?_⟩
 ·exact ⟨s0,[],[],none,none,none,none,none,none,none,rfl,t12 _ _ hc,t12.dat hg,by rw [hpl];exact t2 _ _ hyp,t12 _ _ hk,hyd,Dats.nil,os,hen,t12.but,rfl,rfl,rfl⟩
 ·rintro i σ G hi ⟨st,xs,rows,z8,z9,z10,z11,z12,z13,z14,rfl,gc,gg,gp,gk,gd,dG,os,he,bG,hr2,ht2,lrow⟩;refine j6 ?_;dsimp only;obtain ⟨k',ek⟩:∃ k',n - i=k'+1:=⟨n - i - 1,by omega⟩
  have ek2:n - (i+1)=k':=by omega
  rw [ek] at hr2 ht2;have ll:=dG.length;have hin:i < n:=by omega
  have LC:∀ {F:Hp},Same G F->LD K F (cD mc.cs) (.ref lc):=λs=>LD.of (s _ _ gc) (e8 _)
  cases hcs:mc.cs[st.place]? with
  | none =>
   have hp:mc.cs.length<=st.place:=List.getElem?_eq_none_iff.mp hcs;have e:fR mc st=none:=by unfold fR;rw [hcs]
   refine aS (K:=K) (b:=true) (RT.as (cI (b:=false) (c:=true) (RT.as (aJ (cV (p:=λi j=>decide (i < j)) (aA (K:=K) (k:=4) (Dat.intI (st.place:Int))) aF)) (decide_eq_false (by omega))) λ_=>RT.as (cI (b:=true) (c:=true) (RT.as (aJ (cV (p:=λi j=>decide (j<=i)) (aA (K:=K) (k:=4) (Dat.intI (st.place:Int))) (d5 (bA (k:=0) (LC (Same.refl _)))))) (decide_eq_true (by rw [List.length_map];omega))) λz=>nomatch z) rfl) rfl) (λ_ G1 u1=>?_) (λc=>nomatch c);exact fin (.fault st.place) (bJ (aB aK (aB (aA (K:=K) (k:=4) (Dat.intI (st.place:Int))) aL))) (by rw [hr2,j7,e]) (u1 _ _ gd) (by rw [gR,e] at ht2;dsimp only at ht2;rw [List.append_nil] at ht2;rw [<- ht2];exact u1.dats dG) (bG.trans u1.but) rfl
  | some c =>
  have hp:st.place < mc.cs.length:=(List.getElem?_eq_some_iff.mp hcs).1;obtain ⟨c0,c99⟩:=okc.c _ _ hcs;have hx':=FN hcs;have rc:∀ {F:Hp} {w8 w9 w10 w11 w12 w13 w14:Option V},Same G F->RE K (tOp (wU K) (hW 0) (hW 4)) [some (.ref lc),some vg,some (.int mc.b),some (.int n),some (.int st.place),some (.ref lk),some (.ref lp),some (.ref ld),w8,w9,w10,w11,w12,w13,w14] F (.int c):=λs=>iW (k:=st.place) (bA (k:=0) (LC s)) (aA (K:=K) (k:=4) (Dat.intI (st.place:Int))) hx';refine aS (K:=K) (b:=decide (16 < c)) (RT.as (cI (b:=false) (c:=decide (16 < c)) (RT.as (aJ (cV (p:=λi j=>decide (i < j)) (aA (K:=K) (k:=4) (Dat.intI (st.place:Int))) aF)) (decide_eq_false (by omega))) λ_=>RT.as (cI (b:=false) (c:=decide (16 < c)) (RT.as (aJ (cV (p:=λi j=>decide (j<=i)) (aA (K:=K) (k:=4) (Dat.intI (st.place:Int))) (d5 (bA (k:=0) (LC (Same.refl _)))))) (decide_eq_false (by rw [List.length_map];omega))) λ_=>aJ (cV (p:=λi j=>decide (j < i)) (rc (Same.refl _)) aF)) rfl) rfl) (λc16 G1 u1=>?_) (λc16 G1 u1=>?_)
  ·have e:fR mc st=none:=vO (by unfold Cb;rw [hcs];show oC _ _ _=true;unfold oC;rw [c16];rfl);exact fin (.fault st.place) (bJ (aB aK (aB (aA (K:=K) (k:=4) (Dat.intI (st.place:Int))) aL))) (by rw [hr2,j7,e]) (u1 _ _ gd) (by rw [gR,e] at ht2;dsimp only at ht2;rw [List.append_nil] at ht2;rw [<- ht2];exact u1.dats dG) (bG.trans u1.but) rfl
  ·have c16:=of_decide_eq_false c16;have hn:(NM.map D.str)[c.toNat]?=some (.str (nmC c)):=by rw [List.getElem?_map,EM c.toNat (by omega)];rfl
   have ec:c=((c.toNat:Nat):Int):=by omega
   refine BA (K:=K) (d:=.str (nmC c)) (e:=.int (fX c)) (aB (iW (k:=c.toNat) By (RE.as (rc u1) (congrArg D.int ec)) hn) (aB (bN (R:=Eg) (aB (rc u1) aL) ⟨c,rfl,rfl⟩) aL)) λv9 v10 G2 u2 d9 d10=>?_;obtain rfl:=d9.strE;obtain rfl:=d10.intE;have u12:=u1.trans u2;have el:(st.place:Int)+1=((st.place+1:Nat):Int):=by omega
   have eh:(st.place:Int)+1+(fX c:Int)=((st.place+1+fX c:Nat):Int):=by omega
   refine iG (K:=K) (es:=(nsC mc.cs st.place c).map D.int) (RC.as (Dm (lo:=st.place+1) (hi:=st.place+1+fX c) (bA (k:=0) (LC u12)) (RE.as (fV (aA (K:=K) (k:=4) (Dat.intI (st.place:Int))) aF) (congrArg D.int el)) (RE.as (fV (fV (aA (K:=K) (k:=4) (Dat.intI (st.place:Int))) aF) (aA (k:=10) (Dat.intI (fX c:Int)))) (congrArg D.int eh))) (by rw [show st.place+1+fX c - (st.place+1)=fX c by omega];exact Cc mc.cs st.place c)) λl11 ys11 G3 n11 u3 hy11 dy11=>?_;have u13:=u12.trans u3;have L11:LD K G3 ((nsC mc.cs st.place c).map D.int) (.ref l11):=LD.of hy11 dy11;have lns:(nsC mc.cs st.place c).length=min (fX c) (mc.cs.length - (st.place+1)):=by unfold nsC;rw [List.length_take,List.length_drop]
   refine aS (K:=K) (b:=oC mc.cs st.place c) (RT.as (aJ (cV (p:=λi j=>decide (i < j)) (d5 (bA (k:=11) L11)) (aA (k:=10) (Dat.intI (fX c:Int))))) ?_) (λhb G4 u4=>?_) (λhb G4 u4=>?_)
   ·unfold oC;rw [decide_eq_false c16,Bool.false_or,List.length_map,lns];exact jJ (by omega)
   ·have e:fR mc st=none:=vO (by unfold Cb;rw [hcs];exact hb);exact fin (.fault st.place) (bJ (aB aK (aB (aA (K:=K) (k:=4) (Dat.intI (st.place:Int))) aL))) (by rw [hr2,j7,e]) ((u13.trans u4) _ _ gd) (by rw [gR,e] at ht2;dsimp only at ht2;rw [List.append_nil] at ht2;rw [<- ht2];exact (u13.trans u4).dats dG) (bG.trans (u13.trans u4).but) rfl
   have u14:=u13.trans u4;have L11:=u4.ld L11;obtain ⟨h16,hlb⟩:=FL hb;obtain ⟨en,n99⟩:=CY (p:=st.place) (c:=c) okc;obtain ⟨l2,nsb⟩:=DX (p:=st.place) (c:=c) okc;have lnb:(nsC mc.cs st.place c).length=fX c:=by rw [lns];omega
   have se:=DE hcs hb;have nmc:=AN c0 h16;generalize nmC c=nm at *;generalize hnum:mF mc.cs st.place c=num at *;refine gH (K:=K) (d:=.int num) (RE.as (yi (ns:=lQ 0 (nsC mc.cs st.place c)) (gE (Bp (bA (k:=11) L11) (by rw [List.length_map];omega) ((lQ 0 (nsC mc.cs st.place c)).map D.int) (by rw [List.length_map,List.length_map,vA]) (by decide) rfl (λF k cc e w s hcc hee hw=>?_)))) (by rw [Bc l2,en])) λv12 G5 u5 d12=>?_
   ·rw [List.getElem?_map] at hcc hee;rw [vw] at hee;obtain ⟨x,hx,rfl⟩:=Option.map_eq_some_iff.mp hcc;rw [hx] at hee;have ee:D.int (x * ([1,100]:List Int).getD (0+k) 0)=e:=Option.some.inj hee;subst ee;have xb:=nsb x (List.mem_of_getElem? hx);have k2:k < 2:=by have:=(List.getElem?_eq_some_iff.mp hx).1;omega
    have hg2:([.int 1,.int 100]:List D)[k]?=some (.int (([1,100]:List Int).getD (0+k) 0)):=by
     match k,k2 with
     | 0,_=>rfl
     | 1,_=>rfl
    have gb:([1,100]:List Int).getD (0+k) 0=1\/([1,100]:List Int).getD (0+k) 0=100:=by
     match k,k2 with
     | 0,_=>exact .inl rfl
     | 1,_=>exact .inr rfl
    exact Bt (aA (k:=1) hw) (aY (k:=k) (bJ (aB aF (aB aF aL))) (aA (k:=0) (Dat.intI (k:Int))) hg2) (.inr ⟨by omega,by omega⟩)
   obtain rfl:=d12.intE;have u15:=u14.trans u5;have eo:(st.place:Int)+1+(((nsC mc.cs st.place c).map D.int).length:Int)=((st.place+1+fX c:Nat):Int):=by rw [List.length_map,lnb];omega
   have LP:∀ {F:Hp},F lp=some (.lst (pV st.pile))->LD K F (st.pile.reverse.map D.int) (.ref lp):=λh=>LD.of h (e8 _);refine BA (K:=K) (d:=.int ((st.place+1+fX c:Nat):Int)) (e:=vJ st) (aB (RE.as (fV (fV (aA (K:=K) (k:=4) (Dat.intI (st.place:Int))) aF) (d5 (bA (k:=11) (u5.ld L11)))) (congrArg D.int eo)) (aB (bJ (aB (aA (K:=K) (k:=4) (Dat.intI (st.place:Int))) (aB (wX (bA (k:=6) (LP (u15 _ _ gp)))) aL))) aL)) λv13 v14 G6 u6 d13 d14=>?_;obtain rfl:=d13.intE;have u16:=u15.trans u6;generalize st.place+1+fX c=on at *;refine aS (K:=K) (b:=decide (nm="end")) (aJ (bI (aA (K:=K) (k:=9) (Dat.strI nm)) aK)) (λce G7 u7=>?_) (λce G7 u7=>?_)
   ·have ce:=of_decide_eq_true ce;rw [if_pos ce] at se;have u17:=u16.trans u7;refine aS (K:=K) (b:=!decide (st.pile.length=1)) (RT.as (aJ (iA (d5 (bA (k:=6) (LP (u17 _ _ gp)))) aF)) (congrArg Bool.not (jJ (by rw [List.length_map,List.length_reverse];omega)))) (λcl G8 u8=>?_) (λcl G8 u8=>?_)
    ·have cl:=of_decide_eq_false ((Bool.not_eq_true' _).mp cl);have e:fR mc st=none:=by rw [se];unfold mw;rw [if_neg cl];rfl
     exact fin (.fault st.place) (bJ (aB aK (aB (aA (K:=K) (k:=4) (Dat.intI (st.place:Int))) aL))) (by rw [hr2,j7,e]) ((u17.trans u8) _ _ gd) (by rw [gR,e] at ht2;dsimp only at ht2;rw [List.append_nil] at ht2;rw [<- ht2];exact (u17.trans u8).dats dG) (bG.trans (u17.trans u8).but) rfl
    ·have cl:=of_decide_eq_true ((Bool.not_eq_false' _).mp cl)
     obtain ⟨x,hx⟩:∃ x,st.pile=[x]:=by
      match hq:st.pile,cl with
      | [x],_=>exact ⟨x,rfl⟩
     have e:fR mc st=some { st with ended:=true,place:=on }:=by rw [se];unfold mw;rw [if_pos cl];rfl
     have u18:=u17.trans u8
     have hrE:j7 mc n s0=.ends x:=by rw [hr2,j7,e];show (if true=true then Res.ends (st.pile.headD 0) else _)=_;rw [if_pos rfl,hx];rfl
     have htE:rows++[vJ st]=gR mc n s0:=by rw [<- ht2,gR,e];rfl
     have LDd:∀ {F:Hp},Same G F->LD K F rows (.ref ld):=λs=>LD.of (s _ _ gd) (s.dats dG);refine DA (K:=K) (d:=.tup [.str "ends",.int x]) (bJ (aB aK (aB (iW (k:=0) (bA (k:=6) (LP (u18 _ _ gp))) aF (by rw [hx];rfl)) aL))) (eY (bA (k:=7) (LDd u18)) (gE (gC (aB (aA (k:=14) ((u7.trans u8).dat d14)) aL))) (by show rows.length+1<=1000;omega)) λv1 G9 u9 q9 l2 ys2 GA ua hya dya p np=>?_;have u19:=u18.trans u9;have uA:=(u19.trans ua).trans (aR np (.tup [v1,.ref l2]));refine post p v1 l2 ys2 _ (bG.trans uA.but) aH ?_ ((aR np _) _ _ hya) ?_
     ·rw [hrE];exact (ua.trans (aR np _)).dat q9
     ·rw [<- htE];exact (aR np _).dats dya
   have ce:=of_decide_eq_false ce;rw [if_neg ce] at se;have u17:=u16.trans u7;have d14:=u7.dat d14
   have nmc:nm ∈ WS\/nm ∈ S10:=by
    rcases nmc with h | h | h
    ·exact absurd h ce
    ·exact .inl h
    ·exact .inr h
   refine oO (λσ' G'=>∃ w13:V,σ'=[some (.ref lc),some vg,some (.int mc.b),some (.int n),some (.int st.place),some (.ref lk),some (.ref lp),some (.ref ld),some (.int (0+(i:Int))),some (.str nm),some (.int (fX c)),some (.ref l11),some (.int num),some w13,some v14] /\
    G' lc=some (.lst (mc.cs.map V.int))/\Dat K G' (.tup (mc.as.map D.int)) vg/\G' ld=some (.lst xs)/\Dats K G' rows xs/\Dat K G' (vJ st) v14/\But lk H G' /\
    ((w13=.non/\fR mc st=none)\/∃ s',fR mc st=some s'/\s'.ended=false/\w13=.int s'.place/\G' lp=some (.lst (pV s'.pile))/\G' lk=some (.lst (kpV s'.kept)))) ?_ ?_
   ·rintro σ' G' ⟨w13,rfl,fc,fg,fd,fD,f14,fB,hor⟩;rcases hor with ⟨rfl,e⟩ | ⟨s',e,es,rfl,fp,fk⟩
    ·refine aS (K:=K) (b:=true) (RT.as (aJ (nH (K:=K) (d:=.non) (aA (k:=13) Dat.nonI))) rfl) (λ_ G8 u8=>?_) (λc=>nomatch c);exact fin (.fault st.place) (bJ (aB aK (aB (aA (K:=K) (k:=4) (Dat.intI (st.place:Int))) aL))) (by rw [hr2,j7,e]) (u8 _ _ fd) (by rw [gR,e] at ht2;dsimp only at ht2;rw [List.append_nil] at ht2;rw [<- ht2];exact u8.dats fD) (fB.trans u8.but) rfl
    ·refine aS (K:=K) (b:=false) (RT.as (aJ (nH (K:=K) (d:=.int (s'.place:Int)) (aA (k:=13) (Dat.intI _)))) rfl) (λc=>nomatch c) (λ_ G8 u8=>?_);obtain ⟨os2,_⟩:=DF oc os e;have fd8:=u8 _ _ fd;refine Bz (K:=K) (d:=vJ st) (aA (k:=14) (u8.dat f14)) fd8 (by omega) λy G9 b9 fd9 dy9=>?_;have gr:=b9.grow (K:=K) fd8 fd9;refine ⟨_,rfl,s',xs++[y],rows++[vJ st],_,_,_,_,_,_,_,rfl,b9 _ _ (Ne.symm K4) (u8 _ _ fc),Dat.mono gr _ (u8.dat fg),b9 _ _ (Ne.symm KI) (u8 _ _ fp),b9 _ _ (Ne.symm K2) (u8 _ _ fk),fd9,Dats.append (Dats.mono gr _ (u8.dats fD)) (Dats.cons dy9 Dats.nil),os2,es,λx o nx ex=>b9 x o (λz=>by rw [z,hld0] at ex;cases ex) (u8 _ _ (fB x o nx ex)),?_,?_,by rw [List.length_append,lrow];rfl⟩
     ·rw [hr2,j7,e,ek2];show (if s'.ended=true then _ else _)=_;rw [es,if_neg Bool.false_ne_true]
     ·rw [<- ht2,gR,e,ek2,List.append_assoc];show _++([vJ st]++_)=_++(vJ st::if s'.ended=true then _ else _)
      rw [es,if_neg Bool.false_ne_true];rfl
   ·intro J;refine RT.use (b:=decide (nm ∈ WS)) (aJ (nG (ys:=["skip","jump","zero","none","call","back"]) (aA (K:=K) (k:=9) (Dat.strI nm)) (bJ (aB aK (aB aK (aB aK (aB aK (aB aK (aB aK aL))))))))) λG8 u8=>?_;have u18:=u17.trans u8;have d14:=u8.dat d14;have gp8:=u18 _ _ gp;have gk8:=u18 _ _ gk;by_cases hw:nm ∈ WS
    ·rw [decide_eq_true hw];rw [if_pos hw] at se;refine jv ⟨_,rfl,_,rfl,_,rfl,_,rfl,_,rfl,nm,num,on,lp,lk,st,rfl,hw,gp8,gk8,K3,os.k,λp hp9 G9 b9 fp fk=>?_,λhn9 G9 zs ws b9 fp fk=>?_⟩
     ·have gr:=b9.grow (K:=K) gp8 gk8 fp fk;refine J _ G9 ⟨_,rfl,b9 _ _ (Ne.symm KY) nck (u18 _ _ gc),Dat.mono gr _ (u18.dat gg),b9 _ _ KI K2 (u18 _ _ gd),Dats.mono gr _ (u18.dats dG),Dat.mono gr _ d14,λx o nx ex=>b9 x o (λz=>by rw [z,hlp0] at ex;cases ex) nx (u18 _ _ (bG x o nx ex)),.inr ⟨{ p.2 with place:=p.1 },by rw [se,hp9];rfl,?_,rfl,fp,fk⟩⟩;show p.2.ended=false;unfold goR at hp9;split at hp9
      ·cases hp9
      ·rw [(B3 os hp9).2];exact he
     ·have gr:=b9.grow (K:=K) gp8 gk8 fp fk;exact J _ G9 ⟨_,rfl,b9 _ _ (Ne.symm KY) nck (u18 _ _ gc),Dat.mono gr _ (u18.dat gg),b9 _ _ KI K2 (u18 _ _ gd),Dats.mono gr _ (u18.dats dG),Dat.mono gr _ d14,λx o nx ex=>b9 x o (λz=>by rw [z,hlp0] at ex;cases ex) nx (u18 _ _ (bG x o nx ex)),.inl ⟨rfl,by rw [se,hn9];rfl⟩⟩
    ·rw [decide_eq_false hw];rw [if_neg hw] at se;have hss:nm ∈ S10:=nmc.resolve_left hw;refine jN ⟨_,rfl,_,rfl,_,rfl,_,rfl,_,rfl,nm,num,lp,vg,mc,st,rfl,hss,gp8,u18.dat gg,oc,os,λs' hs9 G9 b9 fp=>⟨true,rfl,?_⟩,λhn9 G9 zs b9 fp=>⟨false,rfl,?_⟩⟩
     ·have gr:=b9.grow (K:=K) gp8 fp;refine jN (J _ G9 ⟨_,rfl,b9 _ _ (Ne.symm KY) (u18 _ _ gc),Dat.mono gr _ (u18.dat gg),b9 _ _ KI (u18 _ _ gd),Dats.mono gr _ (u18.dats dG),Dat.mono gr _ d14,λx o nx ex=>b9 x o (λz=>by rw [z,hlp0] at ex;cases ex) (u18 _ _ (bG x o nx ex)),.inr ⟨{ s' with place:=on },by rw [se,hs9];rfl,?_,rfl,fp,?_⟩⟩)
      ·show s'.ended=false;unfold doR at hs9;split at hs9
       ·cases hs9
       ·rw [(Ac oc.b2 os hs9).2];exact he
      ·show G9 lk=some (.lst (kpV s'.kept))
       have ekk:s'.kept=st.kept:=by
        unfold doR at hs9;split at hs9
        ·cases hs9
        ·exact Ab hs9
       rw [ekk];exact b9 _ _ (Ne.symm K3) gk8
     ·have gr:=b9.grow (K:=K) gp8 fp;exact jv (J _ G9 ⟨_,rfl,b9 _ _ (Ne.symm KY) (u18 _ _ gc),Dat.mono gr _ (u18.dat gg),b9 _ _ KI (u18 _ _ gd),Dats.mono gr _ (u18.dats dG),Dat.mono gr _ d14,λx o nx ex=>b9 x o (λz=>by rw [z,hlp0] at ex;cases ex) (u18 _ _ (bG x o nx ex)),.inl ⟨rfl,by rw [se,hn9];rfl⟩⟩)
 ·rintro σ G ⟨st,xs,rows,z8,z9,z10,z11,z12,z13,z14,rfl,gc,gg,gp,gk,gd,dG,os,he,bG,hr2,ht2,lrow⟩;have e0:n - (n:Int).toNat=0:=by omega
  rw [e0] at hr2 ht2;have ht2:rows++[]=gR mc n s0:=ht2;rw [List.append_nil] at ht2;exact fin .late (bJ (aB aK (aB aF aL))) hr2 gd (by rw [<- ht2];exact dG) bG rfl
noncomputable abbrev st0:MS:=⟨[],0,[],false⟩
theorem E1:kq mc st0:=⟨(λ_ h=>by cases h),by show 0<=64;decide,by show 0<=16;decide⟩
def xc (K:W.Frag):Sp:=λvs H Q _=>∃ (lc:Addr) (vg:V) (mc:MC) (n:Nat),vs=[.ref lc,vg,.int mc.b,.int n]/\yO mc/\H lc=some (.lst (mc.cs.map V.int))/\Dat K H (.tup (mc.as.map D.int)) vg/\n<=1000 /\
 ∀ (p:Addr) (v1:V) (ld:Addr) (ys:List V) (H':Hp),Same H H'->H' p=some (.tup [v1,.ref ld])->Dat K H' (Dv (j7 mc n st0)) v1->H' ld=some (.lst ys)->Dats K H' (gR mc n st0) ys->Q (.ref p) H'
theorem u0 (T:Txt P w K mg) (Kk:Ok P w base k T.IX (BH K)):Ok P w base (k+1) T.Ji (xc K):=by
 refine T.Ji.f.ok sc__law_run (λvs H Q E h=>?_) (λcdv A outer s H vs Q E hr h=>?_)
 ·obtain ⟨lc,vg,mc,n,rfl,_⟩:=h;rfl
 have nd:=sc__law_run.nd;obtain ⟨lc,vg,mc,n,rfl,oc,hc,hg,n9,post⟩:=h;refine ⟨_,(aI (aQ (pc (D:=T.IX) Kk hr (aD (pv 0) (aD (pv 1) (aD (pv 2) (aD (pv 3) (aD aE (aD (bR aC) aC))))))))),?_⟩;refine ⟨_,rfl,_,rfl,_,rfl,_,rfl,cW (by decide),λlk nk=>?_⟩;have ne:lc≠lk:=λz=>by rw [<- z,hc] at nk;cases nk
 have s1:=aR nk (.lst []);refine ⟨lc,lk,vg,mc,n,st0,rfl,oc,E1,rfl,rfl,s1 _ _ hc,aH,ne,s1.dat hg,n9,λp v1 ld ys H' b h1 h2 h3 h4=>post p v1 ld ys H' (λx o e=>b x o (λz=>by rw [z,nk] at e;cases e) (s1 x o e)) h1 h2 h3 h4⟩
abbrev qD (x:Int):Prop:=0<=x/\x<=99
theorem o8:∀ (p:Pa) (t:Tr) (f:Fnd),okT t->cH p t=some f->(∀ x ∈ f.2.1,0<=x/\x<=9999)/\∀ x ∈ f.2.2,0<=x/\x<=3
 | .hole i,t,f,_,h=>by cases h;exact ⟨λx hx=>(nomatch hx),λx hx=>(nomatch hx)⟩
 | .gap i m,t,f,ok,h=>by obtain ⟨n,rfl,_,rfl⟩:=iD h;exact ⟨λx hx=>by rw [List.mem_singleton.mp hx];exact ok,λx hx=>(nomatch hx)⟩
 | .slot i,t,f,ok,h=>by obtain ⟨n,rfl,rfl⟩:=mz h;exact ⟨λx hx=>(nomatch hx),λx hx=>by rw [List.mem_singleton.mp hx];exact ok⟩
 | .num m,t,f,ok,h=>by obtain ⟨rfl,rfl⟩:=sA h;exact ⟨λx hx=>(nomatch hx),λx hx=>(nomatch hx)⟩
 | .two o a b,t,f,ok,h=>by obtain ⟨x,y,f1,f2,rfl,h1,h2,rfl⟩:=i9 h;obtain ⟨a1,a2⟩:=o8 a x f1 ok.2.1 h1;obtain ⟨b1,b2⟩:=o8 b y f2 ok.2.2 h2;exact ⟨λz hz=>(List.mem_append.mp hz).elim (a1 z) (b1 z),λz hz=>(List.mem_append.mp hz).elim (a2 z) (b2 z)⟩
noncomputable def si:Cl->Bool
 | .n i=>decide (0<=i) && decide (i<=99)
 | _=>true
theorem sF {l:List Int} (h:∀ x ∈ l,0<=x/\x<=m) (hm:0<=m) (k:Nat):0<=l.getD k 0/\l.getD k 0<=m:=by
 rw [List.getD_eq_getElem?_getD]
 cases e:l[k]? with
 | none=>exact ⟨Int.le_refl _,hm⟩
 | some x=>exact h x (List.mem_of_getElem? e)
theorem Ct {nums ks:List Int} (h1:∀ x ∈ nums,0<=x/\x<=9999) (h2:∀ x ∈ ks,0<=x/\x<=3) {c:Cl} (hc:si c=true):qD (ke nums ks c):=by
 cases c with
 | n i=>simp only [si,Bool.and_eq_true,decide_eq_true_eq] at hc;exact hc
 | arg k=>have:=sF h2 (by decide) k;exact ⟨this.1,by show ks.getD k 0<=99;omega⟩
 | low k=>have:=sF h1 (by decide) k;show 0<=nums.getD k 0 % 100/\nums.getD k 0 % 100<=99;omega
 | high k=>have:=sF h1 (by decide) k;show 0<=nums.getD k 0 / 100/\nums.getD k 0 / 100<=99;omega
theorem EO {a f:Int} {m:Nat} (ha:qD a) (hf:qD f) (hm:m<=9999):∀ x ∈ dU a f m,qD x:=by
 unfold dU;intro x hx;split at hx
 ·simp only [List.mem_cons,List.not_mem_nil,or_false] at hx;rcases hx with rfl | rfl
  ·exact ha
  ·exact ⟨by omega,by omega⟩
 ·simp only [List.mem_cons,List.not_mem_nil,or_false] at hx;rcases hx with rfl | rfl | rfl
  ·exact hf
  ·exact ⟨by omega,by omega⟩
  ·exact ⟨by omega,by omega⟩
theorem x8:∀ {ts:List Tr} {cs:List D} {ess:List (List D)},eA f ts cs=ess.map some->(∀ t ∈ ts,∀ c es,f t c=some es->es.length<=999->∀ x,D.int x ∈ es->qD x)->ess.flatten.length<=999->∀ x,D.int x ∈ ess.flatten->qD x
 | [],cs,ess,h,_,_=>by
  have:ess=[]:=by cases ess with | nil=>rfl | cons _ _=>cases h
  subst this;intro x hx;cases hx
 | t::ts,[],ess,h,_,_=>by
  have:ess=[]:=by cases ess with | nil=>rfl | cons _ _=>cases h
  subst this;intro x hx;cases hx
 | t::ts,c::cs,ess,h,hf,hl=>by
  cases ess with
  | nil=>cases h
  | cons y ess =>
   have h':f t c::eA f ts cs=some y::ess.map some:=h;injection h' with h1 h2;rw [List.flatten_cons,List.length_append] at hl;intro x hx;rw [List.flatten_cons] at hx;rcases List.mem_append.mp hx with hx | hx
   ·exact hf t List.mem_cons_self c y h1 (by omega) x hx
   ·exact x8 h2 (λt ht=>hf t (List.mem_cons_of_mem _ ht)) (by omega) x hx
theorem pB (hp:∀ p ∈ ps,gM p.pt=true/\(cF p).all si=true):∀ (n:Nat) (t:Tr) (c:D) (es:List D),okT t->cJ ps n t c=some es->es.length<=999->∀ x,D.int x ∈ es->qD x
 | 0,_,_,_,_,h,_=>by cases h
 | n+1,t,c,es,ok,h,hl=>by
  have h:(match gJ c with | none=>none | some x=>if x.1="pick" then jd (cJ ps n) t x.2 else fP (cJ ps n) ps t x.1 x.2)=some es:=h
  cases ec:gJ c with
  | none=>rw [ec] at h;cases h
  | some y =>
   rw [ec] at h;dsimp only at h;intro x hx;by_cases hpk:y.1="pick"
   ·rw [if_pos hpk] at h;obtain ⟨t1,t2,t3,ca,cb,cd,xa,xb,xd,rfl,_,la,lb,ld,rfl⟩:=gL h;unfold eU eK at hx hl;simp only [List.length_append] at hl;have q1:=pB hp n t1 ca xa ok.1 la (by omega) x;have q2:=pB hp n t2 cb xb ok.2.1 lb (by omega) x;have q3:=pB hp n t3 cd xd ok.2.2 ld (by omega) x
    have jm:∀ {a f:Int} {m:Nat},qD a->qD f->m<=9999->D.int x ∈ (dU a f m).map D.int->qD x:=λha hf hm h=>by obtain ⟨z,hz,e⟩:=List.mem_map.mp h;injection e with e;subst e;exact EO ha hf hm z hz
    rcases List.mem_append.mp hx with hx | hx
    ·rcases List.mem_append.mp hx with hx | hx
     ·rcases List.mem_append.mp hx with hx | hx
      ·exact q1 hx
      ·exact jm (by decide) (by decide) (by rw [List.length_append];omega) hx
     ·rcases List.mem_append.mp hx with hx | hx
      ·exact q2 hx
      ·exact jm (by decide) (by decide) (by omega) hx
    ·exact q3 hx
   ·rw [if_neg hpk] at h;obtain ⟨p,g,ess,e1,e2,hlen,e,rfl⟩:=gK h;obtain ⟨nh,ci⟩:=hp p (dS e1).1;have tail:=jL nh e2;unfold cT at hx hl;rw [List.length_append] at hl;rcases List.mem_append.mp hx with hx | hx
    ·exact x8 e (λu hu c es q l=>pB hp n u c es (fQ t u ok (iC (tail u hu))) q l) (by omega) x hx
    ·obtain ⟨z,hz,ez⟩:=List.mem_map.mp hx;injection ez with ez;subst ez;obtain ⟨v1,v2⟩:=o8 p.pt t g ok e2;exact Ct v1 v2 (List.all_eq_true.mp ci z hz)
structure goP (p:Pc):Prop where
 nh:gM p.pt=true
 pg:dM p
 hl:∀ t f,cH p.pt t=some f->f.1.length<=2
 ci:(cF p).all si=true
theorem Ew:∀ p ∈ ALLP,goP p:=by
 intro p hp;simp only [ALLP,BP,LPP,List.cons_append,List.nil_append,List.append_nil,List.mem_cons,List.not_mem_nil,or_false] at hp;rcases hp with rfl | rfl | rfl | rfl | rfl | rfl | rfl | rfl | rfl | rfl | rfl | rfl | rfl | rfl | rfl | rfl
 ·exact ⟨rfl,Fd,hl2 (by decide),by decide +kernel⟩
 ·exact ⟨rfl,Fe,hl2 (by decide),by decide +kernel⟩
 ·exact ⟨rfl,De,hl2 (by decide),by decide +kernel⟩
 ·exact ⟨rfl,E8,hl2 (by decide),by decide +kernel⟩
 ·exact ⟨rfl,tP,hl2 (by decide),by decide +kernel⟩
 ·exact ⟨rfl,Fc,hl2 (by decide),by decide +kernel⟩
 ·exact ⟨rfl,Da,hl2 (by decide),by decide +kernel⟩
 ·exact ⟨rfl,Dc,hl2 (by decide),by decide +kernel⟩
 ·exact ⟨rfl,Fb,hl2 (by decide),by decide +kernel⟩
 ·exact ⟨rfl,C9,hl2 (by decide),by decide +kernel⟩
 ·exact ⟨rfl,wO,hl2 (by decide),by decide +kernel⟩
 ·exact ⟨rfl,A6,hl2 (by decide),by decide +kernel⟩
 ·exact ⟨rfl,yT,hl2 (by decide),by decide +kernel⟩
 ·exact ⟨rfl,yU,hl2 (by decide),by decide +kernel⟩
 ·exact ⟨rfl,E9,hl2 (by decide),by decide +kernel⟩
 ·exact ⟨rfl,Dd,hl2 (by decide),by decide +kernel⟩
theorem vq {C:Tr->Int->Prop} (h:∀ t c es,f t c=some es->C t es.length):∀ {ts:List Tr} {cs:List D} {ess:List (List D)},ts.length=cs.length->eA f ts cs=ess.map some->All2 C ts (ess.map λe=>(e.length:Int))/\(ess.map λe=>(e.length:Int)).sum=ess.flatten.length
 | [],[],ess,_,e=>by
  have:ess=[]:=by cases ess with | nil=>rfl | cons _ _=>cases e
  subst this;exact ⟨.nil,rfl⟩
 | t::ts,c::cs,ess,l,e=>by
  cases ess with
  | nil=>cases e
  | cons y ess =>have e':f t c::eA f ts cs=some y::ess.map some:=e;injection e' with e1 e2;have ih:=vq h (by simpa using l) e2;refine ⟨.cons (h t c y e1) ih.1,?_⟩;rw [List.map_cons,List.sum_cons,ih.2,List.flatten_cons,List.length_append];omega
 | [],_::_,_,l,_=>by cases l
 | _::_,[],_,l,_=>by cases l
theorem kG (ok:∀ p ∈ ps,wD p):∀ (n:Nat) (t:Tr) (c:D) (es:List D),cJ ps n t c=some es->rW ps n t es.length
 | 0,_,_,_,h=>by cases h
 | n+1,t,c,es,h=>by
  have h:(match gJ c with | none=>none | some x=>if x.1="pick" then jd (cJ ps n) t x.2 else fP (cJ ps n) ps t x.1 x.2)=some es:=h
  cases ec:gJ c with
  | none=>rw [ec] at h;cases h
  | some y =>
   rw [ec] at h;dsimp only at h;by_cases hpk:y.1="pick"
   ·rw [if_pos hpk] at h;obtain ⟨t1,t2,t3,ca,cb,cd,xa,xb,xd,rfl,_,la,lb,ld,rfl⟩:=gL h;refine ⟨⟨"pick",[],[t1,t2,t3]⟩,by unfold fW;rw [if_pos (show jM (.pick t1 t2 t3)=true from rfl)];exact List.mem_singleton.mpr rfl,[(xa.length:Int),xb.length,xd.length],.cons (kG ok n t1 ca xa la) (.cons (kG ok n t2 cb xb lb) (.cons (kG ok n t3 cd xd ld) .nil)),?_⟩;unfold eU fZ tN;rw [if_pos rfl];show _=rE xb.length xd.length+_;unfold rE;have j1:=mD 8 9 xd.length;have j2:=mD 10 11 (xb++eK 8 9 xd.length).length;rw [List.length_append] at j2;have e2:((xb.length+(eK 8 9 xd.length).length:Nat):Int)=xb.length+gY xd.length:=by rw [Int.natCast_add,j1]
    rw [e2] at j2;simp only [List.length_append,List.sum_cons,List.sum_nil] at *;omega
   ·rw [if_neg hpk] at h;obtain ⟨p,g,ess,e1,e2,hlen,e,rfl⟩:=gK h;have okp:=ok p (dS e1).1
    have hp:jM t=false:=by
     cases hq:jM t with
     | false=>rfl
     | true =>
      cases t with
      | pick a b c=>rw [my okp.nh] at e2;cases e2
      | _=>cases hq
    obtain ⟨a2,sm⟩:=vq (kG ok n) hlen e;refine ⟨_,xp (dS e1).1 hp e2,_,a2,?_⟩;unfold cT fZ tN;rw [if_neg okp.nm,sm,List.length_append,List.length_map];show _=(p.cs.length:Int)+_;have:(cF p).length=p.cs.length:=List.length_map ..;omega
theorem Cf (ok:∀ p ∈ ps,wD p) {c:D} (h:cJ ps n t c=some es):∃ b,iI ps t=some b/\b.1<=es.length:=by
 have L:=F1 (λp hp=>(ok p hp).nh) t;have C:Cov ps t es.length:=⟨n,kG ok n t c es h⟩
 cases e:iI ps t with
 | none=>rw [e] at L;exact absurd C (L _)
 | some b=>rw [e] at L;exact ⟨b,rfl,L.2 _ C⟩
theorem D6:∀ (n:Nat) (c:D),shC n c->uW n c=true
 | 0,_,_=>rfl
 | n+1,c,⟨nm,cs,e,_,h⟩=>by subst e;show (Gi (.str nm) && cs.all (uW n))=true;rw [List.all_eq_true.mpr (λx hx=>D6 n x (h x hx))];rfl
theorem CO (hp:∀ p ∈ ps,goP p) {c:D} {nn:List Int} (ok:okT t) (h:cJ ps n t c=some (nn.map D.int)) (l:nn.length<=800):okC (nn++[0]):=by
 refine ⟨by simp,by simp;omega,λi x hx=>?_⟩;rcases List.mem_append.mp (List.mem_of_getElem? hx) with hm | hm
 ·exact pB (λp h=>⟨(hp p h).nh,(hp p h).ci⟩) n t c _ ok h (by rw [List.length_map];omega) x (List.mem_map.mpr ⟨x,hm,rfl⟩)
 ·rw [List.mem_singleton.mp hm];decide
theorem Fm (h:RO K te σ H (some es)):RC K te σ H es:=λH1 s Q q=>h H1 s Q (λz=>nomatch z) (λes' e l ys H' a b c d=>by cases e;exact q l ys H' a b c d)
theorem Du {lc:Addr} {vg:V} (oc:yO mc) (hc:H lc=some (.lst (mc.cs.map V.int))) (hg:Dat K H (.tup (mc.as.map D.int)) vg) (n9:n<=1000)
  (hA:∀ H1 Q,Q [V.ref lc,vg,V.int mc.b,V.int n] H1->tA σ H1 Q):RE K (tOp (mN K) (jU (xc K) [] E tA) (tC (.int 0))) σ H (Dv (j7 mc n st0)):=λH1 s Q q =>
 hA H1 _ ⟨lc,vg,mc,n,rfl,oc,s _ _ hc,s.dat hg,n9,λp v1 ld ys H' s' hp d1 _ _=>⟨p,[v1,.ref ld],0,v1,rfl,rfl,SqT.of hp,rfl,q v1 H' s' d1⟩⟩
section
variable {σ:L2.St} {H:Hp} {ta tb:TE} {ds:List D}
theorem GE (neg:Bool) (h1:RL K ta σ H ds) (h2:RL K tb σ H ds) (n:noLs ds=true) (d:deepDs ds<=20):RE K (tOp (Bf K neg) ta tb) σ H (.bl (!neg)):=λH1 s Q q =>
 h1 H1 s _ λv H2 s2 q2=>h2 H2 (s.trans s2) _ λw H3 s3 q3=>by
  obtain ⟨a,xs,rfl,ha,da⟩:=s3.ld q2;obtain ⟨b,ys,rfl,hb,db⟩:=q3;refine ⟨a,b,xs,ys,ds,ds,rfl,rfl,ha.sqL,hb.sqL,da,db,n,n,d,?_⟩;rw [eqDs_refl ds n];have e2:(if neg=true then !true else true)=!neg:=by cases neg <;> rfl
  rw [e2];exact q _ _ (s2.trans s3) (Dat.blI _)
end
def vN (K:W.Frag):Sp:=λvs H Q _=>∃ (a:Addr) (ns:List Int),vs=[.ref a]/\Scr K H a ns/\∀ H',Q (.bl true) H'
theorem EZ (T:Txt P w K mg) (Jm:Ok P w base k T.HJ (qr K 6)) (Ku:Ok P w base k T.Jj (D7 K)) (Jf:Ok P w base k T.HH (vM K 8)) (K1:Ok P w base k T.Kc (kr K vZ)) (J2:Ok P w base k T.Iq (spA K Ei)) (Jg:Ok P w base k T.HI (zm K (lJ 8))) (Kp:Ok P w base k T.Jc (spA K rZ)) (Km:Ok P w base k T.IZ (BJ K)) (Kh:Ok P w base k T.IU (BF K)) (Kt:Ok P w base k T.Ji (xc K)) (HL:Ok P w base k T.GY (spD K (lK 8))):Ok P w base (k+1) T.Ks (vN K):=by
 refine T.Ks.f.ok sc_law (λvs H Q E h=>?_) (λcdv A outer s H vs Q E hr h=>?_)
 ·obtain ⟨a,ns,rfl,_⟩:=h;rfl
 have nd:=sc_law.nd;obtain ⟨a,ns,rfl,hS,post⟩:=h;refine' ⟨_,?ybody,?yread⟩
 case ybody =>
  refine' aG ?y22 ?y23
  case y22=>exact (bT (i:=1) nd rfl (Or.inl rfl) (bR (aD aE (aD aE (aD aE aC)))))
  case y23 =>
   refine' aG ?y20 ?y21
   case y20=>exact (nE (i:=2) (j:=3) rfl nd rfl rfl (by decide) rfl rfl (aD (pc (D:=T.HJ) Jm hr (aD (pv 0) (aD (pv 1) (aD aE aC)))) (aD (pc (D:=T.Jj) Ku hr (aD (pv 0) (aD (pv 1) aC))) aC)) (by kernel_rfl))
   case y21 =>
    refine' aG ?y18 ?y19
    case y18=>exact (bT (i:=4) nd rfl (Or.inl rfl) (pc (D:=T.HH) Jf hr (aD (pv 0) (aD (pv 1) (aD (pv 2) (aD (pv 3) aC))))))
    case y19 =>
     refine' aG ?y16 ?y17
     case y16=>exact (bT (i:=5) nd rfl (Or.inl rfl) (pc (D:=T.Kc) K1 hr (aD (pv 2) (aD (pv 3) (aD (pv 4) aC)))))
     case y17 =>
      refine' aG ?y14 ?y15
      case y14 =>
       refine' bL ?y2 ?y3 ?y4
       case y2=>exact (PW.pt (dW (aN yR (pc (D:=T.Iq) J2 hr (aD (pv 2) (aD (pv 3) (aD (pv 4) aC)))) dD (aU _)) (dY (aN (A1 hr) (pv 5) (bO eV (pc (D:=T.HI) Jg hr (aD (pv 2) (aD (pv 3) (aD (pv 4) aC)))) (bR (aD aE aC))) (aU _)))))
       case y3 =>
        refine' aI ?y1
        case y1=>exact (aQ dD)
       case y4=>exact aW
      case y15 =>
       refine' aG ?y12 ?y13
       case y12 =>
        refine' bL ?y6 ?y7 ?y8
        case y6=>exact (aN kN (a6 aX rfl T.GO bU (aD (pv 5) aC)) (bO eB (pc (D:=T.Jc) Kp hr (aD (pv 2) (aD (pv 3) aC))) aE) (aU _))
        case y7 =>
         refine' aI ?y5
         case y5=>exact (aQ dD)
        case y8=>exact aW
       case y13 =>
        refine' aG ?y10 ?y11
        case y10=>exact (iV PassesOwn.never rfl (lA rfl T.Js (aD aE aC)) (a7 (i:=6) nd rfl (Or.inl rfl)) (aG (bT (i:=7) nd rfl (Or.inl rfl) (pc (D:=T.IZ) Km hr (aD (pv 0) (aD (pv 1) aC))))
 (aG (bT (i:=8) nd rfl (Or.inl rfl) (pc (D:=T.IU) Kh hr (aD (pv 0) (aD (pv 1) (aD (pv 7) aC)))))
 (aI (bL (aN (E3 hr) (aT aV (pc (D:=T.Ji) Kt hr (aD (pv 5) (aD (pv 8) (aD (pv 7) (aD aE aC))))) aE) (bB (aD aP (aD (pc (D:=T.GY) HL hr (aD (pv 2) (aD (pv 8) (aD (pv 7) aC)))) aC))) (aU _)) (aI (aQ dD)) aW)))))
        case y11 =>
         refine' aI ?y9
         case y9=>exact (aQ dD)
 case yread =>
  refine eF ⟨cW (by decide),λt ht=>?_⟩;have hS0:=hS.same (aR ht (.lst [.int 0,.int 0,.int 8]));refine c9 ?_;refine ⟨_,rfl,_,rfl,a,t,ns,6,0,0,8,rfl,hS0,aH,by decide,by decide,by decide,by decide,by decide,λv1 H1 X p1 q1 c1 b1 t1 g1 gc1 gd1 okX dp1 sz1 dX=>?_⟩;refine ⟨_,rfl,_,rfl,a,t,ns,p1,q1,[.int c1],rfl,hS0.but b1 aH,t1,g1,λsub l ys H3 p3 q3 b3 t3 g3 hsub hl hy dy=>⟨v1,.ref l,rfl,?_⟩⟩;have hS3:=(hS0.but b1 aH).but b3 t1;have dX3:Dat K H3 (toD X) v1:=Dat.mono (b3.grow t1 t3) _ dX;have dp8:a9 X<=8:=by omega
  have sz25:a8 X<=25:=by omega
  have sz40:a8 X<=40:=by omega
  have nlt:l≠t:=Ne.symm (aM t1 hl);have hps:(BP++sub).Sublist ALLP:=(List.Sublist.refl BP).append hsub;have F:=CA hsub;generalize BP++sub=ps at hps dy F;have gi:vW ps X:=⟨F.ok,F.gs,okX,dp8,sz40⟩
  have hL:LD K H3 (ps.map pcD) (.ref l):=LD.of hy dy;have nv:V.ref l≠.ref t:=λz=>nlt (by injection z);have go:∀ p ∈ ps,goP p:=λp hp=>Ew p (hps.subset hp);dsimp only;refine eF ⟨_,rfl,_,rfl,_,rfl,_,rfl,a,t,ns,X,v1,.ref l,ps,p3,q3,[.int c1],rfl,hS3,t3,g3,F.ok,⟨F.bp,F.la.ls.nd⟩,okX,dp8,by decide,dX3,hL,nv,λvc H4 c p4 q4 b4 t4 g4 hsh dc=>?_⟩
  obtain ⟨es,eS⟩:∃ es,cJ ps 8 X c=some es:=by have e:=sk F.la.ls.nd F.ok.ok 8 X c;rw [hsh.2] at e;exact Option.isSome_iff_exists.mp e.symm
  obtain ⟨nn,rfl⟩:=kF 8 X c es eS;have l3:nn.length<=300:=by have:=iM F.ok.ok 8 X c _ eS;rw [List.length_map] at this;omega
  have hS4:=hS3.but b4 t3;have dX4:Dat K H4 (toD X) v1:=Dat.mono (b4.grow t3 t4) _ dX3;have hL4:LD K H4 (ps.map pcD) (.ref l):=LD.but hL nv b4 t3 t4;have ec:(nn++[0]).map D.int=nn.map D.int++[D.int 0]:=by simp
  refine iG (K:=K) (fU (R:=vZ) (eE (aA (k:=2) dX4) (fF (bA (k:=3) hL4) (eE (aA (k:=4) dc) cU))) ⟨ps,X,c,_,rfl,gi,F.la,eS,rfl⟩) λl5 y5 H5 hl5 s5 hy5 dy5=>?_;have dX5:=s5.dat dX4;have hL5:=s5.ld hL4;have dc5:=s5.dat dc;have LC:LD K H5 (nn.map D.int++[.int 0]) (.ref l5):=LD.of hy5 dy5;rw [<- ec] at dy5;have y5e:=xB dy5;subst y5e;have nl5:l5≠t:=Ne.symm (aM t4 hl5);have nL:noLs (nn.map D.int++[D.int 0])=true:=by rw [<- ec];exact i8 _
  have dL:deepDs (nn.map D.int++[D.int 0])<=20:=by rw [<- ec];exact Nat.le_trans (qY _) (by decide)
  refine aS (K:=K) (b:=false) (RT.as (cI (b:=false) (c:=false) (RT.as (aJ (yX (fA (R:=Ei) (d:=.bl true) (eE (aA (k:=2) dX5) (fF (bA (k:=3) hL5) (eE (aA (k:=4) dc5) cU))) ⟨ps,X,c,rfl,gi,by rw [hsh.2]⟩) fG)) rfl) λ_=>aJ (GE true (bA (k:=5) LC) (gE (eY (gE (Fm (kQ (R:=lJ 8) (eE (aA (k:=2) dX5) (fF (bA (k:=3) hL5) (eE (aA (k:=4) dc5) cU))) ⟨ps,X,c,rfl,F.ok,F.la,okX,dp8,by decide,sz40,D6 8 c hsh.1,eS.symm⟩))) (gE (gC (aB aF aL))) (by rw [List.length_map];show nn.length+1<=1000;omega))) nL dL)) rfl) (λc=>nomatch c) (λ_ H6 s6=>?_);obtain ⟨bb,hbb,hle⟩:=Cf F.ok.ok eS;rw [List.length_map] at hle;refine aS (K:=K) (b:=false) (RT.as (aJ (cV (p:=λi j=>decide (i < j)) (d5 (bA (k:=5) (s6.ld LC))) (fV (fA (R:=rZ) (d:=.int bb.1) (eE (aA (k:=2) (s6.dat dX5)) (fF (bA (k:=3) (s6.ld hL5)) cU)) ⟨ps,X,bb,rfl,F.gs,F.ok,okX,dp8,sz40,hbb,rfl⟩) aF))) (decide_eq_false (by rw [List.length_append,List.length_map];show ¬ ((nn.length+1:Nat):Int) < _;omega))) (λc=>nomatch c) (λ_ H7 s7=>?_);have s57:=s5.trans (s6.trans s7);refine c9 ⟨2,rfl,by decide,by decide,rf (n:=2) (λi σ G=>∃ (z6 z7 z8:Option V) (p q:Int),σ=[some (.ref a),some (.ref t),some v1,some (.ref l),some vc,some (.ref l5),z6,z7,z8]/\Scr K G a ns/\G t=some (.lst [.int p,.int q,.int c1])/\0<=p/\Dat K G (toD X) v1/\G l5=some (.lst ((nn++[0]).map V.int))) ?_ ?_ ?_⟩
  ·exact ⟨none,none,none,p4,q4,rfl,hS4.same s57,s57 _ _ t4,g4,(s6.trans s7).dat dX5,(s6.trans s7) _ _ hy5⟩
  ·rintro i σ G hi ⟨z6,z7,z8,p,q,rfl,hSG,tG,gp,dG,lG⟩;refine j6 ?_;dsimp only;refine eF ⟨_,rfl,_,rfl,a,t,ns,p,q,[.int c1],rfl,hSG,tG,gp,λb H8 p8 q8 b8 t8 g8 hb hb2=>?_⟩;refine eF ⟨_,rfl,_,rfl,_,rfl,a,t,ns,b,p8,q8,[.int c1],rfl,hSG.but b8 tG,t8,g8,hb,hb2,λu H9 as p9 q9 b9 t9 g9 ha dA=>?_⟩;have dX9:=Dat.mono (b9.grow t8 t9) _ (Dat.mono (b8.grow tG t8) _ dG);have l9:=b9 _ _ nl5 (b8 _ _ nl5 lG);have oc:yO ⟨nn++[0],as,b⟩:=⟨CO go okX eS (by omega),ha.1,ha.2.1,ha.2.2.1,ha.2.2.2⟩
   have run:=CP (mc:=⟨nn++[0],as,b⟩) ⟨ha.1,ha.2.1,ha.2.2.1⟩ (λp hp=>⟨(go p hp).nh,(go p hp).pg,(go p hp).hl⟩) okX dp8 eS ec (N:=1000) (by show (nn++[0]).length<=1000;rw [List.length_append];show nn.length+1<=1000;omega);refine iQ (b:=false) (RT.as (aJ (Dt (K:=K) (d:=.tup [.str "ends",.int (bK as b X)]) (e:=.tup [.str "ends",.int (bK as b X)]) (RE.as (Du (mc:=⟨nn++[0],as,b⟩) (n:=1000) oc l9 dA (by decide) (λ_ _ q=>⟨_,rfl,_,rfl,_,rfl,q⟩)) (by rw [run];rfl)) (bJ (aB aK (aB (bN (R:=lK 8) (aB (aA (k:=2) dX9) (aB (aA (k:=8) dA) (aB (aA (k:=7) (Dat.intI b)) aL))) ⟨X,as,b,rfl,okX,dp8,ha,rfl⟩) aL))) rfl rfl (show 1<=20 by decide))) (by rw [kD _ rfl];rfl)) (λc=>nomatch c) (λ_ H10 s10=>?_);exact lD ⟨_,_,_,p9,q9,rfl,((hSG.but b8 tG).but b9 t8).same s10,s10 _ _ t9,g9,s10.dat dX9,s10 _ _ l9⟩
  rintro σ G ⟨z6,z7,z8,p,q,rfl,_⟩;exact post G
end
end My
end
namespace My
open PySem L2 PyProof.Rows
section
variable {P:Program} {w:World} {K:W.Frag} {mg:Str->Option Value} {base:Heap} {k:Nat}
theorem AU (vs:List V) (H:Hp) (Q:VK) (E:XK):¬ qr K 0 vs H Q E:=λ⟨a,t,ns,room,p,q,c,_,_,_,_,_,_,_,h,_⟩=>by omega
theorem yK (vs:List V) (H:Hp) (Q:VK) (E:XK):¬ jC K (ky 0) vs H Q E:=λ⟨ds,es,_,⟨x,k,_,_,h,_⟩,_⟩=>nomatch h
theorem AR (vs:List V) (H:Hp) (Q:VK) (E:XK):¬ spD K (DQ 0) vs H Q E:=λ⟨ds,es,_,h,_⟩=>h
theorem yL (vs:List V) (H:Hp) (Q:VK) (E:XK):¬ jC K (m5 0) vs H Q E:=λ⟨ds,es,_,⟨t,_,_,h,_⟩,_⟩=>by have:=jK t;omega
theorem CV (vs:List V) (H:Hp) (Q:VK) (E:XK):¬ zm K (lJ 0) vs H Q E:=λ⟨as,o,_,⟨ps,t,c,_,_,_,_,h,_⟩,_⟩=>by
 have:1<=a9 t:=by cases t <;> simp [a9]
 omega
theorem AQ (vs:List V) (H:Hp) (Q:VK) (E:XK):¬ kr K (kx 0) vs H Q E:=λ⟨as,es,_,⟨ps,t,c,_,_,_,_,h,_⟩,_⟩=>by
 have:1<=a9 t:=by cases t <;> simp [a9]
 omega
theorem CU (vs:List V) (H:Hp) (Q:VK) (E:XK):¬ spA K (qA 0) vs H Q E:=λ⟨as,d,_,h,_⟩=>CT as d h
theorem AS (vs:List V) (H:Hp) (Q:VK) (E:XK):¬ spD K (lK 0) vs H Q E:=λ⟨ds,es,_,⟨t,_,_,_,_,h,_⟩,_⟩=>by have:=jK t;omega
theorem chain (T:Txt P w K mg):Ok P w base 25 T.Ks (vN K):=by
 have w1:=vk (P:=P) (w:=w) (base:=base) (k:=0) T;have g1:=tm (P:=P) (w:=w) (base:=base) (k:=0) T;have n2:=wI (k:=1) T g1 w1;have wi:=oG (P:=P) (w:=w) (base:=base) (k:=0) T;have it:=wJ (k:=2) T n2 (wi.mono (by decide));have nt:=tF (k:=3) T it
 have wk:∀ n:Nat,Ok P w base (n+1) T.IS (jC K (m5 n)):=by
  intro n
  induction n with
  | zero=>exact fS yL
  | succ n ih=>exact yQ (k:=n+1) T (wi.mono (by omega)) ih
 have nm:=wH (P:=P) (w:=w) (base:=base) (k:=0) T;have mk:=wG (k:=1) T g1 w1
 have pp:∀ n:Nat,Ok P w base (n+3) T.GT (spD K (Rpp n)):=by
  intro n
  induction n with
  | zero=>exact je (k:=2) (n:=0) T mk n2 (wi.mono (by decide)) (fS AR)
  | succ n ih=>exact je (k:=n+3) (n:=n+1) T (mk.mono (by omega)) (n2.mono (by omega)) (wi.mono (by omega)) ih
 have ma:∀ n:Nat,Ok P w base (n+1) T.Hy (jC K (ky n)):=by
  intro n
  induction n with
  | zero=>exact fS yK
  | succ n ih=>exact vm (k:=n+1) T (wi.mono (by omega)) ih
 have nu:=pN (k:=4) T (ma 3);have pa:=qI (k:=6) T (pp 3) (nu.mono (by decide));have fi:=qH (k:=4) T (g1.mono (by decide)) (ma 3) (w1.mono (by decide));have ce:=wF (k:=5) T (w1.mono (by decide)) fi;have ins:=mH (P:=P) (w:=w) (base:=base) (k:=0) T;have ai:=lH (k:=6) T (w1.mono (by decide)) (ins.mono (by decide)) ce;have pc:=vj (k:=7) T (nm.mono (by decide)) pa ai;have ms:=nC (P:=P) (w:=w) (base:=base) (k:=0) T
 have mt:∀ n:Nat,Ok P w base (n+1) T.HZ (kX K oD n):=by
  intro n
  induction n with
  | zero=>exact fS xT
  | succ n ih=>exact wK (k:=n+1) T (ms.mono (by omega)) ih
 have fo:=vi (k:=4) T (mt 3)
 have lf:∀ n:Nat,Ok P w base n T.Hs (kX K oL n):=by
  intro n
  induction n with
  | zero=>exact fS xT
  | succ n ih=>exact uY (k:=n) T ih
 have jo:=tq (P:=P) (w:=w) (base:=base) (k:=0) T;have jp:=nB (k:=1) T jo;have wo:=wL (k:=5) T fo;have lb:=tD (k:=2) T jp;have bw:=oF (k:=6) T wo (lb.mono (by decide));have bc:=nz (k:=9) T (wk 8) (bw.mono (by decide));have st:=yP (k:=9) T (pc.mono (by decide));have ns:=vn (k:=10) T st;have lo:=tE (k:=11) T (nt.mono (by decide)) ns (bc.mono (by decide))
 have cv:∀ n:Nat,Ok P w base (2 * n+6) T.GS (spA K (qA n)):=by
  intro n
  induction n with
  | zero=>exact fS CU
  | succ n ih =>have ar:=mG (k:=2 * n+6) T ih;exact nA (k:=2 * n+7) T (g1.mono (by omega)) (wo.mono (by omega)) ar
 have ic:=pM (k:=22) T (nt.mono (by decide)) (ns.mono (by decide)) (cv 8);have fc:=pL (P:=P) (w:=w) (base:=base) (k:=0) T
 have lc:∀ n:Nat,Ok P w base (2 * n+6) T.Hd (kr K (kx n)):=by
  intro n
  induction n with
  | zero=>exact fS AQ
  | succ n ih =>have pk:=tu (k:=2 * n+6) T ih (jp.mono (by omega));have pp:=qK (k:=2 * n+6) T ih (fo.mono (by omega)) (fc.mono (by omega));exact qJ (k:=2 * n+7) T pk pp
 have ld:=C1 (k:=22) T (nt.mono (by decide)) (ns.mono (by decide)) (cv 8) (lc 8);have ju:=sX (P:=P) (w:=w) (base:=base) (k:=0) T;have fl:=sU (P:=P) (w:=w) (base:=base) (k:=0) T
 have la:∀ n:Nat,Ok P w base (n+3) T.HI (zm K (lJ n)):=by
  intro n
  induction n with
  | zero=>exact fS CV
  | succ n ih=>exact uZ (k:=n+3) T ih (ju.mono (by omega)) ((lf 3).mono (by omega)) (fl.mono (by omega))
 have lp:=pK (P:=P) (w:=w) (base:=base) (k:=0) T;have dr:=sT (P:=P) (w:=w) (base:=base) (k:=0) T;have pk:=sY (k:=1) T dr
 have tr:∀ n:Nat,Ok P w base (n+2) T.HJ (qr K n):=by
  intro n
  induction n with
  | zero=>exact fS AU
  | succ n ih=>exact tj (k:=n+2) T (dr.mono (by omega)) (pk.mono (by omega)) ih
 have an:∀ n:Nat,Ok P w base (n+3) T.HH (vM K n):=by
  intro n
  induction n with
  | zero=>exact fS CS
  | succ n ih=>exact uX (k:=n+3) T ih ((lf 3).mono (by omega)) (pk.mono (by omega))
 have ls:=va (k:=1) T (lp.mono (by decide)) (dr.mono (by decide));have lsz:=sZ (k:=2) T pk;have lar:=sR (k:=2) T (dr.mono (by decide)) pk;have ltw:=ve (P:=P) (w:=w) (base:=base) (k:=0) T
 have lw:∀ n:Nat,Ok P w base (n+1) T.GY (spD K (lK n)):=by
  intro n
  induction n with
  | zero=>exact fS AS
  | succ n ih=>exact qG (k:=n+1) T (ltw.mono (by omega)) ih
 have lnm:=qF (P:=P) (w:=w) (base:=base) (k:=0) T;have lbe:=pJ (P:=P) (w:=w) (base:=base) (k:=0) T;have lgo:=sW (P:=P) (w:=w) (base:=base) (k:=0) T;have lds:=sS (k:=1) T ltw;have lfr:=sV (k:=2) T (lnm.mono (by decide)) (lbe.mono (by decide)) (lgo.mono (by decide)) lds;have lru:=u0 (k:=3) T lfr;exact EZ (k:=24) T ((tr 6).mono (by decide)) (ls.mono (by decide)) ((an 8).mono (by decide)) (ld.mono (by decide)) (ic.mono (by decide)) ((la 8).mono (by decide)) (lo.mono (by decide)) (lsz.mono (by decide)) (lar.mono (by decide)) (lru.mono (by decide)) ((lw 8).mono (by decide))
end
noncomputable def df_mk {K:W.Frag} {h:Heap} {mg:Str->Option Value} {n:Str} {st:Stmt} {ps:List Str} {f:Addr} {oc:Value} {od an:Option Addr} {osl:Array (Option Value)} {kV doc pm cdv ct:Value} (X:K.In h) (G:h.Ns mainGlobals mg) (a:W.nsIn K mainGlobals n=some (some (.ref f))) (l:K.lookup f=some ⟨oc,od,.func (W.fnOf n n (mr st) (k9 st) (aO st) .none kV doc pm an cdv ct),osl⟩) (c:W.codeIn K cdv n=true) (k:W.keepIn K (.ref f)=true)
  (hb:∀ us:List Value,us.length=ps.length->bindArgs (W.fnOf n n (mr st) (k9 st) (aO st) .none kV doc pm an cdv ct) ⟨us,[]⟩=pure (ps.zip us)):Df K mg n st ps:=⟨f,_,EI l c k,W.mg_of X G a,.all hb⟩
variable {l:W.OpenLaw}
theorem all_mk {w:World} {K:W.Frag} {h:Heap} {mg:Str->Option Value} {fa:Addr} (X:K.In h) (G:h.Ns mainGlobals mg) (hfa:mg "law"=some (.ref fa)) (DD:Dfs K mg) {Ig:Tok} {Iw:Tok} {HG:Tok} {Iv:Tok} {Hc:Tok} {IR:Tok} {Hk:Tok} {HU:Tok} {Iy:Tok} {Ie:Tok} {Kr:Tok} {JX:Tok} {IL:Addr} {Ic:Addr} {Ht:Addr} {Jd:Addr} {IK:Addr} {JA:Addr} {Ka:Addr} {JU:Addr} {Kb:Addr} {ob_MARK_LENGTHS:Obj}
  (HN:W.nsIn K mainGlobals "MOST_PARTS"=some (some (.int 40 Ig)))
  (HX:W.nsIn K mainGlobals "MOST_DEEP"=some (some (.int 8 Iw)))
  (Hu:W.nsIn K mainGlobals "LONGEST_NAME"=some (some (.int 8 HG)))
  (HF:W.nsIn K mainGlobals "MOST_CELL"=some (some (.int 99 Iv)))
  (GU:W.nsIn K mainGlobals "MOST_PATTERN_DEEP"=some (some (.int 3 Hc)))
  (Ij:W.nsIn K mainGlobals "MOST_GAP"=some (some (.int 9999 IR)))
  (GW:W.nsIn K mainGlobals "MOST_PIECE_CELLS"=some (some (.int 12 Hk)))
  (HA:W.nsIn K mainGlobals "MOST_PIECES"=some (some (.int 16 HU)))
  (HY:W.nsIn K mainGlobals "MOST_NEAR"=some (some (.int 9 Iy)))
  (HM:W.nsIn K mainGlobals "CALL_CELLS"=some (some (.int 3 Ie)))
  (J4:W.nsIn K mainGlobals "END"=some (some (.int 0 Kr)))
  (JJ:W.nsIn K mainGlobals "CALL"=some (some (.int 15 JX)))
  (Hi:W.nsIn K mainGlobals "MOST_IN_LEAF"=some (some (.ref IL))) (Hj:KTD.tabLook (KTD.datLooks λb=>K.lookup b) (λb=>K.lookup b) IL TL=true)
  (GP:W.nsIn K mainGlobals "TREES_IN_BRANCH"=some (some (.ref Ic))) (GQ:KTD.tabLook (KTD.datLooks λb=>K.lookup b) (λb=>K.lookup b) Ic TB=true)
  (GZ:W.nsIn K mainGlobals "MARK_LENGTHS"=some (some (.ref Ht))) (GN:KTD.tabLook (KTD.datLooks λb=>K.lookup b) (λb=>K.lookup b) Ht TM=true)
  (Hq:W.nsIn K mainGlobals "FILLED_FROM"=some (some (.ref Jd))) (Hr:KTD.tabLook (KTD.datLooks λb=>K.lookup b) (λb=>K.lookup b) Jd TF=true)
  (Hh:W.nsIn K mainGlobals "INSTRUCTIONS"=some (some (.ref IK))) (IT:hZ K (.tup INS) (.ref IK)=true)
  (Ik:W.nsIn K mainGlobals "STRAIGHT"=some (some (.ref JA))) (JB:hZ K (.tup STR) (.ref JA)=true)
  (Jq:W.nsIn K mainGlobals "AHEAD"=some (some (.ref Ka))) (Kd:hZ K (.tup AHE) (.ref Ka)=true)
  (Je:W.nsIn K mainGlobals "BEHIND"=some (some (.ref JU))) (JY:hZ K (.tup BEH) (.ref JU)=true)
  (Jr:W.nsIn K mainGlobals "BASIC"=some (some (.ref Kb))) (Ke:pC K BAS Kb=true)
  (IP:K.lookup Ht=some ob_MARK_LENGTHS) (IM:KTD.tabLook KTD.flatLooks (λb=>K.lookup b) Ht ([("hole",.int 2),("gap",.int 3),("slot",.int 2)]:List (Str × PyData))=true) (IQ:KTD.hashesOf (λb=>K.lookup b) Ht=([("hole",.int 2),("gap",.int 3),("slot",.int 2)]:List (Str × PyData)).map λp=>(PySem.strKind l.prog w).hash p.1)
  (KQ:W.nsIn K mainGlobals "len"=some none)
  (Jl:W.nsIn K mainGlobals "isinstance"=some none)
  (KP:W.nsIn K mainGlobals "int"=some none)
  (Kx:W.nsIn K mainGlobals "bool"=some none)
  (KS:W.nsIn K mainGlobals "str"=some none)
  (Kg:W.nsIn K mainGlobals "tuple"=some none)
  (Ky:W.nsIn K mainGlobals "list"=some none)
  (Kf:W.nsIn K mainGlobals "range"=some none)
  (KN:W.nsIn K mainGlobals "all"=some none)
  (KO:W.nsIn K mainGlobals "any"=some none)
  (KR:W.nsIn K mainGlobals "set"=some none)
  (KU:W.nsIn K mainGlobals "sum"=some none)
  (JC:W.nsIn K mainGlobals "reversed"=some none)
  (KW:W.nsIn K mainGlobals "zip"=some none)
  (Jo:W.nsIn K mainGlobals "enumerate"=some none) :
  ∃ fd:FuncData,(∀ (s:Shared) (v:Value),BindsTo s fd ⟨[v],[]⟩ [("_law_script",v)])/\∀ base:Heap,K.In base->base.Ns mainGlobals mg->FnOk l.prog w K mg base CX0 25 fa fd ["_law_script"] (vN K):=by
 have M:∀ {n:Str} {v:Value},W.nsIn K mainGlobals n=some (some v)->mg n=some v:=W.mg_of X G;have N:∀ {n:Str},W.nsIn K mainGlobals n=some none->mg n=none:=W.mg_none_of X G;have e:=hfa.symm.trans DD.Ks.m;cases e
 let T:Txt l.prog w K mg :=
  {toDfs:=DD,
   Ig:=Ig,HN:=M HN,
   Iw:=Iw,HX:=M HX,
   HG:=HG,Hu:=M Hu,
   Iv:=Iv,HF:=M HF,
   Hc:=Hc,GU:=M GU,
   IR:=IR,Ij:=M Ij,
   Hk:=Hk,GW:=M GW,
   HU:=HU,HA:=M HA,
   Iy:=Iy,HY:=M HY,
   Ie:=Ie,HM:=M HM,
   Kr:=Kr,J4:=M J4,
   JX:=JX,JJ:=M JJ,
   HE:=IL,Hi:=M Hi,Hj:=λh x=>W.kt_text_in x Hj,
   Hb:=Ic,GP:=M GP,GQ:=λh x=>W.kt_text_in x GQ,
   Hg:=Ht,GZ:=M GZ,GN:=λh x=>W.kt_text_in x GN,
   HS:=Jd,Hq:=M Hq,Hr:=λh x=>W.kt_text_in x Hr,
   HD:=IK,Hh:=M Hh,IJ:=IT,
   Jh:=JA,Ik:=M Ik,JT:=JB,
   JP:=Ka,Jq:=M Jq,Kz:=Kd,
   JD:=JU,Je:=M Je,Kq:=JY,
   JQ:=Kb,Jr:=M Jr,KA:=Ke,
   Jn:=⟨⟨_,IP⟩,λh x=>⟨_,W.kt_tab_in l.prog w x IM (by decide +kernel) IQ,rfl⟩⟩,
   GO:=N KQ,
   GM:=N Jl,
   KJ:=N KP,
   KH:=N Kx,
   KL:=N KS,
   Hl:=N Kg,
   Kw:=N Ky,
   Js:=N Kf,
   JV:=N KN,
   KZ:=N KO,
   K0:=N KR,
   KM:=N KU,
   JW:=N JC,
   J5:=N KW,
   JM:=N Jo }
 obtain ⟨_,_,_,_,_,_,_,_,_,e,_⟩:=DD.Ks.f.ex;exact ⟨_,λs v=>by rw [e];exact .of_eq rfl,λbase _ _=>chain T⟩
theorem walk {q:Program} {loose:List Str} {XP:(Str->Option Value)->Heap->Prop} {YP:World->Heap->Prop} {d:DefRec} {K:Params->W.Frag} (hn:l.most=some 63) (hdf:d.params.defaults=[])
  (hY:∀ (w:World) (h:Heap),YP w h->(K w.params).In h)
  (F:∀ (w:World) (mg:Str->Option Value) (fa:Addr) (h:Heap),(K w.params).In h->h.Ns mainGlobals mg->mg d.name=some (.ref fa) ->
   ∃ fd:FuncData,(∀ (s:Shared) (u:Value),BindsTo s fd ⟨[u],[]⟩ [("_law_script",u)])/\∀ base:Heap,(K w.params).In base->base.Ns mainGlobals mg->FnOk l.prog w (K w.params) mg base CX0 25 fa fd ["_law_script"] (vN (K w.params))) :
  W.WalkO q loose XP YP l.row.toRowW d [] (λf vs=>PySem.call f vs) :=
 L2.walk_of (n:=63) (k:=25) (x:="_law_script") (CX:=λ_=>CX0) (sp:=λw=>vN (K w.params)) hn (by decide) hdf ⟨rfl,by decide,by decide⟩ hY F (λ_ _ a ns hl hO hS=>⟨a,ns,rfl,Fv hO hS,λ_=>rfl⟩) λ_ _ _ _ _ z=>z
end My
open PySem PySem.W PyProof.Rows
set_option maxRecDepth 100000 in
set_option maxHeartbeats 0 in
theorem PySem.Challenge.cw_piecelay_k14_whole_any_covering_holds : PySem.Challenge.rw_piecelay_k14_whole_any_covering.Holds := by
 w_on;refine holds_law My.said λsaid=>?_
 refine holds_open (q:=My.view) (loose:=My.loose) (Xt:=My.xt) (XP:=XL My.view []) (Yf:=Hook.obs (kHook My.k0.heap_1 My.kas My.kas_ok)) (Ya:=Hook.val (kHook My.k0.heap_1 My.kas My.kas_ok)) (YP:=Hook.says (kHook My.k0.heap_1 My.kas My.kas_ok)) (N:=My.NN) My.left (Hook.of (kHook My.k0.heap_1 My.kas My.kas_ok)) (Hook.keeps (kHook My.k0.heap_1 My.kas My.kas_ok)) (λs e=>xl_of s (Bool.and_eq_true_iff.mp e).1) XL.keeps (by rfl) (by rfl) (by rfl) (λs e=>recFacts_of (Bool.and_eq_true_iff.mp e).2) (by rfl) (by first | assumption | decide +kernel) (by decide +kernel) ⟨rfl,rfl,rfl,rfl,rfl,by decide +kernel⟩ ?hw ?hc
 case hw=>w_witness2
 k_fill
 refine My.walk (l:=PySem.Challenge.rw_piecelay_k14_whole_any_covering) rfl rfl (λw h Y=>PySem.W.kIn_of Y) ?F
 case F =>
  intro w mg fa h KX G hmg;refine' My.all_mk KX G hmg ?DD  ?HN ?HX ?Hu ?HF ?GU ?Ij ?GW ?HA ?HY ?HM ?J4 ?JJ ?Hi ?Hj ?GP ?GQ ?GZ ?GN ?Hq ?Hr ?Hh ?IT ?Ik ?JB ?Jq ?Kd ?Je ?JY ?Jr ?Ke ?IP ?IM ?IQ ?KQ ?Jl ?KP ?Kx ?KS ?Kg ?Ky ?Kf ?KN ?KO ?KR ?KU ?JC ?KW ?Jo
  case DD =>
   constructor
   all_goals
    refine' My.df_mk KX G ?a ?l ?c ?k ?b
    case a=>k_is
    case l=>change _=_;k_is
    case c=>k_is
    case k=>k_is
    case b=>exact λus hl=>by first | (match us,hl with | [],_=>rfl) | (match us,hl with | [_],_=>rfl) | (match us,hl with | [_,_],_=>rfl) | (match us,hl with | [_,_,_],_=>rfl) | (match us,hl with | [_,_,_,_],_=>rfl) | (match us,hl with | [_,_,_,_,_],_=>rfl) | (match us,hl with | [_,_,_,_,_,_],_=>rfl)
  case HN | HX | Hu | HF | GU | Ij | GW | HA | HY | HM | J4 | JJ | Hi | GP | GZ | Hq | Hh | Ik | Jq | Je | Jr | IP | KQ | Jl | KP | Kx | KS | Kg | Ky | Kf | KN | KO | KR | KU | JC | KW | Jo=>k_is
  case Hj | GQ | GN | Hr | IT | JB | Kd | JY | Ke | IM=>first | rfl | decide +kernel
  case IQ=>first | rfl | kernel_rfl | decide +kernel
