import PyProof.Rows.All
import Wide.All
import OpenK.AllK
import Wide.FinOn
import Lean
import PyProof.EqAt
import PyProof.EqKinds
import PyProof.TupleCall
import PyProof.NeKinds
import KE.KTab
import KE.KTops
import PyProof.FString5
import PyProof.ListRange
import KE.KRevIter
import PyProof.Rows.SumAny
import PyProof.Rows.SetFrom
import KE.KRevSl
import KE.KTryMore
import PyProof.ExcAttrAll.ValueError
import PyProof.Rows.CountFlat
import PyProof.ExcInit
import PyProof.InstStoreFacts
import PyProof.Draws
import PyProof.EnumMake
import PyProof.ZipIter
import PyProof.WalkInts
import PyProof.Rows.MinMaxN
import KE.KUnpack
import PyProof.StationsW
import PySem.Challenge.RW_piecelay_k12_pieces_refused
set_option Elab.async false
set_option linter.all false
set_option maxRecDepth 100000
set_option maxHeartbeats 4000000
section
namespace LT
open PySem PySem.W PyProof.Rows
noncomputable def ran (p:Program) (w:World) (n₀:Nat) (ann:Option Value):Nat->SharedT->Thread->Option SharedT
 | 0,_,_=>none
 | k+1,s,t=>bif through t then some s else bif Fast.tw6613529449190102663 n₀ ann t then
   (Fast.tw10156331382660048174 (Fast.tw11892475500146522536 Fast.tw14364793385576792824) p w s t).bind λx=>ran p w n₀ ann k x.1 x.2
  else none
variable {p:Program}
theorem zw {w:World} {n₀:Nat} {ann:Option Value} (k:Nat):∀ {s s':SharedT} {t:Thread},ran p w n₀ ann k s t=some s'->topRun treeTable p w n₀ ann k s.abs t=some s'.abs:=by
 induction k with
 | zero=>intro s s' t h;cases h
 | succ k ih =>
  intro s s' t h
  unfold ran at h
  rw [← Fast.te6613529449190102663,← Fast.te10156331382660048174,← Fast.te11892475500146522536,← Fast.te14364793385576792824] at h
  unfold topRun
  cases c1:through t
  ·cases c2:stepOk n₀ ann t
   ·rw [c1,c2] at h;cases h
   ·rw [c1,c2] at h
    obtain ⟨x,hx,hr⟩:=Option.bind_eq_some_iff.mp (show (stepT (denote treeTable) p w s t).bind _=some s' from h)
    rw [stepT_spec (s':=x.1) (t':=x.2) hx]
    exact ih hr
  ·rw [c1] at h
   cases h
   rfl
noncomputable def vN (P:Params):BT:=((boot_heap P).objs.toList.foldl (λ(x:BT × Nat) o=>(x.1.ins x.2 o,x.2+1)) (BT.nil,0)).1
theorem vO:∀ P,absHeap (vN P) 11 {}=boot_heap P:=λP=>by kernel_rfl
noncomputable abbrev boot (P:Params) (os:OsState):SharedT:=⟨vN P,11,{},#[],boot_drawn,boot_toks,os⟩
theorem vP (P:Params) (os:OsState):(boot P os).abs=⟨boot_heap P,#[],boot_drawn,boot_toks,os⟩:=by
 show (⟨absHeap (vN P) 11 {},#[],boot_drawn,boot_toks,os⟩:Shared)=_
 rw [vO]
noncomputable def Ay (p q:Program) (loose:List Str) (Xt:Shared->Bool) (P:Params) (s:Shared) :=
 (staticsOk (Fast.tw5923862056798008813 p.main.body) (boot_heap P) s.heap && namesBound p s.heap && gensDone s && laidKept (boot_heap P) s.heap,Fast.tw4187177175401517315 q loose (Fast.tw5923862056798008813 p.main.body) Xt true s)
theorem zP:∀ P:Params,((boot_heap P).isNs mainGlobals && (#[]:Array GenState).size == 0,(boot_heap P).objs.size,(boot_heap P).nsMap mainGlobals "__annotations__")=(true,11,some (.ref 6)):=λP=>by kernel_rfl
theorem left {q:Program} {loose:List Str} {Xt:Shared->Bool} {α:Type} {Yf:Shared->α} {Ya:World->α} {N:Nat} (e:opening p=plainProg p.main.scope.names) (hN:Nat.ble 600 N=true) (f:∀ s,fenceModules? p s=some s)
  (h:∀ (w:World) (os:OsState),(ran p w 11 (some (.ref 6)) N (boot w.params os) (topStub p)).map (λs=>(Ay p q loose Xt w.params s.abs,Yf s.abs))=some ((true,openGood q loose),Ya w)):LeftO p q loose Xt Yf Ya N:=λw=>by
 obtain ⟨⟨h0,gs,d,k,os⟩,e,e'⟩:=Option.map_eq_some_iff.mp (boot_open e hN f w)
 obtain ⟨rfl,rfl,rfl,rfl⟩:h0=boot_heap w.params/\gs=Array.mk []/\d=boot_drawn/\k=boot_toks:=by simpa using e'
 obtain ⟨s1,hr,hs⟩:=Option.map_eq_some_iff.mp (h w os)
 have r:=zw N hr
 rw [vP] at r
 obtain ⟨hs,hy⟩:=Prod.mk.inj hs
 unfold Ay at hs
 rw [← Fast.te4187177175401517315,← Fast.te5923862056798008813] at hs
 obtain ⟨hl,hg⟩:=Prod.mk.inj (show (staticsOk (importedModules p.main.body) (boot_heap w.params) s1.abs.heap && namesBound p s1.abs.heap && gensDone s1.abs && laidKept (boot_heap w.params) s1.abs.heap,openSeen q loose (importedModules p.main.body) Xt true s1.abs)=(true,openGood q loose) from hs)
 obtain ⟨z1,z2,z3⟩:_/\_/\_:=by simpa only [Prod.mk.injEq] using zP w.params
 have t:topFrom treeTable p w N ⟨boot_heap w.params,Array.mk [],boot_drawn,boot_toks,os⟩=some s1.abs:=by
  unfold topFrom
  dsimp only
  rw [z1,z2,z3,r]
  show (match staticsOk (importedModules p.main.body) (boot_heap w.params) s1.abs.heap && namesBound p s1.abs.heap && gensDone s1.abs && laidKept (boot_heap w.params) s1.abs.heap with | true=>_ | false=>_)=_
  rw [hl]
 unfold openEnds
 rw [e]
 show (topFrom treeTable p w N _).map _=_
 rw [t]
 exact congrArg some (Prod.ext hg hy)
end LT
namespace LT
section
universe u1 u2 u3 u4 u5 u6 u7 u8 u9
variable {S:Type u1} {A:Type u2} {B:Type u3} {C:Type u4} {D:Type u5} {E:Type u6} {F:Type u7} {R:Type u8} {V:Type u9}
def lot1 (x:A × B × C × D × E × F × R):A × B × C:=match x with | (a,b,c,_)=>(a,b,c)
def lot2 (x:A × B × C × D × E × F × R):D × E × R:=match x with | (_,_,_,d,e,_,r)=>(d,e,r)
def lot3 (x:A × B × C × D × E × F × R):F:=match x with | (_,_,_,_,_,f,_)=>f
theorem lots {o:Option S} {f:S->A × B × C × D × E × F × R} {y:A × B × C × D × E × F × R} {st:S->Bool} {ob:S->V} {v:V} (h1:o.map (λs=>lot1 (f s))=some (y.1,y.2.1,y.2.2.1)) (h2:o.map (λs=>lot2 (f s))=some (y.2.2.2.1,y.2.2.2.2.1,y.2.2.2.2.2.2))
  (h3:o.map (λs=>lot3 (f s))=some y.2.2.2.2.2.1) (h4:o.map (λs=>(st s,ob s))=some (true,v)):o.map (λs=>((st s,f s),ob s))=some ((true,y),v):=by
 cases o with
 | none=>cases h1
 | some s =>
  have k1:lot1 (f s)=_:=Option.some.inj h1
  have k2:lot2 (f s)=_:=Option.some.inj h2
  have k3:lot3 (f s)=_:=Option.some.inj h3
  have k4:(st s,ob s)=_:=Option.some.inj h4
  show some ((st s,f s),ob s)=_
  generalize f s=x at k1 k2 k3 ⊢
  obtain ⟨a,b,c,d,e,g,r⟩:=x
  obtain ⟨a',b',c',d',e',g',r'⟩:=y
  have k1:(a,b,c)=(a',b',c'):=k1
  have k2:(d,e,r)=(d',e',r'):=k2
  have k3:g=g':=k3
  injection k4 with k4 k5
  cases k1
  cases k2
  cases k3
  rw [k4,k5]
end
end LT
namespace My
open PySem
def top (i:Nat):Stmt:=PySem.Challenge.pw_piecelay_k12_pieces_refused.main.body.getD i (.Pass ⟨0,0,0,0⟩)
end My
end
section
open PySem PySem.W PyProof.Rows
section
local macro_rules | `(tactic| o_head $H:term)=>`(tactic| (have _hook:=$H;assumption))
theorem My.k0 (h:PySem.Challenge.rw_piecelay_k12_pieces_refused.row.Holds):PySem.Challenge.rw_piecelay_k12_pieces_refused.row.Holds:=by
 k_head
end
namespace My
def view:Program:={ PySem.Challenge.pw_piecelay_k12_pieces_refused with main:={ PySem.Challenge.pw_piecelay_k12_pieces_refused.main with body:=[top 1,top 2,top 3,top 4,top 5,top 6,top 7,top 8,top 9,top 10,top 11,top 12,top 13,top 14,top 15,top 17,top 18,top 19,top 20,top 21,top 22,top 25,top 26,top 27,top 28,top 29,top 30,top 31,top 32,top 33,top 34,top 36,top 37,top 38,top 39,top 40,top 41,top 42,top 43,top 44,top 46,top 47,top 48,top 49,top 50,top 51,top 52,top 53,top 54,top 55,top 56,top 57,top 58,top 59,top 60,top 61,top 62,top 63,top 64,top 65,top 66,top 67,top 68,top 69,top 70,top 71,top 72,top 73,top 74,top 75,top 77,top 78,top 79,top 80,top 81,top 82,top 83,top 84,top 85,top 86] } }
abbrev PRG:Program:=PySem.Challenge.pw_piecelay_k12_pieces_refused
abbrev loose:List Str:=["need_size","MOST_IN_LEAF","TREES_IN_BRANCH","MOST_TOLD","MARK_LENGTHS","FILLED_FROM","BASIC"]
abbrev xt (s:Shared):Bool:=xlAt view [] s && recOk (RowW.records (OpenRow.toRowW (OpenLaw.row PySem.Challenge.rw_piecelay_k12_pieces_refused))) s
abbrev kas:List Addr:=[2,3,15,22,23,24,25,28,35,36,37,40,47,48,49,52,59,60,61,64,71,72,73,76,83,84,85,88,95,96,97,100,107,108,109,112,119,120,121,124,131,132,133,136,143,144,145,148,155,156,157,160,167,168,169,172,179,181,182,184,185,186,187,188,191,198,200,201,203,204,205,206,207,210,212,213,215,216,217,219,220,222,223,224,227,228,229,230,232,233,235,236,237,238,239,241,242,244,245,246,248,249,251,252,253,256,257,258,260,261,263,264,265,267,268,270,271,272,274,275,277,278,279,280,281,282,283,284,285,286,287,288,289,290,291,292,293,294,295,296,297,298,299,301,302,304,305,306,308,309,311,312,320,322,323,325,326,327,329,330,332,333,334,336,337,339,340,341,343,344,346,347,348,350,351,353,354,355,357,358,360,361,362,364,365,367,368,369,370,371,372,373,376,377,378,379,380,381,382,383,384,385,386,387,388,389,390,391,392,393,394,395,396,397,398,399,400,401,402,403,404,405,406,407,408,409,410,411,412,413,414,415,416,417,418,419,420,422,423,425,426,427,430,431,432,434,435,437,438,439,442,443,444,447,448,449,451,452,454,455,456,458,459,461,462,463,466,467,468,470,471,473,474,475,477,478,480,481,482,484,485,487,488,489,491,492,494,495,496,498,499,501,502,503,505,506,508,509,510,512,513,515,516,517,519,520,522,523,524,527,528,529,532,533,534,537,538,539,542,543,544,546,547,549,550,551,553,554,556,557,575,577,578,580,581,582,584,585,587,588,589,591,592,594,595,596,598,599,601,602,603,606,607]
theorem kas_ok:∀ P,kas=(My.k0.heap_1 P).map (·.1):=λ_=>by kernel_rfl
noncomputable abbrev hk:Hook:=kHook My.k0.heap_1 kas kas_ok
abbrev NN:Nat:=9000
noncomputable abbrev yG (w:World) (os:OsState):=LT.ran PRG w 11 (some (.ref 6)) NN (LT.boot w.params os) (topStub PRG)
noncomputable abbrev fJ (P:Params) (s:SharedT):Bool:=staticsOk (Fast.tw5923862056798008813 PRG.main.body) (boot_heap P) s.abs.heap && namesBound PRG s.abs.heap && gensDone s.abs && laidKept (boot_heap P) s.abs.heap
noncomputable abbrev BI (s:SharedT):=Fast.tw4187177175401517315 view loose (Fast.tw5923862056798008813 PRG.main.body) xt true s.abs
noncomputable abbrev qO:=openGood view loose
abbrev xr (w:World) (os:OsState):Prop:=(yG w os).map (λs=>LT.lot1 (BI s))=some (qO.1,qO.2.1,qO.2.2.1)
abbrev xu (w:World) (os:OsState):Prop:=(yG w os).map (λs=>LT.lot2 (BI s))=some (qO.2.2.2.1,qO.2.2.2.2.1,qO.2.2.2.2.2.2)
abbrev xw (w:World) (os:OsState):Prop:=(yG w os).map (λs=>LT.lot3 (BI s))=some qO.2.2.2.2.2.1
abbrev xx (w:World) (os:OsState):Prop:=(yG w os).map (λs=>(fJ w.params s,Hook.obs hk s.abs))=some (true,Hook.val hk w)
set_option maxHeartbeats 0 in
theorem ra1:∀ (w:World) (os:OsState),xr (w.withFollow "special-get-raises" false) os:=λw os=>by unfold xr;kernel_rfl
set_option maxHeartbeats 0 in
theorem rb1:∀ (w:World) (os:OsState),xr (w.withFollow "special-get-raises" true) os:=λw os=>by unfold xr;kernel_rfl
set_option maxHeartbeats 0 in
theorem ra2:∀ (w:World) (os:OsState),xu (w.withFollow "special-get-raises" false) os:=λw os=>by unfold xu;kernel_rfl
set_option maxHeartbeats 0 in
theorem rb2:∀ (w:World) (os:OsState),xu (w.withFollow "special-get-raises" true) os:=λw os=>by unfold xu;kernel_rfl
set_option maxHeartbeats 0 in
theorem ra3:∀ (w:World) (os:OsState),xw (w.withFollow "special-get-raises" false) os:=λw os=>by unfold xw;kernel_rfl
set_option maxHeartbeats 0 in
theorem rb3:∀ (w:World) (os:OsState),xw (w.withFollow "special-get-raises" true) os:=λw os=>by unfold xw;kernel_rfl
set_option maxHeartbeats 0 in
theorem ra4:∀ (w:World) (os:OsState),xx (w.withFollow "special-get-raises" false) os:=λw os=>by unfold xx;kernel_rfl
set_option maxHeartbeats 0 in
theorem rb4:∀ (w:World) (os:OsState),xx (w.withFollow "special-get-raises" true) os:=λw os=>by unfold xx;kernel_rfl
theorem left:LeftO PRG view loose xt (Hook.obs hk) (Hook.val hk) NN :=
 LT.left (by rfl) (by decide) (λs=>by rfl) λw os=>LT.lots (byRow2 "special-get-raises" (P:=λw=>xr w os) (λw=>ra1 w os) (λw=>rb1 w os) w) (byRow2 "special-get-raises" (P:=λw=>xu w os) (λw=>ra2 w os) (λw=>rb2 w os) w) (byRow2 "special-get-raises" (P:=λw=>xw w os) (λw=>ra3 w os) (λw=>rb3 w os) w) (byRow2 "special-get-raises" (P:=λw=>xx w os) (λw=>ra4 w os) (λw=>rb4 w os) w)
end My
end
section
namespace L2
open PySem PySem.Spec PyProof.Rows
abbrev Key:=Sum Int Str
def mM:Key->Value->Bool
 | .inl k,v=>Value.isInt k v
 | .inr x,v=>Value.isStrOf x v
def CM (w:World):Key->Int
 | .inl k=>hashInt k
 | .inr x=>hashStr w x
theorem cn:∀ {k:Key} {v:Value},mM k v=true->(∃ i t,k=Sum.inl i/\v=Value.int i t)\/(∃ x t,k=Sum.inr x/\v=Value.str x t)
 | .inl i,v,h=>by
  obtain ⟨t,e⟩:=Value.isInt_shape (k:=i) (v:=v) h
  exact .inl ⟨i,t,rfl,e⟩
 | .inr x,v,h=>by
  obtain ⟨t,e⟩:=Value.isStrOf_shape (x:=x) (v:=v) h
  exact .inr ⟨x,t,rfl,e⟩
theorem uq (i:Int) (t:Tok):mM (.inl i) (.int i t)=true:=by simp [mM,Value.isInt]
theorem ur (x:Str) (t:Tok):mM (.inr x) (.str x t)=true:=by simp [mM,Value.isStrOf]
theorem Ba (a b:Int):decide ((Sum.inl a:Key)=Sum.inl b)=(a == b):=by
 by_cases e:a=b
 ·subst e;simp
 ·have h:¬ (Sum.inl a:Key)=Sum.inl b:=λq=>e (Sum.inl.inj q)
  rw [decide_eq_false h]
  exact (beq_eq_false_iff_ne.mpr e).symm
theorem Bd (a b:Str):decide ((Sum.inr a:Key)=Sum.inr b)=decide (a=b):=by
 by_cases e:a=b
 ·subst e;simp
 ·have h:¬ (Sum.inr a:Key)=Sum.inr b:=λq=>e (Sum.inr.inj q)
  rw [decide_eq_false h,decide_eq_false e]
theorem Bb (a:Int) (b:Str):decide ((Sum.inl a:Key)=Sum.inr b)=false:=decide_eq_false (λq=>nomatch q)
theorem Bc (a:Str) (b:Int):decide ((Sum.inr a:Key)=Sum.inl b)=false:=decide_eq_false (λq=>nomatch q)
def cE (prog:Program) (w:World):PySem.KeyKind prog w Key where
 is:=mM
 hash:=CM w
 inj:=λv a b ha hb=>by
  rcases cn ha with ⟨i,t,rfl,rfl⟩ | ⟨x,t,rfl,rfl⟩
  ·rcases cn hb with ⟨j,u,rfl,e⟩ | ⟨y,u,rfl,e⟩
   ·injection e with e1 _;rw [e1]
   ·exact nomatch e
  ·rcases cn hb with ⟨j,u,rfl,e⟩ | ⟨y,u,rfl,e⟩
   ·exact nomatch e
   ·injection e with e1 _;rw [e1]
 byValue:=λk v h=>by
  rcases cn h with ⟨i,t,rfl,rfl⟩ | ⟨x,t,rfl,rfl⟩ <;> rfl
 pyHash:=λhv h=>by
  rcases cn hv with ⟨i,t,rfl,rfl⟩ | ⟨x,t,rfl,rfl⟩
  ·exact wpAny_pyHash_int h
  ·exact wpAny_pyHash_str h
 eqBool:=λhu hv h=>by
  rcases cn hu with ⟨i,t,rfl,rfl⟩ | ⟨x,t,rfl,rfl⟩
  ·rcases cn hv with ⟨j,u,rfl,rfl⟩ | ⟨y,u,rfl,rfl⟩
   ·rw [Ba] at h;exact wpAny_eqBool_int h
   ·rw [Bb] at h;exact SeqAt.EqAt.int_str i t y u _ _ _ _ h
  ·rcases cn hv with ⟨j,u,rfl,rfl⟩ | ⟨y,u,rfl,rfl⟩
   ·rw [Bc] at h;exact SeqAt.EqAt.str_int x t j u _ _ _ _ h
   ·rw [Bd] at h;exact wpAny_eqBool_str h
 «strs»:=λk x t v h=>by
  rcases cn h with ⟨i,u,rfl,e⟩ | ⟨y,u,rfl,e⟩
  ·exact nomatch e
  ·injection e with e1 _
   subst e1
   cases v <;> rfl
theorem pC (prog:Program) (w:World) (i:Int) (t:Tok):(cE prog w).is (.inl i) (.int i t)=true:=uq i t
theorem pD (prog:Program) (w:World) (x:Str) (t:Tok):(cE prog w).is (.inr x) (.str x t)=true:=ur x t
inductive V where
 | non | bl (b:Bool) | int (i:Int) | str (x:Str) | byt (b:Array UInt8) | flt (b:UInt64) | ref (a:Addr) | ty (n:String)
 deriving DecidableEq
def RelV:V->Value->Prop
 | .non,u=>u=Value.none
 | .bl b,u=>u=Value.bool b
 | .int i,u=>∃ t,u=Value.int i t
 | .str x,u=>∃ t,u=Value.str x t
 | .byt b,u=>∃ t,u=Value.bytes b t
 | .flt b,u=>∃ t,u=Value.float b t
 | .ref a,u=>u=Value.ref a
 | .ty n,u=>u=Value.type n
abbrev Vals:List V->List Value->Prop:=Paired RelV
variable {xs:List V} {us:List Value}
theorem Vals.length (r:Vals xs us):xs.length=us.length:=Paired.length r
theorem Vals.get:∀ {xs:List V} {us:List Value} {i:Nat} {x:V},Vals xs us->xs[i]?=some x->∃ u,us[i]?=some u/\RelV x u
 | _,_,_,_,.nil,e=>by simp at e
 | _,_,0,_,.cons r _,e=>by simp at e;subst e;exact ⟨_,rfl,r⟩
 | _,_,i+1,x,.cons _ t,e=>by
  obtain ⟨u,h1,h2⟩:=Vals.get (i:=i) (x:=x) t (by simpa using e)
  exact ⟨u,by simpa using h1,h2⟩
variable {u:Value}
theorem Vals.set {x:V} (r:RelV x u):∀ {xs:List V} {us:List Value} (i:Nat),Vals xs us->Vals (xs.set i x) (us.set i u)
 | _,_,_,.nil=>.nil
 | _,_,0,.cons _ t=>.cons r t
 | _,_,i+1,.cons q t=>.cons q (Vals.set r i t)
theorem Vals.append:∀ {xs ys:List V} {us ws:List Value},Vals xs us->Vals ys ws->Vals (xs++ys) (us++ws)
 | _,_,_,_,.nil,s=>s
 | _,_,_,_,.cons r t,s=>.cons r (Vals.append t s)
theorem Vals.take:∀ {xs:List V} {us:List Value} (n:Nat),Vals xs us->Vals (xs.take n) (us.take n)
 | _,_,0,_=>.nil
 | _,_,_+1,.nil=>.nil
 | _,_,n+1,.cons r t=>.cons r (Vals.take n t)
theorem Vals.drop:∀ {xs:List V} {us:List Value} (n:Nat),Vals xs us->Vals (xs.drop n) (us.drop n)
 | _,_,0,r=>r
 | _,_,_+1,.nil=>.nil
 | _,_,n+1,.cons _ t=>Vals.drop n t
def RelO:Option V->Option Value->Prop
 | some v,some u=>RelV v u
 | none,none=>True
 | _,_=>False
def KV {κ:Type}:List (κ × V)->List (κ × Value)->Prop:=Paired λ(p:κ × V) (q:κ × Value)=>p.1=q.1/\RelV p.2 q.2
def kV:Key->V
 | .inl i=>.int i
 | .inr x=>.str x
inductive HO where
 | lst (xs:List V)
 | tup (xs:List V)
 | dK (kvs:List (Key × V)) | dT (kvs:List (List Key × V))
 | set (S:Int->Bool) (n:Nat)
 | ins (C dx:Addr) (fs:List (Str × V))
 | own (x:Addr)
 | xd (fs:List (Str × V))
 | met (f x:Addr)
 | rng (lo hi:Int)
 | frz (o:Obj) (u:HO)
 | tbl (ps:Array Value)
 | ext (φ:Heap->Prop)
abbrev Hp:=Addr->Option HO
def upd (H:Hp) (a:Addr) (o:HO):Hp:=λb=>if b=a then some o else H b
variable {H:Hp} {a:Addr}
theorem av {o:HO}:upd H a o a=some o:=by unfold upd;rw [if_pos rfl]
variable {b:Addr}
theorem aD {o:HO} (h:b≠a):upd H a o b=H b:=by unfold upd;rw [if_neg h]
theorem aI {o:HO} (h:H a=some o) (h':H b=none):a≠b:=by
 intro e;subst e;rw [h] at h';cases h'
section
variable (P:Program) (w:World)
def ObjOk (H:Hp) (h:Heap) (a:Addr):HO->Prop
 | .lst xs=>xs.length≤sizeLine/\∃ (its:List Value) (n:Nat),Vals xs its/\h.get? a=some { cls:=.type "list",data:=.seq its.toArray n }
 | .tup xs=>xs.length≤sizeLine/\∃ its:List Value,Vals xs its/\IsTup h a its.toArray
 | .dK kvs=>kvs.length≤sizeLine/\(a == sysModules)=false/\∃ vs,KV kvs vs/\h.DictOf (cE P w) a vs
 | .dT kvs=>kvs.length≤sizeLine/\(a == sysModules)=false/\∃ xs:List (List Key × Addr × Value),
   Paired (λ(p:List Key × V) (q:List Key × Addr × Value)=>p.1=q.1/\H q.2.1=some (.tup (p.1.map kV))/\RelV p.2 q.2.2) kvs xs /\
   ∃ o es ep,h.get? a=some o/\o.ExactDict/\o.data=.dict es ep/\es.toList=xs.map (entryOfKey (tupleKind (cE P w)))/\(xs.map (·.1)).Nodup
 | .set S n=>h.SetOf (intKind P w) a S n
 | .ins C dx fs=>H dx=some (.own a)/\fs.length≤1000/\dx≠a/\h.get? a=some (PySem.W.instObj C dx) /\
   ∃ mA,h.Ns1 dx mA/\(∀ f,RelO (fs.lookup f) (mA f))/\PySem.Within mA (fs.map (·.1))
 | .own _=>∃ o,h.get? a=some o
 | .xd fs=>∃ mA,h.Ns1 a mA/\∀ f,RelO (fs.lookup f) (mA f)
 | .rng lo hi=>∃ t u v,h.get? a=some { cls:=.type "range",data:=.fields #[.int lo t,.int hi u,.int 1 v] }
 | .frz o u=>h.get? a=some o/\ObjOk H h a u
 | .tbl ps=>h.get? a=some { cls:=.none,data:=.fields ps }
 | .met f x=>h.get? a=some (PySem.W.methodObj (.ref f) (.ref x))
 | .ext φ=>φ h/\(∃ o,h.get? a=some o)/\∀ h1 h2:Heap,φ h1->(∀ o,h1.get? a=some o->h2.get? a=some o)->φ h2
def HOk (H:Hp) (h:Heap):Prop:=∀ a o,H a=some o->ObjOk P w H h a o
end
section
variable {P:Program} {w:World} {H H':Hp} {h h':Heap} {a:Addr} {o:HO}
theorem ObjOk.lt (x:ObjOk P w H h a o):a < h.objs.size:=by
 cases o with
 | lst xs=>obtain ⟨_,_,_,_,e⟩:=x;exact Heap.lt_size e
 | tup xs=>obtain ⟨_,_,_,p⟩:=x;exact p.lt
 | dK kvs=>obtain ⟨_,_,_,_,o,_,_,e,_⟩:=x;exact Heap.lt_size e
 | dT kvs=>obtain ⟨_,_,_,_,o,_,_,e,_⟩:=x;exact Heap.lt_size e
 | set S n=>obtain ⟨o,_,_,_,e,_⟩:=x;exact Heap.lt_size e
 | ins C dx fs=>obtain ⟨_,_,_,e,_⟩:=x;exact Heap.lt_size e
 | own y=>obtain ⟨_,e⟩:=x;exact Heap.lt_size e
 | xd fs=>obtain ⟨_,⟨_,_,_,e,_⟩,_⟩:=x;exact Heap.lt_size e
 | rng lo hi=>obtain ⟨_,_,_,e⟩:=x;exact Heap.lt_size e
 | frz ob u=>obtain ⟨e,_⟩:=x;exact Heap.lt_size e
 | tbl ps=>exact Heap.lt_size (show h.get? a=some _ from x)
 | met f y=>exact Heap.lt_size (show h.get? a=some _ from x)
 | ext φ=>obtain ⟨_,⟨_,e⟩,_⟩:=x;exact Heap.lt_size e
theorem Paired.mapP {α β:Type} {F G:α->β->Prop}:∀ {l₁:List α} {l₂:List β},Paired F l₁ l₂->(∀ a b,F a b->G a b)->Paired G l₁ l₂
 | _,_,.nil,_=>.nil
 | _,_,.cons r t,f=>.cons (f _ _ r) (Paired.mapP t f)
theorem ObjOk.stay (x:ObjOk P w H h a o) (k:∀ b u,(b=a\/H b=some (.own a))->h.get? b=some u->h'.get? b=some u)
  (ho:∀ b,H b=some (.own a)->H' b=some (.own a)) (ht:∀ b xs,H b=some (.tup xs)->H' b=some (.tup xs)):ObjOk P w H' h' a o:=by
 induction o with
 | lst xs=>obtain ⟨z,its,n,r,e⟩:=x;exact ⟨z,its,n,r,k _ _ (.inl rfl) e⟩
 | tup xs=>obtain ⟨z,its,r,ob,e,c⟩:=x;exact ⟨z,its,r,ob,k _ _ (.inl rfl) e,c⟩
 | dK kvs=>obtain ⟨z,y,vs,r,ob,es,ep,e,c⟩:=x;exact ⟨z,y,vs,r,ob,es,ep,k _ _ (.inl rfl) e,c⟩
 | dT kvs =>
  obtain ⟨z,y,xs,r,ob,es,ep,e,c⟩:=x
  exact ⟨z,y,xs,Paired.mapP r λp q z=>⟨z.1,ht _ _ z.2.1,z.2.2⟩,ob,es,ep,k _ _ (.inl rfl) e,c⟩
 | set S n=>obtain ⟨ob,es,ep,t,e,c⟩:=x;exact ⟨ob,es,ep,t,k _ _ (.inl rfl) e,c⟩
 | ins C dx fs =>
  obtain ⟨d,z,ne,e,mA,⟨od,es,ep,e2,c⟩,r⟩:=x
  exact ⟨ho _ d,z,ne,k _ _ (.inl rfl) e,mA,⟨od,es,ep,k _ _ (.inr d) e2,c⟩,r⟩
 | own y=>obtain ⟨ob,e⟩:=x;exact ⟨ob,k _ _ (.inl rfl) e⟩
 | xd fs=>obtain ⟨mA,⟨od,es,ep,e,c⟩,r⟩:=x;exact ⟨mA,⟨od,es,ep,k _ _ (.inl rfl) e,c⟩,r⟩
 | rng lo hi=>obtain ⟨t,u,v,e⟩:=x;exact ⟨t,u,v,k _ _ (.inl rfl) e⟩
 | frz ob u ih=>obtain ⟨e,q⟩:=x;exact ⟨k _ _ (.inl rfl) e,ih q⟩
 | tbl ps =>
  have e:h.get? a=some { cls:=.none,data:=.fields ps }:=x
  show h'.get? a=some { cls:=.none,data:=.fields ps }
  exact k a _ (.inl rfl) e
 | met f y =>
  have e:h.get? a=some (PySem.W.methodObj (.ref f) (.ref y)):=x
  show h'.get? a=some (PySem.W.methodObj (.ref f) (.ref y))
  exact k a _ (.inl rfl) e
 | ext φ=>obtain ⟨p,⟨o,e⟩,st⟩:=x;exact ⟨st _ _ p λo q=>k _ _ (.inl rfl) q,⟨o,k _ _ (.inl rfl) e⟩,st⟩
theorem HOk.lt (x:HOk P w H h) (e:H a=some o):a < h.objs.size:=(x a o e).lt
theorem HOk.fresh (x:HOk P w H h) (e:h.objs.size≤a):H a=none:=by
 cases q:H a with
 | none=>rfl
 | some u=>exact absurd (Nat.lt_of_lt_of_le (x.lt q) e) (Nat.lt_irrefl _)
theorem HOk.kept (x:HOk P w H h) (k:∀ b u,h.get? b=some u->h'.get? b=some u):HOk P w H h':=λa o e =>
 (x a o e).stay (λb u _ q=>k b u q) (λ_ q=>q) λ_ _ q=>q
theorem HOk.laid (x:HOk P w H h) (k:∀ b u,h.get? b=some u->h'.get? b=some u) (hp:h.objs.size≤a) (new:ObjOk P w (upd H a o) h' a o):HOk P w (upd H a o) h':=λb u e=>by
 have hn:=x.fresh hp
 by_cases hb:b=a
 ·subst hb;rw [av] at e;cases e;exact new
 ·rw [aD hb] at e
  exact (x b u e).stay (λc v _ q=>k c v q) (λc q=>by rw [aD (aI q hn)];exact q) λc xs q=>by rw [aD (aI q hn)];exact q
end
def Rd (H:Hp) (a:Addr) (u:HO):Prop:=H a=some u\/∃ o,H a=some (.frz o u)
variable {P:Program} {w:World}
theorem Rd.ok {h:Heap} {u:HO} (r:Rd H a u) (x:HOk P w H h):ObjOk P w H h a u:=by
 rcases r with r | ⟨o,r⟩
 ·exact x a u r
 ·obtain ⟨_,q⟩:=x a _ r
  exact q
def Mut:Option HO->Prop
 | some (.lst _)=>True
 | some (.dK _)=>True
 | some (.dT _)=>True
 | some (.set _ _)=>True
 | some (.ins _ _ _)=>True
 | some (.ext _)=>True
 | _=>False
section
variable {P:Program} {w:World} {H:Hp} {h h':Heap} {x e:Addr} {o':HO}
theorem HOk.write (ok:HOk P w H h) (mu:Mut (H x)) (he:e=x\/H e=some (.own x)) (k:∀ b u,b≠e->h.get? b=some u->h'.get? b=some u) (heo:∃ u,h'.get? e=some u)
  (new:ObjOk P w (upd H x o') h' x o'):HOk P w (upd H x o') h':=λb u q=>by
 have nown:∀ c y,H c=some (.own y)->c≠x:=λc y r z=>by subst z;rw [r] at mu;exact mu
 have ntup:∀ c xs,H c=some (.tup xs)->c≠x:=λc xs r z=>by subst z;rw [r] at mu;exact mu
 by_cases hb:b=x
 ·subst hb;rw [av] at q;cases q;exact new
 ·rw [aD hb] at q
  by_cases hbe:b=e
  ·have q':H b=some (.own x):=by
    rcases he with z | z
    ·exact absurd (hbe.trans z) hb
    ·rw [hbe];exact z
   rw [q] at q';cases q'
   obtain ⟨v,hv⟩:=heo
   exact ⟨v,by rw [hbe];exact hv⟩
  ·refine (ok b u q).stay (λc v hc r=>k c v ?_ r) (λc r=>by rw [aD (nown c b r)];exact r) λc xs r=>by rw [aD (ntup c xs r)];exact r
   rcases hc with rfl | hc
   ·exact hbe
   ·rintro rfl
    rcases he with z | z
    ·exact nown c b hc z
    ·rw [hc] at z;cases z;exact hb rfl
end
structure Un (fs ex:List Addr) (H H':Hp) (h h':Heap):Prop where
 keep:∀ b o,h.get? b=some o->H b=none->b ∉ fs->b ∉ ex->h'.get? b=some o
 slot:∀ b o,h.get? b=some o->H b=none->b ∈ fs->b ∉ ex->∃ sl,h'.get? b=some { o with slots:=sl }
 free:∀ b o,h.get? b=some o->H b=none->b ∉ ex->H' b=none
 there:∀ b o,h.get? b=some o->b ∉ ex->∃ o',h'.get? b=some o'
 tups:∀ b xs,H b=some (.tup xs)->H' b=some (.tup xs)
 frzs:∀ b o u,H b=some (.frz o u)->H' b=some (.frz o u)
 tbls:∀ b ps,H b=some (.tbl ps)->∃ more,H' b=some (.tbl (ps++more))
section
variable {fs fs' ex ex':List Addr} {H H1 H2:Hp} {h h1 h2 h':Heap} {a x e:Addr} {o:HO}
theorem Un.any (u:Un fs ex H H1 h h1) {b:Addr} {ob:Obj} (q:h.get? b=some ob) (n:H b=none) (hx:b ∉ ex):∃ sl,h1.get? b=some { ob with slots:=sl }:=by
 by_cases hb:b ∈ fs
 ·exact u.slot b ob q n hb hx
 ·exact ⟨ob.slots,u.keep b ob q n hb hx⟩
theorem Un.kept (k:∀ b u,h.get? b=some u->h'.get? b=some u):Un fs ex H H h h' :=
 ⟨λb ob q _ _ _=>k b ob q,λb ob q _ _ _=>⟨ob.slots,k b ob q⟩,λ_ _ _ n _=>n,λb ob q _=>⟨ob,k b ob q⟩,λ_ _ q=>q,λ_ _ _ q=>q,λ_ ps q=>⟨#[],by rw [q];simp⟩⟩
theorem Un.refl:Un fs ex H H h h:=Un.kept λ_ _ q=>q
theorem Un.laid (k:∀ b u,h.get? b=some u->h'.get? b=some u) (hp:h.objs.size≤a) (hn:H a=none):Un fs ex H (upd H a o) h h' where
 keep:=λb u q _ _ _=>k b u q
 slot:=λb u q _ _ _=>⟨u.slots,k b u q⟩
 free:=λb u q n _=>by rw [aD (Nat.ne_of_lt (Nat.lt_of_lt_of_le (Heap.lt_size q) hp))];exact n
 there:=λb u q _=>⟨u,k b u q⟩
 tups:=λb xs q=>by rw [aD (aI q hn)];exact q
 frzs:=λb u xs q=>by rw [aD (aI q hn)];exact q
 tbls:=λb ps q=>⟨#[],by rw [aD (aI q hn),q];simp⟩
theorem Un.write (mu:Mut (H x)) (he:e=x\/H e=some (.own x)) (k:∀ b u,b≠e->h.get? b=some u->h'.get? b=some u) (heo:∃ u,h'.get? e=some u):Un fs ex H (upd H x o) h h':=by
 have hx:∀ b,H b=none->b≠x:=λb n z=>by subst z;rw [n] at mu;exact mu
 have hb:∀ b,H b=none->b≠e:=λb n z=>by
  subst z
  rcases he with r | r
  ·exact hx b n r
  ·rw [n] at r;cases r
 have hm:∀ b u,H b=some u->¬ Mut (some u)->b≠x:=λb u q nm z=>by subst z;rw [q] at mu;exact nm mu
 refine ⟨λb u q n _ _=>k b u (hb b n) q,λb u q n _ _=>⟨u.slots,k b u (hb b n) q⟩,λb u q n _=>by rw [aD (hx b n)];exact n,λb u q _=>?_,
  λb xs q=>by rw [aD (hm b _ q λz=>z)];exact q,λb u xs q=>by rw [aD (hm b _ q λz=>z)];exact q,λb ps q=>⟨#[],by rw [aD (hm b _ q λz=>z),q];simp⟩⟩
 by_cases hbe:b=e
 ·subst hbe;exact heo
 ·exact ⟨u,k b u hbe q⟩
end
def trk (h:Heap) (H:Hp):List Addr:=(List.range h.objs.size).filter λa=>(H a).isSome
def nE (h:Heap) (H:Hp):Heap:=PySem.W.hideAll h (trk h H)
theorem uk (h:Heap) (H:Hp):(nE h H).objs.size=h.objs.size:=PySem.W.hideAll_size _ _
variable {o:Obj}
theorem wt {h:Heap} (e:h.get? b=some o) (n:H b=none):(nE h H).get? b=some o :=
 PySem.W.hideAll_get _ e λhm=>by
  have q:(H b).isSome=true:=(List.mem_filter.mp hm).2
  rw [n] at q;simp at q
theorem yV {h:Heap} (e:(nE h H).get? b=some o):h.get? b=some o/\H b=none:=by
 have e':h.get? b=some o:=PySem.W.of_hideAll (trk h H) e
 refine ⟨e',?_⟩
 cases q:H b with
 | none=>rfl
 | some x =>
  have hm:b ∈ trk h H:=List.mem_filter.mpr ⟨List.mem_range.mpr (Heap.lt_size e'),by simp [q]⟩
  have z:(nE h H).get? b=none:=PySem.W.hideAll_none (trk h H) hm
  rw [z] at e;cases e
structure Mod (K:PySem.W.Frag) (mg:Str->Option Value) (base:Heap):Prop where
 kin:K.In base
 glob:base.Ns mainGlobals mg
 blt:∃ mb,base.Ns builtinsNs mb/\∀ x:Str,x≠"__name__"->mb x=bootBuiltins x
 nolimit:base.NoLimit
structure Cx where
 prog:Program
 w:World
 K:PySem.W.Frag
 mg:Str->Option Value
 base:Heap
 A:Around
 N:List Str
 s₀:Shared
 H₀:Hp
 env:Env
 outer:List Env
 stack:List Env
 ex:List Addr
 fn:Str->Bool
 calm:Bool
 pn:List (Addr × Obj)
 xe:Value->Shared->Prop
def frs (l:List Env):List Addr:=l.filterMap (·.frame)
abbrev Cx.fs (X:Cx):List Addr:=frs X.outer
def Vis (sc:Scope) (x:Str):Prop:=sc.names.lookup x=some .local\/sc.names.lookup x=some .cell\/sc.names.lookup x=some .free
def Loc (sc:Scope) (x:Str):Prop:=sc.names.lookup x=some .local\/sc.names.lookup x=some .cell
def CC (env:Env) (h:Heap) (m:Str->Option Value) (x:Str) (u:Value):Prop :=
 (env.kindOf x=some .local/\m x=some u)\/((env.kindOf x=some .cell\/env.kindOf x=some .free)/\∃ c,env.cells.lookup x=some c/\h.IsCell c (some u))
structure Cx.Ok (X:Cx):Prop where
 mod:Mod X.K X.mg X.base
 kind:X.env.scope.kind=.function
 glob:X.env.globals=mainGlobals
 blt:X.env.builtins=builtinsNs
 above:X.s₀.heap.objs.size≤X.env.locals
 inj:∀ x y c,X.env.cells.lookup x=some c->X.env.cells.lookup y=some c->x=y
 has:∀ x,(X.env.kindOf x=some .cell\/X.env.kindOf x=some .free)->∃ c,X.env.cells.lookup x=some c
 cab:∀ x c,X.fn x=true->X.env.cells.lookup x=some c->X.s₀.heap.objs.size≤c
 hd:X.calm=true->X.A.handled=none
 frames:X.A.frames=some X.stack
 stk:X.stack=X.outer\/(X.stack=X.env::X.outer/\X.env.frame=some X.env.locals)
 exf:∀ b ∈ X.ex,b≠X.env.locals/\∀ x c,X.env.cells.lookup x=some c->c≠b
 bs:∀ b o,X.base.get? b=some o->X.s₀.heap.get? b=some o/\X.H₀ b=none
 bsz:X.base.objs.size≤X.s₀.heap.objs.size
 noex:∀ b o,X.base.get? b=some o->b ∉ X.ex
 exfs:∀ b ∈ X.ex,b ∉ X.fs
 funs:X.s₀.heap.FunFrames X.base X.outer
 frf:∀ b ∈ X.fs,X.H₀ b=none
structure Inv (X:Cx) (pins:List (Addr × Obj)) (σ:List (Option V)) (H:Hp) (s:Shared):Prop where
 ok:X.Ok
 os:s.os=X.s₀.os
 bare:AllBare s.gens
 base:Un X.fs X.ex X.H₀ H X.s₀.heap s.heap
 loc:∃ m,s.heap.Ns X.env.locals m/\∀ (i:Nat) (x:Str) (v:V),X.N[i]?=some x->σ[i]?=some (some v)->Vis X.env.scope x->∃ u,RelV v u/\CC X.env s.heap m x u
 cell:∀ x c,X.env.cells.lookup x=some c->∃ v,s.heap.IsCell c v
 free:H X.env.locals=none
 freeC:∀ x c,X.env.cells.lookup x=some c->H c=none
 pin:∀ p ∈ X.pn++pins,s.heap.get? p.1=some p.2/\H p.1=none/\p.1≠X.env.locals/\p.1 ∉ X.fs/\∀ v,p.2.data≠.cell v
 hok:HOk X.prog X.w H s.heap
 len:σ.length=X.N.length
section
variable {X:Cx} {pins:List (Addr × Obj)} {σ:List (Option V)} {H H':Hp} {s:Shared} {h':Heap}
theorem Cx.Ok.nofr (ok:X.Ok) {b:Addr} {o:Obj} (e:X.base.get? b=some o):b ∉ X.fs:=λhb=>by
 have:=(ok.funs.mem hb).1
 rw [e] at this;cases this
theorem Inv.bs (I:Inv X pins σ H s):∀ b o,X.base.get? b=some o->s.heap.get? b=some o/\H b=none:=λb o e =>
 ⟨I.base.keep b o (I.ok.bs b o e).1 (I.ok.bs b o e).2 (I.ok.nofr e) (I.ok.noex b o e),I.base.free b o (I.ok.bs b o e).1 (I.ok.bs b o e).2 (I.ok.noex b o e)⟩
theorem Inv.bk (I:Inv X pins σ H s):∀ b o,X.base.get? b=some o->s.heap.get? b=some o:=λb o e=>(I.bs b o e).1
theorem Inv.mod (I:Inv X pins σ H s):Mod X.K X.mg X.base:=I.ok.mod
theorem Inv.kIn (I:Inv X pins σ H s):X.K.In s.heap:=I.ok.mod.kin.keeps I.bk
theorem Inv.lt (I:Inv X pins σ H s):X.env.locals < s.heap.objs.size:=let ⟨_,hn,_⟩:=I.loc;hn.lt
theorem Inv.sz (I:Inv X pins σ H s):X.s₀.heap.objs.size≤s.heap.objs.size:=Nat.le_trans I.ok.above (Nat.le_of_lt I.lt)
variable {a:Addr}
theorem Inv.nofs (I:Inv X pins σ H s) (h:s.heap.objs.size≤a):a ∉ X.fs:=λhb=>by
 obtain ⟨_,o,ho,_⟩:=I.ok.funs.mem hb
 exact absurd (Nat.lt_of_lt_of_le (Heap.lt_size ho) (Nat.le_trans I.sz h)) (Nat.lt_irrefl _)
theorem Inv.cne (I:Inv X pins σ H s):∀ x c,X.env.cells.lookup x=some c->c≠X.env.locals:=λx c e z=>by
 obtain ⟨v,o,ho,hd⟩:=I.cell x c e
 obtain ⟨m,⟨o',es,ep,ho',hd',_⟩,_⟩:=I.loc
 rw [z,ho'] at ho;cases ho;rw [hd'] at hd;cases hd
theorem Inv.funs (I:Inv X pins σ H s):s.heap.FunFrames X.base X.outer:=by
 have all:∀ (l:List Env),(∀ b ∈ frs l,b ∈ X.fs)->X.s₀.heap.FunFrames X.base l->s.heap.FunFrames X.base l:=by
  intro l
  induction l with
  | nil=>intro _ _;trivial
  | cons env r ih =>
   intro hs hl
   obtain ⟨hk,⟨L,o,hf,hn,ho,hd⟩,hr⟩:=hl
   have hL:L ∈ X.fs:=hs L (by unfold frs;rw [List.filterMap_cons,hf];exact List.mem_cons_self)
   obtain ⟨sl,e⟩:=I.base.slot L o ho (I.ok.frf L hL) hL λz=>I.ok.exfs L z hL
   exact ⟨hk,⟨L,_,hf,hn,e,hd⟩,ih (λb hb=>hs b (by unfold frs;rw [List.filterMap_cons,hf];exact List.mem_cons_of_mem _ hb)) hr⟩
 exact all X.outer (λ_ hb=>hb) I.ok.funs
theorem Inv.stack (I:Inv X pins σ H s):s.heap.FunFrames X.base X.stack:=by
 rcases I.ok.stk with e | ⟨e,hf⟩
 ·rw [e];exact I.funs
 ·rw [e]
  obtain ⟨m,hn,_⟩:=I.loc
  refine .cons (by rw [I.ok.kind];decide) hf hn ?_ I.funs
  exact Heap.get?_none_of_le (Nat.le_trans I.ok.bsz I.ok.above)
theorem Inv.stkSub (I:Inv X pins σ H s):∀ b ∈ frs X.stack,b ∈ X.env.locals::X.fs:=λb hb=>by
 rcases I.ok.stk with e | ⟨e,hf⟩
 ·rw [e] at hb;exact List.mem_cons_of_mem _ hb
 ·rw [e] at hb
  unfold frs at hb
  rw [List.filterMap_cons,hf] at hb
  exact hb
theorem Inv.stkFree (I:Inv X pins σ H s):∀ b ∈ frs X.stack,H b=none:=λb hb=>by
 rcases List.mem_cons.mp (I.stkSub b hb) with e | hb
 ·rw [e];exact I.free
 ·obtain ⟨_,o,ho,_⟩:=I.ok.funs.mem hb
  exact I.base.free b o ho (I.ok.frf b hb) λz=>I.ok.exfs b z hb
variable {g':Array GenState} {t':Nat} {d':Drawn} {ch:List Addr}
theorem Inv.step (I:Inv X pins σ H s)
  (hch:∀ b ∈ ch,(b ∈ X.ex\/X.s₀.heap.objs.size≤b)/\b≠X.env.locals/\(∀ x c,X.env.cells.lookup x=some c->c≠b)/\∀ p ∈ X.pn++pins,p.1≠b)
  (keep:∀ b o,b≠X.env.locals->b ∉ X.fs->b ∉ ch->s.heap.get? b=some o->H b=none->h'.get? b=some o)
  (slot:∀ b o,b≠X.env.locals->b ∈ X.fs->b ∉ ch->s.heap.get? b=some o->H b=none->∃ sl,h'.get? b=some { o with slots:=sl }) (free:∀ b o,b ∉ ch->s.heap.get? b=some o->H b=none->H' b=none)
  (there:∀ b o,b ∉ ch->s.heap.get? b=some o->∃ o',h'.get? b=some o')
  (tups:∀ b xs,H b=some (.tup xs)->H' b=some (.tup xs)) (frzs:∀ b o u,H b=some (.frz o u)->H' b=some (.frz o u)) (tbls:∀ b ps,H b=some (.tbl ps)->∃ more,H' b=some (.tbl (ps++more)))
  (ns:∀ m,s.heap.Ns X.env.locals m->h'.Ns X.env.locals m) (hok:HOk X.prog X.w H' h') (hg:AllBare g') :
  Inv X pins σ H' { s with heap:=h',gens:=g',drawn:=d',toks:=t' }:=by
 have neL:∀ b o,X.s₀.heap.get? b=some o->b≠X.env.locals:=λb o e=>Nat.ne_of_lt (Nat.lt_of_lt_of_le (Heap.lt_size e) I.ok.above)
 have neC:∀ b o,X.s₀.heap.get? b=some o->b ∉ X.ex->b ∉ ch:=λb o e hx hb=>by
  rcases (hch b hb).1 with z | z
  ·exact hx z
  ·exact absurd (Nat.lt_of_lt_of_le (Heap.lt_size e) z) (Nat.lt_irrefl _)
 have cellK:∀ x c,X.env.cells.lookup x=some c->∀ v,s.heap.IsCell c v->h'.IsCell c v:=λx c e v ⟨o,ho,hd⟩=>by
  have nch:c ∉ ch:=λz=>(hch c z).2.2.1 x c e rfl
  by_cases hc:c ∈ X.fs
  ·obtain ⟨sl,q⟩:=slot c o (I.cne x c e) hc nch ho (I.freeC x c e)
   exact ⟨_,q,hd⟩
  ·exact ⟨o,keep c o (I.cne x c e) hc nch ho (I.freeC x c e),hd⟩
 refine ⟨I.ok,I.os,hg,⟨λb o e n hb hx=>?_,λb o e n hb hx=>?_,λb o e n hx=>?_,λb o e hx=>?_,λb xs e=>tups b xs (I.base.tups b xs e),λb o xs e=>frzs b o xs (I.base.frzs b o xs e),λb ps e=>?_⟩,?_,λx c e=>?_,?_,λx c e=>?_,λp hp=>?_,hok,I.len⟩
 ·exact keep b o (neL b o e) hb (neC b o e hx) (I.base.keep b o e n hb hx) (I.base.free b o e n hx)
 ·obtain ⟨sl,e1⟩:=I.base.slot b o e n hb hx
  obtain ⟨sl',e2⟩:=slot b _ (neL b o e) hb (neC b o e hx) e1 (I.base.free b o e n hx)
  exact ⟨sl',e2⟩
 ·obtain ⟨o',e1⟩:=I.base.there b o e hx
  exact free b o' (neC b o e hx) e1 (I.base.free b o e n hx)
 ·obtain ⟨o',e1⟩:=I.base.there b o e hx
  exact there b o' (neC b o e hx) e1
 ·obtain ⟨m1,e1⟩:=I.base.tbls b ps e
  obtain ⟨m2,e2⟩:=tbls b _ e1
  exact ⟨m1++m2,by rw [e2,Array.append_assoc]⟩
 ·obtain ⟨m,hn,hl⟩:=I.loc
  refine ⟨m,ns m hn,λi x v e1 e2 e3=>?_⟩
  obtain ⟨u,r,l⟩:=hl i x v e1 e2 e3
  refine ⟨u,r,?_⟩
  rcases l with l | ⟨k,c,e,z⟩
  ·exact .inl l
  ·exact .inr ⟨k,c,e,cellK x c e _ z⟩
 ·obtain ⟨v,z⟩:=I.cell x c e
  exact ⟨v,cellK x c e v z⟩
 ·obtain ⟨m,⟨o,_,_,ho,_⟩,_⟩:=I.loc
  exact free _ o (λz=>(hch _ z).2.1 rfl) ho I.free
 ·obtain ⟨v,o,ho,hd⟩:=I.cell x c e
  exact free c o (λz=>(hch c z).2.2.1 x c e rfl) ho (I.freeC x c e)
 ·obtain ⟨e,n,ne,nf,d⟩:=I.pin p hp
  have nch:p.1 ∉ ch:=λz=>(hch p.1 z).2.2.2 p hp rfl
  exact ⟨keep p.1 p.2 ne nf nch e n,free p.1 p.2 nch e n,ne,nf,d⟩
theorem Inv.un (I:Inv X pins σ H s) (u:Un X.fs [] H H' s.heap h') (hok:HOk X.prog X.w H' h'):Inv X pins σ H' { s with heap:=h',toks:=t' }:=by
 obtain ⟨m,⟨o,es,ep,ho,r⟩,_⟩:=id I.loc
 obtain ⟨sl,hL⟩:=u.any ho I.free (by simp)
 exact I.step (g':=s.gens) (d':=s.drawn) (ch:=[]) (λ_ z=>nomatch z) (λb o _ hb _ e n=>u.keep b o e n hb (by simp)) (λb o _ hb _ e n=>u.slot b o e n hb (by simp)) (λb o _ e n=>u.free b o e n (by simp)) (λb o _ e=>u.there b o e (by simp)) u.tups u.frzs u.tbls (λm' hm=>by
  obtain ⟨o',es',ep',ho',r'⟩:=hm
  rw [ho] at ho';cases ho'
  exact ⟨_,es',ep',hL,r'⟩) hok I.bare
theorem Inv.call (I:Inv X pins σ H s) (u:Un (frs X.stack) ch H H' s.heap h') (hok:HOk X.prog X.w H' h') (hg:AllBare g')
  (hch:∀ b ∈ ch,(b ∈ X.ex\/X.s₀.heap.objs.size≤b)/\b≠X.env.locals/\(∀ x c,X.env.cells.lookup x=some c->c≠b)/\∀ p ∈ X.pn++pins,p.1≠b) :
  Inv X pins σ H' { s with heap:=h',gens:=g',drawn:=d',toks:=t' }:=by
 obtain ⟨m,⟨o,es,ep,ho,r⟩,_⟩:=id I.loc
 obtain ⟨sl,hL⟩:=u.any ho I.free λz=>(hch _ z).2.1 rfl
 exact I.step (ch:=ch) hch (λb o hL hb hc e n=>u.keep b o e n (λz=>(List.mem_cons.mp (I.stkSub b z)).elim hL hb) hc) (λb o _ _ hc e n=>u.any e n hc) (λb o hc e n=>u.free b o e n hc) (λb o hc e=>u.there b o e hc) u.tups u.frzs u.tbls (λm' hm=>by
  obtain ⟨o',es',ep',ho',r'⟩:=hm
  rw [ho] at ho';cases ho'
  exact ⟨_,es',ep',hL,r'⟩) hok hg
theorem Inv.turned {it:Addr} (I:Inv X pins σ H s) (k:∀ b o,b≠it->s.heap.get? b=some o->h'.get? b=some o) (hn:H it=none) (hL:it≠X.env.locals)
  (h1:it ∈ X.ex\/X.s₀.heap.objs.size≤it) (h2:∀ x c,X.env.cells.lookup x=some c->c≠it) (h3:∀ p ∈ X.pn++pins,p.1≠it):Inv X pins σ H { s with heap:=h',toks:=t' }:=by
 have nit:∀ b u,H b=some u->b≠it:=λb u e z=>by rw [z,hn] at e;cases e
 refine I.step (g':=s.gens) (d':=s.drawn) (ch:=[it]) (λb hb=>?_) (λb o _ _ hc e _=>k b o (λz=>hc (by simp [z])) e) (λb o _ _ hc e _=>⟨o.slots,k b o (λz=>hc (by simp [z])) e⟩) (λ_ _ _ _ n=>n)
  (λb o hc e=>⟨o,k b o (λz=>hc (by simp [z])) e⟩) (λ_ _ e=>e) (λ_ _ _ e=>e) (λb ps e=>⟨#[],by rw [e];simp⟩) (λm hm=>?_) (λb u e=>?_) I.bare
 ·have e:b=it:=by simpa using hb
  subst e
  exact ⟨h1,hL,h2,h3⟩
 ·obtain ⟨o,es,ep,ho,r⟩:=hm
  exact ⟨o,es,ep,k _ o (Ne.symm hL) ho,r⟩
 ·refine (I.hok b u e).stay (λc v hc q=>k c v ?_ q) (λ_ q=>q) λ_ _ q=>q
  rcases hc with z | z
  ·rw [z];exact nit b u e
  ·exact nit c _ z
theorem Inv.tok (I:Inv X pins σ H s) (t:Nat):Inv X pins σ H { s with toks:=t }:=I.un (h':=s.heap) (t':=t) Un.refl I.hok
theorem Inv.kept (I:Inv X pins σ H s) (k:∀ b u,s.heap.get? b=some u->h'.get? b=some u):Inv X pins σ H { s with heap:=h',toks:=t' }:=I.un (Un.kept k) (I.hok.kept k)
variable {o:HO}
theorem Inv.laid (I:Inv X pins σ H s) (k:∀ b u,s.heap.get? b=some u->h'.get? b=some u) (hp:s.heap.objs.size≤a) (new:ObjOk X.prog X.w (upd H a o) h' a o) :
  Inv X pins σ (upd H a o) { s with heap:=h',toks:=t' }:=I.un (Un.laid k hp (I.hok.fresh hp)) (I.hok.laid k hp new)
theorem Inv.write {x e:Addr} (I:Inv X pins σ H s) (mu:Mut (H x)) (he:e=x\/H e=some (.own x)) (k:∀ b u,b≠e->s.heap.get? b=some u->h'.get? b=some u) (heo:∃ u,h'.get? e=some u)
  (new:ObjOk X.prog X.w (upd H x o) h' x o):Inv X pins σ (upd H x o) { s with heap:=h',toks:=t' }:=I.un (Un.write mu he k heo) (I.hok.write mu he k heo new)
theorem Inv.pins_of {pins':List (Addr × Obj)} (I:Inv X pins σ H s) (h:∀ p ∈ pins',s.heap.get? p.1=some p.2/\H p.1=none/\p.1≠X.env.locals/\p.1 ∉ X.fs/\∀ v,p.2.data≠.cell v):Inv X pins' σ H s :=
 ⟨I.ok,I.os,I.bare,I.base,I.loc,I.cell,I.free,I.freeC,λp hp=>(List.mem_append.mp hp).elim (λz=>I.pin p (List.mem_append_left _ z)) (h p),I.hok,I.len⟩
variable {i:Nat} {x:Str}
theorem kX {N:List Str} (hN:N.Nodup) {j:Nat} (a:N[i]?=some x) (b:N[j]?=some x):i=j:=by
 obtain ⟨h1,e1⟩:=List.getElem?_eq_some_iff.mp a
 obtain ⟨h2,e2⟩:=List.getElem?_eq_some_iff.mp b
 exact (List.getElem_inj hN).mp (e1.trans e2.symm)
variable {M:Model} {A:Around} {v:V} {u:Value}
theorem jP {E:Value->Shared->Prop} {Q:Unit->Shared->Prop} (I:Inv X pins σ H s) (hN:X.N.Nodup) (hi:X.N[i]?=some x) (hx:Loc X.env.scope x) (r:RelV v u)
  (h:∀ s',Inv X pins (σ.set i (some v)) H s'->(∃ a,Heap.SameBut a s.heap s'.heap/\(a=X.env.locals\/X.env.cells.lookup x=some a))->Q () s') (hf:X.fn x=true\/X.env.scope.names.lookup x=some .local:=by first | exact .inl rfl | exact .inr rfl | assumption):wpAny M A (storeName X.env x u) Q E s:=by
 obtain ⟨m,hn,hl⟩:=id I.loc
 have hcls:(X.env.scope.kind == .class || (X.env.scope.kind == .module && X.env.locals != X.env.globals))=false:=by rw [I.ok.kind];rfl
 have hiσ:i < σ.length:=by rw [I.len];exact (List.getElem?_eq_some_iff.mp hi).1
 have cne:=I.cne
 have tracked:∀ {a:Addr} {h':Heap},(∃ o,s.heap.get? a=some o/\H a=none)->Heap.SameBut a s.heap h'->HOk X.prog X.w H h':=λ{a h'} ha hs b ob e=>by
  obtain ⟨_,_,hfree⟩:=ha
  refine (I.hok b ob e).stay (λc w' hc q=>(hs.2 c ?_).trans q) (λ_ q=>q) λ_ _ q=>q
  rintro rfl
  rcases hc with rfl | hc
  ·rw [hfree] at e;cases e
  ·rw [hfree] at hc;cases hc
 rcases hx with hk | hk
 ·refine wpAny_storeName_local hk hn (λh' hn' hs=>?_) hcls
  obtain ⟨oL,_,_,hoL,_⟩:=id hn
  refine h _ ⟨I.ok,I.os,I.bare,⟨λb o e n hb hx=>?_,λb o e n hb hx=>?_,I.base.free,λb o e hx=>?_,I.base.tups,I.base.frzs,I.base.tbls⟩,⟨_,hn',λj y v' e1 e2 e3=>?_⟩,λy c e=>?_,I.free,I.freeC,λp hp=>?_,tracked ⟨oL,hoL,I.free⟩ hs,by simpa using I.len⟩ ⟨_,hs,.inl rfl⟩
  ·exact (hs.2 b (Nat.ne_of_lt (Nat.lt_of_lt_of_le (Heap.lt_size e) I.ok.above))).trans (I.base.keep b o e n hb hx)
  ·obtain ⟨sl,e1⟩:=I.base.slot b o e n hb hx
   exact ⟨sl,(hs.2 b (Nat.ne_of_lt (Nat.lt_of_lt_of_le (Heap.lt_size e) I.ok.above))).trans e1⟩
  ·obtain ⟨o',e1⟩:=I.base.there b o e hx
   exact ⟨o',(hs.2 b (Nat.ne_of_lt (Nat.lt_of_lt_of_le (Heap.lt_size e) I.ok.above))).trans e1⟩
  ·by_cases hj:j=i
   ·subst hj
    rw [hi] at e1;cases e1
    rw [List.getElem?_set_self hiσ] at e2
    cases e2
    exact ⟨u,r,.inl ⟨hk,by simp⟩⟩
   ·rw [List.getElem?_set_ne (Ne.symm hj)] at e2
    obtain ⟨u',r',q⟩:=hl j y v' e1 e2 e3
    refine ⟨u',r',?_⟩
    rcases q with ⟨k,e⟩ | ⟨k,c,e,z⟩
    ·refine .inl ⟨k,?_⟩
     have:y≠x:=λe=>hj (kX hN e1 (e ▸ hi))
     simp [this,e]
    ·exact .inr ⟨k,c,e,z.sameBut hs (cne y c e)⟩
  ·obtain ⟨w',z⟩:=I.cell y c e
   exact ⟨w',z.sameBut hs (cne y c e)⟩
  ·obtain ⟨e,n,ne,nf,d⟩:=I.pin p hp
   exact ⟨(hs.2 p.1 ne).trans e,n,ne,nf,d⟩
 ·have hfn:X.fn x=true:=by
   rcases hf with z | z
   ·exact z
   ·rw [z] at hk;cases hk
  obtain ⟨c,hc⟩:=I.ok.has x (.inl hk)
  obtain ⟨w',z⟩:=I.cell x c hc
  refine wpAny_storeName_cell I.ok.kind hk hc z (λh' hc' hs=>?_)
  obtain ⟨oc,hoc,hocd⟩:=id z
  refine h { s with heap:=h' } ⟨I.ok,I.os,I.bare,⟨λb o e n hb hx=>?_,λb o e n hb hx=>?_,I.base.free,λb o e hx=>?_,I.base.tups,I.base.frzs,I.base.tbls⟩,⟨m,hn.sameBut hs (Ne.symm (cne x c hc)),λj y v' e1 e2 e3=>?_⟩,λy c' e=>?_,I.free,I.freeC,λp hp=>?_,tracked ⟨oc,hoc,I.freeC x c hc⟩ hs,by simpa using I.len⟩ ⟨c,hs,.inr hc⟩
  ·exact (hs.2 b (Nat.ne_of_lt (Nat.lt_of_lt_of_le (Heap.lt_size e) (I.ok.cab x c hfn hc)))).trans (I.base.keep b o e n hb hx)
  ·obtain ⟨sl,e1⟩:=I.base.slot b o e n hb hx
   exact ⟨sl,(hs.2 b (Nat.ne_of_lt (Nat.lt_of_lt_of_le (Heap.lt_size e) (I.ok.cab x c hfn hc)))).trans e1⟩
  ·obtain ⟨o',e1⟩:=I.base.there b o e hx
   exact ⟨o',(hs.2 b (Nat.ne_of_lt (Nat.lt_of_lt_of_le (Heap.lt_size e) (I.ok.cab x c hfn hc)))).trans e1⟩
  ·by_cases hj:j=i
   ·subst hj
    rw [hi] at e1;cases e1
    rw [List.getElem?_set_self hiσ] at e2
    cases e2
    exact ⟨u,r,.inr ⟨.inl hk,c,hc,hc'⟩⟩
   ·rw [List.getElem?_set_ne (Ne.symm hj)] at e2
    obtain ⟨u',r',q⟩:=hl j y v' e1 e2 e3
    refine ⟨u',r',?_⟩
    rcases q with q | ⟨k,c',e,z'⟩
    ·exact .inl q
    ·refine .inr ⟨k,c',e,z'.sameBut hs ?_⟩
     rintro rfl
     exact hj (kX hN e1 (I.ok.inj _ _ _ e hc ▸ hi))
  ·by_cases hcc:c'=c
   ·subst hcc;exact ⟨_,hc'⟩
   ·obtain ⟨w2,z2⟩:=I.cell y c' e
    exact ⟨w2,z2.sameBut hs hcc⟩
  ·obtain ⟨e,n,ne,nf,d⟩:=I.pin p hp
   refine ⟨(hs.2 p.1 ?_).trans e,n,ne,nf,d⟩
   intro q
   rw [q,hoc] at e
   have q':oc=p.2:=Option.some.inj e
   exact d w' (by rw [← q'];exact hocd)
theorem fU {E:Value->Shared->Prop} {Q:Unit->Shared->Prop} (I:Inv X pins σ H s) (hN:X.N.Nodup) (hi:X.N[i]?=some x) (hx:Loc X.env.scope x) (r:RelV v u)
  (h:∀ s',Inv X pins (σ.set i (some v)) H s'->Q () s') (hf:X.fn x=true\/X.env.scope.names.lookup x=some .local:=by first | exact .inl rfl | exact .inr rfl | assumption):wpAny M A (storeName X.env x u) Q E s :=
 jP I hN hi hx r (λs' I' _=>h s' I') hf
theorem Inv.call' {s':Shared} (I:Inv X pins σ H s) (ho:s'.os=s.os) (u:Un (frs X.stack) ch H H' s.heap s'.heap) (hok:HOk X.prog X.w H' s'.heap) (hg:AllBare s'.gens)
  (hch:∀ b ∈ ch,(b ∈ X.ex\/X.s₀.heap.objs.size≤b)/\b≠X.env.locals/\(∀ x c,X.env.cells.lookup x=some c->c≠b)/\∀ p ∈ X.pn++pins,p.1≠b):Inv X pins σ H' s':=by
 obtain ⟨h',g',d',t',o'⟩:=s'
 have e:o'=s.os:=ho
 subst e
 exact I.call (g':=g') (t':=t') (d':=d') u hok hg hch
end
abbrev XK:=Value->Option Addr->Hp->Prop
abbrev St:=List (Option V)
abbrev VK:=V->Hp->Prop
abbrev TE:=St->Hp->VK->Prop
abbrev TT:=St->Hp->(Bool->Hp->Prop)->Prop
abbrev TA:=St->Hp->(List V->Hp->Prop)->Prop
structure Ends where
 nx:St->Hp->Prop
 rt:VK
 bk:St->Hp->Prop:=λ_ _=>False
 ct:St->Hp->Prop:=λ_ _=>False
abbrev TS:=Ends->St->Hp->Prop
def EP (X:Cx) (pins:List (Addr × Obj)) (σ:St) (Q:VK) (u:Value) (s':Shared):Prop:=∃ v H',Inv X pins σ H' s'/\RelV v u/\Q v H'
def TP (X:Cx) (pins:List (Addr × Obj)) (σ:St) (Q:Bool->Hp->Prop) (b:Bool) (s':Shared):Prop:=∃ H',Inv X pins σ H' s'/\Q b H'
def AP (X:Cx) (pins:List (Addr × Obj)) (σ:St) (Q:List V->Hp->Prop) (us:List Value) (s':Shared):Prop:=∃ vs H',Inv X pins σ H' s'/\Vals vs us/\Q vs H'
def SP (X:Cx) (pins:List (Addr × Obj)) (D:Ends) (f:Flow) (s':Shared):Prop :=
 match f with
 | .next=>∃ σ' H',Inv X pins σ' H' s'/\D.nx σ' H'
 | .brk=>∃ σ' H',Inv X pins σ' H' s'/\D.bk σ' H'
 | .cont=>∃ σ' H',Inv X pins σ' H' s'/\D.ct σ' H'
 | .ret u=>∃ v σ' H',Inv X pins σ' H' s'/\RelV v u/\D.rt v H'
def PE (X:Cx) (e:Expr) (t:TE):Prop :=
 ∀ (pins:List (Addr × Obj)) (s:Shared) (σ:St) (H:Hp) (Q:VK),Inv X pins σ H s->t σ H Q->wpAny (model X.prog X.w) X.A (eval e X.env) (EP X pins σ Q) X.xe s
def PT (X:Cx) (e:Expr) (t:TT):Prop :=
 ∀ (pins:List (Addr × Obj)) (s:Shared) (σ:St) (H:Hp) (Q:Bool->Hp->Prop),Inv X pins σ H s->t σ H Q->wpAny (model X.prog X.w) X.A (isTrue e X.env (eval e X.env)) (TP X pins σ Q) X.xe s
def PW (X:Cx) (e:Expr) (t:TT):Prop :=
 ∀ (whole:Sem Value) (pins:List (Addr × Obj)) (s:Shared) (σ:St) (H:Hp) (Q:Bool->Hp->Prop),Inv X pins σ H s->t σ H Q->wpAny (model X.prog X.w) X.A (isTrue e X.env whole) (TP X pins σ Q) X.xe s
variable {X:Cx}
theorem PW.pt {e:Expr} {t:TT} (h:PW X e t):PT X e t:=h _
def PA (X:Cx) (es:List Expr) (t:TA):Prop :=
 ∀ (pos:Pos) (pins:List (Addr × Obj)) (s:Shared) (σ:St) (H:Hp) (Q:List V->Hp->Prop),Inv X pins σ H s->t σ H Q->wpAny (model X.prog X.w) X.A (spliced (backTo pos (starEach es X.env))) (AP X pins σ Q) X.xe s
def PS (X:Cx) (st:Stmt) (t:TS):Prop :=
 ∀ (pins:List (Addr × Obj)) (s:Shared) (σ:St) (H:Hp) (D:Ends),Inv X pins σ H s->t D σ H->wpAny (model X.prog X.w) X.A (exec st X.env) (SP X pins D) X.xe s
def PSs (X:Cx) (st:List Stmt) (t:TS):Prop :=
 ∀ (pins:List (Addr × Obj)) (s:Shared) (σ:St) (H:Hp) (D:Ends),Inv X pins σ H s->t D σ H->wpAny (model X.prog X.w) X.A (execs st X.env) (SP X pins D) X.xe s
variable {M:Model} {A:Around} {s:Shared}
theorem thn {α:Type} {t:Sem α} {Q Q':α->Shared->Prop} {E:Value->Shared->Prop} (h:wpAny M A t Q E s) (hQ:∀ a s,Q a s->Q' a s):wpAny M A t Q' E s:=wpAny_mono h hQ λ_ _ x=>x
section
variable {X:Cx}
def cx (i:Nat):TE:=λσ H Q=>∃ v,σ[i]?=some (some v)/\Q v H
def tC (v:V):TE:=λ_ H Q=>Q v H
variable {x:Str}
theorem Bo {i:Nat} {pos:Pos} (hN:X.N[i]?=some x) (hv:Vis X.env.scope x) (hd:(x == ("__debug__":Str))=false:=by decide) (hcd:(x == ("__classdict__":Str))=false:=by decide):PE X (.Name x pos) (cx i):=by
 intro pins s σ H Q I h
 obtain ⟨v,e,h⟩:=h
 obtain ⟨m,hn,hl⟩:=I.loc
 obtain ⟨u,r,l⟩:=hl i x v hN e hv
 have fin:EP X pins σ Q u s:=⟨v,H,I,r,h⟩
 rcases l with ⟨hk,hm⟩ | ⟨hk,c,hc,hcell⟩
 ·exact wpAny_Name (wpAny_loadName_local I.ok.kind hk hn hm fin) hd
 ·rcases hk with hk | hk
  ·exact wpAny_Name (wpAny_loadName_cell I.ok.kind hk hc hcell fin) hd
  ·exact wpAny_Name (wpAny_loadName_free I.ok.kind hk hc hcell fin hcd) hd
theorem ao {i j pos}:PE X (.Constant (.int i) j pos) (tC (.int i)):=λ_ _ _ H _ I h=>wpAny_Constant_int ⟨.int i,H,I.tok _,⟨_,rfl⟩,h⟩
theorem cf {b j pos}:PE X (.Constant (.bool b) j pos) (tC (.bl b)):=λ_ _ _ H _ I h=>Constant_bool ⟨.bl b,H,I,rfl,h⟩
theorem gQ {j pos}:PE X (.Constant .none j pos) (tC .non):=λ_ _ _ H _ I h=>Constant_none ⟨.non,H,I,rfl,h⟩
theorem az {x j pos}:PE X (.Constant (.str x) j pos) (tC (.str x)):=λ_ _ _ H _ I h=>Calls.Constant_str ⟨.str x,H,I.tok _,⟨_,rfl⟩,h⟩
def Gl (X:Cx) (x:Str):Prop:=X.env.kindOf x=some .globalImplicit
variable {pins:List (Addr × Obj)} {s:Shared} {σ:St} {H:Hp} {u:Value}
theorem eA {E:Value->Shared->Prop} {pos:Pos} {Q:Value->Shared->Prop} (I:Inv X pins σ H s) (hg:Gl X x) (hm:X.mg x=some u) (h:Q u s)
  (hd:(x == ("__debug__":Str))=false:=by decide):wpAny (model X.prog X.w) X.A (eval (.Name x pos) X.env) Q E s :=
 Calls.Name_function_global I.ok.kind hg (Calls.loadGlobal_global (by rw [I.ok.glob];exact I.mod.glob.keeps I.bk) hm h) hd
theorem kQ {E:Value->Shared->Prop} {pos:Pos} {Q:Value->Shared->Prop} (I:Inv X pins σ H s) (hg:Gl X x) (hm:X.mg x=none) (hv:bootBuiltins x=some u) (h:Q u s)
  (hn:x≠"__name__":=by decide) (hd:(x == ("__debug__":Str))=false:=by decide):wpAny (model X.prog X.w) X.A (eval (.Name x pos) X.env) Q E s:=by
 obtain ⟨mb,h1,h2⟩:=I.mod.blt
 exact Calls.Name_function_global I.ok.kind hg (Calls.loadGlobal_builtin (by rw [I.ok.glob];exact I.mod.glob.keeps I.bk) hm (by rw [I.ok.blt];exact h1.keeps I.bk) ((h2 x hn).trans hv) h) hd
variable {v:V}
theorem aQ {pos:Pos} (hg:Gl X x) (hm:X.mg x=some u) (r:RelV v u) (hd:(x == ("__debug__":Str))=false:=by decide):PE X (.Name x pos) (tC v) :=
 λ_ _ _ H _ I h=>eA I hg hm ⟨v,H,I,r,h⟩ hd
theorem eS {pos:Pos} (hg:Gl X x) (hm:X.mg x=none) (hv:bootBuiltins x=some u) (r:RelV v u) (hn:x≠"__name__":=by decide) (hd:(x == ("__debug__":Str))=false:=by decide):PE X (.Name x pos) (tC v) :=
 λ_ _ _ H _ I h=>kQ I hg hm hv ⟨v,H,I,r,h⟩ hn hd
variable {a b:Expr} {ta tb:TE} {pos:Pos}
variable {tA tB':TT} {rest:List Expr}
def CT (t u:TT):TT:=λσ H Q=>t σ H λc H1=>if c=true then u σ H1 Q else Q false H1
def tOr (t u:TT):TT:=λσ H Q=>t σ H λc H1=>if c=true then Q true H1 else u σ H1 Q
def BK (t:TT):TT:=λσ H Q=>t σ H λc H1=>Q (!c) H1
theorem zt (ha:PT X a tA):PW X (.BoolOp .And [a] pos) tA:=by
 intro wh pins s σ H Q I h
 refine isTrue_and (thn (ha pins s σ H Q I h) λc s1 e=>?_)
 cases c with
 | true=>exact isTrue_and_nil e
 | false=>exact e
theorem du (ha:PT X a tA):PW X (.BoolOp .Or [a] pos) tA:=by
 intro wh pins s σ H Q I h
 refine isTrue_or (thn (ha pins s σ H Q I h) λc s1 e=>?_)
 cases c with
 | false=>exact isTrue_or_nil e
 | true=>exact e
theorem Bu (ha:PT X a tA) (hb:PW X (.BoolOp .And (b::rest) pos) tB'):PW X (.BoolOp .And (a::b::rest) pos) (CT tA tB'):=by
 intro wh pins s σ H Q I h
 refine isTrue_and (thn (ha pins s σ H _ I h) λc s1 ⟨H1,I1,q1⟩=>?_)
 cases c with
 | true=>exact hb wh pins s1 σ H1 Q I1 q1
 | false=>exact ⟨H1,I1,q1⟩
theorem dR (ha:PT X a tA) (hb:PW X (.BoolOp .Or (b::rest) pos) tB'):PW X (.BoolOp .Or (a::b::rest) pos) (tOr tA tB'):=by
 intro wh pins s σ H Q I h
 refine isTrue_or (thn (ha pins s σ H _ I h) λc s1 ⟨H1,I1,q1⟩=>?_)
 cases c with
 | true=>exact ⟨H1,I1,q1⟩
 | false=>exact hb wh pins s1 σ H1 Q I1 q1
theorem bV (ha:PT X a tA):PT X (.UnaryOp .Not a pos) (BK tA):=by
 intro pins s σ H Q I h
 exact isTrue_not (ha pins s σ H (λc H1=>Q (!c) H1) I h)
def AD (ta tb:TE):TE:=λσ H Q=>ta σ H λx H1=>∃ c,x=.bl c/\if c=true then tb σ H1 Q else Q (.bl false) H1
def Cu (ta tb:TE):TE:=λσ H Q=>ta σ H λx H1=>∃ c,x=.bl c/\if c=true then Q (.bl true) H1 else tb σ H1 Q
def AE (ta:TE):TE:=λσ H Q=>ta σ H λx H1=>∃ c,x=.bl c/\Q (.bl (!c)) H1
theorem gR {op} {t:TE} (h:PE X a t):PE X (.BoolOp op [a] pos) t:=λpins s σ H Q I hw=>BoolOp_one (h pins s σ H Q I hw)
theorem gO (ha:PE X a ta) (hb:PE X (.BoolOp .And (b::rest) pos) tb):PE X (.BoolOp .And (a::b::rest) pos) (AD ta tb):=by
 intro pins s σ H Q I h
 refine BoolOp_and (thn (ha pins s σ H _ I h) λv s1 ⟨x,H1,I1,r1,q1⟩=>?_)
 obtain ⟨c,rfl,q1⟩:=q1
 cases r1
 refine wpAny_truthy_bool ?_
 cases c with
 | true=>exact hb pins s1 σ H1 Q I1 q1
 | false=>exact ⟨.bl false,H1,I1,rfl,q1⟩
theorem Am (ha:PE X a ta) (hb:PE X (.BoolOp .Or (b::rest) pos) tb):PE X (.BoolOp .Or (a::b::rest) pos) (Cu ta tb):=by
 intro pins s σ H Q I h
 refine BoolOp_or (thn (ha pins s σ H _ I h) λv s1 ⟨x,H1,I1,r1,q1⟩=>?_)
 obtain ⟨c,rfl,q1⟩:=q1
 cases r1
 refine wpAny_truthy_bool ?_
 cases c with
 | false=>exact hb pins s1 σ H1 Q I1 q1
 | true=>exact ⟨.bl true,H1,I1,rfl,q1⟩
theorem Bm (ha:PE X a ta):PE X (.UnaryOp .Not a pos) (AE ta):=by
 intro pins s σ H Q I h
 refine UnaryOp_ (thn (ha pins s σ H _ I h) λv s1 ⟨x,H1,I1,r1,q1⟩=>?_)
 obtain ⟨c,rfl,q1⟩:=q1
 cases r1
 exact not_of (wpAny_truthy_bool ⟨.bl (!c),H1,I1,rfl,q1⟩)
def tIf (t:TT) (ta tb:TE):TE:=λσ H Q=>t σ H λc H1=>if c=true then ta σ H1 Q else tb σ H1 Q
theorem fh {c:Expr} (hc:PT X c tA) (ha:PE X a ta) (hb:PE X b tb):PE X (.IfExp c a b pos) (tIf tA ta tb):=by
 intro pins s σ H Q I h
 refine wpAny_IfExp (thn (hc pins s σ H _ I h) λd s1 ⟨H1,I1,q1⟩=>?_)
 cases d with
 | true=>exact ha pins s1 σ H1 Q I1 q1
 | false=>exact hb pins s1 σ H1 Q I1 q1
end
def SqL (K:PySem.W.Frag) (H:Hp) (a:Addr) (xs:List V):Prop :=
 Rd H a (.lst xs) \/
  ∃ (o:Obj) (its:Array Value) (n:Nat),K.lookup a=some o/\o.cls=.type "list"/\o.dict=none/\o.data=.seq its n/\its.size≤sizeLine/\Vals xs its.toList
def SqT (K:PySem.W.Frag) (H:Hp) (a:Addr) (xs:List V):Prop :=
 Rd H a (.tup xs) \/
  ∃ (o:Obj) (its:Array Value) (n:Nat),K.lookup a=some o/\o.cls=.type "tuple"/\o.data=.seq its n/\its.size≤sizeLine/\Vals xs its.toList
def CF:Value->Option V
 | .none=>some .non
 | .bool b=>some (.bl b)
 | .int i _=>some (.int i)
 | .str x _=>some (.str x)
 | .bytes b _=>some (.byt b)
 | .float b _=>some (.flt b)
 | .ref a=>some (.ref a)
 | .type n=>some (.ty n)
 | _=>none
theorem RelV.abs {x:V} (r:RelV x u):CF u=some x:=by
 cases x with
 | non=>cases r;rfl
 | bl _=>cases r;rfl
 | int _=>obtain ⟨t,rfl⟩:=r;rfl
 | str _=>obtain ⟨t,rfl⟩:=r;rfl
 | byt _=>obtain ⟨t,rfl⟩:=r;rfl
 | flt _=>obtain ⟨t,rfl⟩:=r;rfl
 | ref _=>cases r;rfl
 | ty _=>cases r;rfl
theorem RelV.inj {x y:V} (r:RelV x u) (q:RelV y u):x=y:=Option.some.inj (r.abs.symm.trans q.abs)
theorem Vals.inj:∀ {xs ys:List V} {us:List Value},Vals xs us->Vals ys us->xs=ys
 | _,_,_,.nil,.nil=>rfl
 | _,_,_,.cons r t,.cons r' t'=>by rw [r.inj r',Vals.inj t t']
section
variable {X:Cx} {pins:List (Addr × Obj)} {σ:St} {H:Hp} {s:Shared} {a:Addr} {xs ys:List V}
variable {K:PySem.W.Frag}
theorem SqL.of (h:H a=some (.lst xs)):SqL K H a xs:=.inl (.inl h)
theorem SqT.of (h:H a=some (.tup xs)):SqT K H a xs:=.inl (.inl h)
theorem Inv.list (I:Inv X pins σ H s) (h:SqL X.K H a xs):∃ its:List Value,Vals xs its/\PlainL s.heap a its.toArray/\xs.length≤sizeLine:=by
 rcases h with h | ⟨o,its,n,hk,hc,hd,hs,hz,r⟩
 ·obtain ⟨z,its,n,r,e⟩:=h.ok I.hok
  exact ⟨its,r,⟨_,n,e,rfl,rfl,rfl⟩,z⟩
 ·refine ⟨its.toList,r,⟨o,n,I.kIn a o hk,hc,hd,by simpa using hs⟩,?_⟩
  have e:=r.length
  simp only [Array.length_toList] at e
  omega
theorem Inv.tuple (I:Inv X pins σ H s) (h:SqT X.K H a xs):∃ its:List Value,Vals xs its/\IsTup s.heap a its.toArray/\xs.length≤sizeLine:=by
 rcases h with h | ⟨o,its,n,hk,hc,hs,hz,r⟩
 ·obtain ⟨z,its,r,p⟩:=h.ok I.hok
  exact ⟨its,r,p,z⟩
 ·refine ⟨its.toList,r,⟨o,I.kIn a o hk,hc,n,by simpa using hs⟩,?_⟩
  have e:=r.length
  simp only [Array.length_toList] at e
  omega
theorem Inv.list_inj (I:Inv X pins σ H s) (h:SqL X.K H a xs) (h':SqL X.K H a ys):xs=ys:=by
 obtain ⟨its,r,⟨o,n,e,_,_,d⟩,_⟩:=I.list h
 obtain ⟨its',r',⟨o',n',e',_,_,d'⟩,_⟩:=I.list h'
 rw [e] at e';cases e'
 rw [d] at d'
 injection d' with d1 _
 have:its=its':=by simpa using congrArg Array.toList d1
 subst this
 exact r.inj r'
theorem Inv.tuple_inj (I:Inv X pins σ H s) (h:SqT X.K H a xs) (h':SqT X.K H a ys):xs=ys:=by
 obtain ⟨its,r,⟨o,e,_,n,d⟩,_⟩:=I.tuple h
 obtain ⟨its',r',⟨o',e',_,n',d'⟩,_⟩:=I.tuple h'
 rw [e] at e';cases e'
 rw [d] at d'
 injection d' with d1 _
 have:its=its':=by simpa using congrArg Array.toList d1
 subst this
 exact r.inj r'
end
abbrev Cx.wish (X:Cx) (E:Value->Shared->Prop):Cx:={ X with xe:=E }
abbrev Cx.nox (X:Cx):Cx:=X.wish λ_ _=>False
theorem Cx.Ok.wish (ok:X.Ok) (E:Value->Shared->Prop):(X.wish E).Ok :=
 ⟨ok.mod,ok.kind,ok.glob,ok.blt,ok.above,ok.inj,ok.has,ok.cab,ok.hd,ok.frames,ok.stk,ok.exf,ok.bs,ok.bsz,ok.noex,ok.exfs,ok.funs,ok.frf⟩
theorem Cx.Ok.unwish {E:Value->Shared->Prop} (ok:(X.wish E).Ok):X.Ok :=
 ⟨ok.mod,ok.kind,ok.glob,ok.blt,ok.above,ok.inj,ok.has,ok.cab,ok.hd,ok.frames,ok.stk,ok.exf,ok.bs,ok.bsz,ok.noex,ok.exfs,ok.funs,ok.frf⟩
section
variable {X:Cx} {pins:List (Addr × Obj)} {σ:St} {H:Hp} {s:Shared} {E:Value->Shared->Prop}
theorem Inv.wish (I:Inv X pins σ H s) (E:Value->Shared->Prop):Inv (X.wish E) pins σ H s:=⟨I.ok.wish E,I.os,I.bare,I.base,I.loc,I.cell,I.free,I.freeC,I.pin,I.hok,I.len⟩
theorem Inv.unwish (I:Inv (X.wish E) pins σ H s):Inv X pins σ H s:=⟨I.ok.unwish,I.os,I.bare,I.base,I.loc,I.cell,I.free,I.freeC,I.pin,I.hok,I.len⟩
theorem SP.unwish {D:Ends} {f:Flow} {s':Shared} (h:SP (X.wish E) pins D f s'):SP X pins D f s':=by
 cases f with
 | next=>obtain ⟨σ',H',I,q⟩:=h;exact ⟨σ',H',I.unwish,q⟩
 | brk=>obtain ⟨σ',H',I,q⟩:=h;exact ⟨σ',H',I.unwish,q⟩
 | cont=>obtain ⟨σ',H',I,q⟩:=h;exact ⟨σ',H',I.unwish,q⟩
 | ret u=>obtain ⟨v,σ',H',I,r,q⟩:=h;exact ⟨v,σ',H',I.unwish,r,q⟩
theorem PSs.nox {st:List Stmt} {t:TS} (h:PSs X.nox st t):PSs X st t:=λpins s σ H D I hw =>
 wpAny_mono (h pins s σ H D (I.wish _) hw) (λ_ _ q=>q.unwish) λ_ _ z=>False.elim z
end
section
variable {X:Cx} {st:Stmt} {rest:List Stmt} {t u:TS} {e:Expr} {te:TE} {pos:Pos}
def qf:TS:=λD σ H=>D.nx σ H
def iL (t u:TS):TS:=λD σ H=>t { D with nx:=u D } σ H
theorem aK:PSs X [] qf:=λ_ _ σ H _ I h=>wpAny_execs_nil ⟨σ,H,I,h⟩
theorem aj (h1:PS X st t) (h2:PSs X rest u):PSs X (st::rest) (iL t u):=by
 intro pins s σ H D I h
 refine wpAny_execs_cons (thn (h1 pins s σ H { D with nx:=u D } I h) λf s1 q=>?_)
 cases f with
 | next =>
  obtain ⟨σ',H',I',q⟩:=q
  exact h2 pins s1 σ' H' D I' q
 | ret v=>exact q
 | brk=>exact q
 | cont=>exact q
theorem au (h1:PS X st t):PSs X [st] t:=by
 intro pins s σ H D I h
 refine wpAny_execs_cons (thn (h1 pins s σ H D I h) λf s1 q=>?_)
 cases f with
 | next=>exact wpAny_execs_nil q
 | ret v=>exact q
 | brk=>exact q
 | cont=>exact q
theorem Inv.quiet {pins:List (Addr × Obj)} {σ:St} {H:Hp} {s:Shared} (I:Inv X pins σ H s):interactive X.env=false:=by simp [interactive,I.ok.kind]
def qc (te:TE):TS:=λD σ H=>te σ H λ_ H1=>D.nx σ H1
theorem aX (he:PE X e te) (hs:swapsWith e none pos.line X.env=pure false:=by rfl):PS X (.Expr e pos) (qc te):=by
 intro pins s σ H D I h
 exact wpAny_Expr_any (thn (he pins s σ H _ I h) λv s1 ⟨x,H1,I1,r1,q1⟩=>⟨σ,H1,I1,q1⟩) I.quiet hs
def zT (te:TE):TS:=λD σ H=>te σ H D.rt
theorem aG (he:PE X e te):PS X (.Return (some e) pos) (zT te):=by
 intro pins s σ H D I h
 exact wpAny_Return_some (thn (he pins s σ H _ I h) λv s1 ⟨x,H1,I1,r1,q1⟩=>⟨x,σ,H1,I1,r1,q1⟩)
def Cv:TS:=λD _ H=>D.rt .non H
theorem tF:PS X (.Return none pos) Cv:=λ_ _ σ H _ I h=>wpAny_Return_none ⟨.non,σ,H,I,rfl,h⟩
def zS (c:TT) (t u:TS):TS:=λD σ H=>c σ H λb H1=>if b=true then t D σ H1 else u D σ H1
theorem aZ {c:Expr} {a b:List Stmt} {tc:TT} (hc:PT X c tc) (ha:PSs X a t) (hb:PSs X b u):PS X (.If c a b pos) (zS tc t u):=by
 intro pins s σ H D I h
 refine wpAny_If (thn (hc pins s σ H _ I h) λd s1 ⟨H1,I1,q1⟩=>?_)
 cases d with
 | true=>exact ha pins s1 σ H1 D I1 q1
 | false=>exact hb pins s1 σ H1 D I1 q1
end
abbrev TG:=V->St->Hp->(St->Hp->Prop)->Prop
abbrev TGs:=List V->St->Hp->(St->Hp->Prop)->Prop
def PG (X:Cx) (target:Expr) (t:TG):Prop :=
 ∀ (pins:List (Addr × Obj)) (s:Shared) (σ:St) (H:Hp) (v:V) (u:Value) (Q:St->Hp->Prop),Inv X pins σ H s->RelV v u->t v σ H Q ->
  wpAny (model X.prog X.w) X.A (assign target X.env u) (λ_ s'=>∃ σ' H',Inv X pins σ' H' s'/\Q σ' H') X.xe s
def PGs (X:Cx) (ts:List Expr) (t:TGs):Prop :=
 ∀ (pins:List (Addr × Obj)) (s:Shared) (σ:St) (H:Hp) (vs:List V) (us:List Value) (Q:St->Hp->Prop),Inv X pins σ H s->Vals vs us->t vs σ H Q ->
  wpAny (model X.prog X.w) X.A (assignInOrder ((assignEach ts X.env).map (·.2)) us) (λ_ s'=>∃ σ' H',Inv X pins σ' H' s'/\Q σ' H') X.xe s
abbrev vA:=V->V->V->Hp->(Hp->Prop)->Prop
def AI (X:Cx) (t:vA):Prop :=
 ∀ (pins:List (Addr × Obj)) (s:Shared) (σ:St) (H:Hp) (o i v:V) (ov iv u:Value) (Q:Hp->Prop),Inv X pins σ H s->RelV o ov->RelV i iv->RelV v u->t o i v H Q ->
  wpAny (model X.prog X.w) X.A (setItem ov iv u) (λ_ s'=>∃ H',Inv X pins σ H' s'/\Q H') X.xe s
abbrev TIp:=V->V->Hp->VK->Prop
def PIp (X:Cx) (op:Operator) (t:TIp):Prop :=
 ∀ (pins:List (Addr × Obj)) (s:Shared) (σ:St) (H:Hp) (x y:V) (v u:Value) (Q:VK),Inv X pins σ H s->RelV x v->RelV y u->t x y H Q ->
  wpAny (model X.prog X.w) X.A (inplaceOp op v u) (EP X pins σ Q) X.xe s
section
variable {X:Cx} {pos:Pos}
def bC (i:Nat):TG:=λv σ H Q=>Q (σ.set i (some v)) H
variable {i:Nat} {x:Str}
theorem aM (hN:X.N.Nodup) (hi:X.N[i]?=some x) (hx:Loc X.env.scope x) (hf:X.fn x=true\/X.env.scope.names.lookup x=some .local:=by first | exact .inl rfl | exact .inr rfl | assumption):PG X (.Name x pos) (bC i):=by
 intro pins s σ H v u Q I r h
 exact wpAny_assign_Name (fU I hN hi hx r (λs' I'=>⟨_,H,I',h⟩) hf)
def ui:TGs:=λvs σ H Q=>vs=[]/\Q σ H
def fz (t:TG) (u:TGs):TGs:=λvs σ H Q=>∃ v r,vs=v::r/\t v σ H λσ' H'=>u r σ' H' Q
theorem dF:PGs X [] ui:=by
 intro pins s σ H vs us Q I r h
 obtain ⟨e,h⟩:=h
 subst e
 cases r
 exact assignInOrder_nil ⟨σ,H,I,h⟩
variable {e:Expr} {es:List Expr}
theorem bf {t:TG} {u:TGs} (h1:PG X e t) (h2:PGs X es u)
  (hs:(assignEach (e::es) X.env).map (·.2)=assign e X.env::(assignEach es X.env).map (·.2):=by rfl):PGs X (e::es) (fz t u):=by
 intro pins s σ H vs us Q I r h
 obtain ⟨v,vr,e1,h⟩:=h
 subst e1
 cases r with
 | cons r rr =>
  rw [hs]
  refine assignInOrder_cons (thn (h1 pins s σ H _ _ _ I r h) λ_ s1 ⟨σ1,H1,I1,q1⟩=>?_)
  exact h2 pins s1 σ1 H1 _ _ Q I1 rr q1
def qL (K:PySem.W.Frag) (n:Nat) (t:TGs):TG:=λv σ H Q=>∃ a xs,v=.ref a/\SqT K H a xs/\xs.length=n/\t xs σ H Q
theorem fj {k:Nat} {t:TGs} {n:Nat} (hc:X.calm=true) (h:PGs X es t)
  (hn:(assignEach es X.env).length=n:=by rfl) (hst:(assignEach es X.env).findIdx? (·.1)=none:=by rfl):PG X (.Tuple es k pos) (qL X.K n t):=by
 intro pins s σ H v u Q I r hw
 obtain ⟨a,xs,e1,hq,hl,hw⟩:=hw
 subst e1
 cases r
 obtain ⟨its,rv,ht,hz⟩:=I.tuple hq
 refine assign_Tuple_tuple (I.ok.hd hc) ht (by simp [hn,← hl,rv.length]) hst λh' hx=>?_
 have I1:Inv X pins σ H { s with heap:=h' }:=I.kept (t':=s.toks) λb o e=>hx b o (Nat.ne_of_lt (Heap.lt_size e)) e
 exact h pins _ σ H xs _ Q I1 (by simpa using rv) hw
def CL (to ti:TE) (t:vA):TG:=λv σ H Q=>to σ H λo H1=>ti σ H1 λi H2=>t o i v H2 λH3=>Q σ H3
variable {o:Expr} {to ti:TE}
theorem xc {i:Expr} {t:vA} (ho:PE X o to) (hi:PE X i ti) (hs:AI X t)
  (ha:∀ v,assign (.Subscript o i pos) X.env v=(do
   let ov ← holding [v] (eval o X.env)
   let iv ← holding [v,ov] (eval i X.env)
   standAt pos
   holding [v,ov,iv] (setItem ov iv v)
   release [v,ov,iv] []):=by intro _;rfl):PG X (.Subscript o i pos) (CL to ti t):=by
 intro pins s σ H v u Q I r h
 rw [ha]
 refine wpAny_bind (wpAny_holding (thn (ho pins s σ H _ I h) λov s1 ⟨x,H1,I1,r1,q1⟩=>?_))
 refine wpAny_bind (wpAny_holding (thn (hi pins s1 σ H1 _ I1 q1) λiv s2 ⟨y,H2,I2,r2,q2⟩=>?_))
 refine wpAny_bind (wpAny_standAt (wpAny_bind (wpAny_holding (thn (hs pins s2 σ H2 x y v ov iv u _ I2 r1 r2 r q2) λ_ s3 ⟨H3,I3,q3⟩=>?_))))
 exact wpAny_release ⟨σ,H3,I3,q3⟩
def jn (te:TE) (g:TG):TS:=λD σ H=>te σ H λx H1=>g x σ H1 D.nx
variable {te:TE}
theorem dY {tg:Expr} {g:TG} (he:PE X e te) (hg:PG X tg g) (hs:swapsWithSole [tg] e pos.line X.env=pure false:=by rfl) (hw:swappedStores [tg] e X.env=pure none:=by rfl)
  (h1:(assignEach [tg] X.env).map (·.2)=[assign tg X.env]:=by rfl):PS X (.Assign [tg] e pos) (jn te g):=by
 intro pins s σ H D I h
 refine wpAny_Assign_stores (thn (he pins s σ H _ I h) λv s1 ⟨x,H1,I1,r1,q1⟩=>?_) hs hw
 rw [h1]
 exact thn (hg pins s1 σ H1 x v _ I1 r1 q1) λ_ s2 q=>q
variable {pos':Pos}
theorem bq (hN:X.N.Nodup) (hi:X.N[i]?=some x) (hx:Loc X.env.scope x) (he:PE X e te) (hs:swapsWith e (some (.Name x pos')) pos.line X.env=pure false:=by rfl) (hf:X.fn x=true\/X.env.scope.names.lookup x=some .local:=by first | exact .inl rfl | exact .inr rfl | assumption) :
  PS X (.Assign [.Name x pos'] e pos) (jn te (bC i)):=by
 intro pins s σ H D I h
 refine wpAny_Assign_Name (thn (he pins s σ H _ I h) λv s1 ⟨y,H1,I1,r1,q1⟩=>?_) hs
 exact fU I1 hN hi hx r1 (λs2 I2=>⟨_,H1,I2,q1⟩) hf
def CY (i j:Nat) (ta:TA):TS:=λD σ H=>ta σ H λvs H1=>∃ v w,vs=[v,w]/\D.nx ((σ.set i (some v)).set j (some w)) H1
theorem Bt {j:Nat} {y:Str} {a b:Expr} {ta:TA} {px py pt:Pos} {kt k2 pt2} (hc:X.calm=true) (hN:X.N.Nodup) (hi:X.N[i]?=some x) (hj:X.N[j]?=some y) (hij:i≠j)
  (hx:X.env.scope.names.lookup x=some .local) (hy:X.env.scope.names.lookup y=some .local) (ha:PA X [a,b] ta)
  (hw:swappedStores [.Tuple [.Name x px,.Name y py] kt pt] (.Tuple [a,b] k2 pt2) X.env=pure (some [x,y]))
  (hs:swapsWithSole [.Tuple [.Name x px,.Name y py] kt pt] (.Tuple [a,b] k2 pt2) pos.line X.env=pure false:=by rfl) :
  PS X (.Assign [.Tuple [.Name x px,.Name y py] kt pt] (.Tuple [a,b] k2 pt2) pos) (CY i j ta):=by
 intro pins s σ H D I h
 rw [exec_Assign_arm]
 refine wpAny_bind (wpAny_standAt ?_)
 rw [hs]
 refine wpAny_bind (wpAny_pure ?_)
 rw [if_neg (by decide)]
 refine wpAny_bind (Tuple_ (thn (ha _ pins s σ H _ I h) λus s1 ⟨vs,H1,I1,r1,q1⟩=>?_))
 obtain ⟨v,w,e1,q1⟩:=q1
 subst e1
 obtain ⟨u1,u2,rfl,rv,rw'⟩:∃ u1 u2,us=[u1,u2]/\RelV v u1/\RelV w u2:=by
  cases r1 with
  | cons p q =>
   cases q with
   | cons p' q' =>
    cases q'
    exact ⟨_,_,rfl,p,p'⟩
 refine wpAny_newObj_type ?_ (by show 2≤sizeLine;decide)
 have I2:Inv X pins σ H1 { s1 with heap:=s1.heap.push { cls:=.type "tuple",data:=.seq [u1,u2].toArray } }:=I1.kept (t':=s1.toks) λb o e=>Heap.get?_push_of_some _ e
 rw [hw]
 refine wpAny_bind (wpAny_pure ?_)
 show wpAny (model X.prog X.w) X.A (do rule "assign.swapped-stores";let items ← unpackItems (.ref s1.heap.objs.size) 2 none;assignInOrder [λv=>bindName X.env y v,λv=>bindName X.env x v] items.reverse;pure Flow.next) _ _ _
 refine wpAny_bind (wpAny_rule (wpAny_bind (unpackItems_tuple (items:=#[u1,u2]) (I.ok.hd hc) (IsTup.new s1.heap _) λh' hx'=>?_)))
 have I3:=I2.kept (h':=h') (t':=s1.toks) λb o e=>hx' b o (Nat.ne_of_lt (Heap.lt_size e)) e
 show wpAny _ _ (assignInOrder [λv=>bindName X.env y v,λv=>bindName X.env x v] [u2,u1] >>= λ_=>pure Flow.next) _ _ _
 refine wpAny_bind (assignInOrder_cons (wpAny_bindName (fU I3 hN hj (.inl hy) rw' (λs2 I4=>?_) (.inr hy))))
 refine assignInOrder_cons (wpAny_bindName (fU I4 hN hi (.inl hx) rv (λs3 I5=>assignInOrder_nil (wpAny_pure ?_)) (.inr hx)))
 rw [List.set_comm _ _ (Ne.symm hij)] at I5
 exact ⟨_,H1,I5,q1⟩
def CV (i:Nat) (te:TE) (ti:TIp):TS:=λD σ H=>∃ x,σ[i]?=some (some x)/\te σ H λy H1=>ti x y H1 λz H2=>D.nx (σ.set i (some z)) H2
variable {op:Operator}
theorem xk {ti:TIp} (hN:X.N.Nodup) (hi:X.N[i]?=some x) (hx:Loc X.env.scope x) (he:PE X e te) (ho:PIp X op ti) (hf:X.fn x=true\/X.env.scope.names.lookup x=some .local:=by first | exact .inl rfl | exact .inr rfl | assumption) :
  PS X (.AugAssign (.Name x pos') op e pos) (CV i te ti):=by
 intro pins s σ H D I h
 obtain ⟨v,e1,h⟩:=h
 obtain ⟨m,hn,hl⟩:=I.loc
 have vis:Vis X.env.scope x:=by rcases hx with k | k;exact .inl k;exact .inr (.inl k)
 obtain ⟨u,r,l⟩:=hl i x v hi e1 vis
 refine wpAny_AugAssign_Name ?_
 have go:wpAny (model X.prog X.w) X.A (eval e X.env) (λw s₂=>wpAny (model X.prog X.w) X.A (inplaceOp op u w) (λr s₃=>wpAny (model X.prog X.w) X.A (storeName X.env x r) (λ_=>SP X pins D .next) X.xe s₃) X.xe s₂) X.xe s:=by
  refine thn (he pins s σ H _ I h) λw s1 ⟨y,H1,I1,r1,q1⟩=>?_
  refine thn (ho pins s1 σ H1 v y u w _ I1 r r1 q1) λz s2 ⟨zv,H2,I2,r2,q2⟩=>?_
  exact fU I2 hN hi hx r2 (λs3 I3=>⟨_,H2,I3,q2⟩) hf
 rcases l with ⟨hk,hm⟩ | ⟨hk,c,hc,hcell⟩
 ·exact wpAny_loadName_local I.ok.kind hk hn hm go
 ·rcases hk with hk | hk
  ·exact wpAny_loadName_cell I.ok.kind hk hc hcell go
  ·rcases hx with k | k
   ·have:X.env.scope.names.lookup x=some .free:=hk
    rw [k] at this;cases this
   ·have:X.env.scope.names.lookup x=some .free:=hk
    rw [k] at this;cases this
def Cp (to ti te:TE) (tget:V->V->Hp->VK->Prop) (tip:TIp) (tset:vA):TS:=λD σ H=>to σ H λo H1=>ti σ H1 λi H2=>tget o i H2 λx H3=>te σ H3 λy H4=>tip x y H4 λz H5=>tset o i z H5 λH6=>D.nx σ H6
def BV (X:Cx) (t:V->V->Hp->VK->Prop):Prop :=
 ∀ (pins:List (Addr × Obj)) (s:Shared) (σ:St) (H:Hp) (o i:V) (ov iv:Value) (Q:VK),Inv X pins σ H s->RelV o ov->RelV i iv->t o i H Q ->
  wpAny (model X.prog X.w) X.A (getItem ov iv) (EP X pins σ Q) X.xe s
theorem zq {i:Expr} {tget:V->V->Hp->VK->Prop} {tip:TIp} {tset:vA} {tpos:Pos} (ho:PE X o to) (hi:PE X i ti) (hg:BV X tget) (he:PE X e te) (hp:PIp X op tip) (hs:AI X tset)
  (ha:∀ ov iv new,augStore i ov iv new=(do holding [new,ov,iv] (setItem ov iv new);release [new,ov,iv] [];pure .next):=by intros;rfl):PS X (.AugAssign (.Subscript o i tpos) op e pos) (Cp to ti te tget tip tset):=by
 intro pins s σ H D I h
 refine wpAny_AugAssign_SubscriptAny (thn (ho pins s σ H _ I h) λov s1 ⟨x1,H1,I1,r1,q1⟩=>?_) ha
 refine thn (hi pins s1 σ H1 _ I1 q1) λiv s2 ⟨x2,H2,I2,r2,q2⟩=>?_
 refine thn (hg pins s2 σ H2 x1 x2 ov iv _ I2 r1 r2 q2) λold s3 ⟨x3,H3,I3,r3,q3⟩=>?_
 refine thn (he pins s3 σ H3 _ I3 q3) λv s4 ⟨x4,H4,I4,r4,q4⟩=>?_
 refine thn (hp pins s4 σ H4 x3 x4 old v _ I4 r3 r4 q4) λnew s5 ⟨x5,H5,I5,r5,q5⟩=>?_
 exact thn (hs pins s5 σ H5 x1 x2 x5 ov iv new _ I5 r1 r2 r5 q5) λ_ s6 ⟨H6,I6,q6⟩=>⟨σ,H6,I6,q6⟩
def ipI (f:Int->Int->Int):TIp:=λx y H Q=>∃ i j,x=.int i/\y=.int j/\Q (.int (f i j)) H
theorem qP:PIp X .Add (ipI λi j=>i+j):=by
 intro pins s σ H x y v u Q I r1 r2 h
 obtain ⟨i,j,e1,e2,q⟩:=h
 subst e1;subst e2
 obtain ⟨t,rfl⟩:=r1
 obtain ⟨t',rfl⟩:=r2
 exact iadd_int ⟨.int _,H,I.tok _,⟨_,rfl⟩,q⟩
def oE (c:TT) (tb:TS):TS:=λD σ H=>∃ W:Nat->St->Hp->Prop,(∃ m,W m σ H)/\∀ m σ H,W m σ H ->
 c σ H λb H1=>if b=true then ∃ N:St->Hp->Prop,(∀ σ' H',N σ' H'->∃ m',m' < m/\W m' σ' H')/\tb { D with nx:=N,ct:=N,bk:=D.nx } σ H1 else D.nx σ H1
theorem lF {c:Expr} {body:List Stmt} {tc:TT} {tb:TS} (hp:PassesOwn (model X.prog X.w) X.A X.env X.xe) (hc:PT X c tc) (hb:PSs X body tb):PS X (.While c body [] pos) (oE tc tb):=by
 intro pins s σ H D I h
 obtain ⟨W,⟨m0,w0⟩,turn⟩:=h
 refine wpAny_While (codeAny_whileLoop (λn s'=>∃ σ' H',Inv X pins σ' H' s'/\W n σ' H') ?_ m0 ⟨σ,H,I,w0⟩)
 rintro n s1 ⟨σ1,H1,I1,w1⟩
 refine wpAny_passesOwn hp (thn (hc pins s1 σ1 H1 _ I1 (turn n σ1 H1 w1)) λb s2 ⟨H2,I2,q2⟩=>?_)
 cases b with
 | true =>
  obtain ⟨N,hN,q2⟩:=q2
  rw [if_pos rfl]
  refine wpAny_passesOwn hp (thn (hb pins s2 σ1 H2 _ I2 q2) λf s3 q3=>?_)
  cases f with
  | next =>
   obtain ⟨σ3,H3,I3,n3⟩:=q3
   obtain ⟨m',hm,w3⟩:=hN σ3 H3 n3
   exact ⟨m',hm,σ3,H3,I3,w3⟩
  | cont =>
   obtain ⟨σ3,H3,I3,n3⟩:=q3
   obtain ⟨m',hm,w3⟩:=hN σ3 H3 n3
   exact ⟨m',hm,σ3,H3,I3,w3⟩
  | brk=>exact q3
  | ret v=>exact q3
 | false =>
  rw [if_neg Bool.false_ne_true]
  exact wpAny_execs_nil ⟨σ1,H2,I2,q2⟩
end
structure It where
 go:Nat->Hp->Prop
 yld:Nat->Hp->V->Hp->Prop
 stop:Nat->Hp->Prop
def gx (X:Cx) (pins:List (Addr × Obj)) (H:Hp) (b:Addr):Prop :=
 H b=none/\b≠X.env.locals/\b ∉ X.fs/\(b ∈ X.ex\/X.s₀.heap.objs.size≤b)/\(∀ x c,X.env.cells.lookup x=some c->c≠b)/\∀ p ∈ X.pn++pins,p.1≠b
variable {σ:St}
theorem Inv.fpOk {pins:List (Addr × Obj)} {H':Hp} (I:Inv X pins σ H s) (hb:s.heap.objs.size≤b) (hn:H' b=none):gx X pins H' b:=by
 refine ⟨hn,Nat.ne_of_gt (Nat.lt_of_lt_of_le I.lt hb),I.nofs hb,.inr (Nat.le_trans I.sz hb),λx c e z=>?_,λp hp z=>?_⟩
 ·obtain ⟨v,q⟩:=I.cell x c e
  exact absurd (Nat.lt_of_lt_of_le q.lt (by rw [z];exact hb)) (Nat.lt_irrefl _)
 ·exact absurd (Nat.lt_of_lt_of_le (Heap.lt_size (I.pin p hp).1) (by rw [z];exact hb)) (Nat.lt_irrefl _)
structure j2 (P:Program) (w:World) (K:PySem.W.Frag) (tg:Expr) (J:It) (fp:List Addr) (it:Addr) (tn:Nat->Heap->Prop):Prop where
 mem:it ∈ fp
 obj:∀ i h,tn i h->∀ b ∈ fp,∃ o,h.get? b=some o/\∀ v,o.data≠.cell v
 keep:∀ i h h',tn i h->(∀ b ∈ fp,∀ o,h.get? b=some o->h'.get? b=some o)->tn i h'
 item:∀ (X:Cx),X.prog=P->X.w=w->X.K=K->X.calm=true->∀ (i:Nat) (pins:List (Addr × Obj)) (s:Shared) (σ:St) (H:Hp) (E:Value->Shared->Prop),Inv X pins σ H s->(∀ b ∈ fp,gx X pins H b)->tn i s.heap->J.go i H ->
  wpAny (model P w) X.A (pyNext (.ref it)) (λr s1=>∃ u,r=some u /\
   wpAny (model P w) X.A (letOwnedTupleGo tg (.ref it) u) (λ_ s2=>∃ x H',Inv X pins σ H' s2/\RelV x u/\J.yld i H x H'/\tn (i+1) s2.heap/\∀ b ∈ fp,H' b=none) E s1) E s
 done:∀ (X:Cx),X.prog=P->X.w=w->X.K=K->X.calm=true->∀ (i:Nat) (pins:List (Addr × Obj)) (s:Shared) (σ:St) (H:Hp) (E:Value->Shared->Prop),Inv X pins σ H s->(∀ b ∈ fp,gx X pins H b)->tn i s.heap->J.stop i H ->
  wpAny (model P w) X.A (pyNext (.ref it)) (λr s1=>r=none/\Inv X pins σ H s1) E s
 self:∀ (A:Around) (i:Nat) (s:Shared) (Q:Value->Shared->Prop) (E:Value->Shared->Prop),tn i s.heap->Q (.ref it) s->wpAny (model P w) A (pyIter (.ref it)) Q E s
abbrev TI:=St->Hp->(It->Hp->Prop)->Prop
def PIE (X:Cx) (pins:List (Addr × Obj)) (σ:St) (tg:Expr) (R:It->Hp->Prop) (itv:Value) (s2:Shared):Prop :=
 ∃ (it:Addr) (fp:List Addr) (tn:Nat->Heap->Prop) (J:It) (H':Hp),itv=.ref it/\Inv X pins σ H' s2/\j2 X.prog X.w X.K tg J fp it tn/\tn 0 s2.heap/\(∀ b ∈ fp,gx X pins H' b)/\R J H'
def PI (X:Cx) (tg iter:Expr) (wi:TI):Prop :=
 ∀ (pins:List (Addr × Obj)) (s:Shared) (σ:St) (H:Hp) (R:It->Hp->Prop),Inv X pins σ H s->wi σ H R ->
  wpAny (model X.prog X.w) X.A (eval iter X.env) (λv s1=>wpAny (model X.prog X.w) X.A (pyIter v) (PIE X pins σ tg R) X.xe s1) X.xe s
variable {tg:Expr}
theorem pf {E:Value->Shared->Prop} {it:Addr} {n:String} {vs:Array Value} {Q:Unit->Shared->Prop} (ho:s.heap.get? it=some o) (hc:o.cls=.type n) (hd:o.data=.fields vs)
  (hn:["enumerate","zip","dict_itemiterator","dict_reverseitemiterator","odict_iterator","itertools.zip_longest","itertools.pairwise"].contains n=false) (hQ:Q () s):wpAny M A (letOwnedTupleGo tg (.ref it) u) Q E s:=by
 unfold letOwnedTupleGo
 cases tg <;> first
  | exact wpAny_pure hQ
  | (cases u <;> first
    | exact wpAny_pure hQ
    | (refine wpAny_bind (wpAny_load ho ?_)
       rw [hc,hd]
       show wpAny M A (if (["enumerate","zip","dict_itemiterator","dict_reverseitemiterator","odict_iterator","itertools.zip_longest","itertools.pairwise"].contains n && vs[0]? == some (rawInt _))=true then _ else _) Q E s
       rw [if_neg (by intro h;rw [hn,Bool.false_and] at h;cases h)]
       exact wpAny_pure hQ))
def Itl (K:PySem.W.Frag) (a:Addr):It :=
 ⟨λi H=>∃ xs x,SqL K H a xs/\xs[i]?=some x,λi H x H'=>H'=H/\∀ xs,SqL K H a xs->xs[i]?=some x,λi H=>∃ xs,SqL K H a xs/\xs.length≤i⟩
def Itt (K:PySem.W.Frag) (a:Addr):It :=
 ⟨λi H=>∃ xs x,SqT K H a xs/\xs[i]?=some x,λi H x H'=>H'=H/\∀ xs,SqT K H a xs->xs[i]?=some x,λi H=>∃ xs,SqT K H a xs/\xs.length≤i⟩
def Itr (lo:Int) (n:Nat):It:=⟨λi _=>i < n,λi H x H'=>H'=H/\x=.int (lo+i),λi _=>n≤i⟩
variable {K:PySem.W.Frag}
theorem uZ (a it:Addr):j2 P w K tg (Itl K a) [it] it (λi h=>h.IsListIter it a i) where
 mem:=by simp
 obj:=λi h st b hb=>by
  have e:b=it:=by simpa using hb
  subst e
  obtain ⟨o,e,c,d⟩:=st
  exact ⟨o,e,λv z=>by rw [d] at z;cases z⟩
 keep:=λi h h' st k=>st.at λo e=>k it (by simp) o e
 item:=by
  intro X hP hw hK hc i pins s σ H E I hf st hg
  subst hP hw hK
  obtain ⟨xs,x,hq,hx⟩:=hg
  obtain ⟨its,rv,p,hz⟩:=I.list hq
  obtain ⟨u,hu,ru⟩:=rv.get hx
  obtain ⟨f0,f1,f2,f3,f4,f5⟩:=hf it (by simp)
  refine wpAny_pyNext_list_item st p.isList (x:=u) (by simpa using hu) λh' st' sb=>?_
  have I1:Inv X pins σ H { s with heap:=h' }:=I.turned (t':=s.toks) (λb o hb e=>(sb.2 b hb).trans e) f0 f1 f3 f4 f5
  obtain ⟨o,e,c,d⟩:=id st'
  exact ⟨u,rfl,pf (s:={ s with heap:=h' }) e c d (by decide) ⟨x,H,I1,ru,⟨rfl,λys hy=>by rw [I.list_inj hy hq];exact hx⟩,st',λb hb=>(hf b hb).1⟩⟩
 done:=by
  intro X hP hw hK hc i pins s σ H E I hf st hg
  subst hP hw hK
  obtain ⟨xs,hq,hx⟩:=hg
  obtain ⟨its,rv,p,hz⟩:=I.list hq
  obtain ⟨f0,f1,f2,f3,f4,f5⟩:=hf it (by simp)
  have hl:=rv.length
  exact wpAny_pyNext_list_end (I.ok.hd hc) st p.isList (by simp;omega) λh' eb=>⟨rfl,I.turned (t':=s.toks) (λb o hb e=>eb b o hb e) f0 f1 f3 f4 f5⟩
 self:=λ_ _ _ _ _ st h=>wpAny_pyIter_listiter st h
theorem sj (a it:Addr):j2 P w K tg (Itt K a) [it] it (λi h=>h.IsTupleIter it a i) where
 mem:=by simp
 obj:=λi h st b hb=>by
  have e:b=it:=by simpa using hb
  subst e
  obtain ⟨o,e,c,d⟩:=st
  exact ⟨o,e,λv z=>by rw [d] at z;cases z⟩
 keep:=λi h h' st k=>st.at λo e=>k it (by simp) o e
 item:=by
  intro X hP hw hK hc i pins s σ H E I hf st hg
  subst hP hw hK
  obtain ⟨xs,x,hq,hx⟩:=hg
  obtain ⟨its,rv,p,hz⟩:=I.tuple hq
  obtain ⟨u,hu,ru⟩:=rv.get hx
  obtain ⟨f0,f1,f2,f3,f4,f5⟩:=hf it (by simp)
  refine wpAny_pyNext_tuple_item st (show s.heap.IsTuple a its.toArray from p) (x:=u) (by simpa using hu) λh' st' sb=>?_
  have I1:Inv X pins σ H { s with heap:=h' }:=I.turned (t':=s.toks) (λb o hb e=>(sb.2 b hb).trans e) f0 f1 f3 f4 f5
  obtain ⟨o,e,c,d⟩:=id st'
  exact ⟨u,rfl,pf (s:={ s with heap:=h' }) e c d (by decide) ⟨x,H,I1,ru,⟨rfl,λys hy=>by rw [I.tuple_inj hy hq];exact hx⟩,st',λb hb=>(hf b hb).1⟩⟩
 done:=by
  intro X hP hw hK hc i pins s σ H E I hf st hg
  subst hP hw hK
  obtain ⟨xs,hq,hx⟩:=hg
  obtain ⟨its,rv,p,hz⟩:=I.tuple hq
  obtain ⟨f0,f1,f2,f3,f4,f5⟩:=hf it (by simp)
  have hl:=rv.length
  exact wpAny_pyNext_tuple_end (I.ok.hd hc) st (show s.heap.IsTuple a its.toArray from p) (by simp;omega) λh' eb=>⟨rfl,I.turned (t':=s.toks) (λb o hb e=>eb b o hb e) f0 f1 f3 f4 f5⟩
 self:=λ_ _ _ _ _ st h=>wpAny_pyIter_tupleiter st h
theorem si (it:Addr) (lo:Int) (n:Nat):j2 P w K tg (Itr lo n) [it] it (λi h=>IsRangeIter h it (lo+(i:Nat) * 1) ((n:Int) - (i:Nat)) 1) where
 mem:=by simp
 obj:=λi h st b hb=>by
  have e:b=it:=by simpa using hb
  subst e
  exact ⟨_,st,λv z=>by
   have z':Data.fields _=Data.cell v:=z
   cases z'⟩
 keep:=λi h h' st k=>k it (by simp) _ st
 item:=by
  intro X hP hw hK hc i pins s σ H E I hf st hg
  subst hP hw hK
  obtain ⟨f0,f1,f2,f3,f4,f5⟩:=hf it (by simp)
  have W:=Walks.range (prog:=X.prog) (w:=X.w) (I.ok.hd hc) it lo 1 n
  refine W.item i s _ _ hg st λv h' tk hv st' kk=>?_
  obtain ⟨t,rfl⟩:=hv
  have I1:Inv X pins σ H { s with heap:=h',toks:=tk }:=I.turned (λb o hb e=>kk b o (by simpa using hb) e) f0 f1 f3 f4 f5
  refine ⟨_,rfl,pf (s:={ s with heap:=h',toks:=tk }) (n:="range_iterator") st' rfl rfl (by decide) ⟨.int (lo+i),H,I1,⟨t,?_⟩,⟨rfl,rfl⟩,st',λb hb=>(hf b hb).1⟩⟩
  rw [Int.mul_one]
 done:=by
  intro X hP hw hK hc i pins s σ H E I hf st hg
  subst hP hw hK
  obtain ⟨f0,f1,f2,f3,f4,f5⟩:=hf it (by simp)
  exact wpAny_pyNext_range_end (I.ok.hd hc) st (by have:n≤i:=hg;omega) λh' eb=>⟨rfl,I.turned (t':=s.toks) (λb o hb e=>eb b o hb e) f0 f1 f3 f4 f5⟩
 self:=λ_ _ _ _ _ st h=>wpAny_pyIter_rangeiter st h
section
variable {X:Cx} {tg:Expr}
def kK (K:PySem.W.Frag) (tl:TE):TI:=λσ H R=>tl σ H λx H1=>∃ a,x=.ref a/\(∃ xs,SqL K H1 a xs)/\R (Itl K a) H1
def wA (K:PySem.W.Frag) (tl:TE):TI:=λσ H R=>tl σ H λx H1=>∃ a,x=.ref a/\(∃ xs,SqT K H1 a xs)/\R (Itt K a) H1
variable {l:Expr} {tl:TE}
theorem di (hl:PE X l tl):PI X tg l (kK X.K tl):=by
 intro pins s σ H R I h
 refine thn (hl pins s σ H _ I h) λv s1 ⟨x,H1,I1,r1,q1⟩=>?_
 obtain ⟨a,e,⟨xs,hq⟩,q⟩:=q1
 subst e
 cases r1
 obtain ⟨its,rv,p,hz⟩:=I1.list hq
 refine wpAny_pyIter_list p.isList ?_
 refine ⟨s1.heap.objs.size,[s1.heap.objs.size],_,_,H1,rfl,I1.kept (t':=s1.toks) λb o e=>Heap.get?_push_of_some _ e,uZ a _,⟨_,Heap.get?_push_size _ rfl,rfl,rfl⟩,λb hb=>?_,q⟩
 have e:b=s1.heap.objs.size:=by simpa using hb
 subst e
 exact I1.fpOk (Nat.le_refl _) (I1.hok.fresh (Nat.le_refl _))
theorem jH (hl:PE X l tl):PI X tg l (wA X.K tl):=by
 intro pins s σ H R I h
 refine thn (hl pins s σ H _ I h) λv s1 ⟨x,H1,I1,r1,q1⟩=>?_
 obtain ⟨a,e,⟨xs,hq⟩,q⟩:=q1
 subst e
 cases r1
 obtain ⟨its,rv,p,hz⟩:=I1.tuple hq
 refine wpAny_pyIter_tuple (show s1.heap.IsTuple a its.toArray from p) ?_
 refine ⟨s1.heap.objs.size,[s1.heap.objs.size],_,_,H1,rfl,I1.kept (t':=s1.toks) λb o e=>Heap.get?_push_of_some _ e,sj a _,⟨_,Heap.get?_push_size _ rfl,rfl,rfl⟩,λb hb=>?_,q⟩
 have e:b=s1.heap.objs.size:=by simpa using hb
 subst e
 exact I1.fpOk (Nat.le_refl _) (I1.hok.fresh (Nat.le_refl _))
variable {pins:List (Addr × Obj)} {σ:St} {H:Hp} {s:Shared}
theorem xy {R:It->Hp->Prop} {E:Value->Shared->Prop} {lo hi:Int} {t u v:Tok} {tk:Nat} (I:Inv X pins σ H s) (h1:-(2 ^ 62)≤lo) (h2:lo < 2 ^ 62) (h3:-(2 ^ 62)≤hi) (h4:hi < 2 ^ 62)
  (q:R (Itr lo (hi - lo).toNat) H):wpAny (model X.prog X.w) X.A (pyIter (.ref s.heap.objs.size)) (PIE X pins σ tg R) E { s with heap:=s.heap.push { cls:=.type "range",data:=.fields #[.int lo t,.int hi u,.int 1 v] },toks:=tk }:=by
 refine wpAny_pyIter_range (IsRange.new ..) (small_one h1 h2 h3 h4) ?_
 have I1:Inv X pins σ H { s with heap:=s.heap.push { cls:=.type "range",data:=.fields #[.int lo t,.int hi u,.int 1 v] },toks:=tk }:=I.kept λb o e=>Heap.get?_push_of_some _ e
 refine ⟨(s.heap.push { cls:=.type "range",data:=.fields #[.int lo t,.int hi u,.int 1 v] }).objs.size,[(s.heap.push { cls:=.type "range",data:=.fields #[.int lo t,.int hi u,.int 1 v] }).objs.size],_,_,H,rfl,
  I1.kept (t':=tk) λb o e=>Heap.get?_push_of_some _ e,si _ lo (hi - lo).toNat,?_,λb hb=>?_,q⟩
 ·have e1:lo+((0:Nat):Int) * 1=lo:=by simp
  have e2:(((hi - lo).toNat:Nat):Int) - ((0:Nat):Int)=Builtin.Range.rangeSize lo hi 1:=by rw [rangeSize_one];split <;> omega
  show IsRangeIter _ _ (lo+((0:Nat):Int) * 1) ((((hi - lo).toNat:Nat):Int) - ((0:Nat):Int)) 1
  rw [e1,e2]
  exact Heap.get?_push_size _ rfl
 ·have e:b=(s.heap.push { cls:=.type "range",data:=.fields #[.int lo t,.int hi u,.int 1 v] }).objs.size:=by simpa using hb
  subst e
  exact I1.fpOk (Nat.le_refl _) (I1.hok.fresh (Nat.le_refl _))
def Ah (ta:TA):TI:=λσ H R=>ta σ H λvs H1=>∃ j:Int,vs=[.int j]/\-(2 ^ 62)≤j/\j < 2 ^ 62/\R (Itr 0 j.toNat) H1
variable {pos:Pos}
theorem jG {a:Expr} {ta:TA} {p:Pos} (hg:Gl X "range") (hm:X.mg "range"=none) (ha:PA X [a] ta) (hs:starEach [a] X.env=[(false,eval a X.env)]:=by rfl):PI X tg (.Call (.Name "range" p) [a] [] pos) (Ah ta):=by
 intro pins s σ H R I h
 refine Call_ (kQ I hg hm boot_range (PyProof.Rows.callWith_type1 (thn (ha pos pins s σ H _ I h) λus s1 ⟨vs,H1,I1,r1,q1⟩=>?_) hs rfl))
 obtain ⟨j,e,q1,q2,q⟩:=q1
 subst e
 cases r1 with
 | cons r rr =>
  cases rr
  obtain ⟨t,rfl⟩:=r
  exact call_range_1 (xy I1 (by omega) (by omega) q1 q2 (by simpa using q))
def CW (wi:TI) (g:TG) (tb:TS):TS:=λD σ H=>wi σ H λJ H1=>∃ W:Nat->Nat->St->Hp->Prop,(∃ m,W 0 m σ H1)/\∀ i m σ H,W i m σ H ->
 (J.stop i H/\D.nx σ H)\/(J.go i H/\∃ N:St->Hp->Prop,(∀ σ' H',N σ' H'->∃ m',m' < m/\W (i+1) m' σ' H')/\∀ x H',J.yld i H x H'->g x σ H' λσ2 H2=>tb { D with nx:=N,ct:=N,bk:=D.nx } σ2 H2)
def iH (fp:List Addr) (h:Heap):List (Addr × Obj):=fp.filterMap λb=>(h.get? b).map λo=>(b,o)
variable {fp:List Addr}
theorem cu {h:Heap} {b:Addr} {o:Obj} (hb:b ∈ fp) (e:h.get? b=some o):(b,o) ∈ iH fp h:=List.mem_filterMap.mpr ⟨b,hb,by rw [e];rfl⟩
theorem uD {h:Heap} {p:Addr × Obj} (hp:p ∈ iH fp h):p.1 ∈ fp/\h.get? p.1=some p.2:=by
 obtain ⟨b,hb,e⟩:=List.mem_filterMap.mp hp
 cases q:h.get? b with
 | none=>rw [q] at e;cases e
 | some o =>
  rw [q] at e
  have e':(b,o)=p:=Option.some.inj e
  subst e'
  exact ⟨hb,q⟩
theorem Inv.pinned (I:Inv X pins σ H s) (hf:∀ b ∈ fp,gx X pins H b) (ho:∀ b ∈ fp,∃ o,s.heap.get? b=some o/\∀ v,o.data≠.cell v):Inv X (pins++iH fp s.heap) σ H s :=
 I.pins_of λp hp=>(List.mem_append.mp hp).elim (λz=>I.pin p (List.mem_append_right _ z)) λz=>by
  obtain ⟨hb,e⟩:=uD z
  obtain ⟨f0,f1,f2,_⟩:=hf p.1 hb
  obtain ⟨o,e',d⟩:=ho p.1 hb
  rw [e] at e';cases e'
  exact ⟨e,f0,f1,f2,d⟩
theorem Inv.unpinned {pl:List (Addr × Obj)} (I:Inv X (pins++pl) σ H s):Inv X pins σ H s:=I.pins_of λp hp=>I.pin p (List.mem_append_right _ (List.mem_append_left _ hp))
theorem gd {iter:Expr} {body:List Stmt} {wi:TI} {g:TG} {tb:TS} (hp:PassesOwn (model X.prog X.w) X.A X.env X.xe) (hc:X.calm=true) (hi:PI X tg iter wi) (hg:PG X tg g) (hb:PSs X body tb)
  (hs:∀ x,foldedSetIterable iter X.env x=pure x:=by intro _;rfl):PS X (.For tg iter body [] pos) (CW wi g tb):=by
 intro pins s σ H D I h
 refine wpAny_For (thn (hi pins s σ H _ I h) λv s1 h1=>thn h1 λitv s2 h2=>?_) hs
 obtain ⟨it,fp,tn,J,H2,e,I2,T,st2,f2,W,⟨m0,w0⟩,turn⟩:=h2
 subst e
 have fJ:∀ {H':Hp},(∀ b ∈ fp,H' b=none)->∀ b ∈ fp,gx X pins H' b:=λhn b hb=>⟨hn b hb,(f2 b hb).2⟩
 refine codeAny_forLoop_any (λn s'=>∃ i σ' H',Inv X pins σ' H' s'/\tn i s'.heap/\(∀ b ∈ fp,H' b=none)/\W i n σ' H') ?_ m0 ⟨0,σ,H2,I2,st2,λb hb=>(f2 b hb).1,w0⟩
 rintro n s3 ⟨i,σ3,H3,I3,st3,fr3,w3⟩
 rcases turn i n σ3 H3 w3 with ⟨stop,qn⟩ | ⟨go,N,hN,step⟩
 ·refine wpAny_passesOwn hp (thn (T.done X rfl rfl rfl hc i pins s3 σ3 H3 X.xe I3 (fJ fr3) st3 stop) λr s4 ⟨hr,I4⟩=>?_)
  subst hr
  exact wpAny_execs_nil ⟨σ3,H3,I4,qn⟩
 ·refine wpAny_passesOwn hp (thn (T.item X rfl rfl rfl hc i pins s3 σ3 H3 X.xe I3 (fJ fr3) st3 go) λr s4 ⟨u,hr,h4⟩=>?_)
  subst hr
  refine wpAny_passesOwn hp (thn h4 λ_ s5 ⟨x,H5,I5,r5,y5,st5,fr5⟩=>?_)
  have I5':=I5.pinned (fJ fr5) (T.obj _ _ st5)
  refine wpAny_passesOwn hp (thn (hg _ s5 σ3 H5 x u _ I5' r5 (step x H5 y5)) λ_ s6 ⟨σ6,H6,I6,q6⟩=>?_)
  refine wpAny_passesOwn hp (thn (hb _ s6 σ6 H6 _ I6 q6) λf s7 q7=>?_)
  have again:∀ {σ7:St} {H7:Hp},Inv X (pins++iH fp s5.heap) σ7 H7 s7->N σ7 H7->∃ m,m < n/\∃ i σ' H',Inv X pins σ' H' s7/\tn i s7.heap/\(∀ b ∈ fp,H' b=none)/\W i m σ' H':=λ{σ7 H7} I7 n7=>by
   obtain ⟨m',hm,w7⟩:=hN σ7 H7 n7
   refine ⟨m',hm,i+1,σ7,H7,I7.unpinned,T.keep _ _ _ st5 λb hb o e=>(I7.pin (b,o) (List.mem_append_right _ (List.mem_append_right _ (cu hb e)))).1,λb hb=>?_,w7⟩
   obtain ⟨o,e,d⟩:=T.obj _ _ st5 b hb
   exact (I7.pin (b,o) (List.mem_append_right _ (List.mem_append_right _ (cu hb e)))).2.1
  cases f with
  | next=>obtain ⟨σ7,H7,I7,n7⟩:=q7;exact again I7 n7
  | cont=>obtain ⟨σ7,H7,I7,n7⟩:=q7;exact again I7 n7
  | brk=>obtain ⟨σ7,H7,I7,q7⟩:=q7;exact ⟨σ7,H7,I7.unpinned,q7⟩
  | ret v=>obtain ⟨x7,σ7,H7,I7,r7,q7⟩:=q7;exact ⟨x7,σ7,H7,I7.unpinned,r7,q7⟩
end
variable {g:TG} {tb:TS}
theorem gH {D:Ends} (Pv:Nat->St->Hp->Prop) (h0:Pv 0 σ H) (hl:∀ i σ H,i≤xs.length->Pv i σ H->SqL K H a xs)
  (hs:∀ i x σ H,xs[i]?=some x->Pv i σ H->g x σ H λσ2 H2=>tb { D with nx:=Pv (i+1),ct:=Pv (i+1),bk:=D.nx } σ2 H2) (hd:∀ σ H,Pv xs.length σ H->D.nx σ H) :
  ∃ W:Nat->Nat->St->Hp->Prop,(∃ m,W 0 m σ H)/\∀ i m σ H,W i m σ H ->
   ((Itl K a).stop i H/\D.nx σ H)\/((Itl K a).go i H/\∃ N:St->Hp->Prop,(∀ σ' H',N σ' H'->∃ m',m' < m/\W (i+1) m' σ' H')/\∀ x H',(Itl K a).yld i H x H'->g x σ H' λσ2 H2=>tb { D with nx:=N,ct:=N,bk:=D.nx } σ2 H2):=by
 refine ⟨λi m σ H=>m=xs.length - i/\i≤xs.length/\Pv i σ H,⟨xs.length,by simp,Nat.zero_le _,h0⟩,?_⟩
 rintro i m σ H ⟨rfl,hi,p⟩
 have q:=hl i σ H hi p
 by_cases hlt:i < xs.length
 ·refine .inr ⟨⟨xs,xs[i],q,by simp [hlt]⟩,Pv (i+1),λσ' H' p'=>⟨xs.length - (i+1),by omega,rfl,hlt,p'⟩,λx H' y=>?_⟩
  obtain ⟨e,y⟩:=y
  subst e
  exact hs i x σ _ (y xs q) p
 ·have e:i=xs.length:=by omega
  subst e
  exact .inl ⟨⟨xs,q,Nat.le_refl _⟩,hd σ H p⟩
theorem yD {D:Ends} (Pv:Nat->St->Hp->Prop) (h0:Pv 0 σ H) (hl:∀ i σ H,i≤xs.length->Pv i σ H->SqT K H a xs)
  (hs:∀ i x σ H,xs[i]?=some x->Pv i σ H->g x σ H λσ2 H2=>tb { D with nx:=Pv (i+1),ct:=Pv (i+1),bk:=D.nx } σ2 H2) (hd:∀ σ H,Pv xs.length σ H->D.nx σ H) :
  ∃ W:Nat->Nat->St->Hp->Prop,(∃ m,W 0 m σ H)/\∀ i m σ H,W i m σ H ->
   ((Itt K a).stop i H/\D.nx σ H)\/((Itt K a).go i H/\∃ N:St->Hp->Prop,(∀ σ' H',N σ' H'->∃ m',m' < m/\W (i+1) m' σ' H')/\∀ x H',(Itt K a).yld i H x H'->g x σ H' λσ2 H2=>tb { D with nx:=N,ct:=N,bk:=D.nx } σ2 H2):=by
 refine ⟨λi m σ H=>m=xs.length - i/\i≤xs.length/\Pv i σ H,⟨xs.length,by simp,Nat.zero_le _,h0⟩,?_⟩
 rintro i m σ H ⟨rfl,hi,p⟩
 have q:=hl i σ H hi p
 by_cases hlt:i < xs.length
 ·refine .inr ⟨⟨xs,xs[i],q,by simp [hlt]⟩,Pv (i+1),λσ' H' p'=>⟨xs.length - (i+1),by omega,rfl,hlt,p'⟩,λx H' y=>?_⟩
  obtain ⟨e,y⟩:=y
  subst e
  exact hs i x σ _ (y xs q) p
 ·have e:i=xs.length:=by omega
  subst e
  exact .inl ⟨⟨xs,q,Nat.le_refl _⟩,hd σ H p⟩
variable {n:Nat}
theorem mJ {lo:Int} {D:Ends} (Pv:Nat->St->Hp->Prop) (h0:Pv 0 σ H)
  (hs:∀ i σ H,i < n->Pv i σ H->g (.int (lo+i)) σ H λσ2 H2=>tb { D with nx:=Pv (i+1),ct:=Pv (i+1),bk:=D.nx } σ2 H2) (hd:∀ σ H,Pv n σ H->D.nx σ H) :
  ∃ W:Nat->Nat->St->Hp->Prop,(∃ m,W 0 m σ H)/\∀ i m σ H,W i m σ H ->
   ((Itr lo n).stop i H/\D.nx σ H)\/((Itr lo n).go i H/\∃ N:St->Hp->Prop,(∀ σ' H',N σ' H'->∃ m',m' < m/\W (i+1) m' σ' H')/\∀ x H',(Itr lo n).yld i H x H'->g x σ H' λσ2 H2=>tb { D with nx:=N,ct:=N,bk:=D.nx } σ2 H2):=by
 refine ⟨λi m σ H=>m=n - i/\i≤n/\Pv i σ H,⟨n,by simp,Nat.zero_le _,h0⟩,?_⟩
 rintro i m σ H ⟨rfl,hi,p⟩
 by_cases hlt:i < n
 ·refine .inr ⟨hlt,Pv (i+1),λσ' H' p'=>⟨n - (i+1),by omega,rfl,hlt,p'⟩,λx H' y=>?_⟩
  obtain ⟨e,y⟩:=y
  subst e y
  exact hs i σ _ hlt p
 ·have e:i=n:=by omega
  subst e
  exact .inl ⟨Nat.le_refl _,hd σ H p⟩
theorem qk {c:TT} {D:Ends} (Pv:St->Hp->Prop) (μ:St->Hp->Nat) (h0:Pv σ H)
  (hs:∀ σ H,Pv σ H->c σ H λb H1=>if b=true then tb { D with nx:=λσ' H'=>Pv σ' H'/\μ σ' H' < μ σ H,ct:=λσ' H'=>Pv σ' H'/\μ σ' H' < μ σ H,bk:=D.nx } σ H1 else D.nx σ H1)
  (mono:∀ σ H Q Q',(∀ b H1,Q b H1->Q' b H1)->c σ H Q->c σ H Q'):oE c tb D σ H:=by
 refine ⟨λm σ H=>m=μ σ H/\Pv σ H,⟨_,rfl,h0⟩,?_⟩
 rintro m σ H ⟨rfl,p⟩
 refine mono σ H _ _ (λb H1 q=>?_) (hs σ H p)
 cases b with
 | true=>exact ⟨_,λσ' H' ⟨p',l⟩=>⟨_,l,rfl,p'⟩,q⟩
 | false=>exact q
abbrev R2:=V->V->Hp->VK->Prop
def OpR (X:Cx) (f:Value->Value->Sem Value) (r:R2):Prop :=
 ∀ (pins:List (Addr × Obj)) (s:Shared) (σ:St) (H:Hp) (x y:V) (v u:Value) (Q:VK),Inv X pins σ H s->RelV x v->RelV y u->r x y H Q ->
  wpAny (model X.prog X.w) X.A (f v u) (EP X pins σ Q) X.xe s
def UnR (X:Cx) (f:Value->Sem Value) (r:V->Hp->VK->Prop):Prop :=
 ∀ (pins:List (Addr × Obj)) (s:Shared) (σ:St) (H:Hp) (x:V) (v:Value) (Q:VK),Inv X pins σ H s->RelV x v->r x H Q ->
  wpAny (model X.prog X.w) X.A (f v) (EP X pins σ Q) X.xe s
def gz (X:Cx) (f:Value) (r:List V->Hp->VK->Prop):Prop :=
 ∀ (pins:List (Addr × Obj)) (s:Shared) (σ:St) (H:Hp) (xs:List V) (us:List Value) (Q:VK),Inv X pins σ H s->Vals xs us->r xs H Q ->
  wpAny (model X.prog X.w) X.A (call f us) (EP X pins σ Q) X.xe s
def CD (X:Cx) (r:V->Hp->(Bool->Hp->Prop)->Prop):Prop :=
 ∀ (pins:List (Addr × Obj)) (s:Shared) (σ:St) (H:Hp) (x:V) (v:Value) (Q:Bool->Hp->Prop),Inv X pins σ H s->RelV x v->r x H Q ->
  wpAny (model X.prog X.w) X.A (truthy v) (TP X pins σ Q) X.xe s
def tOp (r:R2) (ta tb:TE):TE:=λσ H Q=>ta σ H λx H1=>tb σ H1 λy H2=>r x y H2 Q
def tUn (r:V->Hp->VK->Prop) (ta:TE):TE:=λσ H Q=>ta σ H λx H1=>r x H1 Q
def rI (C:Int->Int->Prop) (g:Int->Int->V):R2:=λx y H Q=>∃ i j,x=.int i/\y=.int j/\C i j/\Q (g i j) H
def rI0 (g:Int->Int->V):R2:=λx y H Q=>∃ i j,x=.int i/\y=.int j/\Q (g i j) H
def rU (g:Int->V):V->Hp->VK->Prop:=λx H Q=>∃ i,x=.int i/\Q (g i) H
section
variable {X:Cx} {a b c:Expr} {ta tb tc:TE} {pos:Pos}
variable {f:Value->Value->Sem Value}
theorem AY (ha:PE X a ta) (hb:PE X b tb) {pins:List (Addr × Obj)} {s:Shared} {σ:St} {H:Hp} {R:V->V->Hp->Prop} (I:Inv X pins σ H s)
  (h:ta σ H λx H1=>tb σ H1 λy H2=>R x y H2) {Q:Value->Shared->Prop}
  (hf:∀ v u s2 x y H2,Inv X pins σ H2 s2->RelV x v->RelV y u->R x y H2->wpAny (model X.prog X.w) X.A (f v u) Q X.xe s2) :
  wpAny (model X.prog X.w) X.A (eval a X.env) (λv s₁=>wpAny (model X.prog X.w) X.A (eval b X.env) (λu s₂=>wpAny (model X.prog X.w) X.A (f v u) Q X.xe s₂) X.xe s₁) X.xe s:=by
 refine thn (ha pins s σ H _ I h) λv s1 ⟨x,H1,I1,r1,q1⟩=>?_
 refine thn (hb pins s1 σ H1 _ I1 q1) λu s2 ⟨y,H2,I2,r2,q2⟩=>?_
 exact hf v u s2 x y H2 I2 r1 r2 q2
theorem bu {op:Operator} {r:R2} (ho:OpR X (binaryOp op) r) (ha:PE X a ta) (hb:PE X b tb):PE X (.BinOp a op b pos) (tOp r ta tb):=by
 intro pins s σ H Q I h
 exact wpAny_BinOp (AY ha hb I h λv u s2 x y H2 I2 rx ry q=>ho pins s2 σ H2 x y v u Q I2 rx ry q)
theorem xb {op:UnaryOp} {r:V->Hp->VK->Prop} (ho:UnR X (unaryOp op) r) (ha:PE X a ta):PE X (.UnaryOp op a pos) (tUn r ta):=by
 intro pins s σ H Q I h
 exact UnaryOp_ (thn (ha pins s σ H _ I h) λv s1 ⟨x,H1,I1,r1,q1⟩=>ho pins s1 σ H1 x v Q I1 r1 q1)
variable {g:Int->Int->Int}
theorem opI {C:Int->Int->Prop}
  (rule:∀ (i j:Int) (t u:Tok) (s:Shared) (Q:Value->Shared->Prop) (E:Value->Shared->Prop),C i j->Q (.int (g i j) s.toks) { s with toks:=s.toks+1 }->wpAny (model X.prog X.w) X.A (f (.int i t) (.int j u)) Q E s) :
  OpR X f (rI C λi j=>.int (g i j)):=by
 intro pins s σ H x y v u Q I rx ry h
 obtain ⟨i,j,rfl,rfl,hc,q⟩:=h
 obtain ⟨t,rfl⟩:=rx
 obtain ⟨t',rfl⟩:=ry
 exact rule i j t t' s _ _ hc ⟨.int (g i j),H,I.tok _,⟨_,rfl⟩,q⟩
theorem B9
  (rule:∀ (i j:Int) (t u:Tok) (s:Shared) (Q:Value->Shared->Prop) (E:Value->Shared->Prop),Q (.int (g i j) s.toks) { s with toks:=s.toks+1 }->wpAny (model X.prog X.w) X.A (f (.int i t) (.int j u)) Q E s) :
  OpR X f (rI0 λi j=>.int (g i j)):=by
 intro pins s σ H x y v u Q I rx ry h
 obtain ⟨i,j,rfl,rfl,q⟩:=h
 obtain ⟨t,rfl⟩:=rx
 obtain ⟨t',rfl⟩:=ry
 exact rule i j t t' s _ _ ⟨.int (g i j),H,I.tok _,⟨_,rfl⟩,q⟩
theorem yZ {g:Int->Int->Bool}
  (rule:∀ (i j:Int) (t u:Tok) (s:Shared) (Q:Value->Shared->Prop) (E:Value->Shared->Prop),Q (.bool (g i j)) s->wpAny (model X.prog X.w) X.A (f (.int i t) (.int j u)) Q E s) :
  OpR X f (rI0 λi j=>.bl (g i j)):=by
 intro pins s σ H x y v u Q I rx ry h
 obtain ⟨i,j,rfl,rfl,q⟩:=h
 obtain ⟨t,rfl⟩:=rx
 obtain ⟨t',rfl⟩:=ry
 exact rule i j t t' s _ _ ⟨.bl (g i j),H,I,rfl,q⟩
def AG (i j:Int):Prop:=0 < j/\j < 1073741824
def CA (i j:Int):Prop:=0≤j/\j≤1000000/\i.natAbs < 2 ^ 64
def CMul (i j:Int):Prop:=(-(2 ^ 64) < i/\i < 2 ^ 64)\/(-(2 ^ 64) < j/\j < 2 ^ 64)
theorem CMul.ok {i j:Int} (h:CMul i j):IntMulOk i j:=by
 rcases h with ⟨h1,h2⟩ | ⟨h1,h2⟩
 ·exact .of_left (intBits_le_64 h1 h2)
 ·exact .of_right (intBits_le_64 h1 h2)
theorem cF:OpR X (binaryOp .Add) (rI0 λi j=>.int (i+j)):=B9 λ_ _ _ _ _ _ _ q=>add_int q
theorem w4:OpR X (binaryOp .Sub) (rI0 λi j=>.int (i - j)):=B9 λ_ _ _ _ _ _ _ q=>sub_int q
theorem nX:OpR X (binaryOp .Mult) (rI CMul λi j=>.int (i * j)):=opI λ_ _ _ _ _ _ _ hc q=>mul_int q hc.ok
theorem nW:OpR X (binaryOp .FloorDiv) (rI AG λi j=>.int (i / j)):=opI λi j _ _ _ _ _ hc q=>by
 have h1:(0:Int) < j:=hc.1
 have h2:j < 1073741824:=hc.2
 exact floordiv_int (by omega) (by rw [Int.fdiv_eq_ediv_of_nonneg i (by omega)];exact q) (.inl (PyProof.noPylong_small (by omega)))
theorem dq:OpR X (binaryOp .Mod) (rI (λ_ j=>0 < j) λi j=>.int (i % j)):=opI λi j _ _ _ _ _ hc q=>by
 have h1:(0:Int) < j:=hc
 exact mod_int' (by omega) (by rw [Int.fmod_eq_emod_of_nonneg i (by omega)];exact q)
theorem n0:OpR X (binaryOp .Pow) (rI CA λi j=>.int (i ^ j.toNat)):=opI λ_ _ _ _ _ _ _ hc q=>pow_int_small hc.1 hc.2.1 hc.2.2 q
theorem unI {f:Value->Sem Value} {g:Int->Int}
  (rule:∀ (i:Int) (t:Tok) (s:Shared) (Q:Value->Shared->Prop) (E:Value->Shared->Prop),Q (.int (g i) s.toks) { s with toks:=s.toks+1 }->wpAny (model X.prog X.w) X.A (f (.int i t)) Q E s) :
  UnR X f (rU λi=>.int (g i)):=by
 intro pins s σ H x v Q I rx h
 obtain ⟨i,rfl,q⟩:=h
 obtain ⟨t,rfl⟩:=rx
 exact rule i t s _ _ ⟨.int (g i),H,I.tok _,⟨_,rfl⟩,q⟩
theorem so:UnR X (unaryOp .USub) (rU λi=>.int (-i)):=unI λ_ _ _ _ _ q=>neg_int q
end
def Cn:V->V->Bool
 | .non,.non=>true | .non,.int _=>true | .int _,.non=>true | .non,.bl _=>true | .bl _,.non=>true | .non,.str _=>true | .str _,.non=>true
 | .int _,.int _=>true | .bl _,.bl _=>true | .str _,.str _=>true | .byt _,.byt _=>true
 | .int _,.str _=>true | .str _,.int _=>true | .bl _,.str _=>true | .str _,.bl _=>true
 | _,_=>false
def rEq:R2:=λx y H Q=>Cn x y=true/\Q (.bl (decide (x=y))) H
def rNe:R2:=λx y H Q=>Cn x y=true/\Q (.bl (!decide (x=y))) H
theorem sU {i j:Int}:decide (V.int i=V.int j)=(i == j):=by
 rw [Bool.eq_iff_iff]
 simp
theorem vT {i j:Bool}:decide (V.bl i=V.bl j)=(i == j):=by
 rw [Bool.eq_iff_iff]
 simp
theorem sV {i j:Str}:decide (V.str i=V.str j)=(i == j):=by
 rw [Bool.eq_iff_iff]
 simp
theorem sS {i j:Array UInt8}:decide (V.byt i=V.byt j)=(i.toList == j.toList):=by
 rw [Bool.eq_iff_iff]
 cases i
 cases j
 simp
section
variable {X:Cx} {a b c:Expr} {ta tb tc:TE} {pos:Pos}
theorem bF {pins:List (Addr × Obj)} {σ:St} {H:Hp} {s:Shared} {Q:VK} {k k':Bool} (I:Inv X pins σ H s) (q:Q (.bl k) H) (e:k=k'):EP X pins σ Q (.bool k') s:=by
 subst e
 exact ⟨.bl k,H,I,rfl,q⟩
theorem b0:OpR X (compareOp .Eq) rEq:=by
 intro pins s σ H x y v u Q I rx ry h
 obtain ⟨hs,q⟩:=h
 cases x with
 | non =>
  cases rx
  cases y with
  | non=>cases ry;exact PySem.EqNone.eq_none_none (bF I q (by simp))
  | bl j=>cases ry;exact PySem.EqNone.eq_none_bool (bF I q (by simp))
  | int j=>obtain ⟨t',rfl⟩:=ry;exact PySem.EqNone.eq_none_int (bF I q (by simp))
  | str j=>obtain ⟨t',rfl⟩:=ry;exact PySem.EqNone.eq_none_str (bF I q (by simp))
  | _=>exact absurd (show false=true from hs) Bool.false_ne_true
 | bl i =>
  cases rx
  cases y with
  | non=>cases ry;exact PySem.EqNone.eq_bool_none (bF I q (by simp))
  | bl j=>cases ry;exact eq_bool (bF I q vT)
  | str j=>obtain ⟨t',rfl⟩:=ry;exact PySem.EqMixed.eq_bool_str (bF I q (by simp))
  | _=>exact absurd (show false=true from hs) Bool.false_ne_true
 | int i =>
  obtain ⟨t,rfl⟩:=rx
  cases y with
  | non=>cases ry;exact PySem.EqNone.eq_int_none (bF I q (by simp))
  | int j=>obtain ⟨t',rfl⟩:=ry;exact eq_int (bF I q sU)
  | str j=>obtain ⟨t',rfl⟩:=ry;exact PySem.EqMixed.eq_int_str (bF I q (by simp))
  | _=>exact absurd (show false=true from hs) Bool.false_ne_true
 | str i =>
  obtain ⟨t,rfl⟩:=rx
  cases y with
  | non=>cases ry;exact PySem.EqNone.eq_str_none (bF I q (by simp))
  | bl j=>cases ry;exact PySem.EqMixed.eq_str_bool (bF I q (by simp))
  | int j=>obtain ⟨t',rfl⟩:=ry;exact PySem.EqMixed.eq_str_int (bF I q (by simp))
  | str j=>obtain ⟨t',rfl⟩:=ry;exact eq_str (bF I q sV)
  | _=>exact absurd (show false=true from hs) Bool.false_ne_true
 | byt i =>
  obtain ⟨t,rfl⟩:=rx
  cases y with
  | byt j=>obtain ⟨t',rfl⟩:=ry;exact PySem.W.eq_bytes (bF I q sS)
  | _=>exact absurd (show false=true from hs) Bool.false_ne_true
 | _=>cases y <;> exact absurd (show false=true from hs) Bool.false_ne_true
theorem lB:OpR X (compareOp .NotEq) rNe:=by
 intro pins s σ H x y v u Q I rx ry h
 obtain ⟨hs,q⟩:=h
 cases x with
 | non =>
  cases rx
  cases y with
  | non=>cases ry;exact PySem.EqNone.ne_none_none (bF I q (by simp))
  | bl j=>cases ry;exact PySem.EqNone.ne_none_bool (bF I q (by simp))
  | int j=>obtain ⟨t',rfl⟩:=ry;exact PySem.EqNone.ne_none_int (bF I q (by simp))
  | str j=>obtain ⟨t',rfl⟩:=ry;exact PySem.EqNone.ne_none_str (bF I q (by simp))
  | _=>exact absurd (show false=true from hs) Bool.false_ne_true
 | bl i =>
  cases rx
  cases y with
  | non=>cases ry;exact PySem.EqNone.ne_bool_none (bF I q (by simp))
  | bl j=>cases ry;exact ne_bool (bF I q (congrArg not vT))
  | str j=>obtain ⟨t',rfl⟩:=ry;exact PySem.EqMixed.ne_bool_str (bF I q (by simp))
  | _=>exact absurd (show false=true from hs) Bool.false_ne_true
 | int i =>
  obtain ⟨t,rfl⟩:=rx
  cases y with
  | non=>cases ry;exact PySem.EqNone.ne_int_none (bF I q (by simp))
  | int j=>obtain ⟨t',rfl⟩:=ry;exact ne_int (bF I q (congrArg not sU))
  | str j=>obtain ⟨t',rfl⟩:=ry;exact PySem.EqMixed.ne_int_str (bF I q (by simp))
  | _=>exact absurd (show false=true from hs) Bool.false_ne_true
 | str i =>
  obtain ⟨t,rfl⟩:=rx
  cases y with
  | non=>cases ry;exact PySem.EqNone.ne_str_none (bF I q (by simp))
  | bl j=>cases ry;exact PySem.EqMixed.ne_str_bool (bF I q (by simp))
  | int j=>obtain ⟨t',rfl⟩:=ry;exact PySem.EqMixed.ne_str_int (bF I q (by simp))
  | str j=>obtain ⟨t',rfl⟩:=ry;exact ne_str (bF I q (congrArg not sV))
  | _=>exact absurd (show false=true from hs) Bool.false_ne_true
 | byt i =>
  obtain ⟨t,rfl⟩:=rx
  cases y with
  | byt j=>obtain ⟨t',rfl⟩:=ry;exact PySem.W.ne_bytes (bF I q (congrArg not sS))
  | _=>exact absurd (show false=true from hs) Bool.false_ne_true
 | _=>cases y <;> exact absurd (show false=true from hs) Bool.false_ne_true
theorem lA:OpR X (compareOp .Lt) (rI0 λi j=>.bl (decide (i < j))):=yZ λ_ _ _ _ _ _ _ q=>lt_int q
theorem lq:OpR X (compareOp .LtE) (rI0 λi j=>.bl (decide (i≤j))):=yZ λ_ _ _ _ _ _ _ q=>le_int q
theorem mO:OpR X (compareOp .Gt) (rI0 λi j=>.bl (decide (j < i))):=yZ λ_ _ _ _ _ _ _ q=>gt_int q
theorem pO:OpR X (compareOp .GtE) (rI0 λi j=>.bl (decide (j≤i))):=yZ λ_ _ _ _ _ _ _ q=>ge_int q
theorem Bi:OpR X (compareOp .Is) (λx y H Q=>y=.non/\Q (.bl (decide (x=.non))) H):=by
 intro pins s σ H x y v u Q I rx ry h
 obtain ⟨rfl,q⟩:=h
 cases ry
 refine is_none_gen (bF I q ?_)
 cases x <;> first
  | (cases rx;rfl)
  | (obtain ⟨t,rfl⟩:=rx;rfl)
variable {r r':R2}
theorem OpR.or {f:Value->Value->Sem Value} (h:OpR X f r) (h':OpR X f r'):OpR X f (λx y H Q=>r x y H Q\/r' x y H Q):=by
 intro pins s σ H x y v u Q I rx ry q
 rcases q with q | q
 ·exact h pins s σ H x y v u Q I rx ry q
 ·exact h' pins s σ H x y v u Q I rx ry q
variable {op:CmpOp}
theorem aN (b:Expr) (h:op≠.In:=by decide) (h2:op≠.NotIn:=by decide):behindInMarks op b=false:=by
 have e1:(op == CmpOp.In)=false:=by cases op <;> first | rfl | exact absurd rfl h
 have e2:(op == CmpOp.NotIn)=false:=by cases op <;> first | rfl | exact absurd rfl h2
 cases b <;> simp [behindInMarks,e1,e2]
theorem eB (ho:OpR X (compareOp op) r) (ha:PE X a ta) (hb:PE X b tb) (hm:behindInMarks op b=false):PE X (.Compare a [op] [b] pos) (tOp r ta tb):=by
 intro pins s σ H Q I h
 exact wpAny_Compare1 (AY ha hb I h λv u s2 x y H2 I2 rx ry q=>ho pins s2 σ H2 x y v u Q I2 rx ry q) hm
def qg (t:TE):TT:=λσ H Q=>t σ H λx H'=>∃ k,x=.bl k/\Q k H'
theorem aH (ho:OpR X (compareOp op) r) (ha:PE X a ta) (hb:PE X b tb) (hm:behindInMarks op b=false):PT X (.Compare a [op] [b] pos) (qg (tOp r ta tb)):=by
 intro pins s σ H Q I h
 refine wpAny_isTrue_Compare1 (thn (ha pins s σ H _ I h) λv s1 ⟨x,H1,I1,r1,q1⟩=>thn (hb pins s1 σ H1 _ I1 q1) λu s2 ⟨y,H2,I2,r2,q2⟩ =>
  thn (ho pins s2 σ H2 x y v u _ I2 r1 r2 q2) λc s3 ⟨z,H3,I3,r3,k,e,q3⟩=>?_) hm
 subst e
 cases r3
 exact wpAny_truthy_bool ⟨H3,I3,q3⟩
def oC (r r':R2) (ta tb tc:TE):TE:=λσ H Q=>ta σ H λx H1=>tb σ H1 λy H2=>r x y H2 λz H3=>∃ k,z=.bl k /\
 (if k=true then tc σ H3 λw' H4=>r' y w' H4 Q else Q (.bl false) H3)
variable {op':CmpOp}
theorem pS (ho:OpR X (compareOp op) r) (ho':OpR X (compareOp op') r') (ha:PE X a ta) (hb:PE X b tb) (hc:PE X c tc)
  (hm:lastMarks [op,op'] [b,c]=false:=by with_unfolding_all rfl):PE X (.Compare a [op,op'] [b,c] pos) (oC r r' ta tb tc):=by
 intro pins s σ H Q I h
 refine Compare_chain (thn (ha pins s σ H _ I h) λv s1 ⟨x,H1,I1,r1,q1⟩=>chain_link (thn (hb pins s1 σ H1 _ I1 q1) λu s2 ⟨y,H2,I2,r2,q2⟩ =>
  thn (ho pins s2 σ H2 x y v u _ I2 r1 r2 q2) λd s3 ⟨z,H3,I3,r3,k,e,q3⟩=>?_)) hm
 subst e
 cases r3
 refine wpAny_truthy_bool ?_
 cases k with
 | false=>exact ite_ff ⟨.bl false,H3,I3,rfl,q3⟩
 | true=>exact ite_tt (chain_last (thn (hc pins s3 σ H3 _ I3 q3) λw' s4 ⟨z',H4,I4,r4,q4⟩=>ho' pins s4 σ H4 y z' u w' Q I4 r2 r4 q4))
theorem pU (ho:OpR X (compareOp op) r) (ho':OpR X (compareOp op') r') (ha:PE X a ta) (hb:PE X b tb) (hc:PE X c tc)
  (hm:lastMarks [op,op'] [b,c]=false:=by with_unfolding_all rfl):PT X (.Compare a [op,op'] [b,c] pos) (qg (oC r r' ta tb tc)):=by
 intro pins s σ H Q I h
 refine isTrue_chain (thn (ha pins s σ H _ I h) λv s1 ⟨x,H1,I1,r1,q1⟩=>test_link (thn (hb pins s1 σ H1 _ I1 q1) λu s2 ⟨y,H2,I2,r2,q2⟩ =>
  thn (ho pins s2 σ H2 x y v u _ I2 r1 r2 q2) λd s3 ⟨z,H3,I3,r3,k,e,q3⟩=>?_)) hm
 subst e
 cases r3
 refine wpAny_truthy_bool ?_
 cases k with
 | false =>
  obtain ⟨k',e',q'⟩:=q3
  cases e'
  exact ite_ff ⟨H3,I3,q'⟩
 | true =>
  refine ite_tt (test_last (thn (hc pins s3 σ H3 _ I3 q3) λw' s4 ⟨z',H4,I4,r4,q4⟩=>thn (ho' pins s4 σ H4 y z' u w' _ I4 r2 r4 q4) λd' s5 ⟨z2,H5,I5,r5,k2,e2,q5⟩=>?_))
  subst e2
  cases r5
  exact wpAny_truthy_bool ⟨H5,I5,q5⟩
def qx (K:PySem.W.Frag) (x:V) (H:Hp) (k:Bool):Prop :=
 match x with
 | .non=>k=false
 | .bl b=>k=b
 | .int i=>k=(i != 0)
 | .str y=>y.length≤sizeLine/\k=((y.length:Int) != 0)
 | .byt y=>y.size≤sizeLine/\k=((y.size:Int) != 0)
 | .ref p=>(∃ xs,SqL K H p xs/\k=!xs.isEmpty)\/(∃ xs,SqT K H p xs/\k=!xs.isEmpty)\/∃ kvs,H p=some (.dK kvs)/\k=!kvs.isEmpty
 | _=>False
theorem qQ {κ:Type} {kvs:List (κ × V)} {vs:List (κ × Value)} (r:KV kvs vs):(!vs.isEmpty)=!kvs.isEmpty:=by
 cases r <;> rfl
theorem kM {xs:List V} {its:List Value} (r:Vals xs its):(!its.toArray.isEmpty)=!xs.isEmpty:=by
 cases r <;> simp
theorem iF:(sizeLine:Nat) < 2 ^ 63:=by rw [sizeLine_eq];decide
theorem BO:CD X (λx H Q=>∃ k,qx X.K x H k/\Q k H):=by
 intro pins s σ H x v Q I rx h
 obtain ⟨k,e,q⟩:=h
 have hl:=iF
 have hs:sizeLine=16777216:=sizeLine_eq
 cases x with
 | non =>
  cases rx
  have e':k=false:=e
  subst e'
  exact truthy_none ⟨H,I,q⟩
 | bl b =>
  cases rx
  have e':k=b:=e
  subst e'
  exact wpAny_truthy_bool ⟨H,I,q⟩
 | int i =>
  obtain ⟨t,rfl⟩:=rx
  have e':k=(i != 0):=e
  subst e'
  exact PySem.P.truthy_int ⟨H,I,q⟩
 | str y =>
  obtain ⟨t,rfl⟩:=rx
  obtain ⟨hy,e'⟩:y.length≤sizeLine/\k=((y.length:Int) != 0):=e
  subst e'
  exact PySem.P.truthy_str (by omega) ⟨H,I.tok _,q⟩
 | byt y =>
  obtain ⟨t,rfl⟩:=rx
  obtain ⟨hy,e'⟩:y.size≤sizeLine/\k=((y.size:Int) != 0):=e
  subst e'
  exact PySem.W.truthy_bytes (by omega) ⟨H,I.tok _,q⟩
 | ref p =>
  cases rx
  have e':(∃ xs,SqL X.K H p xs/\k=!xs.isEmpty)\/(∃ xs,SqT X.K H p xs/\k=!xs.isEmpty)\/∃ kvs,H p=some (.dK kvs)/\k=!kvs.isEmpty:=e
  rcases e' with ⟨xs,hx,e'⟩ | ⟨xs,hx,e'⟩ | ⟨kvs,hx,e'⟩
  ·subst e'
   obtain ⟨its,r,pl,hz⟩:=I.list hx
   have hlen:=r.length
   exact wpAny_truthy_list pl.isList (by simp only [List.size_toArray];omega) ⟨H,I.tok _,by rw [kM r];exact q⟩
  ·subst e'
   obtain ⟨its,r,pl,hz⟩:=I.tuple hx
   have hlen:=r.length
   exact truthy_tuple pl (by simp only [List.size_toArray];omega) ⟨H,I.tok _,by rw [kM r];exact q⟩
  ·subst e'
   obtain ⟨hz,hS,vs,r,m⟩:kvs.length≤sizeLine/\(p == sysModules)=false/\∃ vs,KV kvs vs/\s.heap.DictOf (cE X.prog X.w) p vs:=I.hok p _ hx
   have hlen:kvs.length=vs.length:=Paired.length r
   exact wpAny_truthy_dict hS m (by omega) ⟨H,I.tok _,by rw [qQ r];exact q⟩
 | _=>exact (show False from e).elim
theorem bh (ha:PE X a ta) (he:∀ whole,isTrue a X.env whole=(do let v ← whole;standAt a.pos;holding [v] (truthy v))) :
  PT X a (λσ H Q=>ta σ H λx H'=>∃ k,qx X.K x H' k/\Q k H'):=by
 intro pins s σ H Q I h
 exact isTrue_plain (thn (ha pins s σ H _ I h) λv s1 ⟨x,H1,I1,r1,q1⟩=>BO pins s1 σ H1 x v Q I1 r1 q1) (he _)
variable {x:V} {us:List Value}
theorem fW (r:Vals [x] us):∃ u,us=[u]/\RelV x u:=by
 cases r with
 | cons r1 r2=>cases r2;exact ⟨_,rfl,r1⟩
theorem Cz {y:V} (r:Vals [x,y] us):∃ u w',us=[u,w']/\RelV x u/\RelV y w':=by
 cases r with
 | cons r1 r2 =>
  cases r2 with
  | cons r3 r4=>cases r4;exact ⟨_,_,rfl,r1,r3⟩
end
structure ObjM (h:Heap) (x dx C:Addr) (mA:Str->Option Value):Prop where
 obj:h.get? x=some (PySem.W.instObj C dx)
 ns:h.Ns1 dx mA
 ne:dx≠x
variable {dx:Addr} {mA:Str->Option Value}
theorem ux {h:Heap} (n:h.Ns1 dx mA):∃ od,h.get? dx=some od/\∀ name,PySem.W.lookIn name od=some (mA name):=by
 obtain ⟨o,es,ep,ho,hd,hk,_,hm⟩:=n
 refine ⟨o,ho,λname=>?_⟩
 have e:=hm name
 unfold nsFind findBy at e
 rw [← Array.find?_toList] at e
 unfold PySem.W.lookIn
 rw [hd]
 dsimp only
 split
 ·rename_i y q
  rw [q] at e
  exact congrArg some e
 ·rename_i q
  rw [q] at e
  have a:es.toList.any (·.refKey)=false:=by
   rw [List.any_eq_false]
   intro y hy
   obtain ⟨z,t,hkey⟩:=hk y (Array.mem_toList_iff.mp hy)
   simp [DictEntry.refKey,hkey]
  have a':¬ es.toList.any (·.refKey)=true:=by rw [a];exact Bool.false_ne_true
  rw [if_neg a']
  exact congrArg some e
variable {C:Addr}
theorem ObjM.look {h:Heap} {x:Addr} (I:ObjM h x dx C mA):∃ od,PySem.W.InstAt h x (PySem.W.instObj C dx) C (some od)/\∀ name,PySem.W.lookIn name od=some (mA name) :=
 let ⟨od,ho,hl⟩:=ux I.ns
 ⟨od,⟨I.obj,rfl,rfl,ho⟩,hl⟩
section
variable {prog:Program} {w:World} {A:Around} {E:Value->Shared->Prop} {s:Shared} {K:PySem.W.Frag} {x dx C f:Addr} {mA:Str->Option Value} {name:Str} {v:Value}
theorem yF {expr:Bool} {Q:Value->Shared->Prop} (X:K.In s.heap) (I:ObjM s.heap x dx C mA) (hg:PySem.W.plainGet K C name=true) (hh:PySem.W.hasDictIn K C=true)
  (ha:PySem.W.findIn K (.ref C) name=some none) (hv:mA name=some v) (hv':PySem.W.handedIn v=true) (h:Q v { s with toks:=s.toks+1 }) :
  wpAny (model prog w) A (getAttr (.ref x) name expr) Q E s:=by
 obtain ⟨od,J,hl⟩:=I.look
 exact PySem.W.get_value X J (PySem.W.plainGet_of hg).1 (PySem.W.findObj_own hh ha rfl (by rw [hl,hv])) hv' h
theorem we {pl:Sem Bool} {Q:Value × List Value->Shared->Prop} (X:K.In s.heap) (I:ObjM s.heap x dx C mA) (hg:PySem.W.plainGet K C name=true)
  (hf:PySem.W.findIn K (.ref C) name=some (some (.ref f))) (ht:PySem.W.isFn K (.ref f)=true) (hv:mA name=none) (h:Q (.ref f,[.ref x]) s) :
  wpAny (model prog w) A (getMethod (.ref x) name pl) Q E s:=by
 obtain ⟨od,J,hl⟩:=I.look
 exact PySem.W.method_fn X J (PySem.W.plainGet_of hg).1 (PySem.W.plainGet_of hg).2 hf (beq_iff_eq.mp ht) (by show (PySem.W.lookIn name od).map (·.isSome)=some false;rw [hl,hv];rfl) h
theorem zO {ns:List Str} {Q:Unit->Shared->Prop} (X:K.In s.heap) (I:ObjM s.heap x dx C mA)
  (hs:PySem.W.findIn K (.ref C) "__setattr__"=some (some (.builtin "object.__setattr__"))) (hp:PySem.W.plainOver K C=true) (ht:PySem.W.takerIn K C name=some none) (hh:PySem.W.hasDictIn K C=true)
  (hw:PySem.Within mA ns) (hsz:ns.length≤sizeLine)
  (h:∀ h',ObjM h' x dx C (λy=>if y=name then some v else mA y)->Heap.SameBut dx s.heap h'->Q () { s with heap:=h',toks:=s.toks+2 }) :
  wpAny (model prog w) A (setAttr (.ref x) name v) Q E s:=by
 obtain ⟨od,J,hl⟩:=I.look
 refine PySem.W.set_plain X J hs (PySem.W.osa_open (s:={ s with toks:=s.toks+1 }) (r:=none) X J hp ht λb=>?_)
 obtain ⟨cd,hc,hd'⟩:=PySem.W.any_some hh
 have hx:s.heap.get? x=some ⟨.ref C,some dx,.plain,#[]⟩:=I.obj
 refine wpAny_bind (wpAny_pure (wpAny_bind (wpAny_bind (wpAny_loadPart hx (wpAny_bind (PySem.W.Looks.here (s:={ s with toks:=s.toks+1 }) (PySem.W.looks_clsIn X hc) ?_))))))
 rw [hd']
 refine wpAny_pure (a:=some dx) (wpAny_bind (wpAny_pure (wpAny_bind ?_)))
 refine wpAny_nsSet1 (s:={ s with toks:=s.toks+1 }) I.ns λh' hn2 hs2=>?_
 obtain ⟨oD,esD,epD,hoD,hdD,hcD⟩:=hn2.count (PySem.Within.cons name v hw)
 refine wpAny_bind (wpAny_lookBehind hoD (by rw [hdD];exact pastItsLine_dict (Nat.le_trans hcD (by rw [List.length_cons];omega))) ?_)
 exact wpAny_pure (h _ ⟨(hs2.2 _ (Ne.symm I.ne)).trans I.obj,hn2,I.ne⟩ hs2)
theorem wN {R:Result->Shared->Prop} {vs:List Value} {kw:List (Str × Value)} (X:K.In s.heap) (hm:PySem.W.makesIn K C=true)
  (hi:PySem.W.findIn K (.ref C) "__init__"=some (some (.ref f))) (hf:PySem.W.typeIn K (.ref f)=some (.type "function"))
  (h:codeAny (model prog w) (A.under (.builtin "type.__call__" ⟨.ref C::vs,kw⟩)) (.call (.ref f) ⟨.ref (s.heap.objs.size+1)::vs,kw⟩) (PySem.W.InitBack (s.heap.objs.size+1) R)
   {s with heap:=(s.heap.push PySem.W.emptyDict).push (PySem.W.instObj C s.heap.objs.size) }) :
  codeAny (model prog w) A (.call (.ref C) ⟨vs,kw⟩) R s:=by
 obtain ⟨hh,g,d,t,os⟩:=s
 exact PySem.W.make_core (PySem.W.makes_of X hm) (PySem.W.looks_findIn X hi) (λself=>PySem.W.bind_fn X self hf) (.inl rfl) h
end
def gf (f:Str) (v:V):List (Str × V)->List (Str × V)
 | []=>[(f,v)]
 | (g,x)::r=>if g=f then (g,v)::r else (g,x)::gf f v r
theorem jX (f g:Str) (v:V):∀ fs:List (Str × V),(gf f v fs).lookup g=if g=f then some v else fs.lookup g
 | []=>by
  show List.lookup g [(f,v)]=_
  by_cases h:g=f
  ·have hb:(g == f)=true:=beq_iff_eq.mpr h
   simp only [List.lookup,hb,if_pos h]
  ·have hb:(g == f)=false:=beq_eq_false_iff_ne.mpr h
   simp only [List.lookup,hb,if_neg h]
 | (k,x)::r=>by
  have ih:=jX f g v r
  rw [show gf f v ((k,x)::r)=(if k=f then (k,v)::r else (k,x)::gf f v r) from rfl]
  by_cases hk:k=f
  ·rw [if_pos hk]
   by_cases h:g=k
   ·have hb:(g == k)=true:=beq_iff_eq.mpr h
    simp only [List.lookup,hb,if_pos (h.trans hk)]
   ·have hb:(g == k)=false:=beq_eq_false_iff_ne.mpr h
    simp only [List.lookup,hb,if_neg (λe:g=f=>h (e.trans hk.symm))]
  ·rw [if_neg hk]
   by_cases h:g=k
   ·have hb:(g == k)=true:=beq_iff_eq.mpr h
    simp only [List.lookup,hb,if_neg (λe:g=f=>hk (h.symm.trans e))]
   ·have hb:(g == k)=false:=beq_eq_false_iff_ne.mpr h
    simp only [List.lookup,hb]
    exact ih
theorem jA (f:Str) (v:V):∀ fs:List (Str × V),f ∈ (gf f v fs).map (·.1)/\∀ g,g ∈ fs.map (·.1)->g ∈ (gf f v fs).map (·.1)
 | []=>⟨by simp [gf],λg h=>by simp at h⟩
 | (k,x)::r=>by
  obtain ⟨i1,i2⟩:=jA f v r
  rw [show gf f v ((k,x)::r)=(if k=f then (k,v)::r else (k,x)::gf f v r) from rfl]
  by_cases hk:k=f
  ·rw [if_pos hk]
   subst hk
   exact ⟨by simp,λg h=>by simpa using h⟩
  ·rw [if_neg hk]
   refine ⟨?_,λg h=>?_⟩
   ·rw [List.map_cons]
    exact List.mem_cons_of_mem _ i1
   ·rw [List.map_cons] at h ⊢
    rcases List.mem_cons.mp h with e | e
    ·exact List.mem_cons.mpr (.inl e)
    ·exact List.mem_cons_of_mem _ (i2 g e)
theorem jW (f:Str) (v:V):∀ fs:List (Str × V),(gf f v fs).length≤fs.length+1
 | []=>by simp [gf]
 | (k,x)::r=>by
  have ih:=jW f v r
  rw [show gf f v ((k,x)::r)=(if k=f then (k,v)::r else (k,x)::gf f v r) from rfl]
  by_cases hk:k=f
  ·rw [if_pos hk,List.length_cons,List.length_cons];omega
  ·rw [if_neg hk,List.length_cons,List.length_cons];omega
theorem RelO.some_of {v:V} {o:Option Value} (r:RelO (some v) o):∃ u,o=some u/\RelV v u:=by
 cases o with
 | none=>exact (show False from r).elim
 | some u=>exact ⟨u,rfl,r⟩
theorem RelO.none_of {o:Option Value} (r:RelO none o):o=none:=by
 cases o with
 | none=>rfl
 | some u=>exact (show False from r).elim
theorem uj {v:V} (r:RelV v u):PySem.W.handedIn u=true:=by
 cases v with
 | non=>cases (show u=Value.none from r);rfl
 | bl b=>cases (show u=Value.bool b from r);rfl
 | int i=>obtain ⟨t,e⟩:=(show ∃ t,u=Value.int i t from r);cases e;rfl
 | str x=>obtain ⟨t,e⟩:=(show ∃ t,u=Value.str x t from r);cases e;rfl
 | byt b=>obtain ⟨t,e⟩:=(show ∃ t,u=Value.bytes b t from r);cases e;rfl
 | flt b=>obtain ⟨t,e⟩:=(show ∃ t,u=Value.float b t from r);cases e;rfl
 | ref a=>cases (show u=Value.ref a from r);rfl
 | ty n=>cases (show u=Value.type n from r);rfl
section
variable {P:Program} {w:World} {H H':Hp} {h h':Heap} {a C dx:Addr} {fs fs':List (Str × V)}
theorem nG (hok:HOk P w H h) (e:H a=some (.ins C dx fs)):∃ mA,ObjM h a dx C mA/\(∀ f,RelO (fs.lookup f) (mA f))/\PySem.Within mA (fs.map (·.1))/\fs.length≤1000/\H dx=some (.own a):=by
 obtain ⟨d,z,ne,ob,mA,n,r,q⟩:=(show ObjOk P w H h a (.ins C dx fs) from hok a _ e)
 exact ⟨mA,⟨ob,n,ne⟩,r,q,z,d⟩
end
structure Cls (K:PySem.W.Frag) (C:Addr):Prop where
 pg:PySem.W.plainGet K C Str.empty=true
 hd:PySem.W.hasDictIn K C=true
 po:PySem.W.plainOver K C=true
 sa:PySem.W.findIn K (.ref C) "__setattr__"=some (some (.builtin "object.__setattr__"))
theorem Cls.get (c:Cls K C) (f:Str):PySem.W.plainGet K C f=true:=c.pg
def NoAttr (K:PySem.W.Frag) (C:Addr) (f:Str):Prop:=PySem.W.findIn K (.ref C) f=some none
theorem NoAttr.taker {f:Str} (n:NoAttr K C f):PySem.W.takerIn K C f=some none:=by
 unfold PySem.W.takerIn
 rw [show PySem.W.findIn K (.ref C) f=some none from n]
 rfl
structure lT (K:PySem.W.Frag) (C:Addr) (m:Str) (f:Addr):Prop where
 at_:PySem.W.findIn K (.ref C) m=some (some (.ref f))
 fn:PySem.W.isFn K (.ref f)=true
 kp:PySem.W.keepIn K (.ref f)=true
section
variable {X:Cx} {pins:List (Addr × Obj)} {σ:St} {H:Hp} {s:Shared} {a C dx:Addr} {fs:List (Str × V)} {f:Str} {v:V} {A:Around} {E:Value->Shared->Prop}
theorem qM {b:Bool} {Q:Value->Shared->Prop} (I:Inv X pins σ H s) (e:H a=some (.ins C dx fs)) (c:Cls X.K C) (n:NoAttr X.K C f) (l:fs.lookup f=some v)
  (h:∀ u s',Inv X pins σ H s'->RelV v u->Q u s'):wpAny (model X.prog X.w) A (getAttr (.ref a) f b) Q E s:=by
 obtain ⟨mA,O,r,_,_,_⟩:=nG I.hok e
 obtain ⟨u,hu,ru⟩:=RelO.some_of (v:=v) (o:=mA f) (by rw [← l];exact r f)
 exact yF I.kIn O (c.get f) c.hd n hu (uj ru) (h u _ (I.tok _) ru)
theorem iD {m:Str} {g:Addr} {pl:Sem Bool} {Q:Value × List Value->Shared->Prop} (I:Inv X pins σ H s) (e:H a=some (.ins C dx fs)) (c:Cls X.K C) (k:lT X.K C m g) (l:fs.lookup m=none)
  (h:Q (.ref g,[.ref a]) s):wpAny (model X.prog X.w) A (getMethod (.ref a) m pl) Q E s:=by
 obtain ⟨mA,O,r,_,_,_⟩:=nG I.hok e
 have hn:mA m=none:=RelO.none_of (by rw [← l];exact r m)
 exact we I.kIn O (c.get m) k.at_ k.fn hn h
theorem rY {y:V} {u:Value} {Q:Unit->Shared->Prop} (I:Inv X pins σ H s) (e:H a=some (.ins C dx fs)) (c:Cls X.K C) (n:NoAttr X.K C f) (hl:fs.length < 1000) (ry:RelV y u)
  (h:∀ s',Inv X pins σ (upd H a (.ins C dx (gf f y fs))) s'->Q () s'):wpAny (model X.prog X.w) A (setAttr (.ref a) f u) Q E s:=by
 obtain ⟨mA,O,r,wi,_,ho⟩:=nG I.hok e
 have hz:(fs.map (·.1)).length≤sizeLine:=by rw [List.length_map,sizeLine_eq];omega
 refine zO I.kIn O c.sa c.po n.taker c.hd wi hz λh' O' sb=>h _ ?_
 have hd:∃ o,h'.get? dx=some o:=let ⟨o,_,_,e',_⟩:=O'.ns;⟨o,e'⟩
 refine I.write (x:=a) (e:=dx) (by rw [e];exact True.intro) (.inr ho) (λb q hb z=>(sb.2 b hb).trans z) hd ?_
 refine ⟨by rw [aD O.ne];exact ho,?_,O.ne,O'.obj,_,O'.ns,λg=>?_,λg hg=>?_⟩
 ·have:=jW f y fs;omega
 ·show RelO ((gf f y fs).lookup g) (if g=f then some u else mA g)
  rw [jX]
  by_cases q:g=f
  ·rw [if_pos q,if_pos q];exact ry
  ·rw [if_neg q,if_neg q];exact r g
 ·by_cases q:g=f
  ·rw [q];exact (jA f y fs).1
  ·refine (jA f y fs).2 g (wi g λz=>hg ?_)
   show (if g=f then some u else mA g)=none
   rw [if_neg q];exact z
theorem Inv.made (I:Inv X pins σ H s):Inv X pins σ (upd (upd H s.heap.objs.size (.own (s.heap.objs.size+1))) (s.heap.objs.size+1) (.ins C s.heap.objs.size []))
  {s with heap:=(s.heap.push PySem.W.emptyDict).push (PySem.W.instObj C s.heap.objs.size) }:=by
 have e1:(s.heap.push PySem.W.emptyDict).get? s.heap.objs.size=some PySem.W.emptyDict:=Heap.get?_push_size s.heap rfl
 have e2:((s.heap.push PySem.W.emptyDict).push (PySem.W.instObj C s.heap.objs.size)).get? (s.heap.objs.size+1)=some (PySem.W.instObj C s.heap.objs.size):=by
  have:=Heap.get?_push_size (s.heap.push PySem.W.emptyDict) (o:=PySem.W.instObj C s.heap.objs.size) rfl
  rwa [Heap.size_push] at this
 have e3:(s.heap.push PySem.W.emptyDict).Ns s.heap.objs.size (λ_=>none):=⟨PySem.W.emptyDict,#[],_,e1,rfl,(λe he=>absurd he (by simp)),λ_=>rfl⟩
 have I1:=I.laid (a:=s.heap.objs.size) (o:=.own (s.heap.objs.size+1)) (h':=s.heap.push PySem.W.emptyDict) (t':=s.toks) (λb u q=>Heap.get?_push_of_some _ q) (Nat.le_refl _) ⟨_,e1⟩
 refine I1.laid (a:=s.heap.objs.size+1) (o:=.ins C s.heap.objs.size []) (t':=s.toks) (λb u q=>Heap.get?_push_of_some _ q) (Nat.le_of_eq (Heap.size_push _ _)) ?_
 have ne:s.heap.objs.size≠s.heap.objs.size+1:=Nat.ne_of_lt (Nat.lt_succ_self _)
 refine ⟨by rw [aD ne,av],Nat.zero_le _,ne,e2,λ_=>none,(Heap.Ns1.of_empty e3).at λo q=>Heap.get?_push_of_some _ q,λ_=>True.intro,λy hy=>absurd rfl hy⟩
theorem ym {prog:Program} {w:World} {env:Env} {e:Expr} {f:Str} {pos:Pos} {s:Shared} {Q:Value->Shared->Prop} (hb:attributeBase e f env (eval e env)=eval e env)
  (h:wpAny (model prog w) A (eval e env) (λo s₁=>wpAny (model prog w) A (getAttr o f true) Q E s₁) E s):wpAny (model prog w) A (eval (.Attribute e f pos) env) Q E s :=
 Attribute_any_ h (by rw [arm_eval_Attribute,hb])
end
def jo (K:PySem.W.Frag) (ta:TE) (f:Str):TE:=λσ H Q=>ta σ H λx H1=>∃ a C dx fs v,x=.ref a/\H1 a=some (.ins C dx fs)/\Cls K C/\NoAttr K C f/\fs.lookup f=some v/\Q v H1
def Ck (K:PySem.W.Frag) (ta tv:TE) (f:Str):TS:=λD σ H=>tv σ H λy H1=>ta σ H1 λx H2=>∃ a C dx fs,x=.ref a/\H2 a=some (.ins C dx fs)/\Cls K C/\NoAttr K C f/\fs.length < 1000 /\
 D.nx σ (upd H2 a (.ins C dx (gf f y fs)))
section
variable {X:Cx} {o e value:Expr} {f:Str} {pos pos' tpos:Pos} {ta tv:TE}
theorem cg (he:PE X e ta) (hb:attributeBase e f X.env (eval e X.env)=eval e X.env):PE X (.Attribute e f pos) (jo X.K ta f):=by
 intro pins s σ H Q I h
 refine ym hb (thn (he pins s σ H _ I h) λu s1 ⟨x,H1,I1,rx,a,C,dx,fs,v,ex,ea,c,n,l,q⟩=>?_)
 subst ex
 obtain rfl:u=Value.ref a:=rx
 exact qM I1 ea c n l λu' s2 I2 ru=>⟨v,H1,I2,ru,q⟩
theorem gc (ha:PE X o ta) (hv:PE X value tv) (hs:swapsWith value (some (.Attribute o f pos')) pos.line X.env=pure false):PS X (.Assign [.Attribute o f pos'] value pos) (Ck X.K ta tv f):=by
 intro pins s σ H D I h
 refine plainObj_wpAny_Assign_Attribute (thn (hv pins s σ H _ I h) λu s1 ⟨y,H1,I1,ry,q⟩=>thn (ha pins s1 σ H1 _ I1 q) λov s2 ⟨x,H2,I2,rx,a,C,dx,fs,ex,ea,c,n,l,q2⟩=>?_) hs
 subst ex
 obtain rfl:ov=Value.ref a:=rx
 exact rY I2 ea c n l ry λs3 I3=>⟨σ,_,I3,q2⟩
end
section
variable {X:Cx} {pins:List (Addr × Obj)} {σ:St} {H:Hp} {s:Shared} {A:Around} {E:Value->Shared->Prop} {Q:Value->Shared->Prop} {c:Value} {b:Bool}
end
structure Room (k:Nat) (A:Around):Prop where
 hd:A.handled=none
 dp:A.depth+3 * k+5 < recursionLimit
 un:A.units+16 * k+200 < cLine
variable {j k:Nat}
theorem Room.mono (r:Room k A) (h:j≤k):Room j A:=⟨r.hd,by have:=r.dp;omega,by have:=r.un;omega⟩
theorem Room.deeper (r:Room (k+1) A) (env:Env):Room k (A.deeper env) :=
 ⟨r.hd,by have:=r.dp;show A.depth+1+3 * k+5 < _;omega,by have:=r.un;show A.units+3+16 * k+200 < _;omega⟩
variable {kw:List (Str × Value)}
theorem qV:(A.under (.builtin "type.__call__" ⟨.ref C::us,kw⟩)).depth=A.depth+1:=by
 first | rfl | simp [Around.under,Code.weight,Code.isCreation,Code.isGuard,Code.isCaller,Code.frames,Code.isFrame,guardIds]
theorem qW:(A.under (.builtin "type.__call__" ⟨.ref C::us,kw⟩)).units=A.units+1:=by
 first | rfl | simp [Around.under,Code.cUnits,Code.frames,Code.isFrame]
theorem Room.make (r:Room (k+1) A) (C:Addr) (us:List Value) (kw:List (Str × Value)):Room k (A.under (.builtin "type.__call__" ⟨.ref C::us,kw⟩)) :=
 ⟨r.hd,by have:=r.dp;rw [qV];omega,by have:=r.un;rw [qW];omega⟩
theorem Room.depth (r:Room k A):A.depth < recursionLimit:=by have:=r.dp;omega
theorem Room.units (r:Room k A):A.units+64 < cLine:=by have:=r.un;omega
def ck:TA:=λ_ H Q=>Q [] H
def bj (ta:TE) (tr:TA):TA:=λσ H Q=>ta σ H λx H1=>tr σ H1 λxs H2=>Q (x::xs) H2
section
variable {X:Cx} {e:Expr} {es:List Expr} {te:TE} {t:TA} {pos:Pos}
theorem af:PA X [] ck:=λ_ _ _ _ H Q I h=>Calls.spliced_nil ⟨[],H,I,.nil,h⟩
theorem aT (ha:PE X e te) (hr:PA X es t) (hs:starEach (e::es) X.env=(false,eval e X.env)::starEach es X.env:=by rfl):PA X (e::es) (bj te t):=by
 intro pos pins s σ H Q I h
 rw [hs]
 show wpAny _ _ (spliced ((false,eval e X.env)::backTo pos (starEach es X.env))) _ _ s
 refine Calls.spliced_cons (thn (ha pins s σ H _ I h) λu s1 ⟨x,H1,I1,r1,q1⟩=>?_)
 exact thn (hr pos pins s1 σ H1 _ I1 q1) λus s2 ⟨xs,H2,I2,r2,q2⟩=>⟨x::xs,H2,I2,.cons r1 r2,q2⟩
def BL (t:TA):TE:=λσ H Q=>t σ H λxs H1=>xs.length≤sizeLine/\∀ p,H1 p=none->Q (.ref p) (upd H1 p (.tup xs))
def uW (t:TA):TE:=λσ H Q=>t σ H λxs H1=>xs.length≤sizeLine/\∀ p,H1 p=none->Q (.ref p) (upd H1 p (.lst xs))
theorem ay {x1} (h:PA X es t):PE X (.Tuple es x1 pos) (BL t):=by
 intro pins s σ H Q I hq
 refine wpAny_Tuple_spliced (thn (h pos pins s σ H _ I hq) λus s1 ⟨xs,H1,I1,r,z,q⟩=>⟨by rw [← r.length];exact z,?_⟩)
 have hf:H1 s1.heap.objs.size=none:=I1.hok.fresh (Nat.le_refl _)
 refine ⟨.ref s1.heap.objs.size,upd H1 s1.heap.objs.size (.tup xs),I1.laid (t':=s1.toks) (λb u e=>Heap.get?_push_of_some _ e) (Nat.le_refl _) ?_,rfl,q _ hf⟩
 exact ⟨z,us,r,⟨_,Heap.get?_push_size _ rfl,rfl,_,rfl⟩⟩
theorem bp (h:PA X es t):PE X (.List es pos) (uW t):=by
 intro pins s σ H Q I hq
 refine wpAny_List_spliced (thn (h pos pins s σ H _ I hq) λus s1 ⟨xs,H1,I1,r,z,q⟩=>⟨by rw [← r.length];exact z,?_⟩)
 have hf:H1 s1.heap.objs.size=none:=I1.hok.fresh (Nat.le_refl _)
 refine ⟨.ref s1.heap.objs.size,upd H1 s1.heap.objs.size (.lst xs),I1.laid (t':=s1.toks) (λb u e=>Heap.get?_push_of_some _ e) (Nat.le_refl _) ?_,rfl,q _ hf⟩
 exact ⟨z,us,0,r,Heap.get?_push_size _ rfl⟩
end
abbrev Sp:=List V->Hp->VK->XK->Prop
abbrev CXT:=List Env->Hp->Shared->XK->Value->Shared->Prop
structure Env0 (P:Program) (w:World) (K:PySem.W.Frag) (mg:Str->Option Value) (base:Heap) (A:Around) (outer:List Env) (s:Shared) (H:Hp):Prop where
 frames:A.frames=some outer
 mod:Mod K mg base
 bs:∀ b o,base.get? b=some o->s.heap.get? b=some o/\H b=none
 bsz:base.objs.size≤s.heap.objs.size
 funs:s.heap.FunFrames base outer
 frf:∀ b ∈ frs outer,H b=none
 hok:HOk P w H s.heap
 bare:AllBare s.gens
def CE (outer:List Env) (P:Program) (w:World) (H:Hp) (s:Shared) (Q:VK) (u:Value) (s':Shared):Prop :=
 ∃ v H',s'.os=s.os/\AllBare s'.gens/\Un (frs outer) [] H H' s.heap s'.heap/\HOk P w H' s'.heap/\RelV v u/\Q v H'
def CR (CX:CXT) (outer:List Env) (P:Program) (w:World) (H:Hp) (s:Shared) (Q:VK) (E:XK) (r:Result) (s':Shared):Prop :=
 match r with
 | .ok (.ret u)=>CE outer P w H s Q u s'
 | .ok _=>False
 | .error e=>CX outer H s E e s'
structure FnOk (P:Program) (w:World) (K:PySem.W.Frag) (mg:Str->Option Value) (base:Heap) (CX:CXT) (k:Nat) (f:Addr) (fd:FuncData) (ps:List Str) (sp:Sp):Prop where
 len:∀ vs H Q E,sp vs H Q E->vs.length=ps.length
 run:∀ (A:Around) (outer:List Env) (s:Shared) (H:Hp) (args:Args) (us:List Value) (vs:List V) (Q:VK) (E:XK),Room k A->Env0 P w K mg base A outer s H->BindsTo s fd args (ps.zip us)->Vals vs us->sp vs H Q E ->
  codeAny (model P w) A (.call (.ref f) args) (CR CX outer P w H s Q E) s
variable {mg:Str->Option Value} {base:Heap} {CX:CXT} {f:Addr} {fd:FuncData} {ps:List Str} {sp:Sp}
theorem FnOk.mono (F:FnOk P w K mg base CX j f fd ps sp) (h:j≤k) :
  FnOk P w K mg base CX k f fd ps sp:=⟨F.len,λA outer s H args us vs Q E hr=>F.run A outer s H args us vs Q E (hr.mono h)⟩
variable {outer:List Env}
theorem Env0.make (e:Env0 P w K mg base A outer s H) (C:Addr) (us:List Value) (kw:List (Str × Value)) :
  Env0 P w K mg base (A.under (.builtin "type.__call__" ⟨.ref C::us,kw⟩)) outer s H:=⟨by first | exact e.frames | (simpa [Around.under,Code.envs,Code.isFrame,pushEnvs] using e.frames),e.mod,e.bs,e.bsz,e.funs,e.frf,e.hok,e.bare⟩
section
variable {X:Cx} {pins:List (Addr × Obj)} {σ:St} {H:Hp} {s s':Shared}
theorem Inv.env0 (I:Inv X pins σ H s):Env0 X.prog X.w X.K X.mg X.base X.A X.stack s H :=
 ⟨I.ok.frames,I.ok.mod,I.bs,Nat.le_trans I.ok.bsz I.sz,I.stack,I.stkFree,I.hok,I.bare⟩
theorem Inv.after {Q:VK} {u:Value} (I:Inv X pins σ H s) (h:CE X.stack X.prog X.w H s Q u s'):EP X pins σ Q u s':=by
 obtain ⟨v,H',os,bare,un,hok,r,q⟩:=h
 obtain ⟨hh,g,d,t,os'⟩:=s'
 obtain rfl:os'=s.os:=os
 exact ⟨v,H',I.call (h':=hh) (g':=g) (d':=d) (t':=t) (ch:=[]) un hok bare (λb z=>absurd z (by simp)),r,q⟩
end
def fV (sp:Sp) (dvs:List V) (E:XK) (t:TA):TE:=λσ H Q=>t σ H λvs H1=>sp (vs++dvs) H1 Q E
def m5 (C:Addr) (m:Str) (sp:Sp) (dvs:List V) (E:XK) (ta:TE) (t:TA):TE:=λσ H Q=>ta σ H λx H1=>∃ a dx fs,x=.ref a/\H1 a=some (.ins C dx fs)/\fs.lookup m=none /\
 t σ H1 λvs H2=>sp (x::(vs++dvs)) H2 Q E
def Ct (C:Addr) (sp:Sp) (dvs:List V) (E:XK) (t:TA):TE:=λσ H Q=>t σ H λvs H1=>∀ x dx,H1 x=none->H1 dx=none->dx≠x ->
 sp (.ref x::(vs++dvs)) (upd (upd H1 dx (.own x)) x (.ins C dx [])) (λv H2=>v=.non/\Q (.ref x) H2) E
def Binds (K:PySem.W.Frag) (fd:FuncData) (ps:List Str) (ds:List Value):Prop :=
 ∀ (s:Shared) (us:List Value),K.In s.heap->(us++ds).length=ps.length->BindsTo s fd ⟨us,[]⟩ (ps.zip (us++ds))
theorem Binds.all (h:∀ us:List Value,us.length=ps.length->bindArgs fd ⟨us,[]⟩=pure (ps.zip us)):Binds K fd ps []:=λs us _ hl=>by
 rw [List.append_nil] at hl ⊢
 exact .of_eq (h us hl)
def eZ (CX:CXT) (X:Cx) (E:XK):Prop:=∀ (pins:List (Addr × Obj)) (σ:St) (H:Hp) (s:Shared) (e:Value) (s':Shared),Inv X pins σ H s->CX X.stack H s E e s'->X.xe e s'
section
variable {X:Cx} {CX:CXT} {k:Nat} {f C:Addr} {fd:FuncData} {ps:List Str} {sp:Sp} {dvs:List V} {ds:List Value} {E:XK} {x m:Str} {p pos apos:Pos} {e o:Expr} {es:List Expr} {ta:TE} {t:TA}
variable {pins:List (Addr × Obj)} {σ:St} {H:Hp} {s:Shared} {Q:VK} {us:List Value} {vs:List V}
theorem rT (F:FnOk X.prog X.w X.K X.mg X.base CX k f fd ps sp) (hr:Room k X.A) (hb:Binds X.K fd ps ds) (hd:Vals dvs ds) (hx:eZ CX X E)
  (I:Inv X pins σ H s) (r:Vals vs us) (h:sp (vs++dvs) H Q E):wpAny (model X.prog X.w) X.A (call (.ref f) us) (EP X pins σ Q) X.xe s:=by
 have r2:Vals (vs++dvs) (us++ds):=r.append hd
 have hl:(us++ds).length=ps.length:=by rw [← r2.length];exact F.len _ _ _ _ h
 refine wpAny_call (codeAny_mono (F.run X.A X.stack s H ⟨us,[]⟩ (us++ds) (vs++dvs) Q E hr I.env0 (hb s us I.kIn hl) r2 h) λr s' hq=>?_)
 cases r with
 | error e=>exact hx pins σ H s e s' I hq
 | ok fl =>
  cases fl with
  | ret u=>exact I.after hq
  | next=>exact False.elim hq
  | brk=>exact False.elim hq
  | cont=>exact False.elim hq
theorem aF (F:FnOk X.prog X.w X.K X.mg X.base CX k f fd ps sp) (hr:Room k X.A) (hg:Gl X x) (hm:X.mg x=some (.ref f)) (hk:PySem.W.keepIn X.K (.ref f)=true) (hb:Binds X.K fd ps ds) (hd:Vals dvs ds) (hx:eZ CX X E)
  (ha:PA X (e::es) t) (hdb:(x == ("__debug__":Str))=false:=by decide) (he:starEach (e::es) X.env=(false,eval e X.env)::starEach es X.env:=by rfl) (hpl:(backTo pos (starEach es X.env)).any (·.1)=false:=by rfl) :
  PE X (.Call (.Name x p) (e::es) [] pos) (fV sp dvs E t):=by
 intro pins s σ H Q I h
 refine wpAny_Call_Name_kw (eA I hg hm ?_ hdb)
 refine PySem.W.callWith_K (h₀:=X.base) I.ok.mod.kin hk (thn (ha pos pins s σ H _ I h) λus s1 ⟨vs,H1,I1,r,q⟩=>⟨I1.kIn,?_⟩) he hpl
 exact rT F hr hb hd hx I1 r q
variable {pl:Sem Bool}
theorem eF (he:PE X o ta) (c:Cls X.K C) (hm:lT X.K C m f) (F:FnOk X.prog X.w X.K X.mg X.base CX k f fd ps sp) (hr:Room k X.A) (hb:Binds X.K fd ps ds) (hd:Vals dvs ds) (hx:eZ CX X E) (ha:PA X (e::es) t)
  (hst:starEach (e::es) X.env=(false,eval e X.env)::starEach es X.env:=by rfl) (hpl:(backTo pos (starEach es X.env)).any (·.1)=false:=by rfl)
  (ht:eval (.Call (.Attribute o m apos) (e::es) [] pos) X.env=(do
   let ov ← eval o X.env
   standAt apos.atName
   let (f,first) ← holding [ov] (getMethod ov m pl)
   callWith pos f first (backTo pos (starEach (e::es) X.env)) (backToKw pos (keywordEach [] X.env))):=by rfl) :
  PE X (.Call (.Attribute o m apos) (e::es) [] pos) (m5 C m sp dvs E ta t):=by
 intro pins s σ H Q I h
 refine PySem.W.methodCall_KW (pl:=pl) (thn (he pins s σ H _ I h) λu s1 ⟨x,H1,I1,rx,a,dx,fs,ex,ea,l,q⟩=>?_) ht
 subst ex
 obtain rfl:u=Value.ref a:=rx
 refine iD I1 ea c hm l ?_
 refine PySem.W.callWith_K (first:=[.ref a]) (h₀:=X.base) I.ok.mod.kin hm.kp (thn (ha pos pins s1 σ H1 _ I1 q) λus s2 ⟨vs,H2,I2,r,q2⟩=>⟨I2.kIn,?_⟩) hst hpl
 exact rT (us:=.ref a::us) (vs:=.ref a::vs) F hr hb hd hx I2 (.cons rfl r) q2
theorem gP (he:PE X o ta) (c:Cls X.K C) (hm:lT X.K C m f) (F:FnOk X.prog X.w X.K X.mg X.base CX k f fd ps sp) (hr:Room k X.A) (hb:Binds X.K fd ps ds) (hd:Vals dvs ds) (hx:eZ CX X E)
  (ht:eval (.Call (.Attribute o m apos) [] [] pos) X.env=(do
   let ov ← eval o X.env
   standAt apos.atName
   let (f,first) ← holding [ov] (getMethod ov m pl)
   callWith pos f first (backTo pos (starEach [] X.env)) (backToKw pos (keywordEach [] X.env))):=by rfl) :
  PE X (.Call (.Attribute o m apos) [] [] pos) (m5 C m sp dvs E ta ck):=by
 intro pins s σ H Q I h
 refine PySem.W.methodCall_KW (pl:=pl) (thn (he pins s σ H _ I h) λu s1 ⟨x,H1,I1,rx,a,dx,fs,ex,ea,l,q⟩=>?_) ht
 subst ex
 obtain rfl:u=Value.ref a:=rx
 refine iD I1 ea c hm l ?_
 exact PySem.W.callWith_K0 (first:=[.ref a]) I1.kIn hm.kp (rT (us:=[.ref a]) (vs:=[.ref a]) F hr hb hd hx I1 (.cons rfl .nil) q)
structure Mk (K:PySem.W.Frag) (C f:Addr):Prop where
 makes:PySem.W.makesIn K C=true
 init:PySem.W.findIn K (.ref C) "__init__"=some (some (.ref f))
 fn:PySem.W.isFn K (.ref f)=true
 kp:PySem.W.keepIn K (.ref C)=true
theorem xM (M:Mk X.K C f) (F:FnOk X.prog X.w X.K X.mg X.base CX k f fd ps sp) (hr:Room (k+1) X.A) (hb:Binds X.K fd ps ds) (hd:Vals dvs ds)
  (hx:eZ CX X E) (I:Inv X pins σ H s) (r:Vals vs us)
  (h:∀ x dx,H x=none->H dx=none->dx≠x->sp (.ref x::(vs++dvs)) (upd (upd H dx (.own x)) x (.ins C dx [])) (λv H2=>v=.non/\Q (.ref x) H2) E) :
  wpAny (model X.prog X.w) X.A (call (.ref C) us) (EP X pins σ Q) X.xe s:=by
 have hq:=h (s.heap.objs.size+1) s.heap.objs.size (I.hok.fresh (Nat.le_succ _)) (I.hok.fresh (Nat.le_refl _)) (Nat.ne_of_lt (Nat.lt_succ_self _))
 have I2:=Inv.made (C:=C) I
 have r2:Vals (V.ref (s.heap.objs.size+1)::(vs++dvs)) (Value.ref (s.heap.objs.size+1)::(us++ds)):=.cons rfl (r.append hd)
 have hl:(Value.ref (s.heap.objs.size+1)::us++ds).length=ps.length:=by
  have e:=r2.length
  rw [F.len _ _ _ _ hq] at e
  exact e.symm
 refine wpAny_call (wN (f:=f) I.kIn M.makes M.init (beq_iff_eq.mp M.fn) (codeAny_mono (F.run _ X.stack _ _ ⟨Value.ref (s.heap.objs.size+1)::us,[]⟩ (Value.ref (s.heap.objs.size+1)::(us++ds)) _ _ E (hr.make C us [])
  (I2.env0.make C us []) (hb _ (Value.ref (s.heap.objs.size+1)::us) I2.kIn hl) r2 hq) λr s' hq'=>?_))
 cases r with
 | error e=>exact hx pins σ _ _ e s' I2 hq'
 | ok fl =>
  cases fl with
  | ret u =>
   obtain ⟨v,H',I3,rv,ev,q3⟩:=I2.after hq'
   subst ev
   exact ⟨rv,⟨V.ref (s.heap.objs.size+1),H',I3,rfl,q3⟩⟩
  | next=>exact False.elim hq'
  | brk=>exact False.elim hq'
  | cont=>exact False.elim hq'
theorem zh (M:Mk X.K C f) (F:FnOk X.prog X.w X.K X.mg X.base CX k f fd ps sp) (hr:Room (k+1) X.A) (hg:Gl X x) (hm:X.mg x=some (.ref C)) (hb:Binds X.K fd ps ds) (hd:Vals dvs ds) (hx:eZ CX X E)
  (ha:PA X (e::es) t) (hdb:(x == ("__debug__":Str))=false:=by decide) (he:starEach (e::es) X.env=(false,eval e X.env)::starEach es X.env:=by rfl) (hpl:(backTo pos (starEach es X.env)).any (·.1)=false:=by rfl) :
  PE X (.Call (.Name x p) (e::es) [] pos) (Ct C sp dvs E t):=by
 intro pins s σ H Q I h
 refine wpAny_Call_Name_kw (eA I hg hm ?_ hdb)
 refine PySem.W.callWith_K (h₀:=X.base) I.ok.mod.kin M.kp (thn (ha pos pins s σ H _ I h) λus s1 ⟨vs,H1,I1,r,q⟩=>⟨I1.kIn,?_⟩) he hpl
 exact xM M F hr hb hd hx I1 r q
end
def PK (X:Cx) (kws:List Keyword) (t:TA):Prop :=
 ∀ (pos:Pos) (pins:List (Addr × Obj)) (s:Shared) (σ:St) (H:Hp) (Q:List V->Hp->Prop),Inv X pins σ H s->t σ H Q->wpAny (model X.prog X.w) X.A (evalAll ((backToKw pos (keywordEach kws X.env)).map (·.2))) (AP X pins σ Q) X.xe s
section
variable {X:Cx} {CX:CXT} {k:Nat} {f C:Addr} {fd:FuncData} {ps ks:List Str} {sp:Sp} {E:XK} {x m:Str} {p pos apos kpos:Pos} {e o:Expr} {es:List Expr} {kws:List Keyword} {te ta:TE} {t tk:TA} {nm:Option Str}
theorem Bs:PK X [] ck:=λ_ _ _ _ H Q I h=>wpAny_evalAll_nil ⟨[],H,I,.nil,h⟩
theorem zl (ha:PE X e te) (hr:PK X kws t):PK X (⟨nm,e,kpos⟩::kws) (bj te t):=by
 intro pos pins s σ H Q I h
 show wpAny _ _ (evalAll ((do let v ← eval e X.env;standAt pos;pure v)::(backToKw pos (keywordEach kws X.env)).map (·.2))) _ _ s
 refine wpAny_evalAll_cons (wpAny_bind (thn (ha pins s σ H _ I h) λu s1 ⟨x,H1,I1,r1,q1⟩=>wpAny_bind (wpAny_standAt (wpAny_pure ?_))))
 exact thn (hr pos pins s1 σ H1 _ I1 q1) λus s2 ⟨xs,H2,I2,r2,q2⟩=>⟨x::xs,H2,I2,.cons r1 r2,q2⟩
structure vf (K:PySem.W.Frag) (fd:FuncData) (ps ks:List Str) (g:List Value->List Value->List Value) (gV:List V->List V->List V):Prop where
 to:∀ (s:Shared) (us ws:List Value),K.In s.heap->(g us ws).length=ps.length->BindsTo s fd ⟨us,ks.zip ws⟩ (ps.zip (g us ws))
 rel:∀ {vs:List V} {us:List Value} {zs:List V} {ws:List Value},Vals vs us->Vals zs ws->Vals (gV vs zs) (g us ws)
def oB (sp:Sp) (gV:List V->List V->List V) (E:XK) (t tk:TA):TE:=λσ H Q=>t σ H λvs H1=>tk σ H1 λzs H2=>sp (gV vs zs) H2 Q E
variable {g:List Value->List Value->List Value} {gV:List V->List V->List V}
end
structure FnScope (N P:List Str) (sc:Scope):Prop where
 kind:sc.kind=.function
 co:sc.isCoroutine=false
 gen:sc.isGenerator=false
 nd:N.Nodup
 pre:N.take P.length=P
 par:∀ x ∈ P,sc.names.lookup x=some .local\/sc.names.lookup x=some .cell
 nofree:∀ y ∈ sc.names,y.2≠.free
theorem FnScope.sc0 {N P:List Str} {sc:Scope} (a:sc.kind=.function:=by rfl) (b:sc.isCoroutine=false:=by rfl) (c:sc.isGenerator=false:=by rfl) (d:N.Nodup:=by decide +kernel) (e:N.take P.length=P:=by rfl) (f:∀ x ∈ P,sc.names.lookup x=some .local\/sc.names.lookup x=some .cell:=by decide +kernel) (g:∀ y ∈ sc.names,y.2≠.free:=by decide +kernel):FnScope N P sc:=⟨a,b,c,d,e,f,g⟩
variable {kindOf:Str->Option NameKind} {x:Str}
theorem mC:∀ {binds:List (Str × Value)} {m:Str->Option Value},(∀ v,(x,v) ∉ binds)->bindL kindOf binds m x=m x
 | [],_,_=>rfl
 | (n,v)::r,m,h=>by
  unfold bindL
  rw [mC λw hw=>h w (List.mem_cons_of_mem _ hw)]
  split
  ·have:x≠n:=by rintro rfl;exact h v List.mem_cons_self
   simp [this]
  ·rfl
theorem mz:∀ {binds:List (Str × Value)} {m:Str->Option Value},(∀ v,(x,v) ∉ binds)->bindC kindOf binds m x=m x
 | [],_,_=>rfl
 | (n,v)::r,m,h=>by
  unfold bindC
  rw [mz λw hw=>h w (List.mem_cons_of_mem _ hw)]
  split
  ·rfl
  ·have:x≠n:=by rintro rfl;exact h v List.mem_cons_self
   simp [this]
variable {v:Value}
theorem mB:∀ {P:List Str} {vs:List Value} {i:Nat} {m:Str->Option Value},P.Nodup->P[i]?=some x->vs[i]?=some v->kindOf x=some .local ->
  bindL kindOf (P.zip vs) m x=some v
 | [],_,_,_,_,h,_,_=>by simp at h
 | _::_,[],_,_,_,_,h,_=>by simp at h
 | p::P,w::vs,0,m,nd,h1,h2,hk=>by
  simp at h1 h2;subst h1;subst h2
  show bindL kindOf ((p,w)::P.zip vs) m p=_
  unfold bindL
  rw [mC λv hv=>(List.nodup_cons.mp nd).1 (List.of_mem_zip hv).1,if_pos hk]
  simp
 | p::P,w::vs,i+1,m,nd,h1,h2,hk=>by
  show bindL kindOf ((p,w)::P.zip vs) m x=_
  unfold bindL
  exact mB (i:=i) (List.nodup_cons.mp nd).2 (by simpa using h1) (by simpa using h2) hk
theorem my:∀ {P:List Str} {vs:List Value} {i:Nat} {m:Str->Option Value},P.Nodup->P[i]?=some x->vs[i]?=some v->kindOf x≠some .local ->
  bindC kindOf (P.zip vs) m x=some v
 | [],_,_,_,_,h,_,_=>by simp at h
 | _::_,[],_,_,_,_,h,_=>by simp at h
 | p::P,w::vs,0,m,nd,h1,h2,hk=>by
  simp at h1 h2;subst h1;subst h2
  show bindC kindOf ((p,w)::P.zip vs) m p=_
  unfold bindC
  rw [mz λv hv=>(List.nodup_cons.mp nd).1 (List.of_mem_zip hv).1,if_neg hk]
  simp
 | p::P,w::vs,i+1,m,nd,h1,h2,hk=>by
  show bindC kindOf ((p,w)::P.zip vs) m x=_
  unfold bindC
  exact my (i:=i) (List.nodup_cons.mp nd).2 (by simpa using h1) (by simpa using h2) hk
def cS (N:List Str) (vs:List V):St:=vs.map some++List.replicate (N.length - vs.length) none
def ic (CX:CXT) (P:Program) (w:World) (K:PySem.W.Frag) (mg:Str->Option Value) (base:Heap) (N:List Str) (qual:Str) (scope:Scope) (f:Addr) (cd:Value) (A:Around) (outer:List Env) (s:Shared) (H:Hp) (E:XK):Cx where
 prog:=P
 w:=w
 K:=K
 mg:=mg
 base:=base
 A:=A.deeper (envOfC qual scope s.heap.objs.size f cd)
 N:=N
 s₀:=s
 H₀:=H
 env:=envOfC qual scope s.heap.objs.size f cd
 outer:=outer
 stack:=envOfC qual scope s.heap.objs.size f cd::outer
 ex:=[]
 calm:=true
 fn:=λ_=>true
 pn:=[]
 xe:=λe s'=>wpAny (model P w) (A.deeper (envOfC qual scope s.heap.objs.size f cd)) (leaving (envOfC qual scope s.heap.objs.size f cd) e) (λ_ s''=>CX outer H s E e s'') (λe' s''=>CX outer H s E e' s'') s'
theorem oY {sc:Scope} (h:sc.names.lookup x=some .cell):∃ c,(cellsFrom n sc.names []).lookup x=some c:=by
 have q:=PySem.W.cellsFrom_some sc.names n [] (.inl h)
 exact Option.isSome_iff_exists.mp q
variable {N:List Str} {qual:Str} {scope:Scope}
theorem mK {cd:Value} {s1:Shared} {E:XK} {vs:List V}
  (S:FnScope N ps scope) (hd:A.handled=none) (e0:Env0 P w K mg base A outer s H) (hl:vs.length=ps.length) (r:Vals vs us)
  (x:InCallC s s.heap.objs.size (bindL (envOfC qual scope s.heap.objs.size f cd).kindOf (ps.zip us) λ_=>none) (cellsFrom (s.heap.objs.size+1) scope.names []) (bindC (envOfC qual scope s.heap.objs.size f cd).kindOf (ps.zip us) λ_=>none) s1) :
  Inv (ic CX P w K mg base N qual scope f cd A outer s H E) [] (cS N vs) H s1:=by
 have hpl:ps.length≤N.length:=by have:=congrArg List.length S.pre;rw [List.length_take] at this;omega
 obtain ⟨h1,tk,rfl,hk⟩:=x.done
 have noA:∀ b:Addr,b ∉ (ic CX P w K mg base N qual scope f cd A outer s H E).ex:=λb z=>absurd (show b ∈ ([]:List Addr) from z) (by simp)
 refine ⟨⟨e0.mod,S.kind,rfl,rfl,Nat.le_refl _,λy z c h1 h2=>?_,λy hy=>?_,λy c _ h=>?_,λ_=>hd,Around.frames_deeper e0.frames,.inr ⟨rfl,rfl⟩,λb z=>absurd z (noA b),e0.bs,e0.bsz,λb _ _=>noA b,λb z=>absurd z (noA b),e0.funs,e0.frf⟩,
  rfl,e0.bare,Un.kept hk,⟨_,x.toInCall.ns,λi y v h1 h2 h3=>?_⟩,λy c h=>⟨_,x.cell y c h⟩,e0.hok.fresh (Nat.le_refl _),λy c h=>?_,λp hp=>absurd (show p ∈ ([]:List (Addr × Obj)) from hp) (by simp),e0.hok.kept hk,?_⟩
 ·exact name_of_addr x.apart (PySem.mem_of_lookup h1) (PySem.mem_of_lookup h2)
 ·have hy:scope.names.lookup y=some .cell\/scope.names.lookup y=some .free:=hy
  rcases hy with hy | hy
  ·exact oY hy
  ·exact absurd rfl (S.nofree _ (PySem.mem_of_lookup hy))
 ·exact Nat.le_of_lt (x.above y c (PySem.mem_of_lookup h))
 ·have hi:i < vs.length:=by
   unfold cS at h2
   by_cases hi:i < vs.length
   ·exact hi
   ·rw [List.getElem?_append_right (by simpa using hi)] at h2
    rw [List.getElem?_replicate] at h2
    split at h2 <;> cases h2
  have ha:vs[i]?=some v:=by
   unfold cS at h2
   rw [List.getElem?_append_left (by simpa using hi),List.getElem?_map] at h2
   cases e:vs[i]? with
   | none=>rw [e] at h2;cases h2
   | some a=>rw [e] at h2;cases h2;rfl
  obtain ⟨u,hu,rv⟩:=r.get ha
  have hp:ps[i]?=some y:=by
   rw [← S.pre,List.getElem?_take_of_lt (by omega)];exact h1
  have ndP:ps.Nodup:=by rw [← S.pre];exact S.nd.sublist (List.take_sublist _ _)
  refine ⟨u,rv,?_⟩
  rcases S.par y (List.mem_of_getElem? hp) with k | k
  ·exact .inl ⟨k,mB ndP hp hu k⟩
  ·obtain ⟨c,e⟩:=oY (n:=s.heap.objs.size+1) k
   refine .inr ⟨.inl k,c,e,?_⟩
   have q:=x.cell y c e
   rw [my ndP hp hu (by show scope.names.lookup y≠_;rw [k];decide)] at q
   exact q
 ·exact e0.hok.fresh (Nat.le_of_lt (x.above y c (PySem.mem_of_lookup h)))
 ·unfold cS
  show _=N.length
  rw [List.length_append,List.length_map,List.length_replicate]
  omega
theorem wa {name:Str} {params:Arguments} {body:List Stmt} {dV kV doc pm cdv ct oc:Value} {an od:Option Addr} {osl:Array (Option Value)} (lk:K.lookup f=some ⟨oc,od,.func (PySem.W.fnOf name qual params body scope dV kV doc pm an cdv ct),osl⟩) (hcd:PySem.W.codeIn K cdv qual=true) (S:FnScope N ps scope)
  (len:∀ vs H Q E,sp vs H Q E->vs.length=ps.length)
  (hbody:∀ (A:Around) (outer:List Env) (s:Shared) (H:Hp) (vs:List V) (Q:VK) (E:XK),Room k (A.deeper (envOfC qual scope s.heap.objs.size f cdv))->sp vs H Q E ->
   ∃ t,PSs (ic CX P w K mg base N qual scope f cdv A outer s H E) body t/\t { nx:=λ_ H'=>Q .non H',rt:=Q } (cS N vs) H) :
  FnOk P w K mg base CX (k+1) f (PySem.W.fnOf name qual params body scope dV kV doc pm an cdv ct) ps sp:=by
 refine ⟨len,λA outer s H args us vs Q E hr e0 hb r hsp=>?_⟩
 have hl:=len _ _ _ _ hsp
 have KX:K.In s.heap:=e0.mod.kin.keeps λb o e=>(e0.bs b o e).1
 have lim:s.heap.NoLimit:=e0.mod.nolimit.keeps λb o e=>(e0.bs b o e).1
 have hkind:∀ y ∈ ps.zip us,scope.names.lookup y.1=some .local\/(scope.names.lookup y.1=some .cell/\((cellsFrom (s.heap.objs.size+1) scope.names []).lookup y.1).isSome=true):=λ⟨n,v⟩ hy=>by
  rcases S.par n (List.of_mem_zip hy).1 with q | q
  ·exact .inl q
  ·exact .inr ⟨q,PySem.W.cellsFrom_some _ _ _ (.inl q)⟩
 refine codeAny_call_function hr.depth (KX _ _ lk) rfl S.co S.gen rfl (PySem.W.codeRec_of KX hcd) (hb _ _ _ _ ?_)
 refine wpAny_newFunctionEnv_cells S.kind hkind λenv he s1 x=>?_
 subst he
 refine ⟨lim.keeps x.toInCall.keep,codeAny_func ?_⟩
 obtain ⟨t,ht,hq⟩:=hbody A outer s H vs Q E (hr.deeper _) hsp
 have I:Inv (ic CX P w K mg base N qual scope f cdv A outer s H E) [] (cS N vs) H s1:=mK S hr.hd e0 hl r x
 refine wpAny_mono (ht [] s1 (cS N vs) H _ I hq) (λfl s' hs=>?_) λe s' hs=>hs
 have fin:∀ {σ':St} {H':Hp} {v:V} {u:Value},Inv (ic CX P w K mg base N qual scope f cdv A outer s H E) [] σ' H' s'->RelV v u->Q v H'->CE outer P w H s Q u s' :=
  λ{σ' H' v u} J rv q=>⟨v,H',J.os,J.bare,J.base,J.hok,rv,q⟩
 cases fl with
 | ret u =>
  obtain ⟨v,σ',H',J,rv,q⟩:=hs
  exact fin J rv q
 | next =>
  obtain ⟨σ',H',J,q⟩:=hs
  exact fin (v:=V.non) (u:=Value.none) J rfl q
 | brk =>
  obtain ⟨_,_,_,q⟩:=hs
  exact False.elim q
 | cont =>
  obtain ⟨_,_,_,q⟩:=hs
  exact False.elim q
section
variable {X:Cx} {x:Str} {p pos:Pos} {e:Expr} {es:List Expr} {t:TA} {id T:String} {r:List V->Hp->VK->Prop}
def tCB (r:List V->Hp->VK->Prop) (t:TA):TE:=λσ H Q=>t σ H λvs H1=>r vs H1 Q
theorem aJ (hc:gz X (.builtin id) r) (hg:Gl X x) (hm:X.mg x=none) (hv:bootBuiltins x=some (.builtin id)) (ha:PA X (e::es) t) (hn:x≠"__name__":=by decide) (hdb:(x == ("__debug__":Str))=false:=by decide)
  (he:starEach (e::es) X.env=(false,eval e X.env)::starEach es X.env:=by rfl) (hpl:(backTo pos (starEach es X.env)).any (·.1)=false:=by rfl):PE X (.Call (.Name x p) (e::es) [] pos) (tCB r t):=by
 intro pins s σ H Q I h
 refine wpAny_Call_Name_kw (kQ I hg hm hv ?_ hn hdb)
 exact PyProof.Rows.callWith_builtin1 (thn (ha pos pins s σ H _ I h) λus s1 ⟨vs,H1,I1,r1,q1⟩=>hc pins s1 σ H1 vs us Q I1 r1 q1) he hpl
theorem bP (hc:gz X (.type T) r) (hg:Gl X x) (hm:X.mg x=none) (hv:bootBuiltins x=some (.type T)) (ha:PA X (e::es) t) (hn:x≠"__name__":=by decide) (hdb:(x == ("__debug__":Str))=false:=by decide)
  (he:starEach (e::es) X.env=(false,eval e X.env)::starEach es X.env:=by rfl) (hpl:(backTo pos (starEach es X.env)).any (·.1)=false:=by rfl):PE X (.Call (.Name x p) (e::es) [] pos) (tCB r t):=by
 intro pins s σ H Q I h
 refine wpAny_Call_Name_kw (kQ I hg hm hv ?_ hn hdb)
 exact PyProof.Rows.callWith_type1 (thn (ha pos pins s σ H _ I h) λus s1 ⟨vs,H1,I1,r1,q1⟩=>hc pins s1 σ H1 vs us Q I1 r1 q1) he hpl
end
end L2
namespace HT
open PySem PyProof.Rows
section
open PySem.SeqAt
open PySem.AutoSeq1 (wpAny_loadPart')
open PySem.MeetsSeq PySem.MeetsSeq2 PySem.MeetsSeq3
end
section
variable {prog:Program} {w:World} {A:Around} {E:Value->Shared->Prop} {s:Shared}
variable {t:Addr}
theorem cat_tup {b:Addr} {vs ws:List Value} {Q:Value->Shared->Prop} (ht:IsTup s.heap t vs.toArray) (hb:IsTup s.heap b ws.toArray) (hv:vs≠[])
  (h1:ws=[]->Q (.ref t) s) (h2:ws≠[]->Q (.ref s.heap.objs.size) { s with heap:=s.heap.push { cls:=.type "tuple",data:=.seq (vs++ws).toArray } })
  (hsz:vs.length+ws.length≤sizeLine):wpAny (model prog w) A (binaryOp .Add (.ref t) (.ref b)) Q E s:=by
 obtain ⟨⟨cls,dd,data,sl⟩,ho,hc,n,hd⟩:=id ht
 obtain ⟨⟨cls2,dd2,data2,sl2⟩,ho2,hc2,n2,hd2⟩:=id hb
 simp only at hc hd hc2 hd2
 subst hc hd hc2 hd2
 have e:vs.toArray++ws.toArray=(vs++ws).toArray:=by simp
 by_cases hw:ws=[]
 ·exact concat_meets ⟨_,ho,rfl⟩ ⟨_,ho2,rfl⟩ noFill_tuple_add seq_tuple_add PySem.F.slot_tuple_add PySem.F.entry_tuple_add (PySem.F.args_tuple_add_2 _ _)
   (tuple_addW1 t b vs.toArray ws.toArray n n2 dd dd2 sl sl2 (by simpa using hv) (by simp [hw])) ⟨ho,ho2,h1 hw⟩
 ·refine concat_meets ⟨_,ho,rfl⟩ ⟨_,ho2,rfl⟩ noFill_tuple_add seq_tuple_add PySem.F.slot_tuple_add PySem.F.entry_tuple_add (PySem.F.args_tuple_add_2 _ _)
   (tuple_addW2 t b vs.toArray ws.toArray n n2 dd dd2 sl sl2 (by simpa using hv) (by simpa using hw) (by rw [List.size_toArray,List.size_toArray];exact hsz)) ⟨ho,ho2,?_⟩
  rw [e]
  exact h2 hw
def sIx (n d:Nat):Option Int->Nat
 | none=>d
 | some v=>if v < 0 then (v+(n:Int)).toNat else min v.toNat n
theorem sIx_none (n d:Nat):sIx n d none=d:=rfl
theorem sIx_nat (n d k:Nat):sIx n d (some (k:Int))=min k n:=by
 show (if (k:Int) < 0 then ((k:Int)+(n:Int)).toNat else min (k:Int).toNat n)=min k n
 rw [if_neg (by omega),Int.toNat_natCast]
theorem BF (n d:Nat) (hd:d≤n) (o:Option Int):sIx n d o≤n:=by
 cases o with
 | none=>exact hd
 | some v =>
  show (if v < 0 then (v+(n:Int)).toNat else min v.toNat n)≤n
  by_cases hv:v < 0
  ·rw [if_pos hv];omega
  ·rw [if_neg hv];exact Nat.min_le_right _ _
theorem sO (v:Int) (n d:Nat):(if v < 0 then max (v+(n:Int)) 0 else min v (n:Int))=((sIx n d (some v):Nat):Int):=by
 show (if v < 0 then max (v+(n:Int)) 0 else min v (n:Int))=(((if v < 0 then (v+(n:Int)).toNat else min v.toNat n):Nat):Int)
 by_cases hv:v < 0
 ·simp only [if_pos hv];omega
 ·simp only [if_neg hv];omega
theorem qy (lo hi:Option Int) (n:Nat):Builtin.Slice.sliceAdjust lo hi 1 (n:Int)=(((sIx n 0 lo:Nat):Int),((sIx n n hi:Nat):Int)):=by
 have h1:¬ ((1:Int) < 0):=by omega
 unfold Builtin.Slice.sliceAdjust
 simp only [h1,if_false]
 refine Prod.ext ?_ ?_
 ·cases lo with
  | none=>rfl
  | some v=>exact sO v n 0
 ·cases hi with
  | none=>rfl
  | some v=>exact sO v n n
theorem rE (i j:Nat):Builtin.Slice.slicePlaces (i:Int) (j:Int) 1=j - i:=by
 unfold Builtin.Slice.slicePlaces
 have h1:(1:Int) > 0:=by omega
 simp only [h1,if_true,Int.ediv_one]
 split <;> omega
theorem lP {v:Value} {o:Option Int} {Q:Option Int->Shared->Prop} (p:IsPart v o) (h:Q o s):wpAny (model prog w) A (Builtin.Slice.slicePartIndex v) Q E s:=by
 cases p with
 | none=>exact slicePart_none h
 | int i t=>exact slicePart_int h
variable {sl:Addr} {vl vu:Value} {lo hi:Option Int}
theorem jO {n:Nat} {Q:Int × Int × Nat->Shared->Prop} (hs:s.heap.IsSliceOf sl vl vu .none) (pl:IsPart vl lo) (pu:IsPart vu hi)
  (h:Q (((sIx n 0 lo:Nat):Int),1,sIx n n hi - sIx n 0 lo) s):wpAny (model prog w) A (Builtin.Slice.sliceApplied (.ref sl) (pure (n:Int))) Q E s:=by
 obtain ⟨os,hos,hcs,hds⟩:=id hs
 unfold Builtin.Slice.sliceApplied Builtin.Slice.sliceFields
 refine wpAny_bind (wpAny_bind (wpAny_field hos hds (x:=vl) rfl (wpAny_bind (wpAny_field hos hds (x:=vu) rfl (wpAny_bind (wpAny_field hos hds (x:=.none) rfl (wpAny_pure ?_)))))))
 refine wpAny_bind (slicePart_none ?_)
 show wpAny _ _ (if ((1:Int) == 0)=true then _ else _) _ _ s
 rw [if_neg (by decide)]
 refine wpAny_bind (lP pl (wpAny_bind (lP pu (wpAny_bind (wpAny_pure ?_)))))
 show wpAny _ _ (match Builtin.Slice.sliceAdjust lo hi 1 (n:Int) with | (lo,hi)=>pure (lo,(1:Int),Builtin.Slice.slicePlaces lo hi 1)) _ _ s
 rw [qy lo hi n]
 show wpAny _ _ (pure (((sIx n 0 lo:Nat):Int),(1:Int),Builtin.Slice.slicePlaces ((sIx n 0 lo:Nat):Int) ((sIx n n hi:Nat):Int) 1)) _ _ s
 rw [rE]
 exact wpAny_pure h
theorem xh (xs:Array Value) (i k:Nat):((List.range k).filterMap λ(m:Nat)=>xs[((i:Int)+(m:Int) * 1).toNat]?).toArray=((xs.toList.drop i).take k).toArray:=by
 have e:(λ(m:Nat)=>xs[((i:Int)+(m:Int) * 1).toNat]?)=λm=>xs[i+m]?:=by
  funext m
  have:((i:Int)+(m:Int) * 1).toNat=i+m:=by omega
  rw [this]
 rw [e]
 have:=pick_run xs i k
 rw [List.filterMap_map] at this
 have e2:((λx=>xs[x]?) ∘ λx=>i+x)=λm=>xs[i+m]?:=rfl
 rw [e2] at this
 rw [this]
theorem getItem_tuple_cut {items:Array Value} {Q:Value->Shared->Prop} (ht:IsTup s.heap t items) (hs:s.heap.IsSliceOf sl vl vu .none) (pl:IsPart vl lo) (pu:IsPart vu hi)
  (hw:¬ (sIx items.size 0 lo=0/\sIx items.size items.size hi=items.size))
  (h:Q (.ref s.heap.objs.size) { s with heap:=s.heap.push { cls:=.type "tuple",data:=.seq ((items.toList.drop (sIx items.size 0 lo)).take (sIx items.size items.size hi - sIx items.size 0 lo)).toArray } })
  (hsz:items.size≤sizeLine):wpAny (model prog w) A (getItem (.ref t) (.ref sl)) Q E s:=by
 have htake:sizeOk (.seq ((items.toList.drop (sIx items.size 0 lo)).take (sIx items.size items.size hi - sIx items.size 0 lo)).toArray):=by
  show ((items.toList.drop (sIx items.size 0 lo)).take (sIx items.size items.size hi - sIx items.size 0 lo)).toArray.size≤sizeLine
  rw [List.size_toArray,List.length_take,List.length_drop,Array.length_toList]
  omega
 have hj:sIx items.size items.size hi≤items.size:=BF _ _ (Nat.le_refl _) hi
 obtain ⟨os,hos,hcs,hds⟩:=id hs
 have hTs:s.TypeIs (.ref sl) "slice":=⟨os,hos,hcs⟩
 unfold getItem
 try with_reducible refine wpAny_holding ?_
 first | refine wpAny_bind (wpAny_pure ?_) | skip
 refine wpAny_bind (wpAny_sequenceKey ht.typeIs (by decide) ?_)
 refine wpAny_bind (wpAny_callSpecial?_slot (name:=Str.ofString "__getitem__") ht.typeIs PyProof.Rows.slot_tuple_getitem
  (wpAny_call_entry PyProof.Rows.slot_tuple_getitem ht.typeIs entry_tuple_getitem ?_ (args_tuple_getitem _ _)))
 show wpAny _ _ (Builtin.Tuple.tupleItemsOf (.ref t) >>= _) _ _ s
 refine wpAny_bind (tupleItemsOf_ ht ?_)
 refine wpAny_bind (wpAny_typeOf hTs ?_)
 rw [if_pos (by decide)]
 refine wpAny_bind (jO hs pl pu ?_)
 have hno:¬ ((((sIx items.size 0 lo:Nat):Int) == 0 && (1:Int) == 1 && (sIx items.size items.size hi - sIx items.size 0 lo) == items.size)=true):=by
  intro q
  rw [Bool.and_eq_true,Bool.and_eq_true] at q
  have q1:((sIx items.size 0 lo:Nat):Int)=0:=eq_of_beq q.1.1
  have q2:sIx items.size items.size hi - sIx items.size 0 lo=items.size:=eq_of_beq q.2
  exact hw ⟨by omega,by omega⟩
 show wpAny _ _ (if (((sIx items.size 0 lo:Nat):Int) == 0 && (1:Int) == 1 && (sIx items.size items.size hi - sIx items.size 0 lo) == items.size)=true then _ else _) _ _ s
 rw [if_neg hno,xh]
 first
  | exact wpAny_bind (m:=Builtin.Tuple.tupleExact _) (wpAny_newObj_type (wpAny_pure ⟨_,rfl,wpAny_pure h⟩) htake)
  | exact wpAny_bind (m:=Builtin.Tuple.tupleExact _) (wpAny_newObj_type (wpAny_bind (wpAny_pure (wpAny_pure ⟨_,rfl,wpAny_pure h⟩))) htake)
  | exact wpAny_bind (wpAny_bind (m:=Builtin.Tuple.tupleExact _) (wpAny_newObj_type (wpAny_pure (wpAny_pure ⟨_,rfl,wpAny_pure h⟩)) htake))
  | exact wpAny_bind (wpAny_bind (m:=Builtin.Tuple.tupleExact _) (wpAny_newObj_type (wpAny_pure ⟨_,rfl,wpAny_pure h⟩) htake))
end
end HT
namespace L2
open PySem PySem.Spec PyProof.Rows
abbrev TO:=St->Hp->(Option Int->Hp->Prop)->Prop
def PO (X:Cx) (e:Option Expr) (t:TO):Prop :=
 ∀ (pins:List (Addr × Obj)) (s:Shared) (σ:St) (H:Hp) (Q:Option Int->Hp->Prop),Inv X pins σ H s->t σ H Q ->
  wpAny (model X.prog X.w) X.A (evalPart e X.env) (λu s'=>∃ o H',Inv X pins σ H' s'/\IsPart u o/\Q o H') X.xe s
def tU:TO:=λ_ H Q=>Q none H
def m6 (t:TE):TO:=λσ H Q=>t σ H λx H1=>∃ i,x=.int i/\Q (some i) H1
section
variable {X:Cx} {e:Expr} {te:TE} {lo hi:Option Expr} {tl th:TO} {pos p2:Pos}
theorem zm:PO X none tU:=by
 intro pins s σ H Q I h
 rw [evalPart_none]
 exact wpAny_pure ⟨none,H,I,.none,h⟩
theorem jc (h:PE X e te):PO X (some e) (m6 te):=by
 intro pins s σ H Q I hw
 rw [evalPart_some]
 refine thn (h pins s σ H _ I hw) λu s1 ⟨x,H1,I1,r1,q1⟩=>?_
 obtain ⟨i,rfl,q⟩:=q1
 obtain ⟨t,rfl⟩:=r1
 exact ⟨some i,H1,I1,.int i t,q⟩
def SlR (X:Cx) (r:V->Option Int->Option Int->Hp->VK->Prop):Prop :=
 ∀ (pins:List (Addr × Obj)) (s:Shared) (σ:St) (H:Hp) (x:V) (v vl vu:Value) (lo hi:Option Int) (sl:Addr) (Q:VK),Inv X pins σ H s->RelV x v->s.heap.IsSliceOf sl vl vu .none->IsPart vl lo->IsPart vu hi->r x lo hi H Q ->
  ∃ T id,typeLookup (.type T) "__getitem__"=pure (some (.builtin id))/\s.TypeIs v T/\wpAny (model X.prog X.w) X.A (getItem v (.ref sl)) (EP X pins σ Q) X.xe s
theorem SlR.or {r r':V->Option Int->Option Int->Hp->VK->Prop} (h:SlR X r) (h':SlR X r'):SlR X (λx lo hi H Q=>r x lo hi H Q\/r' x lo hi H Q):=by
 intro pins s σ H x v vl vu lo hi sl Q I rx hs pl pu q
 rcases q with q | q
 ·exact h pins s σ H x v vl vu lo hi sl Q I rx hs pl pu q
 ·exact h' pins s σ H x v vl vu lo hi sl Q I rx hs pl pu q
def tSl (r:V->Option Int->Option Int->Hp->VK->Prop) (te:TE) (tl th:TO):TE:=λσ H Q=>te σ H λx H1=>tl σ H1 λl H2=>th σ H2 λu H3=>r x l u H3 Q
theorem lC {r:V->Option Int->Option Int->Hp->VK->Prop} (hr:SlR X r) (he:PE X e te) (hl:PO X lo tl) (hu:PO X hi th):PE X (.Subscript e (.Slice lo hi none p2) pos) (tSl r te tl th):=by
 intro pins s σ H Q I h
 refine Subscript_ (thn (he pins s σ H _ I h) λv s1 ⟨x,H1,I1,r1,q1⟩=>?_)
 refine wpAny_Slice (thn (hl pins s1 σ H1 _ I1 q1) λvl s2 ⟨l,H2,I2,pl,q2⟩=>thn (hu pins s2 σ H2 _ I2 q2) λvu s3 ⟨u,H3,I3,pu,q3⟩=>?_)
 rw [evalPart_none]
 refine wpAny_pure ?_
 have I4:Inv X pins σ H3 { s3 with heap:=s3.heap.push { cls:=.type "slice",data:=.fields #[vl,vu,.none] } }:=I3.kept (t':=s3.toks) λb ob q=>Heap.get?_push_of_some _ q
 obtain ⟨T,id,hT,ht,hg⟩:=hr pins { s3 with heap:=s3.heap.push { cls:=.type "slice",data:=.fields #[vl,vu,.none] } } σ H3 x v vl vu l u s3.heap.objs.size Q I4 r1 (Heap.IsSliceOf.new ..) pl pu q3
 show wpAny (model X.prog X.w) X.A (subscriptTail e (.Slice lo hi none p2) v (.ref s3.heap.objs.size)) (EP X pins σ Q) X.xe { s3 with heap:=s3.heap.push { cls:=.type "slice",data:=.fields #[vl,vu,.none] } }
 exact tail_any (ops:=[.ref s3.heap.objs.size,v]) ht hT hg (by with_unfolding_all rfl)
def me (xs:List V) (lo hi:Option Int):List V:=(xs.drop (HT.sIx xs.length 0 lo)).take (HT.sIx xs.length xs.length hi - HT.sIx xs.length 0 lo)
theorem jS (xs:List V) (lo hi:Option Int):(me xs lo hi).length≤xs.length:=by
 unfold me
 rw [List.length_take,List.length_drop]
 omega
def Bx (K:PySem.W.Frag):V->Option Int->Option Int->Hp->VK->Prop:=λx lo hi H Q=>∃ a xs,x=.ref a/\SqT K H a xs /\
 ¬ (HT.sIx xs.length 0 lo=0/\HT.sIx xs.length xs.length hi=xs.length)/\∀ p,H p=none->Q (.ref p) (upd H p (.tup (me xs lo hi)))
theorem rZ:SlR X (Bx X.K):=by
 intro pins s σ H x v vl vu lo hi sl Q I rx hs pl pu h
 obtain ⟨a,xs,rfl,hx,hw,q⟩:=h
 cases rx
 obtain ⟨its,r,ht,hz⟩:=I.tuple hx
 have hlen:its.toArray.size=xs.length:=by rw [List.size_toArray];exact r.length.symm
 refine ⟨"tuple",_,PyProof.Rows.slot_tuple_getitem.lookup,ht.typeIs,?_⟩
 refine HT.getItem_tuple_cut ht hs pl pu (by rw [hlen];exact hw) ?_ (by rw [hlen];exact hz)
 rw [hlen]
 refine ⟨.ref s.heap.objs.size,_,I.laid (t':=s.toks) (o:=.tup (me xs lo hi)) (λb ob q=>Heap.get?_push_of_some _ q) (Nat.le_refl _) ?_,rfl,q _ (I.hok.fresh (Nat.le_refl _))⟩
 exact ⟨Nat.le_trans (jS xs lo hi) hz,_,(r.drop (HT.sIx xs.length 0 lo)).take (HT.sIx xs.length xs.length hi - HT.sIx xs.length 0 lo),IsTup.new _ _⟩
def Ap (K:PySem.W.Frag):R2:=λx y H Q=>∃ a b xs ys,x=.ref a/\y=.ref b/\SqT K H a xs/\SqT K H b ys/\xs≠[]/\xs.length+ys.length≤sizeLine /\
 (ys=[]->Q (.ref a) H)/\(ys≠[]->∀ p,H p=none->Q (.ref p) (upd H p (.tup (xs++ys))))
theorem Vals.nil_iff {xs:List V} {us:List Value} (r:Vals xs us):us=[]↔xs=[]:=by
 cases r with
 | nil=>simp
 | cons _ _=>simp
theorem zb:OpR X (binaryOp .Add) (Ap X.K):=by
 intro pins s σ H x y v u Q I rx ry h
 obtain ⟨a,b,xs,ys,rfl,rfl,ha,hb,hx,hz,q1,q2⟩:=h
 cases rx
 cases ry
 obtain ⟨its,r1,p1,_⟩:=I.tuple ha
 obtain ⟨its2,r2,p2,_⟩:=I.tuple hb
 refine HT.cat_tup p1 p2 (λz=>hx (r1.nil_iff.mp z)) (λz=>⟨.ref a,H,I,rfl,q1 (r2.nil_iff.mp z)⟩) (λz=>?_) (by rw [← r1.length,← r2.length];exact hz)
 refine ⟨.ref s.heap.objs.size,_,I.laid (t':=s.toks) (o:=.tup (xs++ys)) (λb ob q=>Heap.get?_push_of_some _ q) (Nat.le_refl _) ?_,rfl,q2 (λw=>z (r2.nil_iff.mpr w)) _ (I.hok.fresh (Nat.le_refl _))⟩
 exact ⟨by rw [List.length_append];exact hz,_,r1.append r2,IsTup.new _ _⟩
end
def ixN (n:Nat) (i:Int):Option Nat:=if 0≤i then (if i < n then some i.toNat else none) else if -(n:Int)≤i then some (i+n).toNat else none
def atI {α:Type} (xs:List α) (i:Int):Option α:=(ixN xs.length i).bind λj=>xs[j]?
variable {i:Int} {j:Nat}
theorem nI {n:Nat} (h:ixN n i=some j):seqIndex? i n=some j/\j < n/\-(n:Int)≤i/\i < n:=by
 unfold ixN at h
 by_cases h0:0≤i
 ·rw [if_pos h0] at h
  by_cases h1:i < n
  ·rw [if_pos h1] at h
   have e:i.toNat=j:=Option.some.inj h
   exact ⟨by rw [seqIndex_of h0 h1,e],by omega,by omega,h1⟩
  ·rw [if_neg h1] at h;cases h
 ·rw [if_neg h0] at h
  by_cases h1:-(n:Int)≤i
  ·rw [if_pos h1] at h
   have e:(i+n).toNat=j:=Option.some.inj h
   exact ⟨by rw [seqIndex_neg (by omega) h1,e],by omega,h1,by omega⟩
  ·rw [if_neg h1] at h;cases h
theorem sL {α:Type} {xs:List α} {v:α} (h:atI xs i=some v):∃ j,seqIndex? i xs.length=some j/\xs[j]?=some v/\j < xs.length/\-(xs.length:Int)≤i/\i < xs.length:=by
 unfold atI at h
 cases e:ixN xs.length i with
 | none=>rw [e] at h;cases h
 | some j =>
  rw [e] at h
  obtain ⟨h1,h2,h3,h4⟩:=nI e
  exact ⟨j,h1,h,h2,h3,h4⟩
theorem fu {α:Type} {xs:List α} {v:α} (h:xs[j]?=some v):atI xs (j:Int)=some v:=by
 have hj:j < xs.length:=(List.getElem?_eq_some_iff.mp h).1
 have e:ixN xs.length (j:Int)=some j:=by
  unfold ixN
  rw [if_pos (by omega),if_pos (by omega)];simp
 unfold atI;rw [e];exact h
def yj (b:Expr):Prop:=∀ o i,subscripted b false o i=operate [o,i] (getItem o i)
def IxR (X:Cx) (r:R2):Prop :=
 ∀ (value slice:Expr) (pins:List (Addr × Obj)) (s:Shared) (σ:St) (H:Hp) (x y:V) (v u:Value) (Q:VK),Inv X pins σ H s->RelV x v->RelV y u->r x y H Q ->
  subscripted slice false v u=operate [v,u] (getItem v u)->wpAny (model X.prog X.w) X.A (subscriptTail value slice v u) (EP X pins σ Q) X.xe s
def MtR (X:Cx) (id:String) (r:V->List V->Hp->VK->Prop):Prop :=
 ∀ (pins:List (Addr × Obj)) (s:Shared) (σ:St) (H:Hp) (x:V) (xs:List V) (v:Value) (us:List Value) (Q:VK),Inv X pins σ H s->RelV x v->Vals xs us->r x xs H Q ->
  wpAny (model X.prog X.w) X.A (call (.builtin id) (v::us)) (EP X pins σ Q) X.xe s
section
variable {X:Cx} {a b:Expr} {ta tb:TE} {pos:Pos}
theorem IxR.or {r r':R2} (h:IxR X r) (h':IxR X r'):IxR X (λx y H Q=>r x y H Q\/r' x y H Q):=by
 intro value slice pins s σ H x y v u Q I rx ry q hs
 rcases q with q | q
 ·exact h value slice pins s σ H x y v u Q I rx ry q hs
 ·exact h' value slice pins s σ H x y v u Q I rx ry q hs
theorem aV {r:R2} (hr:IxR X r) (ha:PE X a ta) (hb:PE X b tb) (hs:yj b):PE X (.Subscript a b pos) (tOp r ta tb):=by
 intro pins s σ H Q I h
 exact Subscript_ (AY ha hb I h λv u s2 x y H2 I2 rx ry q=>hr a b pins s2 σ H2 x y v u Q I2 rx ry q (hs _ _))
def Bw (K:PySem.W.Frag):R2:=λx y H Q=>∃ p xs i v,x=.ref p/\y=.int i/\SqL K H p xs/\atI xs i=some v/\Q v H
def xn (K:PySem.W.Frag):R2:=λx y H Q=>∃ p xs i v,x=.ref p/\y=.int i/\SqT K H p xs/\atI xs i=some v/\Q v H
theorem ix_list:IxR X (Bw X.K):=by
 intro value slice pins s σ H x y v u Q I rx ry h hs
 obtain ⟨p,xs,i,z,rfl,rfl,hq,he,q⟩:=h
 cases rx
 obtain ⟨t,rfl⟩:=ry
 obtain ⟨its,r,pl,hz⟩:=I.list hq
 obtain ⟨j,h1,h2,h3,h4,h5⟩:=sL he
 obtain ⟨w,ew,rw'⟩:=r.get h2
 have hl:=r.length
 have hn:=iF
 have fin:EP X pins σ Q w s:=⟨z,H,I,rw',q⟩
 by_cases h0:0≤i
 ·have hj:i.toNat=j:=by
   rw [seqIndex_of h0 h5] at h1
   exact Option.some.inj h1
  exact item_listR pl.isList h0 (by omega) (by rw [hj];simpa using ew) fin hs
 ·have hj:(i+(its.toArray.size:Int)).toNat=j:=by
   rw [seqIndex_neg (by omega) h4] at h1
   rw [List.size_toArray,← hl]
   exact Option.some.inj h1
  exact subscriptTail_builtinR (x:=w) pl.isList.typeIs slot_list_getitem.lookup
   (wpAny_getItem_list_neg (Q:=λr s'=>r=w/\EP X pins σ Q r s') pl.isList (by omega) (by rw [List.size_toArray] <;> omega) (by omega) (by rw [hj];simpa using ew) ⟨rfl,fin⟩) hs
theorem aS:IxR X (xn X.K):=by
 intro value slice pins s σ H x y v u Q I rx ry h hs
 obtain ⟨p,xs,i,z,rfl,rfl,hq,he,q⟩:=h
 cases rx
 obtain ⟨t,rfl⟩:=ry
 obtain ⟨its,r,pl,hz⟩:=I.tuple hq
 obtain ⟨j,h1,h2,h3,h4,h5⟩:=sL he
 obtain ⟨w,ew,rw'⟩:=r.get h2
 have hl:=r.length
 have hn:=iF
 have fin:EP X pins σ Q w s:=⟨z,H,I,rw',q⟩
 exact subscriptTail_builtinR (x:=w) pl.typeIs slot_tuple_getitem.lookup
  (getItem_tuple (j:=j) (Q:=λr s'=>r=w/\EP X pins σ Q r s') pl (by omega) (by omega) (by rw [List.size_toArray,← hl];exact h1) (by simpa using ew) ⟨rfl,fin⟩) hs
theorem qX (its:List Value) (n j:Nat) (u:Value):Obj.mapSeq (·.setIfInBounds j u) { cls:=.type "list",data:=.seq its.toArray n }={ cls:=.type "list",data:=.seq (its.set j u).toArray n }:=by
 simp [Obj.mapSeq]
variable {pins:List (Addr × Obj)} {σ:St} {H:Hp} {s:Shared} {p:Addr} {xs:List V}
theorem Inv.lst (I:Inv X pins σ H s) (h:H p=some (.lst xs)) :
  ∃ (its:List Value) (n:Nat),Vals xs its/\s.heap.get? p=some { cls:=.type "list",data:=.seq its.toArray n }/\xs.length≤sizeLine:=by
 obtain ⟨z,its,n,r,e⟩:=I.hok p _ h
 exact ⟨its,n,r,e,z⟩
theorem Inv.lstUpd {ys:List V} {its its':List Value} {n n':Nat} {f:Obj->Obj} (I:Inv X pins σ H s) (h:H p=some (.lst xs))
  (ho:s.heap.get? p=some { cls:=.type "list",data:=.seq its.toArray n }) (hf:f { cls:=.type "list",data:=.seq its.toArray n }={ cls:=.type "list",data:=.seq its'.toArray n' }) (r:Vals ys its') (hz:ys.length≤sizeLine) (t:Nat) :
  Inv X pins σ (upd H p (.lst ys)) { s with heap:=s.heap.update p f,toks:=t }:=by
 have e:(s.heap.update p f).get? p=some { cls:=.type "list",data:=.seq its'.toArray n' }:=by
  rw [Heap.get?_update_self f ho (by rw [hf] <;> rfl),hf]
 refine I.write (x:=p) (e:=p) (by rw [h];trivial) (.inl rfl) (λb u hb q=>(Heap.get?_update_other _ _ (Ne.symm hb)).trans q) ⟨_,e⟩ ?_
 exact ⟨hz,its',n',r,e⟩
def Ce:V->V->V->Hp->(Hp->Prop)->Prop:=λo i v H Q=>∃ p xs k j,o=.ref p/\i=.int k/\H p=some (.lst xs)/\ixN xs.length k=some j/\Q (upd H p (.lst (xs.set j v)))
theorem lO:AI X Ce:=by
 intro pins s σ H o i v ov iv u Q I ro ri rv h
 obtain ⟨p,xs,k,j,rfl,rfl,hp,hj,q⟩:=h
 cases ro
 obtain ⟨t,rfl⟩:=ri
 obtain ⟨its,n,r,ho,hz⟩:=I.lst hp
 obtain ⟨h1,h2,h3,h4⟩:=nI hj
 have hl:=r.length
 have hn:=iF
 have I':Inv X pins σ (upd H p (.lst (xs.set j v))) { s with heap:=s.heap.update p (Obj.mapSeq (·.setIfInBounds j u)) } :=
  I.lstUpd hp ho (qX its n j u) (r.set rv j) (by rw [List.length_set];exact hz) s.toks
 by_cases h0:0≤k
 ·have hk:k.toNat=j:=by
   rw [seqIndex_of h0 h4] at h1
   exact Option.some.inj h1
  exact PySem.W.ki_setAt ho h0 (by omega) (by rw [List.size_toArray,← hl];exact h4) (by rw [hk];exact ⟨_,I',q⟩)
 ·have hk:(k+(its.toArray.size:Int)).toNat=j:=by
   rw [seqIndex_neg (by omega) h3] at h1
   rw [List.size_toArray,← hl]
   exact Option.some.inj h1
  exact PySem.W.ki_setBack ho (by omega) (by rw [List.size_toArray,← hl];exact h3) (by omega) (by rw [hk];exact ⟨_,I',q⟩)
theorem oy (lo hi:Option Int) (n:Nat):(sliceBounds lo hi none n).1=((HT.sIx n 0 lo:Nat):Int)/\(sliceBounds lo hi none n).2.1=((HT.sIx n n hi:Nat):Int)/\(sliceBounds lo hi none n).2.2=1:=by
 refine ⟨?_,?_,rfl⟩
 ·cases lo with
  | none=>simp [sliceBounds,HT.sIx]
  | some i =>
   simp only [sliceBounds,HT.sIx,Option.getD_none,show (1:Int) > 0 by decide,if_true]
   by_cases h:i < 0
   ·simp only [h,if_true] <;> omega
   ·simp only [h,if_false] <;> omega
 ·cases hi with
  | none=>simp [sliceBounds,HT.sIx]
  | some i =>
   simp only [sliceBounds,HT.sIx,Option.getD_none,show (1:Int) > 0 by decide,if_true]
   by_cases h:i < 0
   ·simp only [h,if_true] <;> omega
   ·simp only [h,if_false] <;> omega
theorem mn (its:List Value) (lo hi:Option Int):slicePick its.toArray lo hi none=((its.drop (HT.sIx its.length 0 lo)).take (HT.sIx its.length its.length hi - HT.sIx its.length 0 lo)).toArray:=by
 obtain ⟨h1,h2,h3⟩:=oy lo hi its.toArray.size
 unfold slicePick
 rw [h1,h2,h3]
 simp only [sliceRange_one,pick_run,List.size_toArray] <;> rfl
def Cg (K:PySem.W.Frag):V->Option Int->Option Int->Hp->VK->Prop:=λx lo hi H Q=>∃ a xs,x=.ref a/\SqL K H a xs/\∀ p,H p=none->Q (.ref p) (upd H p (.lst (me xs lo hi)))
theorem sl_list:SlR X (Cg X.K):=by
 intro pins s σ H x v vl vu lo hi sl Q I rx hs pl pu h
 obtain ⟨a,xs,rfl,hx,q⟩:=h
 cases rx
 obtain ⟨its,r,ht,hz⟩:=I.list hx
 have hlen:=r.length
 refine ⟨"list",_,slot_list_getitem.lookup,ht.isList.typeIs,?_⟩
 refine wpAny_getItem_list_slice ht.isList hs pl pu .none (by simp) ?_ (by rw [List.size_toArray] <;> omega)
 rw [mn,← hlen]
 refine ⟨.ref s.heap.objs.size,_,I.laid (t':=s.toks) (o:=.lst (me xs lo hi)) (λb ob q=>Heap.get?_push_of_some _ q) (Nat.le_refl _) ?_,rfl,q _ (I.hok.fresh (Nat.le_refl _))⟩
 exact ⟨Nat.le_trans (jS xs lo hi) hz,_,0,(r.drop (HT.sIx xs.length 0 lo)).take (HT.sIx xs.length xs.length hi - HT.sIx xs.length 0 lo),Heap.get?_push_size _ rfl⟩
def iq:V->Bool
 | .non=>true
 | .bl _=>true
 | .int _=>true
 | .str _=>true
 | _=>false
def eqV:V->V->Bool
 | .non,.non=>true
 | .bl a,.bl b=>a == b
 | .bl a,.int b=>(if a then 1 else 0) == b
 | .int a,.bl b=>a == (if b then 1 else 0)
 | .int a,.int b=>a == b
 | .str a,.str b=>a == b
 | _,_=>false
variable {A:Around} {y x:V} {u v:Value}
theorem A3 (ry:RelV y u) (rx:RelV x v) (fy:iq y=true) (fx:iq x=true):SeqAt.EqAt A s u v (eqV y x):=by
 cases y with
 | non =>
  cases ry
  cases x with
  | non=>cases rx;exact SeqAt.EqAt.same _
  | bl b=>cases rx;exact SeqAt.EqAt.none_bool b
  | int b=>obtain ⟨t,rfl⟩:=rx;exact SeqAt.EqAt.none_int b t
  | str b=>obtain ⟨t,rfl⟩:=rx;exact SeqAt.EqAt.none_str b t
  | _=>exact absurd (show false=true from fx) Bool.false_ne_true
 | bl a =>
  cases ry
  cases x with
  | non=>cases rx;exact SeqAt.EqAt.bool_none a
  | bl b=>cases rx;exact SeqAt.EqAt.bool_bool a b
  | int b=>obtain ⟨t,rfl⟩:=rx;exact SeqAt.EqAt.bool_int a b t
  | str b=>obtain ⟨t,rfl⟩:=rx;exact SeqAt.EqAt.bool_str a b t
  | _=>exact absurd (show false=true from fx) Bool.false_ne_true
 | int a =>
  obtain ⟨t',rfl⟩:=ry
  cases x with
  | non=>cases rx;exact SeqAt.EqAt.int_none a t'
  | bl b=>cases rx;exact SeqAt.EqAt.int_bool a t' b
  | int b=>obtain ⟨t,rfl⟩:=rx;exact SeqAt.EqAt.int_int a t' b t
  | str b=>obtain ⟨t,rfl⟩:=rx;exact SeqAt.EqAt.int_str a t' b t
  | _=>exact absurd (show false=true from fx) Bool.false_ne_true
 | str a =>
  obtain ⟨t',rfl⟩:=ry
  cases x with
  | non=>cases rx;exact SeqAt.EqAt.str_none a t'
  | bl b=>cases rx;exact SeqAt.EqAt.str_bool a t' b
  | int b=>obtain ⟨t,rfl⟩:=rx;exact SeqAt.EqAt.str_int a t' b t
  | str b=>obtain ⟨t,rfl⟩:=rx;exact SeqAt.EqAt.str_str a t' b t
  | _=>exact absurd (show false=true from fx) Bool.false_ne_true
 | _=>exact absurd (show false=true from fy) Bool.false_ne_true
def eqU (x:V) (u:Value):Bool:=match u with
 | .none=>eqV .non x
 | .bool b=>eqV (.bl b) x
 | .int i _=>eqV (.int i) x
 | .str z _=>eqV (.str z) x
 | _=>false
theorem vY (r:RelV y u) (f:iq y=true):eqU x u=eqV y x:=by
 cases y with
 | non=>cases r;rfl
 | bl b=>cases r;rfl
 | int i=>obtain ⟨t,rfl⟩:=r;rfl
 | str z=>obtain ⟨t,rfl⟩:=r;rfl
 | _=>exact absurd (show false=true from f) Bool.false_ne_true
theorem iM:∀ {xs:List V} {us:List Value},Vals xs us->xs.all iq=true->us.any (eqU x)=xs.any λy=>eqV y x
 | _,_,.nil,_=>rfl
 | y::xs,u::us,.cons r t,f=>by
  rw [List.all_cons,Bool.and_eq_true] at f
  rw [List.any_cons,List.any_cons,vY r f.1,iM t f.2]
theorem gK (rx:RelV x v) (fx:iq x=true):∀ {xs:List V} {us:List Value},Vals xs us->xs.all iq=true->∀ u ∈ us,SeqAt.EqAt A s u v (eqU x u)
 | _,_,.nil,_=>λu hu=>by cases hu
 | y::xs,u::us,.cons r t,f=>λu' hu=>by
  rw [List.all_cons,Bool.and_eq_true] at f
  rcases List.mem_cons.mp hu with rfl | hu
  ·rw [vY r f.1];exact A3 r rx f.1 fx
  ·exact gK rx fx t f.2 u' hu
def inV (x:V) (xs:List V):Bool:=xs.any λy=>eqV y x
def rIn (K:PySem.W.Frag) (neg:Bool):R2:=λx y H Q=>∃ p xs,y=.ref p/\(SqL K H p xs\/SqT K H p xs)/\iq x=true/\xs.all iq=true/\Q (.bl (if neg then !inV x xs else inV x xs)) H
theorem eY:OpR X (compareOp .In) (rIn X.K false):=by
 intro pins s σ H x y v u Q I rx ry h
 obtain ⟨p,xs,rfl,hq,fx,fs,q⟩:=h
 cases ry
 rcases hq with hq | hq
 ·obtain ⟨its,r,pl,hz⟩:=I.list hq
  refine SeqAt.in_listAt (eqU x) pl.isList (λw hw=>gK rx fx r fs w (by simpa using hw)) ⟨.bl _,H,I,rfl,?_⟩
  rw [show its.toArray.any (eqU x)=its.any (eqU x) by simp,iM r fs]
  exact q
 ·obtain ⟨its,r,pl,hz⟩:=I.tuple hq
  refine SeqAt.in_tupleAt (eqU x) pl (λw hw=>gK rx fx r fs w (by simpa using hw)) ⟨.bl _,H,I,rfl,?_⟩
  rw [show its.toArray.any (eqU x)=its.any (eqU x) by simp,iM r fs]
  exact q
theorem nZ:OpR X (compareOp .NotIn) (rIn X.K true):=by
 intro pins s σ H x y v u Q I rx ry h
 obtain ⟨p,xs,rfl,hq,fx,fs,q⟩:=h
 cases ry
 rcases hq with hq | hq
 ·obtain ⟨its,r,pl,hz⟩:=I.list hq
  refine SeqAt.notIn_listAt (eqU x) pl.isList (λw hw=>gK rx fx r fs w (by simpa using hw)) ⟨.bl _,H,I,rfl,?_⟩
  rw [show its.toArray.any (eqU x)=its.any (eqU x) by simp,iM r fs]
  exact q
 ·obtain ⟨its,r,pl,hz⟩:=I.tuple hq
  refine SeqAt.notIn_tupleAt (eqU x) pl (λw hw=>gK rx fx r fs w (by simpa using hw)) ⟨.bl _,H,I,rfl,?_⟩
  rw [show its.toArray.any (eqU x)=its.any (eqU x) by simp,iM r fs]
  exact q
theorem aP:gz X (.builtin "len") (λxs H Q=>∃ p ys,xs=[.ref p]/\(SqL X.K H p ys\/SqT X.K H p ys)/\Q (.int ys.length) H):=by
 intro pins s σ H xs us Q I r h
 obtain ⟨p,ys,rfl,hq,q⟩:=h
 obtain ⟨u,rfl,rx⟩:=fW r
 cases rx
 have hn:=iF
 rcases hq with hq | hq
 ·obtain ⟨its,r',pl,hz⟩:=I.list hq
  have hlen:=r'.length
  exact Calls.call_len_list pl.isList (by simp only [List.size_toArray] <;> omega) ⟨.int ys.length,H,I.tok _,⟨s.toks+1,by rw [List.size_toArray,hlen]⟩,q⟩
 ·obtain ⟨its,r',pl,hz⟩:=I.tuple hq
  have hlen:=r'.length
  exact len_tuple pl (by simp only [List.size_toArray] <;> omega) ⟨.int ys.length,H,I.tok _,⟨s.toks+1,by rw [List.size_toArray,hlen]⟩,q⟩
theorem nC:gz X (.builtin "len") (λxs H Q=>∃ z,xs=[.str z]/\z.length≤sizeLine/\Q (.int z.length) H):=by
 intro pins s σ H xs us Q I r h
 obtain ⟨z,rfl,hz,q⟩:=h
 obtain ⟨u,rfl,t,rfl⟩:=fW r
 have hn:=iF
 exact len_str (by omega) ⟨.int z.length,H,I.tok _,⟨_,rfl⟩,q⟩
theorem iR:gz X (.type "list") (λxs H Q=>∃ p ys,xs=[.ref p]/\(SqL X.K H p ys\/SqT X.K H p ys)/\∀ l,H l=none->Q (.ref l) (upd H l (.lst ys))):=by
 intro pins s σ H xs us Q I r h
 obtain ⟨p,ys,rfl,hq,q⟩:=h
 obtain ⟨u,rfl,rx⟩:=fW r
 cases rx
 have fin:∀ (its:List Value),Vals ys its->ys.length≤sizeLine->∀ (h':Heap) (c':Nat),(∀ b o',s.heap.get? b=some o'->h'.get? b=some o') ->
   h'.get? s.heap.objs.size=some { cls:=.type "list",dict:=none,data:=.seq its.toArray c',slots:=#[] }->EP X pins σ Q (.ref s.heap.objs.size) { s with heap:=h' }:=λits r' hz h' c' kp e =>
  ⟨.ref s.heap.objs.size,_,I.laid (t':=s.toks) kp (Nat.le_refl _) (show ObjOk X.prog X.w _ h' _ (.lst ys) from ⟨hz,its,c',r',e⟩),rfl,q _ (I.hok.fresh (Nat.le_refl _))⟩
 rcases hq with hq | hq
 ·obtain ⟨its,r',pl,hz⟩:=I.list hq
  have hlen:=r'.length
  obtain ⟨o,ho,hc,n,hd⟩:=pl.isList
  exact call_list_seq p (.inl rfl) ho hc hd (λh' c' kp e=>fin its r' hz h' c' kp e) (by simp only [List.size_toArray] <;> omega)
 ·obtain ⟨its,r',pl,hz⟩:=I.tuple hq
  have hlen:=r'.length
  obtain ⟨o,ho,hc,n,hd⟩:=pl
  exact call_list_seq p (.inr rfl) ho hc hd (λh' c' kp e=>fin its r' hz h' c' kp e) (by simp only [List.size_toArray] <;> omega)
theorem cW:gz X (.type "tuple") (λxs H Q=>∃ p ys,xs=[.ref p]/\((SqL X.K H p ys/\∀ l,H l=none->Q (.ref l) (upd H l (.tup ys)))\/(SqT X.K H p ys/\Q (.ref p) H))):=by
 intro pins s σ H xs us Q I r h
 obtain ⟨p,ys,rfl,h⟩:=h
 obtain ⟨u,rfl,rx⟩:=fW r
 cases rx
 rcases h with ⟨hq,q⟩ | ⟨hq,q⟩
 ·obtain ⟨its,r',pl,hz⟩:=I.list hq
  have hlen:=r'.length
  refine call_tuple_list pl.isList (λh' kp=>?_) (by simp only [List.size_toArray] <;> omega)
  have I1:Inv X pins σ H { s with heap:=h' }:=I.kept (t':=s.toks) kp
  have I2:Inv X pins σ (upd H h'.objs.size (.tup ys)) { s with heap:=h'.push { cls:=.type "tuple",data:=.seq its.toArray } } :=
   I1.laid (t':=s.toks) (λb o e=>Heap.get?_push_of_some _ e) (Nat.le_refl _) (show ObjOk X.prog X.w _ _ _ (.tup ys) from ⟨hz,its,r',IsTup.new _ _⟩)
  exact ⟨.ref h'.objs.size,_,I2,rfl,q _ (I1.hok.fresh (Nat.le_refl _))⟩
 ·obtain ⟨its,r',pl,hz⟩:=I.tuple hq
  exact call_tuple_same pl ⟨.ref p,H,I,rfl,q⟩
def tyV (K:PySem.W.Frag) (T:String) (x:V) (H:Hp):Prop:=match x with
 | .str _=>T="str"
 | .int _=>T="int"
 | .ref p=>(T="list"/\∃ xs,SqL K H p xs)\/(T="tuple"/\∃ o,K.lookup p=some o/\o.cls=.type "tuple"/\o.dict=none) \/
   (T="dict"/\((∃ kvs,H p=some (.dK kvs))\/∃ kvs,H p=some (.dT kvs)))\/(T="set"/\∃ S n,H p=some (.set S n))
 | _=>False
theorem xW {T:String} (I:Inv X pins σ H s) (r:RelV x v) (ty:tyV X.K T x H) :
  s.TypeIs v T/\∀ a,v=.ref a->∃ ob,s.heap.get? a=some ob/\ob.dict=none:=by
 cases x with
 | str z =>
  obtain ⟨t,rfl⟩:=r
  cases (show T="str" from ty)
  exact ⟨typeIs_str s z t,λ_ e=>nomatch e⟩
 | int i =>
  obtain ⟨t,rfl⟩:=r
  cases (show T="int" from ty)
  exact ⟨typeIs_int s i t,λ_ e=>nomatch e⟩
 | ref p =>
  cases r
  rcases ty with ⟨rfl,xs,hq⟩ | ⟨rfl,o,hk,hc,hd⟩ | ⟨rfl,hk⟩ | ⟨rfl,S,n,hk⟩
  ·obtain ⟨its,_,pl,_⟩:=I.list hq
   refine ⟨pl.isList.typeIs,λa e=>?_⟩
   cases e
   obtain ⟨o,n,e,c,hd,_⟩:=pl
   exact ⟨o,e,hd⟩
  ·refine ⟨⟨o,I.kIn p o hk,hc⟩,λa e=>?_⟩
   cases e
   exact ⟨o,I.kIn _ o hk,hd⟩
  ·have z:∃ o,s.heap.get? p=some o/\o.ExactDict:=by
    rcases hk with ⟨kvs,hk⟩ | ⟨kvs,hk⟩
    ·obtain ⟨_,_,_,_,o,_,_,e,ex,_⟩:=I.hok p _ hk
     exact ⟨o,e,ex⟩
    ·obtain ⟨_,_,_,_,o,_,_,e,ex,_⟩:=I.hok p _ hk
     exact ⟨o,e,ex⟩
   obtain ⟨o,e,ex⟩:=z
   refine ⟨⟨o,e,ex.1⟩,λa e2=>?_⟩
   cases e2
   exact ⟨o,e,ex.2.1⟩
  ·obtain ⟨o,_,_,_,e,ex,_⟩:=I.hok p _ hk
   refine ⟨⟨o,e,ex.1⟩,λa e2=>?_⟩
   cases e2
   exact ⟨o,e,ex.2.1⟩
 | _=>exact False.elim ty
def Cq (K:PySem.W.Frag) (T:String) (r:V->List V->Hp->VK->Prop) (to:TE):TE:=λσ H Q=>to σ H λx H1=>tyV K T x H1/\r x [] H1 Q
def tBM (K:PySem.W.Frag) (T:String) (r:V->List V->Hp->VK->Prop) (to:TE) (t:TA):TE:=λσ H Q=>to σ H λx H1=>tyV K T x H1/\t σ H1 λxs H2=>r x xs H2 Q
variable {o e:Expr} {es:List Expr} {to:TE} {t:TA} {name:Str} {apos cpos:Pos} {T id:String} {r:V->List V->Hp->VK->Prop}
theorem rD (pa:PlainAttrs T) (slot:Slot T name id) (hty:typeOf (.builtin id)=pure (.type "method_descriptor")) (hm:MtR X id r) (ho:PE X o to)
  (hbase:attributeBase o name X.env (eval o X.env)=eval o X.env:=by rfl) (hline:(apos.endLine == cpos.line)=true:=by rfl):PE X (.Call (.Attribute o name apos) [] [] cpos) (Cq X.K T r to):=by
 intro pins s σ H Q I h
 refine wpAny_Call_method0_late hbase hline (thn (ho pins s σ H _ I h) λv s1 ⟨x,H1,I1,r1,ty,q1⟩=>?_)
 obtain ⟨h1,h2⟩:=xW I1 r1 ty
 exact ⟨T,id,pa,slot,hty,h1,h2,Calls.callWith_builtin rfl (PySem.evalArgs_none (hm pins s1 σ H1 x [] v [] Q I1 r1 .nil q1))⟩
theorem cy (pa:PlainAttrs T) (slot:Slot T name id) (hty:typeOf (.builtin id)=pure (.type "method_descriptor")) (hm:MtR X id r) (ho:PE X o to) (ha:PA X (e::es) t)
  (hbase:attributeBase o name X.env (eval o X.env)=eval o X.env:=by rfl)
  (hfew:((backTo cpos (starEach (e::es) X.env)).all (λx=>!x.1) && (backToKw cpos (keywordEach [] X.env)).all (λx=>x.1.isSome)
   && decide ((e::es).length+([]:List Keyword).length+(if ([]:List Keyword).isEmpty then 0 else 1) < 30))=true:=by rfl)
  (hline:(apos.endLine == cpos.line)=true:=by rfl) (hs:starEach (e::es) X.env=(false,eval e X.env)::starEach es X.env:=by rfl) (hplain:(backTo cpos (starEach es X.env)).any (·.1)=false:=by rfl) :
  PE X (.Call (.Attribute o name apos) (e::es) [] cpos) (tBM X.K T r to t):=by
 intro pins s σ H Q I h
 refine wpAny_Call_method_late hbase hfew hline rfl (thn (ho pins s σ H _ I h) λv s1 ⟨x,H1,I1,r1,ty,q1⟩=>?_)
 obtain ⟨h1,h2⟩:=xW I1 r1 ty
 refine ⟨T,id,pa,slot,hty,h1,h2,?_⟩
 have hA:=ha cpos pins s1 σ H1 _ I1 q1
 rw [hs] at hA ⊢
 refine Calls.callWith_builtin (by show (false || (backTo cpos (starEach es X.env)).any (·.1))=false;rw [hplain] <;> rfl) (Calls.evalArgs_plain ?_)
 exact thn hA λus s2 ⟨vs,H2,I2,r2,q2⟩=>hm pins s2 σ H2 x vs v us Q I2 r1 r2 q2
end
def MtM (X:Cx) (id:String) (r:V->List V->Hp->VK->Prop):Prop :=
 ∀ (pins:List (Addr × Obj)) (s:Shared) (σ:St) (H:Hp) (x:V) (xs:List V) (v:Value) (us:List Value) (Q:VK),Inv X pins σ H s->RelV x v->Vals xs us->r x xs H Q ->
  wpAny (model X.prog X.w) X.A (call (.builtin id) (v::us)) (EP X pins σ Q) X.xe s
theorem Vals.one:∀ {x:V} {us:List Value},Vals [x] us->∃ u,us=[u]/\RelV x u
 | _,_,.cons r .nil=>⟨_,rfl,r⟩
theorem Vals.zero:∀ {us:List Value},Vals [] us->us=[]
 | _,.nil=>rfl
variable {xs:List V} {us:List Value}
theorem Vals.dropLast (h:Vals xs us):Vals xs.dropLast us.dropLast:=by
 induction h with
 | nil=>exact .nil
 | cons r t ih =>
  cases t with
  | nil=>exact .nil
  | cons q t'=>exact .cons r ih
theorem Vals.rep (h:Vals xs us):∀ k:Nat,Vals (List.replicate k xs).flatten (List.replicate k us).flatten
 | 0=>.nil
 | k+1=>by
  rw [List.replicate_succ,List.replicate_succ,List.flatten_cons,List.flatten_cons]
  exact Vals.append h (Vals.rep h k)
theorem qJ {α:Type} (l:List α):l.eraseIdx (l.length - 1)=l.dropLast:=by
 induction l with
 | nil=>rfl
 | cons a r ih =>
  cases r with
  | nil=>rfl
  | cons b r =>
   have e:(a::b::r).length - 1=((b::r).length - 1)+1:=by
    have h1:(a::b::r).length=r.length+2:=rfl
    have h2:(b::r).length=r.length+1:=rfl
    omega
   rw [e,List.eraseIdx_cons_succ,ih]
   all_goals rfl
theorem eX (its:List Value):∀ (k:Nat) (acc:List Value),
  List.foldl (λx1 x2=>x1++x2) acc.toArray (List.replicate k its.toArray)=(acc++(List.replicate k its).flatten).toArray
 | 0,acc=>by simp
 | k+1,acc=>by
  have e:acc.toArray++its.toArray=(acc++its).toArray:=by simp
  have e2:(acc++its)++(List.replicate k its).flatten=acc++(List.replicate (k+1) its).flatten:=by
   rw [List.replicate_succ,List.flatten_cons,List.append_assoc]
  rw [← e2,← eX its k (acc++its),← e,List.replicate_succ,List.foldl_cons]
section
variable {X:Cx} {pins:List (Addr × Obj)} {σ:St} {H:Hp} {s:Shared} {l b:Addr} {xs ys zs:List V}
variable {its:List Value} {n t':Nat}
theorem Inv.lset {its':List Value} {f:Array Value->Array Value} (I:Inv X pins σ H s) (hH:H l=some (.lst xs))
  (e:s.heap.get? l=some { cls:=.type "list",data:=.seq its.toArray n }) (hf:f its.toArray=its'.toArray) (hv:Vals ys its') (hz:ys.length≤sizeLine) :
  Inv X pins σ (upd H l (.lst ys)) { s with heap:=s.heap.update l (Obj.mapSeq f),toks:=t' }:=by
 have q:=PySem.IsL.update e f
 rw [hf] at q
 refine I.write (x:=l) (e:=l) (by rw [hH];exact trivial) (.inl rfl) (λb' u hb hu=>(Heap.get?_update_other s.heap (Obj.mapSeq f) (Ne.symm hb)).trans hu) ⟨_,q⟩ ?_
 exact ⟨hz,its',_,hv,q⟩
theorem Inv.lnew (I:Inv X pins σ H s) (hv:Vals ys its) (hz:ys.length≤sizeLine) :
  Inv X pins σ (upd H s.heap.objs.size (.lst ys)) { s with heap:=s.heap.push { cls:=.type "list",data:=.seq its.toArray },toks:=t' } :=
 I.laid (λ_ _ q=>Heap.get?_push_of_some _ q) (Nat.le_refl _) ⟨hz,its,0,hv,Heap.get?_push_size _ rfl⟩
theorem Inv.fresh (I:Inv X pins σ H s):H s.heap.objs.size=none:=I.hok.fresh (Nat.le_refl _)
theorem Inv.lstM (I:Inv X pins σ H s) (hH:H l=some (.lst xs)):xs.length≤sizeLine/\∃ (its:List Value) (n:Nat),Vals xs its/\xs.length=its.length/\s.heap.get? l=some { cls:=.type "list",data:=.seq its.toArray n }:=by
 obtain ⟨z,its,n,r,e⟩:=I.hok l _ hH
 exact ⟨z,its,n,r,r.length,e⟩
theorem pF (h:n≤sizeLine):Builtin.List.listTooLong n=false:=by
 unfold Builtin.List.listTooLong
 exact decide_eq_false (by omega)
end
section
variable {X:Cx}
def kj:V->List V->Hp->VK->Prop:=λx vs H Q=>∃ l xs y,x=.ref l/\vs=[y]/\H l=some (.lst xs)/\xs.length < sizeLine/\Q .non (upd H l (.lst (xs++[y])))
theorem dB:MtM X "list.append" kj:=by
 intro pins s σ H x vs v us Q I rx rv h
 obtain ⟨l,xs,y,rfl,rfl,hH,hz,q⟩:=h
 cases rx
 obtain ⟨u,rfl,ru⟩:=rv.one
 obtain ⟨z,its,n,r,hl,e⟩:=I.lstM hH
 refine call_meets F.slot_list_append ⟨_,e,rfl⟩ F.entry_list_append (F.args_list_append_2 _ _) (PySem.list_append l its.toArray n u (by rw [List.size_toArray];omega)) ⟨e,?_⟩
 refine ⟨.non,_,I.lset (its':=its++[u]) hH e (by simp) (r.append (.cons ru .nil)) ?_,rfl,q⟩
 rw [List.length_append,List.length_singleton]
 omega
def tL:V->List V->Hp->VK->Prop:=λx vs H Q=>∃ l b xs zs,x=.ref l/\vs=[.ref b]/\H l=some (.lst xs)/\H b=some (.lst zs)/\xs.length+zs.length≤sizeLine/\Q .non (upd H l (.lst (xs++zs)))
theorem bx:MtM X "list.extend" tL:=by
 intro pins s σ H x vs v us Q I rx rv h
 obtain ⟨l,b,xs,zs,rfl,rfl,hH,hB,hz,q⟩:=h
 cases rx
 obtain ⟨u,rfl,ru⟩:=rv.one
 cases ru
 obtain ⟨z,its,n,r,hl,e⟩:=I.lstM hH
 obtain ⟨z2,its2,n2,r2,hl2,e2⟩:=I.lstM hB
 have hsz:its.toArray.size+its2.toArray.size≤sizeLine:=by rw [List.size_toArray,List.size_toArray];omega
 have hlong:¬ (!its.toArray.isEmpty && Builtin.List.listTooLong (its.toArray.size+its2.toArray.size))=true:=by
  rw [pF hsz,Bool.and_false]
  exact Bool.false_ne_true
 refine call_meets F.slot_list_extend ⟨_,e,rfl⟩ F.entry_list_extend (F.args_list_extend_2 _ _)
  (AutoSeq1.list_extend_list_list_0 l its.toArray n b its2.toArray n2 hlong (by rw [List.size_toArray];omega) (by omega)) ⟨e,e2,?_⟩
 refine ⟨.non,_,I.lset (its':=its++its2) hH e (by simp) (r.append r2) ?_,rfl,q⟩
 rw [List.length_append]
 omega
def zu:V->List V->Hp->VK->Prop:=λx vs H Q=>∃ l xs y,x=.ref l/\vs=[]/\H l=some (.lst xs)/\xs[xs.length - 1]?=some y/\Q y (upd H l (.lst xs.dropLast))
theorem qZ:MtM X "list.pop" zu:=by
 intro pins s σ H x vs v us Q I rx rv h
 obtain ⟨l,xs,y,rfl,rfl,hH,hy,q⟩:=h
 cases rx
 have hus:=rv.zero
 subst hus
 obtain ⟨z,its,n,r,hl,e⟩:=I.lstM hH
 obtain ⟨u,hu,ru⟩:=r.get hy
 have hy':its.toArray[its.toArray.size - 1]?=some u:=by
  show its.toArray[its.length - 1]?=some u
  rw [← Array.getElem?_toList,← hl]
  exact hu
 refine call_meets F.slot_list_pop ⟨_,e,rfl⟩ F.entry_list_pop (F.args_list_pop_1 _) (MeetsSeq.list_pop_last l its.toArray n u hy' (by rw [List.size_toArray];omega)) ⟨e,?_⟩
 refine ⟨y,_,I.lset (its':=its.dropLast) hH e ?_ r.dropLast ?_,ru,q⟩
 ·show its.toArray.eraseIdxIfInBounds (its.toArray.size - 1)=its.dropLast.toArray
  rw [List.size_toArray,List.eraseIdxIfInBounds_toArray,qJ]
 ·rw [List.length_dropLast]
  omega
def Cd:R2:=λx y H Q=>∃ l k xs,x=.ref l/\y=.int k/\H l=some (.lst xs)/\-(2 ^ 63)≤k/\k < 2 ^ 63/\xs.length * k.toNat≤sizeLine /\
 ∀ p,H p=none->Q (.ref p) (upd H p (.lst (List.replicate k.toNat xs).flatten))
theorem tw {α:Type} (xs:List α) (k:Nat):(List.replicate k xs).flatten.length=k * xs.length:=by
 induction k with
 | zero=>simp
 | succ k ih=>rw [List.replicate_succ,List.flatten_cons,List.length_append,ih,Nat.succ_mul,Nat.add_comm]
theorem Bj:OpR X (binaryOp .Mult) Cd:=by
 intro pins s σ H x y v u Q I rx ry h
 obtain ⟨l,k,xs,rfl,rfl,hH,h1,h2,hz,q⟩:=h
 cases rx
 obtain ⟨t,rfl⟩:=ry
 obtain ⟨z,its,n,r,hl,e⟩:=I.lstM hH
 have hlen:its.toArray.size * k.toNat≤sizeLine:=by rw [List.size_toArray,← hl];exact hz
 have hcap:¬ its.toArray.size * k.toNat > (2 ^ 63 - 1) / 8:=by
  have:(sizeLine:Nat)≤(2 ^ 63 - 1) / 8:=by decide
  omega
 have hfit:¬ (!Builtin.List.listFitsIndex k)=true:=by
  rw [fitsIndex_both h1 h2]
  exact Bool.false_ne_true
 have hlong:¬ Builtin.List.listTooLong (its.toArray.size * k.toNat)=true:=by
  rw [pF hlen]
  exact Bool.false_ne_true
 have hnew:List.foldl (λx1 x2=>x1++x2) #[] (List.replicate (if its.toArray.isEmpty=true then 0 else k.toNat) its.toArray)=(List.replicate k.toNat its).flatten.toArray:=by
  have f0:∀ m:Nat,List.foldl (λx1 x2=>x1++x2) #[] (List.replicate m its.toArray)=(List.replicate m its).flatten.toArray:=λm=>by
   have:=eX its m []
   rw [List.nil_append] at this
   exact this
  rw [f0]
  cases its with
  | nil=>simp
  | cons a r'=>rw [if_neg (by simp)]
 refine wpAny_binaryOp_repeat_ref (T:="list") (U:="int") (by decide) ⟨_,e,rfl⟩ (λs'=>typeIs_int s' k t) noFill_list_mul F.fills_int_mul F.slot_int_rmul repeat_list F.slot_int_index.lookup
  (call_meets F.slot_int_rmul (typeIs_int s k t) F.entry_int_rmul (F.args_int_rmul_2 _ _) (int___rmul___int_list k t l its.toArray n)
   ⟨e,rfl,⟨_,e,rfl⟩,call_meets F.slot_list_mul ⟨_,e,rfl⟩ F.entry_list_mul (F.args_list_mul_2 _ _) (AutoListH.list___mul___list_int_3 l its.toArray n k t hfit hcap hlong) ⟨e,?_⟩⟩)
 rw [hnew]
 exact ⟨.ref _,_,I.lnew (t':=s.toks) (r.rep k.toNat) (by rw [tw,Nat.mul_comm];exact hz),rfl,q _ I.fresh⟩
end
section
variable {prog:Program} {w:World} {A:Around} {E:Value->Shared->Prop} {s:Shared}
set_option maxRecDepth 100000 in
end
section
variable {X:Cx}
end
section
variable {κ:Type} [DecidableEq κ]
def oH (kvs:List (κ × V)) (k:κ):Option V:=(kvs.find? λkv=>decide (kv.1=k)).map (·.2)
def pW (kvs:List (κ × V)) (k:κ) (v:V):List (κ × V) :=
 if (kvs.any λkv=>decide (kv.1=k))=true then kvs.map (λkv=>if kv.1=k then (kv.1,v) else kv) else kvs++[(k,v)]
theorem qi {p:κ × V} {r:List (κ × V)} {k:κ} (e:p.1=k):oH (p::r) k=some p.2:=by simp [oH,List.find?_cons,e]
theorem qh {p:κ × V} {r:List (κ × V)} {k:κ} (e:¬ p.1=k):oH (p::r) k=oH r k:=by simp [oH,List.find?_cons,e]
theorem pz (kvs:List (κ × V)) (k:κ) (v:V):(pW kvs k v).length≤kvs.length+1:=by
 unfold pW
 split
 ·rw [List.length_map];omega
 ·rw [List.length_append,List.length_cons,List.length_nil];omega
theorem KV.val {kvs:List (κ × V)} {vs:List (κ × Value)} (r:KV kvs vs) (k:κ):RelO (oH kvs k) (valueAt vs k):=by
 unfold KV at r
 induction r with
 | nil=>exact True.intro
 | @cons p q ps qs h t ih =>
  obtain ⟨h1,h2⟩:=h
  by_cases e:p.1=k
  ·have e':q.1=k:=h1.symm.trans e
   have b:valueAt (q::qs) k=some q.2:=by simp [valueAt,List.find?_cons,e']
   rw [qi e,b];exact h2
  ·have e':¬ q.1=k:=λz=>e (h1.trans z)
   have b:valueAt (q::qs) k=valueAt qs k:=by simp [valueAt,List.find?_cons,e']
   rw [qh e,b];exact ih
theorem KV.any {kvs:List (κ × V)} {vs:List (κ × Value)} (r:KV kvs vs) (k:κ):(kvs.any λkv=>decide (kv.1=k))=vs.any λkv=>decide (kv.1=k):=by
 unfold KV at r
 induction r with
 | nil=>rfl
 | cons h t ih=>rw [List.any_cons,List.any_cons,ih,h.1]
variable {y:V} {u:Value}
theorem KV.repl {kvs:List (κ × V)} {vs:List (κ × Value)} (r:KV kvs vs) (k:κ) (ry:RelV y u) :
  KV (kvs.map λkv=>if kv.1=k then (kv.1,y) else kv) (vs.map λkv=>if kv.1=k then (kv.1,u) else kv):=by
 unfold KV at r ⊢
 induction r with
 | nil=>exact .nil
 | @cons p q ps qs h t ih =>
  rw [List.map_cons,List.map_cons]
  refine .cons ?_ ih
  obtain ⟨h1,h2⟩:=h
  by_cases e:p.1=k
  ·rw [if_pos e,if_pos (h1.symm.trans e)];exact ⟨h1,ry⟩
  ·rw [if_neg e,if_neg (λz=>e (h1.trans z))];exact ⟨h1,h2⟩
theorem KV.put {kvs:List (κ × V)} {vs:List (κ × Value)} (r:KV kvs vs) (k:κ) (ry:RelV y u):KV (pW kvs k y) (stored vs k u):=by
 unfold pW stored
 rw [r.any k]
 by_cases e:(vs.any λkv=>decide (kv.1=k))=true
 ·rw [if_pos e,if_pos e];exact r.repl k ry
 ·rw [if_neg e,if_neg e];exact Paired.snoc r ⟨rfl,ry⟩
end
variable {P:Program} {w:World}
theorem wG {k:Key} {u:Value} (r:RelV (kV k) u):(cE P w).is k u=true:=by
 cases k with
 | inl i=>obtain ⟨t,e⟩:=(show ∃ t,u=Value.int i t from r);subst e;exact pC P w i t
 | inr x=>obtain ⟨t,e⟩:=(show ∃ t,u=Value.str x t from r);subst e;exact pD P w x t
theorem mL:∀ {ks:List Key} {us:List Value},Vals (ks.map kV) us->ItemsAre (cE P w) ks us
 | [],_,r=>by rw [List.map_nil] at r;cases r;exact .nil
 | k::ks,_,r=>by
  rw [List.map_cons] at r
  cases r with
  | cons h t=>exact .cons (wG h) (mL t)
abbrev KT (H:Hp):List (List Key × V)->List (List Key × Addr × Value)->Prop:=Paired λp q=>p.1=q.1/\H q.2.1=some (.tup (p.1.map kV))/\RelV p.2 q.2.2
variable {H:Hp}
theorem KT.val {kvs:List (List Key × V)} {xs:List (List Key × Addr × Value)} (r:KT H kvs xs) (k:List Key):RelO (oH kvs k) ((atKey xs k).map (·.2)):=by
 induction r with
 | nil=>exact True.intro
 | @cons p q ps qs h t ih =>
  obtain ⟨h1,_,h2⟩:=h
  by_cases e:p.1=k
  ·have e':q.1=k:=h1.symm.trans e
   have b:atKey (q::qs) k=some q.2:=by simp [atKey,List.find?_cons,e']
   rw [qi e,b];exact h2
  ·have e':¬ q.1=k:=λz=>e (h1.trans z)
   have b:atKey (q::qs) k=atKey qs k:=by simp [atKey,List.find?_cons,e']
   rw [qh e,b];exact ih
section
variable {P:Program} {w:World} {H:Hp} {h:Heap} {a:Addr}
theorem As {u:HO} (ok:HOk P w H h) (e:Rd H a u):ObjOk P w H h a u:=e.ok ok
variable {kvs:List (Key × V)}
theorem vV (ok:HOk P w H h) (e:Rd H a (.dK kvs)):kvs.length≤sizeLine/\(a == sysModules)=false/\∃ vs,KV kvs vs/\h.DictOf (cE P w) a vs :=
 show ObjOk P w H h a (.dK kvs) from As ok e
theorem B4 (ok:HOk P w H h) (e:H a=some (.dK kvs)):kvs.length≤sizeLine/\(a == sysModules)=false/\∃ vs,KV kvs vs/\h.DictOf (cE P w) a vs:=vV ok (.inl e)
theorem wI {ks:List Key} (ok:HOk P w H h) (e:H a=some (.tup (ks.map kV))):(tupleKind (cE P w)).is h ks a:=by
 obtain ⟨_,its,r,o,h1,h2,n,h3⟩:=(show ObjOk P w H h a (.tup (ks.map kV)) from ok a _ e)
 exact ⟨o,its.toArray,n,h1,h2,h3,by simpa using mL r⟩
theorem Af {kvs:List (List Key × V)} (ok:HOk P w H h) (e:Rd H a (.dT kvs)):kvs.length≤sizeLine/\(a == sysModules)=false /\
  ∃ xs,KT H kvs xs/\h.DictOfH (tupleKind (cE P w)) a xs:=by
 obtain ⟨z,y,xs,r,o,es,ep,h1,h2,h3,h4,h5⟩:=(show ObjOk P w H h a (.dT kvs) from As ok e)
 refine ⟨z,y,xs,r,o,es,ep,h1,h2,h3,h4,λx hx=>?_,h5⟩
 have all:∀ {l:List (List Key × V)} {m:List (List Key × Addr × Value)},KT H l m->∀ x ∈ m,(tupleKind (cE P w)).is h x.1 x.2.1:=by
  intro l m q
  induction q with
  | nil=>intro x hx;exact nomatch hx
  | @cons p q ps qs hq t ih =>
   intro x hx
   rcases List.mem_cons.mp hx with e | hx
   ·subst e
    exact wI ok (by rw [← hq.1];exact hq.2.1)
   ·exact ih x hx
 exact all r x hx
end
def AH (H:Hp) (a:Addr) (y:V) (r:Option V):Prop :=
 (∃ kvs k,Rd H a (.dK kvs)/\y=kV k/\r=oH kvs k)\/∃ kvs k b,Rd H a (.dT kvs)/\y=.ref b/\H b=some (.tup (k.map kV))/\r=oH kvs k
section
variable {X:Cx} {pins:List (Addr × Obj)} {σ:St} {H:Hp} {s:Shared} {a:Addr} {y v:V} {u r:Value} {o:Option V} {A:Around} {E:Value->Shared->Prop}
theorem Inv.big (I:Inv X pins σ H s):sysModules < s.heap.objs.size:=by
 have h:mainGlobals < s.heap.objs.size:=(I.mod.glob.keeps I.bk).lt
 exact Nat.lt_trans (by decide) h
theorem ue {Q:Value->Shared->Prop} (hu:A.units+1 < cLine) (I:Inv X pins σ H s) (g:AH H a y (some v)) (ry:RelV y u) (h:∀ w' s',Inv X pins σ H s'->RelV v w'->Q w' s') :
  wpAny (model X.prog X.w) A (getItem (.ref a) u) Q E s:=by
 rcases g with ⟨kvs,k,e,ey,l⟩ | ⟨kvs,k,b,e,ey,eb,l⟩
 ·subst ey
  obtain ⟨z,hd,vs,rel,dd⟩:=vV I.hok e
  obtain ⟨w',hw,rw'⟩:=RelO.some_of (v:=v) (o:=valueAt vs k) (by rw [l];exact rel.val k)
  exact wpAny_getItem_of (wG ry) dd.mapOf hw (h w' _ (I.tok _) rw')
 ·subst ey
  cases (show u=Value.ref b from ry)
  obtain ⟨z,hd,xs,rel,dd⟩:=Af I.hok e
  obtain ⟨w',hw,rw'⟩:=RelO.some_of (v:=v) (o:=(atKey xs k).map (·.2)) (by rw [l];exact rel.val k)
  obtain ⟨p,hp,hp2⟩:=Option.map_eq_some_iff.mp hw
  refine wpAny_getItem_heap (tupleKind_room_in1 hu) (wI I.hok eb) dd hp ?_
  rw [hp2]
  exact h w' _ (I.tok _) rw'
variable {h':Heap}
theorem yz {t':Nat} {ob:HO} (I:Inv X pins σ H s) (mu:Mut (H a)) (hs:Heap.SameBut a s.heap h') (he:∃ q,h'.get? a=some q) (new:ObjOk X.prog X.w (upd H a ob) h' a ob) :
  Inv X pins σ (upd H a ob) { s with heap:=h',toks:=t' } :=
 I.write (x:=a) (e:=a) mu (.inl rfl) (λb q hb z=>(hs.2 b hb).trans z) he new
theorem A2 {P:Program} {w:World} {H':Hp} {kvs:List (Key × V)} {vs:List (Key × Value)} (z:kvs.length≤sizeLine) (hd:(a == sysModules)=false) (rel:KV kvs vs) (dd:h'.DictOf (cE P w) a vs) :
  ObjOk P w H' h' a (.dK kvs):=⟨z,hd,vs,rel,dd⟩
end
section
variable {X:Cx} {pins:List (Addr × Obj)} {σ:St} {H:Hp} {s:Shared} {a:Addr} {kvs:List (Key × V)} {k:Key} {u:Value} {A:Around} {E:Value->Shared->Prop}
end
def BU (i:Expr):Prop:=∀ ov iv,subscripted i false ov iv=operate [ov,iv] (getItem ov iv)
variable {s:Shared} {pos:Pos}
theorem zR {prog:Program} {A:Around} {E:Value->Shared->Prop} {env:Env} {value slice:Expr} {T id:String} {Q:Value->Shared->Prop}
  (hl:typeLookup (.type T) "__getitem__"=pure (some (.builtin id))) (hs:BU slice)
  (h:wpAny (model prog w) A (eval value env) (λo s₁=>wpAny (model prog w) A (eval slice env) (λi s₂=>s₂.TypeIs o T/\wpAny (model prog w) A (getItem o i) Q E s₂) E s₁) E s) :
  wpAny (model prog w) A (eval (.Subscript value slice pos) env) Q E s:=by
 refine Subscript_ (wpAny_mono h (λo s₁ h₁=>wpAny_mono h₁ (λi s₂ h₂=>?_) λ_ _ x=>x) λ_ _ x=>x)
 obtain ⟨hT,h₂⟩:=h₂
 unfold subscriptTail
 refine wpAny_bind ?_
 rw [getitemInPython_of_ne hT.not_modules]
 refine wpAny_bind (wpAny_specialOf hT hl ?_)
 have fin:wpAny (model prog w) A (subscripted slice false o i) (λr s₃=>wpAny (model prog w) A (letTemporaryGo value o r >>= λ_=>pure r) Q E s₃) E s₂:=by
  rw [hs o i]
  exact wpAny_operating (wpAny_mono h₂ (λr s₃ h₃=>wpAny_bind (wpAny_letTemporaryGo (wpAny_pure h₃))) λ_ _ x=>x)
 first
  | exact wpAny_pure (wpAny_bind fin)
  | exact wpAny_bind (wpAny_pure (wpAny_bind fin))
  | exact wpAny_bind fin
variable {X:Cx}
theorem o8 {pins:List (Addr × Obj)} {σ:St} {a:Addr} {y:V} {o:Option V} (I:Inv X pins σ H s) (g:AH H a y o):s.TypeIs (.ref a) "dict":=by
 rcases g with ⟨kvs,k,e,_,_⟩ | ⟨kvs,k,b,e,_,_,_⟩
 ·obtain ⟨_,_,vs,_,dd⟩:=vV I.hok e
  exact dd.typeIs
 ·obtain ⟨_,_,xs,_,dd⟩:=Af I.hok e
  exact dd.typeIs
def Cr (td ty:TE):TE:=λσ H Q=>td σ H λx H1=>ty σ H1 λy H2=>∃ a v,x=.ref a/\AH H2 a y (some v)/\Q v H2
section
variable {X:Cx} {o i e value:Expr} {pos pos' tpos:Pos} {td ty tv:TE}
theorem kh (hu:X.A.units+1 < cLine) (ho:PE X o td) (hi:PE X i ty) (hs:BU i):PE X (.Subscript o i pos) (Cr td ty):=by
 intro pins s σ H Q I h
 refine zR PySem.F.slot_dict_getitem.lookup hs (thn (ho pins s σ H _ I h) λu s1 ⟨x,H1,I1,rx,q1⟩=>thn (hi pins s1 σ H1 _ I1 q1) λiv s2 ⟨y,H2,I2,ry,a,v,ex,g,q2⟩=>?_)
 subst ex
 obtain rfl:u=Value.ref a:=rx
 exact ⟨o8 I2 g,ue hu I2 g ry λw' s3 I3 rw'=>⟨v,H2,I3,rw',q2⟩⟩
end
theorem vU (h:Heap) (hb:sysModules < h.objs.size):ObjOk P w H (h.push { cls:=.type "dict",data:=.dict #[] }) h.objs.size (.dK []) :=
 ⟨Nat.zero_le _,beq_eq_false_iff_ne.mpr (Ne.symm (Nat.ne_of_lt hb)),[],.nil,Heap.DictOf.new h⟩
section
variable {X:Cx} {pos:Pos}
end
def se:List (TE × TE)->St->Hp->(List (V × V)->Hp->Prop)->Prop
 | [],_,H,Q=>Q [] H
 | (tk,tv)::r,σ,H,Q=>tk σ H λx H1=>tv σ H1 λy H2=>se r σ H2 λps H3=>Q ((x,y)::ps) H3
abbrev VV:List (V × V)->List (Value × Value)->Prop:=Paired λp q=>RelV p.1 q.1/\RelV p.2 q.2
def PPs (X:Cx) (pos:Pos) (keys:List (Option Expr)) (values:List Expr) (trs:List (TE × TE)):Prop :=
 ∀ (pins:List (Addr × Obj)) (s:Shared) (σ:St) (H:Hp) (Q:List (V × V)->Hp->Prop),Inv X pins σ H s->se trs σ H Q ->
  wpAny (model X.prog X.w) X.A (evalPairs (pairTrees keys values X.env pos)) (λvs s'=>∃ ps H',Inv X pins σ H' s'/\VV ps vs/\Q ps H') X.xe s
theorem zp:PPs X pos [] [] []:=λpins s σ H Q I h=>pairTrees_nil_walk ⟨[],H,I,.nil,h⟩
variable {trs:List (TE × TE)}
theorem lD {k v:Expr} {ks:List (Option Expr)} {vs:List Expr} {tk tv:TE} (hk:PE X k tk) (hv:PE X v tv) (hr:PPs X pos ks vs trs) :
  PPs X pos (some k::ks) (v::vs) ((tk,tv)::trs):=λpins s σ H Q I h =>
 pairTrees_cons_walk (thn (hk pins s σ H _ I h) λu s1 ⟨x,H1,I1,rx,q1⟩=>thn (hv pins s1 σ H1 _ I1 q1) λw2 s2 ⟨y,H2,I2,ry,q2⟩ =>
  thn (hr pins s2 σ H2 _ I2 q2) λws s3 ⟨ps,H3,I3,rel,q3⟩=>⟨(x,y)::ps,H3,I3,.cons ⟨rx,ry⟩ rel,q3⟩)
def jB (kvs more:List (Key × V)):List (Key × V):=more.foldl (λacc kv=>pW acc kv.1 kv.2) kvs
theorem KV.merge:∀ {more:List (Key × V)} {rs:List (Key × Value)} {kvs:List (Key × V)} {vs:List (Key × Value)},KV more rs->KV kvs vs->KV (jB kvs more) (merged vs rs):=by
 intro more rs kvs vs r
 unfold KV at r
 induction r generalizing kvs vs with
 | nil=>intro q;exact q
 | @cons p q ps qs h t ih =>
  intro r0
  have e:KV (pW kvs p.1 p.2) (stored vs q.1 q.2):=by
   have:=r0.put p.1 h.2
   rw [← h.1];exact this
  exact ih e
theorem iu:∀ (more kvs:List (Key × V)),(jB kvs more).length≤kvs.length+more.length
 | [],kvs=>by show kvs.length≤kvs.length+0;omega
 | p::r,kvs=>by
  have h1:=iu r (pW kvs p.1 p.2)
  have h2:=pz kvs p.1 p.2
  show (jB (pW kvs p.1 p.2) r).length≤_
  rw [List.length_cons];omega
theorem kC {P:Program} {w:World}:∀ {kvs:List (Key × V)} {ws:List (Value × Value)},VV (kvs.map λkv=>(kV kv.1,kv.2)) ws->∃ rs,Carries (cE P w) ws rs/\KV kvs rs
 | [],_,r=>by rw [List.map_nil] at r;cases r;exact ⟨[],True.intro,.nil⟩
 | p::kvs,_,r=>by
  rw [List.map_cons] at r
  cases r with
  | @cons a b as bs h t =>
   obtain ⟨rs,c,q⟩:=kC (P:=P) (w:=w) t
   obtain ⟨b1,b2⟩:=b
   exact ⟨(p.1,b2)::rs,⟨wG h.1,rfl,c⟩,.cons ⟨rfl,h.2⟩ q⟩
def Cs (trs:List (TE × TE)):TE:=λσ H Q=>∀ p,H p=none->se trs σ (upd H p (.dK [])) λps H2=>H2 p=some (.dK [])/\∃ kvs:List (Key × V),ps=kvs.map (λkv=>(kV kv.1,kv.2))/\kvs.length≤15/\Q (.ref p) (upd H2 p (.dK (jB [] kvs)))
theorem zg {keys:List (Option Expr)} {values:List Expr} (h:PPs X pos keys values trs) (hall:keys.all (·.isSome)=true) (hl:keys.length=values.length) (h0:keys≠[])
  (h15:keys.length≤15):PE X (.Dict keys values pos) (Cs trs):=by
 intro pins s σ H Q I q
 have hn:=I.hok.fresh (Nat.le_refl s.heap.objs.size)
 have I1:=I.laid (a:=s.heap.objs.size) (o:=.dK []) (h':=s.heap.push { cls:=.type "dict",data:=.dict #[] }) (t':=s.toks) (λ_ _ q=>Heap.get?_push_of_some _ q) (Nat.le_refl _) (vU s.heap I.big)
 refine wpAny_Dict_walk (knd:=cE X.prog X.w) hall hl h0 h15 (thn (h pins _ σ _ _ I1 (q _ hn)) λws s2 ⟨ps,H2,I2,rel,e,kvs,ep,lk,q2⟩=>?_)
 subst ep
 obtain ⟨rs,c,rk⟩:=kC (P:=X.prog) (w:=X.w) rel
 obtain ⟨z,hd,vs0,r0,dd⟩:=B4 I2.hok e
 cases r0
 refine ⟨rs,c,dd,λh' dd' hs=>⟨.ref s.heap.objs.size,_,?_,rfl,q2⟩⟩
 have hz:(jB [] kvs).length≤sizeLine:=by
  have h1:=iu kvs []
  rw [List.length_nil] at h1
  rw [sizeLine_eq];omega
 have he:∃ q,h'.get? s.heap.objs.size=some q:=let ⟨q,_,_,hq,_⟩:=dd';⟨q,hq⟩
 exact yz I2 (by rw [e];exact True.intro) hs he (A2 hz hd (rk.merge .nil) dd')
structure M2 (X:Cx) (o:Expr) (m:Str) (apos:Pos) (e f:Expr) (cpos:Pos):Prop where
 base:attributeBase o m X.env (eval o X.env)=eval o X.env
 few:((backTo cpos (starEach [e,f] X.env)).all (λx=>!x.1) && (backToKw cpos (keywordEach [] X.env)).all (λx=>x.1.isSome)
  && decide (([e,f]:List Expr).length+([]:List Keyword).length+(if ([]:List Keyword).isEmpty then 0 else 1) < 30))=true
 line:(apos.endLine == cpos.line)=true
 trees:backTo cpos (starEach [e,f] X.env)=[(false,eval e X.env),(false,eval f X.env)]
section
variable {X:Cx} {pins:List (Addr × Obj)} {σ:St} {H:Hp} {s:Shared} {a:Addr} {y d:V} {u r:Value} {o:Option V} {A:Around} {E:Value->Shared->Prop}
end
section
variable {X:Cx} {o e f:Expr} {apos cpos:Pos} {td ty tx:TE}
end
section
variable {X:Cx} {pins:List (Addr × Obj)} {σ:St} {H:Hp} {s:Shared} {a:Addr} {kvs:List (Key × V)} {A:Around} {E:Value->Shared->Prop}
end
section
variable {X:Cx} {pins:List (Addr × Obj)} {σ:St} {H:Hp} {s:Shared} {a:Addr} {y:V} {u:Value} {A:Around} {E:Value->Shared->Prop}
end
end L2
namespace Att
open PySem PySem.W PySem.Calls PyProof.Rows
variable {P:Params}
theorem j5 {h:Heap}:∀ (ns:List Int) (vs:List Value),WellAll P h vs (ns.map WData.int)->IntsAre vs ns:=by
 intro ns
 induction ns with
 | nil =>
  intro vs w
  rw [List.map_nil] at w
  cases w
  exact .nil
 | cons n ns ih =>
  intro vs w
  rw [List.map_cons] at w
  cases w with
  | cons a b =>
   cases a
   exact .cons _ _ (ih _ b)
variable {l:OpenLaw} {n:Nat}
theorem uT (hn:l.most=some n) {h:Heap} {args:List WData} {vals:List Value}
  (hpre:l.row.toRowW.claim.pre args=true) (hwl:WellAll P h vals args) :
  ∃ a vs ns,vals=[Value.ref a]/\args=[WData.list (ns.map WData.int)]/\h.get? a=some { cls:=.type "list",data:=.seq vs.toArray }/\IntsAre vs ns/\ns.length≤n:=by
 have hsh:WShape.hasAll [] args [.list .int]=true:=(pre_splitW hpre).1
 have hc:l.pre.holds [] { args:=args }=true:=(pre_splitW hpre).2
 obtain ⟨d,r,rfl,h1,h2⟩:=hasAllW_cons hsh
 obtain rfl:=hasAllW_nil h2
 obtain ⟨xs,rfl,h3⟩:=hasW_list h1
 obtain ⟨ns,rfl⟩:=items_int h3
 have hlen:ns.length≤n:=by
  unfold OpenLaw.pre at hc
  have h4:(WTm.not (.lt (.lit (.int (n:Int))) (.len (.arg 0)))).holds [] { args:=[.list (ns.map .int)] }=true:=by
   have h4:=(holds_andW hc).1
   rw [hn] at h4
   exact h4
  have h5:=condW_of h4 (w_not (w_lt w_lit (w_len_list (w_arg rfl))))
  rw [List.length_map] at h5
  refine Nat.le_of_not_lt λq=>?_
  have q':(n:Int) < ((ns.length:Nat):Int):=by omega
  first
   | (rw [decide_eq_true q'] at h5;exact absurd h5 (by decide))
   | (simp at h5;omega)
 cases hwl with
 | cons w1 w2 =>
  cases w2
  cases w1 with
  | list ho hall=>exact ⟨_,_,ns,rfl,rfl,ho,j5 ns _ hall,hlen⟩
theorem uH (l:OpenLaw) (args:List WData):l.row.toRowW.claim.post args (.bool true) args=true :=
 postW_of (r:=l.row.toRowW) (X:=(true == true))
  (show WShape.has [] (.bool true) .bool=true by first | rfl | decide | simp [WShape.has,WShape.arms,WShape.armsAll])
  (show (WTm.eq .res (.lit (.bool true))).value [] { args:=args,res:=some (.bool true),after:=args }=some (.bool (true == true)) from w_eq_bool (w_res rfl) w_lit) rfl
theorem attach_call {q:Program} {loose:List Str} {XP:(Str->Option Value)->Heap->Prop} {YP:World->Heap->Prop} {d:DefRec}
  (hn:l.most=some n) (hdf:d.params.defaults=[])
  (call:∀ (w:World) (s₀ s₁:Shared) (mg mb:Str->Option Value) (fa:Addr) (o:Obj) (pm cd doc:Value) (a:Addr) (vs:List Value) (ns:List Int),
   Ground q loose [] XP w s₀ mg mb s₁.heap->YP w s₁.heap ->
   s₁.heap.get? fa=some o->o.data=.func (docDef d.name d.params d.body d.scope pm cd doc)->s₁.heap.CodeRec cd d.name->mg d.name=some (.ref fa) ->
   s₁.heap.get? a=some { cls:=.type "list",data:=.seq vs.toArray }->IntsAre vs ns->ns.length≤n->s₁.gens=#[] ->
   codeAny (model l.prog w) callerA (.call (.ref fa) ⟨[.ref a],[]⟩) (λr s'=>r=.ok (.ret (.bool true))/\OldK s₁.heap s'.heap/\s'.os=s₁.os/\AllBare s'.gens) s₁) :
  WalkO q loose XP YP l.row.toRowW d [] (λf vs=>PySem.call f vs):=by
 intro w s₀ s₁ mg mb G Y fa o pm cd doc dV kV ho hd hcd hD hmg hg args vals as hpre hlay hrd hwl hlo
 obtain rfl:dV=.none:=Dflts.none hD hdf
 obtain rfl:kV=.none:=Dflts.noKw hD
 obtain ⟨a,vs,ns,rfl,rfl,hobj,hints,hlen⟩:=uT hn hpre hwl
 refine enter_call (codeAny_mono (call w s₀ s₁ mg mb fa o pm cd doc a vs ns G Y ho (fd_plain hd) hcd hmg hobj hints hlen hg) λr s' hq=>?_)
 obtain ⟨rfl,h2,h3,h4⟩:=hq
 exact ⟨.inl ⟨.bool true,.bool true,[],rfl,λ_=>rfl,.bool true,uH l _,λ_=>⟨List.Pairwise.nil,λ_ hm=>(nomatch hm)⟩⟩,h2,h3,h4⟩
section
variable {prog:Program} {w:World} {A:Around} {E:Value->Shared->Prop} {s:Shared} {K:Frag}
end
end Att
namespace L2
open PySem PySem.Spec PyProof.Rows
theorem m8:∀ {vs:List Value} {ns:List Int},IntsAre vs ns->Vals (ns.map V.int) vs
 | _,_,.nil=>.nil
 | _,_,.cons n t h=>.cons ⟨t,rfl⟩ (m8 h)
def yi (H:Hp):Prop:=∀ b,H b=none\/∃ o xs,H b=some (.frz o (.lst xs))
variable {P:Program} {w:World} {K:PySem.W.Frag} {mg:Str->Option Value} {CX:CXT} {k:Nat} {a:Addr} {fd:FuncData} {x:Str} {sp:Sp} {ns:List Int}
theorem wK {mb:Str->Option Value} {fa:Addr} {s₁:Shared} {vs:List Value}
  (KX:K.In s₁.heap) (hns:s₁.heap.Ns mainGlobals mg) (hb:s₁.heap.Ns builtinsNs mb) (hbb:∀ x:Str,x≠"__name__"->mb x=bootBuiltins x) (hlim:s₁.heap.NoLimit) (hg:s₁.gens=#[])
  (ha:s₁.heap.get? a=some { cls:=.type "list",data:=.seq vs.toArray }) (hi:IntsAre vs ns) (hl:ns.length≤sizeLine) (hr:Room k callerA)
  (F:∀ base:Heap,K.In base->base.Ns mainGlobals mg->FnOk P w K mg base CX k fa fd [x] sp) (hbind:∀ (s:Shared) (u:Value),BindsTo s fd ⟨[u],[]⟩ [(x,u)])
  (hsp:∀ H:Hp,yi H->SqL K H a (ns.map V.int)->sp [.ref a] H (λv _=>v=.bl true) λ_ _ _=>False)
  (hCX:∀ H e s',CX [] H s₁ (λ_ _ _=>False) e s'->False) :
  codeAny (model P w) callerA (.call (.ref fa) ⟨[.ref a],[]⟩) (λr s'=>r=.ok (.ret (.bool true))/\OldK s₁.heap s'.heap/\s'.os=s₁.os/\AllBare s'.gens) s₁:=by
 have rv:=m8 hi
 have lenV:=hi.length
 have core:∀ H:Hp,yi H->SqL K H a (ns.map V.int)->HOk P w H s₁.heap->(∀ b,H b≠none->b=a)->(H a≠none->K.lookup a=none) ->
   codeAny (model P w) callerA (.call (.ref fa) ⟨[.ref a],[]⟩) (λr s'=>r=.ok (.ret (.bool true))/\OldK s₁.heap s'.heap/\s'.os=s₁.os/\AllBare s'.gens) s₁:=by
  intro H hO hS hok hA hK
  have base_of:∀ {b:Addr} {o:Obj},s₁.heap.get? b=some o->H b=none->(nE s₁.heap H).get? b=some o:=λe n=>wt e n
  have noA:∀ {b:Addr} {o:Obj} {es:Array DictEntry} {ep:Nat},s₁.heap.get? b=some o->o.data=.dict es ep->H b=none:=λ{b o es ep} e d=>by
   cases q:H b with
   | none=>rfl
   | some u =>
    have e':b=a:=hA b (by rw [q];simp)
    subst e'
    rw [ha] at e;cases e
    have d':Data.seq vs.toArray _=Data.dict es ep:=d
    cases d'
  have nsK:∀ {b:Addr} {m:Str->Option Value},s₁.heap.Ns b m->(nE s₁.heap H).Ns b m:=λ{b m} ⟨o,es,ep,e,d,r⟩=>⟨o,es,ep,base_of e (noA e d),d,r⟩
  have hKb:K.In (nE s₁.heap H):=λb o e=>base_of (KX b o e) (by
   cases q:H b with
   | none=>rfl
   | some u =>
    have e':b=a:=hA b (by rw [q];simp)
    subst e'
    rw [hK (by rw [q];simp)] at e;cases e)
  have hM:Mod K mg (nE s₁.heap H):=⟨hKb,nsK hns,⟨mb,nsK hb,hbb⟩,let ⟨mc,h1,h2⟩:=hlim;⟨mc,nsK h1,h2⟩⟩
  have e0:Env0 P w K mg (nE s₁.heap H) callerA [] s₁ H:=⟨rfl,hM,λb o e=>yV e,Nat.le_of_eq (uk _ _),trivial,λb hb=>absurd (show b ∈ ([]:List Addr) from hb) (by simp),hok,.of_eq hg⟩
  refine codeAny_mono ((F _ hKb (nsK hns)).run callerA [] s₁ H ⟨[.ref a],[]⟩ [.ref a] [.ref a] _ _ hr e0 (hbind s₁ (.ref a)) (.cons rfl .nil) (hsp H hO hS)) λr s' h=>?_
  cases r with
  | error e=>exact (hCX H e s' h).elim
  | ok fl =>
   cases fl with
   | next=>exact False.elim h
   | brk=>exact False.elim h
   | cont=>exact False.elim h
   | ret u =>
    obtain ⟨v,H',os,bare,un,hok',r',q⟩:=h
    have q':v=.bl true:=q
    subst q'
    obtain rfl:u=Value.bool true:=r'
    refine ⟨rfl,OldK.of_keep λb o e=>?_,os,bare⟩
    cases q:H b with
    | none=>exact un.keep b o e q (by intro z;exact absurd (show b ∈ ([]:List Addr) from z) (by simp)) (by simp)
    | some u =>
     rcases hO b with z | ⟨ob,xs,z⟩
     ·rw [q] at z;cases z
     ·have z2:=un.frzs b ob _ z
      obtain ⟨e1,_⟩:=hok b _ z
      obtain ⟨e2,_⟩:=hok' b _ z2
      rw [e] at e1;cases e1
      exact e2
 cases hk:K.lookup a with
 | some o =>
  have e:=KX a o hk
  rw [ha] at e
  cases e
  refine core (λ_=>none) (λ_=>.inl rfl) (.inr ⟨_,vs.toArray,_,hk,rfl,rfl,rfl,by rw [List.size_toArray,lenV];exact hl,by simpa using rv⟩) (λb u z=>by have z':(none:Option HO)=some u:=z;cases z') (λb z=>absurd rfl z) λz=>absurd rfl z
 | none =>
  refine core (λb=>if b=a then some (.frz { cls:=.type "list",data:=.seq vs.toArray } (.lst (ns.map V.int))) else none) (λb=>?_) (.inl (.inr ⟨{ cls:=.type "list",data:=.seq vs.toArray },if_pos rfl⟩)) (λb u z=>?_) (λb z=>?_) λ_=>hk
  ·by_cases hb:b=a
   ·exact .inr ⟨_,_,if_pos hb⟩
   ·exact .inl (if_neg hb)
  ·by_cases hb:b=a
   ·have z':=(if_pos hb).symm.trans z
    cases z'
    subst hb
    exact ⟨ha,by rw [List.length_map];exact hl,vs,_,rv,ha⟩
   ·have z':=(if_neg hb).symm.trans z
    cases z'
  ·by_cases hb:b=a
   ·exact hb
   ·exact absurd (if_neg hb) z
variable {n:Nat}
theorem walk_of {l:PySem.W.OpenLaw} {q:Program} {loose:List Str} {XP:(Str->Option Value)->Heap->Prop} {YP:World->Heap->Prop} {d:DefRec} {K:Params->PySem.W.Frag} {CX:World->CXT} {sp:World->Sp}
  (hn:l.most=some n) (hn2:n≤sizeLine) (hdf:d.params.defaults=[]) (hr:Room k callerA)
  (hY:∀ (w:World) (h:Heap),YP w h->(K w.params).In h)
  (F:∀ (w:World) (mg:Str->Option Value) (fa:Addr) (h:Heap),(K w.params).In h->h.Ns mainGlobals mg->mg d.name=some (.ref fa) ->
   ∃ fd:FuncData,(∀ (s:Shared) (u:Value),BindsTo s fd ⟨[u],[]⟩ [(x,u)]) /\
    ∀ base:Heap,(K w.params).In base->base.Ns mainGlobals mg->FnOk l.prog w (K w.params) mg base (CX w) k fa fd [x] (sp w))
  (hsp:∀ (w:World) (H:Hp) (a:Addr) (ns:List Int),ns.length≤n->yi H->SqL (K w.params) H a (ns.map V.int)->sp w [.ref a] H (λv _=>v=.bl true) λ_ _ _=>False)
  (hCX:∀ (w:World) (H:Hp) (s:Shared) (e:Value) (s':Shared),CX w [] H s (λ_ _ _=>False) e s'->False) :
  PySem.W.WalkO q loose XP YP l.row.toRowW d [] (λf vs=>PySem.call f vs):=by
 refine Att.attach_call hn hdf λw s₀ s₁ mg mb fa o pm cd doc a vs ns G Y ho hd hcd hmg hobj hints hlen hg=>?_
 have KX:=hY w _ Y
 obtain ⟨fd,hb,hF⟩:=F w mg fa _ KX G.T.g hmg
 exact wK KX G.T.g G.T.b G.T.builtins G.T.nolimit hg hobj hints (Nat.le_trans hlen hn2) hr hF hb (λH hO hS=>hsp w H a ns hlen hO hS) λH e s'=>hCX w H s₁ e s'
def bG (s:Stmt):Arguments:=match s with
 | .FunctionDef _ a _ _ _ _ _ _ _ _=>a
 | _=>{ posonlyargs:=[],args:=[],vararg:=none,kwonlyargs:=[],kw_defaults:=[],kwarg:=none,defaults:=[] }
def bz (s:Stmt):List Stmt:=match s with
 | .FunctionDef _ _ b _ _ _ _ _ _ _=>b
 | _=>[]
def aw (s:Stmt):Scope:=match s with
 | .FunctionDef _ _ _ _ _ _ sc _ _ _=>sc
 | _=>{ kind:=.function,names:=[],isGenerator:=false,isCoroutine:=false }
abbrev CX0:CXT:=λ_ _ _ _ _ _=>False
abbrev E0:XK:=λ_ _ _=>False
variable {X:Cx}
theorem aY:eZ CX0 X E0:=λ_ _ _ _ _ _ _ h=>h.elim
structure Fun (K:PySem.W.Frag) (x qual:Str) (st:Stmt) (f:Addr) (fd:FuncData):Prop where
 ex:∃ (oc:Value) (od:Option Addr) (kV doc pm:Value) (an:Option Addr) (cdv ct:Value) (osl:Array (Option Value)),
  fd=PySem.W.fnOf x qual (bG st) (bz st) (aw st) .none kV doc pm an cdv ct/\K.lookup f=some ⟨oc,od,.func fd,osl⟩/\PySem.W.codeIn K cdv qual=true
 kp:PySem.W.keepIn K (.ref f)=true
section
variable {P:Program} {w:World} {K:PySem.W.Frag} {mg:Str->Option Value} {base:Heap}
variable {x qual:Str} {st:Stmt} {f:Addr} {fd:FuncData} {ps:List Str}
theorem Fun.ok {N:List Str} {k:Nat} {sp:Sp} (F:Fun K x qual st f fd) (S:FnScope N ps (aw st)) (len:∀ vs H Q E,sp vs H Q E->vs.length=ps.length)
  (hbody:∀ (cdv:Value) (A:Around) (outer:List Env) (s:Shared) (H:Hp) (vs:List V) (Q:VK) (E:XK),Room k (A.deeper (envOfC qual (aw st) s.heap.objs.size f cdv))->sp vs H Q E ->
   ∃ t,PSs (ic CX0 P w K mg base N qual (aw st) f cdv A outer s H E).nox (bz st) t/\t { nx:=λ_ H'=>Q .non H',rt:=Q } (cS N vs) H):FnOk P w K mg base CX0 (k+1) f fd ps sp:=by
 obtain ⟨oc,od,kV,doc,pm,an,cdv,ct,osl,rfl,lk,hcd⟩:=F.ex
 refine wa lk hcd S len λA outer s H vs Q E hr hsp=>?_
 obtain ⟨t,h,q⟩:=hbody cdv A outer s H vs Q E hr hsp
 exact ⟨t,h.nox,q⟩
theorem Fun.binds (F:Fun K x qual st f fd)
  (h:∀ (kV doc pm:Value) (an:Option Addr) (cdv ct:Value) (us:List Value),us.length=ps.length->bindArgs (PySem.W.fnOf x qual (bG st) (bz st) (aw st) .none kV doc pm an cdv ct) ⟨us,[]⟩=pure (ps.zip us)):Binds K fd ps []:=by
 obtain ⟨oc,od,kV,doc,pm,an,cdv,ct,osl,rfl,lk,hcd⟩:=F.ex
 exact .all (h kV doc pm an cdv ct)
theorem bc {oc:Value} {od an:Option Addr} {osl:Array (Option Value)} {kV doc pm cdv ct:Value} (l:K.lookup f=some ⟨oc,od,.func (PySem.W.fnOf x qual (bG st) (bz st) (aw st) .none kV doc pm an cdv ct),osl⟩)
  (c:PySem.W.codeIn K cdv qual=true) (k:PySem.W.keepIn K (.ref f)=true):Fun K x qual st f (PySem.W.fnOf x qual (bG st) (bz st) (aw st) .none kV doc pm an cdv ct):=⟨⟨oc,od,kV,doc,pm,an,cdv,ct,osl,rfl,l,c⟩,k⟩
end
theorem sY {A:Around} (hr:Room k A):A.units+1 < cLine:=Nat.lt_of_le_of_lt (Nat.add_le_add_left (by decide:1≤64) _) hr.units
theorem d8 (h:n≤1000):n < sizeLine:=Nat.lt_of_le_of_lt h (by decide)
section
variable {X:Cx}
theorem pv (i:Nat) {x:Str} {pos:Pos} (hN:X.N[i]?=some x:=by rfl) (hv:Vis X.env.scope x:=by first | exact Or.inl rfl | exact Or.inr (Or.inl rfl) | exact Or.inr (Or.inr rfl)) (hd:(x == ("__debug__":Str))=false:=by decide)
  (hcd:(x == ("__classdict__":Str))=false:=by decide):PE X (.Name x pos) (cx i):=Bo hN hv hd hcd
end
theorem qU {A B:Prop} (h:B):if false=true then A else B:=by
 rw [if_neg Bool.false_ne_true]
 exact h
theorem ph {A B:Prop} (h:A):if true=true then A else B:=by
 rw [if_pos rfl]
 exact h
theorem yK {c A B:Prop} [Decidable c] (h1:c->A) (h2:¬ c->B):if c then A else B:=by
 by_cases h:c
 ·rw [if_pos h]
  exact h1 h
 ·rw [if_neg h]
  exact h2 h
def Same (H H':Hp):Prop:=∀ b o,H b=some o->H' b=some o
theorem Same.refl (H:Hp):Same H H:=λ_ _ h=>h
variable {H H1:Hp}
theorem Same.trans {H2:Hp} (a:Same H H1) (b:Same H1 H2):Same H H2:=λc o h=>b c o (a c o h)
variable {H':Hp} {l:Addr}
theorem Same.free (e:Same H H') (h:H' l=Option.none):H l=Option.none:=by
 cases q:H l with
 | none=>rfl
 | some o =>
  rw [e l o q] at h
  cases h
variable {xs:List V}
theorem Same.seq (e:Same H H') (h:SqL K H a xs):SqL K H' a xs:=by
 rcases h with (h | ⟨o,h⟩) | h
 ·exact .inl (.inl (e _ _ h))
 ·exact .inl (.inr ⟨o,e _ _ h⟩)
 ·exact .inr h
section
variable {κ:Type} [DecidableEq κ]
end
def rk (env:Env) (x:Str) (k:NameKind):NameKind :=
 if (k == NameKind.free && env.scope.kind == .function && env.kindOf x == some .cell)=true then .cell else k
theorem jf (sc:Scope) (env:Env) (x:Str):(relabel sc env).names.lookup x=(sc.names.lookup x).map (rk env x):=by
 have all:∀ l:List (Str × NameKind),(l.map λ(n,k)=>if (k == NameKind.free && env.scope.kind == .function && env.kindOf n == some .cell) then (n,NameKind.cell) else (n,k)).lookup x=(l.lookup x).map (rk env x):=by
  intro l
  induction l with
  | nil=>rfl
  | cons p r ih =>
   obtain ⟨n,k⟩:=p
   rw [List.map_cons]
   cases hx:x == n with
   | true =>
    have e:x=n:=by simpa using hx
    subst e
    by_cases c:(k == NameKind.free && env.scope.kind == .function && env.kindOf x == some .cell)=true
    ·simp [List.lookup_cons,rk,c]
    ·simp [List.lookup_cons,rk,c]
   | false =>
    have e1:((n,k)::r).lookup x=r.lookup x:=by rw [List.lookup_cons,hx]
    rw [e1,← ih]
    by_cases c:(k == NameKind.free && env.scope.kind == .function && env.kindOf n == some .cell)=true
    ·show List.lookup x ((if (k == NameKind.free && env.scope.kind == .function && env.kindOf n == some .cell)=true then (n,NameKind.cell) else (n,k))::_)=_
     rw [if_pos c,List.lookup_cons,hx]
    ·show List.lookup x ((if (k == NameKind.free && env.scope.kind == .function && env.kindOf n == some .cell)=true then (n,NameKind.cell) else (n,k))::_)=_
     rw [if_neg c,List.lookup_cons,hx]
 exact all sc.names
variable {env:Env}
theorem tQ:rk env x .free=.cell\/rk env x .free=.free:=by
 unfold rk
 split
 ·exact .inl rfl
 ·exact .inr rfl
theorem xK {k:NameKind} (h:k≠.free):rk env x k=k:=by
 unfold rk
 rw [if_neg]
 intro c
 have:(k == NameKind.free)=true:=by
  cases q:(k == NameKind.free) with
  | true=>rfl
  | false=>rw [q] at c;simp at c
 exact h (by simpa using this)
def A8:Option NameKind->Bool
 | some .free=>true
 | _=>false
def A7:Option NameKind->Bool
 | some .free=>true
 | some .cell=>true
 | _=>false
def A9:Option NameKind->Bool
 | some .local=>true
 | _=>false
variable {o:Option NameKind}
theorem tm (h:A8 o=true):o=some .free:=by
 cases o with
 | none=>cases h
 | some k=>cases k <;> first | rfl | cases h
theorem tj (h:A7 o=true):o=some .cell\/o=some .free:=by
 cases o with
 | none=>cases h
 | some k=>cases k <;> first | exact .inl rfl | exact .inr rfl | cases h
theorem tq (h:A9 o=true):o=some .local:=by
 cases o with
 | none=>cases h
 | some k=>cases k <;> first | rfl | cases h
def cK (N:List Str) (ok:Str->Option NameKind) (names:List (Str × NameKind)) (own:List Str) (fr:List Nat) (N':List Str):Bool :=
 decide (N'=own++fr.map λj=>N.getD j "") && (fr.all λj=>decide (j < N.length) && A8 (names.lookup (N.getD j ""))) &&
  names.all λp=>match p.2 with
   | .free=>A7 (ok p.1)
   | .cell=>false
   | .local=>A9 (names.lookup p.1)
   | _=>true
structure Blk (N:List Str) (ok:Str->Option NameKind) (names:List (Str × NameKind)) (own:List Str) (fr:List Nat) (N':List Str):Prop where
 eN:N'=own++fr.map λj=>N.getD j ""
 fr:∀ j ∈ fr,j < N.length/\names.lookup (N.getD j "")=some .free
 free:∀ p ∈ names,p.2=.free->ok p.1=some .cell\/ok p.1=some .free
 cell:∀ p ∈ names,p.2≠.cell
 loc:∀ p ∈ names,p.2=.local->names.lookup p.1=some .local
theorem qE {N:List Str} {ok:Str->Option NameKind} {names:List (Str × NameKind)} {own:List Str} {fr:List Nat} {N':List Str} (h:cK N ok names own fr N'=true):Blk N ok names own fr N':=by
 unfold cK at h
 rw [Bool.and_eq_true,Bool.and_eq_true] at h
 obtain ⟨⟨h1,h2⟩,h3⟩:=h
 have h3':=List.all_eq_true.mp h3
 refine ⟨of_decide_eq_true h1,λj hj=>?_,λp hp e=>?_,λp hp e=>?_,λp hp e=>?_⟩
 ·have q:=List.all_eq_true.mp h2 j hj
  rw [Bool.and_eq_true] at q
  exact ⟨of_decide_eq_true q.1,tm q.2⟩
 ·have q:=h3' p hp
  rw [e] at q
  exact tj q
 ·have q:=h3' p hp
  rw [e] at q
  cases q
 ·have q:=h3' p hp
  rw [e] at q
  exact tq q
def mkS (own:List Str) (fr:List Nat) (σ:St):St:=own.map (λ_=>none)++fr.map λj=>(σ[j]?).getD none
theorem yy (sc:Scope) (env:Env) (h:∀ p ∈ sc.names,p.2=.free->∃ c,env.cells.lookup p.1=some c) :
  ∃ cl,closureFor sc env=pure cl/\(∀ x c,cl.lookup x=some c->env.cells.lookup x=some c)/\∀ p ∈ sc.names,p.2=.free->cl.lookup p.1=env.cells.lookup p.1:=by
 unfold closureFor
 have all:∀ (l:List (Str × NameKind)) (acc:List (Str × Addr)),(∀ p ∈ l,p.2=.free->∃ c,env.cells.lookup p.1=some c)->(∀ x c,acc.lookup x=some c->env.cells.lookup x=some c) ->
   ∃ cl,(forIn l acc λ(p:Str × NameKind) (r:List (Str × Addr))=>(match p with
    | (name,kind)=>if (kind == NameKind.free)=true then (do let a ← cellOf env name;pure (ForInStep.yield ((name,a)::r))) else pure (ForInStep.yield r):Sem (ForInStep (List (Str × Addr)))))=pure cl /\
    (∀ x c,cl.lookup x=some c->env.cells.lookup x=some c)/\(∀ p ∈ l,p.2=.free->cl.lookup p.1=env.cells.lookup p.1)/\∀ x,acc.lookup x=env.cells.lookup x->cl.lookup x=env.cells.lookup x:=by
  intro l
  induction l with
  | nil=>intro acc _ ha;exact ⟨acc,rfl,ha,λp hp=>(by simp at hp),λx e=>e⟩
  | cons p r ih =>
   intro acc hl ha
   obtain ⟨n,k⟩:=p
   rw [List.forIn_cons]
   by_cases hk:k=.free
   ·subst hk
    obtain ⟨c,hc⟩:=hl (n,.free) List.mem_cons_self rfl
    have hce:cellOf env n=pure c:=by unfold cellOf;rw [hc]
    obtain ⟨cl,e1,e2,e3,e4⟩:=ih ((n,c)::acc) (λp hp=>hl p (List.mem_cons_of_mem _ hp)) (λx c' e=>by
     rw [List.lookup_cons] at e
     cases hx:x == n with
     | true =>
      rw [hx] at e
      have:x=n:=by simpa using hx
      subst this
      cases e
      exact hc
     | false=>rw [hx] at e;exact ha x c' e)
    refine ⟨cl,?_,e2,λp hp e=>?_,λx e=>e4 x ?_⟩
    ·simp only [beq_self_eq_true,if_true,hce]
     exact e1
    ·rcases List.mem_cons.mp hp with rfl | hp
     ·exact e4 n (by rw [List.lookup_cons];simp [hc])
     ·exact e3 p hp e
    ·rw [List.lookup_cons]
     cases hx:x == n with
     | true =>
      have:x=n:=by simpa using hx
      subst this
      simp [hc]
     | false=>exact e
   ·have hb:(k == NameKind.free)=false:=by simpa using hk
    obtain ⟨cl,e1,e2,e3,e4⟩:=ih acc (λp hp=>hl p (List.mem_cons_of_mem _ hp)) ha
    refine ⟨cl,?_,e2,λp hp e=>?_,e4⟩
    ·simp only [hb,Bool.false_eq_true,if_false]
     exact e1
    ·rcases List.mem_cons.mp hp with rfl | hp
     ·exact absurd e hk
     ·exact e3 p hp e
 obtain ⟨cl,e1,e2,e3,_⟩:=all sc.names [] h (λx c e=>by simp at e)
 refine ⟨cl,?_,e2,e3⟩
 have e1':=congrArg (λt:Sem (List (Str × Addr))=>t >>= λcs=>pure cs) e1
 first
  | exact e1'
  | (simp only [pure_bind] at e1';exact e1')
  | (refine Eq.trans ?_ e1';rfl)
  | (dsimp only at e1' ⊢;exact e1')
def Cx.blk (X:Cx) (sc:Scope) (cl:List (Str × Addr)) (C:Addr) (N:List Str) (s:Shared) (H:Hp) (fp:List Addr):Cx where
 prog:=X.prog
 w:=X.w
 K:=X.K
 mg:=X.mg
 base:=X.base
 A:=X.A
 N:=N
 s₀:=s
 H₀:=H
 env:=compEnvC sc cl C X.env
 outer:=X.stack
 stack:=X.stack
 ex:=fp
 fn:=λ_=>false
 calm:=X.calm
 pn:=[]
 xe:=λ_ _=>False
section
variable {X:Cx} {pins:List (Addr × Obj)} {σ:St} {H:Hp} {s:Shared} {sc:Scope} {cl:List (Str × Addr)} {own:List Str} {fr:List Nat} {N':List Str} {fp:List Addr}
variable {C:Addr}
theorem mD (I:Inv X pins σ H s) (B:Blk X.N X.env.kindOf sc.names own fr N') (hk:sc.kind=.function)
  (sub:∀ x c,cl.lookup x=some c->X.env.cells.lookup x=some c) (has:∀ p ∈ sc.names,p.2=.free->cl.lookup p.1=X.env.cells.lookup p.1)
  (f2:∀ b ∈ fp,gx X pins H b) (fo:∀ b ∈ fp,b < s.heap.objs.size) {h1:Heap} {tk:Nat} {D:Addr} {n:Nat} (eD:D=s.heap.objs.size) (eC:s.heap.objs.size < C)
  (hns:h1.Ns C (λ_=>none)) (old:∀ b o,s.heap.get? b=some o->h1.get? b=some o) (hD:h1.get? D=some { cls:=.type "list",data:=.seq ([]:List Value).toArray n }) :
  Inv (X.blk sc cl C N' s H fp) [] (mkS own fr σ) (upd H D (.lst [])) { s with heap:=h1,toks:=tk }:=by
 have hcells:∀ x c,cl.lookup x=some c->c < s.heap.objs.size:=λx c e=>by
  obtain ⟨v,q⟩:=I.cell x c (sub x c e)
  exact q.lt
 have hDn:H D=none:=I.hok.fresh (Nat.le_of_eq eD.symm)
 have kind:∀ x,(X.blk sc cl C N' s H fp).env.kindOf x=(sc.names.lookup x).map (rk X.env x):=λx=>jf sc X.env x
 refine ⟨⟨I.ok.mod,hk,I.ok.glob,I.ok.blt,Nat.le_of_lt eC,λx y c e1 e2=>I.ok.inj x y c (sub x c e1) (sub y c e2),λx hx=>?_,(λx c e=>nomatch (show false=true from e)),I.ok.hd,I.ok.frames,.inl rfl,λb hb=>⟨?_,λx c e=>?_⟩,I.bs,Nat.le_trans I.ok.bsz I.sz,λb o e hb=>?_,λb hb=>?_,I.stack,I.stkFree⟩,
  rfl,I.bare,Un.laid old (Nat.le_of_eq eD.symm) hDn,⟨_,hns,λi x v e1 e2 e3=>?_⟩,λx c e=>?_,?_,λx c e=>?_,λp hp=>?_,I.hok.laid old (Nat.le_of_eq eD.symm) ⟨Nat.zero_le _,[],n,.nil,hD⟩,?_⟩
 ·have hx':(sc.names.lookup x).map (rk X.env x)=some .cell\/(sc.names.lookup x).map (rk X.env x)=some .free:=by
   rw [← kind x];exact hx
  cases q:sc.names.lookup x with
  | none=>rw [q] at hx';simp at hx'
  | some k =>
   have hm:=PySem.mem_of_lookup q
   by_cases hf:k=.free
   ·subst hf
    show ∃ c,cl.lookup x=some c
    rw [has _ hm rfl]
    have z:=B.free _ hm rfl
    exact I.ok.has x z
   ·rw [q] at hx'
    simp only [Option.map_some,xK hf] at hx'
    rcases hx' with z | z
    ·exact absurd (Option.some.inj z) (B.cell _ hm)
    ·exact absurd (Option.some.inj z) hf
 ·exact Nat.ne_of_lt (Nat.lt_trans (fo b hb) eC)
 ·exact (f2 b hb).2.2.2.2.1 x c (sub x c e)
 ·rcases (f2 b hb).2.2.2.1 with z | z
  ·exact I.ok.noex b o e z
  ·exact absurd (Nat.lt_of_lt_of_le (Heap.lt_size e) (Nat.le_trans I.ok.bsz z)) (Nat.lt_irrefl _)
 ·intro z
  rcases List.mem_cons.mp (I.stkSub b z) with e | e
  ·exact (f2 b hb).2.1 e
  ·exact (f2 b hb).2.2.1 e
 ·
  have e1':N'[i]?=some x:=e1
  have hi:¬ i < own.length:=λz=>by
   unfold mkS at e2
   rw [List.getElem?_append_left (by simpa using z),List.getElem?_map,List.getElem?_eq_getElem z] at e2
   cases e2
  unfold mkS at e2
  rw [List.getElem?_append_right (by simpa using hi),List.length_map,List.getElem?_map] at e2
  rw [B.eN,List.getElem?_append_right (by simpa using hi),List.getElem?_map] at e1'
  cases q:fr[i - own.length]? with
  | none=>rw [q] at e2;cases e2
  | some j =>
   rw [q] at e2 e1'
   simp only [Option.map_some,Option.some.injEq] at e2 e1'
   obtain ⟨hj,hfr⟩:=B.fr j (List.mem_of_getElem? q)
   have ej:X.N[j]?=some x:=by
    rw [← e1',List.getD_eq_getElem?_getD,List.getElem?_eq_getElem hj];rfl
   have eσ:σ[j]?=some (some v):=by
    cases z:σ[j]? with
    | none=>rw [z] at e2;cases e2
    | some o=>rw [z] at e2;simp only [Option.getD_some] at e2;rw [e2]
   rw [e1'] at hfr
   have hm:=PySem.mem_of_lookup hfr
   have hok:=B.free _ hm rfl
   obtain ⟨m0,hn0,hl0⟩:=I.loc
   have hv:Vis X.env.scope x:=by
    rcases hok with z | z
    ·exact .inr (.inl z)
    ·exact .inr (.inr z)
   obtain ⟨u,r,l⟩:=hl0 j x v ej eσ hv
   refine ⟨u,r,?_⟩
   rcases l with ⟨z,_⟩ | ⟨_,c,hc,o,ho,hd⟩
   ·have hok':X.env.kindOf x=some .cell\/X.env.kindOf x=some .free:=hok
    rw [z] at hok'
    rcases hok' with y | y <;> cases y
   ·refine .inr ⟨?_,c,?_,o,old c o ho,hd⟩
    ·rw [kind x,hfr]
     rcases tQ (env:=X.env) (x:=x) with y | y
     ·exact .inl (by rw [Option.map_some,y])
     ·exact .inr (by rw [Option.map_some,y])
    ·show cl.lookup x=some c
     have z:=has _ hm rfl
     exact z.trans hc
 ·obtain ⟨v,o,ho,hd⟩:=I.cell x c (sub x c e)
  exact ⟨v,o,old c o ho,hd⟩
 ·show upd H D _ C=none
  rw [aD (by rw [eD];exact Nat.ne_of_gt eC)]
  exact I.hok.fresh (Nat.le_of_lt eC)
 ·show upd H D _ c=none
  rw [aD (by rw [eD];exact Nat.ne_of_lt (hcells x c e))]
  exact I.freeC x c (sub x c e)
 ·exact absurd (show p ∈ ([]:List (Addr × Obj)) from hp) (by simp)
 ·show (mkS own fr σ).length=N'.length
  rw [B.eN]
  simp [mkS]
theorem nA {σ':St} {H':Hp} {s':Shared} (I:Inv X pins σ H s) (f2:∀ b ∈ fp,gx X pins H b) (J:Inv (X.blk sc cl C N' s H fp) [] σ' H' s'):Inv X pins σ H' s' :=
 I.call' (ch:=fp) J.os J.base J.hok J.bare λb hb=>⟨(f2 b hb).2.2.2.1,(f2 b hb).2.1,(f2 b hb).2.2.2.2.1,(f2 b hb).2.2.2.2.2⟩
theorem Inv.young {s0:Shared} {H0:Hp} {σ0:St} {h':Heap} (I0:Inv X pins σ0 H0 s0) (I:Inv X pins σ H s) (hC:s0.heap.objs.size≤C) (hn:H C=none) (hs:Heap.SameBut C s.heap h'):Inv X pins σ H { s with heap:=h' } :=
 I.turned (t':=s.toks) (λb o hb e=>(hs.2 b hb).trans e) hn (Nat.ne_of_gt (Nat.lt_of_lt_of_le I0.lt hC)) (.inr (Nat.le_trans I0.sz hC))
  (λx c e z=>by
   obtain ⟨v,q⟩:=I0.cell x c e
   exact absurd (Nat.lt_of_lt_of_le q.lt (by rw [z];exact hC)) (Nat.lt_irrefl _))
  (λp hp z=>absurd (Nat.lt_of_lt_of_le (Heap.lt_size (I0.pin p hp).1) (by rw [z];exact hC)) (Nat.lt_irrefl _))
end
def qq (X:Cx) (ifs:List Expr) (t:TT):Prop :=
 ∀ (pins:List (Addr × Obj)) (s:Shared) (σ:St) (H:Hp) (Q:Bool->Hp->Prop),Inv X pins σ H s->t σ H Q ->
  wpAny (model X.prog X.w) X.A (forIn ifs true λc r=>if r=true then do let ok ← isTrue c X.env (eval c X.env);pure (ForInStep.yield ok) else pure (ForInStep.yield r)) (TP X pins σ Q) X.xe s
def fG:TT:=λ_ H Q=>Q true H
theorem cG:qq X [] fG:=λpins s σ H Q I h=>wpAny_tests_nil ⟨H,I,h⟩
theorem xj {c:Expr} {t:TT} (h:PT X c t):qq X [c] t:=λpins s σ H Q I hw=>wpAny_tests_one (h pins s σ H Q I hw)
section
variable {prog:Program} {w:World} {A:Around} {R:Result->Shared->Prop} {s:Shared}
theorem iU {elt target iter:Expr} {ifs:List Expr} {scope:Scope} {pos:Pos} {it acc:Value} {env:Env} (J:Nat->Shared->Prop)
  (turn:∀ n s,J n s->wpAny (model prog w) A (pyNext it) (λr s₁=>match r with
   | none=>R (.ok .next) s₁
   | some v=>wpAny (model prog w) A (letOwnedTupleGo target it v) (λ_ s₂=>wpAny (model prog w) A (assign target env v) (λ_ s₃ =>
     wpAny (model prog w) A (forIn ifs true λc r=>if r=true then do let ok ← isTrue c env (eval c env);pure (ForInStep.yield ok) else pure (ForInStep.yield r)) (λok s₄ =>
      if ok=true then wpAny (model prog w) A (eval elt env) (λx s₅=>wpAny (model prog w) A (call (.builtin "list.append") [acc,x]) (λ_ s₆=>∃ m,m < n/\J m s₆) (λ_ _=>False) s₅) (λ_ _=>False) s₄
      else ∃ m,m < n/\J m s₄) (λ_ _=>False) s₃) (λ_ _=>False) s₂) (λ_ _=>False) s₁) (λ_ _=>False) s)
  (n:Nat) (h:J n s):codeAny (model prog w) A (.compLoop (.ListComp elt [⟨target,iter,ifs,0⟩] scope pos) 0 it acc env) R s:=by
 refine codeAny_loop rfl J (λn s hJ=>?_) n h
 show wpAny (model prog w) A ((compTurn (.ListComp elt [⟨target,iter,ifs,0⟩] scope pos) 0 it acc env).onRaise λx=>do noteFrame x env;theTreesLotGoes x) _ _ s
 refine wpAny_noted (wpAny_noRaise ?_)
 rw [compTurn_list]
 refine wpAny_bind (wpAny_standAt (wpAny_bind (thn (turn n s hJ) λr s₁ h₁=>?_)))
 cases r with
 | none=>exact wpAny_pure h₁
 | some v =>
  refine wpAny_bind (thn h₁ λ_ s₂ h₂=>wpAny_bind (thn h₂ λ_ s₃ h₃=>wpAny_bind (thn h₃ λok s₄ h₄=>?_)))
  cases ok with
  | false=>exact wpAny_pure ⟨rfl,h₄⟩
  | true=>exact wpAny_bind (wpAny_bind (thn h₄ λx s₅ h₅=>wpAny_bind (thn h₅ λ_ s₆ h₆=>wpAny_pure (wpAny_pure ⟨rfl,h₆⟩))))
end
def gw (wi:TI) (mk:St->St) (g:TG) (tt:TT) (te:TE):TE:=λσ H Q=>wi σ H λJ H1=>∀ D,H1 D=none->∃ W:Nat->Nat->St->Hp->Prop,(∃ m,W 0 m (mk σ) (upd H1 D (.lst [])))/\∀ i m σ' H',W i m σ' H' ->
 (J.stop i H'/\Q (.ref D) H') \/
 (J.go i H'/\∃ Nx:St->Hp->Prop,(∀ σ'' H'',Nx σ'' H''->∃ m',m' < m/\W (i+1) m' σ'' H'')/\∀ x H'',J.yld i H' x H''->g x σ' H'' λσ2 H2=>tt σ2 H2 λb H3 =>
  if b=true then te σ2 H3 λv H4=>∃ ys,H4 D=some (.lst ys)/\ys.length < sizeLine/\Nx σ2 (upd H4 D (.lst (ys++[v]))) else Nx σ2 H3)
section
variable {X:Cx} {elt iter tg:Expr} {ifs:List Expr} {sc:Scope} {pos:Pos} {wi:TI} {own:List Str} {fr:List Nat} {N':List Str} {g:TG} {tt:TT} {te:TE}
theorem o3 {pins:List (Addr × Obj)} {σ:St} {H:Hp} {s:Shared} {cl:List (Str × Addr)} {fp:List Addr} {it:Addr} {J:It} {tn:Nat->Heap->Prop} {E:Value->Shared->Prop} {Q:VK} {RR:Value->Addr->Result->Shared->Prop}
  (I:Inv X pins σ H s) (B:Blk X.N X.env.kindOf sc.names own fr N') (hk:sc.kind=.function) (hc:X.calm=true)
  (sub:∀ x c,cl.lookup x=some c->X.env.cells.lookup x=some c) (has:∀ p ∈ sc.names,p.2=.free->cl.lookup p.1=X.env.cells.lookup p.1)
  (T:j2 X.prog X.w X.K tg J fp it tn) (st:tn 0 s.heap) (f2:∀ b ∈ fp,gx X pins H b)
  (hg:∀ cl C s H fp,PG (X.blk sc cl C N' s H fp) tg g) (ht:∀ cl C s H fp,qq (X.blk sc cl C N' s H fp) ifs tt) (he:∀ cl C s H fp,PE (X.blk sc cl C N' s H fp) elt te)
  (hw:∀ D,H D=none->∃ W:Nat->Nat->St->Hp->Prop,(∃ m,W 0 m (mkS own fr σ) (upd H D (.lst [])))/\∀ i m σ' H',W i m σ' H' ->
   (J.stop i H'/\Q (.ref D) H') \/
   (J.go i H'/\∃ Nx:St->Hp->Prop,(∀ σ'' H'',Nx σ'' H''->∃ m',m' < m/\W (i+1) m' σ'' H'')/\∀ x H'',J.yld i H' x H''->g x σ' H'' λσ2 H2=>tt σ2 H2 λb H3 =>
    if b=true then te σ2 H3 λv H4=>∃ ys,H4 D=some (.lst ys)/\ys.length < sizeLine/\Nx σ2 (upd H4 D (.lst (ys++[v]))) else Nx σ2 H3))
  (hRR:∀ D C σ' H' s',D=s.heap.objs.size->s.heap.objs.size≤C->Inv (X.blk sc cl C N' s H fp) [] σ' H' s'->Q (.ref D) H'->RR (.ref D) C (.ok .next) s') :
  wpAny (model X.prog X.w) X.A (newList []) (λacc s₃=>wpAny (model X.prog X.w) X.A (newFunctionEnv sc X.env.globals cl [] X.env.qual none .none (some X.env)) (λcenv s₄ =>
   codeAny (model X.prog X.w) X.A (.compStart (.ListComp elt [⟨tg,iter,ifs,0⟩] sc pos) 0 (.ref it) acc { cenv with scope:=relabel sc X.env }) (RR acc cenv.locals) s₄) E s₃) E s:=by
 have fo:∀ b ∈ fp,b < s.heap.objs.size:=λb hb=>by
  obtain ⟨o,e,_⟩:=T.obj _ _ st b hb
  exact Heap.lt_size e
 refine wpAny_newObj_type (wpAny_newFunctionEnv B.cell (by intro y hy;simp at hy) (λh₁ hns₁ hsb₁=>?_) hk)
 dsimp only at hns₁ hsb₁ ⊢
 generalize hH2:s.heap.push { cls:=.type "list",dict:=none,data:=.seq ([]:List Value).toArray }=G at hns₁ hsb₁ ⊢
 have hG:G.objs.size=s.heap.objs.size+1:=by rw [← hH2,Heap.size_push]
 have hlt:s.heap.objs.size < G.objs.size:=by rw [hG];exact Nat.lt_succ_self _
 have old:∀ b o,s.heap.get? b=some o->h₁.get? b=some o:=λb o e =>
  hsb₁.extBut b o (Nat.ne_of_lt (Nat.lt_trans (Heap.lt_size e) hlt)) (Heap.get?_push_of_some _ (hH2 ▸ Heap.get?_push_of_some _ e))
 have hacc:h₁.get? s.heap.objs.size=some { cls:=.type "list",data:=.seq ([]:List Value).toArray } :=
  hsb₁.extBut _ _ (Nat.ne_of_lt hlt) (Heap.get?_push_of_some _ (hH2 ▸ Heap.get?_push_size _ rfl))
 obtain ⟨W,⟨m0,w0⟩,turn⟩:=hw s.heap.objs.size (I.hok.fresh (Nat.le_refl _))
 have st₁:tn 0 h₁:=T.keep _ _ _ st λb _ o e=>old b o e
 have hns':h₁.Ns G.objs.size (λ_=>none):=by
  have e:(λx=>([]:List (Str × Value)).reverse.lookup x)=(λ_:Str=>(none:Option Value)):=by funext x;rfl
  first
   | exact hns₁
   | (rw [e] at hns₁;exact hns₁)
 have loop:∀ s₃:Shared,s₃={ s with heap:=h₁,toks:=s.toks+([]:List (Str × Value)).length } ->
   codeAny (model X.prog X.w) X.A (.compLoop (.ListComp elt [⟨tg,iter,ifs,0⟩] sc pos) 0 (.ref it) (.ref s.heap.objs.size) (compEnvC sc cl G.objs.size X.env)) (RR (.ref s.heap.objs.size) G.objs.size) s₃:=by
  rintro s₃ rfl
  have I0:=mD (tk:=s.toks+([]:List (Str × Value)).length) I B hk sub has f2 fo rfl hlt hns' old hacc
  have fJ:∀ {pins':List (Addr × Obj)} {H':Hp},pins'=[]->(∀ b ∈ fp,H' b=none)->∀ b ∈ fp,gx (X.blk sc cl G.objs.size N' s H fp) pins' H' b:=λep hn b hb=>by
   subst ep
   refine ⟨hn b hb,Nat.ne_of_lt (Nat.lt_trans (fo b hb) hlt),λz=>?_,.inl hb,λx c e=>(f2 b hb).2.2.2.2.1 x c (sub x c e),λp hp=>absurd (show p ∈ ([]:List (Addr × Obj)) from hp) (by simp)⟩
   rcases List.mem_cons.mp (I.stkSub b z) with e | e
   ·exact (f2 b hb).2.1 e
   ·exact (f2 b hb).2.2.1 e
  have fr0:∀ b ∈ fp,upd H s.heap.objs.size (.lst []) b=none:=λb hb=>by
   rw [aD (Nat.ne_of_lt (fo b hb))];exact (f2 b hb).1
  refine iU (λn s'=>∃ i σ' H',Inv (X.blk sc cl G.objs.size N' s H fp) [] σ' H' s'/\tn i s'.heap/\(∀ b ∈ fp,H' b=none)/\W i n σ' H') ?_ m0 ⟨0,_,_,I0,st₁,fr0,w0⟩
  rintro n s3 ⟨i,σ3,H3,I3,st3,fr3,w3⟩
  rcases turn i n σ3 H3 w3 with ⟨stop,qn⟩ | ⟨go,Nx,hN,step⟩
  ·refine thn (T.done (X.blk sc cl G.objs.size N' s H fp) rfl rfl rfl hc i [] s3 σ3 H3 _ I3 (fJ rfl fr3) st3 stop) λr s4 ⟨hr,I4⟩=>?_
   subst hr
   exact hRR _ _ _ _ _ rfl (Nat.le_of_lt hlt) I4 qn
  ·refine thn (T.item (X.blk sc cl G.objs.size N' s H fp) rfl rfl rfl hc i [] s3 σ3 H3 _ I3 (fJ rfl fr3) st3 go) λr s4 ⟨u,hr,h4⟩=>?_
   subst hr
   refine thn h4 λ_ s5 ⟨x,H5,I5,r5,y5,st5,fr5⟩=>?_
   have I5':=I5.pinned (fJ rfl fr5) (T.obj _ _ st5)
   refine thn (hg cl G.objs.size s H fp _ s5 σ3 H5 x u _ I5' r5 (step x H5 y5)) λ_ s6 ⟨σ6,H6,I6,q6⟩=>?_
   refine thn (ht cl G.objs.size s H fp _ s6 σ6 H6 _ I6 q6) λok s7 ⟨H7,I7,q7⟩=>?_
   have again:∀ {s8:Shared} {H8:Hp},Inv (X.blk sc cl G.objs.size N' s H fp) ([]++iH fp s5.heap) σ6 H8 s8->Nx σ6 H8 ->
     ∃ m,m < n/\∃ i σ' H',Inv (X.blk sc cl G.objs.size N' s H fp) [] σ' H' s8/\tn i s8.heap/\(∀ b ∈ fp,H' b=none)/\W i m σ' H':=λ{s8 H8} I8 n8=>by
    obtain ⟨m',hm,w8⟩:=hN σ6 H8 n8
    refine ⟨m',hm,i+1,σ6,H8,I8.unpinned,T.keep _ _ _ st5 λb hb o e=>(I8.pin (b,o) (List.mem_append_right _ (List.mem_append_right _ (cu hb e)))).1,λb hb=>?_,w8⟩
    obtain ⟨o,e,d⟩:=T.obj _ _ st5 b hb
    exact (I8.pin (b,o) (List.mem_append_right _ (List.mem_append_right _ (cu hb e)))).2.1
   cases ok with
   | false =>
    rw [if_neg Bool.false_ne_true] at q7 ⊢
    exact again I7 q7
   | true =>
    rw [if_pos rfl] at q7 ⊢
    refine thn (he cl G.objs.size s H fp _ s7 σ6 H7 _ I7 q7) λy s8 ⟨v,H8,I8,rv,ys,hD8,hz,nx⟩=>?_
    refine thn (dB (X:=X.blk sc cl G.objs.size N' s H fp) _ s8 σ6 H8 (.ref s.heap.objs.size) [v] (.ref s.heap.objs.size) [y] (λ_ H9=>Nx σ6 H9) I8 rfl (.cons rv .nil) ⟨_,ys,v,rfl,rfl,hD8,hz,nx⟩) λ_ s9 ⟨_,H9,I9,_,n9⟩=>?_
    exact again I9 n9
 exact codeAny_compStart_list (loop _ rfl) (T.self _ 0 _ _ _ st₁ (loop _ rfl))
theorem eE (hi:PI X tg iter wi) (hk:sc.kind=.function) (hb:cK X.N X.env.kindOf sc.names own fr N'=true) (hc:X.calm=true)
  (hg:∀ cl C s H fp,PG (X.blk sc cl C N' s H fp) tg g) (ht:∀ cl C s H fp,qq (X.blk sc cl C N' s H fp) ifs tt) (he:∀ cl C s H fp,PE (X.blk sc cl C N' s H fp) elt te)
  (hs:∀ x,foldedSetIterable iter X.env x=pure x:=by intro _;rfl):PE X (.ListComp elt [⟨tg,iter,ifs,0⟩] sc pos) (gw wi (mkS own fr) g tt te):=by
 intro pins s σ H Q I h
 have B:=qE hb
 obtain ⟨cl,hcl,sub,has⟩:=yy sc X.env λp hp e=>I.ok.has p.1 (B.free p hp e)
 rw [eval_ListComp]
 refine wpAny_comprehension_free (use:=none) rfl hs hcl hk B.loc (thn (hi pins s σ H _ I h) λv s1 h1=>thn h1 λitv s2 h2=>?_)
 obtain ⟨it,fp,tn,J,H2,e,I2,T,st2,f2,body⟩:=h2
 subst e
 refine o3 (RR:=λacc C=>compPost (model X.prog X.w) X.A X.xe none (EP X pins σ Q) acc C) I2 B hk hc sub has T st2 f2 hg ht he body ?_
 intro D C σ' H' s' eD hC J' q
 obtain ⟨m,hn,_⟩:=J'.loc
 refine ⟨m,hn,λh' hs'=>⟨.ref D,H',?_,rfl,q⟩⟩
 exact Inv.young I2 (nA I2 f2 J') hC J'.free hs'
theorem lE {i:Nat} {y:Str} {py spos:Pos} (hi:PI X tg iter wi) (hk:sc.kind=.function) (hb:cK X.N X.env.kindOf sc.names own fr N'=true) (hc:X.calm=true)
  (hg:∀ cl C s H fp,PG (X.blk sc cl C N' s H fp) tg g) (ht:∀ cl C s H fp,qq (X.blk sc cl C N' s H fp) ifs tt) (he:∀ cl C s H fp,PE (X.blk sc cl C N' s H fp) elt te)
  (hN:X.N.Nodup) (hy:X.N[i]?=some y) (hx:X.env.scope.names.lookup y=some .local)
  (hsw:swapsWith (.ListComp elt [⟨tg,iter,ifs,0⟩] sc pos) (some (.Name y py)) spos.line X.env=pure true)
  (hs:∀ x,foldedSetIterable iter X.env x=pure x:=by intro _;rfl):PS X (.Assign [.Name y py] (.ListComp elt [⟨tg,iter,ifs,0⟩] sc pos) spos) (jn (gw wi (mkS own fr) g tt te) (bC i)):=by
 intro pins s σ H D I h
 have B:=qE hb
 obtain ⟨cl,hcl,sub,has⟩:=yy sc X.env λp hp e=>I.ok.has p.1 (B.free p hp e)
 rw [exec_Assign_Name_used _ _ _ _ hsw]
 refine wpAny_bind (wpAny_standAt (wpAny_bind ?_))
 show wpAny _ _ (do let _ ← comprehension (.ListComp elt [⟨tg,iter,ifs,0⟩] sc pos) sc X.env _ (newList []) false (eval iter X.env) (some (assign (.Name y py) X.env))) _ _ s
 refine wpAny_bind (wpAny_mono (wpAny_comprehension_free (use:=some (assign (.Name y py) X.env)) (Q:=λ_ s'=>SP X pins D .next s') rfl hs hcl hk B.loc
  (thn (hi pins s σ H _ I h) λv s1 h1=>thn h1 λitv s2 h2=>?_)) (λ_ s' hq=>wpAny_pure (wpAny_pure hq)) λ_ _ e=>e)
 obtain ⟨it,fp,tn,J,H2,e,I2,T,st2,f2,body⟩:=h2
 subst e
 refine o3 (Q:=λv H'=>D.nx (σ.set i (some v)) H') (RR:=λacc C=>compPost (model X.prog X.w) X.A X.xe (some (assign (.Name y py) X.env)) (λ_ s'=>SP X pins D .next s') acc C) I2 B hk hc sub has T st2 f2 hg ht he body ?_
 intro D' C σ' H' s' eD hC J' q
 have I3:=nA I2 f2 J'
 show wpAny _ _ (assign (.Name y py) X.env (.ref D')) _ _ s'
 refine wpAny_assign_Name (jP I3 hN hy (.inl hx) (v:=.ref D') rfl (λs4 I4 ⟨a,hsb,ha⟩=>?_) (.inr hx))
 obtain ⟨m,hn,_⟩:=J'.loc
 have hCa:C≠a:=by
  rcases ha with e | e
  ·rw [e];exact Nat.ne_of_gt (Nat.lt_of_lt_of_le I2.lt hC)
  ·obtain ⟨v,z⟩:=I2.cell _ _ e
   exact Nat.ne_of_gt (Nat.lt_of_lt_of_le z.lt hC)
 refine ⟨m,hn.sameBut hsb hCa,λh' hs'=>⟨_,H',?_,q⟩⟩
 exact Inv.young I2 I4 hC J'.free hs'
end
inductive D where
 | non | bl (b:Bool) | int (i:Int) | str (x:Str) | tup (ds:List D)
 | lst
mutual
def Dat (K:PySem.W.Frag) (H:Hp):D->V->Prop
 | .non,v=>v=.non
 | .bl b,v=>v=.bl b
 | .int i,v=>v=.int i
 | .str x,v=>v=.str x
 | .tup ds,v=>∃ a vs,v=.ref a/\SqT K H a vs/\Dats K H ds vs
 | .lst,v=>∃ a vs,v=.ref a/\SqL K H a vs
def Dats (K:PySem.W.Frag) (H:Hp):List D->List V->Prop
 | [],vs=>vs=[]
 | d::ds,vs=>∃ v r,vs=v::r/\Dat K H d v/\Dats K H ds r
end
section
variable {K:PySem.W.Frag} {H H':Hp}
variable {a:Addr} {vs:List V} {ds:List D}
theorem Dat.tupI (h:SqT K H a vs) (r:Dats K H ds vs):Dat K H (.tup ds) (.ref a):=by
 unfold Dat;exact ⟨a,vs,rfl,h,r⟩
theorem Dats.nil:Dats K H [] []:=by unfold Dats;rfl
variable {d:D} {v:V}
theorem Dats.cons (h:Dat K H d v) (r:Dats K H ds vs):Dats K H (d::ds) (v::vs):=by
 unfold Dats;exact ⟨v,vs,rfl,h,r⟩
theorem Dat.intI (i:Int):Dat K H (.int i) (.int i):=by unfold Dat;rfl
theorem Dat.strI (x:Str):Dat K H (.str x) (.str x):=by unfold Dat;rfl
theorem Dat.blI (b:Bool):Dat K H (.bl b) (.bl b):=by unfold Dat;rfl
theorem Dat.nonI:Dat K H .non .non:=by unfold Dat;rfl
theorem Dat.lstI (h:SqL K H a vs):Dat K H .lst (.ref a):=by unfold Dat;exact ⟨a,vs,rfl,h⟩
theorem Dat.tupE (h:Dat K H (.tup ds) v):∃ a vs,v=.ref a/\SqT K H a vs/\Dats K H ds vs:=by
 unfold Dat at h;exact h
theorem Dat.intE {i:Int} (h:Dat K H (.int i) v):v=.int i:=by unfold Dat at h;exact h
theorem Dat.strE {x:Str} (h:Dat K H (.str x) v):v=.str x:=by unfold Dat at h;exact h
theorem Dat.blE {b:Bool} (h:Dat K H (.bl b) v):v=.bl b:=by unfold Dat at h;exact h
theorem Dat.nonE (h:Dat K H .non v):v=.non:=by unfold Dat at h;exact h
theorem Dat.lstE (h:Dat K H .lst v):∃ a vs,v=.ref a/\SqL K H a vs:=by unfold Dat at h;exact h
theorem Dats.nilE (h:Dats K H [] vs):vs=[]:=by unfold Dats at h;exact h
theorem Dats.consE (h:Dats K H (d::ds) vs):∃ v r,vs=v::r/\Dat K H d v/\Dats K H ds r:=by
 unfold Dats at h;exact h
structure cT (K:PySem.W.Frag) (H H':Hp):Prop where
 tup:∀ a xs,SqT K H a xs->SqT K H' a xs
 lst:∀ a xs,SqL K H a xs->∃ ys,SqL K H' a ys
mutual
theorem Dat.mono (g:cT K H H'):∀ (d:D) {v:V},Dat K H d v->Dat K H' d v
 | .non,v,h=>by unfold Dat at h ⊢;exact h
 | .bl b,v,h=>by unfold Dat at h ⊢;exact h
 | .int i,v,h=>by unfold Dat at h ⊢;exact h
 | .str x,v,h=>by unfold Dat at h ⊢;exact h
 | .tup ds,v,h=>by
  obtain ⟨a,vs,e,q,r⟩:=h.tupE
  subst e
  exact Dat.tupI (g.tup _ _ q) (Dats.mono g ds r)
 | .lst,v,h=>by
  obtain ⟨a,vs,e,q⟩:=h.lstE
  subst e
  obtain ⟨ys,q'⟩:=g.lst _ _ q
  exact Dat.lstI q'
theorem Dats.mono (g:cT K H H'):∀ (ds:List D) {vs:List V},Dats K H ds vs->Dats K H' ds vs
 | [],vs,h=>by unfold Dats at h ⊢;exact h
 | d::ds,vs,h=>by
  obtain ⟨v,r,e,h1,h2⟩:=h.consE
  subst e
  exact Dats.cons (Dat.mono g d h1) (Dats.mono g ds h2)
end
theorem Dats.length:∀ {ds:List D} {vs:List V},Dats K H ds vs->ds.length=vs.length
 | [],vs,h=>by rw [h.nilE];rfl
 | d::ds,vs,h=>by
  obtain ⟨v,r,e,h1,h2⟩:=h.consE
  subst e
  rw [List.length_cons,List.length_cons,Dats.length h2]
theorem Dats.get:∀ {ds:List D} {vs:List V} {i:Nat} {d:D},Dats K H ds vs->ds[i]?=some d->∃ v,vs[i]?=some v/\Dat K H d v
 | [],_,i,d,_,e=>by simp at e
 | d0::ds,vs,0,d,h,e=>by
  obtain ⟨v,r,e1,h1,h2⟩:=h.consE
  subst e1
  simp at e
  subst e
  exact ⟨v,rfl,h1⟩
 | d0::ds,vs,i+1,d,h,e=>by
  obtain ⟨v,r,e1,h1,h2⟩:=h.consE
  subst e1
  obtain ⟨u,q1,q2⟩:=Dats.get (i:=i) (d:=d) h2 (by simpa using e)
  exact ⟨u,by simpa using q1,q2⟩
theorem Dats.getV:∀ {ds:List D} {vs:List V} {i:Nat} {v:V},Dats K H ds vs->vs[i]?=some v->∃ d,ds[i]?=some d/\Dat K H d v
 | [],vs,i,v,h,e=>by rw [h.nilE] at e;simp at e
 | d0::ds,vs,0,v,h,e=>by
  obtain ⟨u,r,e1,h1,h2⟩:=h.consE
  subst e1
  simp at e
  subst e
  exact ⟨d0,rfl,h1⟩
 | d0::ds,vs,i+1,v,h,e=>by
  obtain ⟨u,r,e1,h1,h2⟩:=h.consE
  subst e1
  obtain ⟨d,q1,q2⟩:=Dats.getV (i:=i) (v:=v) h2 (by simpa using e)
  exact ⟨d,by simpa using q1,q2⟩
theorem Dats.append:∀ {ds es:List D} {vs us:List V},Dats K H ds vs->Dats K H es us->Dats K H (ds++es) (vs++us)
 | [],es,vs,us,h,h'=>by rw [h.nilE];exact h'
 | d::ds,es,vs,us,h,h'=>by
  obtain ⟨v,r,e,h1,h2⟩:=h.consE
  subst e
  exact Dats.cons h1 (Dats.append h2 h')
end
mutual
def eqD:D->D->Bool
 | .non,.non=>true
 | .bl a,.bl b=>a == b
 | .int a,.int b=>a == b
 | .bl a,.int b=>(if a then 1 else 0) == b
 | .int a,.bl b=>a == (if b then 1 else 0)
 | .str a,.str b=>a == b
 | .tup a,.tup b=>eqDs a b
 | _,_=>false
def eqDs:List D->List D->Bool
 | [],[]=>true
 | a::r,b::q=>eqD a b && eqDs r q
 | _,_=>false
end
mutual
def fe:D->Nat
 | .tup ds=>deepDs ds+1
 | _=>0
def deepDs:List D->Nat
 | []=>0
 | d::ds=>max (fe d) (deepDs ds)
end
mutual
def noL:D->Bool
 | .tup ds=>noLs ds
 | .lst=>false
 | _=>true
def noLs:List D->Bool
 | []=>true
 | d::ds=>noL d && noLs ds
end
def eAt (a b:List D) (j:Nat):Bool:=match a[j]?,b[j]? with
 | some x,some y=>eqD x y
 | _,_=>false
theorem ku (n:Nat) (e:Nat->Bool):(List.range (n+1)).all e=(e 0 && (List.range n).all λj=>e (j+1)):=by
 rw [List.range_succ_eq_map,List.all_cons,List.all_map]
 rfl
theorem gb:∀ a b:List D,((List.range (min a.length b.length)).all (eAt a b) && a.length == b.length)=eqDs a b
 | [],[]=>by unfold eqDs;rfl
 | [],y::b=>by unfold eqDs;simp
 | x::a,[]=>by unfold eqDs;simp
 | x::a,y::b=>by
  have ih:=gb a b
  unfold eqDs
  rw [← ih,List.length_cons,List.length_cons,Nat.succ_min_succ,ku]
  have e0:eAt (x::a) (y::b) 0=eqD x y:=rfl
  have e1:(λj=>eAt (x::a) (y::b) (j+1))=eAt a b:=by
   funext j
   simp [eAt]
  rw [e0,e1,Bool.and_assoc]
  congr 2
  simp
theorem pb {a b:List D} (h:a.length=b.length):(List.range a.length).all (eAt a b)=eqDs a b:=by
 have q:=gb a b
 rw [← h,Nat.min_self] at q
 rw [← q]
 simp
mutual
theorem o9:∀ d:D,noL d=true->eqD d d=true
 | .non,_=>by unfold eqD;rfl
 | .bl b,_=>by unfold eqD;simp
 | .int i,_=>by unfold eqD;simp
 | .str x,_=>by unfold eqD;simp
 | .tup ds,h=>by unfold eqD;unfold noL at h;exact eqDs_refl ds h
 | .lst,h=>by unfold noL at h;cases h
theorem eqDs_refl:∀ ds:List D,noLs ds=true->eqDs ds ds=true
 | [],_=>by unfold eqDs;rfl
 | d::ds,h=>by
  unfold noLs at h
  rw [Bool.and_eq_true] at h
  unfold eqDs
  rw [o9 d h.1,eqDs_refl ds h.2]
  rfl
end
section
variable {X:Cx} {pins:List (Addr × Obj)} {σ:St} {H:Hp} {s:Shared}
mutual
theorem sR (I:Inv X pins σ H s):∀ (d e:D) {v:V},noL d=true->Dat X.K H d v->Dat X.K H e v->noL e=true->d=e
 | .non,e,v,hn,h,h',hn'=>by
  have z:=h.nonE;subst z
  cases e with
  | non=>rfl
  | bl b=>exact nomatch h'.blE
  | int i=>exact nomatch h'.intE
  | str x=>exact nomatch h'.strE
  | tup ds=>obtain ⟨_,_,q,_⟩:=h'.tupE;exact nomatch q
  | lst=>obtain ⟨_,_,q,_⟩:=h'.lstE;exact nomatch q
 | .bl b,e,v,hn,h,h',hn'=>by
  have z:=h.blE;subst z
  cases e with
  | non=>exact nomatch h'.nonE
  | bl c=>have q:=h'.blE;injection q with q;rw [q]
  | int i=>exact nomatch h'.intE
  | str x=>exact nomatch h'.strE
  | tup ds=>obtain ⟨_,_,q,_⟩:=h'.tupE;exact nomatch q
  | lst=>obtain ⟨_,_,q,_⟩:=h'.lstE;exact nomatch q
 | .int i,e,v,hn,h,h',hn'=>by
  have z:=h.intE;subst z
  cases e with
  | non=>exact nomatch h'.nonE
  | bl c=>exact nomatch h'.blE
  | int j=>have q:=h'.intE;injection q with q;rw [q]
  | str x=>exact nomatch h'.strE
  | tup ds=>obtain ⟨_,_,q,_⟩:=h'.tupE;exact nomatch q
  | lst=>obtain ⟨_,_,q,_⟩:=h'.lstE;exact nomatch q
 | .str x,e,v,hn,h,h',hn'=>by
  have z:=h.strE;subst z
  cases e with
  | non=>exact nomatch h'.nonE
  | bl c=>exact nomatch h'.blE
  | int j=>exact nomatch h'.intE
  | str y=>have q:=h'.strE;injection q with q;rw [q]
  | tup ds=>obtain ⟨_,_,q,_⟩:=h'.tupE;exact nomatch q
  | lst=>obtain ⟨_,_,q,_⟩:=h'.lstE;exact nomatch q
 | .tup ds,e,v,hn,h,h',hn'=>by
  obtain ⟨a,vs,z,q,r⟩:=h.tupE
  subst z
  cases e with
  | non=>exact nomatch h'.nonE
  | bl c=>exact nomatch h'.blE
  | int j=>exact nomatch h'.intE
  | str y=>exact nomatch h'.strE
  | tup es =>
   obtain ⟨a',vs',z,q',r'⟩:=h'.tupE
   cases z
   have ev:=I.tuple_inj q q'
   subst ev
   unfold noL at hn hn'
   rw [dats_inj I ds es hn r r' hn']
  | lst=>unfold noL at hn';cases hn'
 | .lst,e,v,hn,h,h',hn'=>by unfold noL at hn;cases hn
theorem dats_inj (I:Inv X pins σ H s):∀ (ds es:List D) {vs:List V},noLs ds=true->Dats X.K H ds vs->Dats X.K H es vs->noLs es=true->ds=es
 | [],es,vs,_,h,h',_=>by
  have z:=h.nilE;subst z
  cases es with
  | nil=>rfl
  | cons e es=>obtain ⟨_,_,q,_⟩:=h'.consE;exact nomatch q
 | d::ds,es,vs,hn,h,h',hn'=>by
  obtain ⟨v,r,z,h1,h2⟩:=h.consE
  subst z
  cases es with
  | nil=>exact nomatch h'.nilE
  | cons e es =>
   obtain ⟨v',r',z,h1',h2'⟩:=h'.consE
   injection z with z1 z2
   subst z1 z2
   unfold noLs at hn hn'
   rw [Bool.and_eq_true] at hn hn'
   rw [sR I d e hn.1 h1 h1' hn'.1,dats_inj I ds es hn.2 h2 h2' hn'.2]
end
end
theorem jz (A:Around):A.in1.units=A.units+1:=rfl
section
variable {X:Cx} {pins:List (Addr × Obj)} {σ:St} {H:Hp} {s:Shared}
theorem kE:∀ {ds:List D} {j:Nat} {d:D},ds[j]?=some d->fe d≤deepDs ds
 | [],_,_,e=>by simp at e
 | d0::ds,0,d,e=>by simp at e;subst e;unfold deepDs;exact Nat.le_max_left _ _
 | d0::ds,j+1,d,e=>by
  have q:=kE (ds:=ds) (j:=j) (d:=d) (by simpa using e)
  unfold deepDs
  exact Nat.le_trans q (Nat.le_max_right _ _)
theorem kT:∀ {ds:List D} {j:Nat} {d:D},noLs ds=true->ds[j]?=some d->noL d=true
 | [],_,_,_,e=>by simp at e
 | d0::ds,0,d,h,e=>by simp at e;subst e;unfold noLs at h;rw [Bool.and_eq_true] at h;exact h.1
 | d0::ds,j+1,d,h,e=>by
  unfold noLs at h
  rw [Bool.and_eq_true] at h
  exact kT (ds:=ds) (j:=j) (d:=d) h.2 (by simpa using e)
variable {A:Around} {ds es:List D} {xs ys:List V}
theorem kG {us ws:List Value} (n:Nat)
  (all:∀ (d e:D) (x y:V) (u w:Value),fe d≤n->noL d=true->noL e=true->Dat X.K H d x->Dat X.K H e y->RelV x u->RelV y w->SeqAt.EqAt A s u w (eqD d e))
  (hn:deepDs ds≤n) (h1:noLs ds=true) (h2:noLs es=true) (r1:Dats X.K H ds xs) (r2:Dats X.K H es ys) (v1:Vals xs us) (v2:Vals ys ws) :
  ∀ j (k1:j < us.toArray.size) (k2:j < ws.toArray.size),SeqAt.EqAt A s us.toArray[j] ws.toArray[j] (eAt ds es j):=by
 intro j k1 k2
 have l1:j < xs.length:=by rw [v1.length];simpa using k1
 have l2:j < ys.length:=by rw [v2.length];simpa using k2
 obtain ⟨u,eu,ru⟩:=v1.get (i:=j) (x:=xs[j]) (List.getElem?_eq_getElem l1)
 obtain ⟨w,ew,rw'⟩:=v2.get (i:=j) (x:=ys[j]) (List.getElem?_eq_getElem l2)
 obtain ⟨d,ed,qd⟩:=r1.getV (i:=j) (v:=xs[j]) (List.getElem?_eq_getElem l1)
 obtain ⟨e,ee,qe⟩:=r2.getV (i:=j) (v:=ys[j]) (List.getElem?_eq_getElem l2)
 have z1:us.toArray[j]=u:=by
  have:us[j]?=some u:=eu
  have k1':j < us.length:=by simpa using k1
  rw [List.getElem?_eq_getElem k1'] at this
  simpa using Option.some.inj this
 have z2:ws.toArray[j]=w:=by
  have:ws[j]?=some w:=ew
  have k2':j < ws.length:=by simpa using k2
  rw [List.getElem?_eq_getElem k2'] at this
  simpa using Option.some.inj this
 have z3:eAt ds es j=eqD d e:=by unfold eAt;rw [ed,ee]
 rw [z1,z2,z3]
 exact all d e _ _ u w (Nat.le_trans (kE ed) hn) (kT h1 ed) (kT h2 ee) qd qe ru rw'
theorem pX {a b:Addr} (I:Inv X pins σ H s) (hu:A.units < cLine) (n:Nat)
  (all:∀ (d e:D) (x y:V) (u w:Value),fe d≤n->noL d=true->noL e=true->Dat X.K H d x->Dat X.K H e y->RelV x u->RelV y w->SeqAt.EqAt A.in1 s u w (eqD d e))
  (hn:deepDs ds≤n) (h1:noLs ds=true) (h2:noLs es=true) (r1:Dats X.K H ds xs) (r2:Dats X.K H es ys) (q1:SqT X.K H a xs) (q2:SqT X.K H b ys) :
  SeqAt.RcAt A s (.ref a) (.ref b) (eqDs ds es)/\SeqAt.RcNeAt A s (.ref a) (.ref b) (!eqDs ds es):=by
 obtain ⟨us,v1,t1,_⟩:=I.tuple q1
 obtain ⟨ws,v2,t2,_⟩:=I.tuple q2
 have hi:=kG (X:=X) (H:=H) (s:=s) n all hn h1 h2 r1 r2 v1 v2
 have p:=SeqAt.RcAt.tuples (show s.heap.IsTuple a us.toArray from t1) (show s.heap.IsTuple b ws.toArray from t2) hu hi
 have p':=SeqAt.RcNeAt.tuples (show s.heap.IsTuple a us.toArray from t1) (show s.heap.IsTuple b ws.toArray from t2) hu hi
 have e1:us.toArray.size=ds.length:=by rw [List.size_toArray,← v1.length,r1.length]
 have e2:ws.toArray.size=es.length:=by rw [List.size_toArray,← v2.length,r2.length]
 rw [e1,e2,gb] at p p'
 exact ⟨p,p'⟩
theorem vW (I:Inv X pins σ H s):∀ (n:Nat) (A:Around) (d e:D) (x y:V) (u w:Value),A.units+n+1 < cLine->fe d≤n->noL d=true->noL e=true->Dat X.K H d x->Dat X.K H e y->RelV x u->RelV y w->SeqAt.EqAt A s u w (eqD d e):=by
 intro n
 induction n with
 | zero =>
  intro A d e x y u w hu hn h1 h2 q1 q2 r1 r2
  exact base I A d e x y u w (by omega) h1 h2 q1 q2 r1 r2 λds es a b xs ys ed ee=>by
   subst ed
   unfold fe at hn
   omega
 | succ n ih =>
  intro A d e x y u w hu hn h1 h2 q1 q2 r1 r2
  refine base I A d e x y u w (by omega) h1 h2 q1 q2 r1 r2 λds es a b xs ys ed ee t1 t2 s1 s2 hne=>?_
  subst ed ee
  unfold fe at hn
  unfold noL at h1 h2
  have p:=(pX (A:=A) (ds:=ds) (es:=es) I (by omega) n (λd e x y u w k1 k2 k3 k4 k5 k6 k7=>ih A.in1 d e x y u w (by rw [jz];omega) k1 k2 k3 k4 k5 k6 k7) (by omega) h1 h2 t1 t2 s1 s2).1
  unfold eqD
  exact .of_refs hne p
where
 base (I:Inv X pins σ H s) (A:Around) (d e:D) (x y:V) (u w:Value) (hu:A.units < cLine) (h1:noL d=true) (h2:noL e=true) (q1:Dat X.K H d x) (q2:Dat X.K H e y) (r1:RelV x u) (r2:RelV y w)
   (tt:∀ (ds es:List D) (a b:Addr) (xs ys:List V),d=.tup ds->e=.tup es->Dats X.K H ds xs->Dats X.K H es ys->SqT X.K H a xs->SqT X.K H b ys->a≠b->SeqAt.EqAt A s (.ref a) (.ref b) (eqD (.tup ds) (.tup es))) :
   SeqAt.EqAt A s u w (eqD d e):=by
  cases d with
  | lst=>unfold noL at h1;cases h1
  | non =>
   have z:=q1.nonE;subst z;cases r1
   cases e with
   | lst=>unfold noL at h2;cases h2
   | non=>have z:=q2.nonE;subst z;cases r2;unfold eqD;exact SeqAt.EqAt.same _
   | bl b=>have z:=q2.blE;subst z;cases r2;unfold eqD;exact SeqAt.EqAt.none_bool b
   | int i=>have z:=q2.intE;subst z;obtain ⟨t,rfl⟩:=r2;unfold eqD;exact SeqAt.EqAt.none_int i t
   | str i=>have z:=q2.strE;subst z;obtain ⟨t,rfl⟩:=r2;unfold eqD;exact SeqAt.EqAt.none_str i t
   | tup es=>obtain ⟨b,ys,z,s2,t2⟩:=q2.tupE;subst z;cases r2;obtain ⟨ws,v2,p2,_⟩:=I.tuple s2;unfold eqD;exact SeqAt.EqAt.none_tuple (show s.heap.IsTuple b ws.toArray from p2) hu
  | bl c =>
   have z:=q1.blE;subst z;cases r1
   cases e with
   | lst=>unfold noL at h2;cases h2
   | non=>have z:=q2.nonE;subst z;cases r2;unfold eqD;exact SeqAt.EqAt.bool_none c
   | bl b=>have z:=q2.blE;subst z;cases r2;unfold eqD;exact SeqAt.EqAt.bool_bool c b
   | int i=>have z:=q2.intE;subst z;obtain ⟨t,rfl⟩:=r2;unfold eqD;exact SeqAt.EqAt.bool_int c i t
   | str i=>have z:=q2.strE;subst z;obtain ⟨t,rfl⟩:=r2;unfold eqD;exact SeqAt.EqAt.bool_str c i t
   | tup es=>obtain ⟨b,ys,z,s2,t2⟩:=q2.tupE;subst z;cases r2;obtain ⟨ws,v2,p2,_⟩:=I.tuple s2;unfold eqD;exact SeqAt.EqAt.bool_tuple c (show s.heap.IsTuple b ws.toArray from p2) hu
  | int c =>
   have z:=q1.intE;subst z;obtain ⟨tc,rfl⟩:=r1
   cases e with
   | lst=>unfold noL at h2;cases h2
   | non=>have z:=q2.nonE;subst z;cases r2;unfold eqD;exact SeqAt.EqAt.int_none c tc
   | bl b=>have z:=q2.blE;subst z;cases r2;unfold eqD;exact SeqAt.EqAt.int_bool c tc b
   | int i=>have z:=q2.intE;subst z;obtain ⟨t,rfl⟩:=r2;unfold eqD;exact SeqAt.EqAt.int_int c tc i t
   | str i=>have z:=q2.strE;subst z;obtain ⟨t,rfl⟩:=r2;unfold eqD;exact SeqAt.EqAt.int_str c tc i t
   | tup es=>obtain ⟨b,ys,z,s2,t2⟩:=q2.tupE;subst z;cases r2;obtain ⟨ws,v2,p2,_⟩:=I.tuple s2;unfold eqD;exact SeqAt.EqAt.int_tuple c tc (show s.heap.IsTuple b ws.toArray from p2) hu
  | str c =>
   have z:=q1.strE;subst z;obtain ⟨tc,rfl⟩:=r1
   cases e with
   | lst=>unfold noL at h2;cases h2
   | non=>have z:=q2.nonE;subst z;cases r2;unfold eqD;exact SeqAt.EqAt.str_none c tc
   | bl b=>have z:=q2.blE;subst z;cases r2;unfold eqD;exact SeqAt.EqAt.str_bool c tc b
   | int i=>have z:=q2.intE;subst z;obtain ⟨t,rfl⟩:=r2;unfold eqD;exact SeqAt.EqAt.str_int c tc i t
   | str i=>have z:=q2.strE;subst z;obtain ⟨t,rfl⟩:=r2;unfold eqD;exact SeqAt.EqAt.str_str c tc i t
   | tup es=>obtain ⟨b,ys,z,s2,t2⟩:=q2.tupE;subst z;cases r2;obtain ⟨ws,v2,p2,_⟩:=I.tuple s2;unfold eqD;exact SeqAt.EqAt.str_tuple c tc (show s.heap.IsTuple b ws.toArray from p2) hu
  | tup ds =>
   have q1':=q1
   obtain ⟨a,xs,z,s1,t1⟩:=q1.tupE;subst z;cases r1;obtain ⟨us,v1,p1,_⟩:=I.tuple s1
   have p1':s.heap.IsTuple a us.toArray:=p1
   cases e with
   | lst=>unfold noL at h2;cases h2
   | non=>have z:=q2.nonE;subst z;cases r2;unfold eqD;exact SeqAt.EqAt.tuple_none p1' hu
   | bl b=>have z:=q2.blE;subst z;cases r2;unfold eqD;exact SeqAt.EqAt.tuple_bool b p1' hu
   | int i=>have z:=q2.intE;subst z;obtain ⟨t,rfl⟩:=r2;unfold eqD;exact SeqAt.EqAt.tuple_int i t p1' hu
   | str i=>have z:=q2.strE;subst z;obtain ⟨t,rfl⟩:=r2;unfold eqD;exact SeqAt.EqAt.tuple_str i t p1' hu
   | tup es =>
    have q2':=q2
    obtain ⟨b,ys,z,s2,t2⟩:=q2.tupE;subst z;cases r2
    by_cases hab:a=b
    ·subst hab
     have ee:=sR I (.tup ds) (.tup es) h1 q1' q2' h2
     rw [← ee,o9 _ h1]
     exact SeqAt.EqAt.same _
    ·exact tt ds es a b xs ys rfl rfl t1 t2 s1 s2 hab
theorem CQ (I:Inv X pins σ H s) (n:Nat) (A:Around) (d e:D) (x y:V) (u w:Value) (hu:A.units+n+2 < cLine) (hn:fe d≤n+1) (h1:noL d=true) (h2:noL e=true) (q1:Dat X.K H d x) (q2:Dat X.K H e y) (r1:RelV x u) (r2:RelV y w) :
  SeqAt.RcAt A s u w (eqD d e)/\SeqAt.RcNeAt A s u w (!eqD d e):=by
 have hu':A.units < cLine:=by omega
 cases d with
 | lst=>unfold noL at h1;cases h1
 | non =>
  have z:=q1.nonE;subst z;cases r1
  cases e with
  | lst=>unfold noL at h2;cases h2
  | non=>have z:=q2.nonE;subst z;cases r2;unfold eqD;exact ⟨SeqAt.RcAt.none_none,SeqAt.RcNeAt.none_none⟩
  | bl b=>have z:=q2.blE;subst z;cases r2;unfold eqD;exact ⟨SeqAt.RcAt.none_bool b,SeqAt.RcNeAt.none_bool b⟩
  | int i=>have z:=q2.intE;subst z;obtain ⟨t,rfl⟩:=r2;unfold eqD;exact ⟨SeqAt.RcAt.none_int i t,SeqAt.RcNeAt.none_int i t⟩
  | str i=>have z:=q2.strE;subst z;obtain ⟨t,rfl⟩:=r2;unfold eqD;exact ⟨SeqAt.RcAt.none_str i t,SeqAt.RcNeAt.none_str i t⟩
  | tup es=>obtain ⟨b,ys,z,s2,t2⟩:=q2.tupE;subst z;cases r2;obtain ⟨ws,v2,p2,_⟩:=I.tuple s2;unfold eqD;exact ⟨SeqAt.RcAt.none_tuple (show s.heap.IsTuple b ws.toArray from p2) hu',SeqAt.RcNeAt.none_tuple (show s.heap.IsTuple b ws.toArray from p2) hu'⟩
 | bl c =>
  have z:=q1.blE;subst z;cases r1
  cases e with
  | lst=>unfold noL at h2;cases h2
  | non=>have z:=q2.nonE;subst z;cases r2;unfold eqD;exact ⟨SeqAt.RcAt.bool_none c,SeqAt.RcNeAt.bool_none c⟩
  | bl b=>have z:=q2.blE;subst z;cases r2;unfold eqD;exact ⟨SeqAt.RcAt.bool_bool c b,SeqAt.RcNeAt.bool_bool c b⟩
  | int i=>have z:=q2.intE;subst z;obtain ⟨t,rfl⟩:=r2;unfold eqD;exact ⟨SeqAt.RcAt.bool_int c i t,SeqAt.RcNeAt.bool_int c i t⟩
  | str i=>have z:=q2.strE;subst z;obtain ⟨t,rfl⟩:=r2;unfold eqD;exact ⟨SeqAt.RcAt.bool_str c i t,SeqAt.RcNeAt.bool_str c i t⟩
  | tup es=>obtain ⟨b,ys,z,s2,t2⟩:=q2.tupE;subst z;cases r2;obtain ⟨ws,v2,p2,_⟩:=I.tuple s2;unfold eqD;exact ⟨SeqAt.RcAt.bool_tuple c (show s.heap.IsTuple b ws.toArray from p2) hu',SeqAt.RcNeAt.bool_tuple c (show s.heap.IsTuple b ws.toArray from p2) hu'⟩
 | int c =>
  have z:=q1.intE;subst z;obtain ⟨tc,rfl⟩:=r1
  cases e with
  | lst=>unfold noL at h2;cases h2
  | non=>have z:=q2.nonE;subst z;cases r2;unfold eqD;exact ⟨SeqAt.RcAt.int_none c tc,SeqAt.RcNeAt.int_none c tc⟩
  | bl b=>have z:=q2.blE;subst z;cases r2;unfold eqD;exact ⟨SeqAt.RcAt.int_bool c tc b,SeqAt.RcNeAt.int_bool c tc b⟩
  | int i=>have z:=q2.intE;subst z;obtain ⟨t,rfl⟩:=r2;unfold eqD;exact ⟨SeqAt.RcAt.int_int c tc i t,SeqAt.RcNeAt.int_int c tc i t⟩
  | str i=>have z:=q2.strE;subst z;obtain ⟨t,rfl⟩:=r2;unfold eqD;exact ⟨SeqAt.RcAt.int_str c tc i t,SeqAt.RcNeAt.int_str c tc i t⟩
  | tup es=>obtain ⟨b,ys,z,s2,t2⟩:=q2.tupE;subst z;cases r2;obtain ⟨ws,v2,p2,_⟩:=I.tuple s2;unfold eqD;exact ⟨SeqAt.RcAt.int_tuple c tc (show s.heap.IsTuple b ws.toArray from p2) hu',SeqAt.RcNeAt.int_tuple c tc (show s.heap.IsTuple b ws.toArray from p2) hu'⟩
 | str c =>
  have z:=q1.strE;subst z;obtain ⟨tc,rfl⟩:=r1
  cases e with
  | lst=>unfold noL at h2;cases h2
  | non=>have z:=q2.nonE;subst z;cases r2;unfold eqD;exact ⟨SeqAt.RcAt.str_none c tc,SeqAt.RcNeAt.str_none c tc⟩
  | bl b=>have z:=q2.blE;subst z;cases r2;unfold eqD;exact ⟨SeqAt.RcAt.str_bool c tc b,SeqAt.RcNeAt.str_bool c tc b⟩
  | int i=>have z:=q2.intE;subst z;obtain ⟨t,rfl⟩:=r2;unfold eqD;exact ⟨SeqAt.RcAt.str_int c tc i t,SeqAt.RcNeAt.str_int c tc i t⟩
  | str i=>have z:=q2.strE;subst z;obtain ⟨t,rfl⟩:=r2;unfold eqD;exact ⟨SeqAt.RcAt.str_str c tc i t,SeqAt.RcNeAt.str_str c tc i t⟩
  | tup es=>obtain ⟨b,ys,z,s2,t2⟩:=q2.tupE;subst z;cases r2;obtain ⟨ws,v2,p2,_⟩:=I.tuple s2;unfold eqD;exact ⟨SeqAt.RcAt.str_tuple c tc (show s.heap.IsTuple b ws.toArray from p2) hu',SeqAt.RcNeAt.str_tuple c tc (show s.heap.IsTuple b ws.toArray from p2) hu'⟩
 | tup ds =>
  obtain ⟨a,xs,z,s1,t1⟩:=q1.tupE;subst z;cases r1;obtain ⟨us,v1,p1,_⟩:=I.tuple s1
  have p1':s.heap.IsTuple a us.toArray:=p1
  cases e with
  | lst=>unfold noL at h2;cases h2
  | non=>have z:=q2.nonE;subst z;cases r2;unfold eqD;exact ⟨SeqAt.RcAt.tuple_none p1' hu',SeqAt.RcNeAt.tuple_none p1' hu'⟩
  | bl b=>have z:=q2.blE;subst z;cases r2;unfold eqD;exact ⟨SeqAt.RcAt.tuple_bool b p1' hu',SeqAt.RcNeAt.tuple_bool b p1' hu'⟩
  | int i=>have z:=q2.intE;subst z;obtain ⟨t,rfl⟩:=r2;unfold eqD;exact ⟨SeqAt.RcAt.tuple_int i t p1' hu',SeqAt.RcNeAt.tuple_int i t p1' hu'⟩
  | str i=>have z:=q2.strE;subst z;obtain ⟨t,rfl⟩:=r2;unfold eqD;exact ⟨SeqAt.RcAt.tuple_str i t p1' hu',SeqAt.RcNeAt.tuple_str i t p1' hu'⟩
  | tup es =>
   obtain ⟨b,ys,z,s2,t2⟩:=q2.tupE;subst z;cases r2
   unfold fe at hn
   unfold noL at h1 h2
   unfold eqD
   exact pX (A:=A) (ds:=ds) (es:=es) I hu' n (λd e x y u w k1 k2 k3 k4 k5 k6 k7=>vW I n A.in1 d e x y u w (by rw [jz];omega) k1 k2 k3 k4 k5 k6 k7) (by omega) h1 h2 t1 t2 s1 s2
theorem CS (I:Inv X pins σ H s) (n:Nat) (A:Around) (ds es:List D) (a b:Addr) (xs ys:List V) (hu:A.units+n+2 < cLine) (hn:deepDs ds≤n) (h1:noLs ds=true) (h2:noLs es=true) (q1:SqL X.K H a xs) (q2:SqL X.K H b ys) (r1:Dats X.K H ds xs) (r2:Dats X.K H es ys) :
  SeqAt.RcAt A s (.ref a) (.ref b) (eqDs ds es)/\SeqAt.RcNeAt A s (.ref a) (.ref b) (!eqDs ds es):=by
 have hu':A.units < cLine:=by omega
 obtain ⟨us,v1,p1,_⟩:=I.list q1
 obtain ⟨ws,v2,p2,_⟩:=I.list q2
 have e1:us.toArray.size=ds.length:=by rw [List.size_toArray,← v1.length,r1.length]
 have e2:ws.toArray.size=es.length:=by rw [List.size_toArray,← v2.length,r2.length]
 have hi:=kG (X:=X) (H:=H) (s:=s) (A:=A.in1) n (λd e x y u w k1 k2 k3 k4 k5 k6 k7=>vW I n A.in1 d e x y u w (by rw [jz];omega) k1 k2 k3 k4 k5 k6 k7) hn h1 h2 r1 r2 v1 v2
 by_cases hl:ds.length=es.length
 ·have hsz:us.toArray.size=ws.toArray.size:=by rw [e1,e2,hl]
  have p:=SeqAt.RcAt.lists p1.isList p2.isList hsz hu' hi
  have p':=SeqAt.RcNeAt.lists p1.isList p2.isList hsz hu' hi
  rw [e1,pb hl] at p p'
  exact ⟨p,p'⟩
 ·have hsz:(us.toArray.size != ws.toArray.size)=true:=by rw [e1,e2];simpa using hl
  have z:eqDs ds es=false:=by
   rw [← gb]
   have:(ds.length == es.length)=false:=by simpa using hl
   rw [this,Bool.and_false]
  rw [z]
  exact ⟨SeqAt.RcAt.lists_lengths p1.isList p2.isList hsz hu',SeqAt.RcNeAt.lists_lengths p1.isList p2.isList hsz hu'⟩
end
section
variable {X:Cx} {k:Nat}
def Bv (K:PySem.W.Frag) (neg:Bool):R2:=λx y H Q=>∃ d e,Dat K H d x/\Dat K H e y/\noL d=true/\noL e=true/\fe d≤20/\Q (.bl (if neg then !eqD d e else eqD d e)) H
theorem nY (hr:Room k X.A):OpR X (compareOp .NotEq) (Bv X.K true):=by
 intro pins s σ H x y v u Q I rx ry h
 obtain ⟨d,e,q1,q2,h1,h2,hn,q⟩:=h
 have hu:X.A.units+19+2 < cLine:=by have:=hr.un;omega
 exact (CQ I 19 X.A d e x y v u hu (by omega) h1 h2 q1 q2 rx ry).2 _ _ _ _ ⟨.bl _,H,I,rfl,q⟩
def Ca (K:PySem.W.Frag) (neg:Bool):R2:=λx y H Q=>∃ a b xs ys ds es,x=.ref a/\y=.ref b/\SqL K H a xs/\SqL K H b ys/\Dats K H ds xs/\Dats K H es ys/\noLs ds=true/\noLs es=true/\deepDs ds≤20/\Q (.bl (if neg then !eqDs ds es else eqDs ds es)) H
theorem nV (hr:Room k X.A):OpR X (compareOp .Eq) (Ca X.K false):=by
 intro pins s σ H x y v u Q I rx ry h
 obtain ⟨a,b,xs,ys,ds,es,ex,ey,q1,q2,r1,r2,h1,h2,hn,q⟩:=h
 subst ex ey
 cases rx
 cases ry
 have hu:X.A.units+20+2 < cLine:=by have:=hr.un;omega
 exact (CS I 20 X.A ds es a b xs ys hu hn h1 h2 q1 q2 r1 r2).1 _ _ _ _ ⟨.bl _,H,I,rfl,q⟩
def tyD:D->String
 | .non=>"NoneType"
 | .bl _=>"bool"
 | .int _=>"int"
 | .str _=>"str"
 | .tup _=>"tuple"
 | .lst=>"list"
def kN (d:D) (T:String):Bool:=tyD d == T || (tyD d == "bool" && T == "int")
theorem eJ {T:String} (hk:∀ d:D,PySem.W.kitOne X.K (.type (tyD d)) (.type T)=some (kN d T)) :
  gz X (.builtin "isinstance") (λxs H Q=>∃ x d,xs=[x,.ty T]/\Dat X.K H d x/\Q (.bl (kN d T)) H):=by
 intro pins s σ H xs us Q I r h
 obtain ⟨x,d,e,q,h⟩:=h
 subst e
 obtain ⟨u,c,e,ru,rc⟩:=Cz r
 subst e
 cases (show c=Value.type T from rc)
 have fin:∀ tk,EP X pins σ Q (.bool (kN d T)) { s with toks:=tk }:=λtk=>⟨.bl _,H,I.tok tk,rfl,h⟩
 have kd:=hk d
 cases d with
 | non=>have z:=q.nonE;subst z;cases ru;exact PySem.W.kia_one PySem.W.kitx_none I.kIn True.intro kd (λz=>nomatch z) fin
 | bl b=>have z:=q.blE;subst z;cases ru;exact PySem.W.kia_one PySem.W.kitx_bool I.kIn True.intro kd (λz=>nomatch z) fin
 | int i=>have z:=q.intE;subst z;obtain ⟨t,rfl⟩:=ru;exact PySem.W.kia_one PySem.W.kitx_int I.kIn True.intro kd (λz=>nomatch z) fin
 | str y=>have z:=q.strE;subst z;obtain ⟨t,rfl⟩:=ru;exact PySem.W.kia_one PySem.W.kitx_str I.kIn True.intro kd (λz=>nomatch z) fin
 | tup ds =>
  obtain ⟨a,vs,z,sq,_⟩:=q.tupE
  subst z
  cases ru
  obtain ⟨its,_,⟨o,e1,e2,_⟩,_⟩:=I.tuple sq
  exact PySem.W.kia_one PySem.W.kitx_tuple I.kIn ⟨o,e1,e2⟩ kd (λz=>nomatch z) fin
 | lst =>
  obtain ⟨a,vs,z,sq⟩:=q.lstE
  subst z
  cases ru
  obtain ⟨its,_,⟨o,_,e1,e2,_⟩,_⟩:=I.list sq
  exact PySem.W.kia_one PySem.W.kitx_list I.kIn ⟨o,e1,e2⟩ kd (λz=>nomatch z) fin
end
def gA (K:PySem.W.Frag) (a:Addr) (T:List (Str × KTD.Dat)):Prop:=∀ h:Heap,K.In h->KTD.TextTab h a T
section
variable {X:Cx}
theorem ja:OpR X (compareOp .In) (λx y H Q=>∃ k a T,x=.str k/\y=.ref a/\gA X.K a T/\Q (.bl (KTD.inKeys k T)) H):=by
 intro pins s σ H x y v u Q I rx ry h
 obtain ⟨k,a,T,ex,ey,t,q⟩:=h
 subst ex ey
 obtain ⟨tk,rfl⟩:=rx
 cases ry
 exact KTD.in_text (h₀:=s.heap) ⟨t _ I.kIn,λ_ _ e=>e⟩ ⟨.bl _,H,I.tok _,rfl,q⟩
def xo (K:PySem.W.Frag):R2:=λx y H Q=>∃ a k T i,x=.ref a/\y=.str k/\gA K a T/\(T.all λp=>KTD.plain p.2)=true/\KTD.datumAt k T=some (.flat (.int i))/\Q (.int i) H
theorem wF:IxR X (xo X.K):=by
 intro value slice pins s σ H x y v u Q I rx ry h hs
 obtain ⟨a,k,T,i,ex,ey,t,hp,hd,q⟩:=h
 subst ex ey
 obtain ⟨tk,rfl⟩:=ry
 cases rx
 have hm:KTD.inKeys k T=true:=by rw [← KTD.isSome_datumAt,hd];rfl
 refine KTD.item_textA (h₀:=s.heap) ⟨t _ I.kIn,λ_ _ e=>e⟩ hp hm ?_ hs
 exact each T hd λv hv=>by
  obtain ⟨t',rfl⟩:=PyProof.V.Flat.int_inv hv
  exact ⟨.int i,H,I.tok _,⟨t',rfl⟩,q⟩
where
 each {h:Heap} {k:Str} {P:Value->Prop} {i:Int}:∀ (T:List (Str × KTD.Dat)),KTD.datumAt k T=some (.flat (.int i))->(∀ v,PyProof.V.Flat v (.int i)->P v)->KTD.EachL h k P T
  | [],hd,_=>by simp [KTD.datumAt] at hd
  | (x,d)::T,hd,hP=>by
   have hd':(if decide (k=x)=true then some d else KTD.datumAt k T)=some (.flat (.int i)):=hd
   by_cases hx:k=x
   ·rw [if_pos (decide_eq_true hx)] at hd'
    cases hd'
    refine KTD.eachL_hit hx ?_
    exact opened hP
   ·rw [if_neg (by simp [hx])] at hd'
    exact KTD.eachL_miss hx (each T hd' hP)
 opened {h:Heap} {P:Value->Prop} {i:Int} (hP:∀ v,PyProof.V.Flat v (.int i)->P v):KTD.Opened h P (.flat (.int i)):=by
  first
   | exact KTD.opened_int λt=>hP _ (PyProof.V.Flat.int i t)
   | exact λt=>hP _ (PyProof.V.Flat.int i t)
end
section
variable {K:PySem.W.Frag} {H H' H2:Hp}
variable {a:Addr} {xs:List V}
theorem Same.sqT (e:Same H H') (h:SqT K H a xs):SqT K H' a xs:=by
 rcases h with (h | ⟨o,h⟩) | h
 ·exact .inl (.inl (e _ _ h))
 ·exact .inl (.inr ⟨o,e _ _ h⟩)
 ·exact .inr h
theorem Same.grow (e:Same H H'):cT K H H':=⟨λ_ _ h=>e.sqT h,λ_ xs h=>⟨xs,e.seq h⟩⟩
theorem Same.dat {d:D} {v:V} (e:Same H H') (h:Dat K H d v):Dat K H' d v:=Dat.mono e.grow d h
theorem Same.dats {ds:List D} {vs:List V} (e:Same H H') (h:Dats K H ds vs):Dats K H' ds vs:=Dats.mono e.grow ds h
theorem aC {p:Addr} (h:H p=none) (o:HO):Same H (upd H p o):=λb u q=>by rw [aD (aI q h)];exact q
def But (t:Addr) (H H':Hp):Prop:=∀ b o,b≠t->H b=some o->H' b=some o
variable {t:Addr}
theorem Same.but (e:Same H H'):But t H H':=λb o _ h=>e b o h
theorem But.trans (a:But t H H') (b:But t H' H2):But t H H2:=λc o n h=>b c o n (a c o n h)
theorem But.upd {o:HO} (a:But t H H'):But t H (upd H' t o):=λb u n h=>by rw [aD n];exact a b u n h
variable {zs:List V}
theorem But.sqT (e:But t H H') (ht:H t=some (.lst zs)) (h:SqT K H a xs):SqT K H' a xs:=by
 rcases h with (h | ⟨o,h⟩) | h
 ·exact .inl (.inl (e _ _ (λz=>by rw [z,ht] at h;cases h) h))
 ·exact .inl (.inr ⟨o,e _ _ (λz=>by rw [z,ht] at h;cases h) h⟩)
 ·exact .inr h
theorem But.sqL (e:But t H H') (n:a≠t) (h:SqL K H a xs):SqL K H' a xs:=by
 rcases h with (h | ⟨o,h⟩) | h
 ·exact .inl (.inl (e _ _ n h))
 ·exact .inl (.inr ⟨o,e _ _ n h⟩)
 ·exact .inr h
theorem But.grow {zs':List V} (e:But t H H') (ht:H t=some (.lst zs)) (ht':H' t=some (.lst zs')):cT K H H' :=
 ⟨λ_ _ h=>e.sqT ht h,λa xs h=>by
  by_cases n:a=t
  ·subst n;exact ⟨zs',SqL.of ht'⟩
  ·exact ⟨xs,e.sqL n h⟩⟩
end
section
variable {K:PySem.W.Frag}
theorem wo (d:D):PySem.W.kitOne K (.type (tyD d)) (.type "int")=some (kN d "int"):=by cases d <;> rfl
theorem yH (d:D):PySem.W.kitOne K (.type (tyD d)) (.type "bool")=some (kN d "bool"):=by cases d <;> rfl
theorem wq (d:D):PySem.W.kitOne K (.type (tyD d)) (.type "str")=some (kN d "str"):=by cases d <;> rfl
theorem kJ (d:D):PySem.W.kitOne K (.type (tyD d)) (.type "tuple")=some (kN d "tuple"):=by cases d <;> rfl
end
def spD (K:PySem.W.Frag) (R:List D->D->Prop):Sp:=λvs H Q _=>∃ ds d,Dats K H ds vs/\R ds d/\∀ v H',Same H H'->Dat K H' d v->Q v H'
def mr (K:PySem.W.Frag) (R:List D->List D->Prop):Sp:=λvs H Q _=>∃ ds es,Dats K H ds vs/\R ds es/\∀ r us H',Same H H'->H' r=some (.lst us)->H r=none->Dats K H' es us->Q (.ref r) H'
variable {vs:List V}
theorem dQ {a:D} (h:Dats K H [a] vs):∃ u,vs=[u]/\Dat K H a u:=by
 obtain ⟨u,r,e,h1,h⟩:=h.consE
 have z:=h.nilE
 subst z e
 exact ⟨u,rfl,h1⟩
variable {b:D}
theorem eK {a:D} (h:Dats K H [a,b] vs):∃ u v,vs=[u,v]/\Dat K H a u/\Dat K H b v:=by
 obtain ⟨u,r,e,h1,h⟩:=h.consE
 obtain ⟨v,q,h2⟩:=dQ h
 subst q e
 exact ⟨u,v,rfl,h1,h2⟩
theorem jU {a c:D} (h:Dats K H [a,b,c] vs):∃ u v w,vs=[u,v,w]/\Dat K H a u/\Dat K H b v/\Dat K H c w:=by
 obtain ⟨u,r,e,h1,h⟩:=h.consE
 obtain ⟨v,w,q,h2⟩:=eK h
 subst q e
 exact ⟨u,v,w,rfl,h1,h2⟩
variable {σ:St} {j:Nat}
theorem jm {z:Option V} {x:Option V}:(σ.set j z).set j x=σ.set j x:=by rw [List.set_set]
variable {J:It} {item:Nat->V} {te:TE} {σ0:St} {Q:VK}
theorem qI (Ok:Hp->Prop)
  (go:∀ i H',Ok H'->i < n->J.go i H'/\∀ x H'',J.yld i H' x H''->H''=H'/\x=item i) (stop:∀ H',Ok H'->J.stop n H') (h0:σ0.set j none=σ0)
  (D:Addr) (Pn:Nat->Hp->Prop) (p0:Pn 0 (upd H1 D (.lst []))) (ok:∀ i H',i≤n->Pn i H'->Ok H')
  (turn:∀ i H',i < n->Pn i H'->te (σ0.set j (some (item i))) H' λv H4=>∃ ys,H4 D=some (.lst ys)/\ys.length < sizeLine/\(∃ z,σ0.set j (some (item i))=σ0.set j z)/\Pn (i+1) (upd H4 D (.lst (ys++[v]))))
  (fin:∀ H',Pn n H'->Q (.ref D) H') :
  ∃ W:Nat->Nat->St->Hp->Prop,(∃ m,W 0 m σ0 (upd H1 D (.lst [])))/\∀ i m σ' H',W i m σ' H' ->
   (J.stop i H'/\Q (.ref D) H') \/
   (J.go i H'/\∃ Nx:St->Hp->Prop,(∀ σ'' H'',Nx σ'' H''->∃ m',m' < m/\W (i+1) m' σ'' H'')/\∀ x H'',J.yld i H' x H''->bC j x σ' H'' λσ2 H2=>fG σ2 H2 λb H3 =>
    if b=true then te σ2 H3 λv H4=>∃ ys,H4 D=some (.lst ys)/\ys.length < sizeLine/\Nx σ2 (upd H4 D (.lst (ys++[v]))) else Nx σ2 H3):=by
 refine ⟨λi m σ' H'=>m=n - i/\i≤n/\(∃ z,σ'=σ0.set j z)/\Pn i H',⟨n,by omega,Nat.zero_le _,⟨none,h0.symm⟩,p0⟩,?_⟩
 rintro i m σ' H' ⟨rfl,hi,⟨z,rfl⟩,p⟩
 have o:=ok i H' hi p
 by_cases hlt:i < n
 ·obtain ⟨g,y⟩:=go i H' o hlt
  refine .inr ⟨g,λσ'' H''=>(∃ z,σ''=σ0.set j z)/\Pn (i+1) H'',λσ'' H'' q=>⟨n - (i+1),by omega,rfl,hlt,q.1,q.2⟩,λx H'' yx=>?_⟩
  obtain ⟨e1,e2⟩:=y x H'' yx
  subst e1 e2
  simp only [bC,fG,if_true,jm]
  exact turn i _ hlt p
 ·have e:i=n:=by omega
  subst e
  exact .inl ⟨stop H' o,fin H' p⟩
theorem wg (i:Nat) (H':Hp) (h:SqT K H' a xs) (hi:i < xs.length):(Itt K a).go i H'/\∀ x H'',(Itt K a).yld i H' x H''->H''=H'/\x=xs.getD i .non:=by
 refine ⟨⟨xs,xs[i],h,List.getElem?_eq_getElem hi⟩,λx H'' y=>⟨y.1,?_⟩⟩
 have q:=y.2 xs h
 rw [List.getD_eq_getElem?_getD,q]
 rfl
theorem qN (i:Nat) (H':Hp) (h:SqL K H' a xs) (hi:i < xs.length):(Itl K a).go i H'/\∀ x H'',(Itl K a).yld i H' x H''->H''=H'/\x=xs.getD i .non:=by
 refine ⟨⟨xs,xs[i],h,List.getElem?_eq_getElem hi⟩,λx H'' y=>⟨y.1,?_⟩⟩
 have q:=y.2 xs h
 rw [List.getD_eq_getElem?_getD,q]
 rfl
theorem A6 (i:Nat) (H':Hp) (hi:i < n):(Itr 0 n).go i H'/\∀ x H'',(Itr 0 n).yld i H' x H''->H''=H'/\x=.int i:=by
 refine ⟨hi,λx H'' y=>⟨y.1,?_⟩⟩
 have q:=y.2
 rw [q]
 simp
section
variable {X:Cx}
def Cb (K:PySem.W.Frag):V->V->Hp->VK->Prop:=λo i H Q=>∃ p xs k v,o=.ref p/\i=.int k/\0≤k/\SqL K H p xs/\xs[k.toNat]?=some v/\Q v H
theorem wd:BV X (Cb X.K):=by
 intro pins s σ H o i ov iv Q I r1 r2 h
 obtain ⟨p,xs,k,v,eo,ei,h0,hq,he,q⟩:=h
 subst eo ei
 cases r1
 obtain ⟨t,rfl⟩:=r2
 obtain ⟨its,r,pl,hz⟩:=I.list hq
 obtain ⟨w,ew,rw'⟩:=r.get he
 have hl:=r.length
 have hlt:k.toNat < xs.length:=(List.getElem?_eq_some_iff.mp he).1
 have hn:=iF
 exact wpAny_getItem_list pl.isList h0 (by omega) (by simpa using ew) ⟨v,H,I,rw',q⟩
theorem zd:OpR X (binaryOp .Mult) (rI IntMulOk λi j=>.int (i * j)):=opI λ_ _ _ _ _ _ _ hc q=>mul_int q hc
end
theorem tu (h:j < n):ixN n (j:Int)=some j:=by
 unfold ixN
 rw [if_pos (by omega),if_pos (by omega)]
 simp
theorem at0 {α:Type} {x:α} {r:List α}:atI (x::r) 0=some x:=fu (j:=0) rfl
theorem at1 {α:Type} {x y:α} {r:List α}:atI (x::y::r) 1=some y:=fu (j:=1) rfl
theorem ix0:ixN (n+1) 0=some 0:=tu (j:=0) (by omega)
theorem ix1:ixN (n+2) 1=some 1:=tu (j:=1) (by omega)
theorem eW:∀ ns:List Int,Dats K H (ns.map D.int) (ns.map V.int)
 | []=>Dats.nil
 | n::ns=>Dats.cons (Dat.intI n) (eW ns)
theorem jD:∀ ns:List Int,noLs (ns.map D.int)=true
 | []=>by unfold noLs;rfl
 | n::ns=>by
  show noLs (D.int n::ns.map D.int)=true
  unfold noLs
  rw [jD ns]
  unfold noL
  rfl
theorem gE:∀ ns:List Int,deepDs (ns.map D.int)=0
 | []=>by unfold deepDs;rfl
 | n::ns=>by
  show deepDs (D.int n::ns.map D.int)=0
  unfold deepDs
  rw [gE ns]
  unfold fe
  rfl
theorem vX (ns:List Int):eqDs (ns.map D.int) []=ns.isEmpty:=by
 cases ns with
 | nil=>unfold eqDs;rfl
 | cons n ns=>show eqDs (D.int n::ns.map D.int) []=false;unfold eqDs;rfl
theorem eM (h:n≤1000):n≤sizeLine:=Nat.le_of_lt (d8 h)
def Scr (K:PySem.W.Frag) (H:Hp) (a:Addr) (ns:List Int):Prop:=(∃ o,H a=some (.frz o (.lst (ns.map V.int)))) \/
 ∃ (o:Obj) (its:Array Value) (n:Nat),K.lookup a=some o/\o.cls=.type "list"/\o.dict=none/\o.data=.seq its n/\its.size≤sizeLine/\Vals (ns.map V.int) its.toList
theorem Scr.sqL (h:Scr K H a ns):SqL K H a (ns.map V.int):=by
 rcases h with ⟨o,h⟩ | h
 ·exact .inl (.inr ⟨o,h⟩)
 ·exact .inr h
theorem Scr.but {t:Addr} {zs:List V} (h:Scr K H a ns) (e:But t H H') (ht:H t=some (.lst zs)):Scr K H' a ns:=by
 rcases h with ⟨o,h⟩ | h
 ·exact .inl ⟨o,e _ _ (λz=>by rw [z,ht] at h;cases h) h⟩
 ·exact .inr h
theorem Scr.same (h:Scr K H a ns) (e:Same H H'):Scr K H' a ns:=by
 rcases h with ⟨o,h⟩ | h
 ·exact .inl ⟨o,e _ _ h⟩
 ·exact .inr h
theorem BG (hO:yi H) (h:SqL K H a (ns.map V.int)):Scr K H a ns:=by
 rcases h with (h | ⟨o,h⟩) | h
 ·rcases hO a with z | ⟨o,xs,z⟩
  ·rw [h] at z;cases z
  ·rw [h] at z;cases z
 ·exact .inl ⟨o,h⟩
 ·exact .inr h
def xO (K:PySem.W.Frag):Sp:=λvs H Q _=>∃ (a t:Addr) (ns:List Int) (m p q:Int) (rest:List V),vs=[.ref a,.ref t,.int m]/\Scr K H a ns/\H t=some (.lst (.int p::.int q::rest))/\0≤p/\0 < m/\m≤1000000 /\
 ∀ (r:Int) (H':Hp) (p' q':Int),But t H H'->H' t=some (.lst (.int p'::.int q'::rest))->0≤p'->0≤r->r < m->Q (.int r) H'
def RE (K:PySem.W.Frag) (t:TE) (σ:St) (H:Hp) (d:D):Prop:=∀ H1,Same H H1->∀ Q:VK,(∀ v H',Same H1 H'->Dat K H' d v->Q v H')->t σ H1 Q
def RT (t:TT) (σ:St) (H:Hp) (b:Bool):Prop:=∀ H1,Same H H1->∀ Q:Bool->Hp->Prop,(∀ H',Same H1 H'->Q b H')->t σ H1 Q
def RA (K:PySem.W.Frag) (t:TA) (σ:St) (H:Hp) (ds:List D):Prop:=∀ H1,Same H H1->∀ Q:List V->Hp->Prop,(∀ vs H',Same H1 H'->Dats K H' ds vs->Q vs H')->t σ H1 Q
section
variable {K:PySem.W.Frag} {σ:St} {H H':Hp} {d d':D} {ds:List D} {t u ta tb:TE} {tt uu:TT} {tA:TA} {i j:Int} {b c:Bool}
theorem RE.mono (h:RE K t σ H d) (e:Same H H'):RE K t σ H' d:=λH1 s Q q=>h H1 (e.trans s) Q q
theorem RA.mono (h:RA K tA σ H ds) (e:Same H H'):RA K tA σ H' ds:=λH1 s Q q=>h H1 (e.trans s) Q q
theorem RT.mono (h:RT tt σ H b) (e:Same H H'):RT tt σ H' b:=λH1 s Q q=>h H1 (e.trans s) Q q
theorem RE.as (h:RE K t σ H d) (e:d=d'):RE K t σ H d':=e ▸ h
theorem RT.as (h:RT tt σ H b) (e:b=c):RT tt σ H c:=e ▸ h
theorem RE.use {Q:VK} (h:RE K t σ H d) (q:∀ v H',Same H H'->Dat K H' d v->Q v H'):t σ H Q:=h H (Same.refl H) Q q
theorem RT.use {Q:Bool->Hp->Prop} (h:RT tt σ H b) (q:∀ H',Same H H'->Q b H'):tt σ H Q:=h H (Same.refl H) Q q
theorem RA.use {Q:List V->Hp->Prop} (h:RA K tA σ H ds) (q:∀ vs H',Same H H'->Dats K H' ds vs->Q vs H'):tA σ H Q:=h H (Same.refl H) Q q
theorem aq:RE K (tC (.int i)) σ H (.int i):=λH1 _ Q q=>q _ _ (Same.refl _) (Dat.intI i)
variable {x:Str}
theorem ax:RE K (tC (.str x)) σ H (.str x):=λH1 _ Q q=>q _ _ (Same.refl _) (Dat.strI x)
theorem cR:RE K (tC (.bl b)) σ H (.bl b):=λH1 _ Q q=>q _ _ (Same.refl _) (Dat.blI b)
theorem oh:RE K (tC .non) σ H .non:=λH1 _ Q q=>q _ _ (Same.refl _) Dat.nonI
variable {k:Nat}
theorem ae {v:V} (h:Dat K H d v) (e:σ[k]?=some (some v):=by rfl):RE K (cx k) σ H d:=λH1 s Q q=>⟨v,e,q _ _ (Same.refl _) (s.dat h)⟩
theorem ah:RA K ck σ H []:=λH1 _ Q q=>q _ _ (Same.refl _) Dats.nil
theorem aa (h:RE K t σ H d) (r:RA K tA σ H ds):RA K (bj t tA) σ H (d::ds):=λH1 s Q q =>
 h H1 s _ λv H2 s2 q2=>r H2 (s.trans s2) _ λvs H3 s3 q3=>q _ _ (s2.trans s3) (Dats.cons (s3.dat q2) q3)
theorem aA (h:RA K tA σ H ds) (hl:ds.length≤1000:=by simp):RE K (BL tA) σ H (.tup ds):=λH1 s Q q =>
 h H1 s _ λvs H2 s2 q2=>⟨by rw [← q2.length];exact eM hl,λp hp=>q _ _ (s2.trans (aC hp _)) (Dat.tupI (SqT.of av) ((aC hp _).dats q2))⟩
theorem Av {g:Int->Int} (h:RE K t σ H (.int i)):RE K (tUn (rU λi=>.int (g i)) t) σ H (.int (g i)):=λH1 s Q q =>
 h H1 s _ λv H2 s2 q2=>⟨i,q2.intE,q _ _ s2 (Dat.intI _)⟩
variable {g:Int->Int->V}
theorem rO (h1:RE K ta σ H (.int i)) (h2:RE K tb σ H (.int j)) (hd:∀ H,Dat K H d (g i j)):RE K (tOp (rI0 g) ta tb) σ H d:=λH1 s Q q =>
 h1 H1 s _ λv H2 s2 q2=>h2 H2 (s.trans s2) _ λw H3 s3 q3=>⟨i,j,q2.intE,q3.intE,q _ _ (s2.trans s3) (hd _)⟩
theorem rP {C:Int->Int->Prop} (h1:RE K ta σ H (.int i)) (h2:RE K tb σ H (.int j)) (hc:C i j) (hd:∀ H,Dat K H d (g i j)):RE K (tOp (rI C g) ta tb) σ H d:=λH1 s Q q =>
 h1 H1 s _ λv H2 s2 q2=>h2 H2 (s.trans s2) _ λw H3 s3 q3=>⟨i,j,q2.intE,q3.intE,hc,q _ _ (s2.trans s3) (hd _)⟩
theorem cm (h1:RE K ta σ H (.int i)) (h2:RE K tb σ H (.int j)):RE K (tOp (rI0 λi j=>.int (i+j)) ta tb) σ H (.int (i+j)):=rO h1 h2 λ_=>Dat.intI _
theorem xI (h1:RE K ta σ H (.int i)) (h2:RE K tb σ H (.int j)):RE K (tOp (rI0 λi j=>.int (i - j)) ta tb) σ H (.int (i - j)):=rO h1 h2 λ_=>Dat.intI _
variable {p:Int->Int->Bool}
theorem bK (h1:RE K ta σ H (.int i)) (h2:RE K tb σ H (.int j)):RE K (tOp (rI0 λi j=>.bl (p i j)) ta tb) σ H (.bl (p i j)):=rO h1 h2 λ_=>Dat.blI _
theorem iK (h1:RE K ta σ H (.int i)) (h2:RE K tb σ H (.int j)):RE K (tOp rEq ta tb) σ H (.bl (decide (i=j))):=λH1 s Q q =>
 h1 H1 s _ λv H2 s2 q2=>h2 H2 (s.trans s2) _ λw H3 s3 q3=>by
  rw [q2.intE,q3.intE]
  refine ⟨rfl,?_⟩
  have e:decide (V.int i=V.int j)=decide (i=j):=by by_cases z:i=j <;> simp [z]
  rw [e]
  exact q _ _ (s2.trans s3) (Dat.blI _)
theorem gS (h1:RE K ta σ H (.int i)) (h2:RE K tb σ H (.int j)):RE K (tOp rNe ta tb) σ H (.bl (!decide (i=j))):=λH1 s Q q =>
 h1 H1 s _ λv H2 s2 q2=>h2 H2 (s.trans s2) _ λw H3 s3 q3=>by
  rw [q2.intE,q3.intE]
  refine ⟨rfl,?_⟩
  have e:decide (V.int i=V.int j)=decide (i=j):=by by_cases z:i=j <;> simp [z]
  rw [e]
  exact q _ _ (s2.trans s3) (Dat.blI _)
theorem bg {y:Str} (h1:RE K ta σ H (.str x)) (h2:RE K tb σ H (.str y)):RE K (tOp rEq ta tb) σ H (.bl (decide (x=y))):=λH1 s Q q =>
 h1 H1 s _ λv H2 s2 q2=>h2 H2 (s.trans s2) _ λw H3 s3 q3=>by
  rw [q2.strE,q3.strE]
  refine ⟨rfl,?_⟩
  have e:decide (V.str x=V.str y)=decide (x=y):=by by_cases z:x=y <;> simp [z]
  rw [e]
  exact q _ _ (s2.trans s3) (Dat.blI _)
theorem ba (h1:RE K ta σ H (.tup ds)) (h2:RE K tb σ H (.int k)) (e:ds[k]?=some d):RE K (tOp (xn K) ta tb) σ H d:=λH1 s Q q =>
 h1 H1 s _ λv H2 s2 q2=>h2 H2 (s.trans s2) _ λw H3 s3 q3=>by
  obtain ⟨a,vs,ev,hq,hd⟩:=(s3.dat q2).tupE
  obtain ⟨x,ex,hx⟩:=hd.get e
  exact ⟨a,vs,k,x,ev,q3.intE,hq,fu ex,q _ _ (s2.trans s3) hx⟩
theorem bW (h:RE K t σ H (.tup ds)):RE K (tCB (λxs H Q=>∃ p ys,xs=[.ref p]/\(SqL K H p ys\/SqT K H p ys)/\Q (.int ys.length) H) (bj t ck)) σ H (.int ds.length):=λH1 s Q q =>
 h H1 s _ λv H2 s2 q2=>by
  obtain ⟨a,vs,ev,hq,hd⟩:=q2.tupE
  subst ev
  refine ⟨a,vs,rfl,.inr hq,?_⟩
  rw [← hd.length]
  exact q _ _ s2 (Dat.intI _)
theorem bQ {T:String} (h:RE K t σ H d):RE K (tCB (λxs H Q=>∃ x d,xs=[x,.ty T]/\Dat K H d x/\Q (.bl (kN d T)) H) (bj t (bj (tC (.ty T)) ck))) σ H (.bl (kN d T)):=λH1 s Q q =>
 h H1 s _ λv H2 s2 q2=>⟨v,d,rfl,q2,q _ _ s2 (Dat.blI _)⟩
theorem aR {R:List D->D->Prop} {E:XK} (h:RA K tA σ H ds) (e:R ds d):RE K (fV (spD K R) [] E tA) σ H d:=λH1 s Q q =>
 h H1 s _ λvs H2 s2 q2=>⟨ds,d,by rw [List.append_nil];exact q2,e,λv H3 s3 q3=>q _ _ (s2.trans s3) q3⟩
variable {a:Addr} {T:List (Str × KTD.Dat)}
theorem jd {k:Str} (h:RE K t σ H (.str k)) (ht:gA K a T):RE K (tOp (λx y H Q=>∃ k a T,x=.str k/\y=.ref a/\gA K a T/\Q (.bl (KTD.inKeys k T)) H) t (tC (.ref a))) σ H (.bl (KTD.inKeys k T)):=λH1 s Q q =>
 h H1 s _ λv H2 s2 q2=>⟨k,a,T,q2.strE,rfl,ht,q _ _ s2 (Dat.blI _)⟩
theorem pZ {k:Str} (h:RE K t σ H (.str k)) (ht:gA K a T) (hp:(T.all λp=>KTD.plain p.2)=true) (e:KTD.datumAt k T=some (.flat (.int i))):RE K (tOp (xo K) (tC (.ref a)) t) σ H (.int i):=λH1 s Q q =>
 h H1 s _ λv H2 s2 q2=>⟨a,k,T,i,rfl,q2.strE,ht,hp,e,q _ _ s2 (Dat.intI _)⟩
theorem Cm {n:Nat}:HT.sIx (n+1) 0 (some 1)=1:=by
 have:=HT.sIx_nat (n+1) 0 1
 simpa using this
theorem CJ (v:V) (r:List V):me (v::r) (some 1) none=r:=by
 unfold me
 rw [List.length_cons,Cm,HT.sIx_none]
 simp
theorem uP (h:RE K t σ H (.tup (d'::ds))):RE K (tSl (Bx K) t (m6 (tC (.int 1))) tU) σ H (.tup ds):=λH1 s Q q =>
 h H1 s _ λv H2 s2 q2=>by
  obtain ⟨a,vs,ev,hq,hd⟩:=q2.tupE
  obtain ⟨w,r,er,h1,h2⟩:=hd.consE
  subst ev er
  refine ⟨1,rfl,a,w::r,rfl,hq,λz=>?_,λp hp=>?_⟩
  ·rw [List.length_cons,Cm] at z
   exact absurd z.1 (by decide)
  ·rw [CJ]
   exact q _ _ (s2.trans (aC hp _)) (Dat.tupI (SqT.of av) ((aC hp _).dats h2))
theorem cA (h1:RE K ta σ H (.bl b)) (h2:b=true->RE K tb σ H (.bl c)):RE K (AD ta tb) σ H (.bl (b && c)):=λH1 s Q q =>
 h1 H1 s _ λv H2 s2 q2=>⟨b,q2.blE,by
  cases b with
  | true=>rw [if_pos rfl];exact h2 rfl H2 (s.trans s2) _ λw H3 s3 q3=>q _ _ (s2.trans s3) q3
  | false=>rw [if_neg Bool.false_ne_true];exact q _ _ s2 (Dat.blI _)⟩
theorem Au (h1:RE K ta σ H (.bl b)) (h2:b=false->RE K tb σ H (.bl c)):RE K (Cu ta tb) σ H (.bl (b || c)):=λH1 s Q q =>
 h1 H1 s _ λv H2 s2 q2=>⟨b,q2.blE,by
  cases b with
  | true=>rw [if_pos rfl];exact q _ _ s2 (Dat.blI _)
  | false=>rw [if_neg Bool.false_ne_true];exact h2 rfl H2 (s.trans s2) _ λw H3 s3 q3=>q _ _ (s2.trans s3) q3⟩
theorem xH (h:RE K t σ H (.bl b)):RE K (AE t) σ H (.bl (!b)):=λH1 s Q q =>
 h H1 s _ λv H2 s2 q2=>⟨b,q2.blE,q _ _ s2 (Dat.blI _)⟩
theorem lH {r:Int->Int->Bool} {k:Int} {tc:TE} (h1:RE K ta σ H (.int i)) (h2:RE K tb σ H (.int j)) (h3:p i j=true->RE K tc σ H (.int k)) :
  RE K (oC (rI0 λi j=>.bl (p i j)) (rI0 λi j=>.bl (r i j)) ta tb tc) σ H (.bl (p i j && r j k)):=λH1 s Q q =>
 h1 H1 s _ λv H2 s2 q2=>h2 H2 (s.trans s2) _ λw H3 s3 q3=>by
  refine ⟨i,j,q2.intE,q3.intE,p i j,rfl,?_⟩
  cases hp:p i j with
  | true =>
   simp only [if_true,Bool.true_and]
   exact h3 hp H3 (s.trans (s2.trans s3)) _ λz H4 s4 q4=>⟨j,k,q3.intE,q4.intE,q _ _ (s2.trans (s3.trans s4)) (by rw [hp];exact Dat.blI _)⟩
  | false =>
   simp only [Bool.false_eq_true,if_false,Bool.false_and]
   exact q _ _ (s2.trans s3) (by rw [hp];exact Dat.blI _)
theorem xE (h:RT tt σ H b) (h1:b=true->RE K ta σ H d) (h2:b=false->RE K tb σ H d):RE K (tIf tt ta tb) σ H d:=λH1 s Q q =>
 h H1 s _ λH2 s2=>by
  cases b with
  | true=>rw [if_pos rfl];exact h1 rfl H2 (s.trans s2) _ λw H3 s3 q3=>q _ _ (s2.trans s3) q3
  | false=>rw [if_neg Bool.false_ne_true];exact h2 rfl H2 (s.trans s2) _ λw H3 s3 q3=>q _ _ (s2.trans s3) q3
theorem aB (h:RE K t σ H (.bl b)):RT (qg t) σ H b:=λH1 s Q q=>h H1 s _ λv H2 s2 q2=>⟨b,q2.blE,q _ s2⟩
theorem aW (h:RE K t σ H (.bl b)):RT (λσ H Q=>t σ H λx H'=>∃ k,qx K x H' k/\Q k H') σ H b:=λH1 s Q q=>h H1 s _ λv H2 s2 q2=>by
 rw [q2.blE]
 exact ⟨b,rfl,q _ s2⟩
theorem bw (h:RT tt σ H b):RT (BK tt) σ H (!b):=λH1 s Q q=>h H1 s _ λH2 s2=>q _ s2
theorem bY (h:RT tt σ H b) (h2:b=false->RT uu σ H c):RT (tOr tt uu) σ H (b || c):=λH1 s Q q=>h H1 s _ λH2 s2=>by
 cases b with
 | true=>rw [if_pos rfl];exact q _ s2
 | false=>rw [if_neg Bool.false_ne_true];exact h2 rfl H2 (s.trans s2) _ λH3 s3=>q _ (s2.trans s3)
variable {En:Ends}
theorem aU (h:RE K t σ H d) (q:∀ v H',Same H H'->Dat K H' d v->En.rt v H'):zT t En σ H:=h.use q
theorem rS (h:RE K t σ H d) (q:∀ v H',Same H H'->Dat K H' d v->En.nx (σ.set k (some v)) H'):jn t (bC k) En σ H:=h.use q
theorem jh {ts us:TS} (h:RT tt σ H b) (h1:b=true->∀ H',Same H H'->ts En σ H') (h2:b=false->∀ H',Same H H'->us En σ H'):zS tt ts us En σ H:=h.use λH' s=>by
 cases b with
 | true=>rw [if_pos rfl];exact h1 rfl H' s
 | false=>rw [if_neg Bool.false_ne_true];exact h2 rfl H' s
end
theorem bU:bootBuiltins "len"=some (.builtin "len"):=by decide +kernel
theorem aO:bootBuiltins "isinstance"=some (.builtin "isinstance"):=by decide +kernel
theorem nB:bootBuiltins "all"=some (.builtin "all"):=by decide +kernel
theorem vL:bootBuiltins "int"=some (.type "int"):=by decide +kernel
theorem yv:bootBuiltins "bool"=some (.type "bool"):=by decide +kernel
theorem vM:bootBuiltins "str"=some (.type "str"):=by decide +kernel
theorem eI:bootBuiltins "tuple"=some (.type "tuple"):=by decide +kernel
theorem gX:bootBuiltins "list"=some (.type "list"):=by decide +kernel
theorem iP:bootBuiltins "range"=some (.type "range"):=by decide +kernel
theorem oV:bootBuiltins "reversed"=some (.type "reversed"):=by decide +kernel
theorem lZ:bootBuiltins "ValueError"=some (.type "ValueError"):=by decide +kernel
variable {tA:TA} {ds:List D}
theorem gT (h:RA K tA σ H ds) (q:∀ p vs H1,Same H H1->H1 p=none->Dats K H1 ds vs->Q (.ref p) (upd H1 p (.lst vs))) (hl:ds.length≤1000:=by simp):uW tA σ H Q :=
 h.use λvs H1 s1 q1=>⟨by rw [← q1.length];exact eM hl,λp hp=>q p vs H1 s1 hp q1⟩
theorem fL (go:∀ i H',Same H1 H'->i < n->J.go i H'/\∀ x H'',J.yld i H' x H''->H''=H'/\x=item i) (stop:∀ H',Same H1 H'->J.stop n H')
  (h0:σ0.set j none=σ0) (es:List D) (hn:es.length=n) (hb:n≤1000) (turn:∀ i d,es[i]?=some d->RE K te (σ0.set j (some (item i))) H1 d)
  (fin:∀ l ys H',H1 l=none->Same H1 H'->H' l=some (.lst ys)->Dats K H' es ys->Q (.ref l) H') (l:Addr) (hl:H1 l=none) :
  ∃ W:Nat->Nat->St->Hp->Prop,(∃ m,W 0 m σ0 (upd H1 l (.lst [])))/\∀ i m σ' H',W i m σ' H' ->
   (J.stop i H'/\Q (.ref l) H') \/
   (J.go i H'/\∃ Nx:St->Hp->Prop,(∀ σ'' H'',Nx σ'' H''->∃ m',m' < m/\W (i+1) m' σ'' H'')/\∀ x H'',J.yld i H' x H''->bC j x σ' H'' λσ2 H2=>fG σ2 H2 λb H3 =>
    if b=true then te σ2 H3 λv H4=>∃ ys,H4 l=some (.lst ys)/\ys.length < sizeLine/\Nx σ2 (upd H4 l (.lst (ys++[v]))) else Nx σ2 H3):=by
 refine qI (λH'=>Same H1 H') go stop h0 l (λi H'=>Same H1 H'/\∃ ys,H' l=some (.lst ys)/\Dats K H' (es.take i) ys) ?_ ?_ ?_ ?_
 ·exact ⟨aC hl _,[],av,by rw [List.take_zero];exact Dats.nil⟩
 ·intro i H' _ p
  exact p.1
 ·intro i H' hi ⟨s1,ys,hy,hd⟩
  have hi':i < es.length:=by omega
  refine ((turn i es[i] (List.getElem?_eq_getElem hi')).mono s1).use λv H4 s4 q4=>?_
  have hy4:=s4 _ _ hy
  have lys:ys.length=i:=by rw [← hd.length,List.length_take];omega
  refine ⟨ys,hy4,d8 (by omega),⟨_,rfl⟩,λb o hb=>?_,ys++[v],av,?_⟩
  ·rw [aD (aI hb hl)]
   exact s4 _ _ (s1 _ _ hb)
  ·have g:cT K H4 (upd H4 l (.lst (ys++[v]))):=But.grow (t:=l) (But.upd (Same.refl H4).but) hy4 av
   rw [List.take_add_one,List.getElem?_eq_getElem hi']
   exact Dats.append (Dats.mono g _ (s4.dats hd)) (Dats.cons (Dat.mono g _ q4) Dats.nil)
 ·intro H' ⟨s1,ys,hy,hd⟩
  rw [List.take_of_length_le (by omega)] at hd
  exact fin l ys H' hl s1 hy hd
variable {tt:TT} {En:Ends} {ts us:TS}
theorem aE {K:PySem.W.Frag} {b:Bool} (h:RT tt σ H b) (h1:b=true->∀ H',Same H H'->ts { En with nx:=us En } σ H') (h2:b=false->∀ H',Same H H'->us En σ H'):iL (zS tt ts qf) us En σ H :=
 jh h h1 h2
variable {d:D}
theorem bD {t:TE} (h:RE K t σ H d) (q:∀ v H',Same H H'->Dat K H' d v->us En (σ.set k (some v)) H'):iL (jn t (bC k)) us En σ H:=h.use q
theorem d6 (h:te σ H λx H1=>us En (σ.set k (some x)) H1):iL (jn te (bC k)) us En σ H:=h
theorem dv (h:te σ H λ_ H1=>us En σ H1):iL (qc te) us En σ H:=h
variable {v:V}
theorem Ax (h:Q v H):tC v σ H Q:=h
theorem Aw (h:te σ H En.rt):zT te En σ H:=h
theorem dI (h:ts { En with nx:=us En } σ H):iL ts us En σ H:=h
theorem mR {tl:TE} {mk:St->St} {cs:List D} (h:RE K tl σ H (.tup cs)) (hc:cs.length≤1000) (es:List D) (hl:es.length=cs.length) (h0:(mk σ).set j none=mk σ)
  (turn:∀ H1 (i:Nat) c v d,Same H H1->cs[i]?=some c->es[i]?=some d->Dat K H1 c v->RE K te ((mk σ).set j (some v)) H1 d)
  (fin:∀ l ys H',H l=none->Same H H'->H' l=some (.lst ys)->Dats K H' es ys->Q (.ref l) H'):gw (wA K tl) mk (bC j) fG te σ H Q:=by
 refine h.use λv4 H4 s4 q4=>?_
 obtain ⟨a,vs,e,hq,hd⟩:=q4.tupE
 subst e
 have l4:=hd.length
 refine ⟨a,rfl,⟨vs,hq⟩,?_⟩
 refine fL (K:=K) (Q:=Q) (n:=vs.length) (item:=λi=>vs.getD i .non) (λi H' s hi=>wg i H' (s.sqT hq) hi) (λH' s=>⟨vs,s.sqT hq,Nat.le_refl _⟩) h0 es (by omega) (by omega) (λi d hi=>?_) (λl ys H5 hl5 s5=>fin l ys H5 (s4.free hl5) (s4.trans s5))
 have hi':i < es.length:=(List.getElem?_eq_some_iff.mp hi).1
 have hic:i < cs.length:=by omega
 obtain ⟨vz,ez,hz⟩:=hd.get (List.getElem?_eq_getElem hic)
 have q:=turn H4 i cs[i] vz d s4 (List.getElem?_eq_getElem hic) hi hz
 rw [List.getD_eq_getElem?_getD,ez]
 exact q
theorem fB {Q:St->Hp->Prop} (h:Q (σ.set j (some v)) H):bC j v σ H Q:=h
theorem iV {base:Heap} {f:Addr} {ps:List Str} (no:∀ vs H Q E,¬ sp vs H Q E):FnOk P w K mg base CX k f fd ps sp :=
 ⟨λvs H Q E h=>absurd h (no vs H Q E),λA outer s H args us vs Q E _ _ _ _ h=>absurd h (no vs H Q E)⟩
theorem iw {ta:TE} {r:List V->Hp->VK->Prop} (h:ta σ H λx H1=>r [x] H1 Q):tCB r (bj ta ck) σ H Q:=h
theorem rN (h:RA K tA σ H ds) (hl:ds.length≤1000:=by simp):RE K (uW tA) σ H .lst:=λH1 s Q q =>
 h H1 s _ λvs H2 s2 q2=>⟨by rw [← q2.length];exact eM hl,λp hp=>q _ _ (s2.trans (aC hp _)) (Dat.lstI (SqL.of av))⟩
theorem bH {G:Hp} {es:List D} (h:RA K tA σ G es) (hl:G l=some (.lst xs)) (hx:xs.length≤900)
  (q:∀ ys G',But l G G'->G' l=some (.lst (xs++ys))->Dats K G' es ys->us En σ G') (hv:σ[j]?=some (some (.ref l)):=by rfl) (he:es.length≤100:=by simp):iL (qc (tBM K "list" tL (cx j) (bj (uW tA) ck))) us En σ G:=by
 refine ⟨_,hv,.inl ⟨rfl,_,SqL.of hl⟩,?_⟩
 refine gT h (λp vs H1 s1 hp q1=>?_) (by omega)
 have hlp:l≠p:=aI (s1 _ _ hl) hp
 have hl1:upd H1 p (.lst vs) l=some (.lst xs):=by rw [aD hlp];exact s1 _ _ hl
 have lv:=q1.length
 refine ⟨l,p,xs,vs,rfl,rfl,hl1,av,eM (by omega),?_⟩
 have b:But l (upd H1 p (.lst vs)) (upd (upd H1 p (.lst vs)) l (.lst (xs++vs))):=But.upd (Same.refl _).but
 have g:cT K (upd H1 p (.lst vs)) (upd (upd H1 p (.lst vs)) l (.lst (xs++vs))):=b.grow hl1 av
 exact q vs _ ((s1.trans (aC hp _)).but.trans b) av (Dats.mono g _ ((aC hp _).dats q1))
theorem gh {i:Nat} {e:D} (h:RE K te σ H (.tup [d,e])) (q:∀ v w H',Same H H'->Dat K H' d v->Dat K H' e w->us En ((σ.set i (some v)).set j (some w)) H') :
  iL (jn te (qL K 2 (fz (bC i) (fz (bC j) ui)))) us En σ H :=
 h.use λx H1 s1 q1=>by
  obtain ⟨a,vs,e1,hq,hd⟩:=q1.tupE
  obtain ⟨v,w,e2,hv,hw⟩:=eK hd
  subst e1 e2
  exact ⟨a,_,rfl,hq,rfl,v,_,rfl,w,_,rfl,rfl,q v w H1 s1 hv hw⟩
def Aj:Expr->Bool
 | .Starred ..=>false
 | _=>true
variable {e:Expr} {es:List Expr}
theorem uU (h:Aj e=true):starEach (e::es) env=(false,eval e env)::starEach es env:=by
 cases e <;> first | rfl | cases h
theorem ag {t:TA} (ha:PE X e te) (hr:PA X es t) (h:Aj e=true:=by rfl):PA X (e::es) (bj te t):=aT ha hr (uU h)
theorem sr {bs:List Bool} {us:List Value}:Vals (bs.map V.bl) us->us=bs.map Value.bool:=by
 intro h
 induction bs generalizing us with
 | nil=>cases h;rfl
 | cons b bs ih =>
  cases h with
  | cons r t=>cases r;rw [ih t];rfl
theorem By (bs:List Bool) (d:Bool):(List.range bs.length).map (λi=>(bs[i]?).getD d)=bs:=by
 apply List.ext_getElem
 ·simp
 ·intro i h1 h2
  simp at h1
  simp [h1]
section
variable {X:Cx}
theorem iQ (hc:X.calm=true):gz X (.builtin "all") (λxs H Q=>∃ (l:Addr) (bs:List Bool),xs=[.ref l]/\SqL X.K H l (bs.map V.bl)/\Q (.bl (bs.all id)) H):=by
 intro pins s σ H xs us Q I r h
 obtain ⟨l,bs,rfl,hq,q⟩:=h
 obtain ⟨u,rfl,ru⟩:=fW r
 cases ru
 obtain ⟨its,rv,p,hz⟩:=I.list hq
 have ei:=sr rv
 have hl:=p.isList
 have hlt:l < s.heap.objs.size:=by obtain ⟨_,e,_⟩:=hl;exact Heap.lt_size e
 refine call_all_walk (wpAny_pyIter_list hl ?_)
 refine ⟨s.heap.objs.size,[s.heap.objs.size,l],[s.heap.objs.size],its.toArray.size,_,_,λi=>(bs[i]?).getD true,rfl,Walks.list (A:=X.A.in1) (I.ok.hd hc) _ l (Nat.ne_of_lt hlt) its.toArray,
  ⟨⟨_,Heap.get?_push_size _ rfl,rfl,rfl⟩,hl.push _⟩,λi v s' Q' E' hP hQ=>?_,λh' tk hk=>?_⟩
 ·subst ei
  have hP':(bs.map Value.bool)[i]?=some v:=by simpa using hP
  rw [List.getElem?_map] at hP'
  cases hb:bs[i]? with
  | none=>rw [hb] at hP';cases hP'
  | some b =>
   rw [hb] at hP'
   cases hP'
   simp only [hb,Option.getD_some] at hQ
   exact wpAny_truthy_bool hQ
 ·have e:((List.range its.toArray.size).all λi=>(bs[i]?).getD true)=bs.all id:=by
   subst ei
   rw [List.size_toArray,List.length_map]
   conv=>rhs;rw [← By bs true]
   rw [List.all_map]
   rfl
  rw [e]
  exact ⟨.bl _,H,I.kept (t':=tk) λb x e=>hk b x (λhm=>by rw [List.mem_singleton.mp hm] at e;exact Nat.lt_irrefl _ (Heap.lt_size e)) (Heap.get?_push_of_some _ e),rfl,q⟩
end
structure FunD (K:PySem.W.Frag) (x qual:Str) (st:Stmt) (f:Addr) (fd:FuncData) (T:Addr) (ds:List Value):Prop where
 ex:∃ (oc:Value) (od:Option Addr) (kV doc pm:Value) (an:Option Addr) (cdv ct:Value) (osl:Array (Option Value)),
  fd=PySem.W.fnOf x qual (bG st) (bz st) (aw st) (.ref T) kV doc pm an cdv ct/\K.lookup f=some ⟨oc,od,.func fd,osl⟩/\PySem.W.codeIn K cdv qual=true
 kp:PySem.W.keepIn K (.ref f)=true
 df:∃ (o:Obj) (n:Nat),K.lookup T=some o/\o.data=.seq ds.toArray n
section
variable {P:Program} {w:World} {K:PySem.W.Frag} {mg:Str->Option Value} {base:Heap}
end
section
variable {K:PySem.W.Frag} {σ:St} {H H':Hp} {d d':D} {ds:List D} {t u ta tb:TE} {tt uu:TT} {tA:TA} {i j:Int} {b c:Bool}
theorem jM (h1:RE K ta σ H (.int i)) (h2:RE K tb σ H (.int j)) (hj:0 < j):RE K (tOp (rI (λ_ j=>0 < j) λi j=>.int (i % j)) ta tb) σ H (.int (i % j)):=rP h1 h2 hj λ_=>Dat.intI _
theorem xF (h1:RE K ta σ H (.int i)) (h2:RE K tb σ H (.int j)) (hc:CMul i j):RE K (tOp (rI CMul λi j=>.int (i * j)) ta tb) σ H (.int (i * j)):=rP h1 h2 hc λ_=>Dat.intI _
theorem zC (h1:RE K ta σ H (.int i)) (h2:RE K tb σ H (.int j)) (hc:AG i j):RE K (tOp (rI AG λi j=>.int (i / j)) ta tb) σ H (.int (i / j)):=rP h1 h2 hc λ_=>Dat.intI _
theorem o5:∀ {bs:List Bool} {vs:List V},Dats K H (bs.map D.bl) vs->vs=bs.map V.bl
 | [],vs,h=>by rw [Dats.nilE h];rfl
 | b::bs,vs,h=>by
  obtain ⟨v,r,e,h1,h2⟩:=h.consE
  rw [e,h1.blE,o5 h2]
  rfl
theorem vS:∀ {xs:List Str} {vs:List V},Dats K H (xs.map D.str) vs->vs=xs.map V.str
 | [],vs,h=>by rw [Dats.nilE h];rfl
 | x::xs,vs,h=>by
  obtain ⟨v,r,e,h1,h2⟩:=h.consE
  rw [e,h1.strE,vS h2]
  rfl
theorem yB (x y:Str):eqV (.str x) (.str y)=decide (x=y):=by
 unfold eqV
 by_cases h:x=y <;> simp [h]
theorem nF (x:Str):∀ ys:List Str,inV (.str x) (ys.map V.str)=decide (x ∈ ys)
 | []=>by simp [inV]
 | y::ys=>by
  have ih:=nF x ys
  unfold inV at ih ⊢
  rw [List.map_cons,List.any_cons,ih,yB]
  by_cases h:y=x
  ·subst h;simp
  ·have h':¬ x=y:=λz=>h z.symm
   simp [h,h']
theorem mI (ys:List Str):(ys.map V.str).all iq=true:=by
 rw [List.all_eq_true]
 intro v hv
 obtain ⟨y,_,rfl⟩:=List.mem_map.mp hv
 rfl
variable {x:Str} {ys:List Str}
theorem lI (h1:RE K ta σ H (.str x)) (h2:RE K tb σ H (.tup (ys.map D.str))):RE K (tOp (rIn K false) ta tb) σ H (.bl (decide (x ∈ ys))):=λH1 s Q q =>
 h1 H1 s _ λv H2 s2 q2=>h2 H2 (s.trans s2) _ λw H3 s3 q3=>by
  obtain ⟨a,vs,ev,hq,hd⟩:=q3.tupE
  have e:=vS hd
  subst e
  rw [q2.strE]
  refine ⟨a,_,ev,.inr hq,rfl,mI ys,?_⟩
  rw [nF]
  exact q _ _ (s2.trans s3) (Dat.blI _)
theorem uO (h1:RE K ta σ H (.str x)) (h2:RE K tb σ H (.tup (ys.map D.str))):RE K (tOp (rIn K true) ta tb) σ H (.bl (!decide (x ∈ ys))):=λH1 s Q q =>
 h1 H1 s _ λv H2 s2 q2=>h2 H2 (s.trans s2) _ λw H3 s3 q3=>by
  obtain ⟨a,vs,ev,hq,hd⟩:=q3.tupE
  have e:=vS hd
  subst e
  rw [q2.strE]
  refine ⟨a,_,ev,.inr hq,rfl,mI ys,?_⟩
  rw [nF]
  exact q _ _ (s2.trans s3) (Dat.blI _)
theorem xG {y:Str} (h1:RE K ta σ H (.str x)) (h2:RE K tb σ H (.str y)):RE K (tOp rNe ta tb) σ H (.bl (!decide (x=y))):=λH1 s Q q =>
 h1 H1 s _ λv H2 s2 q2=>h2 H2 (s.trans s2) _ λw H3 s3 q3=>by
  rw [q2.strE,q3.strE]
  refine ⟨rfl,?_⟩
  have e:decide (V.str x=V.str y)=decide (x=y):=by by_cases z:x=y <;> simp [z]
  rw [e]
  exact q _ _ (s2.trans s3) (Dat.blI _)
end
section
variable {X:Cx}
theorem wZ:OpR X (compareOp .LtE) (λx y H Q=>∃ i j:Str,x=.str i/\y=.str j/\Q (.bl (!decide (j.cps.toList < i.cps.toList))) H):=by
 intro pins s σ H x y v u Q I rx ry h
 obtain ⟨i,j,rfl,rfl,q⟩:=h
 obtain ⟨t,rfl⟩:=rx
 obtain ⟨t',rfl⟩:=ry
 refine PySem.P.le_str ?_
 exact ⟨.bl _,H,I,rfl,q⟩
def Its (x:Str):It:=⟨λi _=>i < x.cps.size,λi H v H'=>H'=H/\∃ c,x.cps[i]?=some c/\v=.str ⟨#[c]⟩,λi _=>i=x.cps.size⟩
theorem m7 {P:Program} {w:World} {K:PySem.W.Frag} {tg:Expr} {it:Addr} {n:String} {x:Str} {t:Tok} (hn:["enumerate","zip","dict_itemiterator","dict_reverseitemiterator","odict_iterator","itertools.zip_longest","itertools.pairwise"].contains n=false)
  (W:∀ A:Around,A.handled=none->Walks P w A it [it] [it] x.cps.size (SignAt x) (λi h=>h.IsStrIter it n x t i))
  (self:∀ (A:Around) (i:Nat) (s:Shared) (Q:Value->Shared->Prop) (E:Value->Shared->Prop),s.heap.IsStrIter it n x t i->Q (.ref it) s->wpAny (model P w) A (pyIter (.ref it)) Q E s) :
  j2 P w K tg (Its x) [it] it (λi h=>h.IsStrIter it n x t i) where
 mem:=by simp
 obj:=λi h st b hb=>by
  have e:b=it:=by simpa using hb
  subst e
  obtain ⟨o,e,c,d⟩:=st
  exact ⟨o,e,λv z=>by rw [d] at z;cases z⟩
 keep:=λi h h' st k=>by
  obtain ⟨o,e,r⟩:=st
  exact ⟨o,k it (by simp) o e,r⟩
 item:=by
  intro X hP hw hK hc i pins s σ H E I hf st hg
  subst hP hw hK
  obtain ⟨f0,f1,f2,f3,f4,f5⟩:=hf it (by simp)
  refine (W X.A (I.ok.hd hc)).item i s _ _ hg st λv h' tk hv st' kk=>?_
  obtain ⟨c,u,hx,rfl⟩:=hv
  have I1:Inv X pins σ H { s with heap:=h',toks:=tk }:=I.turned (λb o hb e=>kk b o (by simpa using hb) e) f0 f1 f3 f4 f5
  obtain ⟨o,e,cc,d⟩:=id st'
  exact ⟨_,rfl,pf (s:={ s with heap:=h',toks:=tk }) e cc d hn ⟨.str ⟨#[c]⟩,H,I1,⟨u,rfl⟩,⟨rfl,c,hx,rfl⟩,st',λb hb=>(hf b hb).1⟩⟩
 done:=by
  intro X hP hw hK hc i pins s σ H E I hf st hg
  subst hP hw hK
  obtain ⟨f0,f1,f2,f3,f4,f5⟩:=hf it (by simp)
  have hg':i=x.cps.size:=hg
  subst hg'
  exact (W X.A (I.ok.hd hc)).done s _ _ st λh' tk eb=>⟨rfl,I.turned (λb o hb e=>eb b o (by simpa using hb) e) f0 f1 f3 f4 f5⟩
 self:=self
variable {tg:Expr}
def B6 (tl:TE):TI:=λσ H R=>tl σ H λv H1=>∃ x,v=.str x/\R (Its x) H1
theorem Bp {l:Expr} {tl:TE} (hl:PE X l tl):PI X tg l (B6 tl):=by
 intro pins s σ H R I h
 refine thn (hl pins s σ H _ I h) λv s1 ⟨xv,H1,I1,r1,q1⟩=>?_
 obtain ⟨x,e,q⟩:=q1
 subst e
 obtain ⟨t,rfl⟩:=r1
 have fin:∀ (o:Obj) (n:String),j2 X.prog X.w X.K tg (Its x) [s1.heap.objs.size] s1.heap.objs.size (λi h=>h.IsStrIter s1.heap.objs.size n x t i)->(s1.heap.push o).IsStrIter s1.heap.objs.size n x t 0->PIE X pins σ tg R (.ref s1.heap.objs.size) { s1 with heap:=s1.heap.push o }:=by
  intro o n T st
  refine ⟨s1.heap.objs.size,[s1.heap.objs.size],_,_,H1,rfl,I1.kept (t':=s1.toks) λb o e=>Heap.get?_push_of_some _ e,T,st,λb hb=>?_,q⟩
  have e:b=s1.heap.objs.size:=by simpa using hb
  subst e
  exact I1.fpOk (Nat.le_refl _) (I1.hok.fresh (Nat.le_refl _))
 cases ha:x.cps.all (· < 128)
 ·exact wpAny_pyIter_wide ha (fin _ "str_iterator" (m7 (by decide) (λA hA=>Walks.strWide hA _ x t) λA i s Q E st q=>wpAny_pyIter_striter_wide st q) ⟨_,Heap.get?_push_size _ rfl,rfl,rfl⟩)
 ·exact wpAny_pyIter_ascii ha (fin _ "str_ascii_iterator" (m7 (by decide) (λA hA=>Walks.strAscii hA _ x t) λA i s Q E st q=>wpAny_pyIter_striter_ascii st q) ⟨_,Heap.get?_push_size _ rfl,rfl,rfl⟩)
theorem pP:OpR X (compareOp .NotIn) (λx y H Q=>∃ k a T,x=.str k/\y=.ref a/\gA X.K a T/\Q (.bl (!KTD.inKeys k T)) H):=by
 intro pins s σ H x y v u Q I rx ry h
 obtain ⟨k,a,T,ex,ey,t,q⟩:=h
 subst ex ey
 obtain ⟨tk,rfl⟩:=rx
 cases ry
 exact KTD.notin_text (h₀:=s.heap) ⟨t _ I.kIn,λ_ _ e=>e⟩ ⟨.bl _,H,I.tok _,rfl,q⟩
def tM (K:PySem.W.Frag):R2:=λx y H Q=>∃ a k T z,x=.ref a/\y=.str k/\gA K a T/\(T.all λp=>KTD.plain p.2)=true/\KTD.datumAt k T=some (.flat (.str z))/\Q (.str z) H
theorem yL:IxR X (tM X.K):=by
 intro value slice pins s σ H x y v u Q I rx ry h hs
 obtain ⟨a,k,T,z,ex,ey,t,hp,hd,q⟩:=h
 subst ex ey
 obtain ⟨tk,rfl⟩:=ry
 cases rx
 have hm:KTD.inKeys k T=true:=by rw [← KTD.isSome_datumAt,hd];rfl
 refine KTD.item_textA (h₀:=s.heap) ⟨t _ I.kIn,λ_ _ e=>e⟩ hp hm ?_ hs
 exact each T hd λt'=>⟨.str z,H,I.tok _,⟨t',rfl⟩,q⟩
where
 each {h:Heap} {k:Str} {P:Value->Prop} {z:Str}:∀ (T:List (Str × KTD.Dat)),KTD.datumAt k T=some (.flat (.str z))->(∀ t,P (.str z t))->KTD.EachL h k P T
  | [],hd,_=>by simp [KTD.datumAt] at hd
  | (x,d)::T,hd,hP=>by
   have hd':(if decide (k=x)=true then some d else KTD.datumAt k T)=some (.flat (.str z)):=hd
   by_cases hx:k=x
   ·rw [if_pos (decide_eq_true hx)] at hd'
    cases hd'
    exact KTD.eachL_hit hx (KTD.opened_str hP)
   ·rw [if_neg (by simp [hx])] at hd'
    exact KTD.eachL_miss hx (each T hd' hP)
def tV (K:PySem.W.Frag) (td ty tx:TE):TE:=λσ H Q=>td σ H λx H1=>∃ a T,x=.ref a/\gA K a T/\ty σ H1 λy H2=>tx σ H2 λz H3=>∃ k i,y=.str k/\z=.int i/\(∀ p ∈ T,∃ j,p.2=.flat (.int j)) /\
 Q (.int (match KTD.datumAt k T with | some (.flat (.int j))=>j | _=>i)) H3
theorem mQ {o e f:Expr} {apos cpos:Pos} {td ty tx:TE} (ho:PE X o td) (he:PE X e ty) (hf:PE X f tx) (m:M2 X o "get" apos e f cpos):PE X (.Call (.Attribute o "get" apos) [e,f] [] cpos) (tV X.K td ty tx):=by
 intro pins s σ H Q I h
 refine wpAny_Call_method m.base m.few m.line PySem.F.plainAttrs_dict PySem.F.slot_dict_get PySem.F.type_dict_get (thn (ho pins s σ H _ I h) λu s1 ⟨x,H1,I1,rx,a,T,ex,tk,q1⟩=>?_)
 subst ex
 obtain rfl:u=Value.ref a:=rx
 have t1:=tk _ I1.kIn
 obtain ⟨lo,ob,es,ep,hob,hex,hdat,hrows⟩:=id t1
 refine ⟨⟨ob,hob,hex.1⟩,λb eb=>?_,?_⟩
 ·cases eb
  exact ⟨ob,hob,hex.2.1⟩
 rw [m.trees]
 refine Calls.callWith_builtin rfl (Calls.evalArgs_plain (Calls.spliced_cons (thn (he pins s1 σ H1 _ I1 q1) λiv s2 ⟨y,H2,I2,ry,q2⟩ =>
  Calls.spliced_cons (thn (hf pins s2 σ H2 _ I2 q2) λfv s3 ⟨z,H3,I3,rz,k,i,ey,ez,hT,q3⟩=>Calls.spliced_nil ?_))))
 subst ey ez
 obtain ⟨tok1,rfl⟩:=ry
 obtain ⟨tok2,rfl⟩:=rz
 refine KTD.get2_text (h₀:=s3.heap) ⟨tk _ I3.kIn,λ_ _ e=>e⟩ ?_
 have fin:∀ (D:List (Str × KTD.Dat)),(∀ p ∈ D,∃ j,p.2=.flat (.int j))->Q (.int (match KTD.datumAt k D with | some (.flat (.int j))=>j | _=>i)) H3 ->
   KTD.Each s3.heap k (λv=>EP X pins σ Q v { s3 with toks:=s3.toks+1 }) (EP X pins σ Q (.int i tok2) { s3 with toks:=s3.toks+1 }) D:=by
  intro D
  induction D with
  | nil=>intro _ q;exact KTD.each_nil ⟨.int i,H3,I3.tok _,⟨_,rfl⟩,q⟩
  | cons p D ih =>
   intro hD q
   obtain ⟨x,d⟩:=p
   obtain ⟨j,ej⟩:=hD (x,d) List.mem_cons_self
   have ej':d=.flat (.int j):=ej
   subst ej'
   have ed:KTD.datumAt k ((x,KTD.Dat.flat (.int j))::D)=if decide (k=x)=true then some (.flat (.int j)) else KTD.datumAt k D:=rfl
   rw [ed] at q
   by_cases hx:k=x
   ·rw [if_pos (decide_eq_true hx)] at q
    exact KTD.each_hit hx (KTD.opened_int λt=>⟨.int j,H3,I3.tok _,⟨t,rfl⟩,q⟩)
   ·rw [if_neg (by simp [hx])] at q
    exact KTD.each_miss hx (ih (λp hp=>hD p (List.mem_cons_of_mem _ hp)) q)
 exact fin T hT q3
end
structure vi (P:Program) (w:World) (K:PySem.W.Frag) (a:Addr) (ks:List Str):Prop where
 lk:∃ o,K.lookup a=some o
 tb:∀ h:Heap,K.In h->∃ D,StrTab P w h a D/\D.map (·.1)=ks.map PyData.str
def Itk (ks:List Str):It:=⟨λi _=>i < ks.length,λi H v H'=>H'=H/\∃ k,ks[i]?=some k/\v=.str k,λi _=>i=ks.length⟩
variable {kvs:List (Str × Value)}
theorem uh {D:List (PyData × PyData)} {ks:List Str} (h:PyProof.V.FlatPairs PyData.str kvs D) (e:D.map (·.1)=ks.map PyData.str):kvs.map (·.1)=ks:=by
 induction h generalizing ks with
 | nil =>
  cases ks with
  | nil=>rfl
  | cons k ks=>simp at e
 | cons _ _ ih =>
  cases ks with
  | nil=>simp at e
  | cons k ks =>
   simp only [List.map_cons,List.cons.injEq] at e
   obtain ⟨e1,e2⟩:=e
   injection e1 with e1
   rw [List.map_cons,ih e2,← e1]
theorem xU {tg:Expr} {it d:Addr} {ep:Nat} (hD:∀ h:Heap,K.In h->h.DictAt (strKind P w) d kvs ep) :
  j2 P w K tg (Itk (kvs.map (·.1))) [it] it (λi h=>h.IsKeyIter it d i kvs.length ep) where
 mem:=by simp
 obj:=λi h st b hb=>by
  have e:b=it:=by simpa using hb
  subst e
  obtain ⟨o,e,c,d⟩:=st
  exact ⟨o,e,λv z=>by rw [d] at z;cases z⟩
 keep:=λi h h' st k=>by
  obtain ⟨o,e,r⟩:=st
  exact ⟨o,k it (by simp) o e,r⟩
 item:=by
  intro X hP hw hK hc i pins s σ H E I hf st hg
  subst hP hw hK
  obtain ⟨f0,f1,f2,f3,f4,f5⟩:=hf it (by simp)
  have hi:i < kvs.length:=by have z:i < (kvs.map (·.1)).length:=hg;simpa using z
  refine wpAny_pyNext_dict_item st (hD _ I.kIn) (List.getElem?_eq_getElem hi) λkey h' hk st' sb=>?_
  obtain ⟨t,rfl⟩:=Value.isStrOf_shape hk
  have I1:Inv X pins σ H { s with heap:=h' }:=I.turned (t':=s.toks) (λb o hb e=>(sb.2 b hb).trans e) f0 f1 f3 f4 f5
  refine ⟨_,rfl,PyProof.Rows.letGo_keyiter (s':={ s with heap:=h' }) st' ⟨.str (kvs[i]).1,H,I1,⟨t,rfl⟩,⟨rfl,(kvs[i]).1,?_,rfl⟩,st',λb hb=>(hf b hb).1⟩⟩
  rw [List.getElem?_map,List.getElem?_eq_getElem hi]
  rfl
 done:=by
  intro X hP hw hK hc i pins s σ H E I hf st hg
  subst hP hw hK
  obtain ⟨f0,f1,f2,f3,f4,f5⟩:=hf it (by simp)
  have hi:i=kvs.length:=by have z:i=(kvs.map (·.1)).length:=hg;simpa using z
  exact wpAny_pyNext_dict_end (I.ok.hd hc) st (hD _ I.kIn) (by simp [hi]) λh' eb=>⟨rfl,I.turned (t':=s.toks) (λb o hb e=>eb b o hb e) f0 f1 f3 f4 f5⟩
 self:=λA i s Q E st q=>wpAny_pyIter_keyiter st q
section
variable {X:Cx} {tg:Expr}
def B7 (P:Program) (w:World) (K:PySem.W.Frag) (tl:TE):TI:=λσ H R=>tl σ H λv H1=>∃ a ks,v=.ref a/\vi P w K a ks/\R (Itk ks) H1
theorem Bq {l:Expr} {tl:TE} (hl:PE X l tl):PI X tg l (B7 X.prog X.w X.K tl):=by
 intro pins s σ H R I h
 refine thn (hl pins s σ H _ I h) λv s1 ⟨xv,H1,I1,r1,q1⟩=>?_
 obtain ⟨a,ks,e,hK,q⟩:=q1
 subst e
 cases r1
 obtain ⟨D,T,hD⟩:=hK.tb _ I1.kIn
 obtain ⟨o,ho⟩:=hK.lk
 obtain ⟨lo,kvs,hdo,hf⟩:=T
 obtain ⟨ep,hat⟩:=hdo.dictAt
 have ek:=uh hf hD
 subst ek
 have hall:∀ h:Heap,X.K.In h->h.DictAt (strKind X.prog X.w) a kvs ep:=λh x=>by
  obtain ⟨o',es,e1,r⟩:=hat
  have z:=I1.kIn _ _ ho
  rw [e1] at z
  cases z
  exact ⟨_,es,x _ _ ho,r⟩
 refine wpAny_pyIter_dict lo hat ?_
 refine ⟨s1.heap.objs.size,[s1.heap.objs.size],_,_,H1,rfl,I1.kept (t':=s1.toks) λb o e=>Heap.get?_push_of_some _ e,xU hall,⟨_,Heap.get?_push_size _ rfl,rfl,rfl⟩,λb hb=>?_,q⟩
 have e:b=s1.heap.objs.size:=by simpa using hb
 subst e
 exact I1.fpOk (Nat.le_refl _) (I1.hok.fresh (Nat.le_refl _))
end
def RC (K:PySem.W.Frag) (t:TE) (σ:St) (H:Hp) (es:List D):Prop:=∀ H1,Same H H1->∀ Q:VK,(∀ l ys H',H1 l=none->Same H1 H'->H' l=some (.lst ys)->Dats K H' es ys->Q (.ref l) H')->t σ H1 Q
section
variable {K:PySem.W.Frag} {σ:St} {H H':Hp} {d d':D} {ds es:List D} {t u ta tb te tl:TE} {tt uu:TT} {tA:TA} {i j:Int} {b c:Bool} {mk:St->St} {jj:Nat}
theorem RC.mono (h:RC K t σ H es) (e:Same H H'):RC K t σ H' es:=λH1 s Q q=>h H1 (e.trans s) Q q
theorem RC.as (h:RC K t σ H es) (e:es=ds):RC K t σ H ds:=e ▸ h
theorem RC.use {Q:VK} (h:RC K t σ H es) (q:∀ l ys H',H l=none->Same H H'->H' l=some (.lst ys)->Dats K H' es ys->Q (.ref l) H'):t σ H Q:=h H (Same.refl H) Q q
theorem iJ (h:RA K tA σ H es) (hl:es.length≤1000:=by simp):RC K (uW tA) σ H es:=λH1 s Q q =>
 gT (h.mono s) (λp vs H2 s2 hp hd=>q p vs _ (s2.free hp) (s2.trans (aC hp _)) av ((aC hp _).dats hd)) hl
variable {cs:List D}
theorem rL (h:RE K tl σ H (.tup cs)) (hc:cs.length≤1000) (es:List D) (hl:es.length=cs.length) (h0:(mk σ).set jj none=mk σ)
  (turn:∀ H1 (i:Nat) c v d,Same H H1->cs[i]?=some c->es[i]?=some d->Dat K H1 c v->RE K te ((mk σ).set jj (some v)) H1 d):RC K (gw (wA K tl) mk (bC jj) fG te) σ H es:=λH1 s Q q =>
 mR (K:=K) (h.mono s) hc es hl h0 (λH2 i c v d s2=>turn H2 i c v d (s.trans s2)) (λl ys H2 hl s2 hy hd=>q l ys H2 hl s2 hy hd)
variable {x:Str}
theorem BA (h:RE K tl σ H (.str x)) (hc:x.cps.size≤1000) (es:List D) (hl:es.length=x.cps.size) (h0:(mk σ).set jj none=mk σ)
  (turn:∀ H1 (i:Nat) c d,Same H H1->x.cps[i]?=some c->es[i]?=some d->RE K te ((mk σ).set jj (some (.str ⟨#[c]⟩))) H1 d):RC K (gw (B6 tl) mk (bC jj) fG te) σ H es:=λH1 s Q q=>by
 refine (h.mono s).use λv4 H4 s4 q4=>?_
 have e:=q4.strE
 subst e
 refine ⟨x,rfl,?_⟩
 refine fL (K:=K) (Q:=Q) (n:=x.cps.size) (item:=λi=>.str ⟨#[x.cps.getD i 0]⟩) (λi H' s hi=>⟨hi,λv H'' y=>⟨y.1,?_⟩⟩) (λH' s=>rfl) h0 es hl hc (λi d hi=>?_) (λl ys H5 hl5 s5=>q l ys H5 (s4.free hl5) (s4.trans s5))
 ·obtain ⟨_,c,hc,e⟩:=y
  rw [e,Array.getD_eq_getD_getElem?,hc]
  rfl
 ·have hi':i < es.length:=(List.getElem?_eq_some_iff.mp hi).1
  have hc:x.cps[i]?=some (x.cps.getD i 0):=by
   rw [Array.getD_eq_getD_getElem?,Array.getElem?_eq_getElem (by omega)]
   rfl
  exact turn H4 i _ d (s.trans s4) hc hi
variable {a:Addr}
theorem BB {P:Program} {w:World} {ks:List Str} (hK:vi P w K a ks) (hc:ks.length≤1000) (es:List D) (hl:es.length=ks.length) (h0:(mk σ).set jj none=mk σ)
  (turn:∀ H1 (i:Nat) k d,Same H H1->ks[i]?=some k->es[i]?=some d->RE K te ((mk σ).set jj (some (.str k))) H1 d):RC K (gw (B7 P w K (tC (.ref a))) mk (bC jj) fG te) σ H es:=λH1 s Q q=>by
 refine ⟨a,ks,rfl,hK,?_⟩
 refine fL (K:=K) (Q:=Q) (n:=ks.length) (item:=λi=>.str (ks.getD i "")) (λi H' s hi=>⟨hi,λv H'' y=>⟨y.1,?_⟩⟩) (λH' s=>rfl) h0 es hl hc (λi d hi=>?_) q
 ·obtain ⟨_,k,hk,e⟩:=y
  rw [e,List.getD_eq_getElem?_getD,hk]
  rfl
 ·have hi':i < es.length:=(List.getElem?_eq_some_iff.mp hi).1
  have hk:ks[i]?=some (ks.getD i ""):=by
   rw [List.getD_eq_getElem?_getD,List.getElem?_eq_getElem (by omega)]
   rfl
  exact turn H1 i _ d s hk hi
theorem zy (h:RC K tl σ H cs) (hc:cs.length≤1000) (es:List D) (hl:es.length=cs.length) (h0:(mk σ).set jj none=mk σ)
  (turn:∀ H1 (i:Nat) c v d,Same H H1->cs[i]?=some c->es[i]?=some d->Dat K H1 c v->RE K te ((mk σ).set jj (some v)) H1 d):RC K (gw (kK K tl) mk (bC jj) fG te) σ H es:=λH1 s Q q=>by
 refine (h.mono s).use λl4 ys4 H4 hl4 s4 hy4 hd4=>?_
 have ll:=hd4.length
 refine ⟨l4,rfl,⟨ys4,SqL.of hy4⟩,?_⟩
 refine fL (K:=K) (Q:=Q) (n:=ys4.length) (item:=λi=>ys4.getD i .non) (λi H' s hi=>qN i H' (SqL.of (s _ _ hy4)) hi) (λH' s=>⟨ys4,SqL.of (s _ _ hy4),Nat.le_refl _⟩) h0 es (by omega) (by omega) (λi d hi=>?_) (λl ys H5 hl5 s5=>q l ys H5 (s4.free hl5) (s4.trans s5))
 have hi':i < es.length:=(List.getElem?_eq_some_iff.mp hi).1
 have hic:i < cs.length:=by omega
 obtain ⟨vz,ez,hz⟩:=hd4.get (List.getElem?_eq_getElem hic)
 have q:=turn H4 i cs[i] vz d (s.trans s4) (List.getElem?_eq_getElem hic) hi hz
 rw [List.getD_eq_getElem?_getD,ez]
 exact q
theorem hE {R:List D->List D->Prop} {E:XK} (h:RA K tA σ H ds) (e:R ds es):RC K (fV (mr K R) [] E tA) σ H es:=λH1 s Q q =>
 h H1 s _ λvs H2 s2 q2=>⟨ds,es,by rw [List.append_nil];exact q2,e,λr us H3 s3 hr hr0 hd=>q r us H3 (s2.free hr0) (s2.trans s3) hr hd⟩
theorem kl {bs:List Bool} (h:RC K t σ H (bs.map D.bl)):RE K (tCB (λxs H Q=>∃ (l:Addr) (bs:List Bool),xs=[.ref l]/\SqL K H l (bs.map V.bl)/\Q (.bl (bs.all id)) H) (bj t ck)) σ H (.bl (bs.all id)):=λH1 s Q q =>
 iw ((h.mono s).use λl ys H' _ s' hy hd=>⟨l,bs,rfl,by rw [← o5 hd];exact SqL.of hy,q _ _ s' (Dat.blI _)⟩)
theorem mU (h:RC K t σ H es):RE K (tCB (λxs H Q=>∃ p ys,xs=[.ref p]/\((SqL K H p ys/\∀ l,H l=none->Q (.ref l) (upd H l (.tup ys)))\/(SqT K H p ys/\Q (.ref p) H))) (bj t ck)) σ H (.tup es):=λH1 s Q q =>
 iw ((h.mono s).use λl ys H' _ s' hy hd=>⟨l,ys,rfl,.inl ⟨SqL.of hy,λp hp=>q _ _ (s'.trans (aC hp _)) (Dat.tupI (SqT.of av) ((aC hp _).dats hd))⟩⟩)
theorem mV (h:RE K t σ H (.tup es)):RE K (tCB (λxs H Q=>∃ p ys,xs=[.ref p]/\((SqL K H p ys/\∀ l,H l=none->Q (.ref l) (upd H l (.tup ys)))\/(SqT K H p ys/\Q (.ref p) H))) (bj t ck)) σ H (.tup es):=λH1 s Q q =>
 iw ((h.mono s).use λv H' s' hd=>by
  obtain ⟨a,vs,e,hq,hds⟩:=hd.tupE
  subst e
  exact ⟨a,vs,rfl,.inr ⟨hq,q _ _ s' (Dat.tupI hq hds)⟩⟩)
theorem zE (h:RC K t σ H es):RE K (tCB (λxs H Q=>∃ p ys,xs=[.ref p]/\(SqL K H p ys\/SqT K H p ys)/\Q (.int ys.length) H) (bj t ck)) σ H (.int es.length):=λH1 s Q q =>
 iw ((h.mono s).use λl ys H' _ s' hy hd=>⟨l,ys,rfl,.inl (SqL.of hy),by rw [← hd.length];exact q _ _ s' (Dat.intI _)⟩)
theorem zF (h:RE K t σ H (.str x)) (hx:x.length≤sizeLine):RE K (tCB (λxs H Q=>∃ z:Str,xs=[.str z]/\z.length≤sizeLine/\Q (.int z.length) H) (bj t ck)) σ H (.int x.length):=λH1 s Q q =>
 iw ((h.mono s).use λv H' s' hd=>by
  rw [hd.strE]
  exact ⟨x,rfl,hx,q _ _ s' (Dat.intI _)⟩)
theorem ji {us:TS} {En:Ends} {k:Nat} (h:RC K t σ H es) (q:∀ l ys H',H l=none->Same H H'->H' l=some (.lst ys)->Dats K H' es ys->us En (σ.set k (some (.ref l))) H'):iL (jn t (bC k)) us En σ H:=h.use q
variable {z:Str}
theorem uM {tc:TE} {y:Str} {p q':Str->Str->Bool} (h1:RE K ta σ H (.str x)) (h2:RE K tb σ H (.str y)) (h3:p x y=true->RE K tc σ H (.str z)) :
  RE K (oC (λu v H Q=>∃ i j:Str,u=.str i/\v=.str j/\Q (.bl (p i j)) H) (λu v H Q=>∃ i j:Str,u=.str i/\v=.str j/\Q (.bl (q' i j)) H) ta tb tc) σ H (.bl (p x y && q' y z)):=λH1 s Q q =>
 h1 H1 s _ λv H2 s2 q2=>h2 H2 (s.trans s2) _ λw H3 s3 q3=>by
  refine ⟨x,y,q2.strE,q3.strE,p x y,rfl,?_⟩
  cases hp:p x y with
  | true =>
   simp only [if_true,Bool.true_and]
   exact h3 hp H3 (s.trans (s2.trans s3)) _ λz' H4 s4 q4=>⟨y,z,q3.strE,q4.strE,q _ _ (s2.trans (s3.trans s4)) (by rw [hp];exact Dat.blI _)⟩
  | false =>
   simp only [Bool.false_eq_true,if_false,Bool.false_and]
   exact q _ _ (s2.trans s3) (by rw [hp];exact Dat.blI _)
variable {k:Str} {T:List (Str × KTD.Dat)}
theorem p4 (h:RE K t σ H (.str k)) (ht:gA K a T):RE K (tOp (λx y H Q=>∃ k a T,x=.str k/\y=.ref a/\gA K a T/\Q (.bl (!KTD.inKeys k T)) H) t (tC (.ref a))) σ H (.bl (!KTD.inKeys k T)):=λH1 s Q q =>
 h H1 s _ λv H2 s2 q2=>⟨k,a,T,q2.strE,rfl,ht,q _ _ s2 (Dat.blI _)⟩
theorem uN (h:RE K t σ H (.str k)) (ht:gA K a T) (hp:(T.all λp=>KTD.plain p.2)=true) (e:KTD.datumAt k T=some (.flat (.str z))):RE K (tOp (tM K) (tC (.ref a)) t) σ H (.str z):=λH1 s Q q =>
 h H1 s _ λv H2 s2 q2=>⟨a,k,T,z,rfl,q2.strE,ht,hp,e,q _ _ s2 (Dat.strI _)⟩
def jQ (k:Str) (T:List (Str × KTD.Dat)) (i:Int):Int:=match KTD.datumAt k T with | some (.flat (.int j))=>j | _=>i
theorem mT (ht:gA K a T) (h1:RE K ta σ H (.str k)) (h2:RE K tb σ H (.int i)) (hT:∀ p ∈ T,∃ j,p.2=.flat (.int j)):RE K (tV K (tC (.ref a)) ta tb) σ H (.int (jQ k T i)):=λH1 s Q q =>
 ⟨a,T,rfl,ht,h1 H1 s _ λv H2 s2 q2=>h2 H2 (s.trans s2) _ λw H3 s3 q3=>⟨k,i,(s3.dat q2).strE,q3.intE,hT,q _ _ (s2.trans s3) (Dat.intI _)⟩⟩
theorem sP {vs:List V} {lo hi:Nat}:me vs (some (lo:Int)) (some (hi:Int))=(vs.drop lo).take (hi - lo):=by
 unfold me
 rw [HT.sIx_nat,HT.sIx_nat]
 apply List.ext_getElem?
 intro i
 simp only [List.getElem?_take,List.getElem?_drop]
 by_cases h1:i < hi - lo
 ·rw [if_pos h1]
  by_cases h2:i < min hi vs.length - min lo vs.length
  ·rw [if_pos h2]
   congr 1
   omega
  ·rw [if_neg h2,List.getElem?_eq_none (by omega)]
 ·rw [if_neg h1,if_neg (by omega)]
theorem Dats.dropN:∀ {n:Nat} {ds:List D} {vs:List V},Dats K H ds vs->Dats K H (ds.drop n) (vs.drop n)
 | 0,_,_,h=>h
 | n+1,[],_,h=>by rw [h.nilE];exact Dats.nil
 | n+1,d::ds,_,h=>by
  obtain ⟨v,r,e,h1,h2⟩:=h.consE
  subst e
  exact Dats.dropN (n:=n) h2
theorem Dats.takeN:∀ {n:Nat} {ds:List D} {vs:List V},Dats K H ds vs->Dats K H (ds.take n) (vs.take n)
 | 0,_,_,h=>by rw [List.take_zero,List.take_zero];exact Dats.nil
 | n+1,[],_,h=>by rw [h.nilE];exact Dats.nil
 | n+1,d::ds,_,h=>by
  obtain ⟨v,r,e,h1,h2⟩:=h.consE
  subst e
  exact Dats.cons h1 (Dats.takeN (n:=n) h2)
end
mutual
def dP (K:PySem.W.Frag):D->Value->Bool
 | .non,u=>(match u with | .none=>true | _=>false)
 | .bl b,u=>(match u with | .bool c=>b == c | _=>false)
 | .int i,u=>(match u with | .int j _=>i == j | _=>false)
 | .str x,u=>(match u with | .str y _=>x == y | _=>false)
 | .tup ds,u=>(match u with | .ref a=>(match K.lookup a with | some ⟨.type "tuple",_,.seq its _,_⟩=>decide (its.size≤1000) && datsOk K ds its.toList | _=>false) | _=>false)
 | .lst,_=>false
def datsOk (K:PySem.W.Frag):List D->List Value->Bool
 | [],us=>us.isEmpty
 | d::ds,us=>(match us with | u::r=>dP K d u && datsOk K ds r | []=>false)
end
mutual
variable {K:PySem.W.Frag}
theorem jT (H:Hp):∀ (d:D) (u:Value),dP K d u=true->∃ v,RelV v u/\Dat K H d v
 | .non,u,h=>by
  unfold dP at h
  cases u <;> first | (exact ⟨.non,rfl,Dat.nonI⟩) | cases h
 | .bl b,u,h=>by
  unfold dP at h
  cases u <;> first | cases h | skip
  rename_i c
  have e:b=c:=by simpa using h
  subst e
  exact ⟨.bl b,rfl,Dat.blI _⟩
 | .int i,u,h=>by
  unfold dP at h
  cases u <;> first | cases h | skip
  rename_i j t
  have e:i=j:=by simpa using h
  subst e
  exact ⟨.int i,⟨t,rfl⟩,Dat.intI _⟩
 | .str x,u,h=>by
  unfold dP at h
  cases u <;> first | cases h | skip
  rename_i y t
  have e:x=y:=by simpa using h
  subst e
  exact ⟨.str x,⟨t,rfl⟩,Dat.strI _⟩
 | .tup ds,u,h=>by
  unfold dP at h
  cases u <;> first | cases h | skip
  rename_i a
  dsimp only at h
  split at h
  ·rename_i od its n sl e
   rw [Bool.and_eq_true] at h
   obtain ⟨vs,r,hd⟩:=datsOk_sound H ds its.toList h.2
   refine ⟨.ref a,rfl,Dat.tupI (.inr ⟨_,its,n,e,rfl,rfl,?_,r⟩) hd⟩
   exact Nat.le_trans (of_decide_eq_true h.1) (by decide)
  ·cases h
 | .lst,u,h=>by unfold dP at h;cases h
theorem datsOk_sound (H:Hp):∀ (ds:List D) (us:List Value),datsOk K ds us=true->∃ vs,Vals vs us/\Dats K H ds vs
 | [],us,h=>by
  unfold datsOk at h
  cases us with
  | nil=>exact ⟨[],.nil,Dats.nil⟩
  | cons u r=>cases h
 | d::ds,us,h=>by
  unfold datsOk at h
  cases us with
  | nil=>cases h
  | cons u r =>
   dsimp only at h
   rw [Bool.and_eq_true] at h
   obtain ⟨v,r1,h1⟩:=jT H d u h.1
   obtain ⟨vs,r2,h2⟩:=datsOk_sound H ds r h.2
   exact ⟨v::vs,.cons r1 r2,Dats.cons h1 h2⟩
end
theorem CK (h:dP K (.tup ds) (.ref a)=true) (H:Hp):Dat K H (.tup ds) (.ref a):=by
 obtain ⟨v,r,hd⟩:=jT H _ _ h
 obtain ⟨b,vs,e,_⟩:=id hd.tupE
 subst e
 have z:Value.ref a=.ref b:=r
 cases z
 exact hd
theorem dZ (h:dP K (.tup ds) (.ref a)=true):RE K (tC (.ref a)) σ H (.tup ds):=λH1 _ Q q=>q _ _ (Same.refl _) (CK h H1)
section
variable {X:Cx}
theorem iS:gz X (.type "range") (λxs H Q=>∃ n:Nat,xs=[.int n]/\∀ p,H p=none->Q (.ref p) (upd H p (.rng 0 n))):=by
 intro pins s σ H xs us Q I r h
 obtain ⟨n,rfl,q⟩:=h
 obtain ⟨u,rfl,ru⟩:=fW r
 obtain ⟨t,rfl⟩:=ru
 refine call_range_1 ⟨.ref s.heap.objs.size,_,I.laid (λb o e=>Heap.get?_push_of_some _ e) (Nat.le_refl _) (show ObjOk X.prog X.w _ _ _ (.rng 0 n) from ⟨_,_,_,Heap.get?_push_size _ rfl⟩),rfl,q _ (I.hok.fresh (Nat.le_refl _))⟩
theorem xY {n:Nat} {acc:Array Value} (h:ItemsOf (λi v=>∃ t,v=.int ((0:Int)+(i:Nat) * 1) t) acc n):Vals ((List.range n).map λi:Nat=>V.int i) acc.toList:=by
 obtain ⟨hs,hi⟩:=h
 have all:∀ (l:List Value) (k:Nat),(∀ (j:Nat) (v:Value),l[j]?=some v->∃ t,v=Value.int ((0:Int)+((k+j:Nat):Int) * 1) t)->Vals ((List.range' k l.length).map λi:Nat=>V.int i) l:=by
  intro l
  induction l with
  | nil=>intro k _;exact .nil
  | cons u l ih =>
   intro k hj
   rw [List.length_cons,List.range'_succ,List.map_cons]
   refine .cons ?_ (ih (k+1) λj v e=>?_)
   ·obtain ⟨t,e⟩:=hj 0 u rfl
    refine ⟨t,?_⟩
    rw [e]
    congr 1
    simp
   ·obtain ⟨t,e'⟩:=hj (j+1) v (by simpa using e)
    refine ⟨t,?_⟩
    rw [e']
    congr 1
    have:k+(j+1)=k+1+j:=by omega
    rw [this]
 have q:=all acc.toList 0 λj v e=>by
  rw [Nat.zero_add]
  exact hi j v (by simpa using e)
 rw [List.range_eq_range']
 rw [Array.length_toList,hs] at q
 exact q
theorem ef (hc:X.calm=true):gz X (.type "list") (λxs H Q=>∃ (p:Addr) (n:Nat),xs=[.ref p]/\H p=some (.rng 0 n)/\n≤1000/\∀ l,H l=none->Q (.ref l) (upd H l (.lst ((List.range n).map λi:Nat=>V.int i)))):=by
 intro pins s σ H xs us Q I r h
 obtain ⟨p,n,rfl,hp,hn,q⟩:=h
 obtain ⟨u,rfl,rx⟩:=fW r
 cases rx
 obtain ⟨t,u,v,e⟩:=(show ObjOk X.prog X.w H s.heap p (.rng 0 n) from I.hok p _ hp)
 refine call_list_range (n:=n) (I.ok.hd hc) (show IsRange s.heap p 0 n 1 t u v from e) (small_one (by omega) (by omega) (by omega) (by omega)) ?_ (by omega) λh' tk acc' c' kp e' hacc=>?_
 ·rw [rangeSize_one]
  split <;> omega
 ·have hv:=xY hacc
  have hl:=hv.length
  refine ⟨.ref s.heap.objs.size,_,I.laid kp (Nat.le_refl _) (show ObjOk X.prog X.w _ h' _ (.lst _) from ⟨?_,acc'.toList,c',hv,by simpa using e'⟩),rfl,q _ (I.hok.fresh (Nat.le_refl _))⟩
  simp only [List.length_map,List.length_range]
  exact Nat.le_trans hn (by decide)
def BS (K:PySem.W.Frag) (a:Addr) (xs:List V):Prop:=∃ (its:Array Value) (n:Nat),K.lookup a=some ⟨.type "list",none,.seq its n,#[]⟩/\its.size≤1000/\Vals xs its.toList
def aLst (K:PySem.W.Frag) (H:Hp) (a:Addr) (xs:List V):Prop:=H a=some (.lst xs)\/BS K a xs
variable {H:Hp} {a:Addr} {xs:List V}
theorem aLst.sqL {K:PySem.W.Frag} (h:aLst K H a xs):SqL K H a xs:=by
 rcases h with h | ⟨its,n,e,hz,r⟩
 ·exact SqL.of h
 ·exact .inr ⟨_,its,n,e,rfl,rfl,rfl,Nat.le_trans hz (by decide),r⟩
theorem aLst.at {pins:List (Addr × Obj)} {σ:St} {s:Shared} (I:Inv X pins σ H s) (h:aLst X.K H a xs):∃ (its:List Value) (n:Nat),Vals xs its/\s.heap.get? a=some { cls:=.type "list",data:=.seq its.toArray n }:=by
 rcases h with h | ⟨its,n,e,hz,r⟩
 ·obtain ⟨z,its,n,r,hl,e⟩:=I.lstM h
  exact ⟨its,n,r,e⟩
 ·exact ⟨its.toList,n,r,by simpa using I.kIn _ _ e⟩
def Ao (K:PySem.W.Frag):R2:=λx y H Q=>∃ l b xs zs,x=.ref l/\y=.ref b/\aLst K H l xs/\aLst K H b zs/\xs.length+zs.length≤1000/\∀ p,H p=none->Q (.ref p) (upd H p (.lst (xs++zs)))
theorem za:OpR X (binaryOp .Add) (Ao X.K):=by
 intro pins s σ H x y v u Q I rx ry h
 obtain ⟨l,b,xs,zs,rfl,rfl,hH,hB,hz,q⟩:=h
 cases rx
 cases ry
 obtain ⟨its,n,r,e⟩:=hH.at I
 obtain ⟨its2,n2,r2,e2⟩:=hB.at I
 have l1:=r.length
 have l2:=r2.length
 have hz':xs.length+zs.length≤sizeLine:=Nat.le_trans hz (by decide)
 refine PySem.P.add_list e e2 ?_ (by rw [List.size_toArray,List.size_toArray];omega)
 have ea:its.toArray++its2.toArray=(its++its2).toArray:=by simp
 rw [ea]
 exact ⟨.ref _,_,I.lnew (t':=s.toks) (r.append r2) (by rw [List.length_append];omega),rfl,q _ I.fresh⟩
end
section
variable {K:PySem.W.Frag} {σ:St} {H:Hp} {t:TE} {n:Nat}
def kR (K:PySem.W.Frag) (ds:List D) (a:Addr):Bool:=match K.lookup a with
 | some ⟨.type "list",none,.seq its _,sl⟩=>decide (its.size≤1000) && (sl.isEmpty && datsOk K ds its.toList)
 | _=>false
theorem nL {K:PySem.W.Frag} {ds:List D} {a:Addr} (h:kR K ds a=true) (H:Hp):∃ vs,BS K a vs/\Dats K H ds vs:=by
 unfold kR at h
 split at h
 ·rename_i its n sl e
  rw [Bool.and_eq_true,Bool.and_eq_true] at h
  obtain ⟨vs,r,hd⟩:=datsOk_sound H ds its.toList h.2.2
  have es:sl=#[]:=by simpa using h.2.1
  subst es
  exact ⟨vs,⟨its,n,e,of_decide_eq_true h.1,r⟩,hd⟩
 ·cases h
theorem gg (h:RE K t σ H (.int n)) (hn:n≤1000):RC K (tCB (λxs H Q=>∃ (p:Addr) (n:Nat),xs=[.ref p]/\H p=some (.rng 0 n)/\n≤1000/\∀ l,H l=none->Q (.ref l) (upd H l (.lst ((List.range n).map λi:Nat=>V.int i))))
  (bj (tCB (λxs H Q=>∃ n:Nat,xs=[.int n]/\∀ p,H p=none->Q (.ref p) (upd H p (.rng 0 n))) (bj t ck)) ck)) σ H ((List.range n).map λi:Nat=>D.int i):=λH1 s Q q =>
 iw (iw ((h.mono s).use λv H2 s2 q2=>by
  rw [q2.intE]
  refine ⟨n,rfl,λp hp=>⟨p,n,rfl,av,hn,λl hl=>?_⟩⟩
  have s3:=s2.trans ((aC hp (.rng 0 n)).trans (aC hl (.lst ((List.range n).map λi:Nat=>V.int i))))
  refine q l _ _ ((s2.trans (aC hp _)).free hl) s3 av ?_
  have z:∀ m:List Nat,Dats K (upd (upd H2 p (.rng 0 n)) l (.lst ((List.range n).map λi:Nat=>V.int i))) (m.map λi:Nat=>D.int i) (m.map λi:Nat=>V.int i):=by
   intro m
   induction m with
   | nil=>exact Dats.nil
   | cons a m ih=>exact Dats.cons (Dat.intI _) ih
  exact z _))
end
section
variable {K:PySem.W.Frag} {l0 l1 l2:Addr} {H H' H2:Hp} {a b c a' b' c':List V} {v:V}
theorem tR {te:TE} {us:TS} {En:Ends} {σ:St} {G:Hp} {j:Nat} {l:Addr} {xs:List V} {d:D} (h:RE K te σ G d) (hl:G l=some (.lst xs)) (hx:xs.length≤900)
  (q:∀ y G',But l G G'->G' l=some (.lst (xs++[y]))->Dat K G' d y->us En σ G') (hv:σ[j]?=some (some (.ref l)):=by rfl):iL (qc (tBM K "list" kj (cx j) (bj te ck))) us En σ G:=by
 refine ⟨_,hv,.inl ⟨rfl,_,SqL.of hl⟩,h.use λy H1 s1 q1=>?_⟩
 have hl1:=s1 _ _ hl
 refine ⟨l,xs,y,rfl,rfl,hl1,d8 (by omega),?_⟩
 have b:But l H1 (upd H1 l (.lst (xs++[y]))):=But.upd (Same.refl _).but
 exact q y _ (s1.but.trans b) av (Dat.mono (b.grow hl1 av) _ q1)
end
section
variable {X:Cx}
variable {tg:Expr}
end
section
variable {X:Cx}
end
theorem Same.aLst (e:Same H H') (h:aLst K H a xs):aLst K H' a xs:=h.elim (λz=>.inl (e _ _ z)) .inr
def LD (K:PySem.W.Frag) (H:Hp) (ds:List D) (v:V):Prop:=∃ a vs,v=.ref a/\aLst K H a vs/\Dats K H ds vs
theorem Same.ld (e:Same H H') (h:LD K H ds v):LD K H' ds v:=by
 obtain ⟨a,vs,e1,h1,h2⟩:=h
 exact ⟨a,vs,e1,e.aLst h1,e.dats h2⟩
theorem LD.of (h:H a=some (.lst vs)) (hd:Dats K H ds vs):LD K H ds (.ref a):=⟨a,vs,rfl,.inl h,hd⟩
inductive Ar where
 | d (x:D)
 | l (ds:List D)
def ArI (K:PySem.W.Frag) (H:Hp):Ar->V->Prop
 | .d x,v=>Dat K H x v
 | .l ds,v=>LD K H ds v
inductive Ars (K:PySem.W.Frag) (H:Hp):List Ar->List V->Prop
 | nil:Ars K H [] []
 | cons {a v as vs}:ArI K H a v->Ars K H as vs->Ars K H (a::as) (v::vs)
theorem Same.ari {a:Ar} (e:Same H H') (h:ArI K H a v):ArI K H' a v:=by
 cases a with
 | d x=>exact e.dat h
 | l ds=>exact e.ld h
theorem Ars.length {as:List Ar} (h:Ars K H as vs):as.length=vs.length:=by
 induction h with
 | nil=>rfl
 | cons _ _ ih=>simp [ih]
theorem CH {a:Ar} (h:Ars K H [a] vs):∃ u,vs=[u]/\ArI K H a u:=by
 cases h with
 | cons h1 h2=>cases h2;exact ⟨_,rfl,h1⟩
theorem vC {a b:Ar} (h:Ars K H [a,b] vs):∃ u v,vs=[u,v]/\ArI K H a u/\ArI K H b v:=by
 cases h with
 | cons h1 h2=>obtain ⟨v,rfl,q⟩:=CH h2;exact ⟨_,v,rfl,h1,q⟩
def RL (K:PySem.W.Frag) (t:TE) (σ:St) (H:Hp) (ds:List D):Prop:=∀ H1,Same H H1->∀ Q:VK,(∀ v H',Same H1 H'->LD K H' ds v->Q v H')->t σ H1 Q
def RB (K:PySem.W.Frag) (t:TA) (σ:St) (H:Hp) (as:List Ar):Prop:=∀ H1,Same H H1->∀ Q:List V->Hp->Prop,(∀ vs H',Same H1 H'->Ars K H' as vs->Q vs H')->t σ H1 Q
section
variable {K:PySem.W.Frag} {σ:St} {H H':Hp} {d d':D} {ds es:List D} {t u ta tb te tl:TE} {tt uu:TT} {tA:TA} {i j:Int} {b c:Bool} {mk:St->St} {jj:Nat} {ar:List Ar}
theorem RL.mono (h:RL K t σ H es) (e:Same H H'):RL K t σ H' es:=λH1 s Q q=>h H1 (e.trans s) Q q
theorem RL.use {Q:VK} (h:RL K t σ H es) (q:∀ v H',Same H H'->LD K H' es v->Q v H'):t σ H Q:=h H (Same.refl H) Q q
theorem RB.use {Q:List V->Hp->Prop} (h:RB K tA σ H ar) (q:∀ vs H',Same H H'->Ars K H' ar vs->Q vs H'):tA σ H Q:=h H (Same.refl H) Q q
theorem xA:RB K ck σ H []:=λH1 _ Q q=>q _ _ (Same.refl _) .nil
theorem Bz (h:RE K t σ H d) (r:RB K tA σ H ar):RB K (bj t tA) σ H (.d d::ar):=λH1 s Q q =>
 h H1 s _ λv H2 s2 q2=>r H2 (s.trans s2) _ λvs H3 s3 q3=>q _ _ (s2.trans s3) (.cons (s3.ari (a:=.d d) q2) q3)
theorem CP (h:RL K t σ H ds) (r:RB K tA σ H ar):RB K (bj t tA) σ H (.l ds::ar):=λH1 s Q q =>
 h H1 s _ λv H2 s2 q2=>r H2 (s.trans s2) _ λvs H3 s3 q3=>q _ _ (s2.trans s3) (.cons (s3.ari (a:=.l ds) q2) q3)
variable {k:Nat} {v:V}
theorem dH (h:LD K H ds v) (e:σ[k]?=some (some v):=by rfl):RL K (cx k) σ H ds:=λH1 s Q q=>⟨v,e,q _ _ (Same.refl _) (s.ld h)⟩
theorem jZ (h:RC K t σ H es):RL K t σ H es:=λH1 s Q q=>h H1 s _ λl ys H' _ s' hy hd=>q _ _ s' (LD.of hy hd)
theorem oj {a:Addr} (h:kR K ds a=true):RL K (tC (.ref a)) σ H ds:=λH1 _ Q q=>by
 obtain ⟨vs,h1,h2⟩:=nL h H1
 exact q _ _ (Same.refl _) ⟨a,vs,rfl,.inr h1,h2⟩
theorem rM (h1:RL K ta σ H ds) (h2:RE K tb σ H (.int k)) (e:ds[k]?=some d):RE K (tOp (Bw K) ta tb) σ H d:=λH1 s Q q =>
 h1 H1 s _ λv H2 s2 q2=>h2 H2 (s.trans s2) _ λw H3 s3 q3=>by
  obtain ⟨a,vs,ev,hq,hd⟩:=s3.ld q2
  obtain ⟨x,ex,hx⟩:=hd.get e
  exact ⟨a,vs,k,x,ev,q3.intE,hq.sqL,fu ex,q _ _ (s2.trans s3) hx⟩
theorem fA (h:RL K t σ H es):RE K (tCB (λxs H Q=>∃ p ys,xs=[.ref p]/\(SqL K H p ys\/SqT K H p ys)/\Q (.int ys.length) H) (bj t ck)) σ H (.int es.length):=λH1 s Q q =>
 iw ((h.mono s).use λv H' s' hd=>by
  obtain ⟨l,ys,rfl,hy,hd⟩:=hd
  exact ⟨l,ys,rfl,.inl hy.sqL,by rw [← hd.length];exact q _ _ s' (Dat.intI _)⟩)
theorem o6:∀ {ns:List Int} {vs:List V},Dats K H (ns.map D.int) vs->vs=ns.map V.int
 | [],vs,h=>by rw [Dats.nilE h];rfl
 | n::ns,vs,h=>by
  obtain ⟨v,r,e,h1,h2⟩:=h.consE
  rw [e,h1.intE,o6 h2]
  rfl
def isN:D->Bool
 | .non=>true
 | _=>false
theorem yJ (h:Dat K H d v):decide (v=.non)=isN d:=by
 cases d with
 | non=>rw [h.nonE];rfl
 | bl b=>rw [h.blE];rfl
 | int i=>rw [h.intE];rfl
 | str x=>rw [h.strE];rfl
 | tup ds=>obtain ⟨a,vs,e,_⟩:=h.tupE;rw [e];rfl
 | lst=>obtain ⟨a,vs,e,_⟩:=h.lstE;rw [e];rfl
theorem BE (h:RE K ta σ H d):RE K (tOp (λx y H Q=>y=.non/\Q (.bl (decide (x=.non))) H) ta (tC .non)) σ H (.bl (isN d)):=λH1 s Q q =>
 h H1 s _ λv H2 s2 q2=>⟨rfl,by rw [yJ q2];exact q _ _ s2 (Dat.blI _)⟩
theorem xC {cs:List D} (h:RL K tl σ H cs) (hc:cs.length≤1000) (es:List D) (hl:es.length=cs.length) (h0:(mk σ).set jj none=mk σ)
  (turn:∀ H1 (i:Nat) c v d,Same H H1->cs[i]?=some c->es[i]?=some d->Dat K H1 c v->RE K te ((mk σ).set jj (some v)) H1 d):RC K (gw (kK K tl) mk (bC jj) fG te) σ H es:=λH1 s Q q=>by
 refine (h.mono s).use λv4 H4 s4 q4=>?_
 obtain ⟨l4,ys4,rfl,hy4,hd4⟩:=q4
 have ll:=hd4.length
 refine ⟨l4,rfl,⟨ys4,hy4.sqL⟩,?_⟩
 refine fL (K:=K) (Q:=Q) (n:=ys4.length) (item:=λi=>ys4.getD i .non) (λi H' s hi=>qN i H' (s.seq hy4.sqL) hi) (λH' s=>⟨ys4,s.seq hy4.sqL,Nat.le_refl _⟩) h0 es (by omega) (by omega) (λi d hi=>?_) (λl ys H5 hl5 s5=>q l ys H5 (s4.free hl5) (s4.trans s5))
 have hi':i < es.length:=(List.getElem?_eq_some_iff.mp hi).1
 have hic:i < cs.length:=by omega
 obtain ⟨vz,ez,hz⟩:=hd4.get (List.getElem?_eq_getElem hic)
 have q:=turn H4 i cs[i] vz d (s.trans s4) (List.getElem?_eq_getElem hic) hi hz
 rw [List.getD_eq_getElem?_getD,ez]
 exact q
theorem rH (h:RL K t σ H es):RC K (tCB (λxs H Q=>∃ p ys,xs=[.ref p]/\(SqL K H p ys\/SqT K H p ys)/\∀ l,H l=none->Q (.ref l) (upd H l (.lst ys))) (bj t ck)) σ H es:=λH1 s Q q =>
 iw ((h.mono s).use λv H' s' hd=>by
  obtain ⟨p,ys,rfl,hy,hd⟩:=hd
  exact ⟨p,ys,rfl,.inl hy.sqL,λl hl=>q l ys _ (s'.free hl) (s'.trans (aC hl _)) av ((aC hl _).dats hd)⟩)
theorem zx (h1:RL K ta σ H ds) (h2:RL K tb σ H es) (hl:ds.length+es.length≤1000):RC K (tOp (Ao K) ta tb) σ H (ds++es):=λH1 s Q q =>
 h1 H1 s _ λv H2 s2 q2=>h2 H2 (s.trans s2) _ λw H3 s3 q3=>by
  obtain ⟨a,xs,rfl,ha,da⟩:=s3.ld q2
  obtain ⟨b,ys,rfl,hb,db⟩:=q3
  have l1:=da.length
  have l2:=db.length
  exact ⟨a,b,xs,ys,rfl,rfl,ha,hb,by omega,λp hp=>q p _ _ ((s2.trans s3).free hp) (s2.trans (s3.trans (aC hp _))) av ((aC hp _).dats (Dats.append da db))⟩
end
section
variable {K:PySem.W.Frag} {σ:St} {H H':Hp} {d d':D} {ds es:List D} {t u ta tb te tl:TE}
end
section
variable {X:Cx}
end
section
variable {K:PySem.W.Frag} {σ:St} {H:Hp} {te:TE}
end
theorem oZ (Ok:Hp->Prop)
  (go:∀ i H',Ok H'->i < n->J.go i H'/\∀ x H'',J.yld i H' x H''->H''=H'/\x=item i) (stop:∀ H',Ok H'->J.stop n H') (h0:σ0.set j none=σ0)
  (D:Addr) (Pn:Nat->Hp->Prop) (p0:Pn 0 (upd H1 D (.lst []))) (ok:∀ i H',i≤n->Pn i H'->Ok H')
  (turn:∀ i H',i < n->Pn i H'->tt (σ0.set j (some (item i))) H' λb H3=>if b=true then te (σ0.set j (some (item i))) H3 λv H4=>∃ ys,H4 D=some (.lst ys)/\ys.length < sizeLine/\(∃ z,σ0.set j (some (item i))=σ0.set j z)/\Pn (i+1) (upd H4 D (.lst (ys++[v]))) else (∃ z,σ0.set j (some (item i))=σ0.set j z)/\Pn (i+1) H3)
  (fin:∀ H',Pn n H'->Q (.ref D) H') :
  ∃ W:Nat->Nat->St->Hp->Prop,(∃ m,W 0 m σ0 (upd H1 D (.lst [])))/\∀ i m σ' H',W i m σ' H' ->
   (J.stop i H'/\Q (.ref D) H') \/
   (J.go i H'/\∃ Nx:St->Hp->Prop,(∀ σ'' H'',Nx σ'' H''->∃ m',m' < m/\W (i+1) m' σ'' H'')/\∀ x H'',J.yld i H' x H''->bC j x σ' H'' λσ2 H2=>tt σ2 H2 λb H3 =>
    if b=true then te σ2 H3 λv H4=>∃ ys,H4 D=some (.lst ys)/\ys.length < sizeLine/\Nx σ2 (upd H4 D (.lst (ys++[v]))) else Nx σ2 H3):=by
 refine ⟨λi m σ' H'=>m=n - i/\i≤n/\(∃ z,σ'=σ0.set j z)/\Pn i H',⟨n,by omega,Nat.zero_le _,⟨none,h0.symm⟩,p0⟩,?_⟩
 rintro i m σ' H' ⟨rfl,hi,⟨z,rfl⟩,p⟩
 have o:=ok i H' hi p
 by_cases hlt:i < n
 ·obtain ⟨g,y⟩:=go i H' o hlt
  refine .inr ⟨g,λσ'' H''=>(∃ z,σ''=σ0.set j z)/\Pn (i+1) H'',λσ'' H'' q=>⟨n - (i+1),by omega,rfl,hlt,q.1,q.2⟩,λx H'' yx=>?_⟩
  obtain ⟨e1,e2⟩:=y x H'' yx
  subst e1 e2
  simp only [bC,jm]
  exact turn i _ hlt p
 ·have e:i=n:=by omega
  subst e
  exact .inl ⟨stop H' o,fin H' p⟩
section
variable {P:Program} {w:World} {H H':Hp} {h h1 h2:Heap} {a b T:Addr} {o:HO} {fs:List Addr}
theorem ObjOk.has (x:ObjOk P w H h a o):∃ u,h.get? a=some u:=by
 cases o with
 | lst xs=>obtain ⟨_,_,_,_,e⟩:=x;exact ⟨_,e⟩
 | tup xs=>obtain ⟨_,_,_,ob,e,_⟩:=x;exact ⟨ob,e⟩
 | dK kvs=>obtain ⟨_,_,_,_,o,_,_,e,_⟩:=x;exact ⟨_,e⟩
 | dT kvs=>obtain ⟨_,_,_,_,o,_,_,e,_⟩:=x;exact ⟨_,e⟩
 | set S n=>obtain ⟨o,_,_,_,e,_⟩:=x;exact ⟨_,e⟩
 | ins C dx fs=>obtain ⟨_,_,_,e,_⟩:=x;exact ⟨_,e⟩
 | own y=>exact x
 | xd fs=>obtain ⟨_,⟨_,_,_,e,_⟩,_⟩:=x;exact ⟨_,e⟩
 | rng lo hi=>obtain ⟨_,_,_,e⟩:=x;exact ⟨_,e⟩
 | frz ob u=>obtain ⟨e,_⟩:=x;exact ⟨_,e⟩
 | tbl ps=>exact ⟨_,(show h.get? a=some _ from x)⟩
 | met f y=>exact ⟨_,(show h.get? a=some _ from x)⟩
 | ext φ=>obtain ⟨_,e,_⟩:=x;exact e
theorem HOk.empty (x:HOk P w H h) (e:h.get? a=none):H a=none:=by
 cases q:H a with
 | none=>rfl
 | some u =>
  obtain ⟨v,r⟩:=(x a u q).has
  rw [e] at r;cases r
def Trc (h:Heap) (e T:Addr) (cls a0:Value):Prop :=
 ∃ oe vs oT ts,h.get? e=some oe/\(oe.cls=cls/\vs[0]?=some a0)/\oe.data=.fields vs/\vs[1]?=some (.ref T)/\T≠e/\h.get? T=some oT/\oT.data=.fields ts/\ts[3]?=some .none
def CX1 (P:Program) (w:World):CXT:=λouter H s E e s' =>
 ∃ a T cls a0 H',e=.ref a/\s'.os=s.os/\AllBare s'.gens/\Un (frs outer) [] H H' s.heap s'.heap/\HOk P w H' s'.heap /\
  (s.heap.get? a=none/\s.heap.get? T=none/\H' a=none/\H' T=none)/\Trc s'.heap a T cls a0/\E cls none H'
theorem xX (U:Un fs [] H H' h h1) (ha:h.get? a=none) (hT:h.get? T=none) (k:∀ b o,h1.get? b=some o->b≠a->b≠T->b ∉ fs->h2.get? b=some o)
  (sl:∀ b o,h1.get? b=some o->b ∈ fs->∃ sl,h2.get? b=some { o with slots:=sl }):Un fs [] H H' h h2:=by
 have na:∀ b o,h.get? b=some o->b≠a:=λb o q z=>by rw [z,ha] at q;cases q
 have nT:∀ b o,h.get? b=some o->b≠T:=λb o q z=>by rw [z,hT] at q;cases q
 refine ⟨λb o q n hb hx=>k b o (U.keep b o q n hb hx) (na b o q) (nT b o q) hb,λb o q n hb hx=>?_,U.free,λb o q hx=>?_,U.tups,U.frzs,U.tbls⟩
 ·obtain ⟨s1,e1⟩:=U.slot b o q n hb hx
  obtain ⟨s2,e2⟩:=sl b _ e1 hb
  exact ⟨s2,e2⟩
 ·obtain ⟨o1,e1⟩:=U.there b o q hx
  by_cases hb:b ∈ fs
  ·obtain ⟨s2,e2⟩:=sl b _ e1 hb
   exact ⟨_,e2⟩
  ·exact ⟨o1,k b o1 e1 (na b o q) (nT b o q) hb⟩
theorem wu (O:HOk P w H h1) (ha:H a=none) (hT:H T=none) (hf:∀ b ∈ fs,H b=none) (k:∀ b o,h1.get? b=some o->b≠a->b≠T->b ∉ fs->h2.get? b=some o):HOk P w H h2:=λc u e =>
 (O c u e).stay (λb v hb q=>by
  have hn:H b≠none:=by
   rcases hb with z | z
   ·rw [z,e];exact λy=>nomatch y
   ·rw [z];exact λy=>nomatch y
  exact k b v q (λz=>hn (by rw [z];exact ha)) (λz=>hn (by rw [z];exact hT)) λz=>hn (hf b z)) (λ_ q=>q) λ_ _ q=>q
variable {base:Heap} {l:List Env} {cls a0:Value}
theorem A4 (F:h.FunFrames base l) (t:Trc h a T cls a0):Heap.FlyingW (PySem.W.hideAll h (a::T::frs l)) l a cls a0 h:=by
 obtain ⟨oe,vs,oT,ts,he,hc,hd,hv,hne,hT,hdT,h3⟩:=t
 exact ⟨λb o q=>PySem.W.of_hideAll _ q,PySem.W.hideAll_none _ (.head _),PySem.W.funFrames_hide F λenv hm b hb=>.tail _ (.tail _ (List.mem_filterMap.mpr ⟨env,hm,hb⟩)),
  oe,vs,T,oT,ts,he,hc,hd,hv,PySem.W.hideAll_none _ (.tail _ (.head _)),hne,hT,hdT,h3⟩
theorem pe {l':List Env} (F:h.FunFrames base l) (x:Heap.FlyingW (PySem.W.hideAll h (a::T::frs l)) l' a cls a0 h2) (U:h.UpToSlots h2) :
  ∃ T2,Trc h2 a T2 cls a0/\(T2=T\/h.get? T2=none)/\(∀ b o,h.get? b=some o->b≠a->b≠T->b ∉ frs l->h2.get? b=some o)/\(∀ b o,h.get? b=some o->b ∈ frs l->∃ sl,h2.get? b=some { o with slots:=sl }):=by
 obtain ⟨f1,f2,f3,oe,vs,T2,oT,ts,he,hc,hd,hv,hn,hne,hT,hdT,h3⟩:=x
 have sl:∀ b o,h.get? b=some o->b ∈ frs l->∃ sl,h2.get? b=some { o with slots:=sl }:=λb o q hb=>by
  obtain ⟨_,o',ho',hnf⟩:=F.mem hb
  rw [q] at ho';cases ho'
  exact U b o q hnf
 refine ⟨T2,⟨oe,vs,oT,ts,he,hc,hd,hv,hne,hT,hdT,h3⟩,?_,λb o q n1 n2 n3=>f1 b o (PySem.W.hideAll_get _ q λz=>?_),sl⟩
 ·cases q:h.get? T2 with
  | none=>exact .inr rfl
  | some o =>
   refine .inl ?_
   by_cases m:T2 ∈ a::T::frs l
   ·rcases List.mem_cons.mp m with z | m
    ·exact absurd z hne
    ·rcases List.mem_cons.mp m with z | m
     ·exact z
     ·obtain ⟨_,o',ho',hnf⟩:=F.mem m
      rw [q] at ho';cases ho'
      obtain ⟨s2,e2⟩:=sl T2 o q m
      rw [hT] at e2;cases e2
      exact absurd hdT (hnf ts)
   ·rw [PySem.W.hideAll_get _ q m] at hn;cases hn
 ·rcases List.mem_cons.mp z with z | z
  ·exact n1 z
  ·rcases List.mem_cons.mp z with z | z
   ·exact n2 z
   ·exact n3 z
end
section
variable {X:Cx} {pins:List (Addr × Obj)} {σ:St} {H:Hp} {s s':Shared} {E:XK} {e:Value}
theorem CX1.behind (I:Inv X pins σ H s) (x:CX1 X.prog X.w X.stack H s E e s'):∃ a T cls a0 H',e=.ref a/\E cls none H'/\s.heap.get? a=none/\H' a=none/\Inv X pins σ H' s' /\
  Heap.FlyingW (PySem.W.hideAll s'.heap (a::T::frs X.stack)) X.stack a cls a0 s'.heap /\
  ∀ h2 l',Heap.FlyingW (PySem.W.hideAll s'.heap (a::T::frs X.stack)) l' a cls a0 h2->s'.heap.UpToSlots h2 ->
   ∃ T2,Inv X pins σ H' { s' with heap:=h2 }/\Trc h2 a T2 cls a0/\s.heap.get? T2=none/\H' T2=none/\Un (frs X.stack) [] H H' s.heap h2:=by
 obtain ⟨a,T,cls,a0,H',he,os,bare,un,hok,⟨sa,sT,na,nT⟩,tr,q⟩:=x
 have J:Inv X pins σ H' s':=I.call' (ch:=[]) os un hok bare (λb z=>absurd z (by simp))
 refine ⟨a,T,cls,a0,H',he,q,sa,na,J,A4 J.stack tr,λh2 l' fl up=>?_⟩
 obtain ⟨T2,t2,hT2,k2,sl2⟩:=pe J.stack fl up
 have nT2:H' T2=none:=by
  rcases hT2 with z | z
  ·rw [z];exact nT
  ·exact hok.empty z
 have sT2:s.heap.get? T2=none:=by
  rcases hT2 with z | z
  ·rw [z];exact sT
  ·cases q:s.heap.get? T2 with
   | none=>rfl
   | some o =>
    obtain ⟨o',r⟩:=un.there T2 o q (by simp)
    rw [z] at r;cases r
 exact ⟨T2,I.call' (s':={ s' with heap:=h2 }) (ch:=[]) os (xX un sa sT k2 sl2) (wu hok na nT J.stkFree k2) bare (λb z=>absurd z (by simp)),t2,sT2,nT2,xX un sa sT k2 sl2⟩
end
def Fre (h:Heap) (e:Addr) (cls a0:Value):Prop:=∃ oe vs,h.get? e=some oe/\(oe.cls=cls/\vs[0]?=some a0)/\oe.data=.fields vs/\vs[1]?=some .none
def ip (K:PySem.W.Frag) (C:Addr) (bmB:List Value) (newId:String) (ini:Option Value):Bool:=match K.lookup C with
 | some ⟨.type "type",_,.cls cd,slots⟩=>(match cd.mro,slots.toList with
  | .ref C'::bm,[_,_,_,_,some (.builtin n),_]=>C' == C && n == newId && !cd.hasDel && PySem.W.tailIn K bmB bm && PySem.W.nsOkIn K cd.ns && PySem.W.nsIn K cd.ns "__init__" == some ini
  | _,_=>false)
 | _=>false
theorem rd {h:Heap} {N:Addr} {n:Str} {v:Value} (X:K.In h) (G:h.Ns N mg) (e:PySem.W.nsIn K N n=some (some v)):mg n=some v:=by
 obtain ⟨o,es,ep,ho,hd,_,hf⟩:=G
 unfold PySem.W.nsIn at e
 split at e
 ·rename_i c d es' n' sl q
  have:=X _ _ q
  rw [ho] at this
  cases this
  cases hd
  split at e
  ·rename_i en he
   rw [← hf]
   unfold nsFind findBy
   rw [← Array.find?_toList,he]
   cases e
   rfl
  ·split at e <;> cases e
 ·cases e
theorem qK {h:Heap} {C:Addr} {bmB:List Value} {newId:String} {ini:Option Value} (X:K.In h) (q:ip K C bmB newId ini=true) :
  ∃ bm N nm qn bs hd sn sub ab col dd k0 k1 k2 k3 k5 mN,h.get? C=some (excClassObj nm qn C N bs bm hd sn sub ab col dd k0 k1 k2 k3 k5 newId)/\h.Ns N mN/\mN "__init__"=ini/\OwnTail h bmB bm:=by
 unfold ip at q
 split at q
 ·rename_i dd cd sl ho
  split at q
  ·rename_i C' bm k0 k1 k2 k3 n k5 hm hs
   rw [Bool.and_eq_true,Bool.and_eq_true,Bool.and_eq_true,Bool.and_eq_true,Bool.and_eq_true] at q
   obtain ⟨⟨⟨⟨⟨e1,e2⟩,hdel⟩,ht⟩,hok⟩,hni⟩:=q
   obtain rfl:=beq_iff_eq.mp e1
   obtain rfl:=beq_iff_eq.mp e2
   have hni:=beq_iff_eq.mp hni
   obtain ⟨cnm,cbs,mro,ns,cqn,chd,csn,csub,cab,ccol,del⟩:=cd
   have hsl:sl.toList.toArray=[k0,k1,k2,k3,some (.builtin n),k5].toArray:=by rw [hs]
   rw [Array.toArray_toList] at hsl
   subst hsl
   have hm:mro=.ref C'::bm:=hm
   have hde:del=false:=by
    have z:(!del)=true:=hdel
    cases del with
    | true=>cases z
    | false=>rfl
   clear hdel
   subst hm hde
   have hN:h.Ns ns (h.nsMap ns):=.of_isNs (PySem.W.isNs_of_in X hok)
   refine ⟨bm,ns,cnm,cqn,cbs,chd,csn,csub,cab,ccol,dd,k0,k1,k2,k3,k5,_,X _ _ ho,hN,?_,PySem.W.tail_of_in X ht⟩
   cases ini with
   | none=>exact PySem.W.ns_none_of X hN hni
   | some v=>exact rd X hN hni
  ·cases q
 ·cases q
def eQ (CX:CXT) (X:Cx) (E:St->XK):Prop:=∀ (pins:List (Addr × Obj)) (σ:St) (H:Hp) (s:Shared) (e:Value) (s':Shared),Inv X pins σ H s->CX X.stack H s (E σ) e s'->X.xe e s'
section
variable {X:Cx} {CX:CXT} {k:Nat} {f C:Addr} {fd:FuncData} {ps:List Str} {sp:Sp} {dvs:List V} {ds:List Value} {E:St->XK} {x m:Str} {p pos apos:Pos} {e o:Expr} {es:List Expr} {ta:TE} {t:TA}
theorem tS {pins:List (Addr × Obj)} {σ:St} {H:Hp} {s:Shared} {Q:VK} {us:List Value} {vs:List V} (F:FnOk X.prog X.w X.K X.mg X.base CX k f fd ps sp) (hr:Room k X.A) (hb:Binds X.K fd ps ds) (hd:Vals dvs ds) (hx:eQ CX X E)
  (I:Inv X pins σ H s) (r:Vals vs us) (h:sp (vs++dvs) H Q (E σ)):wpAny (model X.prog X.w) X.A (call (.ref f) us) (EP X pins σ Q) X.xe s:=by
 have r2:Vals (vs++dvs) (us++ds):=r.append hd
 have hl:(us++ds).length=ps.length:=by rw [← r2.length];exact F.len _ _ _ _ h
 refine wpAny_call (codeAny_mono (F.run X.A X.stack s H ⟨us,[]⟩ (us++ds) (vs++dvs) Q (E σ) hr I.env0 (hb s us I.kIn hl) r2 h) λr s' hq=>?_)
 cases r with
 | error e=>exact hx pins σ H s e s' I hq
 | ok fl =>
  cases fl with
  | ret u=>exact I.after hq
  | next=>exact False.elim hq
  | brk=>exact False.elim hq
  | cont=>exact False.elim hq
theorem pR (F:FnOk X.prog X.w X.K X.mg X.base CX k f fd ps sp) (hr:Room k X.A) (hg:Gl X x) (hm:X.mg x=some (.ref f)) (hk:PySem.W.keepIn X.K (.ref f)=true) (hb:Binds X.K fd ps ds) (hd:Vals dvs ds) (hx:eQ CX X E)
  (ha:PA X (e::es) t) (hdb:(x == ("__debug__":Str))=false:=by decide) (he:starEach (e::es) X.env=(false,eval e X.env)::starEach es X.env:=by rfl) (hpl:(backTo pos (starEach es X.env)).any (·.1)=false:=by rfl) :
  PE X (.Call (.Name x p) (e::es) [] pos) (λσ=>fV sp dvs (E σ) t σ):=by
 intro pins s σ H Q I h
 refine wpAny_Call_Name_kw (eA I hg hm ?_ hdb)
 refine PySem.W.callWith_K (h₀:=X.base) I.ok.mod.kin hk (thn (ha pos pins s σ H _ I h) λus s1 ⟨vs,H1,I1,r,q⟩=>⟨I1.kIn,?_⟩) he hpl
 exact tS F hr hb hd hx I1 r q
end
def Cx.hand (X:Cx) (e:Value):Cx:={ X with A:=X.A.mark (some e),calm:=false,xe:=λ_ _=>False }
theorem Cx.Ok.hand {e:Value} (o:X.Ok):(X.hand e).Ok :=
 ⟨o.mod,o.kind,o.glob,o.blt,o.above,o.inj,o.has,o.cab,(λz=>nomatch z),o.frames,o.stk,o.exf,o.bs,o.bsz,o.noex,o.exfs,o.funs,o.frf⟩
section
variable {X:Cx} {pins pins':List (Addr × Obj)} {σ:St} {H:Hp} {s:Shared} {xe:Value->Shared->Prop} {e:Value}
theorem Inv.hand (I:Inv X pins σ H s):Inv (X.hand e) pins σ H s:=⟨I.ok.hand,I.os,I.bare,I.base,I.loc,I.cell,I.free,I.freeC,I.pin,I.hok,I.len⟩
theorem Inv.unhand (o:X.Ok) (I:Inv (X.hand e) pins σ H s):Inv X pins σ H s:=⟨o,I.os,I.bare,I.base,I.loc,I.cell,I.free,I.freeC,I.pin,I.hok,I.len⟩
theorem Inv.inTry (I:Inv X pins σ H s):Inv { X with pn:=X.pn++pins,xe:=xe } [] σ H s :=
 ⟨⟨I.ok.mod,I.ok.kind,I.ok.glob,I.ok.blt,I.ok.above,I.ok.inj,I.ok.has,I.ok.cab,I.ok.hd,I.ok.frames,I.ok.stk,I.ok.exf,I.ok.bs,I.ok.bsz,I.ok.noex,I.ok.exfs,I.ok.funs,I.ok.frf⟩,I.os,I.bare,I.base,I.loc,I.cell,I.free,I.freeC,
  λp hp=>I.pin p (by simpa using hp),I.hok,I.len⟩
theorem Inv.outTry (o:X.Ok) (I:Inv { X with pn:=X.pn++pins,xe:=xe } pins' σ H s):Inv X pins σ H s :=
 ⟨o,I.os,I.bare,I.base,I.loc,I.cell,I.free,I.freeC,λp hp=>I.pin p (List.mem_append_left _ hp),I.hok,I.len⟩
end
end L2
namespace L2
open PySem PySem.Spec PySem.Calls PyProof.Rows PySem.W PySem.Builtin PySem.Builtin.ObjectAttr PySem.Builtin.Getset_descriptor
section
variable {prog:Program} {w:World} {A:Around} {E:Value->Shared->Prop} {s:Shared} {K:Frag} {x D:Addr} {ox:Obj} {od:Option Obj} {name:Str}
theorem vJ (o:Value):bindSpecial (.builtin "BaseException.__getattribute__") o=pure (.builtin "BaseException.__getattribute__",[o]):=PySem.F.attr_ValueError.ga.bind o
structure iy (K:Frag) (D:Addr):Prop where
 ga:findIn K (.ref D) "__getattribute__"=some (some (.builtin "BaseException.__getattribute__"))
 gt:findIn K (.ref D) "__getattr__"=some none
 dct:hasDictIn K D=true
 a:findIn K (.ref D) "__class__"=some (some (.builtin "object.__class__"))
 n:specialIn K (.builtin "object.__class__") "__get__"=some (some (.builtin "getset_descriptor.__get__"))
 tk:takesIn K (.builtin "object.__class__")=some true
 m:mroIn K D (.type "object")=some true
 b:mroIn K D (.type "BaseException")=some true
theorem yM {R:Result->Shared->Prop} {tp:Value} (X:K.In s.heap) (L0:Looks (model prog w) s.heap (typeOf (.ref x)) (.ref D)) (hm:mroIn K D (.type "object")=some true)
  (h:R (.ok (.ret (.ref D))) s):codeAny (model prog w) A (.call (.builtin "getset_descriptor.__get__") ⟨[.builtin "object.__class__",.ref x,tp],[]⟩) R s:=by
 obtain ⟨hh,g,dr,t,os⟩:=s
 have L1:=looks_mroIn (M:=model prog w) X hm
 refine codeAny_call_builtin KF.slot_gs.plain KF.entry_gs ?_
 refine KF.slot_gs.check _ _ _ _ _ _ _ _ KF.type_class (KF.args_gs _ _ _) ?_
 unfold «getset_descriptor.__get__»
 unfold descrGet
 rw [dga_obj]
 refine wpAny_bind (wpAny_pure ?_)
 unfold descrGetter descrCheckInstance
 unfold descrNameAndClass isInstance
 simp only [KF.owner_class]
 repeat lk
 refine ⟨Code.quiet_builtin _ (by decide +kernel),?_⟩
 refine codeAny_builtin KF.entry_class ?_
 unfold Builtin.«object.__class__» shownTypeOf
 repeat lk
 exact h
theorem wH {M:Model} {h:Heap} (X:K.In h) (kx:iy K D):Looks M h (Builtin.ObjectAttr.find (.ref x) (.ref D) "__class__") (.bind (.builtin "getset_descriptor.__get__") (.builtin "object.__class__")):=by
 have L1:=looks_findIn (M:=M) X kx.a
 have L2:Looks M h (Builtin.ObjectAttr.getOf (some (.builtin "object.__class__"))) (some (.builtin "getset_descriptor.__get__")):=looks_specialIn X kx.n
 have L3:=looks_takesIn (M:=M) X kx.tk
 unfold Builtin.ObjectAttr.find
 refine L1.andThen (L2.andThen ?_)
 unfold Builtin.ObjectAttr.dataDescriptor?
 refine Looks.andThen (a:=some (.builtin "getset_descriptor.__get__",.builtin "object.__class__")) (L3.andThen .now) ?_
 exact Looks.tag .now
theorem uo {Q:Option Value->Shared->Prop} (X:K.In s.heap) (L0:Looks (model prog w) s.heap (typeOf (.ref x)) (.ref D)) (kx:iy K D)
  (h:Q (some (.ref D)) { s with toks:=s.toks+1 }):wpAny (model prog w) A (getAttr? (.ref x) "__class__") Q E s:=by
 obtain ⟨hh,g,d,t,os⟩:=s
 have L1:=looks_findIn (M:=model prog w) X kx.ga
 have L2:=looks_findIn (M:=model prog w) X kx.gt
 have L3:=wH (M:=model prog w) (x:=x) X kx
 have L4:Looks (model prog w) hh (isInstance (.ref x) (.type "BaseException")) true:=L0.andThen (looks_mroIn X kx.b)
 unfold getAttr? getAttrBy? getAttrBy
 refine wpAny_bind (wpAny_mkText (wpAny_bind (wpAny_attempt (wpAny_holding ?_))))
 refine wpAny_bind (L0.at ?_)
 refine wpAny_bind (L1.at ?_)
 show wpAny _ _ (getAttrByItsOwn _ _ _ _ _ _) _ _ _
 unfold getAttrByItsOwn hookBefore
 refine wpAny_bind ?_
 show wpAny _ _ (typeLookup (.ref D) "__getattr__") _ _ _
 refine L2.at (wpAny_bind (wpAny_attempt (wpAny_holding ?_)))
 show wpAny _ _ (boundAndCalled _ _ _) _ _ _
 unfold boundAndCalled
 rw [vJ]
 refine wpAny_bind (wpAny_pure (wpAny_call ?_))
 refine codeAny_call_builtin PySem.F.attr_ValueError.ga.plain PySem.F.entry_bexc_ga (@check_slot (model prog w) _ _ _ "BaseException.__getattribute__" "BaseException" "__getattribute__" (.ref x) _ [] _ (by decide +kernel) (by decide +kernel) L4 (PySem.F.args_bexc_ga _ _) ?_)
 refine wpAny_bind (wpAny_pure (wpAny_bind (wpAny_pure (wpAny_bind (L0.at (wpAny_bind (L3.at ?_)))))))
 show wpAny _ _ (holding [Value.builtin "object.__class__"] (call (.builtin "getset_descriptor.__get__") [.builtin "object.__class__",.ref x,.ref D]) >>= ret) _ _ _
 refine wpAny_bind (wpAny_holding (wpAny_call (yM (s:=⟨hh,g,d,t+1,os⟩) X L0 kx.m ?_)))
 refine wpAny_pure ?_
 refine handed_on rfl ?_
 exact wpAny_pure h
end
def js (x:Addr) (D:Addr):HO:=.ext λh=>∃ oe,h.get? x=some oe/\oe.cls=.ref D
variable {x:Addr}
theorem vZ {M:Model} {h:Heap} {D:Addr} (q:∃ oe,h.get? x=some oe/\oe.cls=.ref D):Looks M h (typeOf (.ref x)) (.ref D):=by
 obtain ⟨oe,he,hc⟩:=q
 rw [← hc]
 exact (Looks.ld he).andThen .now
theorem wJ {K:Frag} {D:Addr} (kx:iy K D):KitX K (.ref x) (.ref D) (λh=>∃ oe,h.get? x=some oe/\oe.cls=.ref D) where
 ty:=λ_ _ _ q=>vZ q
 it:=λ_ _ X _=>by
  obtain ⟨cdD,hcD,_⟩:=any_some kx.dct
  unfold clsIn at hcD
  split at hcD
  ·rename_i c' d' cd' sl' ho
   intro A' Q' E' s' k q
   unfold isType loadHead
   have ho':=k _ _ (X _ _ ho)
   exact wpAny_bind (wpAny_loadPart ho' (wpAny_pure q))
  ·cases hcD
 ne:=λh tp dd its n sl X htp=>by
  obtain ⟨cdD,hcD,_⟩:=any_some kx.dct
  refine Bool.eq_false_iff.mpr λq=>?_
  cases beq_iff_eq.mp q
  unfold clsIn at hcD
  split at hcD
  ·rename_i c' d' cd' sl' ho
   have z:=(X _ _ ho).symm.trans htp
   cases z
  ·cases hcD
 ca:=λX q k=>uo X (vZ q) kx k
theorem qT {X:Cx} {pins:List (Addr × Obj)} {σ:St} {H:Hp} {s:Shared} {A:Around} {E:Value->Shared->Prop} {Q:Value->Shared->Prop} {c:Value} {b:Bool} {D:Addr} (I:Inv X pins σ H s) (hx:H x=some (js x D)) (kx:iy X.K D)
  (e:kitOne X.K (.ref D) c=some b) (h:∀ tk,Q (.bool b) { s with toks:=tk }):wpAny (model X.prog X.w) A (call (.builtin "isinstance") [.ref x,c]) Q E s:=by
 obtain ⟨q,_,_⟩:=(show ObjOk X.prog X.w H s.heap x (js x D) from I.hok x _ hx)
 exact kia_one (wJ kx) I.kIn q e (λz=>nomatch z) h
section
variable {X:Cx} {pins:List (Addr × Obj)} {σ:St} {H H':Hp} {s s2:Shared} {a:Addr} {o:HO}
theorem HOk.track {P:Program} {w:World} {h:Heap} (hok:HOk P w H h) (na:H a=none) (new:ObjOk P w (upd H a o) h a o):HOk P w (upd H a o) h:=λb u e=>by
 by_cases hb:b=a
 ·subst hb
  rw [av] at e;cases e
  exact new
 ·rw [aD hb] at e
  exact (hok b u e).stay (λ_ _ _ q=>q) (λc q=>by rw [aD (aI q na)];exact q) λc xs q=>by rw [aD (aI q na)];exact q
theorem Inv.track (I:Inv X pins σ H s) (J:Inv X pins σ H' s2) (un:Un (frs X.stack) [] H H' s.heap s2.heap) (sa:s.heap.get? a=none) (na:H' a=none) (new:ObjOk X.prog X.w (upd H' a o) s2.heap a o):Inv X pins σ (upd H' a o) s2:=by
 have nb:∀ b u,s.heap.get? b=some u->b≠a:=λb u q z=>by rw [z,sa] at q;cases q
 refine I.call' (ch:=[]) (J.os.trans I.os.symm) ⟨un.keep,un.slot,λb u q n hx=>by rw [aD (nb b u q)];exact un.free b u q n hx,un.there,λb xs q=>?_,λb u xs q=>?_,λb ps q=>?_⟩ (J.hok.track na new) J.bare (λb z=>absurd z (by simp))
 ·have z:=un.tups b xs q
  rw [aD (aI z na)];exact z
 ·have z:=un.frzs b u xs q
  rw [aD (aI z na)];exact z
 ·obtain ⟨m,z⟩:=un.tbls b ps q
  exact ⟨m,by rw [aD (aI z na)];exact z⟩
theorem Inv.gone {M:Model} {A:Around} {E:Value->Shared->Prop} {i:Nat} {n:Str} {pos:Pos} {Q:Unit->Shared->Prop} (I:Inv X pins σ H s) (hN:X.N.Nodup) (hi:X.N[i]?=some n) (hl:X.env.kindOf n=some .local)
  (h:∀ s',Inv X pins (σ.set i none) H s'->Q () s'):wpAny M A (do bindName X.env n .none;unbindBehindTheSuite X.env n pos) Q E s:=by
 obtain ⟨m,hn,hlo⟩:=id I.loc
 obtain ⟨oL,_,_,hoL,_⟩:=id hn
 have cne:=I.cne
 refine wpAny_nameGoes_keeps hl hn (by rw [I.ok.kind];rfl) λh' v hn' hs=>h _ ?_
 have hok:HOk X.prog X.w H h':=λb ob e=>by
  refine (I.hok b ob e).stay (λc w' hc q=>(hs.2 c ?_).trans q) (λ_ q=>q) λ_ _ q=>q
  rintro rfl
  rcases hc with z | z
  ·rw [← z,I.free] at e;cases e
  ·rw [I.free] at z;cases z
 refine ⟨I.ok,I.os,I.bare,⟨λb o e n hb hx=>?_,λb o e n hb hx=>?_,I.base.free,λb o e hx=>?_,I.base.tups,I.base.frzs,I.base.tbls⟩,⟨_,hn',λj y v' e1 e2 e3=>?_⟩,λy c e=>?_,I.free,I.freeC,λp hp=>?_,hok,by simpa using I.len⟩
 ·exact (hs.2 b (Nat.ne_of_lt (Nat.lt_of_lt_of_le (Heap.lt_size e) I.ok.above))).trans (I.base.keep b o e n hb hx)
 ·obtain ⟨sl,e1⟩:=I.base.slot b o e n hb hx
  exact ⟨sl,(hs.2 b (Nat.ne_of_lt (Nat.lt_of_lt_of_le (Heap.lt_size e) I.ok.above))).trans e1⟩
 ·obtain ⟨o',e1⟩:=I.base.there b o e hx
  exact ⟨o',(hs.2 b (Nat.ne_of_lt (Nat.lt_of_lt_of_le (Heap.lt_size e) I.ok.above))).trans e1⟩
 ·by_cases hj:j=i
  ·subst hj
   rw [List.getElem?_set] at e2
   simp at e2
  ·rw [List.getElem?_set_ne (Ne.symm hj)] at e2
   obtain ⟨u',r',q⟩:=hlo j y v' e1 e2 e3
   refine ⟨u',r',?_⟩
   rcases q with ⟨k,e⟩ | ⟨k,c,e,z⟩
   ·refine .inl ⟨k,?_⟩
    have:y≠n:=λe=>hj (kX hN e1 (e ▸ hi))
    simp [this,e]
   ·exact .inr ⟨k,c,e,z.sameBut hs (cne y c e)⟩
 ·obtain ⟨w',z⟩:=I.cell y c e
  exact ⟨w',z.sameBut hs (cne y c e)⟩
 ·obtain ⟨e,n,ne,nf,d⟩:=I.pin p hp
  exact ⟨(hs.2 p.1 ne).trans e,n,ne,nf,d⟩
end
def Ends.gone (D:Ends) (i:Nat):Ends:={ nx:=λσ H=>D.nx (σ.set i none) H,rt:=D.rt,bk:=λσ H=>D.bk (σ.set i none) H,ct:=λσ H=>D.ct (σ.set i none) H }
end L2
namespace L2
open PySem PySem.Spec PySem.Calls PyProof.Rows
section
variable {P:Program} {w:World} {K:PySem.W.Frag} {mg:Str->Option Value} {base:Heap}
structure RoomH (k:Nat) (A:Around):Prop where
 dp:A.depth+3 * k+5 < recursionLimit
 un:A.units+16 * k+200 < cLine
variable {k:Nat} {A:Around}
theorem Room.h (r:Room k A):RoomH k A:=⟨r.dp,r.un⟩
theorem RoomH.mark {e:Option Value} (r:RoomH k A):RoomH k (A.mark e):=⟨r.dp,r.un⟩
theorem RoomH.deeper (r:RoomH (k+1) A) (env:Env):RoomH k (A.deeper env) :=
 ⟨by have:=r.dp;show A.depth+1+3 * k+5 < _;omega,by have:=r.un;show A.units+3+16 * k+200 < _;omega⟩
structure sy (P:Program) (w:World) (K:PySem.W.Frag) (mg:Str->Option Value) (base:Heap) (k:Nat) (f:Addr) (fd:FuncData) (ps:List Str) (sp:Sp):Prop where
 len:∀ vs H Q E,sp vs H Q E->vs.length=ps.length
 run:∀ (A:Around) (outer:List Env) (s:Shared) (H:Hp) (args:Args) (us:List Value) (vs:List V) (Q:VK) (E:XK),RoomH k A->Env0 P w K mg base A outer s H->BindsTo s fd args (ps.zip us)->Vals vs us->sp vs H Q E ->
  codeAny (model P w) A (.call (.ref f) args) (CR CX0 outer P w H s Q E) s
def Cx.uncalm (X:Cx):Cx:={ X with calm:=false,xe:=λ_ _=>False }
theorem Fun.okH {x qual:Str} {st:Stmt} {f:Addr} {fd:FuncData} {N ps:List Str} {sp:Sp} (F:Fun K x qual st f fd) (S:FnScope N ps (aw st)) (len:∀ vs H Q E,sp vs H Q E->vs.length=ps.length)
  (hbody:∀ (cdv:Value) (A:Around) (outer:List Env) (s:Shared) (H:Hp) (vs:List V) (Q:VK) (E:XK),RoomH k (A.deeper (envOfC qual (aw st) s.heap.objs.size f cdv))->sp vs H Q E ->
   ∃ t,PSs (ic CX0 P w K mg base N qual (aw st) f cdv A outer s H E).uncalm (bz st) t/\t { nx:=λ_ H'=>Q .non H',rt:=Q } (cS N vs) H):sy P w K mg base (k+1) f fd ps sp:=by
 obtain ⟨oc,od,kV,doc,pm,an,cdv,ct,osl,rfl,lk,hcd⟩:=F.ex
 refine ⟨len,λA outer s H args us vs Q E hr e0 hb r hsp=>?_⟩
 have hl:=len _ _ _ _ hsp
 have KX:K.In s.heap:=e0.mod.kin.keeps λb o e=>(e0.bs b o e).1
 have lim:s.heap.NoLimit:=e0.mod.nolimit.keeps λb o e=>(e0.bs b o e).1
 have hkind:∀ y ∈ ps.zip us,(aw st).names.lookup y.1=some .local\/((aw st).names.lookup y.1=some .cell/\((cellsFrom (s.heap.objs.size+1) (aw st).names []).lookup y.1).isSome=true):=λ⟨n,v⟩ hy=>by
  rcases S.par n (List.of_mem_zip hy).1 with q | q
  ·exact .inl q
  ·exact .inr ⟨q,PySem.W.cellsFrom_some _ _ _ (.inl q)⟩
 refine codeAny_call_function (by have:=hr.dp;omega) (KX _ _ lk) rfl S.co S.gen rfl (PySem.W.codeRec_of KX hcd) (hb _ _ _ _ ?_)
 refine wpAny_newFunctionEnv_cells S.kind hkind λenv he s1 x=>?_
 subst he
 refine ⟨lim.keeps x.toInCall.keep,codeAny_func ?_⟩
 obtain ⟨t,ht,hq⟩:=hbody cdv A outer s H vs Q E (hr.deeper _) hsp
 have e1:Env0 P w K mg base { A with handled:=none } outer s H:=⟨e0.frames,e0.mod,e0.bs,e0.bsz,e0.funs,e0.frf,e0.hok,e0.bare⟩
 have I0:Inv (ic CX0 P w K mg base N qual (aw st) f cdv { A with handled:=none } outer s H E) [] (cS N vs) H s1:=mK S rfl e1 hl r x
 have I:Inv (ic CX0 P w K mg base N qual (aw st) f cdv A outer s H E).uncalm [] (cS N vs) H s1 :=
  ⟨⟨I0.ok.mod,I0.ok.kind,I0.ok.glob,I0.ok.blt,I0.ok.above,I0.ok.inj,I0.ok.has,I0.ok.cab,(λz=>nomatch z),Around.frames_deeper e0.frames,I0.ok.stk,I0.ok.exf,I0.ok.bs,I0.ok.bsz,I0.ok.noex,I0.ok.exfs,I0.ok.funs,I0.ok.frf⟩,
   I0.os,I0.bare,I0.base,I0.loc,I0.cell,I0.free,I0.freeC,I0.pin,I0.hok,I0.len⟩
 refine wpAny_mono (ht [] s1 (cS N vs) H _ I hq) (λfl s' hs=>?_) λe s' hs=>hs.elim
 have fin:∀ {σ':St} {H':Hp} {v:V} {u:Value},Inv (ic CX0 P w K mg base N qual (aw st) f cdv A outer s H E).uncalm [] σ' H' s'->RelV v u->Q v H'->CE outer P w H s Q u s' :=
  λ{σ' H' v u} J rv q=>⟨v,H',J.os,J.bare,J.base,J.hok,rv,q⟩
 cases fl with
 | ret u =>
  obtain ⟨v,σ',H',J,rv,q⟩:=hs
  exact fin J rv q
 | next =>
  obtain ⟨σ',H',J,q⟩:=hs
  exact fin (v:=V.non) (u:=Value.none) J rfl q
 | brk =>
  obtain ⟨_,_,_,q⟩:=hs
  exact False.elim q
 | cont =>
  obtain ⟨_,_,_,q⟩:=hs
  exact False.elim q
end
section
variable {X:Cx} {k:Nat} {f:Addr} {fd:FuncData} {ps:List Str} {sp:Sp} {dvs:List V} {ds:List Value} {E:XK} {x:Str} {p pos:Pos} {e:Expr} {es:List Expr} {t:TA}
theorem w5 (F:sy X.prog X.w X.K X.mg X.base k f fd ps sp) (hr:RoomH k X.A) (hg:Gl X x) (hm:X.mg x=some (.ref f)) (hk:PySem.W.keepIn X.K (.ref f)=true) (hb:Binds X.K fd ps ds) (hd:Vals dvs ds)
  (ha:PA X (e::es) t) (hdb:(x == ("__debug__":Str))=false:=by decide) (he:starEach (e::es) X.env=(false,eval e X.env)::starEach es X.env:=by rfl) (hpl:(backTo pos (starEach es X.env)).any (·.1)=false:=by rfl) :
  PE X (.Call (.Name x p) (e::es) [] pos) (fV sp dvs E t):=by
 intro pins s σ H Q I h
 refine wpAny_Call_Name_kw (eA I hg hm ?_ hdb)
 refine PySem.W.callWith_K (h₀:=X.base) I.ok.mod.kin hk (thn (ha pos pins s σ H _ I h) λus s1 ⟨vs,H1,I1,r,q⟩=>⟨I1.kIn,?_⟩) he hpl
 have r2:Vals (vs++dvs) (us++ds):=r.append hd
 have hl:(us++ds).length=ps.length:=by rw [← r2.length];exact F.len _ _ _ _ q
 refine wpAny_call (codeAny_mono (F.run X.A X.stack s1 H1 ⟨us,[]⟩ (us++ds) (vs++dvs) Q E hr I1.env0 (hb s1 us I1.kIn hl) r2 q) λr s' hq=>?_)
 cases r with
 | error e=>exact False.elim hq
 | ok fl =>
  cases fl with
  | ret u=>exact I1.after hq
  | next=>exact False.elim hq
  | brk=>exact False.elim hq
  | cont=>exact False.elim hq
end
variable {X:Cx}
theorem xa {x:Str} {j:Nat} {p1 p2 pos:Pos} {e:Expr} {te:TE} (he:PE X e te) (hx:x.length≤1000) :
  PE X (.JoinedStr [.Constant (.str x) j p1,.FormattedValue e (-1) none p2] pos) (λσ H Q=>te σ H λv H1=>∃ i:Int,v=.int i/\i.natAbs.log2 < 1920/\∀ y:Str,Q (.str y) H1):=by
 intro pins s σ H Q I h
 have z0:(Str.empty++x).length≤1000:=by rw [Str.append_left_empty (by rfl)];exact hx
 refine wpAny_JoinedStr ?_
 refine Calls.Constant_str ⟨x,_,rfl,by rw [sizeLine_eq];omega,?_⟩
 refine wpAny_FormattedValue_plain (thn (he pins _ σ H _ (I.tok _) h) λu s1 ⟨v,H1,I1,r1,i,ei,hi,q⟩=>?_)
 subst ei
 obtain ⟨t,rfl⟩:=(show ∃ t,u=Value.int i t from r1)
 refine wpAny_formatField_int hi ?_
 have e:=int_text_length_le (k:=1920) (by decide) hi
 have z1:((Str.empty++x)++Str.ofString (toString i)).length≤sizeLine:=by
  have l:((Str.empty++x)++Str.ofString (toString i)).length=(Str.empty++x).length+(Str.ofString (toString i)).length:=Array.size_append
  rw [l,PySem.ofString_length,sizeLine_eq];omega
 exact ⟨_,_,rfl,z1,z1,.str _,H1,I1.tok _,⟨_,rfl⟩,q _⟩
def blV (bs:List Bool):List V:=bs.map V.bl
theorem oI:∀ {bs:List Bool} {us:List Value},Vals (blV bs) us->us=bs.map Value.bool
 | [],_,.nil=>rfl
 | b::bs,_,.cons r t=>by
  have e:=oI (bs:=bs) t
  rw [e,show _=Value.bool b from r]
  rfl
theorem lK {h:Heap}:∀ (bs:List Bool),∃ as,ReadsAll h (bs.map Value.bool) (bs.map PyData.bool) as
 | []=>⟨_,.nil⟩
 | b::bs=>let ⟨_,r⟩:=lK bs;⟨_,.cons (.bool b) r⟩
theorem qz:∀ (bs:List Bool),(bs.map PyData.bool).all Shape.bool.has=true
 | []=>rfl
 | b::bs=>by rw [List.map_cons,List.all_cons,qz bs];rfl
theorem o4:∀ (bs:List Bool),(bs.map Value.bool).countP (isBoolOf true)=bs.count true
 | []=>rfl
 | b::bs=>by
  rw [List.map_cons,List.countP_cons,o4 bs,List.count_cons]
  cases b <;> rfl
section
variable {X:Cx}
theorem uA:MtM X "list.count" (λx vs H Q=>∃ l bs,x=.ref l/\vs=[.bl true]/\H l=some (.lst (blV bs))/\Q (.int (bs.count true:Nat)) H):=by
 intro pins s σ H x vs v us Q I rx rv h
 obtain ⟨l,bs,rfl,rfl,hH,q⟩:=h
 cases rx
 obtain ⟨u,rfl,ru⟩:=fW rv
 obtain rfl:u=Value.bool true:=ru
 obtain ⟨_,its,n,r,e⟩:=(show ObjOk X.prog X.w H s.heap l (.lst (blV bs)) from I.hok l _ hH)
 obtain rfl:=oI r
 obtain ⟨as,ra⟩:=lK (h:=s.heap) bs
 refine call_meets PySem.F.slot_list_count ⟨_,e,rfl⟩ PySem.F.entry_list_count (PySem.F.args_list_count_2 _ _) (SeqAt.list_countAt l (bs.map Value.bool).toArray n none #[] (.bool true) (isBoolOf true)) ⟨e,λy hy=>eq_isBoolOf true ra (qz bs) y (by simpa using hy) _ _,?_⟩
 rw [show ∀ (x:List Value),x.toArray.toList=x from λ_=>rfl,o4]
 exact ⟨.int _,H,I.tok _,⟨_,rfl⟩,q⟩
theorem uB:MtM X "list.index" (λx vs H Q=>∃ l bs j,x=.ref l/\vs=[.bl true]/\H l=some (.lst (blV bs))/\bs.length≤1000/\bs[j]?=some true/\(∀ m,m < j->bs[m]?=some false)/\Q (.int (j:Nat)) H):=by
 intro pins s σ H x vs v us Q I rx rv h
 obtain ⟨l,bs,j,rfl,rfl,hH,hlen,hj,hno,q⟩:=h
 cases rx
 obtain ⟨u,rfl,ru⟩:=fW rv
 obtain rfl:u=Value.bool true:=ru
 obtain ⟨_,its,n,r,e⟩:=(show ObjOk X.prog X.w H s.heap l (.lst (blV bs)) from I.hok l _ hH)
 obtain rfl:=oI r
 obtain ⟨as,ra⟩:=lK (h:=s.heap) bs
 obtain ⟨hj',hjt⟩:=List.getElem?_eq_some_iff.mp hj
 refine call_meets PySem.F.slot_list_index ⟨_,e,rfl⟩ PySem.F.entry_list_index (PySem.F.args_list_index_2 _ _) (SeqAt.list_indexAt l (bs.map Value.bool).toArray n none #[] (.bool true) (isBoolOf true) j (by simpa using hj') (by omega) ?_ ?_) ⟨e,λy hy=>eq_isBoolOf true ra (qz bs) y (by simpa using hy) _ _,?_⟩
 ·simp [hjt,isBoolOf]
 ·intro m hm hmj
  obtain ⟨hm',hmf⟩:=List.getElem?_eq_some_iff.mp (hno m hmj)
  simp [hmf,isBoolOf]
 ·exact ⟨.int _,H,I.tok _,⟨_,rfl⟩,q⟩
end
def clV:V->Value
 | .ref a=>.ref a
 | .ty n=>.type n
 | _=>.none
theorem bE:gz X (.builtin "isinstance") (λxs H Q=>∃ x D c b,xs=[.ref x,c]/\((∃ a,c=.ref a)\/∃ n,c=.ty n)/\H x=some (js x D)/\iy X.K D/\PySem.W.kitOne X.K (.ref D) (clV c)=some b/\Q (.bl b) H):=by
 intro pins s σ H xs us Q I r h
 obtain ⟨x,D,c,b,rfl,hc,hx,kx,e,q⟩:=h
 cases r with
 | cons r1 rt =>
  obtain ⟨u,rfl,ru⟩:=fW rt
  obtain rfl:=(show _=Value.ref x from r1)
  have hu:u=clV c:=by
   rcases hc with ⟨a,rfl⟩ | ⟨n,rfl⟩
   ·exact ru
   ·exact ru
  subst hu
  exact qT I hx kx e λtk=>⟨.bl b,H,I.tok _,rfl,q⟩
section
variable {P:Program} {w:World} {K:PySem.W.Frag} {mg:Str->Option Value} {base:Heap}
end
section
variable {X:Cx} {CX:CXT} {k:Nat} {f C:Addr} {fd:FuncData} {ps ks:List Str} {sp:Sp} {E:St->XK} {x m:Str} {p pos apos kpos:Pos} {e o:Expr} {es:List Expr} {kws:List Keyword} {te ta:TE} {t tk:TA} {nm:Option Str} {g:List Value->List Value->List Value} {gV:List V->List V->List V}
theorem uF (F:FnOk X.prog X.w X.K X.mg X.base CX k f fd ps sp) (hr:Room k X.A) (hg:Gl X x) (hm:X.mg x=some (.ref f)) (hk:PySem.W.keepIn X.K (.ref f)=true) (hb:vf X.K fd ps ks g gV) (hx:eQ CX X E)
  (ha:PA X (e::es) t) (hkw:PK X kws tk) (hall:(backToKw pos (keywordEach kws X.env)).all (·.1.isSome)=true:=by rfl) (hks:(backToKw pos (keywordEach kws X.env)).filterMap (·.1)=ks:=by rfl)
  (hdb:(x == ("__debug__":Str))=false:=by decide) (he:starEach (e::es) X.env=(false,eval e X.env)::starEach es X.env:=by rfl)
  (hpl:((backTo pos (starEach (e::es) X.env)).any (·.1) || (backToKw pos (keywordEach kws X.env)).any (·.1.isNone))=false:=by rfl) :
  PE X (.Call (.Name x p) (e::es) kws pos) (λσ=>oB sp gV (E σ) t tk σ):=by
 intro pins s σ H Q I h
 refine wpAny_Call_Name_kw (eA I hg hm ?_ hdb)
 refine PySem.W.callWith_KW (h₀:=X.base) I.ok.mod.kin hk hall (thn (ha pos pins s σ H _ I h) λus s1 ⟨vs,H1,I1,r,q⟩=>?_) hpl he
 refine thn (hkw pos pins s1 σ H1 _ I1 q) λws s2 ⟨zs,H2,I2,rz,q2⟩=>⟨I2.kIn,?_⟩
 rw [hks]
 have r2:=hb.rel r rz
 have hl:(g us ws).length=ps.length:=by rw [← r2.length];exact F.len _ _ _ _ q2
 refine wpAny_call (codeAny_mono (F.run X.A X.stack s2 H2 ⟨us,ks.zip ws⟩ (g us ws) (gV vs zs) Q (E σ) hr I2.env0 (hb.to s2 us ws I2.kIn hl) r2 q2) λr s' hq=>?_)
 cases r with
 | error e=>exact hx pins σ H2 s2 e s' I2 hq
 | ok fl =>
  cases fl with
  | ret u=>exact I2.after hq
  | next=>exact False.elim hq
  | brk=>exact False.elim hq
  | cont=>exact False.elim hq
end
def spE (K:PySem.W.Frag) (R:List D->D->Prop) (B:List D->Addr->Prop):Sp:=λvs H Q E =>
 ∃ ds,Dats K H ds vs/\((∃ d,R ds d/\∀ v H',Same H H'->Dat K H' d v->Q v H')\/∃ C,B ds C/\∀ H',Same H H'->E (.ref C) none H')
section
variable {K:PySem.W.Frag} {σ:St} {H:Hp} {tA tK:TA} {ds es fs:List D} {d e:D} {dvs:List V} {R:List D->D->Prop} {B:List D->Addr->Prop} {E:XK} {Q:VK} {C:Addr} {gV:List V->List V->List V} {ta tb:TE}
theorem fk (h:RA K tA σ H ds) (r:R ds d):RE K (fV (spE K R B) [] E tA) σ H d:=λH1 s Q q =>
 h H1 s _ λvs H2 s2 q2=>⟨ds,by rw [List.append_nil];exact q2,.inl ⟨d,r,λv H3 s3 q3=>q _ _ (s2.trans s3) q3⟩⟩
theorem fP (h:RA K tA σ H ds) (r:B ds C) (q:∀ H',Same H H'->E (.ref C) none H'):fV (spE K R B) [] E tA σ H Q :=
 h.use λvs H2 s2 q2=>⟨ds,by rw [List.append_nil];exact q2,.inr ⟨C,r,λH3 s3=>q _ (s2.trans s3)⟩⟩
theorem uL (h:RA K tA σ H ds) (hk:RA K tK σ H es) (hg:∀ H vs zs,Dats K H ds vs->Dats K H es zs->Dats K H fs (gV vs zs)) (r:R fs d):RE K (oB (spE K R B) gV E tA tK) σ H d:=λH1 s Q q =>
 h H1 s _ λvs H2 s2 q2=>hk H2 (s.trans s2) _ λzs H3 s3 q3=>⟨fs,hg _ _ _ (s3.dats q2) q3,.inl ⟨d,r,λv H4 s4 q4=>q _ _ (s2.trans (s3.trans s4)) q4⟩⟩
theorem mX (h:RA K tA σ H ds) (hk:RA K tK σ H es) (hg:∀ H vs zs,Dats K H ds vs->Dats K H es zs->Dats K H fs (gV vs zs)) (r:B fs C) (q:∀ H',Same H H'->E (.ref C) none H'):oB (spE K R B) gV E tA tK σ H Q :=
 h.use λvs H2 s2 q2=>hk H2 s2 _ λzs H3 s3 q3=>⟨fs,hg _ _ _ (s3.dats q2) q3,.inr ⟨C,r,λH4 s4=>q _ (s2.trans (s3.trans s4))⟩⟩
theorem zH (h1:RE K ta σ H d) (h2:RE K tb σ H e) (n1:noL d=true) (n2:noL e=true) (dp:fe d≤20):RE K (tOp (Bv K true) ta tb) σ H (.bl (!eqD d e)):=λH1 s Q q =>
 h1 H1 s _ λv H2 s2 q2=>h2 H2 (s.trans s2) _ λw H3 s3 q3=>⟨d,e,s3.dat q2,q3,n1,n2,dp,q _ _ (s2.trans s3) (Dat.blI _)⟩
variable {i:Nat}
theorem aL {x D:Addr} {c:V} {b:Bool} (hx:H x=some (js x D)) (kx:iy K D) (kit:PySem.W.kitOne K (.ref D) (clV c)=some b) (hc:(∃ a,c=.ref a)\/∃ n,c=.ty n) (e:σ[i]?=some (some (.ref x)):=by rfl) :
  RE K (tCB (λxs H Q=>∃ x D c b,xs=[.ref x,c]/\((∃ a,c=.ref a)\/∃ n,c=.ty n)/\H x=some (js x D)/\iy K D/\PySem.W.kitOne K (.ref D) (clV c)=some b/\Q (.bl b) H) (bj (cx i) (bj (tC c) ck))) σ H (.bl b):=λH1 s Q q =>
 ⟨_,e,x,D,c,b,rfl,hc,s _ _ hx,kx,kit,q _ _ (Same.refl _) (Dat.blI _)⟩
variable {l:Addr}
theorem jK {bs:List Bool} (hl:H l=some (.lst (blV bs))) (e:σ[i]?=some (some (.ref l)):=by rfl) :
  RE K (tBM K "list" (λx vs H Q=>∃ l bs,x=.ref l/\vs=[.bl true]/\H l=some (.lst (blV bs))/\Q (.int (bs.count true:Nat)) H) (cx i) (bj (tC (.bl true)) ck)) σ H (.int (bs.count true:Nat)):=λH1 s Q q =>
 ⟨_,e,.inl ⟨rfl,_,SqL.of (s _ _ hl)⟩,l,bs,rfl,rfl,s _ _ hl,q _ _ (Same.refl _) (Dat.intI _)⟩
theorem jL {j:Nat} {bs:List Bool} (hl:H l=some (.lst (blV bs))) (hn:bs.length≤1000) (h1:bs[j]?=some true) (h2:∀ m,m < j->bs[m]?=some false) (e:σ[i]?=some (some (.ref l)):=by rfl) :
  RE K (tBM K "list" (λx vs H Q=>∃ l bs j,x=.ref l/\vs=[.bl true]/\H l=some (.lst (blV bs))/\bs.length≤1000/\bs[j]?=some true/\(∀ m,m < j->bs[m]?=some false)/\Q (.int (j:Nat)) H) (cx i) (bj (tC (.bl true)) ck)) σ H (.int (j:Nat)):=λH1 s Q q =>
 ⟨_,e,.inl ⟨rfl,_,SqL.of (s _ _ hl)⟩,l,bs,j,rfl,rfl,s _ _ hl,hn,h1,h2,q _ _ (Same.refl _) (Dat.intI _)⟩
end
section
variable {X:Cx}
theorem jC:fillsNumberSlot (.type "tuple") "mul"=pure false :=
 PySem.fillsNumberSlot_seq (id:="tuple.__mul__") (r:=some (.builtin "tuple.__rmul__")) PySem.F.slot_tuple_mul.lookup (by decide +kernel) PySem.F.slot_tuple_rmul.lookup (by decide +kernel)
theorem oi:seqRepeat? (.type "tuple")=pure (some (.builtin "tuple.__mul__")):=by
 unfold seqRepeat?
 rw [PySem.seqSlot_of (T:="tuple") (name:="__mul__") (id:="tuple.__mul__") PySem.F.slot_tuple_mul.lookup (by decide +kernel),PySem.seqSlot_of (T:="tuple") (name:="__rmul__") (id:="tuple.__rmul__") PySem.F.slot_tuple_rmul.lookup (by decide +kernel)]
 rfl
theorem kL (a:Int) (t:Tok) (l:Addr) (items:Array Value) (n:Nat) (dd:Option Addr) (sl:Array (Option Value)) :
  Meets (Builtin.«int.__rmul__» ⟨[.int a t,.ref l],[]⟩) (λ_ R s=>s.heap.get? l=some { cls:=.type "tuple",dict:=dd,data:=.seq items n,slots:=sl }/\R (.ok (.ret Value.notImplemented)) s) :=
 .of_wp λ_ _ _ _ s q=>by
  obtain ⟨h0,g0,d0,t0,o0⟩:=s
  obtain ⟨at_l,q⟩:=q
  wp_walk
  exact ⟨_,rfl,q⟩
end
end L2
namespace L2
open PySem PySem.Spec PySem.Calls PyProof.Rows PySem.W PySem.Builtin PySem.Builtin.ObjectAttr
abbrev BX (us:List Value):Obj:={ cls:=.type "tuple",data:=.seq us.toArray }
abbrev vG (C t:Addr):Obj:={ cls:=.ref C,data:=.fields #[.ref t,.none,.none,.none,.bool false,.none] }
abbrev jV (h:Heap) (C:Addr) (us:List Value):Heap:=(h.push (BX us)).push (vG C h.objs.size)
variable {C:Addr} {us:List Value}
theorem eL {h:Heap} (b:Addr) (o:Obj) (q:h.get? b=some o):(jV h C us).get? b=some o:=by
 have q1:=Heap.get?_push_of_some (BX us) q
 exact Heap.get?_push_of_some _ q1
theorem fN {h:Heap}:(jV h C us).get? (h.objs.size+1)=some (vG C h.objs.size):=by heap_get
theorem uw {h:Heap}:h.get? (h.objs.size+1)=none:=Heap.get?_none_of_le (by omega)
structure tX (K:Frag) (C fI:Addr):Prop where
 at_:ip K C [.type "ValueError",.type "Exception",.type "BaseException",.type "object"] "ValueError.__new__" (some (.ref fI))=true
 ini:findIn K (.ref C) "__init__"=some (some (.ref fI))
 fn:typeIn K (.ref fI)=some (.type "function")
 kp:keepIn K (.ref C)=true
section
variable {prog:Program} {w:World} {A:Around} {E:Value->Shared->Prop} {K:Frag} {C fI:Addr} {us:List Value}
theorem uy {s:Shared} {Q:Value->Shared->Prop} (X:K.In s.heap) (kc:tX K C fI) (hl:us.length≤sizeLine)
  (h:wpAny (model prog w) (A.under (.builtin "type.__call__" ⟨.ref C::us,[]⟩)) (call (.ref fI) (.ref (s.heap.objs.size+1)::us)) (λr s'=>r=.none/\Q (.ref (s.heap.objs.size+1)) s') E { s with heap:=jV s.heap C us }) :
  wpAny (model prog w) A (call (.ref C) us) Q E s:=by
 obtain ⟨bm,N,nm,qn,bs,hdd,sn,sub,ab,col,dd,k0,k1,k2,k3,k5,mN,hC,_,_,T⟩:=qK X kc.at_
 have V:=PySem.F.excBase_ValueError
 have isT:s.TypeIs (.ref C) "type":=⟨_,hC,rfl⟩
 have l1:=tc_lookup
 have l2:=tc_bind (.ref C)
 have hC2:=eL (us:=us) (C:=C) C _ hC
 have X2:K.In (jV s.heap C us):=X.keeps eL
 have self1:(Value.ref C::bm).contains (.ref C)=true:=by simp
 obtain ⟨h0,g0,d0,t0,o0⟩:=s
 refine wpAny_call (codeAny_of_tree ?_)
 show wpAny _ _ (callAny (.ref C) _) _ _ _
 repeat' (first | assumption | (with_reducible refine wpAny_loadPart_at hC ?_) | wp_step)
 refine ⟨rfl,codeAny_call_builtin_at (Code.quiet_builtin _ (by decide +kernel)) entry_typeCall (wpAny_check_type_call_sub hC ?_)⟩
 repeat (first | (with_reducible refine wpAny_madeBy_exc hC ?_) | (with_reducible refine wpAny_isSubtype_exc hC ?_) | (with_reducible refine wpAny_loadPart_at hC ?_) | wp_step)
 refine codeAny_call_builtin_code (Code.quiet_builtin _ V.quiet) (wpAny_check_new_subU V (by decide) T hC (codeAny_exc_new_subU V (by decide) V T hC ?_ hl))
 show wpAny _ _ _ _ _ _
 unfold isInstance
 repeat (first | (with_reducible refine wpAny_madeBy_exc fN ?_) | (with_reducible refine wpAny_isSubtype_exc fN ?_) | (with_reducible refine wpAny_loadPart_at fN ?_) | wp_step)
 refine wpAny_isSubtype_exc hC2 ?_
 rw [self1]
 refine wpAny_bind (wpAny_holding (special_fn (s:=⟨jV h0 C us,g0,d0,t0,o0⟩) X2 (od:=none) ⟨fN,rfl,rfl,trivial⟩ kc.ini kc.fn (wpAny_mono h (λr s' ⟨er,q⟩=>?_) λ_ _ z=>z)))
 subst er
 exact wpAny_pure q
end
abbrev ql (h:Heap) (x:Addr):Heap:=(h.push { cls:=.type "dict",data:=.dict #[] }).update x λo=>{ cls:=o.cls,dict:=some h.objs.size,data:=o.data,slots:=o.slots }
section
variable {h:Heap} {x b:Addr} {o:Obj} {vs:Array Value}
theorem yc (q:h.get? x=some o) (hd:o.data=.fields vs):(ql h x).get? x=some { o with dict:=some h.objs.size }:=by
 have q1:(h.push { cls:=.type "dict",data:=.dict #[] }).get? x=some o:=Heap.get?_push_of_some _ q
 refine Heap.get?_update_self _ q1 ?_
 obtain ⟨c,d,dt,sl⟩:=o
 subst hd
 rfl
theorem qm (hb:b≠x) (q:h.get? b=some o):(ql h x).get? b=some o:=by
 rw [Heap.get?_update_ne _ _ _ _ hb]
 exact Heap.get?_push_of_some _ q
theorem su (q:h.get? x=some o):(ql h x).Ns1 h.objs.size λ_=>none:=by
 have lt:h.objs.size≠x:=Ne.symm (Nat.ne_of_lt (Heap.lt_size q))
 have e:(ql h x).get? h.objs.size=some { cls:=.type "dict",data:=.dict #[] }:=by
  rw [Heap.get?_update_ne _ _ _ _ lt]
  exact Heap.get?_push_at rfl rfl
 exact Heap.Ns1.of_empty ⟨_,#[],_,e,rfl,λen hen=>absurd hen (by simp),λ_=>rfl⟩
end
def jb:List Value->Bool
 | .ref _::r=>jb r
 | l=>l == [.type "ValueError",.type "Exception",.type "BaseException",.type "object"]
theorem jY (self:Value):∀ {l:List Value},jb l=true->refuseLoop self "__setattr__" l=pure ()
 | [],e=>by simp [jb] at e
 | v::r,e=>by
  cases v with
  | ref c=>rw [refuseLoop_ref];exact jY self (l:=r) e
  | type n =>
   have e':=beq_iff_eq.mp (show (Value.type n::r == [.type "ValueError",.type "Exception",.type "BaseException",.type "object"])=true from e)
   rw [e']
   exact PySem.F.store_ValueError.passes self
  | _=>exact absurd (beq_iff_eq.mp (show (_ == ([.type "ValueError",.type "Exception",.type "BaseException",.type "object"]:List Value))=true from e)) (by simp)
structure vv (K:Frag) (C:Addr) (name:Str):Prop where
 sa:findIn K (.ref C) "__setattr__"=some (some (.builtin "object.__setattr__"))
 ob:mroIn K C (.type "object")=some true
 over:(clsIn K C).any (λcd=>jb cd.mro)=true
 no:findIn K (.ref C) name=some none
 hd:(clsIn K C).any (·.hasDict)=true
section
variable {prog:Program} {w:World} {A:Around} {E:Value->Shared->Prop} {s:Shared} {K:Frag} {x C:Addr} {ox:Obj} {name:Str} {v:Value} {vs:Array Value}
theorem nK {M:Model} (X:K.In s.heap) (ty:Looks M s.heap (typeOf (.ref x)) (.ref C)) (st:vv K C name):Looks M s.heap (refuseIfOverridden (.ref x) "__setattr__") ():=by
 obtain ⟨cd,hc,hov⟩:=any_some st.over
 have row:Looks M s.heap (mroOf (.ref C)) cd.mro:=(looks_clsIn X hc).andThen .now
 exact ty.andThen (row.andThen (Looks.of_pure (jY (.ref x) hov)))
theorem p9 {Q:Unit->Shared->Prop} (X:K.In s.heap) (st:vv K C name) (hx:s.heap.get? x=some ox) (hc:ox.cls=.ref C) (hd:ox.dict=none) (hdt:ox.data=.fields vs)
  (h:∀ h' tk,(∀ b o,b≠x->s.heap.get? b=some o->h'.get? b=some o)->h'.get? x=some { ox with dict:=some s.heap.objs.size }->h'.Ns1 s.heap.objs.size (λy=>if y=name then some v else none)->Q () { s with heap:=h',toks:=tk }) :
  wpAny (model prog w) A (setAttr (.ref x) name v) Q E s:=by
 have inst:InstAt s.heap x ox C none:=⟨hx,hc,by unfold notCls;rw [hdt],by rw [hd];trivial⟩
 have ty:Looks (model prog w) s.heap (typeOf (.ref x)) (.ref C):=inst.type
 have ok:Looks (model prog w) s.heap (isInstance (.ref x) (.type "object")) true:=ty.andThen (looks_mroIn X st.ob)
 have SO:=PySem.F.store_object
 refine set_plain X inst st.sa (codeAny_call_builtin SO.slot.plain SO.entry ?_)
 refine @check_slot (model prog w) _ _ { s with toks:=s.toks+1 } "object.__setattr__" "object" "__setattr__" (.ref x) [.str name s.toks,v] [] _ SO.kind SO.split ok (SO.args _ _ _) ?_
 rw [osa_eq]
 refine wpAny_bind ((nK (s:={ s with toks:=s.toks+1 }) X ty st).here ?_)
 refine wpAny_bind (Looks.here (s:={ s with toks:=s.toks+1 }) ty ?_)
 refine wpAny_bind (Looks.here (s:={ s with toks:=s.toks+1 }) (looks_findIn X st.no) ?_)
 refine wpAny_bind (wpAny_pure ?_)
 obtain ⟨cd,hcd,has⟩:=any_some st.hd
 obtain ⟨oc,od,oda,osl⟩:=ox
 dsimp only at hc hd hdt
 subst hc hd hdt
 obtain ⟨h0,g0,d0,t0,o0⟩:=s
 show wpAny _ _ (storeInOwnDict (.ref x) (.ref C) (.str name t0) name v false) _ _ ⟨h0,g0,d0,t0+1,o0⟩
 have X':K.In h0:=X
 refine wpAny_bind (wpAny_pure (wpAny_bind ?_))
 show wpAny _ _ (instanceDict x true) _ _ _
 refine wpAny_bind (wpAny_loadPart hx (wpAny_bind (Looks.here (s:=⟨h0,g0,d0,t0+1,o0⟩) (looks_clsIn X' hcd) ?_)))
 rw [has]
 dsimp only
 rw [if_neg (by simp)]
 refine wpAny_bind (wpAny_alloc' (wpAny_bind (wpAny_update' (Heap.get?_push_of_some _ hx) (wpAny_pure ?_))))
 show wpAny _ _ (storeInDict h0.objs.size (.str name t0) name v) _ _ ⟨ql h0 x,g0,d0,t0+1,o0⟩
 unfold storeInDict newKeyGuard
 refine wpAny_bind (wpAny_pure (wpAny_bind (wpAny_nsSet1 (su hx) λh' ns' same=>?_)))
 obtain ⟨od',es,ep,hod,hes,few⟩:=ns'.count (Within.cons name v Within.nil)
 have few':es.size≤1:=few
 refine wpAny_bind (wpAny_lookBehind hod (by rw [hes];exact pastItsLine_dict (by rw [sizeLine_eq];omega)) (wpAny_pure (h h' _ (λb ob hb q=>?_) ?_ ns')))
 ·exact (same.2 b (Nat.ne_of_lt (Heap.lt_size q))).trans (qm hb q)
 ·exact (same.2 x (Nat.ne_of_lt (Heap.lt_size hx))).trans (yc hx rfl)
end
def j1 (e C:Addr) (a0:Value):HO:=.ext λh=>∃ oe vs,h.get? e=some oe/\(oe.cls=.ref C/\vs[0]?=some a0)/\oe.data=.fields vs/\vs[1]?=some .none/\oe.dict=none
section
variable {X:Cx} {pins:List (Addr × Obj)} {σ:St} {H:Hp} {s s':Shared} {C fI e:Addr} {fd:FuncData} {k:Nat} {ps:List Str} {a0:Value}
end
theorem uK {M:Model} {A:Around} {E:Value->Shared->Prop} {s:Shared} {env:Env} {K:Frag} {fI:Addr} {x:Sem Value} {Q:Flow->Shared->Prop} (kc:tX K C fI) (hh:A.handled=none)
  (h:wpAny M A x (λr s'=>∃ e oe vs,r=.ref e/\s'.heap.get? e=some oe/\oe.cls=.ref C/\oe.data=.fields vs/\vs[1]?=some .none/\K.In s'.heap/\E (.ref e) s') E s):wpAny M A (raiseStmt env (some x) none) Q E s:=by
 refine wpAny_bind (thn h λr s1 ⟨e,oe,vs,er,he,hcl,hdt,hv1,X1,q⟩=>?_)
 subst er
 obtain ⟨bm,N,nm,qn,bs,hdd,sn,sub,ab,col,dd,k0,k1,k2,k3,k5,mN,hC,_,_,T⟩:=qK X1 kc.at_
 have isB:(Value.ref C::bm).contains (.type "BaseException")=true:=by
  rw [List.contains_cons,T.hasType (X:="BaseException") (b:=true) (by decide)]
  rfl
 obtain ⟨oc,od,odt,osl⟩:=oe
 obtain rfl:oc=.ref C:=hcl
 obtain rfl:odt=.fields vs:=hdt
 obtain ⟨h1,g1,d1,t1,o1⟩:=s1
 repeat (first | (with_reducible refine wpAny_loadPart_at he ?_) | (with_reducible refine wpAny_loadPart_at hC ?_) | (with_reducible refine wpAny_isSubtype_exc hC ?_;rw [isB]) | rw [hv1] | wp_step)
 exact wpAny_raiseNew_none hh q
end L2
namespace L2
open PySem PySem.Spec PySem.Calls PyProof.Rows
section
variable {prog:Program} {w:World} {A:Around} {E:Value->Shared->Prop} {s:Shared} {it t:Addr} {i:Nat} {items:Array Value}
end
section
variable {prog:Program} {w:World} {A:Around} {E:Value->Shared->Prop} {s:Shared} {z TI TO i1 i2 t1 t2:Addr} {k:Nat} {xs ys:Array Value}
end
theorem PS.nox {X:Cx} {st:Stmt} {t:TS} (h:PS X.nox st t):PS X st t:=λpins s σ H D I hw=>wpAny_mono (h pins s σ H D (I.wish _) hw) (λf s1 q=>by
 cases f with
 | next=>obtain ⟨σ',H',J,z⟩:=q;exact ⟨σ',H',J.unwish,z⟩
 | brk=>obtain ⟨σ',H',J,z⟩:=q;exact ⟨σ',H',J.unwish,z⟩
 | cont=>obtain ⟨σ',H',J,z⟩:=q;exact ⟨σ',H',J.unwish,z⟩
 | ret u=>obtain ⟨v,σ',H',J,r,z⟩:=q;exact ⟨v,σ',H',J.unwish,r,z⟩) λ_ _ z=>z.elim
section
variable {K:PySem.W.Frag} {σ:St} {H:Hp} {tA:TA} {ar:List Ar} {d:D} {R:List Ar->D->Prop} {B:List Ar->Addr->Prop} {E:XK} {Q:VK} {C:Addr}
end
end L2
namespace L2
open PySem PySem.Spec PyProof.Rows
section
variable {X:Cx}
end
section
variable {K:PySem.W.Frag} {σ:St} {H H':Hp} {d d':D} {ds es:List D} {t u ta tb te tl:TE} {tA:TA} {mk:St->St} {jj:Nat}
inductive LDs (K:PySem.W.Frag) (H:Hp):List (List D)->List V->Prop
 | nil:LDs K H [] []
 | cons {es:List D} {v:V} {ess:List (List D)} {vs:List V}:LD K H es v->LDs K H ess vs->LDs K H (es::ess) (v::vs)
variable {ess:List (List D)} {vs:List V}
theorem LDs.length (h:LDs K H ess vs):ess.length=vs.length:=by
 induction h with
 | nil=>rfl
 | cons _ _ ih=>simp [ih]
theorem LDs.map (h:LDs K H ess vs) (f:∀ es v,LD K H es v->LD K H' es v):LDs K H' ess vs:=by
 induction h with
 | nil=>exact .nil
 | cons h1 _ ih=>exact .cons (f _ _ h1) ih
theorem Same.lds (e:Same H H') (h:LDs K H ess vs):LDs K H' ess vs:=h.map λ_ _ z=>e.ld z
theorem LDs.snoc {es:List D} {v:V} (h:LDs K H ess vs) (h1:LD K H es v):LDs K H (ess++[es]) (vs++[v]):=by
 induction h with
 | nil=>exact .cons h1 .nil
 | cons k _ ih=>exact .cons k ih
theorem LDs.get (h:LDs K H ess vs):∀ {i:Nat} {es:List D},ess[i]?=some es->∃ v,vs[i]?=some v/\LD K H es v:=by
 induction h with
 | nil=>intro i es e;cases e
 | cons k _ ih =>
  intro i es e
  cases i with
  | zero=>cases e;exact ⟨_,rfl,k⟩
  | succ i=>exact ih e
def RCL (K:PySem.W.Frag) (t:TE) (σ:St) (H:Hp) (ess:List (List D)):Prop:=∀ H1,Same H H1->∀ Q:VK,(∀ l ys H',H1 l=none->Same H1 H'->H' l=some (.lst ys)->LDs K H' ess ys->Q (.ref l) H')->t σ H1 Q
theorem RCL.use {Q:VK} (h:RCL K t σ H ess) (q:∀ l ys H',H l=none->Same H H'->H' l=some (.lst ys)->LDs K H' ess ys->Q (.ref l) H'):t σ H Q:=h H (Same.refl H) Q q
def Off (K:PySem.W.Frag) (H:Hp) (l:Addr) (vs:List V):Prop:=∀ v ∈ vs,v≠.ref l
theorem LDs.grown {l:Addr} {zs zs':List V} (h:LDs K H ess vs) (off:Off K H l vs) (e:But l H H') (h1:H l=some (.lst zs)) (h2:H' l=some (.lst zs')):LDs K H' ess vs:=by
 have g:cT K H H':=e.grow h1 h2
 induction h with
 | nil=>exact .nil
 | cons k _ ih =>
  refine .cons ?_ (ih λv hv=>off v (List.mem_cons_of_mem _ hv))
  obtain ⟨a,us,rfl,ha,hd⟩:=k
  have na:a≠l:=λz=>off _ List.mem_cons_self (by rw [z])
  refine ⟨a,us,rfl,?_,Dats.mono g _ hd⟩
  exact ha.elim (λz=>.inl (e _ _ na z)) .inr
end
end L2
namespace L2
open PySem PySem.Spec PySem.Calls PyProof.Rows
section
variable {prog:Program} {w:World} {A:Around} {E:Value->Shared->Prop} {s:Shared} {z TI TO i1 i2 t1 t2:Addr} {k:Nat} {xs ys:Array Value}
end
section
variable {K:PySem.W.Frag} {σ:St} {H H':Hp} {d d':D} {ds es:List D} {t u ta tb te tl:TE} {tA:TA} {mk:St->St} {jj:Nat} {o:Option (List D)} {os:List (Option (List D))} {vs:List V} {ar:List Ar}
end
section
variable {prog:Program} {w:World} {A:Around} {E:Value->Shared->Prop} {s:Shared}
end
def An (K:PySem.W.Frag):R2:=λx y H Q=>∃ a b ys,x=.ref a/\y=.ref b/\SqT K H a []/\SqT K H b ys/\Q (.ref b) H
variable {X:Cx}
theorem op_catE:OpR X (binaryOp .Add) (An X.K):=λpins s σ H x y v u Q I rx ry ⟨a,b,ys,ex,ey,ha,hb,q⟩=>by
 subst ex ey
 cases rx
 cases ry
 obtain ⟨i1,r1,p1,_⟩:=I.tuple ha
 obtain ⟨i2,r2,p2,_⟩:=I.tuple hb
 have e1:=r1.nil_iff.mpr rfl
 subst e1
 obtain ⟨⟨c1,d1,t1,l1⟩,o1,k1,n1,m1⟩:=id p1
 obtain ⟨⟨c2,d2,t2,l2⟩,o2,k2,n2,m2⟩:=id p2
 simp only at k1 m1 k2 m2
 subst k1 m1 k2 m2
 exact concat_meets ⟨_,o1,rfl⟩ ⟨_,o2,rfl⟩ noFill_tuple_add seq_tuple_add PySem.F.slot_tuple_add PySem.F.entry_tuple_add (PySem.F.args_tuple_add_2 _ _) (tuple_addW0 a b _ _ n1 n2 d1 d2 l1 l2 rfl) ⟨o1,o2,.ref b,H,I,rfl,q⟩
def tJ (K:PySem.W.Frag):R2:=λx y H Q=>An K x y H Q\/Ap K x y H Q
theorem zc:OpR X (binaryOp .Add) (tJ X.K):=op_catE.or zb
section
variable {K:PySem.W.Frag} {σ:St} {H H':Hp} {d:D} {ds es:List D} {t u ta tb te:TE} {n:Nat}
theorem vQ {x y:V} {Q:VK} (h1:Dat K H (.tup ds) x) (h2:Dat K H (.tup es) y) (hl:ds.length+es.length≤1000) (q:∀ v H',Same H H'->Dat K H' (.tup (ds++es)) v->Q v H'):tJ K x y H Q:=by
 obtain ⟨a,xs,ea,ha,da⟩:=h1.tupE
 obtain ⟨b,ys,eb,hb,db⟩:=h2.tupE
 have l1:=da.length
 have l2:=db.length
 cases ds with
 | nil =>
  have e:=da.nilE
  subst e
  exact .inl ⟨a,b,ys,ea,eb,ha,hb,q _ _ (Same.refl _) (Dat.tupI hb db)⟩
 | cons d ds =>
  refine .inr ⟨a,b,xs,ys,ea,eb,ha,hb,λz=>?_,eM (by omega),λz=>?_,λ_ p hp=>?_⟩
  ·rw [z] at l1;cases l1
  ·have e:es=[]:=List.length_eq_zero_iff.mp (by rw [l2,z];rfl)
   subst e
   rw [List.append_nil] at q
   exact q _ _ (Same.refl _) (Dat.tupI ha da)
  ·exact q _ _ (aC hp _) (Dat.tupI (SqT.of av) ((aC hp _).dats (Dats.append da db)))
theorem zB (h1:RE K ta σ H (.tup ds)) (h2:RE K tb σ H (.tup es)) (hl:ds.length+es.length≤1000):RE K (tOp (tJ K) ta tb) σ H (.tup (ds++es)):=λH1 s Q q =>
 h1 H1 s _ λv H2 s2 q2=>h2 H2 (s.trans s2) _ λw H3 s3 q3=>vQ (s3.dat q2) q3 hl λv H' s' k=>q v H' (s2.trans (s3.trans s')) k
theorem rJ (h:RE K t σ H (.tup es)):RC K (tCB (λxs H Q=>∃ p ys,xs=[.ref p]/\(SqL K H p ys\/SqT K H p ys)/\∀ l,H l=none->Q (.ref l) (upd H l (.lst ys))) (bj t ck)) σ H es:=λH1 s Q q =>
 iw ((h.mono s).use λv H' s' hd=>by
  obtain ⟨a,vs,e,hq,hds⟩:=hd.tupE
  subst e
  exact ⟨a,vs,rfl,.inr hq,λl hl=>q l vs _ (s'.free hl) (s'.trans (aC hl _)) av ((aC hl _).dats hds)⟩)
end
end L2
namespace L2
open PySem
def Kept (h h':Heap):Prop:=∀ (b:Addr) (o:Obj),h.objs[b]?=some o->∃ o',h'.objs[b]?=some o'/\o'.dict=o.dict
theorem Kept.refl {h:Heap}:Kept h h:=λ_ o e=>⟨o,e,rfl⟩
theorem Kept.trans {h1 h2 h3:Heap} (x:Kept h1 h2) (y:Kept h2 h3):Kept h1 h3:=λb o e =>
 let ⟨o1,e1,d1⟩:=x b o e;let ⟨o2,e2,d2⟩:=y b o1 e1;⟨o2,e2,d2.trans d1⟩
variable {o:Obj}
theorem Kept.push {h:Heap}:Kept h (h.push o):=λb u e=>by
 obtain ⟨objs,l⟩:=h
 refine ⟨u,?_,rfl⟩
 show (objs.push o)[b]?=some u
 have e:objs[b]?=some u:=e
 rw [Array.getElem?_push_lt (Array.getElem?_eq_some_iff.mp e).1]
 exact congrArg some (Array.getElem?_eq_some_iff.mp e).2
variable {a:Addr} {f:Obj->Obj}
theorem Kept.update {h:Heap} (hf:∀ o,(f o).dict=o.dict):Kept h (h.update a f):=λb u e=>by
 obtain ⟨objs,l⟩:=h
 have e:objs[b]?=some u:=e
 by_cases q:a=b
 ·refine ⟨f u,?_,hf u⟩
  show (objs.modify a f)[b]?=some (f u)
  rw [Array.getElem?_modify,if_pos q,e]
  rfl
 ·refine ⟨u,?_,rfl⟩
  show (objs.modify a f)[b]?=some u
  rw [Array.getElem?_modify,if_neg q,e]
theorem Kept.at {h h':Heap} {o':Obj} (k:Kept h h') (e:h.get? a=some o) (e':h'.get? a=some o'):o'.dict=o.dict:=by
 have r:∀ {g:Heap} {u:Obj},g.get? a=some u->g.objs[a]?=some u:=λ{g u} q=>by
  unfold Heap.get? at q
  split at q
  ·cases q
  ·exact q
 obtain ⟨u,eu,d⟩:=k a o (r e)
 have z:=(r e').symm.trans eu
 cases z
 exact d
def Safe {α:Type}:Sem α->Prop
 | .rule _ k=>Safe (k ())
 | .at _ k=>Safe (k ())
 | .load _ _ k=>∀ x,Safe (k x)
 | .update _ _ f k=>(∀ o,(f o).dict=o.dict)/\Safe (k ())
 | .loadIfAlive _ k=>∀ x,Safe (k x)
 | .point _ k=>Safe (k ())
 | .alloc _ k=>∀ x,Safe (k x)
 | .fresh k=>∀ x,Safe (k x)
 | .ask k=>∀ x,Safe (k x)
 | .choose _ _ k=>∀ x,Safe (k x)
 | .handled _ k=>∀ x,Safe (k x)
 | .stack k=>∀ x,Safe (k x)
 | .call ..=>False
 | .resume ..=>False
 | .os ..=>False
 | .newGen ..=>False
 | .genState ..=>False
 | .thread ..=>False
 | _=>True
theorem Safe.bind {α β:Type} {f:α->Sem β} (hf:∀ a,Safe (f a)):∀ {m:Sem α},Safe m->Safe (m >>= f):=by
 intro m hm
 show Safe (m.bind f)
 induction m with
 | pure a=>exact hf a
 | rule _ k ih=>exact ih () hm
 | «at» _ k ih=>exact ih () hm
 | load _ _ k ih=>exact λx=>ih x (hm x)
 | update _ _ g k ih=>exact ⟨hm.1,ih () hm.2⟩
 | loadIfAlive _ k ih=>exact λx=>ih x (hm x)
 | point _ k ih=>exact ih () hm
 | alloc _ k ih=>exact λx=>ih x (hm x)
 | fresh k ih=>exact λx=>ih x (hm x)
 | ask k ih=>exact λx=>ih x (hm x)
 | choose _ _ k ih=>exact λx=>ih x (hm x)
 | handled _ k ih=>exact λx=>ih x (hm x)
 | stack k ih=>exact λx=>ih x (hm x)
 | call=>exact hm.elim
 | resume=>exact hm.elim
 | os=>exact hm.elim
 | newGen=>exact hm.elim
 | genState=>exact hm.elim
 | thread=>exact hm.elim
 | _=>trivial
variable {M:Model}
theorem zX {α:Type} {Γ:Ctx} {Q:α->Pos->Shared->Prop} {E:Value->Pos->Shared->Prop} {h0:Heap}:∀ {t:Sem α} {p:Pos} {s:Shared},Safe t->Kept h0 s.heap->Sem.wp M Γ t Q E p s ->
  Sem.wp M Γ t (λa p' s'=>Q a p' s'/\Kept h0 s'.heap) E p s:=by
 intro t
 induction t with
 | pure a=>exact λ_ k h=>⟨h,k⟩
 | raise e=>exact λ_ _ h=>h
 | unsupported=>exact λ_ _ h=>h
 | finish=>exact λ_ _ h=>h
 | rule _ k ih=>exact λhm kp h=>ih () hm kp h
 | «at» _ k ih=>exact λhm kp h=>ih () hm kp h
 | load _ _ k ih=>exact λhm kp ⟨o,e,h⟩=>⟨o,e,ih o (hm o) kp h⟩
 | update _ _ f k ih=>exact λhm kp ⟨e,h⟩=>⟨e,ih () hm.2 (kp.trans (Kept.update hm.1)) h⟩
 | loadIfAlive _ k ih=>exact λhm kp h=>ih _ (hm _) kp h
 | point _ k ih=>exact λhm kp h=>ih () hm kp h
 | register=>exact λ_ _ h=>h
 | alloc _ k ih=>exact λhm kp h=>ih _ (hm _) (kp.trans Kept.push) h
 | fresh k ih=>exact λhm kp h=>ih _ (hm _) kp h
 | ask k ih=>exact λhm kp h=>ih _ (hm _) kp h
 | choose _ _ k ih=>exact λhm kp ⟨n,h⟩=>⟨n,ih _ (hm _) kp h⟩
 | handled _ k ih=>exact λhm kp h=>ih _ (hm _) kp h
 | stack k ih=>exact λhm kp h=>ih _ (hm _) kp h
 | yield=>exact λ_ _ h=>h
 | fork=>exact λ_ _ h=>h
 | await=>exact λ_ _ h=>h
 | _=>exact λhm=>hm.elim
theorem fq {α:Type} {A:Around} {t:Sem α} {Q:α->Shared->Prop} {E:Value->Shared->Prop} {s:Shared} (hs:Safe t) (h:wpAny M A t Q E s):wpAny M A t (λa s'=>Q a s'/\Kept s.heap s'.heap) E s :=
 λΓ p hΓ=>zX hs Kept.refl (h Γ p hΓ)
theorem fT {α:Type} (a:α):Safe (pure a:Sem α):=trivial
theorem xN (h:∀ o,(f o).dict=o.dict):Safe (update a f):=⟨h,trivial⟩
theorem lN:Safe stack:=λ_=>trivial
theorem mm (v:Value):Safe (fieldsOf v):=by
 unfold fieldsOf
 split
 ·refine Safe.bind (λo=>?_) (λ_=>trivial)
  split <;> trivial
 ·trivial
theorem gq (v:Value) (i:Nat):Safe (field v i):=by
 unfold field
 refine Safe.bind (λvs=>?_) (mm v)
 split <;> trivial
theorem kS (f:Array Value->Array Value) (o:Obj):(Obj.mapFields f o).dict=o.dict:=by
 unfold Obj.mapFields
 split <;> rfl
theorem fH (v:Value) (i:Nat) (x:Value):Safe (setField v i x):=by
 unfold setField
 split
 ·unfold updateField
  refine Safe.bind (λo=>?_) (λ_=>trivial)
  split
  ·split
   ·exact ⟨λo=>kS _ o,trivial⟩
   ·trivial
  ·trivial
 ·trivial
theorem p8 (env:Env) (outer:List Env):Safe (behindIsImport env outer):=by
 unfold behindIsImport
 split
 ·trivial
 ·split
  ·trivial
  ·exact Safe.bind (λ_=>fT _) (gq _ _)
theorem uS (env:Env) (b:Bool) (outer:List Env):Safe (keptBack env b outer):=by
 unfold keptBack
 split
 ·split
  ·trivial
  ·have h:Safe underTheClaimsCaller:=Safe.bind (λ_=>fT _) lN
   exact Safe.bind (λc=>fT _) h
 ·trivial
theorem lM:∀ l:List Env,Safe (readyFrames l)
 | []=>trivial
 | env::outer=>by
  unfold readyFrames
  split
  ·refine Safe.bind (λo=>?_) (λ_=>trivial)
   split
   ·trivial
   ·refine Safe.bind (λi=>Safe.bind (λb=>Safe.bind (λ_=>lM outer) ?_) (uS _ _ _)) (p8 _ _)
    exact xN λ_=>rfl
  ·trivial
theorem rW (env:Env):Safe (frameOf env):=by
 unfold frameOf
 have h:Safe frameEnvs:=Safe.bind (λ_=>fT _) lN
 refine Safe.bind (λl=>?_) h
 refine Safe.bind (λo=>?_) ?_
 ·split <;> trivial
 ·unfold frameObject
  split
  ·trivial
  ·exact Safe.bind (λ_=>fT _) (lM (_::_))
theorem rX (f:Addr) (b:Bool):Safe (entryPlaceOf f b):=by
 unfold entryPlaceOf
 refine Safe.bind (λl=>?_) (λ_=>trivial)
 split <;> trivial
theorem rV (a b c d e:Value) (l:List Value):Safe (EntryCells.newEntry a b c d e l):=by
 unfold EntryCells.newEntry newFields newObj
 have h:∀ d:Data,Safe (newObjAsIs (.type "traceback") d):=λd _=>trivial
 generalize ([a,b,c,d,e]++if l.isEmpty=true then List.replicate 6 Value.none else l).toArray=vs
 dsimp only
 split
 ·exact Safe.bind (λ_=>h _) (m:=unsupported _) trivial
 ·exact h _
theorem gU (e:Value) (f:Option Addr):Safe (setFlight e f):=by
 unfold setFlight
 refine Safe.bind (λtb=>?_) (gq _ _)
 split
 ·exact fH _ _ _
 ·trivial
theorem mY (e:Value) (env:Env):Safe (noteFrame e env):=by
 unfold noteFrame
 split
 ·refine Safe.bind (λhd=>?_) (gq _ _)
  have last:∀ b:Bool,Safe (do setField e 1 (← EntryCells.newEntry hd (← frameOf env) .none (rawInt ‹Addr›) .none (← entryPlaceOf ‹Addr› b))):=λb =>
   Safe.bind (λfr=>Safe.bind (λpl=>Safe.bind (λen=>fH _ _ _) (rV _ _ _ _ _ _)) (rX _ _)) (rW _)
  split
  ·refine Safe.bind (λfl=>?_) (gq _ _)
   split
   ·trivial
   ·exact Safe.bind (λ_=>last _) (fH _ _ _)
  ·exact last _
 ·trivial
theorem jl (env:Env) (e:Value):Safe (leaving env e):=Safe.bind (λ_=>gU _ _) (mY _ _)
end L2
namespace L2
open PySem PySem.Spec PySem.Calls PyProof.Rows PySem.W PySem.Builtin PySem.Builtin.ObjectAttr
def DictAt (h:Heap) (a:Addr) (dx:Option Addr):Prop:=∃ oe,h.get? a=some oe/\oe.dict=dx
theorem Kept.dictAt {h h':Heap} {a:Addr} {dx:Option Addr} {cls a0:Value} {T:Addr} (k:Kept h h') (d:DictAt h a dx) (t:Trc h' a T cls a0):DictAt h' a dx:=by
 obtain ⟨oe,he,hd⟩:=d
 obtain ⟨o2,_,_,_,h2,_⟩:=t
 exact ⟨o2,h2,(k.at he h2).trans hd⟩
def CX2 (P:Program) (w:World):CXT:=λouter H s E e s' =>
 ∃ a T cls a0 dx H',e=.ref a/\s'.os=s.os/\AllBare s'.gens/\Un (frs outer) [] H H' s.heap s'.heap/\HOk P w H' s'.heap /\
  (s.heap.get? a=none/\s.heap.get? T=none/\H' a=none/\H' T=none)/\Trc s'.heap a T cls a0/\DictAt s'.heap a dx/\E cls dx H'
section
variable {X:Cx} {pins:List (Addr × Obj)} {σ:St} {H:Hp} {s s':Shared} {E:XK} {e:Value}
theorem CX2.behind (I:Inv X pins σ H s) (x:CX2 X.prog X.w X.stack H s E e s'):∃ a T cls a0 dx H',e=.ref a/\E cls dx H'/\DictAt s'.heap a dx/\s.heap.get? a=none/\H' a=none/\Inv X pins σ H' s' /\
  Heap.FlyingW (PySem.W.hideAll s'.heap (a::T::frs X.stack)) X.stack a cls a0 s'.heap /\
  ∀ h2 l',Heap.FlyingW (PySem.W.hideAll s'.heap (a::T::frs X.stack)) l' a cls a0 h2->s'.heap.UpToSlots h2 ->
   ∃ T2,Inv X pins σ H' { s' with heap:=h2 }/\Trc h2 a T2 cls a0/\s.heap.get? T2=none/\H' T2=none/\Un (frs X.stack) [] H H' s.heap h2:=by
 obtain ⟨a,T,cls,a0,dx,H',rfl,os,bare,un,hok,fr,tr,da,q⟩:=x
 obtain ⟨a2,T2,c2,a02,H2,e2,⟨rfl,rfl⟩,sa,na,J,fl,back⟩:=CX1.behind (E:=λc _ G=>c=cls/\G=H') I ⟨a,T,cls,a0,H',rfl,os,bare,un,hok,fr,tr,rfl,rfl⟩
 cases e2
 exact ⟨a,T2,_,a02,dx,_,rfl,q,da,sa,na,J,fl,back⟩
end
variable {P:Program} {w:World} {K:PySem.W.Frag} {mg:Str->Option Value} {base:Heap} {N:List Str} {qual:Str} {scope:Scope} {f:Addr} {cd:Value} {A:Around} {outer:List Env} {s:Shared} {H:Hp} {E:XK}
theorem dC :
  eZ (CX2 P w) (ic (CX2 P w) P w K mg base N qual scope f cd A outer s H E) E:=by
 intro pins σ H1 s1 e s' I x
 obtain ⟨a,T,cls,a0,dx,H',rfl,q,da,sa,na,J,fl,back⟩:=CX2.behind I x
 refine wpAny_mono (fq (jl _ _) (wpAny_leaves_onW (Q:=λ_ s2=>∃ h2,s2={ s' with heap:=h2 }/\Heap.FlyingW (PySem.W.hideAll s'.heap (a::T::frs (envOfC qual scope s.heap.objs.size f cd::outer))) outer a cls a0 h2/\s'.heap.UpToSlots h2)
  (L:=s.heap.objs.size) I.ok.frames rfl fl λh2 f2 up=>⟨h2,rfl,f2,up⟩)) (λ_ s2 ⟨⟨h2,e2,f2,up⟩,kp⟩=>?_) λ_ _ z=>z
 subst e2
 obtain ⟨T2,J2,t2,sT2,nT2,_⟩:=back h2 _ f2 up
 have up0:∀ b,s1.heap.get? b=none->s.heap.get? b=none:=λb z=>by
  cases q:s.heap.get? b with
  | none=>rfl
  | some o =>
   obtain ⟨o',r⟩:=I.base.there b o q (by show b ∉ ([]:List Addr);simp)
   rw [z] at r;cases r
 exact ⟨a,T2,cls,a0,dx,H',rfl,J2.os,J2.bare,J2.base,J2.hok,⟨up0 a sa,up0 T2 sT2,na,nT2⟩,t2,kp.dictAt da t2,q⟩
def yh (P:Program) (w:World):CXT:=λouter H s E e s' =>
 ∃ a cls a0 dx H',e=.ref a/\s'.os=s.os/\AllBare s'.gens/\Un (frs outer) [] H H' s.heap s'.heap/\HOk P w H' s'.heap /\
  (s.heap.get? a=none/\H' a=none)/\Fre s'.heap a cls a0/\DictAt s'.heap a dx/\E cls dx H'
theorem d9 :
  eZ (yh P w) (ic (CX2 P w) P w K mg base N qual scope f cd A outer s H E) E:=by
 intro pins σ H1 s1 e s' I x
 obtain ⟨a,cls,a0,dx,H',rfl,os,bare,un,hok,⟨sa,na⟩,⟨oe,vs,he,⟨hc,h0⟩,hd,hv⟩,da,q⟩:=x
 have J:Inv (ic (CX2 P w) P w K mg base N qual scope f cd A outer s H E) pins σ H' s':=I.call' (ch:=[]) os un hok bare (λb z=>absurd z (by simp))
 subst hc
 refine wpAny_mono (fq (jl _ _) (wpAny_leaving_firstW (Q:=λ_ s2=>∃ h2,s2={ s' with heap:=h2 }/\Heap.LeftW (PySem.W.hideAll s'.heap (a::a::frs (envOfC qual scope s.heap.objs.size f cd::outer))) (envOfC qual scope s.heap.objs.size f cd::outer) a oe.cls a0 s'.heap h2) (L:=s.heap.objs.size) (a0:=a0) I.ok.frames
  (PySem.W.funFrames_hide J.stack λenv hm b hb=>.tail _ (.tail _ (List.mem_filterMap.mpr ⟨env,hm,hb⟩))) rfl he (λb o q=>PySem.W.of_hideAll _ q) (PySem.W.hideAll_none _ (.head _)) hd hv h0 λh2 L2=>⟨h2,rfl,L2⟩)) (λ_ s2 ⟨⟨h2,e2,k1,k2,k3,k4⟩,kp⟩=>?_) λ_ _ z=>z
 subst e2
 obtain ⟨T2,t2,hT2,kk,sl2⟩:=pe (T:=a) J.stack (show Heap.FlyingW _ _ a oe.cls a0 h2 from ⟨k1,PySem.W.hideAll_none _ (.head _),k2,k3⟩) k4
 have neT:T2≠a:=by obtain ⟨_,_,_,_,_,_,_,_,z,_⟩:=t2;exact z
 have nT:s'.heap.get? T2=none:=hT2.resolve_left neT
 have sT:s1.heap.get? T2=none:=by
  cases q:s1.heap.get? T2 with
  | none=>rfl
  | some o =>
   obtain ⟨o',r⟩:=un.there T2 o q (by simp)
   rw [nT] at r;cases r
 have up0:∀ b,s1.heap.get? b=none->s.heap.get? b=none:=λb z=>by
  cases q:s.heap.get? b with
  | none=>rfl
  | some o =>
   obtain ⟨o',r⟩:=I.base.there b o q (by show b ∉ ([]:List Addr);simp)
   rw [z] at r;cases r
 have J2:Inv (ic (CX2 P w) P w K mg base N qual scope f cd A outer s H E) pins σ H' { s' with heap:=h2 } :=
  I.call' (s':={ s' with heap:=h2 }) (ch:=[]) os (xX un sa sa kk sl2) (wu hok na na J.stkFree kk) bare (λb z=>absurd z (by simp))
 exact ⟨a,T2,oe.cls,a0,dx,H',rfl,J2.os,J2.bare,J2.base,J2.hok,⟨up0 a sa,up0 T2 sT,na,hok.empty nT⟩,t2,kp.dictAt da t2,q⟩
variable {x:Str} {fd:FuncData} {ps:List Str} {k:Nat}
theorem Fun.ok2 {st:Stmt} {sp:Sp} (F:Fun K x qual st f fd) (S:FnScope N ps (aw st)) (len:∀ vs H Q E,sp vs H Q E->vs.length=ps.length)
  (hbody:∀ (cdv:Value) (A:Around) (outer:List Env) (s:Shared) (H:Hp) (vs:List V) (Q:VK) (E:XK),Room k (A.deeper (envOfC qual (aw st) s.heap.objs.size f cdv))->sp vs H Q E ->
   ∃ t,PSs (ic (CX2 P w) P w K mg base N qual (aw st) f cdv A outer s H E) (bz st) t/\t { nx:=λ_ H'=>Q .non H',rt:=Q } (cS N vs) H):FnOk P w K mg base (CX2 P w) (k+1) f fd ps sp:=by
 obtain ⟨oc,od,kV,doc,pm,an,cdv,ct,osl,rfl,lk,hcd⟩:=F.ex
 exact wa lk hcd S len λA outer s H vs Q E hr hsp=>hbody cdv A outer s H vs Q E hr hsp
def ve (e C:Addr) (a0:Value) (dx:Addr):HO:=.ext λh=>∃ oe vs,h.get? e=some oe/\(oe.cls=.ref C/\vs[0]?=some a0)/\oe.data=.fields vs/\vs[1]?=some .none/\oe.dict=some dx
abbrev jq (H:Hp) (e C:Addr) (a0:Value) (dx:Addr) (f:Str) (v:V):Hp:=upd (upd H e (ve e C a0 dx)) dx (.xd [(f,v)])
section
variable {H:Hp} {e C dx b:Addr} {a0:Value} {f:Str} {v:V}
theorem yd:jq H e C a0 dx f v dx=some (.xd [(f,v)]):=av
theorem oJ (h:dx≠e):jq H e C a0 dx f v e=some (ve e C a0 dx):=(aD (Ne.symm h)).trans av
theorem ye (h:b≠dx) (h':b≠e):jq H e C a0 dx f v b=H b:=(aD h).trans (aD h')
end
variable {X:Cx} {C:Addr} {pos:Pos}
theorem rG {f:Str} {o value:Expr} {ta tv:TE} {pos':Pos} (st:vv X.K C f) (ha:PE X o ta) (hv:PE X value tv) (hs:swapsWith value (some (.Attribute o f pos')) pos.line X.env=pure false:=by rfl) :
  PS X (.Assign [.Attribute o f pos'] value pos) (λD σ H=>tv σ H λy H1=>ta σ H1 λx H2=>∃ e a0,x=.ref e/\H2 e=some (j1 e C a0)/\∀ dx,H2 dx=none->D.nx σ (jq H2 e C a0 dx f y)):=by
 intro pins s σ H D I h
 refine plainObj_wpAny_Assign_Attribute (thn (hv pins s σ H _ I h) λu s1 ⟨y,H1,I1,ry,q⟩=>thn (ha pins s1 σ H1 _ I1 q) λov s2 ⟨x,H2,I2,rx,e,a0,ex,he,q2⟩=>?_) hs
 subst ex
 obtain rfl:ov=Value.ref e:=rx
 obtain ⟨⟨oe,vs,hoe,⟨hcl,hv0⟩,hdt,hv1,hdn⟩,_,_⟩:=(show ObjOk X.prog X.w H2 s2.heap e (j1 e C a0) from I2.hok e _ he)
 refine p9 I2.kIn st hoe hcl hdn hdt λh' tk k hx' ns=>?_
 have sd:s2.heap.get? s2.heap.objs.size=none:=by
  cases q:s2.heap.get? s2.heap.objs.size with
  | none=>rfl
  | some o=>exact absurd (Heap.lt_size q) (Nat.lt_irrefl _)
 have nd:H2 s2.heap.objs.size=none:=I2.hok.empty sd
 have J:Inv X pins σ (upd H2 e (ve e C a0 s2.heap.objs.size)) { s2 with heap:=h',toks:=tk }:=by
  refine I2.write (x:=e) (e:=e) (t':=tk) (by rw [he];trivial) (.inl rfl) k ⟨_,hx'⟩ ?_
  exact ⟨⟨_,vs,hx',⟨hcl,hv0⟩,hdt,hv1,rfl⟩,⟨_,hx'⟩,λh1 h2 ⟨o1,v1,e1,c1⟩ k=>⟨o1,v1,k o1 e1,c1⟩⟩
 have nb:∀ b,H2 b=none->b≠e:=λb z y=>by rw [y,he] at z;cases z
 have un:Un (frs X.stack) [] H2 (upd H2 e (ve e C a0 s2.heap.objs.size)) s2.heap h':=by
  refine ⟨λb o q n hf hx=>k b o (nb b n) q,λb o q n hf hx=>⟨o.slots,k b o (nb b n) q⟩,λb o q n hx=>by rw [aD (nb b n)];exact n,λb o q hx=>?_,λb xs q=>?_,λb u xs q=>?_,λb ps q=>⟨#[],?_⟩⟩
  ·by_cases hb:b=e
   ·subst hb;exact ⟨_,hx'⟩
   ·exact ⟨o,k b o hb q⟩
  ·rw [aD (λz=>by rw [z,he] at q;cases q)];exact q
  ·rw [aD (λz=>by rw [z,he] at q;cases q)];exact q
  ·rw [Array.append_empty,aD (λz=>by rw [z,he] at q;cases q)];exact q
 refine ⟨σ,_,Inv.track (o:=.xd [(f,y)]) I2 J un sd (by rw [aD (nb _ nd)];exact nd) (show ∃ mA,h'.Ns1 _ mA/\_ from ⟨_,ns,λg=>?_⟩),q2 _ nd⟩
 by_cases hg:g=f
 ·subst hg
  rw [if_pos rfl,List.lookup_cons_self]
  exact ry
 ·rw [if_neg hg]
  have e:List.lookup g [(f,y)]=none:=by
   rw [List.lookup_cons,beq_eq_false_iff_ne.mpr hg]
   rfl
  rw [e]
  trivial
def dO (C:Addr) (f:Str):Sp:=λvs H Q _=>∃ e a0 v,vs=[.ref e,v]/\H e=some (j1 e C a0)/\∀ dx,H dx=none->Q .non (jq H e C a0 dx f v)
section
variable {X:Cx} {pins:List (Addr × Obj)} {σ:St} {H:Hp} {s s':Shared} {C fI e dx:Addr} {fd:FuncData} {k:Nat} {ps:List Str} {a0:Value} {f:Str} {v:V}
theorem oP (I:Inv X pins σ H s) (hn:s.heap.get? e=none) (na:H e=none) (nd:upd H e (j1 e C a0) dx=none) {h1:Heap} (k1:∀ b o,s.heap.get? b=some o->h1.get? b=some o)
  (un:Un (frs X.stack) [] (upd H e (j1 e C a0)) (jq (upd H e (j1 e C a0)) e C a0 dx f v) h1 s'.heap) (hok:HOk X.prog X.w (jq (upd H e (j1 e C a0)) e C a0 dx f v) s'.heap) :
  H dx=none/\dx≠e/\Un (frs X.stack) [] H (upd H dx (.xd [(f,v)])) s.heap s'.heap/\HOk X.prog X.w (upd H dx (.xd [(f,v)])) s'.heap /\
   ∃ oe vs,s'.heap.get? e=some oe/\(oe.cls=.ref C/\vs[0]?=some a0)/\oe.data=.fields vs/\vs[1]?=some .none/\oe.dict=some dx:=by
 have de:dx≠e:=λz=>by rw [z,av] at nd;cases nd
 have nd0:H dx=none:=by rw [aD de] at nd;exact nd
 have off:∀ b o,s.heap.get? b=some o->b≠e:=λb o q z=>by rw [z,hn] at q;cases q
 have offH:∀ b u,H b=some u->b≠e:=λb u q z=>by rw [z,na] at q;cases q
 have offD:∀ b u,H b=some u->b≠dx:=λb u q z=>by rw [z,nd0] at q;cases q
 have same:∀ b,b≠e->jq (upd H e (j1 e C a0)) e C a0 dx f v b=upd H dx (.xd [(f,v)]) b:=λb z=>by
  by_cases hb:b=dx
  ·rw [hb,yd,av]
  ·rw [ye hb z,aD hb,aD z]
 refine ⟨nd0,de,⟨λb o q n hf hx=>?_,λb o q n hf hx=>?_,λb o q n hx=>?_,λb o q hx=>un.there b o (k1 b o q) hx,λb xs q=>?_,λb u xs q=>?_,λb ps q=>⟨#[],?_⟩⟩,λb u q=>?_,?_⟩
 ·exact un.keep b o (k1 b o q) (by rw [aD (off b o q)];exact n) hf hx
 ·exact un.slot b o (k1 b o q) (by rw [aD (off b o q)];exact n) hf hx
 ·have z:=un.free b o (k1 b o q) (by rw [aD (off b o q)];exact n) hx
  rw [same b (off b o q)] at z
  exact z
 ·rw [aD (offD b _ q)];exact q
 ·rw [aD (offD b _ q)];exact q
 ·rw [Array.append_empty,aD (offD b _ q)];exact q
 ·have hb:b≠e:=λz=>by rw [z,aD (Ne.symm de),na] at q;cases q
  refine (hok b u (by rw [same b hb];exact q)).stay (λ_ _ _ z=>z) (λc z=>?_) λc xs z=>?_
  ·have hc:c≠e:=λy=>by rw [y,oJ de] at z;cases z
   rw [same c hc] at z;exact z
  ·have hc:c≠e:=λy=>by rw [y,oJ de] at z;cases z
   rw [same c hc] at z;exact z
 ·obtain ⟨q,_,_⟩:=(show ObjOk X.prog X.w _ s'.heap e (ve e C a0 dx) from hok e _ (oJ de))
  exact q
theorem uR {E:XK} {u:Value} (kc:tX X.K C fI) (FI:FnOk X.prog X.w X.K X.mg X.base CX0 k fI fd ps (dO C f)) (hb:Binds X.K fd ps []) (hr:Room (k+1) X.A) (I:Inv X pins σ H s) (ru:RelV v u) (q:∀ dx,H dx=none->E (.ref C) (some dx) (upd H dx (.xd [(f,v)]))) :
  wpAny (model X.prog X.w) X.A (call (.ref C) [u]) (λr s'=>∃ e oe vs,r=.ref e/\s'.heap.get? e=some oe/\oe.cls=.ref C/\oe.data=.fields vs/\vs[1]?=some .none/\X.K.In s'.heap/\yh X.prog X.w X.stack H s E (.ref e) s') X.xe s:=by
 refine uy I.kIn kc (by rw [sizeLine_eq];simp) ?_
 have I2:Inv X pins σ H { s with heap:=jV s.heap C [u] }:=I.kept (t':=s.toks) eL
 have hn:s.heap.get? (s.heap.objs.size+1)=none:=uw
 have na:H (s.heap.objs.size+1)=none:=I.hok.empty hn
 have he:(jV s.heap C [u]).get? (s.heap.objs.size+1)=some (vG C s.heap.objs.size):=fN
 generalize s.heap.objs.size+1=e at hn na he ⊢
 have I3:Inv X pins σ (upd H e (j1 e C (.ref s.heap.objs.size))) { s with heap:=jV s.heap C [u] } :=
  Inv.track I I2 (Un.kept eL) hn na ⟨⟨_,_,he,⟨rfl,rfl⟩,rfl,rfl,rfl⟩,⟨_,he⟩,λg1 g2 ⟨o1,v1,e1,c1⟩ kk=>⟨o1,v1,kk o1 e1,c1⟩⟩
 have hq:dO C f [.ref e,v] (upd H e (j1 e C (.ref s.heap.objs.size))) (λw H2=>∃ dx,upd H e (j1 e C (.ref s.heap.objs.size)) dx=none/\w=.non/\H2=jq (upd H e (j1 e C (.ref s.heap.objs.size))) e C (.ref s.heap.objs.size) dx f v) (λ_ _ _=>True) :=
  ⟨e,_,v,rfl,av,λdx n=>⟨dx,n,rfl,rfl⟩⟩
 have hl:([Value.ref e,u]++[]).length=ps.length:=FI.len _ _ _ _ hq
 refine wpAny_call (codeAny_mono (FI.run _ X.stack _ _ ⟨[.ref e,u],[]⟩ [.ref e,u] _ _ (λ_ _ _=>True) (hr.make C [u] []) (I3.env0.make C [u] []) (hb _ [.ref e,u] I3.kIn hl) (show Vals [V.ref e,v] [Value.ref e,u] from .cons rfl (.cons ru .nil)) hq) λr s' hq'=>?_)
 cases r with
 | error _=>exact False.elim hq'
 | ok fl =>
  cases fl with
  | ret uu =>
   obtain ⟨_,_,os',bare',un',hok',rv,dx,nd,rfl,rfl⟩:=hq'
   obtain ⟨nd0,de,un2,hok2,oe,ws,hoe,hcl,hdt,hv1,hdx⟩:=oP I hn na nd eL un' hok'
   have I4:Inv X pins σ _ s':=I.call' (ch:=[]) os' un2 hok2 bare' (λb z=>absurd z (by simp))
   exact ⟨rv,e,oe,ws,rfl,hoe,hcl.1,hdt,hv1,I4.kIn,e,.ref C,_,some dx,_,rfl,os',bare',un2,hok2,⟨hn,by rw [aD (Ne.symm de)];exact na⟩,⟨oe,ws,hoe,hcl,hdt,hv1⟩,⟨oe,hoe,hdx⟩,q dx nd0⟩
  | _=>exact False.elim hq'
end
theorem cv {fI:Addr} {f:Str} {np cpos:Pos} {e₀:Expr} {ta:TA} (kc:tX X.K C fI)
  (FI:FnOk X.prog X.w X.K X.mg X.base CX0 k fI fd ps (dO C f)) (hb:Binds X.K fd ps []) (hr:Room (k+1) X.A) (ht:eZ (yh X.prog X.w) X E) (hg:Gl X x) (hm:X.mg x=some (.ref C)) (ha:PA X [e₀] ta) (hcalm:X.calm=true:=by rfl)
  (he:starEach [e₀] X.env=(false,eval e₀ X.env)::starEach [] X.env:=by rfl) (hpl:(backTo cpos (starEach [] X.env)).any (·.1)=false:=by rfl) (hd:(x == ("__debug__":Str))=false:=by decide) :
  PS X (.Raise (some (.Call (.Name x np) [e₀] [] cpos)) none pos) (λ_ σ H=>ta σ H λvs H1=>∃ v,vs=[v]/\∀ dx,H1 dx=none->E (.ref C) (some dx) (upd H1 dx (.xd [(f,v)]))):=by
 intro pins s σ H D I h
 rw [arm_exec_Raise]
 refine wpAny_bind (wpAny_standAt (uK (K:=X.K) kc (I.ok.hd hcalm) ?_))
 refine wpAny_bind (wpAny_Call_Name_kw (eA I hg hm ?_ hd))
 refine PySem.W.callWith_K (h₀:=X.base) I.ok.mod.kin kc.kp (thn (ha cpos pins s σ H _ I h) λus s1 ⟨vs,H1,I1,r,v,hv,q⟩=>⟨I1.kIn,?_⟩) he hpl
 subst hv
 obtain ⟨u,rfl,ru⟩:=fW r
 refine thn (uR (E:=E) kc FI hb hr I1 ru q) λr s2 ⟨e,oe,ws,er,h1,h2,h3,h4,h5,h6⟩=>wpAny_bind (wpAny_standAt (wpAny_pure ?_))
 exact ⟨e,oe,ws,er,h1,h2,h3,h4,h5,ht pins σ H1 s1 _ _ I1 h6⟩
def CB (x D:Addr) (dx:Option Addr):HO:=.ext λh=>∃ oe vs,h.get? x=some oe/\oe.cls=.ref D/\oe.data=.fields vs/\oe.dict=dx
def r6 (K:PySem.W.Frag) (f:Str) (R:List Ar->D->Prop) (B:List Ar->Addr->Int->Prop):Sp:=λvs H Q E =>
 ∃ as,Ars K H as vs/\((∃ d,R as d/\∀ v H',Same H H'->Dat K H' d v->Q v H')\/∃ C i,B as C i/\∀ H' dx,Same H H'->H' dx=some (.xd [(f,.int i)])->E (.ref C) (some dx) H')
section
variable {K:PySem.W.Frag} {σ:St} {H:Hp} {tA:TA} {ar:List Ar} {d:D} {f:Str} {es:List D} {R:List Ar->D->Prop} {RL:List Ar->List D->Prop} {B:List Ar->Addr->Int->Prop} {E:XK} {Q:VK} {C:Addr} {i:Int}
theorem mS (h:RB K tA σ H ar) (r:R ar d):RE K (fV (r6 K f R B) [] E tA) σ H d:=λH1 s Q q =>
 h H1 s _ λvs H2 s2 q2=>⟨ar,by rw [List.append_nil];exact q2,.inl ⟨d,r,λv H3 s3 q3=>q _ _ (s2.trans s3) q3⟩⟩
theorem jN (h:RB K tA σ H ar) (r:B ar C i) (q:∀ H' dx,Same H H'->H' dx=some (.xd [(f,.int i)])->E (.ref C) (some dx) H'):fV (r6 K f R B) [] E tA σ H Q :=
 h.use λvs H2 s2 q2=>⟨ar,by rw [List.append_nil];exact q2,.inr ⟨C,i,r,λH3 dx s3=>q _ dx (s2.trans s3)⟩⟩
end
end L2
namespace L2
open PySem PySem.Spec PySem.Calls PyProof.Rows
abbrev lL (t:Addr) (i:Int):Obj:={ cls:=.type "reversed",data:=.fields #[.ref t,rawInt i] }
theorem mq:Slot "reversed" "__init__" "object.__init__":=.of (owner:="object") (n:="__init__") (by rw [typeLookup_type,builtinLookup_eq_fast];kernel_rfl) (by decide +kernel) (by decide +kernel) (by decide +kernel) (by first | exact .inl (by decide +kernel) | exact .inr (by decide +kernel)) (by rw [isSubtype_type];kernel_rfl)
theorem qF:TypeCalled "reversed" "reversed.__new__" "object.__init__":=⟨by decide +kernel,by decide +kernel,⟨_,_,PySem.F.mro_reversed⟩,PySem.F.made_reversed,by decide +kernel,PySem.F.sub_reversed_self,mq⟩
theorem slot_rev_next:Slot "reversed" "__next__" "reversed.__next__":=.of (owner:="reversed") (n:="__next__") (by rw [typeLookup_type,builtinLookup_eq_fast];kernel_rfl) (by decide +kernel) (by decide +kernel) (by decide +kernel) (by first | exact .inl (by decide +kernel) | exact .inr (by decide +kernel)) (by rw [isSubtype_type];kernel_rfl)
theorem ix:Slot "reversed" "__iter__" "reversed.__iter__":=.of (owner:="reversed") (n:="__iter__") (by rw [typeLookup_type,builtinLookup_eq_fast];kernel_rfl) (by decide +kernel) (by decide +kernel) (by decide +kernel) (by first | exact .inl (by decide +kernel) | exact .inr (by decide +kernel)) (by rw [isSubtype_type];kernel_rfl)
theorem gG:entryFor table "reversed.__next__"=some Builtin.«reversed.__next__»:=entryFor_of_tree (by kernel_rfl)
theorem kF:entryFor table "reversed.__iter__"=some Builtin.«dict_keyiterator.__iter__»:=entryFor_alias (id':="dict_keyiterator.__iter__") (by kernel_rfl) (by first | rfl | decide +kernel | (unfold String.splitOn;simp +decide [String.splitOnAux])) (by decide +kernel) (by kernel_rfl)
theorem mP:Manifest.owners.lookup (String.ofList ['d','e','s','r','e','v','e','r'].reverse)=some Manifest.sig_reversed:=by kernel_rfl
theorem il (a:Value):argsOk "reversed.__next__" ⟨[a],[]⟩:=by unfold argsOk;rw [signature?_of (id:="reversed.__next__") (n:=['_','_','t','x','e','n','_','_']) (o:=['d','e','s','r','e','v','e','r']) (by kernel_rfl) mP];kernel_rfl
theorem lU (a:Value):argsOk "reversed.__iter__" ⟨[a],[]⟩:=by unfold argsOk;rw [signature?_of (id:="reversed.__iter__") (n:=['_','_','r','e','t','i','_','_']) (o:=['d','e','s','r','e','v','e','r']) (by kernel_rfl) mP];kernel_rfl
theorem uY:typeLookup (.type "tuple") "__reversed__"=pure none:=by rw [typeLookup_type,builtinLookup_eq_fast];kernel_rfl
theorem sg:isSubtype (.type "tuple") (.type "dict")=pure false:=by rw [isSubtype_type];kernel_rfl
theorem j0:typeLookup (.type "tuple") "__getitem__"=pure (some (.builtin "tuple.__getitem__")):=by rw [typeLookup_type,builtinLookup_eq_fast];kernel_rfl
theorem xJ (t:Addr) (items:Array Value) (n:Nat) (d2:Option Addr) (s2:Array (Option Value)) :
  Meets (Builtin.«reversed.__new__» ⟨[.type "reversed",.ref t],[]⟩) (λ_ R s=>s.heap.get? t=some { cls:=.type "tuple",dict:=d2,data:=.seq items n,slots:=s2 } /\
   (items.size:Int) < 2 ^ 63/\R (.ok (.ret (.ref s.heap.objs.size))) { s with heap:=s.heap.push (lL t ((items.size:Int) - 1)),toks:=s.toks+2 }) :=
 .of_wp λ_ _ _ _ s q=>by
  obtain ⟨h0,g0,d0,t0,o0⟩:=s
  obtain ⟨a1,fit,q⟩:=q
  have isT:Heap.IsTuple (Shared.heap ⟨h0,g0,d0,t0,o0⟩) t items:=⟨_,a1,rfl,n,rfl⟩
  have self1:=PySem.F.sub_reversed_self
  wp_walk
  show wpAny _ _ (typeLookup (.type "tuple") "__reversed__") _ _ _
  rw [uY]
  refine wpAny_pure ?_
  dsimp only
  wp_walk
  show wpAny _ _ (isSubtype (.type "tuple") (.type "dict")) _ _ _
  rw [sg]
  refine wpAny_pure ?_
  rw [if_neg (by decide)]
  wp_walk
  show wpAny _ _ (typeLookup (.type "tuple") "__getitem__") _ _ _
  rw [j0]
  refine wpAny_pure ?_
  dsimp only
  rw [if_pos (by decide +kernel)]
  refine wpAny_pure ?_
  rw [if_neg (by decide)]
  refine wpAny_bind ?_
  refine PyProof.Rows.len_tuple isT fit ?_
  wp_walk
  exact ⟨_,rfl,q⟩
variable {w:World} {A:Around} {s:Shared}
theorem ub {prog:Program} {E:Value->Shared->Prop} {t:Addr} {items:Array Value} {Q:Value->Shared->Prop} (a1:s.heap.IsTuple t items) (fit:(items.size:Int) < 2 ^ 63)
  (q:Q (.ref s.heap.objs.size) { s with heap:=s.heap.push (lL t ((items.size:Int) - 1)),toks:=s.toks+2 }):wpAny (model prog w) A (call (.type "reversed") [.ref t]) Q E s:=by
 obtain ⟨⟨c2,d2,dt2,s2⟩,a1,hc,n,hd⟩:=a1
 obtain rfl:c2=.type "tuple":=hc
 obtain rfl:dt2=.seq items n:=hd
 refine callType_new qF (by decide) (PySem.F.typeCall_reversed_1 _) (PySem.F.newCall_reversed_1 _) (λo=>PySem.F.args_object_init_2 o _) PySem.F.entry_reversed_new (xJ t items n d2 s2) ⟨a1,fit,?_⟩
 show _/\_
 exact ⟨⟨_,Heap.get?_push_at rfl rfl,rfl⟩,q⟩
variable {i n:Nat}
theorem sx (h:i < n):seqIndex? (i:Int) n=some i:=(nI (by unfold ixN;rw [if_pos (by omega),if_pos (by omega)];rfl)).1
abbrev jR (h:Heap) (it t:Addr) (i:Int):Prop:=h.get? it=some (lL t i)
section
variable {prog:Program} {w:World} {A:Around} {E:Value->Shared->Prop} {s:Shared} {it t:Addr} {items:Array Value}
theorem rR {i:Nat} {x:Value} {Q:Option Value->Shared->Prop} (a1:jR s.heap it t i) (a2:s.heap.IsTuple t items) (fit:(items.size:Int) < 2 ^ 63) (hx:items[i]?=some x)
  (q:∀ h' tk,jR h' it t ((i:Int) - 1)->Heap.SameBut it s.heap h'->Q (some x) { s with heap:=h',toks:=tk }):wpAny (model prog w) A (pyNext (.ref it)) Q E s:=by
 have ty:s.TypeIs (.ref it) "reversed":=⟨_,a1,rfl⟩
 have lt:i < items.size:=(Array.getElem?_eq_some_iff.mp hx).1
 unfold pyNext
 refine wpAny_bind (wpAny_attempt (wpAny_callSpecial?_slot (name:=Str.ofString "__next__") ty slot_rev_next (wpAny_call_entry slot_rev_next ty gG ?_ (il _))))
 obtain ⟨⟨c2,d2,dt2,s2⟩,b2,hc,n,hd⟩:=id a2
 obtain rfl:c2=.type "tuple":=hc
 obtain rfl:dt2=.seq items n:=hd
 obtain ⟨h0,g0,d0,t0,o0⟩:=s
 unfold jR lL rawInt at a1
 wp_walk
 show wpAny _ _ (typeLookup (.type "tuple") "__getitem__") _ _ _
 rw [j0]
 refine wpAny_pure ?_
 rw [if_neg (by decide)]
 refine wpAny_bind (wpAny_mkInt (wpAny_bind (wpAny_attempt ?_)))
 show wpAny _ _ (getItem (.ref t) (.int (i:Int) _)) _ _ _
 refine PyProof.Rows.getItem_tuple (j:=i) a2 (by omega) (by omega) (sx lt) hx ?_
 wp_walk
 exact ⟨x,rfl,wpAny_pure (q _ _ (Heap.get?_update_self _ a1 rfl) (Heap.SameBut.update ..))⟩
theorem rQ {Q:Option Value->Shared->Prop} (hh:A.handled=none) (a1:jR s.heap it t (-1)) (q:∀ h',Heap.ExtBut it s.heap h'->Q none { s with heap:=h' }):wpAny (model prog w) A (pyNext (.ref it)) Q E s:=by
 have ty:s.TypeIs (.ref it) "reversed":=⟨_,a1,rfl⟩
 unfold pyNext
 refine wpAny_bind (wpAny_attempt (wpAny_callSpecial?_slot (name:=Str.ofString "__next__") ty slot_rev_next (wpAny_call_entry slot_rev_next ty gG ?_ (il _))))
 obtain ⟨h0,g0,d0,t0,o0⟩:=s
 unfold jR lL rawInt at a1
 wp_walk
 refine wpAny_raiseNew_none hh ?_
 refine wpAny_bind (wpAny_isInstance (T:="StopIteration") (b:=true) ⟨_,Heap.get?_push_size _ rfl,rfl⟩ isSubtype_stop (wpAny_pure (q _ λb o hb e=>?_)))
 exact Heap.get?_push_of_some _ (Heap.get?_push_of_some _ ((Heap.get?_update_ne _ _ _ _ hb).trans ((Heap.get?_update_ne _ _ _ _ hb).trans e)))
theorem p5 {i:Int} {Q:Value->Shared->Prop} (a1:jR s.heap it t i) (h:Q (.ref it) s):wpAny (model prog w) A (pyIter (.ref it)) Q E s:=by
 have ty:s.TypeIs (.ref it) "reversed":=⟨_,a1,rfl⟩
 refine wpAny_pyIter_slot ty ix (wpAny_call_entry ix ty kF ?_ (lU _))
 show wpAny _ _ (ret (.ref it)) _ _ s
 exact wpAny_pure ⟨_,rfl,"reversed",_,ty,slot_rev_next.lookup,h⟩
end
def Itw (K:PySem.W.Frag) (a:Addr) (xs:List V):It:=⟨λi H=>i < xs.length/\SqT K H a xs,λi H x H'=>H'=H/\xs[xs.length - 1 - i]?=some x,λi _=>i=xs.length⟩
variable {P:Program} {K:PySem.W.Frag} {tg:Expr}
theorem vb (a it:Addr) (xs:List V):j2 P w K tg (Itw K a xs) [it] it (λi h=>jR h it a ((xs.length:Int) - 1 - (i:Int))) where
 mem:=by simp
 obj:=λi h st b hb=>by
  have e:b=it:=by simpa using hb
  subst e
  exact ⟨_,st,λv z=>by cases z⟩
 keep:=λi h h' st k=>k it (by simp) _ st
 item:=by
  intro X hP hw hK hc i pins s σ H E I hf st hg
  subst hP hw hK
  obtain ⟨hi,hq⟩:=hg
  obtain ⟨its,rv,p,hz⟩:=I.tuple hq
  obtain ⟨f0,f1,f2,f3,f4,f5⟩:=hf it (by simp)
  have lr:=rv.length
  have hx:xs[xs.length - 1 - i]?=some (xs[xs.length - 1 - i]'(by omega)):=List.getElem?_eq_getElem (by omega)
  obtain ⟨u,hu,ru⟩:=rv.get hx
  have e1:(xs.length:Int) - 1 - (i:Int)=((xs.length - 1 - i:Nat):Int):=by omega
  rw [e1] at st
  refine rR st p (by rw [List.size_toArray];rw [sizeLine_eq] at hz;omega) (x:=u) (by simpa using hu) λh' tk st' sb=>?_
  have e2:((xs.length - 1 - i:Nat):Int) - 1=(xs.length:Int) - 1 - ((i+1:Nat):Int):=by omega
  rw [e2] at st'
  have I1:Inv X pins σ H { s with heap:=h',toks:=tk }:=I.turned (t':=tk) (λb o hb e=>(sb.2 b hb).trans e) f0 f1 f3 f4 f5
  exact ⟨u,rfl,pf (s:={ s with heap:=h',toks:=tk }) st' rfl rfl (by decide) ⟨_,H,I1,ru,⟨rfl,hx⟩,st',λb hb=>(hf b hb).1⟩⟩
 done:=by
  intro X hP hw hK hc i pins s σ H E I hf st hg
  subst hP hw hK
  obtain ⟨f0,f1,f2,f3,f4,f5⟩:=hf it (by simp)
  have hg':i=xs.length:=hg
  subst hg'
  have e1:(xs.length:Int) - 1 - (xs.length:Int)=-1:=by omega
  rw [e1] at st
  exact rQ (I.ok.hd hc) st λh' eb=>⟨rfl,I.turned (t':=s.toks) (λb o hb e=>eb b o hb e) f0 f1 f3 f4 f5⟩
 self:=λA i s Q E st q=>p5 st q
section
variable {X:Cx} {tg:Expr}
def B5 (K:PySem.W.Frag) (ta:TA):TI:=λσ H R=>ta σ H λvs H1=>∃ a xs,vs=[.ref a]/\SqT K H1 a xs/\R (Itw K a xs) H1
theorem zj {a:Expr} {ta:TA} {p pos:Pos} (hg:Gl X "reversed") (hm:X.mg "reversed"=none) (ha:PA X [a] ta) (hs:starEach [a] X.env=[(false,eval a X.env)]:=by rfl):PI X tg (.Call (.Name "reversed" p) [a] [] pos) (B5 X.K ta):=by
 intro pins s σ H R I h
 refine Call_ (kQ I hg hm oV (PyProof.Rows.callWith_type1 (thn (ha pos pins s σ H _ I h) λus s1 ⟨vs,H1,I1,r1,q1⟩=>?_) hs rfl))
 obtain ⟨l,xs,e,hq,q⟩:=q1
 subst e
 obtain ⟨u,rfl,ru⟩:=fW r1
 cases ru
 obtain ⟨its,rv,pl,hz⟩:=I1.tuple hq
 have lr:=rv.length
 refine ub pl (by rw [List.size_toArray];rw [sizeLine_eq] at hz;omega) ?_
 have ez:((its.toArray.size:Nat):Int) - 1=(xs.length:Int) - 1 - ((0:Nat):Int):=by rw [List.size_toArray,lr];omega
 rw [ez]
 have st:jR (s1.heap.push (lL l ((xs.length:Int) - 1 - ((0:Nat):Int)))) s1.heap.objs.size l ((xs.length:Int) - 1 - ((0:Nat):Int)):=Heap.get?_push_size _ rfl
 refine p5 (s:={ s1 with heap:=s1.heap.push (lL l ((xs.length:Int) - 1 - ((0:Nat):Int))),toks:=s1.toks+2 }) st ?_
 refine ⟨s1.heap.objs.size,[s1.heap.objs.size],_,_,H1,rfl,I1.kept (t':=s1.toks+2) λb o e=>Heap.get?_push_of_some _ e,vb l _ xs,st,λb hb=>?_,q⟩
 have e:b=s1.heap.objs.size:=by simpa using hb
 subst e
 exact I1.fpOk (Nat.le_refl _) (I1.hok.fresh (Nat.le_refl _))
end
variable {σ:St} {H:Hp}
theorem wb {a:Addr} {xs:List V} {g:TG} {tb:TS} {D:Ends} (Pv:Nat->St->Hp->Prop) (h0:Pv 0 σ H) (hl:∀ i σ H,i≤xs.length->Pv i σ H->SqT K H a xs)
  (hs:∀ i x σ H,i < xs.length->xs[xs.length - 1 - i]?=some x->Pv i σ H->g x σ H λσ2 H2=>tb { D with nx:=Pv (i+1),ct:=Pv (i+1),bk:=D.nx } σ2 H2) (hd:∀ σ H,Pv xs.length σ H->D.nx σ H) :
  ∃ W:Nat->Nat->St->Hp->Prop,(∃ m,W 0 m σ H)/\∀ i m σ H,W i m σ H ->
   ((Itw K a xs).stop i H/\D.nx σ H)\/((Itw K a xs).go i H/\∃ N:St->Hp->Prop,(∀ σ' H',N σ' H'->∃ m',m' < m/\W (i+1) m' σ' H')/\∀ x H',(Itw K a xs).yld i H x H'->g x σ H' λσ2 H2=>tb { D with nx:=N,ct:=N,bk:=D.nx } σ2 H2):=by
 refine ⟨λi m σ H=>m=xs.length - i/\i≤xs.length/\Pv i σ H,⟨xs.length,by simp,Nat.zero_le _,h0⟩,?_⟩
 rintro i m σ H ⟨rfl,hi,p⟩
 have q:=hl i σ H hi p
 by_cases hlt:i < xs.length
 ·refine .inr ⟨⟨hlt,q⟩,Pv (i+1),λσ' H' p'=>⟨xs.length - (i+1),by omega,rfl,hlt,p'⟩,λx H' y=>?_⟩
  obtain ⟨e,y⟩:=y
  subst e
  exact hs i x σ _ hlt y p
 ·have e:i=xs.length:=by omega
  subst e
  exact .inl ⟨rfl,hd σ H p⟩
structure kr (X:Cx) (pins:List (Addr × Obj)) (σ:St) (H:Hp) (a:Addr) (cls:Value) (dx:Option Addr) (s:Shared):Prop where
 ok:X.Ok
 inv:Inv X pins σ H s
 ty:PySem.W.Looks (model X.prog X.w) s.heap (typeOf (.ref a)) cls
 na:H a=none
 again:∀ (A:Around) (Q:Unit->Shared->Prop) (E:Value->Shared->Prop),(∀ h',Inv X pins σ H { s with heap:=h' }->(∀ Dx,cls=.ref Dx->Inv X pins σ (upd H a (CB a Dx dx)) { s with heap:=h' }/\Inv X pins σ (upd H a (js a Dx)) { s with heap:=h' })->Q () { s with heap:=h' })->wpAny (model X.prog X.w) A (setFlight (.ref a) none) Q E s
variable {X:Cx} {H1:Hp} {E:XK}
theorem Ai {pins pins':List (Addr × Obj)} {s1 s2:Shared} {e:Value} {xe E':Value->Shared->Prop} {R:Shared->Prop} (ok:X.Ok) (I1:Inv { X with pn:=X.pn++pins,xe:=xe } pins' σ H1 s1) (x1:CX2 X.prog X.w X.stack H1 s1 E e s2)
  (hR:∀ a cls dx H' s',e=.ref a->E cls dx H'->kr X pins σ H' a cls dx s'->R s') (hst:X.stack=X.env::X.outer:=by rfl) (hfr:X.env.frame=some X.env.locals:=by rfl) :
  wpAny (model X.prog X.w) X.A (noteFrame e X.env) (λ_ s₂=>wpAny (model X.prog X.w) X.A (setFlight e none) (λ_ s₃=>R s₃) E' s₂) E' s2:=by
 obtain ⟨a,T,cls,a0,dx,H',rfl,q,da,sa,na,J,fl,back⟩:=CX2.behind I1 x1
 have fr:X.A.frames=some (X.env::X.outer):=by rw [← hst];exact ok.frames
 refine wpAny_mono (fq (mY _ _) (wpAny_looks_onW (Q:=λ_ s4=>∃ h4,s4={ s2 with heap:=h4 }/\Heap.HeldW (PySem.W.hideAll s2.heap (a::T::frs X.stack)) (X.env::X.outer) a cls a0 X.env.locals h4/\s2.heap.UpToSlots h4) fr hfr (by rw [← hst];exact fl) λh4 held up4=>⟨h4,rfl,held,up4⟩))
  (λ_ s4 ⟨⟨h4,e4,held,up4⟩,kp4⟩=>?_) λ_ _ z=>z
 subst e4
 refine wpAny_mono (fq (gU _ _) (wpAny_landsW (Q:=λ_ s5=>∃ h5,s5={ s2 with heap:=h5 }/\Heap.FlyingW (PySem.W.hideAll s2.heap (a::T::frs X.stack)) (X.env::X.outer) a cls a0 h5/\h4.UpToSlots h5) held λh5 fl5 up5=>⟨h5,rfl,fl5,up5⟩))
  (λ_ s5 ⟨⟨h5,e5,fl5,up5⟩,kp5⟩=>?_) λ_ _ z=>z
 subst e5
 obtain ⟨T5,J5,t5,sT5,nT5,_⟩:=back h5 _ fl5 (up4.trans up5)
 have da5:DictAt h5 a dx:=(kp4.trans kp5).dictAt da t5
 have LT:PySem.W.Looks (model X.prog X.w) h5 (typeOf (.ref a)) cls:=by
  obtain ⟨oe,vs,oT,ts,he,⟨hc,_⟩,_⟩:=t5
  rw [← hc]
  exact (PySem.W.Looks.ld he).andThen .now
 refine hR a cls dx H' _ rfl q ⟨ok,J5.outTry ok,LT,na,λA Q E2 hQ=>?_⟩
 refine wpAny_mono (fq (gU _ _) (lands_againW (Q:=λ_ s6=>∃ h6,s6={ s2 with heap:=h6 }/\Heap.FlyingW (PySem.W.hideAll s2.heap (a::T::frs X.stack)) (X.env::X.outer) a cls a0 h6/\h5.UpToSlots h6) fl5 λh6 fl6 up6=>⟨h6,rfl,fl6,up6⟩))
  (λ_ s6 ⟨⟨h6,e6,fl6,up6⟩,kp6⟩=>?_) λ_ _ z=>z
 subst e6
 obtain ⟨T6,J6,t6,_,_,un6⟩:=back h6 _ fl6 ((up4.trans up5).trans up6)
 have da6:DictAt h6 a dx:=Kept.dictAt kp6 da5 t6
 refine hQ h6 (J6.outTry ok) λDx hD=>?_
 subst hD
 obtain ⟨oe,vs,oT,ts,he,⟨hc,_⟩,hdt,_⟩:=t6
 obtain ⟨oe2,he2,hdx⟩:=da6
 rw [he] at he2
 cases he2
 refine ⟨Inv.track (s:=s1) (H:=H1) (I1.outTry ok) (J6.outTry ok) un6 sa na ?_,Inv.track (s:=s1) (H:=H1) (I1.outTry ok) (J6.outTry ok) un6 sa na ?_⟩
 ·exact ⟨⟨oe,vs,he,hc,hdt,hdx⟩,⟨oe,he⟩,λh1 h2 ⟨o1,v1,e1,c1⟩ k=>⟨o1,v1,k o1 e1,c1⟩⟩
 ·exact ⟨⟨oe,he,hc⟩,⟨oe,he⟩,λh1 h2 ⟨o1,e1,c1⟩ k=>⟨o1,k o1 e1,c1⟩⟩
section
variable {X:Cx} {pins:List (Addr × Obj)} {σ:St} {H:Hp} {a:Addr} {cls C:Value} {dx:Option Addr} {s:Shared} {D:Ends} {x n:Str} {i:Nat} {np hpos:Pos} {b₀:Stmt} {suite:List Stmt} {rest:List ExceptHandler} {th:TS} {b:Bool}
theorem wm (L:kr X pins σ H a cls dx s) (hg:Gl X x) (hm:X.mg x=some C) (hN:X.N.Nodup) (hi:X.N[i]?=some n) (hl:X.env.kindOf n=some .local) (hh:∀ e:Value,PSs (X.hand e) (b₀::suite) th) (hx:PySem.W.exmOne X.K cls C=some b)
  (h1:b=true->∃ Dx,cls=.ref Dx/\th (D.gone i) (σ.set i (some (.ref a))) (upd H a (js a Dx))) (h2:b=false->wpAny (model X.prog X.w) X.A (handleBy (.ref a) X.env rest) (SP X pins D) X.xe s) (hd:(x == ("__debug__":Str))=false:=by decide) :
  wpAny (model X.prog X.w) X.A (handleBy (.ref a) X.env (.ExceptHandler (some (.Name x np)) (some n) (b₀::suite) hpos::rest)) (SP X pins D) X.xe s:=by
 refine wpAny_handleBy_cons (codeAny_handlers_test (eA (X:=X.hand (.ref a)) L.inv.hand hg hm ?_ hd)) (by intro q;cases q)
 refine (PySem.W.exm_one L.inv.kIn L.ty hx).here ?_
 cases b with
 | false=>exact h2 rfl
 | true =>
  obtain ⟨Dx,hD,q⟩:=h1 rfl
  refine codeAny_handlers_suite_as (L.again _ _ _ λh6 J6 I6=>?_)
  refine fU (X:=X.hand (.ref a)) (v:=.ref a) ((I6 Dx hD).2.hand (e:=.ref a)) hN hi (.inl hl) rfl (λs7 I7=>?_) (.inr hl)
  refine wpAny_mono (hh (.ref a) pins s7 _ _ (D.gone i) I7 q) (λf s3 hs=>?_) (λ_ _ z=>z.elim)
  cases f with
  | next=>obtain ⟨σ3,H3,I3,q3⟩:=hs;exact Inv.gone (I3.unhand L.ok) hN hi hl λs' J'=>⟨_,H3,J',q3⟩
  | brk=>obtain ⟨σ3,H3,I3,q3⟩:=hs;exact Inv.gone (I3.unhand L.ok) hN hi hl λs' J'=>⟨_,H3,J',q3⟩
  | cont=>obtain ⟨σ3,H3,I3,q3⟩:=hs;exact Inv.gone (I3.unhand L.ok) hN hi hl λs' J'=>⟨_,H3,J',q3⟩
  | ret u=>obtain ⟨v,σ3,H3,I3,r3,q3⟩:=hs;exact Inv.gone (I3.unhand L.ok) hN hi hl λs' J'=>⟨v,_,H3,J',r3,q3⟩
theorem sX (L:kr X pins σ H a cls dx s) (hg:Gl X x) (hm:X.mg x=some C) (hh:∀ e:Value,PSs (X.hand e) (b₀::suite) th) (hx:PySem.W.exmOne X.K cls C=some b)
  (h1:b=true->th D σ H) (h2:b=false->wpAny (model X.prog X.w) X.A (handleBy (.ref a) X.env rest) (SP X pins D) X.xe s) (hd:(x == ("__debug__":Str))=false:=by decide) :
  wpAny (model X.prog X.w) X.A (handleBy (.ref a) X.env (.ExceptHandler (some (.Name x np)) none (b₀::suite) hpos::rest)) (SP X pins D) X.xe s:=by
 refine wpAny_handleBy_cons (codeAny_handlers_test (eA (X:=X.hand (.ref a)) L.inv.hand hg hm ?_ hd)) (by intro q;cases q)
 refine (PySem.W.exm_one L.inv.kIn L.ty hx).here ?_
 cases b with
 | false=>exact h2 rfl
 | true =>
  refine codeAny_handlers_suite (L.again _ _ _ λh6 J6 _=>?_)
  refine wpAny_mono (hh (.ref a) pins _ σ H D J6.hand (h1 rfl)) (λf s3 hs=>?_) (λ_ _ z=>z.elim)
  cases f with
  | next=>obtain ⟨σ3,H3,I3,q3⟩:=hs;exact ⟨σ3,H3,I3.unhand L.ok,q3⟩
  | brk=>obtain ⟨σ3,H3,I3,q3⟩:=hs;exact ⟨σ3,H3,I3.unhand L.ok,q3⟩
  | cont=>obtain ⟨σ3,H3,I3,q3⟩:=hs;exact ⟨σ3,H3,I3.unhand L.ok,q3⟩
  | ret u=>obtain ⟨v,σ3,H3,I3,r3,q3⟩:=hs;exact ⟨v,σ3,H3,I3.unhand L.ok,r3,q3⟩
end
variable {body:List Stmt} {t:(St->XK)->TS} {hs:List ExceptHandler} {pos:Pos}
theorem tG {E:Ends->St->XK}
  (hb:∀ (pn:List (Addr × Obj)) (xe:Value->Shared->Prop) (E:St->XK),eQ (CX2 X.prog X.w) { X with pn:=pn,xe:=xe } E->PSs { X with pn:=pn,xe:=xe } body (t E))
  (hand:∀ (pins:List (Addr × Obj)) (D:Ends) (σ:St) (H:Hp) (a:Addr) (cls:Value) (dx:Option Addr) (s:Shared),kr X pins σ H a cls dx s->E D σ cls dx H->wpAny (model X.prog X.w) X.A (handleBy (.ref a) X.env hs) (SP X pins D) X.xe s)
  (hst:X.stack=X.env::X.outer:=by rfl) (hfr:X.env.frame=some X.env.locals:=by rfl) (hne:∃ h t,hs=h::t) :
  PS X (.Try body hs [] [] pos) (λD σ H=>t (E D) D σ H):=by
 intro pins s σ H D I h
 obtain ⟨h0,t0,rfl⟩:=hne
 refine wpAny_Try_except (wpAny_mono (hb (X.pn++pins) (λe s₁=>wpAny (model X.prog X.w) X.A (noteFrame e X.env) (λ_ s₂=>wpAny (model X.prog X.w) X.A (setFlight e none) (λ_ s₃ =>
  wpAny (model X.prog X.w) X.A (handleBy e X.env (h0::t0)) (SP X pins D) X.xe s₃) X.xe s₂) X.xe s₁) _ ?_ [] s σ H D I.inTry h) (λf s1 hf=>?_) λe s1 z=>z)
 ·intro pins' σ' H1 s1 e s2 I1 x1
  refine Ai I.ok I1 x1 (λa cls dx H' s' he q L=>?_) hst hfr
  subst he
  exact hand pins D σ' H' a cls dx s' L q
 ·cases f with
  | next=>obtain ⟨σ3,H3,I3,q3⟩:=hf;exact aK pins s1 σ3 H3 D (I3.outTry I.ok) q3
  | brk=>obtain ⟨σ3,H3,I3,q3⟩:=hf;exact ⟨σ3,H3,I3.outTry I.ok,q3⟩
  | cont=>obtain ⟨σ3,H3,I3,q3⟩:=hf;exact ⟨σ3,H3,I3.outTry I.ok,q3⟩
  | ret u=>obtain ⟨v,σ3,H3,I3,r3,q3⟩:=hf;exact ⟨v,σ3,H3,I3.outTry I.ok,r3,q3⟩
variable {th:TS} {x:Str} {C:Value} {hpos:Pos} {b₀:Stmt} {suite:List Stmt}
theorem zr {np:Pos}
  (hb:∀ (pn:List (Addr × Obj)) (xe:Value->Shared->Prop) (E:St->XK),eQ (CX2 X.prog X.w) { X with pn:=pn,xe:=xe } E->PSs { X with pn:=pn,xe:=xe } body (t E))
  (hg:Gl X x) (hm:X.mg x=some C) (hh:∀ e:Value,PSs (X.hand e) (b₀::suite) th)
  (hst:X.stack=X.env::X.outer:=by rfl) (hfr:X.env.frame=some X.env.locals:=by rfl) (hd:(x == ("__debug__":Str))=false:=by decide) :
  PS X (.Try body [.ExceptHandler (some (.Name x np)) none (b₀::suite) hpos] [] [] pos) (λD σ H=>t (λσ' cls _ H'=>PySem.W.exmOne X.K cls C=some true/\th D σ' H') D σ H) :=
 tG (E:=λD σ' cls _ H'=>PySem.W.exmOne X.K cls C=some true/\th D σ' H') hb (λ_ _ _ _ _ _ _ _ L q=>sX L hg hm hh q.1 (λ_=>q.2) (λz=>nomatch z) hd) hst hfr ⟨_,_,rfl⟩
theorem uI {n:Str} {np:Pos}
  (hb:∀ (pn:List (Addr × Obj)) (xe:Value->Shared->Prop) (E:St->XK),eQ (CX2 X.prog X.w) { X with pn:=pn,xe:=xe } E->PSs { X with pn:=pn,xe:=xe } body (t E))
  (hg:Gl X x) (hm:X.mg x=some C) (hN:X.N.Nodup) (hi:X.N[i]?=some n) (hl:X.env.kindOf n=some .local) (hh:∀ e:Value,PSs (X.hand e) (b₀::suite) th)
  (hst:X.stack=X.env::X.outer:=by rfl) (hfr:X.env.frame=some X.env.locals:=by rfl) (hd:(x == ("__debug__":Str))=false:=by decide) :
  PS X (.Try body [.ExceptHandler (some (.Name x np)) (some n) (b₀::suite) hpos] [] [] pos)
   (λD σ H=>t (λσ' cls _ H'=>PySem.W.exmOne X.K cls C=some true/\∃ Dx,cls=.ref Dx/\∀ a,H' a=none->th (D.gone i) (σ'.set i (some (.ref a))) (upd H' a (js a Dx))) D σ H) :=
 tG (E:=λD σ' cls _ H'=>PySem.W.exmOne X.K cls C=some true/\∃ Dx,cls=.ref Dx/\∀ a,H' a=none->th (D.gone i) (σ'.set i (some (.ref a))) (upd H' a (js a Dx))) hb (λ_ _ _ _ a _ _ _ L q=>wm L hg hm hN hi hl hh q.1 (λ_=>q.2.elim λDx h=>⟨Dx,h.1,h.2 a L.na⟩) (λz=>nomatch z) hd) hst hfr ⟨_,_,rfl⟩
theorem jI {C:Addr} {np cpos:Pos} {e₀:Expr} {rest:List Expr} {ta:TA} {B Bn newId nid initId inN:String} {bmB bmN:List Value}
  (Fn:ExcBaseFacts Bn newId inN bmN) (hBn:bmB.contains (.type Bn)=true) (F:ExcBaseFacts B nid initId bmB) (hc:ip X.K C bmB newId none=true)
  (ht:eZ (yh X.prog X.w) X E) (hg:Gl X x) (hm:X.mg x=some (.ref C)) (ha:PA X (e₀::rest) ta) (hcalm:X.calm=true:=by rfl)
  (he:starEach (e₀::rest) X.env=(false,eval e₀ X.env)::starEach rest X.env:=by rfl)
  (hplain:(backTo cpos (starEach rest X.env)).any (·.1)=false:=by rfl) (hd:(x == ("__debug__":Str))=false:=by decide) :
  PS X (.Raise (some (.Call (.Name x np) (e₀::rest) [] cpos)) none pos) (λ_ σ H=>ta σ H λvs H1=>vs.length≤sizeLine/\E (.ref C) none H1):=by
 intro pins s σ H D I h
 obtain ⟨bm,N,nm,qn,bs,hdd,sn,sub,ab,col,dd,k0,k1,k2,k3,k5,mN,hC,hN,hni,T⟩:=qK I.mod.kin hc
 refine wpAny_Raise_call_subU (C:=C) (nm:=nm) (q:=qn) (N:=N) (bs:=bs) (bm:=bm) (hdct:=hdd) (sn:=sn) (sub:=sub) (ab:=ab) (col:=col) (dd:=dd) (k0:=k0) (k1:=k1) (k2:=k2) (k3:=k3) (k5:=k5)
  Fn hBn F (mN:=mN) (T.hasType F.hasBase) (I.ok.hd hcalm) (by rw [he];show (false || (backTo cpos (starEach rest X.env)).any (·.1))=false;rw [hplain];rfl) hni (eA I hg hm ⟨rfl,?_⟩ hd)
 have w:=ha cpos pins s σ H _ I h
 rw [he] at w ⊢
 refine Calls.evalArgs_plain (thn w λus s2 ⟨vs,H1,I1,r,z,q⟩=>⟨rfl,by rw [← r.length];exact z,I1.bk _ _ hC,hN.keeps I1.bk,T.keeps I1.bk,λh' e hm=>?_⟩)
 obtain ⟨t,h1,h2,h3⟩:=hm.there
 exact ht pins σ H1 s2 _ _ I1 ⟨e,.ref C,.ref t,none,H1,rfl,rfl,I1.bare,Un.kept hm.keeps,I1.hok.kept hm.keeps,⟨hm.new,I1.hok.empty hm.new⟩,⟨_,_,h1,⟨rfl,rfl⟩,rfl,rfl⟩,⟨_,h1,rfl⟩,q⟩
variable {k:Nat} {f:Addr} {fd:FuncData} {ps:List Str} {sp:Sp} {ds:List Value}
theorem uG {CX:CXT} {C:Addr} {dvs:List V} {E:St->XK} {m:Str} {apos:Pos} {o:Expr} {ta:TE} {pl:Sem Bool} (he:PE X o ta) (c:Cls X.K C) (hm:lT X.K C m f) (F:FnOk X.prog X.w X.K X.mg X.base CX k f fd ps sp) (hr:Room k X.A) (hb:Binds X.K fd ps ds) (hd:Vals dvs ds) (hx:eQ CX X E)
  (ht:eval (.Call (.Attribute o m apos) [] [] pos) X.env=(do
   let ov ← eval o X.env
   standAt apos.atName
   let (f,first) ← holding [ov] (getMethod ov m pl)
   callWith pos f first (backTo pos (starEach [] X.env)) (backToKw pos (keywordEach [] X.env))):=by rfl) :
  PE X (.Call (.Attribute o m apos) [] [] pos) (λσ=>m5 C m sp dvs (E σ) ta ck σ):=by
 intro pins s σ H Q I h
 refine PySem.W.methodCall_KW (pl:=pl) (thn (he pins s σ H _ I h) λu s1 ⟨x,H1,I1,rx,a,dx,fs,ex,ea,l,q⟩=>?_) ht
 subst ex
 obtain rfl:u=Value.ref a:=rx
 refine iD I1 ea c hm l ?_
 exact PySem.W.callWith_K0 (first:=[.ref a]) I1.kIn hm.kp (tS (us:=[.ref a]) (vs:=[.ref a]) F hr hb hd hx I1 (.cons rfl .nil) q)
variable {qual:Str} {N:List Str}
theorem FunD.ok2 {mg:Str->Option Value} {base:Heap} {st:Stmt} {T:Addr} (F:FunD K x qual st f fd T ds) (S:FnScope N ps (aw st)) (len:∀ vs H Q E,sp vs H Q E->vs.length=ps.length)
  (hbody:∀ (cdv:Value) (A:Around) (outer:List Env) (s:Shared) (H:Hp) (vs:List V) (Q:VK) (E:XK),Room k (A.deeper (envOfC qual (aw st) s.heap.objs.size f cdv))->sp vs H Q E ->
   ∃ t,PSs (ic (CX2 P w) P w K mg base N qual (aw st) f cdv A outer s H E) (bz st) t/\t { nx:=λ_ H'=>Q .non H',rt:=Q } (cS N vs) H):FnOk P w K mg base (CX2 P w) (k+1) f fd ps sp:=by
 obtain ⟨oc,od,kV,doc,pm,an,cdv,ct,osl,rfl,lk,hcd⟩:=F.ex
 exact wa lk hcd S len λA outer s H vs Q E hr hsp=>hbody cdv A outer s H vs Q E hr hsp
section
variable {elt t0 i0 t1 i1:Expr} {sc:Scope} {pos:Pos}
abbrev lc2 (elt t0 i0 t1 i1:Expr) (sc:Scope) (pos:Pos):Expr:=.ListComp elt [⟨t0,i0,[],0⟩,⟨t1,i1,[],0⟩] sc pos
theorem xT (it acc:Value) (env:Env):compTurn (lc2 elt t0 i0 t1 i1 sc pos) 0 it acc env=(standAt i0.pos >>= λ_=>pyNext it >>= λr=>match r with
  | none=>pure (.done .next)
  | some v=>letOwnedTupleGo t0 it v >>= λ_=>assign t0 env v >>= λ_=>eval i1 env >>= λx=>standAt i1.pos >>= λ_=>foldedSetIterable i1 env x >>= λy=>holding [y] (pyIter y) >>= λi =>
    runOwn (.compStart (lc2 elt t0 i0 t1 i1 sc pos) 1 i acc env) env >>= λ_=>again (.compLoop (lc2 elt t0 i0 t1 i1 sc pos) 0 it acc env)):=by rfl
theorem zV (it acc:Value) (env:Env):compTurn (lc2 elt t0 i0 t1 i1 sc pos) 1 it acc env=(standAt i1.pos >>= λ_=>pyNext it >>= λr=>match r with
  | none=>pure (.done .next)
  | some v=>letOwnedTupleGo t1 it v >>= λ_=>assign t1 env v >>= λ_=>(eval elt env >>= λx=>call (.builtin "list.append") [acc,x] >>= λ_=>pure ()) >>= λ_=>again (.compLoop (lc2 elt t0 i0 t1 i1 sc pos) 1 it acc env)):=by rfl
variable {prog:Program} {w:World} {A:Around} {R:Result->Shared->Prop} {s:Shared} {it acc:Value} {env:Env}
theorem yR (J:Nat->Shared->Prop)
  (turn:∀ n s,J n s->wpAny (model prog w) A (pyNext it) (λr s₁=>match r with
   | none=>R (.ok .next) s₁
   | some v=>wpAny (model prog w) A (letOwnedTupleGo t1 it v) (λ_ s₂=>wpAny (model prog w) A (assign t1 env v) (λ_ s₃ =>
     wpAny (model prog w) A (eval elt env) (λx s₅=>wpAny (model prog w) A (call (.builtin "list.append") [acc,x]) (λ_ s₆=>∃ m,m < n/\J m s₆) (λ_ _=>False) s₅) (λ_ _=>False) s₃) (λ_ _=>False) s₂) (λ_ _=>False) s₁) (λ_ _=>False) s)
  (n:Nat) (h:J n s):codeAny (model prog w) A (.compLoop (lc2 elt t0 i0 t1 i1 sc pos) 1 it acc env) R s:=by
 refine codeAny_loop rfl J (λn s hJ=>?_) n h
 show wpAny (model prog w) A ((compTurn (lc2 elt t0 i0 t1 i1 sc pos) 1 it acc env).onRaise λx=>do noteFrame x env;theTreesLotGoes x) _ _ s
 refine wpAny_noted (wpAny_noRaise ?_)
 rw [zV]
 refine wpAny_bind (wpAny_standAt (wpAny_bind (thn (turn n s hJ) λr s₁ h₁=>?_)))
 cases r with
 | none=>exact wpAny_pure h₁
 | some v=>exact wpAny_bind (thn h₁ λ_ s₂ h₂=>wpAny_bind (thn h₂ λ_ s₃ h₃=>wpAny_bind (wpAny_bind (thn h₃ λx s₅ h₅=>wpAny_bind (thn h₅ λ_ s₆ h₆=>wpAny_pure (wpAny_pure ⟨rfl,h₆⟩))))))
theorem wM (J:Nat->Shared->Prop)
  (turn:∀ n s,J n s->wpAny (model prog w) A (pyNext it) (λr s₁=>match r with
   | none=>R (.ok .next) s₁
   | some v=>wpAny (model prog w) A (letOwnedTupleGo t0 it v) (λ_ s₂=>wpAny (model prog w) A (assign t0 env v) (λ_ s₃ =>
     wpAny (model prog w) A (eval i1 env) (λx s₄=>wpAny (model prog w) A (pyIter x) (λi s₅=>codeAny (model prog w) A (.compStart (lc2 elt t0 i0 t1 i1 sc pos) 1 i acc env) (λr s₆=>r=.ok .next/\∃ m,m < n/\J m s₆) s₅) (λ_ _=>False) s₄) (λ_ _=>False) s₃) (λ_ _=>False) s₂) (λ_ _=>False) s₁) (λ_ _=>False) s)
  (n:Nat) (h:J n s) (hs:∀ x,foldedSetIterable i1 env x=pure x):codeAny (model prog w) A (.compLoop (lc2 elt t0 i0 t1 i1 sc pos) 0 it acc env) R s:=by
 refine codeAny_loop rfl J (λn s hJ=>?_) n h
 show wpAny (model prog w) A ((compTurn (lc2 elt t0 i0 t1 i1 sc pos) 0 it acc env).onRaise λx=>do noteFrame x env;theTreesLotGoes x) _ _ s
 refine wpAny_noted (wpAny_noRaise ?_)
 rw [xT]
 refine wpAny_bind (wpAny_standAt (wpAny_bind (thn (turn n s hJ) λr s₁ h₁=>?_)))
 cases r with
 | none=>exact wpAny_pure h₁
 | some v =>
  refine wpAny_bind (thn h₁ λ_ s₂ h₂=>wpAny_bind (thn h₂ λ_ s₃ h₃=>wpAny_bind (thn h₃ λx s₄ h₄=>?_)))
  refine wpAny_bind (wpAny_standAt (wpAny_bind (wpAny_of_eq (hs x) ?_)))
  refine wpAny_bind (wpAny_holding (thn h₄ λi s₅ h₅=>wpAny_bind (wpAny_runOwn (h:=none) (codeAny_mono h₅ λr s₆ h₆=>?_))))
  obtain ⟨rfl,h₆⟩:=h₆
  exact wpAny_pure ⟨rfl,h₆⟩
theorem xP (h0:codeAny (model prog w) A (.compLoop (lc2 elt t0 i0 t1 i1 sc pos) 1 it acc env) R s)
  (h:wpAny (model prog w) A (pyIter it) (λj s'=>codeAny (model prog w) A (.compLoop (lc2 elt t0 i0 t1 i1 sc pos) 1 j acc env) R s') (λ_ _=>False) s) :
  codeAny (model prog w) A (.compStart (lc2 elt t0 i0 t1 i1 sc pos) 1 it acc env) R s:=by
 refine codeAny_of_tree ?_
 show wpAny _ _ ((compStart (lc2 elt t0 i0 t1 i1 sc pos) 1 it acc env).onRaise λx=>do noteFrame x env;standAt theWindowsPlace) _ _ s
 refine wpAny_notedAt (wpAny_noRaise ?_)
 unfold compStart
 show wpAny _ _ (ask >>= _) _ _ s
 refine wpAny_bind (wpAny_askSetting (wpAny_ite ?_))
 split
 ·exact wpAny_pure ⟨rfl,h0⟩
 ·exact wpAny_bind (wpAny_rule (wpAny_bind (wpAny_standAt (wpAny_bind (thn h λj s' h'=>wpAny_pure ⟨rfl,h'⟩)))))
end
section
variable {X:Cx} {sc:Scope} {cl:List (Str × Addr)} {C:Addr} {N':List Str} {s0:Shared} {H0:Hp} {fp0:List Addr}
theorem um {elt t0 i0 t1 i1:Expr} {sc':Scope} {pos:Pos} {pins:List (Addr × Obj)} {σ:St} {H:Hp} {s:Shared} {fp:List Addr} {it:Addr} {J:It} {tn:Nat->Heap->Prop} {g1:TG} {te:TE} {D:Addr} {Nx:St->Hp->Prop}
  (I:Inv (X.blk sc cl C N' s0 H0 fp0) pins σ H s) (hc:X.calm=true) (T:j2 X.prog X.w X.K t1 J fp it tn) (st:tn 0 s.heap) (f2:∀ b ∈ fp,gx (X.blk sc cl C N' s0 H0 fp0) pins H b) (hg:PG (X.blk sc cl C N' s0 H0 fp0) t1 g1) (he:PE (X.blk sc cl C N' s0 H0 fp0) elt te)
  (hw:∃ V:Nat->Nat->St->Hp->Prop,(∃ m,V 0 m σ H)/\∀ i m σ' H',V i m σ' H'->(J.stop i H'/\Nx σ' H')\/(J.go i H'/\∃ Ny:St->Hp->Prop,(∀ σ'' H'',Ny σ'' H''->∃ m',m' < m/\V (i+1) m' σ'' H'') /\
   ∀ x H'',J.yld i H' x H''->g1 x σ' H'' λσ2 H2=>te σ2 H2 λv H4=>∃ ys,H4 D=some (.lst ys)/\ys.length < sizeLine/\Ny σ2 (upd H4 D (.lst (ys++[v]))))) :
  codeAny (model X.prog X.w) X.A (.compStart (lc2 elt t0 i0 t1 i1 sc' pos) 1 (.ref it) (.ref D) (compEnvC sc cl C X.env)) (λr s'=>r=.ok .next/\∃ σ' H',Inv (X.blk sc cl C N' s0 H0 fp0) pins σ' H' s'/\Nx σ' H') s:=by
 obtain ⟨V,⟨m0,v0⟩,turn⟩:=hw
 have fJ:∀ {H':Hp},(∀ b ∈ fp,H' b=none)->∀ b ∈ fp,gx (X.blk sc cl C N' s0 H0 fp0) pins H' b:=λhn b hb=>⟨hn b hb,(f2 b hb).2⟩
 have loop:codeAny (model X.prog X.w) X.A (.compLoop (lc2 elt t0 i0 t1 i1 sc' pos) 1 (.ref it) (.ref D) (compEnvC sc cl C X.env)) (λr s'=>r=.ok .next/\∃ σ' H',Inv (X.blk sc cl C N' s0 H0 fp0) pins σ' H' s'/\Nx σ' H') s:=by
  refine yR (λn s'=>∃ i σ' H',Inv (X.blk sc cl C N' s0 H0 fp0) pins σ' H' s'/\tn i s'.heap/\(∀ b ∈ fp,H' b=none)/\V i n σ' H') ?_ m0 ⟨0,σ,H,I,st,λb hb=>(f2 b hb).1,v0⟩
  rintro n s3 ⟨i,σ3,H3,I3,st3,fr3,w3⟩
  rcases turn i n σ3 H3 w3 with ⟨stop,qn⟩ | ⟨go,Ny,hN,step⟩
  ·refine thn (T.done (X.blk sc cl C N' s0 H0 fp0) rfl rfl rfl hc i pins s3 σ3 H3 _ I3 (fJ fr3) st3 stop) λr s4 ⟨hr,I4⟩=>?_
   subst hr
   exact ⟨rfl,σ3,H3,I4,qn⟩
  ·refine thn (T.item (X.blk sc cl C N' s0 H0 fp0) rfl rfl rfl hc i pins s3 σ3 H3 _ I3 (fJ fr3) st3 go) λr s4 ⟨u,hr,h4⟩=>?_
   subst hr
   refine thn h4 λ_ s5 ⟨x,H5,I5,r5,y5,st5,fr5⟩=>?_
   have I5':=I5.pinned (fJ fr5) (T.obj _ _ st5)
   refine thn (hg _ s5 σ3 H5 x u _ I5' r5 (step x H5 y5)) λ_ s6 ⟨σ6,H6,I6,q6⟩=>?_
   refine thn (he _ s6 σ6 H6 _ I6 q6) λy s8 ⟨v,H8,I8,rv,ys,hD8,hz,nx⟩=>?_
   refine thn (dB (X:=(X.blk sc cl C N' s0 H0 fp0)) _ s8 σ6 H8 (.ref D) [v] (.ref D) [y] (λ_ H9=>Ny σ6 H9) I8 rfl (.cons rv .nil) ⟨_,ys,v,rfl,rfl,hD8,hz,nx⟩) λ_ s9 ⟨_,H9,I9,_,n9⟩=>?_
   obtain ⟨m',hm,w9⟩:=hN σ6 H9 n9
   refine ⟨m',hm,i+1,σ6,H9,I9.unpinned,T.keep _ _ _ st5 λb hb o e=>(I9.pin (b,o) (List.mem_append_right _ (List.mem_append_right _ (cu hb e)))).1,λb hb=>?_,w9⟩
   obtain ⟨o,e,d⟩:=T.obj _ _ st5 b hb
   exact (I9.pin (b,o) (List.mem_append_right _ (List.mem_append_right _ (cu hb e)))).2.1
 exact xP loop (T.self _ 0 _ _ _ st loop)
end
def xR (wi:TI) (mk:St->St) (g:TG) (w1:TI) (g1:TG) (te:TE):TE:=λσ H Q=>wi σ H λJ H1=>∀ D,H1 D=none->∃ W:Nat->Nat->St->Hp->Prop,(∃ m,W 0 m (mk σ) (upd H1 D (.lst [])))/\∀ i m σ' H',W i m σ' H' ->
 (J.stop i H'/\Q (.ref D) H') \/
 (J.go i H'/\∃ Nx:St->Hp->Prop,(∀ σ'' H'',Nx σ'' H''->∃ m',m' < m/\W (i+1) m' σ'' H'')/\∀ x H'',J.yld i H' x H''->g x σ' H'' λσ2 H2=>w1 σ2 H2 λJ1 H3=>∃ V:Nat->Nat->St->Hp->Prop,(∃ m,V 0 m σ2 H3)/\∀ j m σ4 H4,V j m σ4 H4->(J1.stop j H4/\Nx σ4 H4) \/
     (J1.go j H4/\∃ Ny:St->Hp->Prop,(∀ σ5 H5,Ny σ5 H5->∃ m',m' < m/\V (j+1) m' σ5 H5)/\∀ y H5,J1.yld j H4 y H5->g1 y σ4 H5 λσ6 H6=>te σ6 H6 λv H7=>∃ ys,H7 D=some (.lst ys)/\ys.length < sizeLine/\Ny σ6 (upd H7 D (.lst (ys++[v])))))
section
variable {X:Cx} {elt iter tg t1 i1:Expr} {sc:Scope} {pos:Pos} {wi w1:TI} {own:List Str} {fr:List Nat} {N':List Str} {g g1:TG} {te:TE}
theorem uc {pins:List (Addr × Obj)} {σ:St} {H:Hp} {s:Shared} {cl:List (Str × Addr)} {fp:List Addr} {it:Addr} {J:It} {tn:Nat->Heap->Prop} {E:Value->Shared->Prop} {Q:VK} {RR:Value->Addr->Result->Shared->Prop}
  (hs1:∀ (cl:List (Str × Addr)) (C:Addr) (x:Value),foldedSetIterable i1 (compEnvC sc cl C X.env) x=pure x) (I:Inv X pins σ H s) (B:Blk X.N X.env.kindOf sc.names own fr N') (hk:sc.kind=.function) (hc:X.calm=true)
  (sub:∀ x c,cl.lookup x=some c->X.env.cells.lookup x=some c) (has:∀ p ∈ sc.names,p.2=.free->cl.lookup p.1=X.env.cells.lookup p.1)
  (T:j2 X.prog X.w X.K tg J fp it tn) (st:tn 0 s.heap) (f2:∀ b ∈ fp,gx X pins H b)
  (hg:∀ cl C s H fp,PG (X.blk sc cl C N' s H fp) tg g) (hI1:∀ cl C s H fp,PI (X.blk sc cl C N' s H fp) t1 i1 w1) (hg1:∀ cl C s H fp,PG (X.blk sc cl C N' s H fp) t1 g1) (he:∀ cl C s H fp,PE (X.blk sc cl C N' s H fp) elt te)
  (hw:∀ D,H D=none->∃ W:Nat->Nat->St->Hp->Prop,(∃ m,W 0 m (mkS own fr σ) (upd H D (.lst [])))/\∀ i m σ' H',W i m σ' H' ->
   (J.stop i H'/\Q (.ref D) H') \/
   (J.go i H'/\∃ Nx:St->Hp->Prop,(∀ σ'' H'',Nx σ'' H''->∃ m',m' < m/\W (i+1) m' σ'' H'')/\∀ x H'',J.yld i H' x H''->g x σ' H'' λσ2 H2=>w1 σ2 H2 λJ1 H3=>∃ V:Nat->Nat->St->Hp->Prop,(∃ m,V 0 m σ2 H3)/\∀ j m σ4 H4,V j m σ4 H4->(J1.stop j H4/\Nx σ4 H4) \/
     (J1.go j H4/\∃ Ny:St->Hp->Prop,(∀ σ5 H5,Ny σ5 H5->∃ m',m' < m/\V (j+1) m' σ5 H5)/\∀ y H5,J1.yld j H4 y H5->g1 y σ4 H5 λσ6 H6=>te σ6 H6 λv H7=>∃ ys,H7 D=some (.lst ys)/\ys.length < sizeLine/\Ny σ6 (upd H7 D (.lst (ys++[v]))))))
  (hRR:∀ D C σ' H' s',D=s.heap.objs.size->s.heap.objs.size≤C->Inv (X.blk sc cl C N' s H fp) [] σ' H' s'->Q (.ref D) H'->RR (.ref D) C (.ok .next) s') :
  wpAny (model X.prog X.w) X.A (newList []) (λacc s₃=>wpAny (model X.prog X.w) X.A (newFunctionEnv sc X.env.globals cl [] X.env.qual none .none (some X.env)) (λcenv s₄ =>
   codeAny (model X.prog X.w) X.A (.compStart (.ListComp elt [⟨tg,iter,[],0⟩,⟨t1,i1,[],0⟩] sc pos) 0 (.ref it) acc { cenv with scope:=relabel sc X.env }) (RR acc cenv.locals) s₄) E s₃) E s:=by
 have fo:∀ b ∈ fp,b < s.heap.objs.size:=λb hb=>by
  obtain ⟨o,e,_⟩:=T.obj _ _ st b hb
  exact Heap.lt_size e
 refine wpAny_newObj_type (wpAny_newFunctionEnv B.cell (by intro y hy;simp at hy) (λh₁ hns₁ hsb₁=>?_) hk)
 dsimp only at hns₁ hsb₁ ⊢
 generalize hH2:s.heap.push { cls:=.type "list",dict:=none,data:=.seq ([]:List Value).toArray }=G at hns₁ hsb₁ ⊢
 have hG:G.objs.size=s.heap.objs.size+1:=by rw [← hH2,Heap.size_push]
 have hlt:s.heap.objs.size < G.objs.size:=by rw [hG];exact Nat.lt_succ_self _
 have old:∀ b o,s.heap.get? b=some o->h₁.get? b=some o:=λb o e =>
  hsb₁.extBut b o (Nat.ne_of_lt (Nat.lt_trans (Heap.lt_size e) hlt)) (Heap.get?_push_of_some _ (hH2 ▸ Heap.get?_push_of_some _ e))
 have hacc:h₁.get? s.heap.objs.size=some { cls:=.type "list",data:=.seq ([]:List Value).toArray } :=
  hsb₁.extBut _ _ (Nat.ne_of_lt hlt) (Heap.get?_push_of_some _ (hH2 ▸ Heap.get?_push_size _ rfl))
 obtain ⟨W,⟨m0,w0⟩,turn⟩:=hw s.heap.objs.size (I.hok.fresh (Nat.le_refl _))
 have st₁:tn 0 h₁:=T.keep _ _ _ st λb _ o e=>old b o e
 have hns':h₁.Ns G.objs.size (λ_=>none):=by
  have e:(λx=>([]:List (Str × Value)).reverse.lookup x)=(λ_:Str=>(none:Option Value)):=by funext x;rfl
  first
   | exact hns₁
   | (rw [e] at hns₁;exact hns₁)
 have loop:∀ s₃:Shared,s₃={ s with heap:=h₁,toks:=s.toks+([]:List (Str × Value)).length } ->
   codeAny (model X.prog X.w) X.A (.compLoop (.ListComp elt [⟨tg,iter,[],0⟩,⟨t1,i1,[],0⟩] sc pos) 0 (.ref it) (.ref s.heap.objs.size) (compEnvC sc cl G.objs.size X.env)) (RR (.ref s.heap.objs.size) G.objs.size) s₃:=by
  rintro s₃ rfl
  have I0:=mD (tk:=s.toks+([]:List (Str × Value)).length) I B hk sub has f2 fo rfl hlt hns' old hacc
  have fJ:∀ {pins':List (Addr × Obj)} {H':Hp},pins'=[]->(∀ b ∈ fp,H' b=none)->∀ b ∈ fp,gx (X.blk sc cl G.objs.size N' s H fp) pins' H' b:=λep hn b hb=>by
   subst ep
   refine ⟨hn b hb,Nat.ne_of_lt (Nat.lt_trans (fo b hb) hlt),λz=>?_,.inl hb,λx c e=>(f2 b hb).2.2.2.2.1 x c (sub x c e),λp hp=>absurd (show p ∈ ([]:List (Addr × Obj)) from hp) (by simp)⟩
   rcases List.mem_cons.mp (I.stkSub b z) with e | e
   ·exact (f2 b hb).2.1 e
   ·exact (f2 b hb).2.2.1 e
  have fr0:∀ b ∈ fp,upd H s.heap.objs.size (.lst []) b=none:=λb hb=>by
   rw [aD (Nat.ne_of_lt (fo b hb))];exact (f2 b hb).1
  refine wM (λn s'=>∃ i σ' H',Inv (X.blk sc cl G.objs.size N' s H fp) [] σ' H' s'/\tn i s'.heap/\(∀ b ∈ fp,H' b=none)/\W i n σ' H') ?_ m0 ⟨0,_,_,I0,st₁,fr0,w0⟩ (hs1 _ _)
  rintro n s3 ⟨i,σ3,H3,I3,st3,fr3,w3⟩
  rcases turn i n σ3 H3 w3 with ⟨stop,qn⟩ | ⟨go,Nx,hN,step⟩
  ·refine thn (T.done (X.blk sc cl G.objs.size N' s H fp) rfl rfl rfl hc i [] s3 σ3 H3 _ I3 (fJ rfl fr3) st3 stop) λr s4 ⟨hr,I4⟩=>?_
   subst hr
   exact hRR _ _ _ _ _ rfl (Nat.le_of_lt hlt) I4 qn
  ·refine thn (T.item (X.blk sc cl G.objs.size N' s H fp) rfl rfl rfl hc i [] s3 σ3 H3 _ I3 (fJ rfl fr3) st3 go) λr s4 ⟨u,hr,h4⟩=>?_
   subst hr
   refine thn h4 λ_ s5 ⟨x,H5,I5,r5,y5,st5,fr5⟩=>?_
   have I5':=I5.pinned (fJ rfl fr5) (T.obj _ _ st5)
   refine thn (hg cl G.objs.size s H fp _ s5 σ3 H5 x u _ I5' r5 (step x H5 y5)) λ_ s6 ⟨σ6,H6,I6,q6⟩=>?_
   have again:∀ {s8:Shared} {σ8:St} {H8:Hp},Inv (X.blk sc cl G.objs.size N' s H fp) ([]++iH fp s5.heap) σ8 H8 s8->Nx σ8 H8 ->
     ∃ m,m < n/\∃ i σ' H',Inv (X.blk sc cl G.objs.size N' s H fp) [] σ' H' s8/\tn i s8.heap/\(∀ b ∈ fp,H' b=none)/\W i m σ' H':=λ{s8 σ8 H8} I8 n8=>by
    obtain ⟨m',hm,w8⟩:=hN σ8 H8 n8
    refine ⟨m',hm,i+1,σ8,H8,I8.unpinned,T.keep _ _ _ st5 λb hb o e=>(I8.pin (b,o) (List.mem_append_right _ (List.mem_append_right _ (cu hb e)))).1,λb hb=>?_,w8⟩
    obtain ⟨o,e,d⟩:=T.obj _ _ st5 b hb
    exact (I8.pin (b,o) (List.mem_append_right _ (List.mem_append_right _ (cu hb e)))).2.1
   refine thn (hI1 cl G.objs.size s H fp _ s6 σ6 H6 _ I6 q6) λx6 s7 h7=>thn h7 λitv s8 h8=>?_
   obtain ⟨it1,fp1,tn1,J1,H8,e8,I8,T1,st8,f8,body8⟩:=h8
   subst e8
   exact codeAny_mono (um I8 hc T1 st8 f8 (hg1 cl G.objs.size s H fp) (he cl G.objs.size s H fp) body8) λr s9 ⟨hr,σ9,H9,I9,n9⟩=>⟨hr,again I9 n9⟩
 exact codeAny_compStart_list (loop _ rfl) (T.self _ 0 _ _ _ st₁ (loop _ rfl))
theorem pT {i:Nat} {y:Str} {py spos:Pos} (hi:PI X tg iter wi) (hk:sc.kind=.function) (hb:cK X.N X.env.kindOf sc.names own fr N'=true) (hc:X.calm=true)
  (hg:∀ cl C s H fp,PG (X.blk sc cl C N' s H fp) tg g) (hI1:∀ cl C s H fp,PI (X.blk sc cl C N' s H fp) t1 i1 w1) (hg1:∀ cl C s H fp,PG (X.blk sc cl C N' s H fp) t1 g1) (he:∀ cl C s H fp,PE (X.blk sc cl C N' s H fp) elt te)
  (hN:X.N.Nodup) (hy:X.N[i]?=some y) (hx:X.env.scope.names.lookup y=some .local)
  (hsw:swapsWith (.ListComp elt [⟨tg,iter,[],0⟩,⟨t1,i1,[],0⟩] sc pos) (some (.Name y py)) spos.line X.env=pure true)
  (hs:∀ x,foldedSetIterable iter X.env x=pure x:=by intro _;rfl) (hs1:∀ (cl:List (Str × Addr)) (C:Addr) (x:Value),foldedSetIterable i1 (compEnvC sc cl C X.env) x=pure x:=by intro _ _ _;rfl):PS X (.Assign [.Name y py] (.ListComp elt [⟨tg,iter,[],0⟩,⟨t1,i1,[],0⟩] sc pos) spos) (jn (xR wi (mkS own fr) g w1 g1 te) (bC i)):=by
 intro pins s σ H D I h
 have B:=qE hb
 obtain ⟨cl,hcl,sub,has⟩:=yy sc X.env λp hp e=>I.ok.has p.1 (B.free p hp e)
 rw [exec_Assign_Name_used _ _ _ _ hsw]
 refine wpAny_bind (wpAny_standAt (wpAny_bind ?_))
 show wpAny _ _ (do let _ ← comprehension (.ListComp elt [⟨tg,iter,[],0⟩,⟨t1,i1,[],0⟩] sc pos) sc X.env _ (newList []) false (eval iter X.env) (some (assign (.Name y py) X.env))) _ _ s
 refine wpAny_bind (wpAny_mono (wpAny_comprehension_free (use:=some (assign (.Name y py) X.env)) (Q:=λ_ s'=>SP X pins D .next s') rfl hs hcl hk B.loc
  (thn (hi pins s σ H _ I h) λv s1 h1=>thn h1 λitv s2 h2=>?_)) (λ_ s' hq=>wpAny_pure (wpAny_pure hq)) λ_ _ e=>e)
 obtain ⟨it,fp,tn,J,H2,e,I2,T,st2,f2,body⟩:=h2
 subst e
 refine uc (Q:=λv H'=>D.nx (σ.set i (some v)) H') (RR:=λacc C=>compPost (model X.prog X.w) X.A X.xe (some (assign (.Name y py) X.env)) (λ_ s'=>SP X pins D .next s') acc C) hs1 I2 B hk hc sub has T st2 f2 hg hI1 hg1 he body ?_
 intro D' C σ' H' s' eD hC J' q
 have I3:=nA I2 f2 J'
 show wpAny _ _ (assign (.Name y py) X.env (.ref D')) _ _ s'
 refine wpAny_assign_Name (jP I3 hN hy (.inl hx) (v:=.ref D') rfl (λs4 I4 ⟨a,hsb,ha⟩=>?_) (.inr hx))
 obtain ⟨m,hn,_⟩:=J'.loc
 have hCa:C≠a:=by
  rcases ha with e | e
  ·rw [e];exact Nat.ne_of_gt (Nat.lt_of_lt_of_le I2.lt hC)
  ·obtain ⟨v,z⟩:=I2.cell _ _ e
   exact Nat.ne_of_gt (Nat.lt_of_lt_of_le z.lt hC)
 refine ⟨m,hn.sameBut hsb hCa,λh' hs'=>⟨_,H',?_,q⟩⟩
 exact Inv.young I2 I4 hC J'.free hs'
end
theorem xm {E:Ends->St->XK}
  (hb:∀ (pn:List (Addr × Obj)) (xe:Value->Shared->Prop) (E:St->XK),eQ (CX2 X.prog X.w) { X with pn:=pn,xe:=xe } E->PassesOwn (model X.prog X.w) X.A X.env xe->PSs { X with pn:=pn,xe:=xe } body (t E))
  (hand:∀ (pins:List (Addr × Obj)) (D:Ends) (σ:St) (H:Hp) (a:Addr) (cls:Value) (dx:Option Addr) (s:Shared),kr X pins σ H a cls dx s->E D σ cls dx H->wpAny (model X.prog X.w) X.A (handleBy (.ref a) X.env hs) (SP X pins D) X.xe s)
  (hst:X.stack=X.env::X.outer:=by rfl) (hfr:X.env.frame=some X.env.locals:=by rfl) (hne:∃ h t,hs=h::t) :
  PS X (.Try body hs [] [] pos) (λD σ H=>t (E D) D σ H):=by
 intro pins s σ H D I h
 obtain ⟨h0,t0,rfl⟩:=hne
 refine wpAny_Try_except (wpAny_mono (hb (X.pn++pins) (λe s₁=>wpAny (model X.prog X.w) X.A (noteFrame e X.env) (λ_ s₂=>wpAny (model X.prog X.w) X.A (setFlight e none) (λ_ s₃ =>
  wpAny (model X.prog X.w) X.A (handleBy e X.env (h0::t0)) (SP X pins D) X.xe s₃) X.xe s₂) X.xe s₁) _ ?_ PassesOwn.looking [] s σ H D I.inTry h) (λf s1 hf=>?_) λe s1 z=>z)
 ·intro pins' σ' H1 s1 e s2 I1 x1
  refine Ai I.ok I1 x1 (λa cls dx H' s' he q L=>?_) hst hfr
  subst he
  exact hand pins D σ' H' a cls dx s' L q
 ·cases f with
  | next=>obtain ⟨σ3,H3,I3,q3⟩:=hf;exact aK pins s1 σ3 H3 D (I3.outTry I.ok) q3
  | brk=>obtain ⟨σ3,H3,I3,q3⟩:=hf;exact ⟨σ3,H3,I3.outTry I.ok,q3⟩
  | cont=>obtain ⟨σ3,H3,I3,q3⟩:=hf;exact ⟨σ3,H3,I3.outTry I.ok,q3⟩
  | ret u=>obtain ⟨v,σ3,H3,I3,r3,q3⟩:=hf;exact ⟨v,σ3,H3,I3.outTry I.ok,r3,q3⟩
theorem xl {np:Pos}
  (hb:∀ (pn:List (Addr × Obj)) (xe:Value->Shared->Prop) (E:St->XK),eQ (CX2 X.prog X.w) { X with pn:=pn,xe:=xe } E->PassesOwn (model X.prog X.w) X.A X.env xe->PSs { X with pn:=pn,xe:=xe } body (t E))
  (hg:Gl X x) (hm:X.mg x=some C) (hh:∀ e:Value,PSs (X.hand e) (b₀::suite) th)
  (hst:X.stack=X.env::X.outer:=by rfl) (hfr:X.env.frame=some X.env.locals:=by rfl) (hd:(x == ("__debug__":Str))=false:=by decide) :
  PS X (.Try body [.ExceptHandler (some (.Name x np)) none (b₀::suite) hpos] [] [] pos) (λD σ H=>t (λσ' cls _ H'=>PySem.W.exmOne X.K cls C=some true/\th D σ' H') D σ H) :=
 xm (E:=λD σ' cls _ H'=>PySem.W.exmOne X.K cls C=some true/\th D σ' H') hb (λ_ _ _ _ _ _ _ _ L q=>sX L hg hm hh q.1 (λ_=>q.2) (λz=>nomatch z) hd) hst hfr ⟨_,_,rfl⟩
section
variable {K:PySem.W.Frag} {tl te:TE} {mk:St->St} {i j kk:Nat} {σ:St} {H:Hp} {cs es:List D} {wv:V}
theorem BC (f:D->D->D) (h:RL K tl σ H cs) (hw:LD K H es wv) (hk:(mk σ)[kk]?=some (some wv)) (hki:kk≠i) (hkj:kk≠j) (hij:i≠j) (hl:cs.length * es.length≤1000) (h0:(mk σ).set i none=mk σ) (h1:(mk σ).set j none=mk σ)
  (turn:∀ G c v e w,Same H G->c ∈ cs->e ∈ es->Dat K G c v->Dat K G e w->RE K te (((mk σ).set i (some v)).set j (some w)) G (f c e)) :
  RC K (xR (kK K tl) mk (bC i) (kK K (cx kk)) (bC j) te) σ H (cs.flatMap λc=>es.map (f c)):=λH1 s Q q=>by
 obtain ⟨lw,yw,rfl,hyw,hdw⟩:=hw
 have lenw:=hdw.length
 have S1:∀ z z' v,(((mk σ).set i z).set j z').set i v=((mk σ).set i v).set j z':=λz z' v=>by
  rw [List.set_comm _ _ hij.symm,List.set_set]
 have S2:∀ z z' v,(((mk σ).set i z).set j z').set j v=((mk σ).set i z).set j v:=λz z' v=>by rw [List.set_set]
 have S0:((mk σ).set i none).set j none=mk σ:=by rw [h0,h1]
 have SK:∀ z z',(((mk σ).set i z).set j z')[kk]?=some (some (.ref lw)):=λz z'=>by
  rw [List.getElem?_set_ne hkj.symm,List.getElem?_set_ne hki.symm];exact hk
 refine (h.mono s).use λv4 H4 s4 q4=>?_
 have q4':=q4
 obtain ⟨l4,ys4,rfl,hy4,hd4⟩:=q4
 have len4:=hd4.length
 have sH:=s.trans s4
 refine ⟨l4,rfl,⟨ys4,hy4.sqL⟩,λD hD=>?_⟩
 refine ⟨λn m σ' H'=>m=ys4.length - n/\n≤ys4.length/\(∃ z z',σ'=((mk σ).set i z).set j z')/\Same H4 H'/\∃ us,H' D=some (.lst us)/\Dats K H' ((cs.take n).flatMap λc=>es.map (f c)) us,
  ⟨_,rfl,Nat.zero_le _,⟨none,none,S0.symm⟩,aC hD _,[],av,by rw [List.take_zero];exact Dats.nil⟩,?_⟩
 rintro n m σ' H' ⟨rfl,hn,⟨z,z',rfl⟩,sN,us,hus,dus⟩
 by_cases hlt:n < ys4.length
 ·have hlc:n < cs.length:=by omega
  obtain ⟨vz,ez,hz⟩:=hd4.get (List.getElem?_eq_getElem hlc)
  refine .inr ⟨⟨ys4,vz,sN.seq hy4.sqL,ez⟩,λσ'' H''=>(∃ z z',σ''=((mk σ).set i z).set j z')/\Same H4 H''/\∃ us,H'' D=some (.lst us)/\Dats K H'' ((cs.take (n+1)).flatMap λc=>es.map (f c)) us,λσ'' H'' ⟨a1,a2,a3⟩=>⟨ys4.length - (n+1),by omega,rfl,hlt,a1,a2,a3⟩,λx H'' yx=>?_⟩
  obtain ⟨e1,e2⟩:=yx
  subst e1
  have ex:=e2 ys4 (sN.seq hy4.sqL)
  rw [ez] at ex
  cases ex
  simp only [bC]
  rw [S1]
  refine ⟨_,SK _ _,lw,rfl,⟨yw,(sH.trans sN).seq hyw.sqL⟩,?_⟩
  refine ⟨λk m σ4 G=>m=yw.length - k/\k≤yw.length/\(∃ z',σ4=((mk σ).set i (some vz)).set j z')/\Same H4 G/\∃ us,G D=some (.lst us)/\Dats K G (((cs.take n).flatMap λc=>es.map (f c))++(es.take k).map (f cs[n])) us,
   ⟨_,rfl,Nat.zero_le _,⟨z',rfl⟩,sN,us,hus,by rw [List.take_zero,List.map_nil,List.append_nil];exact dus⟩,?_⟩
  rintro k m σ4 G ⟨rfl,hkn,⟨y',rfl⟩,sG,us4,hus4,dus4⟩
  have sHG:=sH.trans sG
  by_cases hlk:k < yw.length
  ·have hle:k < es.length:=by omega
   obtain ⟨wz,ew,hwz⟩:=(sHG.dats hdw).get (List.getElem?_eq_getElem hle)
   refine .inr ⟨⟨yw,wz,sHG.seq hyw.sqL,ew⟩,λσ'' H''=>(∃ z',σ''=((mk σ).set i (some vz)).set j z')/\Same H4 H''/\∃ us,H'' D=some (.lst us)/\Dats K H'' (((cs.take n).flatMap λc=>es.map (f c))++(es.take (k+1)).map (f cs[n])) us,λσ'' H'' ⟨a1,a2,a3⟩=>⟨yw.length - (k+1),by omega,rfl,hlk,a1,a2,a3⟩,λx G2 yx=>?_⟩
   obtain ⟨e1,e2⟩:=yx
   subst e1
   have ex:=e2 yw (sHG.seq hyw.sqL)
   rw [ew] at ex
   cases ex
   simp only [bC]
   rw [S2]
   refine (turn _ cs[n] vz es[k] wz sHG (List.getElem_mem hlc) (List.getElem_mem hle) (sG.dat hz) hwz).use λv5 G5 s5 q5=>?_
   have hus5:=s5 _ _ hus4
   have bb:But D G5 (upd G5 D (.lst (us4++[v5]))):=But.upd (Same.refl _).but
   have gr:cT K G5 (upd G5 D (.lst (us4++[v5]))):=bb.grow hus5 av
   have lu:us4.length≤1000:=by
    rw [← dus4.length,List.length_append,List.length_map,List.length_flatMap,List.length_take]
    refine Nat.le_trans ?_ hl
    have e1:((cs.take n).map λc=>(es.map (f c)).length)=List.replicate n es.length:=by
     rw [show (λc=>(es.map (f c)).length)=λ_=>es.length from funext λc=>List.length_map _,List.map_const',List.length_take]
     rw [Nat.min_eq_left (by omega)]
    rw [e1,List.sum_replicate_nat]
    have h2:n * es.length+es.length≤cs.length * es.length:=by rw [← Nat.succ_mul];exact Nat.mul_le_mul_right _ hlc
    omega
   refine ⟨us4,hus5,d8 lu,⟨some wz,rfl⟩,?_,us4++[v5],av,?_⟩
   ·exact λa o ha=>bb a o (λz=>by rw [z,hD] at ha;cases ha) (s5 _ _ (sG _ _ ha))
   ·rw [List.take_succ,List.getElem?_eq_getElem hle,List.map_append,← List.append_assoc]
    exact Dats.append (Dats.mono gr _ (s5.dats dus4)) (Dats.cons (Dat.mono gr _ q5) Dats.nil)
  ·have e:k=yw.length:=by omega
   subst e
   refine .inl ⟨⟨yw,sHG.seq hyw.sqL,Nat.le_refl _⟩,⟨_,_,rfl⟩,sG,us4,hus4,?_⟩
   rw [← lenw,List.take_length] at dus4
   rw [List.take_succ,List.getElem?_eq_getElem hlc,List.flatMap_append]
   simp only [Option.toList,List.flatMap_cons,List.flatMap_nil,List.append_nil]
   exact dus4
 ·have e:n=ys4.length:=by omega
  subst e
  refine .inl ⟨⟨ys4,sN.seq hy4.sqL,Nat.le_refl _⟩,q D us H' (s4.free hD) (s4.trans sN) hus ?_⟩
  rw [← len4,List.take_length] at dus
  exact dus
end
section
variable {K:PySem.W.Frag} {σ:St} {H:Hp} {d:D} {ds:List D} {t ta tb:TE}
abbrev Cc (K:PySem.W.Frag):R2:=λx y H Q=>Bw K x y H Q\/xn K x y H Q
variable {k:Nat}
theorem lJ (h1:RE K ta σ H (.tup ds)) (h2:RE K tb σ H (.int k)) (e:ds[k]?=some d):RE K (tOp (Cc K) ta tb) σ H d:=λH1 s Q q =>
 h1 H1 s _ λv H2 s2 q2=>h2 H2 (s.trans s2) _ λw H3 s3 q3=>by
  obtain ⟨a,vs,ev,hq,hd⟩:=(s3.dat q2).tupE
  obtain ⟨x,ex,hx⟩:=hd.get e
  exact .inr ⟨a,vs,k,x,ev,q3.intE,hq,fu ex,q _ _ (s2.trans s3) hx⟩
theorem je (h1:RL K ta σ H ds) (h2:RE K tb σ H (.int k)) (e:ds[k]?=some d):RE K (tOp (Cc K) ta tb) σ H d:=λH1 s Q q =>
 h1 H1 s _ λv H2 s2 q2=>h2 H2 (s.trans s2) _ λw H3 s3 q3=>by
  obtain ⟨a,vs,ev,hq,hd⟩:=s3.ld q2
  obtain ⟨x,ex,hx⟩:=hd.get e
  exact .inl ⟨a,vs,k,x,ev,q3.intE,hq.sqL,fu ex,q _ _ (s2.trans s3) hx⟩
abbrev Cf (K:PySem.W.Frag):V->Option Int->Option Int->Hp->VK->Prop:=λx lo hi H Q=>Cg K x lo hi H Q\/Bx K x lo hi H Q
variable {lo hi:Nat}
theorem tO (h:RE K t σ H (.tup ds)) (h1:RE K ta σ H (.int lo)) (h2:RE K tb σ H (.int hi)) (hl:1≤lo) (hd:0 < ds.length):RE K (tSl (Cf K) t (m6 ta) (m6 tb)) σ H (.tup ((ds.drop lo).take (hi - lo))):=λH1 s Q q =>
 h H1 s _ λv H2 s2 q2=>h1 H2 (s.trans s2) _ λv3 H3 s3 q3=>⟨lo,q3.intE,h2 H3 (s.trans (s2.trans s3)) _ λv4 H4 s4 q4=>⟨hi,q4.intE,by
  obtain ⟨a,vs,ev,hq,hds⟩:=((s3.trans s4).dat q2).tupE
  have ll:=hds.length
  refine .inr ⟨a,vs,ev,hq,λz=>?_,λp hp=>?_⟩
  ·rw [HT.sIx_nat] at z
   omega
  ·rw [sP]
   exact q _ _ (s2.trans (s3.trans (s4.trans (aC hp _)))) (Dat.tupI (SqT.of av) ((aC hp _).dats (Dats.takeN (Dats.dropN hds))))⟩⟩
theorem tN (h:RL K t σ H ds) (h1:RE K ta σ H (.int lo)) (h2:RE K tb σ H (.int hi)):RC K (tSl (Cf K) t (m6 ta) (m6 tb)) σ H ((ds.drop lo).take (hi - lo)):=λH1 s Q q =>
 h H1 s _ λv H2 s2 q2=>h1 H2 (s.trans s2) _ λv3 H3 s3 q3=>⟨lo,q3.intE,h2 H3 (s.trans (s2.trans s3)) _ λv4 H4 s4 q4=>⟨hi,q4.intE,by
  obtain ⟨a,vs,rfl,hq,hds⟩:=(s3.trans s4).ld q2
  refine .inl ⟨a,vs,rfl,hq.sqL,λp hp=>?_⟩
  rw [sP]
  exact q p _ _ ((s2.trans (s3.trans s4)).free hp) (s2.trans (s3.trans (s4.trans (aC hp _)))) av ((aC hp _).dats (Dats.takeN (Dats.dropN hds)))⟩⟩
end
variable {te:TE}
theorem pY {J:It} {item:Nat->V} {j:Nat} {σ0:St} {Q:VK}
  (go:∀ i H',Same H1 H'->i < n->J.go i H'/\∀ x H'',J.yld i H' x H''->H''=H'/\x=item i) (stop:∀ H',Same H1 H'->J.stop n H') (h0:σ0.set j none=σ0) (ess:List (List D)) (hl:ess.length=n) (hn:n≤1000)
  (turn:∀ i es G,Same H1 G->ess[i]?=some es->RC K te (σ0.set j (some (item i))) G es) (fin:∀ l ys H',H1 l=none->Same H1 H'->H' l=some (.lst ys)->LDs K H' ess ys->Q (.ref l) H') (l:Addr) (hD:H1 l=none) :
  ∃ W:Nat->Nat->St->Hp->Prop,(∃ m,W 0 m σ0 (upd H1 l (.lst [])))/\∀ i m σ' H',W i m σ' H' ->
   (J.stop i H'/\Q (.ref l) H') \/
   (J.go i H'/\∃ Nx:St->Hp->Prop,(∀ σ'' H'',Nx σ'' H''->∃ m',m' < m/\W (i+1) m' σ'' H'')/\∀ x H'',J.yld i H' x H''->bC j x σ' H'' λσ2 H2=>fG σ2 H2 λb H3 =>
    if b=true then te σ2 H3 λv H4=>∃ ys,H4 l=some (.lst ys)/\ys.length < sizeLine/\Nx σ2 (upd H4 l (.lst (ys++[v]))) else Nx σ2 H3):=by
 refine ⟨λi m σ' G=>m=n - i/\i≤n/\(∃ z,σ'=σ0.set j z)/\Same H1 G/\∃ ys,G l=some (.lst ys)/\LDs K G (ess.take i) ys/\Off K G l ys,⟨n,by omega,Nat.zero_le _,⟨none,h0.symm⟩,aC hD _,[],av,by rw [List.take_zero];exact .nil,λv hv=>by cases hv⟩,?_⟩
 rintro i m σ' G ⟨rfl,hle,⟨z,rfl⟩,sG,ys,hy,dy,off⟩
 by_cases hlt:i < n
 ·obtain ⟨g,y⟩:=go i G sG hlt
  refine .inr ⟨g,λσ'' G'=>(∃ z,σ''=σ0.set j z)/\Same H1 G'/\∃ ys,G' l=some (.lst ys)/\LDs K G' (ess.take (i+1)) ys/\Off K G' l ys,λσ'' G' w=>⟨n - (i+1),by omega,rfl,hlt,w.1,w.2⟩,λx G' yx=>?_⟩
  obtain ⟨e1,e2⟩:=y x G' yx
  subst e1 e2
  have hne:i < ess.length:=by omega
  simp only [bC,fG,if_true,List.set_set]
  refine RC.use (turn i ess[i] _ sG (List.getElem?_eq_getElem hne)) λr zs G4 hr s4 hz dz=>?_
  have hy4:=s4 _ _ hy
  have nrl:r≠l:=λz=>by rw [z,hy] at hr;cases hr
  have lys:ys.length=i:=by rw [← dy.length,List.length_take];omega
  refine ⟨ys,hy4,d8 (by omega),⟨_,rfl⟩,λx o hx=>?_,ys++[.ref r],av,?_,?_⟩
  ·rw [aD (aI hx hD)]
   exact s4 _ _ (sG _ _ hx)
  ·have bl:But l G4 (upd G4 l (.lst (ys++[.ref r]))):=But.upd (Same.refl G4).but
   have g:cT K G4 (upd G4 l (.lst (ys++[.ref r]))):=bl.grow hy4 av
   rw [List.take_add_one,List.getElem?_eq_getElem hne]
   exact LDs.snoc (LDs.grown (s4.lds dy) off bl hy4 av) (LD.of (bl _ _ nrl hz) (Dats.mono g _ dz))
  ·intro v hv
   rcases List.mem_append.mp hv with hv | hv
   ·exact off v hv
   ·rw [List.mem_singleton.mp hv]
    exact λz=>nrl (by injection z)
 ·have e:i=n:=by omega
  subst e
  refine .inl ⟨stop G sG,?_⟩
  rw [List.take_of_length_le (by omega)] at dy
  exact fin l ys G hD sG hy dy
section
variable {K:PySem.W.Frag} {σ:St} {H:Hp} {tA:TA} {tl te ta tb:TE} {tc:TT} {mk:St->St} {j n:Nat} {cs:List D}
theorem zA (h:RA K tA σ H [.int n]) (hc:n≤1000) (ess:List (List D)) (hl:ess.length=n) (h0:(mk σ).set j none=mk σ)
  (turn:∀ G (i:Nat) es,Same H G->ess[i]?=some es->RC K te ((mk σ).set j (some (.int i))) G es):RCL K (gw (Ah tA) mk (bC j) fG te) σ H ess:=λH1 s Q q=>by
 refine h H1 s _ λvs H2 s2 q2=>?_
 obtain ⟨u,e,hu⟩:=dQ q2
 have eu:=hu.intE
 subst eu e
 refine ⟨n,rfl,by omega,by omega,?_⟩
 rw [Int.toNat_natCast]
 exact pY (K:=K) (item:=λi=>.int i) (λi H' s hi=>A6 i H' hi) (λH' s=>Nat.le_refl _) h0 ess hl hc (λi es G sG e=>turn G i es (s.trans (s2.trans sG)) e) (λl ys H' hl s'=>q l ys H' (s2.free hl) (s2.trans s'))
theorem lG (h:RL K tl σ H cs) (hc:cs.length≤1000) (ess:List (List D)) (hl:ess.length=cs.length) (h0:(mk σ).set j none=mk σ)
  (turn:∀ G (i:Nat) c v es,Same H G->cs[i]?=some c->ess[i]?=some es->Dat K G c v->RC K te ((mk σ).set j (some v)) G es):RCL K (gw (kK K tl) mk (bC j) fG te) σ H ess:=λH1 s Q q=>by
 refine (h.mono s).use λv4 H4 s4 q4=>?_
 obtain ⟨l4,ys4,rfl,hy4,hd4⟩:=q4
 have ll:=hd4.length
 refine ⟨l4,rfl,⟨ys4,hy4.sqL⟩,?_⟩
 refine pY (K:=K) (n:=ys4.length) (item:=λi=>ys4.getD i .non) (λi H' s hi=>qN i H' (s.seq hy4.sqL) hi) (λH' s=>⟨ys4,s.seq hy4.sqL,Nat.le_refl _⟩) h0 ess (by omega) (by omega) (λi es G sG hi=>?_) (λl ys H5 hl5 s5=>q l ys H5 (s4.free hl5) (s4.trans s5))
 have hi':i < ess.length:=(List.getElem?_eq_some_iff.mp hi).1
 have hic:i < cs.length:=by omega
 obtain ⟨vz,ez,hz⟩:=hd4.get (List.getElem?_eq_getElem hic)
 rw [List.getD_eq_getElem?_getD,ez]
 exact turn G i cs[i] vz es (s.trans (s4.trans sG)) (List.getElem?_eq_getElem hic) hi (sG.dat hz)
end
variable {l:Expr} {tl:TE}
theorem xf (hK:X.K=K) (hl:PE X l tl):PI X tg l (kK K tl):=by
 subst hK
 exact di hl
def Cx.blkC (X:Cx) (sc:Scope) (cl:List (Str × Addr)) (x0:Str) (c0:Addr) (C:Addr) (N:List Str) (s:Shared) (H:Hp) (fp:List Addr):Cx:={ X.blk sc ((x0,c0)::cl) C N s H fp with fn:=λx=>x == x0 }
structure yg (x0:Str) (N:List Str) (ok:Str->Option NameKind) (names:List (Str × NameKind)) (own:List Str) (fr:List Nat) (N':List Str):Prop where
 eN:N'=own++fr.map λj=>N.getD j ""
 fr:∀ j ∈ fr,j < N.length/\names.lookup (N.getD j "")=some .free
 free:∀ p ∈ names,p.2=.free->ok p.1=some .cell\/ok p.1=some .free
 cell:∀ p ∈ names,p.2=.cell->p.1=x0
 loc:∀ p ∈ names,p.2=.local->names.lookup p.1=some .local
section
variable {X:Cx} {pins:List (Addr × Obj)} {σ:St} {H:Hp} {s:Shared} {sc:Scope} {cl:List (Str × Addr)} {own:List Str} {fr:List Nat} {N':List Str} {fp:List Addr} {x0:Str} {c0:Addr}
variable {C:Addr}
theorem qD (I:Inv X pins σ H s) (B:yg x0 X.N X.env.kindOf sc.names own fr N') (hk:sc.kind=.function)
  (sub:∀ x c,cl.lookup x=some c->X.env.cells.lookup x=some c) (has:∀ p ∈ sc.names,p.2=.free->cl.lookup p.1=X.env.cells.lookup p.1)
  (f2:∀ b ∈ fp,gx X pins H b) (fo:∀ b ∈ fp,b < s.heap.objs.size) {h1:Heap} {tk:Nat} {D:Addr} {n:Nat} (eD:D=s.heap.objs.size) (eC:s.heap.objs.size < C)
  (hx0:sc.names.lookup x0=some .cell) (lc0:s.heap.objs.size < c0) (hc0:h1.IsCell c0 none) (hns:h1.Ns C (λ_=>none)) (old:∀ b o,s.heap.get? b=some o->h1.get? b=some o) (hD:h1.get? D=some { cls:=.type "list",data:=.seq ([]:List Value).toArray n }) :
  Inv (X.blkC sc cl x0 c0 C N' s H fp) [] (mkS own fr σ) (upd H D (.lst [])) { s with heap:=h1,toks:=tk }:=by
 have hcells:∀ x c,cl.lookup x=some c->c < s.heap.objs.size:=λx c e=>by
  obtain ⟨v,q⟩:=I.cell x c (sub x c e)
  exact q.lt
 have look:∀ x,x≠x0->List.lookup x ((x0,c0)::cl)=cl.lookup x:=λx hx=>by
  rw [List.lookup_cons]
  have:(x == x0)=false:=by simpa using hx
  rw [this]
 have look0:List.lookup x0 ((x0,c0)::cl)=some c0:=by rw [List.lookup_cons];simp
 have cases':∀ x c,List.lookup x ((x0,c0)::cl)=some c->(x=x0/\c=c0)\/(x≠x0/\cl.lookup x=some c):=λx c e=>by
  by_cases hx:x=x0
  ·subst hx;rw [look0] at e;exact .inl ⟨rfl,(Option.some.inj e).symm⟩
  ·rw [look x hx] at e;exact .inr ⟨hx,e⟩
 have hDn:H D=none:=I.hok.fresh (Nat.le_of_eq eD.symm)
 have kind:∀ x,(X.blkC sc cl x0 c0 C N' s H fp).env.kindOf x=(sc.names.lookup x).map (rk X.env x):=λx=>jf sc X.env x
 refine ⟨⟨I.ok.mod,hk,I.ok.glob,I.ok.blt,Nat.le_of_lt eC,λx y c e1 e2=>?_,λx hx=>?_,(λx c e1 e2=>?_),I.ok.hd,I.ok.frames,.inl rfl,λb hb=>⟨?_,λx c e=>?_⟩,I.bs,Nat.le_trans I.ok.bsz I.sz,λb o e hb=>?_,λb hb=>?_,I.stack,I.stkFree⟩,
  rfl,I.bare,Un.laid old (Nat.le_of_eq eD.symm) hDn,⟨_,hns,λi x v e1 e2 e3=>?_⟩,λx c e=>?_,?_,λx c e=>?_,λp hp=>?_,I.hok.laid old (Nat.le_of_eq eD.symm) ⟨Nat.zero_le _,[],n,.nil,hD⟩,?_⟩
 ·rcases cases' x c e1 with ⟨a1,a2⟩ | ⟨a1,a2⟩ <;> rcases cases' y c e2 with ⟨b1,b2⟩ | ⟨b1,b2⟩
  ·rw [a1,b1]
  ·exact absurd (Nat.lt_trans (hcells y c b2) (by rw [a2];exact lc0)) (Nat.lt_irrefl _)
  ·exact absurd (Nat.lt_trans (hcells x c a2) (by rw [b2];exact lc0)) (Nat.lt_irrefl _)
  ·exact I.ok.inj x y c (sub x c a2) (sub y c b2)
 ·have hx':(sc.names.lookup x).map (rk X.env x)=some .cell\/(sc.names.lookup x).map (rk X.env x)=some .free:=by
   rw [← kind x];exact hx
  cases q:sc.names.lookup x with
  | none=>rw [q] at hx';simp at hx'
  | some k =>
   have hm:=PySem.mem_of_lookup q
   by_cases hf:k=.free
   ·subst hf
    show ∃ c,List.lookup x ((x0,c0)::cl)=some c
    rw [look x (λz=>by rw [z,hx0] at q;cases q),has _ hm rfl]
    have z:=B.free _ hm rfl
    exact I.ok.has x z
   ·rw [q] at hx'
    simp only [Option.map_some,xK hf] at hx'
    rcases hx' with z | z
    ·have:=B.cell _ hm (Option.some.inj z)
     exact ⟨c0,by rw [show x=x0 from this];exact look0⟩
    ·exact absurd (Option.some.inj z) hf
 ·rcases cases' x c e2 with ⟨a1,a2⟩ | ⟨a1,a2⟩
  ·rw [a2];show s.heap.objs.size≤c0;omega
  ·have e1:(x == x0)=true:=e1
   exact absurd (by simpa using e1) a1
 ·exact Nat.ne_of_lt (Nat.lt_trans (fo b hb) eC)
 ·rcases cases' x c e with ⟨a1,a2⟩ | ⟨a1,a2⟩
  ·rw [a2];exact Nat.ne_of_gt (Nat.lt_trans (fo b hb) lc0)
  ·exact (f2 b hb).2.2.2.2.1 x c (sub x c a2)
 ·rcases (f2 b hb).2.2.2.1 with z | z
  ·exact I.ok.noex b o e z
  ·exact absurd (Nat.lt_of_lt_of_le (Heap.lt_size e) (Nat.le_trans I.ok.bsz z)) (Nat.lt_irrefl _)
 ·intro z
  rcases List.mem_cons.mp (I.stkSub b z) with e | e
  ·exact (f2 b hb).2.1 e
  ·exact (f2 b hb).2.2.1 e
 ·
  have e1':N'[i]?=some x:=e1
  have hi:¬ i < own.length:=λz=>by
   unfold mkS at e2
   rw [List.getElem?_append_left (by simpa using z),List.getElem?_map,List.getElem?_eq_getElem z] at e2
   cases e2
  unfold mkS at e2
  rw [List.getElem?_append_right (by simpa using hi),List.length_map,List.getElem?_map] at e2
  rw [B.eN,List.getElem?_append_right (by simpa using hi),List.getElem?_map] at e1'
  cases q:fr[i - own.length]? with
  | none=>rw [q] at e2;cases e2
  | some j =>
   rw [q] at e2 e1'
   simp only [Option.map_some,Option.some.injEq] at e2 e1'
   obtain ⟨hj,hfr⟩:=B.fr j (List.mem_of_getElem? q)
   have ej:X.N[j]?=some x:=by
    rw [← e1',List.getD_eq_getElem?_getD,List.getElem?_eq_getElem hj];rfl
   have eσ:σ[j]?=some (some v):=by
    cases z:σ[j]? with
    | none=>rw [z] at e2;cases e2
    | some o=>rw [z] at e2;simp only [Option.getD_some] at e2;rw [e2]
   rw [e1'] at hfr
   have hm:=PySem.mem_of_lookup hfr
   have hok:=B.free _ hm rfl
   obtain ⟨m0,hn0,hl0⟩:=I.loc
   have hv:Vis X.env.scope x:=by
    rcases hok with z | z
    ·exact .inr (.inl z)
    ·exact .inr (.inr z)
   obtain ⟨u,r,l⟩:=hl0 j x v ej eσ hv
   refine ⟨u,r,?_⟩
   rcases l with ⟨z,_⟩ | ⟨_,c,hc,o,ho,hd⟩
   ·have hok':X.env.kindOf x=some .cell\/X.env.kindOf x=some .free:=hok
    rw [z] at hok'
    rcases hok' with y | y <;> cases y
   ·refine .inr ⟨?_,c,?_,o,old c o ho,hd⟩
    ·rw [kind x,hfr]
     rcases tQ (env:=X.env) (x:=x) with y | y
     ·exact .inl (by rw [Option.map_some,y])
     ·exact .inr (by rw [Option.map_some,y])
    ·show List.lookup x ((x0,c0)::cl)=some c
     rw [look x (λz=>by rw [z,hx0] at hfr;cases hfr)]
     have z:=has _ hm rfl
     exact z.trans hc
 ·rcases cases' x c e with ⟨a1,a2⟩ | ⟨a1,a2⟩
  ·rw [a2];exact ⟨none,hc0⟩
  ·obtain ⟨v,o,ho,hd⟩:=I.cell x c (sub x c a2)
   exact ⟨v,o,old c o ho,hd⟩
 ·show upd H D _ C=none
  rw [aD (by rw [eD];exact Nat.ne_of_gt eC)]
  exact I.hok.fresh (Nat.le_of_lt eC)
 ·show upd H D _ c=none
  rcases cases' x c e with ⟨a1,a2⟩ | ⟨a1,a2⟩
  ·rw [a2,aD (by rw [eD];exact Nat.ne_of_gt (by omega))]
   exact I.hok.fresh (by omega)
  ·rw [aD (by rw [eD];exact Nat.ne_of_lt (hcells x c a2))]
   exact I.freeC x c (sub x c a2)
 ·exact absurd (show p ∈ ([]:List (Addr × Obj)) from hp) (by simp)
 ·show (mkS own fr σ).length=N'.length
  rw [B.eN]
  simp [mkS]
theorem vK {σ':St} {H':Hp} {s':Shared} (I:Inv X pins σ H s) (f2:∀ b ∈ fp,gx X pins H b) (J:Inv (X.blkC sc cl x0 c0 C N' s H fp) [] σ' H' s'):Inv X pins σ H' s' :=
 I.call' (ch:=fp) J.os J.base J.hok J.bare λb hb=>⟨(f2 b hb).2.2.2.1,(f2 b hb).2.1,(f2 b hb).2.2.2.2.1,(f2 b hb).2.2.2.2.2⟩
end
variable {x0:Str}
theorem pE {M:Model} {E:Value->Shared->Prop} {scope:Scope} {globals:Addr} {closure:List (Str × Addr)} {env:Env} {Q:Env->Shared->Prop} (hcf:∀ n acc,cellsFrom n scope.names acc=(x0,n)::acc) (hpc:∀ h,pushCells h scope.names=h.push { cls:=.type "cell",data:=.cell none }) (hk:scope.kind=.function)
  (hQ:Q { scope,locals:=s.heap.objs.size,globals,cells:=(x0,s.heap.objs.size+1)::closure,qual,func:=none,code:=env.code,frame:=env.frame,builtins:=env.builtins } { s with heap:=(s.heap.push { cls:=.type "dict",data:=.dict #[] }).push { cls:=.type "cell",data:=.cell none } }) :
  wpAny M A (newFunctionEnv scope globals closure [] qual none .none (some env)) Q E s:=by
 simp only [newFunctionEnv,Option.isSome_some,if_true]
 refine wpAny_bind (wpAny_alloc ?_)
 refine wpAny_bind (wpAny_layCells _ (λname kind cells=>by cases hkc:kind == NameKind.cell <;> simp [hkc]) _ _ _ _ ?_)
 rw [hcf,hpc]
 rw [show ({ s with heap:=s.heap.push { cls:=.type "dict",data:=.dict #[] } }:Shared).heap.objs.size=s.heap.objs.size+1 from Heap.size_push ..]
 exact wpAny_bind (wpAny_pure (wpAny_pure hQ))
section
variable {X:Cx} {elt iter tg:Expr} {ifs:List Expr} {sc:Scope} {pos:Pos} {wi:TI} {own:List Str} {fr:List Nat} {N':List Str} {g:TG} {tt:TT} {te:TE} {x0:Str}
theorem ud {pins:List (Addr × Obj)} {σ:St} {H:Hp} {s:Shared} {cl:List (Str × Addr)} {fp:List Addr} {it:Addr} {J:It} {tn:Nat->Heap->Prop} {E:Value->Shared->Prop} {Q:VK} {RR:Value->Addr->Result->Shared->Prop}
  (I:Inv X pins σ H s) (B:yg x0 X.N X.env.kindOf sc.names own fr N') (hk:sc.kind=.function) (hc:X.calm=true) (hx0:sc.names.lookup x0=some .cell) (hcf:∀ n acc,cellsFrom n sc.names acc=(x0,n)::acc) (hpc:∀ h,pushCells h sc.names=h.push { cls:=.type "cell",data:=.cell none })
  (sub:∀ x c,cl.lookup x=some c->X.env.cells.lookup x=some c) (has:∀ p ∈ sc.names,p.2=.free->cl.lookup p.1=X.env.cells.lookup p.1)
  (T:j2 X.prog X.w X.K tg J fp it tn) (st:tn 0 s.heap) (f2:∀ b ∈ fp,gx X pins H b)
  (hg:∀ cl c0 C s H fp,PG (X.blkC sc cl x0 c0 C N' s H fp) tg g) (ht:∀ cl c0 C s H fp,qq (X.blkC sc cl x0 c0 C N' s H fp) ifs tt) (he:∀ cl c0 C s H fp,PE (X.blkC sc cl x0 c0 C N' s H fp) elt te)
  (hw:∀ D,H D=none->∃ W:Nat->Nat->St->Hp->Prop,(∃ m,W 0 m (mkS own fr σ) (upd H D (.lst [])))/\∀ i m σ' H',W i m σ' H' ->
   (J.stop i H'/\Q (.ref D) H') \/
   (J.go i H'/\∃ Nx:St->Hp->Prop,(∀ σ'' H'',Nx σ'' H''->∃ m',m' < m/\W (i+1) m' σ'' H'')/\∀ x H'',J.yld i H' x H''->g x σ' H'' λσ2 H2=>tt σ2 H2 λb H3 =>
    if b=true then te σ2 H3 λv H4=>∃ ys,H4 D=some (.lst ys)/\ys.length < sizeLine/\Nx σ2 (upd H4 D (.lst (ys++[v]))) else Nx σ2 H3))
  (hRR:∀ D c0 C σ' H' s',D=s.heap.objs.size->s.heap.objs.size≤C->Inv (X.blkC sc cl x0 c0 C N' s H fp) [] σ' H' s'->Q (.ref D) H'->RR (.ref D) C (.ok .next) s') :
  wpAny (model X.prog X.w) X.A (newList []) (λacc s₃=>wpAny (model X.prog X.w) X.A (newFunctionEnv sc X.env.globals cl [] X.env.qual none .none (some X.env)) (λcenv s₄ =>
   codeAny (model X.prog X.w) X.A (.compStart (.ListComp elt [⟨tg,iter,ifs,0⟩] sc pos) 0 (.ref it) acc { cenv with scope:=relabel sc X.env }) (RR acc cenv.locals) s₄) E s₃) E s:=by
 have fo:∀ b ∈ fp,b < s.heap.objs.size:=λb hb=>by
  obtain ⟨o,e,_⟩:=T.obj _ _ st b hb
  exact Heap.lt_size e
 refine wpAny_newObj_type (pE hcf hpc hk ?_)
 dsimp only
 generalize hH2:s.heap.push { cls:=.type "list",dict:=none,data:=.seq ([]:List Value).toArray }=G
 have hG:G.objs.size=s.heap.objs.size+1:=by rw [← hH2,Heap.size_push]
 have hlt:s.heap.objs.size < G.objs.size:=by rw [hG];exact Nat.lt_succ_self _
 generalize hh:(G.push { cls:=.type "dict",data:=.dict #[] }).push { cls:=.type "cell",data:=.cell none }=h₁
 have oG:∀ b o,G.get? b=some o->h₁.get? b=some o:=λb o e=>by rw [← hh];exact Heap.get?_push_of_some _ (Heap.get?_push_of_some _ e)
 have old:∀ b o,s.heap.get? b=some o->h₁.get? b=some o:=λb o e=>oG b o (hH2 ▸ Heap.get?_push_of_some _ e)
 have hacc:h₁.get? s.heap.objs.size=some { cls:=.type "list",data:=.seq ([]:List Value).toArray }:=oG _ _ (hH2 ▸ Heap.get?_push_size _ rfl)
 have hcl:h₁.IsCell (G.objs.size+1) none:=⟨{ cls:=.type "cell",data:=.cell none },by
  rw [← hh,show G.objs.size+1=(G.push { cls:=.type "dict",data:=.dict #[] }).objs.size from (Heap.size_push ..).symm]
  exact Heap.get?_push_size _ rfl,rfl⟩
 have hns':h₁.Ns G.objs.size (λ_=>none):=by
  rw [← hh]
  exact (Heap.Ns.new G (.type "dict")).keeps λb o e=>Heap.get?_push_of_some _ e
 obtain ⟨W,⟨m0,w0⟩,turn⟩:=hw s.heap.objs.size (I.hok.fresh (Nat.le_refl _))
 have st₁:tn 0 h₁:=T.keep _ _ _ st λb _ o e=>old b o e
 have loop:∀ s₃:Shared,s₃={ s with heap:=h₁,toks:=s.toks } ->
   codeAny (model X.prog X.w) X.A (.compLoop (.ListComp elt [⟨tg,iter,ifs,0⟩] sc pos) 0 (.ref it) (.ref s.heap.objs.size) (compEnvC sc ((x0,G.objs.size+1)::cl) G.objs.size X.env)) (RR (.ref s.heap.objs.size) G.objs.size) s₃:=by
  rintro s₃ rfl
  have I0:=qD (tk:=s.toks) I B hk sub has f2 fo rfl hlt hx0 (Nat.lt_succ_of_lt hlt) hcl hns' old hacc
  have fJ:∀ {pins':List (Addr × Obj)} {H':Hp},pins'=[]->(∀ b ∈ fp,H' b=none)->∀ b ∈ fp,gx (X.blkC sc cl x0 (G.objs.size+1) G.objs.size N' s H fp) pins' H' b:=λep hn b hb=>by
   subst ep
   refine ⟨hn b hb,Nat.ne_of_lt (Nat.lt_trans (fo b hb) hlt),λz=>?_,.inl hb,λx c e=>?_,λp hp=>absurd (show p ∈ ([]:List (Addr × Obj)) from hp) (by simp)⟩
   ·rcases List.mem_cons.mp (I.stkSub b z) with e | e
    ·exact (f2 b hb).2.1 e
    ·exact (f2 b hb).2.2.1 e
   ·have e:List.lookup x ((x0,G.objs.size+1)::cl)=some c:=e
    rw [List.lookup_cons] at e
    split at e
    ·rw [← Option.some.inj e];exact Nat.ne_of_gt (Nat.lt_succ_of_lt (Nat.lt_trans (fo b hb) hlt))
    ·exact (f2 b hb).2.2.2.2.1 x c (sub x c e)
  have fr0:∀ b ∈ fp,upd H s.heap.objs.size (.lst []) b=none:=λb hb=>by
   rw [aD (Nat.ne_of_lt (fo b hb))];exact (f2 b hb).1
  refine iU (λn s'=>∃ i σ' H',Inv (X.blkC sc cl x0 (G.objs.size+1) G.objs.size N' s H fp) [] σ' H' s'/\tn i s'.heap/\(∀ b ∈ fp,H' b=none)/\W i n σ' H') ?_ m0 ⟨0,_,_,I0,st₁,fr0,w0⟩
  rintro n s3 ⟨i,σ3,H3,I3,st3,fr3,w3⟩
  rcases turn i n σ3 H3 w3 with ⟨stop,qn⟩ | ⟨go,Nx,hN,step⟩
  ·refine thn (T.done (X.blkC sc cl x0 (G.objs.size+1) G.objs.size N' s H fp) rfl rfl rfl hc i [] s3 σ3 H3 _ I3 (fJ rfl fr3) st3 stop) λr s4 ⟨hr,I4⟩=>?_
   subst hr
   exact hRR _ _ _ _ _ _ rfl (Nat.le_of_lt hlt) I4 qn
  ·refine thn (T.item (X.blkC sc cl x0 (G.objs.size+1) G.objs.size N' s H fp) rfl rfl rfl hc i [] s3 σ3 H3 _ I3 (fJ rfl fr3) st3 go) λr s4 ⟨u,hr,h4⟩=>?_
   subst hr
   refine thn h4 λ_ s5 ⟨x,H5,I5,r5,y5,st5,fr5⟩=>?_
   have I5':=I5.pinned (fJ rfl fr5) (T.obj _ _ st5)
   refine thn (hg cl (G.objs.size+1) G.objs.size s H fp _ s5 σ3 H5 x u _ I5' r5 (step x H5 y5)) λ_ s6 ⟨σ6,H6,I6,q6⟩=>?_
   refine thn (ht cl (G.objs.size+1) G.objs.size s H fp _ s6 σ6 H6 _ I6 q6) λok s7 ⟨H7,I7,q7⟩=>?_
   have again:∀ {s8:Shared} {H8:Hp},Inv (X.blkC sc cl x0 (G.objs.size+1) G.objs.size N' s H fp) ([]++iH fp s5.heap) σ6 H8 s8->Nx σ6 H8 ->
     ∃ m,m < n/\∃ i σ' H',Inv (X.blkC sc cl x0 (G.objs.size+1) G.objs.size N' s H fp) [] σ' H' s8/\tn i s8.heap/\(∀ b ∈ fp,H' b=none)/\W i m σ' H':=λ{s8 H8} I8 n8=>by
    obtain ⟨m',hm,w8⟩:=hN σ6 H8 n8
    refine ⟨m',hm,i+1,σ6,H8,I8.unpinned,T.keep _ _ _ st5 λb hb o e=>(I8.pin (b,o) (List.mem_append_right _ (List.mem_append_right _ (cu hb e)))).1,λb hb=>?_,w8⟩
    obtain ⟨o,e,d⟩:=T.obj _ _ st5 b hb
    exact (I8.pin (b,o) (List.mem_append_right _ (List.mem_append_right _ (cu hb e)))).2.1
   cases ok with
   | false =>
    rw [if_neg Bool.false_ne_true] at q7 ⊢
    exact again I7 q7
   | true =>
    rw [if_pos rfl] at q7 ⊢
    refine thn (he cl (G.objs.size+1) G.objs.size s H fp _ s7 σ6 H7 _ I7 q7) λy s8 ⟨v,H8,I8,rv,ys,hD8,hz,nx⟩=>?_
    refine thn (dB (X:=X.blkC sc cl x0 (G.objs.size+1) G.objs.size N' s H fp) _ s8 σ6 H8 (.ref s.heap.objs.size) [v] (.ref s.heap.objs.size) [y] (λ_ H9=>Nx σ6 H9) I8 rfl (.cons rv .nil) ⟨_,ys,v,rfl,rfl,hD8,hz,nx⟩) λ_ s9 ⟨_,H9,I9,_,n9⟩=>?_
    exact again I9 n9
 exact codeAny_compStart_list (loop _ rfl) (T.self _ 0 _ _ _ st₁ (loop _ rfl))
theorem w6 (hi:PI X tg iter wi) (hk:sc.kind=.function) (hb:yg x0 X.N X.env.kindOf sc.names own fr N') (hx0:sc.names.lookup x0=some .cell) (hcf:∀ n acc,cellsFrom n sc.names acc=(x0,n)::acc) (hpc:∀ h,pushCells h sc.names=h.push { cls:=.type "cell",data:=.cell none }) (hc:X.calm=true)
  (hg:∀ cl c0 C s H fp,PG (X.blkC sc cl x0 c0 C N' s H fp) tg g) (ht:∀ cl c0 C s H fp,qq (X.blkC sc cl x0 c0 C N' s H fp) ifs tt) (he:∀ cl c0 C s H fp,PE (X.blkC sc cl x0 c0 C N' s H fp) elt te)
  (hs:∀ x,foldedSetIterable iter X.env x=pure x:=by intro _;rfl):PE X (.ListComp elt [⟨tg,iter,ifs,0⟩] sc pos) (gw wi (mkS own fr) g tt te):=by
 intro pins s σ H Q I h
 have B:=hb
 obtain ⟨cl,hcl,sub,has⟩:=yy sc X.env λp hp e=>I.ok.has p.1 (B.free p hp e)
 rw [eval_ListComp]
 refine wpAny_comprehension_free (use:=none) rfl hs hcl hk B.loc (thn (hi pins s σ H _ I h) λv s1 h1=>thn h1 λitv s2 h2=>?_)
 obtain ⟨it,fp,tn,J,H2,e,I2,T,st2,f2,body⟩:=h2
 subst e
 refine ud (RR:=λacc C=>compPost (model X.prog X.w) X.A X.xe none (EP X pins σ Q) acc C) I2 B hk hc hx0 hcf hpc sub has T st2 f2 hg ht he body ?_
 intro D c0 C σ' H' s' eD hC J' q
 obtain ⟨m,hn,_⟩:=J'.loc
 refine ⟨m,hn,λh' hs'=>⟨.ref D,H',?_,rfl,q⟩⟩
 exact Inv.young I2 (vK I2 f2 J') hC J'.free hs'
end
def nz (x0:Str) (N:List Str) (ok:Str->Option NameKind) (names:List (Str × NameKind)) (own:List Str) (fr:List Nat) (N':List Str):Bool :=
 decide (N'=own++fr.map λj=>N.getD j "") && (fr.all λj=>decide (j < N.length) && A8 (names.lookup (N.getD j ""))) &&
  names.all λp=>match p.2 with
   | .free=>A7 (ok p.1)
   | .cell=>decide (p.1=x0)
   | .local=>A9 (names.lookup p.1)
   | _=>true
theorem yu {ok:Str->Option NameKind} {names:List (Str × NameKind)} {own:List Str} {fr:List Nat} {N':List Str} (h:nz x0 N ok names own fr N'=true):yg x0 N ok names own fr N':=by
 unfold nz at h
 rw [Bool.and_eq_true,Bool.and_eq_true] at h
 obtain ⟨⟨h1,h2⟩,h3⟩:=h
 have h3':=List.all_eq_true.mp h3
 refine ⟨of_decide_eq_true h1,λj hj=>?_,λp hp e=>?_,λp hp e=>?_,λp hp e=>?_⟩
 ·have q:=List.all_eq_true.mp h2 j hj
  rw [Bool.and_eq_true] at q
  exact ⟨of_decide_eq_true q.1,tm q.2⟩
 ·have q:=h3' p hp
  rw [e] at q
  exact tj q
 ·have q:=h3' p hp
  rw [e] at q
  exact of_decide_eq_true q
 ·have q:=h3' p hp
  rw [e] at q
  exact tq q
theorem xB {tt:TT} {mk:St->St} {jj:Nat} {cs:List D} (h:RE K tl σ H (.tup cs)) (hc:cs.length≤1000) (p:D->Bool) (h0:(mk σ).set jj none=mk σ)
  (turn:∀ H1 (i:Nat) c v,Same H H1->cs[i]?=some c->Dat K H1 c v->RT tt ((mk σ).set jj (some v)) H1 (p c)/\RE K te ((mk σ).set jj (some v)) H1 c):RC K (gw (wA K tl) mk (bC jj) tt te) σ H (cs.filter p):=λH1 s Q q=>by
 refine (h.mono s).use λv4 H4 s4 q4=>?_
 obtain ⟨l4,ys4,rfl,hy4,hd4⟩:=q4.tupE
 have ll:=hd4.length
 refine ⟨l4,rfl,⟨ys4,hy4⟩,λl hl=>?_⟩
 refine oZ (J:=Itt K l4) (n:=ys4.length) (item:=λi=>ys4.getD i .non) (λG=>SqT K G l4 ys4) (λi G o hi=>wg i G o hi) (λG o=>⟨ys4,o,Nat.le_refl _⟩) h0 l (λi G=>Same H4 G/\∃ zs,G l=some (.lst zs)/\Dats K G ((cs.take i).filter p) zs) ⟨aC hl _,[],av,by rw [List.take_zero];exact Dats.nil⟩ (λi G _ w=>w.1.sqT hy4) (λi G hi w=>?_) (λG w=>?_)
 ·obtain ⟨sG,zs,hz,dz⟩:=w
  have hic:i < cs.length:=by omega
  obtain ⟨vz,ez,hv⟩:=(sG.dats hd4).get (List.getElem?_eq_getElem hic)
  have e1:ys4.getD i .non=vz:=by rw [List.getD_eq_getElem?_getD,ez];rfl
  simp only [e1]
  obtain ⟨t1,t2⟩:=turn G i cs[i] vz (s.trans (s4.trans sG)) (List.getElem?_eq_getElem hic) hv
  have et:cs.take (i+1)=cs.take i++[cs[i]]:=by rw [List.take_add_one,List.getElem?_eq_getElem hic];rfl
  have lz:zs.length≤1000:=by
   rw [← dz.length]
   exact Nat.le_trans (List.length_filter_le _ _) (by rw [List.length_take];omega)
  have lz':zs.length < 1000:=by
   rw [← dz.length]
   exact Nat.lt_of_le_of_lt (List.length_filter_le _ _) (by rw [List.length_take];omega)
  refine t1.use λG2 s2=>?_
  cases hp:p cs[i] with
  | true =>
   refine ph ((t2.mono s2).use λv3 G3 s3 q3=>?_)
   have hz3:=(s2.trans s3) _ _ hz
   have bl:But l G3 (upd G3 l (.lst (zs++[v3]))):=But.upd (Same.refl G3).but
   have g:cT K G3 (upd G3 l (.lst (zs++[v3]))):=bl.grow hz3 av
   refine ⟨zs,hz3,d8 (by omega),⟨_,rfl⟩,λx o hx=>?_,zs++[v3],av,?_⟩
   ·rw [aD (aI hx hl)]
    exact (s2.trans s3) _ _ (sG _ _ hx)
   ·rw [et,List.filter_append]
    have e2:[cs[i]].filter p=[cs[i]]:=by rw [List.filter_cons,if_pos hp];rfl
    rw [e2]
    exact Dats.append (Dats.mono g _ ((s2.trans s3).dats dz)) (Dats.cons (Dat.mono g _ q3) Dats.nil)
  | false =>
   refine qU ⟨⟨_,rfl⟩,sG.trans s2,zs,s2 _ _ hz,?_⟩
   rw [et,List.filter_append]
   have e2:[cs[i]].filter p=[]:=by rw [List.filter_cons,if_neg (by rw [hp];exact Bool.false_ne_true)];rfl
   rw [e2,List.append_nil]
   exact s2.dats dz
 ·obtain ⟨sG,zs,hz,dz⟩:=w
  rw [← ll,List.take_length] at dz
  exact q l zs G (s4.free hl) (s4.trans sG) hz dz
theorem zk (hK:X.K=K) (hl:PE X l tl):PI X tg l (wA K tl):=by
 subst hK
 exact jH hl
end L2
namespace My
open PySem L2 PyProof.Rows
abbrev TL:List (Str × KTD.Dat):=[("num",.flat (.int 9999)),("arg",.flat (.int 3))]
abbrev TB:List (Str × KTD.Dat):=[("add",.flat (.int 2)),("sub",.flat (.int 2)),("mul",.flat (.int 2)),("less",.flat (.int 2)),("pick",.flat (.int 3))]
abbrev TM:List (Str × KTD.Dat):=[("hole",.flat (.int 2)),("gap",.flat (.int 3)),("slot",.flat (.int 2))]
abbrev TF:List (Str × KTD.Dat):=[("low",.flat (.str "gap")),("high",.flat (.str "gap")),("arg",.flat (.str "slot"))]
abbrev TTO:List (Str × KTD.Dat):=[("load",.flat (.int 3)),("skip",.flat (.int 9)),("zero",.flat (.int 9))]
abbrev TRN:List D:=[.int 0,.int 1,.int 2,.int 99,.int 100,.int 9999]
abbrev INS:List D:=[.tup [.str "end",.int 0],.tup [.str "put",.int 1],.tup [.str "far",.int 2],.tup [.str "load",.int 1],.tup [.str "add",.int 0],.tup [.str "sub",.int 0],.tup [.str "mul",.int 0],.tup [.str "less",.int 0],.tup [.str "skip",.int 1],.tup [.str "jump",.int 2],.tup [.str "zero",.int 1],.tup [.str "none",.int 2],.tup [.str "more",.int 1],.tup [.str "twice",.int 0],.tup [.str "about",.int 0],.tup [.str "call",.int 2],.tup [.str "back",.int 0]]
abbrev STR:List D:=[.str "put",.str "far",.str "load",.str "add",.str "sub",.str "mul",.str "less",.str "more",.str "twice",.str "about"]
abbrev BAS:List D:=[.tup [.str "one",.tup [.str "gap",.int 0,.int 99],.tup [.int 1,.tup [.str "low",.int 0]]],.tup [.str "two",.tup [.str "gap",.int 0,.int 9999],.tup [.int 2,.tup [.str "low",.int 0],.tup [.str "high",.int 0]]],.tup [.str "slot",.tup [.str "slot",.int 0],.tup [.int 3,.tup [.str "arg",.int 0]]],.tup [.str "add",.tup [.str "add",.tup [.str "hole",.int 0],.tup [.str "hole",.int 1]],.tup [.int 4]],.tup [.str "sub",.tup [.str "sub",.tup [.str "hole",.int 0],.tup [.str "hole",.int 1]],.tup [.int 5]],.tup [.str "mul",.tup [.str "mul",.tup [.str "hole",.int 0],.tup [.str "hole",.int 1]],.tup [.int 6]],.tup [.str "less",.tup [.str "less",.tup [.str "hole",.int 0],.tup [.str "hole",.int 1]],.tup [.int 7]],.tup [.str "more",.tup [.str "add",.tup [.str "hole",.int 0],.tup [.str "gap",.int 0,.int 99]],.tup [.int 12,.tup [.str "low",.int 0]]]]
abbrev WAY:List D:=[.str "skip",.str "jump",.str "zero",.str "none",.str "call",.str "back"]
def kD (s:Stmt) (j:Nat):Stmt:=match s with
 | .ClassDef _ _ _ b _ _ _ _ _ _ _=>b.getD j (.Pass ⟨0,0,0,0⟩)
 | _=>.Pass ⟨0,0,0,0⟩
abbrev gm:Stmt:=top 20
theorem sc_is_whole:FnScope ["thing","low","high"] ["thing","low","high"] (aw gm):=.sc0
abbrev fE:Stmt:=top 21
theorem sc_is_tagged:FnScope ["thing"] ["thing"] (aw fE):=.sc0
abbrev hX:Stmt:=top 29
theorem sc_is_node:FnScope ["thing","kind"] ["thing"] (aw hX):=.sc0
abbrev dN:Stmt:=top 30
theorem sc_trees_within:FnScope ["tree"] ["tree"] (aw dN):=.sc0
abbrev fR:Stmt:=top 31
theorem sc_is_tree:FnScope ["thing","waiting","parts","part","deep"] ["thing"] (aw fR):=.sc0
abbrev fF:Stmt:=top 32
theorem sc_need_tree:FnScope ["tree"] ["tree"] (aw fF):=.sc0
abbrev cC:Stmt:=top 23
theorem sc_need_size:FnScope ["size","most"] ["size","most"] (aw cC):=.sc0
abbrev dk:Stmt:=top 33
theorem sc_worth_of_both:FnScope ["kind","first","second","size"] ["kind","first","second","size"] (aw dk):=.sc0
abbrev gp:Stmt:=top 34
theorem sc_reckoned:FnScope ["tree","args","size","kind","first"] ["tree","args","size"] (aw gp):=.sc0
abbrev fQ:Stmt:=top 22
theorem sc_is_name:FnScope ["thing"] ["thing"] (aw fQ):=.sc0
abbrev cP:Stmt:=top 42
theorem sc_instruction_at:FnScope ["cells","place","name","many","behind"] ["cells","place"] (aw cP):=.sc0
abbrev eH:Stmt:=top 43
theorem sc_number_told:FnScope ["behind","number","cell"] ["behind"] (aw eH):=.sc0
abbrev br:Stmt:=kD (top 44) 0
theorem sc_Machine___init__:FnScope ["self","cells","given","size","pile"] ["self","cells","given","size","pile"] (aw br):=.sc0
abbrev bN:Stmt:=kD (top 44) 1
theorem sc_Machine_take:FnScope ["self"] ["self"] (aw bN):=.sc0
abbrev bL:Stmt:=kD (top 44) 2
theorem sc_Machine_push:FnScope ["self","number"] ["self","number"] (aw bL):=.sc0
abbrev bS:Stmt:=kD (top 44) 4
theorem sc_Machine_way:FnScope ["self","name","number","onward"] ["self","name","number","onward"] (aw bS):=.sc0
abbrev bB:Stmt:=kD (top 44) 5
theorem sc_Machine_finish:FnScope ["self"] ["self"] (aw bB):=.sc0
abbrev bA:Stmt:=kD (top 44) 6
theorem sc_Machine_change:FnScope ["self","name","number","upper","lower"] ["self","name","number"] (aw bA):=.sc0
abbrev bM:Stmt:=kD (top 44) 3
theorem sc_Machine_step:FnScope ["self","name","behind","number","onward"] ["self"] (aw bM):=.sc0
abbrev hV:Stmt:=top 56
theorem sc_is_mark:FnScope ["thing"] ["thing"] (aw hV):=.sc0
abbrev cq:Stmt:=top 57
theorem sc_is_pattern_part:FnScope ["thing","deep"] ["thing","deep"] (aw cq):=.sc0
abbrev gn:Stmt:=top 58
theorem sc_marks_in:FnScope ["pattern","kind","marks","within"] ["pattern","kind"] (aw gn):=.sc0
abbrev cY:Stmt:=top 59
theorem sc_is_numbered:FnScope ["pattern","kind","numbers"] ["pattern","kind"] (aw cY):=.sc0
abbrev dM:Stmt:=top 60
theorem sc_is_pattern:FnScope ["thing"] ["thing"] (aw dM):=.sc0
abbrev eU:Stmt:=top 61
theorem sc_is_filling:FnScope ["thing","pattern"] ["thing","pattern"] (aw eU):=.sc0
abbrev hU:Stmt:=top 62
theorem sc_is_cell:FnScope ["thing","pattern"] ["thing","pattern"] (aw hU):=.sc0
abbrev cj:Stmt:=top 63
theorem sc_are_instructions:FnScope ["cells","pattern","place","name","behind"] ["cells","pattern"] (aw cj):=.sc0
abbrev gk:Stmt:=top 64
theorem sc_is_piece:FnScope ["thing","name","pattern","cells"] ["thing"] (aw gk):=.sc0
abbrev eV:Stmt:=top 65
theorem sc_need_piece:FnScope ["piece"] ["piece"] (aw eV):=.sc0
abbrev eP:Stmt:=top 66
abbrev hZ:Stmt:=top 67
theorem sc_matches:FnScope ["pattern","tree","found","kind"] ["pattern","tree","found"] (aw hZ):=.sc0
abbrev gj:Stmt:=top 68
theorem sc_found_in:FnScope ["piece","tree","found"] ["piece","tree"] (aw gj):=.sc0
abbrev ow:Stmt:=top 69
theorem sc_fits:FnScope ["piece","tree"] ["piece","tree"] (aw ow):=.sc0
abbrev eG:Stmt:=top 70
theorem sc_filled_cell:FnScope ["cell","nums","ks"] ["cell","nums","ks"] (aw eG):=.sc0
abbrev cO:Stmt:=top 71
theorem sc_filled_pattern:FnScope ["pattern","trial","kind","holes","nums","ks","args"] ["pattern","trial"] (aw cO):=.sc0
abbrev jk:Stmt:=top 72
theorem sc_keeps:FnScope ["piece","trial","size","name","pattern","cells","holes","nums","ks","args","laid_cells","machine"] ["piece","trial","size"] (aw jk):=.sc0
abbrev fS:Stmt:=top 73
theorem sc_rows_of:FnScope ["choices","rows","some"] ["choices"] (aw fS):=.sc0
abbrev fm:Stmt:=top 74
theorem sc_args_for:FnScope ["ks","size"] ["ks","size"] (aw fm):=.sc0
abbrev d7:Stmt:=top 75
theorem sc_failing:FnScope ["piece","size","pattern","all_holes","all_nums","all_ks","holes","nums","ks","args","trial"] ["piece","size"] (aw d7):=.sc0
abbrev fC:Stmt:=top 77
theorem sc__law_draw:FnScope ["_law_script","_law_town","_law_many","_law_one","_law_at","_law_mixed"] ["_law_script","_law_town","_law_many"] (aw fC):=.sc0
abbrev fD:Stmt:=top 78
theorem sc__law_pick:FnScope ["_law_script","_law_town","_law_some"] ["_law_script","_law_town","_law_some"] (aw fD):=.sc0
abbrev dJ:Stmt:=top 82
theorem sc__law_no_tree:FnScope ["_law_script","_law_town","_law_num","_law_arg","_law_low","_law_k","_law_wide","_law_bad"] ["_law_script","_law_town"] (aw dJ):=.sc0
abbrev dj:Stmt:=top 83
theorem sc__law_no_piece:FnScope ["_law_script","_law_town","_law_hole","_law_gap","_law_slot","_law_two","_law_bad"] ["_law_script","_law_town"] (aw dj):=.sc0
abbrev eT:Stmt:=top 84
theorem sc__law_which:FnScope ["_law_e","_law_own"] ["_law_e"] (aw eT):=.sc0
abbrev gi:Stmt:=top 85
theorem sc__law_ask:FnScope ["_law_what","_law_piece","_law_other","_law_e"] ["_law_what","_law_piece","_law_other"] (aw gi):=.sc0
abbrev p7:Stmt:=top 86
theorem sc_law:FnScope ["_law_script","_law_town","_law_bad","_law_odd","_law_wrong"] ["_law_script"] (aw p7):=.sc0
def A1 (s:Stmt):Stmt:=match s with
 | .ClassDef _ _ _ (d::_) _ _ _ _ _ _ _=>d
 | _=>.Pass ⟨0,0,0,0⟩
abbrev bR:Stmt:=A1 (top 14)
theorem sc_Fault__init:FnScope ["self","place"] ["self","place"] (aw bR):=.sc0
set_option genInjectivity false in
set_option genSizeOfSpec false in
structure Txt (P:Program) (w:World) (K:PySem.W.Frag) (mg:Str->Option Value) where
 Ey:Addr
 Ez:FuncData
 EA:Fun K "is_whole" "is_whole" gm Ey Ez
 Fv:mg "is_whole"=some (.ref Ey)
 Fi:Addr
 Fp:FuncData
 F1:Fun K "is_tagged" "is_tagged" fE Fi Fp
 Ic:mg "is_tagged"=some (.ref Fi)
 Hl:Addr
 Ho:FuncData
 IA:Fun K "is_node" "is_node" hX Hl Ho
 JO:mg "is_node"=some (.ref Hl)
 D3:Addr
 D6:FuncData
 EK:Fun K "trees_within" "trees_within" dN D3 D6
 Gw:mg "trees_within"=some (.ref D3)
 Io:Addr
 Iz:FuncData
 Jl:Fun K "is_tree" "is_tree" fR Io Iz
 Kj:mg "is_tree"=some (.ref Io)
 GO:Addr
 GR:FuncData
 Ia:Fun K "need_tree" "need_tree" fF GO GR
 JR:mg "need_tree"=some (.ref GO)
 GN:Addr
 GQ:FuncData
 Jf:Addr
 JS:Tok
 GS:FunD K "need_size" "need_size" cC GN GQ Jf [.int 10000 JS]
 JQ:mg "need_size"=some (.ref GN)
 Ec:Addr
 Ed:FuncData
 E6:Fun K "worth_of_both" "worth_of_both" dk Ec Ed
 Hc:mg "worth_of_both"=some (.ref Ec)
 FU:Addr
 FV:FuncData
 FX:Fun K "reckoned" "reckoned" gp FU FV
 HS:mg "reckoned"=some (.ref FU)
 Im:Addr
 Iy:FuncData
 Jk:Fun K "is_name" "is_name" fQ Im Iy
 Ki:mg "is_name"=some (.ref Im)
 Ds:Addr
 Du:FuncData
 DK:Fun K "instruction_at" "instruction_at" cP Ds Du
 GG:mg "instruction_at"=some (.ref Ds)
 FM:Addr
 FQ:FuncData
 GJ:Fun K "number_told" "number_told" eH FM FQ
 Jr:mg "number_told"=some (.ref FM)
 Il:Addr
 Iw:FuncData
 Jj:Fun K "is_mark" "is_mark" hV Il Iw
 Kh:mg "is_mark"=some (.ref Il)
 Dj:Addr
 Dk:FuncData
 Ew:Fun K "is_pattern_part" "is_pattern_part" cq Dj Dk
 Gv:mg "is_pattern_part"=some (.ref Dj)
 EX:Addr
 EY:FuncData
 E3:Fun K "marks_in" "marks_in" gn EX EY
 FZ:mg "marks_in"=some (.ref EX)
 FL:Addr
 FP:FuncData
 GI:Fun K "is_numbered" "is_numbered" cY FL FP
 Jq:mg "is_numbered"=some (.ref FL)
 Gh:Addr
 Gq:FuncData
 Hi:Fun K "is_pattern" "is_pattern" dM Gh Gq
 JG:mg "is_pattern"=some (.ref Gh)
 Gg:Addr
 Gp:FuncData
 Hh:Fun K "is_filling" "is_filling" eU Gg Gp
 JF:mg "is_filling"=some (.ref Gg)
 Ik:Addr
 Iv:FuncData
 Ji:Fun K "is_cell" "is_cell" hU Ik Iv
 Kg:mg "is_cell"=some (.ref Ik)
 D2:Addr
 D5:FuncData
 E1:Fun K "are_instructions" "are_instructions" cj D2 D5
 HR:mg "are_instructions"=some (.ref D2)
 HC:Addr
 HI:FuncData
 IR:Fun K "is_piece" "is_piece" gk HC HI
 J9:mg "is_piece"=some (.ref HC)
 FB:Addr
 FC:FuncData
 Gs:Fun K "need_piece" "need_piece" eV FB FC
 IS:mg "need_piece"=some (.ref FB)
 FR:Addr
 FS:FuncData
 Hb:Fun K "may_stand_for" "may_stand_for" eP FR FS
 IX:mg "may_stand_for"=some (.ref FR)
 Hm:Addr
 Hq:FuncData
 Hs:Fun K "matches" "matches" hZ Hm Hq
 Jo:mg "matches"=some (.ref Hm)
 HB:Addr
 HH:FuncData
 IQ:Fun K "found_in" "found_in" gj HB HH
 J8:mg "found_in"=some (.ref HB)
 JY:Addr
 J3:FuncData
 Kp:Fun K "fits" "fits" ow JY J3
 KR:mg "fits"=some (.ref JY)
 FK:Addr
 FO:FuncData
 GH:Fun K "filled_cell" "filled_cell" eG FK FO
 Jp:mg "filled_cell"=some (.ref FK)
 Dr:Addr
 Dt:FuncData
 DJ:Fun K "filled_pattern" "filled_pattern" cO Dr Dt
 FG:mg "filled_pattern"=some (.ref Dr)
 Jy:Addr
 JD:FuncData
 JV:Fun K "keeps" "keeps" jk Jy JD
 KJ:mg "keeps"=some (.ref Jy)
 Hn:Addr
 Hr:FuncData
 GC:Fun K "rows_of" "rows_of" fS Hn Hr
 IF:mg "rows_of"=some (.ref Hn)
 HA:Addr
 HG:FuncData
 IP:Fun K "args_for" "args_for" fm HA HG
 J7:mg "args_for"=some (.ref HA)
 Ij:Addr
 Iu:FuncData
 Jh:Fun K "failing" "failing" d7 Ij Iu
 Kf:mg "failing"=some (.ref Ij)
 GM:Addr
 GP:FuncData
 HZ:Fun K "_law_draw" "_law_draw" fC GM GP
 JP:mg "_law_draw"=some (.ref GM)
 Fh:Addr
 Fo:FuncData
 F0:Fun K "_law_pick" "_law_pick" fD Fh Fo
 Ib:mg "_law_pick"=some (.ref Fh)
 Fg:Addr
 Fm:FuncData
 Gr:Fun K "_law_no_tree" "_law_no_tree" dJ Fg Fm
 Je:mg "_law_no_tree"=some (.ref Fg)
 E4:Addr
 E5:FuncData
 FT:Fun K "_law_no_piece" "_law_no_piece" dj E4 E5
 IW:mg "_law_no_piece"=some (.ref E4)
 Gf:Addr
 Gn:FuncData
 Hg:Fun K "_law_which" "_law_which" eT Gf Gn
 JE:mg "_law_which"=some (.ref Gf)
 Hz:Addr
 HF:FuncData
 EZ:Fun K "_law_ask" "_law_ask" gi Hz HF
 FY:mg "_law_ask"=some (.ref Hz)
 Kw:Addr
 KI:FuncData
 K3:Fun K "law" "law" p7 Kw KI
 K5:mg "law"=some (.ref Kw)
 C0:Addr
 Ht:mg "Machine"=some (.ref C0)
 cl_Machine:Cls K C0
 D1:Addr
 D4:FuncData
 FW:Fun K "__init__" "Machine.__init__" br D1 D4
 mk_Machine:Mk K C0 D1
 EF:Addr
 EJ:FuncData
 HN:Fun K "take" "Machine.take" bN EF EJ
 mt_Machine_take:lT K C0 "take" EF
 Fe:Addr
 Fj:FuncData
 HK:Fun K "push" "Machine.push" bL Fe Fj
 mt_Machine_push:lT K C0 "push" Fe
 FJ:Addr
 FN:FuncData
 Ih:Fun K "way" "Machine.way" bS FJ FN
 mt_Machine_way:lT K C0 "way" FJ
 EE:Addr
 EI:FuncData
 GB:Fun K "finish" "Machine.finish" bB EE EI
 mt_Machine_finish:lT K C0 "finish" EE
 ED:Addr
 EH:FuncData
 GA:Fun K "change" "Machine.change" bA ED EH
 mt_Machine_change:lT K C0 "change" ED
 Ff:Addr
 Fl:FuncData
 HL:Fun K "step" "Machine.step" bM Ff Fl
 mt_Machine_step:lT K C0 "step" Ff
 na_cells:NoAttr K C0 "cells"
 na_given:NoAttr K C0 "given"
 na_size:NoAttr K C0 "size"
 na_pile:NoAttr K C0 "pile"
 na_place:NoAttr K C0 "place"
 na_kept:NoAttr K C0 "kept"
 na_ended:NoAttr K C0 "ended"
 Gx:Tok
 FD:mg "MOST_PARTS"=some (.int 40 Gx)
 GW:Tok
 F3:mg "MOST_DEEP"=some (.int 8 GW)
 Fw:Tok
 EL:mg "LONGEST_NAME"=some (.int 8 Fw)
 GV:Tok
 Fu:mg "MOST_CELL"=some (.int 99 GV)
 DH:Tok
 Do:mg "MOST_PATTERN_DEEP"=some (.int 3 DH)
 HW:Tok
 GD:mg "MOST_GAP"=some (.int 9999 HW)
 Ea:Tok
 Dv:mg "MOST_PIECE_CELLS"=some (.int 12 Ea)
 GZ:Tok
 GT:mg "MOST_SIZE"=some (.int 10000 GZ)
 GY:Tok
 F5:mg "MOST_PILE"=some (.int 64 GY)
 GX:Tok
 F4:mg "MOST_KEPT"=some (.int 16 GX)
 GU:Tok
 Fs:mg "MANY_ARGS"=some (.int 4 GU)
 Ex:Tok
 DA:mg "MOST_TRIED_SIZE"=some (.int 5 Ex)
 E7:Tok
 DG:mg "BENEATH_HOLES"=some (.int 1 E7)
 Fd:Addr
 D7:mg "MOST_IN_LEAF"=some (.ref Fd)
 D9:gA K Fd TL
 Dz:Addr
 De:mg "TREES_IN_BRANCH"=some (.ref Dz)
 Df:gA K Dz TB
 D0:Addr
 Dy:mg "MARK_LENGTHS"=some (.ref D0)
 D8:gA K D0 TM
 FH:Addr
 EB:mg "FILLED_FROM"=some (.ref FH)
 EC:gA K FH TF
 HY:Addr
 F6:mg "MOST_TOLD"=some (.ref HY)
 F7:gA K HY TTO
 DZ:Addr
 Dl:mg "INSTRUCTIONS"=some (.ref DZ)
 C8:dP K (.tup INS) (.ref DZ)=true
 IL:Addr
 GF:mg "STRAIGHT"=some (.ref IL)
 JZ:dP K (.tup STR) (.ref IL)=true
 Kn:Addr
 JN:mg "WAYS"=some (.ref Kn)
 KQ:dP K (.tup WAY) (.ref Kn)=true
 He:Addr
 FF:mg "TRIED_NUMS"=some (.ref He)
 JA:dP K (.tup TRN) (.ref He)=true
 IJ:Addr
 Hj:mg "BASIC"=some (.ref IJ)
 Jz:kR K BAS IJ=true
 Jd:vi P w K D0 ["hole","gap","slot"]
 Ge:Addr
 FE:mg "PieceError"=some (.ref Ge)
 C3:Addr
 HP:mg "NoSize"=some (.ref C3)
 C4:Addr
 HQ:mg "NoTree"=some (.ref C4)
 Gb:Addr
 IC:mg "NoArgs"=some (.ref Gb)
 Gc:Addr
 ID:mg "NoCode"=some (.ref Gc)
 FA:Addr
 Hw:mg "NoSteps"=some (.ref FA)
 IK:Addr
 JM:mg "Late"=some (.ref IK)
 CZ:Addr
 GE:mg "NoPiece"=some (.ref CZ)
 Hd:Addr
 Jm:mg "NoSet"=some (.ref Hd)
 Fy:Addr
 Hu:mg "NoCover"=some (.ref Fy)
 Fz:Addr
 Hv:mg "NoParts"=some (.ref Fz)
 Gd:Addr
 IE:mg "NoName"=some (.ref Gd)
 Hf:Addr
 Jn:mg "Taken"=some (.ref Hf)
 C1:Addr
 Eb:mg "Fault"=some (.ref C1)
 Ga:Addr
 IB:mg "Broken"=some (.ref Ga)
 Gu:Addr
 Fq:FuncData
 J4:Fun K "__init__" "Fault.__init__" bR Gu Fq
 Gi:tX K C1 Gu
 Ky:vv K C1 "place"
 JI:iy K C1
 IG:ip K C3 [.type "ValueError",.type "Exception",.type "BaseException",.type "object"] "ValueError.__new__" none=true
 Dh:iy K C3
 IH:ip K C4 [.type "ValueError",.type "Exception",.type "BaseException",.type "object"] "ValueError.__new__" none=true
 Di:iy K C4
 Hx:ip K CZ [.type "ValueError",.type "Exception",.type "BaseException",.type "object"] "ValueError.__new__" none=true
 C7:iy K CZ
 Dm:PySem.W.exmOne K (.ref C3) (.ref Ge)=some true
 Dn:PySem.W.exmOne K (.ref C4) (.ref Ge)=some true
 Dc:PySem.W.exmOne K (.ref CZ) (.ref Ge)=some true
 DI:PySem.W.exmOne K (.ref C1) (.ref C1)=some true
 El:PySem.W.kitOne K (.ref C3) (.ref C3)=some true
 Em:PySem.W.kitOne K (.ref C3) (.ref C4)=some false
 Ei:PySem.W.kitOne K (.ref C3) (.ref Gb)=some false
 Ej:PySem.W.kitOne K (.ref C3) (.ref Gc)=some false
 DU:PySem.W.kitOne K (.ref C3) (.ref FA)=some false
 E8:PySem.W.kitOne K (.ref C3) (.ref IK)=some false
 DT:PySem.W.kitOne K (.ref C3) (.ref CZ)=some false
 EO:PySem.W.kitOne K (.ref C3) (.ref Hd)=some false
 DR:PySem.W.kitOne K (.ref C3) (.ref Fy)=some false
 DS:PySem.W.kitOne K (.ref C3) (.ref Fz)=some false
 Ek:PySem.W.kitOne K (.ref C3) (.ref Gd)=some false
 ER:PySem.W.kitOne K (.ref C3) (.ref Hf)=some false
 EN:PySem.W.kitOne K (.ref C3) (.ref C1)=some false
 Eh:PySem.W.kitOne K (.ref C3) (.ref Ga)=some false
 Et:PySem.W.kitOne K (.ref C4) (.ref C3)=some false
 Eu:PySem.W.kitOne K (.ref C4) (.ref C4)=some true
 Ep:PySem.W.kitOne K (.ref C4) (.ref Gb)=some false
 Er:PySem.W.kitOne K (.ref C4) (.ref Gc)=some false
 DY:PySem.W.kitOne K (.ref C4) (.ref FA)=some false
 E9:PySem.W.kitOne K (.ref C4) (.ref IK)=some false
 DX:PySem.W.kitOne K (.ref C4) (.ref CZ)=some false
 ET:PySem.W.kitOne K (.ref C4) (.ref Hd)=some false
 DV:PySem.W.kitOne K (.ref C4) (.ref Fy)=some false
 DW:PySem.W.kitOne K (.ref C4) (.ref Fz)=some false
 Es:PySem.W.kitOne K (.ref C4) (.ref Gd)=some false
 EU:PySem.W.kitOne K (.ref C4) (.ref Hf)=some false
 ES:PySem.W.kitOne K (.ref C4) (.ref C1)=some false
 Eo:PySem.W.kitOne K (.ref C4) (.ref Ga)=some false
 DP:PySem.W.kitOne K (.ref CZ) (.ref C3)=some false
 DQ:PySem.W.kitOne K (.ref CZ) (.ref C4)=some false
 DM:PySem.W.kitOne K (.ref CZ) (.ref Gb)=some false
 DN:PySem.W.kitOne K (.ref CZ) (.ref Gc)=some false
 DE:PySem.W.kitOne K (.ref CZ) (.ref FA)=some false
 EM:PySem.W.kitOne K (.ref CZ) (.ref IK)=some false
 DD:PySem.W.kitOne K (.ref CZ) (.ref CZ)=some true
 Ef:PySem.W.kitOne K (.ref CZ) (.ref Hd)=some false
 DB:PySem.W.kitOne K (.ref CZ) (.ref Fy)=some false
 DC:PySem.W.kitOne K (.ref CZ) (.ref Fz)=some false
 DO:PySem.W.kitOne K (.ref CZ) (.ref Gd)=some false
 Eg:PySem.W.kitOne K (.ref CZ) (.ref Hf)=some false
 Ee:PySem.W.kitOne K (.ref CZ) (.ref C1)=some false
 DL:PySem.W.kitOne K (.ref CZ) (.ref Ga)=some false
 Dp:PySem.W.kitOne K (.ref C3) (.type "ValueError")=some true
 Dq:PySem.W.kitOne K (.ref C4) (.type "ValueError")=some true
 Dg:PySem.W.kitOne K (.ref CZ) (.type "ValueError")=some true
 EV:mg "len"=none
 C2:mg "isinstance"=none
 KU:mg "int"=none
 KS:mg "bool"=none
 KW:mg "str"=none
 Hk:mg "tuple"=none
 Jv:mg "list"=none
 Ie:mg "range"=none
 Kx:mg "all"=none
 Ka:mg "reversed"=none
 JH:mg "ValueError"=none
section
variable {P:Program} {w:World} {K:PySem.W.Frag} {mg:Str->Option Value} {base:Heap} {k:Nat}
theorem ie {α:Type} {us:List α} (h:us.length=1):∃ a0,us=[a0]:=match us,h with | [a0],_=>⟨a0,rfl⟩
theorem iE {α:Type} {us:List α} (h:us.length=2):∃ a0 a1,us=[a0,a1]:=match us,h with | [a0,a1],_=>⟨a0,a1,rfl⟩
theorem nJ {α:Type} {us:List α} (h:us.length=3):∃ a0 a1 a2,us=[a0,a1,a2]:=match us,h with | [a0,a1,a2],_=>⟨a0,a1,a2,rfl⟩
theorem len4 {α:Type} {us:List α} (h:us.length=4):∃ a0 a1 a2 a3,us=[a0,a1,a2,a3]:=match us,h with | [a0,a1,a2,a3],_=>⟨a0,a1,a2,a3,rfl⟩
theorem CN {α:Type} {us:List α} (h:us.length=5):∃ a0 a1 a2 a3 a4,us=[a0,a1,a2,a3,a4]:=match us,h with | [a0,a1,a2,a3,a4],_=>⟨a0,a1,a2,a3,a4,rfl⟩
theorem cV (T:Txt P w K mg):Binds K T.Fq ["self","place"] []:=T.J4.binds λ_ _ _ _ _ _ us hl=>match us,hl with | [_,_],_=>rfl
theorem kY (T:Txt P w K mg):FnOk P w K mg base CX0 (k+1) T.Gu T.Fq ["self","place"] (dO T.C1 "place"):=by
 refine T.J4.ok sc_Fault__init (λvs H Q E ⟨e,a0,v,h,_⟩=>by rw [h];rfl) (λcdv A outer s H vs Q E hr ⟨e,a0,v,h,h2,q⟩=>?_)
 have nd:=sc_Fault__init.nd
 refine ⟨_,(au (rG T.Ky (pv 0) (pv 1))),?_⟩
 subst h
 exact ⟨_,rfl,_,rfl,e,a0,rfl,h2,q⟩
theorem dm (T:Txt P w K mg):Binds K T.Ez ["thing","low","high"] []:=T.EA.binds λ_ _ _ _ _ _ us hl=>by obtain ⟨_,_,_,rfl⟩:=nJ hl;rfl
theorem gC (T:Txt P w K mg):Binds K T.Fp ["thing"] []:=T.F1.binds λ_ _ _ _ _ _ us hl=>by obtain ⟨_,rfl⟩:=ie hl;rfl
theorem mx (T:Txt P w K mg):Binds K T.Ho ["thing"] []:=T.IA.binds λ_ _ _ _ _ _ us hl=>by obtain ⟨_,rfl⟩:=ie hl;rfl
theorem fb (T:Txt P w K mg):Binds K T.D6 ["tree"] []:=T.EK.binds λ_ _ _ _ _ _ us hl=>by obtain ⟨_,rfl⟩:=ie hl;rfl
theorem ua (T:Txt P w K mg):Binds K T.Iz ["thing"] []:=T.Jl.binds λ_ _ _ _ _ _ us hl=>by obtain ⟨_,rfl⟩:=ie hl;rfl
theorem oR (T:Txt P w K mg):Binds K T.GR ["tree"] []:=T.Ia.binds λ_ _ _ _ _ _ us hl=>by obtain ⟨_,rfl⟩:=ie hl;rfl
theorem gu (T:Txt P w K mg):Binds K T.Ed ["kind","first","second","size"] []:=T.E6.binds λ_ _ _ _ _ _ us hl=>by obtain ⟨_,_,_,_,rfl⟩:=len4 hl;rfl
theorem fY (T:Txt P w K mg):Binds K T.FV ["tree","args","size"] []:=T.FX.binds λ_ _ _ _ _ _ us hl=>by obtain ⟨_,_,_,rfl⟩:=nJ hl;rfl
theorem t9 (T:Txt P w K mg):Binds K T.Iy ["thing"] []:=T.Jk.binds λ_ _ _ _ _ _ us hl=>by obtain ⟨_,rfl⟩:=ie hl;rfl
theorem fK (T:Txt P w K mg):Binds K T.Du ["cells","place"] []:=T.DK.binds λ_ _ _ _ _ _ us hl=>by obtain ⟨_,_,rfl⟩:=iE hl;rfl
theorem lY (T:Txt P w K mg):Binds K T.FQ ["behind"] []:=T.GJ.binds λ_ _ _ _ _ _ us hl=>by obtain ⟨_,rfl⟩:=ie hl;rfl
theorem iA (T:Txt P w K mg):Binds K T.D4 ["self","cells","given","size","pile"] []:=T.FW.binds λ_ _ _ _ _ _ us hl=>by obtain ⟨_,_,_,_,_,rfl⟩:=CN hl;rfl
theorem dD (T:Txt P w K mg):Binds K T.EJ ["self"] []:=T.HN.binds λ_ _ _ _ _ _ us hl=>by obtain ⟨_,rfl⟩:=ie hl;rfl
theorem bT (T:Txt P w K mg):Binds K T.Fj ["self","number"] []:=T.HK.binds λ_ _ _ _ _ _ us hl=>by obtain ⟨_,_,rfl⟩:=iE hl;rfl
theorem lV (T:Txt P w K mg):Binds K T.FN ["self","name","number","onward"] []:=T.Ih.binds λ_ _ _ _ _ _ us hl=>by obtain ⟨_,_,_,_,rfl⟩:=len4 hl;rfl
theorem ju (T:Txt P w K mg):Binds K T.EI ["self"] []:=T.GB.binds λ_ _ _ _ _ _ us hl=>by obtain ⟨_,rfl⟩:=ie hl;rfl
theorem jt (T:Txt P w K mg):Binds K T.EH ["self","name","number"] []:=T.GA.binds λ_ _ _ _ _ _ us hl=>by obtain ⟨_,_,_,rfl⟩:=nJ hl;rfl
theorem kz (T:Txt P w K mg):Binds K T.Fl ["self"] []:=T.HL.binds λ_ _ _ _ _ _ us hl=>by obtain ⟨_,rfl⟩:=ie hl;rfl
theorem t8 (T:Txt P w K mg):Binds K T.Iw ["thing"] []:=T.Jj.binds λ_ _ _ _ _ _ us hl=>by obtain ⟨_,rfl⟩:=ie hl;rfl
theorem fw (T:Txt P w K mg):Binds K T.Dk ["thing","deep"] []:=T.Ew.binds λ_ _ _ _ _ _ us hl=>by obtain ⟨_,_,rfl⟩:=iE hl;rfl
theorem dX (T:Txt P w K mg):Binds K T.EY ["pattern","kind"] []:=T.E3.binds λ_ _ _ _ _ _ us hl=>by obtain ⟨_,_,rfl⟩:=iE hl;rfl
theorem lX (T:Txt P w K mg):Binds K T.FP ["pattern","kind"] []:=T.GI.binds λ_ _ _ _ _ _ us hl=>by obtain ⟨_,_,rfl⟩:=iE hl;rfl
theorem nq (T:Txt P w K mg):Binds K T.Gq ["thing"] []:=T.Hi.binds λ_ _ _ _ _ _ us hl=>by obtain ⟨_,rfl⟩:=ie hl;rfl
theorem nj (T:Txt P w K mg):Binds K T.Gp ["thing","pattern"] []:=T.Hh.binds λ_ _ _ _ _ _ us hl=>by obtain ⟨_,_,rfl⟩:=iE hl;rfl
theorem t7 (T:Txt P w K mg):Binds K T.Iv ["thing","pattern"] []:=T.Ji.binds λ_ _ _ _ _ _ us hl=>by obtain ⟨_,_,rfl⟩:=iE hl;rfl
theorem iB (T:Txt P w K mg):Binds K T.D5 ["cells","pattern"] []:=T.E1.binds λ_ _ _ _ _ _ us hl=>by obtain ⟨_,_,rfl⟩:=iE hl;rfl
theorem qC (T:Txt P w K mg):Binds K T.HI ["thing"] []:=T.IR.binds λ_ _ _ _ _ _ us hl=>by obtain ⟨_,rfl⟩:=ie hl;rfl
theorem iO (T:Txt P w K mg):Binds K T.FC ["piece"] []:=T.Gs.binds λ_ _ _ _ _ _ us hl=>by obtain ⟨_,rfl⟩:=ie hl;rfl
theorem j4 (T:Txt P w K mg):Binds K T.FS ["mark","tree"] []:=T.Hb.binds λ_ _ _ _ _ _ us hl=>by obtain ⟨_,_,rfl⟩:=iE hl;rfl
theorem jv (T:Txt P w K mg):Binds K T.Hq ["pattern","tree","found"] []:=T.Hs.binds λ_ _ _ _ _ _ us hl=>by obtain ⟨_,_,_,rfl⟩:=nJ hl;rfl
theorem qB (T:Txt P w K mg):Binds K T.HH ["piece","tree"] []:=T.IQ.binds λ_ _ _ _ _ _ us hl=>by obtain ⟨_,_,rfl⟩:=iE hl;rfl
theorem AU (T:Txt P w K mg):Binds K T.J3 ["piece","tree"] []:=T.Kp.binds λ_ _ _ _ _ _ us hl=>by obtain ⟨_,_,rfl⟩:=iE hl;rfl
theorem lW (T:Txt P w K mg):Binds K T.FO ["cell","nums","ks"] []:=T.GH.binds λ_ _ _ _ _ _ us hl=>by obtain ⟨_,_,_,rfl⟩:=nJ hl;rfl
theorem dW (T:Txt P w K mg):Binds K T.Dt ["pattern","trial"] []:=T.DJ.binds λ_ _ _ _ _ _ us hl=>by obtain ⟨_,_,rfl⟩:=iE hl;rfl
theorem yn (T:Txt P w K mg):Binds K T.JD ["piece","trial","size"] []:=T.JV.binds λ_ _ _ _ _ _ us hl=>by obtain ⟨_,_,_,rfl⟩:=nJ hl;rfl
theorem gW (T:Txt P w K mg):Binds K T.Hr ["choices"] []:=T.GC.binds λ_ _ _ _ _ _ us hl=>by obtain ⟨_,rfl⟩:=ie hl;rfl
theorem qA (T:Txt P w K mg):Binds K T.HG ["ks","size"] []:=T.IP.binds λ_ _ _ _ _ _ us hl=>by obtain ⟨_,_,rfl⟩:=iE hl;rfl
def fM {α:Type}:List α->List α->List α
 | [x0],[y0]=>[x0,y0]
 | _,_=>[]
theorem tZ (T:Txt P w K mg):vf K T.Iu ["piece","size"] ["size"] fM fM:=by
 obtain ⟨oc,od,kV,doc,pm,an,cdv,ct,osl,e,lk,hcd⟩:=T.Jh.ex
 refine ⟨λs us ws hK hl=>?_,λ{vs us zs ws} h1 h2=>?_⟩
 ·unfold fM at hl ⊢
  split at hl
  ·rw [e];exact .of_eq rfl
  ·cases hl
 ·cases h1 with
  | nil=>exact .nil
  | cons r1 t1 =>
   cases t1 with
   | cons _ _=>exact .nil
   | nil =>
    cases h2 with
    | nil=>exact .nil
    | cons p1 z1 =>
     cases z1 with
     | cons _ _=>exact .nil
     | nil=>exact (.cons r1 (.cons p1 .nil))
theorem oQ (T:Txt P w K mg):Binds K T.GP ["_law_script","_law_town","_law_many"] []:=T.HZ.binds λ_ _ _ _ _ _ us hl=>by obtain ⟨_,_,_,rfl⟩:=nJ hl;rfl
theorem gB (T:Txt P w K mg):Binds K T.Fo ["_law_script","_law_town","_law_some"] []:=T.F0.binds λ_ _ _ _ _ _ us hl=>by obtain ⟨_,_,_,rfl⟩:=nJ hl;rfl
theorem kA (T:Txt P w K mg):Binds K T.Fm ["_law_script","_law_town"] []:=T.Gr.binds λ_ _ _ _ _ _ us hl=>by obtain ⟨_,_,rfl⟩:=iE hl;rfl
theorem j3 (T:Txt P w K mg):Binds K T.E5 ["_law_script","_law_town"] []:=T.FT.binds λ_ _ _ _ _ _ us hl=>by obtain ⟨_,_,rfl⟩:=iE hl;rfl
theorem ni (T:Txt P w K mg):Binds K T.Gn ["_law_e"] []:=T.Hg.binds λ_ _ _ _ _ _ us hl=>by obtain ⟨_,rfl⟩:=ie hl;rfl
theorem dU (T:Txt P w K mg):Binds K T.HF ["_law_what","_law_piece","_law_other"] []:=T.EZ.binds λ_ _ _ _ _ _ us hl=>by obtain ⟨_,_,_,rfl⟩:=nJ hl;rfl
def bO (d:D) (lo hi:Int):Bool:=match d with
 | .int i=>decide (lo≤i) && decide (i≤hi)
 | _=>false
def dS (ds:List D) (d:D):Prop:=∃ x lo hi,ds=[x,.int lo,.int hi]/\d=.bl (bO x lo hi)
def cJ:D->Bool
 | .tup (.str _::_)=>true
 | _=>false
def kg (ds:List D) (d:D):Prop:=∃ x,ds=[x]/\d=.bl (cJ x)
def mv (k:Str) (T:List (Str × KTD.Dat)):Int:=match KTD.datumAt k T with
 | some (.flat (.int i))=>i
 | _=>0
def cI:D->Bool
 | .tup (.str k::r)=>if KTD.inKeys k TL=true then decide ((r.length:Int)+1=2) && bO (r.getD 0 .non) 0 (mv k TL) else KTD.inKeys k TB && decide ((r.length:Int)+1=1+mv k TB)
 | _=>false
def vp (ds:List D) (d:D):Prop:=∃ x,ds=[x]/\d=.bl (cI x)
def bZ:D->List D
 | .tup (.str k::r)=>if KTD.inKeys k TB=true then r else []
 | _=>[]
def fX (ds:List D) (d:D):Prop:=∃ k r,ds=[.tup (.str k::r)]/\d=.tup (bZ (.tup (.str k::r)))
theorem Cw {T:List (Str × KTD.Dat)} {k:Str} (hT:∀ p ∈ T,∃ i,p.2=.flat (.int i)) (h:KTD.inKeys k T=true):KTD.datumAt k T=some (.flat (.int (mv k T))):=by
 unfold mv
 cases e:KTD.datumAt k T with
 | none=>exact absurd e (KTD.at_of_mem h)
 | some d =>
  have all:∀ (T:List (Str × KTD.Dat)),(∀ p ∈ T,∃ i,p.2=.flat (.int i))->KTD.datumAt k T=some d->∃ i,d=.flat (.int i):=by
   intro T
   induction T with
   | nil=>intro _ e;simp [KTD.datumAt] at e
   | cons p r ih =>
    intro hp e
    obtain ⟨x,y⟩:=p
    have e':(if decide (k=x)=true then some y else KTD.datumAt k r)=some d:=e
    by_cases hx:k=x
    ·rw [if_pos (decide_eq_true hx)] at e'
     cases e'
     exact hp _ List.mem_cons_self
    ·rw [if_neg (by simp [hx])] at e'
     exact ih (λp hp'=>hp p (List.mem_cons_of_mem _ hp')) e'
  obtain ⟨i,rfl⟩:=all T hT e
  rfl
theorem AO:∀ p ∈ TL,∃ i,p.2=.flat (.int i):=by
 intro p hp
 simp only [TL,List.mem_cons,List.not_mem_nil,or_false] at hp
 rcases hp with rfl | rfl <;> exact ⟨_,rfl⟩
theorem AM:∀ p ∈ TB,∃ i,p.2=.flat (.int i):=by
 intro p hp
 simp only [TB,List.mem_cons,List.not_mem_nil,or_false] at hp
 rcases hp with rfl | rfl | rfl | rfl | rfl <;> exact ⟨_,rfl⟩
theorem pL (T:Txt P w K mg)  : FnOk P w K mg base CX0 (k+1) T.Ey T.Ez ["thing","low","high"] (spD K dS):=by
 refine T.EA.ok sc_is_whole (λvs H Q E h=>?_) (λcdv A outer s H vs Q E hr h=>?_)
 ·obtain ⟨ds,d,hd,⟨x,lo,hi,rfl,rfl⟩,_⟩:=h;exact hd.length.symm
 have nd:=sc_is_whole.nd
 obtain ⟨ds,d,hd,⟨x,lo,hi,rfl,rfl⟩,post⟩:=h
 obtain ⟨v0,v1,v2,rfl,h0,h1,h2⟩:=jU hd
 have g1:=h1.intE
 have g2:=h2.intE
 subst g1 g2
 refine ⟨_,(au (aG (gO (aJ (eJ wo) rfl T.C2 aO (aT (pv 0) (aT (eS (v:=.ty "int") rfl T.KU vL rfl) af))) (gO (Bm (aJ (eJ yH) rfl T.C2 aO (aT (pv 0) (aT (eS (v:=.ty "bool") rfl T.KS yv rfl) af)))) (gR (pS lq lq (pv 1) (pv 0) (pv 2))))))),?_⟩
 refine aU (K:=K) (d:=.bl (bO x lo hi)) ?_ post
 cases x with
 | int i=>exact RE.as (cA (bQ (ae h0)) λ_=>cA (xH (bQ (ae h0))) λ_=>lH (ae h1) (ae h0) λ_=>ae h2) rfl
 | bl y=>exact RE.as (cA (c:=false) (bQ (ae h0)) λ_=>RE.as (cA (c:=true) (xH (bQ (ae h0))) λz=>nomatch z) rfl) rfl
 | non=>exact RE.as (cA (c:=true) (bQ (ae h0)) λz=>nomatch z) rfl
 | str y=>exact RE.as (cA (c:=true) (bQ (ae h0)) λz=>nomatch z) rfl
 | tup y=>exact RE.as (cA (c:=true) (bQ (ae h0)) λz=>nomatch z) rfl
 | lst=>exact RE.as (cA (c:=true) (bQ (ae h0)) λz=>nomatch z) rfl
theorem nQ (T:Txt P w K mg)  : FnOk P w K mg base CX0 (k+1) T.Fi T.Fp ["thing"] (spD K kg):=by
 refine T.F1.ok sc_is_tagged (λvs H Q E h=>?_) (λcdv A outer s H vs Q E hr h=>?_)
 ·obtain ⟨ds,d,hd,⟨x,rfl,rfl⟩,_⟩:=h;exact hd.length.symm
 have nd:=sc_is_tagged.nd
 obtain ⟨ds,d,hd,⟨x,rfl,rfl⟩,post⟩:=h
 obtain ⟨v0,rfl,h0⟩:=dQ hd
 refine ⟨_,(au (aG (gO (aJ (eJ kJ) rfl T.C2 aO (aT (pv 0) (aT (eS (v:=.ty "tuple") rfl T.Hk eI rfl) af))) (gO (eB mO (aJ aP rfl T.EV bU (ag (pv 0) af)) ao (aN _)) (gR (aJ (eJ wq) rfl T.C2 aO (aT (aV aS (pv 0) ao (λ_ _=>rfl)) (aT (eS (v:=.ty "str") rfl T.KW vM rfl) af)))))))),?_⟩
 refine aU (K:=K) (d:=.bl (cJ x)) ?_ post
 cases x with
 | tup ds =>
  cases ds with
  | nil=>exact RE.as (cA (c:=false) (bQ (ae h0)) λ_=>RE.as (cA (c:=true) (bK (bW (ae h0)) aq) λz=>nomatch z) rfl) rfl
  | cons y r =>
   have l:decide ((0:Int) < (((y::r).length:Nat):Int))=true:=decide_eq_true (by rw [List.length_cons];omega)
   refine RE.as (cA (bQ (ae h0)) λ_=>cA (RE.as (bK (bW (ae h0)) aq) (congrArg D.bl l)) λ_=>bQ (ba (k:=0) (ae h0) aq (show (y::r)[0]?=some y from rfl))) ?_
   cases y <;> rfl
 | int i=>exact RE.as (cA (c:=true) (bQ (ae h0)) λz=>nomatch z) rfl
 | bl y=>exact RE.as (cA (c:=true) (bQ (ae h0)) λz=>nomatch z) rfl
 | non=>exact RE.as (cA (c:=true) (bQ (ae h0)) λz=>nomatch z) rfl
 | str y=>exact RE.as (cA (c:=true) (bQ (ae h0)) λz=>nomatch z) rfl
 | lst=>exact RE.as (cA (c:=true) (bQ (ae h0)) λz=>nomatch z) rfl
theorem rp (T:Txt P w K mg) (GL:FnOk P w K mg base CX0 k T.Fi T.Fp ["thing"] (spD K kg)) (DF:FnOk P w K mg base CX0 k T.Ey T.Ez ["thing","low","high"] (spD K dS)):FnOk P w K mg base CX0 (k+1) T.Hl T.Ho ["thing"] (spD K vp):=by
 refine T.IA.ok sc_is_node (λvs H Q E h=>?_) (λcdv A outer s H vs Q E hr h=>?_)
 ·obtain ⟨ds,d,hd,⟨x,rfl,rfl⟩,_⟩:=h;exact hd.length.symm
 have nd:=sc_is_node.nd
 obtain ⟨ds,d,hd,⟨x,rfl,rfl⟩,post⟩:=h
 obtain ⟨v0,rfl,h0⟩:=dQ hd
 refine ⟨_,(aj (aZ (bV (bh (aF GL hr rfl T.Ic T.F1.kp (gC T) .nil aY (ag (pv 0) af)) (λ_=>rfl))) (au (aG cf)) aK)
 (aj (bq (i:=1) nd rfl (Or.inl rfl) (aV aS (pv 0) ao (λ_ _=>rfl)))
 (aj (aZ (aH ja (pv 1) (aQ (v:=.ref T.Fd) rfl T.D7 rfl) (by with_unfolding_all rfl)) (au (aG (gO (eB b0 (aJ aP rfl T.EV bU (ag (pv 0) af)) ao (aN _)) (gR (aF DF hr rfl T.Fv T.EA.kp (dm T) .nil aY (ag (aV aS (pv 0) ao (λ_ _=>rfl)) (ag ao (ag (aV wF (aQ (v:=.ref T.Fd) rfl T.D7 rfl) (pv 1) (λ_ _=>rfl)) af)))))))) aK)
 (au (aG (gO (eB ja (pv 1) (aQ (v:=.ref T.Dz) rfl T.De rfl) (by with_unfolding_all rfl)) (gR (eB b0 (aJ aP rfl T.EV bU (ag (pv 0) af)) (bu cF ao (aV wF (aQ (v:=.ref T.Dz) rfl T.De rfl) (pv 1) (λ_ _=>rfl))) (aN _))))))))),?_⟩
 refine aE (K:=K) (b:=!cJ x) (bw (aW (aR (aa (ae h0) ah) ⟨x,rfl,rfl⟩))) (λc H1 s1=>?_) (λc H1 s1=>?_)
 ·refine aU (K:=K) (d:=.bl (cI x)) ?_ λv H' s q=>post v H' (s1.trans s) q
  have e:cI x=false:=by
   unfold cI
   split
   ·unfold cJ at c;simp at c
   ·rfl
  rw [e]
  exact cR
 ·have h0':=s1.dat h0
  have c':cJ x=true:=by simpa using c
  unfold cJ at c'
  split at c'
  ·rename_i kd r
   refine bD (K:=K) (d:=.str kd) (ba (k:=0) (ae h0') aq rfl) λv1 H2 s2 q2=>?_
   have h2:=s2.dat h0'
   have ev:=q2.strE
   subst ev
   refine aE (K:=K) (b:=KTD.inKeys kd TL) (aB (jd (ae q2) T.D9)) (λcL H3 s3=>?_) (λcL H3 s3=>?_)
   ·have h3:=s3.dat h2
    have e:cI (.tup (.str kd::r))=(decide ((r.length:Int)+1=2) && bO (r.getD 0 .non) 0 (mv kd TL)):=by
     show (if KTD.inKeys kd TL=true then _ else _)=_
     rw [if_pos cL]
    refine aU (K:=K) (d:=.bl (cI (.tup (.str kd::r)))) ?_ λv H' s q=>post v H' (s1.trans (s2.trans (s3.trans s))) q
    rw [e]
    have el:((((D.str kd)::r).length:Nat):Int)=(r.length:Int)+1:=by rw [List.length_cons];omega
    have b1:=iK (K:=K) (bW (ae (σ:=(cS ["thing","kind"] [v0]).set 1 (some (.str kd))) (k:=0) h3)) (aq (i:=2))
    rw [el] at b1
    refine cA b1 λhl=>?_
    have hl':(r.length:Int)+1=2:=of_decide_eq_true hl
    obtain ⟨y,er⟩:∃ y,r=[y]:=by
     match r,hl' with
     | [],h=>simp at h
     | [y],_=>exact ⟨y,rfl⟩
     | _::_::_,h=>simp at h;omega
    subst er
    refine aR (E:=E0) (R:=dS) (aa (ba (k:=1) (ae h3) aq rfl) (aa aq (aa (pZ (ae (s3.dat q2)) T.D9 (by rfl) (Cw AO cL)) ah))) ⟨y,0,mv kd TL,rfl,rfl⟩
   ·have h3:=s3.dat h2
    have e:cI (.tup (.str kd::r))=(KTD.inKeys kd TB && decide ((r.length:Int)+1=1+mv kd TB)):=by
     show (if KTD.inKeys kd TL=true then _ else _)=_
     rw [if_neg (by rw [cL];exact Bool.false_ne_true)]
    refine aU (K:=K) (d:=.bl (cI (.tup (.str kd::r)))) ?_ λv H' s q=>post v H' (s1.trans (s2.trans (s3.trans s))) q
    rw [e]
    have el:((((D.str kd)::r).length:Nat):Int)=(r.length:Int)+1:=by rw [List.length_cons];omega
    refine cA (jd (ae (s3.dat q2)) T.Df) λcB=>?_
    have b1:=iK (K:=K) (bW (ae (σ:=(cS ["thing","kind"] [v0]).set 1 (some (.str kd))) (k:=0) h3)) (cm (aq (i:=1)) (pZ (ae (σ:=(cS ["thing","kind"] [v0]).set 1 (some (.str kd))) (k:=1) (s3.dat q2)) T.Df (by rfl) (Cw AM cB)))
    rw [el] at b1
    exact b1
  ·cases c'
theorem ka (T:Txt P w K mg)  : FnOk P w K mg base CX0 (k+1) T.D3 T.D6 ["tree"] (spD K fX):=by
 refine T.EK.ok sc_trees_within (λvs H Q E h=>?_) (λcdv A outer s H vs Q E hr h=>?_)
 ·obtain ⟨ds,d,hd,⟨kd,r,rfl,rfl⟩,_⟩:=h;exact hd.length.symm
 have nd:=sc_trees_within.nd
 obtain ⟨ds,d,hd,⟨kd,r,rfl,rfl⟩,post⟩:=h
 obtain ⟨v0,rfl,h0⟩:=dQ hd
 refine ⟨_,(aj (aZ (aH ja (aV aS (pv 0) ao (λ_ _=>rfl)) (aQ (v:=.ref T.Dz) rfl T.De rfl) (by with_unfolding_all rfl)) (au (aG (lC rZ (pv 0) (jc ao) zm))) aK)
 (au (aG (ay af)))),?_⟩
 refine aE (K:=K) (b:=KTD.inKeys kd TB) (aB (jd (ba (k:=0) (ae h0) aq rfl) T.Df)) (λc H1 s1=>?_) (λc H1 s1=>?_)
 ·refine aU (K:=K) (d:=.tup r) (uP (ae (s1.dat h0))) λv H' s q=>post v H' (s1.trans s) ?_
  show Dat K H' (.tup (if KTD.inKeys kd TB=true then r else [])) v
  rw [if_pos c]
  exact q
 ·refine aU (K:=K) (σ:=cS ["tree"] [v0]) (d:=.tup []) (aA ah) λv H' s q=>post v H' (s1.trans s) ?_
  show Dat K H' (.tup (if KTD.inKeys kd TB=true then r else [])) v
  rw [if_neg (by rw [c];exact Bool.false_ne_true)]
  exact q
theorem xg {ns:List Int} {k:Int} (h0:0≤k) (h1:k < (ns.length:Int)):∃ z,atI (ns.map V.int) k=some (.int z):=by
 have hk:k.toNat < ns.length:=by omega
 refine ⟨ns[k.toNat],?_⟩
 have e:k=((k.toNat:Nat):Int):=by omega
 have q:atI (ns.map V.int) ((k.toNat:Nat):Int)=some (.int ns[k.toNat]):=fu (by rw [List.getElem?_map,List.getElem?_eq_getElem hk] <;> rfl)
 rw [← e] at q
 exact q
theorem nO (T:Txt P w K mg)  : FnOk P w K mg base CX0 (k+1) T.GM T.GP ["_law_script","_law_town","_law_many"] (xO K):=by
 refine T.HZ.ok sc__law_draw (λvs H Q E h=>?_) (λcdv A outer s H vs Q E hr h=>?_)
 ·obtain ⟨a,t,ns,m,p,q,rest,rfl,_⟩:=h;rfl
 have nd:=sc__law_draw.nd
 obtain ⟨a,t,ns,m,p,q,rest,rfl,hS,hT,hp,hm,hm2,post⟩:=h
 refine ⟨_,(aj (aZ (aH mO (aV ix_list (pv 1) ao (λ_ _=>rfl)) ao (aN _)) (aj (bq (i:=3) nd rfl (Or.inl rfl) (bu dq (aV ix_list (pv 1) ao (λ_ _=>rfl)) (pv 2)))
 (aj (dY (bu nW (aV ix_list (pv 1) ao (λ_ _=>rfl)) (pv 2)) (xc (pv 1) ao lO))
 (au (aG (pv 3))))) aK)
 (aj (bq (i:=4) nd rfl (Or.inl rfl) (aV ix_list (pv 1) ao (λ_ _=>rfl)))
 (aj (zq (pv 1) ao wd ao qP lO)
 (aj (aZ (aH (nV hr) (pv 0) (bp af) (aN _)) (au (aG (bu dq (pv 4) (pv 2)))) aK)
 (aj (aZ (PW.pt (Bu (aH lA (pv 4) (aJ aP rfl T.EV bU (ag (pv 0) af)) (aN _)) (zt (aH pO (aV ix_list (pv 0) (pv 4) (λ_ _=>rfl)) (bu n0 ao ao) (aN _))))) (aj (dY (bu dq (bu nW (aV ix_list (pv 0) (pv 4) (λ_ _=>rfl)) (pv 2)) (bu zd (bu n0 ao ao) (bu n0 ao ao))) (xc (pv 1) ao lO))
 (au (aG (bu dq (aV ix_list (pv 0) (pv 4) (λ_ _=>rfl)) (pv 2))))) aK)
 (aj (bq (i:=5) nd rfl (Or.inl rfl) (bu dq (bu cF (bu cF (bu nX (aV ix_list (pv 0) (bu dq (pv 4) (aJ aP rfl T.EV bU (ag (pv 0) af))) (λ_ _=>rfl)) ao) (bu nX ao (pv 4))) ao) ao))
 (au (aG (bu dq (bu dq (bu dq (bu n0 (pv 5) ao) ao) ao) (pv 2)))))))))),?_⟩
 refine ⟨_,rfl,t,_,1,_,rfl,rfl,SqL.of hT,at1,q,0,rfl,rfl,_,rfl,?_⟩
 refine yK (λc=>?_) (λc=>?_)
 ·refine ⟨_,rfl,t,_,1,_,rfl,rfl,SqL.of hT,at1,_,rfl,q,m,rfl,rfl,hm,?_⟩
  refine ⟨_,rfl,t,_,1,_,rfl,rfl,SqL.of hT,at1,_,rfl,q,m,rfl,rfl,⟨hm,by omega⟩,?_⟩
  refine ⟨_,rfl,t,_,1,1,rfl,rfl,hT,ix1,?_⟩
  refine ⟨_,rfl,?_⟩
  exact post (q % m) _ p (q / m) (But.upd (Same.refl H).but) av hp (Int.emod_nonneg _ (by omega)) (Int.emod_lt_of_pos _ hm)
 refine ⟨_,rfl,t,_,0,_,rfl,rfl,SqL.of hT,at0,?_⟩
 refine ⟨_,rfl,t,_,0,_,rfl,rfl,Int.le_refl 0,SqL.of hT,rfl,p,1,rfl,rfl,t,_,0,0,rfl,rfl,hT,ix0,?_⟩
 refine ⟨_,rfl,(by show 0≤sizeLine;decide),λl hl=>?_⟩
 have bt1:But t H (upd H t (.lst ((V.int p::.int q::rest).set 0 (.int (p+1))))):=But.upd (Same.refl H).but
 have hlt:l≠t:=λz=>by rw [z,av] at hl;cases hl
 have bt3:=bt1.trans (aC hl (.lst [])).but
 have ht3:upd (upd H t (.lst ((V.int p::.int q::rest).set 0 (.int (p+1))))) l (.lst []) t=some (.lst (.int (p+1)::.int q::rest)):=by
  rw [aD (Ne.symm hlt)];exact av
 have hS3:=(hS.but bt3 hT).sqL
 have hlen:((ns.map V.int).length:Int)=(ns.length:Int):=by rw [List.length_map]
 refine ⟨a,l,_,[],ns.map D.int,[],rfl,rfl,hS3,SqL.of av,eW ns,Dats.nil,jD ns,(by unfold noLs;rfl),(by rw [gE];decide),_,rfl,?_⟩
 show (if eqDs (ns.map D.int) []=true then _ else _)
 rw [vX]
 refine yK (λc0=>?_) (λc0=>?_)
 ·refine ⟨_,rfl,_,rfl,p,m,rfl,rfl,hm,?_⟩
  exact post _ _ (p+1) q bt3 ht3 (by omega) (Int.emod_nonneg _ (by omega)) (Int.emod_lt_of_pos _ hm)
 have hl0:(0:Int) < ((ns.map V.int).length:Int):=by
  rw [hlen]
  cases ns with
  | nil=>exact absurd rfl c0
  | cons n ns=>rw [List.length_cons];omega
 refine ⟨_,rfl,_,rfl,a,_,rfl,.inl hS3,p,_,rfl,rfl,_,rfl,?_⟩
 refine yK (λc1=>?_) (λc1=>?_)
 ·have c1':p < ((ns.map V.int).length:Int):=of_decide_eq_true c1
  obtain ⟨z,hz⟩:=xg (ns:=ns) hp (by rw [← hlen];exact c1')
  refine ⟨_,rfl,_,rfl,a,_,p,_,rfl,rfl,hS3,hz,10,18,rfl,rfl,⟨by decide,by decide,by decide⟩,z,_,rfl,rfl,_,rfl,?_⟩
  refine yK (λc2=>?_) (λc2=>?_)
  ·refine ⟨_,rfl,_,rfl,a,_,p,_,rfl,rfl,hS3,hz,_,rfl,z,m,rfl,rfl,⟨hm,by omega⟩,10,60,rfl,rfl,⟨by decide,by decide,by decide⟩,10,60,rfl,rfl,⟨by decide,by decide,by decide⟩,_,_,rfl,rfl,IntMulOk.of_bits (by decide +kernel) (by decide +kernel),_,_,rfl,rfl,(by show (0:Int) < 10 ^ (60:Int).toNat * 10 ^ (60:Int).toNat;decide +kernel),?_⟩
   refine ⟨_,rfl,t,_,1,1,rfl,rfl,ht3,ix1,?_⟩
   refine ⟨_,rfl,_,rfl,a,_,p,_,rfl,rfl,(hS.but bt3.upd hT).sqL,hz,_,rfl,z,m,rfl,rfl,hm,?_⟩
   exact post _ _ (p+1) _ bt3.upd av (by omega) (Int.emod_nonneg _ (by omega)) (Int.emod_lt_of_pos _ hm)
  ·refine ⟨_,rfl,_,rfl,_,rfl,a,_,rfl,.inl hS3,p,_,rfl,rfl,hl0,?_⟩
   obtain ⟨z2,hz2⟩:=xg (ns:=ns) (Int.emod_nonneg p (by omega:((ns.map V.int).length:Int)≠0)) (by rw [← hlen];exact Int.emod_lt_of_pos p hl0)
   refine ⟨a,_,_,_,rfl,rfl,hS3,hz2,z2,1103515245,rfl,rfl,.inr ⟨by decide,by decide⟩,_,rfl,7919,p,rfl,rfl,.inl ⟨by decide,by decide⟩,_,_,rfl,rfl,_,_,rfl,rfl,_,_,rfl,rfl,(by show (0:Int) < 2147483647;decide),?_⟩
   have m1:=Int.emod_nonneg (z2 * 1103515245+7919 * p+12345) (by decide:(2147483647:Int)≠0)
   have m2:=Int.emod_lt_of_pos (z2 * 1103515245+7919 * p+12345) (by decide:(0:Int) < 2147483647)
   refine ⟨_,rfl,_,5,rfl,rfl,⟨by decide,by decide,by omega⟩,_,_,rfl,rfl,(by show (0:Int) < 2147483647;decide),_,_,rfl,rfl,(by show (0:Int) < 999983;decide),_,rfl,_,m,rfl,rfl,hm,?_⟩
   exact post _ _ (p+1) q bt3 ht3 (by omega) (Int.emod_nonneg _ (by omega)) (Int.emod_lt_of_pos _ hm)
 ·refine ⟨_,rfl,_,rfl,_,rfl,a,_,rfl,.inl hS3,p,_,rfl,rfl,hl0,?_⟩
  obtain ⟨z2,hz2⟩:=xg (ns:=ns) (Int.emod_nonneg p (by omega:((ns.map V.int).length:Int)≠0)) (by rw [← hlen];exact Int.emod_lt_of_pos p hl0)
  refine ⟨a,_,_,_,rfl,rfl,hS3,hz2,z2,1103515245,rfl,rfl,.inr ⟨by decide,by decide⟩,_,rfl,7919,p,rfl,rfl,.inl ⟨by decide,by decide⟩,_,_,rfl,rfl,_,_,rfl,rfl,_,_,rfl,rfl,(by show (0:Int) < 2147483647;decide),?_⟩
  have m1:=Int.emod_nonneg (z2 * 1103515245+7919 * p+12345) (by decide:(2147483647:Int)≠0)
  have m2:=Int.emod_lt_of_pos (z2 * 1103515245+7919 * p+12345) (by decide:(0:Int) < 2147483647)
  refine ⟨_,rfl,_,5,rfl,rfl,⟨by decide,by decide,by omega⟩,_,_,rfl,rfl,(by show (0:Int) < 2147483647;decide),_,_,rfl,rfl,(by show (0:Int) < 999983;decide),_,rfl,_,m,rfl,rfl,hm,?_⟩
  exact post _ _ (p+1) q bt3 ht3 (by omega) (Int.emod_nonneg _ (by omega)) (Int.emod_lt_of_pos _ hm)
def oz (K:PySem.W.Frag):Sp:=λvs H Q _=>∃ (a t l:Addr) (ns:List Int) (xs:List V) (p q:Int) (rest:List V),vs=[.ref a,.ref t,.ref l]/\Scr K H a ns/\SqL K H l xs/\l≠t/\0 < xs.length/\xs.length≤1000000 /\
 H t=some (.lst (.int p::.int q::rest))/\0≤p/\∀ (i:Nat) (x:V) (H':Hp) (p' q':Int),But t H H'->H' t=some (.lst (.int p'::.int q'::rest))->0≤p'->xs[i]?=some x->Q x H'
theorem nP (T:Txt P w K mg) (Kt:FnOk P w K mg base CX0 k T.GM T.GP ["_law_script","_law_town","_law_many"] (xO K)):FnOk P w K mg base CX0 (k+1) T.Fh T.Fo ["_law_script","_law_town","_law_some"] (oz K):=by
 refine T.F0.ok sc__law_pick (λvs H Q E h=>?_) (λcdv A outer s H vs Q E hr h=>?_)
 ·obtain ⟨a,t,l,ns,xs,p,q,rest,rfl,_⟩:=h;rfl
 have nd:=sc__law_pick.nd
 obtain ⟨a,t,l,ns,xs,p,q,rest,rfl,hS,hL,hlt,hx0,hx1,hT,hp,post⟩:=h
 refine ⟨_,(au (aG (aV ix_list (pv 2) (aF Kt hr rfl T.JP T.HZ.kp (oQ T) .nil aY (ag (pv 0) (ag (pv 1) (ag (aJ aP rfl T.EV bU (ag (pv 2) af)) af)))) (λ_ _=>rfl)))),?_⟩
 refine ⟨_,rfl,_,rfl,_,rfl,_,rfl,l,xs,rfl,.inl hL,a,t,ns,(xs.length:Int),p,q,rest,rfl,hS,hT,hp,by omega,by omega,λr H1 p1 q1 b1 t1 g1 r0 r1=>?_⟩
 have hr':r.toNat < xs.length:=by omega
 have er:r=((r.toNat:Nat):Int):=by omega
 have z:atI xs ((r.toNat:Nat):Int)=some xs[r.toNat]:=fu (List.getElem?_eq_getElem hr')
 rw [← er] at z
 exact ⟨l,xs,r,xs[r.toNat],rfl,rfl,b1.sqL hlt hL,z,post r.toNat _ H1 p1 q1 b1 t1 g1 (List.getElem?_eq_getElem hr')⟩
end
inductive Tr where
 | num (n:Int)
 | arg (k:Int)
 | two (o:Str) (a b:Tr)
 | pick (a b c:Tr)
def toD:Tr->D
 | .num n=>.tup [.str "num",.int n]
 | .arg k=>.tup [.str "arg",.int k]
 | .two o a b=>.tup [.str o,toD a,toD b]
 | .pick a b c=>.tup [.str "pick",toD a,toD b,toD c]
def okT:Tr->Prop
 | .num n=>0≤n/\n≤9999
 | .arg k=>0≤k/\k≤3
 | .two o a b=>(o="add"\/o="sub"\/o="mul"\/o="less")/\okT a/\okT b
 | .pick a b c=>okT a/\okT b/\okT c
def dA:Tr->Nat
 | .num _=>1
 | .arg _=>1
 | .two _ a b=>max (dA a) (dA b)+1
 | .pick a b c=>max (dA a) (max (dA b) (dA c))+1
theorem uf (t:Tr):1≤dA t:=by cases t <;> simp [dA]
variable {k:Str} {r:List D}
theorem wW (h:KTD.inKeys k TL=false):cI (.tup (.str k::r))=(KTD.inKeys k TB && decide ((r.length:Int)+1=1+mv k TB)):=by
 unfold cI
 dsimp only
 rw [if_neg (by rw [h];exact Bool.false_ne_true)]
theorem uv (h:KTD.inKeys k TB=false):bZ (.tup (.str k::r))=[]:=by
 unfold bZ
 dsimp only
 rw [if_neg (by rw [h];exact Bool.false_ne_true)]
def tD:Nat->List (D × Int)->Int->Bool
 | 0,_,_=>false
 | _+1,[],_=>true
 | n+1,(d,dp)::st,p=>if (decide (40 < p+1) || (decide (8 < dp) || !cI d))=true then false else tD n (((bZ d).map λx=>(x,dp+1)).reverse++st) (p+1)
def cN (d:D):Bool:=tD 50 [(d,1)] 0
def yS:Nat->D
 | 0=>.tup [.str "num",.int 1]
 | n+1=>.tup [.str "add",yS n,.tup [.str "arg",.int 0]]
def lS:Nat->D
 | 0=>.tup [.str "num",.int 1]
 | n+1=>.tup [.str "pick",lS n,lS n,lS n]
abbrev gM:D:=.tup [.str "num",.int 1]
def AV:List D:=[.non,.tup [],.str "num",.tup [.str "num"],.tup [.str "num",.int (-1)],.tup [.str "num",.int 10000],.tup [.str "num",.bl true],.tup [.str "arg",.int 4],.tup [.str "arg",.int 0,.int 0],
 .tup [.str "add",gM],
 .tup [.str "add",gM,gM,gM],.tup [.str "pick",gM,gM],.tup [.str "div",gM,gM],.lst,.tup [.str "add",gM,.int 5],
 .tup [.str "hole",.int 0],
 .tup [.str "sub",gM,.non],yS 8,.tup [.str "add",.tup [.str "add",lS 3,gM],.tup [.str "add",lS 3,gM]],.tup [gM],.int 7]
theorem yo:∀ d ∈ AV,cN d=false:=by decide +kernel
section
variable {P:Program} {w:World} {K:PySem.W.Frag} {mg:Str->Option Value} {base:Heap} {k:Nat}
def mu2 (σ:L2.St) (_:Hp):Nat:=match σ[2]? with
 | some (some (V.int p))=>(50 - p).toNat
 | _=>0
def sI (ds:List D) (d:D):Prop:=∃ x,ds=[x]/\d=.bl (cN x)
abbrev pr (x:D × Int):D:=.tup [x.1,.int x.2]
variable {H:Hp}
theorem mG {K:PySem.W.Frag} {b:D}:∀ {as:List D} {vs:List V},Dats K H (as++[b]) vs->∃ us v,vs=us++[v]/\Dats K H as us/\Dat K H b v
 | [],vs,h=>by
  obtain ⟨v,e,q⟩:=dQ h
  exact ⟨[],v,e,Dats.nil,q⟩
 | a::as,vs,h=>by
  obtain ⟨u,r,e,h1,h2⟩:=h.consE
  obtain ⟨us,v,e2,h3,h4⟩:=mG h2
  subst e2 e
  exact ⟨u::us,v,rfl,Dats.cons h1 h3,h4⟩
theorem zW (k:Str):mv k TB≤3:=by
 unfold mv
 split
 ·rename_i i e
  simp only [TB,KTD.datumAt] at e
  repeat' split at e
  all_goals first
   | (cases e;decide)
   | cases e
 ·decide
variable {d:D}
theorem kP (h:cI d=true):(bZ d).length≤3:=by
 unfold cI at h
 split at h
 ·rename_i k r
  unfold bZ
  dsimp only
  split
  ·rename_i hb
   split at h
   ·rw [Bool.and_eq_true] at h
    have z:=of_decide_eq_true h.1
    omega
   ·rw [Bool.and_eq_true] at h
    have z:=of_decide_eq_true h.2
    have z2:=zW k
    omega
  ·exact Nat.zero_le _
 ·cases h
theorem kW (h:cI d=true):∃ k r,d=.tup (.str k::r):=by
 unfold cI at h
 split at h
 ·exact ⟨_,_,rfl⟩
 ·cases h
theorem rq (T:Txt P w K mg) (JL:FnOk P w K mg base CX0 k T.Hl T.Ho ["thing"] (spD K vp)) (Fc:FnOk P w K mg base CX0 k T.D3 T.D6 ["tree"] (spD K fX)):FnOk P w K mg base CX0 (k+1) T.Io T.Iz ["thing"] (spD K sI):=by
 refine T.Jl.ok sc_is_tree (λvs H Q E h=>?_) (λcdv A outer s H vs Q E hr h=>?_)
 ·obtain ⟨ds,d,hd,⟨x,rfl,rfl⟩,_⟩:=h;exact hd.length.symm
 have nd:=sc_is_tree.nd
 obtain ⟨ds,d,hd,⟨x,rfl,rfl⟩,post⟩:=h
 obtain ⟨v0,rfl,h0⟩:=dQ hd
 refine ⟨_,(aj (bq (i:=1) nd rfl (Or.inl rfl) (bp (ag (ay (ag (pv 0) (ag ao af))) af)))
 (aj (bq (i:=2) nd rfl (Or.inl rfl) ao)
 (aj (lF PassesOwn.never (bh (pv 1) (λ_=>rfl)) (aj (dY (rD PySem.F.plainAttrs_list PySem.F.slot_list_pop PySem.F.type_list_pop qZ (pv 1)) (fj rfl (bf (aM (i:=3) nd rfl (Or.inl rfl)) (bf (aM (i:=4) nd rfl (Or.inr rfl)) dF))))
 (aj (xk (i:=2) nd rfl (Or.inl rfl) ao qP)
 (aj (aZ (PW.pt (dR (aH mO (pv 2) (aQ (v:=.int 40) rfl T.FD ⟨_,rfl⟩) (aN _)) (dR (aH mO (pv 4) (aQ (v:=.int 8) rfl T.F3 ⟨_,rfl⟩) (aN _)) (du (bV (bh (aF JL hr rfl T.JO T.IA.kp (mx T) .nil aY (ag (pv 3) af)) (λ_=>rfl))))))) (au (aG cf)) aK)
 (au (aX (cy PySem.F.plainAttrs_list PySem.F.slot_list_extend PySem.F.type_list_extend bx (pv 1) (ag (eE (own:=["within"]) (fr:=[4]) (N':=["within","deep"]) (jH (aF Fc hr rfl T.Gw T.EK.kp (fb T) .nil aY (ag (pv 3) af))) rfl (by show cK ["thing","waiting","parts","part","deep"] (λx=>(aw fR).names.lookup x) _ _ _ _=true;decide +kernel) rfl (λ_ _ _ _ _=>(aM (i:=0) (by show List.Nodup [("within":Str),("deep":Str)];decide +kernel) rfl (Or.inl rfl))) (λ_ _ _ _ _=>cG) (λ_ _ _ _ _=>(ay (ag (pv 0) (ag (bu cF (pv 1) ao) af))))) af))))))))
 (au (aG cf))))),?_⟩
 refine d6 (gT (K:=K) (aa (aA (aa (ae h0) (aa aq ah))) ah) λwl vs1 H1 s1 hw q1=>?_)
 have hw0:H wl=none:=s1.free hw
 have s1':Same H (upd H1 wl (.lst vs1)):=s1.trans (aC hw _)
 refine d6 (Ax (dI (qk (λσ G=>∃ (st:List (D × Int)) (p:Int) (n:Nat) (xs:List V) (z3 z4:Option V),σ=[some v0,some (.ref wl),some (.int p),z3,z4]/\G wl=some (.lst xs)/\Dats K G (st.reverse.map pr) xs/\Same H G/\tD n st p=cN x/\0≤p/\p≤40/\(n:Int)=50 - p/\(xs.length:Int)≤1+3 * p)
  mu2 ?_ ?_ ?_)))
 ·refine ⟨[(x,1)],0,50,vs1,none,none,rfl,av,(aC hw _).dats q1,s1',rfl,by decide,by decide,by decide,?_⟩
  rw [← q1.length]
  simp
 ·rintro σ G ⟨st,p,n,xs,z3,z4,rfl,hG,hd,sG,lp,p0,p1,en,lx⟩
  refine ⟨_,rfl,!xs.isEmpty,.inl ⟨xs,SqL.of hG,rfl⟩,?_⟩
  cases st with
  | nil =>
   have ex:=hd.nilE
   subst ex
   rw [if_neg (by simp)]
   obtain ⟨m,rfl⟩:∃ m,n=m+1:=⟨n - 1,by omega⟩
   have lp':cN x=true:=lp.symm
   refine post _ _ sG ?_
   rw [lp']
   exact Dat.blI _
  | cons e st =>
   obtain ⟨y,dp⟩:=e
   rw [List.reverse_cons,List.map_append] at hd
   obtain ⟨us,v,ex,hu,hv⟩:=mG hd
   subst ex
   obtain ⟨a,ws,ev,hq,hws⟩:=hv.tupE
   obtain ⟨vy,vd,ew,hy,hdp⟩:=eK hws
   have edp:=hdp.intE
   subst edp ew ev
   rw [if_pos (by simp)]
   refine ⟨_,rfl,.inl ⟨rfl,_,SqL.of hG⟩,wl,us++[.ref a],.ref a,rfl,rfl,hG,(by simp),?_⟩
   rw [List.dropLast_concat]
   have bt:But wl G (upd G wl (.lst us)):=But.upd (Same.refl G).but
   have g2:cT K G (upd G wl (.lst us)):=bt.grow hG av
   refine ⟨a,[vy,.int dp],rfl,bt.sqT hG hq,rfl,vy,_,rfl,.int dp,_,rfl,rfl,?_⟩
   have s2:Same H (upd G wl (.lst us)):=λb o hb=>bt b o (aI hb hw0) (sG b o hb)
   have hy2:=Dat.mono g2 _ hy
   have hu2:=Dats.mono g2 _ hu
   refine ⟨_,rfl,p,1,rfl,rfl,?_⟩
   dsimp only
   refine aE (K:=K) (b:=decide (40 < p+1) || (decide (8 < dp) || !cI y)) ?_ (λc H3 s3=>?_) (λc H3 s3=>?_)
   ·exact bY (aB (bK (ae (K:=K) (Dat.intI (p+1))) aq)) λ_=>bY (aB (bK (ae (K:=K) (Dat.intI dp)) aq)) λ_=>bw (aW (aR (aa (ae hy2) ah) ⟨y,rfl,rfl⟩))
   ·refine post _ _ (s2.trans s3) ?_
    obtain ⟨m,rfl⟩:∃ m,n=m+1:=⟨n - 1,by omega⟩
    have lp':cN x=false:=by
     rw [← lp]
     show (if (decide (40 < p+1) || (decide (8 < dp) || !cI y))=true then false else _)=false
     rw [if_pos c]
    rw [lp']
    exact Dat.blI _
   ·obtain ⟨m,rfl⟩:∃ m,n=m+1:=⟨n - 1,by omega⟩
    have lp':tD m (((bZ y).map λx=>(x,dp+1)).reverse++st) (p+1)=cN x:=by
     rw [← lp]
     show _=(if (decide (40 < p+1) || (decide (8 < dp) || !cI y))=true then false else _)
     rw [if_neg (by rw [c];exact Bool.false_ne_true)]
    simp only [Bool.or_eq_false_iff,decide_eq_false_iff_not,Bool.not_eq_false'] at c
    obtain ⟨c1,c2,c3⟩:=c
    obtain ⟨kd,r,ey⟩:=kW c3
    have few:=kP c3
    have hw3:=s3 _ _ (show upd G wl (.lst us) wl=some (.lst us) from av)
    refine ⟨_,rfl,.inl ⟨rfl,_,SqL.of hw3⟩,?_⟩
    refine mR (K:=K) (cs:=bZ y) (aR (R:=fX) (aa (ae (s3.dat hy2)) ah) ⟨kd,r,by rw [ey],by rw [ey]⟩) (by omega) ((bZ y).map λz=>pr (z,dp+1)) (List.length_map _) rfl (λH4 i z vz d s4 hz hi hvz=>?_) (λl ys H5 hl s5 hl5 hd5=>?_)
    ·rw [List.getElem?_map,hz] at hi
     cases hi
     exact aA (aa (ae hvz) (aa (cm (ae (Dat.intI dp)) aq) ah))
    ·have hw5:=s5 _ _ hw3
     have ly:ys.length=(bZ y).length:=by rw [← hd5.length,List.length_map]
     have lu:us.length=st.length:=by rw [← hu.length,List.length_map,List.length_reverse]
     rw [List.length_append,List.length_singleton] at lx
     have b5:But wl H5 (upd H5 wl (.lst (us++ys))):=But.upd (Same.refl H5).but
     have g5:cT K H5 (upd H5 wl (.lst (us++ys))):=b5.grow hw5 av
     refine ⟨wl,l,us,ys,rfl,rfl,hw5,hl5,eM (by omega),?_⟩
     refine ⟨⟨_,p+1,m,us++ys,_,_,rfl,av,?_,?_,lp',by omega,by omega,by omega,?_⟩,?_⟩
     ·rw [List.reverse_append,List.reverse_reverse,List.map_append,List.map_map]
      exact Dats.append (Dats.mono g5 _ ((s3.trans s5).dats hu2)) (Dats.mono g5 _ hd5)
     ·exact λb o hb=>b5 b o (aI hb hw0) (s5 _ _ (s3 _ _ (s2 _ _ hb)))
     ·rw [List.length_append]
      omega
     ·show (50 - (p+1)).toNat < (50 - p).toNat
      omega
 ·intro σ G Q1 Q2 hQ hc
  obtain ⟨v,e,k',tr,q⟩:=hc
  exact ⟨v,e,k',tr,hQ _ _ q⟩
theorem jw {b:Bool} (h:(!b)=true):b=false:=by cases b with | true=>cases h | false=>rfl
theorem fZ {b:Bool} (h:(!b)=false):b=true:=by cases b with | true=>rfl | false=>cases h
def sgn (c:Nat):Bool:=(!decide (([c]:List Nat) < ("a":Str).cps.toList)) && !decide (("z":Str).cps.toList < ([c]:List Nat))
def gL:D->Bool
 | .str x=>(decide (1≤(x.length:Int)) && decide ((x.length:Int)≤8)) && (x.cps.toList.map sgn).all id
 | _=>false
def Al:D->Prop
 | .str x=>x.length≤sizeLine
 | _=>True
def vo (ds:List D) (d:D):Prop:=∃ x,ds=[x]/\Al x/\d=.bl (gL x)
variable {x:D}
theorem qS (h:∀ y,x≠.str y):kN x "str"=false:=by
 cases x with
 | str y=>exact absurd rfl (h y)
 | _=>rfl
theorem wQ (h:∀ y,x≠.str y):gL x=false:=by
 cases x with
 | str y=>exact absurd rfl (h y)
 | _=>rfl
theorem rm (T:Txt P w K mg)  : FnOk P w K mg base CX0 (k+1) T.Im T.Iy ["thing"] (spD K vo):=by
 refine T.Jk.ok sc_is_name (λvs H Q E h=>?_) (λcdv A outer s H vs Q E hr h=>?_)
 ·obtain ⟨ds,d,hd,⟨x,rfl,_⟩,_⟩:=h;exact hd.length.symm
 have nd:=sc_is_name.nd
 obtain ⟨ds,d,hd,⟨x,rfl,hx,rfl⟩,post⟩:=h
 obtain ⟨v0,rfl,h0⟩:=dQ hd
 refine ⟨_,(aj (aZ (PW.pt (dR (bV (bh (aJ (eJ wq) rfl T.C2 aO (aT (pv 0) (aT (eS (v:=.ty "str") rfl T.KW vM rfl) af))) (λ_=>rfl))) (du (bV (pU lq lq ao (aJ nC rfl T.EV bU (ag (pv 0) af)) (aQ (v:=.int 8) rfl T.EL ⟨_,rfl⟩)))))) (au (aG cf)) aK)
 (au (aG (aJ (iQ rfl) rfl T.Kx nB (ag (eE (own:=["sign"]) (fr:=[]) (N':=["sign"]) (Bp (pv 0)) rfl (by show cK ["thing"] (λx=>(aw fQ).names.lookup x) _ _ _ _=true;decide +kernel) rfl (λ_ _ _ _ _=>(aM (i:=0) (by show List.Nodup [("sign":Str)];decide +kernel) rfl (Or.inl rfl))) (λ_ _ _ _ _=>cG) (λ_ _ _ _ _=>(pS wZ wZ az (pv 0) az))) af))))),?_⟩
 by_cases hs:∃ y,x=.str y
 ·obtain ⟨y,rfl⟩:=hs
  have hx:y.length≤sizeLine:=hx
  refine aE (K:=K) (b:=!(decide (1≤(y.length:Int)) && decide ((y.length:Int)≤8))) ?_ (λc H1 s1=>?_) (λc H1 s1=>?_)
  ·exact RT.as (bY (bw (aW (bQ (ae h0)))) λ_=>bw (aB (lH (p:=λi j=>decide (i≤j)) (r:=λi j=>decide (i≤j)) aq (zF (ae h0) hx) λ_=>aq))) rfl
  ·refine aU (K:=K) (d:=.bl (gL (.str y))) ?_ λv H' s q=>post v H' (s1.trans s) q
   have e:gL (.str y)=false:=by
    show (_ && _)=false
    have c':=jw c
    rw [c',Bool.false_and]
   rw [e]
   exact cR
  ·have c':=fZ c
   have hy:y.cps.size≤8:=by
    rw [Bool.and_eq_true] at c'
    have:=of_decide_eq_true c'.2
    have e:y.length=y.cps.size:=rfl
    omega
   refine aU (K:=K) (d:=.bl (gL (.str y))) ?_ λv H' s q=>post v H' (s1.trans s) q
   have e:gL (.str y)=(y.cps.toList.map sgn).all id:=by
    show (_ && _)=_
    rw [c',Bool.true_and]
   rw [e]
   refine kl (bs:=y.cps.toList.map sgn) (BA (ae (s1.dat h0)) (by omega) _ (by simp) rfl (λH2 i c d s2 hc hd2=>?_))
   rw [List.getElem?_map,List.getElem?_map] at hd2
   have hc':y.cps.toList[i]?=some c:=by simpa using hc
   rw [hc'] at hd2
   cases hd2
   refine RE.as (uM (p:=λi j=>!decide (j.cps.toList < i.cps.toList)) (q':=λi j=>!decide (j.cps.toList < i.cps.toList)) ax (ae (Dat.strI _)) λ_=>ax) rfl
 ·have hs':∀ y,x≠.str y:=λy e=>hs ⟨y,e⟩
  refine aE (K:=K) (b:=true) ?_ (λc H1 s1=>?_) (λc=>nomatch c)
  ·exact RT.as (bY (b:=true) (c:=true) (RT.as (bw (aW (bQ (ae h0)))) (by rw [qS hs'];rfl)) λc=>nomatch c) rfl
  ·refine aU (K:=K) (d:=.bl (gL x)) ?_ λv H' s q=>post v H' (s1.trans s) q
   rw [wQ hs']
   exact cR
theorem AQ:∀ p ∈ TM,∃ i,p.2=.flat (.int i):=by
 intro p hp
 simp only [TM,List.mem_cons,List.not_mem_nil,or_false] at hp
 rcases hp with rfl | rfl | rfl <;> exact ⟨_,rfl⟩
def cQ:D->Bool
 | .tup (.str k::r)=>decide ((r.length:Int)+1=jQ k TM 0) && (bO (r.getD 0 .non) 0 1 && (!decide (k="gap") || bO (r.getD 1 .non) 0 9999))
 | _=>false
theorem gI (k:Str) (r:List D):cQ (.tup (.str k::r))=(decide ((r.length:Int)+1=jQ k TM 0) && (bO (r.getD 0 .non) 0 1 && (!decide (k="gap") || bO (r.getD 1 .non) 0 9999))):=rfl
def zZ (ds:List D) (d:D):Prop:=∃ x,ds=[x]/\d=.bl (cQ x)
theorem pA (k:Str):jQ k TM 0=0\/jQ k TM 0=2\/(k="gap"/\jQ k TM 0=3):=by
 unfold jQ
 by_cases h1:k="hole"
 ·subst h1;exact .inr (.inl rfl)
 by_cases h2:k="gap"
 ·subst h2;exact .inr (.inr ⟨rfl,rfl⟩)
 by_cases h3:k="slot"
 ·subst h3;exact .inr (.inl rfl)
 have e:KTD.datumAt k TM=none:=by simp [TM,KTD.datumAt,h1,h2,h3]
 rw [e]
 exact .inl rfl
theorem BM (h:cJ x=false):cQ x=false:=by
 unfold cJ at h
 unfold cQ
 split at h
 ·cases h
 ·rename_i hn
  first
   | rfl
   | (split
      ·rename_i k r;exact absurd rfl (hn k r)
      ·rfl)
theorem rl (T:Txt P w K mg) (GL:FnOk P w K mg base CX0 k T.Fi T.Fp ["thing"] (spD K kg)) (DF:FnOk P w K mg base CX0 k T.Ey T.Ez ["thing","low","high"] (spD K dS)):FnOk P w K mg base CX0 (k+1) T.Il T.Iw ["thing"] (spD K zZ):=by
 refine T.Jj.ok sc_is_mark (λvs H Q E h=>?_) (λcdv A outer s H vs Q E hr h=>?_)
 ·obtain ⟨ds,d,hd,⟨x,rfl,rfl⟩,_⟩:=h;exact hd.length.symm
 have nd:=sc_is_mark.nd
 obtain ⟨ds,d,hd,⟨x,rfl,rfl⟩,post⟩:=h
 obtain ⟨v0,rfl,h0⟩:=dQ hd
 refine ⟨_,(aj (aZ (PW.pt (dR (bV (bh (aF GL hr rfl T.Ic T.F1.kp (gC T) .nil aY (ag (pv 0) af)) (λ_=>rfl))) (du (aH lB (aJ aP rfl T.EV bU (ag (pv 0) af)) (mQ (aQ (v:=.ref T.D0) rfl T.Dy rfl) (aV aS (pv 0) ao (λ_ _=>rfl)) ao ⟨rfl,rfl,rfl,rfl⟩) (aN _))))) (au (aG cf)) aK)
 (aj (aZ (bV (bh (aF DF hr rfl T.Fv T.EA.kp (dm T) .nil aY (ag (aV aS (pv 0) ao (λ_ _=>rfl)) (ag ao (ag ao af)))) (λ_=>rfl))) (au (aG cf)) aK)
 (au (aG (Am (eB lB (aV aS (pv 0) ao (λ_ _=>rfl)) az (aN _)) (gR (aF DF hr rfl T.Fv T.EA.kp (dm T) .nil aY (ag (aV aS (pv 0) ao (λ_ _=>rfl)) (ag ao (ag (aQ (v:=.int 9999) rfl T.GD ⟨_,rfl⟩) af)))))))))),?_⟩
 cases ht:cJ x with
 | false =>
  refine aE (K:=K) (b:=true) ?_ (λc H1 s1=>?_) (λc=>nomatch c)
  ·exact RT.as (bY (b:=true) (c:=true) (RT.as (bw (aW (aR (aa (ae h0) ah) ⟨x,rfl,rfl⟩))) (by rw [ht];rfl)) λc=>nomatch c) rfl
  ·refine aU (K:=K) (d:=.bl (cQ x)) ?_ λv H' s q=>post v H' (s1.trans s) q
   rw [BM ht]
   exact cR
 | true =>
  have ht':=ht
  unfold cJ at ht'
  split at ht'
  ·rename_i kd r
   have el:((((D.str kd)::r).length:Nat):Int)=(r.length:Int)+1:=by rw [List.length_cons];omega
   refine aE (K:=K) (b:=!decide ((r.length:Int)+1=jQ kd TM 0)) ?_ (λc H1 s1=>?_) (λc H1 s1=>?_)
   ·have b1:=gS (K:=K) (bW (ae (σ:=cS ["thing"] [v0]) (k:=0) h0)) (mT (i:=0) T.D8 (ba (k:=0) (ae (σ:=cS ["thing"] [v0]) (k:=0) h0) aq rfl) aq AQ)
    rw [el] at b1
    exact RT.as (bY (b:=false) (RT.as (bw (aW (aR (aa (ae h0) ah) ⟨_,rfl,rfl⟩))) (by rw [ht];rfl)) λ_=>aB b1) (Bool.false_or _)
   ·refine aU (K:=K) (d:=.bl (cQ (.tup (.str kd::r)))) ?_ λv H' s q=>post v H' (s1.trans s) q
    have e:cQ (.tup (.str kd::r))=false:=by
     rw [gI]
     rw [show decide ((r.length:Int)+1=jQ kd TM 0)=false from jw c,Bool.false_and]
    rw [e]
    exact cR
   ·have c':decide ((r.length:Int)+1=jQ kd TM 0)=true:=fZ c
    have hl:=of_decide_eq_true c'
    have h1:=s1.dat h0
    obtain ⟨y,r',er⟩:∃ y r',r=y::r':=by
     cases r with
     | nil=>rcases pA kd with h | h | ⟨_,h⟩ <;> (rw [h] at hl;simp at hl)
     | cons y r'=>exact ⟨y,r',rfl⟩
    subst er
    refine aE (K:=K) (b:=!bO y 0 1) (bw (aW (aR (R:=dS) (aa (ba (k:=1) (ae h1) aq rfl) (aa aq (aa aq ah))) ⟨y,0,1,rfl,rfl⟩))) (λc2 H2 s2=>?_) (λc2 H2 s2=>?_)
    ·refine aU (K:=K) (d:=.bl (cQ (.tup (.str kd::y::r')))) ?_ λv H' s q=>post v H' (s1.trans (s2.trans s)) q
     have e:cQ (.tup (.str kd::y::r'))=false:=by
      rw [gI,c',Bool.true_and]
      show (bO y 0 1 && _)=false
      rw [show bO y 0 1=false from jw c2,Bool.false_and]
     rw [e]
     exact cR
    ·refine aU (K:=K) (d:=.bl (cQ (.tup (.str kd::y::r')))) ?_ λv H' s q=>post v H' (s1.trans (s2.trans s)) q
     have h2:=s2.dat h1
     have e:cQ (.tup (.str kd::y::r'))=(!decide (kd="gap") || bO (r'.getD 0 .non) 0 9999):=by
      rw [gI,c',Bool.true_and]
      show (bO y 0 1 && (!decide (kd="gap") || bO (r'.getD 0 .non) 0 9999))=_
      rw [show bO y 0 1=true from fZ c2,Bool.true_and]
     rw [e]
     refine Au (xG (ba (k:=0) (ae h2) aq rfl) ax) λc3=>?_
     have hk:kd="gap":=by simpa using c3
     obtain ⟨z,er⟩:∃ z,r'=[z]:=by
      rcases pA kd with h | h | ⟨_,h⟩
      ·rw [h] at hl;simp at hl;omega
      ·rw [hk] at h;exact absurd h (by decide +kernel)
      ·rw [h] at hl
       match r',hl with
       | [z],_=>exact ⟨z,rfl⟩
       | [],h=>simp at h
       | _::_::_,h=>simp at h;omega
     subst er
     exact aR (E:=E0) (R:=dS) (aa (ba (k:=2) (ae h2) aq rfl) (aa aq (aa aq ah))) ⟨z,0,9999,rfl,rfl⟩
  ·cases ht'
def iN:D->Bool
 | .tup (.str k::_)=>decide (k ∈ (["arg","pick"]:List Str))
 | _=>false
def ppD:Nat->D->Bool
 | 0,_=>false
 | n+1,d=>cQ d || (cI d && (!iN d && ((bZ d).map (ppD n)).all id))
def Rpp (n:Nat) (ds:List D) (d:D):Prop:=∃ x,ds=[x,.int (4 - (n:Int))]/\d=.bl (ppD n x)
def z5:Nat->List D->D->Prop
 | 0=>λ_ _=>False
 | n+1=>Rpp n
variable {n:Nat}
theorem fg (T:Txt P w K mg) (KN:FnOk P w K mg base CX0 k T.Il T.Iw ["thing"] (spD K zZ)) (JL:FnOk P w K mg base CX0 k T.Hl T.Ho ["thing"] (spD K vp)) (Fc:FnOk P w K mg base CX0 k T.D3 T.D6 ["tree"] (spD K fX)) (F8:FnOk P w K mg base CX0 k T.Dj T.Dk ["thing","deep"] (spD K (z5 n))):FnOk P w K mg base CX0 (k+1) T.Dj T.Dk ["thing","deep"] (spD K (Rpp n)):=by
 refine T.Ew.ok sc_is_pattern_part (λvs H Q E h=>?_) (λcdv A outer s H vs Q E hr h=>?_)
 ·obtain ⟨ds,d,hd,⟨x,rfl,rfl⟩,_⟩:=h;exact hd.length.symm
 have nd:=sc_is_pattern_part.nd
 obtain ⟨ds,d,hd,⟨x,rfl,rfl⟩,post⟩:=h
 obtain ⟨v0,v1,rfl,h0,h1⟩:=eK hd
 refine ⟨_,(aj (aZ (aH mO (pv 1) (aQ (v:=.int 3) rfl T.Do ⟨_,rfl⟩) (aN _)) (au (aG cf)) aK)
 (aj (aZ (bh (aF KN hr rfl T.Kh T.Jj.kp (t8 T) .nil aY (ag (pv 0) af)) (λ_=>rfl)) (au (aG cf)) aK)
 (aj (aZ (PW.pt (dR (bV (bh (aF JL hr rfl T.JO T.IA.kp (mx T) .nil aY (ag (pv 0) af)) (λ_=>rfl))) (du (aH eY (aV aS (pv 0) ao (λ_ _=>rfl)) (ay (ag az (ag az af))) (by with_unfolding_all rfl))))) (au (aG cf)) aK)
 (au (aG (aJ (iQ rfl) rfl T.Kx nB (ag (eE (own:=["within"]) (fr:=[1]) (N':=["within","deep"]) (jH (aF Fc hr rfl T.Gw T.EK.kp (fb T) .nil aY (ag (pv 0) af))) rfl (by show cK ["thing","deep"] (λx=>(aw cq).names.lookup x) _ _ _ _=true;decide +kernel) rfl (λ_ _ _ _ _=>(aM (i:=0) (by show List.Nodup [("within":Str),("deep":Str)];decide +kernel) rfl (Or.inl rfl))) (λ_ _ _ _ _=>cG) (λ_ _ _ _ _=>(aF F8 hr rfl T.Gv T.Ew.kp (fw T) .nil aY (ag (pv 0) (ag (bu cF (pv 1) ao) af))))) af))))))),?_⟩
 cases n with
 | zero =>
  refine aE (K:=K) (b:=true) (RT.as (aB (bK (p:=λi j=>decide (j < i)) (ae h1) aq)) rfl) (λc H1 s1=>?_) (λc=>nomatch c)
  exact aU (K:=K) (d:=.bl false) cR λv H' s q=>post v H' (s1.trans s) q
 | succ n =>
  refine aE (K:=K) (b:=false) (RT.as (aB (bK (p:=λi j=>decide (j < i)) (ae h1) aq)) (decide_eq_false (by omega))) (λc=>nomatch c) (λc H1 s1=>?_)
  have h0:=s1.dat h0
  have h1:=s1.dat h1
  refine aE (K:=K) (b:=cQ x) (aW (aR (aa (ae h0) ah) ⟨x,rfl,rfl⟩)) (λc H2 s2=>?_) (λc H2 s2=>?_)
  ·refine aU (K:=K) (d:=.bl true) cR λv H' s q=>post v H' (s1.trans (s2.trans s)) ?_
   have e:ppD (n+1) x=true:=by unfold ppD;rw [c];rfl
   rw [e]
   exact q
  have h0:=s2.dat h0
  have h1:=s2.dat h1
  have e1:ppD (n+1) x=(cI x && (!iN x && ((bZ x).map (ppD n)).all id)):=by
   show (cQ x || _)=_
   rw [c,Bool.false_or]
  cases hn:cI x with
  | false =>
   refine aE (K:=K) (b:=true) (RT.as (bY (b:=true) (c:=true) (RT.as (bw (aW (aR (aa (ae h0) ah) ⟨x,rfl,rfl⟩))) (by rw [hn];rfl)) λc=>nomatch c) rfl) (λc H3 s3=>?_) (λc=>nomatch c)
   refine aU (K:=K) (d:=.bl false) cR λv H' s q=>post v H' (s1.trans (s2.trans (s3.trans s))) ?_
   rw [e1,hn]
   exact q
  | true =>
   obtain ⟨kd,r,ek⟩:=kW hn
   have few:=kP hn
   have h0':Dat K H2 (.tup (.str kd::r)) v0:=by rw [← ek];exact h0
   refine aE (K:=K) (b:=iN x) (RT.as (bY (b:=false) (RT.as (bw (aW (aR (aa (ae h0) ah) ⟨x,rfl,rfl⟩))) (by rw [hn];rfl)) λ_=>aB (lI (ys:=["arg","pick"]) (ba (k:=0) (ae h0') aq rfl) (aA (aa ax (aa ax ah))))) (by rw [ek];exact Bool.false_or _)) (λc3 H3 s3=>?_) (λc3 H3 s3=>?_)
   ·refine aU (K:=K) (d:=.bl false) cR λv H' s q=>post v H' (s1.trans (s2.trans (s3.trans s))) ?_
    rw [e1,hn,c3]
    exact q
   ·have h1:=s3.dat h1
    refine aU (K:=K) (d:=.bl (((bZ x).map (ppD n)).all id)) (kl (rL (cs:=bZ x) (aR (R:=fX) (aa (ae (s3.dat h0)) ah) ⟨kd,r,by rw [ek],by rw [ek]⟩) (by omega) _ (by simp) rfl (λH4 i z vz d s4 hz hi hvz=>?_))) λv H' s q=>post v H' (s1.trans (s2.trans (s3.trans s))) ?_
    ·rw [List.getElem?_map,List.getElem?_map,hz] at hi
     cases hi
     exact aR (E:=E0) (R:=Rpp n) (aa (ae hvz) (aa (RE.as (cm (ae (s4.dat h1)) aq) (congrArg D.int (by omega:(4:Int) - ((n+1:Nat):Int)+1=4 - (n:Int)))) ah)) ⟨z,rfl,rfl⟩
    ·rw [e1,hn,c3]
     exact q
def jy (k:Str):D->Bool
 | .tup (.str h::_)=>decide (h=k)
 | _=>false
def bI:Nat->Str->D->List D
 | 0,_,_=>[]
 | n+1,k,d=>if jy k d=true then [d] else (bZ d).flatMap (bI n k)
def eO (n:Nat) (ds es:List D):Prop:=∃ x k,ds=[x,.str k]/\n≤3/\ppD n x=true/\es=bI n k x
theorem pB (h:cQ d=true):∃ k r,d=.tup (.str k::r):=by
 unfold cQ at h
 split at h
 ·exact ⟨_,_,rfl⟩
 ·cases h
variable {r:List D}
theorem wO {k:Str} (h:cQ (.tup (.str k::r))=true):k="hole"\/k="gap"\/k="slot":=by
 rw [gI,Bool.and_eq_true] at h
 have hl:=of_decide_eq_true h.1
 unfold jQ at hl
 by_cases h1:k="hole"
 ·exact .inl h1
 by_cases h2:k="gap"
 ·exact .inr (.inl h2)
 by_cases h3:k="slot"
 ·exact .inr (.inr h3)
 have e:KTD.datumAt k TM=none:=by simp [TM,KTD.datumAt,h1,h2,h3]
 rw [e] at hl
 dsimp only at hl
 omega
theorem lR {k:Str} (h:k="hole"\/k="gap"\/k="slot"):KTD.inKeys k TB=false/\KTD.inKeys k TL=false:=by
 rcases h with rfl | rfl | rfl <;> decide +kernel
theorem uz (h:cQ d=true):bZ d=[]:=by
 obtain ⟨k,r,rfl⟩:=pB h
 exact uv (lR (wO h)).1
theorem rF (h:ppD n d=true):∃ k r,d=.tup (.str k::r):=by
 cases n with
 | zero=>cases h
 | succ n =>
  have h':(cQ d || (cI d && (!iN d && ((bZ d).map (ppD n)).all id)))=true:=h
  rw [Bool.or_eq_true] at h'
  rcases h' with h' | h'
  ·exact pB h'
  ·rw [Bool.and_eq_true] at h'
   exact kW h'.1
theorem n6 (h:ppD (n+1) d=true):(bZ d).length≤3/\∀ c ∈ bZ d,ppD n c=true:=by
 have h':(cQ d || (cI d && (!iN d && ((bZ d).map (ppD n)).all id)))=true:=h
 rw [Bool.or_eq_true] at h'
 rcases h' with h' | h'
 ·rw [uz h']
  exact ⟨by simp,λc hc=>absurd hc (by simp)⟩
 ·rw [Bool.and_eq_true,Bool.and_eq_true] at h'
  refine ⟨kP h'.1,λc hc=>?_⟩
  have z:=List.all_eq_true.mp h'.2.2 (ppD n c) (List.mem_map.mpr ⟨c,hc,rfl⟩)
  exact z
theorem sW {α β:Type} (f:α->List β) (m:Nat):∀ l:List α,(∀ x ∈ l,(f x).length≤m)->(l.flatMap f).length≤l.length * m
 | [],_=>by simp
 | x::l,h=>by
  have h1:=h x (by simp)
  have h2:=sW f m l λy hy=>h y (by simp [hy])
  rw [List.flatMap_cons,List.length_append,List.length_cons,Nat.succ_mul]
  omega
theorem fO (k:Str):∀ (n:Nat) (d:D),ppD n d=true->(bI n k d).length≤3 ^ n
 | 0,d,h=>by cases h
 | n+1,d,h=>by
  unfold bI
  split
  ·have:1≤3 ^ (n+1):=Nat.one_le_iff_ne_zero.mpr (by simp)
   simpa using this
  ·obtain ⟨h1,h2⟩:=n6 h
   have z:=sW (bI n k) (3 ^ n) (bZ d) λc hc=>fO k n c (h2 c hc)
   have z2:(bZ d).length * 3 ^ n≤3 * 3 ^ n:=Nat.mul_le_mul_right _ h1
   rw [Nat.pow_succ,Nat.mul_comm (3 ^ n) 3]
   omega
theorem p3 (h:n≤3):3 ^ n≤27:=by
 match n,h with
 | 0,_=>decide
 | 1,_=>decide
 | 2,_=>decide
 | 3,_=>decide
theorem pM (T:Txt P w K mg) (Fc:FnOk P w K mg base CX0 k T.D3 T.D6 ["tree"] (spD K fX)) (EW:FnOk P w K mg base CX0 k T.EX T.EY ["pattern","kind"] (mr K (eO n))):FnOk P w K mg base CX0 (k+1) T.EX T.EY ["pattern","kind"] (mr K (eO (n+1))):=by
 refine T.E3.ok sc_marks_in (λvs H Q E h=>?_) (λcdv A outer s H vs Q E hr h=>?_)
 ·obtain ⟨ds,es,hd,⟨x,kk,rfl,_⟩,_⟩:=h;exact hd.length.symm
 have nd:=sc_marks_in.nd
 obtain ⟨ds,es,hd,⟨x,kk,rfl,hn3,hp,rfl⟩,post⟩:=h
 obtain ⟨v0,v1,rfl,h0,h1⟩:=eK hd
 refine ⟨_,(aj (aZ (aH b0 (aV aS (pv 0) ao (λ_ _=>rfl)) (pv 1) (aN _)) (au (aG (bp (ag (pv 0) af)))) aK)
 (aj (bq (i:=2) nd rfl (Or.inl rfl) (bp af))
 (aj (gd PassesOwn.never rfl (jH (aF Fc hr rfl T.Gw T.EK.kp (fb T) .nil aY (ag (pv 0) af))) (aM (i:=3) nd rfl (Or.inl rfl)) (au (aX (cy PySem.F.plainAttrs_list PySem.F.slot_list_extend PySem.F.type_list_extend bx (pv 2) (ag (aF EW hr rfl T.FZ T.E3.kp (dX T) .nil aY (ag (pv 3) (ag (pv 1) af))) af)))))
 (au (aG (pv 2)))))),?_⟩
 obtain ⟨kd,r,ek⟩:=rF hp
 have h0':Dat K H (.tup (.str kd::r)) v0:=by rw [← ek];exact h0
 have eh:jy kk x=decide (kd=kk):=by rw [ek];rfl
 obtain ⟨few,kok⟩:=n6 hp
 have cap:=fO kk (n+1) x hp
 have cap3:=p3 hn3
 refine aE (K:=K) (b:=jy kk x) (RT.as (aB (bg (ba (k:=0) (ae h0') aq rfl) (ae h1))) eh.symm) (λc H1 s1=>?_) (λc H1 s1=>?_)
 ·refine Aw ((iJ (K:=K) (es:=[x]) (aa (ae (s1.dat h0)) ah)).use λl ys H2 hl s2 hy hd2=>?_)
  refine post l ys H2 (s1.trans s2) hy (s1.free hl) ?_
  unfold bI
  rw [if_pos c]
  exact hd2
 have em:bI (n+1) kk x=(bZ x).flatMap (bI n kk):=by
  show (if jy kk x=true then _ else _)=_
  rw [if_neg (by rw [c];exact Bool.false_ne_true)]
 rw [em] at cap post
 have h0:=s1.dat h0
 have h1:=s1.dat h1
 have hk1:=h1.strE
 refine ji (K:=K) (es:=[]) (iJ ah) λwl ys0 H2 hw s2 hy0 hd0=>?_
 have hw0:H wl=none:=s1.free hw
 refine dI (RE.use (aR (R:=fX) (d:=.tup (bZ x)) (aa (ae (K:=K) (k:=0) (s2.dat h0)) ah) ⟨kd,r,by rw [ek],by rw [ek]⟩) λv4 H4 s4 q4=>?_)
 obtain ⟨a,vs,ea,hq,hds⟩:=q4.tupE
 subst ea
 have hl:=hds.length
 refine ⟨a,rfl,⟨vs,hq⟩,yD (xs:=vs) (λi σ G=>∃ (z:Option V) (ys:List V),σ=[some v0,some v1,some (.ref wl),z]/\Same H G/\SqT K G a vs/\Dats K G (bZ x) vs/\G wl=some (.lst ys)/\Dats K G (((bZ x).take i).flatMap (bI n kk)) ys) ?_ (λi σ G _ ⟨z,ys,_,_,p,_⟩=>p) ?_ ?_⟩
 ·exact ⟨none,ys0,rfl,s1.trans (s2.trans s4),hq,hds,s4 _ _ hy0,s4.dats hd0⟩
 ·rintro i vx σ G hi ⟨z,ys,rfl,sG,hqG,hdG,hwG,hyG⟩
  obtain ⟨dx,ex,hx⟩:=hdG.getV hi
  have hpx:=kok dx (List.mem_of_getElem? ex)
  subst hk1
  refine ⟨_,rfl,.inl ⟨rfl,_,SqL.of hwG⟩,_,rfl,_,rfl,[dx,.str kk],_,(Dats.cons hx (Dats.cons (Dat.strI _) Dats.nil):Dats K G [dx,.str kk] [vx,.str kk]),⟨dx,kk,rfl,by omega,hpx,rfl⟩,λr us H5 s5 hr5 _ hd5=>?_⟩
  have hw5:=s5 _ _ hwG
  have b6:But wl H5 (upd H5 wl (.lst (ys++us))):=But.upd (Same.refl H5).but
  have g6:cT K H5 (upd H5 wl (.lst (ys++us))):=b6.grow hw5 av
  have et:((bZ x).take (i+1)).flatMap (bI n kk)=((bZ x).take i).flatMap (bI n kk)++bI n kk dx:=by
   rw [List.take_add_one,ex]
   simp
  have lt:(((bZ x).take (i+1)).flatMap (bI n kk)).length≤27:=by
   have e2:((bZ x).take (i+1)).flatMap (bI n kk)++((bZ x).drop (i+1)).flatMap (bI n kk)=(bZ x).flatMap (bI n kk):=by
    rw [← List.flatMap_append,List.take_append_drop]
   have:=congrArg List.length e2
   rw [List.length_append] at this
   omega
  have ly:=hyG.length
  have lu:=hd5.length
  rw [et,List.length_append] at lt
  refine ⟨wl,r,ys,us,rfl,rfl,hw5,hr5,eM (by omega),some vx,ys++us,rfl,λb o hb=>b6 b o (aI hb hw0) (s5 _ _ (sG _ _ hb)),g6.tup _ _ (s5.sqT hqG),Dats.mono g6 _ (s5.dats hdG),av,?_⟩
  rw [et]
  exact Dats.append (Dats.mono g6 _ (s5.dats hyG)) (Dats.mono g6 _ hd5)
 ·rintro σ G ⟨z,ys,rfl,sG,hqG,hdG,hwG,hyG⟩
  refine ⟨_,rfl,post wl ys G sG hwG hw0 ?_⟩
  rw [← hl,List.take_length] at hyG
  exact hyG
def BH:D->D
 | .tup (_::y::_)=>y
 | _=>.non
theorem qY {k:Str} (h:cQ (.tup (.str k::r))=true):∃ i r',r=.int i::r':=by
 rw [gI,Bool.and_eq_true,Bool.and_eq_true] at h
 have hw:=h.2.1
 cases r with
 | nil=>cases hw
 | cons y r' =>
  have hw':bO y 0 1=true:=hw
  cases y with
  | int i=>exact ⟨i,r',rfl⟩
  | _=>cases hw'
theorem gJ {k:Str} (hk:k="hole"\/k="gap"\/k="slot"):∀ (n:Nat) (x m:D),ppD n x=true->m ∈ bI n k x->∃ i r,m=.tup (.str k::.int i::r)
 | 0,x,m,h,_=>by cases h
 | n+1,x,m,h,hm=>by
  unfold bI at hm
  split at hm
  ·rename_i hh
   have e:m=x:=by simpa using hm
   subst e
   obtain ⟨k',r,rfl⟩:=rF h
   have ek:k'=k:=of_decide_eq_true hh
   subst ek
   have h':(cQ (.tup (.str k'::r)) || (cI (.tup (.str k'::r)) && _))=true:=h
   rw [Bool.or_eq_true] at h'
   rcases h' with h' | h'
   ·obtain ⟨i,r',rfl⟩:=qY h'
    exact ⟨i,r',rfl⟩
   ·rw [Bool.and_eq_true] at h'
    have z:=h'.1
    rw [wW (lR hk).2,(lR hk).1,Bool.false_and] at z
    cases z
  ·obtain ⟨c,hc,hm'⟩:=List.mem_flatMap.mp hm
   exact gJ hk n c m ((n6 h).2 c hc) hm'
def yT (k:Str) (x:D):Bool:=eqDs ((bI 3 k x).map BH) ((List.range (bI 3 k x).length).map λi:Nat=>D.int i)
def AK (ds:List D) (d:D):Prop:=∃ x k,ds=[x,.str k]/\ppD 3 x=true/\(k="hole"\/k="gap"\/k="slot")/\d=.bl (yT k x)
variable {σ:L2.St} {ys:List V}
theorem zG {K:PySem.W.Frag} {k:Nat} {l:Addr} (hl:H l=some (.lst ys)) (e:σ[k]?=some (some (.ref l)):=by rfl):RE K (tCB (λxs H Q=>∃ p ys,xs=[.ref p]/\(SqL K H p ys\/SqT K H p ys)/\Q (.int ys.length) H) (bj (cx k) ck)) σ H (.int ys.length):=λH1 s Q q =>
 ⟨.ref l,e,l,ys,rfl,.inl (SqL.of (s _ _ hl)),q _ _ (Same.refl _) (Dat.intI _)⟩
theorem kU {l:List D} (h:∀ d ∈ l,∃ i,d=.int i):noLs l=true/\deepDs l=0:=by
 induction l with
 | nil=>exact ⟨by unfold noLs;rfl,by unfold deepDs;rfl⟩
 | cons d l ih =>
  obtain ⟨i,rfl⟩:=h d (by simp)
  obtain ⟨h1,h2⟩:=ih λd hd=>h d (by simp [hd])
  refine ⟨?_,?_⟩
  ·unfold noLs;rw [h1];unfold noL;rfl
  ·unfold deepDs;rw [h2];unfold fe;rfl
theorem lh (T:Txt P w K mg) (EW:FnOk P w K mg base CX0 k T.EX T.EY ["pattern","kind"] (mr K (eO 3))):FnOk P w K mg base CX0 (k+1) T.FL T.FP ["pattern","kind"] (spD K AK):=by
 refine T.GI.ok sc_is_numbered (λvs H Q E h=>?_) (λcdv A outer s H vs Q E hr h=>?_)
 ·obtain ⟨ds,d,hd,⟨x,kk,rfl,_⟩,_⟩:=h;exact hd.length.symm
 have nd:=sc_is_numbered.nd
 obtain ⟨ds,d,hd,⟨x,kk,rfl,hp,hk,rfl⟩,post⟩:=h
 obtain ⟨v0,v1,rfl,h0,h1⟩:=eK hd
 refine ⟨_,(aj (lE (i:=2) (own:=["mark"]) (fr:=[]) (N':=["mark"]) (di (aF EW hr rfl T.FZ T.E3.kp (dX T) .nil aY (ag (pv 0) (ag (pv 1) af)))) rfl (by show cK ["pattern","kind","numbers"] (λx=>(aw cY).names.lookup x) _ _ _ _=true;decide +kernel) rfl (λ_ _ _ _ _=>(aM (i:=0) (by show List.Nodup [("mark":Str)];decide +kernel) rfl (Or.inl rfl))) (λ_ _ _ _ _=>cG) (λ_ _ _ _ _=>(aV (r:=xn K) aS (pv 0) ao (λ_ _=>rfl))) nd rfl rfl rfl)
 (au (aG (eB (nV hr) (pv 2) (bP (ef rfl) rfl T.Jv gX (ag (bP iS rfl T.Ie iP (ag (aJ aP rfl T.EV bU (ag (pv 2) af)) af)) af)) (aN _))))),?_⟩
 have cap:=fO kk 3 x hp
 refine ji (K:=K) (es:=(bI 3 kk x).map BH) (zy (cs:=bI 3 kk x) (hE (R:=eO 3) (aa (ae h0) (aa (ae h1) ah)) ⟨x,kk,rfl,by decide,hp,rfl⟩) (Nat.le_trans cap (by decide)) _ (by simp) rfl (λH1 i c v d s1 hc hi hv=>?_)) λl ys H2 hl s2 hy hd2=>?_
 ·rw [List.getElem?_map,hc] at hi
  cases hi
  obtain ⟨j,r,rfl⟩:=gJ hk 3 x c hp (List.mem_of_getElem? hc)
  exact ba (k:=1) (ae hv) aq rfl
 have ll:=hd2.length
 rw [List.length_map] at ll
 refine ⟨_,rfl,(gg (K:=K) (n:=ys.length) (zG (k:=2) hy) (by rw [← ll];exact Nat.le_trans cap (by decide))).use λl2 ys2 H3 hl2 s3 hy3 hd3=>?_⟩
 have i1:∀ d ∈ (bI 3 kk x).map BH,∃ i,d=.int i:=λd hdm=>by
  obtain ⟨m,hm,rfl⟩:=List.mem_map.mp hdm
  obtain ⟨j,r,rfl⟩:=gJ hk 3 x m hp hm
  exact ⟨j,rfl⟩
 have i2:∀ d ∈ (List.range ys.length).map (λi:Nat=>D.int i),∃ i,d=.int i:=λd hdm=>by
  obtain ⟨m,hm,rfl⟩:=List.mem_map.mp hdm
  exact ⟨_,rfl⟩
 refine ⟨l,l2,ys,ys2,_,_,rfl,rfl,SqL.of (s3 _ _ hy),SqL.of hy3,s3.dats hd2,hd3,(kU i1).1,(kU i2).1,by rw [(kU i1).2];decide,?_⟩
 refine post _ _ (s2.trans s3) ?_
 unfold yT
 rw [ll]
 exact Dat.blI _
def n5 (x:D):Bool:=ppD 3 x && (!jy "hole" x && ((["hole","gap","slot"]:List Str).map λk=>yT k x).all id)
def AL (ds:List D) (d:D):Prop:=∃ x,ds=[x]/\d=.bl (n5 x)
theorem mj (T:Txt P w K mg) (F8:FnOk P w K mg base CX0 k T.Dj T.Dk ["thing","deep"] (spD K (Rpp 3))) (Kd:FnOk P w K mg base CX0 k T.FL T.FP ["pattern","kind"] (spD K AK)):FnOk P w K mg base CX0 (k+1) T.Gh T.Gq ["thing"] (spD K AL):=by
 refine T.Hi.ok sc_is_pattern (λvs H Q E h=>?_) (λcdv A outer s H vs Q E hr h=>?_)
 ·obtain ⟨ds,d,hd,⟨x,rfl,rfl⟩,_⟩:=h;exact hd.length.symm
 have nd:=sc_is_pattern.nd
 obtain ⟨ds,d,hd,⟨x,rfl,rfl⟩,post⟩:=h
 obtain ⟨v0,rfl,h0⟩:=dQ hd
 refine ⟨_,(aj (aZ (PW.pt (dR (bV (bh (aF F8 hr rfl T.Gv T.Ew.kp (fw T) .nil aY (ag (pv 0) (ag ao af))) (λ_=>rfl))) (du (aH b0 (aV aS (pv 0) ao (λ_ _=>rfl)) az (aN _))))) (au (aG cf)) aK)
 (au (aG (aJ (iQ rfl) rfl T.Kx nB (ag (eE (own:=["kind"]) (fr:=[0]) (N':=["kind","thing"]) (Bq (aQ (v:=.ref T.D0) rfl T.Dy rfl)) rfl (by show cK ["thing"] (λx=>(aw dM).names.lookup x) _ _ _ _=true;decide +kernel) rfl (λ_ _ _ _ _=>(aM (i:=0) (by show List.Nodup [("kind":Str),("thing":Str)];decide +kernel) rfl (Or.inl rfl))) (λ_ _ _ _ _=>cG) (λ_ _ _ _ _=>(aF Kd hr rfl T.Jq T.GI.kp (lX T) .nil aY (ag (pv 1) (ag (pv 0) af))))) af))))),?_⟩
 cases hp:ppD 3 x with
 | false =>
  refine aE (K:=K) (b:=true) (RT.as (bY (b:=true) (c:=true) (RT.as (bw (aW (aR (R:=Rpp 3) (aa (ae h0) (aa aq ah)) ⟨x,rfl,rfl⟩))) (by rw [hp];rfl)) λc=>nomatch c) rfl) (λc H3 s3=>?_) (λc=>nomatch c)
  refine aU (K:=K) (d:=.bl false) cR λv H' s q=>post v H' (s3.trans s) ?_
  unfold n5
  rw [hp]
  exact q
 | true =>
  obtain ⟨kd,r,ek⟩:=rF hp
  have h0':Dat K H (.tup (.str kd::r)) v0:=by rw [← ek];exact h0
  refine aE (K:=K) (b:=jy "hole" x) (RT.as (bY (b:=false) (RT.as (bw (aW (aR (R:=Rpp 3) (aa (ae h0) (aa aq ah)) ⟨x,rfl,rfl⟩))) (by rw [hp];rfl)) λ_=>aB (bg (ba (k:=0) (ae h0') aq rfl) ax)) (by rw [ek];exact Bool.false_or _)) (λc H1 s1=>?_) (λc H1 s1=>?_)
  ·refine aU (K:=K) (d:=.bl false) cR λv H' s q=>post v H' (s1.trans s) ?_
   unfold n5
   rw [hp,c]
   exact q
  ·refine aU (K:=K) (d:=.bl (((["hole","gap","slot"]:List Str).map λk=>yT k x).all id)) (kl (BB T.Jd (by decide) _ rfl rfl (λH2 i kk d s2 hk hi=>?_))) λv H' s q=>post v H' (s1.trans s) ?_
   ·rw [List.getElem?_map,List.getElem?_map,hk] at hi
    cases hi
    refine aR (E:=E0) (R:=AK) (aa (ae (s2.dat (s1.dat h0))) (aa (ae (Dat.strI kk)) ah)) ⟨x,kk,rfl,hp,?_,rfl⟩
    have:=List.mem_of_getElem? hk
    simpa using this
   ·unfold n5
    rw [hp,c]
    exact q
def m4 (k:Str) (T:List (Str × KTD.Dat)):Str:=match KTD.datumAt k T with | some (.flat (.str z))=>z | _=>""
theorem AN {k:Str} (h:KTD.inKeys k TF=true):KTD.datumAt k TF=some (.flat (.str (m4 k TF))):=by
 unfold m4
 by_cases h1:k="low"
 ·subst h1;rfl
 by_cases h2:k="high"
 ·subst h2;rfl
 by_cases h3:k="arg"
 ·subst h3;rfl
 have e:KTD.inKeys k TF=false:=by simp [TF,KTD.inKeys,h1,h2,h3]
 rw [e] at h
 cases h
def kH (p:D):D->Bool
 | .tup (.str k::r)=>decide ((r.length:Int)+1=2) && (KTD.inKeys k TF && bO (r.getD 0 .non) 0 (((bI 3 (m4 k TF) p).length:Int) - 1))
 | _=>false
theorem pd (p:D) (k:Str) (r:List D):kH p (.tup (.str k::r))=(decide ((r.length:Int)+1=2) && (KTD.inKeys k TF && bO (r.getD 0 .non) 0 (((bI 3 (m4 k TF) p).length:Int) - 1))):=rfl
def vk (ds:List D) (d:D):Prop:=∃ x p,ds=[x,p]/\ppD 3 p=true/\d=.bl (kH p x)
theorem yC {p:D} (h:cJ x=false):kH p x=false:=by
 unfold cJ at h
 unfold kH
 split at h
 ·cases h
 ·rename_i hn
  first
   | rfl
   | (split
      ·rename_i k r;exact absurd rfl (hn k r)
      ·rfl)
theorem mh (T:Txt P w K mg) (GL:FnOk P w K mg base CX0 k T.Fi T.Fp ["thing"] (spD K kg)) (EW:FnOk P w K mg base CX0 k T.EX T.EY ["pattern","kind"] (mr K (eO 3))) (DF:FnOk P w K mg base CX0 k T.Ey T.Ez ["thing","low","high"] (spD K dS)):FnOk P w K mg base CX0 (k+1) T.Gg T.Gp ["thing","pattern"] (spD K vk):=by
 refine T.Hh.ok sc_is_filling (λvs H Q E h=>?_) (λcdv A outer s H vs Q E hr h=>?_)
 ·obtain ⟨ds,d,hd,⟨x,p,rfl,_⟩,_⟩:=h;exact hd.length.symm
 have nd:=sc_is_filling.nd
 obtain ⟨ds,d,hd,⟨x,p,rfl,hp,rfl⟩,post⟩:=h
 obtain ⟨v0,v1,rfl,h0,h1⟩:=eK hd
 refine ⟨_,(aj (aZ (PW.pt (dR (bV (bh (aF GL hr rfl T.Ic T.F1.kp (gC T) .nil aY (ag (pv 0) af)) (λ_=>rfl))) (dR (aH lB (aJ aP rfl T.EV bU (ag (pv 0) af)) ao (aN _)) (du (aH pP (aV aS (pv 0) ao (λ_ _=>rfl)) (aQ (v:=.ref T.FH) rfl T.EB rfl) (by with_unfolding_all rfl)))))) (au (aG cf)) aK)
 (au (aG (aF DF hr rfl T.Fv T.EA.kp (dm T) .nil aY (ag (aV aS (pv 0) ao (λ_ _=>rfl)) (ag ao (ag (bu w4 (aJ aP rfl T.EV bU (ag (aF EW hr rfl T.FZ T.E3.kp (dX T) .nil aY (ag (pv 1) (ag (aV yL (aQ (v:=.ref T.FH) rfl T.EB rfl) (aV aS (pv 0) ao (λ_ _=>rfl)) (λ_ _=>rfl)) af))) af)) ao) af))))))),?_⟩
 cases ht:cJ x with
 | false =>
  refine aE (K:=K) (b:=true) ?_ (λc H1 s1=>?_) (λc=>nomatch c)
  ·exact RT.as (bY (b:=true) (c:=true) (RT.as (bw (aW (aR (aa (ae h0) ah) ⟨x,rfl,rfl⟩))) (by rw [ht];rfl)) λc=>nomatch c) rfl
  ·refine aU (K:=K) (d:=.bl (kH p x)) ?_ λv H' s q=>post v H' (s1.trans s) q
   rw [yC ht]
   exact cR
 | true =>
  have ht':=ht
  unfold cJ at ht'
  split at ht'
  ·rename_i kd r
   have el:((((D.str kd)::r).length:Nat):Int)=(r.length:Int)+1:=by rw [List.length_cons];omega
   have b1:=gS (K:=K) (bW (ae (σ:=cS ["thing","pattern"] [v0,v1]) (k:=0) h0)) (aq (i:=2))
   rw [el] at b1
   refine aE (K:=K) (b:=!decide ((r.length:Int)+1=2) || !KTD.inKeys kd TF) (RT.as (bY (b:=false) (RT.as (bw (aW (aR (aa (ae h0) ah) ⟨_,rfl,rfl⟩))) (by rw [ht];rfl)) λ_=>bY (aB b1) λ_=>aB (p4 (ba (k:=0) (ae h0) aq rfl) T.EC)) (Bool.false_or _)) (λc H1 s1=>?_) (λc H1 s1=>?_)
   ·refine aU (K:=K) (d:=.bl false) cR λv H' s q=>post v H' (s1.trans s) ?_
    have e:kH p (.tup (.str kd::r))=false:=by
     rw [pd]
     cases h2:decide ((r.length:Int)+1=2) with
     | false=>rfl
     | true =>
      rw [h2] at c
      have h3:KTD.inKeys kd TF=false:=jw c
      rw [h3]
      rfl
    rw [e]
    exact q
   ·rw [Bool.or_eq_false_iff] at c
    have c1:=fZ c.1
    have c2:=fZ c.2
    obtain ⟨y,er⟩:∃ y,r=[y]:=by
     match r,of_decide_eq_true c1 with
     | [],h=>simp at h
     | [y],_=>exact ⟨y,rfl⟩
     | _::_::_,h=>simp at h;omega
    subst er
    have h0:=s1.dat h0
    have h1:=s1.dat h1
    refine aU (K:=K) (d:=.bl (bO y 0 (((bI 3 (m4 kd TF) p).length:Int) - 1))) (aR (R:=dS) (aa (ba (k:=1) (ae h0) aq rfl) (aa aq (aa (xI (zE (hE (R:=eO 3) (aa (ae h1) (aa (uN (ba (k:=0) (ae h0) aq rfl) T.EC (by rfl) (AN c2)) ah)) ⟨p,m4 kd TF,rfl,by decide,hp,rfl⟩)) aq) ah))) ⟨y,0,_,rfl,rfl⟩) λv H' s q=>post v H' (s1.trans s) ?_
    rw [pd,c1,c2]
    exact q
  ·cases ht'
def oX (p x:D):Bool:=bO x 0 99 || kH p x
def vj (ds:List D) (d:D):Prop:=∃ x p,ds=[x,p]/\ppD 3 p=true/\d=.bl (oX p x)
theorem rj (T:Txt P w K mg) (DF:FnOk P w K mg base CX0 k T.Ey T.Ez ["thing","low","high"] (spD K dS)) (Kl:FnOk P w K mg base CX0 k T.Gg T.Gp ["thing","pattern"] (spD K vk)):FnOk P w K mg base CX0 (k+1) T.Ik T.Iv ["thing","pattern"] (spD K vj):=by
 refine T.Ji.ok sc_is_cell (λvs H Q E h=>?_) (λcdv A outer s H vs Q E hr h=>?_)
 ·obtain ⟨ds,d,hd,⟨x,p,rfl,_⟩,_⟩:=h;exact hd.length.symm
 have nd:=sc_is_cell.nd
 obtain ⟨ds,d,hd,⟨x,p,rfl,hp,rfl⟩,post⟩:=h
 obtain ⟨v0,v1,rfl,h0,h1⟩:=eK hd
 refine ⟨_,(au (aG (Am (aF DF hr rfl T.Fv T.EA.kp (dm T) .nil aY (ag (pv 0) (ag ao (ag (aQ (v:=.int 99) rfl T.Fu ⟨_,rfl⟩) af)))) (gR (aF Kl hr rfl T.JF T.Hh.kp (nj T) .nil aY (ag (pv 0) (ag (pv 1) af))))))),?_⟩
 exact aU (K:=K) (d:=.bl (oX p x)) (Au (aR (R:=dS) (aa (ae h0) (aa aq (aa aq ah))) ⟨x,0,99,rfl,rfl⟩) λ_=>aR (R:=vk) (aa (ae h0) (aa (ae h1) ah)) ⟨x,p,rfl,hp,rfl⟩) post
abbrev NM:List Str:=["end","put","far","load","add","sub","mul","less","skip","jump","zero","none","more","twice","about","call","back"]
def cH (i:Int):Nat:=if i ∈ ([2,9,11,15]:List Int) then 2 else if i ∈ ([1,3,8,10,12]:List Int) then 1 else 0
structure okC (cs:List Int):Prop where
 l0:1≤cs.length
 l1:cs.length≤900
 c:∀ (i:Nat) (c:Int),cs[i]?=some c->0≤c/\c≤99
abbrev cD (cs:List Int):List D:=cs.map D.int
def iC (cs:List Int) (p m:Nat):List D:=((cD cs).drop (p+1)).take m
def nmC (c:Int):Str:=NM.getD c.toNat ""
def nv (cs:List Int) (p:Nat) (c:Int):Bool:=decide (16 < c) || decide (cs.length≤p+cH c)
theorem tf:∀ i:Nat,i < 17->INS[i]?=some (.tup [.str (NM.getD i ""),.int ((cH i:Nat):Int)]):=by
 intro i hi
 match i,hi with
 | 0,_=>rfl
 | 1,_=>rfl
 | 2,_=>rfl
 | 3,_=>rfl
 | 4,_=>rfl
 | 5,_=>rfl
 | 6,_=>rfl
 | 7,_=>rfl
 | 8,_=>rfl
 | 9,_=>rfl
 | 10,_=>rfl
 | 11,_=>rfl
 | 12,_=>rfl
 | 13,_=>rfl
 | 14,_=>rfl
 | 15,_=>rfl
 | 16,_=>rfl
 | n+17,h=>omega
theorem yr (c:Int):cH c≤2:=by
 unfold cH
 split
 ·exact Nat.le_refl _
 ·split <;> omega
variable {cs:List Int} {p:Nat} {c:Int}
theorem Ad (h:cs[p]?=some c):(cD cs)[p]?=some (.int c):=by
 rw [List.getElem?_map,h]
 rfl
theorem kB {m:Nat}:(iC cs p m).length=min m (cs.length - (p+1)):=by
 unfold iC
 rw [List.length_take,List.length_drop,List.length_map]
theorem Ac (h:nv cs p c=false):c≤16/\p+cH c < cs.length:=by
 unfold nv at h
 rw [Bool.or_eq_false_iff] at h
 have h1:=of_decide_eq_false h.1
 have h2:=of_decide_eq_false h.2
 omega
theorem BY (h:nv cs p c=true):16 < c\/(c≤16/\cs.length≤p+cH c):=by
 unfold nv at h
 rw [Bool.or_eq_true] at h
 by_cases h16:16 < c
 ·exact .inl h16
 ·rcases h with h | h
  ·exact absurd (of_decide_eq_true h) h16
  ·exact .inr ⟨by omega,of_decide_eq_true h⟩
def sE (as:List Ar) (d:D):Prop:=∃ (cs:List Int) (p:Nat) (c:Int),as=[.l (cD cs),.d (.int p)]/\okC cs/\cs[p]?=some c/\nv cs p c=false/\d=.tup [.str (nmC c),.tup (iC cs p (cH c))]
def oS (cs:List Int) (p:Nat):Bool:=match cs[p]? with
 | none=>true
 | some c=>nv cs p c
def sv (N:Addr) (as:List Ar) (C:Addr) (i:Int):Prop:=∃ (cs:List Int) (p:Nat),as=[.l (cD cs),.d (.int p)]/\okC cs/\oS cs p=true/\C=N/\i=p
theorem i4 (T:Txt P w K mg) (C5:FnOk P w K mg base CX0 k T.Gu T.Fq ["self","place"] (dO T.C1 "place")):FnOk P w K mg base (CX2 P w) (k+1+1) T.Ds T.Du ["cells","place"] (r6 K "place" sE (sv T.C1)):=by
 refine T.DK.ok2 sc_instruction_at (λvs H Q E h=>?_) (λcdv A outer s H vs Q E hr h=>?_)
 ·obtain ⟨as,hd,h⟩:=h;rcases h with ⟨d,⟨cs,p,c,rfl,_⟩,_⟩ | ⟨C,i,⟨cs,p,rfl,_⟩,_⟩ <;> exact hd.length.symm
 have nd:=sc_instruction_at.nd
 obtain ⟨as,hd,h⟩:=h
 refine ⟨_,(aj (aZ (PW.pt (dR (aH pO (pv 1) (aJ aP rfl T.EV bU (ag (pv 0) af)) (aN _)) (du (aH pO (aV (ix_list.or aS) (pv 0) (pv 1) (λ_ _=>rfl)) (aJ aP rfl T.EV bU (ag (aQ (v:=.ref T.DZ) rfl T.Dl rfl) af)) (aN _))))) (au (cv T.Gi C5 (cV T) hr d9 rfl T.Eb (ag (pv 1) af))) aK)
 (aj (dY (aV aS (aQ (v:=.ref T.DZ) rfl T.Dl rfl) (aV (ix_list.or aS) (pv 0) (pv 1) (λ_ _=>rfl)) (λ_ _=>rfl)) (fj rfl (bf (aM (i:=2) nd rfl (Or.inl rfl)) (bf (aM (i:=3) nd rfl (Or.inl rfl)) dF))))
 (aj (bq (i:=4) nd rfl (Or.inl rfl) (bP cW rfl T.Hk eI (ag (lC (sl_list.or rZ) (pv 0) (jc (bu cF (pv 1) ao)) (jc (bu cF (bu cF (pv 1) ao) (pv 3)))) af)))
 (aj (aZ (aH lA (aJ aP rfl T.EV bU (ag (pv 4) af)) (pv 3) (aN _)) (au (cv T.Gi C5 (cV T) hr d9 rfl T.Eb (ag (pv 1) af))) aK)
 (au (aG (ay (ag (pv 2) (ag (pv 4) af))))))))),?_⟩
 rcases h with ⟨d,⟨cs,p,c,rfl,ok,hc,hb,rfl⟩,post⟩ | ⟨C,i,⟨cs,p,rfl,ok,hbp,rfl,rfl⟩,post⟩
 ·obtain ⟨v0,v1,rfl,h0,h1⟩:=vC hd
  have h0:LD K H (cD cs) v0:=h0
  have h1:Dat K H (.int (p:Int)) v1:=h1
  obtain rfl:=h1.intE
  have hp:p < cs.length:=(List.getElem?_eq_some_iff.mp hc).1
  obtain ⟨c0,c99⟩:=ok.c p c hc
  have ec:c=((c.toNat:Nat):Int):=by omega
  have hc':=Ad hc
  obtain ⟨h16,hlt⟩:=Ac hb
  have lb:(iC cs p (cH c)).length=cH c:=by rw [kB];omega
  refine aE (K:=K) (b:=false) (RT.as (bY (b:=false) (c:=false) (RT.as (aB (bK (p:=λi j=>decide (j≤i)) (ae h1) (fA (dH h0)))) (decide_eq_false (by rw [List.length_map];omega))) λ_=>RT.as (aB (bK (p:=λi j=>decide (j≤i)) (je (k:=p) (dH h0) (ae h1) hc') (bW (dZ T.C8)))) (decide_eq_false (by show ¬ (17:Int)≤c;omega))) rfl) (λc=>nomatch c) (λ_ H1 s1=>?_)
  have h0:=s1.ld h0
  have h1:=s1.dat h1
  have hi:=tf c.toNat (by omega)
  rw [← ec] at hi
  refine gh (K:=K) (d:=.str (nmC c)) (e:=.int (cH c)) (ba (k:=c.toNat) (dZ T.C8) (RE.as (je (k:=p) (dH h0) (ae h1) hc') (congrArg D.int ec)) hi) λv2 v3 H2 s2 h2 h3=>?_
  have h0:=s2.ld h0
  have h1:=s2.dat h1
  have el:(p:Int)+1=((p+1:Nat):Int):=by omega
  have eh:(p:Int)+1+(cH c:Int)=((p+1+cH c:Nat):Int):=by omega
  refine bD (K:=K) (d:=.tup (iC cs p (cH c))) (RE.as (mU (tN (lo:=p+1) (hi:=p+1+cH c) (dH h0) (RE.as (cm (ae h1) aq) (congrArg D.int el)) (RE.as (cm (cm (ae h1) aq) (ae h3)) (congrArg D.int eh)))) (by unfold iC;rw [show p+1+cH c - (p+1)=cH c by omega])) λv4 H3 s3 h4=>?_
  refine aE (K:=K) (b:=false) (RT.as (aB (bK (p:=λi j=>decide (i < j)) (bW (ae h4)) (ae (s3.dat h3)))) (decide_eq_false (by rw [lb];omega))) (λc=>nomatch c) (λ_ H4 s4=>?_)
  exact aU (K:=K) (d:=.tup [.str (nmC c),.tup (iC cs p (cH c))]) (aA (aa (ae (s4.dat (s3.dat h2))) (aa (ae (s4.dat h4)) ah))) λv H' s q=>post v H' (s1.trans (s2.trans (s3.trans (s4.trans s)))) q
 ·unfold oS at hbp
  split at hbp
  ·rename_i hn
   obtain ⟨v0,v1,rfl,h0,h1⟩:=vC hd
   have h0:LD K H (cD cs) v0:=h0
   have h1:Dat K H (.int (p:Int)) v1:=h1
   obtain rfl:=h1.intE
   have hp:cs.length≤p:=List.getElem?_eq_none_iff.mp hn
   refine aE (K:=K) (b:=true) (RT.as (bY (b:=true) (c:=true) (RT.as (aB (bK (p:=λi j=>decide (j≤i)) (ae h1) (fA (dH h0)))) (decide_eq_true (by rw [List.length_map];omega))) λz=>nomatch z) rfl) (λ_ H1 s1=>?_) (λc=>nomatch c)
   exact ⟨_,rfl,_,rfl,λdx n=>post _ dx (s1.trans (aC n _)) av⟩
  rename_i c hc
  have hb:=hbp
  obtain ⟨v0,v1,rfl,h0,h1⟩:=vC hd
  have h0:LD K H (cD cs) v0:=h0
  have h1:Dat K H (.int (p:Int)) v1:=h1
  obtain rfl:=h1.intE
  have hp:p < cs.length:=(List.getElem?_eq_some_iff.mp hc).1
  obtain ⟨c0,c99⟩:=ok.c p c hc
  have ec:c=((c.toNat:Nat):Int):=by omega
  have hc':=Ad hc
  rcases BY hb with h16 | ⟨h16,hlt⟩
  ·refine aE (K:=K) (b:=true) (RT.as (bY (b:=false) (c:=true) (RT.as (aB (bK (p:=λi j=>decide (j≤i)) (ae h1) (fA (dH h0)))) (decide_eq_false (by rw [List.length_map];omega))) λ_=>RT.as (aB (bK (p:=λi j=>decide (j≤i)) (je (k:=p) (dH h0) (ae h1) hc') (bW (dZ T.C8)))) (decide_eq_true (by show (17:Int)≤c;omega))) rfl) (λ_ H1 s1=>?_) (λc=>nomatch c)
   exact ⟨_,rfl,_,rfl,λdx n=>post _ dx (s1.trans (aC n _)) av⟩
  ·have lb:(iC cs p (cH c)).length < cH c:=by rw [kB];omega
   refine aE (K:=K) (b:=false) (RT.as (bY (b:=false) (c:=false) (RT.as (aB (bK (p:=λi j=>decide (j≤i)) (ae h1) (fA (dH h0)))) (decide_eq_false (by rw [List.length_map];omega))) λ_=>RT.as (aB (bK (p:=λi j=>decide (j≤i)) (je (k:=p) (dH h0) (ae h1) hc') (bW (dZ T.C8)))) (decide_eq_false (by show ¬ (17:Int)≤c;omega))) rfl) (λc=>nomatch c) (λ_ H1 s1=>?_)
   have h0:=s1.ld h0
   have h1:=s1.dat h1
   have hi:=tf c.toNat (by omega)
   rw [← ec] at hi
   refine gh (K:=K) (d:=.str (nmC c)) (e:=.int (cH c)) (ba (k:=c.toNat) (dZ T.C8) (RE.as (je (k:=p) (dH h0) (ae h1) hc') (congrArg D.int ec)) hi) λv2 v3 H2 s2 h2 h3=>?_
   have h0:=s2.ld h0
   have h1:=s2.dat h1
   have el:(p:Int)+1=((p+1:Nat):Int):=by omega
   have eh:(p:Int)+1+(cH c:Int)=((p+1+cH c:Nat):Int):=by omega
   refine bD (K:=K) (d:=.tup (iC cs p (cH c))) (RE.as (mU (tN (lo:=p+1) (hi:=p+1+cH c) (dH h0) (RE.as (cm (ae h1) aq) (congrArg D.int el)) (RE.as (cm (cm (ae h1) aq) (ae h3)) (congrArg D.int eh)))) (by unfold iC;rw [show p+1+cH c - (p+1)=cH c by omega])) λv4 H3 s3 h4=>?_
   refine aE (K:=K) (b:=true) (RT.as (aB (bK (p:=λi j=>decide (i < j)) (bW (ae h4)) (ae (s3.dat h3)))) (decide_eq_true (by omega))) (λ_ H4 s4=>?_) (λc=>nomatch c)
   exact ⟨_,rfl,_,rfl,λdx n=>post _ dx (s1.trans (s2.trans (s3.trans (s4.trans (aC n _))))) av⟩
def rf (ns:List Int):Int:=ns.foldr (λc acc=>acc * 100+c) 0
def vq (ds:List D) (d:D):Prop:=∃ ns:List Int,ds=[.tup (ns.map D.int)]/\ns.length≤2/\(∀ n ∈ ns,0≤n/\n≤99)/\d=.int (rf ns)
variable {ns:List Int}
theorem wX:ns.length≤2->(∀ n ∈ ns,0≤n/\n≤99)->0≤rf ns/\rf ns≤9999:=by
 intro h2 h
 match ns,h2 with
 | [],_=>exact ⟨Int.le_refl _,by decide⟩
 | [a],_ =>
  have ha:=h a (by simp)
  show 0≤(0:Int) * 100+a/\(0:Int) * 100+a≤9999
  omega
 | [a,b],_ =>
  have ha:=h a (by simp)
  have hb:=h b (by simp)
  show 0≤((0:Int) * 100+b) * 100+a/\((0:Int) * 100+b) * 100+a≤9999
  omega
theorem lj (T:Txt P w K mg)  : FnOk P w K mg base CX0 (k+1) T.FM T.FQ ["behind"] (spD K vq):=by
 refine T.GJ.ok sc_number_told (λvs H Q E h=>?_) (λcdv A outer s H vs Q E hr h=>?_)
 ·obtain ⟨ds,d,hd,⟨ns,rfl,_⟩,_⟩:=h;exact hd.length.symm
 have nd:=sc_number_told.nd
 obtain ⟨ds,d,hd,⟨ns,rfl,l2,hb,rfl⟩,post⟩:=h
 obtain ⟨v0,rfl,h0⟩:=dQ hd
 refine ⟨_,(aj (bq (i:=1) nd rfl (Or.inl rfl) ao)
 (aj (gd PassesOwn.never rfl (zj rfl T.Ka (ag (pv 0) af)) (aM (i:=2) nd rfl (Or.inl rfl)) (au (bq (i:=1) nd rfl (Or.inl rfl) (bu cF (bu nX (pv 1) ao) (pv 2)))))
 (au (aG (pv 1))))),?_⟩
 refine bD (K:=K) (d:=.int 0) aq λv1 H1 s1 q1=>?_
 obtain rfl:=q1.intE
 obtain ⟨a,vs,rfl,hq,hds⟩:=(s1.dat h0).tupE
 have ev:=o6 hds
 have ll:=hds.length
 rw [List.length_map] at ll
 refine dI ⟨_,rfl,a,vs,rfl,hq,wb (K:=K) (a:=a) (xs:=vs) (λi σ G=>∃ z:Option V,σ=[some (.ref a),some (.int (rf (ns.drop (ns.length - i)))),z]/\Same H1 G) ?_ ?_ ?_ ?_⟩
 ·refine ⟨none,?_,Same.refl _⟩
  rw [Nat.sub_zero,List.drop_length]
  rfl
 ·rintro i σ G hi ⟨z,rfl,sG⟩
  exact sG.sqT hq
 ·rintro i x σ G hi hx ⟨z,rfl,sG⟩
  refine fB ?_
  dsimp only
  rw [ev,List.getElem?_map,List.length_map] at hx
  obtain ⟨c,hc,rfl⟩:=Option.map_eq_some_iff.mp hx
  have hcb:=hb c (List.mem_of_getElem? hc)
  have nb:=wX (ns:=ns.drop (ns.length - i)) (by rw [List.length_drop];omega) (λn hn=>hb n (List.mem_of_mem_drop hn))
  have e:ns.drop (ns.length - (i+1))=c::ns.drop (ns.length - i):=by
   have h1:ns.length - (i+1) < ns.length:=by omega
   rw [List.drop_eq_getElem_cons h1]
   have h2:ns.length - (i+1)+1=ns.length - i:=by omega
   rw [h2]
   congr 1
   have h3:ns.length - 1 - i=ns.length - (i+1):=by omega
   rw [h3,List.getElem?_eq_getElem h1] at hc
   exact Option.some.inj hc
  refine rS (K:=K) (d:=.int (rf (ns.drop (ns.length - i)) * 100+c)) (cm (xF (ae (k:=1) (Dat.intI _)) aq (.inr ⟨by omega,by omega⟩)) (ae (k:=2) (Dat.intI c))) λv H' s d=>⟨some (.int c),?_,sG.trans s⟩
  rw [e,d.intE]
  rfl
 ·rintro σ G ⟨z,rfl,sG⟩
  have e:ns.drop (ns.length - vs.length)=ns:=by rw [← ll,Nat.sub_self];rfl
  rw [e]
  exact ⟨_,rfl,post _ _ (s1.trans sG) (Dat.intI _)⟩
def ir (c:Int):Option (Str × Nat):=match INS[c.toNat]? with
 | some (.tup [.str nm,.int m])=>some (nm,m.toNat)
 | _=>none
variable {nm:Str}
theorem wC {m:Nat} (h:ir c=some (nm,m)):INS[c.toNat]?=some (.tup [.str nm,.int (m:Int)])/\c.toNat < 17:=by
 unfold ir at h
 have hlt:c.toNat < 17:=by
  by_cases hc:c.toNat < 17
  ·exact hc
  ·rw [List.getElem?_eq_none (by show (17:Nat)≤c.toNat;omega)] at h
   cases h
 refine ⟨?_,hlt⟩
 have all:∀ i:Nat,i < 17->∀ nm m,(match INS[i]? with | some (.tup [.str nm,.int m])=>some (nm,m.toNat) | _=>none)=some (nm,m)->INS[i]?=some (.tup [.str nm,.int (m:Int)]):=by
  intro i hi nm m e
  match i,hi with
  | 0,_=>cases e;rfl
  | 1,_=>cases e;rfl
  | 2,_=>cases e;rfl
  | 3,_=>cases e;rfl
  | 4,_=>cases e;rfl
  | 5,_=>cases e;rfl
  | 6,_=>cases e;rfl
  | 7,_=>cases e;rfl
  | 8,_=>cases e;rfl
  | 9,_=>cases e;rfl
  | 10,_=>cases e;rfl
  | 11,_=>cases e;rfl
  | 12,_=>cases e;rfl
  | 13,_=>cases e;rfl
  | 14,_=>cases e;rfl
  | 15,_=>cases e;rfl
  | 16,_=>cases e;rfl
  | n+17,h=>omega
 exact all c.toNat hlt nm m h
def eR (cells:List D) (p m:Nat):List D:=(cells.drop (p+1)).take m
def tY (ds:List Ar) (d:D):Prop:=∃ (cells:List D) (p:Nat) (c:Int) (nm:Str) (m:Nat),ds=[.d (.tup cells),.d (.int p)]/\cells[p]?=some (.int c)/\0≤c/\ir c=some (nm,m)/\(eR cells p m).length=m/\d=.tup [.str nm,.tup (eR cells p m)]
theorem yI:∀ i:Nat,i < 17->∃ nm m,INS[i]?=some (.tup [.str nm,.int m]):=by
 intro i hi
 match i,hi with
 | 0,_=>exact ⟨_,_,rfl⟩
 | 1,_=>exact ⟨_,_,rfl⟩
 | 2,_=>exact ⟨_,_,rfl⟩
 | 3,_=>exact ⟨_,_,rfl⟩
 | 4,_=>exact ⟨_,_,rfl⟩
 | 5,_=>exact ⟨_,_,rfl⟩
 | 6,_=>exact ⟨_,_,rfl⟩
 | 7,_=>exact ⟨_,_,rfl⟩
 | 8,_=>exact ⟨_,_,rfl⟩
 | 9,_=>exact ⟨_,_,rfl⟩
 | 10,_=>exact ⟨_,_,rfl⟩
 | 11,_=>exact ⟨_,_,rfl⟩
 | 12,_=>exact ⟨_,_,rfl⟩
 | 13,_=>exact ⟨_,_,rfl⟩
 | 14,_=>exact ⟨_,_,rfl⟩
 | 15,_=>exact ⟨_,_,rfl⟩
 | 16,_=>exact ⟨_,_,rfl⟩
 | n+17,h=>omega
theorem wD (c0:0≤c) (h:ir c=none):17≤c:=by
 by_cases hc:c.toNat < 17
 ·obtain ⟨nm,m,e⟩:=yI c.toNat hc
  unfold ir at h
  rw [e] at h
  cases h
 ·omega
def tW (N:Addr) (ds:List Ar) (C:Addr) (i:Int):Prop:=∃ (cells:List D) (p:Nat) (c:Int),ds=[.d (.tup cells),.d (.int p)]/\cells[p]?=some (.int c)/\0≤c/\(ir c=none\/∃ nm m,ir c=some (nm,m)/\¬ (eR cells p m).length=m)/\C=N/\i=p
variable {cells:List D}
theorem yt {m:Nat}:(eR cells p m).length≤m:=by
 unfold eR
 rw [List.length_take]
 omega
theorem iG (T:Txt P w K mg) (C5:FnOk P w K mg base CX0 k T.Gu T.Fq ["self","place"] (dO T.C1 "place")):FnOk P w K mg base (CX2 P w) (k+1+1) T.Ds T.Du ["cells","place"] (r6 K "place" tY (tW T.C1)):=by
 refine T.DK.ok2 sc_instruction_at (λvs H Q E h=>?_) (λcdv A outer s H vs Q E hr h=>?_)
 ·obtain ⟨ds,hd,h⟩:=h;rcases h with ⟨d,⟨cells,p,c,nm,m,rfl,_⟩,_⟩ | ⟨C,ci,⟨cells,p,c,rfl,_⟩,_⟩ <;> exact hd.length.symm
 have nd:=sc_instruction_at.nd
 obtain ⟨ds,hd,h⟩:=h
 refine ⟨_,(aj (aZ (PW.pt (dR (aH pO (pv 1) (aJ aP rfl T.EV bU (ag (pv 0) af)) (aN _)) (du (aH pO (aV (ix_list.or aS) (pv 0) (pv 1) (λ_ _=>rfl)) (aJ aP rfl T.EV bU (ag (aQ (v:=.ref T.DZ) rfl T.Dl rfl) af)) (aN _))))) (au (cv T.Gi C5 (cV T) hr d9 rfl T.Eb (ag (pv 1) af))) aK)
 (aj (dY (aV aS (aQ (v:=.ref T.DZ) rfl T.Dl rfl) (aV (ix_list.or aS) (pv 0) (pv 1) (λ_ _=>rfl)) (λ_ _=>rfl)) (fj rfl (bf (aM (i:=2) nd rfl (Or.inl rfl)) (bf (aM (i:=3) nd rfl (Or.inl rfl)) dF))))
 (aj (bq (i:=4) nd rfl (Or.inl rfl) (bP cW rfl T.Hk eI (ag (lC (sl_list.or rZ) (pv 0) (jc (bu cF (pv 1) ao)) (jc (bu cF (bu cF (pv 1) ao) (pv 3)))) af)))
 (aj (aZ (aH lA (aJ aP rfl T.EV bU (ag (pv 4) af)) (pv 3) (aN _)) (au (cv T.Gi C5 (cV T) hr d9 rfl T.Eb (ag (pv 1) af))) aK)
 (au (aG (ay (ag (pv 2) (ag (pv 4) af))))))))),?_⟩
 rcases h with ⟨d,⟨cells,p,c,nm,m,rfl,hc,c0,hi,hb,rfl⟩,post⟩ | ⟨C,ci,⟨cells,p,c,rfl,hc,c0,hi,rfl,rfl⟩,post⟩
 ·obtain ⟨v0,v1,rfl,h0,h1⟩:=vC hd
  have h0:Dat K H (.tup cells) v0:=h0
  have h1:Dat K H (.int (p:Int)) v1:=h1
  obtain rfl:=h1.intE
  obtain ⟨hi,h17⟩:=wC hi
  have hp:p < cells.length:=(List.getElem?_eq_some_iff.mp hc).1
  have ec:c=((c.toNat:Nat):Int):=by omega
  refine aE (K:=K) (b:=false) (RT.as (bY (b:=false) (c:=false) (RT.as (aB (bK (p:=λi j=>decide (j≤i)) (ae h1) (bW (ae h0)))) (decide_eq_false (by omega))) λ_=>RT.as (aB (bK (p:=λi j=>decide (j≤i)) (lJ (k:=p) (ae h0) (ae h1) hc) (bW (dZ T.C8)))) (decide_eq_false (by show ¬ (17:Int)≤c;omega))) rfl) (λc=>nomatch c) (λ_ H1 s1=>?_)
  have h0:=s1.dat h0
  have h1:=s1.dat h1
  refine gh (K:=K) (d:=.str nm) (e:=.int m) (ba (k:=c.toNat) (dZ T.C8) (RE.as (lJ (k:=p) (ae h0) (ae h1) hc) (congrArg D.int ec)) hi) λv2 v3 H2 s2 h2 h3=>?_
  have h0:=s2.dat h0
  have h1:=s2.dat h1
  have el:(p:Int)+1=((p+1:Nat):Int):=by omega
  have eh:(p:Int)+1+(m:Int)=((p+1+m:Nat):Int):=by omega
  refine bD (K:=K) (d:=.tup (eR cells p m)) (RE.as (mV (tO (lo:=p+1) (hi:=p+1+m) (ae h0) (RE.as (cm (ae h1) aq) (congrArg D.int el)) (RE.as (cm (cm (ae h1) aq) (ae h3)) (congrArg D.int eh)) (by omega) (by omega))) (by unfold eR;rw [show p+1+m - (p+1)=m by omega])) λv4 H3 s3 h4=>?_
  refine aE (K:=K) (b:=false) (RT.as (aB (bK (p:=λi j=>decide (i < j)) (bW (ae h4)) (ae (s3.dat h3)))) (decide_eq_false (by rw [hb];omega))) (λc=>nomatch c) (λ_ H4 s4=>?_)
  exact aU (K:=K) (d:=.tup [.str nm,.tup (eR cells p m)]) (aA (aa (ae (s4.dat (s3.dat h2))) (aa (ae (s4.dat h4)) ah))) λv H' s q=>post v H' (s1.trans (s2.trans (s3.trans (s4.trans s)))) q
 ·obtain ⟨v0,v1,rfl,h0,h1⟩:=vC hd
  have h0:Dat K H (.tup cells) v0:=h0
  have h1:Dat K H (.int (p:Int)) v1:=h1
  obtain rfl:=h1.intE
  have hp:p < cells.length:=(List.getElem?_eq_some_iff.mp hc).1
  have ec:c=((c.toNat:Nat):Int):=by omega
  rcases hi with hi | ⟨nm,m,hi,hb⟩
  ·have h17:=wD c0 hi
   refine aE (K:=K) (b:=true) (RT.as (bY (b:=false) (c:=true) (RT.as (aB (bK (p:=λi j=>decide (j≤i)) (ae h1) (bW (ae h0)))) (decide_eq_false (by omega))) λ_=>RT.as (aB (bK (p:=λi j=>decide (j≤i)) (lJ (k:=p) (ae h0) (ae h1) hc) (bW (dZ T.C8)))) (decide_eq_true (by show (17:Int)≤c;omega))) rfl) (λ_ H1 s1=>?_) (λc=>nomatch c)
   exact ⟨_,rfl,_,rfl,λdx n=>post _ dx (s1.trans (aC n _)) av⟩
  ·obtain ⟨hi,h17⟩:=wC hi
   refine aE (K:=K) (b:=false) (RT.as (bY (b:=false) (c:=false) (RT.as (aB (bK (p:=λi j=>decide (j≤i)) (ae h1) (bW (ae h0)))) (decide_eq_false (by omega))) λ_=>RT.as (aB (bK (p:=λi j=>decide (j≤i)) (lJ (k:=p) (ae h0) (ae h1) hc) (bW (dZ T.C8)))) (decide_eq_false (by show ¬ (17:Int)≤c;omega))) rfl) (λc=>nomatch c) (λ_ H1 s1=>?_)
   have h0:=s1.dat h0
   have h1:=s1.dat h1
   refine gh (K:=K) (d:=.str nm) (e:=.int m) (ba (k:=c.toNat) (dZ T.C8) (RE.as (lJ (k:=p) (ae h0) (ae h1) hc) (congrArg D.int ec)) hi) λv2 v3 H2 s2 h2 h3=>?_
   have h0:=s2.dat h0
   have h1:=s2.dat h1
   have el:(p:Int)+1=((p+1:Nat):Int):=by omega
   have eh:(p:Int)+1+(m:Int)=((p+1+m:Nat):Int):=by omega
   refine bD (K:=K) (d:=.tup (eR cells p m)) (RE.as (mV (tO (lo:=p+1) (hi:=p+1+m) (ae h0) (RE.as (cm (ae h1) aq) (congrArg D.int el)) (RE.as (cm (cm (ae h1) aq) (ae h3)) (congrArg D.int eh)) (by omega) (by omega))) (by unfold eR;rw [show p+1+m - (p+1)=m by omega])) λv4 H3 s3 h4=>?_
   have bm:=yt (cells:=cells) (p:=p) (m:=m)
   refine aE (K:=K) (b:=true) (RT.as (aB (bK (p:=λi j=>decide (i < j)) (bW (ae h4)) (ae (s3.dat h3)))) (decide_eq_true (by omega))) (λ_ H4 s4=>?_) (λc=>nomatch c)
   exact ⟨_,rfl,_,rfl,λdx n=>post _ dx ((s1.trans (s2.trans (s3.trans s4))).trans (aC n _)) av⟩
abbrev SS:List Str:=["put","far","load","add","sub","mul","less","more","twice","about"]
def B8 (rec:Nat->Option Bool) (pat:D) (cells:List D) (p:Nat):D->Option Bool
 | .int c=>(match ir c with
  | some (nm,m)=>if (eR cells p m).length=m then (if (!decide (nm ∈ SS) || !((eR cells p m).map (oX pat)).all id)=true then some false else rec (p+1+m)) else none
  | none=>none)
 | _=>none
def ky:Nat->D->List D->Nat->Option Bool
 | 0,_,_,_=>none
 | n+1,pat,cells,p=>match cells[p]? with
  | none=>some true
  | some x=>if bO x 0 99=false then some false else B8 (ky n pat cells) pat cells p x
def AJ (ds:List D) (d:D):Prop:=∃ (cells:List D) (pat:D) (b:Bool),ds=[.tup cells,pat]/\ppD 3 pat=true/\cells.length≤100/\(ky (cells.length+1) pat cells 0).getD false=b/\d=.bl b
def CO (σ:L2.St) (_:Hp):Nat:=match σ[2]? with
 | some (some (V.int p))=>(200 - p).toNat
 | _=>0
theorem AX {m:Nat}:(eR cells p m).length≤cells.length:=by
 unfold eR
 rw [List.length_take,List.length_drop]
 omega
theorem yq {m:Nat} (h:(eR cells p m).length=m) (hp:p < cells.length):p+1+m≤cells.length:=by
 unfold eR at h
 rw [List.length_take,List.length_drop] at h
 omega
variable {X:Cx}
theorem zi {K:PySem.W.Frag} {es:List Expr} {k:Nat} {t:TGs} {pos:Pos} (hK:X.K=K) (hc:X.calm=true) (h:PGs X es t)
  (hn:(assignEach es X.env).length=n:=by rfl) (hst:(assignEach es X.env).findIdx? (·.1)=none:=by rfl):PG X (.Tuple es k pos) (qL K n t):=by
 subst hK
 exact fj hc h hn hst
variable {te:TE} {En:Ends} {i j:Nat} {e:D}
theorem zN {K:PySem.W.Frag} (h:RE K te σ H (.tup [d,e])) (q:∀ v w H',Same H H'->Dat K H' d v->Dat K H' e w->En.nx ((σ.set i (some v)).set j (some w)) H') :
  jn te (qL K 2 (fz (bC i) (fz (bC j) ui))) En σ H :=
 gh (us:=qf) h q
theorem ij (T:Txt P w K mg) (DF:FnOk P w K mg base CX0 k T.Ey T.Ez ["thing","low","high"] (spD K dS)) (Gz:FnOk P w K mg base (CX2 P w) k T.Ds T.Du ["cells","place"] (r6 K "place" tY (tW T.C1))) (KM:FnOk P w K mg base CX0 k T.Ik T.Iv ["thing","pattern"] (spD K vj)):FnOk P w K mg base CX0 (k+1) T.D2 T.D5 ["cells","pattern"] (spD K AJ):=by
 refine T.E1.ok sc_are_instructions (λvs H Q E h=>?_) (λcdv A outer s H vs Q E hr h=>?_)
 ·obtain ⟨ds,d,hd,⟨cells,pat,bb,rfl,_⟩,_⟩:=h;exact hd.length.symm
 have nd:=sc_are_instructions.nd
 obtain ⟨ds,d,hd,⟨cells,pat,bb,rfl,hp,hl,hr2,rfl⟩,post⟩:=h
 obtain ⟨v0,v1,rfl,h0,h1⟩:=eK hd
 refine ⟨_,(aj (bq (i:=2) nd rfl (Or.inl rfl) ao)
 (aj (lF PassesOwn.never (aH lA (pv 2) (aJ aP rfl T.EV bU (ag (pv 0) af)) (aN _)) (aj (aZ (bV (bh (aF DF hr rfl T.Fv T.EA.kp (dm T) .nil aY (ag (aV aS (pv 0) (pv 2) (λ_ _=>rfl)) (ag ao (ag (aQ (v:=.int 99) rfl T.Fu ⟨_,rfl⟩) af)))) (λ_=>rfl))) (au (aG cf)) aK)
 (aj (zr (t:=λE=>jn (λσ=>fV (r6 K "place" tY (tW T.C1)) [] (E σ) (bj (cx 0) (bj (cx 2) ck)) σ) (qL K 2 (fz (bC 3) (fz (bC 4) ui)))) (λpn xe E hx=>(by refine' au ?_;refine' dY (pR Gz hr rfl T.GG T.DK.kp (fK T) .nil hx (ag (pv 0) (ag (pv 2) af))) ?_;exact (zi (K:=K) (n:=2) rfl rfl (bf (aM (i:=3) nd rfl (Or.inl rfl)) (bf (aM (i:=4) nd rfl (Or.inl rfl)) dF))))) rfl T.Eb (λe=>(au (aG cf))))
 (aj (aZ (PW.pt (dR (aH nZ (pv 3) (aQ (v:=.ref T.IL) rfl T.GF rfl) (by with_unfolding_all rfl)) (du (bV (bh (aJ (iQ rfl) rfl T.Kx nB (ag (eE (own:=["cell"]) (fr:=[1]) (N':=["cell","pattern"]) (jH (pv 4)) rfl (by show cK ["cells","pattern","place","name","behind"] (λx=>(aw cj).names.lookup x) _ _ _ _=true;decide +kernel) rfl (λ_ _ _ _ _=>(aM (i:=0) (by show List.Nodup [("cell":Str),("pattern":Str)];decide +kernel) rfl (Or.inl rfl))) (λ_ _ _ _ _=>cG) (λ_ _ _ _ _=>(aF KM hr rfl T.Kg T.Ji.kp (t7 T) .nil aY (ag (pv 0) (ag (pv 1) af))))) af)) (λ_=>rfl)))))) (au (aG cf)) aK)
 (au (xk (i:=2) nd rfl (Or.inl rfl) (bu cF ao (aJ aP rfl T.EV bU (ag (pv 4) af))) qP))))))
 (au (aG cf)))),?_⟩
 refine d6 (Ax (dI (qk (λσ G=>∃ (p n:Nat) (z3 z4:Option V),σ=[some v0,some v1,some (.int p),z3,z4]/\Same H G/\(ky n pat cells p).getD false=bb/\p≤cells.length/\cells.length+1≤n+p) CO ?_ ?_ ?_)))
 ·exact ⟨0,_,none,none,rfl,Same.refl _,hr2,Nat.zero_le _,Nat.le_refl _⟩
 ·rintro σ G ⟨p,n,z3,z4,rfl,sG,ha,hpl,hfu⟩
  have g0:=sG.dat h0
  have g1:=sG.dat h1
  refine RT.use (b:=decide ((p:Int) < (cells.length:Int))) (aB (bK (p:=λi j=>decide (i < j)) (ae (K:=K) (Dat.intI (p:Int))) (bW (ae g0)))) λG1 s1=>?_
  obtain ⟨n,rfl⟩:∃ m,n=m+1:=⟨n - 1,by omega⟩
  by_cases hlt:p < cells.length
  ·rw [decide_eq_true (by omega:(p:Int) < (cells.length:Int))]
   refine ph ?_
   have hx:cells[p]?=some cells[p]:=List.getElem?_eq_getElem hlt
   generalize cells[p]=x at hx
   have ha':(if bO x 0 99=false then some false else B8 (ky n pat cells) pat cells p x).getD false=bb:=by
    have e:(ky (n+1) pat cells p).getD false=bb:=ha
    unfold ky at e
    rw [hx] at e
    exact e
   have g0:=s1.dat g0
   have g1:=s1.dat g1
   refine aE (K:=K) (b:=!bO x 0 99) (bw (aW (aR (R:=dS) (aa (ba (k:=p) (ae g0) (ae (Dat.intI (p:Int))) hx) (aa aq (aa aq ah))) ⟨x,0,99,rfl,rfl⟩))) (λcB G2 s2=>?_) (λcB G2 s2=>?_)
   ·rw [if_pos (jw cB)] at ha'
    cases ha'
    exact post _ _ (sG.trans (s1.trans s2)) (Dat.blI _)
   ·have cw:=fZ cB
    rw [if_neg (by rw [cw];exact λz=>nomatch z)] at ha'
    have g0:=s2.dat g0
    have g1:=s2.dat g1
    cases x with
    | int c =>
     have ha':(match ir c with
      | some (nm,m)=>if (eR cells p m).length=m then (if (!decide (nm ∈ SS) || !((eR cells p m).map (oX pat)).all id)=true then some false else ky n pat cells (p+1+m)) else none
      | none=>none).getD false=bb:=ha'
     have c0:0≤c:=by
      have z:(decide (0≤c) && decide (c≤99))=true:=cw
      rw [Bool.and_eq_true] at z
      exact of_decide_eq_true z.1
     have rA:RB K (bj (cx 0) (bj (cx 2) ck)) [some v0,some v1,some (.int (p:Int)),z3,z4] G2 [.d (.tup cells),.d (.int p)]:=Bz (ae (k:=0) g0) (Bz (ae (k:=2) (Dat.intI (p:Int))) xA)
     cases hin:ir c with
     | none =>
      rw [hin] at ha'
      have eb:bb=false:=ha'.symm
      subst eb
      refine dI (jN (R:=tY) (B:=tW T.C1) rA ⟨cells,p,c,rfl,hx,c0,.inl hin,rfl,rfl⟩ λG3 dx s3 hdx=>⟨T.DI,?_⟩)
      exact post _ _ (sG.trans (s1.trans (s2.trans s3))) (Dat.blI _)
     | some nm =>
      obtain ⟨nm,m⟩:=nm
      rw [hin] at ha'
      dsimp only at ha'
      by_cases hb:(eR cells p m).length=m
      ·rw [if_pos hb] at ha'
       refine dI (zN (K:=K) (d:=.str nm) (e:=.tup (eR cells p m)) (mS (R:=tY) (B:=tW T.C1) rA ⟨cells,p,c,nm,m,rfl,hx,c0,hin,hb,rfl⟩) λv3 v4 G3 s3 g3 g4=>?_)
       have g1:=s3.dat g1
       have lb:=AX (cells:=cells) (p:=p) (m:=m)
       refine aE (K:=K) (b:=!decide (nm ∈ SS) || !((eR cells p m).map (oX pat)).all id) (bY (aB (uO (ys:=SS) (ae g3) (dZ T.JZ))) λ_=>bw (aW (kl (rL (ae g4) (by omega) _ (by simp) rfl (λG4 i z vz d s4 hz hi hvz=>?_))))) (λc2 G4 s4=>?_) (λc2 G4 s4=>?_)
       ·rw [List.getElem?_map,List.getElem?_map,hz] at hi
        cases hi
        exact aR (E:=E0) (R:=vj) (aa (ae hvz) (aa (ae (s4.dat g1)) ah)) ⟨z,pat,rfl,hp,rfl⟩
       ·rw [if_pos c2] at ha'
        cases ha'
        exact post _ _ (sG.trans (s1.trans (s2.trans (s3.trans s4)))) (Dat.blI _)
       ·rw [if_neg (by rw [c2];exact Bool.false_ne_true)] at ha'
        refine ⟨_,rfl,RE.use (cm (K:=K) aq (bW (ae (s4.dat g4)))) λv5 G5 s5 q5=>?_⟩
        refine ⟨p,1+((eR cells p m).length:Int),rfl,q5.intE,?_⟩
        have ep:(p:Int)+(1+((eR cells p m).length:Int))=((p+1+m:Nat):Int):=by rw [hb];omega
        have he:=yq hb hlt
        refine ⟨⟨p+1+m,n,some v3,some v4,by rw [← ep];rfl,sG.trans (s1.trans (s2.trans (s3.trans (s4.trans s5)))),ha',he,by omega⟩,?_⟩
        show (200 - ((p:Int)+(1+((eR cells p m).length:Int)))).toNat < (200 - (p:Int)).toNat
        omega
      ·rw [if_neg hb] at ha'
       have eb:bb=false:=ha'.symm
       subst eb
       refine dI (jN (R:=tY) (B:=tW T.C1) rA ⟨cells,p,c,rfl,hx,c0,.inr ⟨nm,m,hin,hb⟩,rfl,rfl⟩ λG3 dx s3 hdx=>⟨T.DI,?_⟩)
       exact post _ _ (sG.trans (s1.trans (s2.trans s3))) (Dat.blI _)
    | _=>cases cw
  ·rw [decide_eq_false (by omega:¬ (p:Int) < (cells.length:Int))]
   refine qU ?_
   have e:ky (n+1) pat cells p=some true:=by
    unfold ky
    rw [List.getElem?_eq_none (by omega)]
   rw [e] at ha
   cases ha
   exact post _ _ (sG.trans s1) (Dat.blI _)
 ·intro σ G Q1 Q2 hQ hc
  obtain ⟨v,e,v',e',p,ys,e2,hq,i,j,e3,e4,b,e5,q⟩:=hc
  exact ⟨v,e,v',e',p,ys,e2,hq,i,j,e3,e4,b,e5,hQ _ _ q⟩
def qR:D->Bool
 | .str x=>decide (x="pick")
 | _=>false
def csD (pat:D):D->Option Bool
 | .tup l=>if (decide (1≤(l.length:Int)) && decide ((l.length:Int)≤12))=false then some false else ky (l.length+1) pat l 0
 | _=>some false
def cz:D->Option Bool
 | .tup [nm,pat,cs]=>if (!gL nm || (qR nm || !n5 pat))=true then some false else csD pat cs
 | _=>some false
def iW:D->Prop
 | .tup (nm::_)=>Al nm
 | _=>True
def m9 (ds:List D) (d:D):Prop:=∃ (x:D) (b:Bool),ds=[x]/\iW x/\(cz x).getD false=b/\d=.bl b
variable {us:TS} {l:Nat} {f:D}
theorem ot {K:PySem.W.Frag} (h:RE K te σ H (.tup [d,e,f])) (q:∀ v w x H',Same H H'->Dat K H' d v->Dat K H' e w->Dat K H' f x->us En (((σ.set i (some v)).set j (some w)).set l (some x)) H') :
  iL (jn te (qL K 3 (fz (bC i) (fz (bC j) (fz (bC l) ui))))) us En σ H :=
 h.use λx H1 s1 q1=>by
  obtain ⟨a,vs,e1,hq,hd⟩:=q1.tupE
  obtain ⟨v,w,x,e2,hv,hw,hx⟩:=jU hd
  subst e1 e2
  exact ⟨a,_,rfl,hq,rfl,v,_,rfl,w,_,rfl,x,_,rfl,rfl,q v w x H1 s1 hv hw hx⟩
theorem kO (h:∀ y,x≠.tup y):kN x "tuple"=false:=by
 cases x with
 | tup y=>exact absurd rfl (h y)
 | _=>rfl
theorem xi (h:∀ a b c,x≠.tup [a,b,c]):cz x=some false:=by
 unfold cz
 split
 ·rename_i a b c;exact absurd rfl (h a b c)
 ·rfl
theorem Bl (h:n5 x=true):ppD 3 x=true:=by
 unfold n5 at h
 rw [Bool.and_eq_true] at h
 exact h.1
theorem wR (h:gL x=true):∃ y,x=.str y:=by
 cases x with
 | str y=>exact ⟨y,rfl⟩
 | _=>cases h
theorem pK (T:Txt P w K mg) (KO:FnOk P w K mg base CX0 k T.Im T.Iy ["thing"] (spD K vo)) (Km:FnOk P w K mg base CX0 k T.Gh T.Gq ["thing"] (spD K AL)) (Jt:FnOk P w K mg base CX0 k T.D2 T.D5 ["cells","pattern"] (spD K AJ)):FnOk P w K mg base CX0 (k+1) T.HC T.HI ["thing"] (spD K m9):=by
 refine T.IR.ok sc_is_piece (λvs H Q E h=>?_) (λcdv A outer s H vs Q E hr h=>?_)
 ·obtain ⟨ds,d,hd,⟨x,bb,rfl,_⟩,_⟩:=h;exact hd.length.symm
 have nd:=sc_is_piece.nd
 obtain ⟨ds,d,hd,⟨x,bb,rfl,hok,hpc,rfl⟩,post⟩:=h
 obtain ⟨v0,rfl,h0⟩:=dQ hd
 refine ⟨_,(aj (aZ (PW.pt (dR (bV (bh (aJ (eJ kJ) rfl T.C2 aO (aT (pv 0) (aT (eS (v:=.ty "tuple") rfl T.Hk eI rfl) af))) (λ_=>rfl))) (du (aH lB (aJ aP rfl T.EV bU (ag (pv 0) af)) ao (aN _))))) (au (aG cf)) aK)
 (aj (dY (pv 0) (fj rfl (bf (aM (i:=1) nd rfl (Or.inl rfl)) (bf (aM (i:=2) nd rfl (Or.inl rfl)) (bf (aM (i:=3) nd rfl (Or.inl rfl)) dF)))))
 (aj (aZ (PW.pt (dR (bV (bh (aF KO hr rfl T.Ki T.Jk.kp (t9 T) .nil aY (ag (pv 1) af)) (λ_=>rfl))) (dR (aH b0 (pv 1) az (aN _)) (du (bV (bh (aF Km hr rfl T.JG T.Hi.kp (nq T) .nil aY (ag (pv 2) af)) (λ_=>rfl))))))) (au (aG cf)) aK)
 (aj (aZ (PW.pt (dR (bV (bh (aJ (eJ kJ) rfl T.C2 aO (aT (pv 3) (aT (eS (v:=.ty "tuple") rfl T.Hk eI rfl) af))) (λ_=>rfl))) (du (bV (pU lq lq ao (aJ aP rfl T.EV bU (ag (pv 3) af)) (aQ (v:=.int 12) rfl T.Dv ⟨_,rfl⟩)))))) (au (aG cf)) aK)
 (au (aG (aF Jt hr rfl T.HR T.E1.kp (iB T) .nil aY (ag (pv 3) (ag (pv 2) af))))))))),?_⟩
 by_cases h3:∃ a b c,x=.tup [a,b,c]
 ·obtain ⟨nm,pat,cs,rfl⟩:=h3
  refine aE (K:=K) (b:=false) (RT.as (bY (b:=false) (c:=false) (RT.as (bw (aW (bQ (ae h0)))) rfl) λ_=>RT.as (aB (gS (bW (ae h0)) aq)) rfl) rfl) (λc=>nomatch c) (λ_ H1 s1=>?_)
  refine ot (K:=K) (d:=nm) (e:=pat) (f:=cs) (ae (s1.dat h0)) λv1 v2 v3 H2 s2 h1 h2 h3=>?_
  have hpc':(if (!gL nm || (qR nm || !n5 pat))=true then some false else csD pat cs).getD false=bb:=hpc
  refine aE (K:=K) (b:=!gL nm || (qR nm || !n5 pat)) (bY (bw (aW (aR (R:=vo) (aa (ae h1) ah) ⟨nm,rfl,hok,rfl⟩))) λc=>bY ?_ λ_=>bw (aW (aR (R:=AL) (aa (ae h2) ah) ⟨pat,rfl,rfl⟩))) (λc H3 s3=>?_) (λc H3 s3=>?_)
  ·obtain ⟨y,rfl⟩:=wR (fZ c)
   exact aB (bg (ae h1) ax)
  ·rw [if_pos c] at hpc'
   cases hpc'
   exact aU (K:=K) (d:=.bl false) cR λv H' s q=>post v H' (s1.trans (s2.trans (s3.trans s))) q
  ·rw [if_neg (by rw [c];exact Bool.false_ne_true)] at hpc'
   rw [Bool.or_eq_false_iff,Bool.or_eq_false_iff] at c
   have hp:=Bl (fZ c.2.2)
   have h2:=s3.dat h2
   have h3:=s3.dat h3
   have s13:=s1.trans (s2.trans s3)
   by_cases hc:∃ l,cs=.tup l
   ·obtain ⟨l,rfl⟩:=hc
    have hpc':(if (decide (1≤(l.length:Int)) && decide ((l.length:Int)≤12))=false then some false else ky (l.length+1) pat l 0).getD false=bb:=hpc'
    refine aE (K:=K) (b:=!(decide (1≤(l.length:Int)) && decide ((l.length:Int)≤12))) (RT.as (bY (b:=false) (RT.as (bw (aW (bQ (ae h3)))) rfl) λ_=>bw (aB (lH (p:=λi j=>decide (i≤j)) (r:=λi j=>decide (i≤j)) aq (bW (ae h3)) λ_=>aq))) (Bool.false_or _)) (λc4 H4 s4=>?_) (λc4 H4 s4=>?_)
    ·rw [if_pos (jw c4)] at hpc'
     cases hpc'
     exact aU (K:=K) (d:=.bl false) cR λv H' s q=>post v H' (s13.trans (s4.trans s)) q
    ·have c5:=fZ c4
     rw [if_neg (by rw [c5];exact λz=>nomatch z)] at hpc'
     rw [Bool.and_eq_true] at c5
     have l12:=of_decide_eq_true c5.2
     exact aU (K:=K) (d:=.bl bb) (aR (R:=AJ) (aa (ae (s4.dat h3)) (aa (ae (s4.dat h2)) ah)) ⟨l,pat,bb,rfl,hp,by omega,hpc',rfl⟩) λv H' s q=>post v H' (s13.trans (s4.trans s)) q
   ·have hc':∀ y,cs≠.tup y:=λy e=>hc ⟨y,e⟩
    have e:bb=false:=by
     cases cs with
     | tup y=>exact absurd rfl (hc' y)
     | _=>cases hpc';rfl
    refine aE (K:=K) (b:=true) (RT.as (bY (b:=true) (c:=true) (RT.as (bw (aW (bQ (ae h3)))) (by rw [kO hc'];rfl)) λc=>nomatch c) rfl) (λc4 H4 s4=>?_) (λc=>nomatch c)
    rw [e] at post
    exact aU (K:=K) (d:=.bl false) cR λv H' s q=>post v H' (s13.trans (s4.trans s)) q
 ·have h3':∀ a b c,x≠.tup [a,b,c]:=λa b c e=>h3 ⟨a,b,c,e⟩
  rw [xi h3'] at hpc
  cases hpc
  refine aE (K:=K) (b:=true) ?_ (λc H1 s1=>?_) (λc=>nomatch c)
  ·by_cases ht:∃ l,x=.tup l
   ·obtain ⟨l,rfl⟩:=ht
    refine RT.as (bY (b:=false) (c:=true) (RT.as (bw (aW (bQ (ae h0)))) rfl) λ_=>RT.as (aB (gS (bW (ae h0)) aq)) ?_) rfl
    have:¬ (l.length:Int)=3:=λe=>by
     match l,e with
     | [a,b,c],_=>exact h3' a b c rfl
     | [],h=>simp at h
     | [_],h=>simp at h
     | [_,_],h=>simp at h
     | _::_::_::_::_,h=>simp at h;omega
    rw [decide_eq_false this]
    rfl
   ·have ht':∀ y,x≠.tup y:=λy e=>ht ⟨y,e⟩
    exact RT.as (bY (b:=true) (c:=true) (RT.as (bw (aW (bQ (ae h0)))) (by rw [kO ht'];rfl)) λc=>nomatch c) rfl
  ·exact aU (K:=K) (d:=.bl false) cR λv H' s q=>post v H' (s1.trans s) q
def two (o:Str) (x y b:Int):Int:=if o="less" then (if x < y then 1 else 0) else if o="add" then (x+y) % b else if o="sub" then (x - y) % b else x * y % b
def bX (as:List Int) (b:Int):Tr->Int
 | .num n=>n % b
 | .arg k=>as.getD k.toNat 0
 | .two o x y=>two o (bX as b x) (bX as b y) b
 | .pick x y z=>if bX as b x=0 then bX as b z else bX as b y
def argsOk (as:List Int) (b:Int):Prop:=as.length=4/\(∀ x ∈ as,0≤x/\x < b)/\2≤b/\b≤10000
def okO (o:Str):Prop:=o="add"\/o="sub"\/o="mul"\/o="less"
variable {o:Str}
theorem Bg (h:okO o):¬ o="num"/\¬ o="arg"/\¬ o="pick":=by
 rcases h with rfl | rfl | rfl | rfl <;> decide +kernel
variable {b:Int}
theorem BP {x y:Int} (hb:2≤b):0≤two o x y b/\two o x y b < b:=by
 unfold two
 split
 ·split <;> omega
 ·split
  ·exact ⟨Int.emod_nonneg _ (by omega),Int.emod_lt_of_pos _ (by omega)⟩
  ·split
   ·exact ⟨Int.emod_nonneg _ (by omega),Int.emod_lt_of_pos _ (by omega)⟩
   ·exact ⟨Int.emod_nonneg _ (by omega),Int.emod_lt_of_pos _ (by omega)⟩
theorem vB {as:List Int} {k:Int} (h:argsOk as b) (h0:0≤k) (h1:k≤3):as[k.toNat]?=some (as.getD k.toNat 0):=by
 have hl:=h.1
 have hk:k.toNat < as.length:=by omega
 rw [List.getD_eq_getElem?_getD,List.getElem?_eq_getElem hk]
 rfl
theorem jr {as:List Int} (h:argsOk as b):∀ t:Tr,okT t->0≤bX as b t/\bX as b t < b
 | .num n,_=>⟨Int.emod_nonneg _ (by have:=h.2.2.1;omega),Int.emod_lt_of_pos _ (by have:=h.2.2.1;omega)⟩
 | .arg k,ht=>h.2.1 _ (List.mem_of_getElem? (vB h ht.1 ht.2))
 | .two o x y,_=>BP h.2.2.1
 | .pick x y z,ht=>by
  unfold bX
  split
  ·exact jr h z ht.2.2
  ·exact jr h y ht.2.1
def sC (ds:List D) (d:D):Prop:=∃ o x y b,ds=[.str o,.int x,.int y,.int b]/\2≤b/\b≤10000/\0≤x/\x < b/\0≤y/\y < b/\d=.int (two o x y b)
def ik (n:Nat) (ds:List D) (d:D):Prop:=∃ t as b,ds=[toD t,.tup (as.map D.int),.int b]/\okT t/\dA t≤n/\argsOk as b/\d=.int (bX as b t)
theorem Ae {K:PySem.W.Frag} {a b c:D} {vs:List V} (h:Dats K H [a,b,c,e] vs):∃ u v w x,vs=[u,v,w,x]/\Dat K H a u/\Dat K H b v/\Dat K H c w/\Dat K H e x:=by
 obtain ⟨u,r,e,h1,h⟩:=h.consE
 obtain ⟨v,w,x,q,h2⟩:=jU h
 subst q e
 exact ⟨u,v,w,x,rfl,h1,h2⟩
variable {y:Str}
theorem xS {x:Str} (h:x=y):decide (x=y)=true:=decide_eq_true h
theorem mH {x:Str} (h:¬ x=y):decide (x=y)=false:=decide_eq_false h
theorem jF (T:Txt P w K mg)  : FnOk P w K mg base CX0 (k+1) T.Ec T.Ed ["kind","first","second","size"] (spD K sC):=by
 refine T.E6.ok sc_worth_of_both (λvs H Q E h=>?_) (λcdv A outer s H vs Q E hr h=>?_)
 ·obtain ⟨ds,d,hd,⟨o,x,y,b,rfl,_⟩,_⟩:=h;exact hd.length.symm
 have nd:=sc_worth_of_both.nd
 obtain ⟨ds,d,hd,⟨o,x,y,b,rfl,hb,hb2,hx,hx2,hy,hy2,rfl⟩,post⟩:=h
 obtain ⟨v0,v1,v2,v3,rfl,q0,q1,q2,q3⟩:=Ae hd
 refine ⟨_,(aj (aZ (aH b0 (pv 0) az (aN _)) (au (aG (fh (aH lA (pv 1) (pv 2) (aN _)) ao ao))) aK)
 (aj (aZ (aH b0 (pv 0) az (aN _)) (au (aG (bu dq (bu cF (pv 1) (pv 2)) (pv 3)))) aK)
 (aj (aZ (aH b0 (pv 0) az (aN _)) (au (aG (bu dq (bu w4 (pv 1) (pv 2)) (pv 3)))) aK)
 (au (aG (bu dq (bu nX (pv 1) (pv 2)) (pv 3))))))),?_⟩
 refine aE (K:=K) (b:=decide (o="less")) (aB (bg (ae q0) ax)) (λc H1 s1=>?_) (λc H1 s1=>?_)
 ·refine aU (K:=K) (d:=.int (two o x y b)) ?_ λv H' s q=>post v H' (s1.trans s) q
  have e:two o x y b=if x < y then 1 else 0:=by unfold two;rw [if_pos (of_decide_eq_true c)]
  rw [e]
  refine xE (b:=decide (x < y)) (aB (bK (p:=λi j=>decide (i < j)) (ae (s1.dat q1)) (ae (s1.dat q2)))) (λc2=>?_) (λc2=>?_)
  ·rw [if_pos (of_decide_eq_true c2)];exact aq
  ·rw [if_neg (of_decide_eq_false c2)];exact aq
 have q0:=s1.dat q0
 have q1:=s1.dat q1
 have q2:=s1.dat q2
 have q3:=s1.dat q3
 have n1:=of_decide_eq_false c
 refine aE (K:=K) (b:=decide (o="add")) (aB (bg (ae q0) ax)) (λc H2 s2=>?_) (λc H2 s2=>?_)
 ·refine aU (K:=K) (d:=.int (two o x y b)) ?_ λv H' s q=>post v H' (s1.trans (s2.trans s)) q
  have e:two o x y b=(x+y) % b:=by unfold two;rw [if_neg n1,if_pos (of_decide_eq_true c)]
  rw [e]
  exact jM (cm (ae (s2.dat q1)) (ae (s2.dat q2))) (ae (s2.dat q3)) (by omega)
 have q0:=s2.dat q0
 have q1:=s2.dat q1
 have q2:=s2.dat q2
 have q3:=s2.dat q3
 have n2:=of_decide_eq_false c
 refine aE (K:=K) (b:=decide (o="sub")) (aB (bg (ae q0) ax)) (λc H3 s3=>?_) (λc H3 s3=>?_)
 ·refine aU (K:=K) (d:=.int (two o x y b)) ?_ λv H' s q=>post v H' (s1.trans (s2.trans (s3.trans s))) q
  have e:two o x y b=(x - y) % b:=by unfold two;rw [if_neg n1,if_neg n2,if_pos (of_decide_eq_true c)]
  rw [e]
  exact jM (xI (ae (s3.dat q1)) (ae (s3.dat q2))) (ae (s3.dat q3)) (by omega)
 have n3:=of_decide_eq_false c
 refine aU (K:=K) (d:=.int (two o x y b)) ?_ λv H' s q=>post v H' (s1.trans (s2.trans (s3.trans s))) q
 have e:two o x y b=x * y % b:=by unfold two;rw [if_neg n1,if_neg n2,if_neg n3]
 rw [e]
 exact jM (xF (ae (s3.dat q1)) (ae (s3.dat q2)) (.inr ⟨by omega,by omega⟩)) (ae (s3.dat q3)) (by omega)
theorem pN (T:Txt P w K mg) (Ha:FnOk P w K mg base CX0 k T.Ec T.Ed ["kind","first","second","size"] (spD K sC)) (Hy:FnOk P w K mg base CX0 k T.FU T.FV ["tree","args","size"] (spD K (ik n))):FnOk P w K mg base CX0 (k+1) T.FU T.FV ["tree","args","size"] (spD K (ik (n+1))):=by
 refine T.FX.ok sc_reckoned (λvs H Q E h=>?_) (λcdv A outer s H vs Q E hr h=>?_)
 ·obtain ⟨ds,d,hd,⟨t,as,b,rfl,_⟩,_⟩:=h;exact hd.length.symm
 have nd:=sc_reckoned.nd
 obtain ⟨ds,d,hd,⟨t,as,b,rfl,ht,hn,ha,rfl⟩,post⟩:=h
 obtain ⟨v0,v1,v2,rfl,q0,q1,q2⟩:=jU hd
 refine ⟨_,(aj (bq (i:=3) nd rfl (Or.inl rfl) (aV aS (pv 0) ao (λ_ _=>rfl)))
 (aj (aZ (aH b0 (pv 3) az (aN _)) (au (aG (bu dq (aV aS (pv 0) ao (λ_ _=>rfl)) (pv 2)))) aK)
 (aj (aZ (aH b0 (pv 3) az (aN _)) (au (aG (aV aS (pv 1) (aV aS (pv 0) ao (λ_ _=>rfl)) (λ_ _=>rfl)))) aK)
 (aj (bq (i:=4) nd rfl (Or.inl rfl) (aF Hy hr rfl T.HS T.FX.kp (fY T) .nil aY (ag (aV aS (pv 0) ao (λ_ _=>rfl)) (ag (pv 1) (ag (pv 2) af)))))
 (aj (aZ (aH b0 (pv 3) az (aN _)) (au (aG (aF Hy hr rfl T.HS T.FX.kp (fY T) .nil aY (ag (fh (aH b0 (pv 4) ao (aN _)) (aV aS (pv 0) ao (λ_ _=>rfl)) (aV aS (pv 0) ao (λ_ _=>rfl))) (ag (pv 1) (ag (pv 2) af)))))) aK)
 (au (aG (aF Ha hr rfl T.Hc T.E6.kp (gu T) .nil aY (ag (pv 3) (ag (pv 4) (ag (aF Hy hr rfl T.HS T.FX.kp (fY T) .nil aY (ag (aV aS (pv 0) ao (λ_ _=>rfl)) (ag (pv 1) (ag (pv 2) af)))) (ag (pv 2) af)))))))))))),?_⟩
 have hb0:0 < b:=by have:=ha.2.2.1;omega
 cases t with
 | num m =>
  have q0:Dat K H (.tup [.str "num",.int m]) v0:=q0
  refine bD (K:=K) (d:=.str "num") (ba (k:=0) (ae q0) aq rfl) λv3 H1 s1 q3=>?_
  refine aE (K:=K) (b:=true) (RT.as (aB (bg (ae q3) ax)) (xS rfl)) (λc H2 s2=>?_) (λc=>nomatch c)
  have s12:=s1.trans s2
  exact aU (K:=K) (d:=.int (m % b)) (jM (ba (k:=1) (ae (s12.dat q0)) aq rfl) (ae (s12.dat q2)) hb0) λv H' s q=>post v H' (s12.trans s) q
 | arg m =>
  have q0:Dat K H (.tup [.str "arg",.int m]) v0:=q0
  refine bD (K:=K) (d:=.str "arg") (ba (k:=0) (ae q0) aq rfl) λv3 H1 s1 q3=>?_
  refine aE (K:=K) (b:=false) (RT.as (aB (bg (ae q3) ax)) (mH (by decide +kernel))) (λc=>nomatch c) (λc H2 s2=>?_)
  refine aE (K:=K) (b:=true) (RT.as (aB (bg (ae (s2.dat q3)) ax)) (xS rfl)) (λc H3 s3=>?_) (λc=>nomatch c)
  have s13:=s1.trans (s2.trans s3)
  have em:m=((m.toNat:Nat):Int):=by have:=ht.1;omega
  refine aU (K:=K) (d:=.int (as.getD m.toNat 0)) (ba (k:=m.toNat) (ds:=as.map D.int) (ae (s13.dat q1)) (RE.as (ba (k:=1) (ae (s13.dat q0)) aq rfl) (congrArg D.int em)) ?_) λv H' s q=>post v H' (s13.trans s) q
  rw [List.getElem?_map,vB ha ht.1 ht.2]
  rfl
 | two o x y =>
  have q0:Dat K H (.tup [.str o,toD x,toD y]) v0:=q0
  obtain ⟨n1,n2,n3⟩:=Bg ht.1
  have dx:dA x≤n:=by simp only [dA] at hn;omega
  have dy:dA y≤n:=by simp only [dA] at hn;omega
  refine bD (K:=K) (d:=.str o) (ba (k:=0) (ae q0) aq rfl) λv3 H1 s1 q3=>?_
  refine aE (K:=K) (b:=false) (RT.as (aB (bg (ae q3) ax)) (mH n1)) (λc=>nomatch c) (λc H2 s2=>?_)
  refine aE (K:=K) (b:=false) (RT.as (aB (bg (ae (s2.dat q3)) ax)) (mH n2)) (λc=>nomatch c) (λc H3 s3=>?_)
  have s13:=s1.trans (s2.trans s3)
  have q0:=s13.dat q0
  have q1:=s13.dat q1
  have q2:=s13.dat q2
  have q3:=(s2.trans s3).dat q3
  refine bD (K:=K) (d:=.int (bX as b x)) (aR (R:=ik n) (aa (ba (k:=1) (ae q0) aq rfl) (aa (ae q1) (aa (ae q2) ah))) ⟨x,as,b,rfl,ht.2.1,dx,ha,rfl⟩) λv4 H4 s4 q4=>?_
  refine aE (K:=K) (b:=false) (RT.as (aB (bg (ae (s4.dat q3)) ax)) (mH n3)) (λc=>nomatch c) (λc H5 s5=>?_)
  have s45:=s4.trans s5
  have wx:=jr ha x ht.2.1
  have wy:=jr ha y ht.2.2
  refine aU (K:=K) (d:=.int (two o (bX as b x) (bX as b y) b)) (aR (R:=sC) (aa (ae (s45.dat q3)) (aa (ae (s5.dat q4)) (aa (aR (R:=ik n) (d:=.int (bX as b y)) (aa (ba (k:=2) (ae (s45.dat q0)) aq rfl) (aa (ae (s45.dat q1)) (aa (ae (s45.dat q2)) ah))) ⟨y,as,b,rfl,ht.2.2,dy,ha,rfl⟩) (aa (ae (s45.dat q2)) ah)))) ⟨o,_,_,b,rfl,ha.2.2.1,ha.2.2.2,wx.1,wx.2,wy.1,wy.2,rfl⟩) λv H' s q=>post v H' (s13.trans (s45.trans s)) q
 | pick x y z =>
  have q0:Dat K H (.tup [.str "pick",toD x,toD y,toD z]) v0:=q0
  have dx:dA x≤n:=by simp only [dA] at hn;omega
  have dy:dA y≤n:=by simp only [dA] at hn;omega
  have dz:dA z≤n:=by simp only [dA] at hn;omega
  refine bD (K:=K) (d:=.str "pick") (ba (k:=0) (ae q0) aq rfl) λv3 H1 s1 q3=>?_
  refine aE (K:=K) (b:=false) (RT.as (aB (bg (ae q3) ax)) (mH (by decide +kernel))) (λc=>nomatch c) (λc H2 s2=>?_)
  refine aE (K:=K) (b:=false) (RT.as (aB (bg (ae (s2.dat q3)) ax)) (mH (by decide +kernel))) (λc=>nomatch c) (λc H3 s3=>?_)
  have s13:=s1.trans (s2.trans s3)
  have q0:=s13.dat q0
  have q1:=s13.dat q1
  have q2:=s13.dat q2
  have q3:=(s2.trans s3).dat q3
  refine bD (K:=K) (d:=.int (bX as b x)) (aR (R:=ik n) (aa (ba (k:=1) (ae q0) aq rfl) (aa (ae q1) (aa (ae q2) ah))) ⟨x,as,b,rfl,ht.1,dx,ha,rfl⟩) λv4 H4 s4 q4=>?_
  refine aE (K:=K) (b:=true) (RT.as (aB (bg (ae (s4.dat q3)) ax)) (xS rfl)) (λc H5 s5=>?_) (λc=>nomatch c)
  have s45:=s4.trans s5
  refine aU (K:=K) (d:=.int (if bX as b x=0 then bX as b z else bX as b y)) (aR (R:=ik n) (ds:=[toD (if bX as b x=0 then z else y),.tup (as.map D.int),.int b]) (aa (xE (b:=decide (bX as b x=0)) (aB (iK (ae (s5.dat q4)) aq)) (λc=>?_) (λc=>?_)) (aa (ae (s45.dat q1)) (aa (ae (s45.dat q2)) ah))) ?_) λv H' s q=>post v H' (s13.trans (s45.trans s)) q
  ·rw [if_pos (of_decide_eq_true c)]
   exact ba (k:=3) (ae (s45.dat q0)) aq rfl
  ·rw [if_neg (of_decide_eq_false c)]
   exact ba (k:=2) (ae (s45.dat q0)) aq rfl
  ·by_cases hz:bX as b x=0
   ·rw [if_pos hz,if_pos hz]
    exact ⟨z,as,b,rfl,ht.2.2,dz,ha,rfl⟩
   ·rw [if_neg hz,if_neg hz]
    exact ⟨y,as,b,rfl,ht.2.1,dy,ha,rfl⟩
structure MS where
 pile:List Int
 place:Nat
 kept:List Nat
 ended:Bool
structure MC where
 cs:List Int
 as:List Int
 b:Int
structure yW (mc:MC):Prop where
 cs:okC mc.cs
 as:mc.as.length=4
 ai:∀ x ∈ mc.as,0≤x/\x < mc.b
 b2:2≤mc.b
 b9:mc.b≤10000
structure gy (mc:MC) (st:MS):Prop where
 p:∀ x ∈ st.pile,0≤x/\x < mc.b
 l:st.pile.length≤64
 k:st.kept.length≤16
def cZ (st:MS):Option (Int × MS):=match st.pile with
 | []=>none
 | x::r=>some (x,{ st with pile:=r })
def bJ (mc:MC) (n:Int) (st:MS):Option MS:=if st.pile.length=64 then none else some { st with pile:=(n % mc.b)::st.pile }
def kf (nm:Str) (num on:Nat) (st:MS):Option (Nat × MS) :=
 if nm ∈ (["skip","jump"]:List Str) then some (on+num,st)
 else if nm ∈ (["zero","none"]:List Str) then (cZ st).map λp=>(if p.1=0 then on+num else on,p.2)
 else if nm="call" then (if st.kept.length=16 then none else some (num,{ st with kept:=on::st.kept }))
 else match st.kept with
  | []=>none
  | k::r=>some (k,{ st with kept:=r })
def gY (st:MS):Option MS:=if st.pile.length=1 then some { st with ended:=true } else none
def dE (mc:MC) (nm:Str) (num:Nat) (st:MS):Option MS :=
 if nm ∈ (["put","far"]:List Str) then bJ mc num st
 else if nm="load" then bJ mc (mc.as.getD num 0) st
 else (cZ st).bind λu =>
  if nm="more" then bJ mc (u.1+num) u.2
  else if nm="twice" then (bJ mc u.1 u.2).bind λs=>bJ mc u.1 s
  else if nm="about" then (cZ u.2).bind λl=>(bJ mc u.1 l.2).bind λs=>bJ mc l.1 s
  else (cZ u.2).bind λl=>bJ mc (two nm l.1 u.1 mc.b) l.2
structure MA where
 m:Addr
 dx:Addr
 lp:Addr
 lk:Addr
 lc:Addr
 vg:V
def mF (A:MA) (mc:MC) (st:MS):List (Str × V):=[("cells",.ref A.lc),("given",A.vg),("size",.int mc.b),("pile",.ref A.lp),("place",.int st.place),("kept",.ref A.lk),("ended",.bl st.ended)]
def pV (l:List Int):List V:=l.reverse.map V.int
def kpV (l:List Nat):List V:=l.reverse.map λ(n:Nat)=>V.int n
theorem tE (x:Int) (l:List Int):pV (x::l)=pV l++[.int x]:=by unfold pV;rw [List.reverse_cons,List.map_append];rfl
theorem pq (x:Nat) (l:List Nat):kpV (x::l)=kpV l++[.int x]:=by unfold kpV;rw [List.reverse_cons,List.map_append];rfl
theorem Bk (l:List Int):(pV l).length=l.length:=by unfold pV;rw [List.length_map,List.length_reverse]
theorem yN (l:List Nat):(kpV l).length=l.length:=by unfold kpV;rw [List.length_map,List.length_reverse]
structure MacAt (K:PySem.W.Frag) (C:Addr) (A:MA) (mc:MC) (st:MS) (H:Hp):Prop where
 ins:H A.m=some (.ins C A.dx (mF A mc st))
 cells:H A.lc=some (.lst (mc.cs.map V.int))
 given:Dat K H (.tup (mc.as.map D.int)) A.vg
 pile:H A.lp=some (.lst (pV st.pile))
 kept:H A.lk=some (.lst (kpV st.kept))
 ne:A.lp≠A.lk
 c1:A.lc≠A.lp
 c2:A.lc≠A.lk
def ButM (A:MA) (H H':Hp):Prop:=∀ x o,x≠A.m->x≠A.lp->x≠A.lk->H x=some o->H' x=some o
variable {A:MA}
theorem ButM.trans {H1 H2:Hp} (a:ButM A H H1) (b:ButM A H1 H2):ButM A H H2:=λx o n1 n2 n3 e=>b x o n1 n2 n3 (a x o n1 n2 n3 e)
variable {H':Hp}
theorem cU (s:Same H H'):ButM A H H':=λx o _ _ _ e=>s x o e
theorem ButM.lp {o:HO}:ButM A H (upd H A.lp o):=λx u _ n _ e=>by rw [aD n];exact e
theorem ButM.lk {o:HO}:ButM A H (upd H A.lk o):=λx u _ _ n e=>by rw [aD n];exact e
theorem ButM.m {o:HO}:ButM A H (upd H A.m o):=λx u n _ _ e=>by rw [aD n];exact e
section
variable {C:Addr} {A:MA} {mc:MC} {st:MS} {H H':Hp}
theorem MacAt.same (M:MacAt K C A mc st H) (s:Same H H'):MacAt K C A mc st H':=⟨s _ _ M.ins,s _ _ M.cells,s.dat M.given,s _ _ M.pile,s _ _ M.kept,M.ne,M.c1,M.c2⟩
theorem MacAt.np (M:MacAt K C A mc st H):A.m≠A.lp:=λz=>by have:=M.ins;rw [z,M.pile] at this;cases this
theorem MacAt.nk (M:MacAt K C A mc st H):A.m≠A.lk:=λz=>by have:=M.ins;rw [z,M.kept] at this;cases this
theorem kI {b:Addr} {o o':HO} (h:H b=some o) (ho:(∃ xs,o=.lst xs)\/∃ C dx fs,o=.ins C dx fs) (hl:∀ xs,o=.lst xs->∃ ys,o'=.lst ys):cT K H (upd H b o'):=by
 refine ⟨λa xs q=>?_,λa xs q=>?_⟩
 ·rcases q with (q | ⟨u,q⟩) | q
  ·refine .inl (.inl ?_)
   rw [aD (λz=>?_)]
   ·exact q
   ·rw [z,h] at q;rcases ho with ⟨_,rfl⟩ | ⟨_,_,_,rfl⟩ <;> cases q
  ·refine .inl (.inr ⟨u,?_⟩)
   rw [aD (λz=>?_)]
   ·exact q
   ·rw [z,h] at q;rcases ho with ⟨_,rfl⟩ | ⟨_,_,_,rfl⟩ <;> cases q
  ·exact .inr q
 ·by_cases hab:a=b
  ·subst hab
   rcases q with (q | ⟨u,q⟩) | q
   ·rw [h] at q
    cases q
    obtain ⟨ys,rfl⟩:=hl _ rfl
    exact ⟨ys,SqL.of av⟩
   ·rw [h] at q;rcases ho with ⟨_,rfl⟩ | ⟨_,_,_,rfl⟩ <;> cases q
   ·exact ⟨xs,.inr q⟩
  ·rcases q with (q | ⟨u,q⟩) | q
   ·exact ⟨xs,.inl (.inl (by rw [aD hab];exact q))⟩
   ·exact ⟨xs,.inl (.inr ⟨u,by rw [aD hab];exact q⟩)⟩
   ·exact ⟨xs,.inr q⟩
theorem MacAt.setPile (M:MacAt K C A mc st H) (r:List Int):MacAt K C A mc { st with pile:=r } (upd H A.lp (.lst (pV r))) :=
 ⟨by rw [aD M.np];exact M.ins,by rw [aD M.c1];exact M.cells,Dat.mono (kI M.pile (.inl ⟨_,rfl⟩) λ_ _=>⟨_,rfl⟩) _ M.given,av,by rw [aD (Ne.symm M.ne)];exact M.kept,M.ne,M.c1,M.c2⟩
theorem MacAt.setKept (M:MacAt K C A mc st H) (r:List Nat):MacAt K C A mc { st with kept:=r } (upd H A.lk (.lst (kpV r))) :=
 ⟨by rw [aD M.nk];exact M.ins,by rw [aD M.c2];exact M.cells,Dat.mono (kI M.kept (.inl ⟨_,rfl⟩) λ_ _=>⟨_,rfl⟩) _ M.given,by rw [aD M.ne];exact M.pile,av,M.ne,M.c1,M.c2⟩
theorem MacAt.nc (M:MacAt K C A mc st H):A.m≠A.lc:=λz=>by have:=M.ins;rw [z,M.cells] at this;cases this
theorem MacAt.setM (M:MacAt K C A mc st H) {st':MS} {fs:List (Str × V)} (e:fs=mF A mc st') (hp:st'.pile=st.pile) (hk:st'.kept=st.kept):MacAt K C A mc st' (upd H A.m (.ins C A.dx fs)):=by
 subst e
 exact ⟨av,by rw [aD (Ne.symm M.nc)];exact M.cells,Dat.mono (kI M.ins (.inr ⟨_,_,_,rfl⟩) λ_ z=>by cases z) _ M.given,by rw [aD (Ne.symm M.np),hp];exact M.pile,by rw [aD (Ne.symm M.nk),hk];exact M.kept,M.ne,M.c1,M.c2⟩
theorem jJ (p:Nat):gf "place" (.int p) (mF A mc st)=mF A mc { st with place:=p }:=by kernel_rfl
theorem uJ (b:Bool):gf "ended" (.bl b) (mF A mc st)=mF A mc { st with ended:=b }:=by kernel_rfl
variable {i:Nat} {f:Str} {σ:L2.St}
theorem ff {v:V} {Q:VK} (M:MacAt K C A mc st H) (c:Cls K C) (n:NoAttr K C f) (q:Q v H) (l:(mF A mc st).lookup f=some v:=by kernel_rfl) (e:σ[i]?=some (some (.ref A.m)):=by rfl):jo K (cx i) f σ H Q :=
 ⟨_,e,A.m,C,A.dx,_,v,rfl,M.ins,c,n,l,q⟩
theorem km {z:Int} (M:MacAt K C A mc st H) (c:Cls K C) (n:NoAttr K C f) (l:(mF A mc st).lookup f=some (.int z):=by kernel_rfl) (e:σ[i]?=some (some (.ref A.m)):=by rfl):RE K (jo K (cx i) f) σ H (.int z) :=
 λ_ s _ q=>ff (M.same s) c n (q _ _ (Same.refl _) (Dat.intI z)) l e
theorem om (M:MacAt K C A mc st H) (c:Cls K C) (n:NoAttr K C "pile") (e:σ[i]?=some (some (.ref A.m)):=by rfl):RL K (jo K (cx i) "pile") σ H (st.pile.reverse.map D.int) :=
 λ_ s _ q=>ff (M.same s) c n (q _ _ (Same.refl _) (LD.of (M.same s).pile (eW _))) (by kernel_rfl) e
theorem zK (M:MacAt K C A mc st H) (c:Cls K C) (n:NoAttr K C "cells") (e:σ[i]?=some (some (.ref A.m)):=by rfl):RL K (jo K (cx i) "cells") σ H (cD mc.cs) :=
 λ_ s _ q=>ff (M.same s) c n (q _ _ (Same.refl _) (LD.of (M.same s).cells (eW _))) (by kernel_rfl) e
theorem yO (l:List Nat):kpV l=(l.reverse.map λ(n:Nat)=>(n:Int)).map V.int:=by unfold kpV;rw [List.map_map];rfl
theorem zL (M:MacAt K C A mc st H) (c:Cls K C) (n:NoAttr K C "kept") (e:σ[i]?=some (some (.ref A.m)):=by rfl):RL K (jo K (cx i) "kept") σ H ((st.kept.reverse.map λ(n:Nat)=>(n:Int)).map D.int) :=
 λ_ s _ q=>ff (M.same s) c n (q _ _ (Same.refl _) (LD.of ((M.same s).kept.trans (by rw [yO])) (eW _))) (by kernel_rfl) e
theorem zD (M:MacAt K C A mc st H) (c:Cls K C) (n:NoAttr K C "given") (e:σ[i]?=some (some (.ref A.m)):=by rfl):RE K (jo K (cx i) "given") σ H (.tup (mc.as.map D.int)) :=
 λ_ s _ q=>ff (M.same s) c n (q _ _ (Same.refl _) (M.same s).given) (by kernel_rfl) e
theorem ko {l:Addr} {xs:List V} (M:MacAt K C A mc st H) (c:Cls K C) (n:NoAttr K C f) (hl:H l=some (.lst xs)) (lk:(mF A mc st).lookup f=some (.ref l):=by kernel_rfl) (e:σ[i]?=some (some (.ref A.m)):=by rfl):RT (λσ H Q=>jo K (cx i) f σ H λx H'=>∃ k,qx K x H' k/\Q k H') σ H (!xs.isEmpty) :=
 λH1 s Q q=>ff (v:=.ref l) (Q:=λx H'=>∃ k,qx K x H' k/\Q k H') (M.same s) c n ⟨_,.inl ⟨_,SqL.of (s _ _ hl),rfl⟩,q _ (Same.refl _)⟩ lk e
theorem jx {N:Addr} {E:XK} (M:MacAt K C A mc st H) (c:Cls K C) (n:NoAttr K C "place") (q:∀ dx,H dx=none->E (.ref N) (some dx) (upd H dx (.xd [("place",.int st.place)]))) (e:σ[i]?=some (some (.ref A.m)):=by rfl) :
  bj (jo K (cx i) "place") ck σ H (λvs H1=>∃ v,vs=[v]/\∀ dx,H1 dx=none->E (.ref N) (some dx) (upd H1 dx (.xd [("place",v)]))) :=
 ff (Q:=λv H1=>ck σ H1 λvs H2=>∃ w,v::vs=[w]/\∀ dx,H2 dx=none->E (.ref N) (some dx) (upd H2 dx (.xd [("place",w)]))) M c n ⟨_,rfl,q⟩ (by kernel_rfl) e
def MOut (K:PySem.W.Frag) (N C:Addr) (A:MA) (mc:MC) (st:MS) (H:Hp) (Q:VK) (E:XK) (o:Option (V × MS)):Prop :=
 (∀ v st',o=some (v,st')->∀ H',ButM A H H'->MacAt K C A mc st' H'->Q v H')/\(o=none->∀ H' dx,ButM A H H'->H' dx=some (.xd [("place",.int st.place)])->E (.ref N) (some dx) H')
end
def oA (K:PySem.W.Frag) (N C:Addr):Sp:=λvs H Q E=>∃ A mc st,vs=[.ref A.m]/\MacAt K C A mc st H/\MOut K N C A mc st H Q E ((cZ st).map λp=>(.int p.1,p.2))
def r8 (K:PySem.W.Frag) (N C:Addr):Sp:=λvs H Q E=>∃ A mc st n,vs=[.ref A.m,.int n]/\MacAt K C A mc st H/\2≤mc.b/\st.pile.length≤64/\MOut K N C A mc st H Q E ((bJ mc n st).map λs=>(.non,s))
def AA (K:PySem.W.Frag) (N C:Addr):Sp:=λvs H Q E=>∃ A mc st,vs=[.ref A.m]/\MacAt K C A mc st H/\MOut K N C A mc st H Q E ((gY st).map λs=>(.non,s))
def AC (K:PySem.W.Frag) (N C:Addr):Sp:=λvs H Q E=>∃ A mc st nm num on,vs=[.ref A.m,.str nm,.int (num:Nat),.int (on:Nat)]/\MacAt K C A mc st H/\st.kept.length≤16/\MOut K N C A mc st H Q E ((kf nm num on st).map λp=>(.int p.1,p.2))
theorem j8 (T:Txt P w K mg) (C5:FnOk P w K mg base CX0 k T.Gu T.Fq ["self","place"] (dO T.C1 "place")):FnOk P w K mg base (CX2 P w) (k+1+1) T.EF T.EJ ["self"] (oA K T.C1 T.C0):=by
 refine T.HN.ok2 sc_Machine_take (λvs H Q E h=>?_) (λcdv A outer s H vs Q E hr h=>?_)
 ·obtain ⟨A,mc,st,rfl,_⟩:=h;rfl
 have nd:=sc_Machine_take.nd
 obtain ⟨A,mc,st,rfl,M,ok,bad⟩:=h
 refine ⟨_,(aj (aZ (bV (bh (cg (pv 0) rfl) (λ_=>rfl))) (au (cv T.Gi C5 (cV T) hr d9 rfl T.Eb (ag (cg (pv 0) rfl) af))) aK)
 (au (aG (rD PySem.F.plainAttrs_list PySem.F.slot_list_pop PySem.F.type_list_pop qZ (cg (pv 0) rfl))))),?_⟩
 obtain ⟨pile,place,kept,ended⟩:=st
 cases pile with
 | nil =>
  refine aE (K:=K) (b:=true) (bw (ko M T.cl_Machine T.na_pile M.pile)) (λ_ H1 s1=>?_) (λc=>nomatch c)
  exact jx (M.same s1) T.cl_Machine T.na_place λdx n=>bad rfl _ dx (cU (s1.trans (aC n _))) av
 | cons x r =>
  have e:pV (x::r)=pV r++[.int x]:=tE x r
  refine aE (K:=K) (b:=false) (RT.as (bw (ko M T.cl_Machine T.na_pile M.pile)) ?_) (λc=>nomatch c) (λ_ H1 s1=>?_)
  ·show (!!(pV (x::r)).isEmpty)=false
   rw [e]
   cases pV r <;> rfl
  ·have M:=M.same s1
   have hp:H1 A.lp=some (.lst (pV r++[.int x])):=by rw [← e];exact M.pile
   refine ff (v:=.ref A.lp) (Q:=λx H1=>tyV K "list" x H1/\zu x [] H1 Q) M T.cl_Machine T.na_pile ⟨.inl ⟨rfl,_,SqL.of hp⟩,A.lp,_,.int x,rfl,rfl,hp,by simp,?_⟩
   rw [List.dropLast_concat]
   exact ok (.int x) _ rfl _ ((cU s1).trans ButM.lp) (M.setPile r)
section
variable {N C:Addr} {A:MA} {mc:MC} {st st1:MS} {H H1:Hp} {Q:VK} {E:XK} {o:Option (V × MS)}
theorem MOut.on (h:MOut K N C A mc st H Q E o) (b:ButM A H H1) (hp:st1.place=st.place):MOut K N C A mc st1 H1 Q E o :=
 ⟨λv st' e H' b' M'=>h.1 v st' e H' (b.trans b') M',λe H' dx b' hd=>h.2 e H' dx (b.trans b') (by rw [← hp];exact hd)⟩
variable {i:Nat} {σ:L2.St}
theorem og (M:MacAt K C A mc st H) (h:MOut K N C A mc st H Q E ((cZ st).map λp=>(.int p.1,p.2))) (e:σ[i]?=some (some (.ref A.m)):=by rfl):m5 C "take" (oA K N C) [] E (cx i) ck σ H Q :=
 ⟨_,e,A.m,A.dx,_,rfl,M.ins,by kernel_rfl,A,mc,st,rfl,M,h⟩
variable {te:TE} {n:Int}
theorem iI (hn:RE K te σ H (.int n)) (M:MacAt K C A mc st H) (b2:2≤mc.b) (l:st.pile.length≤64) (h:MOut K N C A mc st H Q E ((bJ mc n st).map λs=>(.non,s))) (e:σ[i]?=some (some (.ref A.m)):=by rfl) :
  m5 C "push" (r8 K N C) [] E (cx i) (bj te ck) σ H Q :=
 ⟨_,e,A.m,A.dx,_,rfl,M.ins,by kernel_rfl,hn.use λv H1 s q=>⟨A,mc,st,n,by rw [q.intE];rfl,M.same s,b2,l,h.on (cU s) rfl⟩⟩
variable {f:Str} {l:Addr} {xs:List V}
theorem sJ {z:Int} (M:MacAt K C A mc st H) (c:Cls K C) (n:NoAttr K C f) (hl:H l=some (.lst xs)) (hx:xs.length≤900) (h:RE K te σ H (.int z)) (q:∀ H',Same H H'->Q .non (upd H' l (.lst (xs++[.int z]))))
  (lk:(mF A mc st).lookup f=some (.ref l):=by kernel_rfl) (e:σ[i]?=some (some (.ref A.m)):=by rfl):tBM K "list" kj (jo K (cx i) f) (bj te ck) σ H Q :=
 ff (v:=.ref l) (Q:=λx H1=>tyV K "list" x H1/\bj te ck σ H1 λxs H2=>kj x xs H2 Q) M c n ⟨.inl ⟨rfl,_,SqL.of hl⟩,h.use λv H1 s q1=>⟨l,xs,_,rfl,rfl,s _ _ hl,d8 (by omega),by rw [q1.intE];exact q H1 s⟩⟩ lk e
theorem zo {z:V} (M:MacAt K C A mc st H) (c:Cls K C) (n:NoAttr K C f) (hl:H l=some (.lst (xs++[z]))) (q:Q z (upd H l (.lst xs)))
  (lk:(mF A mc st).lookup f=some (.ref l):=by kernel_rfl) (e:σ[i]?=some (some (.ref A.m)):=by rfl):Cq K "list" zu (jo K (cx i) f) σ H Q :=
 ff (v:=.ref l) (Q:=λx H1=>tyV K "list" x H1/\zu x [] H1 Q) M c n ⟨.inl ⟨rfl,_,SqL.of hl⟩,l,_,z,rfl,rfl,hl,by simp,by rw [List.dropLast_concat];exact q⟩ lk e
theorem ib {p:Int × MS} (h:cZ st=some p):p.2.place=st.place/\p.2.kept=st.kept/\st.pile=p.1::p.2.pile/\p.2.ended=st.ended:=by
 unfold cZ at h
 split at h
 ·cases h
 ·rename_i x r e
  cases h
  exact ⟨rfl,rfl,e,rfl⟩
theorem ki {s:MS} (h:bJ mc n st=some s):s.place=st.place/\s.kept=st.kept/\s.pile=n % mc.b::st.pile/\st.pile.length≠64/\s.ended=st.ended:=by
 unfold bJ at h
 split at h
 ·cases h
 ·rename_i hl
  cases h
  exact ⟨rfl,rfl,rfl,hl,rfl⟩
end
theorem sQ {p q:Prop} [Decidable p] [Decidable q] (h:p↔q):decide p=decide q:=decide_eq_decide.mpr h
theorem j6 (T:Txt P w K mg) (C5:FnOk P w K mg base CX0 k T.Gu T.Fq ["self","place"] (dO T.C1 "place")):FnOk P w K mg base (CX2 P w) (k+1+1) T.Fe T.Fj ["self","number"] (r8 K T.C1 T.C0):=by
 refine T.HK.ok2 sc_Machine_push (λvs H Q E h=>?_) (λcdv A outer s H vs Q E hr h=>?_)
 ·obtain ⟨A,mc,st,n,rfl,_⟩:=h;rfl
 have nd:=sc_Machine_push.nd
 obtain ⟨A,mc,st,n,rfl,M,b2,hl,ok,bad⟩:=h
 refine ⟨_,(aj (aZ (aH b0 (aJ aP rfl T.EV bU (ag (cg (pv 0) rfl) af)) (aQ (v:=.int 64) rfl T.F5 ⟨_,rfl⟩) (aN _)) (au (cv T.Gi C5 (cV T) hr d9 rfl T.Eb (ag (cg (pv 0) rfl) af))) aK)
 (au (aX (cy PySem.F.plainAttrs_list PySem.F.slot_list_append PySem.F.type_list_append dB (cg (pv 0) rfl) (ag (bu dq (pv 1) (cg (pv 0) rfl)) af))))),?_⟩
 have ed:decide ((((st.pile.reverse.map D.int).length:Nat):Int)=64)=decide (st.pile.length=64):=sQ (by rw [List.length_map,List.length_reverse];omega)
 refine aE (K:=K) (b:=decide (st.pile.length=64)) (RT.as (aB (iK (fA (om M T.cl_Machine T.na_pile)) aq)) ed) (λc H1 s1=>?_) (λc H1 s1=>?_)
 ·exact jx (M.same s1) T.cl_Machine T.na_place λdx n=>bad (by unfold bJ;rw [if_pos (of_decide_eq_true c)];rfl) _ dx (cU (s1.trans (aC n _))) av
 ·have M:=M.same s1
  have c:=of_decide_eq_false c
  have lp:=Bk st.pile
  refine sJ M T.cl_Machine T.na_pile M.pile (by omega) (jM (ae (k:=1) (Dat.intI n)) (km (z:=mc.b) M T.cl_Machine T.na_size) (by omega)) λH2 s2=>?_
  have e:=(M.same s2).setPile (n % mc.b::st.pile)
  rw [tE] at e
  exact ok .non _ (by unfold bJ;rw [if_neg c];rfl) _ ((cU (s1.trans s2)).trans ButM.lp) e
theorem iY (T:Txt P w K mg) (C5:FnOk P w K mg base CX0 k T.Gu T.Fq ["self","place"] (dO T.C1 "place")):FnOk P w K mg base (CX2 P w) (k+1+1) T.EE T.EI ["self"] (AA K T.C1 T.C0):=by
 refine T.GB.ok2 sc_Machine_finish (λvs H Q E h=>?_) (λcdv A outer s H vs Q E hr h=>?_)
 ·obtain ⟨A,mc,st,rfl,_⟩:=h;rfl
 have nd:=sc_Machine_finish.nd
 obtain ⟨A,mc,st,rfl,M,ok,bad⟩:=h
 refine ⟨_,(aj (aZ (aH lB (aJ aP rfl T.EV bU (ag (cg (pv 0) rfl) af)) ao (aN _)) (au (cv T.Gi C5 (cV T) hr d9 rfl T.Eb (ag (cg (pv 0) rfl) af))) aK)
 (au (gc (pv 0) cf rfl))),?_⟩
 have ed:(!decide ((((st.pile.reverse.map D.int).length:Nat):Int)=1))=!decide (st.pile.length=1):=congrArg Bool.not (sQ (by rw [List.length_map,List.length_reverse];omega))
 refine aE (K:=K) (b:=!decide (st.pile.length=1)) (RT.as (aB (gS (fA (om M T.cl_Machine T.na_pile)) aq)) ed) (λc H1 s1=>?_) (λc H1 s1=>?_)
 ·have c:=of_decide_eq_false ((Bool.not_eq_true' _).mp c)
  exact jx (M.same s1) T.cl_Machine T.na_place λdx n=>bad (by unfold gY;rw [if_neg c];rfl) _ dx (cU (s1.trans (aC n _))) av
 ·have M:=M.same s1
  have c:=of_decide_eq_true ((Bool.not_eq_false' _).mp c)
  refine ⟨_,rfl,A.m,_,A.dx,_,rfl,M.ins,T.cl_Machine,T.na_ended,by show 7 < 1000;decide,?_⟩
  exact ok .non { st with ended:=true } (by unfold gY;rw [if_pos c];rfl) _ ((cU s1).trans ButM.m) (M.setM (uJ true) rfl rfl)
theorem kZ (T:Txt P w K mg) (C5:FnOk P w K mg base CX0 k T.Gu T.Fq ["self","place"] (dO T.C1 "place")) (Fb:FnOk P w K mg base (CX2 P w) (k+1) T.EF T.EJ ["self"] (oA K T.C1 T.C0)):FnOk P w K mg base (CX2 P w) (k+1+1) T.FJ T.FN ["self","name","number","onward"] (AC K T.C1 T.C0):=by
 refine T.Ih.ok2 sc_Machine_way (λvs H Q E h=>?_) (λcdv A outer s H vs Q E hr h=>?_)
 ·obtain ⟨A,mc,st,nm,num,on,rfl,_⟩:=h;rfl
 have nd:=sc_Machine_way.nd
 obtain ⟨A,mc,st,nm,num,on,rfl,M,hk,ok,bad⟩:=h
 refine ⟨_,(aj (aZ (aH eY (pv 1) (ay (ag az (ag az af))) (by with_unfolding_all rfl)) (au (aG (bu cF (pv 3) (pv 2)))) aK)
 (aj (aZ (aH eY (pv 1) (ay (ag az (ag az af))) (by with_unfolding_all rfl)) (au (aG (fh (aH b0 (gP (pv 0) T.cl_Machine T.mt_Machine_take Fb hr (dD T) .nil dC) ao (aN _)) (bu cF (pv 3) (pv 2)) (pv 3)))) aK)
 (aj (aZ (aH b0 (pv 1) az (aN _)) (aj (aZ (aH b0 (aJ aP rfl T.EV bU (ag (cg (pv 0) rfl) af)) (aQ (v:=.int 16) rfl T.F4 ⟨_,rfl⟩) (aN _)) (au (cv T.Gi C5 (cV T) hr d9 rfl T.Eb (ag (cg (pv 0) rfl) af))) aK)
 (aj (aX (cy PySem.F.plainAttrs_list PySem.F.slot_list_append PySem.F.type_list_append dB (cg (pv 0) rfl) (ag (pv 3) af)))
 (au (aG (pv 2))))) aK)
 (aj (aZ (bV (bh (cg (pv 0) rfl) (λ_=>rfl))) (au (cv T.Gi C5 (cV T) hr d9 rfl T.Eb (ag (cg (pv 0) rfl) af))) aK)
 (au (aG (rD PySem.F.plainAttrs_list PySem.F.slot_list_pop PySem.F.type_list_pop qZ (cg (pv 0) rfl)))))))),?_⟩
 refine aE (K:=K) (b:=decide (nm ∈ (["skip","jump"]:List Str))) (aB (lI (ys:=["skip","jump"]) (ae (k:=1) (Dat.strI nm)) (aA (aa ax (aa ax ah))))) (λc H1 s1=>?_) (λc H1 s1=>?_)
 ·have c:=of_decide_eq_true c
  refine aU (K:=K) (d:=.int ((on:Int)+num)) (cm (ae (k:=3) (Dat.intI _)) (ae (k:=2) (Dat.intI _))) λv H2 s2 q=>?_
  rw [q.intE]
  exact ok _ st (by unfold kf;rw [if_pos c];show some (V.int ((on+num:Nat):Int),st)=_;rw [Int.natCast_add]) _ (cU (s1.trans s2)) (M.same (s1.trans s2))
 have n1:=of_decide_eq_false c
 have M:=M.same s1
 refine aE (K:=K) (b:=decide (nm ∈ (["zero","none"]:List Str))) (aB (lI (ys:=["zero","none"]) (ae (k:=1) (Dat.strI nm)) (aA (aa ax (aa ax ah))))) (λc H2 s2=>?_) (λc H2 s2=>?_)
 ·have c:=of_decide_eq_true c
  have M:=M.same s2
  have s12:=s1.trans s2
  have ew:kf nm num on st=(cZ st).map λp=>(if p.1=0 then on+num else on,p.2):=by unfold kf;rw [if_neg n1,if_pos c]
  rw [ew] at ok bad
  refine og M ⟨λv st' e H3 b3 M3=>?_,λe H3 dx b3 hd=>?_⟩
  ·obtain ⟨p,hp,e2⟩:=Option.map_eq_some_iff.mp e
   cases e2
   refine ⟨rfl,_,rfl,?_⟩
   have es:decide (V.int p.1=V.int 0)=decide (p.1=0):=sQ ⟨λz=>V.int.inj z,λz=>by rw [z]⟩
   rw [es]
   rw [hp] at ok
   by_cases hz:p.1=0
   ·rw [decide_eq_true hz]
    refine ph ⟨_,rfl,_,rfl,on,num,rfl,rfl,?_⟩
    exact ok _ p.2 (by show some (V.int ((if p.1=0 then on+num else on:Nat):Int),p.2)=_;rw [if_pos hz,Int.natCast_add]) _ ((cU s12).trans b3) M3
   ·rw [decide_eq_false hz]
    refine qU ⟨_,rfl,?_⟩
    exact ok _ p.2 (by show some (V.int ((if p.1=0 then on+num else on:Nat):Int),p.2)=_;rw [if_neg hz]) _ ((cU s12).trans b3) M3
  ·have e:cZ st=none:=by simpa using e
   exact bad (by rw [e];rfl) H3 dx ((cU s12).trans b3) hd
 have n2:=of_decide_eq_false c
 have M:=M.same s2
 have s12:=s1.trans s2
 refine aE (K:=K) (b:=decide (nm="call")) (aB (bg (ae (K:=K) (k:=1) (Dat.strI nm)) ax)) (λc H3 s3=>?_) (λc H3 s3=>?_)
 ·have c:=of_decide_eq_true c
  have M:=M.same s3
  have s13:=s12.trans s3
  have ew:kf nm num on st=if st.kept.length=16 then none else some (num,{ st with kept:=on::st.kept }):=by unfold kf;rw [if_neg n1,if_neg n2,if_pos c]
  rw [ew] at ok bad
  have ed:decide (((((st.kept.reverse.map λ(n:Nat)=>(n:Int)).map D.int).length:Nat):Int)=16)=decide (st.kept.length=16):=sQ (by rw [List.length_map,List.length_map,List.length_reverse];omega)
  refine aE (K:=K) (b:=decide (st.kept.length=16)) (RT.as (aB (iK (fA (zL M T.cl_Machine T.na_kept)) aq)) ed) (λc H4 s4=>?_) (λc H4 s4=>?_)
  ·exact jx (M.same s4) T.cl_Machine T.na_place λdx n=>bad (by rw [if_pos (of_decide_eq_true c)];rfl) _ dx (cU (s13.trans (s4.trans (aC n _)))) av
  ·have M:=M.same s4
   have c:=of_decide_eq_false c
   have lk:=yN st.kept
   refine dv (sJ M T.cl_Machine T.na_kept M.kept (by omega) (ae (k:=3) (Dat.intI _)) λH5 s5=>?_)
   have e:=(M.same s5).setKept (on::st.kept)
   rw [pq] at e
   exact ⟨_,rfl,ok _ _ (by rw [if_neg c];rfl) _ ((cU (s13.trans (s4.trans s5))).trans ButM.lk) e⟩
 have n3:=of_decide_eq_false c
 have M:=M.same s3
 have s13:=s12.trans s3
 obtain ⟨pile,place,kept,ended⟩:=st
 cases kept with
 | nil =>
  refine aE (K:=K) (b:=true) (bw (ko M T.cl_Machine T.na_kept M.kept)) (λ_ H4 s4=>?_) (λc=>nomatch c)
  exact jx (M.same s4) T.cl_Machine T.na_place λdx n=>bad (by unfold kf;rw [if_neg n1,if_neg n2,if_neg n3];rfl) _ dx (cU (s13.trans (s4.trans (aC n _)))) av
 | cons x r =>
  have e:kpV (x::r)=kpV r++[.int x]:=pq x r
  refine aE (K:=K) (b:=false) (RT.as (bw (ko M T.cl_Machine T.na_kept M.kept)) ?_) (λc=>nomatch c) (λ_ H4 s4=>?_)
  ·show (!!(kpV (x::r)).isEmpty)=false
   rw [e]
   cases kpV r <;> rfl
  ·have M:=M.same s4
   have hp:H4 A.lk=some (.lst (kpV r++[.int x])):=by rw [← e];exact M.kept
   exact zo M T.cl_Machine T.na_kept hp (ok (.int x) _ (by unfold kf;rw [if_neg n1,if_neg n2,if_neg n3];rfl) _ ((cU (s13.trans s4)).trans ButM.lk) (M.setKept r))
def Az (K:PySem.W.Frag) (N C:Addr):Sp:=λvs H Q E=>∃ A mc st nm num,vs=[.ref A.m,.str nm,.int (num:Nat)]/\MacAt K C A mc st H/\yW mc/\gy mc st/\(nm="load"->num≤3)/\MOut K N C A mc st H Q E ((dE mc nm num st).map λs=>(.non,s))
section
variable {N C:Addr} {A:MA} {mc:MC} {st:MS} {H:Hp} {Q:VK} {E:XK} {n:Int} {k:MS->Option MS}
variable {Q1:VK}
theorem tH (h:MOut K N C A mc st H Q E (((bJ mc n st).bind k).map λs=>(.non,s))) (q:∀ s,bJ mc n st=some s->∀ H',ButM A H H'->MacAt K C A mc s H'->Q1 .non H'):MOut K N C A mc st H Q1 E ((bJ mc n st).map λs=>(.non,s)):=by
 refine ⟨λv st' e H' b M'=>?_,λe H' dx b hd=>?_⟩
 ·obtain ⟨s,hs,e2⟩:=Option.map_eq_some_iff.mp e
  cases e2
  exact q _ hs H' b M'
 ·have e:bJ mc n st=none:=by simpa using e
  exact h.2 (by rw [e];rfl) H' dx b hd
theorem oF {k:Int × MS->Option MS} (h:MOut K N C A mc st H Q E (((cZ st).bind k).map λs=>(.non,s))) (q:∀ p,cZ st=some p->∀ H',ButM A H H'->MacAt K C A mc p.2 H'->Q1 (.int p.1) H'):MOut K N C A mc st H Q1 E ((cZ st).map λp=>(.int p.1,p.2)):=by
 refine ⟨λv st' e H' b M'=>?_,λe H' dx b hd=>?_⟩
 ·obtain ⟨p,hs,e2⟩:=Option.map_eq_some_iff.mp e
  cases e2
  exact q _ hs H' b M'
 ·have e:cZ st=none:=by simpa using e
  exact h.2 (by rw [e];rfl) H' dx b hd
theorem i5 {p:Int × MS} (o:gy mc st) (h:cZ st=some p):gy mc p.2/\0≤p.1/\p.1 < mc.b/\p.2.pile.length+1=st.pile.length:=by
 obtain ⟨_,hk,hp,_⟩:=ib h
 have l:=o.l
 rw [hp,List.length_cons] at l
 refine ⟨⟨λx hx=>o.p x (by rw [hp];exact List.mem_cons_of_mem _ hx),by omega,by rw [hk];exact o.k⟩,?_⟩
 have:=o.p p.1 (by rw [hp];exact List.mem_cons_self)
 exact ⟨this.1,this.2,by rw [hp,List.length_cons]⟩
theorem nU {s:MS} (b2:2≤mc.b) (o:gy mc st) (h:bJ mc n st=some s):gy mc s:=by
 obtain ⟨_,hk,hp,hl,_⟩:=ki h
 have l:=o.l
 refine ⟨λx hx=>?_,by rw [hp,List.length_cons];omega,by rw [hk];exact o.k⟩
 rw [hp] at hx
 rcases List.mem_cons.mp hx with z | z
 ·rw [z];exact ⟨Int.emod_nonneg _ (by omega),Int.emod_lt_of_pos _ (by omega)⟩
 ·exact o.p x z
end
theorem iX (T:Txt P w K mg) (Fb:FnOk P w K mg base (CX2 P w) k T.EF T.EJ ["self"] (oA K T.C1 T.C0)) (Dw:FnOk P w K mg base (CX2 P w) k T.Fe T.Fj ["self","number"] (r8 K T.C1 T.C0)) (Ha:FnOk P w K mg base CX0 k T.Ec T.Ed ["kind","first","second","size"] (spD K sC)):FnOk P w K mg base (CX2 P w) (k+1) T.ED T.EH ["self","name","number"] (Az K T.C1 T.C0):=by
 refine T.GA.ok2 sc_Machine_change (λvs H Q E h=>?_) (λcdv A outer s H vs Q E hr h=>?_)
 ·obtain ⟨A,mc,st,nm,num,rfl,_⟩:=h;rfl
 have nd:=sc_Machine_change.nd
 obtain ⟨A,mc,st,nm,num,rfl,M,oc,os,hld,out⟩:=h
 have b2:=oc.b2
 refine ⟨_,(aj (aZ (aH eY (pv 1) (ay (ag az (ag az af))) (by with_unfolding_all rfl)) (aj (aX (eF (pv 0) T.cl_Machine T.mt_Machine_push Dw hr (bT T) .nil dC (ag (pv 2) af)))
 (au tF)) aK)
 (aj (aZ (aH b0 (pv 1) az (aN _)) (aj (aX (eF (pv 0) T.cl_Machine T.mt_Machine_push Dw hr (bT T) .nil dC (ag (aV aS (cg (pv 0) rfl) (pv 2) (λ_ _=>rfl)) af)))
 (au tF)) aK)
 (aj (bq (i:=3) nd rfl (Or.inl rfl) (gP (pv 0) T.cl_Machine T.mt_Machine_take Fb hr (dD T) .nil dC))
 (au (aZ (aH b0 (pv 1) az (aN _)) (au (aX (eF (pv 0) T.cl_Machine T.mt_Machine_push Dw hr (bT T) .nil dC (ag (bu cF (pv 3) (pv 2)) af)))) (au (aZ (aH b0 (pv 1) az (aN _)) (aj (aX (eF (pv 0) T.cl_Machine T.mt_Machine_push Dw hr (bT T) .nil dC (ag (pv 3) af)))
 (au (aX (eF (pv 0) T.cl_Machine T.mt_Machine_push Dw hr (bT T) .nil dC (ag (pv 3) af))))) (au (aZ (aH b0 (pv 1) az (aN _)) (aj (bq (i:=4) nd rfl (Or.inl rfl) (gP (pv 0) T.cl_Machine T.mt_Machine_take Fb hr (dD T) .nil dC))
 (aj (aX (eF (pv 0) T.cl_Machine T.mt_Machine_push Dw hr (bT T) .nil dC (ag (pv 3) af)))
 (au (aX (eF (pv 0) T.cl_Machine T.mt_Machine_push Dw hr (bT T) .nil dC (ag (pv 4) af)))))) (au (aX (eF (pv 0) T.cl_Machine T.mt_Machine_push Dw hr (bT T) .nil dC (ag (aF Ha hr rfl T.Hc T.E6.kp (gu T) .nil aY (ag (pv 1) (ag (gP (pv 0) T.cl_Machine T.mt_Machine_take Fb hr (dD T) .nil dC) (ag (pv 3) (ag (cg (pv 0) rfl) af))))) af))))))))))))),?_⟩
 refine aE (K:=K) (b:=decide (nm ∈ (["put","far"]:List Str))) (aB (lI (ys:=["put","far"]) (ae (k:=1) (Dat.strI nm)) (aA (aa ax (aa ax ah))))) (λc H1 s1=>?_) (λc H1 s1=>?_)
 ·have ew:dE mc nm num st=bJ mc num st:=by unfold dE;rw [if_pos (of_decide_eq_true c)]
  rw [ew] at out
  have out:=MOut.on (st1:=st) out (cU s1) rfl
  refine dv (iI (ae (k:=2) (Dat.intI (num:Int))) (M.same s1) b2 os.l ⟨λv st' e H' b M'=>?_,out.2⟩)
  obtain ⟨s,hs,e2⟩:=Option.map_eq_some_iff.mp e
  cases e2
  exact out.1 _ _ e H' b M'
 have n1:=of_decide_eq_false c
 have M:=M.same s1
 have out:=MOut.on (st1:=st) out (cU s1) rfl
 refine aE (K:=K) (b:=decide (nm="load")) (aB (bg (ae (K:=K) (k:=1) (Dat.strI nm)) ax)) (λc H2 s2=>?_) (λc H2 s2=>?_)
 ·have c:=of_decide_eq_true c
  have ew:dE mc nm num st=bJ mc (mc.as.getD num 0) st:=by unfold dE;rw [if_neg n1,if_pos c]
  rw [ew] at out
  have out:=MOut.on (st1:=st) out (cU s2) rfl
  have M:=M.same s2
  have ln:=hld c
  have la:=oc.as
  have hg:(mc.as.map D.int)[num]?=some (.int (mc.as.getD num 0)):=by
   rw [List.getElem?_map,List.getElem?_eq_getElem (by omega:num < mc.as.length),List.getD_eq_getElem?_getD,List.getElem?_eq_getElem (by omega:num < mc.as.length)]
   rfl
  refine dv (iI (ba (k:=num) (zD M T.cl_Machine T.na_given) (ae (k:=2) (Dat.intI (num:Int))) hg) M b2 os.l ⟨λv st' e H' b M'=>?_,out.2⟩)
  obtain ⟨s,hs,e2⟩:=Option.map_eq_some_iff.mp e
  cases e2
  exact out.1 _ _ e H' b M'
 have n2:=of_decide_eq_false c
 have M:=M.same s2
 have out:=MOut.on (st1:=st) out (cU s2) rfl
 have ew:dE mc nm num st=(cZ st).bind λu =>
  if nm="more" then bJ mc (u.1+num) u.2
  else if nm="twice" then (bJ mc u.1 u.2).bind λs=>bJ mc u.1 s
  else if nm="about" then (cZ u.2).bind λl=>(bJ mc u.1 l.2).bind λs=>bJ mc l.1 s
  else (cZ u.2).bind λl=>bJ mc (two nm l.1 u.1 mc.b) l.2:=by unfold dE;rw [if_neg n1,if_neg n2]
 rw [ew] at out
 refine d6 (og M (oF out λu hu H3 b3 M=>?_))
 obtain ⟨ou,u0,u1,ul⟩:=i5 os hu
 have pu:=(ib hu).1
 rw [hu] at out
 have out:=MOut.on (st1:=u.2) out b3 pu
 have out:MOut K T.C1 T.C0 A mc u.2 H3 Q E ((if nm="more" then bJ mc (u.1+num) u.2
  else if nm="twice" then (bJ mc u.1 u.2).bind λs=>bJ mc u.1 s
  else if nm="about" then (cZ u.2).bind λl=>(bJ mc u.1 l.2).bind λs=>bJ mc l.1 s
  else (cZ u.2).bind λl=>bJ mc (two nm l.1 u.1 mc.b) l.2).map λs=>(.non,s)):=out
 refine jh (b:=decide (nm="more")) (aB (bg (ae (K:=K) (k:=1) (Dat.strI nm)) ax)) (λc H4 s4=>?_) (λc H4 s4=>?_)
 ·rw [if_pos (of_decide_eq_true c)] at out
  have out:=MOut.on (st1:=u.2) out (cU s4) rfl
  refine iI (cm (ae (k:=3) (Dat.intI u.1)) (ae (k:=2) (Dat.intI (num:Int)))) (M.same s4) b2 ou.l ⟨λv st' e H' b M'=>?_,out.2⟩
  obtain ⟨s,hs,e2⟩:=Option.map_eq_some_iff.mp e
  cases e2
  exact out.1 _ _ e H' b M'
 rw [if_neg (of_decide_eq_false c)] at out
 have M:=M.same s4
 have out:=MOut.on (st1:=u.2) out (cU s4) rfl
 refine jh (b:=decide (nm="twice")) (aB (bg (ae (K:=K) (k:=1) (Dat.strI nm)) ax)) (λc H5 s5=>?_) (λc H5 s5=>?_)
 ·rw [if_pos (of_decide_eq_true c)] at out
  have out:=MOut.on (st1:=u.2) out (cU s5) rfl
  refine dv (iI (ae (k:=3) (Dat.intI u.1)) (M.same s5) b2 ou.l (tH out λs hs H6 b6 M6=>?_))
  rw [hs] at out
  have out:MOut K T.C1 T.C0 A mc s H6 Q E ((bJ mc u.1 s).map λs=>(.non,s)):=MOut.on out b6 (ki hs).1
  refine iI (ae (k:=3) (Dat.intI u.1)) M6 b2 (nU b2 ou hs).l ⟨λv st' e H' b M'=>?_,out.2⟩
  obtain ⟨s',hs',e2⟩:=Option.map_eq_some_iff.mp e
  cases e2
  exact out.1 _ _ e H' b M'
 rw [if_neg (of_decide_eq_false c)] at out
 have M:=M.same s5
 have out:=MOut.on (st1:=u.2) out (cU s5) rfl
 refine jh (b:=decide (nm="about")) (aB (bg (ae (K:=K) (k:=1) (Dat.strI nm)) ax)) (λc H6 s6=>?_) (λc H6 s6=>?_)
 ·rw [if_pos (of_decide_eq_true c)] at out
  have out:=MOut.on (st1:=u.2) out (cU s6) rfl
  refine d6 (og (M.same s6) (oF out λl hl H7 b7 M7=>?_))
  obtain ⟨ol,l0,l1,ll⟩:=i5 ou hl
  rw [hl] at out
  have out:MOut K T.C1 T.C0 A mc l.2 H7 Q E (((bJ mc u.1 l.2).bind λs=>bJ mc l.1 s).map λs=>(.non,s)):=MOut.on out b7 (ib hl).1
  refine dv (iI (ae (k:=3) (Dat.intI u.1)) M7 b2 ol.l (tH out λs hs H8 b8 M8=>?_))
  rw [hs] at out
  have out:MOut K T.C1 T.C0 A mc s H8 Q E ((bJ mc l.1 s).map λs=>(.non,s)):=MOut.on out b8 (ki hs).1
  refine iI (ae (k:=4) (Dat.intI l.1)) M8 b2 (nU b2 ol hs).l ⟨λv st' e H' b M'=>?_,out.2⟩
  obtain ⟨s',hs',e2⟩:=Option.map_eq_some_iff.mp e
  cases e2
  exact out.1 _ _ e H' b M'
 ·rw [if_neg (of_decide_eq_false c)] at out
  have M:=M.same s6
  have out:=MOut.on (st1:=u.2) out (cU s6) rfl
  refine ⟨_,rfl,A.m,A.dx,_,rfl,M.ins,by kernel_rfl,_,rfl,?_⟩
  refine og M (oF out λl hl H7 b7 M7=>?_)
  obtain ⟨ol,l0,l1,ll⟩:=i5 ou hl
  rw [hl] at out
  have out:MOut K T.C1 T.C0 A mc l.2 H7 Q E ((bJ mc (two nm l.1 u.1 mc.b) l.2).map λs=>(.non,s)):=MOut.on out b7 (ib hl).1
  refine ⟨_,rfl,ff (v:=.int mc.b) M7 T.cl_Machine T.na_size ?_⟩
  refine ⟨[.str nm,.int l.1,.int u.1,.int mc.b],.int (two nm l.1 u.1 mc.b),Dats.cons (Dat.strI nm) (Dats.cons (Dat.intI _) (Dats.cons (Dat.intI _) (Dats.cons (Dat.intI _) Dats.nil))),⟨nm,l.1,u.1,mc.b,rfl,b2,oc.b9,l0,l1,u0,u1,rfl⟩,λv H8 s8 q8=>?_⟩
  have out:=MOut.on (st1:=l.2) out (cU s8) rfl
  refine ⟨A,mc,l.2,_,by rw [q8.intE];rfl,M7.same s8,b2,ol.l,⟨λv st' e H' b M'=>?_,out.2⟩⟩
  obtain ⟨s',hs',e2⟩:=Option.map_eq_some_iff.mp e
  cases e2
  exact out.1 _ _ e H' b M'
def nsC (cs:List Int) (p:Nat) (c:Int):List Int:=(cs.drop (p+1)).take (cH c)
def pG (cs:List Int) (p:Nat) (c:Int):Nat:=(rf (nsC cs p c)).toNat
def zU (nm:Str) (num:Nat):Bool:=decide (jQ nm TTO num < (num:Int))
abbrev WS:List Str:=["skip","jump","zero","none","call","back"]
def doM (mc:MC) (nm:Str) (num on:Nat) (st:MS):Option MS :=
 if nm ∈ WS then (kf nm num on st).map λp=>{ p.2 with place:=p.1 }
 else if nm="end" then (gY st).map λs=>{ s with place:=on }
 else (dE mc nm num st).map λs=>{ s with place:=on }
def gv (mc:MC) (st:MS):Option MS:=match mc.cs[st.place]? with
 | none=>none
 | some c=>if nv mc.cs st.place c=true then none else if zU (nmC c) (pG mc.cs st.place c)=true then none
  else doM mc (nmC c) (pG mc.cs st.place c) (st.place+1+cH c) st
theorem yp (cs:List Int) (p:Nat) (c:Int):iC cs p (cH c)=(nsC cs p c).map D.int:=by
 unfold iC nsC
 rw [List.map_take,List.map_drop]
theorem Ak (ok:okC cs):(nsC cs p c).length≤2/\∀ n ∈ nsC cs p c,0≤n/\n≤99:=by
 unfold nsC
 refine ⟨by rw [List.length_take];have:=yr c;omega,λn hn=>?_⟩
 obtain ⟨i,hi⟩:=List.mem_iff_getElem?.mp (List.mem_of_mem_drop (List.mem_of_mem_take hn))
 exact ok.c i n hi
theorem yU (ok:okC cs):rf (nsC cs p c)=((pG cs p c:Nat):Int)/\pG cs p c≤9999:=by
 obtain ⟨h1,h2⟩:=Ak (p:=p) (c:=c) ok
 have:=wX h1 h2
 unfold pG
 omega
theorem yl:∀ p ∈ TTO,∃ i,p.2=.flat (.int i):=by
 intro p hp
 simp only [TTO,List.mem_cons,List.not_mem_nil,or_false] at hp
 rcases hp with rfl | rfl | rfl <;> exact ⟨_,rfl⟩
theorem yQ {num:Nat} (h:zU "load" num=false):num≤3:=by
 have h:=of_decide_eq_false h
 have e:jQ "load" TTO num=3:=by kernel_rfl
 rw [e] at h
 omega
variable {mc:MC} {st:MS}
theorem xQ (h:oS mc.cs st.place=true):gv mc st=none:=by
 unfold gv
 cases hc:mc.cs[st.place]? with
 | none=>rfl
 | some c =>
  have h':nv mc.cs st.place c=true:=by unfold oS at h;rw [hc] at h;exact h
  exact if_pos h'
theorem uV (h:oS mc.cs st.place=false):∃ c,mc.cs[st.place]?=some c/\nv mc.cs st.place c=false:=by
 cases hc:mc.cs[st.place]? with
 | none =>
  have h':true=false:=by unfold oS at h;rw [hc] at h;exact h
  cases h'
 | some c=>exact ⟨c,rfl,by unfold oS at h;rw [hc] at h;exact h⟩
def r9 (K:PySem.W.Frag) (N C:Addr):Sp:=λvs H Q E=>∃ A mc st,vs=[.ref A.m]/\MacAt K C A mc st H/\yW mc/\gy mc st/\MOut K N C A mc st H Q E ((gv mc st).map λs=>(.non,s))
theorem j7 (T:Txt P w K mg) (C5:FnOk P w K mg base CX0 k T.Gu T.Fq ["self","place"] (dO T.C1 "place")) (Gz:FnOk P w K mg base (CX2 P w) (k+1) T.Ds T.Du ["cells","place"] (r6 K "place" sE (sv T.C1))) (Ke:FnOk P w K mg base CX0 (k+1) T.FM T.FQ ["behind"] (spD K vq)) (Kb:FnOk P w K mg base (CX2 P w) (k+1) T.FJ T.FN ["self","name","number","onward"] (AC K T.C1 T.C0)) (JK:FnOk P w K mg base (CX2 P w) (k+1) T.EE T.EI ["self"] (AA K T.C1 T.C0)) (JJ:FnOk P w K mg base (CX2 P w) (k+1) T.ED T.EH ["self","name","number"] (Az K T.C1 T.C0)):FnOk P w K mg base (CX2 P w) (k+1+1) T.Ff T.Fl ["self"] (r9 K T.C1 T.C0):=by
 refine T.HL.ok2 sc_Machine_step (λvs H Q E h=>?_) (λcdv A outer s H vs Q E hr h=>?_)
 ·obtain ⟨A,mc,st,rfl,_⟩:=h;rfl
 have nd:=sc_Machine_step.nd
 obtain ⟨A,mc,st,rfl,M,oc,os,out⟩:=h
 have okc:=oc.cs
 refine ⟨_,(aj (dY (aF Gz hr rfl T.GG T.DK.kp (fK T) .nil dC (ag (cg (pv 0) rfl) (ag (cg (pv 0) rfl) af))) (fj rfl (bf (aM (i:=1) nd rfl (Or.inl rfl)) (bf (aM (i:=2) nd rfl (Or.inl rfl)) dF))))
 (aj (bq (i:=3) nd rfl (Or.inl rfl) (aF Ke hr rfl T.Jr T.GJ.kp (lY T) .nil aY (ag (pv 2) af)))
 (aj (aZ (aH mO (pv 3) (mQ (aQ (v:=.ref T.HY) rfl T.F6 rfl) (pv 1) (pv 3) ⟨rfl,rfl,rfl,rfl⟩) (aN _)) (au (cv T.Gi C5 (cV T) hr d9 rfl T.Eb (ag (cg (pv 0) rfl) af))) aK)
 (aj (bq (i:=4) nd rfl (Or.inl rfl) (bu cF (bu cF (cg (pv 0) rfl) ao) (aJ aP rfl T.EV bU (ag (pv 2) af))))
 (aj (aZ (aH eY (pv 1) (aQ (v:=.ref T.Kn) rfl T.JN rfl) (by with_unfolding_all rfl)) (au (bq (i:=4) nd rfl (Or.inl rfl) (eF (pv 0) T.cl_Machine T.mt_Machine_way Kb hr (lV T) .nil dC (ag (pv 1) (ag (pv 3) (ag (pv 4) af)))))) (au (aZ (aH b0 (pv 1) az (aN _)) (au (aX (gP (pv 0) T.cl_Machine T.mt_Machine_finish JK hr (ju T) .nil dC))) (au (aX (eF (pv 0) T.cl_Machine T.mt_Machine_change JJ hr (jt T) .nil dC (ag (pv 1) (ag (pv 3) af))))))))
 (au (gc (pv 0) (pv 4) rfl))))))),?_⟩
 have rA:RB K (bj (jo K (cx 0) "cells") (bj (jo K (cx 0) "place") ck)) (cS ["self","name","behind","number","onward"] [.ref A.m]) H [.l (cD mc.cs),.d (.int st.place)]:=CP (zK M T.cl_Machine T.na_cells) (Bz (km (z:=st.place) M T.cl_Machine T.na_place) xA)
 cases hbp:oS mc.cs st.place with
 | true =>
  have e:gv mc st=none:=xQ hbp
  exact jN (R:=sE) (B:=sv T.C1) rA ⟨mc.cs,st.place,rfl,okc,hbp,rfl,rfl⟩ λH1 dx s1 hd=>out.2 (by rw [e];rfl) H1 dx (cU s1) hd
 | false =>
  obtain ⟨c,hc,hb⟩:=uV hbp
  obtain ⟨h16,hlt⟩:=Ac hb
  obtain ⟨en,n9⟩:=yU (p:=st.place) (c:=c) okc
  obtain ⟨l2,n2⟩:=Ak (p:=st.place) (c:=c) okc
  have lb:(iC mc.cs st.place (cH c)).length=cH c:=by rw [kB];omega
  have e:gv mc st=if zU (nmC c) (pG mc.cs st.place c)=true then none else doM mc (nmC c) (pG mc.cs st.place c) (st.place+1+cH c) st:=by
   unfold gv
   rw [hc]
   dsimp only
   rw [if_neg (by rw [hb];exact Bool.false_ne_true)]
  rw [e] at out
  refine gh (K:=K) (d:=.str (nmC c)) (e:=.tup (iC mc.cs st.place (cH c))) (mS (R:=sE) (B:=sv T.C1) rA ⟨mc.cs,st.place,c,rfl,okc,hc,hb,rfl⟩) λv1 v2 H1 s1 h1 h2=>?_
  obtain rfl:=h1.strE
  generalize nmC c=nm at *
  generalize hnum:pG mc.cs st.place c=num at *
  refine bD (K:=K) (d:=.int num) (RE.as (aR (R:=vq) (aa (ae (k:=2) h2) ah) ⟨nsC mc.cs st.place c,by rw [yp],l2,n2,rfl⟩) (by rw [en])) λv3 H2 s2 h3=>?_
  obtain rfl:=h3.intE
  have h2:=s2.dat h2
  have s12:=s1.trans s2
  have M:=M.same s12
  have out:=MOut.on (st1:=st) out (cU s12) rfl
  refine aE (K:=K) (b:=zU nm num) (aB (bK (p:=λi j=>decide (j < i)) (ae (k:=3) (Dat.intI (num:Int))) (mT T.F7 (ae (k:=1) (Dat.strI nm)) (ae (k:=3) (Dat.intI (num:Int))) yl))) (λct H3 s3=>?_) (λct H3 s3=>?_)
  ·exact jx (M.same s3) T.cl_Machine T.na_place λdx n=>out.2 (by rw [if_pos ct];rfl) _ dx (cU (s3.trans (aC n _))) av
  ·have M:=M.same s3
   have out:=MOut.on (st1:=st) out (cU s3) rfl
   rw [if_neg (by rw [ct];exact Bool.false_ne_true)] at out
   have h2:=s3.dat h2
   have eo:(st.place:Int)+1+((iC mc.cs st.place (cH c)).length:Int)=((st.place+1+cH c:Nat):Int):=by rw [lb];omega
   refine bD (K:=K) (d:=.int ((st.place+1+cH c:Nat):Int)) (RE.as (cm (cm (km (z:=st.place) M T.cl_Machine T.na_place) aq) (bW (ae (k:=2) h2))) (congrArg D.int eo)) λv4 H4 s4 h4=>?_
   obtain rfl:=h4.intE
   have M:=M.same s4
   have out:=MOut.on (st1:=st) out (cU s4) rfl
   generalize st.place+1+cH c=on at *
   refine dI (RT.use (b:=decide (nm ∈ WS)) (aB (lI (ys:=WS) (ae (K:=K) (k:=1) (Dat.strI nm)) (dZ T.KQ))) λH5 s5=>?_)
   have M:=M.same s5
   have out:=MOut.on (st1:=st) out (cU s5) rfl
   by_cases hw:nm ∈ WS
   ·rw [decide_eq_true hw]
    refine ph ⟨_,rfl,A.m,A.dx,_,rfl,M.ins,by kernel_rfl,_,rfl,_,rfl,_,rfl,A,mc,st,nm,num,on,rfl,M,os.k,λv st' ew H6 b6 M6=>?_,λew H6 dx b6 hd=>?_⟩
    ·obtain ⟨p,hp,e2⟩:=Option.map_eq_some_iff.mp ew
     cases e2
     refine ⟨_,rfl,_,rfl,A.m,_,A.dx,_,rfl,M6.ins,T.cl_Machine,T.na_place,by show 7 < 1000;decide,?_⟩
     exact out.1 .non { p.2 with place:=p.1 } (by unfold doM;rw [if_pos hw,hp];rfl) _ (b6.trans ButM.m) (M6.setM (jJ p.1) rfl rfl)
    ·have ew:kf nm num on st=none:=by simpa using ew
     exact out.2 (by unfold doM;rw [if_pos hw,ew];rfl) H6 dx b6 hd
   ·rw [decide_eq_false hw]
    refine qU (RT.use (b:=decide (nm="end")) (aB (bg (ae (K:=K) (k:=1) (Dat.strI nm)) ax)) λH6 s6=>?_)
    have M:=M.same s6
    have out:=MOut.on (st1:=st) out (cU s6) rfl
    by_cases he:nm="end"
    ·rw [decide_eq_true he]
     refine ph ⟨_,rfl,A.m,A.dx,_,rfl,M.ins,by kernel_rfl,A,mc,st,rfl,M,λv st' ew H7 b7 M7=>?_,λew H7 dx b7 hd=>?_⟩
     ·obtain ⟨s',hs',e2⟩:=Option.map_eq_some_iff.mp ew
      cases e2
      refine ⟨_,rfl,_,rfl,A.m,_,A.dx,_,rfl,M7.ins,T.cl_Machine,T.na_place,by show 7 < 1000;decide,?_⟩
      exact out.1 .non { st' with place:=on } (by unfold doM;rw [if_neg hw,if_pos he,hs'];rfl) _ (b7.trans ButM.m) (M7.setM (jJ on) rfl rfl)
     ·have ew:gY st=none:=by simpa using ew
      exact out.2 (by unfold doM;rw [if_neg hw,if_pos he,ew];rfl) H7 dx b7 hd
    ·rw [decide_eq_false he]
     refine qU ⟨_,rfl,A.m,A.dx,_,rfl,M.ins,by kernel_rfl,_,rfl,_,rfl,A,mc,st,nm,num,rfl,M,oc,os,?_,λv st' ew H7 b7 M7=>?_,λew H7 dx b7 hd=>?_⟩
     ·rintro rfl
      exact yQ ct
     ·obtain ⟨s',hs',e2⟩:=Option.map_eq_some_iff.mp ew
      cases e2
      refine ⟨_,rfl,_,rfl,A.m,_,A.dx,_,rfl,M7.ins,T.cl_Machine,T.na_place,by show 7 < 1000;decide,?_⟩
      exact out.1 .non { st' with place:=on } (by unfold doM;rw [if_neg hw,if_neg he,hs'];rfl) _ (b7.trans ButM.m) (M7.setM (jJ on) rfl rfl)
     ·have ew:dE mc nm num st=none:=by simpa using ew
      exact out.2 (by unfold doM;rw [if_neg hw,if_neg he,ew];rfl) H7 dx b7 hd
theorem oW {x:Addr} {C dx:Addr} {fs:List (Str × V)} (b:But x H H') (h:H x=some (.ins C dx fs)):cT K H H':=by
 refine ⟨λa xs q=>?_,λa xs q=>⟨xs,?_⟩⟩
 ·rcases q with (q | ⟨u,q⟩) | q
  ·exact .inl (.inl (b _ _ (λz=>by rw [z,h] at q;cases q) q))
  ·exact .inl (.inr ⟨u,b _ _ (λz=>by rw [z,h] at q;cases q) q⟩)
  ·exact .inr q
 ·rcases q with (q | ⟨u,q⟩) | q
  ·exact .inl (.inl (b _ _ (λz=>by rw [z,h] at q;cases q) q))
  ·exact .inl (.inr ⟨u,b _ _ (λz=>by rw [z,h] at q;cases q) q⟩)
  ·exact .inr q
variable {tl:TE} {es:List D}
theorem zM {f:Str} {x:Addr} (h:RC K tl σ H es) (q:∀ l ys H',H l=none->Same H H'->H' l=some (.lst ys)->Dats K H' es ys->∃ C dx fs,H' x=some (.ins C dx fs)/\Cls K C/\NoAttr K C f/\fs.length < 1000/\us En σ (upd H' x (.ins C dx (gf f (.ref l) fs))))
  (e:σ[i]?=some (some (.ref x)):=by rfl):iL (Ck K (cx i) tl f) us En σ H :=
 h.use λl ys H' n s hy dy=>let ⟨C,dx,fs,a1,a2,a3,a4,a5⟩:=q l ys H' n s hy dy;⟨_,e,x,C,dx,fs,rfl,a1,a2,a3,a4,a5⟩
def Co (K:PySem.W.Frag) (C:Addr):Sp:=λvs H Q _=>∃ (x dx lc:Addr) (vg v4:V) (mc:MC) (r:List Int),vs=[.ref x,.ref lc,vg,.int mc.b,v4]/\H x=some (.ins C dx [])/\H lc=some (.lst (mc.cs.map V.int))/\Dat K H (.tup (mc.as.map D.int)) vg/\LD K H (r.reverse.map D.int) v4/\r.length≤900 /\
 ∀ (A:MA) (H':Hp),A.m=x->A.dx=dx->A.lc=lc->A.vg=vg->But x H H'->H A.lp=none->H A.lk=none->MacAt K C A mc ⟨r,0,[],false⟩ H'->Q .non H'
theorem ig (T:Txt P w K mg)  : FnOk P w K mg base CX0 (k+1) T.D1 T.D4 ["self","cells","given","size","pile"] (Co K T.C0):=by
 refine T.FW.ok sc_Machine___init__ (λvs H Q E h=>?_) (λcdv A outer s H vs Q E hr h=>?_)
 ·obtain ⟨x,dx,lc,vg,v4,mc,r,rfl,_⟩:=h;rfl
 have nd:=sc_Machine___init__.nd
 obtain ⟨x,dx,lc,vg,v4,mc,r,rfl,hx,hc,hg,hp,lr,post⟩:=h
 refine ⟨_,(aj (gc (pv 0) (pv 1) rfl)
 (aj (gc (pv 0) (pv 2) rfl)
 (aj (gc (pv 0) (pv 3) rfl)
 (aj (gc (pv 0) (bP iR rfl T.Jv gX (ag (pv 4) af)) rfl)
 (aj (gc (pv 0) ao rfl)
 (aj (gc (pv 0) (bp af) rfl)
 (au (gc (pv 0) cf rfl)))))))),?_⟩
 have ncx:lc≠x:=λz=>by rw [z,hx] at hc;cases hc
 refine ⟨_,rfl,_,rfl,x,_,dx,_,rfl,hx,T.cl_Machine,T.na_cells,by show 0 < 1000;decide,?_⟩
 refine ⟨_,rfl,_,rfl,x,_,dx,_,rfl,av,T.cl_Machine,T.na_given,by show 1 < 1000;decide,?_⟩
 refine ⟨_,rfl,_,rfl,x,_,dx,_,rfl,av,T.cl_Machine,T.na_size,by show 2 < 1000;decide,?_⟩
 generalize e3:upd (upd (upd H x _) x _) x _=H3
 have b3:But x H H3:=by rw [← e3];exact But.upd (But.upd (But.upd (Same.refl _).but))
 have x3:H3 x=some (.ins T.C0 dx [("cells",.ref lc),("given",vg),("size",.int mc.b)]):=by rw [← e3,av];kernel_rfl
 have p3:LD K H3 (r.reverse.map D.int) v4:=by
  obtain ⟨l,vs,e,hq,hd⟩:=hp
  refine ⟨l,vs,e,?_,Dats.mono (oW b3 hx) _ hd⟩
  rcases hq with q | q
  ·exact .inl (b3 _ _ (λz=>by rw [z,hx] at q;cases q) q)
  ·exact .inr q
 refine zM (K:=K) (x:=x) (rH (dH (k:=4) p3)) λlp ys H4 np s4 hy dy=>?_
 obtain rfl:=o6 dy
 refine ⟨_,dx,_,s4 _ _ x3,T.cl_Machine,T.na_pile,by show 3 < 1000;decide,?_⟩
 refine ⟨_,rfl,x,_,dx,_,rfl,av,T.cl_Machine,T.na_place,by show 4 < 1000;decide,?_⟩
 generalize e6:upd (upd H4 x _) x _=H6
 have b6:But x H H6:=by rw [← e6];exact But.upd (But.upd (b3.trans s4.but))
 have npx:lp≠x:=λz=>by rw [z,x3] at np;cases np
 have p6:H6 lp=some (.lst (pV r)):=by rw [← e6,aD npx,aD npx];exact hy
 have x6:H6 x=some (.ins T.C0 dx [("cells",.ref lc),("given",vg),("size",.int mc.b),("pile",.ref lp),("place",.int 0)]):=by rw [← e6,av];kernel_rfl
 refine ⟨eM (by decide),λlk nk=>?_⟩
 have nkx:lk≠x:=λz=>by rw [z,x6] at nk;cases nk
 have nkp:lp≠lk:=λz=>by rw [← z,p6] at nk;cases nk
 have c6:H6 lc=some (.lst (mc.cs.map V.int)):=b6 _ _ ncx hc
 have nck:lc≠lk:=λz=>by rw [← z,c6] at nk;cases nk
 have ncp:lc≠lp:=λz=>by rw [← z,b3 _ _ ncx hc] at np;cases np
 refine ⟨_,rfl,x,_,dx,_,rfl,by rw [aD (Ne.symm nkx)];exact x6,T.cl_Machine,T.na_kept,by show 5 < 1000;decide,?_⟩
 refine ⟨_,rfl,x,_,dx,_,rfl,av,T.cl_Machine,T.na_ended,by show 6 < 1000;decide,?_⟩
 generalize e9:upd (upd (upd H6 lk _) x _) x _=H9
 have b9:But x H6 H9:=by rw [← e9];exact But.upd (But.upd (aC nk _).but)
 have k9:H9 lk=some (.lst (kpV [])):=by rw [← e9,aD nkx,aD nkx,av];rfl
 have x9:H9 x=some (.ins T.C0 dx (mF ⟨x,dx,lp,lk,lc,vg⟩ mc ⟨r,0,[],false⟩)):=by rw [← e9,av];kernel_rfl
 have nH:∀ b,b≠x->H6 b=none->H b=none:=λb z n=>by
  cases e:H b with
  | none=>rfl
  | some o=>rw [b6 _ _ z e] at n;cases n
 have nH3:∀ b,b≠x->H3 b=none->H b=none:=λb z n=>by
  cases e:H b with
  | none=>rfl
  | some o=>rw [b3 _ _ z e] at n;cases n
 exact post ⟨x,dx,lp,lk,lc,vg⟩ H9 rfl rfl rfl rfl (b6.trans b9) (nH3 _ npx np) (nH _ nkx nk) ⟨x9,b9 _ _ ncx c6,Dat.mono (oW (b6.trans b9) hx) _ hg,b9 _ _ npx p6,k9,nkp,ncp,nck⟩
def BJ:Sp:=λ_ _ _ _=>False
theorem Ag {CX:CXT} {f:Addr} {fd:FuncData} {ps:List Str}:FnOk P w K mg base CX k f fd ps BJ:=⟨λ_ _ _ _ h=>h.elim,λ_ _ _ _ _ _ _ _ _ _ _ _ _ h=>h.elim⟩
def qw (ds:List D) (d:D):Prop:=∃ x,ds=[x]/\cN x=true/\d=.non
def qp (N:Addr) (ds:List D) (C:Addr):Prop:=∃ x,ds=[x]/\cN x=false/\C=N
def qv (ds:List D) (d:D):Prop:=∃ x,ds=[x,.int 5]/\bO x 2 5=true/\d=.non
def qo (N:Addr) (ds:List D) (C:Addr):Prop:=∃ x,ds=[x,.int 5]/\bO x 2 5=false/\C=N
def iz (ds:List D) (d:D):Prop:=∃ x,ds=[x]/\iW x/\cz x=some true/\d=.non
def kq (N:Addr) (ds:List D) (C:Addr):Prop:=∃ x,ds=[x]/\iW x/\(cz x).getD false=false/\C=N
theorem nS (T:Txt P w K mg) (KP:FnOk P w K mg base CX0 k T.Io T.Iz ["thing"] (spD K sI)):FnOk P w K mg base (CX2 P w) (k+1) T.GO T.GR ["tree"] (spE K qw (qp T.C4)):=by
 refine T.Ia.ok2 sc_need_tree (λvs H Q E h=>?_) (λcdv A outer s H vs Q E hr h=>?_)
 ·obtain ⟨ds,hd,h⟩:=h;rcases h with ⟨d,⟨x,rfl,_⟩,_⟩ | ⟨C,⟨x,rfl,_⟩,_⟩ <;> exact hd.length.symm
 have nd:=sc_need_tree.nd
 obtain ⟨ds,hd,h⟩:=h
 obtain ⟨x,rfl⟩:∃ x,ds=[x]:=by rcases h with ⟨d,⟨x,e,_⟩,_⟩ | ⟨C,⟨x,e,_⟩,_⟩ <;> exact ⟨x,e⟩
 obtain ⟨v0,rfl,h0⟩:=dQ hd
 refine ⟨_,(au (aZ (bV (bh (aF KP hr rfl T.Kj T.Jl.kp (ua T) .nil aY (ag (pv 0) af)) (λ_=>rfl))) (au (jI PySem.F.excBase_ValueError rfl PySem.F.excBase_ValueError T.IH d9 rfl T.HQ (ag az af))) aK)),?_⟩
 refine jh (b:=!cN x) (bw (aW (aR (aa (ae h0) ah) ⟨x,rfl,rfl⟩))) (λc H1 s1=>?_) (λc H1 s1=>?_)
 ·rcases h with ⟨d,⟨y,e,h1,_⟩,_⟩ | ⟨C,⟨y,e,h1,rfl⟩,post⟩
  ·cases e
   rw [h1] at c;cases c
  ·exact ⟨eM (by decide),post _ s1⟩
 ·rcases h with ⟨d,⟨y,e,h1,rfl⟩,post⟩ | ⟨C,⟨y,e,h1,rfl⟩,post⟩
  ·exact post _ _ s1 Dat.nonI
  ·cases e
   rw [h1] at c;cases c
theorem nR (T:Txt P w K mg) (DF:FnOk P w K mg base CX0 k T.Ey T.Ez ["thing","low","high"] (spD K dS)):FnOk P w K mg base (CX2 P w) (k+1) T.GN T.GQ ["size","most"] (spE K qv (qo T.C3)):=by
 refine T.GS.ok2 sc_need_size (λvs H Q E h=>?_) (λcdv A outer s H vs Q E hr h=>?_)
 ·obtain ⟨ds,hd,h⟩:=h;rcases h with ⟨d,⟨x,rfl,_⟩,_⟩ | ⟨C,⟨x,rfl,_⟩,_⟩ <;> exact hd.length.symm
 have nd:=sc_need_size.nd
 obtain ⟨ds,hd,h⟩:=h
 obtain ⟨x,rfl⟩:∃ x,ds=[x,.int 5]:=by rcases h with ⟨d,⟨x,e,_⟩,_⟩ | ⟨C,⟨x,e,_⟩,_⟩ <;> exact ⟨x,e⟩
 obtain ⟨v0,v1,rfl,h0,h1⟩:=eK hd
 have e1:=h1.intE
 subst e1
 refine ⟨_,(au (aZ (bV (bh (aF DF hr rfl T.Fv T.EA.kp (dm T) .nil aY (ag (pv 0) (ag ao (ag (pv 1) af)))) (λ_=>rfl))) (au (jI PySem.F.excBase_ValueError rfl PySem.F.excBase_ValueError T.IG d9 rfl T.HP (ag (xa (pv 1) (by decide)) af))) aK)),?_⟩
 refine jh (b:=!bO x 2 5) (bw (aW (aR (aa (ae h0) (aa aq (aa (ae h1) ah))) ⟨x,2,5,rfl,rfl⟩))) (λc H1 s1=>?_) (λc H1 s1=>?_)
 ·rcases h with ⟨d,⟨y,e,h1,_⟩,_⟩ | ⟨C,⟨y,e,h1,rfl⟩,post⟩
  ·cases e
   rw [h1] at c;cases c
  ·exact ⟨_,rfl,5,rfl,by decide +kernel,λy=>⟨eM (by simp),post _ s1⟩⟩
 ·rcases h with ⟨d,⟨y,e,h1,rfl⟩,post⟩ | ⟨C,⟨y,e,h1,rfl⟩,post⟩
  ·exact post _ _ s1 Dat.nonI
  ·cases e
   rw [h1] at c;cases c
theorem ml (T:Txt P w K mg) (KB:FnOk P w K mg base CX0 k T.HC T.HI ["thing"] (spD K m9)):FnOk P w K mg base (CX2 P w) (k+1) T.FB T.FC ["piece"] (spE K iz (kq T.CZ)):=by
 refine T.Gs.ok2 sc_need_piece (λvs H Q E h=>?_) (λcdv A outer s H vs Q E hr h=>?_)
 ·obtain ⟨ds,hd,h⟩:=h;rcases h with ⟨d,⟨x,rfl,_⟩,_⟩ | ⟨C,⟨x,rfl,_⟩,_⟩ <;> exact hd.length.symm
 have nd:=sc_need_piece.nd
 obtain ⟨ds,hd,h⟩:=h
 refine ⟨_,(au (aZ (bV (bh (aF KB hr rfl T.J9 T.IR.kp (qC T) .nil aY (ag (pv 0) af)) (λ_=>rfl))) (au (jI PySem.F.excBase_ValueError rfl PySem.F.excBase_ValueError T.Hx d9 rfl T.GE (ag az af))) aK)),?_⟩
 rcases h with ⟨d,⟨x,rfl,hok,hx,rfl⟩,post⟩ | ⟨C,⟨x,rfl,hok,hx,rfl⟩,post⟩
 ·obtain ⟨v0,rfl,h0⟩:=dQ hd
  exact jh (b:=!true) (bw (aW (aR (R:=m9) (aa (ae h0) ah) ⟨x,true,rfl,hok,by rw [hx];rfl,rfl⟩))) (λc=>nomatch c) (λ_ H1 s1=>post _ H1 s1 Dat.nonI)
 ·obtain ⟨v0,rfl,h0⟩:=dQ hd
  exact jh (b:=!false) (bw (aW (aR (R:=m9) (aa (ae h0) ah) ⟨x,false,rfl,hok,hx,rfl⟩))) (λ_ H1 s1=>⟨eM (by decide),post H1 s1⟩) (λc=>nomatch c)
def AB (K:PySem.W.Frag):Sp:=λvs H Q _=>∃ (p t:List D) (v0 v1 v2:V) (a b:Str),vs=[v0,v1,v2]/\Dat K H (.tup (.str a::p)) v0/\Dat K H (.tup (.str b::t)) v1/\KTD.inKeys a TM=false/\¬ b=a/\∀ H',Same H H'->Q (.bl false) H'
theorem rB (T:Txt P w K mg) (JU:FnOk P w K mg base CX0 k T.FR T.FS ["mark","tree"] BJ) (Jg:FnOk P w K mg base CX0 k T.Hm T.Hq ["pattern","tree","found"] BJ):FnOk P w K mg base CX0 (k+1) T.Hm T.Hq ["pattern","tree","found"] (AB K):=by
 refine T.Hs.ok sc_matches (λvs H Q E h=>?_) (λcdv A outer s H vs Q E hr h=>?_)
 ·obtain ⟨p,t,v0,v1,v2,a,b,rfl,_⟩:=h;rfl
 have nd:=sc_matches.nd
 obtain ⟨p,t,v0,v1,v2,a,b,rfl,h0,h1,hno,hne,post⟩:=h
 refine ⟨_,(aj (bq (i:=3) nd rfl (Or.inl rfl) (aV aS (pv 0) ao (λ_ _=>rfl)))
 (aj (aZ (aH ja (pv 3) (aQ (v:=.ref T.D0) rfl T.Dy rfl) (by with_unfolding_all rfl)) (aj (aZ (bV (bh (aF JU hr rfl T.IX T.Hb.kp (j4 T) .nil aY (ag (pv 0) (ag (pv 1) af))) (λ_=>rfl))) (au (aG cf)) aK)
 (aj (aX (cy PySem.F.plainAttrs_list PySem.F.slot_list_append PySem.F.type_list_append dB (kh (sY hr) (pv 2) (pv 3) (λ_ _=>rfl)) (ag (fh (aH b0 (pv 3) az (aN _)) (pv 1) (aV aS (pv 1) ao (λ_ _=>rfl))) af)))
 (au (aG cf)))) aK)
 (aj (aZ (aH lB (aV aS (pv 1) ao (λ_ _=>rfl)) (pv 3) (aN _)) (au (aG cf)) aK)
 (aj (aZ (aH b0 (pv 3) az (aN _)) (au (aG (eB b0 (aV aS (pv 1) ao (λ_ _=>rfl)) (aV aS (pv 0) ao (λ_ _=>rfl)) (aN _)))) aK)
 (au (aG (gO (aF Jg hr rfl T.Jo T.Hs.kp (jv T) .nil aY (ag (aV aS (pv 0) ao (λ_ _=>rfl)) (ag (aV aS (pv 1) ao (λ_ _=>rfl)) (ag (pv 2) af)))) (gR (aF Jg hr rfl T.Jo T.Hs.kp (jv T) .nil aY (ag (aV aS (pv 0) ao (λ_ _=>rfl)) (ag (aV aS (pv 1) ao (λ_ _=>rfl)) (ag (pv 2) af)))))))))))),?_⟩
 refine bD (K:=K) (d:=.str a) (ba (k:=0) (ae (k:=0) h0) aq rfl) λv3 H1 s1 q3=>?_
 refine aE (K:=K) (b:=false) (RT.as (aB (jd (ae (k:=3) q3) T.D8)) hno) (λc=>nomatch c) (λ_ H2 s2=>?_)
 have s12:=s1.trans s2
 refine aE (K:=K) (b:=true) (RT.as (aB (xG (ba (k:=0) (ae (k:=1) (s12.dat h1)) aq rfl) (ae (k:=3) (s2.dat q3)))) (by rw [decide_eq_false hne];rfl)) (λ_ H3 s3=>?_) (λc=>nomatch c)
 exact aU (K:=K) (d:=.bl false) cR λv H' s q=>by rw [q.blE];exact post H' (s12.trans (s3.trans s))
variable {E:XK} {tA:TA}
theorem xp {sp:Sp} {dvs:List V} {Q:VK} (h:tA σ H λvs H1=>sp (vs++dvs) H1 Q E):fV sp dvs E tA σ H Q:=h
theorem xq {Q:List V->Hp->Prop} (h:te σ H λx H1=>tA σ H1 λxs H2=>Q (x::xs) H2):bj te tA σ H Q:=h
theorem Be (x y z:V):jB [] ([(Sum.inr (Str.ofString "hole"),x),(Sum.inr (Str.ofString "gap"),y),(Sum.inr (Str.ofString "slot"),z)]:List (Key × V))=[(Sum.inr (Str.ofString "hole"),x),(Sum.inr (Str.ofString "gap"),y),(Sum.inr (Str.ofString "slot"),z)]:=rfl
theorem Ci {K:PySem.W.Frag} {ts:TS} (h:te σ H λx H'=>∃ k,qx K x H' k/\if (!k)=true then ts { En with nx:=us En } σ H' else us En σ H'):iL (zS (BK (λσ H Q=>te σ H λx H'=>∃ k,qx K x H' k/\Q k H')) ts qf) us En σ H:=h
def yk (ds:List D) (d:D):Prop:=∃ (p t:List D) (nm cs:D) (a b:Str),ds=[.tup [nm,.tup (.str a::p),cs],.tup (.str b::t)]/\KTD.inKeys a TM=false/\¬ b=a/\d=.non
theorem pJ (T:Txt P w K mg) (Jg:FnOk P w K mg base CX0 k T.Hm T.Hq ["pattern","tree","found"] (AB K)):FnOk P w K mg base CX0 (k+1) T.HB T.HH ["piece","tree"] (spD K yk):=by
 refine T.IQ.ok sc_found_in (λvs H Q E h=>?_) (λcdv A outer s H vs Q E hr h=>?_)
 ·obtain ⟨ds,d,hd,⟨p,t,nm,cs,a,b,rfl,_⟩,_⟩:=h;exact hd.length.symm
 have nd:=sc_found_in.nd
 obtain ⟨ds,d,hd,⟨p,t,nm,cs,a,b,rfl,hno,hne,rfl⟩,post⟩:=h
 obtain ⟨v0,v1,rfl,h0,h1⟩:=eK hd
 refine' ⟨_,?ybody,?yread⟩
 case ybody =>
  refine' aj ?y26 ?y27
  case y26 =>
   refine' bq (i:=2) ?y15 ?y16 ?y17 ?y18
   case y15=>exact nd
   case y16=>exact rfl
   case y17=>exact Or.inl rfl
   case y18 =>
    refine' zg ?y10 ?y11 ?y12 ?y13 ?y14
    case y10 =>
     refine' lD ?y7 ?y8 ?y9
     case y7=>exact az
     case y8=>exact (bp af)
     case y9 =>
      refine' lD ?y4 ?y5 ?y6
      case y4=>exact az
      case y5=>exact (bp af)
      case y6 =>
       refine' lD ?y1 ?y2 ?y3
       case y1=>exact az
       case y2=>exact (bp af)
       case y3=>exact zp
    case y11=>exact rfl
    case y12=>exact rfl
    case y13=>simp
    case y14=>decide
  case y27 =>
   refine' aj ?y24 ?y25
   case y24 =>
    refine' aZ ?y20 ?y21 ?y22
    case y20=>exact (bV (bh (aF Jg hr rfl T.Jo T.Hs.kp (jv T) .nil aY (ag (aV aS (pv 0) ao (λ_ _=>rfl)) (ag (pv 1) (ag (pv 2) af)))) (λ_=>rfl)))
    case y21 =>
     refine' au ?y19
     case y19=>exact (aG gQ)
    case y22=>exact aK
   case y25 =>
    refine' au ?y23
    case y23=>exact (aG (ay (ag (bP cW rfl T.Hk eI (ag (kh (sY hr) (pv 2) az (λ_ _=>rfl)) af)) (ag (bP cW rfl T.Hk eI (ag (kh (sY hr) (pv 2) az (λ_ _=>rfl)) af)) (ag (bP cW rfl T.Hk eI (ag (kh (sY hr) (pv 2) az (λ_ _=>rfl)) af)) af)))))
 case yread =>
  refine d6 (λf hf=>⟨eM (by decide),λl0 hl0=>⟨eM (by decide),λl1 hl1=>⟨eM (by decide),λl2 hl2=>⟨?_,[(Sum.inr "hole",.ref l0),(Sum.inr "gap",.ref l1),(Sum.inr "slot",.ref l2)],rfl,by simp,?_⟩⟩⟩⟩)
  ·rw [aD (aI (by rw [aD (aI (by rw [aD (aI av hl0)];exact av) hl1),aD (aI av hl0)];exact av) hl2),aD (aI (by rw [aD (aI av hl0)];exact av) hl1),aD (aI av hl0)]
   exact av
  rw [Be]
  have n0f:f≠l0:=aI av hl0
  have n1f:f≠l1:=aI (by rw [aD n0f];exact av) hl1
  have n10:l0≠l1:=aI av hl1
  have n2f:f≠l2:=aI (by rw [aD n1f,aD n0f];exact av) hl2
  have n20:l0≠l2:=aI (by rw [aD n10];exact av) hl2
  have n21:l1≠l2:=aI av hl2
  generalize hG:upd (upd (upd (upd (upd H f (.dK [])) l0 (.lst [])) l1 (.lst [])) l2 (.lst [])) f (.dK [(Sum.inr "hole",V.ref l0),(Sum.inr "gap",.ref l1),(Sum.inr "slot",.ref l2)])=G
  have sG:Same H G:=λx o hx=>by
   have zf:=aI hx hf
   have z0:x≠l0:=aI (by rw [aD zf];exact hx) hl0
   have z1:x≠l1:=aI (by rw [aD z0,aD zf];exact hx) hl1
   have z2:x≠l2:=aI (by rw [aD z1,aD z0,aD zf];exact hx) hl2
   rw [← hG,aD zf,aD z2,aD z1,aD z0,aD zf]
   exact hx
  refine Ci (K:=K) (xp (xq (RE.use (K:=K) (d:=.tup (.str a::p)) (ba (k:=1) (ae (sG.dat h0)) aq rfl) λw0 G1 s1 q0=>?_)))
  refine ⟨_,rfl,_,rfl,p,t,w0,v1,.ref f,a,b,rfl,q0,(sG.trans s1).dat h1,hno,hne,λH' s'=>⟨_,rfl,?_⟩⟩
  exact ph (post _ _ (sG.trans (s1.trans s')) Dat.nonI)
def oO (ds:List D) (d:D):Prop:=∃ (x y:D),ds=[x,y]/\iW x/\cz x=some true/\cN y=true/\yk [x,y] d
def oM (N6 N1:Addr) (ds:List D) (C:Addr):Prop:=∃ (x y:D),ds=[x,y]/\iW x/\(((cz x).getD false=false/\C=N6)\/(cz x=some true/\cN y=false/\C=N1))
theorem yY (T:Txt P w K mg) (II:FnOk P w K mg base (CX2 P w) k T.FB T.FC ["piece"] (spE K iz (kq T.CZ))) (Kv:FnOk P w K mg base (CX2 P w) k T.GO T.GR ["tree"] (spE K qw (qp T.C4))) (KA:FnOk P w K mg base CX0 k T.HB T.HH ["piece","tree"] (spD K yk)):FnOk P w K mg base (CX2 P w) (k+1) T.JY T.J3 ["piece","tree"] (spE K oO (oM T.CZ T.C4)):=by
 refine T.Kp.ok2 sc_fits (λvs H Q E h=>?_) (λcdv A outer s H vs Q E hr h=>?_)
 ·obtain ⟨ds,hd,h⟩:=h;rcases h with ⟨d,⟨x,y,rfl,_⟩,_⟩ | ⟨C,⟨x,y,rfl,_⟩,_⟩ <;> exact hd.length.symm
 have nd:=sc_fits.nd
 obtain ⟨ds,hd,h⟩:=h
 refine ⟨_,(aj (aX (aF II hr rfl T.IS T.Gs.kp (iO T) .nil dC (ag (pv 0) af)))
 (aj (aX (aF Kv hr rfl T.JR T.Ia.kp (oR T) .nil dC (ag (pv 1) af)))
 (au (aG (aF KA hr rfl T.J8 T.IQ.kp (qB T) .nil aY (ag (pv 0) (ag (pv 1) af))))))),?_⟩
 rcases h with ⟨d,⟨x,y,rfl,hok,hx,hy,hr2⟩,post⟩ | ⟨C,⟨x,y,rfl,hok,hC⟩,post⟩
 ·obtain ⟨v0,v1,rfl,h0,h1⟩:=eK hd
  refine dv (RE.use (fk (R:=iz) (d:=.non) (aa (ae (K:=K) (k:=0) h0) ah) ⟨x,rfl,hok,hx,rfl⟩) λv3 H1 s1 _=>?_)
  refine dv (RE.use (fk (R:=qw) (d:=.non) (aa (ae (K:=K) (k:=1) (s1.dat h1)) ah) ⟨y,rfl,hy,rfl⟩) λv4 H2 s2 _=>?_)
  have s12:=s1.trans s2
  exact aU (K:=K) (d:=d) (aR (R:=yk) (aa (ae (s12.dat h0)) (aa (ae (s12.dat h1)) ah)) hr2) λv H' s q=>post v H' (s12.trans s) q
 ·obtain ⟨v0,v1,rfl,h0,h1⟩:=eK hd
  rcases hC with ⟨hx,rfl⟩ | ⟨hx,hy,rfl⟩
  ·exact dv (fP (B:=kq T.CZ) (aa (ae (K:=K) (k:=0) h0) ah) ⟨x,rfl,hok,hx,rfl⟩ λH' s=>post H' s)
  ·refine dv (RE.use (fk (R:=iz) (d:=.non) (aa (ae (K:=K) (k:=0) h0) ah) ⟨x,rfl,hok,hx,rfl⟩) λv3 H1 s1 _=>?_)
   exact dv (fP (B:=qp T.C4) (aa (ae (K:=K) (k:=1) (s1.dat h1)) ah) ⟨y,rfl,hy,rfl⟩ λH' s=>post H' (s1.trans s))
inductive Pa where
 | hole (i:Int)
 | gap (i m:Int)
 | slot (i:Int)
 | num (n:Int)
 | two (o:Str) (a b:Pa)
def toP:Pa->D
 | .hole i=>.tup [.str "hole",.int i]
 | .gap i m=>.tup [.str "gap",.int i,.int m]
 | .slot i=>.tup [.str "slot",.int i]
 | .num n=>.tup [.str "num",.int n]
 | .two o a b=>.tup [.str o,toP a,toP b]
inductive Cl where
 | n (i:Int)
 | arg (k:Nat)
 | low (k:Nat)
 | high (k:Nat)
def clD:Cl->D
 | .n i=>.int i
 | .arg k=>.tup [.str "arg",.int k]
 | .low k=>.tup [.str "low",.int k]
 | .high k=>.tup [.str "high",.int k]
def A0 (g s:Nat):Cl->Bool
 | .n _=>true
 | .arg k=>decide (k < s)
 | .low k=>decide (k < g)
 | .high k=>decide (k < g)
def cM (nums ks:List Int):Cl->Int
 | .n i=>i
 | .arg k=>ks.getD k 0
 | .low k=>nums.getD k 0 % 100
 | .high k=>nums.getD k 0 / 100
theorem gZ {k:Nat} (h:k < ns.length):(ns.map D.int)[k]?=some (.int (ns.getD k 0)):=by
 rw [List.getElem?_map,List.getD_eq_getElem?_getD,List.getElem?_eq_getElem h]
 rfl
def qu (ds:List D) (d:D):Prop:=∃ (c:Cl) (nums ks:List Int),ds=[clD c,.tup (nums.map D.int),.tup (ks.map D.int)]/\A0 nums.length ks.length c=true/\d=.int (cM nums ks c)
theorem lg (T:Txt P w K mg)  : FnOk P w K mg base CX0 (k+1) T.FK T.FO ["cell","nums","ks"] (spD K qu):=by
 refine T.GH.ok sc_filled_cell (λvs H Q E h=>?_) (λcdv A outer s H vs Q E hr h=>?_)
 ·obtain ⟨ds,d,hd,⟨c,nums,ks,rfl,_⟩,_⟩:=h;exact hd.length.symm
 have nd:=sc_filled_cell.nd
 obtain ⟨ds,d,hd,⟨c,nums,ks,rfl,okc,rfl⟩,post⟩:=h
 obtain ⟨v0,v1,v2,rfl,h0,h1,h2⟩:=jU hd
 refine ⟨_,(aj (aZ (bh (aJ (eJ wo) rfl T.C2 aO (aT (pv 0) (aT (eS (v:=.ty "int") rfl T.KU vL rfl) af))) (λ_=>rfl)) (au (aG (pv 0))) aK)
 (aj (aZ (aH b0 (aV aS (pv 0) ao (λ_ _=>rfl)) az (aN _)) (au (aG (bu dq (aV aS (pv 1) (aV aS (pv 0) ao (λ_ _=>rfl)) (λ_ _=>rfl)) ao))) aK)
 (aj (aZ (aH b0 (aV aS (pv 0) ao (λ_ _=>rfl)) az (aN _)) (au (aG (bu nW (aV aS (pv 1) (aV aS (pv 0) ao (λ_ _=>rfl)) (λ_ _=>rfl)) ao))) aK)
 (au (aG (aV aS (pv 2) (aV aS (pv 0) ao (λ_ _=>rfl)) (λ_ _=>rfl))))))),?_⟩
 cases c with
 | n j =>
  have h0:Dat K H (.int j) v0:=h0
  refine aE (K:=K) (b:=true) (aW (bQ (ae (k:=0) h0))) (λ_ H1 s1=>?_) (λc=>nomatch c)
  exact aU (K:=K) (d:=.int j) (ae (k:=0) (s1.dat h0)) λv H2 s2 q=>post v H2 (s1.trans s2) q
 | low j =>
  have h0:Dat K H (.tup [.str "low",.int j]) v0:=h0
  have okc:=of_decide_eq_true okc
  refine aE (K:=K) (b:=false) (aW (bQ (ae (k:=0) h0))) (λc=>nomatch c) (λ_ H1 s1=>?_)
  refine aE (K:=K) (b:=true) (RT.as (aB (bg (ba (k:=0) (ae (k:=0) (s1.dat h0)) aq rfl) ax)) (decide_eq_true rfl)) (λ_ H2 s2=>?_) (λc=>nomatch c)
  have s12:=s1.trans s2
  exact aU (K:=K) (d:=.int (nums.getD j 0 % 100)) (jM (ba (k:=j) (ae (k:=1) (s12.dat h1)) (ba (k:=1) (ae (k:=0) (s12.dat h0)) aq rfl) (gZ okc)) aq (by decide)) λv H3 s3 q=>post v H3 (s12.trans s3) q
 | high j =>
  have h0:Dat K H (.tup [.str "high",.int j]) v0:=h0
  have okc:=of_decide_eq_true okc
  refine aE (K:=K) (b:=false) (aW (bQ (ae (k:=0) h0))) (λc=>nomatch c) (λ_ H1 s1=>?_)
  refine aE (K:=K) (b:=false) (RT.as (aB (bg (ba (k:=0) (ae (k:=0) (s1.dat h0)) aq rfl) ax)) (decide_eq_false (by decide +kernel))) (λc=>nomatch c) (λ_ H2 s2=>?_)
  have s12:=s1.trans s2
  refine aE (K:=K) (b:=true) (RT.as (aB (bg (ba (k:=0) (ae (k:=0) (s12.dat h0)) aq rfl) ax)) (decide_eq_true rfl)) (λ_ H3 s3=>?_) (λc=>nomatch c)
  have s13:=s12.trans s3
  exact aU (K:=K) (d:=.int (nums.getD j 0 / 100)) (zC (ba (k:=j) (ae (k:=1) (s13.dat h1)) (ba (k:=1) (ae (k:=0) (s13.dat h0)) aq rfl) (gZ okc)) aq ⟨by decide,by decide⟩) λv H4 s4 q=>post v H4 (s13.trans s4) q
 | arg j =>
  have h0:Dat K H (.tup [.str "arg",.int j]) v0:=h0
  have okc:=of_decide_eq_true okc
  refine aE (K:=K) (b:=false) (aW (bQ (ae (k:=0) h0))) (λc=>nomatch c) (λ_ H1 s1=>?_)
  refine aE (K:=K) (b:=false) (RT.as (aB (bg (ba (k:=0) (ae (k:=0) (s1.dat h0)) aq rfl) ax)) (decide_eq_false (by decide +kernel))) (λc=>nomatch c) (λ_ H2 s2=>?_)
  have s12:=s1.trans s2
  refine aE (K:=K) (b:=false) (RT.as (aB (bg (ba (k:=0) (ae (k:=0) (s12.dat h0)) aq rfl) ax)) (decide_eq_false (by decide +kernel))) (λc=>nomatch c) (λ_ H3 s3=>?_)
  have s13:=s12.trans s3
  exact aU (K:=K) (d:=.int (ks.getD j 0)) (ba (k:=j) (ae (k:=2) (s13.dat h2)) (ba (k:=1) (ae (k:=0) (s13.dat h0)) aq rfl) (gZ okc)) λv H4 s4 q=>post v H4 (s13.trans s4) q
def gF:Pa->Nat
 | .two _ a b=>1+max (gF a) (gF b)
 | _=>1
def okF (nh ng ns:Nat):Pa->Bool
 | .hole i=>decide (0≤i) && decide (i.toNat < nh)
 | .gap i _=>decide (0≤i) && decide (i.toNat < ng)
 | .slot i=>decide (0≤i) && decide (i.toNat < ns)
 | .num _=>true
 | .two o a b=>(decide (o="add") || decide (o="sub") || decide (o="mul") || decide (o="less")) && (okF nh ng ns a && okF nh ng ns b)
def fpT (hs nums ks:List Int):Pa->Tr
 | .hole i=>.num (hs.getD i.toNat 0)
 | .gap i _=>.num (nums.getD i.toNat 0)
 | .slot i=>.arg (ks.getD i.toNat 0)
 | .num n=>.num n
 | .two o a b=>.two o (fpT hs nums ks a) (fpT hs nums ks b)
abbrev BN (hs nums ks as:List Int):D:=.tup [.tup (hs.map D.int),.tup (nums.map D.int),.tup (ks.map D.int),.tup (as.map D.int)]
def Rfp (n:Nat) (ds:List D) (d:D):Prop:=∃ (p:Pa) (hs nums ks as:List Int),ds=[toP p,BN hs nums ks as]/\okF hs.length nums.length ks.length p=true/\gF p≤n/\d=toD (fpT hs nums ks p)
theorem hI {m:Nat} {g:D} (h:RE K te σ H (.tup [d,e,f,g])) (q:∀ v w x y H',Same H H'->Dat K H' d v->Dat K H' e w->Dat K H' f x->Dat K H' g y->us En ((((σ.set i (some v)).set j (some w)).set l (some x)).set m (some y)) H') :
  iL (jn te (qL K 4 (fz (bC i) (fz (bC j) (fz (bC l) (fz (bC m) ui)))))) us En σ H :=
 h.use λx H1 s1 q1=>by
  obtain ⟨a,vs,e1,hq,hd⟩:=q1.tupE
  obtain ⟨v,w,x,y,e2,hv,hw,hx,hy⟩:=Ae hd
  subst e1 e2
  exact ⟨a,_,rfl,hq,rfl,v,_,rfl,w,_,rfl,x,_,rfl,y,_,rfl,rfl,q v w x y H1 s1 hv hw hx hy⟩
theorem rb {i:Int} (h:(decide (0≤i) && decide (i.toNat < n))=true):i=((i.toNat:Nat):Int)/\i.toNat < n:=by
 rw [Bool.and_eq_true] at h
 have h0:=of_decide_eq_true h.1
 exact ⟨by omega,of_decide_eq_true h.2⟩
theorem xV (h:(decide (o="add") || decide (o="sub") || decide (o="mul") || decide (o="less"))=true):o="add"\/o="sub"\/o="mul"\/o="less":=by
 simp only [Bool.or_eq_true,decide_eq_true_eq] at h
 rcases h with ((h | h) | h) | h
 ·exact .inl h
 ·exact .inr (.inl h)
 ·exact .inr (.inr (.inl h))
 ·exact .inr (.inr (.inr h))
theorem BQ (h:o="add"\/o="sub"\/o="mul"\/o="less"):¬ o="hole"/\¬ o="gap"/\¬ o="slot"/\¬ o="num":=by
 rcases h with rfl | rfl | rfl | rfl <;> decide +kernel
theorem iZ (T:Txt P w K mg) (Fx:FnOk P w K mg base CX0 k T.Dr T.Dt ["pattern","trial"] (spD K (Rfp n))):FnOk P w K mg base CX0 (k+1) T.Dr T.Dt ["pattern","trial"] (spD K (Rfp (n+1))):=by
 refine T.DJ.ok sc_filled_pattern (λvs H Q E h=>?_) (λcdv A outer s H vs Q E hr h=>?_)
 ·obtain ⟨ds,d,hd,⟨p,hs,nums,ks,as,rfl,_⟩,_⟩:=h;exact hd.length.symm
 have nd:=sc_filled_pattern.nd
 obtain ⟨ds,d,hd,⟨p,hs,nums,ks,as,rfl,okp,dp,rfl⟩,post⟩:=h
 obtain ⟨v0,v1,rfl,h0,h1⟩:=eK hd
 refine ⟨_,(aj (bq (i:=2) nd rfl (Or.inl rfl) (aV aS (pv 0) ao (λ_ _=>rfl)))
 (aj (dY (pv 1) (fj rfl (bf (aM (i:=3) nd rfl (Or.inl rfl)) (bf (aM (i:=4) nd rfl (Or.inl rfl)) (bf (aM (i:=5) nd rfl (Or.inl rfl)) (bf (aM (i:=6) nd rfl (Or.inl rfl)) dF))))))
 (aj (aZ (aH b0 (pv 2) az (aN _)) (au (aG (ay (ag az (ag (aV aS (pv 3) (aV aS (pv 0) ao (λ_ _=>rfl)) (λ_ _=>rfl)) af))))) aK)
 (aj (aZ (aH b0 (pv 2) az (aN _)) (au (aG (ay (ag az (ag (aV aS (pv 4) (aV aS (pv 0) ao (λ_ _=>rfl)) (λ_ _=>rfl)) af))))) aK)
 (aj (aZ (aH b0 (pv 2) az (aN _)) (au (aG (ay (ag az (ag (aV aS (pv 5) (aV aS (pv 0) ao (λ_ _=>rfl)) (λ_ _=>rfl)) af))))) aK)
 (aj (aZ (aH b0 (pv 2) az (aN _)) (au (aG (pv 0))) aK)
 (au (aG (ay (ag (pv 2) (ag (aF Fx hr rfl T.FG T.DJ.kp (dW T) .nil aY (ag (aV aS (pv 0) ao (λ_ _=>rfl)) (ag (pv 1) af))) (ag (aF Fx hr rfl T.FG T.DJ.kp (dW T) .nil aY (ag (aV aS (pv 0) ao (λ_ _=>rfl)) (ag (pv 1) af))) af)))))))))))),?_⟩
 cases p with
 | hole i =>
  have h0:Dat K H (.tup [.str "hole",.int i]) v0:=h0
  refine bD (K:=K) (d:=.str "hole") (ba (k:=0) (ae (k:=0) h0) aq rfl) λv2 H1 s1 q2=>?_
  refine hI (K:=K) (ae (k:=1) (s1.dat h1)) λv3 v4 v5 v6 H2 s2 q3 q4 q5 q6=>?_
  refine aE (K:=K) (b:=true) (RT.as (aB (bg (ae (k:=2) (s2.dat q2)) ax)) (decide_eq_true rfl)) (λ_ H3 t3=>?_) (λc=>nomatch c)
  have s3:=s2.trans t3
  have u3:=t3
  obtain ⟨ei,hi⟩:=rb okp
  have h0':=(s1.trans s3).dat h0
  rw [ei] at h0'
  exact aU (K:=K) (d:=toD (fpT hs nums ks (.hole i))) (aA (aa ax (aa (ba (k:=i.toNat) (ae (k:=3) (u3.dat q3)) (ba (k:=1) (ae (k:=0) h0') aq rfl) (gZ hi)) ah))) λv H' s q=>post v H' (s1.trans (s3.trans s)) q
 | gap i m =>
  have h0:Dat K H (.tup [.str "gap",.int i,.int m]) v0:=h0
  refine bD (K:=K) (d:=.str "gap") (ba (k:=0) (ae (k:=0) h0) aq rfl) λv2 H1 s1 q2=>?_
  refine hI (K:=K) (ae (k:=1) (s1.dat h1)) λv3 v4 v5 v6 H2 s2 q3 q4 q5 q6=>?_
  refine aE (K:=K) (b:=false) (RT.as (aB (bg (ae (k:=2) (s2.dat q2)) ax)) (decide_eq_false (by decide +kernel))) (λc=>nomatch c) (λ_ H3 t3=>?_)
  have s3:=s2.trans t3
  have u3:=t3
  refine aE (K:=K) (b:=true) (RT.as (aB (bg (ae (k:=2) (s3.dat q2)) ax)) (decide_eq_true rfl)) (λ_ H4 t4=>?_) (λc=>nomatch c)
  have s4:=s3.trans t4
  have u4:=u3.trans t4
  obtain ⟨ei,hi⟩:=rb okp
  have h0':=(s1.trans s4).dat h0
  rw [ei] at h0'
  exact aU (K:=K) (d:=toD (fpT hs nums ks (.gap i m))) (aA (aa ax (aa (ba (k:=i.toNat) (ae (k:=4) (u4.dat q4)) (ba (k:=1) (ae (k:=0) h0') aq rfl) (gZ hi)) ah))) λv H' s q=>post v H' (s1.trans (s4.trans s)) q
 | slot i =>
  have h0:Dat K H (.tup [.str "slot",.int i]) v0:=h0
  refine bD (K:=K) (d:=.str "slot") (ba (k:=0) (ae (k:=0) h0) aq rfl) λv2 H1 s1 q2=>?_
  refine hI (K:=K) (ae (k:=1) (s1.dat h1)) λv3 v4 v5 v6 H2 s2 q3 q4 q5 q6=>?_
  refine aE (K:=K) (b:=false) (RT.as (aB (bg (ae (k:=2) (s2.dat q2)) ax)) (decide_eq_false (by decide +kernel))) (λc=>nomatch c) (λ_ H3 t3=>?_)
  have s3:=s2.trans t3
  have u3:=t3
  refine aE (K:=K) (b:=false) (RT.as (aB (bg (ae (k:=2) (s3.dat q2)) ax)) (decide_eq_false (by decide +kernel))) (λc=>nomatch c) (λ_ H4 t4=>?_)
  have s4:=s3.trans t4
  have u4:=u3.trans t4
  refine aE (K:=K) (b:=true) (RT.as (aB (bg (ae (k:=2) (s4.dat q2)) ax)) (decide_eq_true rfl)) (λ_ H5 t5=>?_) (λc=>nomatch c)
  have s5:=s4.trans t5
  have u5:=u4.trans t5
  obtain ⟨ei,hi⟩:=rb okp
  have h0':=(s1.trans s5).dat h0
  rw [ei] at h0'
  exact aU (K:=K) (d:=toD (fpT hs nums ks (.slot i))) (aA (aa ax (aa (ba (k:=i.toNat) (ae (k:=5) (u5.dat q5)) (ba (k:=1) (ae (k:=0) h0') aq rfl) (gZ hi)) ah))) λv H' s q=>post v H' (s1.trans (s5.trans s)) q
 | num n =>
  have h0:Dat K H (.tup [.str "num",.int n]) v0:=h0
  refine bD (K:=K) (d:=.str "num") (ba (k:=0) (ae (k:=0) h0) aq rfl) λv2 H1 s1 q2=>?_
  refine hI (K:=K) (ae (k:=1) (s1.dat h1)) λv3 v4 v5 v6 H2 s2 q3 q4 q5 q6=>?_
  refine aE (K:=K) (b:=false) (RT.as (aB (bg (ae (k:=2) (s2.dat q2)) ax)) (decide_eq_false (by decide +kernel))) (λc=>nomatch c) (λ_ H3 t3=>?_)
  have s3:=s2.trans t3
  have u3:=t3
  refine aE (K:=K) (b:=false) (RT.as (aB (bg (ae (k:=2) (s3.dat q2)) ax)) (decide_eq_false (by decide +kernel))) (λc=>nomatch c) (λ_ H4 t4=>?_)
  have s4:=s3.trans t4
  have u4:=u3.trans t4
  refine aE (K:=K) (b:=false) (RT.as (aB (bg (ae (k:=2) (s4.dat q2)) ax)) (decide_eq_false (by decide +kernel))) (λc=>nomatch c) (λ_ H5 t5=>?_)
  have s5:=s4.trans t5
  have u5:=u4.trans t5
  refine aE (K:=K) (b:=true) (RT.as (aB (bg (ae (k:=2) (s5.dat q2)) ax)) (decide_eq_true rfl)) (λ_ H6 t6=>?_) (λc=>nomatch c)
  have s6:=s5.trans t6
  have u6:=u5.trans t6
  exact aU (K:=K) (d:=toD (.num n)) (ae (k:=0) ((s1.trans s6).dat h0)) λv H' s q=>post v H' (s1.trans (s6.trans s)) q
 | two o a b =>
  have okp:((decide (o="add") || decide (o="sub") || decide (o="mul") || decide (o="less")) && (okF hs.length nums.length ks.length a && okF hs.length nums.length ks.length b))=true:=okp
  rw [Bool.and_eq_true,Bool.and_eq_true] at okp
  obtain ⟨n1,n2,n3,n4⟩:=BQ (xV okp.1)
  have dp:1+max (gF a) (gF b)≤n+1:=dp
  have h0:Dat K H (.tup [.str o,toP a,toP b]) v0:=h0
  refine bD (K:=K) (d:=.str o) (ba (k:=0) (ae (k:=0) h0) aq rfl) λv2 H1 s1 q2=>?_
  refine hI (K:=K) (ae (k:=1) (s1.dat h1)) λv3 v4 v5 v6 H2 s2 q3 q4 q5 q6=>?_
  refine aE (K:=K) (b:=false) (RT.as (aB (bg (ae (k:=2) (s2.dat q2)) ax)) (decide_eq_false n1)) (λc=>nomatch c) (λ_ H3 t3=>?_)
  have s3:=s2.trans t3
  have u3:=t3
  refine aE (K:=K) (b:=false) (RT.as (aB (bg (ae (k:=2) (s3.dat q2)) ax)) (decide_eq_false n2)) (λc=>nomatch c) (λ_ H4 t4=>?_)
  have s4:=s3.trans t4
  have u4:=u3.trans t4
  refine aE (K:=K) (b:=false) (RT.as (aB (bg (ae (k:=2) (s4.dat q2)) ax)) (decide_eq_false n3)) (λc=>nomatch c) (λ_ H5 t5=>?_)
  have s5:=s4.trans t5
  have u5:=u4.trans t5
  refine aE (K:=K) (b:=false) (RT.as (aB (bg (ae (k:=2) (s5.dat q2)) ax)) (decide_eq_false n4)) (λc=>nomatch c) (λ_ H6 t6=>?_)
  have s6:=s5.trans t6
  have u6:=u5.trans t6
  have h0':=(s1.trans s6).dat h0
  have h1':=(s1.trans s6).dat h1
  exact aU (K:=K) (d:=toD (.two o (fpT hs nums ks a) (fpT hs nums ks b))) (aA (aa (ae (k:=2) (s6.dat q2)) (aa (aR (R:=Rfp n) (aa (ba (k:=1) (ae (k:=0) h0') aq rfl) (aa (ae (k:=1) h1') ah)) ⟨a,hs,nums,ks,as,rfl,okp.2.1,by omega,rfl⟩) (aa (aR (R:=Rfp n) (aa (ba (k:=2) (ae (k:=0) h0') aq rfl) (aa (ae (k:=1) h1') ah)) ⟨b,hs,nums,ks,as,rfl,okp.2.2,by omega,rfl⟩) ah)))) λv H' s q=>post v H' (s1.trans (s6.trans s)) q
theorem yE (ds:List D) (d:D):¬ Rfp 0 ds d:=λ⟨p,_,_,_,_,_,_,h,_⟩=>by cases p <;> simp only [gF] at h <;> omega
variable {ta tb:TE}
theorem Cj {tt:TT} {b:Bool} (h:RT tt σ H b) (h1:b=true->RC K ta σ H es) (h2:b=false->RC K tb σ H es):RC K (tIf tt ta tb) σ H es:=λH1 s Q q =>
 (h.mono s).use λH' s'=>by
  cases b with
  | true=>exact ph (h1 rfl H' (s.trans s') Q λl ys H2 hl s2=>q l ys H2 (s'.free hl) (s'.trans s2))
  | false=>exact qU (h2 rfl H' (s.trans s') Q λl ys H2 hl s2=>q l ys H2 (s'.free hl) (s'.trans s2))
theorem ug (ys:List Int):(ys.map V.int).all iq=true:=by
 rw [List.all_eq_true]
 intro v hv
 obtain ⟨y,_,rfl⟩:=List.mem_map.mp hv
 rfl
theorem yA (x y:Int):eqV (.int x) (.int y)=decide (x=y):=by
 unfold eqV
 by_cases h:x=y <;> simp [h]
theorem sZ (x:Int):∀ ys:List Int,inV (.int x) (ys.map V.int)=decide (x ∈ ys)
 | []=>by simp [inV]
 | y::ys=>by
  have ih:=sZ x ys
  unfold inV at ih ⊢
  rw [List.map_cons,List.any_cons,ih,yA]
  by_cases h:y=x
  ·subst h;simp
  ·have h':¬ x=y:=λz=>h z.symm
   simp [h,h']
theorem BD {x:Int} {ys:List Int} (h1:RE K ta σ H (.int x)) (h2:RE K tb σ H (.tup (ys.map D.int))):RE K (tOp (rIn K false) ta tb) σ H (.bl (decide (x ∈ ys))):=λH1 s Q q =>
 h1 H1 s _ λv H2 s2 q2=>h2 H2 (s.trans s2) _ λw H3 s3 q3=>by
  obtain ⟨a,vs,ev,hq,hd⟩:=q3.tupE
  have e:=o6 hd
  subst e
  rw [q2.intE]
  refine ⟨a,_,ev,.inr hq,rfl,ug ys,?_⟩
  rw [sZ]
  exact q _ _ (s2.trans s3) (Dat.blI _)
abbrev tI (xs:List Int):D:=.tup (xs.map D.int)
def m3 (rows:List (List Int)) (some:List Int):List (List Int):=rows.flatMap λr=>some.map λx=>r++[x]
def cX (css:List (List Int)):List (List Int):=css.foldl m3 [[]]
theorem uQ (css:List (List Int)) (c:List Int):cX (css++[c])=m3 (cX css) c:=by
 unfold cX
 rw [List.foldl_append]
 rfl
theorem pw:∀ (css:List (List Int)) (rs:List (List Int)) (n:Nat),(∀ r ∈ rs,r.length=n)->∀ r ∈ css.foldl m3 rs,r.length=n+css.length
 | [],rs,n,h,r,hr=>h r hr
 | c::css,rs,n,h,r,hr=>by
  have:=pw css (m3 rs c) (n+1) (λr hr=>by
   obtain ⟨r0,h0,h1⟩:=List.mem_flatMap.mp hr
   obtain ⟨x,_,rfl⟩:=List.mem_map.mp h1
   rw [List.length_append,h r0 h0]
   rfl) r hr
  rw [this,List.length_cons]
  omega
theorem wL (css:List (List Int)):∀ r ∈ cX css,r.length=css.length:=λr hr=>by
 have:=pw css [[]] 0 (λr h=>by rw [List.mem_singleton.mp h];rfl) r hr
 omega
def gN (css:List (List Int)):Prop:=css.length≤20/\∀ i,i < css.length->(cX (css.take i)).length * (css.getD i []).length≤1000
def B1:D->D->D
 | .tup a,e=>.tup (a++[e])
 | d,_=>d
theorem vR (rows:List (List Int)) (some:List Int):((rows.map tI).flatMap λc=>(some.map D.int).map (B1 c))=(m3 rows some).map tI:=by
 unfold m3
 rw [List.flatMap_map,List.map_flatMap]
 congr 1
 funext r
 rw [List.map_map,List.map_map]
 apply List.map_congr_left
 intro x _
 show D.tup (r.map D.int++[D.int x])=D.tup ((r++[x]).map D.int)
 rw [List.map_append]
 rfl
def lQ (K:PySem.W.Frag):Sp:=λvs H Q _=>∃ (a:Addr) (us:List V) (css:List (List Int)),vs=[.ref a]/\SqL K H a us/\LDs K H (css.map (·.map D.int)) us/\gN css/\∀ r ys H',Same H H'->H' r=some (.lst ys)->H r=none->Dats K H' ((cX css).map tI) ys->Q (.ref r) H'
theorem rC (T:Txt P w K mg)  : FnOk P w K mg base CX0 (k+1) T.Hn T.Hr ["choices"] (lQ K):=by
 refine T.GC.ok sc_rows_of (λvs H Q E h=>?_) (λcdv A outer s H vs Q E hr h=>?_)
 ·obtain ⟨a,us,css,rfl,_⟩:=h;rfl
 have nd:=sc_rows_of.nd
 obtain ⟨a,us,css,rfl,hq,hL,⟨h20,hok⟩,post⟩:=h
 refine ⟨_,(aj (bq (i:=1) nd rfl (Or.inl rfl) (bp (ag (ay af) af)))
 (aj (gd PassesOwn.never rfl (di (pv 0)) (aM (i:=2) nd rfl (Or.inr rfl)) (au (pT (i:=1) (own:=["row","one"]) (fr:=[2]) (N':=["row","one","some"]) (di (pv 1)) rfl (by show cK ["choices","rows","some"] (λx=>(aw fS).names.lookup x) _ _ _ _=true;decide +kernel) rfl (λ_ _ _ _ _=>(aM (i:=0) (by show List.Nodup [("row":Str),("one":Str),("some":Str)];decide +kernel) rfl (Or.inl rfl))) (λ_ _ _ _ _=>(xf (K:=K) rfl (pv 2))) (λ_ _ _ _ _=>(aM (i:=1) (by show List.Nodup [("row":Str),("one":Str),("some":Str)];decide +kernel) rfl (Or.inl rfl))) (λ_ _ _ _ _=>(bu (r:=tJ K) zc (pv 0) (ay (ag (pv 1) af)))) nd rfl rfl rfl)))
 (au (aG (pv 1))))),?_⟩
 have ll:=hL.length
 rw [List.length_map] at ll
 refine ji (K:=K) (es:=[.tup []]) (iJ (aa (aA ah) ah)) λl ys H1 nl s1 hy dy=>?_
 refine dI ⟨_,rfl,a,rfl,⟨us,s1.seq hq⟩,gH (K:=K) (a:=a) (xs:=us) (λi σ G=>∃ (z:Option V) (l:Addr) (ys:List V),σ=[some (.ref a),some (.ref l),z]/\Same H G/\H l=none/\G l=some (.lst ys)/\Dats K G ((cX (css.take i)).map tI) ys) ?_ ?_ ?_ ?_⟩
 ·exact ⟨none,l,ys,rfl,s1,nl,hy,dy⟩
 ·rintro i σ G hi ⟨z,l,ys,rfl,sG,nl,hy,dy⟩
  exact sG.seq hq
 ·rintro i x σ G hx ⟨z,l,ys,rfl,sG,nl,hy,dy⟩
  have hi:i < us.length:=(List.getElem?_eq_some_iff.mp hx).1
  have hic:i < css.length:=by omega
  obtain ⟨v,hv,hld⟩:=(sG.lds hL).get (i:=i) (es:=css[i].map D.int) (by rw [List.getElem?_map,List.getElem?_eq_getElem hic];rfl)
  rw [hx] at hv
  cases hv
  refine fB ?_
  dsimp only
  have eg:css.getD i []=css[i]:=by rw [List.getD_eq_getElem?_getD,List.getElem?_eq_getElem hic];rfl
  have hm:=hok i hic
  rw [eg] at hm
  refine RC.use (K:=K) (BC (K:=K) (i:=0) (j:=1) (kk:=2) (cs:=(cX (css.take i)).map tI) (es:=css[i].map D.int) B1 (dH (k:=1) (LD.of hy dy)) hld rfl (by decide) (by decide) (by decide) (by rw [List.length_map,List.length_map];exact hm) rfl rfl (λG c v e w sG' hc he hcv hew=>?_)) λl2 ys2 G2 nl2 s2 hy2 dy2=>?_
  ·obtain ⟨r,hr,rfl⟩:=List.mem_map.mp hc
   obtain ⟨y,hy3,rfl⟩:=List.mem_map.mp he
   have lr:=wL _ r hr
   rw [List.length_take] at lr
   exact zB (ae (k:=0) hcv) (aA (aa (ae (k:=1) hew) ah)) (by rw [List.length_map,List.length_cons,List.length_nil];omega)
  ·refine ⟨some x,l2,ys2,rfl,sG.trans s2,sG.free nl2,hy2,?_⟩
   rw [vR,← uQ] at dy2
   rw [List.take_add_one,List.getElem?_eq_getElem hic]
   exact dy2
 ·rintro σ G ⟨z,l,ys,rfl,sG,nl,hy,dy⟩
  rw [← ll,List.take_length] at dy
  exact ⟨_,rfl,post l ys G sG hy nl dy⟩
def md (ks:List Int) (b:Nat):List (List Int):=(List.range 4).map λk:Nat=>if (k:Int) ∈ ks then (List.range b).map λi:Nat=>(i:Int) else [0]
def qr (ds es:List D):Prop:=∃ (ks:List Int) (b:Nat),ds=[.tup (ks.map D.int),.int b]/\b≤1000/\gN (md ks b)/\es=(cX (md ks b)).map tI
theorem pI (T:Txt P w K mg) (Ii:FnOk P w K mg base CX0 k T.Hn T.Hr ["choices"] (lQ K)):FnOk P w K mg base CX0 (k+1) T.HA T.HG ["ks","size"] (mr K qr):=by
 refine T.IP.ok sc_args_for (λvs H Q E h=>?_) (λcdv A outer s H vs Q E hr h=>?_)
 ·obtain ⟨ds,es,hd,⟨ks,b,rfl,_⟩,_⟩:=h;exact hd.length.symm
 have nd:=sc_args_for.nd
 obtain ⟨ds,es,hd,⟨ks,b,rfl,hb,hok,rfl⟩,post⟩:=h
 obtain ⟨v0,v1,rfl,h0,h1⟩:=eK hd
 refine ⟨_,(au (aG (aF Ii hr rfl T.IF T.GC.kp (gW T) .nil aY (ag (eE (own:=["k"]) (fr:=[0,1]) (N':=["k","ks","size"]) (jG rfl T.Ie (ag (aQ (v:=.int 4) rfl T.Fs ⟨_,rfl⟩) af)) rfl (by show cK ["ks","size"] (λx=>(aw fm).names.lookup x) _ _ _ _=true;decide +kernel) rfl (λ_ _ _ _ _=>(aM (i:=0) (by show List.Nodup [("k":Str),("ks":Str),("size":Str)];decide +kernel) rfl (Or.inl rfl))) (λ_ _ _ _ _=>cG) (λ_ _ _ _ _=>(fh (aH (show OpR _ _ (rIn K false) from eY) (pv 0) (pv 1) (by with_unfolding_all rfl)) (bP (ef rfl) rfl T.Jv gX (ag (bP iS rfl T.Ie iP (ag (pv 2) af)) af)) (bp (ag ao af))))) af)))),?_⟩
 refine Aw (xp (xq (RCL.use (K:=K) (zA (n:=4) (aa aq ah) (by decide) ((md ks b).map (·.map D.int)) (by unfold md;rw [List.length_map,List.length_map,List.length_range]) rfl (λG i es sG he=>?_)) λl us H1 nl s1 hy dL=>?_)))
 ·unfold md at he
  rw [List.getElem?_map,List.getElem?_map] at he
  obtain ⟨c,hc,rfl⟩:=Option.map_eq_some_iff.mp he
  obtain ⟨k',hk,rfl⟩:=Option.map_eq_some_iff.mp hc
  have hk4:i < 4:=by have:=(List.getElem?_eq_some_iff.mp hk).1;rwa [List.length_range] at this
  rw [List.getElem?_range hk4] at hk
  cases hk
  refine Cj (b:=decide ((i:Int) ∈ ks)) (aB (BD (ae (k:=0) (Dat.intI (i:Int))) (ae (k:=1) (sG.dat h0)))) (λc=>?_) (λc=>?_)
  ·rw [if_pos (of_decide_eq_true c)]
   refine RC.as (gg (n:=b) (ae (k:=2) (sG.dat h1)) hb) ?_
   rw [List.map_map]
   rfl
  ·rw [if_neg (of_decide_eq_false c)]
   exact iJ (aa aq ah)
 ·exact ⟨l,us,md ks b,rfl,SqL.of hy,dL,hok,λr ys H' s' hr nr dr=>post r ys H' (s1.trans s') hr (s1.free nr) dr⟩
section
variable {mc:MC} {st s:MS} {nm:Str} {num on:Nat}
theorem BR {p:Nat × MS} (o:gy mc st) (h:kf nm num on st=some p):gy mc p.2/\p.2.ended=st.ended:=by
 unfold kf at h
 split at h
 ·cases h;exact ⟨o,rfl⟩
 ·split at h
  ·obtain ⟨q,hq,e⟩:=Option.map_eq_some_iff.mp h
   cases e
   exact ⟨(i5 o hq).1,(ib hq).2.2.2⟩
  ·split at h
   ·split at h
    ·cases h
    ·rename_i hl
     cases h
     have:=o.k
     exact ⟨⟨o.p,o.l,by show st.kept.length+1≤16;omega⟩,rfl⟩
   ·split at h
    ·cases h
    ·rename_i k r e
     cases h
     have:=o.k
     rw [e,List.length_cons] at this
     exact ⟨⟨o.p,o.l,by show r.length≤16;omega⟩,rfl⟩
theorem AZ (b2:2≤mc.b) (o:gy mc st) (h:dE mc nm num st=some s):gy mc s/\s.ended=st.ended:=by
 have pu:∀ {n:Int} {a b:MS},gy mc a->bJ mc n a=some b->gy mc b/\b.ended=a.ended:=λoa hb=>⟨nU b2 oa hb,(ki hb).2.2.2.2⟩
 have tk:∀ {p:Int × MS} {a:MS},gy mc a->cZ a=some p->gy mc p.2/\p.2.ended=a.ended:=λoa hb=>⟨(i5 oa hb).1,(ib hb).2.2.2⟩
 unfold dE at h
 split at h
 ·exact pu o h
 ·split at h
  ·exact pu o h
  ·obtain ⟨u,hu,h⟩:=Option.bind_eq_some_iff.mp h
   obtain ⟨ou,eu⟩:=tk o hu
   split at h
   ·obtain ⟨a,b⟩:=pu ou h;exact ⟨a,b.trans eu⟩
   ·split at h
    ·obtain ⟨s1,h1,h2⟩:=Option.bind_eq_some_iff.mp h
     obtain ⟨o1,e1⟩:=pu ou h1
     obtain ⟨a,b⟩:=pu o1 h2
     exact ⟨a,b.trans (e1.trans eu)⟩
    ·split at h
     ·obtain ⟨l,hl,h⟩:=Option.bind_eq_some_iff.mp h
      obtain ⟨ol,el⟩:=tk ou hl
      obtain ⟨s1,h1,h2⟩:=Option.bind_eq_some_iff.mp h
      obtain ⟨o1,e1⟩:=pu ol h1
      obtain ⟨a,b⟩:=pu o1 h2
      exact ⟨a,b.trans (e1.trans (el.trans eu))⟩
     ·obtain ⟨l,hl,h⟩:=Option.bind_eq_some_iff.mp h
      obtain ⟨ol,el⟩:=tk ou hl
      obtain ⟨a,b⟩:=pu ol h
      exact ⟨a,b.trans (el.trans eu)⟩
theorem zQ (oc:yW mc) (o:gy mc st) (h:gv mc st=some s):gy mc s/\(st.ended=false->s.ended=true->s.pile.length=1):=by
 unfold gv at h
 split at h
 ·cases h
 ·split at h
  ·cases h
  ·split at h
   ·cases h
   ·unfold doM at h
    split at h
    ·obtain ⟨p,hp,e⟩:=Option.map_eq_some_iff.mp h
     cases e
     obtain ⟨a,b⟩:=BR o hp
     exact ⟨⟨a.p,a.l,a.k⟩,λz w=>by rw [show p.2.ended=true from w,z] at b;cases b⟩
    ·split at h
     ·obtain ⟨p,hp,e⟩:=Option.map_eq_some_iff.mp h
      cases e
      unfold gY at hp
      split at hp
      ·rename_i hl
       cases hp
       exact ⟨⟨o.p,o.l,o.k⟩,λ_ _=>hl⟩
      ·cases hp
     ·obtain ⟨p,hp,e⟩:=Option.map_eq_some_iff.mp h
      cases e
      obtain ⟨a,b⟩:=AZ oc.b2 o hp
      exact ⟨⟨a.p,a.l,a.k⟩,λz w=>by rw [show p.ended=true from w,z] at b;cases b⟩
end
theorem mE {G G':Hp} (s:Same H G) (b:ButM A G G') (h1:H A.m=none) (h2:H A.lp=none) (h3:H A.lk=none):Same H G':=λx o e =>
 b x o (λz=>by rw [z,h1] at e;cases e) (λz=>by rw [z,h2] at e;cases e) (λz=>by rw [z,h3] at e;cases e) (s x o e)
theorem xZ {c:TT} {tb:TS} (Pv:Nat->L2.St->Hp->Prop) (n:Nat) (h0:Pv n σ H)
  (hs:∀ n σ H,Pv n σ H->∃ b,RT c σ H b/\∀ H1,Same H H1->if b=true then tb { En with nx:=λσ' H'=>∃ m,m < n/\Pv m σ' H',ct:=λσ' H'=>∃ m,m < n/\Pv m σ' H',bk:=En.nx } σ H1 else En.nx σ H1):oE c tb En σ H:=by
 refine ⟨Pv,⟨_,h0⟩,?_⟩
 intro m σ H p
 obtain ⟨b,hb,q⟩:=hs m σ H p
 refine hb H (Same.refl _) _ λH1 s=>?_
 have z:=q H1 s
 cases b with
 | true=>exact ⟨_,λσ' H' h=>h,z⟩
 | false=>exact z
def goK (mc:MC):Nat->MS->Option (Option MS)
 | 0,_=>none
 | n+1,st=>if st.place < mc.cs.length then (match gv mc st with
  | none=>some none
  | some s=>goK mc n s) else some (some st)
def pj (w:Int):Option MS->Bool
 | none=>false
 | some st=>eqDs (st.pile.reverse.map D.int) [.int 1,.int w]
abbrev pQ (nm:D) (pt:Pa) (cl:List Cl):D:=.tup [nm,toP pt,.tup (cl.map clD)]
structure nN (pt:Pa) (cl:List Cl) (hs nums ks as:List Int) (b:Int):Prop where
 f:okF hs.length nums.length ks.length pt=true
 dp:gF pt≤3
 t:okT (fpT hs nums ks pt)
 dt:dA (fpT hs nums ks pt)≤8
 c:∀ c ∈ cl,A0 nums.length ks.length c=true
 l:cl.length≤12
 m:yW ⟨cl.map (cM nums ks),as,b⟩
 s:gy ⟨cl.map (cM nums ks),as,b⟩ ⟨(1::hs).reverse,0,[],false⟩
def vm (ds:List D) (d:D):Prop:=∃ (nm:D) (pt:Pa) (cl:List Cl) (hs nums ks as:List Int) (b:Int) (r:Option MS),ds=[pQ nm pt cl,BN hs nums ks as,.int b]/\nN pt cl hs nums ks as b /\
 goK ⟨cl.map (cM nums ks),as,b⟩ 20 ⟨(1::hs).reverse,0,[],false⟩=some r/\d=.bl (pj (bX as b (fpT hs nums ks pt)) r)
section
variable {ta tb:TE} {σ:L2.St} {H:Hp} {ds es:List D}
theorem tP (h1:RL K ta σ H ds) (h2:RL K tb σ H es) (n:noLs ds=true) (n2:noLs es=true) (d:deepDs ds≤20):RE K (tOp (Ca K false) ta tb) σ H (.bl (eqDs ds es)):=λH1 s Q q =>
 h1 H1 s _ λv H2 s2 q2=>h2 H2 (s.trans s2) _ λw H3 s3 q3=>by
  obtain ⟨a,xs,rfl,ha,da⟩:=s3.ld q2
  obtain ⟨b,ys,rfl,hb,db⟩:=q3
  exact ⟨a,b,xs,ys,ds,es,rfl,rfl,ha.sqL,hb.sqL,da,db,n,n2,d,q _ _ (s2.trans s3) (Dat.blI _)⟩
end
theorem wY (T:Txt P w K mg) (Kc:FnOk P w K mg base CX0 (k+1) T.FK T.FO ["cell","nums","ks"] (spD K qu)) (Js:FnOk P w K mg base CX0 k T.D1 T.D4 ["self","cells","given","size","pile"] (Co K T.C0)) (JW:FnOk P w K mg base (CX2 P w) (k+1) T.Ff T.Fl ["self"] (r9 K T.C1 T.C0)) (Fx:FnOk P w K mg base CX0 (k+1) T.Dr T.Dt ["pattern","trial"] (spD K (Rfp 3))) (Hy:FnOk P w K mg base CX0 (k+1) T.FU T.FV ["tree","args","size"] (spD K (ik 8))):FnOk P w K mg base CX0 (k+1+1) T.Jy T.JD ["piece","trial","size"] (spD K vm):=by
 refine T.JV.ok sc_keeps (λvs H Q E h=>?_) (λcdv A outer s H vs Q E hr h=>?_)
 ·obtain ⟨ds,d,hd,⟨nm,pt,cl,hs,nums,ks,as,b,r,rfl,_⟩,_⟩:=h;exact hd.length.symm
 have nd:=sc_keeps.nd
 obtain ⟨ds,d,hd,⟨nm,pt,cl,hs,nums,ks,as,b,r,rfl,ok,hgo,rfl⟩,post⟩:=h
 obtain ⟨v0,v1,v2,rfl,h0,h1,h2⟩:=jU hd
 obtain rfl:=h2.intE
 refine ⟨_,(aj (dY (pv 0) (fj rfl (bf (aM (i:=3) nd rfl (Or.inl rfl)) (bf (aM (i:=4) nd rfl (Or.inl rfl)) (bf (aM (i:=5) nd rfl (Or.inl rfl)) dF)))))
 (aj (dY (pv 1) (fj rfl (bf (aM (i:=6) nd rfl (Or.inl rfl)) (bf (aM (i:=7) nd rfl (Or.inr rfl)) (bf (aM (i:=8) nd rfl (Or.inr rfl)) (bf (aM (i:=9) nd rfl (Or.inl rfl)) dF))))))
 (aj (lE (i:=10) (own:=["cell"]) (fr:=[7,8]) (N':=["cell","nums","ks"]) (jH (pv 5)) rfl (by show cK ["piece","trial","size","name","pattern","cells","holes","nums","ks","args","laid_cells","machine"] (λx=>(aw jk).names.lookup x) _ _ _ _=true;decide +kernel) rfl (λ_ _ _ _ _=>(aM (i:=0) (by show List.Nodup [("cell":Str),("nums":Str),("ks":Str)];decide +kernel) rfl (Or.inl rfl))) (λ_ _ _ _ _=>cG) (λ_ _ _ _ _=>(aF Kc hr rfl T.Jp T.GH.kp (lW T) .nil aY (ag (pv 0) (ag (pv 1) (ag (pv 2) af))))) nd rfl rfl rfl)
 (aj (bq (i:=11) nd rfl (Or.inl rfl) (zh T.mk_Machine Js hr rfl T.Ht (iA T) .nil aY (ag (pv 10) (ag (pv 9) (ag (pv 2) (ag (bu za (bp (ag (aQ (v:=.int 1) rfl T.DG ⟨_,rfl⟩) af)) (bP iR rfl T.Jv gX (ag (pv 6) af))) af))))))
 (aj (xl (t:=λE=>oE (qg (tOp (rI0 λi j=>.bl (decide (i < j))) (jo K (cx 11) "place") (tCB (λxs H Q=>∃ p ys,xs=[.ref p]/\(SqL K H p ys\/SqT K H p ys)/\Q (.int ys.length) H) (bj (cx 10) ck)))) (qc (λσ=>m5 T.C0 "step" (r9 K T.C1 T.C0) [] (E σ) (cx 11) ck σ))) (λpn xe E hx ho=>(au (lF ho (aH lA (cg (pv 11) rfl) (aJ aP rfl T.EV bU (ag (pv 10) af)) (aN _)) (au (aX (uG (pv 11) T.cl_Machine T.mt_Machine_step JW hr (kz T) .nil hx)))))) rfl T.Eb (λe=>(au (aG cf))))
 (au (aG (eB (nV hr) (cg (pv 11) rfl) (bp (ag (aQ (v:=.int 1) rfl T.DG ⟨_,rfl⟩) (ag (aF Hy hr rfl T.HS T.FX.kp (fY T) .nil aY (ag (aF Fx hr rfl T.FG T.DJ.kp (dW T) .nil aY (ag (pv 4) (ag (pv 1) af))) (ag (pv 9) (ag (pv 2) af)))) af))) (aN _))))))))),?_⟩
 refine ot (K:=K) (d:=nm) (e:=toP pt) (f:=.tup (cl.map clD)) (ae (k:=0) h0) λv3 v4 v5 H1 s1 q3 q4 q5=>?_
 refine hI (K:=K) (ae (k:=1) (s1.dat h1)) λv6 v7 v8 v9 H2 s2 q6 q7 q8 q9=>?_
 have hl:=ok.l
 refine ji (K:=K) (es:=(cl.map (cM nums ks)).map D.int) (rL (ae (k:=5) (s2.dat q5)) (by rw [List.length_map];omega) _ (by simp) rfl (λG i c v d sG hc hd hv=>?_)) λlc ys H3 nc s3 hc dc=>?_
 ·rw [List.getElem?_map] at hc
  obtain ⟨c0,hc0,rfl⟩:=Option.map_eq_some_iff.mp hc
  rw [List.getElem?_map,List.getElem?_map,hc0] at hd
  cases hd
  exact aR (R:=qu) (aa (ae (k:=0) hv) (aa (ae (k:=1) (sG.dat q7)) (aa (ae (k:=2) (sG.dat q8)) ah))) ⟨c0,nums,ks,rfl,ok.c c0 (List.mem_of_getElem? hc0),rfl⟩
 obtain rfl:=o6 dc
 have s13:=s2.trans s3
 have sH3:=s1.trans s13
 have q6:=s3.dat q6
 have q9:=s3.dat q9
 refine d6 ⟨_,rfl,_,rfl,_,rfl,RC.use (K:=K) (zx (jZ (iJ (aa aq ah))) (jZ (rJ (ae (k:=6) q6))) (by have:=ok.s.l;rw [List.length_reverse,List.length_cons] at this;rw [List.length_map];simp only [List.length_cons,List.length_nil];omega)) λl0 y0 H4 nl0 s4 hy4 d4 x dx nx ndx hne=>?_⟩
 have s5:Same H4 (upd (upd H4 dx (.own x)) x (.ins T.C0 dx [])):=(aC ndx _).trans (aC (by rw [aD (Ne.symm hne)];exact nx) _)
 have s45:=s4.trans s5
 have er:((1::hs).reverse.reverse.map D.int)=[D.int 1]++hs.map D.int:=by rw [List.reverse_reverse];rfl
 refine ⟨x,dx,lc,v9,.ref l0,⟨cl.map (cM nums ks),as,b⟩,(1::hs).reverse,rfl,av,s45 _ _ hc,s45.dat q9,by rw [er];exact LD.of (s5 _ _ hy4) (s5.dats d4),by have:=ok.s.l;exact Nat.le_trans this (by decide),λA HM em edx elc evg bm nlp nlk M=>⟨rfl,?_⟩⟩
 subst em elc
 have nm3:H3 A.m=none:=s4.free nx
 have np3:H3 A.lp=none:=s45.free nlp
 have nk3:H3 A.lk=none:=s45.free nlk
 have sM:Same H3 HM:=λb' o e=>bm b' o (λz=>by rw [z,nm3] at e;cases e) (s45 _ _ e)
 refine dI (xZ (λn σ G=>∃ st,σ=[some v0,some v1,some (.int b),some v3,some v4,some v5,some v6,some v7,some v8,some v9,some (.ref A.lc),some (.ref A.m)]/\MacAt K T.C0 A ⟨cl.map (cM nums ks),as,b⟩ st G/\gy ⟨cl.map (cM nums ks),as,b⟩ st/\Same H3 G/\goK ⟨cl.map (cM nums ks),as,b⟩ n st=some r) 20 ?_ ?_)
 ·exact ⟨_,rfl,M,ok.s,sM,hgo⟩
 ·rintro n σ G ⟨st,rfl,M,os,sG,hg⟩
  refine ⟨decide ((st.place:Int) < (((cl.map (cM nums ks)).map D.int).length:Int)),aB (bK (p:=λi j=>decide (i < j)) (km (i:=11) (z:=st.place) M T.cl_Machine T.na_place) (fA (dH (K:=K) (k:=10) (LD.of M.cells (eW _))))),λG1 t1=>?_⟩
  have M:=M.same t1
  have sG1:=sG.trans t1
  cases n with
  | zero=>cases hg
  | succ n =>
  by_cases hlt:st.place < (cl.map (cM nums ks)).length
  ·rw [decide_eq_true (by rw [List.length_map];omega)]
   have hg:(if st.place < (cl.map (cM nums ks)).length then (match gv ⟨cl.map (cM nums ks),as,b⟩ st with
    | none=>some none
    | some s=>goK ⟨cl.map (cM nums ks),as,b⟩ n s) else some (some st))=some r:=hg
   rw [if_pos hlt] at hg
   refine ph ⟨_,rfl,A.m,A.dx,_,rfl,M.ins,by kernel_rfl,A,_,st,rfl,M,ok.m,os,λv st' e G3 b3 M3=>?_,λe G3 dx b3 hd=>⟨T.DI,?_⟩⟩
   ·obtain ⟨s',hs',e2⟩:=Option.map_eq_some_iff.mp e
    cases e2
    obtain ⟨os2,_⟩:=zQ ok.m os hs'
    rw [hs'] at hg
    exact ⟨n,Nat.lt_succ_self n,st',rfl,M3,os2,mE sG1 b3 nm3 np3 nk3,hg⟩
   ·have e:gv ⟨cl.map (cM nums ks),as,b⟩ st=none:=by simpa using e
    rw [e] at hg
    cases hg
    exact post _ _ (sH3.trans (mE sG1 b3 nm3 np3 nk3)) (Dat.blI _)
  ·rw [decide_eq_false (by rw [List.length_map];omega)]
   have hg:(if st.place < (cl.map (cM nums ks)).length then (match gv ⟨cl.map (cM nums ks),as,b⟩ st with
    | none=>some none
    | some s=>goK ⟨cl.map (cM nums ks),as,b⟩ n s) else some (some st))=some r:=hg
   rw [if_neg hlt] at hg
   cases hg
   refine qU (aU (K:=K) (d:=.bl (pj (bX as b (fpT hs nums ks pt)) (some st))) (tP (om (i:=11) M T.cl_Machine T.na_pile) (jZ (iJ (aa aq (aa (aR (R:=ik 8) (aa (aR (R:=Rfp 3) (aa (ae (k:=4) ((s13.trans sG1).dat q4)) (aa (ae (k:=1) ((sH3.trans sG1).dat h1)) ah)) ⟨pt,hs,nums,ks,as,rfl,ok.f,ok.dp,rfl⟩) (aa (ae (k:=9) (sG1.dat q9)) (aa (ae (k:=2) (Dat.intI b)) ah))) ⟨_,as,b,rfl,ok.t,ok.dt,⟨ok.m.as,ok.m.ai,ok.m.b2,ok.m.b9⟩,rfl⟩) ah)))) (jD _) rfl (by rw [gE];decide)) λv H' s q=>post v H' (sH3.trans (sG1.trans s)) q)
abbrev TRI:List Int:=[0,1,2,99,100,9999]
def wc:D->Option Int
 | .tup [_,_,.int m]=>some m
 | _=>none
def rng (b:Nat):List Int:=(List.range b).map λi:Nat=>(i:Int)
abbrev hD (pt:Pa):List D:=bI 3 "hole" (toP pt)
abbrev gD (pt:Pa):List D:=bI 3 "gap" (toP pt)
abbrev sD (pt:Pa):List D:=bI 3 "slot" (toP pt)
def qG (pt:Pa) (b:Nat):List (List Int):=(hD pt).map λ_=>rng b
def qH (pt:Pa):List (List Int):=(gD pt).map λg=>TRI.filter λi=>decide (i≤(wc g).getD 0)
def nD (pt:Pa):List (List Int):=(sD pt).map λ_=>rng 4
structure zY (nm:D) (pt:Pa) (cl:List Cl) (b:Nat):Prop where
 pc:cz (pQ nm pt cl)=some true
 nmk:iW (pQ nm pt cl)
 pp:ppD 3 (toP pt)=true
 b2:2≤b
 b5:b≤5
 g:∀ c ∈ gD pt,(wc c).isSome=true
 rh:gN (qG pt b)
 rn:gN (qH pt)
 rk:gN (nD pt)
 ra:∀ ks ∈ cX (nD pt),gN (md ks b)
 all:∀ hs ∈ cX (qG pt b),∀ nums ∈ cX (qH pt),∀ ks ∈ cX (nD pt),∀ as ∈ cX (md ks b),nN pt cl hs nums ks as b/\∃ r,goK ⟨cl.map (cM nums ks),as,b⟩ 20 ⟨(1::hs).reverse,0,[],false⟩=some r/\pj (bX as b (fpT hs nums ks pt)) r=true
def mw (ds:List D) (d:D):Prop:=∃ (nm:D) (pt:Pa) (cl:List Cl) (b:Nat),ds=[pQ nm pt cl,.int b]/\zY nm pt cl b/\d=.non
def oK (N6 N0:Addr) (ds:List D) (C:Addr):Prop:=∃ x y,ds=[x,y]/\iW x/\(((cz x).getD false=false/\C=N6)\/(cz x=some true/\bO y 2 5=false/\C=N0))
theorem xD {t:TE} (h:RE K t σ H (.int n)) (hn:n≤1000):RC K (tCB (λxs H Q=>∃ (p:Addr) (n:Nat),xs=[.ref p]/\H p=some (.rng 0 n)/\n≤1000/\∀ l,H l=none->Q (.ref l) (upd H l (.lst ((List.range n).map λi:Nat=>V.int i))))
  (bj (tCB (λxs H Q=>∃ n:Nat,xs=[.int n]/\∀ p,H p=none->Q (.ref p) (upd H p (.rng 0 n))) (bj t ck)) ck)) σ H ((rng n).map D.int):=RC.as (gg h hn) (by unfold rng;rw [List.map_map];rfl)
theorem A5 {c:D} {m:Int} (h:wc c=some m):∃ a b,c=.tup [a,b,.int m]:=by
 unfold wc at h
 split at h
 ·cases h;exact ⟨_,_,rfl⟩
 ·cases h
def leD (m:Int):D->Bool
 | .int i=>decide (i≤m)
 | _=>false
theorem yP (m:Int):TRN.filter (leD m)=(TRI.filter λi=>decide (i≤(some m).getD 0)).map D.int:=by
 show (TRI.map D.int).filter (leD m)=_
 rw [List.filter_map]
 rfl
theorem oo {rows:List (List Int)} {x:V} (d:Dats K H (rows.map tI) ys) (h:ys[i]?=some x):∃ r,r ∈ rows/\Dat K H (tI r) x:=by
 obtain ⟨c,hc,hv⟩:=d.getV h
 rw [List.getElem?_map] at hc
 obtain ⟨r,hr,rfl⟩:=Option.map_eq_some_iff.mp hc
 exact ⟨r,List.mem_of_getElem? hr,hv⟩
variable {css:List (List Int)}
theorem oq (h:RCL K tl σ H (css.map (·.map D.int))) (ok:gN css)
  (q:∀ r ys H',Same H H'->H' r=some (.lst ys)->H r=none->Dats K H' ((cX css).map tI) ys->us En (σ.set i (some (.ref r))) H'):iL (jn (fV (lQ K) [] E (bj tl ck)) (bC i)) us En σ H :=
 show tl σ H (λx H1=>lQ K ([x]++[]) H1 (λv H2=>us En (σ.set i (some v)) H2) E) from
  RCL.use (K:=K) h λl ws H1 nl s1 hy dL=>⟨l,ws,css,rfl,SqL.of hy,dL,ok,λr ys H' s' hr nr dr=>q r ys H' (s1.trans s') hr (s1.free nr) dr⟩
theorem ny (T:Txt P w K mg):Binds K T.GQ ["size","most"] []:=by
 obtain ⟨oc,od,kV,doc,pm,an,cdv,ct,osl,e,lk,hcd⟩:=T.GS.ex
 obtain ⟨o,n,l,h⟩:=T.GS.df
 intro s us hK hl
 have hl':us.length=2:=by simpa using hl
 match us,hl' with
 | [u0,u1],_=>rw [e];exact .of_defaults (T:=T.Jf) rfl (hK _ _ l) h rfl rfl
theorem rg (T:Txt P w K mg) (II:FnOk P w K mg base (CX2 P w) k T.FB T.FC ["piece"] (spE K iz (kq T.CZ))) (Ku:FnOk P w K mg base (CX2 P w) k T.GN T.GQ ["size","most"] (spE K qv (qo T.C3))) (Ii:FnOk P w K mg base CX0 k T.Hn T.Hr ["choices"] (lQ K)) (EW:FnOk P w K mg base CX0 k T.EX T.EY ["pattern","kind"] (mr K (eO 3))) (Kz:FnOk P w K mg base CX0 k T.HA T.HG ["ks","size"] (mr K qr)) (K2:FnOk P w K mg base CX0 k T.Jy T.JD ["piece","trial","size"] (spD K vm)):FnOk P w K mg base (CX2 P w) (k+1) T.Ij T.Iu ["piece","size"] (spE K mw (oK T.CZ T.C3)):=by
 refine T.Jh.ok2 sc_failing (λvs H Q E h=>?_) (λcdv A outer s H vs Q E hr h=>?_)
 ·obtain ⟨ds,hd,h⟩:=h;rcases h with ⟨d,⟨nm,pt,cl,b,rfl,_⟩,_⟩ | ⟨C,⟨x,y,rfl,_⟩,_⟩ <;> exact hd.length.symm
 have nd:=sc_failing.nd
 obtain ⟨ds,hd,h⟩:=h
 refine ⟨_,(aj (aX (aF II hr rfl T.IS T.Gs.kp (iO T) .nil dC (ag (pv 0) af)))
 (aj (aX (aF Ku hr rfl T.JQ T.GS.kp (ny T) .nil dC (ag (pv 1) (ag (aQ (v:=.int 5) rfl T.DA ⟨_,rfl⟩) af))))
 (aj (bq (i:=2) nd rfl (Or.inl rfl) (aV aS (pv 0) ao (λ_ _=>rfl)))
 (aj (bq (i:=3) nd rfl (Or.inl rfl) (aF Ii hr rfl T.IF T.GC.kp (gW T) .nil aY (ag (eE (own:=["mark"]) (fr:=[1]) (N':=["mark","size"]) (di (aF EW hr rfl T.FZ T.E3.kp (dX T) .nil aY (ag (pv 2) (ag az af)))) rfl (by show cK ["piece","size","pattern","all_holes","all_nums","all_ks","holes","nums","ks","args","trial"] (λx=>(aw d7).names.lookup x) _ _ _ _=true;decide +kernel) rfl (λ_ _ _ _ _=>(aM (i:=0) (by show List.Nodup [("mark":Str),("size":Str)];decide +kernel) rfl (Or.inl rfl))) (λ_ _ _ _ _=>cG) (λ_ _ _ _ _=>(bP (ef rfl) rfl T.Jv gX (ag (bP iS rfl T.Ie iP (ag (pv 1) af)) af)))) af)))
 (aj (bq (i:=4) nd rfl (Or.inl rfl) (aF Ii hr rfl T.IF T.GC.kp (gW T) .nil aY (ag (w6 (x0:="mark") (own:=["mark"]) (fr:=[]) (N':=["mark"]) (di (aF EW hr rfl T.FZ T.E3.kp (dX T) .nil aY (ag (pv 2) (ag az af)))) rfl (yu (by show nz "mark" ["piece","size","pattern","all_holes","all_nums","all_ks","holes","nums","ks","args","trial"] (λx=>(aw d7).names.lookup x) _ _ _ _=true;decide +kernel)) rfl (λ_ _=>rfl) (λ_=>rfl) rfl (λ_ _ _ _ _ _=>(aM (i:=0) (by show List.Nodup [("mark":Str)];decide +kernel) rfl (Or.inr rfl))) (λ_ _ _ _ _ _=>cG) (λ_ _ _ _ _ _=>(eE (own:=["num"]) (fr:=[0]) (N':=["num","mark"]) (zk (K:=K) rfl (aQ (v:=.ref T.He) rfl T.FF rfl)) rfl (by kernel_rfl) rfl (λ_ _ _ _ _=>(aM (i:=0) (by show List.Nodup [("num":Str),("mark":Str)];decide +kernel) rfl (Or.inl rfl))) (λ_ _ _ _ _=>(xj (aH lq (pv 0) (aV (r:=xn K) aS (pv 1) ao (λ_ _=>rfl)) (aN _)))) (λ_ _ _ _ _=>(pv 0))))) af)))
 (aj (bq (i:=5) nd rfl (Or.inl rfl) (aF Ii hr rfl T.IF T.GC.kp (gW T) .nil aY (ag (eE (own:=["mark"]) (fr:=[]) (N':=["mark"]) (di (aF EW hr rfl T.FZ T.E3.kp (dX T) .nil aY (ag (pv 2) (ag az af)))) rfl (by show cK ["piece","size","pattern","all_holes","all_nums","all_ks","holes","nums","ks","args","trial"] (λx=>(aw d7).names.lookup x) _ _ _ _=true;decide +kernel) rfl (λ_ _ _ _ _=>(aM (i:=0) (by show List.Nodup [("mark":Str)];decide +kernel) rfl (Or.inl rfl))) (λ_ _ _ _ _=>cG) (λ_ _ _ _ _=>(bP (ef rfl) rfl T.Jv gX (ag (bP iS rfl T.Ie iP (ag (aQ (v:=.int 4) rfl T.Fs ⟨_,rfl⟩) af)) af)))) af)))
 (aj (PS.nox (gd PassesOwn.never rfl (di (pv 3)) (aM (i:=6) nd rfl (Or.inl rfl)) (au (PS.nox (gd PassesOwn.never rfl (di (pv 4)) (aM (i:=7) nd rfl (Or.inl rfl)) (au (PS.nox (gd PassesOwn.never rfl (di (pv 5)) (aM (i:=8) nd rfl (Or.inl rfl)) (au (PS.nox (gd PassesOwn.never rfl (di (aF Kz hr rfl T.J7 T.IP.kp (qA T) .nil aY (ag (pv 8) (ag (pv 1) af)))) (aM (i:=9) nd rfl (Or.inl rfl)) (aj (bq (i:=10) nd rfl (Or.inl rfl) (ay (ag (pv 6) (ag (pv 7) (ag (pv 8) (ag (pv 9) af))))))
 (au (aZ (bV (bh (aF K2 hr rfl T.KJ T.JV.kp (yn T) .nil aY (ag (pv 0) (ag (pv 10) (ag (pv 1) af)))) (λ_=>rfl))) (au (aG (pv 10))) aK))))))))))))))
 (au (aG gQ))))))))),?_⟩
 rcases h with ⟨d,⟨nm,pt,cl,b,rfl,G,rfl⟩,post⟩ | ⟨C,⟨x,y,rfl,hok,hC⟩,post⟩
 ·obtain ⟨v0,v1,rfl,h0,h1⟩:=eK hd
  obtain rfl:=h1.intE
  have b2:=G.b2
  have b5:=G.b5
  refine dv (RE.use (fk (R:=iz) (d:=.non) (aa (ae (K:=K) (k:=0) h0) ah) ⟨_,rfl,G.nmk,G.pc,rfl⟩) λv3 H1 s1 _=>?_)
  refine dv (RE.use (fk (R:=qv) (d:=.non) (aa (ae (K:=K) (k:=1) (Dat.intI (b:Int))) (aa aq ah)) ⟨_,rfl,by show (decide ((2:Int)≤b) && decide ((b:Int)≤5))=true;rw [decide_eq_true (by omega),decide_eq_true (by omega)];rfl,rfl⟩) λv4 H2 s2 _=>?_)
  have s12:=s1.trans s2
  refine bD (K:=K) (d:=toP pt) (ba (k:=1) (ae (k:=0) (s12.dat h0)) aq rfl) λv2 H3 s3 q2=>?_
  have s13:=s12.trans s3
  refine oq (K:=K) (css:=qG pt b) (lG (cs:=hD pt) (jZ (hE (R:=eO 3) (aa (ae (k:=2) q2) (aa ax ah)) ⟨toP pt,"hole",rfl,by decide,G.pp,rfl⟩)) (Nat.le_trans (fO "hole" 3 (toP pt) G.pp) (by decide)) _ (by unfold qG;rw [List.length_map,List.length_map]) rfl (λF i c v es sF hc he hv=>?_)) G.rh λr3 y3 H4 s4 hr3 nr3 d3=>?_
  ·unfold qG at he
   rw [List.getElem?_map,List.getElem?_map,hc] at he
   cases he
   exact xD (ae (k:=1) (Dat.intI (b:Int))) (by omega)
  refine oq (K:=K) (css:=qH pt) (lG (cs:=gD pt) (jZ (hE (R:=eO 3) (aa (ae (k:=2) (s4.dat q2)) (aa ax ah)) ⟨toP pt,"gap",rfl,by decide,G.pp,rfl⟩)) (Nat.le_trans (fO "gap" 3 (toP pt) G.pp) (by decide)) _ (by unfold qH;rw [List.length_map,List.length_map]) rfl (λF i c v es sF hc he hv=>?_)) G.rn λr4 y4 H5 s5 hr4 nr4 d4=>?_
  ·unfold qH at he
   rw [List.getElem?_map,List.getElem?_map,hc] at he
   cases he
   have hg:=G.g c (List.mem_of_getElem? hc)
   obtain ⟨m,hm⟩:=Option.isSome_iff_exists.mp hg
   obtain ⟨ca,cb,rfl⟩:=A5 hm
   refine RC.as (xB (cs:=TRN) (dZ T.JA) (by decide) (leD m) rfl (λF2 i c v2 t2 hc2 hv2=>?_)) (yP m)
   have hc3:(TRI.map D.int)[i]?=some c:=hc2
   rw [List.getElem?_map] at hc3
   obtain ⟨j,_,rfl⟩:=Option.map_eq_some_iff.mp hc3
   exact ⟨aB (bK (p:=λi j=>decide (i≤j)) (ae (k:=0) hv2) (ba (k:=2) (ae (k:=1) (t2.dat hv)) aq rfl)),ae (k:=0) hv2⟩
  have s45:=s4.trans s5
  refine oq (K:=K) (css:=nD pt) (lG (cs:=sD pt) (jZ (hE (R:=eO 3) (aa (ae (k:=2) (s45.dat q2)) (aa ax ah)) ⟨toP pt,"slot",rfl,by decide,G.pp,rfl⟩)) (Nat.le_trans (fO "slot" 3 (toP pt) G.pp) (by decide)) _ (by unfold nD;rw [List.length_map,List.length_map]) rfl (λF i c v es sF hc he hv=>?_)) G.rk λr5 y5 H6 s6 hr5 nr5 d5=>?_
  ·unfold nD at he
   rw [List.getElem?_map,List.getElem?_map,hc] at he
   cases he
   exact xD (n:=4) aq (by decide)
  have s56:=s5.trans s6
  have hr3:=s56 _ _ hr3
  have d3:=s56.dats d3
  have hr4:=s6 _ _ hr4
  have d4:=s6.dats d4
  have sH6:=s13.trans (s45.trans s6)
  have h0:=sH6.dat h0
  clear s1 s2 s12 s3 s13 s4 s5 s45 s6 s56 hd
  refine dI ⟨_,rfl,r3,rfl,⟨y3,SqL.of hr3⟩,gH (K:=K) (a:=r3) (xs:=y3) (λ_ σ F=>∃ z6 z7 z8 z9 z10:Option V,σ=[some v0,some (.int (b:Int)),some v2,some (.ref r3),some (.ref r4),some (.ref r5),z6,z7,z8,z9,z10]/\Same H6 F) ?_ (λ_ σ F _ ⟨_,_,_,_,_,_,sF⟩=>SqL.of (sF _ _ hr3)) ?_ ?_⟩
  ·exact ⟨none,none,none,none,none,rfl,Same.refl _⟩
  ·rintro i6 x6 σ F hx6 ⟨z6,z7,z8,z9,z10,rfl,sF⟩
   obtain ⟨hs,hhs,q6⟩:=oo d3 hx6
   refine fB ?_
   dsimp only
   refine ⟨_,rfl,r4,rfl,⟨y4,SqL.of (sF _ _ hr4)⟩,gH (K:=K) (a:=r4) (xs:=y4) (λ_ σ F=>∃ z7 z8 z9 z10:Option V,σ=[some v0,some (.int (b:Int)),some v2,some (.ref r3),some (.ref r4),some (.ref r5),some x6,z7,z8,z9,z10]/\Same H6 F) ?_ (λ_ σ F _ ⟨_,_,_,_,_,sF⟩=>SqL.of (sF _ _ hr4)) ?_ ?_⟩
   ·exact ⟨z7,z8,z9,z10,rfl,sF⟩
   ·rintro i7 x7 σ F hx7 ⟨z7,z8,z9,z10,rfl,sF⟩
    obtain ⟨nums,hnums,q7⟩:=oo d4 hx7
    refine fB ?_
    dsimp only
    refine ⟨_,rfl,r5,rfl,⟨y5,SqL.of (sF _ _ hr5)⟩,gH (K:=K) (a:=r5) (xs:=y5) (λ_ σ F=>∃ z8 z9 z10:Option V,σ=[some v0,some (.int (b:Int)),some v2,some (.ref r3),some (.ref r4),some (.ref r5),some x6,some x7,z8,z9,z10]/\Same H6 F) ?_ (λ_ σ F _ ⟨_,_,_,_,sF⟩=>SqL.of (sF _ _ hr5)) ?_ ?_⟩
    ·exact ⟨z8,z9,z10,rfl,sF⟩
    ·rintro i8 x8 σ F hx8 ⟨z8,z9,z10,rfl,sF⟩
     obtain ⟨ks,hks,q8⟩:=oo d5 hx8
     refine fB ?_
     dsimp only
     refine RC.use (K:=K) (hE (R:=qr) (aa (ae (k:=8) (sF.dat q8)) (aa (ae (k:=1) (Dat.intI (b:Int))) ah)) ⟨ks,b,rfl,by omega,G.ra ks hks,rfl⟩) λra ya Fa na sa hya da=>?_
     refine ⟨ra,rfl,⟨ya,SqL.of hya⟩,gH (K:=K) (a:=ra) (xs:=ya) (λ_ σ F=>∃ z9 z10:Option V,σ=[some v0,some (.int (b:Int)),some v2,some (.ref r3),some (.ref r4),some (.ref r5),some x6,some x7,some x8,z9,z10]/\Same Fa F) ?_ (λ_ σ F _ ⟨_,_,_,sF⟩=>SqL.of (sF _ _ hya)) ?_ ?_⟩
     ·exact ⟨z9,z10,rfl,Same.refl _⟩
     ·rintro i9 x9 σ F9 hx9 ⟨z9,z10,rfl,sF9⟩
      obtain ⟨as,has,q9⟩:=oo da hx9
      refine fB ?_
      dsimp only
      have sA:=sF.trans (sa.trans sF9)
      obtain ⟨okt,r,hgo,hkp⟩:=G.all hs hhs nums hnums ks hks as has
      refine bD (K:=K) (d:=BN hs nums ks as) (aA (aa (ae (k:=6) (sA.dat q6)) (aa (ae (k:=7) (sA.dat q7)) (aa (ae (k:=8) (sA.dat q8)) (aa (ae (k:=9) (sF9.dat q9)) ah))))) λv10 Ft st qt=>?_
      refine jh (b:=false) (RT.as (bw (aW (aR (K:=K) (R:=vm) (aa (ae (k:=0) ((sA.trans st).dat h0)) (aa (ae (k:=10) qt) (aa (ae (k:=1) (Dat.intI (b:Int))) ah))) ⟨nm,pt,cl,hs,nums,ks,as,b,r,rfl,okt,hgo,rfl⟩))) (by rw [hkp];rfl)) (λc=>nomatch c) (λ_ Fk sk=>?_)
      exact (show qf _ _ _ from ⟨_,_,rfl,sF9.trans (st.trans sk)⟩)
     ·rintro σ F9 ⟨z9,z10,rfl,sF9⟩
      exact ⟨_,_,_,rfl,sF.trans (sa.trans sF9)⟩
    ·rintro σ F ⟨z8,z9,z10,rfl,sF⟩
     exact ⟨_,_,_,_,rfl,sF⟩
   ·rintro σ F ⟨z7,z8,z9,z10,rfl,sF⟩
    exact ⟨_,_,_,_,_,rfl,sF⟩
  ·rintro σ F ⟨z6,z7,z8,z9,z10,rfl,sF⟩
   exact post _ _ (sH6.trans sF) Dat.nonI
 ·obtain ⟨v0,v1,rfl,h0,h1⟩:=eK hd
  rcases hC with ⟨hx,rfl⟩ | ⟨hx,hy,rfl⟩
  ·exact dv (fP (B:=kq T.CZ) (aa (ae (K:=K) (k:=0) h0) ah) ⟨x,rfl,hok,hx,rfl⟩ λH' s=>post H' s)
  ·refine dv (RE.use (fk (R:=iz) (d:=.non) (aa (ae (K:=K) (k:=0) h0) ah) ⟨x,rfl,hok,hx,rfl⟩) λv3 H1 s1 _=>?_)
   exact dv (fP (B:=qo T.C3) (aa (ae (K:=K) (k:=1) (s1.dat h1)) (aa aq ah)) ⟨y,rfl,hy,rfl⟩ λH' s=>post H' (s1.trans s))
abbrev CG:D:=.tup [.str "arg",.int 0]
abbrev AF:D:=.tup [.str "add",lS 3,gM]
def yb (i:Nat):D:=if i≤3 then lS i else AF
def qb (K:PySem.W.Frag):Sp:=λvs H Q _=>∃ (a t:Addr) (ns:List Int) (p q:Int) (rest:List V),vs=[.ref a,.ref t]/\Scr K H a ns/\H t=some (.lst (.int p::.int q::rest))/\0≤p /\
 ∀ (v:V) (H':Hp) (d:D) (p' q':Int),But t H H'->H' t=some (.lst (.int p'::.int q'::rest))->0≤p'->d ∈ AV->Dat K H' d v->Q v H'
theorem j9 (T:Txt P w K mg) (GK:FnOk P w K mg base CX0 k T.Fh T.Fo ["_law_script","_law_town","_law_some"] (oz K)):FnOk P w K mg base CX0 (k+1) T.Fg T.Fm ["_law_script","_law_town"] (qb K):=by
 refine T.Gr.ok sc__law_no_tree (λvs H Q E h=>?_) (λcdv A outer s H vs Q E hr h=>?_)
 ·obtain ⟨a,t,ns,p,q,rest,rfl,_⟩:=h;rfl
 have nd:=sc__law_no_tree.nd
 obtain ⟨a,t,ns,p,q,rest,rfl,hS,hT,hp,post⟩:=h
 refine' ⟨_,?ybody,?yread⟩
 case ybody =>
  refine' aj ?y129 ?y130
  case y129 =>
   refine' dY ?y6 ?y7 ?y8 ?y9
   case y6 =>
    refine' ay ?y5
    case y5 =>
     refine' ag ?y3 ?y4
     case y3=>exact (ay (ag az (ag ao af)))
     case y4 =>
      refine' ag ?y1 ?y2
      case y1=>exact (ay (ag az (ag ao af)))
      case y2=>exact af
   case y7=>exact (fj rfl (bf (aM (i:=2) nd rfl (Or.inl rfl)) (bf (aM (i:=3) nd rfl (Or.inl rfl)) dF)))
   case y8=>rfl
   case y9=>kernel_rfl
  case y130 =>
   refine' aj ?y127 ?y128
   case y127=>exact (bq (i:=4) nd rfl (Or.inl rfl) (pv 2))
   case y128 =>
    refine' aj ?y125 ?y126
    case y125=>exact (gd PassesOwn.never rfl (jG rfl T.Ie (ag ao af)) (aM (i:=5) nd rfl (Or.inl rfl)) (au (bq (i:=4) nd rfl (Or.inl rfl) (ay (ag az (ag (pv 4) (ag (pv 3) af)))))))
    case y126 =>
     refine' aj ?y123 ?y124
     case y123=>exact (bq (i:=6) nd rfl (Or.inl rfl) (pv 2))
     case y124 =>
      refine' aj ?y121 ?y122
      case y121 =>
       refine' gd ?y18 ?y19 ?y20 ?y21 ?y22
       case y18=>exact PassesOwn.never
       case y19=>exact rfl
       case y20=>exact (jG rfl T.Ie (ag ao af))
       case y21=>exact (aM (i:=5) nd rfl (Or.inl rfl))
       case y22 =>
        refine' au ?y17
        case y17 =>
         refine' bq (i:=6) ?y13 ?y14 ?y15 ?y16
         case y13=>exact nd
         case y14=>exact rfl
         case y15=>exact Or.inl rfl
         case y16 =>
          refine' fh ?y10 ?y11 ?y12
          case y10=>exact (aH lA (pv 5) ao (aN _))
          case y11=>exact (ay (ag az (ag (pv 6) (ag (pv 6) (ag (pv 6) af)))))
          case y12=>exact (ay (ag az (ag (pv 6) (ag (pv 2) af))))
      case y122 =>
       refine' aj ?y119 ?y120
       case y119 =>
        refine' bq (i:=7) ?y42 ?y43 ?y44 ?y45
        case y42=>exact nd
        case y43=>exact rfl
        case y44=>exact Or.inl rfl
        case y45 =>
         refine' bp ?y41
         case y41 =>
          refine' ag ?y39 ?y40
          case y39=>exact gQ
          case y40 =>
           refine' ag ?y37 ?y38
           case y37=>exact (ay af)
           case y38 =>
            refine' ag ?y35 ?y36
            case y35=>exact az
            case y36 =>
             refine' ag ?y33 ?y34
             case y33=>exact (ay (ag az af))
             case y34 =>
              refine' ag ?y31 ?y32
              case y31=>exact (ay (ag az (ag (xb so ao) af)))
              case y32 =>
               refine' ag ?y29 ?y30
               case y29=>exact (ay (ag az (ag ao af)))
               case y30 =>
                refine' ag ?y27 ?y28
                case y27=>exact (ay (ag az (ag cf af)))
                case y28 =>
                 refine' ag ?y25 ?y26
                 case y25=>exact (ay (ag az (ag ao af)))
                 case y26 =>
                  refine' ag ?y23 ?y24
                  case y23=>exact (ay (ag az (ag ao (ag ao af))))
                  case y24=>exact af
       case y120 =>
        refine' aj ?y117 ?y118
        case y117 =>
         refine' aX ?y57
         case y57 =>
          refine' cy ?y51 ?y52 ?y53 ?y54 ?y55 ?y56
          case y51=>exact PySem.F.plainAttrs_list
          case y52=>exact PySem.F.slot_list_extend
          case y53=>exact PySem.F.type_list_extend
          case y54=>exact bx
          case y55=>exact (pv 7)
          case y56 =>
           refine' ag ?y49 ?y50
           case y49 =>
            refine' bp ?y48
            case y48 =>
             refine' ag ?y46 ?y47
             case y46=>exact (ay (ag az (ag (pv 2) af)))
             case y47=>exact af
           case y50=>exact af
        case y118 =>
         refine' aj ?y115 ?y116
         case y115 =>
          refine' aX ?y77
          case y77 =>
           refine' cy ?y71 ?y72 ?y73 ?y74 ?y75 ?y76
           case y71=>exact PySem.F.plainAttrs_list
           case y72=>exact PySem.F.slot_list_extend
           case y73=>exact PySem.F.type_list_extend
           case y74=>exact bx
           case y75=>exact (pv 7)
           case y76 =>
            refine' ag ?y69 ?y70
            case y69 =>
             refine' bp ?y68
             case y68 =>
              refine' ag ?y66 ?y67
              case y66=>exact (ay (ag az (ag (pv 2) (ag (pv 2) (ag (pv 2) af)))))
              case y67 =>
               refine' ag ?y64 ?y65
               case y64=>exact (ay (ag az (ag (pv 2) (ag (pv 2) af))))
               case y65 =>
                refine' ag ?y62 ?y63
                case y62=>exact (ay (ag az (ag (pv 2) (ag (pv 2) af))))
                case y63 =>
                 refine' ag ?y60 ?y61
                 case y60=>exact (bp (ag az (ag ao af)))
                 case y61 =>
                  refine' ag ?y58 ?y59
                  case y58=>exact (ay (ag az (ag (pv 2) (ag ao af))))
                  case y59=>exact af
            case y70=>exact af
         case y116 =>
          refine' aj ?y113 ?y114
          case y113 =>
           refine' aX ?y89
           case y89 =>
            refine' cy ?y83 ?y84 ?y85 ?y86 ?y87 ?y88
            case y83=>exact PySem.F.plainAttrs_list
            case y84=>exact PySem.F.slot_list_extend
            case y85=>exact PySem.F.type_list_extend
            case y86=>exact bx
            case y87=>exact (pv 7)
            case y88 =>
             refine' ag ?y81 ?y82
             case y81 =>
              refine' bp ?y80
              case y80 =>
               refine' ag ?y78 ?y79
               case y78=>exact (ay (ag az (ag ao af)))
               case y79=>exact af
             case y82=>exact af
          case y114 =>
           refine' aj ?y111 ?y112
           case y111 =>
            refine' aX ?y109
            case y109 =>
             refine' cy ?y103 ?y104 ?y105 ?y106 ?y107 ?y108
             case y103=>exact PySem.F.plainAttrs_list
             case y104=>exact PySem.F.slot_list_extend
             case y105=>exact PySem.F.type_list_extend
             case y106=>exact bx
             case y107=>exact (pv 7)
             case y108 =>
              refine' ag ?y101 ?y102
              case y101 =>
               refine' bp ?y100
               case y100 =>
                refine' ag ?y98 ?y99
                case y98=>exact (ay (ag az (ag (pv 2) (ag gQ af))))
                case y99 =>
                 refine' ag ?y96 ?y97
                 case y96=>exact (pv 4)
                 case y97 =>
                  refine' ag ?y94 ?y95
                  case y94=>exact (ay (ag az (ag (pv 6) (ag (pv 6) af))))
                  case y95 =>
                   refine' ag ?y92 ?y93
                   case y92=>exact (ay (ag (pv 2) af))
                   case y93 =>
                    refine' ag ?y90 ?y91
                    case y90=>exact ao
                    case y91=>exact af
              case y102=>exact af
           case y112 =>
            refine' au ?y110
            case y110=>exact (aG (aF GK hr rfl T.Ib T.F0.kp (gB T) .nil aY (ag (pv 0) (ag (pv 1) (ag (pv 7) af)))))
 case yread =>
  refine gh (K:=K) (d:=gM) (e:=CG) (aA (aa (aA (aa ax (aa aq ah))) (aa (aA (aa ax (aa aq ah))) ah))) λvn va H1 s1 dn da=>?_
  refine bD (K:=K) (d:=gM) (ae dn) λvl H2 s2 dl=>?_
  have s2':=s1.trans s2
  refine dI ⟨8,rfl,by decide,by decide,mJ (n:=8) (λi σ G=>∃ (vl:V) (z:Option V),σ=[some (.ref a),some (.ref t),some vn,some va,some vl,z,none,none]/\Same H2 G/\Dat K G (yS i) vl) ?_ ?_ ?_⟩
  ·exact ⟨vl,none,rfl,Same.refl _,dl⟩
  ·rintro i σ G hi ⟨vl,z,rfl,sG,dG⟩
   refine fB ?_
   dsimp only
   refine rS (K:=K) (d:=yS (i+1)) ?_ λv H' s d=>⟨v,_,rfl,sG.trans s,d⟩
   exact aA (aa ax (aa (ae dG) (aa (ae ((s2.trans sG).dat da)) ah)))
  rintro σ G ⟨vl,z,rfl,sG,dl⟩
  have s3:=s2'.trans sG
  have dn3:=(s2.trans sG).dat dn
  have da3:=(s2.trans sG).dat da
  refine bD (K:=K) (d:=gM) (ae dn3) λvw H4 s4 dw=>?_
  refine dI ⟨4,rfl,by decide,by decide,mJ (n:=4) (λi σ G'=>∃ (vw:V) (z:Option V),σ=[some (.ref a),some (.ref t),some vn,some va,some vl,z,some vw,none]/\Same H4 G'/\Dat K G' (yb i) vw) ?_ ?_ ?_⟩
  ·exact ⟨vw,z,rfl,Same.refl _,dw⟩
  ·rintro i σ G' hi ⟨vw,z,rfl,sG',dG⟩
   refine fB ?_
   dsimp only
   have hz:(0:Int)+(i:Int)=i:=by omega
   refine rS (K:=K) (d:=yb (i+1)) ?_ λv H' s d=>⟨v,_,rfl,sG'.trans s,d⟩
   refine xE (b:=decide ((0:Int)+(i:Int) < 3)) (aB (K:=K) (bK (p:=λi j=>decide (i < j)) (ae (Dat.intI _)) aq)) (λc=>?_) (λc=>?_)
   ·have c':i < 3:=by have:=of_decide_eq_true c;omega
    refine RE.as (aA (aa ax (aa (ae dG) (aa (ae dG) (aa (ae dG) ah))))) ?_
    unfold yb
    rw [if_pos (by omega),if_pos (by omega)]
    rfl
   ·have c':i=3:=by have:=of_decide_eq_false c;omega
    subst c'
    exact aA (aa ax (aa (ae dG) (aa (ae ((s4.trans sG').dat dn3)) ah)))
  rintro σ G' ⟨vw,z2,rfl,sG',dw⟩
  have s5:=s3.trans (s4.trans sG')
  have dn:=(s4.trans sG').dat dn3
  have da:=(s4.trans sG').dat da3
  have dl:=(s4.trans sG').dat dl
  have dw:Dat K G' AF vw:=dw
  refine d6 (gT (K:=K) (aa oh (aa (aA ah) (aa ax (aa (aA (aa ax ah)) (aa (aA (aa ax (aa (Av aq) ah))) (aa (aA (aa ax (aa aq ah))) (aa (aA (aa ax (aa cR ah))) (aa (aA (aa ax (aa aq ah))) (aa (aA (aa ax (aa aq (aa aq ah)))) ah))))))))) λlb x0 H6 s6 hb e0=>?_)
  have s6':=s6.trans (aC hb (.lst x0))
  have hlb:H lb=none:=(s5.trans s6).free hb
  have dn:=s6'.dat dn
  have da:=s6'.dat da
  have dl:=s6'.dat dl
  have dw:=s6'.dat dw
  have e0:=(aC hb (.lst x0)).dats e0
  have l0:=e0.length
  have h0:upd H6 lb (.lst x0) lb=some (.lst x0):=av
  have bb0:But lb H (upd H6 lb (.lst x0)):=(s5.trans s6').but
  simp only [List.length_cons,List.length_nil,List.length_append] at l0
  refine bH (K:=K) (aa (aA (aa ax (aa (ae dn) ah))) ah) h0 (by first | omega | (simp only [List.length_append];omega)) λx1 G1 b1 h1 e1'=>?_
  have g1:cT K _ G1:=b1.grow h0 h1
  have dn:=Dat.mono g1 _ dn
  have da:=Dat.mono g1 _ da
  have dl:=Dat.mono g1 _ dl
  have dw:=Dat.mono g1 _ dw
  have e1:=Dats.append (Dats.mono g1 _ e0) e1'
  have l1:=e1.length
  have bb1:=bb0.trans b1
  simp only [List.length_cons,List.length_nil,List.length_append] at l1
  refine bH (K:=K) (aa (aA (aa ax (aa (ae dn) (aa (ae dn) (aa (ae dn) ah))))) (aa (aA (aa ax (aa (ae dn) (aa (ae dn) ah)))) (aa (aA (aa ax (aa (ae dn) (aa (ae dn) ah)))) (aa (rN (aa ax (aa aq ah))) (aa (aA (aa ax (aa (ae dn) (aa aq ah)))) ah))))) h1 (by first | omega | (simp only [List.length_append];omega)) λx2 G2 b2 h2 e2'=>?_
  have g2:cT K _ G2:=b2.grow h1 h2
  have dn:=Dat.mono g2 _ dn
  have da:=Dat.mono g2 _ da
  have dl:=Dat.mono g2 _ dl
  have dw:=Dat.mono g2 _ dw
  have e2:=Dats.append (Dats.mono g2 _ e1) e2'
  have l2:=e2.length
  have bb2:=bb1.trans b2
  simp only [List.length_cons,List.length_nil,List.length_append] at l2
  refine bH (K:=K) (aa (aA (aa ax (aa aq ah))) ah) h2 (by first | omega | (simp only [List.length_append];omega)) λx3 G3 b3 h3 e3'=>?_
  have g3:cT K _ G3:=b3.grow h2 h3
  have dn:=Dat.mono g3 _ dn
  have da:=Dat.mono g3 _ da
  have dl:=Dat.mono g3 _ dl
  have dw:=Dat.mono g3 _ dw
  have e3:=Dats.append (Dats.mono g3 _ e2) e3'
  have l3:=e3.length
  have bb3:=bb2.trans b3
  simp only [List.length_cons,List.length_nil,List.length_append] at l3
  refine bH (K:=K) (aa (aA (aa ax (aa (ae dn) (aa oh ah)))) (aa (ae dl) (aa (aA (aa ax (aa (ae dw) (aa (ae dw) ah)))) (aa (aA (aa (ae dn) ah)) (aa aq ah))))) h3 (by first | omega | (simp only [List.length_append];omega)) λx4 G4 b4 h4 e4'=>?_
  have g4:cT K _ G4:=b4.grow h3 h4
  have dn:=Dat.mono g4 _ dn
  have da:=Dat.mono g4 _ da
  have dl:=Dat.mono g4 _ dl
  have dw:=Dat.mono g4 _ dw
  have e4:=Dats.append (Dats.mono g4 _ e3) e4'
  have l4:=e4.length
  have bb4:=bb3.trans b4
  have sm:Same H G4:=λb o hbo=>bb4 b o (aI hbo hlb) hbo
  have nlb:lb≠t:=λz=>by rw [z,hT] at hlb;cases hlb
  refine ⟨_,rfl,_,rfl,_,rfl,a,t,lb,ns,_,p,q,rest,rfl,hS.same sm,SqL.of h4,nlb,?_,?_,sm _ _ hT,hp,λi x H' p' q' bt t' g' hx=>?_⟩
  ·rw [← e4.length];simp
  ·rw [← e4.length];simp
  ·obtain ⟨d,ed,hd⟩:=e4.getV hx
   exact post x H' d p' q' (sm.but.trans bt) t' g' (List.mem_of_getElem? (show AV[i]?=some d from ed)) (Dat.mono (bt.grow (sm _ _ hT) t') _ hd)
def Br (x:D):Bool:=(cz x).getD false
theorem sh (l:Addr) (v:Value) (n:Nat) (dd:Option Addr) (sl:Array (Option Value)) (x:Int) (u:Tok) (h2:2≤x) (h3:x≤1000) :
  Meets (Builtin.«tuple.__mul__» ⟨[.ref l,.int x u],[]⟩) (λ_ R s=>s.heap.get? l=some { cls:=.type "tuple",dict:=dd,data:=.seq #[v] n,slots:=sl }/\R (.ok (.ret (Value.ref s.heap.objs.size))) { s with heap:=s.heap.push { cls:=.type "tuple",data:=.seq ((List.replicate x.toNat #[v]).foldl (λa b=>a++b) #[]) } }) :=
 .of_wp λ_ _ _ _ s q=>by
  obtain ⟨h0,g0,d0,t0,o0⟩:=s
  obtain ⟨at_l,q⟩:=q
  have c1:¬ (decide (x < -2 ^ 63) || decide (x ≥ 2 ^ 63))=true:=by simp;omega
  have c2:¬ ((#[v]:Array Value).isEmpty || x == 1)=true:=by simp;omega
  have c3:¬ (decide (x≤0) || (#[v]:Array Value).isEmpty)=true:=by simp;omega
  have c4:¬ (((#[v]:Array Value).size:Int) * x > (2 ^ 63 - 1) / 8):=by simp;omega
  have c5:¬ Builtin.Tuple.tupleTooMany (((#[v]:Array Value).size:Int) * x)=true:=by unfold Builtin.Tuple.tupleTooMany;rw [sizeLine_eq];simp;omega
  have c6:((List.replicate x.toNat #[v]).foldl (λa b=>a++b) #[]).size≤sizeLine:=by
   have e:=eX [v] x.toNat []
   have e':(List.replicate x.toNat #[v]).foldl (λa b=>a++b) #[]=([]++(List.replicate x.toNat [v]).flatten).toArray:=e
   rw [e',List.size_toArray,List.nil_append,tw,sizeLine_eq]
   simp
   omega
  generalize hW:(List.replicate x.toNat #[v]).foldl (λa b=>a++b) #[]=W at c6 q
  wp_walk
  rw [if_neg c1]
  wp_walk
  rw [if_neg c2]
  rw [if_neg c3]
  rw [if_neg c4]
  rw [if_neg c5]
  rw [hW]
  exact wpAny_bind (wpAny_newObj_type (wpAny_pure ⟨_,rfl,q⟩) c6)
def Aq (K:PySem.W.Frag):R2:=λx y H Q=>∃ a v i,x=.ref a/\y=.int i/\2≤i/\i≤1000/\SqT K H a [v]/\∀ p,H p=none->Q (.ref p) (upd H p (.tup (List.replicate i.toNat v)))
theorem zJ (v:Value) (n:Nat):(List.replicate n #[v]).foldl (λa b=>a++b) #[]=(List.replicate n v).toArray:=by
 have e:=eX [v] n []
 have e':(List.replicate n #[v]).foldl (λa b=>a++b) #[]=([]++(List.replicate n [v]).flatten).toArray:=e
 rw [e',List.nil_append]
 congr 1
 induction n with
 | zero=>rfl
 | succ n ih=>rw [List.replicate_succ,List.flatten_cons,ih (eX [v] n []) (eX [v] n []),List.replicate_succ];rfl
theorem qj {z:V} {z':Value} (r:RelV z z'):∀ n:Nat,Vals (List.replicate n z) (List.replicate n z')
 | 0=>.nil
 | n+1=>.cons r (qj r n)
theorem o7 {y:V} (h:Dat K H d y):∀ n:Nat,Dats K H (List.replicate n d) (List.replicate n y)
 | 0=>Dats.nil
 | n+1=>Dats.cons h (o7 h n)
theorem ze:OpR X (binaryOp .Mult) (Aq X.K):=by
 intro pins s σ H x y v u Q I rx ry h
 obtain ⟨a,z,i,rfl,rfl,i2,i3,ha,q⟩:=h
 cases rx
 obtain ⟨t,rfl⟩:=ry
 obtain ⟨its,r,p,_⟩:=I.tuple ha
 obtain ⟨z',rfl,rz⟩:=fW r
 obtain ⟨⟨cls,dd,data,sl⟩,ho,hc,n,hd⟩:=id p
 simp only at hc hd
 subst hc hd
 refine wpAny_binaryOp_repeat_ref (T:="tuple") (U:="int") (by decide) ⟨_,ho,rfl⟩ (λs'=>typeIs_int s' i t) jC PySem.F.fills_int_mul PySem.F.slot_int_rmul oi PySem.F.slot_int_index.lookup
  (call_meets PySem.F.slot_int_rmul (typeIs_int s i t) PySem.F.entry_int_rmul (PySem.F.args_int_rmul_2 _ _) (kL i t a _ n dd sl)
   ⟨ho,rfl,⟨_,ho,rfl⟩,call_meets PySem.F.slot_tuple_mul ⟨_,ho,rfl⟩ PySem.F.entry_tuple_mul (PySem.F.args_tuple_mul_2 _ _) (sh a z' n dd sl i t i2 i3) ⟨ho,?_⟩⟩)
 rw [zJ]
 refine ⟨.ref s.heap.objs.size,_,I.laid (t':=s.toks) (o:=.tup (List.replicate i.toNat z)) (λb ob q=>Heap.get?_push_of_some _ q) (Nat.le_refl _) ?_,rfl,q _ (I.hok.fresh (Nat.le_refl _))⟩
 exact ⟨by rw [sizeLine_eq,List.length_replicate];omega,_,qj rz _,IsTup.new _ _⟩
theorem zI {i:Int} (h:RE K ta σ H (.tup [d])) (i2:2≤i:=by decide) (i3:i≤1000:=by decide):RE K (tOp (Aq K) ta (tC (.int i))) σ H (.tup (List.replicate i.toNat d)):=λH1 s Q q =>
 h H1 s _ λv H2 s2 q2=>by
  obtain ⟨a,vs,rfl,hq,hd⟩:=q2.tupE
  obtain ⟨y,rfl,hy⟩:=dQ hd
  refine ⟨a,y,i,rfl,rfl,i2,i3,hq,λp hp=>q _ _ (s2.trans (aC hp _)) (Dat.tupI (SqT.of av) (o7 ((aC hp _).dat hy) _))⟩
def oU:List D:=[.non,.tup [],.tup [.str "a",.tup [.str "add",.tup [.str "hole",.int 0],.tup [.str "hole",.int 1]]],.tup [.str "",.tup [.str "add",.tup [.str "hole",.int 0],.tup [.str "hole",.int 1]],.tup [.int 4]],.tup [.str "A",.tup [.str "add",.tup [.str "hole",.int 0],.tup [.str "hole",.int 1]],.tup [.int 4]],.tup [.str "pick",.tup [.str "add",.tup [.str "hole",.int 0],.tup [.str "hole",.int 1]],.tup [.int 4]],
 .tup [.str "abcdefghi",.tup [.str "add",.tup [.str "hole",.int 0],.tup [.str "hole",.int 1]],.tup [.int 4]],.lst,
 .tup [.str "a",.tup [.str "hole",.int 0],.tup [.int 4]],.tup [.str "a",.tup [.str "add",.tup [.str "hole",.int 0],.tup [.str "hole",.int 1]],.tup []],.tup [.str "a",.tup [.str "add",.tup [.str "hole",.int 0],.tup [.str "hole",.int 1]],.lst],.tup [.str "a",.tup [.str "add",.tup [.str "hole",.int 0],.tup [.str "hole",.int 1]],.tup [.int 8,.int 1]],.tup [.str "a",.tup [.str "add",.tup [.str "hole",.int 0],.tup [.str "hole",.int 1]],.tup [.int 0]],
 .tup [.str "a",.tup [.str "add",.tup [.str "hole",.int 0],.tup [.str "hole",.int 1]],.tup [.int 15,.int 1,.int 0]],
 .tup [.str "a",.tup [.str "add",.tup [.str "hole",.int 0],.tup [.str "hole",.int 1]],.tup [.int 1]],.tup [.str "a",.tup [.str "add",.tup [.str "hole",.int 0],.tup [.str "hole",.int 1]],.tup [.int 2,.int 5]],.tup [.str "a",.tup [.str "add",.tup [.str "hole",.int 0],.tup [.str "hole",.int 1]],.tup [.int 4,.int 4,.int 4,.int 4,.int 4,.int 4,.int 4,.int 4,.int 4,.int 4,.int 4,.int 4,.int 4]],.tup [.str "a",.tup [.str "add",.tup [.str "hole",.int 0],.tup [.str "hole",.int 1]],.tup [.int 100]],
 .tup [.str "a",.tup [.str "add",.tup [.str "hole",.int 0],.tup [.str "hole",.int 1]],.tup [.bl true]],.tup [.str "a",.tup [.str "add",.tup [.str "hole",.int 0],.tup [.str "hole",.int 1]],.tup [.int 17]],
 .tup [.str "a",.tup [.str "gap",.int 0,.int 99],.tup [.int 1,.tup [.str "low",.int 1]]],.tup [.str "a",.tup [.str "gap",.int 0,.int 99],.tup [.int 1,.tup [.str "arg",.int 0]]],.tup [.str "a",.tup [.str "gap",.int 0,.int 99],.tup [.tup [.str "low",.int 0],.int 1]],
 .tup [.str "a",.tup [.str "gap",.int 0,.int 99],.tup [.int 1,.tup [.str "mid",.int 0]]],.tup [.str "a",.tup [.str "slot",.int 0],.tup [.int 3]],
 .tup [.str "a",.tup [.str "add",.tup [.str "hole",.int 1],.tup [.str "hole",.int 0]],.tup [.int 4]],.tup [.str "a",.tup [.str "add",.tup [.str "hole",.int 0],.tup [.str "hole",.int 0]],.tup [.int 4]],
 .tup [.str "a",.tup [.str "add",.tup [.str "hole",.int 0],.tup [.str "hole",.int 2]],.tup [.int 4]],.tup [.str "a",.tup [.str "pick",.tup [.str "hole",.int 0],.tup [.str "hole",.int 0],.tup [.str "hole",.int 0]],.tup [.int 4]],
 .tup [.str "a",.tup [.str "gap",.int 0],.tup [.int 1,.int 1]],.tup [.str "a",.tup [.str "gap",.int 0,.int 10000],.tup [.int 1,.int 1]],.tup [.str "a",.tup [.str "gap",.int 1,.int 9],.tup [.int 1,.int 1]],
 .tup [.str "a",.tup [.str "arg",.int 0],.tup [.int 3,.int 0]],.tup [.str "a",.tup [.str "num",.int (-1)],.tup [.int 1,.int 1]],
 .tup [.str "a",.tup [.str "add",.tup [.str "add",.tup [.str "add",.tup [.str "hole",.int 0],.tup [.str "gap",.int 0,.int 99]],.tup [.str "num",.int 1]],.tup [.str "num",.int 1]],.tup [.int 4]],
 .tup [.str "a",.tup [.str "add",.tup [.str "add",.tup [.str "hole",.int 0],.tup [.str "hole",.int 1]],.tup [.str "hole",.int 2]],.tup [.int 4,.int 4]]]
def mZ (K:PySem.W.Frag):Sp:=λvs H Q _=>∃ (a t:Addr) (ns:List Int) (p q:Int) (rest:List V),vs=[.ref a,.ref t]/\Scr K H a ns/\H t=some (.lst (.int p::.int q::rest))/\0≤p /\
 ∀ (v:V) (H':Hp) (d:D) (p' q':Int),But t H H'->H' t=some (.lst (.int p'::.int q'::rest))->0≤p'->d ∈ oU->Dat K H' d v->Q v H'
theorem vE:∀ d ∈ oU,Br d=false:=by decide +kernel
theorem yX (h:(match x with | .tup (.str y::_)=>decide (y.length≤100) | _=>true)=true):iW x:=by
 unfold iW
 split
 ·rename_i nm r
  cases nm with
  | str y=>exact Nat.le_trans (of_decide_eq_true h) (by decide)
  | _=>trivial
 ·trivial
theorem vF:∀ d ∈ oU,iW d:=λd hd=>yX ((show ∀ d ∈ oU,(match d with | .tup (.str y::_)=>decide (y.length≤100) | _=>true)=true by decide +kernel) d hd)
theorem jE (T:Txt P w K mg) (GK:FnOk P w K mg base CX0 k T.Fh T.Fo ["_law_script","_law_town","_law_some"] (oz K)):FnOk P w K mg base CX0 (k+1) T.E4 T.E5 ["_law_script","_law_town"] (mZ K):=by
 refine T.FT.ok sc__law_no_piece (λvs H Q E h=>?_) (λcdv A outer s H vs Q E hr h=>?_)
 ·obtain ⟨a,t,ns,p,q,rest,rfl,_⟩:=h;rfl
 have nd:=sc__law_no_piece.nd
 obtain ⟨a,t,ns,p,q,rest,rfl,hS,hT,hp,post⟩:=h
 refine' ⟨_,?ybody,?yread⟩
 case ybody =>
  refine' aj ?y548 ?y549
  case y548 =>
   refine' dY ?y8 ?y9 ?y10 ?y11
   case y8 =>
    refine' ay ?y7
    case y7 =>
     refine' ag ?y5 ?y6
     case y5=>exact (ay (ag az (ag ao af)))
     case y6 =>
      refine' ag ?y3 ?y4
      case y3=>exact (ay (ag az (ag ao (ag ao af))))
      case y4 =>
       refine' ag ?y1 ?y2
       case y1=>exact (ay (ag az (ag ao af)))
       case y2=>exact af
   case y9=>exact (fj rfl (bf (aM (i:=2) nd rfl (Or.inl rfl)) (bf (aM (i:=3) nd rfl (Or.inl rfl)) (bf (aM (i:=4) nd rfl (Or.inl rfl)) dF))))
   case y10=>rfl
   case y11=>kernel_rfl
  case y549 =>
   refine' aj ?y546 ?y547
   case y546 =>
    refine' bq (i:=5) ?y19 ?y20 ?y21 ?y22
    case y19=>exact nd
    case y20=>exact rfl
    case y21=>exact Or.inl rfl
    case y22 =>
     refine' ay ?y18
     case y18 =>
      refine' ag ?y16 ?y17
      case y16=>exact az
      case y17 =>
       refine' ag ?y14 ?y15
       case y14=>exact (pv 2)
       case y15 =>
        refine' ag ?y12 ?y13
        case y12=>exact (ay (ag az (ag ao af)))
        case y13=>exact af
   case y547 =>
    refine' aj ?y544 ?y545
    case y544 =>
     refine' bq (i:=6) ?y57 ?y58 ?y59 ?y60
     case y57=>exact nd
     case y58=>exact rfl
     case y59=>exact Or.inl rfl
     case y60 =>
      refine' bp ?y56
      case y56 =>
       refine' ag ?y54 ?y55
       case y54=>exact gQ
       case y55 =>
        refine' ag ?y52 ?y53
        case y52=>exact (ay af)
        case y53 =>
         refine' ag ?y50 ?y51
         case y50=>exact (ay (ag az (ag (pv 5) af)))
         case y51 =>
          refine' ag ?y48 ?y49
          case y48 =>
           refine' ay ?y29
           case y29 =>
            refine' ag ?y27 ?y28
            case y27=>exact az
            case y28 =>
             refine' ag ?y25 ?y26
             case y25=>exact (pv 5)
             case y26 =>
              refine' ag ?y23 ?y24
              case y23=>exact (ay (ag ao af))
              case y24=>exact af
          case y49 =>
           refine' ag ?y46 ?y47
           case y46 =>
            refine' ay ?y36
            case y36 =>
             refine' ag ?y34 ?y35
             case y34=>exact az
             case y35 =>
              refine' ag ?y32 ?y33
              case y32=>exact (pv 5)
              case y33 =>
               refine' ag ?y30 ?y31
               case y30=>exact (ay (ag ao af))
               case y31=>exact af
           case y47 =>
            refine' ag ?y44 ?y45
            case y44 =>
             refine' ay ?y43
             case y43 =>
              refine' ag ?y41 ?y42
              case y41=>exact az
              case y42 =>
               refine' ag ?y39 ?y40
               case y39=>exact (pv 5)
               case y40 =>
                refine' ag ?y37 ?y38
                case y37=>exact (ay (ag ao af))
                case y38=>exact af
            case y45=>exact af
    case y545 =>
     refine' aj ?y542 ?y543
     case y542 =>
      refine' aX ?y88
      case y88 =>
       refine' cy ?y82 ?y83 ?y84 ?y85 ?y86 ?y87
       case y82=>exact PySem.F.plainAttrs_list
       case y83=>exact PySem.F.slot_list_extend
       case y84=>exact PySem.F.type_list_extend
       case y85=>exact bx
       case y86=>exact (pv 6)
       case y87 =>
        refine' ag ?y80 ?y81
        case y80 =>
         refine' bp ?y79
         case y79 =>
          refine' ag ?y77 ?y78
          case y77 =>
           refine' ay ?y67
           case y67 =>
            refine' ag ?y65 ?y66
            case y65=>exact az
            case y66 =>
             refine' ag ?y63 ?y64
             case y63=>exact (pv 5)
             case y64 =>
              refine' ag ?y61 ?y62
              case y61=>exact (ay (ag ao af))
              case y62=>exact af
          case y78 =>
           refine' ag ?y75 ?y76
           case y75 =>
            refine' bp ?y74
            case y74 =>
             refine' ag ?y72 ?y73
             case y72=>exact az
             case y73 =>
              refine' ag ?y70 ?y71
              case y70=>exact (pv 5)
              case y71 =>
               refine' ag ?y68 ?y69
               case y68=>exact (ay (ag ao af))
               case y69=>exact af
           case y76=>exact af
        case y81=>exact af
     case y543 =>
      refine' aj ?y540 ?y541
      case y540 =>
       refine' aX ?y143
       case y143 =>
        refine' cy ?y137 ?y138 ?y139 ?y140 ?y141 ?y142
        case y137=>exact PySem.F.plainAttrs_list
        case y138=>exact PySem.F.slot_list_extend
        case y139=>exact PySem.F.type_list_extend
        case y140=>exact bx
        case y141=>exact (pv 6)
        case y142 =>
         refine' ag ?y135 ?y136
         case y135 =>
          refine' bp ?y134
          case y134 =>
           refine' ag ?y132 ?y133
           case y132 =>
            refine' ay ?y95
            case y95 =>
             refine' ag ?y93 ?y94
             case y93=>exact az
             case y94 =>
              refine' ag ?y91 ?y92
              case y91=>exact (pv 2)
              case y92 =>
               refine' ag ?y89 ?y90
               case y89=>exact (ay (ag ao af))
               case y90=>exact af
           case y133 =>
            refine' ag ?y130 ?y131
            case y130 =>
             refine' ay ?y102
             case y102 =>
              refine' ag ?y100 ?y101
              case y100=>exact az
              case y101 =>
               refine' ag ?y98 ?y99
               case y98=>exact (pv 5)
               case y99 =>
                refine' ag ?y96 ?y97
                case y96=>exact (ay af)
                case y97=>exact af
            case y131 =>
             refine' ag ?y128 ?y129
             case y128 =>
              refine' ay ?y109
              case y109 =>
               refine' ag ?y107 ?y108
               case y107=>exact az
               case y108 =>
                refine' ag ?y105 ?y106
                case y105=>exact (pv 5)
                case y106 =>
                 refine' ag ?y103 ?y104
                 case y103=>exact (bp (ag ao af))
                 case y104=>exact af
             case y129 =>
              refine' ag ?y126 ?y127
              case y126 =>
               refine' ay ?y116
               case y116 =>
                refine' ag ?y114 ?y115
                case y114=>exact az
                case y115 =>
                 refine' ag ?y112 ?y113
                 case y112=>exact (pv 5)
                 case y113 =>
                  refine' ag ?y110 ?y111
                  case y110=>exact (ay (ag ao (ag ao af)))
                  case y111=>exact af
              case y127 =>
               refine' ag ?y124 ?y125
               case y124 =>
                refine' ay ?y123
                case y123 =>
                 refine' ag ?y121 ?y122
                 case y121=>exact az
                 case y122 =>
                  refine' ag ?y119 ?y120
                  case y119=>exact (pv 5)
                  case y120 =>
                   refine' ag ?y117 ?y118
                   case y117=>exact (ay (ag ao af))
                   case y118=>exact af
               case y125=>exact af
         case y136=>exact af
      case y541 =>
       refine' aj ?y538 ?y539
       case y538 =>
        refine' aX ?y162
        case y162 =>
         refine' cy ?y156 ?y157 ?y158 ?y159 ?y160 ?y161
         case y156=>exact PySem.F.plainAttrs_list
         case y157=>exact PySem.F.slot_list_extend
         case y158=>exact PySem.F.type_list_extend
         case y159=>exact bx
         case y160=>exact (pv 6)
         case y161 =>
          refine' ag ?y154 ?y155
          case y154 =>
           refine' bp ?y153
           case y153 =>
            refine' ag ?y151 ?y152
            case y151 =>
             refine' ay ?y150
             case y150 =>
              refine' ag ?y148 ?y149
              case y148=>exact az
              case y149 =>
               refine' ag ?y146 ?y147
               case y146=>exact (pv 5)
               case y147 =>
                refine' ag ?y144 ?y145
                case y144=>exact (ay (ag ao (ag ao (ag ao af))))
                case y145=>exact af
            case y152=>exact af
          case y155=>exact af
       case y539 =>
        refine' aj ?y536 ?y537
        case y536 =>
         refine' aX ?y208
         case y208 =>
          refine' cy ?y202 ?y203 ?y204 ?y205 ?y206 ?y207
          case y202=>exact PySem.F.plainAttrs_list
          case y203=>exact PySem.F.slot_list_extend
          case y204=>exact PySem.F.type_list_extend
          case y205=>exact bx
          case y206=>exact (pv 6)
          case y207 =>
           refine' ag ?y200 ?y201
           case y200 =>
            refine' bp ?y199
            case y199 =>
             refine' ag ?y197 ?y198
             case y197 =>
              refine' ay ?y169
              case y169 =>
               refine' ag ?y167 ?y168
               case y167=>exact az
               case y168 =>
                refine' ag ?y165 ?y166
                case y165=>exact (pv 5)
                case y166 =>
                 refine' ag ?y163 ?y164
                 case y163=>exact (ay (ag ao af))
                 case y164=>exact af
             case y198 =>
              refine' ag ?y195 ?y196
              case y195 =>
               refine' ay ?y176
               case y176 =>
                refine' ag ?y174 ?y175
                case y174=>exact az
                case y175 =>
                 refine' ag ?y172 ?y173
                 case y172=>exact (pv 5)
                 case y173 =>
                  refine' ag ?y170 ?y171
                  case y170=>exact (ay (ag ao (ag ao af)))
                  case y171=>exact af
              case y196 =>
               refine' ag ?y193 ?y194
               case y193 =>
                refine' ay ?y183
                case y183 =>
                 refine' ag ?y181 ?y182
                 case y181=>exact az
                 case y182 =>
                  refine' ag ?y179 ?y180
                  case y179=>exact (pv 5)
                  case y180 =>
                   refine' ag ?y177 ?y178
                   case y177=>exact (bu ze (ay (ag ao af)) ao)
                   case y178=>exact af
               case y194 =>
                refine' ag ?y191 ?y192
                case y191 =>
                 refine' ay ?y190
                 case y190 =>
                  refine' ag ?y188 ?y189
                  case y188=>exact az
                  case y189 =>
                   refine' ag ?y186 ?y187
                   case y186=>exact (pv 5)
                   case y187 =>
                    refine' ag ?y184 ?y185
                    case y184=>exact (ay (ag ao af))
                    case y185=>exact af
                case y192=>exact af
           case y201=>exact af
        case y537 =>
         refine' aj ?y534 ?y535
         case y534 =>
          refine' aX ?y236
          case y236 =>
           refine' cy ?y230 ?y231 ?y232 ?y233 ?y234 ?y235
           case y230=>exact PySem.F.plainAttrs_list
           case y231=>exact PySem.F.slot_list_extend
           case y232=>exact PySem.F.type_list_extend
           case y233=>exact bx
           case y234=>exact (pv 6)
           case y235 =>
            refine' ag ?y228 ?y229
            case y228 =>
             refine' bp ?y227
             case y227 =>
              refine' ag ?y225 ?y226
              case y225 =>
               refine' ay ?y215
               case y215 =>
                refine' ag ?y213 ?y214
                case y213=>exact az
                case y214 =>
                 refine' ag ?y211 ?y212
                 case y211=>exact (pv 5)
                 case y212 =>
                  refine' ag ?y209 ?y210
                  case y209=>exact (ay (ag cf af))
                  case y210=>exact af
              case y226 =>
               refine' ag ?y223 ?y224
               case y223 =>
                refine' ay ?y222
                case y222 =>
                 refine' ag ?y220 ?y221
                 case y220=>exact az
                 case y221 =>
                  refine' ag ?y218 ?y219
                  case y218=>exact (pv 5)
                  case y219 =>
                   refine' ag ?y216 ?y217
                   case y216=>exact (ay (ag ao af))
                   case y217=>exact af
               case y224=>exact af
            case y229=>exact af
         case y535 =>
          refine' aj ?y532 ?y533
          case y532 =>
           refine' aX ?y288
           case y288 =>
            refine' cy ?y282 ?y283 ?y284 ?y285 ?y286 ?y287
            case y282=>exact PySem.F.plainAttrs_list
            case y283=>exact PySem.F.slot_list_extend
            case y284=>exact PySem.F.type_list_extend
            case y285=>exact bx
            case y286=>exact (pv 6)
            case y287 =>
             refine' ag ?y280 ?y281
             case y280 =>
              refine' bp ?y279
              case y279 =>
               refine' ag ?y277 ?y278
               case y277 =>
                refine' ay ?y248
                case y248 =>
                 refine' ag ?y246 ?y247
                 case y246=>exact az
                 case y247 =>
                  refine' ag ?y244 ?y245
                  case y244=>exact (pv 3)
                  case y245 =>
                   refine' ag ?y242 ?y243
                   case y242 =>
                    refine' ay ?y241
                    case y241 =>
                     refine' ag ?y239 ?y240
                     case y239=>exact ao
                     case y240 =>
                      refine' ag ?y237 ?y238
                      case y237=>exact (ay (ag az (ag ao af)))
                      case y238=>exact af
                   case y243=>exact af
               case y278 =>
                refine' ag ?y275 ?y276
                case y275 =>
                 refine' ay ?y260
                 case y260 =>
                  refine' ag ?y258 ?y259
                  case y258=>exact az
                  case y259 =>
                   refine' ag ?y256 ?y257
                   case y256=>exact (pv 3)
                   case y257 =>
                    refine' ag ?y254 ?y255
                    case y254 =>
                     refine' ay ?y253
                     case y253 =>
                      refine' ag ?y251 ?y252
                      case y251=>exact ao
                      case y252 =>
                       refine' ag ?y249 ?y250
                       case y249=>exact (ay (ag az (ag ao af)))
                       case y250=>exact af
                    case y255=>exact af
                case y276 =>
                 refine' ag ?y273 ?y274
                 case y273 =>
                  refine' ay ?y272
                  case y272 =>
                   refine' ag ?y270 ?y271
                   case y270=>exact az
                   case y271 =>
                    refine' ag ?y268 ?y269
                    case y268=>exact (pv 3)
                    case y269 =>
                     refine' ag ?y266 ?y267
                     case y266 =>
                      refine' ay ?y265
                      case y265 =>
                       refine' ag ?y263 ?y264
                       case y263=>exact (ay (ag az (ag ao af)))
                       case y264 =>
                        refine' ag ?y261 ?y262
                        case y261=>exact ao
                        case y262=>exact af
                     case y267=>exact af
                 case y274=>exact af
             case y281=>exact af
          case y533 =>
           refine' aj ?y530 ?y531
           case y530 =>
            refine' aX ?y321
            case y321 =>
             refine' cy ?y315 ?y316 ?y317 ?y318 ?y319 ?y320
             case y315=>exact PySem.F.plainAttrs_list
             case y316=>exact PySem.F.slot_list_extend
             case y317=>exact PySem.F.type_list_extend
             case y318=>exact bx
             case y319=>exact (pv 6)
             case y320 =>
              refine' ag ?y313 ?y314
              case y313 =>
               refine' bp ?y312
               case y312 =>
                refine' ag ?y310 ?y311
                case y310 =>
                 refine' ay ?y300
                 case y300 =>
                  refine' ag ?y298 ?y299
                  case y298=>exact az
                  case y299 =>
                   refine' ag ?y296 ?y297
                   case y296=>exact (pv 3)
                   case y297 =>
                    refine' ag ?y294 ?y295
                    case y294 =>
                     refine' ay ?y293
                     case y293 =>
                      refine' ag ?y291 ?y292
                      case y291=>exact ao
                      case y292 =>
                       refine' ag ?y289 ?y290
                       case y289=>exact (ay (ag az (ag ao af)))
                       case y290=>exact af
                    case y295=>exact af
                case y311 =>
                 refine' ag ?y308 ?y309
                 case y308 =>
                  refine' ay ?y307
                  case y307 =>
                   refine' ag ?y305 ?y306
                   case y305=>exact az
                   case y306 =>
                    refine' ag ?y303 ?y304
                    case y303=>exact (pv 4)
                    case y304 =>
                     refine' ag ?y301 ?y302
                     case y301=>exact (ay (ag ao af))
                     case y302=>exact af
                 case y309=>exact af
              case y314=>exact af
           case y531 =>
            refine' aj ?y528 ?y529
            case y528 =>
             refine' aX ?y356
             case y356 =>
              refine' cy ?y350 ?y351 ?y352 ?y353 ?y354 ?y355
              case y350=>exact PySem.F.plainAttrs_list
              case y351=>exact PySem.F.slot_list_extend
              case y352=>exact PySem.F.type_list_extend
              case y353=>exact bx
              case y354=>exact (pv 6)
              case y355 =>
               refine' ag ?y348 ?y349
               case y348 =>
                refine' bp ?y347
                case y347 =>
                 refine' ag ?y345 ?y346
                 case y345 =>
                  refine' ay ?y335
                  case y335 =>
                   refine' ag ?y333 ?y334
                   case y333=>exact az
                   case y334 =>
                    refine' ag ?y331 ?y332
                    case y331 =>
                     refine' ay ?y328
                     case y328 =>
                      refine' ag ?y326 ?y327
                      case y326=>exact az
                      case y327 =>
                       refine' ag ?y324 ?y325
                       case y324=>exact (ay (ag az (ag ao af)))
                       case y325 =>
                        refine' ag ?y322 ?y323
                        case y322=>exact (pv 2)
                        case y323=>exact af
                    case y332 =>
                     refine' ag ?y329 ?y330
                     case y329=>exact (ay (ag ao af))
                     case y330=>exact af
                 case y346 =>
                  refine' ag ?y343 ?y344
                  case y343 =>
                   refine' ay ?y342
                   case y342 =>
                    refine' ag ?y340 ?y341
                    case y340=>exact az
                    case y341 =>
                     refine' ag ?y338 ?y339
                     case y338=>exact (ay (ag az (ag (pv 2) (ag (pv 2) af))))
                     case y339 =>
                      refine' ag ?y336 ?y337
                      case y336=>exact (ay (ag ao af))
                      case y337=>exact af
                  case y344=>exact af
               case y349=>exact af
            case y529 =>
             refine' aj ?y526 ?y527
             case y526 =>
              refine' aX ?y391
              case y391 =>
               refine' cy ?y385 ?y386 ?y387 ?y388 ?y389 ?y390
               case y385=>exact PySem.F.plainAttrs_list
               case y386=>exact PySem.F.slot_list_extend
               case y387=>exact PySem.F.type_list_extend
               case y388=>exact bx
               case y389=>exact (pv 6)
               case y390 =>
                refine' ag ?y383 ?y384
                case y383 =>
                 refine' bp ?y382
                 case y382 =>
                  refine' ag ?y380 ?y381
                  case y380 =>
                   refine' ay ?y370
                   case y370 =>
                    refine' ag ?y368 ?y369
                    case y368=>exact az
                    case y369 =>
                     refine' ag ?y366 ?y367
                     case y366 =>
                      refine' ay ?y363
                      case y363 =>
                       refine' ag ?y361 ?y362
                       case y361=>exact az
                       case y362 =>
                        refine' ag ?y359 ?y360
                        case y359=>exact (pv 2)
                        case y360 =>
                         refine' ag ?y357 ?y358
                         case y357=>exact (ay (ag az (ag ao af)))
                         case y358=>exact af
                     case y367 =>
                      refine' ag ?y364 ?y365
                      case y364=>exact (ay (ag ao af))
                      case y365=>exact af
                  case y381 =>
                   refine' ag ?y378 ?y379
                   case y378 =>
                    refine' ay ?y377
                    case y377 =>
                     refine' ag ?y375 ?y376
                     case y375=>exact az
                     case y376 =>
                      refine' ag ?y373 ?y374
                      case y373=>exact (ay (ag az (ag (pv 2) (ag (pv 2) (ag (pv 2) af)))))
                      case y374 =>
                       refine' ag ?y371 ?y372
                       case y371=>exact (ay (ag ao af))
                       case y372=>exact af
                   case y379=>exact af
                case y384=>exact af
             case y527 =>
              refine' aj ?y524 ?y525
              case y524 =>
               refine' aX ?y428
               case y428 =>
                refine' cy ?y422 ?y423 ?y424 ?y425 ?y426 ?y427
                case y422=>exact PySem.F.plainAttrs_list
                case y423=>exact PySem.F.slot_list_extend
                case y424=>exact PySem.F.type_list_extend
                case y425=>exact bx
                case y426=>exact (pv 6)
                case y427 =>
                 refine' ag ?y420 ?y421
                 case y420 =>
                  refine' bp ?y419
                  case y419 =>
                   refine' ag ?y417 ?y418
                   case y417 =>
                    refine' ay ?y398
                    case y398 =>
                     refine' ag ?y396 ?y397
                     case y396=>exact az
                     case y397 =>
                      refine' ag ?y394 ?y395
                      case y394=>exact (ay (ag az (ag ao af)))
                      case y395 =>
                       refine' ag ?y392 ?y393
                       case y392=>exact (ay (ag ao (ag ao af)))
                       case y393=>exact af
                   case y418 =>
                    refine' ag ?y415 ?y416
                    case y415 =>
                     refine' ay ?y405
                     case y405 =>
                      refine' ag ?y403 ?y404
                      case y403=>exact az
                      case y404 =>
                       refine' ag ?y401 ?y402
                       case y401=>exact (ay (ag az (ag ao (ag ao af))))
                       case y402 =>
                        refine' ag ?y399 ?y400
                        case y399=>exact (ay (ag ao (ag ao af)))
                        case y400=>exact af
                    case y416 =>
                     refine' ag ?y413 ?y414
                     case y413 =>
                      refine' ay ?y412
                      case y412 =>
                       refine' ag ?y410 ?y411
                       case y410=>exact az
                       case y411 =>
                        refine' ag ?y408 ?y409
                        case y408=>exact (ay (ag az (ag ao (ag ao af))))
                        case y409 =>
                         refine' ag ?y406 ?y407
                         case y406=>exact (ay (ag ao (ag ao af)))
                         case y407=>exact af
                     case y414=>exact af
                 case y421=>exact af
              case y525 =>
               refine' aj ?y522 ?y523
               case y522 =>
                refine' aX ?y456
                case y456 =>
                 refine' cy ?y450 ?y451 ?y452 ?y453 ?y454 ?y455
                 case y450=>exact PySem.F.plainAttrs_list
                 case y451=>exact PySem.F.slot_list_extend
                 case y452=>exact PySem.F.type_list_extend
                 case y453=>exact bx
                 case y454=>exact (pv 6)
                 case y455 =>
                  refine' ag ?y448 ?y449
                  case y448 =>
                   refine' bp ?y447
                   case y447 =>
                    refine' ag ?y445 ?y446
                    case y445 =>
                     refine' ay ?y435
                     case y435 =>
                      refine' ag ?y433 ?y434
                      case y433=>exact az
                      case y434 =>
                       refine' ag ?y431 ?y432
                       case y431=>exact (ay (ag az (ag ao af)))
                       case y432 =>
                        refine' ag ?y429 ?y430
                        case y429=>exact (ay (ag ao (ag ao af)))
                        case y430=>exact af
                    case y446 =>
                     refine' ag ?y443 ?y444
                     case y443 =>
                      refine' ay ?y442
                      case y442 =>
                       refine' ag ?y440 ?y441
                       case y440=>exact az
                       case y441 =>
                        refine' ag ?y438 ?y439
                        case y438=>exact (ay (ag az (ag (xb so ao) af)))
                        case y439 =>
                         refine' ag ?y436 ?y437
                         case y436=>exact (ay (ag ao (ag ao af)))
                         case y437=>exact af
                     case y444=>exact af
                  case y449=>exact af
               case y523 =>
                refine' aj ?y520 ?y521
                case y520 =>
                 refine' aX ?y486
                 case y486 =>
                  refine' cy ?y480 ?y481 ?y482 ?y483 ?y484 ?y485
                  case y480=>exact PySem.F.plainAttrs_list
                  case y481=>exact PySem.F.slot_list_append
                  case y482=>exact PySem.F.type_list_append
                  case y483=>exact dB
                  case y484=>exact (pv 6)
                  case y485 =>
                   refine' ag ?y478 ?y479
                   case y478 =>
                    refine' ay ?y477
                    case y477 =>
                     refine' ag ?y475 ?y476
                     case y475=>exact az
                     case y476 =>
                      refine' ag ?y473 ?y474
                      case y473 =>
                       refine' ay ?y470
                       case y470 =>
                        refine' ag ?y468 ?y469
                        case y468=>exact az
                        case y469 =>
                         refine' ag ?y466 ?y467
                         case y466 =>
                          refine' ay ?y463
                          case y463 =>
                           refine' ag ?y461 ?y462
                           case y461=>exact az
                           case y462 =>
                            refine' ag ?y459 ?y460
                            case y459=>exact (ay (ag az (ag (pv 2) (ag (pv 3) af))))
                            case y460 =>
                             refine' ag ?y457 ?y458
                             case y457=>exact (ay (ag az (ag ao af)))
                             case y458=>exact af
                         case y467 =>
                          refine' ag ?y464 ?y465
                          case y464=>exact (ay (ag az (ag ao af)))
                          case y465=>exact af
                      case y474 =>
                       refine' ag ?y471 ?y472
                       case y471=>exact (ay (ag ao af))
                       case y472=>exact af
                   case y479=>exact af
                case y521 =>
                 refine' aj ?y518 ?y519
                 case y518 =>
                  refine' aX ?y516
                  case y516 =>
                   refine' cy ?y510 ?y511 ?y512 ?y513 ?y514 ?y515
                   case y510=>exact PySem.F.plainAttrs_list
                   case y511=>exact PySem.F.slot_list_append
                   case y512=>exact PySem.F.type_list_append
                   case y513=>exact dB
                   case y514=>exact (pv 6)
                   case y515 =>
                    refine' ag ?y508 ?y509
                    case y508 =>
                     refine' ay ?y507
                     case y507 =>
                      refine' ag ?y505 ?y506
                      case y505=>exact az
                      case y506 =>
                       refine' ag ?y503 ?y504
                       case y503 =>
                        refine' ay ?y500
                        case y500 =>
                         refine' ag ?y498 ?y499
                         case y498=>exact az
                         case y499 =>
                          refine' ag ?y496 ?y497
                          case y496 =>
                           refine' ay ?y493
                           case y493 =>
                            refine' ag ?y491 ?y492
                            case y491=>exact az
                            case y492 =>
                             refine' ag ?y489 ?y490
                             case y489=>exact (pv 2)
                             case y490 =>
                              refine' ag ?y487 ?y488
                              case y487=>exact (ay (ag az (ag ao af)))
                              case y488=>exact af
                          case y497 =>
                           refine' ag ?y494 ?y495
                           case y494=>exact (ay (ag az (ag ao af)))
                           case y495=>exact af
                       case y504 =>
                        refine' ag ?y501 ?y502
                        case y501=>exact (ay (ag ao (ag ao af)))
                        case y502=>exact af
                    case y509=>exact af
                 case y519 =>
                  refine' au ?y517
                  case y517=>exact (aG (aF GK hr rfl T.Ib T.F0.kp (gB T) .nil aY (ag (pv 0) (ag (pv 1) (ag (pv 6) af)))))
 case yread =>
  refine ot (K:=K) (d:=.tup [.str "hole",.int 0]) (e:=.tup [.str "gap",.int 0,.int 99]) (f:=.tup [.str "slot",.int 0]) (aA (aa (aA (aa ax (aa aq ah))) (aa (aA (aa ax (aa aq (aa aq ah)))) (aa (aA (aa ax (aa aq ah))) ah)))) λvh vg vs_ H1 s1 dh dg dsl=>?_
  refine bD (K:=K) (d:=.tup [.str "add",.tup [.str "hole",.int 0],.tup [.str "hole",.int 1]]) (aA (aa ax (aa (ae dh) (aa (aA (aa ax (aa aq ah))) ah)))) λvt H2 s2 dt=>?_
  have dh:=s2.dat dh
  have dg:=s2.dat dg
  have dsl:=s2.dat dsl
  refine ji (K:=K) (iJ (aa oh (aa (aA ah) (aa (aA (aa ax (aa (ae dt) ah))) (aa (aA (aa ax (aa (ae dt) (aa (aA (aa aq ah)) ah)))) (aa (aA (aa ax (aa (ae dt) (aa (aA (aa aq ah)) ah)))) (aa (aA (aa ax (aa (ae dt) (aa (aA (aa aq ah)) ah)))) ah))))))) λlb x0 G0 hb s3 h0 e0=>?_
  have hlb:H lb=none:=(s1.trans s2).free hb
  have dh:=s3.dat dh
  have dg:=s3.dat dg
  have dsl:=s3.dat dsl
  have dt:=s3.dat dt
  have bb0:But lb H G0:=(s1.trans (s2.trans s3)).but
  have l0:=e0.length
  simp only [List.length_cons,List.length_nil,List.length_append] at l0
  refine bH (K:=K) (aa (aA (aa ax (aa (ae dt) (aa (aA (aa aq ah)) ah)))) (aa (rN (aa ax (aa (ae dt) (aa (aA (aa aq ah)) ah)))) ah)) h0 (by first | omega | (simp only [List.length_append,List.length_cons,List.length_nil];omega)) λx1 G1 b1 h1 e1'=>?_
  have g1:cT K _ G1:=b1.grow h0 h1
  have dh:=Dat.mono g1 _ dh
  have dg:=Dat.mono g1 _ dg
  have dsl:=Dat.mono g1 _ dsl
  have dt:=Dat.mono g1 _ dt
  have e1:=Dats.append (Dats.mono g1 _ e0) e1'
  have l1:=e1.length
  have bb1:=bb0.trans b1
  simp only [List.length_cons,List.length_nil,List.length_append] at l1
  refine bH (K:=K) (aa (aA (aa ax (aa (ae dh) (aa (aA (aa aq ah)) ah)))) (aa (aA (aa ax (aa (ae dt) (aa (aA ah) ah)))) (aa (aA (aa ax (aa (ae dt) (aa (rN (aa aq ah)) ah)))) (aa (aA (aa ax (aa (ae dt) (aa (aA (aa aq (aa aq ah))) ah)))) (aa (aA (aa ax (aa (ae dt) (aa (aA (aa aq ah)) ah)))) ah))))) h1 (by first | omega | (simp only [List.length_append,List.length_cons,List.length_nil];omega)) λx2 G2 b2 h2 e2'=>?_
  have g2:cT K _ G2:=b2.grow h1 h2
  have dh:=Dat.mono g2 _ dh
  have dg:=Dat.mono g2 _ dg
  have dsl:=Dat.mono g2 _ dsl
  have dt:=Dat.mono g2 _ dt
  have e2:=Dats.append (Dats.mono g2 _ e1) e2'
  have l2:=e2.length
  have bb2:=bb1.trans b2
  simp only [List.length_cons,List.length_nil,List.length_append] at l2
  refine bH (K:=K) (aa (aA (aa ax (aa (ae dt) (aa (aA (aa aq (aa aq (aa aq ah)))) ah)))) ah) h2 (by first | omega | (simp only [List.length_append,List.length_cons,List.length_nil];omega)) λx3 G3 b3 h3 e3'=>?_
  have g3:cT K _ G3:=b3.grow h2 h3
  have dh:=Dat.mono g3 _ dh
  have dg:=Dat.mono g3 _ dg
  have dsl:=Dat.mono g3 _ dsl
  have dt:=Dat.mono g3 _ dt
  have e3:=Dats.append (Dats.mono g3 _ e2) e3'
  have l3:=e3.length
  have bb3:=bb2.trans b3
  simp only [List.length_cons,List.length_nil,List.length_append] at l3
  refine bH (K:=K) (aa (aA (aa ax (aa (ae dt) (aa (aA (aa aq ah)) ah)))) (aa (aA (aa ax (aa (ae dt) (aa (aA (aa aq (aa aq ah))) ah)))) (aa (aA (aa ax (aa (ae dt) (aa (RE.as (d':=.tup [.int 4,.int 4,.int 4,.int 4,.int 4,.int 4,.int 4,.int 4,.int 4,.int 4,.int 4,.int 4,.int 4]) (zI (i:=13) (aA (aa aq ah))) rfl) ah)))) (aa (aA (aa ax (aa (ae dt) (aa (aA (aa aq ah)) ah)))) ah)))) h3 (by first | omega | (simp only [List.length_append,List.length_cons,List.length_nil];omega)) λx4 G4 b4 h4 e4'=>?_
  have g4:cT K _ G4:=b4.grow h3 h4
  have dh:=Dat.mono g4 _ dh
  have dg:=Dat.mono g4 _ dg
  have dsl:=Dat.mono g4 _ dsl
  have dt:=Dat.mono g4 _ dt
  have e4:=Dats.append (Dats.mono g4 _ e3) e4'
  have l4:=e4.length
  have bb4:=bb3.trans b4
  simp only [List.length_cons,List.length_nil,List.length_append] at l4
  refine bH (K:=K) (aa (aA (aa ax (aa (ae dt) (aa (aA (aa cR ah)) ah)))) (aa (aA (aa ax (aa (ae dt) (aa (aA (aa aq ah)) ah)))) ah)) h4 (by first | omega | (simp only [List.length_append,List.length_cons,List.length_nil];omega)) λx5 G5 b5 h5 e5'=>?_
  have g5:cT K _ G5:=b5.grow h4 h5
  have dh:=Dat.mono g5 _ dh
  have dg:=Dat.mono g5 _ dg
  have dsl:=Dat.mono g5 _ dsl
  have dt:=Dat.mono g5 _ dt
  have e5:=Dats.append (Dats.mono g5 _ e4) e5'
  have l5:=e5.length
  have bb5:=bb4.trans b5
  simp only [List.length_cons,List.length_nil,List.length_append] at l5
  refine bH (K:=K) (aa (aA (aa ax (aa (ae dg) (aa (aA (aa aq (aa (aA (aa ax (aa aq ah))) ah))) ah)))) (aa (aA (aa ax (aa (ae dg) (aa (aA (aa aq (aa (aA (aa ax (aa aq ah))) ah))) ah)))) (aa (aA (aa ax (aa (ae dg) (aa (aA (aa (aA (aa ax (aa aq ah))) (aa aq ah))) ah)))) ah))) h5 (by first | omega | (simp only [List.length_append,List.length_cons,List.length_nil];omega)) λx6 G6 b6 h6 e6'=>?_
  have g6:cT K _ G6:=b6.grow h5 h6
  have dh:=Dat.mono g6 _ dh
  have dg:=Dat.mono g6 _ dg
  have dsl:=Dat.mono g6 _ dsl
  have dt:=Dat.mono g6 _ dt
  have e6:=Dats.append (Dats.mono g6 _ e5) e6'
  have l6:=e6.length
  have bb6:=bb5.trans b6
  simp only [List.length_cons,List.length_nil,List.length_append] at l6
  refine bH (K:=K) (aa (aA (aa ax (aa (ae dg) (aa (aA (aa aq (aa (aA (aa ax (aa aq ah))) ah))) ah)))) (aa (aA (aa ax (aa (ae dsl) (aa (aA (aa aq ah)) ah)))) ah)) h6 (by first | omega | (simp only [List.length_append,List.length_cons,List.length_nil];omega)) λx7 G7 b7 h7 e7'=>?_
  have g7:cT K _ G7:=b7.grow h6 h7
  have dh:=Dat.mono g7 _ dh
  have dg:=Dat.mono g7 _ dg
  have dsl:=Dat.mono g7 _ dsl
  have dt:=Dat.mono g7 _ dt
  have e7:=Dats.append (Dats.mono g7 _ e6) e7'
  have l7:=e7.length
  have bb7:=bb6.trans b7
  simp only [List.length_cons,List.length_nil,List.length_append] at l7
  refine bH (K:=K) (aa (aA (aa ax (aa (aA (aa ax (aa (aA (aa ax (aa aq ah))) (aa (ae dh) ah)))) (aa (aA (aa aq ah)) ah)))) (aa (aA (aa ax (aa (aA (aa ax (aa (ae dh) (aa (ae dh) ah)))) (aa (aA (aa aq ah)) ah)))) ah)) h7 (by first | omega | (simp only [List.length_append,List.length_cons,List.length_nil];omega)) λx8 G8 b8 h8 e8'=>?_
  have g8:cT K _ G8:=b8.grow h7 h8
  have dh:=Dat.mono g8 _ dh
  have dg:=Dat.mono g8 _ dg
  have dsl:=Dat.mono g8 _ dsl
  have dt:=Dat.mono g8 _ dt
  have e8:=Dats.append (Dats.mono g8 _ e7) e8'
  have l8:=e8.length
  have bb8:=bb7.trans b8
  simp only [List.length_cons,List.length_nil,List.length_append] at l8
  refine bH (K:=K) (aa (aA (aa ax (aa (aA (aa ax (aa (ae dh) (aa (aA (aa ax (aa aq ah))) ah)))) (aa (aA (aa aq ah)) ah)))) (aa (aA (aa ax (aa (aA (aa ax (aa (ae dh) (aa (ae dh) (aa (ae dh) ah))))) (aa (aA (aa aq ah)) ah)))) ah)) h8 (by first | omega | (simp only [List.length_append,List.length_cons,List.length_nil];omega)) λx9 G9 b9 h9 e9'=>?_
  have g9:cT K _ G9:=b9.grow h8 h9
  have dh:=Dat.mono g9 _ dh
  have dg:=Dat.mono g9 _ dg
  have dsl:=Dat.mono g9 _ dsl
  have dt:=Dat.mono g9 _ dt
  have e9:=Dats.append (Dats.mono g9 _ e8) e9'
  have l9:=e9.length
  have bb9:=bb8.trans b9
  simp only [List.length_cons,List.length_nil,List.length_append] at l9
  refine bH (K:=K) (aa (aA (aa ax (aa (aA (aa ax (aa aq ah))) (aa (aA (aa aq (aa aq ah))) ah)))) (aa (aA (aa ax (aa (aA (aa ax (aa aq (aa aq ah)))) (aa (aA (aa aq (aa aq ah))) ah)))) (aa (aA (aa ax (aa (aA (aa ax (aa aq (aa aq ah)))) (aa (aA (aa aq (aa aq ah))) ah)))) ah))) h9 (by first | omega | (simp only [List.length_append,List.length_cons,List.length_nil];omega)) λx10 G10 b10 h10 e10'=>?_
  have g10:cT K _ G10:=b10.grow h9 h10
  have dh:=Dat.mono g10 _ dh
  have dg:=Dat.mono g10 _ dg
  have dsl:=Dat.mono g10 _ dsl
  have dt:=Dat.mono g10 _ dt
  have e10:=Dats.append (Dats.mono g10 _ e9) e10'
  have l10:=e10.length
  have bb10:=bb9.trans b10
  simp only [List.length_cons,List.length_nil,List.length_append] at l10
  refine bH (K:=K) (aa (aA (aa ax (aa (aA (aa ax (aa aq ah))) (aa (aA (aa aq (aa aq ah))) ah)))) (aa (aA (aa ax (aa (aA (aa ax (aa (Av aq) ah))) (aa (aA (aa aq (aa aq ah))) ah)))) ah)) h10 (by first | omega | (simp only [List.length_append,List.length_cons,List.length_nil];omega)) λx11 G11 b11 h11 e11'=>?_
  have g11:cT K _ G11:=b11.grow h10 h11
  have dh:=Dat.mono g11 _ dh
  have dg:=Dat.mono g11 _ dg
  have dsl:=Dat.mono g11 _ dsl
  have dt:=Dat.mono g11 _ dt
  have e11:=Dats.append (Dats.mono g11 _ e10) e11'
  have l11:=e11.length
  have bb11:=bb10.trans b11
  simp only [List.length_cons,List.length_nil,List.length_append] at l11
  refine tR (K:=K) (aA (aa ax (aa (aA (aa ax (aa (aA (aa ax (aa (aA (aa ax (aa (ae dh) (aa (ae dg) ah)))) (aa (aA (aa ax (aa aq ah))) ah)))) (aa (aA (aa ax (aa aq ah))) ah)))) (aa (aA (aa aq ah)) ah)))) h11 (by first | omega | (simp only [List.length_append,List.length_cons,List.length_nil];omega)) λy12 G12 b12 h12 e12'=>?_
  have g12:cT K _ G12:=b12.grow h11 h12
  have dh:=Dat.mono g12 _ dh
  have dg:=Dat.mono g12 _ dg
  have dsl:=Dat.mono g12 _ dsl
  have dt:=Dat.mono g12 _ dt
  have e12:=Dats.append (Dats.mono g12 _ e11) (Dats.cons e12' Dats.nil)
  have l12:=e12.length
  have bb12:=bb11.trans b12
  simp only [List.length_cons,List.length_nil,List.length_append] at l12
  refine tR (K:=K) (aA (aa ax (aa (aA (aa ax (aa (aA (aa ax (aa (ae dh) (aa (aA (aa ax (aa aq ah))) ah)))) (aa (aA (aa ax (aa aq ah))) ah)))) (aa (aA (aa aq (aa aq ah))) ah)))) h12 (by first | omega | (simp only [List.length_append,List.length_cons,List.length_nil];omega)) λy13 G13 b13 h13 e13'=>?_
  have g13:cT K _ G13:=b13.grow h12 h13
  have dh:=Dat.mono g13 _ dh
  have dg:=Dat.mono g13 _ dg
  have dsl:=Dat.mono g13 _ dsl
  have dt:=Dat.mono g13 _ dt
  have e13:=Dats.append (Dats.mono g13 _ e12) (Dats.cons e13' Dats.nil)
  have l13:=e13.length
  have bb13:=bb12.trans b13
  have sm:Same H G13:=λb o hbo=>bb13 b o (aI hbo hlb) hbo
  have nlb:lb≠t:=λz=>by rw [z,hT] at hlb;cases hlb
  refine ⟨_,rfl,_,rfl,_,rfl,a,t,lb,ns,_,p,q,rest,rfl,hS.same sm,SqL.of h13,nlb,?_,?_,sm _ _ hT,hp,λi x H' p' q' bt t' g' hx=>?_⟩
  ·rw [← e13.length];simp
  ·rw [← e13.length];simp
  ·obtain ⟨d,ed,hd⟩:=e13.getV hx
   exact post x H' d p' q' (sm.but.trans bt) t' g' (List.mem_of_getElem? (show oU[i]?=some d from ed)) (Dat.mono (bt.grow (sm _ _ hT) t') _ hd)
def BW (T:Txt P w K mg) (D:Addr) (j:Nat):Prop:=(D=T.C3/\j=0)\/(D=T.C4/\j=1)\/(D=T.CZ/\j=6)
abbrev kb (j:Nat):D:=.tup [.str "refused",.int j]
def tT (T:Txt P w K mg):Sp:=λvs H Q _=>∃ (x D:Addr) (j:Nat),vs=[.ref x]/\H x=some (js x D)/\BW T D j/\∀ v H',Same H H'->Dat K H' (kb j) v->Q v H'
theorem mf (T:Txt P w K mg)  : sy P w K mg base (k+1) T.Gf T.Gn ["_law_e"] (tT T):=by
 refine T.Hg.okH sc__law_which (λvs H Q E h=>?_) (λcdv A outer s H vs Q E hr h=>?_)
 ·obtain ⟨x,D,j,rfl,_⟩:=h;rfl
 have nd:=sc__law_which.nd
 obtain ⟨x,D,j,rfl,hx,hw,post⟩:=h
 refine ⟨_,(aj (bq (i:=1) nd rfl (Or.inl rfl) (bp (ag (aJ bE rfl T.C2 aO (aT (pv 0) (aT (aQ (v:=.ref T.C3) rfl T.HP rfl) af))) (ag (aJ bE rfl T.C2 aO (aT (pv 0) (aT (aQ (v:=.ref T.C4) rfl T.HQ rfl) af))) (ag (aJ bE rfl T.C2 aO (aT (pv 0) (aT (aQ (v:=.ref T.Gb) rfl T.IC rfl) af))) (ag (aJ bE rfl T.C2 aO (aT (pv 0) (aT (aQ (v:=.ref T.Gc) rfl T.ID rfl) af))) af))))))
 (aj (aX (cy PySem.F.plainAttrs_list PySem.F.slot_list_extend PySem.F.type_list_extend bx (pv 1) (ag (bp (ag (aJ bE rfl T.C2 aO (aT (pv 0) (aT (aQ (v:=.ref T.FA) rfl T.Hw rfl) af))) (ag (aJ bE rfl T.C2 aO (aT (pv 0) (aT (aQ (v:=.ref T.IK) rfl T.JM rfl) af))) (ag (aJ bE rfl T.C2 aO (aT (pv 0) (aT (aQ (v:=.ref T.CZ) rfl T.GE rfl) af))) (ag (aJ bE rfl T.C2 aO (aT (pv 0) (aT (aQ (v:=.ref T.Hd) rfl T.Jm rfl) af))) af))))) af)))
 (aj (aX (cy PySem.F.plainAttrs_list PySem.F.slot_list_extend PySem.F.type_list_extend bx (pv 1) (ag (bp (ag (aJ bE rfl T.C2 aO (aT (pv 0) (aT (aQ (v:=.ref T.Fy) rfl T.Hu rfl) af))) (ag (aJ bE rfl T.C2 aO (aT (pv 0) (aT (aQ (v:=.ref T.Fz) rfl T.Hv rfl) af))) (ag (aJ bE rfl T.C2 aO (aT (pv 0) (aT (aQ (v:=.ref T.Gd) rfl T.IE rfl) af))) (ag (aJ bE rfl T.C2 aO (aT (pv 0) (aT (aQ (v:=.ref T.Hf) rfl T.Jn rfl) af))) af))))) af)))
 (aj (aX (cy PySem.F.plainAttrs_list PySem.F.slot_list_extend PySem.F.type_list_extend bx (pv 1) (ag (bp (ag (aJ bE rfl T.C2 aO (aT (pv 0) (aT (aQ (v:=.ref T.C1) rfl T.Eb rfl) af))) (ag (aJ bE rfl T.C2 aO (aT (pv 0) (aT (aQ (v:=.ref T.Ga) rfl T.IB rfl) af))) af))) af)))
 (aj (aZ (PW.pt (dR (aH lB (cy PySem.F.plainAttrs_list PySem.F.slot_list_count PySem.F.type_list_count uA (pv 1) (ag cf af)) ao (aN _)) (du (bV (bh (aJ bE rfl T.C2 aO (aT (pv 0) (aT (eS (v:=.ty "ValueError") rfl T.JH lZ rfl) af))) (λ_=>rfl)))))) (au (aG (ay (ag az (ag (xb so ao) af))))) aK)
 (au (aG (ay (ag az (ag (cy PySem.F.plainAttrs_list PySem.F.slot_list_index PySem.F.type_list_index uB (pv 1) (ag cf af)) af)))))))))),?_⟩
 rcases hw with ⟨rfl,rfl⟩ | ⟨rfl,rfl⟩ | ⟨rfl,rfl⟩
 ·refine d6 (gT (K:=K) (aa (aL (c:=.ref T.C3) hx T.Dh T.El (.inl ⟨_,rfl⟩)) (aa (aL (c:=.ref T.C4) hx T.Dh T.Em (.inl ⟨_,rfl⟩)) (aa (aL (c:=.ref T.Gb) hx T.Dh T.Ei (.inl ⟨_,rfl⟩)) (aa (aL (c:=.ref T.Gc) hx T.Dh T.Ej (.inl ⟨_,rfl⟩)) ah)))) λlb x0 H1 s1 hb e0=>?_)
  have hx1:upd H1 lb (.lst x0) x=some (js x T.C3):=(s1.trans (aC hb _)) _ _ hx
  have nlb:lb≠x:=λz=>by rw [z] at hb;rw [s1 _ _ hx] at hb;cases hb
  have hlb:H lb=none:=s1.free hb
  have e0:=(aC hb (.lst x0)).dats e0
  have h0:upd H1 lb (.lst x0) lb=some (.lst x0):=av
  have l0:x0.length=4:=e0.length.symm
  have bb0:But lb H (upd H1 lb (.lst x0)):=(s1.trans (aC hb _)).but
  refine bH (K:=K) (aa (aL (c:=.ref T.FA) hx1 T.Dh T.DU (.inl ⟨_,rfl⟩)) (aa (aL (c:=.ref T.IK) hx1 T.Dh T.E8 (.inl ⟨_,rfl⟩)) (aa (aL (c:=.ref T.CZ) hx1 T.Dh T.DT (.inl ⟨_,rfl⟩)) (aa (aL (c:=.ref T.Hd) hx1 T.Dh T.EO (.inl ⟨_,rfl⟩)) ah)))) h0 (by omega) λx1 G1 b1 h1 f1=>?_
  have hx2:=b1 _ _ (Ne.symm nlb) hx1
  have e1:=Dats.append (Dats.mono (b1.grow h0 h1) _ e0) f1
  have l1:(x0++x1).length=8:=e1.length.symm
  have bb1:=bb0.trans b1
  refine bH (K:=K) (aa (aL (c:=.ref T.Fy) hx2 T.Dh T.DR (.inl ⟨_,rfl⟩)) (aa (aL (c:=.ref T.Fz) hx2 T.Dh T.DS (.inl ⟨_,rfl⟩)) (aa (aL (c:=.ref T.Gd) hx2 T.Dh T.Ek (.inl ⟨_,rfl⟩)) (aa (aL (c:=.ref T.Hf) hx2 T.Dh T.ER (.inl ⟨_,rfl⟩)) ah)))) h1 (by omega) λx2 G2 b2 h2 f2=>?_
  have hx3:=b2 _ _ (Ne.symm nlb) hx2
  have e2:=Dats.append (Dats.mono (b2.grow h1 h2) _ e1) f2
  have l2:(x0++x1++x2).length=12:=e2.length.symm
  have bb2:=bb1.trans b2
  refine bH (K:=K) (aa (aL (c:=.ref T.C1) hx3 T.Dh T.EN (.inl ⟨_,rfl⟩)) (aa (aL (c:=.ref T.Ga) hx3 T.Dh T.Eh (.inl ⟨_,rfl⟩)) ah)) h2 (by omega) λx3 G3 b3 h3 f3=>?_
  have hx4:=b3 _ _ (Ne.symm nlb) hx3
  have e3:=Dats.append (Dats.mono (b3.grow h2 h3) _ e2) f3
  have l3:(x0++x1++x2++x3).length=14:=e3.length.symm
  have bb3:=bb2.trans b3
  have sm:Same H G3:=λb o hbo=>bb3 b o (aI hbo hlb) hbo
  have ev:=o5 (bs:=[true,false,false,false,false,false,false,false,false,false,false,false,false,false]) e3
  have h3':G3 lb=some (.lst (blV [true,false,false,false,false,false,false,false,false,false,false,false,false,false])):=by rw [← show _=blV [true,false,false,false,false,false,false,false,false,false,false,false,false,false] from ev];exact h3
  refine aE (K:=K) (b:=false) ?_ (λc=>nomatch c) (λ_ H5 s5=>?_)
  ·exact RT.as (bY (aB (gS (jK h3') aq)) λ_=>bw (aW (aL (c:=.ty "ValueError") hx4 T.Dh T.Dp (.inr ⟨_,rfl⟩)))) rfl
  ·refine aU (K:=K) (d:=kb 0) (aA (aa ax (aa (jL (j:=0) (s5 _ _ h3') (by decide) rfl (λm hm=>?_)) ah))) λv H' s q=>post v H' (sm.trans (s5.trans s)) q
   exact absurd hm (Nat.not_lt_zero m)
 ·refine d6 (gT (K:=K) (aa (aL (c:=.ref T.C3) hx T.Di T.Et (.inl ⟨_,rfl⟩)) (aa (aL (c:=.ref T.C4) hx T.Di T.Eu (.inl ⟨_,rfl⟩)) (aa (aL (c:=.ref T.Gb) hx T.Di T.Ep (.inl ⟨_,rfl⟩)) (aa (aL (c:=.ref T.Gc) hx T.Di T.Er (.inl ⟨_,rfl⟩)) ah)))) λlb x0 H1 s1 hb e0=>?_)
  have hx1:upd H1 lb (.lst x0) x=some (js x T.C4):=(s1.trans (aC hb _)) _ _ hx
  have nlb:lb≠x:=λz=>by rw [z] at hb;rw [s1 _ _ hx] at hb;cases hb
  have hlb:H lb=none:=s1.free hb
  have e0:=(aC hb (.lst x0)).dats e0
  have h0:upd H1 lb (.lst x0) lb=some (.lst x0):=av
  have l0:x0.length=4:=e0.length.symm
  have bb0:But lb H (upd H1 lb (.lst x0)):=(s1.trans (aC hb _)).but
  refine bH (K:=K) (aa (aL (c:=.ref T.FA) hx1 T.Di T.DY (.inl ⟨_,rfl⟩)) (aa (aL (c:=.ref T.IK) hx1 T.Di T.E9 (.inl ⟨_,rfl⟩)) (aa (aL (c:=.ref T.CZ) hx1 T.Di T.DX (.inl ⟨_,rfl⟩)) (aa (aL (c:=.ref T.Hd) hx1 T.Di T.ET (.inl ⟨_,rfl⟩)) ah)))) h0 (by omega) λx1 G1 b1 h1 f1=>?_
  have hx2:=b1 _ _ (Ne.symm nlb) hx1
  have e1:=Dats.append (Dats.mono (b1.grow h0 h1) _ e0) f1
  have l1:(x0++x1).length=8:=e1.length.symm
  have bb1:=bb0.trans b1
  refine bH (K:=K) (aa (aL (c:=.ref T.Fy) hx2 T.Di T.DV (.inl ⟨_,rfl⟩)) (aa (aL (c:=.ref T.Fz) hx2 T.Di T.DW (.inl ⟨_,rfl⟩)) (aa (aL (c:=.ref T.Gd) hx2 T.Di T.Es (.inl ⟨_,rfl⟩)) (aa (aL (c:=.ref T.Hf) hx2 T.Di T.EU (.inl ⟨_,rfl⟩)) ah)))) h1 (by omega) λx2 G2 b2 h2 f2=>?_
  have hx3:=b2 _ _ (Ne.symm nlb) hx2
  have e2:=Dats.append (Dats.mono (b2.grow h1 h2) _ e1) f2
  have l2:(x0++x1++x2).length=12:=e2.length.symm
  have bb2:=bb1.trans b2
  refine bH (K:=K) (aa (aL (c:=.ref T.C1) hx3 T.Di T.ES (.inl ⟨_,rfl⟩)) (aa (aL (c:=.ref T.Ga) hx3 T.Di T.Eo (.inl ⟨_,rfl⟩)) ah)) h2 (by omega) λx3 G3 b3 h3 f3=>?_
  have hx4:=b3 _ _ (Ne.symm nlb) hx3
  have e3:=Dats.append (Dats.mono (b3.grow h2 h3) _ e2) f3
  have l3:(x0++x1++x2++x3).length=14:=e3.length.symm
  have bb3:=bb2.trans b3
  have sm:Same H G3:=λb o hbo=>bb3 b o (aI hbo hlb) hbo
  have ev:=o5 (bs:=[false,true,false,false,false,false,false,false,false,false,false,false,false,false]) e3
  have h3':G3 lb=some (.lst (blV [false,true,false,false,false,false,false,false,false,false,false,false,false,false])):=by rw [← show _=blV [false,true,false,false,false,false,false,false,false,false,false,false,false,false] from ev];exact h3
  refine aE (K:=K) (b:=false) ?_ (λc=>nomatch c) (λ_ H5 s5=>?_)
  ·exact RT.as (bY (aB (gS (jK h3') aq)) λ_=>bw (aW (aL (c:=.ty "ValueError") hx4 T.Di T.Dq (.inr ⟨_,rfl⟩)))) rfl
  ·refine aU (K:=K) (d:=kb 1) (aA (aa ax (aa (jL (j:=1) (s5 _ _ h3') (by decide) rfl (λm hm=>?_)) ah))) λv H' s q=>post v H' (sm.trans (s5.trans s)) q
   match m,hm with
   | 0,_=>rfl
 ·refine d6 (gT (K:=K) (aa (aL (c:=.ref T.C3) hx T.C7 T.DP (.inl ⟨_,rfl⟩)) (aa (aL (c:=.ref T.C4) hx T.C7 T.DQ (.inl ⟨_,rfl⟩)) (aa (aL (c:=.ref T.Gb) hx T.C7 T.DM (.inl ⟨_,rfl⟩)) (aa (aL (c:=.ref T.Gc) hx T.C7 T.DN (.inl ⟨_,rfl⟩)) ah)))) λlb x0 H1 s1 hb e0=>?_)
  have hx1:upd H1 lb (.lst x0) x=some (js x T.CZ):=(s1.trans (aC hb _)) _ _ hx
  have nlb:lb≠x:=λz=>by rw [z] at hb;rw [s1 _ _ hx] at hb;cases hb
  have hlb:H lb=none:=s1.free hb
  have e0:=(aC hb (.lst x0)).dats e0
  have h0:upd H1 lb (.lst x0) lb=some (.lst x0):=av
  have l0:x0.length=4:=e0.length.symm
  have bb0:But lb H (upd H1 lb (.lst x0)):=(s1.trans (aC hb _)).but
  refine bH (K:=K) (aa (aL (c:=.ref T.FA) hx1 T.C7 T.DE (.inl ⟨_,rfl⟩)) (aa (aL (c:=.ref T.IK) hx1 T.C7 T.EM (.inl ⟨_,rfl⟩)) (aa (aL (c:=.ref T.CZ) hx1 T.C7 T.DD (.inl ⟨_,rfl⟩)) (aa (aL (c:=.ref T.Hd) hx1 T.C7 T.Ef (.inl ⟨_,rfl⟩)) ah)))) h0 (by omega) λx1 G1 b1 h1 f1=>?_
  have hx2:=b1 _ _ (Ne.symm nlb) hx1
  have e1:=Dats.append (Dats.mono (b1.grow h0 h1) _ e0) f1
  have l1:(x0++x1).length=8:=e1.length.symm
  have bb1:=bb0.trans b1
  refine bH (K:=K) (aa (aL (c:=.ref T.Fy) hx2 T.C7 T.DB (.inl ⟨_,rfl⟩)) (aa (aL (c:=.ref T.Fz) hx2 T.C7 T.DC (.inl ⟨_,rfl⟩)) (aa (aL (c:=.ref T.Gd) hx2 T.C7 T.DO (.inl ⟨_,rfl⟩)) (aa (aL (c:=.ref T.Hf) hx2 T.C7 T.Eg (.inl ⟨_,rfl⟩)) ah)))) h1 (by omega) λx2 G2 b2 h2 f2=>?_
  have hx3:=b2 _ _ (Ne.symm nlb) hx2
  have e2:=Dats.append (Dats.mono (b2.grow h1 h2) _ e1) f2
  have l2:(x0++x1++x2).length=12:=e2.length.symm
  have bb2:=bb1.trans b2
  refine bH (K:=K) (aa (aL (c:=.ref T.C1) hx3 T.C7 T.Ee (.inl ⟨_,rfl⟩)) (aa (aL (c:=.ref T.Ga) hx3 T.C7 T.DL (.inl ⟨_,rfl⟩)) ah)) h2 (by omega) λx3 G3 b3 h3 f3=>?_
  have hx4:=b3 _ _ (Ne.symm nlb) hx3
  have e3:=Dats.append (Dats.mono (b3.grow h2 h3) _ e2) f3
  have l3:(x0++x1++x2++x3).length=14:=e3.length.symm
  have bb3:=bb2.trans b3
  have sm:Same H G3:=λb o hbo=>bb3 b o (aI hbo hlb) hbo
  have ev:=o5 (bs:=[false,false,false,false,false,false,true,false,false,false,false,false,false,false]) e3
  have h3':G3 lb=some (.lst (blV [false,false,false,false,false,false,true,false,false,false,false,false,false,false])):=by rw [← show _=blV [false,false,false,false,false,false,true,false,false,false,false,false,false,false] from ev];exact h3
  refine aE (K:=K) (b:=false) ?_ (λc=>nomatch c) (λ_ H5 s5=>?_)
  ·exact RT.as (bY (aB (gS (jK h3') aq)) λ_=>bw (aW (aL (c:=.ty "ValueError") hx4 T.C7 T.Dg (.inr ⟨_,rfl⟩)))) rfl
  ·refine aU (K:=K) (d:=kb 6) (aA (aa ax (aa (jL (j:=6) (s5 _ _ h3') (by decide) rfl (λm hm=>?_)) ah))) λv H' s q=>post v H' (sm.trans (s5.trans s)) q
   match m,hm with
   | 0,_=>rfl
   | 1,_=>rfl
   | 2,_=>rfl
   | 3,_=>rfl
   | 4,_=>rfl
   | 5,_=>rfl
def oN (ds:List D) (d:D):Prop:=∃ x y,iW x /\
 ((ds=[.int 0,x,y]/\(((cz x).getD false=false/\d=kb 6)\/(cz x=some true/\cN y=false/\d=kb 1)\/oO [x,y] d)) \/
 (ds=[.int 1,x,y]/\(((cz x).getD false=false/\d=kb 6)\/(cz x=some true/\bO y 2 5=false/\d=kb 0)\/mw [x,y] d)))
def CU (T:Txt P w K mg):(L2.St->XK)->TS:=λE=>zT (λσ=>tIf (qg (tOp rEq (cx 0) (tC (.int 0)))) (fV (spE K oO (oM T.CZ T.C4)) [] (E σ) (bj (cx 1) (bj (cx 2) ck))) (oB (spE K mw (oK T.CZ T.C3)) fM (E σ) (bj (cx 1) ck) (bj (cx 2) ck)) σ)
theorem pH (T:Txt P w K mg) (K4:FnOk P w K mg base (CX2 P w) k T.JY T.J3 ["piece","tree"] (spE K oO (oM T.CZ T.C4))) (KL:FnOk P w K mg base (CX2 P w) k T.Ij T.Iu ["piece","size"] (spE K mw (oK T.CZ T.C3))) (Kk:sy P w K mg base k T.Gf T.Gn ["_law_e"] (tT T)):FnOk P w K mg base CX0 (k+1) T.Hz T.HF ["_law_what","_law_piece","_law_other"] (spD K oN):=by
 refine T.EZ.ok sc__law_ask (λvs H Q E h=>?_) (λcdv A outer s H vs Q E hr h=>?_)
 ·obtain ⟨ds,d,hd,⟨x,y,_,h⟩,_⟩:=h;rcases h with ⟨rfl,_⟩ | ⟨rfl,_⟩ <;> exact hd.length.symm
 have nd:=sc__law_ask.nd
 obtain ⟨ds,d,hd,⟨x,y,hok,hds⟩,post⟩:=h
 refine ⟨_,(au (uI (t:=CU T) (i:=3) (λpn xe E hx=>(au (aG (fh (aH b0 (pv 0) ao (aN _)) (pR K4 hr rfl T.KR T.Kp.kp (AU T) .nil hx (ag (pv 1) (ag (pv 2) af))) (uF KL hr rfl T.Kf T.Jh.kp (tZ T) hx (ag (pv 1) af) (zl (pv 2) Bs)))))) rfl T.FE nd rfl rfl (λe=>(au (aG (w5 (E:=E0) Kk hr.h.mark rfl T.JE T.Hg.kp (ni T) .nil (ag (pv 3) af))))))),?_⟩
 rcases hds with ⟨rfl,hds⟩ | ⟨rfl,hds⟩
 ·obtain ⟨v0,v1,v2,rfl,q0,q1,q2⟩:=jU hd
  have e0:=q0.intE
  subst e0
  refine RT.use (b:=true) (RT.as (aB (iK (ae (K:=K) (k:=0) q0) aq)) rfl) λH1 s1=>?_
  have rA:RA K (bj (cx 1) (bj (cx 2) ck)) [some (.int 0),some v1,some v2,none] H1 [x,y]:=aa (ae (s1.dat q1)) (aa (ae (s1.dat q2)) ah)
  rcases hds with ⟨hx,rfl⟩ | ⟨hx,hy,rfl⟩ | hr2
  ·refine fP (B:=oM T.CZ T.C4) rA ⟨x,y,rfl,hok,.inl ⟨hx,rfl⟩⟩ λH2 s2=>?_
   exact ⟨T.Dc,T.CZ,rfl,λa ha=>⟨_,rfl,a,T.CZ,6,rfl,av,.inr (.inr ⟨rfl,rfl⟩),λv H' s q=>post v H' ((s1.trans s2).trans ((aC ha _).trans s)) q⟩⟩
  ·refine fP (B:=oM T.CZ T.C4) rA ⟨x,y,rfl,hok,.inr ⟨hx,hy,rfl⟩⟩ λH2 s2=>?_
   exact ⟨T.Dn,T.C4,rfl,λa ha=>⟨_,rfl,a,T.C4,1,rfl,av,.inr (.inl ⟨rfl,rfl⟩),λv H' s q=>post v H' ((s1.trans s2).trans ((aC ha _).trans s)) q⟩⟩
  ·exact RE.use (fk (R:=oO) rA hr2) λv H2 s2 q=>post v H2 (s1.trans s2) q
 ·obtain ⟨v0,v1,v2,rfl,q0,q1,q2⟩:=jU hd
  have e0:=q0.intE
  subst e0
  refine RT.use (b:=false) (RT.as (aB (iK (ae (K:=K) (k:=0) q0) aq)) rfl) λH1 s1=>?_
  have hg:∀ (H:Hp) (vs zs:List V),Dats K H [x] vs->Dats K H [y] zs->Dats K H [x,y] (fM vs zs):=λH vs zs h1 h2=>by
   obtain ⟨x0,e,k0⟩:=dQ h1
   obtain ⟨y0,e',k1⟩:=dQ h2
   subst e e'
   exact Dats.cons k0 (Dats.cons k1 Dats.nil)
  have rA:RA K (bj (cx 1) ck) [some (.int 1),some v1,some v2,none] H1 [x]:=aa (ae (s1.dat q1)) ah
  have rK:RA K (bj (cx 2) ck) [some (.int 1),some v1,some v2,none] H1 [y]:=aa (ae (s1.dat q2)) ah
  rcases hds with ⟨hx,rfl⟩ | ⟨hx,hy,rfl⟩ | hr2
  ·refine mX (B:=oK T.CZ T.C3) rA rK hg ⟨x,y,rfl,hok,.inl ⟨hx,rfl⟩⟩ λH2 s2=>?_
   exact ⟨T.Dc,T.CZ,rfl,λa ha=>⟨_,rfl,a,T.CZ,6,rfl,av,.inr (.inr ⟨rfl,rfl⟩),λv H' s q=>post v H' ((s1.trans s2).trans ((aC ha _).trans s)) q⟩⟩
  ·refine mX (B:=oK T.CZ T.C3) rA rK hg ⟨x,y,rfl,hok,.inr ⟨hx,hy,rfl⟩⟩ λH2 s2=>?_
   exact ⟨T.Dm,T.C3,rfl,λa ha=>⟨_,rfl,a,T.C3,0,rfl,av,.inl ⟨rfl,rfl⟩,λv H' s q=>post v H' ((s1.trans s2).trans ((aC ha _).trans s)) q⟩⟩
  ·exact RE.use (uL (R:=mw) rA rK hg hr2) λv H2 s2 q=>post v H2 (s1.trans s2) q
def okB (cs:List Int):Bool:=decide (1≤cs.length) && decide (cs.length≤900) && cs.all λc=>decide (0≤c) && decide (c≤99)
theorem Bf (h:okB cs=true):okC cs:=by
 unfold okB at h
 rw [Bool.and_eq_true,Bool.and_eq_true] at h
 refine ⟨of_decide_eq_true h.1.1,of_decide_eq_true h.1.2,λi c hc=>?_⟩
 have:=List.all_eq_true.mp h.2 c (List.mem_of_getElem? hc)
 rw [Bool.and_eq_true] at this
 exact ⟨of_decide_eq_true this.1,of_decide_eq_true this.2⟩
def uE:Tr->Bool
 | .num n=>decide (0≤n) && decide (n≤9999)
 | .arg k=>decide (0≤k) && decide (k≤3)
 | .two o a b=>(decide (o="add") || decide (o="sub") || decide (o="mul") || decide (o="less")) && (uE a && uE b)
 | .pick _ _ _=>false
theorem nM:∀ {t:Tr},uE t=true->okT t
 | .num n,h=>by
  have h:(decide (0≤n) && decide (n≤9999))=true:=h
  rw [Bool.and_eq_true] at h
  exact ⟨of_decide_eq_true h.1,of_decide_eq_true h.2⟩
 | .arg k,h=>by
  have h:(decide (0≤k) && decide (k≤3))=true:=h
  rw [Bool.and_eq_true] at h
  exact ⟨of_decide_eq_true h.1,of_decide_eq_true h.2⟩
 | .two o a b,h=>by
  have h:((decide (o="add") || decide (o="sub") || decide (o="mul") || decide (o="less")) && (uE a && uE b))=true:=h
  rw [Bool.and_eq_true,Bool.and_eq_true] at h
  exact ⟨xV h.1,nM h.2.1,nM h.2.2⟩
 | .pick _ _ _,h=>by cases h
def inB (b x:Int):Bool:=decide (0≤x) && decide (x < b)
theorem wB {l:List Int} (h:l.all (inB b)=true):∀ x ∈ l,0≤x/\x < b:=λx hx=>by
 have:=List.all_eq_true.mp h x hx
 unfold inB at this
 rw [Bool.and_eq_true] at this
 exact ⟨of_decide_eq_true this.1,of_decide_eq_true this.2⟩
def sf (pt:Pa) (cl:List Cl) (b:Nat) (hs nums ks as:List Int):Bool :=
 (okF hs.length nums.length ks.length pt && (decide (gF pt≤3) && (uE (fpT hs nums ks pt) && (decide (dA (fpT hs nums ks pt)≤8) && (cl.all (A0 nums.length ks.length) && decide (cl.length≤12)))))) &&
 ((okB (cl.map (cM nums ks)) && (decide (as.length=4) && (as.all (inB b) && (decide (2≤(b:Int)) && decide ((b:Int)≤10000))))) && (((1::hs).reverse.all (inB b) && decide ((1::hs).reverse.length≤64)) &&
 (match goK ⟨cl.map (cM nums ks),as,b⟩ 20 ⟨(1::hs).reverse,0,[],false⟩ with
  | some r=>pj (bX as b (fpT hs nums ks pt)) r
  | none=>false)))
variable {cl:List Cl}
theorem uX {pt:Pa} {b:Nat} {hs nums ks as:List Int} (h:sf pt cl b hs nums ks as=true):nN pt cl hs nums ks as b/\∃ r,goK ⟨cl.map (cM nums ks),as,b⟩ 20 ⟨(1::hs).reverse,0,[],false⟩=some r/\pj (bX as b (fpT hs nums ks pt)) r=true:=by
 unfold sf at h
 simp only [Bool.and_eq_true,decide_eq_true_eq] at h
 obtain ⟨⟨h1,h2,h3,h4,h5,h6⟩,⟨k1,k2,k3,k4,k5⟩,⟨m1,m2⟩,n⟩:=h
 refine ⟨⟨h1,h2,nM h3,h4,λc hc=>List.all_eq_true.mp h5 c hc,h6,⟨Bf k1,k2,wB k3,k4,k5⟩,⟨wB m1,m2,Nat.zero_le _⟩⟩,?_⟩
 cases hg:goK ⟨cl.map (cM nums ks),as,b⟩ 20 ⟨(1::hs).reverse,0,[],false⟩ with
 | none=>rw [hg] at n;cases n
 | some r=>rw [hg] at n;exact ⟨r,rfl,n⟩
def mW (css:List (List Int)):Bool:=decide (css.length≤20) && (List.range css.length).all λi=>decide ((cX (css.take i)).length * (css.getD i []).length≤1000)
theorem jg (h:mW css=true):gN css:=by
 unfold mW at h
 rw [Bool.and_eq_true] at h
 exact ⟨of_decide_eq_true h.1,λi hi=>of_decide_eq_true (List.all_eq_true.mp h.2 i (List.mem_range.mpr hi))⟩
def wj (nm:Str) (pt:Pa) (cl:List Cl) (b:Nat):Bool :=
 ((cz (pQ (.str nm) pt cl) == some true) && (decide (nm.length≤100) && (ppD 3 (toP pt) && (decide (2≤b) && decide (b≤5))))) && (((gD pt).all λc=>(wc c).isSome) && (mW (qG pt b) && (mW (qH pt) && (mW (nD pt) &&
 ((cX (nD pt)).all (λks=>mW (md ks b)) && (cX (qG pt b)).all λhs=>(cX (qH pt)).all λnums=>(cX (nD pt)).all λks=>(cX (md ks b)).all λas=>sf pt cl b hs nums ks as)))))
theorem wk {pt:Pa} {b:Nat} (h:wj nm pt cl b=true):zY (.str nm) pt cl b:=by
 unfold wj at h
 simp only [Bool.and_eq_true,decide_eq_true_eq] at h
 obtain ⟨⟨h1,h2,h3,h4,h5⟩,k1,k2,k3,k4,k5,k6⟩:=h
 refine ⟨by simpa using h1,?_,h3,h4,h5,λc hc=>List.all_eq_true.mp k1 c hc,jg k2,jg k3,jg k4,λks hk=>jg (List.all_eq_true.mp k5 ks hk),λhs h1 nums h2 ks h3 as h4=>?_⟩
 ·exact Nat.le_trans h2 (show 100≤sizeLine by decide)
 ·exact uX (List.all_eq_true.mp (List.all_eq_true.mp (List.all_eq_true.mp (List.all_eq_true.mp k6 hs h1) nums h2) ks h3) as h4)
def BPc:List (Str × Pa × List Cl):=[("one",.gap 0 99,[.n 1,.low 0]),("two",.gap 0 9999,[.n 2,.low 0,.high 0]),("slot",.slot 0,[.n 3,.arg 0]),("add",.two "add" (.hole 0) (.hole 1),[.n 4]),("sub",.two "sub" (.hole 0) (.hole 1),[.n 5]),("mul",.two "mul" (.hole 0) (.hole 1),[.n 6]),("less",.two "less" (.hole 0) (.hole 1),[.n 7]),("more",.two "add" (.hole 0) (.gap 0 99),[.n 12,.low 0])]
theorem AW:BAS=BPc.map λp=>pQ (.str p.1) p.2.1 p.2.2:=rfl
theorem vI:∀ p ∈ BPc,wj p.1 p.2.1 p.2.2 5=true:=by decide +kernel
def yf:List D:=[.non,.int 1,.int 6,.int 0,.bl true,.str "3",.int 10000]
theorem vc:∀ d ∈ yf,bO d 2 5=false:=by decide +kernel
abbrev B0:D:=pQ (.str "one") (.gap 0 99) [.n 1,.low 0]
abbrev B3:D:=pQ (.str "add") (.two "add" (.hole 0) (.hole 1)) [.n 4]
theorem BZ:BAS[0]?=some B0:=rfl
theorem CI:BAS[3]?=some B3:=rfl
theorem vD:cz B0=some true:=by decide +kernel
theorem AS:cz B3=some true:=by decide +kernel
theorem Aa:iW B0:=Nat.le_trans (show ("one":Str).length≤100 by decide +kernel) (show 100≤sizeLine by decide)
theorem Ab:iW B3:=Nat.le_trans (show ("add":Str).length≤100 by decide +kernel) (show 100≤sizeLine by decide)
theorem Cy:cN (.tup [.str "num",.int 1])=true:=by decide +kernel
theorem AR:KTD.inKeys ("add":Str) TM=false:=by decide +kernel
theorem eqr (j:Nat) (h:j ∈ [0,1,6]):(!eqD (kb j) (.tup [.str "refused",.int j]))=false:=by
 simp only [List.mem_cons,List.not_mem_nil,or_false] at h
 rcases h with rfl | rfl | rfl <;> decide +kernel
theorem B2:fe (kb j)≤20:=by simp [kb,fe,deepDs]
theorem kn (j:Nat) (h:RE K ta σ H (kb j)) (hj:j ∈ [0,1,6]):RE K (tOp (Bv K true) ta (BL (bj (tC (.str "refused")) (bj (tC (.int j)) ck)))) σ H (.bl false):=by
 have:=zH (e:=.tup [.str "refused",.int j]) h (aA (K:=K) (σ:=σ) (H:=H) (aa ax (aa (aq (i:=(j:Int))) ah))) rfl rfl B2
 rw [eqr j hj] at this
 exact this
theorem zz:RC K (tOp Cd (uW (bj (tC .non) ck)) (tC (.int 8))) σ H (List.replicate 8 .non):=λH1 s Q q=>by
 refine ⟨eM (by decide),λl hl=>⟨l,8,_,rfl,rfl,av,by decide,by decide,eM (by decide),λp np=>?_⟩⟩
 exact q p _ _ ((aC hl _).free np) ((aC hl _).trans (aC np _)) av (Dats.cons Dat.nonI (Dats.cons Dat.nonI (Dats.cons Dat.nonI (Dats.cons Dat.nonI (Dats.cons Dat.nonI (Dats.cons Dat.nonI (Dats.cons Dat.nonI (Dats.cons Dat.nonI Dats.nil))))))))
theorem vH {c:D} (h:BAS[i]?=some c):iW c/\mw [c,.int 5] .non:=by
 rw [AW,List.getElem?_map] at h
 obtain ⟨p,hp,rfl⟩:=Option.map_eq_some_iff.mp h
 have G:=wk (vI p (List.mem_of_getElem? hp))
 exact ⟨G.nmk,_,_,_,5,rfl,G,rfl⟩
def qa (K:PySem.W.Frag):Sp:=λvs H Q _=>∃ (a:Addr) (ns:List Int),vs=[.ref a]/\Scr K H a ns/\∀ H',Q (.bl true) H'
theorem Bh (T:Txt P w K mg) (JT:FnOk P w K mg base CX0 k T.E4 T.E5 ["_law_script","_law_town"] (mZ K)) (JX:FnOk P w K mg base CX0 k T.Fg T.Fm ["_law_script","_law_town"] (qb K)) (GK:FnOk P w K mg base CX0 k T.Fh T.Fo ["_law_script","_law_town","_law_some"] (oz K)) (Gy:FnOk P w K mg base CX0 k T.Hz T.HF ["_law_what","_law_piece","_law_other"] (spD K oN)):FnOk P w K mg base CX0 (k+1) T.Kw T.KI ["_law_script"] (qa K):=by
 refine T.K3.ok sc_law (λvs H Q E h=>?_) (λcdv A outer s H vs Q E hr h=>?_)
 ·obtain ⟨a,ns,rfl,_⟩:=h;rfl
 have nd:=sc_law.nd
 obtain ⟨a,ns,rfl,hS,post⟩:=h
 refine' ⟨_,?ybody,?yread⟩
 case ybody =>
  refine' aj ?y61 ?y62
  case y61=>exact (bq (i:=1) nd rfl (Or.inl rfl) (bp (ag ao (ag ao (ag ao af)))))
  case y62 =>
   refine' aj ?y59 ?y60
   case y59=>exact (Bt (i:=2) (j:=3) rfl nd rfl rfl (by decide) rfl rfl (ag (aF JT hr rfl T.IW T.FT.kp (j3 T) .nil aY (ag (pv 0) (ag (pv 1) af))) (ag (aF JX hr rfl T.Je T.Gr.kp (kA T) .nil aY (ag (pv 0) (ag (pv 1) af))) af)) (by kernel_rfl))
   case y60 =>
    refine' aj ?y57 ?y58
    case y57 =>
     refine' aZ ?y6 ?y7 ?y8
     case y6 =>
      refine' PW.pt ?y4
      case y4 =>
       refine' dR ?y2 ?y3
       case y2=>exact (aH (nY hr) (aF Gy hr rfl T.FY T.EZ.kp (dU T) .nil aY (ag ao (ag (pv 2) (ag (pv 3) af)))) (ay (ag az (ag ao af))) (aN _))
       case y3 =>
        refine' du ?y1
        case y1=>exact (aH (nY hr) (aF Gy hr rfl T.FY T.EZ.kp (dU T) .nil aY (ag ao (ag (aV ix_list (aQ (v:=.ref T.IJ) rfl T.Hj rfl) ao (λ_ _=>rfl)) (ag (pv 3) af)))) (ay (ag az (ag ao af))) (aN _))
     case y7 =>
      refine' au ?y5
      case y5=>exact (aG cf)
     case y8=>exact aK
    case y58 =>
     refine' aj ?y55 ?y56
     case y55 =>
      refine' bq (i:=4) ?y39 ?y40 ?y41 ?y42
      case y39=>exact nd
      case y40=>exact rfl
      case y41=>exact Or.inl rfl
      case y42 =>
       refine' aF ?y30 ?y31 ?y32 ?y33 ?y34 ?y35 ?y36 ?y37 ?y38
       case y30=>exact GK
       case y31=>exact hr
       case y32=>exact rfl
       case y33=>exact T.Ib
       case y34=>exact T.F0.kp
       case y35=>exact gB T
       case y36=>exact .nil
       case y37=>exact aY
       case y38 =>
        refine' ag ?y28 ?y29
        case y28=>exact (pv 0)
        case y29 =>
         refine' ag ?y26 ?y27
         case y26=>exact (pv 1)
         case y27 =>
          refine' ag ?y24 ?y25
          case y24 =>
           refine' bp ?y23
           case y23 =>
            refine' ag ?y21 ?y22
            case y21=>exact gQ
            case y22 =>
             refine' ag ?y19 ?y20
             case y19=>exact ao
             case y20 =>
              refine' ag ?y17 ?y18
              case y17=>exact ao
              case y18 =>
               refine' ag ?y15 ?y16
               case y15=>exact ao
               case y16 =>
                refine' ag ?y13 ?y14
                case y13=>exact cf
                case y14 =>
                 refine' ag ?y11 ?y12
                 case y11=>exact az
                 case y12 =>
                  refine' ag ?y9 ?y10
                  case y9=>exact ao
                  case y10=>exact af
          case y25=>exact af
     case y56 =>
      refine' aj ?y53 ?y54
      case y53 =>
       refine' aZ ?y48 ?y49 ?y50
       case y48 =>
        refine' PW.pt ?y46
        case y46 =>
         refine' dR ?y44 ?y45
         case y44=>exact (aH (nY hr) (aF Gy hr rfl T.FY T.EZ.kp (dU T) .nil aY (ag ao (ag (pv 2) (ag (pv 4) af)))) (ay (ag az (ag ao af))) (aN _))
         case y45 =>
          refine' du ?y43
          case y43=>exact (aH (nY hr) (aF Gy hr rfl T.FY T.EZ.kp (dU T) .nil aY (ag ao (ag (aV ix_list (aQ (v:=.ref T.IJ) rfl T.Hj rfl) ao (λ_ _=>rfl)) (ag (pv 4) af)))) (ay (ag az (ag ao af))) (aN _))
       case y49 =>
        refine' au ?y47
        case y47=>exact (aG cf)
       case y50=>exact aK
      case y54 =>
       refine' au ?y52
       case y52 =>
        refine' aG ?y51
        case y51=>exact (gO (eB (nV hr) (eE (own:=["_law_piece"]) (fr:=[]) (N':=["_law_piece"]) (di (aQ (v:=.ref T.IJ) rfl T.Hj rfl)) rfl (by show cK ["_law_script","_law_town","_law_bad","_law_odd","_law_wrong"] (λx=>(aw p7).names.lookup x) _ _ _ _=true;decide +kernel) rfl (λ_ _ _ _ _=>(aM (i:=0) (by show List.Nodup [("_law_piece":Str)];decide +kernel) rfl (Or.inl rfl))) (λ_ _ _ _ _=>cG) (λ_ _ _ _ _=>(aF Gy hr rfl T.FY T.EZ.kp (dU T) .nil aY (ag ao (ag (pv 0) (ag ao af)))))) (bu Bj (bp (ag gQ af)) ao) (aN _)) (gR (eB Bi (aF Gy hr rfl T.FY T.EZ.kp (dU T) .nil aY (ag ao (ag (aV ix_list (aQ (v:=.ref T.IJ) rfl T.Hj rfl) ao (λ_ _=>rfl)) (ag (ay (ag az (ag ao af))) af)))) gQ (aN _))))
 case yread =>
  refine d6 ⟨eM (by decide),λt ht=>?_⟩
  have hS1:=hS.same (aC ht (.lst [.int 0,.int 0,.int 4]))
  refine dI ⟨_,rfl,_,rfl,a,t,ns,0,0,[.int 4],rfl,hS1,av,by decide,λu H2 d p2 q2 b2 t2 g2 hd dd=>⟨_,rfl,_,rfl,a,t,ns,p2,q2,[.int 4],rfl,hS1.but b2 av,t2,g2,λv H3 e p3 q3 b3 t3 g3 he de=>⟨u,v,rfl,?_⟩⟩⟩
  have dd3:=Dat.mono (b3.grow t2 t3) _ dd
  have hS3:=(hS1.but b2 av).but b3 t2
  have hno:(cz d).getD false=false:=vE d hd
  have hok:=vF d hd
  dsimp only
  refine aE (K:=K) (b:=false) (RT.as (bY (b:=false) (aB (kn 6 (aR (R:=oN) (aa aq (aa (ae (k:=2) dd3) (aa (ae (k:=3) de) ah))) ⟨_,_,hok,.inl ⟨rfl,.inl ⟨hno,rfl⟩⟩⟩) (by decide))) λ_=>aB (kn 1 (aR (R:=oN) (aa aq (aa (rM (k:=0) (oj T.Jz) aq BZ) (aa (ae (k:=3) de) ah))) ⟨B0,_,Aa,.inl ⟨rfl,.inr (.inl ⟨vD,yo e he,rfl⟩)⟩⟩) (by decide))) rfl) (λc=>nomatch c) (λ_ H4 s4=>?_)
  have dd4:=s4.dat dd3
  have t4:=s4 _ _ t3
  have hS4:=hS3.same s4
  refine d6 ⟨_,rfl,_,rfl,gT (K:=K) (aa oh (aa aq (aa aq (aa aq (aa cR (aa ax (aa aq ah))))))) λlo x0 H5 s5 hlo e0=>?_⟩
  have s5':=s5.trans (aC hlo (.lst x0))
  have t5:=s5' _ _ t4
  have nlo:lo≠t:=λz=>by rw [z,s5 _ _ t4] at hlo;cases hlo
  have e0:=(aC hlo (.lst x0)).dats e0
  have l0:x0.length=7:=e0.length.symm
  refine ⟨a,t,lo,ns,x0,p3,q3,[.int 4],rfl,hS4.same s5',SqL.of av,nlo,by omega,by omega,t5,g3,λi x H6 p6 q6 b6 t6 g6 hx=>?_⟩
  obtain ⟨wr,ew,hw⟩:=e0.getV hx
  have wr_in:wr ∈ yf:=List.mem_of_getElem? ew
  have g56:cT K _ H6:=b6.grow t5 t6
  have dw:=Dat.mono g56 _ hw
  have dd6:=Dat.mono g56 _ (s5'.dat dd4)
  refine aE (K:=K) (b:=false) (RT.as (bY (b:=false) (aB (kn 6 (aR (R:=oN) (aa aq (aa (ae (k:=2) dd6) (aa (ae (k:=4) dw) ah))) ⟨_,_,hok,.inr ⟨rfl,.inl ⟨hno,rfl⟩⟩⟩) (by decide))) λ_=>aB (kn 0 (aR (R:=oN) (aa aq (aa (rM (k:=0) (oj T.Jz) aq BZ) (aa (ae (k:=4) dw) ah))) ⟨B0,_,Aa,.inr ⟨rfl,.inr (.inl ⟨vD,vc _ wr_in,rfl⟩)⟩⟩) (by decide))) rfl) (λc=>nomatch c) (λ_ H7 s7=>?_)
  refine aU (K:=K) (d:=.bl true) (RE.as (cA (b:=true) (RE.as (tP (jZ (xC (oj T.Jz) (by decide) (List.replicate 8 .non) rfl rfl (λG i c v d sG hc hd hv=>?_))) (jZ zz) (by decide +kernel) (by decide +kernel) (by decide +kernel)) (congrArg D.bl (by decide +kernel))) λ_=>BE (aR (R:=oN) (d:=.non) (aa aq (aa (rM (k:=3) (oj T.Jz) aq CI) (aa (aA (aa ax (aa aq ah))) ah))) ⟨B3,_,Ab,.inl ⟨rfl,.inr (.inr ⟨B3,_,rfl,Ab,AS,Cy,_,_,_,_,"add","num",rfl,AR,by decide +kernel,rfl⟩)⟩⟩)) rfl) (λv H' s d=>?_)
  ·have hd':d=.non:=List.eq_of_mem_replicate (List.mem_of_getElem? hd)
   subst hd'
   obtain ⟨k1,k2⟩:=vH hc
   exact aR (R:=oN) (aa aq (aa (ae (k:=0) hv) (aa aq ah))) ⟨c,.int 5,k1,.inr ⟨rfl,.inr (.inr k2)⟩⟩
  ·rw [d.blE]
   exact post _
end
end My
end
namespace My
open PySem L2 PyProof.Rows
section
variable {P:Program} {w:World} {K:PySem.W.Frag} {mg:Str->Option Value} {base:Heap}
theorem wU (vs:List V) (H:Hp) (Q:VK) (E:XK):¬ spD K (z5 0) vs H Q E:=λ⟨ds,es,_,h,_⟩=>h
theorem uC (vs:List V) (H:Hp) (Q:VK) (E:XK):¬ mr K (eO 0) vs H Q E:=λ⟨ds,es,_,⟨x,k,_,_,h,_⟩,_⟩=>nomatch h
theorem wV (vs:List V) (H:Hp) (Q:VK) (E:XK):¬ spD K (ik 0) vs H Q E:=λ⟨ds,es,_,⟨t,_,_,_,_,h,_⟩,_⟩=>by
 have:=uf t
 omega
theorem chain (T:Txt P w K mg):FnOk P w K mg base CX0 20 T.Kw T.KI ["_law_script"] (qa K):=by
 have w1:=pL (P:=P) (w:=w) (base:=base) (k:=0) T
 have g1:=nQ (P:=P) (w:=w) (base:=base) (k:=0) T
 have n2:=rp (k:=1) T g1 w1
 have wi:=ka (P:=P) (w:=w) (base:=base) (k:=0) T
 have it:=rq (k:=2) T n2 (wi.mono (by decide))
 have nt:=nS (k:=3) T it
 have ns:=nR (k:=1) T w1
 have bo:=jF (P:=P) (w:=w) (base:=base) (k:=0) T
 have rk:∀ n:Nat,FnOk P w K mg base CX0 (n+1) T.FU T.FV ["tree","args","size"] (spD K (ik n)):=by
  intro n
  induction n with
  | zero=>exact iV wV
  | succ n ih=>exact pN (k:=n+1) T (bo.mono (by omega)) ih
 have nm:=rm (P:=P) (w:=w) (base:=base) (k:=0) T
 have mk:=rl (k:=1) T g1 w1
 have pp:∀ n:Nat,FnOk P w K mg base CX0 (n+3) T.Dj T.Dk ["thing","deep"] (spD K (Rpp n)):=by
  intro n
  induction n with
  | zero=>exact fg (k:=2) (n:=0) T mk n2 (wi.mono (by decide)) (iV wU)
  | succ n ih=>exact fg (k:=n+3) (n:=n+1) T (mk.mono (by omega)) (n2.mono (by omega)) (wi.mono (by omega)) ih
 have ma:∀ n:Nat,FnOk P w K mg base CX0 (n+1) T.EX T.EY ["pattern","kind"] (mr K (eO n)):=by
  intro n
  induction n with
  | zero=>exact iV uC
  | succ n ih=>exact pM (k:=n+1) T (wi.mono (by omega)) ih
 have nu:=lh (k:=4) T (ma 3)
 have pa:=mj (k:=6) T (pp 3) (nu.mono (by decide))
 have fi:=mh (k:=4) T (g1.mono (by decide)) (ma 3) (w1.mono (by decide))
 have ce:=rj (k:=5) T (w1.mono (by decide)) fi
 have fin:=kY (P:=P) (w:=w) (base:=base) (k:=0) T
 have ia:=i4 (k:=1) T fin
 have iT:=iG (k:=1) T fin
 have ai:=ij (k:=6) T (w1.mono (by decide)) (iT.mono (by decide)) ce
 have pc:=pK (k:=7) T (nm.mono (by decide)) pa ai
 have np:=ml (k:=8) T pc
 have mt:=rB (P:=P) (w:=w) (base:=base) (k:=0) T Ag Ag
 have fo:=pJ (k:=1) T mt
 have ft:=yY (k:=9) T np (nt.mono (by decide)) (fo.mono (by decide))
 have num:=lj (P:=P) (w:=w) (base:=base) (k:=0) T
 have mi:=ig (P:=P) (w:=w) (base:=base) (k:=0) T
 have tk:=j8 (k:=1) T fin
 have pu:=j6 (k:=1) T fin
 have fn:=iY (k:=1) T fin
 have wy:=kZ (k:=2) T (fin.mono (by decide)) tk
 have ch:=iX (k:=3) T tk pu (bo.mono (by decide))
 have st:=j7 (k:=3) T (fin.mono (by decide)) (ia.mono (by decide)) (num.mono (by decide)) wy (fn.mono (by decide)) ch
 have fc:=lg (P:=P) (w:=w) (base:=base) (k:=0) T
 have fp:∀ n:Nat,FnOk P w K mg base CX0 (n+1) T.Dr T.Dt ["pattern","trial"] (spD K (Rfp n)):=by
  intro n
  induction n with
  | zero=>exact iV λvs H Q E ⟨ds,d,_,h,_⟩=>yE ds d h
  | succ n ih=>exact iZ (k:=n+1) T ih
 have ke:=wY (k:=9) T (fc.mono (by decide)) (mi.mono (by decide)) (st.mono (by decide)) ((fp 3).mono (by decide)) ((rk 8).mono (by decide))
 have ro:=rC (P:=P) (w:=w) (base:=base) (k:=0) T
 have ar:=pI (k:=1) T ro
 have fl:=rg (k:=11) T (np.mono (by decide)) (ns.mono (by decide)) (ro.mono (by decide)) ((ma 3).mono (by decide)) (ar.mono (by decide)) ke
 have wh:=mf (P:=P) (w:=w) (base:=base) (k:=11) T
 have ak:=pH (k:=12) T (ft.mono (by decide)) fl wh
 have dr:=nO (P:=P) (w:=w) (base:=base) (k:=0) T
 have pk:=nP (k:=1) T dr
 have no:=j9 (k:=2) T pk
 have npc:=jE (k:=2) T pk
 exact Bh (k:=19) T (npc.mono (by decide)) (no.mono (by decide)) (pk.mono (by decide)) (ak.mono (by decide))
end
abbrev NsD (K:PySem.W.Frag) (n:Str) (f:Addr):Prop:=PySem.W.nsIn K mainGlobals n=some (some (.ref f))
abbrev LkD (K:PySem.W.Frag) (n:Str) (st:Stmt) (f:Addr) (oc:Value) (od:Option Addr) (sl:Array (Option Value)) (kV dc pm:Value) (an:Option Addr) (cd ct:Value):Prop:=K.lookup f=some ⟨oc,od,.func (PySem.W.fnOf n n (bG st) (bz st) (aw st) .none kV dc pm an cd ct),sl⟩
variable {l:PySem.W.OpenLaw}
theorem all_mk {w:World} {K:PySem.W.Frag} {h:Heap} {mg:Str->Option Value} {fa:Addr} (X:K.In h) (G:h.Ns mainGlobals mg) (hfa:mg "law"=some (.ref fa)) {v7:Addr} {q7:Tok} {vc7:Value} {vd7:Option Addr} {vs7:Array (Option Value)} {vn7:Nat} {f1 f2 f3 f4 f5 f6 f7 f8 f9 f10 f11 f12 f13 f14 f15 f16 f17 f18 f19 f20 f21 f22 f23 f24 f25 f26 f27 f28 f29 f30 f31 f32 f33 f34 f35 f36 f37 f38 f39:Addr} {od1 od2 od3 od4 od5 od6 od7 od8 od9 od10 od11 od12 od13 od14 od15 od16 od17 od18 od19 od20 od21 od22 od23 od24 od25 od26 od27 od28 od29 od30 od31 od32 od33 od34 od35 od36 od37 od38 od39 an1 an2 an3 an4 an5 an6 an7 an8 an9 an10 an11 an12 an13 an14 an15 an16 an17 an18 an19 an20 an21 an22 an23 an24 an25 an26 an27 an28 an29 an30 an31 an32 an33 an34 an35 an36 an37 an38 an39:Option Addr} {sl1 sl2 sl3 sl4 sl5 sl6 sl7 sl8 sl9 sl10 sl11 sl12 sl13 sl14 sl15 sl16 sl17 sl18 sl19 sl20 sl21 sl22 sl23 sl24 sl25 sl26 sl27 sl28 sl29 sl30 sl31 sl32 sl33 sl34 sl35 sl36 sl37 sl38 sl39:Array (Option Value)} {oc1 oc2 oc3 oc4 oc5 oc6 oc7 oc8 oc9 oc10 oc11 oc12 oc13 oc14 oc15 oc16 oc17 oc18 oc19 oc20 oc21 oc22 oc23 oc24 oc25 oc26 oc27 oc28 oc29 oc30 oc31 oc32 oc33 oc34 oc35 oc36 oc37 oc38 oc39 kV1 kV2 kV3 kV4 kV5 kV6 kV7 kV8 kV9 kV10 kV11 kV12 kV13 kV14 kV15 kV16 kV17 kV18 kV19 kV20 kV21 kV22 kV23 kV24 kV25 kV26 kV27 kV28 kV29 kV30 kV31 kV32 kV33 kV34 kV35 kV36 kV37 kV38 kV39 dc1 dc2 dc3 dc4 dc5 dc6 dc7 dc8 dc9 dc10 dc11 dc12 dc13 dc14 dc15 dc16 dc17 dc18 dc19 dc20 dc21 dc22 dc23 dc24 dc25 dc26 dc27 dc28 dc29 dc30 dc31 dc32 dc33 dc34 dc35 dc36 dc37 dc38 dc39 pm1 pm2 pm3 pm4 pm5 pm6 pm7 pm8 pm9 pm10 pm11 pm12 pm13 pm14 pm15 pm16 pm17 pm18 pm19 pm20 pm21 pm22 pm23 pm24 pm25 pm26 pm27 pm28 pm29 pm30 pm31 pm32 pm33 pm34 pm35 pm36 pm37 pm38 pm39 cd1 cd2 cd3 cd4 cd5 cd6 cd7 cd8 cd9 cd10 cd11 cd12 cd13 cd14 cd15 cd16 cd17 cd18 cd19 cd20 cd21 cd22 cd23 cd24 cd25 cd26 cd27 cd28 cd29 cd30 cd31 cd32 cd33 cd34 cd35 cd36 cd37 cd38 cd39 ct1 ct2 ct3 ct4 ct5 ct6 ct7 ct8 ct9 ct10 ct11 ct12 ct13 ct14 ct15 ct16 ct17 ct18 ct19 ct20 ct21 ct22 ct23 ct24 ct25 ct26 ct27 ct28 ct29 ct30 ct31 ct32 ct33 ct34 ct35 ct36 ct37 ct38 ct39:Value} {Dd:Addr} {ii_Machine___init__:Addr} {iod_Machine___init__ ian_Machine___init__:Option Addr} {isl_Machine___init__:Array (Option Value)} {ioc_Machine___init__ ikV_Machine___init__ idc_Machine___init__ ipm_Machine___init__ icd_Machine___init__ ict_Machine___init__:Value} {ii_Machine_take:Addr} {iod_Machine_take ian_Machine_take:Option Addr} {isl_Machine_take:Array (Option Value)} {ioc_Machine_take ikV_Machine_take idc_Machine_take ipm_Machine_take icd_Machine_take ict_Machine_take:Value} {ii_Machine_push:Addr} {iod_Machine_push ian_Machine_push:Option Addr} {isl_Machine_push:Array (Option Value)} {ioc_Machine_push ikV_Machine_push idc_Machine_push ipm_Machine_push icd_Machine_push ict_Machine_push:Value} {ii_Machine_way:Addr} {iod_Machine_way ian_Machine_way:Option Addr} {isl_Machine_way:Array (Option Value)} {ioc_Machine_way ikV_Machine_way idc_Machine_way ipm_Machine_way icd_Machine_way ict_Machine_way:Value} {ii_Machine_finish:Addr} {iod_Machine_finish ian_Machine_finish:Option Addr} {isl_Machine_finish:Array (Option Value)} {ioc_Machine_finish ikV_Machine_finish idc_Machine_finish ipm_Machine_finish icd_Machine_finish ict_Machine_finish:Value} {ii_Machine_change:Addr} {iod_Machine_change ian_Machine_change:Option Addr} {isl_Machine_change:Array (Option Value)} {ioc_Machine_change ikV_Machine_change idc_Machine_change ipm_Machine_change icd_Machine_change ict_Machine_change:Value} {ii_Machine_step:Addr} {iod_Machine_step ian_Machine_step:Option Addr} {isl_Machine_step:Array (Option Value)} {ioc_Machine_step ikV_Machine_step idc_Machine_step ipm_Machine_step icd_Machine_step ict_Machine_step:Value} {Gx:Tok} {GW:Tok} {Fw:Tok} {GV:Tok} {DH:Tok} {HW:Tok} {Ea:Tok} {GZ:Tok} {GY:Tok} {GX:Tok} {GU:Tok} {Ex:Tok} {E7:Tok} {HE:Addr} {Gm:Addr} {EG:Addr} {Ig:Addr} {IZ:Addr} {HD:Addr} {Ju:Addr} {KC:Addr} {IM:Addr} {Ko:Addr} {ob_MARK_LENGTHS:Obj} {Gk:Addr} {C9:Addr} {Da:Addr} {Ja:Addr} {Jb:Addr} {Ir:Addr} {J0:Addr} {C6:Addr} {JB:Addr} {Ip:Addr} {Iq:Addr} {Jc:Addr} {JC:Addr} {Gj:Addr} {IY:Addr} {ii_Fault:Addr} {iod_Fault ian_Fault:Option Addr} {isl_Fault:Array (Option Value)} {ioc_Fault ikV_Fault idc_Fault ipm_Fault icd_Fault ict_Fault:Value}
  (a1:NsD K "is_whole" f1) (l1:LkD K "is_whole" gm f1 oc1 od1 sl1 kV1 dc1 pm1 an1 cd1 ct1) (c1:PySem.W.codeIn K cd1 "is_whole"=true) (k1:PySem.W.keepIn K (.ref f1)=true)
  (a2:NsD K "is_tagged" f2) (l2:LkD K "is_tagged" fE f2 oc2 od2 sl2 kV2 dc2 pm2 an2 cd2 ct2) (c2:PySem.W.codeIn K cd2 "is_tagged"=true) (k2:PySem.W.keepIn K (.ref f2)=true)
  (a3:NsD K "is_node" f3) (l3:LkD K "is_node" hX f3 oc3 od3 sl3 kV3 dc3 pm3 an3 cd3 ct3) (c3:PySem.W.codeIn K cd3 "is_node"=true) (k3:PySem.W.keepIn K (.ref f3)=true)
  (a4:NsD K "trees_within" f4) (l4:LkD K "trees_within" dN f4 oc4 od4 sl4 kV4 dc4 pm4 an4 cd4 ct4) (c4:PySem.W.codeIn K cd4 "trees_within"=true) (k4:PySem.W.keepIn K (.ref f4)=true)
  (a5:NsD K "is_tree" f5) (l5:LkD K "is_tree" fR f5 oc5 od5 sl5 kV5 dc5 pm5 an5 cd5 ct5) (c5:PySem.W.codeIn K cd5 "is_tree"=true) (k5:PySem.W.keepIn K (.ref f5)=true)
  (a6:NsD K "need_tree" f6) (l6:LkD K "need_tree" fF f6 oc6 od6 sl6 kV6 dc6 pm6 an6 cd6 ct6) (c6:PySem.W.codeIn K cd6 "need_tree"=true) (k6:PySem.W.keepIn K (.ref f6)=true)
  (a7:NsD K "need_size" f7) (l7:K.lookup f7=some ⟨oc7,od7,.func (PySem.W.fnOf "need_size" "need_size" (bG cC) (bz cC) (aw cC) (.ref v7) kV7 dc7 pm7 an7 cd7 ct7),sl7⟩) (c7:PySem.W.codeIn K cd7 "need_size"=true) (k7:PySem.W.keepIn K (.ref f7)=true)
  (a8:NsD K "worth_of_both" f8) (l8:LkD K "worth_of_both" dk f8 oc8 od8 sl8 kV8 dc8 pm8 an8 cd8 ct8) (c8:PySem.W.codeIn K cd8 "worth_of_both"=true) (k8:PySem.W.keepIn K (.ref f8)=true)
  (a9:NsD K "reckoned" f9) (l9:LkD K "reckoned" gp f9 oc9 od9 sl9 kV9 dc9 pm9 an9 cd9 ct9) (c9:PySem.W.codeIn K cd9 "reckoned"=true) (k9:PySem.W.keepIn K (.ref f9)=true)
  (a10:NsD K "is_name" f10) (l10:LkD K "is_name" fQ f10 oc10 od10 sl10 kV10 dc10 pm10 an10 cd10 ct10) (c10:PySem.W.codeIn K cd10 "is_name"=true) (k10:PySem.W.keepIn K (.ref f10)=true)
  (a11:NsD K "instruction_at" f11) (l11:LkD K "instruction_at" cP f11 oc11 od11 sl11 kV11 dc11 pm11 an11 cd11 ct11) (c11:PySem.W.codeIn K cd11 "instruction_at"=true) (k11:PySem.W.keepIn K (.ref f11)=true)
  (a12:NsD K "number_told" f12) (l12:LkD K "number_told" eH f12 oc12 od12 sl12 kV12 dc12 pm12 an12 cd12 ct12) (c12:PySem.W.codeIn K cd12 "number_told"=true) (k12:PySem.W.keepIn K (.ref f12)=true)
  (a13:NsD K "is_mark" f13) (l13:LkD K "is_mark" hV f13 oc13 od13 sl13 kV13 dc13 pm13 an13 cd13 ct13) (c13:PySem.W.codeIn K cd13 "is_mark"=true) (k13:PySem.W.keepIn K (.ref f13)=true)
  (a14:NsD K "is_pattern_part" f14) (l14:LkD K "is_pattern_part" cq f14 oc14 od14 sl14 kV14 dc14 pm14 an14 cd14 ct14) (c14:PySem.W.codeIn K cd14 "is_pattern_part"=true) (k14:PySem.W.keepIn K (.ref f14)=true)
  (a15:NsD K "marks_in" f15) (l15:LkD K "marks_in" gn f15 oc15 od15 sl15 kV15 dc15 pm15 an15 cd15 ct15) (c15:PySem.W.codeIn K cd15 "marks_in"=true) (k15:PySem.W.keepIn K (.ref f15)=true)
  (a16:NsD K "is_numbered" f16) (l16:LkD K "is_numbered" cY f16 oc16 od16 sl16 kV16 dc16 pm16 an16 cd16 ct16) (c16:PySem.W.codeIn K cd16 "is_numbered"=true) (k16:PySem.W.keepIn K (.ref f16)=true)
  (a17:NsD K "is_pattern" f17) (l17:LkD K "is_pattern" dM f17 oc17 od17 sl17 kV17 dc17 pm17 an17 cd17 ct17) (c17:PySem.W.codeIn K cd17 "is_pattern"=true) (k17:PySem.W.keepIn K (.ref f17)=true)
  (a18:NsD K "is_filling" f18) (l18:LkD K "is_filling" eU f18 oc18 od18 sl18 kV18 dc18 pm18 an18 cd18 ct18) (c18:PySem.W.codeIn K cd18 "is_filling"=true) (k18:PySem.W.keepIn K (.ref f18)=true)
  (a19:NsD K "is_cell" f19) (l19:LkD K "is_cell" hU f19 oc19 od19 sl19 kV19 dc19 pm19 an19 cd19 ct19) (c19:PySem.W.codeIn K cd19 "is_cell"=true) (k19:PySem.W.keepIn K (.ref f19)=true)
  (a20:NsD K "are_instructions" f20) (l20:LkD K "are_instructions" cj f20 oc20 od20 sl20 kV20 dc20 pm20 an20 cd20 ct20) (c20:PySem.W.codeIn K cd20 "are_instructions"=true) (k20:PySem.W.keepIn K (.ref f20)=true)
  (a21:NsD K "is_piece" f21) (l21:LkD K "is_piece" gk f21 oc21 od21 sl21 kV21 dc21 pm21 an21 cd21 ct21) (c21:PySem.W.codeIn K cd21 "is_piece"=true) (k21:PySem.W.keepIn K (.ref f21)=true)
  (a22:NsD K "need_piece" f22) (l22:LkD K "need_piece" eV f22 oc22 od22 sl22 kV22 dc22 pm22 an22 cd22 ct22) (c22:PySem.W.codeIn K cd22 "need_piece"=true) (k22:PySem.W.keepIn K (.ref f22)=true)
  (a23:NsD K "may_stand_for" f23) (l23:LkD K "may_stand_for" eP f23 oc23 od23 sl23 kV23 dc23 pm23 an23 cd23 ct23) (c23:PySem.W.codeIn K cd23 "may_stand_for"=true) (k23:PySem.W.keepIn K (.ref f23)=true)
  (a24:NsD K "matches" f24) (l24:LkD K "matches" hZ f24 oc24 od24 sl24 kV24 dc24 pm24 an24 cd24 ct24) (c24:PySem.W.codeIn K cd24 "matches"=true) (k24:PySem.W.keepIn K (.ref f24)=true)
  (a25:NsD K "found_in" f25) (l25:LkD K "found_in" gj f25 oc25 od25 sl25 kV25 dc25 pm25 an25 cd25 ct25) (c25:PySem.W.codeIn K cd25 "found_in"=true) (k25:PySem.W.keepIn K (.ref f25)=true)
  (a26:NsD K "fits" f26) (l26:LkD K "fits" ow f26 oc26 od26 sl26 kV26 dc26 pm26 an26 cd26 ct26) (c26:PySem.W.codeIn K cd26 "fits"=true) (k26:PySem.W.keepIn K (.ref f26)=true)
  (a27:NsD K "filled_cell" f27) (l27:LkD K "filled_cell" eG f27 oc27 od27 sl27 kV27 dc27 pm27 an27 cd27 ct27) (c27:PySem.W.codeIn K cd27 "filled_cell"=true) (k27:PySem.W.keepIn K (.ref f27)=true)
  (a28:NsD K "filled_pattern" f28) (l28:LkD K "filled_pattern" cO f28 oc28 od28 sl28 kV28 dc28 pm28 an28 cd28 ct28) (c28:PySem.W.codeIn K cd28 "filled_pattern"=true) (k28:PySem.W.keepIn K (.ref f28)=true)
  (a29:NsD K "keeps" f29) (l29:LkD K "keeps" jk f29 oc29 od29 sl29 kV29 dc29 pm29 an29 cd29 ct29) (c29:PySem.W.codeIn K cd29 "keeps"=true) (k29:PySem.W.keepIn K (.ref f29)=true)
  (a30:NsD K "rows_of" f30) (l30:LkD K "rows_of" fS f30 oc30 od30 sl30 kV30 dc30 pm30 an30 cd30 ct30) (c30:PySem.W.codeIn K cd30 "rows_of"=true) (k30:PySem.W.keepIn K (.ref f30)=true)
  (a31:NsD K "args_for" f31) (l31:LkD K "args_for" fm f31 oc31 od31 sl31 kV31 dc31 pm31 an31 cd31 ct31) (c31:PySem.W.codeIn K cd31 "args_for"=true) (k31:PySem.W.keepIn K (.ref f31)=true)
  (a32:NsD K "failing" f32) (l32:LkD K "failing" d7 f32 oc32 od32 sl32 kV32 dc32 pm32 an32 cd32 ct32) (c32:PySem.W.codeIn K cd32 "failing"=true) (k32:PySem.W.keepIn K (.ref f32)=true)
  (a33:NsD K "_law_draw" f33) (l33:LkD K "_law_draw" fC f33 oc33 od33 sl33 kV33 dc33 pm33 an33 cd33 ct33) (c33:PySem.W.codeIn K cd33 "_law_draw"=true) (k33:PySem.W.keepIn K (.ref f33)=true)
  (a34:NsD K "_law_pick" f34) (l34:LkD K "_law_pick" fD f34 oc34 od34 sl34 kV34 dc34 pm34 an34 cd34 ct34) (c34:PySem.W.codeIn K cd34 "_law_pick"=true) (k34:PySem.W.keepIn K (.ref f34)=true)
  (a35:NsD K "_law_no_tree" f35) (l35:LkD K "_law_no_tree" dJ f35 oc35 od35 sl35 kV35 dc35 pm35 an35 cd35 ct35) (c35:PySem.W.codeIn K cd35 "_law_no_tree"=true) (k35:PySem.W.keepIn K (.ref f35)=true)
  (a36:NsD K "_law_no_piece" f36) (l36:LkD K "_law_no_piece" dj f36 oc36 od36 sl36 kV36 dc36 pm36 an36 cd36 ct36) (c36:PySem.W.codeIn K cd36 "_law_no_piece"=true) (k36:PySem.W.keepIn K (.ref f36)=true)
  (a37:NsD K "_law_which" f37) (l37:LkD K "_law_which" eT f37 oc37 od37 sl37 kV37 dc37 pm37 an37 cd37 ct37) (c37:PySem.W.codeIn K cd37 "_law_which"=true) (k37:PySem.W.keepIn K (.ref f37)=true)
  (a38:NsD K "_law_ask" f38) (l38:LkD K "_law_ask" gi f38 oc38 od38 sl38 kV38 dc38 pm38 an38 cd38 ct38) (c38:PySem.W.codeIn K cd38 "_law_ask"=true) (k38:PySem.W.keepIn K (.ref f38)=true)
  (a39:NsD K "law" f39) (l39:LkD K "law" p7 f39 oc39 od39 sl39 kV39 dc39 pm39 an39 cd39 ct39) (c39:PySem.W.codeIn K cd39 "law"=true) (k39:PySem.W.keepIn K (.ref f39)=true)
  (e7:K.lookup v7=some ⟨vc7,vd7,.seq #[.int 10000 q7] vn7,vs7⟩)
  (Ht:PySem.W.nsIn K mainGlobals "Machine"=some (some (.ref Dd)))
  (if_Machine___init__:PySem.W.findIn K (.ref Dd) "__init__"=some (some (.ref ii_Machine___init__))) (il_Machine___init__:K.lookup ii_Machine___init__=some ⟨ioc_Machine___init__,iod_Machine___init__,.func (PySem.W.fnOf "__init__" "Machine.__init__" (bG br) (bz br) (aw br) .none ikV_Machine___init__ idc_Machine___init__ ipm_Machine___init__ ian_Machine___init__ icd_Machine___init__ ict_Machine___init__),isl_Machine___init__⟩) (ic_Machine___init__:PySem.W.codeIn K icd_Machine___init__ "Machine.__init__"=true) (ik_Machine___init__:PySem.W.keepIn K (.ref ii_Machine___init__)=true) (ij_Machine___init__:PySem.W.isFn K (.ref ii_Machine___init__)=true)
  (im_Machine:PySem.W.makesIn K Dd=true) (io_Machine:PySem.W.keepIn K (.ref Dd)=true)
  (if_Machine_take:PySem.W.findIn K (.ref Dd) "take"=some (some (.ref ii_Machine_take))) (il_Machine_take:K.lookup ii_Machine_take=some ⟨ioc_Machine_take,iod_Machine_take,.func (PySem.W.fnOf "take" "Machine.take" (bG bN) (bz bN) (aw bN) .none ikV_Machine_take idc_Machine_take ipm_Machine_take ian_Machine_take icd_Machine_take ict_Machine_take),isl_Machine_take⟩) (ic_Machine_take:PySem.W.codeIn K icd_Machine_take "Machine.take"=true) (ik_Machine_take:PySem.W.keepIn K (.ref ii_Machine_take)=true) (ij_Machine_take:PySem.W.isFn K (.ref ii_Machine_take)=true)
  (if_Machine_push:PySem.W.findIn K (.ref Dd) "push"=some (some (.ref ii_Machine_push))) (il_Machine_push:K.lookup ii_Machine_push=some ⟨ioc_Machine_push,iod_Machine_push,.func (PySem.W.fnOf "push" "Machine.push" (bG bL) (bz bL) (aw bL) .none ikV_Machine_push idc_Machine_push ipm_Machine_push ian_Machine_push icd_Machine_push ict_Machine_push),isl_Machine_push⟩) (ic_Machine_push:PySem.W.codeIn K icd_Machine_push "Machine.push"=true) (ik_Machine_push:PySem.W.keepIn K (.ref ii_Machine_push)=true) (ij_Machine_push:PySem.W.isFn K (.ref ii_Machine_push)=true)
  (if_Machine_way:PySem.W.findIn K (.ref Dd) "way"=some (some (.ref ii_Machine_way))) (il_Machine_way:K.lookup ii_Machine_way=some ⟨ioc_Machine_way,iod_Machine_way,.func (PySem.W.fnOf "way" "Machine.way" (bG bS) (bz bS) (aw bS) .none ikV_Machine_way idc_Machine_way ipm_Machine_way ian_Machine_way icd_Machine_way ict_Machine_way),isl_Machine_way⟩) (ic_Machine_way:PySem.W.codeIn K icd_Machine_way "Machine.way"=true) (ik_Machine_way:PySem.W.keepIn K (.ref ii_Machine_way)=true) (ij_Machine_way:PySem.W.isFn K (.ref ii_Machine_way)=true)
  (if_Machine_finish:PySem.W.findIn K (.ref Dd) "finish"=some (some (.ref ii_Machine_finish))) (il_Machine_finish:K.lookup ii_Machine_finish=some ⟨ioc_Machine_finish,iod_Machine_finish,.func (PySem.W.fnOf "finish" "Machine.finish" (bG bB) (bz bB) (aw bB) .none ikV_Machine_finish idc_Machine_finish ipm_Machine_finish ian_Machine_finish icd_Machine_finish ict_Machine_finish),isl_Machine_finish⟩) (ic_Machine_finish:PySem.W.codeIn K icd_Machine_finish "Machine.finish"=true) (ik_Machine_finish:PySem.W.keepIn K (.ref ii_Machine_finish)=true) (ij_Machine_finish:PySem.W.isFn K (.ref ii_Machine_finish)=true)
  (if_Machine_change:PySem.W.findIn K (.ref Dd) "change"=some (some (.ref ii_Machine_change))) (il_Machine_change:K.lookup ii_Machine_change=some ⟨ioc_Machine_change,iod_Machine_change,.func (PySem.W.fnOf "change" "Machine.change" (bG bA) (bz bA) (aw bA) .none ikV_Machine_change idc_Machine_change ipm_Machine_change ian_Machine_change icd_Machine_change ict_Machine_change),isl_Machine_change⟩) (ic_Machine_change:PySem.W.codeIn K icd_Machine_change "Machine.change"=true) (ik_Machine_change:PySem.W.keepIn K (.ref ii_Machine_change)=true) (ij_Machine_change:PySem.W.isFn K (.ref ii_Machine_change)=true)
  (if_Machine_step:PySem.W.findIn K (.ref Dd) "step"=some (some (.ref ii_Machine_step))) (il_Machine_step:K.lookup ii_Machine_step=some ⟨ioc_Machine_step,iod_Machine_step,.func (PySem.W.fnOf "step" "Machine.step" (bG bM) (bz bM) (aw bM) .none ikV_Machine_step idc_Machine_step ipm_Machine_step ian_Machine_step icd_Machine_step ict_Machine_step),isl_Machine_step⟩) (ic_Machine_step:PySem.W.codeIn K icd_Machine_step "Machine.step"=true) (ik_Machine_step:PySem.W.keepIn K (.ref ii_Machine_step)=true) (ij_Machine_step:PySem.W.isFn K (.ref ii_Machine_step)=true)
  (cl_Machine:Cls K Dd)
  (na_cells:PySem.W.findIn K (.ref Dd) "cells"=some none)
  (na_given:PySem.W.findIn K (.ref Dd) "given"=some none)
  (na_size:PySem.W.findIn K (.ref Dd) "size"=some none)
  (na_pile:PySem.W.findIn K (.ref Dd) "pile"=some none)
  (na_place:PySem.W.findIn K (.ref Dd) "place"=some none)
  (na_kept:PySem.W.findIn K (.ref Dd) "kept"=some none)
  (na_ended:PySem.W.findIn K (.ref Dd) "ended"=some none)
  (FD:PySem.W.nsIn K mainGlobals "MOST_PARTS"=some (some (.int 40 Gx)))
  (F3:PySem.W.nsIn K mainGlobals "MOST_DEEP"=some (some (.int 8 GW)))
  (EL:PySem.W.nsIn K mainGlobals "LONGEST_NAME"=some (some (.int 8 Fw)))
  (Fu:PySem.W.nsIn K mainGlobals "MOST_CELL"=some (some (.int 99 GV)))
  (Do:PySem.W.nsIn K mainGlobals "MOST_PATTERN_DEEP"=some (some (.int 3 DH)))
  (GD:PySem.W.nsIn K mainGlobals "MOST_GAP"=some (some (.int 9999 HW)))
  (Dv:PySem.W.nsIn K mainGlobals "MOST_PIECE_CELLS"=some (some (.int 12 Ea)))
  (GT:PySem.W.nsIn K mainGlobals "MOST_SIZE"=some (some (.int 10000 GZ)))
  (F5:PySem.W.nsIn K mainGlobals "MOST_PILE"=some (some (.int 64 GY)))
  (F4:PySem.W.nsIn K mainGlobals "MOST_KEPT"=some (some (.int 16 GX)))
  (Fs:PySem.W.nsIn K mainGlobals "MANY_ARGS"=some (some (.int 4 GU)))
  (DA:PySem.W.nsIn K mainGlobals "MOST_TRIED_SIZE"=some (some (.int 5 Ex)))
  (DG:PySem.W.nsIn K mainGlobals "BENEATH_HOLES"=some (some (.int 1 E7)))
  (D7:PySem.W.nsIn K mainGlobals "MOST_IN_LEAF"=some (some (.ref HE))) (D9:KTD.tabLook (KTD.datLooks λb=>K.lookup b) (λb=>K.lookup b) HE TL=true)
  (De:PySem.W.nsIn K mainGlobals "TREES_IN_BRANCH"=some (some (.ref Gm))) (Df:KTD.tabLook (KTD.datLooks λb=>K.lookup b) (λb=>K.lookup b) Gm TB=true)
  (Dy:PySem.W.nsIn K mainGlobals "MARK_LENGTHS"=some (some (.ref EG))) (D8:KTD.tabLook (KTD.datLooks λb=>K.lookup b) (λb=>K.lookup b) EG TM=true)
  (EB:PySem.W.nsIn K mainGlobals "FILLED_FROM"=some (some (.ref Ig))) (EC:KTD.tabLook (KTD.datLooks λb=>K.lookup b) (λb=>K.lookup b) Ig TF=true)
  (F6:PySem.W.nsIn K mainGlobals "MOST_TOLD"=some (some (.ref IZ))) (F7:KTD.tabLook (KTD.datLooks λb=>K.lookup b) (λb=>K.lookup b) IZ TTO=true)
  (Dl:PySem.W.nsIn K mainGlobals "INSTRUCTIONS"=some (some (.ref HD))) (HX:dP K (.tup INS) (.ref HD)=true)
  (GF:PySem.W.nsIn K mainGlobals "STRAIGHT"=some (some (.ref Ju))) (Jw:dP K (.tup STR) (.ref Ju)=true)
  (JN:PySem.W.nsIn K mainGlobals "WAYS"=some (some (.ref KC))) (KD:dP K (.tup WAY) (.ref KC)=true)
  (FF:PySem.W.nsIn K mainGlobals "TRIED_NUMS"=some (some (.ref IM))) (IT:dP K (.tup TRN) (.ref IM)=true)
  (Hj:PySem.W.nsIn K mainGlobals "BASIC"=some (some (.ref Ko))) (Kq:kR K BAS Ko=true)
  (HU:K.lookup EG=some ob_MARK_LENGTHS) (HJ:KTD.tabLook KTD.flatLooks (λb=>K.lookup b) EG ([("hole",.int 2),("gap",.int 3),("slot",.int 2)]:List (Str × PyData))=true) (HV:KTD.hashesOf (λb=>K.lookup b) EG=([("hole",.int 2),("gap",.int 3),("slot",.int 2)]:List (Str × PyData)).map λp=>(PySem.strKind l.prog w).hash p.1)
  (FE:PySem.W.nsIn K mainGlobals "PieceError"=some (some (.ref Gk)))
  (HP:PySem.W.nsIn K mainGlobals "NoSize"=some (some (.ref C9)))
  (HQ:PySem.W.nsIn K mainGlobals "NoTree"=some (some (.ref Da)))
  (IC:PySem.W.nsIn K mainGlobals "NoArgs"=some (some (.ref Ja)))
  (ID:PySem.W.nsIn K mainGlobals "NoCode"=some (some (.ref Jb)))
  (Hw:PySem.W.nsIn K mainGlobals "NoSteps"=some (some (.ref Ir)))
  (JM:PySem.W.nsIn K mainGlobals "Late"=some (some (.ref J0)))
  (GE:PySem.W.nsIn K mainGlobals "NoPiece"=some (some (.ref C6)))
  (Jm:PySem.W.nsIn K mainGlobals "NoSet"=some (some (.ref JB)))
  (Hu:PySem.W.nsIn K mainGlobals "NoCover"=some (some (.ref Ip)))
  (Hv:PySem.W.nsIn K mainGlobals "NoParts"=some (some (.ref Iq)))
  (IE:PySem.W.nsIn K mainGlobals "NoName"=some (some (.ref Jc)))
  (Jn:PySem.W.nsIn K mainGlobals "Taken"=some (some (.ref JC)))
  (Eb:PySem.W.nsIn K mainGlobals "Fault"=some (some (.ref Gj)))
  (IB:PySem.W.nsIn K mainGlobals "Broken"=some (some (.ref IY)))
  (if_Fault:PySem.W.findIn K (.ref Gj) "__init__"=some (some (.ref ii_Fault))) (il_Fault:K.lookup ii_Fault=some ⟨ioc_Fault,iod_Fault,.func (PySem.W.fnOf "__init__" "Fault.__init__" (bG bR) (bz bR) (aw bR) .none ikV_Fault idc_Fault ipm_Fault ian_Fault icd_Fault ict_Fault),isl_Fault⟩) (ic_Fault:PySem.W.codeIn K icd_Fault "Fault.__init__"=true) (ik_Fault:PySem.W.keepIn K (.ref ii_Fault)=true)
  (ix_Fault:tX K Gj ii_Fault) (is_Fault:vv K Gj "place")
  (JI:iy K Gj)
  (IG:ip K C9 [.type "ValueError",.type "Exception",.type "BaseException",.type "object"] "ValueError.__new__" none=true) (Dh:iy K C9)
  (IH:ip K Da [.type "ValueError",.type "Exception",.type "BaseException",.type "object"] "ValueError.__new__" none=true) (Di:iy K Da)
  (Hx:ip K C6 [.type "ValueError",.type "Exception",.type "BaseException",.type "object"] "ValueError.__new__" none=true) (C7:iy K C6)
  (Dm:PySem.W.exmOne K (.ref C9) (.ref Gk)=some true)
  (Dn:PySem.W.exmOne K (.ref Da) (.ref Gk)=some true)
  (Dc:PySem.W.exmOne K (.ref C6) (.ref Gk)=some true)
  (DI:PySem.W.exmOne K (.ref Gj) (.ref Gj)=some true)
  (El:PySem.W.kitOne K (.ref C9) (.ref C9)=some true)
  (Em:PySem.W.kitOne K (.ref C9) (.ref Da)=some false)
  (Ei:PySem.W.kitOne K (.ref C9) (.ref Ja)=some false)
  (Ej:PySem.W.kitOne K (.ref C9) (.ref Jb)=some false)
  (DU:PySem.W.kitOne K (.ref C9) (.ref Ir)=some false)
  (E8:PySem.W.kitOne K (.ref C9) (.ref J0)=some false)
  (DT:PySem.W.kitOne K (.ref C9) (.ref C6)=some false)
  (EO:PySem.W.kitOne K (.ref C9) (.ref JB)=some false)
  (DR:PySem.W.kitOne K (.ref C9) (.ref Ip)=some false)
  (DS:PySem.W.kitOne K (.ref C9) (.ref Iq)=some false)
  (Ek:PySem.W.kitOne K (.ref C9) (.ref Jc)=some false)
  (ER:PySem.W.kitOne K (.ref C9) (.ref JC)=some false)
  (EN:PySem.W.kitOne K (.ref C9) (.ref Gj)=some false)
  (Eh:PySem.W.kitOne K (.ref C9) (.ref IY)=some false)
  (Et:PySem.W.kitOne K (.ref Da) (.ref C9)=some false)
  (Eu:PySem.W.kitOne K (.ref Da) (.ref Da)=some true)
  (Ep:PySem.W.kitOne K (.ref Da) (.ref Ja)=some false)
  (Er:PySem.W.kitOne K (.ref Da) (.ref Jb)=some false)
  (DY:PySem.W.kitOne K (.ref Da) (.ref Ir)=some false)
  (E9:PySem.W.kitOne K (.ref Da) (.ref J0)=some false)
  (DX:PySem.W.kitOne K (.ref Da) (.ref C6)=some false)
  (ET:PySem.W.kitOne K (.ref Da) (.ref JB)=some false)
  (DV:PySem.W.kitOne K (.ref Da) (.ref Ip)=some false)
  (DW:PySem.W.kitOne K (.ref Da) (.ref Iq)=some false)
  (Es:PySem.W.kitOne K (.ref Da) (.ref Jc)=some false)
  (EU:PySem.W.kitOne K (.ref Da) (.ref JC)=some false)
  (ES:PySem.W.kitOne K (.ref Da) (.ref Gj)=some false)
  (Eo:PySem.W.kitOne K (.ref Da) (.ref IY)=some false)
  (DP:PySem.W.kitOne K (.ref C6) (.ref C9)=some false)
  (DQ:PySem.W.kitOne K (.ref C6) (.ref Da)=some false)
  (DM:PySem.W.kitOne K (.ref C6) (.ref Ja)=some false)
  (DN:PySem.W.kitOne K (.ref C6) (.ref Jb)=some false)
  (DE:PySem.W.kitOne K (.ref C6) (.ref Ir)=some false)
  (EM:PySem.W.kitOne K (.ref C6) (.ref J0)=some false)
  (DD:PySem.W.kitOne K (.ref C6) (.ref C6)=some true)
  (Ef:PySem.W.kitOne K (.ref C6) (.ref JB)=some false)
  (DB:PySem.W.kitOne K (.ref C6) (.ref Ip)=some false)
  (DC:PySem.W.kitOne K (.ref C6) (.ref Iq)=some false)
  (DO:PySem.W.kitOne K (.ref C6) (.ref Jc)=some false)
  (Eg:PySem.W.kitOne K (.ref C6) (.ref JC)=some false)
  (Ee:PySem.W.kitOne K (.ref C6) (.ref Gj)=some false)
  (DL:PySem.W.kitOne K (.ref C6) (.ref IY)=some false)
  (Dp:PySem.W.kitOne K (.ref C9) (.type "ValueError")=some true)
  (Dq:PySem.W.kitOne K (.ref Da) (.type "ValueError")=some true)
  (Dg:PySem.W.kitOne K (.ref C6) (.type "ValueError")=some true)
  (K0:PySem.W.nsIn K mainGlobals "len"=some none)
  (IV:PySem.W.nsIn K mainGlobals "isinstance"=some none)
  (KZ:PySem.W.nsIn K mainGlobals "int"=some none)
  (KG:PySem.W.nsIn K mainGlobals "bool"=some none)
  (K1:PySem.W.nsIn K mainGlobals "str"=some none)
  (Ks:PySem.W.nsIn K mainGlobals "tuple"=some none)
  (KH:PySem.W.nsIn K mainGlobals "list"=some none)
  (Kr:PySem.W.nsIn K mainGlobals "range"=some none)
  (KY:PySem.W.nsIn K mainGlobals "all"=some none)
  (Jx:PySem.W.nsIn K mainGlobals "reversed"=some none)
  (IU:PySem.W.nsIn K mainGlobals "ValueError"=some none) :
  ∃ fd:FuncData,(∀ (s:Shared) (v:Value),BindsTo s fd ⟨[v],[]⟩ [("_law_script",v)])/\∀ base:Heap,K.In base->base.Ns mainGlobals mg->FnOk l.prog w K mg base CX0 20 fa fd ["_law_script"] (qa K):=by
 have M:∀ {n:Str} {v:Value},PySem.W.nsIn K mainGlobals n=some (some v)->mg n=some v:=PySem.W.mg_of X G
 have N:∀ {n:Str},PySem.W.nsIn K mainGlobals n=some none->mg n=none:=PySem.W.mg_none_of X G
 have e:=hfa.symm.trans (M a39)
 cases e
 let T:Txt l.prog w K mg :=
  {Ey:=f1,Ez:=_,EA:=bc (st:=gm) l1 c1 k1,Fv:=M a1,
   Fi:=f2,Fp:=_,F1:=bc (st:=fE) l2 c2 k2,Ic:=M a2,
   Hl:=f3,Ho:=_,IA:=bc (st:=hX) l3 c3 k3,JO:=M a3,
   D3:=f4,D6:=_,EK:=bc (st:=dN) l4 c4 k4,Gw:=M a4,
   Io:=f5,Iz:=_,Jl:=bc (st:=fR) l5 c5 k5,Kj:=M a5,
   GO:=f6,GR:=_,Ia:=bc (st:=fF) l6 c6 k6,JR:=M a6,
   GN:=f7,GQ:=PySem.W.fnOf "need_size" "need_size" (bG cC) (bz cC) (aw cC) (.ref v7) kV7 dc7 pm7 an7 cd7 ct7,Jf:=v7,JS:=q7,GS:=⟨⟨_,_,_,_,_,_,_,_,_,rfl,l7,c7⟩,k7,⟨_,_,e7,rfl⟩⟩,JQ:=M a7,
   Ec:=f8,Ed:=_,E6:=bc (st:=dk) l8 c8 k8,Hc:=M a8,
   FU:=f9,FV:=_,FX:=bc (st:=gp) l9 c9 k9,HS:=M a9,
   Im:=f10,Iy:=_,Jk:=bc (st:=fQ) l10 c10 k10,Ki:=M a10,
   Ds:=f11,Du:=_,DK:=bc (st:=cP) l11 c11 k11,GG:=M a11,
   FM:=f12,FQ:=_,GJ:=bc (st:=eH) l12 c12 k12,Jr:=M a12,
   Il:=f13,Iw:=_,Jj:=bc (st:=hV) l13 c13 k13,Kh:=M a13,
   Dj:=f14,Dk:=_,Ew:=bc (st:=cq) l14 c14 k14,Gv:=M a14,
   EX:=f15,EY:=_,E3:=bc (st:=gn) l15 c15 k15,FZ:=M a15,
   FL:=f16,FP:=_,GI:=bc (st:=cY) l16 c16 k16,Jq:=M a16,
   Gh:=f17,Gq:=_,Hi:=bc (st:=dM) l17 c17 k17,JG:=M a17,
   Gg:=f18,Gp:=_,Hh:=bc (st:=eU) l18 c18 k18,JF:=M a18,
   Ik:=f19,Iv:=_,Ji:=bc (st:=hU) l19 c19 k19,Kg:=M a19,
   D2:=f20,D5:=_,E1:=bc (st:=cj) l20 c20 k20,HR:=M a20,
   HC:=f21,HI:=_,IR:=bc (st:=gk) l21 c21 k21,J9:=M a21,
   FB:=f22,FC:=_,Gs:=bc (st:=eV) l22 c22 k22,IS:=M a22,
   FR:=f23,FS:=_,Hb:=bc (st:=eP) l23 c23 k23,IX:=M a23,
   Hm:=f24,Hq:=_,Hs:=bc (st:=hZ) l24 c24 k24,Jo:=M a24,
   HB:=f25,HH:=_,IQ:=bc (st:=gj) l25 c25 k25,J8:=M a25,
   JY:=f26,J3:=_,Kp:=bc (st:=ow) l26 c26 k26,KR:=M a26,
   FK:=f27,FO:=_,GH:=bc (st:=eG) l27 c27 k27,Jp:=M a27,
   Dr:=f28,Dt:=_,DJ:=bc (st:=cO) l28 c28 k28,FG:=M a28,
   Jy:=f29,JD:=_,JV:=bc (st:=jk) l29 c29 k29,KJ:=M a29,
   Hn:=f30,Hr:=_,GC:=bc (st:=fS) l30 c30 k30,IF:=M a30,
   HA:=f31,HG:=_,IP:=bc (st:=fm) l31 c31 k31,J7:=M a31,
   Ij:=f32,Iu:=_,Jh:=bc (st:=d7) l32 c32 k32,Kf:=M a32,
   GM:=f33,GP:=_,HZ:=bc (st:=fC) l33 c33 k33,JP:=M a33,
   Fh:=f34,Fo:=_,F0:=bc (st:=fD) l34 c34 k34,Ib:=M a34,
   Fg:=f35,Fm:=_,Gr:=bc (st:=dJ) l35 c35 k35,Je:=M a35,
   E4:=f36,E5:=_,FT:=bc (st:=dj) l36 c36 k36,IW:=M a36,
   Gf:=f37,Gn:=_,Hg:=bc (st:=eT) l37 c37 k37,JE:=M a37,
   Hz:=f38,HF:=_,EZ:=bc (st:=gi) l38 c38 k38,FY:=M a38,
   Kw:=fa,KI:=_,K3:=bc (st:=p7) l39 c39 k39,K5:=M a39,
   C0:=Dd,Ht:=M Ht,
   D1:=ii_Machine___init__,D4:=PySem.W.fnOf "__init__" "Machine.__init__" (bG br) (bz br) (aw br) .none ikV_Machine___init__ idc_Machine___init__ ipm_Machine___init__ ian_Machine___init__ icd_Machine___init__ ict_Machine___init__,FW:=bc (st:=br) il_Machine___init__ ic_Machine___init__ ik_Machine___init__,
   mk_Machine:=⟨im_Machine,if_Machine___init__,ij_Machine___init__,io_Machine⟩,
   EF:=ii_Machine_take,EJ:=PySem.W.fnOf "take" "Machine.take" (bG bN) (bz bN) (aw bN) .none ikV_Machine_take idc_Machine_take ipm_Machine_take ian_Machine_take icd_Machine_take ict_Machine_take,HN:=bc (st:=bN) il_Machine_take ic_Machine_take ik_Machine_take,
   mt_Machine_take:=⟨if_Machine_take,ij_Machine_take,ik_Machine_take⟩,
   Fe:=ii_Machine_push,Fj:=PySem.W.fnOf "push" "Machine.push" (bG bL) (bz bL) (aw bL) .none ikV_Machine_push idc_Machine_push ipm_Machine_push ian_Machine_push icd_Machine_push ict_Machine_push,HK:=bc (st:=bL) il_Machine_push ic_Machine_push ik_Machine_push,
   mt_Machine_push:=⟨if_Machine_push,ij_Machine_push,ik_Machine_push⟩,
   FJ:=ii_Machine_way,FN:=PySem.W.fnOf "way" "Machine.way" (bG bS) (bz bS) (aw bS) .none ikV_Machine_way idc_Machine_way ipm_Machine_way ian_Machine_way icd_Machine_way ict_Machine_way,Ih:=bc (st:=bS) il_Machine_way ic_Machine_way ik_Machine_way,
   mt_Machine_way:=⟨if_Machine_way,ij_Machine_way,ik_Machine_way⟩,
   EE:=ii_Machine_finish,EI:=PySem.W.fnOf "finish" "Machine.finish" (bG bB) (bz bB) (aw bB) .none ikV_Machine_finish idc_Machine_finish ipm_Machine_finish ian_Machine_finish icd_Machine_finish ict_Machine_finish,GB:=bc (st:=bB) il_Machine_finish ic_Machine_finish ik_Machine_finish,
   mt_Machine_finish:=⟨if_Machine_finish,ij_Machine_finish,ik_Machine_finish⟩,
   ED:=ii_Machine_change,EH:=PySem.W.fnOf "change" "Machine.change" (bG bA) (bz bA) (aw bA) .none ikV_Machine_change idc_Machine_change ipm_Machine_change ian_Machine_change icd_Machine_change ict_Machine_change,GA:=bc (st:=bA) il_Machine_change ic_Machine_change ik_Machine_change,
   mt_Machine_change:=⟨if_Machine_change,ij_Machine_change,ik_Machine_change⟩,
   Ff:=ii_Machine_step,Fl:=PySem.W.fnOf "step" "Machine.step" (bG bM) (bz bM) (aw bM) .none ikV_Machine_step idc_Machine_step ipm_Machine_step ian_Machine_step icd_Machine_step ict_Machine_step,HL:=bc (st:=bM) il_Machine_step ic_Machine_step ik_Machine_step,
   mt_Machine_step:=⟨if_Machine_step,ij_Machine_step,ik_Machine_step⟩,
   cl_Machine:=cl_Machine,
   na_cells:=na_cells,
   na_given:=na_given,
   na_size:=na_size,
   na_pile:=na_pile,
   na_place:=na_place,
   na_kept:=na_kept,
   na_ended:=na_ended,
   Gx:=Gx,FD:=M FD,
   GW:=GW,F3:=M F3,
   Fw:=Fw,EL:=M EL,
   GV:=GV,Fu:=M Fu,
   DH:=DH,Do:=M Do,
   HW:=HW,GD:=M GD,
   Ea:=Ea,Dv:=M Dv,
   GZ:=GZ,GT:=M GT,
   GY:=GY,F5:=M F5,
   GX:=GX,F4:=M F4,
   GU:=GU,Fs:=M Fs,
   Ex:=Ex,DA:=M DA,
   E7:=E7,DG:=M DG,
   Fd:=HE,D7:=M D7,D9:=λh x=>PySem.W.kt_text_in x D9,
   Dz:=Gm,De:=M De,Df:=λh x=>PySem.W.kt_text_in x Df,
   D0:=EG,Dy:=M Dy,D8:=λh x=>PySem.W.kt_text_in x D8,
   FH:=Ig,EB:=M EB,EC:=λh x=>PySem.W.kt_text_in x EC,
   HY:=IZ,F6:=M F6,F7:=λh x=>PySem.W.kt_text_in x F7,
   DZ:=HD,Dl:=M Dl,C8:=HX,
   IL:=Ju,GF:=M GF,JZ:=Jw,
   Kn:=KC,JN:=M JN,KQ:=KD,
   He:=IM,FF:=M FF,JA:=IT,
   IJ:=Ko,Hj:=M Hj,Jz:=Kq,
   Jd:=⟨⟨_,HU⟩,λh x=>⟨_,PySem.W.kt_tab_in l.prog w x HJ (by decide +kernel) HV,rfl⟩⟩,
   Ge:=Gk,FE:=M FE,
   C3:=C9,HP:=M HP,
   C4:=Da,HQ:=M HQ,
   Gb:=Ja,IC:=M IC,
   Gc:=Jb,ID:=M ID,
   FA:=Ir,Hw:=M Hw,
   IK:=J0,JM:=M JM,
   CZ:=C6,GE:=M GE,
   Hd:=JB,Jm:=M Jm,
   Fy:=Ip,Hu:=M Hu,
   Fz:=Iq,Hv:=M Hv,
   Gd:=Jc,IE:=M IE,
   Hf:=JC,Jn:=M Jn,
   C1:=Gj,Eb:=M Eb,
   Ga:=IY,IB:=M IB,
   Gu:=ii_Fault,Fq:=PySem.W.fnOf "__init__" "Fault.__init__" (bG bR) (bz bR) (aw bR) .none ikV_Fault idc_Fault ipm_Fault ian_Fault icd_Fault ict_Fault,J4:=bc (st:=bR) il_Fault ic_Fault ik_Fault,Gi:=ix_Fault,Ky:=is_Fault,
   JI:=JI,
   IG:=IG,Dh:=Dh,
   IH:=IH,Di:=Di,
   Hx:=Hx,C7:=C7,
   Dm:=Dm,
   Dn:=Dn,
   Dc:=Dc,
   DI:=DI,
   El:=El,
   Em:=Em,
   Ei:=Ei,
   Ej:=Ej,
   DU:=DU,
   E8:=E8,
   DT:=DT,
   EO:=EO,
   DR:=DR,
   DS:=DS,
   Ek:=Ek,
   ER:=ER,
   EN:=EN,
   Eh:=Eh,
   Et:=Et,
   Eu:=Eu,
   Ep:=Ep,
   Er:=Er,
   DY:=DY,
   E9:=E9,
   DX:=DX,
   ET:=ET,
   DV:=DV,
   DW:=DW,
   Es:=Es,
   EU:=EU,
   ES:=ES,
   Eo:=Eo,
   DP:=DP,
   DQ:=DQ,
   DM:=DM,
   DN:=DN,
   DE:=DE,
   EM:=EM,
   DD:=DD,
   Ef:=Ef,
   DB:=DB,
   DC:=DC,
   DO:=DO,
   Eg:=Eg,
   Ee:=Ee,
   DL:=DL,
   Dp:=Dp,
   Dq:=Dq,
   Dg:=Dg,
   EV:=N K0,
   C2:=N IV,
   KU:=N KZ,
   KS:=N KG,
   KW:=N K1,
   Hk:=N Ks,
   Jv:=N KH,
   Ie:=N Kr,
   Kx:=N KY,
   Ka:=N Jx,
   JH:=N IU }
 exact ⟨_,λs v=>.of_eq rfl,λbase _ _=>chain T⟩
theorem walk {q:Program} {loose:List Str} {XP:(Str->Option Value)->Heap->Prop} {YP:World->Heap->Prop} {d:DefRec} {K:Params->PySem.W.Frag} (hn:l.most=some 63) (hdf:d.params.defaults=[])
  (hY:∀ (w:World) (h:Heap),YP w h->(K w.params).In h)
  (F:∀ (w:World) (mg:Str->Option Value) (fa:Addr) (h:Heap),(K w.params).In h->h.Ns mainGlobals mg->mg d.name=some (.ref fa) ->
   ∃ fd:FuncData,(∀ (s:Shared) (u:Value),BindsTo s fd ⟨[u],[]⟩ [("_law_script",u)])/\∀ base:Heap,(K w.params).In base->base.Ns mainGlobals mg->FnOk l.prog w (K w.params) mg base CX0 20 fa fd ["_law_script"] (qa (K w.params))) :
  PySem.W.WalkO q loose XP YP l.row.toRowW d [] (λf vs=>PySem.call f vs) :=
 L2.walk_of (n:=63) (k:=20) (x:="_law_script") (CX:=λ_=>CX0) (sp:=λw=>qa (K w.params)) hn (by decide) hdf ⟨rfl,by decide,by decide⟩ hY F (λ_ _ a ns hl hO hS=>⟨a,ns,rfl,BG hO hS,λ_=>rfl⟩) λ_ _ _ _ _ z=>z
end My
open PySem PySem.W PyProof.Rows
set_option maxRecDepth 100000 in
set_option maxHeartbeats 0 in
theorem PySem.Challenge.cw_piecelay_k12_pieces_refused_holds : PySem.Challenge.rw_piecelay_k12_pieces_refused.Holds := by
 w_on;o_law
 refine holds_open (q:=My.view) (loose:=My.loose) (Xt:=My.xt) (XP:=XL My.view []) (Yf:=Hook.obs (kHook My.k0.heap_1 My.kas My.kas_ok)) (Ya:=Hook.val (kHook My.k0.heap_1 My.kas My.kas_ok)) (YP:=Hook.says (kHook My.k0.heap_1 My.kas My.kas_ok)) (N:=My.NN) My.left (Hook.of (kHook My.k0.heap_1 My.kas My.kas_ok)) (Hook.keeps (kHook My.k0.heap_1 My.kas My.kas_ok)) (λs e=>xl_of s (Bool.and_eq_true_iff.mp e).1) XL.keeps (by rfl) (by rfl) (by rfl) (λs e=>recFacts_of (Bool.and_eq_true_iff.mp e).2) (by rfl) (by first | assumption | decide +kernel) (by decide +kernel) ⟨rfl,rfl,rfl,rfl,rfl,by decide +kernel⟩ ?hw ?hc
 case hw=>w_witness2
 k_fill
 refine My.walk (l:=PySem.Challenge.rw_piecelay_k12_pieces_refused) rfl rfl (λw h Y=>PySem.W.kIn_of Y) ?F
 case F =>
  intro w mg fa h KX G hmg
  refine' My.all_mk KX G hmg ?a1 ?l1 ?c1 ?k1 ?a2 ?l2 ?c2 ?k2 ?a3 ?l3 ?c3 ?k3 ?a4 ?l4 ?c4 ?k4 ?a5 ?l5 ?c5 ?k5 ?a6 ?l6 ?c6 ?k6 ?a7 ?l7 ?c7 ?k7 ?a8 ?l8 ?c8 ?k8 ?a9 ?l9 ?c9 ?k9 ?a10 ?l10 ?c10 ?k10 ?a11 ?l11 ?c11 ?k11 ?a12 ?l12 ?c12 ?k12 ?a13 ?l13 ?c13 ?k13 ?a14 ?l14 ?c14 ?k14 ?a15 ?l15 ?c15 ?k15 ?a16 ?l16 ?c16 ?k16 ?a17 ?l17 ?c17 ?k17 ?a18 ?l18 ?c18 ?k18 ?a19 ?l19 ?c19 ?k19 ?a20 ?l20 ?c20 ?k20 ?a21 ?l21 ?c21 ?k21 ?a22 ?l22 ?c22 ?k22 ?a23 ?l23 ?c23 ?k23 ?a24 ?l24 ?c24 ?k24 ?a25 ?l25 ?c25 ?k25 ?a26 ?l26 ?c26 ?k26 ?a27 ?l27 ?c27 ?k27 ?a28 ?l28 ?c28 ?k28 ?a29 ?l29 ?c29 ?k29 ?a30 ?l30 ?c30 ?k30 ?a31 ?l31 ?c31 ?k31 ?a32 ?l32 ?c32 ?k32 ?a33 ?l33 ?c33 ?k33 ?a34 ?l34 ?c34 ?k34 ?a35 ?l35 ?c35 ?k35 ?a36 ?l36 ?c36 ?k36 ?a37 ?l37 ?c37 ?k37 ?a38 ?l38 ?c38 ?k38 ?a39 ?l39 ?c39 ?k39 ?e7 ?Ht ?if_Machine___init__ ?il_Machine___init__ ?ic_Machine___init__ ?ik_Machine___init__ ?ij_Machine___init__ ?im_Machine ?io_Machine ?if_Machine_take ?il_Machine_take ?ic_Machine_take ?ik_Machine_take ?ij_Machine_take ?if_Machine_push ?il_Machine_push ?ic_Machine_push ?ik_Machine_push ?ij_Machine_push ?if_Machine_way ?il_Machine_way ?ic_Machine_way ?ik_Machine_way ?ij_Machine_way ?if_Machine_finish ?il_Machine_finish ?ic_Machine_finish ?ik_Machine_finish ?ij_Machine_finish ?if_Machine_change ?il_Machine_change ?ic_Machine_change ?ik_Machine_change ?ij_Machine_change ?if_Machine_step ?il_Machine_step ?ic_Machine_step ?ik_Machine_step ?ij_Machine_step ?cl_Machine ?na_cells ?na_given ?na_size ?na_pile ?na_place ?na_kept ?na_ended ?FD ?F3 ?EL ?Fu ?Do ?GD ?Dv ?GT ?F5 ?F4 ?Fs ?DA ?DG ?D7 ?D9 ?De ?Df ?Dy ?D8 ?EB ?EC ?F6 ?F7 ?Dl ?HX ?GF ?Jw ?JN ?KD ?FF ?IT ?Hj ?Kq ?HU ?HJ ?HV ?FE ?HP ?HQ ?IC ?ID ?Hw ?JM ?GE ?Jm ?Hu ?Hv ?IE ?Jn ?Eb ?IB ?if_Fault ?il_Fault ?ic_Fault ?ik_Fault ?ix_Fault ?is_Fault ?JI ?IG ?Dh ?IH ?Di ?Hx ?C7 ?Dm ?Dn ?Dc ?DI ?El ?Em ?Ei ?Ej ?DU ?E8 ?DT ?EO ?DR ?DS ?Ek ?ER ?EN ?Eh ?Et ?Eu ?Ep ?Er ?DY ?E9 ?DX ?ET ?DV ?DW ?Es ?EU ?ES ?Eo ?DP ?DQ ?DM ?DN ?DE ?EM ?DD ?Ef ?DB ?DC ?DO ?Eg ?Ee ?DL ?Dp ?Dq ?Dg ?K0 ?IV ?KZ ?KG ?K1 ?Ks ?KH ?Kr ?KY ?Jx ?IU
  case a1 | a2 | a3 | a4 | a5 | a6 | a7 | a8 | a9 | a10 | a11 | a12 | a13 | a14 | a15 | a16 | a17 | a18 | a19 | a20 | a21 | a22 | a23 | a24 | a25 | a26 | a27 | a28 | a29 | a30 | a31 | a32 | a33 | a34 | a35 | a36 | a37 | a38 | a39=>change _=_;k_is
  case l1 | l2 | l3 | l4 | l5 | l6 | l7 | l8 | l9 | l10 | l11 | l12 | l13 | l14 | l15 | l16 | l17 | l18 | l19 | l20 | l21 | l22 | l23 | l24 | l25 | l26 | l27 | l28 | l29 | l30 | l31 | l32 | l33 | l34 | l35 | l36 | l37 | l38 | l39=>change _=_;k_is
  case c1 | c2 | c3 | c4 | c5 | c6 | c7 | c8 | c9 | c10 | c11 | c12 | c13 | c14 | c15 | c16 | c17 | c18 | c19 | c20 | c21 | c22 | c23 | c24 | c25 | c26 | c27 | c28 | c29 | c30 | c31 | c32 | c33 | c34 | c35 | c36 | c37 | c38 | c39 | k1 | k2 | k3 | k4 | k5 | k6 | k7 | k8 | k9 | k10 | k11 | k12 | k13 | k14 | k15 | k16 | k17 | k18 | k19 | k20 | k21 | k22 | k23 | k24 | k25 | k26 | k27 | k28 | k29 | k30 | k31 | k32 | k33 | k34 | k35 | k36 | k37 | k38 | k39=>k_is
  case e7 | Ht | if_Machine___init__ | il_Machine___init__ | ic_Machine___init__ | ik_Machine___init__ | if_Machine_take | il_Machine_take | ic_Machine_take | ik_Machine_take | if_Machine_push | il_Machine_push | ic_Machine_push | ik_Machine_push | if_Machine_way | il_Machine_way | ic_Machine_way | ik_Machine_way | if_Machine_finish | il_Machine_finish | ic_Machine_finish | ik_Machine_finish | if_Machine_change | il_Machine_change | ic_Machine_change | ik_Machine_change | if_Machine_step | il_Machine_step | ic_Machine_step | ik_Machine_step | FD | F3 | EL | Fu | Do | GD | Dv | GT | F5 | F4 | Fs | DA | DG | D7 | De | Dy | EB | F6 | Dl | GF | JN | FF | Hj | HU | FE | HP | HQ | IC | ID | Hw | JM | GE | Jm | Hu | Hv | IE | Jn | Eb | IB | if_Fault | il_Fault | ic_Fault | ik_Fault | K0 | IV | KZ | KG | K1 | Ks | KH | Kr | KY | Jx | IU=>k_is
  case ij_Machine___init__ | im_Machine | io_Machine | ij_Machine_take | ij_Machine_push | ij_Machine_way | ij_Machine_finish | ij_Machine_change | ij_Machine_step | na_cells | na_given | na_size | na_pile | na_place | na_kept | na_ended | HV | IG | IH | Hx | Dm | Dn | Dc | DI | El | Em | Ei | Ej | DU | E8 | DT | EO | DR | DS | Ek | ER | EN | Eh | Et | Eu | Ep | Er | DY | E9 | DX | ET | DV | DW | Es | EU | ES | Eo | DP | DQ | DM | DN | DE | EM | DD | Ef | DB | DC | DO | Eg | Ee | DL | Dp | Dq | Dg=>first | rfl | kernel_rfl | decide +kernel
  case cl_Machine | ix_Fault=>refine ⟨?_,?_,?_,?_⟩ <;> (first | rfl | kernel_rfl | decide +kernel)
  case D9 | Df | D8 | EC | F7 | HX | Jw | KD | IT | Kq | HJ=>first | rfl | decide +kernel
  case is_Fault=>refine ⟨?_,?_,?_,?_,?_⟩ <;> (first | rfl | kernel_rfl | decide +kernel)
  case JI | Dh | Di | C7=>refine ⟨?_,?_,?_,?_,?_,?_,?_,?_⟩ <;> (first | rfl | kernel_rfl | decide +kernel)
